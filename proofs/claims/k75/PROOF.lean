import PyProof.Rows.All
import Wide.All
import OpenK.AllK
import Wide.FinOn
import Lean
import PyProof.EqAt
import PyProof.EqKinds
import PyProof.TupleCall
import PyProof.NeKinds
import PySem.Challenge.RW_oncewise_k75_too_many
import OpenK.ZGo
set_option Elab.async false
set_option linter.all false
set_option maxRecDepth 100000
namespace L2
open PySem PyProof.Rows
theorem ae5 {M:Model} {Γ:Ctx} {p:Pos} {t:Sem Fin} {fs:List Frame} {s s':Shared} {e:End} (h:Runs M Γ p t fs s e s'):s.toks≤s'.toks:=by
  induction h with
  | fresh _ ih=>exact Nat.le_trans (Nat.le_succ _) ih
  | call _ _ ih1 ih2=>exact Nat.le_trans ih1 ih2
  | resumeFresh _ _ _ _ ih1 ih2=>exact Nat.le_trans ih1 ih2
  | resumeSuspended _ _ _ _ ih1 ih2=>exact Nat.le_trans ih1 ih2
  | segRet _ _ ih1 ih2=>exact Nat.le_trans ih1 ih2
  | segGen _ _ ih1 ih2=>exact Nat.le_trans ih1 ih2
  | segSuspGen _ _ _ _ ih1 ih2=>exact Nat.le_trans ih1 ih2
  | _=>first | exact Nat.le_refl _ | assumption
theorem anu {M:Model} {Γ:Ctx} {p:Pos} {g:Nat} {r:Resume} {s s':Shared} {res:GenResult} (h:Wakes M Γ p g r s res s'):s.toks≤s'.toks:=by
  unfold Wakes at h
  split at h
  · exact h.elim
  · split at h
    · obtain ⟨e,s1,hr,_,_,rfl⟩:=h;have q:=ae5 hr;exact q
    · obtain ⟨_,rfl⟩:=h;exact Nat.le_refl _
    · obtain ⟨_,rfl⟩:=h;exact Nat.le_refl _
  · obtain ⟨e,s1,hr,_,_,rfl⟩:=h;have q:=ae5 hr;exact q
  · obtain ⟨_,rfl⟩:=h;exact Nat.le_refl _
  · obtain ⟨_,rfl⟩:=h;exact Nat.le_refl _
theorem awu {α:Type} {M:Model} {Γ:Ctx} (t:Sem α):∀ {Q:α→Pos→Shared→Prop} {E:Value→Pos→Shared→Prop} {p:Pos} {s:Shared} (n:Nat),n≤s.toks→Sem.wp M Γ t Q E p s→Sem.wp M Γ t (fun a p' s'=>Q a p' s'∧n≤s'.toks) (fun e p' s'=>E e p' s'∧n≤s'.toks) p s:=by
  induction t with
  | pure a=>intro Q E p s n hn h;exact ⟨h,hn⟩
  | raise e=>intro Q E p s n hn h;exact ⟨h,hn⟩
  | load a part k ih=>intro Q E p s n hn ⟨o,h1,h2⟩;exact ⟨o,h1,ih o n hn h2⟩
  | update a part f k ih=>intro Q E p s n hn ⟨h1,h2⟩;exact ⟨h1,ih () n hn h2⟩
  | fresh k ih=>intro Q E p s n hn h;exact ih s.toks n (Nat.le_trans hn (Nat.le_succ _)) h
  | choose src m k ih=>intro Q E p s n hn ⟨h1,h2⟩;exact ⟨h1,ih _ n hn h2⟩
  | call c hd g l k ih=>intro Q E p s n hn ⟨r,s',h1,h2⟩;exact ⟨r,s',h1,ih r n (Nat.le_trans hn (ae5 h1)) h2⟩
  | genState g k ih=>intro Q E p s n hn ⟨st,h1,h2⟩;exact ⟨st,h1,ih _ n hn h2⟩
  | resume g r l k ih=>intro Q E p s n hn ⟨res,s',h1,h2⟩;exact ⟨res,s',h1,ih _ n (Nat.le_trans hn (anu h1)) h2⟩
  | rule tag k ih=>intro Q E p s n hn h;exact ih () n hn h
  | «at» pos k ih=>intro Q E p s n hn h;exact ih () n hn h
  | alloc o k ih=>intro Q E p s n hn h;exact ih _ n hn h
  | loadIfAlive a k ih=>intro Q E p s n hn h;exact ih _ n hn h
  | point l k ih=>intro Q E p s n hn h;exact ih _ n hn h
  | ask k ih=>intro Q E p s n hn h;exact ih _ n hn h
  | os q l k ih=>intro Q E p s n hn h;exact ih _ n hn h
  | handled own k ih=>intro Q E p s n hn h;exact ih _ n hn h
  | newGen c k ih=>intro Q E p s n hn h;exact ih _ n hn h
  | stack k ih=>intro Q E p s n hn h;exact ih _ n hn h
  | thread k ih=>intro Q E p s n hn h;exact ih _ n hn h
  | unsupported w=>intro Q E p s n hn h;exact h.elim
  | finish e=>intro Q E p s n hn h;exact h.elim
  | register a k ih=>intro Q E p s n hn h;exact h.elim
  | yield v g l k ih=>intro Q E p s n hn h;exact h.elim
  | fork c k ih=>intro Q E p s n hn h;exact h.elim
  | await a f d l k ih=>intro Q E p s n hn h;exact h.elim
theorem aoc {α:Type} {M:Model} {A:Around} {t:Sem α} {Q:α→Shared→Prop} {E:Value→Shared→Prop} {s:Shared} (h:wpAny M A t Q E s):wpAny M A t (fun a s'=>Q a s'∧s.toks≤s'.toks) (fun e s'=>E e s'∧s.toks≤s'.toks) s:=
  fun Γ p hΓ=>awu t s.toks (Nat.le_refl _) (h Γ p hΓ)
theorem j9 {α:Type} {M:Model} {A:Around} {t:Sem α} {Q:α→Shared→Prop} {E:Value→Shared→Prop} {s:Shared} (hp:0<s.toks) (h:wpAny M A t (fun a s'=>0<s'.toks→Q a s') (fun e s'=>0<s'.toks→E e s') s):wpAny M A t Q E s:=
  wpAny_mono (aoc h) (fun _ _ z=>z.1 (Nat.lt_of_lt_of_le hp z.2)) fun _ _ z=>z.1 (Nat.lt_of_lt_of_le hp z.2)
end L2
namespace L2
open PySem PySem.Spec PyProof.Rows
abbrev Key:=Sum Int Str
def agi:Key→Value→Bool
  | .inl k,v=>Value.isInt k v
  | .inr x,v=>Value.isStrOf x v
def a3z (w:World):Key→Int
  | .inl k=>hashInt k
  | .inr x=>hashStr w x
theorem jb:∀ {k:Key} {v:Value},agi k v=true→(∃ i t,k=Sum.inl i∧v=Value.int i t)∨(∃ x t,k=Sum.inr x∧v=Value.str x t)
  | .inl i,v,h=>by
    obtain ⟨t,e⟩:=Value.isInt_shape (k:=i) (v:=v) h
    exact .inl ⟨i,t,rfl,e⟩
  | .inr x,v,h=>by
    obtain ⟨t,e⟩:=Value.isStrOf_shape (x:=x) (v:=v) h
    exact .inr ⟨x,t,rfl,e⟩
theorem aph (i:Int) (t:Tok):agi (.inl i) (.int i t)=true:=by simp [agi,Value.isInt]
theorem aeu (x:Str) (t:Tok):agi (.inr x) (.str x t)=true:=by simp [agi,Value.isStrOf]
theorem a1c (a b:Int):decide ((Sum.inl a:Key)=Sum.inl b)=(a==b):=by
  by_cases e:a=b
  · subst e;simp
  · have h:¬ (Sum.inl a:Key)=Sum.inl b:=fun q=>e (Sum.inl.inj q)
    rw [decide_eq_false h]
    exact (beq_eq_false_iff_ne.mpr e).symm
theorem a08 (a b:Str):decide ((Sum.inr a:Key)=Sum.inr b)=decide (a=b):=by
  by_cases e:a=b
  · subst e;simp
  · have h:¬ (Sum.inr a:Key)=Sum.inr b:=fun q=>e (Sum.inr.inj q)
    rw [decide_eq_false h,decide_eq_false e]
theorem a0n (a:Int) (b:Str):decide ((Sum.inl a:Key)=Sum.inr b)=false:=decide_eq_false (fun q=>nomatch q)
theorem a0o (a:Str) (b:Int):decide ((Sum.inr a:Key)=Sum.inl b)=false:=decide_eq_false (fun q=>nomatch q)
def jc (prog:Program) (w:World):PySem.KeyKind prog w Key where
  is:=agi
  hash:=a3z w
  inj:=fun v a b ha hb=>by
    rcases jb ha with ⟨i,t,rfl,rfl⟩ | ⟨x,t,rfl,rfl⟩
    · rcases jb hb with ⟨j,u,rfl,e⟩ | ⟨y,u,rfl,e⟩
      · injection e with e1 _;rw [e1]
      · exact nomatch e
    · rcases jb hb with ⟨j,u,rfl,e⟩ | ⟨y,u,rfl,e⟩
      · exact nomatch e
      · injection e with e1 _;rw [e1]
  byValue:=fun k v h=>by
    rcases jb h with ⟨i,t,rfl,rfl⟩ | ⟨x,t,rfl,rfl⟩<;>rfl
  pyHash:=fun hv h=>by
    rcases jb hv with ⟨i,t,rfl,rfl⟩ | ⟨x,t,rfl,rfl⟩
    · exact wpAny_pyHash_int h
    · exact wpAny_pyHash_str h
  eqBool:=fun hu hv h=>by
    rcases jb hu with ⟨i,t,rfl,rfl⟩ | ⟨x,t,rfl,rfl⟩
    · rcases jb hv with ⟨j,u,rfl,rfl⟩ | ⟨y,u,rfl,rfl⟩
      · rw [a1c] at h;exact wpAny_eqBool_int h
      · rw [a0n] at h;exact SeqAt.EqAt.int_str i t y u _ _ _ _ h
    · rcases jb hv with ⟨j,u,rfl,rfl⟩ | ⟨y,u,rfl,rfl⟩
      · rw [a0o] at h;exact SeqAt.EqAt.str_int x t j u _ _ _ _ h
      · rw [a08] at h;exact wpAny_eqBool_str h
  «strs» := fun k x t v h=>by
    rcases jb h with ⟨i,u,rfl,e⟩ | ⟨y,u,rfl,e⟩
    · exact nomatch e
    · injection e with e1 _
      subst e1
      cases v<;>rfl
theorem amk (prog:Program) (w:World) (i:Int) (t:Tok):(jc prog w).is (.inl i) (.int i t)=true:=aph i t
theorem amg (prog:Program) (w:World) (x:Str) (t:Tok):(jc prog w).is (.inr x) (.str x t)=true:=aeu x t
end L2
namespace L2
open PySem PySem.Spec PyProof.Rows
inductive V where
  | non | bl (b:Bool) | int (i:Int) | str (x:Str) | byt (b:Array UInt8) | flt (b:UInt64) | ref (a:Addr) | ty (n:String)
  deriving DecidableEq
def RelV:V→Value→Prop
  | .non,u=>u=Value.none
  | .bl b,u=>u=Value.bool b
  | .int i,u=>∃ t,u=Value.int i t
  | .str x,u=>∃ t,u=Value.str x t
  | .byt b,u=>∃ t,u=Value.bytes b t
  | .flt b,u=>∃ t,u=Value.float b t
  | .ref a,u=>u=Value.ref a
  | .ty n,u=>u=Value.type n
abbrev Vals:List V→List Value→Prop:=Paired RelV
theorem Vals.length {xs:List V} {us:List Value} (r:Vals xs us):xs.length=us.length:=Paired.length r
theorem Vals.get:∀ {xs:List V} {us:List Value} {i:Nat} {x:V},Vals xs us→xs[i]?=some x→∃ u,us[i]?=some u∧RelV x u
  | _,_,_,_,.nil,e=>by simp at e
  | _,_,0,_,.cons r _,e=>by simp at e;subst e;exact ⟨_,rfl,r⟩
  | _,_,i+1,x,.cons _ t,e=>by
    obtain ⟨u,h1,h2⟩:=Vals.get (i:=i) (x:=x) t (by simpa using e)
    exact ⟨u,by simpa using h1,h2⟩
theorem Vals.set {x:V} {u:Value} (r:RelV x u):∀ {xs:List V} {us:List Value} (i:Nat),Vals xs us→Vals (xs.set i x) (us.set i u)
  | _,_,_,.nil=>.nil
  | _,_,0,.cons _ t=>.cons r t
  | _,_,i+1,.cons q t=>.cons q (Vals.set r i t)
theorem Vals.append:∀ {xs ys:List V} {us ws:List Value},Vals xs us→Vals ys ws→Vals (xs++ys) (us++ws)
  | _,_,_,_,.nil,s=>s
  | _,_,_,_,.cons r t,s=>.cons r (Vals.append t s)
theorem Vals.take:∀ {xs:List V} {us:List Value} (n:Nat),Vals xs us→Vals (xs.take n) (us.take n)
  | _,_,0,_=>.nil
  | _,_,_+1,.nil=>.nil
  | _,_,n+1,.cons r t=>.cons r (Vals.take n t)
theorem Vals.drop:∀ {xs:List V} {us:List Value} (n:Nat),Vals xs us→Vals (xs.drop n) (us.drop n)
  | _,_,0,r=>r
  | _,_,_+1,.nil=>.nil
  | _,_,n+1,.cons _ t=>Vals.drop n t
def RelO:Option V→Option Value→Prop
  | some v,some u=>RelV v u
  | none,none=>True
  | _,_=>False
def KV {κ:Type}:List (κ×V)→List (κ×Value)→Prop:=Paired fun (p:κ×V) (q:κ×Value)=>p.1=q.1∧RelV p.2 q.2
def kV:Key→V
  | .inl i=>.int i
  | .inr x=>.str x
inductive HO where
  | lst (xs:List V)
  | tup (xs:List V)
  | dK (kvs:List (Key×V)) | dT (kvs:List (List Key×V))
  | set (S:Int→Bool) (n:Nat)
  | ins (C dx:Addr) (fs:List (Str×V))
  | own (x:Addr)
  | xd (fs:List (Str×V))
  | met (f x:Addr)
  | rng (lo hi:Int)
  | frz (o:Obj) (u:HO)
  | tbl (ps:Array Value)
  | ext (φ:Heap→Prop)
abbrev Hp:=Addr→Option HO
def upd (H:Hp) (a:Addr) (o:HO):Hp:=fun b=>if b=a then some o else H b
theorem zr {H:Hp} {a:Addr} {o:HO}:upd H a o a=some o:=by unfold upd;rw [if_pos rfl]
theorem qm {H:Hp} {a b:Addr} {o:HO} (h:b≠a):upd H a o b=H b:=by unfold upd;rw [if_neg h]
theorem a1l {H:Hp} {a b:Addr} {o u:HO} (h:H a=some o) (h':H b=some u) (d:o≠u):a≠b:=by
  intro e;subst e;rw [h] at h';exact d (Option.some.inj h')
theorem ze {H:Hp} {a b:Addr} {o:HO} (h:H a=some o) (h':H b=none):a≠b:=by
  intro e;subst e;rw [h] at h';cases h'
section
variable (P:Program) (w:World)
def ObjOk (H:Hp) (h:Heap) (a:Addr):HO→Prop
  | .lst xs=>xs.length≤sizeLine∧∃ (its:List Value) (n:Nat),Vals xs its∧h.get? a=some { cls:=.type "list",data:=.seq its.toArray n }
  | .tup xs=>xs.length≤sizeLine∧∃ its:List Value,Vals xs its∧IsTup h a its.toArray
  | .dK kvs=>kvs.length≤sizeLine∧(a==sysModules)=false∧∃ vs,KV kvs vs∧h.DictOf (jc P w) a vs
  | .dT kvs=>kvs.length≤sizeLine∧(a==sysModules)=false∧∃ xs:List (List Key×Addr×Value),
      Paired (fun (p:List Key×V) (q:List Key×Addr×Value)=>p.1=q.1∧H q.2.1=some (.tup (p.1.map kV))∧RelV p.2 q.2.2) kvs xs∧
      ∃ o es ep,h.get? a=some o∧o.ExactDict∧o.data=.dict es ep∧es.toList=xs.map (entryOfKey (tupleKind (jc P w)))∧(xs.map (·.1)).Nodup
  | .set S n=>h.SetOf (intKind P w) a S n
  | .ins C dx fs=>H dx=some (.own a)∧fs.length≤1000∧dx≠a∧h.get? a=some (PySem.W.instObj C dx)∧
      ∃ mA,h.Ns1 dx mA∧(∀ f,RelO (fs.lookup f) (mA f))∧PySem.Within mA (fs.map (·.1))
  | .own _=>∃ o,h.get? a=some o
  | .xd fs=>∃ mA,h.Ns1 a mA∧∀ f,RelO (fs.lookup f) (mA f)
  | .rng lo hi=>∃ t u v,h.get? a=some { cls:=.type "range",data:=.fields #[.int lo t,.int hi u,.int 1 v] }
  | .frz o u=>h.get? a=some o∧ObjOk H h a u
  | .tbl ps=>h.get? a=some { cls:=.none,data:=.fields ps }
  | .met f x=>h.get? a=some (PySem.W.methodObj (.ref f) (.ref x))
  | .ext φ=>φ h∧(∃ o,h.get? a=some o)∧∀ h1 h2:Heap,φ h1→(∀ o,h1.get? a=some o→h2.get? a=some o)→φ h2
def HOk (H:Hp) (h:Heap):Prop:=∀ a o,H a=some o→ObjOk P w H h a o
end
section
variable {P:Program} {w:World} {H H':Hp} {h h':Heap} {a:Addr} {o:HO}
theorem ObjOk.lt (x:ObjOk P w H h a o):a<h.objs.size:=by
  cases o with
  | lst xs=>obtain ⟨_,_,_,_,e⟩:=x;exact Heap.lt_size e
  | tup xs=>obtain ⟨_,_,_,p⟩:=x;exact p.lt
  | dK kvs=>obtain ⟨_,_,_,_,o,_,_,e,_⟩:=x;exact Heap.lt_size e
  | dT kvs=>obtain ⟨_,_,_,_,o,_,_,e,_⟩:=x;exact Heap.lt_size e
  | set S n=>obtain ⟨o,_,_,_,e,_⟩:=x;exact Heap.lt_size e
  | ins C dx fs=>obtain ⟨_,_,_,e,_⟩:=x;exact Heap.lt_size e
  | own y=>obtain ⟨_,e⟩:=x;exact Heap.lt_size e
  | xd fs=>obtain ⟨_,⟨_,_,_,e,_⟩,_⟩:=x;exact Heap.lt_size e
  | rng lo hi=>obtain ⟨_,_,_,e⟩:=x;exact Heap.lt_size e
  | frz ob u=>obtain ⟨e,_⟩:=x;exact Heap.lt_size e
  | tbl ps=>exact Heap.lt_size (show h.get? a=some _ from x)
  | met f y=>exact Heap.lt_size (show h.get? a=some _ from x)
  | ext φ=>obtain ⟨_,⟨_,e⟩,_⟩:=x;exact Heap.lt_size e
theorem Paired.mapP {α β:Type} {F G:α→β→Prop}:∀ {l₁:List α} {l₂:List β},Paired F l₁ l₂→(∀ a b,F a b→G a b)→Paired G l₁ l₂
  | _,_,.nil,_=>.nil
  | _,_,.cons r t,f=>.cons (f _ _ r) (Paired.mapP t f)
theorem ObjOk.stay (x:ObjOk P w H h a o) (k:∀ b u,(b=a∨H b=some (.own a))→h.get? b=some u→h'.get? b=some u)
    (ho:∀ b,H b=some (.own a)→H' b=some (.own a)) (ht:∀ b xs,H b=some (.tup xs)→H' b=some (.tup xs)):ObjOk P w H' h' a o:=by
  induction o with
  | lst xs=>obtain ⟨z,its,n,r,e⟩:=x;exact ⟨z,its,n,r,k _ _ (.inl rfl) e⟩
  | tup xs=>obtain ⟨z,its,r,ob,e,c⟩:=x;exact ⟨z,its,r,ob,k _ _ (.inl rfl) e,c⟩
  | dK kvs=>obtain ⟨z,y,vs,r,ob,es,ep,e,c⟩:=x;exact ⟨z,y,vs,r,ob,es,ep,k _ _ (.inl rfl) e,c⟩
  | dT kvs=>
    obtain ⟨z,y,xs,r,ob,es,ep,e,c⟩:=x
    exact ⟨z,y,xs,Paired.mapP r fun p q z=>⟨z.1,ht _ _ z.2.1,z.2.2⟩,ob,es,ep,k _ _ (.inl rfl) e,c⟩
  | set S n=>obtain ⟨ob,es,ep,t,e,c⟩:=x;exact ⟨ob,es,ep,t,k _ _ (.inl rfl) e,c⟩
  | ins C dx fs=>
    obtain ⟨d,z,ne,e,mA,⟨od,es,ep,e2,c⟩,r⟩:=x
    exact ⟨ho _ d,z,ne,k _ _ (.inl rfl) e,mA,⟨od,es,ep,k _ _ (.inr d) e2,c⟩,r⟩
  | own y=>obtain ⟨ob,e⟩:=x;exact ⟨ob,k _ _ (.inl rfl) e⟩
  | xd fs=>obtain ⟨mA,⟨od,es,ep,e,c⟩,r⟩:=x;exact ⟨mA,⟨od,es,ep,k _ _ (.inl rfl) e,c⟩,r⟩
  | rng lo hi=>obtain ⟨t,u,v,e⟩:=x;exact ⟨t,u,v,k _ _ (.inl rfl) e⟩
  | frz ob u ih=>obtain ⟨e,q⟩:=x;exact ⟨k _ _ (.inl rfl) e,ih q⟩
  | tbl ps=>
    have e:h.get? a=some { cls:=.none,data:=.fields ps }:=x
    show h'.get? a=some { cls:=.none,data:=.fields ps }
    exact k a _ (.inl rfl) e
  | met f y=>
    have e:h.get? a=some (PySem.W.methodObj (.ref f) (.ref y)):=x
    show h'.get? a=some (PySem.W.methodObj (.ref f) (.ref y))
    exact k a _ (.inl rfl) e
  | ext φ=>obtain ⟨p,⟨o,e⟩,st⟩:=x;exact ⟨st _ _ p fun o q=>k _ _ (.inl rfl) q,⟨o,k _ _ (.inl rfl) e⟩,st⟩
theorem HOk.lt (x:HOk P w H h) (e:H a=some o):a<h.objs.size:=(x a o e).lt
theorem HOk.fresh (x:HOk P w H h) (e:h.objs.size≤a):H a=none:=by
  cases q:H a with
  | none=>rfl
  | some u=>exact absurd (Nat.lt_of_lt_of_le (x.lt q) e) (Nat.lt_irrefl _)
theorem HOk.kept (x:HOk P w H h) (k:∀ b u,h.get? b=some u→h'.get? b=some u):HOk P w H h':=fun a o e=>
  (x a o e).stay (fun b u _ q=>k b u q) (fun _ q=>q) fun _ _ q=>q
theorem HOk.laid (x:HOk P w H h) (k:∀ b u,h.get? b=some u→h'.get? b=some u) (hp:h.objs.size≤a) (new:ObjOk P w (upd H a o) h' a o):HOk P w (upd H a o) h':=fun b u e=>by
  have hn:=x.fresh hp
  by_cases hb:b=a
  · subst hb;rw [zr] at e;cases e;exact new
  · rw [qm hb] at e
    exact (x b u e).stay (fun c v _ q=>k c v q) (fun c q=>by rw [qm (ze q hn)];exact q) fun c xs q=>by rw [qm (ze q hn)];exact q
end
def Rd (H:Hp) (a:Addr) (u:HO):Prop:=H a=some u∨∃ o,H a=some (.frz o u)
theorem Rd.ok {P:Program} {w:World} {H:Hp} {h:Heap} {a:Addr} {u:HO} (r:Rd H a u) (x:HOk P w H h):ObjOk P w H h a u:=by
  rcases r with r | ⟨o,r⟩
  · exact x a u r
  · obtain ⟨_,q⟩:=x a _ r
    exact q
def Mut:Option HO→Prop
  | some (.lst _)=>True
  | some (.dK _)=>True
  | some (.dT _)=>True
  | some (.set _ _)=>True
  | some (.ins _ _ _)=>True
  | some (.ext _)=>True
  | _=>False
section
variable {P:Program} {w:World} {H:Hp} {h h':Heap} {x e:Addr} {o':HO}
theorem HOk.write (ok:HOk P w H h) (mu:Mut (H x)) (he:e=x∨H e=some (.own x)) (k:∀ b u,b≠e→h.get? b=some u→h'.get? b=some u) (heo:∃ u,h'.get? e=some u)
    (new:ObjOk P w (upd H x o') h' x o'):HOk P w (upd H x o') h':=fun b u q=>by
  have nown:∀ c y,H c=some (.own y)→c≠x:=fun c y r z=>by subst z;rw [r] at mu;exact mu
  have ntup:∀ c xs,H c=some (.tup xs)→c≠x:=fun c xs r z=>by subst z;rw [r] at mu;exact mu
  by_cases hb:b=x
  · subst hb;rw [zr] at q;cases q;exact new
  · rw [qm hb] at q
    by_cases hbe:b=e
    · have q':H b=some (.own x):=by
        rcases he with z | z
        · exact absurd (hbe.trans z) hb
        · rw [hbe];exact z
      rw [q] at q';cases q'
      obtain ⟨v,hv⟩:=heo
      exact ⟨v,by rw [hbe];exact hv⟩
    · refine (ok b u q).stay (fun c v hc r=>k c v ?_ r) (fun c r=>by rw [qm (nown c b r)];exact r) fun c xs r=>by rw [qm (ntup c xs r)];exact r
      rcases hc with rfl | hc
      · exact hbe
      · rintro rfl
        rcases he with z | z
        · exact nown c b hc z
        · rw [hc] at z;cases z;exact hb rfl
end
structure Un (fs ex:List Addr) (H H':Hp) (h h':Heap):Prop where
  keep:∀ b o,h.get? b=some o→H b=none→b∉fs→b∉ex→h'.get? b=some o
  slot:∀ b o,h.get? b=some o→H b=none→b∈fs→b∉ex→∃ sl,h'.get? b=some { o with slots:=sl }
  free:∀ b o,h.get? b=some o→H b=none→b∉ex→H' b=none
  there:∀ b o,h.get? b=some o→b∉ex→∃ o',h'.get? b=some o'
  tups:∀ b xs,H b=some (.tup xs)→H' b=some (.tup xs)
  frzs:∀ b o u,H b=some (.frz o u)→H' b=some (.frz o u)
  tbls:∀ b ps,H b=some (.tbl ps)→∃ more,H' b=some (.tbl (ps++more))
section
variable {fs fs' ex ex':List Addr} {H H1 H2:Hp} {h h1 h2 h':Heap} {a x e:Addr} {o:HO}
theorem Un.any (u:Un fs ex H H1 h h1) {b:Addr} {ob:Obj} (q:h.get? b=some ob) (n:H b=none) (hx:b∉ex):∃ sl,h1.get? b=some { ob with slots:=sl }:=by
  by_cases hb:b∈fs
  · exact u.slot b ob q n hb hx
  · exact ⟨ob.slots,u.keep b ob q n hb hx⟩
theorem Un.kept (k:∀ b u,h.get? b=some u→h'.get? b=some u):Un fs ex H H h h':=
  ⟨fun b ob q _ _ _=>k b ob q,fun b ob q _ _ _=>⟨ob.slots,k b ob q⟩,fun _ _ _ n _=>n,fun b ob q _=>⟨ob,k b ob q⟩,fun _ _ q=>q,fun _ _ _ q=>q,fun _ ps q=>⟨#[],by rw [q];simp⟩⟩
theorem Un.refl:Un fs ex H H h h:=Un.kept fun _ _ q=>q
theorem Un.laid (k:∀ b u,h.get? b=some u→h'.get? b=some u) (hp:h.objs.size≤a) (hn:H a=none):Un fs ex H (upd H a o) h h' where
  keep:=fun b u q _ _ _=>k b u q
  slot:=fun b u q _ _ _=>⟨u.slots,k b u q⟩
  free:=fun b u q n _=>by rw [qm (Nat.ne_of_lt (Nat.lt_of_lt_of_le (Heap.lt_size q) hp))];exact n
  there:=fun b u q _=>⟨u,k b u q⟩
  tups:=fun b xs q=>by rw [qm (ze q hn)];exact q
  frzs:=fun b u xs q=>by rw [qm (ze q hn)];exact q
  tbls:=fun b ps q=>⟨#[],by rw [qm (ze q hn),q];simp⟩
theorem Un.write (mu:Mut (H x)) (he:e=x∨H e=some (.own x)) (k:∀ b u,b≠e→h.get? b=some u→h'.get? b=some u) (heo:∃ u,h'.get? e=some u):Un fs ex H (upd H x o) h h':=by
  have hx:∀ b,H b=none→b≠x:=fun b n z=>by subst z;rw [n] at mu;exact mu
  have hb:∀ b,H b=none→b≠e:=fun b n z=>by
    subst z
    rcases he with r | r
    · exact hx b n r
    · rw [n] at r;cases r
  have hm:∀ b u,H b=some u→¬ Mut (some u)→b≠x:=fun b u q nm z=>by subst z;rw [q] at mu;exact nm mu
  refine ⟨fun b u q n _ _=>k b u (hb b n) q,fun b u q n _ _=>⟨u.slots,k b u (hb b n) q⟩,fun b u q n _=>by rw [qm (hx b n)];exact n,fun b u q _=>?_,
    fun b xs q=>by rw [qm (hm b _ q fun z=>z)];exact q,fun b u xs q=>by rw [qm (hm b _ q fun z=>z)];exact q,fun b ps q=>⟨#[],by rw [qm (hm b _ q fun z=>z),q];simp⟩⟩
  by_cases hbe:b=e
  · subst hbe;exact heo
  · exact ⟨u,k b u hbe q⟩
end
def trk (h:Heap) (H:Hp):List Addr:=(List.range h.objs.size).filter fun a=>(H a).isSome
def ajq (h:Heap) (H:Hp):Heap:=PySem.W.hideAll h (trk h H)
theorem aqj (h:Heap) (H:Hp):(ajq h H).objs.size=h.objs.size:=PySem.W.hideAll_size _ _
theorem asc {h:Heap} {H:Hp} {b:Addr} {o:Obj} (e:h.get? b=some o) (n:H b=none):(ajq h H).get? b=some o:=
  PySem.W.hideAll_get _ e fun hm=>by
    have q:(H b).isSome=true:=(List.mem_filter.mp hm).2
    rw [n] at q;simp at q
theorem aup {h:Heap} {H:Hp} {b:Addr} {o:Obj} (e:(ajq h H).get? b=some o):h.get? b=some o∧H b=none:=by
  have e':h.get? b=some o:=PySem.W.of_hideAll (trk h H) e
  refine ⟨e',?_⟩
  cases q:H b with
  | none=>rfl
  | some x=>
    have hm:b∈trk h H:=List.mem_filter.mpr ⟨List.mem_range.mpr (Heap.lt_size e'),by simp [q]⟩
    have z:(ajq h H).get? b=none:=PySem.W.hideAll_none (trk h H) hm
    rw [z] at e;cases e
end L2
namespace L2
open PySem PySem.Spec PyProof.Rows
structure Mod (K:PySem.W.Frag) (mg:Str→Option Value) (base:Heap):Prop where
  kin:K.In base
  glob:base.Ns mainGlobals mg
  blt:∃ mb,base.Ns builtinsNs mb∧∀ x:Str,x ≠ "__name__" → mb x=bootBuiltins x
  nolimit:base.NoLimit
structure Cx where
  prog:Program
  w:World
  K:PySem.W.Frag
  mg:Str→Option Value
  base:Heap
  A:Around
  N:List Str
  s₀:Shared
  H₀:Hp
  env:Env
  outer:List Env
  stack:List Env
  ex:List Addr
  fn:Str→Bool
  calm:Bool
  pn:List (Addr×Obj)
  xe:Value→Shared→Prop
def frs (l:List Env):List Addr:=l.filterMap (·.frame)
abbrev Cx.fs (X:Cx):List Addr:=frs X.outer
def Vis (sc:Scope) (x:Str):Prop:=sc.names.lookup x=some .local∨sc.names.lookup x=some .cell∨sc.names.lookup x=some .free
def Loc (sc:Scope) (x:Str):Prop:=sc.names.lookup x=some .local∨sc.names.lookup x=some .cell
def a4i (env:Env) (h:Heap) (m:Str→Option Value) (x:Str) (u:Value):Prop:=
  (env.kindOf x=some .local∧m x=some u)∨((env.kindOf x=some .cell∨env.kindOf x=some .free)∧∃ c,env.cells.lookup x=some c∧h.IsCell c (some u))
structure Cx.Ok (X:Cx):Prop where
  mod:Mod X.K X.mg X.base
  kind:X.env.scope.kind=.function
  glob:X.env.globals=mainGlobals
  blt:X.env.builtins=builtinsNs
  above:X.s₀.heap.objs.size≤X.env.locals
  inj:∀ x y c,X.env.cells.lookup x=some c→X.env.cells.lookup y=some c→x=y
  has:∀ x,(X.env.kindOf x=some .cell∨X.env.kindOf x=some .free)→∃ c,X.env.cells.lookup x=some c
  cab:∀ x c,X.fn x=true→X.env.cells.lookup x=some c→X.s₀.heap.objs.size≤c
  hd:X.calm=true→X.A.handled=none
  frames:X.A.frames=some X.stack
  stk:X.stack=X.outer∨(X.stack=X.env::X.outer∧X.env.frame=some X.env.locals)
  exf:∀ b∈X.ex,b≠X.env.locals∧∀ x c,X.env.cells.lookup x=some c→c≠b
  bs:∀ b o,X.base.get? b=some o→X.s₀.heap.get? b=some o∧X.H₀ b=none
  bsz:X.base.objs.size≤X.s₀.heap.objs.size
  noex:∀ b o,X.base.get? b=some o→b∉X.ex
  exfs:∀ b∈X.ex,b∉X.fs
  funs:X.s₀.heap.FunFrames X.base X.outer
  frf:∀ b∈X.fs,X.H₀ b=none
structure Inv (X:Cx) (pins:List (Addr×Obj)) (σ:List (Option V)) (H:Hp) (s:Shared):Prop where
  ok:X.Ok
  os:s.os=X.s₀.os
  bare:AllBare s.gens
  base:Un X.fs X.ex X.H₀ H X.s₀.heap s.heap
  loc:∃ m,s.heap.Ns X.env.locals m∧∀ (i:Nat) (x:Str) (v:V),X.N[i]?=some x→σ[i]?=some (some v)→Vis X.env.scope x→∃ u,RelV v u∧a4i X.env s.heap m x u
  cell:∀ x c,X.env.cells.lookup x=some c→∃ v,s.heap.IsCell c v
  free:H X.env.locals=none
  freeC:∀ x c,X.env.cells.lookup x=some c→H c=none
  pin:∀ p∈X.pn++pins,s.heap.get? p.1=some p.2∧H p.1=none∧p.1≠X.env.locals∧p.1∉X.fs∧∀ v,p.2.data≠.cell v
  hok:HOk X.prog X.w H s.heap
  len:σ.length=X.N.length
  tk:0<s.toks
section
variable {X:Cx} {pins:List (Addr×Obj)} {σ:List (Option V)} {H H':Hp} {s:Shared} {h':Heap}
theorem Cx.Ok.nofr (ok:X.Ok) {b:Addr} {o:Obj} (e:X.base.get? b=some o):b∉X.fs:=fun hb=>by
  have:=(ok.funs.mem hb).1
  rw [e] at this;cases this
theorem Inv.bs (I:Inv X pins σ H s):∀ b o,X.base.get? b=some o→s.heap.get? b=some o∧H b=none:=fun b o e=>
  ⟨I.base.keep b o (I.ok.bs b o e).1 (I.ok.bs b o e).2 (I.ok.nofr e) (I.ok.noex b o e),I.base.free b o (I.ok.bs b o e).1 (I.ok.bs b o e).2 (I.ok.noex b o e)⟩
theorem Inv.bk (I:Inv X pins σ H s):∀ b o,X.base.get? b=some o→s.heap.get? b=some o:=fun b o e=>(I.bs b o e).1
theorem Inv.mod (I:Inv X pins σ H s):Mod X.K X.mg X.base:=I.ok.mod
theorem Inv.kIn (I:Inv X pins σ H s):X.K.In s.heap:=I.ok.mod.kin.keeps I.bk
theorem Inv.lt (I:Inv X pins σ H s):X.env.locals<s.heap.objs.size:=let ⟨_,hn,_⟩:=I.loc;hn.lt
theorem Inv.sz (I:Inv X pins σ H s):X.s₀.heap.objs.size≤s.heap.objs.size:=Nat.le_trans I.ok.above (Nat.le_of_lt I.lt)
theorem Inv.nofs (I:Inv X pins σ H s) {a:Addr} (h:s.heap.objs.size≤a):a∉X.fs:=fun hb=>by
  obtain ⟨_,o,ho,_⟩:=I.ok.funs.mem hb
  exact absurd (Nat.lt_of_lt_of_le (Heap.lt_size ho) (Nat.le_trans I.sz h)) (Nat.lt_irrefl _)
theorem Inv.cne (I:Inv X pins σ H s):∀ x c,X.env.cells.lookup x=some c→c≠X.env.locals:=fun x c e z=>by
  obtain ⟨v,o,ho,hd⟩:=I.cell x c e
  obtain ⟨m,⟨o',es,ep,ho',hd',_⟩,_⟩:=I.loc
  rw [z,ho'] at ho;cases ho;rw [hd'] at hd;cases hd
theorem Inv.funs (I:Inv X pins σ H s):s.heap.FunFrames X.base X.outer:=by
  have all:∀ (l:List Env),(∀ b∈frs l,b∈X.fs)→X.s₀.heap.FunFrames X.base l→s.heap.FunFrames X.base l:=by
    intro l
    induction l with
    | nil=>intro _ _;trivial
    | cons env r ih=>
      intro hs hl
      obtain ⟨hk,⟨L,o,hf,hn,ho,hd⟩,hr⟩:=hl
      have hL:L∈X.fs:=hs L (by unfold frs;rw [List.filterMap_cons,hf];exact List.mem_cons_self)
      obtain ⟨sl,e⟩:=I.base.slot L o ho (I.ok.frf L hL) hL fun z=>I.ok.exfs L z hL
      exact ⟨hk,⟨L,_,hf,hn,e,hd⟩,ih (fun b hb=>hs b (by unfold frs;rw [List.filterMap_cons,hf];exact List.mem_cons_of_mem _ hb)) hr⟩
  exact all X.outer (fun _ hb=>hb) I.ok.funs
theorem Inv.stack (I:Inv X pins σ H s):s.heap.FunFrames X.base X.stack:=by
  rcases I.ok.stk with e | ⟨e,hf⟩
  · rw [e];exact I.funs
  · rw [e]
    obtain ⟨m,hn,_⟩:=I.loc
    refine .cons (by rw [I.ok.kind];decide) hf hn ?_ I.funs
    exact Heap.get?_none_of_le (Nat.le_trans I.ok.bsz I.ok.above)
theorem Inv.stkSub (I:Inv X pins σ H s):∀ b∈frs X.stack,b∈X.env.locals::X.fs:=fun b hb=>by
  rcases I.ok.stk with e | ⟨e,hf⟩
  · rw [e] at hb;exact List.mem_cons_of_mem _ hb
  · rw [e] at hb
    unfold frs at hb
    rw [List.filterMap_cons,hf] at hb
    exact hb
theorem Inv.stkFree (I:Inv X pins σ H s):∀ b∈frs X.stack,H b=none:=fun b hb=>by
  rcases List.mem_cons.mp (I.stkSub b hb) with e | hb
  · rw [e];exact I.free
  · obtain ⟨_,o,ho,_⟩:=I.ok.funs.mem hb
    exact I.base.free b o ho (I.ok.frf b hb) fun z=>I.ok.exfs b z hb
theorem Inv.step {g':Array GenState} {t':Nat} {d':Drawn} {ch:List Addr} (I:Inv X pins σ H s)
    (hch:∀ b∈ch,(b∈X.ex∨X.s₀.heap.objs.size≤b)∧b≠X.env.locals∧(∀ x c,X.env.cells.lookup x=some c→c≠b)∧∀ p∈X.pn++pins,p.1≠b)
    (keep:∀ b o,b≠X.env.locals→b∉X.fs→b∉ch→s.heap.get? b=some o→H b=none→h'.get? b=some o)
    (slot:∀ b o,b≠X.env.locals→b∈X.fs→b∉ch→s.heap.get? b=some o→H b=none→∃ sl,h'.get? b=some { o with slots:=sl }) (free:∀ b o,b∉ch→s.heap.get? b=some o→H b=none→H' b=none)
    (there:∀ b o,b∉ch→s.heap.get? b=some o→∃ o',h'.get? b=some o')
    (tups:∀ b xs,H b=some (.tup xs)→H' b=some (.tup xs)) (frzs:∀ b o u,H b=some (.frz o u)→H' b=some (.frz o u)) (tbls:∀ b ps,H b=some (.tbl ps)→∃ more,H' b=some (.tbl (ps++more)))
    (ns:∀ m,s.heap.Ns X.env.locals m→h'.Ns X.env.locals m) (hok:HOk X.prog X.w H' h') (hg:AllBare g') (ht:0<t':=by (first | assumption | exact Nat.succ_pos _ | exact Inv.tk (by assumption) | exact Nat.lt_of_lt_of_le (Inv.tk (by assumption)) (Nat.le_add_right _ _) | exact Nat.lt_of_lt_of_le (Inv.tk (by assumption)) (by assumption))):
    Inv X pins σ H' { s with heap:=h',gens:=g',drawn:=d',toks:=t' }:=by
  have neL:∀ b o,X.s₀.heap.get? b=some o→b≠X.env.locals:=fun b o e=>Nat.ne_of_lt (Nat.lt_of_lt_of_le (Heap.lt_size e) I.ok.above)
  have neC:∀ b o,X.s₀.heap.get? b=some o→b∉X.ex→b∉ch:=fun b o e hx hb=>by
    rcases (hch b hb).1 with z | z
    · exact hx z
    · exact absurd (Nat.lt_of_lt_of_le (Heap.lt_size e) z) (Nat.lt_irrefl _)
  have cellK:∀ x c,X.env.cells.lookup x=some c→∀ v,s.heap.IsCell c v→h'.IsCell c v:=fun x c e v ⟨o,ho,hd⟩=>by
    have nch:c∉ch:=fun z=>(hch c z).2.2.1 x c e rfl
    by_cases hc:c∈X.fs
    · obtain ⟨sl,q⟩:=slot c o (I.cne x c e) hc nch ho (I.freeC x c e)
      exact ⟨_,q,hd⟩
    · exact ⟨o,keep c o (I.cne x c e) hc nch ho (I.freeC x c e),hd⟩
  refine ⟨I.ok,I.os,hg,⟨fun b o e n hb hx=>?_,fun b o e n hb hx=>?_,fun b o e n hx=>?_,fun b o e hx=>?_,fun b xs e=>tups b xs (I.base.tups b xs e),fun b o xs e=>frzs b o xs (I.base.frzs b o xs e),fun b ps e=>?_⟩,?_,fun x c e=>?_,?_,fun x c e=>?_,fun p hp=>?_,hok,I.len,ht⟩
  · exact keep b o (neL b o e) hb (neC b o e hx) (I.base.keep b o e n hb hx) (I.base.free b o e n hx)
  · obtain ⟨sl,e1⟩:=I.base.slot b o e n hb hx
    obtain ⟨sl',e2⟩:=slot b _ (neL b o e) hb (neC b o e hx) e1 (I.base.free b o e n hx)
    exact ⟨sl',e2⟩
  · obtain ⟨o',e1⟩:=I.base.there b o e hx
    exact free b o' (neC b o e hx) e1 (I.base.free b o e n hx)
  · obtain ⟨o',e1⟩:=I.base.there b o e hx
    exact there b o' (neC b o e hx) e1
  · obtain ⟨m1,e1⟩:=I.base.tbls b ps e
    obtain ⟨m2,e2⟩:=tbls b _ e1
    exact ⟨m1++m2,by rw [e2,Array.append_assoc]⟩
  · obtain ⟨m,hn,hl⟩:=I.loc
    refine ⟨m,ns m hn,fun i x v e1 e2 e3=>?_⟩
    obtain ⟨u,r,l⟩:=hl i x v e1 e2 e3
    refine ⟨u,r,?_⟩
    rcases l with l | ⟨k,c,e,z⟩
    · exact .inl l
    · exact .inr ⟨k,c,e,cellK x c e _ z⟩
  · obtain ⟨v,z⟩:=I.cell x c e
    exact ⟨v,cellK x c e v z⟩
  · obtain ⟨m,⟨o,_,_,ho,_⟩,_⟩:=I.loc
    exact free _ o (fun z=>(hch _ z).2.1 rfl) ho I.free
  · obtain ⟨v,o,ho,hd⟩:=I.cell x c e
    exact free c o (fun z=>(hch c z).2.2.1 x c e rfl) ho (I.freeC x c e)
  · obtain ⟨e,n,ne,nf,d⟩:=I.pin p hp
    have nch:p.1∉ch:=fun z=>(hch p.1 z).2.2.2 p hp rfl
    exact ⟨keep p.1 p.2 ne nf nch e n,free p.1 p.2 nch e n,ne,nf,d⟩
theorem Inv.un {t':Nat} (I:Inv X pins σ H s) (u:Un X.fs [] H H' s.heap h') (hok:HOk X.prog X.w H' h') (ht:0<t':=by (first | assumption | exact Nat.succ_pos _ | exact Inv.tk (by assumption) | exact Nat.lt_of_lt_of_le (Inv.tk (by assumption)) (Nat.le_add_right _ _) | exact Nat.lt_of_lt_of_le (Inv.tk (by assumption)) (by assumption))):Inv X pins σ H' { s with heap:=h',toks:=t' }:=by
  obtain ⟨m,⟨o,es,ep,ho,r⟩,_⟩:=id I.loc
  obtain ⟨sl,hL⟩:=u.any ho I.free (by simp)
  exact I.step (g':=s.gens) (d':=s.drawn) (ch:=[]) (fun _ z=>nomatch z) (fun b o _ hb _ e n=>u.keep b o e n hb (by simp)) (fun b o _ hb _ e n=>u.slot b o e n hb (by simp)) (fun b o _ e n=>u.free b o e n (by simp)) (fun b o _ e=>u.there b o e (by simp)) u.tups u.frzs u.tbls (fun m' hm=>by
    obtain ⟨o',es',ep',ho',r'⟩:=hm
    rw [ho] at ho';cases ho'
    exact ⟨_,es',ep',hL,r'⟩) hok I.bare
theorem Inv.call {g':Array GenState} {t':Nat} {d':Drawn} {ch:List Addr} (I:Inv X pins σ H s) (u:Un (frs X.stack) ch H H' s.heap h') (hok:HOk X.prog X.w H' h') (hg:AllBare g')
    (hch:∀ b∈ch,(b∈X.ex∨X.s₀.heap.objs.size≤b)∧b≠X.env.locals∧(∀ x c,X.env.cells.lookup x=some c→c≠b)∧∀ p∈X.pn++pins,p.1≠b) (ht:0<t':=by (first | assumption | exact Nat.succ_pos _ | exact Inv.tk (by assumption) | exact Nat.lt_of_lt_of_le (Inv.tk (by assumption)) (Nat.le_add_right _ _) | exact Nat.lt_of_lt_of_le (Inv.tk (by assumption)) (by assumption))):
    Inv X pins σ H' { s with heap:=h',gens:=g',drawn:=d',toks:=t' }:=by
  obtain ⟨m,⟨o,es,ep,ho,r⟩,_⟩:=id I.loc
  obtain ⟨sl,hL⟩:=u.any ho I.free fun z=>(hch _ z).2.1 rfl
  exact I.step (ch:=ch) hch (fun b o hL hb hc e n=>u.keep b o e n (fun z=>(List.mem_cons.mp (I.stkSub b z)).elim hL hb) hc) (fun b o _ _ hc e n=>u.any e n hc) (fun b o hc e n=>u.free b o e n hc) (fun b o hc e=>u.there b o e hc) u.tups u.frzs u.tbls (fun m' hm=>by
    obtain ⟨o',es',ep',ho',r'⟩:=hm
    rw [ho] at ho';cases ho'
    exact ⟨_,es',ep',hL,r'⟩) hok hg
theorem Inv.turned {t':Nat} {it:Addr} (I:Inv X pins σ H s) (k:∀ b o,b≠it→s.heap.get? b=some o→h'.get? b=some o) (hn:H it=none) (hL:it≠X.env.locals)
    (h1:it∈X.ex∨X.s₀.heap.objs.size≤it) (h2:∀ x c,X.env.cells.lookup x=some c→c≠it) (h3:∀ p∈X.pn++pins,p.1≠it) (ht:0<t':=by (first | assumption | exact Nat.succ_pos _ | exact Inv.tk (by assumption) | exact Nat.lt_of_lt_of_le (Inv.tk (by assumption)) (Nat.le_add_right _ _) | exact Nat.lt_of_lt_of_le (Inv.tk (by assumption)) (by assumption))):Inv X pins σ H { s with heap:=h',toks:=t' }:=by
  have nit:∀ b u,H b=some u→b≠it:=fun b u e z=>by rw [z,hn] at e;cases e
  refine I.step (g':=s.gens) (d':=s.drawn) (ch:=[it]) (fun b hb=>?_) (fun b o _ _ hc e _=>k b o (fun z=>hc (by simp [z])) e) (fun b o _ _ hc e _=>⟨o.slots,k b o (fun z=>hc (by simp [z])) e⟩) (fun _ _ _ _ n=>n)
    (fun b o hc e=>⟨o,k b o (fun z=>hc (by simp [z])) e⟩) (fun _ _ e=>e) (fun _ _ _ e=>e) (fun b ps e=>⟨#[],by rw [e];simp⟩) (fun m hm=>?_) (fun b u e=>?_) I.bare
  · have e:b=it:=by simpa using hb
    subst e
    exact ⟨h1,hL,h2,h3⟩
  · obtain ⟨o,es,ep,ho,r⟩:=hm
    exact ⟨o,es,ep,k _ o (Ne.symm hL) ho,r⟩
  · refine (I.hok b u e).stay (fun c v hc q=>k c v ?_ q) (fun _ q=>q) fun _ _ q=>q
    rcases hc with z | z
    · rw [z];exact nit b u e
    · exact nit c _ z
theorem Inv.tok (I:Inv X pins σ H s) (t:Nat) (ht:0<t:=by (first | assumption | exact Nat.succ_pos _ | exact Inv.tk (by assumption) | exact Nat.lt_of_lt_of_le (Inv.tk (by assumption)) (Nat.le_add_right _ _) | exact Nat.lt_of_lt_of_le (Inv.tk (by assumption)) (by assumption))):Inv X pins σ H { s with toks:=t }:=I.un (h':=s.heap) (t':=t) Un.refl I.hok
theorem Inv.kept {t':Nat} (I:Inv X pins σ H s) (k:∀ b u,s.heap.get? b=some u→h'.get? b=some u) (ht:0<t':=by (first | assumption | exact Nat.succ_pos _ | exact Inv.tk (by assumption) | exact Nat.lt_of_lt_of_le (Inv.tk (by assumption)) (Nat.le_add_right _ _) | exact Nat.lt_of_lt_of_le (Inv.tk (by assumption)) (by assumption))):Inv X pins σ H { s with heap:=h',toks:=t' }:=I.un (Un.kept k) (I.hok.kept k)
theorem Inv.laid {a:Addr} {o:HO} {t':Nat} (I:Inv X pins σ H s) (k:∀ b u,s.heap.get? b=some u→h'.get? b=some u) (hp:s.heap.objs.size≤a) (new:ObjOk X.prog X.w (upd H a o) h' a o) (ht:0<t':=by (first | assumption | exact Nat.succ_pos _ | exact Inv.tk (by assumption) | exact Nat.lt_of_lt_of_le (Inv.tk (by assumption)) (Nat.le_add_right _ _) | exact Nat.lt_of_lt_of_le (Inv.tk (by assumption)) (by assumption))):
    Inv X pins σ (upd H a o) { s with heap:=h',toks:=t' }:=I.un (Un.laid k hp (I.hok.fresh hp)) (I.hok.laid k hp new)
theorem Inv.write {x e:Addr} {o:HO} {t':Nat} (I:Inv X pins σ H s) (mu:Mut (H x)) (he:e=x∨H e=some (.own x)) (k:∀ b u,b≠e→s.heap.get? b=some u→h'.get? b=some u) (heo:∃ u,h'.get? e=some u)
    (new:ObjOk X.prog X.w (upd H x o) h' x o) (ht:0<t':=by (first | assumption | exact Nat.succ_pos _ | exact Inv.tk (by assumption) | exact Nat.lt_of_lt_of_le (Inv.tk (by assumption)) (Nat.le_add_right _ _) | exact Nat.lt_of_lt_of_le (Inv.tk (by assumption)) (by assumption))):Inv X pins σ (upd H x o) { s with heap:=h',toks:=t' }:=I.un (Un.write mu he k heo) (I.hok.write mu he k heo new)
theorem Inv.weak {σ':List (Option V)} (I:Inv X pins σ H s) (hl:σ'.length=σ.length) (w:∀ (i:Nat) v,σ'[i]?=some (some v)→σ[i]?=some (some v)):Inv X pins σ' H s:=
  ⟨I.ok,I.os,I.bare,I.base,let ⟨m,hn,hl'⟩:=I.loc;⟨m,hn,fun i x v e1 e2 e3=>hl' i x v e1 (w i v e2) e3⟩,I.cell,I.free,I.freeC,I.pin,I.hok,hl.trans I.len,I.tk⟩
theorem Inv.pins_of {pins':List (Addr×Obj)} (I:Inv X pins σ H s) (h:∀ p∈pins',s.heap.get? p.1=some p.2∧H p.1=none∧p.1≠X.env.locals∧p.1∉X.fs∧∀ v,p.2.data≠.cell v):Inv X pins' σ H s:=
  ⟨I.ok,I.os,I.bare,I.base,I.loc,I.cell,I.free,I.freeC,fun p hp=>(List.mem_append.mp hp).elim (fun z=>I.pin p (List.mem_append_left _ z)) (h p),I.hok,I.len,I.tk⟩
theorem ahq {N:List Str} (hN:N.Nodup) {i j:Nat} {x:Str} (a:N[i]?=some x) (b:N[j]?=some x):i=j:=by
  obtain ⟨h1,e1⟩:=List.getElem?_eq_some_iff.mp a
  obtain ⟨h2,e2⟩:=List.getElem?_eq_some_iff.mp b
  exact (List.getElem_inj hN).mp (e1.trans e2.symm)
theorem ais {M:Model} {A:Around} {E:Value→Shared→Prop} {i:Nat} {x:Str} {v:V} {u:Value} {Q:Unit→Shared→Prop} (I:Inv X pins σ H s) (hN:X.N.Nodup) (hi:X.N[i]?=some x) (hx:Loc X.env.scope x) (r:RelV v u)
    (h:∀ s',Inv X pins (σ.set i (some v)) H s'→(∃ a,Heap.SameBut a s.heap s'.heap∧(a=X.env.locals∨X.env.cells.lookup x=some a))→(X.env.kindOf x=some .local→∃ m',s'.heap.Ns X.env.locals m'∧m' x=some u)→Q () s') (hf:X.fn x=true∨X.env.scope.names.lookup x=some .local:=by first | exact .inl rfl | exact .inr rfl | assumption):wpAny M A (storeName X.env x u) Q E s:=by
  obtain ⟨m,hn,hl⟩:=id I.loc
  have hcls:(X.env.scope.kind==.class||(X.env.scope.kind==.module&&X.env.locals != X.env.globals))=false:=by rw [I.ok.kind];rfl
  have hiσ:i<σ.length:=by rw [I.len];exact (List.getElem?_eq_some_iff.mp hi).1
  have cne:=I.cne
  have tracked:∀ {a:Addr} {h':Heap},(∃ o,s.heap.get? a=some o∧H a=none)→Heap.SameBut a s.heap h'→HOk X.prog X.w H h':=fun {a h'} ha hs b ob e=>by
    obtain ⟨_,_,hfree⟩:=ha
    refine (I.hok b ob e).stay (fun c w' hc q=>(hs.2 c ?_).trans q) (fun _ q=>q) fun _ _ q=>q
    rintro rfl
    rcases hc with rfl | hc
    · rw [hfree] at e;cases e
    · rw [hfree] at hc;cases hc
  rcases hx with hk | hk
  · refine wpAny_storeName_local hk hn (fun h' hn' hs=>?_) hcls
    obtain ⟨oL,_,_,hoL,_⟩:=id hn
    refine h _ ⟨I.ok,I.os,I.bare,⟨fun b o e n hb hx=>?_,fun b o e n hb hx=>?_,I.base.free,fun b o e hx=>?_,I.base.tups,I.base.frzs,I.base.tbls⟩,⟨_,hn',fun j y v' e1 e2 e3=>?_⟩,fun y c e=>?_,I.free,I.freeC,fun p hp=>?_,tracked ⟨oL,hoL,I.free⟩ hs,by simpa using I.len,by first | exact I.tk | exact Nat.succ_pos _⟩ ⟨_,hs,.inl rfl⟩ (fun _=>⟨_,hn',by simp⟩)
    · exact (hs.2 b (Nat.ne_of_lt (Nat.lt_of_lt_of_le (Heap.lt_size e) I.ok.above))).trans (I.base.keep b o e n hb hx)
    · obtain ⟨sl,e1⟩:=I.base.slot b o e n hb hx
      exact ⟨sl,(hs.2 b (Nat.ne_of_lt (Nat.lt_of_lt_of_le (Heap.lt_size e) I.ok.above))).trans e1⟩
    · obtain ⟨o',e1⟩:=I.base.there b o e hx
      exact ⟨o',(hs.2 b (Nat.ne_of_lt (Nat.lt_of_lt_of_le (Heap.lt_size e) I.ok.above))).trans e1⟩
    · by_cases hj:j=i
      · subst hj
        rw [hi] at e1;cases e1
        rw [List.getElem?_set_self hiσ] at e2
        cases e2
        exact ⟨u,r,.inl ⟨hk,by simp⟩⟩
      · rw [List.getElem?_set_ne (Ne.symm hj)] at e2
        obtain ⟨u',r',q⟩:=hl j y v' e1 e2 e3
        refine ⟨u',r',?_⟩
        rcases q with ⟨k,e⟩ | ⟨k,c,e,z⟩
        · refine .inl ⟨k,?_⟩
          have:y≠x:=fun e=>hj (ahq hN e1 (e▸hi))
          simp [this,e]
        · exact .inr ⟨k,c,e,z.sameBut hs (cne y c e)⟩
    · obtain ⟨w',z⟩:=I.cell y c e
      exact ⟨w',z.sameBut hs (cne y c e)⟩
    · obtain ⟨e,n,ne,nf,d⟩:=I.pin p hp
      exact ⟨(hs.2 p.1 ne).trans e,n,ne,nf,d⟩
  · have hfn:X.fn x=true:=by
      rcases hf with z | z
      · exact z
      · rw [z] at hk;cases hk
    obtain ⟨c,hc⟩:=I.ok.has x (.inl hk)
    obtain ⟨w',z⟩:=I.cell x c hc
    refine wpAny_storeName_cell I.ok.kind hk hc z (fun h' hc' hs=>?_)
    obtain ⟨oc,hoc,hocd⟩:=id z
    refine h { s with heap:=h' } ⟨I.ok,I.os,I.bare,⟨fun b o e n hb hx=>?_,fun b o e n hb hx=>?_,I.base.free,fun b o e hx=>?_,I.base.tups,I.base.frzs,I.base.tbls⟩,⟨m,hn.sameBut hs (Ne.symm (cne x c hc)),fun j y v' e1 e2 e3=>?_⟩,fun y c' e=>?_,I.free,I.freeC,fun p hp=>?_,tracked ⟨oc,hoc,I.freeC x c hc⟩ hs,by simpa using I.len,I.tk⟩ ⟨c,hs,.inr hc⟩ (fun z=>by have e:=(show X.env.kindOf x=some .cell from hk).symm.trans z;cases e)
    · exact (hs.2 b (Nat.ne_of_lt (Nat.lt_of_lt_of_le (Heap.lt_size e) (I.ok.cab x c hfn hc)))).trans (I.base.keep b o e n hb hx)
    · obtain ⟨sl,e1⟩:=I.base.slot b o e n hb hx
      exact ⟨sl,(hs.2 b (Nat.ne_of_lt (Nat.lt_of_lt_of_le (Heap.lt_size e) (I.ok.cab x c hfn hc)))).trans e1⟩
    · obtain ⟨o',e1⟩:=I.base.there b o e hx
      exact ⟨o',(hs.2 b (Nat.ne_of_lt (Nat.lt_of_lt_of_le (Heap.lt_size e) (I.ok.cab x c hfn hc)))).trans e1⟩
    · by_cases hj:j=i
      · subst hj
        rw [hi] at e1;cases e1
        rw [List.getElem?_set_self hiσ] at e2
        cases e2
        exact ⟨u,r,.inr ⟨.inl hk,c,hc,hc'⟩⟩
      · rw [List.getElem?_set_ne (Ne.symm hj)] at e2
        obtain ⟨u',r',q⟩:=hl j y v' e1 e2 e3
        refine ⟨u',r',?_⟩
        rcases q with q | ⟨k,c',e,z'⟩
        · exact .inl q
        · refine .inr ⟨k,c',e,z'.sameBut hs ?_⟩
          rintro rfl
          exact hj (ahq hN e1 (I.ok.inj _ _ _ e hc▸hi))
    · by_cases hcc:c'=c
      · subst hcc;exact ⟨_,hc'⟩
      · obtain ⟨w2,z2⟩:=I.cell y c' e
        exact ⟨w2,z2.sameBut hs hcc⟩
    · obtain ⟨e,n,ne,nf,d⟩:=I.pin p hp
      refine ⟨(hs.2 p.1 ?_).trans e,n,ne,nf,d⟩
      intro q
      rw [q,hoc] at e
      have q':oc=p.2:=Option.some.inj e
      exact d w' (by rw [← q'];exact hocd)
theorem agu {M:Model} {A:Around} {E:Value→Shared→Prop} {i:Nat} {x:Str} {v:V} {u:Value} {Q:Unit→Shared→Prop} (I:Inv X pins σ H s) (hN:X.N.Nodup) (hi:X.N[i]?=some x) (hx:Loc X.env.scope x) (r:RelV v u)
    (h:∀ s',Inv X pins (σ.set i (some v)) H s'→Q () s') (hf:X.fn x=true∨X.env.scope.names.lookup x=some .local:=by first | exact .inl rfl | exact .inr rfl | assumption):wpAny M A (storeName X.env x u) Q E s:=
  ais I hN hi hx r (fun s' I' _ _=>h s' I') hf
theorem Inv.call' {s':Shared} {ch:List Addr} (I:Inv X pins σ H s) (ho:s'.os=s.os) (u:Un (frs X.stack) ch H H' s.heap s'.heap) (hok:HOk X.prog X.w H' s'.heap) (hg:AllBare s'.gens)
    (hch:∀ b∈ch,(b∈X.ex∨X.s₀.heap.objs.size≤b)∧b≠X.env.locals∧(∀ x c,X.env.cells.lookup x=some c→c≠b)∧∀ p∈X.pn++pins,p.1≠b) (ht:0<s'.toks:=by (first | assumption | exact Nat.succ_pos _ | exact Inv.tk (by assumption) | exact Nat.lt_of_lt_of_le (Inv.tk (by assumption)) (Nat.le_add_right _ _) | exact Nat.lt_of_lt_of_le (Inv.tk (by assumption)) (by assumption))):Inv X pins σ H' s':=by
  obtain ⟨h',g',d',t',o'⟩:=s'
  have e:o'=s.os:=ho
  subst e
  exact I.call (g':=g') (t':=t') (d':=d') u hok hg hch ht
end
abbrev XK:=Value→Option Addr→Hp→Prop
abbrev St:=List (Option V)
abbrev VK:=V→Hp→Prop
abbrev TE:=St→Hp→VK→Prop
abbrev TT:=St→Hp→(Bool→Hp→Prop)→Prop
abbrev TA:=St→Hp→(List V→Hp→Prop)→Prop
structure Ends where
  nx:St→Hp→Prop
  rt:VK
  bk:St→Hp→Prop:=fun _ _=>False
  ct:St→Hp→Prop:=fun _ _=>False
abbrev TS:=Ends→St→Hp→Prop
def EP (X:Cx) (pins:List (Addr×Obj)) (σ:St) (Q:VK) (u:Value) (s':Shared):Prop:=∃ v H',Inv X pins σ H' s'∧RelV v u∧Q v H'
def TP (X:Cx) (pins:List (Addr×Obj)) (σ:St) (Q:Bool→Hp→Prop) (b:Bool) (s':Shared):Prop:=∃ H',Inv X pins σ H' s'∧Q b H'
def AP (X:Cx) (pins:List (Addr×Obj)) (σ:St) (Q:List V→Hp→Prop) (us:List Value) (s':Shared):Prop:=∃ vs H',Inv X pins σ H' s'∧Vals vs us∧Q vs H'
def SP (X:Cx) (pins:List (Addr×Obj)) (D:Ends) (f:Flow) (s':Shared):Prop:=
  match f with
  | .next=>∃ σ' H',Inv X pins σ' H' s'∧D.nx σ' H'
  | .brk=>∃ σ' H',Inv X pins σ' H' s'∧D.bk σ' H'
  | .cont=>∃ σ' H',Inv X pins σ' H' s'∧D.ct σ' H'
  | .ret u=>∃ v σ' H',Inv X pins σ' H' s'∧RelV v u∧D.rt v H'
def PE (X:Cx) (e:Expr) (t:TE):Prop:=
  ∀ (pins:List (Addr×Obj)) (s:Shared) (σ:St) (H:Hp) (Q:VK),Inv X pins σ H s→t σ H Q→wpAny (model X.prog X.w) X.A (eval e X.env) (EP X pins σ Q) X.xe s
def PT (X:Cx) (e:Expr) (t:TT):Prop:=
  ∀ (pins:List (Addr×Obj)) (s:Shared) (σ:St) (H:Hp) (Q:Bool→Hp→Prop),Inv X pins σ H s→t σ H Q→wpAny (model X.prog X.w) X.A (isTrue e X.env (eval e X.env)) (TP X pins σ Q) X.xe s
def PW (X:Cx) (e:Expr) (t:TT):Prop:=
  ∀ (whole:Sem Value) (pins:List (Addr×Obj)) (s:Shared) (σ:St) (H:Hp) (Q:Bool→Hp→Prop),Inv X pins σ H s→t σ H Q→wpAny (model X.prog X.w) X.A (isTrue e X.env whole) (TP X pins σ Q) X.xe s
theorem PW.pt {X:Cx} {e:Expr} {t:TT} (h:PW X e t):PT X e t:=h _
def PA (X:Cx) (es:List Expr) (t:TA):Prop:=
  ∀ (pos:Pos) (pins:List (Addr×Obj)) (s:Shared) (σ:St) (H:Hp) (Q:List V→Hp→Prop),Inv X pins σ H s→t σ H Q→wpAny (model X.prog X.w) X.A (spliced (backTo pos (starEach es X.env))) (AP X pins σ Q) X.xe s
def PS (X:Cx) (st:Stmt) (t:TS):Prop:=
  ∀ (pins:List (Addr×Obj)) (s:Shared) (σ:St) (H:Hp) (D:Ends),Inv X pins σ H s→t D σ H→wpAny (model X.prog X.w) X.A (exec st X.env) (SP X pins D) X.xe s
def PSs (X:Cx) (st:List Stmt) (t:TS):Prop:=
  ∀ (pins:List (Addr×Obj)) (s:Shared) (σ:St) (H:Hp) (D:Ends),Inv X pins σ H s→t D σ H→wpAny (model X.prog X.w) X.A (execs st X.env) (SP X pins D) X.xe s
theorem thn {α:Type} {t:Sem α} {Q Q':α→Shared→Prop} {M:Model} {A:Around} {E:Value→Shared→Prop} {s:Shared} (h:wpAny M A t Q E s) (hQ:∀ a s,Q a s→Q' a s):wpAny M A t Q' E s:=wpAny_mono h hQ fun _ _ x=>x
end L2
namespace L2
open PySem PySem.Spec PyProof.Rows
section
variable {X:Cx}
def a1f (i:Nat):TE:=fun σ H Q=>∃ v,σ[i]?=some (some v)∧Q v H
def tC (v:V):TE:=fun _ H Q=>Q v H
theorem ayq {i:Nat} {x:Str} {pos:Pos} (hN:X.N[i]?=some x) (hv:Vis X.env.scope x) (hd:(x==("__debug__" : Str))=false:=by decide) (hcd:(x==("__classdict__" : Str))=false:=by decide):PE X (.Name x pos) (a1f i):=by
  intro pins s σ H Q I h
  obtain ⟨v,e,h⟩:=h
  obtain ⟨m,hn,hl⟩:=I.loc
  obtain ⟨u,r,l⟩:=hl i x v hN e hv
  have fin:EP X pins σ Q u s:=⟨v,H,I,r,h⟩
  rcases l with ⟨hk,hm⟩ | ⟨hk,c,hc,hcell⟩
  · exact wpAny_Name (wpAny_loadName_local I.ok.kind hk hn hm fin) hd
  · rcases hk with hk | hk
    · exact wpAny_Name (wpAny_loadName_cell I.ok.kind hk hc hcell fin) hd
    · exact wpAny_Name (wpAny_loadName_free I.ok.kind hk hc hcell fin hcd) hd
theorem az0 {i j pos}:PE X (.Constant (.int i) j pos) (tC (.int i)):=fun _ _ _ H _ I h=>wpAny_Constant_int ⟨.int i,H,I.tok _,⟨_,rfl⟩,h⟩
theorem a1t {b j pos}:PE X (.Constant (.bool b) j pos) (tC (.bl b)):=fun _ _ _ H _ I h=>Constant_bool ⟨.bl b,H,I,rfl,h⟩
theorem aze {j pos}:PE X (.Constant .none j pos) (tC .non):=fun _ _ _ H _ I h=>Constant_none ⟨.non,H,I,rfl,h⟩
theorem a0u {x j pos}:PE X (.Constant (.str x) j pos) (tC (.str x)):=fun _ _ _ H _ I h=>Calls.Constant_str ⟨.str x,H,I.tok _,⟨_,rfl⟩,h⟩
def Gl (X:Cx) (x:Str):Prop:=X.env.kindOf x=some .globalImplicit
theorem wu {E:Value→Shared→Prop} {pins:List (Addr×Obj)} {s:Shared} {σ:St} {H:Hp} {x:Str} {u:Value} {pos:Pos} {Q:Value→Shared→Prop} (I:Inv X pins σ H s) (hg:Gl X x) (hm:X.mg x=some u) (h:Q u s)
    (hd:(x==("__debug__" : Str))=false:=by decide):wpAny (model X.prog X.w) X.A (eval (.Name x pos) X.env) Q E s:=
  Calls.Name_function_global I.ok.kind hg (Calls.loadGlobal_global (by rw [I.ok.glob];exact I.mod.glob.keeps I.bk) hm h) hd
theorem aho {E:Value→Shared→Prop} {pins:List (Addr×Obj)} {s:Shared} {σ:St} {H:Hp} {x:Str} {u:Value} {pos:Pos} {Q:Value→Shared→Prop} (I:Inv X pins σ H s) (hg:Gl X x) (hm:X.mg x=none) (hv:bootBuiltins x=some u) (h:Q u s)
    (hn:x ≠ "__name__" := by decide) (hd:(x==("__debug__" : Str))=false:=by decide):wpAny (model X.prog X.w) X.A (eval (.Name x pos) X.env) Q E s:=by
  obtain ⟨mb,h1,h2⟩:=I.mod.blt
  exact Calls.Name_function_global I.ok.kind hg (Calls.loadGlobal_builtin (by rw [I.ok.glob];exact I.mod.glob.keeps I.bk) hm (by rw [I.ok.blt];exact h1.keeps I.bk) ((h2 x hn).trans hv) h) hd
theorem aul {x:Str} {v:V} {u:Value} {pos:Pos} (hg:Gl X x) (hm:X.mg x=some u) (r:RelV v u) (hd:(x==("__debug__" : Str))=false:=by decide):PE X (.Name x pos) (tC v):=
  fun _ _ _ H _ I h=>wu I hg hm ⟨v,H,I,r,h⟩ hd
theorem avq {x:Str} {v:V} {u:Value} {pos:Pos} (hg:Gl X x) (hm:X.mg x=none) (hv:bootBuiltins x=some u) (r:RelV v u) (hn:x ≠ "__name__" := by decide) (hd:(x==("__debug__" : Str))=false:=by decide):PE X (.Name x pos) (tC v):=
  fun _ _ _ H _ I h=>aho I hg hm hv ⟨v,H,I,r,h⟩ hn hd
variable {a b:Expr} {ta tb:TE} {pos:Pos}
def PC (X:Cx) (op:CmpOp) (a b:Expr) (t:TE):Prop:=
  ∀ (pins:List (Addr×Obj)) (s:Shared) (σ:St) (H:Hp) (Q:VK),Inv X pins σ H s→t σ H Q→
    wpAny (model X.prog X.w) X.A (eval a X.env) (fun v s₁=>wpAny (model X.prog X.w) X.A (eval b X.env) (fun u s₂=>wpAny (model X.prog X.w) X.A (compareOp op v u) (EP X pins σ Q) X.xe s₂) X.xe s₁) X.xe s
theorem aso (b:Expr) {op:CmpOp} (h:op≠.In) (h2:op≠.NotIn):behindInMarks op b=false:=by
  have e1:(op==CmpOp.In)=false:=by cases op<;>first | rfl | exact absurd rfl h
  have e2:(op==CmpOp.NotIn)=false:=by cases op<;>first | rfl | exact absurd rfl h2
  cases b<;>simp [behindInMarks,e1,e2]
def a3c (ta:TE):TE:=fun σ H Q=>ta σ H fun x H1=>Q (.bl (decide (x=.non))) H1
def ay7 (ta:TE):TE:=fun σ H Q=>ta σ H fun x H1=>Q (.bl (!decide (x=.non))) H1
theorem RelV.none_iff {x:V} {v:Value} (r:RelV x v):(v==Value.none)=decide (x=.non):=by
  cases x with
  | non=>cases r;rfl
  | bl _=>cases r;rfl
  | int _=>obtain ⟨t,rfl⟩:=r;rfl
  | str _=>obtain ⟨t,rfl⟩:=r;rfl
  | byt _=>obtain ⟨t,rfl⟩:=r;rfl
  | flt _=>obtain ⟨t,rfl⟩:=r;rfl
  | ref _=>cases r;rfl
  | ty _=>cases r;rfl
theorem azl {j pos'} (ha:PE X a ta):PC X .Is a (.Constant .none j pos') (a3c ta):=by
  intro pins s σ H Q I h
  refine thn (ha pins s σ H _ I h) fun v s1 ⟨x,H1,I1,r1,q1⟩=>?_
  exact Constant_none (is_none_gen ⟨.bl _,H1,I1,by rw [r1.none_iff];rfl,q1⟩)
theorem av1 {j pos'} (ha:PE X a ta):PC X .IsNot a (.Constant .none j pos') (ay7 ta):=by
  intro pins s σ H Q I h
  refine thn (ha pins s σ H _ I h) fun v s1 ⟨x,H1,I1,r1,q1⟩=>?_
  exact Constant_none (isnot_none_gen ⟨.bl _,H1,I1,by rw [r1.none_iff];rfl,q1⟩)
def tB (t:TE):TT:=fun σ H Q=>t σ H fun x H1=>∃ c,x=.bl c∧Q c H1
theorem arw {op:CmpOp} {t:TE} (h:PC X op a b t) (h1:behindInMarks op b=false:=by first | exact aso _ (by decide) (by decide) | rfl):PT X (.Compare a [op] [b] pos) (tB t):=by
  intro pins s σ H Q I hw
  refine wpAny_isTrue_Compare1 (thn (h pins s σ H _ I hw) fun v s1 h1=>thn h1 fun u s2 h2=>thn h2 fun c s3 ⟨x,H1,I1,r1,q1⟩=>?_) h1
  obtain ⟨d,rfl,q⟩:=q1
  cases r1
  exact wpAny_truthy_bool ⟨H1,I1,q⟩
theorem azr {e:Expr} {t:TE} (h:PE X e t) (he:∀ whole,isTrue e X.env whole=(do let v ← whole;standAt e.pos;holding [v] (truthy v)):=by intro _;rfl):PT X e (tB t):=by
  intro pins s σ H Q I hw
  refine isTrue_plain (thn (h pins s σ H _ I hw) fun v s1 ⟨x,H1,I1,r1,q1⟩=>?_) (he _)
  obtain ⟨d,rfl,q⟩:=q1
  cases r1
  exact wpAny_truthy_bool ⟨H1,I1,q⟩
variable {tA tB':TT} {rest:List Expr}
def a3e (t u:TT):TT:=fun σ H Q=>t σ H fun c H1=>if c=true then u σ H1 Q else Q false H1
def tOr (t u:TT):TT:=fun σ H Q=>t σ H fun c H1=>if c=true then Q true H1 else u σ H1 Q
def a47 (t:TT):TT:=fun σ H Q=>t σ H fun c H1=>Q (!c) H1
theorem ax3 (ha:PT X a tA):PW X (.BoolOp .And [a] pos) tA:=by
  intro wh pins s σ H Q I h
  refine isTrue_and (thn (ha pins s σ H Q I h) fun c s1 e=>?_)
  cases c with
  | true=>exact isTrue_and_nil e
  | false=>exact e
theorem ayw (ha:PT X a tA):PW X (.BoolOp .Or [a] pos) tA:=by
  intro wh pins s σ H Q I h
  refine isTrue_or (thn (ha pins s σ H Q I h) fun c s1 e=>?_)
  cases c with
  | false=>exact isTrue_or_nil e
  | true=>exact e
theorem azd (ha:PT X a tA) (hb:PW X (.BoolOp .And (b::rest) pos) tB'):PW X (.BoolOp .And (a::b::rest) pos) (a3e tA tB'):=by
  intro wh pins s σ H Q I h
  refine isTrue_and (thn (ha pins s σ H _ I h) fun c s1 ⟨H1,I1,q1⟩=>?_)
  cases c with
  | true=>exact hb wh pins s1 σ H1 Q I1 q1
  | false=>exact ⟨H1,I1,q1⟩
theorem a1m (ha:PT X a tA) (hb:PW X (.BoolOp .Or (b::rest) pos) tB'):PW X (.BoolOp .Or (a::b::rest) pos) (tOr tA tB'):=by
  intro wh pins s σ H Q I h
  refine isTrue_or (thn (ha pins s σ H _ I h) fun c s1 ⟨H1,I1,q1⟩=>?_)
  cases c with
  | true=>exact ⟨H1,I1,q1⟩
  | false=>exact hb wh pins s1 σ H1 Q I1 q1
theorem a07 (ha:PT X a tA):PT X (.UnaryOp .Not a pos) (a47 tA):=by
  intro pins s σ H Q I h
  exact isTrue_not (ha pins s σ H (fun c H1=>Q (!c) H1) I h)
def a2b (ta tb:TE):TE:=fun σ H Q=>ta σ H fun x H1=>∃ c,x=.bl c∧if c=true then tb σ H1 Q else Q (.bl false) H1
def a2e (ta:TE):TE:=fun σ H Q=>ta σ H fun x H1=>∃ c,x=.bl c∧Q (.bl (!c)) H1
theorem ayg {op} {t:TE} (h:PE X a t):PE X (.BoolOp op [a] pos) t:=fun pins s σ H Q I hw=>BoolOp_one (h pins s σ H Q I hw)
theorem ayt (ha:PE X a ta) (hb:PE X (.BoolOp .And (b::rest) pos) tb):PE X (.BoolOp .And (a::b::rest) pos) (a2b ta tb):=by
  intro pins s σ H Q I h
  refine BoolOp_and (thn (ha pins s σ H _ I h) fun v s1 ⟨x,H1,I1,r1,q1⟩=>?_)
  obtain ⟨c,rfl,q1⟩:=q1
  cases r1
  refine wpAny_truthy_bool ?_
  cases c with
  | true=>exact hb pins s1 σ H1 Q I1 q1
  | false=>exact ⟨.bl false,H1,I1,rfl,q1⟩
theorem a05 (ha:PE X a ta):PE X (.UnaryOp .Not a pos) (a2e ta):=by
  intro pins s σ H Q I h
  refine UnaryOp_ (thn (ha pins s σ H _ I h) fun v s1 ⟨x,H1,I1,r1,q1⟩=>?_)
  obtain ⟨c,rfl,q1⟩:=q1
  cases r1
  exact not_of (wpAny_truthy_bool ⟨.bl (!c),H1,I1,rfl,q1⟩)
def tIf (t:TT) (ta tb:TE):TE:=fun σ H Q=>t σ H fun c H1=>if c=true then ta σ H1 Q else tb σ H1 Q
theorem auf {c:Expr} (hc:PT X c tA) (ha:PE X a ta) (hb:PE X b tb):PE X (.IfExp c a b pos) (tIf tA ta tb):=by
  intro pins s σ H Q I h
  refine wpAny_IfExp (thn (hc pins s σ H _ I h) fun d s1 ⟨H1,I1,q1⟩=>?_)
  cases d with
  | true=>exact ha pins s1 σ H1 Q I1 q1
  | false=>exact hb pins s1 σ H1 Q I1 q1
end
end L2
namespace L2
open PySem PySem.Spec PyProof.Rows
def SqL (K:PySem.W.Frag) (H:Hp) (a:Addr) (xs:List V):Prop:=
  Rd H a (.lst xs)∨
    ∃ (o:Obj) (its:Array Value) (n:Nat),K.lookup a=some o∧o.cls=.type "list" ∧ o.dict=none∧o.data=.seq its n∧its.size≤sizeLine∧Vals xs its.toList
def SqT (K:PySem.W.Frag) (H:Hp) (a:Addr) (xs:List V):Prop:=
  Rd H a (.tup xs)∨
    ∃ (o:Obj) (its:Array Value) (n:Nat),K.lookup a=some o∧o.cls=.type "tuple" ∧ o.data=.seq its n∧its.size≤sizeLine∧Vals xs its.toList
def a4z:Value→Option V
  | .none=>some .non
  | .bool b=>some (.bl b)
  | .int i _=>some (.int i)
  | .str x _=>some (.str x)
  | .bytes b _=>some (.byt b)
  | .float b _=>some (.flt b)
  | .ref a=>some (.ref a)
  | .type n=>some (.ty n)
  | _=>none
theorem RelV.abs {x:V} {u:Value} (r:RelV x u):a4z u=some x:=by
  cases x with
  | non=>cases r;rfl
  | bl _=>cases r;rfl
  | int _=>obtain ⟨t,rfl⟩:=r;rfl
  | str _=>obtain ⟨t,rfl⟩:=r;rfl
  | byt _=>obtain ⟨t,rfl⟩:=r;rfl
  | flt _=>obtain ⟨t,rfl⟩:=r;rfl
  | ref _=>cases r;rfl
  | ty _=>cases r;rfl
theorem RelV.inj {x y:V} {u:Value} (r:RelV x u) (q:RelV y u):x=y:=Option.some.inj (r.abs.symm.trans q.abs)
theorem Vals.inj:∀ {xs ys:List V} {us:List Value},Vals xs us→Vals ys us→xs=ys
  | _,_,_,.nil,.nil=>rfl
  | _,_,_,.cons r t,.cons r' t'=>by rw [r.inj r',Vals.inj t t']
section
variable {X:Cx} {pins:List (Addr×Obj)} {σ:St} {H:Hp} {s:Shared} {a:Addr} {xs ys:List V}
theorem SqL.of {K:PySem.W.Frag} (h:H a=some (.lst xs)):SqL K H a xs:=.inl (.inl h)
theorem SqT.of {K:PySem.W.Frag} (h:H a=some (.tup xs)):SqT K H a xs:=.inl (.inl h)
theorem Inv.list (I:Inv X pins σ H s) (h:SqL X.K H a xs):∃ its:List Value,Vals xs its∧PlainL s.heap a its.toArray∧xs.length≤sizeLine:=by
  rcases h with h | ⟨o,its,n,hk,hc,hd,hs,hz,r⟩
  · obtain ⟨z,its,n,r,e⟩:=h.ok I.hok
    exact ⟨its,r,⟨_,n,e,rfl,rfl,rfl⟩,z⟩
  · refine ⟨its.toList,r,⟨o,n,I.kIn a o hk,hc,hd,by simpa using hs⟩,?_⟩
    have e:=r.length
    simp only [Array.length_toList] at e
    omega
theorem Inv.tuple (I:Inv X pins σ H s) (h:SqT X.K H a xs):∃ its:List Value,Vals xs its∧IsTup s.heap a its.toArray∧xs.length≤sizeLine:=by
  rcases h with h | ⟨o,its,n,hk,hc,hs,hz,r⟩
  · obtain ⟨z,its,r,p⟩:=h.ok I.hok
    exact ⟨its,r,p,z⟩
  · refine ⟨its.toList,r,⟨o,I.kIn a o hk,hc,n,by simpa using hs⟩,?_⟩
    have e:=r.length
    simp only [Array.length_toList] at e
    omega
theorem Inv.list_inj (I:Inv X pins σ H s) (h:SqL X.K H a xs) (h':SqL X.K H a ys):xs=ys:=by
  obtain ⟨its,r,⟨o,n,e,_,_,d⟩,_⟩:=I.list h
  obtain ⟨its',r',⟨o',n',e',_,_,d'⟩,_⟩:=I.list h'
  rw [e] at e';cases e'
  rw [d] at d'
  injection d' with d1 _
  have:its=its':=by simpa using congrArg Array.toList d1
  subst this
  exact r.inj r'
theorem Inv.tuple_inj (I:Inv X pins σ H s) (h:SqT X.K H a xs) (h':SqT X.K H a ys):xs=ys:=by
  obtain ⟨its,r,⟨o,e,_,n,d⟩,_⟩:=I.tuple h
  obtain ⟨its',r',⟨o',e',_,n',d'⟩,_⟩:=I.tuple h'
  rw [e] at e';cases e'
  rw [d] at d'
  injection d' with d1 _
  have:its=its':=by simpa using congrArg Array.toList d1
  subst this
  exact r.inj r'
end
abbrev Cx.wish (X:Cx) (E:Value→Shared→Prop):Cx:={ X with xe:=E }
abbrev Cx.nox (X:Cx):Cx:=X.wish fun _ _=>False
theorem Cx.Ok.wish {X:Cx} (ok:X.Ok) (E:Value→Shared→Prop):(X.wish E).Ok:=
  ⟨ok.mod,ok.kind,ok.glob,ok.blt,ok.above,ok.inj,ok.has,ok.cab,ok.hd,ok.frames,ok.stk,ok.exf,ok.bs,ok.bsz,ok.noex,ok.exfs,ok.funs,ok.frf⟩
theorem Cx.Ok.unwish {X:Cx} {E:Value→Shared→Prop} (ok:(X.wish E).Ok):X.Ok:=
  ⟨ok.mod,ok.kind,ok.glob,ok.blt,ok.above,ok.inj,ok.has,ok.cab,ok.hd,ok.frames,ok.stk,ok.exf,ok.bs,ok.bsz,ok.noex,ok.exfs,ok.funs,ok.frf⟩
section
variable {X:Cx} {pins:List (Addr×Obj)} {σ:St} {H:Hp} {s:Shared} {E:Value→Shared→Prop}
theorem Inv.wish (I:Inv X pins σ H s) (E:Value→Shared→Prop):Inv (X.wish E) pins σ H s:=⟨I.ok.wish E,I.os,I.bare,I.base,I.loc,I.cell,I.free,I.freeC,I.pin,I.hok,I.len,I.tk⟩
theorem Inv.unwish (I:Inv (X.wish E) pins σ H s):Inv X pins σ H s:=⟨I.ok.unwish,I.os,I.bare,I.base,I.loc,I.cell,I.free,I.freeC,I.pin,I.hok,I.len,I.tk⟩
theorem SP.unwish {D:Ends} {f:Flow} {s':Shared} (h:SP (X.wish E) pins D f s'):SP X pins D f s':=by
  cases f with
  | next=>obtain ⟨σ',H',I,q⟩:=h;exact ⟨σ',H',I.unwish,q⟩
  | brk=>obtain ⟨σ',H',I,q⟩:=h;exact ⟨σ',H',I.unwish,q⟩
  | cont=>obtain ⟨σ',H',I,q⟩:=h;exact ⟨σ',H',I.unwish,q⟩
  | ret u=>obtain ⟨v,σ',H',I,r,q⟩:=h;exact ⟨v,σ',H',I.unwish,r,q⟩
theorem PSs.nox {st:List Stmt} {t:TS} (h:PSs X.nox st t):PSs X st t:=fun pins s σ H D I hw=>
  wpAny_mono (h pins s σ H D (I.wish _) hw) (fun _ _ q=>q.unwish) fun _ _ z=>False.elim z
end
section
variable {X:Cx} {st:Stmt} {rest:List Stmt} {t u:TS} {e:Expr} {te:TE} {pos:Pos}
def a32:TS:=fun D σ H=>D.nx σ H
def a3v (t u:TS):TS:=fun D σ H=>t { D with nx:=u D } σ H
theorem axf:PSs X [] a32:=fun _ _ σ H _ I h=>wpAny_execs_nil ⟨σ,H,I,h⟩
theorem am1 (h1:PS X st t) (h2:PSs X rest u):PSs X (st::rest) (a3v t u):=by
  intro pins s σ H D I h
  refine wpAny_execs_cons (thn (h1 pins s σ H { D with nx:=u D } I h) fun f s1 q=>?_)
  cases f with
  | next=>
    obtain ⟨σ',H',I',q⟩:=q
    exact h2 pins s1 σ' H' D I' q
  | ret v=>exact q
  | brk=>exact q
  | cont=>exact q
theorem ag6 (h1:PS X st t):PSs X [st] t:=by
  intro pins s σ H D I h
  refine wpAny_execs_cons (thn (h1 pins s σ H D I h) fun f s1 q=>?_)
  cases f with
  | next=>exact wpAny_execs_nil q
  | ret v=>exact q
  | brk=>exact q
  | cont=>exact q
theorem Inv.quiet {pins:List (Addr×Obj)} {σ:St} {H:Hp} {s:Shared} (I:Inv X pins σ H s):interactive X.env=false:=by simp [interactive,I.ok.kind]
def a27 (te:TE):TS:=fun D σ H=>te σ H fun _ H1=>D.nx σ H1
theorem ak7 (he:PE X e te) (hs:swapsWith e none pos.line X.env=pure false:=by rfl):PS X (.Expr e pos) (a27 te):=by
  intro pins s σ H D I h
  exact wpAny_Expr_any (thn (he pins s σ H _ I h) fun v s1 ⟨x,H1,I1,r1,q1⟩=>⟨σ,H1,I1,q1⟩) I.quiet hs
def a4t (te:TE):TS:=fun D σ H=>te σ H D.rt
theorem a13 (he:PE X e te):PS X (.Return (some e) pos) (a4t te):=by
  intro pins s σ H D I h
  exact wpAny_Return_some (thn (he pins s σ H _ I h) fun v s1 ⟨x,H1,I1,r1,q1⟩=>⟨x,σ,H1,I1,r1,q1⟩)
def a4u (c:TT) (t u:TS):TS:=fun D σ H=>c σ H fun b H1=>if b=true then t D σ H1 else u D σ H1
theorem axp {c:Expr} {a b:List Stmt} {tc:TT} (hc:PT X c tc) (ha:PSs X a t) (hb:PSs X b u):PS X (.If c a b pos) (a4u tc t u):=by
  intro pins s σ H D I h
  refine wpAny_If (thn (hc pins s σ H _ I h) fun d s1 ⟨H1,I1,q1⟩=>?_)
  cases d with
  | true=>exact ha pins s1 σ H1 D I1 q1
  | false=>exact hb pins s1 σ H1 D I1 q1
end
abbrev TG:=V→St→Hp→(St→Hp→Prop)→Prop
abbrev TGs:=List V→St→Hp→(St→Hp→Prop)→Prop
def PG (X:Cx) (target:Expr) (t:TG):Prop:=
  ∀ (pins:List (Addr×Obj)) (s:Shared) (σ:St) (H:Hp) (v:V) (u:Value) (Q:St→Hp→Prop),Inv X pins σ H s→RelV v u→t v σ H Q→
    wpAny (model X.prog X.w) X.A (assign target X.env u) (fun _ s'=>∃ σ' H',Inv X pins σ' H' s'∧Q σ' H') X.xe s
def PGs (X:Cx) (ts:List Expr) (t:TGs):Prop:=
  ∀ (pins:List (Addr×Obj)) (s:Shared) (σ:St) (H:Hp) (vs:List V) (us:List Value) (Q:St→Hp→Prop),Inv X pins σ H s→Vals vs us→t vs σ H Q→
    wpAny (model X.prog X.w) X.A (assignInOrder ((assignEach ts X.env).map (·.2)) us) (fun _ s'=>∃ σ' H',Inv X pins σ' H' s'∧Q σ' H') X.xe s
abbrev a1d:=V→V→V→Hp→(Hp→Prop)→Prop
def a2l (X:Cx) (t:a1d):Prop:=
  ∀ (pins:List (Addr×Obj)) (s:Shared) (σ:St) (H:Hp) (o i v:V) (ov iv u:Value) (Q:Hp→Prop),Inv X pins σ H s→RelV o ov→RelV i iv→RelV v u→t o i v H Q→
    wpAny (model X.prog X.w) X.A (setItem ov iv u) (fun _ s'=>∃ H',Inv X pins σ H' s'∧Q H') X.xe s
section
variable {X:Cx} {pos:Pos}
def abd (i:Nat):TG:=fun v σ H Q=>Q (σ.set i (some v)) H
theorem ag3 {i:Nat} {x:Str} (hN:X.N.Nodup) (hi:X.N[i]?=some x) (hx:Loc X.env.scope x) (hf:X.fn x=true∨X.env.scope.names.lookup x=some .local:=by first | exact .inl rfl | exact .inr rfl | assumption):PG X (.Name x pos) (abd i):=by
  intro pins s σ H v u Q I r h
  exact wpAny_assign_Name (agu I hN hi hx r (fun s' I'=>⟨_,H,I',h⟩) hf)
def ayz:TGs:=fun vs σ H Q=>vs=[]∧Q σ H
def alu (t:TG) (u:TGs):TGs:=fun vs σ H Q=>∃ v r,vs=v::r∧t v σ H fun σ' H'=>u r σ' H' Q
theorem aos:PGs X [] ayz:=by
  intro pins s σ H vs us Q I r h
  obtain ⟨e,h⟩:=h
  subst e
  cases r
  exact assignInOrder_nil ⟨σ,H,I,h⟩
theorem aha {e:Expr} {es:List Expr} {t:TG} {u:TGs} (h1:PG X e t) (h2:PGs X es u)
    (hs:(assignEach (e::es) X.env).map (·.2)=assign e X.env::(assignEach es X.env).map (·.2):=by rfl):PGs X (e::es) (alu t u):=by
  intro pins s σ H vs us Q I r h
  obtain ⟨v,vr,e1,h⟩:=h
  subst e1
  cases r with
  | cons r rr=>
    rw [hs]
    refine assignInOrder_cons (thn (h1 pins s σ H _ _ _ I r h) fun _ s1 ⟨σ1,H1,I1,q1⟩=>?_)
    exact h2 pins s1 σ1 H1 _ _ Q I1 rr q1
def a02 (K:PySem.W.Frag) (n:Nat) (t:TGs):TG:=fun v σ H Q=>∃ a xs,v=.ref a∧SqT K H a xs∧xs.length=n∧t xs σ H Q
theorem arb {es:List Expr} {k:Nat} {t:TGs} {n:Nat} (hc:X.calm=true) (h:PGs X es t)
    (hn:(assignEach es X.env).length=n:=by rfl) (hst:(assignEach es X.env).findIdx? (·.1)=none:=by rfl):PG X (.Tuple es k pos) (a02 X.K n t):=by
  intro pins s σ H v u Q I r hw
  obtain ⟨a,xs,e1,hq,hl,hw⟩:=hw
  subst e1
  cases r
  obtain ⟨its,rv,ht,hz⟩:=I.tuple hq
  refine assign_Tuple_tuple (I.ok.hd hc) ht (by simp [hn,← hl,rv.length]) hst fun h' hx=>?_
  have I1:Inv X pins σ H { s with heap:=h' }:=I.kept (t':=s.toks) fun b o e=>hx b o (Nat.ne_of_lt (Heap.lt_size e)) e
  exact h pins _ σ H xs _ Q I1 (by simpa using rv) hw
def a4q (to ti:TE) (t:a1d):TG:=fun v σ H Q=>to σ H fun o H1=>ti σ H1 fun i H2=>t o i v H2 fun H3=>Q σ H3
theorem azc {o i:Expr} {to ti:TE} {t:a1d} (ho:PE X o to) (hi:PE X i ti) (hs:a2l X t)
    (ha:∀ v,assign (.Subscript o i pos) X.env v=(do
      let ov ← holding [v] (eval o X.env)
      let iv ← holding [v,ov] (eval i X.env)
      standAt pos
      holding [v,ov,iv] (setItem ov iv v)
      release [v,ov,iv] []):=by intro _;rfl):PG X (.Subscript o i pos) (a4q to ti t):=by
  intro pins s σ H v u Q I r h
  rw [ha]
  refine wpAny_bind (wpAny_holding (thn (ho pins s σ H _ I h) fun ov s1 ⟨x,H1,I1,r1,q1⟩=>?_))
  refine wpAny_bind (wpAny_holding (thn (hi pins s1 σ H1 _ I1 q1) fun iv s2 ⟨y,H2,I2,r2,q2⟩=>?_))
  refine wpAny_bind (wpAny_standAt (wpAny_bind (wpAny_holding (thn (hs pins s2 σ H2 x y v ov iv u _ I2 r1 r2 r q2) fun _ s3 ⟨H3,I3,q3⟩=>?_))))
  exact wpAny_release ⟨σ,H3,I3,q3⟩
def az4 (te:TE) (g:TG):TS:=fun D σ H=>te σ H fun x H1=>g x σ H1 D.nx
theorem a0h {tg e:Expr} {te:TE} {g:TG} (he:PE X e te) (hg:PG X tg g) (hs:swapsWithSole [tg] e pos.line X.env=pure false:=by rfl) (hw:swappedStores [tg] e X.env=pure none:=by rfl)
    (h1:(assignEach [tg] X.env).map (·.2)=[assign tg X.env]:=by rfl):PS X (.Assign [tg] e pos) (az4 te g):=by
  intro pins s σ H D I h
  refine wpAny_Assign_stores (thn (he pins s σ H _ I h) fun v s1 ⟨x,H1,I1,r1,q1⟩=>?_) hs hw
  rw [h1]
  exact thn (hg pins s1 σ H1 x v _ I1 r1 q1) fun _ s2 q=>q
theorem a0b {i:Nat} {x:Str} {e:Expr} {te:TE} {pos':Pos} (hN:X.N.Nodup) (hi:X.N[i]?=some x) (hx:Loc X.env.scope x) (he:PE X e te) (hs:swapsWith e (some (.Name x pos')) pos.line X.env=pure false:=by rfl) (hf:X.fn x=true∨X.env.scope.names.lookup x=some .local:=by first | exact .inl rfl | exact .inr rfl | assumption):
    PS X (.Assign [.Name x pos'] e pos) (az4 te (abd i)):=by
  intro pins s σ H D I h
  refine wpAny_Assign_Name (thn (he pins s σ H _ I h) fun v s1 ⟨y,H1,I1,r1,q1⟩=>?_) hs
  exact agu I1 hN hi hx r1 (fun s2 I2=>⟨_,H1,I2,q1⟩) hf
end
section
variable {X:Cx} {pos:Pos}
def ayj (c:TT) (tb:TS):TS:=fun D σ H=>∃ W:Nat→St→Hp→Prop,(∃ m,W m σ H)∧∀ m σ H,W m σ H→
  c σ H fun b H1=>if b=true then ∃ N:St→Hp→Prop,(∀ σ' H',N σ' H'→∃ m',m'<m∧W m' σ' H')∧tb { D with nx:=N,ct:=N,bk:=D.nx } σ H1 else D.nx σ H1
theorem ar7 {c:Expr} {body:List Stmt} {tc:TT} {tb:TS} (hp:PassesOwn (model X.prog X.w) X.A X.env X.xe) (hc:PT X c tc) (hb:PSs X body tb):PS X (.While c body [] pos) (ayj tc tb):=by
  intro pins s σ H D I h
  obtain ⟨W,⟨m0,w0⟩,turn⟩:=h
  refine wpAny_While (codeAny_whileLoop (fun n s'=>∃ σ' H',Inv X pins σ' H' s'∧W n σ' H') ?_ m0 ⟨σ,H,I,w0⟩)
  rintro n s1 ⟨σ1,H1,I1,w1⟩
  refine wpAny_passesOwn hp (thn (hc pins s1 σ1 H1 _ I1 (turn n σ1 H1 w1)) fun b s2 ⟨H2,I2,q2⟩=>?_)
  cases b with
  | true=>
    obtain ⟨N,hN,q2⟩:=q2
    rw [if_pos rfl]
    refine wpAny_passesOwn hp (thn (hb pins s2 σ1 H2 _ I2 q2) fun f s3 q3=>?_)
    cases f with
    | next=>
      obtain ⟨σ3,H3,I3,n3⟩:=q3
      obtain ⟨m',hm,w3⟩:=hN σ3 H3 n3
      exact ⟨m',hm,σ3,H3,I3,w3⟩
    | cont=>
      obtain ⟨σ3,H3,I3,n3⟩:=q3
      obtain ⟨m',hm,w3⟩:=hN σ3 H3 n3
      exact ⟨m',hm,σ3,H3,I3,w3⟩
    | brk=>exact q3
    | ret v=>exact q3
  | false=>
    rw [if_neg Bool.false_ne_true]
    exact wpAny_execs_nil ⟨σ1,H2,I2,q2⟩
end
structure It where
  go:Nat→Hp→Prop
  yld:Nat→Hp→V→Hp→Prop
  stop:Nat→Hp→Prop
def aid (X:Cx) (pins:List (Addr×Obj)) (H:Hp) (b:Addr):Prop:=
  H b=none∧b≠X.env.locals∧b∉X.fs∧(b∈X.ex∨X.s₀.heap.objs.size≤b)∧(∀ x c,X.env.cells.lookup x=some c→c≠b)∧∀ p∈X.pn++pins,p.1≠b
theorem Inv.fpOk {X:Cx} {pins:List (Addr×Obj)} {σ:St} {H H':Hp} {s:Shared} {b:Addr} (I:Inv X pins σ H s) (hb:s.heap.objs.size≤b) (hn:H' b=none):aid X pins H' b:=by
  refine ⟨hn,Nat.ne_of_gt (Nat.lt_of_lt_of_le I.lt hb),I.nofs hb,.inr (Nat.le_trans I.sz hb),fun x c e z=>?_,fun p hp z=>?_⟩
  · obtain ⟨v,q⟩:=I.cell x c e
    exact absurd (Nat.lt_of_lt_of_le q.lt (by rw [z];exact hb)) (Nat.lt_irrefl _)
  · exact absurd (Nat.lt_of_lt_of_le (Heap.lt_size (I.pin p hp).1) (by rw [z];exact hb)) (Nat.lt_irrefl _)
structure Turn (P:Program) (w:World) (K:PySem.W.Frag) (tg:Expr) (J:It) (fp:List Addr) (it:Addr) (tn:Nat→Heap→Prop):Prop where
  mem:it∈fp
  obj:∀ i h,tn i h→∀ b∈fp,∃ o,h.get? b=some o∧∀ v,o.data≠.cell v
  keep:∀ i h h',tn i h→(∀ b∈fp,∀ o,h.get? b=some o→h'.get? b=some o)→tn i h'
  item:∀ (X:Cx),X.prog=P→X.w=w→X.K=K→X.calm=true→∀ (i:Nat) (pins:List (Addr×Obj)) (s:Shared) (σ:St) (H:Hp) (E:Value→Shared→Prop),Inv X pins σ H s→(∀ b∈fp,aid X pins H b)→tn i s.heap→J.go i H→
    wpAny (model P w) X.A (pyNext (.ref it)) (fun r s1=>∃ u,r=some u∧
      wpAny (model P w) X.A (letOwnedTupleGo tg (.ref it) u) (fun _ s2=>∃ x H',Inv X pins σ H' s2∧RelV x u∧J.yld i H x H'∧tn (i+1) s2.heap∧∀ b∈fp,H' b=none) E s1) E s
  done:∀ (X:Cx),X.prog=P→X.w=w→X.K=K→X.calm=true→∀ (i:Nat) (pins:List (Addr×Obj)) (s:Shared) (σ:St) (H:Hp) (E:Value→Shared→Prop),Inv X pins σ H s→(∀ b∈fp,aid X pins H b)→tn i s.heap→J.stop i H→
    wpAny (model P w) X.A (pyNext (.ref it)) (fun r s1=>r=none∧Inv X pins σ H s1) E s
  self:∀ (A:Around) (i:Nat) (s:Shared) (Q:Value→Shared→Prop) (E:Value→Shared→Prop),tn i s.heap→Q (.ref it) s→wpAny (model P w) A (pyIter (.ref it)) Q E s
abbrev TI:=St→Hp→(It→Hp→Prop)→Prop
def PIE (X:Cx) (pins:List (Addr×Obj)) (σ:St) (tg:Expr) (R:It→Hp→Prop) (itv:Value) (s2:Shared):Prop:=
  ∃ (it:Addr) (fp:List Addr) (tn:Nat→Heap→Prop) (J:It) (H':Hp),itv=.ref it∧Inv X pins σ H' s2∧Turn X.prog X.w X.K tg J fp it tn∧tn 0 s2.heap∧(∀ b∈fp,aid X pins H' b)∧R J H'
def PI (X:Cx) (tg iter:Expr) (wi:TI):Prop:=
  ∀ (pins:List (Addr×Obj)) (s:Shared) (σ:St) (H:Hp) (R:It→Hp→Prop),Inv X pins σ H s→wi σ H R→
    wpAny (model X.prog X.w) X.A (eval iter X.env) (fun v s1=>wpAny (model X.prog X.w) X.A (pyIter v) (PIE X pins σ tg R) X.xe s1) X.xe s
theorem ay9 {M:Model} {A:Around} {E:Value→Shared→Prop} {s:Shared} {tg:Expr} {it:Addr} {u:Value} {o:Obj} {n:String} {vs:Array Value} {Q:Unit→Shared→Prop} (ho:s.heap.get? it=some o) (hc:o.cls=.type n) (hd:o.data=.fields vs)
    (hn:["enumerate", "zip", "dict_itemiterator", "dict_reverseitemiterator", "odict_iterator", "itertools.zip_longest", "itertools.pairwise"].contains n=false) (hQ:Q () s):wpAny M A (letOwnedTupleGo tg (.ref it) u) Q E s:=by
  unfold letOwnedTupleGo
  cases tg<;>first
    | exact wpAny_pure hQ
    | (cases u<;>first
        | exact wpAny_pure hQ
        | (refine wpAny_bind (wpAny_load ho ?_)
           rw [hc,hd]
           show wpAny M A (if (["enumerate", "zip", "dict_itemiterator", "dict_reverseitemiterator", "odict_iterator", "itertools.zip_longest", "itertools.pairwise"].contains n&&vs[0]?==some (rawInt _))=true then _ else _) Q E s
           rw [if_neg (by intro h;rw [hn,Bool.false_and] at h;cases h)]
           exact wpAny_pure hQ))
def Itl (K:PySem.W.Frag) (a:Addr):It:=
  ⟨fun i H=>∃ xs x,SqL K H a xs∧xs[i]?=some x,fun i H x H'=>H'=H∧∀ xs,SqL K H a xs→xs[i]?=some x,fun i H=>∃ xs,SqL K H a xs∧xs.length≤i⟩
def Itr (lo:Int) (n:Nat):It:=⟨fun i _=>i<n,fun i H x H'=>H'=H∧x=.int (lo+i),fun i _=>n≤i⟩
theorem aq2 {P:Program} {w:World} {K:PySem.W.Frag} {tg:Expr} (a it:Addr):Turn P w K tg (Itl K a) [it] it (fun i h=>h.IsListIter it a i) where
  mem:=by simp
  obj:=fun i h st b hb=>by
    have e:b=it:=by simpa using hb
    subst e
    obtain ⟨o,e,c,d⟩:=st
    exact ⟨o,e,fun v z=>by rw [d] at z;cases z⟩
  keep:=fun i h h' st k=>st.at fun o e=>k it (by simp) o e
  item:=by
    intro X hP hw hK hc i pins s σ H E I hf st hg
    subst hP hw hK
    obtain ⟨xs,x,hq,hx⟩:=hg
    obtain ⟨its,rv,p,hz⟩:=I.list hq
    obtain ⟨u,hu,ru⟩:=rv.get hx
    obtain ⟨f0,f1,f2,f3,f4,f5⟩:=hf it (by simp)
    refine wpAny_pyNext_list_item st p.isList (x:=u) (by simpa using hu) fun h' st' sb=>?_
    have I1:Inv X pins σ H { s with heap:=h' }:=I.turned (t':=s.toks) (fun b o hb e=>(sb.2 b hb).trans e) f0 f1 f3 f4 f5
    obtain ⟨o,e,c,d⟩:=id st'
    exact ⟨u,rfl,ay9 (s:={ s with heap:=h' }) e c d (by decide) ⟨x,H,I1,ru,⟨rfl,fun ys hy=>by rw [I.list_inj hy hq];exact hx⟩,st',fun b hb=>(hf b hb).1⟩⟩
  done:=by
    intro X hP hw hK hc i pins s σ H E I hf st hg
    subst hP hw hK
    obtain ⟨xs,hq,hx⟩:=hg
    obtain ⟨its,rv,p,hz⟩:=I.list hq
    obtain ⟨f0,f1,f2,f3,f4,f5⟩:=hf it (by simp)
    have hl:=rv.length
    exact wpAny_pyNext_list_end (I.ok.hd hc) st p.isList (by simp;omega) fun h' eb=>⟨rfl,I.turned (t':=s.toks) (fun b o hb e=>eb b o hb e) f0 f1 f3 f4 f5⟩
  self:=fun _ _ _ _ _ st h=>wpAny_pyIter_listiter st h
theorem ane {P:Program} {w:World} {K:PySem.W.Frag} {tg:Expr} (it:Addr) (lo:Int) (n:Nat):Turn P w K tg (Itr lo n) [it] it (fun i h=>IsRangeIter h it (lo+(i:Nat)*1) ((n:Int) - (i:Nat)) 1) where
  mem:=by simp
  obj:=fun i h st b hb=>by
    have e:b=it:=by simpa using hb
    subst e
    exact ⟨_,st,fun v z=>by
      have z':Data.fields _=Data.cell v:=z
      cases z'⟩
  keep:=fun i h h' st k=>k it (by simp) _ st
  item:=by
    intro X hP hw hK hc i pins s σ H E I hf st hg
    subst hP hw hK
    obtain ⟨f0,f1,f2,f3,f4,f5⟩:=hf it (by simp)
    have W:=Walks.range (prog:=X.prog) (w:=X.w) (I.ok.hd hc) it lo 1 n
    refine j9 I.tk (W.item i s _ _ hg st fun v h' tk hv st' kk ht=>?_)
    obtain ⟨t,rfl⟩:=hv
    have I1:Inv X pins σ H { s with heap:=h',toks:=tk }:=I.turned (fun b o hb e=>kk b o (by simpa using hb) e) f0 f1 f3 f4 f5
    refine ⟨_,rfl,ay9 (s:={ s with heap:=h',toks:=tk }) (n:="range_iterator") st' rfl rfl (by decide) ⟨.int (lo+i),H,I1,⟨t,?_⟩,⟨rfl,rfl⟩,st',fun b hb=>(hf b hb).1⟩⟩
    rw [Int.mul_one]
  done:=by
    intro X hP hw hK hc i pins s σ H E I hf st hg
    subst hP hw hK
    obtain ⟨f0,f1,f2,f3,f4,f5⟩:=hf it (by simp)
    exact wpAny_pyNext_range_end (I.ok.hd hc) st (by have:n≤i:=hg;omega) fun h' eb=>⟨rfl,I.turned (t':=s.toks) (fun b o hb e=>eb b o hb e) f0 f1 f3 f4 f5⟩
  self:=fun _ _ _ _ _ st h=>wpAny_pyIter_rangeiter st h
end L2
namespace L2
open PySem PySem.Spec PyProof.Rows
section
variable {X:Cx} {tg:Expr}
def a2n (K:PySem.W.Frag) (tl:TE):TI:=fun σ H R=>tl σ H fun x H1=>∃ a,x=.ref a∧(∃ xs,SqL K H1 a xs)∧R (Itl K a) H1
theorem axe {l:Expr} {tl:TE} (hl:PE X l tl):PI X tg l (a2n X.K tl):=by
  intro pins s σ H R I h
  refine thn (hl pins s σ H _ I h) fun v s1 ⟨x,H1,I1,r1,q1⟩=>?_
  obtain ⟨a,e,⟨xs,hq⟩,q⟩:=q1
  subst e
  cases r1
  obtain ⟨its,rv,p,hz⟩:=I1.list hq
  refine wpAny_pyIter_list p.isList ?_
  refine ⟨s1.heap.objs.size,[s1.heap.objs.size],_,_,H1,rfl,I1.kept (t':=s1.toks) fun b o e=>Heap.get?_push_of_some _ e,aq2 a _,⟨_,Heap.get?_push_size _ rfl,rfl,rfl⟩,fun b hb=>?_,q⟩
  have e:b=s1.heap.objs.size:=by simpa using hb
  subst e
  exact I1.fpOk (Nat.le_refl _) (I1.hok.fresh (Nat.le_refl _))
theorem at2 {pins:List (Addr×Obj)} {σ:St} {H:Hp} {s:Shared} {R:It→Hp→Prop} {E:Value→Shared→Prop} {lo hi:Int} {t u v:Tok} {tk:Nat} (I:Inv X pins σ H s) (h1 : -(2 ^ 62)≤lo) (h2:lo<2 ^ 62) (h3 : -(2 ^ 62)≤hi) (h4:hi<2 ^ 62)
    (q:R (Itr lo (hi - lo).toNat) H) (ht:0<tk:=by (first | assumption | exact Nat.succ_pos _ | exact Inv.tk (by assumption) | exact Nat.lt_of_lt_of_le (Inv.tk (by assumption)) (Nat.le_add_right _ _) | exact Nat.lt_of_lt_of_le (Inv.tk (by assumption)) (by assumption))):wpAny (model X.prog X.w) X.A (pyIter (.ref s.heap.objs.size)) (PIE X pins σ tg R) E { s with heap:=s.heap.push { cls:=.type "range",data:=.fields #[.int lo t,.int hi u,.int 1 v] },toks:=tk }:=by
  refine wpAny_pyIter_range (IsRange.new ..) (small_one h1 h2 h3 h4) ?_
  have I1:Inv X pins σ H { s with heap:=s.heap.push { cls:=.type "range",data:=.fields #[.int lo t,.int hi u,.int 1 v] },toks:=tk }:=I.kept fun b o e=>Heap.get?_push_of_some _ e
  refine ⟨(s.heap.push { cls:=.type "range",data:=.fields #[.int lo t,.int hi u,.int 1 v] }).objs.size,[(s.heap.push { cls:=.type "range",data:=.fields #[.int lo t,.int hi u,.int 1 v] }).objs.size],_,_,H,rfl,
    I1.kept (t':=tk) fun b o e=>Heap.get?_push_of_some _ e,ane _ lo (hi - lo).toNat,?_,fun b hb=>?_,q⟩
  · have e1:lo+((0:Nat):Int)*1=lo:=by simp
    have e2:(((hi - lo).toNat:Nat):Int) - ((0:Nat):Int)=Builtin.Range.rangeSize lo hi 1:=by rw [rangeSize_one];split<;>omega
    show IsRangeIter _ _ (lo+((0:Nat):Int)*1) ((((hi - lo).toNat:Nat):Int) - ((0:Nat):Int)) 1
    rw [e1,e2]
    exact Heap.get?_push_size _ rfl
  · have e:b=(s.heap.push { cls:=.type "range",data:=.fields #[.int lo t,.int hi u,.int 1 v] }).objs.size:=by simpa using hb
    subst e
    exact I1.fpOk (Nat.le_refl _) (I1.hok.fresh (Nat.le_refl _))
def a3a (ta:TA):TI:=fun σ H R=>ta σ H fun vs H1=>∃ j:Int,vs=[.int j] ∧ -(2 ^ 62)≤j∧j<2 ^ 62∧R (Itr 0 j.toNat) H1
theorem aqs {a:Expr} {ta:TA} {p pos:Pos} (hg:Gl X "range") (hm:X.mg "range" = none) (ha:PA X [a] ta) (hs:starEach [a] X.env=[(false,eval a X.env)]:=by rfl):PI X tg (.Call (.Name "range" p) [a] [] pos) (a3a ta):=by
  intro pins s σ H R I h
  refine Call_ (aho I hg hm boot_range (PyProof.Rows.callWith_type1 (thn (ha pos pins s σ H _ I h) fun us s1 ⟨vs,H1,I1,r1,q1⟩=>?_) hs rfl))
  obtain ⟨j,e,q1,q2,q⟩:=q1
  subst e
  cases r1 with
  | cons r rr=>
    cases rr
    obtain ⟨t,rfl⟩:=r
    exact call_range_1 (at2 I1 (by omega) (by omega) q1 q2 (by simpa using q))
def a46 (wi:TI) (g:TG) (tb:TS):TS:=fun D σ H=>wi σ H fun J H1=>∃ W:Nat→Nat→St→Hp→Prop,(∃ m,W 0 m σ H1)∧∀ i m σ H,W i m σ H→
  (J.stop i H∧D.nx σ H)∨(J.go i H∧∃ N:St→Hp→Prop,(∀ σ' H',N σ' H'→∃ m',m'<m∧W (i+1) m' σ' H')∧∀ x H',J.yld i H x H'→g x σ H' fun σ2 H2=>tb { D with nx:=N,ct:=N,bk:=D.nx } σ2 H2)
def ahd (fp:List Addr) (h:Heap):List (Addr×Obj):=fp.filterMap fun b=>(h.get? b).map fun o=>(b,o)
theorem aau {fp:List Addr} {h:Heap} {b:Addr} {o:Obj} (hb:b∈fp) (e:h.get? b=some o):(b,o)∈ahd fp h:=List.mem_filterMap.mpr ⟨b,hb,by rw [e];rfl⟩
theorem apd {fp:List Addr} {h:Heap} {p:Addr×Obj} (hp:p∈ahd fp h):p.1∈fp∧h.get? p.1=some p.2:=by
  obtain ⟨b,hb,e⟩:=List.mem_filterMap.mp hp
  cases q:h.get? b with
  | none=>rw [q] at e;cases e
  | some o=>
    rw [q] at e
    have e':(b,o)=p:=Option.some.inj e
    subst e'
    exact ⟨hb,q⟩
theorem Inv.pinned {pins:List (Addr×Obj)} {σ:St} {H:Hp} {s:Shared} {fp:List Addr} (I:Inv X pins σ H s) (hf:∀ b∈fp,aid X pins H b) (ho:∀ b∈fp,∃ o,s.heap.get? b=some o∧∀ v,o.data≠.cell v):Inv X (pins++ahd fp s.heap) σ H s:=
  I.pins_of fun p hp=>(List.mem_append.mp hp).elim (fun z=>I.pin p (List.mem_append_right _ z)) fun z=>by
    obtain ⟨hb,e⟩:=apd z
    obtain ⟨f0,f1,f2,_⟩:=hf p.1 hb
    obtain ⟨o,e',d⟩:=ho p.1 hb
    rw [e] at e';cases e'
    exact ⟨e,f0,f1,f2,d⟩
theorem Inv.unpinned {pins pl:List (Addr×Obj)} {σ:St} {H:Hp} {s:Shared} (I:Inv X (pins++pl) σ H s):Inv X pins σ H s:=I.pins_of fun p hp=>I.pin p (List.mem_append_right _ (List.mem_append_left _ hp))
theorem a18 {iter:Expr} {body:List Stmt} {wi:TI} {g:TG} {tb:TS} {pos:Pos} (hp:PassesOwn (model X.prog X.w) X.A X.env X.xe) (hc:X.calm=true) (hi:PI X tg iter wi) (hg:PG X tg g) (hb:PSs X body tb)
    (hs:∀ x,foldedSetIterable iter X.env x=pure x:=by intro _;rfl):PS X (.For tg iter body [] pos) (a46 wi g tb):=by
  intro pins s σ H D I h
  refine wpAny_For (thn (hi pins s σ H _ I h) fun v s1 h1=>thn h1 fun itv s2 h2=>?_) hs
  obtain ⟨it,fp,tn,J,H2,e,I2,T,st2,f2,W,⟨m0,w0⟩,turn⟩:=h2
  subst e
  have stat:∀ {H':Hp},(∀ b∈fp,H' b=none)→∀ b∈fp,aid X pins H' b:=fun hn b hb=>⟨hn b hb,(f2 b hb).2⟩
  refine codeAny_forLoop_any (fun n s'=>∃ i σ' H',Inv X pins σ' H' s'∧tn i s'.heap∧(∀ b∈fp,H' b=none)∧W i n σ' H') ?_ m0 ⟨0,σ,H2,I2,st2,fun b hb=>(f2 b hb).1,w0⟩
  rintro n s3 ⟨i,σ3,H3,I3,st3,fr3,w3⟩
  rcases turn i n σ3 H3 w3 with ⟨stop,qn⟩ | ⟨go,N,hN,step⟩
  · refine wpAny_passesOwn hp (thn (T.done X rfl rfl rfl hc i pins s3 σ3 H3 X.xe I3 (stat fr3) st3 stop) fun r s4 ⟨hr,I4⟩=>?_)
    subst hr
    exact wpAny_execs_nil ⟨σ3,H3,I4,qn⟩
  · refine wpAny_passesOwn hp (thn (T.item X rfl rfl rfl hc i pins s3 σ3 H3 X.xe I3 (stat fr3) st3 go) fun r s4 ⟨u,hr,h4⟩=>?_)
    subst hr
    refine wpAny_passesOwn hp (thn h4 fun _ s5 ⟨x,H5,I5,r5,y5,st5,fr5⟩=>?_)
    have I5':=I5.pinned (stat fr5) (T.obj _ _ st5)
    refine wpAny_passesOwn hp (thn (hg _ s5 σ3 H5 x u _ I5' r5 (step x H5 y5)) fun _ s6 ⟨σ6,H6,I6,q6⟩=>?_)
    refine wpAny_passesOwn hp (thn (hb _ s6 σ6 H6 _ I6 q6) fun f s7 q7=>?_)
    have again:∀ {σ7:St} {H7:Hp},Inv X (pins++ahd fp s5.heap) σ7 H7 s7→N σ7 H7→∃ m,m<n∧∃ i σ' H',Inv X pins σ' H' s7∧tn i s7.heap∧(∀ b∈fp,H' b=none)∧W i m σ' H':=fun {σ7 H7} I7 n7=>by
      obtain ⟨m',hm,w7⟩:=hN σ7 H7 n7
      refine ⟨m',hm,i+1,σ7,H7,I7.unpinned,T.keep _ _ _ st5 fun b hb o e=>(I7.pin (b,o) (List.mem_append_right _ (List.mem_append_right _ (aau hb e)))).1,fun b hb=>?_,w7⟩
      obtain ⟨o,e,d⟩:=T.obj _ _ st5 b hb
      exact (I7.pin (b,o) (List.mem_append_right _ (List.mem_append_right _ (aau hb e)))).2.1
    cases f with
    | next=>obtain ⟨σ7,H7,I7,n7⟩:=q7;exact again I7 n7
    | cont=>obtain ⟨σ7,H7,I7,n7⟩:=q7;exact again I7 n7
    | brk=>obtain ⟨σ7,H7,I7,q7⟩:=q7;exact ⟨σ7,H7,I7.unpinned,q7⟩
    | ret v=>obtain ⟨x7,σ7,H7,I7,r7,q7⟩:=q7;exact ⟨x7,σ7,H7,I7.unpinned,r7,q7⟩
end
end L2
namespace L2
open PySem PySem.Spec PyProof.Rows
abbrev R2:=V→V→Hp→VK→Prop
def OpR (X:Cx) (f:Value→Value→Sem Value) (r:R2):Prop:=
  ∀ (pins:List (Addr×Obj)) (s:Shared) (σ:St) (H:Hp) (x y:V) (v u:Value) (Q:VK),Inv X pins σ H s→RelV x v→RelV y u→r x y H Q→
    wpAny (model X.prog X.w) X.A (f v u) (EP X pins σ Q) X.xe s
def UnR (X:Cx) (f:Value→Sem Value) (r:V→Hp→VK→Prop):Prop:=
  ∀ (pins:List (Addr×Obj)) (s:Shared) (σ:St) (H:Hp) (x:V) (v:Value) (Q:VK),Inv X pins σ H s→RelV x v→r x H Q→
    wpAny (model X.prog X.w) X.A (f v) (EP X pins σ Q) X.xe s
def CallR (X:Cx) (f:Value) (r:List V→Hp→VK→Prop):Prop:=
  ∀ (pins:List (Addr×Obj)) (s:Shared) (σ:St) (H:Hp) (xs:List V) (us:List Value) (Q:VK),Inv X pins σ H s→Vals xs us→r xs H Q→
    wpAny (model X.prog X.w) X.A (call f us) (EP X pins σ Q) X.xe s
def tOp (r:R2) (ta tb:TE):TE:=fun σ H Q=>ta σ H fun x H1=>tb σ H1 fun y H2=>r x y H2 Q
def tUn (r:V→Hp→VK→Prop) (ta:TE):TE:=fun σ H Q=>ta σ H fun x H1=>r x H1 Q
def rI (C:Int→Int→Prop) (g:Int→Int→V):R2:=fun x y H Q=>∃ i j,x=.int i∧y=.int j∧C i j∧Q (g i j) H
def rI0 (g:Int→Int→V):R2:=fun x y H Q=>∃ i j,x=.int i∧y=.int j∧Q (g i j) H
def rU (g:Int→V):V→Hp→VK→Prop:=fun x H Q=>∃ i,x=.int i∧Q (g i) H
section
variable {X:Cx} {a b c:Expr} {ta tb tc:TE} {pos:Pos}
theorem ayo (ha:PE X a ta) (hb:PE X b tb) {pins:List (Addr×Obj)} {s:Shared} {σ:St} {H:Hp} {R:V→V→Hp→Prop} (I:Inv X pins σ H s)
    (h:ta σ H fun x H1=>tb σ H1 fun y H2=>R x y H2) {Q:Value→Shared→Prop} {f:Value→Value→Sem Value}
    (hf:∀ v u s2 x y H2,Inv X pins σ H2 s2→RelV x v→RelV y u→R x y H2→wpAny (model X.prog X.w) X.A (f v u) Q X.xe s2):
    wpAny (model X.prog X.w) X.A (eval a X.env) (fun v s₁=>wpAny (model X.prog X.w) X.A (eval b X.env) (fun u s₂=>wpAny (model X.prog X.w) X.A (f v u) Q X.xe s₂) X.xe s₁) X.xe s:=by
  refine thn (ha pins s σ H _ I h) fun v s1 ⟨x,H1,I1,r1,q1⟩=>?_
  refine thn (hb pins s1 σ H1 _ I1 q1) fun u s2 ⟨y,H2,I2,r2,q2⟩=>?_
  exact hf v u s2 x y H2 I2 r1 r2 q2
theorem a1r {op:Operator} {r:R2} (ho:OpR X (binaryOp op) r) (ha:PE X a ta) (hb:PE X b tb):PE X (.BinOp a op b pos) (tOp r ta tb):=by
  intro pins s σ H Q I h
  exact wpAny_BinOp (ayo ha hb I h fun v u s2 x y H2 I2 rx ry q=>ho pins s2 σ H2 x y v u Q I2 rx ry q)
theorem a2z {op:UnaryOp} {r:V→Hp→VK→Prop} (ho:UnR X (unaryOp op) r) (ha:PE X a ta):PE X (.UnaryOp op a pos) (tUn r ta):=by
  intro pins s σ H Q I h
  exact UnaryOp_ (thn (ha pins s σ H _ I h) fun v s1 ⟨x,H1,I1,r1,q1⟩=>ho pins s1 σ H1 x v Q I1 r1 q1)
theorem opI {f:Value→Value→Sem Value} {C:Int→Int→Prop} {g:Int→Int→Int}
    (rule:∀ (i j:Int) (t u:Tok) (s:Shared) (Q:Value→Shared→Prop) (E:Value→Shared→Prop),C i j→Q (.int (g i j) s.toks) { s with toks:=s.toks+1 }→wpAny (model X.prog X.w) X.A (f (.int i t) (.int j u)) Q E s):
    OpR X f (rI C fun i j=>.int (g i j)):=by
  intro pins s σ H x y v u Q I rx ry h
  obtain ⟨i,j,rfl,rfl,hc,q⟩:=h
  obtain ⟨t,rfl⟩:=rx
  obtain ⟨t',rfl⟩:=ry
  exact rule i j t t' s _ _ hc ⟨.int (g i j),H,I.tok _,⟨_,rfl⟩,q⟩
theorem a2v {f:Value→Value→Sem Value} {g:Int→Int→Int}
    (rule:∀ (i j:Int) (t u:Tok) (s:Shared) (Q:Value→Shared→Prop) (E:Value→Shared→Prop),Q (.int (g i j) s.toks) { s with toks:=s.toks+1 }→wpAny (model X.prog X.w) X.A (f (.int i t) (.int j u)) Q E s):
    OpR X f (rI0 fun i j=>.int (g i j)):=by
  intro pins s σ H x y v u Q I rx ry h
  obtain ⟨i,j,rfl,rfl,q⟩:=h
  obtain ⟨t,rfl⟩:=rx
  obtain ⟨t',rfl⟩:=ry
  exact rule i j t t' s _ _ ⟨.int (g i j),H,I.tok _,⟨_,rfl⟩,q⟩
theorem a2m {f:Value→Value→Sem Value} {g:Int→Int→Bool}
    (rule:∀ (i j:Int) (t u:Tok) (s:Shared) (Q:Value→Shared→Prop) (E:Value→Shared→Prop),Q (.bool (g i j)) s→wpAny (model X.prog X.w) X.A (f (.int i t) (.int j u)) Q E s):
    OpR X f (rI0 fun i j=>.bl (g i j)):=by
  intro pins s σ H x y v u Q I rx ry h
  obtain ⟨i,j,rfl,rfl,q⟩:=h
  obtain ⟨t,rfl⟩:=rx
  obtain ⟨t',rfl⟩:=ry
  exact rule i j t t' s _ _ ⟨.bl (g i j),H,I,rfl,q⟩
def az2 (i j:Int):Prop:=0<j∧j<1073741824
def a0m (i j:Int):Prop:=0≤j∧j≤1000000∧i.natAbs<2 ^ 64
def CMul (i j:Int):Prop:=(-(2 ^ 64)<i∧i<2 ^ 64)∨(-(2 ^ 64)<j∧j<2 ^ 64)
theorem CMul.ok {i j:Int} (h:CMul i j):IntMulOk i j:=by
  rcases h with ⟨h1,h2⟩ | ⟨h1,h2⟩
  · exact .of_left (intBits_le_64 h1 h2)
  · exact .of_right (intBits_le_64 h1 h2)
theorem a04:OpR X (binaryOp .Add) (rI0 fun i j=>.int (i+j)):=a2v fun _ _ _ _ _ _ _ q=>add_int q
theorem ayx:OpR X (binaryOp .Sub) (rI0 fun i j=>.int (i - j)):=a2v fun _ _ _ _ _ _ _ q=>sub_int q
theorem a0t:OpR X (binaryOp .Mult) (rI CMul fun i j=>.int (i*j)):=opI fun _ _ _ _ _ _ _ hc q=>mul_int q hc.ok
theorem axc:OpR X (binaryOp .FloorDiv) (rI az2 fun i j=>.int (i / j)):=opI fun i j _ _ _ _ _ hc q=>by
  have h1:(0:Int)<j:=hc.1
  have h2:j<1073741824:=hc.2
  exact floordiv_int (by omega) (by rw [Int.fdiv_eq_ediv_of_nonneg i (by omega)];exact q) (.inl (PyProof.noPylong_small (by omega)))
theorem a16:OpR X (binaryOp .Mod) (rI (fun _ j=>0<j) fun i j=>.int (i % j)):=opI fun i j _ _ _ _ _ hc q=>by
  have h1:(0:Int)<j:=hc
  exact mod_int' (by omega) (by rw [Int.fmod_eq_emod_of_nonneg i (by omega)];exact q)
theorem a1e:OpR X (binaryOp .Pow) (rI a0m fun i j=>.int (i ^ j.toNat)):=opI fun _ _ _ _ _ _ _ hc q=>pow_int_small hc.1 hc.2.1 hc.2.2 q
theorem unI {f:Value→Sem Value} {g:Int→Int}
    (rule:∀ (i:Int) (t:Tok) (s:Shared) (Q:Value→Shared→Prop) (E:Value→Shared→Prop),Q (.int (g i) s.toks) { s with toks:=s.toks+1 }→wpAny (model X.prog X.w) X.A (f (.int i t)) Q E s):
    UnR X f (rU fun i=>.int (g i)):=by
  intro pins s σ H x v Q I rx h
  obtain ⟨i,rfl,q⟩:=h
  obtain ⟨t,rfl⟩:=rx
  exact rule i t s _ _ ⟨.int (g i),H,I.tok _,⟨_,rfl⟩,q⟩
theorem a0e:UnR X (unaryOp .USub) (rU fun i=>.int (-i)):=unI fun _ _ _ _ _ q=>neg_int q
end
def auq:V→V→Bool
  | .non,.non=>true | .non,.int _=>true | .int _,.non=>true | .non,.bl _=>true | .bl _,.non=>true | .non,.str _=>true | .str _,.non=>true
  | .int _,.int _=>true | .bl _,.bl _=>true | .str _,.str _=>true | .byt _,.byt _=>true
  | .int _,.str _=>true | .str _,.int _=>true | .bl _,.str _=>true | .str _,.bl _=>true
  | _,_=>false
def rEq:R2:=fun x y H Q=>auq x y=true∧Q (.bl (decide (x=y))) H
def rNe:R2:=fun x y H Q=>auq x y=true∧Q (.bl (!decide (x=y))) H
theorem aog {i j:Int}:decide (V.int i=V.int j)=(i==j):=by
  rw [Bool.eq_iff_iff]
  simp
theorem ati {i j:Bool}:decide (V.bl i=V.bl j)=(i==j):=by
  rw [Bool.eq_iff_iff]
  simp
theorem aoi {i j:Str}:decide (V.str i=V.str j)=(i==j):=by
  rw [Bool.eq_iff_iff]
  simp
theorem aop {i j:Array UInt8}:decide (V.byt i=V.byt j)=(i.toList==j.toList):=by
  rw [Bool.eq_iff_iff]
  cases i
  cases j
  simp
section
variable {X:Cx} {a b c:Expr} {ta tb tc:TE} {pos:Pos}
theorem zd {pins:List (Addr×Obj)} {σ:St} {H:Hp} {s:Shared} {Q:VK} {k k':Bool} (I:Inv X pins σ H s) (q:Q (.bl k) H) (e:k=k'):EP X pins σ Q (.bool k') s:=by
  subst e
  exact ⟨.bl k,H,I,rfl,q⟩
theorem ay6:OpR X (compareOp .Eq) rEq:=by
  intro pins s σ H x y v u Q I rx ry h
  obtain ⟨hs,q⟩:=h
  cases x with
  | non=>
    cases rx
    cases y with
    | non=>cases ry;exact PySem.EqNone.eq_none_none (zd I q (by simp))
    | bl j=>cases ry;exact PySem.EqNone.eq_none_bool (zd I q (by simp))
    | int j=>obtain ⟨t',rfl⟩:=ry;exact PySem.EqNone.eq_none_int (zd I q (by simp))
    | str j=>obtain ⟨t',rfl⟩:=ry;exact PySem.EqNone.eq_none_str (zd I q (by simp))
    | _=>exact absurd (show false=true from hs) Bool.false_ne_true
  | bl i=>
    cases rx
    cases y with
    | non=>cases ry;exact PySem.EqNone.eq_bool_none (zd I q (by simp))
    | bl j=>cases ry;exact eq_bool (zd I q ati)
    | str j=>obtain ⟨t',rfl⟩:=ry;exact PySem.EqMixed.eq_bool_str (zd I q (by simp))
    | _=>exact absurd (show false=true from hs) Bool.false_ne_true
  | int i=>
    obtain ⟨t,rfl⟩:=rx
    cases y with
    | non=>cases ry;exact PySem.EqNone.eq_int_none (zd I q (by simp))
    | int j=>obtain ⟨t',rfl⟩:=ry;exact eq_int (zd I q aog)
    | str j=>obtain ⟨t',rfl⟩:=ry;exact PySem.EqMixed.eq_int_str (zd I q (by simp))
    | _=>exact absurd (show false=true from hs) Bool.false_ne_true
  | str i=>
    obtain ⟨t,rfl⟩:=rx
    cases y with
    | non=>cases ry;exact PySem.EqNone.eq_str_none (zd I q (by simp))
    | bl j=>cases ry;exact PySem.EqMixed.eq_str_bool (zd I q (by simp))
    | int j=>obtain ⟨t',rfl⟩:=ry;exact PySem.EqMixed.eq_str_int (zd I q (by simp))
    | str j=>obtain ⟨t',rfl⟩:=ry;exact eq_str (zd I q aoi)
    | _=>exact absurd (show false=true from hs) Bool.false_ne_true
  | byt i=>
    obtain ⟨t,rfl⟩:=rx
    cases y with
    | byt j=>obtain ⟨t',rfl⟩:=ry;exact PySem.W.eq_bytes (zd I q aop)
    | _=>exact absurd (show false=true from hs) Bool.false_ne_true
  | _=>cases y<;>exact absurd (show false=true from hs) Bool.false_ne_true
theorem axw:OpR X (compareOp .NotEq) rNe:=by
  intro pins s σ H x y v u Q I rx ry h
  obtain ⟨hs,q⟩:=h
  cases x with
  | non=>
    cases rx
    cases y with
    | non=>cases ry;exact PySem.EqNone.ne_none_none (zd I q (by simp))
    | bl j=>cases ry;exact PySem.EqNone.ne_none_bool (zd I q (by simp))
    | int j=>obtain ⟨t',rfl⟩:=ry;exact PySem.EqNone.ne_none_int (zd I q (by simp))
    | str j=>obtain ⟨t',rfl⟩:=ry;exact PySem.EqNone.ne_none_str (zd I q (by simp))
    | _=>exact absurd (show false=true from hs) Bool.false_ne_true
  | bl i=>
    cases rx
    cases y with
    | non=>cases ry;exact PySem.EqNone.ne_bool_none (zd I q (by simp))
    | bl j=>cases ry;exact ne_bool (zd I q (congrArg not ati))
    | str j=>obtain ⟨t',rfl⟩:=ry;exact PySem.EqMixed.ne_bool_str (zd I q (by simp))
    | _=>exact absurd (show false=true from hs) Bool.false_ne_true
  | int i=>
    obtain ⟨t,rfl⟩:=rx
    cases y with
    | non=>cases ry;exact PySem.EqNone.ne_int_none (zd I q (by simp))
    | int j=>obtain ⟨t',rfl⟩:=ry;exact ne_int (zd I q (congrArg not aog))
    | str j=>obtain ⟨t',rfl⟩:=ry;exact PySem.EqMixed.ne_int_str (zd I q (by simp))
    | _=>exact absurd (show false=true from hs) Bool.false_ne_true
  | str i=>
    obtain ⟨t,rfl⟩:=rx
    cases y with
    | non=>cases ry;exact PySem.EqNone.ne_str_none (zd I q (by simp))
    | bl j=>cases ry;exact PySem.EqMixed.ne_str_bool (zd I q (by simp))
    | int j=>obtain ⟨t',rfl⟩:=ry;exact PySem.EqMixed.ne_str_int (zd I q (by simp))
    | str j=>obtain ⟨t',rfl⟩:=ry;exact ne_str (zd I q (congrArg not aoi))
    | _=>exact absurd (show false=true from hs) Bool.false_ne_true
  | byt i=>
    obtain ⟨t,rfl⟩:=rx
    cases y with
    | byt j=>obtain ⟨t',rfl⟩:=ry;exact PySem.W.ne_bytes (zd I q (congrArg not aop))
    | _=>exact absurd (show false=true from hs) Bool.false_ne_true
  | _=>cases y<;>exact absurd (show false=true from hs) Bool.false_ne_true
theorem a2u:OpR X (compareOp .Lt) (rI0 fun i j=>.bl (decide (i<j))):=a2m fun _ _ _ _ _ _ _ q=>lt_int q
theorem a1v:OpR X (compareOp .Gt) (rI0 fun i j=>.bl (decide (j<i))):=a2m fun _ _ _ _ _ _ _ q=>gt_int q
theorem kj (b:Expr) {op:CmpOp} (h:op≠.In:=by decide) (h2:op≠.NotIn:=by decide):behindInMarks op b=false:=by
  have e1:(op==CmpOp.In)=false:=by cases op<;>first | rfl | exact absurd rfl h
  have e2:(op==CmpOp.NotIn)=false:=by cases op<;>first | rfl | exact absurd rfl h2
  cases b<;>simp [behindInMarks,e1,e2]
theorem av9 {op:CmpOp} {r:R2} (ho:OpR X (compareOp op) r) (ha:PE X a ta) (hb:PE X b tb) (hm:behindInMarks op b=false):PE X (.Compare a [op] [b] pos) (tOp r ta tb):=by
  intro pins s σ H Q I h
  exact wpAny_Compare1 (ayo ha hb I h fun v u s2 x y H2 I2 rx ry q=>ho pins s2 σ H2 x y v u Q I2 rx ry q) hm
def axm (t:TE):TT:=fun σ H Q=>t σ H fun x H'=>∃ k,x=.bl k∧Q k H'
theorem awx {op:CmpOp} {r:R2} (ho:OpR X (compareOp op) r) (ha:PE X a ta) (hb:PE X b tb) (hm:behindInMarks op b=false):PT X (.Compare a [op] [b] pos) (axm (tOp r ta tb)):=by
  intro pins s σ H Q I h
  refine wpAny_isTrue_Compare1 (thn (ha pins s σ H _ I h) fun v s1 ⟨x,H1,I1,r1,q1⟩=>thn (hb pins s1 σ H1 _ I1 q1) fun u s2 ⟨y,H2,I2,r2,q2⟩=>
    thn (ho pins s2 σ H2 x y v u _ I2 r1 r2 q2) fun c s3 ⟨z,H3,I3,r3,k,e,q3⟩=>?_) hm
  subst e
  cases r3
  exact wpAny_truthy_bool ⟨H3,I3,q3⟩
theorem aew:(sizeLine:Nat)<2 ^ 63:=by rw [sizeLine_eq];decide
theorem anc:OpR X (binaryOp .Add) (fun x y H Q=>∃ i j,x=.str i∧y=.str j∧i.length+j.length≤sizeLine∧Q (.str (i++j)) H):=by
  intro pins s σ H x y v u Q I rx ry h
  obtain ⟨i,j,rfl,rfl,hz,q⟩:=h
  obtain ⟨t,rfl⟩:=rx
  obtain ⟨t',rfl⟩:=ry
  exact j9 I.tk (add_str (fun t' tk ht=>⟨.str (i++j),H,I.tok _,⟨_,rfl⟩,q⟩) hz)
theorem ap1 {x:V} {us:List Value} (r:Vals [x] us):∃ u,us=[u]∧RelV x u:=by
  cases r with
  | cons r1 r2=>cases r2;exact ⟨_,rfl,r1⟩
theorem ay8 {x y:V} {us:List Value} (r:Vals [x,y] us):∃ u w',us=[u,w']∧RelV x u∧RelV y w':=by
  cases r with
  | cons r1 r2=>
    cases r2 with
    | cons r3 r4=>cases r4;exact ⟨_,_,rfl,r1,r3⟩
theorem aqu (hc:X.calm=true):CallR X (.builtin "max") (fun xs H Q=>∃ i j,xs=[.int i,.int j]∧Q (.int (if j > i then j else i)) H):=by
  intro pins s σ H xs us Q I r h
  obtain ⟨i,j,rfl,q⟩:=h
  obtain ⟨u,w',rfl,⟨t,rfl⟩,⟨t',rfl⟩⟩:=ay8 r
  refine j9 I.tk (max_two_ints (I.ok.hd hc) fun h' tk k ht=>⟨_,H,I.kept k,?_,q⟩)
  by_cases hj:j > i
  · rw [if_pos hj,if_pos hj];exact ⟨_,rfl⟩
  · rw [if_neg hj,if_neg hj];exact ⟨_,rfl⟩
theorem aq3 (hc:X.calm=true):CallR X (.builtin "min") (fun xs H Q=>∃ i j,xs=[.int i,.int j]∧Q (.int (if j<i then j else i)) H):=by
  intro pins s σ H xs us Q I r h
  obtain ⟨i,j,rfl,q⟩:=h
  obtain ⟨u,w',rfl,⟨t,rfl⟩,⟨t',rfl⟩⟩:=ay8 r
  refine j9 I.tk (min_two_ints (I.ok.hd hc) fun h' tk k ht=>⟨_,H,I.kept k,?_,q⟩)
  by_cases hj:j<i
  · rw [if_pos hj,if_pos hj];exact ⟨_,rfl⟩
  · rw [if_neg hj,if_neg hj];exact ⟨_,rfl⟩
end
end L2
namespace L2
open PySem PySem.Spec PyProof.Rows
structure ObjM (h:Heap) (x dx C:Addr) (mA:Str→Option Value):Prop where
  obj:h.get? x=some (PySem.W.instObj C dx)
  ns:h.Ns1 dx mA
  ne:dx≠x
theorem aql {h:Heap} {dx:Addr} {mA:Str→Option Value} (n:h.Ns1 dx mA):∃ od,h.get? dx=some od∧∀ name,PySem.W.lookIn name od=some (mA name):=by
  obtain ⟨o,es,ep,ho,hd,hk,_,hm⟩:=n
  refine ⟨o,ho,fun name=>?_⟩
  have e:=hm name
  unfold nsFind findBy at e
  rw [← Array.find?_toList] at e
  unfold PySem.W.lookIn
  rw [hd]
  dsimp only
  split
  · rename_i y q
    rw [q] at e
    exact congrArg some e
  · rename_i q
    rw [q] at e
    have a:es.toList.any (·.refKey)=false:=by
      rw [List.any_eq_false]
      intro y hy
      obtain ⟨z,t,hkey⟩:=hk y (Array.mem_toList_iff.mp hy)
      simp [DictEntry.refKey,hkey]
    have a':¬ es.toList.any (·.refKey)=true:=by rw [a];exact Bool.false_ne_true
    rw [if_neg a']
    exact congrArg some e
theorem ObjM.look {h:Heap} {x dx C:Addr} {mA:Str→Option Value} (I:ObjM h x dx C mA):∃ od,PySem.W.InstAt h x (PySem.W.instObj C dx) C (some od)∧∀ name,PySem.W.lookIn name od=some (mA name):=
  let ⟨od,ho,hl⟩:=aql I.ns
  ⟨od,⟨I.obj,rfl,rfl,ho⟩,hl⟩
section
variable {prog:Program} {w:World} {A:Around} {E:Value→Shared→Prop} {s:Shared} {K:PySem.W.Frag} {x dx C f:Addr} {mA:Str→Option Value} {name:Str} {v:Value}
theorem awa {expr:Bool} {Q:Value→Shared→Prop} (X:K.In s.heap) (I:ObjM s.heap x dx C mA) (hg:PySem.W.plainGet K C name=true) (hh:PySem.W.hasDictIn K C=true)
    (ha:PySem.W.findIn K (.ref C) name=some none) (hv:mA name=some v) (hv':PySem.W.handedIn v=true) (h:Q v { s with toks:=s.toks+1 }):
    wpAny (model prog w) A (getAttr (.ref x) name expr) Q E s:=by
  obtain ⟨od,J,hl⟩:=I.look
  exact PySem.W.get_value X J (PySem.W.plainGet_of hg).1 (PySem.W.findObj_own hh ha rfl (by rw [hl,hv])) hv' h
theorem at8 {pl:Sem Bool} {Q:Value×List Value→Shared→Prop} (X:K.In s.heap) (I:ObjM s.heap x dx C mA) (hg:PySem.W.plainGet K C name=true)
    (hf:PySem.W.findIn K (.ref C) name=some (some (.ref f))) (ht:PySem.W.isFn K (.ref f)=true) (hv:mA name=none) (h:Q (.ref f,[.ref x]) s):
    wpAny (model prog w) A (getMethod (.ref x) name pl) Q E s:=by
  obtain ⟨od,J,hl⟩:=I.look
  exact PySem.W.method_fn X J (PySem.W.plainGet_of hg).1 (PySem.W.plainGet_of hg).2 hf (beq_iff_eq.mp ht) (by show (PySem.W.lookIn name od).map (·.isSome)=some false;rw [hl,hv];rfl) h
theorem ava {ns:List Str} {Q:Unit→Shared→Prop} (X:K.In s.heap) (I:ObjM s.heap x dx C mA)
    (hs:PySem.W.findIn K (.ref C) "__setattr__" = some (some (.builtin "object.__setattr__"))) (hp:PySem.W.plainOver K C=true) (ht:PySem.W.takerIn K C name=some none) (hh:PySem.W.hasDictIn K C=true)
    (hw:PySem.Within mA ns) (hsz:ns.length≤sizeLine)
    (h:∀ h',ObjM h' x dx C (fun y=>if y=name then some v else mA y)→Heap.SameBut dx s.heap h'→Q () { s with heap:=h',toks:=s.toks+2 }):
    wpAny (model prog w) A (setAttr (.ref x) name v) Q E s:=by
  obtain ⟨od,J,hl⟩:=I.look
  refine PySem.W.set_plain X J hs (PySem.W.osa_open (s:={ s with toks:=s.toks+1 }) (r:=none) X J hp ht fun b=>?_)
  obtain ⟨cd,hc,hd'⟩:=PySem.W.any_some hh
  have hx:s.heap.get? x=some ⟨.ref C,some dx,.plain,#[]⟩:=I.obj
  refine wpAny_bind (wpAny_pure (wpAny_bind (wpAny_bind (wpAny_loadPart hx (wpAny_bind (PySem.W.Looks.here (s:={ s with toks:=s.toks+1 }) (PySem.W.looks_clsIn X hc) ?_))))))
  rw [hd']
  refine wpAny_pure (a:=some dx) (wpAny_bind (wpAny_pure (wpAny_bind ?_)))
  refine wpAny_nsSet1 (s:={ s with toks:=s.toks+1 }) I.ns fun h' hn2 hs2=>?_
  obtain ⟨oD,esD,epD,hoD,hdD,hcD⟩:=hn2.count (PySem.Within.cons name v hw)
  refine wpAny_bind (wpAny_lookBehind hoD (by rw [hdD];exact pastItsLine_dict (Nat.le_trans hcD (by rw [List.length_cons];omega))) ?_)
  exact wpAny_pure (h _ ⟨(hs2.2 _ (Ne.symm I.ne)).trans I.obj,hn2,I.ne⟩ hs2)
theorem ar3 {R:Result→Shared→Prop} {vs:List Value} {kw:List (Str×Value)} (X:K.In s.heap) (hm:PySem.W.makesIn K C=true)
    (hi:PySem.W.findIn K (.ref C) "__init__" = some (some (.ref f))) (hf:PySem.W.typeIn K (.ref f)=some (.type "function"))
    (h:codeAny (model prog w) (A.under (.builtin "type.__call__" ⟨.ref C::vs,kw⟩)) (.call (.ref f) ⟨.ref (s.heap.objs.size+1)::vs,kw⟩) (PySem.W.InitBack (s.heap.objs.size+1) R)
      { s with heap:=(s.heap.push PySem.W.emptyDict).push (PySem.W.instObj C s.heap.objs.size) }):
    codeAny (model prog w) A (.call (.ref C) ⟨vs,kw⟩) R s:=by
  obtain ⟨hh,g,d,t,os⟩:=s
  exact PySem.W.make_core (PySem.W.makes_of X hm) (PySem.W.looks_findIn X hi) (fun self=>PySem.W.bind_fn X self hf) (.inl rfl) h
end
def aar (f:Str) (v:V):List (Str×V)→List (Str×V)
  | []=>[(f,v)]
  | (g,x)::r=>if g=f then (g,v)::r else (g,x)::aar f v r
theorem af8 (f g:Str) (v:V):∀ fs:List (Str×V),(aar f v fs).lookup g=if g=f then some v else fs.lookup g
  | []=>by
    show List.lookup g [(f,v)]=_
    by_cases h:g=f
    · have hb:(g==f)=true:=beq_iff_eq.mpr h
      simp only [List.lookup,hb,if_pos h]
    · have hb:(g==f)=false:=beq_eq_false_iff_ne.mpr h
      simp only [List.lookup,hb,if_neg h]
  | (k,x)::r=>by
    have ih:=af8 f g v r
    rw [show aar f v ((k,x)::r)=(if k=f then (k,v)::r else (k,x)::aar f v r) from rfl]
    by_cases hk:k=f
    · rw [if_pos hk]
      by_cases h:g=k
      · have hb:(g==k)=true:=beq_iff_eq.mpr h
        simp only [List.lookup,hb,if_pos (h.trans hk)]
      · have hb:(g==k)=false:=beq_eq_false_iff_ne.mpr h
        simp only [List.lookup,hb,if_neg (fun e:g=f=>h (e.trans hk.symm))]
    · rw [if_neg hk]
      by_cases h:g=k
      · have hb:(g==k)=true:=beq_iff_eq.mpr h
        simp only [List.lookup,hb,if_neg (fun e:g=f=>hk (h.symm.trans e))]
      · have hb:(g==k)=false:=beq_eq_false_iff_ne.mpr h
        simp only [List.lookup,hb]
        exact ih
theorem ael (f:Str) (v:V):∀ fs:List (Str×V),f∈(aar f v fs).map (·.1)∧∀ g,g∈fs.map (·.1)→g∈(aar f v fs).map (·.1)
  | []=>⟨by simp [aar],fun g h=>by simp at h⟩
  | (k,x)::r=>by
    obtain ⟨i1,i2⟩:=ael f v r
    rw [show aar f v ((k,x)::r)=(if k=f then (k,v)::r else (k,x)::aar f v r) from rfl]
    by_cases hk:k=f
    · rw [if_pos hk]
      subst hk
      exact ⟨by simp,fun g h=>by simpa using h⟩
    · rw [if_neg hk]
      refine ⟨?_,fun g h=>?_⟩
      · rw [List.map_cons]
        exact List.mem_cons_of_mem _ i1
      · rw [List.map_cons] at h ⊢
        rcases List.mem_cons.mp h with e | e
        · exact List.mem_cons.mpr (.inl e)
        · exact List.mem_cons_of_mem _ (i2 g e)
theorem afg (f:Str) (v:V):∀ fs:List (Str×V),(aar f v fs).length≤fs.length+1
  | []=>by simp [aar]
  | (k,x)::r=>by
    have ih:=afg f v r
    rw [show aar f v ((k,x)::r)=(if k=f then (k,v)::r else (k,x)::aar f v r) from rfl]
    by_cases hk:k=f
    · rw [if_pos hk,List.length_cons,List.length_cons];omega
    · rw [if_neg hk,List.length_cons,List.length_cons];omega
theorem RelO.some_of {v:V} {o:Option Value} (r:RelO (some v) o):∃ u,o=some u∧RelV v u:=by
  cases o with
  | none=>exact (show False from r).elim
  | some u=>exact ⟨u,rfl,r⟩
theorem RelO.none_of {o:Option Value} (r:RelO none o):o=none:=by
  cases o with
  | none=>rfl
  | some u=>exact (show False from r).elim
theorem aq6 {v:V} {u:Value} (r:RelV v u):PySem.W.handedIn u=true:=by
  cases v with
  | non=>cases (show u=Value.none from r);rfl
  | bl b=>cases (show u=Value.bool b from r);rfl
  | int i=>obtain ⟨t,e⟩:=(show ∃ t,u=Value.int i t from r);cases e;rfl
  | str x=>obtain ⟨t,e⟩:=(show ∃ t,u=Value.str x t from r);cases e;rfl
  | byt b=>obtain ⟨t,e⟩:=(show ∃ t,u=Value.bytes b t from r);cases e;rfl
  | flt b=>obtain ⟨t,e⟩:=(show ∃ t,u=Value.float b t from r);cases e;rfl
  | ref a=>cases (show u=Value.ref a from r);rfl
  | ty n=>cases (show u=Value.type n from r);rfl
section
variable {P:Program} {w:World} {H H':Hp} {h h':Heap} {a C dx:Addr} {fs fs':List (Str×V)}
theorem agb (hok:HOk P w H h) (e:H a=some (.ins C dx fs)):∃ mA,ObjM h a dx C mA∧(∀ f,RelO (fs.lookup f) (mA f))∧PySem.Within mA (fs.map (·.1))∧fs.length≤1000∧H dx=some (.own a):=by
  obtain ⟨d,z,ne,ob,mA,n,r,q⟩:=(show ObjOk P w H h a (.ins C dx fs) from hok a _ e)
  exact ⟨mA,⟨ob,n,ne⟩,r,q,z,d⟩
end
structure Cls (K:PySem.W.Frag) (C:Addr):Prop where
  pg:PySem.W.plainGet K C Str.empty=true
  hd:PySem.W.hasDictIn K C=true
  po:PySem.W.plainOver K C=true
  sa:PySem.W.findIn K (.ref C) "__setattr__" = some (some (.builtin "object.__setattr__"))
theorem Cls.get {K:PySem.W.Frag} {C:Addr} (c:Cls K C) (f:Str):PySem.W.plainGet K C f=true:=c.pg
def NoAttr (K:PySem.W.Frag) (C:Addr) (f:Str):Prop:=PySem.W.findIn K (.ref C) f=some none
theorem NoAttr.taker {K:PySem.W.Frag} {C:Addr} {f:Str} (n:NoAttr K C f):PySem.W.takerIn K C f=some none:=by
  unfold PySem.W.takerIn
  rw [show PySem.W.findIn K (.ref C) f=some none from n]
  rfl
structure Meth (K:PySem.W.Frag) (C:Addr) (m:Str) (f:Addr):Prop where
  at_:PySem.W.findIn K (.ref C) m=some (some (.ref f))
  fn:PySem.W.isFn K (.ref f)=true
  kp:PySem.W.keepIn K (.ref f)=true
section
variable {X:Cx} {pins:List (Addr×Obj)} {σ:St} {H:Hp} {s:Shared} {a C dx:Addr} {fs:List (Str×V)} {f:Str} {v:V} {A:Around} {E:Value→Shared→Prop}
theorem ao4 {b:Bool} {Q:Value→Shared→Prop} (I:Inv X pins σ H s) (e:H a=some (.ins C dx fs)) (c:Cls X.K C) (n:NoAttr X.K C f) (l:fs.lookup f=some v)
    (h:∀ u s',Inv X pins σ H s'→RelV v u→Q u s'):wpAny (model X.prog X.w) A (getAttr (.ref a) f b) Q E s:=by
  obtain ⟨mA,O,r,_,_,_⟩:=agb I.hok e
  obtain ⟨u,hu,ru⟩:=RelO.some_of (v:=v) (o:=mA f) (by rw [← l];exact r f)
  exact awa I.kIn O (c.get f) c.hd n hu (aq6 ru) (h u _ (I.tok _) ru)
theorem aod {m:Str} {g:Addr} {pl:Sem Bool} {Q:Value×List Value→Shared→Prop} (I:Inv X pins σ H s) (e:H a=some (.ins C dx fs)) (c:Cls X.K C) (k:Meth X.K C m g) (l:fs.lookup m=none)
    (h:Q (.ref g,[.ref a]) s):wpAny (model X.prog X.w) A (getMethod (.ref a) m pl) Q E s:=by
  obtain ⟨mA,O,r,_,_,_⟩:=agb I.hok e
  have hn:mA m=none:=RelO.none_of (by rw [← l];exact r m)
  exact at8 I.kIn O (c.get m) k.at_ k.fn hn h
theorem ao7 {y:V} {u:Value} {Q:Unit→Shared→Prop} (I:Inv X pins σ H s) (e:H a=some (.ins C dx fs)) (c:Cls X.K C) (n:NoAttr X.K C f) (hl:fs.length<1000) (ry:RelV y u)
    (h:∀ s',Inv X pins σ (upd H a (.ins C dx (aar f y fs))) s'→Q () s'):wpAny (model X.prog X.w) A (setAttr (.ref a) f u) Q E s:=by
  obtain ⟨mA,O,r,wi,_,ho⟩:=agb I.hok e
  have hz:(fs.map (·.1)).length≤sizeLine:=by rw [List.length_map,sizeLine_eq];omega
  refine ava I.kIn O c.sa c.po n.taker c.hd wi hz fun h' O' sb=>h _ ?_
  have hd:∃ o,h'.get? dx=some o:=let ⟨o,_,_,e',_⟩:=O'.ns;⟨o,e'⟩
  refine I.write (x:=a) (e:=dx) (by rw [e];exact True.intro) (.inr ho) (fun b q hb z=>(sb.2 b hb).trans z) hd ?_
  refine ⟨by rw [qm O.ne];exact ho,?_,O.ne,O'.obj,_,O'.ns,fun g=>?_,fun g hg=>?_⟩
  · have:=afg f y fs;omega
  · show RelO ((aar f y fs).lookup g) (if g=f then some u else mA g)
    rw [af8]
    by_cases q:g=f
    · rw [if_pos q,if_pos q];exact ry
    · rw [if_neg q,if_neg q];exact r g
  · by_cases q:g=f
    · rw [q];exact (ael f y fs).1
    · refine (ael f y fs).2 g (wi g fun z=>hg ?_)
      show (if g=f then some u else mA g)=none
      rw [if_neg q];exact z
theorem Inv.made (I:Inv X pins σ H s):Inv X pins σ (upd (upd H s.heap.objs.size (.own (s.heap.objs.size+1))) (s.heap.objs.size+1) (.ins C s.heap.objs.size []))
    { s with heap:=(s.heap.push PySem.W.emptyDict).push (PySem.W.instObj C s.heap.objs.size) }:=by
  have e1:(s.heap.push PySem.W.emptyDict).get? s.heap.objs.size=some PySem.W.emptyDict:=Heap.get?_push_size s.heap rfl
  have e2:((s.heap.push PySem.W.emptyDict).push (PySem.W.instObj C s.heap.objs.size)).get? (s.heap.objs.size+1)=some (PySem.W.instObj C s.heap.objs.size):=by
    have:=Heap.get?_push_size (s.heap.push PySem.W.emptyDict) (o:=PySem.W.instObj C s.heap.objs.size) rfl
    rwa [Heap.size_push] at this
  have e3:(s.heap.push PySem.W.emptyDict).Ns s.heap.objs.size (fun _=>none):=⟨PySem.W.emptyDict,#[],_,e1,rfl,(fun e he=>absurd he (by simp)),fun _=>rfl⟩
  have I1:=I.laid (a:=s.heap.objs.size) (o:=.own (s.heap.objs.size+1)) (h':=s.heap.push PySem.W.emptyDict) (t':=s.toks) (fun b u q=>Heap.get?_push_of_some _ q) (Nat.le_refl _) ⟨_,e1⟩
  refine I1.laid (a:=s.heap.objs.size+1) (o:=.ins C s.heap.objs.size []) (t':=s.toks) (fun b u q=>Heap.get?_push_of_some _ q) (Nat.le_of_eq (Heap.size_push _ _)) ?_
  have ne:s.heap.objs.size≠s.heap.objs.size+1:=Nat.ne_of_lt (Nat.lt_succ_self _)
  refine ⟨by rw [qm ne,zr],Nat.zero_le _,ne,e2,fun _=>none,(Heap.Ns1.of_empty e3).at fun o q=>Heap.get?_push_of_some _ q,fun _=>True.intro,fun y hy=>absurd rfl hy⟩
theorem auy {prog:Program} {w:World} {env:Env} {e:Expr} {f:Str} {pos:Pos} {s:Shared} {Q:Value→Shared→Prop} (hb:attributeBase e f env (eval e env)=eval e env)
    (h:wpAny (model prog w) A (eval e env) (fun o s₁=>wpAny (model prog w) A (getAttr o f true) Q E s₁) E s):wpAny (model prog w) A (eval (.Attribute e f pos) env) Q E s:=
  Attribute_any_ h (by rw [arm_eval_Attribute,hb])
end
def a4x (K:PySem.W.Frag) (ta:TE) (f:Str):TE:=fun σ H Q=>ta σ H fun x H1=>∃ a C dx fs v,x=.ref a∧H1 a=some (.ins C dx fs)∧Cls K C∧NoAttr K C f∧fs.lookup f=some v∧Q v H1
def a49 (K:PySem.W.Frag) (ta tv:TE) (f:Str):TS:=fun D σ H=>tv σ H fun y H1=>ta σ H1 fun x H2=>∃ a C dx fs,x=.ref a∧H2 a=some (.ins C dx fs)∧Cls K C∧NoAttr K C f∧fs.length<1000∧
  D.nx σ (upd H2 a (.ins C dx (aar f y fs)))
section
variable {X:Cx} {o e value:Expr} {f:Str} {pos pos' tpos:Pos} {ta tv:TE}
theorem ayr (he:PE X e ta) (hb:attributeBase e f X.env (eval e X.env)=eval e X.env):PE X (.Attribute e f pos) (a4x X.K ta f):=by
  intro pins s σ H Q I h
  refine auy hb (thn (he pins s σ H _ I h) fun u s1 ⟨x,H1,I1,rx,a,C,dx,fs,v,ex,ea,c,n,l,q⟩=>?_)
  subst ex
  obtain rfl:u=Value.ref a:=rx
  exact ao4 I1 ea c n l fun u' s2 I2 ru=>⟨v,H1,I2,ru,q⟩
theorem a0l (ha:PE X o ta) (hv:PE X value tv) (hs:swapsWith value (some (.Attribute o f pos')) pos.line X.env=pure false):PS X (.Assign [.Attribute o f pos'] value pos) (a49 X.K ta tv f):=by
  intro pins s σ H D I h
  refine plainObj_wpAny_Assign_Attribute (thn (hv pins s σ H _ I h) fun u s1 ⟨y,H1,I1,ry,q⟩=>thn (ha pins s1 σ H1 _ I1 q) fun ov s2 ⟨x,H2,I2,rx,a,C,dx,fs,ex,ea,c,n,l,q2⟩=>?_) hs
  subst ex
  obtain rfl:ov=Value.ref a:=rx
  exact ao7 I2 ea c n l ry fun s3 I3=>⟨σ,_,I3,q2⟩
end
section
variable {X:Cx} {pins:List (Addr×Obj)} {σ:St} {H:Hp} {s:Shared} {A:Around} {E:Value→Shared→Prop} {Q:Value→Shared→Prop} {c:Value} {b:Bool}
inductive TyOf (K:PySem.W.Frag) (H:Hp):V→Value→Prop where
  | non:TyOf K H .non (.type "NoneType")
  | bl (x:Bool):TyOf K H (.bl x) (.type "bool")
  | int (i:Int):TyOf K H (.int i) (.type "int")
  | str (x:Str):TyOf K H (.str x) (.type "str")
  | flt (x:UInt64):TyOf K H (.flt x) (.type "float")
  | lst {a:Addr} {xs:List V} (e:H a=some (.lst xs)):TyOf K H (.ref a) (.type "list")
  | frz {a:Addr} {o:Obj} {xs:List V} (e:H a=some (.frz o (.lst xs))):TyOf K H (.ref a) (.type "list")
  | tup {a:Addr} {xs:List V} (e:H a=some (.tup xs)):TyOf K H (.ref a) (.type "tuple")
  | dK {a:Addr} {kvs:List (Key×V)} (e:H a=some (.dK kvs)):TyOf K H (.ref a) (.type "dict")
  | dT {a:Addr} {kvs:List (List Key×V)} (e:H a=some (.dT kvs)):TyOf K H (.ref a) (.type "dict")
  | ins {a C dx:Addr} {fs:List (Str×V)} (e:H a=some (.ins C dx fs)) (cl:Cls K C) (ha:PySem.W.findIn K (.ref C) "__class__" = some (some (.builtin "object.__class__")))
      (hn:PySem.W.specialIn K (.builtin "object.__class__") "__get__" = some (some (.builtin "getset_descriptor.__get__"))) (htk:PySem.W.takesIn K (.builtin "object.__class__")=some true)
      (hm:PySem.W.mroIn K C (.type "object")=some true):TyOf K H (.ref a) (.ref C)
theorem w9 {x:V} {u t:Value} (I:Inv X pins σ H s) (rx:RelV x u) (ty:TyOf X.K H x t) (e:PySem.W.kitOne X.K t c=some b) (h:∀ tk,Q (.bool b) { s with toks:=tk }):
    wpAny (model X.prog X.w) A (call (.builtin "isinstance") [u,c]) Q E s:=by
  cases ty with
  | non=>cases (show u=Value.none from rx);exact PySem.W.kia_one PySem.W.kitx_none I.kIn True.intro e (fun z=>nomatch z) h
  | bl y=>cases (show u=Value.bool y from rx);exact PySem.W.kia_one PySem.W.kitx_bool I.kIn True.intro e (fun z=>nomatch z) h
  | int i=>obtain ⟨t,q⟩:=(show ∃ t,u=Value.int i t from rx);cases q;exact PySem.W.kia_one PySem.W.kitx_int I.kIn True.intro e (fun z=>nomatch z) h
  | str y=>obtain ⟨t,q⟩:=(show ∃ t,u=Value.str y t from rx);cases q;exact PySem.W.kia_one PySem.W.kitx_str I.kIn True.intro e (fun z=>nomatch z) h
  | flt y=>obtain ⟨t,q⟩:=(show ∃ t,u=Value.float y t from rx);cases q;exact PySem.W.kia_one PySem.W.kitx_float I.kIn True.intro e (fun z=>nomatch z) h
  | @lst a xs ea=>
    cases (show u=Value.ref a from rx)
    obtain ⟨_,_,n,_,h1⟩:=(show ObjOk X.prog X.w H s.heap a (.lst xs) from I.hok a _ ea)
    exact PySem.W.kia_one PySem.W.kitx_list I.kIn ⟨_,h1,rfl⟩ e (fun z=>nomatch z) h
  | @frz a ob xs ea=>
    cases (show u=Value.ref a from rx)
    obtain ⟨_,_,_,n,_,h1⟩:=(show ObjOk X.prog X.w H s.heap a (.frz ob (.lst xs)) from I.hok a _ ea)
    exact PySem.W.kia_one PySem.W.kitx_list I.kIn ⟨_,h1,rfl⟩ e (fun z=>nomatch z) h
  | @tup a xs ea=>
    cases (show u=Value.ref a from rx)
    obtain ⟨_,_,_,p⟩:=(show ObjOk X.prog X.w H s.heap a (.tup xs) from I.hok a _ ea)
    obtain ⟨o,h1,h2,_⟩:=p
    exact PySem.W.kia_one PySem.W.kitx_tuple I.kIn ⟨o,h1,h2⟩ e (fun z=>nomatch z) h
  | @dK a kvs ea=>
    cases (show u=Value.ref a from rx)
    obtain ⟨_,_,vs,_,p⟩:=(show ObjOk X.prog X.w H s.heap a (.dK kvs) from I.hok a _ ea)
    obtain ⟨o,es,ep,h1,h2,_⟩:=p
    exact PySem.W.kia_one PySem.W.kitx_dict I.kIn ⟨o,h1,h2.1⟩ e (fun z=>nomatch z) h
  | @dT a kvs ea=>
    cases (show u=Value.ref a from rx)
    obtain ⟨_,_,xs,_,o,es,ep,h1,h2,_⟩:=(show ObjOk X.prog X.w H s.heap a (.dT kvs) from I.hok a _ ea)
    exact PySem.W.kia_one PySem.W.kitx_dict I.kIn ⟨o,h1,h2.1⟩ e (fun z=>nomatch z) h
  | @ins a C dx fs ea cl ha hn htk hm=>
    cases (show u=Value.ref a from rx)
    obtain ⟨mA,O,_⟩:=agb I.hok ea
    obtain ⟨od,J,_⟩:=O.look
    exact PySem.W.kia_one (PySem.W.kitx_own (cl.get _) cl.hd ha hn htk hm) I.kIn J e (fun z=>nomatch z) h
end
end L2
namespace L2
open PySem PySem.Spec PyProof.Rows
structure Room (k:Nat) (A:Around):Prop where
  hd:A.handled=none
  dp:A.depth+3*k+5<recursionLimit
  un:A.units+16*k+200<cLine
theorem Room.mono {j k:Nat} {A:Around} (r:Room k A) (h:j≤k):Room j A:=⟨r.hd,by have:=r.dp;omega,by have:=r.un;omega⟩
theorem Room.deeper {k:Nat} {A:Around} (r:Room (k+1) A) (env:Env):Room k (A.deeper env):=
  ⟨r.hd,by have:=r.dp;show A.depth+1+3*k+5<_;omega,by have:=r.un;show A.units+3+16*k+200<_;omega⟩
theorem anp {A:Around} {C:Addr} {us:List Value} {kw:List (Str×Value)}:(A.under (.builtin "type.__call__" ⟨.ref C::us,kw⟩)).depth=A.depth+1:=by
  first | rfl | simp [Around.under,Code.weight,Code.isCreation,Code.isGuard,Code.isCaller,Code.frames,Code.isFrame,guardIds]
theorem aob {A:Around} {C:Addr} {us:List Value} {kw:List (Str×Value)}:(A.under (.builtin "type.__call__" ⟨.ref C::us,kw⟩)).units=A.units+1:=by
  first | rfl | simp [Around.under,Code.cUnits,Code.frames,Code.isFrame]
theorem Room.make {k:Nat} {A:Around} (r:Room (k+1) A) (C:Addr) (us:List Value) (kw:List (Str×Value)):Room k (A.under (.builtin "type.__call__" ⟨.ref C::us,kw⟩)):=
  ⟨r.hd,by have:=r.dp;rw [anp];omega,by have:=r.un;rw [aob];omega⟩
theorem Room.depth {k:Nat} {A:Around} (r:Room k A):A.depth<recursionLimit:=by have:=r.dp;omega
def a42:TA:=fun _ H Q=>Q [] H
def a2q (ta:TE) (tr:TA):TA:=fun σ H Q=>ta σ H fun x H1=>tr σ H1 fun xs H2=>Q (x::xs) H2
section
variable {X:Cx} {e:Expr} {es:List Expr} {te:TE} {t:TA} {pos:Pos}
theorem aem:PA X [] a42:=fun _ _ _ _ H Q I h=>Calls.spliced_nil ⟨[],H,I,.nil,h⟩
theorem wq (ha:PE X e te) (hr:PA X es t) (hs:starEach (e::es) X.env=(false,eval e X.env)::starEach es X.env:=by rfl):PA X (e::es) (a2q te t):=by
  intro pos pins s σ H Q I h
  rw [hs]
  show wpAny _ _ (spliced ((false,eval e X.env)::backTo pos (starEach es X.env))) _ _ s
  refine Calls.spliced_cons (thn (ha pins s σ H _ I h) fun u s1 ⟨x,H1,I1,r1,q1⟩=>?_)
  exact thn (hr pos pins s1 σ H1 _ I1 q1) fun us s2 ⟨xs,H2,I2,r2,q2⟩=>⟨x::xs,H2,I2,.cons r1 r2,q2⟩
def a4r (t:TA):TE:=fun σ H Q=>t σ H fun xs H1=>xs.length≤sizeLine∧∀ p,H1 p=none→Q (.ref p) (upd H1 p (.tup xs))
def a4d (t:TA):TE:=fun σ H Q=>t σ H fun xs H1=>xs.length≤sizeLine∧∀ p,H1 p=none→Q (.ref p) (upd H1 p (.lst xs))
theorem a0q {x1} (h:PA X es t):PE X (.Tuple es x1 pos) (a4r t):=by
  intro pins s σ H Q I hq
  refine wpAny_Tuple_spliced (thn (h pos pins s σ H _ I hq) fun us s1 ⟨xs,H1,I1,r,z,q⟩=>⟨by rw [← r.length];exact z,?_⟩)
  have hf:H1 s1.heap.objs.size=none:=I1.hok.fresh (Nat.le_refl _)
  refine ⟨.ref s1.heap.objs.size,upd H1 s1.heap.objs.size (.tup xs),I1.laid (t':=s1.toks) (fun b u e=>Heap.get?_push_of_some _ e) (Nat.le_refl _) ?_,rfl,q _ hf⟩
  exact ⟨z,us,r,⟨_,Heap.get?_push_size _ rfl,rfl,_,rfl⟩⟩
theorem aue (h:PA X es t):PE X (.List es pos) (a4d t):=by
  intro pins s σ H Q I hq
  refine wpAny_List_spliced (thn (h pos pins s σ H _ I hq) fun us s1 ⟨xs,H1,I1,r,z,q⟩=>⟨by rw [← r.length];exact z,?_⟩)
  have hf:H1 s1.heap.objs.size=none:=I1.hok.fresh (Nat.le_refl _)
  refine ⟨.ref s1.heap.objs.size,upd H1 s1.heap.objs.size (.lst xs),I1.laid (t':=s1.toks) (fun b u e=>Heap.get?_push_of_some _ e) (Nat.le_refl _) ?_,rfl,q _ hf⟩
  exact ⟨z,us,0,r,Heap.get?_push_size _ rfl⟩
end
abbrev Sp:=List V→Hp→VK→XK→Prop
abbrev CXT:=List Env→Hp→Shared→XK→Value→Shared→Prop
structure Env0 (P:Program) (w:World) (K:PySem.W.Frag) (mg:Str→Option Value) (base:Heap) (A:Around) (outer:List Env) (s:Shared) (H:Hp):Prop where
  frames:A.frames=some outer
  mod:Mod K mg base
  bs:∀ b o,base.get? b=some o→s.heap.get? b=some o∧H b=none
  bsz:base.objs.size≤s.heap.objs.size
  funs:s.heap.FunFrames base outer
  frf:∀ b∈frs outer,H b=none
  hok:HOk P w H s.heap
  bare:AllBare s.gens
  tk:0<s.toks
def CE (outer:List Env) (P:Program) (w:World) (H:Hp) (s:Shared) (Q:VK) (u:Value) (s':Shared):Prop:=
  ∃ v H',s'.os=s.os∧AllBare s'.gens∧Un (frs outer) [] H H' s.heap s'.heap∧HOk P w H' s'.heap∧RelV v u∧Q v H'∧0<s'.toks
def CR (CX:CXT) (outer:List Env) (P:Program) (w:World) (H:Hp) (s:Shared) (Q:VK) (E:XK) (r:Result) (s':Shared):Prop:=
  match r with
  | .ok (.ret u)=>CE outer P w H s Q u s'
  | .ok _=>False
  | .error e=>CX outer H s E e s'
structure FnOk (P:Program) (w:World) (K:PySem.W.Frag) (mg:Str→Option Value) (base:Heap) (CX:CXT) (k:Nat) (f:Addr) (fd:FuncData) (ps:List Str) (sp:Sp):Prop where
  len:∀ vs H Q E,sp vs H Q E→vs.length=ps.length
  run:∀ (A:Around) (outer:List Env) (s:Shared) (H:Hp) (args:Args) (us:List Value) (vs:List V) (Q:VK) (E:XK),Room k A→Env0 P w K mg base A outer s H→BindsTo s fd args (ps.zip us)→Vals vs us→sp vs H Q E→
    codeAny (model P w) A (.call (.ref f) args) (CR CX outer P w H s Q E) s
theorem FnOk.mono {P:Program} {w:World} {K:PySem.W.Frag} {mg:Str→Option Value} {base:Heap} {CX:CXT} {j k:Nat} {f:Addr} {fd:FuncData} {ps:List Str} {sp:Sp} (F:FnOk P w K mg base CX j f fd ps sp) (h:j≤k):
    FnOk P w K mg base CX k f fd ps sp:=⟨F.len,fun A outer s H args us vs Q E hr=>F.run A outer s H args us vs Q E (hr.mono h)⟩
theorem FnOk.imp {P:Program} {w:World} {K:PySem.W.Frag} {mg:Str→Option Value} {base:Heap} {CX:CXT} {k:Nat} {f:Addr} {fd:FuncData} {ps:List Str} {sp sp':Sp} (F:FnOk P w K mg base CX k f fd ps sp)
    (h:∀ vs H Q E,sp' vs H Q E→sp vs H Q E):FnOk P w K mg base CX k f fd ps sp':=
  ⟨fun vs H Q E q=>F.len vs H Q E (h _ _ _ _ q),fun A outer s H args us vs Q E hr he hb hv hs=>F.run A outer s H args us vs Q E hr he hb hv (h _ _ _ _ hs)⟩
theorem Env0.make {P:Program} {w:World} {K:PySem.W.Frag} {mg:Str→Option Value} {base:Heap} {A:Around} {outer:List Env} {s:Shared} {H:Hp} (e:Env0 P w K mg base A outer s H) (C:Addr) (us:List Value) (kw:List (Str×Value)):
    Env0 P w K mg base (A.under (.builtin "type.__call__" ⟨.ref C::us,kw⟩)) outer s H:=⟨by first | exact e.frames | (simpa [Around.under,Code.envs,Code.isFrame,pushEnvs] using e.frames),e.mod,e.bs,e.bsz,e.funs,e.frf,e.hok,e.bare,e.tk⟩
section
variable {X:Cx} {pins:List (Addr×Obj)} {σ:St} {H:Hp} {s s':Shared}
theorem Inv.env0 (I:Inv X pins σ H s):Env0 X.prog X.w X.K X.mg X.base X.A X.stack s H:=
  ⟨I.ok.frames,I.ok.mod,I.bs,Nat.le_trans I.ok.bsz I.sz,I.stack,I.stkFree,I.hok,I.bare,I.tk⟩
theorem Inv.after {Q:VK} {u:Value} (I:Inv X pins σ H s) (h:CE X.stack X.prog X.w H s Q u s'):EP X pins σ Q u s':=by
  obtain ⟨v,H',os,bare,un,hok,r,q,ht⟩:=h
  obtain ⟨hh,g,d,t,os'⟩:=s'
  obtain rfl:os'=s.os:=os
  exact ⟨v,H',I.call (h':=hh) (g':=g) (d':=d) (t':=t) (ch:=[]) un hok bare (fun b z=>absurd z (by simp)),r,q⟩
end
def axx (sp:Sp) (dvs:List V) (E:XK) (t:TA):TE:=fun σ H Q=>t σ H fun vs H1=>sp (vs++dvs) H1 Q E
def a2i (C:Addr) (m:Str) (sp:Sp) (dvs:List V) (E:XK) (ta:TE) (t:TA):TE:=fun σ H Q=>ta σ H fun x H1=>∃ a dx fs,x=.ref a∧H1 a=some (.ins C dx fs)∧fs.lookup m=none∧
  t σ H1 fun vs H2=>sp (x::(vs++dvs)) H2 Q E
def a2t (C:Addr) (sp:Sp) (dvs:List V) (E:XK) (t:TA):TE:=fun σ H Q=>t σ H fun vs H1=>∀ x dx,H1 x=none→H1 dx=none→dx≠x→
  sp (.ref x::(vs++dvs)) (upd (upd H1 dx (.own x)) x (.ins C dx [])) (fun v H2=>v=.non∧Q (.ref x) H2) E
def Binds (K:PySem.W.Frag) (fd:FuncData) (ps:List Str) (ds:List Value):Prop:=
  ∀ (s:Shared) (us:List Value),K.In s.heap→(us++ds).length=ps.length→BindsTo s fd ⟨us,[]⟩ (ps.zip (us++ds))
theorem Binds.all {K:PySem.W.Frag} {fd:FuncData} {ps:List Str} (h:∀ us:List Value,us.length=ps.length→bindArgs fd ⟨us,[]⟩=pure (ps.zip us)):Binds K fd ps []:=fun s us _ hl=>by
  rw [List.append_nil] at hl ⊢
  exact .of_eq (h us hl)
def ae9 (CX:CXT) (X:Cx) (E:XK):Prop:=∀ (pins:List (Addr×Obj)) (σ:St) (H:Hp) (s:Shared) (e:Value) (s':Shared),Inv X pins σ H s→CX X.stack H s E e s'→X.xe e s'
section
variable {X:Cx} {CX:CXT} {k:Nat} {f C:Addr} {fd:FuncData} {ps:List Str} {sp:Sp} {dvs:List V} {ds:List Value} {E:XK} {x m:Str} {p pos apos:Pos} {e o:Expr} {es:List Expr} {ta:TE} {t:TA}
theorem asz {pins:List (Addr×Obj)} {σ:St} {H:Hp} {s:Shared} {Q:VK} {us:List Value} {vs:List V} (F:FnOk X.prog X.w X.K X.mg X.base CX k f fd ps sp) (hr:Room k X.A) (hb:Binds X.K fd ps ds) (hd:Vals dvs ds) (hx:ae9 CX X E)
    (I:Inv X pins σ H s) (r:Vals vs us) (h:sp (vs++dvs) H Q E):wpAny (model X.prog X.w) X.A (call (.ref f) us) (EP X pins σ Q) X.xe s:=by
  have r2:Vals (vs++dvs) (us++ds):=r.append hd
  have hl:(us++ds).length=ps.length:=by rw [← r2.length];exact F.len _ _ _ _ h
  refine wpAny_call (codeAny_mono (F.run X.A X.stack s H ⟨us,[]⟩ (us++ds) (vs++dvs) Q E hr I.env0 (hb s us I.kIn hl) r2 h) fun r s' hq=>?_)
  cases r with
  | error e=>exact hx pins σ H s e s' I hq
  | ok fl=>
    cases fl with
    | ret u=>exact I.after hq
    | next=>exact False.elim hq
    | brk=>exact False.elim hq
    | cont=>exact False.elim hq
theorem awl (F:FnOk X.prog X.w X.K X.mg X.base CX k f fd ps sp) (hr:Room k X.A) (hg:Gl X x) (hm:X.mg x=some (.ref f)) (hk:PySem.W.keepIn X.K (.ref f)=true) (hb:Binds X.K fd ps ds) (hd:Vals dvs ds) (hx:ae9 CX X E)
    (ha:PA X (e::es) t) (hdb:(x==("__debug__" : Str))=false:=by decide) (he:starEach (e::es) X.env=(false,eval e X.env)::starEach es X.env:=by rfl) (hpl:(backTo pos (starEach es X.env)).any (·.1)=false:=by rfl):
    PE X (.Call (.Name x p) (e::es) [] pos) (axx sp dvs E t):=by
  intro pins s σ H Q I h
  refine wpAny_Call_Name_kw (wu I hg hm ?_ hdb)
  refine PySem.W.callWith_K (h₀:=X.base) I.ok.mod.kin hk (thn (ha pos pins s σ H _ I h) fun us s1 ⟨vs,H1,I1,r,q⟩=>⟨I1.kIn,?_⟩) he hpl
  exact asz F hr hb hd hx I1 r q
theorem av2 {pl:Sem Bool} (he:PE X o ta) (c:Cls X.K C) (hm:Meth X.K C m f) (F:FnOk X.prog X.w X.K X.mg X.base CX k f fd ps sp) (hr:Room k X.A) (hb:Binds X.K fd ps ds) (hd:Vals dvs ds) (hx:ae9 CX X E) (ha:PA X (e::es) t)
    (hst:starEach (e::es) X.env=(false,eval e X.env)::starEach es X.env:=by rfl) (hpl:(backTo pos (starEach es X.env)).any (·.1)=false:=by rfl)
    (ht:eval (.Call (.Attribute o m apos) (e::es) [] pos) X.env=(do
      let ov ← eval o X.env
      standAt apos.atName
      let (f,first) ← holding [ov] (getMethod ov m pl)
      callWith pos f first (backTo pos (starEach (e::es) X.env)) (backToKw pos (keywordEach [] X.env))):=by rfl):
    PE X (.Call (.Attribute o m apos) (e::es) [] pos) (a2i C m sp dvs E ta t):=by
  intro pins s σ H Q I h
  refine PySem.W.methodCall_KW (pl:=pl) (thn (he pins s σ H _ I h) fun u s1 ⟨x,H1,I1,rx,a,dx,fs,ex,ea,l,q⟩=>?_) ht
  subst ex
  obtain rfl:u=Value.ref a:=rx
  refine aod I1 ea c hm l ?_
  refine PySem.W.callWith_K (first:=[.ref a]) (h₀:=X.base) I.ok.mod.kin hm.kp (thn (ha pos pins s1 σ H1 _ I1 q) fun us s2 ⟨vs,H2,I2,r,q2⟩=>⟨I2.kIn,?_⟩) hst hpl
  exact asz (us:=.ref a::us) (vs:=.ref a::vs) F hr hb hd hx I2 (.cons rfl r) q2
structure Mk (K:PySem.W.Frag) (C f:Addr):Prop where
  makes:PySem.W.makesIn K C=true
  init:PySem.W.findIn K (.ref C) "__init__" = some (some (.ref f))
  fn:PySem.W.isFn K (.ref f)=true
  kp:PySem.W.keepIn K (.ref C)=true
theorem atc {pins:List (Addr×Obj)} {σ:St} {H:Hp} {s:Shared} {Q:VK} {us:List Value} {vs:List V} (M:Mk X.K C f) (F:FnOk X.prog X.w X.K X.mg X.base CX k f fd ps sp) (hr:Room (k+1) X.A) (hb:Binds X.K fd ps ds) (hd:Vals dvs ds)
    (hx:ae9 CX X E) (I:Inv X pins σ H s) (r:Vals vs us)
    (h:∀ x dx,H x=none→H dx=none→dx≠x→sp (.ref x::(vs++dvs)) (upd (upd H dx (.own x)) x (.ins C dx [])) (fun v H2=>v=.non∧Q (.ref x) H2) E):
    wpAny (model X.prog X.w) X.A (call (.ref C) us) (EP X pins σ Q) X.xe s:=by
  have hq:=h (s.heap.objs.size+1) s.heap.objs.size (I.hok.fresh (Nat.le_succ _)) (I.hok.fresh (Nat.le_refl _)) (Nat.ne_of_lt (Nat.lt_succ_self _))
  have I2:=Inv.made (C:=C) I
  have r2:Vals (V.ref (s.heap.objs.size+1)::(vs++dvs)) (Value.ref (s.heap.objs.size+1)::(us++ds)):=.cons rfl (r.append hd)
  have hl:(Value.ref (s.heap.objs.size+1)::us++ds).length=ps.length:=by
    have e:=r2.length
    rw [F.len _ _ _ _ hq] at e
    exact e.symm
  refine wpAny_call (ar3 (f:=f) I.kIn M.makes M.init (beq_iff_eq.mp M.fn) (codeAny_mono (F.run _ X.stack _ _ ⟨Value.ref (s.heap.objs.size+1)::us,[]⟩ (Value.ref (s.heap.objs.size+1)::(us++ds)) _ _ E (hr.make C us [])
    (I2.env0.make C us []) (hb _ (Value.ref (s.heap.objs.size+1)::us) I2.kIn hl) r2 hq) fun r s' hq'=>?_))
  cases r with
  | error e=>exact hx pins σ _ _ e s' I2 hq'
  | ok fl=>
    cases fl with
    | ret u=>
      obtain ⟨v,H',I3,rv,ev,q3⟩:=I2.after hq'
      subst ev
      exact ⟨rv,⟨V.ref (s.heap.objs.size+1),H',I3,rfl,q3⟩⟩
    | next=>exact False.elim hq'
    | brk=>exact False.elim hq'
    | cont=>exact False.elim hq'
theorem ax6 (M:Mk X.K C f) (F:FnOk X.prog X.w X.K X.mg X.base CX k f fd ps sp) (hr:Room (k+1) X.A) (hg:Gl X x) (hm:X.mg x=some (.ref C)) (hb:Binds X.K fd ps ds) (hd:Vals dvs ds) (hx:ae9 CX X E)
    (ha:PA X (e::es) t) (hdb:(x==("__debug__" : Str))=false:=by decide) (he:starEach (e::es) X.env=(false,eval e X.env)::starEach es X.env:=by rfl) (hpl:(backTo pos (starEach es X.env)).any (·.1)=false:=by rfl):
    PE X (.Call (.Name x p) (e::es) [] pos) (a2t C sp dvs E t):=by
  intro pins s σ H Q I h
  refine wpAny_Call_Name_kw (wu I hg hm ?_ hdb)
  refine PySem.W.callWith_K (h₀:=X.base) I.ok.mod.kin M.kp (thn (ha pos pins s σ H _ I h) fun us s1 ⟨vs,H1,I1,r,q⟩=>⟨I1.kIn,?_⟩) he hpl
  exact atc M F hr hb hd hx I1 r q
end
section
variable {X:Cx} {CX:CXT} {k:Nat} {f C:Addr} {fd:FuncData} {ps ks:List Str} {sp:Sp} {E:XK} {x m:Str} {p pos apos kpos:Pos} {e o:Expr} {es:List Expr} {kws:List Keyword} {te ta:TE} {t tk:TA} {nm:Option Str}
variable {g:List Value→List Value→List Value} {gV:List V→List V→List V}
end
structure FnScope (N P:List Str) (sc:Scope):Prop where
  kind:sc.kind=.function
  co:sc.isCoroutine=false
  gen:sc.isGenerator=false
  nd:N.Nodup
  pre:N.take P.length=P
  par:∀ x∈P,sc.names.lookup x=some .local∨sc.names.lookup x=some .cell
  nofree:∀ y∈sc.names,y.2≠.free
theorem aj9 {kindOf:Str→Option NameKind} {x:Str}:∀ {binds:List (Str×Value)} {m:Str→Option Value},(∀ v,(x,v)∉binds)→bindL kindOf binds m x=m x
  | [],_,_=>rfl
  | (n,v)::r,m,h=>by
    unfold bindL
    rw [aj9 fun w hw=>h w (List.mem_cons_of_mem _ hw)]
    split
    · have:x≠n:=by rintro rfl;exact h v List.mem_cons_self
      simp [this]
    · rfl
theorem ajb {kindOf:Str→Option NameKind} {x:Str}:∀ {binds:List (Str×Value)} {m:Str→Option Value},(∀ v,(x,v)∉binds)→bindC kindOf binds m x=m x
  | [],_,_=>rfl
  | (n,v)::r,m,h=>by
    unfold bindC
    rw [ajb fun w hw=>h w (List.mem_cons_of_mem _ hw)]
    split
    · rfl
    · have:x≠n:=by rintro rfl;exact h v List.mem_cons_self
      simp [this]
theorem aj5 {kindOf:Str→Option NameKind} {x:Str} {v:Value}:∀ {P:List Str} {vs:List Value} {i:Nat} {m:Str→Option Value},P.Nodup→P[i]?=some x→vs[i]?=some v→kindOf x=some .local→
    bindL kindOf (P.zip vs) m x=some v
  | [],_,_,_,_,h,_,_=>by simp at h
  | _::_,[],_,_,_,_,h,_=>by simp at h
  | p::P,w::vs,0,m,nd,h1,h2,hk=>by
    simp at h1 h2;subst h1;subst h2
    show bindL kindOf ((p,w)::P.zip vs) m p=_
    unfold bindL
    rw [aj9 fun v hv=>(List.nodup_cons.mp nd).1 (List.of_mem_zip hv).1,if_pos hk]
    simp
  | p::P,w::vs,i+1,m,nd,h1,h2,hk=>by
    show bindL kindOf ((p,w)::P.zip vs) m x=_
    unfold bindL
    exact aj5 (i:=i) (List.nodup_cons.mp nd).2 (by simpa using h1) (by simpa using h2) hk
theorem aix {kindOf:Str→Option NameKind} {x:Str} {v:Value}:∀ {P:List Str} {vs:List Value} {i:Nat} {m:Str→Option Value},P.Nodup→P[i]?=some x→vs[i]?=some v→kindOf x≠some .local→
    bindC kindOf (P.zip vs) m x=some v
  | [],_,_,_,_,h,_,_=>by simp at h
  | _::_,[],_,_,_,_,h,_=>by simp at h
  | p::P,w::vs,0,m,nd,h1,h2,hk=>by
    simp at h1 h2;subst h1;subst h2
    show bindC kindOf ((p,w)::P.zip vs) m p=_
    unfold bindC
    rw [ajb fun v hv=>(List.nodup_cons.mp nd).1 (List.of_mem_zip hv).1,if_neg hk]
    simp
  | p::P,w::vs,i+1,m,nd,h1,h2,hk=>by
    show bindC kindOf ((p,w)::P.zip vs) m x=_
    unfold bindC
    exact aix (i:=i) (List.nodup_cons.mp nd).2 (by simpa using h1) (by simpa using h2) hk
def start (N:List Str) (vs:List V):St:=vs.map some++List.replicate (N.length - vs.length) none
def zx (CX:CXT) (P:Program) (w:World) (K:PySem.W.Frag) (mg:Str→Option Value) (base:Heap) (N:List Str) (qual:Str) (scope:Scope) (f:Addr) (cd:Value) (A:Around) (outer:List Env) (s:Shared) (H:Hp) (E:XK):Cx where
  prog:=P
  w:=w
  K:=K
  mg:=mg
  base:=base
  A:=A.deeper (envOfC qual scope s.heap.objs.size f cd)
  N:=N
  s₀:=s
  H₀:=H
  env:=envOfC qual scope s.heap.objs.size f cd
  outer:=outer
  stack:=envOfC qual scope s.heap.objs.size f cd::outer
  ex:=[]
  calm:=true
  fn:=fun _=>true
  pn:=[]
  xe:=fun e s'=>wpAny (model P w) (A.deeper (envOfC qual scope s.heap.objs.size f cd)) (leaving (envOfC qual scope s.heap.objs.size f cd) e) (fun _ s''=>CX outer H s E e s'') (fun e' s''=>CX outer H s E e' s'') s'
theorem ami {sc:Scope} {n:Nat} {x:Str} (h:sc.names.lookup x=some .cell):∃ c,(cellsFrom n sc.names []).lookup x=some c:=by
  have q:=PySem.W.cellsFrom_some sc.names n [] (.inl h)
  exact Option.isSome_iff_exists.mp q
theorem apv {CX:CXT} {P:Program} {w:World} {K:PySem.W.Frag} {mg:Str→Option Value} {base:Heap} {N ps:List Str} {qual:Str} {scope:Scope} {f:Addr} {cd:Value} {A:Around} {outer:List Env} {s s1:Shared} {H:Hp} {E:XK} {us:List Value} {vs:List V}
    (S:FnScope N ps scope) (hd:A.handled=none) (e0:Env0 P w K mg base A outer s H) (hl:vs.length=ps.length) (r:Vals vs us)
    (x:InCallC s s.heap.objs.size (bindL (envOfC qual scope s.heap.objs.size f cd).kindOf (ps.zip us) fun _=>none) (cellsFrom (s.heap.objs.size+1) scope.names []) (bindC (envOfC qual scope s.heap.objs.size f cd).kindOf (ps.zip us) fun _=>none) s1) (ht:0<s1.toks):
    Inv (zx CX P w K mg base N qual scope f cd A outer s H E) [] (start N vs) H s1:=by
  have hpl:ps.length≤N.length:=by have:=congrArg List.length S.pre;rw [List.length_take] at this;omega
  obtain ⟨h1,tk,rfl,hk⟩:=x.done
  have noA:∀ b:Addr,b∉(zx CX P w K mg base N qual scope f cd A outer s H E).ex:=fun b z=>absurd (show b∈([]:List Addr) from z) (by simp)
  refine ⟨⟨e0.mod,S.kind,rfl,rfl,Nat.le_refl _,fun y z c h1 h2=>?_,fun y hy=>?_,fun y c _ h=>?_,fun _=>hd,Around.frames_deeper e0.frames,.inr ⟨rfl,rfl⟩,fun b z=>absurd z (noA b),e0.bs,e0.bsz,fun b _ _=>noA b,fun b z=>absurd z (noA b),e0.funs,e0.frf⟩,
    rfl,e0.bare,Un.kept hk,⟨_,x.toInCall.ns,fun i y v h1 h2 h3=>?_⟩,fun y c h=>⟨_,x.cell y c h⟩,e0.hok.fresh (Nat.le_refl _),fun y c h=>?_,fun p hp=>absurd (show p∈([]:List (Addr×Obj)) from hp) (by simp),e0.hok.kept hk,?_,ht⟩
  · exact name_of_addr x.apart (PySem.mem_of_lookup h1) (PySem.mem_of_lookup h2)
  · have hy:scope.names.lookup y=some .cell∨scope.names.lookup y=some .free:=hy
    rcases hy with hy | hy
    · exact ami hy
    · exact absurd rfl (S.nofree _ (PySem.mem_of_lookup hy))
  · exact Nat.le_of_lt (x.above y c (PySem.mem_of_lookup h))
  · have hi:i<vs.length:=by
      unfold start at h2
      by_cases hi:i<vs.length
      · exact hi
      · rw [List.getElem?_append_right (by simpa using hi)] at h2
        rw [List.getElem?_replicate] at h2
        split at h2<;>cases h2
    have ha:vs[i]?=some v:=by
      unfold start at h2
      rw [List.getElem?_append_left (by simpa using hi),List.getElem?_map] at h2
      cases e:vs[i]? with
      | none=>rw [e] at h2;cases h2
      | some a=>rw [e] at h2;cases h2;rfl
    obtain ⟨u,hu,rv⟩:=r.get ha
    have hp:ps[i]?=some y:=by
      rw [← S.pre,List.getElem?_take_of_lt (by omega)];exact h1
    have ndP:ps.Nodup:=by rw [← S.pre];exact S.nd.sublist (List.take_sublist _ _)
    refine ⟨u,rv,?_⟩
    rcases S.par y (List.mem_of_getElem? hp) with k | k
    · exact .inl ⟨k,aj5 ndP hp hu k⟩
    · obtain ⟨c,e⟩:=ami (n:=s.heap.objs.size+1) k
      refine .inr ⟨.inl k,c,e,?_⟩
      have q:=x.cell y c e
      rw [aix ndP hp hu (by show scope.names.lookup y≠_;rw [k];decide)] at q
      exact q
  · exact e0.hok.fresh (Nat.le_of_lt (x.above y c (PySem.mem_of_lookup h)))
  · unfold start
    show _=N.length
    rw [List.length_append,List.length_map,List.length_replicate]
    omega
theorem ay4 {CX:CXT} {P:Program} {w:World} {K:PySem.W.Frag} {mg:Str→Option Value} {base:Heap} {k:Nat} {f:Addr} {name qual:Str} {params:Arguments} {body:List Stmt} {scope:Scope} {dV kV doc pm cdv ct oc:Value} {an od:Option Addr}
    {osl:Array (Option Value)} {N ps:List Str} {sp:Sp} (lk:K.lookup f=some ⟨oc,od,.func (PySem.W.fnOf name qual params body scope dV kV doc pm an cdv ct),osl⟩) (hcd:PySem.W.codeIn K cdv qual=true) (S:FnScope N ps scope)
    (len:∀ vs H Q E,sp vs H Q E→vs.length=ps.length)
    (hbody:∀ (A:Around) (outer:List Env) (s:Shared) (H:Hp) (vs:List V) (Q:VK) (E:XK),Room k (A.deeper (envOfC qual scope s.heap.objs.size f cdv))→sp vs H Q E→
      ∃ t,PSs (zx CX P w K mg base N qual scope f cdv A outer s H E) body t∧t { nx:=fun _ H'=>Q .non H',rt:=Q } (start N vs) H):
    FnOk P w K mg base CX (k+1) f (PySem.W.fnOf name qual params body scope dV kV doc pm an cdv ct) ps sp:=by
  refine ⟨len,fun A outer s H args us vs Q E hr e0 hb r hsp=>?_⟩
  have hl:=len _ _ _ _ hsp
  have KX:K.In s.heap:=e0.mod.kin.keeps fun b o e=>(e0.bs b o e).1
  have lim:s.heap.NoLimit:=e0.mod.nolimit.keeps fun b o e=>(e0.bs b o e).1
  have hkind:∀ y∈ps.zip us,scope.names.lookup y.1=some .local∨(scope.names.lookup y.1=some .cell∧((cellsFrom (s.heap.objs.size+1) scope.names []).lookup y.1).isSome=true):=fun ⟨n,v⟩ hy=>by
    rcases S.par n (List.of_mem_zip hy).1 with q | q
    · exact .inl q
    · exact .inr ⟨q,PySem.W.cellsFrom_some _ _ _ (.inl q)⟩
  refine codeAny_call_function hr.depth (KX _ _ lk) rfl S.co S.gen rfl (PySem.W.codeRec_of KX hcd) (hb _ _ _ _ ?_)
  refine j9 e0.tk (wpAny_newFunctionEnv_cells S.kind hkind fun env he s1 x htk=>?_)
  subst he
  refine ⟨lim.keeps x.toInCall.keep,codeAny_func ?_⟩
  obtain ⟨t,ht,hq⟩:=hbody A outer s H vs Q E (hr.deeper _) hsp
  have I:Inv (zx CX P w K mg base N qual scope f cdv A outer s H E) [] (start N vs) H s1:=apv S hr.hd e0 hl r x htk
  refine wpAny_mono (ht [] s1 (start N vs) H _ I hq) (fun fl s' hs=>?_) fun e s' hs=>hs
  have fin:∀ {σ':St} {H':Hp} {v:V} {u:Value},Inv (zx CX P w K mg base N qual scope f cdv A outer s H E) [] σ' H' s'→RelV v u→Q v H'→CE outer P w H s Q u s':=
    fun {σ' H' v u} J rv q=>⟨v,H',J.os,J.bare,J.base,J.hok,rv,q,J.tk⟩
  cases fl with
  | ret u=>
    obtain ⟨v,σ',H',J,rv,q⟩:=hs
    exact fin J rv q
  | next=>
    obtain ⟨σ',H',J,q⟩:=hs
    exact fin (v:=V.non) (u:=Value.none) J rfl q
  | brk=>
    obtain ⟨_,_,_,q⟩:=hs
    exact False.elim q
  | cont=>
    obtain ⟨_,_,_,q⟩:=hs
    exact False.elim q
end L2
namespace L2
open PySem PySem.Spec PyProof.Rows
section
variable {X:Cx} {x:Str} {p pos:Pos} {e:Expr} {es:List Expr} {t:TA} {id T:String} {r:List V→Hp→VK→Prop}
def tCB (r:List V→Hp→VK→Prop) (t:TA):TE:=fun σ H Q=>t σ H fun vs H1=>r vs H1 Q
theorem ahf (hc:CallR X (.builtin id) r) (hg:Gl X x) (hm:X.mg x=none) (hv:bootBuiltins x=some (.builtin id)) (ha:PA X (e::es) t) (hn:x ≠ "__name__" := by decide) (hdb:(x==("__debug__" : Str))=false:=by decide)
    (he:starEach (e::es) X.env=(false,eval e X.env)::starEach es X.env:=by rfl) (hpl:(backTo pos (starEach es X.env)).any (·.1)=false:=by rfl):PE X (.Call (.Name x p) (e::es) [] pos) (tCB r t):=by
  intro pins s σ H Q I h
  refine wpAny_Call_Name_kw (aho I hg hm hv ?_ hn hdb)
  exact PyProof.Rows.callWith_builtin1 (thn (ha pos pins s σ H _ I h) fun us s1 ⟨vs,H1,I1,r1,q1⟩=>hc pins s1 σ H1 vs us Q I1 r1 q1) he hpl
theorem aje (hc:CallR X (.type T) r) (hg:Gl X x) (hm:X.mg x=none) (hv:bootBuiltins x=some (.type T)) (ha:PA X (e::es) t) (hn:x ≠ "__name__" := by decide) (hdb:(x==("__debug__" : Str))=false:=by decide)
    (he:starEach (e::es) X.env=(false,eval e X.env)::starEach es X.env:=by rfl) (hpl:(backTo pos (starEach es X.env)).any (·.1)=false:=by rfl):PE X (.Call (.Name x p) (e::es) [] pos) (tCB r t):=by
  intro pins s σ H Q I h
  refine wpAny_Call_Name_kw (aho I hg hm hv ?_ hn hdb)
  exact PyProof.Rows.callWith_type1 (thn (ha pos pins s σ H _ I h) fun us s1 ⟨vs,H1,I1,r1,q1⟩=>hc pins s1 σ H1 vs us Q I1 r1 q1) he hpl
end
end L2
namespace L2
open PySem PySem.Spec PyProof.Rows
section
variable {κ:Type} [DecidableEq κ]
def ace (kvs:List (κ×V)) (k:κ):Option V:=(kvs.find? fun kv=>decide (kv.1=k)).map (·.2)
def aer (kvs:List (κ×V)) (k:κ) (v:V):List (κ×V):=
  if (kvs.any fun kv=>decide (kv.1=k))=true then kvs.map (fun kv=>if kv.1=k then (kv.1,v) else kv) else kvs++[(k,v)]
theorem agz {p:κ×V} {r:List (κ×V)} {k:κ} (e:p.1=k):ace (p::r) k=some p.2:=by simp [ace,List.find?_cons,e]
theorem ad9 {p:κ×V} {r:List (κ×V)} {k:κ} (e:¬ p.1=k):ace (p::r) k=ace r k:=by simp [ace,List.find?_cons,e]
theorem amu (k:κ):∀ kvs:List (κ×V),(kvs.any fun kv=>decide (kv.1=k))=(ace kvs k).isSome
  | []=>rfl
  | p::r=>by
    rw [List.any_cons]
    by_cases e:p.1=k
    · simp only [agz e,decide_eq_true e,Bool.true_or,Option.isSome_some]
    · rw [ad9 e,decide_eq_false e,Bool.false_or];exact amu k r
theorem af6 (kvs:List (κ×V)) (k:κ) (v:V):(aer kvs k v).length≤kvs.length+1:=by
  unfold aer
  split
  · rw [List.length_map];omega
  · rw [List.length_append,List.length_cons,List.length_nil];omega
theorem RelO.isSome_eq {o:Option V} {u:Option Value} (r:RelO o u):o.isSome=u.isSome:=by
  cases o with
  | none=>cases u with
    | none=>rfl
    | some _=>exact (show False from r).elim
  | some _=>cases u with
    | none=>exact (show False from r).elim
    | some _=>rfl
theorem RelO.getD {o:Option V} {u:Option Value} {d:V} {d':Value} (r:RelO o u) (rd:RelV d d'):RelV (o.getD d) (u.getD d'):=by
  cases o with
  | none=>cases u with
    | none=>exact rd
    | some _=>exact (show False from r).elim
  | some _=>cases u with
    | none=>exact (show False from r).elim
    | some _=>exact r
theorem KV.val {kvs:List (κ×V)} {vs:List (κ×Value)} (r:KV kvs vs) (k:κ):RelO (ace kvs k) (valueAt vs k):=by
  unfold KV at r
  induction r with
  | nil=>exact True.intro
  | @cons p q ps qs h t ih=>
    obtain ⟨h1,h2⟩:=h
    by_cases e:p.1=k
    · have e':q.1=k:=h1.symm.trans e
      have b:valueAt (q::qs) k=some q.2:=by simp [valueAt,List.find?_cons,e']
      rw [agz e,b];exact h2
    · have e':¬ q.1=k:=fun z=>e (h1.trans z)
      have b:valueAt (q::qs) k=valueAt qs k:=by simp [valueAt,List.find?_cons,e']
      rw [ad9 e,b];exact ih
theorem KV.any {kvs:List (κ×V)} {vs:List (κ×Value)} (r:KV kvs vs) (k:κ):(kvs.any fun kv=>decide (kv.1=k))=vs.any fun kv=>decide (kv.1=k):=by
  unfold KV at r
  induction r with
  | nil=>rfl
  | cons h t ih=>rw [List.any_cons,List.any_cons,ih,h.1]
theorem KV.repl {kvs:List (κ×V)} {vs:List (κ×Value)} (r:KV kvs vs) (k:κ) {y:V} {u:Value} (ry:RelV y u):
    KV (kvs.map fun kv=>if kv.1=k then (kv.1,y) else kv) (vs.map fun kv=>if kv.1=k then (kv.1,u) else kv):=by
  unfold KV at r ⊢
  induction r with
  | nil=>exact .nil
  | @cons p q ps qs h t ih=>
    rw [List.map_cons,List.map_cons]
    refine .cons ?_ ih
    obtain ⟨h1,h2⟩:=h
    by_cases e:p.1=k
    · rw [if_pos e,if_pos (h1.symm.trans e)];exact ⟨h1,ry⟩
    · rw [if_neg e,if_neg (fun z=>e (h1.trans z))];exact ⟨h1,h2⟩
theorem KV.put {kvs:List (κ×V)} {vs:List (κ×Value)} (r:KV kvs vs) (k:κ) {y:V} {u:Value} (ry:RelV y u):KV (aer kvs k y) (stored vs k u):=by
  unfold aer stored
  rw [r.any k]
  by_cases e:(vs.any fun kv=>decide (kv.1=k))=true
  · rw [if_pos e,if_pos e];exact r.repl k ry
  · rw [if_neg e,if_neg e];exact Paired.snoc r ⟨rfl,ry⟩
theorem KV.length {kvs:List (κ×V)} {vs:List (κ×Value)} (r:KV kvs vs):kvs.length=vs.length:=Paired.length r
end
theorem aij {P:Program} {w:World} {k:Key} {u:Value} (r:RelV (kV k) u):(jc P w).is k u=true:=by
  cases k with
  | inl i=>obtain ⟨t,e⟩:=(show ∃ t,u=Value.int i t from r);subst e;exact amk P w i t
  | inr x=>obtain ⟨t,e⟩:=(show ∃ t,u=Value.str x t from r);subst e;exact amg P w x t
theorem aiz {P:Program} {w:World}:∀ {ks:List Key} {us:List Value},Vals (ks.map kV) us→ItemsAre (jc P w) ks us
  | [],_,r=>by rw [List.map_nil] at r;cases r;exact .nil
  | k::ks,_,r=>by
    rw [List.map_cons] at r
    cases r with
    | cons h t=>exact .cons (aij h) (aiz t)
abbrev KT (H:Hp):List (List Key×V)→List (List Key×Addr×Value)→Prop:=Paired fun p q=>p.1=q.1∧H q.2.1=some (.tup (p.1.map kV))∧RelV p.2 q.2.2
theorem KT.val {H:Hp} {kvs:List (List Key×V)} {xs:List (List Key×Addr×Value)} (r:KT H kvs xs) (k:List Key):RelO (ace kvs k) ((atKey xs k).map (·.2)):=by
  induction r with
  | nil=>exact True.intro
  | @cons p q ps qs h t ih=>
    obtain ⟨h1,_,h2⟩:=h
    by_cases e:p.1=k
    · have e':q.1=k:=h1.symm.trans e
      have b:atKey (q::qs) k=some q.2:=by simp [atKey,List.find?_cons,e']
      rw [agz e,b];exact h2
    · have e':¬ q.1=k:=fun z=>e (h1.trans z)
      have b:atKey (q::qs) k=atKey qs k:=by simp [atKey,List.find?_cons,e']
      rw [ad9 e,b];exact ih
theorem KT.repl {H:Hp} {kvs:List (List Key×V)} {xs:List (List Key×Addr×Value)} (r:KT H kvs xs) (k:List Key) {y:V} {u:Value} (ry:RelV y u):
    KT H (kvs.map fun kv=>if kv.1=k then (kv.1,y) else kv) (xs.map (putAt k u)):=by
  induction r with
  | nil=>exact .nil
  | @cons p q ps qs h t ih=>
    rw [List.map_cons,List.map_cons]
    refine .cons ?_ ih
    obtain ⟨h1,h2,h3⟩:=h
    unfold putAt
    by_cases e:p.1=k
    · rw [if_pos e,if_pos (h1.symm.trans e)];exact ⟨h1,h2,ry⟩
    · rw [if_neg e,if_neg (fun z=>e (h1.trans z))];exact ⟨h1,h2,h3⟩
theorem KT.put {H:Hp} {kvs:List (List Key×V)} {xs:List (List Key×Addr×Value)} (r:KT H kvs xs) (k:List Key) {b:Addr} {y:V} {u:Value} (hb:H b=some (.tup (k.map kV))) (ry:RelV y u):
    KT H (aer kvs k y) (storedH xs k b u):=by
  have e:(kvs.any fun kv=>decide (kv.1=k))=(atKey xs k).isSome:=by
    rw [amu,(r.val k).isSome_eq,Option.isSome_map]
  unfold aer storedH
  rw [e]
  by_cases q:(atKey xs k).isSome=true
  · rw [if_pos q,if_pos q];exact r.repl k ry
  · rw [if_neg q,if_neg q];exact Paired.snoc r ⟨rfl,hb,ry⟩
theorem KT.keeps {H H':Hp} {kvs:List (List Key×V)} {xs:List (List Key×Addr×Value)} (r:KT H kvs xs) (ht:∀ b ys,H b=some (.tup ys)→H' b=some (.tup ys)):KT H' kvs xs:=
  Paired.mapP r fun _ _ z=>⟨z.1,ht _ _ z.2.1,z.2.2⟩
section
variable {P:Program} {w:World} {H:Hp} {h:Heap} {a:Addr}
theorem axq {u:HO} (ok:HOk P w H h) (e:Rd H a u):ObjOk P w H h a u:=e.ok ok
theorem aiy {kvs:List (Key×V)} (ok:HOk P w H h) (e:Rd H a (.dK kvs)):kvs.length≤sizeLine∧(a==sysModules)=false∧∃ vs,KV kvs vs∧h.DictOf (jc P w) a vs:=
  show ObjOk P w H h a (.dK kvs) from axq ok e
theorem a1i {kvs:List (Key×V)} (ok:HOk P w H h) (e:H a=some (.dK kvs)):kvs.length≤sizeLine∧(a==sysModules)=false∧∃ vs,KV kvs vs∧h.DictOf (jc P w) a vs:=aiy ok (.inl e)
theorem akh {ks:List Key} (ok:HOk P w H h) (e:H a=some (.tup (ks.map kV))):(tupleKind (jc P w)).is h ks a:=by
  obtain ⟨_,its,r,o,h1,h2,n,h3⟩:=(show ObjOk P w H h a (.tup (ks.map kV)) from ok a _ e)
  exact ⟨o,its.toArray,n,h1,h2,h3,by simpa using aiz r⟩
theorem am3 {kvs:List (List Key×V)} (ok:HOk P w H h) (e:Rd H a (.dT kvs)):kvs.length≤sizeLine∧(a==sysModules)=false∧
    ∃ xs,KT H kvs xs∧h.DictOfH (tupleKind (jc P w)) a xs:=by
  obtain ⟨z,y,xs,r,o,es,ep,h1,h2,h3,h4,h5⟩:=(show ObjOk P w H h a (.dT kvs) from axq ok e)
  refine ⟨z,y,xs,r,o,es,ep,h1,h2,h3,h4,fun x hx=>?_,h5⟩
  have all:∀ {l:List (List Key×V)} {m:List (List Key×Addr×Value)},KT H l m→∀ x∈m,(tupleKind (jc P w)).is h x.1 x.2.1:=by
    intro l m q
    induction q with
    | nil=>intro x hx;exact nomatch hx
    | @cons p q ps qs hq t ih=>
      intro x hx
      rcases List.mem_cons.mp hx with e | hx
      · subst e
        exact akh ok (by rw [← hq.1];exact hq.2.1)
      · exact ih x hx
  exact all r x hx
theorem a28 {kvs:List (List Key×V)} (ok:HOk P w H h) (e:H a=some (.dT kvs)):kvs.length≤sizeLine∧(a==sysModules)=false∧
    ∃ xs,KT H kvs xs∧h.DictOfH (tupleKind (jc P w)) a xs:=am3 ok (.inl e)
end
def at3 (H:Hp) (a:Addr) (y:V) (r:Option V):Prop:=
  (∃ kvs k,Rd H a (.dK kvs)∧y=kV k∧r=ace kvs k)∨∃ kvs k b,Rd H a (.dT kvs)∧y=.ref b∧H b=some (.tup (k.map kV))∧r=ace kvs k
def a29 (H:Hp) (a:Addr) (y v:V) (H':Hp):Prop:=
  (∃ kvs k,H a=some (.dK kvs)∧y=kV k∧kvs.length<sizeLine∧H'=upd H a (.dK (aer kvs k v)))∨
  ∃ kvs k b,H a=some (.dT kvs)∧y=.ref b∧H b=some (.tup (k.map kV))∧kvs.length<sizeLine∧H'=upd H a (.dT (aer kvs k v))
section
variable {X:Cx} {pins:List (Addr×Obj)} {σ:St} {H:Hp} {s:Shared} {a:Addr} {y v:V} {u r:Value} {o:Option V} {A:Around} {E:Value→Shared→Prop}
theorem Inv.big (I:Inv X pins σ H s):sysModules<s.heap.objs.size:=by
  have h:mainGlobals<s.heap.objs.size:=(I.mod.glob.keeps I.bk).lt
  exact Nat.lt_trans (by decide) h
theorem apk {Q:Value→Shared→Prop} (hu:A.units+1<cLine) (I:Inv X pins σ H s) (g:at3 H a y (some v)) (ry:RelV y u) (h:∀ w' s',Inv X pins σ H s'→RelV v w'→Q w' s'):
    wpAny (model X.prog X.w) A (getItem (.ref a) u) Q E s:=by
  rcases g with ⟨kvs,k,e,ey,l⟩ | ⟨kvs,k,b,e,ey,eb,l⟩
  · subst ey
    obtain ⟨z,hd,vs,rel,dd⟩:=aiy I.hok e
    obtain ⟨w',hw,rw'⟩:=RelO.some_of (v:=v) (o:=valueAt vs k) (by rw [l];exact rel.val k)
    exact wpAny_getItem_of (aij ry) dd.mapOf hw (h w' _ (I.tok _) rw')
  · subst ey
    cases (show u=Value.ref b from ry)
    obtain ⟨z,hd,xs,rel,dd⟩:=am3 I.hok e
    obtain ⟨w',hw,rw'⟩:=RelO.some_of (v:=v) (o:=(atKey xs k).map (·.2)) (by rw [l];exact rel.val k)
    obtain ⟨p,hp,hp2⟩:=Option.map_eq_some_iff.mp hw
    refine wpAny_getItem_heap (tupleKind_room_in1 hu) (akh I.hok eb) dd hp ?_
    rw [hp2]
    exact h w' _ (I.tok _) rw'
theorem ap5 {h':Heap} {t':Nat} {ob:HO} (I:Inv X pins σ H s) (mu:Mut (H a)) (hs:Heap.SameBut a s.heap h') (he:∃ q,h'.get? a=some q) (new:ObjOk X.prog X.w (upd H a ob) h' a ob) (ht:0<t':=by (first | assumption | exact Nat.succ_pos _ | exact Inv.tk (by assumption) | exact Nat.lt_of_lt_of_le (Inv.tk (by assumption)) (Nat.le_add_right _ _) | exact Nat.lt_of_lt_of_le (Inv.tk (by assumption)) (by assumption))):
    Inv X pins σ (upd H a ob) { s with heap:=h',toks:=t' }:=
  I.write (x:=a) (e:=a) mu (.inl rfl) (fun b q hb z=>(hs.2 b hb).trans z) he new
theorem azw {P:Program} {w:World} {H':Hp} {h':Heap} {kvs:List (Key×V)} {vs:List (Key×Value)} (z:kvs.length≤sizeLine) (hd:(a==sysModules)=false) (rel:KV kvs vs) (dd:h'.DictOf (jc P w) a vs):
    ObjOk P w H' h' a (.dK kvs):=⟨z,hd,vs,rel,dd⟩
theorem aqw {H':Hp} {Q:Unit→Shared→Prop} (hu:A.units+1<cLine) (I:Inv X pins σ H s) (g:a29 H a y v H') (ry:RelV y u) (rv:RelV v r) (h:∀ s',Inv X pins σ H' s'→Q () s'):
    wpAny (model X.prog X.w) A (setItem (.ref a) u r) Q E s:=by
  rcases g with ⟨kvs,k,e,ey,l,eH⟩ | ⟨kvs,k,b,e,ey,eb,l,eH⟩
  · subst ey eH
    obtain ⟨z,hd,vs,rel,dd⟩:=a1i I.hok e
    have hz:vs.length≤sizeLine:=by rw [← rel.length];exact z
    have hl:(aer kvs k v).length≤sizeLine:=by have:=af6 kvs k v;omega
    refine wpAny_setItem_pairs (hsz:=hz) (aij ry) dd fun h' dd' hs=>h _ ?_
    have he:∃ q,h'.get? a=some q:=let ⟨q,_,_,hq,_⟩:=dd';⟨q,hq⟩
    exact ap5 I (by rw [e];exact True.intro) hs he (azw hl hd (rel.put k rv) dd')
  · subst ey eH
    cases (show u=Value.ref b from ry)
    obtain ⟨z,hd,xs,rel,dd⟩:=a28 I.hok e
    have hz:xs.length≤sizeLine:=by rw [← Paired.length rel];exact z
    have hl:(aer kvs k v).length≤sizeLine:=by have:=af6 kvs k v;omega
    refine wpAny_setItem_heap (hsz:=hz) (tupleKind_room_in1 hu) (akh I.hok eb) dd fun h' dd' hs=>h _ ?_
    obtain ⟨q,es,ep,hq,h2,h3,h4,_,h5⟩:=dd'
    refine ap5 I (by rw [e];exact True.intro) hs ⟨q,hq⟩ ⟨hl,hd,_,(rel.put k eb rv).keeps fun c ys ec=>?_,q,es,ep,hq,h2,h3,h4,h5⟩
    rw [qm (a1l ec e (fun z=>nomatch z))]
    exact ec
end
section
variable {X:Cx} {pins:List (Addr×Obj)} {σ:St} {H:Hp} {s:Shared} {a:Addr} {kvs:List (Key×V)} {k:Key} {u:Value} {A:Around} {E:Value→Shared→Prop}
end
def a14 (i:Expr):Prop:=∀ ov iv,subscripted i false ov iv=operate [ov,iv] (getItem ov iv)
theorem av7 {prog:Program} {w:World} {A:Around} {E:Value→Shared→Prop} {s:Shared} {env:Env} {value slice:Expr} {pos:Pos} {T id:String} {Q:Value→Shared→Prop}
    (hl:typeLookup (.type T) "__getitem__" = pure (some (.builtin id))) (hs:a14 slice)
    (h:wpAny (model prog w) A (eval value env) (fun o s₁=>wpAny (model prog w) A (eval slice env) (fun i s₂=>s₂.TypeIs o T∧wpAny (model prog w) A (getItem o i) Q E s₂) E s₁) E s):
    wpAny (model prog w) A (eval (.Subscript value slice pos) env) Q E s:=by
  refine Subscript_ (wpAny_mono h (fun o s₁ h₁=>wpAny_mono h₁ (fun i s₂ h₂=>?_) fun _ _ x=>x) fun _ _ x=>x)
  obtain ⟨hT,h₂⟩:=h₂
  unfold subscriptTail
  refine wpAny_bind ?_
  rw [getitemInPython_of_ne hT.not_modules]
  refine wpAny_bind (wpAny_specialOf hT hl ?_)
  have fin:wpAny (model prog w) A (subscripted slice false o i) (fun r s₃=>wpAny (model prog w) A (letTemporaryGo value o r >>= fun _=>pure r) Q E s₃) E s₂:=by
    rw [hs o i]
    exact wpAny_operating (wpAny_mono h₂ (fun r s₃ h₃=>wpAny_bind (wpAny_letTemporaryGo (wpAny_pure h₃))) fun _ _ x=>x)
  first
    | exact wpAny_pure (wpAny_bind fin)
    | exact wpAny_bind (wpAny_pure (wpAny_bind fin))
    | exact wpAny_bind fin
theorem al5 {X:Cx} {pins:List (Addr×Obj)} {σ:St} {H:Hp} {s:Shared} {a:Addr} {y:V} {o:Option V} (I:Inv X pins σ H s) (g:at3 H a y o):s.TypeIs (.ref a) "dict" := by
  rcases g with ⟨kvs,k,e,_,_⟩ | ⟨kvs,k,b,e,_,_,_⟩
  · obtain ⟨_,_,vs,_,dd⟩:=aiy I.hok e
    exact dd.typeIs
  · obtain ⟨_,_,xs,_,dd⟩:=am3 I.hok e
    exact dd.typeIs
def a24 (td ty:TE):TE:=fun σ H Q=>td σ H fun x H1=>ty σ H1 fun y H2=>∃ a v,x=.ref a∧at3 H2 a y (some v)∧Q v H2
def a2x (td ty tv:TE):TS:=fun D σ H=>tv σ H fun v H1=>td σ H1 fun x H2=>ty σ H2 fun y H3=>∃ a H4,x=.ref a∧a29 H3 a y v H4∧D.nx σ H4
section
variable {X:Cx} {o i e value:Expr} {pos pos' tpos:Pos} {td ty tv:TE}
theorem awt (hu:X.A.units+1<cLine) (ho:PE X o td) (hi:PE X i ty) (hs:a14 i):PE X (.Subscript o i pos) (a24 td ty):=by
  intro pins s σ H Q I h
  refine av7 PySem.F.slot_dict_getitem.lookup hs (thn (ho pins s σ H _ I h) fun u s1 ⟨x,H1,I1,rx,q1⟩=>thn (hi pins s1 σ H1 _ I1 q1) fun iv s2 ⟨y,H2,I2,ry,a,v,ex,g,q2⟩=>?_)
  subst ex
  obtain rfl:u=Value.ref a:=rx
  exact ⟨al5 I2 g,apk hu I2 g ry fun w' s3 I3 rw'=>⟨v,H2,I3,rw',q2⟩⟩
theorem auw (hu:X.A.units+1<cLine) (ho:PE X o td) (hi:PE X i ty) (hv:PE X value tv) (hs:swapsWith value (some (.Subscript o i pos')) pos.line X.env=pure false):
    PS X (.Assign [.Subscript o i pos'] value pos) (a2x td ty tv):=by
  intro pins s σ H D I h
  refine wpAny_Assign_Subscript (thn (hv pins s σ H _ I h) fun r s1 ⟨v,H1,I1,rv,q1⟩=>thn (ho pins s1 σ H1 _ I1 q1) fun u s2 ⟨x,H2,I2,rx,q2⟩=>thn (hi pins s2 σ H2 _ I2 q2) fun iv s3 ⟨y,H3,I3,ry,a,H4,ex,g,q3⟩=>?_) hs
  subst ex
  obtain rfl:u=Value.ref a:=rx
  exact aqw hu I3 g ry rv fun s4 I4=>⟨σ,H4,I4,q3⟩
end
theorem as9 {P:Program} {w:World} {H:Hp} (h:Heap) (hb:sysModules<h.objs.size):ObjOk P w H (h.push { cls:=.type "dict",data:=.dict #[] }) h.objs.size (.dK []):=
  ⟨Nat.zero_le _,beq_eq_false_iff_ne.mpr (Ne.symm (Nat.ne_of_lt hb)),[],.nil,Heap.DictOf.new h⟩
def az5:TE:=fun _ H Q=>∀ p,H p=none→Q (.ref p) (upd H p (.dK []))
section
variable {X:Cx} {pos:Pos}
theorem atg:PE X (.Dict [] [] pos) az5:=fun pins s σ H Q I h=>
  wpAny_Dict_empty ⟨.ref s.heap.objs.size,_,I.laid (a:=s.heap.objs.size) (o:=.dK []) (t':=s.toks) (fun _ _ q=>Heap.get?_push_of_some _ q) (Nat.le_refl _) (as9 s.heap I.big),rfl,h _ (I.hok.fresh (Nat.le_refl _))⟩
end
structure M2 (X:Cx) (o:Expr) (m:Str) (apos:Pos) (e f:Expr) (cpos:Pos):Prop where
  base:attributeBase o m X.env (eval o X.env)=eval o X.env
  few:((backTo cpos (starEach [e,f] X.env)).all (fun x=>!x.1)&&(backToKw cpos (keywordEach [] X.env)).all (fun x=>x.1.isSome)
    && decide (([e,f]:List Expr).length+([]:List Keyword).length+(if ([]:List Keyword).isEmpty then 0 else 1)<30))=true
  line:(apos.endLine==cpos.line)=true
  trees:backTo cpos (starEach [e,f] X.env)=[(false,eval e X.env),(false,eval f X.env)]
def IsD (H:Hp) (a:Addr):Prop:=(∃ kvs,Rd H a (.dK kvs))∨∃ kvs,Rd H a (.dT kvs)
theorem a0d {X:Cx} {pins:List (Addr×Obj)} {σ:St} {H:Hp} {s:Shared} {a:Addr} (I:Inv X pins σ H s) (d:IsD H a):
    s.TypeIs (.ref a) "dict" ∧ (∀ b,Value.ref a=.ref b→∃ ob,s.heap.get? b=some ob∧ob.dict=none)∧(a==sysModules)=false:=by
  rcases d with ⟨kvs,e⟩ | ⟨kvs,e⟩
  · obtain ⟨_,hd,vs,_,dd⟩:=aiy I.hok e
    refine ⟨dd.typeIs,fun b q=>?_,hd⟩
    cases q
    obtain ⟨ob,_,_,h1,h2,_⟩:=dd
    exact ⟨ob,h1,h2.2.1⟩
  · obtain ⟨_,hd,xs,_,dd⟩:=am3 I.hok e
    refine ⟨dd.typeIs,fun b q=>?_,hd⟩
    cases q
    obtain ⟨ob,_,_,h1,h2,_⟩:=dd
    exact ⟨ob,h1,h2.2.1⟩
section
variable {X:Cx} {pins:List (Addr×Obj)} {σ:St} {H:Hp} {s:Shared} {a:Addr} {y d:V} {u r:Value} {o:Option V} {A:Around} {E:Value→Shared→Prop}
theorem a0w {Q:Value→Shared→Prop} (hu:A.units+1<cLine) (I:Inv X pins σ H s) (g:at3 H a y o) (ry:RelV y u) (rd:RelV d r) (h:∀ w' s',Inv X pins σ H s'→RelV (o.getD d) w'→Q w' s'):
    wpAny (model X.prog X.w) A (call (.builtin "dict.get") [.ref a,u,r]) Q E s:=by
  rcases g with ⟨kvs,k,e,ey,l⟩ | ⟨kvs,k,b,e,ey,eb,l⟩
  · subst ey
    obtain ⟨z,hd,vs,rel,dd⟩:=aiy I.hok e
    refine call_meetsIn PySem.F.slot_dict_get dd.typeIs PySem.F.entry_dict_get (PySem.F.args_dict_get_3 _ _ _) (meets_dict_get_default (jc X.prog X.w) a (aij ry) hd r) ⟨_,dd.mapOf,h _ _ (I.tok _) ?_⟩
    rw [l]
    exact (rel.val k).getD rd
  · subst ey
    cases (show u=Value.ref b from ry)
    obtain ⟨z,hd,xs,rel,dd⟩:=am3 I.hok e
    refine call_meetsIn PySem.F.slot_dict_get dd.typeIs PySem.F.entry_dict_get (PySem.F.args_dict_get_3 _ _ _) (meetsH_dict_get_default (tupleKind (jc X.prog X.w)) a b hd r) ⟨tupleKind_room_in1 hu,k,xs,akh I.hok eb,dd,h _ _ (I.tok _) ?_⟩
    rw [l]
    exact (rel.val k).getD rd
end
def a15 (td ty tx:TE):TE:=fun σ H Q=>td σ H fun x H1=>∃ a,x=.ref a∧IsD H1 a∧ty σ H1 fun y H2=>tx σ H2 fun z H3=>∃ o,at3 H3 a y o∧Q (o.getD z) H3
section
variable {X:Cx} {o e f:Expr} {apos cpos:Pos} {td ty tx:TE}
theorem ast (hu:X.A.units+1<cLine) (ho:PE X o td) (he:PE X e ty) (hf:PE X f tx) (m:M2 X o "get" apos e f cpos):PE X (.Call (.Attribute o "get" apos) [e,f] [] cpos) (a15 td ty tx):=by
  intro pins s σ H Q I h
  refine wpAny_Call_method m.base m.few m.line PySem.F.plainAttrs_dict PySem.F.slot_dict_get PySem.F.type_dict_get (thn (ho pins s σ H _ I h) fun u s1 ⟨x,H1,I1,rx,a,ex,d,q1⟩=>?_)
  subst ex
  obtain rfl:u=Value.ref a:=rx
  obtain ⟨t1,t2,_⟩:=a0d I1 d
  refine ⟨t1,t2,?_⟩
  rw [m.trees]
  refine Calls.callWith_builtin rfl (Calls.evalArgs_plain (Calls.spliced_cons (thn (he pins s1 σ H1 _ I1 q1) fun iv s2 ⟨y,H2,I2,ry,q2⟩=>
    Calls.spliced_cons (thn (hf pins s2 σ H2 _ I2 q2) fun fv s3 ⟨z,H3,I3,rz,ov,g,q3⟩=>Calls.spliced_nil ?_))))
  exact a0w hu I3 g ry rz fun w' s4 I4 rw'=>⟨_,H3,I4,rw',q3⟩
end
section
variable {X:Cx} {pins:List (Addr×Obj)} {σ:St} {H:Hp} {s:Shared} {a:Addr} {kvs:List (Key×V)} {A:Around} {E:Value→Shared→Prop}
end
section
variable {X:Cx} {pins:List (Addr×Obj)} {σ:St} {H:Hp} {s:Shared} {a:Addr} {y:V} {u:Value} {A:Around} {E:Value→Shared→Prop}
end
end L2
namespace HT
open PySem PyProof.Rows
section
open PySem.SeqAt
open PySem.AutoSeq1 (wpAny_loadPart')
open PySem.MeetsSeq PySem.MeetsSeq2 PySem.MeetsSeq3
end
section
variable {prog:Program} {w:World} {A:Around} {E:Value→Shared→Prop} {s:Shared}
def sIx (n d:Nat):Option Int→Nat
  | none=>d
  | some v=>if v<0 then (v+(n:Int)).toNat else min v.toNat n
theorem sIx_none (n d:Nat):sIx n d none=d:=rfl
theorem sIx_nat (n d k:Nat):sIx n d (some (k:Int))=min k n:=by
  show (if (k:Int)<0 then ((k:Int)+(n:Int)).toNat else min (k:Int).toNat n)=min k n
  rw [if_neg (by omega),Int.toNat_natCast]
end
end HT
namespace L2
open PySem PySem.Spec PyProof.Rows
abbrev TO:=St→Hp→(Option Int→Hp→Prop)→Prop
def PO (X:Cx) (e:Option Expr) (t:TO):Prop:=
  ∀ (pins:List (Addr×Obj)) (s:Shared) (σ:St) (H:Hp) (Q:Option Int→Hp→Prop),Inv X pins σ H s→t σ H Q→
    wpAny (model X.prog X.w) X.A (evalPart e X.env) (fun u s'=>∃ o H',Inv X pins σ H' s'∧IsPart u o∧Q o H') X.xe s
def avk:TO:=fun _ H Q=>Q none H
def a36 (t:TE):TO:=fun σ H Q=>t σ H fun x H1=>∃ i,x=.int i∧Q (some i) H1
section
variable {X:Cx} {e:Expr} {te:TE} {lo hi:Option Expr} {tl th:TO} {pos p2:Pos}
theorem avg:PO X none avk:=by
  intro pins s σ H Q I h
  rw [evalPart_none]
  exact wpAny_pure ⟨none,H,I,.none,h⟩
theorem avb (h:PE X e te):PO X (some e) (a36 te):=by
  intro pins s σ H Q I hw
  rw [evalPart_some]
  refine thn (h pins s σ H _ I hw) fun u s1 ⟨x,H1,I1,r1,q1⟩=>?_
  obtain ⟨i,rfl,q⟩:=q1
  obtain ⟨t,rfl⟩:=r1
  exact ⟨some i,H1,I1,.int i t,q⟩
def SlR (X:Cx) (r:V→Option Int→Option Int→Hp→VK→Prop):Prop:=
  ∀ (pins:List (Addr×Obj)) (s:Shared) (σ:St) (H:Hp) (x:V) (v vl vu:Value) (lo hi:Option Int) (sl:Addr) (Q:VK),Inv X pins σ H s→RelV x v→s.heap.IsSliceOf sl vl vu .none→IsPart vl lo→IsPart vu hi→r x lo hi H Q→
    ∃ T id,typeLookup (.type T) "__getitem__" = pure (some (.builtin id))∧s.TypeIs v T∧wpAny (model X.prog X.w) X.A (getItem v (.ref sl)) (EP X pins σ Q) X.xe s
theorem SlR.or {r r':V→Option Int→Option Int→Hp→VK→Prop} (h:SlR X r) (h':SlR X r'):SlR X (fun x lo hi H Q=>r x lo hi H Q∨r' x lo hi H Q):=by
  intro pins s σ H x v vl vu lo hi sl Q I rx hs pl pu q
  rcases q with q | q
  · exact h pins s σ H x v vl vu lo hi sl Q I rx hs pl pu q
  · exact h' pins s σ H x v vl vu lo hi sl Q I rx hs pl pu q
def tSl (r:V→Option Int→Option Int→Hp→VK→Prop) (te:TE) (tl th:TO):TE:=fun σ H Q=>te σ H fun x H1=>tl σ H1 fun l H2=>th σ H2 fun u H3=>r x l u H3 Q
theorem asy {r:V→Option Int→Option Int→Hp→VK→Prop} (hr:SlR X r) (he:PE X e te) (hl:PO X lo tl) (hu:PO X hi th):PE X (.Subscript e (.Slice lo hi none p2) pos) (tSl r te tl th):=by
  intro pins s σ H Q I h
  refine Subscript_ (thn (he pins s σ H _ I h) fun v s1 ⟨x,H1,I1,r1,q1⟩=>?_)
  refine wpAny_Slice (thn (hl pins s1 σ H1 _ I1 q1) fun vl s2 ⟨l,H2,I2,pl,q2⟩=>thn (hu pins s2 σ H2 _ I2 q2) fun vu s3 ⟨u,H3,I3,pu,q3⟩=>?_)
  rw [evalPart_none]
  refine wpAny_pure ?_
  have I4:Inv X pins σ H3 { s3 with heap:=s3.heap.push { cls:=.type "slice",data:=.fields #[vl,vu,.none] } }:=I3.kept (t':=s3.toks) fun b ob q=>Heap.get?_push_of_some _ q
  obtain ⟨T,id,hT,ht,hg⟩:=hr pins { s3 with heap:=s3.heap.push { cls:=.type "slice",data:=.fields #[vl,vu,.none] } } σ H3 x v vl vu l u s3.heap.objs.size Q I4 r1 (Heap.IsSliceOf.new ..) pl pu q3
  show wpAny (model X.prog X.w) X.A (subscriptTail e (.Slice lo hi none p2) v (.ref s3.heap.objs.size)) (EP X pins σ Q) X.xe { s3 with heap:=s3.heap.push { cls:=.type "slice",data:=.fields #[vl,vu,.none] } }
  exact tail_any (ops:=[.ref s3.heap.objs.size,v]) ht hT hg (by with_unfolding_all rfl)
def aqk (xs:List V) (lo hi:Option Int):List V:=(xs.drop (HT.sIx xs.length 0 lo)).take (HT.sIx xs.length xs.length hi - HT.sIx xs.length 0 lo)
theorem am8 (xs:List V) (lo hi:Option Int):(aqk xs lo hi).length≤xs.length:=by
  unfold aqk
  rw [List.length_take,List.length_drop]
  omega
end
end L2
namespace L2
open PySem PySem.Spec PyProof.Rows
def ixN (n:Nat) (i:Int):Option Nat:=if 0≤i then (if i<n then some i.toNat else none) else if -(n:Int)≤i then some (i+n).toNat else none
def atI {α:Type} (xs:List α) (i:Int):Option α:=(ixN xs.length i).bind fun j=>xs[j]?
theorem aou {n:Nat} {i:Int} {j:Nat} (h:ixN n i=some j):seqIndex? i n=some j∧j<n ∧ -(n:Int)≤i∧i<n:=by
  unfold ixN at h
  by_cases h0:0≤i
  · rw [if_pos h0] at h
    by_cases h1:i<n
    · rw [if_pos h1] at h
      have e:i.toNat=j:=Option.some.inj h
      exact ⟨by rw [seqIndex_of h0 h1,e],by omega,by omega,h1⟩
    · rw [if_neg h1] at h;cases h
  · rw [if_neg h0] at h
    by_cases h1 : -(n:Int)≤i
    · rw [if_pos h1] at h
      have e:(i+n).toNat=j:=Option.some.inj h
      exact ⟨by rw [seqIndex_neg (by omega) h1,e],by omega,h1,by omega⟩
    · rw [if_neg h1] at h;cases h
theorem ak0 {α:Type} {xs:List α} {i:Int} {v:α} (h:atI xs i=some v):∃ j,seqIndex? i xs.length=some j∧xs[j]?=some v∧j<xs.length ∧ -(xs.length:Int)≤i∧i<xs.length:=by
  unfold atI at h
  cases e:ixN xs.length i with
  | none=>rw [e] at h;cases h
  | some j=>
    rw [e] at h
    obtain ⟨h1,h2,h3,h4⟩:=aou e
    exact ⟨j,h1,h,h2,h3,h4⟩
theorem xu {α:Type} {xs:List α} {j:Nat} {v:α} (h:xs[j]?=some v):atI xs (j:Int)=some v:=by
  have hj:j<xs.length:=(List.getElem?_eq_some_iff.mp h).1
  have e:ixN xs.length (j:Int)=some j:=by
    unfold ixN
    rw [if_pos (by omega),if_pos (by omega)];simp
  unfold atI;rw [e];exact h
def agh (b:Expr):Prop:=∀ o i,subscripted b false o i=operate [o,i] (getItem o i)
def IxR (X:Cx) (r:R2):Prop:=
  ∀ (value slice:Expr) (pins:List (Addr×Obj)) (s:Shared) (σ:St) (H:Hp) (x y:V) (v u:Value) (Q:VK),Inv X pins σ H s→RelV x v→RelV y u→r x y H Q→
    subscripted slice false v u=operate [v,u] (getItem v u)→wpAny (model X.prog X.w) X.A (subscriptTail value slice v u) (EP X pins σ Q) X.xe s
def MtR (X:Cx) (id:String) (r:V→List V→Hp→VK→Prop):Prop:=
  ∀ (pins:List (Addr×Obj)) (s:Shared) (σ:St) (H:Hp) (x:V) (xs:List V) (v:Value) (us:List Value) (Q:VK),Inv X pins σ H s→RelV x v→Vals xs us→r x xs H Q→
    wpAny (model X.prog X.w) X.A (call (.builtin id) (v::us)) (EP X pins σ Q) X.xe s
section
variable {X:Cx} {a b:Expr} {ta tb:TE} {pos:Pos}
theorem axv {r:R2} (hr:IxR X r) (ha:PE X a ta) (hb:PE X b tb) (hs:agh b):PE X (.Subscript a b pos) (tOp r ta tb):=by
  intro pins s σ H Q I h
  exact Subscript_ (ayo ha hb I h fun v u s2 x y H2 I2 rx ry q=>hr a b pins s2 σ H2 x y v u Q I2 rx ry q (hs _ _))
def a3g (K:PySem.W.Frag):R2:=fun x y H Q=>∃ p xs i v,x=.ref p∧y=.int i∧SqL K H p xs∧atI xs i=some v∧Q v H
def a4k (K:PySem.W.Frag):R2:=fun x y H Q=>∃ p xs i v,x=.ref p∧y=.int i∧SqT K H p xs∧atI xs i=some v∧Q v H
def a3x:R2:=fun x y H Q=>∃ z i c,x=.str z∧y=.int i∧z.length≤sizeLine∧atI z.cps.toList i=some c∧Q (.str ⟨#[c]⟩) H
theorem avv:IxR X (a3g X.K):=by
  intro value slice pins s σ H x y v u Q I rx ry h hs
  obtain ⟨p,xs,i,z,rfl,rfl,hq,he,q⟩:=h
  cases rx
  obtain ⟨t,rfl⟩:=ry
  obtain ⟨its,r,pl,hz⟩:=I.list hq
  obtain ⟨j,h1,h2,h3,h4,h5⟩:=ak0 he
  obtain ⟨w,ew,rw'⟩:=r.get h2
  have hl:=r.length
  have hn:=aew
  have fin:EP X pins σ Q w s:=⟨z,H,I,rw',q⟩
  by_cases h0:0≤i
  · have hj:i.toNat=j:=by
      rw [seqIndex_of h0 h5] at h1
      exact Option.some.inj h1
    exact item_listR pl.isList h0 (by omega) (by rw [hj];simpa using ew) fin hs
  · have hj:(i+(its.toArray.size:Int)).toNat=j:=by
      rw [seqIndex_neg (by omega) h4] at h1
      rw [List.size_toArray,← hl]
      exact Option.some.inj h1
    exact subscriptTail_builtinR (x:=w) pl.isList.typeIs slot_list_getitem.lookup
      (wpAny_getItem_list_neg (Q:=fun r s'=>r=w∧EP X pins σ Q r s') pl.isList (by omega) (by rw [List.size_toArray]<;>omega) (by omega) (by rw [hj];simpa using ew) ⟨rfl,fin⟩) hs
theorem a0c:IxR X (a4k X.K):=by
  intro value slice pins s σ H x y v u Q I rx ry h hs
  obtain ⟨p,xs,i,z,rfl,rfl,hq,he,q⟩:=h
  cases rx
  obtain ⟨t,rfl⟩:=ry
  obtain ⟨its,r,pl,hz⟩:=I.tuple hq
  obtain ⟨j,h1,h2,h3,h4,h5⟩:=ak0 he
  obtain ⟨w,ew,rw'⟩:=r.get h2
  have hl:=r.length
  have hn:=aew
  have fin:EP X pins σ Q w s:=⟨z,H,I,rw',q⟩
  exact subscriptTail_builtinR (x:=w) pl.typeIs slot_tuple_getitem.lookup
    (getItem_tuple (j:=j) (Q:=fun r s'=>r=w∧EP X pins σ Q r s') pl (by omega) (by omega) (by rw [List.size_toArray,← hl];exact h1) (by simpa using ew) ⟨rfl,fin⟩) hs
theorem azj:IxR X a3x:=by
  intro value slice pins s σ H x y v u Q I rx ry h hs
  obtain ⟨z,i,c,rfl,rfl,hz,he,q⟩:=h
  obtain ⟨t,rfl⟩:=rx
  obtain ⟨t',rfl⟩:=ry
  obtain ⟨j,h1,h2,h3,h4,h5⟩:=ak0 he
  have hl:z.cps.toList.length=z.length:=by simp [Str.length]
  rw [hl] at h1 h4 h5
  have hn:=aew
  exact tail_any (typeIs_str s z t) slot_str_getitem.lookup (getItem_str (c:=c) (by
    have e1:decide (i < -(2 ^ 63:Int))=false:=decide_eq_false (by omega)
    have e2:decide (i≥2 ^ 63)=false:=decide_eq_false (by omega)
    rw [e1,e2,Bool.or_false]) (by rw [h1];simpa using h2) ⟨.str ⟨#[c]⟩,H,I.tok _,⟨_,rfl⟩,q⟩) hs
theorem anm (its:List Value) (n j:Nat) (u:Value):Obj.mapSeq (·.setIfInBounds j u) { cls:=.type "list",data:=.seq its.toArray n }={ cls:=.type "list",data:=.seq (its.set j u).toArray n }:=by
  simp [Obj.mapSeq]
theorem Inv.lst {pins:List (Addr×Obj)} {σ:St} {H:Hp} {s:Shared} {p:Addr} {xs:List V} (I:Inv X pins σ H s) (h:H p=some (.lst xs)):
    ∃ (its:List Value) (n:Nat),Vals xs its∧s.heap.get? p=some { cls:=.type "list",data:=.seq its.toArray n }∧xs.length≤sizeLine:=by
  obtain ⟨z,its,n,r,e⟩:=I.hok p _ h
  exact ⟨its,n,r,e,z⟩
theorem Inv.lstUpd {pins:List (Addr×Obj)} {σ:St} {H:Hp} {s:Shared} {p:Addr} {xs ys:List V} {its its':List Value} {n n':Nat} {f:Obj→Obj} (I:Inv X pins σ H s) (h:H p=some (.lst xs))
    (ho:s.heap.get? p=some { cls:=.type "list",data:=.seq its.toArray n }) (hf:f { cls:=.type "list",data:=.seq its.toArray n }={ cls:=.type "list",data:=.seq its'.toArray n' }) (r:Vals ys its') (hz:ys.length≤sizeLine) (t:Nat) (ht:0<t:=by (first | assumption | exact Nat.succ_pos _ | exact Inv.tk (by assumption) | exact Nat.lt_of_lt_of_le (Inv.tk (by assumption)) (Nat.le_add_right _ _) | exact Nat.lt_of_lt_of_le (Inv.tk (by assumption)) (by assumption))):
    Inv X pins σ (upd H p (.lst ys)) { s with heap:=s.heap.update p f,toks:=t }:=by
  have e:(s.heap.update p f).get? p=some { cls:=.type "list",data:=.seq its'.toArray n' }:=by
    rw [Heap.get?_update_self f ho (by rw [hf]<;>rfl),hf]
  refine I.write (x:=p) (e:=p) (by rw [h];trivial) (.inl rfl) (fun b u hb q=>(Heap.get?_update_other _ _ (Ne.symm hb)).trans q) ⟨_,e⟩ ?_
  exact ⟨hz,its',n',r,e⟩
def a25:V→V→V→Hp→(Hp→Prop)→Prop:=fun o i v H Q=>∃ p xs k j,o=.ref p∧i=.int k∧H p=some (.lst xs)∧ixN xs.length k=some j∧Q (upd H p (.lst (xs.set j v)))
theorem att:a2l X a25:=by
  intro pins s σ H o i v ov iv u Q I ro ri rv h
  obtain ⟨p,xs,k,j,rfl,rfl,hp,hj,q⟩:=h
  cases ro
  obtain ⟨t,rfl⟩:=ri
  obtain ⟨its,n,r,ho,hz⟩:=I.lst hp
  obtain ⟨h1,h2,h3,h4⟩:=aou hj
  have hl:=r.length
  have hn:=aew
  have I':Inv X pins σ (upd H p (.lst (xs.set j v))) { s with heap:=s.heap.update p (Obj.mapSeq (·.setIfInBounds j u)) }:=
    I.lstUpd hp ho (anm its n j u) (r.set rv j) (by rw [List.length_set];exact hz) s.toks
  by_cases h0:0≤k
  · have hk:k.toNat=j:=by
      rw [seqIndex_of h0 h4] at h1
      exact Option.some.inj h1
    exact PySem.W.ki_setAt ho h0 (by omega) (by rw [List.size_toArray,← hl];exact h4) (by rw [hk];exact ⟨_,I',q⟩)
  · have hk:(k+(its.toArray.size:Int)).toNat=j:=by
      rw [seqIndex_neg (by omega) h3] at h1
      rw [List.size_toArray,← hl]
      exact Option.some.inj h1
    exact PySem.W.ki_setBack ho (by omega) (by rw [List.size_toArray,← hl];exact h3) (by omega) (by rw [hk];exact ⟨_,I',q⟩)
theorem akr (lo hi:Option Int) (n:Nat):(sliceBounds lo hi none n).1=((HT.sIx n 0 lo:Nat):Int)∧(sliceBounds lo hi none n).2.1=((HT.sIx n n hi:Nat):Int)∧(sliceBounds lo hi none n).2.2=1:=by
  refine ⟨?_,?_,rfl⟩
  · cases lo with
    | none=>simp [sliceBounds,HT.sIx]
    | some i=>
      simp only [sliceBounds,HT.sIx,Option.getD_none,show (1:Int) > 0 by decide,if_true]
      by_cases h:i<0
      · simp only [h,if_true]<;>omega
      · simp only [h,if_false]<;>omega
  · cases hi with
    | none=>simp [sliceBounds,HT.sIx]
    | some i=>
      simp only [sliceBounds,HT.sIx,Option.getD_none,show (1:Int) > 0 by decide,if_true]
      by_cases h:i<0
      · simp only [h,if_true]<;>omega
      · simp only [h,if_false]<;>omega
theorem aie (its:List Value) (lo hi:Option Int):slicePick its.toArray lo hi none=((its.drop (HT.sIx its.length 0 lo)).take (HT.sIx its.length its.length hi - HT.sIx its.length 0 lo)).toArray:=by
  obtain ⟨h1,h2,h3⟩:=akr lo hi its.toArray.size
  unfold slicePick
  rw [h1,h2,h3]
  simp only [sliceRange_one,pick_run,List.size_toArray]<;>rfl
def a43 (K:PySem.W.Frag):V→Option Int→Option Int→Hp→VK→Prop:=fun x lo hi H Q=>∃ a xs,x=.ref a∧SqL K H a xs∧∀ p,H p=none→Q (.ref p) (upd H p (.lst (aqk xs lo hi)))
theorem av6:SlR X (a43 X.K):=by
  intro pins s σ H x v vl vu lo hi sl Q I rx hs pl pu h
  obtain ⟨a,xs,rfl,hx,q⟩:=h
  cases rx
  obtain ⟨its,r,ht,hz⟩:=I.list hx
  have hlen:=r.length
  refine ⟨"list",_,slot_list_getitem.lookup,ht.isList.typeIs,?_⟩
  refine wpAny_getItem_list_slice ht.isList hs pl pu .none (by simp) ?_ (by rw [List.size_toArray]<;>omega)
  rw [aie,← hlen]
  refine ⟨.ref s.heap.objs.size,_,I.laid (t':=s.toks) (o:=.lst (aqk xs lo hi)) (fun b ob q=>Heap.get?_push_of_some _ q) (Nat.le_refl _) ?_,rfl,q _ (I.hok.fresh (Nat.le_refl _))⟩
  exact ⟨Nat.le_trans (am8 xs lo hi) hz,_,0,(r.drop (HT.sIx xs.length 0 lo)).take (HT.sIx xs.length xs.length hi - HT.sIx xs.length 0 lo),Heap.get?_push_size _ rfl⟩
def kz:V→Bool
  | .non=>true
  | .bl _=>true
  | .int _=>true
  | .str _=>true
  | _=>false
def eqV:V→V→Bool
  | .non,.non=>true
  | .bl a,.bl b=>a==b
  | .bl a,.int b=>(if a then 1 else 0)==b
  | .int a,.bl b=>a==(if b then 1 else 0)
  | .int a,.int b=>a==b
  | .str a,.str b=>a==b
  | _,_=>false
theorem ago {A:Around} {s:Shared} {y x:V} {u v:Value} (ry:RelV y u) (rx:RelV x v) (fy:kz y=true) (fx:kz x=true):SeqAt.EqAt A s u v (eqV y x):=by
  cases y with
  | non=>
    cases ry
    cases x with
    | non=>cases rx;exact SeqAt.EqAt.same _
    | bl b=>cases rx;exact SeqAt.EqAt.none_bool b
    | int b=>obtain ⟨t,rfl⟩:=rx;exact SeqAt.EqAt.none_int b t
    | str b=>obtain ⟨t,rfl⟩:=rx;exact SeqAt.EqAt.none_str b t
    | _=>exact absurd (show false=true from fx) Bool.false_ne_true
  | bl a=>
    cases ry
    cases x with
    | non=>cases rx;exact SeqAt.EqAt.bool_none a
    | bl b=>cases rx;exact SeqAt.EqAt.bool_bool a b
    | int b=>obtain ⟨t,rfl⟩:=rx;exact SeqAt.EqAt.bool_int a b t
    | str b=>obtain ⟨t,rfl⟩:=rx;exact SeqAt.EqAt.bool_str a b t
    | _=>exact absurd (show false=true from fx) Bool.false_ne_true
  | int a=>
    obtain ⟨t',rfl⟩:=ry
    cases x with
    | non=>cases rx;exact SeqAt.EqAt.int_none a t'
    | bl b=>cases rx;exact SeqAt.EqAt.int_bool a t' b
    | int b=>obtain ⟨t,rfl⟩:=rx;exact SeqAt.EqAt.int_int a t' b t
    | str b=>obtain ⟨t,rfl⟩:=rx;exact SeqAt.EqAt.int_str a t' b t
    | _=>exact absurd (show false=true from fx) Bool.false_ne_true
  | str a=>
    obtain ⟨t',rfl⟩:=ry
    cases x with
    | non=>cases rx;exact SeqAt.EqAt.str_none a t'
    | bl b=>cases rx;exact SeqAt.EqAt.str_bool a t' b
    | int b=>obtain ⟨t,rfl⟩:=rx;exact SeqAt.EqAt.str_int a t' b t
    | str b=>obtain ⟨t,rfl⟩:=rx;exact SeqAt.EqAt.str_str a t' b t
    | _=>exact absurd (show false=true from fx) Bool.false_ne_true
  | _=>exact absurd (show false=true from fy) Bool.false_ne_true
def eqU (x:V) (u:Value):Bool:=match u with
  | .none=>eqV .non x
  | .bool b=>eqV (.bl b) x
  | .int i _=>eqV (.int i) x
  | .str z _=>eqV (.str z) x
  | _=>false
theorem at6 {x y:V} {u:Value} (r:RelV y u) (f:kz y=true):eqU x u=eqV y x:=by
  cases y with
  | non=>cases r;rfl
  | bl b=>cases r;rfl
  | int i=>obtain ⟨t,rfl⟩:=r;rfl
  | str z=>obtain ⟨t,rfl⟩:=r;rfl
  | _=>exact absurd (show false=true from f) Bool.false_ne_true
theorem adq {x:V}:∀ {xs:List V} {us:List Value},Vals xs us→xs.all kz=true→us.any (eqU x)=xs.any fun y=>eqV y x
  | _,_,.nil,_=>rfl
  | y::xs,u::us,.cons r t,f=>by
    rw [List.all_cons,Bool.and_eq_true] at f
    rw [List.any_cons,List.any_cons,at6 r f.1,adq t f.2]
theorem abh {A:Around} {s:Shared} {x:V} {v:Value} (rx:RelV x v) (fx:kz x=true):∀ {xs:List V} {us:List Value},Vals xs us→xs.all kz=true→∀ u∈us,SeqAt.EqAt A s u v (eqU x u)
  | _,_,.nil,_=>fun u hu=>by cases hu
  | y::xs,u::us,.cons r t,f=>fun u' hu=>by
    rw [List.all_cons,Bool.and_eq_true] at f
    rcases List.mem_cons.mp hu with rfl | hu
    · rw [at6 r f.1];exact ago r rx f.1 fx
    · exact abh rx fx t f.2 u' hu
def inV (x:V) (xs:List V):Bool:=xs.any fun y=>eqV y x
def rIn (K:PySem.W.Frag) (neg:Bool):R2:=fun x y H Q=>∃ p xs,y=.ref p∧(SqL K H p xs∨SqT K H p xs)∧kz x=true∧xs.all kz=true∧Q (.bl (if neg then !inV x xs else inV x xs)) H
theorem aps:OpR X (compareOp .In) (rIn X.K false):=by
  intro pins s σ H x y v u Q I rx ry h
  obtain ⟨p,xs,rfl,hq,fx,fs,q⟩:=h
  cases ry
  rcases hq with hq | hq
  · obtain ⟨its,r,pl,hz⟩:=I.list hq
    refine SeqAt.in_listAt (eqU x) pl.isList (fun w hw=>abh rx fx r fs w (by simpa using hw)) ⟨.bl _,H,I,rfl,?_⟩
    rw [show its.toArray.any (eqU x)=its.any (eqU x) by simp,adq r fs]
    exact q
  · obtain ⟨its,r,pl,hz⟩:=I.tuple hq
    refine SeqAt.in_tupleAt (eqU x) pl (fun w hw=>abh rx fx r fs w (by simpa using hw)) ⟨.bl _,H,I,rfl,?_⟩
    rw [show its.toArray.any (eqU x)=its.any (eqU x) by simp,adq r fs]
    exact q
theorem ajy:OpR X (compareOp .NotIn) (rIn X.K true):=by
  intro pins s σ H x y v u Q I rx ry h
  obtain ⟨p,xs,rfl,hq,fx,fs,q⟩:=h
  cases ry
  rcases hq with hq | hq
  · obtain ⟨its,r,pl,hz⟩:=I.list hq
    refine SeqAt.notIn_listAt (eqU x) pl.isList (fun w hw=>abh rx fx r fs w (by simpa using hw)) ⟨.bl _,H,I,rfl,?_⟩
    rw [show its.toArray.any (eqU x)=its.any (eqU x) by simp,adq r fs]
    exact q
  · obtain ⟨its,r,pl,hz⟩:=I.tuple hq
    refine SeqAt.notIn_tupleAt (eqU x) pl (fun w hw=>abh rx fx r fs w (by simpa using hw)) ⟨.bl _,H,I,rfl,?_⟩
    rw [show its.toArray.any (eqU x)=its.any (eqU x) by simp,adq r fs]
    exact q
theorem akd:CallR X (.builtin "len") (fun xs H Q=>∃ p ys,xs=[.ref p]∧(SqL X.K H p ys∨SqT X.K H p ys)∧Q (.int ys.length) H):=by
  intro pins s σ H xs us Q I r h
  obtain ⟨p,ys,rfl,hq,q⟩:=h
  obtain ⟨u,rfl,rx⟩:=ap1 r
  cases rx
  have hn:=aew
  rcases hq with hq | hq
  · obtain ⟨its,r',pl,hz⟩:=I.list hq
    have hlen:=r'.length
    exact Calls.call_len_list pl.isList (by simp only [List.size_toArray]<;>omega) ⟨.int ys.length,H,I.tok _,⟨s.toks+1,by rw [List.size_toArray,hlen]⟩,q⟩
  · obtain ⟨its,r',pl,hz⟩:=I.tuple hq
    have hlen:=r'.length
    exact len_tuple pl (by simp only [List.size_toArray]<;>omega) ⟨.int ys.length,H,I.tok _,⟨s.toks+1,by rw [List.size_toArray,hlen]⟩,q⟩
theorem ajx:CallR X (.builtin "len") (fun xs H Q=>∃ z,xs=[.str z]∧z.length≤sizeLine∧Q (.int z.length) H):=by
  intro pins s σ H xs us Q I r h
  obtain ⟨z,rfl,hz,q⟩:=h
  obtain ⟨u,rfl,t,rfl⟩:=ap1 r
  have hn:=aew
  exact len_str (by omega) ⟨.int z.length,H,I.tok _,⟨_,rfl⟩,q⟩
def tyV (K:PySem.W.Frag) (T:String) (x:V) (H:Hp):Prop:=match x with
  | .str _=>T = "str"
  | .int _=>T = "int"
  | .ref p=>(T = "list" ∧ ∃ xs,SqL K H p xs)∨(T = "tuple" ∧ ∃ o,K.lookup p=some o∧o.cls=.type "tuple" ∧ o.dict=none)∨
      (T = "dict" ∧ ((∃ kvs,H p=some (.dK kvs))∨∃ kvs,H p=some (.dT kvs)))∨(T = "set" ∧ ∃ S n,H p=some (.set S n))
  | _=>False
theorem az9 {pins:List (Addr×Obj)} {σ:St} {H:Hp} {s:Shared} {T:String} {x:V} {v:Value} (I:Inv X pins σ H s) (r:RelV x v) (ty:tyV X.K T x H):
    s.TypeIs v T∧∀ a,v=.ref a→∃ ob,s.heap.get? a=some ob∧ob.dict=none:=by
  cases x with
  | str z=>
    obtain ⟨t,rfl⟩:=r
    cases (show T = "str" from ty)
    exact ⟨typeIs_str s z t,fun _ e=>nomatch e⟩
  | int i=>
    obtain ⟨t,rfl⟩:=r
    cases (show T = "int" from ty)
    exact ⟨typeIs_int s i t,fun _ e=>nomatch e⟩
  | ref p=>
    cases r
    rcases ty with ⟨rfl,xs,hq⟩ | ⟨rfl,o,hk,hc,hd⟩ | ⟨rfl,hk⟩ | ⟨rfl,S,n,hk⟩
    · obtain ⟨its,_,pl,_⟩:=I.list hq
      refine ⟨pl.isList.typeIs,fun a e=>?_⟩
      cases e
      obtain ⟨o,n,e,c,hd,_⟩:=pl
      exact ⟨o,e,hd⟩
    · refine ⟨⟨o,I.kIn p o hk,hc⟩,fun a e=>?_⟩
      cases e
      exact ⟨o,I.kIn _ o hk,hd⟩
    · have z:∃ o,s.heap.get? p=some o∧o.ExactDict:=by
        rcases hk with ⟨kvs,hk⟩ | ⟨kvs,hk⟩
        · obtain ⟨_,_,_,_,o,_,_,e,ex,_⟩:=I.hok p _ hk
          exact ⟨o,e,ex⟩
        · obtain ⟨_,_,_,_,o,_,_,e,ex,_⟩:=I.hok p _ hk
          exact ⟨o,e,ex⟩
      obtain ⟨o,e,ex⟩:=z
      refine ⟨⟨o,e,ex.1⟩,fun a e2=>?_⟩
      cases e2
      exact ⟨o,e,ex.2.1⟩
    · obtain ⟨o,_,_,_,e,ex,_⟩:=I.hok p _ hk
      refine ⟨⟨o,e,ex.1⟩,fun a e2=>?_⟩
      cases e2
      exact ⟨o,e,ex.2.1⟩
  | _=>exact False.elim ty
def tBM (K:PySem.W.Frag) (T:String) (r:V→List V→Hp→VK→Prop) (to:TE) (t:TA):TE:=fun σ H Q=>to σ H fun x H1=>tyV K T x H1∧t σ H1 fun xs H2=>r x xs H2 Q
variable {o e:Expr} {es:List Expr} {to:TE} {t:TA} {name:Str} {apos cpos:Pos} {T id:String} {r:V→List V→Hp→VK→Prop}
theorem a39 (pa:PlainAttrs T) (slot:Slot T name id) (hty:typeOf (.builtin id)=pure (.type "method_descriptor")) (hm:MtR X id r) (ho:PE X o to) (ha:PA X (e::es) t)
    (hbase:attributeBase o name X.env (eval o X.env)=eval o X.env:=by rfl)
    (hfew:((backTo cpos (starEach (e::es) X.env)).all (fun x=>!x.1)&&(backToKw cpos (keywordEach [] X.env)).all (fun x=>x.1.isSome)
      && decide ((e::es).length+([]:List Keyword).length+(if ([]:List Keyword).isEmpty then 0 else 1)<30))=true:=by rfl)
    (hline:(apos.endLine==cpos.line)=true:=by rfl) (hs:starEach (e::es) X.env=(false,eval e X.env)::starEach es X.env:=by rfl) (hplain:(backTo cpos (starEach es X.env)).any (·.1)=false:=by rfl):
    PE X (.Call (.Attribute o name apos) (e::es) [] cpos) (tBM X.K T r to t):=by
  intro pins s σ H Q I h
  refine wpAny_Call_method_late hbase hfew hline rfl (thn (ho pins s σ H _ I h) fun v s1 ⟨x,H1,I1,r1,ty,q1⟩=>?_)
  obtain ⟨h1,h2⟩:=az9 I1 r1 ty
  refine ⟨T,id,pa,slot,hty,h1,h2,?_⟩
  have hA:=ha cpos pins s1 σ H1 _ I1 q1
  rw [hs] at hA ⊢
  refine Calls.callWith_builtin (by show (false||(backTo cpos (starEach es X.env)).any (·.1))=false;rw [hplain]<;>rfl) (Calls.evalArgs_plain ?_)
  exact thn hA fun us s2 ⟨vs,H2,I2,r2,q2⟩=>hm pins s2 σ H2 x vs v us Q I2 r1 r2 q2
end
end L2
namespace L2
open PySem PySem.Spec PyProof.Rows
def MtM (X:Cx) (id:String) (r:V→List V→Hp→VK→Prop):Prop:=
  ∀ (pins:List (Addr×Obj)) (s:Shared) (σ:St) (H:Hp) (x:V) (xs:List V) (v:Value) (us:List Value) (Q:VK),Inv X pins σ H s→RelV x v→Vals xs us→r x xs H Q→
    wpAny (model X.prog X.w) X.A (call (.builtin id) (v::us)) (EP X pins σ Q) X.xe s
theorem Vals.one:∀ {x:V} {us:List Value},Vals [x] us→∃ u,us=[u]∧RelV x u
  | _,_,.cons r .nil=>⟨_,rfl,r⟩
theorem Vals.two:∀ {x y:V} {us:List Value},Vals [x,y] us→∃ u v,us=[u,v]∧RelV x u∧RelV y v
  | _,_,_,.cons r (.cons q .nil)=>⟨_,_,rfl,r,q⟩
theorem Vals.rep {xs:List V} {us:List Value} (h:Vals xs us):∀ k:Nat,Vals (List.replicate k xs).flatten (List.replicate k us).flatten
  | 0=>.nil
  | k+1=>by
    rw [List.replicate_succ,List.replicate_succ,List.flatten_cons,List.flatten_cons]
    exact Vals.append h (Vals.rep h k)
theorem aiu (its:List Value):∀ (k:Nat) (acc:List Value),
    List.foldl (fun x1 x2=>x1++x2) acc.toArray (List.replicate k its.toArray)=(acc++(List.replicate k its).flatten).toArray
  | 0,acc=>by simp
  | k+1,acc=>by
    have e:acc.toArray++its.toArray=(acc++its).toArray:=by simp
    have e2:(acc++its)++(List.replicate k its).flatten=acc++(List.replicate (k+1) its).flatten:=by
      rw [List.replicate_succ,List.flatten_cons,List.append_assoc]
    rw [← e2,← aiu its k (acc++its),← e,List.replicate_succ,List.foldl_cons]
section
variable {X:Cx} {pins:List (Addr×Obj)} {σ:St} {H:Hp} {s:Shared} {l b:Addr} {xs ys zs:List V}
theorem Inv.lset {its its':List Value} {n:Nat} {f:Array Value→Array Value} {t':Nat} (I:Inv X pins σ H s) (hH:H l=some (.lst xs))
    (e:s.heap.get? l=some { cls:=.type "list",data:=.seq its.toArray n }) (hf:f its.toArray=its'.toArray) (hv:Vals ys its') (hz:ys.length≤sizeLine) (ht:0<t':=by (first | assumption | exact Nat.succ_pos _ | exact Inv.tk (by assumption) | exact Nat.lt_of_lt_of_le (Inv.tk (by assumption)) (Nat.le_add_right _ _) | exact Nat.lt_of_lt_of_le (Inv.tk (by assumption)) (by assumption))):
    Inv X pins σ (upd H l (.lst ys)) { s with heap:=s.heap.update l (Obj.mapSeq f),toks:=t' }:=by
  have q:=PySem.IsL.update e f
  rw [hf] at q
  refine I.write (x:=l) (e:=l) (by rw [hH];exact trivial) (.inl rfl) (fun b' u hb hu=>(Heap.get?_update_other s.heap (Obj.mapSeq f) (Ne.symm hb)).trans hu) ⟨_,q⟩ ?_
  exact ⟨hz,its',_,hv,q⟩
theorem Inv.lnew {its:List Value} {t':Nat} (I:Inv X pins σ H s) (hv:Vals ys its) (hz:ys.length≤sizeLine) (ht:0<t':=by (first | assumption | exact Nat.succ_pos _ | exact Inv.tk (by assumption) | exact Nat.lt_of_lt_of_le (Inv.tk (by assumption)) (Nat.le_add_right _ _) | exact Nat.lt_of_lt_of_le (Inv.tk (by assumption)) (by assumption))):
    Inv X pins σ (upd H s.heap.objs.size (.lst ys)) { s with heap:=s.heap.push { cls:=.type "list",data:=.seq its.toArray },toks:=t' }:=
  I.laid (fun _ _ q=>Heap.get?_push_of_some _ q) (Nat.le_refl _) ⟨hz,its,0,hv,Heap.get?_push_size _ rfl⟩
theorem Inv.fresh (I:Inv X pins σ H s):H s.heap.objs.size=none:=I.hok.fresh (Nat.le_refl _)
theorem Inv.lstM (I:Inv X pins σ H s) (hH:H l=some (.lst xs)):xs.length≤sizeLine∧∃ (its:List Value) (n:Nat),Vals xs its∧xs.length=its.length∧s.heap.get? l=some { cls:=.type "list",data:=.seq its.toArray n }:=by
  obtain ⟨z,its,n,r,e⟩:=I.hok l _ hH
  exact ⟨z,its,n,r,r.length,e⟩
theorem alo {n:Nat} (h:n≤sizeLine):Builtin.List.listTooLong n=false:=by
  unfold Builtin.List.listTooLong
  exact decide_eq_false (by omega)
end
section
variable {X:Cx}
def av8:V→List V→Hp→VK→Prop:=fun x vs H Q=>∃ l xs y,x=.ref l∧vs=[y]∧H l=some (.lst xs)∧xs.length<sizeLine∧Q .non (upd H l (.lst (xs++[y])))
theorem apq:MtM X "list.append" av8:=by
  intro pins s σ H x vs v us Q I rx rv h
  obtain ⟨l,xs,y,rfl,rfl,hH,hz,q⟩:=h
  cases rx
  obtain ⟨u,rfl,ru⟩:=rv.one
  obtain ⟨z,its,n,r,hl,e⟩:=I.lstM hH
  refine call_meets F.slot_list_append ⟨_,e,rfl⟩ F.entry_list_append (F.args_list_append_2 _ _) (PySem.list_append l its.toArray n u (by rw [List.size_toArray];omega)) ⟨e,?_⟩
  refine ⟨.non,_,I.lset (its':=its++[u]) hH e (by simp) (r.append (.cons ru .nil)) ?_,rfl,q⟩
  rw [List.length_append,List.length_singleton]
  omega
def awf:V→List V→Hp→VK→Prop:=fun x vs H Q=>∃ l b xs zs,x=.ref l∧vs=[.ref b]∧H l=some (.lst xs)∧H b=some (.lst zs)∧xs.length+zs.length≤sizeLine∧Q .non (upd H l (.lst (xs++zs)))
theorem api:MtM X "list.extend" awf:=by
  intro pins s σ H x vs v us Q I rx rv h
  obtain ⟨l,b,xs,zs,rfl,rfl,hH,hB,hz,q⟩:=h
  cases rx
  obtain ⟨u,rfl,ru⟩:=rv.one
  cases ru
  obtain ⟨z,its,n,r,hl,e⟩:=I.lstM hH
  obtain ⟨z2,its2,n2,r2,hl2,e2⟩:=I.lstM hB
  have hsz:its.toArray.size+its2.toArray.size≤sizeLine:=by rw [List.size_toArray,List.size_toArray];omega
  have hlong:¬ (!its.toArray.isEmpty&&Builtin.List.listTooLong (its.toArray.size+its2.toArray.size))=true:=by
    rw [alo hsz,Bool.and_false]
    exact Bool.false_ne_true
  refine call_meets F.slot_list_extend ⟨_,e,rfl⟩ F.entry_list_extend (F.args_list_extend_2 _ _)
    (AutoSeq1.list_extend_list_list_0 l its.toArray n b its2.toArray n2 hlong (by rw [List.size_toArray];omega) (by omega)) ⟨e,e2,?_⟩
  refine ⟨.non,_,I.lset (its':=its++its2) hH e (by simp) (r.append r2) ?_,rfl,q⟩
  rw [List.length_append]
  omega
def a4m:R2:=fun x y H Q=>∃ l b xs zs,x=.ref l∧y=.ref b∧H l=some (.lst xs)∧H b=some (.lst zs)∧xs.length+zs.length≤sizeLine∧∀ p,H p=none→Q (.ref p) (upd H p (.lst (xs++zs)))
theorem ayy:OpR X (binaryOp .Add) a4m:=by
  intro pins s σ H x y v u Q I rx ry h
  obtain ⟨l,b,xs,zs,rfl,rfl,hH,hB,hz,q⟩:=h
  cases rx
  cases ry
  obtain ⟨z,its,n,r,hl,e⟩:=I.lstM hH
  obtain ⟨z2,its2,n2,r2,hl2,e2⟩:=I.lstM hB
  refine PySem.P.add_list e e2 ?_ (by rw [List.size_toArray,List.size_toArray];omega)
  have ea:its.toArray++its2.toArray=(its++its2).toArray:=by simp
  rw [ea]
  exact ⟨.ref _,_,I.lnew (t':=s.toks) (r.append r2) (by rw [List.length_append];omega),rfl,q _ I.fresh⟩
def a4f:R2:=fun x y H Q=>∃ l k xs,x=.ref l∧y=.int k∧H l=some (.lst xs) ∧ -(2 ^ 63)≤k∧k<2 ^ 63∧xs.length*k.toNat≤sizeLine∧
  ∀ p,H p=none→Q (.ref p) (upd H p (.lst (List.replicate k.toNat xs).flatten))
theorem aw6 {α:Type} (xs:List α) (k:Nat):(List.replicate k xs).flatten.length=k*xs.length:=by
  induction k with
  | zero=>simp
  | succ k ih=>rw [List.replicate_succ,List.flatten_cons,List.length_append,ih,Nat.succ_mul,Nat.add_comm]
theorem a0s:OpR X (binaryOp .Mult) a4f:=by
  intro pins s σ H x y v u Q I rx ry h
  obtain ⟨l,k,xs,rfl,rfl,hH,h1,h2,hz,q⟩:=h
  cases rx
  obtain ⟨t,rfl⟩:=ry
  obtain ⟨z,its,n,r,hl,e⟩:=I.lstM hH
  have hlen:its.toArray.size*k.toNat≤sizeLine:=by rw [List.size_toArray,← hl];exact hz
  have hcap:¬ its.toArray.size*k.toNat > (2 ^ 63 - 1) / 8:=by
    have:(sizeLine:Nat)≤(2 ^ 63 - 1) / 8:=by decide
    omega
  have hfit:¬ (!Builtin.List.listFitsIndex k)=true:=by
    rw [fitsIndex_both h1 h2]
    exact Bool.false_ne_true
  have hlong:¬ Builtin.List.listTooLong (its.toArray.size*k.toNat)=true:=by
    rw [alo hlen]
    exact Bool.false_ne_true
  have hnew:List.foldl (fun x1 x2=>x1++x2) #[] (List.replicate (if its.toArray.isEmpty=true then 0 else k.toNat) its.toArray)=(List.replicate k.toNat its).flatten.toArray:=by
    have f0:∀ m:Nat,List.foldl (fun x1 x2=>x1++x2) #[] (List.replicate m its.toArray)=(List.replicate m its).flatten.toArray:=fun m=>by
      have:=aiu its m []
      rw [List.nil_append] at this
      exact this
    rw [f0]
    cases its with
    | nil=>simp
    | cons a r'=>rw [if_neg (by simp)]
  refine wpAny_binaryOp_repeat_ref (T:="list") (U:="int") (by decide) ⟨_,e,rfl⟩ (fun s'=>typeIs_int s' k t) noFill_list_mul F.fills_int_mul F.slot_int_rmul repeat_list F.slot_int_index.lookup
    (call_meets F.slot_int_rmul (typeIs_int s k t) F.entry_int_rmul (F.args_int_rmul_2 _ _) (int___rmul___int_list k t l its.toArray n)
      ⟨e,rfl,⟨_,e,rfl⟩,call_meets F.slot_list_mul ⟨_,e,rfl⟩ F.entry_list_mul (F.args_list_mul_2 _ _) (AutoListH.list___mul___list_int_3 l its.toArray n k t hfit hcap hlong) ⟨e,?_⟩⟩)
  rw [hnew]
  exact ⟨.ref _,_,I.lnew (t':=s.toks) (r.rep k.toNat) (by rw [aw6,Nat.mul_comm];exact hz),rfl,q _ I.fresh⟩
end
section
variable {prog:Program} {w:World} {A:Around} {E:Value→Shared→Prop} {s:Shared}
set_option maxRecDepth 100000 in
end
section
variable {X:Cx}
end
end L2
namespace Att
open PySem PySem.W PySem.Calls PyProof.Rows
theorem afn {P:Params} {h:Heap}:∀ (ns:List Int) (vs:List Value),WellAll P h vs (ns.map WData.int)→IntsAre vs ns:=by
  intro ns
  induction ns with
  | nil=>
    intro vs w
    rw [List.map_nil] at w
    cases w
    exact .nil
  | cons n ns ih=>
    intro vs w
    rw [List.map_cons] at w
    cases w with
    | cons a b=>
      cases a
      exact .cons _ _ (ih _ b)
theorem aqb {l:OpenLaw} {n:Nat} (hn:l.most=some n) {P:Params} {h:Heap} {args:List WData} {vals:List Value}
    (hpre:l.row.toRowW.claim.pre args=true) (hwl:WellAll P h vals args):
    ∃ a vs ns,vals=[Value.ref a]∧args=[WData.list (ns.map WData.int)]∧h.get? a=some { cls:=.type "list",data:=.seq vs.toArray }∧IntsAre vs ns∧ns.length≤n:=by
  have hsh:WShape.hasAll [] args [.list .int]=true:=(pre_splitW hpre).1
  have hc:l.pre.holds [] { args:=args }=true:=(pre_splitW hpre).2
  obtain ⟨d,r,rfl,h1,h2⟩:=hasAllW_cons hsh
  obtain rfl:=hasAllW_nil h2
  obtain ⟨xs,rfl,h3⟩:=hasW_list h1
  obtain ⟨ns,rfl⟩:=items_int h3
  have hlen:ns.length≤n:=by
    unfold OpenLaw.pre at hc
    have h4:(WTm.not (.lt (.lit (.int (n:Int))) (.len (.arg 0)))).holds [] { args:=[.list (ns.map .int)] }=true:=by
      have h4:=(holds_andW hc).1
      rw [hn] at h4
      exact h4
    have h5:=condW_of h4 (w_not (w_lt w_lit (w_len_list (w_arg rfl))))
    rw [List.length_map] at h5
    refine Nat.le_of_not_lt fun q=>?_
    have q':(n:Int)<((ns.length:Nat):Int):=by omega
    first
      | (rw [decide_eq_true q'] at h5;exact absurd h5 (by decide))
      | (simp at h5;omega)
  cases hwl with
  | cons w1 w2=>
    cases w2
    cases w1 with
    | list ho hall=>exact ⟨_,_,ns,rfl,rfl,ho,afn ns _ hall,hlen⟩
theorem aqv (l:OpenLaw) (args:List WData):l.row.toRowW.claim.post args (.bool true) args=true:=
  postW_of (r:=l.row.toRowW) (X:=(true==true))
    (show WShape.has [] (.bool true) .bool=true by first | rfl | decide | simp [WShape.has,WShape.arms,WShape.armsAll])
    (show (WTm.eq .res (.lit (.bool true))).value [] { args:=args,res:=some (.bool true),after:=args }=some (.bool (true==true)) from w_eq_bool (w_res rfl) w_lit) rfl
theorem attach_callZ {l:OpenLaw} {n:Nat} {q:Program} {loose:List Str} {XP:(Str→Option Value)→Heap→Prop} {as0:List Addr} {N t:Nat} {K:Params→Frag} {d:DefRec}
    (hn:l.most=some n) (hdf:d.params.defaults=[]) (ek:∀ P,as0=(K P).map (·.1)) (htk:0<t)
    (call:∀ (w:World) (s₀ s₁:Shared) (mg mb:Str→Option Value) (fa:Addr) (o:Obj) (pm cd doc:Value) (a:Addr) (vs:List Value) (ns:List Int),
      Ground q loose [] XP w s₀ mg mb s₁.heap→(K w.params).In s₁.heap→0<s₁.toks→
      s₁.heap.get? fa=some o→o.data=.func (docDef d.name d.params d.body d.scope pm cd doc)→s₁.heap.CodeRec cd d.name→mg d.name=some (.ref fa)→
      s₁.heap.get? a=some { cls:=.type "list",data:=.seq vs.toArray }→IntsAre vs ns→ns.length≤n→s₁.gens=#[]→
      codeAny (model l.prog w) callerA (.call (.ref fa) ⟨[.ref a],[]⟩) (fun r s'=>r=.ok (.ret (.bool true))∧OldK s₁.heap s'.heap∧s'.os=s₁.os∧AllBare s'.gens) s₁):
    WalkX q loose XP (X.obsZ as0) (X.valZ K N t) l.row.toRowW d [] (fun f vs=>PySem.call f vs):=by
  intro w s₀ s₁ mg mb G Y fa o pm cd doc dV kV ho hd hcd hD hmg hg args vals as L hpre hlay hrd hwl hlo
  obtain rfl:dV=.none:=Dflts.none hD hdf
  obtain rfl:kV=.none:=Dflts.noKw hD
  obtain ⟨a,vs,ns,rfl,rfl,hobj,hints,hlen⟩:=aqb hn hpre hwl
  obtain ⟨_,zi,_,zt⟩:=X.z_facts ek Y
  have eP:∀ ns:List Int,ofPy (PyData.list (ns.map PyData.int))=WData.list (ns.map WData.int):=fun ns=>by
    simp only [ofPy]
    congr 1
    induction ns with
    | nil=>simp [ofPys]
    | cons n r ih=>simp only [List.map_cons,ofPys,ofPy,ih]
  rw [← eP] at L
  have KX:=InK.keeps w s₀.heap s₁.heap zi L.keeps
  have tk1:0<s₁.toks:=Nat.lt_of_lt_of_le htk (X.script_toks L zt)
  refine enter_call (codeAny_mono (call w s₀ s₁ mg mb fa o pm cd doc a vs ns G KX tk1 ho (fd_plain hd) hcd hmg hobj hints hlen hg) fun r s' hq=>?_)
  obtain ⟨rfl,h2,h3,h4⟩:=hq
  exact ⟨.inl ⟨.bool true,.bool true,[],rfl,fun _=>rfl,.bool true,aqv l _,fun _=>⟨List.Pairwise.nil,fun _ hm=>(nomatch hm)⟩⟩,h2,h3,h4⟩
section
variable {prog:Program} {w:World} {A:Around} {E:Value→Shared→Prop} {s:Shared} {K:Frag}
end
end Att
namespace L2
open PySem PySem.Spec PyProof.Rows
theorem aj6:∀ {vs:List Value} {ns:List Int},IntsAre vs ns→Vals (ns.map V.int) vs
  | _,_,.nil=>.nil
  | _,_,.cons n t h=>.cons ⟨t,rfl⟩ (aj6 h)
def avj (H:Hp):Prop:=∀ b,H b=none∨∃ o xs,H b=some (.frz o (.lst xs))
theorem are {P:Program} {w:World} {K:PySem.W.Frag} {mg mb:Str→Option Value} {CX:CXT} {k:Nat} {fa a:Addr} {fd:FuncData} {x:Str} {sp:Sp} {s₁:Shared} {vs:List Value} {ns:List Int}
    (KX:K.In s₁.heap) (hns:s₁.heap.Ns mainGlobals mg) (hb:s₁.heap.Ns builtinsNs mb) (hbb:∀ x:Str,x ≠ "__name__" → mb x=bootBuiltins x) (hlim:s₁.heap.NoLimit) (hg:s₁.gens=#[]) (htk:0<s₁.toks)
    (ha:s₁.heap.get? a=some { cls:=.type "list",data:=.seq vs.toArray }) (hi:IntsAre vs ns) (hl:ns.length≤sizeLine) (hr:Room k callerA)
    (F:∀ base:Heap,K.In base→base.Ns mainGlobals mg→FnOk P w K mg base CX k fa fd [x] sp) (hbind:∀ (s:Shared) (u:Value),BindsTo s fd ⟨[u],[]⟩ [(x,u)])
    (hsp:∀ H:Hp,avj H→SqL K H a (ns.map V.int)→sp [.ref a] H (fun v _=>v=.bl true) fun _ _ _=>False)
    (hCX:∀ H e s',CX [] H s₁ (fun _ _ _=>False) e s'→False):
    codeAny (model P w) callerA (.call (.ref fa) ⟨[.ref a],[]⟩) (fun r s'=>r=.ok (.ret (.bool true))∧OldK s₁.heap s'.heap∧s'.os=s₁.os∧AllBare s'.gens) s₁:=by
  have rv:=aj6 hi
  have lenV:=hi.length
  have core:∀ H:Hp,avj H→SqL K H a (ns.map V.int)→HOk P w H s₁.heap→(∀ b,H b≠none→b=a)→(H a≠none→K.lookup a=none)→
      codeAny (model P w) callerA (.call (.ref fa) ⟨[.ref a],[]⟩) (fun r s'=>r=.ok (.ret (.bool true))∧OldK s₁.heap s'.heap∧s'.os=s₁.os∧AllBare s'.gens) s₁:=by
    intro H hO hS hok hA hK
    have base_of:∀ {b:Addr} {o:Obj},s₁.heap.get? b=some o→H b=none→(ajq s₁.heap H).get? b=some o:=fun e n=>asc e n
    have noA:∀ {b:Addr} {o:Obj} {es:Array DictEntry} {ep:Nat},s₁.heap.get? b=some o→o.data=.dict es ep→H b=none:=fun {b o es ep} e d=>by
      cases q:H b with
      | none=>rfl
      | some u=>
        have e':b=a:=hA b (by rw [q];simp)
        subst e'
        rw [ha] at e;cases e
        have d':Data.seq vs.toArray _=Data.dict es ep:=d
        cases d'
    have nsK:∀ {b:Addr} {m:Str→Option Value},s₁.heap.Ns b m→(ajq s₁.heap H).Ns b m:=fun {b m} ⟨o,es,ep,e,d,r⟩=>⟨o,es,ep,base_of e (noA e d),d,r⟩
    have hKb:K.In (ajq s₁.heap H):=fun b o e=>base_of (KX b o e) (by
      cases q:H b with
      | none=>rfl
      | some u=>
        have e':b=a:=hA b (by rw [q];simp)
        subst e'
        rw [hK (by rw [q];simp)] at e;cases e)
    have hM:Mod K mg (ajq s₁.heap H):=⟨hKb,nsK hns,⟨mb,nsK hb,hbb⟩,let ⟨mc,h1,h2⟩:=hlim;⟨mc,nsK h1,h2⟩⟩
    have e0:Env0 P w K mg (ajq s₁.heap H) callerA [] s₁ H:=⟨rfl,hM,fun b o e=>aup e,Nat.le_of_eq (aqj _ _),trivial,fun b hb=>absurd (show b∈([]:List Addr) from hb) (by simp),hok,.of_eq hg,htk⟩
    refine codeAny_mono ((F _ hKb (nsK hns)).run callerA [] s₁ H ⟨[.ref a],[]⟩ [.ref a] [.ref a] _ _ hr e0 (hbind s₁ (.ref a)) (.cons rfl .nil) (hsp H hO hS)) fun r s' h=>?_
    cases r with
    | error e=>exact (hCX H e s' h).elim
    | ok fl=>
      cases fl with
      | next=>exact False.elim h
      | brk=>exact False.elim h
      | cont=>exact False.elim h
      | ret u=>
        obtain ⟨v,H',os,bare,un,hok',r',q,_⟩:=h
        have q':v=.bl true:=q
        subst q'
        obtain rfl:u=Value.bool true:=r'
        refine ⟨rfl,OldK.of_keep fun b o e=>?_,os,bare⟩
        cases q:H b with
        | none=>exact un.keep b o e q (by intro z;exact absurd (show b∈([]:List Addr) from z) (by simp)) (by simp)
        | some u=>
          rcases hO b with z | ⟨ob,xs,z⟩
          · rw [q] at z;cases z
          · have z2:=un.frzs b ob _ z
            obtain ⟨e1,_⟩:=hok b _ z
            obtain ⟨e2,_⟩:=hok' b _ z2
            rw [e] at e1;cases e1
            exact e2
  cases hk:K.lookup a with
  | some o=>
    have e:=KX a o hk
    rw [ha] at e
    cases e
    refine core (fun _=>none) (fun _=>.inl rfl) (.inr ⟨_,vs.toArray,_,hk,rfl,rfl,rfl,by rw [List.size_toArray,lenV];exact hl,by simpa using rv⟩) (fun b u z=>by have z':(none:Option HO)=some u:=z;cases z') (fun b z=>absurd rfl z) fun z=>absurd rfl z
  | none=>
    refine core (fun b=>if b=a then some (.frz { cls:=.type "list",data:=.seq vs.toArray } (.lst (ns.map V.int))) else none) (fun b=>?_) (.inl (.inr ⟨{ cls:=.type "list",data:=.seq vs.toArray },if_pos rfl⟩)) (fun b u z=>?_) (fun b z=>?_) fun _=>hk
    · by_cases hb:b=a
      · exact .inr ⟨_,_,if_pos hb⟩
      · exact .inl (if_neg hb)
    · by_cases hb:b=a
      · have z':=(if_pos hb).symm.trans z
        cases z'
        subst hb
        exact ⟨ha,by rw [List.length_map];exact hl,vs,_,rv,ha⟩
      · have z':=(if_neg hb).symm.trans z
        cases z'
    · by_cases hb:b=a
      · exact hb
      · exact absurd (if_neg hb) z
end L2
namespace L2
open PySem PySem.Spec PyProof.Rows
theorem walk_ofZ {l:PySem.W.OpenLaw} {n k:Nat} {q:Program} {loose:List Str} {XP:(Str→Option Value)→Heap→Prop} {as0:List Addr} {N t:Nat} {d:DefRec} {K:Params→PySem.W.Frag} {CX:CXT} {sp:PySem.W.Frag→Sp} {x:Str}
    (hn:l.most=some n) (hn2:n≤sizeLine) (hdf:d.params.defaults=[]) (hr:Room k callerA) (ek:∀ P,as0=(K P).map (·.1)) (htk:0<t)
    (F:∀ (w:World) (mg:Str→Option Value) (fa:Addr) (h:Heap),(K w.params).In h→h.Ns mainGlobals mg→mg d.name=some (.ref fa)→
      ∃ fd:FuncData,(∀ (s:Shared) (u:Value),BindsTo s fd ⟨[u],[]⟩ [(x,u)])∧
        ∀ base:Heap,(K w.params).In base→base.Ns mainGlobals mg→FnOk l.prog w (K w.params) mg base CX k fa fd [x] (sp (K w.params)))
    (hsp:∀ (K:PySem.W.Frag) (H:Hp) (a:Addr) (ns:List Int),ns.length≤n→avj H→SqL K H a (ns.map V.int)→sp K [.ref a] H (fun v _=>v=.bl true) fun _ _ _=>False)
    (hCX:∀ (H:Hp) (s:Shared) (e:Value) (s':Shared),CX [] H s (fun _ _ _=>False) e s'→False):
    PySem.W.WalkX q loose XP (PySem.W.X.obsZ as0) (PySem.W.X.valZ K N t) l.row.toRowW d [] (fun f vs=>PySem.call f vs):=by
  refine Att.attach_callZ hn hdf ek htk fun w s₀ s₁ mg mb fa o pm cd doc a vs ns G KX tk ho hd hcd hmg hobj hints hlen hg=>?_
  obtain ⟨fd,hb,hF⟩:=F w mg fa _ KX G.T.g hmg
  exact are KX G.T.g G.T.b G.T.builtins G.T.nolimit hg tk hobj hints (Nat.le_trans hlen hn2) hr hF hb (fun H hO hS=>hsp (K w.params) H a ns hlen hO hS) fun H e s'=>hCX H s₁ e s'
end L2
namespace L2
open PySem PySem.Spec PyProof.Rows
def j5 (s:Stmt):Arguments:=match s with
  | .FunctionDef _ a _ _ _ _ _ _ _ _=>a
  | _=>{ posonlyargs:=[],args:=[],vararg:=none,kwonlyargs:=[],kw_defaults:=[],kwarg:=none,defaults:=[] }
def ql (s:Stmt):List Stmt:=match s with
  | .FunctionDef _ _ b _ _ _ _ _ _ _=>b
  | _=>[]
def q9 (s:Stmt):Scope:=match s with
  | .FunctionDef _ _ _ _ _ _ sc _ _ _=>sc
  | _=>{ kind:=.function,names:=[],isGenerator:=false,isCoroutine:=false }
abbrev CX0:CXT:=fun _ _ _ _ _ _=>False
abbrev E0:XK:=fun _ _ _=>False
theorem arv {X:Cx}:ae9 CX0 X E0:=fun _ _ _ _ _ _ _ h=>h.elim
structure Fun (K:PySem.W.Frag) (x qual:Str) (st:Stmt) (f:Addr) (fd:FuncData):Prop where
  ex:∃ (oc:Value) (od:Option Addr) (kV doc pm:Value) (an:Option Addr) (cdv ct:Value) (osl:Array (Option Value)),
    fd=PySem.W.fnOf x qual (j5 st) (ql st) (q9 st) .none kV doc pm an cdv ct∧K.lookup f=some ⟨oc,od,.func fd,osl⟩∧PySem.W.codeIn K cdv qual=true
  kp:PySem.W.keepIn K (.ref f)=true
section
variable {P:Program} {w:World} {K:PySem.W.Frag} {mg:Str→Option Value} {base:Heap}
theorem Fun.ok {x qual:Str} {st:Stmt} {f:Addr} {fd:FuncData} {N ps:List Str} {k:Nat} {sp:Sp} (F:Fun K x qual st f fd) (S:FnScope N ps (q9 st)) (len:∀ vs H Q E,sp vs H Q E→vs.length=ps.length)
    (hbody:∀ (cdv:Value) (A:Around) (outer:List Env) (s:Shared) (H:Hp) (vs:List V) (Q:VK) (E:XK),Room k (A.deeper (envOfC qual (q9 st) s.heap.objs.size f cdv))→sp vs H Q E→
      ∃ t,PSs (zx CX0 P w K mg base N qual (q9 st) f cdv A outer s H E).nox (ql st) t∧t { nx:=fun _ H'=>Q .non H',rt:=Q } (start N vs) H):FnOk P w K mg base CX0 (k+1) f fd ps sp:=by
  obtain ⟨oc,od,kV,doc,pm,an,cdv,ct,osl,rfl,lk,hcd⟩:=F.ex
  refine ay4 lk hcd S len fun A outer s H vs Q E hr hsp=>?_
  obtain ⟨t,h,q⟩:=hbody cdv A outer s H vs Q E hr hsp
  exact ⟨t,h.nox,q⟩
theorem ar1 {x qual:Str} {st:Stmt} {f:Addr} {oc:Value} {od an:Option Addr} {osl:Array (Option Value)} {kV doc pm cdv ct:Value} (l:K.lookup f=some ⟨oc,od,.func (PySem.W.fnOf x qual (j5 st) (ql st) (q9 st) .none kV doc pm an cdv ct),osl⟩)
    (c:PySem.W.codeIn K cdv qual=true) (k:PySem.W.keepIn K (.ref f)=true):Fun K x qual st f (PySem.W.fnOf x qual (j5 st) (ql st) (q9 st) .none kV doc pm an cdv ct):=⟨⟨oc,od,kV,doc,pm,an,cdv,ct,osl,rfl,l,c⟩,k⟩
end
theorem ac0 {n:Nat} (h:n≤1000):n<sizeLine:=Nat.lt_of_le_of_lt h (by decide)
section
variable {X:Cx}
theorem pv (i:Nat) {x:Str} {pos:Pos} (hN:X.N[i]?=some x:=by rfl) (hv:Vis X.env.scope x:=by first | exact Or.inl rfl | exact Or.inr (Or.inl rfl) | exact Or.inr (Or.inr rfl)) (hd:(x==("__debug__" : Str))=false:=by decide)
    (hcd:(x==("__classdict__" : Str))=false:=by decide):PE X (.Name x pos) (a1f i):=ayq hN hv hd hcd
end
section
variable {κ:Type} [DecidableEq κ]
end
end L2
set_option maxHeartbeats 8000000
namespace L2
open PySem PySem.Spec PyProof.Rows
section
variable {X:Cx}
def a4b:R2:=fun x y H Q=>match x,y with
  | .int i,.int j=>Q (.int (i+j)) H
  | .str a,.str b=>a.length+b.length≤sizeLine∧Q (.str (a++b)) H
  | .ref l,.ref b=>∃ xs zs,H l=some (.lst xs)∧H b=some (.lst zs)∧xs.length+zs.length≤sizeLine∧∀ p,H p=none→Q (.ref p) (upd H p (.lst (xs++zs)))
  | _,_=>False
theorem awd:OpR X (binaryOp .Add) a4b:=by
  intro pins s σ H x y v u Q I rx ry h
  cases x<;>cases y<;>first
    | exact False.elim h
    | exact a04 pins s σ H _ _ v u Q I rx ry ⟨_,_,rfl,rfl,h⟩
    | exact anc pins s σ H _ _ v u Q I rx ry ⟨_,_,rfl,rfl,h.1,h.2⟩
    | (obtain ⟨xs,zs,h1,h2,h3,h4⟩:=h;exact ayy pins s σ H _ _ v u Q I rx ry ⟨_,_,xs,zs,rfl,rfl,h1,h2,h3,h4⟩)
def KD (K:PySem.W.Frag) (P:Program) (w:World) (a:Addr) (kvs:List (Key×V)):Prop:=
  (a==sysModules)=false∧kvs.length≤sizeLine∧∀ h:Heap,K.In h→∃ vs,KV kvs vs∧h.DictOf (jc P w) a vs
def uIx (K:PySem.W.Frag) (P:Program) (w:World):R2:=fun x y H Q=>match x,y with
  | .str z,.int i=>z.length≤sizeLine∧∃ c,atI z.cps.toList i=some c∧Q (.str ⟨#[c]⟩) H
  | .ref p,.int i=>∃ xs v,(SqL K H p xs∨SqT K H p xs)∧atI xs i=some v∧Q v H
  | .ref p,.str k=>∃ kvs v,(Rd H p (.dK kvs)∨KD K P w p kvs)∧ace kvs (Sum.inr k)=some v∧Q v H
  | _,_=>False
theorem atq {value slice:Expr} {pins:List (Addr×Obj)} {s:Shared} {σ:St} {H:Hp} {a:Addr} {u:Value} {vs:List (Key×Value)} {k:Key} {w':Value} {v:V} {Q:VK} (I:Inv X pins σ H s) (dd:s.heap.DictOf (jc X.prog X.w) a vs) (hk:agi k u=true)
    (hw:valueAt vs k=some w') (r:RelV v w') (q:Q v H) (hs:subscripted slice false (.ref a) u=operate [.ref a,u] (getItem (.ref a) u)):wpAny (model X.prog X.w) X.A (subscriptTail value slice (.ref a) u) (EP X pins σ Q) X.xe s:=
  tail_any dd.typeIs PySem.F.slot_dict_getitem.lookup (wpAny_getItem_of hk dd.mapOf hw ⟨v,H,I.tok _,r,q⟩) hs
theorem a3y:IxR X (uIx X.K X.prog X.w):=by
  intro value slice pins s σ H x y v u Q I rx ry q hs
  cases x with
  | str z=>
    cases y with
    | int i=>
      obtain ⟨h1,c,h2,h3⟩:=q
      exact azj value slice pins s σ H _ _ v u Q I rx ry ⟨z,i,c,rfl,rfl,h1,h2,h3⟩ hs
    | _=>exact q.elim
  | ref p=>
    cases y with
    | int i=>
      obtain ⟨xs,w',h1,h2,h3⟩:=q
      rcases h1 with h1 | h1
      · exact avv value slice pins s σ H _ _ v u Q I rx ry ⟨p,xs,i,w',rfl,rfl,h1,h2,h3⟩ hs
      · exact a0c value slice pins s σ H _ _ v u Q I rx ry ⟨p,xs,i,w',rfl,rfl,h1,h2,h3⟩ hs
    | str k=>
      obtain ⟨kvs,w',h1,h2,h3⟩:=q
      have ry':RelV (kV (Sum.inr k)) u:=ry
      cases (show v=Value.ref p from rx)
      rcases h1 with h1 | h1
      · obtain ⟨z,hd,vs,rel,dd⟩:=aiy I.hok h1
        obtain ⟨w2,hw,rw'⟩:=RelO.some_of (v:=w') (o:=valueAt vs (Sum.inr k)) (by rw [← h2];exact rel.val _)
        exact atq I dd (aij (P:=X.prog) (w:=X.w) ry') hw rw' h3 hs
      · obtain ⟨hd,z,dd⟩:=h1
        obtain ⟨vs,rel,dd⟩:=dd s.heap I.kIn
        obtain ⟨w2,hw,rw'⟩:=RelO.some_of (v:=w') (o:=valueAt vs (Sum.inr k)) (by rw [← h2];exact rel.val _)
        exact atq I dd (aij (P:=X.prog) (w:=X.w) ry') hw rw' h3 hs
    | _=>exact q.elim
  | _=>cases y<;>exact q.elim
def a3l (K:PySem.W.Frag):List V→Hp→VK→Prop:=fun xs H Q=>match xs with
  | [.str z]=>z.length≤sizeLine∧Q (.int z.length) H
  | [.ref p]=>∃ ys,(SqL K H p ys∨SqT K H p ys)∧Q (.int ys.length) H
  | _=>False
theorem aqx:CallR X (.builtin "len") (a3l X.K):=by
  intro pins s σ H xs us Q I r h
  match xs,h with
  | [.str z],h=>exact ajx pins s σ H _ us Q I r ⟨z,rfl,h.1,h.2⟩
  | [.ref p],h=>
    obtain ⟨ys,h1,h2⟩:=h
    exact akd pins s σ H _ us Q I r ⟨p,ys,rfl,h1,h2⟩
inductive Da where
  | s (v:V)
  | tup (xs:List Da)
  | lst (xs:List Da)
mutual
def Da.eq:Da→Da→Bool
  | .s v,.s w=>eqV v w
  | .tup xs,.tup ys=>Da.eqs xs ys
  | .lst xs,.lst ys=>Da.eqs xs ys
  | _,_=>false
def Da.eqs:List Da→List Da→Bool
  | [],[]=>true
  | x::xs,y::ys=>Da.eq x y&&Da.eqs xs ys
  | _,_=>false
end
def jy (K:PySem.W.Frag) (H:Hp):Nat→V→Da→Prop
  | 0,v,d=>d=.s v∧kz v=true
  | n+1,v,d=>(d=.s v∧kz v=true)∨(∃ a xs ds,v=.ref a∧d=.tup ds∧SqT K H a xs∧Paired (jy K H n) xs ds)∨(∃ a xs ds,v=.ref a∧d=.lst ds∧SqL K H a xs∧Paired (jy K H n) xs ds)
theorem Da.eqs_range:∀ (ds es:List Da),((List.range (min ds.length es.length)).all (fun j=>Da.eq (ds.getD j (.s .non)) (es.getD j (.s .non)))&&ds.length==es.length)=Da.eqs ds es
  | [],[]=>by simp [Da.eqs]
  | [],e::es=>by simp [Da.eqs]
  | d::ds,[]=>by simp [Da.eqs]
  | d::ds,e::es=>by
    have ih:=Da.eqs_range ds es
    rw [Da.eqs,← ih]
    have:min (d::ds).length (e::es).length=min ds.length es.length+1:=by simp only [List.length_cons];omega
    rw [this,List.range_succ_eq_map,List.all_cons,List.all_map]
    have h2:((d::ds).length==(e::es).length)=(ds.length==es.length):=by simp
    rw [h2,Bool.and_assoc]
    rfl
theorem Paired.at {α β:Type} {F:α→β→Prop}:∀ {xs:List α} {ys:List β} {j:Nat} {x:α} {y:β},Paired F xs ys→xs[j]?=some x→ys[j]?=some y→F x y
  | _,_,_,_,_,.nil,h,_=>by simp at h
  | _,_,0,_,_,.cons r _,h1,h2=>by simp at h1 h2;subst h1 h2;exact r
  | _,_,j+1,_,_,.cons _ t,h1,h2=>Paired.at (j:=j) t (by simpa using h1) (by simpa using h2)
theorem ad2:∀ {v:V},kz v=true→eqV v v=true
  | .non,_=>rfl
  | .bl _,_=>by simp [eqV]
  | .int _,_=>by simp [eqV]
  | .str _,_=>by simp [eqV]
section
variable {pins:List (Addr×Obj)} {σ:St} {H:Hp} {s:Shared}
theorem qx {a:Addr} (h:kz (.ref a)=true):False:=by simp [kz] at h
theorem Inv.notBoth (I:Inv X pins σ H s) {a:Addr} {xs ys:List V} (h:SqT X.K H a xs) (h':SqL X.K H a ys):False:=by
  obtain ⟨its,_,⟨o,e,c,_⟩,_⟩:=I.tuple h
  obtain ⟨its',_,⟨o',n',e',c',_⟩,_⟩:=I.list h'
  rw [e] at e';cases e'
  rw [c] at c'
  injection c' with c'
  exact absurd c' (by decide)
theorem ajn (I:Inv X pins σ H s):∀ (n:Nat) {m:Nat} {x:V} {d e:Da},jy X.K H n x d→jy X.K H m x e→Da.eq d e=true
  | 0,m,x,d,e,h1,h2=>by
    obtain ⟨rfl,f⟩:=h1
    cases m with
    | zero=>obtain ⟨rfl,_⟩:=h2;exact ad2 f
    | succ m=>
      rcases h2 with ⟨rfl,_⟩ | ⟨a,xs,ds,rfl,_⟩ | ⟨a,xs,ds,rfl,_⟩
      · exact ad2 f
      · exact (qx f).elim
      · exact (qx f).elim
  | n+1,m,x,d,e,h1,h2=>by
    have both:∀ {xs:List V} {ds es:List Da} {m:Nat},Paired (jy X.K H n) xs ds→Paired (jy X.K H m) xs es→Da.eqs ds es=true:=by
      intro xs ds es m p
      induction p generalizing es with
      | nil=>intro q;cases q;rfl
      | cons r t ih=>
        intro q
        cases q with
        | cons r' t'=>rw [Da.eqs,ajn I n r r',ih t'];rfl
    rcases h1 with ⟨rfl,f⟩ | ⟨a,xs,ds,rfl,rfl,hs,hp⟩ | ⟨a,xs,ds,rfl,rfl,hs,hp⟩
    · cases m with
      | zero=>obtain ⟨rfl,_⟩:=h2;exact ad2 f
      | succ m=>
        rcases h2 with ⟨rfl,_⟩ | ⟨a,xs,ds,rfl,_⟩ | ⟨a,xs,ds,rfl,_⟩
        · exact ad2 f
        · exact (qx f).elim
        · exact (qx f).elim
    · cases m with
      | zero=>exact (qx h2.2).elim
      | succ m=>
        rcases h2 with ⟨_,f⟩ | ⟨a',ys,es,e1,rfl,hs',hp'⟩ | ⟨a',ys,es,e1,rfl,hs',hp'⟩
        · exact (qx f).elim
        · cases e1
          cases I.tuple_inj hs hs'
          exact both hp hp'
        · cases e1
          exact (I.notBoth hs hs').elim
    · cases m with
      | zero=>exact (qx h2.2).elim
      | succ m=>
        rcases h2 with ⟨_,f⟩ | ⟨a',ys,es,e1,rfl,hs',hp'⟩ | ⟨a',ys,es,e1,rfl,hs',hp'⟩
        · exact (qx f).elim
        · cases e1
          exact (I.notBoth hs' hs).elim
        · cases e1
          cases I.list_inj hs hs'
          exact both hp hp'
theorem qz {h:Heap} {a:Addr} {its:Array Value} (p:PlainL h a its):h.IsList a its:=let ⟨o,n,e,c,_,d⟩:=p;⟨o,e,c,n,d⟩
theorem adc {A:Around} {n m:Nat} {xs ys:List V} {ds es:List Da} {us vs:List Value} (px:Paired (jy X.K H n) xs ds) (py:Paired (jy X.K H m) ys es) (vx:Vals xs us) (vy:Vals ys vs)
    (ih:∀ {x y:V} {d e:Da} {u v:Value},jy X.K H n x d→jy X.K H m y e→RelV x u→RelV y v→SeqAt.EqAt A.in1 s u v (Da.eq d e)):
    ∀ j (h1:j<us.toArray.size) (h2:j<vs.toArray.size),SeqAt.EqAt A.in1 s us.toArray[j] vs.toArray[j] (Da.eq (ds.getD j (.s .non)) (es.getD j (.s .non))):=by
  intro j h1 h2
  have l1:=px.length;have l2:=py.length;have l3:=vx.length;have l4:=vy.length
  rw [List.size_toArray] at h1 h2
  have q1:xs[j]?=some xs[j]:=List.getElem?_eq_getElem (by omega)
  have q2:ys[j]?=some ys[j]:=List.getElem?_eq_getElem (by omega)
  have q3:ds[j]?=some ds[j]:=List.getElem?_eq_getElem (by omega)
  have q4:es[j]?=some es[j]:=List.getElem?_eq_getElem (by omega)
  have q5:us[j]?=some us[j]:=List.getElem?_eq_getElem (by omega)
  have q6:vs[j]?=some vs[j]:=List.getElem?_eq_getElem (by omega)
  rw [List.getD_eq_getElem?_getD,List.getD_eq_getElem?_getD,q3,q4]
  exact ih (Paired.at px q1 q3) (Paired.at py q2 q4) (Paired.at vx q1 q5) (Paired.at vy q2 q6)
theorem aj8 {A:Around} {n m:Nat} {a b:Addr} {xs ys:List V} {ds es:List Da} (I:Inv X pins σ H s) (hu:A.units<cLine) (sx:SqT X.K H a xs) (sy:SqT X.K H b ys) (px:Paired (jy X.K H n) xs ds) (py:Paired (jy X.K H m) ys es)
    (ih:∀ {x y:V} {d e:Da} {u v:Value},jy X.K H n x d→jy X.K H m y e→RelV x u→RelV y v→SeqAt.EqAt A.in1 s u v (Da.eq d e)):SeqAt.RcAt A s (.ref a) (.ref b) (Da.eqs ds es):=by
  obtain ⟨us,vx,tx,_⟩:=I.tuple sx
  obtain ⟨vs,vy,ty,_⟩:=I.tuple sy
  have q:=SeqAt.RcAt.tuples tx ty hu (adc px py vx vy ih)
  rw [List.size_toArray,List.size_toArray,← vx.length,← vy.length,px.length,py.length,Da.eqs_range] at q
  exact q
theorem amf {A:Around} {n m:Nat} {a b:Addr} {xs ys:List V} {ds es:List Da} (I:Inv X pins σ H s) (hu:A.units<cLine) (sx:SqL X.K H a xs) (sy:SqL X.K H b ys) (px:Paired (jy X.K H n) xs ds) (py:Paired (jy X.K H m) ys es)
    (ih:∀ {x y:V} {d e:Da} {u v:Value},jy X.K H n x d→jy X.K H m y e→RelV x u→RelV y v→SeqAt.EqAt A.in1 s u v (Da.eq d e)):SeqAt.RcAt A s (.ref a) (.ref b) (Da.eqs ds es):=by
  obtain ⟨us,vx,tx,_⟩:=I.list sx
  obtain ⟨vs,vy,ty,_⟩:=I.list sy
  by_cases hz:us.toArray.size=vs.toArray.size
  · have q:=SeqAt.RcAt.lists (qz tx) (qz ty) hz hu (adc px py vx vy ih)
    have hz':ds.length=es.length:=by rw [← px.length,← py.length,vx.length,vy.length];simpa using hz
    have e:=Da.eqs_range ds es
    rw [hz',Nat.min_self] at e
    rw [← hz'] at e
    rw [List.size_toArray,← vx.length,px.length] at q
    simp only [beq_self_eq_true,Bool.and_true] at e
    rw [e] at q
    exact q
  · have q:=SeqAt.RcAt.lists_lengths (qz tx) (qz ty) (by simpa using hz) hu
    have hz':ds.length≠es.length:=by
      rw [← px.length,← py.length,vx.length,vy.length]
      intro z;exact hz (by simpa using z)
    have e:=Da.eqs_range ds es
    have f:(ds.length==es.length)=false:=by simpa using hz'
    rw [f,Bool.and_false] at e
    rw [← e]
    exact q
theorem agq (I:Inv X pins σ H s):∀ (n:Nat) {m:Nat} {A:Around} {x y:V} {d e:Da} {u v:Value},A.units+n<cLine→jy X.K H n x d→jy X.K H m y e→RelV x u→RelV y v→SeqAt.EqAt A s u v (Da.eq d e):=by
  have flatRef:∀ {A:Around} {x:V} {u:Value} {b:Addr} {ys:List V},A.units<cLine→kz x=true→RelV x u→(SqT X.K H b ys∨SqL X.K H b ys)→SeqAt.EqAt A s u (.ref b) false∧SeqAt.EqAt A s (.ref b) u false:=by
    intro A x u b ys hu f r h
    have h':(∃ its,s.heap.IsTuple b its)∨∃ its,s.heap.IsList b its:=by
      rcases h with h | h
      · obtain ⟨its,_,t,_⟩:=I.tuple h;exact .inl ⟨_,t⟩
      · obtain ⟨its,_,t,_⟩:=I.list h;exact .inr ⟨_,qz t⟩
    cases x with
    | non=>cases r;rcases h' with ⟨_,t⟩ | ⟨_,t⟩;exact ⟨.none_tuple t hu,.tuple_none t hu⟩;exact ⟨.none_list t hu,.list_none t hu⟩
    | bl k=>cases r;rcases h' with ⟨_,t⟩ | ⟨_,t⟩;exact ⟨.bool_tuple k t hu,.tuple_bool k t hu⟩;exact ⟨.bool_list k t hu,.list_bool k t hu⟩
    | int k=>obtain ⟨tk,rfl⟩:=r;rcases h' with ⟨_,t⟩ | ⟨_,t⟩;exact ⟨.int_tuple k tk t hu,.tuple_int k tk t hu⟩;exact ⟨.int_list k tk t hu,.list_int k tk t hu⟩
    | str k=>obtain ⟨tk,rfl⟩:=r;rcases h' with ⟨_,t⟩ | ⟨_,t⟩;exact ⟨.str_tuple k tk t hu,.tuple_str k tk t hu⟩;exact ⟨.str_list k tk t hu,.list_str k tk t hu⟩
    | _=>simp [kz] at f
  intro n
  induction n with
  | zero=>
    intro m A x y d e u v hu h1 h2 rx ry
    obtain ⟨rfl,f⟩:=h1
    cases m with
    | zero=>obtain ⟨rfl,f'⟩:=h2;exact ago rx ry f f'
    | succ m=>
      rcases h2 with ⟨rfl,f'⟩ | ⟨b,ys,es,rfl,rfl,sy,py⟩ | ⟨b,ys,es,rfl,rfl,sy,py⟩
      · exact ago rx ry f f'
      · cases ry;exact (flatRef (by omega) f rx (.inl sy)).1
      · cases ry;exact (flatRef (by omega) f rx (.inr sy)).1
  | succ n ih=>
    intro m A x y d e u v hu h1 h2 rx ry
    have hin:A.in1.units+n<cLine:=by show A.units+1+n<cLine;omega
    rcases h1 with ⟨rfl,f⟩ | ⟨a,xs,ds,rfl,rfl,sx,px⟩ | ⟨a,xs,ds,rfl,rfl,sx,px⟩
    · cases m with
      | zero=>obtain ⟨rfl,f'⟩:=h2;exact ago rx ry f f'
      | succ m=>
        rcases h2 with ⟨rfl,f'⟩ | ⟨b,ys,es,rfl,rfl,sy,py⟩ | ⟨b,ys,es,rfl,rfl,sy,py⟩
        · exact ago rx ry f f'
        · cases ry;exact (flatRef (by omega) f rx (.inl sy)).1
        · cases ry;exact (flatRef (by omega) f rx (.inr sy)).1
    · cases rx
      cases m with
      | zero=>obtain ⟨rfl,f'⟩:=h2;exact (flatRef (by omega) f' ry (.inl sx)).2
      | succ m=>
        rcases h2 with ⟨rfl,f'⟩ | ⟨b,ys,es,rfl,rfl,sy,py⟩ | ⟨b,ys,es,rfl,rfl,sy,py⟩
        · exact (flatRef (by omega) f' ry (.inl sx)).2
        · cases ry
          by_cases hab:a=b
          · subst hab
            cases I.tuple_inj sx sy
            have e:Da.eq (.tup ds) (.tup es)=true:=ajn I (n+1) (m:=m+1) (x:=.ref a) (.inr (.inl ⟨a,xs,ds,rfl,rfl,sx,px⟩)) (.inr (.inl ⟨a,xs,es,rfl,rfl,sy,py⟩))
            rw [e];exact .same _
          · exact .of_refs hab (aj8 I (by omega) sx sy px py fun h1 h2 r1 r2=>ih hin h1 h2 r1 r2)
        · cases ry
          obtain ⟨us,vx,tx,_⟩:=I.tuple sx
          obtain ⟨vs,vy,ty,_⟩:=I.list sy
          exact .tuple_list tx (qz ty) (by omega)
    · cases rx
      cases m with
      | zero=>obtain ⟨rfl,f'⟩:=h2;exact (flatRef (by omega) f' ry (.inr sx)).2
      | succ m=>
        rcases h2 with ⟨rfl,f'⟩ | ⟨b,ys,es,rfl,rfl,sy,py⟩ | ⟨b,ys,es,rfl,rfl,sy,py⟩
        · exact (flatRef (by omega) f' ry (.inr sx)).2
        · cases ry
          obtain ⟨us,vx,tx,_⟩:=I.list sx
          obtain ⟨vs,vy,ty,_⟩:=I.tuple sy
          exact .list_tuple (qz tx) ty (by omega)
        · cases ry
          by_cases hab:a=b
          · subst hab
            cases I.list_inj sx sy
            have e:Da.eq (.lst ds) (.lst es)=true:=ajn I (n+1) (m:=m+1) (x:=.ref a) (.inr (.inr ⟨a,xs,ds,rfl,rfl,sx,px⟩)) (.inr (.inr ⟨a,xs,es,rfl,rfl,sy,py⟩))
            rw [e];exact .same _
          · exact .of_refs hab (amf I (by omega) sx sy px py fun h1 h2 r1 r2=>ih hin h1 h2 r1 r2)
end
def uEq (K:PySem.W.Frag) (k:Nat):R2:=fun x y H Q=>match x,y with
  | .ref a,.ref b=>∃ n m d e,n≤k∧jy K H n (.ref a) d∧jy K H m (.ref b) e∧Q (.bl (Da.eq d e)) H
  | x,y=>auq x y=true∧Q (.bl (decide (x=y))) H
theorem ays {k:Nat} (hu:X.A.units+k<cLine):OpR X (compareOp .Eq) (uEq X.K k):=by
  intro pins s σ H x y v u Q I rx ry h
  cases x with
  | ref a=>
    cases y with
    | ref b=>
      obtain ⟨n,m,d,e,hn,h1,h2,q⟩:=h
      cases rx;cases ry
      have fin:∀ {k:Bool},k=Da.eq d e→SeqAt.RcAt X.A s (.ref a) (.ref b) k→wpAny (model X.prog X.w) X.A (compareOp .Eq (.ref a) (.ref b)) (EP X pins σ Q) X.xe s:=fun {k} e' r=>
        r X.prog X.w X.xe (EP X pins σ Q) (by rw [e'];exact ⟨.bl _,H,I,rfl,q⟩)
      cases n with
      | zero=>exact (qx h1.2).elim
      | succ n=>
        cases m with
        | zero=>exact (qx h2.2).elim
        | succ m=>
          have hin:X.A.in1.units+n<cLine:=by show X.A.units+1+n<cLine;omega
          rcases h1 with ⟨_,f⟩ | ⟨a',xs,ds,e1,rfl,sx,px⟩ | ⟨a',xs,ds,e1,rfl,sx,px⟩
          · exact (qx f).elim
          · cases e1
            rcases h2 with ⟨_,f⟩ | ⟨b',ys,es,e2,rfl,sy,py⟩ | ⟨b',ys,es,e2,rfl,sy,py⟩
            · exact (qx f).elim
            · cases e2
              exact fin rfl (aj8 I (by omega) sx sy px py fun h1 h2 r1 r2=>agq I n hin h1 h2 r1 r2)
            · cases e2
              obtain ⟨us,vx,tx,_⟩:=I.tuple sx
              obtain ⟨vs,vy,ty,_⟩:=I.list sy
              exact fin rfl (.tuple_list tx (qz ty) (by omega))
          · cases e1
            rcases h2 with ⟨_,f⟩ | ⟨b',ys,es,e2,rfl,sy,py⟩ | ⟨b',ys,es,e2,rfl,sy,py⟩
            · exact (qx f).elim
            · cases e2
              obtain ⟨us,vx,tx,_⟩:=I.list sx
              obtain ⟨vs,vy,ty,_⟩:=I.tuple sy
              exact fin rfl (.list_tuple (qz tx) ty (by omega))
            · cases e2
              exact fin rfl (amf I (by omega) sx sy px py fun h1 h2 r1 r2=>agq I n hin h1 h2 r1 r2)
    | _=>exact ay6 pins s σ H _ _ v u Q I rx ry h
  | _=>cases y<;>exact ay6 pins s σ H _ _ v u Q I rx ry h
end
theorem axs {X:Cx} {x:Str} {c:Addr} {pos:Pos} (hg:Gl X x) (hm:X.mg x=some (.ref c)) (hd:(x==("__debug__" : Str))=false:=by decide):PE X (.Name x pos) (tC (.ref c)):=aul hg hm (v:=.ref c) rfl hd
theorem ayb {X:Cx} {x:Str} {T:String} {pos:Pos} (hg:Gl X x) (hm:X.mg x=none) (hv:bootBuiltins x=some (.type T)) (hn:x ≠ "__name__" := by decide) (hd:(x==("__debug__" : Str))=false:=by decide):PE X (.Name x pos) (tC (.ty T)):=avq hg hm hv (v:=.ty T) rfl hn hd
structure Cal (P:Program) (w:World) (K:PySem.W.Frag) (mg:Str→Option Value) (base:Heap) (k:Nat) (x:Str) (ps:List Str) (sp:Sp):Prop where
  ex:∃ f fd,FnOk P w K mg base CX0 k f fd ps sp∧Binds K fd ps []∧PySem.W.keepIn K (.ref f)=true∧mg x=some (.ref f)
theorem a4p {X:Cx} {k:Nat} {x:Str} {ps:List Str} {sp:Sp} {e:Expr} {es:List Expr} {t:TA} {p pos:Pos} (c:Cal X.prog X.w X.K X.mg X.base k x ps sp) (hr:Room k X.A) (hg:Gl X x) (ha:PA X (e::es) t) (hdb:(x==("__debug__" : Str))=false:=by decide)
    (he:starEach (e::es) X.env=(false,eval e X.env)::starEach es X.env:=by rfl) (hpl:(backTo pos (starEach es X.env)).any (·.1)=false:=by rfl):PE X (.Call (.Name x p) (e::es) [] pos) (axx sp [] E0 t):=by
  obtain ⟨f,fd,F,b,kp,m⟩:=c.ex
  exact awl F hr hg m kp b .nil arv ha hdb he hpl
theorem Cal.mono {P:Program} {w:World} {K:PySem.W.Frag} {mg:Str→Option Value} {base:Heap} {j k:Nat} {x:Str} {ps:List Str} {sp:Sp} (c:Cal P w K mg base j x ps sp) (h:j≤k):Cal P w K mg base k x ps sp:=by
  obtain ⟨f,fd,F,b,kp,m⟩:=c.ex
  exact ⟨f,fd,F.mono h,b,kp,m⟩
end L2
namespace L2
open PySem PySem.Spec PyProof.Rows
def ai3 (env:Env):List (Str×NameKind)→List (Str×Addr)→List (Str×Addr)
  | [],cs=>cs
  | (n,k)::r,cs=>ai3 env r (if k==.free then (n,(env.cells.lookup n).getD 0)::cs else cs)
def aca (scope:Scope) (env:Env):List (Str×Addr):=ai3 env scope.names []
theorem amt {env:Env}:∀ {names:List (Str×NameKind)} {cs:List (Str×Addr)} {p:Str×Addr},p∈ai3 env names cs→p∈cs∨((p.1,NameKind.free)∈names∧p.2=(env.cells.lookup p.1).getD 0)
  | [],_,_,h=>.inl h
  | (n,k)::r,cs,p,h=>by
    rcases amt (names:=r) h with q | ⟨q,e⟩
    · by_cases hk:(k==NameKind.free)=true
      · rw [if_pos hk] at q
        rcases List.mem_cons.mp q with rfl | q
        · have:k=.free:=by simpa using hk
          exact .inr ⟨by rw [this];exact List.mem_cons_self,rfl⟩
        · exact .inl q
      · rw [if_neg hk] at q;exact .inl q
    · exact .inr ⟨List.mem_cons_of_mem _ q,e⟩
theorem al3 {env:Env} {x:Str}:∀ {names:List (Str×NameKind)} {cs:List (Str×Addr)},((∃ c,(x,c)∈cs)∨(x,NameKind.free)∈names)→∃ c,(x,c)∈ai3 env names cs
  | [],_,.inl h=>h
  | [],_,.inr h=>by simp at h
  | (n,k)::r,cs,h=>by
    refine al3 (names:=r) ?_
    rcases h with ⟨c,h⟩ | h
    · left
      by_cases hk:(k==NameKind.free)=true
      · rw [if_pos hk];exact ⟨c,List.mem_cons_of_mem _ h⟩
      · rw [if_neg hk];exact ⟨c,h⟩
    · rcases List.mem_cons.mp h with e | h
      · left
        injection e with e1 e2
        subst e1;subst e2
        exact ⟨_,List.mem_cons_self⟩
      · exact .inr h
theorem acn {x:Str}:∀ {l:List (Str×Addr)} {c:Addr},(x,c)∈l→∃ c',l.lookup x=some c'
  | (n,d)::r,c,h=>by
    rw [List.lookup_cons]
    cases hx:x==n with
    | true=>exact ⟨d,rfl⟩
    | false=>
      rcases List.mem_cons.mp h with e | h
      · injection e with e1 _;subst e1;simp at hx
      · exact acn h
theorem afv {scope:Scope} {env:Env} (h:∀ n,(n,NameKind.free)∈scope.names→∃ c,env.cells.lookup n=some c):closureFor scope env=pure (aca scope env):=by
  unfold closureFor aca
  have key:∀ (names:List (Str×NameKind)) (cs:List (Str×Addr)),(∀ n,(n,NameKind.free)∈names→∃ c,env.cells.lookup n=some c)→
      (forIn names cs fun x (r:List (Str×Addr))=>(match x with | (name,kind)=>if kind==NameKind.free then do let a ← cellOf env name;pure (ForInStep.yield ((name,a)::r)) else pure (ForInStep.yield r):Sem (ForInStep (List (Str×Addr)))))=pure (ai3 env names cs):=by
    intro names
    induction names with
    | nil=>intro cs _;rfl
    | cons p r ih=>
      intro cs hf
      obtain ⟨n,k⟩:=p
      rw [List.forIn_cons]
      cases hk:k==NameKind.free with
      | true=>
        have hk':k=.free:=by simpa using hk
        subst hk'
        obtain ⟨c,hc⟩:=hf n List.mem_cons_self
        have e:cellOf env n=pure c:=by unfold cellOf;rw [hc]
        simp only [beq_self_eq_true,if_true,e]
        have e2:ai3 env ((n,NameKind.free)::r) cs=ai3 env r ((n,c)::cs):=by show ai3 env r _=_;rw [hc];rfl
        rw [e2]
        exact ih ((n,c)::cs) fun m hm=>hf m (List.mem_cons_of_mem _ hm)
      | false=>
        simp only [hk,Bool.false_eq_true,if_false]
        have e2:ai3 env ((n,k)::r) cs=ai3 env r cs:=by show ai3 env r (if (k==NameKind.free)=true then _ else _)=_;rw [hk];rfl
        rw [e2]
        exact ih cs fun m hm=>hf m (List.mem_cons_of_mem _ hm)
  exact (congrArg (· >>= pure) (key scope.names [] h))
theorem vj {env:Env} {x:Str}:∀ {names:List (Str×NameKind)},
    (names.map fun (n,k)=>if (k==NameKind.free&&env.scope.kind==.function&&env.kindOf n==some .cell) then (n,NameKind.cell) else (n,k)).lookup x
      = (names.lookup x).map fun k=>if (k==NameKind.free&&env.scope.kind==.function&&env.kindOf x==some .cell) then NameKind.cell else k
  | []=>rfl
  | (n,k)::r=>by
    have ih:=@vj env x r
    show List.lookup x ((if (k==NameKind.free&&env.scope.kind==.function&&env.kindOf n==some .cell)=true then (n,NameKind.cell) else (n,k))::_)=_
    cases hx:x==n with
    | true=>
      have hx':x=n:=by simpa using hx
      subst hx'
      by_cases hc:(k==NameKind.free&&env.scope.kind==.function&&env.kindOf x==some .cell)=true
      · rw [if_pos hc];simp only [List.lookup_cons,beq_self_eq_true,Option.map_some];rw [if_pos hc]
      · rw [if_neg hc];simp only [List.lookup_cons,beq_self_eq_true,Option.map_some];rw [if_neg hc]
    | false=>
      by_cases hc:(k==NameKind.free&&env.scope.kind==.function&&env.kindOf n==some .cell)=true
      · rw [if_pos hc];simp only [List.lookup_cons,hx];exact ih
      · rw [if_neg hc];simp only [List.lookup_cons,hx];exact ih
def Cx.comp (X:Cx) (scope:Scope) (T:List Str) (C:Addr) (fp:List Addr) (s₀:Shared) (H₀:Hp):Cx:=
  { X with N:=X.N++T,s₀:=s₀,H₀:=H₀,env:=compEnvC scope (aca scope X.env) C X.env,outer:=X.stack,ex:=fp,fn:=fun _=>false,xe:=fun _ _=>False }
structure CompScope (X:Cx) (scope:Scope):Prop where
  kind:scope.kind=.function
  nocell:∀ y∈scope.names,y.2≠.cell
  names:∀ y∈scope.names,y.2=.local→scope.names.lookup y.1=some .local
  free:∀ n,scope.names.lookup n=some .free→X.env.kindOf n=some .cell∨X.env.kindOf n=some .free
  freeM:∀ n,(n,NameKind.free)∈scope.names→X.env.kindOf n=some .cell∨X.env.kindOf n=some .free
  apart:∀ x∈X.N,scope.names.lookup x≠some .local
section
variable {X:Cx} {scope:Scope} {pins:List (Addr×Obj)} {σ:St} {H:Hp} {s:Shared}
theorem CompScope.clo (S:CompScope X scope) (I:Inv X pins σ H s):closureFor scope X.env=pure (aca scope X.env):=
  afv fun n h=>I.ok.has n (S.freeM n h)
theorem CompScope.cl_old (S:CompScope X scope) (I:Inv X pins σ H s) {x:Str} {c:Addr} (h:(aca scope X.env).lookup x=some c):X.env.cells.lookup x=some c:=by
  rcases amt (PySem.mem_of_lookup h) with q | ⟨q,e⟩
  · simp at q
  · obtain ⟨d,hd⟩:=I.ok.has x (S.freeM x q)
    have e':c=(X.env.cells.lookup x).getD 0:=e
    rw [hd] at e' ⊢
    rw [e'];rfl
theorem CompScope.cl_has (_:CompScope X scope) {x:Str} (h:scope.names.lookup x=some .free):∃ c,(aca scope X.env).lookup x=some c:=by
  obtain ⟨c,hc⟩:=al3 (env:=X.env) (names:=scope.names) (cs:=[]) (x:=x) (.inr (PySem.mem_of_lookup h))
  exact acn hc
theorem CompScope.kindOf (S:CompScope X scope) {C:Addr} {x:Str} (h:(compEnvC scope (aca scope X.env) C X.env).kindOf x=some .cell∨(compEnvC scope (aca scope X.env) C X.env).kindOf x=some .free):scope.names.lookup x=some .free:=by
  have e:(compEnvC scope (aca scope X.env) C X.env).kindOf x=(scope.names.lookup x).map fun k=>if (k==NameKind.free&&X.env.scope.kind==.function&&X.env.kindOf x==some .cell) then NameKind.cell else k:=vj
  rw [e] at h
  cases hl:scope.names.lookup x with
  | none=>rw [hl] at h;rcases h with h | h<;>cases h
  | some k=>
    rw [hl] at h
    cases k with
    | free=>rfl
    | cell=>exact absurd rfl (S.nocell _ (PySem.mem_of_lookup hl))
    | _=>rcases h with h | h<;>cases h
theorem CompScope.vis (S:CompScope X scope) {C:Addr} {x:Str} (hx:x∈X.N) (h:Vis (compEnvC scope (aca scope X.env) C X.env).scope x):scope.names.lookup x=some .free:=by
  rcases h with h | h | h
  · exfalso
    have e:(compEnvC scope (aca scope X.env) C X.env).kindOf x=(scope.names.lookup x).map fun k=>if (k==NameKind.free&&X.env.scope.kind==.function&&X.env.kindOf x==some .cell) then NameKind.cell else k:=vj
    have h':(compEnvC scope (aca scope X.env) C X.env).kindOf x=some .local:=h
    rw [e] at h'
    cases hl:scope.names.lookup x with
    | none=>rw [hl] at h';cases h'
    | some k=>
      rw [hl] at h'
      have h':(if (k==NameKind.free&&X.env.scope.kind==.function&&X.env.kindOf x==some .cell)=true then NameKind.cell else k)=.local:=Option.some.inj h'
      split at h'
      · cases h'
      · subst h'
        exact S.apart x hx hl
  · exact S.kindOf (C:=C) (.inl h)
  · exact S.kindOf (C:=C) (.inr h)
theorem CompScope.back (S:CompScope X scope) {C:Addr} {x:Str} (h:scope.names.lookup x=some .free):(compEnvC scope (aca scope X.env) C X.env).kindOf x=some .cell∨(compEnvC scope (aca scope X.env) C X.env).kindOf x=some .free:=by
  have e:(compEnvC scope (aca scope X.env) C X.env).kindOf x=(scope.names.lookup x).map fun k=>if (k==NameKind.free&&X.env.scope.kind==.function&&X.env.kindOf x==some .cell) then NameKind.cell else k:=vj
  rw [e,h]
  show some (if _ then _ else _)=_∨some (if _ then _ else _)=_
  split
  · exact .inl rfl
  · exact .inr rfl
end
def PF (X:Cx) (ifs:List Expr) (t:TT):Prop:=
  ∀ (pins:List (Addr×Obj)) (s:Shared) (σ:St) (H:Hp) (Q:Bool→Hp→Prop),Inv X pins σ H s→t σ H Q→
    wpAny (model X.prog X.w) X.A (forIn ifs true fun c r=>if r=true then do let ok ← isTrue c X.env (eval c X.env);pure (ForInStep.yield ok) else pure (ForInStep.yield r)) (TP X pins σ Q) X.xe s
def a48:TT:=fun _ H Q=>Q true H
theorem a0f {X:Cx}:PF X [] a48:=fun _ _ _ H _ I h=>wpAny_pure ⟨H,I,h⟩
theorem ayd {X:Cx} {c:Expr} {t:TT} (hc:PT X c t):PF X [c] t:=by
  intro pins s σ H Q I h
  rw [List.forIn_cons]
  simp only [if_true]
  refine wpAny_bind (wpAny_bind (thn (hc pins s σ H Q I h) fun b s1 q=>wpAny_pure ?_))
  exact wpAny_pure q
theorem acd {prog:Program} {w:World} {A:Around} {R:Result→Shared→Prop} {s:Shared} {elt target iter:Expr} {ifs:List Expr} {scope:Scope} {pos:Pos} {it acc:Value} {env:Env} (I:Nat→Shared→Prop)
    (turn:∀ n s,I n s→wpAny (model prog w) A (pyNext it) (fun r s₁=>match r with
      | none=>R (.ok .next) s₁
      | some v=>wpAny (model prog w) A (letOwnedTupleGo target it v) (fun _ s₁=>wpAny (model prog w) A (assign target env v) (fun _ s₂=>
          wpAny (model prog w) A (forIn ifs true fun c r=>if r=true then do let ok ← isTrue c env (eval c env);pure (ForInStep.yield ok) else pure (ForInStep.yield r)) (fun ok s₃=>
            if ok=true then wpAny (model prog w) A (eval elt env) (fun x s₄=>
              wpAny (model prog w) A (call (.builtin "list.append") [acc,x]) (fun _ s₅=>∃ m,m<n∧I m s₅) (fun _ _=>False) s₄) (fun _ _=>False) s₃
            else ∃ m,m<n∧I m s₃) (fun _ _=>False) s₂) (fun _ _=>False) s₁) (fun _ _=>False) s₁) (fun _ _=>False) s)
    (n:Nat) (h:I n s):
    codeAny (model prog w) A (.compLoop (.ListComp elt [⟨target,iter,ifs,0⟩] scope pos) 0 it acc env) R s:=by
  refine codeAny_loop rfl I (fun n s hI=>?_) n h
  show wpAny _ A ((compTurn (.ListComp elt [⟨target,iter,ifs,0⟩] scope pos) 0 it acc env).onRaise (fun x=>do noteFrame x env;theTreesLotGoes x)) _ _ s
  refine wpAny_noted ?_
  rw [compTurn_list]
  refine wpAny_bind (wpAny_standAt (wpAny_bind (wpAny_mono (turn n s hI) (fun r s₁ h₁=>?_) fun _ _ h'=>h'.elim)))
  cases r with
  | none=>exact wpAny_pure h₁
  | some v=>
    refine wpAny_bind (wpAny_mono h₁ (fun _ s₁ h₁=>?_) fun _ _ h'=>h'.elim)
    refine wpAny_bind (wpAny_mono h₁ (fun _ s₂ h₂=>wpAny_bind (wpAny_mono h₂ (fun ok s₃ h₃=>?_) fun _ _ h'=>h'.elim)) fun _ _ h'=>h'.elim)
    cases ok with
    | false=>exact wpAny_pure ⟨rfl,h₃⟩
    | true=>
      exact wpAny_bind (wpAny_bind (wpAny_mono h₃ (fun x s₄ h₄=>wpAny_bind (wpAny_mono h₄ (fun _ s₅ h₅=>wpAny_pure (wpAny_pure ⟨rfl,h₅⟩)) fun _ _ h'=>h'.elim)) fun _ _ h'=>h'.elim))
end L2
namespace L2
open PySem PySem.Spec PyProof.Rows
def tLC (n:Nat) (wi:TI) (g:TG) (tc:TT) (te:TE):TE:=fun σ H Q=>wi σ H fun J H1=>∃ W:Nat→Nat→List V→Hp→Prop,(∃ m,W 0 m [] H1)∧∀ i m ys H,W i m ys H→
  (J.stop i H∧ys.length≤sizeLine∧∀ D,H D=none→Q (.ref D) (upd H D (.lst ys)))∨
  (J.go i H∧ys.length<sizeLine∧∀ x H',J.yld i H x H'→g x (σ++List.replicate n none) H' fun σ2 H2=>tc σ2 H2 fun b H3=>
    if b=true then te σ2 H3 fun y H4=>∃ m',m'<m∧W (i+1) m' (ys++[y]) H4 else ∃ m',m'<m∧W (i+1) m' ys H3)
def aj7 (g:TG) (n k:Nat):Prop:=∀ (σ:St),σ.length=n→∀ x H Q,g x (σ++List.replicate k none) H Q→
  g x (σ++List.replicate k none) H fun σ2 H2=>((σ2.length=n+k∧∀ (i:Nat) v,(σ++List.replicate k none)[i]?=some (some v)→σ2[i]?=some (some v))∧Q σ2 H2)
section
variable {X:Cx} {scope:Scope} {T:List Str} {elt target iter:Expr} {ifs:List Expr} {wi:TI} {g:TG} {tc:TT} {te:TE}
theorem ltN {h:Heap} {b:Addr} {o:Obj} (e:h.get? b=some o):@LT.lt Nat instLTNat b h.objs.size:=Heap.lt_size e
theorem neN {a b:Addr} (h:@Ne Nat a b):a≠b:=h
theorem leN {a b:Addr} (h:@LE.le Nat instLENat a b):a≤b:=h
theorem asd (its:List Value) (n:Nat) (u:Value):∃ n',Obj.mapSeq (·.push u) { cls:=.type "list",data:=.seq its.toArray n }=({ cls:=.type "list",data:=.seq (its++[u]).toArray n' }:Obj):=
  ⟨_,by simp [Obj.mapSeq];rfl⟩
theorem ang {prog:Program} {w:World} {A:Around} {E:Value→Shared→Prop} {s:Shared} {D:Addr} {its:List Value} {n:Nat} {u:Value} {Q:Value→Shared→Prop} (hD:s.heap.get? D=some { cls:=.type "list",data:=.seq its.toArray n })
    (hz:its.length≤sizeLine) (h:∀ h' n',Heap.SameBut D s.heap h'→h'.get? D=some { cls:=.type "list",data:=.seq (its++[u]).toArray n' }→Q .none { s with heap:=h' }):
    wpAny (model prog w) A (call (.builtin "list.append") [.ref D,u]) Q E s:=by
  have hl:s.heap.IsList D its.toArray:=⟨_,hD,rfl,n,rfl⟩
  refine wpAny_call_entry slot_list_append hl.typeIs entry_list_append ?_ (args_list_append _ _)
  show wpAny _ _ (updateSeq D (·.push u) >>= fun _=>ret .none) _ _ s
  refine wpAny_bind ?_
  obtain ⟨n',e'⟩:=asd its n u
  refine wpAny_updateSeq (f:=(·.push u)) hD rfl (wpAny_pure ⟨.none,rfl,h _ n' (Heap.SameBut.update ..) ?_⟩) (by rw [List.size_toArray];exact hz) (by rw [Array.size_push,List.size_toArray];exact Nat.succ_le_succ hz)
  rw [← e']
  exact Heap.get?_update_self _ hD (by rw [e'];rfl)
theorem ahy {pins:List (Addr×Obj)} {σ:St} {Q:VK} {E:Value→Shared→Prop} {pos:Pos} {itv:Value} {s₂:Shared} {RR:Value→Addr→Result→Shared→Prop}
    (S:CompScope X scope) (hc:X.calm=true)
    (hg:∀ C fp s₀ H₀,PG (X.comp scope T C fp s₀ H₀) target g) (hgo:aj7 g X.N.length T.length) (hf:∀ C fp s₀ H₀,PF (X.comp scope T C fp s₀ H₀) ifs tc) (he:∀ C fp s₀ H₀,PE (X.comp scope T C fp s₀ H₀) elt te)
    (h:PIE X pins σ target (fun J H1=>∃ W:Nat→Nat→List V→Hp→Prop,(∃ m,W 0 m [] H1)∧∀ i m ys H,W i m ys H→
      (J.stop i H∧ys.length≤sizeLine∧∀ D,H D=none→Q (.ref D) (upd H D (.lst ys)))∨
      (J.go i H∧ys.length<sizeLine∧∀ x H',J.yld i H x H'→g x (σ++List.replicate T.length none) H' fun σ2 H2=>tc σ2 H2 fun b H3=>
        if b=true then te σ2 H3 fun y H4=>∃ m',m'<m∧W (i+1) m' (ys++[y]) H4 else ∃ m',m'<m∧W (i+1) m' ys H3)) itv s₂)
    (hRR:∀ D C s' H' m',Inv X pins σ H' s'→aid X pins H' C→s'.heap.Ns C m'→Q (.ref D) H'→RR (.ref D) C (.ok .next) s'):
    wpAny (model X.prog X.w) X.A (newList []) (fun acc s₃=>wpAny (model X.prog X.w) X.A (newFunctionEnv scope X.env.globals (aca scope X.env) [] X.env.qual none .none (some X.env)) (fun cenv s₄=>
      codeAny (model X.prog X.w) X.A (.compStart (.ListComp elt [⟨target,iter,ifs,0⟩] scope pos) 0 itv acc { cenv with scope:=relabel scope X.env }) (RR acc cenv.locals) s₄) E s₃) E s₂:=by
  obtain ⟨it,fp,tn,J,H2,rfl,I2,Tn,st2,f2,W,⟨m0,w0⟩,turn⟩:=h
  refine wpAny_newObj_type (wpAny_newFunctionEnv S.nocell (by intro y hy;simp at hy) (fun h₁ hns₁ hsb₁=>?_) S.kind)
  dsimp only at hns₁ hsb₁ ⊢
  generalize hH2:s₂.heap.push { cls:=.type "list",dict:=none,data:=.seq ([]:List Value).toArray }=G at hns₁ hsb₁ ⊢
  have hC:G.objs.size=s₂.heap.objs.size+1:=by rw [← hH2,Heap.size_push]
  obtain ⟨D,eD⟩:∃ D,s₂.heap.objs.size=D:=⟨_,rfl⟩
  obtain ⟨C,eC⟩:∃ C,G.objs.size=C:=⟨_,rfl⟩
  rw [eD] at hC ⊢
  rw [eC] at hC hns₁ hsb₁ ⊢
  have hDC:D≠C:=by omega
  have old:∀ b o,s₂.heap.get? b=some o→h₁.get? b=some o:=fun b o e=>by
    have hb:=ltN e
    exact hsb₁.extBut b o (neN (by omega)) (Heap.get?_push_of_some _ (hH2▸Heap.get?_push_of_some _ e))
  have hacc:h₁.get? D=some { cls:=.type "list",data:=.seq ([]:List Value).toArray 0 }:=by
    refine hsb₁.extBut _ _ hDC (Heap.get?_push_of_some _ ?_)
    rw [← hH2,← eD]
    exact Heap.get?_push_size _ rfl
  have fpo:∀ b∈fp,@LT.lt Nat instLTNat b s₂.heap.objs.size:=fun b hb=>by
    obtain ⟨o,e,_⟩:=Tn.obj _ _ st2 b hb
    exact ltN e
  have ilt:@LT.lt Nat instLTNat X.env.locals s₂.heap.objs.size:=I2.lt
  have isz:X.s₀.heap.objs.size≤s₂.heap.objs.size:=I2.sz
  have HD:H2 D=none:=I2.hok.fresh (leN (by omega))
  have HC:H2 C=none:=I2.hok.fresh (leN (by omega))
  have nfs:∀ b:Addr,@LE.le Nat instLENat s₂.heap.objs.size b→b∉frs X.stack:=fun b hb z=>by
    have q:=I2.stkSub b z
    rcases List.mem_cons.mp q with q | q
    · rw [← q] at ilt;exact absurd ilt (Nat.not_lt.mpr hb)
    · exact I2.nofs hb q
  have cellLt:∀ x c,X.env.cells.lookup x=some c→@LT.lt Nat instLTNat c s₂.heap.objs.size:=fun x c e=>by
    obtain ⟨v,q⟩:=I2.cell x c e
    exact q.lt
  let X':Cx:=X.comp scope T C fp s₂ H2
  have ok':X'.Ok:={
    mod:=I2.ok.mod,kind:=S.kind,glob:=I2.ok.glob,blt:=I2.ok.blt
    above:=leN (by show @LE.le Nat instLENat s₂.heap.objs.size C;omega)
    inj:=fun x y c h1 h2=>I2.ok.inj x y c (S.cl_old I2 h1) (S.cl_old I2 h2)
    has:=fun x hx=>S.cl_has (S.kindOf hx)
    cab:=fun x c hx=>absurd (show false=true from hx) (by simp)
    hd:=I2.ok.hd,frames:=I2.ok.frames,stk:=.inl rfl
    exf:=fun b hb=>⟨neN (by have:=fpo b hb;show @Ne Nat b C;omega),fun x c e=>(f2 b hb).2.2.2.2.1 x c (S.cl_old I2 e)⟩
    bs:=I2.bs,bsz:=Nat.le_trans I2.ok.bsz I2.sz
    noex:=fun b o e hb=>by
      obtain ⟨e0,n0⟩:=I2.ok.bs b o e
      rcases (f2 b hb).2.2.2.1 with q | q
      · exact I2.ok.noex b o e q
      · have q':@LE.le Nat instLENat X.s₀.heap.objs.size b:=q
        have:=ltN e0;omega
    exfs:=fun b hb z=>by
      rcases List.mem_cons.mp (I2.stkSub b z) with q | q
      · exact (f2 b hb).2.1 q
      · exact (f2 b hb).2.2.1 q
    funs:=I2.stack,frf:=I2.stkFree }
  have I4:∀ tk,0<tk→Inv X' pins (σ++List.replicate T.length none) H2 { s₂ with heap:=h₁,toks:=tk }:=fun tk htk=>{
    tk:=htk,ok:=ok',os:=rfl,bare:=I2.bare,base:=Un.kept old
    loc:=⟨_,hns₁,fun i x v e1 e2 e3=>by
      have hi:i<σ.length:=by
        by_cases hi:i<σ.length
        · exact hi
        · rw [List.getElem?_append_right (by omega),List.getElem?_replicate] at e2
          split at e2<;>cases e2
      rw [List.getElem?_append_left hi] at e2
      have hi':i<X.N.length:=by rw [← I2.len];exact hi
      have e1':X.N[i]?=some x:=by
        have:(X.N++T)[i]?=some x:=e1
        rw [List.getElem?_append_left hi'] at this;exact this
      have hfr:=S.vis (List.mem_of_getElem? e1') e3
      obtain ⟨m,hn,hl⟩:=I2.loc
      have hk:=S.free x hfr
      obtain ⟨u,r,l⟩:=hl i x v e1' e2 (.inr hk)
      refine ⟨u,r,.inr ⟨S.back hfr,?_⟩⟩
      rcases l with ⟨l,_⟩ | ⟨_,c,e,z⟩
      · rw [l] at hk;rcases hk with q | q<;>cases q
      · obtain ⟨c',e'⟩:=S.cl_has hfr
        have e'':=S.cl_old I2 e'
        rw [e] at e'';cases e''
        exact ⟨c,e',z.keeps old⟩⟩
    cell:=fun x c e=>by
      obtain ⟨v,z⟩:=I2.cell x c (S.cl_old I2 e)
      exact ⟨v,z.keeps old⟩
    free:=HC,freeC:=fun x c e=>I2.freeC x c (S.cl_old I2 e)
    pin:=fun p hp=>by
      obtain ⟨a,b,c,d,e⟩:=I2.pin p hp
      have hlt:=ltN a
      refine ⟨old _ _ a,b,neN (by show @Ne Nat p.1 C;omega),fun z=>?_,e⟩
      rcases List.mem_cons.mp (I2.stkSub _ z) with q | q
      · exact c q
      · exact d q
    hok:=I2.hok.kept old
    len:=by show (σ++_).length=(X.N++T).length;rw [List.length_append,List.length_append,List.length_replicate,I2.len] }
  have fpk:∀ (pins':List (Addr×Obj)) (H':Hp),(∀ p∈pins',p∈pins∨p.1=D)→(∀ b∈fp,H' b=none)→∀ b∈fp,aid X' pins' H' b:=fun pins' H' hp hn b hb=>by
    obtain ⟨_,q1,q2,q3,q4,q5⟩:=f2 b hb
    have hlt:=fpo b hb
    refine ⟨hn b hb,neN (by show @Ne Nat b C;omega),ok'.exfs b hb,.inl hb,(ok'.exf b hb).2,fun p hpp=>?_⟩
    rcases List.mem_append.mp hpp with z | z
    · exact q5 p (List.mem_append_left _ z)
    · rcases hp p z with z | z
      · exact q5 p (List.mem_append_right _ z)
      · rw [z];exact neN (by omega)
  have stay:Tn.keep=Tn.keep:=rfl
  have loop:∀ s₃:Shared,s₃={ s₂ with heap:=h₁,toks:=s₂.toks+([]:List (Str×Value)).length }→
      codeAny (model X.prog X.w) X.A (.compLoop (.ListComp elt [⟨target,iter,ifs,0⟩] scope pos) 0 (.ref it) (.ref D) X'.env) (RR (.ref D) C) s₃:=by
    rintro s₃ rfl
    refine acd (fun n s'=>∃ i σ' H' ys its k,Inv X' pins σ' H' s'∧(σ'.length=X.N.length+T.length∧∀ (i:Nat) v,(σ++List.replicate T.length none)[i]?=some (some v)→σ'[i]?=some (some v))∧
      s'.heap.get? D=some { cls:=.type "list",data:=.seq (its:List Value).toArray k }∧Vals ys its∧H' D=none∧tn i s'.heap∧(∀ b∈fp,H' b=none)∧W i n ys H') ?_ m0
      ⟨0,_,H2,[],[],0,I4 _ I2.tk,⟨by rw [List.length_append,List.length_replicate,I2.len],fun _ _ e=>e⟩,hacc,.nil,HD,Tn.keep _ _ _ st2 fun b _ o e=>old b o e,fun b hb=>(f2 b hb).1,w0⟩
    rintro n s3 ⟨i,σ3,H3,ys,its,k,I3,⟨hl3,hs3⟩,hD3,hv3,hH3,st3,fr3,w3⟩
    have hlen:its.length=ys.length:=hv3.length.symm
    have D_fs:D∉X'.fs:=nfs D (by omega)
    have DC':D≠X'.env.locals:=hDC
    have I3p:Inv X' (pins++[(D,{ cls:=.type "list",data:=.seq its.toArray k })]) (σ++List.replicate T.length none) H3 s3:=
      (I3.weak (by rw [hl3,List.length_append,List.length_replicate,I2.len]) hs3).pins_of fun p hp=>by
        rcases List.mem_append.mp hp with z | z
        · exact I3.pin p (List.mem_append_right _ z)
        · have e:=List.mem_singleton.mp z
          subst e
          exact ⟨hD3,hH3,DC',D_fs,fun v z=>by cases z⟩
    have pinsD:∀ p∈pins++[(D,({ cls:=.type "list",data:=.seq its.toArray k }:Obj))],p∈pins∨p.1=D:=fun p hp=>by
      rcases List.mem_append.mp hp with z | z
      · exact .inl z
      · exact .inr (by rw [List.mem_singleton.mp z])
    rcases turn i n ys H3 w3 with ⟨stop,hz,qn⟩ | ⟨go,hz,step⟩
    · refine thn (Tn.done X' rfl rfl rfl hc i _ s3 _ H3 _ I3p (fpk _ H3 pinsD fr3) st3 stop) fun r s4 ⟨hr,I4'⟩=>?_
      subst hr
      obtain ⟨hD4,hH4,_⟩:=I4'.pin (D,_) (List.mem_append_right _ (List.mem_append_right _ List.mem_cons_self))
      obtain ⟨m',hn',_⟩:=I4'.loc
      have un:Un (frs X.stack) fp H2 (upd H3 D (.lst ys)) s₂.heap s4.heap:={
        keep:=I4'.base.keep,slot:=I4'.base.slot
        free:=fun b o e n hx=>by
          have:=ltN e
          rw [qm (neN (by omega))]
          exact I4'.base.free b o e n hx
        there:=I4'.base.there
        tups:=fun b xs e=>by rw [qm (fun z=>by rw [z,HD] at e;cases e)];exact I4'.base.tups b xs e
        frzs:=fun b o u e=>by rw [qm (fun z=>by rw [z,HD] at e;cases e)];exact I4'.base.frzs b o u e
        tbls:=fun b ps e=>by rw [qm (fun z=>by rw [z,HD] at e;cases e)];exact I4'.base.tbls b ps e }
      have hok:HOk X.prog X.w (upd H3 D (.lst ys)) s4.heap:=fun b u e=>by
        by_cases hb:b=D
        · subst hb
          rw [zr] at e;cases e
          exact ⟨hz,its,k,hv3,hD4⟩
        · rw [qm hb] at e
          refine (I4'.hok b u e).stay (fun _ _ _ q=>q) (fun c q=>?_) fun c xs q=>?_
          · rw [qm (ze q hH3)];exact q
          · rw [qm (ze q hH3)];exact q
      have I5:Inv X pins σ (upd H3 D (.lst ys)) s4:=I2.call' (ch:=fp) I4'.os un hok I4'.bare fun b hb=>⟨(f2 b hb).2.2.2.1,(f2 b hb).2.1,(f2 b hb).2.2.2.2.1,(f2 b hb).2.2.2.2.2⟩
      refine hRR D C s4 _ m' I5 ?_ hn' (qn D hH3)
      refine ⟨by rw [qm (Ne.symm hDC)];exact I4'.free,?_,?_,.inr ?_,fun x c e=>?_,fun p hp=>?_⟩
      · exact neN (by omega)
      · exact I2.nofs (leN (by omega))
      · exact leN (by omega)
      · exact neN (by have:=cellLt x c e;omega)
      · exact neN (by have:=ltN (I2.pin p hp).1;omega)
    · refine thn (Tn.item X' rfl rfl rfl hc i _ s3 _ H3 _ I3p (fpk _ H3 pinsD fr3) st3 go) fun r s4 ⟨u,hr,h4⟩=>?_
      subst hr
      refine thn h4 fun _ s5 ⟨x,H5,I5,r5,y5,st5,fr5⟩=>?_
      have I5':=I5.pinned (fpk _ H5 pinsD fr5) (Tn.obj _ _ st5)
      refine wpAny_mono ((hg C fp s₂ H2) _ s5 _ H5 x u _ I5' r5 (hgo σ I2.len x H5 _ (step x H5 y5))) (fun _ s6 ⟨σ6,H6,I6,⟨hl6,hs6⟩,q6⟩=>?_) fun _ _ z=>z
      refine wpAny_mono ((hf C fp s₂ H2) _ s6 σ6 H6 _ I6 q6) (fun b s7 ⟨H7,I7,q7⟩=>?_) fun _ _ z=>z
      have fin:∀ {s8:Shared} {H8:Hp} (I8:Inv X' ((pins++[(D,{ cls:=.type "list",data:=.seq its.toArray k })])++ahd fp s5.heap) σ6 H8 s8),tn (i+1) s8.heap∧(∀ b∈fp,H8 b=none)∧s8.heap.get? D=some { cls:=.type "list",data:=.seq its.toArray k }∧H8 D=none∧Inv X' pins σ6 H8 s8:=fun {s8 H8} I8=>by
        refine ⟨Tn.keep _ _ _ st5 fun b hb o e=>(I8.pin (b,o) (List.mem_append_right _ (List.mem_append_right _ (aau hb e)))).1,fun b hb=>?_,?_,?_,I8.unpinned.unpinned⟩
        · obtain ⟨o,e,d⟩:=Tn.obj _ _ st5 b hb
          exact (I8.pin (b,o) (List.mem_append_right _ (List.mem_append_right _ (aau hb e)))).2.1
        · exact (I8.pin (D,_) (List.mem_append_right _ (List.mem_append_left _ (List.mem_append_right _ List.mem_cons_self)))).1
        · exact (I8.pin (D,_) (List.mem_append_right _ (List.mem_append_left _ (List.mem_append_right _ List.mem_cons_self)))).2.1
      cases b with
      | false=>
        rw [if_neg Bool.false_ne_true] at q7 ⊢
        obtain ⟨m',hm,w7⟩:=q7
        obtain ⟨a1,a2,a3,a4,a5⟩:=fin I7
        exact ⟨m',hm,i+1,σ6,H7,ys,its,k,a5,⟨hl6,hs6⟩,a3,hv3,a4,a1,a2,w7⟩
      | true=>
        rw [if_pos rfl] at q7 ⊢
        refine wpAny_mono ((he C fp s₂ H2) _ s7 σ6 H7 _ I7 q7) (fun v s8 ⟨y,H8,I8,r8,m',hm,w8⟩=>?_) fun _ _ z=>z
        obtain ⟨a1,a2,a3,a4,a5⟩:=fin I8
        refine ang a3 (by omega) fun h9 k9 hs9 hD9=>?_
        have nD:∀ b∈fp,b≠D:=fun b hb=>neN (by have:=fpo b hb;omega)
        refine ⟨m',hm,i+1,σ6,H8,ys++[y],its++[v],k9,?_,⟨hl6,hs6⟩,hD9,hv3.append (.cons r8 .nil),a4,Tn.keep _ _ _ a1 fun b hb o e=>(hs9.2 b (nD b hb)).trans e,a2,w8⟩
        exact a5.turned (t':=s8.toks) (it:=D) (fun b o hb e=>(hs9.2 b hb).trans e) a4 DC' (.inr (leN (by show @LE.le Nat instLENat s₂.heap.objs.size D;omega))) (fun x c e=>neN (by have:=cellLt x c (S.cl_old I2 e);omega)) fun p hp=>neN (by
          have:=ltN (I2.pin p hp).1;omega)
  exact codeAny_compStart_list (loop _ rfl) (Tn.self _ _ _ _ _ (Tn.keep _ _ _ st2 fun b _ o e=>old b o e) (loop _ rfl))
end
end L2
namespace L2
open PySem PySem.Spec PyProof.Rows
section
variable {X:Cx} {scope:Scope} {T:List Str} {elt target iter:Expr} {ifs:List Expr} {wi:TI} {g:TG} {tc:TT} {te:TE}
theorem a22 (T:List Str) {pos:Pos} (S:CompScope X scope) (hc:X.calm=true) (hi:PI X target iter wi) (hg:∀ C fp s₀ H₀,PG (X.comp scope T C fp s₀ H₀) target g) (hgo:aj7 g X.N.length T.length)
    (hf:∀ C fp s₀ H₀,PF (X.comp scope T C fp s₀ H₀) ifs tc) (he:∀ C fp s₀ H₀,PE (X.comp scope T C fp s₀ H₀) elt te)
    (hs:∀ x,foldedSetIterable iter X.env x=pure x:=by intro _;rfl):PE X (.ListComp elt [⟨target,iter,ifs,0⟩] scope pos) (tLC T.length wi g tc te):=by
  intro pins s σ H Q I h
  rw [eval_ListComp]
  refine wpAny_comprehension_free (use:=none) rfl hs (S.clo I) S.kind S.names (thn (hi pins s σ H _ I h) fun v s1 h1=>thn h1 fun itv s2 h2=>?_)
  refine ahy (RR:=fun acc C=>compPost (model X.prog X.w) X.A X.xe none (EP X pins σ Q) acc C) S hc hg hgo hf he h2 ?_
  intro D C s' H' m' I' f' hn q
  exact ⟨m',hn,fun h' hs'=>⟨.ref D,H',I'.turned (t':=s'.toks) (it:=C) (fun b o hb e=>(hs'.2 b hb).trans e) f'.1 (Ne.symm (Ne.symm f'.2.1)) f'.2.2.2.1 f'.2.2.2.2.1 f'.2.2.2.2.2,rfl,q⟩⟩
theorem aru (T:List Str) {i:Nat} {x:Str} {px lp pos:Pos} (hN:X.N.Nodup) (hix:X.N[i]?=some x) (hx:Loc X.env.scope x) (S:CompScope X scope) (hc:X.calm=true) (hi:PI X target iter wi)
    (hg:∀ C fp s₀ H₀,PG (X.comp scope T C fp s₀ H₀) target g) (hgo:aj7 g X.N.length T.length)
    (hf:∀ C fp s₀ H₀,PF (X.comp scope T C fp s₀ H₀) ifs tc) (he:∀ C fp s₀ H₀,PE (X.comp scope T C fp s₀ H₀) elt te)
    (hsw:swapsWith (.ListComp elt [⟨target,iter,ifs,0⟩] scope lp) (some (.Name x px)) pos.line X.env=pure true:=by rfl)
    (hfn:X.fn x=true∨X.env.scope.names.lookup x=some .local:=by first | exact .inl rfl | exact .inr rfl | assumption)
    (hs:∀ x,foldedSetIterable iter X.env x=pure x:=by intro _;rfl):PS X (.Assign [.Name x px] (.ListComp elt [⟨target,iter,ifs,0⟩] scope lp) pos) (az4 (tLC T.length wi g tc te) (abd i)):=by
  intro pins s σ H D I h
  rw [exec_Assign_Name_used _ _ _ _ hsw]
  refine wpAny_bind (wpAny_standAt (wpAny_bind ?_))
  show wpAny _ X.A (do let _ ← comprehension (.ListComp elt [⟨target,iter,ifs,0⟩] scope lp) scope X.env _ (newList []) false (eval iter X.env) (some (assign (.Name x px) X.env))) _ _ s
  refine wpAny_bind (wpAny_mono (wpAny_comprehension_free (use:=some (assign (.Name x px) X.env)) (Q:=fun _ s'=>SP X pins D .next s') rfl hs (S.clo I) S.kind S.names
    (thn (hi pins s σ H _ I h) fun v s1 h1=>thn h1 fun itv s2 h2=>?_)) (fun _ s' hq=>wpAny_pure (wpAny_pure hq)) fun _ _ e=>e)
  refine ahy (RR:=fun acc C=>compPost (model X.prog X.w) X.A X.xe (some (assign (.Name x px) X.env)) (fun _ s'=>SP X pins D .next s') acc C) (pins:=pins) (σ:=σ) (Q:=fun x H1=>abd i x σ H1 D.nx) S hc hg hgo hf he h2 ?_
  intro A C s' H' m' I' f' hn q
  show wpAny _ X.A (assign (.Name x px) X.env (.ref A)) _ _ s'
  refine wpAny_assign_Name (ais I' hN hix hx (v:=.ref A) rfl (fun s'' I'' ⟨a,hs,ha⟩ _=>?_) hfn)
  have hCa:C≠a:=by
    rcases ha with z | z
    · rw [z];exact f'.2.1
    · exact fun e=>f'.2.2.2.2.1 x a z e.symm
  exact ⟨m',hn.sameBut hs hCa,fun h' hs'=>⟨_,H',I''.turned (t':=s''.toks) (it:=C) (fun b o hb e=>(hs'.2 b hb).trans e) f'.1 f'.2.1 f'.2.2.2.1 f'.2.2.2.2.1 f'.2.2.2.2.2,q⟩⟩
end
def compOk (outer:Scope) (N:List Str) (sc:Scope):Bool:=
  decide (sc.kind=.function)&&sc.names.all (fun p=>decide (p.2≠.cell)&&(decide (p.2≠.local)||decide (sc.names.lookup p.1=some .local))&&(decide (p.2≠.free)||(decide (outer.names.lookup p.1=some .cell)||decide (outer.names.lookup p.1=some .free))))
    && N.all (fun x=>decide (sc.names.lookup x≠some .local))
theorem compOk.mk {X:Cx} {sc:Scope} (h:compOk X.env.scope X.N sc=true):CompScope X sc:=by
  unfold compOk at h
  rw [Bool.and_eq_true,Bool.and_eq_true,List.all_eq_true,List.all_eq_true] at h
  obtain ⟨⟨h1,h2⟩,h3⟩:=h
  have fm:∀ n,(n,NameKind.free)∈sc.names→X.env.kindOf n=some .cell∨X.env.kindOf n=some .free:=fun n hn=>by
    have q:=h2 _ hn
    simp only [Bool.and_eq_true,Bool.or_eq_true,decide_eq_true_eq] at q
    rcases q.2 with z | z
    · exact absurd rfl z
    · exact z
  refine ⟨of_decide_eq_true h1,fun y hy=>?_,fun y hy e=>?_,fun n hn=>fm n (PySem.mem_of_lookup hn),fm,fun x hx=>of_decide_eq_true (h3 x hx)⟩
  · have q:=h2 _ hy
    simp only [Bool.and_eq_true,Bool.or_eq_true,decide_eq_true_eq] at q
    exact q.1.1
  · have q:=h2 _ hy
    simp only [Bool.and_eq_true,Bool.or_eq_true,decide_eq_true_eq] at q
    rcases q.1.2 with z | z
    · exact absurd e z
    · exact z
theorem anq (n:Nat):aj7 (abd n) n 1:=by
  intro σ hl x H Q h
  refine ⟨⟨by simp [hl],fun i v e=>?_⟩,h⟩
  by_cases hi:i=n
  · subst hi
    rw [List.getElem?_append_right (by omega)] at e
    simp [hl] at e
  · rw [List.getElem?_set_ne (Ne.symm hi)];exact e
end L2
namespace L2
open PySem PySem.Spec PyProof.Rows
theorem acl:bootBuiltins "isinstance" = some (.builtin "isinstance"):=by decide +kernel
theorem asu:bootBuiltins "tuple" = some (.type "tuple"):=by decide +kernel
theorem aux:bootBuiltins "list" = some (.type "list"):=by decide +kernel
theorem v4:bootBuiltins "len" = some (.builtin "len"):=by decide +kernel
theorem huK {A:Around} {k:Nat} (hr:Room k A):A.units+128<cLine:=by have:=hr.un;omega
theorem afh {n:Nat} (h:n≤1000):n≤sizeLine:=Nat.le_of_lt (ac0 h)
theorem Cal.of {P:Program} {w:World} {K:PySem.W.Frag} {mg:Str→Option Value} {base:Heap} {k:Nat} {x:Str} {ps:List Str} {sp:Sp} {f:Addr} {fd:FuncData} (F:FnOk P w K mg base CX0 k f fd ps sp) (b:Binds K fd ps []) (kp:PySem.W.keepIn K (.ref f)=true) (m:mg x=some (.ref f)):
    Cal P w K mg base k x ps sp:=⟨f,fd,F,b,kp,m⟩
theorem FnOk.never {P:Program} {w:World} {K:PySem.W.Frag} {mg:Str→Option Value} {base:Heap} {k:Nat} {ps:List Str} {sp:Sp} {f:Addr} {fd:FuncData} (no:∀ vs H Q E,¬ sp vs H Q E):FnOk P w K mg base CX0 k f fd ps sp:=
  ⟨fun vs H Q E h=>absurd h (no vs H Q E),fun A outer s H args us vs Q E _ _ _ _ h=>absurd h (no vs H Q E)⟩
section
variable {X:Cx} (K:PySem.W.Frag) (P:Program) (w:World)
end
end L2
namespace L2
open PySem PySem.Spec PyProof.Rows
structure DefIn (K:PySem.W.Frag) (x:Str) (st:Stmt):Prop where
  ex:∃ (f:Addr) (kV doc pm:Value) (an:Option Addr) (cdv ct:Value),PySem.W.nsIn K mainGlobals x=some (some (.ref f))∧Fun K x x st f (PySem.W.fnOf x x (j5 st) (ql st) (q9 st) .none kV doc pm an cdv ct)
theorem def_in {K:PySem.W.Frag} {x:Str} {st:Stmt} {f:Addr} {oc:Value} {od an:Option Addr} {osl:Array (Option Value)} {kV doc pm cdv ct:Value} (a:PySem.W.nsIn K mainGlobals x=some (some (.ref f)))
    (l:K.lookup f=some ⟨oc,od,.func (PySem.W.fnOf x x (j5 st) (ql st) (q9 st) .none kV doc pm an cdv ct),osl⟩) (c:PySem.W.codeIn K cdv x=true) (k:PySem.W.keepIn K (.ref f)=true):DefIn K x st:=
  ⟨f,kV,doc,pm,an,cdv,ct,a,ar1 (st:=st) l c k⟩
theorem DefIn.use {K:PySem.W.Frag} {x:Str} {st:Stmt} {ps:List Str} {h:Heap} {mg:Str→Option Value} (D:DefIn K x st) (X:K.In h) (G:h.Ns mainGlobals mg)
    (hb:∀ (kV doc pm:Value) (an:Option Addr) (cdv ct:Value) (us:List Value),us.length=ps.length→bindArgs (PySem.W.fnOf x x (j5 st) (ql st) (q9 st) .none kV doc pm an cdv ct) ⟨us,[]⟩=pure (ps.zip us)):
    ∃ f fd,Fun K x x st f fd∧Binds K fd ps []∧mg x=some (.ref f):=by
  obtain ⟨f,kV,doc,pm,an,cdv,ct,a,F⟩:=D.ex
  exact ⟨f,_,F,Binds.all (hb kV doc pm an cdv ct),PySem.W.mg_of X G a⟩
def aom (w:World) (r:Str×Tok×Str×Tok):DictEntry:=⟨hashStr w r.1,.str r.1 r.2.1,.str r.2.2.1 r.2.2.2⟩
theorem a1o {K:PySem.W.Frag} {P:Program} {w:World} {c:Addr} {ep:Nat} (rows:List (Str×Tok×Str×Tok)) (l:K.lookup c=some ⟨.type "dict",none,.dict (rows.map (aom w)).toArray ep,#[]⟩) (hs:(c==sysModules)=false) (hz:rows.length≤1000) (nd:(rows.map fun r=>(Sum.inr r.1:Key)).Nodup):
    KD K P w c (rows.map fun r=>(Sum.inr r.1,.str r.2.2.1)):=by
  refine ⟨hs,by rw [List.length_map];exact afh hz,fun h X=>⟨rows.map fun r=>(Sum.inr r.1,.str r.2.2.1 r.2.2.2),?_,_,_,ep,X c _ l,⟨rfl,rfl,rfl⟩,rfl,?_,?_,?_⟩⟩
  · unfold KV
    clear l hz nd
    induction rows with
    | nil=>exact .nil
    | cons r t ih=>exact .cons ⟨rfl,_,rfl⟩ ih
  · intro e he
    have he':e∈rows.map (aom w):=by simpa using he
    obtain ⟨r,_,rfl⟩:=List.mem_map.mp he'
    exact ⟨Sum.inr r.1,aeu r.1 r.2.1,rfl⟩
  · show Pairs _ (rows.map (aom w)).toArray.toList _
    rw [List.toList_toArray]
    clear l hz nd
    induction rows with
    | nil=>exact .nil
    | cons r t ih=>exact .cons (aeu r.1 r.2.1) rfl ih
  · rw [List.map_map];exact nd
end L2
namespace Words
open PySem L2
inductive Wd where
  | leaf (t:Bool) (n:Str)
  | node (e:Bool) (l r:Wd)
def kL:Bool→Str
  | false => "plain"
  | true => "turned"
def kN:Bool→Str
  | false => "both"
  | true => "either"
def Wd.turn:Wd→Wd
  | .leaf t n=>.leaf (!t) n
  | .node e l r=>.node (!e) l.turn r.turn
def Wd.depth:Wd→Nat
  | .leaf _ _=>1
  | .node _ l r=>max l.depth r.depth+1
def Wd.leaves:Wd→Nat
  | .leaf _ _=>1
  | .node _ l r=>l.leaves+r.leaves
theorem Wd.leaves_pos:∀ w:Wd,1≤w.leaves
  | .leaf _ _=>Nat.le_refl _
  | .node _ l r=>by have:=Wd.leaves_pos l;show 1≤l.leaves+r.leaves;omega
theorem Wd.depth_le:∀ w:Wd,w.depth≤w.leaves
  | .leaf _ _=>Nat.le_refl _
  | .node _ l r=>by
    have:=Wd.depth_le l;have:=Wd.depth_le r;have:=Wd.leaves_pos l;have:=Wd.leaves_pos r
    show max l.depth r.depth+1≤l.leaves+r.leaves;omega
def enc:Wd→Da
  | .leaf t n=>.tup [.s (.str (kL t)),.s (.str n)]
  | .node e l r=>.tup [.s (.str (kN e)),enc l,enc r]
def a0y (x:Str):Prop:=1≤x.length∧x.length≤8∧∀ c∈x.cps.toList,97≤c∧c≤122
theorem Paired.getP {α β:Type} {F:α→β→Prop}:∀ {xs:List α} {ys:List β} {i:Nat} {x:α},Paired F xs ys→xs[i]?=some x→∃ y,ys[i]?=some y∧F x y
  | _,_,_,_,.nil,h=>by simp at h
  | _,_,0,_,.cons (b:=y) r _,h=>by simp at h;subst h;exact ⟨y,rfl,r⟩
  | _,_,i+1,_,.cons _ t,h=>by
    obtain ⟨y,e,q⟩:=Paired.getP (i:=i) t (by simpa using h)
    exact ⟨y,by simpa using e,q⟩
end Words
namespace L2
open PySem PySem.Spec PyProof.Rows
section
variable {X:Cx} {pins:List (Addr×Obj)} {σ:St} {H:Hp} {s:Shared}
theorem apw {A:Around} {n m:Nat} {a b:Addr} {xs ys:List V} {ds es:List Da} (I:Inv X pins σ H s) (hu:A.units<cLine) (sx:SqT X.K H a xs) (sy:SqT X.K H b ys) (px:Paired (jy X.K H n) xs ds) (py:Paired (jy X.K H m) ys es)
    (ih:∀ {x y:V} {d e:Da} {u v:Value},jy X.K H n x d→jy X.K H m y e→RelV x u→RelV y v→SeqAt.EqAt A.in1 s u v (Da.eq d e)):SeqAt.RcNeAt A s (.ref a) (.ref b) (!Da.eqs ds es):=by
  obtain ⟨us,vx,tx,_⟩:=I.tuple sx
  obtain ⟨vs,vy,ty,_⟩:=I.tuple sy
  have q:=SeqAt.RcNeAt.tuples tx ty hu (adc px py vx vy ih)
  rw [List.size_toArray,List.size_toArray,← vx.length,← vy.length,px.length,py.length,Da.eqs_range] at q
  exact q
theorem asl {A:Around} {n m:Nat} {a b:Addr} {xs ys:List V} {ds es:List Da} (I:Inv X pins σ H s) (hu:A.units<cLine) (sx:SqL X.K H a xs) (sy:SqL X.K H b ys) (px:Paired (jy X.K H n) xs ds) (py:Paired (jy X.K H m) ys es)
    (ih:∀ {x y:V} {d e:Da} {u v:Value},jy X.K H n x d→jy X.K H m y e→RelV x u→RelV y v→SeqAt.EqAt A.in1 s u v (Da.eq d e)):SeqAt.RcNeAt A s (.ref a) (.ref b) (!Da.eqs ds es):=by
  obtain ⟨us,vx,tx,_⟩:=I.list sx
  obtain ⟨vs,vy,ty,_⟩:=I.list sy
  by_cases hz:us.toArray.size=vs.toArray.size
  · have q:=SeqAt.RcNeAt.lists (qz tx) (qz ty) hz hu (adc px py vx vy ih)
    have hz':ds.length=es.length:=by rw [← px.length,← py.length,vx.length,vy.length];simpa using hz
    have e:=Da.eqs_range ds es
    rw [hz',Nat.min_self] at e
    rw [← hz'] at e
    rw [List.size_toArray,← vx.length,px.length] at q
    simp only [beq_self_eq_true,Bool.and_true] at e
    rw [e] at q
    exact q
  · have q:=SeqAt.RcNeAt.lists_lengths (qz tx) (qz ty) (by simpa using hz) hu
    have hz':ds.length≠es.length:=by
      rw [← px.length,← py.length,vx.length,vy.length]
      intro z;exact hz (by simpa using z)
    have e:=Da.eqs_range ds es
    have f:(ds.length==es.length)=false:=by simpa using hz'
    rw [f,Bool.and_false] at e
    rw [← e]
    exact q
end
section
variable {X:Cx}
def uNe (K:PySem.W.Frag) (k:Nat):R2:=fun x y H Q=>match x,y with
  | .ref a,.ref b=>∃ n m d e,n≤k∧jy K H n (.ref a) d∧jy K H m (.ref b) e∧Q (.bl (!Da.eq d e)) H
  | x,y=>auq x y=true∧Q (.bl (!decide (x=y))) H
theorem ayv {k:Nat} (hu:X.A.units+k<cLine):OpR X (compareOp .NotEq) (uNe X.K k):=by
  intro pins s σ H x y v u Q I rx ry h
  cases x with
  | ref a=>
    cases y with
    | ref b=>
      obtain ⟨n,m,d,e,hn,h1,h2,q⟩:=h
      cases rx;cases ry
      have fin:∀ {k:Bool},k=(!Da.eq d e)→SeqAt.RcNeAt X.A s (.ref a) (.ref b) k→wpAny (model X.prog X.w) X.A (compareOp .NotEq (.ref a) (.ref b)) (EP X pins σ Q) X.xe s:=fun {k} e' r=>
        r X.prog X.w X.xe (EP X pins σ Q) (by rw [e'];exact ⟨.bl _,H,I,rfl,q⟩)
      cases n with
      | zero=>exact (qx h1.2).elim
      | succ n=>
        cases m with
        | zero=>exact (qx h2.2).elim
        | succ m=>
          have hin:X.A.in1.units+n<cLine:=by show X.A.units+1+n<cLine;omega
          rcases h1 with ⟨_,f⟩ | ⟨a',xs,ds,e1,rfl,sx,px⟩ | ⟨a',xs,ds,e1,rfl,sx,px⟩
          · exact (qx f).elim
          · cases e1
            rcases h2 with ⟨_,f⟩ | ⟨b',ys,es,e2,rfl,sy,py⟩ | ⟨b',ys,es,e2,rfl,sy,py⟩
            · exact (qx f).elim
            · cases e2
              exact fin rfl (apw I (by omega) sx sy px py fun h1 h2 r1 r2=>agq I n hin h1 h2 r1 r2)
            · cases e2
              obtain ⟨us,vx,tx,_⟩:=I.tuple sx
              obtain ⟨vs,vy,ty,_⟩:=I.list sy
              exact fin rfl (.tuple_list tx (qz ty) (by omega))
          · cases e1
            rcases h2 with ⟨_,f⟩ | ⟨b',ys,es,e2,rfl,sy,py⟩ | ⟨b',ys,es,e2,rfl,sy,py⟩
            · exact (qx f).elim
            · cases e2
              obtain ⟨us,vx,tx,_⟩:=I.list sx
              obtain ⟨vs,vy,ty,_⟩:=I.tuple sy
              exact fin rfl (.list_tuple (qz tx) ty (by omega))
            · cases e2
              exact fin rfl (asl I (by omega) sx sy px py fun h1 h2 r1 r2=>agq I n hin h1 h2 r1 r2)
    | _=>exact axw pins s σ H _ _ v u Q I rx ry h
  | _=>cases y<;>exact axw pins s σ H _ _ v u Q I rx ry h
end
theorem azy:bootBuiltins "max" = some (.builtin "max"):=by decide +kernel
end L2
namespace Words
open PySem L2
def Wd.leafL:Wd→List Wd
  | .leaf t n=>[.leaf t n]
  | .node _ l r=>l.leafL++r.leafL
def Wd.size:Wd→Nat
  | .leaf _ _=>1
  | .node _ l r=>1+l.size+r.size
theorem Wd.size_pos:∀ w:Wd,1≤w.size
  | .leaf _ _=>Nat.le_refl _
  | .node _ l r=>by show 1≤1+l.size+r.size;omega
theorem Wd.size_eq:∀ w:Wd,w.size+1=2*w.leaves
  | .leaf _ _=>rfl
  | .node _ l r=>by
    have:=Wd.size_eq l;have:=Wd.size_eq r
    show 1+l.size+r.size+1=2*(l.leaves+r.leaves);omega
theorem Wd.leafL_len:∀ w:Wd,w.leafL.length=w.leaves
  | .leaf _ _=>rfl
  | .node _ l r=>by show (l.leafL++r.leafL).length=l.leaves+r.leaves;rw [List.length_append,Wd.leafL_len l,Wd.leafL_len r]
theorem Wd.leafL_leaf:∀ {w:Wd} {x:Wd},x∈w.leafL→∃ t n,x=.leaf t n
  | .leaf t n,x,h=>⟨t,n,List.mem_singleton.mp h⟩
  | .node _ l r,x,h=>by
    rcases List.mem_append.mp h with h | h
    · exact Wd.leafL_leaf h
    · exact Wd.leafL_leaf h
end Words
namespace L2
open PySem PySem.Spec PyProof.Rows
theorem ObjOk.get {P:Program} {w:World} {H:Hp} {h:Heap} {a:Addr} {o:HO} (x:ObjOk P w H h a o):∃ ob,h.get? a=some ob:=by
  cases o with
  | lst xs=>obtain ⟨_,_,_,_,e⟩:=x;exact ⟨_,e⟩
  | tup xs=>obtain ⟨_,_,_,_,e,_⟩:=x;exact ⟨_,e⟩
  | dK kvs=>obtain ⟨_,_,_,_,o,_,_,e,_⟩:=x;exact ⟨_,e⟩
  | dT kvs=>obtain ⟨_,_,_,_,o,_,_,e,_⟩:=x;exact ⟨_,e⟩
  | set S n=>obtain ⟨o,_,_,_,e,_⟩:=x;exact ⟨_,e⟩
  | ins C dx fs=>obtain ⟨_,_,_,e,_⟩:=x;exact ⟨_,e⟩
  | own y=>exact x
  | xd fs=>obtain ⟨_,⟨_,_,_,e,_⟩,_⟩:=x;exact ⟨_,e⟩
  | rng lo hi=>obtain ⟨_,_,_,e⟩:=x;exact ⟨_,e⟩
  | frz ob u=>obtain ⟨e,_⟩:=x;exact ⟨_,e⟩
  | tbl ps=>exact ⟨_,show h.get? a=some _ from x⟩
  | met f y=>exact ⟨_,show h.get? a=some _ from x⟩
  | ext φ=>obtain ⟨_,e,_⟩:=x;exact e
def akm (h0 h:Heap) (H:Hp) (a C:Addr) (tr:Option Addr):Prop:=
  h0.get? a=none∧H a=none∧∃ oe vs a0,h.get? a=some oe∧oe.cls=.ref C∧oe.data=.fields vs∧vs[0]?=some a0∧
    match tr with
    | none=>vs[1]?=some .none
    | some T=>vs[1]?=some (.ref T)∧h0.get? T=none∧H T=none∧T≠a∧∃ oT ts,h.get? T=some oT∧oT.data=.fields ts∧ts[3]?=some .none
def kr (a:Addr) (tr:Option Addr) (fs:List Addr):List Addr:=a::(tr.toList++fs)
section
variable {X:Cx} {pins:List (Addr×Obj)} {σ:St} {H:Hp} {s:Shared} {a C:Addr} {tr:Option Addr}
theorem ag7 {l:List Env} {env:Env} {b:Addr} (h:env∈l) (e:env.frame=some b):b∈frs l:=List.mem_filterMap.mpr ⟨env,h,e⟩
theorem age (I:Inv X pins σ H s) (hs:X.stack=X.env::X.outer) (hx:X.ex=[]) (new:X.s₀.heap.get? a=none) (free:H a=none) (newT:∀ T,tr=some T→X.s₀.heap.get? T=none∧H T=none) {a0 fl:Value} {h':Heap}
    (k1:(PySem.W.hideAll s.heap (kr a tr (frs X.stack))).StaysIn h') (k2:h'.FunFrames (PySem.W.hideAll s.heap (kr a tr (frs X.stack))) X.stack) (k3:h'.TracedAtW (PySem.W.hideAll s.heap (kr a tr (frs X.stack))) a (.ref C) a0 fl)
    (k4:∀ b o,s.heap.get? b=some o→(∀ vs,o.data≠.fields vs)→∃ sl,h'.get? b=some { o with slots:=sl }):
    Un X.fs [] X.H₀ H X.s₀.heap h'∧HOk X.prog X.w H h'∧∃ T,(∀ b o,s.heap.get? b=some o→(∀ T0,tr=some T0→b≠T0)→b≠T)∧X.s₀.heap.get? T=none∧H T=none∧T≠a∧∃ oe vs oT ts,h'.get? a=some oe∧oe.cls=.ref C∧vs[0]?=some a0∧oe.data=.fields vs∧vs[1]?=some (.ref T)∧h'.get? T=some oT∧oT.data=.fields ts∧ts[3]?=some fl:=by
  have kp:∀ b o,s.heap.get? b=some o→b∉kr a tr (frs X.stack)→h'.get? b=some o:=fun b o e n=>k1 b o (PySem.W.hideAll_get _ e n)
  have sl:∀ b o,s.heap.get? b=some o→b∈frs X.stack→∃ sl,h'.get? b=some { o with slots:=sl }:=fun b o e hb=>by
    obtain ⟨_,o',e',nf⟩:=I.stack.mem hb
    rw [e] at e';cases e'
    exact k4 b o e nf
  have hidN:∀ b,b∈kr a tr (frs X.stack)→H b=none:=fun b hb=>by
    rcases List.mem_cons.mp hb with e | hb
    · rw [e];exact free
    · rcases List.mem_append.mp hb with q | q
      · exact (newT b (by simpa using q)).2
      · exact I.stkFree b q
  have notHid:∀ b o,X.s₀.heap.get? b=some o→b∉X.fs→b∉kr a tr (frs X.stack):=fun b o e nb hb=>by
    rcases List.mem_cons.mp hb with q | hb
    · rw [q,new] at e;cases e
    · rcases List.mem_append.mp hb with q | q
      · rw [(newT b (by simpa using q)).1] at e;cases e
      · rcases List.mem_cons.mp (I.stkSub b q) with q | q
        · exact absurd (Nat.lt_of_lt_of_le (Heap.lt_size e) I.ok.above) (by rw [q];exact Nat.lt_irrefl _)
        · exact nb q
  have fsub:∀ b,b∈X.fs→b∈frs X.stack:=fun b hb=>by
    rw [hs]
    unfold frs
    rw [List.filterMap_cons]
    split
    · exact hb
    · exact List.mem_cons_of_mem _ hb
  have noex:∀ b:Addr,b∉X.ex:=fun b=>by rw [hx];simp
  have hokk:HOk X.prog X.w H h':=fun b u e=>(I.hok b u e).stay (fun c w' hc q=>kp c w' q fun hm=>by
      have n:=hidN c hm
      rcases hc with z | z
      · rw [z,e] at n;cases n
      · rw [z] at n;cases n) (fun _ q=>q) fun _ _ q=>q
  refine ⟨⟨fun b o e n hb _=>?_,fun b o e n hb _=>?_,fun b o e n _=>I.base.free b o e n (noex b),fun b o e _=>?_,I.base.tups,I.base.frzs,I.base.tbls⟩,hokk,?_⟩
  · exact kp b o (I.base.keep b o e n hb (noex b)) (notHid b o e hb)
  · obtain ⟨z,e1⟩:=I.base.slot b o e n hb (noex b)
    obtain ⟨z',e2⟩:=sl b _ e1 (fsub b hb)
    exact ⟨z',e2⟩
  · obtain ⟨o',e1⟩:=I.base.there b o e (noex b)
    by_cases hb:b∈X.fs
    · obtain ⟨z',e2⟩:=sl b _ e1 (fsub b hb)
      exact ⟨_,e2⟩
    · exact ⟨o',kp b o' e1 (notHid b o e hb)⟩
  · obtain ⟨oe',vs',T,oT,ts,he',⟨hc',h0'⟩,hd',h1',hnT,hTa,hT,hdT,h3⟩:=k3
    have inn:∀ o,s.heap.get? T=some o→T∈kr a tr (frs X.stack):=fun o e=>by
      by_cases q:T∈kr a tr (frs X.stack)
      · exact q
      · rw [PySem.W.hideAll_get _ e q] at hnT;cases hnT
    have nfr:T∉frs X.stack:=fun hb=>by
      obtain ⟨_,o',e',nf⟩:=k2.mem hb
      rw [hT] at e';cases e'
      exact nf ts hdT
    refine ⟨T,fun b o e ne z=>?_,?_,?_,hTa,oe',vs',oT,ts,he',hc',h0',hd',h1',hT,hdT,h3⟩
    · subst z
      rcases List.mem_cons.mp (inn o e) with z | z
      · exact hTa z
      · rcases List.mem_append.mp z with z | z
        · exact ne b (by simpa using z) rfl
        · exact nfr z
    · cases q:X.s₀.heap.get? T with
      | none=>rfl
      | some o=>
        obtain ⟨o',e1⟩:=I.base.there T o q (noex T)
        rcases List.mem_cons.mp (inn o' e1) with z | z
        · exact absurd z hTa
        · rcases List.mem_append.mp z with z | z
          · rw [(newT T (by simpa using z)).1] at q;cases q
          · exact absurd z nfr
    · cases q:H T with
      | none=>rfl
      | some u=>
        obtain ⟨o',e1⟩:=(I.hok T u q).get
        have:=hidN T (inn o' e1)
        rw [q] at this;cases this
theorem arx {M:Model} {Q:Unit→Shared→Prop} {E:Value→Shared→Prop} (I:Inv X pins σ H s) (hs:X.stack=X.env::X.outer) (hf:X.env.frame=some X.env.locals) (hx:X.ex=[]) (L:akm X.s₀.heap s.heap H a C tr)
    (h:∀ h' T,Un X.fs [] X.H₀ H X.s₀.heap h'→HOk X.prog X.w H h'→akm X.s₀.heap h' H a C (some T)→Q () { s with heap:=h' }):wpAny M X.A (leaving X.env (.ref a)) Q E s:=by
  have L0:=L
  obtain ⟨new,free,oe,vs,b0,he,hc,hd,h0,htr⟩:=L0
  have fr:s.heap.FunFrames (PySem.W.hideAll s.heap (kr a tr (frs X.stack))) X.stack:=PySem.W.funFrames_hide I.stack fun env he b hb=>List.mem_cons_of_mem _ (List.mem_append_right _ (ag7 he hb))
  have st:(PySem.W.hideAll s.heap (kr a tr (frs X.stack))).StaysIn s.heap:=fun b o e=>PySem.W.of_hideAll _ e
  have na:(PySem.W.hideAll s.heap (kr a tr (frs X.stack))).get? a=none:=PySem.W.hideAll_none _ List.mem_cons_self
  have hfr:X.A.frames=some (X.env::X.outer):=by rw [← hs];exact I.ok.frames
  have go:∀ h',Heap.LeftW (PySem.W.hideAll s.heap (kr a tr (frs X.stack))) (X.env::X.outer) a (.ref C) b0 s.heap h'→Q () { s with heap:=h' }:=fun h' ⟨k1,k2,k3,k4⟩=>by
    obtain ⟨u,hok,T,_,n1,n2,ne,oe',vs',oT,ts,e1,e2,e3,e4,e5,e6,e7,e8⟩:=age I hs hx new free (by intro T e;subst e;exact ⟨htr.2.1,htr.2.2.1⟩) k1 (by rw [hs];rw [hs] at k2;exact k2) k3.at k4
    exact h h' T u hok ⟨new,free,oe',vs',b0,e1,e2,e4,e3,e5,n1,n2,ne,oT,ts,e6,e7,e8⟩
  have nT:∀ T,tr=some T→(PySem.W.hideAll s.heap (kr a tr (frs X.stack))).get? T=none:=fun T e=>by subst e;exact PySem.W.hideAll_none _ (List.mem_cons_of_mem _ (List.mem_append_left _ (by simp)))
  generalize PySem.W.hideAll s.heap (kr a tr (frs X.stack))=base at fr st na go nT
  rw [hs] at fr
  cases tr with
  | none=>exact wpAny_leaving_firstW hfr fr hf he st na hd htr h0 (by rw [hc];exact go)
  | some T=>
    obtain ⟨h1,_,_,hTa,oT,ts,hT,hdT,h3⟩:=htr
    exact wpAny_leaving_nextW hfr fr hf ⟨oe,vs,T,oT,ts,he,⟨hc,h0⟩,hd,h1,nT T rfl,hTa,hT,hdT,h3⟩ st na go
end
end L2
namespace L2
open PySem PySem.Spec PyProof.Rows
def CXE (P:Program) (w:World):CXT:=fun outer H s E e s'=>∃ a C T H',e=.ref a∧s'.os=s.os∧AllBare s'.gens∧Un (frs outer) [] H H' s.heap s'.heap∧HOk P w H' s'.heap∧akm s.heap s'.heap H' a C (some T)∧E (.ref C) none H'∧0<s'.toks
def al4 (X:Cx) (a:Addr):Prop:=a≠X.env.locals∧(∀ x c,X.env.cells.lookup x=some c→c≠a)∧∀ p∈X.pn,p.1≠a
abbrev X1:=St→Value→Hp→Prop
def Takes (X:Cx) (E1:X1):Prop:=∀ (pins:List (Addr×Obj)) (σ:St) (H:Hp) (s:Shared) (a C:Addr) (tr:Option Addr),Inv X pins σ H s→akm X.s₀.heap s.heap H a C tr→al4 X a→(∀ T,tr=some T→al4 X T)→E1 σ (.ref C) H→X.xe (.ref a) s
section
variable {X:Cx} {pins:List (Addr×Obj)} {σ:St} {H H':Hp} {s s':Shared} {a b C T:Addr} {tr:Option Addr} {E1:X1}
theorem Inv.apart (I:Inv X pins σ H s) (h:s.heap.get? b=none):al4 X b:=by
  refine ⟨fun e=>?_,fun x c e z=>?_,fun p hp z=>?_⟩
  · obtain ⟨m,⟨o,_,_,ho,_⟩,_⟩:=I.loc
    rw [← e,h] at ho;cases ho
  · obtain ⟨v,o,ho,_⟩:=I.cell x c e
    rw [z,h] at ho;cases ho
  · obtain ⟨e,_⟩:=I.pin p (List.mem_append_left _ hp)
    rw [z,h] at e;cases e
theorem Inv.news (I:Inv X pins σ H s) (hx:X.ex=[]) (h:s.heap.get? b=none):X.s₀.heap.get? b=none:=by
  cases q:X.s₀.heap.get? b with
  | none=>rfl
  | some o=>
    obtain ⟨o',e⟩:=I.base.there b o q (by rw [hx];simp)
    rw [h] at e;cases e
theorem Takes.pass (t:Takes X E1) (hx:X.ex=[]) {e:Value} (I:Inv X pins σ H s) (h:CXE X.prog X.w X.stack H s (fun c _ H'=>E1 σ c H') e s'):X.xe e s':=by
  obtain ⟨a,C,T,H',rfl,ho,hg,u,hok,⟨new,free,oe,vs,a0,he,hc,hd,h0,h1,nT,fT,rest⟩,q,htk⟩:=h
  have I':Inv X pins σ H' s':=I.call' (ch:=[]) ho u hok hg (fun b z=>absurd z (by simp))
  exact t pins σ H' s' a C (some T) I' ⟨I.news hx new,free,oe,vs,a0,he,hc,hd,h0,h1,I.news hx nT,fT,rest⟩ (I.apart new) (fun T' e=>by cases e;exact I.apart nT) q
theorem auj {k:Nat} {f:Addr} {fd:FuncData} {ps:List Str} {sp:Sp} {Q:VK} {us:List Value} {vs:List V} (F:FnOk X.prog X.w X.K X.mg X.base (CXE X.prog X.w) k f fd ps sp) (hr:Room k X.A) (hb:Binds X.K fd ps []) (ht:Takes X E1) (hx:X.ex=[])
    (I:Inv X pins σ H s) (r:Vals vs us) (h:sp vs H Q (fun c _ H'=>E1 σ c H')):wpAny (model X.prog X.w) X.A (call (.ref f) us) (EP X pins σ Q) X.xe s:=by
  have hl:(us++[]).length=ps.length:=by rw [List.append_nil,← r.length];exact F.len _ _ _ _ h
  refine wpAny_call (codeAny_mono (F.run X.A X.stack s H ⟨us,[]⟩ us vs Q _ hr I.env0 (by have:=hb s us I.kIn hl;rw [List.append_nil] at this;exact this) r h) fun r s' hq=>?_)
  cases r with
  | error e=>exact ht.pass hx I hq
  | ok fl=>
    cases fl with
    | ret u=>exact I.after hq
    | next=>exact False.elim hq
    | brk=>exact False.elim hq
    | cont=>exact False.elim hq
end
def azu (sp:Sp) (E1:X1) (t:TA):TE:=fun σ H Q=>t σ H fun vs H1=>sp vs H1 Q fun c _ H'=>E1 σ c H'
section
variable {X:Cx} {k:Nat} {f C:Addr} {fd:FuncData} {ps:List Str} {sp:Sp} {E1:X1} {x:Str} {p pos:Pos} {e:Expr} {es:List Expr} {t:TA}
theorem am7 (F:FnOk X.prog X.w X.K X.mg X.base (CXE X.prog X.w) k f fd ps sp) (hr:Room k X.A) (hg:Gl X x) (hm:X.mg x=some (.ref f)) (hk:PySem.W.keepIn X.K (.ref f)=true) (hb:Binds X.K fd ps []) (ht:Takes X E1) (hx:X.ex=[])
    (ha:PA X (e::es) t) (hdb:(x==("__debug__" : Str))=false:=by decide) (he:starEach (e::es) X.env=(false,eval e X.env)::starEach es X.env:=by rfl) (hpl:(backTo pos (starEach es X.env)).any (·.1)=false:=by rfl):
    PE X (.Call (.Name x p) (e::es) [] pos) (azu sp E1 t):=by
  intro pins s σ H Q I h
  refine wpAny_Call_Name_kw (wu I hg hm ?_ hdb)
  refine PySem.W.callWith_K (h₀:=X.base) I.ok.mod.kin hk (thn (ha pos pins s σ H _ I h) fun us s1 ⟨vs,H1,I1,r,q⟩=>⟨I1.kIn,?_⟩) he hpl
  exact auj F hr hb ht hx I1 r q
end
theorem atf {P:Program} {w:World} {K:PySem.W.Frag} {mg:Str→Option Value} {base:Heap} {N:List Str} {qual:Str} {scope:Scope} {f:Addr} {cd:Value} {A:Around} {outer:List Env} {s:Shared} {H:Hp} {E:XK}:
    Takes (zx (CXE P w) P w K mg base N qual scope f cd A outer s H E) fun _ c H'=>E c none H':=by
  intro pins σ H' s' a C tr I L _ _ q
  refine arx (X:=zx (CXE P w) P w K mg base N qual scope f cd A outer s H E) I rfl rfl rfl L fun h' T u hok L'=>?_
  exact ⟨a,C,T,H',rfl,I.os,I.bare,u,hok,L',q,I.tk⟩
structure XCls (K:PySem.W.Frag) (C:Addr):Prop where
  ex:∃ (nm q:Str) (N:Addr) (bs bm:List Value) (hdct:Bool) (sn:List Str) (sub:List Value) (ab:Bool) (col:Option Bool) (dd:Option Addr) (k0 k1 k2 k3 k5:Option Value) (B Bn newId nid initId inN:String) (bmB bmN:List Value),
    ExcBaseFacts Bn newId inN bmN∧bmB.contains (.type Bn)=true∧ExcBaseFacts B nid initId bmB∧
    ∀ h,K.In h→h.get? C=some (excClassObj nm q C N bs bm hdct sn sub ab col dd k0 k1 k2 k3 k5 newId)∧(∃ mN,h.Ns N mN∧mN "__init__" = none)∧OwnTail h bmB bm
theorem awe {K:PySem.W.Frag} {C:Addr} {bmB bmN:List Value} {B Bn newId nid initId inN:String} (q:PySem.W.excIn K C bmB newId=true) (Fn:ExcBaseFacts Bn newId inN bmN) (hBn:bmB.contains (.type Bn)=true) (F:ExcBaseFacts B nid initId bmB):XCls K C:=by
  unfold PySem.W.excIn at q
  split at q
  · rename_i dd cd sl ho
    split at q
    · rename_i C' bm k0 k1 k2 k3 n k5 hm hs
      simp only [Bool.and_eq_true,beq_iff_eq,Bool.not_eq_true'] at q
      obtain ⟨⟨⟨⟨⟨rfl,rfl⟩,hdel⟩,ht⟩,hok⟩,hni⟩:=q
      obtain ⟨nm,bs,mro,ns,qn,hd,sn,sub,ab,col,del⟩:=cd
      dsimp only at hm hdel hok hni
      subst hm hdel
      have hsl:sl=#[k0,k1,k2,k3,some (.builtin n),k5]:=by
        obtain ⟨l⟩:=sl
        simp only at hs
        rw [hs]
      subst hsl
      exact ⟨nm,qn,ns,bs,bm,hd,sn,sub,ab,col,dd,k0,k1,k2,k3,k5,B,Bn,n,nid,initId,inN,bmB,bmN,Fn,hBn,F,fun h X=>⟨X _ _ ho,⟨_,.of_isNs (PySem.W.isNs_of_in X hok),PySem.W.nsMap_none_of_in X hok hni⟩,PySem.W.tail_of_in X ht⟩⟩
    · cases q
  · cases q
def azp (C:Addr) (E1:X1) (t:TA):TS:=fun _ σ H=>t σ H fun vs H1=>vs.length≤sizeLine∧E1 σ (.ref C) H1
theorem au5 {X:Cx} {C:Addr} {E1:X1} {x:Str} {np cpos pos:Pos} {e:Expr} {es:List Expr} {t:TA} (c:XCls X.K C) (hg:Gl X x) (hm:X.mg x=some (.ref C)) (hc:X.calm=true) (ht:Takes X E1) (hx:X.ex=[]) (ha:PA X (e::es) t) (hdb:(x==("__debug__" : Str))=false:=by decide)
    (he:starEach (e::es) X.env=(false,eval e X.env)::starEach es X.env:=by rfl) (hpl:(backTo cpos (starEach es X.env)).any (·.1)=false:=by rfl):
    PS X (.Raise (some (.Call (.Name x np) (e::es) [] cpos)) none pos) (azp C E1 t):=by
  intro pins s σ H D I h
  obtain ⟨nm,q,N,bs,bm,hdct,sn,sub,ab,col,dd,k0,k1,k2,k3,k5,B,Bn,newId,nid,initId,inN,bmB,bmN,Fn,hBn,F,all⟩:=c.ex
  obtain ⟨_,⟨mN,hn,hni⟩,ow⟩:=all X.base I.ok.mod.kin
  refine wpAny_Raise_call_subU (C:=C) (nm:=nm) (q:=q) (N:=N) (bs:=bs) (bm:=bm) (hdct:=hdct) (sn:=sn) (sub:=sub) (ab:=ab) (col:=col) (dd:=dd) (k0:=k0) (k1:=k1) (k2:=k2) (k3:=k3) (k5:=k5) Fn hBn F (mN:=mN) (ow.hasType F.hasBase) (I.ok.hd hc)
    (by rw [he];show (false||(backTo cpos (starEach es X.env)).any (·.1))=false;rw [hpl];rfl) hni (wu I hg hm ⟨rfl,?_⟩ hdb)
  rw [he]
  have ha':=ha cpos pins s σ H _ I h
  rw [he] at ha'
  refine Calls.evalArgs_plain (thn ha' fun us s2 ⟨vs,H1,I1,r,hl,q1⟩=>⟨rfl,by rw [← r.length];exact hl,(all _ I1.kIn).1,hn.keeps I1.bk,(all _ I1.kIn).2.2,fun h' a hm=>?_⟩)
  obtain ⟨t0,e1,_,_⟩:=hm.there
  have I2:Inv X pins σ H1 { s2 with heap:=h' }:=I1.kept (t':=s2.toks) hm.keeps
  have fr:H1 a=none:=by
    cases z:H1 a with
    | none=>rfl
    | some u=>
      obtain ⟨o,eo⟩:=(I1.hok a u z).get
      rw [hm.new] at eo;cases eo
  exact ht pins σ H1 _ a C none I2 ⟨I1.news hx hm.new,fr,_,_,.ref t0,e1,rfl,rfl,rfl,rfl⟩ (I1.apart hm.new) (fun T z=>nomatch z) q1
end L2
namespace L2
open PySem PySem.Spec PyProof.Rows
section
variable {X:Cx} {pins:List (Addr×Obj)} {σ:St} {H:Hp} {s:Shared} {a C T:Addr} {tr:Option Addr} {h':Heap}
theorem aec (I:Inv X pins σ H s) (hx:X.ex=[]) (hf:X.stack=X.env::X.outer) (un:Un X.fs [] X.H₀ H X.s₀.heap h') (hok:HOk X.prog X.w H h')
    (k1:(PySem.W.hideAll s.heap (kr a tr (frs X.stack))).StaysIn h') (k4:∀ b o,s.heap.get? b=some o→(∀ vs,o.data≠.fields vs)→∃ sl,h'.get? b=some { o with slots:=sl })
    (pa:∀ p∈X.pn++pins,p.1≠a∧∀ T,tr=some T→p.1≠T):Inv X pins σ H { s with heap:=h' }:=by
  have cl:∀ {c:Addr} {v:Option Value},s.heap.IsCell c v→h'.IsCell c v:=fun {c v} ⟨o,ho,hd⟩=>by
    obtain ⟨sl,e⟩:=k4 c o ho fun vs q=>by rw [hd] at q;cases q
    exact ⟨_,e,hd⟩
  obtain ⟨m,hn,hl⟩:=id I.loc
  have hn':h'.Ns X.env.locals m:=by
    obtain ⟨o,es,ep,ho,hd,r⟩:=hn
    obtain ⟨sl,e⟩:=k4 _ o ho fun vs q=>by rw [hd] at q;cases q
    exact ⟨_,es,ep,e,hd,r⟩
  refine ⟨I.ok,I.os,I.bare,by rw [hx];exact un,⟨m,hn',fun i x v e1 e2 e3=>?_⟩,fun x c e=>?_,I.free,I.freeC,fun p hp=>?_,hok,I.len,I.tk⟩
  · obtain ⟨u,ru,lk⟩:=hl i x v e1 e2 e3
    refine ⟨u,ru,?_⟩
    rcases lk with lk | ⟨k,c,e,z⟩
    · exact .inl lk
    · exact .inr ⟨k,c,e,cl z⟩
  · obtain ⟨v,z⟩:=I.cell x c e
    exact ⟨v,cl z⟩
  · obtain ⟨e,n,ne,nf,d⟩:=I.pin p hp
    refine ⟨k1 _ _ (PySem.W.hideAll_get _ e fun hm=>?_),n,ne,nf,d⟩
    rcases List.mem_cons.mp hm with z | z
    · exact (pa p hp).1 z
    · rcases List.mem_append.mp z with z | z
      · exact (pa p hp).2 p.1 (by simpa using z) rfl
      · rcases List.mem_cons.mp (I.stkSub _ z) with z | z
        · exact ne z
        · exact nf z
theorem avf {M:Model} {Q:Unit→Shared→Prop} {E:Value→Shared→Prop} (I:Inv X pins σ H s) (hs:X.stack=X.env::X.outer) (hf:X.env.frame=some X.env.locals) (hx:X.ex=[]) (L:akm X.s₀.heap s.heap H a C tr)
    (pa:∀ p∈X.pn++pins,p.1≠a∧∀ T,tr=some T→p.1≠T)
    (h:∀ h' T,Inv X pins σ H { s with heap:=h' }→akm X.s₀.heap h' H a C (some T)→(∀ p∈X.pn++pins,p.1≠T)→Q () { s with heap:=h' }):
    wpAny M X.A (noteFrame (.ref a) X.env) (fun _ s₂=>wpAny M X.A (setFlight (.ref a) none) Q E s₂) E s:=by
  obtain ⟨new,free,oe,vs,b0,he,hc,hd,h0,htr⟩:=id L
  have newT:∀ T,tr=some T→X.s₀.heap.get? T=none∧H T=none:=by intro T e;subst e;exact ⟨htr.2.1,htr.2.2.1⟩
  have fr:s.heap.FunFrames (PySem.W.hideAll s.heap (kr a tr (frs X.stack))) X.stack:=PySem.W.funFrames_hide I.stack fun env he b hb=>List.mem_cons_of_mem _ (List.mem_append_right _ (ag7 he hb))
  have st:(PySem.W.hideAll s.heap (kr a tr (frs X.stack))).StaysIn s.heap:=fun b o e=>PySem.W.of_hideAll _ e
  have na:(PySem.W.hideAll s.heap (kr a tr (frs X.stack))).get? a=none:=PySem.W.hideAll_none _ List.mem_cons_self
  have hfr:X.A.frames=some (X.env::X.outer):=by rw [← hs];exact I.ok.frames
  have nT:∀ T,tr=some T→(PySem.W.hideAll s.heap (kr a tr (frs X.stack))).get? T=none:=fun T e=>by subst e;exact PySem.W.hideAll_none _ (List.mem_cons_of_mem _ (List.mem_append_left _ (by simp)))
  have go:∀ h',Heap.NotedW (PySem.W.hideAll s.heap (kr a tr (frs X.stack))) (X.env::X.outer) a (.ref C) b0 (rawInt X.env.locals) s.heap h'→wpAny M X.A (setFlight (.ref a) none) Q E { s with heap:=h' }:=fun h' ⟨k1,k2,k3,k4⟩=>by
    rw [← hs] at k2
    obtain ⟨u,hok,T,apT,n1,n2,ne,oe',vs',oT,ts,e1,e2,e3,e4,e5,e6,e7,e8⟩:=age I hs hx new free newT k1 k2 k3 k4
    have I2:Inv X pins σ H { s with heap:=h' }:=aec I hx hs u hok k1 k4 pa
    have paT:∀ p∈X.pn++pins,p.1≠T:=fun p hp=>by
      obtain ⟨e,_⟩:=I.pin p hp
      exact apT p.1 _ e (pa p hp).2
    have fr2:h'.FunFrames (PySem.W.hideAll h' (kr a (some T) (frs X.stack))) X.stack:=PySem.W.funFrames_hide I2.stack fun env he b hb=>List.mem_cons_of_mem _ (List.mem_append_right _ (ag7 he hb))
    refine wpAny_setFlight_noneW (s:={ s with heap:=h' }) (base:=PySem.W.hideAll h' (kr a (some T) (frs X.stack))) (l:=X.stack) (e:=a) (cls:=.ref C) (a0:=b0) (fl:=rawInt X.env.locals) (fun b o e=>PySem.W.of_hideAll _ e) fr2
      ⟨oe',vs',T,oT,ts,e1,⟨e2,e3⟩,e4,e5,PySem.W.hideAll_none _ (List.mem_cons_of_mem _ (List.mem_append_left _ (by simp))),ne,e6,e7,e8⟩ fun h3 j1 j2 j3 j4=>?_
    have j4':∀ b o,h'.get? b=some o→(∀ vs,o.data≠.fields vs)→∃ sl,h3.get? b=some { o with slots:=sl }:=fun b o e q=>⟨o.slots,j4 b o e q⟩
    obtain ⟨u',hok',T',apT',n1',n2',ne',oe2,vs2,oT2,ts2,f1,f2,f3,f4,f5,f6,f7,f8⟩:=age (s:={ s with heap:=h' }) (tr:=some T) I2 hs hx new free (fun T0 e=>by cases e;exact ⟨n1,n2⟩) j1 j2 j3.at j4'
    have I3:Inv X pins σ H { s with heap:=h3 }:=aec (s:={ s with heap:=h' }) (h':=h3) (tr:=some T) I2 hx hs u' hok' j1 j4' fun p hp=>⟨(pa p hp).1,fun T0 e=>by cases e;exact paT p hp⟩
    refine h h3 T' I3 ⟨new,free,oe2,vs2,b0,f1,f2,f4,f3,f5,n1',n2',ne',oT2,ts2,f6,f7,f8⟩ fun p hp=>?_
    obtain ⟨e,_⟩:=I2.pin p hp
    exact apT' p.1 _ e fun T0 z=>by cases z;exact paT p hp
  generalize PySem.W.hideAll s.heap (kr a tr (frs X.stack))=base at fr st na go nT
  rw [hs] at fr
  cases tr with
  | none=>
    unfold noteFrame
    simp only [hf]
    refine wpAny_bind (wpAny_field he hd htr ?_)
    rw [if_neg (by decide)]
    exact wpAny_entryW hfr fr hf he st na hd (Array.getElem?_eq_some_iff.mp htr).1 h0 (by rw [hc];exact go)
  | some T=>
    obtain ⟨h1,_,_,hTa,oT,ts,hT,hdT,h3⟩:=htr
    exact wpAny_noteFrame_onW hfr fr hf ⟨oe,vs,T,oT,ts,he,⟨hc,h0⟩,hd,h1,nT T rfl,hTa,hT,hdT,h3⟩ st na go
end
end L2
namespace L2
open PySem PySem.Spec PyProof.Rows
abbrev Cx.tr (X:Cx) (pn:List (Addr×Obj)) (xe:Value→Shared→Prop):Cx:={ X with pn:=pn,xe:=xe }
abbrev Cx.hnd (X:Cx) (a:Addr):Cx:={ X with A:=X.A.mark (some (.ref a)),calm:=false,xe:=fun _ _=>False }
theorem Cx.Ok.tr {X:Cx} (ok:X.Ok) (pn:List (Addr×Obj)) (xe:Value→Shared→Prop):(X.tr pn xe).Ok:=
  ⟨ok.mod,ok.kind,ok.glob,ok.blt,ok.above,ok.inj,ok.has,ok.cab,ok.hd,ok.frames,ok.stk,ok.exf,ok.bs,ok.bsz,ok.noex,ok.exfs,ok.funs,ok.frf⟩
theorem Cx.Ok.untr {X:Cx} {pn:List (Addr×Obj)} {xe:Value→Shared→Prop} (ok:(X.tr pn xe).Ok):X.Ok:=
  ⟨ok.mod,ok.kind,ok.glob,ok.blt,ok.above,ok.inj,ok.has,ok.cab,ok.hd,ok.frames,ok.stk,ok.exf,ok.bs,ok.bsz,ok.noex,ok.exfs,ok.funs,ok.frf⟩
theorem Cx.Ok.hnd {X:Cx} (ok:X.Ok) (a:Addr):(X.hnd a).Ok:=
  ⟨ok.mod,ok.kind,ok.glob,ok.blt,ok.above,ok.inj,ok.has,ok.cab,(fun z=>nomatch z),ok.frames,ok.stk,ok.exf,ok.bs,ok.bsz,ok.noex,ok.exfs,ok.funs,ok.frf⟩
section
variable {X:Cx} {pins:List (Addr×Obj)} {σ:St} {H:Hp} {s:Shared} {a C T:Addr}
theorem Inv.tr (I:Inv X pins σ H s) (xe:Value→Shared→Prop):Inv (X.tr (X.pn++pins) xe) [] σ H s:=⟨I.ok.tr _ _,I.os,I.bare,I.base,I.loc,I.cell,I.free,I.freeC,(fun p hp=>I.pin p (by simpa using hp)),I.hok,I.len,I.tk⟩
theorem Inv.untr {pins':List (Addr×Obj)} {xe:Value→Shared→Prop} (I:Inv (X.tr (X.pn++pins) xe) pins' σ H s):Inv X pins σ H s:=⟨I.ok.untr,I.os,I.bare,I.base,I.loc,I.cell,I.free,I.freeC,(fun p hp=>I.pin p (List.mem_append_left _ hp)),I.hok,I.len,I.tk⟩
theorem Inv.hnd (I:Inv X pins σ H s) (a:Addr):Inv (X.hnd a) pins σ H s:=⟨I.ok.hnd a,I.os,I.bare,I.base,I.loc,I.cell,I.free,I.freeC,I.pin,I.hok,I.len,I.tk⟩
theorem Inv.unhnd (ok:X.Ok) (I:Inv (X.hnd a) pins σ H s):Inv X pins σ H s:=⟨ok,I.os,I.bare,I.base,I.loc,I.cell,I.free,I.freeC,I.pin,I.hok,I.len,I.tk⟩
theorem SP.untr {D:Ends} {xe:Value→Shared→Prop} {f:Flow} {s':Shared} (h:SP (X.tr (X.pn++pins) xe) [] D f s'):SP X pins D f s':=by
  cases f with
  | next=>obtain ⟨σ',H',J,q⟩:=h;exact ⟨σ',H',J.untr,q⟩
  | brk=>obtain ⟨σ',H',J,q⟩:=h;exact ⟨σ',H',J.untr,q⟩
  | cont=>obtain ⟨σ',H',J,q⟩:=h;exact ⟨σ',H',J.untr,q⟩
  | ret u=>obtain ⟨v,σ',H',J,r,q⟩:=h;exact ⟨v,σ',H',J.untr,r,q⟩
theorem ac5 {M:Model} {A:Around} {E:Value→Shared→Prop} {i:Nat} {n:Str} {pos:Pos} {Q:Unit→Shared→Prop} (I:Inv X pins σ H s) (hN:X.N.Nodup) (hi:X.N[i]?=some n) (hk:X.env.scope.names.lookup n=some .local)
    (h:∀ s',Inv X pins (σ.set i none) H s'→Q () s'):wpAny M A (do bindName X.env n .none;unbindBehindTheSuite X.env n pos) Q E s:=by
  obtain ⟨m,hn,hl⟩:=id I.loc
  have hcls:(X.env.scope.kind==.class||(X.env.scope.kind==.module&&X.env.locals != X.env.globals))=false:=by rw [I.ok.kind];rfl
  refine wpAny_nameGoes_keeps hk hn hcls fun h' v hn' hs=>h _ ?_
  obtain ⟨oL,_,_,hoL,_⟩:=id hn
  have neL:∀ b o,X.s₀.heap.get? b=some o→b≠X.env.locals:=fun b o e=>Nat.ne_of_lt (Nat.lt_of_lt_of_le (Heap.lt_size e) I.ok.above)
  refine ⟨I.ok,I.os,I.bare,⟨fun b o e n hb hx=>?_,fun b o e n hb hx=>?_,I.base.free,fun b o e hx=>?_,I.base.tups,I.base.frzs,I.base.tbls⟩,⟨_,hn',fun j y v' e1 e2 e3=>?_⟩,fun y c e=>?_,I.free,I.freeC,fun p hp=>?_,fun b ob e=>?_,by simpa using I.len,by first | exact I.tk | exact Nat.succ_pos _⟩
  · exact (hs.2 b (neL b o e)).trans (I.base.keep b o e n hb hx)
  · obtain ⟨sl,e1⟩:=I.base.slot b o e n hb hx
    exact ⟨sl,(hs.2 b (neL b o e)).trans e1⟩
  · obtain ⟨o',e1⟩:=I.base.there b o e hx
    exact ⟨o',(hs.2 b (neL b o e)).trans e1⟩
  · by_cases hj:j=i
    · subst hj
      have hjσ:j<σ.length:=by rw [I.len];exact (List.getElem?_eq_some_iff.mp hi).1
      rw [List.getElem?_set_self hjσ] at e2
      cases e2
    · rw [List.getElem?_set_ne (Ne.symm hj)] at e2
      obtain ⟨u',r',q⟩:=hl j y v' e1 e2 e3
      refine ⟨u',r',?_⟩
      rcases q with ⟨k,e⟩ | ⟨k,c,e,z⟩
      · refine .inl ⟨k,?_⟩
        have:y≠n:=fun e=>hj (ahq hN e1 (e▸hi))
        simp [this,e]
      · exact .inr ⟨k,c,e,z.sameBut hs (I.cne y c e)⟩
  · obtain ⟨w',z⟩:=I.cell y c e
    exact ⟨w',z.sameBut hs (I.cne y c e)⟩
  · obtain ⟨e,n,ne,nf,d⟩:=I.pin p hp
    exact ⟨(hs.2 p.1 ne).trans e,n,ne,nf,d⟩
  · refine (I.hok b ob e).stay (fun c w' hc q=>(hs.2 c ?_).trans q) (fun _ q=>q) fun _ _ q=>q
    rintro rfl
    rcases hc with z | z
    · rw [← z,I.free] at e;cases e
    · rw [I.free] at z;cases z
theorem au3 {oe:Obj} (I:Inv X pins σ H s) (hx:X.ex=[]) (new:X.s₀.heap.get? a=none) (free:H a=none) (he:s.heap.get? a=some oe) (ap:al4 X a) (pa:∀ p∈X.pn++pins,p.1≠a):Inv X pins σ (upd H a (.frz oe (.own 0))) s:=by
  refine ⟨I.ok,I.os,I.bare,⟨I.base.keep,I.base.slot,fun b o e n hb=>?_,I.base.there,fun b xs e=>?_,fun b o u e=>?_,fun b ps e=>?_⟩,I.loc,I.cell,?_,fun x c e=>?_,fun p hp=>?_,fun b u e=>?_,I.len,I.tk⟩
  · rw [qm (fun z=>by rw [z,new] at e;cases e)];exact I.base.free b o e n hb
  · have:=I.base.tups b xs e
    rw [qm (fun z=>by rw [z,free] at this;cases this)];exact this
  · have:=I.base.frzs b o u e
    rw [qm (fun z=>by rw [z,free] at this;cases this)];exact this
  · obtain ⟨more,this⟩:=I.base.tbls b ps e
    exact ⟨more,by rw [qm (fun z=>by rw [z,free] at this;cases this)];exact this⟩
  · rw [qm (Ne.symm ap.1)];exact I.free
  · rw [qm (ap.2.1 x c e)];exact I.freeC x c e
  · obtain ⟨e,n,ne,nf,d⟩:=I.pin p hp
    exact ⟨e,by rw [qm (pa p hp)];exact n,ne,nf,d⟩
  · by_cases z:b=a
    · subst z
      rw [zr] at e;cases e
      exact ⟨he,oe,he⟩
    · rw [qm z] at e
      exact (I.hok b u e).stay (fun _ _ _ q=>q) (fun c q=>by rw [qm (fun z=>by rw [z,free] at q;cases q)];exact q) fun c xs q=>by rw [qm (fun z=>by rw [z,free] at q;cases q)];exact q
theorem aqg {M:Model} {A:Around} {Q:Unit→Shared→Prop} {E:Value→Shared→Prop} (I:Inv X pins σ H s) (hs:X.stack=X.env::X.outer) (hx:X.ex=[]) (L:akm X.s₀.heap s.heap H a C (some T))
    (pa:∀ p∈X.pn++pins,p.1≠a∧p.1≠T) (h:∀ h' T',Inv X pins σ H { s with heap:=h' }→akm X.s₀.heap h' H a C (some T')→Q () { s with heap:=h' }):wpAny M A (setFlight (.ref a) none) Q E s:=by
  obtain ⟨new,free,oe,vs,b0,he,hc,hd,h0,h1,n1,n2,ne,oT,ts,hT,hdT,h3⟩:=L
  have fr2:s.heap.FunFrames (PySem.W.hideAll s.heap (kr a (some T) (frs X.stack))) X.stack:=PySem.W.funFrames_hide I.stack fun env he b hb=>List.mem_cons_of_mem _ (List.mem_append_right _ (ag7 he hb))
  refine wpAny_setFlight_noneW (base:=PySem.W.hideAll s.heap (kr a (some T) (frs X.stack))) (l:=X.stack) (e:=a) (cls:=.ref C) (a0:=b0) (fl:=.none) (fun b o e=>PySem.W.of_hideAll _ e) fr2
    ⟨oe,vs,T,oT,ts,he,⟨hc,h0⟩,hd,h1,PySem.W.hideAll_none _ (List.mem_cons_of_mem _ (List.mem_append_left _ (by simp))),ne,hT,hdT,h3⟩ fun h3 j1 j2 j3 j4=>?_
  have j4':∀ b o,s.heap.get? b=some o→(∀ vs,o.data≠.fields vs)→∃ sl,h3.get? b=some { o with slots:=sl }:=fun b o e q=>⟨o.slots,j4 b o e q⟩
  obtain ⟨u',hok',T',apT',n1',n2',ne',oe2,vs2,oT2,ts2,f1,f2,f3,f4,f5,f6,f7,f8⟩:=age (tr:=some T) I hs hx new free (fun T0 e=>by cases e;exact ⟨n1,n2⟩) j1 j2 j3.at j4'
  exact h h3 T' (aec (tr:=some T) I hx hs u' hok' j1 j4' fun p hp=>⟨(pa p hp).1,fun T0 e=>by cases e;exact (pa p hp).2⟩) ⟨new,free,oe2,vs2,b0,f1,f2,f4,f3,f5,n1',n2',ne',oT2,ts2,f6,f7,f8⟩
end
end L2
namespace L2
open PySem PySem.Spec PyProof.Rows
def Dh (i:Nat) (D:Ends):Ends where
  nx:=fun σ H=>D.nx (σ.set i none) H
  rt:=D.rt
  bk:=fun σ H=>D.bk (σ.set i none) H
  ct:=fun σ H=>D.ct (σ.set i none) H
def aw3 (K:PySem.W.Frag) (Dc:Addr) (i:Nat) (th:TS) (D:Ends):X1:=fun σ c H=>∃ C,c=.ref C∧PySem.W.exmOne K (.ref C) (.ref Dc)=some true∧∀ a oe,H a=none→oe.cls=.ref C→th (Dh i D) (σ.set i (some (.ref a))) (upd H a (.frz oe (.own 0)))
def a4j (K:PySem.W.Frag) (Dc:Addr) (i:Nat) (tb:X1→TS) (th:TS):TS:=fun D σ H=>tb (aw3 K Dc i th D) D σ H
theorem azo {X:Cx} {Dc:Addr} {i:Nat} {n x:Str} {np hpos pos:Pos} {body suite:List Stmt} {b₀:Stmt} {tb:X1→TS} {th:TS} (hs:X.stack=X.env::X.outer) (hf:X.env.frame=some X.env.locals) (hx:X.ex=[]) (hN:X.N.Nodup) (hi:X.N[i]?=some n)
    (hk:X.env.scope.names.lookup n=some .local) (hg:Gl X x) (hm:X.mg x=some (.ref Dc)) (hb:∀ (pn:List (Addr×Obj)) (xe:Value→Shared→Prop) (E1:X1),Takes (X.tr pn xe) E1→PSs (X.tr pn xe) body (tb E1)) (hh:∀ a,PSs (X.hnd a) (b₀::suite) th)
    (hdb:(x==("__debug__" : Str))=false:=by decide):PS X (.Try body [.ExceptHandler (some (.Name x np)) (some n) (b₀::suite) hpos] [] [] pos) (a4j X.K Dc i tb th):=by
  intro pins s σ H D I h
  have tk:Takes (X.tr (X.pn++pins) (fun e s'=>∃ pins' σ' H' a C tr,e=.ref a∧Inv X pins σ' H' s'∧akm X.s₀.heap s'.heap H' a C tr∧al4 (X.tr (X.pn++pins') X.xe) a∧(∀ p∈X.pn++pins,p.1≠a)∧(∀ T,tr=some T→∀ p∈X.pn++pins,p.1≠T)∧aw3 X.K Dc i th D σ' (.ref C) H'))
      (aw3 X.K Dc i th D):=fun pins' σ' H' s' a C tr I' L ap apT q=>⟨[],σ',H',a,C,tr,rfl,I'.untr,L,⟨ap.1,ap.2.1,fun p hp=>ap.2.2 p (by
        have hp:p∈X.pn++[]:=hp
        rw [List.append_nil] at hp
        exact List.mem_append_left _ hp)⟩,ap.2.2,fun T e=>(apT T e).2.2,q⟩
  refine wpAny_Try_except (wpAny_mono (hb _ _ _ tk [] s σ H D (I.tr _) h) (fun f s1 h1=>?_) fun e s1 h1=>?_)
  · have h2:=SP.untr h1
    cases f with
    | next=>exact wpAny_execs_nil h2
    | brk=>exact h2
    | cont=>exact h2
    | ret u=>exact h2
  · obtain ⟨pins',σ',H',a,C,tr,rfl,I1,L,ap,pa,paT,C',ec,em,q⟩:=h1
    cases ec
    refine avf I1 hs hf hx L (fun p hp=>⟨pa p hp,fun T e=>paT T e p hp⟩) fun h' T I2 L2 paT2=>?_
    refine wpAny_handleBy_cons (codeAny_handlers_test ?_) (by intro q;cases q)
    refine wu (X:=X.hnd a) (I2.hnd a) hg hm ?_ hdb
    obtain ⟨_,_,oe,vs,a0,he,hc,_⟩:=id L2
    have LT:PySem.W.Looks (model X.prog X.w) h' (typeOf (.ref a)) (.ref C):=hc▸(PySem.W.Looks.ld he).andThen .now
    refine PySem.W.exm_one (K:=X.K) I2.kIn LT em _ _ _ _ (fun _ _ e=>e) ?_
    refine codeAny_handlers_suite_as ?_
    refine aqg I2 hs hx L2 (fun p hp=>⟨pa p hp,paT2 p hp⟩) fun h3 T' I3 L3=>?_
    obtain ⟨new,free,oe3,vs3,a3,he3,hc3,_⟩:=L3
    have I4:=au3 I3 hx new free he3 ⟨ap.1,ap.2.1,fun p hp=>pa p (List.mem_append_left _ hp)⟩ pa
    refine agu (X:=X.hnd a) (I4.hnd a) hN hi (.inl hk) (v:=.ref a) (u:=.ref a) rfl (fun s5 I5=>?_) (.inr hk)
    refine wpAny_mono (hh a pins s5 _ _ (Dh i D) I5 (q a oe3 free hc3)) (fun f s6 h6=>?_) fun e s6 z=>z.elim
    cases f with
    | next=>obtain ⟨σ6,H6,J,q6⟩:=h6;exact ac5 (J.unhnd I.ok) hN hi hk fun s7 I7=>⟨_,H6,I7,q6⟩
    | brk=>obtain ⟨σ6,H6,J,q6⟩:=h6;exact ac5 (J.unhnd I.ok) hN hi hk fun s7 I7=>⟨_,H6,I7,q6⟩
    | cont=>obtain ⟨σ6,H6,J,q6⟩:=h6;exact ac5 (J.unhnd I.ok) hN hi hk fun s7 I7=>⟨_,H6,I7,q6⟩
    | ret u=>obtain ⟨v,σ6,H6,J,r,q6⟩:=h6;exact ac5 (J.unhnd I.ok) hN hi hk fun s7 I7=>⟨v,_,H6,I7,r,q6⟩
end L2
namespace L2
open PySem PySem.Spec PyProof.Rows PySem.W
structure XAt (K:Frag) (C:Addr):Prop where
  ga:findIn K (.ref C) "__getattribute__" = some (some (.builtin "BaseException.__getattribute__"))
  gt:findIn K (.ref C) "__getattr__" = some none
  cl:findIn K (.ref C) "__class__" = some (some (.builtin "object.__class__"))
  ge:specialIn K (.builtin "object.__class__") "__get__" = some (some (.builtin "getset_descriptor.__get__"))
  tk:takesIn K (.builtin "object.__class__")=some true
  mo:mroIn K C (.type "object")=some true
  be:subIn K (.ref C) (.type "BaseException")=some true
theorem avh (self:Value):bindSpecial (.builtin "BaseException.__getattribute__") self=pure (.builtin "BaseException.__getattribute__",[self]):=by
  have hop:withoutEnding? "BaseException.__getattribute__" "#opaque" = none:=by decide +kernel
  have hdat:withoutEnding? "BaseException.__getattribute__" "#data" = none:=by decide +kernel
  have hk:builtinKind "BaseException.__getattribute__" = some .slot:=by decide +kernel
  simp only [bindSpecial,typeOf,builtinType,hop,hdat,hk];rfl
def ExAt (h:Heap) (a C:Addr):Prop:=∃ o,h.get? a=some o∧o.cls=.ref C
theorem ExAt.type {M:Model} {h:Heap} {a C:Addr} (I:ExAt h a C):Looks M h (typeOf (.ref a)) (.ref C):=by
  obtain ⟨o,h1,h2⟩:=I
  exact h2▸(Looks.ld h1).andThen .now
open Builtin.ObjectAttr in
theorem auo {M:Model} {K:Frag} {h:Heap} {a C:Addr} (c:XAt K C) (X:K.In h):Looks M h (find (.ref a) (.ref C) "__class__") (.bind (.builtin "getset_descriptor.__get__") (.builtin "object.__class__")):=by
  have L1:=looks_findIn (M:=M) X c.cl
  have L2:=looks_specialIn (M:=M) X c.ge
  have L3:=looks_takesIn (M:=M) X c.tk
  refine L1.andThen (L2.andThen ?_)
  exact (show Looks M h (dataDescriptor? (some (.builtin "object.__class__")) (some (.builtin "getset_descriptor.__get__"))) (some (.builtin "getset_descriptor.__get__",.builtin "object.__class__")) from L3.andThen .now).andThen (Looks.tag .now)
section
variable {prog:Program} {w:World} {A:Around} {E:Value→Shared→Prop} {s:Shared} {K:Frag} {a C:Addr}
open Builtin Builtin.ObjectAttr Builtin.Getset_descriptor in
theorem ayl {R:Result→Shared→Prop} {tp:Value} (X:K.In s.heap) (I:ExAt s.heap a C) (hm:mroIn K C (.type "object")=some true)
    (h:R (.ok (.ret (.ref C))) s):codeAny (model prog w) A (.call (.builtin "getset_descriptor.__get__") ⟨[.builtin "object.__class__",.ref a,tp],[]⟩) R s:=by
  obtain ⟨hh,g,dr,t,os⟩:=s
  have L0:=I.type (M:=model prog w)
  have L1:=looks_mroIn (M:=model prog w) X hm
  refine codeAny_call_builtin KF.slot_gs.plain KF.entry_gs (KF.slot_gs.check _ _ _ _ _ _ _ _ KF.type_class (KF.args_gs _ _ _) ?_)
  unfold Builtin.«getset_descriptor.__get__» descrGet
  rw [dga_obj]
  refine wpAny_bind (wpAny_pure ?_)
  unfold descrGetter descrCheckInstance descrNameAndClass isInstance
  simp only [KF.owner_class]
  repeat lk
  refine ⟨Code.quiet_builtin _ (by decide +kernel),codeAny_builtin KF.entry_class ?_⟩
  unfold Builtin.«object.__class__» shownTypeOf
  repeat lk
  exact h
theorem arp {tk:Tok} {Q:Fin→Shared→Prop} (c:XAt K C) (X:K.In s.heap) (I:ExAt s.heap a C) (h:Q (.done (.ret (.ref C))) s):
    wpAny (model prog w) A (Builtin.«object.__getattribute__» ⟨[.ref a,.str "__class__" tk],[]⟩) Q E s:=by
  obtain ⟨hh,g,d,t,os⟩:=s
  have L0:=I.type (M:=model prog w)
  have L1:=auo (M:=model prog w) (a:=a) c X
  unfold Builtin.«object.__getattribute__»
  repeat (first | with_reducible refine wpAny_call ?_ | lk)
  refine ayl X I c.mo ?_
  repeat lk
  exact h
theorem arq {Q:Unit→Shared→Prop} {nameV:Value} (c:XAt K C) (X:K.In s.heap) (I:ExAt s.heap a C) (hq:Q () s):wpAny (model prog w) A (checkBuiltinCall "BaseException.__getattribute__" ⟨[.ref a,nameV],[]⟩) Q E s:=by
  obtain ⟨hh,g,d,t,os⟩:=s
  have L0:=I.type (M:=model prog w)
  have L1:=looks_subIn (M:=model prog w) X c.be
  have hk:builtinKind "BaseException.__getattribute__" = some .slot:=by decide +kernel
  have hsplit:splitId "BaseException.__getattribute__" = some ("BaseException", "__getattribute__"):=by decide +kernel
  have ha:=F.args_bexc_ga (.ref a) nameV
  simp only [checkBuiltinCall,hk,hsplit]
  refine wpAny_bind ?_
  unfold isInstance
  repeat lk
  exact hq
theorem a1y {tk:Tok} {Q:Value→Shared→Prop} (c:XAt K C) (X:K.In s.heap) (I:ExAt s.heap a C) (h:Q (.ref C) s):wpAny (model prog w) A (getAttrBy (.ref a) (.str "__class__" tk) false) Q E s:=by
  obtain ⟨hh,g,d,t,os⟩:=s
  have L0:=I.type (M:=model prog w)
  have L1:=looks_findIn (M:=model prog w) X c.ga
  have L2:=looks_findIn (M:=model prog w) X c.gt
  have f3:=avh (.ref a)
  unfold getAttrBy
  repeat (first | with_reducible refine wpAny_call ?_ | with_reducible refine wpAny_attempt ?_ | lk)
  refine codeAny_call_builtin (by decide +kernel) F.entry_bexc_ga (arq c X I (arp c X I ?_))
  exact handed_on rfl h
theorem aw0 {Q:Option Value→Shared→Prop} (c:XAt K C) (X:K.In s.heap) (I:ExAt s.heap a C) (h:Q (some (.ref C)) { s with toks:=s.toks+1 }):wpAny (model prog w) A (getAttr? (.ref a) "__class__") Q E s:=by
  unfold getAttr? getAttrBy?
  refine wpAny_bind (wpAny_mkText (wpAny_bind (wpAny_attempt (a1y (s:={ s with toks:=s.toks+1 }) c X I ?_))))
  exact wpAny_pure h
end
theorem amx {K:Frag} {a C:Addr} (c:XAt K C) (hcl:(clsIn K C).isSome=true):KitX K (.ref a) (.ref C) (fun h=>ExAt h a C) where
  ty:=fun _ _ _ I=>I.type
  it:=fun _ _ X _=>by
    unfold clsIn at hcl
    split at hcl
    · rename_i c' d' cd' sl' ho
      intro A' Q' E' s' k q
      unfold isType loadHead
      exact wpAny_bind (wpAny_loadPart (k _ _ (X _ _ ho)) (wpAny_pure q))
    · cases hcl
  ne:=fun h tp dd its n sl X htp=>by
    refine Bool.eq_false_iff.mpr fun q=>?_
    have e:C=tp:=Value.ref.inj (beq_iff_eq.mp q)
    subst e
    unfold clsIn at hcl
    split at hcl
    · rename_i c' d' cd' sl' ho
      have z:=(X _ _ ho).symm.trans htp
      cases z
    · cases hcl
  ca:=fun X I k=>aw0 c X I k
end L2
namespace L2
open PySem PySem.Spec PyProof.Rows
def atb:V→Option Value
  | .ref D=>some (.ref D)
  | .ty T=>some (.type T)
  | _=>none
theorem alb {v:V} {u c:Value} (h:atb v=some c) (r:RelV v u):u=c:=by
  cases v with
  | ref D=>cases h;exact r
  | ty T=>cases h;exact r
  | _=>cases h
theorem als:∀ {vs:List V} {us cs:List Value},vs.map atb=cs.map some→Vals vs us→us=cs
  | [],_,[],_,.nil=>rfl
  | [],_,_::_,h,_=>by cases h
  | _::_,_,[],h,_=>by cases h
  | v::vs,_,c::cs,h,.cons r t=>by
    rw [List.map_cons,List.map_cons] at h
    obtain ⟨h1,h2⟩:=List.cons.inj h
    rw [alb h1 r,als h2 t]
structure XHd (K:PySem.W.Frag) (C:Addr):Prop where
  at_:XAt K C
  cls:(PySem.W.clsIn K C).isSome=true
def axu (K:PySem.W.Frag) (H:Hp) (a C:Addr):Prop:=∃ oe,H a=some (.frz oe (.own 0))∧oe.cls=.ref C
def a0p (K:PySem.W.Frag):List V→Hp→VK→Prop:=fun xs H Q=>∃ a C v,xs=[.ref a,v]∧axu K H a C∧XHd K C∧
  ((∃ u b,atb v=some u∧PySem.W.kitOne K (.ref C) u=some b∧Q (.bl b) H)∨(∃ tp ws us b,v=.ref tp∧SqT K H tp ws∧ws.map atb=us.map some∧PySem.W.kitAny K (.ref C) us=some b∧Q (.bl b) H))
theorem an3 {X:Cx}:CallR X (.builtin "isinstance") (a0p X.K):=by
  intro pins s σ H xs us Q I r h
  obtain ⟨a,C,v,rfl,⟨oe,ha,hc⟩,hd,h⟩:=h
  obtain ⟨u1,u2,rfl,r1,r2⟩:=Vals.two r
  cases (show u1=Value.ref a from r1)
  obtain ⟨he,_⟩:=(show ObjOk X.prog X.w H s.heap a (.frz oe (.own 0)) from I.hok a _ ha)
  have ex:ExAt s.heap a C:=⟨oe,he,hc⟩
  rcases h with ⟨c,b,e,k,q⟩ | ⟨tp,ws,cs,b,rfl,ht,e,k,q⟩
  · cases alb e r2
    exact j9 I.tk (PySem.W.kia_one (amx hd.at_ hd.cls) I.kIn ex k (fun z=>nomatch z) fun tk ht=>⟨.bl b,H,I.tok _,rfl,q⟩)
  · cases (show u2=Value.ref tp from r2)
    obtain ⟨its,rv,⟨o,h1,h2,n,h3⟩,_⟩:=I.tuple ht
    cases als e rv
    obtain ⟨oc,od,odt,osl⟩:=o
    dsimp only at h2 h3
    subst h2 h3
    exact j9 I.tk (PySem.W.kia_tup (amx hd.at_ hd.cls) I.kIn ex h1 k (fun z=>nomatch z) fun tk ht=>⟨.bl b,H,I.tok _,rfl,q⟩)
end L2
namespace L2
open PySem PySem.Spec PyProof.Rows
def TabR (H:Hp) (P:Addr) (q:Str):Prop:=∃ ps,H P=some (.tbl ps)∧TriplesOk ps.toList∧∀ pos cv,codeAmong pos ps.toList=some cv→∃ c' oc vs t,cv=.ref c'∧H c'=some (.frz oc (.own 0))∧oc.data=.fields vs∧vs[1]?=some (.str q t)
theorem TabR.keep {H H':Hp} {P:Addr} {q:Str} (h:TabR H P q) (e:H' P=H P) (t:∀ b o u,H b=some (.frz o u)→H' b=some (.frz o u)):TabR H' P q:=by
  obtain ⟨ps,h1,h2,h3⟩:=h
  refine ⟨ps,e.trans h1,h2,fun pos cv z=>?_⟩
  obtain ⟨c',oc,vs,tt,e1,e2,e3⟩:=h3 pos cv z
  exact ⟨c',oc,vs,tt,e1,t _ _ _ e2,e3⟩
end L2
namespace L3
open PySem L2
inductive Y where
  | non | bl (b:Bool) | int (i:Int) | str (x:Str) | ref (a:Addr) | ty (n:String) | cd (kvs:List (Str×Str)) | tup (ys:List Y) | sq (ys:List Y)
inductive LO where
  | lst (ys:List Y) | dct (kvs:List (Key×Y)) | ins (C:Addr) (fs:List (Str×Y)) | exc (C:Addr) | tb (q:Str)
abbrev LHp:=Addr→Option LO
def qe (L:LHp) (a:Addr) (o:LO):LHp:=fun b=>if b=a then some o else L b
theorem q8 {L:LHp} {a:Addr} {o:LO}:qe L a o a=some o:=by unfold qe;rw [if_pos rfl]
theorem qd {L:LHp} {a b:Addr} {o:LO} (h:b≠a):qe L a o b=L b:=by unfold qe;rw [if_neg h]
theorem za {L:LHp} {a:Addr} {o u:LO}:qe (qe L a o) a u=qe L a u:=by
  funext b;unfold qe;split<;>rfl
theorem neL {L:LHp} {a b:Addr} {o:LO} (h:L a=some o) (h':L b=none):a≠b:=by
  intro e;subst e;rw [h] at h';cases h'
theorem aua {L:LHp} {a b:Addr} {o u:LO} (h:L a=some o) (h':L b=some u) (d:o≠u):a≠b:=by
  intro e;subst e;rw [h] at h';exact d (Option.some.inj h')
structure G3 where
  K:PySem.W.Frag
  P:Program
  w:World
abbrev _root_.L2.Cx.g3 (X:Cx):G3:=⟨X.K,X.prog,X.w⟩
def SqF (K:PySem.W.Frag) (H:Hp) (a:Addr) (xs:List V):Prop:=(∃ o,H a=some (.frz o (.lst xs)))∨
  ∃ (o:Obj) (its:Array Value) (n:Nat),K.lookup a=some o∧o.cls=.type "list" ∧ o.dict=none∧o.data=.seq its n∧its.size≤sizeLine∧Vals xs its.toList
theorem SqF.sq {K:PySem.W.Frag} {H:Hp} {a:Addr} {xs:List V} (h:SqF K H a xs):SqL K H a xs:=by
  rcases h with ⟨o,h⟩ | h
  · exact .inl (.inr ⟨o,h⟩)
  · exact .inr h
mutual
def RV (G:G3) (H:Hp):Y→V→Prop
  | .non,v=>v=.non
  | .bl b,v=>v=.bl b
  | .int i,v=>v=.int i
  | .str x,v=>v=.str x
  | .ref a,v=>v=.ref a
  | .ty n,v=>v=.ty n
  | .cd kvs,v=>∃ a,v=.ref a∧KD G.K G.P G.w a (kvs.map fun p=>(Sum.inr p.1,V.str p.2))
  | .tup ys,v=>∃ a xs,v=.ref a∧SqT G.K H a xs∧RVs G H ys xs
  | .sq ys,v=>∃ a xs,v=.ref a∧SqF G.K H a xs∧RVs G H ys xs
def RVs (G:G3) (H:Hp):List Y→List V→Prop
  | [],xs=>xs=[]
  | y::ys,xs=>∃ x xs',xs=x::xs'∧RV G H y x∧RVs G H ys xs'
end
def Imm:HO→Bool
  | .tup _=>true
  | .frz _ _=>true
  | _=>false
def TSt (H H':Hp):Prop:=∀ a u,Imm u=true→H a=some u→H' a=some u
theorem TSt.refl (H:Hp):TSt H H:=fun _ _ _ h=>h
theorem TSt.trans {H H1 H2:Hp} (a:TSt H H1) (b:TSt H1 H2):TSt H H2:=fun c u i h=>b c u i (a c u i h)
theorem TSt.new {H:Hp} {p:Addr} {o:HO} (h:H p=none):TSt H (upd H p o):=fun _ _ _ q=>by rw [qm (ze q h)];exact q
theorem TSt.lst {H:Hp} {p:Addr} {zs:List V} {o:HO} (h:H p=some (.lst zs)):TSt H (upd H p o):=fun a u i q=>by
  rw [qm ?_];exact q
  rintro rfl
  rw [h] at q;cases q;cases i
theorem SqT.ts {K:PySem.W.Frag} {H H':Hp} {a:Addr} {xs:List V} (h:SqT K H a xs) (t:TSt H H'):SqT K H' a xs:=by
  rcases h with (h | ⟨o,h⟩) | h
  · exact .inl (.inl (t _ _ rfl h))
  · exact .inl (.inr ⟨o,t _ _ rfl h⟩)
  · exact .inr h
theorem SqF.ts {K:PySem.W.Frag} {H H':Hp} {a:Addr} {xs:List V} (h:SqF K H a xs) (t:TSt H H'):SqF K H' a xs:=by
  rcases h with ⟨o,h⟩ | h
  · exact .inl ⟨o,t _ _ rfl h⟩
  · exact .inr h
mutual
theorem RV.ts {G:G3} {H H':Hp} (t:TSt H H'):∀ {y:Y} {v:V},RV G H y v→RV G H' y v
  | .non,_,h=>h
  | .bl _,_,h=>h
  | .int _,_,h=>h
  | .str _,_,h=>h
  | .ref _,_,h=>h
  | .ty _,_,h=>h
  | .cd _,_,h=>h
  | .tup _,_,⟨a,xs,e,s,r⟩=>⟨a,xs,e,SqT.ts s t,RVs.ts t r⟩
  | .sq _,_,⟨a,xs,e,s,r⟩=>⟨a,xs,e,s.ts t,RVs.ts t r⟩
theorem RVs.ts {G:G3} {H H':Hp} (t:TSt H H'):∀ {ys:List Y} {xs:List V},RVs G H ys xs→RVs G H' ys xs
  | [],_,h=>h
  | _::_,_,⟨x,xs',e,r,s⟩=>⟨x,xs',e,RV.ts t r,RVs.ts t s⟩
end
theorem RVs.length {G:G3} {H:Hp}:∀ {ys:List Y} {xs:List V},RVs G H ys xs→ys.length=xs.length
  | [],_,h=>by cases h;rfl
  | _::_,_,⟨x,xs',e,_,s⟩=>by subst e;simp [RVs.length s]
theorem RVs.get {G:G3} {H:Hp}:∀ {ys:List Y} {xs:List V} {i:Nat} {y:Y},RVs G H ys xs→ys[i]?=some y→∃ x,xs[i]?=some x∧RV G H y x
  | [],_,_,_,_,h=>by simp at h
  | _::_,_,0,_,⟨x,xs',e,r,_⟩,h=>by subst e;simp at h;subst h;exact ⟨x,rfl,r⟩
  | _::_,_,i+1,_,⟨x,xs',e,_,s⟩,h=>by
    subst e
    obtain ⟨x',q,r⟩:=RVs.get (i:=i) s (by simpa using h)
    exact ⟨x',by simpa using q,r⟩
theorem RVs.app {G:G3} {H:Hp}:∀ {ys zs:List Y} {xs us:List V},RVs G H ys xs→RVs G H zs us→RVs G H (ys++zs) (xs++us)
  | [],_,_,_,h,q=>by cases h;exact q
  | _::_,_,_,_,⟨x,xs',e,r,s⟩,q=>by subst e;exact ⟨x,xs'++_,rfl,r,RVs.app s q⟩
theorem RVs.one {G:G3} {H:Hp} {y:Y} {x:V} (r:RV G H y x):RVs G H [y] [x]:=⟨x,[],rfl,r,rfl⟩
theorem RVs.take {G:G3} {H:Hp}:∀ {ys:List Y} {xs:List V} (n:Nat),RVs G H ys xs→RVs G H (ys.take n) (xs.take n)
  | [],_,n,h=>by cases h;simp [RVs]
  | _::_,_,0,_=>by simp [RVs]
  | _::_,_,n+1,⟨x,xs',e,r,s⟩=>by subst e;exact ⟨x,xs'.take n,rfl,r,RVs.take n s⟩
theorem RVs.drop {G:G3} {H:Hp}:∀ {ys:List Y} {xs:List V} (n:Nat),RVs G H ys xs→RVs G H (ys.drop n) (xs.drop n)
  | [],_,n,h=>by cases h;simp [RVs]
  | _::_,_,0,h=>h
  | _::_,_,n+1,⟨x,xs',e,r,s⟩=>by subst e;exact RVs.drop n s
theorem RVs.setY {G:G3} {H:Hp} {y:Y} {x:V} (r:RV G H y x):∀ {ys:List Y} {xs:List V} (i:Nat),RVs G H ys xs→RVs G H (ys.set i y) (xs.set i x)
  | [],_,_,h=>by cases h;simp [RVs]
  | _::_,_,0,⟨x',xs',e,_,s⟩=>by subst e;exact ⟨x,xs',rfl,r,s⟩
  | _::_,_,i+1,⟨x',xs',e,q,s⟩=>by subst e;exact ⟨x',xs'.set i x,rfl,q,RVs.setY r i s⟩
def RO (G:G3) (H:Hp) (a:Addr):LO→Prop
  | .lst ys=>∃ xs,H a=some (.lst xs)∧RVs G H ys xs
  | .dct kvs=>∃ xs,H a=some (.dK xs)∧Paired (fun (p:Key×Y) (q:Key×V)=>p.1=q.1∧RV G H p.2 q.2) kvs xs
  | .ins C fs=>∃ dx xs,H a=some (.ins C dx xs)∧Paired (fun (p:Str×Y) (q:Str×V)=>p.1=q.1∧RV G H p.2 q.2) fs xs
  | .exc C=>axu G.K H a C
  | .tb q=>TabR H a q
def RelH (G:G3) (H:Hp) (L:LHp):Prop:=∀ a o,L a=some o→RO G H a o
theorem RO.ex {G:G3} {H:Hp} {a:Addr}:∀ {o:LO},RO G H a o→∃ u,H a=some u
  | .lst _,⟨_,h,_⟩=>⟨_,h⟩
  | .dct _,⟨_,h,_⟩=>⟨_,h⟩
  | .ins _ _,⟨_,_,h,_⟩=>⟨_,h⟩
  | .exc _,⟨_,h,_⟩=>⟨_,h⟩
  | .tb _,⟨_,h,_⟩=>⟨_,h⟩
theorem RelH.none {G:G3} {H:Hp} {L:LHp} (h:RelH G H L) {p:Addr} (hp:H p=none):L p=none:=by
  cases e:L p with
  | none=>rfl
  | some o=>obtain ⟨u,q⟩:=(h p o e).ex;rw [hp] at q;cases q
theorem RO.keep {G:G3} {H H':Hp} (t:TSt H H') {a:Addr} (e:H' a=H a):∀ {o:LO},RO G H a o→RO G H' a o
  | .lst _,⟨xs,h,r⟩=>⟨xs,e.trans h,r.ts t⟩
  | .dct _,⟨xs,h,r⟩=>⟨xs,e.trans h,Paired.mapP r fun _ _ ⟨a,b⟩=>⟨a,b.ts t⟩⟩
  | .ins _ _,⟨dx,xs,h,r⟩=>⟨dx,xs,e.trans h,Paired.mapP r fun _ _ ⟨a,b⟩=>⟨a,b.ts t⟩⟩
  | .exc _,⟨o,h,c⟩=>⟨o,e.trans h,c⟩
  | .tb _,h=>TabR.keep h e fun b o u z=>t b _ rfl z
theorem RelH.skip {G:G3} {H:Hp} {L:LHp} (h:RelH G H L) {p:Addr} {o:HO} (hp:H p=.none):RelH G (upd H p o) L:=fun a u e=>by
  obtain ⟨x,q⟩:=(h a u e).ex
  exact (h a u e).keep (TSt.new hp) (qm (ze q hp))
theorem RelH.newL {G:G3} {H:Hp} {L:LHp} (h:RelH G H L) {p:Addr} {ys:List Y} {xs:List V} (hp:H p=.none) (r:RVs G H ys xs):RelH G (upd H p (.lst xs)) (qe L p (.lst ys)):=fun a u e=>by
  by_cases c:a=p
  · subst c
    rw [q8] at e;cases e
    exact ⟨xs,zr,r.ts (TSt.new hp)⟩
  · rw [qd c] at e
    exact (h a u e).keep (TSt.new hp) (qm c)
theorem RelH.setL {G:G3} {H:Hp} {L:LHp} (h:RelH G H L) {p:Addr} {ys:List Y} {xs zs:List V} (hp:H p=some (.lst zs)) (r:RVs G H ys xs):RelH G (upd H p (.lst xs)) (qe L p (.lst ys)):=fun a u e=>by
  by_cases c:a=p
  · subst c
    rw [q8] at e;cases e
    exact ⟨xs,zr,r.ts (TSt.lst hp)⟩
  · rw [qd c] at e
    exact (h a u e).keep (TSt.lst hp) (qm c)
def LSub (L L':LHp):Prop:=∀ a o,L a=some o→L' a=some o
theorem LSub.refl (L:LHp):LSub L L:=fun _ _ h=>h
theorem LSub.trans {L L1 L2:LHp} (a:LSub L L1) (b:LSub L1 L2):LSub L L2:=fun c o h=>b c o (a c o h)
theorem LSub.new {L:LHp} {p:Addr} {o:LO} (h:L p=none):LSub L (qe L p o):=fun a u e=>by rw [qd (neL e h)];exact e
theorem RelH.sub {G:G3} {H:Hp} {L L':LHp} (h:RelH G H L') (s:LSub L L'):RelH G H L:=fun a o e=>h a o (s a o e)
abbrev St3:=List (Option Y)
structure RelS (G:G3) (H:Hp) (σ:St) (τ:St3):Prop where
  len:σ.length=τ.length
  get:∀ (i:Nat) y,τ[i]?=some (some y)→∃ v,σ[i]?=some (some v)∧RV G H y v
theorem RelS.ts {G:G3} {H H':Hp} {σ:St} {τ:St3} (h:RelS G H σ τ) (t:TSt H H'):RelS G H' σ τ:=
  ⟨h.len,fun i y e=>let ⟨v,a,b⟩:=h.get i y e;⟨v,a,b.ts t⟩⟩
theorem RelS.set {G:G3} {H:Hp} {σ:St} {τ:St3} (h:RelS G H σ τ) {i:Nat} {v:V} {y:Y} (r:RV G H y v):RelS G H (σ.set i (some v)) (τ.set i (some y)):=by
  refine ⟨by simp [h.len],fun j z e=>?_⟩
  by_cases c:i=j
  · subst c
    have hi:i<τ.length:=by
      by_cases q:i<τ.length
      · exact q
      · rw [List.getElem?_eq_none (by simp;omega)] at e;cases e
    rw [List.getElem?_set_self hi] at e
    cases e
    exact ⟨v,List.getElem?_set_self (by rw [h.len];exact hi),r⟩
  · rw [List.getElem?_set_ne c] at e ⊢
    exact h.get j z e
theorem RelS.more {G:G3} {H:Hp} {σ:St} {τ:St3} (h:RelS G H σ τ) (n:Nat):RelS G H (σ++List.replicate n none) (τ++List.replicate n none):=by
  refine ⟨by simp [h.len],fun j z e=>?_⟩
  by_cases c:j<τ.length
  · rw [List.getElem?_append_left c] at e
    rw [List.getElem?_append_left (by rw [h.len];exact c)]
    exact h.get j z e
  · rw [List.getElem?_append_right (by omega),List.getElem?_replicate] at e
    split at e<;>cases e
def awi:St3→Nat→Option Y
  | [],_=>none
  | o::_,0=>o
  | _::r,i+1=>awi r i
theorem aoy:∀ (τ:St3) (i:Nat) {y:Y},awi τ i=some y→τ[i]?=some (some y)
  | [],_,_,h=>by cases h
  | o::_,0,_,h=>by simp [awi] at h;simp [h]
  | _::r,i+1,_,h=>by simp only [List.getElem?_cons_succ];exact aoy r i h
abbrev YK:=Y→LHp→Prop
abbrev TE3:=St3→LHp→YK→Prop
abbrev TT3:=St3→LHp→(Bool→LHp→Prop)→Prop
abbrev TA3:=St3→LHp→(List Y→LHp→Prop)→Prop
structure Ends3 where
  nx:St3→LHp→Prop
  rt:YK
  bk:St3→LHp→Prop:=fun _ _=>False
  ct:St3→LHp→Prop:=fun _ _=>False
abbrev TS3:=Ends3→St3→LHp→Prop
abbrev TG3:=Y→St3→LHp→(St3→LHp→Prop)→Prop
abbrev ape:=List Y→St3→LHp→(St3→LHp→Prop)→Prop
abbrev TI3:=St3→LHp→(List Y→(LHp→Prop)→LHp→Prop)→Prop
abbrev R23:=Y→Y→LHp→YK→Prop
def Aft (G:G3) (H:Hp) (Q3:YK) (Q:VK):Prop:=∀ v H' y L',TSt H H'→RelH G H' L'→RV G H' y v→Q3 y L'→Q v H'
def AftB (G:G3) (H:Hp) (Q3:Bool→LHp→Prop) (Q:Bool→Hp→Prop):Prop:=∀ b H' L',TSt H H'→RelH G H' L'→Q3 b L'→Q b H'
def a4v (G:G3) (H:Hp) (Q3:List Y→LHp→Prop) (Q:List V→Hp→Prop):Prop:=∀ vs H' ys L',TSt H H'→RelH G H' L'→RVs G H' ys vs→Q3 ys L'→Q vs H'
def AftS (G:G3) (H:Hp) (Q3:St3→LHp→Prop) (Q:St→Hp→Prop):Prop:=∀ σ H' τ L',TSt H H'→RelS G H' σ τ→RelH G H' L'→Q3 τ L'→Q σ H'
theorem Aft.ts {G:G3} {H H':Hp} {Q3:YK} {Q:VK} (h:Aft G H Q3 Q) (t:TSt H H'):Aft G H' Q3 Q:=fun v H2 y L' t2=>h v H2 y L' (t.trans t2)
theorem AftB.ts {G:G3} {H H':Hp} {Q3:Bool→LHp→Prop} {Q:Bool→Hp→Prop} (h:AftB G H Q3 Q) (t:TSt H H'):AftB G H' Q3 Q:=fun v H2 L' t2=>h v H2 L' (t.trans t2)
theorem AftS.ts {G:G3} {H H':Hp} {Q3:St3→LHp→Prop} {Q:St→Hp→Prop} (h:AftS G H Q3 Q) (t:TSt H H'):AftS G H' Q3 Q:=fun v H2 y L' t2=>h v H2 y L' (t.trans t2)
structure AftD (G:G3) (H:Hp) (D3:Ends3) (D:Ends):Prop where
  nx:AftS G H D3.nx D.nx
  rt:Aft G H D3.rt D.rt
  bk:AftS G H D3.bk D.bk
  ct:AftS G H D3.ct D.ct
theorem AftD.ts {G:G3} {H H':Hp} {D3:Ends3} {D:Ends} (h:AftD G H D3 D) (t:TSt H H'):AftD G H' D3 D:=⟨h.nx.ts t,h.rt.ts t,h.bk.ts t,h.ct.ts t⟩
def upE (G:G3) (t:TE3):TE:=fun σ H Q=>∃ τ L Q3,RelS G H σ τ∧RelH G H L∧t τ L Q3∧Aft G H Q3 Q
def upT (G:G3) (t:TT3):TT:=fun σ H Q=>∃ τ L Q3,RelS G H σ τ∧RelH G H L∧t τ L Q3∧AftB G H Q3 Q
def upA (G:G3) (t:TA3):TA:=fun σ H Q=>∃ τ L Q3,RelS G H σ τ∧RelH G H L∧t τ L Q3∧a4v G H Q3 Q
def upS (G:G3) (t:TS3):L2.TS:=fun D σ H=>∃ τ L D3,RelS G H σ τ∧RelH G H L∧t D3 τ L∧AftD G H D3 D
def upG (G:G3) (g:TG3):TG:=fun v σ H Q=>∃ y τ L Q3,RV G H y v∧RelS G H σ τ∧RelH G H L∧g y τ L Q3∧AftS G H Q3 Q
def a4e (G:G3) (g:ape):TGs:=fun vs σ H Q=>∃ ys τ L Q3,RVs G H ys vs∧RelS G H σ τ∧RelH G H L∧g ys τ L Q3∧AftS G H Q3 Q
structure Yields (G:G3) (H₀:Hp) (J:It) (ys:List Y) (keep:LHp→Prop):Prop where
  go:∀ i H L,TSt H₀ H→RelH G H L→keep L→i<ys.length→J.go i H
  yld:∀ i H L x H' y,TSt H₀ H→RelH G H L→keep L→ys[i]?=some y→J.yld i H x H'→TSt H H'∧RelH G H' L∧RV G H' y x
  stop:∀ H L,TSt H₀ H→RelH G H L→keep L→J.stop ys.length H
def upI (G:G3) (wi:TI3):TI:=fun σ H R=>∃ τ L R3,RelS G H σ τ∧RelH G H L∧wi τ L R3∧∀ J H' ys keep L',TSt H H'→RelH G H' L'→Yields G H' J ys keep→R3 ys keep L'→R J H'
def upR (G:G3) (r3:R23):R2:=fun x y H Q=>∃ x3 y3 L Q3,RV G H x3 x∧RV G H y3 y∧RelH G H L∧r3 x3 y3 L Q3∧Aft G H Q3 Q
def upL (G:G3) (r3:List Y→LHp→YK→Prop):List V→Hp→VK→Prop:=fun xs H Q=>∃ ys L Q3,RVs G H ys xs∧RelH G H L∧r3 ys L Q3∧Aft G H Q3 Q
def upU (G:G3) (r3:Y→LHp→YK→Prop):V→Hp→VK→Prop:=fun x H Q=>∃ y L Q3,RV G H y x∧RelH G H L∧r3 y L Q3∧Aft G H Q3 Q
theorem PE.imp {X:Cx} {e:Expr} {t u:TE} (h:PE X e t) (q:∀ σ H Q,u σ H Q→t σ H Q):PE X e u:=fun pins s σ H Q I z=>h pins s σ H Q I (q σ H Q z)
theorem PT.imp {X:Cx} {e:Expr} {t u:TT} (h:PT X e t) (q:∀ σ H Q,u σ H Q→t σ H Q):PT X e u:=fun pins s σ H Q I z=>h pins s σ H Q I (q σ H Q z)
theorem PW.imp {X:Cx} {e:Expr} {t u:TT} (h:PW X e t) (q:∀ σ H Q,u σ H Q→t σ H Q):PW X e u:=fun wh pins s σ H Q I z=>h wh pins s σ H Q I (q σ H Q z)
theorem PA.imp {X:Cx} {e:List Expr} {t u:TA} (h:PA X e t) (q:∀ σ H Q,u σ H Q→t σ H Q):PA X e u:=fun pos pins s σ H Q I z=>h pos pins s σ H Q I (q σ H Q z)
theorem PS.imp {X:Cx} {e:Stmt} {t u:L2.TS} (h:PS X e t) (q:∀ D σ H,u D σ H→t D σ H):PS X e u:=fun pins s σ H Q I z=>h pins s σ H Q I (q _ σ H z)
theorem PSs.imp {X:Cx} {e:List Stmt} {t u:L2.TS} (h:PSs X e t) (q:∀ D σ H,u D σ H→t D σ H):PSs X e u:=fun pins s σ H Q I z=>h pins s σ H Q I (q _ σ H z)
theorem PF.imp {X:Cx} {e:List Expr} {t u:TT} (h:PF X e t) (q:∀ σ H Q,u σ H Q→t σ H Q):PF X e u:=fun pins s σ H Q I z=>h pins s σ H Q I (q σ H Q z)
end L3
namespace L3
open PySem L2
def kh (b:Bool) (A B:Prop):Prop:=match b with
  | true=>A
  | false=>B
theorem ajt {b:Bool} {A B:Prop} (e:b=true) (h:A):kh b A B:=by rw [e];exact h
theorem aef {b:Bool} {A B:Prop} (e:b=false) (h:B):kh b A B:=by rw [e];exact h
theorem ko {p:Prop} [Decidable p] {A B:Prop} (h:p→A) (k:¬p→B):kh (decide p) A B:=by
  by_cases c:p
  · rw [decide_eq_true c];exact h c
  · rw [decide_eq_false c];exact k c
def nb (neg b:Bool):Bool:=match neg with
  | true=>!b
  | false=>b
def qb (i:Nat) (τ:St3) (L:LHp) (Q:YK):Prop:=match awi τ i with
  | some y=>Q y L
  | none=>False
def yC (y:Y) (_:St3) (L:LHp) (Q:YK):Prop:=Q y L
def yOp (r:R23) (ta tb:TE3) (τ:St3) (L:LHp) (Q:YK):Prop:=ta τ L fun x L1=>tb τ L1 fun y L2=>r x y L2 Q
def yUn (r:Y→LHp→YK→Prop) (ta:TE3) (τ:St3) (L:LHp) (Q:YK):Prop:=ta τ L fun x L1=>r x L1 Q
def yI (C:Int→Int→Prop) (g:Int→Int→Y) (x y:Y) (L:LHp) (Q:YK):Prop:=match x,y with
  | .int i,.int j=>C i j∧Q (g i j) L
  | _,_=>False
def yI0 (g:Int→Int→Y) (x y:Y) (L:LHp) (Q:YK):Prop:=match x,y with
  | .int i,.int j=>Q (g i j) L
  | _,_=>False
def aws (x:Y) (L:LHp) (Q:YK):Prop:=match x with
  | .int i=>Q (.int (-i)) L
  | _=>False
def ab4 (L:LHp):Y→Option (List Y)
  | .tup ys=>some ys
  | .sq ys=>some ys
  | .ref a=>match L a with
    | some (.lst ys)=>some ys
    | _=>none
  | _=>none
@[irreducible] def adb (L:LHp) (a:Addr) (k:List Y→Prop):Prop:=match L a with
  | some (.lst ys)=>k ys
  | _=>False
theorem xr {L:LHp} {a:Addr} {k:List Y→Prop} (h:adb L a k):∃ ys,L a=some (.lst ys)∧k ys:=by
  unfold adb at h
  split at h
  · rename_i ys e;exact ⟨ys,e,h⟩
  · exact h.elim
theorem z0 {L:LHp} {a:Addr} {k:List Y→Prop} {ys:List Y} (e:L a=some (.lst ys)) (h:k ys):adb L a k:=by
  unfold adb;rw [e];exact h
def agw (L:LHp) (x:Y) (k:List Y→Prop):Prop:=match x with
  | .tup ys=>k ys
  | .sq ys=>k ys
  | .ref a=>adb L a k
  | _=>False
theorem zg {L:LHp} {a:Addr} {ys:List Y} (h:L a=some (.lst ys)):ab4 L (.ref a)=some ys:=by
  show (match L a with | some (.lst ys)=>some ys | _=>none)=some ys
  rw [h]
theorem we {L:LHp} {x:Y} {k:List Y→Prop} (h:agw L x k):∃ ys,ab4 L x=some ys∧k ys:=by
  cases x with
  | tup ys=>exact ⟨ys,rfl,h⟩
  | sq ys=>exact ⟨ys,rfl,h⟩
  | ref a=>obtain ⟨ys,e,q⟩:=xr h;exact ⟨ys,zg e,q⟩
  | _=>exact h.elim
theorem air {L:LHp} {a:Addr} {ys:List Y} (h:ab4 L (.ref a)=some ys):L a=some (.lst ys):=by
  have h':(match L a with | some (.lst ys)=>some ys | _=>none)=some ys:=h
  split at h'
  · rename_i e;cases h';exact e
  · cases h'
theorem awn {L:LHp} {x:Y} {k:List Y→Prop} {ys:List Y} (e:ab4 L x=some ys) (h:k ys):agw L x k:=by
  cases x with
  | tup zs=>cases e;exact h
  | sq zs=>cases e;exact h
  | ref a=>exact z0 (air e) h
  | _=>cases e
theorem qk {L:LHp} {a:Addr} {k:List Y→Prop} {ys:List Y} (e:L a=some (.lst ys)) (h:k ys):agw L (.ref a) k:=awn (zg e) h
def wn (x y:Y) (L:LHp) (Q:YK):Prop:=match x,y with
  | .int i,.int j=>Q (.int (i+j)) L
  | .str a,.str b=>a.length+b.length≤sizeLine∧Q (.str (a++b)) L
  | .ref a,.ref b=>∃ ys zs,L a=some (.lst ys)∧L b=some (.lst zs)∧ys.length+zs.length≤sizeLine∧∀ p,L p=none→Q (.ref p) (qe L p (.lst (ys++zs)))
  | _,_=>False
def atK {α:Type} (L:LHp) (Q:α→LHp→Prop):Option α→Prop
  | some v=>Q v L
  | none=>False
def kl (kvs:List (Key×Y)) (k:Key):Option Y:=(kvs.find? fun p=>decide (p.1=k)).map (·.2)
@[irreducible] def ak2 (L:LHp) (a:Addr) (k:List (Key×Y)→Prop):Prop:=match L a with
  | some (.dct kvs)=>k kvs
  | _=>False
theorem abt {L:LHp} {a:Addr} {k:List (Key×Y)→Prop} (h:ak2 L a k):∃ kvs,L a=some (.dct kvs)∧k kvs:=by
  unfold ak2 at h
  split at h
  · rename_i ys e;exact ⟨ys,e,h⟩
  · exact h.elim
theorem ag9 {L:LHp} {a:Addr} {k:List (Key×Y)→Prop} {kvs:List (Key×Y)} (e:L a=some (.dct kvs)) (h:k kvs):ak2 L a k:=by
  unfold ak2;rw [e];exact h
def yIx (x y:Y) (L:LHp) (Q:YK):Prop:=match x,y with
  | .str z,.int i=>z.length≤sizeLine∧atK L (fun c L=>Q (.str ⟨#[c]⟩) L) (atI z.cps.toList i)
  | .cd kvs,.str k=>atK L (fun s L=>Q (.str s) L) (kvs.lookup k)
  | .ref a,.str k=>ak2 L a fun kvs=>atK L Q (kl kvs (.inr k))
  | x,.int i=>agw L x fun ys=>atK L Q (atI ys i)
  | _,_=>False
def abj (xs:List Y) (L:LHp) (Q:YK):Prop:=match xs with
  | [.str z]=>z.length≤sizeLine∧Q (.int z.length) L
  | [x]=>agw L x fun ys=>Q (.int ys.length) L
  | _=>False
def azs (xs:List Y) (L:LHp) (Q:YK):Prop:=match xs with
  | [.int i,.int j]=>Q (.int (max i j)) L
  | _=>False
def ayn (xs:List Y) (L:LHp) (Q:YK):Prop:=match xs with
  | [.int i,.int j]=>Q (.int (min i j)) L
  | _=>False
inductive Ty3 where
  | non | bool | int | str | tuple | list | dict
def Ty3.nm:Ty3→String
  | .non => "NoneType"
  | .bool => "bool"
  | .int => "int"
  | .str => "str"
  | .tuple => "tuple"
  | .list => "list"
  | .dict => "dict"
def tyY (L:LHp):Y→Option Ty3
  | .non=>some .non
  | .bl _=>some .bool
  | .int _=>some .int
  | .str _=>some .str
  | .tup _=>some .tuple
  | .sq _=>some .list
  | .ref a=>match L a with
    | some (.lst _)=>some .list
    | some (.dct _)=>some .dict
    | _=>none
  | _=>none
def aug:Ty3→Ty3→Bool
  | .bool,.int=>true
  | .bool,.bool=>true
  | .int,.int=>true
  | .str,.str=>true
  | .tuple,.tuple=>true
  | .list,.list=>true
  | .dict,.dict=>true
  | .non,.non=>true
  | _,_=>false
@[irreducible] def tyK (L:LHp) (a:Addr) (k:Ty3→Prop):Prop:=match tyY L (.ref a) with
  | some T=>k T
  | none=>False
theorem avr {L:LHp} {a:Addr} {k:Ty3→Prop} (h:tyK L a k):∃ T,tyY L (.ref a)=some T∧k T:=by
  unfold tyK at h
  split at h
  · rename_i T e;exact ⟨T,e,h⟩
  · exact h.elim
def a23 (L:LHp) (x:Y) (k:Ty3→Prop):Prop:=match x with
  | .non=>k .non
  | .bl _=>k .bool
  | .int _=>k .int
  | .str _=>k .str
  | .tup _=>k .tuple
  | .sq _=>k .list
  | .ref a=>tyK L a k
  | _=>False
theorem as7 {L:LHp} {x:Y} {k:Ty3→Prop} (h:a23 L x k):∃ T,tyY L x=some T∧k T:=by
  cases x with
  | ref a=>exact avr h
  | ty n=>exact h.elim
  | cd k=>exact h.elim
  | _=>exact ⟨_,rfl,h⟩
def aya (S:Ty3) (te:TE3) (τ:St3) (L:LHp) (Q:YK):Prop:=te τ L fun x L1=>a23 L1 x fun T=>Q (.bl (aug T S)) L1
def afa:Y→Bool
  | .non=>true
  | .bl _=>true
  | .int _=>true
  | .str _=>true
  | _=>false
def toV:Y→V
  | .non=>.non
  | .bl b=>.bl b
  | .int i=>.int i
  | .str x=>.str x
  | _=>.ty "?"
theorem RV.flat {G:G3} {H:Hp}:∀ {y:Y} {v:V},afa y=true→RV G H y v→v=toV y
  | .non,_,_,h=>h
  | .bl _,_,_,h=>h
  | .int _,_,_,h=>h
  | .str _,_,_,h=>h
theorem ad0:∀ {y:Y},afa y=true→kz (toV y)=true
  | .non,_=>rfl
  | .bl _,_=>rfl
  | .int _,_=>rfl
  | .str _,_=>rfl
theorem RVs.flat {G:G3} {H:Hp}:∀ {ys:List Y} {xs:List V},ys.all afa=true→RVs G H ys xs→xs=ys.map toV
  | [],_,_,h=>h
  | y::ys,_,f,⟨x,xs',e,r,s⟩=>by
    rw [List.all_cons,Bool.and_eq_true] at f
    rw [e,r.flat f.1,s.flat f.2];rfl
def alz:Y→Bool
  | .ref _=>true
  | .sq _=>true
  | _=>false
def DatN (L:LHp):Nat→Y→Da→Prop
  | 0,y,d=>afa y=true∧d=.s (toV y)
  | n+1,y,d=>(afa y=true∧d=.s (toV y))∨(∃ ys ds,y=.tup ys∧d=.tup ds∧Paired (DatN L n) ys ds)∨(∃ ys ds,alz y=true∧d=.lst ds∧ab4 L y=some ys∧Paired (DatN L n) ys ds)
def azh:Y→Bool
  | .ref _=>true
  | .tup _=>true
  | .sq _=>true
  | _=>false
def yEq (neg:Bool) (x y:Y) (L:LHp) (Q:YK):Prop:=match x,y with
  | .int i,.int j=>Q (.bl (nb neg (decide (i=j)))) L
  | .str i,.str j=>Q (.bl (nb neg (decide (i=j)))) L
  | .bl i,.bl j=>Q (.bl (nb neg (decide (i=j)))) L
  | x,y=>azh x=true∧azh y=true∧∃ n m d e,n≤128∧DatN L n x d∧DatN L m y e∧Q (.bl (nb neg (Da.eq d e))) L
def ai9 (neg:Bool) (ta:TE3) (τ:St3) (L:LHp) (Q:YK):Prop:=ta τ L fun x L1=>match x with
  | .non=>Q (.bl (!neg)) L1
  | _=>Q (.bl neg) L1
def yB (t:TE3) (τ:St3) (L:LHp) (Q:Bool→LHp→Prop):Prop:=t τ L fun x L1=>match x with
  | .bl c=>Q c L1
  | _=>False
def a2g (t u:TT3) (τ:St3) (L:LHp) (Q:Bool→LHp→Prop):Prop:=t τ L fun c L1=>kh c (u τ L1 Q) (Q false L1)
def yOr (t u:TT3) (τ:St3) (L:LHp) (Q:Bool→LHp→Prop):Prop:=t τ L fun c L1=>kh c (Q true L1) (u τ L1 Q)
def aty (t:TT3) (τ:St3) (L:LHp) (Q:Bool→LHp→Prop):Prop:=t τ L fun c L1=>Q (!c) L1
def agk (ta tb:TE3) (τ:St3) (L:LHp) (Q:YK):Prop:=ta τ L fun x L1=>match x with
  | .bl c=>kh c (tb τ L1 Q) (Q (.bl false) L1)
  | _=>False
def ase (ta:TE3) (τ:St3) (L:LHp) (Q:YK):Prop:=ta τ L fun x L1=>match x with
  | .bl c=>Q (.bl (!c)) L1
  | _=>False
def yIf (t:TT3) (ta tb:TE3) (τ:St3) (L:LHp) (Q:YK):Prop:=t τ L fun c L1=>kh c (ta τ L1 Q) (tb τ L1 Q)
def qj (_:St3) (L:LHp) (Q:List Y→LHp→Prop):Prop:=Q [] L
def qa (ta:TE3) (tr:TA3) (τ:St3) (L:LHp) (Q:List Y→LHp→Prop):Prop:=ta τ L fun x L1=>tr τ L1 fun xs L2=>Q (x::xs) L2
def aah (t:TA3) (τ:St3) (L:LHp) (Q:YK):Prop:=t τ L fun ys L1=>match Nat.ble ys.length 1000 with
  | true=>Q (.tup ys) L1
  | false=>False
def wf (t:TA3) (τ:St3) (L:LHp) (Q:YK):Prop:=t τ L fun ys L1=>match Nat.ble ys.length 1000 with
  | true=>∀ p,L1 p=none→Q (.ref p) (qe L1 p (.lst ys))
  | false=>False
def yCB (r:List Y→LHp→YK→Prop) (t:TA3) (τ:St3) (L:LHp) (Q:YK):Prop:=t τ L fun vs L1=>r vs L1 Q
abbrev TO3:=St3→LHp→(Option Int→LHp→Prop)→Prop
def agc (_:St3) (L:LHp) (Q:Option Int→LHp→Prop):Prop:=Q none L
def aof (t:TE3) (τ:St3) (L:LHp) (Q:Option Int→LHp→Prop):Prop:=t τ L fun x L1=>match x with
  | .int i=>Q (some i) L1
  | _=>False
def amn (xs:List Y) (lo hi:Option Int):List Y:=(xs.drop (HT.sIx xs.length 0 lo)).take (HT.sIx xs.length xs.length hi - HT.sIx xs.length 0 lo)
def a1j (x:Y) (lo hi:Option Int) (L:LHp) (Q:YK):Prop:=match x with
  | .ref a=>adb L a fun ys=>∀ p,L p=none→Q (.ref p) (qe L p (.lst (amn ys lo hi)))
  | .sq ys=>∀ p,L p=none→Q (.ref p) (qe L p (.lst (amn ys lo hi)))
  | _=>False
def ySl (r:Y→Option Int→Option Int→LHp→YK→Prop) (te:TE3) (tl th:TO3) (τ:St3) (L:LHp) (Q:YK):Prop:=te τ L fun x L1=>tl τ L1 fun l L2=>th τ L2 fun u L3=>r x l u L3 Q
def qr (t u:TS3) (D:Ends3) (τ:St3) (L:LHp):Prop:=t { D with nx:=u D } τ L
def xj (D:Ends3) (τ:St3) (L:LHp):Prop:=D.nx τ L
def v8 (te:TE3) (D:Ends3) (τ:St3) (L:LHp):Prop:=te τ L fun _ L1=>D.nx τ L1
def zu (te:TE3) (D:Ends3) (τ:St3) (L:LHp):Prop:=te τ L D.rt
def ku (c:TT3) (t u:TS3) (D:Ends3) (τ:St3) (L:LHp):Prop:=c τ L fun b L1=>kh b (t D τ L1) (u D τ L1)
def zc (te:TE3) (g:TG3) (D:Ends3) (τ:St3) (L:LHp):Prop:=te τ L fun x L1=>g x τ L1 D.nx
def afp:St3→Nat→Y→St3
  | [],_,_=>[]
  | _::r,0,y=>some y::r
  | o::r,i+1,y=>o::afp r i y
theorem aa1:∀ (τ:St3) (i:Nat) (y:Y),afp τ i y=τ.set i (some y)
  | [],_,_=>rfl
  | _::_,0,_=>rfl
  | o::r,i+1,y=>by rw [afp,aa1 r i y];rfl
def qf (i:Nat) (y:Y) (τ:St3) (L:LHp) (Q:St3→LHp→Prop):Prop:=Q (afp τ i y) L
def aa5 (ys:List Y) (τ:St3) (L:LHp) (Q:St3→LHp→Prop):Prop:=match ys with
  | []=>Q τ L
  | _=>False
def zp (t:TG3) (u:ape) (ys:List Y) (τ:St3) (L:LHp) (Q:St3→LHp→Prop):Prop:=match ys with
  | []=>False
  | y::r=>t y τ L fun τ' L'=>u r τ' L' Q
def ab9 (n:Nat) (t:ape) (y:Y) (τ:St3) (L:LHp) (Q:St3→LHp→Prop):Prop:=match y with
  | .tup ys=>match ys.length==n with
    | true=>t ys τ L Q
    | false=>False
  | _=>False
def Frg {α:Type} (W:α→LHp→Prop) (x:α) (L:LHp):Prop:=∃ L',LSub L' L∧W x L'
def ak1 (c:TT3) (tb:TS3) (D:Ends3) (τ:St3) (L:LHp):Prop:=∃ W:Nat→St3→LHp→Prop,(∃ m,W m τ L)∧∀ m τ L,W m τ L→
  c τ L fun b L1=>kh b (∃ N:St3→LHp→Prop,(∀ τ' L',N τ' L'→∃ m',m'<m∧W m' τ' L')∧tb { D with nx:=Frg N,ct:=Frg N,bk:=D.nx } τ L1) (D.nx τ L1)
@[irreducible] def anh (ys:List Y) (keep:LHp→Prop) (g:TG3) (tb:TS3) (D:Ends3) (τ:St3) (L1:LHp):Prop:=∃ W:Nat→St3→LHp→Prop,W 0 τ L1∧(∀ i τ L,W i τ L→keep L)∧
  (∀ i y τ L,ys[i]?=some y→W i τ L→g y τ L fun τ2 L2=>tb { D with nx:=Frg (W (i+1)),ct:=Frg (W (i+1)),bk:=D.nx } τ2 L2)∧∀ τ L,W ys.length τ L→D.nx τ L
theorem ag4 {ys:List Y} {keep:LHp→Prop} {g:TG3} {tb:TS3} {D:Ends3} {τ:St3} {L1:LHp} (h:∃ W:Nat→St3→LHp→Prop,W 0 τ L1∧(∀ i τ L,W i τ L→keep L)∧
  (∀ i y τ L,ys[i]?=some y→W i τ L→g y τ L fun τ2 L2=>tb { D with nx:=Frg (W (i+1)),ct:=Frg (W (i+1)),bk:=D.nx } τ2 L2)∧∀ τ L,W ys.length τ L→D.nx τ L):anh ys keep g tb D τ L1:=by unfold anh;exact h
theorem at1 {ys:List Y} {keep:LHp→Prop} {g:TG3} {tb:TS3} {D:Ends3} {τ:St3} {L1:LHp} (h:anh ys keep g tb D τ L1):∃ W:Nat→St3→LHp→Prop,W 0 τ L1∧(∀ i τ L,W i τ L→keep L)∧
  (∀ i y τ L,ys[i]?=some y→W i τ L→g y τ L fun τ2 L2=>tb { D with nx:=Frg (W (i+1)),ct:=Frg (W (i+1)),bk:=D.nx } τ2 L2)∧∀ τ L,W ys.length τ L→D.nx τ L:=by unfold anh at h;exact h
def acu (wi:TI3) (g:TG3) (tb:TS3) (D:Ends3) (τ:St3) (L:LHp):Prop:=wi τ L fun ys keep L1=>anh ys keep g tb D τ L1
@[irreducible] def ano (L:LHp) (a:Addr) (R:List Y→(LHp→Prop)→LHp→Prop):Prop:=match L a with
  | some (.lst ys)=>R ys (fun L=>L a=some (.lst ys)) L
  | _=>False
theorem xt {L:LHp} {a:Addr} {R:List Y→(LHp→Prop)→LHp→Prop} {ys:List Y} (h:L a=some (.lst ys)) (q:∀ keep:LHp→Prop,(∀ L',L' a=L a→keep L')→R ys keep L):ano L a R:=by
  unfold ano
  rw [h]
  exact q _ fun L' e'=>e'.trans h
theorem al1 {L:LHp} {a:Addr} {R:List Y→(LHp→Prop)→LHp→Prop} (h:ano L a R):∃ ys keep,ab4 L (.ref a)=some ys∧keep L∧(∀ L',keep L'→ab4 L' (.ref a)=some ys)∧R ys keep L:=by
  unfold ano at h
  split at h
  · rename_i ys e;exact ⟨ys,_,zg e,e,fun L' e'=>zg e',h⟩
  · exact h.elim
def x5 (tl:TE3) (τ:St3) (L:LHp) (R:List Y→(LHp→Prop)→LHp→Prop):Prop:=tl τ L fun x L1=>match x with
  | .ref a=>ano L1 a R
  | .sq ys=>R ys (fun _=>True) L1
  | _=>False
def wc (lo:Int) (n:Nat):List Y:=(List.range n).map fun k=>.int (lo+(k:Nat))
def ar5 (ta:TA3) (τ:St3) (L:LHp) (R:List Y→(LHp→Prop)→LHp→Prop):Prop:=ta τ L fun vs L1=>match vs with
  | [.int j]=>(-(2 ^ 62)≤j∧j<2 ^ 62)∧R (wc 0 j.toNat) (fun _=>True) L1
  | _=>False
def asb (_:St3) (L:LHp) (Q:Bool→LHp→Prop):Prop:=Q true L
@[irreducible] def lcK (ys:List Y) (keep:LHp→Prop) (n:Nat) (g:TG3) (tc:TT3) (te:TE3) (τ:St3) (L1:LHp) (Q:YK):Prop:=ys.length<sizeLine∧∃ W:Nat→List Y→LHp→Prop,W 0 [] L1∧(∀ i zs L,W i zs L→keep L)∧
  (∀ i y zs L,ys[i]?=some y→W i zs L→g y (τ++List.replicate n none) L fun τ2 L2=>tc τ2 L2 fun b L3=>kh b (te τ2 L3 fun z L4=>Frg (W (i+1)) (zs++[z]) L4) (Frg (W (i+1)) zs L3))∧
  ∀ zs L,W ys.length zs L→∀ p,L p=none→Q (.ref p) (qe L p (.lst zs))
theorem ao9 {ys:List Y} {keep:LHp→Prop} {n:Nat} {g:TG3} {tc:TT3} {te:TE3} {τ:St3} {L1:LHp} {Q:YK} (h:ys.length<sizeLine∧∃ W:Nat→List Y→LHp→Prop,W 0 [] L1∧(∀ i zs L,W i zs L→keep L)∧
  (∀ i y zs L,ys[i]?=some y→W i zs L→g y (τ++List.replicate n none) L fun τ2 L2=>tc τ2 L2 fun b L3=>kh b (te τ2 L3 fun z L4=>Frg (W (i+1)) (zs++[z]) L4) (Frg (W (i+1)) zs L3))∧
  ∀ zs L,W ys.length zs L→∀ p,L p=none→Q (.ref p) (qe L p (.lst zs))):lcK ys keep n g tc te τ L1 Q:=by unfold lcK;exact h
theorem ax8 {ys:List Y} {keep:LHp→Prop} {n:Nat} {g:TG3} {tc:TT3} {te:TE3} {τ:St3} {L1:LHp} {Q:YK} (h:lcK ys keep n g tc te τ L1 Q):ys.length<sizeLine∧∃ W:Nat→List Y→LHp→Prop,W 0 [] L1∧(∀ i zs L,W i zs L→keep L)∧
  (∀ i y zs L,ys[i]?=some y→W i zs L→g y (τ++List.replicate n none) L fun τ2 L2=>tc τ2 L2 fun b L3=>kh b (te τ2 L3 fun z L4=>Frg (W (i+1)) (zs++[z]) L4) (Frg (W (i+1)) zs L3))∧
  ∀ zs L,W ys.length zs L→∀ p,L p=none→Q (.ref p) (qe L p (.lst zs)):=by unfold lcK at h;exact h
def yLC (n:Nat) (wi:TI3) (g:TG3) (tc:TT3) (te:TE3) (τ:St3) (L:LHp) (Q:YK):Prop:=wi τ L fun ys keep L1=>lcK ys keep n g tc te τ L1 Q
abbrev Sp3:=List Y→LHp→YK→Prop
def qw (sp:Sp3) (t:TA3) (τ:St3) (L:LHp) (Q:YK):Prop:=t τ L fun ys L1=>sp ys L1 Q
def js (x:Y) (vs:List Y) (L:LHp) (Q:YK):Prop:=match x,vs with
  | .ref a,[v]=>adb L a fun ys=>ys.length<sizeLine∧Q .non (qe L a (.lst (ys++[v])))
  | _,_=>False
def ada (x:Y) (vs:List Y) (L:LHp) (Q:YK):Prop:=match x,vs with
  | .ref a,[.ref b]=>adb L a fun ys=>adb L b fun zs=>ys.length+zs.length≤sizeLine∧Q .non (qe L a (.lst (ys++zs)))
  | _,_=>False
end L3
namespace L3
open PySem L2
section
variable {G:G3} {H:Hp} {L:LHp}
theorem OpR.imp {X:Cx} {f:Value→Value→Sem Value} {r r':R2} (h:OpR X f r) (q:∀ x y H Q,r' x y H Q→r x y H Q):OpR X f r':=fun pins s σ H x y v u Q I rx ry z=>h pins s σ H x y v u Q I rx ry (q x y H Q z)
theorem UnR.imp {X:Cx} {f:Value→Sem Value} {r r':V→Hp→VK→Prop} (h:UnR X f r) (q:∀ x H Q,r' x H Q→r x H Q):UnR X f r':=fun pins s σ H x v Q I rx z=>h pins s σ H x v Q I rx (q x H Q z)
theorem CallR.imp {X:Cx} {f:Value} {r r':List V→Hp→VK→Prop} (h:CallR X f r) (q:∀ x H Q,r' x H Q→r x H Q):CallR X f r':=fun pins s σ H x v Q I rx z=>h pins s σ H x v Q I rx (q x H Q z)
theorem IxR.imp {X:Cx} {r r':R2} (h:IxR X r) (q:∀ x y H Q,r' x y H Q→r x y H Q):IxR X r':=fun value slice pins s σ H x y v u Q I rx ry z=>h value slice pins s σ H x y v u Q I rx ry (q x y H Q z)
theorem MtM.imp {X:Cx} {id:String} {r r':V→List V→Hp→VK→Prop} (h:MtM X id r) (q:∀ x xs H Q,r' x xs H Q→r x xs H Q):MtM X id r':=fun pins s σ H x xs v us Q I rx ry z=>h pins s σ H x xs v us Q I rx ry (q x xs H Q z)
theorem anr {y:Y} {v:V} {ys:List Y} (rl:RelH G H L) (r:RV G H y v) (h:ab4 L y=some ys):∃ p xs,v=.ref p∧(SqL G.K H p xs∨SqT G.K H p xs)∧RVs G H ys xs:=by
  cases y with
  | tup zs=>
    obtain ⟨a,xs,e,s,q⟩:=r
    cases h
    exact ⟨a,xs,e,.inr s,q⟩
  | sq zs=>
    obtain ⟨a,xs,e,s,q⟩:=r
    cases h
    exact ⟨a,xs,e,.inl s.sq,q⟩
  | ref a=>
    cases (show v=.ref a from r)
    have h':(match L a with | some (.lst ys)=>some ys | _=>none)=some ys:=h
    split at h'
    · rename_i zs e
      cases h'
      obtain ⟨xs,e2,q⟩:=rl a _ e
      exact ⟨a,xs,rfl,.inl (SqL.of e2),q⟩
    · cases h'
  | _=>cases h
theorem azt {ys:List Y} {xs:List V} {i:Int} {y:Y} (s:RVs G H ys xs) (h:atI ys i=some y):∃ x,atI xs i=some x∧RV G H y x:=by
  unfold atI at h ⊢
  rw [← s.length]
  cases e:ixN ys.length i with
  | none=>rw [e] at h;cases h
  | some j=>
    rw [e] at h
    exact s.get (i:=j) h
end
section
variable {X:Cx} {a b c e:Expr} {ta tb tc te:TE3} {pos:Pos}
abbrev QE (X:Cx) (e:Expr) (t:TE3):Prop:=PE X e (upE X.g3 t)
abbrev QT (X:Cx) (e:Expr) (t:TT3):Prop:=PT X e (upT X.g3 t)
abbrev QW (X:Cx) (e:Expr) (t:TT3):Prop:=PW X e (upT X.g3 t)
abbrev QA (X:Cx) (es:List Expr) (t:TA3):Prop:=PA X es (upA X.g3 t)
abbrev QS (X:Cx) (st:Stmt) (t:TS3):Prop:=PS X st (upS X.g3 t)
abbrev QSs (X:Cx) (st:List Stmt) (t:TS3):Prop:=PSs X st (upS X.g3 t)
abbrev QG (X:Cx) (e:Expr) (g:TG3):Prop:=PG X e (upG X.g3 g)
abbrev QGs (X:Cx) (es:List Expr) (g:ape):Prop:=PGs X es (a4e X.g3 g)
abbrev QI (X:Cx) (tg it:Expr) (w:TI3):Prop:=PI X tg it (upI X.g3 w)
abbrev QF (X:Cx) (es:List Expr) (t:TT3):Prop:=PF X es (upT X.g3 t)
theorem QE.of_var {i:Nat} (h:PE X e (a1f i)):QE X e (qb i):=PE.imp h fun σ H Q ⟨τ,L,Q3,rs,rl,z,k⟩=>by
  unfold qb at z
  split at z
  · rename_i y ey
    obtain ⟨v,ev,rv⟩:=rs.get i y (aoy _ _ ey)
    exact ⟨v,ev,k v H y L (TSt.refl _) rl rv z⟩
  · exact z.elim
theorem QE.of_c {v:V} {y:Y} (h:PE X e (tC v)) (q:∀ H,RV X.g3 H y v):QE X e (yC y):=PE.imp h fun σ H Q ⟨τ,L,Q3,rs,rl,z,k⟩=>k v H y L (TSt.refl _) rl (q H) z
theorem qv (i:Nat) {x:Str} {pos:Pos} (hN:X.N[i]?=some x:=by rfl) (hv:Vis X.env.scope x:=by first | exact Or.inl rfl | exact Or.inr (Or.inl rfl) | exact Or.inr (Or.inr rfl)) (hd:(x==("__debug__" : Str))=false:=by decide)
    (hcd:(x==("__classdict__" : Str))=false:=by decide):QE X (.Name x pos) (qb i):=QE.of_var (pv i hN hv hd hcd)
theorem an4 {j:Nat}:QE X (.Constant .none j pos) (yC .non):=QE.of_c aze fun _=>rfl
theorem aoo {b:Bool} {j:Nat}:QE X (.Constant (.bool b) j pos) (yC (.bl b)):=QE.of_c a1t fun _=>rfl
theorem qh {i:Int} {j:Nat}:QE X (.Constant (.int i) j pos) (yC (.int i)):=QE.of_c az0 fun _=>rfl
theorem jq {x:Str} {j:Nat}:QE X (.Constant (.str x) j pos) (yC (.str x)):=QE.of_c a0u fun _=>rfl
theorem a3b {x:Str} {c:Addr} {y:Y} (hg:Gl X x) (hm:X.mg x=some (.ref c)) (q:∀ H,RV X.g3 H y (.ref c)) (hd:(x==("__debug__" : Str))=false:=by decide):QE X (.Name x pos) (yC y):=QE.of_c (axs hg hm hd) q
theorem ap3 {G:G3} {r:R23} {ta tb:TE3} (σ:St) (H:Hp) (Q:VK):upE G (yOp r ta tb) σ H Q→tOp (upR G r) (upE G ta) (upE G tb) σ H Q:=fun ⟨τ,L,Q3,rs,rl,z,k⟩=>
  ⟨τ,L,_,rs,rl,z,fun v H1 y L1 t1 rl1 rv1 z1=>⟨τ,L1,_,rs.ts t1,rl1,z1,fun v2 H2 y2 L2 t2 rl2 rv2 z2=>⟨y,y2,L2,Q3,rv1.ts t2,rv2,rl2,z2,k.ts (t1.trans t2)⟩⟩⟩
theorem z7 {op:Operator} {r:R23} (h:OpR X (binaryOp op) (upR X.g3 r)) (ha:QE X a ta) (hb:QE X b tb):QE X (.BinOp a op b pos) (yOp r ta tb):=PE.imp (a1r h ha hb) ap3
theorem a2w {r:R23} (h:IxR X (upR X.g3 r)) (ha:QE X a ta) (hb:QE X b tb) (hp:agh b):QE X (.Subscript a b pos) (yOp r ta tb):=PE.imp (axv h ha hb hp) ap3
theorem aa0 {op:CmpOp} {r:R23} (h:OpR X (compareOp op) (upR X.g3 r)) (ha:QE X a ta) (hb:QE X b tb) (hm:behindInMarks op b=false):QE X (.Compare a [op] [b] pos) (yOp r ta tb):=PE.imp (av9 h ha hb hm) ap3
theorem a2s {G:G3} {t:TE3} (σ:St) (H:Hp) (Q:Bool→Hp→Prop):upT G (yB t) σ H Q→axm (upE G t) σ H Q:=fun ⟨τ,L,Q3,rs,rl,z,k⟩=>
  ⟨τ,L,_,rs,rl,z,fun v H1 y L1 t1 rl1 rv1 z1=>by
    cases y with
    | bl b=>exact ⟨b,rv1,k b H1 L1 t1 rl1 z1⟩
    | _=>exact z1.elim⟩
theorem axz {G:G3} {t:TE3} (σ:St) (H:Hp) (Q:Bool→Hp→Prop):upT G (yB t) σ H Q→L2.tB (upE G t) σ H Q:=a2s σ H Q
theorem aao {op:CmpOp} {r:R23} (h:OpR X (compareOp op) (upR X.g3 r)) (ha:QE X a ta) (hb:QE X b tb) (hm:behindInMarks op b=false):QT X (.Compare a [op] [b] pos) (yB (yOp r ta tb)):=
  PT.imp (awx h ha hb hm) fun σ H Q q=>by
    have q':=a2s σ H Q q
    obtain ⟨τ,L,Q3,rs,rl,z,k⟩:=q'
    exact ap3 σ H _ ⟨τ,L,Q3,rs,rl,z,k⟩
theorem xx (h:QE X e te) (he:∀ whole,isTrue e X.env whole=(do let v ← whole;standAt e.pos;holding [v] (truthy v)):=by intro _;rfl):QT X e (yB te):=PT.imp (azr h he) axz
theorem OpI {f:Value→Value→Sem Value} {C:Int→Int→Prop} {g:Int→Int→V} {g3:Int→Int→Y} (h:OpR X f (rI C g)) (e:∀ i j H,RV X.g3 H (g3 i j) (g i j)):OpR X f (upR X.g3 (yI C g3)):=OpR.imp h fun x y H Q ⟨x3,y3,L,Q3,rx,ry,rl,z,k⟩=>by
  cases x3 with
  | int i=>
    cases y3 with
    | int j=>exact ⟨i,j,rx,ry,z.1,k _ H _ L (TSt.refl _) rl (e i j H) z.2⟩
    | _=>exact z.elim
  | _=>cases y3<;>exact z.elim
theorem a0r {f:Value→Value→Sem Value} {g:Int→Int→V} {g3:Int→Int→Y} (h:OpR X f (rI0 g)) (e:∀ i j H,RV X.g3 H (g3 i j) (g i j)):OpR X f (upR X.g3 (yI0 g3)):=OpR.imp h fun x y H Q ⟨x3,y3,L,Q3,rx,ry,rl,z,k⟩=>by
  cases x3 with
  | int i=>
    cases y3 with
    | int j=>exact ⟨i,j,rx,ry,k _ H _ L (TSt.refl _) rl (e i j H) z⟩
    | _=>exact z.elim
  | _=>cases y3<;>exact z.elim
theorem ap6:OpR X (binaryOp .Sub) (upR X.g3 (yI0 fun i j=>.int (i - j))):=a0r ayx fun _ _ _=>rfl
theorem amy:OpR X (binaryOp .Mult) (upR X.g3 (yI CMul fun i j=>.int (i*j))):=OpI a0t fun _ _ _=>rfl
theorem ahc:OpR X (binaryOp .FloorDiv) (upR X.g3 (yI az2 fun i j=>.int (i / j))):=OpI axc fun _ _ _=>rfl
theorem adf:OpR X (binaryOp .Mod) (upR X.g3 (yI (fun _ j=>0<j) fun i j=>.int (i % j))):=OpI a16 fun _ _ _=>rfl
theorem a2k:OpR X (binaryOp .Pow) (upR X.g3 (yI a0m fun i j=>.int (i ^ j.toNat))):=OpI a1e fun _ _ _=>rfl
theorem a1h:OpR X (compareOp .Lt) (upR X.g3 (yI0 fun i j=>.bl (decide (i<j)))):=a0r a2u fun _ _ _=>rfl
theorem a2c:OpR X (compareOp .Gt) (upR X.g3 (yI0 fun i j=>.bl (decide (j<i)))):=a0r a1v fun _ _ _=>rfl
theorem xk:OpR X (binaryOp .Add) (upR X.g3 wn):=OpR.imp awd fun x y H Q ⟨x3,y3,L,Q3,rx,ry,rl,z,k⟩=>by
  cases x3 with
  | int i=>
    cases y3 with
    | int j=>cases rx;cases ry;exact k _ H _ L (TSt.refl _) rl (by rfl) z
    | _=>exact z.elim
  | str i=>
    cases y3 with
    | str j=>cases rx;cases ry;exact ⟨z.1,k _ H _ L (TSt.refl _) rl (by rfl) z.2⟩
    | _=>exact z.elim
  | ref a=>
    cases y3 with
    | ref b=>
      cases rx;cases ry
      obtain ⟨ys,zs,e1,e2,hz,q⟩:=z
      obtain ⟨xs,h1,r1⟩:=rl a _ e1
      obtain ⟨us,h2,r2⟩:=rl b _ e2
      refine ⟨xs,us,h1,h2,by rw [← r1.length,← r2.length];exact hz,fun p hp=>?_⟩
      exact k _ _ _ _ (TSt.new hp) (rl.newL hp (r1.app r2)) (by rfl) (q p (rl.none hp))
    | _=>exact z.elim
  | _=>cases y3<;>exact z.elim
theorem ame {kvs:List (Str×Str)} {k x:Str} (h:kvs.lookup k=some x):ace (kvs.map fun p=>((Sum.inr p.1:Key),V.str p.2)) (Sum.inr k)=some (V.str x):=by
  induction kvs with
  | nil=>simp at h
  | cons p r ih=>
    obtain ⟨a,b⟩:=p
    unfold ace
    rw [List.map_cons,List.find?_cons]
    rw [List.lookup_cons] at h
    by_cases c:k=a
    · subst c
      simp at h
      simp [h]
    · have c1:(k==a)=false:=by simpa using c
      rw [c1] at h
      have c2:decide ((Sum.inr a:Key)=Sum.inr k)=false:=decide_eq_false fun z=>c (Sum.inr.inj z).symm
      simp only [c2]
      exact ih h
theorem aej {G:G3} {H:Hp} {kvs:List (Key×Y)} {xs:List (Key×V)} {k:Key} {y:Y} (p:Paired (fun (p:Key×Y) (q:Key×V)=>p.1=q.1∧RV G H p.2 q.2) kvs xs) (h:kl kvs k=some y):∃ x,ace xs k=some x∧RV G H y x:=by
  induction p with
  | nil=>cases h
  | @cons a b _ _ r t ih=>
    obtain ⟨ka,ya⟩:=a
    obtain ⟨kb,vb⟩:=b
    obtain ⟨e,r⟩:=r
    cases (show ka=kb from e)
    unfold kl at h
    unfold ace
    rw [List.find?_cons] at h ⊢
    by_cases c:ka=k
    · have c':decide (ka=k)=true:=decide_eq_true c
      simp only [c'] at h ⊢
      cases h
      exact ⟨vb,rfl,r⟩
    · have c':decide (ka=k)=false:=decide_eq_false c
      simp only [c'] at h ⊢
      exact ih h
theorem axo (K:PySem.W.Frag) (P:Program) (w:World) (hK:X.K=K:=by rfl) (hP:X.prog=P:=by rfl) (hw:X.w=w:=by rfl):IxR X (upR ⟨K,P,w⟩ yIx):=by
  subst hK hP hw
  refine IxR.imp a3y fun x y H Q ⟨x3,y3,L,Q3,rx,ry,rl,z,k⟩=>?_
  have seq:∀ {i:Int} {x3:Y},RV X.g3 H x3 x→y=.int i→(agw L x3 fun ys=>atK L Q3 (atI ys i))→uIx X.K X.prog X.w x y H Q:=by
    intro i x3 rx ey z
    subst ey
    obtain ⟨ys,es,z⟩:=we z
    obtain ⟨p,xs,e,sq,rv⟩:=anr rl rx es
    subst e
    cases ea:atI ys i with
    | none=>rw [ea] at z;exact z.elim
    | some y=>
      rw [ea] at z
      obtain ⟨x,ex,rvx⟩:=azt rv ea
      exact ⟨xs,x,sq,ex,k _ H _ L (TSt.refl _) rl rvx z⟩
  cases x3 with
  | str s=>
    cases y3 with
    | int i=>
      cases rx;cases ry
      obtain ⟨z1,z2⟩:=z
      cases ea:atI s.cps.toList i with
      | none=>rw [ea] at z2;exact z2.elim
      | some c=>rw [ea] at z2;exact ⟨z1,c,ea,k _ H _ L (TSt.refl _) rl (by rfl) z2⟩
    | _=>exact z.elim
  | cd kvs=>
    cases y3 with
    | str s=>
      obtain ⟨a,ea,kd⟩:=rx
      cases ea;cases ry
      have z':atK L (fun s L=>Q3 (.str s) L) (kvs.lookup s):=z
      cases el:kvs.lookup s with
      | none=>rw [el] at z';exact z'.elim
      | some t=>rw [el] at z';exact ⟨_,_,.inr kd,ame el,k _ H _ L (TSt.refl _) rl (by rfl) z'⟩
    | int i=>exact z.elim
    | _=>exact z.elim
  | ref a=>
    cases y3 with
    | int i=>exact seq (x3:=.ref a) rx ry z
    | str s=>
      cases rx;cases ry
      obtain ⟨kvs,e,z'⟩:=abt z
      obtain ⟨xs,e2,pr⟩:=rl a _ e
      cases ev:kl kvs (Sum.inr s) with
      | none=>rw [ev] at z';exact z'.elim
      | some y=>
        rw [ev] at z'
        obtain ⟨x,ex,rx⟩:=aej pr ev
        exact ⟨xs,x,.inl (.inl e2),ex,k _ H _ L (TSt.refl _) rl rx z'⟩
    | _=>exact z.elim
  | tup ys=>
    cases y3 with
    | int i=>exact seq (x3:=.tup ys) rx ry z
    | _=>exact z.elim
  | sq ys=>
    cases y3 with
    | int i=>exact seq (x3:=.sq ys) rx ry z
    | _=>exact z.elim
  | _=>cases y3<;>exact z.elim
theorem RVs.inv1 {G:G3} {H:Hp} {y:Y} {xs:List V} (h:RVs G H [y] xs):∃ x,xs=[x]∧RV G H y x:=by
  obtain ⟨x,xs',e,r,s⟩:=h
  cases (show xs'=[] from s)
  exact ⟨x,e,r⟩
theorem RVs.inv2 {G:G3} {H:Hp} {y y':Y} {xs:List V} (h:RVs G H [y,y'] xs):∃ x x',xs=[x,x']∧RV G H y x∧RV G H y' x':=by
  obtain ⟨x,xs',e,r,s⟩:=h
  obtain ⟨x',e',r'⟩:=s.inv1
  exact ⟨x,x',by rw [e,e'],r,r'⟩
theorem xw (K:PySem.W.Frag) (P:Program) (w:World) (hK:X.K=K:=by rfl) (hP:X.prog=P:=by rfl) (hw:X.w=w:=by rfl):CallR X (.builtin "len") (upL ⟨K,P,w⟩ abj):=by
  subst hK hP hw
  refine CallR.imp aqx fun xs H Q ⟨ys,L,Q3,rv,rl,z,k⟩=>?_
  unfold abj at z
  split at z
  · obtain ⟨x,rfl,r⟩:=rv.inv1
    cases r
    exact ⟨z.1,k _ H _ L (TSt.refl _) rl (by rfl) z.2⟩
  · rename_i y _
    obtain ⟨x,rfl,r⟩:=rv.inv1
    obtain ⟨ys,es,z⟩:=we z
    obtain ⟨p,us,e,sq,rw'⟩:=anr rl r es
    subst e
    refine ⟨us,sq,?_⟩
    rw [← rw'.length]
    exact k _ H _ L (TSt.refl _) rl (by rfl) z
  · exact z.elim
theorem ayh (i j:Int):(if j > i then j else i)=max i j:=by split<;>omega
theorem a01 (i j:Int):(if j<i then j else i)=min i j:=by split<;>omega
theorem a34 (hc:X.calm=true:=by rfl):CallR X (.builtin "max") (upL X.g3 azs):=CallR.imp (aqu hc) fun xs H Q ⟨ys,L,Q3,rv,rl,z,k⟩=>by
  unfold azs at z
  split at z
  · rename_i i j
    obtain ⟨x,x',rfl,r1,r2⟩:=rv.inv2
    cases r1;cases r2
    refine ⟨i,j,rfl,?_⟩
    rw [ayh]
    exact k _ H _ L (TSt.refl _) rl (by rfl) z
  · exact z.elim
theorem a1n (hc:X.calm=true:=by rfl):CallR X (.builtin "min") (upL X.g3 ayn):=CallR.imp (aq3 hc) fun xs H Q ⟨ys,L,Q3,rv,rl,z,k⟩=>by
  unfold ayn at z
  split at z
  · rename_i i j
    obtain ⟨x,x',rfl,r1,r2⟩:=rv.inv2
    cases r1;cases r2
    refine ⟨i,j,rfl,?_⟩
    rw [a01]
    exact k _ H _ L (TSt.refl _) rl (by rfl) z
  · exact z.elim
theorem arm:UnR X (unaryOp .USub) (upU X.g3 aws):=UnR.imp a0e fun x H Q ⟨y,L,Q3,rv,rl,z,k⟩=>by
  cases y with
  | int i=>exact ⟨i,rv,k _ H _ L (TSt.refl _) rl (by rfl) z⟩
  | _=>exact z.elim
theorem asv {op:UnaryOp} {r:Y→LHp→YK→Prop} (h:UnR X (unaryOp op) (upU X.g3 r)) (ha:QE X a ta):QE X (.UnaryOp op a pos) (yUn r ta):=PE.imp (a2z h ha) fun σ H Q ⟨τ,L,Q3,rs,rl,z,k⟩=>
  ⟨τ,L,_,rs,rl,z,fun v H1 y L1 t1 rl1 rv1 z1=>⟨y,L1,Q3,rv1,rl1,z1,k.ts t1⟩⟩
end
end L3
namespace L3
open PySem L2
section
variable {X:Cx} {a b c e:Expr} {ta tb tc te:TE3} {pos:Pos}
theorem abf {G:G3} {H:Hp} {L:LHp} {a:Addr} {ys:List Y} (rl:RelH G H L) (h:ab4 L (.ref a)=some ys):∃ xs,SqL G.K H a xs∧RVs G H ys xs:=by
  have h':(match L a with | some (.lst ys)=>some ys | _=>none)=some ys:=h
  split at h'
  · rename_i e
    cases h'
    obtain ⟨xs,e2,q⟩:=rl a _ e
    exact ⟨xs,SqL.of e2,q⟩
  · cases h'
theorem ac9 {G:G3} {H:Hp} {L:LHp} {y:Y} {v:V} {ys:List Y} (rl:RelH G H L) (r:RV G H y v) (hy:alz y=true) (h:ab4 L y=some ys):∃ a xs,v=.ref a∧SqL G.K H a xs∧RVs G H ys xs:=by
  cases y with
  | ref a=>obtain ⟨xs,s,q⟩:=abf rl h;exact ⟨a,xs,r,s,q⟩
  | sq zs=>obtain ⟨a,xs,e,s,q⟩:=r;cases h;exact ⟨a,xs,e,s.sq,q⟩
  | _=>cases hy
theorem aqd {G:G3} {H:Hp} {L:LHp} {y:Y} {v:V} {u:Value} {T:Ty3} {pins:List (Addr×Obj)} {σ:L2.St} {s:Shared} (I:Inv X pins σ H s) (rl:RelH X.g3 H L) (r:RV X.g3 H y v) (ru:RelV v u) (h:tyY L y=some T)
    {A:Around} {E:Value→Shared→Prop} {Q:Value→Shared→Prop} {c:Value} {b:Bool} (e:PySem.W.kitOne X.K (.type T.nm) c=some b) (hq:∀ tk,Q (.bool b) { s with toks:=tk }):
    wpAny (model X.prog X.w) A (call (.builtin "isinstance") [u,c]) Q E s:=by
  cases y with
  | non=>cases h;cases r;exact w9 I ru .non e hq
  | bl b=>cases h;cases r;exact w9 I ru (.bl _) e hq
  | int i=>cases h;cases r;exact w9 I ru (.int _) e hq
  | str x=>cases h;cases r;exact w9 I ru (.str _) e hq
  | tup ys=>
    cases h
    obtain ⟨a,xs,rfl,sq,_⟩:=r
    cases (show u=Value.ref a from ru)
    obtain ⟨its,_,⟨o,h1,h2,_⟩,_⟩:=I.tuple sq
    exact PySem.W.kia_one PySem.W.kitx_tuple I.kIn ⟨o,h1,h2⟩ e (fun z=>nomatch z) hq
  | sq ys=>
    cases h
    obtain ⟨a,xs,rfl,sq,_⟩:=r
    cases (show u=Value.ref a from ru)
    obtain ⟨its,_,⟨o,n,h1,h2,_⟩,_⟩:=I.list sq.sq
    exact PySem.W.kia_one PySem.W.kitx_list I.kIn ⟨o,h1,h2⟩ e (fun z=>nomatch z) hq
  | ref a=>
    cases (show v=.ref a from r)
    have h':(match L a with | some (.lst _)=>some Ty3.list | some (.dct _)=>some .dict | _=>none)=some T:=h
    split at h'
    · rename_i ys el
      cases h'
      obtain ⟨xs,e2,_⟩:=rl a _ el
      exact w9 I ru (.lst e2) e hq
    · rename_i kvs el
      cases h'
      obtain ⟨xs,e2,_⟩:=rl a _ el
      exact w9 I ru (.dK e2) e hq
    · cases h'
  | _=>cases h
theorem av4 (K:PySem.W.Frag):∀ T S:Ty3,PySem.W.kitOne K (.type T.nm) (.type S.nm)=some (aug T S):=by
  intro T S
  cases T<;>cases S<;>rfl
def azb (G:G3) (S:Ty3):List V→Hp→VK→Prop:=fun xs H Q=>∃ y v L Q3 T,xs=[v,.ty S.nm]∧RV G H y v∧RelH G H L∧tyY L y=some T∧Q3 (.bl (aug T S)) L∧Aft G H Q3 Q
theorem a0k (S:Ty3):CallR X (.builtin "isinstance") (azb X.g3 S):=by
  intro pins s σ H xs us Q I r h
  obtain ⟨y,v,L,Q3,T,rfl,rv,rl,ty,q,k⟩:=h
  obtain ⟨u,c,rfl,r1,r2⟩:=Vals.two r
  cases (show c=Value.type S.nm from r2)
  exact j9 I.tk (aqd (G:=X.g3) I rl rv r1 ty (av4 _ T S) fun tk ht=>⟨.bl _,H,I.tok _,rfl,k _ H _ L (TSt.refl _) rl (by rfl) q⟩)
theorem auk {p p1:Pos} {xT:Str} (S:Ty3) (hg:Gl X "isinstance") (hm:X.mg "isinstance" = none) (hgT:Gl X xT) (hmT:X.mg xT=none) (hvT:bootBuiltins xT=some (.type S.nm)) (ha:QE X a ta)
    (hn:xT ≠ "__name__" := by decide) (hd:(xT==("__debug__" : Str))=false:=by decide)
    (hs:starEach [a,.Name xT p1] X.env=(false,eval a X.env)::starEach [.Name xT p1] X.env:=by rfl) (hs2:starEach [.Name xT p1] X.env=(false,eval (.Name xT p1) X.env)::starEach [] X.env:=by rfl)
    (hp:(backTo pos (starEach [.Name xT p1] X.env)).any (·.1)=false:=by rfl):
    QE X (.Call (.Name "isinstance" p) [a,.Name xT p1] [] pos) (aya S ta):=by
  refine PE.imp (ahf (a0k S) hg hm acl (wq ha (wq (ayb hgT hmT hvT hn hd) aem hs2) hs) (by decide) (by decide) hs hp) ?_
  rintro σ H Q ⟨τ,L,Q3,rs,rl,z,k⟩
  refine ⟨τ,L,_,rs,rl,z,fun v H1 y L1 t1 rl1 rv1 z1=>?_⟩
  obtain ⟨T,et,z1⟩:=as7 z1
  exact ⟨y,v,L1,Q3,T,rfl,rv1,rl1,et,z1,k.ts t1⟩
def au7 (neg:Bool) (x y:Y) (L:LHp) (Q:YK):Prop:=agw L y fun ys=>afa x=true∧ys.all afa=true∧Q (.bl (nb neg (inV (toV x) (ys.map toV)))) L
theorem a38 (neg:Bool) {op:CmpOp} (h:OpR X (compareOp op) (rIn X.K neg)):OpR X (compareOp op) (upR X.g3 (au7 neg)):=OpR.imp h fun x y H Q ⟨x3,y3,L,Q3,rx,ry,rl,z,k⟩=>by
  obtain ⟨ys,es,f1,f2,q⟩:=we z
  obtain ⟨p,xs,e,sq,rv⟩:=anr rl ry es
  rw [rx.flat f1]
  rw [rv.flat f2] at sq
  refine ⟨p,_,e,sq,ad0 f1,?_,?_⟩
  · rw [List.all_map,List.all_eq_true]
    intro y hy
    exact ad0 (List.all_eq_true.mp f2 y hy)
  · have:(if neg=true then !inV (toV x3) (ys.map toV) else inV (toV x3) (ys.map toV))=(nb neg (inV (toV x3) (ys.map toV))):=by cases neg<;>simp [nb]
    rw [this]
    exact k _ H _ L (TSt.refl _) rl (by rfl) q
theorem a2o (K:PySem.W.Frag) (P:Program) (w:World) (hK:X.K=K:=by rfl) (hP:X.prog=P:=by rfl) (hw:X.w=w:=by rfl):OpR X (compareOp .In) (upR ⟨K,P,w⟩ (au7 false)):=by subst hK hP hw;exact a38 false aps
theorem aza (K:PySem.W.Frag) (P:Program) (w:World) (hK:X.K=K:=by rfl) (hP:X.prog=P:=by rfl) (hw:X.w=w:=by rfl):OpR X (compareOp .NotIn) (upR ⟨K,P,w⟩ (au7 true)):=by subst hK hP hw;exact a38 true ajy
theorem DatN.rep {G:G3} {H:Hp} {L:LHp} (rl:RelH G H L):∀ {n:Nat} {y:Y} {d:Da} {v:V},DatN L n y d→RV G H y v→jy G.K H n v d
  | 0,y,d,v,⟨f,e⟩,r=>by
    rw [r.flat f];exact ⟨e,ad0 f⟩
  | n+1,y,d,v,h,r=>by
    have both:∀ {ys:List Y} {ds:List Da} {xs:List V},Paired (DatN L n) ys ds→RVs G H ys xs→Paired (jy G.K H n) xs ds:=by
      intro ys ds xs p
      induction p generalizing xs with
      | nil=>intro r;cases (show xs=[] from r);exact .nil
      | cons q t ih=>
        rintro ⟨x,xs',rfl,r1,r2⟩
        exact .cons (DatN.rep rl q r1) (ih r2)
    rcases h with ⟨f,e⟩ | ⟨ys,ds,rfl,rfl,p⟩ | ⟨ys,ds,hy,rfl,es,p⟩
    · rw [r.flat f];exact .inl ⟨e,ad0 f⟩
    · obtain ⟨a,xs,rfl,sq,rv⟩:=r
      exact .inr (.inl ⟨a,xs,ds,rfl,rfl,sq,both p rv⟩)
    · obtain ⟨a,xs,rfl,sq,rv⟩:=ac9 rl r hy es
      exact .inr (.inr ⟨a,xs,ds,rfl,rfl,sq,both p rv⟩)
theorem ag0 {G:G3} {H:Hp} {y:Y} {v:V} (h:azh y=true) (r:RV G H y v):∃ a,v=.ref a:=by
  cases y with
  | ref a=>exact ⟨a,r⟩
  | tup ys=>obtain ⟨a,xs,e,_⟩:=r;exact ⟨a,e⟩
  | sq ys=>obtain ⟨a,xs,e,_⟩:=r;exact ⟨a,e⟩
  | _=>cases h
theorem ail (K:PySem.W.Frag) (P:Program) (w:World) (hu:X.A.units+128<cLine) (hK:X.K=K:=by rfl) (hP:X.prog=P:=by rfl) (hw:X.w=w:=by rfl):OpR X (compareOp .Eq) (upR ⟨K,P,w⟩ (yEq false)):=by
  subst hK hP hw
  refine OpR.imp (ays hu) fun x y H Q ⟨x3,y3,L,Q3,rx,ry,rl,z,k⟩=>?_
  unfold yEq at z
  split at z
  · rename_i i j
    cases rx;cases ry
    refine ⟨rfl,?_⟩
    have:decide (V.int i=V.int j)=nb false (decide (i=j)):=by rw [Bool.eq_iff_iff];simp [nb]
    rw [this]
    exact k _ H _ L (TSt.refl _) rl (by rfl) z
  · rename_i i j
    cases rx;cases ry
    refine ⟨rfl,?_⟩
    have:decide (V.str i=V.str j)=nb false (decide (i=j)):=by rw [Bool.eq_iff_iff];simp [nb]
    rw [this]
    exact k _ H _ L (TSt.refl _) rl (by rfl) z
  · rename_i i j
    cases rx;cases ry
    refine ⟨rfl,?_⟩
    have:decide (V.bl i=V.bl j)=nb false (decide (i=j)):=by rw [Bool.eq_iff_iff];simp [nb]
    rw [this]
    exact k _ H _ L (TSt.refl _) rl (by rfl) z
  · obtain ⟨f1,f2,n,m,d,e,hn,h1,h2,q⟩:=z
    obtain ⟨a,rfl⟩:=ag0 f1 rx
    obtain ⟨b,rfl⟩:=ag0 f2 ry
    have q:Q3 (.bl (Da.eq d e)) L:=q
    exact ⟨n,m,d,e,hn,h1.rep rl rx,h2.rep rl ry,k _ H _ L (TSt.refl _) rl (by rfl) q⟩
theorem asq (K:PySem.W.Frag) (P:Program) (w:World) (hu:X.A.units+128<cLine) (hK:X.K=K:=by rfl) (hP:X.prog=P:=by rfl) (hw:X.w=w:=by rfl):OpR X (compareOp .NotEq) (upR ⟨K,P,w⟩ (yEq true)):=by
  subst hK hP hw
  refine OpR.imp (ayv hu) fun x y H Q ⟨x3,y3,L,Q3,rx,ry,rl,z,k⟩=>?_
  unfold yEq at z
  split at z
  · rename_i i j
    cases rx;cases ry
    refine ⟨rfl,?_⟩
    have:(!decide (V.int i=V.int j))=nb true (decide (i=j)):=by show _=!_;congr 1;rw [Bool.eq_iff_iff];simp
    rw [this]
    exact k _ H _ L (TSt.refl _) rl (by rfl) z
  · rename_i i j
    cases rx;cases ry
    refine ⟨rfl,?_⟩
    have:(!decide (V.str i=V.str j))=nb true (decide (i=j)):=by show _=!_;congr 1;rw [Bool.eq_iff_iff];simp
    rw [this]
    exact k _ H _ L (TSt.refl _) rl (by rfl) z
  · rename_i i j
    cases rx;cases ry
    refine ⟨rfl,?_⟩
    have:(!decide (V.bl i=V.bl j))=nb true (decide (i=j)):=by show _=!_;congr 1;rw [Bool.eq_iff_iff];simp
    rw [this]
    exact k _ H _ L (TSt.refl _) rl (by rfl) z
  · obtain ⟨f1,f2,n,m,d,e,hn,h1,h2,q⟩:=z
    obtain ⟨a,rfl⟩:=ag0 f1 rx
    obtain ⟨b,rfl⟩:=ag0 f2 ry
    have q:Q3 (.bl (!Da.eq d e)) L:=q
    exact ⟨n,m,d,e,hn,h1.rep rl rx,h2.rep rl ry,k _ H _ L (TSt.refl _) rl (by rfl) q⟩
theorem RV.non_iff {G:G3} {H:Hp} {y:Y} {v:V} (r:RV G H y v):decide (v=.non)=(match y with | .non=>true | _=>false):=by
  cases y with
  | non=>cases r;rfl
  | cd kvs=>obtain ⟨a,rfl,_⟩:=r;rfl
  | tup ys=>obtain ⟨a,xs,rfl,_⟩:=r;rfl
  | sq ys=>obtain ⟨a,xs,rfl,_⟩:=r;rfl
  | _=>cases r;rfl
theorem aym {G:G3} (σ:L2.St) (H:Hp) (Q:VK):upE G (ai9 false ta) σ H Q→a3c (upE G ta) σ H Q:=fun ⟨τ,L,Q3,rs,rl,z,k⟩=>
  ⟨τ,L,_,rs,rl,z,fun v H1 y L1 t1 rl1 rv1 z1=>by
    dsimp only
    rw [rv1.non_iff]
    cases y<;>exact k _ H1 _ L1 t1 rl1 (by rfl) z1⟩
theorem avo {G:G3} (σ:L2.St) (H:Hp) (Q:VK):upE G (ai9 true ta) σ H Q→ay7 (upE G ta) σ H Q:=fun ⟨τ,L,Q3,rs,rl,z,k⟩=>
  ⟨τ,L,_,rs,rl,z,fun v H1 y L1 t1 rl1 rv1 z1=>by
    dsimp only
    rw [rv1.non_iff]
    cases y<;>exact k _ H1 _ L1 t1 rl1 (by rfl) z1⟩
theorem axl {G:G3} {t:TE} (h:∀ σ H Q,upE G te σ H Q→t σ H Q) (σ:L2.St) (H:Hp) (Q:Bool→Hp→Prop):upT G (yB te) σ H Q→L2.tB t σ H Q:=fun q=>h σ H _ (axz σ H Q q)
theorem ara {j:Nat} {pos':Pos} (h:QE X a ta):QT X (.Compare a [.Is] [.Constant .none j pos'] pos) (yB (ai9 false ta)):=PT.imp (arw (azl h)) (axl aym)
theorem agg {j:Nat} {pos':Pos} (h:QE X a ta):QT X (.Compare a [.IsNot] [.Constant .none j pos'] pos) (yB (ai9 true ta)):=PT.imp (arw (av1 h)) (axl avo)
end
end L3
namespace L3
open PySem L2
section
variable {X:Cx} {a b c e:Expr} {es rest:List Expr} {ta tb tc te:TE3} {tA tB:TT3} {tr:TA3} {pos:Pos}
theorem avw (h:QT X a tA):QW X (.BoolOp .And [a] pos) tA:=ax3 h
theorem ajz (h:QT X a tA):QW X (.BoolOp .Or [a] pos) tA:=ayw h
theorem azk (h:QT X a tA) (k:QW X (.BoolOp .And (b::rest) pos) tB):QW X (.BoolOp .And (a::b::rest) pos) (a2g tA tB):=PW.imp (azd h k) fun σ H Q ⟨τ,L,Q3,rs,rl,z,k⟩=>
  ⟨τ,L,_,rs,rl,z,fun c H1 L1 t1 rl1 z1=>by
    cases c with
    | true=>rw [if_pos rfl];exact ⟨τ,L1,Q3,rs.ts t1,rl1,z1,k.ts t1⟩
    | false=>rw [if_neg Bool.false_ne_true];exact k _ H1 L1 t1 rl1 z1⟩
theorem al7 (h:QT X a tA) (k:QW X (.BoolOp .Or (b::rest) pos) tB):QW X (.BoolOp .Or (a::b::rest) pos) (yOr tA tB):=PW.imp (a1m h k) fun σ H Q ⟨τ,L,Q3,rs,rl,z,k⟩=>
  ⟨τ,L,_,rs,rl,z,fun c H1 L1 t1 rl1 z1=>by
    cases c with
    | true=>rw [if_pos rfl];exact k _ H1 L1 t1 rl1 z1
    | false=>rw [if_neg Bool.false_ne_true];exact ⟨τ,L1,Q3,rs.ts t1,rl1,z1,k.ts t1⟩⟩
theorem akz (h:QW X a tA):QT X a tA:=PW.pt h
theorem akw (h:QT X a tA):QT X (.UnaryOp .Not a pos) (aty tA):=PT.imp (a07 h) fun σ H Q ⟨τ,L,Q3,rs,rl,z,k⟩=>
  ⟨τ,L,_,rs,rl,z,fun c H1 L1 t1 rl1 z1=>k _ H1 L1 t1 rl1 z1⟩
theorem ahi {op:BoolOp} (h:QE X a ta):QE X (.BoolOp op [a] pos) ta:=ayg h
theorem ae4 (h:QE X a ta) (k:QE X (.BoolOp .And (b::rest) pos) tb):QE X (.BoolOp .And (a::b::rest) pos) (agk ta tb):=PE.imp (ayt h k) fun σ H Q ⟨τ,L,Q3,rs,rl,z,k⟩=>
  ⟨τ,L,_,rs,rl,z,fun v H1 y L1 t1 rl1 rv1 z1=>by
    cases y with
    | bl c=>
      refine ⟨c,rv1,?_⟩
      have z2:kh c (tb τ L1 Q3) (Q3 (.bl false) L1):=z1
      cases c with
      | true=>rw [if_pos rfl];exact ⟨τ,L1,Q3,rs.ts t1,rl1,z2,k.ts t1⟩
      | false=>rw [if_neg Bool.false_ne_true];exact k _ H1 _ L1 t1 rl1 (by rfl) z2
    | _=>exact z1.elim⟩
theorem atu (h:QE X a ta):QE X (.UnaryOp .Not a pos) (ase ta):=PE.imp (a05 h) fun σ H Q ⟨τ,L,Q3,rs,rl,z,k⟩=>
  ⟨τ,L,_,rs,rl,z,fun v H1 y L1 t1 rl1 rv1 z1=>by
    cases y with
    | bl c=>exact ⟨c,rv1,k _ H1 _ L1 t1 rl1 (by rfl) z1⟩
    | _=>exact z1.elim⟩
theorem ard (h:QT X c tA) (ha:QE X a ta) (hb:QE X b tb):QE X (.IfExp c a b pos) (yIf tA ta tb):=PE.imp (auf h ha hb) fun σ H Q ⟨τ,L,Q3,rs,rl,z,k⟩=>
  ⟨τ,L,_,rs,rl,z,fun c H1 L1 t1 rl1 z1=>by
    cases c with
    | true=>rw [if_pos rfl];exact ⟨τ,L1,Q3,rs.ts t1,rl1,z1,k.ts t1⟩
    | false=>rw [if_neg Bool.false_ne_true];exact ⟨τ,L1,Q3,rs.ts t1,rl1,z1,k.ts t1⟩⟩
theorem vp:QA X [] qj:=PA.imp aem fun σ H Q ⟨τ,L,Q3,rs,rl,z,k⟩=>k _ H _ L (TSt.refl _) rl (by rfl) z
theorem w5 (h:QE X e te) (ht:QA X es tr) (hs:starEach (e::es) X.env=(false,eval e X.env)::starEach es X.env:=by rfl):QA X (e::es) (qa te tr):=PA.imp (wq h ht hs) fun σ H Q ⟨τ,L,Q3,rs,rl,z,k⟩=>
  ⟨τ,L,_,rs,rl,z,fun v H1 y L1 t1 rl1 rv1 z1=>⟨τ,L1,_,rs.ts t1,rl1,z1,fun vs H2 ys L2 t2 rl2 rv2 z2=>k (v::vs) H2 (y::ys) L2 (t1.trans t2) rl2 ⟨v,vs,rfl,rv1.ts t2,rv2⟩ z2⟩⟩
theorem ju {x1:Nat} (h:QA X es tr):QE X (.Tuple es x1 pos) (aah tr):=PE.imp (a0q h) fun σ H Q ⟨τ,L,Q3,rs,rl,z,k⟩=>
  ⟨τ,L,_,rs,rl,z,fun vs H1 ys L1 t1 rl1 rv1 z1=>by
    cases e:Nat.ble ys.length 1000 with
    | false=>rw [e] at z1;exact z1.elim
    | true=>
      rw [e] at z1
      have:=Nat.le_of_ble_eq_true e
      refine ⟨afh (by rw [← rv1.length];exact this),fun p hp=>?_⟩
      exact k _ _ (.tup ys) L1 (t1.trans (TSt.new hp)) (rl1.skip hp) ⟨p,vs,rfl,SqT.of zr,rv1.ts (TSt.new hp)⟩ z1⟩
theorem j7 (h:QA X es tr):QE X (.List es pos) (wf tr):=PE.imp (aue h) fun σ H Q ⟨τ,L,Q3,rs,rl,z,k⟩=>
  ⟨τ,L,_,rs,rl,z,fun vs H1 ys L1 t1 rl1 rv1 z1=>by
    cases e:Nat.ble ys.length 1000 with
    | false=>rw [e] at z1;exact z1.elim
    | true=>
      rw [e] at z1
      have:=Nat.le_of_ble_eq_true e
      refine ⟨afh (by rw [← rv1.length];exact this),fun p hp=>?_⟩
      exact k _ _ _ _ (t1.trans (TSt.new hp)) (rl1.newL hp rv1) (by rfl) (z1 p (rl1.none hp))⟩
theorem zf {x:Str} {p:Pos} {id:String} {r:List Y→LHp→YK→Prop} (hc:CallR X (.builtin id) (upL X.g3 r)) (hg:Gl X x) (hm:X.mg x=none) (hv:bootBuiltins x=some (.builtin id)) (h:QA X (e::es) tr)
    (hn:x ≠ "__name__" := by decide) (hd:(x==("__debug__" : Str))=false:=by decide) (hs:starEach (e::es) X.env=(false,eval e X.env)::starEach es X.env:=by rfl) (hp:(backTo pos (starEach es X.env)).any (·.1)=false:=by rfl):
    QE X (.Call (.Name x p) (e::es) [] pos) (yCB r tr):=PE.imp (ahf hc hg hm hv h hn hd hs hp) fun σ H Q ⟨τ,L,Q3,rs,rl,z,k⟩=>
  ⟨τ,L,_,rs,rl,z,fun vs H1 ys L1 t1 rl1 rv1 z1=>⟨ys,L1,Q3,rv1,rl1,z1,k.ts t1⟩⟩
def upO (G:G3) (t:TO3):TO:=fun σ H Q=>∃ τ L Q3,RelS G H σ τ∧RelH G H L∧t τ L Q3∧∀ (o:Option Int) H' L',TSt H H'→RelH G H' L'→Q3 o L'→Q o H'
abbrev QO (X:Cx) (e:Option Expr) (t:TO3):Prop:=PO X e (upO X.g3 t)
theorem PO.imp {X:Cx} {e:Option Expr} {t u:TO} (h:PO X e t) (q:∀ σ H Q,u σ H Q→t σ H Q):PO X e u:=fun pins s σ H Q I z=>h pins s σ H Q I (q σ H Q z)
theorem SlR.imp {X:Cx} {r r':V→Option Int→Option Int→Hp→VK→Prop} (h:SlR X r) (q:∀ x lo hi H Q,r' x lo hi H Q→r x lo hi H Q):SlR X r':=by
  intro pins s σ H x v vl vu lo hi sl Q I rx hs pl pu z
  exact h pins s σ H x v vl vu lo hi sl Q I rx hs pl pu (q _ _ _ _ _ z)
theorem aky:QO X none agc:=PO.imp avg fun σ H Q ⟨τ,L,Q3,rs,rl,z,k⟩=>k _ H L (TSt.refl _) rl z
theorem aka (h:QE X e te):QO X (some e) (aof te):=PO.imp (avb h) fun σ H Q ⟨τ,L,Q3,rs,rl,z,k⟩=>
  ⟨τ,L,_,rs,rl,z,fun v H1 y L1 t1 rl1 rv1 z1=>by
    cases y with
    | int i=>exact ⟨i,rv1,k _ H1 L1 t1 rl1 z1⟩
    | _=>exact z1.elim⟩
def azv (G:G3) (r:Y→Option Int→Option Int→LHp→YK→Prop):V→Option Int→Option Int→Hp→VK→Prop:=fun x lo hi H Q=>∃ y L Q3,RV G H y x∧RelH G H L∧r y lo hi L Q3∧Aft G H Q3 Q
theorem agp {lo hi:Option Expr} {tl th:TO3} {p2:Pos} {r:Y→Option Int→Option Int→LHp→YK→Prop} (h:SlR X (azv X.g3 r)) (ha:QE X a ta) (hl:QO X lo tl) (hh:QO X hi th):QE X (.Subscript a (.Slice lo hi none p2) pos) (ySl r ta tl th):=
  PE.imp (asy h ha hl hh) fun σ H Q ⟨τ,L,Q3,rs,rl,z,k⟩=>
  ⟨τ,L,_,rs,rl,z,fun v H1 y L1 t1 rl1 rv1 z1=>⟨τ,L1,_,rs.ts t1,rl1,z1,fun o H2 L2 t2 rl2 z2=>⟨τ,L2,_,rs.ts (t1.trans t2),rl2,z2,fun o' H3 L3 t3 rl3 z3=>⟨y,L3,Q3,rv1.ts (t2.trans t3),rl3,z3,k.ts (t1.trans (t2.trans t3))⟩⟩⟩⟩
theorem aov {G:G3} {H:Hp} {ys:List Y} {xs:List V} (r:RVs G H ys xs) (lo hi:Option Int):RVs G H (amn ys lo hi) (aqk xs lo hi):=by
  unfold amn aqk
  rw [r.length]
  exact (r.drop _).take _
theorem a1k (K:PySem.W.Frag) (P:Program) (w:World) (hK:X.K=K:=by rfl) (hP:X.prog=P:=by rfl) (hw:X.w=w:=by rfl):SlR X (azv ⟨K,P,w⟩ a1j):=by
  subst hK hP hw
  refine SlR.imp av6 fun x lo hi H Q ⟨y,L,Q3,rv,rl,z,k⟩=>?_
  cases y with
  | ref a=>
    obtain ⟨ys,es,z'⟩:=xr z
    obtain ⟨xs,sq,r⟩:=abf rl (zg es)
    exact ⟨a,xs,rv,sq,fun p hp=>k _ _ _ _ (TSt.new hp) (rl.newL hp (aov r lo hi)) (by rfl) (z' p (rl.none hp))⟩
  | sq ys=>
    obtain ⟨a,xs,e,sf,r⟩:=rv
    exact ⟨a,xs,e,sf.sq,fun p hp=>k _ _ _ _ (TSt.new hp) (rl.newL hp (aov r lo hi)) (by rfl) (z p (rl.none hp))⟩
  | _=>exact z.elim
end
section
variable {X:Cx} {a b c e tg iter:Expr} {es:List Expr} {ta tb tc te:TE3} {tA tB:TT3} {tr:TA3} {pos:Pos} {st:Stmt} {rest body orelse:List Stmt} {t u:TS3}
theorem zj:QSs X [] xj:=PSs.imp axf fun D σ H ⟨τ,L,D3,rs,rl,z,k⟩=>k.nx _ H _ L (TSt.refl _) rs rl z
theorem qg (h:QS X st t):QSs X [st] t:=ag6 h
theorem qc (h:QS X st t) (k:QSs X rest u):QSs X (st::rest) (qr t u):=PSs.imp (am1 h k) fun D σ H ⟨τ,L,D3,rs,rl,z,k⟩=>
  ⟨τ,L,{ D3 with nx:=u D3 },rs,rl,z,fun σ1 H1 τ1 L1 t1 rs1 rl1 z1=>⟨τ1,L1,D3,rs1,rl1,z1,k.ts t1⟩,k.rt,k.bk,k.ct⟩
theorem jt (h:QE X e te) (hs:swapsWith e none pos.line X.env=pure false:=by rfl):QS X (.Expr e pos) (v8 te):=PS.imp (ak7 h hs) fun D σ H ⟨τ,L,D3,rs,rl,z,k⟩=>
  ⟨τ,L,_,rs,rl,z,fun v H1 y L1 t1 rl1 rv1 z1=>k.nx _ H1 _ L1 t1 (rs.ts t1) rl1 z1⟩
theorem qp (h:QE X e te):QS X (.Return (some e) pos) (zu te):=PS.imp (a13 h) fun D σ H ⟨τ,L,D3,rs,rl,z,k⟩=>⟨τ,L,_,rs,rl,z,k.rt⟩
theorem xl (h:QT X c tA) (ha:QSs X body t) (hb:QSs X orelse u):QS X (.If c body orelse pos) (ku tA t u):=PS.imp (axp h ha hb) fun D σ H ⟨τ,L,D3,rs,rl,z,k⟩=>
  ⟨τ,L,_,rs,rl,z,fun c H1 L1 t1 rl1 z1=>by
    cases c with
    | true=>rw [if_pos rfl];exact ⟨τ,L1,D3,rs.ts t1,rl1,z1,k.ts t1⟩
    | false=>rw [if_neg Bool.false_ne_true];exact ⟨τ,L1,D3,rs.ts t1,rl1,z1,k.ts t1⟩⟩
theorem azg {i:Nat} {x:Str} {pos':Pos} (hN:X.N.Nodup) (hix:X.N[i]?=some x) (hx:Loc X.env.scope x) (h:QE X e te) (hsw:swapsWith e (some (.Name x pos')) pos.line X.env=pure false:=by rfl)
    (hfn:X.fn x=true∨X.env.scope.names.lookup x=some .local:=by first | exact .inl rfl | exact .inr rfl | assumption):QS X (.Assign [.Name x pos'] e pos) (zc te (qf i)):=PS.imp (a0b hN hix hx h hsw hfn) fun D σ H ⟨τ,L,D3,rs,rl,z,k⟩=>
  ⟨τ,L,_,rs,rl,z,fun v H1 y L1 t1 rl1 rv1 z1=>k.nx _ H1 _ L1 t1 (show RelS _ _ _ (afp τ i y) by rw [aa1];exact (rs.ts t1).set rv1) rl1 z1⟩
theorem PG.imp {X:Cx} {e:Expr} {t u:TG} (h:PG X e t) (q:∀ v σ H Q,u v σ H Q→t v σ H Q):PG X e u:=fun pins s σ H x v Q I r z=>h pins s σ H x v Q I r (q _ _ _ _ z)
theorem PGs.imp {X:Cx} {e:List Expr} {t u:TGs} (h:PGs X e t) (q:∀ v σ H Q,u v σ H Q→t v σ H Q):PGs X e u:=fun pins s σ H x v Q I r z=>h pins s σ H x v Q I r (q _ _ _ _ z)
theorem aok {i:Nat} {x:Str} (hN:X.N.Nodup) (hix:X.N[i]?=some x) (hx:Loc X.env.scope x) (hfn:X.fn x=true∨X.env.scope.names.lookup x=some .local:=by first | exact .inl rfl | exact .inr rfl | assumption):QG X (.Name x pos) (qf i):=
  PG.imp (ag3 hN hix hx hfn) fun v σ H Q ⟨y,τ,L,Q3,rv,rs,rl,z,k⟩=>k _ H _ L (TSt.refl _) (show RelS _ _ _ (afp τ i y) by rw [aa1];exact rs.set rv) rl z
theorem ad3:QGs X [] aa5:=PGs.imp aos fun vs σ H Q ⟨ys,τ,L,Q3,rv,rs,rl,z,k⟩=>by
  cases ys with
  | nil=>exact ⟨rv,k _ H _ L (TSt.refl _) rs rl z⟩
  | cons y r=>exact z.elim
theorem xq {g:TG3} {gs:ape} (h:QG X e g) (hs:QGs X es gs) (he:(assignEach (e::es) X.env).map (·.2)=assign e X.env::(assignEach es X.env).map (·.2):=by rfl):QGs X (e::es) (zp g gs):=
  PGs.imp (aha h hs he) fun vs σ H Q ⟨ys,τ,L,Q3,rv,rs,rl,z,k⟩=>by
  cases ys with
  | nil=>exact z.elim
  | cons y r=>
    obtain ⟨x,xs,rfl,r1,r2⟩:=rv
    exact ⟨x,xs,rfl,y,τ,L,_,r1,rs,rl,z,fun σ1 H1 τ1 L1 t1 rs1 rl1 z1=>⟨r,τ1,L1,Q3,r2.ts t1,rs1,rl1,z1,k.ts t1⟩⟩
theorem ai2 {gs:ape} {kk n:Nat} (hc:X.calm=true) (h:QGs X es gs) (h1:(assignEach es X.env).length=n:=by rfl) (h2:(assignEach es X.env).findIdx? (·.1)=none:=by rfl):QG X (.Tuple es kk pos) (ab9 n gs):=
  PG.imp (arb hc h h1 h2) fun v σ H Q ⟨y,τ,L,Q3,rv,rs,rl,z,k⟩=>by
  cases y with
  | tup ys=>
    obtain ⟨a,xs,rfl,sq,r⟩:=rv
    have z':(match ys.length==n with | true=>gs ys τ L Q3 | false=>False):=z
    split at z'
    · rename_i e
      exact ⟨a,xs,rfl,sq,by rw [← r.length];exact beq_iff_eq.mp e,ys,τ,L,Q3,r,rs,rl,z',k⟩
    · exact z'.elim
  | _=>exact z.elim
theorem ah9 (hp:PassesOwn (model X.prog X.w) X.A X.env X.xe) (h:QT X c tA) (hb:QSs X body t):QS X (.While c body [] pos) (ak1 tA t):=PS.imp (ar7 hp h hb) fun D σ H ⟨τ,L,D3,rs,rl,⟨W,⟨m0,w0⟩,turn⟩,k⟩=>by
  refine ⟨fun m σ1 H1=>∃ τ1 L1,TSt H H1∧RelS X.g3 H1 σ1 τ1∧RelH X.g3 H1 L1∧W m τ1 L1,⟨m0,τ,L,TSt.refl _,rs,rl,w0⟩,?_⟩
  rintro m σ1 H1 ⟨τ1,L1,t1,rs1,rl1,w1⟩
  refine ⟨τ1,L1,_,rs1,rl1,turn m τ1 L1 w1,fun b H2 L2 t2 rl2 z2=>?_⟩
  cases b with
  | false=>rw [if_neg Bool.false_ne_true];exact k.nx _ H2 _ L2 (t1.trans t2) (rs1.ts t2) rl2 z2
  | true=>
    rw [if_pos rfl]
    obtain ⟨N,hN,z2⟩:=z2
    refine ⟨fun σ' H'=>∃ τ' L',TSt H H'∧RelS X.g3 H' σ' τ'∧RelH X.g3 H' L'∧N τ' L',?_,?_⟩
    · rintro σ' H' ⟨τ',L',t',rs',rl',n'⟩
      obtain ⟨m',hm,w'⟩:=hN τ' L' n'
      exact ⟨m',hm,τ',L',t',rs',rl',w'⟩
    · have nx:AftS X.g3 H2 (Frg N) (fun σ' H'=>∃ τ' L',TSt H H'∧RelS X.g3 H' σ' τ'∧RelH X.g3 H' L'∧N τ' L'):=fun σ' H' τ' L' t' rs' rl' ⟨L5,s5,n'⟩=>⟨τ',L5,(t1.trans t2).trans t',rs',rl'.sub s5,n'⟩
      have k2:=k.ts (t1.trans t2)
      exact ⟨τ1,L2,_,rs1.ts t2,rl2,z2,nx,k2.rt,k2.nx,nx⟩
theorem vi {g:TG3} {wi:TI3} (hp:PassesOwn (model X.prog X.w) X.A X.env X.xe) (hc:X.calm=true) (hi:QI X tg iter wi) (hg:QG X tg g) (hb:QSs X body t) (hs:∀ x,foldedSetIterable iter X.env x=pure x:=by intro _;rfl):
    QS X (.For tg iter body [] pos) (acu wi g t):=PS.imp (a18 hp hc hi hg hb hs) fun D σ H ⟨τ,L,D3,rs,rl,z,k⟩=>by
  refine ⟨τ,L,_,rs,rl,z,fun J H1 ys keep L1 t1 rl1 yl zz=>?_⟩
  obtain ⟨W,w0,wk,turn,fin⟩:=at1 zz
  refine ⟨fun i m σ' H'=>∃ τ' L',i+m=ys.length∧TSt H1 H'∧RelS X.g3 H' σ' τ'∧RelH X.g3 H' L'∧W i τ' L',⟨ys.length,τ,L1,by omega,TSt.refl _,rs.ts t1,rl1,w0⟩,?_⟩
  rintro i m σ2 H2 ⟨τ2,L2,him,t2,rs2,rl2,w2⟩
  by_cases hlt:i<ys.length
  · refine .inr ⟨yl.go i H2 L2 t2 rl2 (wk i τ2 L2 w2) hlt,fun σ' H'=>∃ τ' L',TSt H1 H'∧RelS X.g3 H' σ' τ'∧RelH X.g3 H' L'∧W (i+1) τ' L',?_,?_⟩
    · rintro σ' H' ⟨τ',L',t',rs',rl',w'⟩
      exact ⟨m - 1,by omega,τ',L',by omega,t',rs',rl',w'⟩
    · intro x H3 y3
      have ey:ys[i]?=some ys[i]:=List.getElem?_eq_getElem hlt
      obtain ⟨t3,rl3,rv3⟩:=yl.yld i H2 L2 x H3 _ t2 rl2 (wk i τ2 L2 w2) ey y3
      refine ⟨ys[i],τ2,L2,_,rv3,rs2.ts t3,rl3,turn i _ τ2 L2 ey w2,fun σ4 H4 τ4 L4 t4 rs4 rl4 z4=>?_⟩
      have nx:AftS X.g3 H4 (Frg (W (i+1))) (fun σ' H'=>∃ τ' L',TSt H1 H'∧RelS X.g3 H' σ' τ'∧RelH X.g3 H' L'∧W (i+1) τ' L'):=fun σ' H' τ' L' t' rs' rl' ⟨L5,s5,n'⟩=>⟨τ',L5,((t2.trans t3).trans t4).trans t',rs',rl'.sub s5,n'⟩
      have k2:=k.ts (t1.trans ((t2.trans t3).trans t4))
      exact ⟨τ4,L4,_,rs4,rl4,z4,nx,k2.rt,k2.nx,nx⟩
  · have e:i=ys.length:=by omega
    subst e
    exact .inl ⟨yl.stop H2 L2 t2 rl2 (wk _ τ2 L2 w2),k.nx _ H2 _ L2 (t1.trans t2) rs2 rl2 (fin τ2 L2 w2)⟩
theorem PI.imp {X:Cx} {tg e:Expr} {t u:TI} (h:PI X tg e t) (q:∀ σ H Q,u σ H Q→t σ H Q):PI X tg e u:=fun pins s σ H Q I z=>h pins s σ H Q I (q σ H Q z)
theorem afj {G:G3} {H₀:Hp} {a:Addr} {ys:List Y} {keep:LHp→Prop} (h:∀ H L,TSt H₀ H→RelH G H L→keep L→∃ xs,SqL G.K H a xs∧RVs G H ys xs):Yields G H₀ (Itl G.K a) ys keep where
  go:=fun i H L t rl kp hi=>by
    obtain ⟨xs,sq,r⟩:=h H L t rl kp
    have:i<xs.length:=by rw [← r.length];exact hi
    exact ⟨xs,xs[i],sq,List.getElem?_eq_getElem this⟩
  yld:=fun i H L x H' y t rl kp hy ⟨e,f⟩=>by
    subst e
    obtain ⟨xs,sq,r⟩:=h _ L t rl kp
    obtain ⟨x',e',rv⟩:=r.get hy
    have:=f xs sq
    rw [e'] at this;cases this
    exact ⟨TSt.refl _,rl,rv⟩
  stop:=fun H L t rl kp=>by
    obtain ⟨xs,sq,r⟩:=h H L t rl kp
    exact ⟨xs,sq,by rw [r.length];exact Nat.le_refl _⟩
theorem jg (h:QE X e te):QI X tg e (x5 te):=PI.imp (axe h) fun σ H R ⟨τ,L,R3,rs,rl,z,k⟩=>by
  refine ⟨τ,L,_,rs,rl,z,fun v H1 y L1 t1 rl1 rv1 z1=>?_⟩
  cases y with
  | ref a=>
    obtain ⟨ys,keep,es,kp,hk,z2⟩:=al1 z1
    have hy:∀ H L,TSt H1 H→RelH X.g3 H L→keep L→∃ xs,SqL X.K H a xs∧RVs X.g3 H ys xs:=fun H L _ rl e=>abf rl (hk L e)
    obtain ⟨xs,sq,_⟩:=hy H1 L1 (TSt.refl _) rl1 kp
    exact ⟨a,rv1,⟨xs,sq⟩,k _ H1 ys _ L1 t1 rl1 (afj hy) z2⟩
  | sq ys=>
    obtain ⟨a,xs,e,sf,r⟩:=rv1
    exact ⟨a,e,⟨xs,sf.sq⟩,k _ H1 ys (fun _=>True) L1 t1 rl1 (afj fun H L t _ _=>⟨xs,(sf.ts t).sq,r.ts t⟩) z1⟩
  | _=>exact z1.elim
theorem am5 {G:G3} {H₀:Hp} (lo:Int) (n:Nat):Yields G H₀ (Itr lo n) (wc lo n) (fun _=>True) where
  go:=fun i H L t rl kp hi=>show i<n by simpa [wc] using hi
  yld:=fun i H L x H' y t rl kp hy ⟨e,f⟩=>by
    subst e f
    refine ⟨TSt.refl _,rl,?_⟩
    unfold wc at hy
    rw [List.getElem?_map] at hy
    obtain ⟨z,ez,e⟩:=Option.map_eq_some_iff.mp hy
    have:=List.getElem?_range (i:=i) (n:=n) (by
      by_cases c:i<n
      · exact c
      · rw [List.getElem?_eq_none (by simp;omega)] at ez;cases ez)
    rw [this] at ez;cases ez
    subst e
    rfl
  stop:=fun H L t rl kp=>by simp [wc,Itr]
theorem apl {p:Pos} (hg:Gl X "range") (hm:X.mg "range" = none) (h:QA X [a] tr) (hs:starEach [a] X.env=[(false,eval a X.env)]:=by rfl):QI X tg (.Call (.Name "range" p) [a] [] pos) (ar5 tr):=
  PI.imp (aqs hg hm h hs) fun σ H R ⟨τ,L,R3,rs,rl,z,k⟩=>by
  refine ⟨τ,L,_,rs,rl,z,fun vs H1 ys L1 t1 rl1 rv1 z1=>?_⟩
  split at z1
  · rename_i j
    obtain ⟨x,rfl,r⟩:=rv1.inv1
    cases r
    exact ⟨j,rfl,z1.1.1,z1.1.2,k _ H1 _ _ L1 t1 rl1 (am5 0 _) z1.2⟩
  · exact z1.elim
end
end L3
namespace L3
open PySem L2
section
variable {X:Cx} {scope:Scope} {T:List Str} {elt target iter c e o:Expr} {ifs es:List Expr} {wi:TI3} {g:TG3} {tA:TT3} {te to:TE3} {tr:TA3} {pos:Pos}
theorem akn:QF X [] asb:=PF.imp a0f fun σ H Q ⟨τ,L,Q3,rs,rl,z,k⟩=>k _ H L (TSt.refl _) rl z
theorem agt (h:QT X c tA):QF X [c] tA:=ayd h
theorem axt {G:G3} {n:Nat} {g2:TG} (hg2:∀ v σ H Q,upG G g v σ H Q→g2 v σ H Q) (σ:L2.St) (H:Hp) (Q:VK):upE G (yLC n wi g tA te) σ H Q→tLC n (upI G wi) g2 (upT G tA) (upE G te) σ H Q:=fun ⟨τ,L,Q3,rs,rl,z,k⟩=>by
  refine ⟨τ,L,_,rs,rl,z,fun J H1 ys keep L1 t1 rl1 yl zz=>?_⟩
  obtain ⟨hz,W,w0,wk,turn,fin⟩:=ax8 zz
  refine ⟨fun i m vs H'=>∃ zs L',i+m=ys.length∧zs.length≤i∧TSt H1 H'∧RVs G H' zs vs∧RelH G H' L'∧W i zs L',⟨ys.length,[],L1,by omega,Nat.le_refl _,TSt.refl _,rfl,rl1,w0⟩,?_⟩
  rintro i m vs H2 ⟨zs,L2,him,hzi,t2,rv2,rl2,w2⟩
  by_cases hlt:i<ys.length
  · refine .inr ⟨yl.go i H2 L2 t2 rl2 (wk i zs L2 w2) hlt,by rw [← rv2.length];omega,?_⟩
    intro x H3 y3
    have ey:ys[i]?=some ys[i]:=List.getElem?_eq_getElem hlt
    obtain ⟨t3,rl3,rv3⟩:=yl.yld i H2 L2 x H3 _ t2 rl2 (wk i zs L2 w2) ey y3
    refine hg2 _ _ _ _ ⟨ys[i],_,L2,_,rv3,(rs.ts ((t1.trans t2).trans t3)).more n,rl3,turn i _ zs L2 ey w2,fun σ4 H4 τ4 L4 t4 rs4 rl4 z4=>?_⟩
    refine ⟨τ4,L4,_,rs4,rl4,z4,fun b H5 L5 t5 rl5 z5=>?_⟩
    cases b with
    | true=>
      rw [if_pos rfl]
      refine ⟨τ4,L5,_,rs4.ts t5,rl5,z5,fun v6 H6 y6 L6 t6 rl6 rv6 ⟨L7,s7,z6⟩=>?_⟩
      have tt:=((t3.trans t4).trans t5).trans t6
      exact ⟨m - 1,by omega,zs++[y6],L7,by omega,by rw [List.length_append,List.length_singleton];omega,t2.trans tt,(rv2.ts tt).app (RVs.one rv6),rl6.sub s7,z6⟩
    | false=>
      rw [if_neg Bool.false_ne_true]
      have tt:=(t3.trans t4).trans t5
      obtain ⟨L7,s7,z6⟩:=z5
      exact ⟨m - 1,by omega,zs,L7,by omega,by omega,t2.trans tt,rv2.ts tt,rl5.sub s7,z6⟩
  · have ei:i=ys.length:=by omega
    subst ei
    refine .inl ⟨yl.stop H2 L2 t2 rl2 (wk _ zs L2 w2),by rw [← rv2.length];omega,fun D hD=>?_⟩
    exact k _ _ _ _ ((t1.trans t2).trans (TSt.new hD)) (rl2.newL hD rv2) (by rfl) (fin zs L2 w2 D (rl2.none hD))
structure TGx (X:Cx) (scope:Scope) (T:List Str) (target:Expr) (g:TG3):Prop where
  ex:∃ g2:TG,(∀ C fp s₀ H₀,PG (X.comp scope T C fp s₀ H₀) target g2)∧aj7 g2 X.N.length T.length∧∀ v σ H Q,upG X.g3 g v σ H Q→g2 v σ H Q
theorem ax7 {G:G3} (i:Nat) (v:V) (σ:L2.St) (H:Hp) (Q:L2.St→Hp→Prop):upG G (qf i) v σ H Q→abd i v σ H Q:=fun ⟨y,τ,L,Q3,rv,rs,rl,z,k⟩=>
  k _ H _ L (TSt.refl _) (show RelS _ _ _ (afp τ i y) by rw [aa1];exact rs.set rv) rl z
theorem abq {x:Str} {p:Pos} (hN:(X.N++[x]).Nodup) (hl:∀ C fp s₀ H₀,Loc (X.comp scope [x] C fp s₀ H₀).env.scope x) (hfn:∀ C fp s₀ H₀,(X.comp scope [x] C fp s₀ H₀).env.scope.names.lookup x=some .local):TGx X scope [x] (.Name x p) (qf X.N.length):=
  ⟨abd X.N.length,fun C fp s₀ H₀=>ag3 (X:=X.comp scope [x] C fp s₀ H₀) hN (by show (X.N++[x])[X.N.length]?=some x;simp) (hl C fp s₀ H₀) (.inr (hfn C fp s₀ H₀)),anq _,ax7 _⟩
theorem aq5 {K:PySem.W.Frag} (n:Nat):aj7 (a02 K 2 (alu (abd n) (alu (abd (n+1)) ayz))) n 2:=by
  rintro σ hl x H Q ⟨a,xs,e,sq,len,v,r,e1,w,r',e2,e3,q⟩
  refine ⟨a,xs,e,sq,len,v,r,e1,w,r',e2,e3,⟨by simp [hl],fun i u ei=>?_⟩,q⟩
  have hi:i<n:=by
    by_cases c:i<n
    · exact c
    · rw [List.getElem?_append_right (by omega),List.getElem?_replicate] at ei
      split at ei<;>cases ei
  rw [List.getElem?_set_ne (by omega),List.getElem?_set_ne (by omega)]
  exact ei
theorem azi {G:G3} (i j:Nat) (v:V) (σ:L2.St) (H:Hp) (Q:L2.St→Hp→Prop):upG G (ab9 2 (zp (qf i) (zp (qf j) aa5))) v σ H Q→a02 G.K 2 (alu (abd i) (alu (abd j) ayz)) v σ H Q:=fun ⟨y,τ,L,Q3,rv,rs,rl,z,k⟩=>by
  cases y with
  | tup ys=>
    obtain ⟨a,xs,rfl,sq,r⟩:=rv
    have z':(match ys.length==2 with | true=>zp (qf i) (zp (qf j) aa5) ys τ L Q3 | false=>False):=z
    split at z'
    · rename_i e
      have hl:ys.length=2:=beq_iff_eq.mp e
      match ys,hl with
      | [y1,y2],_=>
        obtain ⟨x1,x2,rfl,r1,r2⟩:=r.inv2
        have z2:Q3 (afp (afp τ i y1) j y2) L:=z'
        exact ⟨a,_,rfl,sq,rfl,x1,[x2],rfl,x2,[],rfl,rfl,k _ H _ L (TSt.refl _) (by rw [aa1,aa1];exact (rs.set r1).set r2) rl z2⟩
    · exact z'.elim
  | _=>exact z.elim
theorem ag8 {x y:Str} {p p' pt:Pos} {kt:Nat} (hc:X.calm=true) (hN:(X.N++[x,y]).Nodup) (hl:∀ C fp s₀ H₀,(X.comp scope [x,y] C fp s₀ H₀).env.scope.names.lookup x=some .local) (hl2:∀ C fp s₀ H₀,(X.comp scope [x,y] C fp s₀ H₀).env.scope.names.lookup y=some .local)
    (h1:∀ env,(assignEach [.Name x p,.Name y p'] env).length=2:=by intro _;rfl) (h2:∀ env,(assignEach [.Name x p,.Name y p'] env).findIdx? (·.1)=none:=by intro _;rfl)
    (h3:∀ env,(assignEach [.Name x p,.Name y p'] env).map (·.2)=assign (.Name x p) env::(assignEach [.Name y p'] env).map (·.2):=by intro _;rfl) (h4:∀ env,(assignEach [.Name y p'] env).map (·.2)=assign (.Name y p') env::(assignEach [] env).map (·.2):=by intro _;rfl):
    TGx X scope [x,y] (.Tuple [.Name x p,.Name y p'] kt pt) (ab9 2 (zp (qf X.N.length) (zp (qf (X.N.length+1)) aa5))):=
  ⟨_,fun C fp s₀ H₀=>arb (X:=X.comp scope [x,y] C fp s₀ H₀) hc (aha (ag3 hN (by show (X.N++[x,y])[X.N.length]?=some x;simp) (.inl (hl C fp s₀ H₀)) (.inr (hl C fp s₀ H₀))) (aha (ag3 hN (by show (X.N++[x,y])[X.N.length+1]?=some y;simp) (.inl (hl2 C fp s₀ H₀)) (.inr (hl2 C fp s₀ H₀))) aos (h4 _)) (h3 _)) (h1 _) (h2 _),aq5 _,azi _ _⟩
theorem ai0 (T:List Str) (S:CompScope X scope) (hc:X.calm=true) (hi:QI X target iter wi) (hg:TGx X scope T target g)
    (hf:∀ C fp s₀ H₀,QF (X.comp scope T C fp s₀ H₀) ifs tA) (he:∀ C fp s₀ H₀,QE (X.comp scope T C fp s₀ H₀) elt te)
    (hs:∀ x,foldedSetIterable iter X.env x=pure x:=by intro _;rfl):QE X (.ListComp elt [⟨target,iter,ifs,0⟩] scope pos) (yLC T.length wi g tA te):=by
  obtain ⟨g2,h1,h2,h3⟩:=hg.ex
  exact PE.imp (a22 T S hc hi h1 h2 hf he hs) (axt h3)
theorem amm (T:List Str) {i:Nat} {x:Str} {px lp:Pos} (hN:X.N.Nodup) (hix:X.N[i]?=some x) (hx:Loc X.env.scope x) (S:CompScope X scope) (hc:X.calm=true) (hi:QI X target iter wi)
    (hg:TGx X scope T target g) (hf:∀ C fp s₀ H₀,QF (X.comp scope T C fp s₀ H₀) ifs tA) (he:∀ C fp s₀ H₀,QE (X.comp scope T C fp s₀ H₀) elt te)
    (hsw:swapsWith (.ListComp elt [⟨target,iter,ifs,0⟩] scope lp) (some (.Name x px)) pos.line X.env=pure true:=by rfl)
    (hfn:X.fn x=true∨X.env.scope.names.lookup x=some .local:=by first | exact .inl rfl | exact .inr rfl | assumption)
    (hs:∀ x,foldedSetIterable iter X.env x=pure x:=by intro _;rfl):QS X (.Assign [.Name x px] (.ListComp elt [⟨target,iter,ifs,0⟩] scope lp) pos) (zc (yLC T.length wi g tA te) (qf i)):=by
  obtain ⟨g2,h1,h2,h3⟩:=hg.ex
  refine PS.imp (aru (tc:=upT X.g3 tA) (te:=upE X.g3 te) T hN hix hx S hc hi h1 h2 hf he hsw hfn hs) fun D σ H ⟨τ,L,D3,rs,rl,z,k⟩=>?_
  refine axt h3 σ H _ ⟨τ,L,_,rs,rl,z,fun v H1 y L1 t1 rl1 rv1 z1=>?_⟩
  exact k.nx _ H1 _ L1 t1 (show RelS _ _ _ (afp τ i y) by rw [aa1];exact (rs.ts t1).set rv1) rl1 z1
def dn (G:G3) (sp:Sp3):Sp:=fun vs H Q _=>∃ ys L Q3,RVs G H ys vs∧RelH G H L∧sp ys L Q3∧Aft G H Q3 Q
abbrev qq (P:Program) (w:World) (K:PySem.W.Frag) (mg:Str→Option Value) (base:Heap) (k:Nat) (x:Str) (ps:List Str) (sp:Sp3):Prop:=Cal P w K mg base k x ps (dn ⟨K,P,w⟩ sp)
abbrev Fn3 (P:Program) (w:World) (K:PySem.W.Frag) (mg:Str→Option Value) (base:Heap) (k:Nat) (f:Addr) (fd:FuncData) (ps:List Str) (sp:Sp3):Prop:=FnOk P w K mg base CX0 k f fd ps (dn ⟨K,P,w⟩ sp)
theorem zn {k:Nat} {x:Str} {ps:List Str} {sp:Sp3} {p:Pos} (c:qq X.prog X.w X.K X.mg X.base k x ps sp) (hr:Room k X.A) (hg:Gl X x) (ha:QA X (e::es) tr) (hdb:(x==("__debug__" : Str))=false:=by decide)
    (he:starEach (e::es) X.env=(false,eval e X.env)::starEach es X.env:=by rfl) (hpl:(backTo pos (starEach es X.env)).any (·.1)=false:=by rfl):QE X (.Call (.Name x p) (e::es) [] pos) (qw sp tr):=
  PE.imp (a4p c hr hg ha hdb he hpl) fun σ H Q ⟨τ,L,Q3,rs,rl,z,k⟩=>
  ⟨τ,L,_,rs,rl,z,fun vs H1 ys L1 t1 rl1 rv1 z1=>⟨ys,L1,Q3,by rw [List.append_nil];exact rv1,rl1,z1,k.ts t1⟩⟩
def agm (Q:YK):YK:=fun y L=>∃ L2,LSub L2 L∧Q y L2
def aes (N:List Str) (ys:List Y):St3:=ys.map some++List.replicate (N.length - ys.length) none
theorem ajc {G:G3} {H:Hp} {N:List Str} {ys:List Y} {vs:List V} (r:RVs G H ys vs):RelS G H (L2.start N vs) (aes N ys):=by
  unfold L2.start aes
  rw [← r.length]
  refine RelS.more ⟨by simp [r.length],fun i y e=>?_⟩ _
  rw [List.getElem?_map] at e
  obtain ⟨y',e1,e2⟩:=Option.map_eq_some_iff.mp e
  cases e2
  obtain ⟨x,ex,rx⟩:=r.get e1
  exact ⟨x,by rw [List.getElem?_map,ex];rfl,rx⟩
theorem ok3 {P:Program} {w:World} {K:PySem.W.Frag} {mg:Str→Option Value} {base:Heap} {x qual:Str} {st:Stmt} {f:Addr} {fd:FuncData} {N ps:List Str} {k:Nat} {sp:Sp3} (F:Fun K x qual st f fd) (S:FnScope N ps (q9 st)) (len:∀ ys L Q,sp ys L Q→ys.length=ps.length)
    (hbody:∀ (cdv:Value) (A:Around) (outer:List Env) (s:Shared) (H:Hp) (E:XK),Room k (A.deeper (PyProof.Rows.envOfC qual (q9 st) s.heap.objs.size f cdv))→
      ∃ t,QSs (zx CX0 P w K mg base N qual (q9 st) f cdv A outer s H E).nox (ql st) t∧∀ ys L Q,sp ys L Q→t { nx:=fun _ L'=>agm Q .non L',rt:=agm Q } (aes N ys) L):Fn3 P w K mg base (k+1) f fd ps sp:=by
  refine F.ok S (fun vs H Q E ⟨ys,L,Q3,rv,rl,z,_⟩=>by rw [← rv.length];exact len ys L Q3 z) fun cdv A outer s H vs Q E hr ⟨ys,L,Q3,rv,rl,z,k⟩=>?_
  obtain ⟨t,ht,q⟩:=hbody cdv A outer s H E hr
  refine ⟨_,ht,aes N ys,L,_,ajc rv,rl,q ys L Q3 z,?_⟩
  refine ⟨fun σ H' τ L' t' rs' rl' ⟨L2,s2,q2⟩=>k .non H' .non L2 t' (rl'.sub s2) (by rfl) q2,fun v H' y L' t' rl' rv' ⟨L2,s2,q2⟩=>k v H' y L2 t' (rl'.sub s2) rv' q2,fun _ _ _ _ _ _ _ z=>z.elim,fun _ _ _ _ _ _ _ z=>z.elim⟩
def upM (G:G3) (r:Y→List Y→LHp→YK→Prop):V→List V→Hp→VK→Prop:=fun x xs H Q=>∃ y ys L Q3,RV G H y x∧RVs G H ys xs∧RelH G H L∧r y ys L Q3∧Aft G H Q3 Q
theorem arj:MtM X "list.append" (upM X.g3 js):=MtM.imp apq fun x xs H Q ⟨y,ys,L,Q3,r1,r2,rl,z,k⟩=>by
  unfold js at z
  split at z
  · rename_i a v
    obtain ⟨zs,e,z⟩:=xr z
    obtain ⟨us,e2,r⟩:=rl a _ e
    obtain ⟨v',rfl,rv⟩:=r2.inv1
    exact ⟨a,us,v',r1,rfl,e2,by rw [← r.length];exact z.1,k _ _ _ _ (TSt.lst e2) (rl.setL e2 (r.app (RVs.one rv))) (by rfl) z.2⟩
  · exact z.elim
theorem asg:MtM X "list.extend" (upM X.g3 ada):=MtM.imp api fun x xs H Q ⟨y,ys,L,Q3,r1,r2,rl,z,k⟩=>by
  unfold ada at z
  split at z
  · rename_i a b
    obtain ⟨zs,e,z⟩:=xr z
    obtain ⟨us,e',z⟩:=xr z
    obtain ⟨vs,e2,r⟩:=rl a _ e
    obtain ⟨ws,e3,r'⟩:=rl b _ e'
    obtain ⟨v',rfl,rv⟩:=r2.inv1
    cases rv
    exact ⟨a,b,vs,ws,r1,rfl,e2,e3,by rw [← r.length,← r'.length];exact z.1,k _ _ _ _ (TSt.lst e2) (rl.setL e2 (r.app r')) (by rfl) z.2⟩
  · exact z.elim
theorem avn {G:G3} {H:Hp} {L:LHp} {a:Addr} {ys:List Y} (rl:RelH G H L) (h:ab4 L (.ref a)=some ys):tyV G.K "list" (.ref a) H:=by
  obtain ⟨xs,sq,_⟩:=abf rl h
  exact .inl ⟨rfl,xs,sq⟩
def yBL (r:Y→List Y→LHp→YK→Prop) (to:TE3) (t:TA3) (τ:St3) (L:LHp) (Q:YK):Prop:=to τ L fun x L1=>match x with
  | .ref a=>agw L1 (.ref a) fun _=>t τ L1 fun xs L2=>r (.ref a) xs L2 Q
  | _=>False
theorem ao1 {id:String} {name:Str} {apos cpos:Pos} {r:Y→List Y→LHp→YK→Prop} (h2:Slot "list" name id) (h3:typeOf (.builtin id)=pure (.type "method_descriptor")) (hm:MtM X id (upM X.g3 r)) (ho:QE X o to) (ha:QA X (e::es) tr)
    (h4:attributeBase o name X.env (eval o X.env)=eval o X.env:=by rfl)
    (h5:((backTo cpos (starEach (e::es) X.env)).all (fun x=>!x.1)&&(backToKw cpos (keywordEach [] X.env)).all (fun x=>x.1.isSome)&&decide ((e::es).length+([]:List Keyword).length+(if ([]:List Keyword).isEmpty=true then 0 else 1)<30))=true:=by rfl)
    (h6:(apos.endLine==cpos.line)=true:=by rfl) (h7:starEach (e::es) X.env=(false,eval e X.env)::starEach es X.env:=by rfl) (h8:(backTo cpos (starEach es X.env)).any (·.1)=false:=by rfl):
    QE X (.Call (.Attribute o name apos) (e::es) [] cpos) (yBL r to tr):=PE.imp (a39 PySem.F.plainAttrs_list h2 h3 hm ho ha h4 h5 h6 h7 h8) fun σ H Q ⟨τ,L,Q3,rs,rl,z,k⟩=>
  ⟨τ,L,_,rs,rl,z,fun v H1 y L1 t1 rl1 rv1 z1=>by
    split at z1
    · rename_i a
      obtain ⟨ys,es,z1⟩:=we z1
      exact ⟨by cases rv1;exact avn rl1 es,τ,L1,_,rs.ts t1,rl1,z1,fun vs H2 ys L2 t2 rl2 rv2 z2=>⟨.ref a,ys,L2,Q3,rv1.ts t2,rv2,rl2,z2,k.ts (t1.trans t2)⟩⟩
    · exact z1.elim⟩
theorem ja {apos cpos:Pos} (ho:QE X o to) (ha:QA X (e::es) tr) (h4:attributeBase o "append" X.env (eval o X.env)=eval o X.env:=by rfl)
    (h5:((backTo cpos (starEach (e::es) X.env)).all (fun x=>!x.1)&&(backToKw cpos (keywordEach [] X.env)).all (fun x=>x.1.isSome)&&decide ((e::es).length+([]:List Keyword).length+(if ([]:List Keyword).isEmpty=true then 0 else 1)<30))=true:=by rfl)
    (h6:(apos.endLine==cpos.line)=true:=by rfl) (h7:starEach (e::es) X.env=(false,eval e X.env)::starEach es X.env:=by rfl) (h8:(backTo cpos (starEach es X.env)).any (·.1)=false:=by rfl):
    QE X (.Call (.Attribute o "append" apos) (e::es) [] cpos) (yBL js to tr):=ao1 PySem.F.slot_list_append PySem.F.type_list_append arj ho ha h4 h5 h6 h7 h8
theorem ajg {apos cpos:Pos} (ho:QE X o to) (ha:QA X (e::es) tr) (h4:attributeBase o "extend" X.env (eval o X.env)=eval o X.env:=by rfl)
    (h5:((backTo cpos (starEach (e::es) X.env)).all (fun x=>!x.1)&&(backToKw cpos (keywordEach [] X.env)).all (fun x=>x.1.isSome)&&decide ((e::es).length+([]:List Keyword).length+(if ([]:List Keyword).isEmpty=true then 0 else 1)<30))=true:=by rfl)
    (h6:(apos.endLine==cpos.line)=true:=by rfl) (h7:starEach (e::es) X.env=(false,eval e X.env)::starEach es X.env:=by rfl) (h8:(backTo cpos (starEach es X.env)).any (·.1)=false:=by rfl):
    QE X (.Call (.Attribute o "extend" apos) (e::es) [] cpos) (yBL ada to tr):=ao1 PySem.F.slot_list_extend PySem.F.type_list_extend asg ho ha h4 h5 h6 h7 h8
end
end L3
namespace L3
open PySem L2
abbrev avt:R23:=yI0 fun i j=>.int (i - j)
abbrev arc:R23:=yI CMul fun i j=>.int (i*j)
abbrev amp:R23:=yI az2 fun i j=>.int (i / j)
abbrev ak6:R23:=yI (fun _ j=>0<j) fun i j=>.int (i % j)
abbrev a45:R23:=yI a0m fun i j=>.int (i ^ j.toNat)
abbrev yLt:R23:=yI0 fun i j=>.bl (decide (i<j))
abbrev yGt:R23:=yI0 fun i j=>.bl (decide (j<i))
structure TopC (G:G3) (mg:Str→Option Value) (x:Str) (y:Y):Prop where
  ex:∃ c,mg x=some (.ref c)∧∀ H,RV G H y (.ref c)
theorem au2 {X:Cx} {x:Str} {y:Y} {pos:Pos} (t:TopC X.g3 X.mg x y) (hg:Gl X x) (hd:(x==("__debug__" : Str))=false:=by decide):QE X (.Name x pos) (yC y):=by
  obtain ⟨c,hm,q⟩:=t.ex
  exact a3b hg hm q hd
def axj (t:TE3):Prop:=∀ τ L Q,t τ L Q→∃ v,Q v L∧∀ L' Q',LSub L L'→Q' v L'→t τ L' Q'
theorem az6 (i:Nat):axj (qb i):=fun τ L Q h=>by
  unfold qb at h ⊢
  split at h
  · rename_i y e;exact ⟨y,h,fun L' Q' _ q=>q⟩
  · exact h.elim
theorem adl {α:Type} {L:LHp} {Q:α→LHp→Prop} {o:Option α} (h:atK L Q o):∃ v,o=some v∧Q v L:=by
  cases o with
  | none=>exact h.elim
  | some v=>exact ⟨v,rfl,h⟩
def ay2 (t:TA3) (ti:TE3) (τ:St3) (L:LHp) (Q:YK):Prop:=t τ L fun ys L1=>match Nat.ble ys.length 1000 with
  | true=>ti τ L1 fun i L2=>match i with
    | .int i=>atK L2 Q (atI ys i)
    | _=>False
  | false=>False
theorem axa {X:Cx} {es:List Expr} {b:Expr} {tr:TA3} {tb:TE3} {pos lp:Pos} (h:QA X es tr) (hb:QE X b tb) (pu:axj tb) (hp:agh b):QE X (.Subscript (.List es lp) b pos) (ay2 tr tb):=PE.imp (axv (axo X.K X.prog X.w) (aue h) hb hp) fun σ H Q ⟨τ,L,Q3,rs,rl,z,k⟩=>by
  refine ⟨τ,L,_,rs,rl,z,fun vs H1 ys L1 t1 rl1 rv1 z1=>?_⟩
  cases e:Nat.ble ys.length 1000 with
  | false=>rw [e] at z1;exact z1.elim
  | true=>
    rw [e] at z1
    have:=Nat.le_of_ble_eq_true e
    refine ⟨afh (by rw [← rv1.length];exact this),fun p hp=>?_⟩
    obtain ⟨v,zv,kv⟩:=pu τ L1 _ z1
    have sb:LSub L1 (qe L1 p (.lst ys)):=LSub.new (rl1.none hp)
    refine ⟨τ,qe L1 p (.lst ys),fun v' L'=>v'=v∧L'=qe L1 p (.lst ys),rs.ts (t1.trans (TSt.new hp)),rl1.newL hp rv1,kv _ _ sb ⟨rfl,rfl⟩,?_⟩
    rintro v2 H2 y2 L2 t2 rl2 rv2 ⟨rfl,rfl⟩
    refine ⟨.ref p,y2,_,fun y L'=>L'=qe L1 p (.lst ys)∧Q3 y L1,rfl,rv2,rl2,?_,?_⟩
    · cases y2 with
      | int i=>
        obtain ⟨u,eu,qu⟩:=adl zv
        refine qk q8 ?_
        rw [eu]
        exact ⟨rfl,qu⟩
      | _=>exact zv.elim
    · rintro v3 H3 y3 L3 t3 rl3 rv3 ⟨rfl,q3⟩
      exact k v3 H3 y3 L1 (t1.trans ((TSt.new hp).trans (t2.trans t3))) (rl3.sub sb) rv3 q3
theorem ax9 {lo:Int} {n i:Nat} {y:Y} (h:(wc lo n)[i]?=some y):i<n∧y=.int (lo+i):=by
  unfold wc at h
  rw [List.getElem?_map] at h
  obtain ⟨z,ez,e⟩:=Option.map_eq_some_iff.mp h
  have hi:i<n:=by
    by_cases c:i<n
    · exact c
    · rw [List.getElem?_eq_none (by simp;omega)] at ez;cases ez
  rw [List.getElem?_range hi] at ez;cases ez
  exact ⟨hi,e.symm⟩
theorem ar4 (lo:Int) (n:Nat):(wc lo n).length=n:=by simp [wc]
theorem awk {lo:Int} {n:Nat} {g:TG3} {tb:TS3} {D:Ends3} {τ:St3} {L:LHp} (W:Nat→St3→LHp→Prop) (h0:W 0 τ L)
    (hs:∀ i τ L,i<n→W i τ L→g (.int (lo+i)) τ L fun τ2 L2=>tb { D with nx:=Frg (W (i+1)),ct:=Frg (W (i+1)),bk:=D.nx } τ2 L2) (hd:∀ τ L,W n τ L→D.nx τ L):anh (wc lo n) (fun _=>True) g tb D τ L:=by
  refine ag4 ⟨W,h0,fun _ _ _ _=>trivial,fun i y τ L e w=>?_,fun τ L w=>hd τ L (by rw [ar4] at w;exact w)⟩
  obtain ⟨hi,rfl⟩:=ax9 e
  exact hs i τ L hi w
theorem vm {g:TG3} {tb:TS3} {D:Ends3} {τ:St3} {L:LHp} {a:Addr} {ys:List Y} (h:ab4 L (.ref a)=some ys) (W:Nat→St3→LHp→Prop) (h0:W 0 τ L) (hk:∀ i τ L',W i τ L'→L' a=L a)
    (hs:∀ i y τ L,ys[i]?=some y→W i τ L→g y τ L fun τ2 L2=>tb { D with nx:=Frg (W (i+1)),ct:=Frg (W (i+1)),bk:=D.nx } τ2 L2) (hd:∀ τ L,W ys.length τ L→D.nx τ L):
    ano L a fun ys keep L1=>anh ys keep g tb D τ L1:=xt (air h) fun keep kp=>ag4 ⟨W,h0,fun i τ L' w=>kp L' (hk i τ L' w),hs,hd⟩
theorem ahh {ys:List Y} {keep:LHp→Prop} {L:LHp} {n:Nat} {g:TG3} {tc:TT3} {te:TE3} {τ:St3} {Q:YK} (I:Nat→List Y→Prop) (hz:ys.length<sizeLine) (hk:keep L) (h0:I 0 [])
    (turn:∀ (i:Nat) y zs,ys[i]?=some y→I i zs→g y (τ++List.replicate n none) L fun τ2 L2=>tc τ2 L2 fun b L3=>kh b (te τ2 L3 fun z L4=>Frg (fun zs L'=>L'=L∧I (i+1) zs) (zs++[z]) L4) (Frg (fun zs L'=>L'=L∧I (i+1) zs) zs L3))
    (hq:∀ zs,I ys.length zs→∀ p,L p=none→Q (.ref p) (qe L p (.lst zs))):lcK ys keep n g tc te τ L Q:=by
  refine ao9 ⟨hz,fun i zs L'=>L'=L∧I i zs,⟨rfl,h0⟩,?_,?_,?_⟩
  · rintro i zs L' ⟨rfl,_⟩;exact hk
  · rintro i y zs L' ey ⟨rfl,hI⟩
    exact turn i y zs ey hI
  · rintro zs L' ⟨rfl,hI⟩ p hp
    exact hq zs hI p hp
theorem aio (ys:List Y) (n:Nat):amn ys (some ((n:Nat):Int)) none=ys.drop n:=by
  unfold amn
  rw [HT.sIx_nat,HT.sIx_none]
  by_cases h:n≤ys.length
  · rw [Nat.min_eq_left h,List.take_of_length_le (by rw [List.length_drop];omega)]
  · rw [Nat.min_eq_right (by omega),List.drop_of_length_le (Nat.le_refl _),List.drop_of_length_le (by omega),List.take_nil]
theorem awh (ys:List Y) (n:Nat):amn ys none (some ((n:Nat):Int))=ys.take n:=by
  unfold amn
  rw [HT.sIx_nat,HT.sIx_none,List.drop_zero,Nat.sub_zero]
  by_cases h:n≤ys.length
  · rw [Nat.min_eq_left h]
  · rw [Nat.min_eq_right (by omega),List.take_of_length_le (Nat.le_refl _),List.take_of_length_le (by omega)]
theorem aoh {ws:List α} {f:α→Y} {i:Nat} {w:α} (h:ws[i]?=some w):atI (ws.map f) (i:Int)=some (f w):=xu (by rw [List.getElem?_map,h];rfl)
def x9 (t:TS3) (n:Nat) (ys:List Y) (L:LHp) (Q:YK):Prop:=t { nx:=fun _ L'=>agm Q .non L',rt:=agm Q } (ys.map some++List.replicate (n - ys.length) none) L
theorem fin {Q:YK} {y:Y} {L:LHp} (h:Q y L):agm Q y L:=⟨L,LSub.refl L,h⟩
theorem ade {Q:YK} {y:Y} {L L':LHp} (s:LSub L L') (h:Q y L):agm Q y L':=⟨L,s,h⟩
theorem Fn3.never {P:Program} {w:World} {K:PySem.W.Frag} {mg:Str→Option Value} {base:Heap} {k:Nat} {ps:List Str} {sp:Sp3} {f:Addr} {fd:FuncData} (no:∀ ys L Q,¬ sp ys L Q):Fn3 P w K mg base k f fd ps sp:=
  FnOk.never fun vs H Q E ⟨ys,L,Q3,_,_,z,_⟩=>no ys L Q3 z
end L3
namespace L3
open PySem L2
theorem LSub.upd {L L':LHp} {a:Addr} {o:LO} (s:LSub L L') (h:L a=none):LSub L (qe L' a o):=fun b u e=>by
  rw [qd (neL e h)];exact s b u e
theorem LSub.put {L L':LHp} {a:Addr} {o:LO} (s:LSub L L') (h:L' a=some o):LSub (qe L a o) L':=fun b u e=>by
  by_cases c:b=a
  · subst c;rw [q8] at e;cases e;exact h
  · rw [qd c] at e;exact s b u e
def anz:Sp3:=fun ys L Q=>∃ ns:List Int,ys=[.sq (ns.map Y.int)]∧ns.length≤63∧L=(fun _=>none)∧∀ L',Q (.bl true) L'
def spTop (K:PySem.W.Frag):Sp:=fun vs H Q _=>∃ (a:Addr) (ns:List Int),vs=[.ref a]∧SqF K H a (ns.map V.int)∧ns.length≤63∧∀ H',Q (.bl true) H'
theorem al9 {G:G3} {H:Hp}:∀ ns:List Int,RVs G H (ns.map Y.int) (ns.map V.int)
  | []=>rfl
  | _::r=>⟨_,_,rfl,rfl,al9 r⟩
theorem az1 {G:G3} {vs:List V} {H:Hp} {Q:VK} {E:XK} (h:spTop G.K vs H Q E):dn G anz vs H Q E:=by
  obtain ⟨a,ns,rfl,hs,hl,q⟩:=h
  refine ⟨[.sq (ns.map Y.int)],fun _=>none,fun y _=>y=.bl true,RVs.one ⟨a,_,rfl,hs,al9 ns⟩,(fun _ _ e=>by cases e),⟨ns,rfl,hl,rfl,fun _=>rfl⟩,?_⟩
  rintro v H' y L' _ _ rv rfl
  cases rv
  exact q H'
theorem top_start:∀ (K:PySem.W.Frag) (H:Hp) (a:Addr) (ns:List Int),ns.length≤63→avj H→SqL K H a (ns.map V.int)→spTop K [.ref a] H (fun v _=>v=.bl true) fun _ _ _=>False:=by
  intro K H a ns hl hO hS
  refine ⟨a,ns,rfl,?_,hl,fun _=>rfl⟩
  rcases hS with (h | ⟨o,h⟩) | h
  · rcases hO a with z | ⟨o,xs,z⟩<;>rw [h] at z<;>cases z
  · exact .inl ⟨o,h⟩
  · exact .inr h
end L3
namespace L2
open PySem PySem.Spec PyProof.Rows
section
variable {X:Cx} {pins:List (Addr×Obj)} {σ:L2.St} {H:Hp} {s:Shared} {h':Heap}
theorem ah6 (I:Inv X pins σ H s) {fp:List Addr} (hf:∀ b∈fp,H b=none) (k:∀ b o,b∉fp→s.heap.get? b=some o→h'.get? b=some o):HOk X.prog X.w H h':=fun b u e=>by
  refine (I.hok b u e).stay (fun c v hc q=>k c v (fun z=>?_) q) (fun _ q=>q) fun _ _ q=>q
  have hn:=hf c z
  rcases hc with w | w
  · rw [w,e] at hn;cases hn
  · rw [w] at hn;cases hn
theorem aqn {fs fp:List Addr} {h:Heap} (k:∀ b o,b∉fp→h.get? b=some o→h'.get? b=some o):Un fs fp H H h h':=
  ⟨fun b o q _ _ x=>k b o x q,fun b o q _ _ x=>⟨o.slots,k b o x q⟩,fun _ _ _ n _=>n,fun b o q x=>⟨o,k b o x q⟩,fun _ _ q=>q,fun _ _ _ q=>q,fun b ps q=>⟨#[],by rw [q];simp⟩⟩
theorem Inv.turnedL {t':Nat} {fp:List Addr} (I:Inv X pins σ H s) (k:∀ b o,b∉fp→s.heap.get? b=some o→h'.get? b=some o) (hf:∀ b∈fp,aid X pins H b) (ht:0<t':=by (first | assumption | exact Nat.succ_pos _ | exact Inv.tk (by assumption) | exact Nat.lt_of_lt_of_le (Inv.tk (by assumption)) (Nat.le_add_right _ _) | exact Nat.lt_of_lt_of_le (Inv.tk (by assumption)) (by assumption))):Inv X pins σ H { s with heap:=h',toks:=t' }:=
  I.call' (s':={ s with heap:=h',toks:=t' }) (ch:=fp) rfl (aqn k) (ah6 I (fun b hb=>(hf b hb).1) k) I.bare fun b hb=>⟨(hf b hb).2.2.2.1,(hf b hb).2.1,(hf b hb).2.2.2.2.1,(hf b hb).2.2.2.2.2⟩
theorem Inv.turnedN {t':Nat} {fp:List Addr} {a:Addr} {o:HO} (I:Inv X pins σ H s) (k:∀ b o,b∉fp→s.heap.get? b=some o→h'.get? b=some o) (hf:∀ b∈fp,aid X pins H b) (ha:s.heap.objs.size≤a)
    (new:ObjOk X.prog X.w (upd H a o) h' a o) (ht:0<t':=by (first | assumption | exact Nat.succ_pos _ | exact Inv.tk (by assumption) | exact Nat.lt_of_lt_of_le (Inv.tk (by assumption)) (Nat.le_add_right _ _) | exact Nat.lt_of_lt_of_le (Inv.tk (by assumption)) (by assumption))):Inv X pins σ (upd H a o) { s with heap:=h',toks:=t' }:=by
  have hn:H a=none:=I.hok.fresh ha
  have lt:∀ b ob,s.heap.get? b=some ob→b≠a:=fun b ob q=>Nat.ne_of_lt (Nat.lt_of_lt_of_le (Heap.lt_size q) ha)
  refine I.call' (s':={ s with heap:=h',toks:=t' }) (ch:=fp) rfl ?_ ?_ I.bare fun b hb=>⟨(hf b hb).2.2.2.1,(hf b hb).2.1,(hf b hb).2.2.2.2.1,(hf b hb).2.2.2.2.2⟩
  · exact ⟨fun b ob q _ _ x=>k b ob x q,fun b ob q _ _ x=>⟨ob.slots,k b ob x q⟩,fun b ob q n _=>by rw [qm (lt b ob q)];exact n,fun b ob q x=>⟨ob,k b ob x q⟩,
      fun b xs q=>by rw [qm (ze q hn)];exact q,fun b ob u q=>by rw [qm (ze q hn)];exact q,fun b ps q=>⟨#[],by rw [qm (ze q hn),q];simp⟩⟩
  · intro b u e
    by_cases hb:b=a
    · subst hb;rw [zr] at e;cases e;exact new
    · rw [qm hb] at e
      have ok:=ah6 I (h':=h') (fun b hb=>(hf b hb).1) k b u e
      exact ok.stay (fun _ _ _ q=>q) (fun c q=>by rw [qm (ze q hn)];exact q) fun c xs q=>by rw [qm (ze q hn)];exact q
end
def Ite (K:PySem.W.Frag) (a:Addr):It:=
  ⟨fun i H=>∃ xs x,SqL K H a xs∧xs[i]?=some x,fun i H v H'=>∃ p x,H p=none∧v=.ref p∧H'=upd H p (.tup [.int i,x])∧∀ xs,SqL K H a xs→xs[i]?=some x,fun i H=>∃ xs,SqL K H a xs∧xs.length≤i⟩
theorem aqc {P:Program} {w:World} {K:PySem.W.Frag} {elts:List Expr} {x1:Nat} {tp:Pos} (a e it:Addr) (hne:e≠it):Turn P w K (.Tuple elts x1 tp) (Ite K a) [e,it] e (fun i h=>(∃ old,IsEnum h e it i old)∧h.IsListIter it a i) where
  mem:=by simp
  obj:=fun i h ⟨⟨old,he⟩,hi⟩ b hb=>by
    rcases List.mem_cons.mp hb with rfl | hb
    · exact ⟨_,he,fun v z=>by cases z⟩
    · cases List.mem_singleton.mp hb
      obtain ⟨o,ho,hc,hd⟩:=hi
      exact ⟨o,ho,fun v z=>by rw [hd] at z;cases z⟩
  keep:=fun i h h' ⟨⟨old,he⟩,hi⟩ k=>⟨⟨old,k e (by simp) _ he⟩,hi.at fun o q=>k it (by simp) o q⟩
  item:=by
    intro X hP hw hK hc i pins s σ H E I hf ⟨⟨old,he⟩,hi⟩ hg
    subst hP hw hK
    obtain ⟨xs,x,hq,hx⟩:=hg
    obtain ⟨its,rv,p,hz⟩:=I.list hq
    obtain ⟨u,hu,ru⟩:=rv.get hx
    refine wpAny_pyNext_enum_item he hi p.isList (x:=u) (by simpa using hu) hne fun h1 heo hi1 ht hz1 hk=>⟨.ref s.heap.objs.size,rfl,wpAny_letOwnedTupleGo_enum heo fun h2 he2 hs2=>?_⟩
    have el:e<s.heap.objs.size:=Heap.lt_size he
    have il:it<s.heap.objs.size:=by obtain ⟨o,ho,_⟩:=hi;exact Heap.lt_size ho
    have kk:∀ b o,b∉[e,it]→s.heap.get? b=some o→h2.get? b=some o:=fun b o nb q=>by
      have n1:b≠e:=fun z=>nb (by simp [z])
      have n2:b≠it:=fun z=>nb (by simp [z])
      exact hs2.extBut b o n1 (hk b o n1 n2 q)
    have tg:h2.get? s.heap.objs.size=some { cls:=.type "tuple",data:=.seq #[.int i s.toks,u] }:=hs2.extBut _ _ (Nat.ne_of_gt el) ht
    refine ⟨.ref s.heap.objs.size,upd H s.heap.objs.size (.tup [.int i,x]),?_,rfl,⟨_,x,I.hok.fresh (Nat.le_refl _),rfl,rfl,fun ys hy=>by rw [I.list_inj hy hq];exact hx⟩,⟨⟨_,he2⟩,hi1.at fun o q=>hs2.extBut _ _ (Ne.symm hne) q⟩,fun b hb=>?_⟩
    · exact I.turnedN (t':=s.toks+1) kk hf (Nat.le_refl _) ⟨by show 2≤sizeLine;decide,[.int i s.toks,u],.cons ⟨_,rfl⟩ (.cons ru .nil),⟨_,tg,rfl,_,rfl⟩⟩
    · have hb':b<s.heap.objs.size:=by rcases List.mem_cons.mp hb with rfl | hb;exact el;cases List.mem_singleton.mp hb;exact il
      rw [qm (Nat.ne_of_lt hb')]
      exact (hf b hb).1
  done:=by
    intro X hP hw hK hc i pins s σ H E I hf ⟨⟨old,he⟩,hi⟩ hg
    subst hP hw hK
    obtain ⟨xs,hq,hx⟩:=hg
    obtain ⟨its,rv,p,hz⟩:=I.list hq
    have hl:=rv.length
    exact wpAny_pyNext_enum_end (I.ok.hd hc) he hi p.isList (by simp;omega) fun h1 eb=>⟨rfl,I.turnedL (t':=s.toks) (fp:=[e,it]) (fun b o nb q=>eb b o (fun z=>nb (by simp [z])) q) hf⟩
  self:=fun _ _ _ _ _ ⟨⟨_,he⟩,_⟩ h=>wpAny_pyIter_enum he h
def a37 (K:PySem.W.Frag) (ta:TA):TI:=fun σ H R=>ta σ H fun vs H1=>∃ a,vs=[.ref a]∧(∃ xs,SqL K H1 a xs)∧R (Ite K a) H1
theorem ajj:bootBuiltins "enumerate" = some (.type "enumerate"):=by decide +kernel
theorem ave {X:Cx} {a:Expr} {ta:TA} {elts:List Expr} {x1:Nat} {tp p pos:Pos} (hg:Gl X "enumerate") (hm:X.mg "enumerate" = none) (ha:PA X [a] ta) (hs:starEach [a] X.env=[(false,eval a X.env)]:=by rfl):
    PI X (.Tuple elts x1 tp) (.Call (.Name "enumerate" p) [a] [] pos) (a37 X.K ta):=by
  intro pins s σ H R I h
  refine Call_ (aho I hg hm ajj (PyProof.Rows.callWith_type1 (thn (ha pos pins s σ H _ I h) fun us s1 ⟨vs,H1,I1,r1,q1⟩=>?_) hs rfl))
  obtain ⟨l,e,⟨xs,hq⟩,q⟩:=q1
  subst e
  obtain ⟨u,rfl,ru⟩:=ap1 r1
  cases ru
  obtain ⟨its,rv,pl,hz⟩:=I1.list hq
  refine call_enumerate_list pl.isList fun h1 he hi hsz hk=>?_
  have I2:Inv X pins σ H1 { s1 with heap:=h1 }:=I1.kept (t':=s1.toks) hk
  refine wpAny_pyIter_enum (s:={ s1 with heap:=h1 }) he ?_
  refine ⟨s1.heap.objs.size+1,[s1.heap.objs.size+1,s1.heap.objs.size],_,_,H1,rfl,I2,aqc l _ _ (Nat.succ_ne_self _),⟨⟨_,he⟩,hi⟩,fun b hb=>?_,q⟩
  have hb':s1.heap.objs.size≤b:=by rcases List.mem_cons.mp hb with rfl | hb;exact Nat.le_succ _;cases List.mem_singleton.mp hb;exact Nat.le_refl _
  exact I1.fpOk hb' (I1.hok.fresh hb')
end L2
namespace L3
open PySem L2
theorem afi {G:G3} {H₀:Hp} {a:Addr} {ys:List Y} {keep:LHp→Prop} (h:∀ H L,TSt H₀ H→RelH G H L→keep L→∃ xs,SqL G.K H a xs∧RVs G H ys xs):Yields G H₀ (Ite G.K a) (ys.zipIdx.map fun p=>Y.tup [.int (p.2:Nat),p.1]) keep where
  go:=fun i H L t rl kp hi=>by
    obtain ⟨xs,sq,r⟩:=h H L t rl kp
    have:i<xs.length:=by rw [← r.length];simpa using hi
    exact ⟨xs,xs[i],sq,List.getElem?_eq_getElem this⟩
  yld:=fun i H L x H' y t rl kp hy ⟨p,z,hp,e1,e2,f⟩=>by
    subst e1 e2
    obtain ⟨xs,sq,r⟩:=h H L t rl kp
    rw [List.getElem?_map,List.getElem?_zipIdx] at hy
    obtain ⟨⟨y',j⟩,ey,e3⟩:=Option.map_eq_some_iff.mp hy
    obtain ⟨y'',ey',e4⟩:=Option.map_eq_some_iff.mp ey
    cases e4
    subst e3
    obtain ⟨x',e',rv⟩:=r.get ey'
    have:=f xs sq
    rw [e'] at this;cases this
    refine ⟨TSt.new hp,rl.skip hp,p,_,rfl,SqT.of zr,⟨_,_,rfl,?_,_,_,rfl,rv.ts (TSt.new hp),rfl⟩⟩
    show V.int _=V.int _
    congr 1;simp
  stop:=fun H L t rl kp=>by
    obtain ⟨xs,sq,r⟩:=h H L t rl kp
    exact ⟨xs,sq,by rw [List.length_map,List.length_zipIdx,r.length];exact Nat.le_refl _⟩
def agr (ys:List Y):List Y:=ys.zipIdx.map fun p=>Y.tup [.int (p.2:Nat),p.1]
theorem ad5 {ys:List Y} {i:Nat} {y:Y} (h:(agr ys)[i]?=some y):∃ z,ys[i]?=some z∧y=.tup [.int i,z]:=by
  unfold agr at h
  rw [List.getElem?_map,List.getElem?_zipIdx] at h
  obtain ⟨⟨y',j⟩,ey,e3⟩:=Option.map_eq_some_iff.mp h
  obtain ⟨y'',ey',e4⟩:=Option.map_eq_some_iff.mp ey
  cases e4
  exact ⟨y',ey',by rw [← e3];simp⟩
theorem aaf (ys:List Y):(agr ys).length=ys.length:=by simp [agr]
def acw (tl:TE3) (τ:St3) (L:LHp) (R:List Y→(LHp→Prop)→LHp→Prop):Prop:=tl τ L fun x L1=>match x with
  | .ref a=>ano L1 a fun ys keep L=>R (agr ys) keep L
  | .sq ys=>R (agr ys) (fun _=>True) L1
  | _=>False
theorem ac2 {X:Cx} {a:Expr} {te:TE3} {elts:List Expr} {x1:Nat} {tp p pos:Pos} (hg:Gl X "enumerate") (hm:X.mg "enumerate" = none) (ha:QE X a te) (hs:starEach [a] X.env=[(false,eval a X.env)]:=by rfl)
    (hs2:starEach [a] X.env=(false,eval a X.env)::starEach [] X.env:=by rfl):QI X (.Tuple elts x1 tp) (.Call (.Name "enumerate" p) [a] [] pos) (acw te):=PI.imp (ave hg hm (wq ha aem hs2) hs) fun σ H R ⟨τ,L,R3,rs,rl,z,k⟩=>by
  refine ⟨τ,L,_,rs,rl,z,fun v H1 y L1 t1 rl1 rv1 z1=>?_⟩
  cases y with
  | ref a=>
    obtain ⟨ys,keep,es,kp,hk,z2⟩:=al1 z1
    have hy:∀ H L,TSt H1 H→RelH X.g3 H L→keep L→∃ xs,SqL X.K H a xs∧RVs X.g3 H ys xs:=fun H L _ rl e=>abf rl (hk L e)
    obtain ⟨xs,sq,_⟩:=hy H1 L1 (TSt.refl _) rl1 kp
    cases rv1
    exact ⟨a,rfl,⟨xs,sq⟩,k _ H1 _ _ L1 t1 rl1 (afi hy) z2⟩
  | sq ys=>
    obtain ⟨a,xs,e,sf,r⟩:=rv1
    subst e
    exact ⟨a,rfl,⟨xs,sf.sq⟩,k _ H1 _ (fun _=>True) L1 t1 rl1 (afi fun H L t _ _=>⟨xs,(sf.ts t).sq,r.ts t⟩) z1⟩
  | _=>exact z1.elim
end L3
namespace L2
open PySem PySem.Spec PyProof.Rows
section
variable {prog:Program} {w:World} {A:Around} {E:Value→Shared→Prop} {s:Shared}
end
end L2
namespace L2
open PySem PySem.Spec PyProof.Rows
section
variable {prog:Program} {w:World} {A:Around} {E:Value→Shared→Prop} {s:Shared}
end
section
variable {X:Cx} {pins:List (Addr×Obj)} {σ:L2.St} {H:Hp} {s:Shared}
end
end L2
namespace L3
open PySem L2
end L3
namespace L3
open PySem L2
end L3
namespace L2
open PySem PySem.Spec PyProof.Rows
section
variable {X:Cx}
def a3n:V→Option Int→Option Int→Hp→VK→Prop:=fun x lo hi H Q=>∃ z,x=.str z∧z.length≤sizeLine∧Q (.str (Txt.slice z lo hi)) H
theorem azm:SlR X a3n:=by
  intro pins s σ H x v vl vu lo hi sl Q I rx hs pl pu h
  obtain ⟨z,rfl,hz,q⟩:=h
  obtain ⟨t,rfl⟩:=rx
  obtain ⟨l,rfl,hl⟩:∃ l:Option (Int×Tok),vl=partValue l∧l.map (·.1)=lo:=by
    cases pl with
    | none=>exact ⟨none,rfl,rfl⟩
    | int i t=>exact ⟨some (i,t),rfl,rfl⟩
  obtain ⟨u,rfl,hu⟩:∃ u:Option (Int×Tok),vu=partValue u∧u.map (·.1)=hi:=by
    cases pu with
    | none=>exact ⟨none,rfl,rfl⟩
    | int i t=>exact ⟨some (i,t),rfl,rfl⟩
  subst hl hu
  refine ⟨"str",_,F.slot_str_getitem.lookup,typeIs_str _ _ _,j9 I.tk (wpAny_getItem_str_slice (l:=l) (u:=u) (st:=none) hs rfl ?_)⟩
  exact post_val_or_str ⟨Nat.le_trans (Txt.slice_le z _ _) hz,fun t' k ht=>⟨.str _,H,I.tok _,⟨t',rfl⟩,q⟩⟩
end
end L2
namespace L3
open PySem L2
def axi (x:Y) (lo hi:Option Int) (L:LHp) (Q:YK):Prop:=match x with
  | .str z=>z.length≤sizeLine∧Q (.str (Txt.slice z lo hi)) L
  | x=>a1j x lo hi L Q
theorem aub {X:Cx} (K:PySem.W.Frag) (P:Program) (w:World) (hK:X.K=K:=by rfl) (hP:X.prog=P:=by rfl) (hw:X.w=w:=by rfl):SlR X (azv ⟨K,P,w⟩ axi):=by
  refine SlR.imp (azm.or (a1k K P w hK hP hw)) fun x lo hi H Q ⟨y,L,Q3,rv,rl,z,k⟩=>?_
  cases y with
  | str s=>exact .inl ⟨s,rv,z.1,k _ H _ L (TSt.refl _) rl (by rfl) z.2⟩
  | _=>exact .inr ⟨_,L,Q3,rv,rl,z,k⟩
def at5 (t u:TS3) (D:Ends3) (τ:St3) (L:LHp):Prop:=∃ J:St3→LHp→Prop,t { D with nx:=J } τ L∧∀ τ' L',J τ' L'→u D τ' L'
theorem aip {X:Cx} {st:Stmt} {rest:List Stmt} {t u:TS3} (h:QS X st t) (k:QSs X rest u):QSs X (st::rest) (at5 t u):=PSs.imp (am1 h k) fun D σ H ⟨τ,L,D3,rs,rl,⟨J,z,q⟩,k⟩=>
  ⟨τ,L,{ D3 with nx:=J },rs,rl,z,fun σ1 H1 τ1 L1 t1 rs1 rl1 z1=>⟨τ1,L1,D3,rs1,rl1,q τ1 L1 z1,k.ts t1⟩,k.rt,k.bk,k.ct⟩
theorem aad {L:LHp} {a b:Addr} {o u:LO} (h:a≠b):qe (qe L a o) b u=qe (qe L b u) a o:=by
  funext c
  by_cases h1:c=a
  · subst h1;rw [qd h,q8,q8]
  · by_cases h2:c=b
    · subst h2;rw [q8,qd h1,q8]
    · rw [qd h2,qd h1,qd h1,qd h2]
end L3
namespace L3
open PySem L2
abbrev X3:=St3→Addr→LHp→Prop
abbrev aby:=List Y→LHp→YK→(Addr→LHp→Prop)→Prop
def upX (G:G3) (E3:X3):X1:=fun σ c H=>∃ C τ L,c=.ref C∧RelS G H σ τ∧RelH G H L∧E3 τ C L
def a2h (G:G3) (H:Hp) (E3:Addr→LHp→Prop) (E:XK):Prop:=∀ C H' L',TSt H H'→RelH G H' L'→E3 C L'→E (.ref C) none H'
def dnX (G:G3) (sp:aby):Sp:=fun vs H Q E=>∃ ys L Q3 E3,RVs G H ys vs∧RelH G H L∧sp ys L Q3 E3∧Aft G H Q3 Q∧a2h G H E3 E
def av5 (E3:Addr→LHp→Prop):X3:=fun _ C L=>∃ L2,LSub L2 L∧E3 C L2
abbrev avy (P:Program) (w:World) (K:PySem.W.Frag) (mg:Str→Option Value) (base:Heap) (k:Nat) (f:Addr) (fd:FuncData) (ps:List Str) (sp:aby):Prop:=FnOk P w K mg base (CXE P w) k f fd ps (dnX ⟨K,P,w⟩ sp)
structure Cal3X (P:Program) (w:World) (K:PySem.W.Frag) (mg:Str→Option Value) (base:Heap) (k:Nat) (x:Str) (ps:List Str) (sp:aby):Prop where
  ex:∃ f fd,avy P w K mg base k f fd ps sp∧Binds K fd ps []∧PySem.W.keepIn K (.ref f)=true∧mg x=some (.ref f)
theorem Inv.tst {X:Cx} {pins:List (Addr×Obj)} {σ:L2.St} {H:Hp} {s:Shared} (I:Inv X pins σ H s):TSt X.H₀ H:=fun a u i e=>by
  cases u with
  | tup xs=>exact I.base.tups a xs e
  | frz o u=>exact I.base.frzs a o u e
  | _=>cases i
theorem a06 {P:Program} {w:World} {K:PySem.W.Frag} {mg:Str→Option Value} {base:Heap} {N:List Str} {qual:Str} {scope:Scope} {f:Addr} {cd:Value} {A:Around} {outer:List Env} {s:Shared} {H:Hp} {E:XK} {E3:Addr→LHp→Prop} (h:a2h ⟨K,P,w⟩ H E3 E):
    Takes (zx (CXE P w) P w K mg base N qual scope f cd A outer s H E) (upX ⟨K,P,w⟩ (av5 E3)):=by
  intro pins σ H' s' a C tr I L ap apT ⟨C',τ,L',ec,rs,rl,L2,sb,q⟩
  cases ec
  exact atf pins σ H' s' a C tr I L ap apT (h C H' L2 (Inv.tst I) (rl.sub sb) q)
def ajl (sp:aby) (E3:X3) (t:TA3) (τ:St3) (L:LHp) (Q:YK):Prop:=t τ L fun ys L1=>sp ys L1 Q (E3 τ)
def art (C:Addr) (E3:X3) (t:TA3) (_:Ends3) (τ:St3) (L:LHp):Prop:=t τ L fun ys L1=>ys.length≤1000∧E3 τ C L1
section
variable {X:Cx} {e:Expr} {es:List Expr} {tr:TA3} {pos:Pos} {E3:X3}
theorem a26 {k:Nat} {x:Str} {ps:List Str} {sp:aby} {p:Pos} (c:Cal3X X.prog X.w X.K X.mg X.base k x ps sp) (hr:Room k X.A) (hg:Gl X x) (ht:Takes X (upX X.g3 E3)) (hx:X.ex=[]) (ha:QA X (e::es) tr) (hdb:(x==("__debug__" : Str))=false:=by decide)
    (he:starEach (e::es) X.env=(false,eval e X.env)::starEach es X.env:=by rfl) (hpl:(backTo pos (starEach es X.env)).any (·.1)=false:=by rfl):QE X (.Call (.Name x p) (e::es) [] pos) (ajl sp E3 tr):=by
  obtain ⟨f,fd,F,b,kp,m⟩:=c.ex
  refine PE.imp (am7 F hr hg m kp b ht hx ha hdb he hpl) fun σ H Q ⟨τ,L,Q3,rs,rl,z,k⟩=>?_
  exact ⟨τ,L,_,rs,rl,z,fun vs H1 ys L1 t1 rl1 rv1 z1=>⟨ys,L1,Q3,E3 τ,rv1,rl1,z1,k.ts t1,fun C H' L' t' rl' q=>⟨C,τ,L',rfl,rs.ts (t1.trans t'),rl',q⟩⟩⟩
theorem asf {C:Addr} {x:Str} {np cpos:Pos} (c:XCls X.K C) (hg:Gl X x) (hm:X.mg x=some (.ref C)) (hc:X.calm=true) (ht:Takes X (upX X.g3 E3)) (hx:X.ex=[]) (ha:QA X (e::es) tr) (hdb:(x==("__debug__" : Str))=false:=by decide)
    (he:starEach (e::es) X.env=(false,eval e X.env)::starEach es X.env:=by rfl) (hpl:(backTo cpos (starEach es X.env)).any (·.1)=false:=by rfl):
    QS X (.Raise (some (.Call (.Name x np) (e::es) [] cpos)) none pos) (art C E3 tr):=PS.imp (au5 c hg hm hc ht hx ha hdb he hpl) fun D σ H ⟨τ,L,D3,rs,rl,z,k⟩=>
  ⟨τ,L,_,rs,rl,z,fun vs H1 ys L1 t1 rl1 rv1 ⟨hl,z1⟩=>⟨afh (by rw [← rv1.length];exact hl),C,τ,L1,rfl,rs.ts t1,rl1,z1⟩⟩
end
end L3
namespace L3
open PySem L2
def anx:St3→Nat→St3
  | [],_=>[]
  | _::r,0=>none::r
  | o::r,i+1=>o::anx r i
theorem aox:∀ (τ:St3) (i:Nat),anx τ i=τ.set i none
  | [],_=>rfl
  | _::_,0=>rfl
  | o::r,i+1=>by rw [anx,aox r i];rfl
theorem RelS.clr {G:G3} {H:Hp} {σ:L2.St} {τ:St3} (h:RelS G H σ τ) (i:Nat):RelS G H (σ.set i none) (anx τ i):=by
  rw [aox]
  refine ⟨by simpa using h.len,fun j y e=>?_⟩
  by_cases hj:i=j
  · subst hj
    rw [List.getElem?_set] at e
    simp at e
  · rw [List.getElem?_set_ne hj] at e ⊢
    exact h.get j y e
def Dh3 (i:Nat) (D:Ends3):Ends3 where
  nx:=fun τ L=>D.nx (anx τ i) L
  rt:=D.rt
  bk:=fun τ L=>D.bk (anx τ i) L
  ct:=fun τ L=>D.ct (anx τ i) L
def axy (G:G3) (H:Hp) (E3:X3) (E1:X1):Prop:=∀ σ' C H' τ' L',TSt H H'→RelS G H' σ' τ'→RelH G H' L'→E3 τ' C L'→E1 σ' (.ref C) H'
def ayu (G:G3) (t:X3→TS3):X1→L2.TS:=fun E1 D σ H=>∃ τ L D3 E3,RelS G H σ τ∧RelH G H L∧t E3 D3 τ L∧AftD G H D3 D∧axy G H E3 E1
def QB (X:Cx) (body:List Stmt) (t:X3→TS3):Prop:=∀ (pn:List (Addr×Obj)) (xe:Value→Shared→Prop) (E1:X1),Takes (X.tr pn xe) E1→PSs (X.tr pn xe) body (ayu X.g3 t E1)
def a2f (K:PySem.W.Frag) (Dc:Addr) (i:Nat) (tb:X3→TS3) (th:TS3) (D:Ends3) (τ:St3) (L:LHp):Prop:=
  tb (fun τ' C L'=>PySem.W.exmOne K (.ref C) (.ref Dc)=some true∧∀ a,L' a=none→th (Dh3 i D) (afp τ' i (.ref a)) (qe L' a (.exc C))) D τ L
section
variable {X:Cx} {e:Expr} {es:List Expr} {tr:TA3} {pos cp:Pos}
theorem aw4 {k:Nat} {x:Str} {ps:List Str} {sp:aby} {p:Pos} (c:Cal3X X.prog X.w X.K X.mg X.base k x ps sp) (hr:Room k X.A) (hg:Gl X x) (hx:X.ex=[]) (ha:∀ pn xe,QA (X.tr pn xe) (e::es) tr) (hdb:(x==("__debug__" : Str))=false:=by decide)
    (he:starEach (e::es) X.env=(false,eval e X.env)::starEach es X.env:=by rfl) (hpl:(backTo cp (starEach es X.env)).any (·.1)=false:=by rfl) (hs:swapsWith (.Call (.Name x p) (e::es) [] cp) none pos.line X.env=pure false:=by rfl):
    QB X [.Expr (.Call (.Name x p) (e::es) [] cp) pos] (fun E3=>v8 (ajl sp E3 tr)):=by
  obtain ⟨f,fd,F,b,kp,m⟩:=c.ex
  intro pn xe E1 ht
  refine PSs.imp (ag6 (ak7 (am7 (X:=X.tr pn xe) F hr hg m kp b ht hx (ha pn xe) hdb he hpl) hs)) fun D σ H ⟨τ,L,D3,E3,rs,rl,z,k,kx⟩=>?_
  exact ⟨τ,L,_,rs,rl,z,fun vs H1 ys L1 t1 rl1 rv1 z1=>⟨ys,L1,_,E3 τ,rv1,rl1,z1,(fun v H2 y L2 t2 rl2 rv2 z2=>k.nx _ H2 _ L2 (t1.trans t2) (rs.ts (t1.trans t2)) rl2 z2),fun C H' L' t' rl' q=>kx σ C H' τ L' (t1.trans t') (rs.ts (t1.trans t')) rl' q⟩⟩
theorem a09 {Dc:Addr} {i:Nat} {n x:Str} {np hpos:Pos} {body suite:List Stmt} {b₀:Stmt} {tb:X3→TS3} {th:TS3} (hs:X.stack=X.env::X.outer) (hf:X.env.frame=some X.env.locals) (hx:X.ex=[]) (hN:X.N.Nodup) (hi:X.N[i]?=some n)
    (hk:X.env.scope.names.lookup n=some .local) (hg:Gl X x) (hm:X.mg x=some (.ref Dc)) (hb:QB X body tb) (hh:∀ a,QSs (X.hnd a) (b₀::suite) th)
    (hdb:(x==("__debug__" : Str))=false:=by decide):QS X (.Try body [.ExceptHandler (some (.Name x np)) (some n) (b₀::suite) hpos] [] [] pos) (a2f X.K Dc i tb th):=
  PS.imp (azo (tb:=ayu X.g3 tb) (th:=upS X.g3 th) hs hf hx hN hi hk hg hm hb hh hdb) fun D σ H ⟨τ,L,D3,rs,rl,z,k⟩=>by
  show ayu X.g3 tb (aw3 X.K Dc i (upS X.g3 th) D) D σ H
  refine ⟨τ,L,D3,_,rs,rl,z,k,fun σ' C H' τ' L' t' rs' rl' ⟨em,q⟩=>⟨C,rfl,em,fun a oe ha hc=>?_⟩⟩
  have ta:TSt H' (upd H' a (.frz oe (.own 0))):=TSt.new ha
  refine ⟨afp τ' i (.ref a),qe L' a (.exc C),Dh3 i D3,by rw [aa1];exact (rs'.ts ta).set rfl,fun b u e=>?_,q a (rl'.none ha),?_⟩
  · by_cases c:b=a
    · subst c
      rw [q8] at e;cases e
      exact ⟨oe,zr,hc⟩
    · rw [qd c] at e
      exact (rl' b u e).keep ta (qm c)
  · have k2:=k.ts (t'.trans ta)
    exact ⟨fun σ2 H2 τ2 L2 t2 rs2 rl2 z2=>k2.nx _ H2 _ L2 t2 (rs2.clr i) rl2 z2,k2.rt,fun σ2 H2 τ2 L2 t2 rs2 rl2 z2=>k2.bk _ H2 _ L2 t2 (rs2.clr i) rl2 z2,fun σ2 H2 τ2 L2 t2 rs2 rl2 z2=>k2.ct _ H2 _ L2 t2 (rs2.clr i) rl2 z2⟩
end
end L3
namespace L3
open PySem L2
@[irreducible] def ato (L:LHp) (a:Addr) (k:Addr→Prop):Prop:=match L a with
  | some (.exc C)=>k C
  | _=>False
theorem aam {L:LHp} {a C:Addr} {k:Addr→Prop} (e:L a=some (.exc C)) (h:k C):ato L a k:=by unfold ato;rw [e];exact h
theorem at0 {L:LHp} {a:Addr} {k:Addr→Prop} (h:ato L a k):∃ C,L a=some (.exc C)∧k C:=by
  unfold ato at h
  split at h
  · rename_i C e;exact ⟨C,e,h⟩
  · exact h.elim
def abo (K:PySem.W.Frag) (u:Value) (te:TE3) (τ:St3) (L:LHp) (Q:YK):Prop:=te τ L fun x L1=>match x with
  | .ref a=>ato L1 a fun C=>XHd K C∧∃ b,PySem.W.kitOne K (.ref C) u=some b∧Q (.bl b) L1
  | _=>False
section
variable {X:Cx} {a e:Expr} {es:List Expr} {ta:TE3} {pos p pt:Pos} {v:V} {vs:List V}
theorem ae6 {x:Str} {C:Addr} (hg:Gl X x) (hm:X.mg x=some (.ref C)) (hd:(x==("__debug__" : Str))=false:=by decide):PE X (.Name x p) (tC (.ref C)):=axs hg hm hd
theorem wj {c:Expr} {u:Value} (hg:Gl X "isinstance") (hm:X.mg "isinstance" = none) (ha:QE X a ta) (hc:PE X c (tC v)) (hv:atb v=some u)
    (hs:starEach [a,c] X.env=(false,eval a X.env)::starEach [c] X.env:=by rfl) (hs2:starEach [c] X.env=(false,eval c X.env)::starEach [] X.env:=by rfl) (hp:(backTo pos (starEach [c] X.env)).any (·.1)=false:=by rfl):
    QE X (.Call (.Name "isinstance" p) [a,c] [] pos) (abo X.K u ta):=by
  refine PE.imp (ahf an3 hg hm acl (wq ha (wq hc aem hs2) hs) (by decide) (by decide) hs hp) ?_
  rintro σ H Q ⟨τ,L,Q3,rs,rl,z,k⟩
  refine ⟨τ,L,_,rs,rl,z,fun w H1 y L1 t1 rl1 rv1 z1=>?_⟩
  cases y with
  | ref b=>
    obtain ⟨C,e,hd,bb,kk,q⟩:=at0 z1
    cases rv1
    exact ⟨b,C,v,rfl,rl1 b _ e,hd,.inl ⟨u,bb,hv,kk,k _ H1 _ L1 t1 rl1 (by rfl) q⟩⟩
  | _=>exact z1.elim
end
end L3
namespace L3
open PySem L2
def noX:X3:=fun _ _ _=>False
theorem ant {X:Cx}:Takes X (upX X.g3 noX):=fun _ _ _ _ _ _ _ _ _ _ _ ⟨_,_,_,_,_,_,z⟩=>z.elim
theorem ai6:bootBuiltins "ValueError" = some (.type "ValueError"):=by decide +kernel
end L3
namespace L3
open PySem L2 PySem.W
theorem an7 {K:Frag} {C:Addr} (q:excIn K C [.type "ValueError",.type "Exception",.type "BaseException",.type "object"] "ValueError.__new__" = true):XCls K C:=awe q PySem.F.excBase_ValueError (by decide +kernel) PySem.F.excBase_ValueError
section
variable {K:Frag} {C D:Addr} {t c:Value} {b:Bool}
theorem kit_own {cd:ClassData} (ne:(Value.ref C==Value.ref D)=false) (h1:clsIn K D=some cd) (h2:typeIn K (.ref D)=some (.type "type")) (h3:subIn K (.ref C) (.ref D)=some b):kitOne K (.ref C) (.ref D)=some b:=by
  unfold kitOne
  rw [if_neg (by rw [ne];exact Bool.false_ne_true)]
  unfold kitCls
  simp only [h1,h2,Option.isSome_some,beq_self_eq_true,Bool.and_self,if_true]
  exact h3
theorem kit_self:kitOne K (.ref C) (.ref C)=some true:=by
  unfold kitOne
  rw [if_pos (beq_self_eq_true _)]
theorem kit_blt {T:String} (hm:kitMeta T=true) (h3:subIn K (.ref C) (.type T)=some b):kitOne K (.ref C) (.type T)=some b:=by
  unfold kitOne
  rw [if_neg (by intro q;cases beq_iff_eq.mp q)]
  unfold kitCls
  simp only [hm,if_true]
  exact h3
theorem exm_own {cd:ClassData} (h0:subIn K (.ref D) (.type "BaseException")=some true) (h1:clsIn K D=some cd) (h2:typeIn K (.ref D)=some (.type "type")) (h3:subIn K (.ref C) (.ref D)=some b):exmOne K (.ref C) (.ref D)=some b:=by
  unfold exmOne
  rw [if_pos (by rw [h0];rfl)]
  unfold kitCls
  simp only [h1,h2,Option.isSome_some,beq_self_eq_true,Bool.and_self,if_true]
  exact h3
theorem xhd_of {cd:ClassData} (ga:findIn K (.ref C) "__getattribute__" = some (some (.builtin "BaseException.__getattribute__"))) (gt:findIn K (.ref C) "__getattr__" = some none) (cl:findIn K (.ref C) "__class__" = some (some (.builtin "object.__class__")))
    (ge:specialIn K (.builtin "object.__class__") "__get__" = some (some (.builtin "getset_descriptor.__get__"))) (tk:takesIn K (.builtin "object.__class__")=some true) (mo:mroIn K C (.type "object")=some true) (be:subIn K (.ref C) (.type "BaseException")=some true) (h:clsIn K C=some cd):XHd K C:=
  ⟨⟨ga,gt,cl,ge,tk,mo,be⟩,by rw [h];rfl⟩
end
end L3
namespace L2
open PySem PySem.Spec PyProof.Rows
section
variable {X:Cx} {a b c:Expr} {es:List Expr} {ta tb:TE} {op op':CmpOp} {ops:List CmpOp} {r:R2} {u:V→TE} {pos:Pos}
end
end L2
namespace L3
open PySem L2
section
variable {X:Cx} {a b c:Expr} {es:List Expr} {ta tb:TE3} {op op':CmpOp} {ops:List CmpOp} {r:R23} {u:Y→TE3} {pos:Pos}
end
end L3
namespace L2
open PySem PySem.Spec PyProof.Rows
section
variable {X:Cx}
end
end L2
namespace L3
open PySem L2
end L3
namespace L3
open PySem L2
def awo:Y→Option Key
  | .int i=>some (.inl i)
  | .str x=>some (.inr x)
  | _=>none
theorem ahg {G:G3} {H:Hp} {y:Y} {v:V} {k:Key} (h:awo y=some k) (r:RV G H y v):v=kV k:=by
  cases y with
  | int i=>cases h;exact r
  | str x=>cases h;exact r
  | _=>cases h
def ak5 (kvs:List (Key×Y)) (k:Key) (y:Y):List (Key×Y):=
  if (kvs.any fun kv=>decide (kv.1=k))=true then kvs.map (fun kv=>if kv.1=k then (kv.1,y) else kv) else kvs++[(k,y)]
theorem TSt.dct {H:Hp} {p:Addr} {zs:List (Key×V)} {o:HO} (h:H p=some (.dK zs)):TSt H (upd H p o):=fun a u i q=>by
  rw [qm ?_];exact q
  rintro rfl
  rw [h] at q;cases q;cases i
theorem asj {G:G3} {H:Hp} {kvs:List (Key×Y)} {xs:List (Key×V)} (p:Paired (fun (p:Key×Y) (q:Key×V)=>p.1=q.1∧RV G H p.2 q.2) kvs xs) (k:Key):(kvs.any fun kv=>decide (kv.1=k))=xs.any fun kv=>decide (kv.1=k):=by
  induction p with
  | nil=>rfl
  | cons r t ih=>rw [List.any_cons,List.any_cons,ih,r.1]
theorem ar6 {G:G3} {H:Hp} {kvs:List (Key×Y)} {xs:List (Key×V)} {y:Y} {v:V} (p:Paired (fun (p:Key×Y) (q:Key×V)=>p.1=q.1∧RV G H p.2 q.2) kvs xs) (k:Key) (r:RV G H y v):
    Paired (fun (p:Key×Y) (q:Key×V)=>p.1=q.1∧RV G H p.2 q.2) (kvs.map fun kv=>if kv.1=k then (kv.1,y) else kv) (xs.map fun kv=>if kv.1=k then (kv.1,v) else kv):=by
  induction p with
  | nil=>exact .nil
  | @cons a b _ _ r' t ih=>
    refine .cons ?_ ih
    obtain ⟨e,q⟩:=r'
    dsimp only
    by_cases c:a.1=k
    · rw [if_pos c,if_pos (e▸c)];exact ⟨e,r⟩
    · rw [if_neg c,if_neg (fun z=>c (e.trans z))];exact ⟨e,q⟩
theorem apn {G:G3} {H:Hp} {kvs:List (Key×Y)} {xs:List (Key×V)} {y:Y} {v:V} (p:Paired (fun (p:Key×Y) (q:Key×V)=>p.1=q.1∧RV G H p.2 q.2) kvs xs) (k:Key) (r:RV G H y v):
    Paired (fun (p:Key×Y) (q:Key×V)=>p.1=q.1∧RV G H p.2 q.2) (kvs++[(k,y)]) (xs++[(k,v)]):=by
  induction p with
  | nil=>exact .cons ⟨rfl,r⟩ .nil
  | cons r' t ih=>exact .cons r' ih
theorem atj {G:G3} {H:Hp} {kvs:List (Key×Y)} {xs:List (Key×V)} {y:Y} {v:V} (p:Paired (fun (p:Key×Y) (q:Key×V)=>p.1=q.1∧RV G H p.2 q.2) kvs xs) (k:Key) (r:RV G H y v):
    Paired (fun (p:Key×Y) (q:Key×V)=>p.1=q.1∧RV G H p.2 q.2) (ak5 kvs k y) (aer xs k v):=by
  unfold ak5 aer
  rw [asj p k]
  by_cases c:(xs.any fun kv=>decide (kv.1=k))=true
  · rw [if_pos c,if_pos c];exact ar6 p k r
  · rw [if_neg c,if_neg c];exact apn p k r
theorem aac {α β:Type} {R:α→β→Prop} {l:List α} {m:List β} (p:Paired R l m):l.length=m.length:=by
  induction p with
  | nil=>rfl
  | cons _ _ ih=>rw [List.length_cons,List.length_cons,ih]
def ay3 (_:St3) (L:LHp) (Q:YK):Prop:=∀ p,L p=none→Q (.ref p) (qe L p (.dct []))
def axn (td ti:TE3) (τ:St3) (L:LHp) (Q:YK):Prop:=td τ L fun x L1=>ti τ L1 fun y L2=>match x,awo y with
  | .ref a,some k=>ak2 L2 a fun kvs=>atK L2 Q (kl kvs k)
  | _,_=>False
def ay1 (td ti tv:TE3) (D:Ends3) (τ:St3) (L:LHp):Prop:=tv τ L fun v L1=>td τ L1 fun x L2=>ti τ L2 fun y L3=>match x,awo y with
  | .ref a,some k=>ak2 L3 a fun kvs=>kvs.length<sizeLine∧D.nx τ (qe L3 a (.dct (ak5 kvs k v)))
  | _,_=>False
section
variable {X:Cx} {o i value:Expr} {td ti tv:TE3} {pos pos':Pos}
theorem aw5:QE X (.Dict [] [] pos) ay3:=PE.imp atg fun σ H Q ⟨τ,L,Q3,rs,rl,z,k⟩=>fun p hp=>by
  refine k _ _ _ (qe L p (.dct [])) (TSt.new hp) (fun a u e=>?_) (by rfl) (z p (rl.none hp))
  by_cases c:a=p
  · subst c
    rw [q8] at e;cases e
    exact ⟨[],zr,.nil⟩
  · rw [qd c] at e
    exact (rl a u e).keep (TSt.new hp) (qm c)
theorem ax0 (hu:X.A.units+128<cLine) (ho:QE X o td) (hi:QE X i ti) (hs:a14 i):QE X (.Subscript o i pos) (axn td ti):=PE.imp (awt (by omega) ho hi hs) fun σ H Q ⟨τ,L,Q3,rs,rl,z,k⟩=>
  ⟨τ,L,_,rs,rl,z,fun v H1 x L1 t1 rl1 rv1 z1=>⟨τ,L1,_,rs.ts t1,rl1,z1,fun w H2 y L2 t2 rl2 rv2 z2=>by
    split at z2
    · rename_i a kk ek
      obtain ⟨kvs,e,z3⟩:=abt z2
      obtain ⟨yv,ev,q⟩:=adl z3
      obtain ⟨xs,e2,pr⟩:=rl2 a _ e
      obtain ⟨xv,ex,rx⟩:=aej pr ev
      exact ⟨a,xv,rv1,.inl ⟨xs,kk,.inl e2,ahg ek rv2,ex.symm⟩,k _ H2 _ L2 (t1.trans t2) rl2 rx q⟩
    · exact z2.elim⟩⟩
theorem ax2 (hu:X.A.units+128<cLine) (ho:QE X o td) (hi:QE X i ti) (hv:QE X value tv) (hs:swapsWith value (some (.Subscript o i pos')) pos.line X.env=pure false:=by rfl):QS X (.Assign [.Subscript o i pos'] value pos) (ay1 td ti tv):=
  PS.imp (auw (by omega) ho hi hv hs) fun D σ H ⟨τ,L,D3,rs,rl,z,k⟩=>
  ⟨τ,L,_,rs,rl,z,fun v H1 vy L1 t1 rl1 rv1 z1=>⟨τ,L1,_,rs.ts t1,rl1,z1,fun x H2 xy L2 t2 rl2 rv2 z2=>⟨τ,L2,_,rs.ts (t1.trans t2),rl2,z2,fun w H3 y L3 t3 rl3 rv3 z3=>by
    split at z3
    · rename_i a kk ek
      obtain ⟨kvs,e,hl,q⟩:=abt z3
      obtain ⟨xs,e2,pr⟩:=rl3 a _ e
      have tt:TSt H3 (upd H3 a (.dK (aer xs kk v))):=TSt.dct e2
      cases (show x=V.ref a from rv2)
      refine ⟨a,_,rfl,.inl ⟨xs,kk,e2,ahg ek rv3,by rw [← aac pr];exact hl,rfl⟩,?_⟩
      refine k.nx _ _ _ _ (((t1.trans t2).trans t3).trans tt) (rs.ts (((t1.trans t2).trans t3).trans tt)) (fun b u eb=>?_) q
      by_cases c:b=a
      · subst c
        rw [q8] at eb;cases eb
        exact ⟨_,zr,Paired.mapP (atj pr kk (rv1.ts (t2.trans t3))) fun _ _ ⟨h1,h2⟩=>⟨h1,h2.ts tt⟩⟩
      · rw [qd c] at eb
        exact (rl3 b u eb).keep tt (qm c)
    · exact z3.elim⟩⟩⟩
end
end L3
namespace L3
open PySem L2
def aud (to ti tv:TE3) (D:Ends3) (τ:St3) (L:LHp):Prop:=tv τ L fun v L1=>to τ L1 fun x L2=>ti τ L2 fun y L3=>match x,y with
  | .ref a,.int i=>adb L3 a fun ys=>atK L3 (fun j L=>D.nx τ (qe L a (.lst (ys.set j v)))) (ixN ys.length i)
  | _,_=>False
section
variable {X:Cx} {o i value:Expr} {to ti tv:TE3} {pos pos':Pos}
theorem aow (ho:QE X o to) (hi:QE X i ti) (hv:QE X value tv)
    (ha:∀ v,assign (.Subscript o i pos') X.env v=(do
      let ov ← holding [v] (eval o X.env)
      let iv ← holding [v,ov] (eval i X.env)
      standAt pos'
      holding [v,ov,iv] (setItem ov iv v)
      release [v,ov,iv] []):=by intro _;rfl)
    (h1:swapsWithSole [.Subscript o i pos'] value pos.line X.env=pure false:=by rfl) (h2:swappedStores [.Subscript o i pos'] value X.env=pure none:=by rfl)
    (h3:(assignEach [.Subscript o i pos'] X.env).map (·.2)=[assign (.Subscript o i pos') X.env]:=by rfl):QS X (.Assign [.Subscript o i pos'] value pos) (aud to ti tv):=
  PS.imp (a0h hv (azc ho hi att ha) h1 h2 h3) fun D σ H ⟨τ,L,D3,rs,rl,z,k⟩=>
  ⟨τ,L,_,rs,rl,z,fun v H1 vy L1 t1 rl1 rv1 z1=>⟨τ,L1,_,rs.ts t1,rl1,z1,fun x H2 xy L2 t2 rl2 rv2 z2=>⟨τ,L2,_,rs.ts (t1.trans t2),rl2,z2,fun w H3 y L3 t3 rl3 rv3 z3=>by
    split at z3
    · rename_i a ii
      obtain ⟨ys,e,z4⟩:=xr z3
      obtain ⟨j,ej,q⟩:=adl z4
      obtain ⟨xs,e2,r⟩:=rl3 a _ e
      cases (show x=V.ref a from rv2)
      cases (show w=V.int ii from rv3)
      have tt:TSt H3 (upd H3 a (.lst (xs.set j v))):=TSt.lst e2
      exact ⟨a,xs,ii,j,rfl,rfl,e2,by rw [← r.length];exact ej,k.nx _ _ _ _ (((t1.trans t2).trans t3).trans tt) (rs.ts (((t1.trans t2).trans t3).trans tt)) (rl3.setL e2 (RVs.setY (rv1.ts (t2.trans t3)) j r)) q⟩
    · exact z3.elim⟩⟩⟩
end
end L3
namespace L2
open PySem PySem.Spec PyProof.Rows
section
variable {X:Cx} {e v₁ v₂:Expr} {es:List Expr} {te:TE} {u:Str→TE} {pos:Pos}
end
end L2
namespace L3
open PySem L2
section
variable {X:Cx} {e v₁ v₂:Expr} {es:List Expr} {te:TE3} {u:Str→TE3} {pos:Pos}
end
end L3
namespace L3
open PySem L2
@[irreducible] def an8 (L:LHp) (a:Addr) (k:Addr→List (Str×Y)→Prop):Prop:=match L a with
  | some (.ins C fs)=>k C fs
  | _=>False
theorem xa {L:LHp} {a C:Addr} {fs:List (Str×Y)} {k:Addr→List (Str×Y)→Prop} (e:L a=some (.ins C fs)) (h:k C fs):an8 L a k:=by unfold an8;rw [e];exact h
theorem agv {L:LHp} {a:Addr} {k:Addr→List (Str×Y)→Prop} (h:an8 L a k):∃ C fs,L a=some (.ins C fs)∧k C fs:=by
  unfold an8 at h
  split at h
  · rename_i C fs e;exact ⟨C,fs,e,h⟩
  · exact h.elim
abbrev PrF (G:G3) (H:Hp):List (Str×Y)→List (Str×V)→Prop:=Paired fun (p:Str×Y) (q:Str×V)=>p.1=q.1∧RV G H p.2 q.2
theorem axg {G:G3} {H:Hp} {fs:List (Str×Y)} {xs:List (Str×V)} (p:PrF G H fs xs) {f:Str} {y:Y} (h:fs.lookup f=some y):∃ v,xs.lookup f=some v∧RV G H y v:=by
  induction p with
  | nil=>cases h
  | @cons a b _ _ r t ih=>
    obtain ⟨ka,ya⟩:=a;obtain ⟨kb,vb⟩:=b
    obtain ⟨e,r⟩:=r
    cases (show ka=kb from e)
    rw [List.lookup_cons] at h ⊢
    cases c:(f==ka) with
    | true=>rw [c] at h;cases h;exact ⟨vb,rfl,r⟩
    | false=>rw [c] at h;exact ih h
theorem atk {G:G3} {H:Hp} {fs:List (Str×Y)} {xs:List (Str×V)} (p:PrF G H fs xs) {f:Str} (h:fs.lookup f=none):xs.lookup f=none:=by
  induction p with
  | nil=>rfl
  | @cons a b _ _ r t ih=>
    obtain ⟨ka,ya⟩:=a;obtain ⟨kb,vb⟩:=b
    obtain ⟨e,r⟩:=r
    cases (show ka=kb from e)
    rw [List.lookup_cons] at h ⊢
    cases c:(f==ka) with
    | true=>rw [c] at h;cases h
    | false=>rw [c] at h;exact ih h
def aoq (f:Str) (y:Y):List (Str×Y)→List (Str×Y)
  | []=>[(f,y)]
  | (g,x)::r=>if g=f then (g,y)::r else (g,x)::aoq f y r
theorem avx {G:G3} {H:Hp} {fs:List (Str×Y)} {xs:List (Str×V)} (p:PrF G H fs xs) (f:Str) {y:Y} {v:V} (r:RV G H y v):PrF G H (aoq f y fs) (aar f v xs):=by
  induction p with
  | nil=>exact .cons ⟨rfl,r⟩ .nil
  | @cons a b _ _ r' t ih=>
    obtain ⟨ka,ya⟩:=a;obtain ⟨kb,vb⟩:=b
    obtain ⟨e,q⟩:=r'
    cases (show ka=kb from e)
    unfold aoq aar
    by_cases c:ka=f
    · rw [if_pos c,if_pos c];exact .cons ⟨rfl,r⟩ t
    · rw [if_neg c,if_neg c];exact .cons ⟨rfl,q⟩ ih
theorem TSt.ins {H:Hp} {p C dx:Addr} {zs:List (Str×V)} {o:HO} (h:H p=some (.ins C dx zs)):TSt H (upd H p o):=fun a u i q=>by
  rw [qm ?_];exact q
  rintro rfl
  rw [h] at q;cases q;cases i
def an5 (K:PySem.W.Frag) (f:Str) (te:TE3) (τ:St3) (L:LHp) (Q:YK):Prop:=te τ L fun x L1=>match x with
  | .ref a=>an8 L1 a fun C fs=>Cls K C∧NoAttr K C f∧atK L1 Q (fs.lookup f)
  | _=>False
def axr (K:PySem.W.Frag) (f:Str) (to tv:TE3) (D:Ends3) (τ:St3) (L:LHp):Prop:=tv τ L fun v L1=>to τ L1 fun x L2=>match x with
  | .ref a=>an8 L2 a fun C fs=>Cls K C∧NoAttr K C f∧fs.length<1000∧D.nx τ (qe L2 a (.ins C (aoq f v fs)))
  | _=>False
def asn (C:Addr) (sp:Sp3) (t:TA3) (τ:St3) (L:LHp) (Q:YK):Prop:=t τ L fun ys L1=>∀ x,L1 x=none→sp (.ref x::ys) (qe L1 x (.ins C [])) fun v L2=>v=.non∧Q (.ref x) L2
section
variable {X:Cx} {o e value:Expr} {es:List Expr} {to te tv:TE3} {tr:TA3} {pos pos' apos p:Pos} {f m x:Str} {C g:Addr}
theorem aeo (h:QE X e te) (hb:attributeBase e f X.env (eval e X.env)=eval e X.env:=by rfl):QE X (.Attribute e f pos) (an5 X.K f te):=PE.imp (ayr h hb) fun σ H Q ⟨τ,L,Q3,rs,rl,z,k⟩=>
  ⟨τ,L,_,rs,rl,z,fun v H1 y L1 t1 rl1 rv1 z1=>by
    split at z1
    · rename_i a
      obtain ⟨C,fs,e,c,n,z2⟩:=agv z1
      obtain ⟨y,ey,q⟩:=adl z2
      obtain ⟨dx,xs,e2,pr⟩:=rl1 a _ e
      obtain ⟨w,ew,rw'⟩:=axg pr ey
      exact ⟨a,C,dx,xs,w,rv1,e2,c,n,ew,k _ H1 _ L1 t1 rl1 rw' q⟩
    · exact z1.elim⟩
theorem auh (ho:QE X o to) (hv:QE X value tv) (hs:swapsWith value (some (.Attribute o f pos')) pos.line X.env=pure false:=by rfl):QS X (.Assign [.Attribute o f pos'] value pos) (axr X.K f to tv):=PS.imp (a0l ho hv hs) fun D σ H ⟨τ,L,D3,rs,rl,z,k⟩=>
  ⟨τ,L,_,rs,rl,z,fun v H1 vy L1 t1 rl1 rv1 z1=>⟨τ,L1,_,rs.ts t1,rl1,z1,fun w H2 y L2 t2 rl2 rv2 z2=>by
    split at z2
    · rename_i a
      obtain ⟨C,fs,e,c,n,hl,q⟩:=agv z2
      obtain ⟨dx,xs,e2,pr⟩:=rl2 a _ e
      have tt:TSt H2 (upd H2 a (.ins C dx (aar f v xs))):=TSt.ins e2
      refine ⟨a,C,dx,xs,rv2,e2,c,n,by rw [← aac pr];exact hl,k.nx _ _ _ _ ((t1.trans t2).trans tt) (rs.ts ((t1.trans t2).trans tt)) (fun b u eb=>?_) q⟩
      by_cases cc:b=a
      · subst cc
        rw [q8] at eb;cases eb
        exact ⟨dx,_,zr,Paired.mapP (avx pr f (rv1.ts t2)) fun _ _ ⟨h1,h2⟩=>⟨h1,h2.ts tt⟩⟩
      · rw [qd cc] at eb
        exact (rl2 b u eb).keep tt (qm cc)
    · exact z2.elim⟩⟩
theorem aww {k:Nat} {fd:FuncData} {ps:List Str} {sp:Sp3} (M:Mk X.K C g) (F:Fn3 X.prog X.w X.K X.mg X.base k g fd ps sp) (hr:Room (k+1) X.A) (hg:Gl X x) (hm:X.mg x=some (.ref C)) (hb:Binds X.K fd ps []) (ha:QA X (e::es) tr)
    (hdb:(x==("__debug__" : Str))=false:=by decide) (he:starEach (e::es) X.env=(false,eval e X.env)::starEach es X.env:=by rfl) (hpl:(backTo pos (starEach es X.env)).any (·.1)=false:=by rfl):
    QE X (.Call (.Name x p) (e::es) [] pos) (asn C sp tr):=PE.imp (ax6 M F hr hg hm hb .nil arv ha hdb he hpl) fun σ H Q ⟨τ,L,Q3,rs,rl,z,k⟩=>
  ⟨τ,L,_,rs,rl,z,fun vs H1 ys L1 t1 rl1 rv1 z1=>fun x dx hx hdx ne=>by
    have ta:TSt H1 (upd H1 dx (.own x)):=TSt.new hdx
    have hx':upd H1 dx (.own x) x=none:=by rw [qm (Ne.symm ne)];exact hx
    have tt:TSt H1 (upd (upd H1 dx (.own x)) x (.ins C dx [])):=ta.trans (TSt.new hx')
    refine ⟨.ref x::ys,qe L1 x (.ins C []),_,⟨.ref x,vs++[],by simp,rfl,by rw [List.append_nil];exact rv1.ts tt⟩,fun b u eb=>?_,z1 x (rl1.none hx),fun v H2 y L2 t2 rl2 rv2 ⟨ev,q⟩=>?_⟩
    · by_cases cc:b=x
      · subst cc
        rw [q8] at eb;cases eb
        exact ⟨dx,[],zr,.nil⟩
      · rw [qd cc] at eb
        have nd:b≠dx:=fun z=>by
          obtain ⟨w,ew⟩:=(rl1 b u eb).ex
          rw [z,hdx] at ew;cases ew
        exact (rl1 b u eb).keep tt (by rw [qm cc,qm nd])
    · subst ev
      exact ⟨rv2,k _ H2 _ L2 (t1.trans (tt.trans t2)) rl2 (by rfl) q⟩⟩
end
end L3
namespace L3
open PySem L2
end L3
namespace L3
open PySem L2
open PySem.AutoSeq1 (wpAny_loadPart')
open MeetsSeq MeetsSeq2 MeetsSeq3 SeqRoads2
theorem RVs.rev {G:G3} {H:Hp}:∀ {ys:List Y} {xs:List V},RVs G H ys xs→RVs G H ys.reverse xs.reverse
  | [],xs,r=>by cases (show xs=[] from r);exact rfl
  | y::t,xs,r=>by
    obtain ⟨x,xs',rfl,r1,r2⟩:=r
    rw [List.reverse_cons,List.reverse_cons]
    exact RVs.app (RVs.rev r2) (RVs.one r1)
def ay0 (x y:Y) (L:LHp) (Q:YK):Prop:=agw L x fun xs=>agw L y fun ys=>alz x=true∧alz y=true∧xs.length+ys.length≤sizeLine∧∀ p,L p=none→Q (.ref p) (qe L p (.lst (xs++ys)))
theorem az8 {X:Cx} (K:PySem.W.Frag) (P:Program) (w:World) (hK:X.K=K:=by rfl) (hP:X.prog=P:=by rfl) (hw:X.w=w:=by rfl):OpR X (binaryOp .Add) (upR ⟨K,P,w⟩ ay0):=by
  subst hK hP hw
  intro pins s σ H x y v u Q I rx ry ⟨x3,y3,L,Q3,r1,r2,rl,z,k⟩
  obtain ⟨xs,ex,z⟩:=we z
  obtain ⟨ys,ey,z⟩:=we z
  obtain ⟨lx,ly,hz,q⟩:=z
  obtain ⟨a,ws,rfl,s1,rv1⟩:=ac9 rl r1 lx ex
  obtain ⟨b,ws',rfl,s2,rv2⟩:=ac9 rl r2 ly ey
  cases rx;cases ry
  obtain ⟨is1,vx,tx,_⟩:=I.list s1
  obtain ⟨is2,vy,ty,_⟩:=I.list s2
  obtain ⟨⟨cls,dd,data,sl⟩,ho,hc,n,hd⟩:=id (qz tx)
  obtain ⟨⟨cls2,dd2,data2,sl2⟩,ho2,hc2,n2,hd2⟩:=id (qz ty)
  simp only at hc hd hc2 hd2
  subst hc hd hc2 hd2
  have l1:=vx.length;have l2:=vy.length;have l3:=rv1.length;have l4:=rv2.length
  have hsz:is1.toArray.size+is2.toArray.size≤sizeLine:=by rw [List.size_toArray,List.size_toArray];omega
  refine concat_meets ⟨_,ho,rfl⟩ ⟨_,ho2,rfl⟩ noFill_list_add seq_list_add PySem.F.slot_list_add PySem.F.entry_list_add (PySem.F.args_list_add_2 _ _) (PyProof.Rows.list_addW a b is1.toArray is2.toArray n n2 dd dd2 sl sl2 hsz) ⟨ho,ho2,?_⟩
  have e:is1.toArray++is2.toArray=(is1++is2).toArray:=by simp
  rw [e]
  exact ⟨.ref _,_,I.lnew (t':=s.toks) (vx.append vy) (by rw [List.length_append];omega),rfl,k _ _ _ _ (TSt.new I.fresh) (rl.newL I.fresh (rv1.app rv2)) (by rfl) (q _ (rl.none I.fresh))⟩
end L3
namespace L2
open PySem PySem.Spec PyProof.Rows
end L2
namespace Txs
open PySem PySem.Builtin.Str
end Txs
namespace L2
open PySem PySem.Spec PyProof.Rows
section
variable {X:Cx} {pins:List (Addr×Obj)} {σ:St} {H:Hp} {s:Shared} {isp imk c j1 j2:Nat} {sp mk:Str} {x:Str} {u:Tok} {m:Str→Option Value} {p1 p3 p4 p5 p6 p7 p8 p9 p10 apos cpos pos:Pos} {Q:Flow→Shared→Prop}
end
end L2
namespace L3
open PySem L2
end L3
namespace L2
open PySem PySem.Spec PyProof.Rows
section
variable {X:Cx}
end
end L2
namespace L3
open PySem L2
end L3
namespace L3
open PySem L2
def agf (s:Stmt):List Stmt:=match s with
  | .ClassDef _ _ _ b _ _ _ _ _ _ _=>b
  | _=>[]
structure CalM (P:Program) (w:World) (K:PySem.W.Frag) (mg:Str→Option Value) (base:Heap) (k:Nat) (C:Addr) (m:Str) (ps:List Str) (sp:Sp3):Prop where
  ex:∃ g fd,Meth K C m g∧Fn3 P w K mg base k g fd ps sp∧Binds K fd ps []
structure CalI (P:Program) (w:World) (K:PySem.W.Frag) (mg:Str→Option Value) (base:Heap) (k:Nat) (C:Addr) (ps:List Str) (sp:Sp3):Prop where
  ex:∃ g fd,Mk K C g∧(∃ j,k=j+1∧Fn3 P w K mg base j g fd ps sp)∧Binds K fd ps []
theorem CalM.mono {P:Program} {w:World} {K:PySem.W.Frag} {mg:Str→Option Value} {base:Heap} {j k:Nat} {C:Addr} {m:Str} {ps:List Str} {sp:Sp3} (c:CalM P w K mg base j C m ps sp) (h:j≤k):CalM P w K mg base k C m ps sp:=by
  obtain ⟨g,fd,M,F,b⟩:=c.ex
  exact ⟨g,fd,M,F.mono h,b⟩
theorem CalI.mono {P:Program} {w:World} {K:PySem.W.Frag} {mg:Str→Option Value} {base:Heap} {j k:Nat} {C:Addr} {ps:List Str} {sp:Sp3} (c:CalI P w K mg base j C ps sp) (h:j≤k):CalI P w K mg base k C ps sp:=by
  obtain ⟨g,fd,M,⟨i,e,F⟩,b⟩:=c.ex
  subst e
  exact ⟨g,fd,M,⟨k - 1,by omega,F.mono (by omega)⟩,b⟩
section
variable {X:Cx} {o e:Expr} {es:List Expr} {to:TE3} {tr:TA3} {pos apos p:Pos} {m x:Str} {C:Addr} {k:Nat} {ps:List Str} {sp:Sp3}
theorem a2a (ci:CalI X.prog X.w X.K X.mg X.base k C ps sp) (hr:Room k X.A) (hg:Gl X x) (hm:X.mg x=some (.ref C)) (ha:QA X (e::es) tr)
    (hdb:(x==("__debug__" : Str))=false:=by decide) (he:starEach (e::es) X.env=(false,eval e X.env)::starEach es X.env:=by rfl) (hpl:(backTo pos (starEach es X.env)).any (·.1)=false:=by rfl):
    QE X (.Call (.Name x p) (e::es) [] pos) (asn C sp tr):=by
  obtain ⟨g,fd,M,⟨j,ej,F⟩,b⟩:=ci.ex
  subst ej
  exact aww M F hr hg hm b ha hdb he hpl
end
structure MethIn (K:PySem.W.Frag) (C:Addr) (x qual:Str) (st:Stmt):Prop where
  ex:∃ (f:Addr) (kV doc pm:Value) (an:Option Addr) (cdv ct:Value),PySem.W.findIn K (.ref C) x=some (some (.ref f))∧PySem.W.isFn K (.ref f)=true∧Fun K x qual st f (PySem.W.fnOf x qual (j5 st) (ql st) (q9 st) .none kV doc pm an cdv ct)
theorem meth_in {K:PySem.W.Frag} {C:Addr} {x qual:Str} {st:Stmt} {f:Addr} {oc:Value} {od an:Option Addr} {osl:Array (Option Value)} {kV doc pm cdv ct:Value} (a:PySem.W.findIn K (.ref C) x=some (some (.ref f)))
    (l:K.lookup f=some ⟨oc,od,.func (PySem.W.fnOf x qual (j5 st) (ql st) (q9 st) .none kV doc pm an cdv ct),osl⟩) (c:PySem.W.codeIn K cdv qual=true) (k:PySem.W.keepIn K (.ref f)=true) (i:PySem.W.isFn K (.ref f)=true):MethIn K C x qual st:=
  ⟨f,kV,doc,pm,an,cdv,ct,a,i,ar1 (st:=st) l c k⟩
theorem MethIn.use {K:PySem.W.Frag} {C:Addr} {x qual:Str} {st:Stmt} {ps:List Str} (D:MethIn K C x qual st)
    (hb:∀ (kV doc pm:Value) (an:Option Addr) (cdv ct:Value) (us:List Value),us.length=ps.length→bindArgs (PySem.W.fnOf x qual (j5 st) (ql st) (q9 st) .none kV doc pm an cdv ct) ⟨us,[]⟩=pure (ps.zip us)):
    ∃ f fd,Fun K x qual st f fd∧Binds K fd ps []∧Meth K C x f:=by
  obtain ⟨f,kV,doc,pm,an,cdv,ct,a,i,F⟩:=D.ex
  exact ⟨f,_,F,Binds.all (hb kV doc pm an cdv ct),⟨a,i,F.kp⟩⟩
end L3
namespace L2
open PySem PySem.Spec PyProof.Rows
end L2
namespace L3
open PySem L2
end L3
namespace L2
open PySem PySem.Spec PyProof.Rows
section
variable {X:Cx} {e:Expr} {te:TE} {pos:Pos}
end
end L2
namespace L3
open PySem L2
section
variable {X:Cx} {e:Expr} {te:TE3} {pos:Pos}
end
end L3
namespace L2
open PySem PySem.Spec PyProof.Rows
end L2
namespace L3
open PySem L2 PySem.Spec PyProof.Rows
end L3
namespace L2
open PySem PySem.Spec PyProof.Rows
section
variable {X:Cx} {pins:List (Addr×Obj)} {σ:St} {H:Hp} {s:Shared} {a C T:Addr} {tr:Option Addr}
end
section
variable {X:Cx} {scope:Scope} {T:List Str} {elt target iter:Expr} {ifs:List Expr} {wi:TI} {g:TG} {tc:TT} {te:TE}
end
section
variable {X:Cx} {pins:List (Addr×Obj)} {σ:St} {H H':Hp} {s s':Shared} {a b C T:Addr} {tr:Option Addr} {E1:X1}
end
section
variable {X:Cx} {k:Nat} {f C:Addr} {fd:FuncData} {ps:List Str} {sp:Sp} {E1:X1} {x:Str} {p pos:Pos} {e:Expr} {es:List Expr} {t:TA}
end
theorem alw:∀ {ns:List Int} {us:List Value},Vals (ns.map V.int) us→∃ l:List (Int×Tok),l.map (·.1)=ns∧us=l.map fun p=>Value.int p.1 p.2
  | [],_,.nil=>⟨[],rfl,rfl⟩
  | n::ns,_,.cons r t=>by
    obtain ⟨tk,rfl⟩:=(show ∃ t,_=Value.int n t from r)
    obtain ⟨l,e,rfl⟩:=alw t
    exact ⟨(n,tk)::l,by rw [List.map_cons,e],rfl⟩
theorem at7 {X:Cx} (hc:X.calm=true:=by rfl):CallR X (.builtin "sum") (fun xs H Q=>∃ (a:Addr) (ns:List Int),xs=[.ref a]∧SqL X.K H a (ns.map V.int)∧Q (.int ns.sum) H):=by
  intro pins s σ H xs us Q I r h
  obtain ⟨a,ns,rfl,sq,q⟩:=h
  obtain ⟨u,rfl,ru⟩:=ap1 r
  cases ru
  obtain ⟨its,rv,pl,_⟩:=I.list sq
  obtain ⟨l,el,rfl⟩:=alw rv
  have hl:=qz pl
  have ei:(l.map fun p=>Value.int p.1 p.2).toArray=intItems l.toArray:=by unfold intItems;simp
  rw [ei] at hl
  refine j9 I.tk (sum_intListG (I.ok.hd hc) hl fun h' tk t' hk ht=>?_)
  have es:preSum (numAt l.toArray) l.toArray.size=ns.sum:=by
    rw [preSum_eq,List.take_of_length_le (by simp),← el]
  rw [es]
  exact ⟨.int ns.sum,H,I.kept (h':=h') (t':=tk) hk ht,⟨_,rfl⟩,q⟩
end L2
namespace L3
open PySem L2
section
variable {X:Cx} {scope:Scope} {T:List Str} {elt target iter c e o:Expr} {ifs es:List Expr} {wi:TI3} {g:TG3} {tA:TT3} {te to:TE3} {tr:TA3} {pos:Pos} {E3:X3} {Ea:Addr→LHp→Prop}
end
def aiv:List Y→Option (List Int)
  | []=>some []
  | .int b::r=>(aiv r).map (b::·)
  | _::_=>none
theorem aqo (bs:List Int):aiv (bs.map Y.int)=some bs:=by
  induction bs with
  | nil=>rfl
  | cons b r ih=>show (aiv (r.map Y.int)).map (b::·)=_;rw [ih];rfl
theorem aik {G:G3} {H:Hp}:∀ {ys:List Y} {xs:List V} {bs:List Int},aiv ys=some bs→RVs G H ys xs→xs=bs.map V.int
  | [],_,_,h,r=>by cases h;exact r
  | y::ys,_,bs,h,⟨x,xs',e,r1,r2⟩=>by
    cases y with
    | int b=>
      have h':(aiv ys).map (b::·)=some bs:=h
      obtain ⟨cs,e1,rfl⟩:=Option.map_eq_some_iff.mp h'
      cases (show x=V.int b from r1)
      rw [e,aik e1 r2];rfl
    | _=>cases h
def a10 (xs:List Y) (L:LHp) (Q:YK):Prop:=match xs with
  | [y]=>alz y=true∧agw L y fun ys=>atK L (fun bs L=>Q (.int bs.sum) L) (aiv ys)
  | _=>False
theorem a30 {X:Cx} (hc:X.calm=true:=by rfl):CallR X (.builtin "sum") (upL X.g3 a10):=CallR.imp (at7 hc) fun xs H Q ⟨ys,L,Q3,rv,rl,z,k⟩=>by
  unfold a10 at z
  split at z
  · rename_i y
    obtain ⟨x,rfl,r⟩:=rv.inv1
    obtain ⟨hy,z⟩:=z
    obtain ⟨zs,es,z⟩:=we z
    obtain ⟨bs,eb,z⟩:=adl z
    obtain ⟨a,us,rfl,sq,rr⟩:=ac9 rl r hy es
    cases aik eb rr
    exact ⟨a,bs,rfl,sq,k _ H _ L (TSt.refl _) rl (by rfl) z⟩
  · exact z.elim
theorem azf:bootBuiltins "sum" = some (.builtin "sum"):=by decide +kernel
end L3
namespace L2
open PySem PySem.Spec PyProof.Rows
section
variable {X:Cx}
end
end L2
namespace L3
open PySem L2
end L3
namespace L2
open PySem PySem.Spec PyProof.Rows
section
variable {prog:Program} {w:World} {A:Around} {E:Value→Shared→Prop}
end
section
variable {X:Cx} {pos:Pos}
end
section
end
section
variable {X:Cx}
end
end L2
namespace L3
open PySem L2
end L3
namespace L2
open PySem PySem.Spec PyProof.Rows
section
def aeg (b:Nat→Bool):Nat→Nat→Nat
  | _,0=>0
  | i,k+1=>(if b i=true then 1 else 0)+aeg b (i+1) k
theorem avl (l:Addr) (its:Array Value) (n:Nat) (x:Value) (b:Nat→Bool):∀ (k i:Nat) (c:Int),its.size - i=k→
    Meets (Builtin.«list.count.loop» ⟨[.ref l,x,rawInt i,rawInt c],[]⟩) (fun A R s=>s.heap.get? l=some { cls:=.type "list",dict:=none,data:=.seq its n,slots:=#[] }∧(∀ m (hm:m<its.size),SeqAt.EqAt A.in1 s its[m] x (b m))∧R (.ok (.ret (.int (c+((aeg b i k:Nat):Int)) s.toks))) { s with toks:=s.toks+1 }):=by
  intro k
  induction k with
  | zero=>
    intro i c hk prog w A R s h
    obtain ⟨hp,g,d,tk,os⟩:=s
    obtain ⟨hl,eq,h⟩:=h
    (wp_walk using wpAny_loadPart' hl)
    have none_there:its[((i:Nat):Int).toNat]?=none:=by simp;omega
    rw [none_there]
    wp_walk
    simpa [aeg] using h
  | succ k ih=>
    intro i c hk prog w A R s h
    obtain ⟨hp,g,d,tk,os⟩:=s
    obtain ⟨hl,eq,h⟩:=h
    have hlt:i<its.size:=by omega
    (wp_walk using wpAny_loadPart' hl)
    have one_there:its[((i:Nat):Int).toNat]?=some its[i]:=by simp [hlt]
    have up:((i:Int)+1)=((i+1:Nat):Int):=by omega
    rw [one_there]
    refine wpAny_bind (eq i hlt prog w _ _ ?_)
    wp_walk
    rw [up]
    refine ⟨plainId_quiet MeetsSeq.plain_count_loop _,codeAny_builtin MeetsSeq.entry_count_loop ?_⟩
    rw [Around.under_plainId MeetsSeq.plain_count_loop _]
    refine ih (i+1) _ (by omega) prog w A R _ ⟨hl,eq,?_⟩
    have e:aeg b i (k+1)=(if b i=true then 1 else 0)+aeg b (i+1) k:=rfl
    rw [e] at h
    cases hb:b i with
    | false=>
      rw [hb] at h
      have e2:(((if false=true then 1 else 0)+aeg b (i+1) k:Nat):Int)=((aeg b (i+1) k:Nat):Int):=by simp
      rw [e2] at h
      exact h
    | true=>
      rw [hb] at h
      have e2:c+(((if true=true then 1 else 0)+aeg b (i+1) k:Nat):Int)=c+1+((aeg b (i+1) k:Nat):Int):=by rw [if_pos rfl];push_cast;omega
      rw [e2] at h
      exact h
theorem ar8 (l:Addr) (its:Array Value) (n:Nat) (x:Value) (b:Nat→Bool):
    Meets (Builtin.«list.count» ⟨[.ref l,x],[]⟩) (fun A R s=>s.heap.get? l=some { cls:=.type "list",dict:=none,data:=.seq its n,slots:=#[] }∧(∀ m (hm:m<its.size),SeqAt.EqAt A.in1 s its[m] x (b m))∧R (.ok (.ret (.int ((aeg b 0 its.size:Nat):Int) s.toks))) { s with toks:=s.toks+1 }):=by
  intro prog w A R s h
  obtain ⟨hp,g,d,tk,os⟩:=s
  obtain ⟨hl,eq,h⟩:=h
  (wp_walk using wpAny_loadPart' hl)
  refine ⟨plainId_quiet MeetsSeq.plain_count_loop _,codeAny_builtin MeetsSeq.entry_count_loop ?_⟩
  rw [Around.under_plainId MeetsSeq.plain_count_loop _]
  refine avl l its n x b its.size 0 0 (by omega) prog w A R _ ⟨hl,eq,?_⟩
  rw [Int.zero_add]
  exact h
theorem aoz {e:Da}:∀ (ds:List Da) (b:Nat→Bool) (i:Nat),(∀ k d,ds[k]?=some d→b (i+k)=Da.eq d e)→aeg b i ds.length=ds.countP fun d=>Da.eq d e
  | [],_,_,_=>rfl
  | d::r,b,i,h=>by
    have h0:=h 0 d rfl
    have ih:=aoz (e:=e) r b (i+1) fun k d' hk=>by
      have:=h (k+1) d' hk
      rw [show i+1+k=i+(k+1) by omega];exact this
    rw [List.length_cons,List.countP_cons]
    show (if b i=true then 1 else 0)+aeg b (i+1) r.length=_
    rw [ih]
    have h0:b i=Da.eq d e:=h0
    rw [h0,Nat.add_comm]
end
section
variable {X:Cx}
def azq (X:Cx):V→List V→Hp→VK→Prop:=fun x vs H Q=>∃ l xs y ds e,∃ n m:Nat,x=.ref l∧vs=[y]∧H l=some (.lst xs)∧n≤126∧Paired (jy X.K H n) xs ds∧jy X.K H m y e∧Q (.int (((ds.countP fun d=>Da.eq d e):Nat):Int)) H
theorem atz (hu:X.A.units+128<cLine):MtM X "list.count" (azq X):=by
  intro pins s σ H x vs v us Q I rx rv h
  obtain ⟨l,xs,y,ds,e,n,m,rfl,rfl,hH,hn,pd,ry,q⟩:=h
  cases rx
  obtain ⟨u,rfl,ru⟩:=rv.one
  obtain ⟨z,its,nn,r,hl,eo⟩:=I.lstM hH
  have l1:xs.length=ds.length:=pd.length
  have l2:its.length=xs.length:=r.length.symm
  obtain ⟨arr,harr⟩:∃ arr:Array Value,arr=its.toArray:=⟨_,rfl⟩
  have hsz:arr.size=ds.length:=by rw [harr,List.size_toArray];omega
  have M:=ar8 l arr nn u (fun k=>((ds[k]?).map fun d=>Da.eq d e).getD false)
  have hc:aeg (fun k=>((ds[k]?).map fun d=>Da.eq d e).getD false) 0 arr.size=ds.countP fun d=>Da.eq d e:=by
    rw [hsz]
    refine aoz ds _ 0 fun k d hk=>?_
    show ((ds[0+k]?).map fun d=>Da.eq d e).getD false=_
    rw [Nat.zero_add,hk];rfl
  rw [hc,harr] at M
  refine call_meets F.slot_list_count ⟨_,eo,rfl⟩ F.entry_list_count (F.args_list_count_2 _ _) M ⟨eo,fun k hk=>?_,?_⟩
  · have hk':k<its.length:=by rw [List.size_toArray] at hk;exact hk
    obtain ⟨d,ed,rd⟩:=Words.Paired.getP pd (List.getElem?_eq_getElem (by omega:k<xs.length))
    show SeqAt.EqAt _ s _ u (((ds[k]?).map fun d=>Da.eq d e).getD false)
    rw [ed]
    obtain ⟨u',eu',ru'⟩:=Words.Paired.getP r (List.getElem?_eq_getElem (by omega:k<xs.length))
    have eg:its.toArray[k]=u':=by
      have:=(List.getElem?_eq_some_iff.mp eu').2
      simpa using this
    rw [eg]
    exact agq I n (by show X.A.units+1+n<cLine;omega) rd ry ru' ru
  · exact ⟨.int _,_,I.tok (s.toks+1),⟨_,rfl⟩,q⟩
end
end L2
namespace L3
open PySem L2
def ahv (x:Y) (vs:List Y) (L:LHp) (Q:YK):Prop:=match x,vs with
  | .ref a,[v]=>adb L a fun ys=>∃ ds e,∃ n m:Nat,n≤126∧Paired (DatN L n) ys ds∧DatN L m v e∧Q (.int (((ds.countP fun d=>Da.eq d e):Nat):Int)) L
  | _,_=>False
theorem aw7 {X:Cx} (hu:X.A.units+128<cLine):MtM X "list.count" (upM X.g3 ahv):=MtM.imp (atz hu) fun x xs H Q ⟨y,ys,L,Q3,r1,r2,rl,z,k⟩=>by
  unfold ahv at z
  split at z
  · rename_i a v
    obtain ⟨zs,e,ds,de,n,m,hn,pd,dv,z⟩:=xr z
    obtain ⟨us,e2,r⟩:=rl a _ e
    obtain ⟨v',rfl,rv⟩:=r2.inv1
    have both:∀ {ys:List Y} {ds:List Da} {xs:List V},Paired (DatN L n) ys ds→RVs X.g3 H ys xs→Paired (jy X.K H n) xs ds:=by
      intro ys ds xs p
      induction p generalizing xs with
      | nil=>intro q;cases (show xs=[] from q);exact .nil
      | cons h t ih=>
        rintro ⟨x,xs',rfl,q1,q2⟩
        exact .cons (DatN.rep rl h q1) (ih q2)
    exact ⟨a,us,v',ds,de,n,m,r1,rfl,e2,hn,both pd r,DatN.rep rl dv rv,k _ _ _ _ (TSt.refl _) rl (by rfl) z⟩
  · exact z.elim
theorem am6 {X:Cx} (hu:X.A.units+128<cLine) {o e:Expr} {es:List Expr} {to:TE3} {tr:TA3} {apos cpos:Pos} (ho:QE X o to) (ha:QA X (e::es) tr) (h4:attributeBase o "count" X.env (eval o X.env)=eval o X.env:=by rfl)
    (h5:((backTo cpos (starEach (e::es) X.env)).all (fun x=>!x.1)&&(backToKw cpos (keywordEach [] X.env)).all (fun x=>x.1.isSome)&&decide ((e::es).length+([]:List Keyword).length+(if ([]:List Keyword).isEmpty=true then 0 else 1)<30))=true:=by rfl)
    (h6:(apos.endLine==cpos.line)=true:=by rfl) (h7:starEach (e::es) X.env=(false,eval e X.env)::starEach es X.env:=by rfl) (h8:(backTo cpos (starEach es X.env)).any (·.1)=false:=by rfl):
    QE X (.Call (.Attribute o "count" apos) (e::es) [] cpos) (yBL ahv to tr):=ao1 PySem.F.slot_list_count PySem.F.type_list_count (aw7 hu) ho ha h4 h5 h6 h7 h8
theorem apu {G:G3} {H:Hp} {kvs:List (Key×Y)} {xs:List (Key×V)} {k:Key} (p:Paired (fun (p:Key×Y) (q:Key×V)=>p.1=q.1∧RV G H p.2 q.2) kvs xs) (h:kl kvs k=none):ace xs k=none:=by
  induction p with
  | nil=>rfl
  | @cons a b _ _ r t ih=>
    obtain ⟨e,_⟩:=r
    unfold kl at h
    rw [List.find?_cons] at h
    by_cases c:a.1=k
    · rw [decide_eq_true c] at h;cases h
    · rw [decide_eq_false c] at h
      rw [ad9 (fun z=>c (e.trans z))]
      exact ih h
def as8 (td ti tx:TE3) (τ:St3) (L:LHp) (Q:YK):Prop:=td τ L fun x L1=>match x with
  | .ref a=>ak2 L1 a fun _=>ti τ L1 fun y L2=>tx τ L2 fun z L3=>match awo y with
    | some k=>ak2 L3 a fun kvs=>Q ((kl kvs k).getD z) L3
    | none=>False
  | _=>False
theorem ar9 {X:Cx} {o e f:Expr} {td ti tx:TE3} {apos cpos:Pos} (hu:X.A.units+128<cLine) (ho:QE X o td) (hi:QE X e ti) (hf:QE X f tx) (m:M2 X o "get" apos e f cpos:=by exact ⟨rfl,rfl,rfl,rfl⟩):QE X (.Call (.Attribute o "get" apos) [e,f] [] cpos) (as8 td ti tx):=PE.imp (ast (by omega) ho hi hf m) fun σ H Q ⟨τ,L,Q3,rs,rl,z,k⟩=>
  ⟨τ,L,_,rs,rl,z,fun v H1 x L1 t1 rl1 rv1 z1=>by
    split at z1
    · rename_i a
      obtain ⟨kvs0,e0,z1⟩:=abt z1
      obtain ⟨xs0,e02,_⟩:=rl1 a _ e0
      refine ⟨a,rv1,.inl ⟨xs0,.inl e02⟩,τ,L1,_,rs.ts t1,rl1,z1,fun w H2 y L2 t2 rl2 rv2 z2=>⟨τ,L2,_,rs.ts (t1.trans t2),rl2,z2,fun u H3 yz L3 t3 rl3 rv3 z3=>?_⟩⟩
      split at z3
      · rename_i kk ek
        obtain ⟨kvs,e,z3⟩:=abt z3
        obtain ⟨xs,e2,pr⟩:=rl3 a _ e
        have rk:=ahg ek rv2
        cases ev:kl kvs kk with
        | none=>
          rw [ev] at z3
          exact ⟨none,.inl ⟨xs,kk,.inl e2,rk,(apu pr ev).symm⟩,k _ H3 _ L3 ((t1.trans t2).trans t3) rl3 rv3 z3⟩
        | some yv=>
          rw [ev] at z3
          obtain ⟨xv,ex,rx⟩:=aej pr ev
          exact ⟨some xv,.inl ⟨xs,kk,.inl e2,rk,ex.symm⟩,k _ H3 _ L3 ((t1.trans t2).trans t3) rl3 rx z3⟩
      · exact z3.elim
    · exact z1.elim⟩
end L3
namespace L2
open PySem PySem.Spec PyProof.Rows
section
variable {X:Cx}
def a3s:List V→Hp→VK→Prop:=fun xs H Q=>∃ n:Int,xs=[.int n]∧∀ p,H p=none→Q (.ref p) (upd H p (.rng 0 n))
theorem au4:CallR X (.type "range") a3s:=by
  intro pins s σ H xs us Q I r h
  obtain ⟨n,rfl,q⟩:=h
  obtain ⟨u,rfl,ru⟩:=r.one
  obtain ⟨t,rfl⟩:=(show ∃ t,u=Value.int n t from ru)
  refine call_range_1 ?_
  refine ⟨.ref s.heap.objs.size,_,I.laid (t':=s.toks+1+1) (o:=.rng 0 n) (fun b ob q=>Heap.get?_push_of_some _ q) (Nat.le_refl _) ?_,rfl,q _ (I.hok.fresh (Nat.le_refl _))⟩
  exact ⟨s.toks,t,s.toks+1,Heap.get?_push_size _ rfl⟩
theorem ao3 {n:Nat} {acc:Array Value} (h:ItemsOf (fun i v=>∃ t,v=.int (0+(i:Int)*1) t) acc n):Vals ((List.range n).map fun i:Nat=>V.int (0+(i:Int))) acc.toList:=by
  have len:acc.toList.length=n:=by rw [Array.length_toList];exact h.1
  have key:∀ (l:List Value) (k:Nat),(∀ (j:Nat) v,l[j]?=some v→∃ t,v=Value.int (0+((k+j:Nat):Int)*1) t)→Vals ((List.range' k l.length).map fun i:Nat=>V.int (0+(i:Int))) l:=by
    intro l
    induction l with
    | nil=>intro k _;exact .nil
    | cons v r ih=>
      intro k hk
      rw [List.length_cons,List.range'_succ,List.map_cons]
      obtain ⟨t,e⟩:=hk 0 v rfl
      refine .cons ?_ (ih (k+1) fun j v' hj=>?_)
      · exact ⟨t,by rw [e];simp⟩
      · have:=hk (j+1) v' hj
        rw [show k+1+j=k+(j+1) by omega];exact this
  have:=key acc.toList 0 fun j v hj=>by
    rw [Nat.zero_add]
    exact h.2 j v (by simpa using hj)
  rw [len,← List.range_eq_range'] at this
  exact this
def a2p:List V→Hp→VK→Prop:=fun xs H Q=>∃ a,∃ n:Nat,xs=[.ref a]∧H a=some (.rng 0 n)∧n≤100000∧∀ p,H p=none→Q (.ref p) (upd H p (.lst ((List.range n).map fun i:Nat=>V.int (0+(i:Int)))))
theorem aq0 (hc:X.calm=true):CallR X (.type "list") a2p:=by
  intro pins s σ H xs us Q I r h
  obtain ⟨a,n,rfl,ha,hn,q⟩:=h
  obtain ⟨u,rfl,ru⟩:=r.one
  cases (show u=Value.ref a from ru)
  obtain ⟨t,u,v,e⟩:=I.hok a _ ha
  have hb:(100000:Nat)≤sizeLine:=by decide
  have rs:Builtin.Range.rangeSize 0 (n:Int) 1=((n:Nat):Int):=by rw [rangeSize_one];split<;>omega
  refine j9 I.tk (call_list_range (I.ok.hd hc) (show IsRange s.heap a 0 (n:Int) 1 t u v from e) (small_one (by decide) (by decide) (by omega) (by omega)) rs (Nat.le_trans hn (by decide)) fun h' tk acc c hk hS hacc ht=>?_)
  refine ⟨.ref s.heap.objs.size,_,I.laid (t':=tk) (o:=.lst ((List.range n).map fun i:Nat=>V.int (0+(i:Int)))) hk (Nat.le_refl _) ?_,rfl,q _ (I.hok.fresh (Nat.le_refl _))⟩
  refine ⟨by rw [List.length_map,List.length_range];omega,acc.toList,c,ao3 hacc,?_⟩
  rw [hS]
def a3r (K:PySem.W.Frag) (te ts:TE):TE:=fun σ H Q=>te σ H fun x H1=>ts σ H1 fun y H2=>y=.int (-1)∧∃ a xs,x=.ref a∧SqL K H2 a xs∧∀ p,H2 p=none→Q (.ref p) (upd H2 p (.lst xs.reverse))
theorem Vals.rev:∀ {xs:List V} {us:List Value},Vals xs us→Vals xs.reverse us.reverse
  | _,_,.nil=>.nil
  | _,_,.cons r t=>by rw [List.reverse_cons,List.reverse_cons];exact (Vals.rev t).append (.cons r .nil)
theorem ayi {e st:Expr} {te ts:TE} {p2 pos:Pos} (he:PE X e te) (hst:PE X st ts):PE X (.Subscript e (.Slice none none (some st) p2) pos) (a3r X.K te ts):=by
  intro pins s σ H Q I h
  refine Subscript_ (thn (he pins s σ H _ I h) fun v s1 ⟨x,H1,I1,r1,q1⟩=>?_)
  refine wpAny_Slice ?_
  rw [evalPart_none,evalPart_some]
  refine wpAny_pure (wpAny_pure (thn (hst pins s1 σ H1 _ I1 q1) fun vs s3 ⟨y,H3,I3,pu,ey,a,xs,ex,hx,q3⟩=>?_))
  subst ey ex
  obtain ⟨t,rfl⟩:=(show ∃ t,vs=Value.int (-1) t from pu)
  cases (show v=Value.ref a from r1)
  have I4:Inv X pins σ H3 { s3 with heap:=s3.heap.push { cls:=.type "slice",data:=.fields #[.none,.none,.int (-1) t] } }:=I3.kept (t':=s3.toks) fun b ob q=>Heap.get?_push_of_some _ q
  obtain ⟨its,r,hl,hz⟩:=I4.list hx
  have hlen:=r.length
  refine tail_any (s:={ s3 with heap:=s3.heap.push { cls:=.type "slice",data:=.fields #[.none,.none,.int (-1) t] } }) (ops:=[.ref a,.ref s3.heap.objs.size]) hl.isList.typeIs slot_list_getitem.lookup ?_ (by with_unfolding_all rfl)
  refine wpAny_getItem_list_slice hl.isList (Heap.IsSliceOf.new ..) .none .none (.int _ _) (by simp) ?_ (by rw [List.size_toArray];omega)
  rw [PySem.W.krv_pick]
  refine ⟨.ref _,_,I4.laid (t':=s3.toks) (o:=.lst xs.reverse) (fun b ob q=>Heap.get?_push_of_some _ q) (Nat.le_refl _) ?_,rfl,q3 _ (I4.hok.fresh (Nat.le_refl _))⟩
  exact ⟨by rw [List.length_reverse];exact hz,_,0,r.rev,Heap.get?_push_size _ rfl⟩
end
end L2
namespace L3
open PySem L2
theorem a12:bootBuiltins "range" = some (.type "range"):=by decide +kernel
def alp (te:TE3) (τ:St3) (L:LHp) (Q:YK):Prop:=te τ L fun y L1=>match y with
  | .int n=>(0≤n∧n≤100000)∧∀ p,L1 p=none→Q (.ref p) (qe L1 p (.lst (wc 0 n.toNat)))
  | _=>False
theorem aw1 {G:G3} {H:Hp} (n:Nat):RVs G H (wc 0 n) ((List.range n).map fun i:Nat=>V.int (0+(i:Int))):=by
  unfold wc
  generalize List.range n=l
  induction l with
  | nil=>rfl
  | cons k r ih=>exact ⟨_,_,rfl,rfl,ih⟩
theorem an2 {X:Cx} {e:Expr} {te:TE3} {p p2 pos pos2:Pos} (hc:X.calm=true) (hg:Gl X "list") (hm:X.mg "list" = none) (hg2:Gl X "range") (hm2:X.mg "range" = none) (h:QE X e te)
    (h1:starEach [.Call (.Name "range" p2) [e] [] pos2] X.env=(false,eval (.Call (.Name "range" p2) [e] [] pos2) X.env)::starEach [] X.env:=by rfl) (h2:(backTo pos (starEach [] X.env)).any (·.1)=false:=by rfl)
    (h3:starEach [e] X.env=(false,eval e X.env)::starEach [] X.env:=by rfl) (h4:(backTo pos2 (starEach [] X.env)).any (·.1)=false:=by rfl):
    QE X (.Call (.Name "list" p) [.Call (.Name "range" p2) [e] [] pos2] [] pos) (alp te):=
  PE.imp (aje (aq0 hc) hg hm aux (wq (aje au4 hg2 hm2 a12 (wq h aem h3) (by decide) (by decide) h3 h4) aem h1) (by decide) (by decide) h1 h2) fun σ H Q ⟨τ,L,Q3,rs,rl,z,k⟩=>
  ⟨τ,L,_,rs,rl,z,fun v H1 y L1 t1 rl1 rv1 z1=>by
    cases y with
    | int n=>
      obtain ⟨⟨h0,h5⟩,z1⟩:=z1
      cases (show v=V.int n from rv1)
      obtain ⟨m,rfl⟩:∃ m:Nat,n=(m:Int):=⟨n.toNat,by omega⟩
      refine ⟨_,rfl,fun q hq=>⟨q,m,rfl,zr,by omega,fun p hp=>?_⟩⟩
      have hp1:H1 p=none:=by
        by_cases c:p=q
        · subst c;exact hq
        · rw [qm c] at hp;exact hp
      exact k _ _ _ _ (t1.trans ((TSt.new hq).trans (TSt.new hp))) ((rl1.skip hq).newL hp (aw1 m)) (by rfl) (z1 p (rl1.none hp1))
    | _=>exact z1.elim⟩
def a2r (te ts:TE3) (τ:St3) (L:LHp) (Q:YK):Prop:=te τ L fun x L1=>match x with
  | .ref a=>ts τ L1 fun y L2=>match y with
    | .int i=>i = -1∧adb L2 a fun ys=>∀ p,L2 p=none→Q (.ref p) (qe L2 p (.lst ys.reverse))
    | _=>False
  | _=>False
theorem a0a {X:Cx} {e st:Expr} {te ts:TE3} {p2 pos:Pos} (he:QE X e te) (hst:QE X st ts):QE X (.Subscript e (.Slice none none (some st) p2) pos) (a2r te ts):=PE.imp (ayi he hst) fun σ H Q ⟨τ,L,Q3,rs,rl,z,k⟩=>
  ⟨τ,L,_,rs,rl,z,fun v H1 x L1 t1 rl1 rv1 z1=>by
    cases x with
    | ref a=>
      refine ⟨τ,L1,_,rs.ts t1,rl1,z1,fun w H2 y L2 t2 rl2 rv2 z2=>?_⟩
      cases y with
      | int i=>
        obtain ⟨rfl,z2⟩:=z2
        obtain ⟨ys,e,z3⟩:=xr z2
        obtain ⟨xs,e2,r⟩:=rl2 a _ e
        exact ⟨rv2,a,xs,rv1,SqL.of e2,fun p hp=>k _ _ _ _ ((t1.trans t2).trans (TSt.new hp)) (rl2.newL hp r.rev) (by rfl) (z3 p (rl2.none hp))⟩
      | _=>exact z2.elim
    | _=>exact z1.elim⟩
def af1 (C:Addr) (m:Str) (sp:Sp3) (to:TE3) (t:TA3) (τ:St3) (L:LHp) (Q:YK):Prop:=to τ L fun x L1=>match x with
  | .ref a=>an8 L1 a fun C' fs=>C'=C∧fs.lookup m=none∧t τ L1 fun ys L2=>sp (.ref a::ys) L2 Q
  | _=>False
section
variable {X:Cx} {o e:Expr} {es:List Expr} {to:TE3} {tr:TA3} {pos apos:Pos} {m:Str} {C g:Addr}
theorem aun {pl:Sem Bool} {k:Nat} {fd:FuncData} {ps:List Str} {sp:Sp3} (ho:QE X o to) (c:Cls X.K C) (hm:Meth X.K C m g) (F:Fn3 X.prog X.w X.K X.mg X.base k g fd ps sp) (hr:Room k X.A) (hb:Binds X.K fd ps []) (ha:QA X (e::es) tr)
    (hst:starEach (e::es) X.env=(false,eval e X.env)::starEach es X.env:=by rfl) (hpl:(backTo pos (starEach es X.env)).any (·.1)=false:=by rfl)
    (ht:eval (.Call (.Attribute o m apos) (e::es) [] pos) X.env=(do
      let ov ← eval o X.env
      standAt apos.atName
      let (f,first) ← holding [ov] (getMethod ov m pl)
      callWith pos f first (backTo pos (starEach (e::es) X.env)) (backToKw pos (keywordEach [] X.env))):=by rfl):
    QE X (.Call (.Attribute o m apos) (e::es) [] pos) (af1 C m sp to tr):=PE.imp (av2 (pl:=pl) ho c hm F hr hb .nil arv ha hst hpl ht) fun σ H Q ⟨τ,L,Q3,rs,rl,z,k⟩=>
  ⟨τ,L,_,rs,rl,z,fun v H1 y L1 t1 rl1 rv1 z1=>by
    split at z1
    · rename_i a
      obtain ⟨C',fs,e,ec,n,q⟩:=agv z1
      subst ec
      obtain ⟨dx,xs,e2,pr⟩:=rl1 a _ e
      cases (show v=V.ref a from rv1)
      exact ⟨a,dx,xs,rfl,e2,atk pr n,τ,L1,_,rs.ts t1,rl1,q,fun vs H2 ys L2 t2 rl2 rv2 z2=>⟨.ref a::ys,L2,Q3,⟨.ref a,vs++[],rfl,rfl,by rw [List.append_nil];exact rv2⟩,rl2,z2,k.ts (t1.trans t2)⟩⟩
    · exact z1.elim⟩
theorem aq1 {pl:Sem Bool} {k:Nat} {ps:List Str} {sp:Sp3} (cm:CalM X.prog X.w X.K X.mg X.base k C m ps sp) (hr:Room k X.A) (c:Cls X.K C) (ho:QE X o to) (ha:QA X (e::es) tr)
    (hst:starEach (e::es) X.env=(false,eval e X.env)::starEach es X.env:=by rfl) (hpl:(backTo pos (starEach es X.env)).any (·.1)=false:=by rfl)
    (ht:eval (.Call (.Attribute o m apos) (e::es) [] pos) X.env=(do
      let ov ← eval o X.env
      standAt apos.atName
      let (f,first) ← holding [ov] (getMethod ov m pl)
      callWith pos f first (backTo pos (starEach (e::es) X.env)) (backToKw pos (keywordEach [] X.env))):=by rfl):
    QE X (.Call (.Attribute o m apos) (e::es) [] pos) (af1 C m sp to tr):=by
  obtain ⟨g,fd,M,F,b⟩:=cm.ex
  exact aun (pl:=pl) ho c M F hr b ha hst hpl ht
end
end L3
namespace TS
open PySem PyProof.Rows
section
variable {prog:Program} {w:World} {A:Around} {E:Value→Shared→Prop} {s:Shared}
structure Ord (prog:Program) (w:World) (A:Around) (s:Shared) (κ:SortKind) (Ok:Keyed→Prop) (f:Keyed→Int):Prop where
  lt:∀ x y,Ok x→Ok y→∀ {E:Value→Shared→Prop} {Q:Bool→Shared→Prop},Q (decide (f x<f y)) s→wpAny (model prog w) A (keyLt' κ x.1 y.1) Q E s
variable {κ:SortKind} {Ok:Keyed→Prop} {f:Keyed→Int}
theorem w_lt (O:Ord prog w A s κ Ok f) {st:SortSt} {x y:Keyed} {Q:Option Bool→SortSt→Prop} (hk:kindOf st=κ) (hx:Ok x) (hy:Ok y) (h:Q (some (decide (f x<f y))) st):wpS (model prog w) A E s (lt' x y) Q st:=by
  rw [lt'_eq]
  refine wpS_bind (wpS_get ?_)
  rw [hk]
  refine wpS_bind (wpS_lift (wpAny_attempt (O.lt x y hx hy ⟨rfl,?_⟩)))
  exact wpS_pure h
theorem au8 {arr:Array Keyed} {i:Nat} {x:Keyed} {st:SortSt} {Q:Keyed→SortSt→Prop} (h:arr[i]?=some x) (q:Q x st):wpS (model prog w) A E s (elem' arr i) Q st:=by
  rw [elem'_eq,h];exact wpS_pure q
end
end TS
namespace TS
open PySem PyProof.Rows
section
variable {f:Keyed→Int} {a b out:Array Keyed} {ia ib:Nat}
end
section
variable {prog:Program} {w:World} {A:Around} {E:Value→Shared→Prop} {s:Shared} {κ:SortKind} {Ok:Keyed→Prop} {f:Keyed→Int}
end
end TS
namespace TS
open PySem PyProof.Rows
theorem a1g (l:List Keyed) {i k:Nat} (h:i≤k):l.take i++(l.drop i).take (k - i)=l.take k:=by
  have:=List.take_add (l:=l) (i:=i) (j:=k - i)
  rw [show i+(k - i)=k by omega] at this
  exact this.symm
section
variable {f:Keyed→Int} {a b out:Array Keyed} {na nb:Nat}
end
end TS
namespace TS
open PySem PyProof.Rows
section
variable {prog:Program} {w:World} {A:Around} {E:Value→Shared→Prop} {s:Shared} {κ:SortKind} {Ok:Keyed→Prop} {f:Keyed→Int}
end
end TS
namespace TS
open PySem PyProof.Rows
section
variable {prog:Program} {w:World} {A:Around} {E:Value→Shared→Prop} {s:Shared} {κ:SortKind} {Ok:Keyed→Prop} {f:Keyed→Int}
theorem a4g {l:List Keyed} (s:l.Pairwise fun x y=>f x≤f y) {i j:Nat} (hij:i≤j) (hj:j<l.length):f (l[i]'(by omega))≤f l[j]:=by
  rcases Nat.lt_or_eq_of_le hij with h | h
  · exact List.pairwise_iff_getElem.mp s i j (by omega) hj h
  · subst h;exact Int.le_refl _
end
end TS
namespace TS
open PySem PyProof.Rows
theorem amc {α:Type} {arr:Array α} {P R:List α} {n:Nat} (h:arr.toList=P++R) (hn:n≤R.length):(mirror arr P.length (P.length+n) ((P.length+n - P.length) / 2)).toList=P++((R.take n).reverse++R.drop n):=by
  have hs:arr.size=P.length+R.length:=by rw [← Array.length_toList,h];simp
  refine List.ext_getElem? fun k=>?_
  rw [Array.getElem?_toList,getElem?_mirror_all (by omega)]
  by_cases c:P.length≤k∧k<P.length+n
  · rw [if_pos c,← Array.getElem?_toList,h,List.getElem?_append_right (by omega),List.getElem?_append_right (by omega),List.getElem?_append_left (by simp;omega),List.getElem?_reverse (by simp;omega),List.getElem?_take,List.length_take,if_pos (by omega)]
    congr 1;omega
  · rw [if_neg c,← Array.getElem?_toList,h]
    by_cases c2:k<P.length
    · rw [List.getElem?_append_left c2,List.getElem?_append_left c2]
    · rw [List.getElem?_append_right (by omega),List.getElem?_append_right (by omega),List.getElem?_append_right (by simp;omega),List.getElem?_drop]
      congr 1;simp;omega
theorem ams {α:Type} {arr:Array α} {P R:List α} {k l:Nat} (h:arr.toList=P++R) (hk:k<R.length) (hl:l≤k):(bubble arr (P.length+k) (P.length+k - (P.length+l))).toList=P++(R.take l++R[k]::((R.drop l).take (k - l)++R.drop (k+1))):=by
  have hs:arr.size=P.length+R.length:=by rw [← Array.length_toList,h];simp
  refine List.ext_getElem? fun i=>?_
  rw [Array.getElem?_toList,getElem?_bubble (by omega) _ (by omega),show P.length+k - (P.length+k - (P.length+l))=P.length+l by omega]
  by_cases c1:i=P.length+l
  · rw [if_pos c1,← Array.getElem?_toList,h,c1,List.getElem?_append_right (by omega),List.getElem?_append_right (by omega),List.getElem?_append_right (by simp;omega)]
    rw [show P.length+l - P.length - (R.take l).length=0 by simp;omega,show P.length+k - P.length=k by omega,List.getElem?_cons_zero]
    simp [hk]
  · rw [if_neg c1]
    by_cases c2:P.length+l<i∧i≤P.length+k
    · rw [if_pos c2,← Array.getElem?_toList,h,List.getElem?_append_right (by omega),List.getElem?_append_right (by omega),List.getElem?_append_right (by simp;omega)]
      obtain ⟨d,hd⟩:∃ d,i=P.length+l+d+1:=⟨i - P.length - l - 1,by omega⟩
      rw [show i - P.length - (R.take l).length=d+1 by simp;omega,List.getElem?_cons_succ,List.getElem?_append_left (by simp;omega),List.getElem?_take,if_pos (by omega),List.getElem?_drop]
      congr 1;omega
    · rw [if_neg c2,← Array.getElem?_toList,h]
      by_cases c3:i<P.length
      · rw [List.getElem?_append_left c3,List.getElem?_append_left c3]
      · rw [List.getElem?_append_right (by omega),List.getElem?_append_right (by omega)]
        by_cases c4:i<P.length+l
        · rw [List.getElem?_append_left (by simp;omega),List.getElem?_take,if_pos (by omega)]
        · obtain ⟨d,hd⟩:∃ d,i=P.length+k+d+1:=⟨i - P.length - k - 1,by omega⟩
          rw [List.getElem?_append_right (by simp;omega),show i - P.length - (R.take l).length=(k - l)+d+1 by simp;omega,List.getElem?_cons_succ,List.getElem?_append_right (by simp;omega),List.getElem?_drop]
          congr 1;simp;omega
section
variable {prog:Program} {w:World} {A:Around} {E:Value→Shared→Prop} {s:Shared} {κ:SortKind} {Ok:Keyed→Prop} {f:Keyed→Int}
structure Tl (κ:SortKind) (Ok:Keyed→Prop) (st:SortSt) (P R:List Keyed):Prop where
  kind:kindOf st=κ
  arr:(arrOf st).toList=P++R
  ok:∀ x∈R,Ok x
theorem aet (O:Ord prog w A s κ Ok f) {st:SortSt} {P R:List Keyed} (T:Tl κ Ok st P R) {i j:Nat} (hi:i<R.length) (hj:j<R.length) {a b:Nat} (ea:a=P.length+i) (eb:b=P.length+j) {Q:Option Bool→SortSt→Prop} (q:Q (some (decide (f R[i]<f R[j]))) st):wpS (model prog w) A E s (ltAt' a b) Q st:=by
  have at_:∀ i (hi:i<R.length),(arrOf st)[P.length+i]?=some R[i]:=fun i hi=>by rw [← Array.getElem?_toList,T.arr,List.getElem?_append_right (by omega),Nat.add_sub_cancel_left];simp
  subst ea eb
  rw [ltAt'_eq]
  refine wpS_bind (wpS_get ?_)
  refine wpS_bind (au8 (at_ i hi) (wpS_bind (au8 (at_ j hj) ?_)))
  exact w_lt O T.kind (T.ok _ (List.getElem_mem _)) (T.ok _ (List.getElem_mem _)) q
def Up (f:Keyed→Int) (R:List Keyed) (n:Nat):Prop:=∀ i j (_:i≤j) (_:j<R.length),j<n→f (R[i]'(by omega))≤f R[j]
theorem Up.snoc {R:List Keyed} {n:Nat} (h:Up f R n) (h1:1≤n) (hn:n<R.length) (hs:f (R[n - 1]'(by omega))≤f R[n]):Up f R (n+1):=fun i j hij hj hjn=>by
  rcases Nat.lt_or_ge j n with c | c
  · exact h i j hij hj c
  · have e:j=n:=by omega
    subst e
    rcases Nat.lt_or_ge i j with c2 | c2
    · exact Int.le_trans (h i (j - 1) (by omega) (by omega) (by omega)) hs
    · have e:i=j:=by omega
      subst e;exact Int.le_refl _
theorem Up.pair {R:List Keyed} {n:Nat} (h:Up f R n) (hn:n≤R.length):(R.take n).Pairwise fun x y=>f x≤f y:=by
  rw [List.pairwise_iff_getElem]
  intro i j hi hj hij
  rw [List.length_take] at hi hj
  rw [List.getElem_take,List.getElem_take]
  exact h i j (by omega) (by omega) (by omega)
end
end TS
namespace TS
open PySem PyProof.Rows
section
variable {prog:Program} {w:World} {A:Around} {E:Value→Shared→Prop} {s:Shared} {κ:SortKind} {Ok:Keyed→Prop} {f:Keyed→Int}
theorem Tl.same {st:SortSt} {P R R':List Keyed} (T:Tl κ Ok st P R) (p:R'.Perm R) {arr:Array Keyed} (h:arr.toList=P++R'):Tl κ Ok (setArr st arr) P R':=⟨T.kind,h,fun x hx=>T.ok x (p.mem_iff.mp hx)⟩
theorem Up.one {R:List Keyed}:Up f R 1:=fun i j hij hj h=>by
  have:i=j:=by omega
  subst this;exact Int.le_refl _
theorem avz (O:Ord prog w A s κ Ok f) {st:SortSt} {P R:List Keyed} (T:Tl κ Ok st P R) (h1:1≤R.length) (inj:∀ i j (_:i<j) (_:j<R.length),f (R[i]'(by omega))≠f R[j]) {Q:Option Nat→SortSt→Prop}
    (q:∀ n R' arr,1≤n→n≤R.length→R'.Perm R→arr.toList=P++R'→Up f R' n→Q (some n) (setArr st arr)):wpS (model prog w) A E s (countRun' P.length R.length) Q st:=by
  have hst:setArr st (arrOf st)=st:=rfl
  refine wpS_bind (wpS_mono (wpS_forRange (I:=fun x c st'=>st'=st∧c=(none,x)∧Up f R x)
    (Q:=fun c st'=>st'=st∧∃ n,c=(none,n)∧1≤n∧n≤R.length∧Up f R n∧(n=R.length∨∃ h:n<R.length,f R[n]<f (R[n - 1]'(by omega)))) ?_ ?_ ⟨rfl,rfl,Up.one⟩) ?_)
  · rintro x c st' hx1 hx ⟨rfl,rfl,U⟩
    dsimp only
    refine wpS_bind (aet O T (i:=x) (j:=x - 1) hx (by omega) rfl (by omega) ?_)
    dsimp only
    by_cases c:f R[x]<f (R[x - 1]'(by omega))
    · rw [decide_eq_true c,if_pos rfl]
      exact wpS_pure ⟨rfl,x,rfl,hx1,by omega,U,.inr ⟨hx,c⟩⟩
    · rw [decide_eq_false c,if_neg (by simp)]
      exact wpS_pure ⟨rfl,rfl,U.snoc hx1 hx (by omega)⟩
  · rintro c st' ⟨rfl,rfl,U⟩
    exact ⟨rfl,_,rfl,by omega,by omega,by rw [Nat.max_eq_right h1] at *;exact U,.inl (by omega)⟩
  · rintro c st' ⟨rfl,n,rfl,hn1,hn2,U,hend⟩
    dsimp only
    by_cases c1:(n==R.length)=true
    · rw [if_pos c1]
      exact wpS_pure (q n R (arrOf st') hn1 hn2 (List.Perm.refl _) T.arr U)
    rw [if_neg c1]
    have c1:¬ n=R.length:=by simpa using c1
    have hnl:n<R.length:=by omega
    by_cases c2:n > 1
    · rw [if_pos c2]
      refine wpS_bind (aet O T (i:=0) (j:=n - 1) (by omega) (by omega) rfl (by omega) ?_)
      have:f R[0]<f (R[n - 1]'(by omega)):=by
        have h3:=U 0 (n - 1) (by omega) (by omega) (by omega)
        have h4:=inj 0 (n - 1) (by omega) (by omega)
        omega
      dsimp only
      rw [decide_eq_true this,if_pos rfl]
      exact wpS_pure (q n R (arrOf st') hn1 hn2 (List.Perm.refl _) T.arr U)
    rw [if_neg c2]
    obtain rfl:n=1:=by omega
    refine wpS_bind (wpS_lift (wpAny_rule ⟨rfl,?_⟩))
    have hd:f R[1]<f R[0]:=by
      rcases hend with h | ⟨h,h'⟩
      · omega
      · exact h'
    refine wpS_bind (wpS_mono (wpS_forRange (I:=fun x c st''=>st''=st'∧c=(none,x,0)∧∀ i j (_:i≤j) (_:j<R.length),j<x→f R[j]≤f (R[i]'(by omega)))
      (Q:=fun c st''=>st''=st'∧∃ n,c=(none,n,0)∧2≤n∧n≤R.length∧∀ i j (_:i≤j) (_:j<R.length),j<n→f R[j]≤f (R[i]'(by omega))) ?_ ?_ ⟨rfl,rfl,?_⟩) ?_)
    · rintro x c st'' hx1 hx ⟨rfl,rfl,D⟩
      dsimp only
      refine wpS_bind (aet O T (i:=x) (j:=x - 1) hx (by omega) rfl (by omega) ?_)
      dsimp only
      by_cases c:f R[x]<f (R[x - 1]'(by omega))
      · rw [decide_eq_true c,if_pos rfl,if_neg (by simp)]
        refine wpS_pure ⟨rfl,rfl,fun i j hij hj hjx=>?_⟩
        rcases Nat.lt_or_ge j x with h | h
        · exact D i j hij hj h
        · have e:j=x:=by omega
          subst e
          rcases Nat.lt_or_ge i j with h2 | h2
          · exact Int.le_trans (Int.le_of_lt c) (D i (j - 1) (by omega) (by omega) (by omega))
          · have e:i=j:=by omega
            subst e;exact Int.le_refl _
      · rw [decide_eq_false c,if_neg (by simp)]
        refine wpS_bind (aet O T (i:=x - 1) (j:=x) (by omega) hx (by omega) rfl ?_)
        have h4:=inj (x - 1) x (by omega) hx
        have:f (R[x - 1]'(by omega))<f R[x]:=by omega
        dsimp only
        rw [decide_eq_true this,if_pos rfl]
        exact wpS_pure ⟨rfl,x,rfl,by omega,by omega,D⟩
    · rintro c st'' ⟨rfl,rfl,D⟩
      exact ⟨rfl,_,rfl,by omega,by omega,D⟩
    · intro i j hij hj hjx
      have:j=0∨j=1:=by omega
      rcases this with rfl | rfl
      · have:i=0:=by omega
        subst this;exact Int.le_refl _
      · have:i=0∨i=1:=by omega
        rcases this with rfl | rfl
        · exact Int.le_of_lt hd
        · exact Int.le_refl _
    · rintro c st'' ⟨rfl,n,rfl,g1,g2,D⟩
      dsimp only
      rw [if_neg (by simp)]
      have T':=T.same (R':=(R.take n).reverse++R.drop n) (((List.perm_append_right_iff _).mpr (List.reverse_perm _)).trans (by rw [List.take_append_drop])) (amc T.arr g2)
      obtain ⟨R',eR⟩:∃ R',R'=(R.take n).reverse++R.drop n:=⟨_,rfl⟩
      have pR:R'.Perm R:=by rw [eR];exact ((List.perm_append_right_iff _).mpr (List.reverse_perm _)).trans (by rw [List.take_append_drop])
      have lR:R'.length=R.length:=pR.length_eq
      have U':Up f R' n:=fun i j hij hj hjn=>by
        subst eR
        rw [List.getElem_append_left (by simp;omega),List.getElem_append_left (by simp;omega),List.getElem_reverse,List.getElem_reverse,List.getElem_take,List.getElem_take]
        refine D _ _ ?_ (by simp;omega) ?_
        · simp;omega
        · simp;omega
      rw [← eR] at T'
      refine wpS_bind (wpS_modify ?_)
      refine wpS_bind (wpS_mono (wpS_forRange (I:=fun x c sx=>sx=setArr st'' (mirror (arrOf st'') P.length (P.length+n) ((P.length+n - P.length) / 2))∧c=(none,x)∧Up f R' x)
        (Q:=fun c sx=>sx=setArr st'' (mirror (arrOf st'') P.length (P.length+n) ((P.length+n - P.length) / 2))∧∃ n,c=(none,n)∧1≤n∧n≤R.length∧Up f R' n) ?_ ?_ ⟨rfl,rfl,U'⟩) ?_)
      · rintro x c sx hx1 hx ⟨rfl,rfl,U⟩
        dsimp only
        refine wpS_bind (aet O T' (i:=x) (j:=x - 1) (by omega) (by omega) rfl (by omega) ?_)
        dsimp only
        by_cases c:f (R'[x]'(by omega))<f (R'[x - 1]'(by omega))
        · rw [decide_eq_true c,if_pos rfl]
          exact wpS_pure ⟨rfl,x,rfl,by omega,by omega,U⟩
        · rw [decide_eq_false c,if_neg (by simp)]
          exact wpS_pure ⟨rfl,rfl,U.snoc (by omega) (by omega) (by omega)⟩
      · rintro c sx ⟨rfl,rfl,U⟩
        exact ⟨rfl,_,rfl,by omega,by omega,U⟩
      · rintro c sx ⟨rfl,n,rfl,k1,k2,U⟩
        exact wpS_pure (q n R' _ k1 k2 pR T'.arr U)
end
end TS
namespace TS
open PySem PyProof.Rows
section
variable {prog:Program} {w:World} {A:Around} {E:Value→Shared→Prop} {s:Shared} {κ:SortKind} {Ok:Keyed→Prop} {f:Keyed→Int}
theorem Up.of {R:List Keyed} {n:Nat} (h:(R.take n).Pairwise fun x y=>f x≤f y):Up f R n:=fun i j hij hj hjn=>by
  have:=a4g h (i:=i) (j:=j) hij (by simp;omega)
  rw [List.getElem_take,List.getElem_take] at this
  exact this
theorem as3 {R:List Keyed} {k l:Nat} (hk:k<R.length) (hl:l≤k):(R.take l++R[k]::((R.drop l).take (k - l)++R.drop (k+1))).Perm R:=by
  have e:R=R.take l++((R.drop l).take (k - l)++(R[k]::R.drop (k+1))):=by
    rw [← List.append_assoc,a1g _ hl,← List.drop_eq_getElem_cons hk,List.take_append_drop]
  refine List.Perm.trans ?_ (List.Perm.of_eq e.symm)
  exact (List.perm_append_left_iff _).mpr List.perm_middle.symm
theorem a17 {R:List Keyed} {k l:Nat} (hk:k<R.length) (hl:l≤k) (U:Up f R k) (lo:∀ i (_:i<l),f (R[i]'(by omega))≤f R[k]) (hi:∀ i (_:i<k),l≤i→f R[k]≤f (R[i]'(by omega))):
    Up f (R.take l++R[k]::((R.drop l).take (k - l)++R.drop (k+1))) (k+1):=by
  apply Up.of
  have e:R.take l++R[k]::((R.drop l).take (k - l)++R.drop (k+1))=(R.take l++R[k]::(R.drop l).take (k - l))++R.drop (k+1):=by simp
  rw [e,List.take_left' (by simp;omega)]
  have ab:=U.pair (Nat.le_of_lt hk)
  rw [← a1g R hl] at ab
  have ab:=List.pairwise_append.mp ab
  have hB:∀ y∈(R.drop l).take (k - l),f R[k]≤f y:=fun y hy=>by
    obtain ⟨j,hj,rfl⟩:=List.getElem_of_mem hy
    rw [List.length_take,List.length_drop] at hj
    rw [List.getElem_take,List.getElem_drop]
    exact hi (l+j) (by omega) (by omega)
  have hA:∀ x∈R.take l,f x≤f R[k]:=fun x hx=>by
    obtain ⟨j,hj,rfl⟩:=List.getElem_of_mem hx
    rw [List.length_take] at hj
    rw [List.getElem_take]
    exact lo j (by omega)
  refine List.pairwise_append.mpr ⟨ab.1,List.pairwise_cons.mpr ⟨hB,ab.2.1⟩,fun x hx y hy=>?_⟩
  rcases List.mem_cons.mp hy with rfl | hy
  · exact hA x hx
  · exact ab.2.2 x hx y hy
theorem a31 (O:Ord prog w A s κ Ok f) {st:SortSt} {P R:List Keyed} (T:Tl κ Ok st P R) {n ok:Nat} (hn:n≤R.length) (h1:1≤ok) (ho:ok≤n) (U:Up f R ok) {Q:Bool→SortSt→Prop}
    (q:∀ R' arr,R'.Perm R→arr.toList=P++R'→Up f R' n→Q true (setArr st arr)):wpS (model prog w) A E s (binarySort' P.length n ok) Q st:=by
  have hst:setArr st (arrOf st)=st:=rfl
  refine wpS_bind (wpS_mono (wpS_forRange (I:=fun x c st'=>c=(none,())∧∃ R' arr,st'=setArr st arr∧R'.Perm R∧arr.toList=P++R'∧Up f R' x)
    (Q:=fun c st'=>c=(none,())∧∃ R' arr,st'=setArr st arr∧R'.Perm R∧arr.toList=P++R'∧Up f R' n) ?_ ?_ ⟨rfl,R,arrOf st,rfl,List.Perm.refl _,T.arr,by rw [Nat.max_eq_left h1];exact U⟩) ?_)
  · rintro x c st' hx1 hx ⟨rfl,R',arr,rfl,pR,eA,U'⟩
    have T':=T.same pR eA
    have lR:R'.length=R.length:=pR.length_eq
    have hxl:x<R'.length:=by omega
    dsimp only
    refine wpS_bind (wpS_mono (wpS_forRange (I:=fun y c st'=>st'=setArr st arr∧∃ l r,c=(none,l,r)∧l≤r∧r≤x∧r - l+y≤x∧(∀ i (_:i<l) (_:i<R'.length),f R'[i]≤f R'[x])∧(∀ i (_:i<x),r≤i→f R'[x]≤f (R'[i]'(by omega))))
      (Q:=fun c st'=>st'=setArr st arr∧∃ l,c=(none,l,l)∧l≤x∧(∀ i (_:i<l) (_:i<R'.length),f R'[i]≤f R'[x])∧(∀ i (_:i<x),l≤i→f R'[x]≤f (R'[i]'(by omega)))) ?_ ?_ ⟨rfl,0,x,rfl,Nat.zero_le _,Nat.le_refl _,by omega,fun i h=>by omega,fun i h h'=>by omega⟩) ?_)
    · rintro y c st' _ hy ⟨rfl,l,r,rfl,g1,g2,g3,g4,g5⟩
      dsimp only
      by_cases c:l≥r
      · rw [if_pos c]
        obtain rfl:l=r:=by omega
        exact wpS_pure ⟨rfl,l,rfl,g2,g4,g5⟩
      · rw [if_neg c]
        refine wpS_bind (aet O T' (i:=x) (j:=(l+r) / 2) hxl (by omega) rfl rfl ?_)
        dsimp only
        by_cases e:f R'[x]<f (R'[(l+r) / 2]'(by omega))
        · rw [decide_eq_true e,if_pos rfl]
          refine wpS_pure ⟨rfl,l,(l+r) / 2,rfl,by omega,by omega,by omega,g4,fun i h h'=>?_⟩
          exact Int.le_trans (Int.le_of_lt e) (U' _ _ h' (by omega) h)
        · rw [decide_eq_false e,if_neg (by simp)]
          refine wpS_pure ⟨rfl,(l+r) / 2+1,r,rfl,by omega,g2,by omega,fun i h h'=>?_,g5⟩
          exact Int.le_trans (U' i ((l+r) / 2) (by omega) (by omega) (by omega)) (by omega)
    · rintro c st' ⟨rfl,l,r,rfl,g1,g2,g3,g4,g5⟩
      obtain rfl:l=r:=by omega
      exact ⟨rfl,l,rfl,g2,g4,g5⟩
    · rintro c st' ⟨rfl,l,rfl,g2,g4,g5⟩
      dsimp only
      refine wpS_bind (wpS_modify ?_)
      exact wpS_pure ⟨rfl,_,_,rfl,(as3 hxl g2).trans pR,ams eA hxl g2,a17 hxl g2 U' (fun i h=>g4 i h (by omega)) g5⟩
  · rintro c st' ⟨rfl,R',arr,rfl,pR,eA,U'⟩
    exact ⟨rfl,R',arr,rfl,pR,eA,by rw [Nat.max_eq_left h1,Nat.max_eq_right ho] at U';exact U'⟩
  · rintro c st' ⟨rfl,R',arr,rfl,pR,eA,U'⟩
    exact wpS_pure (q R' arr pR eA U')
end
end TS
namespace TS
open PySem PyProof.Rows
section
variable {prog:Program} {w:World} {A:Around} {E:Value→Shared→Prop} {s:Shared} {κ:SortKind} {Ok:Keyed→Prop} {f:Keyed→Int}
end
end TS
namespace TS
open PySem PyProof.Rows PySem.W
def a1w (h:Heap) (B:Int) (x:Keyed):Prop:=∃ a o n r p t u,x.1=.ref a∧h.get? a=some o∧o.data=.seq #[.int r t,.int p u] n∧0≤p∧p<B
noncomputable def num (h:Heap) (B:Int) (x:Keyed):Int:=match x.1 with
  | .ref a=>match h.get? a with
    | some o=>match o.data with
      | .seq xs _=>match xs.toList with
        | [.int r _,.int p _]=>r*B+p
        | _=>0
      | _=>0
    | none=>0
  | _=>0
theorem num_of {h:Heap} {B:Int} {x:Keyed} {a:Addr} {o:Obj} {n:Nat} {r p:Int} {t u:Tok} (e1:x.1=.ref a) (e2:h.get? a=some o) (e3:o.data=.seq #[.int r t,.int p u] n):num h B x=r*B+p:=by
  unfold num;simp [e1,e2,e3]
theorem ath {prog:Program} {w:World} {A:Around} {s:Shared} {B:Int}:Ord prog w A s (tuples' true) (a1w s.heap B) (num s.heap B):=by
  constructor
  rintro x y ⟨a1,o1,n1,r1,p1,t1,u1,e1,g1,d1,b1,c1⟩ ⟨a2,o2,n2,r2,p2,t2,u2,e2,g2,d2,b2,c2⟩ E Q h
  rw [num_of e1 g1 d1,num_of e2 g2 d2] at h
  rw [e1,e2]
  refine kat_lt g1 d1 g2 d2 ?_
  show KatLex prog w A true _ Q [(.int r1 t1,.int r2 t2),(.int p1 u1,.int p2 u2)] 0 s
  refine kat_cons (wpAny_eqBool_int ?_)
  by_cases c:r1=r2
  · subst c
    rw [beq_self_eq_true]
    refine kat_yes (kat_cons (wpAny_eqBool_int ?_))
    by_cases c':p1=p2
    · subst c'
      rw [beq_self_eq_true]
      refine kat_yes (kat_nil ?_)
      have e:decide (r1*B+p1<r1*B+p1)=false:=decide_eq_false (by omega)
      rw [e] at h
      exact h
    · rw [beq_false_of_ne c']
      refine kat_no (kat_one _ _ (PyProof.Rows.lt_int ?_))
      have e:decide (r1*B+p1<r1*B+p2)=decide (p1<p2):=by
        by_cases z:p1<p2
        · rw [decide_eq_true z];exact decide_eq_true (by omega)
        · rw [decide_eq_false z];exact decide_eq_false (by omega)
      rw [e] at h
      exact h
  · rw [beq_false_of_ne c]
    refine kat_no (oneLt_int ?_)
    have e:decide (r1*B+p1<r2*B+p2)=decide (r1<r2):=by
      by_cases z:r1<r2
      · rw [decide_eq_true z]
        have h5:(r1+1)*B≤r2*B:=Int.mul_le_mul_of_nonneg_right (by omega) (by omega)
        rw [Int.add_mul,Int.one_mul] at h5
        exact decide_eq_true (by omega)
      · rw [decide_eq_false z]
        have h5:(r2+1)*B≤r1*B:=Int.mul_le_mul_of_nonneg_right (by omega) (by omega)
        rw [Int.add_mul,Int.one_mul] at h5
        exact decide_eq_false (by omega)
    rw [e] at h
    exact h
end TS
namespace TS
open PySem PyProof.Rows PySem.W
section
variable {prog:Program} {w:World} {A:Around} {E:Value→Shared→Prop} {s:Shared}
def TupP (h:Heap) (B:Int) (v:Value):Prop:=∃ a o n r p t u,v=.ref a∧h.get? a=some o∧o.cls=.type "tuple" ∧ o.data=.seq #[.int r t,.int p u] n∧0≤p∧p<B
theorem TupP.pair {h:Heap} {B:Int} {x:Keyed} (k:TupP h B x.1):a1w h B x:=by
  obtain ⟨a,o,n,r,p,t,u,e1,e2,_,e3,e4,e5⟩:=k
  exact ⟨a,o,n,r,p,t,u,e1,e2,e3,e4,e5⟩
theorem tups {h:Heap} {B:Int}:∀ {ks:List Value},(∀ v∈ks,TupP h B v)→∃ fs,KatTups h ks fs∧fs.length=ks.length∧∀ v∈fs,∃ r t,v=Value.int r t
  | [],_=>⟨[],trivial,rfl,fun v hv=>by simp at hv⟩
  | k::ks,hk=>by
    obtain ⟨fs,h1,h2,h3⟩:=tups (ks:=ks) fun v hv=>hk v (List.mem_cons_of_mem _ hv)
    obtain ⟨a,o,n,r,p,t,u,rfl,e2,e3,e4,_,_⟩:=hk k (List.mem_cons_self ..)
    refine ⟨.int r t::fs,KatTups.cons e2 e3 e4 rfl h1,by simp [h2],fun v hv=>?_⟩
    rcases List.mem_cons.mp hv with rfl | hv
    · exact ⟨r,t,rfl⟩
    · exact h3 v hv
theorem aye {B:Int} {ks:List Value} {Q:SortKind→Shared→Prop} (hk:∀ v∈ks,TupP s.heap B v) (h0:0<ks.length) (q:Q (tuples' true) s):wpAny (model prog w) A (keyKind' ks.toArray) Q E s:=by
  obtain ⟨fs,h1,h2,h3⟩:=tups hk
  refine kat_kind (T:=.type "int") h1 (by omega) (fun v hv=>?_) (by decide) ?_
  · obtain ⟨r,t,rfl⟩:=h3 v hv
    exact .now
  · exact q
theorem atv {α:Type} {R:α→α→Prop}:∀ {l:List α},l.length<2→l.Pairwise R
  | [],_=>List.Pairwise.nil
  | [_],_=>List.pairwise_singleton _ _
  | _::_::_,h=>absurd h (by simp)
end
end TS
namespace TS
open PySem PyProof.Rows PySem.W
section
variable {prog:Program} {w:World} {A:Around} {E:Value→Shared→Prop} {s:Shared} {κ:SortKind} {Ok:Keyed→Prop} {f:Keyed→Int}
theorem atr {N:Nat} (h1:1≤N) (h:N<64):(sortPriv% PySem.Builtin.minRun) N N 0=N:=by
  obtain ⟨r,rfl⟩:∃ r,N=r+1:=⟨N - 1,by omega⟩
  show minRun' (r+1) (r+1) 0=r+1
  rw [minRun'_succ,if_pos h]
structure Srt (f:Keyed→Int) (l:List Keyed) (st:SortSt):Prop where
  fl:failedOf st=none
  pn:(pendingOf st).size≤1
  pm:(arrOf st).toList.Perm l
  pw:(arrOf st).toList.Pairwise fun x y=>f x≤f y
theorem au9 (O:Ord prog w A s κ Ok f) {st:SortSt} {Q:Unit→SortSt→Prop} (h64:(arrOf st).size<64) (hk:kindOf st=κ) (hp:pendingOf st=#[]) (hf:failedOf st=none) (ok:∀ x∈(arrOf st).toList,Ok x) (inj:((arrOf st).toList.map f).Nodup)
    (q:∀ st',failedOf st'=none→(arrOf st').toList.Perm (arrOf st).toList→((arrOf st').toList.Pairwise fun x y=>f x≤f y)→Q () st'):wpS (model prog w) A E s sortRuns' Q st:=by
  refine wpS_bind (wpS_get ?_)
  dsimp only
  have lN:(arrOf st).toList.length=(arrOf st).size:=Array.length_toList
  obtain ⟨N,eN⟩:∃ N,N=(arrOf st).size:=⟨_,rfl⟩
  rw [← eN] at h64 lN ⊢
  obtain ⟨R,eR⟩:∃ R,R=(arrOf st).toList:=⟨_,rfl⟩
  rw [← eR] at lN ok inj q
  generalize hmr:(sortPriv% PySem.Builtin.minRun) N N 0=mr
  have inj':∀ i j (_:i<j) (_:j<R.length),f (R[i]'(by omega))≠f R[j]:=fun i j hij hj e=>by
    have h2:=List.pairwise_iff_getElem.mp inj i j (by simp;omega) (by simpa using hj) hij
    simp at h2
    exact h2 e
  refine wpS_bind (wpS_mono (wpS_forRange (I:=fun x c st'=>∃ lo,c=(none,lo)∧((x=0∧lo=0∧st'=st)∨(lo=N∧Srt f R st')))
    (Q:=fun c st'=>∃ lo,c=(none,lo)∧Srt f R st') ?_ ?_ ⟨0,rfl,.inl ⟨rfl,rfl,rfl⟩⟩) ?_)
  · rintro x c st' _ hx ⟨lo,rfl,h⟩
    dsimp only
    by_cases c:lo≥N
    · rw [if_pos c]
      rcases h with ⟨h1,h2,_⟩ | ⟨_,h⟩
      · omega
      · exact wpS_pure ⟨lo,rfl,h⟩
    rw [if_neg c]
    obtain ⟨rfl,rfl,rfl⟩:x=0∧lo=0∧st'=st:=by
      rcases h with h | ⟨h,_⟩
      · exact h
      · omega
    have em:mr=N:=by rw [← hmr];exact atr (by omega) h64
    subst em
    have T:Tl κ Ok st' [] R:=⟨hk,eR.symm,ok⟩
    rw [Nat.sub_zero,← lN]
    refine wpS_bind (avz O T (by omega) inj' fun n R1 arr1 g1 g2 pR1 eA1 U1=>?_)
    dsimp only
    have T1:=T.same pR1 eA1
    have l1:R1.length=R.length:=pR1.length_eq
    have fin:∀ (arr:Array Keyed) (R2:List Keyed) (n2:Nat),R2.Perm R→arr.toList=[]++R2→Up f R2 R.length→n2=R.length→∃ lo,((none,0+n2):Option Unit×Nat)=(none,lo)∧((0+1=0∧lo=0∧setPending (setArr st' arr) ((pendingOf (setArr st' arr)).push (0,n2,0))=st')∨(lo=R.length∧Srt f R (setPending (setArr st' arr) ((pendingOf (setArr st' arr)).push (0,n2,0))))):=fun arr R2 n2 p2 e2 U2 en=>by
      refine ⟨0+n2,rfl,.inr ⟨by omega,⟨hf,?_,?_,?_⟩⟩⟩
      · show ((pendingOf st').push (0,n2,0)).size≤1
        rw [hp];exact Nat.le_refl 1
      · show arr.toList.Perm R
        rw [e2];exact p2
      · show arr.toList.Pairwise _
        rw [e2]
        have:=U2.pair (by rw [p2.length_eq];exact Nat.le_refl _)
        rw [← p2.length_eq,List.take_length] at this
        exact this
    by_cases cm:n<R.length
    · rw [if_pos cm]
      refine wpS_bind (wpS_lift (wpAny_rule ⟨rfl,?_⟩))
      rw [Nat.min_self]
      refine wpS_bind (a31 O T1 (by omega) g1 (by omega) U1 fun R2 arr2 pR2 eA2 U2=>?_)
      rw [if_neg (by simp)]
      refine wpS_bind (wpS_get ?_)
      have eb:(pendingOf (setArr (setArr st' arr1) arr2)).back?=none:=by show (pendingOf st').back?=none;rw [hp];rfl
      rw [eb]
      exact wpS_bind (wpS_modify (wpS_pure (fin arr2 R2 _ (pR2.trans pR1) eA2 U2 rfl)))
    · rw [if_neg cm]
      refine wpS_bind (wpS_get ?_)
      have eb:(pendingOf (setArr st' arr1)).back?=none:=by show (pendingOf st').back?=none;rw [hp];rfl
      rw [eb]
      have en:n=R.length:=by omega
      exact wpS_bind (wpS_modify (wpS_pure (fin arr1 R1 _ pR1 eA1 (en▸U1) en)))
  · rintro c st' ⟨lo,rfl,h⟩
    refine ⟨lo,rfl,?_⟩
    rcases h with ⟨h1,h2,rfl⟩ | ⟨_,h⟩
    · have:R=[]:=List.eq_nil_of_length_eq_zero (by omega)
      refine ⟨hf,by rw [hp];exact Nat.zero_le _,by rw [← eR],?_⟩
      rw [← eR,this];exact List.Pairwise.nil
    · exact h
  · rintro c st' ⟨lo,rfl,h⟩
    dsimp only
    refine wpS_bind (wpS_mono (wpS_forRange (I:=fun y c st3=>c=(none,())∧Srt f R st3) (Q:=fun c st3=>c=(none,())∧Srt f R st3) ?_ ?_ ⟨rfl,h⟩) ?_)
    · rintro y c st3 _ hy ⟨rfl,h3⟩
      refine wpS_bind (wpS_get ?_)
      rw [if_pos h3.pn]
      exact wpS_pure ⟨rfl,h3⟩
    · rintro c st3 h3;exact h3
    · rintro c st3 ⟨rfl,h3⟩
      exact wpS_pure (q st3 h3.fl h3.pm h3.pw)
end
end TS
namespace TS
open PySem PyProof.Rows PySem.W
section
variable {prog:Program} {w:World} {A:Around} {E:Value→Shared→Prop} {s:Shared}
theorem TupP.ne {h:Heap} {B:Int} {v:Value} {a b:Addr} {xs:Array Value} {n:Nat} (k:TupP h B v) (e:v=.ref a) (hb:h.get? b=some (seqObj "list" xs n)):a≠b:=by
  obtain ⟨a',o,m,r,p,t,u,e1,e2,e3,_⟩:=k
  rw [e] at e1;cases e1
  rintro rfl
  rw [hb] at e2;cases e2
  have e3:Value.type "list" = Value.type "tuple" := e3
  injection e3 with e
  exact absurd e (by decide)
theorem TupP.keeps {h h':Heap} {B:Int} {v:Value} {b:Addr} {xs:Array Value} {n:Nat} (k:TupP h B v) (hb:h.get? b=some (seqObj "list" xs n)) (hk:∀ c o,c≠b→h.get? c=some o→h'.get? c=some o):TupP h' B v:=by
  have k0:=k
  obtain ⟨a,o,m,r,p,t,u,e1,e2,e3,e4,e5,e6⟩:=k
  exact ⟨a,o,m,r,p,t,u,e1,hk a o (k0.ne e1 hb) e2,e3,e4,e5,e6⟩
theorem aq8 {h h':Heap} {B:Int} {x:Keyed} {b:Addr} {xs:Array Value} {n:Nat} (k:TupP h B x.1) (hb:h.get? b=some (seqObj "list" xs n)) (hk:∀ c o,c≠b→h.get? c=some o→h'.get? c=some o):num h' B x=num h B x:=by
  have k0:=k
  obtain ⟨a,o,m,r,p,t,u,e1,e2,e3,e4,e5,e6⟩:=k
  rw [num_of e1 e2 e4,num_of e1 (hk a o (k0.ne e1 hb) e2) e4]
theorem aav {vs:List Value} {x:Keyed} (h:x∈vs.zip vs):x.1∈vs∧x.1=x.2:=by
  induction vs with
  | nil=>simp at h
  | cons v r ih=>
    rw [List.zip_cons_cons] at h
    rcases List.mem_cons.mp h with rfl | h
    · exact ⟨List.mem_cons_self ..,rfl⟩
    · exact ⟨List.mem_cons_of_mem _ (ih h).1,(ih h).2⟩
theorem aw8 {a:Addr} {vs:List Value} {n:Nat} {B:Int} {P:PySem.Fin→Shared→Prop} (ho:s.heap.get? a=some (seqObj "list" vs.toArray n)) (hz:vs.length≤63) (hk:∀ v∈vs,TupP s.heap B v) (inj:((vs.zip vs).map (num s.heap B)).Nodup)
    (h:∀ h' tk (xs:List Keyed) c,(∀ b o,b≠a→s.heap.get? b=some o→h'.get? b=some o)→h'.get? a=some (seqObj "list" (List.toArray (xs.map (·.2))) c)→xs.Perm (vs.zip vs)→(xs.Pairwise fun x y=>num s.heap B x≤num s.heap B y)→P (.done (.ret .none)) { s with heap:=h',toks:=tk }):
    wpAny (model prog w) A (Builtin.«list.sort» ⟨[.ref a],[]⟩) P E s:=by
  have big:(63:Nat)+1≤sizeLine:=by rw [sizeLine_eq];omega
  have zl:(vs.toArray.zip vs.toArray).toList=vs.zip vs:=by simp
  have s1:=Heap.SameBut.update s.heap a (Obj.mapSeq fun _=>(#[]:Array Value))
  obtain ⟨e1,ho1⟩:∃ e1,(s.heap.update a (Obj.mapSeq fun _=>(#[]:Array Value))).get? a=some (seqObj "list" #[] e1):=⟨_,get?_update_seq ho fun _=>#[]⟩
  obtain ⟨hp3,ehp3⟩:∃ g,g=((s.heap.update a (Obj.mapSeq fun _=>(#[]:Array Value))).push (seqObj "tuple" vs.toArray 0)).push (seqObj "list" #[] 0):=⟨_,rfl⟩
  have k3:∀ b o,b≠a→s.heap.get? b=some o→hp3.get? b=some o:=fun b o hb e=>by
    rw [ehp3]
    exact Heap.get?_push_of_some _ (Heap.get?_push_of_some _ ((s1.2 b hb).trans e))
  have ha3:hp3.get? a=some (seqObj "list" #[] e1):=by
    rw [ehp3]
    exact Heap.get?_push_of_some _ (Heap.get?_push_of_some _ ho1)
  have hk3:∀ v∈vs,TupP hp3 B v:=fun v hv=>(hk v hv).keeps ho k3
  have nk:∀ x∈vs.zip vs,num hp3 B x=num s.heap B x:=fun x hx=>aq8 (hk _ (aav hx).1) ho k3
  have inj3:((vs.zip vs).map (num hp3 B)).Nodup:=by
    rw [List.map_congr_left nk];exact inj
  have tail:∀ st:SortSt,failedOf st=none→(arrOf st).toList.Perm (vs.zip vs)→((arrOf st).toList.Pairwise fun x y=>num hp3 B x≤num hp3 B y)→
      ∀ tk,P (.done (.ret .none)) { s with heap:=hp3.update a (Obj.mapSeq fun _=>(arrOf st).map (·.2)),toks:=tk }:=by
    intro st hf hp hs tk
    have s2:=Heap.SameBut.update hp3 a (Obj.mapSeq fun _=>(arrOf st).map (·.2))
    obtain ⟨c2,hc2⟩:∃ c2,(hp3.update a (Obj.mapSeq fun _=>(arrOf st).map (·.2))).get? a=some (seqObj "list" ((arrOf st).map (·.2)) c2):=⟨_,get?_update_seq ha3 fun _=>(arrOf st).map (·.2)⟩
    have em:(arrOf st).map (·.2)=List.toArray ((arrOf st).toList.map (·.2)):=by
      apply Array.toList_inj.mp
      rw [Array.toList_map]
    refine h _ tk (arrOf st).toList c2 (fun b o hb e=>(s2.2 b hb).trans (k3 b o hb e)) ?_ hp ?_
    · rw [em] at hc2 ⊢;exact hc2
    · refine List.Pairwise.imp_of_mem (fun {x y} hx hy z=>?_) hs
      rw [nk x (hp.mem_iff.mp hx),nk y (hp.mem_iff.mp hy)] at z
      exact z
  have len:∀ st:SortSt,(arrOf st).toList.Perm (vs.zip vs)→((arrOf st).map (·.2)).size≤sizeLine+1:=fun st hp=>by
    have:=hp.length_eq
    rw [List.length_zip,Array.length_toList] at this
    rw [Array.size_map];omega
  rw [list_sort_plain]
  refine wpAny_bind (listItems_at ho rfl ?_)
  refine wpAny_bind (listUpdate_at ho rfl ?_ (by rw [List.size_toArray];omega) (Nat.zero_le _))
  refine wpAny_bind (seqEpoch_at ho1 rfl ?_)
  refine wpAny_bind (wpAny_newTuple ?_ (by show vs.length≤_;omega))
  refine wpAny_bind (wpAny_newList ?_ (Nat.zero_le _))
  refine wpAny_holding ?_
  show wpAny (model prog w) A _ P E { s with heap:=((s.heap.update a (Obj.mapSeq fun _=>(#[]:Array Value))).push (seqObj "tuple" vs.toArray 0)).push (seqObj "list" #[] 0) }
  rw [← ehp3]
  dsimp only
  by_cases h2:vs.toArray.size<2
  · rw [if_pos h2,if_pos h2]
    refine wpAny_bind (wpAny_pure ?_)
    rw [StateT.run_pure]
    refine wpAny_bind (wpAny_pure ?_)
    dsimp only
    refine wpAny_bind (seqEpoch_at ha3 rfl ?_)
    have pz:(arrOf (SortSt.mk' (tuples' true) (vs.toArray.zip vs.toArray) #[] 7 none)).toList.Perm (vs.zip vs):=by show (vs.toArray.zip vs.toArray).toList.Perm _;rw [zl]
    refine wpAny_bind (listUpdate_at ha3 rfl ?_ (Nat.zero_le _) (len _ pz))
    simp only [bne_self_eq_false,Bool.false_eq_true,if_false]
    refine wpAny_pure (tail (SortSt.mk' (tuples' true) (vs.toArray.zip vs.toArray) #[] 7 none) rfl pz ?_ _)
    show (vs.toArray.zip vs.toArray).toList.Pairwise _
    rw [zl]
    rw [List.size_toArray] at h2
    have:(vs.zip vs).length<2:=by rw [List.length_zip];omega
    exact atv this
  · rw [if_neg h2,if_neg h2]
    rw [List.size_toArray] at h2
    refine wpAny_bind (aye (s:={ s with heap:=hp3 }) hk3 (by omega) ?_)
    refine wpAny_bind (wpAny_mono (au9 (E:=E) (ath (s:={ s with heap:=hp3 }) (B:=B)) (st:=SortSt.mk' (tuples' true) (vs.toArray.zip vs.toArray) #[] 7 none)
      (Q:=fun _ st'=>failedOf st'=none∧(arrOf st').toList.Perm (vs.zip vs)∧((arrOf st').toList.Pairwise fun x y=>num hp3 B x≤num hp3 B y)) (by show (vs.toArray.zip vs.toArray).size<64;simp;omega) rfl rfl rfl (fun x hx=>?_) ?_ fun st' b1 b2 b3=>⟨b1,?_,b3⟩) ?_ fun _ _ e=>e)
    · have hx:x∈(vs.toArray.zip vs.toArray).toList:=hx
      rw [zl] at hx
      exact TupP.pair (hk3 _ (aav hx).1)
    · show ((vs.toArray.zip vs.toArray).toList.map _).Nodup
      rw [zl];exact inj3
    · have b2:(arrOf st').toList.Perm (vs.toArray.zip vs.toArray).toList:=b2
      rw [zl] at b2;exact b2
    · rintro ⟨⟨⟩,st'⟩ s' ⟨rfl,b1,b2,b3⟩
      dsimp only
      refine wpAny_bind (seqEpoch_at ha3 rfl ?_)
      refine wpAny_bind (listUpdate_at ha3 rfl ?_ (Nat.zero_le _) (len _ b2))
      rw [b1]
      simp only [bne_self_eq_false,Bool.false_eq_true,if_false]
      exact wpAny_pure (tail st' b1 b2 b3 _)
theorem w_sorted {l:Addr} {vs:List Value} {B:Int} {Q:Value→Shared→Prop} (hl:s.heap.IsList l vs.toArray) (hz:vs.length≤63) (hk:∀ v∈vs,TupP s.heap B v) (inj:((vs.zip vs).map (num s.heap B)).Nodup)
    (h:∀ h' tk (xs:List Keyed) D c,s.heap.objs.size≤D→(∀ b o,s.heap.get? b=some o→h'.get? b=some o)→h'.get? D=some (seqObj "list" (List.toArray (xs.map (·.2))) c)→xs.Perm (vs.zip vs)→(xs.Pairwise fun x y=>num s.heap B x≤num s.heap B y)→Q (.ref D) { s with heap:=h',toks:=tk }):
    wpAny (model prog w) A (call (.builtin "sorted") [.ref l]) Q E s:=by
  have big:(63:Nat)+1≤sizeLine:=by rw [sizeLine_eq];omega
  refine Calls.call_function_entry kind_sorted plain_sorted entry_sorted (args_sorted1 _) ?_
  unfold Builtin.«sorted»
  refine wpAny_bind (m:=checkCount "sorted" 1 1 _) (wpAny_pure ?_)
  refine wpAny_bind (collect_list hl ?_ (by omega))
  refine wpAny_bind (wpAny_newList ?_ (by omega))
  obtain ⟨g,eg⟩:∃ g,g=(s.heap.push (seqObj "list" #[] 0)).update s.heap.objs.size (Obj.mapSeq (· ++ vs.toArray)):=⟨_,rfl⟩
  have gs:g.objs.size=s.heap.objs.size+1:=by rw [eg,Heap.size_update,size_push']
  have gk:∀ b o,s.heap.get? b=some o→g.get? b=some o:=fun b o q=>by
    have hlt:b<s.heap.objs.size:=Heap.lt_size q
    rw [eg,Heap.get?_update_ne _ _ _ _ (Nat.ne_of_lt hlt)]
    exact Heap.get?_push_of_some _ q
  show wpAny _ _ _ _ _ { s with heap:=((s.heap.push (seqObj "list" #[] 0)).update s.heap.objs.size (Obj.mapSeq (· ++ vs.toArray))).push (seqObj "list" vs.toArray 0) }
  rw [← eg]
  have hoD:(g.push (seqObj "list" vs.toArray 0)).get? g.objs.size=some (seqObj "list" vs.toArray 0):=Heap.get?_push_size _ rfl
  have keep:∀ b o,s.heap.get? b=some o→(g.push (seqObj "list" vs.toArray 0)).get? b=some o:=fun b o q=>Heap.get?_push_of_some _ (gk b o q)
  have kT:∀ v∈vs,TupP (g.push (seqObj "list" vs.toArray 0)) B v:=fun v hv=>by
    obtain ⟨a,o,m,r,p,t,u,e1,e2,r'⟩:=hk v hv
    exact ⟨a,o,m,r,p,t,u,e1,keep _ _ e2,r'⟩
  have nk:∀ x∈vs.zip vs,num (g.push (seqObj "list" vs.toArray 0)) B x=num s.heap B x:=fun x hx=>by
    obtain ⟨a,o,m,r,p,t,u,e1,e2,e3,e4,_⟩:=hk _ (aav hx).1
    rw [num_of e1 e2 e4,num_of e1 (keep _ _ e2) e4]
  refine wpAny_bind (wpAny_holding (wpAny_call_entry slot_list_sort ⟨_,hoD,rfl⟩ entry_list_sort ?body (args_list_sort _)))
  case body=>
    refine aw8 (s:={ s with heap:=g.push (seqObj "list" vs.toArray 0) }) hoD hz kT (by rw [List.map_congr_left nk];exact inj) fun h' tk xs c k1 hD pm pw=>?_
    refine ⟨_,rfl,wpAny_pure ⟨_,rfl,h h' tk xs g.objs.size c (by rw [gs];exact Nat.le_succ _) (fun b o q=>k1 b o ?_ (keep b o q)) hD pm ?_⟩⟩
    · have hlt:b<s.heap.objs.size:=Heap.lt_size q
      intro z
      rw [z,gs] at hlt
      exact Nat.not_succ_lt_self hlt
    · refine List.Pairwise.imp_of_mem (fun {x y} hx hy z=>?_) pw
      rw [nk x (pm.mem_iff.mp hx),nk y (pm.mem_iff.mp hy)] at z
      exact z
end
end TS
namespace L2
open PySem PySem.Spec PyProof.Rows
theorem aii {α β:Type} (f:α→β):∀ {l m:List β},l.Perm m→∀ {T:List α},T.map f=m→∃ T':List α,T'.Perm T∧T'.map f=l:=by
  intro l m p
  induction p with
  | nil=>intro T e;exact ⟨T,List.Perm.refl _,e⟩
  | cons x _ ih=>
    intro T e
    cases T with
    | nil=>cases e
    | cons t r=>
      rw [List.map_cons] at e
      obtain ⟨e1,e2⟩:=List.cons.inj e
      obtain ⟨T',p',e'⟩:=ih e2
      exact ⟨t::T',p'.cons t,by rw [List.map_cons,e',e1]⟩
  | swap x y l=>
    intro T e
    match T,e with
    | t::u::r,e=>
      rw [List.map_cons,List.map_cons] at e
      obtain ⟨e1,e2⟩:=List.cons.inj e
      obtain ⟨e3,e4⟩:=List.cons.inj e2
      exact ⟨u::t::r,List.Perm.swap t u r,by rw [List.map_cons,List.map_cons,e1,e3,e4]⟩
  | trans _ _ ih1 ih2=>
    intro T e
    obtain ⟨T1,p1,e1⟩:=ih2 e
    obtain ⟨T2,p2,e2⟩:=ih1 e1
    exact ⟨T2,p2.trans p1,e2⟩
theorem acx {α β γ:Type} {R:β→γ→Prop} {g:α→β} {h:α→γ}:∀ {T:List α},(∀ t∈T,R (g t) (h t))→Paired R (T.map g) (T.map h)
  | [],_=>.nil
  | t::_,k=>.cons (k t (List.mem_cons_self ..)) (acx fun u hu=>k u (List.mem_cons_of_mem _ hu))
theorem ady {α β γ:Type} {R:α→β→Prop} {S:α→γ→Prop}:∀ {xs:List α} {ys:List β} {zs:List γ},Paired R xs ys→Paired S xs zs→∃ T:List (α×β×γ),T.map (·.1)=xs∧T.map (fun t=>t.2.1)=ys∧T.map (fun t=>t.2.2)=zs∧∀ t∈T,R t.1 t.2.1∧S t.1 t.2.2
  | _,_,_,.nil,.nil=>⟨[],rfl,rfl,rfl,fun t ht=>by cases ht⟩
  | _,_,_,.cons (a:=x) (b:=y) r p,.cons (b:=z) q p'=>by
    obtain ⟨T,e1,e2,e3,k⟩:=ady p p'
    refine ⟨(x,y,z)::T,by rw [List.map_cons,e1],by rw [List.map_cons,e2],by rw [List.map_cons,e3],fun t ht=>?_⟩
    rcases List.mem_cons.mp ht with rfl | ht
    · exact ⟨r,q⟩
    · exact k t ht
theorem ahu {α β:Type} {f:α→β}:∀ {l:List α},(∀ x∈l,∀ y∈l,f x=f y→x=y)→l.Nodup→(l.map f).Nodup
  | [],_,_=>List.nodup_nil
  | a::r,h,n=>by
    obtain ⟨n1,n2⟩:=List.nodup_cons.mp n
    rw [List.map_cons]
    refine List.nodup_cons.mpr ⟨fun z=>?_,ahu (fun x hx y hy=>h x (List.mem_cons_of_mem _ hx) y (List.mem_cons_of_mem _ hy)) n2⟩
    obtain ⟨y,hy,e⟩:=List.mem_map.mp z
    have:=h y (List.mem_cons_of_mem _ hy) a (List.mem_cons_self ..) e
    exact n1 (this▸hy)
def amz (p q:Int×Int):Prop:=p.1<q.1∨(p.1=q.1∧p.2≤q.2)
abbrev apb (K:PySem.W.Frag) (H:Hp) (v:V) (p:Int×Int):Prop:=∃ a,v=.ref a∧SqT K H a [.int p.1,.int p.2]
theorem ani {B:Int} {p q:Int×Int} (hp:0≤p.2∧p.2<B) (hq:0≤q.2∧q.2<B) (h:p.1*B+p.2≤q.1*B+q.2):amz p q:=by
  unfold amz
  by_cases c:p.1<q.1
  · exact .inl c
  · right
    by_cases d:q.1<p.1
    · have h5:(q.1+1)*B≤p.1*B:=Int.mul_le_mul_of_nonneg_right (by omega) (by omega)
      rw [Int.add_mul,Int.one_mul] at h5
      omega
    · have e:p.1=q.1:=by omega
      rw [e] at h
      exact ⟨e,by omega⟩
theorem axd {B:Int} {p q:Int×Int} (hp:0≤p.2∧p.2<B) (hq:0≤q.2∧q.2<B) (h:p.1*B+p.2=q.1*B+q.2):p=q:=by
  have h1:=ani hp hq (by omega)
  have h2:=ani hq hp (by omega)
  unfold amz at h1 h2
  have e1:p.1=q.1:=by omega
  have e2:p.2=q.2:=by omega
  exact Prod.ext e1 e2
section
variable {X:Cx}
def a03 (X:Cx):List V→Hp→VK→Prop:=fun xs H Q=>∃ l ys ps,xs=[.ref l]∧SqL X.K H l ys∧Paired (apb X.K H) ys ps∧(∀ p∈ps,0≤p.2∧p.2<1000000)∧ps.Nodup∧ys.length≤63∧
  ∀ D zs qs,H D=none→Paired (apb X.K H) zs qs→qs.Perm ps→qs.Pairwise amz→Q (.ref D) (upd H D (.lst zs))
theorem an6:CallR X (.builtin "sorted") (a03 X):=by
  intro pins s σ H xs us Q I r h
  obtain ⟨l,ys,ps,rfl,hl,pr,hb,hnd,hlen,q⟩:=h
  obtain ⟨u,rfl,ru⟩:=r.one
  cases (show u=Value.ref l from ru)
  obtain ⟨its,rv,pl,hz⟩:=I.list hl
  have l1:ys.length=its.length:=rv.length
  obtain ⟨T,e1,e2,e3,kT⟩:=ady rv pr
  have kT2:∀ t∈T,(∃ a o n t1 t2,t.2.1=Value.ref a∧s.heap.get? a=some o∧o.cls=.type "tuple" ∧ o.data=.seq #[.int t.2.2.1 t1,.int t.2.2.2 t2] n)∧0≤t.2.2.2∧t.2.2.2<1000000:=fun t ht=>by
    obtain ⟨r1,a,ea,hs⟩:=kT t ht
    obtain ⟨its2,rv2,⟨o,g1,g2,n,g3⟩,_⟩:=I.tuple hs
    obtain ⟨w1,w2,rfl,x1,x2⟩:=rv2.two
    obtain ⟨t1,rfl⟩:=(show ∃ t1,w1=Value.int t.2.2.1 t1 from x1)
    obtain ⟨t2,rfl⟩:=(show ∃ t2,w2=Value.int t.2.2.2 t2 from x2)
    rw [ea] at r1
    refine ⟨⟨a,o,n,t1,t2,r1,g1,g2,g3⟩,?_⟩
    exact hb _ (by rw [← e3];exact List.mem_map_of_mem (f:=fun t:V×Value×(Int×Int)=>t.2.2) ht)
  have nT:∀ t∈T,TS.num s.heap 1000000 (t.2.1,t.2.1)=t.2.2.1*1000000+t.2.2.2:=fun t ht=>by
    obtain ⟨⟨a,o,n,t1,t2,g0,g1,g2,g3⟩,_⟩:=kT2 t ht
    exact TS.num_of g0 g1 g3
  have ez:its.zip its=T.map fun t=>(t.2.1,t.2.1):=by
    rw [← e2,List.zip_map']
  have inj:((its.zip its).map (TS.num s.heap 1000000)).Nodup:=by
    rw [ez,List.map_map]
    have e4:T.map (TS.num s.heap 1000000∘fun t=>(t.2.1,t.2.1))=(T.map fun t=>t.2.2).map fun p:Int×Int=>p.1*1000000+p.2:=by
      rw [List.map_map]
      exact List.map_congr_left fun t ht=>nT t ht
    rw [e4,e3]
    exact ahu (fun x hx y hy e=>axd (hb x hx) (hb y hy) e) hnd
  refine j9 I.tk (TS.w_sorted (B:=1000000) pl.isList (by rw [← l1];exact hlen) (fun v hv=>?_) inj fun h' tk ks D c hD hk hg pm pw ht=>?_)
  · rw [← e2] at hv
    obtain ⟨t,ht,rfl⟩:=List.mem_map.mp hv
    obtain ⟨⟨a,o,n,t1,t2,g0,g1,g2,g3⟩,b1,b2⟩:=kT2 t ht
    exact ⟨a,o,n,_,_,t1,t2,g0,g1,g2,g3,b1,b2⟩
  · rw [ez] at pm
    obtain ⟨T',pT,eT⟩:=aii _ pm rfl
    subst eT
    have mT:∀ t,t∈T'→t∈T:=fun t=>pT.mem_iff.mp
    have pw':=List.pairwise_map.mp pw
    refine ⟨.ref D,_,I.laid (t':=tk) (o:=.lst (T'.map (·.1))) hk hD ?_,rfl,q D (T'.map (·.1)) (T'.map fun t=>t.2.2) (I.hok.fresh hD) (acx fun t ht=>(kT t (mT t ht)).2) ?_ ?_⟩
    · refine ⟨?_,T'.map (fun t=>t.2.1),c,acx fun t ht=>(kT t (mT t ht)).1,?_⟩
      · rw [List.length_map,pT.length_eq]
        have:T.length=ys.length:=by rw [← e1,List.length_map]
        rw [this];exact hz
      · rw [hg,List.map_map];rfl
    · rw [← e3];exact pT.map _
    · refine List.pairwise_map.mpr (List.Pairwise.imp_of_mem (fun {x y} hx hy z=>?_) pw')
      rw [nT x (mT x hx),nT y (mT y hy)] at z
      exact ani (kT2 x (mT x hx)).2 (kT2 y (mT y hy)).2 z
end
end L2
namespace L3
open PySem L2
def prY (p:Int×Int):Y:=.tup [.int p.1,.int p.2]
theorem amh {G:G3} {H:Hp}:∀ {ps:List (Int×Int)} {xs:List V},RVs G H (ps.map prY) xs→Paired (apb G.K H) xs ps
  | [],_,h=>by cases (show _=[] from h);exact .nil
  | p::r,_,⟨x,xs',e,⟨a,zs,ea,hs,z1,zs1,e1,rz1,z2,zs2,e2,rz2,e3⟩,s⟩=>by
    subst e ea e1 e2 e3
    cases (show z1=V.int p.1 from rz1)
    cases (show z2=V.int p.2 from rz2)
    exact .cons ⟨a,rfl,hs⟩ (amh s)
theorem amj {G:G3} {H:Hp}:∀ {ps:List (Int×Int)} {xs:List V},Paired (apb G.K H) xs ps→RVs G H (ps.map prY) xs
  | _,_,.nil=>rfl
  | _,_,.cons ⟨a,ea,hs⟩ t=>by
    subst ea
    exact ⟨_,_,rfl,⟨a,_,rfl,hs,_,_,rfl,rfl,_,_,rfl,rfl,rfl⟩,amj t⟩
def aoe (xs:List Y) (L:LHp) (Q:YK):Prop:=match xs with
  | [.ref a]=>adb L a fun ys=>∃ ps:List (Int×Int),ys=ps.map prY∧(∀ p∈ps,0≤p.2∧p.2<1000000)∧ps.Nodup∧ps.length≤63∧∀ (D:Addr) (qs:List (Int×Int)),L D=none→qs.Perm ps→qs.Pairwise amz→Q (.ref D) (qe L D (.lst (qs.map prY)))
  | _=>False
theorem apr:bootBuiltins "sorted" = some (.builtin "sorted"):=by decide +kernel
theorem awz {X:Cx}:CallR X (.builtin "sorted") (upL X.g3 aoe):=CallR.imp an6 fun xs H Q ⟨ys,L,Q3,rv,rl,z,k⟩=>by
  unfold aoe at z
  split at z
  · rename_i a
    obtain ⟨zs,e,ps,rfl,hb,hnd,hlen,z⟩:=xr z
    obtain ⟨vs,e2,r⟩:=rl a _ e
    obtain ⟨u,rfl,ru⟩:=rv.inv1
    cases (show u=V.ref a from ru)
    have pr:=amh r
    exact ⟨a,vs,ps,rfl,SqL.of e2,pr,hb,hnd,by rw [← r.length,List.length_map];exact hlen,fun D zs qs hD pz pm pw=>k _ _ _ _ (TSt.new hD) (rl.newL hD (amj pz)) (by rfl) (z D qs (rl.none hD) pm pw)⟩
  · exact z.elim
end L3
namespace L3
open PySem L2 Words
local macro_rules | `(tactic| walk_at "w")=>`(tactic| conv=>whnf)
def z8:Wd→Y
  | .leaf t n=>.tup [.str (kL t),.str n]
  | .node e l r=>.tup [.str (kN e),z8 l,z8 r]
def ach:Y:=(.tup [(.str "plain"),(.str "turned")])
def ab5:Y:=(.cd [("plain", "turned"),("turned", "plain"),("both", "either"),("either", "both")])
theorem qo {α:Type} {L:LHp} {Q:α→LHp→Prop} {o:Option α} {v:α} (e:o=some v) (h:Q v L):atK L Q o:=by rw [e];exact h
def aj3:TS3:=(zu (yOp (au7 false) (yOp yIx (qb 0) (yC (.int 0))) (yC ach)))
def kX:Bool→Bool→Str
  | true,t=>kL t
  | false,e=>kN e
def jf:Sp3:=fun ys L Q=>∃ lf b rest,ys=[.tup (.str (kX lf b)::rest)]∧Q (.bl lf) L
theorem apo (t:Bool):inV (.str (kL t)) [.str "plain",.str "turned"]=true:=by cases t<;>decide +kernel
theorem apj (t:Bool):inV (.str (kN t)) [.str "plain",.str "turned"]=false:=by cases t<;>decide +kernel
theorem ao2:∀ ys L Q,jf ys L Q→x9 aj3 1 ys L Q:=by
  rintro ys L Q ⟨lf,b,rest,rfl,q⟩
  have e0:atI (Y.str (kX lf b)::rest) 0=some (Y.str (kX lf b)):=xu (xs:=Y.str (kX lf b)::rest) (j:=0) rfl
  walk_at "w"
  rw [e0]
  refine ⟨rfl,rfl,fin ?_⟩
  cases lf with
  | true=>
    rw [show nb false (inV (toV (.str (kX true b))) ([Y.str "plain",.str "turned"].map toV))=true from apo b]
    exact q
  | false=>
    rw [show nb false (inV (toV (.str (kX false b))) ([Y.str "plain",.str "turned"].map toV))=false from apj b]
    exact q
def al8 (p_is_leaf p_turned:Sp3):TS3:=(qr (zc (yOp yIx (yC ab5) (yOp yIx (qb 0) (yC (.int 0)))) (qf 1))
  (qr (ku (yB (qw p_is_leaf (qa (qb 0) qj))) (zu (aah (qa (qb 1) (qa (yOp yIx (qb 0) (yC (.int 1))) qj)))) xj)
  (zu (aah (qa (qb 1) (qa (qw p_turned (qa (yOp yIx (qb 0) (yC (.int 1))) qj)) (qa (qw p_turned (qa (yOp yIx (qb 0) (yC (.int 2))) qj)) qj)))))))
def vg (n:Nat):Sp3:=fun ys L Q=>∃ wd,ys=[z8 wd]∧wd.depth≤n∧Q (z8 wd.turn) L
theorem aqt (t:Bool):List.lookup (kL t) [(("plain" : Str),("turned" : Str)),("turned", "plain"),("both", "either"),("either", "both")]=some (kL (!t)):=by cases t<;>decide +kernel
theorem aqi (t:Bool):List.lookup (kN t) [(("plain" : Str),("turned" : Str)),("turned", "plain"),("both", "either"),("either", "both")]=some (kN (!t)):=by cases t<;>decide +kernel
theorem aqr (n:Nat):∀ ys L Q,vg (n+1) ys L Q→x9 (al8 jf (vg n)) 2 ys L Q:=by
  rintro ys L Q ⟨wd,rfl,hd,q⟩
  cases wd with
  | leaf t nm=>
    exact qo (aqt t) ⟨true,t,_,rfl,fin q⟩
  | node e l r=>
    have hd':max l.depth r.depth+1≤n+1:=hd
    refine qo (aqi e) ⟨false,e,_,rfl,l,rfl,by omega,r,rfl,by omega,?_⟩
    exact fin q
def af7 (p_is_leaf p_leaves_of:Sp3):TS3:=(qr (ku (yB (qw p_is_leaf (qa (qb 0) qj))) (zu (wf (qa (qb 0) qj))) xj)
  (zu (yOp wn (qw p_leaves_of (qa (yOp yIx (qb 0) (yC (.int 1))) qj)) (qw p_leaves_of (qa (yOp yIx (qb 0) (yC (.int 2))) qj)))))
def xb (n:Nat):Sp3:=fun ys L Q=>∃ wd,ys=[z8 wd]∧wd.depth≤n∧wd.leaves≤63∧∀ p,L p=none→Q (.ref p) (qe L p (.lst (wd.leafL.map z8)))
theorem awc {L:LHp} {p q r:Addr} {o u v:LO} (hp:L p=none) (hq:qe L p o q=none) (hr:qe (qe L p o) q u r=none):LSub (qe L r v) (qe (qe (qe L p o) q u) r v):=fun a z e=>by
  by_cases c:a=r
  · subst c;rw [q8] at e ⊢;exact e
  · rw [qd c] at e ⊢
    exact ((LSub.new hp).trans (LSub.new hq)) a z e
theorem jd {L L':LHp} (s:LSub L L') {p:Addr} (h:L' p=none):L p=none:=by
  cases e:L p with
  | none=>rfl
  | some o=>rw [s _ _ e] at h;cases h
theorem aki (n:Nat):∀ ys L Q,xb (n+1) ys L Q→x9 (af7 jf (xb n)) 1 ys L Q:=by
  rintro ys L Q ⟨wd,rfl,hd,h63,q⟩
  cases wd with
  | leaf t n=>exact ⟨true,t,_,rfl,fun p hp=>fin (q p hp)⟩
  | node e l r=>
    have hd':max l.depth r.depth+1≤n+1:=hd
    have h63':l.leaves+r.leaves≤63:=h63
    refine ⟨false,e,_,rfl,l,rfl,by omega,by omega,fun p1 h1=>⟨r,rfl,by omega,by omega,fun p2 h2=>?_⟩⟩
    have n1:p1≠p2:=neL q8 h2
    refine ⟨_,_,(qd n1).trans q8,q8,afh ?_,fun p3 h3=>?_⟩
    · rw [List.length_map,List.length_map,Wd.leafL_len,Wd.leafL_len];omega
    · refine ade (awc h1 h2 h3) ?_
      have:=q p3 (jd (LSub.new h1) (jd (LSub.new h2) h3))
      rw [show (Wd.node e l r).leafL=l.leafL++r.leafL from rfl,List.map_append] at this
      exact this
theorem DatN.str {L:LHp} {n:Nat} (x:Str):DatN L n (.str x) (.s (.str x)):=by
  cases n with
  | zero=>exact ⟨rfl,rfl⟩
  | succ n=>exact .inl ⟨rfl,rfl⟩
theorem wg {L:LHp}:∀ {wd:Wd} {n:Nat},wd.depth≤n→DatN L n (z8 wd) (enc wd)
  | .leaf t nm,n+1,_=>.inr (.inl ⟨_,_,rfl,rfl,.cons (DatN.str _) (.cons (DatN.str _) .nil)⟩)
  | .node e l r,n+1,h=>by
    have h':max l.depth r.depth+1≤n+1:=h
    exact .inr (.inl ⟨_,_,rfl,rfl,.cons (DatN.str _) (.cons (wg (by omega)) (.cons (wg (by omega)) .nil))⟩)
theorem aj1 {L:LHp} {n:Nat}:∀ {ws:List Wd},(∀ w∈ws,w.depth≤n)→Paired (DatN L n) (ws.map z8) (ws.map enc)
  | [],_=>.nil
  | w::r,h=>.cons (wg (h w (by simp))) (aj1 fun x hx=>h x (by simp [hx]))
theorem alx {L:LHp} {n:Nat} {ys:List Y} {ds:List Da} (p:Paired (DatN L n) ys ds):DatN L (n+1) (.tup ys) (.tup ds):=.inr (.inl ⟨ys,ds,rfl,rfl,p⟩)
theorem apt:∀ ys L Q,¬ vg 0 ys L Q:=fun ys L Q ⟨wd,_,hd,_⟩=>by cases wd<;>simp [Wd.depth] at hd
theorem ak4:∀ ys L Q,¬ xb 0 ys L Q:=fun ys L Q ⟨wd,_,hd,_⟩=>by cases wd<;>simp [Wd.depth] at hd
end L3
namespace L3
open PySem L2 Words
local macro_rules | `(tactic| walk_at "w")=>`(tactic| conv=>whnf)
def acm (K:PySem.W.Frag):TS3:=(axr K "heads" (qb 0) (alp (qb 1)))
def aae (K:PySem.W.Frag):TS3:=(qr (zc (qb 1) (qf 2))
  (qr (ak1 (yB (yOp (yEq true) (yOp yIx (an5 K "heads" (qb 0)) (qb 2)) (qb 2))) (qr (aud (an5 K "heads" (qb 0)) (qb 2) (yOp yIx (an5 K "heads" (qb 0)) (yOp yIx (an5 K "heads" (qb 0)) (qb 2))))
  (zc (yOp yIx (an5 K "heads" (qb 0)) (qb 2)) (qf 2))))
  (zu (qb 2))))
def abk (K:PySem.W.Frag) (C_Pieces:Addr) (p_Pieces_head_of:Sp3):TS3:=(qr (zc (af1 C_Pieces "head_of" p_Pieces_head_of (qb 0) (qa (qb 1) qj)) (qf 3))
  (qr (zc (af1 C_Pieces "head_of" p_Pieces_head_of (qb 0) (qa (qb 2) qj)) (qf 4))
  (qr (aud (an5 K "heads" (qb 0)) (qb 3) (qb 4))
  (zu (yOp (yEq true) (qb 3) (qb 4))))))
structure XFP (K:PySem.W.Frag) (C:Addr):Prop where
  cl:Cls K C
  na:NoAttr K C "heads"
def nY (hs:List Nat):List Y:=hs.map fun n:Nat=>.int (n:Int)
def fsP (hp:Addr):List (Str×Y):=[("heads",.ref hp)]
theorem aa4 {hp:Addr}:(fsP hp).lookup ("heads" : Str)=some (.ref hp):=by unfold fsP;rw [List.lookup_cons,show ((("heads" : Str)==("heads" : Str)))=true by decide +kernel]
theorem ac3 {hp:Addr}:(fsP hp).lookup ("head_of" : Str)=none:=by unfold fsP;rw [List.lookup_cons,show ((("head_of" : Str)==("heads" : Str)))=false by decide +kernel];rfl
theorem ah7 {hp:Addr}:(fsP hp).lookup ("unite" : Str)=none:=by unfold fsP;rw [List.lookup_cons,show ((("unite" : Str)==("heads" : Str)))=false by decide +kernel];rfl
theorem awp (n:Nat):wc 0 n=nY (List.range n):=by unfold wc nY;exact List.map_congr_left fun k _=>by rw [Int.zero_add]
theorem vz (hs:List Nat):(nY hs).length=hs.length:=by unfold nY;rw [List.length_map]
theorem ap0 {hs:List Nat} {i h:Nat} (e:hs[i]?=some h):atI (nY hs) (i:Int)=some (.int (h:Int)):=xu (by unfold nY;rw [List.getElem?_map,e];rfl)
theorem as6 (hs:List Nat) (i g:Nat):(nY hs).set i (.int (g:Int))=nY (hs.set i g):=by unfold nY;rw [List.map_set]
theorem aoj {n j:Nat} (h:j<n):ixN n (j:Int)=some j:=by
  unfold ixN
  rw [if_pos (by omega),if_pos (by omega)];rfl
theorem xo {L:LHp} {a p:Addr} {o:LO} (h:qe L a o p=none):L p=none:=by
  by_cases c:p=a
  · subst c;rw [q8] at h;cases h
  · rw [qd c] at h;exact h
theorem aai {L:LHp} {a:Addr} {o:LO} (h:L a=some o):qe L a o=L:=by
  funext b;unfold qe
  split
  · rename_i e;rw [e,h]
  · rfl
def Rkd (rk:Nat→Nat) (hs:List Nat):Prop:=∀ i h,hs[i]?=some h→h<hs.length∧(h≠i→rk h<rk i)
inductive Rep (hs:List Nat):Nat→Nat→Prop
  | root {r:Nat}:hs[r]?=some r→Rep hs r r
  | step {i h r:Nat}:hs[i]?=some h→h≠i→Rep hs h r→Rep hs i r
theorem Rep.top {hs:List Nat} {i r:Nat} (h:Rep hs i r):hs[r]?=some r:=by
  induction h with
  | root e=>exact e
  | step _ _ _ ih=>exact ih
theorem Rep.uniq {hs:List Nat} {i r s:Nat} (h:Rep hs i r) (k:Rep hs i s):r=s:=by
  induction h generalizing s with
  | root e=>
    cases k with
    | root _=>rfl
    | step e' ne _=>rw [e] at e';exact absurd (Option.some.inj e').symm ne
  | step e ne t ih=>
    cases k with
    | root e'=>rw [e] at e';exact absurd (Option.some.inj e') ne
    | step e' _ t'=>rw [e] at e';cases e';exact ih t'
theorem Rep.of_top {hs:List Nat} {i r:Nat} (h:Rep hs i r) (e:hs[i]?=some i):r=i:=h.uniq (.root e)
theorem Rkd.rep {rk:Nat→Nat} {hs:List Nat} (hr:Rkd rk hs):∀ (n i:Nat),rk i<n→i<hs.length→∃ r,Rep hs i r
  | 0,_,h,_=>absurd h (Nat.not_lt_zero _)
  | n+1,i,h,hi=>by
    have e:hs[i]?=some hs[i]:=List.getElem?_eq_getElem hi
    by_cases c:hs[i]=i
    · exact ⟨i,.root (by rw [e,c])⟩
    · obtain ⟨h1,h2⟩:=hr i _ e
      obtain ⟨r,t⟩:=Rkd.rep hr n hs[i] (by have:=h2 c;omega) h1
      exact ⟨r,.step e c t⟩
theorem Rkd.rep' {rk:Nat→Nat} {hs:List Nat} (hr:Rkd rk hs) {i:Nat} (hi:i<hs.length):∃ r,Rep hs i r:=hr.rep (rk i+1) i (Nat.lt_succ_self _) hi
theorem qt {α:Type} {l:List α} {i:Nat} {x:α} (h:l[i]?=some x):i<l.length:=(List.getElem?_eq_some_iff.mp h).1
theorem x6 {α:Type} {l:List α} {i:Nat} {x:α} (h:i<l.length):(l.set i x)[i]?=some x:=by rw [List.getElem?_set];simp [h]
theorem ji {α:Type} {l:List α} {i j:Nat} {x:α} (h:i≠j):(l.set i x)[j]?=l[j]?:=by rw [List.getElem?_set,if_neg h]
theorem Rkd.halve {rk:Nat→Nat} {hs:List Nat} (hr:Rkd rk hs) {i h g:Nat} (ei:hs[i]?=some h) (ne:h≠i) (eh:hs[h]?=some g):Rkd rk (hs.set i g)∧rk g<rk i:=by
  have hg:rk g<rk i:=by
    have h1:=(hr i h ei).2 ne
    by_cases c:g=h
    · rw [c];exact h1
    · have:=(hr h g eh).2 c;omega
  refine ⟨fun j x e=>?_,hg⟩
  rw [List.length_set]
  by_cases c:i=j
  · subst c
    rw [x6 (qt ei)] at e;cases e
    exact ⟨(hr h _ eh).1,fun _=>hg⟩
  · rw [ji c] at e
    exact hr j x e
theorem ae7 {rk:Nat→Nat} {hs:List Nat} (hr:Rkd rk hs) {i h g:Nat} (ei:hs[i]?=some h) (ne:h≠i) (eh:hs[h]?=some g):∀ (n j r:Nat),rk j<n→Rep hs j r→Rep (hs.set i g) j r
  | 0,_,_,h,_=>absurd h (Nat.not_lt_zero _)
  | n+1,j,r,hn,t=>by
    have ih:=ae7 hr ei ne eh n
    have hg:=(hr.halve ei ne eh).2
    cases t with
    | root e=>
      have c:i≠j:=fun c=>by subst c;rw [ei] at e;exact ne (Option.some.inj e)
      exact .root (by rw [ji c];exact e)
    | step e ne' t=>
      rename_i h'
      have lt:=(hr j h' e).2 ne'
      by_cases c:i=j
      · subst c
        rw [ei] at e;cases e
        by_cases d:g=h
        · subst d
          exact .step (x6 (qt ei)) ne' (ih _ r (by omega) t)
        · cases t with
          | root e2=>rw [eh] at e2;exact absurd (Option.some.inj e2) d
          | step e2 ne2 t2=>
            rw [eh] at e2;cases e2
            refine .step (x6 (qt ei)) (fun z=>?_) (ih _ r (by omega) t2)
            rw [z] at hg;exact Nat.lt_irrefl _ hg
      · exact .step (by rw [ji c];exact e) ne' (ih _ r (by omega) t)
def rts (hs:List Nat):Nat:=(List.range hs.length).countP fun i=>decide (hs[i]?=some i)
theorem apc {rk:Nat→Nat} {hs:List Nat} (hr:Rkd rk hs) {i h g:Nat} (ei:hs[i]?=some h) (ne:h≠i) (eh:hs[h]?=some g):rts (hs.set i g)=rts hs:=by
  unfold rts
  rw [List.length_set]
  refine List.countP_congr fun j hj=>?_
  have hg:=(hr.halve ei ne eh).2
  by_cases c:i=j
  · subst c
    rw [x6 (qt ei),ei]
    have d:g≠i:=fun z=>by rw [z] at hg;exact Nat.lt_irrefl _ hg
    simp [d,ne]
  · rw [ji c]
theorem aas {p:Nat→Bool} {a:Nat} (ha:p a=true):∀ {l:List Nat},l.Nodup→a∈l→l.countP (fun j=>p j&&!decide (j=a))+1=l.countP p
  | [],_,h=>by cases h
  | x::r,hn,h=>by
    obtain ⟨n1,n2⟩:=List.nodup_cons.mp hn
    rw [List.countP_cons,List.countP_cons]
    by_cases c:x=a
    · subst c
      have e:r.countP (fun j=>p j&&!decide (j=x))=r.countP p:=by
        refine List.countP_congr fun j hj=>?_
        have:j≠x:=fun z=>n1 (z▸hj)
        simp [this]
      rw [e]
      simp [ha]
    · have hm:a∈r:=by
        rcases List.mem_cons.mp h with z | z
        · exact absurd z.symm c
        · exact z
      have ih:=aas ha n2 hm
      simp only [decide_eq_false c,Bool.not_false,Bool.and_true]
      omega
theorem Rkd.join {rk:Nat→Nat} {hs:List Nat} (hr:Rkd rk hs) {a b:Nat} (ea:hs[a]?=some a) (eb:hs[b]?=some b):∃ rk',Rkd rk' (hs.set a b):=by
  by_cases c:a=b
  · subst c
    refine ⟨rk,fun i h e=>?_⟩
    rw [List.length_set]
    by_cases d:a=i
    · subst d;rw [x6 (qt ea)] at e;cases e;exact hr _ _ ea
    · rw [ji d] at e;exact hr i h e
  · refine ⟨fun x=>if x=b then 0 else rk x+1,fun i h e=>?_⟩
    rw [List.length_set]
    by_cases d:a=i
    · subst d
      rw [x6 (qt ea)] at e;cases e
      refine ⟨qt eb,fun _=>?_⟩
      show (if b=b then 0 else rk b+1)<if a=b then 0 else rk a+1
      rw [if_pos rfl,if_neg c];omega
    · rw [ji d] at e
      refine ⟨(hr i h e).1,fun ne=>?_⟩
      have nb:i≠b:=fun z=>by subst z;rw [eb] at e;exact ne (Option.some.inj e).symm
      show (if h=b then 0 else rk h+1)<if i=b then 0 else rk i+1
      rw [if_neg nb]
      have:=(hr i h e).2 ne
      split<;>omega
theorem au6 {hs:List Nat} {a b:Nat} (ea:hs[a]?=some a) (eb:hs[b]?=some b) {i r:Nat} (t:Rep hs i r):Rep (hs.set a b) i (if r=a then b else r):=by
  induction t with
  | root e=>
    rename_i r
    by_cases c:r=a
    · subst c
      rw [if_pos rfl]
      by_cases d:r=b
      · subst d;exact .root (x6 (qt ea))
      · exact .step (x6 (qt ea)) (fun z=>d z.symm) (.root (by rw [ji d];exact eb))
    · rw [if_neg c]
      exact .root (by rw [ji (fun z=>c z.symm)];exact e)
  | step e ne t ih=>
    rename_i i h r
    have c:a≠i:=fun z=>by subst z;rw [ea] at e;exact ne (Option.some.inj e).symm
    exact .step (by rw [ji c];exact e) ne ih
theorem aro {hs:List Nat} {a b:Nat} (ea:hs[a]?=some a) (eb:hs[b]?=some b) (ne:a≠b):rts (hs.set a b)+1=rts hs:=by
  unfold rts
  rw [List.length_set]
  have e:=aas (p:=fun i=>decide (hs[i]?=some i)) (a:=a) (decide_eq_true ea) (l:=List.range hs.length) List.nodup_range (List.mem_range.mpr (qt ea))
  rw [← e]
  congr 1
  refine List.countP_congr fun j hj=>?_
  by_cases c:a=j
  · subst c
    rw [x6 (qt ea)]
    simp [Ne.symm ne]
  · rw [ji c]
    simp [Ne.symm c]
def abg (C:Addr):Sp3:=fun ys L Q=>∃ o,∃ n:Nat,∃ ni:Int,ys=[.ref o,.int ni]∧ni=(n:Int)∧L o=some (.ins C [])∧n≤1000∧∀ hp,L hp=none→Q .non (qe (qe L hp (.lst (nY (List.range n)))) o (.ins C (fsP hp)))
theorem au0 {K:PySem.W.Frag} {C:Addr} (xf:XFP K C):∀ ys L Q,abg C ys L Q→x9 (acm K) 2 ys L Q:=by
  rintro ys L Q ⟨o,n,ni,rfl,rfl,ho,hn,q⟩
  refine ⟨⟨by omega,by omega⟩,fun hp hhp=>?_⟩
  refine xa ((qd (neL ho hhp)).trans ho) ⟨xf.cl,xf.na,by decide,?_⟩
  rw [show ((n:Nat):Int).toNat=n from rfl,awp]
  exact fin (q hp hhp)
def aan (C:Addr):Sp3:=fun ys L Q=>∃ o hp,∃ hs:List Nat,∃ p:Nat,∃ pi:Int,∃ rk,ys=[.ref o,.int pi]∧pi=(p:Int)∧L o=some (.ins C (fsP hp))∧L hp=some (.lst (nY hs))∧Rkd rk hs∧p<hs.length∧
  ∀ (r:Nat) hs',hs'.length=hs.length→Rkd rk hs'→Rep hs p r→(∀ i s,Rep hs i s→Rep hs' i s)→rts hs'=rts hs→Q (.int (r:Int)) (qe L hp (.lst (nY hs')))
theorem awr {K:PySem.W.Frag} {C:Addr} (xf:XFP K C):∀ ys L Q,aan C ys L Q→x9 (aae K) 3 ys L Q:=by
  rintro ys L Q ⟨o,hp,hs,p,pi,rk,rfl,rfl,ho,hhp,hr,hlt,q⟩
  obtain ⟨r0,t0⟩:=hr.rep' hlt
  have hop:o≠hp:=aua ho hhp (fun e=>by cases e)
  refine ⟨fun m τ L'=>∃ (hs':List Nat) (here:Nat),τ=[some (.ref o),some (.int (p:Int)),some (.int (here:Int))]∧L'=qe L hp (.lst (nY hs'))∧hs'.length=hs.length∧Rkd rk hs'∧here<hs.length∧Rep hs' here r0∧(∀ i s,Rep hs i s→Rep hs' i s)∧rts hs'=rts hs∧m=rk here,⟨_,hs,p,rfl,(aai hhp).symm,rfl,hr,hlt,t0,fun _ _ h=>h,rfl,rfl⟩,?_⟩
  rintro m τ L' ⟨hs',here,rfl,rfl,hl,hr',hh,t,hall,hrt,rfl⟩
  have ho':∀ z,(qe L hp (.lst z)) o=some (.ins C (fsP hp)):=fun z=>(qd hop).trans ho
  obtain ⟨h,eh⟩:∃ h,hs'[here]?=some h:=⟨_,List.getElem?_eq_getElem (by omega)⟩
  refine xa (ho' _) ⟨xf.cl,xf.na,qo aa4 (qk q8 (qo (ap0 eh) ?_))⟩
  by_cases c:h=here
  · subst c
    refine aef (by show (!decide (((h:Nat):Int)=(h:Int)))=false;rw [decide_eq_true rfl];rfl) ?_
    have e:=t.of_top eh
    subst e
    exact fin (q _ hs' hl hr' t0 hall hrt)
  · refine ajt (by show (!decide (((h:Nat):Int)=(here:Int)))=true;rw [decide_eq_false (by omega)];rfl) ?_
    refine ⟨_,fun _ _ h=>h,?_⟩
    obtain ⟨g,eg⟩:∃ g,hs'[h]?=some g:=⟨_,List.getElem?_eq_getElem (hr' here h eh).1⟩
    refine xa (ho' _) ⟨xf.cl,xf.na,qo aa4 (xa (ho' _) ⟨xf.cl,xf.na,qo aa4 (qk q8 (qo (ap0 eh) (qk q8 (qo (ap0 eg) ?_))))⟩)⟩
    refine xa (ho' _) ⟨xf.cl,xf.na,qo aa4 (z0 q8 (qo (v:=here) ?_ ?_))⟩
    · exact aoj (by rw [vz];omega)
    rw [za,as6]
    have es:(hs'.set here g)[here]?=some g:=x6 (by omega)
    refine xa (ho' _) ⟨xf.cl,xf.na,qo aa4 (qk q8 (qo (ap0 es) ?_))⟩
    obtain ⟨hv1,hv2⟩:=hr'.halve eh c eg
    refine ⟨_,LSub.refl _,rk g,hv2,hs'.set here g,g,rfl,rfl,by rw [List.length_set];exact hl,hv1,?_,?_,fun i s z=>ae7 hr' eh c eg (rk i+1) i s (Nat.lt_succ_self _) (hall i s z),by rw [apc hr' eh c eg];exact hrt,rfl⟩
    · rw [← hl];exact (hr' h g eg).1
    · have t2:=ae7 hr' eh c eg (rk here+1) here r0 (Nat.lt_succ_self _) t
      cases t2 with
      | root e2=>rw [es] at e2;cases e2;exact .root es
      | step e2 ne2 t3=>rw [es] at e2;cases e2;exact t3
def wl (C:Addr):Sp3:=fun ys L Q=>∃ o hp,∃ hs:List Nat,∃ p q a b:Nat,∃ pi qi:Int,ys=[.ref o,.int pi,.int qi]∧pi=(p:Int)∧qi=(q:Int)∧L o=some (.ins C (fsP hp))∧L hp=some (.lst (nY hs))∧(∃ rk,Rkd rk hs)∧Rep hs p a∧Rep hs q b∧p<hs.length∧q<hs.length∧
  ∀ hs',hs'.length=hs.length→(∃ rk,Rkd rk hs')→(∀ i s,Rep hs i s→Rep hs' i (if s=a then b else s))→(a=b→rts hs'=rts hs)→(a≠b→rts hs'+1=rts hs)→Q (.bl (!decide (a=b))) (qe L hp (.lst (nY hs')))
theorem atl {K:PySem.W.Frag} {C:Addr} (xf:XFP K C):∀ ys L Q,wl C ys L Q→x9 (abk K C (aan C)) 5 ys L Q:=by
  rintro ys L Q ⟨o,hp,hs,p,q,a,b,pi,qi,rfl,rfl,rfl,ho,hhp,⟨rk,hr⟩,ta,tb,hp1,hq1,k⟩
  have hop:o≠hp:=aua ho hhp (fun e=>by cases e)
  have ho':∀ z,(qe L hp (.lst z)) o=some (.ins C (fsP hp)):=fun z=>(qd hop).trans ho
  refine xa ho ⟨rfl,ac3,o,hp,hs,p,_,rk,rfl,rfl,ho,hhp,hr,hp1,fun r1 hs1 l1 k1 t1 a1 n1=>?_⟩
  cases t1.uniq ta
  refine xa (ho' _) ⟨rfl,ac3,o,hp,hs1,q,_,rk,rfl,rfl,ho' _,q8,k1,by omega,fun r2 hs2 l2 k2 t2 a2 n2=>?_⟩
  cases t2.uniq (a1 _ _ tb)
  rw [za]
  have ea:hs2[a]?=some a:=(a2 _ _ (a1 _ _ ta)).top
  have eb:hs2[b]?=some b:=(a2 _ _ (a1 _ _ tb)).top
  refine xa (ho' _) ⟨xf.cl,xf.na,qo aa4 (z0 q8 (qo (v:=a) (aoj (by rw [vz];exact qt ea)) ?_))⟩
  rw [za,as6]
  have e0:(decide ((a:Int)=(b:Int)))=decide (a=b):=by
    by_cases c:a=b
    · rw [decide_eq_true c];exact decide_eq_true (by omega)
    · rw [decide_eq_false c];exact decide_eq_false (by omega)
  show agm Q (.bl (!decide ((a:Int)=(b:Int)))) _
  rw [e0]
  refine fin (k (hs2.set a b) (by rw [List.length_set];omega) (k2.join ea eb) (fun i s z=>au6 ea eb (a2 _ _ (a1 _ _ z))) (fun e=>?_) (fun ne=>?_))
  · subst e
    have:hs2.set a a=hs2:=by
      apply List.ext_getElem?
      intro j
      by_cases c:a=j
      · subst c;rw [x6 (qt ea),ea]
      · rw [ji c]
    rw [this,n2,n1]
  · have:=aro ea eb ne;omega
end L3
namespace L3
open PySem L2 Words
local macro_rules | `(tactic| walk_at "w")=>`(tactic| conv=>whnf)
def abp:TS3:=(qr (zc (yC (.str "abcdefghijklmnopqrstuvwxyz")) (qf 1))
  (qr (zc (yC (.str "")) (qf 2))
  (qr (zc (yOp amp (qb 0) (yC (.int 8))) (qf 3))
  (qr (acu (ar5 (qa (yOp wn (yC (.int 1)) (yOp ak6 (qb 0) (yC (.int 8)))) qj)) (qf 4) (qr (zc (yOp wn (yOp yIx (qb 1) (yOp ak6 (qb 3) (yC (.int 26)))) (qb 2)) (qf 2))
  (zc (yOp amp (qb 3) (yC (.int 26))) (qf 3))))
  (zu (qb 2))))))
def aax:Sp3:=fun ys L Q=>∃ n,ys=[.int n]∧∀ x,a0y x→Q (.str x) L
theorem axh (i:Int) (h0:0≤i) (h1:i<26):∃ c,atI ("abcdefghijklmnopqrstuvwxyz" : Str).cps.toList i=some c∧97≤c∧c≤122:=by
  have key:∀ j:_root_.Fin 26,∃ c,("abcdefghijklmnopqrstuvwxyz" : Str).cps.toList[j.val]?=some c∧97≤c∧c≤122:=by
    intro j
    refine ⟨97+j.val,?_,by omega,by omega⟩
    revert j
    decide +kernel
  obtain ⟨c,e,q⟩:=key ⟨i.toNat,by omega⟩
  refine ⟨c,?_,q⟩
  have:i=((i.toNat:Nat):Int):=by omega
  rw [this]
  exact xu e
theorem ao5:∀ ys L Q,aax ys L Q→x9 abp 5 ys L Q:=by
  rintro ys L Q ⟨n,rfl,q⟩
  refine ⟨⟨by decide,by decide⟩,⟨(by decide:(0:Int)<8),?_⟩⟩
  refine ⟨by omega,?_⟩
  refine awk (fun i τ L'=>L'=L∧∃ nm rest kv,τ=[some (.int n),some (.str "abcdefghijklmnopqrstuvwxyz"),some (.str nm),some (.int rest),kv]∧nm.length=i∧∀ c∈nm.cps.toList,97≤c∧c≤122) ?_ ?_ ?_
  · exact ⟨rfl, "",_,_,rfl,rfl,fun c hc=>absurd (show c∈([]:List Nat) from hc) (by simp)⟩
  · rintro i τ L' hi ⟨rfl,nm,rest,kv,rfl,hl,hc⟩
    obtain ⟨c,hat,c1,c2⟩:=axh (rest % 26) (by omega) (by omega)
    refine ⟨(by decide:(0:Int)<26),by decide +kernel,qo hat ⟨?_,⟨by decide,by decide⟩,⟨_,LSub.refl _,rfl,_,_,_,rfl,?_,?_⟩⟩⟩
    · show 1+nm.length≤sizeLine
      exact afh (by omega)
    · rw [PySem.Str.length_append];show 1+nm.length=i+1;omega
    · intro d hd
      have hd':d=c∨d∈nm.cps.toList:=by
        have:(⟨#[c]⟩++nm:Str).cps.toList=c::nm.cps.toList:=by show (#[c]++nm.cps).toList=_;simp
        rw [this] at hd
        exact List.mem_cons.mp hd
      rcases hd' with rfl | hd'
      · exact ⟨c1,c2⟩
      · exact hc d hd'
  · rintro τ L' ⟨rfl,nm,rest,kv,rfl,hl,hc⟩
    exact fin (q nm ⟨by omega,by omega,hc⟩)
end L3
namespace L3
open PySem L2 Words
local macro_rules | `(tactic| walk_at "w")=>`(tactic| conv=>whnf)
def ah3:TS3:=(zu (yOp amp (yOp ak6 (yOp arc (yOp wn (yOp wn (yOp arc (yOp ak6 (qb 0) (yC (.int 1000003))) (yC (.int 7))) (yOp arc (qb 1) (qb 1))) (yC (.int 1))) (qb 2)) (yC (.int 2147483647))) (yC (.int 16))))
def aea:Sp3:=fun ys L Q=>∃ c k f:Int,ys=[.int c,.int k,.int f]∧0≤k∧k<1000000∧0<f∧f<1000000∧∀ v,0≤v→v<134217728→Q (.int v) L
theorem a1b:∀ ys L Q,aea ys L Q→x9 ah3 3 ys L Q:=by
  rintro ys L Q ⟨c,k,f,rfl,h0,h1,h2,h3,q⟩
  refine ⟨(by decide:(0:Int)<1000003),.inr ⟨by decide,by decide⟩,.inl ⟨by omega,by omega⟩,.inr ⟨by omega,by omega⟩,(by decide:(0:Int)<2147483647),⟨by decide,by decide⟩,fin (q _ ?_ ?_)⟩
  all_goals
    generalize ((c % 1000003*7+k*k+1)*f)=z
    omega
end L3
namespace L3
open PySem L2 Words
end L3
namespace L3
open PySem L2 Words
local macro_rules | `(tactic| walk_at "w")=>`(tactic| conv=>whnf)
end L3
namespace L3
open PySem L2 Words
local macro_rules | `(tactic| walk_at "w")=>`(tactic| conv=>whnf)
end L3
namespace L3
open PySem L2 Words
local macro_rules | `(tactic| walk_at "w")=>`(tactic| conv=>whnf)
end L3
namespace L3
open PySem L2 Words
local macro_rules | `(tactic| walk_at "w")=>`(tactic| conv=>whnf)
end L3
namespace L3
open PySem L2 Words
end L3
namespace L3
open PySem L2 Words
local macro_rules | `(tactic| walk_at "w")=>`(tactic| conv=>whnf)
end L3
namespace L3
open PySem L2 Words
end L3
namespace L3
open PySem L2 Words
local macro_rules | `(tactic| walk_at "w")=>`(tactic| conv=>whnf)
inductive Kn where
  | lf (t:Bool) (n:Str) | nd (e:Bool) (i j:Nat)
def atd:Kn→Y
  | .lf t n=>.tup [.str (kL t),.str n]
  | .nd e i j=>.tup [.str (kN e),.int ((i:Nat):Int),.int ((j:Nat):Int)]
end L3
namespace L3
open PySem L2 Words
local macro_rules | `(tactic| walk_at "w")=>`(tactic| conv=>whnf)
def ah1 (p_is_leaf:Sp3):TS3:=(qr (ku (yOr (yB (ai9 false (qb 0))) (yB (qw p_is_leaf (qa (qb 0) qj)))) (zu (wf qj)) xj)
  (zu (wf (qa (yOp yIx (qb 0) (yC (.int 1))) (qa (yOp yIx (qb 0) (yC (.int 2))) qj)))))
def abw:TS3:=(zu (yLC 2 (acw (qb 0)) (ab9 2 (zp (qf 1) (zp (qf 2) aa5))) (yB (ai9 true (qb 2))) (qb 1)))
def af9:TS3:=(qr (zc (wf qj) (qf 1))
  (qr (acu (x5 (qb 0)) (ab9 2 (zp (qf 2) (zp (qf 3) aa5))) (qr (v8 (yBL js (qb 1) (qa (qb 2) qj)))
  (v8 (yBL js (qb 1) (qa (qb 3) qj)))))
  (zu (qb 1))))
def ad6:TS3:=(zu (yLC 2 (acw (yOp yIx (qb 0) (yC (.int 0)))) (ab9 2 (zp (qf 1) (zp (qf 2) aa5))) (a2g (yB (ai9 true (qb 2))) (yB (yOp (yEq false) (yOp yIx (qb 2) (yC (.int 0))) (yC (.str "either"))))) (qb 1)))
def ah4 (p_places_there:Sp3):TS3:=(zu (yLC 1 (x5 (qw p_places_there (qa (yOp yIx (qb 0) (yC (.int 0))) qj))) (qf 1) (yB (yOp (yEq false) (yOp yIx (yOp yIx (yOp yIx (qb 0) (yC (.int 0))) (qb 1)) (yC (.int 0))) (yC (.str "both")))) (qb 1)))
def ad4 (p_parts_of:Sp3):TS3:=(qr (zc (wf qj) (qf 2))
  (qr (acu (x5 (qb 1)) (qf 3) (v8 (yBL ada (qb 2) (qa (yLC 1 (x5 (qw p_parts_of (qa (yOp yIx (qb 0) (qb 3)) qj))) (qf 4) asb (aah (qa (qb 3) (qa (qb 4) qj)))) qj))))
  (zu (qb 2))))
def ahw (p_part_edges:Sp3) (p_boths_of:Sp3):TS3:=(zu (yOp wn (yOp wn (yOp yIx (qb 0) (yC (.int 1))) (yOp yIx (qb 0) (yC (.int 2)))) (qw p_part_edges (qa (yOp yIx (qb 0) (yC (.int 0))) (qa (qw p_boths_of (qa (qb 0) qj)) qj)))))
def ajp:Option Kn→Y
  | none=>.non
  | some k=>atd k
abbrev osY (ks:List (Option Kn)):List Y:=ks.map ajp
def vo:Option Kn→List Nat
  | some (.nd _ i j)=>[i,j]
  | _=>[]
def aa3:Sp3:=fun ys L Q=>∃ k:Option Kn,ys=[ajp k]∧∀ p,L p=none→Q (.ref p) (qe L p (.lst (nY (vo k))))
theorem ary:∀ ys L Q,aa3 ys L Q→x9 (ah1 jf) 1 ys L Q:=by
  rintro ys L Q ⟨k,rfl,q⟩
  cases k with
  | none=>exact fun p hp=>fin (q p hp)
  | some k=>
    cases k with
    | lf t n=>exact ⟨true,t,_,rfl,fun p hp=>fin (q p hp)⟩
    | nd e i j=>exact ⟨false,e,_,rfl,fun p hp=>fin (q p hp)⟩
def whr (f:Option Kn→Bool) (ks:List (Option Kn)) (i:Nat):List Nat:=(List.range i).filter fun p=>match ks[p]? with
  | some k=>f k
  | none=>false
theorem agl {f:Option Kn→Bool} {ks:List (Option Kn)} {i:Nat} {k:Option Kn} (h:ks[i]?=some k):whr f ks (i+1)=whr f ks i++if f k=true then [i] else []:=by
  unfold whr
  rw [List.range_succ,List.filter_append]
  congr 1
  rw [List.filter_cons]
  simp only [h,List.filter_nil]
theorem wt {f:Option Kn→Bool} {ks:List (Option Kn)} {i p:Nat} (h:p∈whr f ks i):p<i∧∃ k,ks[p]?=some k∧f k=true:=by
  unfold whr at h
  obtain ⟨h1,h2⟩:=List.mem_filter.mp h
  refine ⟨List.mem_range.mp h1,?_⟩
  split at h2
  · rename_i k e;exact ⟨k,e,h2⟩
  · cases h2
theorem adh (f:Option Kn→Bool) (ks:List (Option Kn)) (i:Nat):(whr f ks i).length≤i:=by
  unfold whr
  exact Nat.le_trans (List.length_filter_le _ _) (by rw [List.length_range];omega)
def ana:Option Kn→Bool
  | some _=>true
  | none=>false
def je (e:Bool):Option Kn→Bool
  | some (.nd e' _ _)=>decide (e'=e)
  | _=>false
abbrev x4 (ks:List (Option Kn)):List Nat:=whr ana ks ks.length
abbrev zb (e:Bool) (ks:List (Option Kn)):List Nat:=whr (je e) ks ks.length
theorem au1 (a b:List Nat):nY (a++b)=nY a++nY b:=by unfold nY;rw [List.map_append]
theorem acr {hs:List Nat} {i:Nat} {y:Y} (h:(nY hs)[i]?=some y):∃ n,hs[i]?=some n∧y=.int (n:Int):=by
  unfold nY at h
  rw [List.getElem?_map] at h
  obtain ⟨n,e1,e2⟩:=Option.map_eq_some_iff.mp h
  exact ⟨n,e1,e2.symm⟩
theorem ahk {f:Option Kn→Bool} {ks:List (Option Kn)} {keep:LHp→Prop} {L:LHp} {g:TG3} {tc:TT3} {te:TE3} {τ:St3} {Q:YK} (hz:ks.length≤1000) (hk:keep L)
    (turn:∀ (i:Nat) (k:Option Kn) (R:List Y→LHp→Prop) zs,ks[i]?=some k→(f k=true→R (zs++[.int (i:Int)]) L)→(f k=false→R zs L)→g (.tup [.int (i:Nat),ajp k]) (τ++List.replicate 2 none) L fun τ2 L2=>tc τ2 L2 fun b L3=>kh b (te τ2 L3 fun z L4=>R (zs++[z]) L4) (R zs L3))
    (hq:∀ p,L p=none→Q (.ref p) (qe L p (.lst (nY (whr f ks ks.length))))):lcK (agr (osY ks)) keep 2 g tc te τ L Q:=by
  refine ahh (fun i zs=>zs=nY (whr f ks i)) (by rw [aaf,List.length_map];exact Nat.lt_of_le_of_lt hz (by decide)) hk rfl ?_ ?_
  · rintro i y zs ey rfl
    obtain ⟨z,ez,rfl⟩:=ad5 ey
    rw [List.getElem?_map] at ez
    obtain ⟨k,ek,rfl⟩:=Option.map_eq_some_iff.mp ez
    refine turn i k _ _ ek (fun h=>⟨L,LSub.refl _,rfl,?_⟩) (fun h=>⟨L,LSub.refl _,rfl,?_⟩)
    · rw [agl ek,if_pos h,au1];rfl
    · rw [agl ek,if_neg (by rw [h];exact Bool.false_ne_true),List.append_nil]
  · rintro zs rfl
    rw [aaf,List.length_map]
    exact hq
def aa6:Sp3:=fun ys L Q=>∃ a,∃ ks:List (Option Kn),ys=[.ref a]∧L a=some (.lst (osY ks))∧ks.length≤1000∧∀ p,L p=none→Q (.ref p) (qe L p (.lst (nY (x4 ks))))
theorem ark:∀ ys L Q,aa6 ys L Q→x9 abw 1 ys L Q:=by
  rintro ys L Q ⟨a,ks,rfl,ha,hz,q⟩
  refine xt ha fun keep kp=>ahk (f:=ana) hz (kp L rfl) (fun i k R zs ek h1 h2=>?_) fun p hp=>fin (q p hp)
  cases k with
  | none=>exact h2 rfl
  | some k=>cases k<;>exact h1 rfl
abbrev am4 (a l c:Addr):Y:=.tup [.ref a,.ref l,.ref c]
def aa7:Sp3:=fun ys L Q=>∃ a l c,∃ ks:List (Option Kn),ys=[am4 a l c]∧L a=some (.lst (osY ks))∧ks.length≤1000∧∀ p,L p=none→Q (.ref p) (qe L p (.lst (nY (zb true ks))))
theorem arz:∀ ys L Q,aa7 ys L Q→x9 ad6 1 ys L Q:=by
  rintro ys L Q ⟨a,l,c,ks,rfl,ha,hz,q⟩
  refine xt ha fun keep kp=>ahk (f:=je true) hz (kp L rfl) (fun i k R zs ek h1 h2=>?_) fun p hp=>fin (q p hp)
  cases k with
  | none=>exact h2 rfl
  | some k=>
    cases k with
    | lf t n=>cases t<;>exact h2 rfl
    | nd e i j=>
      cases e with
      | true=>exact h1 rfl
      | false=>exact h2 rfl
def adp:Sp3:=fun ys L Q=>∃ a l c,∃ ks:List (Option Kn),ys=[am4 a l c]∧L a=some (.lst (osY ks))∧ks.length≤1000∧∀ p,L p=none→Q (.ref p) (qe L p (.lst (nY (zb false ks))))
theorem avu (f g:Option Kn→Bool) (ks:List (Option Kn)) (i:Nat):((whr f ks i).filter fun p=>match ks[p]? with | some k=>g k | none=>false)=whr (fun k=>f k&&g k) ks i:=by
  unfold whr
  rw [List.filter_filter]
  refine List.filter_congr fun p _=>?_
  cases ks[p]? with
  | none=>rfl
  | some k=>exact Bool.and_comm _ _
theorem anb (e:Bool) (ks:List (Option Kn)) (i:Nat):whr (fun k=>ana k&&je e k) ks i=whr (je e) ks i:=by
  unfold whr
  refine List.filter_congr fun p _=>?_
  cases ks[p]? with
  | none=>rfl
  | some k=>cases k<;>rfl
theorem as1:∀ ys L Q,adp ys L Q→x9 (ah4 aa6) 1 ys L Q:=by
  rintro ys L Q ⟨a,l,c,ks,rfl,ha,hz,q⟩
  refine ⟨a,ks,rfl,ha,hz,fun p hp=>?_⟩
  have ha1:=LSub.new (o:=.lst (nY (x4 ks))) hp _ _ ha
  refine xt q8 fun keep kp=>ahh (fun i zs=>zs=nY (((x4 ks).take i).filter fun p=>match ks[p]? with | some k=>je false k | none=>false)) (by rw [vz];exact Nat.lt_of_le_of_lt (Nat.le_trans (adh _ _ _) hz) (by decide)) (kp _ rfl) rfl ?_ ?_
  · rintro i y zs ey rfl
    obtain ⟨n,en,rfl⟩:=acr ey
    obtain ⟨hn,k,ek,hk⟩:=wt (List.mem_of_getElem? en)
    have et:(x4 ks).take (i+1)=(x4 ks).take i++[n]:=by rw [List.take_succ,en];rfl
    have a1:atI (osY ks) (n:Int)=some (ajp k):=xu (by rw [List.getElem?_map,ek];rfl)
    refine qk ha1 (qo a1 ?_)
    cases k with
    | none=>cases hk
    | some k=>
      cases k with
      | lf t nm=>
        have z:Frg (fun zs L'=>L'=qe L p (.lst (nY (x4 ks)))∧zs=nY (((x4 ks).take (i+1)).filter fun p=>match ks[p]? with | some k=>je false k | none=>false)) (nY (((x4 ks).take i).filter fun p=>match ks[p]? with | some k=>je false k | none=>false)) (qe L p (.lst (nY (x4 ks)))):=by
          refine ⟨_,LSub.refl _,rfl,?_⟩
          rw [et,List.filter_append,List.filter_cons]
          simp [ek,je]
        cases t<;>exact z
      | nd e i' j'=>
        cases e with
        | true=>
          refine ⟨_,LSub.refl _,rfl,?_⟩
          rw [et,List.filter_append,List.filter_cons]
          simp [ek,je]
        | false=>
          refine ⟨_,LSub.refl _,rfl,?_⟩
          rw [et,List.filter_append,List.filter_cons]
          simp [ek,je,nY]
  · rintro zs rfl p2 hp2
    rw [vz,List.take_length,avu,anb]
    have hp3:L p2=none:=jd (LSub.new hp) hp2
    refine ade (L:=qe L p2 (.lst (nY (zb false ks)))) ?_ (q p2 hp3)
    exact LSub.put ((LSub.new (o:=.lst (nY (x4 ks))) hp).upd hp3) q8
def prN (p:Nat×Nat):Y:=.tup [.int ((p.1:Nat):Int),.int ((p.2:Nat):Int)]
abbrev z9 (l:List (Nat×Nat)):List Y:=l.map prN
def zm (ks:List (Option Kn)) (pl:List Nat):List (Nat×Nat):=pl.flatMap fun p=>match ks[p]? with
  | some k=>(vo k).map fun q=>(p,q)
  | none=>[]
theorem ae3 (ks:List (Option Kn)) (a b:List Nat):zm ks (a++b)=zm ks a++zm ks b:=by unfold zm;rw [List.flatMap_append]
theorem aeb {ks:List (Option Kn)} {p:Nat} {k:Option Kn} (h:ks[p]?=some k):zm ks [p]=(vo k).map fun q=>(p,q):=by unfold zm;simp [h]
theorem aex (k:Option Kn):(vo k).length≤2:=by
  unfold vo
  split<;>simp
theorem abz (ks:List (Option Kn)):∀ pl:List Nat,(zm ks pl).length≤2*pl.length
  | []=>by simp [zm]
  | p::r=>by
    have ih:=abz ks r
    have e:=ae3 ks [p] r
    rw [List.singleton_append] at e
    rw [e,List.length_append,List.length_cons]
    cases h:ks[p]? with
    | none=>
      have:zm ks [p]=[]:=by unfold zm;simp [h]
      rw [this];simp;omega
    | some k=>
      rw [aeb h,List.length_map]
      have:=aex k;omega
def ac1:Sp3:=fun ys L Q=>∃ a b,∃ ks:List (Option Kn),∃ pl:List Nat,ys=[.ref a,.ref b]∧L a=some (.lst (osY ks))∧L b=some (.lst (nY pl))∧pl.length≤1000∧(∀ p∈pl,p<ks.length)∧∀ p,L p=none→Q (.ref p) (qe L p (.lst (z9 (zm ks pl))))
theorem apg:∀ ys L Q,ac1 ys L Q→x9 (ad4 aa3) 4 ys L Q:=by
  rintro ys L Q ⟨a,b,ks,pl,rfl,ha,hb,hz,hlt,q⟩
  intro p hp
  have hap:a≠p:=neL ha hp
  have hbp:b≠p:=neL hb hp
  refine vm (ys:=nY pl) (zg ((qd hbp).trans hb)) (fun i τ L'=>∃ c,τ=[some (.ref a),some (.ref b),some (.ref p),c]∧L'=qe L p (.lst (z9 (zm ks (pl.take i))))) ⟨_,rfl,rfl⟩ ?_ ?_ ?_
  · rintro i τ L' ⟨c,rfl,rfl⟩
    rw [qd hbp,qd hbp]
  · rintro i y τ L' hy ⟨c,rfl,rfl⟩
    obtain ⟨n,en,rfl⟩:=acr hy
    have hn:=hlt n (List.mem_of_getElem? en)
    obtain ⟨k,ek⟩:∃ k,ks[n]?=some k:=⟨_,List.getElem?_eq_getElem hn⟩
    have a1:atI (osY ks) (n:Int)=some (ajp k):=xu (by rw [List.getElem?_map,ek];rfl)
    have et:pl.take (i+1)=pl.take i++[n]:=by rw [List.take_succ,en];rfl
    refine qk q8 (qk ((qd hap).trans ha) (qo a1 ⟨k,rfl,fun p2 hp2=>?_⟩))
    refine xt q8 fun keep kp=>ahh (fun j zs=>zs=z9 (((vo k).take j).map fun q=>(n,q))) (by rw [vz];exact Nat.lt_of_le_of_lt (aex k) (by decide)) (kp _ rfl) rfl ?_ ?_
    · rintro j y zs ey rfl
      obtain ⟨m,em,rfl⟩:=acr ey
      refine ⟨_,LSub.refl _,rfl,?_⟩
      rw [List.take_succ,em,List.map_append]
      unfold z9
      rw [List.map_append];rfl
    · rintro zs rfl p3 hp3
      rw [vz,List.take_length]
      have hp32:p≠p3:=neL ((qd (neL q8 hp2)).trans q8) hp3
      refine z0 ((qd hp32).trans ((qd (neL q8 hp2)).trans q8)) (z0 q8 ⟨?_,?_⟩)
      · rw [List.length_map,List.length_map,List.length_map]
        have h1:=abz ks (pl.take i)
        have h2:=aex k
        have h3:(pl.take i).length≤1000:=by rw [List.length_take];omega
        have hb:(3000:Nat)≤sizeLine:=by decide
        omega
      · refine ⟨qe L p (.lst (z9 (zm ks (pl.take (i+1))))),?_,_,rfl,rfl⟩
        have e:z9 (zm ks (pl.take i))++z9 ((vo k).map fun q=>(n,q))=z9 (zm ks (pl.take (i+1))):=by rw [et,ae3,aeb ek];unfold z9;rw [List.map_append]
        rw [e]
        have n2:L p2=none:=jd (LSub.new hp) hp2
        have n3:L p3=none:=jd ((LSub.new hp).trans (LSub.new hp2)) hp3
        exact LSub.put ((((LSub.new hp).trans (LSub.new hp2)).trans (LSub.new hp3)).upd hp) q8
  · rintro τ L' ⟨c,rfl,rfl⟩
    rw [vz,List.take_length]
    exact fin (q p hp)
def zq (ks:List (Option Kn)) (lk ct:List (Nat×Nat)):List (Nat×Nat):=(lk++ct)++zm ks (zb false ks)
def aa8:Sp3:=fun ys L Q=>∃ a l c,∃ ks:List (Option Kn),∃ lk ct:List (Nat×Nat),ys=[am4 a l c]∧L a=some (.lst (osY ks))∧L l=some (.lst (z9 lk))∧L c=some (.lst (z9 ct))∧ks.length≤1000∧lk.length≤1000∧ct.length≤1000∧∀ p,L p=none→Q (.ref p) (qe L p (.lst (z9 (zq ks lk ct))))
theorem at9:∀ ys L Q,aa8 ys L Q→x9 (ahw ac1 adp) 1 ys L Q:=by
  rintro ys L Q ⟨a,l,c,ks,lk,ct,rfl,ha,hl,hc,hz,hz1,hz2,q⟩
  have hb:(10000:Nat)<sizeLine:=by decide
  refine ⟨_,_,hl,hc,by rw [List.length_map,List.length_map];omega,fun p1 hp1=>?_⟩
  have ha1:=LSub.new (o:=.lst (z9 lk++z9 ct)) hp1 _ _ ha
  refine ⟨a,l,c,ks,rfl,ha1,hz,fun p2 hp2=>?_⟩
  have ha2:=LSub.new (o:=.lst (nY (zb false ks))) hp2 _ _ ha1
  refine ⟨a,p2,ks,zb false ks,rfl,ha2,q8,Nat.le_trans (adh _ _ _) hz,fun p hp=>(wt hp).1,fun p3 hp3=>?_⟩
  have e1:=LSub.new (o:=.lst (z9 (zm ks (zb false ks)))) hp3 _ _ (LSub.new (o:=.lst (nY (zb false ks))) hp2 _ _ (q8 (L:=L) (a:=p1) (o:=.lst (z9 lk++z9 ct))))
  refine ⟨_,_,e1,q8,?_,fun p4 hp4=>?_⟩
  · have:=abz ks (zb false ks)
    have:(zb false ks).length≤ks.length:=adh (je false) ks ks.length
    rw [List.length_append,List.length_map,List.length_map,List.length_map];omega
  · have n1:LSub L (qe (qe (qe L p1 (.lst (z9 lk++z9 ct))) p2 (.lst (nY (zb false ks)))) p3 (.lst (z9 (zm ks (zb false ks))))):=((LSub.new hp1).trans (LSub.new hp2)).trans (LSub.new hp3)
    have n4:L p4=none:=jd n1 hp4
    refine ade (L:=qe L p4 (.lst (z9 (zq ks lk ct)))) ?_ (q p4 n4)
    have e:z9 lk++z9 ct++z9 (zm ks (zb false ks))=z9 (zq ks lk ct):=by unfold z9 zq;rw [List.map_append,List.map_append]
    rw [e]
    exact LSub.put (n1.upd n4) q8
end L3
namespace L3
open PySem L2 Words
local macro_rules | `(tactic| walk_at "w")=>`(tactic| conv=>whnf)
def acz (C_Pieces:Addr) (p_Pieces_unite:Sp3):TS3:=(qr (zc (wf qj) (qf 2))
  (qr (acu (x5 (qb 1)) (ab9 2 (zp (qf 3) (zp (qf 4) aa5))) (ku (yB (af1 C_Pieces "unite" p_Pieces_unite (qb 0) (qa (qb 3) (qa (qb 4) qj)))) (v8 (yBL js (qb 2) (qa (aah (qa (yC (.str "join")) (qa (qb 3) (qa (qb 4) qj)))) qj))) xj))
  (zu (qb 2))))
def ahe (C_Pieces:Addr) (p_parts_of:Sp3) (p_Pieces_head_of:Sp3):TS3:=(qr (zc (yLC 1 (x5 (qw p_parts_of (qa (yOp yIx (qb 1) (qb 2)) qj))) (qf 4) asb (af1 C_Pieces "head_of" p_Pieces_head_of (qb 0) (qa (qb 4) qj))) (qf 3))
  (zu (agk (yOp (yEq false) (yOp yIx (qb 3) (yC (.int 0))) (yOp yIx (qb 3) (yC (.int 1)))) (yOp (yEq true) (yOp yIx (qb 3) (yC (.int 0))) (af1 C_Pieces "head_of" p_Pieces_head_of (qb 0) (qa (qb 2) qj))))))
def adw (C_Pieces:Addr) (p_can_fold:Sp3) (p_Pieces_unite:Sp3):TS3:=(qr (zc (wf qj) (qf 3))
  (qr (zc (yUn aws (yC (.int 1))) (qf 4))
  (qr (ak1 (yB (yOp yLt (qb 4) (yCB abj (qa (qb 3) qj)))) (qr (zc (yCB abj (qa (qb 3) qj)) (qf 4))
  (acu (x5 (qb 2)) (qf 5) (ku (yB (qw p_can_fold (qa (qb 0) (qa (qb 1) (qa (qb 5) qj))))) (qr (v8 (af1 C_Pieces "unite" p_Pieces_unite (qb 0) (qa (qb 5) (qa (yOp yIx (yOp yIx (qb 1) (qb 5)) (yC (.int 1))) qj))))
  (v8 (yBL js (qb 3) (qa (aah (qa (yC (.str "fold")) (qa (qb 5) qj))) qj)))) xj))))
  (zu (qb 3)))))
def ahx (C_Pieces:Addr) (p_Pieces_init:Sp3) (p_join_steps:Sp3) (p_fold_steps:Sp3):TS3:=(qr (zc (asn C_Pieces p_Pieces_init (qa (yCB abj (qa (qb 0) qj)) qj)) (qf 3))
  (zu (yOp wn (qw p_join_steps (qa (qb 3) (qa (qb 1) qj))) (qw p_fold_steps (qa (qb 3) (qa (qb 0) (qa (qb 2) qj)))))))
def ky (p_places_there:Sp3) (p_steps_by:Sp3):TS3:=(qr (zc (yOp avt (yCB abj (qa (qw p_places_there (qa (qb 0) qj)) qj)) (yC (.int 1))) (qf 3))
  (zu (agk (yOp (yEq false) (yOp wn (yCB abj (qa (qb 1) qj)) (yCB abj (qa (qb 2) qj))) (qb 3)) (yOp (yEq false) (yCB abj (qa (qw p_steps_by (qa (qb 0) (qa (qb 1) (qa (qb 2) qj)))) qj)) (qb 3)))))
def afl (p_all_come_together:Sp3) (p_eithers_of:Sp3) (p_joins_of:Sp3):TS3:=(zu (qw p_all_come_together (qa (yOp yIx (qb 0) (yC (.int 0))) (qa (qw p_joins_of (qa (qb 0) qj)) (qa (qw p_eithers_of (qa (qb 0) qj)) qj)))))
def af4 (p_right_web:Sp3) (p_joins_of:Sp3) (p_eithers_of:Sp3) (p_all_come_together:Sp3):TS3:=(qr (ku (yB (qw p_right_web (qa (qb 0) qj))) (zu (yC .non)) xj)
  (qr (zc (yOp yIx (qb 0) (yC (.int 0))) (qf 1))
  (qr (zc (qw p_joins_of (qa (qb 0) qj)) (qf 2))
  (qr (zc (qw p_eithers_of (qa (qb 0) qj)) (qf 3))
  (qr (zc (wf qj) (qf 4))
  (qr (acu (acw (qb 3)) (ab9 2 (zp (qf 5) (zp (qf 6) aa5))) (qr (zc (aah (qa (qb 6) (qa (yOp yIx (yOp yIx (qb 1) (qb 6)) (yC (.int 1))) qj))) (qf 7))
  (qr (zc (yIf (yB (qw p_all_come_together (qa (qb 1) (qa (yOp wn (qb 2) (wf (qa (qb 7) qj))) (qa (ySl axi (qb 3) (aof (yOp wn (qb 5) (yC (.int 1)))) agc) qj))))) (yC (.int 1)) (yC (.int 0))) (qf 8))
  (qr (v8 (yBL js (qb 4) (qa (qb 8) qj)))
  (v8 (yBL js (qb 2) (qa (aah (qa (qb 6) (qa (yOp yIx (yOp yIx (qb 1) (qb 6)) (yOp wn (yC (.int 1)) (qb 8))) qj))) qj)))))))
  (zu (qb 4))))))))
def Con (hs:List Nat) (a b:Nat):Prop:=∃ r,Rep hs a r∧Rep hs b r
def Mon (hs hs':List Nat):Prop:=∀ a b,Con hs a b→Con hs' a b
theorem Mon.trans {a b c:List Nat} (h:Mon a b) (k:Mon b c):Mon a c:=fun x y z=>k x y (h x y z)
theorem ah0 {hs hs':List Nat} (h:∀ x s,Rep hs x s→Rep hs' x s):Mon hs hs':=fun _ _ ⟨r,p,q⟩=>⟨r,h _ _ p,h _ _ q⟩
theorem agn {hs hs':List Nat} {a b:Nat} (h:∀ i s,Rep hs i s→Rep hs' i (if s=a then b else s)):Mon hs hs':=fun _ _ ⟨_,p,q⟩=>⟨_,h _ _ p,h _ _ q⟩
theorem atn {hs hs':List Nat} {a b p q:Nat} (h:∀ i s,Rep hs i s→Rep hs' i (if s=a then b else s)) (ta:Rep hs p a) (tb:Rep hs q b):Con hs' p q:=by
  have h1:=h _ _ ta
  have h2:=h _ _ tb
  rw [if_pos rfl] at h1
  refine ⟨b,h1,?_⟩
  by_cases c:b=a
  · rw [if_pos c] at h2;exact h2
  · rw [if_neg c] at h2;exact h2
theorem al6 {hs hs':List Nat} {a b ra rb:Nat} (h:∀ x s,Rep hs x s→Rep hs' x s) (ta:Rep hs a ra) (tb:Rep hs b rb):Con hs' a b→Con hs a b:=fun ⟨r,p,q⟩=>by
  have e1:=(h _ _ ta).uniq p
  have e2:=(h _ _ tb).uniq q
  exact ⟨r,e1▸ta,e2▸tb⟩
def awy (ks:List (Option Kn)) (hs es:List Nat):Prop:=∀ p∈es,∀ e i j,ks[p]?=some (some (.nd e i j))→Con hs i j→Con hs p i
structure Eqv (R:Nat→Nat→Prop):Prop where
  r:∀ a,R a a
  s:∀ {a b},R a b→R b a
  t:∀ {a b c},R a b→R b c→R a c
def aji (R:Nat→Nat→Prop) (hs:List Nat):Prop:=∀ a b,Con hs a b→R a b
theorem Rep.lt {hs:List Nat} {i r:Nat} (h:Rep hs i r):i<hs.length:=by
  cases h with
  | root e=>exact qt e
  | step e _ _=>exact qt e
theorem ajf {R:Nat→Nat→Prop} {hs hs':List Nat} {rk:Nat→Nat} (hr:Rkd rk hs) (hl:hs'.length=hs.length) (h:∀ x s,Rep hs x s→Rep hs' x s) (F:aji R hs):aji R hs':=fun x y ⟨r,p,q⟩=>by
  obtain ⟨rx,tx⟩:=hr.rep' (i:=x) (by have:=p.lt;omega)
  obtain ⟨ry,ty⟩:=hr.rep' (i:=y) (by have:=q.lt;omega)
  exact F x y (al6 h tx ty ⟨r,p,q⟩)
theorem aj2 {R:Nat→Nat→Prop} {hs hs':List Nat} {rk:Nat→Nat} {a b p q:Nat} (hr:Rkd rk hs) (hl:hs'.length=hs.length) (h:∀ i s,Rep hs i s→Rep hs' i (if s=a then b else s)) (ta:Rep hs p a) (tb:Rep hs q b) (E:Eqv R) (hpq:R p q) (F:aji R hs):aji R hs':=fun x y ⟨r,px,qy⟩=>by
  obtain ⟨rx,tx⟩:=hr.rep' (i:=x) (by have:=px.lt;omega)
  obtain ⟨ry,ty⟩:=hr.rep' (i:=y) (by have:=qy.lt;omega)
  have e:=((h _ _ tx).uniq px).trans ((h _ _ ty).uniq qy).symm
  have xp:rx=a→R x p:=fun z=>F x p ⟨a,z▸tx,ta⟩
  have yp:ry=a→R y p:=fun z=>F y p ⟨a,z▸ty,ta⟩
  by_cases c:rx=a
  · by_cases d:ry=a
    · exact E.t (xp c) (E.s (yp d))
    · rw [if_pos c,if_neg d] at e
      exact E.t (E.t (xp c) hpq) (F q y ⟨b,tb,e▸ty⟩)
  · by_cases d:ry=a
    · rw [if_neg c,if_pos d] at e
      exact E.t (F x q ⟨b,e▸tx,tb⟩) (E.s (E.t (yp d) hpq))
    · rw [if_neg c,if_neg d] at e
      exact F x y ⟨rx,tx,e▸ty⟩
theorem aoa {R:Nat→Nat→Prop} (E:Eqv R) (n:Nat):aji R (List.range n):=fun x y ⟨r,p,q⟩=>by
  have h:∀ {i r:Nat},Rep (List.range n) i r→r=i:=fun {i r} t=>t.of_top (List.getElem?_range (by have:=t.lt;rwa [List.length_range] at this))
  have e1:=h p
  have e2:=h q
  subst e1
  rw [e2];exact E.r _
def JnR (hs hs':List Nat) (ps:List (Nat×Nat)):Prop:=Mon hs hs'∧(∀ x∈ps,Con hs' x.1 x.2)∧∀ R,Eqv R→(∀ x∈ps,R x.1 x.2)→aji R hs→aji R hs'
def FoC (ks:List (Option Kn)) (es:List Nat) (R:Nat→Nat→Prop):Prop:=∀ p∈es,∀ e i j,ks[p]?=some (some (.nd e i j))→R i j→R p i
def FoR (ks:List (Option Kn)) (hs hs' es:List Nat):Prop:=Mon hs hs'∧∀ R,Eqv R→FoC ks es R→aji R hs→aji R hs'
theorem JnR.snoc {hs hs' hs2:List Nat} {ps:List (Nat×Nat)} {rk:Nat→Nat} {a b p q:Nat} (j:JnR hs hs' ps) (hr:Rkd rk hs') (hl:hs2.length=hs'.length) (h:∀ i s,Rep hs' i s→Rep hs2 i (if s=a then b else s)) (ta:Rep hs' p a) (tb:Rep hs' q b):JnR hs hs2 (ps++[(p,q)]):=by
  refine ⟨j.1.trans (agn h),fun x hx=>?_,fun R E c F=>aj2 hr hl h ta tb E (c (p,q) (List.mem_append_right _ (List.mem_singleton.mpr rfl))) (j.2.2 R E (fun x hx=>c x (List.mem_append_left _ hx)) F)⟩
  rcases List.mem_append.mp hx with hx | hx
  · exact agn h _ _ (j.2.1 x hx)
  · rw [List.mem_singleton.mp hx];exact atn h ta tb
def Gd (hs hs':List Nat):Prop:=hs'.length=hs.length∧∃ rk,Rkd rk hs'
theorem avp:(100000:Nat)≤sizeLine:=by decide
def ac6 (C:Addr):Sp3:=fun ys L Q=>∃ o hp j,∃ hs:List Nat,∃ ps:List (Nat×Nat),ys=[.ref o,.ref j]∧L o=some (.ins C (fsP hp))∧L hp=some (.lst (nY hs))∧L j=some (.lst (z9 ps))∧j≠hp∧(∃ rk,Rkd rk hs)∧(∀ x∈ps,x.1<hs.length∧x.2<hs.length)∧ps.length≤10000∧
  ∀ s zs hs',L s=none→Gd hs hs'→zs.length≤ps.length→zs.length+rts hs'=rts hs→JnR hs hs' ps→Q (.ref s) (qe (qe L hp (.lst (nY hs'))) s (.lst zs))
theorem aqm {C:Addr}:∀ ys L Q,ac6 C ys L Q→x9 (acz C (wl C)) 5 ys L Q:=by
  rintro ys L Q ⟨o,hp,j,hs,ps,rfl,ho,hhp,hj,hjp,hrk,hlt,hz,q⟩
  intro s hs0
  have hop:o≠hp:=aua ho hhp (fun e=>by cases e)
  have hos:o≠s:=neL ho hs0
  have hps:hp≠s:=neL hhp hs0
  have hjs:j≠s:=neL hj hs0
  have fo:∀ A Z,(qe (qe L hp A) s Z) o=some (.ins C (fsP hp)):=fun A Z=>(qd hos).trans ((qd hop).trans ho)
  have fh:∀ A Z,(qe (qe L hp A) s Z) hp=some A:=fun A Z=>(qd hps).trans q8
  have fj:∀ A Z,(qe (qe L hp A) s Z) j=some (.lst (z9 ps)):=fun A Z=>(qd hjs).trans ((qd hjp).trans hj)
  have e0:qe L s (.lst [])=qe (qe L hp (.lst (nY hs))) s (.lst []):=by rw [aai hhp]
  refine vm (ys:=z9 ps) (zg ((qd hjs).trans hj)) (fun i τ L'=>∃ hs' zs c3 c4,τ=[some (.ref o),some (.ref j),some (.ref s),c3,c4]∧L'=qe (qe L hp (.lst (nY hs'))) s (.lst zs)∧Gd hs hs'∧zs.length≤i∧zs.length+rts hs'=rts hs∧JnR hs hs' (ps.take i)) ⟨hs,[],_,_,rfl,e0,⟨rfl,hrk⟩,Nat.le_refl _,Nat.zero_add _,fun _ _ z=>z,(fun x hx=>by cases hx),fun _ _ _ F=>F⟩ ?_ ?_ ?_
  · rintro i τ L' ⟨hs',zs,c3,c4,rfl,rfl,_⟩
    rw [fj,qd hjs,hj]
  · rintro i y τ L' hy ⟨hs',zs,c3,c4,rfl,rfl,⟨g1,rk,g2⟩,hzi,hrt,jn⟩
    rw [List.getElem?_map] at hy
    obtain ⟨⟨p,q'⟩,ex,rfl⟩:=Option.map_eq_some_iff.mp hy
    obtain ⟨h1,h2⟩:=hlt _ (List.mem_of_getElem? ex)
    have h1:p<hs.length:=h1
    have h2:q'<hs.length:=h2
    have hi:=qt ex
    obtain ⟨a,ta⟩:=g2.rep' (i:=p) (by omega)
    obtain ⟨b,tb⟩:=g2.rep' (i:=q') (by omega)
    refine xa (fo _ _) ⟨rfl,ah7,o,hp,hs',p,q',a,b,_,_,rfl,rfl,rfl,fo _ _,fh _ _,⟨rk,g2⟩,ta,tb,by omega,by omega,fun hs2 l2 k2 r2 e1 e2=>?_⟩
    rw [aad (Ne.symm hps),za]
    have nw:JnR hs hs2 (ps.take (i+1)):=by
      have et:ps.take (i+1)=ps.take i++[(p,q')]:=by rw [List.take_succ,ex];rfl
      rw [et];exact jn.snoc g2 l2 r2 ta tb
    by_cases c:a=b
    · refine aef (by rw [decide_eq_true c];rfl) ⟨_,LSub.refl _,hs2,zs,_,_,rfl,rfl,⟨by omega,k2⟩,by omega,by rw [e1 c];exact hrt,nw⟩
    · refine ajt (by rw [decide_eq_false c];rfl) ?_
      have:=e2 c
      refine qk q8 (z0 q8 ⟨Nat.lt_of_le_of_lt (by omega:zs.length≤10000) (by decide),_,LSub.refl _,hs2,zs++[_],_,_,rfl,za,⟨by omega,k2⟩,?_,?_,nw⟩)
      · rw [List.length_append,List.length_singleton];omega
      · rw [List.length_append,List.length_singleton];omega
  · rintro τ L' ⟨hs',zs,c3,c4,rfl,rfl,g,hzi,hrt,jn⟩
    rw [List.length_map] at hzi jn
    rw [List.take_length] at jn
    exact fin (q s zs hs' hs0 g hzi hrt jn)
def ae1 (C:Addr):Sp3:=fun ys L Q=>∃ o hp a,∃ hs:List Nat,∃ ks:List (Option Kn),∃ p i j:Nat,∃ e:Bool,∃ pi:Int,ys=[.ref o,.ref a,.int pi]∧pi=(p:Int)∧L o=some (.ins C (fsP hp))∧L hp=some (.lst (nY hs))∧L a=some (.lst (osY ks))∧a≠hp∧(∃ rk,Rkd rk hs)∧
  ks[p]?=some (some (.nd e i j))∧p<hs.length∧i<hs.length∧j<hs.length∧
  ∀ ri rj rp hs',Rep hs i ri→Rep hs j rj→Rep hs p rp→Gd hs hs'→(∀ x s,Rep hs x s→Rep hs' x s)→rts hs'=rts hs→Q (.bl (decide (ri=rj)&&!decide (ri=rp))) (qe L hp (.lst (nY hs')))
theorem ajk (a b:Nat):decide ((a:Int)=(b:Int))=decide (a=b):=by
  by_cases c:a=b
  · rw [decide_eq_true c];exact decide_eq_true (by omega)
  · rw [decide_eq_false c];exact decide_eq_false (by omega)
theorem atm {C:Addr}:∀ ys L Q,ae1 C ys L Q→x9 (ahe C aa3 (aan C)) 4 ys L Q:=by
  rintro ys L Q ⟨o,hp,a,hs,ks,p,i,j,e,pi,rfl,rfl,ho,hhp,ha,hap,⟨rk,hr⟩,ek,hp1,hi1,hj1,q⟩
  have a1:atI (osY ks) (p:Int)=some (ajp (some (.nd e i j))):=xu (by rw [List.getElem?_map,ek];rfl)
  obtain ⟨ri,ti⟩:=hr.rep' hi1
  obtain ⟨rj,tj⟩:=hr.rep' hj1
  obtain ⟨rp,tp⟩:=hr.rep' hp1
  refine qk ha (qo a1 ⟨some (.nd e i j),rfl,fun p2 hp2=>?_⟩)
  have hop:o≠hp:=aua ho hhp (fun e=>by cases e)
  have ho2:o≠p2:=neL ho hp2
  have hh2:hp≠p2:=neL hhp hp2
  have fo:∀ A Z,(qe (qe L p2 Z) hp A) o=some (.ins C (fsP hp)):=fun A Z=>(qd hop).trans ((qd ho2).trans ho)
  refine xt q8 fun keep kp=>ao9 ⟨by show 2<sizeLine;decide,fun k zs L'=>∃ hs',L'=qe (qe L p2 (.lst (nY [i,j]))) hp (.lst (nY hs'))∧hs'.length=hs.length∧Rkd rk hs'∧(∀ x s,Rep hs x s→Rep hs' x s)∧rts hs'=rts hs∧zs=nY ([ri,rj].take k),⟨hs,?_,rfl,hr,fun _ _ h=>h,rfl,rfl⟩,?_,?_,?_⟩
  · exact (aai ((qd hh2).trans hhp)).symm
  · rintro k zs L' ⟨hs',rfl,_⟩
    exact kp _ (by rw [qd (Ne.symm hh2)];rfl)
  · rintro k y zs L' hy ⟨hs',rfl,l1,k1,t1,n1,rfl⟩
    obtain ⟨n,en,rfl⟩:=acr hy
    have hn:n<hs.length∧∃ rn,Rep hs n rn∧nY ([ri,rj].take k)++[.int (rn:Int)]=nY ([ri,rj].take (k+1)):=by
      match k,en with
      | 0,en=>cases en;exact ⟨hi1,ri,ti,rfl⟩
      | 1,en=>cases en;exact ⟨hj1,rj,tj,rfl⟩
    obtain ⟨hn,rn,tn,ezs⟩:=hn
    refine xa (fo _ _) ⟨rfl,ac3,o,hp,hs',n,_,rk,rfl,rfl,fo _ _,q8,k1,by omega,fun r hs2 l2 k2 t2 a2 n2=>?_⟩
    cases t2.uniq (t1 _ _ tn)
    exact ⟨_,LSub.refl _,hs2,za,by omega,k2,fun x s z=>a2 x s (t1 x s z),by omega,ezs⟩
  · rintro zs L' ⟨hs',rfl,l1,k1,t1,n1,rfl⟩ p3 hp3
    have hp3':L p3=none:=jd (LSub.new hp2) (xo hp3)
    have ne3:hp≠p3:=neL q8 hp3
    have f0:atI (nY ([ri,rj].take (nY (vo (some (Kn.nd e i j)))).length)) 0=some (.int (ri:Int)):=rfl
    have f1:atI (nY ([ri,rj].take (nY (vo (some (Kn.nd e i j)))).length)) 1=some (.int (rj:Int)):=rfl
    refine qk q8 (qo f0 (qk q8 (qo f1 ?_)))
    have fo3:∀ Z,(qe (qe (qe L p2 (.lst (nY [i,j]))) hp (.lst (nY hs'))) p3 Z) o=some (.ins C (fsP hp)):=fun Z=>(qd (neL (fo _ _) hp3)).trans (fo _ _)
    have sub:∀ (hs2:List Nat) Z,LSub (qe L hp (.lst (nY hs2))) (qe (qe (qe (qe L p2 (.lst (nY [i,j]))) hp (.lst (nY hs'))) p3 Z) hp (.lst (nY hs2))):=fun hs2 Z b u e=>by
      by_cases c:b=hp
      · subst c;rw [q8] at e ⊢;exact e
      · rw [qd c] at e
        rw [qd c,qd (neL e hp3'),qd c,qd (neL e hp2)]
        exact e
    show kh (decide ((ri:Int)=(rj:Int))) _ _
    rw [ajk]
    refine ko (fun c=>?_) (fun c=>?_)
    · refine qk q8 (qo f0 ?_)
      refine xa (fo3 _) ⟨rfl,ac3,o,hp,hs',p,_,rk,rfl,rfl,fo3 _,(qd ne3).trans q8,k1,by omega,fun r hs2 l2 k2 t2 a2 n2=>?_⟩
      cases t2.uniq (t1 _ _ tp)
      show agm Q (.bl (!decide ((ri:Int)=(rp:Int)))) _
      rw [ajk]
      have:=q ri rj rp hs2 ti tj tp ⟨by omega,rk,k2⟩ (fun x s z=>a2 x s (t1 x s z)) (by omega)
      rw [decide_eq_true c,Bool.true_and] at this
      exact ade (sub hs2 _) this
    · have:=q ri rj rp hs' ti tj tp ⟨by omega,rk,k1⟩ t1 n1
      rw [decide_eq_false c,Bool.false_and] at this
      refine ade (L:=qe L hp (.lst (nY hs'))) (fun b u eb=>?_) this
      have z:=sub hs' (.lst (nY ([ri,rj].take (nY (vo (some (Kn.nd e i j)))).length))) b u
      have e2:qe (qe (qe (qe L p2 (.lst (nY [i,j]))) hp (.lst (nY hs'))) p3 (.lst (nY ([ri,rj].take (nY (vo (some (Kn.nd e i j)))).length)))) hp (.lst (nY hs'))=qe (qe (qe L p2 (.lst (nY [i,j]))) hp (.lst (nY hs'))) p3 (.lst (nY ([ri,rj].take (nY (vo (some (Kn.nd e i j)))).length))):=aai ((qd ne3).trans q8)
      rw [e2] at z
      exact z eb
def awb (ks:List (Option Kn)) (n p:Nat):Prop:=∃ e i j,ks[p]?=some (some (.nd e i j))∧p<n∧i<n∧j<n
def ac4 (C:Addr):Sp3:=fun ys L Q=>∃ o hp a b,∃ hs:List Nat,∃ ks:List (Option Kn),∃ es:List Nat,ys=[.ref o,.ref a,.ref b]∧L o=some (.ins C (fsP hp))∧L hp=some (.lst (nY hs))∧L a=some (.lst (osY ks))∧L b=some (.lst (nY es))∧a≠hp∧b≠hp∧(∃ rk,Rkd rk hs)∧(∀ p∈es,awb ks hs.length p)∧hs.length≤1000∧
  ∀ s zs hs',L s=none→Gd hs hs'→zs.length+rts hs'=rts hs→(FoR ks hs hs' es∧awy ks hs' es)→Q (.ref s) (qe (qe L hp (.lst (nY hs'))) s (.lst zs))
theorem as4 (hs:List Nat):rts hs≤hs.length:=by
  unfold rts
  exact Nat.le_trans (List.countP_le_length) (by rw [List.length_range];omega)
theorem apf {C:Addr}:∀ ys L Q,ac4 C ys L Q→x9 (adw C (ae1 C) (wl C)) 6 ys L Q:=by
  rintro ys L Q ⟨o,hp,a,b,hs,ks,es,rfl,ho,hhp,ha,hb,hap,hbp,hrk,hes,hlen,q⟩
  intro s hs0
  have hop:o≠hp:=aua ho hhp (fun e=>by cases e)
  have hos:o≠s:=neL ho hs0
  have hps:hp≠s:=neL hhp hs0
  have fo:∀ A Z,(qe (qe L hp A) s Z) o=some (.ins C (fsP hp)):=fun A Z=>(qd hos).trans ((qd hop).trans ho)
  have fh:∀ A Z,(qe (qe L hp A) s Z) hp=some A:=fun A Z=>(qd hps).trans q8
  have fa:∀ A Z,(qe (qe L hp A) s Z) a=some (.lst (osY ks)):=fun A Z=>(qd (neL ha hs0)).trans ((qd hap).trans ha)
  have fb:∀ A Z,(qe (qe L hp A) s Z) b=some (.lst (nY es)):=fun A Z=>(qd (neL hb hs0)).trans ((qd hbp).trans hb)
  have e0:qe L s (.lst [])=qe (qe L hp (.lst (nY hs))) s (.lst []):=by rw [aai hhp]
  refine ⟨fun m τ L'=>∃ hs' zs,∃ bf:Int,∃ c5,τ=[some (.ref o),some (.ref a),some (.ref b),some (.ref s),some (.int bf),c5]∧L'=qe (qe L hp (.lst (nY hs'))) s (.lst zs)∧Gd hs hs'∧zs.length+rts hs'=rts hs∧(FoR ks hs hs' es∧(bf<(zs.length:Int)∨awy ks hs' es))∧m=2*rts hs'+(if bf<(zs.length:Int) then 1 else 0),⟨_,hs,[],-1,_,rfl,e0,⟨rfl,hrk⟩,Nat.zero_add _,⟨⟨fun _ _ z=>z,fun _ _ _ F=>F⟩,.inl (by decide)⟩,rfl⟩,?_⟩
  rintro m τ L' ⟨hs',zs,bf,c5,rfl,rfl,g,hrt,⟨mo,sh⟩,rfl⟩
  refine qk q8 ?_
  show kh (decide (bf<(zs.length:Int))) _ _
  refine ko (fun c=>?_) (fun c=>fin (q s zs hs' hs0 g hrt ⟨mo,sh.resolve_left c⟩))
  refine ⟨_,fun _ _ h=>h,qk q8 ?_⟩
  refine vm (ys:=nY es) (zg (fb _ _)) (fun i τ L'=>∃ hs2 zs2 c5,τ=[some (.ref o),some (.ref a),some (.ref b),some (.ref s),some (.int (zs.length:Int)),c5]∧L'=qe (qe L hp (.lst (nY hs2))) s (.lst zs2)∧Gd hs hs2∧zs2.length+rts hs2=rts hs∧zs.length≤zs2.length∧(FoR ks hs hs2 es∧(zs.length<zs2.length∨awy ks hs2 (es.take i)))) ⟨hs',zs,_,rfl,rfl,g,hrt,Nat.le_refl _,mo,.inr fun p hp=>by cases hp⟩ ?_ ?_ ?_
  · rintro i τ L' ⟨hs2,zs2,c5,rfl,rfl,_⟩
    rw [fb,fb]
  · rintro i y τ L' hy ⟨hs2,zs2,c5,rfl,rfl,⟨g1,rk,g2⟩,hrt2,hzz,mo2,sh2⟩
    obtain ⟨p,ep,rfl⟩:=acr hy
    obtain ⟨e,i',j',ek,h1,h2,h3⟩:=hes p (List.mem_of_getElem? ep)
    have a1:atI (osY ks) (p:Int)=some (ajp (some (.nd e i' j'))):=xu (by rw [List.getElem?_map,ek];rfl)
    refine ⟨o,hp,a,hs2,ks,p,i',j',e,_,rfl,rfl,fo _ _,fh _ _,fa _ _,hap,⟨rk,g2⟩,ek,by omega,by omega,by omega,fun ri rj rp hs3 ti tj tp ⟨l3,k3⟩ t3 n3=>?_⟩
    rw [aad (Ne.symm hps),za]
    cases cc:(decide (ri=rj)&&!decide (ri=rp)) with
    | false=>
      refine ⟨_,LSub.refl _,hs3,zs2,_,rfl,rfl,⟨by omega,k3⟩,by omega,hzz,⟨mo2.1.trans (ah0 t3),fun R E c F=>ajf g2 l3 t3 (mo2.2 R E c F)⟩,sh2.imp id fun sh=>?_⟩
      have et:es.take (i+1)=es.take i++[p]:=by rw [List.take_succ,ep];rfl
      rw [et]
      intro x hx f u v ex cx
      rcases List.mem_append.mp hx with hx | hx
      · obtain ⟨f',u',v',ex',_,hu,hv⟩:=hes x (List.mem_of_mem_take hx)
        rw [ex] at ex';cases ex'
        obtain ⟨ru,tu⟩:=g2.rep' (i:=u) (by omega)
        obtain ⟨rv,tv⟩:=g2.rep' (i:=v) (by omega)
        exact ah0 t3 _ _ (sh x hx f u v ex (al6 t3 tu tv cx))
      · rw [List.mem_singleton.mp hx] at ex ⊢
        rw [ek] at ex;cases ex
        obtain ⟨r,c3,c4⟩:=cx
        have e5:=(t3 _ _ ti).uniq c3
        have e6:=(t3 _ _ tj).uniq c4
        rw [decide_eq_true (e5.trans e6.symm),Bool.true_and] at cc
        by_cases e7:ri=rp
        · exact ⟨ri,e7▸t3 _ _ tp,t3 _ _ ti⟩
        · rw [decide_eq_false e7] at cc;cases cc
    | true=>
      have c2:ri≠rp:=by
        have:=(Bool.and_eq_true _ _▸cc).2
        intro z
        rw [decide_eq_true z] at this
        cases this
      refine xa (fo _ _) ⟨rfl,ah7,qk (fa _ _) (qo a1 ⟨o,hp,hs3,p,i',rp,ri,_,_,rfl,rfl,rfl,fo _ _,fh _ _,k3,t3 _ _ tp,t3 _ _ ti,by omega,by omega,fun hs4 l4 k4 r4 e1 e2=>?_⟩)⟩
      rw [aad (Ne.symm hps),za]
      have e3:=e2 (Ne.symm c2)
      have hb2:=as4 hs
      refine qk q8 (z0 q8 ⟨Nat.lt_of_le_of_lt (by omega:zs2.length≤1000) (by decide),_,LSub.refl _,hs4,zs2++[_],_,rfl,za,⟨by omega,k4⟩,?_,?_,⟨(mo2.1.trans (ah0 t3)).trans (agn r4),fun R E c F=>?_⟩,.inl (by rw [List.length_append,List.length_singleton];omega)⟩)
      · rw [List.length_append,List.length_singleton];omega
      · rw [List.length_append,List.length_singleton];omega
      · obtain ⟨rk3,k3'⟩:=k3
        have F3:=ajf g2 l3 t3 (mo2.2 R E c F)
        have c1:ri=rj:=of_decide_eq_true (Bool.and_eq_true _ _▸cc).1
        exact aj2 k3' l4 r4 (t3 _ _ tp) (t3 _ _ ti) E (c p (List.mem_of_getElem? ep) e i' j' ek (F3 _ _ ⟨ri,t3 _ _ ti,c1▸t3 _ _ tj⟩)) F3
  · rintro τ L' ⟨hs2,zs2,c5,rfl,rfl,g2,hrt2,hzz,mo2,sh2⟩
    rw [vz,List.take_length] at sh2
    refine ⟨_,LSub.refl _,2*rts hs2+(if ((zs.length:Nat):Int)<(zs2.length:Int) then 1 else 0),?_,hs2,zs2,_,_,rfl,rfl,g2,hrt2,⟨mo2,sh2.imp (fun z=>by omega) id⟩,rfl⟩
    rw [if_pos c]
    split<;>omega
end L3
namespace L3
open PySem L2 Words
local macro_rules | `(tactic| walk_at "w")=>`(tactic| conv=>whnf)
theorem apm {b:Bool} {A B:Prop} (h1:A) (h2:B):kh b A B:=by cases b<;>assumption
def adm (n:Nat) (ps:List (Nat×Nat)):Prop:=∀ x∈ps,x.1<n∧x.2<n
def KnR (ks:List (Option Kn)):Prop:=∀ (p:Nat) (e:Bool) (i j:Nat),ks[p]?=some (some (Kn.nd e i j))→i<ks.length∧j<ks.length
theorem arn (n:Nat):Rkd (fun _=>0) (List.range n):=fun i h e=>by
  have hi:i<n:=by have:=qt e;rwa [List.length_range] at this
  rw [List.getElem?_range hi] at e
  cases e
  exact ⟨by rw [List.length_range];exact hi,fun z=>absurd rfl z⟩
theorem a0x {b:Bool} {A B:Prop} (h1:b=true→A) (h2:b=false→B):kh b A B:=by
  cases b with
  | true=>exact h1 rfl
  | false=>exact h2 rfl
def as5 (n:Nat) (ks:List (Option Kn)) (ps:List (Nat×Nat)) (es:List Nat):Prop:=∀ R:Nat→Nat→Prop,(∀ a,R a a)→(∀ a b,R a b→R b a)→(∀ a b c,R a b→R b c→R a c)→(∀ x∈ps,R x.1 x.2)→
  (∀ p∈es,∀ e i j,ks[p]?=some (some (.nd e i j))→R i j→R p i)→∀ a b,a<n→b<n→R a b
theorem aqf (n:Nat):rts (List.range n)=n:=by
  unfold rts
  rw [List.length_range]
  refine Eq.trans (List.countP_eq_length.mpr fun i hi=>?_) List.length_range
  exact decide_eq_true (List.getElem?_range (List.mem_range.mp hi))
theorem aqy {n:Nat} {ks:List (Option Kn)} {ps:List (Nat×Nat)} {es hs:List Nat} (hl:hs.length=n) {rk:Nat→Nat} (hr:Rkd rk hs) (hes:∀ p∈es,awb ks n p) (C:as5 n ks ps es) (h1:∀ x∈ps,Con hs x.1 x.2) (h2:awy ks hs es) (hn:1≤n):rts hs=1:=by
  have all:∀ a b,a<n→b<n→a=b∨Con hs a b:=C (fun a b=>a=b∨Con hs a b) (fun a=>.inl rfl) (fun a b h=>h.elim (fun e=>.inl e.symm) fun ⟨r,p,q⟩=>.inr ⟨r,q,p⟩)
    (fun a b c h k=>by
      rcases h with rfl | ⟨r,p,q⟩
      · exact k
      · rcases k with rfl | ⟨s,p2,q2⟩
        · exact .inr ⟨r,p,q⟩
        · exact .inr ⟨r,p,by rw [q.uniq p2];exact q2⟩) (fun x hx=>.inr (h1 x hx))
    (fun p hp e i j ek h=>by
      rcases h with rfl | h
      · obtain ⟨e',i',j',ek',_,hi,_⟩:=hes p hp
        rw [ek] at ek';cases ek'
        obtain ⟨r,t⟩:=hr.rep' (i:=i) (by omega)
        exact .inr (h2 p hp e i i ek ⟨r,t,t⟩)
      · exact .inr (h2 p hp e i j ek h))
  obtain ⟨r,t⟩:=hr.rep' (i:=0) (by omega)
  have rt:=t.top
  have rl:=qt rt
  have e:=aas (p:=fun i=>decide (hs[i]?=some i)) (a:=r) (decide_eq_true rt) (l:=List.range hs.length) List.nodup_range (List.mem_range.mpr rl)
  unfold rts
  rw [← e]
  have z:(List.range hs.length).countP (fun j=>decide (hs[j]?=some j)&&!decide (j=r))=0:=List.countP_eq_zero.mpr fun j hj=>by
    intro h
    rw [Bool.and_eq_true] at h
    have j1:=of_decide_eq_true h.1
    have j2:j≠r:=fun c=>by rw [decide_eq_true c] at h;cases h.2
    rcases all j r (by have:=List.mem_range.mp hj;omega) (by omega) with c | ⟨s,p,q⟩
    · exact j2 c
    · exact j2 ((p.of_top j1).symm.trans (q.of_top rt))
  rw [z]
theorem aus {n:Nat} {hs:List Nat} (hl:hs.length=n) {rk:Nat→Nat} (hr:Rkd rk hs) (h:rts hs=1) {a b:Nat} (ha:a<n) (hb:b<n):Con hs a b:=by
  obtain ⟨r,ta⟩:=hr.rep' (i:=a) (by omega)
  obtain ⟨s,tb⟩:=hr.rep' (i:=b) (by omega)
  have rt:=ta.top
  have st:=tb.top
  have e:=aas (p:=fun i=>decide (hs[i]?=some i)) (a:=r) (decide_eq_true rt) (l:=List.range hs.length) List.nodup_range (List.mem_range.mpr (qt rt))
  have h':(List.range hs.length).countP (fun i=>decide (hs[i]?=some i))=1:=h
  have z:(List.range hs.length).countP (fun j=>decide (hs[j]?=some j)&&!decide (j=r))=0:=by omega
  by_cases c:s=r
  · exact ⟨r,ta,c▸tb⟩
  · have:=List.countP_eq_zero.mp z s (List.mem_range.mpr (qt st))
    exact absurd (by rw [decide_eq_true st,decide_eq_false c];rfl) this
def Rt (ks:List (Option Kn)) (lk ct:List (Nat×Nat)):Prop:=as5 ks.length ks (zq ks lk ct) (zb true ks)∧(x4 ks).length=ks.length∧(zq ks lk ct).length+(zb true ks).length+1=ks.length
def aak (C:Addr):Sp3:=fun ys L Q=>∃ a j b,∃ ks:List (Option Kn),∃ ps:List (Nat×Nat),∃ es:List Nat,ys=[.ref a,.ref j,.ref b]∧L a=some (.lst (osY ks))∧L j=some (.lst (z9 ps))∧L b=some (.lst (nY es))∧ks.length≤1000∧adm ks.length ps∧ps.length≤10000∧(∀ p∈es,awb ks ks.length p)∧
  ∀ zs p,L p=none→(1≤ks.length→(zs.length+1=ks.length↔as5 ks.length ks ps es))→Q (.ref p) (qe L p (.lst zs))
theorem an9 {C:Addr}:∀ ys L Q,aak C ys L Q→x9 (ahx C (abg C) (ac6 C) (ac4 C)) 4 ys L Q:=by
  rintro ys L Q ⟨a,j,b,ks,ps,es,rfl,ha,hj,hb,hz,hps,hpl,hes,q⟩
  refine qk ha fun x hx=>⟨x,ks.length,_,rfl,by rw [List.length_map],q8,hz,fun hp hhp=>⟨rfl,?_⟩⟩
  have hxp:x≠hp:=neL q8 hhp
  have nhp:L hp=none:=xo hhp
  have hx2:(qe (qe (qe L x (.ins C [])) hp (.lst (nY (List.range ks.length)))) x (.ins C (fsP hp))) x=some (.ins C (fsP hp)):=q8
  have hh2:(qe (qe (qe L x (.ins C [])) hp (.lst (nY (List.range ks.length)))) x (.ins C (fsP hp))) hp=some (.lst (nY (List.range ks.length))):=(qd (Ne.symm hxp)).trans q8
  have sub:LSub L (qe (qe (qe L x (.ins C [])) hp (.lst (nY (List.range ks.length)))) x (.ins C (fsP hp))):=(((LSub.new hx).trans (LSub.new hhp)).upd hx)
  generalize qe (qe (qe L x (.ins C [])) hp (.lst (nY (List.range ks.length)))) x (.ins C (fsP hp))=L2 at hx2 hh2 sub
  have ln:(List.range ks.length).length=ks.length:=List.length_range
  refine ⟨x,hp,j,List.range ks.length,ps,rfl,hx2,hh2,sub _ _ hj,neL hj nhp,⟨_,arn _⟩,fun y hy=>by rw [ln];exact hps y hy,hpl,fun s1 zs1 hs1 n1 g1 z1 r1 m1=>?_⟩
  have hs1p:hp≠s1:=neL hh2 n1
  refine ⟨x,hp,a,b,hs1,ks,es,rfl,(qd (neL hx2 n1)).trans ((qd hxp).trans hx2),(qd hs1p).trans q8,(qd (neL (sub _ _ ha) n1)).trans ((qd (neL ha nhp)).trans (sub _ _ ha)),(qd (neL (sub _ _ hb) n1)).trans ((qd (neL hb nhp)).trans (sub _ _ hb)),neL ha nhp,neL hb nhp,g1.2,fun p hp=>by rw [g1.1,ln];exact hes p hp,by rw [g1.1,ln];exact hz,fun s2 zs2 hs2 n2 g2 r2 m2=>?_⟩
  have e1:(qe (qe (qe (qe L2 hp (.lst (nY hs1))) s1 (.lst zs1)) hp (.lst (nY hs2))) s2 (.lst zs2)) s1=some (.lst zs1):=(qd (neL q8 n2)).trans ((qd (Ne.symm hs1p)).trans q8)
  have l1:=as4 (List.range ks.length)
  rw [ln] at l1
  have hb5:=avp
  refine ⟨_,_,e1,q8,by omega,fun p4 hp4=>?_⟩
  have np4:L2 p4=none:=xo (xo (xo (xo hp4)))
  have np4':L p4=none:=jd sub np4
  refine ade (L:=qe L p4 (.lst (zs1++zs2))) (fun y u e=>?_) (q _ p4 np4' fun hn=>?_)
  rotate_left
  · obtain ⟨l2,rk2,k2⟩:=g2
    have hl2:hs2.length=ks.length:=by rw [l2,g1.1,ln]
    rw [aqf] at r1
    rw [List.length_append]
    refine ⟨fun h R rr rs rt hj hf a b ha hb=>?_,fun C=>?_⟩
    · have E:Eqv R:=⟨rr,fun {a b}=>rs a b,fun {a b c}=>rt a b c⟩
      exact m2.1.2 R E hf (m1.2.2 R E hj (aoa E _)) a b (aus hl2 k2 (by omega) ha hb)
    · have:=aqy hl2 k2 hes C (fun x hx=>m2.1.1 _ _ (m1.2.1 x hx)) m2.2 hn
      omega
  by_cases c:y=p4
  · subst c;rw [q8] at e ⊢;exact e
  · rw [qd c] at e
    have e2:=sub _ _ e
    have ns2:L2 s2=none:=xo (xo n2)
    rw [qd c,qd (neL e2 ns2),qd (neL e nhp),qd (neL e2 n1),qd (neL e nhp)]
    exact e2
def ae8:Sp3:=fun ys L Q=>∃ a j b,∃ ks:List (Option Kn),∃ ps:List (Nat×Nat),∃ es:List Nat,ys=[.ref a,.ref j,.ref b]∧L a=some (.lst (osY ks))∧L j=some (.lst (z9 ps))∧L b=some (.lst (nY es))∧ks.length≤1000∧adm ks.length ps∧ps.length≤10000∧(∀ p∈es,awb ks ks.length p)∧∀ r,((x4 ks).length=ks.length→(r=true↔as5 ks.length ks ps es∧ps.length+es.length+1=ks.length))→Q (.bl r) L
theorem ayp {C:Addr}:∀ ys L Q,ae8 ys L Q→x9 (ky aa6 (aak C)) 4 ys L Q:=by
  rintro ys L Q ⟨a,j,b,ks,ps,es,rfl,ha,hj,hb,hz,hps,hpl,hes,q⟩
  refine ⟨a,ks,rfl,ha,hz,fun p1 hp1=>qk q8 ?_⟩
  have s1:LSub L (qe L p1 (.lst (nY (x4 ks)))):=LSub.new hp1
  refine qk (s1 _ _ hj) (qk (s1 _ _ hb) ?_)
  show kh (decide (((z9 ps).length:Int)+((nY es).length:Int)=((nY (x4 ks)).length:Int) - 1)) _ _
  rw [vz,vz,List.length_map]
  refine ko (fun c=>?_) (fun c=>ade s1 (q _ fun t1=>⟨(fun z=>by cases z),fun z=>absurd (by omega) c⟩))
  refine ⟨a,j,b,ks,ps,es,rfl,s1 _ _ ha,s1 _ _ hj,s1 _ _ hb,hz,hps,hpl,hes,fun zs p2 hp2 hq=>qk q8 ?_⟩
  show agm Q (.bl (decide ((zs.length:Int)=((x4 ks).length:Int) - 1))) _
  refine ade (s1.trans (LSub.new hp2)) (q _ fun t1=>?_)
  have:=hq (by omega)
  refine ⟨fun z=>⟨this.mp (by have:=of_decide_eq_true z;omega),by omega⟩,fun z=>decide_eq_true ?_⟩
  have:=this.mpr z.1
  omega
theorem aiw {ks:List (Option Kn)} {lk ct:List (Nat×Nat)} (h1:adm ks.length lk) (h2:adm ks.length ct) (h3:KnR ks):adm ks.length (zq ks lk ct):=by
  intro x hx
  unfold zq at hx
  rcases List.mem_append.mp hx with hx | hx
  · rcases List.mem_append.mp hx with hx | hx
    · exact h1 x hx
    · exact h2 x hx
  · unfold zm at hx
    obtain ⟨p,hp,hx⟩:=List.mem_flatMap.mp hx
    obtain ⟨hp1,k,ek,hk⟩:=wt hp
    rw [ek] at hx
    obtain ⟨q,hq,rfl⟩:=List.mem_map.mp hx
    cases k with
    | none=>cases hq
    | some k=>
      cases k with
      | lf t n=>cases hq
      | nd e i j=>
        obtain ⟨a1,a2⟩:=h3 p e i j ek
        have hq:q∈[i,j]:=hq
        refine ⟨hp1,?_⟩
        rcases List.mem_cons.mp hq with rfl | hq
        · exact a1
        · rw [List.mem_singleton.mp hq];exact a2
theorem aj0 {ks:List (Option Kn)} {lk ct:List (Nat×Nat)}:(zq ks lk ct).length≤lk.length+ct.length+2*ks.length:=by
  unfold zq
  rw [List.length_append,List.length_append]
  have h1:=abz ks (zb false ks)
  have h2:(zb false ks).length≤ks.length:=adh (je false) ks ks.length
  omega
theorem ajo {ks:List (Option Kn)} {e:Bool} (h3:KnR ks):∀ p∈zb e ks,∃ i j,ks[p]?=some (some (.nd e i j))∧p<ks.length∧i<ks.length∧j<ks.length:=fun p hp=>by
  obtain ⟨hp1,k,ek,hk⟩:=wt hp
  cases k with
  | none=>cases hk
  | some k=>
    cases k with
    | lf t n=>cases hk
    | nd e' i j=>
      have:e'=e:=of_decide_eq_true hk
      subst this
      exact ⟨i,j,ek,hp1,h3 p _ i j ek⟩
def ay5 (L:LHp) (a l c:Addr) (ks:List (Option Kn)) (lk ct:List (Nat×Nat)):Prop:=L a=some (.lst (osY ks))∧L l=some (.lst (z9 lk))∧L c=some (.lst (z9 ct))∧ks.length≤1000∧lk.length≤1000∧ct.length≤1000∧adm ks.length lk∧adm ks.length ct∧KnR ks
def acy:Sp3:=fun ys L Q=>∃ a l c ks lk ct,ys=[am4 a l c]∧ay5 L a l c ks lk ct∧∀ r,((x4 ks).length=ks.length→(r=true↔Rt ks lk ct))→Q (.bl r) L
theorem ash:∀ ys L Q,acy ys L Q→x9 (afl ae8 aa7 aa8) 1 ys L Q:=by
  rintro ys L Q ⟨a,l,c,ks,lk,ct,rfl,⟨ha,hl,hc,z1,z2,z3,r1,r2,r3⟩,q⟩
  refine ⟨a,l,c,ks,lk,ct,rfl,ha,hl,hc,z1,z2,z3,fun p1 hp1=>?_⟩
  have s1:LSub L (qe L p1 (.lst (z9 (zq ks lk ct)))):=LSub.new hp1
  refine ⟨a,l,c,ks,rfl,s1 _ _ ha,z1,fun p2 hp2=>?_⟩
  have s2:=s1.trans (LSub.new (o:=.lst (nY (zb true ks))) hp2)
  have jl:=aj0 (ks:=ks) (lk:=lk) (ct:=ct)
  refine ⟨a,p1,p2,ks,_,_,rfl,s2 _ _ ha,LSub.new hp2 _ _ q8,q8,z1,aiw r1 r2 r3,by omega,fun p hp=>?_,fun r hr=>ade s2 (q r fun t=>(hr t).trans ⟨fun z=>⟨z.1,t,z.2⟩,fun z=>⟨z.1,z.2.2⟩⟩)⟩
  obtain ⟨i,j,h1,h2,h3,h4⟩:=ajo r3 p hp
  exact ⟨true,i,j,h1,h2,h3,h4⟩
def ag2:Sp3:=fun ys L Q=>∃ a l c ks lk ct,ys=[am4 a l c]∧ay5 L a l c ks lk ct∧(((x4 ks).length=ks.length→Rt ks lk ct)→Q .non L)∧(¬ Rt ks lk ct→∀ p zs,L p=none→zs.length≤1000→Q (.ref p) (qe L p (.lst zs)))
theorem av0:∀ ys L Q,ag2 ys L Q→x9 (af4 acy aa8 aa7 ae8) 9 ys L Q:=by
  rintro ys L Q ⟨a,l,c,ks,lk,ct,rfl,W,q0,q⟩
  have W0:=W
  obtain ⟨ha,hl,hc,z1,z2,z3,r1,r2,r3⟩:=W
  refine ⟨a,l,c,ks,lk,ct,rfl,W0,fun r hr=>?_⟩
  refine a0x (fun rt=>fin (q0 fun t=>(hr t).mp rt)) fun rf=>?_
  replace q:=q fun h=>by rw [(hr h.2.1).mpr h] at rf;cases rf
  refine ⟨a,l,c,ks,lk,ct,rfl,ha,hl,hc,z1,z2,z3,fun p1 hp1=>?_⟩
  have s1:LSub L (qe L p1 (.lst (z9 (zq ks lk ct)))):=LSub.new hp1
  refine ⟨a,l,c,ks,rfl,s1 _ _ ha,z1,fun p2 hp2=>?_⟩
  have s2:=s1.trans (LSub.new (o:=.lst (nY (zb true ks))) hp2)
  intro p3 hp3
  have s3:=s2.trans (LSub.new (o:=.lst []) hp3)
  have n2:L p2=none:=jd s1 hp2
  have n3:L p3=none:=jd s2 hp3
  have f1:=LSub.new (o:=.lst []) hp3 _ _ (LSub.new (o:=.lst (nY (zb true ks))) hp2 _ _ (q8 (L:=L) (a:=p1) (o:=.lst (z9 (zq ks lk ct)))))
  have f2:=LSub.new (o:=.lst []) hp3 _ _ (q8 (L:=qe L p1 (.lst (z9 (zq ks lk ct)))) (a:=p2) (o:=.lst (nY (zb true ks))))
  have f3:(qe (qe (qe L p1 (.lst (z9 (zq ks lk ct)))) p2 (.lst (nY (zb true ks)))) p3 (.lst [])) p3=some (.lst []):=q8
  have n12:p1≠p2:=neL q8 hp2
  have n13:p1≠p3:=neL (LSub.new (o:=.lst (nY (zb true ks))) hp2 _ _ (q8 (L:=L) (a:=p1) (o:=.lst (z9 (zq ks lk ct))))) hp3
  have n23:p2≠p3:=neL q8 hp3
  generalize qe (qe (qe L p1 (.lst (z9 (zq ks lk ct)))) p2 (.lst (nY (zb true ks)))) p3 (.lst [])=L3 at s3 f1 f2 f3
  have jl:=aj0 (ks:=ks) (lk:=lk) (ct:=ct)
  have jr:=aiw r1 r2 r3
  have el:(zb true ks).length≤ks.length:=adh (je true) ks ks.length
  refine xt f2 fun keep kp=>ag4 ⟨fun i τ L'=>∃ ps zs c5 c6 c7 c8,τ=[some (am4 a l c),some (.ref a),some (.ref p1),some (.ref p2),some (.ref p3),c5,c6,c7,c8]∧LSub L L'∧L' p1=some (.lst (z9 ps))∧L' p2=some (.lst (nY (zb true ks)))∧L' p3=some (.lst zs)∧adm ks.length ps∧ps.length=(zq ks lk ct).length+i∧zs.length=i,⟨_,[],_,_,_,_,rfl,s3,f1,f2,f3,jr,rfl,rfl⟩,?_,?_,?_⟩
  · rintro i τ L' ⟨ps,zs,c5,c6,c7,c8,rfl,s,g1,g2,g3,_⟩
    exact kp L' (g2.trans f2.symm)
  · rintro i y τ L' hy ⟨ps,zs,c5,c6,c7,c8,rfl,s,g1,g2,g3,wr,lp,lz⟩
    obtain ⟨z,ez,rfl⟩:=ad5 hy
    obtain ⟨p,ep,rfl⟩:=acr ez
    obtain ⟨i',j',ek,h1,h2,h3⟩:=ajo r3 p (List.mem_of_getElem? ep)
    have hi:=qt ep
    have a1:atI (osY ks) (p:Int)=some (ajp (some (.nd true i' j'))):=xu (by rw [List.getElem?_map,ek];rfl)
    have hb5:=avp
    refine qk (s _ _ ha) (qo a1 ?_)
    intro q1 hq1
    have t1:LSub L' (qe L' q1 (.lst [Y.tup [.int (p:Int),.int (i':Int)]])):=LSub.new hq1
    refine ⟨_,_,t1 _ _ g1,q8,by rw [List.length_map,List.length_singleton];omega,fun q2 hq2=>?_⟩
    have t2:=t1.trans (LSub.new (o:=.lst (z9 ps++[Y.tup [.int (p:Int),.int (i':Int)]])) hq2)
    refine z0 (t2 _ _ g2) fun q3 hq3=>?_
    have ec:((i:Int)+1)=((i+1:Nat):Int):=by omega
    rw [ec,aio]
    have t3:=t2.trans (LSub.new (o:=.lst ((nY (zb true ks)).drop (i+1))) hq3)
    have e2:(qe (qe (qe L' q1 (.lst [Y.tup [.int (p:Int),.int (i':Int)]])) q2 (.lst (z9 ps++[Y.tup [.int (p:Int),.int (i':Int)]]))) q3 (.lst ((nY (zb true ks)).drop (i+1)))) q2=some (.lst (z9 (ps++[(p,i')]))):=by
      refine Eq.trans (LSub.new hq3 _ _ q8) ?_
      unfold z9;rw [List.map_append];rfl
    have e3:(qe (qe (qe L' q1 (.lst [Y.tup [.int (p:Int),.int (i':Int)]])) q2 (.lst (z9 ps++[Y.tup [.int (p:Int),.int (i':Int)]]))) q3 (.lst ((nY (zb true ks)).drop (i+1)))) q3=some (.lst (nY ((zb true ks).drop (i+1)))):=by
      rw [q8];unfold nY;rw [List.map_drop]
    refine ⟨a,q2,q3,ks,ps++[(p,i')],(zb true ks).drop (i+1),rfl,t3 _ _ (s _ _ ha),e2,e3,z1,?_,by rw [List.length_append,List.length_singleton];omega,?_,fun r _=>?_⟩
    · intro x hx
      rcases List.mem_append.mp hx with hx | hx
      · exact wr x hx
      · rw [List.mem_singleton.mp hx];exact ⟨h1,h2⟩
    · intro x hx
      obtain ⟨i2,j2,w1,w2,w3,w4⟩:=ajo r3 x (List.mem_of_mem_drop hx)
      exact ⟨true,i2,j2,w1,w2,w3,w4⟩
    have u1:=t3 _ _ g1
    have u2:=t3 _ _ g2
    have u3:=t3 _ _ g3
    have us:=s.trans t3
    generalize qe (qe (qe L' q1 (.lst [Y.tup [.int (p:Int),.int (i':Int)]])) q2 (.lst (z9 ps++[Y.tup [.int (p:Int),.int (i':Int)]]))) q3 (.lst ((nY (zb true ks)).drop (i+1)))=L4 at u1 u2 u3 us
    clear e2 e3 t3 t2 t1 hq3 hq2 hq1
    have last:∀ (v:Y) (m:Nat),m<ks.length→Frg (fun τ L'=>∃ ps zs c5 c6 c7 c8,τ=[some (am4 a l c),some (.ref a),some (.ref p1),some (.ref p2),some (.ref p3),c5,c6,c7,c8]∧LSub L L'∧L' p1=some (.lst (z9 ps))∧L' p2=some (.lst (nY (zb true ks)))∧L' p3=some (.lst zs)∧adm ks.length ps∧ps.length=(zq ks lk ct).length+(i+1)∧zs.length=i+1)
        [some (am4 a l c),some (.ref a),some (.ref p1),some (.ref p2),some (.ref p3),some (.int (i:Int)),some (.int (p:Int)),some (prN (p,i')),some v] (qe (qe L4 p3 (.lst (zs++[v]))) p1 (.lst (z9 ps++[prN (p,m)]))):=by
      intro v m hm
      refine ⟨_,LSub.refl _,ps++[(p,m)],zs++[v],_,_,_,_,rfl,(us.upd n3).upd hp1,?_,?_,?_,?_,?_,?_⟩
      · rw [q8];unfold z9;rw [List.map_append];rfl
      · rw [qd (Ne.symm n12),qd n23];exact u2
      · rw [qd (Ne.symm n13),q8]
      · intro x hx
        rcases List.mem_append.mp hx with hx | hx
        · exact wr x hx
        · rw [List.mem_singleton.mp hx];exact ⟨h1,hm⟩
      · rw [List.length_append,List.length_singleton];omega
      · rw [List.length_append,List.length_singleton];omega
    have u1':∀ v,(qe L4 p3 (.lst (zs++[v]))) p1=some (.lst (z9 ps)):=fun v=>(qd n13).trans u1
    refine apm ?_ ?_
    · refine qk u3 (z0 u3 ⟨Nat.lt_of_le_of_lt (by omega:zs.length≤1000) (by decide),?_⟩)
      refine qk (u1' _) (qk ((qd (neL ha n3)).trans (us _ _ ha)) (qo a1 (z0 (u1' _) ⟨Nat.lt_of_le_of_lt (by rw [List.length_map];omega:(z9 ps).length≤10000) (by decide),?_⟩)))
      exact last (.int 1) j' h3
    · refine qk u3 (z0 u3 ⟨Nat.lt_of_le_of_lt (by omega:zs.length≤1000) (by decide),?_⟩)
      refine qk (u1' _) (qk ((qd (neL ha n3)).trans (us _ _ ha)) (qo a1 (z0 (u1' _) ⟨Nat.lt_of_le_of_lt (by rw [List.length_map];omega:(z9 ps).length≤10000) (by decide),?_⟩)))
      exact last (.int 0) i' h2
  · rintro τ L' ⟨ps,zs,c5,c6,c7,c8,rfl,s,g1,g2,g3,wr,lp,lz⟩
    rw [aaf,vz] at lz
    exact ade (LSub.put s g3) (q p3 zs n3 (by omega))
end L3
namespace L3
open PySem L2 Words
local macro_rules | `(tactic| walk_at "w")=>`(tactic| conv=>whnf)
end L3
namespace L3
open PySem L2 Words
local macro_rules | `(tactic| walk_at "w")=>`(tactic| conv=>whnf)
end L3
namespace L3
open PySem L2 Words
local macro_rules | `(tactic| walk_at "w")=>`(tactic| conv=>whnf)
def vk:Nat→Nat
  | 0=>1
  | n+1=>vk n*(n+1)
theorem ap8 (t t':Bool) (n n':Str):Da.eq (enc (.leaf t n)) (enc (.leaf t' n'))=(decide (t=t')&&decide (n=n')):=by
  by_cases h:n=n'
  · subst h;cases t<;>cases t'<;>simp [enc,Da.eq,Da.eqs,eqV,kL]<;>decide +kernel
  · cases t<;>cases t'<;>simp [enc,Da.eq,Da.eqs,eqV,kL,h]<;>decide +kernel
end L3
namespace L3
open PySem L2 Words
local macro_rules | `(tactic| walk_at "w")=>`(tactic| conv=>whnf)
def afu (t:Bool) (x:Str):Wd→Bool
  | .leaf u y=>decide (u=t)&&decide (y=x)
  | _=>false
def zk (ls:List Wd) (t:Bool) (x:Str):Nat:=ls.countP (afu t x)
def ao0:Wd→Str
  | .leaf _ n=>n
  | _ => ""
def agd (ls:List Wd):Prop:=∀ x,zk ls false x=zk ls true x
def a0i (ls:List Wd) (n:Nat):Prop:=
  (agd ls∧∀ nms:List Str,nms.Nodup→(∀ w∈ls,ao0 w∈nms)→n=(nms.map fun x=>vk (zk ls false x)).prod)∨(¬ agd ls∧n=0)
def LV (ws:List Wd):List Wd:=ws.flatMap Wd.leafL
theorem aeq (a b:List Wd):LV (a++b)=LV a++LV b:=by unfold LV;rw [List.flatMap_append]
end L3
namespace L3
open PySem L2 Words
local macro_rules | `(tactic| walk_at "w")=>`(tactic| conv=>whnf)
end L3
namespace L3
open PySem L2 Words
local macro_rules | `(tactic| walk_at "w")=>`(tactic| conv=>whnf)
def af5 (p_leaves_of:Sp3):TS3:=(qr (zc (wf qj) (qf 1))
  (qr (acu (x5 (qb 0)) (qf 2) (v8 (yBL ada (qb 1) (qa (qw p_leaves_of (qa (qb 2) qj)) qj))))
  (zu (qb 1))))
def abl (p_turned:Sp3):TS3:=(qr (acu (x5 (qb 0)) (qf 1) (ku (yB (yOp (yEq true) (yBL ahv (qb 0) (qa (qb 1) qj)) (yBL ahv (qb 0) (qa (qw p_turned (qa (qb 1) qj)) qj)))) (zu (yOp yIx (qb 1) (yC (.int 1)))) xj))
  (zu (yC .non)))
def afc (p_leaves_in:Sp3) (p_first_uneven:Sp3):TS3:=(qr (zc (qw p_leaves_in (qa (qb 0) qj)) (qf 1))
  (qr (ku (yB (ai9 true (qw p_first_uneven (qa (qb 1) qj)))) (zu (yC (.int 0))) xj)
  (qr (zc (yC (.int 1)) (qf 2))
  (qr (zc ay3 (qf 3))
  (qr (acu (x5 (qb 1)) (ab9 2 (zp (qf 4) (zp (qf 5) aa5))) (ku (yB (yOp (yEq false) (qb 4) (yC (.str "plain")))) (qr (ay1 (qb 3) (qb 5) (yOp wn (as8 (qb 3) (qb 5) (yC (.int 0))) (yC (.int 1))))
  (zc (yOp arc (qb 2) (axn (qb 3) (qb 5))) (qf 2))) xj))
  (zu (qb 2)))))))
theorem ajs {ws:List Wd} {x:Wd} (h:x∈LV ws):∃ t n,x=.leaf t n:=by
  obtain ⟨w,_,hx⟩:=List.mem_flatMap.mp h
  exact Wd.leafL_leaf hx
theorem akl (w:Wd):LV [w]=w.leafL:=by simp [LV]
theorem an0 (ws:List Wd) (i:Nat):(LV (ws.take i)).length≤(LV ws).length:=by
  have:=aeq (ws.take i) (ws.drop i)
  rw [List.take_append_drop] at this
  rw [this,List.length_append];omega
def aaj:Sp3:=fun ys L Q=>∃ a,∃ ws:List Wd,ys=[.ref a]∧L a=some (.lst (ws.map z8))∧(∀ w∈ws,w.depth≤63∧w.leaves≤63)∧(LV ws).length≤1000∧∀ p,L p=none→Q (.ref p) (qe L p (.lst ((LV ws).map z8)))
theorem avc:∀ ys L Q,aaj ys L Q→x9 (af5 (xb 63)) 3 ys L Q:=by
  rintro ys L Q ⟨a,ws,rfl,ha,hd,hz,q⟩
  intro p hp
  have hap:a≠p:=neL ha hp
  refine vm (ys:=ws.map z8) (zg ((qd hap).trans ha)) (fun i τ L'=>∃ c,τ=[some (.ref a),some (.ref p),c]∧L'=qe L p (.lst ((LV (ws.take i)).map z8))) ⟨_,rfl,rfl⟩ ?_ ?_ ?_
  · rintro i τ L' ⟨c,rfl,rfl⟩
    rw [qd hap,qd hap]
  · rintro i y τ L' hy ⟨c,rfl,rfl⟩
    rw [List.getElem?_map] at hy
    obtain ⟨w,ew,rfl⟩:=Option.map_eq_some_iff.mp hy
    have hw:=hd w (List.mem_of_getElem? ew)
    have et:ws.take (i+1)=ws.take i++[w]:=by rw [List.take_succ,ew];rfl
    have hl:=an0 ws (i+1)
    rw [et,aeq,akl,List.length_append] at hl
    refine qk q8 ⟨w,rfl,hw.1,hw.2,fun p2 hp2=>?_⟩
    have hpp:p≠p2:=neL q8 hp2
    refine z0 ((qd hpp).trans q8) (z0 q8 ⟨?_,?_⟩)
    · rw [List.length_map,List.length_map]
      have hb:(1000:Nat)≤sizeLine:=by decide
      omega
    · refine ⟨qe L p (.lst ((LV (ws.take (i+1))).map z8)),?_,_,rfl,rfl⟩
      rw [et,aeq,akl,List.map_append,aad (Ne.symm hpp),za]
      exact LSub.new ((qd (Ne.symm hpp)).trans ((qd (Ne.symm hpp)).symm.trans hp2))
  · rintro τ L' ⟨c,rfl,rfl⟩
    rw [List.length_map,List.take_length]
    exact fin (q p hp)
theorem aut (t:Bool) (x:Str) {w:Wd} (h:∃ u y,w=.leaf u y):Da.eq (enc w) (enc (.leaf t x))=afu t x w:=by
  obtain ⟨u,y,rfl⟩:=h
  exact ap8 u t y x
theorem arf {ls:List Wd} (h:∀ w∈ls,∃ u y,w=Wd.leaf u y) (t:Bool) (x:Str):((ls.map enc).countP fun d=>Da.eq d (enc (.leaf t x)))=zk ls t x:=by
  unfold zk
  rw [List.countP_map]
  refine List.countP_congr fun w hw=>?_
  rw [Function.comp,aut t x (h w hw)]
def af2 (ls:List Wd) (w:Wd):Bool:=!decide (zk ls false (ao0 w)=zk ls true (ao0 w))
def aig (ls:List Wd):Option Str:=(ls.find? (af2 ls)).map ao0
theorem atw (ls:List Wd) (t:Bool) (x:Str):af2 ls (.leaf t x)=!decide (zk ls t x=zk ls (!t) x):=by
  show (!decide (zk ls false x=zk ls true x))=_
  cases t
  · rfl
  · show _=!decide (zk ls true x=zk ls false x)
    by_cases h:zk ls false x=zk ls true x
    · rw [decide_eq_true h,decide_eq_true h.symm]
    · rw [decide_eq_false h,decide_eq_false (Ne.symm h)]
def aap:Sp3:=fun ys L Q=>∃ a,∃ ls:List Wd,ys=[.ref a]∧L a=some (.lst (ls.map z8))∧(∀ w∈ls,∃ t n,w=Wd.leaf t n)∧ls.length≤1000∧(∀ x,aig ls=some x→Q (.str x) L)∧(aig ls=none→Q .non L)
theorem awg:∀ ys L Q,aap ys L Q→x9 (abl (vg 63)) 2 ys L Q:=by
  rintro ys L Q ⟨a,ls,rfl,ha,hlf,hz,q1,q2⟩
  refine vm (ys:=ls.map z8) (zg ha) (fun i τ L'=>∃ c,τ=[some (.ref a),c]∧L'=L∧∀ w∈ls.take i,af2 ls w=false) ⟨_,rfl,rfl,by simp⟩ ?_ ?_ ?_
  · rintro i τ L' ⟨c,rfl,rfl,_⟩;rfl
  · rintro i y τ L' hy ⟨c,rfl,rfl,hno⟩
    rw [List.getElem?_map] at hy
    obtain ⟨w,ew,rfl⟩:=Option.map_eq_some_iff.mp hy
    obtain ⟨t,x,rfl⟩:=hlf w (List.mem_of_getElem? ew)
    have pd:Paired (DatN L' 1) (ls.map z8) (ls.map enc):=aj1 fun w hw=>by obtain ⟨u,z,rfl⟩:=hlf w hw;exact Nat.le_refl _
    refine qk ha (z0 ha ⟨_,enc (.leaf t x),1,1,by decide,pd,wg (Nat.le_refl 1),qk ha ⟨.leaf t x,rfl,by show 1≤63;decide,z0 ha ⟨_,enc (.leaf (!t) x),1,1,by decide,pd,wg (Nat.le_refl 1),?_⟩⟩⟩)
    rw [arf hlf,arf hlf]
    have ho:=atw ls t x
    have et:ls.take (i+1)=ls.take i++[Wd.leaf t x]:=by rw [List.take_succ,ew];rfl
    by_cases h:zk ls t x=zk ls (!t) x
    · refine aef (by show (!decide (((zk ls t x:Nat):Int)=((zk ls (!t) x:Nat):Int)))=false;rw [h,decide_eq_true rfl];rfl) ?_
      refine ⟨_,LSub.refl _,_,rfl,rfl,?_⟩
      rw [et]
      intro w hw
      rcases List.mem_append.mp hw with z | z
      · exact hno w z
      · rw [List.mem_singleton.mp z,ho,decide_eq_true h];rfl
    · refine ajt (by show (!decide (((zk ls t x:Nat):Int)=((zk ls (!t) x:Nat):Int)))=true;rw [decide_eq_false (by omega)];rfl) ?_
      refine fin (q1 x ?_)
      unfold aig
      have hod:af2 ls (.leaf t x)=true:=by rw [ho,decide_eq_false h];rfl
      have es:ls=ls.take i++(Wd.leaf t x::ls.drop (i+1)):=by
        have:=(List.take_append_drop i ls).symm
        rw [List.drop_eq_getElem?_toList_append,ew] at this
        exact this
      have:ls.find? (af2 ls)=some (.leaf t x):=by
        generalize hp:af2 ls=P at hno hod
        rw [es,List.find?_append,List.find?_eq_none.mpr (fun w hw=>by rw [hno w hw];exact Bool.false_ne_true),List.find?_cons,hod]
        rfl
      rw [this];rfl
  · rintro τ L' ⟨c,rfl,rfl,hno⟩
    rw [List.length_map,List.take_length] at hno
    refine fin (q2 ?_)
    unfold aig
    rw [List.find?_eq_none.mpr (fun w hw=>by rw [hno w hw];exact Bool.false_ne_true)]
    rfl
theorem kc (a:Key) (b:Y) (r:List (Key×Y)) (k:Key):kl ((a,b)::r) k=if a=k then some b else kl r k:=by
  unfold kl
  rw [List.find?_cons]
  by_cases h:a=k
  · rw [if_pos h,show decide ((a,b).1=k)=true from decide_eq_true h];rfl
  · rw [if_neg h,show decide ((a,b).1=k)=false from decide_eq_false h]
theorem am0 (k k':Key) (y:Y):∀ kvs:List (Key×Y),kl (kvs.map fun kv=>if kv.1=k then (kv.1,y) else kv) k'=if k'=k then (kl kvs k').map (fun _=>y) else kl kvs k'
  | []=>by rw [List.map_nil];split<;>rfl
  | (a,b)::r=>by
    have ih:=am0 k k' y r
    rw [List.map_cons,kc]
    by_cases h:a=k
    · rw [if_pos (show (a,b).1=k from h),kc,ih]
      by_cases h2:k'=k
      · rw [if_pos h2,if_pos h2,if_pos (h.trans h2.symm),if_pos (h.trans h2.symm)];rfl
      · rw [if_neg h2,if_neg h2,if_neg (fun z=>h2 (z.symm.trans h)),if_neg (fun z=>h2 (z.symm.trans h))]
    · rw [if_neg (show ¬ (a,b).1=k from h),kc,ih]
      by_cases h2:k'=k
      · rw [if_pos h2,if_pos h2,if_neg (fun z=>h (z.trans h2)),if_neg (fun z=>h (z.trans h2))]
      · rw [if_neg h2,if_neg h2]
theorem ali (k k':Key) (y:Y):∀ kvs:List (Key×Y),kl (kvs++[(k,y)]) k'=(kl kvs k').or (if k=k' then some y else none)
  | []=>by
    rw [List.nil_append,kc]
    have:kl [] k'=none:=rfl
    rw [this];split<;>rfl
  | (a,b)::r=>by
    rw [List.cons_append,kc,kc,ali k k' y r]
    split<;>rfl
theorem alc (k:Key):∀ kvs:List (Key×Y),(kvs.any fun kv=>decide (kv.1=k))=(kl kvs k).isSome
  | []=>rfl
  | (a,b)::r=>by
    rw [List.any_cons,kc,alc k r]
    by_cases h:a=k
    · rw [if_pos h,show decide ((a,b).1=k)=true from decide_eq_true h];rfl
    · rw [if_neg h,show decide ((a,b).1=k)=false from decide_eq_false h];rfl
theorem amq (kvs:List (Key×Y)) (k k':Key) (y:Y):kl (ak5 kvs k y) k'=if k'=k then some y else kl kvs k':=by
  unfold ak5
  rw [alc]
  cases e:kl kvs k with
  | some v=>
    rw [if_pos (show (some v).isSome=true from rfl),am0]
    by_cases h:k'=k
    · rw [if_pos h,if_pos h,h,e];rfl
    · rw [if_neg h,if_neg h]
  | none=>
    rw [if_neg (by simp),ali]
    by_cases h:k'=k
    · rw [if_pos h,h,e,if_pos rfl];rfl
    · rw [if_neg h,if_neg (fun z=>h z.symm)];cases kl kvs k'<;>rfl
theorem asw (kvs:List (Key×Y)) (k:Key) (y:Y):(ak5 kvs k y).length≤kvs.length+1:=by
  unfold ak5
  split
  · rw [List.length_map];omega
  · rw [List.length_append];simp
theorem ap9 {f g:Str→Nat} {x:Str} {k:Nat} (hx:g x=f x*k) (ho:∀ y,y≠x→g y=f y):∀ nms:List Str,nms.Nodup→x∈nms→(nms.map g).prod=(nms.map f).prod*k
  | [],_,h=>by cases h
  | y::r,hn,h=>by
    obtain ⟨hy,hr⟩:=List.nodup_cons.mp hn
    rw [List.map_cons,List.map_cons,List.prod_cons,List.prod_cons]
    by_cases e:y=x
    · subst e
      have:r.map g=r.map f:=List.map_congr_left fun z hz=>ho z fun q=>hy (q▸hz)
      rw [this,hx,Nat.mul_assoc,Nat.mul_comm k,← Nat.mul_assoc]
    · have hm:x∈r:=by
        rcases List.mem_cons.mp h with z | z
        · exact absurd z.symm e
        · exact z
      rw [ap9 hx ho r hr hm,ho y e,Nat.mul_assoc]
def WayR (ls:List Wd) (n:Nat):Prop:=∀ nms:List Str,nms.Nodup→(∀ w∈ls,ao0 w∈nms)→n=(nms.map fun x=>vk (zk ls false x)).prod
theorem ajd {f:Str→Nat} (h:∀ y,f y=1):∀ nms:List Str,(nms.map f).prod=1
  | []=>rfl
  | y::r=>by rw [List.map_cons,List.prod_cons,h,ajd h r]
theorem WayR.nil:WayR [] 1:=fun nms _ _=>(ajd (fun y=>rfl) nms).symm
theorem abn (ls:List Wd) (w:Wd) (t:Bool) (x:Str):zk (ls++[w]) t x=zk ls t x+if afu t x w=true then 1 else 0:=by
  unfold zk
  rw [List.countP_append,List.countP_singleton]
theorem WayR.other {ls:List Wd} {n:Nat} {x:Str} (h:WayR ls n):WayR (ls++[.leaf true x]) n:=fun nms hn hm=>by
  have:=h nms hn fun w hw=>hm w (List.mem_append_left _ hw)
  rw [this]
  refine congrArg List.prod (List.map_congr_left fun y _=>?_)
  rw [abn,if_neg (by simp [afu]),Nat.add_zero]
theorem WayR.plain {ls:List Wd} {n:Nat} {x:Str} (h:WayR ls n):WayR (ls++[.leaf false x]) (n*(zk ls false x+1)):=fun nms hn hm=>by
  have:=h nms hn fun w hw=>hm w (List.mem_append_left _ hw)
  rw [this]
  refine (ap9 (x:=x) ?_ ?_ nms hn (hm (.leaf false x) (List.mem_append_right _ (List.mem_singleton.mpr rfl)))).symm
  · show vk (zk (ls++[.leaf false x]) false x)=_
    rw [abn,if_pos (by simp [afu])];rfl
  · intro y hy
    show vk (zk (ls++[.leaf false x]) false y)=_
    rw [abn,if_neg (by simp [afu];exact fun z=>hy z.symm)];rfl
theorem aat {ls:List Wd} (hlf:∀ w∈ls,∃ t n,w=Wd.leaf t n) (h:aig ls=none):agd ls:=by
  intro x
  unfold aig at h
  have h:=List.find?_eq_none.mp (Option.map_eq_none_iff.mp h)
  by_cases c:∃ t,Wd.leaf t x∈ls
  · obtain ⟨t,c⟩:=c
    have:=h _ c
    have e:(!decide (zk ls false x=zk ls true x))=false:=by
      cases z:(!decide (zk ls false x=zk ls true x)) with
      | false=>rfl
      | true=>exact absurd z this
    exact of_decide_eq_true (by simpa using e)
  · have zero:∀ t,zk ls t x=0:=fun t=>by
      unfold zk
      rw [List.countP_eq_zero]
      intro w hw
      obtain ⟨u,y,rfl⟩:=hlf w hw
      intro z
      have:decide (u=t)=true∧decide (y=x)=true:=by simpa [afu] using z
      have e:y=x:=of_decide_eq_true this.2
      subst e
      exact c ⟨u,hw⟩
    rw [zero,zero]
theorem alr {ls:List Wd} {x:Str} (h:aig ls=some x):¬ agd ls:=by
  unfold aig at h
  obtain ⟨w,hw,_⟩:=Option.map_eq_some_iff.mp h
  have:=List.find?_some hw
  intro e
  have e2:=e (ao0 w)
  unfold af2 at this
  rw [decide_eq_true e2] at this
  cases this
def a19 (n:Nat):Option Y:=if n=0 then none else some (.int (n:Int))
end L3
namespace L3
open PySem L2 Words
local macro_rules | `(tactic| walk_at "w")=>`(tactic| conv=>whnf)
def aag (p_turned:Sp3) (p_places_in:Sp3):TS3:=(qr (zc (yLC 2 (acw (qb 0)) (ab9 2 (zp (qf 8) (zp (qf 9) aa5))) (yB (yOp (yEq false) (qb 9) (qw p_turned (qa (yOp yIx (qb 0) (qb 2)) qj)))) (qb 8)) (qf 3))
  (qr (zc (wf qj) (qf 4))
  (qr (acu (x5 (qb 1)) (qf 5) (qr (zc (qw p_places_in (qa (qb 5) qj)) (qf 6))
  (acu (x5 (qb 3)) (qf 7) (ku (yB (yOp (au7 true) (qb 7) (qb 6))) (v8 (yBL js (qb 4) (qa (yOp wn (qb 5) (wf (qa (aah (qa (yCB ayn (qa (qb 2) (qa (qb 7) qj))) (qa (yCB azs (qa (qb 2) (qa (qb 7) qj))) qj))) qj))) qj))) xj))))
  (zu (qb 4)))))
def abe (p_linked_further:Sp3):TS3:=(qr (zc (wf (qa (wf qj) qj)) (qf 1))
  (qr (acu (acw (qb 0)) (ab9 2 (zp (qf 2) (zp (qf 3) aa5))) (ku (yB (yOp (yEq false) (yOp yIx (qb 3) (yC (.int 0))) (yC (.str "plain")))) (zc (qw p_linked_further (qa (qb 0) (qa (qb 1) (qa (qb 2) qj)))) (qf 1)) xj))
  (zu (yLC 1 (x5 (qb 1)) (qf 4) asb (yCB aoe (qa (qb 4) qj))))))
def wz (p_ways_to_link:Sp3) (p_first_bad:Sp3):TS3:=(qr (zc (wf qj) (qf 1))
  (qr (acu (x5 (qw p_ways_to_link (qa (qb 0) qj))) (qf 2) (qr (zc (aah (qa (qb 0) (qa (qb 2) (qa (wf qj) qj)))) (qf 3))
  (qr (zc (qw p_first_bad (qa (qb 3) qj)) (qf 4))
  (qr (ku (yB (ai9 false (qb 4))) (zu (aah (qa (yC (.str "web")) (qa (qb 3) qj)))) xj)
  (v8 (yBL js (qb 1) (qa (aah (qa (qb 2) (qa (qb 4) qj))) qj)))))))
  (zu (aah (qa (yC (.str "tries")) (qa (qb 1) qj))))))
def xm (lk:List (Nat×Nat)):List Nat:=lk.flatMap fun x=>[x.1,x.2]
theorem adz (a b:List (Nat×Nat)):xm (a++b)=xm a++xm b:=by unfold xm;rw [List.flatMap_append]
theorem adn (x:Nat×Nat):xm [x]=[x.1,x.2]:=by simp [xm]
theorem am9 (lk:List (Nat×Nat)):(xm lk).length=2*lk.length:=by
  induction lk with
  | nil=>rfl
  | cons x r ih=>
    have:=adz [x] r
    rw [List.singleton_append] at this
    rw [this,List.length_append,ih,adn,List.length_cons];simp;omega
def ag1:Sp3:=fun ys L Q=>∃ a,∃ lk:List (Nat×Nat),ys=[.ref a]∧L a=some (.lst (z9 lk))∧lk.length≤1000∧∀ p,L p=none→Q (.ref p) (qe L p (.lst (nY (xm lk))))
theorem auv:∀ ys L Q,ag1 ys L Q→x9 af9 4 ys L Q:=by
  rintro ys L Q ⟨a,lk,rfl,ha,hz,q⟩
  intro p hp
  have hap:a≠p:=neL ha hp
  refine vm (ys:=z9 lk) (zg ((qd hap).trans ha)) (fun i τ L'=>∃ c2 c3,τ=[some (.ref a),some (.ref p),c2,c3]∧L'=qe L p (.lst (nY (xm (lk.take i))))) ⟨_,_,rfl,rfl⟩ ?_ ?_ ?_
  · rintro i τ L' ⟨c2,c3,rfl,rfl⟩
    rw [qd hap,qd hap]
  · rintro i y τ L' hy ⟨c2,c3,rfl,rfl⟩
    rw [List.getElem?_map] at hy
    obtain ⟨x,ex,rfl⟩:=Option.map_eq_some_iff.mp hy
    have et:lk.take (i+1)=lk.take i++[x]:=by rw [List.take_succ,ex];rfl
    have hl:(nY (xm (lk.take i))).length≤2000:=by rw [vz,am9,List.length_take];omega
    refine qk q8 (z0 q8 ⟨Nat.lt_of_le_of_lt hl (by decide),?_⟩)
    refine qk q8 (z0 q8 ⟨Nat.lt_of_le_of_lt (by rw [List.length_append,List.length_singleton];omega:_≤2001) (by decide),_,LSub.refl _,_,_,rfl,?_⟩)
    rw [za,za,et,adz,adn,au1,List.append_assoc]
    rfl
  · rintro τ L' ⟨c2,c3,rfl,rfl⟩
    rw [List.length_map,List.take_length]
    exact fin (q p hp)
def aja:Kn→Da
  | .lf t n=>.tup [.s (.str (kL t)),.s (.str n)]
  | .nd e i j=>.tup [.s (.str (kN e)),.s (.int ((i:Nat):Int)),.s (.int ((j:Nat):Int))]
theorem ama {L:LHp} (k:Kn):DatN L 1 (atd k) (aja k):=by
  cases k with
  | lf t n=>exact alx (.cons ⟨rfl,rfl⟩ (.cons ⟨rfl,rfl⟩ .nil))
  | nd e i j=>exact alx (.cons ⟨rfl,rfl⟩ (.cons ⟨rfl,rfl⟩ (.cons ⟨rfl,rfl⟩ .nil)))
def ab6 (x:Str):Option Kn→Bool
  | some (.lf t n)=>t&&decide (n=x)
  | _=>false
theorem auu (x:Str) (k:Kn):Da.eq (aja k) (enc (.leaf true x))=ab6 x (some k):=by
  cases k with
  | lf t n=>
    have h:=ap8 t true n x
    have e:aja (.lf t n)=enc (.leaf t n):=rfl
    rw [e,h]
    cases t<;>rfl
  | nd e i j=>cases e<;>rfl
def j6 (ks:List (Option Kn)) (p:Nat):Prop:=∃ x,ks[p]?=some (some (.lf false x))
def vq:Option Kn→Bool
  | some (.lf _ _)=>true
  | _=>false
def lvN (ks:List (Option Kn)) (i:Nat):Nat:=(ks.take i).countP vq
theorem auc {ks:List (Option Kn)} {i j:Nat} (h:i≤j):lvN ks i≤lvN ks j:=by
  have e:ks.take i=(ks.take j).take i:=by rw [List.take_take,Nat.min_eq_left h]
  unfold lvN
  rw [e]
  exact (List.take_sublist i _).countP_le
theorem atp {ks:List (Option Kn)} {i:Nat} (hp:j6 ks i):lvN ks (i+1)=lvN ks i+1:=by
  obtain ⟨x,e⟩:=hp
  unfold lvN
  rw [List.take_succ,e,List.countP_append];rfl
theorem agx {f:Option Kn→Bool} {ks:List (Option Kn)} {i p:Nat} {k:Option Kn} (h:ks[p]?=some k) (hf:f k=true) (hi:p<i):p∈whr f ks i:=by
  unfold whr
  refine List.mem_filter.mpr ⟨List.mem_range.mpr hi,?_⟩
  simp only [h];exact hf
def arh:Option Kn→Bool
  | some (.lf false _)=>true
  | _=>false
def ado (ks:List (Option Kn)) (i:Nat):Nat:=(ks.take i).countP arh
def ao8 (ks:List (Option Kn)) (i:Nat) (lk:List (Nat×Nat)):Prop:=(xm lk).Nodup∧(∀ p∈xm lk,∃ k,ks[p]?=some k∧vq k=true)∧lk.length=ado ks i∧∀ y∈lk,j6 ks y.1∨j6 ks y.2
def ad1 (ks:List (Option Kn)):Prop:=∀ i lk x,ao8 ks i lk→ks[i]?=some (some (.lf false x))→∃ m,ks[m]?=some (some (.lf true x))∧m∉xm lk
def Way (ks:List (Option Kn)) (i:Nat) (lk:List (Nat×Nat)):Prop:=lk.Nodup∧(lk.length≤i∧lk.length≤lvN ks i∧ao8 ks i lk)∧∀ y∈lk,y.1<ks.length∧y.2<ks.length∧(j6 ks y.1→y.1<i)∧(j6 ks y.2→y.2<i)
theorem Way.up {ks:List (Option Kn)} {i:Nat} {lk:List (Nat×Nat)} (h:Way ks i lk) (hn:¬ j6 ks i):Way ks (i+1) lk:=by
  obtain ⟨h1,⟨h2,h3,h4,h5,h6,h7⟩,h8⟩:=h
  refine ⟨h1,⟨by omega,Nat.le_trans h3 (auc (Nat.le_succ i)),h4,h5,?_,h7⟩,fun y hy=>by obtain ⟨a,b,c,d⟩:=h8 y hy;exact ⟨a,b,fun z=>Nat.lt_succ_of_lt (c z),fun z=>Nat.lt_succ_of_lt (d z)⟩⟩
  rw [h6]
  unfold ado
  rw [List.take_succ,List.countP_append]
  cases e:ks[i]? with
  | none=>rfl
  | some k=>
    cases k with
    | none=>rfl
    | some k=>
      cases k with
      | nd e i j=>rfl
      | lf t x=>cases t with
        | true=>rfl
        | false=>exact absurd ⟨x,e⟩ hn
theorem Way.more {ks:List (Option Kn)} {i m:Nat} {lk:List (Nat×Nat)} {x:Str} (h:Way ks i lk) (hp:j6 ks i) (hm:ks[m]?=some (some (.lf true x))) (hu:m∉xm lk):Way ks (i+1) (lk++[(min i m,max i m)]):=by
  obtain ⟨h1,⟨h2,h3,h4,h5,h6,h7⟩,h8⟩:=h
  have hi:i<ks.length:=by obtain ⟨x,e⟩:=hp;exact qt e
  have hml:=qt hm
  have nm:¬ j6 ks m:=fun ⟨y,e⟩=>by rw [hm] at e;cases e
  have one:min i m=i∧max i m=m∨min i m=m∧max i m=i:=by omega
  have ni:i∉xm lk:=fun z=>by
    unfold xm at z
    obtain ⟨y,hy,hq⟩:=List.mem_flatMap.mp z
    obtain ⟨_,_,c,d⟩:=h8 y hy
    rcases List.mem_cons.mp hq with e | e
    · have:=c (e▸hp);omega
    · have e:=List.mem_singleton.mp e;have:=d (e▸hp);omega
  have nim:i≠m:=fun z=>nm (z▸hp)
  have ep:xm (lk++[(min i m,max i m)])=xm lk++[min i m,max i m]:=by rw [adz,adn]
  have ex:(xm (lk++[(min i m,max i m)])).Nodup:=by
    rw [ep]
    refine List.nodup_append.mpr ⟨h4,?_,fun a ha b hb=>?_⟩
    · rcases one with ⟨e1,e2⟩ | ⟨e1,e2⟩<;>rw [e1,e2]
      · exact List.nodup_cons.mpr ⟨by simp [nim],by simp⟩
      · exact List.nodup_cons.mpr ⟨by simp [Ne.symm nim],by simp⟩
    · rintro rfl
      rcases one with ⟨e1,e2⟩ | ⟨e1,e2⟩<;>rw [e1,e2] at hb
      · rcases List.mem_cons.mp hb with rfl | hb
        · exact ni ha
        · rw [List.mem_singleton.mp hb] at ha;exact hu ha
      · rcases List.mem_cons.mp hb with rfl | hb
        · exact hu ha
        · rw [List.mem_singleton.mp hb] at ha;exact ni ha
  refine ⟨?_,⟨by rw [List.length_append,List.length_singleton];omega,by rw [List.length_append,List.length_singleton,atp hp];omega,ex,?_,?_,?_⟩,fun y hy=>?_⟩
  · refine List.nodup_append.mpr ⟨h1,List.nodup_cons.mpr ⟨by simp,List.nodup_nil⟩,fun a ha b hb=>?_⟩
    rw [List.mem_singleton.mp hb]
    rintro rfl
    refine ni ?_
    unfold xm
    refine List.mem_flatMap.mpr ⟨_,ha,?_⟩
    rcases one with ⟨e1,e2⟩ | ⟨e1,e2⟩<;>simp [e1,e2]
  · rw [ep]
    intro p hp2
    rcases List.mem_append.mp hp2 with hp2 | hp2
    · exact h5 p hp2
    · have:p=i∨p=m:=by
        have:p=min i m∨p=max i m:=by simpa using hp2
        omega
      rcases this with rfl | rfl
      · obtain ⟨z,e⟩:=hp;exact ⟨_,e,rfl⟩
      · exact ⟨_,hm,rfl⟩
  · rw [List.length_append,List.length_singleton,h6]
    unfold ado
    obtain ⟨z,e⟩:=hp
    rw [List.take_succ,e,List.countP_append];rfl
  · intro y hy
    rcases List.mem_append.mp hy with hy | hy
    · exact h7 y hy
    · rw [List.mem_singleton.mp hy]
      rcases one with ⟨e1,e2⟩ | ⟨e1,e2⟩
      · exact .inl (by show j6 ks (min i m);rw [e1];exact hp)
      · exact .inr (by show j6 ks (max i m);rw [e2];exact hp)
  · rcases List.mem_append.mp hy with hy | hy
    · obtain ⟨a,b,c,d⟩:=h8 y hy
      exact ⟨a,b,fun z=>Nat.lt_succ_of_lt (c z),fun z=>Nat.lt_succ_of_lt (d z)⟩
    · rw [List.mem_singleton.mp hy]
      refine ⟨by show min i m<_;omega,by show max i m<_;omega,fun z=>?_,fun z=>?_⟩
      · show min i m<i+1;omega
      · show max i m<i+1
        have z:j6 ks (max i m):=z
        by_cases c:m≤i
        · omega
        · have e:max i m=m:=by omega
          rw [e] at z;exact absurd z nm
def ahn (L:LHp) (w:Addr) (ks:List (Option Kn)) (i:Nat) (lks:List (List (Nat×Nat))):Prop:=∃ as:List Addr,L w=some (.lst (as.map Y.ref))∧Paired (fun b lk=>L b=some (.lst (z9 lk))∧b≠w∧Way ks i lk) as lks
theorem ac7 {α β:Type} {R:α→β→Prop}:∀ {xs:List α} {ys:List β} {i:Nat} {x:α},Paired R xs ys→xs[i]?=some x→∃ y,ys[i]?=some y∧R x y
  | _,_,0,_,.cons r _,e=>by cases e;exact ⟨_,rfl,r⟩
  | _,_,i+1,_,.cons _ t,e=>ac7 (i:=i) t e
theorem abi {α β:Type} {R:α→β→Prop}:∀ {xs:List α} {ys:List β} {x:α} {y:β},Paired R xs ys→R x y→Paired R (xs++[x]) (ys++[y])
  | _,_,_,_,.nil,r=>.cons r .nil
  | _,_,_,_,.cons a t,r=>.cons a (abi t r)
theorem x8 {α β:Type} {R S:α→β→Prop} (h:∀ a b,R a b→S a b):∀ {xs:List α} {ys:List β},Paired R xs ys→Paired S xs ys
  | _,_,.nil=>.nil
  | _,_,.cons a t=>.cons (h _ _ a) (x8 h t)
def aa2 (ks:List (Option Kn)) (x:Str):Nat:=(whr (ab6 x) ks ks.length).length
def aay:Sp3:=fun ys L Q=>∃ a w,∃ ks:List (Option Kn),∃ i:Nat,∃ ii:Int,∃ x:Str,∃ lks,ys=[.ref a,.ref w,.int ii]∧ii=(i:Int)∧L a=some (.lst (osY ks))∧ahn L w ks i lks∧(∀ k∈ks,k≠none)∧ks.length≤1000∧ks[i]?=some (some (.lf false x))∧lks.length*aa2 ks x≤100000∧
  ∀ L' w' lks',LSub L L'→L w'=none→ahn L' w' ks (i+1) lks'→lks'.length≤lks.length*aa2 ks x→(lks≠[]→ad1 ks→lks'≠[])→Q (.ref w') L'
theorem avm (m:Nat) (l:List Nat):inV (toV (.int (m:Int))) ((nY l).map toV)=decide (m∈l):=by
  induction l with
  | nil=>rfl
  | cons n r ih=>
    have e:inV (toV (.int (m:Int))) ((nY (n::r)).map toV)=(eqV (toV (.int (n:Int))) (toV (.int (m:Int)))||inV (toV (.int (m:Int))) ((nY r).map toV)):=rfl
    rw [e,ih]
    have e2:eqV (toV (.int (n:Int))) (toV (.int (m:Int)))=decide (n=m):=ajk n m
    rw [e2]
    by_cases c:n=m
    · subst c;simp
    · by_cases d:m∈r
      · simp [d]
      · simp [c,d,Ne.symm c]
theorem aw9 (l:List Nat):(nY l).all afa=true:=by
  rw [List.all_eq_true]
  intro y hy
  obtain ⟨n,_,rfl⟩:=List.mem_map.mp hy
  rfl
theorem awv {ks:List (Option Kn)} {x:Str} {m:Nat} (h:m∈whr (ab6 x) ks ks.length):ks[m]?=some (some (.lf true x)):=by
  obtain ⟨_,k,ek,hk⟩:=wt h
  cases k with
  | none=>cases hk
  | some k=>
    cases k with
    | nd e i j=>cases hk
    | lf t n=>
      have hk:(t&&decide (n=x))=true:=hk
      rw [Bool.and_eq_true] at hk
      obtain ⟨h1,h2⟩:=hk
      have h2:=of_decide_eq_true h2
      subst h1 h2
      exact ek
theorem anv:∀ ys L Q,aay ys L Q→x9 (aag (vg 63) ag1) 8 ys L Q:=by
  rintro ys L Q ⟨a,w,ks,i,ii,x,lks,rfl,rfl,ha,⟨as,hw,pa⟩,hno,hz,ek,hbd,q⟩
  have a1:atI (osY ks) (i:Int)=some (ajp (some (.lf false x))):=xu (by rw [List.getElem?_map,ek];rfl)
  have hi:=qt ek
  refine xt ha fun keep kp=>ahk (f:=ab6 x) hz (kp L rfl) (fun m k R zs em h1 h2=>?_) fun mt hmt=>?_
  · cases k with
    | none=>exact absurd rfl (hno none (List.mem_of_getElem? em))
    | some k=>
      have hd:∀ k:Kn,(ab6 x (some k)=true→R (zs++[.int (m:Int)]) L)→(ab6 x (some k)=false→R zs L)→kh (Da.eq (aja k) (enc (.leaf true x))) (R (zs++[.int (m:Int)]) L) (R zs L):=fun k h1 h2=>by
        rw [auu]
        cases hb:ab6 x (some k) with
        | true=>exact h1 hb
        | false=>exact h2 hb
      cases k with
      | lf t n=>exact qk ha (qo a1 ⟨.leaf false x,rfl,by show 1≤63;decide,rfl,rfl,1,1,aja (.lf t n),enc (.leaf true x),by decide,ama (.lf t n),wg (Nat.le_refl 1),hd _ h1 h2⟩)
      | nd e i' j'=>exact qk ha (qo a1 ⟨.leaf false x,rfl,by show 1≤63;decide,rfl,rfl,1,1,aja (.nd e i' j'),enc (.leaf true x),by decide,ama (.nd e i' j'),wg (Nat.le_refl 1),hd _ h1 h2⟩)
  obtain ⟨mts,emts⟩:∃ mts,mts=whr (ab6 x) ks ks.length:=⟨_,rfl⟩
  have hM:aa2 ks x=mts.length:=by rw [emts];rfl
  rw [← emts]
  intro lg hlg
  have s2:LSub L (qe (qe L mt (.lst (nY mts))) lg (.lst [])):=(LSub.new hmt).trans (LSub.new hlg)
  have nlg:L lg=none:=xo hlg
  have nml:mt≠lg:=neL q8 hlg
  have g0:(qe (qe L mt (.lst (nY mts))) lg (.lst [])) mt=some (.lst (nY mts)):=(qd nml).trans q8
  have g1:(qe (qe L mt (.lst (nY mts))) lg (.lst [])) lg=some (.lst []):=q8
  generalize qe (qe L mt (.lst (nY mts))) lg (.lst [])=L2 at s2 g0 g1
  have la:as.length=lks.length:=aac pa
  refine vm (ys:=as.map Y.ref) (zg (s2 _ _ hw)) (fun k τ L'=>∃ as' lks' c5 c6 c7,τ=[some (.ref a),some (.ref w),some (.int (i:Int)),some (.ref mt),some (.ref lg),c5,c6,c7]∧LSub L L'∧L' mt=some (.lst (nY mts))∧L' lg=some (.lst (as'.map Y.ref))∧Paired (fun b lk=>L' b=some (.lst (z9 lk))∧b≠lg∧Way ks (i+1) lk) as' lks'∧lks'.length≤k*mts.length∧(k≠0→ad1 ks→lks'≠[])) ⟨[],[],_,_,_,rfl,s2,g0,g1,.nil,Nat.zero_le _,fun z=>absurd rfl z⟩ ?_ ?_ ?_
  · rintro k τ L' ⟨as',lks',c5,c6,c7,rfl,s,_⟩
    rw [s _ _ hw,s2 _ _ hw]
  · rintro k y τ L' hy ⟨as',lks',c5,c6,c7,rfl,s,m1,l1,p1,n1,_⟩
    rw [List.getElem?_map] at hy
    obtain ⟨b,eb,rfl⟩:=Option.map_eq_some_iff.mp hy
    have hk:=qt eb
    obtain ⟨lk,elk,hb,hbw,wy⟩:=ac7 pa eb
    have hlk:=wy.2.1.1
    have hkl:(k+1)*mts.length≤lks.length*mts.length:=Nat.mul_le_mul_right _ (by omega)
    rw [Nat.add_mul,Nat.one_mul] at hkl
    rw [hM] at hbd
    refine ⟨b,lk,rfl,s _ _ hb,by omega,fun us hus=>?_⟩
    have t1:LSub L' (qe L' us (.lst (nY (xm lk)))):=LSub.new hus
    refine vm (ys:=nY mts) (zg (t1 _ _ m1)) (fun j τ L''=>∃ as' lks' c7,τ=[some (.ref a),some (.ref w),some (.int (i:Int)),some (.ref mt),some (.ref lg),some (.ref b),some (.ref us),c7]∧LSub L L''∧L'' mt=some (.lst (nY mts))∧L'' us=some (.lst (nY (xm lk)))∧L'' lg=some (.lst (as'.map Y.ref))∧Paired (fun b lk=>L'' b=some (.lst (z9 lk))∧b≠lg∧Way ks (i+1) lk) as' lks'∧lks'.length≤k*mts.length+j∧us≠lg∧(lks'≠[]∨∀ m∈mts.take j,m∈xm lk)) ⟨as',lks',_,rfl,s.trans t1,t1 _ _ m1,q8,t1 _ _ l1,x8 (fun c d ⟨h1,h2⟩=>⟨t1 _ _ h1,h2⟩) p1,by omega,Ne.symm (neL l1 hus),.inr fun m hm=>by cases hm⟩ ?_ ?_ ?_
    · rintro j τ L'' ⟨as',lks',c7,rfl,s',m2,_⟩
      rw [m2,t1 _ _ m1]
    · rintro j y τ L'' hy2 ⟨as2,lks2,c7,rfl,s',m2,u2,l2,p2,n2,nul,av⟩
      obtain ⟨m,em,rfl⟩:=acr hy2
      have hj:=qt em
      have mm:=awv (x:=x) (ks:=ks) (m:=m) (by rw [← emts];exact List.mem_of_getElem? em)
      refine qk u2 ⟨rfl,aw9 _,?_⟩
      rw [avm]
      by_cases c:m∈xm lk
      · refine aef (by rw [decide_eq_true c];rfl) ⟨_,LSub.refl _,as2,lks2,_,rfl,s',m2,u2,l2,p2,by omega,nul,av.imp id fun h z hz=>?_⟩
        rw [List.take_succ,em] at hz
        rcases List.mem_append.mp hz with hz | hz
        · exact h z hz
        · rw [List.mem_singleton.mp hz];exact c
      · refine ajt (by rw [decide_eq_false c];rfl) ?_
        have l2n:(as2.map Y.ref).length≤100000:=by rw [List.length_map,aac p2];omega
        refine qk l2 fun q1 hq1=>?_
        have e1:(Y.tup [.int (min (i:Int) (m:Int)),.int (max (i:Int) (m:Int))])=prN (min i m,max i m):=by
          have e2:min (i:Int) (m:Int)=((min i m:Nat):Int):=by omega
          have e3:max (i:Int) (m:Int)=((max i m:Nat):Int):=by omega
          unfold prN;rw [← e2,← e3]
        have v1:=LSub.new (o:=.lst [Y.tup [.int (min (i:Int) (m:Int)),.int (max (i:Int) (m:Int))]]) hq1
        refine ⟨_,_,v1 _ _ (s' _ _ hb),q8,by rw [List.length_map,List.length_singleton];have:=avp;omega,fun q2 hq2=>?_⟩
        have v2:=v1.trans (LSub.new (o:=.lst (z9 lk++[Y.tup [.int (min (i:Int) (m:Int)),.int (max (i:Int) (m:Int))]])) hq2)
        have nql:q2≠lg:=Ne.symm (neL (v1 _ _ l2) hq2)
        refine z0 (v2 _ _ l2) ⟨Nat.lt_of_le_of_lt l2n (by decide),_,LSub.refl _,as2++[q2],lks2++[lk++[(min i m,max i m)]],_,rfl,(s'.trans v2).upd nlg,?_,?_,?_,?_,?_,nul,.inl (by simp)⟩
        · rw [qd (fun z=>nml z)];exact v2 _ _ m2
        · rw [qd nul];exact v2 _ _ u2
        · rw [q8,List.map_append];rfl
        · refine abi (x8 (fun c d ⟨h1,h2,h3⟩=>⟨(qd h2).trans (v2 _ _ h1),h2,h3⟩) p2) ⟨?_,nql,wy.more ⟨x,ek⟩ mm c⟩
          rw [qd nql,q8,e1]
          unfold z9;rw [List.map_append];rfl
        · rw [List.length_append,List.length_singleton];omega
    · rintro τ L'' ⟨as2,lks2,c7,rfl,s',m2,u2,l2,p2,n2,nul,av⟩
      rw [vz] at n2 av
      rw [List.take_length] at av
      refine ⟨_,LSub.refl _,as2,lks2,_,_,_,rfl,s',m2,l2,p2,?_,fun _ A=>av.elim id fun h=>?_⟩
      rotate_left
      · obtain ⟨m,em,hm⟩:=A i lk x wy.2.1.2.2 ek
        exact absurd (h m (by rw [emts];exact agx em (by simp [ab6]) (qt em))) hm
      rw [Nat.add_mul,Nat.one_mul];exact n2
  · rintro τ L' ⟨as',lks',c5,c6,c7,rfl,s,m1,l1,p1,n1,av⟩
    rw [List.length_map,la] at n1 av
    rw [hM] at q
    exact fin (q L' lg lks' s nlg ⟨as',l1,p1⟩ n1 fun h=>av fun z=>h (List.length_eq_zero_iff.mp z))
def anl (ks:List (Option Kn)):Option Kn→Nat
  | some (.lf false x)=>aa2 ks x
  | _=>1
def bnd (ks:List (Option Kn)) (i:Nat):Nat:=((ks.take i).map (anl ks)).prod
theorem asm {ks:List (Option Kn)} {i:Nat} {k:Option Kn} (h:ks[i]?=some k):bnd ks (i+1)=bnd ks i*anl ks k:=by
  unfold bnd
  rw [List.take_succ,h,List.map_append,List.prod_append]
  simp
theorem Way.perm {ks:List (Option Kn)} {i:Nat} {lk lk':List (Nat×Nat)} (h:Way ks i lk) (p:lk'.Perm lk):Way ks i lk':=by
  obtain ⟨h1,⟨h2,h3,h4,h5,h6,h7⟩,h8⟩:=h
  have pp:(xm lk').Perm (xm lk):=p.flatMap_right _
  exact ⟨p.nodup_iff.mpr h1,⟨by rw [p.length_eq];exact h2,by rw [p.length_eq];exact h3,pp.nodup_iff.mpr h4,fun x hx=>h5 x (pp.mem_iff.mp hx),by rw [p.length_eq];exact h6,fun y hy=>h7 y (p.mem_iff.mp hy)⟩,fun y hy=>h8 y (p.mem_iff.mp hy)⟩
def azx (p:Nat×Nat):Int×Int:=((p.1:Int),(p.2:Int))
theorem asp (lk:List (Nat×Nat)):z9 lk=(lk.map azx).map prY:=by unfold z9;rw [List.map_map];rfl
def a2j (L0 L:LHp) (w:Addr) (ks:List (Option Kn)) (lks:List (List (Nat×Nat))):Prop:=∃ as:List Addr,L w=some (.lst (as.map Y.ref))∧Paired (fun b lk=>L b=some (.lst (z9 lk))∧L0 b=none∧Way ks ks.length lk) as lks
def ag5:Sp3:=fun ys L Q=>∃ a,∃ ks:List (Option Kn),ys=[.ref a]∧L a=some (.lst (osY ks))∧(∀ k∈ks,k≠none)∧ks.length≤1000∧((∀ i≤ks.length,bnd ks i≤100000)∧lvN ks ks.length≤63)∧∀ L' w' lks,LSub L L'→L w'=none→a2j L L' w' ks lks→lks.length≤bnd ks ks.length→(ad1 ks→lks≠[])→Q (.ref w') L'
theorem avs:∀ ys L Q,ag5 ys L Q→x9 (abe aay) 4 ys L Q:=by
  rintro ys L Q ⟨a,ks,rfl,ha,hno,hz,⟨hB,h63⟩,q⟩
  intro e he w0 hw0
  have s0:LSub L (qe (qe L e (.lst [])) w0 (.lst [.ref e])):=(LSub.new he).trans (LSub.new hw0)
  have new0:e≠w0:=neL q8 hw0
  have W0:ahn (qe (qe L e (.lst [])) w0 (.lst [.ref e])) w0 ks 0 [[]]:=⟨[e],q8,.cons ⟨(qd new0).trans q8,new0,List.nodup_nil,⟨Nat.le_refl _,Nat.le_refl _,List.nodup_nil,(fun y hy=>by cases hy),rfl,fun y hy=>by cases hy⟩,fun y hy=>by cases hy⟩ .nil⟩
  have nw0:L w0=none:=xo hw0
  refine xt (s0 _ _ ha) fun keep kp=>ag4 ⟨fun i τ L'=>∃ w' lks c2 c3,τ=[some (Y.ref a),some (Y.ref w'),c2,c3]∧LSub L L'∧L w'=none∧ahn L' w' ks i lks∧lks.length≤bnd ks i∧(ad1 ks→lks≠[]),⟨w0,[[]],_,_,rfl,s0,nw0,W0,(by unfold bnd;simp),fun _=>by simp⟩,?_,?_,?_⟩
  · rintro i τ L' ⟨w',lks,c2,c3,rfl,s,_⟩
    exact kp L' (by rw [s _ _ ha,s0 _ _ ha])
  · rintro i y τ L' hy ⟨w',lks,c2,c3,rfl,s,nw,wa,hl,av⟩
    obtain ⟨z,ez,rfl⟩:=ad5 hy
    rw [List.getElem?_map] at ez
    obtain ⟨k,ek,rfl⟩:=Option.map_eq_some_iff.mp ez
    have hi:=qt ek
    have bs:=asm ek
    have up:¬ j6 ks i→∀ {as:List Addr} {lks:List (List (Nat×Nat))} {L':LHp} {w':Addr},Paired (fun b lk=>L' b=some (.lst (z9 lk))∧b≠w'∧Way ks i lk) as lks→Paired (fun b lk=>L' b=some (.lst (z9 lk))∧b≠w'∧Way ks (i+1) lk) as lks:=fun np=>fun p=>x8 (fun _ _ ⟨h1,h2,h3⟩=>⟨h1,h2,h3.up np⟩) p
    have stay:anl ks k=1→¬ j6 ks i→∀ c2 c3,Frg (fun (τ:St3) (L':LHp)=>∃ w' lks c2 c3,τ=[some (Y.ref a),some (Y.ref w'),c2,c3]∧LSub L L'∧L w'=none∧ahn L' w' ks (i+1) lks∧lks.length≤bnd ks (i+1)∧(ad1 ks→lks≠[])) [some (Y.ref a),some (Y.ref w'),c2,c3] L':=fun h1 np c2 c3=>by
      obtain ⟨as,hw,pa⟩:=wa
      exact ⟨_,LSub.refl _,w',lks,c2,c3,rfl,s,nw,⟨as,hw,up np pa⟩,(by rw [bs,h1,Nat.mul_one];exact hl),av⟩
    cases k with
    | none=>exact absurd rfl (hno none (List.mem_of_getElem? ek))
    | some k=>
      cases k with
      | nd e' i' j'=>
        cases e' with
        | true=>exact stay rfl (fun ⟨_,e⟩=>by rw [ek] at e;cases e) _ _
        | false=>exact stay rfl (fun ⟨_,e⟩=>by rw [ek] at e;cases e) _ _
      | lf t x=>
        cases t with
        | true=>exact stay rfl (fun ⟨_,e⟩=>by rw [ek] at e;cases e) _ _
        | false=>
          have hb1:=hB (i+1) (by omega)
          have fe:anl ks (some (.lf false x))=aa2 ks x:=rfl
          rw [fe] at bs
          have lb:lks.length*aa2 ks x≤bnd ks (i+1):=by rw [bs];exact Nat.mul_le_mul_right _ hl
          refine ⟨a,w',ks,i,_,x,lks,rfl,rfl,s _ _ ha,wa,hno,hz,ek,by omega,fun L3 w3 lks3 s3 n3 wa3 hl3 av3=>?_⟩
          exact ⟨_,LSub.refl _,w3,lks3,_,_,rfl,s.trans s3,jd s n3,wa3,(by omega),fun A=>av3 (av A) A⟩
  · rintro τ L' ⟨w',lks,c2,c3,rfl,s,nw,⟨as,hw,pa⟩,hl,av⟩
    rw [aaf,List.length_map] at pa hl
    have la:as.length=lks.length:=aac pa
    have hbn:=hB ks.length (Nat.le_refl _)
    refine xt hw fun keep kp=>ao9 ⟨by rw [List.length_map];exact Nat.lt_of_le_of_lt (by omega:as.length≤100000) (by decide),fun k zs L2=>∃ ds lks2,zs=ds.map Y.ref∧LSub L' L2∧Paired (fun b lk=>L2 b=some (.lst (z9 lk))∧L b=none∧Way ks ks.length lk) ds lks2∧lks2.length=k,⟨[],[],rfl,LSub.refl _,.nil,rfl⟩,?_,?_,?_⟩
    · rintro k zs L2 ⟨ds,lks2,rfl,s2,_⟩
      exact kp L2 (by rw [s2 _ _ hw,hw])
    · rintro k y zs L2 hy ⟨ds,lks2,rfl,s2,pd,ld⟩
      rw [List.getElem?_map] at hy
      obtain ⟨b,eb,rfl⟩:=Option.map_eq_some_iff.mp hy
      obtain ⟨lk,elk,hb,_,wy⟩:=ac7 pa eb
      refine z0 (s2 _ _ hb) ⟨lk.map azx,asp lk,fun p hp=>?_,?_,?_,fun D qs hD pm pw=>?_⟩
      · obtain ⟨r,hr,rfl⟩:=List.mem_map.mp hp
        have:=(wy.2.2 r hr).2.1
        show (0:Int)≤((r.2:Nat):Int)∧((r.2:Nat):Int)<1000000
        omega
      · exact ahu (fun x hx y hy e=>by
          have e1:((x.1:Nat):Int)=(y.1:Int):=congrArg Prod.fst e
          have e2:((x.2:Nat):Int)=(y.2:Int):=congrArg Prod.snd e
          exact Prod.ext (by omega) (by omega)) wy.1
      · rw [List.length_map];have:=wy.2.1.2.1;omega
      · obtain ⟨lk',pl,rfl⟩:=aii azx pm rfl
        have nD:L D=none:=jd (s.trans s2) hD
        refine ⟨_,LSub.refl _,ds++[D],lks2++[lk'],by rw [List.map_append];rfl,s2.trans (LSub.new hD),?_,by rw [List.length_append,List.length_singleton,ld]⟩
        refine abi (x8 (fun c d ⟨h1,h2⟩=>⟨LSub.new hD _ _ h1,h2⟩) pd) ⟨?_,nD,wy.perm pl⟩
        rw [q8,← asp]
    · rintro zs L2 ⟨ds,lks2,rfl,s2,pd,ld⟩ p hp
      rw [List.length_map] at ld
      refine fin (q _ p lks2 ((s.trans s2).trans (LSub.new hp)) (jd (s.trans s2) hp) ⟨ds,q8,x8 (fun c d ⟨h1,h2⟩=>⟨LSub.new hp _ _ h1,h2⟩) pd⟩ (by omega) fun A z=>av A (List.length_eq_zero_iff.mp (by rw [z] at ld;have:0=as.length:=ld;omega)))
def ahj:Sp3:=fun ys L Q=>∃ a,∃ ks:List (Option Kn),ys=[.ref a]∧L a=some (.lst (osY ks))∧(∀ k∈ks,k≠none)∧ks.length≤1000∧((∀ i≤ks.length,bnd ks i≤100000)∧lvN ks ks.length≤63)∧KnR ks∧(∀ y L',LSub L L'→Q (.tup [.str "web",y]) L')∧(¬ (ad1 ks∧∀ lk,ao8 ks ks.length lk→Rt ks lk [])→∀ y L',LSub L L'→Q (.tup [.str "tries",y]) L')
theorem a0v:∀ ys L Q,ahj ys L Q→x9 (wz ag5 ag2) 5 ys L Q:=by
  rintro ys L Q ⟨a,ks,rfl,ha,hno,hz,⟨hB,h63⟩,hkr,q1,q2⟩
  intro p0 hp0
  have s0:LSub L (qe L p0 (.lst [])):=LSub.new hp0
  refine ⟨a,ks,rfl,s0 _ _ ha,hno,hz,⟨hB,h63⟩,fun L1 w lks s1 nw ⟨as,hw,pa⟩ hl av=>?_⟩
  have hb:=hB ks.length (Nat.le_refl _)
  have la:as.length=lks.length:=aac pa
  have hwp:w≠p0:=Ne.symm (neL q8 nw)
  have h0:L1 p0=some (.lst []):=s1 _ _ q8
  have sL:LSub L L1:=s0.trans s1
  refine vm (ys:=as.map Y.ref) (zg hw) (fun k τ L'=>∃ ts c2 c3 c4,τ=[some (.ref a),some (.ref p0),c2,c3,c4]∧LSub L L'∧L' w=some (.lst (as.map Y.ref))∧L' p0=some (.lst ts)∧Paired (fun b lk=>L' b=some (.lst (z9 lk))∧b≠p0∧Way ks ks.length lk) as lks∧ts.length≤k∧((ad1 ks∧∀ lk,ao8 ks ks.length lk→Rt ks lk [])→k=0)) ⟨[],_,_,_,rfl,sL,hw,h0,x8 (fun b lk ⟨h1,h2,h3⟩=>⟨h1,Ne.symm (neL q8 h2),h3⟩) pa,Nat.le_refl _,fun _=>rfl⟩ ?_ ?_ ?_
  · rintro k τ L' ⟨ts,c2,c3,c4,rfl,_,h,_⟩
    rw [h,hw]
  · rintro k y τ L' hy ⟨ts,c2,c3,c4,rfl,s,w1,t1,p1,l1,_⟩
    rw [List.getElem?_map] at hy
    obtain ⟨b,eb,rfl⟩:=Option.map_eq_some_iff.mp hy
    have hk:=qt eb
    obtain ⟨lk,elk,hb1,hbp,wy⟩:=ac7 p1 eb
    intro e he
    have v1:LSub L' (qe L' e (.lst [])):=LSub.new he
    have hlk:=wy.2.1.1
    refine ⟨a,b,e,ks,lk,[],rfl,⟨v1 _ _ (s _ _ ha),v1 _ _ hb1,q8,hz,by omega,Nat.zero_le _,fun x hx=>⟨(wy.2.2 x hx).1,(wy.2.2 x hx).2.1⟩,(fun x hx=>by cases hx),hkr⟩,fun _=>fin (q1 _ _ (s.trans v1)),fun nR c zs hc hzs=>?_⟩
    have v2:=v1.trans (LSub.new (o:=.lst zs) hc)
    refine qk (v2 _ _ t1) (z0 (v2 _ _ t1) ⟨Nat.lt_of_le_of_lt (by omega:ts.length≤100000) (by decide),_,LSub.refl _,ts++[_],_,_,_,rfl,(s.trans v2).upd hp0,?_,q8,?_,?_,fun G=>absurd (G.2 lk wy.2.1.2.2) nR⟩)
    · rw [qd hwp];exact v2 _ _ w1
    · exact x8 (fun c d ⟨h1,h2,h3⟩=>⟨(qd h2).trans (v2 _ _ h1),h2,h3⟩) p1
    · rw [List.length_append,List.length_singleton];omega
  · rintro τ L' ⟨ts,c2,c3,c4,rfl,s,_,_,_,_,hG⟩
    refine fin (q2 (fun G=>?_) _ _ s)
    have z:=hG G
    rw [List.length_map,la] at z
    exact av G.1 (List.length_eq_zero_iff.mp z)
end L3
namespace L3
open PySem L2 Words
local macro_rules | `(tactic| walk_at "w")=>`(tactic| conv=>whnf)
def ah8 (p_is_leaf:Sp3) (p_lay_word:Sp3):TS3:=(at5 (ku (yB (qw p_is_leaf (qa (qb 1) qj))) (v8 (yBL js (qb 0) (qa (qb 1) qj))) (qr (zc (qw p_lay_word (qa (qb 0) (qa (yOp yIx (qb 1) (yC (.int 1))) qj))) (qf 2))
  (qr (zc (qw p_lay_word (qa (qb 0) (qa (yOp yIx (qb 1) (yC (.int 2))) qj))) (qf 3))
  (v8 (yBL js (qb 0) (qa (aah (qa (yOp yIx (qb 1) (yC (.int 0))) (qa (qb 2) (qa (qb 3) qj)))) qj))))))
  (zu (yOp avt (yCB abj (qa (qb 0) qj)) (yC (.int 1)))))
def ar2 (p_lay_word:Sp3):TS3:=(qr (zc (wf qj) (qf 1))
  (qr (zc (wf qj) (qf 2))
  (qr (acu (x5 (qb 0)) (qf 3) (v8 (yBL js (qb 2) (qa (qw p_lay_word (qa (qb 1) (qa (qb 3) qj))) qj))))
  (zu (aah (qa (qb 1) (qa (qb 2) qj)))))))
def aba:Nat→Wd→List Y
  | _,.leaf t n=>[.tup [.str (kL t),.str n]]
  | b,.node e l r=>(aba b l++aba (b+l.size) r)++[.tup [.str (kN e),.int ((b+l.size - 1:Nat)),.int ((b+l.size+r.size - 1:Nat))]]
theorem vn:∀ (b:Nat) (w:Wd),(aba b w).length=w.size
  | _,.leaf _ _=>rfl
  | b,.node e l r=>by
    show ((aba b l++aba (b+l.size) r)++[_]).length=1+l.size+r.size
    rw [List.length_append,List.length_append,vn,vn]
    show l.size+r.size+1=_;omega
def vh (n:Nat):Sp3:=fun ys L Q=>∃ k ks wd,ys=[.ref k,z8 wd]∧L k=some (.lst ks)∧wd.depth≤n∧ks.length+wd.size≤1000∧Q (.int ((ks.length+wd.size - 1:Nat))) (qe L k (.lst (ks++aba ks.length wd)))
theorem alt:∀ ys L Q,¬ vh 0 ys L Q:=fun ys L Q ⟨k,ks,wd,_,_,hd,_⟩=>by cases wd<;>simp [Wd.depth] at hd
theorem amw (n:Nat):∀ ys L Q,vh (n+1) ys L Q→x9 (ah8 jf (vh n)) 4 ys L Q:=by
  rintro ys L Q ⟨k,ks,wd,rfl,hk,hd,hz,q⟩
  cases wd with
  | leaf t nm=>
    have hz':ks.length+1≤1000:=hz
    refine ⟨_,⟨true,t,_,rfl,qk hk (z0 hk ⟨ac0 (by omega),?_⟩)⟩,fun _ _ h=>h⟩
    refine qk q8 ?_
    have e:(((ks++[Y.tup [.str (kL t),.str nm]]).length:Int) - 1)=((ks.length+(Wd.leaf t nm).size - 1:Nat):Int):=by
      rw [List.length_append];show ((ks.length+1:Nat):Int) - 1=((ks.length+1 - 1:Nat):Int);omega
    refine fin ?_
    dsimp only
    rw [show ks++[z8 (Wd.leaf t nm)]=ks++[Y.tup [.str (kL t),.str nm]] from rfl,e]
    exact q
  | node e l r=>
    have hd':max l.depth r.depth+1≤n+1:=hd
    have hz':ks.length+(1+l.size+r.size)≤1000:=hz
    have pl:=l.size_pos;have pr:=r.size_pos
    refine ⟨_,⟨false,e,_,rfl,k,ks,l,rfl,hk,by omega,by omega,k,_,r,rfl,q8,by omega,?_,qk q8 (z0 q8 ⟨ac0 ?_,?_⟩)⟩,fun _ _ h=>h⟩
    · rw [List.length_append,vn];omega
    · rw [List.length_append,List.length_append,vn,vn];omega
    · rw [za,za]
      refine qk q8 (fin ?_)
      have e1:(ks++aba ks.length l).length=ks.length+l.size:=by rw [List.length_append,vn]
      rw [e1]
      have e2:ks++aba ks.length l++aba (ks.length+l.size) r++[Y.tup [.str (kN e),.int ((ks.length+l.size - 1:Nat)),.int ((ks.length+l.size+r.size - 1:Nat))]]=ks++aba ks.length (.node e l r):=by
        show _=ks++((aba ks.length l++aba (ks.length+l.size) r)++[_])
        simp only [List.append_assoc]
      rw [e2]
      have e3:(((ks++aba ks.length (.node e l r)).length:Int) - 1)=((ks.length+(Wd.node e l r).size - 1:Nat):Int):=by
        rw [List.length_append,vn]
        have:1≤(Wd.node e l r).size:=Wd.size_pos _
        omega
      dsimp only
      rw [e3]
      exact q
def SZ (ws:List Wd):Nat:=(ws.map Wd.size).sum
theorem asr (us vs:List Wd):SZ (us++vs)=SZ us+SZ vs:=by simp [SZ]
theorem a0z (w:Wd):SZ [w]=w.size:=by simp [SZ]
theorem ac8 (w:Wd) (r:List Wd):SZ (w::r)=w.size+SZ r:=by simp [SZ]
theorem az7 (ws:List Wd):ws.length≤SZ ws:=by
  induction ws with
  | nil=>simp
  | cons w r ih=>have:=w.size_pos;rw [ac8,List.length_cons];omega
theorem a00 {ws:List Wd} {w:Wd} (h:w∈ws):w.size≤SZ ws:=by
  induction ws with
  | nil=>cases h
  | cons v r ih=>
    rw [ac8]
    rcases List.mem_cons.mp h with rfl | h
    · omega
    · have:=ih h;omega
theorem anw (w:Wd):2*w.depth≤w.size+1:=by have:=w.depth_le;have:=w.size_eq;omega
def xn:Nat→List Wd→List Y
  | _,[]=>[]
  | b,w::r=>aba b w++xn (b+w.size) r
theorem afd:∀ (b:Nat) (us:List Wd) (w:Wd),xn b (us++[w])=xn b us++aba (b+SZ us) w
  | b,[],w=>by simp [xn,SZ]
  | b,u::us,w=>by
    rw [List.cons_append,xn,xn,afd,ac8,List.append_assoc,Nat.add_assoc]
theorem aal:∀ (b:Nat) (us:List Wd),(xn b us).length=SZ us
  | _,[]=>rfl
  | b,u::us=>by rw [xn,List.length_append,vn,aal,ac8]
def plc:Nat→List Wd→List Y
  | _,[]=>[]
  | b,w::r=>.int ((b+w.size - 1:Nat))::plc (b+w.size) r
theorem alq:∀ (b:Nat) (us:List Wd) (w:Wd),plc b (us++[w])=plc b us++[.int ((b+SZ us+w.size - 1:Nat))]
  | b,[],w=>by simp [plc,SZ]
  | b,u::us,w=>by
    rw [List.cons_append,plc,plc,alq,ac8,List.cons_append,show b+u.size+SZ us=b+(u.size+SZ us) by omega]
theorem aon:∀ (b:Nat) (us:List Wd),(plc b us).length=us.length
  | _,[]=>rfl
  | b,u::us=>by rw [plc,List.length_cons,aon,List.length_cons]
theorem alv {α:Type} {ws:List α} {i:Nat} {w:α} (h:ws[i]?=some w):ws.take (i+1)=ws.take i++[w]:=by rw [List.take_succ,h];rfl
theorem awm (ws:List Wd) (i:Nat):SZ (ws.take i)≤SZ ws:=by
  have:=asr (ws.take i) (ws.drop i)
  rw [List.take_append_drop] at this
  omega
def adg:Sp3:=fun ys L Q=>∃ a ws,ys=[.ref a]∧L a=some (.lst ((ws:List Wd).map z8))∧SZ ws≤100∧∀ k p,L k=none→L p=none→k≠p→Q (.tup [.ref k,.ref p]) (qe (qe L k (.lst (xn 0 ws))) p (.lst (plc 0 ws)))
theorem aur:∀ ys L Q,adg ys L Q→x9 (ar2 (vh 60)) 4 ys L Q:=by
  rintro ys L Q ⟨a,ws,rfl,ha,hz,q⟩
  intro k hk p hp
  have np:L p=none:=jd (LSub.new hk) hp
  have nkp:k≠p:=neL q8 hp
  have nak:a≠k:=neL ha hk
  have nap:a≠p:=neL ha np
  have sb:∀ o u,LSub L (qe (qe L k o) p u):=fun o u=>(LSub.new hk).upd np
  refine vm (ys:=ws.map z8) (zg (sb _ _ _ _ ha)) (fun i τ L'=>∃ c,τ=[some (.ref a),some (.ref k),some (.ref p),c]∧L'=qe (qe L k (.lst (xn 0 (ws.take i)))) p (.lst (plc 0 (ws.take i)))) ⟨_,rfl,rfl⟩ ?_ ?_ ?_
  · rintro i τ L' ⟨c,rfl,rfl⟩
    rw [sb _ _ _ _ ha,sb _ _ _ _ ha]
  · rintro i y τ L' hy ⟨c,rfl,rfl⟩
    rw [List.getElem?_map] at hy
    obtain ⟨w,ew,rfl⟩:=Option.map_eq_some_iff.mp hy
    have hw:=a00 (List.mem_of_getElem? ew)
    have hd:=anw w
    have ht:=awm ws (i+1)
    rw [alv ew,asr,a0z] at ht
    have hl:(ws.take i).length≤100:=Nat.le_trans (az7 _) (by omega)
    refine qk q8 ⟨k,_,w,rfl,(qd nkp).trans q8,by omega,by rw [aal];omega,?_⟩
    refine z0 ((qd (Ne.symm nkp)).trans q8) ⟨ac0 (by rw [aon];omega),⟨_,LSub.refl _,_,rfl,?_⟩⟩
    rw [aal,alv ew,afd,alq,aad (Ne.symm nkp),za,za,Nat.zero_add]
  · rintro τ L' ⟨c,rfl,rfl⟩
    rw [List.length_map,List.take_length]
    exact fin (q k p hk np nkp)
end L3
namespace L3
open PySem L2 Words
local macro_rules | `(tactic| walk_at "w")=>`(tactic| conv=>whnf)
def jz:Nat→Wd→List Kn
  | _,.leaf t n=>[.lf t n]
  | b,.node e l r=>(jz b l++jz (b+l.size) r)++[.nd e (b+l.size - 1) (b+l.size+r.size - 1)]
theorem ak9:∀ (b:Nat) (w:Wd),(jz b w).map atd=aba b w
  | _,.leaf _ _=>rfl
  | b,.node e l r=>by
    show ((jz b l++jz (b+l.size) r)++[_]).map atd=(aba b l++aba (b+l.size) r)++[_]
    rw [List.map_append,List.map_append,ak9,ak9];rfl
theorem kq (b:Nat) (w:Wd):(jz b w).length=w.size:=by rw [← vn b w,← ak9,List.length_map]
def abu:Nat→List Wd→List Kn
  | _,[]=>[]
  | b,w::r=>jz b w++abu (b+w.size) r
theorem ajm:∀ (b:Nat) (ws:List Wd),(abu b ws).map atd=xn b ws
  | _,[]=>rfl
  | b,w::r=>by rw [abu,List.map_append,ak9,ajm,xn]
theorem aqh (b:Nat) (ws:List Wd):(abu b ws).length=SZ ws:=by rw [← aal b ws,← ajm,List.length_map]
abbrev ksO (ws:List Wd):List (Option Kn):=(abu 0 ws).map some
theorem a35 (ws:List Wd):osY (ksO ws)=xn 0 ws:=by
  unfold osY ksO
  rw [List.map_map,← ajm];rfl
theorem akc (ws:List Wd):(ksO ws).length=SZ ws:=by rw [List.length_map,aqh]
theorem akp (ws:List Wd):∀ k∈ksO ws,k≠none:=fun k hk=>by
  obtain ⟨x,_,rfl⟩:=List.mem_map.mp hk
  exact fun z=>by cases z
def Low (n:Nat):Kn→Prop
  | .lf _ _=>True
  | .nd _ i j=>i<n∧j<n
theorem Low.mono {n m:Nat} (h:n≤m):∀ {k:Kn},Low n k→Low m k
  | .lf _ _,_=>trivial
  | .nd _ _ _,⟨a,b⟩=>⟨Nat.lt_of_lt_of_le a h,Nat.lt_of_lt_of_le b h⟩
theorem agy:∀ (b:Nat) (w:Wd),∀ k∈jz b w,Low (b+w.size) k
  | _,.leaf _ _,k,hk=>by rw [List.mem_singleton.mp hk];trivial
  | b,.node e l r,k,hk=>by
    have pl:=l.size_pos;have pr:=r.size_pos
    have es:(Wd.node e l r).size=1+l.size+r.size:=rfl
    rcases List.mem_append.mp hk with hk | hk
    · rcases List.mem_append.mp hk with hk | hk
      · exact (agy b l k hk).mono (by omega)
      · exact (agy (b+l.size) r k hk).mono (by omega)
    · rw [List.mem_singleton.mp hk]
      exact ⟨by omega,by omega⟩
theorem aim:∀ (b:Nat) (ws:List Wd),∀ k∈abu b ws,Low (b+SZ ws) k
  | _,[],k,hk=>by cases hk
  | b,w::r,k,hk=>by
    rw [abu] at hk
    rw [ac8]
    rcases List.mem_append.mp hk with hk | hk
    · exact (agy b w k hk).mono (by omega)
    · exact (aim (b+w.size) r k hk).mono (by omega)
theorem a1x (ws:List Wd):KnR (ksO ws):=by
  intro p e i j h
  have hm:=List.mem_of_getElem? h
  obtain ⟨k,hk,ek⟩:=List.mem_map.mp hm
  cases ek
  have:=aim 0 ws _ hk
  rw [akc,← Nat.zero_add (SZ ws)]
  exact this
def lvK:Option Kn→Option Wd
  | some (.lf t n)=>some (.leaf t n)
  | _=>none
theorem ak3:∀ (b:Nat) (w:Wd),((jz b w).map some).filterMap lvK=w.leafL
  | _,.leaf _ _=>rfl
  | b,.node e l r=>by
    show (((jz b l++jz (b+l.size) r)++[_]).map some).filterMap lvK=l.leafL++r.leafL
    rw [List.map_append,List.map_append,List.filterMap_append,List.filterMap_append,ak3,ak3]
    simp [lvK]
theorem abc:∀ (b:Nat) (ws:List Wd),((abu b ws).map some).filterMap lvK=LV ws
  | _,[]=>rfl
  | b,w::r=>by
    rw [abu,List.map_append,List.filterMap_append,ak3,abc]
    unfold LV;rw [List.flatMap_cons]
def boN:Wd→Nat
  | .leaf _ _=>0
  | .node e l r=>boN l+boN r+if e=true then 0 else 1
def BO (ws:List Wd):Nat:=(ws.map boN).sum
theorem akx:∀ (b:Nat) (w:Wd),((jz b w).map some).countP (je false)=boN w
  | _,.leaf _ _=>rfl
  | b,.node e l r=>by
    show (((jz b l++jz (b+l.size) r)++[_]).map some).countP (je false)=boN l+boN r+_
    rw [List.map_append,List.map_append,List.countP_append,List.countP_append,akx,akx]
    cases e<;>rfl
theorem ahm:∀ (b:Nat) (ws:List Wd),((abu b ws).map some).countP (je false)=BO ws
  | _,[]=>rfl
  | b,w::r=>by
    rw [abu,List.map_append,List.countP_append,akx,ahm]
    unfold BO;rw [List.map_cons,List.sum_cons]
theorem w6 (f:Option Kn→Bool) (ks:List (Option Kn)):∀ i,i≤ks.length→(whr f ks i).length=(ks.take i).countP f
  | 0,_=>rfl
  | i+1,h=>by
    have e:ks[i]?=some ks[i]:=List.getElem?_eq_getElem (by omega)
    rw [agl e,List.length_append,w6 f ks i (by omega),List.take_succ,e,List.countP_append]
    congr 1
    cases hf:f ks[i]<;>simp [hf]
theorem ate (ks:List (Option Kn)) (x:Str):aa2 ks x=zk (ks.filterMap lvK) true x:=by
  unfold aa2 zk
  rw [w6 _ _ _ (Nat.le_refl _),List.take_length]
  induction ks with
  | nil=>rfl
  | cons k r ih=>
    rw [List.countP_cons,ih]
    cases k with
    | none=>simp [lvK,ab6,List.filterMap_cons]
    | some k=>
      cases k with
      | nd e i j=>simp [lvK,ab6,List.filterMap_cons]
      | lf t n=>cases t<;>simp [lvK,ab6,afu,List.countP_cons]
def a1u (f:Str→Nat):Wd→Nat
  | .leaf false x=>f x
  | _=>1
theorem az3 (ks:List (Option Kn)) (i:Nat):bnd ks i=(((ks.take i).filterMap lvK).map (a1u (aa2 ks))).prod:=by
  unfold bnd
  generalize ks.take i=l
  induction l with
  | nil=>rfl
  | cons k r ih=>
    rw [List.map_cons,List.prod_cons,ih]
    cases k with
    | none=>simp [lvK,anl,List.filterMap_cons]
    | some k=>
      cases k with
      | nd e i j=>simp [lvK,anl,List.filterMap_cons]
      | lf t n=>cases t<;>simp [lvK,anl,a1u]
end L3
namespace L3
open PySem L2 Words
local macro_rules | `(tactic| walk_at "w")=>`(tactic| conv=>whnf)
def ki:Sp3:=fun ys L Q=>∃ a,∃ ws:List Wd,ys=[.ref a]∧L a=some (.lst (ws.map z8))∧(∀ w∈ws,w.depth≤63∧w.leaves≤63)∧(LV ws).length≤124∧∀ n,a0i (LV ws) n→Q (.int ((n:Nat):Int)) L
theorem aqq:∀ ys L Q,ki ys L Q→x9 (afc aaj aap) 6 ys L Q:=by
  rintro ys L Q ⟨a,ws,rfl,ha,hok,hlv,q⟩
  refine ⟨a,ws,rfl,ha,hok,by omega,fun p hp=>?_⟩
  have hlf:∀ w∈LV ws,∃ t n,w=Wd.leaf t n:=fun w hw=>ajs hw
  refine ⟨p,LV ws,rfl,q8,hlf,by omega,fun x hx=>?_,fun hn=>?_⟩
  · exact ade (LSub.new hp) (q 0 (.inr ⟨alr hx,rfl⟩))
  intro d hd
  have hpd:p≠d:=neL q8 hd
  have sub:∀ o,LSub L (qe (qe L p (.lst ((LV ws).map z8))) d o):=fun o=>(LSub.new hp).trans (LSub.new hd)
  refine vm (ys:=(LV ws).map z8) (zg ((qd hpd).trans q8)) (fun i τ L'=>∃ kvs,∃ n:Nat,∃ c4 c5,τ=[some (.ref a),some (.ref p),some (.int (n:Int)),some (.ref d),c4,c5]∧L'=qe (qe L p (.lst ((LV ws).map z8))) d (.dct kvs)∧kvs.length≤i∧(∀ x,kl kvs (.inr x)=a19 (zk ((LV ws).take i) false x))∧WayR ((LV ws).take i) n) ⟨[],1,_,_,rfl,rfl,Nat.le_refl _,fun x=>rfl,WayR.nil⟩ ?_ ?_ ?_
  · rintro i τ L' ⟨kvs,n,c4,c5,rfl,rfl,_⟩
    rw [qd hpd,qd hpd]
  · rintro i y τ L' hy ⟨kvs,n,c4,c5,rfl,rfl,hk,hv,hw⟩
    rw [List.getElem?_map] at hy
    obtain ⟨w,ew,rfl⟩:=Option.map_eq_some_iff.mp hy
    obtain ⟨t,x,rfl⟩:=hlf w (List.mem_of_getElem? ew)
    have hi:i<(LV ws).length:=(List.getElem?_eq_some_iff.mp ew).1
    have et:(LV ws).take (i+1)=(LV ws).take i++[Wd.leaf t x]:=by rw [List.take_succ,ew];rfl
    cases t with
    | true=>
      refine ⟨_,LSub.refl _,kvs,n,_,_,rfl,rfl,by omega,fun z=>?_,?_⟩
      · rw [hv,et,abn,if_neg (by simp [afu])];rfl
      · rw [et];exact hw.other
    | false=>
      have e:((kl kvs (.inr x)).getD (Y.int 0))=.int ((zk ((LV ws).take i) false x:Nat):Int):=by
        rw [hv];unfold a19
        split
        · rename_i h;rw [h];rfl
        · rfl
      refine ag9 q8 (ag9 q8 ?_)
      rw [e]
      refine ag9 q8 ⟨?_,?_⟩
      · have hb:(1000:Nat)≤sizeLine:=by decide
        omega
      have ev:kl (ak5 kvs (.inr x) (.int (((zk ((LV ws).take i) false x:Nat):Int)+1))) (.inr x)=some (.int (((zk ((LV ws).take i) false x:Nat):Int)+1)):=by rw [amq,if_pos rfl]
      have hcl:zk ((LV ws).take i) false x≤124:=by
        have h1:zk ((LV ws).take i) false x≤((LV ws).take i).length:=List.countP_le_length
        have h2:((LV ws).take i).length≤(LV ws).length:=by rw [List.length_take];omega
        omega
      refine ag9 q8 (qo ev ⟨.inr ⟨by omega,by omega⟩,?_⟩)
      refine ⟨_,LSub.refl _,ak5 kvs (.inr x) (.int (((zk ((LV ws).take i) false x:Nat):Int)+1)),n*(zk ((LV ws).take i) false x+1),some (.str (kL false)),some (.str x),?_,za,?_,fun z=>?_,?_⟩
      · have e2:(n:Int)*(((zk ((LV ws).take i) false x:Nat):Int)+1)=((n*(zk ((LV ws).take i) false x+1):Nat):Int):=by push_cast;rfl
        rw [← e2];rfl
      · have:=asw kvs (.inr x) (.int (((zk ((LV ws).take i) false x:Nat):Int)+1));omega
      · rw [amq,et,abn]
        by_cases h:z=x
        · subst h
          rw [if_pos rfl,if_pos (by simp [afu])]
          unfold a19
          rw [if_neg (by omega)]
          push_cast;rfl
        · rw [if_neg (fun q=>h (Sum.inr.inj q)),if_neg (by simp [afu];exact fun q=>h q.symm),hv];rfl
      · rw [et];exact hw.plain
  · rintro τ L' ⟨kvs,n,c4,c5,rfl,rfl,hk,hv,hw⟩
    rw [List.length_map,List.take_length] at hw
    exact ade (sub _) (q n (.inl ⟨aat hlf hn,hw⟩))
def acv (C_TooMany:Addr) (E3:X3) (p_leaves_in:Sp3) (p_first_uneven:Sp3) (p_laid:Sp3) (p_tries_due:Sp3) (p_linked_or_tried:Sp3):TS3:=(qr (zc (qw p_leaves_in (qa (qb 0) qj)) (qf 2))
  (qr (zc (qw p_first_uneven (qa (qb 2) qj)) (qf 3))
  (qr (ku (yB (ai9 true (qb 3))) (zu (aah (qa (yC (.str "names")) (qa (qb 3) qj)))) xj)
  (qr (zc (yOp yIx (qw p_laid (qa (qb 0) qj)) (yC (.int 0))) (qf 4))
  (qr (zc (yCB abj (qa (yLC 1 (x5 (qb 4)) (qf 6) (yB (yOp (yEq false) (yOp yIx (qb 6) (yC (.int 0))) (yC (.str "both")))) (qb 6)) qj)) (qf 5))
  (qr (ku (yB (yOp (yEq true) (yCB abj (qa (qb 2) qj)) (yOp wn (yOp arc (yC (.int 2)) (qb 5)) (yC (.int 2))))) (zu (aah (qa (yC (.str "count")) (qa (yCB abj (qa (qb 2) qj)) (qa (qb 5) qj))))) xj)
  (qr (ku (yB (yOp yGt (qw p_tries_due (qa (qb 0) qj)) (qb 1))) (art C_TooMany E3 (qa (yC (.str "there are more ways to link than may be tried")) qj)) xj)
  (zu (qw p_linked_or_tried (qa (qb 4) qj))))))))))
theorem ad7:∀ l:List (Option Kn),(l.filterMap lvK).length=l.countP vq
  | []=>rfl
  | none::r=>ad7 r
  | some (.lf t n)::r=>by
    rw [List.countP_cons,← ad7 r];rfl
  | some (.nd e i j)::r=>ad7 r
theorem axb (ws:List Wd):lvN (ksO ws) (ksO ws).length=(LV ws).length:=by
  unfold lvN
  rw [List.take_length,← ad7]
  exact congrArg List.length (abc 0 ws)
end L3
namespace L3
open PySem L2
theorem ayk:bootBuiltins "min" = some (.builtin "min"):=by decide +kernel
structure FunD (K:PySem.W.Frag) (x qual:Str) (st:Stmt) (f:Addr) (fd:FuncData):Prop where
  ex:∃ (oc:Value) (od:Option Addr) (dV kV doc pm:Value) (an:Option Addr) (cdv ct:Value) (osl:Array (Option Value)),
    fd=PySem.W.fnOf x qual (j5 st) (ql st) (q9 st) dV kV doc pm an cdv ct∧K.lookup f=some ⟨oc,od,.func fd,osl⟩∧PySem.W.codeIn K cdv qual=true
  kp:PySem.W.keepIn K (.ref f)=true
structure DefInD (K:PySem.W.Frag) (x:Str) (st:Stmt) (d:Int):Prop where
  ex:∃ (f T:Addr) (oT:Obj) (t:Tok) (n:Nat) (kV doc pm:Value) (an:Option Addr) (cdv ct:Value),PySem.W.nsIn K mainGlobals x=some (some (.ref f))∧FunD K x x st f (PySem.W.fnOf x x (j5 st) (ql st) (q9 st) (.ref T) kV doc pm an cdv ct)∧K.lookup T=some oT∧oT.data=.seq #[.int d t] n
theorem def_inD {K:PySem.W.Frag} {x:Str} {st:Stmt} {d:Int} {f T:Addr} {oc oc2:Value} {od od2 an:Option Addr} {osl osl2:Array (Option Value)} {kV doc pm cdv ct:Value} {t:Tok} {n:Nat} (a:PySem.W.nsIn K mainGlobals x=some (some (.ref f)))
    (l:K.lookup f=some ⟨oc,od,.func (PySem.W.fnOf x x (j5 st) (ql st) (q9 st) (.ref T) kV doc pm an cdv ct),osl⟩) (lt:K.lookup T=some ⟨oc2,od2,.seq #[.int d t] n,osl2⟩) (c:PySem.W.codeIn K cdv x=true) (k:PySem.W.keepIn K (.ref f)=true):DefInD K x st d:=
  ⟨f,T,_,t,n,kV,doc,pm,an,cdv,ct,a,⟨⟨oc,od,.ref T,kV,doc,pm,an,cdv,ct,osl,rfl,l,c⟩,k⟩,lt,rfl⟩
theorem a2d {P:Program} {w:World} {K:PySem.W.Frag} {mg:Str→Option Value} {base:Heap} {x qual:Str} {st:Stmt} {f:Addr} {fd:FuncData} {N ps:List Str} {k:Nat} {sp:aby} {t:X3→TS3} (F:FunD K x qual st f fd) (S:FnScope N ps (q9 st)) (len:∀ ys L Q E,sp ys L Q E→ys.length=ps.length)
    (hbody:∀ (cdv:Value) (A:Around) (outer:List Env) (s:Shared) (H:Hp) (E:XK) (E3:X3),Room k (A.deeper (PyProof.Rows.envOfC qual (q9 st) s.heap.objs.size f cdv))→
      Takes (zx (CXE P w) P w K mg base N qual (q9 st) f cdv A outer s H E) (upX ⟨K,P,w⟩ E3)→QSs (zx (CXE P w) P w K mg base N qual (q9 st) f cdv A outer s H E) (ql st) (t E3))
    (vc:∀ ys L Q E,sp ys L Q E→t (av5 E) { nx:=fun _ L'=>agm Q .non L',rt:=agm Q } (aes N ys) L):avy P w K mg base (k+1) f fd ps sp:=by
  obtain ⟨oc,od,dV,kV,doc,pm,an,cdv,ct,osl,rfl,lk,hcd⟩:=F.ex
  refine ay4 lk hcd S (fun vs H Q E ⟨ys,L,Q3,E3,rv,rl,z,_⟩=>by rw [← rv.length];exact len ys L Q3 E3 z) fun A outer s H vs Q E hr ⟨ys,L,Q3,E3,rv,rl,z,k,kx⟩=>?_
  refine ⟨_,hbody cdv A outer s H E (av5 E3) hr (a06 kx),aes N ys,L,_,ajc rv,rl,vc ys L Q3 E3 z,?_⟩
  exact ⟨fun σ H' τ L' t' rs' rl' ⟨L2,s2,q2⟩=>k .non H' .non L2 t' (rl'.sub s2) (by rfl) q2,fun v H' y L' t' rl' rv' ⟨L2,s2,q2⟩=>k v H' y L2 t' (rl'.sub s2) rv' q2,fun _ _ _ _ _ _ _ z=>z.elim,fun _ _ _ _ _ _ _ z=>z.elim⟩
end L3
namespace L2
open PySem PySem.Spec PyProof.Rows
section
variable {X:Cx} {pins:List (Addr×Obj)} {σ:St} {H:Hp} {s:Shared} {E1:X1}
theorem alg {k:Nat} {f:Addr} {fd:FuncData} {ps:List Str} {sp:Sp} {Q:VK} {us ws:List Value} {kw:List (Str×Value)} {vs:List V} (F:FnOk X.prog X.w X.K X.mg X.base (CXE X.prog X.w) k f fd ps sp) (hr:Room k X.A) (hb:BindsTo s fd ⟨ws,kw⟩ (ps.zip us)) (ht:Takes X E1) (hx:X.ex=[])
    (I:Inv X pins σ H s) (r:Vals vs us) (h:sp vs H Q (fun c _ H'=>E1 σ c H')):wpAny (model X.prog X.w) X.A (call (.ref f) ws kw) (EP X pins σ Q) X.xe s:=by
  refine wpAny_call (codeAny_mono (F.run X.A X.stack s H ⟨ws,kw⟩ us vs Q _ hr I.env0 hb r h) fun r s' hq=>?_)
  cases r with
  | error e=>exact ht.pass hx I hq
  | ok fl=>
    cases fl with
    | ret u=>exact I.after hq
    | next=>exact False.elim hq
    | brk=>exact False.elim hq
    | cont=>exact False.elim hq
end
def avd (sp:Sp) (dvs:List V) (E1:X1) (t:TA):TE:=fun σ H Q=>t σ H fun vs H1=>sp (vs++dvs) H1 Q fun c _ H'=>E1 σ c H'
def ax5 (sp:Sp) (E1:X1) (t:TA) (tk:TE):TE:=fun σ H Q=>t σ H fun vs H1=>tk σ H1 fun v H2=>sp (vs++[v]) H2 Q fun c _ H'=>E1 σ c H'
section
variable {X:Cx} {k:Nat} {f:Addr} {fd:FuncData} {ps:List Str} {sp:Sp} {E1:X1} {x kn:Str} {p pos kp:Pos} {e ke:Expr} {es:List Expr} {t:TA} {tk:TE} {dvs:List V} {ds:List Value}
theorem aiq (F:FnOk X.prog X.w X.K X.mg X.base (CXE X.prog X.w) k f fd ps sp) (hr:Room k X.A) (hg:Gl X x) (hm:X.mg x=some (.ref f)) (hk:PySem.W.keepIn X.K (.ref f)=true) (hb:Binds X.K fd ps ds) (hd:Vals dvs ds) (ht:Takes X E1) (hx:X.ex=[])
    (ha:PA X (e::es) t) (hdb:(x==("__debug__" : Str))=false:=by decide) (he:starEach (e::es) X.env=(false,eval e X.env)::starEach es X.env:=by rfl) (hpl:(backTo pos (starEach es X.env)).any (·.1)=false:=by rfl):
    PE X (.Call (.Name x p) (e::es) [] pos) (avd sp dvs E1 t):=by
  intro pins s σ H Q I h
  refine wpAny_Call_Name_kw (wu I hg hm ?_ hdb)
  refine PySem.W.callWith_K (h₀:=X.base) I.ok.mod.kin hk (thn (ha pos pins s σ H _ I h) fun us s1 ⟨vs,H1,I1,r,q⟩=>⟨I1.kIn,?_⟩) he hpl
  have r2:Vals (vs++dvs) (us++ds):=r.append hd
  exact alg F hr (hb s1 us I1.kIn (by rw [← r2.length];exact F.len _ _ _ _ q)) ht hx I1 r2 q
theorem apy (F:FnOk X.prog X.w X.K X.mg X.base (CXE X.prog X.w) k f fd ps sp) (hr:Room k X.A) (hg:Gl X x) (hm:X.mg x=some (.ref f)) (hk:PySem.W.keepIn X.K (.ref f)=true)
    (hb:∀ (s:Shared) (us:List Value) (u:Value),X.K.In s.heap→(us++[u]).length=ps.length→BindsTo s fd ⟨us,[(kn,u)]⟩ (ps.zip (us++[u]))) (ht:Takes X E1) (hx:X.ex=[])
    (ha:PA X (e::es) t) (hke:PE X ke tk) (hdb:(x==("__debug__" : Str))=false:=by decide) (he:starEach (e::es) X.env=(false,eval e X.env)::starEach es X.env:=by rfl)
    (hpl:((backTo pos (starEach (e::es) X.env)).any (·.1)||(backToKw pos (keywordEach [⟨some kn,ke,kp⟩] X.env)).any (·.1.isNone))=false:=by rfl):
    PE X (.Call (.Name x p) (e::es) [⟨some kn,ke,kp⟩] pos) (ax5 sp E1 t tk):=by
  intro pins s σ H Q I h
  refine wpAny_Call_Name_kw (wu I hg hm ?_ hdb)
  refine PySem.W.callWith_KW (h₀:=X.base) I.ok.mod.kin hk rfl (thn (ha pos pins s σ H _ I h) fun us s1 ⟨vs,H1,I1,r,q⟩=>?_) hpl he
  refine kwAll_cons (thn (hke pins s1 σ H1 _ I1 q) fun u s2 ⟨v,H2,I2,rv,q2⟩=>kwAll_nil ⟨I2.kIn,?_⟩)
  have r2:Vals (vs++[v]) (us++[u]):=r.append (.cons rv .nil)
  exact alg F hr (hb s2 us u I2.kIn (by rw [← r2.length];exact F.len _ _ _ _ q2)) ht hx I2 r2 q2
end
end L2
namespace L3
open PySem L2
def aga (sp:aby) (d:Int) (E3:X3) (t:TA3) (τ:St3) (L:LHp) (Q:YK):Prop:=t τ L fun ys L1=>sp (ys++[.int d]) L1 Q (E3 τ)
def aot (sp:aby) (E3:X3) (t:TA3) (tk:TE3) (τ:St3) (L:LHp) (Q:YK):Prop:=t τ L fun ys L1=>tk τ L1 fun y L2=>sp (ys++[y]) L2 Q (E3 τ)
structure BindsD (K:PySem.W.Frag) (fd:FuncData) (ps:List Str) (d:Int) (kn:Str):Prop where
  all:Binds K fd ps []
  df:∃ t,Binds K fd ps [.int d t]
  kw:∀ (s:Shared) (us:List Value) (u:Value),K.In s.heap→(us++[u]).length=ps.length→BindsTo s fd ⟨us,[(kn,u)]⟩ (ps.zip (us++[u]))
structure Cal3XD (P:Program) (w:World) (K:PySem.W.Frag) (mg:Str→Option Value) (base:Heap) (k:Nat) (x:Str) (ps:List Str) (d:Int) (kn:Str) (sp:aby):Prop where
  ex:∃ f fd,avy P w K mg base k f fd ps sp∧BindsD K fd ps d kn∧PySem.W.keepIn K (.ref f)=true∧mg x=some (.ref f)
section
variable {P:Program} {w:World} {K:PySem.W.Frag} {mg:Str→Option Value} {base:Heap} {j k:Nat} {x kn:Str} {ps:List Str} {d:Int} {sp:aby}
theorem Cal3XD.mono (c:Cal3XD P w K mg base j x ps d kn sp) (h:j≤k):Cal3XD P w K mg base k x ps d kn sp:=by
  obtain ⟨f,fd,F,b,kp,m⟩:=c.ex
  exact ⟨f,fd,F.mono h,b,kp,m⟩
theorem Cal3XD.toX (c:Cal3XD P w K mg base k x ps d kn sp):Cal3X P w K mg base k x ps sp:=by
  obtain ⟨f,fd,F,b,kp,m⟩:=c.ex
  exact ⟨f,fd,F,b.all,kp,m⟩
theorem DefInD.useD {st:Stmt} {h:Heap} (D:DefInD K x st d) (X:K.In h) (G:h.Ns mainGlobals mg)
    (hb:∀ (T:Addr) (t:Tok) (kV doc pm:Value) (an:Option Addr) (cdv ct:Value),
      (∀ us:List Value,us.length=ps.length→∃ k,bindArgs (PySem.W.fnOf x x (j5 st) (ql st) (q9 st) (.ref T) kV doc pm an cdv ct) ⟨us,[]⟩=seqItems? (.ref T) >>= k∧k (some #[.int d t])=pure (ps.zip us))∧
      (∀ us:List Value,(us++[Value.int d t]).length=ps.length→∃ k,bindArgs (PySem.W.fnOf x x (j5 st) (ql st) (q9 st) (.ref T) kV doc pm an cdv ct) ⟨us,[]⟩=seqItems? (.ref T) >>= k∧k (some #[.int d t])=pure (ps.zip (us++[.int d t])))∧
      (∀ (us:List Value) (u:Value),(us++[u]).length=ps.length→∃ k,bindArgs (PySem.W.fnOf x x (j5 st) (ql st) (q9 st) (.ref T) kV doc pm an cdv ct) ⟨us,[(kn,u)]⟩=seqItems? (.ref T) >>= k∧k (some #[.int d t])=pure (ps.zip (us++[u])))):
    ∃ f fd,FunD K x x st f fd∧BindsD K fd ps d kn∧mg x=some (.ref f):=by
  obtain ⟨f,T,oT,t,n,kV,doc,pm,an,cdv,ct,a,F,lT,dT⟩:=D.ex
  obtain ⟨b1,b2,b3⟩:=hb T t kV doc pm an cdv ct
  refine ⟨f,_,F,⟨fun s us KX hl=>?_,⟨t,fun s us KX hl=>?_⟩,fun s us u KX hl=>?_⟩,PySem.W.mg_of X G a⟩
  · rw [List.append_nil] at hl ⊢
    obtain ⟨k,h1,h2⟩:=b1 us hl
    exact BindsTo.of_defaults rfl (KX T oT lT) dT h1 h2
  · obtain ⟨k,h1,h2⟩:=b2 us hl
    exact BindsTo.of_defaults rfl (KX T oT lT) dT h1 h2
  · obtain ⟨k,h1,h2⟩:=b3 us u hl
    exact BindsTo.of_defaults rfl (KX T oT lT) dT h1 h2
end
theorem ars {us:List Value} {a:Value} (h:(us++[a]).length=2):∃ u,us=[u]:=by
  rw [List.length_append,List.length_singleton] at h
  match us,h with
  | [u],_=>exact ⟨u,rfl⟩
section
variable {X:Cx} {e ke:Expr} {es:List Expr} {tr:TA3} {tk:TE3} {pos cp kp:Pos} {E3:X3} {k:Nat} {x kn:Str} {ps:List Str} {d:Int} {sp:aby} {p:Pos}
theorem a11 (c:Cal3XD X.prog X.w X.K X.mg X.base k x ps d kn sp) (hr:Room k X.A) (hg:Gl X x) (ht:Takes X (upX X.g3 E3)) (hx:X.ex=[]) (ha:QA X (e::es) tr) (hdb:(x==("__debug__" : Str))=false:=by decide)
    (he:starEach (e::es) X.env=(false,eval e X.env)::starEach es X.env:=by rfl) (hpl:(backTo pos (starEach es X.env)).any (·.1)=false:=by rfl):QE X (.Call (.Name x p) (e::es) [] pos) (aga sp d E3 tr):=by
  obtain ⟨f,fd,F,b,kp,m⟩:=c.ex
  obtain ⟨t,bd⟩:=b.df
  refine PE.imp (aiq (dvs:=[.int d]) F hr hg m kp bd (.cons ⟨_,rfl⟩ .nil) ht hx ha hdb he hpl) fun σ H Q ⟨τ,L,Q3,rs,rl,z,k⟩=>?_
  exact ⟨τ,L,_,rs,rl,z,fun vs H1 ys L1 t1 rl1 rv1 z1=>⟨ys++[.int d],L1,Q3,E3 τ,rv1.app (RVs.one (by rfl)),rl1,z1,k.ts t1,fun C H' L' t' rl' q=>⟨C,τ,L',rfl,rs.ts (t1.trans t'),rl',q⟩⟩⟩
theorem a1a (c:Cal3XD X.prog X.w X.K X.mg X.base k x ps d kn sp) (hr:Room k X.A) (hg:Gl X x) (ht:Takes X (upX X.g3 E3)) (hx:X.ex=[]) (ha:QA X (e::es) tr) (hke:QE X ke tk) (hdb:(x==("__debug__" : Str))=false:=by decide)
    (he:starEach (e::es) X.env=(false,eval e X.env)::starEach es X.env:=by rfl) (hpl:((backTo pos (starEach (e::es) X.env)).any (·.1)||(backToKw pos (keywordEach [⟨some kn,ke,kp⟩] X.env)).any (·.1.isNone))=false:=by rfl):
    QE X (.Call (.Name x p) (e::es) [⟨some kn,ke,kp⟩] pos) (aot sp E3 tr tk):=by
  obtain ⟨f,fd,F,b,kpp,m⟩:=c.ex
  refine PE.imp (apy F hr hg m kpp b.kw ht hx ha hke hdb he hpl) fun σ H Q ⟨τ,L,Q3,rs,rl,z,k⟩=>?_
  exact ⟨τ,L,_,rs,rl,z,fun vs H1 ys L1 t1 rl1 rv1 z1=>⟨τ,L1,_,rs.ts t1,rl1,z1,fun v H2 y L2 t2 rl2 rv2 z2=>⟨ys++[y],L2,Q3,E3 τ,(rv1.ts t2).app ⟨v,[],rfl,rv2,rfl⟩,rl2,z2,k.ts (t1.trans t2),fun C H' L' t' rl' q=>⟨C,τ,L',rfl,rs.ts ((t1.trans t2).trans t'),rl',q⟩⟩⟩⟩
theorem asi (c:Cal3XD X.prog X.w X.K X.mg X.base k x ps d kn sp) (hr:Room k X.A) (hg:Gl X x) (hx:X.ex=[]) (ha:∀ pn xe,QA (X.tr pn xe) (e::es) tr) (hdb:(x==("__debug__" : Str))=false:=by decide)
    (he:starEach (e::es) X.env=(false,eval e X.env)::starEach es X.env:=by rfl) (hpl:(backTo cp (starEach es X.env)).any (·.1)=false:=by rfl) (hs:swapsWith (.Call (.Name x p) (e::es) [] cp) none pos.line X.env=pure false:=by rfl):
    QB X [.Expr (.Call (.Name x p) (e::es) [] cp) pos] (fun E3=>v8 (aga sp d E3 tr)):=by
  obtain ⟨f,fd,F,b,kp,m⟩:=c.ex
  obtain ⟨t,bd⟩:=b.df
  intro pn xe E1 ht
  refine PSs.imp (ag6 (ak7 (aiq (X:=X.tr pn xe) (dvs:=[.int d]) F hr hg m kp bd (.cons ⟨_,rfl⟩ .nil) ht hx (ha pn xe) hdb he hpl) hs)) fun D σ H ⟨τ,L,D3,E3,rs,rl,z,k,kx⟩=>?_
  exact ⟨τ,L,_,rs,rl,z,fun vs H1 ys L1 t1 rl1 rv1 z1=>⟨ys++[.int d],L1,_,E3 τ,rv1.app (RVs.one (by rfl)),rl1,z1,(fun v H2 y L2 t2 rl2 rv2 z2=>k.nx _ H2 _ L2 (t1.trans t2) (rs.ts (t1.trans t2)) rl2 z2),fun C H' L' t' rl' q=>kx σ C H' τ L' (t1.trans t') (rs.ts (t1.trans t')) rl' q⟩⟩
theorem a20 {c:Expr} {a b:List Stmt} {tc:TT3} {ta tb:X3→TS3} (hc:∀ pn xe,QT (X.tr pn xe) c tc) (ha:QB X a ta) (hb:QB X b tb):QB X [.If c a b pos] (fun E3=>ku tc (ta E3) (tb E3)):=by
  intro pn xe E1 ht
  refine PSs.imp (ag6 (axp (hc pn xe) (ha pn xe E1 ht) (hb pn xe E1 ht))) fun D σ H ⟨τ,L,D3,E3,rs,rl,z,k,kx⟩=>?_
  exact ⟨τ,L,_,rs,rl,z,fun c H1 L1 t1 rl1 z1=>by
    have kx1:axy X.g3 H1 E3 E1:=fun σ' C H' τ' L' t'=>kx σ' C H' τ' L' (t1.trans t')
    cases c with
    | true=>exact ⟨τ,L1,D3,E3,rs.ts t1,rl1,z1,k.ts t1,kx1⟩
    | false=>exact ⟨τ,L1,D3,E3,rs.ts t1,rl1,z1,k.ts t1,kx1⟩⟩
end
def ari (x y:Y) (L:LHp) (Q:YK):Prop:=match x,y with
  | .ref a,.int n=>adb L a fun ys=>(0≤n∧n≤1000∧ys.length≤1000)∧∀ p,L p=none→Q (.ref p) (qe L p (.lst (List.replicate n.toNat ys).flatten))
  | _,_=>False
theorem ap4 {G:G3} {H:Hp} {ys:List Y} {xs:List V} (r:RVs G H ys xs):∀ n:Nat,RVs G H (List.replicate n ys).flatten (List.replicate n xs).flatten
  | 0=>rfl
  | n+1=>by rw [List.replicate_succ,List.replicate_succ,List.flatten_cons,List.flatten_cons];exact r.app (ap4 r n)
theorem ayc {X:Cx}:OpR X (binaryOp .Mult) (upR X.g3 ari):=OpR.imp a0s fun x y H Q ⟨x3,y3,L,Q3,rx,ry,rl,z,k⟩=>by
  unfold ari at z
  split at z
  · rename_i a n
    cases rx;cases ry
    obtain ⟨ys,e,⟨h0,h1,h2⟩,q⟩:=xr z
    obtain ⟨xs,e2,r⟩:=rl a _ e
    have hl:=r.length
    have hm:xs.length*n.toNat≤1000*1000:=Nat.mul_le_mul (by omega) (by omega)
    exact ⟨a,n,xs,rfl,rfl,e2,by omega,by omega,Nat.le_trans hm (by decide),fun p hp=>k _ _ _ _ (TSt.new hp) (rl.newL hp (ap4 r _)) (by rfl) (q p (rl.none hp))⟩
  · exact z.elim
end L3
namespace L3
open PySem L2 Words
theorem aum {ks:List (Option Kn)} {p i j:Nat} (h:ks[p]?=some (some (.nd false i j))):(p,i)∈zm ks (zb false ks)∧(p,j)∈zm ks (zb false ks):=by
  have hp:p∈zb false ks:=agx h rfl (qt h)
  unfold zm
  refine ⟨List.mem_flatMap.mpr ⟨p,hp,?_⟩,List.mem_flatMap.mpr ⟨p,hp,?_⟩⟩
  · rw [h];simp [vo]
  · rw [h];simp [vo]
theorem ain {ks:List (Option Kn)}:∀ {pl:List Nat},(∀ p∈pl,∃ e i j,ks[p]?=some (some (.nd e i j)))→(zm ks pl).length=2*pl.length
  | [],_=>by simp [zm]
  | p::r,h=>by
    have ih:=ain (pl:=r) fun q hq=>h q (List.mem_cons_of_mem _ hq)
    obtain ⟨e,i,j,ek⟩:=h p (List.mem_cons_self ..)
    have ea:=ae3 ks [p] r
    rw [List.singleton_append] at ea
    rw [ea,List.length_append,ih,aeb ek,List.length_map,List.length_cons]
    show 2+_=_;omega
theorem ait:∀ ks:List (Option Kn),(∀ k∈ks,k≠none)→ks.countP vq+ks.countP (je false)+ks.countP (je true)=ks.length
  | [],_=>rfl
  | k::r,h=>by
    have ih:=ait r fun q hq=>h q (List.mem_cons_of_mem _ hq)
    rw [List.countP_cons,List.countP_cons,List.countP_cons,List.length_cons]
    cases k with
    | none=>exact absurd rfl (h none (List.mem_cons_self ..))
    | some k=>
      cases k with
      | lf t n=>simp [vq,je];omega
      | nd e i j=>cases e<;>simp [vq,je]<;>omega
theorem aln (e:Bool) (ks:List (Option Kn)):(zb e ks).length=ks.countP (je e):=by
  rw [w6 _ _ _ (Nat.le_refl _),List.take_length]
theorem apx {ks:List (Option Kn)} (h:∀ k∈ks,k≠none):(x4 ks).length=ks.length:=by
  rw [w6 _ _ _ (Nat.le_refl _),List.take_length]
  refine List.countP_eq_length.mpr fun k hk=>?_
  cases k with
  | none=>exact absurd rfl (h none hk)
  | some k=>rfl
theorem aqp {ks:List (Option Kn)} {lk:List (Nat×Nat)} (hno:∀ k∈ks,k≠none) (h1:2*lk.length=ks.countP vq) (h2:ks.countP vq=2*ks.countP (je false)+2):(zq ks lk []).length+(zb true ks).length+1=ks.length:=by
  have h3:=ait ks hno
  have h4:(zm ks (zb false ks)).length=2*(zb false ks).length:=ain fun p hp=>by
    obtain ⟨_,k,ek,hk⟩:=wt hp
    cases k with
    | none=>cases hk
    | some k=>
      cases k with
      | lf t n=>cases hk
      | nd e i j=>exact ⟨e,i,j,ek⟩
  unfold zq
  rw [List.append_nil,List.length_append,h4,aln,aln]
  omega
theorem aen:∀ (l m:List Nat),l.Nodup→(∀ x∈l,x∈m)→l.length≤m.length
  | [],_,_,_=>Nat.zero_le _
  | x::r,m,nd,h=>by
    obtain ⟨n1,n2⟩:=List.nodup_cons.mp nd
    have hx:=h x (List.mem_cons_self ..)
    have p:=List.perm_cons_erase hx
    have ih:=aen r (m.erase x) n2 fun y hy=>by
      refine (List.mem_erase_of_ne ?_).mpr (h y (List.mem_cons_of_mem _ hy))
      rintro rfl;exact n1 hy
    rw [p.length_eq,List.length_cons,List.length_cons];omega
theorem aqa {l m:List Nat} (nd:l.Nodup) (h:∀ x∈l,x∈m) (hm:m.length≤l.length):∀ x∈m,x∈l:=fun x hx=>by
  by_cases c:x∈l
  · exact c
  · have:=aen (x::l) m (List.nodup_cons.mpr ⟨c,nd⟩) fun y hy=>by
      rcases List.mem_cons.mp hy with rfl | hy
      · exact hx
      · exact h y hy
    rw [List.length_cons] at this;omega
theorem ayf (ks:List (Option Kn)):(whr vq ks ks.length).length=ks.countP vq:=by
  rw [w6 _ _ _ (Nat.le_refl _),List.take_length]
theorem ax4 {ks:List (Option Kn)} {lk:List (Nat×Nat)} (w:ao8 ks ks.length lk) (h:ks.countP vq=2*ado ks ks.length) {p:Nat} {k:Option Kn} (ek:ks[p]?=some k) (hk:vq k=true):p∈xm lk:=by
  refine aqa (m:=whr vq ks ks.length) w.1 (fun x hx=>?_) ?_ p (agx ek hk (qt ek))
  · obtain ⟨k,e,h⟩:=w.2.1 x hx
    exact agx e h (qt e)
  · rw [ayf,h,am9,w.2.2.1];exact Nat.le_refl _
theorem aq7 {lk:List (Nat×Nat)} {p:Nat} (h:p∈xm lk):∃ y∈lk,p=y.1∨p=y.2:=by
  unfold xm at h
  obtain ⟨y,hy,hp⟩:=List.mem_flatMap.mp h
  refine ⟨y,hy,?_⟩
  rcases List.mem_cons.mp hp with z | z
  · exact .inl z
  · exact .inr (List.mem_singleton.mp z)
theorem awj {ks:List (Option Kn)} {i:Nat} {x:Str} (ek:ks[i]?=some (some (.lf false x))):ado ks i+1≤ado ks ks.length:=by
  have hi:=qt ek
  have e:ado ks (i+1)=ado ks i+1:=by
    unfold ado
    rw [List.take_add_one,ek,List.countP_append];rfl
  rw [← e]
  unfold ado
  rw [List.take_length]
  exact (List.take_sublist _ _).countP_le
def tnB (ks:List (Option Kn)) (p:Nat):Bool:=match ks[p]? with
  | some (some (.lf true _))=>true
  | _=>false
theorem amd {ks:List (Option Kn)} {p:Nat} (h:j6 ks p):tnB ks p=false:=by
  obtain ⟨x,e⟩:=h
  unfold tnB;rw [e]
theorem ap7 {ks:List (Option Kn)}:∀ {lk:List (Nat×Nat)},(∀ y∈lk,j6 ks y.1∨j6 ks y.2)→(xm lk).countP (tnB ks)≤lk.length
  | [],_=>Nat.le_refl _
  | y::r,h=>by
    have ih:=ap7 (lk:=r) fun z hz=>h z (List.mem_cons_of_mem _ hz)
    have ea:=adz [y] r
    rw [List.singleton_append] at ea
    rw [ea,List.countP_append,adn,List.countP_cons,List.countP_cons,List.countP_nil,List.length_cons]
    have one:∀ b:Bool,(if b=true then 1 else 0)≤1:=fun b=>by cases b<;>decide
    have o1:=one (tnB ks y.1)
    have o2:=one (tnB ks y.2)
    rcases h y (List.mem_cons_self ..) with c | c
    · rw [amd c,if_neg Bool.false_ne_true];omega
    · rw [amd c,if_neg Bool.false_ne_true];omega
def apz:Option Kn→Bool
  | some (.lf true _)=>true
  | _=>false
theorem a1q {ks:List (Option Kn)} {x0:Str} (hx:∀ (p:Nat) (t:Bool) (n:Str),ks[p]?=some (some (Kn.lf t n))→n=x0) (he:ks.countP apz=ado ks ks.length):ad1 ks:=by
  intro i lk x w ek
  have hlt:=awj ek
  have e0:x=x0:=hx i _ _ ek
  by_cases c:∃ m∈whr apz ks ks.length,m∉xm lk
  · obtain ⟨m,hm,hn⟩:=c
    obtain ⟨_,k,em,hk⟩:=wt hm
    refine ⟨m,?_,hn⟩
    cases k with
    | none=>cases hk
    | some k=>
      cases k with
      | nd e i j=>cases hk
      | lf t n=>
        cases t with
        | false=>cases hk
        | true=>rw [em,hx m _ _ em,e0]
  · exfalso
    have hs:∀ m∈whr apz ks ks.length,m∈(xm lk).filter (tnB ks):=fun m hm=>by
      refine List.mem_filter.mpr ⟨?_,?_⟩
      · by_cases d:m∈xm lk
        · exact d
        · exact absurd ⟨m,hm,d⟩ c
      · obtain ⟨_,k,em,hk⟩:=wt hm
        unfold tnB;rw [em]
        cases k with
        | none=>cases hk
        | some k=>
          cases k with
          | nd e i j=>cases hk
          | lf t n=>cases t with
            | false=>cases hk
            | true=>rfl
    have h1:=aen _ _ (by unfold whr;exact List.Pairwise.filter _ List.nodup_range) hs
    rw [w6 _ _ _ (Nat.le_refl _),List.take_length,← List.countP_eq_length_filter] at h1
    have h2:=ap7 w.2.2.2
    rw [w.2.2.1] at h2
    omega
def Uni (t e:Bool) (x:Str):Wd→Prop
  | .leaf t' n=>t'=t∧n=x
  | .node e' l r=>e'=e∧Uni t e x l∧Uni t e x r
theorem ak8 {t e:Bool} {x:Str}:∀ {w:Wd},Uni t e x w→w.leafL=List.replicate w.leaves (.leaf t x)
  | .leaf _ _,⟨rfl,rfl⟩=>rfl
  | .node _ l r,⟨_,hl,hr⟩=>by
    show l.leafL++r.leafL=List.replicate (l.leaves+r.leaves) _
    rw [ak8 hl,ak8 hr,List.replicate_append_replicate]
theorem ao6 {t:Bool} {x:Str}:∀ {w:Wd},Uni t false x w→boN w+1=w.leaves
  | .leaf _ _,_=>rfl
  | .node _ l r,⟨rfl,hl,hr⟩=>by
    have:=ao6 hl;have:=ao6 hr
    show boN l+boN r+1+1=l.leaves+r.leaves;omega
theorem anj {t:Bool} {x:Str}:∀ {w:Wd},Uni t true x w→boN w=0
  | .leaf _ _,_=>rfl
  | .node _ l r,⟨rfl,hl,hr⟩=>by
    show boN l+boN r+0=0
    rw [anj hl,anj hr]
def AtK (ks:List (Option Kn)) (b:Nat) (l:List Kn):Prop:=∀ k v,l[k]?=some v→ks[b+k]?=some (some v)
theorem AtK.left {ks:List (Option Kn)} {b:Nat} {l m:List Kn} (h:AtK ks b (l++m)):AtK ks b l:=fun k v e=>h k v (by rw [List.getElem?_append_left (qt e)];exact e)
theorem AtK.right {ks:List (Option Kn)} {b:Nat} {l m:List Kn} (h:AtK ks b (l++m)):AtK ks (b+l.length) m:=fun k v e=>by
  have:=h (l.length+k) v (by rw [List.getElem?_append_right (by omega),show l.length+k - l.length=k by omega];exact e)
  rw [Nat.add_assoc];exact this
theorem alm (l m r:List Kn):AtK ((l++(m++r)).map some) l.length m:=fun k v e=>by
  rw [List.getElem?_map,List.getElem?_append_right (by omega),show l.length+k - l.length=k by omega,List.getElem?_append_left (qt e),e];rfl
theorem akt {t e:Bool} {x:Str}:∀ {w:Wd} (b:Nat),Uni t e x w→∀ k∈jz b w,k=.lf t x∨∃ i j,k=.nd e i j
  | .leaf _ _,_,⟨rfl,rfl⟩,k,hk=>.inl (List.mem_singleton.mp hk)
  | .node _ l r,b,⟨rfl,hl,hr⟩,k,hk=>by
    rcases List.mem_append.mp hk with hk | hk
    · rcases List.mem_append.mp hk with hk | hk
      · exact akt b hl k hk
      · exact akt _ hr k hk
    · exact .inr ⟨_,_,List.mem_singleton.mp hk⟩
theorem ans {t e:Bool} {x:Str} {w:Wd} {ks:List (Option Kn)} {b:Nat} (h:Uni t e x w) (a:AtK ks b (jz b w)) {q:Nat} (h1:b≤q) (h2:q<b+w.size):ks[q]?=some (some (.lf t x))∨∃ i j,ks[q]?=some (some (.nd e i j)):=by
  have hl:=kq b w
  have eg:(jz b w)[q - b]?=some (jz b w)[q - b]:=List.getElem?_eq_getElem (by omega)
  have:=a _ _ eg
  rw [show b+(q - b)=q by omega] at this
  rcases akt b h _ (List.mem_of_getElem? eg) with z | ⟨i,j,z⟩
  · rw [z] at this;exact .inl this
  · rw [z] at this;exact .inr ⟨i,j,this⟩
section
variable {R:Nat→Nat→Prop} (rr:∀ a,R a a) (rs:∀ a b,R a b→R b a) (rt:∀ a b c,R a b→R b c→R a c)
include rt
include rr
theorem ai1 {t:Bool} {x:Str} {ks:List (Option Kn)} (hj:∀ p i j,ks[p]?=some (some (.nd false i j))→R p i∧R p j):∀ {w:Wd} {b:Nat},Uni t false x w→AtK ks b (jz b w)→∀ q,b≤q→q<b+w.size→R (b+w.size - 1) q
  | .leaf _ _,b,_,_,q,h1,h2=>by
    have h2:q<b+1:=h2
    have:q=b:=by omega
    subst this;exact rr _
  | .node _ l r,b,⟨rfl,hl,hr⟩,a,q,h1,h2=>by
    have h2:q<b+(1+l.size+r.size):=h2
    have a:AtK ks b ((jz b l++jz (b+l.size) r)++[.nd false (b+l.size - 1) (b+l.size+r.size - 1)]):=a
    have pl:=l.size_pos
    have pr:=r.size_pos
    have top:=a.right 0 _ rfl
    rw [List.length_append,kq,kq] at top
    have er:b+(Wd.node false l r).size - 1=b+(l.size+r.size)+0:=by show b+(1+l.size+r.size) - 1=_;omega
    rw [er]
    obtain ⟨j1,j2⟩:=hj _ _ _ top
    have al:=a.left.left
    have ar:=a.left.right
    rw [kq] at ar
    by_cases c1:q<b+l.size
    · exact rt _ _ _ j1 (ai1 hj hl al q h1 c1)
    · by_cases c2:q<b+l.size+r.size
      · exact rt _ _ _ j2 (ai1 hj hr ar q (by omega) c2)
      · have:q=b+(l.size+r.size)+0:=by omega
        rw [this];exact rr _
omit rr
include rs
theorem acq {t:Bool} {x:Str} {ks:List (Option Kn)} {c:Nat} (hf:∀ p i j,ks[p]?=some (some (.nd true i j))→R i j→R p i) (hl0:∀ q,ks[q]?=some (some (.lf t x))→R q c):∀ {w:Wd} {b:Nat},Uni t true x w→AtK ks b (jz b w)→∀ q,b≤q→q<b+w.size→R q c
  | .leaf _ _,b,⟨rfl,rfl⟩,a,q,h1,h2=>by
    have h2:q<b+1:=h2
    have:q=b+0:=by omega
    rw [this];exact hl0 _ (a 0 _ rfl)
  | .node _ l r,b,⟨rfl,hl,hr⟩,a,q,h1,h2=>by
    have h2:q<b+(1+l.size+r.size):=h2
    have a:AtK ks b ((jz b l++jz (b+l.size) r)++[.nd true (b+l.size - 1) (b+l.size+r.size - 1)]):=a
    have pl:=l.size_pos
    have pr:=r.size_pos
    have top:=a.right 0 _ rfl
    rw [List.length_append,kq,kq] at top
    have al:=a.left.left
    have ar:=a.left.right
    rw [kq] at ar
    have gl:=acq hf hl0 hl al
    have gr:=acq hf hl0 hr ar
    by_cases c1:q<b+l.size
    · exact gl q h1 c1
    · by_cases c2:q<b+l.size+r.size
      · exact gr q (by omega) c2
      · have:q=b+(l.size+r.size)+0:=by omega
        rw [this]
        have g1:=gl (b+l.size - 1) (by omega) (by omega)
        have g2:=gr (b+l.size+r.size - 1) (by omega) (by omega)
        exact rt _ _ _ (hf _ _ _ top (rt _ _ _ g1 (rs _ _ g2))) g1
end
theorem aqz {ks:List (Option Kn)} {x:Str} {u v:Wd} {b1 b2:Nat} {lk:List (Nat×Nat)} (hu:Uni false false x u) (hv:Uni true true x v) (a1:AtK ks b1 (jz b1 u)) (a2:AtK ks b2 (jz b2 v))
    (cov:∀ q,q<ks.length→(b1≤q∧q<b1+u.size)∨(b2≤q∧q<b2+v.size)) (wx:ao8 ks ks.length lk) (hl:ks.countP vq=2*ado ks ks.length):as5 ks.length ks (zq ks lk []) (zb true ks):=by
  intro R rr rs rt hj hf a b ha hb
  have hb1:∀ p i j,ks[p]?=some (some (.nd false i j))→R p i∧R p j:=fun p i j h=>by
    obtain ⟨z1,z2⟩:=aum h
    exact ⟨hj (p,i) (by unfold zq;exact List.mem_append_right _ z1),hj (p,j) (by unfold zq;exact List.mem_append_right _ z2)⟩
  have hf1:∀ p i j,ks[p]?=some (some (.nd true i j))→R i j→R p i:=fun p i j h=>hf p (agx h rfl (qt h)) true i j h
  have hub:=ai1 rr rt hb1 hu a1
  have lf:∀ q,ks[q]?=some (some (.lf true x))→R q (b1+u.size - 1):=fun q eq=>by
    obtain ⟨y,hy,hq⟩:=aq7 (ax4 wx hl eq rfl)
    have hR:R y.1 y.2:=hj y (by unfold zq;rw [List.append_nil];exact List.mem_append_left _ hy)
    have pl:∀ p,j6 ks p→R (b1+u.size - 1) p:=fun p ⟨n,e⟩=>by
      rcases cov p (qt e) with ⟨c1,c2⟩ | ⟨c1,c2⟩
      · exact hub p c1 c2
      · rcases ans hv a2 c1 c2 with z | ⟨i,j,z⟩
        · rw [e] at z;cases z
        · rw [e] at z;cases z
    have np:¬ j6 ks q:=fun ⟨n,e⟩=>by rw [eq] at e;cases e
    rcases hq with rfl | rfl
    · rcases wx.2.2.2 y hy with c | c
      · exact absurd c np
      · exact rt _ _ _ hR (rs _ _ (pl _ c))
    · rcases wx.2.2.2 y hy with c | c
      · exact rt _ _ _ (rs _ _ hR) (rs _ _ (pl _ c))
      · exact absurd c np
  have all:∀ q,q<ks.length→R q (b1+u.size - 1):=fun q hq=>by
    rcases cov q hq with ⟨c1,c2⟩ | ⟨c1,c2⟩
    · exact rs _ _ (hub q c1 c2)
    · exact acq rs rt hf1 lf hv a2 q c1 c2
  exact rt _ _ _ (all a ha) (rs _ _ (all b hb))
theorem apa:∀ l:List (Option Kn),l.countP arh=(l.filterMap lvK).countP fun w=>match w with | .leaf false _=>true | _=>false
  | []=>rfl
  | none::r=>apa r
  | some (.lf t n)::r=>by
    rw [List.countP_cons,apa r]
    have:(some (Kn.lf t n)::r).filterMap lvK=Wd.leaf t n::r.filterMap lvK:=rfl
    rw [this,List.countP_cons]
    cases t<;>rfl
  | some (.nd e i j)::r=>apa r
theorem amb:∀ l:List (Option Kn),l.countP vq=l.countP arh+l.countP apz
  | []=>rfl
  | k::r=>by
    rw [List.countP_cons,List.countP_cons,List.countP_cons,amb r]
    cases k with
    | none=>rfl
    | some k=>cases k with
      | nd e i j=>rfl
      | lf t n=>cases t<;>simp [vq,arh,apz]<;>omega
structure Duo (n:Nat) (x:Str) (ws:List Wd):Prop where
  ex:∃ u v,(ws=[u,v]∨ws=[v,u])∧Uni false false x u∧Uni true true x v∧u.leaves=n∧v.leaves=n
theorem aed {n:Nat} {x:Str} {ws:List Wd} (d:Duo n x ws):(LV ws).length=2*n∧BO ws+1=n∧(∀ w∈LV ws,w=.leaf false x∨w=.leaf true x)∧(∀ t,zk (LV ws) t x=n)∧((LV ws).countP fun w=>match w with | .leaf false _=>true | _=>false)=n:=by
  obtain ⟨u,v,hw,hu,hv,nu,nv⟩:=d.ex
  have eu:=ak8 hu
  have ev:=ak8 hv
  rw [nu] at eu;rw [nv] at ev
  have bu:=ao6 hu
  have bv:=anj hv
  have e1:∀ a b:Wd,LV [a,b]=a.leafL++b.leafL:=fun a b=>by simp [LV]
  have e2:∀ a b:Wd,BO [a,b]=boN a+boN b:=fun a b=>by simp [BO]
  have hc:∀ t,zk (List.replicate n (Wd.leaf false x)) t x=(if t=false then n else 0)∧zk (List.replicate n (Wd.leaf true x)) t x=(if t=true then n else 0):=fun t=>by
    unfold zk
    rw [List.countP_replicate,List.countP_replicate]
    cases t<;>simp [afu]
  have hm:∀ w,w∈List.replicate n (Wd.leaf false x)∨w∈List.replicate n (Wd.leaf true x)→w=.leaf false x∨w=.leaf true x:=fun w h=>h.elim (fun z=>.inl (List.eq_of_mem_replicate z)) fun z=>.inr (List.eq_of_mem_replicate z)
  rcases hw with rfl | rfl
  · rw [e1,e2,eu,ev]
    refine ⟨by rw [List.length_append,List.length_replicate,List.length_replicate];omega,by omega,fun w hw=>hm w (List.mem_append.mp hw),fun t=>?_,?_⟩
    · have:=hc t;unfold zk at this ⊢;rw [List.countP_append,this.1,this.2];cases t<;>simp
    · rw [List.countP_append,List.countP_replicate,List.countP_replicate];simp
  · rw [e1,e2,eu,ev]
    refine ⟨by rw [List.length_append,List.length_replicate,List.length_replicate];omega,by omega,fun w hw=>hm w (List.mem_append.mp hw).symm,fun t=>?_,?_⟩
    · have:=hc t;unfold zk at this ⊢;rw [List.countP_append,this.1,this.2];cases t<;>simp
    · rw [List.countP_append,List.countP_replicate,List.countP_replicate];simp
theorem aw2 {n:Nat} {x:Str} {ws:List Wd} (d:Duo n x ws):(ksO ws).countP vq=2*n∧ado (ksO ws) (ksO ws).length=n∧(ksO ws).countP apz=n∧(ksO ws).countP (je false)+1=n:=by
  obtain ⟨h1,h2,h3,h4,h5⟩:=aed d
  have a1:(ksO ws).countP vq=2*n:=by rw [← ad7,abc];exact h1
  have a2:(ksO ws).countP arh=n:=by rw [apa,abc];exact h5
  have a3:=amb (ksO ws)
  refine ⟨a1,by unfold ado;rw [List.take_length];exact a2,by omega,?_⟩
  have:=ahm 0 ws
  have e:(ksO ws).countP (je false)=BO ws:=this
  rw [e];exact h2
theorem a0g {n:Nat} {x:Str} {ws:List Wd} (d:Duo n x ws):∃ u v b1 b2,Uni false false x u∧Uni true true x v∧AtK (ksO ws) b1 (jz b1 u)∧AtK (ksO ws) b2 (jz b2 v)∧∀ q,q<(ksO ws).length→(b1≤q∧q<b1+u.size)∨(b2≤q∧q<b2+v.size):=by
  obtain ⟨u,v,hw,hu,hv,_⟩:=d.ex
  have len:=akc ws
  have first:∀ a b:Wd,AtK (ksO [a,b]) 0 (jz 0 a):=fun a b=>alm [] (jz 0 a) _
  have second:∀ a b:Wd,AtK (ksO [a,b]) a.size (jz a.size b):=fun a b=>by
    have:=alm (jz 0 a) (jz (0+a.size) b) []
    rw [kq,Nat.zero_add] at this
    have e:ksO [a,b]=(jz 0 a++(jz a.size b++[])).map some:=by show ((jz 0 a++(jz (0+a.size) b++[])).map some)=_;rw [Nat.zero_add]
    rw [e];exact this
  have sz:∀ a b:Wd,SZ [a,b]=a.size+b.size:=fun a b=>by simp [SZ]
  rcases hw with rfl | rfl
  · refine ⟨u,v,0,u.size,hu,hv,first u v,second u v,fun q hq=>?_⟩
    rw [len,sz] at hq
    omega
  · refine ⟨u,v,v.size,0,hu,hv,second v u,first v u,fun q hq=>?_⟩
    rw [len,sz] at hq
    omega
theorem ats {n:Nat} {x:Str} {ws:List Wd} (d:Duo n x ws):ad1 (ksO ws)∧∀ lk,ao8 (ksO ws) (ksO ws).length lk→Rt (ksO ws) lk []:=by
  obtain ⟨u,v,b1,b2,hu,hv,a1,a2,cov⟩:=a0g d
  obtain ⟨c1,c2,c3,c4⟩:=aw2 d
  refine ⟨a1q (x0:=x) (fun p t n e=>?_) (by rw [c3,c2]),fun lk w=>⟨aqz hu hv a1 a2 cov w (by rw [c1,c2]),apx (akp ws),aqp (akp ws) (by rw [w.2.2.1,c2,c1]) (by rw [c1];omega)⟩⟩
  rcases cov p (qt e) with ⟨z1,z2⟩ | ⟨z1,z2⟩
  · rcases ans hu a1 z1 z2 with z | ⟨i,j,z⟩
    · rw [e] at z;cases z;rfl
    · rw [e] at z;cases z
  · rcases ans hv a2 z1 z2 with z | ⟨i,j,z⟩
    · rw [e] at z;cases z;rfl
    · rw [e] at z;cases z
theorem amr {n m:Nat} {x:Str} {ws:List Wd} (d:Duo n x ws) (h:WayR (LV ws) m):m=vk n:=by
  obtain ⟨h1,h2,h3,h4,h5⟩:=aed d
  have:=h [x] (List.nodup_cons.mpr ⟨by simp,List.nodup_nil⟩) fun w hw=>by
    rcases h3 w hw with rfl | rfl<;>exact List.mem_singleton.mpr rfl
  rw [this]
  show vk (zk (LV ws) false x)*1=_
  rw [h4,Nat.mul_one]
theorem amo {n:Nat} {x:Str} {ws:List Wd} (d:Duo n x ws):aig (LV ws)=none:=by
  obtain ⟨h1,h2,h3,h4,h5⟩:=aed d
  unfold aig
  rw [List.find?_eq_none.mpr fun w hw=>?_]
  · rfl
  · have e:ao0 w=x:=by rcases h3 w hw with rfl | rfl<;>rfl
    unfold af2
    rw [e,h4,h4];simp
theorem amv {f:Wd→Nat} {N:Nat}:∀ l:List Wd,(∀ w∈l,(match w with | .leaf false _=>f w≤N | _=>f w=1))→(l.map f).prod≤N ^ (l.countP fun w=>match w with | .leaf false _=>true | _=>false)
  | [],_=>Nat.le_refl _
  | w::r,h=>by
    have ih:=amv (N:=N) r fun z hz=>h z (List.mem_cons_of_mem _ hz)
    have hw:=h w (List.mem_cons_self ..)
    rw [List.map_cons,List.prod_cons,List.countP_cons]
    cases w with
    | node e a b=>have hw:f (.node e a b)=1:=hw;rw [hw,Nat.one_mul];exact ih
    | leaf t n=>cases t with
      | true=>have hw:f (.leaf true n)=1:=hw;rw [hw,Nat.one_mul];exact ih
      | false=>
        have hw:f (.leaf false n)≤N:=hw
        show _≤N ^ (_+1)
        rw [Nat.pow_succ,Nat.mul_comm]
        exact Nat.mul_le_mul ih hw
theorem avi {n:Nat} {x:Str} {ws:List Wd} (d:Duo n x ws) (h6:n≤6):∀ i≤(ksO ws).length,bnd (ksO ws) i≤100000:=by
  intro i _
  obtain ⟨h1,h2,h3,h4,h5⟩:=aed d
  have elv:(ksO ws).filterMap lvK=LV ws:=abc 0 ws
  rw [az3]
  have hsub:(((ksO ws).take i).filterMap lvK).Sublist (LV ws):=by rw [← elv];exact (List.take_sublist i (ksO ws)).filterMap lvK
  refine Nat.le_trans (amv (N:=6) _ fun w hw=>?_) ?_
  · rcases h3 w (hsub.subset hw) with rfl | rfl
    · show aa2 (ksO ws) x≤6
      rw [ate,elv,h4];exact h6
    · rfl
  · have h7:(((ksO ws).take i).filterMap lvK).countP (fun w=>match w with | .leaf false _=>true | _=>false)≤6:=by
      refine Nat.le_trans hsub.countP_le ?_
      rw [h5];exact h6
    exact Nat.le_trans (Nat.pow_le_pow_right (by decide) h7) (by decide)
end L3
namespace L3
open PySem L2 Words
local macro_rules | `(tactic| walk_at "w")=>`(tactic| conv=>whnf)
theorem LVc (w:Wd) (r:List Wd):LV (w::r)=w.leafL++LV r:=by unfold LV;rw [List.flatMap_cons]
theorem aj4 {n:Nat} {x:Str} {ws:List Wd} (d:Duo n x ws) (h6:n≤6):(∀ w∈ws,w.depth≤63∧w.leaves≤63)∧SZ ws≤100:=by
  obtain ⟨u,v,hw,_,_,nu,nv⟩:=d.ex
  have h:∀ w,w=u∨w=v→w.depth≤63∧w.leaves≤63:=fun w hw=>by
    have:=w.depth_le
    rcases hw with rfl | rfl<;>omega
  have z:∀ a b:Wd,SZ [a,b]=a.size+b.size:=fun a b=>by simp [SZ]
  have:=u.size_eq
  have:=v.size_eq
  rcases hw with rfl | rfl
  · exact ⟨fun w hw=>h w (by simpa using hw),by rw [z];omega⟩
  · exact ⟨fun w hw=>h w (Or.symm (by simpa using hw)),by rw [z];omega⟩
def jp (C:Addr):aby:=fun ys L Q E=>∃ a,∃ ws:List Wd,∃ m:Int,∃ n:Nat,∃ x:Str,ys=[.ref a,.int m]∧L a=some (.lst (ws.map z8))∧Duo n x ws∧n≤6∧(m<(vk n:Int)→E C L)∧((vk n:Int)≤m→∀ y L',LSub L L'→Q (.tup [.str "web",y]) L')
theorem akj {C:Addr}:∀ ys L Q E,jp C ys L Q E→x9 (acv C (av5 E) aaj aap adg ki ahj) 6 ys L Q:=by
  rintro ys L Q E ⟨a,ws,m,n,x,rfl,ha,d,h6,ex,q⟩
  obtain ⟨hok,hsz⟩:=aj4 d h6
  obtain ⟨hll,hbo,hlx,hcn,_⟩:=aed d
  have hlv:(LV ws).length≤63:=by omega
  refine ⟨a,ws,rfl,ha,hok,by omega,fun p1 hp1=>?_⟩
  have s1:LSub L (qe L p1 (.lst ((LV ws).map z8))):=LSub.new hp1
  have g1:(qe L p1 (.lst ((LV ws).map z8))) p1=some (.lst ((LV ws).map z8)):=q8
  generalize qe L p1 (.lst ((LV ws).map z8))=L1 at s1 g1
  have hlf:∀ w∈LV ws,∃ t n,w=Wd.leaf t n:=fun w hw=>ajs hw
  refine ⟨p1,LV ws,rfl,g1,hlf,by omega,(fun y hy=>by rw [amo d] at hy;cases hy),fun hn=>?_⟩
  refine ⟨a,ws,rfl,s1 _ _ ha,hsz,fun k p hk hp hkp=>?_⟩
  have s2:LSub L1 (qe (qe L1 k (.lst (xn 0 ws))) p (.lst (plc 0 ws))):=(LSub.new hk).upd hp
  have g2:(qe (qe L1 k (.lst (xn 0 ws))) p (.lst (plc 0 ws))) k=some (.lst (osY (ksO ws))):=by rw [qd hkp,q8,a35]
  generalize qe (qe L1 k (.lst (xn 0 ws))) p (.lst (plc 0 ws))=L2 at s2 g2
  have lk:=akc ws
  refine xt g2 fun keep kp=>ahh (fun i zs=>zs.length=((ksO ws).take i).countP (je false)) (by rw [List.length_map,lk];exact Nat.lt_of_le_of_lt hsz (by decide)) (kp _ rfl) rfl ?_ ?_
  · rintro i y zs hy hz
    rw [List.getElem?_map] at hy
    obtain ⟨kk,ekk,rfl⟩:=Option.map_eq_some_iff.mp hy
    have et:(ksO ws).take (i+1)=(ksO ws).take i++[kk]:=by rw [List.take_succ,ekk];rfl
    have no:je false kk=false→Frg (fun zs L'=>L'=L2∧zs.length=((ksO ws).take (i+1)).countP (je false)) zs L2:=fun h=>⟨L2,LSub.refl _,rfl,by rw [et,List.countP_append,hz];simp [h]⟩
    have yes:∀ z,je false kk=true→Frg (fun zs L'=>L'=L2∧zs.length=((ksO ws).take (i+1)).countP (je false)) (zs++[z]) L2:=fun z h=>⟨L2,LSub.refl _,rfl,by rw [et,List.countP_append,List.length_append,hz];simp [h]⟩
    cases kk with
    | none=>exact absurd rfl (akp ws none (List.mem_of_getElem? ekk))
    | some kn=>
      cases kn with
      | lf t n=>cases t<;>exact no rfl
      | nd e i' j'=>
        cases e with
        | true=>exact no rfl
        | false=>exact yes _ rfl
  · intro zs hz p3 hp3
    rw [List.length_map,List.take_length,ahm] at hz
    refine qk q8 ?_
    have s3:=LSub.new (o:=.lst zs) hp3
    have sL:=(s1.trans s2).trans s3
    have g13:=s3 _ _ (s2 _ _ g1)
    have g23:=s3 _ _ g2
    have ha3:=sL _ _ ha
    rw [hz]
    generalize qe L2 p3 (.lst zs)=L3 at s3 sL g13 g23 ha3
    refine qk g13 ⟨.inl ⟨by decide,by decide⟩,?_⟩
    refine aef (by show (!decide ((((LV ws).map z8).length:Int)=2*(BO ws:Int)+2))=false;rw [decide_eq_true (by rw [List.length_map];omega)];rfl) ?_
    refine ⟨a,ws,rfl,ha3,hok,(by omega),fun n' hT=>?_⟩
    have he:=aat hlf hn
    have hW:WayR (LV ws) n':=by
      rcases hT with ⟨_,h⟩ | ⟨h,_⟩
      · exact h
      · exact absurd he h
    have en:=amr d hW
    subst en
    show kh (decide ((vk n:Int) > m)) _ _
    refine ko (fun h=>⟨by decide,_,sL,ex (by omega)⟩) (fun h=>?_)
    exact ⟨k,ksO ws,rfl,g23,akp ws,by rw [lk];omega,⟨avi d h6,by rw [axb];exact hlv⟩,a1x ws,fun y L' s=>fin (q (by omega) y L' (sL.trans s)),fun nG=>absurd (ats d) nG⟩
end L3
namespace L3
open PySem L2 Words
local macro_rules | `(tactic| walk_at "w")=>`(tactic| conv=>whnf)
def ahb (p__law_mix:Sp3):TS3:=(qr (zc (yOp ari (wf (qa (qb 0) qj)) (qb 1)) (qf 4))
  (qr (ak1 (yB (yOp yGt (yCB abj (qa (qb 4) qj)) (yC (.int 1)))) (qr (zc (yOp ak6 (qw p__law_mix (qa (qb 3) (qa (yCB abj (qa (qb 4) qj)) (qa (yC (.int 69621)) qj)))) (yOp avt (yCB abj (qa (qb 4) qj)) (yC (.int 1)))) (qf 5))
  (zc (yOp wn (yOp wn (ySl axi (qb 4) agc (aof (qb 5))) (wf (qa (aah (qa (qb 2) (qa (yOp yIx (qb 4) (qb 5)) (qa (yOp yIx (qb 4) (yOp wn (qb 5) (yC (.int 1)))) qj)))) qj))) (ySl axi (qb 4) (aof (yOp wn (qb 5) (yC (.int 2)))) agc)) (qf 4))))
  (zu (yOp yIx (qb 4) (yC (.int 0))))))
def ab2 (K:PySem.W.Frag) (C_OnceError:Addr) (C_TooMany:Addr) (C_BadWeb:Addr) (C_BadText:Addr) (C_NoWord:Addr) (C_NoCut:Addr) (C_NoTree:Addr) (p_searched:aby):TS3:=(qr (zc (yC .non) (qf 2))
  (qr (a2f K C_OnceError 3 (fun E3=>ku (yB (yOp yLt (qb 1) (yC (.int 0)))) ((fun E3=>v8 (aga p_searched 120 E3 (qa (qb 0) qj))) E3) ((fun E3=>v8 (ajl p_searched E3 (qa (qb 0) (qa (qb 1) qj)))) E3)) (zc (qb 3) (qf 2)))
  (qr (ku (yOr (aty (yB (abo K (.ref C_TooMany) (qb 2)))) (aty (yB (abo K (.type "ValueError") (qb 2))))) (zu (yC (.bl false))) xj)
  (qr (ku (yOr (yB (abo K (.ref C_NoWord) (qb 2))) (yOr (yB (abo K (.ref C_BadText) (qb 2))) (yB (abo K (.ref C_BadWeb) (qb 2))))) (zu (yC (.bl false))) xj)
  (zu (agk (ase (abo K (.ref C_NoTree) (qb 2))) (ase (abo K (.ref C_NoCut) (qb 2)))))))))
def acj:TS3:=(zu (agk (aya .tuple (qb 0)) (agk (yOp (yEq false) (yCB abj (qa (qb 0) qj)) (yC (.int 2))) (yOp (yEq false) (yOp yIx (qb 0) (yC (.int 0))) (yC (.str "web"))))))
def aol (p__law_letters:Sp3) (p__law_mix:Sp3) (p__law_joined:Sp3) (p__law_too_many:Sp3) (p_tries_due:Sp3) (p__law_is_web:Sp3) (p_searched:aby):TS3:=(qr (zc (yOp ay0 (qb 0) (wf (qa (yC (.int 0)) (qa (yC (.int 0)) qj)))) (qf 1))
  (qr (zc (yOp wn (yC (.int 1)) (yOp ak6 (yOp yIx (qb 1) (yC (.int 0))) (yC (.int 6)))) (qf 2))
  (qr (zc (qw p__law_letters (qa (yOp ak6 (yOp yIx (qb 1) (yC (.int 1))) (yOp a45 (yC (.int 10)) (yC (.int 13)))) qj)) (qf 3))
  (qr (zc (yCB a10 (qa (yLC 2 (acw (qb 1)) (ab9 2 (zp (qf 7) (zp (qf 8) aa5))) asb (qw p__law_mix (qa (qb 8) (qa (qb 7) (qa (yC (.int 16807)) qj))))) qj)) (qf 4))
  (qr (zc (wf (qa (qw p__law_joined (qa (aah (qa (yC (.str "plain")) (qa (qb 3) qj))) (qa (qb 2) (qa (yC (.str "both")) (qa (qb 4) qj))))) qj)) (qf 5))
  (qr (v8 (yBL js (qb 5) (qa (qw p__law_joined (qa (aah (qa (yC (.str "turned")) (qa (qb 3) qj))) (qa (qb 2) (qa (yC (.str "either")) (qa (yOp wn (yOp amp (qb 4) (yC (.int 3))) (yC (.int 1))) qj))))) qj)))
  (at5 (ku (yB (yOp (yEq false) (yOp ak6 (qb 4) (yC (.int 2))) (yC (.int 1)))) (zc (a2r (qb 5) (yUn aws (yC (.int 1)))) (qf 5)) xj)
  (qr (zc (ay2 (qa (yC (.int 1)) (qa (yC (.int 1)) (qa (yC (.int 2)) (qa (yC (.int 6)) (qa (yC (.int 24)) (qa (yC (.int 120)) (qa (yC (.int 720)) qj))))))) (qb 2)) (qf 6))
  (qr (ku (yOr (yB (yOp (yEq true) (qw p_tries_due (qa (qb 5) qj)) (qb 6))) (aty (yB (qw p__law_too_many (qa (qb 5) (qa (yOp avt (qb 6) (yC (.int 1))) qj)))))) (zu (yC (.bl false))) xj)
  (qr (ku (yB (yOp (yEq false) (qb 2) (yC (.int 6)))) (zu (agk (qw p__law_too_many (qa (qb 5) (qa (yUn aws (yC (.int 1))) qj))) (qw p__law_is_web (qa (ajl p_searched noX (qa (qb 5) (qa (yOp wn (yC (.int 720)) (yOp ak6 (yOp amp (qb 4) (yC (.int 2))) (yC (.int 281)))) qj))) qj)))) xj)
  (qr (ku (aty (yB (qw p__law_is_web (qa (aga p_searched 120 noX (qa (qb 5) qj)) qj)))) (zu (yC (.bl false))) xj)
  (zu (qw p__law_is_web (qa (aot p_searched noX (qa (qb 5) qj) (qb 6)) qj))))))))))))))
theorem aor {α:Type} (a:α):∀ n:Nat,(List.replicate n [a]).flatten=List.replicate n a
  | 0=>rfl
  | n+1=>by rw [List.replicate_succ,List.flatten_cons,aor a n];rfl
theorem at4 (t:Bool) (x:Str):∀ n:Nat,(LV (List.replicate n (.leaf t x))).length=n
  | 0=>rfl
  | n+1=>by rw [List.replicate_succ,LVc,List.length_append,at4 t x n];show 1+n=_;omega
theorem axk:∀ ws:List Wd,ws.length≤(LV ws).length
  | []=>Nat.le_refl _
  | w::r=>by
    have:=axk r
    have:=w.leaves_pos
    rw [LVc,List.length_append,Wd.leafL_len,List.length_cons];omega
theorem awq {ws:List Wd} {i:Nat} {u v:Wd} (h1:ws[i]?=some u) (h2:ws[i+1]?=some v):ws=ws.take i++u::v::ws.drop (i+2):=by
  have a1:i<ws.length:=qt h1
  have a2:i+1<ws.length:=qt h2
  have e1:ws[i]=u:=by rw [List.getElem?_eq_getElem a1] at h1;exact Option.some.inj h1
  have e2:ws[i+1]=v:=by rw [List.getElem?_eq_getElem a2] at h2;exact Option.some.inj h2
  have:=(List.take_append_drop i ws).symm
  rw [List.drop_eq_getElem_cons a1,List.drop_eq_getElem_cons a2,e1,e2] at this
  exact this
theorem ass {ws:List Wd} {i:Nat} {u v:Wd} (e:Bool) (h1:ws[i]?=some u) (h2:ws[i+1]?=some v):LV (ws.take i++[Wd.node e u v]++ws.drop (i+2))=LV ws:=by
  have h:=congrArg LV (awq h1 h2)
  rw [h,aeq,aeq,aeq]
  have e1:LV [Wd.node e u v]=u.leafL++v.leafL:=by rw [akl];rfl
  rw [e1,LVc,LVc]
  simp only [List.append_assoc]
def wv:Sp3:=fun ys L Q=>∃ (t e:Bool) (nm:Str) (n:Nat) (mi tot:Int),ys=[.tup [.str (kL t),.str nm],.int mi,.str (kN e),.int tot]∧mi=(n:Int)∧1≤n∧n≤6∧∀ w,Uni t e nm w→w.leaves=n→Q (z8 w) L
theorem ald:∀ ys L Q,wv ys L Q→x9 (ahb aea) 6 ys L Q:=by
  rintro ys L Q ⟨t,e,nm,n,mi,tot,rfl,rfl,h1,h6,q⟩
  intro p0 hp0
  refine z0 q8 ⟨⟨by omega,by omega,by show 1≤1000;decide⟩,fun p hp=>?_⟩
  have s0:LSub L (qe (qe L p0 (.lst [.tup [.str (kL t),.str nm]])) p (.lst (List.replicate (n:Int).toNat [Y.tup [.str (kL t),.str nm]]).flatten)):=(LSub.new hp0).trans (LSub.new hp)
  have hw0:(qe (qe L p0 (.lst [.tup [.str (kL t),.str nm]])) p (.lst (List.replicate (n:Int).toNat [Y.tup [.str (kL t),.str nm]]).flatten)) p=some (.lst ((List.replicate n (Wd.leaf t nm)).map z8)):=by
    rw [q8,show (n:Int).toNat=n from rfl,aor,List.map_replicate];rfl
  generalize qe (qe L p0 (.lst [.tup [.str (kL t),.str nm]])) p (.lst (List.replicate (n:Int).toNat [Y.tup [.str (kL t),.str nm]]).flatten)=L0 at s0 hw0
  refine ⟨fun m τ L'=>∃ w,∃ ws:List Wd,∃ c5,τ=[some (.tup [.str (kL t),.str nm]),some (.int (n:Int)),some (.str (kN e)),some (.int tot),some (.ref w),c5]∧LSub L L'∧L' w=some (.lst (ws.map z8))∧(∀ z∈ws,Uni t e nm z)∧(LV ws).length=n∧m=ws.length,⟨_,p,List.replicate n (.leaf t nm),_,rfl,s0,hw0,fun z hz=>by rw [List.eq_of_mem_replicate hz];exact ⟨rfl,rfl⟩,at4 t nm n,rfl⟩,?_⟩
  rintro m τ L' ⟨w,ws,c5,rfl,s,hw,hU,hl,rfl⟩
  have hge:=axk ws
  refine qk hw ?_
  show kh (decide (((ws.map z8).length:Int) > 1)) _ _
  rw [List.length_map]
  refine ko (fun g=>?_) (fun g=>?_)
  rotate_left
  · obtain ⟨z,rfl⟩:∃ z,ws=[z]:=by
      match ws,hl,g with
      | [],hl,_=>exact absurd (show 0=n from hl) (by omega)
      | [z],_,_=>exact ⟨z,rfl⟩
      | a::b::r,_,g=>exact absurd (by rw [List.length_cons,List.length_cons];omega) g
    refine qk hw (qo (v:=z8 z) rfl (ade s (q z (hU z (List.mem_singleton.mpr rfl)) ?_)))
    rw [akl,Wd.leafL_len] at hl;exact hl
  have lim:=avp
  refine ⟨_,fun _ _ h=>h,qk hw ⟨tot,((ws.map z8).length:Int),69621,rfl,by omega,by rw [List.length_map];omega,by decide,by decide,fun v v0 v1=>?_⟩⟩
  refine qk hw ⟨(by show (0:Int)<((ws.map z8).length:Int) - 1;rw [List.length_map];omega),?_⟩
  have j0:0≤v % (((ws.map z8).length:Int) - 1):=Int.emod_nonneg _ (by rw [List.length_map];omega)
  have j1:v % (((ws.map z8).length:Int) - 1)<((ws.map z8).length:Int) - 1:=Int.emod_lt_of_pos _ (by rw [List.length_map];omega)
  obtain ⟨j,ej⟩:∃ j:Nat,v % (((ws.map z8).length:Int) - 1)=(j:Int):=⟨_,(Int.toNat_of_nonneg j0).symm⟩
  dsimp only
  rw [ej]
  rw [ej,List.length_map] at j1
  obtain ⟨u0,eu0⟩:∃ u,ws[j]?=some u:=⟨_,List.getElem?_eq_getElem (by omega)⟩
  obtain ⟨u1,eu1⟩:∃ u,ws[j+1]?=some u:=⟨_,List.getElem?_eq_getElem (by omega)⟩
  have a0:atI (ws.map z8) (j:Int)=some (z8 u0):=aoh eu0
  have a1:atI (ws.map z8) ((j:Int)+1)=some (z8 u1):=by
    rw [show ((j:Int)+1)=((j+1:Nat):Int) by omega];exact aoh eu1
  refine z0 hw fun r1 hr1=>?_
  rw [awh]
  have v1':LSub L' (qe L' r1 (.lst ((ws.map z8).take j))):=LSub.new hr1
  refine qk (v1' _ _ hw) (qo a0 (qk (v1' _ _ hw) (qo a1 fun r2 hr2=>?_)))
  have v2':=v1'.trans (LSub.new (o:=.lst [Y.tup [.str (kN e),z8 u0,z8 u1]]) hr2)
  have x1:(qe (qe L' r1 (.lst ((ws.map z8).take j))) r2 (.lst [Y.tup [.str (kN e),z8 u0,z8 u1]])) r1=some (.lst ((ws.map z8).take j)):=LSub.new hr2 _ _ q8
  refine ⟨_,_,x1,q8,by rw [List.length_take,List.length_map,List.length_singleton];omega,fun r3 hr3=>?_⟩
  have v3':=v2'.trans (LSub.new (o:=.lst ((ws.map z8).take j++[Y.tup [.str (kN e),z8 u0,z8 u1]])) hr3)
  refine z0 (v3' _ _ hw) fun r4 hr4=>?_
  rw [show ((j:Int)+2)=((j+2:Nat):Int) by omega,aio]
  have x3:=LSub.new (o:=.lst ((ws.map z8).drop (j+2))) hr4 _ _ (q8 (L:=qe (qe L' r1 (.lst ((ws.map z8).take j))) r2 (.lst [Y.tup [.str (kN e),z8 u0,z8 u1]])) (a:=r3) (o:=.lst ((ws.map z8).take j++[Y.tup [.str (kN e),z8 u0,z8 u1]])))
  have v4':=v3'.trans (LSub.new (o:=.lst ((ws.map z8).drop (j+2))) hr4)
  refine ⟨_,_,x3,q8,by rw [List.length_append,List.length_take,List.length_drop,List.length_map,List.length_singleton];omega,fun r5 hr5=>?_⟩
  have len:(ws.take j++[Wd.node e u0 u1]++ws.drop (j+2)).length=ws.length - 1:=by
    rw [List.length_append,List.length_append,List.length_take,List.length_drop,List.length_singleton];omega
  refine ⟨_,LSub.refl _,ws.length - 1,by omega,r5,ws.take j++[Wd.node e u0 u1]++ws.drop (j+2),_,rfl,(s.trans v4').trans (LSub.new hr5),?_,fun z hz=>?_,by rw [ass e eu0 eu1];exact hl,len.symm⟩
  · rw [q8,List.map_append,List.map_append,List.map_take,List.map_drop];rfl
  · rcases List.mem_append.mp hz with hz | hz
    · rcases List.mem_append.mp hz with hz | hz
      · exact hU z (List.mem_of_mem_take hz)
      · rw [List.mem_singleton.mp hz];exact ⟨rfl,hU _ (List.mem_of_getElem? eu0),hU _ (List.mem_of_getElem? eu1)⟩
    · exact hU z (List.mem_of_mem_drop hz)
structure XF75 (K:PySem.W.Frag) (O T BW BT NW NC NT:Addr):Prop where
  hd:XHd K T
  em:PySem.W.exmOne K (.ref T) (.ref O)=some true
  tt:PySem.W.kitOne K (.ref T) (.ref T)=some true
  ve:PySem.W.kitOne K (.ref T) (.type "ValueError")=some true
  nw:PySem.W.kitOne K (.ref T) (.ref NW)=some false
  bt:PySem.W.kitOne K (.ref T) (.ref BT)=some false
  bw:PySem.W.kitOne K (.ref T) (.ref BW)=some false
  nt:PySem.W.kitOne K (.ref T) (.ref NT)=some false
  nc:PySem.W.kitOne K (.ref T) (.ref NC)=some false
structure XF8 (K:PySem.W.Frag) (P O T BW BT NW NC NT:Addr):Prop where
  p:XFP K P
  e:XF75 K O T BW BT NW NC NT
def aaw:Sp3:=fun ys L Q=>∃ a,∃ ws:List Wd,∃ lim:Int,∃ n:Nat,∃ x:Str,ys=[.ref a,.int lim]∧L a=some (.lst (ws.map z8))∧Duo n x ws∧n≤6∧((lim<0∧120<vk n)∨(0≤lim∧lim<(vk n:Int)))∧Q (.bl true) L
theorem anf {K:PySem.W.Frag} {O T BW BT NW NC NT:Addr} (xf:XF75 K O T BW BT NW NC NT):∀ ys L Q,aaw ys L Q→x9 (ab2 K O T BW BT NW NC NT (jp T)) 4 ys L Q:=by
  rintro ys L Q ⟨a,ws,lim,n,x,rfl,ha,d,h6,hlim,q⟩
  show kh (decide (lim<0)) _ _
  refine ko (fun c=>?_) (fun c=>?_)
  case' refine_1=>refine ⟨a,ws,120,n,x,rfl,ha,d,h6,fun hlt=>⟨xf.em,fun ex hex=>?_⟩,fun hle=>absurd hle (by omega)⟩
  case' refine_2=>refine ⟨a,ws,lim,n,x,rfl,ha,d,h6,fun hlt=>⟨xf.em,fun ex hex=>?_⟩,fun hle=>absurd hle (by omega)⟩
  all_goals
    have ke:(qe L ex (.exc T)) ex=some (.exc T):=q8
    refine aam ke ⟨xf.hd,true,xf.tt,aam ke ⟨xf.hd,true,xf.ve,?_⟩⟩
    refine aam ke ⟨xf.hd,false,xf.nw,aam ke ⟨xf.hd,false,xf.bt,aam ke ⟨xf.hd,false,xf.bw,?_⟩⟩⟩
    exact aam ke ⟨xf.hd,false,xf.nt,aam ke ⟨xf.hd,false,xf.nc,ade (LSub.new hex) q⟩⟩
def adx:Sp3:=fun ys L Q=>∃ y,ys=[.tup [.str "web",y]]∧Q (.bl true) L
theorem asa:∀ ys L Q,adx ys L Q→x9 acj 1 ys L Q:=by
  rintro ys L Q ⟨y,rfl,q⟩
  exact fin q
theorem a0j:∀ n:Nat,1≤n→n≤6→atI [Y.int 1,.int 1,.int 2,.int 6,.int 24,.int 120,.int 720] (n:Int)=some (.int (vk n:Int))
  | 1,_,_=>rfl
  | 2,_,_=>rfl
  | 3,_,_=>rfl
  | 4,_,_=>rfl
  | 5,_,_=>rfl
  | 6,_,_=>rfl
theorem ank:∀ n:Nat,1≤n→n≤6→1≤vk n∧(n≠6→vk n≤120)∧(n=6→vk n=720)
  | 1,_,_=>by decide
  | 2,_,_=>by decide
  | 3,_,_=>by decide
  | 4,_,_=>by decide
  | 5,_,_=>by decide
  | 6,_,_=>by decide
theorem asx {T:Addr}:∀ ys L Q,anz ys L Q→x9 (aol aax aea wv aaw ki adx (jp T)) 7 ys L Q:=by
  rintro ys L Q ⟨ns,rfl,h63,rfl,q⟩
  intro p0 hp0
  refine qk q8 ⟨rfl,rfl,afh (by rw [List.length_map];show ns.length+2≤1000;omega),fun pc hpc=>?_⟩
  obtain ⟨ms,ems,hm2,hm65⟩:∃ ms:List Int,ns.map Y.int++[Y.int 0,Y.int 0]=ms.map Y.int∧2≤ms.length∧ms.length≤65:=⟨ns++[0,0],by rw [List.map_append];rfl,by simp,by simp;omega⟩
  rw [ems]
  obtain ⟨c0,e0⟩:∃ c:Int,atI (ms.map Y.int) 0=some (.int c):=⟨ms[0],xu (j:=0) (by rw [List.getElem?_map,List.getElem?_eq_getElem (by omega)];rfl)⟩
  obtain ⟨c1,e1⟩:∃ c:Int,atI (ms.map Y.int) 1=some (.int c):=⟨ms[1],xu (j:=1) (by rw [List.getElem?_map,List.getElem?_eq_getElem (by omega)];rfl)⟩
  have hc1:(qe (qe (fun _=>none) p0 (.lst [Y.int 0,Y.int 0])) pc (.lst (ms.map Y.int))) pc=some (.lst (ms.map Y.int)):=q8
  generalize qe (qe (fun _=>none) p0 (.lst [Y.int 0,Y.int 0])) pc (.lst (ms.map Y.int))=L1 at hc1
  refine qk hc1 (qo e0 ⟨(by decide:(0:Int)<6),?_⟩)
  obtain ⟨n,en⟩:∃ n:Nat,1+c0 % 6=(n:Int):=⟨(1+c0 % 6).toNat,by omega⟩
  have hn1:1≤n:=by omega
  have hn6:n≤6:=by omega
  refine qk hc1 (qo e1 ⟨⟨by decide,by decide,by decide⟩,(by decide:(0:Int)<10 ^ (13:Int).toNat),_,rfl,fun nm _=>?_⟩)
  refine xt hc1 fun keep kp=>ahh (fun i zs=>∃ vs:List Int,zs=vs.map Y.int) (by rw [aaf,List.length_map];exact Nat.lt_of_le_of_lt hm65 (by decide)) (kp _ rfl) ⟨[],rfl⟩ ?_ ?_
  · rintro i y zs hy ⟨vs,rfl⟩
    obtain ⟨z,ez,rfl⟩:=ad5 hy
    have hi:i<ms.length:=by have:=qt ez;rwa [List.length_map] at this
    obtain ⟨c,rfl⟩:∃ c,z=Y.int c:=by
      rw [List.getElem?_map] at ez
      obtain ⟨w,_,e2⟩:=Option.map_eq_some_iff.mp ez
      exact ⟨w,e2.symm⟩
    exact ⟨c,(i:Int),16807,rfl,by omega,by omega,by decide,by decide,fun v v0 v1=>⟨_,LSub.refl _,rfl,vs++[v],by rw [List.map_append];rfl⟩⟩
  rintro _ ⟨vs,rfl⟩ p5 hp5
  refine ⟨rfl,qk q8 (qo (aqo _) ?_)⟩
  generalize vs.sum=tot
  generalize qe L1 p5 _=L2
  clear hp5 kp hc1 e0 e1
  refine ⟨false,false,nm,n,_,tot,rfl,en,hn1,hn6,fun u hu nu=>?_⟩
  intro pw hpw
  refine qk q8 ⟨⟨by decide,by decide⟩,true,true,nm,n,_,_,rfl,en,hn1,hn6,fun v hv nv=>?_⟩
  refine z0 q8 ⟨by show 1<sizeLine;decide,?_⟩
  rw [za]
  have g1:(qe L2 pw (.lst ([z8 u]++[z8 v]))) pw=some (.lst ([u,v].map z8)):=q8
  generalize qe L2 pw (.lst ([z8 u]++[z8 v]))=L3 at g1
  refine ⟨fun τ' L'=>∃ w ws,τ'=[some (.sq (ns.map Y.int)),some (.ref pc),some (.int (1+c0 % 6)),some (.str nm),some (.int tot),some (.ref w),none]∧L' w=some (.lst ((ws:List Wd).map z8))∧Duo n nm ws,?_,?_⟩
  · refine ⟨(by decide:(0:Int)<2),?_⟩
    show kh (decide (tot % 2=1)) _ _
    refine ko (fun h=>⟨rfl,z0 g1 fun p hp=>⟨p,[v,u],rfl,q8,⟨u,v,.inr rfl,hu,hv,nu,nv⟩⟩⟩) fun h=>⟨pw,[u,v],rfl,g1,⟨u,v,.inl rfl,hu,hv,nu,nv⟩⟩
  clear g1
  rintro τ' L4 ⟨w,ws,rfl,g1,d⟩
  obtain ⟨hok,hsz⟩:=aj4 d hn6
  obtain ⟨hll,hbo,hlx,hcn,_⟩:=aed d
  obtain ⟨f1,f2,f3⟩:=ank n hn1 hn6
  refine qo (by rw [en];exact a0j n hn1 hn6) ?_
  refine ⟨w,ws,rfl,g1,hok,by omega,fun n' hT=>?_⟩
  have hlf:∀ w∈LV ws,∃ t n,w=Wd.leaf t n:=fun w hw=>ajs hw
  have hW:WayR (LV ws) n':=by
    rcases hT with ⟨_,h⟩ | ⟨h,_⟩
    · exact h
    · exact absurd (aat hlf (amo d)) h
  have e':=amr d hW
  subst e'
  show kh (!decide ((vk n:Int)=(vk n:Int))) _ _
  refine aef (by rw [decide_eq_true rfl];rfl) ?_
  refine ⟨w,ws,(vk n:Int) - 1,n,nm,rfl,g1,d,hn6,.inr ⟨by omega,by omega⟩,?_⟩
  show kh (decide (1+c0 % 6=6)) _ _
  refine ko (fun c=>?_) (fun c=>?_)
  · have:=f3 (by omega)
    refine ⟨w,ws,-1,n,nm,rfl,g1,d,hn6,.inl ⟨by omega,by omega⟩,?_⟩
    refine ⟨⟨by decide,by decide⟩,(by decide:(0:Int)<281),w,ws,_,n,nm,rfl,g1,d,hn6,fun h=>absurd h (by omega),fun h y L' s=>⟨y,rfl,fin (q _)⟩⟩
  · have:=f2 (by omega)
    refine ⟨w,ws,120,n,nm,rfl,g1,d,hn6,fun h=>absurd h (by omega),fun h y L' s=>⟨y,rfl,?_⟩⟩
    exact ⟨w,ws,_,n,nm,rfl,s _ _ g1,d,hn6,fun h=>absurd h (by omega),fun h y L'' s'=>⟨y,rfl,fin (q _)⟩⟩
end L3
namespace K75
open PySem L2 L3 Words
def top (i:Nat):Stmt:=PySem.Challenge.pw_oncewise_k75_too_many.main.body.getD i (.Pass ⟨0,0,0,0⟩)
theorem I_ {X:Cx} {a b:Expr} {ta tb:TE3} {pos:Pos} (ha:QE X a ta) (hb:QE X b tb) (hp:agh b:=by exact fun _ _=>rfl):QE X (.Subscript a b pos) (yOp yIx ta tb):=a2w (axo X.K X.prog X.w) ha hb hp
theorem a1_ {X:Cx} {e:Expr} {t:TE3} (h:QE X e t) (s:starEach [e] X.env=[(false,eval e X.env)]:=by rfl):QA X [e] (qa t qj):=w5 h vp s
theorem a2_ {X:Cx} {e f:Expr} {t u:TE3} (h:QE X e t) (g:QE X f u) (s:starEach [e,f] X.env=[(false,eval e X.env),(false,eval f X.env)]:=by rfl) (r:starEach [f] X.env=[(false,eval f X.env)]:=by rfl):QA X [e,f] (qa t (qa u qj)):=w5 h (a1_ g r) (by rw [s,r])
theorem a3_ {X:Cx} {e f d:Expr} {t u v:TE3} (h:QE X e t) (g:QE X f u) (i:QE X d v) (s:starEach [e,f,d] X.env=[(false,eval e X.env),(false,eval f X.env),(false,eval d X.env)]:=by rfl) (r:starEach [f,d] X.env=[(false,eval f X.env),(false,eval d X.env)]:=by rfl) (q:starEach [d] X.env=[(false,eval d X.env)]:=by rfl):QA X [e,f,d] (qa t (qa u (qa v qj))):=w5 h (a2_ g i r q) (by rw [s,r])
theorem E_ {X:Cx} {a b:Expr} {ta tb:TE3} {pos:Pos} (hu:X.A.units+128<cLine) (ha:QE X a ta) (hb:QE X b tb):QT X (.Compare a [.Eq] [b] pos) (yB (yOp (yEq false) ta tb)):=aao (ail X.K X.prog X.w hu) ha hb (kj _)
theorem N_ {X:Cx} {a b:Expr} {ta tb:TE3} {pos:Pos} (hu:X.A.units+128<cLine) (ha:QE X a ta) (hb:QE X b tb):QT X (.Compare a [.NotEq] [b] pos) (yB (yOp (yEq true) ta tb)):=aao (asq X.K X.prog X.w hu) ha hb (kj _)
theorem S_ {X:Cx} {x:Str} {e:Expr} {te:TE3} {pos pos':Pos} (i:Nat) (hN:X.N.Nodup) (h:QE X e te) (hix:X.N[i]?=some x:=by rfl) (hx:Loc X.env.scope x:=by exact Or.inl rfl) (hsw:swapsWith e (some (.Name x pos')) pos.line X.env=pure false:=by rfl) (hfn:X.fn x=true∨X.env.scope.names.lookup x=some .local:=by first | exact .inl rfl | exact .inr rfl | assumption):QS X (.Assign [.Name x pos'] e pos) (zc te (qf i)):=azg (i:=i) hN hix hx h hsw hfn
theorem G_ {X:Cx} {x:Str} {pos:Pos} (i:Nat) (hN:X.N.Nodup) (hix:X.N[i]?=some x:=by rfl) (hx:Loc X.env.scope x:=by exact Or.inl rfl) (hfn:X.fn x=true∨X.env.scope.names.lookup x=some .local:=by first | exact .inl rfl | exact .inr rfl | assumption):QG X (.Name x pos) (qf i):=aok (i:=i) hN hix hx hfn
theorem aaq:∀ {us:List Value},us.length=1→∃ a0,us=[a0]
  | [a0],_=>⟨a0,rfl⟩
theorem atx:∀ {us:List Value},us.length=2→∃ a0 a1,us=[a0,a1]
  | [a0,a1],_=>⟨a0,a1,rfl⟩
theorem aq9:∀ {us:List Value},us.length=3→∃ a0 a1 a2,us=[a0,a1,a2]
  | [a0,a1,a2],_=>⟨a0,a1,a2,rfl⟩
theorem a3w:∀ {us:List Value},us.length=4→∃ a0 a1 a2 a3,us=[a0,a1,a2,a3]
  | [a0,a1,a2,a3],_=>⟨a0,a1,a2,a3,rfl⟩
abbrev wb:Stmt:=top 13
theorem ah5:FnScope ["word"] ["word"] (q9 wb):=⟨rfl,rfl,rfl,by decide +kernel,rfl,by decide +kernel,by decide +kernel⟩
abbrev aaa:Stmt:=top 14
theorem ajh:FnScope ["word", "kind"] ["word"] (q9 aaa):=⟨rfl,rfl,rfl,by decide +kernel,rfl,by decide +kernel,by decide +kernel⟩
abbrev vf:Stmt:=top 15
theorem ad8:FnScope ["word"] ["word"] (q9 vf):=⟨rfl,rfl,rfl,by decide +kernel,rfl,by decide +kernel,by decide +kernel⟩
abbrev k7:Stmt:=top 17
theorem aez:FnScope ["knots", "word", "left", "right"] ["knots", "word"] (q9 k7):=⟨rfl,rfl,rfl,by decide +kernel,rfl,by decide +kernel,by decide +kernel⟩
abbrev aek:Stmt:=top 18
theorem ap2:FnScope ["words", "knots", "places", "word"] ["words"] (q9 aek):=⟨rfl,rfl,rfl,by decide +kernel,rfl,by decide +kernel,by decide +kernel⟩
abbrev jx:Stmt:=(agf (top 9)).getD 0 (.Pass ⟨0,0,0,0⟩)
theorem abx:FnScope ["self", "count"] ["self", "count"] (q9 jx):=⟨rfl,rfl,rfl,by decide +kernel,rfl,by decide +kernel,by decide +kernel⟩
abbrev zy:Stmt:=(agf (top 9)).getD 1 (.Pass ⟨0,0,0,0⟩)
theorem ww:FnScope ["self", "place", "here"] ["self", "place"] (q9 zy):=⟨rfl,rfl,rfl,by decide +kernel,rfl,by decide +kernel,by decide +kernel⟩
abbrev jj:Stmt:=(agf (top 9)).getD 2 (.Pass ⟨0,0,0,0⟩)
theorem ab8:FnScope ["self", "p", "q", "first", "second"] ["self", "p", "q"] (q9 jj):=⟨rfl,rfl,rfl,by decide +kernel,rfl,by decide +kernel,by decide +kernel⟩
abbrev jo:Stmt:=top 19
theorem ab1:FnScope ["knots"] ["knots"] (q9 jo):=⟨rfl,rfl,rfl,by decide +kernel,rfl,by decide +kernel,by decide +kernel⟩
abbrev k8:Stmt:=top 20
theorem af3:FnScope ["knot"] ["knot"] (q9 k8):=⟨rfl,rfl,rfl,by decide +kernel,rfl,by decide +kernel,by decide +kernel⟩
abbrev vd:Stmt:=top 21
theorem adi:FnScope ["pairs", "places", "p", "q"] ["pairs"] (q9 vd):=⟨rfl,rfl,rfl,by decide +kernel,rfl,by decide +kernel,by decide +kernel⟩
abbrev xc:Stmt:=top 22
theorem aci:FnScope ["web"] ["web"] (q9 xc):=⟨rfl,rfl,rfl,by decide +kernel,rfl,by decide +kernel,by decide +kernel⟩
abbrev kf:Stmt:=top 24
theorem afe:FnScope ["web"] ["web"] (q9 kf):=⟨rfl,rfl,rfl,by decide +kernel,rfl,by decide +kernel,by decide +kernel⟩
abbrev xi:Stmt:=top 25
theorem acf:FnScope ["knots", "places", "edges", "place"] ["knots", "places"] (q9 xi):=⟨rfl,rfl,rfl,by decide +kernel,rfl,by decide +kernel,by decide +kernel⟩
abbrev k6:Stmt:=top 26
theorem af0:FnScope ["web"] ["web"] (q9 k6):=⟨rfl,rfl,rfl,by decide +kernel,rfl,by decide +kernel,by decide +kernel⟩
abbrev xh:Stmt:=top 27
theorem acg:FnScope ["pieces", "joins", "steps", "p", "q"] ["pieces", "joins"] (q9 xh):=⟨rfl,rfl,rfl,by decide +kernel,rfl,by decide +kernel,by decide +kernel⟩
abbrev vv:Stmt:=top 28
theorem afk:FnScope ["pieces", "knots", "place", "heads"] ["pieces", "knots", "place"] (q9 vv):=⟨rfl,rfl,rfl,by decide +kernel,rfl,by decide +kernel,by decide +kernel⟩
abbrev xg:Stmt:=top 29
theorem ack:FnScope ["pieces", "knots", "eithers", "steps", "before", "place"] ["pieces", "knots", "eithers"] (q9 xg):=⟨rfl,rfl,rfl,by decide +kernel,rfl,by decide +kernel,by decide +kernel⟩
abbrev kg:Stmt:=top 30
theorem afb:FnScope ["knots", "joins", "eithers", "pieces"] ["knots", "joins", "eithers"] (q9 kg):=⟨rfl,rfl,rfl,by decide +kernel,rfl,by decide +kernel,by decide +kernel⟩
abbrev zh:Stmt:=top 31
theorem km:FnScope ["knots", "joins", "eithers", "due"] ["knots", "joins", "eithers"] (q9 zh):=⟨rfl,rfl,rfl,by decide +kernel,rfl,by decide +kernel,by decide +kernel⟩
abbrev v5:Stmt:=top 32
theorem adu:FnScope ["web"] ["web"] (q9 v5):=⟨rfl,rfl,rfl,by decide +kernel,rfl,by decide +kernel,by decide +kernel⟩
abbrev v7:Stmt:=top 33
theorem adr:FnScope ["web", "knots", "joins", "eithers", "choices", "number", "place", "left", "choice"] ["web"] (q9 v7):=⟨rfl,rfl,rfl,by decide +kernel,rfl,by decide +kernel,by decide +kernel⟩
abbrev va:Stmt:=top 35
theorem adt:FnScope ["words", "leaves", "word"] ["words"] (q9 va):=⟨rfl,rfl,rfl,by decide +kernel,rfl,by decide +kernel,by decide +kernel⟩
abbrev jm:Stmt:=top 36
theorem ab7:FnScope ["leaves", "leaf"] ["leaves"] (q9 jm):=⟨rfl,rfl,rfl,by decide +kernel,rfl,by decide +kernel,by decide +kernel⟩
abbrev v9:Stmt:=top 37
theorem adj:FnScope ["words", "leaves", "ways", "counts", "kind", "name"] ["words"] (q9 v9):=⟨rfl,rfl,rfl,by decide +kernel,rfl,by decide +kernel,by decide +kernel⟩
abbrev zw:Stmt:=top 38
theorem wo:FnScope ["knots", "ways", "place", "mates", "longer", "links", "used", "mate"] ["knots", "ways", "place"] (q9 zw):=⟨rfl,rfl,rfl,by decide +kernel,rfl,by decide +kernel,by decide +kernel⟩
abbrev jk:Stmt:=top 39
theorem ab0:FnScope ["knots", "ways", "place", "knot"] ["knots"] (q9 jk):=⟨rfl,rfl,rfl,by decide +kernel,rfl,by decide +kernel,by decide +kernel⟩
abbrev zo:Stmt:=top 40
theorem wm:FnScope ["knots", "tried", "links", "web", "choices"] ["knots"] (q9 zo):=⟨rfl,rfl,rfl,by decide +kernel,rfl,by decide +kernel,by decide +kernel⟩
abbrev xz:Stmt:=top 41
theorem aff:FnScope ["words", "most", "leaves", "name", "knots", "boths"] ["words", "most"] (q9 xz):=⟨rfl,rfl,rfl,by decide +kernel,rfl,by decide +kernel,by decide +kernel⟩
abbrev vt:Stmt:=top 43
theorem afm:FnScope ["_law_cell", "_law_k", "_law_factor"] ["_law_cell", "_law_k", "_law_factor"] (q9 vt):=⟨rfl,rfl,rfl,by decide +kernel,rfl,by decide +kernel,by decide +kernel⟩
abbrev jh:Stmt:=top 44
theorem aaz:FnScope ["_law_number", "_law_letters_here", "_law_name", "_law_rest", "_law_k"] ["_law_number"] (q9 jh):=⟨rfl,rfl,rfl,by decide +kernel,rfl,by decide +kernel,by decide +kernel⟩
abbrev jw:Stmt:=top 45
theorem abv:FnScope ["_law_leaf", "_law_many", "_law_kind", "_law_total", "_law_words", "_law_at"] ["_law_leaf", "_law_many", "_law_kind", "_law_total"] (q9 jw):=⟨rfl,rfl,rfl,by decide +kernel,rfl,by decide +kernel,by decide +kernel⟩
abbrev j8:Stmt:=top 46
theorem aa9:FnScope ["_law_words", "_law_limit", "_law_error", "caught"] ["_law_words", "_law_limit"] (q9 j8):=⟨rfl,rfl,rfl,by decide +kernel,rfl,by decide +kernel,by decide +kernel⟩
abbrev jv:Stmt:=top 47
theorem abm:FnScope ["_law_found"] ["_law_found"] (q9 jv):=⟨rfl,rfl,rfl,by decide +kernel,rfl,by decide +kernel,by decide +kernel⟩
abbrev ae2:Stmt:=top 48
theorem ata:FnScope ["_law_script", "_law_cells", "_law_many", "_law_name", "_law_total", "_law_words", "_law_due"] ["_law_script"] (q9 ae2):=⟨rfl,rfl,rfl,by decide +kernel,rfl,by decide +kernel,by decide +kernel⟩
structure Bt (K:PySem.W.Frag) (P:Program) (w:World) (mg:Str→Option Value) (C_Pieces C_TooMany C_OnceError C_BadWeb C_BadText C_NoWord C_NoCut C_NoTree:Addr):Prop where
  none_:True
  b_len:mg "len" = none
  b_list:mg "list" = none
  b_range:mg "range" = none
  b_enumerate:mg "enumerate" = none
  b_max:mg "max" = none
  b_min:mg "min" = none
  b_sorted:mg "sorted" = none
  b_ValueError:mg "ValueError" = none
  b_isinstance:mg "isinstance" = none
  b_tuple:mg "tuple" = none
  b_sum:mg "sum" = none
  k_LEAF_KINDS:TopC ⟨K,P,w⟩ mg "LEAF_KINDS" ach
  k_TURNED_KINDS:TopC ⟨K,P,w⟩ mg "TURNED_KINDS" ab5
  m_Pieces:mg "Pieces" = some (.ref C_Pieces)
  m_TooMany:mg "TooMany" = some (.ref C_TooMany)
  m_OnceError:mg "OnceError" = some (.ref C_OnceError)
  m_BadWeb:mg "BadWeb" = some (.ref C_BadWeb)
  m_BadText:mg "BadText" = some (.ref C_BadText)
  m_NoWord:mg "NoWord" = some (.ref C_NoWord)
  m_NoCut:mg "NoCut" = some (.ref C_NoCut)
  m_NoTree:mg "NoTree" = some (.ref C_NoTree)
  x_TooMany:XCls K C_TooMany
  cl_Pieces:Cls K C_Pieces
section
variable {P:Program} {w:World} {K:PySem.W.Frag} {mg:Str→Option Value} {base:Heap} {f:Addr} {fd:FuncData} {m:Nat} {cdv:Value} {A:Around} {outer:List Env} {s:Shared} {H:Hp} {E:XK} {C_Pieces C_TooMany C_OnceError C_BadWeb C_BadText C_NoWord C_NoCut C_NoTree:Addr}
theorem ann (B:Bt K P w mg C_Pieces C_TooMany C_OnceError C_BadWeb C_BadText C_NoWord C_NoCut C_NoTree) (hr:Room m (A.deeper (PyProof.Rows.envOfC "is_leaf" (q9 wb) s.heap.objs.size f cdv))):
    QSs (zx CX0 P w K mg base ["word"] "is_leaf" (q9 wb) f cdv A outer s H E).nox (ql wb) aj3:=by
  have sc:=ah5
  have hu:=huK hr
  exact (qg (qp (aa0 (a2o K P w) (I_ (qv 0) qh) (au2 B.k_LEAF_KINDS rfl) (by with_unfolding_all rfl))))
theorem alh (F:Fun K "is_leaf" "is_leaf" wb f fd) (B:Bt K P w mg C_Pieces C_TooMany C_OnceError C_BadWeb C_BadText C_NoWord C_NoCut C_NoTree):Fn3 P w K mg base 1 f fd ["word"] (jf):=
  ok3 (k:=0) F ah5 (by rintro _ _ _ ⟨_,_,_,rfl,_⟩;rfl) fun cdv A outer s H E hr=>⟨_,ann B hr,ao2⟩
theorem aq4 {p_is_leaf:Sp3} {p_turned:Sp3} (B:Bt K P w mg C_Pieces C_TooMany C_OnceError C_BadWeb C_BadText C_NoWord C_NoCut C_NoTree) (c_is_leaf:qq P w K mg base m "is_leaf" ["word"] p_is_leaf) (c_turned:qq P w K mg base m "turned" ["word"] p_turned) (hr:Room m (A.deeper (PyProof.Rows.envOfC "turned" (q9 aaa) s.heap.objs.size f cdv))):
    QSs (zx CX0 P w K mg base ["word", "kind"] "turned" (q9 aaa) f cdv A outer s H E).nox (ql aaa) (al8 p_is_leaf p_turned):=by
  have sc:=ajh
  have hu:=huK hr
  exact (qc (S_ 1 sc.nd (I_ (au2 B.k_TURNED_KINDS rfl) (I_ (qv 0) qh))) (qc (xl (xx (zn c_is_leaf hr rfl (a1_ (qv 0)))) (qg (qp (ju (a2_ (qv 1) (I_ (qv 0) qh))))) zj) (qg (qp (ju (a3_ (qv 1) (zn c_turned hr rfl (a1_ (I_ (qv 0) qh))) (zn c_turned hr rfl (a1_ (I_ (qv 0) qh)))))))))
theorem ahl (F:Fun K "turned" "turned" aaa f fd) (b:Binds K fd ["word"] []) (mgx:mg "turned" = some (.ref f)) (B:Bt K P w mg C_Pieces C_TooMany C_OnceError C_BadWeb C_BadText C_NoWord C_NoCut C_NoTree) (c_is_leaf:qq P w K mg base 1 "is_leaf" ["word"] (jf)):∀ k,Fn3 P w K mg base (k+2) f fd ["word"] (vg k)
  | 0=>Fn3.never fun ys L Q h=>apt ys L Q h
  | k+1=>ok3 F ajh (by rintro _ _ _ ⟨_,rfl,_⟩;rfl) fun cdv A outer s H E hr=>⟨_,aq4 B (c_is_leaf.mono (by omega)) (Cal.of (ahl F b mgx B c_is_leaf k) b F.kp mgx) hr,aqr k⟩
theorem ajw {p_is_leaf:Sp3} {p_leaves_of:Sp3} (B:Bt K P w mg C_Pieces C_TooMany C_OnceError C_BadWeb C_BadText C_NoWord C_NoCut C_NoTree) (c_is_leaf:qq P w K mg base m "is_leaf" ["word"] p_is_leaf) (c_leaves_of:qq P w K mg base m "leaves_of" ["word"] p_leaves_of) (hr:Room m (A.deeper (PyProof.Rows.envOfC "leaves_of" (q9 vf) s.heap.objs.size f cdv))):
    QSs (zx CX0 P w K mg base ["word"] "leaves_of" (q9 vf) f cdv A outer s H E).nox (ql vf) (af7 p_is_leaf p_leaves_of):=by
  have sc:=ad8
  have hu:=huK hr
  exact (qc (xl (xx (zn c_is_leaf hr rfl (a1_ (qv 0)))) (qg (qp (j7 (a1_ (qv 0))))) zj) (qg (qp (z7 xk (zn c_leaves_of hr rfl (a1_ (I_ (qv 0) qh))) (zn c_leaves_of hr rfl (a1_ (I_ (qv 0) qh)))))))
theorem aco (F:Fun K "leaves_of" "leaves_of" vf f fd) (b:Binds K fd ["word"] []) (mgx:mg "leaves_of" = some (.ref f)) (B:Bt K P w mg C_Pieces C_TooMany C_OnceError C_BadWeb C_BadText C_NoWord C_NoCut C_NoTree) (c_is_leaf:qq P w K mg base 1 "is_leaf" ["word"] (jf)):∀ k,Fn3 P w K mg base (k+2) f fd ["word"] (xb k)
  | 0=>Fn3.never fun ys L Q h=>ak4 ys L Q h
  | k+1=>ok3 F ad8 (by rintro _ _ _ ⟨_,rfl,_⟩;rfl) fun cdv A outer s H E hr=>⟨_,ajw B (c_is_leaf.mono (by omega)) (Cal.of (aco F b mgx B c_is_leaf k) b F.kp mgx) hr,aki k⟩
theorem aml {p_is_leaf:Sp3} {p_lay_word:Sp3} (B:Bt K P w mg C_Pieces C_TooMany C_OnceError C_BadWeb C_BadText C_NoWord C_NoCut C_NoTree) (c_is_leaf:qq P w K mg base m "is_leaf" ["word"] p_is_leaf) (c_lay_word:qq P w K mg base m "lay_word" ["knots", "word"] p_lay_word) (hr:Room m (A.deeper (PyProof.Rows.envOfC "lay_word" (q9 k7) s.heap.objs.size f cdv))):
    QSs (zx CX0 P w K mg base ["knots", "word", "left", "right"] "lay_word" (q9 k7) f cdv A outer s H E).nox (ql k7) (ah8 p_is_leaf p_lay_word):=by
  have sc:=aez
  have hu:=huK hr
  exact (aip (xl (xx (zn c_is_leaf hr rfl (a1_ (qv 1)))) (qg (jt (ja (qv 0) (a1_ (qv 1))))) (qc (S_ 2 sc.nd (zn c_lay_word hr rfl (a2_ (qv 0) (I_ (qv 1) qh)))) (qc (S_ 3 sc.nd (zn c_lay_word hr rfl (a2_ (qv 0) (I_ (qv 1) qh)))) (qg (jt (ja (qv 0) (a1_ (ju (a3_ (I_ (qv 1) qh) (qv 2) (qv 3)))))))))) (qg (qp (z7 ap6 (zf (xw K P w) rfl B.b_len v4 (a1_ (qv 0))) qh))))
theorem ads (F:Fun K "lay_word" "lay_word" k7 f fd) (b:Binds K fd ["knots", "word"] []) (mgx:mg "lay_word" = some (.ref f)) (B:Bt K P w mg C_Pieces C_TooMany C_OnceError C_BadWeb C_BadText C_NoWord C_NoCut C_NoTree) (c_is_leaf:qq P w K mg base 1 "is_leaf" ["word"] (jf)):∀ k,Fn3 P w K mg base (k+2) f fd ["knots", "word"] (vh k)
  | 0=>Fn3.never fun ys L Q h=>alt ys L Q h
  | k+1=>ok3 F aez (by rintro _ _ _ ⟨_,_,_,rfl,_⟩;rfl) fun cdv A outer s H E hr=>⟨_,aml B (c_is_leaf.mono (by omega)) (Cal.of (ads F b mgx B c_is_leaf k) b F.kp mgx) hr,amw k⟩
theorem ax1 {p_lay_word:Sp3} (B:Bt K P w mg C_Pieces C_TooMany C_OnceError C_BadWeb C_BadText C_NoWord C_NoCut C_NoTree) (c_lay_word:qq P w K mg base m "lay_word" ["knots", "word"] p_lay_word) (hr:Room m (A.deeper (PyProof.Rows.envOfC "laid" (q9 aek) s.heap.objs.size f cdv))):
    QSs (zx CX0 P w K mg base ["words", "knots", "places", "word"] "laid" (q9 aek) f cdv A outer s H E).nox (ql aek) (ar2 p_lay_word):=by
  have sc:=ap2
  have hu:=huK hr
  exact (qc (S_ 1 sc.nd (j7 vp)) (qc (S_ 2 sc.nd (j7 vp)) (qc (vi PassesOwn.never rfl (jg (qv 0)) (G_ 3 sc.nd) (qg (jt (ja (qv 2) (a1_ (zn c_lay_word hr rfl (a2_ (qv 1) (qv 3)))))))) (qg (qp (ju (a2_ (qv 1) (qv 2))))))))
theorem ar0 (F:Fun K "laid" "laid" aek f fd) (B:Bt K P w mg C_Pieces C_TooMany C_OnceError C_BadWeb C_BadText C_NoWord C_NoCut C_NoTree) (c_lay_word:qq P w K mg base 62 "lay_word" ["knots", "word"] (vh 60)):Fn3 P w K mg base 63 f fd ["words"] (adg):=
  ok3 (k:=62) F ap2 (by rintro _ _ _ ⟨_,_,rfl,_⟩;rfl) fun cdv A outer s H E hr=>⟨_,ax1 B (c_lay_word.mono (by decide)) hr,aur⟩
theorem ags (B:Bt K P w mg C_Pieces C_TooMany C_OnceError C_BadWeb C_BadText C_NoWord C_NoCut C_NoTree) (hr:Room m (A.deeper (PyProof.Rows.envOfC "Pieces.__init__" (q9 jx) s.heap.objs.size f cdv))):
    QSs (zx CX0 P w K mg base ["self", "count"] "Pieces.__init__" (q9 jx) f cdv A outer s H E).nox (ql jx) (acm K):=by
  have sc:=abx
  have hu:=huK hr
  exact (qg (auh (qv 0) (an2 rfl rfl B.b_list rfl B.b_range (qv 1))))
theorem afs (F:Fun K "__init__" "Pieces.__init__" jx f fd) (B:Bt K P w mg C_Pieces C_TooMany C_OnceError C_BadWeb C_BadText C_NoWord C_NoCut C_NoTree) (xf:L3.XF8 K C_Pieces C_OnceError C_TooMany C_BadWeb C_BadText C_NoWord C_NoCut C_NoTree):Fn3 P w K mg base 1 f fd ["self", "count"] (abg C_Pieces):=
  ok3 (k:=0) F abx (by rintro _ _ _ ⟨_,_,_,rfl,_⟩;rfl) fun cdv A outer s H E hr=>⟨_,ags B hr,au0 xf.p⟩
theorem adk (B:Bt K P w mg C_Pieces C_TooMany C_OnceError C_BadWeb C_BadText C_NoWord C_NoCut C_NoTree) (hr:Room m (A.deeper (PyProof.Rows.envOfC "Pieces.head_of" (q9 zy) s.heap.objs.size f cdv))):
    QSs (zx CX0 P w K mg base ["self", "place", "here"] "Pieces.head_of" (q9 zy) f cdv A outer s H E).nox (ql zy) (aae K):=by
  have sc:=ww
  have hu:=huK hr
  exact (qc (S_ 2 sc.nd (qv 1)) (qc (ah9 PassesOwn.never (N_ hu (I_ (aeo (qv 0)) (qv 2)) (qv 2)) (qc (aow (aeo (qv 0)) (qv 2) (I_ (aeo (qv 0)) (I_ (aeo (qv 0)) (qv 2)))) (qg (S_ 2 sc.nd (I_ (aeo (qv 0)) (qv 2)))))) (qg (qp (qv 2)))))
theorem acp (F:Fun K "head_of" "Pieces.head_of" zy f fd) (B:Bt K P w mg C_Pieces C_TooMany C_OnceError C_BadWeb C_BadText C_NoWord C_NoCut C_NoTree) (xf:L3.XF8 K C_Pieces C_OnceError C_TooMany C_BadWeb C_BadText C_NoWord C_NoCut C_NoTree):Fn3 P w K mg base 1 f fd ["self", "place"] (aan C_Pieces):=
  ok3 (k:=0) F ww (by rintro _ _ _ ⟨_,_,_,_,_,_,rfl,_⟩;rfl) fun cdv A outer s H E hr=>⟨_,adk B hr,awr xf.p⟩
theorem afx {p_Pieces_head_of:Sp3} (B:Bt K P w mg C_Pieces C_TooMany C_OnceError C_BadWeb C_BadText C_NoWord C_NoCut C_NoTree) (c_Pieces_head_of:CalM P w K mg base m C_Pieces "head_of" ["self", "place"] p_Pieces_head_of) (hr:Room m (A.deeper (PyProof.Rows.envOfC "Pieces.unite" (q9 jj) s.heap.objs.size f cdv))):
    QSs (zx CX0 P w K mg base ["self", "p", "q", "first", "second"] "Pieces.unite" (q9 jj) f cdv A outer s H E).nox (ql jj) (abk K C_Pieces p_Pieces_head_of):=by
  have sc:=ab8
  have hu:=huK hr
  exact (qc (S_ 3 sc.nd (aq1 c_Pieces_head_of hr B.cl_Pieces (qv 0) (a1_ (qv 1)))) (qc (S_ 4 sc.nd (aq1 c_Pieces_head_of hr B.cl_Pieces (qv 0) (a1_ (qv 2)))) (qc (aow (aeo (qv 0)) (qv 3) (qv 4)) (qg (qp (aa0 (asq K P w hu) (qv 3) (qv 4) (kj _)))))))
theorem aeh (F:Fun K "unite" "Pieces.unite" jj f fd) (B:Bt K P w mg C_Pieces C_TooMany C_OnceError C_BadWeb C_BadText C_NoWord C_NoCut C_NoTree) (c_Pieces_head_of:CalM P w K mg base 1 C_Pieces "head_of" ["self", "place"] (aan C_Pieces)) (xf:L3.XF8 K C_Pieces C_OnceError C_TooMany C_BadWeb C_BadText C_NoWord C_NoCut C_NoTree):Fn3 P w K mg base 2 f fd ["self", "p", "q"] (wl C_Pieces):=
  ok3 (k:=1) F ab8 (by rintro _ _ _ ⟨_,_,_,_,_,_,_,_,_,rfl,_⟩;rfl) fun cdv A outer s H E hr=>⟨_,afx B (c_Pieces_head_of.mono (by decide)) hr,atl xf.p⟩
theorem afo (B:Bt K P w mg C_Pieces C_TooMany C_OnceError C_BadWeb C_BadText C_NoWord C_NoCut C_NoTree) (hr:Room m (A.deeper (PyProof.Rows.envOfC "places_there" (q9 jo) s.heap.objs.size f cdv))):
    QSs (zx CX0 P w K mg base ["knots"] "places_there" (q9 jo) f cdv A outer s H E).nox (ql jo) abw:=by
  have sc:=ab1
  have hu:=huK hr
  exact (qg (qp (ai0 ["place", "knot" ] (compOk.mk (by rfl)) rfl (ac2 rfl B.b_enumerate (qv 0)) (ag8 rfl (by show List.Nodup (["knots", "place" , "knot" ]:List Str);decide +kernel) (fun _ _ _ _=>rfl) (fun _ _ _ _=>rfl)) (fun _ _ _ _=>agt (agg (qv 2))) (fun _ _ _ _=>(qv 1)))))
theorem aei (F:Fun K "places_there" "places_there" jo f fd) (B:Bt K P w mg C_Pieces C_TooMany C_OnceError C_BadWeb C_BadText C_NoWord C_NoCut C_NoTree):Fn3 P w K mg base 1 f fd ["knots"] (aa6):=
  ok3 (k:=0) F ab1 (by rintro _ _ _ ⟨_,_,rfl,_⟩;rfl) fun cdv A outer s H E hr=>⟨_,afo B hr,ark⟩
theorem alj {p_is_leaf:Sp3} (B:Bt K P w mg C_Pieces C_TooMany C_OnceError C_BadWeb C_BadText C_NoWord C_NoCut C_NoTree) (c_is_leaf:qq P w K mg base m "is_leaf" ["word"] p_is_leaf) (hr:Room m (A.deeper (PyProof.Rows.envOfC "parts_of" (q9 k8) s.heap.objs.size f cdv))):
    QSs (zx CX0 P w K mg base ["knot"] "parts_of" (q9 k8) f cdv A outer s H E).nox (ql k8) (ah1 p_is_leaf):=by
  have sc:=af3
  have hu:=huK hr
  exact (qc (xl (akz (al7 (ara (qv 0)) (ajz (xx (zn c_is_leaf hr rfl (a1_ (qv 0))))))) (qg (qp (j7 vp))) zj) (qg (qp (j7 (a2_ (I_ (qv 0) qh) (I_ (qv 0) qh))))))
theorem akv (F:Fun K "parts_of" "parts_of" k8 f fd) (B:Bt K P w mg C_Pieces C_TooMany C_OnceError C_BadWeb C_BadText C_NoWord C_NoCut C_NoTree) (c_is_leaf:qq P w K mg base 1 "is_leaf" ["word"] (jf)):Fn3 P w K mg base 2 f fd ["knot"] (aa3):=
  ok3 (k:=1) F af3 (by rintro _ _ _ ⟨_,rfl,_⟩;rfl) fun cdv A outer s H E hr=>⟨_,alj B (c_is_leaf.mono (by decide)) hr,ary⟩
theorem aju (B:Bt K P w mg C_Pieces C_TooMany C_OnceError C_BadWeb C_BadText C_NoWord C_NoCut C_NoTree) (hr:Room m (A.deeper (PyProof.Rows.envOfC "places_in" (q9 vd) s.heap.objs.size f cdv))):
    QSs (zx CX0 P w K mg base ["pairs", "places", "p", "q"] "places_in" (q9 vd) f cdv A outer s H E).nox (ql vd) af9:=by
  have sc:=adi
  have hu:=huK hr
  exact (qc (S_ 1 sc.nd (j7 vp)) (qc (vi PassesOwn.never rfl (jg (qv 0)) (ai2 rfl (xq (G_ 2 sc.nd) (xq (G_ 3 sc.nd) ad3))) (qc (jt (ja (qv 1) (a1_ (qv 2)))) (qg (jt (ja (qv 1) (a1_ (qv 3))))))) (qg (qp (qv 1)))))
theorem ai4 (F:Fun K "places_in" "places_in" vd f fd) (B:Bt K P w mg C_Pieces C_TooMany C_OnceError C_BadWeb C_BadText C_NoWord C_NoCut C_NoTree):Fn3 P w K mg base 1 f fd ["pairs"] (ag1):=
  ok3 (k:=0) F adi (by rintro _ _ _ ⟨_,_,rfl,_⟩;rfl) fun cdv A outer s H E hr=>⟨_,aju B hr,auv⟩
theorem aih (B:Bt K P w mg C_Pieces C_TooMany C_OnceError C_BadWeb C_BadText C_NoWord C_NoCut C_NoTree) (hr:Room m (A.deeper (PyProof.Rows.envOfC "eithers_of" (q9 xc) s.heap.objs.size f cdv))):
    QSs (zx CX0 P w K mg base ["web"] "eithers_of" (q9 xc) f cdv A outer s H E).nox (ql xc) ad6:=by
  have sc:=aci
  have hu:=huK hr
  exact (qg (qp (ai0 ["place", "knot" ] (compOk.mk (by rfl)) rfl (ac2 rfl B.b_enumerate (I_ (qv 0) qh)) (ag8 rfl (by show List.Nodup (["web", "place" , "knot" ]:List Str);decide +kernel) (fun _ _ _ _=>rfl) (fun _ _ _ _=>rfl)) (fun _ _ _ _=>agt (akz (azk (agg (qv 2)) (avw (E_ hu (I_ (qv 2) qh) jq))))) (fun _ _ _ _=>(qv 1)))))
theorem ahs (F:Fun K "eithers_of" "eithers_of" xc f fd) (B:Bt K P w mg C_Pieces C_TooMany C_OnceError C_BadWeb C_BadText C_NoWord C_NoCut C_NoTree):Fn3 P w K mg base 1 f fd ["web"] (aa7):=
  ok3 (k:=0) F aci (by rintro _ _ _ ⟨_,_,_,_,rfl,_⟩;rfl) fun cdv A outer s H E hr=>⟨_,aih B hr,arz⟩
theorem am2 {p_places_there:Sp3} (B:Bt K P w mg C_Pieces C_TooMany C_OnceError C_BadWeb C_BadText C_NoWord C_NoCut C_NoTree) (c_places_there:qq P w K mg base m "places_there" ["knots"] p_places_there) (hr:Room m (A.deeper (PyProof.Rows.envOfC "boths_of" (q9 kf) s.heap.objs.size f cdv))):
    QSs (zx CX0 P w K mg base ["web"] "boths_of" (q9 kf) f cdv A outer s H E).nox (ql kf) (ah4 p_places_there):=by
  have sc:=afe
  have hu:=huK hr
  exact (qg (qp (ai0 ["place"] (compOk.mk (by rfl)) rfl (jg (zn c_places_there hr rfl (a1_ (I_ (qv 0) qh)))) (abq (by show List.Nodup (["web", "place" ]:List Str);decide +kernel) (fun _ _ _ _=>Or.inl rfl) (fun _ _ _ _=>rfl)) (fun _ _ _ _=>agt (E_ hu (I_ (I_ (I_ (qv 0) qh) (qv 1)) qh) jq)) (fun _ _ _ _=>(qv 1)))))
theorem ajv (F:Fun K "boths_of" "boths_of" kf f fd) (B:Bt K P w mg C_Pieces C_TooMany C_OnceError C_BadWeb C_BadText C_NoWord C_NoCut C_NoTree) (c_places_there:qq P w K mg base 1 "places_there" ["knots"] (aa6)):Fn3 P w K mg base 2 f fd ["web"] (adp):=
  ok3 (k:=1) F afe (by rintro _ _ _ ⟨_,_,_,_,rfl,_⟩;rfl) fun cdv A outer s H E hr=>⟨_,am2 B (c_places_there.mono (by decide)) hr,as1⟩
theorem aib {p_parts_of:Sp3} (B:Bt K P w mg C_Pieces C_TooMany C_OnceError C_BadWeb C_BadText C_NoWord C_NoCut C_NoTree) (c_parts_of:qq P w K mg base m "parts_of" ["knot"] p_parts_of) (hr:Room m (A.deeper (PyProof.Rows.envOfC "part_edges" (q9 xi) s.heap.objs.size f cdv))):
    QSs (zx CX0 P w K mg base ["knots", "places", "edges", "place"] "part_edges" (q9 xi) f cdv A outer s H E).nox (ql xi) (ad4 p_parts_of):=by
  have sc:=acf
  have hu:=huK hr
  exact (qc (S_ 2 sc.nd (j7 vp)) (qc (vi PassesOwn.never rfl (jg (qv 1)) (aok (i:=3) sc.nd rfl (Or.inr rfl)) (qg (jt (ajg (qv 2) (a1_ (ai0 ["part"] (compOk.mk (by rfl)) rfl (jg (zn c_parts_of hr rfl (a1_ (I_ (qv 0) (qv 3))))) (abq (by show List.Nodup (["knots", "places" , "edges" , "place" , "part" ]:List Str);decide +kernel) (fun _ _ _ _=>Or.inl rfl) (fun _ _ _ _=>rfl)) (fun _ _ _ _=>akn) (fun _ _ _ _=>(ju (a2_ (qv 3) (qv 4)))))))))) (qg (qp (qv 2)))))
theorem ah2 (F:Fun K "part_edges" "part_edges" xi f fd) (B:Bt K P w mg C_Pieces C_TooMany C_OnceError C_BadWeb C_BadText C_NoWord C_NoCut C_NoTree) (c_parts_of:qq P w K mg base 2 "parts_of" ["knot"] (aa3)):Fn3 P w K mg base 3 f fd ["knots", "places"] (ac1):=
  ok3 (k:=2) F acf (by rintro _ _ _ ⟨_,_,_,_,rfl,_⟩;rfl) fun cdv A outer s H E hr=>⟨_,aib B (c_parts_of.mono (by decide)) hr,apg⟩
theorem alk {p_part_edges:Sp3} {p_boths_of:Sp3} (B:Bt K P w mg C_Pieces C_TooMany C_OnceError C_BadWeb C_BadText C_NoWord C_NoCut C_NoTree) (c_part_edges:qq P w K mg base m "part_edges" ["knots", "places"] p_part_edges) (c_boths_of:qq P w K mg base m "boths_of" ["web"] p_boths_of) (hr:Room m (A.deeper (PyProof.Rows.envOfC "joins_of" (q9 k6) s.heap.objs.size f cdv))):
    QSs (zx CX0 P w K mg base ["web"] "joins_of" (q9 k6) f cdv A outer s H E).nox (ql k6) (ahw p_part_edges p_boths_of):=by
  have sc:=af0
  have hu:=huK hr
  exact (qg (qp (z7 xk (z7 xk (I_ (qv 0) qh) (I_ (qv 0) qh)) (zn c_part_edges hr rfl (a2_ (I_ (qv 0) qh) (zn c_boths_of hr rfl (a1_ (qv 0))))))))
theorem akb (F:Fun K "joins_of" "joins_of" k6 f fd) (B:Bt K P w mg C_Pieces C_TooMany C_OnceError C_BadWeb C_BadText C_NoWord C_NoCut C_NoTree) (c_part_edges:qq P w K mg base 3 "part_edges" ["knots", "places"] (ac1)) (c_boths_of:qq P w K mg base 2 "boths_of" ["web"] (adp)):Fn3 P w K mg base 4 f fd ["web"] (aa8):=
  ok3 (k:=3) F af0 (by rintro _ _ _ ⟨_,_,_,_,_,_,rfl,_⟩;rfl) fun cdv A outer s H E hr=>⟨_,alk B (c_part_edges.mono (by decide)) (c_boths_of.mono (by decide)) hr,at9⟩
theorem aif {p_Pieces_unite:Sp3} (B:Bt K P w mg C_Pieces C_TooMany C_OnceError C_BadWeb C_BadText C_NoWord C_NoCut C_NoTree) (c_Pieces_unite:CalM P w K mg base m C_Pieces "unite" ["self", "p", "q"] p_Pieces_unite) (hr:Room m (A.deeper (PyProof.Rows.envOfC "join_steps" (q9 xh) s.heap.objs.size f cdv))):
    QSs (zx CX0 P w K mg base ["pieces", "joins", "steps", "p", "q"] "join_steps" (q9 xh) f cdv A outer s H E).nox (ql xh) (acz C_Pieces p_Pieces_unite):=by
  have sc:=acg
  have hu:=huK hr
  exact (qc (S_ 2 sc.nd (j7 vp)) (qc (vi PassesOwn.never rfl (jg (qv 1)) (ai2 rfl (xq (G_ 3 sc.nd) (xq (G_ 4 sc.nd) ad3))) (qg (xl (xx (aq1 c_Pieces_unite hr B.cl_Pieces (qv 0) (a2_ (qv 3) (qv 4)))) (qg (jt (ja (qv 2) (a1_ (ju (a3_ jq (qv 3) (qv 4))))))) zj))) (qg (qp (qv 2)))))
theorem ahr (F:Fun K "join_steps" "join_steps" xh f fd) (B:Bt K P w mg C_Pieces C_TooMany C_OnceError C_BadWeb C_BadText C_NoWord C_NoCut C_NoTree) (c_Pieces_unite:CalM P w K mg base 2 C_Pieces "unite" ["self", "p", "q"] (wl C_Pieces)):Fn3 P w K mg base 3 f fd ["pieces", "joins"] (ac6 C_Pieces):=
  ok3 (k:=2) F acg (by rintro _ _ _ ⟨_,_,_,_,_,rfl,_⟩;rfl) fun cdv A outer s H E hr=>⟨_,aif B (c_Pieces_unite.mono (by decide)) hr,aqm⟩
theorem al2 {p_parts_of:Sp3} {p_Pieces_head_of:Sp3} (B:Bt K P w mg C_Pieces C_TooMany C_OnceError C_BadWeb C_BadText C_NoWord C_NoCut C_NoTree) (c_parts_of:qq P w K mg base m "parts_of" ["knot"] p_parts_of) (c_Pieces_head_of:CalM P w K mg base m C_Pieces "head_of" ["self", "place"] p_Pieces_head_of) (hr:Room m (A.deeper (PyProof.Rows.envOfC "can_fold" (q9 vv) s.heap.objs.size f cdv))):
    QSs (zx CX0 P w K mg base ["pieces", "knots", "place", "heads"] "can_fold" (q9 vv) f cdv A outer s H E).nox (ql vv) (ahe C_Pieces p_parts_of p_Pieces_head_of):=by
  have sc:=afk
  have hu:=huK hr
  exact (qc (amm ["part"] (i:=3) sc.nd rfl (Or.inl rfl) (compOk.mk (by rfl)) rfl (jg (zn c_parts_of hr rfl (a1_ (I_ (qv 1) (qv 2))))) (abq (by show List.Nodup (["pieces", "knots" , "place" , "heads" , "part" ]:List Str);decide +kernel) (fun _ _ _ _=>Or.inl rfl) (fun _ _ _ _=>rfl)) (fun _ _ _ _=>akn) (fun _ _ _ _=>(aq1 c_Pieces_head_of hr B.cl_Pieces (qv 0) (a1_ (qv 4))))) (qg (qp (ae4 (aa0 (ail K P w hu) (I_ (qv 3) qh) (I_ (qv 3) qh) (kj _)) (ahi (aa0 (asq K P w hu) (I_ (qv 3) qh) (aq1 c_Pieces_head_of hr B.cl_Pieces (qv 0) (a1_ (qv 2))) (kj _)))))))
theorem ake (F:Fun K "can_fold" "can_fold" vv f fd) (B:Bt K P w mg C_Pieces C_TooMany C_OnceError C_BadWeb C_BadText C_NoWord C_NoCut C_NoTree) (c_parts_of:qq P w K mg base 2 "parts_of" ["knot"] (aa3)) (c_Pieces_head_of:CalM P w K mg base 1 C_Pieces "head_of" ["self", "place"] (aan C_Pieces)):Fn3 P w K mg base 3 f fd ["pieces", "knots", "place"] (ae1 C_Pieces):=
  ok3 (k:=2) F afk (by rintro _ _ _ ⟨_,_,_,_,_,_,_,_,_,_,rfl,_⟩;rfl) fun cdv A outer s H E hr=>⟨_,al2 B (c_parts_of.mono (by decide)) (c_Pieces_head_of.mono (by decide)) hr,atm⟩
theorem aia {p_can_fold:Sp3} {p_Pieces_unite:Sp3} (B:Bt K P w mg C_Pieces C_TooMany C_OnceError C_BadWeb C_BadText C_NoWord C_NoCut C_NoTree) (c_can_fold:qq P w K mg base m "can_fold" ["pieces", "knots", "place"] p_can_fold) (c_Pieces_unite:CalM P w K mg base m C_Pieces "unite" ["self", "p", "q"] p_Pieces_unite) (hr:Room m (A.deeper (PyProof.Rows.envOfC "fold_steps" (q9 xg) s.heap.objs.size f cdv))):
    QSs (zx CX0 P w K mg base ["pieces", "knots", "eithers", "steps", "before", "place"] "fold_steps" (q9 xg) f cdv A outer s H E).nox (ql xg) (adw C_Pieces p_can_fold p_Pieces_unite):=by
  have sc:=ack
  have hu:=huK hr
  exact (qc (S_ 3 sc.nd (j7 vp)) (qc (S_ 4 sc.nd (asv arm qh)) (qc (ah9 PassesOwn.never (aao a1h (qv 4) (zf (xw K P w) rfl B.b_len v4 (a1_ (qv 3))) (kj _)) (qc (S_ 4 sc.nd (zf (xw K P w) rfl B.b_len v4 (a1_ (qv 3)))) (qg (vi PassesOwn.never rfl (jg (qv 2)) (G_ 5 sc.nd) (qg (xl (xx (zn c_can_fold hr rfl (a3_ (qv 0) (qv 1) (qv 5)))) (qc (jt (aq1 c_Pieces_unite hr B.cl_Pieces (qv 0) (a2_ (qv 5) (I_ (I_ (qv 1) (qv 5)) qh)))) (qg (jt (ja (qv 3) (a1_ (ju (a2_ jq (qv 5)))))))) zj)))))) (qg (qp (qv 3))))))
theorem ahz (F:Fun K "fold_steps" "fold_steps" xg f fd) (B:Bt K P w mg C_Pieces C_TooMany C_OnceError C_BadWeb C_BadText C_NoWord C_NoCut C_NoTree) (c_can_fold:qq P w K mg base 3 "can_fold" ["pieces", "knots", "place"] (ae1 C_Pieces)) (c_Pieces_unite:CalM P w K mg base 2 C_Pieces "unite" ["self", "p", "q"] (wl C_Pieces)):Fn3 P w K mg base 4 f fd ["pieces", "knots", "eithers"] (ac4 C_Pieces):=
  ok3 (k:=3) F ack (by rintro _ _ _ ⟨_,_,_,_,_,_,_,rfl,_⟩;rfl) fun cdv A outer s H E hr=>⟨_,aia B (c_can_fold.mono (by decide)) (c_Pieces_unite.mono (by decide)) hr,apf⟩
theorem ale {p_Pieces_init:Sp3} {p_join_steps:Sp3} {p_fold_steps:Sp3} (B:Bt K P w mg C_Pieces C_TooMany C_OnceError C_BadWeb C_BadText C_NoWord C_NoCut C_NoTree) (c_Pieces_init:CalI P w K mg base m C_Pieces ["self", "count"] p_Pieces_init) (c_join_steps:qq P w K mg base m "join_steps" ["pieces", "joins"] p_join_steps) (c_fold_steps:qq P w K mg base m "fold_steps" ["pieces", "knots", "eithers"] p_fold_steps) (hr:Room m (A.deeper (PyProof.Rows.envOfC "steps_by" (q9 kg) s.heap.objs.size f cdv))):
    QSs (zx CX0 P w K mg base ["knots", "joins", "eithers", "pieces"] "steps_by" (q9 kg) f cdv A outer s H E).nox (ql kg) (ahx C_Pieces p_Pieces_init p_join_steps p_fold_steps):=by
  have sc:=afb
  have hu:=huK hr
  exact (qc (S_ 3 sc.nd (a2a c_Pieces_init hr rfl B.m_Pieces (a1_ (zf (xw K P w) rfl B.b_len v4 (a1_ (qv 0)))))) (qg (qp (z7 xk (zn c_join_steps hr rfl (a2_ (qv 3) (qv 1))) (zn c_fold_steps hr rfl (a3_ (qv 3) (qv 0) (qv 2)))))))
theorem akk (F:Fun K "steps_by" "steps_by" kg f fd) (B:Bt K P w mg C_Pieces C_TooMany C_OnceError C_BadWeb C_BadText C_NoWord C_NoCut C_NoTree) (c_Pieces_init:CalI P w K mg base 2 C_Pieces ["self", "count"] (abg C_Pieces)) (c_join_steps:qq P w K mg base 3 "join_steps" ["pieces", "joins"] (ac6 C_Pieces)) (c_fold_steps:qq P w K mg base 4 "fold_steps" ["pieces", "knots", "eithers"] (ac4 C_Pieces)):Fn3 P w K mg base 5 f fd ["knots", "joins", "eithers"] (aak C_Pieces):=
  ok3 (k:=4) F afb (by rintro _ _ _ ⟨_,_,_,_,_,_,rfl,_⟩;rfl) fun cdv A outer s H E hr=>⟨_,ale B (c_Pieces_init.mono (by decide)) (c_join_steps.mono (by decide)) (c_fold_steps.mono (by decide)) hr,an9⟩
theorem abr {p_places_there:Sp3} {p_steps_by:Sp3} (B:Bt K P w mg C_Pieces C_TooMany C_OnceError C_BadWeb C_BadText C_NoWord C_NoCut C_NoTree) (c_places_there:qq P w K mg base m "places_there" ["knots"] p_places_there) (c_steps_by:qq P w K mg base m "steps_by" ["knots", "joins", "eithers"] p_steps_by) (hr:Room m (A.deeper (PyProof.Rows.envOfC "all_come_together" (q9 zh) s.heap.objs.size f cdv))):
    QSs (zx CX0 P w K mg base ["knots", "joins", "eithers", "due"] "all_come_together" (q9 zh) f cdv A outer s H E).nox (ql zh) (ky p_places_there p_steps_by):=by
  have sc:=km
  have hu:=huK hr
  exact (qc (S_ 3 sc.nd (z7 ap6 (zf (xw K P w) rfl B.b_len v4 (a1_ (zn c_places_there hr rfl (a1_ (qv 0))))) qh)) (qg (qp (ae4 (aa0 (ail K P w hu) (z7 xk (zf (xw K P w) rfl B.b_len v4 (a1_ (qv 1))) (zf (xw K P w) rfl B.b_len v4 (a1_ (qv 2)))) (qv 3) (kj _)) (ahi (aa0 (ail K P w hu) (zf (xw K P w) rfl B.b_len v4 (a1_ (zn c_steps_by hr rfl (a3_ (qv 0) (qv 1) (qv 2))))) (qv 3) (kj _)))))))
theorem abb (F:Fun K "all_come_together" "all_come_together" zh f fd) (B:Bt K P w mg C_Pieces C_TooMany C_OnceError C_BadWeb C_BadText C_NoWord C_NoCut C_NoTree) (c_places_there:qq P w K mg base 1 "places_there" ["knots"] (aa6)) (c_steps_by:qq P w K mg base 5 "steps_by" ["knots", "joins", "eithers"] (aak C_Pieces)):Fn3 P w K mg base 6 f fd ["knots", "joins", "eithers"] (ae8):=
  ok3 (k:=5) F km (by rintro _ _ _ ⟨_,_,_,_,_,_,rfl,_⟩;rfl) fun cdv A outer s H E hr=>⟨_,abr B (c_places_there.mono (by decide)) (c_steps_by.mono (by decide)) hr,ayp⟩
theorem ako {p_all_come_together:Sp3} {p_eithers_of:Sp3} {p_joins_of:Sp3} (B:Bt K P w mg C_Pieces C_TooMany C_OnceError C_BadWeb C_BadText C_NoWord C_NoCut C_NoTree) (c_all_come_together:qq P w K mg base m "all_come_together" ["knots", "joins", "eithers"] p_all_come_together) (c_eithers_of:qq P w K mg base m "eithers_of" ["web"] p_eithers_of) (c_joins_of:qq P w K mg base m "joins_of" ["web"] p_joins_of) (hr:Room m (A.deeper (PyProof.Rows.envOfC "right_web" (q9 v5) s.heap.objs.size f cdv))):
    QSs (zx CX0 P w K mg base ["web"] "right_web" (q9 v5) f cdv A outer s H E).nox (ql v5) (afl p_all_come_together p_eithers_of p_joins_of):=by
  have sc:=adu
  have hu:=huK hr
  exact (qg (qp (zn c_all_come_together hr rfl (a3_ (I_ (qv 0) qh) (zn c_joins_of hr rfl (a1_ (qv 0))) (zn c_eithers_of hr rfl (a1_ (qv 0)))))))
theorem ai8 (F:Fun K "right_web" "right_web" v5 f fd) (B:Bt K P w mg C_Pieces C_TooMany C_OnceError C_BadWeb C_BadText C_NoWord C_NoCut C_NoTree) (c_all_come_together:qq P w K mg base 6 "all_come_together" ["knots", "joins", "eithers"] (ae8)) (c_eithers_of:qq P w K mg base 1 "eithers_of" ["web"] (aa7)) (c_joins_of:qq P w K mg base 4 "joins_of" ["web"] (aa8)):Fn3 P w K mg base 7 f fd ["web"] (acy):=
  ok3 (k:=6) F adu (by rintro _ _ _ ⟨_,_,_,_,_,_,rfl,_⟩;rfl) fun cdv A outer s H E hr=>⟨_,ako B (c_all_come_together.mono (by decide)) (c_eithers_of.mono (by decide)) (c_joins_of.mono (by decide)) hr,ash⟩
theorem aks {p_right_web:Sp3} {p_joins_of:Sp3} {p_eithers_of:Sp3} {p_all_come_together:Sp3} (B:Bt K P w mg C_Pieces C_TooMany C_OnceError C_BadWeb C_BadText C_NoWord C_NoCut C_NoTree) (c_right_web:qq P w K mg base m "right_web" ["web"] p_right_web) (c_joins_of:qq P w K mg base m "joins_of" ["web"] p_joins_of) (c_eithers_of:qq P w K mg base m "eithers_of" ["web"] p_eithers_of) (c_all_come_together:qq P w K mg base m "all_come_together" ["knots", "joins", "eithers"] p_all_come_together) (hr:Room m (A.deeper (PyProof.Rows.envOfC "first_bad" (q9 v7) s.heap.objs.size f cdv))):
    QSs (zx CX0 P w K mg base ["web", "knots", "joins", "eithers", "choices", "number", "place", "left", "choice"] "first_bad" (q9 v7) f cdv A outer s H E).nox (ql v7) (af4 p_right_web p_joins_of p_eithers_of p_all_come_together):=by
  have sc:=adr
  have hu:=huK hr
  exact (qc (xl (xx (zn c_right_web hr rfl (a1_ (qv 0)))) (qg (qp an4)) zj) (qc (S_ 1 sc.nd (I_ (qv 0) qh)) (qc (S_ 2 sc.nd (zn c_joins_of hr rfl (a1_ (qv 0)))) (qc (S_ 3 sc.nd (zn c_eithers_of hr rfl (a1_ (qv 0)))) (qc (S_ 4 sc.nd (j7 vp)) (qc (vi PassesOwn.never rfl (ac2 rfl B.b_enumerate (qv 3)) (ai2 rfl (xq (G_ 5 sc.nd) (xq (G_ 6 sc.nd) ad3))) (qc (S_ 7 sc.nd (ju (a2_ (qv 6) (I_ (I_ (qv 1) (qv 6)) qh)))) (qc (S_ 8 sc.nd (ard (xx (zn c_all_come_together hr rfl (a3_ (qv 1) (z7 xk (qv 2) (j7 (a1_ (qv 7)))) (agp (aub K P w) (qv 3) (aka (z7 xk (qv 5) qh)) aky)))) qh qh)) (qc (jt (ja (qv 4) (a1_ (qv 8)))) (qg (jt (ja (qv 2) (a1_ (ju (a2_ (qv 6) (I_ (I_ (qv 1) (qv 6)) (z7 xk qh (qv 8))))))))))))) (qg (qp (qv 4)))))))))
theorem ai5 (F:Fun K "first_bad" "first_bad" v7 f fd) (B:Bt K P w mg C_Pieces C_TooMany C_OnceError C_BadWeb C_BadText C_NoWord C_NoCut C_NoTree) (c_right_web:qq P w K mg base 7 "right_web" ["web"] (acy)) (c_joins_of:qq P w K mg base 4 "joins_of" ["web"] (aa8)) (c_eithers_of:qq P w K mg base 1 "eithers_of" ["web"] (aa7)) (c_all_come_together:qq P w K mg base 6 "all_come_together" ["knots", "joins", "eithers"] (ae8)):Fn3 P w K mg base 8 f fd ["web"] (ag2):=
  ok3 (k:=7) F adr (by rintro _ _ _ ⟨_,_,_,_,_,_,rfl,_⟩;rfl) fun cdv A outer s H E hr=>⟨_,aks B (c_right_web.mono (by decide)) (c_joins_of.mono (by decide)) (c_eithers_of.mono (by decide)) (c_all_come_together.mono (by decide)) hr,av0⟩
theorem aku {p_leaves_of:Sp3} (B:Bt K P w mg C_Pieces C_TooMany C_OnceError C_BadWeb C_BadText C_NoWord C_NoCut C_NoTree) (c_leaves_of:qq P w K mg base m "leaves_of" ["word"] p_leaves_of) (hr:Room m (A.deeper (PyProof.Rows.envOfC "leaves_in" (q9 va) s.heap.objs.size f cdv))):
    QSs (zx CX0 P w K mg base ["words", "leaves", "word"] "leaves_in" (q9 va) f cdv A outer s H E).nox (ql va) (af5 p_leaves_of):=by
  have sc:=adt
  have hu:=huK hr
  exact (qc (S_ 1 sc.nd (j7 vp)) (qc (vi PassesOwn.never rfl (jg (qv 0)) (G_ 2 sc.nd) (qg (jt (ajg (qv 1) (a1_ (zn c_leaves_of hr rfl (a1_ (qv 2)))))))) (qg (qp (qv 1)))))
theorem aic (F:Fun K "leaves_in" "leaves_in" va f fd) (B:Bt K P w mg C_Pieces C_TooMany C_OnceError C_BadWeb C_BadText C_NoWord C_NoCut C_NoTree) (c_leaves_of:qq P w K mg base 65 "leaves_of" ["word"] (xb 63)):Fn3 P w K mg base 66 f fd ["words"] (aaj):=
  ok3 (k:=65) F adt (by rintro _ _ _ ⟨_,_,rfl,_⟩;rfl) fun cdv A outer s H E hr=>⟨_,aku B (c_leaves_of.mono (by decide)) hr,avc⟩
theorem afz {p_turned:Sp3} (B:Bt K P w mg C_Pieces C_TooMany C_OnceError C_BadWeb C_BadText C_NoWord C_NoCut C_NoTree) (c_turned:qq P w K mg base m "turned" ["word"] p_turned) (hr:Room m (A.deeper (PyProof.Rows.envOfC "first_uneven" (q9 jm) s.heap.objs.size f cdv))):
    QSs (zx CX0 P w K mg base ["leaves", "leaf"] "first_uneven" (q9 jm) f cdv A outer s H E).nox (ql jm) (abl p_turned):=by
  have sc:=ab7
  have hu:=huK hr
  exact (qc (vi PassesOwn.never rfl (jg (qv 0)) (G_ 1 sc.nd) (qg (xl (N_ hu (am6 hu (qv 0) (a1_ (qv 1))) (am6 hu (qv 0) (a1_ (zn c_turned hr rfl (a1_ (qv 1)))))) (qg (qp (I_ (qv 1) qh))) zj))) (qg (qp an4)))
theorem aey (F:Fun K "first_uneven" "first_uneven" jm f fd) (B:Bt K P w mg C_Pieces C_TooMany C_OnceError C_BadWeb C_BadText C_NoWord C_NoCut C_NoTree) (c_turned:qq P w K mg base 65 "turned" ["word"] (vg 63)):Fn3 P w K mg base 66 f fd ["leaves"] (aap):=
  ok3 (k:=65) F ab7 (by rintro _ _ _ ⟨_,_,rfl,_⟩;rfl) fun cdv A outer s H E hr=>⟨_,afz B (c_turned.mono (by decide)) hr,awg⟩
theorem akq {p_leaves_in:Sp3} {p_first_uneven:Sp3} (B:Bt K P w mg C_Pieces C_TooMany C_OnceError C_BadWeb C_BadText C_NoWord C_NoCut C_NoTree) (c_leaves_in:qq P w K mg base m "leaves_in" ["words"] p_leaves_in) (c_first_uneven:qq P w K mg base m "first_uneven" ["leaves"] p_first_uneven) (hr:Room m (A.deeper (PyProof.Rows.envOfC "tries_due" (q9 v9) s.heap.objs.size f cdv))):
    QSs (zx CX0 P w K mg base ["words", "leaves", "ways", "counts", "kind", "name"] "tries_due" (q9 v9) f cdv A outer s H E).nox (ql v9) (afc p_leaves_in p_first_uneven):=by
  have sc:=adj
  have hu:=huK hr
  exact (qc (S_ 1 sc.nd (zn c_leaves_in hr rfl (a1_ (qv 0)))) (qc (xl (agg (zn c_first_uneven hr rfl (a1_ (qv 1)))) (qg (qp qh)) zj) (qc (S_ 2 sc.nd qh) (qc (S_ 3 sc.nd aw5) (qc (vi PassesOwn.never rfl (jg (qv 1)) (ai2 rfl (xq (G_ 4 sc.nd) (xq (G_ 5 sc.nd) ad3))) (qg (xl (E_ hu (qv 4) jq) (qc (ax2 hu (qv 3) (qv 5) (z7 xk (ar9 hu (qv 3) (qv 5) qh) qh)) (qg (S_ 2 sc.nd (z7 amy (qv 2) (ax0 hu (qv 3) (qv 5) (fun _ _=>rfl)))))) zj))) (qg (qp (qv 2))))))))
theorem ai7 (F:Fun K "tries_due" "tries_due" v9 f fd) (B:Bt K P w mg C_Pieces C_TooMany C_OnceError C_BadWeb C_BadText C_NoWord C_NoCut C_NoTree) (c_leaves_in:qq P w K mg base 66 "leaves_in" ["words"] (aaj)) (c_first_uneven:qq P w K mg base 66 "first_uneven" ["leaves"] (aap)):Fn3 P w K mg base 67 f fd ["words"] (ki):=
  ok3 (k:=66) F adj (by rintro _ _ _ ⟨_,_,rfl,_⟩;rfl) fun cdv A outer s H E hr=>⟨_,akq B (c_leaves_in.mono (by decide)) (c_first_uneven.mono (by decide)) hr,aqq⟩
theorem adv {p_turned:Sp3} {p_places_in:Sp3} (B:Bt K P w mg C_Pieces C_TooMany C_OnceError C_BadWeb C_BadText C_NoWord C_NoCut C_NoTree) (c_turned:qq P w K mg base m "turned" ["word"] p_turned) (c_places_in:qq P w K mg base m "places_in" ["pairs"] p_places_in) (hr:Room m (A.deeper (PyProof.Rows.envOfC "linked_further" (q9 zw) s.heap.objs.size f cdv))):
    QSs (zx CX0 P w K mg base ["knots", "ways", "place", "mates", "longer", "links", "used", "mate"] "linked_further" (q9 zw) f cdv A outer s H E).nox (ql zw) (aag p_turned p_places_in):=by
  have sc:=wo
  have hu:=huK hr
  exact (qc (amm ["other", "knot" ] (i:=3) sc.nd rfl (Or.inl rfl) (compOk.mk (by rfl)) rfl (ac2 rfl B.b_enumerate (qv 0)) (ag8 rfl (by show List.Nodup (["knots", "ways" , "place" , "mates" , "longer" , "links" , "used" , "mate" , "other" , "knot" ]:List Str);decide +kernel) (fun _ _ _ _=>rfl) (fun _ _ _ _=>rfl)) (fun _ _ _ _=>agt (E_ hu (qv 9) (zn c_turned hr rfl (a1_ (I_ (qv 0) (qv 2)))))) (fun _ _ _ _=>(qv 8))) (qc (S_ 4 sc.nd (j7 vp)) (qc (vi PassesOwn.never rfl (jg (qv 1)) (G_ 5 sc.nd) (qc (S_ 6 sc.nd (zn c_places_in hr rfl (a1_ (qv 5)))) (qg (vi PassesOwn.never rfl (jg (qv 3)) (G_ 7 sc.nd) (qg (xl (aao (aza K P w) (qv 7) (qv 6) (by with_unfolding_all rfl)) (qg (jt (ja (qv 4) (a1_ (z7 xk (qv 5) (j7 (a1_ (ju (a2_ (zf a1n rfl B.b_min ayk (a2_ (qv 2) (qv 7))) (zf a34 rfl B.b_max azy (a2_ (qv 2) (qv 7)))))))))))) zj)))))) (qg (qp (qv 4))))))
theorem acs (F:Fun K "linked_further" "linked_further" zw f fd) (B:Bt K P w mg C_Pieces C_TooMany C_OnceError C_BadWeb C_BadText C_NoWord C_NoCut C_NoTree) (c_turned:qq P w K mg base 65 "turned" ["word"] (vg 63)) (c_places_in:qq P w K mg base 1 "places_in" ["pairs"] (ag1)):Fn3 P w K mg base 66 f fd ["knots", "ways", "place"] (aay):=
  ok3 (k:=65) F wo (by rintro _ _ _ ⟨_,_,_,_,_,_,_,rfl,_⟩;rfl) fun cdv A outer s H E hr=>⟨_,adv B (c_turned.mono (by decide)) (c_places_in.mono (by decide)) hr,anv⟩
theorem afr {p_linked_further:Sp3} (B:Bt K P w mg C_Pieces C_TooMany C_OnceError C_BadWeb C_BadText C_NoWord C_NoCut C_NoTree) (c_linked_further:qq P w K mg base m "linked_further" ["knots", "ways", "place"] p_linked_further) (hr:Room m (A.deeper (PyProof.Rows.envOfC "ways_to_link" (q9 jk) s.heap.objs.size f cdv))):
    QSs (zx CX0 P w K mg base ["knots", "ways", "place", "knot"] "ways_to_link" (q9 jk) f cdv A outer s H E).nox (ql jk) (abe p_linked_further):=by
  have sc:=ab0
  have hu:=huK hr
  exact (qc (S_ 1 sc.nd (j7 (a1_ (j7 vp)))) (qc (vi PassesOwn.never rfl (ac2 rfl B.b_enumerate (qv 0)) (ai2 rfl (xq (G_ 2 sc.nd) (xq (G_ 3 sc.nd) ad3))) (qg (xl (E_ hu (I_ (qv 3) qh) jq) (qg (S_ 1 sc.nd (zn c_linked_further hr rfl (a3_ (qv 0) (qv 1) (qv 2))))) zj))) (qg (qp (ai0 ["links"] (compOk.mk (by rfl)) rfl (jg (qv 1)) (abq (by show List.Nodup (["knots", "ways" , "place" , "knot" , "links" ]:List Str);decide +kernel) (fun _ _ _ _=>Or.inl rfl) (fun _ _ _ _=>rfl)) (fun _ _ _ _=>akn) (fun _ _ _ _=>(zf awz rfl B.b_sorted apr (a1_ (qv 4)))))))))
theorem aev (F:Fun K "ways_to_link" "ways_to_link" jk f fd) (B:Bt K P w mg C_Pieces C_TooMany C_OnceError C_BadWeb C_BadText C_NoWord C_NoCut C_NoTree) (c_linked_further:qq P w K mg base 66 "linked_further" ["knots", "ways", "place"] (aay)):Fn3 P w K mg base 67 f fd ["knots"] (ag5):=
  ok3 (k:=66) F ab0 (by rintro _ _ _ ⟨_,_,rfl,_⟩;rfl) fun cdv A outer s H E hr=>⟨_,afr B (c_linked_further.mono (by decide)) hr,avs⟩
theorem act {p_ways_to_link:Sp3} {p_first_bad:Sp3} (B:Bt K P w mg C_Pieces C_TooMany C_OnceError C_BadWeb C_BadText C_NoWord C_NoCut C_NoTree) (c_ways_to_link:qq P w K mg base m "ways_to_link" ["knots"] p_ways_to_link) (c_first_bad:qq P w K mg base m "first_bad" ["web"] p_first_bad) (hr:Room m (A.deeper (PyProof.Rows.envOfC "linked_or_tried" (q9 zo) s.heap.objs.size f cdv))):
    QSs (zx CX0 P w K mg base ["knots", "tried", "links", "web", "choices"] "linked_or_tried" (q9 zo) f cdv A outer s H E).nox (ql zo) (wz p_ways_to_link p_first_bad):=by
  have sc:=wm
  have hu:=huK hr
  exact (qc (S_ 1 sc.nd (j7 vp)) (qc (vi PassesOwn.never rfl (jg (zn c_ways_to_link hr rfl (a1_ (qv 0)))) (G_ 2 sc.nd) (qc (S_ 3 sc.nd (ju (a3_ (qv 0) (qv 2) (j7 vp)))) (qc (S_ 4 sc.nd (zn c_first_bad hr rfl (a1_ (qv 3)))) (qc (xl (ara (qv 4)) (qg (qp (ju (a2_ jq (qv 3))))) zj) (qg (jt (ja (qv 1) (a1_ (ju (a2_ (qv 2) (qv 4))))))))))) (qg (qp (ju (a2_ jq (qv 1)))))))
theorem acb (F:Fun K "linked_or_tried" "linked_or_tried" zo f fd) (B:Bt K P w mg C_Pieces C_TooMany C_OnceError C_BadWeb C_BadText C_NoWord C_NoCut C_NoTree) (c_ways_to_link:qq P w K mg base 67 "ways_to_link" ["knots"] (ag5)) (c_first_bad:qq P w K mg base 8 "first_bad" ["web"] (ag2)):Fn3 P w K mg base 68 f fd ["knots"] (ahj):=
  ok3 (k:=67) F wm (by rintro _ _ _ ⟨_,_,rfl,_⟩;rfl) fun cdv A outer s H E hr=>⟨_,act B (c_ways_to_link.mono (by decide)) (c_first_bad.mono (by decide)) hr,a0v⟩
theorem aly {p_leaves_in:Sp3} {p_first_uneven:Sp3} {p_laid:Sp3} {p_tries_due:Sp3} {p_linked_or_tried:Sp3} (B:Bt K P w mg C_Pieces C_TooMany C_OnceError C_BadWeb C_BadText C_NoWord C_NoCut C_NoTree) (c_leaves_in:qq P w K mg base m "leaves_in" ["words"] p_leaves_in) (c_first_uneven:qq P w K mg base m "first_uneven" ["leaves"] p_first_uneven) (c_laid:qq P w K mg base m "laid" ["words"] p_laid) (c_tries_due:qq P w K mg base m "tries_due" ["words"] p_tries_due) (c_linked_or_tried:qq P w K mg base m "linked_or_tried" ["knots"] p_linked_or_tried) {E3:X3} (hr:Room m (A.deeper (PyProof.Rows.envOfC "searched" (q9 xz) s.heap.objs.size f cdv))) (ht:Takes (zx (CXE P w) P w K mg base ["words", "most", "leaves", "name", "knots", "boths"] "searched" (q9 xz) f cdv A outer s H E) (upX ⟨K,P,w⟩ E3)):
    QSs (zx (CXE P w) P w K mg base ["words", "most", "leaves", "name", "knots", "boths"] "searched" (q9 xz) f cdv A outer s H E) (ql xz) (acv C_TooMany E3 p_leaves_in p_first_uneven p_laid p_tries_due p_linked_or_tried):=by
  have sc:=aff
  have hu:=huK hr
  exact (qc (S_ 2 sc.nd (zn c_leaves_in hr rfl (a1_ (qv 0)))) (qc (S_ 3 sc.nd (zn c_first_uneven hr rfl (a1_ (qv 2)))) (qc (xl (agg (qv 3)) (qg (qp (ju (a2_ jq (qv 3))))) zj) (qc (S_ 4 sc.nd (I_ (zn c_laid hr rfl (a1_ (qv 0))) qh)) (qc (S_ 5 sc.nd (zf (xw K P w) rfl B.b_len v4 (a1_ (ai0 ["knot"] (compOk.mk (by rfl)) rfl (jg (qv 4)) (abq (by show List.Nodup (["words", "most" , "leaves" , "name" , "knots" , "boths" , "knot" ]:List Str);decide +kernel) (fun _ _ _ _=>Or.inl rfl) (fun _ _ _ _=>rfl)) (fun _ _ _ _=>agt (E_ hu (I_ (qv 6) qh) jq)) (fun _ _ _ _=>(qv 6)))))) (qc (xl (N_ hu (zf (xw K P w) rfl B.b_len v4 (a1_ (qv 2))) (z7 xk (z7 amy qh (qv 5)) qh)) (qg (qp (ju (a3_ jq (zf (xw K P w) rfl B.b_len v4 (a1_ (qv 2))) (qv 5))))) zj) (qc (xl (aao a2c (zn c_tries_due hr rfl (a1_ (qv 0))) (qv 1) (kj _)) (qg (asf B.x_TooMany rfl B.m_TooMany rfl ht rfl (a1_ jq))) zj) (qg (qp (zn c_linked_or_tried hr rfl (a1_ (qv 4))))))))))))
theorem akg (F:FunD K "searched" "searched" xz f fd) (B:Bt K P w mg C_Pieces C_TooMany C_OnceError C_BadWeb C_BadText C_NoWord C_NoCut C_NoTree) (c_leaves_in:qq P w K mg base 66 "leaves_in" ["words"] (aaj)) (c_first_uneven:qq P w K mg base 66 "first_uneven" ["leaves"] (aap)) (c_laid:qq P w K mg base 63 "laid" ["words"] (adg)) (c_tries_due:qq P w K mg base 67 "tries_due" ["words"] (ki)) (c_linked_or_tried:qq P w K mg base 68 "linked_or_tried" ["knots"] (ahj)):avy P w K mg base 69 f fd ["words", "most"] (jp C_TooMany):=
  a2d (k:=68) (t:=fun E3=>acv C_TooMany E3 (aaj) (aap) (adg) (ki) (ahj)) F aff (by rintro _ _ _ _ ⟨_,_,_,_,_,rfl,_⟩;rfl) (fun cdv A outer s H E E3 hr ht=>aly B (c_leaves_in.mono (by decide)) (c_first_uneven.mono (by decide)) (c_laid.mono (by decide)) (c_tries_due.mono (by decide)) (c_linked_or_tried.mono (by decide)) hr ht) (akj)
theorem ala (B:Bt K P w mg C_Pieces C_TooMany C_OnceError C_BadWeb C_BadText C_NoWord C_NoCut C_NoTree) (hr:Room m (A.deeper (PyProof.Rows.envOfC "_law_mix" (q9 vt) s.heap.objs.size f cdv))):
    QSs (zx CX0 P w K mg base ["_law_cell", "_law_k", "_law_factor"] "_law_mix" (q9 vt) f cdv A outer s H E).nox (ql vt) ah3:=by
  have sc:=afm
  have hu:=huK hr
  exact (qg (qp (z7 ahc (z7 adf (z7 amy (z7 xk (z7 xk (z7 amy (z7 adf (qv 0) qh) qh) (z7 amy (qv 1) (qv 1))) qh) (qv 2)) qh) qh)))
theorem akf (F:Fun K "_law_mix" "_law_mix" vt f fd) (B:Bt K P w mg C_Pieces C_TooMany C_OnceError C_BadWeb C_BadText C_NoWord C_NoCut C_NoTree):Fn3 P w K mg base 1 f fd ["_law_cell", "_law_k", "_law_factor"] (aea):=
  ok3 (k:=0) F afm (by rintro _ _ _ ⟨_,_,_,rfl,_⟩;rfl) fun cdv A outer s H E hr=>⟨_,ala B hr,a1b⟩
theorem afq (B:Bt K P w mg C_Pieces C_TooMany C_OnceError C_BadWeb C_BadText C_NoWord C_NoCut C_NoTree) (hr:Room m (A.deeper (PyProof.Rows.envOfC "_law_letters" (q9 jh) s.heap.objs.size f cdv))):
    QSs (zx CX0 P w K mg base ["_law_number", "_law_letters_here", "_law_name", "_law_rest", "_law_k"] "_law_letters" (q9 jh) f cdv A outer s H E).nox (ql jh) abp:=by
  have sc:=aaz
  have hu:=huK hr
  exact (qc (S_ 1 sc.nd jq) (qc (S_ 2 sc.nd jq) (qc (S_ 3 sc.nd (z7 ahc (qv 0) qh)) (qc (vi PassesOwn.never rfl (apl rfl B.b_range (a1_ (z7 xk qh (z7 adf (qv 0) qh)))) (G_ 4 sc.nd) (qc (S_ 2 sc.nd (z7 xk (I_ (qv 1) (z7 adf (qv 3) qh)) (qv 2))) (qg (S_ 3 sc.nd (z7 ahc (qv 3) qh))))) (qg (qp (qv 2)))))))
theorem aee (F:Fun K "_law_letters" "_law_letters" jh f fd) (B:Bt K P w mg C_Pieces C_TooMany C_OnceError C_BadWeb C_BadText C_NoWord C_NoCut C_NoTree):Fn3 P w K mg base 1 f fd ["_law_number"] (aax):=
  ok3 (k:=0) F aaz (by rintro _ _ _ ⟨_,rfl,_⟩;rfl) fun cdv A outer s H E hr=>⟨_,afq B hr,ao5⟩
theorem agj {p__law_mix:Sp3} (B:Bt K P w mg C_Pieces C_TooMany C_OnceError C_BadWeb C_BadText C_NoWord C_NoCut C_NoTree) (c__law_mix:qq P w K mg base m "_law_mix" ["_law_cell", "_law_k", "_law_factor"] p__law_mix) (hr:Room m (A.deeper (PyProof.Rows.envOfC "_law_joined" (q9 jw) s.heap.objs.size f cdv))):
    QSs (zx CX0 P w K mg base ["_law_leaf", "_law_many", "_law_kind", "_law_total", "_law_words", "_law_at"] "_law_joined" (q9 jw) f cdv A outer s H E).nox (ql jw) (ahb p__law_mix):=by
  have sc:=abv
  have hu:=huK hr
  exact (qc (S_ 4 sc.nd (z7 ayc (j7 (a1_ (qv 0))) (qv 1))) (qc (ah9 PassesOwn.never (aao a2c (zf (xw K P w) rfl B.b_len v4 (a1_ (qv 4))) qh (kj _)) (qc (S_ 5 sc.nd (z7 adf (zn c__law_mix hr rfl (a3_ (qv 3) (zf (xw K P w) rfl B.b_len v4 (a1_ (qv 4))) qh)) (z7 ap6 (zf (xw K P w) rfl B.b_len v4 (a1_ (qv 4))) qh))) (qg (S_ 4 sc.nd (z7 xk (z7 xk (agp (aub K P w) (qv 4) aky (aka (qv 5))) (j7 (a1_ (ju (a3_ (qv 2) (I_ (qv 4) (qv 5)) (I_ (qv 4) (z7 xk (qv 5) qh))))))) (agp (aub K P w) (qv 4) (aka (z7 xk (qv 5) qh)) aky)))))) (qg (qp (I_ (qv 4) qh)))))
theorem afy (F:Fun K "_law_joined" "_law_joined" jw f fd) (B:Bt K P w mg C_Pieces C_TooMany C_OnceError C_BadWeb C_BadText C_NoWord C_NoCut C_NoTree) (c__law_mix:qq P w K mg base 1 "_law_mix" ["_law_cell", "_law_k", "_law_factor"] (aea)):Fn3 P w K mg base 2 f fd ["_law_leaf", "_law_many", "_law_kind", "_law_total"] (wv):=
  ok3 (k:=1) F abv (by rintro _ _ _ ⟨_,_,_,_,_,_,rfl,_⟩;rfl) fun cdv A outer s H E hr=>⟨_,agj B (c__law_mix.mono (by decide)) hr,ald⟩
theorem aep {p_searched:aby} (B:Bt K P w mg C_Pieces C_TooMany C_OnceError C_BadWeb C_BadText C_NoWord C_NoCut C_NoTree) (c_searched:Cal3XD P w K mg base m "searched" ["words", "most"] 120 "most" p_searched) (hr:Room m (A.deeper (PyProof.Rows.envOfC "_law_too_many" (q9 j8) s.heap.objs.size f cdv))):
    QSs (zx CX0 P w K mg base ["_law_words", "_law_limit", "_law_error", "caught"] "_law_too_many" (q9 j8) f cdv A outer s H E).nox (ql j8) (ab2 K C_OnceError C_TooMany C_BadWeb C_BadText C_NoWord C_NoCut C_NoTree p_searched):=by
  have sc:=aa9
  have hu:=huK hr
  exact (qc (S_ 2 sc.nd an4) (qc (a09 (i:=3) rfl rfl rfl sc.nd rfl rfl rfl B.m_OnceError (a20 (fun _ _=>(aao a1h (qv 1) qh (kj _))) (asi c_searched hr rfl rfl (fun _ _=>(a1_ (qv 0)))) (aw4 c_searched.toX hr rfl rfl (fun _ _=>(a2_ (qv 0) (qv 1))))) (fun _=>(qg (S_ 2 sc.nd (qv 3))))) (qc (xl (akz (al7 (akw (xx (wj rfl B.b_isinstance (qv 2) (ae6 rfl B.m_TooMany) rfl))) (ajz (akw (xx (wj rfl B.b_isinstance (qv 2) (ayb rfl B.b_ValueError ai6) rfl)))))) (qg (qp aoo)) zj) (qc (xl (akz (al7 (xx (wj rfl B.b_isinstance (qv 2) (ae6 rfl B.m_NoWord) rfl)) (al7 (xx (wj rfl B.b_isinstance (qv 2) (ae6 rfl B.m_BadText) rfl)) (ajz (xx (wj rfl B.b_isinstance (qv 2) (ae6 rfl B.m_BadWeb) rfl)))))) (qg (qp aoo)) zj) (qg (qp (ae4 (atu (wj rfl B.b_isinstance (qv 2) (ae6 rfl B.m_NoTree) rfl)) (ahi (atu (wj rfl B.b_isinstance (qv 2) (ae6 rfl B.m_NoCut) rfl))))))))))
theorem ae0 (F:Fun K "_law_too_many" "_law_too_many" j8 f fd) (B:Bt K P w mg C_Pieces C_TooMany C_OnceError C_BadWeb C_BadText C_NoWord C_NoCut C_NoTree) (c_searched:Cal3XD P w K mg base 69 "searched" ["words", "most"] 120 "most" (jp C_TooMany)) (xf:L3.XF8 K C_Pieces C_OnceError C_TooMany C_BadWeb C_BadText C_NoWord C_NoCut C_NoTree):Fn3 P w K mg base 70 f fd ["_law_words", "_law_limit"] (aaw):=
  ok3 (k:=69) F aa9 (by rintro _ _ _ ⟨_,_,_,_,_,rfl,_⟩;rfl) fun cdv A outer s H E hr=>⟨_,aep B (c_searched.mono (by decide)) hr,anf xf.e⟩
theorem aht (B:Bt K P w mg C_Pieces C_TooMany C_OnceError C_BadWeb C_BadText C_NoWord C_NoCut C_NoTree) (hr:Room m (A.deeper (PyProof.Rows.envOfC "_law_is_web" (q9 jv) s.heap.objs.size f cdv))):
    QSs (zx CX0 P w K mg base ["_law_found"] "_law_is_web" (q9 jv) f cdv A outer s H E).nox (ql jv) acj:=by
  have sc:=abm
  have hu:=huK hr
  exact (qg (qp (ae4 (auk .tuple rfl B.b_isinstance rfl B.b_tuple asu (qv 0)) (ae4 (aa0 (ail K P w hu) (zf (xw K P w) rfl B.b_len v4 (a1_ (qv 0))) qh (kj _)) (ahi (aa0 (ail K P w hu) (I_ (qv 0) qh) jq (kj _)))))))
theorem afw (F:Fun K "_law_is_web" "_law_is_web" jv f fd) (B:Bt K P w mg C_Pieces C_TooMany C_OnceError C_BadWeb C_BadText C_NoWord C_NoCut C_NoTree):Fn3 P w K mg base 1 f fd ["_law_found"] (adx):=
  ok3 (k:=0) F abm (by rintro _ _ _ ⟨_,rfl,_⟩;rfl) fun cdv A outer s H E hr=>⟨_,aht B hr,asa⟩
theorem azz {p__law_letters:Sp3} {p__law_mix:Sp3} {p__law_joined:Sp3} {p__law_too_many:Sp3} {p_tries_due:Sp3} {p__law_is_web:Sp3} {p_searched:aby} (B:Bt K P w mg C_Pieces C_TooMany C_OnceError C_BadWeb C_BadText C_NoWord C_NoCut C_NoTree) (c__law_letters:qq P w K mg base m "_law_letters" ["_law_number"] p__law_letters) (c__law_mix:qq P w K mg base m "_law_mix" ["_law_cell", "_law_k", "_law_factor"] p__law_mix) (c__law_joined:qq P w K mg base m "_law_joined" ["_law_leaf", "_law_many", "_law_kind", "_law_total"] p__law_joined) (c__law_too_many:qq P w K mg base m "_law_too_many" ["_law_words", "_law_limit"] p__law_too_many) (c_tries_due:qq P w K mg base m "tries_due" ["words"] p_tries_due) (c__law_is_web:qq P w K mg base m "_law_is_web" ["_law_found"] p__law_is_web) (c_searched:Cal3XD P w K mg base m "searched" ["words", "most"] 120 "most" p_searched) (hr:Room m (A.deeper (PyProof.Rows.envOfC "law" (q9 ae2) s.heap.objs.size f cdv))):
    QSs (zx CX0 P w K mg base ["_law_script", "_law_cells", "_law_many", "_law_name", "_law_total", "_law_words", "_law_due"] "law" (q9 ae2) f cdv A outer s H E).nox (ql ae2) (aol p__law_letters p__law_mix p__law_joined p__law_too_many p_tries_due p__law_is_web p_searched):=by
  have sc:=ata
  have hu:=huK hr
  exact (qc (S_ 1 sc.nd (z7 (az8 K P w) (qv 0) (j7 (a2_ qh qh)))) (qc (S_ 2 sc.nd (z7 xk qh (z7 adf (I_ (qv 1) qh) qh))) (qc (S_ 3 sc.nd (zn c__law_letters hr rfl (a1_ (z7 adf (I_ (qv 1) qh) (z7 a2k qh qh))))) (qc (S_ 4 sc.nd (zf a30 rfl B.b_sum azf (a1_ (ai0 ["_law_k", "_law_cell" ] (compOk.mk (by rfl)) rfl (ac2 rfl B.b_enumerate (qv 1)) (ag8 rfl (by show List.Nodup (["_law_script", "_law_cells" , "_law_many" , "_law_name" , "_law_total" , "_law_words" , "_law_due" , "_law_k" , "_law_cell" ]:List Str);decide +kernel) (fun _ _ _ _=>rfl) (fun _ _ _ _=>rfl)) (fun _ _ _ _=>akn) (fun _ _ _ _=>(zn c__law_mix hr rfl (a3_ (qv 8) (qv 7) qh))))))) (qc (S_ 5 sc.nd (j7 (a1_ (zn c__law_joined hr rfl (w5 (ju (a2_ jq (qv 3))) (a3_ (qv 2) jq (qv 4))))))) (qc (jt (ja (qv 5) (a1_ (zn c__law_joined hr rfl (w5 (ju (a2_ jq (qv 3))) (a3_ (qv 2) jq (z7 xk (z7 ahc (qv 4) qh) qh))))))) (aip (xl (E_ hu (z7 adf (qv 4) qh) qh) (qg (S_ 5 sc.nd (a0a (qv 5) (asv arm qh)))) zj) (qc (S_ 6 sc.nd (axa (w5 qh (w5 qh (w5 qh (w5 qh (a3_ qh qh qh))))) (qv 2) (az6 _) (fun _ _=>rfl))) (qc (xl (akz (al7 (N_ hu (zn c_tries_due hr rfl (a1_ (qv 5))) (qv 6)) (ajz (akw (xx (zn c__law_too_many hr rfl (a2_ (qv 5) (z7 ap6 (qv 6) qh)))))))) (qg (qp aoo)) zj) (qc (xl (E_ hu (qv 2) qh) (qg (qp (ae4 (zn c__law_too_many hr rfl (a2_ (qv 5) (asv arm qh))) (ahi (zn c__law_is_web hr rfl (a1_ (a26 c_searched.toX hr rfl ant rfl (a2_ (qv 5) (z7 xk qh (z7 adf (z7 ahc (qv 4) qh) qh)))))))))) zj) (qc (xl (akw (xx (zn c__law_is_web hr rfl (a1_ (a11 c_searched hr rfl ant rfl (a1_ (qv 5))))))) (qg (qp aoo)) zj) (qg (qp (zn c__law_is_web hr rfl (a1_ (a1a c_searched hr rfl ant rfl (a1_ (qv 5)) (qv 6)))))))))))))))))
theorem aui (F:Fun K "law" "law" ae2 f fd) (B:Bt K P w mg C_Pieces C_TooMany C_OnceError C_BadWeb C_BadText C_NoWord C_NoCut C_NoTree) (c__law_letters:qq P w K mg base 1 "_law_letters" ["_law_number"] (aax)) (c__law_mix:qq P w K mg base 1 "_law_mix" ["_law_cell", "_law_k", "_law_factor"] (aea)) (c__law_joined:qq P w K mg base 2 "_law_joined" ["_law_leaf", "_law_many", "_law_kind", "_law_total"] (wv)) (c__law_too_many:qq P w K mg base 70 "_law_too_many" ["_law_words", "_law_limit"] (aaw)) (c_tries_due:qq P w K mg base 67 "tries_due" ["words"] (ki)) (c__law_is_web:qq P w K mg base 1 "_law_is_web" ["_law_found"] (adx)) (c_searched:Cal3XD P w K mg base 69 "searched" ["words", "most"] 120 "most" (jp C_TooMany)):Fn3 P w K mg base 71 f fd ["_law_script"] (anz):=
  ok3 (k:=70) F ata (by rintro _ _ _ ⟨_,rfl,_⟩;rfl) fun cdv A outer s H E hr=>⟨_,azz B (c__law_letters.mono (by decide)) (c__law_mix.mono (by decide)) (c__law_joined.mono (by decide)) (c__law_too_many.mono (by decide)) (c_tries_due.mono (by decide)) (c__law_is_web.mono (by decide)) (c_searched.mono (by decide)) hr,asx⟩
end
theorem all_mk {l:PySem.W.OpenLaw} {w:World} {K:PySem.W.Frag} {h:Heap} {mg:Str→Option Value} {fa:Addr} {a_LEAF_KINDS:Addr} {o_LEAF_KINDS:Option Addr} {n_LEAF_KINDS:Nat} {l_LEAF_KINDS:Array (Option Value)} {t_LEAF_KINDS0 t_LEAF_KINDS1:Tok} {a_TURNED_KINDS:Addr} {e_TURNED_KINDS:Nat} {t_TURNED_KINDS0 t_TURNED_KINDS1 t_TURNED_KINDS2 t_TURNED_KINDS3 u_TURNED_KINDS0 u_TURNED_KINDS1 u_TURNED_KINDS2 u_TURNED_KINDS3:Tok} {C_Pieces:Addr} {C_TooMany:Addr} {C_OnceError:Addr} {C_BadWeb:Addr} {C_BadText:Addr} {C_NoWord:Addr} {C_NoCut:Addr} {C_NoTree:Addr} (X:K.In h) (G:h.Ns mainGlobals mg) (hfa:mg "law" = some (.ref fa))
    (D0:DefIn K "is_leaf" wb)
    (D1:DefIn K "turned" aaa)
    (D2:DefIn K "leaves_of" vf)
    (D3:DefIn K "lay_word" k7)
    (D4:DefIn K "laid" aek)
    (D5:MethIn K C_Pieces "__init__" "Pieces.__init__" jx)
    (D6:MethIn K C_Pieces "head_of" "Pieces.head_of" zy)
    (D7:MethIn K C_Pieces "unite" "Pieces.unite" jj)
    (D8:DefIn K "places_there" jo)
    (D9:DefIn K "parts_of" k8)
    (D10:DefIn K "places_in" vd)
    (D11:DefIn K "eithers_of" xc)
    (D12:DefIn K "boths_of" kf)
    (D13:DefIn K "part_edges" xi)
    (D14:DefIn K "joins_of" k6)
    (D15:DefIn K "join_steps" xh)
    (D16:DefIn K "can_fold" vv)
    (D17:DefIn K "fold_steps" xg)
    (D18:DefIn K "steps_by" kg)
    (D19:DefIn K "all_come_together" zh)
    (D20:DefIn K "right_web" v5)
    (D21:DefIn K "first_bad" v7)
    (D22:DefIn K "leaves_in" va)
    (D23:DefIn K "first_uneven" jm)
    (D24:DefIn K "tries_due" v9)
    (D25:DefIn K "linked_further" zw)
    (D26:DefIn K "ways_to_link" jk)
    (D27:DefIn K "linked_or_tried" zo)
    (D28:DefInD K "searched" xz 120)
    (D29:DefIn K "_law_mix" vt)
    (D30:DefIn K "_law_letters" jh)
    (D31:DefIn K "_law_joined" jw)
    (D32:DefIn K "_law_too_many" j8)
    (D33:DefIn K "_law_is_web" jv)
    (D34:DefIn K "law" ae2)
    (aLEAF_KINDS:PySem.W.nsIn K mainGlobals "LEAF_KINDS" = some (some (.ref a_LEAF_KINDS)))
    (lLEAF_KINDS:K.lookup a_LEAF_KINDS=some ⟨.type "tuple",o_LEAF_KINDS,.seq #[.str "plain" t_LEAF_KINDS0,.str "turned" t_LEAF_KINDS1] n_LEAF_KINDS,l_LEAF_KINDS⟩)
    (aTURNED_KINDS:PySem.W.nsIn K mainGlobals "TURNED_KINDS" = some (some (.ref a_TURNED_KINDS)))
    (lTURNED_KINDS:K.lookup a_TURNED_KINDS=some ⟨.type "dict",none,.dict ((([("plain",t_TURNED_KINDS0, "turned",u_TURNED_KINDS0),("turned",t_TURNED_KINDS1, "plain",u_TURNED_KINDS1),("both",t_TURNED_KINDS2, "either",u_TURNED_KINDS2),("either",t_TURNED_KINDS3, "both",u_TURNED_KINDS3)]:List (Str×Tok×Str×Tok)).map (aom w)).toArray) e_TURNED_KINDS,#[]⟩)
    (hTURNED_KINDS:(a_TURNED_KINDS==sysModules)=false)
    (aCPieces:PySem.W.nsIn K mainGlobals "Pieces" = some (some (.ref C_Pieces)))
    (aCTooMany:PySem.W.nsIn K mainGlobals "TooMany" = some (some (.ref C_TooMany)))
    (aCOnceError:PySem.W.nsIn K mainGlobals "OnceError" = some (some (.ref C_OnceError)))
    (aCBadWeb:PySem.W.nsIn K mainGlobals "BadWeb" = some (some (.ref C_BadWeb)))
    (aCBadText:PySem.W.nsIn K mainGlobals "BadText" = some (some (.ref C_BadText)))
    (aCNoWord:PySem.W.nsIn K mainGlobals "NoWord" = some (some (.ref C_NoWord)))
    (aCNoCut:PySem.W.nsIn K mainGlobals "NoCut" = some (some (.ref C_NoCut)))
    (aCNoTree:PySem.W.nsIn K mainGlobals "NoTree" = some (some (.ref C_NoTree)))
    (qCTooMany:PySem.W.excIn K C_TooMany [.type "ValueError",.type "Exception",.type "BaseException",.type "object"] "ValueError.__new__" = true)
    (clPieces:Cls K C_Pieces)
    (mAPieces:PySem.W.makesIn K C_Pieces=true)
    (mKPieces:PySem.W.keepIn K (.ref C_Pieces)=true)
    (xf:L3.XF8 K C_Pieces C_OnceError C_TooMany C_BadWeb C_BadText C_NoWord C_NoCut C_NoTree)
    (zlen:PySem.W.nsIn K mainGlobals "len" = some none)
    (zlist:PySem.W.nsIn K mainGlobals "list" = some none)
    (zrange:PySem.W.nsIn K mainGlobals "range" = some none)
    (zenumerate:PySem.W.nsIn K mainGlobals "enumerate" = some none)
    (zmax:PySem.W.nsIn K mainGlobals "max" = some none)
    (zmin:PySem.W.nsIn K mainGlobals "min" = some none)
    (zsorted:PySem.W.nsIn K mainGlobals "sorted" = some none)
    (zValueError:PySem.W.nsIn K mainGlobals "ValueError" = some none)
    (zisinstance:PySem.W.nsIn K mainGlobals "isinstance" = some none)
    (ztuple:PySem.W.nsIn K mainGlobals "tuple" = some none)
    (zsum:PySem.W.nsIn K mainGlobals "sum" = some none):
    ∃ fd:FuncData,(∀ (s:Shared) (v:Value),BindsTo s fd ⟨[v],[]⟩ [("_law_script",v)])∧∀ base:Heap,K.In base→base.Ns mainGlobals mg→FnOk l.prog w K mg base CX0 71 fa fd ["_law_script"] (spTop K):=by
  obtain ⟨f0,fd0,F0,b0,m0⟩:=D0.use (ps:=["word"]) X G fun _ _ _ _ _ _ us hl=>by obtain ⟨_,rfl⟩:=aaq hl;rfl
  obtain ⟨f1,fd1,F1,b1,m1⟩:=D1.use (ps:=["word"]) X G fun _ _ _ _ _ _ us hl=>by obtain ⟨_,rfl⟩:=aaq hl;rfl
  obtain ⟨f2,fd2,F2,b2,m2⟩:=D2.use (ps:=["word"]) X G fun _ _ _ _ _ _ us hl=>by obtain ⟨_,rfl⟩:=aaq hl;rfl
  obtain ⟨f3,fd3,F3,b3,m3⟩:=D3.use (ps:=["knots", "word"]) X G fun _ _ _ _ _ _ us hl=>by obtain ⟨_,_,rfl⟩:=atx hl;rfl
  obtain ⟨f4,fd4,F4,b4,m4⟩:=D4.use (ps:=["words"]) X G fun _ _ _ _ _ _ us hl=>by obtain ⟨_,rfl⟩:=aaq hl;rfl
  obtain ⟨f5,fd5,F5,b5,m5⟩:=D5.use (ps:=["self", "count"]) fun _ _ _ _ _ _ us hl=>match us,hl with | [_,_],_=>rfl
  obtain ⟨f6,fd6,F6,b6,m6⟩:=D6.use (ps:=["self", "place"]) fun _ _ _ _ _ _ us hl=>match us,hl with | [_,_],_=>rfl
  obtain ⟨f7,fd7,F7,b7,m7⟩:=D7.use (ps:=["self", "p", "q"]) fun _ _ _ _ _ _ us hl=>match us,hl with | [_,_,_],_=>rfl
  obtain ⟨f8,fd8,F8,b8,m8⟩:=D8.use (ps:=["knots"]) X G fun _ _ _ _ _ _ us hl=>by obtain ⟨_,rfl⟩:=aaq hl;rfl
  obtain ⟨f9,fd9,F9,b9,m9⟩:=D9.use (ps:=["knot"]) X G fun _ _ _ _ _ _ us hl=>by obtain ⟨_,rfl⟩:=aaq hl;rfl
  obtain ⟨f10,fd10,F10,b10,m10⟩:=D10.use (ps:=["pairs"]) X G fun _ _ _ _ _ _ us hl=>by obtain ⟨_,rfl⟩:=aaq hl;rfl
  obtain ⟨f11,fd11,F11,b11,m11⟩:=D11.use (ps:=["web"]) X G fun _ _ _ _ _ _ us hl=>by obtain ⟨_,rfl⟩:=aaq hl;rfl
  obtain ⟨f12,fd12,F12,b12,m12⟩:=D12.use (ps:=["web"]) X G fun _ _ _ _ _ _ us hl=>by obtain ⟨_,rfl⟩:=aaq hl;rfl
  obtain ⟨f13,fd13,F13,b13,m13⟩:=D13.use (ps:=["knots", "places"]) X G fun _ _ _ _ _ _ us hl=>by obtain ⟨_,_,rfl⟩:=atx hl;rfl
  obtain ⟨f14,fd14,F14,b14,m14⟩:=D14.use (ps:=["web"]) X G fun _ _ _ _ _ _ us hl=>by obtain ⟨_,rfl⟩:=aaq hl;rfl
  obtain ⟨f15,fd15,F15,b15,m15⟩:=D15.use (ps:=["pieces", "joins"]) X G fun _ _ _ _ _ _ us hl=>by obtain ⟨_,_,rfl⟩:=atx hl;rfl
  obtain ⟨f16,fd16,F16,b16,m16⟩:=D16.use (ps:=["pieces", "knots", "place"]) X G fun _ _ _ _ _ _ us hl=>by obtain ⟨_,_,_,rfl⟩:=aq9 hl;rfl
  obtain ⟨f17,fd17,F17,b17,m17⟩:=D17.use (ps:=["pieces", "knots", "eithers"]) X G fun _ _ _ _ _ _ us hl=>by obtain ⟨_,_,_,rfl⟩:=aq9 hl;rfl
  obtain ⟨f18,fd18,F18,b18,m18⟩:=D18.use (ps:=["knots", "joins", "eithers"]) X G fun _ _ _ _ _ _ us hl=>by obtain ⟨_,_,_,rfl⟩:=aq9 hl;rfl
  obtain ⟨f19,fd19,F19,b19,m19⟩:=D19.use (ps:=["knots", "joins", "eithers"]) X G fun _ _ _ _ _ _ us hl=>by obtain ⟨_,_,_,rfl⟩:=aq9 hl;rfl
  obtain ⟨f20,fd20,F20,b20,m20⟩:=D20.use (ps:=["web"]) X G fun _ _ _ _ _ _ us hl=>by obtain ⟨_,rfl⟩:=aaq hl;rfl
  obtain ⟨f21,fd21,F21,b21,m21⟩:=D21.use (ps:=["web"]) X G fun _ _ _ _ _ _ us hl=>by obtain ⟨_,rfl⟩:=aaq hl;rfl
  obtain ⟨f22,fd22,F22,b22,m22⟩:=D22.use (ps:=["words"]) X G fun _ _ _ _ _ _ us hl=>by obtain ⟨_,rfl⟩:=aaq hl;rfl
  obtain ⟨f23,fd23,F23,b23,m23⟩:=D23.use (ps:=["leaves"]) X G fun _ _ _ _ _ _ us hl=>by obtain ⟨_,rfl⟩:=aaq hl;rfl
  obtain ⟨f24,fd24,F24,b24,m24⟩:=D24.use (ps:=["words"]) X G fun _ _ _ _ _ _ us hl=>by obtain ⟨_,rfl⟩:=aaq hl;rfl
  obtain ⟨f25,fd25,F25,b25,m25⟩:=D25.use (ps:=["knots", "ways", "place"]) X G fun _ _ _ _ _ _ us hl=>by obtain ⟨_,_,_,rfl⟩:=aq9 hl;rfl
  obtain ⟨f26,fd26,F26,b26,m26⟩:=D26.use (ps:=["knots"]) X G fun _ _ _ _ _ _ us hl=>by obtain ⟨_,rfl⟩:=aaq hl;rfl
  obtain ⟨f27,fd27,F27,b27,m27⟩:=D27.use (ps:=["knots"]) X G fun _ _ _ _ _ _ us hl=>by obtain ⟨_,rfl⟩:=aaq hl;rfl
  obtain ⟨f28,fd28,F28,b28,m28⟩:=D28.useD (ps:=["words", "most"]) (kn:="most") X G fun _ _ _ _ _ _ _ _=>⟨fun us hl=>by obtain ⟨_,_,rfl⟩:=atx hl;exact ⟨_,rfl,rfl⟩,fun us hl=>by obtain ⟨_,rfl⟩:=ars hl;exact ⟨_,rfl,rfl⟩,fun us u hl=>by obtain ⟨_,rfl⟩:=ars hl;exact ⟨_,rfl,rfl⟩⟩
  obtain ⟨f29,fd29,F29,b29,m29⟩:=D29.use (ps:=["_law_cell", "_law_k", "_law_factor"]) X G fun _ _ _ _ _ _ us hl=>by obtain ⟨_,_,_,rfl⟩:=aq9 hl;rfl
  obtain ⟨f30,fd30,F30,b30,m30⟩:=D30.use (ps:=["_law_number"]) X G fun _ _ _ _ _ _ us hl=>by obtain ⟨_,rfl⟩:=aaq hl;rfl
  obtain ⟨f31,fd31,F31,b31,m31⟩:=D31.use (ps:=["_law_leaf", "_law_many", "_law_kind", "_law_total"]) X G fun _ _ _ _ _ _ us hl=>by obtain ⟨_,_,_,_,rfl⟩:=a3w hl;rfl
  obtain ⟨f32,fd32,F32,b32,m32⟩:=D32.use (ps:=["_law_words", "_law_limit"]) X G fun _ _ _ _ _ _ us hl=>by obtain ⟨_,_,rfl⟩:=atx hl;rfl
  obtain ⟨f33,fd33,F33,b33,m33⟩:=D33.use (ps:=["_law_found"]) X G fun _ _ _ _ _ _ us hl=>by obtain ⟨_,rfl⟩:=aaq hl;rfl
  obtain ⟨fL,kV,doc,pm,an,cdv,ct,aL,FL⟩:=D34.ex
  have e:=hfa.symm.trans (PySem.W.mg_of X G aL)
  cases e
  have B:Bt K l.prog w mg C_Pieces C_TooMany C_OnceError C_BadWeb C_BadText C_NoWord C_NoCut C_NoTree:=⟨trivial,PySem.W.mg_none_of X G zlen,PySem.W.mg_none_of X G zlist,PySem.W.mg_none_of X G zrange,PySem.W.mg_none_of X G zenumerate,PySem.W.mg_none_of X G zmax,PySem.W.mg_none_of X G zmin,PySem.W.mg_none_of X G zsorted,PySem.W.mg_none_of X G zValueError,PySem.W.mg_none_of X G zisinstance,PySem.W.mg_none_of X G ztuple,PySem.W.mg_none_of X G zsum,⟨⟨a_LEAF_KINDS,PySem.W.mg_of X G aLEAF_KINDS,fun H=>⟨a_LEAF_KINDS,[V.str "plain",V.str "turned"],rfl,.inr ⟨_,_,_,lLEAF_KINDS,rfl,rfl,by show 2≤sizeLine;decide,.cons ⟨_,rfl⟩ (.cons ⟨_,rfl⟩ (.nil))⟩,⟨_,_,rfl,rfl,⟨_,_,rfl,rfl,rfl⟩⟩⟩⟩⟩,⟨⟨a_TURNED_KINDS,PySem.W.mg_of X G aTURNED_KINDS,fun H=>⟨a_TURNED_KINDS,rfl,a1o _ lTURNED_KINDS hTURNED_KINDS (by show 4≤1000;decide) (by show List.Nodup ([Sum.inr "plain",Sum.inr "turned",Sum.inr "both",Sum.inr "either"]:List Key);decide +kernel)⟩⟩⟩,PySem.W.mg_of X G aCPieces,PySem.W.mg_of X G aCTooMany,PySem.W.mg_of X G aCOnceError,PySem.W.mg_of X G aCBadWeb,PySem.W.mg_of X G aCBadText,PySem.W.mg_of X G aCNoWord,PySem.W.mg_of X G aCNoCut,PySem.W.mg_of X G aCNoTree,an7 qCTooMany,clPieces⟩
  refine ⟨PySem.W.fnOf "law" "law" (j5 ae2) (ql ae2) (q9 ae2) .none kV doc pm an cdv ct,fun s v=>.of_eq rfl,fun base _ _=>?_⟩
  have CA_is_leaf:=Cal.of (alh (P:=l.prog) (w:=w) (base:=base) F0 B) b0 F0.kp m0
  have CA_turned:=Cal.of (ahl (P:=l.prog) (w:=w) (base:=base) F1 b1 m1 B CA_is_leaf 63) b1 F1.kp m1
  have CA_leaves_of:=Cal.of (aco (P:=l.prog) (w:=w) (base:=base) F2 b2 m2 B CA_is_leaf 63) b2 F2.kp m2
  have CA_lay_word:=Cal.of (ads (P:=l.prog) (w:=w) (base:=base) F3 b3 m3 B CA_is_leaf 60) b3 F3.kp m3
  have CA_laid:=Cal.of (ar0 (P:=l.prog) (w:=w) (base:=base) F4 B CA_lay_word) b4 F4.kp m4
  have CA_Pieces_init:CalI l.prog w K mg base 2 C_Pieces ["self", "count"] (abg C_Pieces):=⟨_,_,⟨mAPieces,m5.at_,m5.fn,mKPieces⟩,⟨_,rfl,afs (P:=l.prog) (w:=w) (base:=base) F5 B xf⟩,b5⟩
  have CA_Pieces_head_of:CalM l.prog w K mg base 1 C_Pieces "head_of" ["self", "place"] (aan C_Pieces):=⟨_,_,m6,acp (P:=l.prog) (w:=w) (base:=base) F6 B xf,b6⟩
  have CA_Pieces_unite:CalM l.prog w K mg base 2 C_Pieces "unite" ["self", "p", "q"] (wl C_Pieces):=⟨_,_,m7,aeh (P:=l.prog) (w:=w) (base:=base) F7 B CA_Pieces_head_of xf,b7⟩
  have CA_places_there:=Cal.of (aei (P:=l.prog) (w:=w) (base:=base) F8 B) b8 F8.kp m8
  have CA_parts_of:=Cal.of (akv (P:=l.prog) (w:=w) (base:=base) F9 B CA_is_leaf) b9 F9.kp m9
  have CA_places_in:=Cal.of (ai4 (P:=l.prog) (w:=w) (base:=base) F10 B) b10 F10.kp m10
  have CA_eithers_of:=Cal.of (ahs (P:=l.prog) (w:=w) (base:=base) F11 B) b11 F11.kp m11
  have CA_boths_of:=Cal.of (ajv (P:=l.prog) (w:=w) (base:=base) F12 B CA_places_there) b12 F12.kp m12
  have CA_part_edges:=Cal.of (ah2 (P:=l.prog) (w:=w) (base:=base) F13 B CA_parts_of) b13 F13.kp m13
  have CA_joins_of:=Cal.of (akb (P:=l.prog) (w:=w) (base:=base) F14 B CA_part_edges CA_boths_of) b14 F14.kp m14
  have CA_join_steps:=Cal.of (ahr (P:=l.prog) (w:=w) (base:=base) F15 B CA_Pieces_unite) b15 F15.kp m15
  have CA_can_fold:=Cal.of (ake (P:=l.prog) (w:=w) (base:=base) F16 B CA_parts_of CA_Pieces_head_of) b16 F16.kp m16
  have CA_fold_steps:=Cal.of (ahz (P:=l.prog) (w:=w) (base:=base) F17 B CA_can_fold CA_Pieces_unite) b17 F17.kp m17
  have CA_steps_by:=Cal.of (akk (P:=l.prog) (w:=w) (base:=base) F18 B CA_Pieces_init CA_join_steps CA_fold_steps) b18 F18.kp m18
  have CA_all_come_together:=Cal.of (abb (P:=l.prog) (w:=w) (base:=base) F19 B CA_places_there CA_steps_by) b19 F19.kp m19
  have CA_right_web:=Cal.of (ai8 (P:=l.prog) (w:=w) (base:=base) F20 B CA_all_come_together CA_eithers_of CA_joins_of) b20 F20.kp m20
  have CA_first_bad:=Cal.of (ai5 (P:=l.prog) (w:=w) (base:=base) F21 B CA_right_web CA_joins_of CA_eithers_of CA_all_come_together) b21 F21.kp m21
  have CA_leaves_in:=Cal.of (aic (P:=l.prog) (w:=w) (base:=base) F22 B CA_leaves_of) b22 F22.kp m22
  have CA_first_uneven:=Cal.of (aey (P:=l.prog) (w:=w) (base:=base) F23 B CA_turned) b23 F23.kp m23
  have CA_tries_due:=Cal.of (ai7 (P:=l.prog) (w:=w) (base:=base) F24 B CA_leaves_in CA_first_uneven) b24 F24.kp m24
  have CA_linked_further:=Cal.of (acs (P:=l.prog) (w:=w) (base:=base) F25 B CA_turned CA_places_in) b25 F25.kp m25
  have CA_ways_to_link:=Cal.of (aev (P:=l.prog) (w:=w) (base:=base) F26 B CA_linked_further) b26 F26.kp m26
  have CA_linked_or_tried:=Cal.of (acb (P:=l.prog) (w:=w) (base:=base) F27 B CA_ways_to_link CA_first_bad) b27 F27.kp m27
  have CA_searched:Cal3XD l.prog w K mg base 69 "searched" ["words", "most"] 120 "most" (jp C_TooMany):=⟨_,_,akg (P:=l.prog) (w:=w) (base:=base) F28 B CA_leaves_in CA_first_uneven CA_laid CA_tries_due CA_linked_or_tried,b28,F28.kp,m28⟩
  have CA__law_mix:=Cal.of (akf (P:=l.prog) (w:=w) (base:=base) F29 B) b29 F29.kp m29
  have CA__law_letters:=Cal.of (aee (P:=l.prog) (w:=w) (base:=base) F30 B) b30 F30.kp m30
  have CA__law_joined:=Cal.of (afy (P:=l.prog) (w:=w) (base:=base) F31 B CA__law_mix) b31 F31.kp m31
  have CA__law_too_many:=Cal.of (ae0 (P:=l.prog) (w:=w) (base:=base) F32 B CA_searched xf) b32 F32.kp m32
  have CA__law_is_web:=Cal.of (afw (P:=l.prog) (w:=w) (base:=base) F33 B) b33 F33.kp m33
  exact FnOk.imp (aui (P:=l.prog) (w:=w) (base:=base) FL B CA__law_letters CA__law_mix CA__law_joined CA__law_too_many CA_tries_due CA__law_is_web CA_searched) fun vs H Q E q=>az1 q
end K75
namespace H75
noncomputable section
open PySem PySem.W PySem.W.X L2 L3 PyProof.Rows
abbrev rr:=PySem.Challenge.rw_oncewise_k75_too_many
abbrev p:Program:=PySem.Challenge.pw_oncewise_k75_too_many
abbrev top:=K75.top
abbrev al0 (i k:Nat):Stmt:=(agf (top i)).getD k (.Pass ⟨0,0,0,0⟩)
abbrev s (x:String):Str:=Str.ofString x
abbrev S (x:String) (t:Tok):Value:=.str (Str.ofString x) t
abbrev I (i:Int) (t:Tok):Value:=.int i t
abbrev R (a:Addr):Value:=.ref a
abbrev E (P:Params) (k:String) (t:Tok) (v:Value):DictEntry:=⟨PyData.keyHash P (Str.ofString k),.str (Str.ofString k) t,v⟩
abbrev O (c:Value) (d:Data):Obj:=⟨c,none,d,#[]⟩
abbrev FN (n q:String) (st:Stmt) (dV kV doc pm:Value) (an:Option Addr) (cd ct:Value):FuncData:=fnOf (Str.ofString n) (Str.ofString q) (j5 st) (ql st) (q9 st) dV kV doc pm an cd ct
abbrev FG (n q:String) (st:Stmt):FuncData:={ fnOf (Str.ofString n) (Str.ofString q) (j5 st) (ql st) (q9 st) .none .none .none .none none .none .none with globals:=0 }
abbrev tu (l:Array Value):Obj:=O (.type "tuple") (.seq l 0)
abbrev fo (f:FuncData):Obj:=O (.type "function") (.func f)
abbrev go (f:FuncData):Obj:=O .none (.func f)
abbrev co (n q:String) (t l a b c fl v:Nat) (o:Bool) (m k:Nat) (x y z u:Value) (d:Nat):Obj:=O (.type "code") (.fields #[S n t,S q (t+1),S "/claim/cut.py" (t+2),I l 0,I a 0,I b 0,I c 0,I fl 0,R v,.bool o,I m 0,R k,x,y,z,u,I d 0,I l 0,S "/claim/cut.py" (d+1)])
abbrev Ob:=Params→Obj
def ev {α:Type}:Bool→List α→List α
  | _,[]=>[]
  | true,x::r=>x::ev false r
  | false,_::r=>ev true r
def bt:Nat→List Obj→BT
  | 0,_=>.nil
  | _,[]=>.nil
  | n+1,x::r=>.node x (bt n (ev true r)) (bt n (ev false r))
def env0:Env:={ scope:=p.main.scope,locals:=mainNs,globals:=mainNs,cells:=[],code:=.ref 13,frame:=some 14 }
abbrev cE:Code:=.body (behindTheImports p) env0
abbrev q0:Pos:=⟨0,0,0,0⟩
abbrev an:Option Value:=some (.ref 6)
abbrev Pc (n:Nat) (S S':World→OsState→SharedT) (l:List Stmt) (q q':Pos) (w:World):Prop:=(fun os=>segRunT treeTable p w 11 an 1 n (S w os) (piecesOf l env0 cE q [topFrame q0]))=fun os=>some (Flow.next,S' w os,cE,q')
abbrev b0:=PySem.W.boot_o_0
abbrev b1:=PySem.W.boot_o_1
abbrev b2:=PySem.W.boot_o_2
abbrev b3:=PySem.W.boot_o_3
abbrev b4:=PySem.W.boot_o_4
abbrev b5:=PySem.W.boot_o_5
abbrev b6:=PySem.W.boot_o_6
abbrev b7:=PySem.W.boot_o_7
abbrev b8:=PySem.W.boot_o_8
abbrev b9:=PySem.W.boot_o_9
abbrev b10:=PySem.W.boot_o_10
def xaa:Ob:=fun _=>tu #[]
def xab:Ob:=fun _=>O .none (.fields #[])
def xac:Ob:=fun _=>co "<module>" "<module>" 182 1 0 0 0 0 11 false 181 12 .none .none .none .none 185
def xad:Ob:=fun _=>⟨(.type "frame"),none,.plain,#[(some (R 13)),(some (R 3)),(some (R 3)),none,(some (S "__main__" 164)),none,(some (R 0))]⟩
def xae:Ob:=fun P=>O (.type "dict") (.dict #[(E P "__name__" 165 (S "oncewise.errors" 187)),(E P "__doc__" 166 .none),(E P "__package__" 167 .none),(E P "__loader__" 168 (.builtin "__main__.__loader__#opaque")),(E P "__spec__" 169 .none),(E P "__annotations__" 170 (R 6)),(E P "__builtins__" 171 (R 4)),(E P "__file__" 173 (S "/claim/cut.py" 172)),(E P "__cached__" 174 .none),(E P "OnceError" 206 (R 24))] 10)
def xaf:Ob:=fun _=>tu #[(.type "ValueError")]
def xag:Ob:=fun P=>O (.type "dict") (.dict #[(E P "__module__" 196 (S "oncewise.errors" 187)),(E P "__firstlineno__" 200 (I 2 199)),(E P "__static_attributes__" 201 (R 22)),(E P "__weakref__" 203 (R 25)),(E P "__doc__" 204 .none)] 3)
def xah:Ob:=fun _=>O (.type "builtin_function_or_method") (.fields #[(.builtin "object.__init_subclass__"),R 24])
def xai:Ob:=fun P=>O (.type "dict") (.dict #[(E P "__module__" 196 (S "oncewise.errors" 187)),(E P "__qualname__" 198 (S "OnceError" 197)),(E P "__firstlineno__" 200 (I 2 199)),(E P "__static_attributes__" 201 (R 22))] 4)
def xaj:Ob:=fun _=>O (.type "getset_descriptor") (.fields #[S "__weakref__" 202,R 24,(.builtin "ExceptionGroup.__weakref__"),.none])
def xak:Ob:=fun _=>⟨(.type "frame"),none,.plain,#[(some (R 20)),(some (R 3)),(some (R 17)),none,(some (S "oncewise.errors" 187)),none,(some (R 0))]⟩
def xal:Ob:=fun _=>O (.type "builtin_function_or_method") (.fields #[(.builtin "type.__prepare__"),(.type "type")])
def xam:Ob:=fun _=>⟨(.type "type"),none,(.cls (ClassData.mk (s "OnceError") [(.type "ValueError")] [R 24,(.type "ValueError"),(.type "Exception"),(.type "BaseException"),(.type "object")] 23 (s "OnceError") true [] [] false none false)),#[(some (R 15)),none,(some (S "OnceError" 189)),(some (S "OnceError" 197)),(some (.builtin "ValueError.__new__")),(some (.bool true))]⟩
def xan:Ob:=fun _=>O .none (.fields #[I 2 0,I 0 0,R 20])
def xao:Ob:=fun _=>co "OnceError" "OnceError" 191 2 0 0 0 0 18 false 181 19 .none .none .none .none 194
def xap:Ob:=fun _=>O (.type "super") (.fields #[R 24,R 24,R 24])
def xaq:Ob:=fun P=>O (.type "dict") (.dict #[(E P "__name__" 165 (S "oncewise.errors" 187)),(E P "__doc__" 166 .none),(E P "__package__" 167 .none),(E P "__loader__" 168 (.builtin "__main__.__loader__#opaque")),(E P "__spec__" 169 .none),(E P "__annotations__" 170 (R 6)),(E P "__builtins__" 171 (R 4)),(E P "__file__" 173 (S "/claim/cut.py" 172)),(E P "__cached__" 174 .none),(E P "OnceError" 206 (R 24)),(E P "NoWord" 222 (R 37))] 11)
def xar:Ob:=fun _=>O (.type "builtin_function_or_method") (.fields #[(.builtin "object.__init_subclass__"),R 37])
def xas:Ob:=fun _=>co "NoWord" "NoWord" 209 4 0 0 0 0 31 false 181 32 .none .none .none .none 212
def xat:Ob:=fun _=>⟨(.type "type"),none,(.cls (ClassData.mk (s "NoWord") [R 24] [R 37,R 24,(.type "ValueError"),(.type "Exception"),(.type "BaseException"),(.type "object")] 36 (s "NoWord") true [] [] false none false)),#[(some (R 28)),none,(some (S "NoWord" 207)),(some (S "NoWord" 215)),(some (.builtin "ValueError.__new__")),(some (.bool true))]⟩
def xau:Ob:=fun _=>⟨(.type "type"),none,(.cls (ClassData.mk (s "OnceError") [(.type "ValueError")] [R 24,(.type "ValueError"),(.type "Exception"),(.type "BaseException"),(.type "object")] 23 (s "OnceError") true [] [R 37] false none false)),#[(some (R 15)),none,(some (S "OnceError" 189)),(some (S "OnceError" 197)),(some (.builtin "ValueError.__new__")),(some (.bool true))]⟩
def xav:Ob:=fun _=>O .none (.fields #[I 2 0,I 0 0,R 20,I 4 0,I 0 0,R 33])
def xaw:Ob:=fun P=>O (.type "dict") (.dict #[(E P "__module__" 214 (S "oncewise.errors" 187)),(E P "__firstlineno__" 218 (I 4 217)),(E P "__static_attributes__" 219 (R 35)),(E P "__doc__" 220 .none)] 2)
def xax:Ob:=fun _=>tu #[R 24]
def xay:Ob:=fun _=>⟨(.type "frame"),none,.plain,#[(some (R 33)),(some (R 3)),(some (R 30)),none,(some (S "oncewise.errors" 187)),none,(some (R 0))]⟩
def xaz:Ob:=fun _=>O (.type "super") (.fields #[R 37,R 37,R 37])
def xa0:Ob:=fun P=>O (.type "dict") (.dict #[(E P "__module__" 214 (S "oncewise.errors" 187)),(E P "__qualname__" 216 (S "NoWord" 215)),(E P "__firstlineno__" 218 (I 4 217)),(E P "__static_attributes__" 219 (R 35))] 4)
def xa1:Ob:=fun P=>O (.type "dict") (.dict #[(E P "__name__" 165 (S "oncewise.errors" 187)),(E P "__doc__" 166 .none),(E P "__package__" 167 .none),(E P "__loader__" 168 (.builtin "__main__.__loader__#opaque")),(E P "__spec__" 169 .none),(E P "__annotations__" 170 (R 6)),(E P "__builtins__" 171 (R 4)),(E P "__file__" 173 (S "/claim/cut.py" 172)),(E P "__cached__" 174 .none),(E P "OnceError" 206 (R 24)),(E P "NoWord" 222 (R 37)),(E P "BadText" 238 (R 49))] 12)
def xa2:Ob:=fun _=>O (.type "builtin_function_or_method") (.fields #[(.builtin "object.__init_subclass__"),R 49])
def xa3:Ob:=fun _=>⟨(.type "type"),none,(.cls (ClassData.mk (s "BadText") [R 24] [R 49,R 24,(.type "ValueError"),(.type "Exception"),(.type "BaseException"),(.type "object")] 48 (s "BadText") true [] [] false none false)),#[(some (R 40)),none,(some (S "BadText" 223)),(some (S "BadText" 231)),(some (.builtin "ValueError.__new__")),(some (.bool true))]⟩
def xa4:Ob:=fun _=>co "BadText" "BadText" 225 6 0 0 0 0 43 false 181 44 .none .none .none .none 228
def xa5:Ob:=fun P=>O (.type "dict") (.dict #[(E P "__module__" 230 (S "oncewise.errors" 187)),(E P "__firstlineno__" 234 (I 6 233)),(E P "__static_attributes__" 235 (R 47)),(E P "__doc__" 236 .none)] 2)
def xa6:Ob:=fun _=>⟨(.type "type"),none,(.cls (ClassData.mk (s "OnceError") [(.type "ValueError")] [R 24,(.type "ValueError"),(.type "Exception"),(.type "BaseException"),(.type "object")] 23 (s "OnceError") true [] [R 37,R 49] false none false)),#[(some (R 15)),none,(some (S "OnceError" 189)),(some (S "OnceError" 197)),(some (.builtin "ValueError.__new__")),(some (.bool true))]⟩
def xa7:Ob:=fun _=>O .none (.fields #[I 2 0,I 0 0,R 20,I 4 0,I 0 0,R 33,I 6 0,I 0 0,R 45])
def xa8:Ob:=fun _=>O (.type "super") (.fields #[R 49,R 49,R 49])
def xa9:Ob:=fun P=>O (.type "dict") (.dict #[(E P "__module__" 230 (S "oncewise.errors" 187)),(E P "__qualname__" 232 (S "BadText" 231)),(E P "__firstlineno__" 234 (I 6 233)),(E P "__static_attributes__" 235 (R 47))] 4)
def xba:Ob:=fun _=>⟨(.type "frame"),none,.plain,#[(some (R 45)),(some (R 3)),(some (R 42)),none,(some (S "oncewise.errors" 187)),none,(some (R 0))]⟩
def xbb:Ob:=fun P=>O (.type "dict") (.dict #[(E P "__name__" 165 (S "oncewise.errors" 187)),(E P "__doc__" 166 .none),(E P "__package__" 167 .none),(E P "__loader__" 168 (.builtin "__main__.__loader__#opaque")),(E P "__spec__" 169 .none),(E P "__annotations__" 170 (R 6)),(E P "__builtins__" 171 (R 4)),(E P "__file__" 173 (S "/claim/cut.py" 172)),(E P "__cached__" 174 .none),(E P "OnceError" 206 (R 24)),(E P "NoWord" 222 (R 37)),(E P "BadText" 238 (R 49)),(E P "BadWeb" 254 (R 61))] 13)
def xbc:Ob:=fun _=>O (.type "builtin_function_or_method") (.fields #[(.builtin "object.__init_subclass__"),R 61])
def xbd:Ob:=fun _=>co "BadWeb" "BadWeb" 241 8 0 0 0 0 55 false 181 56 .none .none .none .none 244
def xbe:Ob:=fun _=>⟨(.type "type"),none,(.cls (ClassData.mk (s "BadWeb") [R 24] [R 61,R 24,(.type "ValueError"),(.type "Exception"),(.type "BaseException"),(.type "object")] 60 (s "BadWeb") true [] [] false none false)),#[(some (R 52)),none,(some (S "BadWeb" 239)),(some (S "BadWeb" 247)),(some (.builtin "ValueError.__new__")),(some (.bool true))]⟩
def xbf:Ob:=fun _=>⟨(.type "type"),none,(.cls (ClassData.mk (s "OnceError") [(.type "ValueError")] [R 24,(.type "ValueError"),(.type "Exception"),(.type "BaseException"),(.type "object")] 23 (s "OnceError") true [] [R 37,R 49,R 61] false none false)),#[(some (R 15)),none,(some (S "OnceError" 189)),(some (S "OnceError" 197)),(some (.builtin "ValueError.__new__")),(some (.bool true))]⟩
def xbg:Ob:=fun _=>O .none (.fields #[I 2 0,I 0 0,R 20,I 4 0,I 0 0,R 33,I 6 0,I 0 0,R 45,I 8 0,I 0 0,R 57])
def xbh:Ob:=fun P=>O (.type "dict") (.dict #[(E P "__module__" 246 (S "oncewise.errors" 187)),(E P "__firstlineno__" 250 (I 8 249)),(E P "__static_attributes__" 251 (R 59)),(E P "__doc__" 252 .none)] 2)
def xbi:Ob:=fun _=>⟨(.type "frame"),none,.plain,#[(some (R 57)),(some (R 3)),(some (R 54)),none,(some (S "oncewise.errors" 187)),none,(some (R 0))]⟩
def xbj:Ob:=fun P=>O (.type "dict") (.dict #[(E P "__module__" 246 (S "oncewise.errors" 187)),(E P "__qualname__" 248 (S "BadWeb" 247)),(E P "__firstlineno__" 250 (I 8 249)),(E P "__static_attributes__" 251 (R 59))] 4)
def xbk:Ob:=fun _=>O (.type "super") (.fields #[R 61,R 61,R 61])
def xbl:Ob:=fun P=>O (.type "dict") (.dict #[(E P "__name__" 165 (S "oncewise.errors" 187)),(E P "__doc__" 166 .none),(E P "__package__" 167 .none),(E P "__loader__" 168 (.builtin "__main__.__loader__#opaque")),(E P "__spec__" 169 .none),(E P "__annotations__" 170 (R 6)),(E P "__builtins__" 171 (R 4)),(E P "__file__" 173 (S "/claim/cut.py" 172)),(E P "__cached__" 174 .none),(E P "OnceError" 206 (R 24)),(E P "NoWord" 222 (R 37)),(E P "BadText" 238 (R 49)),(E P "BadWeb" 254 (R 61)),(E P "NoTree" 280 (R 80))] 14)
def xbm:Ob:=fun P=>O (.type "dict") (.dict #[(E P "__module__" 262 (S "oncewise.errors" 187)),(E P "__firstlineno__" 266 (I 10 265)),(E P "__init__" 275 (R 77)),(E P "__static_attributes__" 277 (R 78)),(E P "__doc__" 278 .none)] 2)
def xbn:Ob:=fun _=>go (FG "__init__" "NoTree.__init__" (al0 5 0))
def xbo:Ob:=fun _=>O (.type "super") (.fields #[R 80,R 80,R 80])
def xbp:Ob:=fun _=>tu #[S "self" 270,S "words" 271,S "choices" 272]
def xbq:Ob:=fun _=>co "NoTree" "NoTree" 257 10 0 0 0 0 67 false 181 68 .none .none .none .none 260
def xbr:Ob:=fun _=>fo (FN "__init__" "NoTree.__init__" (al0 5 0) .none .none .none (S "oncewise.errors" 187) none (R 76) .none)
def xbs:Ob:=fun _=>⟨(.type "type"),none,(.cls (ClassData.mk (s "NoTree") [R 24] [R 80,R 24,(.type "ValueError"),(.type "Exception"),(.type "BaseException"),(.type "object")] 79 (s "NoTree") true [] [] false none false)),#[(some (R 64)),none,(some (S "NoTree" 255)),(some (S "NoTree" 263)),(some (.builtin "ValueError.__new__")),(some (.bool true))]⟩
def xbt:Ob:=fun _=>⟨(.type "type"),none,(.cls (ClassData.mk (s "OnceError") [(.type "ValueError")] [R 24,(.type "ValueError"),(.type "Exception"),(.type "BaseException"),(.type "object")] 23 (s "OnceError") true [] [R 37,R 49,R 61,R 80] false none false)),#[(some (R 15)),none,(some (S "OnceError" 189)),(some (S "OnceError" 197)),(some (.builtin "ValueError.__new__")),(some (.bool true))]⟩
def xbu:Ob:=fun _=>O .none (.fields #[I 2 0,I 0 0,R 20,I 4 0,I 0 0,R 33,I 6 0,I 0 0,R 45,I 8 0,I 0 0,R 57,I 10 0,I 0 0,R 69])
def xbv:Ob:=fun _=>O .none (.fields #[I 12 0,I 4 0,R 76])
def xbw:Ob:=fun _=>co "__init__" "NoTree.__init__" 267 12 3 0 0 3 71 true 181 72 .none (R 73) (R 74) (R 75) 273
def xbx:Ob:=fun P=>O (.type "dict") (.dict #[(E P "__module__" 262 (S "oncewise.errors" 187)),(E P "__qualname__" 264 (S "NoTree" 263)),(E P "__firstlineno__" 266 (I 10 265)),(E P "__init__" 275 (R 77)),(E P "__static_attributes__" 277 (R 78))] 5)
def xby:Ob:=fun _=>O (.type "builtin_function_or_method") (.fields #[(.builtin "object.__init_subclass__"),R 80])
def xbz:Ob:=fun _=>⟨(.type "frame"),none,.plain,#[(some (R 69)),(some (R 3)),(some (R 66)),none,(some (S "oncewise.errors" 187)),none,(some (R 0))]⟩
def xb0:Ob:=fun _=>tu #[S "choices" 276]
def xb1:Ob:=fun P=>O (.type "dict") (.dict #[(E P "__name__" 165 (S "oncewise.errors" 187)),(E P "__doc__" 166 .none),(E P "__package__" 167 .none),(E P "__loader__" 168 (.builtin "__main__.__loader__#opaque")),(E P "__spec__" 169 .none),(E P "__annotations__" 170 (R 6)),(E P "__builtins__" 171 (R 4)),(E P "__file__" 173 (S "/claim/cut.py" 172)),(E P "__cached__" 174 .none),(E P "OnceError" 206 (R 24)),(E P "NoWord" 222 (R 37)),(E P "BadText" 238 (R 49)),(E P "BadWeb" 254 (R 61)),(E P "NoTree" 280 (R 80)),(E P "NoCut" 296 (R 92))] 15)
def xb2:Ob:=fun P=>O (.type "dict") (.dict #[(E P "__module__" 288 (S "oncewise.errors" 187)),(E P "__firstlineno__" 292 (I 15 291)),(E P "__static_attributes__" 293 (R 90)),(E P "__doc__" 294 .none)] 2)
def xb3:Ob:=fun _=>⟨(.type "frame"),none,.plain,#[(some (R 88)),(some (R 3)),(some (R 85)),none,(some (S "oncewise.errors" 187)),none,(some (R 0))]⟩
def xb4:Ob:=fun P=>O (.type "dict") (.dict #[(E P "__module__" 288 (S "oncewise.errors" 187)),(E P "__qualname__" 290 (S "NoCut" 289)),(E P "__firstlineno__" 292 (I 15 291)),(E P "__static_attributes__" 293 (R 90))] 4)
def xb5:Ob:=fun _=>O (.type "super") (.fields #[R 92,R 92,R 92])
def xb6:Ob:=fun _=>⟨(.type "type"),none,(.cls (ClassData.mk (s "OnceError") [(.type "ValueError")] [R 24,(.type "ValueError"),(.type "Exception"),(.type "BaseException"),(.type "object")] 23 (s "OnceError") true [] [R 37,R 49,R 61,R 80,R 92] false none false)),#[(some (R 15)),none,(some (S "OnceError" 189)),(some (S "OnceError" 197)),(some (.builtin "ValueError.__new__")),(some (.bool true))]⟩
def xb7:Ob:=fun _=>co "NoCut" "NoCut" 283 15 0 0 0 0 86 false 181 87 .none .none .none .none 286
def xb8:Ob:=fun _=>O .none (.fields #[I 2 0,I 0 0,R 20,I 4 0,I 0 0,R 33,I 6 0,I 0 0,R 45,I 8 0,I 0 0,R 57,I 10 0,I 0 0,R 69,I 15 0,I 0 0,R 88])
def xb9:Ob:=fun _=>⟨(.type "type"),none,(.cls (ClassData.mk (s "NoCut") [R 24] [R 92,R 24,(.type "ValueError"),(.type "Exception"),(.type "BaseException"),(.type "object")] 91 (s "NoCut") true [] [] false none false)),#[(some (R 83)),none,(some (S "NoCut" 281)),(some (S "NoCut" 289)),(some (.builtin "ValueError.__new__")),(some (.bool true))]⟩
def xca:Ob:=fun _=>O (.type "builtin_function_or_method") (.fields #[(.builtin "object.__init_subclass__"),R 92])
def xcb:Ob:=fun P=>O (.type "dict") (.dict #[(E P "__name__" 165 (S "oncewise.pieces" 313)),(E P "__doc__" 166 .none),(E P "__package__" 167 .none),(E P "__loader__" 168 (.builtin "__main__.__loader__#opaque")),(E P "__spec__" 169 .none),(E P "__annotations__" 170 (R 6)),(E P "__builtins__" 171 (R 4)),(E P "__file__" 173 (S "/claim/cut.py" 172)),(E P "__cached__" 174 .none),(E P "OnceError" 206 (R 24)),(E P "NoWord" 222 (R 37)),(E P "BadText" 238 (R 49)),(E P "BadWeb" 254 (R 61)),(E P "NoTree" 280 (R 80)),(E P "NoCut" 296 (R 92)),(E P "TooMany" 312 (R 104))] 16)
def xcc:Ob:=fun P=>O (.type "dict") (.dict #[(E P "__module__" 304 (S "oncewise.errors" 187)),(E P "__firstlineno__" 308 (I 17 307)),(E P "__static_attributes__" 309 (R 102)),(E P "__doc__" 310 .none)] 2)
def xcd:Ob:=fun P=>O (.type "dict") (.dict #[(E P "__module__" 304 (S "oncewise.errors" 187)),(E P "__qualname__" 306 (S "TooMany" 305)),(E P "__firstlineno__" 308 (I 17 307)),(E P "__static_attributes__" 309 (R 102))] 4)
def xce:Ob:=fun _=>O (.type "super") (.fields #[R 104,R 104,R 104])
def xcf:Ob:=fun _=>⟨(.type "frame"),none,.plain,#[(some (R 100)),(some (R 3)),(some (R 97)),none,(some (S "oncewise.errors" 187)),none,(some (R 0))]⟩
def xcg:Ob:=fun _=>⟨(.type "type"),none,(.cls (ClassData.mk (s "OnceError") [(.type "ValueError")] [R 24,(.type "ValueError"),(.type "Exception"),(.type "BaseException"),(.type "object")] 23 (s "OnceError") true [] [R 37,R 49,R 61,R 80,R 92,R 104] false none false)),#[(some (R 15)),none,(some (S "OnceError" 189)),(some (S "OnceError" 197)),(some (.builtin "ValueError.__new__")),(some (.bool true))]⟩
def xch:Ob:=fun _=>⟨(.type "type"),none,(.cls (ClassData.mk (s "TooMany") [R 24] [R 104,R 24,(.type "ValueError"),(.type "Exception"),(.type "BaseException"),(.type "object")] 103 (s "TooMany") true [] [] false none false)),#[(some (R 95)),none,(some (S "TooMany" 297)),(some (S "TooMany" 305)),(some (.builtin "ValueError.__new__")),(some (.bool true))]⟩
def xci:Ob:=fun _=>O .none (.fields #[I 2 0,I 0 0,R 20,I 4 0,I 0 0,R 33,I 6 0,I 0 0,R 45,I 8 0,I 0 0,R 57,I 10 0,I 0 0,R 69,I 15 0,I 0 0,R 88,I 17 0,I 0 0,R 100])
def xcj:Ob:=fun _=>co "TooMany" "TooMany" 299 17 0 0 0 0 98 false 181 99 .none .none .none .none 302
def xck:Ob:=fun _=>O (.type "builtin_function_or_method") (.fields #[(.builtin "object.__init_subclass__"),R 104])
def xcl:Ob:=fun P=>O (.type "dict") (.dict #[(E P "__name__" 165 (S "oncewise.words" 364)),(E P "__doc__" 166 .none),(E P "__package__" 167 .none),(E P "__loader__" 168 (.builtin "__main__.__loader__#opaque")),(E P "__spec__" 169 .none),(E P "__annotations__" 170 (R 6)),(E P "__builtins__" 171 (R 4)),(E P "__file__" 173 (S "/claim/cut.py" 172)),(E P "__cached__" 174 .none),(E P "OnceError" 206 (R 24)),(E P "NoWord" 222 (R 37)),(E P "BadText" 238 (R 49)),(E P "BadWeb" 254 (R 61)),(E P "NoTree" 280 (R 80)),(E P "NoCut" 296 (R 92)),(E P "TooMany" 312 (R 104)),(E P "Pieces" 363 (R 137)),(E P "LEAF_KINDS" 368 (R 142)),(E P "TURNED_KINDS" 381 (R 143))] 19)
def xcm:Ob:=fun _=>fo (FN "head_of" "Pieces.head_of" (al0 9 1) .none .none .none (S "oncewise.pieces" 313) none (R 126) .none)
def xcn:Ob:=fun P=>O (.type "dict") (.dict #[(E P "plain" 369 (S "turned" 370)),(E P "turned" 371 (S "plain" 372)),(E P "both" 373 (S "either" 374)),(E P "either" 375 (S "both" 376))] 4)
def xco:Ob:=fun _=>O .none (.fields #[I 22 0,I 4 0,R 119,I 25 0,I 4 0,R 126,I 32 0,I 4 0,R 133])
def xcp:Ob:=fun _=>tu #[S "heads" 355]
def xcq:Ob:=fun _=>co "__init__" "Pieces.__init__" 327 22 2 0 0 3 114 true 181 115 .none (R 116) (R 117) (R 118) 332
def xcr:Ob:=fun _=>O (.type "getset_descriptor") (.fields #[S "__weakref__" 359,R 137,(.builtin "ExceptionGroup.__weakref__"),.none])
def xcs:Ob:=fun _=>tu #[S "self" 338,S "place" 339,S "here" 340]
def xct:Ob:=fun _=>⟨(.type "frame"),none,.plain,#[(some (R 112)),(some (R 3)),(some (R 109)),none,(some (S "oncewise.pieces" 313)),none,(some (R 0))]⟩
def xcu:Ob:=fun _=>⟨(.type "type"),none,(.cls (ClassData.mk (s "Pieces") [(.type "object")] [R 137,(.type "object")] 136 (s "Pieces") true [] [] false none false)),#[none,none,(some (S "Pieces" 315)),(some (S "Pieces" 323)),(some (.builtin "object.__new__")),(some (.bool true))]⟩
def xcv:Ob:=fun _=>co "unite" "Pieces.unite" 344 32 3 0 0 3 128 true 181 129 .none (R 130) (R 131) (R 132) 352
def xcw:Ob:=fun _=>O (.type "builtin_function_or_method") (.fields #[(.builtin "object.__init_subclass__"),R 137])
def xcx:Ob:=fun P=>O (.type "dict") (.dict #[(E P "__module__" 322 (S "oncewise.pieces" 313)),(E P "__qualname__" 324 (S "Pieces" 323)),(E P "__firstlineno__" 326 (I 20 325)),(E P "__init__" 334 (R 120)),(E P "head_of" 343 (R 127)),(E P "unite" 354 (R 134)),(E P "__static_attributes__" 356 (R 135))] 7)
def xcy:Ob:=fun _=>go (FG "head_of" "Pieces.head_of" (al0 9 1))
def xcz:Ob:=fun _=>co "Pieces" "Pieces" 317 20 0 0 0 0 110 false 181 111 .none .none .none .none 320
def xc0:Ob:=fun P=>O (.type "dict") (.dict #[(E P "__module__" 322 (S "oncewise.pieces" 313)),(E P "__firstlineno__" 326 (I 20 325)),(E P "__init__" 334 (R 120)),(E P "head_of" 343 (R 127)),(E P "unite" 354 (R 134)),(E P "__static_attributes__" 356 (R 135)),(E P "__dict__" 358 (R 138)),(E P "__weakref__" 360 (R 139)),(E P "__doc__" 361 .none)] 4)
def xc1:Ob:=fun _=>fo (FN "__init__" "Pieces.__init__" (al0 9 0) .none .none .none (S "oncewise.pieces" 313) none (R 119) .none)
def xc2:Ob:=fun _=>O .none (.fields #[I 2 0,I 0 0,R 20,I 4 0,I 0 0,R 33,I 6 0,I 0 0,R 45,I 8 0,I 0 0,R 57,I 10 0,I 0 0,R 69,I 15 0,I 0 0,R 88,I 17 0,I 0 0,R 100,I 20 0,I 0 0,R 112])
def xc3:Ob:=fun _=>go (FG "unite" "Pieces.unite" (al0 9 2))
def xc4:Ob:=fun _=>tu #[S "self" 330,S "count" 331]
def xc5:Ob:=fun _=>O (.type "super") (.fields #[R 137,R 137,R 137])
def xc6:Ob:=fun _=>tu #[S "self" 347,S "p" 348,S "q" 349,S "first" 350,S "second" 351]
def xc7:Ob:=fun _=>O (.type "getset_descriptor") (.fields #[S "__dict__" 357,R 137,(.builtin "function.__dict__"),(.builtin "function.__dict__#set")])
def xc8:Ob:=fun _=>fo (FN "unite" "Pieces.unite" (al0 9 2) .none .none .none (S "oncewise.pieces" 313) none (R 133) .none)
def xc9:Ob:=fun _=>go (FG "__init__" "Pieces.__init__" (al0 9 0))
def xda:Ob:=fun _=>tu #[S "plain" 366,S "turned" 367]
def xdb:Ob:=fun _=>co "head_of" "Pieces.head_of" 335 25 2 0 0 3 121 true 181 122 .none (R 123) (R 124) (R 125) 341
def xdc:Ob:=fun P=>O (.type "dict") (.dict #[(E P "__name__" 165 (S "oncewise.shrinking" 455)),(E P "__doc__" 166 .none),(E P "__package__" 167 .none),(E P "__loader__" 168 (.builtin "__main__.__loader__#opaque")),(E P "__spec__" 169 .none),(E P "__annotations__" 170 (R 6)),(E P "__builtins__" 171 (R 4)),(E P "__file__" 173 (S "/claim/cut.py" 172)),(E P "__cached__" 174 .none),(E P "OnceError" 206 (R 24)),(E P "NoWord" 222 (R 37)),(E P "BadText" 238 (R 49)),(E P "BadWeb" 254 (R 61)),(E P "NoTree" 280 (R 80)),(E P "NoCut" 296 (R 92)),(E P "TooMany" 312 (R 104)),(E P "Pieces" 363 (R 137)),(E P "LEAF_KINDS" 368 (R 142)),(E P "TURNED_KINDS" 381 (R 143)),(E P "is_leaf" 388 (R 150)),(E P "turned" 396 (R 157)),(E P "leaves_of" 403 (R 164)),(E P "lay_word" 415 (R 171)),(E P "laid" 425 (R 178)),(E P "places_there" 431 (R 183)),(E P "parts_of" 438 (R 190)),(E P "places_in" 448 (R 197)),(E P "eithers_of" 454 (R 202)),(E P "boths_of" 462 (R 207)),(E P "part_edges" 468 (R 212)),(E P "joins_of" 475 (R 219)),(E P "join_steps" 486 (R 226))] 32)
def xdd:Ob:=fun _=>fo (FN "boths_of" "boths_of" (top 24) .none .none .none (S "oncewise.shrinking" 455) none (R 206) .none)
def xde:Ob:=fun _=>tu #[S "knots" 409,S "word" 410,S "left" 411,S "right" 412]
def xdf:Ob:=fun _=>tu #[S "web" 472]
def xdg:Ob:=fun _=>fo (FN "places_there" "places_there" (top 19) .none .none .none (S "oncewise.webs" 404) none (R 182) .none)
def xdh:Ob:=fun _=>go (FG "places_in" "places_in" (top 21))
def xdi:Ob:=fun _=>co "leaves_of" "leaves_of" 397 47 1 0 0 3 158 true 181 159 .none (R 160) (R 161) (R 162) 401
def xdj:Ob:=fun _=>co "part_edges" "part_edges" 463 83 2 0 0 3 208 true 181 209 .none .none .none (R 210) 466
def xdk:Ob:=fun _=>fo (FN "lay_word" "lay_word" (top 17) .none .none .none (S "oncewise.webs" 404) none (R 170) .none)
def xdl:Ob:=fun _=>go (FG "turned" "turned" (top 14))
def xdm:Ob:=fun _=>fo (FN "joins_of" "joins_of" (top 26) .none .none .none (S "oncewise.shrinking" 455) none (R 218) .none)
def xdn:Ob:=fun _=>tu #[S "pairs" 442,S "places" 443,S "p" 444,S "q" 445]
def xdo:Ob:=fun _=>co "join_steps" "join_steps" 476 90 2 0 0 3 220 true 181 221 .none (R 222) (R 223) (R 224) 484
def xdp:Ob:=fun _=>co "laid" "laid" 416 60 1 0 0 3 172 true 181 173 .none (R 174) (R 175) (R 176) 423
def xdq:Ob:=fun _=>co "eithers_of" "eithers_of" 449 78 1 0 0 3 198 true 181 199 .none .none .none (R 200) 452
def xdr:Ob:=fun _=>go (FG "lay_word" "lay_word" (top 17))
def xds:Ob:=fun _=>tu #[S "word" 392,S "kind" 393]
def xdt:Ob:=fun _=>go (FG "joins_of" "joins_of" (top 26))
def xdu:Ob:=fun _=>fo (FN "places_in" "places_in" (top 21) .none .none .none (S "oncewise.webs" 404) none (R 196) .none)
def xdv:Ob:=fun _=>co "is_leaf" "is_leaf" 382 40 1 0 0 3 144 true 181 145 .none (R 146) (R 147) (R 148) 386
def xdw:Ob:=fun _=>go (FG "places_there" "places_there" (top 19))
def xdx:Ob:=fun _=>go (FG "boths_of" "boths_of" (top 24))
def xdy:Ob:=fun _=>fo (FN "turned" "turned" (top 14) .none .none .none (S "oncewise.words" 364) none (R 156) .none)
def xdz:Ob:=fun _=>co "parts_of" "parts_of" 432 68 1 0 0 3 184 true 181 185 .none (R 186) (R 187) (R 188) 436
def xd0:Ob:=fun _=>tu #[S "word" 400]
def xd1:Ob:=fun _=>go (FG "join_steps" "join_steps" (top 27))
def xd2:Ob:=fun _=>go (FG "laid" "laid" (top 18))
def xd3:Ob:=fun _=>go (FG "eithers_of" "eithers_of" (top 22))
def xd4:Ob:=fun _=>O .none (.fields #[I 2 0,I 0 0,R 20,I 4 0,I 0 0,R 33,I 6 0,I 0 0,R 45,I 8 0,I 0 0,R 57,I 10 0,I 0 0,R 69,I 15 0,I 0 0,R 88,I 17 0,I 0 0,R 100,I 20 0,I 0 0,R 112,I 40 0,I 0 0,R 149,I 42 0,I 0 0,R 156,I 47 0,I 0 0,R 163,I 52 0,I 0 0,R 170,I 60 0,I 0 0,R 177,I 66 0,I 0 0,R 182,I 68 0,I 0 0,R 189,I 72 0,I 0 0,R 196,I 78 0,I 0 0,R 201,I 81 0,I 0 0,R 206,I 83 0,I 0 0,R 211,I 88 0,I 0 0,R 218,I 90 0,I 0 0,R 225])
def xd5:Ob:=fun _=>co "places_in" "places_in" 439 72 1 0 0 3 191 true 181 192 .none (R 193) (R 194) (R 195) 446
def xd6:Ob:=fun _=>fo (FN "leaves_of" "leaves_of" (top 15) .none .none .none (S "oncewise.words" 364) none (R 163) .none)
def xd7:Ob:=fun _=>go (FG "is_leaf" "is_leaf" (top 13))
def xd8:Ob:=fun _=>fo (FN "part_edges" "part_edges" (top 25) .none .none .none (S "oncewise.shrinking" 455) none (R 211) .none)
def xd9:Ob:=fun _=>co "turned" "turned" 389 42 1 0 0 3 151 true 181 152 .none (R 153) (R 154) (R 155) 394
def xea:Ob:=fun _=>go (FG "parts_of" "parts_of" (top 20))
def xeb:Ob:=fun _=>go (FG "leaves_of" "leaves_of" (top 15))
def xec:Ob:=fun _=>fo (FN "join_steps" "join_steps" (top 27) .none .none .none (S "oncewise.shrinking" 455) none (R 225) .none)
def xed:Ob:=fun _=>tu #[S "word" 385]
def xee:Ob:=fun _=>go (FG "part_edges" "part_edges" (top 25))
def xef:Ob:=fun _=>fo (FN "laid" "laid" (top 18) .none .none .none (S "oncewise.webs" 404) none (R 177) .none)
def xeg:Ob:=fun _=>fo (FN "eithers_of" "eithers_of" (top 22) .none .none .none (S "oncewise.webs" 404) none (R 201) .none)
def xeh:Ob:=fun _=>co "lay_word" "lay_word" 406 52 2 0 0 3 165 true 181 166 .none (R 167) (R 168) (R 169) 413
def xei:Ob:=fun _=>co "joins_of" "joins_of" 469 88 1 0 0 3 213 true 181 214 .none (R 215) (R 216) (R 217) 473
def xej:Ob:=fun _=>tu #[S "knot" 435]
def xek:Ob:=fun _=>fo (FN "is_leaf" "is_leaf" (top 13) .none .none .none (S "oncewise.words" 364) none (R 149) .none)
def xel:Ob:=fun _=>co "places_there" "places_there" 426 66 1 0 0 3 179 true 181 180 .none .none .none (R 181) 429
def xem:Ob:=fun _=>co "boths_of" "boths_of" 457 81 1 0 0 3 203 true 181 204 .none .none .none (R 205) 460
def xen:Ob:=fun _=>tu #[S "words" 419,S "knots" 420,S "places" 421,S "word" 422]
def xeo:Ob:=fun _=>tu #[S "pieces" 479,S "joins" 480,S "steps" 481,S "p" 482,S "q" 483]
def xep:Ob:=fun _=>fo (FN "parts_of" "parts_of" (top 20) .none .none .none (S "oncewise.webs" 404) none (R 189) .none)
def xeq:Ob:=fun P=>O (.type "dict") (.dict #[(E P "__name__" 165 (S "oncewise.searching" 547)),(E P "__doc__" 166 .none),(E P "__package__" 167 .none),(E P "__loader__" 168 (.builtin "__main__.__loader__#opaque")),(E P "__spec__" 169 .none),(E P "__annotations__" 170 (R 6)),(E P "__builtins__" 171 (R 4)),(E P "__file__" 173 (S "/claim/cut.py" 172)),(E P "__cached__" 174 .none),(E P "OnceError" 206 (R 24)),(E P "NoWord" 222 (R 37)),(E P "BadText" 238 (R 49)),(E P "BadWeb" 254 (R 61)),(E P "NoTree" 280 (R 80)),(E P "NoCut" 296 (R 92)),(E P "TooMany" 312 (R 104)),(E P "Pieces" 363 (R 137)),(E P "LEAF_KINDS" 368 (R 142)),(E P "TURNED_KINDS" 381 (R 143)),(E P "is_leaf" 388 (R 150)),(E P "turned" 396 (R 157)),(E P "leaves_of" 403 (R 164)),(E P "lay_word" 415 (R 171)),(E P "laid" 425 (R 178)),(E P "places_there" 431 (R 183)),(E P "parts_of" 438 (R 190)),(E P "places_in" 448 (R 197)),(E P "eithers_of" 454 (R 202)),(E P "boths_of" 462 (R 207)),(E P "part_edges" 468 (R 212)),(E P "joins_of" 475 (R 219)),(E P "join_steps" 486 (R 226)),(E P "can_fold" 492 (R 231)),(E P "fold_steps" 504 (R 238)),(E P "steps_by" 514 (R 245)),(E P "all_come_together" 524 (R 252)),(E P "right_web" 531 (R 259)),(E P "first_bad" 546 (R 266)),(E P "leaves_in" 557 (R 273)),(E P "first_uneven" 565 (R 280)),(E P "tries_due" 577 (R 287)),(E P "linked_further" 583 (R 292)),(E P "ways_to_link" 589 (R 297)),(E P "linked_or_tried" 600 (R 304))] 44)
def xer:Ob:=fun _=>tu #[S "web" 528]
def xes:Ob:=fun _=>fo (FN "tries_due" "tries_due" (top 37) .none .none .none (S "oncewise.searching" 547) none (R 286) .none)
def xet:Ob:=fun _=>go (FG "leaves_in" "leaves_in" (top 35))
def xeu:Ob:=fun _=>co "linked_or_tried" "linked_or_tried" 590 167 1 0 0 3 298 true 181 299 .none (R 300) (R 301) (R 302) 598
def xev:Ob:=fun _=>go (FG "ways_to_link" "ways_to_link" (top 39))
def xew:Ob:=fun _=>fo (FN "can_fold" "can_fold" (top 28) .none .none .none (S "oncewise.shrinking" 455) none (R 230) .none)
def xex:Ob:=fun _=>co "first_uneven" "first_uneven" 558 136 1 0 0 3 274 true 181 275 .none (R 276) (R 277) (R 278) 563
def xey:Ob:=fun _=>fo (FN "right_web" "right_web" (top 32) .none .none .none (S "oncewise.shrinking" 455) none (R 258) .none)
def xez:Ob:=fun _=>co "linked_further" "linked_further" 578 152 3 0 0 3 288 true 181 289 .none .none .none (R 290) 581
def xe0:Ob:=fun _=>go (FG "steps_by" "steps_by" (top 30))
def xe1:Ob:=fun _=>tu #[S "words" 569,S "leaves" 570,S "ways" 571,S "counts" 572,S "kind" 573,S "name" 574]
def xe2:Ob:=fun _=>co "all_come_together" "all_come_together" 515 112 3 0 0 3 246 true 181 247 .none (R 248) (R 249) (R 250) 522
def xe3:Ob:=fun _=>go (FG "right_web" "right_web" (top 32))
def xe4:Ob:=fun _=>fo (FN "leaves_in" "leaves_in" (top 35) .none .none .none (S "oncewise.searching" 547) none (R 272) .none)
def xe5:Ob:=fun _=>tu #[S "knots" 508,S "joins" 509,S "eithers" 510,S "pieces" 511]
def xe6:Ob:=fun _=>co "first_bad" "first_bad" 532 117 1 0 0 3 260 true 181 261 .none (R 262) (R 263) (R 264) 544
def xe7:Ob:=fun _=>fo (FN "ways_to_link" "ways_to_link" (top 39) .none .none .none (S "oncewise.searching" 547) none (R 296) .none)
def xe8:Ob:=fun _=>go (FG "can_fold" "can_fold" (top 28))
def xe9:Ob:=fun _=>fo (FN "steps_by" "steps_by" (top 30) .none .none .none (S "oncewise.shrinking" 455) none (R 244) .none)
def xfa:Ob:=fun _=>tu #[S "words" 552,S "leaves" 553,S "word" 554]
def xfb:Ob:=fun _=>co "fold_steps" "fold_steps" 493 99 3 0 0 3 232 true 181 233 .none (R 234) (R 235) (R 236) 502
def xfc:Ob:=fun _=>go (FG "tries_due" "tries_due" (top 37))
def xfd:Ob:=fun _=>co "leaves_in" "leaves_in" 549 131 1 0 0 3 267 true 181 268 .none (R 269) (R 270) (R 271) 555
def xfe:Ob:=fun _=>fo (FN "linked_or_tried" "linked_or_tried" (top 40) .none .none .none (S "oncewise.searching" 547) none (R 303) .none)
def xff:Ob:=fun _=>go (FG "first_bad" "first_bad" (top 33))
def xfg:Ob:=fun _=>co "ways_to_link" "ways_to_link" 584 161 1 0 0 3 293 true 181 294 .none .none .none (R 295) 587
def xfh:Ob:=fun _=>fo (FN "first_uneven" "first_uneven" (top 36) .none .none .none (S "oncewise.searching" 547) none (R 279) .none)
def xfi:Ob:=fun _=>tu #[S "knots" 518,S "joins" 519,S "eithers" 520,S "due" 521]
def xfj:Ob:=fun _=>O .none (.fields #[I 2 0,I 0 0,R 20,I 4 0,I 0 0,R 33,I 6 0,I 0 0,R 45,I 8 0,I 0 0,R 57,I 10 0,I 0 0,R 69,I 15 0,I 0 0,R 88,I 17 0,I 0 0,R 100,I 20 0,I 0 0,R 112,I 40 0,I 0 0,R 149,I 42 0,I 0 0,R 156,I 47 0,I 0 0,R 163,I 52 0,I 0 0,R 170,I 60 0,I 0 0,R 177,I 66 0,I 0 0,R 182,I 68 0,I 0 0,R 189,I 72 0,I 0 0,R 196,I 78 0,I 0 0,R 201,I 81 0,I 0 0,R 206,I 83 0,I 0 0,R 211,I 88 0,I 0 0,R 218,I 90 0,I 0 0,R 225,I 96 0,I 0 0,R 230,I 99 0,I 0 0,R 237,I 109 0,I 0 0,R 244,I 112 0,I 0 0,R 251,I 115 0,I 0 0,R 258,I 117 0,I 0 0,R 265,I 131 0,I 0 0,R 272,I 136 0,I 0 0,R 279,I 141 0,I 0 0,R 286,I 152 0,I 0 0,R 291,I 161 0,I 0 0,R 296,I 167 0,I 0 0,R 303])
def xfk:Ob:=fun _=>fo (FN "linked_further" "linked_further" (top 38) .none .none .none (S "oncewise.searching" 547) none (R 291) .none)
def xfl:Ob:=fun _=>tu #[S "leaves" 561,S "leaf" 562]
def xfm:Ob:=fun _=>co "steps_by" "steps_by" 505 109 3 0 0 3 239 true 181 240 .none (R 241) (R 242) (R 243) 512
def xfn:Ob:=fun _=>tu #[S "knots" 593,S "tried" 594,S "links" 595,S "web" 596,S "choices" 597]
def xfo:Ob:=fun _=>go (FG "fold_steps" "fold_steps" (top 29))
def xfp:Ob:=fun _=>fo (FN "all_come_together" "all_come_together" (top 31) .none .none .none (S "oncewise.shrinking" 455) none (R 251) .none)
def xfq:Ob:=fun _=>co "right_web" "right_web" 525 115 1 0 0 3 253 true 181 254 .none (R 255) (R 256) (R 257) 529
def xfr:Ob:=fun _=>go (FG "linked_further" "linked_further" (top 38))
def xfs:Ob:=fun _=>fo (FN "first_bad" "first_bad" (top 33) .none .none .none (S "oncewise.shrinking" 455) none (R 265) .none)
def xft:Ob:=fun _=>tu #[S "pieces" 496,S "knots" 497,S "eithers" 498,S "steps" 499,S "before" 500,S "place" 501]
def xfu:Ob:=fun _=>go (FG "all_come_together" "all_come_together" (top 31))
def xfv:Ob:=fun _=>tu #[S "web" 535,S "knots" 536,S "joins" 537,S "eithers" 538,S "choices" 539,S "number" 540,S "place" 541,S "left" 542,S "choice" 543]
def xfw:Ob:=fun _=>co "can_fold" "can_fold" 487 96 3 0 0 3 227 true 181 228 .none .none .none (R 229) 490
def xfx:Ob:=fun _=>go (FG "first_uneven" "first_uneven" (top 36))
def xfy:Ob:=fun _=>go (FG "linked_or_tried" "linked_or_tried" (top 40))
def xfz:Ob:=fun _=>fo (FN "fold_steps" "fold_steps" (top 29) .none .none .none (S "oncewise.shrinking" 455) none (R 237) .none)
def xf0:Ob:=fun _=>co "tries_due" "tries_due" 566 141 1 0 0 3 281 true 181 282 .none (R 283) (R 284) (R 285) 575
def xf1:Ob:=fun P=>O (.type "dict") (.dict #[(E P "__name__" 165 (S "law_oncewise_k75_too_many" 608)),(E P "__doc__" 166 .none),(E P "__package__" 167 .none),(E P "__loader__" 168 (.builtin "__main__.__loader__#opaque")),(E P "__spec__" 169 .none),(E P "__annotations__" 170 (R 6)),(E P "__builtins__" 171 (R 4)),(E P "__file__" 173 (S "/claim/cut.py" 172)),(E P "__cached__" 174 .none),(E P "OnceError" 206 (R 24)),(E P "NoWord" 222 (R 37)),(E P "BadText" 238 (R 49)),(E P "BadWeb" 254 (R 61)),(E P "NoTree" 280 (R 80)),(E P "NoCut" 296 (R 92)),(E P "TooMany" 312 (R 104)),(E P "Pieces" 363 (R 137)),(E P "LEAF_KINDS" 368 (R 142)),(E P "TURNED_KINDS" 381 (R 143)),(E P "is_leaf" 388 (R 150)),(E P "turned" 396 (R 157)),(E P "leaves_of" 403 (R 164)),(E P "lay_word" 415 (R 171)),(E P "laid" 425 (R 178)),(E P "places_there" 431 (R 183)),(E P "parts_of" 438 (R 190)),(E P "places_in" 448 (R 197)),(E P "eithers_of" 454 (R 202)),(E P "boths_of" 462 (R 207)),(E P "part_edges" 468 (R 212)),(E P "joins_of" 475 (R 219)),(E P "join_steps" 486 (R 226)),(E P "can_fold" 492 (R 231)),(E P "fold_steps" 504 (R 238)),(E P "steps_by" 514 (R 245)),(E P "all_come_together" 524 (R 252)),(E P "right_web" 531 (R 259)),(E P "first_bad" 546 (R 266)),(E P "leaves_in" 557 (R 273)),(E P "first_uneven" 565 (R 280)),(E P "tries_due" 577 (R 287)),(E P "linked_further" 583 (R 292)),(E P "ways_to_link" 589 (R 297)),(E P "linked_or_tried" 600 (R 304)),(E P "searched" 607 (R 310)),(E P "_law_mix" 618 (R 317)),(E P "_law_letters" 629 (R 324)),(E P "_law_joined" 641 (R 331)),(E P "_law_too_many" 651 (R 338)),(E P "_law_is_web" 658 (R 345)),(E P "law" 664 (R 350))] 51)
def xf2:Ob:=fun _=>tu #[S "_law_leaf" 633,S "_law_many" 634,S "_law_kind" 635,S "_law_total" 636,S "_law_words" 637,S "_law_at" 638]
def xf3:Ob:=fun _=>go (FG "_law_is_web" "_law_is_web" (top 47))
def xf4:Ob:=fun _=>co "_law_letters" "_law_letters" 619 191 1 0 0 3 318 true 181 319 .none (R 320) (R 321) (R 322) 627
def xf5:Ob:=fun _=>fo (FN "_law_joined" "_law_joined" (top 45) .none .none .none (S "law_oncewise_k75_too_many" 608) none (R 330) .none)
def xf6:Ob:=fun _=>go (FG "_law_mix" "_law_mix" (top 43))
def xf7:Ob:=fun _=>co "_law_too_many" "_law_too_many" 642 205 2 0 0 3 332 true 181 333 .none (R 334) (R 335) (R 336) 649
def xf8:Ob:=fun _=>tu #[I 120 601]
def xf9:Ob:=fun _=>go (FG "_law_joined" "_law_joined" (top 45))
def xga:Ob:=fun _=>fo (FN "_law_is_web" "_law_is_web" (top 47) .none .none .none (S "law_oncewise_k75_too_many" 608) none (R 344) .none)
def xgb:Ob:=fun _=>tu #[S "_law_cell" 613,S "_law_k" 614,S "_law_factor" 615]
def xgc:Ob:=fun _=>tu #[S "_law_found" 655]
def xgd:Ob:=fun _=>co "searched" "searched" 602 176 2 0 0 3 306 true 181 307 .none .none .none (R 308) 605
def xge:Ob:=fun _=>co "law" "law" 659 221 1 0 0 3 346 true 181 347 .none .none .none (R 348) 662
def xgf:Ob:=fun _=>fo (FN "_law_mix" "_law_mix" (top 43) .none .none .none (S "law_oncewise_k75_too_many" 608) none (R 316) .none)
def xgg:Ob:=fun _=>tu #[S "_law_number" 622,S "_law_letters_here" 623,S "_law_name" 624,S "_law_rest" 625,S "_law_k" 626]
def xgh:Ob:=fun _=>go (FG "_law_too_many" "_law_too_many" (top 46))
def xgi:Ob:=fun _=>co "_law_is_web" "_law_is_web" 652 219 1 0 0 3 339 true 181 340 .none (R 341) (R 342) (R 343) 656
def xgj:Ob:=fun _=>O .none (.fields #[I 2 0,I 0 0,R 20,I 4 0,I 0 0,R 33,I 6 0,I 0 0,R 45,I 8 0,I 0 0,R 57,I 10 0,I 0 0,R 69,I 15 0,I 0 0,R 88,I 17 0,I 0 0,R 100,I 20 0,I 0 0,R 112,I 40 0,I 0 0,R 149,I 42 0,I 0 0,R 156,I 47 0,I 0 0,R 163,I 52 0,I 0 0,R 170,I 60 0,I 0 0,R 177,I 66 0,I 0 0,R 182,I 68 0,I 0 0,R 189,I 72 0,I 0 0,R 196,I 78 0,I 0 0,R 201,I 81 0,I 0 0,R 206,I 83 0,I 0 0,R 211,I 88 0,I 0 0,R 218,I 90 0,I 0 0,R 225,I 96 0,I 0 0,R 230,I 99 0,I 0 0,R 237,I 109 0,I 0 0,R 244,I 112 0,I 0 0,R 251,I 115 0,I 0 0,R 258,I 117 0,I 0 0,R 265,I 131 0,I 0 0,R 272,I 136 0,I 0 0,R 279,I 141 0,I 0 0,R 286,I 152 0,I 0 0,R 291,I 161 0,I 0 0,R 296,I 167 0,I 0 0,R 303,I 176 0,I 0 0,R 309,I 189 0,I 0 0,R 316,I 191 0,I 0 0,R 323,I 199 0,I 0 0,R 330,I 205 0,I 0 0,R 337,I 219 0,I 0 0,R 344,I 221 0,I 0 0,R 349])
def xgk:Ob:=fun _=>fo (FN "_law_letters" "_law_letters" (top 44) .none .none .none (S "law_oncewise_k75_too_many" 608) none (R 323) .none)
def xgl:Ob:=fun _=>go (FG "searched" "searched" (top 41))
def xgm:Ob:=fun _=>go (FG "law" "law" (top 48))
def xgn:Ob:=fun _=>co "_law_mix" "_law_mix" 610 189 3 0 0 3 311 true 181 312 .none (R 313) (R 314) (R 315) 616
def xgo:Ob:=fun _=>go (FG "_law_letters" "_law_letters" (top 44))
def xgp:Ob:=fun _=>fo (FN "_law_too_many" "_law_too_many" (top 46) .none .none .none (S "law_oncewise_k75_too_many" 608) none (R 337) .none)
def xgq:Ob:=fun _=>co "_law_joined" "_law_joined" 630 199 4 0 0 3 325 true 181 326 .none (R 327) (R 328) (R 329) 639
def xgr:Ob:=fun _=>fo (FN "searched" "searched" (top 41) (R 305) .none .none (S "oncewise.searching" 547) none (R 309) .none)
def xgs:Ob:=fun _=>tu #[S "_law_words" 645,S "_law_limit" 646,S "_law_error" 647,S "caught" 648]
def xgt:Ob:=fun _=>fo (FN "law" "law" (top 48) .none .none .none (S "law_oncewise_k75_too_many" 608) none (R 349) .none)
def a3h:List Ob:=[b0,b1,b2,b3,b4,b5,b6,b7,b8,b9,b10,xaa,xab,xac,xad]
def a4h:List Ob:=[b0,b1,b2,xf1,b4,b5,b6,b7,b8,b9,b10,xaa,xgj,xac,xad,xaf,xal,xai,xaa,xab,xao,xak,xaa,xag,xcg,xaj,xap,xah,xax,xal,xa0,xaa,xab,xas,xay,xaa,xaw,xat,xaz,xar,xax,xal,xa9,xaa,xab,xa4,xba,xaa,xa5,xa3,xa8,xa2,xax,xal,xbj,xaa,xab,xbd,xbi,xaa,xbh,xbe,xbk,xbc,xax,xal,xbx,xaa,xbv,xbq,xbz,xaa,xab,xbp,xaa,xbn,xbw,xbr,xb0,xbm,xbs,xbo,xby,xax,xal,xb4,xaa,xab,xb7,xb3,xaa,xb2,xb9,xb5,xca,xax,xal,xcd,xaa,xab,xcj,xcf,xaa,xcc,xch,xce,xck,xaa,xal,xcx,xaa,xco,xcz,xct,xaa,xab,xc4,xaa,xc9,xcq,xc1,xaa,xab,xcs,xaa,xcy,xdb,xcm,xaa,xab,xc6,xaa,xc3,xcv,xc8,xcp,xc0,xcu,xc7,xcr,xc5,xcw,xda,xcn,xaa,xab,xed,xaa,xd7,xdv,xek,xaa,xab,xds,xaa,xdl,xd9,xdy,xaa,xab,xd0,xaa,xeb,xdi,xd6,xaa,xab,xde,xaa,xdr,xeh,xdk,xaa,xab,xen,xaa,xd2,xdp,xef,xaa,xab,xdw,xel,xdg,xaa,xab,xej,xaa,xea,xdz,xep,xaa,xab,xdn,xaa,xdh,xd5,xdu,xaa,xab,xd3,xdq,xeg,xaa,xab,xdx,xem,xdd,xaa,xab,xee,xdj,xd8,xaa,xab,xdf,xaa,xdt,xei,xdm,xaa,xab,xeo,xaa,xd1,xdo,xec,xaa,xab,xe8,xfw,xew,xaa,xab,xft,xaa,xfo,xfb,xfz,xaa,xab,xe5,xaa,xe0,xfm,xe9,xaa,xab,xfi,xaa,xfu,xe2,xfp,xaa,xab,xer,xaa,xe3,xfq,xey,xaa,xab,xfv,xaa,xff,xe6,xfs,xaa,xab,xfa,xaa,xet,xfd,xe4,xaa,xab,xfl,xaa,xfx,xex,xfh,xaa,xab,xe1,xaa,xfc,xf0,xes,xaa,xab,xfr,xez,xfk,xaa,xab,xev,xfg,xe7,xaa,xab,xfn,xaa,xfy,xeu,xfe,xf8,xaa,xab,xgl,xgd,xgr,xaa,xab,xgb,xaa,xf6,xgn,xgf,xaa,xab,xgg,xaa,xgo,xf4,xgk,xaa,xab,xf2,xaa,xf9,xgq,xf5,xaa,xab,xgs,xaa,xgh,xf7,xgp,xaa,xab,xgc,xaa,xf3,xgi,xga,xaa,xab,xgm,xge,xgt]
def a4s:List Ob:=[b0,b1,b2,b3,b4,b5,b6,b7,b8,b9,b10,xaa,xab,xac,xad]
def a4l:List Ob:=[b0,b1,b2,xae,b4,b5,b6,b7,b8,b9,b10,xaa,xan,xac,xad,xaf,xal,xai,xaa,xab,xao,xak,xaa,xag,xam,xaj,xap,xah]
def a41:List Ob:=[b0,b1,b2,xaq,b4,b5,b6,b7,b8,b9,b10,xaa,xav,xac,xad,xaf,xal,xai,xaa,xab,xao,xak,xaa,xag,xau,xaj,xap,xah,xax,xal,xa0,xaa,xab,xas,xay,xaa,xaw,xat,xaz,xar]
def a44:List Ob:=[b0,b1,b2,xa1,b4,b5,b6,b7,b8,b9,b10,xaa,xa7,xac,xad,xaf,xal,xai,xaa,xab,xao,xak,xaa,xag,xa6,xaj,xap,xah,xax,xal,xa0,xaa,xab,xas,xay,xaa,xaw,xat,xaz,xar,xax,xal,xa9,xaa,xab,xa4,xba,xaa,xa5,xa3,xa8,xa2]
def a3u:List Ob:=[b0,b1,b2,xbb,b4,b5,b6,b7,b8,b9,b10,xaa,xbg,xac,xad,xaf,xal,xai,xaa,xab,xao,xak,xaa,xag,xbf,xaj,xap,xah,xax,xal,xa0,xaa,xab,xas,xay,xaa,xaw,xat,xaz,xar,xax,xal,xa9,xaa,xab,xa4,xba,xaa,xa5,xa3,xa8,xa2,xax,xal,xbj,xaa,xab,xbd,xbi,xaa,xbh,xbe,xbk,xbc]
def a3p:List Ob:=[b0,b1,b2,xbl,b4,b5,b6,b7,b8,b9,b10,xaa,xbu,xac,xad,xaf,xal,xai,xaa,xab,xao,xak,xaa,xag,xbt,xaj,xap,xah,xax,xal,xa0,xaa,xab,xas,xay,xaa,xaw,xat,xaz,xar,xax,xal,xa9,xaa,xab,xa4,xba,xaa,xa5,xa3,xa8,xa2,xax,xal,xbj,xaa,xab,xbd,xbi,xaa,xbh,xbe,xbk,xbc,xax,xal,xbx,xaa,xbv,xbq,xbz,xaa,xab,xbp,xaa,xbn,xbw,xbr,xb0,xbm,xbs,xbo,xby]
def a4c:List Ob:=[b0,b1,b2,xb1,b4,b5,b6,b7,b8,b9,b10,xaa,xb8,xac,xad,xaf,xal,xai,xaa,xab,xao,xak,xaa,xag,xb6,xaj,xap,xah,xax,xal,xa0,xaa,xab,xas,xay,xaa,xaw,xat,xaz,xar,xax,xal,xa9,xaa,xab,xa4,xba,xaa,xa5,xa3,xa8,xa2,xax,xal,xbj,xaa,xab,xbd,xbi,xaa,xbh,xbe,xbk,xbc,xax,xal,xbx,xaa,xbv,xbq,xbz,xaa,xab,xbp,xaa,xbn,xbw,xbr,xb0,xbm,xbs,xbo,xby,xax,xal,xb4,xaa,xab,xb7,xb3,xaa,xb2,xb9,xb5,xca]
def a3j:List Ob:=[b0,b1,b2,xcb,b4,b5,b6,b7,b8,b9,b10,xaa,xci,xac,xad,xaf,xal,xai,xaa,xab,xao,xak,xaa,xag,xcg,xaj,xap,xah,xax,xal,xa0,xaa,xab,xas,xay,xaa,xaw,xat,xaz,xar,xax,xal,xa9,xaa,xab,xa4,xba,xaa,xa5,xa3,xa8,xa2,xax,xal,xbj,xaa,xab,xbd,xbi,xaa,xbh,xbe,xbk,xbc,xax,xal,xbx,xaa,xbv,xbq,xbz,xaa,xab,xbp,xaa,xbn,xbw,xbr,xb0,xbm,xbs,xbo,xby,xax,xal,xb4,xaa,xab,xb7,xb3,xaa,xb2,xb9,xb5,xca,xax,xal,xcd,xaa,xab,xcj,xcf,xaa,xcc,xch,xce,xck]
def a4o:List Ob:=[b0,b1,b2,xcl,b4,b5,b6,b7,b8,b9,b10,xaa,xc2,xac,xad,xaf,xal,xai,xaa,xab,xao,xak,xaa,xag,xcg,xaj,xap,xah,xax,xal,xa0,xaa,xab,xas,xay,xaa,xaw,xat,xaz,xar,xax,xal,xa9,xaa,xab,xa4,xba,xaa,xa5,xa3,xa8,xa2,xax,xal,xbj,xaa,xab,xbd,xbi,xaa,xbh,xbe,xbk,xbc,xax,xal,xbx,xaa,xbv,xbq,xbz,xaa,xab,xbp,xaa,xbn,xbw,xbr,xb0,xbm,xbs,xbo,xby,xax,xal,xb4,xaa,xab,xb7,xb3,xaa,xb2,xb9,xb5,xca,xax,xal,xcd,xaa,xab,xcj,xcf,xaa,xcc,xch,xce,xck,xaa,xal,xcx,xaa,xco,xcz,xct,xaa,xab,xc4,xaa,xc9,xcq,xc1,xaa,xab,xcs,xaa,xcy,xdb,xcm,xaa,xab,xc6,xaa,xc3,xcv,xc8,xcp,xc0,xcu,xc7,xcr,xc5,xcw,xda,xcn]
def a4n:List Ob:=[b0,b1,b2,xdc,b4,b5,b6,b7,b8,b9,b10,xaa,xd4,xac,xad,xaf,xal,xai,xaa,xab,xao,xak,xaa,xag,xcg,xaj,xap,xah,xax,xal,xa0,xaa,xab,xas,xay,xaa,xaw,xat,xaz,xar,xax,xal,xa9,xaa,xab,xa4,xba,xaa,xa5,xa3,xa8,xa2,xax,xal,xbj,xaa,xab,xbd,xbi,xaa,xbh,xbe,xbk,xbc,xax,xal,xbx,xaa,xbv,xbq,xbz,xaa,xab,xbp,xaa,xbn,xbw,xbr,xb0,xbm,xbs,xbo,xby,xax,xal,xb4,xaa,xab,xb7,xb3,xaa,xb2,xb9,xb5,xca,xax,xal,xcd,xaa,xab,xcj,xcf,xaa,xcc,xch,xce,xck,xaa,xal,xcx,xaa,xco,xcz,xct,xaa,xab,xc4,xaa,xc9,xcq,xc1,xaa,xab,xcs,xaa,xcy,xdb,xcm,xaa,xab,xc6,xaa,xc3,xcv,xc8,xcp,xc0,xcu,xc7,xcr,xc5,xcw,xda,xcn,xaa,xab,xed,xaa,xd7,xdv,xek,xaa,xab,xds,xaa,xdl,xd9,xdy,xaa,xab,xd0,xaa,xeb,xdi,xd6,xaa,xab,xde,xaa,xdr,xeh,xdk,xaa,xab,xen,xaa,xd2,xdp,xef,xaa,xab,xdw,xel,xdg,xaa,xab,xej,xaa,xea,xdz,xep,xaa,xab,xdn,xaa,xdh,xd5,xdu,xaa,xab,xd3,xdq,xeg,xaa,xab,xdx,xem,xdd,xaa,xab,xee,xdj,xd8,xaa,xab,xdf,xaa,xdt,xei,xdm,xaa,xab,xeo,xaa,xd1,xdo,xec]
def a1s:List Ob:=[b0,b1,b2,xeq,b4,b5,b6,b7,b8,b9,b10,xaa,xfj,xac,xad,xaf,xal,xai,xaa,xab,xao,xak,xaa,xag,xcg,xaj,xap,xah,xax,xal,xa0,xaa,xab,xas,xay,xaa,xaw,xat,xaz,xar,xax,xal,xa9,xaa,xab,xa4,xba,xaa,xa5,xa3,xa8,xa2,xax,xal,xbj,xaa,xab,xbd,xbi,xaa,xbh,xbe,xbk,xbc,xax,xal,xbx,xaa,xbv,xbq,xbz,xaa,xab,xbp,xaa,xbn,xbw,xbr,xb0,xbm,xbs,xbo,xby,xax,xal,xb4,xaa,xab,xb7,xb3,xaa,xb2,xb9,xb5,xca,xax,xal,xcd,xaa,xab,xcj,xcf,xaa,xcc,xch,xce,xck,xaa,xal,xcx,xaa,xco,xcz,xct,xaa,xab,xc4,xaa,xc9,xcq,xc1,xaa,xab,xcs,xaa,xcy,xdb,xcm,xaa,xab,xc6,xaa,xc3,xcv,xc8,xcp,xc0,xcu,xc7,xcr,xc5,xcw,xda,xcn,xaa,xab,xed,xaa,xd7,xdv,xek,xaa,xab,xds,xaa,xdl,xd9,xdy,xaa,xab,xd0,xaa,xeb,xdi,xd6,xaa,xab,xde,xaa,xdr,xeh,xdk,xaa,xab,xen,xaa,xd2,xdp,xef,xaa,xab,xdw,xel,xdg,xaa,xab,xej,xaa,xea,xdz,xep,xaa,xab,xdn,xaa,xdh,xd5,xdu,xaa,xab,xd3,xdq,xeg,xaa,xab,xdx,xem,xdd,xaa,xab,xee,xdj,xd8,xaa,xab,xdf,xaa,xdt,xei,xdm,xaa,xab,xeo,xaa,xd1,xdo,xec,xaa,xab,xe8,xfw,xew,xaa,xab,xft,xaa,xfo,xfb,xfz,xaa,xab,xe5,xaa,xe0,xfm,xe9,xaa,xab,xfi,xaa,xfu,xe2,xfp,xaa,xab,xer,xaa,xe3,xfq,xey,xaa,xab,xfv,xaa,xff,xe6,xfs,xaa,xab,xfa,xaa,xet,xfd,xe4,xaa,xab,xfl,xaa,xfx,xex,xfh,xaa,xab,xe1,xaa,xfc,xf0,xes,xaa,xab,xfr,xez,xfk,xaa,xab,xev,xfg,xe7,xaa,xab,xfn,xaa,xfy,xeu,xfe]
def a1z:List Ob:=[b0,b1,b2,xf1,b4,b5,b6,b7,b8,b9,b10,xaa,xgj,xac,xad,xaf,xal,xai,xaa,xab,xao,xak,xaa,xag,xcg,xaj,xap,xah,xax,xal,xa0,xaa,xab,xas,xay,xaa,xaw,xat,xaz,xar,xax,xal,xa9,xaa,xab,xa4,xba,xaa,xa5,xa3,xa8,xa2,xax,xal,xbj,xaa,xab,xbd,xbi,xaa,xbh,xbe,xbk,xbc,xax,xal,xbx,xaa,xbv,xbq,xbz,xaa,xab,xbp,xaa,xbn,xbw,xbr,xb0,xbm,xbs,xbo,xby,xax,xal,xb4,xaa,xab,xb7,xb3,xaa,xb2,xb9,xb5,xca,xax,xal,xcd,xaa,xab,xcj,xcf,xaa,xcc,xch,xce,xck,xaa,xal,xcx,xaa,xco,xcz,xct,xaa,xab,xc4,xaa,xc9,xcq,xc1,xaa,xab,xcs,xaa,xcy,xdb,xcm,xaa,xab,xc6,xaa,xc3,xcv,xc8,xcp,xc0,xcu,xc7,xcr,xc5,xcw,xda,xcn,xaa,xab,xed,xaa,xd7,xdv,xek,xaa,xab,xds,xaa,xdl,xd9,xdy,xaa,xab,xd0,xaa,xeb,xdi,xd6,xaa,xab,xde,xaa,xdr,xeh,xdk,xaa,xab,xen,xaa,xd2,xdp,xef,xaa,xab,xdw,xel,xdg,xaa,xab,xej,xaa,xea,xdz,xep,xaa,xab,xdn,xaa,xdh,xd5,xdu,xaa,xab,xd3,xdq,xeg,xaa,xab,xdx,xem,xdd,xaa,xab,xee,xdj,xd8,xaa,xab,xdf,xaa,xdt,xei,xdm,xaa,xab,xeo,xaa,xd1,xdo,xec,xaa,xab,xe8,xfw,xew,xaa,xab,xft,xaa,xfo,xfb,xfz,xaa,xab,xe5,xaa,xe0,xfm,xe9,xaa,xab,xfi,xaa,xfu,xe2,xfp,xaa,xab,xer,xaa,xe3,xfq,xey,xaa,xab,xfv,xaa,xff,xe6,xfs,xaa,xab,xfa,xaa,xet,xfd,xe4,xaa,xab,xfl,xaa,xfx,xex,xfh,xaa,xab,xe1,xaa,xfc,xf0,xes,xaa,xab,xfr,xez,xfk,xaa,xab,xev,xfg,xe7,xaa,xab,xfn,xaa,xfy,xeu,xfe,xf8,xaa,xab,xgl,xgd,xgr,xaa,xab,xgb,xaa,xf6,xgn,xgf,xaa,xab,xgg,xaa,xgo,xf4,xgk,xaa,xab,xf2,xaa,xf9,xgq,xf5,xaa,xab,xgs,xaa,xgh,xf7,xgp,xaa,xab,xgc,xaa,xf3,xgi,xga,xaa,xab,xgm,xge,xgt]
def hpA (P:Params):Heap:=⟨⟨a3h.map (· P)⟩,{}⟩
def hpZ (P:Params):Heap:=⟨⟨a4h.map (· P)⟩,{}⟩
def tr0 (P:Params):BT:=bt 20 (a4s.map (· P))
def tr1 (P:Params):BT:=bt 20 (a4l.map (· P))
def tr2 (P:Params):BT:=bt 20 (a41.map (· P))
def tr3 (P:Params):BT:=bt 20 (a44.map (· P))
def tr4 (P:Params):BT:=bt 20 (a3u.map (· P))
def tr5 (P:Params):BT:=bt 20 (a3p.map (· P))
def tr6 (P:Params):BT:=bt 20 (a4c.map (· P))
def tr7 (P:Params):BT:=bt 20 (a3j.map (· P))
def tr8 (P:Params):BT:=bt 20 (a4o.map (· P))
def tr9 (P:Params):BT:=bt 20 (a4n.map (· P))
def a3q (P:Params):BT:=bt 20 (a1s.map (· P))
def a4a (P:Params):BT:=bt 20 (a1z.map (· P))
def sA (w:World) (os:OsState):Shared:=⟨hpA w.params,#[],{},187,os⟩
def sZ (w:World) (os:OsState):Shared:=⟨hpZ w.params,#[],{},665,os⟩
def st0 (w:World) (os:OsState):SharedT:=⟨tr0 w.params,15,{},#[],{},187,os⟩
def st1 (w:World) (os:OsState):SharedT:=⟨tr1 w.params,28,{},#[],{},207,os⟩
def st2 (w:World) (os:OsState):SharedT:=⟨tr2 w.params,40,{},#[],{},223,os⟩
def st3 (w:World) (os:OsState):SharedT:=⟨tr3 w.params,52,{},#[],{},239,os⟩
def st4 (w:World) (os:OsState):SharedT:=⟨tr4 w.params,64,{},#[],{},255,os⟩
def st5 (w:World) (os:OsState):SharedT:=⟨tr5 w.params,83,{},#[],{},281,os⟩
def st6 (w:World) (os:OsState):SharedT:=⟨tr6 w.params,95,{},#[],{},297,os⟩
def st7 (w:World) (os:OsState):SharedT:=⟨tr7 w.params,107,{},#[],{},315,os⟩
def st8 (w:World) (os:OsState):SharedT:=⟨tr8 w.params,144,{},#[],{},382,os⟩
def st9 (w:World) (os:OsState):SharedT:=⟨tr9 w.params,227,{},#[],{},487,os⟩
def a1p (w:World) (os:OsState):SharedT:=⟨a3q w.params,305,{},#[],{},601,os⟩
def a21 (w:World) (os:OsState):SharedT:=⟨a4a w.params,351,{},#[],{},665,os⟩
def azn:List Stmt:=((behindTheImports p).drop 0).take 2
def auz:List Stmt:=((behindTheImports p).drop 2).take 1
def arl:List Stmt:=((behindTheImports p).drop 3).take 1
def aqe:List Stmt:=((behindTheImports p).drop 4).take 1
def an1:List Stmt:=((behindTheImports p).drop 5).take 1
def alf:List Stmt:=((behindTheImports p).drop 6).take 1
def ajr:List Stmt:=((behindTheImports p).drop 7).take 2
def aft:List Stmt:=((behindTheImports p).drop 9).take 4
def ahp:List Stmt:=((behindTheImports p).drop 13).take 15
def ab3:List Stmt:=((behindTheImports p).drop 28).take 13
def aab:List Stmt:=((behindTheImports p).drop 41).take 8
theorem a3o (w:World):(fun os=>topGo treeTable p w 11 an 12 ⟨boot_heap w.params,#[],boot_drawn,boot_toks,os⟩ (topStub p))=fun os=>some (sA w os,⟨denote treeTable cE,cE,⟨0,0,0,0⟩,[topFrame q0]⟩):=by kernel_rfl
theorem a4w (w:World):(fun os=>segRun treeTable p w 11 an 1 1 (sA w os) (blockOf (behindTheImports p) env0 cE ⟨0,0,0,0⟩ [topFrame q0]))=fun os=>some (.next,(st0 w os).abs,cE,⟨0,0,0,0⟩):=by kernel_rfl
theorem pc1:∀ w,Pc 196 st0 st1 azn ⟨0,0,0,0⟩ ⟨2,0,3,8⟩ w:=fun w=>by kernel_rfl
theorem pc2:∀ w,Pc 214 st1 st2 auz ⟨2,0,3,8⟩ ⟨4,0,5,8⟩ w:=fun w=>by kernel_rfl
theorem pc3:∀ w,Pc 214 st2 st3 arl ⟨4,0,5,8⟩ ⟨6,0,7,8⟩ w:=fun w=>by kernel_rfl
theorem pc4:∀ w,Pc 214 st3 st4 aqe ⟨6,0,7,8⟩ ⟨8,0,9,8⟩ w:=fun w=>by kernel_rfl
theorem pc5:∀ w,Pc 247 st4 st5 an1 ⟨8,0,9,8⟩ ⟨10,0,14,36⟩ w:=fun w=>by kernel_rfl
theorem pc6:∀ w,Pc 214 st5 st6 alf ⟨10,0,14,36⟩ ⟨15,0,16,8⟩ w:=fun w=>by kernel_rfl
theorem pc7:∀ w,Pc 223 st6 st7 ajr ⟨15,0,16,8⟩ ⟨19,0,19,8⟩ w:=fun w=>by kernel_rfl
theorem a3d (w:World):Pc 382 st7 st8 aft ⟨19,0,19,8⟩ ⟨39,0,39,12⟩ (w.withFollow "special-get-raises" false):=by kernel_rfl
theorem a3k (w:World):Pc 382 st7 st8 aft ⟨19,0,19,8⟩ ⟨39,0,39,12⟩ (w.withFollow "special-get-raises" true):=by kernel_rfl
theorem pc8:∀ w,Pc 382 st7 st8 aft ⟨19,0,19,8⟩ ⟨39,0,39,12⟩ w:=byRow2 "special-get-raises" a3d a3k
theorem pc9:∀ w,Pc 398 st8 st9 ahp ⟨39,0,39,12⟩ ⟨90,0,95,16⟩ w:=fun w=>by kernel_rfl
theorem a4y:∀ w,Pc 380 st9 a1p ab3 ⟨90,0,95,16⟩ ⟨167,0,175,27⟩ w:=fun w=>by kernel_rfl
theorem a3f:∀ w,Pc 223 a1p a21 aab ⟨167,0,175,27⟩ ⟨221,0,237,59⟩ w:=fun w=>by kernel_rfl
theorem a3m (w:World):(fun os=>topRun treeTable p w 11 an 2 (a21 w os).abs ⟨doneF .next,cE,⟨221,0,237,59⟩,[topFrame q0]⟩)=fun os=>some (sZ w os):=by kernel_rfl
theorem a2y:azn++(auz++(arl++(aqe++(an1++(alf++(ajr++(aft++(ahp++(ab3++(aab++([])))))))))))=behindTheImports p:=by kernel_rfl
theorem a3t (w:World) (os:OsState):topRun treeTable p w 11 an (12+(1+(196+(214+(214+(214+(247+(214+(223+(382+(398+(380+(223+(2)))))))))))))) ⟨boot_heap w.params,#[],boot_drawn,boot_toks,os⟩ (topStub p)=some (sZ w os):=by
  have h:=(piece_app (l:=azn) (rest:=auz++(arl++(aqe++(an1++(alf++(ajr++(aft++(ahp++(ab3++(aab++([]))))))))))) (segRun_of (congrFun (pc1 w) os)) (piece_app (l:=auz) (rest:=arl++(aqe++(an1++(alf++(ajr++(aft++(ahp++(ab3++(aab++([])))))))))) (segRun_of (congrFun (pc2 w) os)) (piece_app (l:=arl) (rest:=aqe++(an1++(alf++(ajr++(aft++(ahp++(ab3++(aab++([]))))))))) (segRun_of (congrFun (pc3 w) os)) (piece_app (l:=aqe) (rest:=an1++(alf++(ajr++(aft++(ahp++(ab3++(aab++([])))))))) (segRun_of (congrFun (pc4 w) os)) (piece_app (l:=an1) (rest:=alf++(ajr++(aft++(ahp++(ab3++(aab++([]))))))) (segRun_of (congrFun (pc5 w) os)) (piece_app (l:=alf) (rest:=ajr++(aft++(ahp++(ab3++(aab++([])))))) (segRun_of (congrFun (pc6 w) os)) (piece_app (l:=ajr) (rest:=aft++(ahp++(ab3++(aab++([]))))) (segRun_of (congrFun (pc7 w) os)) (piece_app (l:=aft) (rest:=ahp++(ab3++(aab++([])))) (segRun_of (congrFun (pc8 w) os)) (piece_app (l:=ahp) (rest:=ab3++(aab++([]))) (segRun_of (congrFun (pc9 w) os)) (piece_app (l:=ab3) (rest:=aab++([])) (segRun_of (congrFun (a4y w) os)) (piece_app (l:=aab) (rest:=[]) (segRun_of (congrFun (a3f w) os)) (piece_nil (env:=env0) (congrFun (a3m w) os)))))))))))))
  rw [a2y] at h
  exact go_top (congrFun (a3o w) os) (piece_block (congrFun (a4w w) os) h)
def as0:List Nat:=[0,1,2,3,4,5,6,7,8,9,10,11,12,13,14,15,22,23,24,25,28,35,36,37,40,47,48,49,52,59,60,61,64,71,72,73,74,75,76,77,78,79,80,83,90,91,92,95,102,103,104,114,115,116,117,118,119,120,121,122,123,124,125,126,127,128,129,130,131,132,133,134,135,136,137,138,139,142,143,144,145,146,147,148,149,150,151,152,153,154,155,156,157,158,159,160,161,162,163,164,165,166,167,168,169,170,171,172,173,174,175,176,177,178,179,180,181,182,183,184,185,186,187,188,189,190,191,192,193,194,195,196,197,198,199,200,201,202,203,204,205,206,207,208,209,210,211,212,213,214,215,216,217,218,219,220,221,222,223,224,225,226,227,228,229,230,231,232,233,234,235,236,237,238,239,240,241,242,243,244,245,246,247,248,249,250,251,252,253,254,255,256,257,258,259,260,261,262,263,264,265,266,267,268,269,270,271,272,273,274,275,276,277,278,279,280,281,282,283,284,285,286,287,288,289,290,291,292,293,294,295,296,297,298,299,300,301,302,303,304,305,306,307,308,309,310,311,312,313,314,315,316,317,318,319,320,321,322,323,324,325,326,327,328,329,330,331,332,333,334,335,336,337,338,339,340,341,342,343,344,345,346,347,348,349,350]
def vw:Program:={ p with main:={ p.main with body:=[top 1,top 2,top 3,top 4,top 5,top 6,top 7,top 9,top 11,top 12,top 13,top 14,top 15,top 17,top 18,top 19,top 20,top 21,top 22,top 24,top 25,top 26,top 27,top 28,top 29,top 30,top 31,top 32,top 33,top 35,top 36,top 37,top 38,top 39,top 40,top 43,top 44,top 45,top 46,top 47,top 48] } }
def K0:Params→Frag:=fun P=>(nat_lit 0,b0 P)::(nat_lit 1,b1 P)::(nat_lit 2,b2 P)::(nat_lit 3,xf1 P)::(nat_lit 4,b4 P)::(nat_lit 5,b5 P)::(nat_lit 6,b6 P)::(nat_lit 7,b7 P)::(nat_lit 8,b8 P)::(nat_lit 9,b9 P)::(nat_lit 10,b10 P)::(nat_lit 11,xaa P)::(nat_lit 12,xgj P)::(nat_lit 13,xac P)::(nat_lit 14,xad P)::(nat_lit 15,xaf P)::(nat_lit 22,xaa P)::(nat_lit 23,xag P)::(nat_lit 24,xcg P)::(nat_lit 25,xaj P)::(nat_lit 28,xax P)::(nat_lit 35,xaa P)::(nat_lit 36,xaw P)::(nat_lit 37,xat P)::(nat_lit 40,xax P)::(nat_lit 47,xaa P)::(nat_lit 48,xa5 P)::(nat_lit 49,xa3 P)::(nat_lit 52,xax P)::(nat_lit 59,xaa P)::(nat_lit 60,xbh P)::(nat_lit 61,xbe P)::(nat_lit 64,xax P)::(nat_lit 71,xaa P)::(nat_lit 72,xab P)::(nat_lit 73,xbp P)::(nat_lit 74,xaa P)::(nat_lit 75,xbn P)::(nat_lit 76,xbw P)::(nat_lit 77,xbr P)::(nat_lit 78,xb0 P)::(nat_lit 79,xbm P)::(nat_lit 80,xbs P)::(nat_lit 83,xax P)::(nat_lit 90,xaa P)::(nat_lit 91,xb2 P)::(nat_lit 92,xb9 P)::(nat_lit 95,xax P)::(nat_lit 102,xaa P)::(nat_lit 103,xcc P)::(nat_lit 104,xch P)::(nat_lit 114,xaa P)::(nat_lit 115,xab P)::(nat_lit 116,xc4 P)::(nat_lit 117,xaa P)::(nat_lit 118,xc9 P)::(nat_lit 119,xcq P)::(nat_lit 120,xc1 P)::(nat_lit 121,xaa P)::(nat_lit 122,xab P)::(nat_lit 123,xcs P)::(nat_lit 124,xaa P)::(nat_lit 125,xcy P)::(nat_lit 126,xdb P)::(nat_lit 127,xcm P)::(nat_lit 128,xaa P)::(nat_lit 129,xab P)::(nat_lit 130,xc6 P)::(nat_lit 131,xaa P)::(nat_lit 132,xc3 P)::(nat_lit 133,xcv P)::(nat_lit 134,xc8 P)::(nat_lit 135,xcp P)::(nat_lit 136,xc0 P)::(nat_lit 137,xcu P)::(nat_lit 138,xc7 P)::(nat_lit 139,xcr P)::(nat_lit 142,xda P)::(nat_lit 143,xcn P)::(nat_lit 144,xaa P)::(nat_lit 145,xab P)::(nat_lit 146,xed P)::(nat_lit 147,xaa P)::(nat_lit 148,xd7 P)::(nat_lit 149,xdv P)::(nat_lit 150,xek P)::(nat_lit 151,xaa P)::(nat_lit 152,xab P)::(nat_lit 153,xds P)::(nat_lit 154,xaa P)::(nat_lit 155,xdl P)::(nat_lit 156,xd9 P)::(nat_lit 157,xdy P)::(nat_lit 158,xaa P)::(nat_lit 159,xab P)::(nat_lit 160,xd0 P)::(nat_lit 161,xaa P)::(nat_lit 162,xeb P)::(nat_lit 163,xdi P)::(nat_lit 164,xd6 P)::(nat_lit 165,xaa P)::(nat_lit 166,xab P)::(nat_lit 167,xde P)::(nat_lit 168,xaa P)::(nat_lit 169,xdr P)::(nat_lit 170,xeh P)::(nat_lit 171,xdk P)::(nat_lit 172,xaa P)::(nat_lit 173,xab P)::(nat_lit 174,xen P)::(nat_lit 175,xaa P)::(nat_lit 176,xd2 P)::(nat_lit 177,xdp P)::(nat_lit 178,xef P)::(nat_lit 179,xaa P)::(nat_lit 180,xab P)::(nat_lit 181,xdw P)::(nat_lit 182,xel P)::(nat_lit 183,xdg P)::(nat_lit 184,xaa P)::(nat_lit 185,xab P)::(nat_lit 186,xej P)::(nat_lit 187,xaa P)::(nat_lit 188,xea P)::(nat_lit 189,xdz P)::(nat_lit 190,xep P)::(nat_lit 191,xaa P)::(nat_lit 192,xab P)::(nat_lit 193,xdn P)::(nat_lit 194,xaa P)::(nat_lit 195,xdh P)::(nat_lit 196,xd5 P)::(nat_lit 197,xdu P)::(nat_lit 198,xaa P)::(nat_lit 199,xab P)::(nat_lit 200,xd3 P)::(nat_lit 201,xdq P)::(nat_lit 202,xeg P)::(nat_lit 203,xaa P)::(nat_lit 204,xab P)::(nat_lit 205,xdx P)::(nat_lit 206,xem P)::(nat_lit 207,xdd P)::(nat_lit 208,xaa P)::(nat_lit 209,xab P)::(nat_lit 210,xee P)::(nat_lit 211,xdj P)::(nat_lit 212,xd8 P)::(nat_lit 213,xaa P)::(nat_lit 214,xab P)::(nat_lit 215,xdf P)::(nat_lit 216,xaa P)::(nat_lit 217,xdt P)::(nat_lit 218,xei P)::(nat_lit 219,xdm P)::(nat_lit 220,xaa P)::(nat_lit 221,xab P)::(nat_lit 222,xeo P)::(nat_lit 223,xaa P)::(nat_lit 224,xd1 P)::(nat_lit 225,xdo P)::(nat_lit 226,xec P)::(nat_lit 227,xaa P)::(nat_lit 228,xab P)::(nat_lit 229,xe8 P)::(nat_lit 230,xfw P)::(nat_lit 231,xew P)::(nat_lit 232,xaa P)::(nat_lit 233,xab P)::(nat_lit 234,xft P)::(nat_lit 235,xaa P)::(nat_lit 236,xfo P)::(nat_lit 237,xfb P)::(nat_lit 238,xfz P)::(nat_lit 239,xaa P)::(nat_lit 240,xab P)::(nat_lit 241,xe5 P)::(nat_lit 242,xaa P)::(nat_lit 243,xe0 P)::(nat_lit 244,xfm P)::(nat_lit 245,xe9 P)::(nat_lit 246,xaa P)::(nat_lit 247,xab P)::(nat_lit 248,xfi P)::(nat_lit 249,xaa P)::(nat_lit 250,xfu P)::(nat_lit 251,xe2 P)::(nat_lit 252,xfp P)::(nat_lit 253,xaa P)::(nat_lit 254,xab P)::(nat_lit 255,xer P)::(nat_lit 256,xaa P)::(nat_lit 257,xe3 P)::(nat_lit 258,xfq P)::(nat_lit 259,xey P)::(nat_lit 260,xaa P)::(nat_lit 261,xab P)::(nat_lit 262,xfv P)::(nat_lit 263,xaa P)::(nat_lit 264,xff P)::(nat_lit 265,xe6 P)::(nat_lit 266,xfs P)::(nat_lit 267,xaa P)::(nat_lit 268,xab P)::(nat_lit 269,xfa P)::(nat_lit 270,xaa P)::(nat_lit 271,xet P)::(nat_lit 272,xfd P)::(nat_lit 273,xe4 P)::(nat_lit 274,xaa P)::(nat_lit 275,xab P)::(nat_lit 276,xfl P)::(nat_lit 277,xaa P)::(nat_lit 278,xfx P)::(nat_lit 279,xex P)::(nat_lit 280,xfh P)::(nat_lit 281,xaa P)::(nat_lit 282,xab P)::(nat_lit 283,xe1 P)::(nat_lit 284,xaa P)::(nat_lit 285,xfc P)::(nat_lit 286,xf0 P)::(nat_lit 287,xes P)::(nat_lit 288,xaa P)::(nat_lit 289,xab P)::(nat_lit 290,xfr P)::(nat_lit 291,xez P)::(nat_lit 292,xfk P)::(nat_lit 293,xaa P)::(nat_lit 294,xab P)::(nat_lit 295,xev P)::(nat_lit 296,xfg P)::(nat_lit 297,xe7 P)::(nat_lit 298,xaa P)::(nat_lit 299,xab P)::(nat_lit 300,xfn P)::(nat_lit 301,xaa P)::(nat_lit 302,xfy P)::(nat_lit 303,xeu P)::(nat_lit 304,xfe P)::(nat_lit 305,xf8 P)::(nat_lit 306,xaa P)::(nat_lit 307,xab P)::(nat_lit 308,xgl P)::(nat_lit 309,xgd P)::(nat_lit 310,xgr P)::(nat_lit 311,xaa P)::(nat_lit 312,xab P)::(nat_lit 313,xgb P)::(nat_lit 314,xaa P)::(nat_lit 315,xf6 P)::(nat_lit 316,xgn P)::(nat_lit 317,xgf P)::(nat_lit 318,xaa P)::(nat_lit 319,xab P)::(nat_lit 320,xgg P)::(nat_lit 321,xaa P)::(nat_lit 322,xgo P)::(nat_lit 323,xf4 P)::(nat_lit 324,xgk P)::(nat_lit 325,xaa P)::(nat_lit 326,xab P)::(nat_lit 327,xf2 P)::(nat_lit 328,xaa P)::(nat_lit 329,xf9 P)::(nat_lit 330,xgq P)::(nat_lit 331,xf5 P)::(nat_lit 332,xaa P)::(nat_lit 333,xab P)::(nat_lit 334,xgs P)::(nat_lit 335,xaa P)::(nat_lit 336,xgh P)::(nat_lit 337,xf7 P)::(nat_lit 338,xgp P)::(nat_lit 339,xaa P)::(nat_lit 340,xab P)::(nat_lit 341,xgc P)::(nat_lit 342,xaa P)::(nat_lit 343,xf3 P)::(nat_lit 344,xgi P)::(nat_lit 345,xga P)::(nat_lit 346,xaa P)::(nat_lit 347,xab P)::(nat_lit 348,xgm P)::(nat_lit 349,xge P)::(nat_lit 350,xgt P)::[]
abbrev ls:List Str:=[Str.ofString "TURNED_KINDS",Str.ofString "searched"]
abbrev Xt:Shared→Bool:=fun s=>xlAt vw [] s&&recOk (RowW.records rr.row.toRowW) s
theorem a33 (w:World):((boot_heap w.params).isNs mainGlobals&&(#[]:Array GenState).size==0,(boot_heap w.params).objs.size,(boot_heap w.params).nsMap mainGlobals "__annotations__")=(true,11,an):=by kernel_rfl
theorem a40:opening p=plainProg p.main.scope.names:=by kernel_rfl
theorem a3i (s:Shared):fenceModules? p s=some s:=by kernel_rfl
theorem lk1 (w:World):(fun os=>(staticsOk (importedModules p.main.body) (boot_heap w.params) (hpZ w.params)&&namesBound p (hpZ w.params)&&gensDone (sZ w os)&&laidKept (boot_heap w.params) (hpZ w.params)))=fun _=>true:=by kernel_rfl
theorem lk2 (w:World):(fun os=>openSeen vw ls (importedModules p.main.body) Xt true (sZ w os))=fun _=>openGood vw ls:=by kernel_rfl
theorem lk3 (w:World):(fun os=>obsZ as0 (sZ w os))=fun _=>valZ K0 351 665 w:=by kernel_rfl
theorem left_:LeftO p vw ls Xt (obsZ as0) (valZ K0 351 665) 5914:=LeftO.of_pieces (boot_open a40 rfl a3i) a33 a3t rfl fun w=>funext fun os=>looks_pair (congrFun (lk1 w) os) (looks_pair (congrFun (lk2 w) os) (congrFun (lk3 w) os))
end
end H75
open PySem PySem.W PyProof.Rows
set_option maxRecDepth 100000 in
set_option maxHeartbeats 0 in
theorem PySem.Challenge.cw_oncewise_k75_too_many_holds : PySem.Challenge.rw_oncewise_k75_too_many.Holds := by
  w_on;refine holds_law (by decide +kernel) fun said=>?_
  refine holds_openX (q:=H75.vw) (loose:=H75.ls) (Xt:=H75.Xt) (XP:=XL H75.vw []) (Yf:=PySem.W.X.obsZ H75.as0) (Ya:=PySem.W.X.valZ H75.K0 351 665) (N:=5914) H75.left_ (fun s e=>xl_of s (Bool.and_eq_true_iff.mp e).1)
    XL.keeps (by rfl) (by rfl) (by rfl) (fun s e=>recFacts_of (Bool.and_eq_true_iff.mp e).2)
    (by rfl) (by decide +kernel) (by decide +kernel) ⟨rfl,rfl,rfl,rfl,rfl,by decide +kernel⟩ ?hw ?hc
  case hw=>w_witness2
  k_fill
  refine L2.walk_ofZ (l:=PySem.Challenge.rw_oncewise_k75_too_many) (n:=63) (k:=71) (x:="_law_script") (CX:=L2.CX0) (sp:=L3.spTop) rfl (by decide) rfl ⟨rfl,by decide,by decide⟩ (fun _=>rfl) (by decide) ?F ?S ?C
  case F=>
    intro w mg fa h KX G hmg
    refine' K75.all_mk KX G hmg ?D0 ?D1 ?D2 ?D3 ?D4 ?D5 ?D6 ?D7 ?D8 ?D9 ?D10 ?D11 ?D12 ?D13 ?D14 ?D15 ?D16 ?D17 ?D18 ?D19 ?D20 ?D21 ?D22 ?D23 ?D24 ?D25 ?D26 ?D27 ?D28 ?D29 ?D30 ?D31 ?D32 ?D33 ?D34 ?aLEAF_KINDS ?lLEAF_KINDS ?aTURNED_KINDS ?lTURNED_KINDS ?hTURNED_KINDS ?aCPieces ?aCTooMany ?aCOnceError ?aCBadWeb ?aCBadText ?aCNoWord ?aCNoCut ?aCNoTree ?qCTooMany ?clPieces ?mAPieces ?mKPieces ?xf ?zlen ?zlist ?zrange ?zenumerate ?zmax ?zmin ?zsorted ?zValueError ?zisinstance ?ztuple ?zsum
    (case aCPieces=>k_is)
    (case aCTooMany=>k_is)
    (case aCOnceError=>k_is)
    (case aCBadWeb=>k_is)
    (case aCBadText=>k_is)
    (case aCNoWord=>k_is)
    (case aCNoCut=>k_is)
    (case aCNoTree=>k_is)
    (case D0=>refine' L2.def_in ?a ?l ?c ?k;(case a=>k_is);(case l=>k_is);(case c=>k_is);(case k=>k_is))
    (case D1=>refine' L2.def_in ?a ?l ?c ?k;(case a=>k_is);(case l=>k_is);(case c=>k_is);(case k=>k_is))
    (case D2=>refine' L2.def_in ?a ?l ?c ?k;(case a=>k_is);(case l=>k_is);(case c=>k_is);(case k=>k_is))
    (case D3=>refine' L2.def_in ?a ?l ?c ?k;(case a=>k_is);(case l=>k_is);(case c=>k_is);(case k=>k_is))
    (case D4=>refine' L2.def_in ?a ?l ?c ?k;(case a=>k_is);(case l=>k_is);(case c=>k_is);(case k=>k_is))
    (case D5=>refine' L3.meth_in ?a ?l ?c ?k ?i;(case a=>k_is);(case l=>k_is);(case c=>k_is);(case k=>k_is);(case i=>k_is))
    (case D6=>refine' L3.meth_in ?a ?l ?c ?k ?i;(case a=>k_is);(case l=>k_is);(case c=>k_is);(case k=>k_is);(case i=>k_is))
    (case D7=>refine' L3.meth_in ?a ?l ?c ?k ?i;(case a=>k_is);(case l=>k_is);(case c=>k_is);(case k=>k_is);(case i=>k_is))
    (case D8=>refine' L2.def_in ?a ?l ?c ?k;(case a=>k_is);(case l=>k_is);(case c=>k_is);(case k=>k_is))
    (case D9=>refine' L2.def_in ?a ?l ?c ?k;(case a=>k_is);(case l=>k_is);(case c=>k_is);(case k=>k_is))
    (case D10=>refine' L2.def_in ?a ?l ?c ?k;(case a=>k_is);(case l=>k_is);(case c=>k_is);(case k=>k_is))
    (case D11=>refine' L2.def_in ?a ?l ?c ?k;(case a=>k_is);(case l=>k_is);(case c=>k_is);(case k=>k_is))
    (case D12=>refine' L2.def_in ?a ?l ?c ?k;(case a=>k_is);(case l=>k_is);(case c=>k_is);(case k=>k_is))
    (case D13=>refine' L2.def_in ?a ?l ?c ?k;(case a=>k_is);(case l=>k_is);(case c=>k_is);(case k=>k_is))
    (case D14=>refine' L2.def_in ?a ?l ?c ?k;(case a=>k_is);(case l=>k_is);(case c=>k_is);(case k=>k_is))
    (case D15=>refine' L2.def_in ?a ?l ?c ?k;(case a=>k_is);(case l=>k_is);(case c=>k_is);(case k=>k_is))
    (case D16=>refine' L2.def_in ?a ?l ?c ?k;(case a=>k_is);(case l=>k_is);(case c=>k_is);(case k=>k_is))
    (case D17=>refine' L2.def_in ?a ?l ?c ?k;(case a=>k_is);(case l=>k_is);(case c=>k_is);(case k=>k_is))
    (case D18=>refine' L2.def_in ?a ?l ?c ?k;(case a=>k_is);(case l=>k_is);(case c=>k_is);(case k=>k_is))
    (case D19=>refine' L2.def_in ?a ?l ?c ?k;(case a=>k_is);(case l=>k_is);(case c=>k_is);(case k=>k_is))
    (case D20=>refine' L2.def_in ?a ?l ?c ?k;(case a=>k_is);(case l=>k_is);(case c=>k_is);(case k=>k_is))
    (case D21=>refine' L2.def_in ?a ?l ?c ?k;(case a=>k_is);(case l=>k_is);(case c=>k_is);(case k=>k_is))
    (case D22=>refine' L2.def_in ?a ?l ?c ?k;(case a=>k_is);(case l=>k_is);(case c=>k_is);(case k=>k_is))
    (case D23=>refine' L2.def_in ?a ?l ?c ?k;(case a=>k_is);(case l=>k_is);(case c=>k_is);(case k=>k_is))
    (case D24=>refine' L2.def_in ?a ?l ?c ?k;(case a=>k_is);(case l=>k_is);(case c=>k_is);(case k=>k_is))
    (case D25=>refine' L2.def_in ?a ?l ?c ?k;(case a=>k_is);(case l=>k_is);(case c=>k_is);(case k=>k_is))
    (case D26=>refine' L2.def_in ?a ?l ?c ?k;(case a=>k_is);(case l=>k_is);(case c=>k_is);(case k=>k_is))
    (case D27=>refine' L2.def_in ?a ?l ?c ?k;(case a=>k_is);(case l=>k_is);(case c=>k_is);(case k=>k_is))
    (case D28=>refine' L3.def_inD ?a ?l ?t ?c ?k;(case a=>k_is);(case l=>k_is);(case t=>k_is);(case c=>k_is);(case k=>k_is))
    (case D29=>refine' L2.def_in ?a ?l ?c ?k;(case a=>k_is);(case l=>k_is);(case c=>k_is);(case k=>k_is))
    (case D30=>refine' L2.def_in ?a ?l ?c ?k;(case a=>k_is);(case l=>k_is);(case c=>k_is);(case k=>k_is))
    (case D31=>refine' L2.def_in ?a ?l ?c ?k;(case a=>k_is);(case l=>k_is);(case c=>k_is);(case k=>k_is))
    (case D32=>refine' L2.def_in ?a ?l ?c ?k;(case a=>k_is);(case l=>k_is);(case c=>k_is);(case k=>k_is))
    (case D33=>refine' L2.def_in ?a ?l ?c ?k;(case a=>k_is);(case l=>k_is);(case c=>k_is);(case k=>k_is))
    (case D34=>refine' L2.def_in ?a ?l ?c ?k;(case a=>k_is);(case l=>k_is);(case c=>k_is);(case k=>k_is))
    (case aLEAF_KINDS=>k_is)
    (case lLEAF_KINDS=>k_is)
    (case aTURNED_KINDS=>k_is)
    (case lTURNED_KINDS=>k_is)
    (case hTURNED_KINDS=>rfl)
    (case qCTooMany=>k_exc)
    (case clPieces=>refine' L2.Cls.mk ?pg ?hd ?po ?sa;(case pg=>k_is);(case hd=>k_is);(case po=>k_is);(case sa=>k_is))
    (case mAPieces=>k_is)
    (case mKPieces=>k_is)
    (case xf=>(refine' L3.XF8.mk ?xp ?xe;(case xp=>(refine' L3.XFP.mk ?cl ?na;(case cl=>(refine' L2.Cls.mk ?pg ?hd ?po ?sa;(case pg=>k_is);(case hd=>k_is);(case po=>k_is);(case sa=>k_is)));(case na=>(unfold L2.NoAttr;k_is))));(case xe=>(refine' L3.XF75.mk ?hd ?em ?tt ?ve ?nw ?bt ?bw ?nt ?nc;(case hd=>(refine' L3.xhd_of ?ga ?gt ?cl ?ge ?tk ?mo ?be ?h;(case ga=>k_is);(case gt=>k_is);(case cl=>k_is);(case ge=>k_is);(case tk=>k_is);(case mo=>k_is);(case be=>k_is);(case h=>k_is)));(case em=>(refine' L3.exm_own ?h0 ?h1 ?h2 ?h3;(case h0=>k_is);(case h1=>k_is);(case h2=>k_is);(case h3=>k_is)));(case tt=>exact L3.kit_self);(case ve=>(refine' L3.kit_blt ?a ?b;(case a=>rfl);(case b=>k_is)));(case nw=>(refine' L3.kit_own ?a ?b ?c ?d;(case a=>rfl);(case b=>k_is);(case c=>k_is);(case d=>k_is)));(case bt=>(refine' L3.kit_own ?a ?b ?c ?d;(case a=>rfl);(case b=>k_is);(case c=>k_is);(case d=>k_is)));(case bw=>(refine' L3.kit_own ?a ?b ?c ?d;(case a=>rfl);(case b=>k_is);(case c=>k_is);(case d=>k_is)));(case nt=>(refine' L3.kit_own ?a ?b ?c ?d;(case a=>rfl);(case b=>k_is);(case c=>k_is);(case d=>k_is)));(case nc=>(refine' L3.kit_own ?a ?b ?c ?d;(case a=>rfl);(case b=>k_is);(case c=>k_is);(case d=>k_is)))))))
    (case zlen=>k_is)
    (case zlist=>k_is)
    (case zrange=>k_is)
    (case zenumerate=>k_is)
    (case zmax=>k_is)
    (case zmin=>k_is)
    (case zsorted=>k_is)
    (case zValueError=>k_is)
    (case zisinstance=>k_is)
    (case ztuple=>k_is)
    (case zsum=>k_is)
  case S=>exact L3.top_start
  case C=>exact fun _ _ _ _ z=>z
#print axioms PySem.Challenge.cw_oncewise_k75_too_many_holds
