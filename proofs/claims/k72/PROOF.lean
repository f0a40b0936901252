import PyProof.Rows.All
import Wide.All
import OpenK.AllK
import Wide.FinOn
import Lean
import PyProof.EqAt
import PyProof.EqKinds
import PyProof.TupleCall
import PyProof.NeKinds
import PySem.Challenge.RW_oncewise_k72_names_and_counts
import OpenK.ZGo
set_option Elab.async false
set_option linter.all false
set_option maxRecDepth 100000
namespace L2
open PySem PyProof.Rows
theorem afa {M:Model} {Γ:Ctx} {p:Pos} {t:Sem Fin} {fs:List Frame} {s s':Shared} {e:End} (h:Runs M Γ p t fs s e s'):s.toks≤s'.toks:=by
  induction h with
  | fresh _ ih=>exact Nat.le_trans (Nat.le_succ _) ih
  | call _ _ ih1 ih2=>exact Nat.le_trans ih1 ih2
  | resumeFresh _ _ _ _ ih1 ih2=>exact Nat.le_trans ih1 ih2
  | resumeSuspended _ _ _ _ ih1 ih2=>exact Nat.le_trans ih1 ih2
  | segRet _ _ ih1 ih2=>exact Nat.le_trans ih1 ih2
  | segGen _ _ ih1 ih2=>exact Nat.le_trans ih1 ih2
  | segSuspGen _ _ _ _ ih1 ih2=>exact Nat.le_trans ih1 ih2
  | _=>first | exact Nat.le_refl _ | assumption
theorem aox {M:Model} {Γ:Ctx} {p:Pos} {g:Nat} {r:Resume} {s s':Shared} {res:GenResult} (h:Wakes M Γ p g r s res s'):s.toks≤s'.toks:=by
  unfold Wakes at h
  split at h
  · exact h.elim
  · split at h
    · obtain ⟨e,s1,hr,_,_,rfl⟩:=h;have q:=afa hr;exact q
    · obtain ⟨_,rfl⟩:=h;exact Nat.le_refl _
    · obtain ⟨_,rfl⟩:=h;exact Nat.le_refl _
  · obtain ⟨e,s1,hr,_,_,rfl⟩:=h;have q:=afa hr;exact q
  · obtain ⟨_,rfl⟩:=h;exact Nat.le_refl _
  · obtain ⟨_,rfl⟩:=h;exact Nat.le_refl _
theorem aw5 {α:Type} {M:Model} {Γ:Ctx} (t:Sem α):∀ {Q:α→Pos→Shared→Prop} {E:Value→Pos→Shared→Prop} {p:Pos} {s:Shared} (n:Nat),n≤s.toks→Sem.wp M Γ t Q E p s→Sem.wp M Γ t (fun a p' s'=>Q a p' s'∧n≤s'.toks) (fun e p' s'=>E e p' s'∧n≤s'.toks) p s:=by
  induction t with
  | pure a=>intro Q E p s n hn h;exact ⟨h,hn⟩
  | raise e=>intro Q E p s n hn h;exact ⟨h,hn⟩
  | load a part k ih=>intro Q E p s n hn ⟨o,h1,h2⟩;exact ⟨o,h1,ih o n hn h2⟩
  | update a part f k ih=>intro Q E p s n hn ⟨h1,h2⟩;exact ⟨h1,ih () n hn h2⟩
  | fresh k ih=>intro Q E p s n hn h;exact ih s.toks n (Nat.le_trans hn (Nat.le_succ _)) h
  | choose src m k ih=>intro Q E p s n hn ⟨h1,h2⟩;exact ⟨h1,ih _ n hn h2⟩
  | call c hd g l k ih=>intro Q E p s n hn ⟨r,s',h1,h2⟩;exact ⟨r,s',h1,ih r n (Nat.le_trans hn (afa h1)) h2⟩
  | genState g k ih=>intro Q E p s n hn ⟨st,h1,h2⟩;exact ⟨st,h1,ih _ n hn h2⟩
  | resume g r l k ih=>intro Q E p s n hn ⟨res,s',h1,h2⟩;exact ⟨res,s',h1,ih _ n (Nat.le_trans hn (aox h1)) h2⟩
  | rule tag k ih=>intro Q E p s n hn h;exact ih () n hn h
  | «at» pos k ih=>intro Q E p s n hn h;exact ih () n hn h
  | alloc o k ih=>intro Q E p s n hn h;exact ih _ n hn h
  | loadIfAlive a k ih=>intro Q E p s n hn h;exact ih _ n hn h
  | point l k ih=>intro Q E p s n hn h;exact ih _ n hn h
  | ask k ih=>intro Q E p s n hn h;exact ih _ n hn h
  | os q l k ih=>intro Q E p s n hn h;exact ih _ n hn h
  | handled own k ih=>intro Q E p s n hn h;exact ih _ n hn h
  | newGen c k ih=>intro Q E p s n hn h;exact ih _ n hn h
  | stack k ih=>intro Q E p s n hn h;exact ih _ n hn h
  | thread k ih=>intro Q E p s n hn h;exact ih _ n hn h
  | unsupported w=>intro Q E p s n hn h;exact h.elim
  | finish e=>intro Q E p s n hn h;exact h.elim
  | register a k ih=>intro Q E p s n hn h;exact h.elim
  | yield v g l k ih=>intro Q E p s n hn h;exact h.elim
  | fork c k ih=>intro Q E p s n hn h;exact h.elim
  | await a f d l k ih=>intro Q E p s n hn h;exact h.elim
theorem aol {α:Type} {M:Model} {A:Around} {t:Sem α} {Q:α→Shared→Prop} {E:Value→Shared→Prop} {s:Shared} (h:wpAny M A t Q E s):wpAny M A t (fun a s'=>Q a s'∧s.toks≤s'.toks) (fun e s'=>E e s'∧s.toks≤s'.toks) s:=
  fun Γ p hΓ=>aw5 t s.toks (Nat.le_refl _) (h Γ p hΓ)
theorem jn {α:Type} {M:Model} {A:Around} {t:Sem α} {Q:α→Shared→Prop} {E:Value→Shared→Prop} {s:Shared} (hp:0<s.toks) (h:wpAny M A t (fun a s'=>0<s'.toks→Q a s') (fun e s'=>0<s'.toks→E e s') s):wpAny M A t Q E s:=
  wpAny_mono (aol h) (fun _ _ z=>z.1 (Nat.lt_of_lt_of_le hp z.2)) fun _ _ z=>z.1 (Nat.lt_of_lt_of_le hp z.2)
end L2
namespace L2
open PySem PySem.Spec PyProof.Rows
abbrev Key:=Sum Int Str
def ahk:Key→Value→Bool
  | .inl k,v=>Value.isInt k v
  | .inr x,v=>Value.isStrOf x v
def a5a (w:World):Key→Int
  | .inl k=>hashInt k
  | .inr x=>hashStr w x
theorem jo:∀ {k:Key} {v:Value},ahk k v=true→(∃ i t,k=Sum.inl i∧v=Value.int i t)∨(∃ x t,k=Sum.inr x∧v=Value.str x t)
  | .inl i,v,h=>by
    obtain ⟨t,e⟩:=Value.isInt_shape (k:=i) (v:=v) h
    exact .inl ⟨i,t,rfl,e⟩
  | .inr x,v,h=>by
    obtain ⟨t,e⟩:=Value.isStrOf_shape (x:=x) (v:=v) h
    exact .inr ⟨x,t,rfl,e⟩
theorem aql (i:Int) (t:Tok):ahk (.inl i) (.int i t)=true:=by simp [ahk,Value.isInt]
theorem af4 (x:Str) (t:Tok):ahk (.inr x) (.str x t)=true:=by simp [ahk,Value.isStrOf]
theorem a25 (a b:Int):decide ((Sum.inl a:Key)=Sum.inl b)=(a==b):=by
  by_cases e:a=b
  · subst e;simp
  · have h:¬ (Sum.inl a:Key)=Sum.inl b:=fun q=>e (Sum.inl.inj q)
    rw [decide_eq_false h]
    exact (beq_eq_false_iff_ne.mpr e).symm
theorem a1z (a b:Str):decide ((Sum.inr a:Key)=Sum.inr b)=decide (a=b):=by
  by_cases e:a=b
  · subst e;simp
  · have h:¬ (Sum.inr a:Key)=Sum.inr b:=fun q=>e (Sum.inr.inj q)
    rw [decide_eq_false h,decide_eq_false e]
theorem a28 (a:Int) (b:Str):decide ((Sum.inl a:Key)=Sum.inr b)=false:=decide_eq_false (fun q=>nomatch q)
theorem a1a (a:Str) (b:Int):decide ((Sum.inr a:Key)=Sum.inl b)=false:=decide_eq_false (fun q=>nomatch q)
def jf (prog:Program) (w:World):PySem.KeyKind prog w Key where
  is:=ahk
  hash:=a5a w
  inj:=fun v a b ha hb=>by
    rcases jo ha with ⟨i,t,rfl,rfl⟩ | ⟨x,t,rfl,rfl⟩
    · rcases jo hb with ⟨j,u,rfl,e⟩ | ⟨y,u,rfl,e⟩
      · injection e with e1 _;rw [e1]
      · exact nomatch e
    · rcases jo hb with ⟨j,u,rfl,e⟩ | ⟨y,u,rfl,e⟩
      · exact nomatch e
      · injection e with e1 _;rw [e1]
  byValue:=fun k v h=>by
    rcases jo h with ⟨i,t,rfl,rfl⟩ | ⟨x,t,rfl,rfl⟩<;>rfl
  pyHash:=fun hv h=>by
    rcases jo hv with ⟨i,t,rfl,rfl⟩ | ⟨x,t,rfl,rfl⟩
    · exact wpAny_pyHash_int h
    · exact wpAny_pyHash_str h
  eqBool:=fun hu hv h=>by
    rcases jo hu with ⟨i,t,rfl,rfl⟩ | ⟨x,t,rfl,rfl⟩
    · rcases jo hv with ⟨j,u,rfl,rfl⟩ | ⟨y,u,rfl,rfl⟩
      · rw [a25] at h;exact wpAny_eqBool_int h
      · rw [a28] at h;exact SeqAt.EqAt.int_str i t y u _ _ _ _ h
    · rcases jo hv with ⟨j,u,rfl,rfl⟩ | ⟨y,u,rfl,rfl⟩
      · rw [a1a] at h;exact SeqAt.EqAt.str_int x t j u _ _ _ _ h
      · rw [a1z] at h;exact wpAny_eqBool_str h
  «strs» := fun k x t v h=>by
    rcases jo h with ⟨i,u,rfl,e⟩ | ⟨y,u,rfl,e⟩
    · exact nomatch e
    · injection e with e1 _
      subst e1
      cases v<;>rfl
theorem an5 (prog:Program) (w:World) (i:Int) (t:Tok):(jf prog w).is (.inl i) (.int i t)=true:=aql i t
theorem ano (prog:Program) (w:World) (x:Str) (t:Tok):(jf prog w).is (.inr x) (.str x t)=true:=af4 x t
end L2
namespace L2
open PySem PySem.Spec PyProof.Rows
inductive V where
  | non | bl (b:Bool) | int (i:Int) | str (x:Str) | byt (b:Array UInt8) | flt (b:UInt64) | ref (a:Addr) | ty (n:String)
  deriving DecidableEq
def RelV:V→Value→Prop
  | .non,u=>u=Value.none
  | .bl b,u=>u=Value.bool b
  | .int i,u=>∃ t,u=Value.int i t
  | .str x,u=>∃ t,u=Value.str x t
  | .byt b,u=>∃ t,u=Value.bytes b t
  | .flt b,u=>∃ t,u=Value.float b t
  | .ref a,u=>u=Value.ref a
  | .ty n,u=>u=Value.type n
abbrev Vals:List V→List Value→Prop:=Paired RelV
theorem Vals.length {xs:List V} {us:List Value} (r:Vals xs us):xs.length=us.length:=Paired.length r
theorem Vals.get:∀ {xs:List V} {us:List Value} {i:Nat} {x:V},Vals xs us→xs[i]?=some x→∃ u,us[i]?=some u∧RelV x u
  | _,_,_,_,.nil,e=>by simp at e
  | _,_,0,_,.cons r _,e=>by simp at e;subst e;exact ⟨_,rfl,r⟩
  | _,_,i+1,x,.cons _ t,e=>by
    obtain ⟨u,h1,h2⟩:=Vals.get (i:=i) (x:=x) t (by simpa using e)
    exact ⟨u,by simpa using h1,h2⟩
theorem Vals.set {x:V} {u:Value} (r:RelV x u):∀ {xs:List V} {us:List Value} (i:Nat),Vals xs us→Vals (xs.set i x) (us.set i u)
  | _,_,_,.nil=>.nil
  | _,_,0,.cons _ t=>.cons r t
  | _,_,i+1,.cons q t=>.cons q (Vals.set r i t)
theorem Vals.append:∀ {xs ys:List V} {us ws:List Value},Vals xs us→Vals ys ws→Vals (xs++ys) (us++ws)
  | _,_,_,_,.nil,s=>s
  | _,_,_,_,.cons r t,s=>.cons r (Vals.append t s)
theorem Vals.take:∀ {xs:List V} {us:List Value} (n:Nat),Vals xs us→Vals (xs.take n) (us.take n)
  | _,_,0,_=>.nil
  | _,_,_+1,.nil=>.nil
  | _,_,n+1,.cons r t=>.cons r (Vals.take n t)
theorem Vals.drop:∀ {xs:List V} {us:List Value} (n:Nat),Vals xs us→Vals (xs.drop n) (us.drop n)
  | _,_,0,r=>r
  | _,_,_+1,.nil=>.nil
  | _,_,n+1,.cons _ t=>Vals.drop n t
def RelO:Option V→Option Value→Prop
  | some v,some u=>RelV v u
  | none,none=>True
  | _,_=>False
def KV {κ:Type}:List (κ×V)→List (κ×Value)→Prop:=Paired fun (p:κ×V) (q:κ×Value)=>p.1=q.1∧RelV p.2 q.2
def kV:Key→V
  | .inl i=>.int i
  | .inr x=>.str x
inductive HO where
  | lst (xs:List V)
  | tup (xs:List V)
  | dK (kvs:List (Key×V)) | dT (kvs:List (List Key×V))
  | set (S:Int→Bool) (n:Nat)
  | ins (C dx:Addr) (fs:List (Str×V))
  | own (x:Addr)
  | xd (fs:List (Str×V))
  | met (f x:Addr)
  | rng (lo hi:Int)
  | frz (o:Obj) (u:HO)
  | tbl (ps:Array Value)
  | ext (φ:Heap→Prop)
abbrev Hp:=Addr→Option HO
def upd (H:Hp) (a:Addr) (o:HO):Hp:=fun b=>if b=a then some o else H b
theorem zx {H:Hp} {a:Addr} {o:HO}:upd H a o a=some o:=by unfold upd;rw [if_pos rfl]
theorem qt {H:Hp} {a b:Addr} {o:HO} (h:b≠a):upd H a o b=H b:=by unfold upd;rw [if_neg h]
theorem avt {H:Hp} {a:Addr} {o u:HO}:upd (upd H a o) a u=upd H a u:=by
  funext b;unfold upd;split<;>rfl
theorem a3q {H:Hp} {a b:Addr} {o u:HO} (h:H a=some o) (h':H b=some u) (d:o≠u):a≠b:=by
  intro e;subst e;rw [h] at h';exact d (Option.some.inj h')
theorem zr {H:Hp} {a b:Addr} {o:HO} (h:H a=some o) (h':H b=none):a≠b:=by
  intro e;subst e;rw [h] at h';cases h'
section
variable (P:Program) (w:World)
def ObjOk (H:Hp) (h:Heap) (a:Addr):HO→Prop
  | .lst xs=>xs.length≤sizeLine∧∃ (its:List Value) (n:Nat),Vals xs its∧h.get? a=some { cls:=.type "list",data:=.seq its.toArray n }
  | .tup xs=>xs.length≤sizeLine∧∃ its:List Value,Vals xs its∧IsTup h a its.toArray
  | .dK kvs=>kvs.length≤sizeLine∧(a==sysModules)=false∧∃ vs,KV kvs vs∧h.DictOf (jf P w) a vs
  | .dT kvs=>kvs.length≤sizeLine∧(a==sysModules)=false∧∃ xs:List (List Key×Addr×Value),
      Paired (fun (p:List Key×V) (q:List Key×Addr×Value)=>p.1=q.1∧H q.2.1=some (.tup (p.1.map kV))∧RelV p.2 q.2.2) kvs xs∧
      ∃ o es ep,h.get? a=some o∧o.ExactDict∧o.data=.dict es ep∧es.toList=xs.map (entryOfKey (tupleKind (jf P w)))∧(xs.map (·.1)).Nodup
  | .set S n=>h.SetOf (intKind P w) a S n
  | .ins C dx fs=>H dx=some (.own a)∧fs.length≤1000∧dx≠a∧h.get? a=some (PySem.W.instObj C dx)∧
      ∃ mA,h.Ns1 dx mA∧(∀ f,RelO (fs.lookup f) (mA f))∧PySem.Within mA (fs.map (·.1))
  | .own _=>∃ o,h.get? a=some o
  | .xd fs=>∃ mA,h.Ns1 a mA∧∀ f,RelO (fs.lookup f) (mA f)
  | .rng lo hi=>∃ t u v,h.get? a=some { cls:=.type "range",data:=.fields #[.int lo t,.int hi u,.int 1 v] }
  | .frz o u=>h.get? a=some o∧ObjOk H h a u
  | .tbl ps=>h.get? a=some { cls:=.none,data:=.fields ps }
  | .met f x=>h.get? a=some (PySem.W.methodObj (.ref f) (.ref x))
  | .ext φ=>φ h∧(∃ o,h.get? a=some o)∧∀ h1 h2:Heap,φ h1→(∀ o,h1.get? a=some o→h2.get? a=some o)→φ h2
def HOk (H:Hp) (h:Heap):Prop:=∀ a o,H a=some o→ObjOk P w H h a o
end
section
variable {P:Program} {w:World} {H H':Hp} {h h':Heap} {a:Addr} {o:HO}
theorem ObjOk.lt (x:ObjOk P w H h a o):a<h.objs.size:=by
  cases o with
  | lst xs=>obtain ⟨_,_,_,_,e⟩:=x;exact Heap.lt_size e
  | tup xs=>obtain ⟨_,_,_,p⟩:=x;exact p.lt
  | dK kvs=>obtain ⟨_,_,_,_,o,_,_,e,_⟩:=x;exact Heap.lt_size e
  | dT kvs=>obtain ⟨_,_,_,_,o,_,_,e,_⟩:=x;exact Heap.lt_size e
  | set S n=>obtain ⟨o,_,_,_,e,_⟩:=x;exact Heap.lt_size e
  | ins C dx fs=>obtain ⟨_,_,_,e,_⟩:=x;exact Heap.lt_size e
  | own y=>obtain ⟨_,e⟩:=x;exact Heap.lt_size e
  | xd fs=>obtain ⟨_,⟨_,_,_,e,_⟩,_⟩:=x;exact Heap.lt_size e
  | rng lo hi=>obtain ⟨_,_,_,e⟩:=x;exact Heap.lt_size e
  | frz ob u=>obtain ⟨e,_⟩:=x;exact Heap.lt_size e
  | tbl ps=>exact Heap.lt_size (show h.get? a=some _ from x)
  | met f y=>exact Heap.lt_size (show h.get? a=some _ from x)
  | ext φ=>obtain ⟨_,⟨_,e⟩,_⟩:=x;exact Heap.lt_size e
theorem Paired.mapP {α β:Type} {F G:α→β→Prop}:∀ {l₁:List α} {l₂:List β},Paired F l₁ l₂→(∀ a b,F a b→G a b)→Paired G l₁ l₂
  | _,_,.nil,_=>.nil
  | _,_,.cons r t,f=>.cons (f _ _ r) (Paired.mapP t f)
theorem ObjOk.stay (x:ObjOk P w H h a o) (k:∀ b u,(b=a∨H b=some (.own a))→h.get? b=some u→h'.get? b=some u)
    (ho:∀ b,H b=some (.own a)→H' b=some (.own a)) (ht:∀ b xs,H b=some (.tup xs)→H' b=some (.tup xs)):ObjOk P w H' h' a o:=by
  induction o with
  | lst xs=>obtain ⟨z,its,n,r,e⟩:=x;exact ⟨z,its,n,r,k _ _ (.inl rfl) e⟩
  | tup xs=>obtain ⟨z,its,r,ob,e,c⟩:=x;exact ⟨z,its,r,ob,k _ _ (.inl rfl) e,c⟩
  | dK kvs=>obtain ⟨z,y,vs,r,ob,es,ep,e,c⟩:=x;exact ⟨z,y,vs,r,ob,es,ep,k _ _ (.inl rfl) e,c⟩
  | dT kvs=>
    obtain ⟨z,y,xs,r,ob,es,ep,e,c⟩:=x
    exact ⟨z,y,xs,Paired.mapP r fun p q z=>⟨z.1,ht _ _ z.2.1,z.2.2⟩,ob,es,ep,k _ _ (.inl rfl) e,c⟩
  | set S n=>obtain ⟨ob,es,ep,t,e,c⟩:=x;exact ⟨ob,es,ep,t,k _ _ (.inl rfl) e,c⟩
  | ins C dx fs=>
    obtain ⟨d,z,ne,e,mA,⟨od,es,ep,e2,c⟩,r⟩:=x
    exact ⟨ho _ d,z,ne,k _ _ (.inl rfl) e,mA,⟨od,es,ep,k _ _ (.inr d) e2,c⟩,r⟩
  | own y=>obtain ⟨ob,e⟩:=x;exact ⟨ob,k _ _ (.inl rfl) e⟩
  | xd fs=>obtain ⟨mA,⟨od,es,ep,e,c⟩,r⟩:=x;exact ⟨mA,⟨od,es,ep,k _ _ (.inl rfl) e,c⟩,r⟩
  | rng lo hi=>obtain ⟨t,u,v,e⟩:=x;exact ⟨t,u,v,k _ _ (.inl rfl) e⟩
  | frz ob u ih=>obtain ⟨e,q⟩:=x;exact ⟨k _ _ (.inl rfl) e,ih q⟩
  | tbl ps=>
    have e:h.get? a=some { cls:=.none,data:=.fields ps }:=x
    show h'.get? a=some { cls:=.none,data:=.fields ps }
    exact k a _ (.inl rfl) e
  | met f y=>
    have e:h.get? a=some (PySem.W.methodObj (.ref f) (.ref y)):=x
    show h'.get? a=some (PySem.W.methodObj (.ref f) (.ref y))
    exact k a _ (.inl rfl) e
  | ext φ=>obtain ⟨p,⟨o,e⟩,st⟩:=x;exact ⟨st _ _ p fun o q=>k _ _ (.inl rfl) q,⟨o,k _ _ (.inl rfl) e⟩,st⟩
theorem HOk.lt (x:HOk P w H h) (e:H a=some o):a<h.objs.size:=(x a o e).lt
theorem HOk.fresh (x:HOk P w H h) (e:h.objs.size≤a):H a=none:=by
  cases q:H a with
  | none=>rfl
  | some u=>exact absurd (Nat.lt_of_lt_of_le (x.lt q) e) (Nat.lt_irrefl _)
theorem HOk.kept (x:HOk P w H h) (k:∀ b u,h.get? b=some u→h'.get? b=some u):HOk P w H h':=fun a o e=>
  (x a o e).stay (fun b u _ q=>k b u q) (fun _ q=>q) fun _ _ q=>q
theorem HOk.laid (x:HOk P w H h) (k:∀ b u,h.get? b=some u→h'.get? b=some u) (hp:h.objs.size≤a) (new:ObjOk P w (upd H a o) h' a o):HOk P w (upd H a o) h':=fun b u e=>by
  have hn:=x.fresh hp
  by_cases hb:b=a
  · subst hb;rw [zx] at e;cases e;exact new
  · rw [qt hb] at e
    exact (x b u e).stay (fun c v _ q=>k c v q) (fun c q=>by rw [qt (zr q hn)];exact q) fun c xs q=>by rw [qt (zr q hn)];exact q
end
def Rd (H:Hp) (a:Addr) (u:HO):Prop:=H a=some u∨∃ o,H a=some (.frz o u)
theorem Rd.ok {P:Program} {w:World} {H:Hp} {h:Heap} {a:Addr} {u:HO} (r:Rd H a u) (x:HOk P w H h):ObjOk P w H h a u:=by
  rcases r with r | ⟨o,r⟩
  · exact x a u r
  · obtain ⟨_,q⟩:=x a _ r
    exact q
def Mut:Option HO→Prop
  | some (.lst _)=>True
  | some (.dK _)=>True
  | some (.dT _)=>True
  | some (.set _ _)=>True
  | some (.ins _ _ _)=>True
  | some (.ext _)=>True
  | _=>False
section
variable {P:Program} {w:World} {H:Hp} {h h':Heap} {x e:Addr} {o':HO}
theorem HOk.write (ok:HOk P w H h) (mu:Mut (H x)) (he:e=x∨H e=some (.own x)) (k:∀ b u,b≠e→h.get? b=some u→h'.get? b=some u) (heo:∃ u,h'.get? e=some u)
    (new:ObjOk P w (upd H x o') h' x o'):HOk P w (upd H x o') h':=fun b u q=>by
  have nown:∀ c y,H c=some (.own y)→c≠x:=fun c y r z=>by subst z;rw [r] at mu;exact mu
  have ntup:∀ c xs,H c=some (.tup xs)→c≠x:=fun c xs r z=>by subst z;rw [r] at mu;exact mu
  by_cases hb:b=x
  · subst hb;rw [zx] at q;cases q;exact new
  · rw [qt hb] at q
    by_cases hbe:b=e
    · have q':H b=some (.own x):=by
        rcases he with z | z
        · exact absurd (hbe.trans z) hb
        · rw [hbe];exact z
      rw [q] at q';cases q'
      obtain ⟨v,hv⟩:=heo
      exact ⟨v,by rw [hbe];exact hv⟩
    · refine (ok b u q).stay (fun c v hc r=>k c v ?_ r) (fun c r=>by rw [qt (nown c b r)];exact r) fun c xs r=>by rw [qt (ntup c xs r)];exact r
      rcases hc with rfl | hc
      · exact hbe
      · rintro rfl
        rcases he with z | z
        · exact nown c b hc z
        · rw [hc] at z;cases z;exact hb rfl
end
structure Un (fs ex:List Addr) (H H':Hp) (h h':Heap):Prop where
  keep:∀ b o,h.get? b=some o→H b=none→b∉fs→b∉ex→h'.get? b=some o
  slot:∀ b o,h.get? b=some o→H b=none→b∈fs→b∉ex→∃ sl,h'.get? b=some { o with slots:=sl }
  free:∀ b o,h.get? b=some o→H b=none→b∉ex→H' b=none
  there:∀ b o,h.get? b=some o→b∉ex→∃ o',h'.get? b=some o'
  tups:∀ b xs,H b=some (.tup xs)→H' b=some (.tup xs)
  frzs:∀ b o u,H b=some (.frz o u)→H' b=some (.frz o u)
  tbls:∀ b ps,H b=some (.tbl ps)→∃ more,H' b=some (.tbl (ps++more))
section
variable {fs fs' ex ex':List Addr} {H H1 H2:Hp} {h h1 h2 h':Heap} {a x e:Addr} {o:HO}
theorem Un.any (u:Un fs ex H H1 h h1) {b:Addr} {ob:Obj} (q:h.get? b=some ob) (n:H b=none) (hx:b∉ex):∃ sl,h1.get? b=some { ob with slots:=sl }:=by
  by_cases hb:b∈fs
  · exact u.slot b ob q n hb hx
  · exact ⟨ob.slots,u.keep b ob q n hb hx⟩
theorem Un.kept (k:∀ b u,h.get? b=some u→h'.get? b=some u):Un fs ex H H h h':=
  ⟨fun b ob q _ _ _=>k b ob q,fun b ob q _ _ _=>⟨ob.slots,k b ob q⟩,fun _ _ _ n _=>n,fun b ob q _=>⟨ob,k b ob q⟩,fun _ _ q=>q,fun _ _ _ q=>q,fun _ ps q=>⟨#[],by rw [q];simp⟩⟩
theorem Un.refl:Un fs ex H H h h:=Un.kept fun _ _ q=>q
theorem Un.laid (k:∀ b u,h.get? b=some u→h'.get? b=some u) (hp:h.objs.size≤a) (hn:H a=none):Un fs ex H (upd H a o) h h' where
  keep:=fun b u q _ _ _=>k b u q
  slot:=fun b u q _ _ _=>⟨u.slots,k b u q⟩
  free:=fun b u q n _=>by rw [qt (Nat.ne_of_lt (Nat.lt_of_lt_of_le (Heap.lt_size q) hp))];exact n
  there:=fun b u q _=>⟨u,k b u q⟩
  tups:=fun b xs q=>by rw [qt (zr q hn)];exact q
  frzs:=fun b u xs q=>by rw [qt (zr q hn)];exact q
  tbls:=fun b ps q=>⟨#[],by rw [qt (zr q hn),q];simp⟩
theorem Un.write (mu:Mut (H x)) (he:e=x∨H e=some (.own x)) (k:∀ b u,b≠e→h.get? b=some u→h'.get? b=some u) (heo:∃ u,h'.get? e=some u):Un fs ex H (upd H x o) h h':=by
  have hx:∀ b,H b=none→b≠x:=fun b n z=>by subst z;rw [n] at mu;exact mu
  have hb:∀ b,H b=none→b≠e:=fun b n z=>by
    subst z
    rcases he with r | r
    · exact hx b n r
    · rw [n] at r;cases r
  have hm:∀ b u,H b=some u→¬ Mut (some u)→b≠x:=fun b u q nm z=>by subst z;rw [q] at mu;exact nm mu
  refine ⟨fun b u q n _ _=>k b u (hb b n) q,fun b u q n _ _=>⟨u.slots,k b u (hb b n) q⟩,fun b u q n _=>by rw [qt (hx b n)];exact n,fun b u q _=>?_,
    fun b xs q=>by rw [qt (hm b _ q fun z=>z)];exact q,fun b u xs q=>by rw [qt (hm b _ q fun z=>z)];exact q,fun b ps q=>⟨#[],by rw [qt (hm b _ q fun z=>z),q];simp⟩⟩
  by_cases hbe:b=e
  · subst hbe;exact heo
  · exact ⟨u,k b u hbe q⟩
end
def trk (h:Heap) (H:Hp):List Addr:=(List.range h.objs.size).filter fun a=>(H a).isSome
def ala (h:Heap) (H:Hp):Heap:=PySem.W.hideAll h (trk h H)
theorem aru (h:Heap) (H:Hp):(ala h H).objs.size=h.objs.size:=PySem.W.hideAll_size _ _
theorem asw {h:Heap} {H:Hp} {b:Addr} {o:Obj} (e:h.get? b=some o) (n:H b=none):(ala h H).get? b=some o:=
  PySem.W.hideAll_get _ e fun hm=>by
    have q:(H b).isSome=true:=(List.mem_filter.mp hm).2
    rw [n] at q;simp at q
theorem avm {h:Heap} {H:Hp} {b:Addr} {o:Obj} (e:(ala h H).get? b=some o):h.get? b=some o∧H b=none:=by
  have e':h.get? b=some o:=PySem.W.of_hideAll (trk h H) e
  refine ⟨e',?_⟩
  cases q:H b with
  | none=>rfl
  | some x=>
    have hm:b∈trk h H:=List.mem_filter.mpr ⟨List.mem_range.mpr (Heap.lt_size e'),by simp [q]⟩
    have z:(ala h H).get? b=none:=PySem.W.hideAll_none (trk h H) hm
    rw [z] at e;cases e
end L2
namespace L2
open PySem PySem.Spec PyProof.Rows
structure Mod (K:PySem.W.Frag) (mg:Str→Option Value) (base:Heap):Prop where
  kin:K.In base
  glob:base.Ns mainGlobals mg
  blt:∃ mb,base.Ns builtinsNs mb∧∀ x:Str,x ≠ "__name__" → mb x=bootBuiltins x
  nolimit:base.NoLimit
structure Cx where
  prog:Program
  w:World
  K:PySem.W.Frag
  mg:Str→Option Value
  base:Heap
  A:Around
  N:List Str
  s₀:Shared
  H₀:Hp
  env:Env
  outer:List Env
  stack:List Env
  ex:List Addr
  fn:Str→Bool
  calm:Bool
  pn:List (Addr×Obj)
  xe:Value→Shared→Prop
def frs (l:List Env):List Addr:=l.filterMap (·.frame)
abbrev Cx.fs (X:Cx):List Addr:=frs X.outer
def Vis (sc:Scope) (x:Str):Prop:=sc.names.lookup x=some .local∨sc.names.lookup x=some .cell∨sc.names.lookup x=some .free
def Loc (sc:Scope) (x:Str):Prop:=sc.names.lookup x=some .local∨sc.names.lookup x=some .cell
def a4l (env:Env) (h:Heap) (m:Str→Option Value) (x:Str) (u:Value):Prop:=
  (env.kindOf x=some .local∧m x=some u)∨((env.kindOf x=some .cell∨env.kindOf x=some .free)∧∃ c,env.cells.lookup x=some c∧h.IsCell c (some u))
structure Cx.Ok (X:Cx):Prop where
  mod:Mod X.K X.mg X.base
  kind:X.env.scope.kind=.function
  glob:X.env.globals=mainGlobals
  blt:X.env.builtins=builtinsNs
  above:X.s₀.heap.objs.size≤X.env.locals
  inj:∀ x y c,X.env.cells.lookup x=some c→X.env.cells.lookup y=some c→x=y
  has:∀ x,(X.env.kindOf x=some .cell∨X.env.kindOf x=some .free)→∃ c,X.env.cells.lookup x=some c
  cab:∀ x c,X.fn x=true→X.env.cells.lookup x=some c→X.s₀.heap.objs.size≤c
  hd:X.calm=true→X.A.handled=none
  frames:X.A.frames=some X.stack
  stk:X.stack=X.outer∨(X.stack=X.env::X.outer∧X.env.frame=some X.env.locals)
  exf:∀ b∈X.ex,b≠X.env.locals∧∀ x c,X.env.cells.lookup x=some c→c≠b
  bs:∀ b o,X.base.get? b=some o→X.s₀.heap.get? b=some o∧X.H₀ b=none
  bsz:X.base.objs.size≤X.s₀.heap.objs.size
  noex:∀ b o,X.base.get? b=some o→b∉X.ex
  exfs:∀ b∈X.ex,b∉X.fs
  funs:X.s₀.heap.FunFrames X.base X.outer
  frf:∀ b∈X.fs,X.H₀ b=none
structure Inv (X:Cx) (pins:List (Addr×Obj)) (σ:List (Option V)) (H:Hp) (s:Shared):Prop where
  ok:X.Ok
  os:s.os=X.s₀.os
  bare:AllBare s.gens
  base:Un X.fs X.ex X.H₀ H X.s₀.heap s.heap
  loc:∃ m,s.heap.Ns X.env.locals m∧∀ (i:Nat) (x:Str) (v:V),X.N[i]?=some x→σ[i]?=some (some v)→Vis X.env.scope x→∃ u,RelV v u∧a4l X.env s.heap m x u
  cell:∀ x c,X.env.cells.lookup x=some c→∃ v,s.heap.IsCell c v
  free:H X.env.locals=none
  freeC:∀ x c,X.env.cells.lookup x=some c→H c=none
  pin:∀ p∈X.pn++pins,s.heap.get? p.1=some p.2∧H p.1=none∧p.1≠X.env.locals∧p.1∉X.fs∧∀ v,p.2.data≠.cell v
  hok:HOk X.prog X.w H s.heap
  len:σ.length=X.N.length
  tk:0<s.toks
section
variable {X:Cx} {pins:List (Addr×Obj)} {σ:List (Option V)} {H H':Hp} {s:Shared} {h':Heap}
theorem Cx.Ok.nofr (ok:X.Ok) {b:Addr} {o:Obj} (e:X.base.get? b=some o):b∉X.fs:=fun hb=>by
  have:=(ok.funs.mem hb).1
  rw [e] at this;cases this
theorem Inv.bs (I:Inv X pins σ H s):∀ b o,X.base.get? b=some o→s.heap.get? b=some o∧H b=none:=fun b o e=>
  ⟨I.base.keep b o (I.ok.bs b o e).1 (I.ok.bs b o e).2 (I.ok.nofr e) (I.ok.noex b o e),I.base.free b o (I.ok.bs b o e).1 (I.ok.bs b o e).2 (I.ok.noex b o e)⟩
theorem Inv.bk (I:Inv X pins σ H s):∀ b o,X.base.get? b=some o→s.heap.get? b=some o:=fun b o e=>(I.bs b o e).1
theorem Inv.mod (I:Inv X pins σ H s):Mod X.K X.mg X.base:=I.ok.mod
theorem Inv.kIn (I:Inv X pins σ H s):X.K.In s.heap:=I.ok.mod.kin.keeps I.bk
theorem Inv.lt (I:Inv X pins σ H s):X.env.locals<s.heap.objs.size:=let ⟨_,hn,_⟩:=I.loc;hn.lt
theorem Inv.sz (I:Inv X pins σ H s):X.s₀.heap.objs.size≤s.heap.objs.size:=Nat.le_trans I.ok.above (Nat.le_of_lt I.lt)
theorem Inv.nofs (I:Inv X pins σ H s) {a:Addr} (h:s.heap.objs.size≤a):a∉X.fs:=fun hb=>by
  obtain ⟨_,o,ho,_⟩:=I.ok.funs.mem hb
  exact absurd (Nat.lt_of_lt_of_le (Heap.lt_size ho) (Nat.le_trans I.sz h)) (Nat.lt_irrefl _)
theorem Inv.cne (I:Inv X pins σ H s):∀ x c,X.env.cells.lookup x=some c→c≠X.env.locals:=fun x c e z=>by
  obtain ⟨v,o,ho,hd⟩:=I.cell x c e
  obtain ⟨m,⟨o',es,ep,ho',hd',_⟩,_⟩:=I.loc
  rw [z,ho'] at ho;cases ho;rw [hd'] at hd;cases hd
theorem Inv.funs (I:Inv X pins σ H s):s.heap.FunFrames X.base X.outer:=by
  have all:∀ (l:List Env),(∀ b∈frs l,b∈X.fs)→X.s₀.heap.FunFrames X.base l→s.heap.FunFrames X.base l:=by
    intro l
    induction l with
    | nil=>intro _ _;trivial
    | cons env r ih=>
      intro hs hl
      obtain ⟨hk,⟨L,o,hf,hn,ho,hd⟩,hr⟩:=hl
      have hL:L∈X.fs:=hs L (by unfold frs;rw [List.filterMap_cons,hf];exact List.mem_cons_self)
      obtain ⟨sl,e⟩:=I.base.slot L o ho (I.ok.frf L hL) hL fun z=>I.ok.exfs L z hL
      exact ⟨hk,⟨L,_,hf,hn,e,hd⟩,ih (fun b hb=>hs b (by unfold frs;rw [List.filterMap_cons,hf];exact List.mem_cons_of_mem _ hb)) hr⟩
  exact all X.outer (fun _ hb=>hb) I.ok.funs
theorem Inv.stack (I:Inv X pins σ H s):s.heap.FunFrames X.base X.stack:=by
  rcases I.ok.stk with e | ⟨e,hf⟩
  · rw [e];exact I.funs
  · rw [e]
    obtain ⟨m,hn,_⟩:=I.loc
    refine .cons (by rw [I.ok.kind];decide) hf hn ?_ I.funs
    exact Heap.get?_none_of_le (Nat.le_trans I.ok.bsz I.ok.above)
theorem Inv.stkSub (I:Inv X pins σ H s):∀ b∈frs X.stack,b∈X.env.locals::X.fs:=fun b hb=>by
  rcases I.ok.stk with e | ⟨e,hf⟩
  · rw [e] at hb;exact List.mem_cons_of_mem _ hb
  · rw [e] at hb
    unfold frs at hb
    rw [List.filterMap_cons,hf] at hb
    exact hb
theorem Inv.stkFree (I:Inv X pins σ H s):∀ b∈frs X.stack,H b=none:=fun b hb=>by
  rcases List.mem_cons.mp (I.stkSub b hb) with e | hb
  · rw [e];exact I.free
  · obtain ⟨_,o,ho,_⟩:=I.ok.funs.mem hb
    exact I.base.free b o ho (I.ok.frf b hb) fun z=>I.ok.exfs b z hb
theorem Inv.step {g':Array GenState} {t':Nat} {d':Drawn} {ch:List Addr} (I:Inv X pins σ H s)
    (hch:∀ b∈ch,(b∈X.ex∨X.s₀.heap.objs.size≤b)∧b≠X.env.locals∧(∀ x c,X.env.cells.lookup x=some c→c≠b)∧∀ p∈X.pn++pins,p.1≠b)
    (keep:∀ b o,b≠X.env.locals→b∉X.fs→b∉ch→s.heap.get? b=some o→H b=none→h'.get? b=some o)
    (slot:∀ b o,b≠X.env.locals→b∈X.fs→b∉ch→s.heap.get? b=some o→H b=none→∃ sl,h'.get? b=some { o with slots:=sl }) (free:∀ b o,b∉ch→s.heap.get? b=some o→H b=none→H' b=none)
    (there:∀ b o,b∉ch→s.heap.get? b=some o→∃ o',h'.get? b=some o')
    (tups:∀ b xs,H b=some (.tup xs)→H' b=some (.tup xs)) (frzs:∀ b o u,H b=some (.frz o u)→H' b=some (.frz o u)) (tbls:∀ b ps,H b=some (.tbl ps)→∃ more,H' b=some (.tbl (ps++more)))
    (ns:∀ m,s.heap.Ns X.env.locals m→h'.Ns X.env.locals m) (hok:HOk X.prog X.w H' h') (hg:AllBare g') (ht:0<t':=by (first | assumption | exact Nat.succ_pos _ | exact Inv.tk (by assumption) | exact Nat.lt_of_lt_of_le (Inv.tk (by assumption)) (Nat.le_add_right _ _) | exact Nat.lt_of_lt_of_le (Inv.tk (by assumption)) (by assumption))):
    Inv X pins σ H' { s with heap:=h',gens:=g',drawn:=d',toks:=t' }:=by
  have neL:∀ b o,X.s₀.heap.get? b=some o→b≠X.env.locals:=fun b o e=>Nat.ne_of_lt (Nat.lt_of_lt_of_le (Heap.lt_size e) I.ok.above)
  have neC:∀ b o,X.s₀.heap.get? b=some o→b∉X.ex→b∉ch:=fun b o e hx hb=>by
    rcases (hch b hb).1 with z | z
    · exact hx z
    · exact absurd (Nat.lt_of_lt_of_le (Heap.lt_size e) z) (Nat.lt_irrefl _)
  have cellK:∀ x c,X.env.cells.lookup x=some c→∀ v,s.heap.IsCell c v→h'.IsCell c v:=fun x c e v ⟨o,ho,hd⟩=>by
    have nch:c∉ch:=fun z=>(hch c z).2.2.1 x c e rfl
    by_cases hc:c∈X.fs
    · obtain ⟨sl,q⟩:=slot c o (I.cne x c e) hc nch ho (I.freeC x c e)
      exact ⟨_,q,hd⟩
    · exact ⟨o,keep c o (I.cne x c e) hc nch ho (I.freeC x c e),hd⟩
  refine ⟨I.ok,I.os,hg,⟨fun b o e n hb hx=>?_,fun b o e n hb hx=>?_,fun b o e n hx=>?_,fun b o e hx=>?_,fun b xs e=>tups b xs (I.base.tups b xs e),fun b o xs e=>frzs b o xs (I.base.frzs b o xs e),fun b ps e=>?_⟩,?_,fun x c e=>?_,?_,fun x c e=>?_,fun p hp=>?_,hok,I.len,ht⟩
  · exact keep b o (neL b o e) hb (neC b o e hx) (I.base.keep b o e n hb hx) (I.base.free b o e n hx)
  · obtain ⟨sl,e1⟩:=I.base.slot b o e n hb hx
    obtain ⟨sl',e2⟩:=slot b _ (neL b o e) hb (neC b o e hx) e1 (I.base.free b o e n hx)
    exact ⟨sl',e2⟩
  · obtain ⟨o',e1⟩:=I.base.there b o e hx
    exact free b o' (neC b o e hx) e1 (I.base.free b o e n hx)
  · obtain ⟨o',e1⟩:=I.base.there b o e hx
    exact there b o' (neC b o e hx) e1
  · obtain ⟨m1,e1⟩:=I.base.tbls b ps e
    obtain ⟨m2,e2⟩:=tbls b _ e1
    exact ⟨m1++m2,by rw [e2,Array.append_assoc]⟩
  · obtain ⟨m,hn,hl⟩:=I.loc
    refine ⟨m,ns m hn,fun i x v e1 e2 e3=>?_⟩
    obtain ⟨u,r,l⟩:=hl i x v e1 e2 e3
    refine ⟨u,r,?_⟩
    rcases l with l | ⟨k,c,e,z⟩
    · exact .inl l
    · exact .inr ⟨k,c,e,cellK x c e _ z⟩
  · obtain ⟨v,z⟩:=I.cell x c e
    exact ⟨v,cellK x c e v z⟩
  · obtain ⟨m,⟨o,_,_,ho,_⟩,_⟩:=I.loc
    exact free _ o (fun z=>(hch _ z).2.1 rfl) ho I.free
  · obtain ⟨v,o,ho,hd⟩:=I.cell x c e
    exact free c o (fun z=>(hch c z).2.2.1 x c e rfl) ho (I.freeC x c e)
  · obtain ⟨e,n,ne,nf,d⟩:=I.pin p hp
    have nch:p.1∉ch:=fun z=>(hch p.1 z).2.2.2 p hp rfl
    exact ⟨keep p.1 p.2 ne nf nch e n,free p.1 p.2 nch e n,ne,nf,d⟩
theorem Inv.un {t':Nat} (I:Inv X pins σ H s) (u:Un X.fs [] H H' s.heap h') (hok:HOk X.prog X.w H' h') (ht:0<t':=by (first | assumption | exact Nat.succ_pos _ | exact Inv.tk (by assumption) | exact Nat.lt_of_lt_of_le (Inv.tk (by assumption)) (Nat.le_add_right _ _) | exact Nat.lt_of_lt_of_le (Inv.tk (by assumption)) (by assumption))):Inv X pins σ H' { s with heap:=h',toks:=t' }:=by
  obtain ⟨m,⟨o,es,ep,ho,r⟩,_⟩:=id I.loc
  obtain ⟨sl,hL⟩:=u.any ho I.free (by simp)
  exact I.step (g':=s.gens) (d':=s.drawn) (ch:=[]) (fun _ z=>nomatch z) (fun b o _ hb _ e n=>u.keep b o e n hb (by simp)) (fun b o _ hb _ e n=>u.slot b o e n hb (by simp)) (fun b o _ e n=>u.free b o e n (by simp)) (fun b o _ e=>u.there b o e (by simp)) u.tups u.frzs u.tbls (fun m' hm=>by
    obtain ⟨o',es',ep',ho',r'⟩:=hm
    rw [ho] at ho';cases ho'
    exact ⟨_,es',ep',hL,r'⟩) hok I.bare
theorem Inv.call {g':Array GenState} {t':Nat} {d':Drawn} {ch:List Addr} (I:Inv X pins σ H s) (u:Un (frs X.stack) ch H H' s.heap h') (hok:HOk X.prog X.w H' h') (hg:AllBare g')
    (hch:∀ b∈ch,(b∈X.ex∨X.s₀.heap.objs.size≤b)∧b≠X.env.locals∧(∀ x c,X.env.cells.lookup x=some c→c≠b)∧∀ p∈X.pn++pins,p.1≠b) (ht:0<t':=by (first | assumption | exact Nat.succ_pos _ | exact Inv.tk (by assumption) | exact Nat.lt_of_lt_of_le (Inv.tk (by assumption)) (Nat.le_add_right _ _) | exact Nat.lt_of_lt_of_le (Inv.tk (by assumption)) (by assumption))):
    Inv X pins σ H' { s with heap:=h',gens:=g',drawn:=d',toks:=t' }:=by
  obtain ⟨m,⟨o,es,ep,ho,r⟩,_⟩:=id I.loc
  obtain ⟨sl,hL⟩:=u.any ho I.free fun z=>(hch _ z).2.1 rfl
  exact I.step (ch:=ch) hch (fun b o hL hb hc e n=>u.keep b o e n (fun z=>(List.mem_cons.mp (I.stkSub b z)).elim hL hb) hc) (fun b o _ _ hc e n=>u.any e n hc) (fun b o hc e n=>u.free b o e n hc) (fun b o hc e=>u.there b o e hc) u.tups u.frzs u.tbls (fun m' hm=>by
    obtain ⟨o',es',ep',ho',r'⟩:=hm
    rw [ho] at ho';cases ho'
    exact ⟨_,es',ep',hL,r'⟩) hok hg
theorem Inv.turned {t':Nat} {it:Addr} (I:Inv X pins σ H s) (k:∀ b o,b≠it→s.heap.get? b=some o→h'.get? b=some o) (hn:H it=none) (hL:it≠X.env.locals)
    (h1:it∈X.ex∨X.s₀.heap.objs.size≤it) (h2:∀ x c,X.env.cells.lookup x=some c→c≠it) (h3:∀ p∈X.pn++pins,p.1≠it) (ht:0<t':=by (first | assumption | exact Nat.succ_pos _ | exact Inv.tk (by assumption) | exact Nat.lt_of_lt_of_le (Inv.tk (by assumption)) (Nat.le_add_right _ _) | exact Nat.lt_of_lt_of_le (Inv.tk (by assumption)) (by assumption))):Inv X pins σ H { s with heap:=h',toks:=t' }:=by
  have nit:∀ b u,H b=some u→b≠it:=fun b u e z=>by rw [z,hn] at e;cases e
  refine I.step (g':=s.gens) (d':=s.drawn) (ch:=[it]) (fun b hb=>?_) (fun b o _ _ hc e _=>k b o (fun z=>hc (by simp [z])) e) (fun b o _ _ hc e _=>⟨o.slots,k b o (fun z=>hc (by simp [z])) e⟩) (fun _ _ _ _ n=>n)
    (fun b o hc e=>⟨o,k b o (fun z=>hc (by simp [z])) e⟩) (fun _ _ e=>e) (fun _ _ _ e=>e) (fun b ps e=>⟨#[],by rw [e];simp⟩) (fun m hm=>?_) (fun b u e=>?_) I.bare
  · have e:b=it:=by simpa using hb
    subst e
    exact ⟨h1,hL,h2,h3⟩
  · obtain ⟨o,es,ep,ho,r⟩:=hm
    exact ⟨o,es,ep,k _ o (Ne.symm hL) ho,r⟩
  · refine (I.hok b u e).stay (fun c v hc q=>k c v ?_ q) (fun _ q=>q) fun _ _ q=>q
    rcases hc with z | z
    · rw [z];exact nit b u e
    · exact nit c _ z
theorem Inv.tok (I:Inv X pins σ H s) (t:Nat) (ht:0<t:=by (first | assumption | exact Nat.succ_pos _ | exact Inv.tk (by assumption) | exact Nat.lt_of_lt_of_le (Inv.tk (by assumption)) (Nat.le_add_right _ _) | exact Nat.lt_of_lt_of_le (Inv.tk (by assumption)) (by assumption))):Inv X pins σ H { s with toks:=t }:=I.un (h':=s.heap) (t':=t) Un.refl I.hok
theorem Inv.kept {t':Nat} (I:Inv X pins σ H s) (k:∀ b u,s.heap.get? b=some u→h'.get? b=some u) (ht:0<t':=by (first | assumption | exact Nat.succ_pos _ | exact Inv.tk (by assumption) | exact Nat.lt_of_lt_of_le (Inv.tk (by assumption)) (Nat.le_add_right _ _) | exact Nat.lt_of_lt_of_le (Inv.tk (by assumption)) (by assumption))):Inv X pins σ H { s with heap:=h',toks:=t' }:=I.un (Un.kept k) (I.hok.kept k)
theorem Inv.laid {a:Addr} {o:HO} {t':Nat} (I:Inv X pins σ H s) (k:∀ b u,s.heap.get? b=some u→h'.get? b=some u) (hp:s.heap.objs.size≤a) (new:ObjOk X.prog X.w (upd H a o) h' a o) (ht:0<t':=by (first | assumption | exact Nat.succ_pos _ | exact Inv.tk (by assumption) | exact Nat.lt_of_lt_of_le (Inv.tk (by assumption)) (Nat.le_add_right _ _) | exact Nat.lt_of_lt_of_le (Inv.tk (by assumption)) (by assumption))):
    Inv X pins σ (upd H a o) { s with heap:=h',toks:=t' }:=I.un (Un.laid k hp (I.hok.fresh hp)) (I.hok.laid k hp new)
theorem Inv.write {x e:Addr} {o:HO} {t':Nat} (I:Inv X pins σ H s) (mu:Mut (H x)) (he:e=x∨H e=some (.own x)) (k:∀ b u,b≠e→s.heap.get? b=some u→h'.get? b=some u) (heo:∃ u,h'.get? e=some u)
    (new:ObjOk X.prog X.w (upd H x o) h' x o) (ht:0<t':=by (first | assumption | exact Nat.succ_pos _ | exact Inv.tk (by assumption) | exact Nat.lt_of_lt_of_le (Inv.tk (by assumption)) (Nat.le_add_right _ _) | exact Nat.lt_of_lt_of_le (Inv.tk (by assumption)) (by assumption))):Inv X pins σ (upd H x o) { s with heap:=h',toks:=t' }:=I.un (Un.write mu he k heo) (I.hok.write mu he k heo new)
theorem Inv.weak {σ':List (Option V)} (I:Inv X pins σ H s) (hl:σ'.length=σ.length) (w:∀ (i:Nat) v,σ'[i]?=some (some v)→σ[i]?=some (some v)):Inv X pins σ' H s:=
  ⟨I.ok,I.os,I.bare,I.base,let ⟨m,hn,hl'⟩:=I.loc;⟨m,hn,fun i x v e1 e2 e3=>hl' i x v e1 (w i v e2) e3⟩,I.cell,I.free,I.freeC,I.pin,I.hok,hl.trans I.len,I.tk⟩
theorem Inv.pins_of {pins':List (Addr×Obj)} (I:Inv X pins σ H s) (h:∀ p∈pins',s.heap.get? p.1=some p.2∧H p.1=none∧p.1≠X.env.locals∧p.1∉X.fs∧∀ v,p.2.data≠.cell v):Inv X pins' σ H s:=
  ⟨I.ok,I.os,I.bare,I.base,I.loc,I.cell,I.free,I.freeC,fun p hp=>(List.mem_append.mp hp).elim (fun z=>I.pin p (List.mem_append_left _ z)) (h p),I.hok,I.len,I.tk⟩
theorem ahu {N:List Str} (hN:N.Nodup) {i j:Nat} {x:Str} (a:N[i]?=some x) (b:N[j]?=some x):i=j:=by
  obtain ⟨h1,e1⟩:=List.getElem?_eq_some_iff.mp a
  obtain ⟨h2,e2⟩:=List.getElem?_eq_some_iff.mp b
  exact (List.getElem_inj hN).mp (e1.trans e2.symm)
theorem ajl {M:Model} {A:Around} {E:Value→Shared→Prop} {i:Nat} {x:Str} {v:V} {u:Value} {Q:Unit→Shared→Prop} (I:Inv X pins σ H s) (hN:X.N.Nodup) (hi:X.N[i]?=some x) (hx:Loc X.env.scope x) (r:RelV v u)
    (h:∀ s',Inv X pins (σ.set i (some v)) H s'→(∃ a,Heap.SameBut a s.heap s'.heap∧(a=X.env.locals∨X.env.cells.lookup x=some a))→(X.env.kindOf x=some .local→∃ m',s'.heap.Ns X.env.locals m'∧m' x=some u)→Q () s') (hf:X.fn x=true∨X.env.scope.names.lookup x=some .local:=by first | exact .inl rfl | exact .inr rfl | assumption):wpAny M A (storeName X.env x u) Q E s:=by
  obtain ⟨m,hn,hl⟩:=id I.loc
  have hcls:(X.env.scope.kind==.class||(X.env.scope.kind==.module&&X.env.locals != X.env.globals))=false:=by rw [I.ok.kind];rfl
  have hiσ:i<σ.length:=by rw [I.len];exact (List.getElem?_eq_some_iff.mp hi).1
  have cne:=I.cne
  have tracked:∀ {a:Addr} {h':Heap},(∃ o,s.heap.get? a=some o∧H a=none)→Heap.SameBut a s.heap h'→HOk X.prog X.w H h':=fun {a h'} ha hs b ob e=>by
    obtain ⟨_,_,hfree⟩:=ha
    refine (I.hok b ob e).stay (fun c w' hc q=>(hs.2 c ?_).trans q) (fun _ q=>q) fun _ _ q=>q
    rintro rfl
    rcases hc with rfl | hc
    · rw [hfree] at e;cases e
    · rw [hfree] at hc;cases hc
  rcases hx with hk | hk
  · refine wpAny_storeName_local hk hn (fun h' hn' hs=>?_) hcls
    obtain ⟨oL,_,_,hoL,_⟩:=id hn
    refine h _ ⟨I.ok,I.os,I.bare,⟨fun b o e n hb hx=>?_,fun b o e n hb hx=>?_,I.base.free,fun b o e hx=>?_,I.base.tups,I.base.frzs,I.base.tbls⟩,⟨_,hn',fun j y v' e1 e2 e3=>?_⟩,fun y c e=>?_,I.free,I.freeC,fun p hp=>?_,tracked ⟨oL,hoL,I.free⟩ hs,by simpa using I.len,by first | exact I.tk | exact Nat.succ_pos _⟩ ⟨_,hs,.inl rfl⟩ (fun _=>⟨_,hn',by simp⟩)
    · exact (hs.2 b (Nat.ne_of_lt (Nat.lt_of_lt_of_le (Heap.lt_size e) I.ok.above))).trans (I.base.keep b o e n hb hx)
    · obtain ⟨sl,e1⟩:=I.base.slot b o e n hb hx
      exact ⟨sl,(hs.2 b (Nat.ne_of_lt (Nat.lt_of_lt_of_le (Heap.lt_size e) I.ok.above))).trans e1⟩
    · obtain ⟨o',e1⟩:=I.base.there b o e hx
      exact ⟨o',(hs.2 b (Nat.ne_of_lt (Nat.lt_of_lt_of_le (Heap.lt_size e) I.ok.above))).trans e1⟩
    · by_cases hj:j=i
      · subst hj
        rw [hi] at e1;cases e1
        rw [List.getElem?_set_self hiσ] at e2
        cases e2
        exact ⟨u,r,.inl ⟨hk,by simp⟩⟩
      · rw [List.getElem?_set_ne (Ne.symm hj)] at e2
        obtain ⟨u',r',q⟩:=hl j y v' e1 e2 e3
        refine ⟨u',r',?_⟩
        rcases q with ⟨k,e⟩ | ⟨k,c,e,z⟩
        · refine .inl ⟨k,?_⟩
          have:y≠x:=fun e=>hj (ahu hN e1 (e▸hi))
          simp [this,e]
        · exact .inr ⟨k,c,e,z.sameBut hs (cne y c e)⟩
    · obtain ⟨w',z⟩:=I.cell y c e
      exact ⟨w',z.sameBut hs (cne y c e)⟩
    · obtain ⟨e,n,ne,nf,d⟩:=I.pin p hp
      exact ⟨(hs.2 p.1 ne).trans e,n,ne,nf,d⟩
  · have hfn:X.fn x=true:=by
      rcases hf with z | z
      · exact z
      · rw [z] at hk;cases hk
    obtain ⟨c,hc⟩:=I.ok.has x (.inl hk)
    obtain ⟨w',z⟩:=I.cell x c hc
    refine wpAny_storeName_cell I.ok.kind hk hc z (fun h' hc' hs=>?_)
    obtain ⟨oc,hoc,hocd⟩:=id z
    refine h { s with heap:=h' } ⟨I.ok,I.os,I.bare,⟨fun b o e n hb hx=>?_,fun b o e n hb hx=>?_,I.base.free,fun b o e hx=>?_,I.base.tups,I.base.frzs,I.base.tbls⟩,⟨m,hn.sameBut hs (Ne.symm (cne x c hc)),fun j y v' e1 e2 e3=>?_⟩,fun y c' e=>?_,I.free,I.freeC,fun p hp=>?_,tracked ⟨oc,hoc,I.freeC x c hc⟩ hs,by simpa using I.len,I.tk⟩ ⟨c,hs,.inr hc⟩ (fun z=>by have e:=(show X.env.kindOf x=some .cell from hk).symm.trans z;cases e)
    · exact (hs.2 b (Nat.ne_of_lt (Nat.lt_of_lt_of_le (Heap.lt_size e) (I.ok.cab x c hfn hc)))).trans (I.base.keep b o e n hb hx)
    · obtain ⟨sl,e1⟩:=I.base.slot b o e n hb hx
      exact ⟨sl,(hs.2 b (Nat.ne_of_lt (Nat.lt_of_lt_of_le (Heap.lt_size e) (I.ok.cab x c hfn hc)))).trans e1⟩
    · obtain ⟨o',e1⟩:=I.base.there b o e hx
      exact ⟨o',(hs.2 b (Nat.ne_of_lt (Nat.lt_of_lt_of_le (Heap.lt_size e) (I.ok.cab x c hfn hc)))).trans e1⟩
    · by_cases hj:j=i
      · subst hj
        rw [hi] at e1;cases e1
        rw [List.getElem?_set_self hiσ] at e2
        cases e2
        exact ⟨u,r,.inr ⟨.inl hk,c,hc,hc'⟩⟩
      · rw [List.getElem?_set_ne (Ne.symm hj)] at e2
        obtain ⟨u',r',q⟩:=hl j y v' e1 e2 e3
        refine ⟨u',r',?_⟩
        rcases q with q | ⟨k,c',e,z'⟩
        · exact .inl q
        · refine .inr ⟨k,c',e,z'.sameBut hs ?_⟩
          rintro rfl
          exact hj (ahu hN e1 (I.ok.inj _ _ _ e hc▸hi))
    · by_cases hcc:c'=c
      · subst hcc;exact ⟨_,hc'⟩
      · obtain ⟨w2,z2⟩:=I.cell y c' e
        exact ⟨w2,z2.sameBut hs hcc⟩
    · obtain ⟨e,n,ne,nf,d⟩:=I.pin p hp
      refine ⟨(hs.2 p.1 ?_).trans e,n,ne,nf,d⟩
      intro q
      rw [q,hoc] at e
      have q':oc=p.2:=Option.some.inj e
      exact d w' (by rw [← q'];exact hocd)
theorem aam {M:Model} {A:Around} {E:Value→Shared→Prop} {i:Nat} {x:Str} {v:V} {u:Value} {Q:Unit→Shared→Prop} (I:Inv X pins σ H s) (hN:X.N.Nodup) (hi:X.N[i]?=some x) (hx:Loc X.env.scope x) (r:RelV v u)
    (h:∀ s',Inv X pins (σ.set i (some v)) H s'→Q () s') (hf:X.fn x=true∨X.env.scope.names.lookup x=some .local:=by first | exact .inl rfl | exact .inr rfl | assumption):wpAny M A (storeName X.env x u) Q E s:=
  ajl I hN hi hx r (fun s' I' _ _=>h s' I') hf
theorem Inv.call' {s':Shared} {ch:List Addr} (I:Inv X pins σ H s) (ho:s'.os=s.os) (u:Un (frs X.stack) ch H H' s.heap s'.heap) (hok:HOk X.prog X.w H' s'.heap) (hg:AllBare s'.gens)
    (hch:∀ b∈ch,(b∈X.ex∨X.s₀.heap.objs.size≤b)∧b≠X.env.locals∧(∀ x c,X.env.cells.lookup x=some c→c≠b)∧∀ p∈X.pn++pins,p.1≠b) (ht:0<s'.toks:=by (first | assumption | exact Nat.succ_pos _ | exact Inv.tk (by assumption) | exact Nat.lt_of_lt_of_le (Inv.tk (by assumption)) (Nat.le_add_right _ _) | exact Nat.lt_of_lt_of_le (Inv.tk (by assumption)) (by assumption))):Inv X pins σ H' s':=by
  obtain ⟨h',g',d',t',o'⟩:=s'
  have e:o'=s.os:=ho
  subst e
  exact I.call (g':=g') (t':=t') (d':=d') u hok hg hch ht
end
abbrev XK:=Value→Option Addr→Hp→Prop
abbrev St:=List (Option V)
abbrev VK:=V→Hp→Prop
abbrev TE:=St→Hp→VK→Prop
abbrev TT:=St→Hp→(Bool→Hp→Prop)→Prop
abbrev TA:=St→Hp→(List V→Hp→Prop)→Prop
structure Ends where
  nx:St→Hp→Prop
  rt:VK
  bk:St→Hp→Prop:=fun _ _=>False
  ct:St→Hp→Prop:=fun _ _=>False
abbrev TS:=Ends→St→Hp→Prop
def EP (X:Cx) (pins:List (Addr×Obj)) (σ:St) (Q:VK) (u:Value) (s':Shared):Prop:=∃ v H',Inv X pins σ H' s'∧RelV v u∧Q v H'
def TP (X:Cx) (pins:List (Addr×Obj)) (σ:St) (Q:Bool→Hp→Prop) (b:Bool) (s':Shared):Prop:=∃ H',Inv X pins σ H' s'∧Q b H'
def AP (X:Cx) (pins:List (Addr×Obj)) (σ:St) (Q:List V→Hp→Prop) (us:List Value) (s':Shared):Prop:=∃ vs H',Inv X pins σ H' s'∧Vals vs us∧Q vs H'
def SP (X:Cx) (pins:List (Addr×Obj)) (D:Ends) (f:Flow) (s':Shared):Prop:=
  match f with
  | .next=>∃ σ' H',Inv X pins σ' H' s'∧D.nx σ' H'
  | .brk=>∃ σ' H',Inv X pins σ' H' s'∧D.bk σ' H'
  | .cont=>∃ σ' H',Inv X pins σ' H' s'∧D.ct σ' H'
  | .ret u=>∃ v σ' H',Inv X pins σ' H' s'∧RelV v u∧D.rt v H'
def PE (X:Cx) (e:Expr) (t:TE):Prop:=
  ∀ (pins:List (Addr×Obj)) (s:Shared) (σ:St) (H:Hp) (Q:VK),Inv X pins σ H s→t σ H Q→wpAny (model X.prog X.w) X.A (eval e X.env) (EP X pins σ Q) X.xe s
def PT (X:Cx) (e:Expr) (t:TT):Prop:=
  ∀ (pins:List (Addr×Obj)) (s:Shared) (σ:St) (H:Hp) (Q:Bool→Hp→Prop),Inv X pins σ H s→t σ H Q→wpAny (model X.prog X.w) X.A (isTrue e X.env (eval e X.env)) (TP X pins σ Q) X.xe s
def PW (X:Cx) (e:Expr) (t:TT):Prop:=
  ∀ (whole:Sem Value) (pins:List (Addr×Obj)) (s:Shared) (σ:St) (H:Hp) (Q:Bool→Hp→Prop),Inv X pins σ H s→t σ H Q→wpAny (model X.prog X.w) X.A (isTrue e X.env whole) (TP X pins σ Q) X.xe s
theorem PW.pt {X:Cx} {e:Expr} {t:TT} (h:PW X e t):PT X e t:=h _
def PA (X:Cx) (es:List Expr) (t:TA):Prop:=
  ∀ (pos:Pos) (pins:List (Addr×Obj)) (s:Shared) (σ:St) (H:Hp) (Q:List V→Hp→Prop),Inv X pins σ H s→t σ H Q→wpAny (model X.prog X.w) X.A (spliced (backTo pos (starEach es X.env))) (AP X pins σ Q) X.xe s
def PS (X:Cx) (st:Stmt) (t:TS):Prop:=
  ∀ (pins:List (Addr×Obj)) (s:Shared) (σ:St) (H:Hp) (D:Ends),Inv X pins σ H s→t D σ H→wpAny (model X.prog X.w) X.A (exec st X.env) (SP X pins D) X.xe s
def PSs (X:Cx) (st:List Stmt) (t:TS):Prop:=
  ∀ (pins:List (Addr×Obj)) (s:Shared) (σ:St) (H:Hp) (D:Ends),Inv X pins σ H s→t D σ H→wpAny (model X.prog X.w) X.A (execs st X.env) (SP X pins D) X.xe s
theorem thn {α:Type} {t:Sem α} {Q Q':α→Shared→Prop} {M:Model} {A:Around} {E:Value→Shared→Prop} {s:Shared} (h:wpAny M A t Q E s) (hQ:∀ a s,Q a s→Q' a s):wpAny M A t Q' E s:=wpAny_mono h hQ fun _ _ x=>x
end L2
namespace L2
open PySem PySem.Spec PyProof.Rows
section
variable {X:Cx}
def azt (i:Nat):TE:=fun σ H Q=>∃ v,σ[i]?=some (some v)∧Q v H
def tC (v:V):TE:=fun _ H Q=>Q v H
theorem a0m {i:Nat} {x:Str} {pos:Pos} (hN:X.N[i]?=some x) (hv:Vis X.env.scope x) (hd:(x==("__debug__" : Str))=false:=by decide) (hcd:(x==("__classdict__" : Str))=false:=by decide):PE X (.Name x pos) (azt i):=by
  intro pins s σ H Q I h
  obtain ⟨v,e,h⟩:=h
  obtain ⟨m,hn,hl⟩:=I.loc
  obtain ⟨u,r,l⟩:=hl i x v hN e hv
  have fin:EP X pins σ Q u s:=⟨v,H,I,r,h⟩
  rcases l with ⟨hk,hm⟩ | ⟨hk,c,hc,hcell⟩
  · exact wpAny_Name (wpAny_loadName_local I.ok.kind hk hn hm fin) hd
  · rcases hk with hk | hk
    · exact wpAny_Name (wpAny_loadName_cell I.ok.kind hk hc hcell fin) hd
    · exact wpAny_Name (wpAny_loadName_free I.ok.kind hk hc hcell fin hcd) hd
theorem a0r {i j pos}:PE X (.Constant (.int i) j pos) (tC (.int i)):=fun _ _ _ H _ I h=>wpAny_Constant_int ⟨.int i,H,I.tok _,⟨_,rfl⟩,h⟩
theorem a3f {b j pos}:PE X (.Constant (.bool b) j pos) (tC (.bl b)):=fun _ _ _ H _ I h=>Constant_bool ⟨.bl b,H,I,rfl,h⟩
theorem a16 {j pos}:PE X (.Constant .none j pos) (tC .non):=fun _ _ _ H _ I h=>Constant_none ⟨.non,H,I,rfl,h⟩
theorem ahc {x j pos}:PE X (.Constant (.str x) j pos) (tC (.str x)):=fun _ _ _ H _ I h=>Calls.Constant_str ⟨.str x,H,I.tok _,⟨_,rfl⟩,h⟩
def Gl (X:Cx) (x:Str):Prop:=X.env.kindOf x=some .globalImplicit
theorem acl {E:Value→Shared→Prop} {pins:List (Addr×Obj)} {s:Shared} {σ:St} {H:Hp} {x:Str} {u:Value} {pos:Pos} {Q:Value→Shared→Prop} (I:Inv X pins σ H s) (hg:Gl X x) (hm:X.mg x=some u) (h:Q u s)
    (hd:(x==("__debug__" : Str))=false:=by decide):wpAny (model X.prog X.w) X.A (eval (.Name x pos) X.env) Q E s:=
  Calls.Name_function_global I.ok.kind hg (Calls.loadGlobal_global (by rw [I.ok.glob];exact I.mod.glob.keeps I.bk) hm h) hd
theorem ahs {E:Value→Shared→Prop} {pins:List (Addr×Obj)} {s:Shared} {σ:St} {H:Hp} {x:Str} {u:Value} {pos:Pos} {Q:Value→Shared→Prop} (I:Inv X pins σ H s) (hg:Gl X x) (hm:X.mg x=none) (hv:bootBuiltins x=some u) (h:Q u s)
    (hn:x ≠ "__name__" := by decide) (hd:(x==("__debug__" : Str))=false:=by decide):wpAny (model X.prog X.w) X.A (eval (.Name x pos) X.env) Q E s:=by
  obtain ⟨mb,h1,h2⟩:=I.mod.blt
  exact Calls.Name_function_global I.ok.kind hg (Calls.loadGlobal_builtin (by rw [I.ok.glob];exact I.mod.glob.keeps I.bk) hm (by rw [I.ok.blt];exact h1.keeps I.bk) ((h2 x hn).trans hv) h) hd
theorem ax9 {x:Str} {v:V} {u:Value} {pos:Pos} (hg:Gl X x) (hm:X.mg x=some u) (r:RelV v u) (hd:(x==("__debug__" : Str))=false:=by decide):PE X (.Name x pos) (tC v):=
  fun _ _ _ H _ I h=>acl I hg hm ⟨v,H,I,r,h⟩ hd
theorem aw3 {x:Str} {v:V} {u:Value} {pos:Pos} (hg:Gl X x) (hm:X.mg x=none) (hv:bootBuiltins x=some u) (r:RelV v u) (hn:x ≠ "__name__" := by decide) (hd:(x==("__debug__" : Str))=false:=by decide):PE X (.Name x pos) (tC v):=
  fun _ _ _ H _ I h=>ahs I hg hm hv ⟨v,H,I,r,h⟩ hn hd
variable {a b:Expr} {ta tb:TE} {pos:Pos}
def PC (X:Cx) (op:CmpOp) (a b:Expr) (t:TE):Prop:=
  ∀ (pins:List (Addr×Obj)) (s:Shared) (σ:St) (H:Hp) (Q:VK),Inv X pins σ H s→t σ H Q→
    wpAny (model X.prog X.w) X.A (eval a X.env) (fun v s₁=>wpAny (model X.prog X.w) X.A (eval b X.env) (fun u s₂=>wpAny (model X.prog X.w) X.A (compareOp op v u) (EP X pins σ Q) X.xe s₂) X.xe s₁) X.xe s
theorem as1 (b:Expr) {op:CmpOp} (h:op≠.In) (h2:op≠.NotIn):behindInMarks op b=false:=by
  have e1:(op==CmpOp.In)=false:=by cases op<;>first | rfl | exact absurd rfl h
  have e2:(op==CmpOp.NotIn)=false:=by cases op<;>first | rfl | exact absurd rfl h2
  cases b<;>simp [behindInMarks,e1,e2]
def a2h (ta:TE):TE:=fun σ H Q=>ta σ H fun x H1=>Q (.bl (decide (x=.non))) H1
def aym (ta:TE):TE:=fun σ H Q=>ta σ H fun x H1=>Q (.bl (!decide (x=.non))) H1
theorem RelV.none_iff {x:V} {v:Value} (r:RelV x v):(v==Value.none)=decide (x=.non):=by
  cases x with
  | non=>cases r;rfl
  | bl _=>cases r;rfl
  | int _=>obtain ⟨t,rfl⟩:=r;rfl
  | str _=>obtain ⟨t,rfl⟩:=r;rfl
  | byt _=>obtain ⟨t,rfl⟩:=r;rfl
  | flt _=>obtain ⟨t,rfl⟩:=r;rfl
  | ref _=>cases r;rfl
  | ty _=>cases r;rfl
theorem azk {j pos'} (ha:PE X a ta):PC X .Is a (.Constant .none j pos') (a2h ta):=by
  intro pins s σ H Q I h
  refine thn (ha pins s σ H _ I h) fun v s1 ⟨x,H1,I1,r1,q1⟩=>?_
  exact Constant_none (is_none_gen ⟨.bl _,H1,I1,by rw [r1.none_iff];rfl,q1⟩)
theorem aw7 {j pos'} (ha:PE X a ta):PC X .IsNot a (.Constant .none j pos') (aym ta):=by
  intro pins s σ H Q I h
  refine thn (ha pins s σ H _ I h) fun v s1 ⟨x,H1,I1,r1,q1⟩=>?_
  exact Constant_none (isnot_none_gen ⟨.bl _,H1,I1,by rw [r1.none_iff];rfl,q1⟩)
def tB (t:TE):TT:=fun σ H Q=>t σ H fun x H1=>∃ c,x=.bl c∧Q c H1
theorem asu {op:CmpOp} {t:TE} (h:PC X op a b t) (h1:behindInMarks op b=false:=by first | exact as1 _ (by decide) (by decide) | rfl):PT X (.Compare a [op] [b] pos) (tB t):=by
  intro pins s σ H Q I hw
  refine wpAny_isTrue_Compare1 (thn (h pins s σ H _ I hw) fun v s1 h1=>thn h1 fun u s2 h2=>thn h2 fun c s3 ⟨x,H1,I1,r1,q1⟩=>?_) h1
  obtain ⟨d,rfl,q⟩:=q1
  cases r1
  exact wpAny_truthy_bool ⟨H1,I1,q⟩
theorem a20 {e:Expr} {t:TE} (h:PE X e t) (he:∀ whole,isTrue e X.env whole=(do let v ← whole;standAt e.pos;holding [v] (truthy v)):=by intro _;rfl):PT X e (tB t):=by
  intro pins s σ H Q I hw
  refine isTrue_plain (thn (h pins s σ H _ I hw) fun v s1 ⟨x,H1,I1,r1,q1⟩=>?_) (he _)
  obtain ⟨d,rfl,q⟩:=q1
  cases r1
  exact wpAny_truthy_bool ⟨H1,I1,q⟩
variable {tA tB':TT} {rest:List Expr}
def a53 (t u:TT):TT:=fun σ H Q=>t σ H fun c H1=>if c=true then u σ H1 Q else Q false H1
def tOr (t u:TT):TT:=fun σ H Q=>t σ H fun c H1=>if c=true then Q true H1 else u σ H1 Q
def a4m (t:TT):TT:=fun σ H Q=>t σ H fun c H1=>Q (!c) H1
theorem awm (ha:PT X a tA):PW X (.BoolOp .And [a] pos) tA:=by
  intro wh pins s σ H Q I h
  refine isTrue_and (thn (ha pins s σ H Q I h) fun c s1 e=>?_)
  cases c with
  | true=>exact isTrue_and_nil e
  | false=>exact e
theorem a07 (ha:PT X a tA):PW X (.BoolOp .Or [a] pos) tA:=by
  intro wh pins s σ H Q I h
  refine isTrue_or (thn (ha pins s σ H Q I h) fun c s1 e=>?_)
  cases c with
  | false=>exact isTrue_or_nil e
  | true=>exact e
theorem a0a (ha:PT X a tA) (hb:PW X (.BoolOp .And (b::rest) pos) tB'):PW X (.BoolOp .And (a::b::rest) pos) (a53 tA tB'):=by
  intro wh pins s σ H Q I h
  refine isTrue_and (thn (ha pins s σ H _ I h) fun c s1 ⟨H1,I1,q1⟩=>?_)
  cases c with
  | true=>exact hb wh pins s1 σ H1 Q I1 q1
  | false=>exact ⟨H1,I1,q1⟩
theorem a3h (ha:PT X a tA) (hb:PW X (.BoolOp .Or (b::rest) pos) tB'):PW X (.BoolOp .Or (a::b::rest) pos) (tOr tA tB'):=by
  intro wh pins s σ H Q I h
  refine isTrue_or (thn (ha pins s σ H _ I h) fun c s1 ⟨H1,I1,q1⟩=>?_)
  cases c with
  | true=>exact ⟨H1,I1,q1⟩
  | false=>exact hb wh pins s1 σ H1 Q I1 q1
theorem a1l (ha:PT X a tA):PT X (.UnaryOp .Not a pos) (a4m tA):=by
  intro pins s σ H Q I h
  exact isTrue_not (ha pins s σ H (fun c H1=>Q (!c) H1) I h)
def a2x (ta tb:TE):TE:=fun σ H Q=>ta σ H fun x H1=>∃ c,x=.bl c∧if c=true then tb σ H1 Q else Q (.bl false) H1
def a49 (ta tb:TE):TE:=fun σ H Q=>ta σ H fun x H1=>∃ c,x=.bl c∧if c=true then Q (.bl true) H1 else tb σ H1 Q
def a2o (ta:TE):TE:=fun σ H Q=>ta σ H fun x H1=>∃ c,x=.bl c∧Q (.bl (!c)) H1
theorem a1y {op} {t:TE} (h:PE X a t):PE X (.BoolOp op [a] pos) t:=fun pins s σ H Q I hw=>BoolOp_one (h pins s σ H Q I hw)
theorem a0o (ha:PE X a ta) (hb:PE X (.BoolOp .And (b::rest) pos) tb):PE X (.BoolOp .And (a::b::rest) pos) (a2x ta tb):=by
  intro pins s σ H Q I h
  refine BoolOp_and (thn (ha pins s σ H _ I h) fun v s1 ⟨x,H1,I1,r1,q1⟩=>?_)
  obtain ⟨c,rfl,q1⟩:=q1
  cases r1
  refine wpAny_truthy_bool ?_
  cases c with
  | true=>exact hb pins s1 σ H1 Q I1 q1
  | false=>exact ⟨.bl false,H1,I1,rfl,q1⟩
theorem a34 (ha:PE X a ta) (hb:PE X (.BoolOp .Or (b::rest) pos) tb):PE X (.BoolOp .Or (a::b::rest) pos) (a49 ta tb):=by
  intro pins s σ H Q I h
  refine BoolOp_or (thn (ha pins s σ H _ I h) fun v s1 ⟨x,H1,I1,r1,q1⟩=>?_)
  obtain ⟨c,rfl,q1⟩:=q1
  cases r1
  refine wpAny_truthy_bool ?_
  cases c with
  | false=>exact hb pins s1 σ H1 Q I1 q1
  | true=>exact ⟨.bl true,H1,I1,rfl,q1⟩
theorem a0c (ha:PE X a ta):PE X (.UnaryOp .Not a pos) (a2o ta):=by
  intro pins s σ H Q I h
  refine UnaryOp_ (thn (ha pins s σ H _ I h) fun v s1 ⟨x,H1,I1,r1,q1⟩=>?_)
  obtain ⟨c,rfl,q1⟩:=q1
  cases r1
  exact not_of (wpAny_truthy_bool ⟨.bl (!c),H1,I1,rfl,q1⟩)
def tIf (t:TT) (ta tb:TE):TE:=fun σ H Q=>t σ H fun c H1=>if c=true then ta σ H1 Q else tb σ H1 Q
theorem atr {c:Expr} (hc:PT X c tA) (ha:PE X a ta) (hb:PE X b tb):PE X (.IfExp c a b pos) (tIf tA ta tb):=by
  intro pins s σ H Q I h
  refine wpAny_IfExp (thn (hc pins s σ H _ I h) fun d s1 ⟨H1,I1,q1⟩=>?_)
  cases d with
  | true=>exact ha pins s1 σ H1 Q I1 q1
  | false=>exact hb pins s1 σ H1 Q I1 q1
end
end L2
namespace L2
open PySem PySem.Spec PyProof.Rows
def SqL (K:PySem.W.Frag) (H:Hp) (a:Addr) (xs:List V):Prop:=
  Rd H a (.lst xs)∨
    ∃ (o:Obj) (its:Array Value) (n:Nat),K.lookup a=some o∧o.cls=.type "list" ∧ o.dict=none∧o.data=.seq its n∧its.size≤sizeLine∧Vals xs its.toList
def SqT (K:PySem.W.Frag) (H:Hp) (a:Addr) (xs:List V):Prop:=
  Rd H a (.tup xs)∨
    ∃ (o:Obj) (its:Array Value) (n:Nat),K.lookup a=some o∧o.cls=.type "tuple" ∧ o.data=.seq its n∧its.size≤sizeLine∧Vals xs its.toList
def a5t:Value→Option V
  | .none=>some .non
  | .bool b=>some (.bl b)
  | .int i _=>some (.int i)
  | .str x _=>some (.str x)
  | .bytes b _=>some (.byt b)
  | .float b _=>some (.flt b)
  | .ref a=>some (.ref a)
  | .type n=>some (.ty n)
  | _=>none
theorem RelV.abs {x:V} {u:Value} (r:RelV x u):a5t u=some x:=by
  cases x with
  | non=>cases r;rfl
  | bl _=>cases r;rfl
  | int _=>obtain ⟨t,rfl⟩:=r;rfl
  | str _=>obtain ⟨t,rfl⟩:=r;rfl
  | byt _=>obtain ⟨t,rfl⟩:=r;rfl
  | flt _=>obtain ⟨t,rfl⟩:=r;rfl
  | ref _=>cases r;rfl
  | ty _=>cases r;rfl
theorem RelV.inj {x y:V} {u:Value} (r:RelV x u) (q:RelV y u):x=y:=Option.some.inj (r.abs.symm.trans q.abs)
theorem Vals.inj:∀ {xs ys:List V} {us:List Value},Vals xs us→Vals ys us→xs=ys
  | _,_,_,.nil,.nil=>rfl
  | _,_,_,.cons r t,.cons r' t'=>by rw [r.inj r',Vals.inj t t']
section
variable {X:Cx} {pins:List (Addr×Obj)} {σ:St} {H:Hp} {s:Shared} {a:Addr} {xs ys:List V}
theorem SqL.of {K:PySem.W.Frag} (h:H a=some (.lst xs)):SqL K H a xs:=.inl (.inl h)
theorem SqT.of {K:PySem.W.Frag} (h:H a=some (.tup xs)):SqT K H a xs:=.inl (.inl h)
theorem Inv.list (I:Inv X pins σ H s) (h:SqL X.K H a xs):∃ its:List Value,Vals xs its∧PlainL s.heap a its.toArray∧xs.length≤sizeLine:=by
  rcases h with h | ⟨o,its,n,hk,hc,hd,hs,hz,r⟩
  · obtain ⟨z,its,n,r,e⟩:=h.ok I.hok
    exact ⟨its,r,⟨_,n,e,rfl,rfl,rfl⟩,z⟩
  · refine ⟨its.toList,r,⟨o,n,I.kIn a o hk,hc,hd,by simpa using hs⟩,?_⟩
    have e:=r.length
    simp only [Array.length_toList] at e
    omega
theorem Inv.tuple (I:Inv X pins σ H s) (h:SqT X.K H a xs):∃ its:List Value,Vals xs its∧IsTup s.heap a its.toArray∧xs.length≤sizeLine:=by
  rcases h with h | ⟨o,its,n,hk,hc,hs,hz,r⟩
  · obtain ⟨z,its,r,p⟩:=h.ok I.hok
    exact ⟨its,r,p,z⟩
  · refine ⟨its.toList,r,⟨o,I.kIn a o hk,hc,n,by simpa using hs⟩,?_⟩
    have e:=r.length
    simp only [Array.length_toList] at e
    omega
theorem Inv.list_inj (I:Inv X pins σ H s) (h:SqL X.K H a xs) (h':SqL X.K H a ys):xs=ys:=by
  obtain ⟨its,r,⟨o,n,e,_,_,d⟩,_⟩:=I.list h
  obtain ⟨its',r',⟨o',n',e',_,_,d'⟩,_⟩:=I.list h'
  rw [e] at e';cases e'
  rw [d] at d'
  injection d' with d1 _
  have:its=its':=by simpa using congrArg Array.toList d1
  subst this
  exact r.inj r'
theorem Inv.tuple_inj (I:Inv X pins σ H s) (h:SqT X.K H a xs) (h':SqT X.K H a ys):xs=ys:=by
  obtain ⟨its,r,⟨o,e,_,n,d⟩,_⟩:=I.tuple h
  obtain ⟨its',r',⟨o',e',_,n',d'⟩,_⟩:=I.tuple h'
  rw [e] at e';cases e'
  rw [d] at d'
  injection d' with d1 _
  have:its=its':=by simpa using congrArg Array.toList d1
  subst this
  exact r.inj r'
end
abbrev Cx.wish (X:Cx) (E:Value→Shared→Prop):Cx:={ X with xe:=E }
abbrev Cx.nox (X:Cx):Cx:=X.wish fun _ _=>False
theorem Cx.Ok.wish {X:Cx} (ok:X.Ok) (E:Value→Shared→Prop):(X.wish E).Ok:=
  ⟨ok.mod,ok.kind,ok.glob,ok.blt,ok.above,ok.inj,ok.has,ok.cab,ok.hd,ok.frames,ok.stk,ok.exf,ok.bs,ok.bsz,ok.noex,ok.exfs,ok.funs,ok.frf⟩
theorem Cx.Ok.unwish {X:Cx} {E:Value→Shared→Prop} (ok:(X.wish E).Ok):X.Ok:=
  ⟨ok.mod,ok.kind,ok.glob,ok.blt,ok.above,ok.inj,ok.has,ok.cab,ok.hd,ok.frames,ok.stk,ok.exf,ok.bs,ok.bsz,ok.noex,ok.exfs,ok.funs,ok.frf⟩
section
variable {X:Cx} {pins:List (Addr×Obj)} {σ:St} {H:Hp} {s:Shared} {E:Value→Shared→Prop}
theorem Inv.wish (I:Inv X pins σ H s) (E:Value→Shared→Prop):Inv (X.wish E) pins σ H s:=⟨I.ok.wish E,I.os,I.bare,I.base,I.loc,I.cell,I.free,I.freeC,I.pin,I.hok,I.len,I.tk⟩
theorem Inv.unwish (I:Inv (X.wish E) pins σ H s):Inv X pins σ H s:=⟨I.ok.unwish,I.os,I.bare,I.base,I.loc,I.cell,I.free,I.freeC,I.pin,I.hok,I.len,I.tk⟩
theorem SP.unwish {D:Ends} {f:Flow} {s':Shared} (h:SP (X.wish E) pins D f s'):SP X pins D f s':=by
  cases f with
  | next=>obtain ⟨σ',H',I,q⟩:=h;exact ⟨σ',H',I.unwish,q⟩
  | brk=>obtain ⟨σ',H',I,q⟩:=h;exact ⟨σ',H',I.unwish,q⟩
  | cont=>obtain ⟨σ',H',I,q⟩:=h;exact ⟨σ',H',I.unwish,q⟩
  | ret u=>obtain ⟨v,σ',H',I,r,q⟩:=h;exact ⟨v,σ',H',I.unwish,r,q⟩
theorem PSs.nox {st:List Stmt} {t:TS} (h:PSs X.nox st t):PSs X st t:=fun pins s σ H D I hw=>
  wpAny_mono (h pins s σ H D (I.wish _) hw) (fun _ _ q=>q.unwish) fun _ _ z=>False.elim z
end
section
variable {X:Cx} {st:Stmt} {rest:List Stmt} {t u:TS} {e:Expr} {te:TE} {pos:Pos}
def a2q:TS:=fun D σ H=>D.nx σ H
def a4x (t u:TS):TS:=fun D σ H=>t { D with nx:=u D } σ H
theorem awh:PSs X [] a2q:=fun _ _ σ H _ I h=>wpAny_execs_nil ⟨σ,H,I,h⟩
theorem am5 (h1:PS X st t) (h2:PSs X rest u):PSs X (st::rest) (a4x t u):=by
  intro pins s σ H D I h
  refine wpAny_execs_cons (thn (h1 pins s σ H { D with nx:=u D } I h) fun f s1 q=>?_)
  cases f with
  | next=>
    obtain ⟨σ',H',I',q⟩:=q
    exact h2 pins s1 σ' H' D I' q
  | ret v=>exact q
  | brk=>exact q
  | cont=>exact q
theorem ap3 (h1:PS X st t):PSs X [st] t:=by
  intro pins s σ H D I h
  refine wpAny_execs_cons (thn (h1 pins s σ H D I h) fun f s1 q=>?_)
  cases f with
  | next=>exact wpAny_execs_nil q
  | ret v=>exact q
  | brk=>exact q
  | cont=>exact q
theorem Inv.quiet {pins:List (Addr×Obj)} {σ:St} {H:Hp} {s:Shared} (I:Inv X pins σ H s):interactive X.env=false:=by simp [interactive,I.ok.kind]
def a2r (te:TE):TS:=fun D σ H=>te σ H fun _ H1=>D.nx σ H1
theorem awk (he:PE X e te) (hs:swapsWith e none pos.line X.env=pure false:=by rfl):PS X (.Expr e pos) (a2r te):=by
  intro pins s σ H D I h
  exact wpAny_Expr_any (thn (he pins s σ H _ I h) fun v s1 ⟨x,H1,I1,r1,q1⟩=>⟨σ,H1,I1,q1⟩) I.quiet hs
def a57 (te:TE):TS:=fun D σ H=>te σ H D.rt
theorem azs (he:PE X e te):PS X (.Return (some e) pos) (a57 te):=by
  intro pins s σ H D I h
  exact wpAny_Return_some (thn (he pins s σ H _ I h) fun v s1 ⟨x,H1,I1,r1,q1⟩=>⟨x,σ,H1,I1,r1,q1⟩)
def a4u (c:TT) (t u:TS):TS:=fun D σ H=>c σ H fun b H1=>if b=true then t D σ H1 else u D σ H1
theorem a3v {c:Expr} {a b:List Stmt} {tc:TT} (hc:PT X c tc) (ha:PSs X a t) (hb:PSs X b u):PS X (.If c a b pos) (a4u tc t u):=by
  intro pins s σ H D I h
  refine wpAny_If (thn (hc pins s σ H _ I h) fun d s1 ⟨H1,I1,q1⟩=>?_)
  cases d with
  | true=>exact ha pins s1 σ H1 D I1 q1
  | false=>exact hb pins s1 σ H1 D I1 q1
end
abbrev TG:=V→St→Hp→(St→Hp→Prop)→Prop
abbrev TGs:=List V→St→Hp→(St→Hp→Prop)→Prop
def PG (X:Cx) (target:Expr) (t:TG):Prop:=
  ∀ (pins:List (Addr×Obj)) (s:Shared) (σ:St) (H:Hp) (v:V) (u:Value) (Q:St→Hp→Prop),Inv X pins σ H s→RelV v u→t v σ H Q→
    wpAny (model X.prog X.w) X.A (assign target X.env u) (fun _ s'=>∃ σ' H',Inv X pins σ' H' s'∧Q σ' H') X.xe s
def PGs (X:Cx) (ts:List Expr) (t:TGs):Prop:=
  ∀ (pins:List (Addr×Obj)) (s:Shared) (σ:St) (H:Hp) (vs:List V) (us:List Value) (Q:St→Hp→Prop),Inv X pins σ H s→Vals vs us→t vs σ H Q→
    wpAny (model X.prog X.w) X.A (assignInOrder ((assignEach ts X.env).map (·.2)) us) (fun _ s'=>∃ σ' H',Inv X pins σ' H' s'∧Q σ' H') X.xe s
abbrev a1t:=V→V→V→Hp→(Hp→Prop)→Prop
def a3s (X:Cx) (t:a1t):Prop:=
  ∀ (pins:List (Addr×Obj)) (s:Shared) (σ:St) (H:Hp) (o i v:V) (ov iv u:Value) (Q:Hp→Prop),Inv X pins σ H s→RelV o ov→RelV i iv→RelV v u→t o i v H Q→
    wpAny (model X.prog X.w) X.A (setItem ov iv u) (fun _ s'=>∃ H',Inv X pins σ H' s'∧Q H') X.xe s
abbrev TIp:=V→V→Hp→VK→Prop
def PIp (X:Cx) (op:Operator) (t:TIp):Prop:=
  ∀ (pins:List (Addr×Obj)) (s:Shared) (σ:St) (H:Hp) (x y:V) (v u:Value) (Q:VK),Inv X pins σ H s→RelV x v→RelV y u→t x y H Q→
    wpAny (model X.prog X.w) X.A (inplaceOp op v u) (EP X pins σ Q) X.xe s
section
variable {X:Cx} {pos:Pos}
def abp (i:Nat):TG:=fun v σ H Q=>Q (σ.set i (some v)) H
theorem agr {i:Nat} {x:Str} (hN:X.N.Nodup) (hi:X.N[i]?=some x) (hx:Loc X.env.scope x) (hf:X.fn x=true∨X.env.scope.names.lookup x=some .local:=by first | exact .inl rfl | exact .inr rfl | assumption):PG X (.Name x pos) (abp i):=by
  intro pins s σ H v u Q I r h
  exact wpAny_assign_Name (aam I hN hi hx r (fun s' I'=>⟨_,H,I',h⟩) hf)
def a1q:TGs:=fun vs σ H Q=>vs=[]∧Q σ H
def amy (t:TG) (u:TGs):TGs:=fun vs σ H Q=>∃ v r,vs=v::r∧t v σ H fun σ' H'=>u r σ' H' Q
theorem apg:PGs X [] a1q:=by
  intro pins s σ H vs us Q I r h
  obtain ⟨e,h⟩:=h
  subst e
  cases r
  exact assignInOrder_nil ⟨σ,H,I,h⟩
theorem aia {e:Expr} {es:List Expr} {t:TG} {u:TGs} (h1:PG X e t) (h2:PGs X es u)
    (hs:(assignEach (e::es) X.env).map (·.2)=assign e X.env::(assignEach es X.env).map (·.2):=by rfl):PGs X (e::es) (amy t u):=by
  intro pins s σ H vs us Q I r h
  obtain ⟨v,vr,e1,h⟩:=h
  subst e1
  cases r with
  | cons r rr=>
    rw [hs]
    refine assignInOrder_cons (thn (h1 pins s σ H _ _ _ I r h) fun _ s1 ⟨σ1,H1,I1,q1⟩=>?_)
    exact h2 pins s1 σ1 H1 _ _ Q I1 rr q1
def azg (K:PySem.W.Frag) (n:Nat) (t:TGs):TG:=fun v σ H Q=>∃ a xs,v=.ref a∧SqT K H a xs∧xs.length=n∧t xs σ H Q
theorem auj {es:List Expr} {k:Nat} {t:TGs} {n:Nat} (hc:X.calm=true) (h:PGs X es t)
    (hn:(assignEach es X.env).length=n:=by rfl) (hst:(assignEach es X.env).findIdx? (·.1)=none:=by rfl):PG X (.Tuple es k pos) (azg X.K n t):=by
  intro pins s σ H v u Q I r hw
  obtain ⟨a,xs,e1,hq,hl,hw⟩:=hw
  subst e1
  cases r
  obtain ⟨its,rv,ht,hz⟩:=I.tuple hq
  refine assign_Tuple_tuple (I.ok.hd hc) ht (by simp [hn,← hl,rv.length]) hst fun h' hx=>?_
  have I1:Inv X pins σ H { s with heap:=h' }:=I.kept (t':=s.toks) fun b o e=>hx b o (Nat.ne_of_lt (Heap.lt_size e)) e
  exact h pins _ σ H xs _ Q I1 (by simpa using rv) hw
def a5e (to ti:TE) (t:a1t):TG:=fun v σ H Q=>to σ H fun o H1=>ti σ H1 fun i H2=>t o i v H2 fun H3=>Q σ H3
theorem a0x {o i:Expr} {to ti:TE} {t:a1t} (ho:PE X o to) (hi:PE X i ti) (hs:a3s X t)
    (ha:∀ v,assign (.Subscript o i pos) X.env v=(do
      let ov ← holding [v] (eval o X.env)
      let iv ← holding [v,ov] (eval i X.env)
      standAt pos
      holding [v,ov,iv] (setItem ov iv v)
      release [v,ov,iv] []):=by intro _;rfl):PG X (.Subscript o i pos) (a5e to ti t):=by
  intro pins s σ H v u Q I r h
  rw [ha]
  refine wpAny_bind (wpAny_holding (thn (ho pins s σ H _ I h) fun ov s1 ⟨x,H1,I1,r1,q1⟩=>?_))
  refine wpAny_bind (wpAny_holding (thn (hi pins s1 σ H1 _ I1 q1) fun iv s2 ⟨y,H2,I2,r2,q2⟩=>?_))
  refine wpAny_bind (wpAny_standAt (wpAny_bind (wpAny_holding (thn (hs pins s2 σ H2 x y v ov iv u _ I2 r1 r2 r q2) fun _ s3 ⟨H3,I3,q3⟩=>?_))))
  exact wpAny_release ⟨σ,H3,I3,q3⟩
def a04 (te:TE) (g:TG):TS:=fun D σ H=>te σ H fun x H1=>g x σ H1 D.nx
theorem as8 {tg e:Expr} {te:TE} {g:TG} (he:PE X e te) (hg:PG X tg g) (hs:swapsWithSole [tg] e pos.line X.env=pure false:=by rfl) (hw:swappedStores [tg] e X.env=pure none:=by rfl)
    (h1:(assignEach [tg] X.env).map (·.2)=[assign tg X.env]:=by rfl):PS X (.Assign [tg] e pos) (a04 te g):=by
  intro pins s σ H D I h
  refine wpAny_Assign_stores (thn (he pins s σ H _ I h) fun v s1 ⟨x,H1,I1,r1,q1⟩=>?_) hs hw
  rw [h1]
  exact thn (hg pins s1 σ H1 x v _ I1 r1 q1) fun _ s2 q=>q
theorem ats {i:Nat} {x:Str} {e:Expr} {te:TE} {pos':Pos} (hN:X.N.Nodup) (hi:X.N[i]?=some x) (hx:Loc X.env.scope x) (he:PE X e te) (hs:swapsWith e (some (.Name x pos')) pos.line X.env=pure false:=by rfl) (hf:X.fn x=true∨X.env.scope.names.lookup x=some .local:=by first | exact .inl rfl | exact .inr rfl | assumption):
    PS X (.Assign [.Name x pos'] e pos) (a04 te (abp i)):=by
  intro pins s σ H D I h
  refine wpAny_Assign_Name (thn (he pins s σ H _ I h) fun v s1 ⟨y,H1,I1,r1,q1⟩=>?_) hs
  exact aam I1 hN hi hx r1 (fun s2 I2=>⟨_,H1,I2,q1⟩) hf
def a4q (i j:Nat) (ta:TA):TS:=fun D σ H=>ta σ H fun vs H1=>∃ v w,vs=[v,w]∧D.nx ((σ.set i (some v)).set j (some w)) H1
theorem a0w {i j:Nat} {x y:Str} {a b:Expr} {ta:TA} {px py pt:Pos} {kt k2 pt2} (hc:X.calm=true) (hN:X.N.Nodup) (hi:X.N[i]?=some x) (hj:X.N[j]?=some y) (hij:i≠j)
    (hx:X.env.scope.names.lookup x=some .local) (hy:X.env.scope.names.lookup y=some .local) (ha:PA X [a,b] ta)
    (hw:swappedStores [.Tuple [.Name x px,.Name y py] kt pt] (.Tuple [a,b] k2 pt2) X.env=pure (some [x,y]))
    (hs:swapsWithSole [.Tuple [.Name x px,.Name y py] kt pt] (.Tuple [a,b] k2 pt2) pos.line X.env=pure false:=by rfl):
    PS X (.Assign [.Tuple [.Name x px,.Name y py] kt pt] (.Tuple [a,b] k2 pt2) pos) (a4q i j ta):=by
  intro pins s σ H D I h
  rw [exec_Assign_arm]
  refine wpAny_bind (wpAny_standAt ?_)
  rw [hs]
  refine wpAny_bind (wpAny_pure ?_)
  rw [if_neg (by decide)]
  refine wpAny_bind (Tuple_ (thn (ha _ pins s σ H _ I h) fun us s1 ⟨vs,H1,I1,r1,q1⟩=>?_))
  obtain ⟨v,w,e1,q1⟩:=q1
  subst e1
  obtain ⟨u1,u2,rfl,rv,rw'⟩:∃ u1 u2,us=[u1,u2]∧RelV v u1∧RelV w u2:=by
    cases r1 with
    | cons p q=>
      cases q with
      | cons p' q'=>
        cases q'
        exact ⟨_,_,rfl,p,p'⟩
  refine wpAny_newObj_type ?_ (by show 2≤sizeLine;decide)
  have I2:Inv X pins σ H1 { s1 with heap:=s1.heap.push { cls:=.type "tuple",data:=.seq [u1,u2].toArray } }:=I1.kept (t':=s1.toks) fun b o e=>Heap.get?_push_of_some _ e
  rw [hw]
  refine wpAny_bind (wpAny_pure ?_)
  show wpAny (model X.prog X.w) X.A (do rule "assign.swapped-stores";let items ← unpackItems (.ref s1.heap.objs.size) 2 none;assignInOrder [fun v=>bindName X.env y v,fun v=>bindName X.env x v] items.reverse;pure Flow.next) _ _ _
  refine wpAny_bind (wpAny_rule (wpAny_bind (unpackItems_tuple (items:=#[u1,u2]) (I.ok.hd hc) (IsTup.new s1.heap _) fun h' hx'=>?_)))
  have I3:=I2.kept (h':=h') (t':=s1.toks) fun b o e=>hx' b o (Nat.ne_of_lt (Heap.lt_size e)) e
  show wpAny _ _ (assignInOrder [fun v=>bindName X.env y v,fun v=>bindName X.env x v] [u2,u1] >>= fun _=>pure Flow.next) _ _ _
  refine wpAny_bind (assignInOrder_cons (wpAny_bindName (aam I3 hN hj (.inl hy) rw' (fun s2 I4=>?_) (.inr hy))))
  refine assignInOrder_cons (wpAny_bindName (aam I4 hN hi (.inl hx) rv (fun s3 I5=>assignInOrder_nil (wpAny_pure ?_)) (.inr hx)))
  rw [List.set_comm _ _ (Ne.symm hij)] at I5
  exact ⟨_,H1,I5,q1⟩
def a5f (i:Nat) (te:TE) (ti:TIp):TS:=fun D σ H=>∃ x,σ[i]?=some (some x)∧te σ H fun y H1=>ti x y H1 fun z H2=>D.nx (σ.set i (some z)) H2
theorem a1o {i:Nat} {x:Str} {e:Expr} {te:TE} {op:Operator} {ti:TIp} {pos':Pos} (hN:X.N.Nodup) (hi:X.N[i]?=some x) (hx:Loc X.env.scope x) (he:PE X e te) (ho:PIp X op ti) (hf:X.fn x=true∨X.env.scope.names.lookup x=some .local:=by first | exact .inl rfl | exact .inr rfl | assumption):
    PS X (.AugAssign (.Name x pos') op e pos) (a5f i te ti):=by
  intro pins s σ H D I h
  obtain ⟨v,e1,h⟩:=h
  obtain ⟨m,hn,hl⟩:=I.loc
  have vis:Vis X.env.scope x:=by rcases hx with k | k;exact .inl k;exact .inr (.inl k)
  obtain ⟨u,r,l⟩:=hl i x v hi e1 vis
  refine wpAny_AugAssign_Name ?_
  have go:wpAny (model X.prog X.w) X.A (eval e X.env) (fun w s₂=>wpAny (model X.prog X.w) X.A (inplaceOp op u w) (fun r s₃=>wpAny (model X.prog X.w) X.A (storeName X.env x r) (fun _=>SP X pins D .next) X.xe s₃) X.xe s₂) X.xe s:=by
    refine thn (he pins s σ H _ I h) fun w s1 ⟨y,H1,I1,r1,q1⟩=>?_
    refine thn (ho pins s1 σ H1 v y u w _ I1 r r1 q1) fun z s2 ⟨zv,H2,I2,r2,q2⟩=>?_
    exact aam I2 hN hi hx r2 (fun s3 I3=>⟨_,H2,I3,q2⟩) hf
  rcases l with ⟨hk,hm⟩ | ⟨hk,c,hc,hcell⟩
  · exact wpAny_loadName_local I.ok.kind hk hn hm go
  · rcases hk with hk | hk
    · exact wpAny_loadName_cell I.ok.kind hk hc hcell go
    · rcases hx with k | k
      · have:X.env.scope.names.lookup x=some .free:=hk
        rw [k] at this;cases this
      · have:X.env.scope.names.lookup x=some .free:=hk
        rw [k] at this;cases this
def ipI (f:Int→Int→Int):TIp:=fun x y H Q=>∃ i j,x=.int i∧y=.int j∧Q (.int (f i j)) H
theorem a00:PIp X .Add (ipI fun i j=>i+j):=by
  intro pins s σ H x y v u Q I r1 r2 h
  obtain ⟨i,j,e1,e2,q⟩:=h
  subst e1;subst e2
  obtain ⟨t,rfl⟩:=r1
  obtain ⟨t',rfl⟩:=r2
  exact iadd_int ⟨.int _,H,I.tok _,⟨_,rfl⟩,q⟩
theorem a0b:PIp X .Sub (ipI fun i j=>i - j):=by
  intro pins s σ H x y v u Q I r1 r2 h
  obtain ⟨i,j,e1,e2,q⟩:=h
  subst e1;subst e2
  obtain ⟨t,rfl⟩:=r1
  obtain ⟨t',rfl⟩:=r2
  exact isub_int ⟨.int _,H,I.tok _,⟨_,rfl⟩,q⟩
end
section
variable {X:Cx} {pos:Pos}
def a23 (c:TT) (tb:TS):TS:=fun D σ H=>∃ W:Nat→St→Hp→Prop,(∃ m,W m σ H)∧∀ m σ H,W m σ H→
  c σ H fun b H1=>if b=true then ∃ N:St→Hp→Prop,(∀ σ' H',N σ' H'→∃ m',m'<m∧W m' σ' H')∧tb { D with nx:=N,ct:=N,bk:=D.nx } σ H1 else D.nx σ H1
theorem asi {c:Expr} {body:List Stmt} {tc:TT} {tb:TS} (hp:PassesOwn (model X.prog X.w) X.A X.env X.xe) (hc:PT X c tc) (hb:PSs X body tb):PS X (.While c body [] pos) (a23 tc tb):=by
  intro pins s σ H D I h
  obtain ⟨W,⟨m0,w0⟩,turn⟩:=h
  refine wpAny_While (codeAny_whileLoop (fun n s'=>∃ σ' H',Inv X pins σ' H' s'∧W n σ' H') ?_ m0 ⟨σ,H,I,w0⟩)
  rintro n s1 ⟨σ1,H1,I1,w1⟩
  refine wpAny_passesOwn hp (thn (hc pins s1 σ1 H1 _ I1 (turn n σ1 H1 w1)) fun b s2 ⟨H2,I2,q2⟩=>?_)
  cases b with
  | true=>
    obtain ⟨N,hN,q2⟩:=q2
    rw [if_pos rfl]
    refine wpAny_passesOwn hp (thn (hb pins s2 σ1 H2 _ I2 q2) fun f s3 q3=>?_)
    cases f with
    | next=>
      obtain ⟨σ3,H3,I3,n3⟩:=q3
      obtain ⟨m',hm,w3⟩:=hN σ3 H3 n3
      exact ⟨m',hm,σ3,H3,I3,w3⟩
    | cont=>
      obtain ⟨σ3,H3,I3,n3⟩:=q3
      obtain ⟨m',hm,w3⟩:=hN σ3 H3 n3
      exact ⟨m',hm,σ3,H3,I3,w3⟩
    | brk=>exact q3
    | ret v=>exact q3
  | false=>
    rw [if_neg Bool.false_ne_true]
    exact wpAny_execs_nil ⟨σ1,H2,I2,q2⟩
end
structure It where
  go:Nat→Hp→Prop
  yld:Nat→Hp→V→Hp→Prop
  stop:Nat→Hp→Prop
def ajd (X:Cx) (pins:List (Addr×Obj)) (H:Hp) (b:Addr):Prop:=
  H b=none∧b≠X.env.locals∧b∉X.fs∧(b∈X.ex∨X.s₀.heap.objs.size≤b)∧(∀ x c,X.env.cells.lookup x=some c→c≠b)∧∀ p∈X.pn++pins,p.1≠b
theorem Inv.fpOk {X:Cx} {pins:List (Addr×Obj)} {σ:St} {H H':Hp} {s:Shared} {b:Addr} (I:Inv X pins σ H s) (hb:s.heap.objs.size≤b) (hn:H' b=none):ajd X pins H' b:=by
  refine ⟨hn,Nat.ne_of_gt (Nat.lt_of_lt_of_le I.lt hb),I.nofs hb,.inr (Nat.le_trans I.sz hb),fun x c e z=>?_,fun p hp z=>?_⟩
  · obtain ⟨v,q⟩:=I.cell x c e
    exact absurd (Nat.lt_of_lt_of_le q.lt (by rw [z];exact hb)) (Nat.lt_irrefl _)
  · exact absurd (Nat.lt_of_lt_of_le (Heap.lt_size (I.pin p hp).1) (by rw [z];exact hb)) (Nat.lt_irrefl _)
structure Turn (P:Program) (w:World) (K:PySem.W.Frag) (tg:Expr) (J:It) (fp:List Addr) (it:Addr) (tn:Nat→Heap→Prop):Prop where
  mem:it∈fp
  obj:∀ i h,tn i h→∀ b∈fp,∃ o,h.get? b=some o∧∀ v,o.data≠.cell v
  keep:∀ i h h',tn i h→(∀ b∈fp,∀ o,h.get? b=some o→h'.get? b=some o)→tn i h'
  item:∀ (X:Cx),X.prog=P→X.w=w→X.K=K→X.calm=true→∀ (i:Nat) (pins:List (Addr×Obj)) (s:Shared) (σ:St) (H:Hp) (E:Value→Shared→Prop),Inv X pins σ H s→(∀ b∈fp,ajd X pins H b)→tn i s.heap→J.go i H→
    wpAny (model P w) X.A (pyNext (.ref it)) (fun r s1=>∃ u,r=some u∧
      wpAny (model P w) X.A (letOwnedTupleGo tg (.ref it) u) (fun _ s2=>∃ x H',Inv X pins σ H' s2∧RelV x u∧J.yld i H x H'∧tn (i+1) s2.heap∧∀ b∈fp,H' b=none) E s1) E s
  done:∀ (X:Cx),X.prog=P→X.w=w→X.K=K→X.calm=true→∀ (i:Nat) (pins:List (Addr×Obj)) (s:Shared) (σ:St) (H:Hp) (E:Value→Shared→Prop),Inv X pins σ H s→(∀ b∈fp,ajd X pins H b)→tn i s.heap→J.stop i H→
    wpAny (model P w) X.A (pyNext (.ref it)) (fun r s1=>r=none∧Inv X pins σ H s1) E s
  self:∀ (A:Around) (i:Nat) (s:Shared) (Q:Value→Shared→Prop) (E:Value→Shared→Prop),tn i s.heap→Q (.ref it) s→wpAny (model P w) A (pyIter (.ref it)) Q E s
abbrev TI:=St→Hp→(It→Hp→Prop)→Prop
def PIE (X:Cx) (pins:List (Addr×Obj)) (σ:St) (tg:Expr) (R:It→Hp→Prop) (itv:Value) (s2:Shared):Prop:=
  ∃ (it:Addr) (fp:List Addr) (tn:Nat→Heap→Prop) (J:It) (H':Hp),itv=.ref it∧Inv X pins σ H' s2∧Turn X.prog X.w X.K tg J fp it tn∧tn 0 s2.heap∧(∀ b∈fp,ajd X pins H' b)∧R J H'
def PI (X:Cx) (tg iter:Expr) (wi:TI):Prop:=
  ∀ (pins:List (Addr×Obj)) (s:Shared) (σ:St) (H:Hp) (R:It→Hp→Prop),Inv X pins σ H s→wi σ H R→
    wpAny (model X.prog X.w) X.A (eval iter X.env) (fun v s1=>wpAny (model X.prog X.w) X.A (pyIter v) (PIE X pins σ tg R) X.xe s1) X.xe s
theorem ayx {M:Model} {A:Around} {E:Value→Shared→Prop} {s:Shared} {tg:Expr} {it:Addr} {u:Value} {o:Obj} {n:String} {vs:Array Value} {Q:Unit→Shared→Prop} (ho:s.heap.get? it=some o) (hc:o.cls=.type n) (hd:o.data=.fields vs)
    (hn:["enumerate", "zip", "dict_itemiterator", "dict_reverseitemiterator", "odict_iterator", "itertools.zip_longest", "itertools.pairwise"].contains n=false) (hQ:Q () s):wpAny M A (letOwnedTupleGo tg (.ref it) u) Q E s:=by
  unfold letOwnedTupleGo
  cases tg<;>first
    | exact wpAny_pure hQ
    | (cases u<;>first
        | exact wpAny_pure hQ
        | (refine wpAny_bind (wpAny_load ho ?_)
           rw [hc,hd]
           show wpAny M A (if (["enumerate", "zip", "dict_itemiterator", "dict_reverseitemiterator", "odict_iterator", "itertools.zip_longest", "itertools.pairwise"].contains n&&vs[0]?==some (rawInt _))=true then _ else _) Q E s
           rw [if_neg (by intro h;rw [hn,Bool.false_and] at h;cases h)]
           exact wpAny_pure hQ))
def Itl (K:PySem.W.Frag) (a:Addr):It:=
  ⟨fun i H=>∃ xs x,SqL K H a xs∧xs[i]?=some x,fun i H x H'=>H'=H∧∀ xs,SqL K H a xs→xs[i]?=some x,fun i H=>∃ xs,SqL K H a xs∧xs.length≤i⟩
def Itr (lo:Int) (n:Nat):It:=⟨fun i _=>i<n,fun i H x H'=>H'=H∧x=.int (lo+i),fun i _=>n≤i⟩
theorem aro {P:Program} {w:World} {K:PySem.W.Frag} {tg:Expr} (a it:Addr):Turn P w K tg (Itl K a) [it] it (fun i h=>h.IsListIter it a i) where
  mem:=by simp
  obj:=fun i h st b hb=>by
    have e:b=it:=by simpa using hb
    subst e
    obtain ⟨o,e,c,d⟩:=st
    exact ⟨o,e,fun v z=>by rw [d] at z;cases z⟩
  keep:=fun i h h' st k=>st.at fun o e=>k it (by simp) o e
  item:=by
    intro X hP hw hK hc i pins s σ H E I hf st hg
    subst hP hw hK
    obtain ⟨xs,x,hq,hx⟩:=hg
    obtain ⟨its,rv,p,hz⟩:=I.list hq
    obtain ⟨u,hu,ru⟩:=rv.get hx
    obtain ⟨f0,f1,f2,f3,f4,f5⟩:=hf it (by simp)
    refine wpAny_pyNext_list_item st p.isList (x:=u) (by simpa using hu) fun h' st' sb=>?_
    have I1:Inv X pins σ H { s with heap:=h' }:=I.turned (t':=s.toks) (fun b o hb e=>(sb.2 b hb).trans e) f0 f1 f3 f4 f5
    obtain ⟨o,e,c,d⟩:=id st'
    exact ⟨u,rfl,ayx (s:={ s with heap:=h' }) e c d (by decide) ⟨x,H,I1,ru,⟨rfl,fun ys hy=>by rw [I.list_inj hy hq];exact hx⟩,st',fun b hb=>(hf b hb).1⟩⟩
  done:=by
    intro X hP hw hK hc i pins s σ H E I hf st hg
    subst hP hw hK
    obtain ⟨xs,hq,hx⟩:=hg
    obtain ⟨its,rv,p,hz⟩:=I.list hq
    obtain ⟨f0,f1,f2,f3,f4,f5⟩:=hf it (by simp)
    have hl:=rv.length
    exact wpAny_pyNext_list_end (I.ok.hd hc) st p.isList (by simp;omega) fun h' eb=>⟨rfl,I.turned (t':=s.toks) (fun b o hb e=>eb b o hb e) f0 f1 f3 f4 f5⟩
  self:=fun _ _ _ _ _ st h=>wpAny_pyIter_listiter st h
theorem anx {P:Program} {w:World} {K:PySem.W.Frag} {tg:Expr} (it:Addr) (lo:Int) (n:Nat):Turn P w K tg (Itr lo n) [it] it (fun i h=>IsRangeIter h it (lo+(i:Nat)*1) ((n:Int) - (i:Nat)) 1) where
  mem:=by simp
  obj:=fun i h st b hb=>by
    have e:b=it:=by simpa using hb
    subst e
    exact ⟨_,st,fun v z=>by
      have z':Data.fields _=Data.cell v:=z
      cases z'⟩
  keep:=fun i h h' st k=>k it (by simp) _ st
  item:=by
    intro X hP hw hK hc i pins s σ H E I hf st hg
    subst hP hw hK
    obtain ⟨f0,f1,f2,f3,f4,f5⟩:=hf it (by simp)
    have W:=Walks.range (prog:=X.prog) (w:=X.w) (I.ok.hd hc) it lo 1 n
    refine jn I.tk (W.item i s _ _ hg st fun v h' tk hv st' kk ht=>?_)
    obtain ⟨t,rfl⟩:=hv
    have I1:Inv X pins σ H { s with heap:=h',toks:=tk }:=I.turned (fun b o hb e=>kk b o (by simpa using hb) e) f0 f1 f3 f4 f5
    refine ⟨_,rfl,ayx (s:={ s with heap:=h',toks:=tk }) (n:="range_iterator") st' rfl rfl (by decide) ⟨.int (lo+i),H,I1,⟨t,?_⟩,⟨rfl,rfl⟩,st',fun b hb=>(hf b hb).1⟩⟩
    rw [Int.mul_one]
  done:=by
    intro X hP hw hK hc i pins s σ H E I hf st hg
    subst hP hw hK
    obtain ⟨f0,f1,f2,f3,f4,f5⟩:=hf it (by simp)
    exact wpAny_pyNext_range_end (I.ok.hd hc) st (by have:n≤i:=hg;omega) fun h' eb=>⟨rfl,I.turned (t':=s.toks) (fun b o hb e=>eb b o hb e) f0 f1 f3 f4 f5⟩
  self:=fun _ _ _ _ _ st h=>wpAny_pyIter_rangeiter st h
end L2
namespace L2
open PySem PySem.Spec PyProof.Rows
section
variable {X:Cx} {tg:Expr}
def a2u (K:PySem.W.Frag) (tl:TE):TI:=fun σ H R=>tl σ H fun x H1=>∃ a,x=.ref a∧(∃ xs,SqL K H1 a xs)∧R (Itl K a) H1
theorem aww {l:Expr} {tl:TE} (hl:PE X l tl):PI X tg l (a2u X.K tl):=by
  intro pins s σ H R I h
  refine thn (hl pins s σ H _ I h) fun v s1 ⟨x,H1,I1,r1,q1⟩=>?_
  obtain ⟨a,e,⟨xs,hq⟩,q⟩:=q1
  subst e
  cases r1
  obtain ⟨its,rv,p,hz⟩:=I1.list hq
  refine wpAny_pyIter_list p.isList ?_
  refine ⟨s1.heap.objs.size,[s1.heap.objs.size],_,_,H1,rfl,I1.kept (t':=s1.toks) fun b o e=>Heap.get?_push_of_some _ e,aro a _,⟨_,Heap.get?_push_size _ rfl,rfl,rfl⟩,fun b hb=>?_,q⟩
  have e:b=s1.heap.objs.size:=by simpa using hb
  subst e
  exact I1.fpOk (Nat.le_refl _) (I1.hok.fresh (Nat.le_refl _))
theorem asv {pins:List (Addr×Obj)} {σ:St} {H:Hp} {s:Shared} {R:It→Hp→Prop} {E:Value→Shared→Prop} {lo hi:Int} {t u v:Tok} {tk:Nat} (I:Inv X pins σ H s) (h1 : -(2 ^ 62)≤lo) (h2:lo<2 ^ 62) (h3 : -(2 ^ 62)≤hi) (h4:hi<2 ^ 62)
    (q:R (Itr lo (hi - lo).toNat) H) (ht:0<tk:=by (first | assumption | exact Nat.succ_pos _ | exact Inv.tk (by assumption) | exact Nat.lt_of_lt_of_le (Inv.tk (by assumption)) (Nat.le_add_right _ _) | exact Nat.lt_of_lt_of_le (Inv.tk (by assumption)) (by assumption))):wpAny (model X.prog X.w) X.A (pyIter (.ref s.heap.objs.size)) (PIE X pins σ tg R) E { s with heap:=s.heap.push { cls:=.type "range",data:=.fields #[.int lo t,.int hi u,.int 1 v] },toks:=tk }:=by
  refine wpAny_pyIter_range (IsRange.new ..) (small_one h1 h2 h3 h4) ?_
  have I1:Inv X pins σ H { s with heap:=s.heap.push { cls:=.type "range",data:=.fields #[.int lo t,.int hi u,.int 1 v] },toks:=tk }:=I.kept fun b o e=>Heap.get?_push_of_some _ e
  refine ⟨(s.heap.push { cls:=.type "range",data:=.fields #[.int lo t,.int hi u,.int 1 v] }).objs.size,[(s.heap.push { cls:=.type "range",data:=.fields #[.int lo t,.int hi u,.int 1 v] }).objs.size],_,_,H,rfl,
    I1.kept (t':=tk) fun b o e=>Heap.get?_push_of_some _ e,anx _ lo (hi - lo).toNat,?_,fun b hb=>?_,q⟩
  · have e1:lo+((0:Nat):Int)*1=lo:=by simp
    have e2:(((hi - lo).toNat:Nat):Int) - ((0:Nat):Int)=Builtin.Range.rangeSize lo hi 1:=by rw [rangeSize_one];split<;>omega
    show IsRangeIter _ _ (lo+((0:Nat):Int)*1) ((((hi - lo).toNat:Nat):Int) - ((0:Nat):Int)) 1
    rw [e1,e2]
    exact Heap.get?_push_size _ rfl
  · have e:b=(s.heap.push { cls:=.type "range",data:=.fields #[.int lo t,.int hi u,.int 1 v] }).objs.size:=by simpa using hb
    subst e
    exact I1.fpOk (Nat.le_refl _) (I1.hok.fresh (Nat.le_refl _))
def a31 (ta:TA):TI:=fun σ H R=>ta σ H fun vs H1=>∃ j:Int,vs=[.int j] ∧ -(2 ^ 62)≤j∧j<2 ^ 62∧R (Itr 0 j.toNat) H1
theorem ar5 {a:Expr} {ta:TA} {p pos:Pos} (hg:Gl X "range") (hm:X.mg "range" = none) (ha:PA X [a] ta) (hs:starEach [a] X.env=[(false,eval a X.env)]:=by rfl):PI X tg (.Call (.Name "range" p) [a] [] pos) (a31 ta):=by
  intro pins s σ H R I h
  refine Call_ (ahs I hg hm boot_range (PyProof.Rows.callWith_type1 (thn (ha pos pins s σ H _ I h) fun us s1 ⟨vs,H1,I1,r1,q1⟩=>?_) hs rfl))
  obtain ⟨j,e,q1,q2,q⟩:=q1
  subst e
  cases r1 with
  | cons r rr=>
    cases rr
    obtain ⟨t,rfl⟩:=r
    exact call_range_1 (asv I1 (by omega) (by omega) q1 q2 (by simpa using q))
def a56 (wi:TI) (g:TG) (tb:TS):TS:=fun D σ H=>wi σ H fun J H1=>∃ W:Nat→Nat→St→Hp→Prop,(∃ m,W 0 m σ H1)∧∀ i m σ H,W i m σ H→
  (J.stop i H∧D.nx σ H)∨(J.go i H∧∃ N:St→Hp→Prop,(∀ σ' H',N σ' H'→∃ m',m'<m∧W (i+1) m' σ' H')∧∀ x H',J.yld i H x H'→g x σ H' fun σ2 H2=>tb { D with nx:=N,ct:=N,bk:=D.nx } σ2 H2)
def ail (fp:List Addr) (h:Heap):List (Addr×Obj):=fp.filterMap fun b=>(h.get? b).map fun o=>(b,o)
theorem ab8 {fp:List Addr} {h:Heap} {b:Addr} {o:Obj} (hb:b∈fp) (e:h.get? b=some o):(b,o)∈ail fp h:=List.mem_filterMap.mpr ⟨b,hb,by rw [e];rfl⟩
theorem aqp {fp:List Addr} {h:Heap} {p:Addr×Obj} (hp:p∈ail fp h):p.1∈fp∧h.get? p.1=some p.2:=by
  obtain ⟨b,hb,e⟩:=List.mem_filterMap.mp hp
  cases q:h.get? b with
  | none=>rw [q] at e;cases e
  | some o=>
    rw [q] at e
    have e':(b,o)=p:=Option.some.inj e
    subst e'
    exact ⟨hb,q⟩
theorem Inv.pinned {pins:List (Addr×Obj)} {σ:St} {H:Hp} {s:Shared} {fp:List Addr} (I:Inv X pins σ H s) (hf:∀ b∈fp,ajd X pins H b) (ho:∀ b∈fp,∃ o,s.heap.get? b=some o∧∀ v,o.data≠.cell v):Inv X (pins++ail fp s.heap) σ H s:=
  I.pins_of fun p hp=>(List.mem_append.mp hp).elim (fun z=>I.pin p (List.mem_append_right _ z)) fun z=>by
    obtain ⟨hb,e⟩:=aqp z
    obtain ⟨f0,f1,f2,_⟩:=hf p.1 hb
    obtain ⟨o,e',d⟩:=ho p.1 hb
    rw [e] at e';cases e'
    exact ⟨e,f0,f1,f2,d⟩
theorem Inv.unpinned {pins pl:List (Addr×Obj)} {σ:St} {H:Hp} {s:Shared} (I:Inv X (pins++pl) σ H s):Inv X pins σ H s:=I.pins_of fun p hp=>I.pin p (List.mem_append_right _ (List.mem_append_left _ hp))
theorem a0d {iter:Expr} {body:List Stmt} {wi:TI} {g:TG} {tb:TS} {pos:Pos} (hp:PassesOwn (model X.prog X.w) X.A X.env X.xe) (hc:X.calm=true) (hi:PI X tg iter wi) (hg:PG X tg g) (hb:PSs X body tb)
    (hs:∀ x,foldedSetIterable iter X.env x=pure x:=by intro _;rfl):PS X (.For tg iter body [] pos) (a56 wi g tb):=by
  intro pins s σ H D I h
  refine wpAny_For (thn (hi pins s σ H _ I h) fun v s1 h1=>thn h1 fun itv s2 h2=>?_) hs
  obtain ⟨it,fp,tn,J,H2,e,I2,T,st2,f2,W,⟨m0,w0⟩,turn⟩:=h2
  subst e
  have stat:∀ {H':Hp},(∀ b∈fp,H' b=none)→∀ b∈fp,ajd X pins H' b:=fun hn b hb=>⟨hn b hb,(f2 b hb).2⟩
  refine codeAny_forLoop_any (fun n s'=>∃ i σ' H',Inv X pins σ' H' s'∧tn i s'.heap∧(∀ b∈fp,H' b=none)∧W i n σ' H') ?_ m0 ⟨0,σ,H2,I2,st2,fun b hb=>(f2 b hb).1,w0⟩
  rintro n s3 ⟨i,σ3,H3,I3,st3,fr3,w3⟩
  rcases turn i n σ3 H3 w3 with ⟨stop,qn⟩ | ⟨go,N,hN,step⟩
  · refine wpAny_passesOwn hp (thn (T.done X rfl rfl rfl hc i pins s3 σ3 H3 X.xe I3 (stat fr3) st3 stop) fun r s4 ⟨hr,I4⟩=>?_)
    subst hr
    exact wpAny_execs_nil ⟨σ3,H3,I4,qn⟩
  · refine wpAny_passesOwn hp (thn (T.item X rfl rfl rfl hc i pins s3 σ3 H3 X.xe I3 (stat fr3) st3 go) fun r s4 ⟨u,hr,h4⟩=>?_)
    subst hr
    refine wpAny_passesOwn hp (thn h4 fun _ s5 ⟨x,H5,I5,r5,y5,st5,fr5⟩=>?_)
    have I5':=I5.pinned (stat fr5) (T.obj _ _ st5)
    refine wpAny_passesOwn hp (thn (hg _ s5 σ3 H5 x u _ I5' r5 (step x H5 y5)) fun _ s6 ⟨σ6,H6,I6,q6⟩=>?_)
    refine wpAny_passesOwn hp (thn (hb _ s6 σ6 H6 _ I6 q6) fun f s7 q7=>?_)
    have again:∀ {σ7:St} {H7:Hp},Inv X (pins++ail fp s5.heap) σ7 H7 s7→N σ7 H7→∃ m,m<n∧∃ i σ' H',Inv X pins σ' H' s7∧tn i s7.heap∧(∀ b∈fp,H' b=none)∧W i m σ' H':=fun {σ7 H7} I7 n7=>by
      obtain ⟨m',hm,w7⟩:=hN σ7 H7 n7
      refine ⟨m',hm,i+1,σ7,H7,I7.unpinned,T.keep _ _ _ st5 fun b hb o e=>(I7.pin (b,o) (List.mem_append_right _ (List.mem_append_right _ (ab8 hb e)))).1,fun b hb=>?_,w7⟩
      obtain ⟨o,e,d⟩:=T.obj _ _ st5 b hb
      exact (I7.pin (b,o) (List.mem_append_right _ (List.mem_append_right _ (ab8 hb e)))).2.1
    cases f with
    | next=>obtain ⟨σ7,H7,I7,n7⟩:=q7;exact again I7 n7
    | cont=>obtain ⟨σ7,H7,I7,n7⟩:=q7;exact again I7 n7
    | brk=>obtain ⟨σ7,H7,I7,q7⟩:=q7;exact ⟨σ7,H7,I7.unpinned,q7⟩
    | ret v=>obtain ⟨x7,σ7,H7,I7,r7,q7⟩:=q7;exact ⟨x7,σ7,H7,I7.unpinned,r7,q7⟩
end
end L2
namespace L2
open PySem PySem.Spec PyProof.Rows
abbrev R2:=V→V→Hp→VK→Prop
def OpR (X:Cx) (f:Value→Value→Sem Value) (r:R2):Prop:=
  ∀ (pins:List (Addr×Obj)) (s:Shared) (σ:St) (H:Hp) (x y:V) (v u:Value) (Q:VK),Inv X pins σ H s→RelV x v→RelV y u→r x y H Q→
    wpAny (model X.prog X.w) X.A (f v u) (EP X pins σ Q) X.xe s
def UnR (X:Cx) (f:Value→Sem Value) (r:V→Hp→VK→Prop):Prop:=
  ∀ (pins:List (Addr×Obj)) (s:Shared) (σ:St) (H:Hp) (x:V) (v:Value) (Q:VK),Inv X pins σ H s→RelV x v→r x H Q→
    wpAny (model X.prog X.w) X.A (f v) (EP X pins σ Q) X.xe s
def CallR (X:Cx) (f:Value) (r:List V→Hp→VK→Prop):Prop:=
  ∀ (pins:List (Addr×Obj)) (s:Shared) (σ:St) (H:Hp) (xs:List V) (us:List Value) (Q:VK),Inv X pins σ H s→Vals xs us→r xs H Q→
    wpAny (model X.prog X.w) X.A (call f us) (EP X pins σ Q) X.xe s
def tOp (r:R2) (ta tb:TE):TE:=fun σ H Q=>ta σ H fun x H1=>tb σ H1 fun y H2=>r x y H2 Q
def tUn (r:V→Hp→VK→Prop) (ta:TE):TE:=fun σ H Q=>ta σ H fun x H1=>r x H1 Q
def rI (C:Int→Int→Prop) (g:Int→Int→V):R2:=fun x y H Q=>∃ i j,x=.int i∧y=.int j∧C i j∧Q (g i j) H
def rI0 (g:Int→Int→V):R2:=fun x y H Q=>∃ i j,x=.int i∧y=.int j∧Q (g i j) H
def rU (g:Int→V):V→Hp→VK→Prop:=fun x H Q=>∃ i,x=.int i∧Q (g i) H
section
variable {X:Cx} {a b c:Expr} {ta tb tc:TE} {pos:Pos}
theorem a15 (ha:PE X a ta) (hb:PE X b tb) {pins:List (Addr×Obj)} {s:Shared} {σ:St} {H:Hp} {R:V→V→Hp→Prop} (I:Inv X pins σ H s)
    (h:ta σ H fun x H1=>tb σ H1 fun y H2=>R x y H2) {Q:Value→Shared→Prop} {f:Value→Value→Sem Value}
    (hf:∀ v u s2 x y H2,Inv X pins σ H2 s2→RelV x v→RelV y u→R x y H2→wpAny (model X.prog X.w) X.A (f v u) Q X.xe s2):
    wpAny (model X.prog X.w) X.A (eval a X.env) (fun v s₁=>wpAny (model X.prog X.w) X.A (eval b X.env) (fun u s₂=>wpAny (model X.prog X.w) X.A (f v u) Q X.xe s₂) X.xe s₁) X.xe s:=by
  refine thn (ha pins s σ H _ I h) fun v s1 ⟨x,H1,I1,r1,q1⟩=>?_
  refine thn (hb pins s1 σ H1 _ I1 q1) fun u s2 ⟨y,H2,I2,r2,q2⟩=>?_
  exact hf v u s2 x y H2 I2 r1 r2 q2
theorem a3n {op:Operator} {r:R2} (ho:OpR X (binaryOp op) r) (ha:PE X a ta) (hb:PE X b tb):PE X (.BinOp a op b pos) (tOp r ta tb):=by
  intro pins s σ H Q I h
  exact wpAny_BinOp (a15 ha hb I h fun v u s2 x y H2 I2 rx ry q=>ho pins s2 σ H2 x y v u Q I2 rx ry q)
theorem a35 {op:UnaryOp} {r:V→Hp→VK→Prop} (ho:UnR X (unaryOp op) r) (ha:PE X a ta):PE X (.UnaryOp op a pos) (tUn r ta):=by
  intro pins s σ H Q I h
  exact UnaryOp_ (thn (ha pins s σ H _ I h) fun v s1 ⟨x,H1,I1,r1,q1⟩=>ho pins s1 σ H1 x v Q I1 r1 q1)
theorem opI {f:Value→Value→Sem Value} {C:Int→Int→Prop} {g:Int→Int→Int}
    (rule:∀ (i j:Int) (t u:Tok) (s:Shared) (Q:Value→Shared→Prop) (E:Value→Shared→Prop),C i j→Q (.int (g i j) s.toks) { s with toks:=s.toks+1 }→wpAny (model X.prog X.w) X.A (f (.int i t) (.int j u)) Q E s):
    OpR X f (rI C fun i j=>.int (g i j)):=by
  intro pins s σ H x y v u Q I rx ry h
  obtain ⟨i,j,rfl,rfl,hc,q⟩:=h
  obtain ⟨t,rfl⟩:=rx
  obtain ⟨t',rfl⟩:=ry
  exact rule i j t t' s _ _ hc ⟨.int (g i j),H,I.tok _,⟨_,rfl⟩,q⟩
theorem a37 {f:Value→Value→Sem Value} {g:Int→Int→Int}
    (rule:∀ (i j:Int) (t u:Tok) (s:Shared) (Q:Value→Shared→Prop) (E:Value→Shared→Prop),Q (.int (g i j) s.toks) { s with toks:=s.toks+1 }→wpAny (model X.prog X.w) X.A (f (.int i t) (.int j u)) Q E s):
    OpR X f (rI0 fun i j=>.int (g i j)):=by
  intro pins s σ H x y v u Q I rx ry h
  obtain ⟨i,j,rfl,rfl,q⟩:=h
  obtain ⟨t,rfl⟩:=rx
  obtain ⟨t',rfl⟩:=ry
  exact rule i j t t' s _ _ ⟨.int (g i j),H,I.tok _,⟨_,rfl⟩,q⟩
theorem a3c {f:Value→Value→Sem Value} {g:Int→Int→Bool}
    (rule:∀ (i j:Int) (t u:Tok) (s:Shared) (Q:Value→Shared→Prop) (E:Value→Shared→Prop),Q (.bool (g i j)) s→wpAny (model X.prog X.w) X.A (f (.int i t) (.int j u)) Q E s):
    OpR X f (rI0 fun i j=>.bl (g i j)):=by
  intro pins s σ H x y v u Q I rx ry h
  obtain ⟨i,j,rfl,rfl,q⟩:=h
  obtain ⟨t,rfl⟩:=rx
  obtain ⟨t',rfl⟩:=ry
  exact rule i j t t' s _ _ ⟨.bl (g i j),H,I,rfl,q⟩
def azx (i j:Int):Prop:=0<j∧j<1073741824
def a2d (i j:Int):Prop:=0≤j∧j≤1000000∧i.natAbs<2 ^ 64
def CMul (i j:Int):Prop:=(-(2 ^ 64)<i∧i<2 ^ 64)∨(-(2 ^ 64)<j∧j<2 ^ 64)
theorem CMul.ok {i j:Int} (h:CMul i j):IntMulOk i j:=by
  rcases h with ⟨h1,h2⟩ | ⟨h1,h2⟩
  · exact .of_left (intBits_le_64 h1 h2)
  · exact .of_right (intBits_le_64 h1 h2)
theorem a29:OpR X (binaryOp .Add) (rI0 fun i j=>.int (i+j)):=a37 fun _ _ _ _ _ _ _ q=>add_int q
theorem azb:OpR X (binaryOp .Sub) (rI0 fun i j=>.int (i - j)):=a37 fun _ _ _ _ _ _ _ q=>sub_int q
theorem a0v:OpR X (binaryOp .Mult) (rI CMul fun i j=>.int (i*j)):=opI fun _ _ _ _ _ _ _ hc q=>mul_int q hc.ok
theorem ay6:OpR X (binaryOp .FloorDiv) (rI azx fun i j=>.int (i / j)):=opI fun i j _ _ _ _ _ hc q=>by
  have h1:(0:Int)<j:=hc.1
  have h2:j<1073741824:=hc.2
  exact floordiv_int (by omega) (by rw [Int.fdiv_eq_ediv_of_nonneg i (by omega)];exact q) (.inl (PyProof.noPylong_small (by omega)))
theorem a0t:OpR X (binaryOp .Mod) (rI (fun _ j=>0<j) fun i j=>.int (i % j)):=opI fun i j _ _ _ _ _ hc q=>by
  have h1:(0:Int)<j:=hc
  exact mod_int' (by omega) (by rw [Int.fmod_eq_emod_of_nonneg i (by omega)];exact q)
theorem a0h:OpR X (binaryOp .Pow) (rI a2d fun i j=>.int (i ^ j.toNat)):=opI fun _ _ _ _ _ _ _ hc q=>pow_int_small hc.1 hc.2.1 hc.2.2 q
theorem unI {f:Value→Sem Value} {g:Int→Int}
    (rule:∀ (i:Int) (t:Tok) (s:Shared) (Q:Value→Shared→Prop) (E:Value→Shared→Prop),Q (.int (g i) s.toks) { s with toks:=s.toks+1 }→wpAny (model X.prog X.w) X.A (f (.int i t)) Q E s):
    UnR X f (rU fun i=>.int (g i)):=by
  intro pins s σ H x v Q I rx h
  obtain ⟨i,rfl,q⟩:=h
  obtain ⟨t,rfl⟩:=rx
  exact rule i t s _ _ ⟨.int (g i),H,I.tok _,⟨_,rfl⟩,q⟩
theorem a1h:UnR X (unaryOp .USub) (rU fun i=>.int (-i)):=unI fun _ _ _ _ _ q=>neg_int q
end
def awn:V→V→Bool
  | .non,.non=>true | .non,.int _=>true | .int _,.non=>true | .non,.bl _=>true | .bl _,.non=>true | .non,.str _=>true | .str _,.non=>true
  | .int _,.int _=>true | .bl _,.bl _=>true | .str _,.str _=>true | .byt _,.byt _=>true
  | .int _,.str _=>true | .str _,.int _=>true | .bl _,.str _=>true | .str _,.bl _=>true
  | _,_=>false
def rEq:R2:=fun x y H Q=>awn x y=true∧Q (.bl (decide (x=y))) H
def rNe:R2:=fun x y H Q=>awn x y=true∧Q (.bl (!decide (x=y))) H
theorem apm {i j:Int}:decide (V.int i=V.int j)=(i==j):=by
  rw [Bool.eq_iff_iff]
  simp
theorem auk {i j:Bool}:decide (V.bl i=V.bl j)=(i==j):=by
  rw [Bool.eq_iff_iff]
  simp
theorem apu {i j:Str}:decide (V.str i=V.str j)=(i==j):=by
  rw [Bool.eq_iff_iff]
  simp
theorem apc {i j:Array UInt8}:decide (V.byt i=V.byt j)=(i.toList==j.toList):=by
  rw [Bool.eq_iff_iff]
  cases i
  cases j
  simp
section
variable {X:Cx} {a b c:Expr} {ta tb tc:TE} {pos:Pos}
theorem zo {pins:List (Addr×Obj)} {σ:St} {H:Hp} {s:Shared} {Q:VK} {k k':Bool} (I:Inv X pins σ H s) (q:Q (.bl k) H) (e:k=k'):EP X pins σ Q (.bool k') s:=by
  subst e
  exact ⟨.bl k,H,I,rfl,q⟩
theorem ayd:OpR X (compareOp .Eq) rEq:=by
  intro pins s σ H x y v u Q I rx ry h
  obtain ⟨hs,q⟩:=h
  cases x with
  | non=>
    cases rx
    cases y with
    | non=>cases ry;exact PySem.EqNone.eq_none_none (zo I q (by simp))
    | bl j=>cases ry;exact PySem.EqNone.eq_none_bool (zo I q (by simp))
    | int j=>obtain ⟨t',rfl⟩:=ry;exact PySem.EqNone.eq_none_int (zo I q (by simp))
    | str j=>obtain ⟨t',rfl⟩:=ry;exact PySem.EqNone.eq_none_str (zo I q (by simp))
    | _=>exact absurd (show false=true from hs) Bool.false_ne_true
  | bl i=>
    cases rx
    cases y with
    | non=>cases ry;exact PySem.EqNone.eq_bool_none (zo I q (by simp))
    | bl j=>cases ry;exact eq_bool (zo I q auk)
    | str j=>obtain ⟨t',rfl⟩:=ry;exact PySem.EqMixed.eq_bool_str (zo I q (by simp))
    | _=>exact absurd (show false=true from hs) Bool.false_ne_true
  | int i=>
    obtain ⟨t,rfl⟩:=rx
    cases y with
    | non=>cases ry;exact PySem.EqNone.eq_int_none (zo I q (by simp))
    | int j=>obtain ⟨t',rfl⟩:=ry;exact eq_int (zo I q apm)
    | str j=>obtain ⟨t',rfl⟩:=ry;exact PySem.EqMixed.eq_int_str (zo I q (by simp))
    | _=>exact absurd (show false=true from hs) Bool.false_ne_true
  | str i=>
    obtain ⟨t,rfl⟩:=rx
    cases y with
    | non=>cases ry;exact PySem.EqNone.eq_str_none (zo I q (by simp))
    | bl j=>cases ry;exact PySem.EqMixed.eq_str_bool (zo I q (by simp))
    | int j=>obtain ⟨t',rfl⟩:=ry;exact PySem.EqMixed.eq_str_int (zo I q (by simp))
    | str j=>obtain ⟨t',rfl⟩:=ry;exact eq_str (zo I q apu)
    | _=>exact absurd (show false=true from hs) Bool.false_ne_true
  | byt i=>
    obtain ⟨t,rfl⟩:=rx
    cases y with
    | byt j=>obtain ⟨t',rfl⟩:=ry;exact PySem.W.eq_bytes (zo I q apc)
    | _=>exact absurd (show false=true from hs) Bool.false_ne_true
  | _=>cases y<;>exact absurd (show false=true from hs) Bool.false_ne_true
theorem az5:OpR X (compareOp .NotEq) rNe:=by
  intro pins s σ H x y v u Q I rx ry h
  obtain ⟨hs,q⟩:=h
  cases x with
  | non=>
    cases rx
    cases y with
    | non=>cases ry;exact PySem.EqNone.ne_none_none (zo I q (by simp))
    | bl j=>cases ry;exact PySem.EqNone.ne_none_bool (zo I q (by simp))
    | int j=>obtain ⟨t',rfl⟩:=ry;exact PySem.EqNone.ne_none_int (zo I q (by simp))
    | str j=>obtain ⟨t',rfl⟩:=ry;exact PySem.EqNone.ne_none_str (zo I q (by simp))
    | _=>exact absurd (show false=true from hs) Bool.false_ne_true
  | bl i=>
    cases rx
    cases y with
    | non=>cases ry;exact PySem.EqNone.ne_bool_none (zo I q (by simp))
    | bl j=>cases ry;exact ne_bool (zo I q (congrArg not auk))
    | str j=>obtain ⟨t',rfl⟩:=ry;exact PySem.EqMixed.ne_bool_str (zo I q (by simp))
    | _=>exact absurd (show false=true from hs) Bool.false_ne_true
  | int i=>
    obtain ⟨t,rfl⟩:=rx
    cases y with
    | non=>cases ry;exact PySem.EqNone.ne_int_none (zo I q (by simp))
    | int j=>obtain ⟨t',rfl⟩:=ry;exact ne_int (zo I q (congrArg not apm))
    | str j=>obtain ⟨t',rfl⟩:=ry;exact PySem.EqMixed.ne_int_str (zo I q (by simp))
    | _=>exact absurd (show false=true from hs) Bool.false_ne_true
  | str i=>
    obtain ⟨t,rfl⟩:=rx
    cases y with
    | non=>cases ry;exact PySem.EqNone.ne_str_none (zo I q (by simp))
    | bl j=>cases ry;exact PySem.EqMixed.ne_str_bool (zo I q (by simp))
    | int j=>obtain ⟨t',rfl⟩:=ry;exact PySem.EqMixed.ne_str_int (zo I q (by simp))
    | str j=>obtain ⟨t',rfl⟩:=ry;exact ne_str (zo I q (congrArg not apu))
    | _=>exact absurd (show false=true from hs) Bool.false_ne_true
  | byt i=>
    obtain ⟨t,rfl⟩:=rx
    cases y with
    | byt j=>obtain ⟨t',rfl⟩:=ry;exact PySem.W.ne_bytes (zo I q (congrArg not apc))
    | _=>exact absurd (show false=true from hs) Bool.false_ne_true
  | _=>cases y<;>exact absurd (show false=true from hs) Bool.false_ne_true
theorem a47:OpR X (compareOp .Lt) (rI0 fun i j=>.bl (decide (i<j))):=a3c fun _ _ _ _ _ _ _ q=>lt_int q
theorem a2s:OpR X (compareOp .Gt) (rI0 fun i j=>.bl (decide (j<i))):=a3c fun _ _ _ _ _ _ _ q=>gt_int q
theorem zh (b:Expr) {op:CmpOp} (h:op≠.In:=by decide) (h2:op≠.NotIn:=by decide):behindInMarks op b=false:=by
  have e1:(op==CmpOp.In)=false:=by cases op<;>first | rfl | exact absurd rfl h
  have e2:(op==CmpOp.NotIn)=false:=by cases op<;>first | rfl | exact absurd rfl h2
  cases b<;>simp [behindInMarks,e1,e2]
theorem avq {op:CmpOp} {r:R2} (ho:OpR X (compareOp op) r) (ha:PE X a ta) (hb:PE X b tb) (hm:behindInMarks op b=false):PE X (.Compare a [op] [b] pos) (tOp r ta tb):=by
  intro pins s σ H Q I h
  exact wpAny_Compare1 (a15 ha hb I h fun v u s2 x y H2 I2 rx ry q=>ho pins s2 σ H2 x y v u Q I2 rx ry q) hm
def aye (t:TE):TT:=fun σ H Q=>t σ H fun x H'=>∃ k,x=.bl k∧Q k H'
theorem awe {op:CmpOp} {r:R2} (ho:OpR X (compareOp op) r) (ha:PE X a ta) (hb:PE X b tb) (hm:behindInMarks op b=false):PT X (.Compare a [op] [b] pos) (aye (tOp r ta tb)):=by
  intro pins s σ H Q I h
  refine wpAny_isTrue_Compare1 (thn (ha pins s σ H _ I h) fun v s1 ⟨x,H1,I1,r1,q1⟩=>thn (hb pins s1 σ H1 _ I1 q1) fun u s2 ⟨y,H2,I2,r2,q2⟩=>
    thn (ho pins s2 σ H2 x y v u _ I2 r1 r2 q2) fun c s3 ⟨z,H3,I3,r3,k,e,q3⟩=>?_) hm
  subst e
  cases r3
  exact wpAny_truthy_bool ⟨H3,I3,q3⟩
theorem afh:(sizeLine:Nat)<2 ^ 63:=by rw [sizeLine_eq];decide
theorem ao9:OpR X (binaryOp .Add) (fun x y H Q=>∃ i j,x=.str i∧y=.str j∧i.length+j.length≤sizeLine∧Q (.str (i++j)) H):=by
  intro pins s σ H x y v u Q I rx ry h
  obtain ⟨i,j,rfl,rfl,hz,q⟩:=h
  obtain ⟨t,rfl⟩:=rx
  obtain ⟨t',rfl⟩:=ry
  exact jn I.tk (add_str (fun t' tk ht=>⟨.str (i++j),H,I.tok _,⟨_,rfl⟩,q⟩) hz)
theorem aq8 {x:V} {us:List Value} (r:Vals [x] us):∃ u,us=[u]∧RelV x u:=by
  cases r with
  | cons r1 r2=>cases r2;exact ⟨_,rfl,r1⟩
theorem ayk {x y:V} {us:List Value} (r:Vals [x,y] us):∃ u w',us=[u,w']∧RelV x u∧RelV y w':=by
  cases r with
  | cons r1 r2=>
    cases r2 with
    | cons r3 r4=>cases r4;exact ⟨_,_,rfl,r1,r3⟩
theorem aqm (hc:X.calm=true):CallR X (.builtin "max") (fun xs H Q=>∃ i j,xs=[.int i,.int j]∧Q (.int (if j > i then j else i)) H):=by
  intro pins s σ H xs us Q I r h
  obtain ⟨i,j,rfl,q⟩:=h
  obtain ⟨u,w',rfl,⟨t,rfl⟩,⟨t',rfl⟩⟩:=ayk r
  refine jn I.tk (max_two_ints (I.ok.hd hc) fun h' tk k ht=>⟨_,H,I.kept k,?_,q⟩)
  by_cases hj:j > i
  · rw [if_pos hj,if_pos hj];exact ⟨_,rfl⟩
  · rw [if_neg hj,if_neg hj];exact ⟨_,rfl⟩
theorem ari (hc:X.calm=true):CallR X (.builtin "min") (fun xs H Q=>∃ i j,xs=[.int i,.int j]∧Q (.int (if j<i then j else i)) H):=by
  intro pins s σ H xs us Q I r h
  obtain ⟨i,j,rfl,q⟩:=h
  obtain ⟨u,w',rfl,⟨t,rfl⟩,⟨t',rfl⟩⟩:=ayk r
  refine jn I.tk (min_two_ints (I.ok.hd hc) fun h' tk k ht=>⟨_,H,I.kept k,?_,q⟩)
  by_cases hj:j<i
  · rw [if_pos hj,if_pos hj];exact ⟨_,rfl⟩
  · rw [if_neg hj,if_neg hj];exact ⟨_,rfl⟩
end
end L2
namespace L2
open PySem PySem.Spec PyProof.Rows
structure ObjM (h:Heap) (x dx C:Addr) (mA:Str→Option Value):Prop where
  obj:h.get? x=some (PySem.W.instObj C dx)
  ns:h.Ns1 dx mA
  ne:dx≠x
theorem aqh {h:Heap} {dx:Addr} {mA:Str→Option Value} (n:h.Ns1 dx mA):∃ od,h.get? dx=some od∧∀ name,PySem.W.lookIn name od=some (mA name):=by
  obtain ⟨o,es,ep,ho,hd,hk,_,hm⟩:=n
  refine ⟨o,ho,fun name=>?_⟩
  have e:=hm name
  unfold nsFind findBy at e
  rw [← Array.find?_toList] at e
  unfold PySem.W.lookIn
  rw [hd]
  dsimp only
  split
  · rename_i y q
    rw [q] at e
    exact congrArg some e
  · rename_i q
    rw [q] at e
    have a:es.toList.any (·.refKey)=false:=by
      rw [List.any_eq_false]
      intro y hy
      obtain ⟨z,t,hkey⟩:=hk y (Array.mem_toList_iff.mp hy)
      simp [DictEntry.refKey,hkey]
    have a':¬ es.toList.any (·.refKey)=true:=by rw [a];exact Bool.false_ne_true
    rw [if_neg a']
    exact congrArg some e
theorem ObjM.look {h:Heap} {x dx C:Addr} {mA:Str→Option Value} (I:ObjM h x dx C mA):∃ od,PySem.W.InstAt h x (PySem.W.instObj C dx) C (some od)∧∀ name,PySem.W.lookIn name od=some (mA name):=
  let ⟨od,ho,hl⟩:=aqh I.ns
  ⟨od,⟨I.obj,rfl,rfl,ho⟩,hl⟩
section
variable {prog:Program} {w:World} {A:Around} {E:Value→Shared→Prop} {s:Shared} {K:PySem.W.Frag} {x dx C f:Addr} {mA:Str→Option Value} {name:Str} {v:Value}
theorem ax7 {expr:Bool} {Q:Value→Shared→Prop} (X:K.In s.heap) (I:ObjM s.heap x dx C mA) (hg:PySem.W.plainGet K C name=true) (hh:PySem.W.hasDictIn K C=true)
    (ha:PySem.W.findIn K (.ref C) name=some none) (hv:mA name=some v) (hv':PySem.W.handedIn v=true) (h:Q v { s with toks:=s.toks+1 }):
    wpAny (model prog w) A (getAttr (.ref x) name expr) Q E s:=by
  obtain ⟨od,J,hl⟩:=I.look
  exact PySem.W.get_value X J (PySem.W.plainGet_of hg).1 (PySem.W.findObj_own hh ha rfl (by rw [hl,hv])) hv' h
theorem asp {pl:Sem Bool} {Q:Value×List Value→Shared→Prop} (X:K.In s.heap) (I:ObjM s.heap x dx C mA) (hg:PySem.W.plainGet K C name=true)
    (hf:PySem.W.findIn K (.ref C) name=some (some (.ref f))) (ht:PySem.W.isFn K (.ref f)=true) (hv:mA name=none) (h:Q (.ref f,[.ref x]) s):
    wpAny (model prog w) A (getMethod (.ref x) name pl) Q E s:=by
  obtain ⟨od,J,hl⟩:=I.look
  exact PySem.W.method_fn X J (PySem.W.plainGet_of hg).1 (PySem.W.plainGet_of hg).2 hf (beq_iff_eq.mp ht) (by show (PySem.W.lookIn name od).map (·.isSome)=some false;rw [hl,hv];rfl) h
theorem axo {ns:List Str} {Q:Unit→Shared→Prop} (X:K.In s.heap) (I:ObjM s.heap x dx C mA)
    (hs:PySem.W.findIn K (.ref C) "__setattr__" = some (some (.builtin "object.__setattr__"))) (hp:PySem.W.plainOver K C=true) (ht:PySem.W.takerIn K C name=some none) (hh:PySem.W.hasDictIn K C=true)
    (hw:PySem.Within mA ns) (hsz:ns.length≤sizeLine)
    (h:∀ h',ObjM h' x dx C (fun y=>if y=name then some v else mA y)→Heap.SameBut dx s.heap h'→Q () { s with heap:=h',toks:=s.toks+2 }):
    wpAny (model prog w) A (setAttr (.ref x) name v) Q E s:=by
  obtain ⟨od,J,hl⟩:=I.look
  refine PySem.W.set_plain X J hs (PySem.W.osa_open (s:={ s with toks:=s.toks+1 }) (r:=none) X J hp ht fun b=>?_)
  obtain ⟨cd,hc,hd'⟩:=PySem.W.any_some hh
  have hx:s.heap.get? x=some ⟨.ref C,some dx,.plain,#[]⟩:=I.obj
  refine wpAny_bind (wpAny_pure (wpAny_bind (wpAny_bind (wpAny_loadPart hx (wpAny_bind (PySem.W.Looks.here (s:={ s with toks:=s.toks+1 }) (PySem.W.looks_clsIn X hc) ?_))))))
  rw [hd']
  refine wpAny_pure (a:=some dx) (wpAny_bind (wpAny_pure (wpAny_bind ?_)))
  refine wpAny_nsSet1 (s:={ s with toks:=s.toks+1 }) I.ns fun h' hn2 hs2=>?_
  obtain ⟨oD,esD,epD,hoD,hdD,hcD⟩:=hn2.count (PySem.Within.cons name v hw)
  refine wpAny_bind (wpAny_lookBehind hoD (by rw [hdD];exact pastItsLine_dict (Nat.le_trans hcD (by rw [List.length_cons];omega))) ?_)
  exact wpAny_pure (h _ ⟨(hs2.2 _ (Ne.symm I.ne)).trans I.obj,hn2,I.ne⟩ hs2)
theorem atb {R:Result→Shared→Prop} {vs:List Value} {kw:List (Str×Value)} (X:K.In s.heap) (hm:PySem.W.makesIn K C=true)
    (hi:PySem.W.findIn K (.ref C) "__init__" = some (some (.ref f))) (hf:PySem.W.typeIn K (.ref f)=some (.type "function"))
    (h:codeAny (model prog w) (A.under (.builtin "type.__call__" ⟨.ref C::vs,kw⟩)) (.call (.ref f) ⟨.ref (s.heap.objs.size+1)::vs,kw⟩) (PySem.W.InitBack (s.heap.objs.size+1) R)
      { s with heap:=(s.heap.push PySem.W.emptyDict).push (PySem.W.instObj C s.heap.objs.size) }):
    codeAny (model prog w) A (.call (.ref C) ⟨vs,kw⟩) R s:=by
  obtain ⟨hh,g,d,t,os⟩:=s
  exact PySem.W.make_core (PySem.W.makes_of X hm) (PySem.W.looks_findIn X hi) (fun self=>PySem.W.bind_fn X self hf) (.inl rfl) h
end
def ab3 (f:Str) (v:V):List (Str×V)→List (Str×V)
  | []=>[(f,v)]
  | (g,x)::r=>if g=f then (g,v)::r else (g,x)::ab3 f v r
theorem afv (f g:Str) (v:V):∀ fs:List (Str×V),(ab3 f v fs).lookup g=if g=f then some v else fs.lookup g
  | []=>by
    show List.lookup g [(f,v)]=_
    by_cases h:g=f
    · have hb:(g==f)=true:=beq_iff_eq.mpr h
      simp only [List.lookup,hb,if_pos h]
    · have hb:(g==f)=false:=beq_eq_false_iff_ne.mpr h
      simp only [List.lookup,hb,if_neg h]
  | (k,x)::r=>by
    have ih:=afv f g v r
    rw [show ab3 f v ((k,x)::r)=(if k=f then (k,v)::r else (k,x)::ab3 f v r) from rfl]
    by_cases hk:k=f
    · rw [if_pos hk]
      by_cases h:g=k
      · have hb:(g==k)=true:=beq_iff_eq.mpr h
        simp only [List.lookup,hb,if_pos (h.trans hk)]
      · have hb:(g==k)=false:=beq_eq_false_iff_ne.mpr h
        simp only [List.lookup,hb,if_neg (fun e:g=f=>h (e.trans hk.symm))]
    · rw [if_neg hk]
      by_cases h:g=k
      · have hb:(g==k)=true:=beq_iff_eq.mpr h
        simp only [List.lookup,hb,if_neg (fun e:g=f=>hk (h.symm.trans e))]
      · have hb:(g==k)=false:=beq_eq_false_iff_ne.mpr h
        simp only [List.lookup,hb]
        exact ih
theorem af9 (f:Str) (v:V):∀ fs:List (Str×V),f∈(ab3 f v fs).map (·.1)∧∀ g,g∈fs.map (·.1)→g∈(ab3 f v fs).map (·.1)
  | []=>⟨by simp [ab3],fun g h=>by simp at h⟩
  | (k,x)::r=>by
    obtain ⟨i1,i2⟩:=af9 f v r
    rw [show ab3 f v ((k,x)::r)=(if k=f then (k,v)::r else (k,x)::ab3 f v r) from rfl]
    by_cases hk:k=f
    · rw [if_pos hk]
      subst hk
      exact ⟨by simp,fun g h=>by simpa using h⟩
    · rw [if_neg hk]
      refine ⟨?_,fun g h=>?_⟩
      · rw [List.map_cons]
        exact List.mem_cons_of_mem _ i1
      · rw [List.map_cons] at h ⊢
        rcases List.mem_cons.mp h with e | e
        · exact List.mem_cons.mpr (.inl e)
        · exact List.mem_cons_of_mem _ (i2 g e)
theorem ag0 (f:Str) (v:V):∀ fs:List (Str×V),(ab3 f v fs).length≤fs.length+1
  | []=>by simp [ab3]
  | (k,x)::r=>by
    have ih:=ag0 f v r
    rw [show ab3 f v ((k,x)::r)=(if k=f then (k,v)::r else (k,x)::ab3 f v r) from rfl]
    by_cases hk:k=f
    · rw [if_pos hk,List.length_cons,List.length_cons];omega
    · rw [if_neg hk,List.length_cons,List.length_cons];omega
theorem RelO.some_of {v:V} {o:Option Value} (r:RelO (some v) o):∃ u,o=some u∧RelV v u:=by
  cases o with
  | none=>exact (show False from r).elim
  | some u=>exact ⟨u,rfl,r⟩
theorem RelO.none_of {o:Option Value} (r:RelO none o):o=none:=by
  cases o with
  | none=>rfl
  | some u=>exact (show False from r).elim
theorem ar0 {v:V} {u:Value} (r:RelV v u):PySem.W.handedIn u=true:=by
  cases v with
  | non=>cases (show u=Value.none from r);rfl
  | bl b=>cases (show u=Value.bool b from r);rfl
  | int i=>obtain ⟨t,e⟩:=(show ∃ t,u=Value.int i t from r);cases e;rfl
  | str x=>obtain ⟨t,e⟩:=(show ∃ t,u=Value.str x t from r);cases e;rfl
  | byt b=>obtain ⟨t,e⟩:=(show ∃ t,u=Value.bytes b t from r);cases e;rfl
  | flt b=>obtain ⟨t,e⟩:=(show ∃ t,u=Value.float b t from r);cases e;rfl
  | ref a=>cases (show u=Value.ref a from r);rfl
  | ty n=>cases (show u=Value.type n from r);rfl
section
variable {P:Program} {w:World} {H H':Hp} {h h':Heap} {a C dx:Addr} {fs fs':List (Str×V)}
theorem ah0 (hok:HOk P w H h) (e:H a=some (.ins C dx fs)):∃ mA,ObjM h a dx C mA∧(∀ f,RelO (fs.lookup f) (mA f))∧PySem.Within mA (fs.map (·.1))∧fs.length≤1000∧H dx=some (.own a):=by
  obtain ⟨d,z,ne,ob,mA,n,r,q⟩:=(show ObjOk P w H h a (.ins C dx fs) from hok a _ e)
  exact ⟨mA,⟨ob,n,ne⟩,r,q,z,d⟩
end
structure Cls (K:PySem.W.Frag) (C:Addr):Prop where
  pg:PySem.W.plainGet K C Str.empty=true
  hd:PySem.W.hasDictIn K C=true
  po:PySem.W.plainOver K C=true
  sa:PySem.W.findIn K (.ref C) "__setattr__" = some (some (.builtin "object.__setattr__"))
theorem Cls.get {K:PySem.W.Frag} {C:Addr} (c:Cls K C) (f:Str):PySem.W.plainGet K C f=true:=c.pg
def NoAttr (K:PySem.W.Frag) (C:Addr) (f:Str):Prop:=PySem.W.findIn K (.ref C) f=some none
theorem NoAttr.taker {K:PySem.W.Frag} {C:Addr} {f:Str} (n:NoAttr K C f):PySem.W.takerIn K C f=some none:=by
  unfold PySem.W.takerIn
  rw [show PySem.W.findIn K (.ref C) f=some none from n]
  rfl
structure Meth (K:PySem.W.Frag) (C:Addr) (m:Str) (f:Addr):Prop where
  at_:PySem.W.findIn K (.ref C) m=some (some (.ref f))
  fn:PySem.W.isFn K (.ref f)=true
  kp:PySem.W.keepIn K (.ref f)=true
section
variable {X:Cx} {pins:List (Addr×Obj)} {σ:St} {H:Hp} {s:Shared} {a C dx:Addr} {fs:List (Str×V)} {f:Str} {v:V} {A:Around} {E:Value→Shared→Prop}
theorem ao7 {b:Bool} {Q:Value→Shared→Prop} (I:Inv X pins σ H s) (e:H a=some (.ins C dx fs)) (c:Cls X.K C) (n:NoAttr X.K C f) (l:fs.lookup f=some v)
    (h:∀ u s',Inv X pins σ H s'→RelV v u→Q u s'):wpAny (model X.prog X.w) A (getAttr (.ref a) f b) Q E s:=by
  obtain ⟨mA,O,r,_,_,_⟩:=ah0 I.hok e
  obtain ⟨u,hu,ru⟩:=RelO.some_of (v:=v) (o:=mA f) (by rw [← l];exact r f)
  exact ax7 I.kIn O (c.get f) c.hd n hu (ar0 ru) (h u _ (I.tok _) ru)
theorem aop {m:Str} {g:Addr} {pl:Sem Bool} {Q:Value×List Value→Shared→Prop} (I:Inv X pins σ H s) (e:H a=some (.ins C dx fs)) (c:Cls X.K C) (k:Meth X.K C m g) (l:fs.lookup m=none)
    (h:Q (.ref g,[.ref a]) s):wpAny (model X.prog X.w) A (getMethod (.ref a) m pl) Q E s:=by
  obtain ⟨mA,O,r,_,_,_⟩:=ah0 I.hok e
  have hn:mA m=none:=RelO.none_of (by rw [← l];exact r m)
  exact asp I.kIn O (c.get m) k.at_ k.fn hn h
theorem aom {y:V} {u:Value} {Q:Unit→Shared→Prop} (I:Inv X pins σ H s) (e:H a=some (.ins C dx fs)) (c:Cls X.K C) (n:NoAttr X.K C f) (hl:fs.length<1000) (ry:RelV y u)
    (h:∀ s',Inv X pins σ (upd H a (.ins C dx (ab3 f y fs))) s'→Q () s'):wpAny (model X.prog X.w) A (setAttr (.ref a) f u) Q E s:=by
  obtain ⟨mA,O,r,wi,_,ho⟩:=ah0 I.hok e
  have hz:(fs.map (·.1)).length≤sizeLine:=by rw [List.length_map,sizeLine_eq];omega
  refine axo I.kIn O c.sa c.po n.taker c.hd wi hz fun h' O' sb=>h _ ?_
  have hd:∃ o,h'.get? dx=some o:=let ⟨o,_,_,e',_⟩:=O'.ns;⟨o,e'⟩
  refine I.write (x:=a) (e:=dx) (by rw [e];exact True.intro) (.inr ho) (fun b q hb z=>(sb.2 b hb).trans z) hd ?_
  refine ⟨by rw [qt O.ne];exact ho,?_,O.ne,O'.obj,_,O'.ns,fun g=>?_,fun g hg=>?_⟩
  · have:=ag0 f y fs;omega
  · show RelO ((ab3 f y fs).lookup g) (if g=f then some u else mA g)
    rw [afv]
    by_cases q:g=f
    · rw [if_pos q,if_pos q];exact ry
    · rw [if_neg q,if_neg q];exact r g
  · by_cases q:g=f
    · rw [q];exact (af9 f y fs).1
    · refine (af9 f y fs).2 g (wi g fun z=>hg ?_)
      show (if g=f then some u else mA g)=none
      rw [if_neg q];exact z
theorem Inv.made (I:Inv X pins σ H s):Inv X pins σ (upd (upd H s.heap.objs.size (.own (s.heap.objs.size+1))) (s.heap.objs.size+1) (.ins C s.heap.objs.size []))
    { s with heap:=(s.heap.push PySem.W.emptyDict).push (PySem.W.instObj C s.heap.objs.size) }:=by
  have e1:(s.heap.push PySem.W.emptyDict).get? s.heap.objs.size=some PySem.W.emptyDict:=Heap.get?_push_size s.heap rfl
  have e2:((s.heap.push PySem.W.emptyDict).push (PySem.W.instObj C s.heap.objs.size)).get? (s.heap.objs.size+1)=some (PySem.W.instObj C s.heap.objs.size):=by
    have:=Heap.get?_push_size (s.heap.push PySem.W.emptyDict) (o:=PySem.W.instObj C s.heap.objs.size) rfl
    rwa [Heap.size_push] at this
  have e3:(s.heap.push PySem.W.emptyDict).Ns s.heap.objs.size (fun _=>none):=⟨PySem.W.emptyDict,#[],_,e1,rfl,(fun e he=>absurd he (by simp)),fun _=>rfl⟩
  have I1:=I.laid (a:=s.heap.objs.size) (o:=.own (s.heap.objs.size+1)) (h':=s.heap.push PySem.W.emptyDict) (t':=s.toks) (fun b u q=>Heap.get?_push_of_some _ q) (Nat.le_refl _) ⟨_,e1⟩
  refine I1.laid (a:=s.heap.objs.size+1) (o:=.ins C s.heap.objs.size []) (t':=s.toks) (fun b u q=>Heap.get?_push_of_some _ q) (Nat.le_of_eq (Heap.size_push _ _)) ?_
  have ne:s.heap.objs.size≠s.heap.objs.size+1:=Nat.ne_of_lt (Nat.lt_succ_self _)
  refine ⟨by rw [qt ne,zx],Nat.zero_le _,ne,e2,fun _=>none,(Heap.Ns1.of_empty e3).at fun o q=>Heap.get?_push_of_some _ q,fun _=>True.intro,fun y hy=>absurd rfl hy⟩
theorem axq {prog:Program} {w:World} {env:Env} {e:Expr} {f:Str} {pos:Pos} {s:Shared} {Q:Value→Shared→Prop} (hb:attributeBase e f env (eval e env)=eval e env)
    (h:wpAny (model prog w) A (eval e env) (fun o s₁=>wpAny (model prog w) A (getAttr o f true) Q E s₁) E s):wpAny (model prog w) A (eval (.Attribute e f pos) env) Q E s:=
  Attribute_any_ h (by rw [arm_eval_Attribute,hb])
end
def a4f (K:PySem.W.Frag) (ta:TE) (f:Str):TE:=fun σ H Q=>ta σ H fun x H1=>∃ a C dx fs v,x=.ref a∧H1 a=some (.ins C dx fs)∧Cls K C∧NoAttr K C f∧fs.lookup f=some v∧Q v H1
def a59 (K:PySem.W.Frag) (ta tv:TE) (f:Str):TS:=fun D σ H=>tv σ H fun y H1=>ta σ H1 fun x H2=>∃ a C dx fs,x=.ref a∧H2 a=some (.ins C dx fs)∧Cls K C∧NoAttr K C f∧fs.length<1000∧
  D.nx σ (upd H2 a (.ins C dx (ab3 f y fs)))
section
variable {X:Cx} {o e value:Expr} {f:Str} {pos pos' tpos:Pos} {ta tv:TE}
theorem a2f (he:PE X e ta) (hb:attributeBase e f X.env (eval e X.env)=eval e X.env):PE X (.Attribute e f pos) (a4f X.K ta f):=by
  intro pins s σ H Q I h
  refine axq hb (thn (he pins s σ H _ I h) fun u s1 ⟨x,H1,I1,rx,a,C,dx,fs,v,ex,ea,c,n,l,q⟩=>?_)
  subst ex
  obtain rfl:u=Value.ref a:=rx
  exact ao7 I1 ea c n l fun u' s2 I2 ru=>⟨v,H1,I2,ru,q⟩
theorem a2c (ha:PE X o ta) (hv:PE X value tv) (hs:swapsWith value (some (.Attribute o f pos')) pos.line X.env=pure false):PS X (.Assign [.Attribute o f pos'] value pos) (a59 X.K ta tv f):=by
  intro pins s σ H D I h
  refine plainObj_wpAny_Assign_Attribute (thn (hv pins s σ H _ I h) fun u s1 ⟨y,H1,I1,ry,q⟩=>thn (ha pins s1 σ H1 _ I1 q) fun ov s2 ⟨x,H2,I2,rx,a,C,dx,fs,ex,ea,c,n,l,q2⟩=>?_) hs
  subst ex
  obtain rfl:ov=Value.ref a:=rx
  exact aom I2 ea c n l ry fun s3 I3=>⟨σ,_,I3,q2⟩
end
section
variable {X:Cx} {pins:List (Addr×Obj)} {σ:St} {H:Hp} {s:Shared} {A:Around} {E:Value→Shared→Prop} {Q:Value→Shared→Prop} {c:Value} {b:Bool}
inductive TyOf (K:PySem.W.Frag) (H:Hp):V→Value→Prop where
  | non:TyOf K H .non (.type "NoneType")
  | bl (x:Bool):TyOf K H (.bl x) (.type "bool")
  | int (i:Int):TyOf K H (.int i) (.type "int")
  | str (x:Str):TyOf K H (.str x) (.type "str")
  | flt (x:UInt64):TyOf K H (.flt x) (.type "float")
  | lst {a:Addr} {xs:List V} (e:H a=some (.lst xs)):TyOf K H (.ref a) (.type "list")
  | frz {a:Addr} {o:Obj} {xs:List V} (e:H a=some (.frz o (.lst xs))):TyOf K H (.ref a) (.type "list")
  | tup {a:Addr} {xs:List V} (e:H a=some (.tup xs)):TyOf K H (.ref a) (.type "tuple")
  | dK {a:Addr} {kvs:List (Key×V)} (e:H a=some (.dK kvs)):TyOf K H (.ref a) (.type "dict")
  | dT {a:Addr} {kvs:List (List Key×V)} (e:H a=some (.dT kvs)):TyOf K H (.ref a) (.type "dict")
  | ins {a C dx:Addr} {fs:List (Str×V)} (e:H a=some (.ins C dx fs)) (cl:Cls K C) (ha:PySem.W.findIn K (.ref C) "__class__" = some (some (.builtin "object.__class__")))
      (hn:PySem.W.specialIn K (.builtin "object.__class__") "__get__" = some (some (.builtin "getset_descriptor.__get__"))) (htk:PySem.W.takesIn K (.builtin "object.__class__")=some true)
      (hm:PySem.W.mroIn K C (.type "object")=some true):TyOf K H (.ref a) (.ref C)
theorem aa0 {x:V} {u t:Value} (I:Inv X pins σ H s) (rx:RelV x u) (ty:TyOf X.K H x t) (e:PySem.W.kitOne X.K t c=some b) (h:∀ tk,Q (.bool b) { s with toks:=tk }):
    wpAny (model X.prog X.w) A (call (.builtin "isinstance") [u,c]) Q E s:=by
  cases ty with
  | non=>cases (show u=Value.none from rx);exact PySem.W.kia_one PySem.W.kitx_none I.kIn True.intro e (fun z=>nomatch z) h
  | bl y=>cases (show u=Value.bool y from rx);exact PySem.W.kia_one PySem.W.kitx_bool I.kIn True.intro e (fun z=>nomatch z) h
  | int i=>obtain ⟨t,q⟩:=(show ∃ t,u=Value.int i t from rx);cases q;exact PySem.W.kia_one PySem.W.kitx_int I.kIn True.intro e (fun z=>nomatch z) h
  | str y=>obtain ⟨t,q⟩:=(show ∃ t,u=Value.str y t from rx);cases q;exact PySem.W.kia_one PySem.W.kitx_str I.kIn True.intro e (fun z=>nomatch z) h
  | flt y=>obtain ⟨t,q⟩:=(show ∃ t,u=Value.float y t from rx);cases q;exact PySem.W.kia_one PySem.W.kitx_float I.kIn True.intro e (fun z=>nomatch z) h
  | @lst a xs ea=>
    cases (show u=Value.ref a from rx)
    obtain ⟨_,_,n,_,h1⟩:=(show ObjOk X.prog X.w H s.heap a (.lst xs) from I.hok a _ ea)
    exact PySem.W.kia_one PySem.W.kitx_list I.kIn ⟨_,h1,rfl⟩ e (fun z=>nomatch z) h
  | @frz a ob xs ea=>
    cases (show u=Value.ref a from rx)
    obtain ⟨_,_,_,n,_,h1⟩:=(show ObjOk X.prog X.w H s.heap a (.frz ob (.lst xs)) from I.hok a _ ea)
    exact PySem.W.kia_one PySem.W.kitx_list I.kIn ⟨_,h1,rfl⟩ e (fun z=>nomatch z) h
  | @tup a xs ea=>
    cases (show u=Value.ref a from rx)
    obtain ⟨_,_,_,p⟩:=(show ObjOk X.prog X.w H s.heap a (.tup xs) from I.hok a _ ea)
    obtain ⟨o,h1,h2,_⟩:=p
    exact PySem.W.kia_one PySem.W.kitx_tuple I.kIn ⟨o,h1,h2⟩ e (fun z=>nomatch z) h
  | @dK a kvs ea=>
    cases (show u=Value.ref a from rx)
    obtain ⟨_,_,vs,_,p⟩:=(show ObjOk X.prog X.w H s.heap a (.dK kvs) from I.hok a _ ea)
    obtain ⟨o,es,ep,h1,h2,_⟩:=p
    exact PySem.W.kia_one PySem.W.kitx_dict I.kIn ⟨o,h1,h2.1⟩ e (fun z=>nomatch z) h
  | @dT a kvs ea=>
    cases (show u=Value.ref a from rx)
    obtain ⟨_,_,xs,_,o,es,ep,h1,h2,_⟩:=(show ObjOk X.prog X.w H s.heap a (.dT kvs) from I.hok a _ ea)
    exact PySem.W.kia_one PySem.W.kitx_dict I.kIn ⟨o,h1,h2.1⟩ e (fun z=>nomatch z) h
  | @ins a C dx fs ea cl ha hn htk hm=>
    cases (show u=Value.ref a from rx)
    obtain ⟨mA,O,_⟩:=ah0 I.hok ea
    obtain ⟨od,J,_⟩:=O.look
    exact PySem.W.kia_one (PySem.W.kitx_own (cl.get _) cl.hd ha hn htk hm) I.kIn J e (fun z=>nomatch z) h
end
end L2
namespace L2
open PySem PySem.Spec PyProof.Rows
structure Room (k:Nat) (A:Around):Prop where
  hd:A.handled=none
  dp:A.depth+3*k+5<recursionLimit
  un:A.units+16*k+200<cLine
theorem Room.mono {j k:Nat} {A:Around} (r:Room k A) (h:j≤k):Room j A:=⟨r.hd,by have:=r.dp;omega,by have:=r.un;omega⟩
theorem Room.deeper {k:Nat} {A:Around} (r:Room (k+1) A) (env:Env):Room k (A.deeper env):=
  ⟨r.hd,by have:=r.dp;show A.depth+1+3*k+5<_;omega,by have:=r.un;show A.units+3+16*k+200<_;omega⟩
theorem aoa {A:Around} {C:Addr} {us:List Value} {kw:List (Str×Value)}:(A.under (.builtin "type.__call__" ⟨.ref C::us,kw⟩)).depth=A.depth+1:=by
  first | rfl | simp [Around.under,Code.weight,Code.isCreation,Code.isGuard,Code.isCaller,Code.frames,Code.isFrame,guardIds]
theorem ap2 {A:Around} {C:Addr} {us:List Value} {kw:List (Str×Value)}:(A.under (.builtin "type.__call__" ⟨.ref C::us,kw⟩)).units=A.units+1:=by
  first | rfl | simp [Around.under,Code.cUnits,Code.frames,Code.isFrame]
theorem Room.make {k:Nat} {A:Around} (r:Room (k+1) A) (C:Addr) (us:List Value) (kw:List (Str×Value)):Room k (A.under (.builtin "type.__call__" ⟨.ref C::us,kw⟩)):=
  ⟨r.hd,by have:=r.dp;rw [aoa];omega,by have:=r.un;rw [ap2];omega⟩
theorem Room.depth {k:Nat} {A:Around} (r:Room k A):A.depth<recursionLimit:=by have:=r.dp;omega
def a4t:TA:=fun _ H Q=>Q [] H
def a43 (ta:TE) (tr:TA):TA:=fun σ H Q=>ta σ H fun x H1=>tr σ H1 fun xs H2=>Q (x::xs) H2
section
variable {X:Cx} {e:Expr} {es:List Expr} {te:TE} {t:TA} {pos:Pos}
theorem af2:PA X [] a4t:=fun _ _ _ _ H Q I h=>Calls.spliced_nil ⟨[],H,I,.nil,h⟩
theorem aac (ha:PE X e te) (hr:PA X es t) (hs:starEach (e::es) X.env=(false,eval e X.env)::starEach es X.env:=by rfl):PA X (e::es) (a43 te t):=by
  intro pos pins s σ H Q I h
  rw [hs]
  show wpAny _ _ (spliced ((false,eval e X.env)::backTo pos (starEach es X.env))) _ _ s
  refine Calls.spliced_cons (thn (ha pins s σ H _ I h) fun u s1 ⟨x,H1,I1,r1,q1⟩=>?_)
  exact thn (hr pos pins s1 σ H1 _ I1 q1) fun us s2 ⟨xs,H2,I2,r2,q2⟩=>⟨x::xs,H2,I2,.cons r1 r2,q2⟩
def a4s (t:TA):TE:=fun σ H Q=>t σ H fun xs H1=>xs.length≤sizeLine∧∀ p,H1 p=none→Q (.ref p) (upd H1 p (.tup xs))
def a5s (t:TA):TE:=fun σ H Q=>t σ H fun xs H1=>xs.length≤sizeLine∧∀ p,H1 p=none→Q (.ref p) (upd H1 p (.lst xs))
theorem a13 {x1} (h:PA X es t):PE X (.Tuple es x1 pos) (a4s t):=by
  intro pins s σ H Q I hq
  refine wpAny_Tuple_spliced (thn (h pos pins s σ H _ I hq) fun us s1 ⟨xs,H1,I1,r,z,q⟩=>⟨by rw [← r.length];exact z,?_⟩)
  have hf:H1 s1.heap.objs.size=none:=I1.hok.fresh (Nat.le_refl _)
  refine ⟨.ref s1.heap.objs.size,upd H1 s1.heap.objs.size (.tup xs),I1.laid (t':=s1.toks) (fun b u e=>Heap.get?_push_of_some _ e) (Nat.le_refl _) ?_,rfl,q _ hf⟩
  exact ⟨z,us,r,⟨_,Heap.get?_push_size _ rfl,rfl,_,rfl⟩⟩
theorem auw (h:PA X es t):PE X (.List es pos) (a5s t):=by
  intro pins s σ H Q I hq
  refine wpAny_List_spliced (thn (h pos pins s σ H _ I hq) fun us s1 ⟨xs,H1,I1,r,z,q⟩=>⟨by rw [← r.length];exact z,?_⟩)
  have hf:H1 s1.heap.objs.size=none:=I1.hok.fresh (Nat.le_refl _)
  refine ⟨.ref s1.heap.objs.size,upd H1 s1.heap.objs.size (.lst xs),I1.laid (t':=s1.toks) (fun b u e=>Heap.get?_push_of_some _ e) (Nat.le_refl _) ?_,rfl,q _ hf⟩
  exact ⟨z,us,0,r,Heap.get?_push_size _ rfl⟩
end
abbrev Sp:=List V→Hp→VK→XK→Prop
abbrev CXT:=List Env→Hp→Shared→XK→Value→Shared→Prop
structure Env0 (P:Program) (w:World) (K:PySem.W.Frag) (mg:Str→Option Value) (base:Heap) (A:Around) (outer:List Env) (s:Shared) (H:Hp):Prop where
  frames:A.frames=some outer
  mod:Mod K mg base
  bs:∀ b o,base.get? b=some o→s.heap.get? b=some o∧H b=none
  bsz:base.objs.size≤s.heap.objs.size
  funs:s.heap.FunFrames base outer
  frf:∀ b∈frs outer,H b=none
  hok:HOk P w H s.heap
  bare:AllBare s.gens
  tk:0<s.toks
def CE (outer:List Env) (P:Program) (w:World) (H:Hp) (s:Shared) (Q:VK) (u:Value) (s':Shared):Prop:=
  ∃ v H',s'.os=s.os∧AllBare s'.gens∧Un (frs outer) [] H H' s.heap s'.heap∧HOk P w H' s'.heap∧RelV v u∧Q v H'∧0<s'.toks
def CR (CX:CXT) (outer:List Env) (P:Program) (w:World) (H:Hp) (s:Shared) (Q:VK) (E:XK) (r:Result) (s':Shared):Prop:=
  match r with
  | .ok (.ret u)=>CE outer P w H s Q u s'
  | .ok _=>False
  | .error e=>CX outer H s E e s'
structure FnOk (P:Program) (w:World) (K:PySem.W.Frag) (mg:Str→Option Value) (base:Heap) (CX:CXT) (k:Nat) (f:Addr) (fd:FuncData) (ps:List Str) (sp:Sp):Prop where
  len:∀ vs H Q E,sp vs H Q E→vs.length=ps.length
  run:∀ (A:Around) (outer:List Env) (s:Shared) (H:Hp) (args:Args) (us:List Value) (vs:List V) (Q:VK) (E:XK),Room k A→Env0 P w K mg base A outer s H→BindsTo s fd args (ps.zip us)→Vals vs us→sp vs H Q E→
    codeAny (model P w) A (.call (.ref f) args) (CR CX outer P w H s Q E) s
theorem FnOk.mono {P:Program} {w:World} {K:PySem.W.Frag} {mg:Str→Option Value} {base:Heap} {CX:CXT} {j k:Nat} {f:Addr} {fd:FuncData} {ps:List Str} {sp:Sp} (F:FnOk P w K mg base CX j f fd ps sp) (h:j≤k):
    FnOk P w K mg base CX k f fd ps sp:=⟨F.len,fun A outer s H args us vs Q E hr=>F.run A outer s H args us vs Q E (hr.mono h)⟩
theorem FnOk.imp {P:Program} {w:World} {K:PySem.W.Frag} {mg:Str→Option Value} {base:Heap} {CX:CXT} {k:Nat} {f:Addr} {fd:FuncData} {ps:List Str} {sp sp':Sp} (F:FnOk P w K mg base CX k f fd ps sp)
    (h:∀ vs H Q E,sp' vs H Q E→sp vs H Q E):FnOk P w K mg base CX k f fd ps sp':=
  ⟨fun vs H Q E q=>F.len vs H Q E (h _ _ _ _ q),fun A outer s H args us vs Q E hr he hb hv hs=>F.run A outer s H args us vs Q E hr he hb hv (h _ _ _ _ hs)⟩
theorem Env0.make {P:Program} {w:World} {K:PySem.W.Frag} {mg:Str→Option Value} {base:Heap} {A:Around} {outer:List Env} {s:Shared} {H:Hp} (e:Env0 P w K mg base A outer s H) (C:Addr) (us:List Value) (kw:List (Str×Value)):
    Env0 P w K mg base (A.under (.builtin "type.__call__" ⟨.ref C::us,kw⟩)) outer s H:=⟨by first | exact e.frames | (simpa [Around.under,Code.envs,Code.isFrame,pushEnvs] using e.frames),e.mod,e.bs,e.bsz,e.funs,e.frf,e.hok,e.bare,e.tk⟩
section
variable {X:Cx} {pins:List (Addr×Obj)} {σ:St} {H:Hp} {s s':Shared}
theorem Inv.env0 (I:Inv X pins σ H s):Env0 X.prog X.w X.K X.mg X.base X.A X.stack s H:=
  ⟨I.ok.frames,I.ok.mod,I.bs,Nat.le_trans I.ok.bsz I.sz,I.stack,I.stkFree,I.hok,I.bare,I.tk⟩
theorem Inv.after {Q:VK} {u:Value} (I:Inv X pins σ H s) (h:CE X.stack X.prog X.w H s Q u s'):EP X pins σ Q u s':=by
  obtain ⟨v,H',os,bare,un,hok,r,q,ht⟩:=h
  obtain ⟨hh,g,d,t,os'⟩:=s'
  obtain rfl:os'=s.os:=os
  exact ⟨v,H',I.call (h':=hh) (g':=g) (d':=d) (t':=t) (ch:=[]) un hok bare (fun b z=>absurd z (by simp)),r,q⟩
end
def ayw (sp:Sp) (dvs:List V) (E:XK) (t:TA):TE:=fun σ H Q=>t σ H fun vs H1=>sp (vs++dvs) H1 Q E
def a3j (C:Addr) (m:Str) (sp:Sp) (dvs:List V) (E:XK) (ta:TE) (t:TA):TE:=fun σ H Q=>ta σ H fun x H1=>∃ a dx fs,x=.ref a∧H1 a=some (.ins C dx fs)∧fs.lookup m=none∧
  t σ H1 fun vs H2=>sp (x::(vs++dvs)) H2 Q E
def a32 (C:Addr) (sp:Sp) (dvs:List V) (E:XK) (t:TA):TE:=fun σ H Q=>t σ H fun vs H1=>∀ x dx,H1 x=none→H1 dx=none→dx≠x→
  sp (.ref x::(vs++dvs)) (upd (upd H1 dx (.own x)) x (.ins C dx [])) (fun v H2=>v=.non∧Q (.ref x) H2) E
def Binds (K:PySem.W.Frag) (fd:FuncData) (ps:List Str) (ds:List Value):Prop:=
  ∀ (s:Shared) (us:List Value),K.In s.heap→(us++ds).length=ps.length→BindsTo s fd ⟨us,[]⟩ (ps.zip (us++ds))
theorem Binds.all {K:PySem.W.Frag} {fd:FuncData} {ps:List Str} (h:∀ us:List Value,us.length=ps.length→bindArgs fd ⟨us,[]⟩=pure (ps.zip us)):Binds K fd ps []:=fun s us _ hl=>by
  rw [List.append_nil] at hl ⊢
  exact .of_eq (h us hl)
def afl (CX:CXT) (X:Cx) (E:XK):Prop:=∀ (pins:List (Addr×Obj)) (σ:St) (H:Hp) (s:Shared) (e:Value) (s':Shared),Inv X pins σ H s→CX X.stack H s E e s'→X.xe e s'
section
variable {X:Cx} {CX:CXT} {k:Nat} {f C:Addr} {fd:FuncData} {ps:List Str} {sp:Sp} {dvs:List V} {ds:List Value} {E:XK} {x m:Str} {p pos apos:Pos} {e o:Expr} {es:List Expr} {ta:TE} {t:TA}
theorem auf {pins:List (Addr×Obj)} {σ:St} {H:Hp} {s:Shared} {Q:VK} {us:List Value} {vs:List V} (F:FnOk X.prog X.w X.K X.mg X.base CX k f fd ps sp) (hr:Room k X.A) (hb:Binds X.K fd ps ds) (hd:Vals dvs ds) (hx:afl CX X E)
    (I:Inv X pins σ H s) (r:Vals vs us) (h:sp (vs++dvs) H Q E):wpAny (model X.prog X.w) X.A (call (.ref f) us) (EP X pins σ Q) X.xe s:=by
  have r2:Vals (vs++dvs) (us++ds):=r.append hd
  have hl:(us++ds).length=ps.length:=by rw [← r2.length];exact F.len _ _ _ _ h
  refine wpAny_call (codeAny_mono (F.run X.A X.stack s H ⟨us,[]⟩ (us++ds) (vs++dvs) Q E hr I.env0 (hb s us I.kIn hl) r2 h) fun r s' hq=>?_)
  cases r with
  | error e=>exact hx pins σ H s e s' I hq
  | ok fl=>
    cases fl with
    | ret u=>exact I.after hq
    | next=>exact False.elim hq
    | brk=>exact False.elim hq
    | cont=>exact False.elim hq
theorem ax5 (F:FnOk X.prog X.w X.K X.mg X.base CX k f fd ps sp) (hr:Room k X.A) (hg:Gl X x) (hm:X.mg x=some (.ref f)) (hk:PySem.W.keepIn X.K (.ref f)=true) (hb:Binds X.K fd ps ds) (hd:Vals dvs ds) (hx:afl CX X E)
    (ha:PA X (e::es) t) (hdb:(x==("__debug__" : Str))=false:=by decide) (he:starEach (e::es) X.env=(false,eval e X.env)::starEach es X.env:=by rfl) (hpl:(backTo pos (starEach es X.env)).any (·.1)=false:=by rfl):
    PE X (.Call (.Name x p) (e::es) [] pos) (ayw sp dvs E t):=by
  intro pins s σ H Q I h
  refine wpAny_Call_Name_kw (acl I hg hm ?_ hdb)
  refine PySem.W.callWith_K (h₀:=X.base) I.ok.mod.kin hk (thn (ha pos pins s σ H _ I h) fun us s1 ⟨vs,H1,I1,r,q⟩=>⟨I1.kIn,?_⟩) he hpl
  exact auf F hr hb hd hx I1 r q
theorem axy {pl:Sem Bool} (he:PE X o ta) (c:Cls X.K C) (hm:Meth X.K C m f) (F:FnOk X.prog X.w X.K X.mg X.base CX k f fd ps sp) (hr:Room k X.A) (hb:Binds X.K fd ps ds) (hd:Vals dvs ds) (hx:afl CX X E) (ha:PA X (e::es) t)
    (hst:starEach (e::es) X.env=(false,eval e X.env)::starEach es X.env:=by rfl) (hpl:(backTo pos (starEach es X.env)).any (·.1)=false:=by rfl)
    (ht:eval (.Call (.Attribute o m apos) (e::es) [] pos) X.env=(do
      let ov ← eval o X.env
      standAt apos.atName
      let (f,first) ← holding [ov] (getMethod ov m pl)
      callWith pos f first (backTo pos (starEach (e::es) X.env)) (backToKw pos (keywordEach [] X.env))):=by rfl):
    PE X (.Call (.Attribute o m apos) (e::es) [] pos) (a3j C m sp dvs E ta t):=by
  intro pins s σ H Q I h
  refine PySem.W.methodCall_KW (pl:=pl) (thn (he pins s σ H _ I h) fun u s1 ⟨x,H1,I1,rx,a,dx,fs,ex,ea,l,q⟩=>?_) ht
  subst ex
  obtain rfl:u=Value.ref a:=rx
  refine aop I1 ea c hm l ?_
  refine PySem.W.callWith_K (first:=[.ref a]) (h₀:=X.base) I.ok.mod.kin hm.kp (thn (ha pos pins s1 σ H1 _ I1 q) fun us s2 ⟨vs,H2,I2,r,q2⟩=>⟨I2.kIn,?_⟩) hst hpl
  exact auf (us:=.ref a::us) (vs:=.ref a::vs) F hr hb hd hx I2 (.cons rfl r) q2
structure Mk (K:PySem.W.Frag) (C f:Addr):Prop where
  makes:PySem.W.makesIn K C=true
  init:PySem.W.findIn K (.ref C) "__init__" = some (some (.ref f))
  fn:PySem.W.isFn K (.ref f)=true
  kp:PySem.W.keepIn K (.ref C)=true
theorem at2 {pins:List (Addr×Obj)} {σ:St} {H:Hp} {s:Shared} {Q:VK} {us:List Value} {vs:List V} (M:Mk X.K C f) (F:FnOk X.prog X.w X.K X.mg X.base CX k f fd ps sp) (hr:Room (k+1) X.A) (hb:Binds X.K fd ps ds) (hd:Vals dvs ds)
    (hx:afl CX X E) (I:Inv X pins σ H s) (r:Vals vs us)
    (h:∀ x dx,H x=none→H dx=none→dx≠x→sp (.ref x::(vs++dvs)) (upd (upd H dx (.own x)) x (.ins C dx [])) (fun v H2=>v=.non∧Q (.ref x) H2) E):
    wpAny (model X.prog X.w) X.A (call (.ref C) us) (EP X pins σ Q) X.xe s:=by
  have hq:=h (s.heap.objs.size+1) s.heap.objs.size (I.hok.fresh (Nat.le_succ _)) (I.hok.fresh (Nat.le_refl _)) (Nat.ne_of_lt (Nat.lt_succ_self _))
  have I2:=Inv.made (C:=C) I
  have r2:Vals (V.ref (s.heap.objs.size+1)::(vs++dvs)) (Value.ref (s.heap.objs.size+1)::(us++ds)):=.cons rfl (r.append hd)
  have hl:(Value.ref (s.heap.objs.size+1)::us++ds).length=ps.length:=by
    have e:=r2.length
    rw [F.len _ _ _ _ hq] at e
    exact e.symm
  refine wpAny_call (atb (f:=f) I.kIn M.makes M.init (beq_iff_eq.mp M.fn) (codeAny_mono (F.run _ X.stack _ _ ⟨Value.ref (s.heap.objs.size+1)::us,[]⟩ (Value.ref (s.heap.objs.size+1)::(us++ds)) _ _ E (hr.make C us [])
    (I2.env0.make C us []) (hb _ (Value.ref (s.heap.objs.size+1)::us) I2.kIn hl) r2 hq) fun r s' hq'=>?_))
  cases r with
  | error e=>exact hx pins σ _ _ e s' I2 hq'
  | ok fl=>
    cases fl with
    | ret u=>
      obtain ⟨v,H',I3,rv,ev,q3⟩:=I2.after hq'
      subst ev
      exact ⟨rv,⟨V.ref (s.heap.objs.size+1),H',I3,rfl,q3⟩⟩
    | next=>exact False.elim hq'
    | brk=>exact False.elim hq'
    | cont=>exact False.elim hq'
theorem axd (M:Mk X.K C f) (F:FnOk X.prog X.w X.K X.mg X.base CX k f fd ps sp) (hr:Room (k+1) X.A) (hg:Gl X x) (hm:X.mg x=some (.ref C)) (hb:Binds X.K fd ps ds) (hd:Vals dvs ds) (hx:afl CX X E)
    (ha:PA X (e::es) t) (hdb:(x==("__debug__" : Str))=false:=by decide) (he:starEach (e::es) X.env=(false,eval e X.env)::starEach es X.env:=by rfl) (hpl:(backTo pos (starEach es X.env)).any (·.1)=false:=by rfl):
    PE X (.Call (.Name x p) (e::es) [] pos) (a32 C sp dvs E t):=by
  intro pins s σ H Q I h
  refine wpAny_Call_Name_kw (acl I hg hm ?_ hdb)
  refine PySem.W.callWith_K (h₀:=X.base) I.ok.mod.kin M.kp (thn (ha pos pins s σ H _ I h) fun us s1 ⟨vs,H1,I1,r,q⟩=>⟨I1.kIn,?_⟩) he hpl
  exact at2 M F hr hb hd hx I1 r q
end
section
variable {X:Cx} {CX:CXT} {k:Nat} {f C:Addr} {fd:FuncData} {ps ks:List Str} {sp:Sp} {E:XK} {x m:Str} {p pos apos kpos:Pos} {e o:Expr} {es:List Expr} {kws:List Keyword} {te ta:TE} {t tk:TA} {nm:Option Str}
variable {g:List Value→List Value→List Value} {gV:List V→List V→List V}
end
structure FnScope (N P:List Str) (sc:Scope):Prop where
  kind:sc.kind=.function
  co:sc.isCoroutine=false
  gen:sc.isGenerator=false
  nd:N.Nodup
  pre:N.take P.length=P
  par:∀ x∈P,sc.names.lookup x=some .local∨sc.names.lookup x=some .cell
  nofree:∀ y∈sc.names,y.2≠.free
theorem ajt {kindOf:Str→Option NameKind} {x:Str}:∀ {binds:List (Str×Value)} {m:Str→Option Value},(∀ v,(x,v)∉binds)→bindL kindOf binds m x=m x
  | [],_,_=>rfl
  | (n,v)::r,m,h=>by
    unfold bindL
    rw [ajt fun w hw=>h w (List.mem_cons_of_mem _ hw)]
    split
    · have:x≠n:=by rintro rfl;exact h v List.mem_cons_self
      simp [this]
    · rfl
theorem ak2 {kindOf:Str→Option NameKind} {x:Str}:∀ {binds:List (Str×Value)} {m:Str→Option Value},(∀ v,(x,v)∉binds)→bindC kindOf binds m x=m x
  | [],_,_=>rfl
  | (n,v)::r,m,h=>by
    unfold bindC
    rw [ak2 fun w hw=>h w (List.mem_cons_of_mem _ hw)]
    split
    · rfl
    · have:x≠n:=by rintro rfl;exact h v List.mem_cons_self
      simp [this]
theorem ajn {kindOf:Str→Option NameKind} {x:Str} {v:Value}:∀ {P:List Str} {vs:List Value} {i:Nat} {m:Str→Option Value},P.Nodup→P[i]?=some x→vs[i]?=some v→kindOf x=some .local→
    bindL kindOf (P.zip vs) m x=some v
  | [],_,_,_,_,h,_,_=>by simp at h
  | _::_,[],_,_,_,_,h,_=>by simp at h
  | p::P,w::vs,0,m,nd,h1,h2,hk=>by
    simp at h1 h2;subst h1;subst h2
    show bindL kindOf ((p,w)::P.zip vs) m p=_
    unfold bindL
    rw [ajt fun v hv=>(List.nodup_cons.mp nd).1 (List.of_mem_zip hv).1,if_pos hk]
    simp
  | p::P,w::vs,i+1,m,nd,h1,h2,hk=>by
    show bindL kindOf ((p,w)::P.zip vs) m x=_
    unfold bindL
    exact ajn (i:=i) (List.nodup_cons.mp nd).2 (by simpa using h1) (by simpa using h2) hk
theorem ak5 {kindOf:Str→Option NameKind} {x:Str} {v:Value}:∀ {P:List Str} {vs:List Value} {i:Nat} {m:Str→Option Value},P.Nodup→P[i]?=some x→vs[i]?=some v→kindOf x≠some .local→
    bindC kindOf (P.zip vs) m x=some v
  | [],_,_,_,_,h,_,_=>by simp at h
  | _::_,[],_,_,_,_,h,_=>by simp at h
  | p::P,w::vs,0,m,nd,h1,h2,hk=>by
    simp at h1 h2;subst h1;subst h2
    show bindC kindOf ((p,w)::P.zip vs) m p=_
    unfold bindC
    rw [ak2 fun v hv=>(List.nodup_cons.mp nd).1 (List.of_mem_zip hv).1,if_neg hk]
    simp
  | p::P,w::vs,i+1,m,nd,h1,h2,hk=>by
    show bindC kindOf ((p,w)::P.zip vs) m x=_
    unfold bindC
    exact ak5 (i:=i) (List.nodup_cons.mp nd).2 (by simpa using h1) (by simpa using h2) hk
def start (N:List Str) (vs:List V):St:=vs.map some++List.replicate (N.length - vs.length) none
def jb (CX:CXT) (P:Program) (w:World) (K:PySem.W.Frag) (mg:Str→Option Value) (base:Heap) (N:List Str) (qual:Str) (scope:Scope) (f:Addr) (cd:Value) (A:Around) (outer:List Env) (s:Shared) (H:Hp) (E:XK):Cx where
  prog:=P
  w:=w
  K:=K
  mg:=mg
  base:=base
  A:=A.deeper (envOfC qual scope s.heap.objs.size f cd)
  N:=N
  s₀:=s
  H₀:=H
  env:=envOfC qual scope s.heap.objs.size f cd
  outer:=outer
  stack:=envOfC qual scope s.heap.objs.size f cd::outer
  ex:=[]
  calm:=true
  fn:=fun _=>true
  pn:=[]
  xe:=fun e s'=>wpAny (model P w) (A.deeper (envOfC qual scope s.heap.objs.size f cd)) (leaving (envOfC qual scope s.heap.objs.size f cd) e) (fun _ s''=>CX outer H s E e s'') (fun e' s''=>CX outer H s E e' s'') s'
theorem amh {sc:Scope} {n:Nat} {x:Str} (h:sc.names.lookup x=some .cell):∃ c,(cellsFrom n sc.names []).lookup x=some c:=by
  have q:=PySem.W.cellsFrom_some sc.names n [] (.inl h)
  exact Option.isSome_iff_exists.mp q
theorem arb {CX:CXT} {P:Program} {w:World} {K:PySem.W.Frag} {mg:Str→Option Value} {base:Heap} {N ps:List Str} {qual:Str} {scope:Scope} {f:Addr} {cd:Value} {A:Around} {outer:List Env} {s s1:Shared} {H:Hp} {E:XK} {us:List Value} {vs:List V}
    (S:FnScope N ps scope) (hd:A.handled=none) (e0:Env0 P w K mg base A outer s H) (hl:vs.length=ps.length) (r:Vals vs us)
    (x:InCallC s s.heap.objs.size (bindL (envOfC qual scope s.heap.objs.size f cd).kindOf (ps.zip us) fun _=>none) (cellsFrom (s.heap.objs.size+1) scope.names []) (bindC (envOfC qual scope s.heap.objs.size f cd).kindOf (ps.zip us) fun _=>none) s1) (ht:0<s1.toks):
    Inv (jb CX P w K mg base N qual scope f cd A outer s H E) [] (start N vs) H s1:=by
  have hpl:ps.length≤N.length:=by have:=congrArg List.length S.pre;rw [List.length_take] at this;omega
  obtain ⟨h1,tk,rfl,hk⟩:=x.done
  have noA:∀ b:Addr,b∉(jb CX P w K mg base N qual scope f cd A outer s H E).ex:=fun b z=>absurd (show b∈([]:List Addr) from z) (by simp)
  refine ⟨⟨e0.mod,S.kind,rfl,rfl,Nat.le_refl _,fun y z c h1 h2=>?_,fun y hy=>?_,fun y c _ h=>?_,fun _=>hd,Around.frames_deeper e0.frames,.inr ⟨rfl,rfl⟩,fun b z=>absurd z (noA b),e0.bs,e0.bsz,fun b _ _=>noA b,fun b z=>absurd z (noA b),e0.funs,e0.frf⟩,
    rfl,e0.bare,Un.kept hk,⟨_,x.toInCall.ns,fun i y v h1 h2 h3=>?_⟩,fun y c h=>⟨_,x.cell y c h⟩,e0.hok.fresh (Nat.le_refl _),fun y c h=>?_,fun p hp=>absurd (show p∈([]:List (Addr×Obj)) from hp) (by simp),e0.hok.kept hk,?_,ht⟩
  · exact name_of_addr x.apart (PySem.mem_of_lookup h1) (PySem.mem_of_lookup h2)
  · have hy:scope.names.lookup y=some .cell∨scope.names.lookup y=some .free:=hy
    rcases hy with hy | hy
    · exact amh hy
    · exact absurd rfl (S.nofree _ (PySem.mem_of_lookup hy))
  · exact Nat.le_of_lt (x.above y c (PySem.mem_of_lookup h))
  · have hi:i<vs.length:=by
      unfold start at h2
      by_cases hi:i<vs.length
      · exact hi
      · rw [List.getElem?_append_right (by simpa using hi)] at h2
        rw [List.getElem?_replicate] at h2
        split at h2<;>cases h2
    have ha:vs[i]?=some v:=by
      unfold start at h2
      rw [List.getElem?_append_left (by simpa using hi),List.getElem?_map] at h2
      cases e:vs[i]? with
      | none=>rw [e] at h2;cases h2
      | some a=>rw [e] at h2;cases h2;rfl
    obtain ⟨u,hu,rv⟩:=r.get ha
    have hp:ps[i]?=some y:=by
      rw [← S.pre,List.getElem?_take_of_lt (by omega)];exact h1
    have ndP:ps.Nodup:=by rw [← S.pre];exact S.nd.sublist (List.take_sublist _ _)
    refine ⟨u,rv,?_⟩
    rcases S.par y (List.mem_of_getElem? hp) with k | k
    · exact .inl ⟨k,ajn ndP hp hu k⟩
    · obtain ⟨c,e⟩:=amh (n:=s.heap.objs.size+1) k
      refine .inr ⟨.inl k,c,e,?_⟩
      have q:=x.cell y c e
      rw [ak5 ndP hp hu (by show scope.names.lookup y≠_;rw [k];decide)] at q
      exact q
  · exact e0.hok.fresh (Nat.le_of_lt (x.above y c (PySem.mem_of_lookup h)))
  · unfold start
    show _=N.length
    rw [List.length_append,List.length_map,List.length_replicate]
    omega
theorem ays {CX:CXT} {P:Program} {w:World} {K:PySem.W.Frag} {mg:Str→Option Value} {base:Heap} {k:Nat} {f:Addr} {name qual:Str} {params:Arguments} {body:List Stmt} {scope:Scope} {dV kV doc pm cdv ct oc:Value} {an od:Option Addr}
    {osl:Array (Option Value)} {N ps:List Str} {sp:Sp} (lk:K.lookup f=some ⟨oc,od,.func (PySem.W.fnOf name qual params body scope dV kV doc pm an cdv ct),osl⟩) (hcd:PySem.W.codeIn K cdv qual=true) (S:FnScope N ps scope)
    (len:∀ vs H Q E,sp vs H Q E→vs.length=ps.length)
    (hbody:∀ (A:Around) (outer:List Env) (s:Shared) (H:Hp) (vs:List V) (Q:VK) (E:XK),Room k (A.deeper (envOfC qual scope s.heap.objs.size f cdv))→sp vs H Q E→
      ∃ t,PSs (jb CX P w K mg base N qual scope f cdv A outer s H E) body t∧t { nx:=fun _ H'=>Q .non H',rt:=Q } (start N vs) H):
    FnOk P w K mg base CX (k+1) f (PySem.W.fnOf name qual params body scope dV kV doc pm an cdv ct) ps sp:=by
  refine ⟨len,fun A outer s H args us vs Q E hr e0 hb r hsp=>?_⟩
  have hl:=len _ _ _ _ hsp
  have KX:K.In s.heap:=e0.mod.kin.keeps fun b o e=>(e0.bs b o e).1
  have lim:s.heap.NoLimit:=e0.mod.nolimit.keeps fun b o e=>(e0.bs b o e).1
  have hkind:∀ y∈ps.zip us,scope.names.lookup y.1=some .local∨(scope.names.lookup y.1=some .cell∧((cellsFrom (s.heap.objs.size+1) scope.names []).lookup y.1).isSome=true):=fun ⟨n,v⟩ hy=>by
    rcases S.par n (List.of_mem_zip hy).1 with q | q
    · exact .inl q
    · exact .inr ⟨q,PySem.W.cellsFrom_some _ _ _ (.inl q)⟩
  refine codeAny_call_function hr.depth (KX _ _ lk) rfl S.co S.gen rfl (PySem.W.codeRec_of KX hcd) (hb _ _ _ _ ?_)
  refine jn e0.tk (wpAny_newFunctionEnv_cells S.kind hkind fun env he s1 x htk=>?_)
  subst he
  refine ⟨lim.keeps x.toInCall.keep,codeAny_func ?_⟩
  obtain ⟨t,ht,hq⟩:=hbody A outer s H vs Q E (hr.deeper _) hsp
  have I:Inv (jb CX P w K mg base N qual scope f cdv A outer s H E) [] (start N vs) H s1:=arb S hr.hd e0 hl r x htk
  refine wpAny_mono (ht [] s1 (start N vs) H _ I hq) (fun fl s' hs=>?_) fun e s' hs=>hs
  have fin:∀ {σ':St} {H':Hp} {v:V} {u:Value},Inv (jb CX P w K mg base N qual scope f cdv A outer s H E) [] σ' H' s'→RelV v u→Q v H'→CE outer P w H s Q u s':=
    fun {σ' H' v u} J rv q=>⟨v,H',J.os,J.bare,J.base,J.hok,rv,q,J.tk⟩
  cases fl with
  | ret u=>
    obtain ⟨v,σ',H',J,rv,q⟩:=hs
    exact fin J rv q
  | next=>
    obtain ⟨σ',H',J,q⟩:=hs
    exact fin (v:=V.non) (u:=Value.none) J rfl q
  | brk=>
    obtain ⟨_,_,_,q⟩:=hs
    exact False.elim q
  | cont=>
    obtain ⟨_,_,_,q⟩:=hs
    exact False.elim q
end L2
namespace L2
open PySem PySem.Spec PyProof.Rows
section
variable {X:Cx} {x:Str} {p pos:Pos} {e:Expr} {es:List Expr} {t:TA} {id T:String} {r:List V→Hp→VK→Prop}
def tCB (r:List V→Hp→VK→Prop) (t:TA):TE:=fun σ H Q=>t σ H fun vs H1=>r vs H1 Q
theorem ain (hc:CallR X (.builtin id) r) (hg:Gl X x) (hm:X.mg x=none) (hv:bootBuiltins x=some (.builtin id)) (ha:PA X (e::es) t) (hn:x ≠ "__name__" := by decide) (hdb:(x==("__debug__" : Str))=false:=by decide)
    (he:starEach (e::es) X.env=(false,eval e X.env)::starEach es X.env:=by rfl) (hpl:(backTo pos (starEach es X.env)).any (·.1)=false:=by rfl):PE X (.Call (.Name x p) (e::es) [] pos) (tCB r t):=by
  intro pins s σ H Q I h
  refine wpAny_Call_Name_kw (ahs I hg hm hv ?_ hn hdb)
  exact PyProof.Rows.callWith_builtin1 (thn (ha pos pins s σ H _ I h) fun us s1 ⟨vs,H1,I1,r1,q1⟩=>hc pins s1 σ H1 vs us Q I1 r1 q1) he hpl
theorem afb (hc:CallR X (.type T) r) (hg:Gl X x) (hm:X.mg x=none) (hv:bootBuiltins x=some (.type T)) (ha:PA X (e::es) t) (hn:x ≠ "__name__" := by decide) (hdb:(x==("__debug__" : Str))=false:=by decide)
    (he:starEach (e::es) X.env=(false,eval e X.env)::starEach es X.env:=by rfl) (hpl:(backTo pos (starEach es X.env)).any (·.1)=false:=by rfl):PE X (.Call (.Name x p) (e::es) [] pos) (tCB r t):=by
  intro pins s σ H Q I h
  refine wpAny_Call_Name_kw (ahs I hg hm hv ?_ hn hdb)
  exact PyProof.Rows.callWith_type1 (thn (ha pos pins s σ H _ I h) fun us s1 ⟨vs,H1,I1,r1,q1⟩=>hc pins s1 σ H1 vs us Q I1 r1 q1) he hpl
end
end L2
namespace L2
open PySem PySem.Spec PyProof.Rows
section
variable {κ:Type} [DecidableEq κ]
def acq (kvs:List (κ×V)) (k:κ):Option V:=(kvs.find? fun kv=>decide (kv.1=k)).map (·.2)
def abw (kvs:List (κ×V)) (k:κ) (v:V):List (κ×V):=
  if (kvs.any fun kv=>decide (kv.1=k))=true then kvs.map (fun kv=>if kv.1=k then (kv.1,v) else kv) else kvs++[(k,v)]
theorem aip {p:κ×V} {r:List (κ×V)} {k:κ} (e:p.1=k):acq (p::r) k=some p.2:=by simp [acq,List.find?_cons,e]
theorem adl {p:κ×V} {r:List (κ×V)} {k:κ} (e:¬ p.1=k):acq (p::r) k=acq r k:=by simp [acq,List.find?_cons,e]
theorem anf (k:κ):∀ kvs:List (κ×V),(kvs.any fun kv=>decide (kv.1=k))=(acq kvs k).isSome
  | []=>rfl
  | p::r=>by
    rw [List.any_cons]
    by_cases e:p.1=k
    · simp only [aip e,decide_eq_true e,Bool.true_or,Option.isSome_some]
    · rw [adl e,decide_eq_false e,Bool.false_or];exact anf k r
theorem abu (kvs:List (κ×V)) (k:κ) (v:V):(abw kvs k v).length≤kvs.length+1:=by
  unfold abw
  split
  · rw [List.length_map];omega
  · rw [List.length_append,List.length_cons,List.length_nil];omega
theorem RelO.isSome_eq {o:Option V} {u:Option Value} (r:RelO o u):o.isSome=u.isSome:=by
  cases o with
  | none=>cases u with
    | none=>rfl
    | some _=>exact (show False from r).elim
  | some _=>cases u with
    | none=>exact (show False from r).elim
    | some _=>rfl
theorem RelO.getD {o:Option V} {u:Option Value} {d:V} {d':Value} (r:RelO o u) (rd:RelV d d'):RelV (o.getD d) (u.getD d'):=by
  cases o with
  | none=>cases u with
    | none=>exact rd
    | some _=>exact (show False from r).elim
  | some _=>cases u with
    | none=>exact (show False from r).elim
    | some _=>exact r
theorem KV.val {kvs:List (κ×V)} {vs:List (κ×Value)} (r:KV kvs vs) (k:κ):RelO (acq kvs k) (valueAt vs k):=by
  unfold KV at r
  induction r with
  | nil=>exact True.intro
  | @cons p q ps qs h t ih=>
    obtain ⟨h1,h2⟩:=h
    by_cases e:p.1=k
    · have e':q.1=k:=h1.symm.trans e
      have b:valueAt (q::qs) k=some q.2:=by simp [valueAt,List.find?_cons,e']
      rw [aip e,b];exact h2
    · have e':¬ q.1=k:=fun z=>e (h1.trans z)
      have b:valueAt (q::qs) k=valueAt qs k:=by simp [valueAt,List.find?_cons,e']
      rw [adl e,b];exact ih
theorem KV.any {kvs:List (κ×V)} {vs:List (κ×Value)} (r:KV kvs vs) (k:κ):(kvs.any fun kv=>decide (kv.1=k))=vs.any fun kv=>decide (kv.1=k):=by
  unfold KV at r
  induction r with
  | nil=>rfl
  | cons h t ih=>rw [List.any_cons,List.any_cons,ih,h.1]
theorem KV.repl {kvs:List (κ×V)} {vs:List (κ×Value)} (r:KV kvs vs) (k:κ) {y:V} {u:Value} (ry:RelV y u):
    KV (kvs.map fun kv=>if kv.1=k then (kv.1,y) else kv) (vs.map fun kv=>if kv.1=k then (kv.1,u) else kv):=by
  unfold KV at r ⊢
  induction r with
  | nil=>exact .nil
  | @cons p q ps qs h t ih=>
    rw [List.map_cons,List.map_cons]
    refine .cons ?_ ih
    obtain ⟨h1,h2⟩:=h
    by_cases e:p.1=k
    · rw [if_pos e,if_pos (h1.symm.trans e)];exact ⟨h1,ry⟩
    · rw [if_neg e,if_neg (fun z=>e (h1.trans z))];exact ⟨h1,h2⟩
theorem KV.put {kvs:List (κ×V)} {vs:List (κ×Value)} (r:KV kvs vs) (k:κ) {y:V} {u:Value} (ry:RelV y u):KV (abw kvs k y) (stored vs k u):=by
  unfold abw stored
  rw [r.any k]
  by_cases e:(vs.any fun kv=>decide (kv.1=k))=true
  · rw [if_pos e,if_pos e];exact r.repl k ry
  · rw [if_neg e,if_neg e];exact Paired.snoc r ⟨rfl,ry⟩
theorem KV.length {kvs:List (κ×V)} {vs:List (κ×Value)} (r:KV kvs vs):kvs.length=vs.length:=Paired.length r
end
theorem ai9 {P:Program} {w:World} {k:Key} {u:Value} (r:RelV (kV k) u):(jf P w).is k u=true:=by
  cases k with
  | inl i=>obtain ⟨t,e⟩:=(show ∃ t,u=Value.int i t from r);subst e;exact an5 P w i t
  | inr x=>obtain ⟨t,e⟩:=(show ∃ t,u=Value.str x t from r);subst e;exact ano P w x t
theorem ajg {P:Program} {w:World}:∀ {ks:List Key} {us:List Value},Vals (ks.map kV) us→ItemsAre (jf P w) ks us
  | [],_,r=>by rw [List.map_nil] at r;cases r;exact .nil
  | k::ks,_,r=>by
    rw [List.map_cons] at r
    cases r with
    | cons h t=>exact .cons (ai9 h) (ajg t)
abbrev KT (H:Hp):List (List Key×V)→List (List Key×Addr×Value)→Prop:=Paired fun p q=>p.1=q.1∧H q.2.1=some (.tup (p.1.map kV))∧RelV p.2 q.2.2
theorem KT.val {H:Hp} {kvs:List (List Key×V)} {xs:List (List Key×Addr×Value)} (r:KT H kvs xs) (k:List Key):RelO (acq kvs k) ((atKey xs k).map (·.2)):=by
  induction r with
  | nil=>exact True.intro
  | @cons p q ps qs h t ih=>
    obtain ⟨h1,_,h2⟩:=h
    by_cases e:p.1=k
    · have e':q.1=k:=h1.symm.trans e
      have b:atKey (q::qs) k=some q.2:=by simp [atKey,List.find?_cons,e']
      rw [aip e,b];exact h2
    · have e':¬ q.1=k:=fun z=>e (h1.trans z)
      have b:atKey (q::qs) k=atKey qs k:=by simp [atKey,List.find?_cons,e']
      rw [adl e,b];exact ih
theorem KT.repl {H:Hp} {kvs:List (List Key×V)} {xs:List (List Key×Addr×Value)} (r:KT H kvs xs) (k:List Key) {y:V} {u:Value} (ry:RelV y u):
    KT H (kvs.map fun kv=>if kv.1=k then (kv.1,y) else kv) (xs.map (putAt k u)):=by
  induction r with
  | nil=>exact .nil
  | @cons p q ps qs h t ih=>
    rw [List.map_cons,List.map_cons]
    refine .cons ?_ ih
    obtain ⟨h1,h2,h3⟩:=h
    unfold putAt
    by_cases e:p.1=k
    · rw [if_pos e,if_pos (h1.symm.trans e)];exact ⟨h1,h2,ry⟩
    · rw [if_neg e,if_neg (fun z=>e (h1.trans z))];exact ⟨h1,h2,h3⟩
theorem KT.put {H:Hp} {kvs:List (List Key×V)} {xs:List (List Key×Addr×Value)} (r:KT H kvs xs) (k:List Key) {b:Addr} {y:V} {u:Value} (hb:H b=some (.tup (k.map kV))) (ry:RelV y u):
    KT H (abw kvs k y) (storedH xs k b u):=by
  have e:(kvs.any fun kv=>decide (kv.1=k))=(atKey xs k).isSome:=by
    rw [anf,(r.val k).isSome_eq,Option.isSome_map]
  unfold abw storedH
  rw [e]
  by_cases q:(atKey xs k).isSome=true
  · rw [if_pos q,if_pos q];exact r.repl k ry
  · rw [if_neg q,if_neg q];exact Paired.snoc r ⟨rfl,hb,ry⟩
theorem KT.keeps {H H':Hp} {kvs:List (List Key×V)} {xs:List (List Key×Addr×Value)} (r:KT H kvs xs) (ht:∀ b ys,H b=some (.tup ys)→H' b=some (.tup ys)):KT H' kvs xs:=
  Paired.mapP r fun _ _ z=>⟨z.1,ht _ _ z.2.1,z.2.2⟩
section
variable {P:Program} {w:World} {H:Hp} {h:Heap} {a:Addr}
theorem ayn {u:HO} (ok:HOk P w H h) (e:Rd H a u):ObjOk P w H h a u:=e.ok ok
theorem ajo {kvs:List (Key×V)} (ok:HOk P w H h) (e:Rd H a (.dK kvs)):kvs.length≤sizeLine∧(a==sysModules)=false∧∃ vs,KV kvs vs∧h.DictOf (jf P w) a vs:=
  show ObjOk P w H h a (.dK kvs) from ayn ok e
theorem ayf {kvs:List (Key×V)} (ok:HOk P w H h) (e:H a=some (.dK kvs)):kvs.length≤sizeLine∧(a==sysModules)=false∧∃ vs,KV kvs vs∧h.DictOf (jf P w) a vs:=ajo ok (.inl e)
theorem akm {ks:List Key} (ok:HOk P w H h) (e:H a=some (.tup (ks.map kV))):(tupleKind (jf P w)).is h ks a:=by
  obtain ⟨_,its,r,o,h1,h2,n,h3⟩:=(show ObjOk P w H h a (.tup (ks.map kV)) from ok a _ e)
  exact ⟨o,its.toArray,n,h1,h2,h3,by simpa using ajg r⟩
theorem amd {kvs:List (List Key×V)} (ok:HOk P w H h) (e:Rd H a (.dT kvs)):kvs.length≤sizeLine∧(a==sysModules)=false∧
    ∃ xs,KT H kvs xs∧h.DictOfH (tupleKind (jf P w)) a xs:=by
  obtain ⟨z,y,xs,r,o,es,ep,h1,h2,h3,h4,h5⟩:=(show ObjOk P w H h a (.dT kvs) from ayn ok e)
  refine ⟨z,y,xs,r,o,es,ep,h1,h2,h3,h4,fun x hx=>?_,h5⟩
  have all:∀ {l:List (List Key×V)} {m:List (List Key×Addr×Value)},KT H l m→∀ x∈m,(tupleKind (jf P w)).is h x.1 x.2.1:=by
    intro l m q
    induction q with
    | nil=>intro x hx;exact nomatch hx
    | @cons p q ps qs hq t ih=>
      intro x hx
      rcases List.mem_cons.mp hx with e | hx
      · subst e
        exact akm ok (by rw [← hq.1];exact hq.2.1)
      · exact ih x hx
  exact all r x hx
theorem a3m {kvs:List (List Key×V)} (ok:HOk P w H h) (e:H a=some (.dT kvs)):kvs.length≤sizeLine∧(a==sysModules)=false∧
    ∃ xs,KT H kvs xs∧h.DictOfH (tupleKind (jf P w)) a xs:=amd ok (.inl e)
end
def at9 (H:Hp) (a:Addr) (y:V) (r:Option V):Prop:=
  (∃ kvs k,Rd H a (.dK kvs)∧y=kV k∧r=acq kvs k)∨∃ kvs k b,Rd H a (.dT kvs)∧y=.ref b∧H b=some (.tup (k.map kV))∧r=acq kvs k
def a3y (H:Hp) (a:Addr) (y v:V) (H':Hp):Prop:=
  (∃ kvs k,H a=some (.dK kvs)∧y=kV k∧kvs.length<sizeLine∧H'=upd H a (.dK (abw kvs k v)))∨
  ∃ kvs k b,H a=some (.dT kvs)∧y=.ref b∧H b=some (.tup (k.map kV))∧kvs.length<sizeLine∧H'=upd H a (.dT (abw kvs k v))
section
variable {X:Cx} {pins:List (Addr×Obj)} {σ:St} {H:Hp} {s:Shared} {a:Addr} {y v:V} {u r:Value} {o:Option V} {A:Around} {E:Value→Shared→Prop}
theorem Inv.big (I:Inv X pins σ H s):sysModules<s.heap.objs.size:=by
  have h:mainGlobals<s.heap.objs.size:=(I.mod.glob.keeps I.bk).lt
  exact Nat.lt_trans (by decide) h
theorem aqw {Q:Value→Shared→Prop} (hu:A.units+1<cLine) (I:Inv X pins σ H s) (g:at9 H a y (some v)) (ry:RelV y u) (h:∀ w' s',Inv X pins σ H s'→RelV v w'→Q w' s'):
    wpAny (model X.prog X.w) A (getItem (.ref a) u) Q E s:=by
  rcases g with ⟨kvs,k,e,ey,l⟩ | ⟨kvs,k,b,e,ey,eb,l⟩
  · subst ey
    obtain ⟨z,hd,vs,rel,dd⟩:=ajo I.hok e
    obtain ⟨w',hw,rw'⟩:=RelO.some_of (v:=v) (o:=valueAt vs k) (by rw [l];exact rel.val k)
    exact wpAny_getItem_of (ai9 ry) dd.mapOf hw (h w' _ (I.tok _) rw')
  · subst ey
    cases (show u=Value.ref b from ry)
    obtain ⟨z,hd,xs,rel,dd⟩:=amd I.hok e
    obtain ⟨w',hw,rw'⟩:=RelO.some_of (v:=v) (o:=(atKey xs k).map (·.2)) (by rw [l];exact rel.val k)
    obtain ⟨p,hp,hp2⟩:=Option.map_eq_some_iff.mp hw
    refine wpAny_getItem_heap (tupleKind_room_in1 hu) (akm I.hok eb) dd hp ?_
    rw [hp2]
    exact h w' _ (I.tok _) rw'
theorem akk {h':Heap} {t':Nat} {ob:HO} (I:Inv X pins σ H s) (mu:Mut (H a)) (hs:Heap.SameBut a s.heap h') (he:∃ q,h'.get? a=some q) (new:ObjOk X.prog X.w (upd H a ob) h' a ob) (ht:0<t':=by (first | assumption | exact Nat.succ_pos _ | exact Inv.tk (by assumption) | exact Nat.lt_of_lt_of_le (Inv.tk (by assumption)) (Nat.le_add_right _ _) | exact Nat.lt_of_lt_of_le (Inv.tk (by assumption)) (by assumption))):
    Inv X pins σ (upd H a ob) { s with heap:=h',toks:=t' }:=
  I.write (x:=a) (e:=a) mu (.inl rfl) (fun b q hb z=>(hs.2 b hb).trans z) he new
theorem aup {P:Program} {w:World} {H':Hp} {h':Heap} {kvs:List (Key×V)} {vs:List (Key×Value)} (z:kvs.length≤sizeLine) (hd:(a==sysModules)=false) (rel:KV kvs vs) (dd:h'.DictOf (jf P w) a vs):
    ObjOk P w H' h' a (.dK kvs):=⟨z,hd,vs,rel,dd⟩
theorem aqt {H':Hp} {Q:Unit→Shared→Prop} (hu:A.units+1<cLine) (I:Inv X pins σ H s) (g:a3y H a y v H') (ry:RelV y u) (rv:RelV v r) (h:∀ s',Inv X pins σ H' s'→Q () s'):
    wpAny (model X.prog X.w) A (setItem (.ref a) u r) Q E s:=by
  rcases g with ⟨kvs,k,e,ey,l,eH⟩ | ⟨kvs,k,b,e,ey,eb,l,eH⟩
  · subst ey eH
    obtain ⟨z,hd,vs,rel,dd⟩:=ayf I.hok e
    have hz:vs.length≤sizeLine:=by rw [← rel.length];exact z
    have hl:(abw kvs k v).length≤sizeLine:=by have:=abu kvs k v;omega
    refine wpAny_setItem_pairs (hsz:=hz) (ai9 ry) dd fun h' dd' hs=>h _ ?_
    have he:∃ q,h'.get? a=some q:=let ⟨q,_,_,hq,_⟩:=dd';⟨q,hq⟩
    exact akk I (by rw [e];exact True.intro) hs he (aup hl hd (rel.put k rv) dd')
  · subst ey eH
    cases (show u=Value.ref b from ry)
    obtain ⟨z,hd,xs,rel,dd⟩:=a3m I.hok e
    have hz:xs.length≤sizeLine:=by rw [← Paired.length rel];exact z
    have hl:(abw kvs k v).length≤sizeLine:=by have:=abu kvs k v;omega
    refine wpAny_setItem_heap (hsz:=hz) (tupleKind_room_in1 hu) (akm I.hok eb) dd fun h' dd' hs=>h _ ?_
    obtain ⟨q,es,ep,hq,h2,h3,h4,_,h5⟩:=dd'
    refine akk I (by rw [e];exact True.intro) hs ⟨q,hq⟩ ⟨hl,hd,_,(rel.put k eb rv).keeps fun c ys ec=>?_,q,es,ep,hq,h2,h3,h4,h5⟩
    rw [qt (a3q ec e (fun z=>nomatch z))]
    exact ec
end
section
variable {X:Cx} {pins:List (Addr×Obj)} {σ:St} {H:Hp} {s:Shared} {a:Addr} {kvs:List (Key×V)} {k:Key} {u:Value} {A:Around} {E:Value→Shared→Prop}
end
def a0e (i:Expr):Prop:=∀ ov iv,subscripted i false ov iv=operate [ov,iv] (getItem ov iv)
theorem ay0 {prog:Program} {w:World} {A:Around} {E:Value→Shared→Prop} {s:Shared} {env:Env} {value slice:Expr} {pos:Pos} {T id:String} {Q:Value→Shared→Prop}
    (hl:typeLookup (.type T) "__getitem__" = pure (some (.builtin id))) (hs:a0e slice)
    (h:wpAny (model prog w) A (eval value env) (fun o s₁=>wpAny (model prog w) A (eval slice env) (fun i s₂=>s₂.TypeIs o T∧wpAny (model prog w) A (getItem o i) Q E s₂) E s₁) E s):
    wpAny (model prog w) A (eval (.Subscript value slice pos) env) Q E s:=by
  refine Subscript_ (wpAny_mono h (fun o s₁ h₁=>wpAny_mono h₁ (fun i s₂ h₂=>?_) fun _ _ x=>x) fun _ _ x=>x)
  obtain ⟨hT,h₂⟩:=h₂
  unfold subscriptTail
  refine wpAny_bind ?_
  rw [getitemInPython_of_ne hT.not_modules]
  refine wpAny_bind (wpAny_specialOf hT hl ?_)
  have fin:wpAny (model prog w) A (subscripted slice false o i) (fun r s₃=>wpAny (model prog w) A (letTemporaryGo value o r >>= fun _=>pure r) Q E s₃) E s₂:=by
    rw [hs o i]
    exact wpAny_operating (wpAny_mono h₂ (fun r s₃ h₃=>wpAny_bind (wpAny_letTemporaryGo (wpAny_pure h₃))) fun _ _ x=>x)
  first
    | exact wpAny_pure (wpAny_bind fin)
    | exact wpAny_bind (wpAny_pure (wpAny_bind fin))
    | exact wpAny_bind fin
theorem alz {X:Cx} {pins:List (Addr×Obj)} {σ:St} {H:Hp} {s:Shared} {a:Addr} {y:V} {o:Option V} (I:Inv X pins σ H s) (g:at9 H a y o):s.TypeIs (.ref a) "dict" := by
  rcases g with ⟨kvs,k,e,_,_⟩ | ⟨kvs,k,b,e,_,_,_⟩
  · obtain ⟨_,_,vs,_,dd⟩:=ajo I.hok e
    exact dd.typeIs
  · obtain ⟨_,_,xs,_,dd⟩:=amd I.hok e
    exact dd.typeIs
def a2j (td ty:TE):TE:=fun σ H Q=>td σ H fun x H1=>ty σ H1 fun y H2=>∃ a v,x=.ref a∧at9 H2 a y (some v)∧Q v H2
def a3w (td ty tv:TE):TS:=fun D σ H=>tv σ H fun v H1=>td σ H1 fun x H2=>ty σ H2 fun y H3=>∃ a H4,x=.ref a∧a3y H3 a y v H4∧D.nx σ H4
section
variable {X:Cx} {o i e value:Expr} {pos pos' tpos:Pos} {td ty tv:TE}
theorem axx (hu:X.A.units+1<cLine) (ho:PE X o td) (hi:PE X i ty) (hs:a0e i):PE X (.Subscript o i pos) (a2j td ty):=by
  intro pins s σ H Q I h
  refine ay0 PySem.F.slot_dict_getitem.lookup hs (thn (ho pins s σ H _ I h) fun u s1 ⟨x,H1,I1,rx,q1⟩=>thn (hi pins s1 σ H1 _ I1 q1) fun iv s2 ⟨y,H2,I2,ry,a,v,ex,g,q2⟩=>?_)
  subst ex
  obtain rfl:u=Value.ref a:=rx
  exact ⟨alz I2 g,aqw hu I2 g ry fun w' s3 I3 rw'=>⟨v,H2,I3,rw',q2⟩⟩
theorem avr (hu:X.A.units+1<cLine) (ho:PE X o td) (hi:PE X i ty) (hv:PE X value tv) (hs:swapsWith value (some (.Subscript o i pos')) pos.line X.env=pure false):
    PS X (.Assign [.Subscript o i pos'] value pos) (a3w td ty tv):=by
  intro pins s σ H D I h
  refine wpAny_Assign_Subscript (thn (hv pins s σ H _ I h) fun r s1 ⟨v,H1,I1,rv,q1⟩=>thn (ho pins s1 σ H1 _ I1 q1) fun u s2 ⟨x,H2,I2,rx,q2⟩=>thn (hi pins s2 σ H2 _ I2 q2) fun iv s3 ⟨y,H3,I3,ry,a,H4,ex,g,q3⟩=>?_) hs
  subst ex
  obtain rfl:u=Value.ref a:=rx
  exact aqt hu I3 g ry rv fun s4 I4=>⟨σ,H4,I4,q3⟩
end
theorem an0 {P:Program} {w:World} {H:Hp} (h:Heap) (hb:sysModules<h.objs.size):ObjOk P w H (h.push { cls:=.type "dict",data:=.dict #[] }) h.objs.size (.dK []):=
  ⟨Nat.zero_le _,beq_eq_false_iff_ne.mpr (Ne.symm (Nat.ne_of_lt hb)),[],.nil,Heap.DictOf.new h⟩
def a0n:TE:=fun _ H Q=>∀ p,H p=none→Q (.ref p) (upd H p (.dK []))
section
variable {X:Cx} {pos:Pos}
theorem avg:PE X (.Dict [] [] pos) a0n:=fun pins s σ H Q I h=>
  wpAny_Dict_empty ⟨.ref s.heap.objs.size,_,I.laid (a:=s.heap.objs.size) (o:=.dK []) (t':=s.toks) (fun _ _ q=>Heap.get?_push_of_some _ q) (Nat.le_refl _) (an0 s.heap I.big),rfl,h _ (I.hok.fresh (Nat.le_refl _))⟩
end
def akg:List (TE×TE)→St→Hp→(List (V×V)→Hp→Prop)→Prop
  | [],_,H,Q=>Q [] H
  | (tk,tv)::r,σ,H,Q=>tk σ H fun x H1=>tv σ H1 fun y H2=>akg r σ H2 fun ps H3=>Q ((x,y)::ps) H3
abbrev VV:List (V×V)→List (Value×Value)→Prop:=Paired fun p q=>RelV p.1 q.1∧RelV p.2 q.2
def PPs (X:Cx) (pos:Pos) (keys:List (Option Expr)) (values:List Expr) (trs:List (TE×TE)):Prop:=
  ∀ (pins:List (Addr×Obj)) (s:Shared) (σ:St) (H:Hp) (Q:List (V×V)→Hp→Prop),Inv X pins σ H s→akg trs σ H Q→
    wpAny (model X.prog X.w) X.A (evalPairs (pairTrees keys values X.env pos)) (fun vs s'=>∃ ps H',Inv X pins σ H' s'∧VV ps vs∧Q ps H') X.xe s
theorem awa {X:Cx} {pos:Pos}:PPs X pos [] [] []:=fun pins s σ H Q I h=>pairTrees_nil_walk ⟨[],H,I,.nil,h⟩
theorem amg {X:Cx} {pos:Pos} {k v:Expr} {ks:List (Option Expr)} {vs:List Expr} {tk tv:TE} {trs:List (TE×TE)} (hk:PE X k tk) (hv:PE X v tv) (hr:PPs X pos ks vs trs):
    PPs X pos (some k::ks) (v::vs) ((tk,tv)::trs):=fun pins s σ H Q I h=>
  pairTrees_cons_walk (thn (hk pins s σ H _ I h) fun u s1 ⟨x,H1,I1,rx,q1⟩=>thn (hv pins s1 σ H1 _ I1 q1) fun w2 s2 ⟨y,H2,I2,ry,q2⟩=>
    thn (hr pins s2 σ H2 _ I2 q2) fun ws s3 ⟨ps,H3,I3,rel,q3⟩=>⟨(x,y)::ps,H3,I3,.cons ⟨rx,ry⟩ rel,q3⟩)
def af0 (kvs more:List (Key×V)):List (Key×V):=more.foldl (fun acc kv=>abw acc kv.1 kv.2) kvs
theorem KV.merge:∀ {more:List (Key×V)} {rs:List (Key×Value)} {kvs:List (Key×V)} {vs:List (Key×Value)},KV more rs→KV kvs vs→KV (af0 kvs more) (merged vs rs):=by
  intro more rs kvs vs r
  unfold KV at r
  induction r generalizing kvs vs with
  | nil=>intro q;exact q
  | @cons p q ps qs h t ih=>
    intro r0
    have e:KV (abw kvs p.1 p.2) (stored vs q.1 q.2):=by
      have:=r0.put p.1 h.2
      rw [← h.1];exact this
    exact ih e
theorem acu:∀ (more kvs:List (Key×V)),(af0 kvs more).length≤kvs.length+more.length
  | [],kvs=>by show kvs.length≤kvs.length+0;omega
  | p::r,kvs=>by
    have h1:=acu r (abw kvs p.1 p.2)
    have h2:=abu kvs p.1 p.2
    show (af0 (abw kvs p.1 p.2) r).length≤_
    rw [List.length_cons];omega
theorem aik {P:Program} {w:World}:∀ {kvs:List (Key×V)} {ws:List (Value×Value)},VV (kvs.map fun kv=>(kV kv.1,kv.2)) ws→∃ rs,Carries (jf P w) ws rs∧KV kvs rs
  | [],_,r=>by rw [List.map_nil] at r;cases r;exact ⟨[],True.intro,.nil⟩
  | p::kvs,_,r=>by
    rw [List.map_cons] at r
    cases r with
    | @cons a b as bs h t=>
      obtain ⟨rs,c,q⟩:=aik (P:=P) (w:=w) t
      obtain ⟨b1,b2⟩:=b
      exact ⟨(p.1,b2)::rs,⟨ai9 h.1,rfl,c⟩,.cons ⟨rfl,h.2⟩ q⟩
def a2l (trs:List (TE×TE)):TE:=fun σ H Q=>∀ p,H p=none→akg trs σ (upd H p (.dK [])) fun ps H2=>H2 p=some (.dK [])∧∃ kvs:List (Key×V),ps=kvs.map (fun kv=>(kV kv.1,kv.2))∧kvs.length≤15∧Q (.ref p) (upd H2 p (.dK (af0 [] kvs)))
theorem axv {X:Cx} {pos:Pos} {keys:List (Option Expr)} {values:List Expr} {trs:List (TE×TE)} (h:PPs X pos keys values trs) (hall:keys.all (·.isSome)=true) (hl:keys.length=values.length) (h0:keys≠[])
    (h15:keys.length≤15):PE X (.Dict keys values pos) (a2l trs):=by
  intro pins s σ H Q I q
  have hn:=I.hok.fresh (Nat.le_refl s.heap.objs.size)
  have I1:=I.laid (a:=s.heap.objs.size) (o:=.dK []) (h':=s.heap.push { cls:=.type "dict",data:=.dict #[] }) (t':=s.toks) (fun _ _ q=>Heap.get?_push_of_some _ q) (Nat.le_refl _) (an0 s.heap I.big)
  refine wpAny_Dict_walk (knd:=jf X.prog X.w) hall hl h0 h15 (thn (h pins _ σ _ _ I1 (q _ hn)) fun ws s2 ⟨ps,H2,I2,rel,e,kvs,ep,lk,q2⟩=>?_)
  subst ep
  obtain ⟨rs,c,rk⟩:=aik (P:=X.prog) (w:=X.w) rel
  obtain ⟨z,hd,vs0,r0,dd⟩:=ayf I2.hok e
  cases r0
  refine ⟨rs,c,dd,fun h' dd' hs=>⟨.ref s.heap.objs.size,_,?_,rfl,q2⟩⟩
  have hz:(af0 [] kvs).length≤sizeLine:=by
    have h1:=acu kvs []
    rw [List.length_nil] at h1
    rw [sizeLine_eq];omega
  have he:∃ q,h'.get? s.heap.objs.size=some q:=let ⟨q,_,_,hq,_⟩:=dd';⟨q,hq⟩
  exact akk I2 (by rw [e];exact True.intro) hs he (aup hz hd (rk.merge .nil) dd')
structure M2 (X:Cx) (o:Expr) (m:Str) (apos:Pos) (e f:Expr) (cpos:Pos):Prop where
  base:attributeBase o m X.env (eval o X.env)=eval o X.env
  few:((backTo cpos (starEach [e,f] X.env)).all (fun x=>!x.1)&&(backToKw cpos (keywordEach [] X.env)).all (fun x=>x.1.isSome)
    && decide (([e,f]:List Expr).length+([]:List Keyword).length+(if ([]:List Keyword).isEmpty then 0 else 1)<30))=true
  line:(apos.endLine==cpos.line)=true
  trees:backTo cpos (starEach [e,f] X.env)=[(false,eval e X.env),(false,eval f X.env)]
def IsD (H:Hp) (a:Addr):Prop:=(∃ kvs,Rd H a (.dK kvs))∨∃ kvs,Rd H a (.dT kvs)
theorem a0k {X:Cx} {pins:List (Addr×Obj)} {σ:St} {H:Hp} {s:Shared} {a:Addr} (I:Inv X pins σ H s) (d:IsD H a):
    s.TypeIs (.ref a) "dict" ∧ (∀ b,Value.ref a=.ref b→∃ ob,s.heap.get? b=some ob∧ob.dict=none)∧(a==sysModules)=false:=by
  rcases d with ⟨kvs,e⟩ | ⟨kvs,e⟩
  · obtain ⟨_,hd,vs,_,dd⟩:=ajo I.hok e
    refine ⟨dd.typeIs,fun b q=>?_,hd⟩
    cases q
    obtain ⟨ob,_,_,h1,h2,_⟩:=dd
    exact ⟨ob,h1,h2.2.1⟩
  · obtain ⟨_,hd,xs,_,dd⟩:=amd I.hok e
    refine ⟨dd.typeIs,fun b q=>?_,hd⟩
    cases q
    obtain ⟨ob,_,_,h1,h2,_⟩:=dd
    exact ⟨ob,h1,h2.2.1⟩
section
variable {X:Cx} {pins:List (Addr×Obj)} {σ:St} {H:Hp} {s:Shared} {a:Addr} {y d:V} {u r:Value} {o:Option V} {A:Around} {E:Value→Shared→Prop}
theorem a0z {Q:Value→Shared→Prop} (hu:A.units+1<cLine) (I:Inv X pins σ H s) (g:at9 H a y o) (ry:RelV y u) (rd:RelV d r) (h:∀ w' s',Inv X pins σ H s'→RelV (o.getD d) w'→Q w' s'):
    wpAny (model X.prog X.w) A (call (.builtin "dict.get") [.ref a,u,r]) Q E s:=by
  rcases g with ⟨kvs,k,e,ey,l⟩ | ⟨kvs,k,b,e,ey,eb,l⟩
  · subst ey
    obtain ⟨z,hd,vs,rel,dd⟩:=ajo I.hok e
    refine call_meetsIn PySem.F.slot_dict_get dd.typeIs PySem.F.entry_dict_get (PySem.F.args_dict_get_3 _ _ _) (meets_dict_get_default (jf X.prog X.w) a (ai9 ry) hd r) ⟨_,dd.mapOf,h _ _ (I.tok _) ?_⟩
    rw [l]
    exact (rel.val k).getD rd
  · subst ey
    cases (show u=Value.ref b from ry)
    obtain ⟨z,hd,xs,rel,dd⟩:=amd I.hok e
    refine call_meetsIn PySem.F.slot_dict_get dd.typeIs PySem.F.entry_dict_get (PySem.F.args_dict_get_3 _ _ _) (meetsH_dict_get_default (tupleKind (jf X.prog X.w)) a b hd r) ⟨tupleKind_room_in1 hu,k,xs,akm I.hok eb,dd,h _ _ (I.tok _) ?_⟩
    rw [l]
    exact (rel.val k).getD rd
end
def azd (td ty tx:TE):TE:=fun σ H Q=>td σ H fun x H1=>∃ a,x=.ref a∧IsD H1 a∧ty σ H1 fun y H2=>tx σ H2 fun z H3=>∃ o,at9 H3 a y o∧Q (o.getD z) H3
section
variable {X:Cx} {o e f:Expr} {apos cpos:Pos} {td ty tx:TE}
theorem atp (hu:X.A.units+1<cLine) (ho:PE X o td) (he:PE X e ty) (hf:PE X f tx) (m:M2 X o "get" apos e f cpos):PE X (.Call (.Attribute o "get" apos) [e,f] [] cpos) (azd td ty tx):=by
  intro pins s σ H Q I h
  refine wpAny_Call_method m.base m.few m.line PySem.F.plainAttrs_dict PySem.F.slot_dict_get PySem.F.type_dict_get (thn (ho pins s σ H _ I h) fun u s1 ⟨x,H1,I1,rx,a,ex,d,q1⟩=>?_)
  subst ex
  obtain rfl:u=Value.ref a:=rx
  obtain ⟨t1,t2,_⟩:=a0k I1 d
  refine ⟨t1,t2,?_⟩
  rw [m.trees]
  refine Calls.callWith_builtin rfl (Calls.evalArgs_plain (Calls.spliced_cons (thn (he pins s1 σ H1 _ I1 q1) fun iv s2 ⟨y,H2,I2,ry,q2⟩=>
    Calls.spliced_cons (thn (hf pins s2 σ H2 _ I2 q2) fun fv s3 ⟨z,H3,I3,rz,ov,g,q3⟩=>Calls.spliced_nil ?_))))
  exact a0z hu I3 g ry rz fun w' s4 I4 rw'=>⟨_,H3,I4,rw',q3⟩
end
section
variable {X:Cx} {pins:List (Addr×Obj)} {σ:St} {H:Hp} {s:Shared} {a:Addr} {kvs:List (Key×V)} {A:Around} {E:Value→Shared→Prop}
end
section
variable {X:Cx} {pins:List (Addr×Obj)} {σ:St} {H:Hp} {s:Shared} {a:Addr} {y:V} {u:Value} {A:Around} {E:Value→Shared→Prop}
end
end L2
namespace HT
open PySem PyProof.Rows
section
open PySem.SeqAt
open PySem.AutoSeq1 (wpAny_loadPart')
open PySem.MeetsSeq PySem.MeetsSeq2 PySem.MeetsSeq3
end
section
variable {prog:Program} {w:World} {A:Around} {E:Value→Shared→Prop} {s:Shared}
def sIx (n d:Nat):Option Int→Nat
  | none=>d
  | some v=>if v<0 then (v+(n:Int)).toNat else min v.toNat n
theorem sIx_none (n d:Nat):sIx n d none=d:=rfl
theorem sIx_nat (n d k:Nat):sIx n d (some (k:Int))=min k n:=by
  show (if (k:Int)<0 then ((k:Int)+(n:Int)).toNat else min (k:Int).toNat n)=min k n
  rw [if_neg (by omega),Int.toNat_natCast]
theorem sIx_le (n d:Nat) (hd:d≤n) (o:Option Int):sIx n d o≤n:=by
  cases o with
  | none=>exact hd
  | some v=>
    show (if v<0 then (v+(n:Int)).toNat else min v.toNat n)≤n
    by_cases hv:v<0
    · rw [if_pos hv];omega
    · rw [if_neg hv];exact Nat.min_le_right _ _
end
end HT
namespace L2
open PySem PySem.Spec PyProof.Rows
abbrev TO:=St→Hp→(Option Int→Hp→Prop)→Prop
def PO (X:Cx) (e:Option Expr) (t:TO):Prop:=
  ∀ (pins:List (Addr×Obj)) (s:Shared) (σ:St) (H:Hp) (Q:Option Int→Hp→Prop),Inv X pins σ H s→t σ H Q→
    wpAny (model X.prog X.w) X.A (evalPart e X.env) (fun u s'=>∃ o H',Inv X pins σ H' s'∧IsPart u o∧Q o H') X.xe s
def ay5:TO:=fun _ H Q=>Q none H
def a3l (t:TE):TO:=fun σ H Q=>t σ H fun x H1=>∃ i,x=.int i∧Q (some i) H1
section
variable {X:Cx} {e:Expr} {te:TE} {lo hi:Option Expr} {tl th:TO} {pos p2:Pos}
theorem awu:PO X none ay5:=by
  intro pins s σ H Q I h
  rw [evalPart_none]
  exact wpAny_pure ⟨none,H,I,.none,h⟩
theorem awd (h:PE X e te):PO X (some e) (a3l te):=by
  intro pins s σ H Q I hw
  rw [evalPart_some]
  refine thn (h pins s σ H _ I hw) fun u s1 ⟨x,H1,I1,r1,q1⟩=>?_
  obtain ⟨i,rfl,q⟩:=q1
  obtain ⟨t,rfl⟩:=r1
  exact ⟨some i,H1,I1,.int i t,q⟩
def SlR (X:Cx) (r:V→Option Int→Option Int→Hp→VK→Prop):Prop:=
  ∀ (pins:List (Addr×Obj)) (s:Shared) (σ:St) (H:Hp) (x:V) (v vl vu:Value) (lo hi:Option Int) (sl:Addr) (Q:VK),Inv X pins σ H s→RelV x v→s.heap.IsSliceOf sl vl vu .none→IsPart vl lo→IsPart vu hi→r x lo hi H Q→
    ∃ T id,typeLookup (.type T) "__getitem__" = pure (some (.builtin id))∧s.TypeIs v T∧wpAny (model X.prog X.w) X.A (getItem v (.ref sl)) (EP X pins σ Q) X.xe s
theorem SlR.or {r r':V→Option Int→Option Int→Hp→VK→Prop} (h:SlR X r) (h':SlR X r'):SlR X (fun x lo hi H Q=>r x lo hi H Q∨r' x lo hi H Q):=by
  intro pins s σ H x v vl vu lo hi sl Q I rx hs pl pu q
  rcases q with q | q
  · exact h pins s σ H x v vl vu lo hi sl Q I rx hs pl pu q
  · exact h' pins s σ H x v vl vu lo hi sl Q I rx hs pl pu q
def tSl (r:V→Option Int→Option Int→Hp→VK→Prop) (te:TE) (tl th:TO):TE:=fun σ H Q=>te σ H fun x H1=>tl σ H1 fun l H2=>th σ H2 fun u H3=>r x l u H3 Q
theorem av5 {r:V→Option Int→Option Int→Hp→VK→Prop} (hr:SlR X r) (he:PE X e te) (hl:PO X lo tl) (hu:PO X hi th):PE X (.Subscript e (.Slice lo hi none p2) pos) (tSl r te tl th):=by
  intro pins s σ H Q I h
  refine Subscript_ (thn (he pins s σ H _ I h) fun v s1 ⟨x,H1,I1,r1,q1⟩=>?_)
  refine wpAny_Slice (thn (hl pins s1 σ H1 _ I1 q1) fun vl s2 ⟨l,H2,I2,pl,q2⟩=>thn (hu pins s2 σ H2 _ I2 q2) fun vu s3 ⟨u,H3,I3,pu,q3⟩=>?_)
  rw [evalPart_none]
  refine wpAny_pure ?_
  have I4:Inv X pins σ H3 { s3 with heap:=s3.heap.push { cls:=.type "slice",data:=.fields #[vl,vu,.none] } }:=I3.kept (t':=s3.toks) fun b ob q=>Heap.get?_push_of_some _ q
  obtain ⟨T,id,hT,ht,hg⟩:=hr pins { s3 with heap:=s3.heap.push { cls:=.type "slice",data:=.fields #[vl,vu,.none] } } σ H3 x v vl vu l u s3.heap.objs.size Q I4 r1 (Heap.IsSliceOf.new ..) pl pu q3
  show wpAny (model X.prog X.w) X.A (subscriptTail e (.Slice lo hi none p2) v (.ref s3.heap.objs.size)) (EP X pins σ Q) X.xe { s3 with heap:=s3.heap.push { cls:=.type "slice",data:=.fields #[vl,vu,.none] } }
  exact tail_any (ops:=[.ref s3.heap.objs.size,v]) ht hT hg (by with_unfolding_all rfl)
def arl (xs:List V) (lo hi:Option Int):List V:=(xs.drop (HT.sIx xs.length 0 lo)).take (HT.sIx xs.length xs.length hi - HT.sIx xs.length 0 lo)
theorem aly (xs:List V) (lo hi:Option Int):(arl xs lo hi).length≤xs.length:=by
  unfold arl
  rw [List.length_take,List.length_drop]
  omega
end
end L2
namespace L2
open PySem PySem.Spec PyProof.Rows
def ixN (n:Nat) (i:Int):Option Nat:=if 0≤i then (if i<n then some i.toNat else none) else if -(n:Int)≤i then some (i+n).toNat else none
def atI {α:Type} (xs:List α) (i:Int):Option α:=(ixN xs.length i).bind fun j=>xs[j]?
theorem apz {n:Nat} {i:Int} {j:Nat} (h:ixN n i=some j):seqIndex? i n=some j∧j<n ∧ -(n:Int)≤i∧i<n:=by
  unfold ixN at h
  by_cases h0:0≤i
  · rw [if_pos h0] at h
    by_cases h1:i<n
    · rw [if_pos h1] at h
      have e:i.toNat=j:=Option.some.inj h
      exact ⟨by rw [seqIndex_of h0 h1,e],by omega,by omega,h1⟩
    · rw [if_neg h1] at h;cases h
  · rw [if_neg h0] at h
    by_cases h1 : -(n:Int)≤i
    · rw [if_pos h1] at h
      have e:(i+n).toNat=j:=Option.some.inj h
      exact ⟨by rw [seqIndex_neg (by omega) h1,e],by omega,h1,by omega⟩
    · rw [if_neg h1] at h;cases h
theorem akc {α:Type} {xs:List α} {i:Int} {v:α} (h:atI xs i=some v):∃ j,seqIndex? i xs.length=some j∧xs[j]?=some v∧j<xs.length ∧ -(xs.length:Int)≤i∧i<xs.length:=by
  unfold atI at h
  cases e:ixN xs.length i with
  | none=>rw [e] at h;cases h
  | some j=>
    rw [e] at h
    obtain ⟨h1,h2,h3,h4⟩:=apz e
    exact ⟨j,h1,h,h2,h3,h4⟩
theorem vg {α:Type} {xs:List α} {j:Nat} {v:α} (h:xs[j]?=some v):atI xs (j:Int)=some v:=by
  have hj:j<xs.length:=(List.getElem?_eq_some_iff.mp h).1
  have e:ixN xs.length (j:Int)=some j:=by
    unfold ixN
    rw [if_pos (by omega),if_pos (by omega)];simp
  unfold atI;rw [e];exact h
def ali (b:Expr):Prop:=∀ o i,subscripted b false o i=operate [o,i] (getItem o i)
def IxR (X:Cx) (r:R2):Prop:=
  ∀ (value slice:Expr) (pins:List (Addr×Obj)) (s:Shared) (σ:St) (H:Hp) (x y:V) (v u:Value) (Q:VK),Inv X pins σ H s→RelV x v→RelV y u→r x y H Q→
    subscripted slice false v u=operate [v,u] (getItem v u)→wpAny (model X.prog X.w) X.A (subscriptTail value slice v u) (EP X pins σ Q) X.xe s
def MtR (X:Cx) (id:String) (r:V→List V→Hp→VK→Prop):Prop:=
  ∀ (pins:List (Addr×Obj)) (s:Shared) (σ:St) (H:Hp) (x:V) (xs:List V) (v:Value) (us:List Value) (Q:VK),Inv X pins σ H s→RelV x v→Vals xs us→r x xs H Q→
    wpAny (model X.prog X.w) X.A (call (.builtin id) (v::us)) (EP X pins σ Q) X.xe s
section
variable {X:Cx} {a b:Expr} {ta tb:TE} {pos:Pos}
theorem ayu {r:R2} (hr:IxR X r) (ha:PE X a ta) (hb:PE X b tb) (hs:ali b):PE X (.Subscript a b pos) (tOp r ta tb):=by
  intro pins s σ H Q I h
  exact Subscript_ (a15 ha hb I h fun v u s2 x y H2 I2 rx ry q=>hr a b pins s2 σ H2 x y v u Q I2 rx ry q (hs _ _))
def a4i (K:PySem.W.Frag):R2:=fun x y H Q=>∃ p xs i v,x=.ref p∧y=.int i∧SqL K H p xs∧atI xs i=some v∧Q v H
def a5b (K:PySem.W.Frag):R2:=fun x y H Q=>∃ p xs i v,x=.ref p∧y=.int i∧SqT K H p xs∧atI xs i=some v∧Q v H
def a4v:R2:=fun x y H Q=>∃ z i c,x=.str z∧y=.int i∧z.length≤sizeLine∧atI z.cps.toList i=some c∧Q (.str ⟨#[c]⟩) H
theorem axu:IxR X (a4i X.K):=by
  intro value slice pins s σ H x y v u Q I rx ry h hs
  obtain ⟨p,xs,i,z,rfl,rfl,hq,he,q⟩:=h
  cases rx
  obtain ⟨t,rfl⟩:=ry
  obtain ⟨its,r,pl,hz⟩:=I.list hq
  obtain ⟨j,h1,h2,h3,h4,h5⟩:=akc he
  obtain ⟨w,ew,rw'⟩:=r.get h2
  have hl:=r.length
  have hn:=afh
  have fin:EP X pins σ Q w s:=⟨z,H,I,rw',q⟩
  by_cases h0:0≤i
  · have hj:i.toNat=j:=by
      rw [seqIndex_of h0 h5] at h1
      exact Option.some.inj h1
    exact item_listR pl.isList h0 (by omega) (by rw [hj];simpa using ew) fin hs
  · have hj:(i+(its.toArray.size:Int)).toNat=j:=by
      rw [seqIndex_neg (by omega) h4] at h1
      rw [List.size_toArray,← hl]
      exact Option.some.inj h1
    exact subscriptTail_builtinR (x:=w) pl.isList.typeIs slot_list_getitem.lookup
      (wpAny_getItem_list_neg (Q:=fun r s'=>r=w∧EP X pins σ Q r s') pl.isList (by omega) (by rw [List.size_toArray]<;>omega) (by omega) (by rw [hj];simpa using ew) ⟨rfl,fin⟩) hs
theorem a21:IxR X (a5b X.K):=by
  intro value slice pins s σ H x y v u Q I rx ry h hs
  obtain ⟨p,xs,i,z,rfl,rfl,hq,he,q⟩:=h
  cases rx
  obtain ⟨t,rfl⟩:=ry
  obtain ⟨its,r,pl,hz⟩:=I.tuple hq
  obtain ⟨j,h1,h2,h3,h4,h5⟩:=akc he
  obtain ⟨w,ew,rw'⟩:=r.get h2
  have hl:=r.length
  have hn:=afh
  have fin:EP X pins σ Q w s:=⟨z,H,I,rw',q⟩
  exact subscriptTail_builtinR (x:=w) pl.typeIs slot_tuple_getitem.lookup
    (getItem_tuple (j:=j) (Q:=fun r s'=>r=w∧EP X pins σ Q r s') pl (by omega) (by omega) (by rw [List.size_toArray,← hl];exact h1) (by simpa using ew) ⟨rfl,fin⟩) hs
theorem a2b:IxR X a4v:=by
  intro value slice pins s σ H x y v u Q I rx ry h hs
  obtain ⟨z,i,c,rfl,rfl,hz,he,q⟩:=h
  obtain ⟨t,rfl⟩:=rx
  obtain ⟨t',rfl⟩:=ry
  obtain ⟨j,h1,h2,h3,h4,h5⟩:=akc he
  have hl:z.cps.toList.length=z.length:=by simp [Str.length]
  rw [hl] at h1 h4 h5
  have hn:=afh
  exact tail_any (typeIs_str s z t) slot_str_getitem.lookup (getItem_str (c:=c) (by
    have e1:decide (i < -(2 ^ 63:Int))=false:=decide_eq_false (by omega)
    have e2:decide (i≥2 ^ 63)=false:=decide_eq_false (by omega)
    rw [e1,e2,Bool.or_false]) (by rw [h1];simpa using h2) ⟨.str ⟨#[c]⟩,H,I.tok _,⟨_,rfl⟩,q⟩) hs
theorem ao8 (its:List Value) (n j:Nat) (u:Value):Obj.mapSeq (·.setIfInBounds j u) { cls:=.type "list",data:=.seq its.toArray n }={ cls:=.type "list",data:=.seq (its.set j u).toArray n }:=by
  simp [Obj.mapSeq]
theorem Inv.lst {pins:List (Addr×Obj)} {σ:St} {H:Hp} {s:Shared} {p:Addr} {xs:List V} (I:Inv X pins σ H s) (h:H p=some (.lst xs)):
    ∃ (its:List Value) (n:Nat),Vals xs its∧s.heap.get? p=some { cls:=.type "list",data:=.seq its.toArray n }∧xs.length≤sizeLine:=by
  obtain ⟨z,its,n,r,e⟩:=I.hok p _ h
  exact ⟨its,n,r,e,z⟩
theorem Inv.lstUpd {pins:List (Addr×Obj)} {σ:St} {H:Hp} {s:Shared} {p:Addr} {xs ys:List V} {its its':List Value} {n n':Nat} {f:Obj→Obj} (I:Inv X pins σ H s) (h:H p=some (.lst xs))
    (ho:s.heap.get? p=some { cls:=.type "list",data:=.seq its.toArray n }) (hf:f { cls:=.type "list",data:=.seq its.toArray n }={ cls:=.type "list",data:=.seq its'.toArray n' }) (r:Vals ys its') (hz:ys.length≤sizeLine) (t:Nat) (ht:0<t:=by (first | assumption | exact Nat.succ_pos _ | exact Inv.tk (by assumption) | exact Nat.lt_of_lt_of_le (Inv.tk (by assumption)) (Nat.le_add_right _ _) | exact Nat.lt_of_lt_of_le (Inv.tk (by assumption)) (by assumption))):
    Inv X pins σ (upd H p (.lst ys)) { s with heap:=s.heap.update p f,toks:=t }:=by
  have e:(s.heap.update p f).get? p=some { cls:=.type "list",data:=.seq its'.toArray n' }:=by
    rw [Heap.get?_update_self f ho (by rw [hf]<;>rfl),hf]
  refine I.write (x:=p) (e:=p) (by rw [h];trivial) (.inl rfl) (fun b u hb q=>(Heap.get?_update_other _ _ (Ne.symm hb)).trans q) ⟨_,e⟩ ?_
  exact ⟨hz,its',n',r,e⟩
def a39:V→V→V→Hp→(Hp→Prop)→Prop:=fun o i v H Q=>∃ p xs k j,o=.ref p∧i=.int k∧H p=some (.lst xs)∧ixN xs.length k=some j∧Q (upd H p (.lst (xs.set j v)))
theorem aue:a3s X a39:=by
  intro pins s σ H o i v ov iv u Q I ro ri rv h
  obtain ⟨p,xs,k,j,rfl,rfl,hp,hj,q⟩:=h
  cases ro
  obtain ⟨t,rfl⟩:=ri
  obtain ⟨its,n,r,ho,hz⟩:=I.lst hp
  obtain ⟨h1,h2,h3,h4⟩:=apz hj
  have hl:=r.length
  have hn:=afh
  have I':Inv X pins σ (upd H p (.lst (xs.set j v))) { s with heap:=s.heap.update p (Obj.mapSeq (·.setIfInBounds j u)) }:=
    I.lstUpd hp ho (ao8 its n j u) (r.set rv j) (by rw [List.length_set];exact hz) s.toks
  by_cases h0:0≤k
  · have hk:k.toNat=j:=by
      rw [seqIndex_of h0 h4] at h1
      exact Option.some.inj h1
    exact PySem.W.ki_setAt ho h0 (by omega) (by rw [List.size_toArray,← hl];exact h4) (by rw [hk];exact ⟨_,I',q⟩)
  · have hk:(k+(its.toArray.size:Int)).toNat=j:=by
      rw [seqIndex_neg (by omega) h3] at h1
      rw [List.size_toArray,← hl]
      exact Option.some.inj h1
    exact PySem.W.ki_setBack ho (by omega) (by rw [List.size_toArray,← hl];exact h3) (by omega) (by rw [hk];exact ⟨_,I',q⟩)
theorem akp (lo hi:Option Int) (n:Nat):(sliceBounds lo hi none n).1=((HT.sIx n 0 lo:Nat):Int)∧(sliceBounds lo hi none n).2.1=((HT.sIx n n hi:Nat):Int)∧(sliceBounds lo hi none n).2.2=1:=by
  refine ⟨?_,?_,rfl⟩
  · cases lo with
    | none=>simp [sliceBounds,HT.sIx]
    | some i=>
      simp only [sliceBounds,HT.sIx,Option.getD_none,show (1:Int) > 0 by decide,if_true]
      by_cases h:i<0
      · simp only [h,if_true]<;>omega
      · simp only [h,if_false]<;>omega
  · cases hi with
    | none=>simp [sliceBounds,HT.sIx]
    | some i=>
      simp only [sliceBounds,HT.sIx,Option.getD_none,show (1:Int) > 0 by decide,if_true]
      by_cases h:i<0
      · simp only [h,if_true]<;>omega
      · simp only [h,if_false]<;>omega
theorem aj0 (its:List Value) (lo hi:Option Int):slicePick its.toArray lo hi none=((its.drop (HT.sIx its.length 0 lo)).take (HT.sIx its.length its.length hi - HT.sIx its.length 0 lo)).toArray:=by
  obtain ⟨h1,h2,h3⟩:=akp lo hi its.toArray.size
  unfold slicePick
  rw [h1,h2,h3]
  simp only [sliceRange_one,pick_run,List.size_toArray]<;>rfl
def a5r (K:PySem.W.Frag):V→Option Int→Option Int→Hp→VK→Prop:=fun x lo hi H Q=>∃ a xs,x=.ref a∧SqL K H a xs∧∀ p,H p=none→Q (.ref p) (upd H p (.lst (arl xs lo hi)))
theorem ay9:SlR X (a5r X.K):=by
  intro pins s σ H x v vl vu lo hi sl Q I rx hs pl pu h
  obtain ⟨a,xs,rfl,hx,q⟩:=h
  cases rx
  obtain ⟨its,r,ht,hz⟩:=I.list hx
  have hlen:=r.length
  refine ⟨"list",_,slot_list_getitem.lookup,ht.isList.typeIs,?_⟩
  refine wpAny_getItem_list_slice ht.isList hs pl pu .none (by simp) ?_ (by rw [List.size_toArray]<;>omega)
  rw [aj0,← hlen]
  refine ⟨.ref s.heap.objs.size,_,I.laid (t':=s.toks) (o:=.lst (arl xs lo hi)) (fun b ob q=>Heap.get?_push_of_some _ q) (Nat.le_refl _) ?_,rfl,q _ (I.hok.fresh (Nat.le_refl _))⟩
  exact ⟨Nat.le_trans (aly xs lo hi) hz,_,0,(r.drop (HT.sIx xs.length 0 lo)).take (HT.sIx xs.length xs.length hi - HT.sIx xs.length 0 lo),Heap.get?_push_size _ rfl⟩
def wq:V→Bool
  | .non=>true
  | .bl _=>true
  | .int _=>true
  | .str _=>true
  | _=>false
def eqV:V→V→Bool
  | .non,.non=>true
  | .bl a,.bl b=>a==b
  | .bl a,.int b=>(if a then 1 else 0)==b
  | .int a,.bl b=>a==(if b then 1 else 0)
  | .int a,.int b=>a==b
  | .str a,.str b=>a==b
  | _,_=>false
theorem ai1 {A:Around} {s:Shared} {y x:V} {u v:Value} (ry:RelV y u) (rx:RelV x v) (fy:wq y=true) (fx:wq x=true):SeqAt.EqAt A s u v (eqV y x):=by
  cases y with
  | non=>
    cases ry
    cases x with
    | non=>cases rx;exact SeqAt.EqAt.same _
    | bl b=>cases rx;exact SeqAt.EqAt.none_bool b
    | int b=>obtain ⟨t,rfl⟩:=rx;exact SeqAt.EqAt.none_int b t
    | str b=>obtain ⟨t,rfl⟩:=rx;exact SeqAt.EqAt.none_str b t
    | _=>exact absurd (show false=true from fx) Bool.false_ne_true
  | bl a=>
    cases ry
    cases x with
    | non=>cases rx;exact SeqAt.EqAt.bool_none a
    | bl b=>cases rx;exact SeqAt.EqAt.bool_bool a b
    | int b=>obtain ⟨t,rfl⟩:=rx;exact SeqAt.EqAt.bool_int a b t
    | str b=>obtain ⟨t,rfl⟩:=rx;exact SeqAt.EqAt.bool_str a b t
    | _=>exact absurd (show false=true from fx) Bool.false_ne_true
  | int a=>
    obtain ⟨t',rfl⟩:=ry
    cases x with
    | non=>cases rx;exact SeqAt.EqAt.int_none a t'
    | bl b=>cases rx;exact SeqAt.EqAt.int_bool a t' b
    | int b=>obtain ⟨t,rfl⟩:=rx;exact SeqAt.EqAt.int_int a t' b t
    | str b=>obtain ⟨t,rfl⟩:=rx;exact SeqAt.EqAt.int_str a t' b t
    | _=>exact absurd (show false=true from fx) Bool.false_ne_true
  | str a=>
    obtain ⟨t',rfl⟩:=ry
    cases x with
    | non=>cases rx;exact SeqAt.EqAt.str_none a t'
    | bl b=>cases rx;exact SeqAt.EqAt.str_bool a t' b
    | int b=>obtain ⟨t,rfl⟩:=rx;exact SeqAt.EqAt.str_int a t' b t
    | str b=>obtain ⟨t,rfl⟩:=rx;exact SeqAt.EqAt.str_str a t' b t
    | _=>exact absurd (show false=true from fx) Bool.false_ne_true
  | _=>exact absurd (show false=true from fy) Bool.false_ne_true
def eqU (x:V) (u:Value):Bool:=match u with
  | .none=>eqV .non x
  | .bool b=>eqV (.bl b) x
  | .int i _=>eqV (.int i) x
  | .str z _=>eqV (.str z) x
  | _=>false
theorem atx {x y:V} {u:Value} (r:RelV y u) (f:wq y=true):eqU x u=eqV y x:=by
  cases y with
  | non=>cases r;rfl
  | bl b=>cases r;rfl
  | int i=>obtain ⟨t,rfl⟩:=r;rfl
  | str z=>obtain ⟨t,rfl⟩:=r;rfl
  | _=>exact absurd (show false=true from f) Bool.false_ne_true
theorem ae9 {x:V}:∀ {xs:List V} {us:List Value},Vals xs us→xs.all wq=true→us.any (eqU x)=xs.any fun y=>eqV y x
  | _,_,.nil,_=>rfl
  | y::xs,u::us,.cons r t,f=>by
    rw [List.all_cons,Bool.and_eq_true] at f
    rw [List.any_cons,List.any_cons,atx r f.1,ae9 t f.2]
theorem abn {A:Around} {s:Shared} {x:V} {v:Value} (rx:RelV x v) (fx:wq x=true):∀ {xs:List V} {us:List Value},Vals xs us→xs.all wq=true→∀ u∈us,SeqAt.EqAt A s u v (eqU x u)
  | _,_,.nil,_=>fun u hu=>by cases hu
  | y::xs,u::us,.cons r t,f=>fun u' hu=>by
    rw [List.all_cons,Bool.and_eq_true] at f
    rcases List.mem_cons.mp hu with rfl | hu
    · rw [atx r f.1];exact ai1 r rx f.1 fx
    · exact abn rx fx t f.2 u' hu
def inV (x:V) (xs:List V):Bool:=xs.any fun y=>eqV y x
def rIn (K:PySem.W.Frag) (neg:Bool):R2:=fun x y H Q=>∃ p xs,y=.ref p∧(SqL K H p xs∨SqT K H p xs)∧wq x=true∧xs.all wq=true∧Q (.bl (if neg then !inV x xs else inV x xs)) H
theorem aqi:OpR X (compareOp .In) (rIn X.K false):=by
  intro pins s σ H x y v u Q I rx ry h
  obtain ⟨p,xs,rfl,hq,fx,fs,q⟩:=h
  cases ry
  rcases hq with hq | hq
  · obtain ⟨its,r,pl,hz⟩:=I.list hq
    refine SeqAt.in_listAt (eqU x) pl.isList (fun w hw=>abn rx fx r fs w (by simpa using hw)) ⟨.bl _,H,I,rfl,?_⟩
    rw [show its.toArray.any (eqU x)=its.any (eqU x) by simp,ae9 r fs]
    exact q
  · obtain ⟨its,r,pl,hz⟩:=I.tuple hq
    refine SeqAt.in_tupleAt (eqU x) pl (fun w hw=>abn rx fx r fs w (by simpa using hw)) ⟨.bl _,H,I,rfl,?_⟩
    rw [show its.toArray.any (eqU x)=its.any (eqU x) by simp,ae9 r fs]
    exact q
theorem alc:OpR X (compareOp .NotIn) (rIn X.K true):=by
  intro pins s σ H x y v u Q I rx ry h
  obtain ⟨p,xs,rfl,hq,fx,fs,q⟩:=h
  cases ry
  rcases hq with hq | hq
  · obtain ⟨its,r,pl,hz⟩:=I.list hq
    refine SeqAt.notIn_listAt (eqU x) pl.isList (fun w hw=>abn rx fx r fs w (by simpa using hw)) ⟨.bl _,H,I,rfl,?_⟩
    rw [show its.toArray.any (eqU x)=its.any (eqU x) by simp,ae9 r fs]
    exact q
  · obtain ⟨its,r,pl,hz⟩:=I.tuple hq
    refine SeqAt.notIn_tupleAt (eqU x) pl (fun w hw=>abn rx fx r fs w (by simpa using hw)) ⟨.bl _,H,I,rfl,?_⟩
    rw [show its.toArray.any (eqU x)=its.any (eqU x) by simp,ae9 r fs]
    exact q
theorem akh:CallR X (.builtin "len") (fun xs H Q=>∃ p ys,xs=[.ref p]∧(SqL X.K H p ys∨SqT X.K H p ys)∧Q (.int ys.length) H):=by
  intro pins s σ H xs us Q I r h
  obtain ⟨p,ys,rfl,hq,q⟩:=h
  obtain ⟨u,rfl,rx⟩:=aq8 r
  cases rx
  have hn:=afh
  rcases hq with hq | hq
  · obtain ⟨its,r',pl,hz⟩:=I.list hq
    have hlen:=r'.length
    exact Calls.call_len_list pl.isList (by simp only [List.size_toArray]<;>omega) ⟨.int ys.length,H,I.tok _,⟨s.toks+1,by rw [List.size_toArray,hlen]⟩,q⟩
  · obtain ⟨its,r',pl,hz⟩:=I.tuple hq
    have hlen:=r'.length
    exact len_tuple pl (by simp only [List.size_toArray]<;>omega) ⟨.int ys.length,H,I.tok _,⟨s.toks+1,by rw [List.size_toArray,hlen]⟩,q⟩
theorem alg:CallR X (.builtin "len") (fun xs H Q=>∃ z,xs=[.str z]∧z.length≤sizeLine∧Q (.int z.length) H):=by
  intro pins s σ H xs us Q I r h
  obtain ⟨z,rfl,hz,q⟩:=h
  obtain ⟨u,rfl,t,rfl⟩:=aq8 r
  have hn:=afh
  exact len_str (by omega) ⟨.int z.length,H,I.tok _,⟨_,rfl⟩,q⟩
theorem alf:CallR X (.type "list") (fun xs H Q=>∃ p ys,xs=[.ref p]∧(SqL X.K H p ys∨SqT X.K H p ys)∧∀ l,H l=none→Q (.ref l) (upd H l (.lst ys))):=by
  intro pins s σ H xs us Q I r h
  obtain ⟨p,ys,rfl,hq,q⟩:=h
  obtain ⟨u,rfl,rx⟩:=aq8 r
  cases rx
  have fin:∀ (its:List Value),Vals ys its→ys.length≤sizeLine→∀ (h':Heap) (c':Nat),(∀ b o',s.heap.get? b=some o'→h'.get? b=some o')→
      h'.get? s.heap.objs.size=some { cls:=.type "list",dict:=none,data:=.seq its.toArray c',slots:=#[] }→EP X pins σ Q (.ref s.heap.objs.size) { s with heap:=h' }:=fun its r' hz h' c' kp e=>
    ⟨.ref s.heap.objs.size,_,I.laid (t':=s.toks) kp (Nat.le_refl _) (show ObjOk X.prog X.w _ h' _ (.lst ys) from ⟨hz,its,c',r',e⟩),rfl,q _ (I.hok.fresh (Nat.le_refl _))⟩
  rcases hq with hq | hq
  · obtain ⟨its,r',pl,hz⟩:=I.list hq
    have hlen:=r'.length
    obtain ⟨o,ho,hc,n,hd⟩:=pl.isList
    exact call_list_seq p (.inl rfl) ho hc hd (fun h' c' kp e=>fin its r' hz h' c' kp e) (by simp only [List.size_toArray]<;>omega)
  · obtain ⟨its,r',pl,hz⟩:=I.tuple hq
    have hlen:=r'.length
    obtain ⟨o,ho,hc,n,hd⟩:=pl
    exact call_list_seq p (.inr rfl) ho hc hd (fun h' c' kp e=>fin its r' hz h' c' kp e) (by simp only [List.size_toArray]<;>omega)
def tyV (K:PySem.W.Frag) (T:String) (x:V) (H:Hp):Prop:=match x with
  | .str _=>T = "str"
  | .int _=>T = "int"
  | .ref p=>(T = "list" ∧ ∃ xs,SqL K H p xs)∨(T = "tuple" ∧ ∃ o,K.lookup p=some o∧o.cls=.type "tuple" ∧ o.dict=none)∨
      (T = "dict" ∧ ((∃ kvs,H p=some (.dK kvs))∨∃ kvs,H p=some (.dT kvs)))∨(T = "set" ∧ ∃ S n,H p=some (.set S n))
  | _=>False
theorem aui {pins:List (Addr×Obj)} {σ:St} {H:Hp} {s:Shared} {T:String} {x:V} {v:Value} (I:Inv X pins σ H s) (r:RelV x v) (ty:tyV X.K T x H):
    s.TypeIs v T∧∀ a,v=.ref a→∃ ob,s.heap.get? a=some ob∧ob.dict=none:=by
  cases x with
  | str z=>
    obtain ⟨t,rfl⟩:=r
    cases (show T = "str" from ty)
    exact ⟨typeIs_str s z t,fun _ e=>nomatch e⟩
  | int i=>
    obtain ⟨t,rfl⟩:=r
    cases (show T = "int" from ty)
    exact ⟨typeIs_int s i t,fun _ e=>nomatch e⟩
  | ref p=>
    cases r
    rcases ty with ⟨rfl,xs,hq⟩ | ⟨rfl,o,hk,hc,hd⟩ | ⟨rfl,hk⟩ | ⟨rfl,S,n,hk⟩
    · obtain ⟨its,_,pl,_⟩:=I.list hq
      refine ⟨pl.isList.typeIs,fun a e=>?_⟩
      cases e
      obtain ⟨o,n,e,c,hd,_⟩:=pl
      exact ⟨o,e,hd⟩
    · refine ⟨⟨o,I.kIn p o hk,hc⟩,fun a e=>?_⟩
      cases e
      exact ⟨o,I.kIn _ o hk,hd⟩
    · have z:∃ o,s.heap.get? p=some o∧o.ExactDict:=by
        rcases hk with ⟨kvs,hk⟩ | ⟨kvs,hk⟩
        · obtain ⟨_,_,_,_,o,_,_,e,ex,_⟩:=I.hok p _ hk
          exact ⟨o,e,ex⟩
        · obtain ⟨_,_,_,_,o,_,_,e,ex,_⟩:=I.hok p _ hk
          exact ⟨o,e,ex⟩
      obtain ⟨o,e,ex⟩:=z
      refine ⟨⟨o,e,ex.1⟩,fun a e2=>?_⟩
      cases e2
      exact ⟨o,e,ex.2.1⟩
    · obtain ⟨o,_,_,_,e,ex,_⟩:=I.hok p _ hk
      refine ⟨⟨o,e,ex.1⟩,fun a e2=>?_⟩
      cases e2
      exact ⟨o,e,ex.2.1⟩
  | _=>exact False.elim ty
def a52 (K:PySem.W.Frag) (T:String) (r:V→List V→Hp→VK→Prop) (to:TE):TE:=fun σ H Q=>to σ H fun x H1=>tyV K T x H1∧r x [] H1 Q
def tBM (K:PySem.W.Frag) (T:String) (r:V→List V→Hp→VK→Prop) (to:TE) (t:TA):TE:=fun σ H Q=>to σ H fun x H1=>tyV K T x H1∧t σ H1 fun xs H2=>r x xs H2 Q
variable {o e:Expr} {es:List Expr} {to:TE} {t:TA} {name:Str} {apos cpos:Pos} {T id:String} {r:V→List V→Hp→VK→Prop}
theorem azw (pa:PlainAttrs T) (slot:Slot T name id) (hty:typeOf (.builtin id)=pure (.type "method_descriptor")) (hm:MtR X id r) (ho:PE X o to)
    (hbase:attributeBase o name X.env (eval o X.env)=eval o X.env:=by rfl) (hline:(apos.endLine==cpos.line)=true:=by rfl):PE X (.Call (.Attribute o name apos) [] [] cpos) (a52 X.K T r to):=by
  intro pins s σ H Q I h
  refine wpAny_Call_method0_late hbase hline (thn (ho pins s σ H _ I h) fun v s1 ⟨x,H1,I1,r1,ty,q1⟩=>?_)
  obtain ⟨h1,h2⟩:=aui I1 r1 ty
  exact ⟨T,id,pa,slot,hty,h1,h2,Calls.callWith_builtin rfl (PySem.evalArgs_none (hm pins s1 σ H1 x [] v [] Q I1 r1 .nil q1))⟩
theorem ayg (pa:PlainAttrs T) (slot:Slot T name id) (hty:typeOf (.builtin id)=pure (.type "method_descriptor")) (hm:MtR X id r) (ho:PE X o to) (ha:PA X (e::es) t)
    (hbase:attributeBase o name X.env (eval o X.env)=eval o X.env:=by rfl)
    (hfew:((backTo cpos (starEach (e::es) X.env)).all (fun x=>!x.1)&&(backToKw cpos (keywordEach [] X.env)).all (fun x=>x.1.isSome)
      && decide ((e::es).length+([]:List Keyword).length+(if ([]:List Keyword).isEmpty then 0 else 1)<30))=true:=by rfl)
    (hline:(apos.endLine==cpos.line)=true:=by rfl) (hs:starEach (e::es) X.env=(false,eval e X.env)::starEach es X.env:=by rfl) (hplain:(backTo cpos (starEach es X.env)).any (·.1)=false:=by rfl):
    PE X (.Call (.Attribute o name apos) (e::es) [] cpos) (tBM X.K T r to t):=by
  intro pins s σ H Q I h
  refine wpAny_Call_method_late hbase hfew hline rfl (thn (ho pins s σ H _ I h) fun v s1 ⟨x,H1,I1,r1,ty,q1⟩=>?_)
  obtain ⟨h1,h2⟩:=aui I1 r1 ty
  refine ⟨T,id,pa,slot,hty,h1,h2,?_⟩
  have hA:=ha cpos pins s1 σ H1 _ I1 q1
  rw [hs] at hA ⊢
  refine Calls.callWith_builtin (by show (false||(backTo cpos (starEach es X.env)).any (·.1))=false;rw [hplain]<;>rfl) (Calls.evalArgs_plain ?_)
  exact thn hA fun us s2 ⟨vs,H2,I2,r2,q2⟩=>hm pins s2 σ H2 x vs v us Q I2 r1 r2 q2
end
end L2
namespace L2
open PySem PySem.Spec PyProof.Rows
def MtM (X:Cx) (id:String) (r:V→List V→Hp→VK→Prop):Prop:=
  ∀ (pins:List (Addr×Obj)) (s:Shared) (σ:St) (H:Hp) (x:V) (xs:List V) (v:Value) (us:List Value) (Q:VK),Inv X pins σ H s→RelV x v→Vals xs us→r x xs H Q→
    wpAny (model X.prog X.w) X.A (call (.builtin id) (v::us)) (EP X pins σ Q) X.xe s
theorem Vals.one:∀ {x:V} {us:List Value},Vals [x] us→∃ u,us=[u]∧RelV x u
  | _,_,.cons r .nil=>⟨_,rfl,r⟩
theorem Vals.two:∀ {x y:V} {us:List Value},Vals [x,y] us→∃ u v,us=[u,v]∧RelV x u∧RelV y v
  | _,_,_,.cons r (.cons q .nil)=>⟨_,_,rfl,r,q⟩
theorem Vals.zero:∀ {us:List Value},Vals [] us→us=[]
  | _,.nil=>rfl
theorem Vals.dropLast {xs:List V} {us:List Value} (h:Vals xs us):Vals xs.dropLast us.dropLast:=by
  induction h with
  | nil=>exact .nil
  | cons r t ih=>
    cases t with
    | nil=>exact .nil
    | cons q t'=>exact .cons r ih
theorem Vals.eraseIdx:∀ {xs:List V} {us:List Value} (i:Nat),Vals xs us→Vals (xs.eraseIdx i) (us.eraseIdx i)
  | _,_,_,.nil=>.nil
  | _,_,0,.cons _ t=>t
  | _,_,i+1,.cons r t=>.cons r (Vals.eraseIdx i t)
theorem aog {α:Type} (l:List α):l.eraseIdx (l.length - 1)=l.dropLast:=by
  induction l with
  | nil=>rfl
  | cons a r ih=>
    cases r with
    | nil=>rfl
    | cons b r=>
      have e:(a::b::r).length - 1=((b::r).length - 1)+1:=by
        have h1:(a::b::r).length=r.length+2:=rfl
        have h2:(b::r).length=r.length+1:=rfl
        omega
      rw [e,List.eraseIdx_cons_succ,ih]
      all_goals rfl
theorem aji {α:Type}:∀ (l:List α) (i:Nat),(l.eraseIdx i).length≤l.length
  | [],_=>Nat.le_refl _
  | _::_,0=>Nat.le_succ _
  | _::r,i+1=>Nat.succ_le_succ (aji r i)
section
variable {X:Cx} {pins:List (Addr×Obj)} {σ:St} {H:Hp} {s:Shared} {l b:Addr} {xs ys zs:List V}
theorem Inv.lset {its its':List Value} {n:Nat} {f:Array Value→Array Value} {t':Nat} (I:Inv X pins σ H s) (hH:H l=some (.lst xs))
    (e:s.heap.get? l=some { cls:=.type "list",data:=.seq its.toArray n }) (hf:f its.toArray=its'.toArray) (hv:Vals ys its') (hz:ys.length≤sizeLine) (ht:0<t':=by (first | assumption | exact Nat.succ_pos _ | exact Inv.tk (by assumption) | exact Nat.lt_of_lt_of_le (Inv.tk (by assumption)) (Nat.le_add_right _ _) | exact Nat.lt_of_lt_of_le (Inv.tk (by assumption)) (by assumption))):
    Inv X pins σ (upd H l (.lst ys)) { s with heap:=s.heap.update l (Obj.mapSeq f),toks:=t' }:=by
  have q:=PySem.IsL.update e f
  rw [hf] at q
  refine I.write (x:=l) (e:=l) (by rw [hH];exact trivial) (.inl rfl) (fun b' u hb hu=>(Heap.get?_update_other s.heap (Obj.mapSeq f) (Ne.symm hb)).trans hu) ⟨_,q⟩ ?_
  exact ⟨hz,its',_,hv,q⟩
theorem Inv.lnew {its:List Value} {t':Nat} (I:Inv X pins σ H s) (hv:Vals ys its) (hz:ys.length≤sizeLine) (ht:0<t':=by (first | assumption | exact Nat.succ_pos _ | exact Inv.tk (by assumption) | exact Nat.lt_of_lt_of_le (Inv.tk (by assumption)) (Nat.le_add_right _ _) | exact Nat.lt_of_lt_of_le (Inv.tk (by assumption)) (by assumption))):
    Inv X pins σ (upd H s.heap.objs.size (.lst ys)) { s with heap:=s.heap.push { cls:=.type "list",data:=.seq its.toArray },toks:=t' }:=
  I.laid (fun _ _ q=>Heap.get?_push_of_some _ q) (Nat.le_refl _) ⟨hz,its,0,hv,Heap.get?_push_size _ rfl⟩
theorem Inv.fresh (I:Inv X pins σ H s):H s.heap.objs.size=none:=I.hok.fresh (Nat.le_refl _)
theorem Inv.lstM (I:Inv X pins σ H s) (hH:H l=some (.lst xs)):xs.length≤sizeLine∧∃ (its:List Value) (n:Nat),Vals xs its∧xs.length=its.length∧s.heap.get? l=some { cls:=.type "list",data:=.seq its.toArray n }:=by
  obtain ⟨z,its,n,r,e⟩:=I.hok l _ hH
  exact ⟨z,its,n,r,r.length,e⟩
theorem at6 {n:Nat} (h:n≤sizeLine):Builtin.List.listTooLong n=false:=by
  unfold Builtin.List.listTooLong
  exact decide_eq_false (by omega)
end
section
variable {X:Cx}
def avs:V→List V→Hp→VK→Prop:=fun x vs H Q=>∃ l xs y,x=.ref l∧vs=[y]∧H l=some (.lst xs)∧xs.length<sizeLine∧Q .non (upd H l (.lst (xs++[y])))
theorem arp:MtM X "list.append" avs:=by
  intro pins s σ H x vs v us Q I rx rv h
  obtain ⟨l,xs,y,rfl,rfl,hH,hz,q⟩:=h
  cases rx
  obtain ⟨u,rfl,ru⟩:=rv.one
  obtain ⟨z,its,n,r,hl,e⟩:=I.lstM hH
  refine call_meets F.slot_list_append ⟨_,e,rfl⟩ F.entry_list_append (F.args_list_append_2 _ _) (PySem.list_append l its.toArray n u (by rw [List.size_toArray];omega)) ⟨e,?_⟩
  refine ⟨.non,_,I.lset (its':=its++[u]) hH e (by simp) (r.append (.cons ru .nil)) ?_,rfl,q⟩
  rw [List.length_append,List.length_singleton]
  omega
def avo:V→List V→Hp→VK→Prop:=fun x vs H Q=>∃ l b xs zs,x=.ref l∧vs=[.ref b]∧H l=some (.lst xs)∧H b=some (.lst zs)∧xs.length+zs.length≤sizeLine∧Q .non (upd H l (.lst (xs++zs)))
theorem arj:MtM X "list.extend" avo:=by
  intro pins s σ H x vs v us Q I rx rv h
  obtain ⟨l,b,xs,zs,rfl,rfl,hH,hB,hz,q⟩:=h
  cases rx
  obtain ⟨u,rfl,ru⟩:=rv.one
  cases ru
  obtain ⟨z,its,n,r,hl,e⟩:=I.lstM hH
  obtain ⟨z2,its2,n2,r2,hl2,e2⟩:=I.lstM hB
  have hsz:its.toArray.size+its2.toArray.size≤sizeLine:=by rw [List.size_toArray,List.size_toArray];omega
  have hlong:¬ (!its.toArray.isEmpty&&Builtin.List.listTooLong (its.toArray.size+its2.toArray.size))=true:=by
    rw [at6 hsz,Bool.and_false]
    exact Bool.false_ne_true
  refine call_meets F.slot_list_extend ⟨_,e,rfl⟩ F.entry_list_extend (F.args_list_extend_2 _ _)
    (AutoSeq1.list_extend_list_list_0 l its.toArray n b its2.toArray n2 hlong (by rw [List.size_toArray];omega) (by omega)) ⟨e,e2,?_⟩
  refine ⟨.non,_,I.lset (its':=its++its2) hH e (by simp) (r.append r2) ?_,rfl,q⟩
  rw [List.length_append]
  omega
def a5c:V→List V→Hp→VK→Prop:=fun x vs H Q=>∃ l xs y,x=.ref l∧vs=[]∧H l=some (.lst xs)∧xs[xs.length - 1]?=some y∧Q y (upd H l (.lst xs.dropLast))
theorem az9:MtM X "list.pop" a5c:=by
  intro pins s σ H x vs v us Q I rx rv h
  obtain ⟨l,xs,y,rfl,rfl,hH,hy,q⟩:=h
  cases rx
  have hus:=rv.zero
  subst hus
  obtain ⟨z,its,n,r,hl,e⟩:=I.lstM hH
  obtain ⟨u,hu,ru⟩:=r.get hy
  have hy':its.toArray[its.toArray.size - 1]?=some u:=by
    show its.toArray[its.length - 1]?=some u
    rw [← Array.getElem?_toList,← hl]
    exact hu
  refine call_meets F.slot_list_pop ⟨_,e,rfl⟩ F.entry_list_pop (F.args_list_pop_1 _) (MeetsSeq.list_pop_last l its.toArray n u hy' (by rw [List.size_toArray];omega)) ⟨e,?_⟩
  refine ⟨y,_,I.lset (its':=its.dropLast) hH e ?_ r.dropLast ?_,ru,q⟩
  · show its.toArray.eraseIdxIfInBounds (its.toArray.size - 1)=its.dropLast.toArray
    rw [List.size_toArray,List.eraseIdxIfInBounds_toArray,aog]
  · rw [List.length_dropLast]
    omega
def azv:V→List V→Hp→VK→Prop:=fun x vs H Q=>∃ l xs i k y,x=.ref l∧vs=[.int i]∧H l=some (.lst xs) ∧ -(2 ^ 63)≤i∧i<2 ^ 63∧seqIndex? i xs.length=some k∧xs[k]?=some y∧Q y (upd H l (.lst (xs.eraseIdx k)))
theorem auu:MtM X "list.pop" azv:=by
  intro pins s σ H x vs v us Q I rx rv h
  obtain ⟨l,xs,i,k,y,rfl,rfl,hH,h1,h2,hk,hy,q⟩:=h
  cases rx
  obtain ⟨u,rfl,ru⟩:=rv.one
  obtain ⟨t,rfl⟩:=ru
  obtain ⟨z,its,n,r,hl,e⟩:=I.lstM hH
  obtain ⟨w,hw,rw'⟩:=r.get hy
  refine call_meets F.slot_list_pop ⟨_,e,rfl⟩ F.entry_list_pop (F.args_list_pop_2 _ _)
    (MeetsSeq.list_pop_at l its.toArray n i t k w (fitsIndex_both h1 h2) (by rw [List.size_toArray,← hl];exact hk) (by rw [← Array.getElem?_toList];exact hw) (by rw [List.size_toArray];omega)) ⟨e,?_⟩
  refine ⟨y,_,I.lset (its':=its.eraseIdx k) hH e ?_ (r.eraseIdx k) ?_,rw',q⟩
  · show its.toArray.eraseIdxIfInBounds k=(its.eraseIdx k).toArray
    rw [List.eraseIdxIfInBounds_toArray]
  · have:=aji xs k
    omega
def a5q:R2:=fun x y H Q=>∃ l b xs zs,x=.ref l∧y=.ref b∧H l=some (.lst xs)∧H b=some (.lst zs)∧xs.length+zs.length≤sizeLine∧∀ p,H p=none→Q (.ref p) (upd H p (.lst (xs++zs)))
theorem a10:OpR X (binaryOp .Add) a5q:=by
  intro pins s σ H x y v u Q I rx ry h
  obtain ⟨l,b,xs,zs,rfl,rfl,hH,hB,hz,q⟩:=h
  cases rx
  cases ry
  obtain ⟨z,its,n,r,hl,e⟩:=I.lstM hH
  obtain ⟨z2,its2,n2,r2,hl2,e2⟩:=I.lstM hB
  refine PySem.P.add_list e e2 ?_ (by rw [List.size_toArray,List.size_toArray];omega)
  have ea:its.toArray++its2.toArray=(its++its2).toArray:=by simp
  rw [ea]
  exact ⟨.ref _,_,I.lnew (t':=s.toks) (r.append r2) (by rw [List.length_append];omega),rfl,q _ I.fresh⟩
end
section
variable {prog:Program} {w:World} {A:Around} {E:Value→Shared→Prop} {s:Shared}
set_option maxRecDepth 100000 in
end
section
variable {X:Cx}
end
end L2
namespace Att
open PySem PySem.W PySem.Calls PyProof.Rows
theorem agh {P:Params} {h:Heap}:∀ (ns:List Int) (vs:List Value),WellAll P h vs (ns.map WData.int)→IntsAre vs ns:=by
  intro ns
  induction ns with
  | nil=>
    intro vs w
    rw [List.map_nil] at w
    cases w
    exact .nil
  | cons n ns ih=>
    intro vs w
    rw [List.map_cons] at w
    cases w with
    | cons a b=>
      cases a
      exact .cons _ _ (ih _ b)
theorem ar2 {l:OpenLaw} {n:Nat} (hn:l.most=some n) {P:Params} {h:Heap} {args:List WData} {vals:List Value}
    (hpre:l.row.toRowW.claim.pre args=true) (hwl:WellAll P h vals args):
    ∃ a vs ns,vals=[Value.ref a]∧args=[WData.list (ns.map WData.int)]∧h.get? a=some { cls:=.type "list",data:=.seq vs.toArray }∧IntsAre vs ns∧ns.length≤n:=by
  have hsh:WShape.hasAll [] args [.list .int]=true:=(pre_splitW hpre).1
  have hc:l.pre.holds [] { args:=args }=true:=(pre_splitW hpre).2
  obtain ⟨d,r,rfl,h1,h2⟩:=hasAllW_cons hsh
  obtain rfl:=hasAllW_nil h2
  obtain ⟨xs,rfl,h3⟩:=hasW_list h1
  obtain ⟨ns,rfl⟩:=items_int h3
  have hlen:ns.length≤n:=by
    unfold OpenLaw.pre at hc
    have h4:(WTm.not (.lt (.lit (.int (n:Int))) (.len (.arg 0)))).holds [] { args:=[.list (ns.map .int)] }=true:=by
      have h4:=(holds_andW hc).1
      rw [hn] at h4
      exact h4
    have h5:=condW_of h4 (w_not (w_lt w_lit (w_len_list (w_arg rfl))))
    rw [List.length_map] at h5
    refine Nat.le_of_not_lt fun q=>?_
    have q':(n:Int)<((ns.length:Nat):Int):=by omega
    first
      | (rw [decide_eq_true q'] at h5;exact absurd h5 (by decide))
      | (simp at h5;omega)
  cases hwl with
  | cons w1 w2=>
    cases w2
    cases w1 with
    | list ho hall=>exact ⟨_,_,ns,rfl,rfl,ho,agh ns _ hall,hlen⟩
theorem aqe (l:OpenLaw) (args:List WData):l.row.toRowW.claim.post args (.bool true) args=true:=
  postW_of (r:=l.row.toRowW) (X:=(true==true))
    (show WShape.has [] (.bool true) .bool=true by first | rfl | decide | simp [WShape.has,WShape.arms,WShape.armsAll])
    (show (WTm.eq .res (.lit (.bool true))).value [] { args:=args,res:=some (.bool true),after:=args }=some (.bool (true==true)) from w_eq_bool (w_res rfl) w_lit) rfl
theorem attach_callZ {l:OpenLaw} {n:Nat} {q:Program} {loose:List Str} {XP:(Str→Option Value)→Heap→Prop} {as0:List Addr} {N t:Nat} {K:Params→Frag} {d:DefRec}
    (hn:l.most=some n) (hdf:d.params.defaults=[]) (ek:∀ P,as0=(K P).map (·.1)) (htk:0<t)
    (call:∀ (w:World) (s₀ s₁:Shared) (mg mb:Str→Option Value) (fa:Addr) (o:Obj) (pm cd doc:Value) (a:Addr) (vs:List Value) (ns:List Int),
      Ground q loose [] XP w s₀ mg mb s₁.heap→(K w.params).In s₁.heap→0<s₁.toks→
      s₁.heap.get? fa=some o→o.data=.func (docDef d.name d.params d.body d.scope pm cd doc)→s₁.heap.CodeRec cd d.name→mg d.name=some (.ref fa)→
      s₁.heap.get? a=some { cls:=.type "list",data:=.seq vs.toArray }→IntsAre vs ns→ns.length≤n→s₁.gens=#[]→
      codeAny (model l.prog w) callerA (.call (.ref fa) ⟨[.ref a],[]⟩) (fun r s'=>r=.ok (.ret (.bool true))∧OldK s₁.heap s'.heap∧s'.os=s₁.os∧AllBare s'.gens) s₁):
    WalkX q loose XP (X.obsZ as0) (X.valZ K N t) l.row.toRowW d [] (fun f vs=>PySem.call f vs):=by
  intro w s₀ s₁ mg mb G Y fa o pm cd doc dV kV ho hd hcd hD hmg hg args vals as L hpre hlay hrd hwl hlo
  obtain rfl:dV=.none:=Dflts.none hD hdf
  obtain rfl:kV=.none:=Dflts.noKw hD
  obtain ⟨a,vs,ns,rfl,rfl,hobj,hints,hlen⟩:=ar2 hn hpre hwl
  obtain ⟨_,zi,_,zt⟩:=X.z_facts ek Y
  have eP:∀ ns:List Int,ofPy (PyData.list (ns.map PyData.int))=WData.list (ns.map WData.int):=fun ns=>by
    simp only [ofPy]
    congr 1
    induction ns with
    | nil=>simp [ofPys]
    | cons n r ih=>simp only [List.map_cons,ofPys,ofPy,ih]
  rw [← eP] at L
  have KX:=InK.keeps w s₀.heap s₁.heap zi L.keeps
  have tk1:0<s₁.toks:=Nat.lt_of_lt_of_le htk (X.script_toks L zt)
  refine enter_call (codeAny_mono (call w s₀ s₁ mg mb fa o pm cd doc a vs ns G KX tk1 ho (fd_plain hd) hcd hmg hobj hints hlen hg) fun r s' hq=>?_)
  obtain ⟨rfl,h2,h3,h4⟩:=hq
  exact ⟨.inl ⟨.bool true,.bool true,[],rfl,fun _=>rfl,.bool true,aqe l _,fun _=>⟨List.Pairwise.nil,fun _ hm=>(nomatch hm)⟩⟩,h2,h3,h4⟩
section
variable {prog:Program} {w:World} {A:Around} {E:Value→Shared→Prop} {s:Shared} {K:Frag}
end
end Att
namespace L2
open PySem PySem.Spec PyProof.Rows
theorem ajs:∀ {vs:List Value} {ns:List Int},IntsAre vs ns→Vals (ns.map V.int) vs
  | _,_,.nil=>.nil
  | _,_,.cons n t h=>.cons ⟨t,rfl⟩ (ajs h)
def ax6 (H:Hp):Prop:=∀ b,H b=none∨∃ o xs,H b=some (.frz o (.lst xs))
theorem av7 {P:Program} {w:World} {K:PySem.W.Frag} {mg mb:Str→Option Value} {CX:CXT} {k:Nat} {fa a:Addr} {fd:FuncData} {x:Str} {sp:Sp} {s₁:Shared} {vs:List Value} {ns:List Int}
    (KX:K.In s₁.heap) (hns:s₁.heap.Ns mainGlobals mg) (hb:s₁.heap.Ns builtinsNs mb) (hbb:∀ x:Str,x ≠ "__name__" → mb x=bootBuiltins x) (hlim:s₁.heap.NoLimit) (hg:s₁.gens=#[]) (htk:0<s₁.toks)
    (ha:s₁.heap.get? a=some { cls:=.type "list",data:=.seq vs.toArray }) (hi:IntsAre vs ns) (hl:ns.length≤sizeLine) (hr:Room k callerA)
    (F:∀ base:Heap,K.In base→base.Ns mainGlobals mg→FnOk P w K mg base CX k fa fd [x] sp) (hbind:∀ (s:Shared) (u:Value),BindsTo s fd ⟨[u],[]⟩ [(x,u)])
    (hsp:∀ H:Hp,ax6 H→SqL K H a (ns.map V.int)→sp [.ref a] H (fun v _=>v=.bl true) fun _ _ _=>False)
    (hCX:∀ H e s',CX [] H s₁ (fun _ _ _=>False) e s'→False):
    codeAny (model P w) callerA (.call (.ref fa) ⟨[.ref a],[]⟩) (fun r s'=>r=.ok (.ret (.bool true))∧OldK s₁.heap s'.heap∧s'.os=s₁.os∧AllBare s'.gens) s₁:=by
  have rv:=ajs hi
  have lenV:=hi.length
  have core:∀ H:Hp,ax6 H→SqL K H a (ns.map V.int)→HOk P w H s₁.heap→(∀ b,H b≠none→b=a)→(H a≠none→K.lookup a=none)→
      codeAny (model P w) callerA (.call (.ref fa) ⟨[.ref a],[]⟩) (fun r s'=>r=.ok (.ret (.bool true))∧OldK s₁.heap s'.heap∧s'.os=s₁.os∧AllBare s'.gens) s₁:=by
    intro H hO hS hok hA hK
    have base_of:∀ {b:Addr} {o:Obj},s₁.heap.get? b=some o→H b=none→(ala s₁.heap H).get? b=some o:=fun e n=>asw e n
    have noA:∀ {b:Addr} {o:Obj} {es:Array DictEntry} {ep:Nat},s₁.heap.get? b=some o→o.data=.dict es ep→H b=none:=fun {b o es ep} e d=>by
      cases q:H b with
      | none=>rfl
      | some u=>
        have e':b=a:=hA b (by rw [q];simp)
        subst e'
        rw [ha] at e;cases e
        have d':Data.seq vs.toArray _=Data.dict es ep:=d
        cases d'
    have nsK:∀ {b:Addr} {m:Str→Option Value},s₁.heap.Ns b m→(ala s₁.heap H).Ns b m:=fun {b m} ⟨o,es,ep,e,d,r⟩=>⟨o,es,ep,base_of e (noA e d),d,r⟩
    have hKb:K.In (ala s₁.heap H):=fun b o e=>base_of (KX b o e) (by
      cases q:H b with
      | none=>rfl
      | some u=>
        have e':b=a:=hA b (by rw [q];simp)
        subst e'
        rw [hK (by rw [q];simp)] at e;cases e)
    have hM:Mod K mg (ala s₁.heap H):=⟨hKb,nsK hns,⟨mb,nsK hb,hbb⟩,let ⟨mc,h1,h2⟩:=hlim;⟨mc,nsK h1,h2⟩⟩
    have e0:Env0 P w K mg (ala s₁.heap H) callerA [] s₁ H:=⟨rfl,hM,fun b o e=>avm e,Nat.le_of_eq (aru _ _),trivial,fun b hb=>absurd (show b∈([]:List Addr) from hb) (by simp),hok,.of_eq hg,htk⟩
    refine codeAny_mono ((F _ hKb (nsK hns)).run callerA [] s₁ H ⟨[.ref a],[]⟩ [.ref a] [.ref a] _ _ hr e0 (hbind s₁ (.ref a)) (.cons rfl .nil) (hsp H hO hS)) fun r s' h=>?_
    cases r with
    | error e=>exact (hCX H e s' h).elim
    | ok fl=>
      cases fl with
      | next=>exact False.elim h
      | brk=>exact False.elim h
      | cont=>exact False.elim h
      | ret u=>
        obtain ⟨v,H',os,bare,un,hok',r',q,_⟩:=h
        have q':v=.bl true:=q
        subst q'
        obtain rfl:u=Value.bool true:=r'
        refine ⟨rfl,OldK.of_keep fun b o e=>?_,os,bare⟩
        cases q:H b with
        | none=>exact un.keep b o e q (by intro z;exact absurd (show b∈([]:List Addr) from z) (by simp)) (by simp)
        | some u=>
          rcases hO b with z | ⟨ob,xs,z⟩
          · rw [q] at z;cases z
          · have z2:=un.frzs b ob _ z
            obtain ⟨e1,_⟩:=hok b _ z
            obtain ⟨e2,_⟩:=hok' b _ z2
            rw [e] at e1;cases e1
            exact e2
  cases hk:K.lookup a with
  | some o=>
    have e:=KX a o hk
    rw [ha] at e
    cases e
    refine core (fun _=>none) (fun _=>.inl rfl) (.inr ⟨_,vs.toArray,_,hk,rfl,rfl,rfl,by rw [List.size_toArray,lenV];exact hl,by simpa using rv⟩) (fun b u z=>by have z':(none:Option HO)=some u:=z;cases z') (fun b z=>absurd rfl z) fun z=>absurd rfl z
  | none=>
    refine core (fun b=>if b=a then some (.frz { cls:=.type "list",data:=.seq vs.toArray } (.lst (ns.map V.int))) else none) (fun b=>?_) (.inl (.inr ⟨{ cls:=.type "list",data:=.seq vs.toArray },if_pos rfl⟩)) (fun b u z=>?_) (fun b z=>?_) fun _=>hk
    · by_cases hb:b=a
      · exact .inr ⟨_,_,if_pos hb⟩
      · exact .inl (if_neg hb)
    · by_cases hb:b=a
      · have z':=(if_pos hb).symm.trans z
        cases z'
        subst hb
        exact ⟨ha,by rw [List.length_map];exact hl,vs,_,rv,ha⟩
      · have z':=(if_neg hb).symm.trans z
        cases z'
    · by_cases hb:b=a
      · exact hb
      · exact absurd (if_neg hb) z
end L2
namespace L2
open PySem PySem.Spec PyProof.Rows
theorem walk_ofZ {l:PySem.W.OpenLaw} {n k:Nat} {q:Program} {loose:List Str} {XP:(Str→Option Value)→Heap→Prop} {as0:List Addr} {N t:Nat} {d:DefRec} {K:Params→PySem.W.Frag} {CX:CXT} {sp:PySem.W.Frag→Sp} {x:Str}
    (hn:l.most=some n) (hn2:n≤sizeLine) (hdf:d.params.defaults=[]) (hr:Room k callerA) (ek:∀ P,as0=(K P).map (·.1)) (htk:0<t)
    (F:∀ (w:World) (mg:Str→Option Value) (fa:Addr) (h:Heap),(K w.params).In h→h.Ns mainGlobals mg→mg d.name=some (.ref fa)→
      ∃ fd:FuncData,(∀ (s:Shared) (u:Value),BindsTo s fd ⟨[u],[]⟩ [(x,u)])∧
        ∀ base:Heap,(K w.params).In base→base.Ns mainGlobals mg→FnOk l.prog w (K w.params) mg base CX k fa fd [x] (sp (K w.params)))
    (hsp:∀ (K:PySem.W.Frag) (H:Hp) (a:Addr) (ns:List Int),ns.length≤n→ax6 H→SqL K H a (ns.map V.int)→sp K [.ref a] H (fun v _=>v=.bl true) fun _ _ _=>False)
    (hCX:∀ (H:Hp) (s:Shared) (e:Value) (s':Shared),CX [] H s (fun _ _ _=>False) e s'→False):
    PySem.W.WalkX q loose XP (PySem.W.X.obsZ as0) (PySem.W.X.valZ K N t) l.row.toRowW d [] (fun f vs=>PySem.call f vs):=by
  refine Att.attach_callZ hn hdf ek htk fun w s₀ s₁ mg mb fa o pm cd doc a vs ns G KX tk ho hd hcd hmg hobj hints hlen hg=>?_
  obtain ⟨fd,hb,hF⟩:=F w mg fa _ KX G.T.g hmg
  exact av7 KX G.T.g G.T.b G.T.builtins G.T.nolimit hg tk hobj hints (Nat.le_trans hlen hn2) hr hF hb (fun H hO hS=>hsp (K w.params) H a ns hlen hO hS) fun H e s'=>hCX H s₁ e s'
end L2
namespace L2
open PySem PySem.Spec PyProof.Rows
def jv (s:Stmt):Arguments:=match s with
  | .FunctionDef _ a _ _ _ _ _ _ _ _=>a
  | _=>{ posonlyargs:=[],args:=[],vararg:=none,kwonlyargs:=[],kw_defaults:=[],kwarg:=none,defaults:=[] }
def qr (s:Stmt):List Stmt:=match s with
  | .FunctionDef _ _ b _ _ _ _ _ _ _=>b
  | _=>[]
def qa (s:Stmt):Scope:=match s with
  | .FunctionDef _ _ _ _ _ _ sc _ _ _=>sc
  | _=>{ kind:=.function,names:=[],isGenerator:=false,isCoroutine:=false }
abbrev CX0:CXT:=fun _ _ _ _ _ _=>False
abbrev E0:XK:=fun _ _ _=>False
theorem av9 {X:Cx}:afl CX0 X E0:=fun _ _ _ _ _ _ _ h=>h.elim
structure Fun (K:PySem.W.Frag) (x qual:Str) (st:Stmt) (f:Addr) (fd:FuncData):Prop where
  ex:∃ (oc:Value) (od:Option Addr) (kV doc pm:Value) (an:Option Addr) (cdv ct:Value) (osl:Array (Option Value)),
    fd=PySem.W.fnOf x qual (jv st) (qr st) (qa st) .none kV doc pm an cdv ct∧K.lookup f=some ⟨oc,od,.func fd,osl⟩∧PySem.W.codeIn K cdv qual=true
  kp:PySem.W.keepIn K (.ref f)=true
section
variable {P:Program} {w:World} {K:PySem.W.Frag} {mg:Str→Option Value} {base:Heap}
theorem Fun.ok {x qual:Str} {st:Stmt} {f:Addr} {fd:FuncData} {N ps:List Str} {k:Nat} {sp:Sp} (F:Fun K x qual st f fd) (S:FnScope N ps (qa st)) (len:∀ vs H Q E,sp vs H Q E→vs.length=ps.length)
    (hbody:∀ (cdv:Value) (A:Around) (outer:List Env) (s:Shared) (H:Hp) (vs:List V) (Q:VK) (E:XK),Room k (A.deeper (envOfC qual (qa st) s.heap.objs.size f cdv))→sp vs H Q E→
      ∃ t,PSs (jb CX0 P w K mg base N qual (qa st) f cdv A outer s H E).nox (qr st) t∧t { nx:=fun _ H'=>Q .non H',rt:=Q } (start N vs) H):FnOk P w K mg base CX0 (k+1) f fd ps sp:=by
  obtain ⟨oc,od,kV,doc,pm,an,cdv,ct,osl,rfl,lk,hcd⟩:=F.ex
  refine ays lk hcd S len fun A outer s H vs Q E hr hsp=>?_
  obtain ⟨t,h,q⟩:=hbody cdv A outer s H vs Q E hr hsp
  exact ⟨t,h.nox,q⟩
theorem av0 {x qual:Str} {st:Stmt} {f:Addr} {oc:Value} {od an:Option Addr} {osl:Array (Option Value)} {kV doc pm cdv ct:Value} (l:K.lookup f=some ⟨oc,od,.func (PySem.W.fnOf x qual (jv st) (qr st) (qa st) .none kV doc pm an cdv ct),osl⟩)
    (c:PySem.W.codeIn K cdv qual=true) (k:PySem.W.keepIn K (.ref f)=true):Fun K x qual st f (PySem.W.fnOf x qual (jv st) (qr st) (qa st) .none kV doc pm an cdv ct):=⟨⟨oc,od,kV,doc,pm,an,cdv,ct,osl,rfl,l,c⟩,k⟩
end
theorem acn {n:Nat} (h:n≤1000):n<sizeLine:=Nat.lt_of_le_of_lt h (by decide)
section
variable {X:Cx}
theorem pv (i:Nat) {x:Str} {pos:Pos} (hN:X.N[i]?=some x:=by rfl) (hv:Vis X.env.scope x:=by first | exact Or.inl rfl | exact Or.inr (Or.inl rfl) | exact Or.inr (Or.inr rfl)) (hd:(x==("__debug__" : Str))=false:=by decide)
    (hcd:(x==("__classdict__" : Str))=false:=by decide):PE X (.Name x pos) (azt i):=a0m hN hv hd hcd
end
section
variable {κ:Type} [DecidableEq κ]
end
end L2
set_option maxHeartbeats 8000000
namespace L2
open PySem PySem.Spec PyProof.Rows
section
variable {X:Cx}
def a5k:R2:=fun x y H Q=>match x,y with
  | .int i,.int j=>Q (.int (i+j)) H
  | .str a,.str b=>a.length+b.length≤sizeLine∧Q (.str (a++b)) H
  | .ref l,.ref b=>∃ xs zs,H l=some (.lst xs)∧H b=some (.lst zs)∧xs.length+zs.length≤sizeLine∧∀ p,H p=none→Q (.ref p) (upd H p (.lst (xs++zs)))
  | _,_=>False
theorem ax3:OpR X (binaryOp .Add) a5k:=by
  intro pins s σ H x y v u Q I rx ry h
  cases x<;>cases y<;>first
    | exact False.elim h
    | exact a29 pins s σ H _ _ v u Q I rx ry ⟨_,_,rfl,rfl,h⟩
    | exact ao9 pins s σ H _ _ v u Q I rx ry ⟨_,_,rfl,rfl,h.1,h.2⟩
    | (obtain ⟨xs,zs,h1,h2,h3,h4⟩:=h;exact a10 pins s σ H _ _ v u Q I rx ry ⟨_,_,xs,zs,rfl,rfl,h1,h2,h3,h4⟩)
def KD (K:PySem.W.Frag) (P:Program) (w:World) (a:Addr) (kvs:List (Key×V)):Prop:=
  (a==sysModules)=false∧kvs.length≤sizeLine∧∀ h:Heap,K.In h→∃ vs,KV kvs vs∧h.DictOf (jf P w) a vs
def uIx (K:PySem.W.Frag) (P:Program) (w:World):R2:=fun x y H Q=>match x,y with
  | .str z,.int i=>z.length≤sizeLine∧∃ c,atI z.cps.toList i=some c∧Q (.str ⟨#[c]⟩) H
  | .ref p,.int i=>∃ xs v,(SqL K H p xs∨SqT K H p xs)∧atI xs i=some v∧Q v H
  | .ref p,.str k=>∃ kvs v,(Rd H p (.dK kvs)∨KD K P w p kvs)∧acq kvs (Sum.inr k)=some v∧Q v H
  | _,_=>False
theorem ava {value slice:Expr} {pins:List (Addr×Obj)} {s:Shared} {σ:St} {H:Hp} {a:Addr} {u:Value} {vs:List (Key×Value)} {k:Key} {w':Value} {v:V} {Q:VK} (I:Inv X pins σ H s) (dd:s.heap.DictOf (jf X.prog X.w) a vs) (hk:ahk k u=true)
    (hw:valueAt vs k=some w') (r:RelV v w') (q:Q v H) (hs:subscripted slice false (.ref a) u=operate [.ref a,u] (getItem (.ref a) u)):wpAny (model X.prog X.w) X.A (subscriptTail value slice (.ref a) u) (EP X pins σ Q) X.xe s:=
  tail_any dd.typeIs PySem.F.slot_dict_getitem.lookup (wpAny_getItem_of hk dd.mapOf hw ⟨v,H,I.tok _,r,q⟩) hs
theorem a5l:IxR X (uIx X.K X.prog X.w):=by
  intro value slice pins s σ H x y v u Q I rx ry q hs
  cases x with
  | str z=>
    cases y with
    | int i=>
      obtain ⟨h1,c,h2,h3⟩:=q
      exact a2b value slice pins s σ H _ _ v u Q I rx ry ⟨z,i,c,rfl,rfl,h1,h2,h3⟩ hs
    | _=>exact q.elim
  | ref p=>
    cases y with
    | int i=>
      obtain ⟨xs,w',h1,h2,h3⟩:=q
      rcases h1 with h1 | h1
      · exact axu value slice pins s σ H _ _ v u Q I rx ry ⟨p,xs,i,w',rfl,rfl,h1,h2,h3⟩ hs
      · exact a21 value slice pins s σ H _ _ v u Q I rx ry ⟨p,xs,i,w',rfl,rfl,h1,h2,h3⟩ hs
    | str k=>
      obtain ⟨kvs,w',h1,h2,h3⟩:=q
      have ry':RelV (kV (Sum.inr k)) u:=ry
      cases (show v=Value.ref p from rx)
      rcases h1 with h1 | h1
      · obtain ⟨z,hd,vs,rel,dd⟩:=ajo I.hok h1
        obtain ⟨w2,hw,rw'⟩:=RelO.some_of (v:=w') (o:=valueAt vs (Sum.inr k)) (by rw [← h2];exact rel.val _)
        exact ava I dd (ai9 (P:=X.prog) (w:=X.w) ry') hw rw' h3 hs
      · obtain ⟨hd,z,dd⟩:=h1
        obtain ⟨vs,rel,dd⟩:=dd s.heap I.kIn
        obtain ⟨w2,hw,rw'⟩:=RelO.some_of (v:=w') (o:=valueAt vs (Sum.inr k)) (by rw [← h2];exact rel.val _)
        exact ava I dd (ai9 (P:=X.prog) (w:=X.w) ry') hw rw' h3 hs
    | _=>exact q.elim
  | _=>cases y<;>exact q.elim
def a5m (K:PySem.W.Frag):List V→Hp→VK→Prop:=fun xs H Q=>match xs with
  | [.str z]=>z.length≤sizeLine∧Q (.int z.length) H
  | [.ref p]=>∃ ys,(SqL K H p ys∨SqT K H p ys)∧Q (.int ys.length) H
  | _=>False
theorem arv:CallR X (.builtin "len") (a5m X.K):=by
  intro pins s σ H xs us Q I r h
  match xs,h with
  | [.str z],h=>exact alg pins s σ H _ us Q I r ⟨z,rfl,h.1,h.2⟩
  | [.ref p],h=>
    obtain ⟨ys,h1,h2⟩:=h
    exact akh pins s σ H _ us Q I r ⟨p,ys,rfl,h1,h2⟩
inductive Da where
  | s (v:V)
  | tup (xs:List Da)
  | lst (xs:List Da)
mutual
def Da.eq:Da→Da→Bool
  | .s v,.s w=>eqV v w
  | .tup xs,.tup ys=>Da.eqs xs ys
  | .lst xs,.lst ys=>Da.eqs xs ys
  | _,_=>false
def Da.eqs:List Da→List Da→Bool
  | [],[]=>true
  | x::xs,y::ys=>Da.eq x y&&Da.eqs xs ys
  | _,_=>false
end
def xi (K:PySem.W.Frag) (H:Hp):Nat→V→Da→Prop
  | 0,v,d=>d=.s v∧wq v=true
  | n+1,v,d=>(d=.s v∧wq v=true)∨(∃ a xs ds,v=.ref a∧d=.tup ds∧SqT K H a xs∧Paired (xi K H n) xs ds)∨(∃ a xs ds,v=.ref a∧d=.lst ds∧SqL K H a xs∧Paired (xi K H n) xs ds)
theorem Da.eqs_range:∀ (ds es:List Da),((List.range (min ds.length es.length)).all (fun j=>Da.eq (ds.getD j (.s .non)) (es.getD j (.s .non)))&&ds.length==es.length)=Da.eqs ds es
  | [],[]=>by simp [Da.eqs]
  | [],e::es=>by simp [Da.eqs]
  | d::ds,[]=>by simp [Da.eqs]
  | d::ds,e::es=>by
    have ih:=Da.eqs_range ds es
    rw [Da.eqs,← ih]
    have:min (d::ds).length (e::es).length=min ds.length es.length+1:=by simp only [List.length_cons];omega
    rw [this,List.range_succ_eq_map,List.all_cons,List.all_map]
    have h2:((d::ds).length==(e::es).length)=(ds.length==es.length):=by simp
    rw [h2,Bool.and_assoc]
    rfl
theorem Paired.at {α β:Type} {F:α→β→Prop}:∀ {xs:List α} {ys:List β} {j:Nat} {x:α} {y:β},Paired F xs ys→xs[j]?=some x→ys[j]?=some y→F x y
  | _,_,_,_,_,.nil,h,_=>by simp at h
  | _,_,0,_,_,.cons r _,h1,h2=>by simp at h1 h2;subst h1 h2;exact r
  | _,_,j+1,_,_,.cons _ t,h1,h2=>Paired.at (j:=j) t (by simpa using h1) (by simpa using h2)
theorem aen:∀ {v:V},wq v=true→eqV v v=true
  | .non,_=>rfl
  | .bl _,_=>by simp [eqV]
  | .int _,_=>by simp [eqV]
  | .str _,_=>by simp [eqV]
section
variable {pins:List (Addr×Obj)} {σ:St} {H:Hp} {s:Shared}
theorem ze {a:Addr} (h:wq (.ref a)=true):False:=by simp [wq] at h
theorem Inv.notBoth (I:Inv X pins σ H s) {a:Addr} {xs ys:List V} (h:SqT X.K H a xs) (h':SqL X.K H a ys):False:=by
  obtain ⟨its,_,⟨o,e,c,_⟩,_⟩:=I.tuple h
  obtain ⟨its',_,⟨o',n',e',c',_⟩,_⟩:=I.list h'
  rw [e] at e';cases e'
  rw [c] at c'
  injection c' with c'
  exact absurd c' (by decide)
theorem alr (I:Inv X pins σ H s):∀ (n:Nat) {m:Nat} {x:V} {d e:Da},xi X.K H n x d→xi X.K H m x e→Da.eq d e=true
  | 0,m,x,d,e,h1,h2=>by
    obtain ⟨rfl,f⟩:=h1
    cases m with
    | zero=>obtain ⟨rfl,_⟩:=h2;exact aen f
    | succ m=>
      rcases h2 with ⟨rfl,_⟩ | ⟨a,xs,ds,rfl,_⟩ | ⟨a,xs,ds,rfl,_⟩
      · exact aen f
      · exact (ze f).elim
      · exact (ze f).elim
  | n+1,m,x,d,e,h1,h2=>by
    have both:∀ {xs:List V} {ds es:List Da} {m:Nat},Paired (xi X.K H n) xs ds→Paired (xi X.K H m) xs es→Da.eqs ds es=true:=by
      intro xs ds es m p
      induction p generalizing es with
      | nil=>intro q;cases q;rfl
      | cons r t ih=>
        intro q
        cases q with
        | cons r' t'=>rw [Da.eqs,alr I n r r',ih t'];rfl
    rcases h1 with ⟨rfl,f⟩ | ⟨a,xs,ds,rfl,rfl,hs,hp⟩ | ⟨a,xs,ds,rfl,rfl,hs,hp⟩
    · cases m with
      | zero=>obtain ⟨rfl,_⟩:=h2;exact aen f
      | succ m=>
        rcases h2 with ⟨rfl,_⟩ | ⟨a,xs,ds,rfl,_⟩ | ⟨a,xs,ds,rfl,_⟩
        · exact aen f
        · exact (ze f).elim
        · exact (ze f).elim
    · cases m with
      | zero=>exact (ze h2.2).elim
      | succ m=>
        rcases h2 with ⟨_,f⟩ | ⟨a',ys,es,e1,rfl,hs',hp'⟩ | ⟨a',ys,es,e1,rfl,hs',hp'⟩
        · exact (ze f).elim
        · cases e1
          cases I.tuple_inj hs hs'
          exact both hp hp'
        · cases e1
          exact (I.notBoth hs hs').elim
    · cases m with
      | zero=>exact (ze h2.2).elim
      | succ m=>
        rcases h2 with ⟨_,f⟩ | ⟨a',ys,es,e1,rfl,hs',hp'⟩ | ⟨a',ys,es,e1,rfl,hs',hp'⟩
        · exact (ze f).elim
        · cases e1
          exact (I.notBoth hs' hs).elim
        · cases e1
          cases I.list_inj hs hs'
          exact both hp hp'
theorem zf {h:Heap} {a:Addr} {its:Array Value} (p:PlainL h a its):h.IsList a its:=let ⟨o,n,e,c,_,d⟩:=p;⟨o,e,c,n,d⟩
theorem ae3 {A:Around} {n m:Nat} {xs ys:List V} {ds es:List Da} {us vs:List Value} (px:Paired (xi X.K H n) xs ds) (py:Paired (xi X.K H m) ys es) (vx:Vals xs us) (vy:Vals ys vs)
    (ih:∀ {x y:V} {d e:Da} {u v:Value},xi X.K H n x d→xi X.K H m y e→RelV x u→RelV y v→SeqAt.EqAt A.in1 s u v (Da.eq d e)):
    ∀ j (h1:j<us.toArray.size) (h2:j<vs.toArray.size),SeqAt.EqAt A.in1 s us.toArray[j] vs.toArray[j] (Da.eq (ds.getD j (.s .non)) (es.getD j (.s .non))):=by
  intro j h1 h2
  have l1:=px.length;have l2:=py.length;have l3:=vx.length;have l4:=vy.length
  rw [List.size_toArray] at h1 h2
  have q1:xs[j]?=some xs[j]:=List.getElem?_eq_getElem (by omega)
  have q2:ys[j]?=some ys[j]:=List.getElem?_eq_getElem (by omega)
  have q3:ds[j]?=some ds[j]:=List.getElem?_eq_getElem (by omega)
  have q4:es[j]?=some es[j]:=List.getElem?_eq_getElem (by omega)
  have q5:us[j]?=some us[j]:=List.getElem?_eq_getElem (by omega)
  have q6:vs[j]?=some vs[j]:=List.getElem?_eq_getElem (by omega)
  rw [List.getD_eq_getElem?_getD,List.getD_eq_getElem?_getD,q3,q4]
  exact ih (Paired.at px q1 q3) (Paired.at py q2 q4) (Paired.at vx q1 q5) (Paired.at vy q2 q6)
theorem ajy {A:Around} {n m:Nat} {a b:Addr} {xs ys:List V} {ds es:List Da} (I:Inv X pins σ H s) (hu:A.units<cLine) (sx:SqT X.K H a xs) (sy:SqT X.K H b ys) (px:Paired (xi X.K H n) xs ds) (py:Paired (xi X.K H m) ys es)
    (ih:∀ {x y:V} {d e:Da} {u v:Value},xi X.K H n x d→xi X.K H m y e→RelV x u→RelV y v→SeqAt.EqAt A.in1 s u v (Da.eq d e)):SeqAt.RcAt A s (.ref a) (.ref b) (Da.eqs ds es):=by
  obtain ⟨us,vx,tx,_⟩:=I.tuple sx
  obtain ⟨vs,vy,ty,_⟩:=I.tuple sy
  have q:=SeqAt.RcAt.tuples tx ty hu (ae3 px py vx vy ih)
  rw [List.size_toArray,List.size_toArray,← vx.length,← vy.length,px.length,py.length,Da.eqs_range] at q
  exact q
theorem amr {A:Around} {n m:Nat} {a b:Addr} {xs ys:List V} {ds es:List Da} (I:Inv X pins σ H s) (hu:A.units<cLine) (sx:SqL X.K H a xs) (sy:SqL X.K H b ys) (px:Paired (xi X.K H n) xs ds) (py:Paired (xi X.K H m) ys es)
    (ih:∀ {x y:V} {d e:Da} {u v:Value},xi X.K H n x d→xi X.K H m y e→RelV x u→RelV y v→SeqAt.EqAt A.in1 s u v (Da.eq d e)):SeqAt.RcAt A s (.ref a) (.ref b) (Da.eqs ds es):=by
  obtain ⟨us,vx,tx,_⟩:=I.list sx
  obtain ⟨vs,vy,ty,_⟩:=I.list sy
  by_cases hz:us.toArray.size=vs.toArray.size
  · have q:=SeqAt.RcAt.lists (zf tx) (zf ty) hz hu (ae3 px py vx vy ih)
    have hz':ds.length=es.length:=by rw [← px.length,← py.length,vx.length,vy.length];simpa using hz
    have e:=Da.eqs_range ds es
    rw [hz',Nat.min_self] at e
    rw [← hz'] at e
    rw [List.size_toArray,← vx.length,px.length] at q
    simp only [beq_self_eq_true,Bool.and_true] at e
    rw [e] at q
    exact q
  · have q:=SeqAt.RcAt.lists_lengths (zf tx) (zf ty) (by simpa using hz) hu
    have hz':ds.length≠es.length:=by
      rw [← px.length,← py.length,vx.length,vy.length]
      intro z;exact hz (by simpa using z)
    have e:=Da.eqs_range ds es
    have f:(ds.length==es.length)=false:=by simpa using hz'
    rw [f,Bool.and_false] at e
    rw [← e]
    exact q
theorem aid (I:Inv X pins σ H s):∀ (n:Nat) {m:Nat} {A:Around} {x y:V} {d e:Da} {u v:Value},A.units+n<cLine→xi X.K H n x d→xi X.K H m y e→RelV x u→RelV y v→SeqAt.EqAt A s u v (Da.eq d e):=by
  have flatRef:∀ {A:Around} {x:V} {u:Value} {b:Addr} {ys:List V},A.units<cLine→wq x=true→RelV x u→(SqT X.K H b ys∨SqL X.K H b ys)→SeqAt.EqAt A s u (.ref b) false∧SeqAt.EqAt A s (.ref b) u false:=by
    intro A x u b ys hu f r h
    have h':(∃ its,s.heap.IsTuple b its)∨∃ its,s.heap.IsList b its:=by
      rcases h with h | h
      · obtain ⟨its,_,t,_⟩:=I.tuple h;exact .inl ⟨_,t⟩
      · obtain ⟨its,_,t,_⟩:=I.list h;exact .inr ⟨_,zf t⟩
    cases x with
    | non=>cases r;rcases h' with ⟨_,t⟩ | ⟨_,t⟩;exact ⟨.none_tuple t hu,.tuple_none t hu⟩;exact ⟨.none_list t hu,.list_none t hu⟩
    | bl k=>cases r;rcases h' with ⟨_,t⟩ | ⟨_,t⟩;exact ⟨.bool_tuple k t hu,.tuple_bool k t hu⟩;exact ⟨.bool_list k t hu,.list_bool k t hu⟩
    | int k=>obtain ⟨tk,rfl⟩:=r;rcases h' with ⟨_,t⟩ | ⟨_,t⟩;exact ⟨.int_tuple k tk t hu,.tuple_int k tk t hu⟩;exact ⟨.int_list k tk t hu,.list_int k tk t hu⟩
    | str k=>obtain ⟨tk,rfl⟩:=r;rcases h' with ⟨_,t⟩ | ⟨_,t⟩;exact ⟨.str_tuple k tk t hu,.tuple_str k tk t hu⟩;exact ⟨.str_list k tk t hu,.list_str k tk t hu⟩
    | _=>simp [wq] at f
  intro n
  induction n with
  | zero=>
    intro m A x y d e u v hu h1 h2 rx ry
    obtain ⟨rfl,f⟩:=h1
    cases m with
    | zero=>obtain ⟨rfl,f'⟩:=h2;exact ai1 rx ry f f'
    | succ m=>
      rcases h2 with ⟨rfl,f'⟩ | ⟨b,ys,es,rfl,rfl,sy,py⟩ | ⟨b,ys,es,rfl,rfl,sy,py⟩
      · exact ai1 rx ry f f'
      · cases ry;exact (flatRef (by omega) f rx (.inl sy)).1
      · cases ry;exact (flatRef (by omega) f rx (.inr sy)).1
  | succ n ih=>
    intro m A x y d e u v hu h1 h2 rx ry
    have hin:A.in1.units+n<cLine:=by show A.units+1+n<cLine;omega
    rcases h1 with ⟨rfl,f⟩ | ⟨a,xs,ds,rfl,rfl,sx,px⟩ | ⟨a,xs,ds,rfl,rfl,sx,px⟩
    · cases m with
      | zero=>obtain ⟨rfl,f'⟩:=h2;exact ai1 rx ry f f'
      | succ m=>
        rcases h2 with ⟨rfl,f'⟩ | ⟨b,ys,es,rfl,rfl,sy,py⟩ | ⟨b,ys,es,rfl,rfl,sy,py⟩
        · exact ai1 rx ry f f'
        · cases ry;exact (flatRef (by omega) f rx (.inl sy)).1
        · cases ry;exact (flatRef (by omega) f rx (.inr sy)).1
    · cases rx
      cases m with
      | zero=>obtain ⟨rfl,f'⟩:=h2;exact (flatRef (by omega) f' ry (.inl sx)).2
      | succ m=>
        rcases h2 with ⟨rfl,f'⟩ | ⟨b,ys,es,rfl,rfl,sy,py⟩ | ⟨b,ys,es,rfl,rfl,sy,py⟩
        · exact (flatRef (by omega) f' ry (.inl sx)).2
        · cases ry
          by_cases hab:a=b
          · subst hab
            cases I.tuple_inj sx sy
            have e:Da.eq (.tup ds) (.tup es)=true:=alr I (n+1) (m:=m+1) (x:=.ref a) (.inr (.inl ⟨a,xs,ds,rfl,rfl,sx,px⟩)) (.inr (.inl ⟨a,xs,es,rfl,rfl,sy,py⟩))
            rw [e];exact .same _
          · exact .of_refs hab (ajy I (by omega) sx sy px py fun h1 h2 r1 r2=>ih hin h1 h2 r1 r2)
        · cases ry
          obtain ⟨us,vx,tx,_⟩:=I.tuple sx
          obtain ⟨vs,vy,ty,_⟩:=I.list sy
          exact .tuple_list tx (zf ty) (by omega)
    · cases rx
      cases m with
      | zero=>obtain ⟨rfl,f'⟩:=h2;exact (flatRef (by omega) f' ry (.inr sx)).2
      | succ m=>
        rcases h2 with ⟨rfl,f'⟩ | ⟨b,ys,es,rfl,rfl,sy,py⟩ | ⟨b,ys,es,rfl,rfl,sy,py⟩
        · exact (flatRef (by omega) f' ry (.inr sx)).2
        · cases ry
          obtain ⟨us,vx,tx,_⟩:=I.list sx
          obtain ⟨vs,vy,ty,_⟩:=I.tuple sy
          exact .list_tuple (zf tx) ty (by omega)
        · cases ry
          by_cases hab:a=b
          · subst hab
            cases I.list_inj sx sy
            have e:Da.eq (.lst ds) (.lst es)=true:=alr I (n+1) (m:=m+1) (x:=.ref a) (.inr (.inr ⟨a,xs,ds,rfl,rfl,sx,px⟩)) (.inr (.inr ⟨a,xs,es,rfl,rfl,sy,py⟩))
            rw [e];exact .same _
          · exact .of_refs hab (amr I (by omega) sx sy px py fun h1 h2 r1 r2=>ih hin h1 h2 r1 r2)
end
def uEq (K:PySem.W.Frag) (k:Nat):R2:=fun x y H Q=>match x,y with
  | .ref a,.ref b=>∃ n m d e,n≤k∧xi K H n (.ref a) d∧xi K H m (.ref b) e∧Q (.bl (Da.eq d e)) H
  | x,y=>awn x y=true∧Q (.bl (decide (x=y))) H
theorem a0i {k:Nat} (hu:X.A.units+k<cLine):OpR X (compareOp .Eq) (uEq X.K k):=by
  intro pins s σ H x y v u Q I rx ry h
  cases x with
  | ref a=>
    cases y with
    | ref b=>
      obtain ⟨n,m,d,e,hn,h1,h2,q⟩:=h
      cases rx;cases ry
      have fin:∀ {k:Bool},k=Da.eq d e→SeqAt.RcAt X.A s (.ref a) (.ref b) k→wpAny (model X.prog X.w) X.A (compareOp .Eq (.ref a) (.ref b)) (EP X pins σ Q) X.xe s:=fun {k} e' r=>
        r X.prog X.w X.xe (EP X pins σ Q) (by rw [e'];exact ⟨.bl _,H,I,rfl,q⟩)
      cases n with
      | zero=>exact (ze h1.2).elim
      | succ n=>
        cases m with
        | zero=>exact (ze h2.2).elim
        | succ m=>
          have hin:X.A.in1.units+n<cLine:=by show X.A.units+1+n<cLine;omega
          rcases h1 with ⟨_,f⟩ | ⟨a',xs,ds,e1,rfl,sx,px⟩ | ⟨a',xs,ds,e1,rfl,sx,px⟩
          · exact (ze f).elim
          · cases e1
            rcases h2 with ⟨_,f⟩ | ⟨b',ys,es,e2,rfl,sy,py⟩ | ⟨b',ys,es,e2,rfl,sy,py⟩
            · exact (ze f).elim
            · cases e2
              exact fin rfl (ajy I (by omega) sx sy px py fun h1 h2 r1 r2=>aid I n hin h1 h2 r1 r2)
            · cases e2
              obtain ⟨us,vx,tx,_⟩:=I.tuple sx
              obtain ⟨vs,vy,ty,_⟩:=I.list sy
              exact fin rfl (.tuple_list tx (zf ty) (by omega))
          · cases e1
            rcases h2 with ⟨_,f⟩ | ⟨b',ys,es,e2,rfl,sy,py⟩ | ⟨b',ys,es,e2,rfl,sy,py⟩
            · exact (ze f).elim
            · cases e2
              obtain ⟨us,vx,tx,_⟩:=I.list sx
              obtain ⟨vs,vy,ty,_⟩:=I.tuple sy
              exact fin rfl (.list_tuple (zf tx) ty (by omega))
            · cases e2
              exact fin rfl (amr I (by omega) sx sy px py fun h1 h2 r1 r2=>aid I n hin h1 h2 r1 r2)
    | _=>exact ayd pins s σ H _ _ v u Q I rx ry h
  | _=>cases y<;>exact ayd pins s σ H _ _ v u Q I rx ry h
end
theorem ayp {X:Cx} {x:Str} {c:Addr} {pos:Pos} (hg:Gl X x) (hm:X.mg x=some (.ref c)) (hd:(x==("__debug__" : Str))=false:=by decide):PE X (.Name x pos) (tC (.ref c)):=ax9 hg hm (v:=.ref c) rfl hd
theorem ayr {X:Cx} {x:Str} {T:String} {pos:Pos} (hg:Gl X x) (hm:X.mg x=none) (hv:bootBuiltins x=some (.type T)) (hn:x ≠ "__name__" := by decide) (hd:(x==("__debug__" : Str))=false:=by decide):PE X (.Name x pos) (tC (.ty T)):=aw3 hg hm hv (v:=.ty T) rfl hn hd
structure Cal (P:Program) (w:World) (K:PySem.W.Frag) (mg:Str→Option Value) (base:Heap) (k:Nat) (x:Str) (ps:List Str) (sp:Sp):Prop where
  ex:∃ f fd,FnOk P w K mg base CX0 k f fd ps sp∧Binds K fd ps []∧PySem.W.keepIn K (.ref f)=true∧mg x=some (.ref f)
theorem a4c {X:Cx} {k:Nat} {x:Str} {ps:List Str} {sp:Sp} {e:Expr} {es:List Expr} {t:TA} {p pos:Pos} (c:Cal X.prog X.w X.K X.mg X.base k x ps sp) (hr:Room k X.A) (hg:Gl X x) (ha:PA X (e::es) t) (hdb:(x==("__debug__" : Str))=false:=by decide)
    (he:starEach (e::es) X.env=(false,eval e X.env)::starEach es X.env:=by rfl) (hpl:(backTo pos (starEach es X.env)).any (·.1)=false:=by rfl):PE X (.Call (.Name x p) (e::es) [] pos) (ayw sp [] E0 t):=by
  obtain ⟨f,fd,F,b,kp,m⟩:=c.ex
  exact ax5 F hr hg m kp b .nil av9 ha hdb he hpl
theorem Cal.mono {P:Program} {w:World} {K:PySem.W.Frag} {mg:Str→Option Value} {base:Heap} {j k:Nat} {x:Str} {ps:List Str} {sp:Sp} (c:Cal P w K mg base j x ps sp) (h:j≤k):Cal P w K mg base k x ps sp:=by
  obtain ⟨f,fd,F,b,kp,m⟩:=c.ex
  exact ⟨f,fd,F.mono h,b,kp,m⟩
end L2
namespace L2
open PySem PySem.Spec PyProof.Rows
def ahx (env:Env):List (Str×NameKind)→List (Str×Addr)→List (Str×Addr)
  | [],cs=>cs
  | (n,k)::r,cs=>ahx env r (if k==.free then (n,(env.cells.lookup n).getD 0)::cs else cs)
def aco (scope:Scope) (env:Env):List (Str×Addr):=ahx env scope.names []
theorem anh {env:Env}:∀ {names:List (Str×NameKind)} {cs:List (Str×Addr)} {p:Str×Addr},p∈ahx env names cs→p∈cs∨((p.1,NameKind.free)∈names∧p.2=(env.cells.lookup p.1).getD 0)
  | [],_,_,h=>.inl h
  | (n,k)::r,cs,p,h=>by
    rcases anh (names:=r) h with q | ⟨q,e⟩
    · by_cases hk:(k==NameKind.free)=true
      · rw [if_pos hk] at q
        rcases List.mem_cons.mp q with rfl | q
        · have:k=.free:=by simpa using hk
          exact .inr ⟨by rw [this];exact List.mem_cons_self,rfl⟩
        · exact .inl q
      · rw [if_neg hk] at q;exact .inl q
    · exact .inr ⟨List.mem_cons_of_mem _ q,e⟩
theorem amk {env:Env} {x:Str}:∀ {names:List (Str×NameKind)} {cs:List (Str×Addr)},((∃ c,(x,c)∈cs)∨(x,NameKind.free)∈names)→∃ c,(x,c)∈ahx env names cs
  | [],_,.inl h=>h
  | [],_,.inr h=>by simp at h
  | (n,k)::r,cs,h=>by
    refine amk (names:=r) ?_
    rcases h with ⟨c,h⟩ | h
    · left
      by_cases hk:(k==NameKind.free)=true
      · rw [if_pos hk];exact ⟨c,List.mem_cons_of_mem _ h⟩
      · rw [if_neg hk];exact ⟨c,h⟩
    · rcases List.mem_cons.mp h with e | h
      · left
        injection e with e1 e2
        subst e1;subst e2
        exact ⟨_,List.mem_cons_self⟩
      · exact .inr h
theorem act {x:Str}:∀ {l:List (Str×Addr)} {c:Addr},(x,c)∈l→∃ c',l.lookup x=some c'
  | (n,d)::r,c,h=>by
    rw [List.lookup_cons]
    cases hx:x==n with
    | true=>exact ⟨d,rfl⟩
    | false=>
      rcases List.mem_cons.mp h with e | h
      · injection e with e1 _;subst e1;simp at hx
      · exact act h
theorem agk {scope:Scope} {env:Env} (h:∀ n,(n,NameKind.free)∈scope.names→∃ c,env.cells.lookup n=some c):closureFor scope env=pure (aco scope env):=by
  unfold closureFor aco
  have key:∀ (names:List (Str×NameKind)) (cs:List (Str×Addr)),(∀ n,(n,NameKind.free)∈names→∃ c,env.cells.lookup n=some c)→
      (forIn names cs fun x (r:List (Str×Addr))=>(match x with | (name,kind)=>if kind==NameKind.free then do let a ← cellOf env name;pure (ForInStep.yield ((name,a)::r)) else pure (ForInStep.yield r):Sem (ForInStep (List (Str×Addr)))))=pure (ahx env names cs):=by
    intro names
    induction names with
    | nil=>intro cs _;rfl
    | cons p r ih=>
      intro cs hf
      obtain ⟨n,k⟩:=p
      rw [List.forIn_cons]
      cases hk:k==NameKind.free with
      | true=>
        have hk':k=.free:=by simpa using hk
        subst hk'
        obtain ⟨c,hc⟩:=hf n List.mem_cons_self
        have e:cellOf env n=pure c:=by unfold cellOf;rw [hc]
        simp only [beq_self_eq_true,if_true,e]
        have e2:ahx env ((n,NameKind.free)::r) cs=ahx env r ((n,c)::cs):=by show ahx env r _=_;rw [hc];rfl
        rw [e2]
        exact ih ((n,c)::cs) fun m hm=>hf m (List.mem_cons_of_mem _ hm)
      | false=>
        simp only [hk,Bool.false_eq_true,if_false]
        have e2:ahx env ((n,k)::r) cs=ahx env r cs:=by show ahx env r (if (k==NameKind.free)=true then _ else _)=_;rw [hk];rfl
        rw [e2]
        exact ih cs fun m hm=>hf m (List.mem_cons_of_mem _ hm)
  exact (congrArg (· >>= pure) (key scope.names [] h))
theorem kh {env:Env} {x:Str}:∀ {names:List (Str×NameKind)},
    (names.map fun (n,k)=>if (k==NameKind.free&&env.scope.kind==.function&&env.kindOf n==some .cell) then (n,NameKind.cell) else (n,k)).lookup x
      = (names.lookup x).map fun k=>if (k==NameKind.free&&env.scope.kind==.function&&env.kindOf x==some .cell) then NameKind.cell else k
  | []=>rfl
  | (n,k)::r=>by
    have ih:=@kh env x r
    show List.lookup x ((if (k==NameKind.free&&env.scope.kind==.function&&env.kindOf n==some .cell)=true then (n,NameKind.cell) else (n,k))::_)=_
    cases hx:x==n with
    | true=>
      have hx':x=n:=by simpa using hx
      subst hx'
      by_cases hc:(k==NameKind.free&&env.scope.kind==.function&&env.kindOf x==some .cell)=true
      · rw [if_pos hc];simp only [List.lookup_cons,beq_self_eq_true,Option.map_some];rw [if_pos hc]
      · rw [if_neg hc];simp only [List.lookup_cons,beq_self_eq_true,Option.map_some];rw [if_neg hc]
    | false=>
      by_cases hc:(k==NameKind.free&&env.scope.kind==.function&&env.kindOf n==some .cell)=true
      · rw [if_pos hc];simp only [List.lookup_cons,hx];exact ih
      · rw [if_neg hc];simp only [List.lookup_cons,hx];exact ih
def Cx.comp (X:Cx) (scope:Scope) (T:List Str) (C:Addr) (fp:List Addr) (s₀:Shared) (H₀:Hp):Cx:=
  { X with N:=X.N++T,s₀:=s₀,H₀:=H₀,env:=compEnvC scope (aco scope X.env) C X.env,outer:=X.stack,ex:=fp,fn:=fun _=>false,xe:=fun _ _=>False }
structure CompScope (X:Cx) (scope:Scope):Prop where
  kind:scope.kind=.function
  nocell:∀ y∈scope.names,y.2≠.cell
  names:∀ y∈scope.names,y.2=.local→scope.names.lookup y.1=some .local
  free:∀ n,scope.names.lookup n=some .free→X.env.kindOf n=some .cell∨X.env.kindOf n=some .free
  freeM:∀ n,(n,NameKind.free)∈scope.names→X.env.kindOf n=some .cell∨X.env.kindOf n=some .free
  apart:∀ x∈X.N,scope.names.lookup x≠some .local
section
variable {X:Cx} {scope:Scope} {pins:List (Addr×Obj)} {σ:St} {H:Hp} {s:Shared}
theorem CompScope.clo (S:CompScope X scope) (I:Inv X pins σ H s):closureFor scope X.env=pure (aco scope X.env):=
  agk fun n h=>I.ok.has n (S.freeM n h)
theorem CompScope.cl_old (S:CompScope X scope) (I:Inv X pins σ H s) {x:Str} {c:Addr} (h:(aco scope X.env).lookup x=some c):X.env.cells.lookup x=some c:=by
  rcases anh (PySem.mem_of_lookup h) with q | ⟨q,e⟩
  · simp at q
  · obtain ⟨d,hd⟩:=I.ok.has x (S.freeM x q)
    have e':c=(X.env.cells.lookup x).getD 0:=e
    rw [hd] at e' ⊢
    rw [e'];rfl
theorem CompScope.cl_has (_:CompScope X scope) {x:Str} (h:scope.names.lookup x=some .free):∃ c,(aco scope X.env).lookup x=some c:=by
  obtain ⟨c,hc⟩:=amk (env:=X.env) (names:=scope.names) (cs:=[]) (x:=x) (.inr (PySem.mem_of_lookup h))
  exact act hc
theorem CompScope.kindOf (S:CompScope X scope) {C:Addr} {x:Str} (h:(compEnvC scope (aco scope X.env) C X.env).kindOf x=some .cell∨(compEnvC scope (aco scope X.env) C X.env).kindOf x=some .free):scope.names.lookup x=some .free:=by
  have e:(compEnvC scope (aco scope X.env) C X.env).kindOf x=(scope.names.lookup x).map fun k=>if (k==NameKind.free&&X.env.scope.kind==.function&&X.env.kindOf x==some .cell) then NameKind.cell else k:=kh
  rw [e] at h
  cases hl:scope.names.lookup x with
  | none=>rw [hl] at h;rcases h with h | h<;>cases h
  | some k=>
    rw [hl] at h
    cases k with
    | free=>rfl
    | cell=>exact absurd rfl (S.nocell _ (PySem.mem_of_lookup hl))
    | _=>rcases h with h | h<;>cases h
theorem CompScope.vis (S:CompScope X scope) {C:Addr} {x:Str} (hx:x∈X.N) (h:Vis (compEnvC scope (aco scope X.env) C X.env).scope x):scope.names.lookup x=some .free:=by
  rcases h with h | h | h
  · exfalso
    have e:(compEnvC scope (aco scope X.env) C X.env).kindOf x=(scope.names.lookup x).map fun k=>if (k==NameKind.free&&X.env.scope.kind==.function&&X.env.kindOf x==some .cell) then NameKind.cell else k:=kh
    have h':(compEnvC scope (aco scope X.env) C X.env).kindOf x=some .local:=h
    rw [e] at h'
    cases hl:scope.names.lookup x with
    | none=>rw [hl] at h';cases h'
    | some k=>
      rw [hl] at h'
      have h':(if (k==NameKind.free&&X.env.scope.kind==.function&&X.env.kindOf x==some .cell)=true then NameKind.cell else k)=.local:=Option.some.inj h'
      split at h'
      · cases h'
      · subst h'
        exact S.apart x hx hl
  · exact S.kindOf (C:=C) (.inl h)
  · exact S.kindOf (C:=C) (.inr h)
theorem CompScope.back (S:CompScope X scope) {C:Addr} {x:Str} (h:scope.names.lookup x=some .free):(compEnvC scope (aco scope X.env) C X.env).kindOf x=some .cell∨(compEnvC scope (aco scope X.env) C X.env).kindOf x=some .free:=by
  have e:(compEnvC scope (aco scope X.env) C X.env).kindOf x=(scope.names.lookup x).map fun k=>if (k==NameKind.free&&X.env.scope.kind==.function&&X.env.kindOf x==some .cell) then NameKind.cell else k:=kh
  rw [e,h]
  show some (if _ then _ else _)=_∨some (if _ then _ else _)=_
  split
  · exact .inl rfl
  · exact .inr rfl
end
def PF (X:Cx) (ifs:List Expr) (t:TT):Prop:=
  ∀ (pins:List (Addr×Obj)) (s:Shared) (σ:St) (H:Hp) (Q:Bool→Hp→Prop),Inv X pins σ H s→t σ H Q→
    wpAny (model X.prog X.w) X.A (forIn ifs true fun c r=>if r=true then do let ok ← isTrue c X.env (eval c X.env);pure (ForInStep.yield ok) else pure (ForInStep.yield r)) (TP X pins σ Q) X.xe s
def a4g:TT:=fun _ H Q=>Q true H
theorem a0j {X:Cx}:PF X [] a4g:=fun _ _ _ H _ I h=>wpAny_pure ⟨H,I,h⟩
theorem a17 {X:Cx} {c:Expr} {t:TT} (hc:PT X c t):PF X [c] t:=by
  intro pins s σ H Q I h
  rw [List.forIn_cons]
  simp only [if_true]
  refine wpAny_bind (wpAny_bind (thn (hc pins s σ H Q I h) fun b s1 q=>wpAny_pure ?_))
  exact wpAny_pure q
theorem acp {prog:Program} {w:World} {A:Around} {R:Result→Shared→Prop} {s:Shared} {elt target iter:Expr} {ifs:List Expr} {scope:Scope} {pos:Pos} {it acc:Value} {env:Env} (I:Nat→Shared→Prop)
    (turn:∀ n s,I n s→wpAny (model prog w) A (pyNext it) (fun r s₁=>match r with
      | none=>R (.ok .next) s₁
      | some v=>wpAny (model prog w) A (letOwnedTupleGo target it v) (fun _ s₁=>wpAny (model prog w) A (assign target env v) (fun _ s₂=>
          wpAny (model prog w) A (forIn ifs true fun c r=>if r=true then do let ok ← isTrue c env (eval c env);pure (ForInStep.yield ok) else pure (ForInStep.yield r)) (fun ok s₃=>
            if ok=true then wpAny (model prog w) A (eval elt env) (fun x s₄=>
              wpAny (model prog w) A (call (.builtin "list.append") [acc,x]) (fun _ s₅=>∃ m,m<n∧I m s₅) (fun _ _=>False) s₄) (fun _ _=>False) s₃
            else ∃ m,m<n∧I m s₃) (fun _ _=>False) s₂) (fun _ _=>False) s₁) (fun _ _=>False) s₁) (fun _ _=>False) s)
    (n:Nat) (h:I n s):
    codeAny (model prog w) A (.compLoop (.ListComp elt [⟨target,iter,ifs,0⟩] scope pos) 0 it acc env) R s:=by
  refine codeAny_loop rfl I (fun n s hI=>?_) n h
  show wpAny _ A ((compTurn (.ListComp elt [⟨target,iter,ifs,0⟩] scope pos) 0 it acc env).onRaise (fun x=>do noteFrame x env;theTreesLotGoes x)) _ _ s
  refine wpAny_noted ?_
  rw [compTurn_list]
  refine wpAny_bind (wpAny_standAt (wpAny_bind (wpAny_mono (turn n s hI) (fun r s₁ h₁=>?_) fun _ _ h'=>h'.elim)))
  cases r with
  | none=>exact wpAny_pure h₁
  | some v=>
    refine wpAny_bind (wpAny_mono h₁ (fun _ s₁ h₁=>?_) fun _ _ h'=>h'.elim)
    refine wpAny_bind (wpAny_mono h₁ (fun _ s₂ h₂=>wpAny_bind (wpAny_mono h₂ (fun ok s₃ h₃=>?_) fun _ _ h'=>h'.elim)) fun _ _ h'=>h'.elim)
    cases ok with
    | false=>exact wpAny_pure ⟨rfl,h₃⟩
    | true=>
      exact wpAny_bind (wpAny_bind (wpAny_mono h₃ (fun x s₄ h₄=>wpAny_bind (wpAny_mono h₄ (fun _ s₅ h₅=>wpAny_pure (wpAny_pure ⟨rfl,h₅⟩)) fun _ _ h'=>h'.elim)) fun _ _ h'=>h'.elim))
end L2
namespace L2
open PySem PySem.Spec PyProof.Rows
def tLC (n:Nat) (wi:TI) (g:TG) (tc:TT) (te:TE):TE:=fun σ H Q=>wi σ H fun J H1=>∃ W:Nat→Nat→List V→Hp→Prop,(∃ m,W 0 m [] H1)∧∀ i m ys H,W i m ys H→
  (J.stop i H∧ys.length≤sizeLine∧∀ D,H D=none→Q (.ref D) (upd H D (.lst ys)))∨
  (J.go i H∧ys.length<sizeLine∧∀ x H',J.yld i H x H'→g x (σ++List.replicate n none) H' fun σ2 H2=>tc σ2 H2 fun b H3=>
    if b=true then te σ2 H3 fun y H4=>∃ m',m'<m∧W (i+1) m' (ys++[y]) H4 else ∃ m',m'<m∧W (i+1) m' ys H3)
def ajw (g:TG) (n k:Nat):Prop:=∀ (σ:St),σ.length=n→∀ x H Q,g x (σ++List.replicate k none) H Q→
  g x (σ++List.replicate k none) H fun σ2 H2=>((σ2.length=n+k∧∀ (i:Nat) v,(σ++List.replicate k none)[i]?=some (some v)→σ2[i]?=some (some v))∧Q σ2 H2)
section
variable {X:Cx} {scope:Scope} {T:List Str} {elt target iter:Expr} {ifs:List Expr} {wi:TI} {g:TG} {tc:TT} {te:TE}
theorem ltN {h:Heap} {b:Addr} {o:Obj} (e:h.get? b=some o):@LT.lt Nat instLTNat b h.objs.size:=Heap.lt_size e
theorem neN {a b:Addr} (h:@Ne Nat a b):a≠b:=h
theorem leN {a b:Addr} (h:@LE.le Nat instLENat a b):a≤b:=h
theorem at0 (its:List Value) (n:Nat) (u:Value):∃ n',Obj.mapSeq (·.push u) { cls:=.type "list",data:=.seq its.toArray n }=({ cls:=.type "list",data:=.seq (its++[u]).toArray n' }:Obj):=
  ⟨_,by simp [Obj.mapSeq];rfl⟩
theorem aod {prog:Program} {w:World} {A:Around} {E:Value→Shared→Prop} {s:Shared} {D:Addr} {its:List Value} {n:Nat} {u:Value} {Q:Value→Shared→Prop} (hD:s.heap.get? D=some { cls:=.type "list",data:=.seq its.toArray n })
    (hz:its.length≤sizeLine) (h:∀ h' n',Heap.SameBut D s.heap h'→h'.get? D=some { cls:=.type "list",data:=.seq (its++[u]).toArray n' }→Q .none { s with heap:=h' }):
    wpAny (model prog w) A (call (.builtin "list.append") [.ref D,u]) Q E s:=by
  have hl:s.heap.IsList D its.toArray:=⟨_,hD,rfl,n,rfl⟩
  refine wpAny_call_entry slot_list_append hl.typeIs entry_list_append ?_ (args_list_append _ _)
  show wpAny _ _ (updateSeq D (·.push u) >>= fun _=>ret .none) _ _ s
  refine wpAny_bind ?_
  obtain ⟨n',e'⟩:=at0 its n u
  refine wpAny_updateSeq (f:=(·.push u)) hD rfl (wpAny_pure ⟨.none,rfl,h _ n' (Heap.SameBut.update ..) ?_⟩) (by rw [List.size_toArray];exact hz) (by rw [Array.size_push,List.size_toArray];exact Nat.succ_le_succ hz)
  rw [← e']
  exact Heap.get?_update_self _ hD (by rw [e'];rfl)
theorem ahd {pins:List (Addr×Obj)} {σ:St} {Q:VK} {E:Value→Shared→Prop} {pos:Pos} {itv:Value} {s₂:Shared} {RR:Value→Addr→Result→Shared→Prop}
    (S:CompScope X scope) (hc:X.calm=true)
    (hg:∀ C fp s₀ H₀,PG (X.comp scope T C fp s₀ H₀) target g) (hgo:ajw g X.N.length T.length) (hf:∀ C fp s₀ H₀,PF (X.comp scope T C fp s₀ H₀) ifs tc) (he:∀ C fp s₀ H₀,PE (X.comp scope T C fp s₀ H₀) elt te)
    (h:PIE X pins σ target (fun J H1=>∃ W:Nat→Nat→List V→Hp→Prop,(∃ m,W 0 m [] H1)∧∀ i m ys H,W i m ys H→
      (J.stop i H∧ys.length≤sizeLine∧∀ D,H D=none→Q (.ref D) (upd H D (.lst ys)))∨
      (J.go i H∧ys.length<sizeLine∧∀ x H',J.yld i H x H'→g x (σ++List.replicate T.length none) H' fun σ2 H2=>tc σ2 H2 fun b H3=>
        if b=true then te σ2 H3 fun y H4=>∃ m',m'<m∧W (i+1) m' (ys++[y]) H4 else ∃ m',m'<m∧W (i+1) m' ys H3)) itv s₂)
    (hRR:∀ D C s' H' m',Inv X pins σ H' s'→ajd X pins H' C→s'.heap.Ns C m'→Q (.ref D) H'→RR (.ref D) C (.ok .next) s'):
    wpAny (model X.prog X.w) X.A (newList []) (fun acc s₃=>wpAny (model X.prog X.w) X.A (newFunctionEnv scope X.env.globals (aco scope X.env) [] X.env.qual none .none (some X.env)) (fun cenv s₄=>
      codeAny (model X.prog X.w) X.A (.compStart (.ListComp elt [⟨target,iter,ifs,0⟩] scope pos) 0 itv acc { cenv with scope:=relabel scope X.env }) (RR acc cenv.locals) s₄) E s₃) E s₂:=by
  obtain ⟨it,fp,tn,J,H2,rfl,I2,Tn,st2,f2,W,⟨m0,w0⟩,turn⟩:=h
  refine wpAny_newObj_type (wpAny_newFunctionEnv S.nocell (by intro y hy;simp at hy) (fun h₁ hns₁ hsb₁=>?_) S.kind)
  dsimp only at hns₁ hsb₁ ⊢
  generalize hH2:s₂.heap.push { cls:=.type "list",dict:=none,data:=.seq ([]:List Value).toArray }=G at hns₁ hsb₁ ⊢
  have hC:G.objs.size=s₂.heap.objs.size+1:=by rw [← hH2,Heap.size_push]
  obtain ⟨D,eD⟩:∃ D,s₂.heap.objs.size=D:=⟨_,rfl⟩
  obtain ⟨C,eC⟩:∃ C,G.objs.size=C:=⟨_,rfl⟩
  rw [eD] at hC ⊢
  rw [eC] at hC hns₁ hsb₁ ⊢
  have hDC:D≠C:=by omega
  have old:∀ b o,s₂.heap.get? b=some o→h₁.get? b=some o:=fun b o e=>by
    have hb:=ltN e
    exact hsb₁.extBut b o (neN (by omega)) (Heap.get?_push_of_some _ (hH2▸Heap.get?_push_of_some _ e))
  have hacc:h₁.get? D=some { cls:=.type "list",data:=.seq ([]:List Value).toArray 0 }:=by
    refine hsb₁.extBut _ _ hDC (Heap.get?_push_of_some _ ?_)
    rw [← hH2,← eD]
    exact Heap.get?_push_size _ rfl
  have fpo:∀ b∈fp,@LT.lt Nat instLTNat b s₂.heap.objs.size:=fun b hb=>by
    obtain ⟨o,e,_⟩:=Tn.obj _ _ st2 b hb
    exact ltN e
  have ilt:@LT.lt Nat instLTNat X.env.locals s₂.heap.objs.size:=I2.lt
  have isz:X.s₀.heap.objs.size≤s₂.heap.objs.size:=I2.sz
  have HD:H2 D=none:=I2.hok.fresh (leN (by omega))
  have HC:H2 C=none:=I2.hok.fresh (leN (by omega))
  have nfs:∀ b:Addr,@LE.le Nat instLENat s₂.heap.objs.size b→b∉frs X.stack:=fun b hb z=>by
    have q:=I2.stkSub b z
    rcases List.mem_cons.mp q with q | q
    · rw [← q] at ilt;exact absurd ilt (Nat.not_lt.mpr hb)
    · exact I2.nofs hb q
  have cellLt:∀ x c,X.env.cells.lookup x=some c→@LT.lt Nat instLTNat c s₂.heap.objs.size:=fun x c e=>by
    obtain ⟨v,q⟩:=I2.cell x c e
    exact q.lt
  let X':Cx:=X.comp scope T C fp s₂ H2
  have ok':X'.Ok:={
    mod:=I2.ok.mod,kind:=S.kind,glob:=I2.ok.glob,blt:=I2.ok.blt
    above:=leN (by show @LE.le Nat instLENat s₂.heap.objs.size C;omega)
    inj:=fun x y c h1 h2=>I2.ok.inj x y c (S.cl_old I2 h1) (S.cl_old I2 h2)
    has:=fun x hx=>S.cl_has (S.kindOf hx)
    cab:=fun x c hx=>absurd (show false=true from hx) (by simp)
    hd:=I2.ok.hd,frames:=I2.ok.frames,stk:=.inl rfl
    exf:=fun b hb=>⟨neN (by have:=fpo b hb;show @Ne Nat b C;omega),fun x c e=>(f2 b hb).2.2.2.2.1 x c (S.cl_old I2 e)⟩
    bs:=I2.bs,bsz:=Nat.le_trans I2.ok.bsz I2.sz
    noex:=fun b o e hb=>by
      obtain ⟨e0,n0⟩:=I2.ok.bs b o e
      rcases (f2 b hb).2.2.2.1 with q | q
      · exact I2.ok.noex b o e q
      · have q':@LE.le Nat instLENat X.s₀.heap.objs.size b:=q
        have:=ltN e0;omega
    exfs:=fun b hb z=>by
      rcases List.mem_cons.mp (I2.stkSub b z) with q | q
      · exact (f2 b hb).2.1 q
      · exact (f2 b hb).2.2.1 q
    funs:=I2.stack,frf:=I2.stkFree }
  have I4:∀ tk,0<tk→Inv X' pins (σ++List.replicate T.length none) H2 { s₂ with heap:=h₁,toks:=tk }:=fun tk htk=>{
    tk:=htk,ok:=ok',os:=rfl,bare:=I2.bare,base:=Un.kept old
    loc:=⟨_,hns₁,fun i x v e1 e2 e3=>by
      have hi:i<σ.length:=by
        by_cases hi:i<σ.length
        · exact hi
        · rw [List.getElem?_append_right (by omega),List.getElem?_replicate] at e2
          split at e2<;>cases e2
      rw [List.getElem?_append_left hi] at e2
      have hi':i<X.N.length:=by rw [← I2.len];exact hi
      have e1':X.N[i]?=some x:=by
        have:(X.N++T)[i]?=some x:=e1
        rw [List.getElem?_append_left hi'] at this;exact this
      have hfr:=S.vis (List.mem_of_getElem? e1') e3
      obtain ⟨m,hn,hl⟩:=I2.loc
      have hk:=S.free x hfr
      obtain ⟨u,r,l⟩:=hl i x v e1' e2 (.inr hk)
      refine ⟨u,r,.inr ⟨S.back hfr,?_⟩⟩
      rcases l with ⟨l,_⟩ | ⟨_,c,e,z⟩
      · rw [l] at hk;rcases hk with q | q<;>cases q
      · obtain ⟨c',e'⟩:=S.cl_has hfr
        have e'':=S.cl_old I2 e'
        rw [e] at e'';cases e''
        exact ⟨c,e',z.keeps old⟩⟩
    cell:=fun x c e=>by
      obtain ⟨v,z⟩:=I2.cell x c (S.cl_old I2 e)
      exact ⟨v,z.keeps old⟩
    free:=HC,freeC:=fun x c e=>I2.freeC x c (S.cl_old I2 e)
    pin:=fun p hp=>by
      obtain ⟨a,b,c,d,e⟩:=I2.pin p hp
      have hlt:=ltN a
      refine ⟨old _ _ a,b,neN (by show @Ne Nat p.1 C;omega),fun z=>?_,e⟩
      rcases List.mem_cons.mp (I2.stkSub _ z) with q | q
      · exact c q
      · exact d q
    hok:=I2.hok.kept old
    len:=by show (σ++_).length=(X.N++T).length;rw [List.length_append,List.length_append,List.length_replicate,I2.len] }
  have fpk:∀ (pins':List (Addr×Obj)) (H':Hp),(∀ p∈pins',p∈pins∨p.1=D)→(∀ b∈fp,H' b=none)→∀ b∈fp,ajd X' pins' H' b:=fun pins' H' hp hn b hb=>by
    obtain ⟨_,q1,q2,q3,q4,q5⟩:=f2 b hb
    have hlt:=fpo b hb
    refine ⟨hn b hb,neN (by show @Ne Nat b C;omega),ok'.exfs b hb,.inl hb,(ok'.exf b hb).2,fun p hpp=>?_⟩
    rcases List.mem_append.mp hpp with z | z
    · exact q5 p (List.mem_append_left _ z)
    · rcases hp p z with z | z
      · exact q5 p (List.mem_append_right _ z)
      · rw [z];exact neN (by omega)
  have stay:Tn.keep=Tn.keep:=rfl
  have loop:∀ s₃:Shared,s₃={ s₂ with heap:=h₁,toks:=s₂.toks+([]:List (Str×Value)).length }→
      codeAny (model X.prog X.w) X.A (.compLoop (.ListComp elt [⟨target,iter,ifs,0⟩] scope pos) 0 (.ref it) (.ref D) X'.env) (RR (.ref D) C) s₃:=by
    rintro s₃ rfl
    refine acp (fun n s'=>∃ i σ' H' ys its k,Inv X' pins σ' H' s'∧(σ'.length=X.N.length+T.length∧∀ (i:Nat) v,(σ++List.replicate T.length none)[i]?=some (some v)→σ'[i]?=some (some v))∧
      s'.heap.get? D=some { cls:=.type "list",data:=.seq (its:List Value).toArray k }∧Vals ys its∧H' D=none∧tn i s'.heap∧(∀ b∈fp,H' b=none)∧W i n ys H') ?_ m0
      ⟨0,_,H2,[],[],0,I4 _ I2.tk,⟨by rw [List.length_append,List.length_replicate,I2.len],fun _ _ e=>e⟩,hacc,.nil,HD,Tn.keep _ _ _ st2 fun b _ o e=>old b o e,fun b hb=>(f2 b hb).1,w0⟩
    rintro n s3 ⟨i,σ3,H3,ys,its,k,I3,⟨hl3,hs3⟩,hD3,hv3,hH3,st3,fr3,w3⟩
    have hlen:its.length=ys.length:=hv3.length.symm
    have D_fs:D∉X'.fs:=nfs D (by omega)
    have DC':D≠X'.env.locals:=hDC
    have I3p:Inv X' (pins++[(D,{ cls:=.type "list",data:=.seq its.toArray k })]) (σ++List.replicate T.length none) H3 s3:=
      (I3.weak (by rw [hl3,List.length_append,List.length_replicate,I2.len]) hs3).pins_of fun p hp=>by
        rcases List.mem_append.mp hp with z | z
        · exact I3.pin p (List.mem_append_right _ z)
        · have e:=List.mem_singleton.mp z
          subst e
          exact ⟨hD3,hH3,DC',D_fs,fun v z=>by cases z⟩
    have pinsD:∀ p∈pins++[(D,({ cls:=.type "list",data:=.seq its.toArray k }:Obj))],p∈pins∨p.1=D:=fun p hp=>by
      rcases List.mem_append.mp hp with z | z
      · exact .inl z
      · exact .inr (by rw [List.mem_singleton.mp z])
    rcases turn i n ys H3 w3 with ⟨stop,hz,qn⟩ | ⟨go,hz,step⟩
    · refine thn (Tn.done X' rfl rfl rfl hc i _ s3 _ H3 _ I3p (fpk _ H3 pinsD fr3) st3 stop) fun r s4 ⟨hr,I4'⟩=>?_
      subst hr
      obtain ⟨hD4,hH4,_⟩:=I4'.pin (D,_) (List.mem_append_right _ (List.mem_append_right _ List.mem_cons_self))
      obtain ⟨m',hn',_⟩:=I4'.loc
      have un:Un (frs X.stack) fp H2 (upd H3 D (.lst ys)) s₂.heap s4.heap:={
        keep:=I4'.base.keep,slot:=I4'.base.slot
        free:=fun b o e n hx=>by
          have:=ltN e
          rw [qt (neN (by omega))]
          exact I4'.base.free b o e n hx
        there:=I4'.base.there
        tups:=fun b xs e=>by rw [qt (fun z=>by rw [z,HD] at e;cases e)];exact I4'.base.tups b xs e
        frzs:=fun b o u e=>by rw [qt (fun z=>by rw [z,HD] at e;cases e)];exact I4'.base.frzs b o u e
        tbls:=fun b ps e=>by rw [qt (fun z=>by rw [z,HD] at e;cases e)];exact I4'.base.tbls b ps e }
      have hok:HOk X.prog X.w (upd H3 D (.lst ys)) s4.heap:=fun b u e=>by
        by_cases hb:b=D
        · subst hb
          rw [zx] at e;cases e
          exact ⟨hz,its,k,hv3,hD4⟩
        · rw [qt hb] at e
          refine (I4'.hok b u e).stay (fun _ _ _ q=>q) (fun c q=>?_) fun c xs q=>?_
          · rw [qt (zr q hH3)];exact q
          · rw [qt (zr q hH3)];exact q
      have I5:Inv X pins σ (upd H3 D (.lst ys)) s4:=I2.call' (ch:=fp) I4'.os un hok I4'.bare fun b hb=>⟨(f2 b hb).2.2.2.1,(f2 b hb).2.1,(f2 b hb).2.2.2.2.1,(f2 b hb).2.2.2.2.2⟩
      refine hRR D C s4 _ m' I5 ?_ hn' (qn D hH3)
      refine ⟨by rw [qt (Ne.symm hDC)];exact I4'.free,?_,?_,.inr ?_,fun x c e=>?_,fun p hp=>?_⟩
      · exact neN (by omega)
      · exact I2.nofs (leN (by omega))
      · exact leN (by omega)
      · exact neN (by have:=cellLt x c e;omega)
      · exact neN (by have:=ltN (I2.pin p hp).1;omega)
    · refine thn (Tn.item X' rfl rfl rfl hc i _ s3 _ H3 _ I3p (fpk _ H3 pinsD fr3) st3 go) fun r s4 ⟨u,hr,h4⟩=>?_
      subst hr
      refine thn h4 fun _ s5 ⟨x,H5,I5,r5,y5,st5,fr5⟩=>?_
      have I5':=I5.pinned (fpk _ H5 pinsD fr5) (Tn.obj _ _ st5)
      refine wpAny_mono ((hg C fp s₂ H2) _ s5 _ H5 x u _ I5' r5 (hgo σ I2.len x H5 _ (step x H5 y5))) (fun _ s6 ⟨σ6,H6,I6,⟨hl6,hs6⟩,q6⟩=>?_) fun _ _ z=>z
      refine wpAny_mono ((hf C fp s₂ H2) _ s6 σ6 H6 _ I6 q6) (fun b s7 ⟨H7,I7,q7⟩=>?_) fun _ _ z=>z
      have fin:∀ {s8:Shared} {H8:Hp} (I8:Inv X' ((pins++[(D,{ cls:=.type "list",data:=.seq its.toArray k })])++ail fp s5.heap) σ6 H8 s8),tn (i+1) s8.heap∧(∀ b∈fp,H8 b=none)∧s8.heap.get? D=some { cls:=.type "list",data:=.seq its.toArray k }∧H8 D=none∧Inv X' pins σ6 H8 s8:=fun {s8 H8} I8=>by
        refine ⟨Tn.keep _ _ _ st5 fun b hb o e=>(I8.pin (b,o) (List.mem_append_right _ (List.mem_append_right _ (ab8 hb e)))).1,fun b hb=>?_,?_,?_,I8.unpinned.unpinned⟩
        · obtain ⟨o,e,d⟩:=Tn.obj _ _ st5 b hb
          exact (I8.pin (b,o) (List.mem_append_right _ (List.mem_append_right _ (ab8 hb e)))).2.1
        · exact (I8.pin (D,_) (List.mem_append_right _ (List.mem_append_left _ (List.mem_append_right _ List.mem_cons_self)))).1
        · exact (I8.pin (D,_) (List.mem_append_right _ (List.mem_append_left _ (List.mem_append_right _ List.mem_cons_self)))).2.1
      cases b with
      | false=>
        rw [if_neg Bool.false_ne_true] at q7 ⊢
        obtain ⟨m',hm,w7⟩:=q7
        obtain ⟨a1,a2,a3,a4,a5⟩:=fin I7
        exact ⟨m',hm,i+1,σ6,H7,ys,its,k,a5,⟨hl6,hs6⟩,a3,hv3,a4,a1,a2,w7⟩
      | true=>
        rw [if_pos rfl] at q7 ⊢
        refine wpAny_mono ((he C fp s₂ H2) _ s7 σ6 H7 _ I7 q7) (fun v s8 ⟨y,H8,I8,r8,m',hm,w8⟩=>?_) fun _ _ z=>z
        obtain ⟨a1,a2,a3,a4,a5⟩:=fin I8
        refine aod a3 (by omega) fun h9 k9 hs9 hD9=>?_
        have nD:∀ b∈fp,b≠D:=fun b hb=>neN (by have:=fpo b hb;omega)
        refine ⟨m',hm,i+1,σ6,H8,ys++[y],its++[v],k9,?_,⟨hl6,hs6⟩,hD9,hv3.append (.cons r8 .nil),a4,Tn.keep _ _ _ a1 fun b hb o e=>(hs9.2 b (nD b hb)).trans e,a2,w8⟩
        exact a5.turned (t':=s8.toks) (it:=D) (fun b o hb e=>(hs9.2 b hb).trans e) a4 DC' (.inr (leN (by show @LE.le Nat instLENat s₂.heap.objs.size D;omega))) (fun x c e=>neN (by have:=cellLt x c (S.cl_old I2 e);omega)) fun p hp=>neN (by
          have:=ltN (I2.pin p hp).1;omega)
  exact codeAny_compStart_list (loop _ rfl) (Tn.self _ _ _ _ _ (Tn.keep _ _ _ st2 fun b _ o e=>old b o e) (loop _ rfl))
end
end L2
namespace L2
open PySem PySem.Spec PyProof.Rows
section
variable {X:Cx} {scope:Scope} {T:List Str} {elt target iter:Expr} {ifs:List Expr} {wi:TI} {g:TG} {tc:TT} {te:TE}
theorem a36 (T:List Str) {pos:Pos} (S:CompScope X scope) (hc:X.calm=true) (hi:PI X target iter wi) (hg:∀ C fp s₀ H₀,PG (X.comp scope T C fp s₀ H₀) target g) (hgo:ajw g X.N.length T.length)
    (hf:∀ C fp s₀ H₀,PF (X.comp scope T C fp s₀ H₀) ifs tc) (he:∀ C fp s₀ H₀,PE (X.comp scope T C fp s₀ H₀) elt te)
    (hs:∀ x,foldedSetIterable iter X.env x=pure x:=by intro _;rfl):PE X (.ListComp elt [⟨target,iter,ifs,0⟩] scope pos) (tLC T.length wi g tc te):=by
  intro pins s σ H Q I h
  rw [eval_ListComp]
  refine wpAny_comprehension_free (use:=none) rfl hs (S.clo I) S.kind S.names (thn (hi pins s σ H _ I h) fun v s1 h1=>thn h1 fun itv s2 h2=>?_)
  refine ahd (RR:=fun acc C=>compPost (model X.prog X.w) X.A X.xe none (EP X pins σ Q) acc C) S hc hg hgo hf he h2 ?_
  intro D C s' H' m' I' f' hn q
  exact ⟨m',hn,fun h' hs'=>⟨.ref D,H',I'.turned (t':=s'.toks) (it:=C) (fun b o hb e=>(hs'.2 b hb).trans e) f'.1 (Ne.symm (Ne.symm f'.2.1)) f'.2.2.2.1 f'.2.2.2.2.1 f'.2.2.2.2.2,rfl,q⟩⟩
theorem asx (T:List Str) {i:Nat} {x:Str} {px lp pos:Pos} (hN:X.N.Nodup) (hix:X.N[i]?=some x) (hx:Loc X.env.scope x) (S:CompScope X scope) (hc:X.calm=true) (hi:PI X target iter wi)
    (hg:∀ C fp s₀ H₀,PG (X.comp scope T C fp s₀ H₀) target g) (hgo:ajw g X.N.length T.length)
    (hf:∀ C fp s₀ H₀,PF (X.comp scope T C fp s₀ H₀) ifs tc) (he:∀ C fp s₀ H₀,PE (X.comp scope T C fp s₀ H₀) elt te)
    (hsw:swapsWith (.ListComp elt [⟨target,iter,ifs,0⟩] scope lp) (some (.Name x px)) pos.line X.env=pure true:=by rfl)
    (hfn:X.fn x=true∨X.env.scope.names.lookup x=some .local:=by first | exact .inl rfl | exact .inr rfl | assumption)
    (hs:∀ x,foldedSetIterable iter X.env x=pure x:=by intro _;rfl):PS X (.Assign [.Name x px] (.ListComp elt [⟨target,iter,ifs,0⟩] scope lp) pos) (a04 (tLC T.length wi g tc te) (abp i)):=by
  intro pins s σ H D I h
  rw [exec_Assign_Name_used _ _ _ _ hsw]
  refine wpAny_bind (wpAny_standAt (wpAny_bind ?_))
  show wpAny _ X.A (do let _ ← comprehension (.ListComp elt [⟨target,iter,ifs,0⟩] scope lp) scope X.env _ (newList []) false (eval iter X.env) (some (assign (.Name x px) X.env))) _ _ s
  refine wpAny_bind (wpAny_mono (wpAny_comprehension_free (use:=some (assign (.Name x px) X.env)) (Q:=fun _ s'=>SP X pins D .next s') rfl hs (S.clo I) S.kind S.names
    (thn (hi pins s σ H _ I h) fun v s1 h1=>thn h1 fun itv s2 h2=>?_)) (fun _ s' hq=>wpAny_pure (wpAny_pure hq)) fun _ _ e=>e)
  refine ahd (RR:=fun acc C=>compPost (model X.prog X.w) X.A X.xe (some (assign (.Name x px) X.env)) (fun _ s'=>SP X pins D .next s') acc C) (pins:=pins) (σ:=σ) (Q:=fun x H1=>abp i x σ H1 D.nx) S hc hg hgo hf he h2 ?_
  intro A C s' H' m' I' f' hn q
  show wpAny _ X.A (assign (.Name x px) X.env (.ref A)) _ _ s'
  refine wpAny_assign_Name (ajl I' hN hix hx (v:=.ref A) rfl (fun s'' I'' ⟨a,hs,ha⟩ _=>?_) hfn)
  have hCa:C≠a:=by
    rcases ha with z | z
    · rw [z];exact f'.2.1
    · exact fun e=>f'.2.2.2.2.1 x a z e.symm
  exact ⟨m',hn.sameBut hs hCa,fun h' hs'=>⟨_,H',I''.turned (t':=s''.toks) (it:=C) (fun b o hb e=>(hs'.2 b hb).trans e) f'.1 f'.2.1 f'.2.2.2.1 f'.2.2.2.2.1 f'.2.2.2.2.2,q⟩⟩
end
def compOk (outer:Scope) (N:List Str) (sc:Scope):Bool:=
  decide (sc.kind=.function)&&sc.names.all (fun p=>decide (p.2≠.cell)&&(decide (p.2≠.local)||decide (sc.names.lookup p.1=some .local))&&(decide (p.2≠.free)||(decide (outer.names.lookup p.1=some .cell)||decide (outer.names.lookup p.1=some .free))))
    && N.all (fun x=>decide (sc.names.lookup x≠some .local))
theorem compOk.mk {X:Cx} {sc:Scope} (h:compOk X.env.scope X.N sc=true):CompScope X sc:=by
  unfold compOk at h
  rw [Bool.and_eq_true,Bool.and_eq_true,List.all_eq_true,List.all_eq_true] at h
  obtain ⟨⟨h1,h2⟩,h3⟩:=h
  have fm:∀ n,(n,NameKind.free)∈sc.names→X.env.kindOf n=some .cell∨X.env.kindOf n=some .free:=fun n hn=>by
    have q:=h2 _ hn
    simp only [Bool.and_eq_true,Bool.or_eq_true,decide_eq_true_eq] at q
    rcases q.2 with z | z
    · exact absurd rfl z
    · exact z
  refine ⟨of_decide_eq_true h1,fun y hy=>?_,fun y hy e=>?_,fun n hn=>fm n (PySem.mem_of_lookup hn),fm,fun x hx=>of_decide_eq_true (h3 x hx)⟩
  · have q:=h2 _ hy
    simp only [Bool.and_eq_true,Bool.or_eq_true,decide_eq_true_eq] at q
    exact q.1.1
  · have q:=h2 _ hy
    simp only [Bool.and_eq_true,Bool.or_eq_true,decide_eq_true_eq] at q
    rcases q.1.2 with z | z
    · exact absurd e z
    · exact z
theorem aoi (n:Nat):ajw (abp n) n 1:=by
  intro σ hl x H Q h
  refine ⟨⟨by simp [hl],fun i v e=>?_⟩,h⟩
  by_cases hi:i=n
  · subst hi
    rw [List.getElem?_append_right (by omega)] at e
    simp [hl] at e
  · rw [List.getElem?_set_ne (Ne.symm hi)];exact e
end L2
namespace L2
open PySem PySem.Spec PyProof.Rows
theorem acs:bootBuiltins "isinstance" = some (.builtin "isinstance"):=by decide +kernel
theorem ahv:bootBuiltins "tuple" = some (.type "tuple"):=by decide +kernel
theorem a11:bootBuiltins "int" = some (.type "int"):=by decide +kernel
theorem ags:bootBuiltins "list" = some (.type "list"):=by decide +kernel
theorem jp:bootBuiltins "len" = some (.builtin "len"):=by decide +kernel
theorem huK {A:Around} {k:Nat} (hr:Room k A):A.units+128<cLine:=by have:=hr.un;omega
theorem abh {n:Nat} (h:n≤1000):n≤sizeLine:=Nat.le_of_lt (acn h)
theorem Cal.of {P:Program} {w:World} {K:PySem.W.Frag} {mg:Str→Option Value} {base:Heap} {k:Nat} {x:Str} {ps:List Str} {sp:Sp} {f:Addr} {fd:FuncData} (F:FnOk P w K mg base CX0 k f fd ps sp) (b:Binds K fd ps []) (kp:PySem.W.keepIn K (.ref f)=true) (m:mg x=some (.ref f)):
    Cal P w K mg base k x ps sp:=⟨f,fd,F,b,kp,m⟩
theorem FnOk.never {P:Program} {w:World} {K:PySem.W.Frag} {mg:Str→Option Value} {base:Heap} {k:Nat} {ps:List Str} {sp:Sp} {f:Addr} {fd:FuncData} (no:∀ vs H Q E,¬ sp vs H Q E):FnOk P w K mg base CX0 k f fd ps sp:=
  ⟨fun vs H Q E h=>absurd h (no vs H Q E),fun A outer s H args us vs Q E _ _ _ _ h=>absurd h (no vs H Q E)⟩
section
variable {X:Cx} (K:PySem.W.Frag) (P:Program) (w:World)
end
end L2
namespace L2
open PySem PySem.Spec PyProof.Rows
structure DefIn (K:PySem.W.Frag) (x:Str) (st:Stmt):Prop where
  ex:∃ (f:Addr) (kV doc pm:Value) (an:Option Addr) (cdv ct:Value),PySem.W.nsIn K mainGlobals x=some (some (.ref f))∧Fun K x x st f (PySem.W.fnOf x x (jv st) (qr st) (qa st) .none kV doc pm an cdv ct)
theorem def_in {K:PySem.W.Frag} {x:Str} {st:Stmt} {f:Addr} {oc:Value} {od an:Option Addr} {osl:Array (Option Value)} {kV doc pm cdv ct:Value} (a:PySem.W.nsIn K mainGlobals x=some (some (.ref f)))
    (l:K.lookup f=some ⟨oc,od,.func (PySem.W.fnOf x x (jv st) (qr st) (qa st) .none kV doc pm an cdv ct),osl⟩) (c:PySem.W.codeIn K cdv x=true) (k:PySem.W.keepIn K (.ref f)=true):DefIn K x st:=
  ⟨f,kV,doc,pm,an,cdv,ct,a,av0 (st:=st) l c k⟩
theorem DefIn.use {K:PySem.W.Frag} {x:Str} {st:Stmt} {ps:List Str} {h:Heap} {mg:Str→Option Value} (D:DefIn K x st) (X:K.In h) (G:h.Ns mainGlobals mg)
    (hb:∀ (kV doc pm:Value) (an:Option Addr) (cdv ct:Value) (us:List Value),us.length=ps.length→bindArgs (PySem.W.fnOf x x (jv st) (qr st) (qa st) .none kV doc pm an cdv ct) ⟨us,[]⟩=pure (ps.zip us)):
    ∃ f fd,Fun K x x st f fd∧Binds K fd ps []∧mg x=some (.ref f):=by
  obtain ⟨f,kV,doc,pm,an,cdv,ct,a,F⟩:=D.ex
  exact ⟨f,_,F,Binds.all (hb kV doc pm an cdv ct),PySem.W.mg_of X G a⟩
def apl (w:World) (r:Str×Tok×Str×Tok):DictEntry:=⟨hashStr w r.1,.str r.1 r.2.1,.str r.2.2.1 r.2.2.2⟩
theorem a38 {K:PySem.W.Frag} {P:Program} {w:World} {c:Addr} {ep:Nat} (rows:List (Str×Tok×Str×Tok)) (l:K.lookup c=some ⟨.type "dict",none,.dict (rows.map (apl w)).toArray ep,#[]⟩) (hs:(c==sysModules)=false) (hz:rows.length≤1000) (nd:(rows.map fun r=>(Sum.inr r.1:Key)).Nodup):
    KD K P w c (rows.map fun r=>(Sum.inr r.1,.str r.2.2.1)):=by
  refine ⟨hs,by rw [List.length_map];exact abh hz,fun h X=>⟨rows.map fun r=>(Sum.inr r.1,.str r.2.2.1 r.2.2.2),?_,_,_,ep,X c _ l,⟨rfl,rfl,rfl⟩,rfl,?_,?_,?_⟩⟩
  · unfold KV
    clear l hz nd
    induction rows with
    | nil=>exact .nil
    | cons r t ih=>exact .cons ⟨rfl,_,rfl⟩ ih
  · intro e he
    have he':e∈rows.map (apl w):=by simpa using he
    obtain ⟨r,_,rfl⟩:=List.mem_map.mp he'
    exact ⟨Sum.inr r.1,af4 r.1 r.2.1,rfl⟩
  · show Pairs _ (rows.map (apl w)).toArray.toList _
    rw [List.toList_toArray]
    clear l hz nd
    induction rows with
    | nil=>exact .nil
    | cons r t ih=>exact .cons (af4 r.1 r.2.1) rfl ih
  · rw [List.map_map];exact nd
end L2
namespace Words
open PySem L2
inductive Wd where
  | leaf (t:Bool) (n:Str)
  | node (e:Bool) (l r:Wd)
def kL:Bool→Str
  | false => "plain"
  | true => "turned"
def kN:Bool→Str
  | false => "both"
  | true => "either"
def Wd.turn:Wd→Wd
  | .leaf t n=>.leaf (!t) n
  | .node e l r=>.node (!e) l.turn r.turn
def Wd.depth:Wd→Nat
  | .leaf _ _=>1
  | .node _ l r=>max l.depth r.depth+1
def Wd.leaves:Wd→Nat
  | .leaf _ _=>1
  | .node _ l r=>l.leaves+r.leaves
theorem Wd.leaves_pos:∀ w:Wd,1≤w.leaves
  | .leaf _ _=>Nat.le_refl _
  | .node _ l r=>by have:=Wd.leaves_pos l;show 1≤l.leaves+r.leaves;omega
theorem Wd.depth_le:∀ w:Wd,w.depth≤w.leaves
  | .leaf _ _=>Nat.le_refl _
  | .node _ l r=>by
    have:=Wd.depth_le l;have:=Wd.depth_le r;have:=Wd.leaves_pos l;have:=Wd.leaves_pos r
    show max l.depth r.depth+1≤l.leaves+r.leaves;omega
def enc:Wd→Da
  | .leaf t n=>.tup [.s (.str (kL t)),.s (.str n)]
  | .node e l r=>.tup [.s (.str (kN e)),enc l,enc r]
theorem ahh:∀ w:Wd,Da.eq (enc w) (enc w)=true
  | .leaf t n=>by simp [enc,Da.eq,Da.eqs,eqV]
  | .node e l r=>by simp [enc,Da.eq,Da.eqs,eqV,ahh l,ahh r]
theorem Paired.getP {α β:Type} {F:α→β→Prop}:∀ {xs:List α} {ys:List β} {i:Nat} {x:α},Paired F xs ys→xs[i]?=some x→∃ y,ys[i]?=some y∧F x y
  | _,_,_,_,.nil,h=>by simp at h
  | _,_,0,_,.cons (b:=y) r _,h=>by simp at h;subst h;exact ⟨y,rfl,r⟩
  | _,_,i+1,_,.cons _ t,h=>by
    obtain ⟨y,e,q⟩:=Paired.getP (i:=i) t (by simpa using h)
    exact ⟨y,by simpa using e,q⟩
end Words
namespace L2
open PySem PySem.Spec PyProof.Rows
section
variable {X:Cx} {pins:List (Addr×Obj)} {σ:St} {H:Hp} {s:Shared}
theorem aqn {A:Around} {n m:Nat} {a b:Addr} {xs ys:List V} {ds es:List Da} (I:Inv X pins σ H s) (hu:A.units<cLine) (sx:SqT X.K H a xs) (sy:SqT X.K H b ys) (px:Paired (xi X.K H n) xs ds) (py:Paired (xi X.K H m) ys es)
    (ih:∀ {x y:V} {d e:Da} {u v:Value},xi X.K H n x d→xi X.K H m y e→RelV x u→RelV y v→SeqAt.EqAt A.in1 s u v (Da.eq d e)):SeqAt.RcNeAt A s (.ref a) (.ref b) (!Da.eqs ds es):=by
  obtain ⟨us,vx,tx,_⟩:=I.tuple sx
  obtain ⟨vs,vy,ty,_⟩:=I.tuple sy
  have q:=SeqAt.RcNeAt.tuples tx ty hu (ae3 px py vx vy ih)
  rw [List.size_toArray,List.size_toArray,← vx.length,← vy.length,px.length,py.length,Da.eqs_range] at q
  exact q
theorem atm {A:Around} {n m:Nat} {a b:Addr} {xs ys:List V} {ds es:List Da} (I:Inv X pins σ H s) (hu:A.units<cLine) (sx:SqL X.K H a xs) (sy:SqL X.K H b ys) (px:Paired (xi X.K H n) xs ds) (py:Paired (xi X.K H m) ys es)
    (ih:∀ {x y:V} {d e:Da} {u v:Value},xi X.K H n x d→xi X.K H m y e→RelV x u→RelV y v→SeqAt.EqAt A.in1 s u v (Da.eq d e)):SeqAt.RcNeAt A s (.ref a) (.ref b) (!Da.eqs ds es):=by
  obtain ⟨us,vx,tx,_⟩:=I.list sx
  obtain ⟨vs,vy,ty,_⟩:=I.list sy
  by_cases hz:us.toArray.size=vs.toArray.size
  · have q:=SeqAt.RcNeAt.lists (zf tx) (zf ty) hz hu (ae3 px py vx vy ih)
    have hz':ds.length=es.length:=by rw [← px.length,← py.length,vx.length,vy.length];simpa using hz
    have e:=Da.eqs_range ds es
    rw [hz',Nat.min_self] at e
    rw [← hz'] at e
    rw [List.size_toArray,← vx.length,px.length] at q
    simp only [beq_self_eq_true,Bool.and_true] at e
    rw [e] at q
    exact q
  · have q:=SeqAt.RcNeAt.lists_lengths (zf tx) (zf ty) (by simpa using hz) hu
    have hz':ds.length≠es.length:=by
      rw [← px.length,← py.length,vx.length,vy.length]
      intro z;exact hz (by simpa using z)
    have e:=Da.eqs_range ds es
    have f:(ds.length==es.length)=false:=by simpa using hz'
    rw [f,Bool.and_false] at e
    rw [← e]
    exact q
end
section
variable {X:Cx}
def uNe (K:PySem.W.Frag) (k:Nat):R2:=fun x y H Q=>match x,y with
  | .ref a,.ref b=>∃ n m d e,n≤k∧xi K H n (.ref a) d∧xi K H m (.ref b) e∧Q (.bl (!Da.eq d e)) H
  | x,y=>awn x y=true∧Q (.bl (!decide (x=y))) H
theorem a0l {k:Nat} (hu:X.A.units+k<cLine):OpR X (compareOp .NotEq) (uNe X.K k):=by
  intro pins s σ H x y v u Q I rx ry h
  cases x with
  | ref a=>
    cases y with
    | ref b=>
      obtain ⟨n,m,d,e,hn,h1,h2,q⟩:=h
      cases rx;cases ry
      have fin:∀ {k:Bool},k=(!Da.eq d e)→SeqAt.RcNeAt X.A s (.ref a) (.ref b) k→wpAny (model X.prog X.w) X.A (compareOp .NotEq (.ref a) (.ref b)) (EP X pins σ Q) X.xe s:=fun {k} e' r=>
        r X.prog X.w X.xe (EP X pins σ Q) (by rw [e'];exact ⟨.bl _,H,I,rfl,q⟩)
      cases n with
      | zero=>exact (ze h1.2).elim
      | succ n=>
        cases m with
        | zero=>exact (ze h2.2).elim
        | succ m=>
          have hin:X.A.in1.units+n<cLine:=by show X.A.units+1+n<cLine;omega
          rcases h1 with ⟨_,f⟩ | ⟨a',xs,ds,e1,rfl,sx,px⟩ | ⟨a',xs,ds,e1,rfl,sx,px⟩
          · exact (ze f).elim
          · cases e1
            rcases h2 with ⟨_,f⟩ | ⟨b',ys,es,e2,rfl,sy,py⟩ | ⟨b',ys,es,e2,rfl,sy,py⟩
            · exact (ze f).elim
            · cases e2
              exact fin rfl (aqn I (by omega) sx sy px py fun h1 h2 r1 r2=>aid I n hin h1 h2 r1 r2)
            · cases e2
              obtain ⟨us,vx,tx,_⟩:=I.tuple sx
              obtain ⟨vs,vy,ty,_⟩:=I.list sy
              exact fin rfl (.tuple_list tx (zf ty) (by omega))
          · cases e1
            rcases h2 with ⟨_,f⟩ | ⟨b',ys,es,e2,rfl,sy,py⟩ | ⟨b',ys,es,e2,rfl,sy,py⟩
            · exact (ze f).elim
            · cases e2
              obtain ⟨us,vx,tx,_⟩:=I.list sx
              obtain ⟨vs,vy,ty,_⟩:=I.tuple sy
              exact fin rfl (.list_tuple (zf tx) ty (by omega))
            · cases e2
              exact fin rfl (atm I (by omega) sx sy px py fun h1 h2 r1 r2=>aid I n hin h1 h2 r1 r2)
    | _=>exact az5 pins s σ H _ _ v u Q I rx ry h
  | _=>cases y<;>exact az5 pins s σ H _ _ v u Q I rx ry h
end
theorem anw:bootBuiltins "max" = some (.builtin "max"):=by decide +kernel
end L2
namespace Words
open PySem L2
def Wd.leafL:Wd→List Wd
  | .leaf t n=>[.leaf t n]
  | .node _ l r=>l.leafL++r.leafL
def Wd.size:Wd→Nat
  | .leaf _ _=>1
  | .node _ l r=>1+l.size+r.size
theorem Wd.size_pos:∀ w:Wd,1≤w.size
  | .leaf _ _=>Nat.le_refl _
  | .node _ l r=>by show 1≤1+l.size+r.size;omega
theorem Wd.size_eq:∀ w:Wd,w.size+1=2*w.leaves
  | .leaf _ _=>rfl
  | .node _ l r=>by
    have:=Wd.size_eq l;have:=Wd.size_eq r
    show 1+l.size+r.size+1=2*(l.leaves+r.leaves);omega
theorem Wd.leafL_len:∀ w:Wd,w.leafL.length=w.leaves
  | .leaf _ _=>rfl
  | .node _ l r=>by show (l.leafL++r.leafL).length=l.leaves+r.leaves;rw [List.length_append,Wd.leafL_len l,Wd.leafL_len r]
theorem Wd.leafL_leaf:∀ {w:Wd} {x:Wd},x∈w.leafL→∃ t n,x=.leaf t n
  | .leaf t n,x,h=>⟨t,n,List.mem_singleton.mp h⟩
  | .node _ l r,x,h=>by
    rcases List.mem_append.mp h with h | h
    · exact Wd.leafL_leaf h
    · exact Wd.leafL_leaf h
theorem ajp:∀ ws:List Wd,Da.eqs (ws.map enc) (ws.map enc)=true
  | []=>rfl
  | w::r=>by rw [List.map_cons,Da.eqs,ahh,ajp r];rfl
end Words
namespace L2
open PySem PySem.Spec PyProof.Rows
theorem ObjOk.get {P:Program} {w:World} {H:Hp} {h:Heap} {a:Addr} {o:HO} (x:ObjOk P w H h a o):∃ ob,h.get? a=some ob:=by
  cases o with
  | lst xs=>obtain ⟨_,_,_,_,e⟩:=x;exact ⟨_,e⟩
  | tup xs=>obtain ⟨_,_,_,_,e,_⟩:=x;exact ⟨_,e⟩
  | dK kvs=>obtain ⟨_,_,_,_,o,_,_,e,_⟩:=x;exact ⟨_,e⟩
  | dT kvs=>obtain ⟨_,_,_,_,o,_,_,e,_⟩:=x;exact ⟨_,e⟩
  | set S n=>obtain ⟨o,_,_,_,e,_⟩:=x;exact ⟨_,e⟩
  | ins C dx fs=>obtain ⟨_,_,_,e,_⟩:=x;exact ⟨_,e⟩
  | own y=>exact x
  | xd fs=>obtain ⟨_,⟨_,_,_,e,_⟩,_⟩:=x;exact ⟨_,e⟩
  | rng lo hi=>obtain ⟨_,_,_,e⟩:=x;exact ⟨_,e⟩
  | frz ob u=>obtain ⟨e,_⟩:=x;exact ⟨_,e⟩
  | tbl ps=>exact ⟨_,show h.get? a=some _ from x⟩
  | met f y=>exact ⟨_,show h.get? a=some _ from x⟩
  | ext φ=>obtain ⟨_,e,_⟩:=x;exact e
def akq (h0 h:Heap) (H:Hp) (a C:Addr) (tr:Option Addr):Prop:=
  h0.get? a=none∧H a=none∧∃ oe vs a0,h.get? a=some oe∧oe.cls=.ref C∧oe.data=.fields vs∧vs[0]?=some a0∧
    match tr with
    | none=>vs[1]?=some .none
    | some T=>vs[1]?=some (.ref T)∧h0.get? T=none∧H T=none∧T≠a∧∃ oT ts,h.get? T=some oT∧oT.data=.fields ts∧ts[3]?=some .none
def wl (a:Addr) (tr:Option Addr) (fs:List Addr):List Addr:=a::(tr.toList++fs)
section
variable {X:Cx} {pins:List (Addr×Obj)} {σ:St} {H:Hp} {s:Shared} {a C:Addr} {tr:Option Addr}
theorem agw {l:List Env} {env:Env} {b:Addr} (h:env∈l) (e:env.frame=some b):b∈frs l:=List.mem_filterMap.mpr ⟨env,h,e⟩
theorem agz (I:Inv X pins σ H s) (hs:X.stack=X.env::X.outer) (hx:X.ex=[]) (new:X.s₀.heap.get? a=none) (free:H a=none) (newT:∀ T,tr=some T→X.s₀.heap.get? T=none∧H T=none) {a0 fl:Value} {h':Heap}
    (k1:(PySem.W.hideAll s.heap (wl a tr (frs X.stack))).StaysIn h') (k2:h'.FunFrames (PySem.W.hideAll s.heap (wl a tr (frs X.stack))) X.stack) (k3:h'.TracedAtW (PySem.W.hideAll s.heap (wl a tr (frs X.stack))) a (.ref C) a0 fl)
    (k4:∀ b o,s.heap.get? b=some o→(∀ vs,o.data≠.fields vs)→∃ sl,h'.get? b=some { o with slots:=sl }):
    Un X.fs [] X.H₀ H X.s₀.heap h'∧HOk X.prog X.w H h'∧∃ T,(∀ b o,s.heap.get? b=some o→(∀ T0,tr=some T0→b≠T0)→b≠T)∧X.s₀.heap.get? T=none∧H T=none∧T≠a∧∃ oe vs oT ts,h'.get? a=some oe∧oe.cls=.ref C∧vs[0]?=some a0∧oe.data=.fields vs∧vs[1]?=some (.ref T)∧h'.get? T=some oT∧oT.data=.fields ts∧ts[3]?=some fl:=by
  have kp:∀ b o,s.heap.get? b=some o→b∉wl a tr (frs X.stack)→h'.get? b=some o:=fun b o e n=>k1 b o (PySem.W.hideAll_get _ e n)
  have sl:∀ b o,s.heap.get? b=some o→b∈frs X.stack→∃ sl,h'.get? b=some { o with slots:=sl }:=fun b o e hb=>by
    obtain ⟨_,o',e',nf⟩:=I.stack.mem hb
    rw [e] at e';cases e'
    exact k4 b o e nf
  have hidN:∀ b,b∈wl a tr (frs X.stack)→H b=none:=fun b hb=>by
    rcases List.mem_cons.mp hb with e | hb
    · rw [e];exact free
    · rcases List.mem_append.mp hb with q | q
      · exact (newT b (by simpa using q)).2
      · exact I.stkFree b q
  have notHid:∀ b o,X.s₀.heap.get? b=some o→b∉X.fs→b∉wl a tr (frs X.stack):=fun b o e nb hb=>by
    rcases List.mem_cons.mp hb with q | hb
    · rw [q,new] at e;cases e
    · rcases List.mem_append.mp hb with q | q
      · rw [(newT b (by simpa using q)).1] at e;cases e
      · rcases List.mem_cons.mp (I.stkSub b q) with q | q
        · exact absurd (Nat.lt_of_lt_of_le (Heap.lt_size e) I.ok.above) (by rw [q];exact Nat.lt_irrefl _)
        · exact nb q
  have fsub:∀ b,b∈X.fs→b∈frs X.stack:=fun b hb=>by
    rw [hs]
    unfold frs
    rw [List.filterMap_cons]
    split
    · exact hb
    · exact List.mem_cons_of_mem _ hb
  have noex:∀ b:Addr,b∉X.ex:=fun b=>by rw [hx];simp
  have hokk:HOk X.prog X.w H h':=fun b u e=>(I.hok b u e).stay (fun c w' hc q=>kp c w' q fun hm=>by
      have n:=hidN c hm
      rcases hc with z | z
      · rw [z,e] at n;cases n
      · rw [z] at n;cases n) (fun _ q=>q) fun _ _ q=>q
  refine ⟨⟨fun b o e n hb _=>?_,fun b o e n hb _=>?_,fun b o e n _=>I.base.free b o e n (noex b),fun b o e _=>?_,I.base.tups,I.base.frzs,I.base.tbls⟩,hokk,?_⟩
  · exact kp b o (I.base.keep b o e n hb (noex b)) (notHid b o e hb)
  · obtain ⟨z,e1⟩:=I.base.slot b o e n hb (noex b)
    obtain ⟨z',e2⟩:=sl b _ e1 (fsub b hb)
    exact ⟨z',e2⟩
  · obtain ⟨o',e1⟩:=I.base.there b o e (noex b)
    by_cases hb:b∈X.fs
    · obtain ⟨z',e2⟩:=sl b _ e1 (fsub b hb)
      exact ⟨_,e2⟩
    · exact ⟨o',kp b o' e1 (notHid b o e hb)⟩
  · obtain ⟨oe',vs',T,oT,ts,he',⟨hc',h0'⟩,hd',h1',hnT,hTa,hT,hdT,h3⟩:=k3
    have inn:∀ o,s.heap.get? T=some o→T∈wl a tr (frs X.stack):=fun o e=>by
      by_cases q:T∈wl a tr (frs X.stack)
      · exact q
      · rw [PySem.W.hideAll_get _ e q] at hnT;cases hnT
    have nfr:T∉frs X.stack:=fun hb=>by
      obtain ⟨_,o',e',nf⟩:=k2.mem hb
      rw [hT] at e';cases e'
      exact nf ts hdT
    refine ⟨T,fun b o e ne z=>?_,?_,?_,hTa,oe',vs',oT,ts,he',hc',h0',hd',h1',hT,hdT,h3⟩
    · subst z
      rcases List.mem_cons.mp (inn o e) with z | z
      · exact hTa z
      · rcases List.mem_append.mp z with z | z
        · exact ne b (by simpa using z) rfl
        · exact nfr z
    · cases q:X.s₀.heap.get? T with
      | none=>rfl
      | some o=>
        obtain ⟨o',e1⟩:=I.base.there T o q (noex T)
        rcases List.mem_cons.mp (inn o' e1) with z | z
        · exact absurd z hTa
        · rcases List.mem_append.mp z with z | z
          · rw [(newT T (by simpa using z)).1] at q;cases q
          · exact absurd z nfr
    · cases q:H T with
      | none=>rfl
      | some u=>
        obtain ⟨o',e1⟩:=(I.hok T u q).get
        have:=hidN T (inn o' e1)
        rw [q] at this;cases this
theorem atc {M:Model} {Q:Unit→Shared→Prop} {E:Value→Shared→Prop} (I:Inv X pins σ H s) (hs:X.stack=X.env::X.outer) (hf:X.env.frame=some X.env.locals) (hx:X.ex=[]) (L:akq X.s₀.heap s.heap H a C tr)
    (h:∀ h' T,Un X.fs [] X.H₀ H X.s₀.heap h'→HOk X.prog X.w H h'→akq X.s₀.heap h' H a C (some T)→Q () { s with heap:=h' }):wpAny M X.A (leaving X.env (.ref a)) Q E s:=by
  have L0:=L
  obtain ⟨new,free,oe,vs,b0,he,hc,hd,h0,htr⟩:=L0
  have fr:s.heap.FunFrames (PySem.W.hideAll s.heap (wl a tr (frs X.stack))) X.stack:=PySem.W.funFrames_hide I.stack fun env he b hb=>List.mem_cons_of_mem _ (List.mem_append_right _ (agw he hb))
  have st:(PySem.W.hideAll s.heap (wl a tr (frs X.stack))).StaysIn s.heap:=fun b o e=>PySem.W.of_hideAll _ e
  have na:(PySem.W.hideAll s.heap (wl a tr (frs X.stack))).get? a=none:=PySem.W.hideAll_none _ List.mem_cons_self
  have hfr:X.A.frames=some (X.env::X.outer):=by rw [← hs];exact I.ok.frames
  have go:∀ h',Heap.LeftW (PySem.W.hideAll s.heap (wl a tr (frs X.stack))) (X.env::X.outer) a (.ref C) b0 s.heap h'→Q () { s with heap:=h' }:=fun h' ⟨k1,k2,k3,k4⟩=>by
    obtain ⟨u,hok,T,_,n1,n2,ne,oe',vs',oT,ts,e1,e2,e3,e4,e5,e6,e7,e8⟩:=agz I hs hx new free (by intro T e;subst e;exact ⟨htr.2.1,htr.2.2.1⟩) k1 (by rw [hs];rw [hs] at k2;exact k2) k3.at k4
    exact h h' T u hok ⟨new,free,oe',vs',b0,e1,e2,e4,e3,e5,n1,n2,ne,oT,ts,e6,e7,e8⟩
  have nT:∀ T,tr=some T→(PySem.W.hideAll s.heap (wl a tr (frs X.stack))).get? T=none:=fun T e=>by subst e;exact PySem.W.hideAll_none _ (List.mem_cons_of_mem _ (List.mem_append_left _ (by simp)))
  generalize PySem.W.hideAll s.heap (wl a tr (frs X.stack))=base at fr st na go nT
  rw [hs] at fr
  cases tr with
  | none=>exact wpAny_leaving_firstW hfr fr hf he st na hd htr h0 (by rw [hc];exact go)
  | some T=>
    obtain ⟨h1,_,_,hTa,oT,ts,hT,hdT,h3⟩:=htr
    exact wpAny_leaving_nextW hfr fr hf ⟨oe,vs,T,oT,ts,he,⟨hc,h0⟩,hd,h1,nT T rfl,hTa,hT,hdT,h3⟩ st na go
end
end L2
namespace L2
open PySem PySem.Spec PyProof.Rows
def CXE (P:Program) (w:World):CXT:=fun outer H s E e s'=>∃ a C T H',e=.ref a∧s'.os=s.os∧AllBare s'.gens∧Un (frs outer) [] H H' s.heap s'.heap∧HOk P w H' s'.heap∧akq s.heap s'.heap H' a C (some T)∧E (.ref C) none H'∧0<s'.toks
def ams (X:Cx) (a:Addr):Prop:=a≠X.env.locals∧(∀ x c,X.env.cells.lookup x=some c→c≠a)∧∀ p∈X.pn,p.1≠a
abbrev X1:=St→Value→Hp→Prop
def Takes (X:Cx) (E1:X1):Prop:=∀ (pins:List (Addr×Obj)) (σ:St) (H:Hp) (s:Shared) (a C:Addr) (tr:Option Addr),Inv X pins σ H s→akq X.s₀.heap s.heap H a C tr→ams X a→(∀ T,tr=some T→ams X T)→E1 σ (.ref C) H→X.xe (.ref a) s
section
variable {X:Cx} {pins:List (Addr×Obj)} {σ:St} {H H':Hp} {s s':Shared} {a b C T:Addr} {tr:Option Addr} {E1:X1}
theorem Inv.apart (I:Inv X pins σ H s) (h:s.heap.get? b=none):ams X b:=by
  refine ⟨fun e=>?_,fun x c e z=>?_,fun p hp z=>?_⟩
  · obtain ⟨m,⟨o,_,_,ho,_⟩,_⟩:=I.loc
    rw [← e,h] at ho;cases ho
  · obtain ⟨v,o,ho,_⟩:=I.cell x c e
    rw [z,h] at ho;cases ho
  · obtain ⟨e,_⟩:=I.pin p (List.mem_append_left _ hp)
    rw [z,h] at e;cases e
theorem Inv.news (I:Inv X pins σ H s) (hx:X.ex=[]) (h:s.heap.get? b=none):X.s₀.heap.get? b=none:=by
  cases q:X.s₀.heap.get? b with
  | none=>rfl
  | some o=>
    obtain ⟨o',e⟩:=I.base.there b o q (by rw [hx];simp)
    rw [h] at e;cases e
theorem Takes.pass (t:Takes X E1) (hx:X.ex=[]) {e:Value} (I:Inv X pins σ H s) (h:CXE X.prog X.w X.stack H s (fun c _ H'=>E1 σ c H') e s'):X.xe e s':=by
  obtain ⟨a,C,T,H',rfl,ho,hg,u,hok,⟨new,free,oe,vs,a0,he,hc,hd,h0,h1,nT,fT,rest⟩,q,htk⟩:=h
  have I':Inv X pins σ H' s':=I.call' (ch:=[]) ho u hok hg (fun b z=>absurd z (by simp))
  exact t pins σ H' s' a C (some T) I' ⟨I.news hx new,free,oe,vs,a0,he,hc,hd,h0,h1,I.news hx nT,fT,rest⟩ (I.apart new) (fun T' e=>by cases e;exact I.apart nT) q
theorem ayb {k:Nat} {f:Addr} {fd:FuncData} {ps:List Str} {sp:Sp} {Q:VK} {us:List Value} {vs:List V} (F:FnOk X.prog X.w X.K X.mg X.base (CXE X.prog X.w) k f fd ps sp) (hr:Room k X.A) (hb:Binds X.K fd ps []) (ht:Takes X E1) (hx:X.ex=[])
    (I:Inv X pins σ H s) (r:Vals vs us) (h:sp vs H Q (fun c _ H'=>E1 σ c H')):wpAny (model X.prog X.w) X.A (call (.ref f) us) (EP X pins σ Q) X.xe s:=by
  have hl:(us++[]).length=ps.length:=by rw [List.append_nil,← r.length];exact F.len _ _ _ _ h
  refine wpAny_call (codeAny_mono (F.run X.A X.stack s H ⟨us,[]⟩ us vs Q _ hr I.env0 (by have:=hb s us I.kIn hl;rw [List.append_nil] at this;exact this) r h) fun r s' hq=>?_)
  cases r with
  | error e=>exact ht.pass hx I hq
  | ok fl=>
    cases fl with
    | ret u=>exact I.after hq
    | next=>exact False.elim hq
    | brk=>exact False.elim hq
    | cont=>exact False.elim hq
end
def azu (sp:Sp) (E1:X1) (t:TA):TE:=fun σ H Q=>t σ H fun vs H1=>sp vs H1 Q fun c _ H'=>E1 σ c H'
section
variable {X:Cx} {k:Nat} {f C:Addr} {fd:FuncData} {ps:List Str} {sp:Sp} {E1:X1} {x:Str} {p pos:Pos} {e:Expr} {es:List Expr} {t:TA}
theorem at1 (F:FnOk X.prog X.w X.K X.mg X.base (CXE X.prog X.w) k f fd ps sp) (hr:Room k X.A) (hg:Gl X x) (hm:X.mg x=some (.ref f)) (hk:PySem.W.keepIn X.K (.ref f)=true) (hb:Binds X.K fd ps []) (ht:Takes X E1) (hx:X.ex=[])
    (ha:PA X (e::es) t) (hdb:(x==("__debug__" : Str))=false:=by decide) (he:starEach (e::es) X.env=(false,eval e X.env)::starEach es X.env:=by rfl) (hpl:(backTo pos (starEach es X.env)).any (·.1)=false:=by rfl):
    PE X (.Call (.Name x p) (e::es) [] pos) (azu sp E1 t):=by
  intro pins s σ H Q I h
  refine wpAny_Call_Name_kw (acl I hg hm ?_ hdb)
  refine PySem.W.callWith_K (h₀:=X.base) I.ok.mod.kin hk (thn (ha pos pins s σ H _ I h) fun us s1 ⟨vs,H1,I1,r,q⟩=>⟨I1.kIn,?_⟩) he hpl
  exact ayb F hr hb ht hx I1 r q
end
theorem avi {P:Program} {w:World} {K:PySem.W.Frag} {mg:Str→Option Value} {base:Heap} {N:List Str} {qual:Str} {scope:Scope} {f:Addr} {cd:Value} {A:Around} {outer:List Env} {s:Shared} {H:Hp} {E:XK}:
    Takes (jb (CXE P w) P w K mg base N qual scope f cd A outer s H E) fun _ c H'=>E c none H':=by
  intro pins σ H' s' a C tr I L _ _ q
  refine atc (X:=jb (CXE P w) P w K mg base N qual scope f cd A outer s H E) I rfl rfl rfl L fun h' T u hok L'=>?_
  exact ⟨a,C,T,H',rfl,I.os,I.bare,u,hok,L',q,I.tk⟩
structure XCls (K:PySem.W.Frag) (C:Addr):Prop where
  ex:∃ (nm q:Str) (N:Addr) (bs bm:List Value) (hdct:Bool) (sn:List Str) (sub:List Value) (ab:Bool) (col:Option Bool) (dd:Option Addr) (k0 k1 k2 k3 k5:Option Value) (B Bn newId nid initId inN:String) (bmB bmN:List Value),
    ExcBaseFacts Bn newId inN bmN∧bmB.contains (.type Bn)=true∧ExcBaseFacts B nid initId bmB∧
    ∀ h,K.In h→h.get? C=some (excClassObj nm q C N bs bm hdct sn sub ab col dd k0 k1 k2 k3 k5 newId)∧(∃ mN,h.Ns N mN∧mN "__init__" = none)∧OwnTail h bmB bm
theorem axp {K:PySem.W.Frag} {C:Addr} {bmB bmN:List Value} {B Bn newId nid initId inN:String} (q:PySem.W.excIn K C bmB newId=true) (Fn:ExcBaseFacts Bn newId inN bmN) (hBn:bmB.contains (.type Bn)=true) (F:ExcBaseFacts B nid initId bmB):XCls K C:=by
  unfold PySem.W.excIn at q
  split at q
  · rename_i dd cd sl ho
    split at q
    · rename_i C' bm k0 k1 k2 k3 n k5 hm hs
      simp only [Bool.and_eq_true,beq_iff_eq,Bool.not_eq_true'] at q
      obtain ⟨⟨⟨⟨⟨rfl,rfl⟩,hdel⟩,ht⟩,hok⟩,hni⟩:=q
      obtain ⟨nm,bs,mro,ns,qn,hd,sn,sub,ab,col,del⟩:=cd
      dsimp only at hm hdel hok hni
      subst hm hdel
      have hsl:sl=#[k0,k1,k2,k3,some (.builtin n),k5]:=by
        obtain ⟨l⟩:=sl
        simp only at hs
        rw [hs]
      subst hsl
      exact ⟨nm,qn,ns,bs,bm,hd,sn,sub,ab,col,dd,k0,k1,k2,k3,k5,B,Bn,n,nid,initId,inN,bmB,bmN,Fn,hBn,F,fun h X=>⟨X _ _ ho,⟨_,.of_isNs (PySem.W.isNs_of_in X hok),PySem.W.nsMap_none_of_in X hok hni⟩,PySem.W.tail_of_in X ht⟩⟩
    · cases q
  · cases q
def a26 (C:Addr) (E1:X1) (t:TA):TS:=fun _ σ H=>t σ H fun vs H1=>vs.length≤sizeLine∧E1 σ (.ref C) H1
theorem ath {X:Cx} {C:Addr} {E1:X1} {x:Str} {np cpos pos:Pos} {e:Expr} {es:List Expr} {t:TA} (c:XCls X.K C) (hg:Gl X x) (hm:X.mg x=some (.ref C)) (hc:X.calm=true) (ht:Takes X E1) (hx:X.ex=[]) (ha:PA X (e::es) t) (hdb:(x==("__debug__" : Str))=false:=by decide)
    (he:starEach (e::es) X.env=(false,eval e X.env)::starEach es X.env:=by rfl) (hpl:(backTo cpos (starEach es X.env)).any (·.1)=false:=by rfl):
    PS X (.Raise (some (.Call (.Name x np) (e::es) [] cpos)) none pos) (a26 C E1 t):=by
  intro pins s σ H D I h
  obtain ⟨nm,q,N,bs,bm,hdct,sn,sub,ab,col,dd,k0,k1,k2,k3,k5,B,Bn,newId,nid,initId,inN,bmB,bmN,Fn,hBn,F,all⟩:=c.ex
  obtain ⟨_,⟨mN,hn,hni⟩,ow⟩:=all X.base I.ok.mod.kin
  refine wpAny_Raise_call_subU (C:=C) (nm:=nm) (q:=q) (N:=N) (bs:=bs) (bm:=bm) (hdct:=hdct) (sn:=sn) (sub:=sub) (ab:=ab) (col:=col) (dd:=dd) (k0:=k0) (k1:=k1) (k2:=k2) (k3:=k3) (k5:=k5) Fn hBn F (mN:=mN) (ow.hasType F.hasBase) (I.ok.hd hc)
    (by rw [he];show (false||(backTo cpos (starEach es X.env)).any (·.1))=false;rw [hpl];rfl) hni (acl I hg hm ⟨rfl,?_⟩ hdb)
  rw [he]
  have ha':=ha cpos pins s σ H _ I h
  rw [he] at ha'
  refine Calls.evalArgs_plain (thn ha' fun us s2 ⟨vs,H1,I1,r,hl,q1⟩=>⟨rfl,by rw [← r.length];exact hl,(all _ I1.kIn).1,hn.keeps I1.bk,(all _ I1.kIn).2.2,fun h' a hm=>?_⟩)
  obtain ⟨t0,e1,_,_⟩:=hm.there
  have I2:Inv X pins σ H1 { s2 with heap:=h' }:=I1.kept (t':=s2.toks) hm.keeps
  have fr:H1 a=none:=by
    cases z:H1 a with
    | none=>rfl
    | some u=>
      obtain ⟨o,eo⟩:=(I1.hok a u z).get
      rw [hm.new] at eo;cases eo
  exact ht pins σ H1 _ a C none I2 ⟨I1.news hx hm.new,fr,_,_,.ref t0,e1,rfl,rfl,rfl,rfl⟩ (I1.apart hm.new) (fun T z=>nomatch z) q1
end L2
namespace L2
open PySem PySem.Spec PyProof.Rows
section
variable {X:Cx} {pins:List (Addr×Obj)} {σ:St} {H:Hp} {s:Shared} {a C T:Addr} {tr:Option Addr} {h':Heap}
theorem aew (I:Inv X pins σ H s) (hx:X.ex=[]) (hf:X.stack=X.env::X.outer) (un:Un X.fs [] X.H₀ H X.s₀.heap h') (hok:HOk X.prog X.w H h')
    (k1:(PySem.W.hideAll s.heap (wl a tr (frs X.stack))).StaysIn h') (k4:∀ b o,s.heap.get? b=some o→(∀ vs,o.data≠.fields vs)→∃ sl,h'.get? b=some { o with slots:=sl })
    (pa:∀ p∈X.pn++pins,p.1≠a∧∀ T,tr=some T→p.1≠T):Inv X pins σ H { s with heap:=h' }:=by
  have cl:∀ {c:Addr} {v:Option Value},s.heap.IsCell c v→h'.IsCell c v:=fun {c v} ⟨o,ho,hd⟩=>by
    obtain ⟨sl,e⟩:=k4 c o ho fun vs q=>by rw [hd] at q;cases q
    exact ⟨_,e,hd⟩
  obtain ⟨m,hn,hl⟩:=id I.loc
  have hn':h'.Ns X.env.locals m:=by
    obtain ⟨o,es,ep,ho,hd,r⟩:=hn
    obtain ⟨sl,e⟩:=k4 _ o ho fun vs q=>by rw [hd] at q;cases q
    exact ⟨_,es,ep,e,hd,r⟩
  refine ⟨I.ok,I.os,I.bare,by rw [hx];exact un,⟨m,hn',fun i x v e1 e2 e3=>?_⟩,fun x c e=>?_,I.free,I.freeC,fun p hp=>?_,hok,I.len,I.tk⟩
  · obtain ⟨u,ru,lk⟩:=hl i x v e1 e2 e3
    refine ⟨u,ru,?_⟩
    rcases lk with lk | ⟨k,c,e,z⟩
    · exact .inl lk
    · exact .inr ⟨k,c,e,cl z⟩
  · obtain ⟨v,z⟩:=I.cell x c e
    exact ⟨v,cl z⟩
  · obtain ⟨e,n,ne,nf,d⟩:=I.pin p hp
    refine ⟨k1 _ _ (PySem.W.hideAll_get _ e fun hm=>?_),n,ne,nf,d⟩
    rcases List.mem_cons.mp hm with z | z
    · exact (pa p hp).1 z
    · rcases List.mem_append.mp z with z | z
      · exact (pa p hp).2 p.1 (by simpa using z) rfl
      · rcases List.mem_cons.mp (I.stkSub _ z) with z | z
        · exact ne z
        · exact nf z
theorem avw {M:Model} {Q:Unit→Shared→Prop} {E:Value→Shared→Prop} (I:Inv X pins σ H s) (hs:X.stack=X.env::X.outer) (hf:X.env.frame=some X.env.locals) (hx:X.ex=[]) (L:akq X.s₀.heap s.heap H a C tr)
    (pa:∀ p∈X.pn++pins,p.1≠a∧∀ T,tr=some T→p.1≠T)
    (h:∀ h' T,Inv X pins σ H { s with heap:=h' }→akq X.s₀.heap h' H a C (some T)→(∀ p∈X.pn++pins,p.1≠T)→Q () { s with heap:=h' }):
    wpAny M X.A (noteFrame (.ref a) X.env) (fun _ s₂=>wpAny M X.A (setFlight (.ref a) none) Q E s₂) E s:=by
  obtain ⟨new,free,oe,vs,b0,he,hc,hd,h0,htr⟩:=id L
  have newT:∀ T,tr=some T→X.s₀.heap.get? T=none∧H T=none:=by intro T e;subst e;exact ⟨htr.2.1,htr.2.2.1⟩
  have fr:s.heap.FunFrames (PySem.W.hideAll s.heap (wl a tr (frs X.stack))) X.stack:=PySem.W.funFrames_hide I.stack fun env he b hb=>List.mem_cons_of_mem _ (List.mem_append_right _ (agw he hb))
  have st:(PySem.W.hideAll s.heap (wl a tr (frs X.stack))).StaysIn s.heap:=fun b o e=>PySem.W.of_hideAll _ e
  have na:(PySem.W.hideAll s.heap (wl a tr (frs X.stack))).get? a=none:=PySem.W.hideAll_none _ List.mem_cons_self
  have hfr:X.A.frames=some (X.env::X.outer):=by rw [← hs];exact I.ok.frames
  have nT:∀ T,tr=some T→(PySem.W.hideAll s.heap (wl a tr (frs X.stack))).get? T=none:=fun T e=>by subst e;exact PySem.W.hideAll_none _ (List.mem_cons_of_mem _ (List.mem_append_left _ (by simp)))
  have go:∀ h',Heap.NotedW (PySem.W.hideAll s.heap (wl a tr (frs X.stack))) (X.env::X.outer) a (.ref C) b0 (rawInt X.env.locals) s.heap h'→wpAny M X.A (setFlight (.ref a) none) Q E { s with heap:=h' }:=fun h' ⟨k1,k2,k3,k4⟩=>by
    rw [← hs] at k2
    obtain ⟨u,hok,T,apT,n1,n2,ne,oe',vs',oT,ts,e1,e2,e3,e4,e5,e6,e7,e8⟩:=agz I hs hx new free newT k1 k2 k3 k4
    have I2:Inv X pins σ H { s with heap:=h' }:=aew I hx hs u hok k1 k4 pa
    have paT:∀ p∈X.pn++pins,p.1≠T:=fun p hp=>by
      obtain ⟨e,_⟩:=I.pin p hp
      exact apT p.1 _ e (pa p hp).2
    have fr2:h'.FunFrames (PySem.W.hideAll h' (wl a (some T) (frs X.stack))) X.stack:=PySem.W.funFrames_hide I2.stack fun env he b hb=>List.mem_cons_of_mem _ (List.mem_append_right _ (agw he hb))
    refine wpAny_setFlight_noneW (s:={ s with heap:=h' }) (base:=PySem.W.hideAll h' (wl a (some T) (frs X.stack))) (l:=X.stack) (e:=a) (cls:=.ref C) (a0:=b0) (fl:=rawInt X.env.locals) (fun b o e=>PySem.W.of_hideAll _ e) fr2
      ⟨oe',vs',T,oT,ts,e1,⟨e2,e3⟩,e4,e5,PySem.W.hideAll_none _ (List.mem_cons_of_mem _ (List.mem_append_left _ (by simp))),ne,e6,e7,e8⟩ fun h3 j1 j2 j3 j4=>?_
    have j4':∀ b o,h'.get? b=some o→(∀ vs,o.data≠.fields vs)→∃ sl,h3.get? b=some { o with slots:=sl }:=fun b o e q=>⟨o.slots,j4 b o e q⟩
    obtain ⟨u',hok',T',apT',n1',n2',ne',oe2,vs2,oT2,ts2,f1,f2,f3,f4,f5,f6,f7,f8⟩:=agz (s:={ s with heap:=h' }) (tr:=some T) I2 hs hx new free (fun T0 e=>by cases e;exact ⟨n1,n2⟩) j1 j2 j3.at j4'
    have I3:Inv X pins σ H { s with heap:=h3 }:=aew (s:={ s with heap:=h' }) (h':=h3) (tr:=some T) I2 hx hs u' hok' j1 j4' fun p hp=>⟨(pa p hp).1,fun T0 e=>by cases e;exact paT p hp⟩
    refine h h3 T' I3 ⟨new,free,oe2,vs2,b0,f1,f2,f4,f3,f5,n1',n2',ne',oT2,ts2,f6,f7,f8⟩ fun p hp=>?_
    obtain ⟨e,_⟩:=I2.pin p hp
    exact apT' p.1 _ e fun T0 z=>by cases z;exact paT p hp
  generalize PySem.W.hideAll s.heap (wl a tr (frs X.stack))=base at fr st na go nT
  rw [hs] at fr
  cases tr with
  | none=>
    unfold noteFrame
    simp only [hf]
    refine wpAny_bind (wpAny_field he hd htr ?_)
    rw [if_neg (by decide)]
    exact wpAny_entryW hfr fr hf he st na hd (Array.getElem?_eq_some_iff.mp htr).1 h0 (by rw [hc];exact go)
  | some T=>
    obtain ⟨h1,_,_,hTa,oT,ts,hT,hdT,h3⟩:=htr
    exact wpAny_noteFrame_onW hfr fr hf ⟨oe,vs,T,oT,ts,he,⟨hc,h0⟩,hd,h1,nT T rfl,hTa,hT,hdT,h3⟩ st na go
end
end L2
namespace L2
open PySem PySem.Spec PyProof.Rows
abbrev Cx.tr (X:Cx) (pn:List (Addr×Obj)) (xe:Value→Shared→Prop):Cx:={ X with pn:=pn,xe:=xe }
abbrev Cx.hnd (X:Cx) (a:Addr):Cx:={ X with A:=X.A.mark (some (.ref a)),calm:=false,xe:=fun _ _=>False }
theorem Cx.Ok.tr {X:Cx} (ok:X.Ok) (pn:List (Addr×Obj)) (xe:Value→Shared→Prop):(X.tr pn xe).Ok:=
  ⟨ok.mod,ok.kind,ok.glob,ok.blt,ok.above,ok.inj,ok.has,ok.cab,ok.hd,ok.frames,ok.stk,ok.exf,ok.bs,ok.bsz,ok.noex,ok.exfs,ok.funs,ok.frf⟩
theorem Cx.Ok.untr {X:Cx} {pn:List (Addr×Obj)} {xe:Value→Shared→Prop} (ok:(X.tr pn xe).Ok):X.Ok:=
  ⟨ok.mod,ok.kind,ok.glob,ok.blt,ok.above,ok.inj,ok.has,ok.cab,ok.hd,ok.frames,ok.stk,ok.exf,ok.bs,ok.bsz,ok.noex,ok.exfs,ok.funs,ok.frf⟩
theorem Cx.Ok.hnd {X:Cx} (ok:X.Ok) (a:Addr):(X.hnd a).Ok:=
  ⟨ok.mod,ok.kind,ok.glob,ok.blt,ok.above,ok.inj,ok.has,ok.cab,(fun z=>nomatch z),ok.frames,ok.stk,ok.exf,ok.bs,ok.bsz,ok.noex,ok.exfs,ok.funs,ok.frf⟩
section
variable {X:Cx} {pins:List (Addr×Obj)} {σ:St} {H:Hp} {s:Shared} {a C T:Addr}
theorem Inv.tr (I:Inv X pins σ H s) (xe:Value→Shared→Prop):Inv (X.tr (X.pn++pins) xe) [] σ H s:=⟨I.ok.tr _ _,I.os,I.bare,I.base,I.loc,I.cell,I.free,I.freeC,(fun p hp=>I.pin p (by simpa using hp)),I.hok,I.len,I.tk⟩
theorem Inv.untr {pins':List (Addr×Obj)} {xe:Value→Shared→Prop} (I:Inv (X.tr (X.pn++pins) xe) pins' σ H s):Inv X pins σ H s:=⟨I.ok.untr,I.os,I.bare,I.base,I.loc,I.cell,I.free,I.freeC,(fun p hp=>I.pin p (List.mem_append_left _ hp)),I.hok,I.len,I.tk⟩
theorem Inv.hnd (I:Inv X pins σ H s) (a:Addr):Inv (X.hnd a) pins σ H s:=⟨I.ok.hnd a,I.os,I.bare,I.base,I.loc,I.cell,I.free,I.freeC,I.pin,I.hok,I.len,I.tk⟩
theorem Inv.unhnd (ok:X.Ok) (I:Inv (X.hnd a) pins σ H s):Inv X pins σ H s:=⟨ok,I.os,I.bare,I.base,I.loc,I.cell,I.free,I.freeC,I.pin,I.hok,I.len,I.tk⟩
theorem SP.untr {D:Ends} {xe:Value→Shared→Prop} {f:Flow} {s':Shared} (h:SP (X.tr (X.pn++pins) xe) [] D f s'):SP X pins D f s':=by
  cases f with
  | next=>obtain ⟨σ',H',J,q⟩:=h;exact ⟨σ',H',J.untr,q⟩
  | brk=>obtain ⟨σ',H',J,q⟩:=h;exact ⟨σ',H',J.untr,q⟩
  | cont=>obtain ⟨σ',H',J,q⟩:=h;exact ⟨σ',H',J.untr,q⟩
  | ret u=>obtain ⟨v,σ',H',J,r,q⟩:=h;exact ⟨v,σ',H',J.untr,r,q⟩
theorem acb {M:Model} {A:Around} {E:Value→Shared→Prop} {i:Nat} {n:Str} {pos:Pos} {Q:Unit→Shared→Prop} (I:Inv X pins σ H s) (hN:X.N.Nodup) (hi:X.N[i]?=some n) (hk:X.env.scope.names.lookup n=some .local)
    (h:∀ s',Inv X pins (σ.set i none) H s'→Q () s'):wpAny M A (do bindName X.env n .none;unbindBehindTheSuite X.env n pos) Q E s:=by
  obtain ⟨m,hn,hl⟩:=id I.loc
  have hcls:(X.env.scope.kind==.class||(X.env.scope.kind==.module&&X.env.locals != X.env.globals))=false:=by rw [I.ok.kind];rfl
  refine wpAny_nameGoes_keeps hk hn hcls fun h' v hn' hs=>h _ ?_
  obtain ⟨oL,_,_,hoL,_⟩:=id hn
  have neL:∀ b o,X.s₀.heap.get? b=some o→b≠X.env.locals:=fun b o e=>Nat.ne_of_lt (Nat.lt_of_lt_of_le (Heap.lt_size e) I.ok.above)
  refine ⟨I.ok,I.os,I.bare,⟨fun b o e n hb hx=>?_,fun b o e n hb hx=>?_,I.base.free,fun b o e hx=>?_,I.base.tups,I.base.frzs,I.base.tbls⟩,⟨_,hn',fun j y v' e1 e2 e3=>?_⟩,fun y c e=>?_,I.free,I.freeC,fun p hp=>?_,fun b ob e=>?_,by simpa using I.len,by first | exact I.tk | exact Nat.succ_pos _⟩
  · exact (hs.2 b (neL b o e)).trans (I.base.keep b o e n hb hx)
  · obtain ⟨sl,e1⟩:=I.base.slot b o e n hb hx
    exact ⟨sl,(hs.2 b (neL b o e)).trans e1⟩
  · obtain ⟨o',e1⟩:=I.base.there b o e hx
    exact ⟨o',(hs.2 b (neL b o e)).trans e1⟩
  · by_cases hj:j=i
    · subst hj
      have hjσ:j<σ.length:=by rw [I.len];exact (List.getElem?_eq_some_iff.mp hi).1
      rw [List.getElem?_set_self hjσ] at e2
      cases e2
    · rw [List.getElem?_set_ne (Ne.symm hj)] at e2
      obtain ⟨u',r',q⟩:=hl j y v' e1 e2 e3
      refine ⟨u',r',?_⟩
      rcases q with ⟨k,e⟩ | ⟨k,c,e,z⟩
      · refine .inl ⟨k,?_⟩
        have:y≠n:=fun e=>hj (ahu hN e1 (e▸hi))
        simp [this,e]
      · exact .inr ⟨k,c,e,z.sameBut hs (I.cne y c e)⟩
  · obtain ⟨w',z⟩:=I.cell y c e
    exact ⟨w',z.sameBut hs (I.cne y c e)⟩
  · obtain ⟨e,n,ne,nf,d⟩:=I.pin p hp
    exact ⟨(hs.2 p.1 ne).trans e,n,ne,nf,d⟩
  · refine (I.hok b ob e).stay (fun c w' hc q=>(hs.2 c ?_).trans q) (fun _ q=>q) fun _ _ q=>q
    rintro rfl
    rcases hc with z | z
    · rw [← z,I.free] at e;cases e
    · rw [I.free] at z;cases z
theorem at7 {oe:Obj} (I:Inv X pins σ H s) (hx:X.ex=[]) (new:X.s₀.heap.get? a=none) (free:H a=none) (he:s.heap.get? a=some oe) (ap:ams X a) (pa:∀ p∈X.pn++pins,p.1≠a):Inv X pins σ (upd H a (.frz oe (.own 0))) s:=by
  refine ⟨I.ok,I.os,I.bare,⟨I.base.keep,I.base.slot,fun b o e n hb=>?_,I.base.there,fun b xs e=>?_,fun b o u e=>?_,fun b ps e=>?_⟩,I.loc,I.cell,?_,fun x c e=>?_,fun p hp=>?_,fun b u e=>?_,I.len,I.tk⟩
  · rw [qt (fun z=>by rw [z,new] at e;cases e)];exact I.base.free b o e n hb
  · have:=I.base.tups b xs e
    rw [qt (fun z=>by rw [z,free] at this;cases this)];exact this
  · have:=I.base.frzs b o u e
    rw [qt (fun z=>by rw [z,free] at this;cases this)];exact this
  · obtain ⟨more,this⟩:=I.base.tbls b ps e
    exact ⟨more,by rw [qt (fun z=>by rw [z,free] at this;cases this)];exact this⟩
  · rw [qt (Ne.symm ap.1)];exact I.free
  · rw [qt (ap.2.1 x c e)];exact I.freeC x c e
  · obtain ⟨e,n,ne,nf,d⟩:=I.pin p hp
    exact ⟨e,by rw [qt (pa p hp)];exact n,ne,nf,d⟩
  · by_cases z:b=a
    · subst z
      rw [zx] at e;cases e
      exact ⟨he,oe,he⟩
    · rw [qt z] at e
      exact (I.hok b u e).stay (fun _ _ _ q=>q) (fun c q=>by rw [qt (fun z=>by rw [z,free] at q;cases q)];exact q) fun c xs q=>by rw [qt (fun z=>by rw [z,free] at q;cases q)];exact q
theorem ar4 {M:Model} {A:Around} {Q:Unit→Shared→Prop} {E:Value→Shared→Prop} (I:Inv X pins σ H s) (hs:X.stack=X.env::X.outer) (hx:X.ex=[]) (L:akq X.s₀.heap s.heap H a C (some T))
    (pa:∀ p∈X.pn++pins,p.1≠a∧p.1≠T) (h:∀ h' T',Inv X pins σ H { s with heap:=h' }→akq X.s₀.heap h' H a C (some T')→Q () { s with heap:=h' }):wpAny M A (setFlight (.ref a) none) Q E s:=by
  obtain ⟨new,free,oe,vs,b0,he,hc,hd,h0,h1,n1,n2,ne,oT,ts,hT,hdT,h3⟩:=L
  have fr2:s.heap.FunFrames (PySem.W.hideAll s.heap (wl a (some T) (frs X.stack))) X.stack:=PySem.W.funFrames_hide I.stack fun env he b hb=>List.mem_cons_of_mem _ (List.mem_append_right _ (agw he hb))
  refine wpAny_setFlight_noneW (base:=PySem.W.hideAll s.heap (wl a (some T) (frs X.stack))) (l:=X.stack) (e:=a) (cls:=.ref C) (a0:=b0) (fl:=.none) (fun b o e=>PySem.W.of_hideAll _ e) fr2
    ⟨oe,vs,T,oT,ts,he,⟨hc,h0⟩,hd,h1,PySem.W.hideAll_none _ (List.mem_cons_of_mem _ (List.mem_append_left _ (by simp))),ne,hT,hdT,h3⟩ fun h3 j1 j2 j3 j4=>?_
  have j4':∀ b o,s.heap.get? b=some o→(∀ vs,o.data≠.fields vs)→∃ sl,h3.get? b=some { o with slots:=sl }:=fun b o e q=>⟨o.slots,j4 b o e q⟩
  obtain ⟨u',hok',T',apT',n1',n2',ne',oe2,vs2,oT2,ts2,f1,f2,f3,f4,f5,f6,f7,f8⟩:=agz (tr:=some T) I hs hx new free (fun T0 e=>by cases e;exact ⟨n1,n2⟩) j1 j2 j3.at j4'
  exact h h3 T' (aew (tr:=some T) I hx hs u' hok' j1 j4' fun p hp=>⟨(pa p hp).1,fun T0 e=>by cases e;exact (pa p hp).2⟩) ⟨new,free,oe2,vs2,b0,f1,f2,f4,f3,f5,n1',n2',ne',oT2,ts2,f6,f7,f8⟩
end
end L2
namespace L2
open PySem PySem.Spec PyProof.Rows
def Dh (i:Nat) (D:Ends):Ends where
  nx:=fun σ H=>D.nx (σ.set i none) H
  rt:=D.rt
  bk:=fun σ H=>D.bk (σ.set i none) H
  ct:=fun σ H=>D.ct (σ.set i none) H
def ax1 (K:PySem.W.Frag) (Dc:Addr) (i:Nat) (th:TS) (D:Ends):X1:=fun σ c H=>∃ C,c=.ref C∧PySem.W.exmOne K (.ref C) (.ref Dc)=some true∧∀ a oe,H a=none→oe.cls=.ref C→th (Dh i D) (σ.set i (some (.ref a))) (upd H a (.frz oe (.own 0)))
def a4y (K:PySem.W.Frag) (Dc:Addr) (i:Nat) (tb:X1→TS) (th:TS):TS:=fun D σ H=>tb (ax1 K Dc i th D) D σ H
theorem a01 {X:Cx} {Dc:Addr} {i:Nat} {n x:Str} {np hpos pos:Pos} {body suite:List Stmt} {b₀:Stmt} {tb:X1→TS} {th:TS} (hs:X.stack=X.env::X.outer) (hf:X.env.frame=some X.env.locals) (hx:X.ex=[]) (hN:X.N.Nodup) (hi:X.N[i]?=some n)
    (hk:X.env.scope.names.lookup n=some .local) (hg:Gl X x) (hm:X.mg x=some (.ref Dc)) (hb:∀ (pn:List (Addr×Obj)) (xe:Value→Shared→Prop) (E1:X1),Takes (X.tr pn xe) E1→PSs (X.tr pn xe) body (tb E1)) (hh:∀ a,PSs (X.hnd a) (b₀::suite) th)
    (hdb:(x==("__debug__" : Str))=false:=by decide):PS X (.Try body [.ExceptHandler (some (.Name x np)) (some n) (b₀::suite) hpos] [] [] pos) (a4y X.K Dc i tb th):=by
  intro pins s σ H D I h
  have tk:Takes (X.tr (X.pn++pins) (fun e s'=>∃ pins' σ' H' a C tr,e=.ref a∧Inv X pins σ' H' s'∧akq X.s₀.heap s'.heap H' a C tr∧ams (X.tr (X.pn++pins') X.xe) a∧(∀ p∈X.pn++pins,p.1≠a)∧(∀ T,tr=some T→∀ p∈X.pn++pins,p.1≠T)∧ax1 X.K Dc i th D σ' (.ref C) H'))
      (ax1 X.K Dc i th D):=fun pins' σ' H' s' a C tr I' L ap apT q=>⟨[],σ',H',a,C,tr,rfl,I'.untr,L,⟨ap.1,ap.2.1,fun p hp=>ap.2.2 p (by
        have hp:p∈X.pn++[]:=hp
        rw [List.append_nil] at hp
        exact List.mem_append_left _ hp)⟩,ap.2.2,fun T e=>(apT T e).2.2,q⟩
  refine wpAny_Try_except (wpAny_mono (hb _ _ _ tk [] s σ H D (I.tr _) h) (fun f s1 h1=>?_) fun e s1 h1=>?_)
  · have h2:=SP.untr h1
    cases f with
    | next=>exact wpAny_execs_nil h2
    | brk=>exact h2
    | cont=>exact h2
    | ret u=>exact h2
  · obtain ⟨pins',σ',H',a,C,tr,rfl,I1,L,ap,pa,paT,C',ec,em,q⟩:=h1
    cases ec
    refine avw I1 hs hf hx L (fun p hp=>⟨pa p hp,fun T e=>paT T e p hp⟩) fun h' T I2 L2 paT2=>?_
    refine wpAny_handleBy_cons (codeAny_handlers_test ?_) (by intro q;cases q)
    refine acl (X:=X.hnd a) (I2.hnd a) hg hm ?_ hdb
    obtain ⟨_,_,oe,vs,a0,he,hc,_⟩:=id L2
    have LT:PySem.W.Looks (model X.prog X.w) h' (typeOf (.ref a)) (.ref C):=hc▸(PySem.W.Looks.ld he).andThen .now
    refine PySem.W.exm_one (K:=X.K) I2.kIn LT em _ _ _ _ (fun _ _ e=>e) ?_
    refine codeAny_handlers_suite_as ?_
    refine ar4 I2 hs hx L2 (fun p hp=>⟨pa p hp,paT2 p hp⟩) fun h3 T' I3 L3=>?_
    obtain ⟨new,free,oe3,vs3,a3,he3,hc3,_⟩:=L3
    have I4:=at7 I3 hx new free he3 ⟨ap.1,ap.2.1,fun p hp=>pa p (List.mem_append_left _ hp)⟩ pa
    refine aam (X:=X.hnd a) (I4.hnd a) hN hi (.inl hk) (v:=.ref a) (u:=.ref a) rfl (fun s5 I5=>?_) (.inr hk)
    refine wpAny_mono (hh a pins s5 _ _ (Dh i D) I5 (q a oe3 free hc3)) (fun f s6 h6=>?_) fun e s6 z=>z.elim
    cases f with
    | next=>obtain ⟨σ6,H6,J,q6⟩:=h6;exact acb (J.unhnd I.ok) hN hi hk fun s7 I7=>⟨_,H6,I7,q6⟩
    | brk=>obtain ⟨σ6,H6,J,q6⟩:=h6;exact acb (J.unhnd I.ok) hN hi hk fun s7 I7=>⟨_,H6,I7,q6⟩
    | cont=>obtain ⟨σ6,H6,J,q6⟩:=h6;exact acb (J.unhnd I.ok) hN hi hk fun s7 I7=>⟨_,H6,I7,q6⟩
    | ret u=>obtain ⟨v,σ6,H6,J,r,q6⟩:=h6;exact acb (J.unhnd I.ok) hN hi hk fun s7 I7=>⟨v,_,H6,I7,r,q6⟩
end L2
namespace L2
open PySem PySem.Spec PyProof.Rows PySem.W
structure XAt (K:Frag) (C:Addr):Prop where
  ga:findIn K (.ref C) "__getattribute__" = some (some (.builtin "BaseException.__getattribute__"))
  gt:findIn K (.ref C) "__getattr__" = some none
  cl:findIn K (.ref C) "__class__" = some (some (.builtin "object.__class__"))
  ge:specialIn K (.builtin "object.__class__") "__get__" = some (some (.builtin "getset_descriptor.__get__"))
  tk:takesIn K (.builtin "object.__class__")=some true
  mo:mroIn K C (.type "object")=some true
  be:subIn K (.ref C) (.type "BaseException")=some true
theorem ax2 (self:Value):bindSpecial (.builtin "BaseException.__getattribute__") self=pure (.builtin "BaseException.__getattribute__",[self]):=by
  have hop:withoutEnding? "BaseException.__getattribute__" "#opaque" = none:=by decide +kernel
  have hdat:withoutEnding? "BaseException.__getattribute__" "#data" = none:=by decide +kernel
  have hk:builtinKind "BaseException.__getattribute__" = some .slot:=by decide +kernel
  simp only [bindSpecial,typeOf,builtinType,hop,hdat,hk];rfl
def ExAt (h:Heap) (a C:Addr):Prop:=∃ o,h.get? a=some o∧o.cls=.ref C
theorem ExAt.type {M:Model} {h:Heap} {a C:Addr} (I:ExAt h a C):Looks M h (typeOf (.ref a)) (.ref C):=by
  obtain ⟨o,h1,h2⟩:=I
  exact h2▸(Looks.ld h1).andThen .now
open Builtin.ObjectAttr in
theorem awp {M:Model} {K:Frag} {h:Heap} {a C:Addr} (c:XAt K C) (X:K.In h):Looks M h (find (.ref a) (.ref C) "__class__") (.bind (.builtin "getset_descriptor.__get__") (.builtin "object.__class__")):=by
  have L1:=looks_findIn (M:=M) X c.cl
  have L2:=looks_specialIn (M:=M) X c.ge
  have L3:=looks_takesIn (M:=M) X c.tk
  refine L1.andThen (L2.andThen ?_)
  exact (show Looks M h (dataDescriptor? (some (.builtin "object.__class__")) (some (.builtin "getset_descriptor.__get__"))) (some (.builtin "getset_descriptor.__get__",.builtin "object.__class__")) from L3.andThen .now).andThen (Looks.tag .now)
section
variable {prog:Program} {w:World} {A:Around} {E:Value→Shared→Prop} {s:Shared} {K:Frag} {a C:Addr}
open Builtin Builtin.ObjectAttr Builtin.Getset_descriptor in
theorem a1x {R:Result→Shared→Prop} {tp:Value} (X:K.In s.heap) (I:ExAt s.heap a C) (hm:mroIn K C (.type "object")=some true)
    (h:R (.ok (.ret (.ref C))) s):codeAny (model prog w) A (.call (.builtin "getset_descriptor.__get__") ⟨[.builtin "object.__class__",.ref a,tp],[]⟩) R s:=by
  obtain ⟨hh,g,dr,t,os⟩:=s
  have L0:=I.type (M:=model prog w)
  have L1:=looks_mroIn (M:=model prog w) X hm
  refine codeAny_call_builtin KF.slot_gs.plain KF.entry_gs (KF.slot_gs.check _ _ _ _ _ _ _ _ KF.type_class (KF.args_gs _ _ _) ?_)
  unfold Builtin.«getset_descriptor.__get__» descrGet
  rw [dga_obj]
  refine wpAny_bind (wpAny_pure ?_)
  unfold descrGetter descrCheckInstance descrNameAndClass isInstance
  simp only [KF.owner_class]
  repeat lk
  refine ⟨Code.quiet_builtin _ (by decide +kernel),codeAny_builtin KF.entry_class ?_⟩
  unfold Builtin.«object.__class__» shownTypeOf
  repeat lk
  exact h
theorem ati {tk:Tok} {Q:Fin→Shared→Prop} (c:XAt K C) (X:K.In s.heap) (I:ExAt s.heap a C) (h:Q (.done (.ret (.ref C))) s):
    wpAny (model prog w) A (Builtin.«object.__getattribute__» ⟨[.ref a,.str "__class__" tk],[]⟩) Q E s:=by
  obtain ⟨hh,g,d,t,os⟩:=s
  have L0:=I.type (M:=model prog w)
  have L1:=awp (M:=model prog w) (a:=a) c X
  unfold Builtin.«object.__getattribute__»
  repeat (first | with_reducible refine wpAny_call ?_ | lk)
  refine a1x X I c.mo ?_
  repeat lk
  exact h
theorem asz {Q:Unit→Shared→Prop} {nameV:Value} (c:XAt K C) (X:K.In s.heap) (I:ExAt s.heap a C) (hq:Q () s):wpAny (model prog w) A (checkBuiltinCall "BaseException.__getattribute__" ⟨[.ref a,nameV],[]⟩) Q E s:=by
  obtain ⟨hh,g,d,t,os⟩:=s
  have L0:=I.type (M:=model prog w)
  have L1:=looks_subIn (M:=model prog w) X c.be
  have hk:builtinKind "BaseException.__getattribute__" = some .slot:=by decide +kernel
  have hsplit:splitId "BaseException.__getattribute__" = some ("BaseException", "__getattribute__"):=by decide +kernel
  have ha:=F.args_bexc_ga (.ref a) nameV
  simp only [checkBuiltinCall,hk,hsplit]
  refine wpAny_bind ?_
  unfold isInstance
  repeat lk
  exact hq
theorem a2y {tk:Tok} {Q:Value→Shared→Prop} (c:XAt K C) (X:K.In s.heap) (I:ExAt s.heap a C) (h:Q (.ref C) s):wpAny (model prog w) A (getAttrBy (.ref a) (.str "__class__" tk) false) Q E s:=by
  obtain ⟨hh,g,d,t,os⟩:=s
  have L0:=I.type (M:=model prog w)
  have L1:=looks_findIn (M:=model prog w) X c.ga
  have L2:=looks_findIn (M:=model prog w) X c.gt
  have f3:=ax2 (.ref a)
  unfold getAttrBy
  repeat (first | with_reducible refine wpAny_call ?_ | with_reducible refine wpAny_attempt ?_ | lk)
  refine codeAny_call_builtin (by decide +kernel) F.entry_bexc_ga (asz c X I (ati c X I ?_))
  exact handed_on rfl h
theorem awq {Q:Option Value→Shared→Prop} (c:XAt K C) (X:K.In s.heap) (I:ExAt s.heap a C) (h:Q (some (.ref C)) { s with toks:=s.toks+1 }):wpAny (model prog w) A (getAttr? (.ref a) "__class__") Q E s:=by
  unfold getAttr? getAttrBy?
  refine wpAny_bind (wpAny_mkText (wpAny_bind (wpAny_attempt (a2y (s:={ s with toks:=s.toks+1 }) c X I ?_))))
  exact wpAny_pure h
end
theorem ana {K:Frag} {a C:Addr} (c:XAt K C) (hcl:(clsIn K C).isSome=true):KitX K (.ref a) (.ref C) (fun h=>ExAt h a C) where
  ty:=fun _ _ _ I=>I.type
  it:=fun _ _ X _=>by
    unfold clsIn at hcl
    split at hcl
    · rename_i c' d' cd' sl' ho
      intro A' Q' E' s' k q
      unfold isType loadHead
      exact wpAny_bind (wpAny_loadPart (k _ _ (X _ _ ho)) (wpAny_pure q))
    · cases hcl
  ne:=fun h tp dd its n sl X htp=>by
    refine Bool.eq_false_iff.mpr fun q=>?_
    have e:C=tp:=Value.ref.inj (beq_iff_eq.mp q)
    subst e
    unfold clsIn at hcl
    split at hcl
    · rename_i c' d' cd' sl' ho
      have z:=(X _ _ ho).symm.trans htp
      cases z
    · cases hcl
  ca:=fun X I k=>awq c X I k
end L2
namespace L2
open PySem PySem.Spec PyProof.Rows
def avf:V→Option Value
  | .ref D=>some (.ref D)
  | .ty T=>some (.type T)
  | _=>none
theorem alu {v:V} {u c:Value} (h:avf v=some c) (r:RelV v u):u=c:=by
  cases v with
  | ref D=>cases h;exact r
  | ty T=>cases h;exact r
  | _=>cases h
theorem an2:∀ {vs:List V} {us cs:List Value},vs.map avf=cs.map some→Vals vs us→us=cs
  | [],_,[],_,.nil=>rfl
  | [],_,_::_,h,_=>by cases h
  | _::_,_,[],h,_=>by cases h
  | v::vs,_,c::cs,h,.cons r t=>by
    rw [List.map_cons,List.map_cons] at h
    obtain ⟨h1,h2⟩:=List.cons.inj h
    rw [alu h1 r,an2 h2 t]
structure XHd (K:PySem.W.Frag) (C:Addr):Prop where
  at_:XAt K C
  cls:(PySem.W.clsIn K C).isSome=true
def ayi (K:PySem.W.Frag) (H:Hp) (a C:Addr):Prop:=∃ oe,H a=some (.frz oe (.own 0))∧oe.cls=.ref C
def aze (K:PySem.W.Frag):List V→Hp→VK→Prop:=fun xs H Q=>∃ a C v,xs=[.ref a,v]∧ayi K H a C∧XHd K C∧
  ((∃ u b,avf v=some u∧PySem.W.kitOne K (.ref C) u=some b∧Q (.bl b) H)∨(∃ tp ws us b,v=.ref tp∧SqT K H tp ws∧ws.map avf=us.map some∧PySem.W.kitAny K (.ref C) us=some b∧Q (.bl b) H))
theorem aow {X:Cx}:CallR X (.builtin "isinstance") (aze X.K):=by
  intro pins s σ H xs us Q I r h
  obtain ⟨a,C,v,rfl,⟨oe,ha,hc⟩,hd,h⟩:=h
  obtain ⟨u1,u2,rfl,r1,r2⟩:=Vals.two r
  cases (show u1=Value.ref a from r1)
  obtain ⟨he,_⟩:=(show ObjOk X.prog X.w H s.heap a (.frz oe (.own 0)) from I.hok a _ ha)
  have ex:ExAt s.heap a C:=⟨oe,he,hc⟩
  rcases h with ⟨c,b,e,k,q⟩ | ⟨tp,ws,cs,b,rfl,ht,e,k,q⟩
  · cases alu e r2
    exact jn I.tk (PySem.W.kia_one (ana hd.at_ hd.cls) I.kIn ex k (fun z=>nomatch z) fun tk ht=>⟨.bl b,H,I.tok _,rfl,q⟩)
  · cases (show u2=Value.ref tp from r2)
    obtain ⟨its,rv,⟨o,h1,h2,n,h3⟩,_⟩:=I.tuple ht
    cases an2 e rv
    obtain ⟨oc,od,odt,osl⟩:=o
    dsimp only at h2 h3
    subst h2 h3
    exact jn I.tk (PySem.W.kia_tup (ana hd.at_ hd.cls) I.kIn ex h1 k (fun z=>nomatch z) fun tk ht=>⟨.bl b,H,I.tok _,rfl,q⟩)
end L2
namespace L2
open PySem PySem.Spec PyProof.Rows
def TabR (H:Hp) (P:Addr) (q:Str):Prop:=∃ ps,H P=some (.tbl ps)∧TriplesOk ps.toList∧∀ pos cv,codeAmong pos ps.toList=some cv→∃ c' oc vs t,cv=.ref c'∧H c'=some (.frz oc (.own 0))∧oc.data=.fields vs∧vs[1]?=some (.str q t)
theorem TabR.keep {H H':Hp} {P:Addr} {q:Str} (h:TabR H P q) (e:H' P=H P) (t:∀ b o u,H b=some (.frz o u)→H' b=some (.frz o u)):TabR H' P q:=by
  obtain ⟨ps,h1,h2,h3⟩:=h
  refine ⟨ps,e.trans h1,h2,fun pos cv z=>?_⟩
  obtain ⟨c',oc,vs,tt,e1,e2,e3⟩:=h3 pos cv z
  exact ⟨c',oc,vs,tt,e1,t _ _ _ e2,e3⟩
end L2
namespace L3
open PySem L2
inductive Y where
  | non | bl (b:Bool) | int (i:Int) | str (x:Str) | ref (a:Addr) | ty (n:String) | cd (kvs:List (Str×Str)) | tup (ys:List Y) | sq (ys:List Y)
inductive LO where
  | lst (ys:List Y) | dct (kvs:List (Key×Y)) | ins (C:Addr) (fs:List (Str×Y)) | exc (C:Addr) | tb (q:Str)
abbrev LHp:=Addr→Option LO
def qh (L:LHp) (a:Addr) (o:LO):LHp:=fun b=>if b=a then some o else L b
theorem q8 {L:LHp} {a:Addr} {o:LO}:qh L a o a=some o:=by unfold qh;rw [if_pos rfl]
theorem qf {L:LHp} {a b:Addr} {o:LO} (h:b≠a):qh L a o b=L b:=by unfold qh;rw [if_neg h]
theorem zd {L:LHp} {a:Addr} {o u:LO}:qh (qh L a o) a u=qh L a u:=by
  funext b;unfold qh;split<;>rfl
theorem neL {L:LHp} {a b:Addr} {o:LO} (h:L a=some o) (h':L b=none):a≠b:=by
  intro e;subst e;rw [h] at h';cases h'
theorem as9 {L:LHp} {a b:Addr} {o u:LO} (h:L a=some o) (h':L b=some u) (d:o≠u):a≠b:=by
  intro e;subst e;rw [h] at h';exact d (Option.some.inj h')
structure G3 where
  K:PySem.W.Frag
  P:Program
  w:World
abbrev _root_.L2.Cx.g3 (X:Cx):G3:=⟨X.K,X.prog,X.w⟩
def SqF (K:PySem.W.Frag) (H:Hp) (a:Addr) (xs:List V):Prop:=(∃ o,H a=some (.frz o (.lst xs)))∨
  ∃ (o:Obj) (its:Array Value) (n:Nat),K.lookup a=some o∧o.cls=.type "list" ∧ o.dict=none∧o.data=.seq its n∧its.size≤sizeLine∧Vals xs its.toList
theorem SqF.sq {K:PySem.W.Frag} {H:Hp} {a:Addr} {xs:List V} (h:SqF K H a xs):SqL K H a xs:=by
  rcases h with ⟨o,h⟩ | h
  · exact .inl (.inr ⟨o,h⟩)
  · exact .inr h
mutual
def RV (G:G3) (H:Hp):Y→V→Prop
  | .non,v=>v=.non
  | .bl b,v=>v=.bl b
  | .int i,v=>v=.int i
  | .str x,v=>v=.str x
  | .ref a,v=>v=.ref a
  | .ty n,v=>v=.ty n
  | .cd kvs,v=>∃ a,v=.ref a∧KD G.K G.P G.w a (kvs.map fun p=>(Sum.inr p.1,V.str p.2))
  | .tup ys,v=>∃ a xs,v=.ref a∧SqT G.K H a xs∧RVs G H ys xs
  | .sq ys,v=>∃ a xs,v=.ref a∧SqF G.K H a xs∧RVs G H ys xs
def RVs (G:G3) (H:Hp):List Y→List V→Prop
  | [],xs=>xs=[]
  | y::ys,xs=>∃ x xs',xs=x::xs'∧RV G H y x∧RVs G H ys xs'
end
def Imm:HO→Bool
  | .tup _=>true
  | .frz _ _=>true
  | _=>false
def TSt (H H':Hp):Prop:=∀ a u,Imm u=true→H a=some u→H' a=some u
theorem TSt.refl (H:Hp):TSt H H:=fun _ _ _ h=>h
theorem TSt.trans {H H1 H2:Hp} (a:TSt H H1) (b:TSt H1 H2):TSt H H2:=fun c u i h=>b c u i (a c u i h)
theorem TSt.new {H:Hp} {p:Addr} {o:HO} (h:H p=none):TSt H (upd H p o):=fun _ _ _ q=>by rw [qt (zr q h)];exact q
theorem TSt.lst {H:Hp} {p:Addr} {zs:List V} {o:HO} (h:H p=some (.lst zs)):TSt H (upd H p o):=fun a u i q=>by
  rw [qt ?_];exact q
  rintro rfl
  rw [h] at q;cases q;cases i
theorem SqT.ts {K:PySem.W.Frag} {H H':Hp} {a:Addr} {xs:List V} (h:SqT K H a xs) (t:TSt H H'):SqT K H' a xs:=by
  rcases h with (h | ⟨o,h⟩) | h
  · exact .inl (.inl (t _ _ rfl h))
  · exact .inl (.inr ⟨o,t _ _ rfl h⟩)
  · exact .inr h
theorem SqF.ts {K:PySem.W.Frag} {H H':Hp} {a:Addr} {xs:List V} (h:SqF K H a xs) (t:TSt H H'):SqF K H' a xs:=by
  rcases h with ⟨o,h⟩ | h
  · exact .inl ⟨o,t _ _ rfl h⟩
  · exact .inr h
mutual
theorem RV.ts {G:G3} {H H':Hp} (t:TSt H H'):∀ {y:Y} {v:V},RV G H y v→RV G H' y v
  | .non,_,h=>h
  | .bl _,_,h=>h
  | .int _,_,h=>h
  | .str _,_,h=>h
  | .ref _,_,h=>h
  | .ty _,_,h=>h
  | .cd _,_,h=>h
  | .tup _,_,⟨a,xs,e,s,r⟩=>⟨a,xs,e,SqT.ts s t,RVs.ts t r⟩
  | .sq _,_,⟨a,xs,e,s,r⟩=>⟨a,xs,e,s.ts t,RVs.ts t r⟩
theorem RVs.ts {G:G3} {H H':Hp} (t:TSt H H'):∀ {ys:List Y} {xs:List V},RVs G H ys xs→RVs G H' ys xs
  | [],_,h=>h
  | _::_,_,⟨x,xs',e,r,s⟩=>⟨x,xs',e,RV.ts t r,RVs.ts t s⟩
end
theorem RVs.length {G:G3} {H:Hp}:∀ {ys:List Y} {xs:List V},RVs G H ys xs→ys.length=xs.length
  | [],_,h=>by cases h;rfl
  | _::_,_,⟨x,xs',e,_,s⟩=>by subst e;simp [RVs.length s]
theorem RVs.get {G:G3} {H:Hp}:∀ {ys:List Y} {xs:List V} {i:Nat} {y:Y},RVs G H ys xs→ys[i]?=some y→∃ x,xs[i]?=some x∧RV G H y x
  | [],_,_,_,_,h=>by simp at h
  | _::_,_,0,_,⟨x,xs',e,r,_⟩,h=>by subst e;simp at h;subst h;exact ⟨x,rfl,r⟩
  | _::_,_,i+1,_,⟨x,xs',e,_,s⟩,h=>by
    subst e
    obtain ⟨x',q,r⟩:=RVs.get (i:=i) s (by simpa using h)
    exact ⟨x',by simpa using q,r⟩
theorem RVs.app {G:G3} {H:Hp}:∀ {ys zs:List Y} {xs us:List V},RVs G H ys xs→RVs G H zs us→RVs G H (ys++zs) (xs++us)
  | [],_,_,_,h,q=>by cases h;exact q
  | _::_,_,_,_,⟨x,xs',e,r,s⟩,q=>by subst e;exact ⟨x,xs'++_,rfl,r,RVs.app s q⟩
theorem RVs.one {G:G3} {H:Hp} {y:Y} {x:V} (r:RV G H y x):RVs G H [y] [x]:=⟨x,[],rfl,r,rfl⟩
theorem RVs.take {G:G3} {H:Hp}:∀ {ys:List Y} {xs:List V} (n:Nat),RVs G H ys xs→RVs G H (ys.take n) (xs.take n)
  | [],_,n,h=>by cases h;simp [RVs]
  | _::_,_,0,_=>by simp [RVs]
  | _::_,_,n+1,⟨x,xs',e,r,s⟩=>by subst e;exact ⟨x,xs'.take n,rfl,r,RVs.take n s⟩
theorem RVs.drop {G:G3} {H:Hp}:∀ {ys:List Y} {xs:List V} (n:Nat),RVs G H ys xs→RVs G H (ys.drop n) (xs.drop n)
  | [],_,n,h=>by cases h;simp [RVs]
  | _::_,_,0,h=>h
  | _::_,_,n+1,⟨x,xs',e,r,s⟩=>by subst e;exact RVs.drop n s
theorem RVs.setY {G:G3} {H:Hp} {y:Y} {x:V} (r:RV G H y x):∀ {ys:List Y} {xs:List V} (i:Nat),RVs G H ys xs→RVs G H (ys.set i y) (xs.set i x)
  | [],_,_,h=>by cases h;simp [RVs]
  | _::_,_,0,⟨x',xs',e,_,s⟩=>by subst e;exact ⟨x,xs',rfl,r,s⟩
  | _::_,_,i+1,⟨x',xs',e,q,s⟩=>by subst e;exact ⟨x',xs'.set i x,rfl,q,RVs.setY r i s⟩
theorem RVs.dropLast {G:G3} {H:Hp} {ys:List Y} {xs:List V} (h:RVs G H ys xs):RVs G H ys.dropLast xs.dropLast:=by
  rw [List.dropLast_eq_take,List.dropLast_eq_take,h.length];exact h.take _
theorem RVs.eraseIdx {G:G3} {H:Hp}:∀ {ys:List Y} {xs:List V} (n:Nat),RVs G H ys xs→RVs G H (ys.eraseIdx n) (xs.eraseIdx n)
  | [],_,n,h=>by cases h;simp [RVs]
  | _::_,_,0,⟨x,xs',e,r,s⟩=>by subst e;exact s
  | _::_,_,n+1,⟨x,xs',e,r,s⟩=>by subst e;exact ⟨x,xs'.eraseIdx n,rfl,r,RVs.eraseIdx n s⟩
def RO (G:G3) (H:Hp) (a:Addr):LO→Prop
  | .lst ys=>∃ xs,H a=some (.lst xs)∧RVs G H ys xs
  | .dct kvs=>∃ xs,H a=some (.dK xs)∧Paired (fun (p:Key×Y) (q:Key×V)=>p.1=q.1∧RV G H p.2 q.2) kvs xs
  | .ins C fs=>∃ dx xs,H a=some (.ins C dx xs)∧Paired (fun (p:Str×Y) (q:Str×V)=>p.1=q.1∧RV G H p.2 q.2) fs xs
  | .exc C=>ayi G.K H a C
  | .tb q=>TabR H a q
def RelH (G:G3) (H:Hp) (L:LHp):Prop:=∀ a o,L a=some o→RO G H a o
theorem RO.ex {G:G3} {H:Hp} {a:Addr}:∀ {o:LO},RO G H a o→∃ u,H a=some u
  | .lst _,⟨_,h,_⟩=>⟨_,h⟩
  | .dct _,⟨_,h,_⟩=>⟨_,h⟩
  | .ins _ _,⟨_,_,h,_⟩=>⟨_,h⟩
  | .exc _,⟨_,h,_⟩=>⟨_,h⟩
  | .tb _,⟨_,h,_⟩=>⟨_,h⟩
theorem RelH.none {G:G3} {H:Hp} {L:LHp} (h:RelH G H L) {p:Addr} (hp:H p=none):L p=none:=by
  cases e:L p with
  | none=>rfl
  | some o=>obtain ⟨u,q⟩:=(h p o e).ex;rw [hp] at q;cases q
theorem RO.keep {G:G3} {H H':Hp} (t:TSt H H') {a:Addr} (e:H' a=H a):∀ {o:LO},RO G H a o→RO G H' a o
  | .lst _,⟨xs,h,r⟩=>⟨xs,e.trans h,r.ts t⟩
  | .dct _,⟨xs,h,r⟩=>⟨xs,e.trans h,Paired.mapP r fun _ _ ⟨a,b⟩=>⟨a,b.ts t⟩⟩
  | .ins _ _,⟨dx,xs,h,r⟩=>⟨dx,xs,e.trans h,Paired.mapP r fun _ _ ⟨a,b⟩=>⟨a,b.ts t⟩⟩
  | .exc _,⟨o,h,c⟩=>⟨o,e.trans h,c⟩
  | .tb _,h=>TabR.keep h e fun b o u z=>t b _ rfl z
theorem RelH.skip {G:G3} {H:Hp} {L:LHp} (h:RelH G H L) {p:Addr} {o:HO} (hp:H p=.none):RelH G (upd H p o) L:=fun a u e=>by
  obtain ⟨x,q⟩:=(h a u e).ex
  exact (h a u e).keep (TSt.new hp) (qt (zr q hp))
theorem RelH.newL {G:G3} {H:Hp} {L:LHp} (h:RelH G H L) {p:Addr} {ys:List Y} {xs:List V} (hp:H p=.none) (r:RVs G H ys xs):RelH G (upd H p (.lst xs)) (qh L p (.lst ys)):=fun a u e=>by
  by_cases c:a=p
  · subst c
    rw [q8] at e;cases e
    exact ⟨xs,zx,r.ts (TSt.new hp)⟩
  · rw [qf c] at e
    exact (h a u e).keep (TSt.new hp) (qt c)
theorem RelH.setL {G:G3} {H:Hp} {L:LHp} (h:RelH G H L) {p:Addr} {ys:List Y} {xs zs:List V} (hp:H p=some (.lst zs)) (r:RVs G H ys xs):RelH G (upd H p (.lst xs)) (qh L p (.lst ys)):=fun a u e=>by
  by_cases c:a=p
  · subst c
    rw [q8] at e;cases e
    exact ⟨xs,zx,r.ts (TSt.lst hp)⟩
  · rw [qf c] at e
    exact (h a u e).keep (TSt.lst hp) (qt c)
def LSub (L L':LHp):Prop:=∀ a o,L a=some o→L' a=some o
theorem LSub.refl (L:LHp):LSub L L:=fun _ _ h=>h
theorem LSub.trans {L L1 L2:LHp} (a:LSub L L1) (b:LSub L1 L2):LSub L L2:=fun c o h=>b c o (a c o h)
theorem LSub.new {L:LHp} {p:Addr} {o:LO} (h:L p=none):LSub L (qh L p o):=fun a u e=>by rw [qf (neL e h)];exact e
theorem RelH.sub {G:G3} {H:Hp} {L L':LHp} (h:RelH G H L') (s:LSub L L'):RelH G H L:=fun a o e=>h a o (s a o e)
abbrev St3:=List (Option Y)
structure RelS (G:G3) (H:Hp) (σ:St) (τ:St3):Prop where
  len:σ.length=τ.length
  get:∀ (i:Nat) y,τ[i]?=some (some y)→∃ v,σ[i]?=some (some v)∧RV G H y v
theorem RelS.ts {G:G3} {H H':Hp} {σ:St} {τ:St3} (h:RelS G H σ τ) (t:TSt H H'):RelS G H' σ τ:=
  ⟨h.len,fun i y e=>let ⟨v,a,b⟩:=h.get i y e;⟨v,a,b.ts t⟩⟩
theorem RelS.set {G:G3} {H:Hp} {σ:St} {τ:St3} (h:RelS G H σ τ) {i:Nat} {v:V} {y:Y} (r:RV G H y v):RelS G H (σ.set i (some v)) (τ.set i (some y)):=by
  refine ⟨by simp [h.len],fun j z e=>?_⟩
  by_cases c:i=j
  · subst c
    have hi:i<τ.length:=by
      by_cases q:i<τ.length
      · exact q
      · rw [List.getElem?_eq_none (by simp;omega)] at e;cases e
    rw [List.getElem?_set_self hi] at e
    cases e
    exact ⟨v,List.getElem?_set_self (by rw [h.len];exact hi),r⟩
  · rw [List.getElem?_set_ne c] at e ⊢
    exact h.get j z e
theorem RelS.more {G:G3} {H:Hp} {σ:St} {τ:St3} (h:RelS G H σ τ) (n:Nat):RelS G H (σ++List.replicate n none) (τ++List.replicate n none):=by
  refine ⟨by simp [h.len],fun j z e=>?_⟩
  by_cases c:j<τ.length
  · rw [List.getElem?_append_left c] at e
    rw [List.getElem?_append_left (by rw [h.len];exact c)]
    exact h.get j z e
  · rw [List.getElem?_append_right (by omega),List.getElem?_replicate] at e
    split at e<;>cases e
def au0:St3→Nat→Option Y
  | [],_=>none
  | o::_,0=>o
  | _::r,i+1=>au0 r i
theorem akn:∀ (τ:St3) (i:Nat) {y:Y},au0 τ i=some y→τ[i]?=some (some y)
  | [],_,_,h=>by cases h
  | o::_,0,_,h=>by simp [au0] at h;simp [h]
  | _::r,i+1,_,h=>by simp only [List.getElem?_cons_succ];exact akn r i h
abbrev YK:=Y→LHp→Prop
abbrev TE3:=St3→LHp→YK→Prop
abbrev TT3:=St3→LHp→(Bool→LHp→Prop)→Prop
abbrev TA3:=St3→LHp→(List Y→LHp→Prop)→Prop
structure Ends3 where
  nx:St3→LHp→Prop
  rt:YK
  bk:St3→LHp→Prop:=fun _ _=>False
  ct:St3→LHp→Prop:=fun _ _=>False
abbrev TS3:=Ends3→St3→LHp→Prop
abbrev TG3:=Y→St3→LHp→(St3→LHp→Prop)→Prop
abbrev aqv:=List Y→St3→LHp→(St3→LHp→Prop)→Prop
abbrev TI3:=St3→LHp→(List Y→(LHp→Prop)→LHp→Prop)→Prop
abbrev R23:=Y→Y→LHp→YK→Prop
def Aft (G:G3) (H:Hp) (Q3:YK) (Q:VK):Prop:=∀ v H' y L',TSt H H'→RelH G H' L'→RV G H' y v→Q3 y L'→Q v H'
def AftB (G:G3) (H:Hp) (Q3:Bool→LHp→Prop) (Q:Bool→Hp→Prop):Prop:=∀ b H' L',TSt H H'→RelH G H' L'→Q3 b L'→Q b H'
def a5u (G:G3) (H:Hp) (Q3:List Y→LHp→Prop) (Q:List V→Hp→Prop):Prop:=∀ vs H' ys L',TSt H H'→RelH G H' L'→RVs G H' ys vs→Q3 ys L'→Q vs H'
def AftS (G:G3) (H:Hp) (Q3:St3→LHp→Prop) (Q:St→Hp→Prop):Prop:=∀ σ H' τ L',TSt H H'→RelS G H' σ τ→RelH G H' L'→Q3 τ L'→Q σ H'
theorem Aft.ts {G:G3} {H H':Hp} {Q3:YK} {Q:VK} (h:Aft G H Q3 Q) (t:TSt H H'):Aft G H' Q3 Q:=fun v H2 y L' t2=>h v H2 y L' (t.trans t2)
theorem AftB.ts {G:G3} {H H':Hp} {Q3:Bool→LHp→Prop} {Q:Bool→Hp→Prop} (h:AftB G H Q3 Q) (t:TSt H H'):AftB G H' Q3 Q:=fun v H2 L' t2=>h v H2 L' (t.trans t2)
theorem AftS.ts {G:G3} {H H':Hp} {Q3:St3→LHp→Prop} {Q:St→Hp→Prop} (h:AftS G H Q3 Q) (t:TSt H H'):AftS G H' Q3 Q:=fun v H2 y L' t2=>h v H2 y L' (t.trans t2)
structure AftD (G:G3) (H:Hp) (D3:Ends3) (D:Ends):Prop where
  nx:AftS G H D3.nx D.nx
  rt:Aft G H D3.rt D.rt
  bk:AftS G H D3.bk D.bk
  ct:AftS G H D3.ct D.ct
theorem AftD.ts {G:G3} {H H':Hp} {D3:Ends3} {D:Ends} (h:AftD G H D3 D) (t:TSt H H'):AftD G H' D3 D:=⟨h.nx.ts t,h.rt.ts t,h.bk.ts t,h.ct.ts t⟩
def upE (G:G3) (t:TE3):TE:=fun σ H Q=>∃ τ L Q3,RelS G H σ τ∧RelH G H L∧t τ L Q3∧Aft G H Q3 Q
def upT (G:G3) (t:TT3):TT:=fun σ H Q=>∃ τ L Q3,RelS G H σ τ∧RelH G H L∧t τ L Q3∧AftB G H Q3 Q
def upA (G:G3) (t:TA3):TA:=fun σ H Q=>∃ τ L Q3,RelS G H σ τ∧RelH G H L∧t τ L Q3∧a5u G H Q3 Q
def upS (G:G3) (t:TS3):L2.TS:=fun D σ H=>∃ τ L D3,RelS G H σ τ∧RelH G H L∧t D3 τ L∧AftD G H D3 D
def upG (G:G3) (g:TG3):TG:=fun v σ H Q=>∃ y τ L Q3,RV G H y v∧RelS G H σ τ∧RelH G H L∧g y τ L Q3∧AftS G H Q3 Q
def a55 (G:G3) (g:aqv):TGs:=fun vs σ H Q=>∃ ys τ L Q3,RVs G H ys vs∧RelS G H σ τ∧RelH G H L∧g ys τ L Q3∧AftS G H Q3 Q
structure Yields (G:G3) (H₀:Hp) (J:It) (ys:List Y) (keep:LHp→Prop):Prop where
  go:∀ i H L,TSt H₀ H→RelH G H L→keep L→i<ys.length→J.go i H
  yld:∀ i H L x H' y,TSt H₀ H→RelH G H L→keep L→ys[i]?=some y→J.yld i H x H'→TSt H H'∧RelH G H' L∧RV G H' y x
  stop:∀ H L,TSt H₀ H→RelH G H L→keep L→J.stop ys.length H
def upI (G:G3) (wi:TI3):TI:=fun σ H R=>∃ τ L R3,RelS G H σ τ∧RelH G H L∧wi τ L R3∧∀ J H' ys keep L',TSt H H'→RelH G H' L'→Yields G H' J ys keep→R3 ys keep L'→R J H'
def upR (G:G3) (r3:R23):R2:=fun x y H Q=>∃ x3 y3 L Q3,RV G H x3 x∧RV G H y3 y∧RelH G H L∧r3 x3 y3 L Q3∧Aft G H Q3 Q
def upL (G:G3) (r3:List Y→LHp→YK→Prop):List V→Hp→VK→Prop:=fun xs H Q=>∃ ys L Q3,RVs G H ys xs∧RelH G H L∧r3 ys L Q3∧Aft G H Q3 Q
def upU (G:G3) (r3:Y→LHp→YK→Prop):V→Hp→VK→Prop:=fun x H Q=>∃ y L Q3,RV G H y x∧RelH G H L∧r3 y L Q3∧Aft G H Q3 Q
theorem PE.imp {X:Cx} {e:Expr} {t u:TE} (h:PE X e t) (q:∀ σ H Q,u σ H Q→t σ H Q):PE X e u:=fun pins s σ H Q I z=>h pins s σ H Q I (q σ H Q z)
theorem PT.imp {X:Cx} {e:Expr} {t u:TT} (h:PT X e t) (q:∀ σ H Q,u σ H Q→t σ H Q):PT X e u:=fun pins s σ H Q I z=>h pins s σ H Q I (q σ H Q z)
theorem PW.imp {X:Cx} {e:Expr} {t u:TT} (h:PW X e t) (q:∀ σ H Q,u σ H Q→t σ H Q):PW X e u:=fun wh pins s σ H Q I z=>h wh pins s σ H Q I (q σ H Q z)
theorem PA.imp {X:Cx} {e:List Expr} {t u:TA} (h:PA X e t) (q:∀ σ H Q,u σ H Q→t σ H Q):PA X e u:=fun pos pins s σ H Q I z=>h pos pins s σ H Q I (q σ H Q z)
theorem PS.imp {X:Cx} {e:Stmt} {t u:L2.TS} (h:PS X e t) (q:∀ D σ H,u D σ H→t D σ H):PS X e u:=fun pins s σ H Q I z=>h pins s σ H Q I (q _ σ H z)
theorem PSs.imp {X:Cx} {e:List Stmt} {t u:L2.TS} (h:PSs X e t) (q:∀ D σ H,u D σ H→t D σ H):PSs X e u:=fun pins s σ H Q I z=>h pins s σ H Q I (q _ σ H z)
theorem PF.imp {X:Cx} {e:List Expr} {t u:TT} (h:PF X e t) (q:∀ σ H Q,u σ H Q→t σ H Q):PF X e u:=fun pins s σ H Q I z=>h pins s σ H Q I (q σ H Q z)
end L3
namespace L3
open PySem L2
def vf (b:Bool) (A B:Prop):Prop:=match b with
  | true=>A
  | false=>B
theorem adb {b:Bool} {A B:Prop} (e:b=true) (h:A):vf b A B:=by rw [e];exact h
theorem kf {b:Bool} {A B:Prop} (e:b=false) (h:B):vf b A B:=by rw [e];exact h
theorem we {p:Prop} [Decidable p] {A B:Prop} (h:p→A) (k:¬p→B):vf (decide p) A B:=by
  by_cases c:p
  · rw [decide_eq_true c];exact h c
  · rw [decide_eq_false c];exact k c
theorem avk {p:Prop} [Decidable p] {A B:Prop} (c:p) (h:A):vf (decide p) A B:=by rw [decide_eq_true c];exact h
theorem apb {p:Prop} [Decidable p] {A B:Prop} (c:¬p) (h:B):vf (decide p) A B:=by rw [decide_eq_false c];exact h
def nb (neg b:Bool):Bool:=match neg with
  | true=>!b
  | false=>b
def qb (i:Nat) (τ:St3) (L:LHp) (Q:YK):Prop:=match au0 τ i with
  | some y=>Q y L
  | none=>False
def yC (y:Y) (_:St3) (L:LHp) (Q:YK):Prop:=Q y L
def yOp (r:R23) (ta tb:TE3) (τ:St3) (L:LHp) (Q:YK):Prop:=ta τ L fun x L1=>tb τ L1 fun y L2=>r x y L2 Q
def yUn (r:Y→LHp→YK→Prop) (ta:TE3) (τ:St3) (L:LHp) (Q:YK):Prop:=ta τ L fun x L1=>r x L1 Q
def yI (C:Int→Int→Prop) (g:Int→Int→Y) (x y:Y) (L:LHp) (Q:YK):Prop:=match x,y with
  | .int i,.int j=>C i j∧Q (g i j) L
  | _,_=>False
def yI0 (g:Int→Int→Y) (x y:Y) (L:LHp) (Q:YK):Prop:=match x,y with
  | .int i,.int j=>Q (g i j) L
  | _,_=>False
def azy (x:Y) (L:LHp) (Q:YK):Prop:=match x with
  | .int i=>Q (.int (-i)) L
  | _=>False
def ab9 (L:LHp):Y→Option (List Y)
  | .tup ys=>some ys
  | .sq ys=>some ys
  | .ref a=>match L a with
    | some (.lst ys)=>some ys
    | _=>none
  | _=>none
@[irreducible] def abl (L:LHp) (a:Addr) (k:List Y→Prop):Prop:=match L a with
  | some (.lst ys)=>k ys
  | _=>False
theorem jx {L:LHp} {a:Addr} {k:List Y→Prop} (h:abl L a k):∃ ys,L a=some (.lst ys)∧k ys:=by
  unfold abl at h
  split at h
  · rename_i ys e;exact ⟨ys,e,h⟩
  · exact h.elim
theorem qz {L:LHp} {a:Addr} {k:List Y→Prop} {ys:List Y} (e:L a=some (.lst ys)) (h:k ys):abl L a k:=by
  unfold abl;rw [e];exact h
def agg (L:LHp) (x:Y) (k:List Y→Prop):Prop:=match x with
  | .tup ys=>k ys
  | .sq ys=>k ys
  | .ref a=>abl L a k
  | _=>False
theorem zg {L:LHp} {a:Addr} {ys:List Y} (h:L a=some (.lst ys)):ab9 L (.ref a)=some ys:=by
  show (match L a with | some (.lst ys)=>some ys | _=>none)=some ys
  rw [h]
theorem w9 {L:LHp} {x:Y} {k:List Y→Prop} (h:agg L x k):∃ ys,ab9 L x=some ys∧k ys:=by
  cases x with
  | tup ys=>exact ⟨ys,rfl,h⟩
  | sq ys=>exact ⟨ys,rfl,h⟩
  | ref a=>obtain ⟨ys,e,q⟩:=jx h;exact ⟨ys,zg e,q⟩
  | _=>exact h.elim
theorem ajm {L:LHp} {a:Addr} {ys:List Y} (h:ab9 L (.ref a)=some ys):L a=some (.lst ys):=by
  have h':(match L a with | some (.lst ys)=>some ys | _=>none)=some ys:=h
  split at h'
  · rename_i e;cases h';exact e
  · cases h'
theorem awy {L:LHp} {x:Y} {k:List Y→Prop} {ys:List Y} (e:ab9 L x=some ys) (h:k ys):agg L x k:=by
  cases x with
  | tup zs=>cases e;exact h
  | sq zs=>cases e;exact h
  | ref a=>exact qz (ajm e) h
  | _=>cases e
theorem ql {L:LHp} {a:Addr} {k:List Y→Prop} {ys:List Y} (e:L a=some (.lst ys)) (h:k ys):agg L (.ref a) k:=awy (zg e) h
def ju (x y:Y) (L:LHp) (Q:YK):Prop:=match x,y with
  | .int i,.int j=>Q (.int (i+j)) L
  | .str a,.str b=>a.length+b.length≤sizeLine∧Q (.str (a++b)) L
  | .ref a,.ref b=>∃ ys zs,L a=some (.lst ys)∧L b=some (.lst zs)∧ys.length+zs.length≤sizeLine∧∀ p,L p=none→Q (.ref p) (qh L p (.lst (ys++zs)))
  | _,_=>False
def atK {α:Type} (L:LHp) (Q:α→LHp→Prop):Option α→Prop
  | some v=>Q v L
  | none=>False
def v9 (kvs:List (Key×Y)) (k:Key):Option Y:=(kvs.find? fun p=>decide (p.1=k)).map (·.2)
@[irreducible] def aky (L:LHp) (a:Addr) (k:List (Key×Y)→Prop):Prop:=match L a with
  | some (.dct kvs)=>k kvs
  | _=>False
theorem abo {L:LHp} {a:Addr} {k:List (Key×Y)→Prop} (h:aky L a k):∃ kvs,L a=some (.dct kvs)∧k kvs:=by
  unfold aky at h
  split at h
  · rename_i ys e;exact ⟨ys,e,h⟩
  · exact h.elim
theorem wx {L:LHp} {a:Addr} {k:List (Key×Y)→Prop} {kvs:List (Key×Y)} (e:L a=some (.dct kvs)) (h:k kvs):aky L a k:=by
  unfold aky;rw [e];exact h
def yIx (x y:Y) (L:LHp) (Q:YK):Prop:=match x,y with
  | .str z,.int i=>z.length≤sizeLine∧atK L (fun c L=>Q (.str ⟨#[c]⟩) L) (atI z.cps.toList i)
  | .cd kvs,.str k=>atK L (fun s L=>Q (.str s) L) (kvs.lookup k)
  | .ref a,.str k=>aky L a fun kvs=>atK L Q (v9 kvs (.inr k))
  | x,.int i=>agg L x fun ys=>atK L Q (atI ys i)
  | _,_=>False
def wu (xs:List Y) (L:LHp) (Q:YK):Prop:=match xs with
  | [.str z]=>z.length≤sizeLine∧Q (.int z.length) L
  | [x]=>agg L x fun ys=>Q (.int ys.length) L
  | _=>False
def au1 (xs:List Y) (L:LHp) (Q:YK):Prop:=match xs with
  | [.int i,.int j]=>Q (.int (max i j)) L
  | _=>False
def a08 (xs:List Y) (L:LHp) (Q:YK):Prop:=match xs with
  | [.int i,.int j]=>Q (.int (min i j)) L
  | _=>False
inductive Ty3 where
  | non | bool | int | str | tuple | list | dict
def Ty3.nm:Ty3→String
  | .non => "NoneType"
  | .bool => "bool"
  | .int => "int"
  | .str => "str"
  | .tuple => "tuple"
  | .list => "list"
  | .dict => "dict"
def tyY (L:LHp):Y→Option Ty3
  | .non=>some .non
  | .bl _=>some .bool
  | .int _=>some .int
  | .str _=>some .str
  | .tup _=>some .tuple
  | .sq _=>some .list
  | .ref a=>match L a with
    | some (.lst _)=>some .list
    | some (.dct _)=>some .dict
    | _=>none
  | _=>none
def av1:Ty3→Ty3→Bool
  | .bool,.int=>true
  | .bool,.bool=>true
  | .int,.int=>true
  | .str,.str=>true
  | .tuple,.tuple=>true
  | .list,.list=>true
  | .dict,.dict=>true
  | .non,.non=>true
  | _,_=>false
@[irreducible] def tyK (L:LHp) (a:Addr) (k:Ty3→Prop):Prop:=match tyY L (.ref a) with
  | some T=>k T
  | none=>False
theorem ax8 {L:LHp} {a:Addr} {k:Ty3→Prop} (h:tyK L a k):∃ T,tyY L (.ref a)=some T∧k T:=by
  unfold tyK at h
  split at h
  · rename_i T e;exact ⟨T,e,h⟩
  · exact h.elim
def a3a (L:LHp) (x:Y) (k:Ty3→Prop):Prop:=match x with
  | .non=>k .non
  | .bl _=>k .bool
  | .int _=>k .int
  | .str _=>k .str
  | .tup _=>k .tuple
  | .sq _=>k .list
  | .ref a=>tyK L a k
  | _=>False
theorem atk {L:LHp} {x:Y} {k:Ty3→Prop} (h:a3a L x k):∃ T,tyY L x=some T∧k T:=by
  cases x with
  | ref a=>exact ax8 h
  | ty n=>exact h.elim
  | cd k=>exact h.elim
  | _=>exact ⟨_,rfl,h⟩
def apv (S:Ty3) (te:TE3) (τ:St3) (L:LHp) (Q:YK):Prop:=te τ L fun x L1=>a3a L1 x fun T=>Q (.bl (av1 T S)) L1
def aga:Y→Bool
  | .non=>true
  | .bl _=>true
  | .int _=>true
  | .str _=>true
  | _=>false
def toV:Y→V
  | .non=>.non
  | .bl b=>.bl b
  | .int i=>.int i
  | .str x=>.str x
  | _=>.ty "?"
theorem RV.flat {G:G3} {H:Hp}:∀ {y:Y} {v:V},aga y=true→RV G H y v→v=toV y
  | .non,_,_,h=>h
  | .bl _,_,_,h=>h
  | .int _,_,_,h=>h
  | .str _,_,_,h=>h
theorem adj:∀ {y:Y},aga y=true→wq (toV y)=true
  | .non,_=>rfl
  | .bl _,_=>rfl
  | .int _,_=>rfl
  | .str _,_=>rfl
theorem RVs.flat {G:G3} {H:Hp}:∀ {ys:List Y} {xs:List V},ys.all aga=true→RVs G H ys xs→xs=ys.map toV
  | [],_,_,h=>h
  | y::ys,_,f,⟨x,xs',e,r,s⟩=>by
    rw [List.all_cons,Bool.and_eq_true] at f
    rw [e,r.flat f.1,s.flat f.2];rfl
def aq4:Y→Bool
  | .ref _=>true
  | .sq _=>true
  | _=>false
def DatN (L:LHp):Nat→Y→Da→Prop
  | 0,y,d=>aga y=true∧d=.s (toV y)
  | n+1,y,d=>(aga y=true∧d=.s (toV y))∨(∃ ys ds,y=.tup ys∧d=.tup ds∧Paired (DatN L n) ys ds)∨(∃ ys ds,aq4 y=true∧d=.lst ds∧ab9 L y=some ys∧Paired (DatN L n) ys ds)
def azm:Y→Bool
  | .ref _=>true
  | .tup _=>true
  | .sq _=>true
  | _=>false
def yEq (neg:Bool) (x y:Y) (L:LHp) (Q:YK):Prop:=match x,y with
  | .int i,.int j=>Q (.bl (nb neg (decide (i=j)))) L
  | .str i,.str j=>Q (.bl (nb neg (decide (i=j)))) L
  | .bl i,.bl j=>Q (.bl (nb neg (decide (i=j)))) L
  | x,y=>azm x=true∧azm y=true∧∃ n m d e,n≤128∧DatN L n x d∧DatN L m y e∧Q (.bl (nb neg (Da.eq d e))) L
def agf (neg:Bool) (ta:TE3) (τ:St3) (L:LHp) (Q:YK):Prop:=ta τ L fun x L1=>match x with
  | .non=>Q (.bl (!neg)) L1
  | _=>Q (.bl neg) L1
def yB (t:TE3) (τ:St3) (L:LHp) (Q:Bool→LHp→Prop):Prop:=t τ L fun x L1=>match x with
  | .bl c=>Q c L1
  | _=>False
def axw (t u:TT3) (τ:St3) (L:LHp) (Q:Bool→LHp→Prop):Prop:=t τ L fun c L1=>vf c (u τ L1 Q) (Q false L1)
def yOr (t u:TT3) (τ:St3) (L:LHp) (Q:Bool→LHp→Prop):Prop:=t τ L fun c L1=>vf c (Q true L1) (u τ L1 Q)
def a3b (t:TT3) (τ:St3) (L:LHp) (Q:Bool→LHp→Prop):Prop:=t τ L fun c L1=>Q (!c) L1
def ag3 (ta tb:TE3) (τ:St3) (L:LHp) (Q:YK):Prop:=ta τ L fun x L1=>match x with
  | .bl c=>vf c (tb τ L1 Q) (Q (.bl false) L1)
  | _=>False
def a1f (ta tb:TE3) (τ:St3) (L:LHp) (Q:YK):Prop:=ta τ L fun x L1=>match x with
  | .bl c=>vf c (Q (.bl true) L1) (tb τ L1 Q)
  | _=>False
def ayl (ta:TE3) (τ:St3) (L:LHp) (Q:YK):Prop:=ta τ L fun x L1=>match x with
  | .bl c=>Q (.bl (!c)) L1
  | _=>False
def yIf (t:TT3) (ta tb:TE3) (τ:St3) (L:LHp) (Q:YK):Prop:=t τ L fun c L1=>vf c (ta τ L1 Q) (tb τ L1 Q)
def qm (_:St3) (L:LHp) (Q:List Y→LHp→Prop):Prop:=Q [] L
def qc (ta:TE3) (tr:TA3) (τ:St3) (L:LHp) (Q:List Y→LHp→Prop):Prop:=ta τ L fun x L1=>tr τ L1 fun xs L2=>Q (x::xs) L2
def k8 (t:TA3) (τ:St3) (L:LHp) (Q:YK):Prop:=t τ L fun ys L1=>match Nat.ble ys.length 1000 with
  | true=>Q (.tup ys) L1
  | false=>False
def w6 (t:TA3) (τ:St3) (L:LHp) (Q:YK):Prop:=t τ L fun ys L1=>match Nat.ble ys.length 1000 with
  | true=>∀ p,L1 p=none→Q (.ref p) (qh L1 p (.lst ys))
  | false=>False
def yCB (r:List Y→LHp→YK→Prop) (t:TA3) (τ:St3) (L:LHp) (Q:YK):Prop:=t τ L fun vs L1=>r vs L1 Q
abbrev TO3:=St3→LHp→(Option Int→LHp→Prop)→Prop
def aab (_:St3) (L:LHp) (Q:Option Int→LHp→Prop):Prop:=Q none L
def abf (t:TE3) (τ:St3) (L:LHp) (Q:Option Int→LHp→Prop):Prop:=t τ L fun x L1=>match x with
  | .int i=>Q (some i) L1
  | _=>False
def aj8 (xs:List Y) (lo hi:Option Int):List Y:=(xs.drop (HT.sIx xs.length 0 lo)).take (HT.sIx xs.length xs.length hi - HT.sIx xs.length 0 lo)
def a33 (x:Y) (lo hi:Option Int) (L:LHp) (Q:YK):Prop:=match x with
  | .ref a=>abl L a fun ys=>∀ p,L p=none→Q (.ref p) (qh L p (.lst (aj8 ys lo hi)))
  | .sq ys=>∀ p,L p=none→Q (.ref p) (qh L p (.lst (aj8 ys lo hi)))
  | _=>False
def ySl (r:Y→Option Int→Option Int→LHp→YK→Prop) (te:TE3) (tl th:TO3) (τ:St3) (L:LHp) (Q:YK):Prop:=te τ L fun x L1=>tl τ L1 fun l L2=>th τ L2 fun u L3=>r x l u L3 Q
def qw (t u:TS3) (D:Ends3) (τ:St3) (L:LHp):Prop:=t { D with nx:=u D } τ L
def x9 (D:Ends3) (τ:St3) (L:LHp):Prop:=D.nx τ L
def v4 (te:TE3) (D:Ends3) (τ:St3) (L:LHp):Prop:=te τ L fun _ L1=>D.nx τ L1
def j9 (te:TE3) (D:Ends3) (τ:St3) (L:LHp):Prop:=te τ L D.rt
def kc (c:TT3) (t u:TS3) (D:Ends3) (τ:St3) (L:LHp):Prop:=c τ L fun b L1=>vf b (t D τ L1) (u D τ L1)
def z9 (te:TE3) (g:TG3) (D:Ends3) (τ:St3) (L:LHp):Prop:=te τ L fun x L1=>g x τ L1 D.nx
def wv:St3→Nat→Y→St3
  | [],_,_=>[]
  | _::r,0,y=>some y::r
  | o::r,i+1,y=>o::wv r i y
theorem vi:∀ (τ:St3) (i:Nat) (y:Y),wv τ i y=τ.set i (some y)
  | [],_,_=>rfl
  | _::_,0,_=>rfl
  | o::r,i+1,y=>by rw [wv,vi r i y];rfl
def qj (i:Nat) (y:Y) (τ:St3) (L:LHp) (Q:St3→LHp→Prop):Prop:=Q (wv τ i y) L
def aa2 (ys:List Y) (τ:St3) (L:LHp) (Q:St3→LHp→Prop):Prop:=match ys with
  | []=>Q τ L
  | _=>False
def zp (t:TG3) (u:aqv) (ys:List Y) (τ:St3) (L:LHp) (Q:St3→LHp→Prop):Prop:=match ys with
  | []=>False
  | y::r=>t y τ L fun τ' L'=>u r τ' L' Q
def aa7 (n:Nat) (t:aqv) (y:Y) (τ:St3) (L:LHp) (Q:St3→LHp→Prop):Prop:=match y with
  | .tup ys=>match ys.length==n with
    | true=>t ys τ L Q
    | false=>False
  | _=>False
def a3k (i j:Nat) (ta:TA3) (D:Ends3) (τ:St3) (L:LHp):Prop:=ta τ L fun vs L1=>match vs with
  | [v,w]=>D.nx (wv (wv τ i v) j w) L1
  | _=>False
def ipY (f:Int→Int→Int) (x y:Y) (L:LHp) (Q:YK):Prop:=match x,y with
  | .int i,.int j=>Q (.int (f i j)) L
  | _,_=>False
def avj (i:Nat) (te:TE3) (ti:R23) (D:Ends3) (τ:St3) (L:LHp):Prop:=match au0 τ i with
  | some x=>te τ L fun y L1=>ti x y L1 fun z L2=>D.nx (wv τ i z) L2
  | none=>False
def Frg {α:Type} (W:α→LHp→Prop) (x:α) (L:LHp):Prop:=∃ L',LSub L' L∧W x L'
def ahm (c:TT3) (tb:TS3) (D:Ends3) (τ:St3) (L:LHp):Prop:=∃ W:Nat→St3→LHp→Prop,(∃ m,W m τ L)∧∀ m τ L,W m τ L→
  c τ L fun b L1=>vf b (∃ N:St3→LHp→Prop,(∀ τ' L',N τ' L'→∃ m',m'<m∧W m' τ' L')∧tb { D with nx:=Frg N,ct:=Frg N,bk:=D.nx } τ L1) (D.nx τ L1)
@[irreducible] def aqo (ys:List Y) (keep:LHp→Prop) (g:TG3) (tb:TS3) (D:Ends3) (τ:St3) (L1:LHp):Prop:=∃ W:Nat→St3→LHp→Prop,W 0 τ L1∧(∀ i τ L,W i τ L→keep L)∧
  (∀ i y τ L,ys[i]?=some y→W i τ L→g y τ L fun τ2 L2=>tb { D with nx:=Frg (W (i+1)),ct:=Frg (W (i+1)),bk:=D.nx } τ2 L2)∧∀ τ L,W ys.length τ L→D.nx τ L
theorem agx {ys:List Y} {keep:LHp→Prop} {g:TG3} {tb:TS3} {D:Ends3} {τ:St3} {L1:LHp} (h:∃ W:Nat→St3→LHp→Prop,W 0 τ L1∧(∀ i τ L,W i τ L→keep L)∧
  (∀ i y τ L,ys[i]?=some y→W i τ L→g y τ L fun τ2 L2=>tb { D with nx:=Frg (W (i+1)),ct:=Frg (W (i+1)),bk:=D.nx } τ2 L2)∧∀ τ L,W ys.length τ L→D.nx τ L):aqo ys keep g tb D τ L1:=by unfold aqo;exact h
theorem ate {ys:List Y} {keep:LHp→Prop} {g:TG3} {tb:TS3} {D:Ends3} {τ:St3} {L1:LHp} (h:aqo ys keep g tb D τ L1):∃ W:Nat→St3→LHp→Prop,W 0 τ L1∧(∀ i τ L,W i τ L→keep L)∧
  (∀ i y τ L,ys[i]?=some y→W i τ L→g y τ L fun τ2 L2=>tb { D with nx:=Frg (W (i+1)),ct:=Frg (W (i+1)),bk:=D.nx } τ2 L2)∧∀ τ L,W ys.length τ L→D.nx τ L:=by unfold aqo at h;exact h
def ac7 (wi:TI3) (g:TG3) (tb:TS3) (D:Ends3) (τ:St3) (L:LHp):Prop:=wi τ L fun ys keep L1=>aqo ys keep g tb D τ L1
@[irreducible] def aou (L:LHp) (a:Addr) (R:List Y→(LHp→Prop)→LHp→Prop):Prop:=match L a with
  | some (.lst ys)=>R ys (fun L=>L a=some (.lst ys)) L
  | _=>False
theorem vh {L:LHp} {a:Addr} {R:List Y→(LHp→Prop)→LHp→Prop} {ys:List Y} (h:L a=some (.lst ys)) (q:∀ keep:LHp→Prop,(∀ L',L' a=L a→keep L')→R ys keep L):aou L a R:=by
  unfold aou
  rw [h]
  exact q _ fun L' e'=>e'.trans h
theorem ame {L:LHp} {a:Addr} {R:List Y→(LHp→Prop)→LHp→Prop} (h:aou L a R):∃ ys keep,ab9 L (.ref a)=some ys∧keep L∧(∀ L',keep L'→ab9 L' (.ref a)=some ys)∧R ys keep L:=by
  unfold aou at h
  split at h
  · rename_i ys e;exact ⟨ys,_,zg e,e,fun L' e'=>zg e',h⟩
  · exact h.elim
def xa (tl:TE3) (τ:St3) (L:LHp) (R:List Y→(LHp→Prop)→LHp→Prop):Prop:=tl τ L fun x L1=>match x with
  | .ref a=>aou L1 a R
  | .sq ys=>R ys (fun _=>True) L1
  | _=>False
def wt (lo:Int) (n:Nat):List Y:=(List.range n).map fun k=>.int (lo+(k:Nat))
def auy (ta:TA3) (τ:St3) (L:LHp) (R:List Y→(LHp→Prop)→LHp→Prop):Prop:=ta τ L fun vs L1=>match vs with
  | [.int j]=>(-(2 ^ 62)≤j∧j<2 ^ 62)∧R (wt 0 j.toNat) (fun _=>True) L1
  | _=>False
def av8 (_:St3) (L:LHp) (Q:Bool→LHp→Prop):Prop:=Q true L
@[irreducible] def lcK (ys:List Y) (keep:LHp→Prop) (n:Nat) (g:TG3) (tc:TT3) (te:TE3) (τ:St3) (L1:LHp) (Q:YK):Prop:=ys.length<sizeLine∧∃ W:Nat→List Y→LHp→Prop,W 0 [] L1∧(∀ i zs L,W i zs L→keep L)∧
  (∀ i y zs L,ys[i]?=some y→W i zs L→g y (τ++List.replicate n none) L fun τ2 L2=>tc τ2 L2 fun b L3=>vf b (te τ2 L3 fun z L4=>Frg (W (i+1)) (zs++[z]) L4) (Frg (W (i+1)) zs L3))∧
  ∀ zs L,W ys.length zs L→∀ p,L p=none→Q (.ref p) (qh L p (.lst zs))
theorem ao0 {ys:List Y} {keep:LHp→Prop} {n:Nat} {g:TG3} {tc:TT3} {te:TE3} {τ:St3} {L1:LHp} {Q:YK} (h:ys.length<sizeLine∧∃ W:Nat→List Y→LHp→Prop,W 0 [] L1∧(∀ i zs L,W i zs L→keep L)∧
  (∀ i y zs L,ys[i]?=some y→W i zs L→g y (τ++List.replicate n none) L fun τ2 L2=>tc τ2 L2 fun b L3=>vf b (te τ2 L3 fun z L4=>Frg (W (i+1)) (zs++[z]) L4) (Frg (W (i+1)) zs L3))∧
  ∀ zs L,W ys.length zs L→∀ p,L p=none→Q (.ref p) (qh L p (.lst zs))):lcK ys keep n g tc te τ L1 Q:=by unfold lcK;exact h
theorem aw2 {ys:List Y} {keep:LHp→Prop} {n:Nat} {g:TG3} {tc:TT3} {te:TE3} {τ:St3} {L1:LHp} {Q:YK} (h:lcK ys keep n g tc te τ L1 Q):ys.length<sizeLine∧∃ W:Nat→List Y→LHp→Prop,W 0 [] L1∧(∀ i zs L,W i zs L→keep L)∧
  (∀ i y zs L,ys[i]?=some y→W i zs L→g y (τ++List.replicate n none) L fun τ2 L2=>tc τ2 L2 fun b L3=>vf b (te τ2 L3 fun z L4=>Frg (W (i+1)) (zs++[z]) L4) (Frg (W (i+1)) zs L3))∧
  ∀ zs L,W ys.length zs L→∀ p,L p=none→Q (.ref p) (qh L p (.lst zs)):=by unfold lcK at h;exact h
def yLC (n:Nat) (wi:TI3) (g:TG3) (tc:TT3) (te:TE3) (τ:St3) (L:LHp) (Q:YK):Prop:=wi τ L fun ys keep L1=>lcK ys keep n g tc te τ L1 Q
abbrev Sp3:=List Y→LHp→YK→Prop
def zc (sp:Sp3) (t:TA3) (τ:St3) (L:LHp) (Q:YK):Prop:=t τ L fun ys L1=>sp ys L1 Q
def jj (x:Y) (vs:List Y) (L:LHp) (Q:YK):Prop:=match x,vs with
  | .ref a,[v]=>abl L a fun ys=>ys.length<sizeLine∧Q .non (qh L a (.lst (ys++[v])))
  | _,_=>False
def adw (x:Y) (vs:List Y) (L:LHp) (Q:YK):Prop:=match x,vs with
  | .ref a,[.ref b]=>abl L a fun ys=>abl L b fun zs=>ys.length+zs.length≤sizeLine∧Q .non (qh L a (.lst (ys++zs)))
  | _,_=>False
def auh (x:Y) (vs:List Y) (L:LHp) (Q:YK):Prop:=match x,vs with
  | .ref a,[]=>abl L a fun ys=>atK L (fun v L=>Q v (qh L a (.lst ys.dropLast))) (ys[ys.length - 1]?)
  | _,_=>False
end L3
namespace L3
open PySem L2
section
variable {G:G3} {H:Hp} {L:LHp}
theorem OpR.imp {X:Cx} {f:Value→Value→Sem Value} {r r':R2} (h:OpR X f r) (q:∀ x y H Q,r' x y H Q→r x y H Q):OpR X f r':=fun pins s σ H x y v u Q I rx ry z=>h pins s σ H x y v u Q I rx ry (q x y H Q z)
theorem UnR.imp {X:Cx} {f:Value→Sem Value} {r r':V→Hp→VK→Prop} (h:UnR X f r) (q:∀ x H Q,r' x H Q→r x H Q):UnR X f r':=fun pins s σ H x v Q I rx z=>h pins s σ H x v Q I rx (q x H Q z)
theorem CallR.imp {X:Cx} {f:Value} {r r':List V→Hp→VK→Prop} (h:CallR X f r) (q:∀ x H Q,r' x H Q→r x H Q):CallR X f r':=fun pins s σ H x v Q I rx z=>h pins s σ H x v Q I rx (q x H Q z)
theorem IxR.imp {X:Cx} {r r':R2} (h:IxR X r) (q:∀ x y H Q,r' x y H Q→r x y H Q):IxR X r':=fun value slice pins s σ H x y v u Q I rx ry z=>h value slice pins s σ H x y v u Q I rx ry (q x y H Q z)
theorem MtM.imp {X:Cx} {id:String} {r r':V→List V→Hp→VK→Prop} (h:MtM X id r) (q:∀ x xs H Q,r' x xs H Q→r x xs H Q):MtM X id r':=fun pins s σ H x xs v us Q I rx ry z=>h pins s σ H x xs v us Q I rx ry (q x xs H Q z)
theorem alh {y:Y} {v:V} {ys:List Y} (rl:RelH G H L) (r:RV G H y v) (h:ab9 L y=some ys):∃ p xs,v=.ref p∧(SqL G.K H p xs∨SqT G.K H p xs)∧RVs G H ys xs:=by
  cases y with
  | tup zs=>
    obtain ⟨a,xs,e,s,q⟩:=r
    cases h
    exact ⟨a,xs,e,.inr s,q⟩
  | sq zs=>
    obtain ⟨a,xs,e,s,q⟩:=r
    cases h
    exact ⟨a,xs,e,.inl s.sq,q⟩
  | ref a=>
    cases (show v=.ref a from r)
    have h':(match L a with | some (.lst ys)=>some ys | _=>none)=some ys:=h
    split at h'
    · rename_i zs e
      cases h'
      obtain ⟨xs,e2,q⟩:=rl a _ e
      exact ⟨a,xs,rfl,.inl (SqL.of e2),q⟩
    · cases h'
  | _=>cases h
theorem azn {ys:List Y} {xs:List V} {i:Int} {y:Y} (s:RVs G H ys xs) (h:atI ys i=some y):∃ x,atI xs i=some x∧RV G H y x:=by
  unfold atI at h ⊢
  rw [← s.length]
  cases e:ixN ys.length i with
  | none=>rw [e] at h;cases h
  | some j=>
    rw [e] at h
    exact s.get (i:=j) h
end
section
variable {X:Cx} {a b c e:Expr} {ta tb tc te:TE3} {pos:Pos}
abbrev QE (X:Cx) (e:Expr) (t:TE3):Prop:=PE X e (upE X.g3 t)
abbrev QT (X:Cx) (e:Expr) (t:TT3):Prop:=PT X e (upT X.g3 t)
abbrev QW (X:Cx) (e:Expr) (t:TT3):Prop:=PW X e (upT X.g3 t)
abbrev QA (X:Cx) (es:List Expr) (t:TA3):Prop:=PA X es (upA X.g3 t)
abbrev QS (X:Cx) (st:Stmt) (t:TS3):Prop:=PS X st (upS X.g3 t)
abbrev QSs (X:Cx) (st:List Stmt) (t:TS3):Prop:=PSs X st (upS X.g3 t)
abbrev QG (X:Cx) (e:Expr) (g:TG3):Prop:=PG X e (upG X.g3 g)
abbrev QGs (X:Cx) (es:List Expr) (g:aqv):Prop:=PGs X es (a55 X.g3 g)
abbrev QI (X:Cx) (tg it:Expr) (w:TI3):Prop:=PI X tg it (upI X.g3 w)
abbrev QF (X:Cx) (es:List Expr) (t:TT3):Prop:=PF X es (upT X.g3 t)
theorem QE.of_var {i:Nat} (h:PE X e (azt i)):QE X e (qb i):=PE.imp h fun σ H Q ⟨τ,L,Q3,rs,rl,z,k⟩=>by
  unfold qb at z
  split at z
  · rename_i y ey
    obtain ⟨v,ev,rv⟩:=rs.get i y (akn _ _ ey)
    exact ⟨v,ev,k v H y L (TSt.refl _) rl rv z⟩
  · exact z.elim
theorem QE.of_c {v:V} {y:Y} (h:PE X e (tC v)) (q:∀ H,RV X.g3 H y v):QE X e (yC y):=PE.imp h fun σ H Q ⟨τ,L,Q3,rs,rl,z,k⟩=>k v H y L (TSt.refl _) rl (q H) z
theorem qv (i:Nat) {x:Str} {pos:Pos} (hN:X.N[i]?=some x:=by rfl) (hv:Vis X.env.scope x:=by first | exact Or.inl rfl | exact Or.inr (Or.inl rfl) | exact Or.inr (Or.inr rfl)) (hd:(x==("__debug__" : Str))=false:=by decide)
    (hcd:(x==("__classdict__" : Str))=false:=by decide):QE X (.Name x pos) (qb i):=QE.of_var (pv i hN hv hd hcd)
theorem aie {j:Nat}:QE X (.Constant .none j pos) (yC .non):=QE.of_c a16 fun _=>rfl
theorem a2g {b:Bool} {j:Nat}:QE X (.Constant (.bool b) j pos) (yC (.bl b)):=QE.of_c a3f fun _=>rfl
theorem qg {i:Int} {j:Nat}:QE X (.Constant (.int i) j pos) (yC (.int i)):=QE.of_c a0r fun _=>rfl
theorem zq {x:Str} {j:Nat}:QE X (.Constant (.str x) j pos) (yC (.str x)):=QE.of_c ahc fun _=>rfl
theorem a3i {x:Str} {c:Addr} {y:Y} (hg:Gl X x) (hm:X.mg x=some (.ref c)) (q:∀ H,RV X.g3 H y (.ref c)) (hd:(x==("__debug__" : Str))=false:=by decide):QE X (.Name x pos) (yC y):=QE.of_c (ayp hg hm hd) q
theorem aq5 {G:G3} {r:R23} {ta tb:TE3} (σ:St) (H:Hp) (Q:VK):upE G (yOp r ta tb) σ H Q→tOp (upR G r) (upE G ta) (upE G tb) σ H Q:=fun ⟨τ,L,Q3,rs,rl,z,k⟩=>
  ⟨τ,L,_,rs,rl,z,fun v H1 y L1 t1 rl1 rv1 z1=>⟨τ,L1,_,rs.ts t1,rl1,z1,fun v2 H2 y2 L2 t2 rl2 rv2 z2=>⟨y,y2,L2,Q3,rv1.ts t2,rv2,rl2,z2,k.ts (t1.trans t2)⟩⟩⟩
theorem qp {op:Operator} {r:R23} (h:OpR X (binaryOp op) (upR X.g3 r)) (ha:QE X a ta) (hb:QE X b tb):QE X (.BinOp a op b pos) (yOp r ta tb):=PE.imp (a3n h ha hb) aq5
theorem z7 {r:R23} (h:IxR X (upR X.g3 r)) (ha:QE X a ta) (hb:QE X b tb) (hp:ali b):QE X (.Subscript a b pos) (yOp r ta tb):=PE.imp (ayu h ha hb hp) aq5
theorem ki {op:CmpOp} {r:R23} (h:OpR X (compareOp op) (upR X.g3 r)) (ha:QE X a ta) (hb:QE X b tb) (hm:behindInMarks op b=false):QE X (.Compare a [op] [b] pos) (yOp r ta tb):=PE.imp (avq h ha hb hm) aq5
theorem a3r {G:G3} {t:TE3} (σ:St) (H:Hp) (Q:Bool→Hp→Prop):upT G (yB t) σ H Q→aye (upE G t) σ H Q:=fun ⟨τ,L,Q3,rs,rl,z,k⟩=>
  ⟨τ,L,_,rs,rl,z,fun v H1 y L1 t1 rl1 rv1 z1=>by
    cases y with
    | bl b=>exact ⟨b,rv1,k b H1 L1 t1 rl1 z1⟩
    | _=>exact z1.elim⟩
theorem az4 {G:G3} {t:TE3} (σ:St) (H:Hp) (Q:Bool→Hp→Prop):upT G (yB t) σ H Q→L2.tB (upE G t) σ H Q:=a3r σ H Q
theorem zm {op:CmpOp} {r:R23} (h:OpR X (compareOp op) (upR X.g3 r)) (ha:QE X a ta) (hb:QE X b tb) (hm:behindInMarks op b=false):QT X (.Compare a [op] [b] pos) (yB (yOp r ta tb)):=
  PT.imp (awe h ha hb hm) fun σ H Q q=>by
    have q':=a3r σ H Q q
    obtain ⟨τ,L,Q3,rs,rl,z,k⟩:=q'
    exact aq5 σ H _ ⟨τ,L,Q3,rs,rl,z,k⟩
theorem aa6 (h:QE X e te) (he:∀ whole,isTrue e X.env whole=(do let v ← whole;standAt e.pos;holding [v] (truthy v)):=by intro _;rfl):QT X e (yB te):=PT.imp (a20 h he) az4
theorem OpI {f:Value→Value→Sem Value} {C:Int→Int→Prop} {g:Int→Int→V} {g3:Int→Int→Y} (h:OpR X f (rI C g)) (e:∀ i j H,RV X.g3 H (g3 i j) (g i j)):OpR X f (upR X.g3 (yI C g3)):=OpR.imp h fun x y H Q ⟨x3,y3,L,Q3,rx,ry,rl,z,k⟩=>by
  cases x3 with
  | int i=>
    cases y3 with
    | int j=>exact ⟨i,j,rx,ry,z.1,k _ H _ L (TSt.refl _) rl (e i j H) z.2⟩
    | _=>exact z.elim
  | _=>cases y3<;>exact z.elim
theorem a0p {f:Value→Value→Sem Value} {g:Int→Int→V} {g3:Int→Int→Y} (h:OpR X f (rI0 g)) (e:∀ i j H,RV X.g3 H (g3 i j) (g i j)):OpR X f (upR X.g3 (yI0 g3)):=OpR.imp h fun x y H Q ⟨x3,y3,L,Q3,rx,ry,rl,z,k⟩=>by
  cases x3 with
  | int i=>
    cases y3 with
    | int j=>exact ⟨i,j,rx,ry,k _ H _ L (TSt.refl _) rl (e i j H) z⟩
    | _=>exact z.elim
  | _=>cases y3<;>exact z.elim
theorem ajx:OpR X (binaryOp .Sub) (upR X.g3 (yI0 fun i j=>.int (i - j))):=a0p azb fun _ _ _=>rfl
theorem ac9:OpR X (binaryOp .Mult) (upR X.g3 (yI CMul fun i j=>.int (i*j))):=OpI a0v fun _ _ _=>rfl
theorem v7:OpR X (binaryOp .FloorDiv) (upR X.g3 (yI azx fun i j=>.int (i / j))):=OpI ay6 fun _ _ _=>rfl
theorem xl:OpR X (binaryOp .Mod) (upR X.g3 (yI (fun _ j=>0<j) fun i j=>.int (i % j))):=OpI a0t fun _ _ _=>rfl
theorem a2k:OpR X (binaryOp .Pow) (upR X.g3 (yI a2d fun i j=>.int (i ^ j.toNat))):=OpI a0h fun _ _ _=>rfl
theorem a3x:OpR X (compareOp .Lt) (upR X.g3 (yI0 fun i j=>.bl (decide (i<j)))):=a0p a47 fun _ _ _=>rfl
theorem aus:OpR X (compareOp .Gt) (upR X.g3 (yI0 fun i j=>.bl (decide (j<i)))):=a0p a2s fun _ _ _=>rfl
theorem zy:OpR X (binaryOp .Add) (upR X.g3 ju):=OpR.imp ax3 fun x y H Q ⟨x3,y3,L,Q3,rx,ry,rl,z,k⟩=>by
  cases x3 with
  | int i=>
    cases y3 with
    | int j=>cases rx;cases ry;exact k _ H _ L (TSt.refl _) rl (by rfl) z
    | _=>exact z.elim
  | str i=>
    cases y3 with
    | str j=>cases rx;cases ry;exact ⟨z.1,k _ H _ L (TSt.refl _) rl (by rfl) z.2⟩
    | _=>exact z.elim
  | ref a=>
    cases y3 with
    | ref b=>
      cases rx;cases ry
      obtain ⟨ys,zs,e1,e2,hz,q⟩:=z
      obtain ⟨xs,h1,r1⟩:=rl a _ e1
      obtain ⟨us,h2,r2⟩:=rl b _ e2
      refine ⟨xs,us,h1,h2,by rw [← r1.length,← r2.length];exact hz,fun p hp=>?_⟩
      exact k _ _ _ _ (TSt.new hp) (rl.newL hp (r1.app r2)) (by rfl) (q p (rl.none hp))
    | _=>exact z.elim
  | _=>cases y3<;>exact z.elim
theorem ane {kvs:List (Str×Str)} {k x:Str} (h:kvs.lookup k=some x):acq (kvs.map fun p=>((Sum.inr p.1:Key),V.str p.2)) (Sum.inr k)=some (V.str x):=by
  induction kvs with
  | nil=>simp at h
  | cons p r ih=>
    obtain ⟨a,b⟩:=p
    unfold acq
    rw [List.map_cons,List.find?_cons]
    rw [List.lookup_cons] at h
    by_cases c:k=a
    · subst c
      simp at h
      simp [h]
    · have c1:(k==a)=false:=by simpa using c
      rw [c1] at h
      have c2:decide ((Sum.inr a:Key)=Sum.inr k)=false:=decide_eq_false fun z=>c (Sum.inr.inj z).symm
      simp only [c2]
      exact ih h
theorem af6 {G:G3} {H:Hp} {kvs:List (Key×Y)} {xs:List (Key×V)} {k:Key} {y:Y} (p:Paired (fun (p:Key×Y) (q:Key×V)=>p.1=q.1∧RV G H p.2 q.2) kvs xs) (h:v9 kvs k=some y):∃ x,acq xs k=some x∧RV G H y x:=by
  induction p with
  | nil=>cases h
  | @cons a b _ _ r t ih=>
    obtain ⟨ka,ya⟩:=a
    obtain ⟨kb,vb⟩:=b
    obtain ⟨e,r⟩:=r
    cases (show ka=kb from e)
    unfold v9 at h
    unfold acq
    rw [List.find?_cons] at h ⊢
    by_cases c:ka=k
    · have c':decide (ka=k)=true:=decide_eq_true c
      simp only [c'] at h ⊢
      cases h
      exact ⟨vb,rfl,r⟩
    · have c':decide (ka=k)=false:=decide_eq_false c
      simp only [c'] at h ⊢
      exact ih h
theorem z0 (K:PySem.W.Frag) (P:Program) (w:World) (hK:X.K=K:=by rfl) (hP:X.prog=P:=by rfl) (hw:X.w=w:=by rfl):IxR X (upR ⟨K,P,w⟩ yIx):=by
  subst hK hP hw
  refine IxR.imp a5l fun x y H Q ⟨x3,y3,L,Q3,rx,ry,rl,z,k⟩=>?_
  have seq:∀ {i:Int} {x3:Y},RV X.g3 H x3 x→y=.int i→(agg L x3 fun ys=>atK L Q3 (atI ys i))→uIx X.K X.prog X.w x y H Q:=by
    intro i x3 rx ey z
    subst ey
    obtain ⟨ys,es,z⟩:=w9 z
    obtain ⟨p,xs,e,sq,rv⟩:=alh rl rx es
    subst e
    cases ea:atI ys i with
    | none=>rw [ea] at z;exact z.elim
    | some y=>
      rw [ea] at z
      obtain ⟨x,ex,rvx⟩:=azn rv ea
      exact ⟨xs,x,sq,ex,k _ H _ L (TSt.refl _) rl rvx z⟩
  cases x3 with
  | str s=>
    cases y3 with
    | int i=>
      cases rx;cases ry
      obtain ⟨z1,z2⟩:=z
      cases ea:atI s.cps.toList i with
      | none=>rw [ea] at z2;exact z2.elim
      | some c=>rw [ea] at z2;exact ⟨z1,c,ea,k _ H _ L (TSt.refl _) rl (by rfl) z2⟩
    | _=>exact z.elim
  | cd kvs=>
    cases y3 with
    | str s=>
      obtain ⟨a,ea,kd⟩:=rx
      cases ea;cases ry
      have z':atK L (fun s L=>Q3 (.str s) L) (kvs.lookup s):=z
      cases el:kvs.lookup s with
      | none=>rw [el] at z';exact z'.elim
      | some t=>rw [el] at z';exact ⟨_,_,.inr kd,ane el,k _ H _ L (TSt.refl _) rl (by rfl) z'⟩
    | int i=>exact z.elim
    | _=>exact z.elim
  | ref a=>
    cases y3 with
    | int i=>exact seq (x3:=.ref a) rx ry z
    | str s=>
      cases rx;cases ry
      obtain ⟨kvs,e,z'⟩:=abo z
      obtain ⟨xs,e2,pr⟩:=rl a _ e
      cases ev:v9 kvs (Sum.inr s) with
      | none=>rw [ev] at z';exact z'.elim
      | some y=>
        rw [ev] at z'
        obtain ⟨x,ex,rx⟩:=af6 pr ev
        exact ⟨xs,x,.inl (.inl e2),ex,k _ H _ L (TSt.refl _) rl rx z'⟩
    | _=>exact z.elim
  | tup ys=>
    cases y3 with
    | int i=>exact seq (x3:=.tup ys) rx ry z
    | _=>exact z.elim
  | sq ys=>
    cases y3 with
    | int i=>exact seq (x3:=.sq ys) rx ry z
    | _=>exact z.elim
  | _=>cases y3<;>exact z.elim
theorem RVs.inv1 {G:G3} {H:Hp} {y:Y} {xs:List V} (h:RVs G H [y] xs):∃ x,xs=[x]∧RV G H y x:=by
  obtain ⟨x,xs',e,r,s⟩:=h
  cases (show xs'=[] from s)
  exact ⟨x,e,r⟩
theorem RVs.inv2 {G:G3} {H:Hp} {y y':Y} {xs:List V} (h:RVs G H [y,y'] xs):∃ x x',xs=[x,x']∧RV G H y x∧RV G H y' x':=by
  obtain ⟨x,xs',e,r,s⟩:=h
  obtain ⟨x',e',r'⟩:=s.inv1
  exact ⟨x,x',by rw [e,e'],r,r'⟩
theorem jq (K:PySem.W.Frag) (P:Program) (w:World) (hK:X.K=K:=by rfl) (hP:X.prog=P:=by rfl) (hw:X.w=w:=by rfl):CallR X (.builtin "len") (upL ⟨K,P,w⟩ wu):=by
  subst hK hP hw
  refine CallR.imp arv fun xs H Q ⟨ys,L,Q3,rv,rl,z,k⟩=>?_
  unfold wu at z
  split at z
  · obtain ⟨x,rfl,r⟩:=rv.inv1
    cases r
    exact ⟨z.1,k _ H _ L (TSt.refl _) rl (by rfl) z.2⟩
  · rename_i y _
    obtain ⟨x,rfl,r⟩:=rv.inv1
    obtain ⟨ys,es,z⟩:=w9 z
    obtain ⟨p,us,e,sq,rw'⟩:=alh rl r es
    subst e
    refine ⟨us,sq,?_⟩
    rw [← rw'.length]
    exact k _ H _ L (TSt.refl _) rl (by rfl) z
  · exact z.elim
theorem a1s (i j:Int):(if j > i then j else i)=max i j:=by split<;>omega
theorem a1d (i j:Int):(if j<i then j else i)=min i j:=by split<;>omega
theorem auv (hc:X.calm=true:=by rfl):CallR X (.builtin "max") (upL X.g3 au1):=CallR.imp (aqm hc) fun xs H Q ⟨ys,L,Q3,rv,rl,z,k⟩=>by
  unfold au1 at z
  split at z
  · rename_i i j
    obtain ⟨x,x',rfl,r1,r2⟩:=rv.inv2
    cases r1;cases r2
    refine ⟨i,j,rfl,?_⟩
    rw [a1s]
    exact k _ H _ L (TSt.refl _) rl (by rfl) z
  · exact z.elim
theorem a3o (hc:X.calm=true:=by rfl):CallR X (.builtin "min") (upL X.g3 a08):=CallR.imp (ari hc) fun xs H Q ⟨ys,L,Q3,rv,rl,z,k⟩=>by
  unfold a08 at z
  split at z
  · rename_i i j
    obtain ⟨x,x',rfl,r1,r2⟩:=rv.inv2
    cases r1;cases r2
    refine ⟨i,j,rfl,?_⟩
    rw [a1d]
    exact k _ H _ L (TSt.refl _) rl (by rfl) z
  · exact z.elim
theorem az6:UnR X (unaryOp .USub) (upU X.g3 azy):=UnR.imp a1h fun x H Q ⟨y,L,Q3,rv,rl,z,k⟩=>by
  cases y with
  | int i=>exact ⟨i,rv,k _ H _ L (TSt.refl _) rl (by rfl) z⟩
  | _=>exact z.elim
theorem ayt {op:UnaryOp} {r:Y→LHp→YK→Prop} (h:UnR X (unaryOp op) (upU X.g3 r)) (ha:QE X a ta):QE X (.UnaryOp op a pos) (yUn r ta):=PE.imp (a35 h ha) fun σ H Q ⟨τ,L,Q3,rs,rl,z,k⟩=>
  ⟨τ,L,_,rs,rl,z,fun v H1 y L1 t1 rl1 rv1 z1=>⟨y,L1,Q3,rv1,rl1,z1,k.ts t1⟩⟩
end
end L3
namespace L3
open PySem L2
section
variable {X:Cx} {a b c e:Expr} {ta tb tc te:TE3} {pos:Pos}
theorem abv {G:G3} {H:Hp} {L:LHp} {a:Addr} {ys:List Y} (rl:RelH G H L) (h:ab9 L (.ref a)=some ys):∃ xs,SqL G.K H a xs∧RVs G H ys xs:=by
  have h':(match L a with | some (.lst ys)=>some ys | _=>none)=some ys:=h
  split at h'
  · rename_i e
    cases h'
    obtain ⟨xs,e2,q⟩:=rl a _ e
    exact ⟨xs,SqL.of e2,q⟩
  · cases h'
theorem afe {G:G3} {H:Hp} {L:LHp} {y:Y} {v:V} {ys:List Y} (rl:RelH G H L) (r:RV G H y v) (hy:aq4 y=true) (h:ab9 L y=some ys):∃ a xs,v=.ref a∧SqL G.K H a xs∧RVs G H ys xs:=by
  cases y with
  | ref a=>obtain ⟨xs,s,q⟩:=abv rl h;exact ⟨a,xs,r,s,q⟩
  | sq zs=>obtain ⟨a,xs,e,s,q⟩:=r;cases h;exact ⟨a,xs,e,s.sq,q⟩
  | _=>cases hy
theorem ar1 {G:G3} {H:Hp} {L:LHp} {y:Y} {v:V} {u:Value} {T:Ty3} {pins:List (Addr×Obj)} {σ:L2.St} {s:Shared} (I:Inv X pins σ H s) (rl:RelH X.g3 H L) (r:RV X.g3 H y v) (ru:RelV v u) (h:tyY L y=some T)
    {A:Around} {E:Value→Shared→Prop} {Q:Value→Shared→Prop} {c:Value} {b:Bool} (e:PySem.W.kitOne X.K (.type T.nm) c=some b) (hq:∀ tk,Q (.bool b) { s with toks:=tk }):
    wpAny (model X.prog X.w) A (call (.builtin "isinstance") [u,c]) Q E s:=by
  cases y with
  | non=>cases h;cases r;exact aa0 I ru .non e hq
  | bl b=>cases h;cases r;exact aa0 I ru (.bl _) e hq
  | int i=>cases h;cases r;exact aa0 I ru (.int _) e hq
  | str x=>cases h;cases r;exact aa0 I ru (.str _) e hq
  | tup ys=>
    cases h
    obtain ⟨a,xs,rfl,sq,_⟩:=r
    cases (show u=Value.ref a from ru)
    obtain ⟨its,_,⟨o,h1,h2,_⟩,_⟩:=I.tuple sq
    exact PySem.W.kia_one PySem.W.kitx_tuple I.kIn ⟨o,h1,h2⟩ e (fun z=>nomatch z) hq
  | sq ys=>
    cases h
    obtain ⟨a,xs,rfl,sq,_⟩:=r
    cases (show u=Value.ref a from ru)
    obtain ⟨its,_,⟨o,n,h1,h2,_⟩,_⟩:=I.list sq.sq
    exact PySem.W.kia_one PySem.W.kitx_list I.kIn ⟨o,h1,h2⟩ e (fun z=>nomatch z) hq
  | ref a=>
    cases (show v=.ref a from r)
    have h':(match L a with | some (.lst _)=>some Ty3.list | some (.dct _)=>some .dict | _=>none)=some T:=h
    split at h'
    · rename_i ys el
      cases h'
      obtain ⟨xs,e2,_⟩:=rl a _ el
      exact aa0 I ru (.lst e2) e hq
    · rename_i kvs el
      cases h'
      obtain ⟨xs,e2,_⟩:=rl a _ el
      exact aa0 I ru (.dK e2) e hq
    · cases h'
  | _=>cases h
theorem aw8 (K:PySem.W.Frag):∀ T S:Ty3,PySem.W.kitOne K (.type T.nm) (.type S.nm)=some (av1 T S):=by
  intro T S
  cases T<;>cases S<;>rfl
def azl (G:G3) (S:Ty3):List V→Hp→VK→Prop:=fun xs H Q=>∃ y v L Q3 T,xs=[v,.ty S.nm]∧RV G H y v∧RelH G H L∧tyY L y=some T∧Q3 (.bl (av1 T S)) L∧Aft G H Q3 Q
theorem a0s (S:Ty3):CallR X (.builtin "isinstance") (azl X.g3 S):=by
  intro pins s σ H xs us Q I r h
  obtain ⟨y,v,L,Q3,T,rfl,rv,rl,ty,q,k⟩:=h
  obtain ⟨u,c,rfl,r1,r2⟩:=Vals.two r
  cases (show c=Value.type S.nm from r2)
  exact jn I.tk (ar1 (G:=X.g3) I rl rv r1 ty (aw8 _ T S) fun tk ht=>⟨.bl _,H,I.tok _,rfl,k _ H _ L (TSt.refl _) rl (by rfl) q⟩)
theorem alm {p p1:Pos} {xT:Str} (S:Ty3) (hg:Gl X "isinstance") (hm:X.mg "isinstance" = none) (hgT:Gl X xT) (hmT:X.mg xT=none) (hvT:bootBuiltins xT=some (.type S.nm)) (ha:QE X a ta)
    (hn:xT ≠ "__name__" := by decide) (hd:(xT==("__debug__" : Str))=false:=by decide)
    (hs:starEach [a,.Name xT p1] X.env=(false,eval a X.env)::starEach [.Name xT p1] X.env:=by rfl) (hs2:starEach [.Name xT p1] X.env=(false,eval (.Name xT p1) X.env)::starEach [] X.env:=by rfl)
    (hp:(backTo pos (starEach [.Name xT p1] X.env)).any (·.1)=false:=by rfl):
    QE X (.Call (.Name "isinstance" p) [a,.Name xT p1] [] pos) (apv S ta):=by
  refine PE.imp (ain (a0s S) hg hm acs (aac ha (aac (ayr hgT hmT hvT hn hd) af2 hs2) hs) (by decide) (by decide) hs hp) ?_
  rintro σ H Q ⟨τ,L,Q3,rs,rl,z,k⟩
  refine ⟨τ,L,_,rs,rl,z,fun v H1 y L1 t1 rl1 rv1 z1=>?_⟩
  obtain ⟨T,et,z1⟩:=atk z1
  exact ⟨y,v,L1,Q3,T,rfl,rv1,rl1,et,z1,k.ts t1⟩
def aqz (neg:Bool) (x y:Y) (L:LHp) (Q:YK):Prop:=agg L y fun ys=>aga x=true∧ys.all aga=true∧Q (.bl (nb neg (inV (toV x) (ys.map toV)))) L
theorem a3t (neg:Bool) {op:CmpOp} (h:OpR X (compareOp op) (rIn X.K neg)):OpR X (compareOp op) (upR X.g3 (aqz neg)):=OpR.imp h fun x y H Q ⟨x3,y3,L,Q3,rx,ry,rl,z,k⟩=>by
  obtain ⟨ys,es,f1,f2,q⟩:=w9 z
  obtain ⟨p,xs,e,sq,rv⟩:=alh rl ry es
  rw [rx.flat f1]
  rw [rv.flat f2] at sq
  refine ⟨p,_,e,sq,adj f1,?_,?_⟩
  · rw [List.all_map,List.all_eq_true]
    intro y hy
    exact adj (List.all_eq_true.mp f2 y hy)
  · have:(if neg=true then !inV (toV x3) (ys.map toV) else inV (toV x3) (ys.map toV))=(nb neg (inV (toV x3) (ys.map toV))):=by cases neg<;>simp [nb]
    rw [this]
    exact k _ H _ L (TSt.refl _) rl (by rfl) q
theorem az0 (K:PySem.W.Frag) (P:Program) (w:World) (hK:X.K=K:=by rfl) (hP:X.prog=P:=by rfl) (hw:X.w=w:=by rfl):OpR X (compareOp .In) (upR ⟨K,P,w⟩ (aqz false)):=by subst hK hP hw;exact a3t false aqi
theorem a1c (K:PySem.W.Frag) (P:Program) (w:World) (hK:X.K=K:=by rfl) (hP:X.prog=P:=by rfl) (hw:X.w=w:=by rfl):OpR X (compareOp .NotIn) (upR ⟨K,P,w⟩ (aqz true)):=by subst hK hP hw;exact a3t true alc
theorem DatN.rep {G:G3} {H:Hp} {L:LHp} (rl:RelH G H L):∀ {n:Nat} {y:Y} {d:Da} {v:V},DatN L n y d→RV G H y v→xi G.K H n v d
  | 0,y,d,v,⟨f,e⟩,r=>by
    rw [r.flat f];exact ⟨e,adj f⟩
  | n+1,y,d,v,h,r=>by
    have both:∀ {ys:List Y} {ds:List Da} {xs:List V},Paired (DatN L n) ys ds→RVs G H ys xs→Paired (xi G.K H n) xs ds:=by
      intro ys ds xs p
      induction p generalizing xs with
      | nil=>intro r;cases (show xs=[] from r);exact .nil
      | cons q t ih=>
        rintro ⟨x,xs',rfl,r1,r2⟩
        exact .cons (DatN.rep rl q r1) (ih r2)
    rcases h with ⟨f,e⟩ | ⟨ys,ds,rfl,rfl,p⟩ | ⟨ys,ds,hy,rfl,es,p⟩
    · rw [r.flat f];exact .inl ⟨e,adj f⟩
    · obtain ⟨a,xs,rfl,sq,rv⟩:=r
      exact .inr (.inl ⟨a,xs,ds,rfl,rfl,sq,both p rv⟩)
    · obtain ⟨a,xs,rfl,sq,rv⟩:=afe rl r hy es
      exact .inr (.inr ⟨a,xs,ds,rfl,rfl,sq,both p rv⟩)
theorem agt {G:G3} {H:Hp} {y:Y} {v:V} (h:azm y=true) (r:RV G H y v):∃ a,v=.ref a:=by
  cases y with
  | ref a=>exact ⟨a,r⟩
  | tup ys=>obtain ⟨a,xs,e,_⟩:=r;exact ⟨a,e⟩
  | sq ys=>obtain ⟨a,xs,e,_⟩:=r;exact ⟨a,e⟩
  | _=>cases h
theorem wg (K:PySem.W.Frag) (P:Program) (w:World) (hu:X.A.units+128<cLine) (hK:X.K=K:=by rfl) (hP:X.prog=P:=by rfl) (hw:X.w=w:=by rfl):OpR X (compareOp .Eq) (upR ⟨K,P,w⟩ (yEq false)):=by
  subst hK hP hw
  refine OpR.imp (a0i hu) fun x y H Q ⟨x3,y3,L,Q3,rx,ry,rl,z,k⟩=>?_
  unfold yEq at z
  split at z
  · rename_i i j
    cases rx;cases ry
    refine ⟨rfl,?_⟩
    have:decide (V.int i=V.int j)=nb false (decide (i=j)):=by rw [Bool.eq_iff_iff];simp [nb]
    rw [this]
    exact k _ H _ L (TSt.refl _) rl (by rfl) z
  · rename_i i j
    cases rx;cases ry
    refine ⟨rfl,?_⟩
    have:decide (V.str i=V.str j)=nb false (decide (i=j)):=by rw [Bool.eq_iff_iff];simp [nb]
    rw [this]
    exact k _ H _ L (TSt.refl _) rl (by rfl) z
  · rename_i i j
    cases rx;cases ry
    refine ⟨rfl,?_⟩
    have:decide (V.bl i=V.bl j)=nb false (decide (i=j)):=by rw [Bool.eq_iff_iff];simp [nb]
    rw [this]
    exact k _ H _ L (TSt.refl _) rl (by rfl) z
  · obtain ⟨f1,f2,n,m,d,e,hn,h1,h2,q⟩:=z
    obtain ⟨a,rfl⟩:=agt f1 rx
    obtain ⟨b,rfl⟩:=agt f2 ry
    have q:Q3 (.bl (Da.eq d e)) L:=q
    exact ⟨n,m,d,e,hn,h1.rep rl rx,h2.rep rl ry,k _ H _ L (TSt.refl _) rl (by rfl) q⟩
theorem aec (K:PySem.W.Frag) (P:Program) (w:World) (hu:X.A.units+128<cLine) (hK:X.K=K:=by rfl) (hP:X.prog=P:=by rfl) (hw:X.w=w:=by rfl):OpR X (compareOp .NotEq) (upR ⟨K,P,w⟩ (yEq true)):=by
  subst hK hP hw
  refine OpR.imp (a0l hu) fun x y H Q ⟨x3,y3,L,Q3,rx,ry,rl,z,k⟩=>?_
  unfold yEq at z
  split at z
  · rename_i i j
    cases rx;cases ry
    refine ⟨rfl,?_⟩
    have:(!decide (V.int i=V.int j))=nb true (decide (i=j)):=by show _=!_;congr 1;rw [Bool.eq_iff_iff];simp
    rw [this]
    exact k _ H _ L (TSt.refl _) rl (by rfl) z
  · rename_i i j
    cases rx;cases ry
    refine ⟨rfl,?_⟩
    have:(!decide (V.str i=V.str j))=nb true (decide (i=j)):=by show _=!_;congr 1;rw [Bool.eq_iff_iff];simp
    rw [this]
    exact k _ H _ L (TSt.refl _) rl (by rfl) z
  · rename_i i j
    cases rx;cases ry
    refine ⟨rfl,?_⟩
    have:(!decide (V.bl i=V.bl j))=nb true (decide (i=j)):=by show _=!_;congr 1;rw [Bool.eq_iff_iff];simp
    rw [this]
    exact k _ H _ L (TSt.refl _) rl (by rfl) z
  · obtain ⟨f1,f2,n,m,d,e,hn,h1,h2,q⟩:=z
    obtain ⟨a,rfl⟩:=agt f1 rx
    obtain ⟨b,rfl⟩:=agt f2 ry
    have q:Q3 (.bl (!Da.eq d e)) L:=q
    exact ⟨n,m,d,e,hn,h1.rep rl rx,h2.rep rl ry,k _ H _ L (TSt.refl _) rl (by rfl) q⟩
theorem RV.non_iff {G:G3} {H:Hp} {y:Y} {v:V} (r:RV G H y v):decide (v=.non)=(match y with | .non=>true | _=>false):=by
  cases y with
  | non=>cases r;rfl
  | cd kvs=>obtain ⟨a,rfl,_⟩:=r;rfl
  | tup ys=>obtain ⟨a,xs,rfl,_⟩:=r;rfl
  | sq ys=>obtain ⟨a,xs,rfl,_⟩:=r;rfl
  | _=>cases r;rfl
theorem a22 {G:G3} (σ:L2.St) (H:Hp) (Q:VK):upE G (agf false ta) σ H Q→a2h (upE G ta) σ H Q:=fun ⟨τ,L,Q3,rs,rl,z,k⟩=>
  ⟨τ,L,_,rs,rl,z,fun v H1 y L1 t1 rl1 rv1 z1=>by
    dsimp only
    rw [rv1.non_iff]
    cases y<;>exact k _ H1 _ L1 t1 rl1 (by rfl) z1⟩
theorem axt {G:G3} (σ:L2.St) (H:Hp) (Q:VK):upE G (agf true ta) σ H Q→aym (upE G ta) σ H Q:=fun ⟨τ,L,Q3,rs,rl,z,k⟩=>
  ⟨τ,L,_,rs,rl,z,fun v H1 y L1 t1 rl1 rv1 z1=>by
    dsimp only
    rw [rv1.non_iff]
    cases y<;>exact k _ H1 _ L1 t1 rl1 (by rfl) z1⟩
theorem ayy {G:G3} {t:TE} (h:∀ σ H Q,upE G te σ H Q→t σ H Q) (σ:L2.St) (H:Hp) (Q:Bool→Hp→Prop):upT G (yB te) σ H Q→L2.tB t σ H Q:=fun q=>h σ H _ (az4 σ H Q q)
theorem aug {j:Nat} {pos':Pos} (h:QE X a ta):QT X (.Compare a [.Is] [.Constant .none j pos'] pos) (yB (agf false ta)):=PT.imp (asu (azk h)) (ayy a22)
theorem acm {j:Nat} {pos':Pos} (h:QE X a ta):QT X (.Compare a [.IsNot] [.Constant .none j pos'] pos) (yB (agf true ta)):=PT.imp (asu (aw7 h)) (ayy axt)
end
end L3
namespace L3
open PySem L2
section
variable {X:Cx} {a b c e:Expr} {es rest:List Expr} {ta tb tc te:TE3} {tA tB:TT3} {tr:TA3} {pos:Pos}
theorem ako (h:QT X a tA):QW X (.BoolOp .And [a] pos) tA:=awm h
theorem as4 (h:QT X a tA):QW X (.BoolOp .Or [a] pos) tA:=a07 h
theorem aoh (h:QT X a tA) (k:QW X (.BoolOp .And (b::rest) pos) tB):QW X (.BoolOp .And (a::b::rest) pos) (axw tA tB):=PW.imp (a0a h k) fun σ H Q ⟨τ,L,Q3,rs,rl,z,k⟩=>
  ⟨τ,L,_,rs,rl,z,fun c H1 L1 t1 rl1 z1=>by
    cases c with
    | true=>rw [if_pos rfl];exact ⟨τ,L1,Q3,rs.ts t1,rl1,z1,k.ts t1⟩
    | false=>rw [if_neg Bool.false_ne_true];exact k _ H1 L1 t1 rl1 z1⟩
theorem ayc (h:QT X a tA) (k:QW X (.BoolOp .Or (b::rest) pos) tB):QW X (.BoolOp .Or (a::b::rest) pos) (yOr tA tB):=PW.imp (a3h h k) fun σ H Q ⟨τ,L,Q3,rs,rl,z,k⟩=>
  ⟨τ,L,_,rs,rl,z,fun c H1 L1 t1 rl1 z1=>by
    cases c with
    | true=>rw [if_pos rfl];exact k _ H1 L1 t1 rl1 z1
    | false=>rw [if_neg Bool.false_ne_true];exact ⟨τ,L1,Q3,rs.ts t1,rl1,z1,k.ts t1⟩⟩
theorem ami (h:QW X a tA):QT X a tA:=PW.pt h
theorem azz (h:QT X a tA):QT X (.UnaryOp .Not a pos) (a3b tA):=PT.imp (a1l h) fun σ H Q ⟨τ,L,Q3,rs,rl,z,k⟩=>
  ⟨τ,L,_,rs,rl,z,fun c H1 L1 t1 rl1 z1=>k _ H1 L1 t1 rl1 z1⟩
theorem ad9 {op:BoolOp} (h:QE X a ta):QE X (.BoolOp op [a] pos) ta:=a1y h
theorem adf (h:QE X a ta) (k:QE X (.BoolOp .And (b::rest) pos) tb):QE X (.BoolOp .And (a::b::rest) pos) (ag3 ta tb):=PE.imp (a0o h k) fun σ H Q ⟨τ,L,Q3,rs,rl,z,k⟩=>
  ⟨τ,L,_,rs,rl,z,fun v H1 y L1 t1 rl1 rv1 z1=>by
    cases y with
    | bl c=>
      refine ⟨c,rv1,?_⟩
      have z2:vf c (tb τ L1 Q3) (Q3 (.bl false) L1):=z1
      cases c with
      | true=>rw [if_pos rfl];exact ⟨τ,L1,Q3,rs.ts t1,rl1,z2,k.ts t1⟩
      | false=>rw [if_neg Bool.false_ne_true];exact k _ H1 _ L1 t1 rl1 (by rfl) z2
    | _=>exact z1.elim⟩
theorem ayz (h:QE X a ta) (k:QE X (.BoolOp .Or (b::rest) pos) tb):QE X (.BoolOp .Or (a::b::rest) pos) (a1f ta tb):=PE.imp (a34 h k) fun σ H Q ⟨τ,L,Q3,rs,rl,z,k⟩=>
  ⟨τ,L,_,rs,rl,z,fun v H1 y L1 t1 rl1 rv1 z1=>by
    cases y with
    | bl c=>
      refine ⟨c,rv1,?_⟩
      have z2:vf c (Q3 (.bl true) L1) (tb τ L1 Q3):=z1
      cases c with
      | true=>rw [if_pos rfl];exact k _ H1 _ L1 t1 rl1 (by rfl) z2
      | false=>rw [if_neg Bool.false_ne_true];exact ⟨τ,L1,Q3,rs.ts t1,rl1,z2,k.ts t1⟩
    | _=>exact z1.elim⟩
theorem a2e (h:QE X a ta):QE X (.UnaryOp .Not a pos) (ayl ta):=PE.imp (a0c h) fun σ H Q ⟨τ,L,Q3,rs,rl,z,k⟩=>
  ⟨τ,L,_,rs,rl,z,fun v H1 y L1 t1 rl1 rv1 z1=>by
    cases y with
    | bl c=>exact ⟨c,rv1,k _ H1 _ L1 t1 rl1 (by rfl) z1⟩
    | _=>exact z1.elim⟩
theorem an9 (h:QT X c tA) (ha:QE X a ta) (hb:QE X b tb):QE X (.IfExp c a b pos) (yIf tA ta tb):=PE.imp (atr h ha hb) fun σ H Q ⟨τ,L,Q3,rs,rl,z,k⟩=>
  ⟨τ,L,_,rs,rl,z,fun c H1 L1 t1 rl1 z1=>by
    cases c with
    | true=>rw [if_pos rfl];exact ⟨τ,L1,Q3,rs.ts t1,rl1,z1,k.ts t1⟩
    | false=>rw [if_neg Bool.false_ne_true];exact ⟨τ,L1,Q3,rs.ts t1,rl1,z1,k.ts t1⟩⟩
theorem qd:QA X [] qm:=PA.imp af2 fun σ H Q ⟨τ,L,Q3,rs,rl,z,k⟩=>k _ H _ L (TSt.refl _) rl (by rfl) z
theorem q9 (h:QE X e te) (ht:QA X es tr) (hs:starEach (e::es) X.env=(false,eval e X.env)::starEach es X.env:=by rfl):QA X (e::es) (qc te tr):=PA.imp (aac h ht hs) fun σ H Q ⟨τ,L,Q3,rs,rl,z,k⟩=>
  ⟨τ,L,_,rs,rl,z,fun v H1 y L1 t1 rl1 rv1 z1=>⟨τ,L1,_,rs.ts t1,rl1,z1,fun vs H2 ys L2 t2 rl2 rv2 z2=>k (v::vs) H2 (y::ys) L2 (t1.trans t2) rl2 ⟨v,vs,rfl,rv1.ts t2,rv2⟩ z2⟩⟩
theorem zw {x1:Nat} (h:QA X es tr):QE X (.Tuple es x1 pos) (k8 tr):=PE.imp (a13 h) fun σ H Q ⟨τ,L,Q3,rs,rl,z,k⟩=>
  ⟨τ,L,_,rs,rl,z,fun vs H1 ys L1 t1 rl1 rv1 z1=>by
    cases e:Nat.ble ys.length 1000 with
    | false=>rw [e] at z1;exact z1.elim
    | true=>
      rw [e] at z1
      have:=Nat.le_of_ble_eq_true e
      refine ⟨abh (by rw [← rv1.length];exact this),fun p hp=>?_⟩
      exact k _ _ (.tup ys) L1 (t1.trans (TSt.new hp)) (rl1.skip hp) ⟨p,vs,rfl,SqT.of zx,rv1.ts (TSt.new hp)⟩ z1⟩
theorem je (h:QA X es tr):QE X (.List es pos) (w6 tr):=PE.imp (auw h) fun σ H Q ⟨τ,L,Q3,rs,rl,z,k⟩=>
  ⟨τ,L,_,rs,rl,z,fun vs H1 ys L1 t1 rl1 rv1 z1=>by
    cases e:Nat.ble ys.length 1000 with
    | false=>rw [e] at z1;exact z1.elim
    | true=>
      rw [e] at z1
      have:=Nat.le_of_ble_eq_true e
      refine ⟨abh (by rw [← rv1.length];exact this),fun p hp=>?_⟩
      exact k _ _ _ _ (t1.trans (TSt.new hp)) (rl1.newL hp rv1) (by rfl) (z1 p (rl1.none hp))⟩
theorem zb {x:Str} {p:Pos} {id:String} {r:List Y→LHp→YK→Prop} (hc:CallR X (.builtin id) (upL X.g3 r)) (hg:Gl X x) (hm:X.mg x=none) (hv:bootBuiltins x=some (.builtin id)) (h:QA X (e::es) tr)
    (hn:x ≠ "__name__" := by decide) (hd:(x==("__debug__" : Str))=false:=by decide) (hs:starEach (e::es) X.env=(false,eval e X.env)::starEach es X.env:=by rfl) (hp:(backTo pos (starEach es X.env)).any (·.1)=false:=by rfl):
    QE X (.Call (.Name x p) (e::es) [] pos) (yCB r tr):=PE.imp (ain hc hg hm hv h hn hd hs hp) fun σ H Q ⟨τ,L,Q3,rs,rl,z,k⟩=>
  ⟨τ,L,_,rs,rl,z,fun vs H1 ys L1 t1 rl1 rv1 z1=>⟨ys,L1,Q3,rv1,rl1,z1,k.ts t1⟩⟩
def upO (G:G3) (t:TO3):TO:=fun σ H Q=>∃ τ L Q3,RelS G H σ τ∧RelH G H L∧t τ L Q3∧∀ (o:Option Int) H' L',TSt H H'→RelH G H' L'→Q3 o L'→Q o H'
abbrev QO (X:Cx) (e:Option Expr) (t:TO3):Prop:=PO X e (upO X.g3 t)
theorem PO.imp {X:Cx} {e:Option Expr} {t u:TO} (h:PO X e t) (q:∀ σ H Q,u σ H Q→t σ H Q):PO X e u:=fun pins s σ H Q I z=>h pins s σ H Q I (q σ H Q z)
theorem SlR.imp {X:Cx} {r r':V→Option Int→Option Int→Hp→VK→Prop} (h:SlR X r) (q:∀ x lo hi H Q,r' x lo hi H Q→r x lo hi H Q):SlR X r':=by
  intro pins s σ H x v vl vu lo hi sl Q I rx hs pl pu z
  exact h pins s σ H x v vl vu lo hi sl Q I rx hs pl pu (q _ _ _ _ _ z)
theorem aei:QO X none aab:=PO.imp awu fun σ H Q ⟨τ,L,Q3,rs,rl,z,k⟩=>k _ H L (TSt.refl _) rl z
theorem ww (h:QE X e te):QO X (some e) (abf te):=PO.imp (awd h) fun σ H Q ⟨τ,L,Q3,rs,rl,z,k⟩=>
  ⟨τ,L,_,rs,rl,z,fun v H1 y L1 t1 rl1 rv1 z1=>by
    cases y with
    | int i=>exact ⟨i,rv1,k _ H1 L1 t1 rl1 z1⟩
    | _=>exact z1.elim⟩
def aza (G:G3) (r:Y→Option Int→Option Int→LHp→YK→Prop):V→Option Int→Option Int→Hp→VK→Prop:=fun x lo hi H Q=>∃ y L Q3,RV G H y x∧RelH G H L∧r y lo hi L Q3∧Aft G H Q3 Q
theorem aa4 {lo hi:Option Expr} {tl th:TO3} {p2:Pos} {r:Y→Option Int→Option Int→LHp→YK→Prop} (h:SlR X (aza X.g3 r)) (ha:QE X a ta) (hl:QO X lo tl) (hh:QO X hi th):QE X (.Subscript a (.Slice lo hi none p2) pos) (ySl r ta tl th):=
  PE.imp (av5 h ha hl hh) fun σ H Q ⟨τ,L,Q3,rs,rl,z,k⟩=>
  ⟨τ,L,_,rs,rl,z,fun v H1 y L1 t1 rl1 rv1 z1=>⟨τ,L1,_,rs.ts t1,rl1,z1,fun o H2 L2 t2 rl2 z2=>⟨τ,L2,_,rs.ts (t1.trans t2),rl2,z2,fun o' H3 L3 t3 rl3 z3=>⟨y,L3,Q3,rv1.ts (t2.trans t3),rl3,z3,k.ts (t1.trans (t2.trans t3))⟩⟩⟩⟩
theorem apn {G:G3} {H:Hp} {ys:List Y} {xs:List V} (r:RVs G H ys xs) (lo hi:Option Int):RVs G H (aj8 ys lo hi) (arl xs lo hi):=by
  unfold aj8 arl
  rw [r.length]
  exact (r.drop _).take _
theorem a2t (K:PySem.W.Frag) (P:Program) (w:World) (hK:X.K=K:=by rfl) (hP:X.prog=P:=by rfl) (hw:X.w=w:=by rfl):SlR X (aza ⟨K,P,w⟩ a33):=by
  subst hK hP hw
  refine SlR.imp ay9 fun x lo hi H Q ⟨y,L,Q3,rv,rl,z,k⟩=>?_
  cases y with
  | ref a=>
    obtain ⟨ys,es,z'⟩:=jx z
    obtain ⟨xs,sq,r⟩:=abv rl (zg es)
    exact ⟨a,xs,rv,sq,fun p hp=>k _ _ _ _ (TSt.new hp) (rl.newL hp (apn r lo hi)) (by rfl) (z' p (rl.none hp))⟩
  | sq ys=>
    obtain ⟨a,xs,e,sf,r⟩:=rv
    exact ⟨a,xs,e,sf.sq,fun p hp=>k _ _ _ _ (TSt.new hp) (rl.newL hp (apn r lo hi)) (by rfl) (z p (rl.none hp))⟩
  | _=>exact z.elim
end
section
variable {X:Cx} {a b c e tg iter:Expr} {es:List Expr} {ta tb tc te:TE3} {tA tB:TT3} {tr:TA3} {pos:Pos} {st:Stmt} {rest body orelse:List Stmt} {t u:TS3}
theorem zn:QSs X [] x9:=PSs.imp awh fun D σ H ⟨τ,L,D3,rs,rl,z,k⟩=>k.nx _ H _ L (TSt.refl _) rs rl z
theorem qk (h:QS X st t):QSs X [st] t:=ap3 h
theorem qe (h:QS X st t) (k:QSs X rest u):QSs X (st::rest) (qw t u):=PSs.imp (am5 h k) fun D σ H ⟨τ,L,D3,rs,rl,z,k⟩=>
  ⟨τ,L,{ D3 with nx:=u D3 },rs,rl,z,fun σ1 H1 τ1 L1 t1 rs1 rl1 z1=>⟨τ1,L1,D3,rs1,rl1,z1,k.ts t1⟩,k.rt,k.bk,k.ct⟩
theorem j6 (h:QE X e te) (hs:swapsWith e none pos.line X.env=pure false:=by rfl):QS X (.Expr e pos) (v4 te):=PS.imp (awk h hs) fun D σ H ⟨τ,L,D3,rs,rl,z,k⟩=>
  ⟨τ,L,_,rs,rl,z,fun v H1 y L1 t1 rl1 rv1 z1=>k.nx _ H1 _ L1 t1 (rs.ts t1) rl1 z1⟩
theorem qy (h:QE X e te):QS X (.Return (some e) pos) (j9 te):=PS.imp (azs h) fun D σ H ⟨τ,L,D3,rs,rl,z,k⟩=>⟨τ,L,_,rs,rl,z,k.rt⟩
theorem jt (h:QT X c tA) (ha:QSs X body t) (hb:QSs X orelse u):QS X (.If c body orelse pos) (kc tA t u):=PS.imp (a3v h ha hb) fun D σ H ⟨τ,L,D3,rs,rl,z,k⟩=>
  ⟨τ,L,_,rs,rl,z,fun c H1 L1 t1 rl1 z1=>by
    cases c with
    | true=>rw [if_pos rfl];exact ⟨τ,L1,D3,rs.ts t1,rl1,z1,k.ts t1⟩
    | false=>rw [if_neg Bool.false_ne_true];exact ⟨τ,L1,D3,rs.ts t1,rl1,z1,k.ts t1⟩⟩
theorem qq {i:Nat} {x:Str} {pos':Pos} (hN:X.N.Nodup) (hix:X.N[i]?=some x) (hx:Loc X.env.scope x) (h:QE X e te) (hsw:swapsWith e (some (.Name x pos')) pos.line X.env=pure false:=by rfl)
    (hfn:X.fn x=true∨X.env.scope.names.lookup x=some .local:=by first | exact .inl rfl | exact .inr rfl | assumption):QS X (.Assign [.Name x pos'] e pos) (z9 te (qj i)):=PS.imp (ats hN hix hx h hsw hfn) fun D σ H ⟨τ,L,D3,rs,rl,z,k⟩=>
  ⟨τ,L,_,rs,rl,z,fun v H1 y L1 t1 rl1 rv1 z1=>k.nx _ H1 _ L1 t1 (show RelS _ _ _ (wv τ i y) by rw [vi];exact (rs.ts t1).set rv1) rl1 z1⟩
theorem au4 {g:TG3} (h:QE X e te) (hg:QG X tg g) (h1:swapsWithSole [tg] e pos.line X.env=pure false:=by rfl) (h2:swappedStores [tg] e X.env=pure none:=by rfl)
    (h3:(assignEach [tg] X.env).map (·.2)=[assign tg X.env]:=by rfl):QS X (.Assign [tg] e pos) (z9 te g):=PS.imp (as8 h hg h1 h2 h3) fun D σ H ⟨τ,L,D3,rs,rl,z,k⟩=>
  ⟨τ,L,_,rs,rl,z,fun v H1 y L1 t1 rl1 rv1 z1=>⟨y,τ,L1,_,rv1,rs.ts t1,rl1,z1,k.nx.ts t1⟩⟩
theorem PG.imp {X:Cx} {e:Expr} {t u:TG} (h:PG X e t) (q:∀ v σ H Q,u v σ H Q→t v σ H Q):PG X e u:=fun pins s σ H x v Q I r z=>h pins s σ H x v Q I r (q _ _ _ _ z)
theorem PGs.imp {X:Cx} {e:List Expr} {t u:TGs} (h:PGs X e t) (q:∀ v σ H Q,u v σ H Q→t v σ H Q):PGs X e u:=fun pins s σ H x v Q I r z=>h pins s σ H x v Q I r (q _ _ _ _ z)
theorem zk {i:Nat} {x:Str} (hN:X.N.Nodup) (hix:X.N[i]?=some x) (hx:Loc X.env.scope x) (hfn:X.fn x=true∨X.env.scope.names.lookup x=some .local:=by first | exact .inl rfl | exact .inr rfl | assumption):QG X (.Name x pos) (qj i):=
  PG.imp (agr hN hix hx hfn) fun v σ H Q ⟨y,τ,L,Q3,rv,rs,rl,z,k⟩=>k _ H _ L (TSt.refl _) (show RelS _ _ _ (wv τ i y) by rw [vi];exact rs.set rv) rl z
theorem aag:QGs X [] aa2:=PGs.imp apg fun vs σ H Q ⟨ys,τ,L,Q3,rv,rs,rl,z,k⟩=>by
  cases ys with
  | nil=>exact ⟨rv,k _ H _ L (TSt.refl _) rs rl z⟩
  | cons y r=>exact z.elim
theorem jc {g:TG3} {gs:aqv} (h:QG X e g) (hs:QGs X es gs) (he:(assignEach (e::es) X.env).map (·.2)=assign e X.env::(assignEach es X.env).map (·.2):=by rfl):QGs X (e::es) (zp g gs):=
  PGs.imp (aia h hs he) fun vs σ H Q ⟨ys,τ,L,Q3,rv,rs,rl,z,k⟩=>by
  cases ys with
  | nil=>exact z.elim
  | cons y r=>
    obtain ⟨x,xs,rfl,r1,r2⟩:=rv
    exact ⟨x,xs,rfl,y,τ,L,_,r1,rs,rl,z,fun σ1 H1 τ1 L1 t1 rs1 rl1 z1=>⟨r,τ1,L1,Q3,r2.ts t1,rs1,rl1,z1,k.ts t1⟩⟩
theorem abq {gs:aqv} {kk n:Nat} (hc:X.calm=true) (h:QGs X es gs) (h1:(assignEach es X.env).length=n:=by rfl) (h2:(assignEach es X.env).findIdx? (·.1)=none:=by rfl):QG X (.Tuple es kk pos) (aa7 n gs):=
  PG.imp (auj hc h h1 h2) fun v σ H Q ⟨y,τ,L,Q3,rv,rs,rl,z,k⟩=>by
  cases y with
  | tup ys=>
    obtain ⟨a,xs,rfl,sq,r⟩:=rv
    have z':(match ys.length==n with | true=>gs ys τ L Q3 | false=>False):=z
    split at z'
    · rename_i e
      exact ⟨a,xs,rfl,sq,by rw [← r.length];exact beq_iff_eq.mp e,ys,τ,L,Q3,r,rs,rl,z',k⟩
    · exact z'.elim
  | _=>exact z.elim
theorem azp {i j:Nat} {x y:Str} {px py pt:Pos} {kt k2:Nat} {pt2:Pos} (hc:X.calm=true) (hN:X.N.Nodup) (hi:X.N[i]?=some x) (hj:X.N[j]?=some y) (hij:i≠j) (lx:X.env.scope.names.lookup x=some .local) (ly:X.env.scope.names.lookup y=some .local)
    (h:QA X [a,b] tr) (h1:swappedStores [.Tuple [.Name x px,.Name y py] kt pt] (.Tuple [a,b] k2 pt2) X.env=pure (some [x,y])) (h2:swapsWithSole [.Tuple [.Name x px,.Name y py] kt pt] (.Tuple [a,b] k2 pt2) pos.line X.env=pure false:=by rfl):
    QS X (.Assign [.Tuple [.Name x px,.Name y py] kt pt] (.Tuple [a,b] k2 pt2) pos) (a3k i j tr):=PS.imp (a0w hc hN hi hj hij lx ly h h1 h2) fun D σ H ⟨τ,L,D3,rs,rl,z,k⟩=>
  ⟨τ,L,_,rs,rl,z,fun vs H1 ys L1 t1 rl1 rv1 z1=>by
    split at z1
    · rename_i v w
      obtain ⟨x',y',rfl,r1,r2⟩:=rv1.inv2
      exact ⟨x',y',rfl,k.nx _ H1 _ L1 t1 (show RelS _ _ _ (wv (wv τ i v) j w) by rw [vi,vi];exact ((rs.ts t1).set r1).set r2) rl1 z1⟩
    · exact z1.elim⟩
theorem a3p {op:Operator} {f:Int→Int→Int} (h:PIp X op (ipI f)):PIp X op (upR X.g3 (ipY f)):=fun pins s σ H x y v u Q I rx ry ⟨x3,y3,L,Q3,r1,r2,rl,z,k⟩=>by
  refine h pins s σ H x y v u Q I rx ry ?_
  cases x3 with
  | int i=>
    cases y3 with
    | int j=>exact ⟨i,j,r1,r2,k _ H _ L (TSt.refl _) rl (by rfl) z⟩
    | _=>exact z.elim
  | _=>cases y3<;>exact z.elim
theorem aob {i:Nat} {x:Str} {op:Operator} {r:R23} {pos':Pos} (hN:X.N.Nodup) (hix:X.N[i]?=some x) (hx:Loc X.env.scope x) (h:QE X e te) (hp:PIp X op (upR X.g3 r))
    (hfn:X.fn x=true∨X.env.scope.names.lookup x=some .local:=by first | exact .inl rfl | exact .inr rfl | assumption):QS X (.AugAssign (.Name x pos') op e pos) (avj i te r):=PS.imp (a1o hN hix hx h hp hfn) fun D σ H ⟨τ,L,D3,rs,rl,z,k⟩=>by
  unfold avj at z
  split at z
  · rename_i y ey
    obtain ⟨v,ev,rv⟩:=rs.get i y (akn _ _ ey)
    exact ⟨v,ev,τ,L,_,rs,rl,z,fun v1 H1 y1 L1 t1 rl1 rv1 z1=>⟨y,y1,L1,_,rv.ts t1,rv1,rl1,z1,fun v2 H2 y2 L2 t2 rl2 rv2 z2=>
      k.nx _ H2 _ L2 (t1.trans t2) (show RelS _ _ _ (wv τ i y2) by rw [vi];exact (rs.ts (t1.trans t2)).set rv2) rl2 z2⟩⟩
  · exact z.elim
theorem adk (hp:PassesOwn (model X.prog X.w) X.A X.env X.xe) (h:QT X c tA) (hb:QSs X body t):QS X (.While c body [] pos) (ahm tA t):=PS.imp (asi hp h hb) fun D σ H ⟨τ,L,D3,rs,rl,⟨W,⟨m0,w0⟩,turn⟩,k⟩=>by
  refine ⟨fun m σ1 H1=>∃ τ1 L1,TSt H H1∧RelS X.g3 H1 σ1 τ1∧RelH X.g3 H1 L1∧W m τ1 L1,⟨m0,τ,L,TSt.refl _,rs,rl,w0⟩,?_⟩
  rintro m σ1 H1 ⟨τ1,L1,t1,rs1,rl1,w1⟩
  refine ⟨τ1,L1,_,rs1,rl1,turn m τ1 L1 w1,fun b H2 L2 t2 rl2 z2=>?_⟩
  cases b with
  | false=>rw [if_neg Bool.false_ne_true];exact k.nx _ H2 _ L2 (t1.trans t2) (rs1.ts t2) rl2 z2
  | true=>
    rw [if_pos rfl]
    obtain ⟨N,hN,z2⟩:=z2
    refine ⟨fun σ' H'=>∃ τ' L',TSt H H'∧RelS X.g3 H' σ' τ'∧RelH X.g3 H' L'∧N τ' L',?_,?_⟩
    · rintro σ' H' ⟨τ',L',t',rs',rl',n'⟩
      obtain ⟨m',hm,w'⟩:=hN τ' L' n'
      exact ⟨m',hm,τ',L',t',rs',rl',w'⟩
    · have nx:AftS X.g3 H2 (Frg N) (fun σ' H'=>∃ τ' L',TSt H H'∧RelS X.g3 H' σ' τ'∧RelH X.g3 H' L'∧N τ' L'):=fun σ' H' τ' L' t' rs' rl' ⟨L5,s5,n'⟩=>⟨τ',L5,(t1.trans t2).trans t',rs',rl'.sub s5,n'⟩
      have k2:=k.ts (t1.trans t2)
      exact ⟨τ1,L2,_,rs1.ts t2,rl2,z2,nx,k2.rt,k2.nx,nx⟩
theorem v8 {g:TG3} {wi:TI3} (hp:PassesOwn (model X.prog X.w) X.A X.env X.xe) (hc:X.calm=true) (hi:QI X tg iter wi) (hg:QG X tg g) (hb:QSs X body t) (hs:∀ x,foldedSetIterable iter X.env x=pure x:=by intro _;rfl):
    QS X (.For tg iter body [] pos) (ac7 wi g t):=PS.imp (a0d hp hc hi hg hb hs) fun D σ H ⟨τ,L,D3,rs,rl,z,k⟩=>by
  refine ⟨τ,L,_,rs,rl,z,fun J H1 ys keep L1 t1 rl1 yl zz=>?_⟩
  obtain ⟨W,w0,wk,turn,fin⟩:=ate zz
  refine ⟨fun i m σ' H'=>∃ τ' L',i+m=ys.length∧TSt H1 H'∧RelS X.g3 H' σ' τ'∧RelH X.g3 H' L'∧W i τ' L',⟨ys.length,τ,L1,by omega,TSt.refl _,rs.ts t1,rl1,w0⟩,?_⟩
  rintro i m σ2 H2 ⟨τ2,L2,him,t2,rs2,rl2,w2⟩
  by_cases hlt:i<ys.length
  · refine .inr ⟨yl.go i H2 L2 t2 rl2 (wk i τ2 L2 w2) hlt,fun σ' H'=>∃ τ' L',TSt H1 H'∧RelS X.g3 H' σ' τ'∧RelH X.g3 H' L'∧W (i+1) τ' L',?_,?_⟩
    · rintro σ' H' ⟨τ',L',t',rs',rl',w'⟩
      exact ⟨m - 1,by omega,τ',L',by omega,t',rs',rl',w'⟩
    · intro x H3 y3
      have ey:ys[i]?=some ys[i]:=List.getElem?_eq_getElem hlt
      obtain ⟨t3,rl3,rv3⟩:=yl.yld i H2 L2 x H3 _ t2 rl2 (wk i τ2 L2 w2) ey y3
      refine ⟨ys[i],τ2,L2,_,rv3,rs2.ts t3,rl3,turn i _ τ2 L2 ey w2,fun σ4 H4 τ4 L4 t4 rs4 rl4 z4=>?_⟩
      have nx:AftS X.g3 H4 (Frg (W (i+1))) (fun σ' H'=>∃ τ' L',TSt H1 H'∧RelS X.g3 H' σ' τ'∧RelH X.g3 H' L'∧W (i+1) τ' L'):=fun σ' H' τ' L' t' rs' rl' ⟨L5,s5,n'⟩=>⟨τ',L5,((t2.trans t3).trans t4).trans t',rs',rl'.sub s5,n'⟩
      have k2:=k.ts (t1.trans ((t2.trans t3).trans t4))
      exact ⟨τ4,L4,_,rs4,rl4,z4,nx,k2.rt,k2.nx,nx⟩
  · have e:i=ys.length:=by omega
    subst e
    exact .inl ⟨yl.stop H2 L2 t2 rl2 (wk _ τ2 L2 w2),k.nx _ H2 _ L2 (t1.trans t2) rs2 rl2 (fin τ2 L2 w2)⟩
theorem PI.imp {X:Cx} {tg e:Expr} {t u:TI} (h:PI X tg e t) (q:∀ σ H Q,u σ H Q→t σ H Q):PI X tg e u:=fun pins s σ H Q I z=>h pins s σ H Q I (q σ H Q z)
theorem afn {G:G3} {H₀:Hp} {a:Addr} {ys:List Y} {keep:LHp→Prop} (h:∀ H L,TSt H₀ H→RelH G H L→keep L→∃ xs,SqL G.K H a xs∧RVs G H ys xs):Yields G H₀ (Itl G.K a) ys keep where
  go:=fun i H L t rl kp hi=>by
    obtain ⟨xs,sq,r⟩:=h H L t rl kp
    have:i<xs.length:=by rw [← r.length];exact hi
    exact ⟨xs,xs[i],sq,List.getElem?_eq_getElem this⟩
  yld:=fun i H L x H' y t rl kp hy ⟨e,f⟩=>by
    subst e
    obtain ⟨xs,sq,r⟩:=h _ L t rl kp
    obtain ⟨x',e',rv⟩:=r.get hy
    have:=f xs sq
    rw [e'] at this;cases this
    exact ⟨TSt.refl _,rl,rv⟩
  stop:=fun H L t rl kp=>by
    obtain ⟨xs,sq,r⟩:=h H L t rl kp
    exact ⟨xs,sq,by rw [r.length];exact Nat.le_refl _⟩
theorem jk (h:QE X e te):QI X tg e (xa te):=PI.imp (aww h) fun σ H R ⟨τ,L,R3,rs,rl,z,k⟩=>by
  refine ⟨τ,L,_,rs,rl,z,fun v H1 y L1 t1 rl1 rv1 z1=>?_⟩
  cases y with
  | ref a=>
    obtain ⟨ys,keep,es,kp,hk,z2⟩:=ame z1
    have hy:∀ H L,TSt H1 H→RelH X.g3 H L→keep L→∃ xs,SqL X.K H a xs∧RVs X.g3 H ys xs:=fun H L _ rl e=>abv rl (hk L e)
    obtain ⟨xs,sq,_⟩:=hy H1 L1 (TSt.refl _) rl1 kp
    exact ⟨a,rv1,⟨xs,sq⟩,k _ H1 ys _ L1 t1 rl1 (afn hy) z2⟩
  | sq ys=>
    obtain ⟨a,xs,e,sf,r⟩:=rv1
    exact ⟨a,e,⟨xs,sf.sq⟩,k _ H1 ys (fun _=>True) L1 t1 rl1 (afn fun H L t _ _=>⟨xs,(sf.ts t).sq,r.ts t⟩) z1⟩
  | _=>exact z1.elim
theorem anl {G:G3} {H₀:Hp} (lo:Int) (n:Nat):Yields G H₀ (Itr lo n) (wt lo n) (fun _=>True) where
  go:=fun i H L t rl kp hi=>show i<n by simpa [wt] using hi
  yld:=fun i H L x H' y t rl kp hy ⟨e,f⟩=>by
    subst e f
    refine ⟨TSt.refl _,rl,?_⟩
    unfold wt at hy
    rw [List.getElem?_map] at hy
    obtain ⟨z,ez,e⟩:=Option.map_eq_some_iff.mp hy
    have:=List.getElem?_range (i:=i) (n:=n) (by
      by_cases c:i<n
      · exact c
      · rw [List.getElem?_eq_none (by simp;omega)] at ez;cases ez)
    rw [this] at ez;cases ez
    subst e
    rfl
  stop:=fun H L t rl kp=>by simp [wt,Itr]
theorem arq {p:Pos} (hg:Gl X "range") (hm:X.mg "range" = none) (h:QA X [a] tr) (hs:starEach [a] X.env=[(false,eval a X.env)]:=by rfl):QI X tg (.Call (.Name "range" p) [a] [] pos) (auy tr):=
  PI.imp (ar5 hg hm h hs) fun σ H R ⟨τ,L,R3,rs,rl,z,k⟩=>by
  refine ⟨τ,L,_,rs,rl,z,fun vs H1 ys L1 t1 rl1 rv1 z1=>?_⟩
  split at z1
  · rename_i j
    obtain ⟨x,rfl,r⟩:=rv1.inv1
    cases r
    exact ⟨j,rfl,z1.1.1,z1.1.2,k _ H1 _ _ L1 t1 rl1 (anl 0 _) z1.2⟩
  · exact z1.elim
end
end L3
namespace L3
open PySem L2
section
variable {X:Cx} {scope:Scope} {T:List Str} {elt target iter c e o:Expr} {ifs es:List Expr} {wi:TI3} {g:TG3} {tA:TT3} {te to:TE3} {tr:TA3} {pos:Pos}
theorem alb:QF X [] av8:=PF.imp a0j fun σ H Q ⟨τ,L,Q3,rs,rl,z,k⟩=>k _ H L (TSt.refl _) rl z
theorem ahq (h:QT X c tA):QF X [c] tA:=a17 h
theorem ayv {G:G3} {n:Nat} {g2:TG} (hg2:∀ v σ H Q,upG G g v σ H Q→g2 v σ H Q) (σ:L2.St) (H:Hp) (Q:VK):upE G (yLC n wi g tA te) σ H Q→tLC n (upI G wi) g2 (upT G tA) (upE G te) σ H Q:=fun ⟨τ,L,Q3,rs,rl,z,k⟩=>by
  refine ⟨τ,L,_,rs,rl,z,fun J H1 ys keep L1 t1 rl1 yl zz=>?_⟩
  obtain ⟨hz,W,w0,wk,turn,fin⟩:=aw2 zz
  refine ⟨fun i m vs H'=>∃ zs L',i+m=ys.length∧zs.length≤i∧TSt H1 H'∧RVs G H' zs vs∧RelH G H' L'∧W i zs L',⟨ys.length,[],L1,by omega,Nat.le_refl _,TSt.refl _,rfl,rl1,w0⟩,?_⟩
  rintro i m vs H2 ⟨zs,L2,him,hzi,t2,rv2,rl2,w2⟩
  by_cases hlt:i<ys.length
  · refine .inr ⟨yl.go i H2 L2 t2 rl2 (wk i zs L2 w2) hlt,by rw [← rv2.length];omega,?_⟩
    intro x H3 y3
    have ey:ys[i]?=some ys[i]:=List.getElem?_eq_getElem hlt
    obtain ⟨t3,rl3,rv3⟩:=yl.yld i H2 L2 x H3 _ t2 rl2 (wk i zs L2 w2) ey y3
    refine hg2 _ _ _ _ ⟨ys[i],_,L2,_,rv3,(rs.ts ((t1.trans t2).trans t3)).more n,rl3,turn i _ zs L2 ey w2,fun σ4 H4 τ4 L4 t4 rs4 rl4 z4=>?_⟩
    refine ⟨τ4,L4,_,rs4,rl4,z4,fun b H5 L5 t5 rl5 z5=>?_⟩
    cases b with
    | true=>
      rw [if_pos rfl]
      refine ⟨τ4,L5,_,rs4.ts t5,rl5,z5,fun v6 H6 y6 L6 t6 rl6 rv6 ⟨L7,s7,z6⟩=>?_⟩
      have tt:=((t3.trans t4).trans t5).trans t6
      exact ⟨m - 1,by omega,zs++[y6],L7,by omega,by rw [List.length_append,List.length_singleton];omega,t2.trans tt,(rv2.ts tt).app (RVs.one rv6),rl6.sub s7,z6⟩
    | false=>
      rw [if_neg Bool.false_ne_true]
      have tt:=(t3.trans t4).trans t5
      obtain ⟨L7,s7,z6⟩:=z5
      exact ⟨m - 1,by omega,zs,L7,by omega,by omega,t2.trans tt,rv2.ts tt,rl5.sub s7,z6⟩
  · have ei:i=ys.length:=by omega
    subst ei
    refine .inl ⟨yl.stop H2 L2 t2 rl2 (wk _ zs L2 w2),by rw [← rv2.length];omega,fun D hD=>?_⟩
    exact k _ _ _ _ ((t1.trans t2).trans (TSt.new hD)) (rl2.newL hD rv2) (by rfl) (fin zs L2 w2 D (rl2.none hD))
structure TGx (X:Cx) (scope:Scope) (T:List Str) (target:Expr) (g:TG3):Prop where
  ex:∃ g2:TG,(∀ C fp s₀ H₀,PG (X.comp scope T C fp s₀ H₀) target g2)∧ajw g2 X.N.length T.length∧∀ v σ H Q,upG X.g3 g v σ H Q→g2 v σ H Q
theorem awj {G:G3} (i:Nat) (v:V) (σ:L2.St) (H:Hp) (Q:L2.St→Hp→Prop):upG G (qj i) v σ H Q→abp i v σ H Q:=fun ⟨y,τ,L,Q3,rv,rs,rl,z,k⟩=>
  k _ H _ L (TSt.refl _) (show RelS _ _ _ (wv τ i y) by rw [vi];exact rs.set rv) rl z
theorem aat {x:Str} {p:Pos} (hN:(X.N++[x]).Nodup) (hl:∀ C fp s₀ H₀,Loc (X.comp scope [x] C fp s₀ H₀).env.scope x) (hfn:∀ C fp s₀ H₀,(X.comp scope [x] C fp s₀ H₀).env.scope.names.lookup x=some .local):TGx X scope [x] (.Name x p) (qj X.N.length):=
  ⟨abp X.N.length,fun C fp s₀ H₀=>agr (X:=X.comp scope [x] C fp s₀ H₀) hN (by show (X.N++[x])[X.N.length]?=some x;simp) (hl C fp s₀ H₀) (.inr (hfn C fp s₀ H₀)),aoi _,awj _⟩
theorem ara {K:PySem.W.Frag} (n:Nat):ajw (azg K 2 (amy (abp n) (amy (abp (n+1)) a1q))) n 2:=by
  rintro σ hl x H Q ⟨a,xs,e,sq,len,v,r,e1,w,r',e2,e3,q⟩
  refine ⟨a,xs,e,sq,len,v,r,e1,w,r',e2,e3,⟨by simp [hl],fun i u ei=>?_⟩,q⟩
  have hi:i<n:=by
    by_cases c:i<n
    · exact c
    · rw [List.getElem?_append_right (by omega),List.getElem?_replicate] at ei
      split at ei<;>cases ei
  rw [List.getElem?_set_ne (by omega),List.getElem?_set_ne (by omega)]
  exact ei
theorem a02 {G:G3} (i j:Nat) (v:V) (σ:L2.St) (H:Hp) (Q:L2.St→Hp→Prop):upG G (aa7 2 (zp (qj i) (zp (qj j) aa2))) v σ H Q→azg G.K 2 (amy (abp i) (amy (abp j) a1q)) v σ H Q:=fun ⟨y,τ,L,Q3,rv,rs,rl,z,k⟩=>by
  cases y with
  | tup ys=>
    obtain ⟨a,xs,rfl,sq,r⟩:=rv
    have z':(match ys.length==2 with | true=>zp (qj i) (zp (qj j) aa2) ys τ L Q3 | false=>False):=z
    split at z'
    · rename_i e
      have hl:ys.length=2:=beq_iff_eq.mp e
      match ys,hl with
      | [y1,y2],_=>
        obtain ⟨x1,x2,rfl,r1,r2⟩:=r.inv2
        have z2:Q3 (wv (wv τ i y1) j y2) L:=z'
        exact ⟨a,_,rfl,sq,rfl,x1,[x2],rfl,x2,[],rfl,rfl,k _ H _ L (TSt.refl _) (by rw [vi,vi];exact (rs.set r1).set r2) rl z2⟩
    · exact z'.elim
  | _=>exact z.elim
theorem aks {x y:Str} {p p' pt:Pos} {kt:Nat} (hc:X.calm=true) (hN:(X.N++[x,y]).Nodup) (hl:∀ C fp s₀ H₀,(X.comp scope [x,y] C fp s₀ H₀).env.scope.names.lookup x=some .local) (hl2:∀ C fp s₀ H₀,(X.comp scope [x,y] C fp s₀ H₀).env.scope.names.lookup y=some .local)
    (h1:∀ env,(assignEach [.Name x p,.Name y p'] env).length=2:=by intro _;rfl) (h2:∀ env,(assignEach [.Name x p,.Name y p'] env).findIdx? (·.1)=none:=by intro _;rfl)
    (h3:∀ env,(assignEach [.Name x p,.Name y p'] env).map (·.2)=assign (.Name x p) env::(assignEach [.Name y p'] env).map (·.2):=by intro _;rfl) (h4:∀ env,(assignEach [.Name y p'] env).map (·.2)=assign (.Name y p') env::(assignEach [] env).map (·.2):=by intro _;rfl):
    TGx X scope [x,y] (.Tuple [.Name x p,.Name y p'] kt pt) (aa7 2 (zp (qj X.N.length) (zp (qj (X.N.length+1)) aa2))):=
  ⟨_,fun C fp s₀ H₀=>auj (X:=X.comp scope [x,y] C fp s₀ H₀) hc (aia (agr hN (by show (X.N++[x,y])[X.N.length]?=some x;simp) (.inl (hl C fp s₀ H₀)) (.inr (hl C fp s₀ H₀))) (aia (agr hN (by show (X.N++[x,y])[X.N.length+1]?=some y;simp) (.inl (hl2 C fp s₀ H₀)) (.inr (hl2 C fp s₀ H₀))) apg (h4 _)) (h3 _)) (h1 _) (h2 _),ara _,a02 _ _⟩
theorem aii (T:List Str) (S:CompScope X scope) (hc:X.calm=true) (hi:QI X target iter wi) (hg:TGx X scope T target g)
    (hf:∀ C fp s₀ H₀,QF (X.comp scope T C fp s₀ H₀) ifs tA) (he:∀ C fp s₀ H₀,QE (X.comp scope T C fp s₀ H₀) elt te)
    (hs:∀ x,foldedSetIterable iter X.env x=pure x:=by intro _;rfl):QE X (.ListComp elt [⟨target,iter,ifs,0⟩] scope pos) (yLC T.length wi g tA te):=by
  obtain ⟨g2,h1,h2,h3⟩:=hg.ex
  exact PE.imp (a36 T S hc hi h1 h2 hf he hs) (ayv h3)
theorem an7 (T:List Str) {i:Nat} {x:Str} {px lp:Pos} (hN:X.N.Nodup) (hix:X.N[i]?=some x) (hx:Loc X.env.scope x) (S:CompScope X scope) (hc:X.calm=true) (hi:QI X target iter wi)
    (hg:TGx X scope T target g) (hf:∀ C fp s₀ H₀,QF (X.comp scope T C fp s₀ H₀) ifs tA) (he:∀ C fp s₀ H₀,QE (X.comp scope T C fp s₀ H₀) elt te)
    (hsw:swapsWith (.ListComp elt [⟨target,iter,ifs,0⟩] scope lp) (some (.Name x px)) pos.line X.env=pure true:=by rfl)
    (hfn:X.fn x=true∨X.env.scope.names.lookup x=some .local:=by first | exact .inl rfl | exact .inr rfl | assumption)
    (hs:∀ x,foldedSetIterable iter X.env x=pure x:=by intro _;rfl):QS X (.Assign [.Name x px] (.ListComp elt [⟨target,iter,ifs,0⟩] scope lp) pos) (z9 (yLC T.length wi g tA te) (qj i)):=by
  obtain ⟨g2,h1,h2,h3⟩:=hg.ex
  refine PS.imp (asx (tc:=upT X.g3 tA) (te:=upE X.g3 te) T hN hix hx S hc hi h1 h2 hf he hsw hfn hs) fun D σ H ⟨τ,L,D3,rs,rl,z,k⟩=>?_
  refine ayv h3 σ H _ ⟨τ,L,_,rs,rl,z,fun v H1 y L1 t1 rl1 rv1 z1=>?_⟩
  exact k.nx _ H1 _ L1 t1 (show RelS _ _ _ (wv τ i y) by rw [vi];exact (rs.ts t1).set rv1) rl1 z1
def dn (G:G3) (sp:Sp3):Sp:=fun vs H Q _=>∃ ys L Q3,RVs G H ys vs∧RelH G H L∧sp ys L Q3∧Aft G H Q3 Q
abbrev z8 (P:Program) (w:World) (K:PySem.W.Frag) (mg:Str→Option Value) (base:Heap) (k:Nat) (x:Str) (ps:List Str) (sp:Sp3):Prop:=Cal P w K mg base k x ps (dn ⟨K,P,w⟩ sp)
abbrev Fn3 (P:Program) (w:World) (K:PySem.W.Frag) (mg:Str→Option Value) (base:Heap) (k:Nat) (f:Addr) (fd:FuncData) (ps:List Str) (sp:Sp3):Prop:=FnOk P w K mg base CX0 k f fd ps (dn ⟨K,P,w⟩ sp)
theorem j8 {k:Nat} {x:Str} {ps:List Str} {sp:Sp3} {p:Pos} (c:z8 X.prog X.w X.K X.mg X.base k x ps sp) (hr:Room k X.A) (hg:Gl X x) (ha:QA X (e::es) tr) (hdb:(x==("__debug__" : Str))=false:=by decide)
    (he:starEach (e::es) X.env=(false,eval e X.env)::starEach es X.env:=by rfl) (hpl:(backTo pos (starEach es X.env)).any (·.1)=false:=by rfl):QE X (.Call (.Name x p) (e::es) [] pos) (zc sp tr):=
  PE.imp (a4c c hr hg ha hdb he hpl) fun σ H Q ⟨τ,L,Q3,rs,rl,z,k⟩=>
  ⟨τ,L,_,rs,rl,z,fun vs H1 ys L1 t1 rl1 rv1 z1=>⟨ys,L1,Q3,by rw [List.append_nil];exact rv1,rl1,z1,k.ts t1⟩⟩
def aev (Q:YK):YK:=fun y L=>∃ L2,LSub L2 L∧Q y L2
def afi (N:List Str) (ys:List Y):St3:=ys.map some++List.replicate (N.length - ys.length) none
theorem ajq {G:G3} {H:Hp} {N:List Str} {ys:List Y} {vs:List V} (r:RVs G H ys vs):RelS G H (L2.start N vs) (afi N ys):=by
  unfold L2.start afi
  rw [← r.length]
  refine RelS.more ⟨by simp [r.length],fun i y e=>?_⟩ _
  rw [List.getElem?_map] at e
  obtain ⟨y',e1,e2⟩:=Option.map_eq_some_iff.mp e
  cases e2
  obtain ⟨x,ex,rx⟩:=r.get e1
  exact ⟨x,by rw [List.getElem?_map,ex];rfl,rx⟩
theorem ok3 {P:Program} {w:World} {K:PySem.W.Frag} {mg:Str→Option Value} {base:Heap} {x qual:Str} {st:Stmt} {f:Addr} {fd:FuncData} {N ps:List Str} {k:Nat} {sp:Sp3} (F:Fun K x qual st f fd) (S:FnScope N ps (qa st)) (len:∀ ys L Q,sp ys L Q→ys.length=ps.length)
    (hbody:∀ (cdv:Value) (A:Around) (outer:List Env) (s:Shared) (H:Hp) (E:XK),Room k (A.deeper (PyProof.Rows.envOfC qual (qa st) s.heap.objs.size f cdv))→
      ∃ t,QSs (jb CX0 P w K mg base N qual (qa st) f cdv A outer s H E).nox (qr st) t∧∀ ys L Q,sp ys L Q→t { nx:=fun _ L'=>aev Q .non L',rt:=aev Q } (afi N ys) L):Fn3 P w K mg base (k+1) f fd ps sp:=by
  refine F.ok S (fun vs H Q E ⟨ys,L,Q3,rv,rl,z,_⟩=>by rw [← rv.length];exact len ys L Q3 z) fun cdv A outer s H vs Q E hr ⟨ys,L,Q3,rv,rl,z,k⟩=>?_
  obtain ⟨t,ht,q⟩:=hbody cdv A outer s H E hr
  refine ⟨_,ht,afi N ys,L,_,ajq rv,rl,q ys L Q3 z,?_⟩
  refine ⟨fun σ H' τ L' t' rs' rl' ⟨L2,s2,q2⟩=>k .non H' .non L2 t' (rl'.sub s2) (by rfl) q2,fun v H' y L' t' rl' rv' ⟨L2,s2,q2⟩=>k v H' y L2 t' (rl'.sub s2) rv' q2,fun _ _ _ _ _ _ _ z=>z.elim,fun _ _ _ _ _ _ _ z=>z.elim⟩
def upM (G:G3) (r:Y→List Y→LHp→YK→Prop):V→List V→Hp→VK→Prop:=fun x xs H Q=>∃ y ys L Q3,RV G H y x∧RVs G H ys xs∧RelH G H L∧r y ys L Q3∧Aft G H Q3 Q
theorem asy:MtM X "list.append" (upM X.g3 jj):=MtM.imp arp fun x xs H Q ⟨y,ys,L,Q3,r1,r2,rl,z,k⟩=>by
  unfold jj at z
  split at z
  · rename_i a v
    obtain ⟨zs,e,z⟩:=jx z
    obtain ⟨us,e2,r⟩:=rl a _ e
    obtain ⟨v',rfl,rv⟩:=r2.inv1
    exact ⟨a,us,v',r1,rfl,e2,by rw [← r.length];exact z.1,k _ _ _ _ (TSt.lst e2) (rl.setL e2 (r.app (RVs.one rv))) (by rfl) z.2⟩
  · exact z.elim
theorem atn:MtM X "list.extend" (upM X.g3 adw):=MtM.imp arj fun x xs H Q ⟨y,ys,L,Q3,r1,r2,rl,z,k⟩=>by
  unfold adw at z
  split at z
  · rename_i a b
    obtain ⟨zs,e,z⟩:=jx z
    obtain ⟨us,e',z⟩:=jx z
    obtain ⟨vs,e2,r⟩:=rl a _ e
    obtain ⟨ws,e3,r'⟩:=rl b _ e'
    obtain ⟨v',rfl,rv⟩:=r2.inv1
    cases rv
    exact ⟨a,b,vs,ws,r1,rfl,e2,e3,by rw [← r.length,← r'.length];exact z.1,k _ _ _ _ (TSt.lst e2) (rl.setL e2 (r.app r')) (by rfl) z.2⟩
  · exact z.elim
theorem a2m:MtM X "list.pop" (upM X.g3 auh):=MtM.imp az9 fun x xs H Q ⟨y,ys,L,Q3,r1,r2,rl,z,k⟩=>by
  unfold auh at z
  split at z
  · rename_i a
    obtain ⟨zs,e,z⟩:=jx z
    obtain ⟨us,e2,r⟩:=rl a _ e
    cases (show xs=[] from r2)
    cases el:zs[zs.length - 1]? with
    | none=>rw [el] at z;exact z.elim
    | some v=>
      rw [el] at z
      obtain ⟨u,eu,ru⟩:=r.get el
      rw [r.length] at eu
      exact ⟨a,us,u,r1,rfl,e2,eu,k _ _ _ _ (TSt.lst e2) (rl.setL e2 r.dropLast) (ru.ts (TSt.lst e2)) z⟩
  · exact z.elim
theorem ap8 {G:G3} {H:Hp} {L:LHp} {a:Addr} {ys:List Y} (rl:RelH G H L) (h:ab9 L (.ref a)=some ys):tyV G.K "list" (.ref a) H:=by
  obtain ⟨xs,sq,_⟩:=abv rl h
  exact .inl ⟨rfl,xs,sq⟩
def yBL (r:Y→List Y→LHp→YK→Prop) (to:TE3) (t:TA3) (τ:St3) (L:LHp) (Q:YK):Prop:=to τ L fun x L1=>match x with
  | .ref a=>agg L1 (.ref a) fun _=>t τ L1 fun xs L2=>r (.ref a) xs L2 Q
  | _=>False
theorem ai7 {id:String} {name:Str} {apos cpos:Pos} {r:Y→List Y→LHp→YK→Prop} (h2:Slot "list" name id) (h3:typeOf (.builtin id)=pure (.type "method_descriptor")) (hm:MtM X id (upM X.g3 r)) (ho:QE X o to) (ha:QA X (e::es) tr)
    (h4:attributeBase o name X.env (eval o X.env)=eval o X.env:=by rfl)
    (h5:((backTo cpos (starEach (e::es) X.env)).all (fun x=>!x.1)&&(backToKw cpos (keywordEach [] X.env)).all (fun x=>x.1.isSome)&&decide ((e::es).length+([]:List Keyword).length+(if ([]:List Keyword).isEmpty=true then 0 else 1)<30))=true:=by rfl)
    (h6:(apos.endLine==cpos.line)=true:=by rfl) (h7:starEach (e::es) X.env=(false,eval e X.env)::starEach es X.env:=by rfl) (h8:(backTo cpos (starEach es X.env)).any (·.1)=false:=by rfl):
    QE X (.Call (.Attribute o name apos) (e::es) [] cpos) (yBL r to tr):=PE.imp (ayg PySem.F.plainAttrs_list h2 h3 hm ho ha h4 h5 h6 h7 h8) fun σ H Q ⟨τ,L,Q3,rs,rl,z,k⟩=>
  ⟨τ,L,_,rs,rl,z,fun v H1 y L1 t1 rl1 rv1 z1=>by
    split at z1
    · rename_i a
      obtain ⟨ys,es,z1⟩:=w9 z1
      exact ⟨by cases rv1;exact ap8 rl1 es,τ,L1,_,rs.ts t1,rl1,z1,fun vs H2 ys L2 t2 rl2 rv2 z2=>⟨.ref a,ys,L2,Q3,rv1.ts t2,rv2,rl2,z2,k.ts (t1.trans t2)⟩⟩
    · exact z1.elim⟩
theorem a1p {id:String} {name:Str} {apos cpos:Pos} {r:Y→List Y→LHp→YK→Prop} (h2:Slot "list" name id) (h3:typeOf (.builtin id)=pure (.type "method_descriptor")) (hm:MtM X id (upM X.g3 r)) (ho:QE X o to)
    (h4:attributeBase o name X.env (eval o X.env)=eval o X.env:=by rfl) (h6:(apos.endLine==cpos.line)=true:=by rfl):
    QE X (.Call (.Attribute o name apos) [] [] cpos) (yBL r to qm):=PE.imp (azw PySem.F.plainAttrs_list h2 h3 hm ho h4 h6) fun σ H Q ⟨τ,L,Q3,rs,rl,z,k⟩=>
  ⟨τ,L,_,rs,rl,z,fun v H1 y L1 t1 rl1 rv1 z1=>by
    split at z1
    · rename_i a
      obtain ⟨ys,es,z1⟩:=w9 z1
      exact ⟨by cases rv1;exact ap8 rl1 es,.ref a,[],L1,Q3,rv1,rfl,rl1,z1,k.ts t1⟩
    · exact z1.elim⟩
theorem j5 {apos cpos:Pos} (ho:QE X o to) (ha:QA X (e::es) tr) (h4:attributeBase o "append" X.env (eval o X.env)=eval o X.env:=by rfl)
    (h5:((backTo cpos (starEach (e::es) X.env)).all (fun x=>!x.1)&&(backToKw cpos (keywordEach [] X.env)).all (fun x=>x.1.isSome)&&decide ((e::es).length+([]:List Keyword).length+(if ([]:List Keyword).isEmpty=true then 0 else 1)<30))=true:=by rfl)
    (h6:(apos.endLine==cpos.line)=true:=by rfl) (h7:starEach (e::es) X.env=(false,eval e X.env)::starEach es X.env:=by rfl) (h8:(backTo cpos (starEach es X.env)).any (·.1)=false:=by rfl):
    QE X (.Call (.Attribute o "append" apos) (e::es) [] cpos) (yBL jj to tr):=ai7 PySem.F.slot_list_append PySem.F.type_list_append asy ho ha h4 h5 h6 h7 h8
theorem ajf {apos cpos:Pos} (ho:QE X o to) (ha:QA X (e::es) tr) (h4:attributeBase o "extend" X.env (eval o X.env)=eval o X.env:=by rfl)
    (h5:((backTo cpos (starEach (e::es) X.env)).all (fun x=>!x.1)&&(backToKw cpos (keywordEach [] X.env)).all (fun x=>x.1.isSome)&&decide ((e::es).length+([]:List Keyword).length+(if ([]:List Keyword).isEmpty=true then 0 else 1)<30))=true:=by rfl)
    (h6:(apos.endLine==cpos.line)=true:=by rfl) (h7:starEach (e::es) X.env=(false,eval e X.env)::starEach es X.env:=by rfl) (h8:(backTo cpos (starEach es X.env)).any (·.1)=false:=by rfl):
    QE X (.Call (.Attribute o "extend" apos) (e::es) [] cpos) (yBL adw to tr):=ai7 PySem.F.slot_list_extend PySem.F.type_list_extend atn ho ha h4 h5 h6 h7 h8
theorem a05 {apos cpos:Pos} (ho:QE X o to) (h4:attributeBase o "pop" X.env (eval o X.env)=eval o X.env:=by rfl) (h6:(apos.endLine==cpos.line)=true:=by rfl):
    QE X (.Call (.Attribute o "pop" apos) [] [] cpos) (yBL auh to qm):=a1p PySem.F.slot_list_pop PySem.F.type_list_pop a2m ho h4 h6
end
end L3
namespace L3
open PySem L2
abbrev ao6:R23:=yI0 fun i j=>.int (i - j)
abbrev ahy:R23:=yI CMul fun i j=>.int (i*j)
abbrev wj:R23:=yI azx fun i j=>.int (i / j)
abbrev wn:R23:=yI (fun _ j=>0<j) fun i j=>.int (i % j)
abbrev a4h:R23:=yI a2d fun i j=>.int (i ^ j.toNat)
abbrev yLt:R23:=yI0 fun i j=>.bl (decide (i<j))
abbrev yGt:R23:=yI0 fun i j=>.bl (decide (j<i))
abbrev az2:R23:=ipY fun i j=>i+j
abbrev as5:R23:=ipY fun i j=>i - j
theorem a0g {X:Cx}:PIp X .Add (upR X.g3 az2):=a3p a00
theorem asc {X:Cx}:PIp X .Sub (upR X.g3 as5):=a3p a0b
structure TopC (G:G3) (mg:Str→Option Value) (x:Str) (y:Y):Prop where
  ex:∃ c,mg x=some (.ref c)∧∀ H,RV G H y (.ref c)
theorem au6 {X:Cx} {x:Str} {y:Y} {pos:Pos} (t:TopC X.g3 X.mg x y) (hg:Gl X x) (hd:(x==("__debug__" : Str))=false:=by decide):QE X (.Name x pos) (yC y):=by
  obtain ⟨c,hm,q⟩:=t.ex
  exact a3i hg hm q hd
def aiq (kvs:List (Str×Str)):LO:=.dct (kvs.map fun p=>(Sum.inr p.1,Y.str p.2))
def ayq (kvs:List (Str×Str)) (_:St3) (L:LHp) (Q:YK):Prop:=∀ p,L p=none→Q (.ref p) (qh L p (aiq kvs))
def kvV (kvs:List (Str×Str)):List (Key×V):=kvs.map fun p=>(Sum.inr p.1,V.str p.2)
theorem amw {σ:L2.St} {H:Hp} {Q:List (V×V)→Hp→Prop}:∀ {kvs:List (Str×Str)},Q (kvs.map fun p=>(V.str p.1,V.str p.2)) H→akg (kvs.map fun p=>(tC (.str p.1),tC (.str p.2))) σ H Q
  | [],h=>h
  | _::r,h=>amw (kvs:=r) h
theorem aq9 {G:G3} {H:Hp}:∀ kvs:List (Str×Str),Paired (fun (p:Key×Y) (q:Key×V)=>p.1=q.1∧RV G H p.2 q.2) (kvs.map fun p=>(Sum.inr p.1,Y.str p.2)) (kvV kvs)
  | []=>.nil
  | _::r=>.cons ⟨rfl,rfl⟩ (aq9 r)
theorem axs {X:Cx} {pos:Pos} {keys:List (Option Expr)} {values:List Expr} (kvs:List (Str×Str)) (h:PPs X pos keys values (kvs.map fun p=>(tC (.str p.1),tC (.str p.2)))) (h1:(keys.all fun x=>x.isSome)=true) (h2:keys.length=values.length) (h3:keys≠[]) (h4:keys.length≤15)
    (h5:kvs.length≤15:=by decide) (nd:af0 [] (kvV kvs)=kvV kvs:=by decide +kernel):QE X (.Dict keys values pos) (ayq kvs):=PE.imp (axv h h1 h2 h3 h4) fun σ H Q ⟨τ,L,Q3,rs,rl,z,k⟩=>by
  intro p hp
  refine amw ⟨zx,kvV kvs,by simp [kvV,kV],by simpa [kvV] using h5,?_⟩
  rw [nd,avt]
  refine k _ _ _ (qh L p (aiq kvs)) (TSt.new hp) ?_ (by rfl) (z p (rl.none hp))
  intro a u e
  by_cases c:a=p
  · subst c
    rw [q8] at e;cases e
    exact ⟨kvV kvs,zx,aq9 kvs⟩
  · rw [qf c] at e
    exact (rl a u e).keep (TSt.new hp) (qt c)
def aje (t:TE3):Prop:=∀ τ L Q,t τ L Q→∃ v,Q v L∧∀ L' Q',LSub L L'→Q' v L'→t τ L' Q'
theorem au2 (i:Nat):aje (qb i):=fun τ L Q h=>by
  unfold qb at h ⊢
  split at h
  · rename_i y e;exact ⟨y,h,fun L' Q' _ q=>q⟩
  · exact h.elim
theorem az7 (y:Y):aje (yC y):=fun _ _ _ h=>⟨y,h,fun _ _ _ q=>q⟩
theorem a1r {C:Int→Int→Prop} {g:Int→Int→Y} {ta tb:TE3} (ha:aje ta) (hb:aje tb):aje (yOp (yI C g) ta tb):=fun τ L Q h=>by
  obtain ⟨x,h1,k1⟩:=ha τ L _ h
  obtain ⟨y,h2,k2⟩:=hb τ L _ h1
  cases x with
  | int i=>
    cases y with
    | int j=>exact ⟨g i j,h2.2,fun L' Q' s q=>k1 L' _ s (k2 L' _ s ⟨h2.1,q⟩)⟩
    | _=>exact h2.elim
  | _=>cases y<;>exact h2.elim
theorem agq {α:Type} {L:LHp} {Q:α→LHp→Prop} {o:Option α} (h:atK L Q o):∃ v,o=some v∧Q v L:=by
  cases o with
  | none=>exact h.elim
  | some v=>exact ⟨v,rfl,h⟩
def ast (t:TA3) (ti:TE3) (τ:St3) (L:LHp) (Q:YK):Prop:=t τ L fun ys L1=>match Nat.ble ys.length 1000 with
  | true=>ti τ L1 fun i L2=>match i with
    | .int i=>atK L2 Q (atI ys i)
    | _=>False
  | false=>False
theorem aq3 {X:Cx} {es:List Expr} {b:Expr} {tr:TA3} {tb:TE3} {pos lp:Pos} (h:QA X es tr) (hb:QE X b tb) (pu:aje tb) (hp:ali b):QE X (.Subscript (.List es lp) b pos) (ast tr tb):=PE.imp (ayu (z0 X.K X.prog X.w) (auw h) hb hp) fun σ H Q ⟨τ,L,Q3,rs,rl,z,k⟩=>by
  refine ⟨τ,L,_,rs,rl,z,fun vs H1 ys L1 t1 rl1 rv1 z1=>?_⟩
  cases e:Nat.ble ys.length 1000 with
  | false=>rw [e] at z1;exact z1.elim
  | true=>
    rw [e] at z1
    have:=Nat.le_of_ble_eq_true e
    refine ⟨abh (by rw [← rv1.length];exact this),fun p hp=>?_⟩
    obtain ⟨v,zv,kv⟩:=pu τ L1 _ z1
    have sb:LSub L1 (qh L1 p (.lst ys)):=LSub.new (rl1.none hp)
    refine ⟨τ,qh L1 p (.lst ys),fun v' L'=>v'=v∧L'=qh L1 p (.lst ys),rs.ts (t1.trans (TSt.new hp)),rl1.newL hp rv1,kv _ _ sb ⟨rfl,rfl⟩,?_⟩
    rintro v2 H2 y2 L2 t2 rl2 rv2 ⟨rfl,rfl⟩
    refine ⟨.ref p,y2,_,fun y L'=>L'=qh L1 p (.lst ys)∧Q3 y L1,rfl,rv2,rl2,?_,?_⟩
    · cases y2 with
      | int i=>
        obtain ⟨u,eu,qu⟩:=agq zv
        refine ql q8 ?_
        rw [eu]
        exact ⟨rfl,qu⟩
      | _=>exact zv.elim
    · rintro v3 H3 y3 L3 t3 rl3 rv3 ⟨rfl,q3⟩
      exact k v3 H3 y3 L1 (t1.trans ((TSt.new hp).trans (t2.trans t3))) (rl3.sub sb) rv3 q3
theorem am7 {kvs:List (Str×Str)} {k x:Str} (h:kvs.lookup k=some x):v9 (kvs.map fun p=>((Sum.inr p.1:Key),Y.str p.2)) (Sum.inr k)=some (Y.str x):=by
  induction kvs with
  | nil=>simp at h
  | cons p r ih=>
    obtain ⟨a,b⟩:=p
    unfold v9
    rw [List.map_cons,List.find?_cons]
    rw [List.lookup_cons] at h
    by_cases c:k=a
    · subst c
      simp at h
      simp [h]
    · have c1:(k==a)=false:=by simpa using c
      rw [c1] at h
      have c2:decide ((Sum.inr a:Key)=Sum.inr k)=false:=decide_eq_false fun z=>c (Sum.inr.inj z).symm
      simp only [c2]
      exact ih h
theorem axl {lo:Int} {n i:Nat} {y:Y} (h:(wt lo n)[i]?=some y):i<n∧y=.int (lo+i):=by
  unfold wt at h
  rw [List.getElem?_map] at h
  obtain ⟨z,ez,e⟩:=Option.map_eq_some_iff.mp h
  have hi:i<n:=by
    by_cases c:i<n
    · exact c
    · rw [List.getElem?_eq_none (by simp;omega)] at ez;cases ez
  rw [List.getElem?_range hi] at ez;cases ez
  exact ⟨hi,e.symm⟩
theorem amz (lo:Int) (n:Nat):(wt lo n).length=n:=by simp [wt]
theorem a1i {τ:St3} {L:LHp} {a:Addr} {ys:List Y} {v:Y} {Q:YK} (e:L a=some (.lst (ys++[v]))) (q:Q v (qh L a (.lst ys))):agg L (.ref a) (fun _=>qm τ L fun xs L2=>auh (.ref a) xs L2 Q):=by
  refine ql e (qz e ?_)
  have:(ys++[v])[(ys++[v]).length - 1]?=some v:=by simp
  rw [this,List.dropLast_concat]
  exact q
theorem xu {g:TG3} {tb:TS3} {D:Ends3} {τ:St3} {L:LHp} {a:Addr} {ys:List Y} (h:ab9 L (.ref a)=some ys) (W:Nat→St3→LHp→Prop) (h0:W 0 τ L) (hk:∀ i τ L',W i τ L'→L' a=L a)
    (hs:∀ i y τ L,ys[i]?=some y→W i τ L→g y τ L fun τ2 L2=>tb { D with nx:=Frg (W (i+1)),ct:=Frg (W (i+1)),bk:=D.nx } τ2 L2) (hd:∀ τ L,W ys.length τ L→D.nx τ L):
    aou L a fun ys keep L1=>aqo ys keep g tb D τ L1:=vh (ajm h) fun keep kp=>agx ⟨W,h0,fun i τ L' w=>kp L' (hk i τ L' w),hs,hd⟩
theorem aht {ys:List Y} {keep:LHp→Prop} {L:LHp} {n:Nat} {g:TG3} {tc:TT3} {te:TE3} {τ:St3} {Q:YK} (I:Nat→List Y→Prop) (hz:ys.length<sizeLine) (hk:keep L) (h0:I 0 [])
    (turn:∀ (i:Nat) y zs,ys[i]?=some y→I i zs→g y (τ++List.replicate n none) L fun τ2 L2=>tc τ2 L2 fun b L3=>vf b (te τ2 L3 fun z L4=>Frg (fun zs L'=>L'=L∧I (i+1) zs) (zs++[z]) L4) (Frg (fun zs L'=>L'=L∧I (i+1) zs) zs L3))
    (hq:∀ zs,I ys.length zs→∀ p,L p=none→Q (.ref p) (qh L p (.lst zs))):lcK ys keep n g tc te τ L Q:=by
  refine ao0 ⟨hz,fun i zs L'=>L'=L∧I i zs,⟨rfl,h0⟩,?_,?_,?_⟩
  · rintro i zs L' ⟨rfl,_⟩;exact hk
  · rintro i y zs L' ey ⟨rfl,hI⟩
    exact turn i y zs ey hI
  · rintro zs L' ⟨rfl,hI⟩ p hp
    exact hq zs hI p hp
theorem a1k {lo:Int} {m:Nat} {L:LHp} {n:Nat} {g:TG3} {tc:TT3} {te:TE3} {τ:St3} {Q:YK} (I:Nat→List Y→Prop) (hz:m<sizeLine) (h0:I 0 [])
    (turn:∀ (i:Nat) zs,i<m→I i zs→g (.int (lo+i)) (τ++List.replicate n none) L fun τ2 L2=>tc τ2 L2 fun b L3=>vf b (te τ2 L3 fun z L4=>Frg (fun zs L'=>L'=L∧I (i+1) zs) (zs++[z]) L4) (Frg (fun zs L'=>L'=L∧I (i+1) zs) zs L3))
    (hq:∀ zs,I m zs→∀ p,L p=none→Q (.ref p) (qh L p (.lst zs))):lcK (wt lo m) (fun _=>True) n g tc te τ L Q:=by
  refine aht (keep:=fun _=>True) I (by rw [amz];exact hz) trivial h0 (fun i y zs e hI=>?_) fun zs hI=>hq zs (by rw [amz] at hI;exact hI)
  obtain ⟨hi,rfl⟩:=axl e
  exact turn i zs hi hI
theorem ajh (ys:List Y) (n:Nat):aj8 ys (some ((n:Nat):Int)) none=ys.drop n:=by
  unfold aj8
  rw [HT.sIx_nat,HT.sIx_none]
  by_cases h:n≤ys.length
  · rw [Nat.min_eq_left h,List.take_of_length_le (by rw [List.length_drop];omega)]
  · rw [Nat.min_eq_right (by omega),List.drop_of_length_le (Nat.le_refl _),List.drop_of_length_le (by omega),List.take_nil]
theorem aw1 (ys:List Y) (n:Nat):aj8 ys none (some ((n:Nat):Int))=ys.take n:=by
  unfold aj8
  rw [HT.sIx_nat,HT.sIx_none,List.drop_zero,Nat.sub_zero]
  by_cases h:n≤ys.length
  · rw [Nat.min_eq_left h]
  · rw [Nat.min_eq_right (by omega),List.take_of_length_le (Nat.le_refl _),List.take_of_length_le (by omega)]
theorem apf {ws:List α} {f:α→Y} {i:Nat} {w:α} (h:ws[i]?=some w):atI (ws.map f) (i:Int)=some (f w):=vg (by rw [List.getElem?_map,h];rfl)
def xj (t:TS3) (n:Nat) (ys:List Y) (L:LHp) (Q:YK):Prop:=t { nx:=fun _ L'=>aev Q .non L',rt:=aev Q } (ys.map some++List.replicate (n - ys.length) none) L
theorem fin {Q:YK} {y:Y} {L:LHp} (h:Q y L):aev Q y L:=⟨L,LSub.refl L,h⟩
theorem aau {Q:YK} {y:Y} {L L':LHp} (s:LSub L L') (h:Q y L):aev Q y L':=⟨L,s,h⟩
theorem Fn3.never {P:Program} {w:World} {K:PySem.W.Frag} {mg:Str→Option Value} {base:Heap} {k:Nat} {ps:List Str} {sp:Sp3} {f:Addr} {fd:FuncData} (no:∀ ys L Q,¬ sp ys L Q):Fn3 P w K mg base k f fd ps sp:=
  FnOk.never fun vs H Q E ⟨ys,L,Q3,_,_,z,_⟩=>no ys L Q3 z
end L3
namespace L3
open PySem L2
theorem LSub.upd {L L':LHp} {a:Addr} {o:LO} (s:LSub L L') (h:L a=none):LSub L (qh L' a o):=fun b u e=>by
  rw [qf (neL e h)];exact s b u e
theorem LSub.put {L L':LHp} {a:Addr} {o:LO} (s:LSub L L') (h:L' a=some o):LSub (qh L a o) L':=fun b u e=>by
  by_cases c:b=a
  · subst c;rw [q8] at e;cases e;exact h
  · rw [qf c] at e;exact s b u e
def aoq:Sp3:=fun ys L Q=>∃ ns:List Int,ys=[.sq (ns.map Y.int)]∧ns.length≤63∧L=(fun _=>none)∧∀ L',Q (.bl true) L'
def spTop (K:PySem.W.Frag):Sp:=fun vs H Q _=>∃ (a:Addr) (ns:List Int),vs=[.ref a]∧SqF K H a (ns.map V.int)∧ns.length≤63∧∀ H',Q (.bl true) H'
theorem alw {G:G3} {H:Hp}:∀ ns:List Int,RVs G H (ns.map Y.int) (ns.map V.int)
  | []=>rfl
  | _::r=>⟨_,_,rfl,rfl,alw r⟩
theorem a1v {G:G3} {vs:List V} {H:Hp} {Q:VK} {E:XK} (h:spTop G.K vs H Q E):dn G aoq vs H Q E:=by
  obtain ⟨a,ns,rfl,hs,hl,q⟩:=h
  refine ⟨[.sq (ns.map Y.int)],fun _=>none,fun y _=>y=.bl true,RVs.one ⟨a,_,rfl,hs,alw ns⟩,(fun _ _ e=>by cases e),⟨ns,rfl,hl,rfl,fun _=>rfl⟩,?_⟩
  rintro v H' y L' _ _ rv rfl
  cases rv
  exact q H'
theorem top_start:∀ (K:PySem.W.Frag) (H:Hp) (a:Addr) (ns:List Int),ns.length≤63→ax6 H→SqL K H a (ns.map V.int)→spTop K [.ref a] H (fun v _=>v=.bl true) fun _ _ _=>False:=by
  intro K H a ns hl hO hS
  refine ⟨a,ns,rfl,?_,hl,fun _=>rfl⟩
  rcases hS with (h | ⟨o,h⟩) | h
  · rcases hO a with z | ⟨o,xs,z⟩<;>rw [h] at z<;>cases z
  · exact .inl ⟨o,h⟩
  · exact .inr h
end L3
namespace L2
open PySem PySem.Spec PyProof.Rows
section
variable {X:Cx} {pins:List (Addr×Obj)} {σ:L2.St} {H:Hp} {s:Shared} {h':Heap}
theorem ahw (I:Inv X pins σ H s) {fp:List Addr} (hf:∀ b∈fp,H b=none) (k:∀ b o,b∉fp→s.heap.get? b=some o→h'.get? b=some o):HOk X.prog X.w H h':=fun b u e=>by
  refine (I.hok b u e).stay (fun c v hc q=>k c v (fun z=>?_) q) (fun _ q=>q) fun _ _ q=>q
  have hn:=hf c z
  rcases hc with w | w
  · rw [w,e] at hn;cases hn
  · rw [w] at hn;cases hn
theorem aqq {fs fp:List Addr} {h:Heap} (k:∀ b o,b∉fp→h.get? b=some o→h'.get? b=some o):Un fs fp H H h h':=
  ⟨fun b o q _ _ x=>k b o x q,fun b o q _ _ x=>⟨o.slots,k b o x q⟩,fun _ _ _ n _=>n,fun b o q x=>⟨o,k b o x q⟩,fun _ _ q=>q,fun _ _ _ q=>q,fun b ps q=>⟨#[],by rw [q];simp⟩⟩
theorem Inv.turnedL {t':Nat} {fp:List Addr} (I:Inv X pins σ H s) (k:∀ b o,b∉fp→s.heap.get? b=some o→h'.get? b=some o) (hf:∀ b∈fp,ajd X pins H b) (ht:0<t':=by (first | assumption | exact Nat.succ_pos _ | exact Inv.tk (by assumption) | exact Nat.lt_of_lt_of_le (Inv.tk (by assumption)) (Nat.le_add_right _ _) | exact Nat.lt_of_lt_of_le (Inv.tk (by assumption)) (by assumption))):Inv X pins σ H { s with heap:=h',toks:=t' }:=
  I.call' (s':={ s with heap:=h',toks:=t' }) (ch:=fp) rfl (aqq k) (ahw I (fun b hb=>(hf b hb).1) k) I.bare fun b hb=>⟨(hf b hb).2.2.2.1,(hf b hb).2.1,(hf b hb).2.2.2.2.1,(hf b hb).2.2.2.2.2⟩
theorem Inv.turnedN {t':Nat} {fp:List Addr} {a:Addr} {o:HO} (I:Inv X pins σ H s) (k:∀ b o,b∉fp→s.heap.get? b=some o→h'.get? b=some o) (hf:∀ b∈fp,ajd X pins H b) (ha:s.heap.objs.size≤a)
    (new:ObjOk X.prog X.w (upd H a o) h' a o) (ht:0<t':=by (first | assumption | exact Nat.succ_pos _ | exact Inv.tk (by assumption) | exact Nat.lt_of_lt_of_le (Inv.tk (by assumption)) (Nat.le_add_right _ _) | exact Nat.lt_of_lt_of_le (Inv.tk (by assumption)) (by assumption))):Inv X pins σ (upd H a o) { s with heap:=h',toks:=t' }:=by
  have hn:H a=none:=I.hok.fresh ha
  have lt:∀ b ob,s.heap.get? b=some ob→b≠a:=fun b ob q=>Nat.ne_of_lt (Nat.lt_of_lt_of_le (Heap.lt_size q) ha)
  refine I.call' (s':={ s with heap:=h',toks:=t' }) (ch:=fp) rfl ?_ ?_ I.bare fun b hb=>⟨(hf b hb).2.2.2.1,(hf b hb).2.1,(hf b hb).2.2.2.2.1,(hf b hb).2.2.2.2.2⟩
  · exact ⟨fun b ob q _ _ x=>k b ob x q,fun b ob q _ _ x=>⟨ob.slots,k b ob x q⟩,fun b ob q n _=>by rw [qt (lt b ob q)];exact n,fun b ob q x=>⟨ob,k b ob x q⟩,
      fun b xs q=>by rw [qt (zr q hn)];exact q,fun b ob u q=>by rw [qt (zr q hn)];exact q,fun b ps q=>⟨#[],by rw [qt (zr q hn),q];simp⟩⟩
  · intro b u e
    by_cases hb:b=a
    · subst hb;rw [zx] at e;cases e;exact new
    · rw [qt hb] at e
      have ok:=ahw I (h':=h') (fun b hb=>(hf b hb).1) k b u e
      exact ok.stay (fun _ _ _ q=>q) (fun c q=>by rw [qt (zr q hn)];exact q) fun c xs q=>by rw [qt (zr q hn)];exact q
end
def Ite (K:PySem.W.Frag) (a:Addr):It:=
  ⟨fun i H=>∃ xs x,SqL K H a xs∧xs[i]?=some x,fun i H v H'=>∃ p x,H p=none∧v=.ref p∧H'=upd H p (.tup [.int i,x])∧∀ xs,SqL K H a xs→xs[i]?=some x,fun i H=>∃ xs,SqL K H a xs∧xs.length≤i⟩
theorem aqj {P:Program} {w:World} {K:PySem.W.Frag} {elts:List Expr} {x1:Nat} {tp:Pos} (a e it:Addr) (hne:e≠it):Turn P w K (.Tuple elts x1 tp) (Ite K a) [e,it] e (fun i h=>(∃ old,IsEnum h e it i old)∧h.IsListIter it a i) where
  mem:=by simp
  obj:=fun i h ⟨⟨old,he⟩,hi⟩ b hb=>by
    rcases List.mem_cons.mp hb with rfl | hb
    · exact ⟨_,he,fun v z=>by cases z⟩
    · cases List.mem_singleton.mp hb
      obtain ⟨o,ho,hc,hd⟩:=hi
      exact ⟨o,ho,fun v z=>by rw [hd] at z;cases z⟩
  keep:=fun i h h' ⟨⟨old,he⟩,hi⟩ k=>⟨⟨old,k e (by simp) _ he⟩,hi.at fun o q=>k it (by simp) o q⟩
  item:=by
    intro X hP hw hK hc i pins s σ H E I hf ⟨⟨old,he⟩,hi⟩ hg
    subst hP hw hK
    obtain ⟨xs,x,hq,hx⟩:=hg
    obtain ⟨its,rv,p,hz⟩:=I.list hq
    obtain ⟨u,hu,ru⟩:=rv.get hx
    refine wpAny_pyNext_enum_item he hi p.isList (x:=u) (by simpa using hu) hne fun h1 heo hi1 ht hz1 hk=>⟨.ref s.heap.objs.size,rfl,wpAny_letOwnedTupleGo_enum heo fun h2 he2 hs2=>?_⟩
    have el:e<s.heap.objs.size:=Heap.lt_size he
    have il:it<s.heap.objs.size:=by obtain ⟨o,ho,_⟩:=hi;exact Heap.lt_size ho
    have kk:∀ b o,b∉[e,it]→s.heap.get? b=some o→h2.get? b=some o:=fun b o nb q=>by
      have n1:b≠e:=fun z=>nb (by simp [z])
      have n2:b≠it:=fun z=>nb (by simp [z])
      exact hs2.extBut b o n1 (hk b o n1 n2 q)
    have tg:h2.get? s.heap.objs.size=some { cls:=.type "tuple",data:=.seq #[.int i s.toks,u] }:=hs2.extBut _ _ (Nat.ne_of_gt el) ht
    refine ⟨.ref s.heap.objs.size,upd H s.heap.objs.size (.tup [.int i,x]),?_,rfl,⟨_,x,I.hok.fresh (Nat.le_refl _),rfl,rfl,fun ys hy=>by rw [I.list_inj hy hq];exact hx⟩,⟨⟨_,he2⟩,hi1.at fun o q=>hs2.extBut _ _ (Ne.symm hne) q⟩,fun b hb=>?_⟩
    · exact I.turnedN (t':=s.toks+1) kk hf (Nat.le_refl _) ⟨by show 2≤sizeLine;decide,[.int i s.toks,u],.cons ⟨_,rfl⟩ (.cons ru .nil),⟨_,tg,rfl,_,rfl⟩⟩
    · have hb':b<s.heap.objs.size:=by rcases List.mem_cons.mp hb with rfl | hb;exact el;cases List.mem_singleton.mp hb;exact il
      rw [qt (Nat.ne_of_lt hb')]
      exact (hf b hb).1
  done:=by
    intro X hP hw hK hc i pins s σ H E I hf ⟨⟨old,he⟩,hi⟩ hg
    subst hP hw hK
    obtain ⟨xs,hq,hx⟩:=hg
    obtain ⟨its,rv,p,hz⟩:=I.list hq
    have hl:=rv.length
    exact wpAny_pyNext_enum_end (I.ok.hd hc) he hi p.isList (by simp;omega) fun h1 eb=>⟨rfl,I.turnedL (t':=s.toks) (fp:=[e,it]) (fun b o nb q=>eb b o (fun z=>nb (by simp [z])) q) hf⟩
  self:=fun _ _ _ _ _ ⟨⟨_,he⟩,_⟩ h=>wpAny_pyIter_enum he h
def a45 (K:PySem.W.Frag) (ta:TA):TI:=fun σ H R=>ta σ H fun vs H1=>∃ a,vs=[.ref a]∧(∃ xs,SqL K H1 a xs)∧R (Ite K a) H1
theorem al7:bootBuiltins "enumerate" = some (.type "enumerate"):=by decide +kernel
theorem awc {X:Cx} {a:Expr} {ta:TA} {elts:List Expr} {x1:Nat} {tp p pos:Pos} (hg:Gl X "enumerate") (hm:X.mg "enumerate" = none) (ha:PA X [a] ta) (hs:starEach [a] X.env=[(false,eval a X.env)]:=by rfl):
    PI X (.Tuple elts x1 tp) (.Call (.Name "enumerate" p) [a] [] pos) (a45 X.K ta):=by
  intro pins s σ H R I h
  refine Call_ (ahs I hg hm al7 (PyProof.Rows.callWith_type1 (thn (ha pos pins s σ H _ I h) fun us s1 ⟨vs,H1,I1,r1,q1⟩=>?_) hs rfl))
  obtain ⟨l,e,⟨xs,hq⟩,q⟩:=q1
  subst e
  obtain ⟨u,rfl,ru⟩:=aq8 r1
  cases ru
  obtain ⟨its,rv,pl,hz⟩:=I1.list hq
  refine call_enumerate_list pl.isList fun h1 he hi hsz hk=>?_
  have I2:Inv X pins σ H1 { s1 with heap:=h1 }:=I1.kept (t':=s1.toks) hk
  refine wpAny_pyIter_enum (s:={ s1 with heap:=h1 }) he ?_
  refine ⟨s1.heap.objs.size+1,[s1.heap.objs.size+1,s1.heap.objs.size],_,_,H1,rfl,I2,aqj l _ _ (Nat.succ_ne_self _),⟨⟨_,he⟩,hi⟩,fun b hb=>?_,q⟩
  have hb':s1.heap.objs.size≤b:=by rcases List.mem_cons.mp hb with rfl | hb;exact Nat.le_succ _;cases List.mem_singleton.mp hb;exact Nat.le_refl _
  exact I1.fpOk hb' (I1.hok.fresh hb')
end L2
namespace L3
open PySem L2
theorem afm {G:G3} {H₀:Hp} {a:Addr} {ys:List Y} {keep:LHp→Prop} (h:∀ H L,TSt H₀ H→RelH G H L→keep L→∃ xs,SqL G.K H a xs∧RVs G H ys xs):Yields G H₀ (Ite G.K a) (ys.zipIdx.map fun p=>Y.tup [.int (p.2:Nat),p.1]) keep where
  go:=fun i H L t rl kp hi=>by
    obtain ⟨xs,sq,r⟩:=h H L t rl kp
    have:i<xs.length:=by rw [← r.length];simpa using hi
    exact ⟨xs,xs[i],sq,List.getElem?_eq_getElem this⟩
  yld:=fun i H L x H' y t rl kp hy ⟨p,z,hp,e1,e2,f⟩=>by
    subst e1 e2
    obtain ⟨xs,sq,r⟩:=h H L t rl kp
    rw [List.getElem?_map,List.getElem?_zipIdx] at hy
    obtain ⟨⟨y',j⟩,ey,e3⟩:=Option.map_eq_some_iff.mp hy
    obtain ⟨y'',ey',e4⟩:=Option.map_eq_some_iff.mp ey
    cases e4
    subst e3
    obtain ⟨x',e',rv⟩:=r.get ey'
    have:=f xs sq
    rw [e'] at this;cases this
    refine ⟨TSt.new hp,rl.skip hp,p,_,rfl,SqT.of zx,⟨_,_,rfl,?_,_,_,rfl,rv.ts (TSt.new hp),rfl⟩⟩
    show V.int _=V.int _
    congr 1;simp
  stop:=fun H L t rl kp=>by
    obtain ⟨xs,sq,r⟩:=h H L t rl kp
    exact ⟨xs,sq,by rw [List.length_map,List.length_zipIdx,r.length];exact Nat.le_refl _⟩
def aio (ys:List Y):List Y:=ys.zipIdx.map fun p=>Y.tup [.int (p.2:Nat),p.1]
theorem ady {ys:List Y} {i:Nat} {y:Y} (h:(aio ys)[i]?=some y):∃ z,ys[i]?=some z∧y=.tup [.int i,z]:=by
  unfold aio at h
  rw [List.getElem?_map,List.getElem?_zipIdx] at h
  obtain ⟨⟨y',j⟩,ey,e3⟩:=Option.map_eq_some_iff.mp h
  obtain ⟨y'',ey',e4⟩:=Option.map_eq_some_iff.mp ey
  cases e4
  exact ⟨y',ey',by rw [← e3];simp⟩
theorem aax (ys:List Y):(aio ys).length=ys.length:=by simp [aio]
def adc (tl:TE3) (τ:St3) (L:LHp) (R:List Y→(LHp→Prop)→LHp→Prop):Prop:=tl τ L fun x L1=>match x with
  | .ref a=>aou L1 a fun ys keep L=>R (aio ys) keep L
  | .sq ys=>R (aio ys) (fun _=>True) L1
  | _=>False
theorem acj {X:Cx} {a:Expr} {te:TE3} {elts:List Expr} {x1:Nat} {tp p pos:Pos} (hg:Gl X "enumerate") (hm:X.mg "enumerate" = none) (ha:QE X a te) (hs:starEach [a] X.env=[(false,eval a X.env)]:=by rfl)
    (hs2:starEach [a] X.env=(false,eval a X.env)::starEach [] X.env:=by rfl):QI X (.Tuple elts x1 tp) (.Call (.Name "enumerate" p) [a] [] pos) (adc te):=PI.imp (awc hg hm (aac ha af2 hs2) hs) fun σ H R ⟨τ,L,R3,rs,rl,z,k⟩=>by
  refine ⟨τ,L,_,rs,rl,z,fun v H1 y L1 t1 rl1 rv1 z1=>?_⟩
  cases y with
  | ref a=>
    obtain ⟨ys,keep,es,kp,hk,z2⟩:=ame z1
    have hy:∀ H L,TSt H1 H→RelH X.g3 H L→keep L→∃ xs,SqL X.K H a xs∧RVs X.g3 H ys xs:=fun H L _ rl e=>abv rl (hk L e)
    obtain ⟨xs,sq,_⟩:=hy H1 L1 (TSt.refl _) rl1 kp
    cases rv1
    exact ⟨a,rfl,⟨xs,sq⟩,k _ H1 _ _ L1 t1 rl1 (afm hy) z2⟩
  | sq ys=>
    obtain ⟨a,xs,e,sf,r⟩:=rv1
    subst e
    exact ⟨a,rfl,⟨xs,sf.sq⟩,k _ H1 _ (fun _=>True) L1 t1 rl1 (afm fun H L t _ _=>⟨xs,(sf.ts t).sq,r.ts t⟩) z1⟩
  | _=>exact z1.elim
end L3
namespace L2
open PySem PySem.Spec PyProof.Rows
section
variable {prog:Program} {w:World} {A:Around} {E:Value→Shared→Prop} {s:Shared}
end
end L2
namespace L2
open PySem PySem.Spec PyProof.Rows
section
variable {prog:Program} {w:World} {A:Around} {E:Value→Shared→Prop} {s:Shared}
end
section
variable {X:Cx} {pins:List (Addr×Obj)} {σ:L2.St} {H:Hp} {s:Shared}
end
end L2
namespace L3
open PySem L2
end L3
namespace L3
open PySem L2
def ae7 (xs:List Y) (L:LHp) (Q:YK):Prop:=match xs with
  | [x]=>agg L x fun ys=>∀ p,L p=none→Q (.ref p) (qh L p (.lst ys))
  | _=>False
theorem ai2 {X:Cx}:CallR X (.type "list") (upL X.g3 ae7):=CallR.imp alf fun xs H Q ⟨ys,L,Q3,rv,rl,z,k⟩=>by
  unfold ae7 at z
  split at z
  · rename_i x
    obtain ⟨u,rfl,ru⟩:=rv.inv1
    obtain ⟨zs,ez,z⟩:=w9 z
    obtain ⟨p,us,e,sq,r⟩:=alh rl ru ez
    subst e
    exact ⟨p,us,rfl,sq,fun l hl=>k _ _ _ _ (TSt.new hl) (rl.newL hl r) (by rfl) (z l (rl.none hl))⟩
  · exact z.elim
theorem aem {X:Cx} {x:Str} {T:String} {e:Expr} {es:List Expr} {tr:TA3} {p pos:Pos} {r:List Y→LHp→YK→Prop} (hc:CallR X (.type T) (upL X.g3 r)) (hg:Gl X x) (hm:X.mg x=none) (hv:bootBuiltins x=some (.type T)) (h:QA X (e::es) tr)
    (hn:x ≠ "__name__" := by decide) (hd:(x==("__debug__" : Str))=false:=by decide) (hs:starEach (e::es) X.env=(false,eval e X.env)::starEach es X.env:=by rfl) (hp:(backTo pos (starEach es X.env)).any (·.1)=false:=by rfl):
    QE X (.Call (.Name x p) (e::es) [] pos) (yCB r tr):=PE.imp (afb hc hg hm hv h hn hd hs hp) fun σ H Q ⟨τ,L,Q3,rs,rl,z,k⟩=>
  ⟨τ,L,_,rs,rl,z,fun vs H1 ys L1 t1 rl1 rv1 z1=>⟨ys,L1,Q3,rv1,rl1,z1,k.ts t1⟩⟩
def ake (x:Y) (vs:List Y) (L:LHp) (Q:YK):Prop:=match x,vs with
  | .ref a,[.int i]=>abl L a fun ys=>0≤i∧i<ys.length∧atK L (fun v L=>Q v (qh L a (.lst (ys.eraseIdx i.toNat)))) (ys[i.toNat]?)
  | _,_=>False
theorem avz {X:Cx}:MtM X "list.pop" (upM X.g3 ake):=fun pins s σ H x xs v us Q I rx ry ⟨y,ys,L,Q3,r1,r2,rl,z,k⟩=>by
  unfold ake at z
  split at z
  · rename_i a i
    obtain ⟨zs,e,h0,h1,z⟩:=jx z
    obtain ⟨ws,e2,r⟩:=rl a _ e
    obtain ⟨i',rfl,ri⟩:=r2.inv1
    cases ri
    cases el:zs[i.toNat]? with
    | none=>rw [el] at z;exact z.elim
    | some w=>
      rw [el] at z
      obtain ⟨u,eu,ru⟩:=r.get el
      obtain ⟨_,_,_,hz⟩:=I.list (SqL.of e2)
      have hl:=r.length
      have hs:sizeLine<2 ^ 62:=by decide
      refine auu pins s σ H x _ v us Q I rx ry ⟨a,ws,i,i.toNat,u,r1,rfl,e2,by omega,by omega,?_,eu,k _ _ _ _ (TSt.lst e2) (rl.setL e2 (r.eraseIdx _)) (ru.ts (TSt.lst e2)) z⟩
      unfold seqIndex?
      rw [if_neg (show ¬ i<0 by omega),if_pos (by simp;omega)]
  · exact z.elim
theorem aut {X:Cx} {o e:Expr} {es:List Expr} {to:TE3} {tr:TA3} {apos cpos:Pos} (ho:QE X o to) (ha:QA X (e::es) tr) (h4:attributeBase o "pop" X.env (eval o X.env)=eval o X.env:=by rfl)
    (h5:((backTo cpos (starEach (e::es) X.env)).all (fun x=>!x.1)&&(backToKw cpos (keywordEach [] X.env)).all (fun x=>x.1.isSome)&&decide ((e::es).length+([]:List Keyword).length+(if ([]:List Keyword).isEmpty=true then 0 else 1)<30))=true:=by rfl)
    (h6:(apos.endLine==cpos.line)=true:=by rfl) (h7:starEach (e::es) X.env=(false,eval e X.env)::starEach es X.env:=by rfl) (h8:(backTo cpos (starEach es X.env)).any (·.1)=false:=by rfl):
    QE X (.Call (.Attribute o "pop" apos) (e::es) [] cpos) (yBL ake to tr):=ai7 PySem.F.slot_list_pop PySem.F.type_list_pop avz ho ha h4 h5 h6 h7 h8
end L3
namespace L2
open PySem PySem.Spec PyProof.Rows
section
variable {X:Cx}
theorem ap6 (i:Int) (n d:Nat):max 0 (min (if i<0 then i+(n:Int) else i) n)=((HT.sIx n d (some i):Nat):Int):=by
  simp only [HT.sIx]
  by_cases h:i<0
  · simp only [h,if_true]<;>omega
  · simp only [h,if_false]<;>omega
theorem ark (l u:Option Int) (n:Nat):Builtin.Str.strSliceIndices l u 1 n=(List.range (HT.sIx n n u - HT.sIx n 0 l)).map (HT.sIx n 0 l+·):=by
  have z:(0:Int)=((HT.sIx n 0 none:Nat):Int):=rfl
  have y:(n:Int)=((HT.sIx n n none:Nat):Int):=rfl
  unfold Builtin.Str.strSliceIndices
  cases l with
  | none=>
    cases u with
    | none=>exact sliceRange_one 0 n
    | some j=>
      show sliceRange 0 (max 0 (min (if j<0 then j+(n:Int) else j) n)) 1=_
      rw [ap6 j n n]
      exact sliceRange_one 0 _
  | some i=>
    cases u with
    | none=>
      show sliceRange (max 0 (min (if i<0 then i+(n:Int) else i) n)) n 1=_
      rw [ap6 i n 0]
      exact sliceRange_one _ n
    | some j=>
      show sliceRange (max 0 (min (if i<0 then i+(n:Int) else i) n)) (max 0 (min (if j<0 then j+(n:Int) else j) n)) 1=_
      rw [ap6 i n 0,ap6 j n n]
      exact sliceRange_one _ _
theorem ajv (x:Str) (l u:Option Int):(Txt.slice x l u).cps.toList=(x.cps.toList.drop (HT.sIx x.length 0 l)).take (HT.sIx x.length x.length u - HT.sIx x.length 0 l):=by
  have hn:x.length=x.cps.toList.length:=by simp [Str.length]
  have pick:=pick_run x.cps (HT.sIx x.length 0 l) (HT.sIx x.length x.length u - HT.sIx x.length 0 l)
  unfold Txt.slice
  rw [ark]
  split
  · rename_i h
    simp only [beq_self_eq_true,Bool.true_and,List.length_map,List.length_range,beq_iff_eq] at h
    have h1:=HT.sIx_le x.length 0 (Nat.zero_le _) l
    have h2:=HT.sIx_le x.length x.length (Nat.le_refl _) u
    have a0:HT.sIx x.length 0 l=0:=by omega
    rw [h,a0,List.drop_zero,List.take_of_length_le (by omega)]
  · show (List.filterMap (fun i=>x.cps[i]?) _).toArray.toList=_
    rw [List.toList_toArray]
    exact pick
def a5d:V→Option Int→Option Int→Hp→VK→Prop:=fun x lo hi H Q=>∃ z,x=.str z∧z.length≤sizeLine∧Q (.str (Txt.slice z lo hi)) H
theorem a0u:SlR X a5d:=by
  intro pins s σ H x v vl vu lo hi sl Q I rx hs pl pu h
  obtain ⟨z,rfl,hz,q⟩:=h
  obtain ⟨t,rfl⟩:=rx
  obtain ⟨l,rfl,hl⟩:∃ l:Option (Int×Tok),vl=partValue l∧l.map (·.1)=lo:=by
    cases pl with
    | none=>exact ⟨none,rfl,rfl⟩
    | int i t=>exact ⟨some (i,t),rfl,rfl⟩
  obtain ⟨u,rfl,hu⟩:∃ u:Option (Int×Tok),vu=partValue u∧u.map (·.1)=hi:=by
    cases pu with
    | none=>exact ⟨none,rfl,rfl⟩
    | int i t=>exact ⟨some (i,t),rfl,rfl⟩
  subst hl hu
  refine ⟨"str",_,F.slot_str_getitem.lookup,typeIs_str _ _ _,jn I.tk (wpAny_getItem_str_slice (l:=l) (u:=u) (st:=none) hs rfl ?_)⟩
  exact post_val_or_str ⟨Nat.le_trans (Txt.slice_le z _ _) hz,fun t' k ht=>⟨.str _,H,I.tok _,⟨t',rfl⟩,q⟩⟩
theorem aov {zs:List Str}:∀ {us:List Value},Vals (zs.map V.str) us→StrsAre us zs:=by
  induction zs with
  | nil=>intro us r;rw [List.map_nil] at r;cases r;exact .nil
  | cons z zs ih=>
    intro us r
    rw [List.map_cons] at r
    cases r with
    | cons r1 r2=>
      obtain ⟨t,e⟩:=r1
      subst e
      exact .cons z t (ih r2)
def a2i (K:PySem.W.Frag):V→List V→Hp→VK→Prop:=fun x vs H Q=>∃ z a zs,x=.str z∧vs=[.ref a]∧SqL K H a ((zs:List Str).map V.str)∧(zs.map (·.length)).sum+zs.length*z.length≤16777216∧Q (.str (Txt.join z zs)) H
theorem avv:MtM X "str.join" (a2i X.K):=by
  intro pins s σ H x vs v us Q I rx rv h
  obtain ⟨z,a,zs,rfl,rfl,hq,hz,q⟩:=h
  obtain ⟨t,rfl⟩:=rx
  obtain ⟨u,rfl,ru⟩:=rv.one
  cases ru
  obtain ⟨its,r,p,_⟩:=I.list hq
  exact jn I.tk (PyProof.Rows.join_list p.isList (by simpa using aov r) hz fun t' k ht=>⟨.str _,H,I.tok _,⟨t',rfl⟩,q⟩)
end
end L2
namespace L3
open PySem L2
def aj1 (x:Y) (lo hi:Option Int) (L:LHp) (Q:YK):Prop:=match x with
  | .str z=>z.length≤sizeLine∧Q (.str (Txt.slice z lo hi)) L
  | x=>a33 x lo hi L Q
theorem ai0 {X:Cx} (K:PySem.W.Frag) (P:Program) (w:World) (hK:X.K=K:=by rfl) (hP:X.prog=P:=by rfl) (hw:X.w=w:=by rfl):SlR X (aza ⟨K,P,w⟩ aj1):=by
  refine SlR.imp (a0u.or (a2t K P w hK hP hw)) fun x lo hi H Q ⟨y,L,Q3,rv,rl,z,k⟩=>?_
  cases y with
  | str s=>exact .inl ⟨s,rv,z.1,k _ H _ L (TSt.refl _) rl (by rfl) z.2⟩
  | _=>exact .inr ⟨_,L,Q3,rv,rl,z,k⟩
def yBS (r:Y→List Y→LHp→YK→Prop) (to:TE3) (t:TA3) (τ:St3) (L:LHp) (Q:YK):Prop:=to τ L fun x L1=>match x with
  | .str z=>t τ L1 fun xs L2=>r (.str z) xs L2 Q
  | _=>False
theorem azf {X:Cx} {o e:Expr} {es:List Expr} {to:TE3} {tr:TA3} {id:String} {name:Str} {apos cpos:Pos} {r:Y→List Y→LHp→YK→Prop} (h2:Slot "str" name id) (h3:typeOf (.builtin id)=pure (.type "method_descriptor")) (hm:MtM X id (upM X.g3 r)) (ho:QE X o to) (ha:QA X (e::es) tr)
    (h4:attributeBase o name X.env (eval o X.env)=eval o X.env:=by rfl)
    (h5:((backTo cpos (starEach (e::es) X.env)).all (fun x=>!x.1)&&(backToKw cpos (keywordEach [] X.env)).all (fun x=>x.1.isSome)&&decide ((e::es).length+([]:List Keyword).length+(if ([]:List Keyword).isEmpty=true then 0 else 1)<30))=true:=by rfl)
    (h6:(apos.endLine==cpos.line)=true:=by rfl) (h7:starEach (e::es) X.env=(false,eval e X.env)::starEach es X.env:=by rfl) (h8:(backTo cpos (starEach es X.env)).any (·.1)=false:=by rfl):
    QE X (.Call (.Attribute o name apos) (e::es) [] cpos) (yBS r to tr):=PE.imp (ayg PySem.F.plainAttrs_str h2 h3 hm ho ha h4 h5 h6 h7 h8) fun σ H Q ⟨τ,L,Q3,rs,rl,z,k⟩=>
  ⟨τ,L,_,rs,rl,z,fun v H1 y L1 t1 rl1 rv1 z1=>by
    split at z1
    · rename_i s
      cases rv1
      exact ⟨rfl,τ,L1,_,rs.ts t1,rl1,z1,fun vs H2 ys L2 t2 rl2 rv2 z2=>⟨.str s,ys,L2,Q3,rfl,rv2,rl2,z2,k.ts (t1.trans t2)⟩⟩
    · exact z1.elim⟩
theorem am2 {G:G3} {H:Hp}:∀ {zs:List Str} {xs:List V},RVs G H (zs.map Y.str) xs→xs=zs.map V.str
  | [],_,h=>h
  | z::r,_,⟨x,xs',e,q,s⟩=>by rw [e,show x=V.str z from q,am2 s];rfl
def aph (x:Y) (vs:List Y) (L:LHp) (Q:YK):Prop:=match x,vs with
  | .str z,[.ref a]=>abl L a fun ys=>∃ zs,ys=zs.map Y.str∧(zs.map (·.length)).sum+zs.length*z.length≤16777216∧Q (.str (Txt.join z zs)) L
  | _,_=>False
theorem a1g {X:Cx}:MtM X "str.join" (upM X.g3 aph):=MtM.imp avv fun x xs H Q ⟨y,ys,L,Q3,r1,r2,rl,z,k⟩=>by
  unfold aph at z
  split at z
  · rename_i s a
    obtain ⟨us,e,zs,rfl,hz,z⟩:=jx z
    obtain ⟨ws,e2,r⟩:=rl a _ e
    obtain ⟨u,rfl,ru⟩:=r2.inv1
    cases ru
    rw [am2 r] at e2
    exact ⟨s,a,zs,r1,rfl,SqL.of e2,hz,k _ H _ L (TSt.refl _) rl (by rfl) z⟩
  · exact z.elim
theorem axm {X:Cx} {o e:Expr} {es:List Expr} {to:TE3} {tr:TA3} {apos cpos:Pos} (ho:QE X o to) (ha:QA X (e::es) tr) (h4:attributeBase o "join" X.env (eval o X.env)=eval o X.env:=by rfl)
    (h5:((backTo cpos (starEach (e::es) X.env)).all (fun x=>!x.1)&&(backToKw cpos (keywordEach [] X.env)).all (fun x=>x.1.isSome)&&decide ((e::es).length+([]:List Keyword).length+(if ([]:List Keyword).isEmpty=true then 0 else 1)<30))=true:=by rfl)
    (h6:(apos.endLine==cpos.line)=true:=by rfl) (h7:starEach (e::es) X.env=(false,eval e X.env)::starEach es X.env:=by rfl) (h8:(backTo cpos (starEach es X.env)).any (·.1)=false:=by rfl):
    QE X (.Call (.Attribute o "join" apos) (e::es) [] cpos) (yBS aph to tr):=azf PySem.F.slot_str_join PySem.F.type_str_join a1g ho ha h4 h5 h6 h7 h8
theorem akx (zs:List Str):(Txt.join "" zs).cps.toList=zs.flatMap fun z=>z.cps.toList:=by
  have e:∀ zs:List Str,(Str.join "" zs).cps.toList=zs.flatMap fun z=>z.cps.toList:=by
    intro zs
    induction zs with
    | nil=>rfl
    | cons z r ih=>
      cases r with
      | nil=>simp [Str.join]
      | cons y r=>
        show (z ++ "" ++ Str.join "" (y::r)).cps.toList=_
        have:(z ++ "" ++ Str.join "" (y::r)).cps=z.cps++#[]++(Str.join "" (y::r)).cps:=rfl
        rw [this]
        simp only [Array.toList_append,ih,List.flatMap_cons,Array.append_empty]
  exact (congrArg (fun x:Str=>x.cps.toList) (StrLaws.glued_eq_join "" zs)).trans (e zs)
def apt (t u:TS3) (D:Ends3) (τ:St3) (L:LHp):Prop:=∃ J:St3→LHp→Prop,t { D with nx:=J } τ L∧∀ τ' L',J τ' L'→u D τ' L'
theorem aey {X:Cx} {st:Stmt} {rest:List Stmt} {t u:TS3} (h:QS X st t) (k:QSs X rest u):QSs X (st::rest) (apt t u):=PSs.imp (am5 h k) fun D σ H ⟨τ,L,D3,rs,rl,⟨J,z,q⟩,k⟩=>
  ⟨τ,L,{ D3 with nx:=J },rs,rl,z,fun σ1 H1 τ1 L1 t1 rs1 rl1 z1=>⟨τ1,L1,D3,rs1,rl1,q τ1 L1 z1,k.ts t1⟩,k.rt,k.bk,k.ct⟩
theorem aal {L:LHp} {a b:Addr} {o u:LO} (h:a≠b):qh (qh L a o) b u=qh (qh L b u) a o:=by
  funext c
  by_cases h1:c=a
  · subst h1;rw [qf h,q8,q8]
  · by_cases h2:c=b
    · subst h2;rw [q8,qf h1,q8]
    · rw [qf h2,qf h1,qf h1,qf h2]
end L3
namespace L3
open PySem L2
abbrev X3:=St3→Addr→LHp→Prop
abbrev aj4:=List Y→LHp→YK→(Addr→LHp→Prop)→Prop
def upX (G:G3) (E3:X3):X1:=fun σ c H=>∃ C τ L,c=.ref C∧RelS G H σ τ∧RelH G H L∧E3 τ C L
def a44 (G:G3) (H:Hp) (E3:Addr→LHp→Prop) (E:XK):Prop:=∀ C H' L',TSt H H'→RelH G H' L'→E3 C L'→E (.ref C) none H'
def dnX (G:G3) (sp:aj4):Sp:=fun vs H Q E=>∃ ys L Q3 E3,RVs G H ys vs∧RelH G H L∧sp ys L Q3 E3∧Aft G H Q3 Q∧a44 G H E3 E
def awr (E3:Addr→LHp→Prop):X3:=fun _ C L=>∃ L2,LSub L2 L∧E3 C L2
abbrev a19 (P:Program) (w:World) (K:PySem.W.Frag) (mg:Str→Option Value) (base:Heap) (k:Nat) (f:Addr) (fd:FuncData) (ps:List Str) (sp:aj4):Prop:=FnOk P w K mg base (CXE P w) k f fd ps (dnX ⟨K,P,w⟩ sp)
structure Cal3X (P:Program) (w:World) (K:PySem.W.Frag) (mg:Str→Option Value) (base:Heap) (k:Nat) (x:Str) (ps:List Str) (sp:aj4):Prop where
  ex:∃ f fd,a19 P w K mg base k f fd ps sp∧Binds K fd ps []∧PySem.W.keepIn K (.ref f)=true∧mg x=some (.ref f)
theorem Cal3X.mono {P:Program} {w:World} {K:PySem.W.Frag} {mg:Str→Option Value} {base:Heap} {j k:Nat} {x:Str} {ps:List Str} {sp:aj4} (c:Cal3X P w K mg base j x ps sp) (h:j≤k):Cal3X P w K mg base k x ps sp:=by
  obtain ⟨f,fd,F,b,kp,m⟩:=c.ex
  exact ⟨f,fd,F.mono h,b,kp,m⟩
theorem Inv.tst {X:Cx} {pins:List (Addr×Obj)} {σ:L2.St} {H:Hp} {s:Shared} (I:Inv X pins σ H s):TSt X.H₀ H:=fun a u i e=>by
  cases u with
  | tup xs=>exact I.base.tups a xs e
  | frz o u=>exact I.base.frzs a o u e
  | _=>cases i
theorem a18 {P:Program} {w:World} {K:PySem.W.Frag} {mg:Str→Option Value} {base:Heap} {N:List Str} {qual:Str} {scope:Scope} {f:Addr} {cd:Value} {A:Around} {outer:List Env} {s:Shared} {H:Hp} {E:XK} {E3:Addr→LHp→Prop} (h:a44 ⟨K,P,w⟩ H E3 E):
    Takes (jb (CXE P w) P w K mg base N qual scope f cd A outer s H E) (upX ⟨K,P,w⟩ (awr E3)):=by
  intro pins σ H' s' a C tr I L ap apT ⟨C',τ,L',ec,rs,rl,L2,sb,q⟩
  cases ec
  exact avi pins σ H' s' a C tr I L ap apT (h C H' L2 (Inv.tst I) (rl.sub sb) q)
def auo (sp:aj4) (E3:X3) (t:TA3) (τ:St3) (L:LHp) (Q:YK):Prop:=t τ L fun ys L1=>sp ys L1 Q (E3 τ)
def av6 (C:Addr) (E3:X3) (t:TA3) (_:Ends3) (τ:St3) (L:LHp):Prop:=t τ L fun ys L1=>ys.length≤1000∧E3 τ C L1
section
variable {X:Cx} {e:Expr} {es:List Expr} {tr:TA3} {pos:Pos} {E3:X3}
theorem asf {C:Addr} {x:Str} {np cpos:Pos} (c:XCls X.K C) (hg:Gl X x) (hm:X.mg x=some (.ref C)) (hc:X.calm=true) (ht:Takes X (upX X.g3 E3)) (hx:X.ex=[]) (ha:QA X (e::es) tr) (hdb:(x==("__debug__" : Str))=false:=by decide)
    (he:starEach (e::es) X.env=(false,eval e X.env)::starEach es X.env:=by rfl) (hpl:(backTo cpos (starEach es X.env)).any (·.1)=false:=by rfl):
    QS X (.Raise (some (.Call (.Name x np) (e::es) [] cpos)) none pos) (av6 C E3 tr):=PS.imp (ath c hg hm hc ht hx ha hdb he hpl) fun D σ H ⟨τ,L,D3,rs,rl,z,k⟩=>
  ⟨τ,L,_,rs,rl,z,fun vs H1 ys L1 t1 rl1 rv1 ⟨hl,z1⟩=>⟨abh (by rw [← rv1.length];exact hl),C,τ,L1,rfl,rs.ts t1,rl1,z1⟩⟩
end
end L3
namespace L3
open PySem L2
def anv:St3→Nat→St3
  | [],_=>[]
  | _::r,0=>none::r
  | o::r,i+1=>o::anv r i
theorem api:∀ (τ:St3) (i:Nat),anv τ i=τ.set i none
  | [],_=>rfl
  | _::_,0=>rfl
  | o::r,i+1=>by rw [anv,api r i];rfl
theorem RelS.clr {G:G3} {H:Hp} {σ:L2.St} {τ:St3} (h:RelS G H σ τ) (i:Nat):RelS G H (σ.set i none) (anv τ i):=by
  rw [api]
  refine ⟨by simpa using h.len,fun j y e=>?_⟩
  by_cases hj:i=j
  · subst hj
    rw [List.getElem?_set] at e
    simp at e
  · rw [List.getElem?_set_ne hj] at e ⊢
    exact h.get j y e
def Dh3 (i:Nat) (D:Ends3):Ends3 where
  nx:=fun τ L=>D.nx (anv τ i) L
  rt:=D.rt
  bk:=fun τ L=>D.bk (anv τ i) L
  ct:=fun τ L=>D.ct (anv τ i) L
def a2p (G:G3) (H:Hp) (E3:X3) (E1:X1):Prop:=∀ σ' C H' τ' L',TSt H H'→RelS G H' σ' τ'→RelH G H' L'→E3 τ' C L'→E1 σ' (.ref C) H'
def a0q (G:G3) (t:X3→TS3):X1→L2.TS:=fun E1 D σ H=>∃ τ L D3 E3,RelS G H σ τ∧RelH G H L∧t E3 D3 τ L∧AftD G H D3 D∧a2p G H E3 E1
def QB (X:Cx) (body:List Stmt) (t:X3→TS3):Prop:=∀ (pn:List (Addr×Obj)) (xe:Value→Shared→Prop) (E1:X1),Takes (X.tr pn xe) E1→PSs (X.tr pn xe) body (a0q X.g3 t E1)
def a3e (K:PySem.W.Frag) (Dc:Addr) (i:Nat) (tb:X3→TS3) (th:TS3) (D:Ends3) (τ:St3) (L:LHp):Prop:=
  tb (fun τ' C L'=>PySem.W.exmOne K (.ref C) (.ref Dc)=some true∧∀ a,L' a=none→th (Dh3 i D) (wv τ' i (.ref a)) (qh L' a (.exc C))) D τ L
section
variable {X:Cx} {e:Expr} {es:List Expr} {tr:TA3} {pos cp:Pos}
theorem a1m {k i:Nat} {x y:Str} {ps:List Str} {sp:aj4} {p pos':Pos} (c:Cal3X X.prog X.w X.K X.mg X.base k x ps sp) (hr:Room k X.A) (hg:Gl X x) (hx:X.ex=[]) (hN:X.N.Nodup) (hix:X.N[i]?=some y) (hy:Loc X.env.scope y) (ha:∀ pn xe,QA (X.tr pn xe) (e::es) tr) (hdb:(x==("__debug__" : Str))=false:=by decide)
    (he:starEach (e::es) X.env=(false,eval e X.env)::starEach es X.env:=by rfl) (hpl:(backTo cp (starEach es X.env)).any (·.1)=false:=by rfl) (hs:swapsWith (.Call (.Name x p) (e::es) [] cp) (some (.Name y pos')) pos.line X.env=pure false:=by rfl)
    (hfn:X.fn y=true∨X.env.scope.names.lookup y=some .local:=by first | exact .inl rfl | exact .inr rfl | assumption):
    QB X [.Assign [.Name y pos'] (.Call (.Name x p) (e::es) [] cp) pos] (fun E3=>z9 (auo sp E3 tr) (qj i)):=by
  obtain ⟨f,fd,F,b,kp,m⟩:=c.ex
  intro pn xe E1 ht
  refine PSs.imp (ap3 (ats (X:=X.tr pn xe) hN hix hy (at1 (X:=X.tr pn xe) F hr hg m kp b ht hx (ha pn xe) hdb he hpl) hs hfn)) fun D σ H ⟨τ,L,D3,E3,rs,rl,z,k,kx⟩=>?_
  exact ⟨τ,L,_,rs,rl,z,fun vs H1 ys L1 t1 rl1 rv1 z1=>⟨ys,L1,_,E3 τ,rv1,rl1,z1,(fun v H2 y L2 t2 rl2 rv2 z2=>k.nx _ H2 _ L2 (t1.trans t2) (show RelS _ _ _ (wv τ i y) by rw [vi];exact (rs.ts (t1.trans t2)).set rv2) rl2 z2),fun C H' L' t' rl' q=>kx σ C H' τ L' (t1.trans t') (rs.ts (t1.trans t')) rl' q⟩⟩
theorem az8 {Dc:Addr} {i:Nat} {n x:Str} {np hpos:Pos} {body suite:List Stmt} {b₀:Stmt} {tb:X3→TS3} {th:TS3} (hs:X.stack=X.env::X.outer) (hf:X.env.frame=some X.env.locals) (hx:X.ex=[]) (hN:X.N.Nodup) (hi:X.N[i]?=some n)
    (hk:X.env.scope.names.lookup n=some .local) (hg:Gl X x) (hm:X.mg x=some (.ref Dc)) (hb:QB X body tb) (hh:∀ a,QSs (X.hnd a) (b₀::suite) th)
    (hdb:(x==("__debug__" : Str))=false:=by decide):QS X (.Try body [.ExceptHandler (some (.Name x np)) (some n) (b₀::suite) hpos] [] [] pos) (a3e X.K Dc i tb th):=
  PS.imp (a01 (tb:=a0q X.g3 tb) (th:=upS X.g3 th) hs hf hx hN hi hk hg hm hb hh hdb) fun D σ H ⟨τ,L,D3,rs,rl,z,k⟩=>by
  show a0q X.g3 tb (ax1 X.K Dc i (upS X.g3 th) D) D σ H
  refine ⟨τ,L,D3,_,rs,rl,z,k,fun σ' C H' τ' L' t' rs' rl' ⟨em,q⟩=>⟨C,rfl,em,fun a oe ha hc=>?_⟩⟩
  have ta:TSt H' (upd H' a (.frz oe (.own 0))):=TSt.new ha
  refine ⟨wv τ' i (.ref a),qh L' a (.exc C),Dh3 i D3,by rw [vi];exact (rs'.ts ta).set rfl,fun b u e=>?_,q a (rl'.none ha),?_⟩
  · by_cases c:b=a
    · subst c
      rw [q8] at e;cases e
      exact ⟨oe,zx,hc⟩
    · rw [qf c] at e
      exact (rl' b u e).keep ta (qt c)
  · have k2:=k.ts (t'.trans ta)
    exact ⟨fun σ2 H2 τ2 L2 t2 rs2 rl2 z2=>k2.nx _ H2 _ L2 t2 (rs2.clr i) rl2 z2,k2.rt,fun σ2 H2 τ2 L2 t2 rs2 rl2 z2=>k2.bk _ H2 _ L2 t2 (rs2.clr i) rl2 z2,fun σ2 H2 τ2 L2 t2 rs2 rl2 z2=>k2.ct _ H2 _ L2 t2 (rs2.clr i) rl2 z2⟩
end
end L3
namespace L3
open PySem L2
@[irreducible] def aty (L:LHp) (a:Addr) (k:Addr→Prop):Prop:=match L a with
  | some (.exc C)=>k C
  | _=>False
theorem acg {L:LHp} {a C:Addr} {k:Addr→Prop} (e:L a=some (.exc C)) (h:k C):aty L a k:=by unfold aty;rw [e];exact h
theorem aun {L:LHp} {a:Addr} {k:Addr→Prop} (h:aty L a k):∃ C,L a=some (.exc C)∧k C:=by
  unfold aty at h
  split at h
  · rename_i C e;exact ⟨C,e,h⟩
  · exact h.elim
def ad6 (K:PySem.W.Frag) (u:Value) (te:TE3) (τ:St3) (L:LHp) (Q:YK):Prop:=te τ L fun x L1=>match x with
  | .ref a=>aty L1 a fun C=>XHd K C∧∃ b,PySem.W.kitOne K (.ref C) u=some b∧Q (.bl b) L1
  | _=>False
section
variable {X:Cx} {a e:Expr} {es:List Expr} {ta:TE3} {pos p pt:Pos} {v:V} {vs:List V}
theorem ah5 {x:Str} {C:Addr} (hg:Gl X x) (hm:X.mg x=some (.ref C)) (hd:(x==("__debug__" : Str))=false:=by decide):PE X (.Name x p) (tC (.ref C)):=ayp hg hm hd
theorem aas {c:Expr} {u:Value} (hg:Gl X "isinstance") (hm:X.mg "isinstance" = none) (ha:QE X a ta) (hc:PE X c (tC v)) (hv:avf v=some u)
    (hs:starEach [a,c] X.env=(false,eval a X.env)::starEach [c] X.env:=by rfl) (hs2:starEach [c] X.env=(false,eval c X.env)::starEach [] X.env:=by rfl) (hp:(backTo pos (starEach [c] X.env)).any (·.1)=false:=by rfl):
    QE X (.Call (.Name "isinstance" p) [a,c] [] pos) (ad6 X.K u ta):=by
  refine PE.imp (ain aow hg hm acs (aac ha (aac hc af2 hs2) hs) (by decide) (by decide) hs hp) ?_
  rintro σ H Q ⟨τ,L,Q3,rs,rl,z,k⟩
  refine ⟨τ,L,_,rs,rl,z,fun w H1 y L1 t1 rl1 rv1 z1=>?_⟩
  cases y with
  | ref b=>
    obtain ⟨C,e,hd,bb,kk,q⟩:=aun z1
    cases rv1
    exact ⟨b,C,v,rfl,rl1 b _ e,hd,.inl ⟨u,bb,hv,kk,k _ H1 _ L1 t1 rl1 (by rfl) q⟩⟩
  | _=>exact z1.elim
end
end L3
namespace L3
open PySem L2
theorem ajb:bootBuiltins "ValueError" = some (.type "ValueError"):=by decide +kernel
end L3
namespace L3
open PySem L2 PySem.W
theorem aoj {K:Frag} {C:Addr} (q:excIn K C [.type "ValueError",.type "Exception",.type "BaseException",.type "object"] "ValueError.__new__" = true):XCls K C:=axp q PySem.F.excBase_ValueError (by decide +kernel) PySem.F.excBase_ValueError
section
variable {K:Frag} {C D:Addr} {t c:Value} {b:Bool}
theorem kit_own {cd:ClassData} (ne:(Value.ref C==Value.ref D)=false) (h1:clsIn K D=some cd) (h2:typeIn K (.ref D)=some (.type "type")) (h3:subIn K (.ref C) (.ref D)=some b):kitOne K (.ref C) (.ref D)=some b:=by
  unfold kitOne
  rw [if_neg (by rw [ne];exact Bool.false_ne_true)]
  unfold kitCls
  simp only [h1,h2,Option.isSome_some,beq_self_eq_true,Bool.and_self,if_true]
  exact h3
theorem kit_self:kitOne K (.ref C) (.ref C)=some true:=by
  unfold kitOne
  rw [if_pos (beq_self_eq_true _)]
theorem kit_blt {T:String} (hm:kitMeta T=true) (h3:subIn K (.ref C) (.type T)=some b):kitOne K (.ref C) (.type T)=some b:=by
  unfold kitOne
  rw [if_neg (by intro q;cases beq_iff_eq.mp q)]
  unfold kitCls
  simp only [hm,if_true]
  exact h3
theorem exm_own {cd:ClassData} (h0:subIn K (.ref D) (.type "BaseException")=some true) (h1:clsIn K D=some cd) (h2:typeIn K (.ref D)=some (.type "type")) (h3:subIn K (.ref C) (.ref D)=some b):exmOne K (.ref C) (.ref D)=some b:=by
  unfold exmOne
  rw [if_pos (by rw [h0];rfl)]
  unfold kitCls
  simp only [h1,h2,Option.isSome_some,beq_self_eq_true,Bool.and_self,if_true]
  exact h3
theorem xhd_of {cd:ClassData} (ga:findIn K (.ref C) "__getattribute__" = some (some (.builtin "BaseException.__getattribute__"))) (gt:findIn K (.ref C) "__getattr__" = some none) (cl:findIn K (.ref C) "__class__" = some (some (.builtin "object.__class__")))
    (ge:specialIn K (.builtin "object.__class__") "__get__" = some (some (.builtin "getset_descriptor.__get__"))) (tk:takesIn K (.builtin "object.__class__")=some true) (mo:mroIn K C (.type "object")=some true) (be:subIn K (.ref C) (.type "BaseException")=some true) (h:clsIn K C=some cd):XHd K C:=
  ⟨⟨ga,gt,cl,ge,tk,mo,be⟩,by rw [h];rfl⟩
end
end L3
namespace L2
open PySem PySem.Spec PyProof.Rows
section
variable {X:Cx} {a b c:Expr} {es:List Expr} {ta tb:TE} {op op':CmpOp} {ops:List CmpOp} {r:R2} {u:V→TE} {pos:Pos}
end
end L2
namespace L3
open PySem L2
section
variable {X:Cx} {a b c:Expr} {es:List Expr} {ta tb:TE3} {op op':CmpOp} {ops:List CmpOp} {r:R23} {u:Y→TE3} {pos:Pos}
end
end L3
namespace L2
open PySem PySem.Spec PyProof.Rows
section
variable {X:Cx}
end
end L2
namespace L3
open PySem L2
end L3
namespace L3
open PySem L2
def ay4:Y→Option Key
  | .int i=>some (.inl i)
  | .str x=>some (.inr x)
  | _=>none
theorem ahp {G:G3} {H:Hp} {y:Y} {v:V} {k:Key} (h:ay4 y=some k) (r:RV G H y v):v=kV k:=by
  cases y with
  | int i=>cases h;exact r
  | str x=>cases h;exact r
  | _=>cases h
def air (kvs:List (Key×Y)) (k:Key) (y:Y):List (Key×Y):=
  if (kvs.any fun kv=>decide (kv.1=k))=true then kvs.map (fun kv=>if kv.1=k then (kv.1,y) else kv) else kvs++[(k,y)]
theorem TSt.dct {H:Hp} {p:Addr} {zs:List (Key×V)} {o:HO} (h:H p=some (.dK zs)):TSt H (upd H p o):=fun a u i q=>by
  rw [qt ?_];exact q
  rintro rfl
  rw [h] at q;cases q;cases i
theorem atz {G:G3} {H:Hp} {kvs:List (Key×Y)} {xs:List (Key×V)} (p:Paired (fun (p:Key×Y) (q:Key×V)=>p.1=q.1∧RV G H p.2 q.2) kvs xs) (k:Key):(kvs.any fun kv=>decide (kv.1=k))=xs.any fun kv=>decide (kv.1=k):=by
  induction p with
  | nil=>rfl
  | cons r t ih=>rw [List.any_cons,List.any_cons,ih,r.1]
theorem ass {G:G3} {H:Hp} {kvs:List (Key×Y)} {xs:List (Key×V)} {y:Y} {v:V} (p:Paired (fun (p:Key×Y) (q:Key×V)=>p.1=q.1∧RV G H p.2 q.2) kvs xs) (k:Key) (r:RV G H y v):
    Paired (fun (p:Key×Y) (q:Key×V)=>p.1=q.1∧RV G H p.2 q.2) (kvs.map fun kv=>if kv.1=k then (kv.1,y) else kv) (xs.map fun kv=>if kv.1=k then (kv.1,v) else kv):=by
  induction p with
  | nil=>exact .nil
  | @cons a b _ _ r' t ih=>
    refine .cons ?_ ih
    obtain ⟨e,q⟩:=r'
    dsimp only
    by_cases c:a.1=k
    · rw [if_pos c,if_pos (e▸c)];exact ⟨e,r⟩
    · rw [if_neg c,if_neg (fun z=>c (e.trans z))];exact ⟨e,q⟩
theorem are {G:G3} {H:Hp} {kvs:List (Key×Y)} {xs:List (Key×V)} {y:Y} {v:V} (p:Paired (fun (p:Key×Y) (q:Key×V)=>p.1=q.1∧RV G H p.2 q.2) kvs xs) (k:Key) (r:RV G H y v):
    Paired (fun (p:Key×Y) (q:Key×V)=>p.1=q.1∧RV G H p.2 q.2) (kvs++[(k,y)]) (xs++[(k,v)]):=by
  induction p with
  | nil=>exact .cons ⟨rfl,r⟩ .nil
  | cons r' t ih=>exact .cons r' ih
theorem asn {G:G3} {H:Hp} {kvs:List (Key×Y)} {xs:List (Key×V)} {y:Y} {v:V} (p:Paired (fun (p:Key×Y) (q:Key×V)=>p.1=q.1∧RV G H p.2 q.2) kvs xs) (k:Key) (r:RV G H y v):
    Paired (fun (p:Key×Y) (q:Key×V)=>p.1=q.1∧RV G H p.2 q.2) (air kvs k y) (abw xs k v):=by
  unfold air abw
  rw [atz p k]
  by_cases c:(xs.any fun kv=>decide (kv.1=k))=true
  · rw [if_pos c,if_pos c];exact ass p k r
  · rw [if_neg c,if_neg c];exact are p k r
theorem aaq {α β:Type} {R:α→β→Prop} {l:List α} {m:List β} (p:Paired R l m):l.length=m.length:=by
  induction p with
  | nil=>rfl
  | cons _ _ ih=>rw [List.length_cons,List.length_cons,ih]
def asm (_:St3) (L:LHp) (Q:YK):Prop:=∀ p,L p=none→Q (.ref p) (qh L p (.dct []))
def asg (td ti:TE3) (τ:St3) (L:LHp) (Q:YK):Prop:=td τ L fun x L1=>ti τ L1 fun y L2=>match x,ay4 y with
  | .ref a,some k=>aky L2 a fun kvs=>atK L2 Q (v9 kvs k)
  | _,_=>False
def aur (td ti tv:TE3) (D:Ends3) (τ:St3) (L:LHp):Prop:=tv τ L fun v L1=>td τ L1 fun x L2=>ti τ L2 fun y L3=>match x,ay4 y with
  | .ref a,some k=>aky L3 a fun kvs=>kvs.length<sizeLine∧D.nx τ (qh L3 a (.dct (air kvs k v)))
  | _,_=>False
section
variable {X:Cx} {o i value:Expr} {td ti tv:TE3} {pos pos':Pos}
theorem apq:QE X (.Dict [] [] pos) asm:=PE.imp avg fun σ H Q ⟨τ,L,Q3,rs,rl,z,k⟩=>fun p hp=>by
  refine k _ _ _ (qh L p (.dct [])) (TSt.new hp) (fun a u e=>?_) (by rfl) (z p (rl.none hp))
  by_cases c:a=p
  · subst c
    rw [q8] at e;cases e
    exact ⟨[],zx,.nil⟩
  · rw [qf c] at e
    exact (rl a u e).keep (TSt.new hp) (qt c)
theorem ap4 (hu:X.A.units+128<cLine) (ho:QE X o td) (hi:QE X i ti) (hs:a0e i):QE X (.Subscript o i pos) (asg td ti):=PE.imp (axx (by omega) ho hi hs) fun σ H Q ⟨τ,L,Q3,rs,rl,z,k⟩=>
  ⟨τ,L,_,rs,rl,z,fun v H1 x L1 t1 rl1 rv1 z1=>⟨τ,L1,_,rs.ts t1,rl1,z1,fun w H2 y L2 t2 rl2 rv2 z2=>by
    split at z2
    · rename_i a kk ek
      obtain ⟨kvs,e,z3⟩:=abo z2
      obtain ⟨yv,ev,q⟩:=agq z3
      obtain ⟨xs,e2,pr⟩:=rl2 a _ e
      obtain ⟨xv,ex,rx⟩:=af6 pr ev
      exact ⟨a,xv,rv1,.inl ⟨xs,kk,.inl e2,ahp ek rv2,ex.symm⟩,k _ H2 _ L2 (t1.trans t2) rl2 rx q⟩
    · exact z2.elim⟩⟩
theorem ape (hu:X.A.units+128<cLine) (ho:QE X o td) (hi:QE X i ti) (hv:QE X value tv) (hs:swapsWith value (some (.Subscript o i pos')) pos.line X.env=pure false:=by rfl):QS X (.Assign [.Subscript o i pos'] value pos) (aur td ti tv):=
  PS.imp (avr (by omega) ho hi hv hs) fun D σ H ⟨τ,L,D3,rs,rl,z,k⟩=>
  ⟨τ,L,_,rs,rl,z,fun v H1 vy L1 t1 rl1 rv1 z1=>⟨τ,L1,_,rs.ts t1,rl1,z1,fun x H2 xy L2 t2 rl2 rv2 z2=>⟨τ,L2,_,rs.ts (t1.trans t2),rl2,z2,fun w H3 y L3 t3 rl3 rv3 z3=>by
    split at z3
    · rename_i a kk ek
      obtain ⟨kvs,e,hl,q⟩:=abo z3
      obtain ⟨xs,e2,pr⟩:=rl3 a _ e
      have tt:TSt H3 (upd H3 a (.dK (abw xs kk v))):=TSt.dct e2
      cases (show x=V.ref a from rv2)
      refine ⟨a,_,rfl,.inl ⟨xs,kk,e2,ahp ek rv3,by rw [← aaq pr];exact hl,rfl⟩,?_⟩
      refine k.nx _ _ _ _ (((t1.trans t2).trans t3).trans tt) (rs.ts (((t1.trans t2).trans t3).trans tt)) (fun b u eb=>?_) q
      by_cases c:b=a
      · subst c
        rw [q8] at eb;cases eb
        exact ⟨_,zx,Paired.mapP (asn pr kk (rv1.ts (t2.trans t3))) fun _ _ ⟨h1,h2⟩=>⟨h1,h2.ts tt⟩⟩
      · rw [qf c] at eb
        exact (rl3 b u eb).keep tt (qt c)
    · exact z3.elim⟩⟩⟩
end
end L3
namespace L3
open PySem L2
def asq (to ti tv:TE3) (D:Ends3) (τ:St3) (L:LHp):Prop:=tv τ L fun v L1=>to τ L1 fun x L2=>ti τ L2 fun y L3=>match x,y with
  | .ref a,.int i=>abl L3 a fun ys=>atK L3 (fun j L=>D.nx τ (qh L a (.lst (ys.set j v)))) (ixN ys.length i)
  | _,_=>False
section
variable {X:Cx} {o i value:Expr} {to ti tv:TE3} {pos pos':Pos}
theorem apd (ho:QE X o to) (hi:QE X i ti) (hv:QE X value tv)
    (ha:∀ v,assign (.Subscript o i pos') X.env v=(do
      let ov ← holding [v] (eval o X.env)
      let iv ← holding [v,ov] (eval i X.env)
      standAt pos'
      holding [v,ov,iv] (setItem ov iv v)
      release [v,ov,iv] []):=by intro _;rfl)
    (h1:swapsWithSole [.Subscript o i pos'] value pos.line X.env=pure false:=by rfl) (h2:swappedStores [.Subscript o i pos'] value X.env=pure none:=by rfl)
    (h3:(assignEach [.Subscript o i pos'] X.env).map (·.2)=[assign (.Subscript o i pos') X.env]:=by rfl):QS X (.Assign [.Subscript o i pos'] value pos) (asq to ti tv):=
  PS.imp (as8 hv (a0x ho hi aue ha) h1 h2 h3) fun D σ H ⟨τ,L,D3,rs,rl,z,k⟩=>
  ⟨τ,L,_,rs,rl,z,fun v H1 vy L1 t1 rl1 rv1 z1=>⟨τ,L1,_,rs.ts t1,rl1,z1,fun x H2 xy L2 t2 rl2 rv2 z2=>⟨τ,L2,_,rs.ts (t1.trans t2),rl2,z2,fun w H3 y L3 t3 rl3 rv3 z3=>by
    split at z3
    · rename_i a ii
      obtain ⟨ys,e,z4⟩:=jx z3
      obtain ⟨j,ej,q⟩:=agq z4
      obtain ⟨xs,e2,r⟩:=rl3 a _ e
      cases (show x=V.ref a from rv2)
      cases (show w=V.int ii from rv3)
      have tt:TSt H3 (upd H3 a (.lst (xs.set j v))):=TSt.lst e2
      exact ⟨a,xs,ii,j,rfl,rfl,e2,by rw [← r.length];exact ej,k.nx _ _ _ _ (((t1.trans t2).trans t3).trans tt) (rs.ts (((t1.trans t2).trans t3).trans tt)) (rl3.setL e2 (RVs.setY (rv1.ts (t2.trans t3)) j r)) q⟩
    · exact z3.elim⟩⟩⟩
end
end L3
namespace L2
open PySem PySem.Spec PyProof.Rows
section
variable {X:Cx} {e v₁ v₂:Expr} {es:List Expr} {te:TE} {u:Str→TE} {pos:Pos}
end
end L2
namespace L3
open PySem L2
section
variable {X:Cx} {e v₁ v₂:Expr} {es:List Expr} {te:TE3} {u:Str→TE3} {pos:Pos}
end
end L3
namespace L3
open PySem L2
@[irreducible] def aoz (L:LHp) (a:Addr) (k:Addr→List (Str×Y)→Prop):Prop:=match L a with
  | some (.ins C fs)=>k C fs
  | _=>False
theorem xr {L:LHp} {a C:Addr} {fs:List (Str×Y)} {k:Addr→List (Str×Y)→Prop} (e:L a=some (.ins C fs)) (h:k C fs):aoz L a k:=by unfold aoz;rw [e];exact h
theorem ahg {L:LHp} {a:Addr} {k:Addr→List (Str×Y)→Prop} (h:aoz L a k):∃ C fs,L a=some (.ins C fs)∧k C fs:=by
  unfold aoz at h
  split at h
  · rename_i C fs e;exact ⟨C,fs,e,h⟩
  · exact h.elim
abbrev PrF (G:G3) (H:Hp):List (Str×Y)→List (Str×V)→Prop:=Paired fun (p:Str×Y) (q:Str×V)=>p.1=q.1∧RV G H p.2 q.2
theorem aw0 {G:G3} {H:Hp} {fs:List (Str×Y)} {xs:List (Str×V)} (p:PrF G H fs xs) {f:Str} {y:Y} (h:fs.lookup f=some y):∃ v,xs.lookup f=some v∧RV G H y v:=by
  induction p with
  | nil=>cases h
  | @cons a b _ _ r t ih=>
    obtain ⟨ka,ya⟩:=a;obtain ⟨kb,vb⟩:=b
    obtain ⟨e,r⟩:=r
    cases (show ka=kb from e)
    rw [List.lookup_cons] at h ⊢
    cases c:(f==ka) with
    | true=>rw [c] at h;cases h;exact ⟨vb,rfl,r⟩
    | false=>rw [c] at h;exact ih h
theorem avl {G:G3} {H:Hp} {fs:List (Str×Y)} {xs:List (Str×V)} (p:PrF G H fs xs) {f:Str} (h:fs.lookup f=none):xs.lookup f=none:=by
  induction p with
  | nil=>rfl
  | @cons a b _ _ r t ih=>
    obtain ⟨ka,ya⟩:=a;obtain ⟨kb,vb⟩:=b
    obtain ⟨e,r⟩:=r
    cases (show ka=kb from e)
    rw [List.lookup_cons] at h ⊢
    cases c:(f==ka) with
    | true=>rw [c] at h;cases h
    | false=>rw [c] at h;exact ih h
def apo (f:Str) (y:Y):List (Str×Y)→List (Str×Y)
  | []=>[(f,y)]
  | (g,x)::r=>if g=f then (g,y)::r else (g,x)::apo f y r
theorem ay7 {G:G3} {H:Hp} {fs:List (Str×Y)} {xs:List (Str×V)} (p:PrF G H fs xs) (f:Str) {y:Y} {v:V} (r:RV G H y v):PrF G H (apo f y fs) (ab3 f v xs):=by
  induction p with
  | nil=>exact .cons ⟨rfl,r⟩ .nil
  | @cons a b _ _ r' t ih=>
    obtain ⟨ka,ya⟩:=a;obtain ⟨kb,vb⟩:=b
    obtain ⟨e,q⟩:=r'
    cases (show ka=kb from e)
    unfold apo ab3
    by_cases c:ka=f
    · rw [if_pos c,if_pos c];exact .cons ⟨rfl,r⟩ t
    · rw [if_neg c,if_neg c];exact .cons ⟨rfl,q⟩ ih
theorem TSt.ins {H:Hp} {p C dx:Addr} {zs:List (Str×V)} {o:HO} (h:H p=some (.ins C dx zs)):TSt H (upd H p o):=fun a u i q=>by
  rw [qt ?_];exact q
  rintro rfl
  rw [h] at q;cases q;cases i
def ap1 (K:PySem.W.Frag) (f:Str) (te:TE3) (τ:St3) (L:LHp) (Q:YK):Prop:=te τ L fun x L1=>match x with
  | .ref a=>aoz L1 a fun C fs=>Cls K C∧NoAttr K C f∧atK L1 Q (fs.lookup f)
  | _=>False
def az1 (K:PySem.W.Frag) (f:Str) (to tv:TE3) (D:Ends3) (τ:St3) (L:LHp):Prop:=tv τ L fun v L1=>to τ L1 fun x L2=>match x with
  | .ref a=>aoz L2 a fun C fs=>Cls K C∧NoAttr K C f∧fs.length<1000∧D.nx τ (qh L2 a (.ins C (apo f v fs)))
  | _=>False
def asd (C:Addr) (sp:Sp3) (t:TA3) (τ:St3) (L:LHp) (Q:YK):Prop:=t τ L fun ys L1=>∀ x,L1 x=none→sp (.ref x::ys) (qh L1 x (.ins C [])) fun v L2=>v=.non∧Q (.ref x) L2
section
variable {X:Cx} {o e value:Expr} {es:List Expr} {to te tv:TE3} {tr:TA3} {pos pos' apos p:Pos} {f m x:Str} {C g:Addr}
theorem aeu (h:QE X e te) (hb:attributeBase e f X.env (eval e X.env)=eval e X.env:=by rfl):QE X (.Attribute e f pos) (ap1 X.K f te):=PE.imp (a2f h hb) fun σ H Q ⟨τ,L,Q3,rs,rl,z,k⟩=>
  ⟨τ,L,_,rs,rl,z,fun v H1 y L1 t1 rl1 rv1 z1=>by
    split at z1
    · rename_i a
      obtain ⟨C,fs,e,c,n,z2⟩:=ahg z1
      obtain ⟨y,ey,q⟩:=agq z2
      obtain ⟨dx,xs,e2,pr⟩:=rl1 a _ e
      obtain ⟨w,ew,rw'⟩:=aw0 pr ey
      exact ⟨a,C,dx,xs,w,rv1,e2,c,n,ew,k _ H1 _ L1 t1 rl1 rw' q⟩
    · exact z1.elim⟩
theorem awt (ho:QE X o to) (hv:QE X value tv) (hs:swapsWith value (some (.Attribute o f pos')) pos.line X.env=pure false:=by rfl):QS X (.Assign [.Attribute o f pos'] value pos) (az1 X.K f to tv):=PS.imp (a2c ho hv hs) fun D σ H ⟨τ,L,D3,rs,rl,z,k⟩=>
  ⟨τ,L,_,rs,rl,z,fun v H1 vy L1 t1 rl1 rv1 z1=>⟨τ,L1,_,rs.ts t1,rl1,z1,fun w H2 y L2 t2 rl2 rv2 z2=>by
    split at z2
    · rename_i a
      obtain ⟨C,fs,e,c,n,hl,q⟩:=ahg z2
      obtain ⟨dx,xs,e2,pr⟩:=rl2 a _ e
      have tt:TSt H2 (upd H2 a (.ins C dx (ab3 f v xs))):=TSt.ins e2
      refine ⟨a,C,dx,xs,rv2,e2,c,n,by rw [← aaq pr];exact hl,k.nx _ _ _ _ ((t1.trans t2).trans tt) (rs.ts ((t1.trans t2).trans tt)) (fun b u eb=>?_) q⟩
      by_cases cc:b=a
      · subst cc
        rw [q8] at eb;cases eb
        exact ⟨dx,_,zx,Paired.mapP (ay7 pr f (rv1.ts t2)) fun _ _ ⟨h1,h2⟩=>⟨h1,h2.ts tt⟩⟩
      · rw [qf cc] at eb
        exact (rl2 b u eb).keep tt (qt cc)
    · exact z2.elim⟩⟩
theorem aya {k:Nat} {fd:FuncData} {ps:List Str} {sp:Sp3} (M:Mk X.K C g) (F:Fn3 X.prog X.w X.K X.mg X.base k g fd ps sp) (hr:Room (k+1) X.A) (hg:Gl X x) (hm:X.mg x=some (.ref C)) (hb:Binds X.K fd ps []) (ha:QA X (e::es) tr)
    (hdb:(x==("__debug__" : Str))=false:=by decide) (he:starEach (e::es) X.env=(false,eval e X.env)::starEach es X.env:=by rfl) (hpl:(backTo pos (starEach es X.env)).any (·.1)=false:=by rfl):
    QE X (.Call (.Name x p) (e::es) [] pos) (asd C sp tr):=PE.imp (axd M F hr hg hm hb .nil av9 ha hdb he hpl) fun σ H Q ⟨τ,L,Q3,rs,rl,z,k⟩=>
  ⟨τ,L,_,rs,rl,z,fun vs H1 ys L1 t1 rl1 rv1 z1=>fun x dx hx hdx ne=>by
    have ta:TSt H1 (upd H1 dx (.own x)):=TSt.new hdx
    have hx':upd H1 dx (.own x) x=none:=by rw [qt (Ne.symm ne)];exact hx
    have tt:TSt H1 (upd (upd H1 dx (.own x)) x (.ins C dx [])):=ta.trans (TSt.new hx')
    refine ⟨.ref x::ys,qh L1 x (.ins C []),_,⟨.ref x,vs++[],by simp,rfl,by rw [List.append_nil];exact rv1.ts tt⟩,fun b u eb=>?_,z1 x (rl1.none hx),fun v H2 y L2 t2 rl2 rv2 ⟨ev,q⟩=>?_⟩
    · by_cases cc:b=x
      · subst cc
        rw [q8] at eb;cases eb
        exact ⟨dx,[],zx,.nil⟩
      · rw [qf cc] at eb
        have nd:b≠dx:=fun z=>by
          obtain ⟨w,ew⟩:=(rl1 b u eb).ex
          rw [z,hdx] at ew;cases ew
        exact (rl1 b u eb).keep tt (by rw [qt cc,qt nd])
    · subst ev
      exact ⟨rv2,k _ H2 _ L2 (t1.trans (tt.trans t2)) rl2 (by rfl) q⟩⟩
end
end L3
namespace L3
open PySem L2
end L3
namespace L3
open PySem L2
open PySem.AutoSeq1 (wpAny_loadPart')
open MeetsSeq MeetsSeq2 MeetsSeq3 SeqRoads2
theorem RVs.rev {G:G3} {H:Hp}:∀ {ys:List Y} {xs:List V},RVs G H ys xs→RVs G H ys.reverse xs.reverse
  | [],xs,r=>by cases (show xs=[] from r);exact rfl
  | y::t,xs,r=>by
    obtain ⟨x,xs',rfl,r1,r2⟩:=r
    rw [List.reverse_cons,List.reverse_cons]
    exact RVs.app (RVs.rev r2) (RVs.one r1)
def ayj (x y:Y) (L:LHp) (Q:YK):Prop:=agg L x fun xs=>agg L y fun ys=>aq4 x=true∧aq4 y=true∧xs.length+ys.length≤sizeLine∧∀ p,L p=none→Q (.ref p) (qh L p (.lst (xs++ys)))
theorem a1e {X:Cx} (K:PySem.W.Frag) (P:Program) (w:World) (hK:X.K=K:=by rfl) (hP:X.prog=P:=by rfl) (hw:X.w=w:=by rfl):OpR X (binaryOp .Add) (upR ⟨K,P,w⟩ ayj):=by
  subst hK hP hw
  intro pins s σ H x y v u Q I rx ry ⟨x3,y3,L,Q3,r1,r2,rl,z,k⟩
  obtain ⟨xs,ex,z⟩:=w9 z
  obtain ⟨ys,ey,z⟩:=w9 z
  obtain ⟨lx,ly,hz,q⟩:=z
  obtain ⟨a,ws,rfl,s1,rv1⟩:=afe rl r1 lx ex
  obtain ⟨b,ws',rfl,s2,rv2⟩:=afe rl r2 ly ey
  cases rx;cases ry
  obtain ⟨is1,vx,tx,_⟩:=I.list s1
  obtain ⟨is2,vy,ty,_⟩:=I.list s2
  obtain ⟨⟨cls,dd,data,sl⟩,ho,hc,n,hd⟩:=id (zf tx)
  obtain ⟨⟨cls2,dd2,data2,sl2⟩,ho2,hc2,n2,hd2⟩:=id (zf ty)
  simp only at hc hd hc2 hd2
  subst hc hd hc2 hd2
  have l1:=vx.length;have l2:=vy.length;have l3:=rv1.length;have l4:=rv2.length
  have hsz:is1.toArray.size+is2.toArray.size≤sizeLine:=by rw [List.size_toArray,List.size_toArray];omega
  refine concat_meets ⟨_,ho,rfl⟩ ⟨_,ho2,rfl⟩ noFill_list_add seq_list_add PySem.F.slot_list_add PySem.F.entry_list_add (PySem.F.args_list_add_2 _ _) (PyProof.Rows.list_addW a b is1.toArray is2.toArray n n2 dd dd2 sl sl2 hsz) ⟨ho,ho2,?_⟩
  have e:is1.toArray++is2.toArray=(is1++is2).toArray:=by simp
  rw [e]
  exact ⟨.ref _,_,I.lnew (t':=s.toks) (vx.append vy) (by rw [List.length_append];omega),rfl,k _ _ _ _ (TSt.new I.fresh) (rl.newL I.fresh (rv1.app rv2)) (by rfl) (q _ (rl.none I.fresh))⟩
end L3
namespace L2
open PySem PySem.Spec PyProof.Rows
end L2
namespace Txs
open PySem PySem.Builtin.Str
theorem len_list (x:Str):x.cps.toList.length=x.length:=by simp [Str.length]
end Txs
namespace L2
open PySem PySem.Spec PyProof.Rows
section
variable {X:Cx} {pins:List (Addr×Obj)} {σ:St} {H:Hp} {s:Shared} {isp imk c j1 j2:Nat} {sp mk:Str} {x:Str} {u:Tok} {m:Str→Option Value} {p1 p3 p4 p5 p6 p7 p8 p9 p10 apos cpos pos:Pos} {Q:Flow→Shared→Prop}
end
end L2
namespace L3
open PySem L2
end L3
namespace L2
open PySem PySem.Spec PyProof.Rows
section
variable {X:Cx}
end
end L2
namespace L3
open PySem L2
end L3
namespace L3
open PySem L2
def agu (s:Stmt):List Stmt:=match s with
  | .ClassDef _ _ _ b _ _ _ _ _ _ _=>b
  | _=>[]
structure CalM (P:Program) (w:World) (K:PySem.W.Frag) (mg:Str→Option Value) (base:Heap) (k:Nat) (C:Addr) (m:Str) (ps:List Str) (sp:Sp3):Prop where
  ex:∃ g fd,Meth K C m g∧Fn3 P w K mg base k g fd ps sp∧Binds K fd ps []
structure CalI (P:Program) (w:World) (K:PySem.W.Frag) (mg:Str→Option Value) (base:Heap) (k:Nat) (C:Addr) (ps:List Str) (sp:Sp3):Prop where
  ex:∃ g fd,Mk K C g∧(∃ j,k=j+1∧Fn3 P w K mg base j g fd ps sp)∧Binds K fd ps []
theorem CalM.mono {P:Program} {w:World} {K:PySem.W.Frag} {mg:Str→Option Value} {base:Heap} {j k:Nat} {C:Addr} {m:Str} {ps:List Str} {sp:Sp3} (c:CalM P w K mg base j C m ps sp) (h:j≤k):CalM P w K mg base k C m ps sp:=by
  obtain ⟨g,fd,M,F,b⟩:=c.ex
  exact ⟨g,fd,M,F.mono h,b⟩
theorem CalI.mono {P:Program} {w:World} {K:PySem.W.Frag} {mg:Str→Option Value} {base:Heap} {j k:Nat} {C:Addr} {ps:List Str} {sp:Sp3} (c:CalI P w K mg base j C ps sp) (h:j≤k):CalI P w K mg base k C ps sp:=by
  obtain ⟨g,fd,M,⟨i,e,F⟩,b⟩:=c.ex
  subst e
  exact ⟨g,fd,M,⟨k - 1,by omega,F.mono (by omega)⟩,b⟩
section
variable {X:Cx} {o e:Expr} {es:List Expr} {to:TE3} {tr:TA3} {pos apos p:Pos} {m x:Str} {C:Addr} {k:Nat} {ps:List Str} {sp:Sp3}
theorem a3z (ci:CalI X.prog X.w X.K X.mg X.base k C ps sp) (hr:Room k X.A) (hg:Gl X x) (hm:X.mg x=some (.ref C)) (ha:QA X (e::es) tr)
    (hdb:(x==("__debug__" : Str))=false:=by decide) (he:starEach (e::es) X.env=(false,eval e X.env)::starEach es X.env:=by rfl) (hpl:(backTo pos (starEach es X.env)).any (·.1)=false:=by rfl):
    QE X (.Call (.Name x p) (e::es) [] pos) (asd C sp tr):=by
  obtain ⟨g,fd,M,⟨j,ej,F⟩,b⟩:=ci.ex
  subst ej
  exact aya M F hr hg hm b ha hdb he hpl
end
structure MethIn (K:PySem.W.Frag) (C:Addr) (x qual:Str) (st:Stmt):Prop where
  ex:∃ (f:Addr) (kV doc pm:Value) (an:Option Addr) (cdv ct:Value),PySem.W.findIn K (.ref C) x=some (some (.ref f))∧PySem.W.isFn K (.ref f)=true∧Fun K x qual st f (PySem.W.fnOf x qual (jv st) (qr st) (qa st) .none kV doc pm an cdv ct)
theorem meth_in {K:PySem.W.Frag} {C:Addr} {x qual:Str} {st:Stmt} {f:Addr} {oc:Value} {od an:Option Addr} {osl:Array (Option Value)} {kV doc pm cdv ct:Value} (a:PySem.W.findIn K (.ref C) x=some (some (.ref f)))
    (l:K.lookup f=some ⟨oc,od,.func (PySem.W.fnOf x qual (jv st) (qr st) (qa st) .none kV doc pm an cdv ct),osl⟩) (c:PySem.W.codeIn K cdv qual=true) (k:PySem.W.keepIn K (.ref f)=true) (i:PySem.W.isFn K (.ref f)=true):MethIn K C x qual st:=
  ⟨f,kV,doc,pm,an,cdv,ct,a,i,av0 (st:=st) l c k⟩
theorem MethIn.use {K:PySem.W.Frag} {C:Addr} {x qual:Str} {st:Stmt} {ps:List Str} (D:MethIn K C x qual st)
    (hb:∀ (kV doc pm:Value) (an:Option Addr) (cdv ct:Value) (us:List Value),us.length=ps.length→bindArgs (PySem.W.fnOf x qual (jv st) (qr st) (qa st) .none kV doc pm an cdv ct) ⟨us,[]⟩=pure (ps.zip us)):
    ∃ f fd,Fun K x qual st f fd∧Binds K fd ps []∧Meth K C x f:=by
  obtain ⟨f,kV,doc,pm,an,cdv,ct,a,i,F⟩:=D.ex
  exact ⟨f,_,F,Binds.all (hb kV doc pm an cdv ct),⟨a,i,F.kp⟩⟩
end L3
namespace L2
open PySem PySem.Spec PyProof.Rows
end L2
namespace L3
open PySem L2
end L3
namespace L2
open PySem PySem.Spec PyProof.Rows
section
variable {X:Cx} {e:Expr} {te:TE} {pos:Pos}
end
end L2
namespace L3
open PySem L2
section
variable {X:Cx} {e:Expr} {te:TE3} {pos:Pos}
end
end L3
namespace L2
open PySem PySem.Spec PyProof.Rows
end L2
namespace L3
open PySem L2 PySem.Spec PyProof.Rows
end L3
namespace L2
open PySem PySem.Spec PyProof.Rows
section
variable {X:Cx} {pins:List (Addr×Obj)} {σ:St} {H:Hp} {s:Shared} {a C T:Addr} {tr:Option Addr}
end
section
variable {X:Cx} {scope:Scope} {T:List Str} {elt target iter:Expr} {ifs:List Expr} {wi:TI} {g:TG} {tc:TT} {te:TE}
end
section
variable {X:Cx} {pins:List (Addr×Obj)} {σ:St} {H H':Hp} {s s':Shared} {a b C T:Addr} {tr:Option Addr} {E1:X1}
end
section
variable {X:Cx} {k:Nat} {f C:Addr} {fd:FuncData} {ps:List Str} {sp:Sp} {E1:X1} {x:Str} {p pos:Pos} {e:Expr} {es:List Expr} {t:TA}
end
end L2
namespace L3
open PySem L2
section
variable {X:Cx} {scope:Scope} {T:List Str} {elt target iter c e o:Expr} {ifs es:List Expr} {wi:TI3} {g:TG3} {tA:TT3} {te to:TE3} {tr:TA3} {pos:Pos} {E3:X3} {Ea:Addr→LHp→Prop}
end
end L3
namespace L2
open PySem PySem.Spec PyProof.Rows
theorem Vals.takeN:∀ {xs:List V} {us:List Value} (n:Nat),Vals xs us→Vals (xs.take n) (us.take n)
  | [],_,n,.nil=>by simp;exact .nil
  | _::_,_,0,.cons _ _=>.nil
  | _::_,_,n+1,.cons r t=>.cons r (Vals.takeN n t)
theorem Vals.dropN:∀ {xs:List V} {us:List Value} (n:Nat),Vals xs us→Vals (xs.drop n) (us.drop n)
  | [],_,n,.nil=>by simp;exact .nil
  | _::_,_,0,.cons r t=>.cons r t
  | _::_,_,n+1,.cons _ t=>Vals.dropN n t
section
variable {X:Cx}
def awo:V→List V→Hp→VK→Prop:=fun x vs H Q=>∃ l xs,∃ i:Int,∃ y,x=.ref l∧vs=[.int i,y]∧H l=some (.lst xs)∧0≤i∧i.toNat≤xs.length∧xs.length≤100000∧Q .non (upd H l (.lst (xs.take i.toNat++y::xs.drop i.toNat)))
theorem arz:MtM X "list.insert" awo:=by
  intro pins s σ H x vs v us Q I rx rv h
  obtain ⟨l,xs,i,y,rfl,rfl,hH,h0,hk,hz,q⟩:=h
  cases rx
  obtain ⟨u0,u,rfl,r0,ru⟩:=rv.two
  obtain ⟨t,rfl⟩:=(show ∃ t,u0=Value.int i t from r0)
  obtain ⟨z,its,n,r,hl,e⟩:=I.lstM hH
  have hlen:its.length=xs.length:=r.length.symm
  have hb:(100000:Nat)<sizeLine:=by decide
  have fits:¬ (!Builtin.List.listFitsIndex i)=true:=by
    unfold Builtin.List.listFitsIndex
    simp
    omega
  obtain ⟨arr,harr⟩:∃ arr:Array Value,arr=its.toArray:=⟨_,rfl⟩
  have hzz:arr.size≤sizeLine:=by rw [harr,List.size_toArray];omega
  have M:=PySem.AutoListH.list_insert_list_int_val_1 l arr n i t u fits hzz
  rw [harr] at M
  refine call_meets F.slot_list_insert ⟨_,e,rfl⟩ F.entry_list_insert (F.args_list_insert_3 _ _ _) M ⟨e,?_⟩
  refine ⟨.non,_,I.lset (its':=its.take i.toNat++u::its.drop i.toNat) hH e ?_ ((r.takeN i.toNat).append (.cons ru (r.dropN i.toNat))) ?_,rfl,q⟩
  · have h1:¬ (i<0):=by omega
    have h2:min i.toNat its.length=i.toNat:=by omega
    simp [h1,h2]
    exact List.take_of_length_le (by rw [List.length_drop];omega)
  · simp;omega
end
end L2
namespace L3
open PySem L2
def aea (x:Y) (vs:List Y) (L:LHp) (Q:YK):Prop:=match x,vs with
  | .ref a,[.int i,v]=>abl L a fun ys=>(0≤i∧i≤ys.length∧ys.length≤100000)∧Q .non (qh L a (.lst (ys.take i.toNat++v::ys.drop i.toNat)))
  | _,_=>False
theorem av2 {X:Cx}:MtM X "list.insert" (upM X.g3 aea):=MtM.imp arz fun x xs H Q ⟨y,ys,L,Q3,r1,r2,rl,z,k⟩=>by
  unfold aea at z
  split at z
  · rename_i a i v
    obtain ⟨zs,e,⟨h0,h1,h2⟩,z⟩:=jx z
    obtain ⟨us,e2,r⟩:=rl a _ e
    obtain ⟨v0,v',rfl,rv0,rv⟩:=r2.inv2
    cases rv0
    refine ⟨a,us,i,v',r1,rfl,e2,h0,by rw [← r.length];omega,by rw [← r.length];exact h2,?_⟩
    exact k _ _ _ _ (TSt.lst e2) (rl.setL e2 ((r.take _).app (show RVs X.g3 H (v::_) _ from ⟨v',_,rfl,rv,r.drop _⟩))) (by rfl) z
  · exact z.elim
theorem ak6 {X:Cx} {o e:Expr} {es:List Expr} {to:TE3} {tr:TA3} {apos cpos:Pos} (ho:QE X o to) (ha:QA X (e::es) tr) (h4:attributeBase o "insert" X.env (eval o X.env)=eval o X.env:=by rfl)
    (h5:((backTo cpos (starEach (e::es) X.env)).all (fun x=>!x.1)&&(backToKw cpos (keywordEach [] X.env)).all (fun x=>x.1.isSome)&&decide ((e::es).length+([]:List Keyword).length+(if ([]:List Keyword).isEmpty=true then 0 else 1)<30))=true:=by rfl)
    (h6:(apos.endLine==cpos.line)=true:=by rfl) (h7:starEach (e::es) X.env=(false,eval e X.env)::starEach es X.env:=by rfl) (h8:(backTo cpos (starEach es X.env)).any (·.1)=false:=by rfl):
    QE X (.Call (.Attribute o "insert" apos) (e::es) [] cpos) (yBL aea to tr):=ai7 PySem.F.slot_list_insert PySem.F.type_list_insert av2 ho ha h4 h5 h6 h7 h8
end L3
namespace L2
open PySem PySem.Spec PyProof.Rows
section
variable {prog:Program} {w:World} {A:Around} {E:Value→Shared→Prop}
end
section
variable {X:Cx} {pos:Pos}
end
section
end
section
variable {X:Cx}
end
end L2
namespace L3
open PySem L2
end L3
namespace L2
open PySem PySem.Spec PyProof.Rows
section
def aet (b:Nat→Bool):Nat→Nat→Nat
  | _,0=>0
  | i,k+1=>(if b i=true then 1 else 0)+aet b (i+1) k
theorem ax0 (l:Addr) (its:Array Value) (n:Nat) (x:Value) (b:Nat→Bool):∀ (k i:Nat) (c:Int),its.size - i=k→
    Meets (Builtin.«list.count.loop» ⟨[.ref l,x,rawInt i,rawInt c],[]⟩) (fun A R s=>s.heap.get? l=some { cls:=.type "list",dict:=none,data:=.seq its n,slots:=#[] }∧(∀ m (hm:m<its.size),SeqAt.EqAt A.in1 s its[m] x (b m))∧R (.ok (.ret (.int (c+((aet b i k:Nat):Int)) s.toks))) { s with toks:=s.toks+1 }):=by
  intro k
  induction k with
  | zero=>
    intro i c hk prog w A R s h
    obtain ⟨hp,g,d,tk,os⟩:=s
    obtain ⟨hl,eq,h⟩:=h
    (wp_walk using wpAny_loadPart' hl)
    have none_there:its[((i:Nat):Int).toNat]?=none:=by simp;omega
    rw [none_there]
    wp_walk
    simpa [aet] using h
  | succ k ih=>
    intro i c hk prog w A R s h
    obtain ⟨hp,g,d,tk,os⟩:=s
    obtain ⟨hl,eq,h⟩:=h
    have hlt:i<its.size:=by omega
    (wp_walk using wpAny_loadPart' hl)
    have one_there:its[((i:Nat):Int).toNat]?=some its[i]:=by simp [hlt]
    have up:((i:Int)+1)=((i+1:Nat):Int):=by omega
    rw [one_there]
    refine wpAny_bind (eq i hlt prog w _ _ ?_)
    wp_walk
    rw [up]
    refine ⟨plainId_quiet MeetsSeq.plain_count_loop _,codeAny_builtin MeetsSeq.entry_count_loop ?_⟩
    rw [Around.under_plainId MeetsSeq.plain_count_loop _]
    refine ih (i+1) _ (by omega) prog w A R _ ⟨hl,eq,?_⟩
    have e:aet b i (k+1)=(if b i=true then 1 else 0)+aet b (i+1) k:=rfl
    rw [e] at h
    cases hb:b i with
    | false=>
      rw [hb] at h
      have e2:(((if false=true then 1 else 0)+aet b (i+1) k:Nat):Int)=((aet b (i+1) k:Nat):Int):=by simp
      rw [e2] at h
      exact h
    | true=>
      rw [hb] at h
      have e2:c+(((if true=true then 1 else 0)+aet b (i+1) k:Nat):Int)=c+1+((aet b (i+1) k:Nat):Int):=by rw [if_pos rfl];push_cast;omega
      rw [e2] at h
      exact h
theorem avc (l:Addr) (its:Array Value) (n:Nat) (x:Value) (b:Nat→Bool):
    Meets (Builtin.«list.count» ⟨[.ref l,x],[]⟩) (fun A R s=>s.heap.get? l=some { cls:=.type "list",dict:=none,data:=.seq its n,slots:=#[] }∧(∀ m (hm:m<its.size),SeqAt.EqAt A.in1 s its[m] x (b m))∧R (.ok (.ret (.int ((aet b 0 its.size:Nat):Int) s.toks))) { s with toks:=s.toks+1 }):=by
  intro prog w A R s h
  obtain ⟨hp,g,d,tk,os⟩:=s
  obtain ⟨hl,eq,h⟩:=h
  (wp_walk using wpAny_loadPart' hl)
  refine ⟨plainId_quiet MeetsSeq.plain_count_loop _,codeAny_builtin MeetsSeq.entry_count_loop ?_⟩
  rw [Around.under_plainId MeetsSeq.plain_count_loop _]
  refine ax0 l its n x b its.size 0 0 (by omega) prog w A R _ ⟨hl,eq,?_⟩
  rw [Int.zero_add]
  exact h
theorem ap9 {e:Da}:∀ (ds:List Da) (b:Nat→Bool) (i:Nat),(∀ k d,ds[k]?=some d→b (i+k)=Da.eq d e)→aet b i ds.length=ds.countP fun d=>Da.eq d e
  | [],_,_,_=>rfl
  | d::r,b,i,h=>by
    have h0:=h 0 d rfl
    have ih:=ap9 (e:=e) r b (i+1) fun k d' hk=>by
      have:=h (k+1) d' hk
      rw [show i+1+k=i+(k+1) by omega];exact this
    rw [List.length_cons,List.countP_cons]
    show (if b i=true then 1 else 0)+aet b (i+1) r.length=_
    rw [ih]
    have h0:b i=Da.eq d e:=h0
    rw [h0,Nat.add_comm]
end
section
variable {X:Cx}
def a09 (X:Cx):V→List V→Hp→VK→Prop:=fun x vs H Q=>∃ l xs y ds e,∃ n m:Nat,x=.ref l∧vs=[y]∧H l=some (.lst xs)∧n≤126∧Paired (xi X.K H n) xs ds∧xi X.K H m y e∧Q (.int (((ds.countP fun d=>Da.eq d e):Nat):Int)) H
theorem atd (hu:X.A.units+128<cLine):MtM X "list.count" (a09 X):=by
  intro pins s σ H x vs v us Q I rx rv h
  obtain ⟨l,xs,y,ds,e,n,m,rfl,rfl,hH,hn,pd,ry,q⟩:=h
  cases rx
  obtain ⟨u,rfl,ru⟩:=rv.one
  obtain ⟨z,its,nn,r,hl,eo⟩:=I.lstM hH
  have l1:xs.length=ds.length:=pd.length
  have l2:its.length=xs.length:=r.length.symm
  obtain ⟨arr,harr⟩:∃ arr:Array Value,arr=its.toArray:=⟨_,rfl⟩
  have hsz:arr.size=ds.length:=by rw [harr,List.size_toArray];omega
  have M:=avc l arr nn u (fun k=>((ds[k]?).map fun d=>Da.eq d e).getD false)
  have hc:aet (fun k=>((ds[k]?).map fun d=>Da.eq d e).getD false) 0 arr.size=ds.countP fun d=>Da.eq d e:=by
    rw [hsz]
    refine ap9 ds _ 0 fun k d hk=>?_
    show ((ds[0+k]?).map fun d=>Da.eq d e).getD false=_
    rw [Nat.zero_add,hk];rfl
  rw [hc,harr] at M
  refine call_meets F.slot_list_count ⟨_,eo,rfl⟩ F.entry_list_count (F.args_list_count_2 _ _) M ⟨eo,fun k hk=>?_,?_⟩
  · have hk':k<its.length:=by rw [List.size_toArray] at hk;exact hk
    obtain ⟨d,ed,rd⟩:=Words.Paired.getP pd (List.getElem?_eq_getElem (by omega:k<xs.length))
    show SeqAt.EqAt _ s _ u (((ds[k]?).map fun d=>Da.eq d e).getD false)
    rw [ed]
    obtain ⟨u',eu',ru'⟩:=Words.Paired.getP r (List.getElem?_eq_getElem (by omega:k<xs.length))
    have eg:its.toArray[k]=u':=by
      have:=(List.getElem?_eq_some_iff.mp eu').2
      simpa using this
    rw [eg]
    exact aid I n (by show X.A.units+1+n<cLine;omega) rd ry ru' ru
  · exact ⟨.int _,_,I.tok (s.toks+1),⟨_,rfl⟩,q⟩
end
end L2
namespace L3
open PySem L2
def ad7 (x:Y) (vs:List Y) (L:LHp) (Q:YK):Prop:=match x,vs with
  | .ref a,[v]=>abl L a fun ys=>∃ ds e,∃ n m:Nat,n≤126∧Paired (DatN L n) ys ds∧DatN L m v e∧Q (.int (((ds.countP fun d=>Da.eq d e):Nat):Int)) L
  | _,_=>False
theorem axb {X:Cx} (hu:X.A.units+128<cLine):MtM X "list.count" (upM X.g3 ad7):=MtM.imp (atd hu) fun x xs H Q ⟨y,ys,L,Q3,r1,r2,rl,z,k⟩=>by
  unfold ad7 at z
  split at z
  · rename_i a v
    obtain ⟨zs,e,ds,de,n,m,hn,pd,dv,z⟩:=jx z
    obtain ⟨us,e2,r⟩:=rl a _ e
    obtain ⟨v',rfl,rv⟩:=r2.inv1
    have both:∀ {ys:List Y} {ds:List Da} {xs:List V},Paired (DatN L n) ys ds→RVs X.g3 H ys xs→Paired (xi X.K H n) xs ds:=by
      intro ys ds xs p
      induction p generalizing xs with
      | nil=>intro q;cases (show xs=[] from q);exact .nil
      | cons h t ih=>
        rintro ⟨x,xs',rfl,q1,q2⟩
        exact .cons (DatN.rep rl h q1) (ih q2)
    exact ⟨a,us,v',ds,de,n,m,r1,rfl,e2,hn,both pd r,DatN.rep rl dv rv,k _ _ _ _ (TSt.refl _) rl (by rfl) z⟩
  · exact z.elim
theorem ae0 {X:Cx} (hu:X.A.units+128<cLine) {o e:Expr} {es:List Expr} {to:TE3} {tr:TA3} {apos cpos:Pos} (ho:QE X o to) (ha:QA X (e::es) tr) (h4:attributeBase o "count" X.env (eval o X.env)=eval o X.env:=by rfl)
    (h5:((backTo cpos (starEach (e::es) X.env)).all (fun x=>!x.1)&&(backToKw cpos (keywordEach [] X.env)).all (fun x=>x.1.isSome)&&decide ((e::es).length+([]:List Keyword).length+(if ([]:List Keyword).isEmpty=true then 0 else 1)<30))=true:=by rfl)
    (h6:(apos.endLine==cpos.line)=true:=by rfl) (h7:starEach (e::es) X.env=(false,eval e X.env)::starEach es X.env:=by rfl) (h8:(backTo cpos (starEach es X.env)).any (·.1)=false:=by rfl):
    QE X (.Call (.Attribute o "count" apos) (e::es) [] cpos) (yBL ad7 to tr):=ai7 PySem.F.slot_list_count PySem.F.type_list_count (axb hu) ho ha h4 h5 h6 h7 h8
theorem aqr {G:G3} {H:Hp} {kvs:List (Key×Y)} {xs:List (Key×V)} {k:Key} (p:Paired (fun (p:Key×Y) (q:Key×V)=>p.1=q.1∧RV G H p.2 q.2) kvs xs) (h:v9 kvs k=none):acq xs k=none:=by
  induction p with
  | nil=>rfl
  | @cons a b _ _ r t ih=>
    obtain ⟨e,_⟩:=r
    unfold v9 at h
    rw [List.find?_cons] at h
    by_cases c:a.1=k
    · rw [decide_eq_true c] at h;cases h
    · rw [decide_eq_false c] at h
      rw [adl (fun z=>c (e.trans z))]
      exact ih h
def ao1 (td ti tx:TE3) (τ:St3) (L:LHp) (Q:YK):Prop:=td τ L fun x L1=>match x with
  | .ref a=>aky L1 a fun _=>ti τ L1 fun y L2=>tx τ L2 fun z L3=>match ay4 y with
    | some k=>aky L3 a fun kvs=>Q ((v9 kvs k).getD z) L3
    | none=>False
  | _=>False
theorem ann {X:Cx} {o e f:Expr} {td ti tx:TE3} {apos cpos:Pos} (hu:X.A.units+128<cLine) (ho:QE X o td) (hi:QE X e ti) (hf:QE X f tx) (m:M2 X o "get" apos e f cpos:=by exact ⟨rfl,rfl,rfl,rfl⟩):QE X (.Call (.Attribute o "get" apos) [e,f] [] cpos) (ao1 td ti tx):=PE.imp (atp (by omega) ho hi hf m) fun σ H Q ⟨τ,L,Q3,rs,rl,z,k⟩=>
  ⟨τ,L,_,rs,rl,z,fun v H1 x L1 t1 rl1 rv1 z1=>by
    split at z1
    · rename_i a
      obtain ⟨kvs0,e0,z1⟩:=abo z1
      obtain ⟨xs0,e02,_⟩:=rl1 a _ e0
      refine ⟨a,rv1,.inl ⟨xs0,.inl e02⟩,τ,L1,_,rs.ts t1,rl1,z1,fun w H2 y L2 t2 rl2 rv2 z2=>⟨τ,L2,_,rs.ts (t1.trans t2),rl2,z2,fun u H3 yz L3 t3 rl3 rv3 z3=>?_⟩⟩
      split at z3
      · rename_i kk ek
        obtain ⟨kvs,e,z3⟩:=abo z3
        obtain ⟨xs,e2,pr⟩:=rl3 a _ e
        have rk:=ahp ek rv2
        cases ev:v9 kvs kk with
        | none=>
          rw [ev] at z3
          exact ⟨none,.inl ⟨xs,kk,.inl e2,rk,(aqr pr ev).symm⟩,k _ H3 _ L3 ((t1.trans t2).trans t3) rl3 rv3 z3⟩
        | some yv=>
          rw [ev] at z3
          obtain ⟨xv,ex,rx⟩:=af6 pr ev
          exact ⟨some xv,.inl ⟨xs,kk,.inl e2,rk,ex.symm⟩,k _ H3 _ L3 ((t1.trans t2).trans t3) rl3 rx z3⟩
      · exact z3.elim
    · exact z1.elim⟩
end L3
namespace L2
open PySem PySem.Spec PyProof.Rows
section
variable {X:Cx}
def a4z:List V→Hp→VK→Prop:=fun xs H Q=>∃ n:Int,xs=[.int n]∧∀ p,H p=none→Q (.ref p) (upd H p (.rng 0 n))
theorem at8:CallR X (.type "range") a4z:=by
  intro pins s σ H xs us Q I r h
  obtain ⟨n,rfl,q⟩:=h
  obtain ⟨u,rfl,ru⟩:=r.one
  obtain ⟨t,rfl⟩:=(show ∃ t,u=Value.int n t from ru)
  refine call_range_1 ?_
  refine ⟨.ref s.heap.objs.size,_,I.laid (t':=s.toks+1+1) (o:=.rng 0 n) (fun b ob q=>Heap.get?_push_of_some _ q) (Nat.le_refl _) ?_,rfl,q _ (I.hok.fresh (Nat.le_refl _))⟩
  exact ⟨s.toks,t,s.toks+1,Heap.get?_push_size _ rfl⟩
theorem aoe {n:Nat} {acc:Array Value} (h:ItemsOf (fun i v=>∃ t,v=.int (0+(i:Int)*1) t) acc n):Vals ((List.range n).map fun i:Nat=>V.int (0+(i:Int))) acc.toList:=by
  have len:acc.toList.length=n:=by rw [Array.length_toList];exact h.1
  have key:∀ (l:List Value) (k:Nat),(∀ (j:Nat) v,l[j]?=some v→∃ t,v=Value.int (0+((k+j:Nat):Int)*1) t)→Vals ((List.range' k l.length).map fun i:Nat=>V.int (0+(i:Int))) l:=by
    intro l
    induction l with
    | nil=>intro k _;exact .nil
    | cons v r ih=>
      intro k hk
      rw [List.length_cons,List.range'_succ,List.map_cons]
      obtain ⟨t,e⟩:=hk 0 v rfl
      refine .cons ?_ (ih (k+1) fun j v' hj=>?_)
      · exact ⟨t,by rw [e];simp⟩
      · have:=hk (j+1) v' hj
        rw [show k+1+j=k+(j+1) by omega];exact this
  have:=key acc.toList 0 fun j v hj=>by
    rw [Nat.zero_add]
    exact h.2 j v (by simpa using hj)
  rw [len,← List.range_eq_range'] at this
  exact this
def a48:List V→Hp→VK→Prop:=fun xs H Q=>∃ a,∃ n:Nat,xs=[.ref a]∧H a=some (.rng 0 n)∧n≤100000∧∀ p,H p=none→Q (.ref p) (upd H p (.lst ((List.range n).map fun i:Nat=>V.int (0+(i:Int)))))
theorem ar6 (hc:X.calm=true):CallR X (.type "list") a48:=by
  intro pins s σ H xs us Q I r h
  obtain ⟨a,n,rfl,ha,hn,q⟩:=h
  obtain ⟨u,rfl,ru⟩:=r.one
  cases (show u=Value.ref a from ru)
  obtain ⟨t,u,v,e⟩:=I.hok a _ ha
  have hb:(100000:Nat)≤sizeLine:=by decide
  have rs:Builtin.Range.rangeSize 0 (n:Int) 1=((n:Nat):Int):=by rw [rangeSize_one];split<;>omega
  refine jn I.tk (call_list_range (I.ok.hd hc) (show IsRange s.heap a 0 (n:Int) 1 t u v from e) (small_one (by decide) (by decide) (by omega) (by omega)) rs (Nat.le_trans hn (by decide)) fun h' tk acc c hk hS hacc ht=>?_)
  refine ⟨.ref s.heap.objs.size,_,I.laid (t':=tk) (o:=.lst ((List.range n).map fun i:Nat=>V.int (0+(i:Int)))) hk (Nat.le_refl _) ?_,rfl,q _ (I.hok.fresh (Nat.le_refl _))⟩
  refine ⟨by rw [List.length_map,List.length_range];omega,acc.toList,c,aoe hacc,?_⟩
  rw [hS]
def a30:List V→Hp→VK→Prop:=fun xs H Q=>∃ b:Bool,xs=[.bl b]∧Q (.int (if b=true then 1 else 0)) H
theorem arm:CallR X (.type "int") a30:=by
  intro pins s σ H xs us Q I r h
  obtain ⟨b,rfl,q⟩:=h
  obtain ⟨u,rfl,ru⟩:=r.one
  cases (show u=Value.bool b from ru)
  exact call_int_bool ⟨.int _,_,I.tok (s.toks+1),⟨_,rfl⟩,q⟩
def a50 (K:PySem.W.Frag) (te ts:TE):TE:=fun σ H Q=>te σ H fun x H1=>ts σ H1 fun y H2=>y=.int (-1)∧∃ a xs,x=.ref a∧SqL K H2 a xs∧∀ p,H2 p=none→Q (.ref p) (upd H2 p (.lst xs.reverse))
theorem Vals.rev:∀ {xs:List V} {us:List Value},Vals xs us→Vals xs.reverse us.reverse
  | _,_,.nil=>.nil
  | _,_,.cons r t=>by rw [List.reverse_cons,List.reverse_cons];exact (Vals.rev t).append (.cons r .nil)
theorem azj {e st:Expr} {te ts:TE} {p2 pos:Pos} (he:PE X e te) (hst:PE X st ts):PE X (.Subscript e (.Slice none none (some st) p2) pos) (a50 X.K te ts):=by
  intro pins s σ H Q I h
  refine Subscript_ (thn (he pins s σ H _ I h) fun v s1 ⟨x,H1,I1,r1,q1⟩=>?_)
  refine wpAny_Slice ?_
  rw [evalPart_none,evalPart_some]
  refine wpAny_pure (wpAny_pure (thn (hst pins s1 σ H1 _ I1 q1) fun vs s3 ⟨y,H3,I3,pu,ey,a,xs,ex,hx,q3⟩=>?_))
  subst ey ex
  obtain ⟨t,rfl⟩:=(show ∃ t,vs=Value.int (-1) t from pu)
  cases (show v=Value.ref a from r1)
  have I4:Inv X pins σ H3 { s3 with heap:=s3.heap.push { cls:=.type "slice",data:=.fields #[.none,.none,.int (-1) t] } }:=I3.kept (t':=s3.toks) fun b ob q=>Heap.get?_push_of_some _ q
  obtain ⟨its,r,hl,hz⟩:=I4.list hx
  have hlen:=r.length
  refine tail_any (s:={ s3 with heap:=s3.heap.push { cls:=.type "slice",data:=.fields #[.none,.none,.int (-1) t] } }) (ops:=[.ref a,.ref s3.heap.objs.size]) hl.isList.typeIs slot_list_getitem.lookup ?_ (by with_unfolding_all rfl)
  refine wpAny_getItem_list_slice hl.isList (Heap.IsSliceOf.new ..) .none .none (.int _ _) (by simp) ?_ (by rw [List.size_toArray];omega)
  rw [PySem.W.krv_pick]
  refine ⟨.ref _,_,I4.laid (t':=s3.toks) (o:=.lst xs.reverse) (fun b ob q=>Heap.get?_push_of_some _ q) (Nat.le_refl _) ?_,rfl,q3 _ (I4.hok.fresh (Nat.le_refl _))⟩
  exact ⟨by rw [List.length_reverse];exact hz,_,0,r.rev,Heap.get?_push_size _ rfl⟩
end
end L2
namespace L3
open PySem L2
theorem a0y:bootBuiltins "range" = some (.type "range"):=by decide +kernel
def anq (te:TE3) (τ:St3) (L:LHp) (Q:YK):Prop:=te τ L fun y L1=>match y with
  | .int n=>(0≤n∧n≤100000)∧∀ p,L1 p=none→Q (.ref p) (qh L1 p (.lst (wt 0 n.toNat)))
  | _=>False
theorem axj {G:G3} {H:Hp} (n:Nat):RVs G H (wt 0 n) ((List.range n).map fun i:Nat=>V.int (0+(i:Int))):=by
  unfold wt
  generalize List.range n=l
  induction l with
  | nil=>rfl
  | cons k r ih=>exact ⟨_,_,rfl,rfl,ih⟩
theorem aor {X:Cx} {e:Expr} {te:TE3} {p p2 pos pos2:Pos} (hc:X.calm=true) (hg:Gl X "list") (hm:X.mg "list" = none) (hg2:Gl X "range") (hm2:X.mg "range" = none) (h:QE X e te)
    (h1:starEach [.Call (.Name "range" p2) [e] [] pos2] X.env=(false,eval (.Call (.Name "range" p2) [e] [] pos2) X.env)::starEach [] X.env:=by rfl) (h2:(backTo pos (starEach [] X.env)).any (·.1)=false:=by rfl)
    (h3:starEach [e] X.env=(false,eval e X.env)::starEach [] X.env:=by rfl) (h4:(backTo pos2 (starEach [] X.env)).any (·.1)=false:=by rfl):
    QE X (.Call (.Name "list" p) [.Call (.Name "range" p2) [e] [] pos2] [] pos) (anq te):=
  PE.imp (afb (ar6 hc) hg hm ags (aac (afb at8 hg2 hm2 a0y (aac h af2 h3) (by decide) (by decide) h3 h4) af2 h1) (by decide) (by decide) h1 h2) fun σ H Q ⟨τ,L,Q3,rs,rl,z,k⟩=>
  ⟨τ,L,_,rs,rl,z,fun v H1 y L1 t1 rl1 rv1 z1=>by
    cases y with
    | int n=>
      obtain ⟨⟨h0,h5⟩,z1⟩:=z1
      cases (show v=V.int n from rv1)
      obtain ⟨m,rfl⟩:∃ m:Nat,n=(m:Int):=⟨n.toNat,by omega⟩
      refine ⟨_,rfl,fun q hq=>⟨q,m,rfl,zx,by omega,fun p hp=>?_⟩⟩
      have hp1:H1 p=none:=by
        by_cases c:p=q
        · subst c;exact hq
        · rw [qt c] at hp;exact hp
      exact k _ _ _ _ (t1.trans ((TSt.new hq).trans (TSt.new hp))) ((rl1.skip hq).newL hp (axj m)) (by rfl) (z1 p (rl1.none hp1))
    | _=>exact z1.elim⟩
def ata (xs:List Y) (L:LHp) (Q:YK):Prop:=match xs with
  | [.bl b]=>Q (.int (if b=true then 1 else 0)) L
  | _=>False
theorem a2a {X:Cx}:CallR X (.type "int") (upL X.g3 ata):=CallR.imp arm fun xs H Q ⟨ys,L,Q3,rv,rl,z,k⟩=>by
  unfold ata at z
  split at z
  · rename_i b
    obtain ⟨u,rfl,ru⟩:=rv.inv1
    cases (show u=V.bl b from ru)
    exact ⟨b,rfl,k _ _ _ _ (TSt.refl _) rl (by rfl) z⟩
  · exact z.elim
def a2z (te ts:TE3) (τ:St3) (L:LHp) (Q:YK):Prop:=te τ L fun x L1=>match x with
  | .ref a=>ts τ L1 fun y L2=>match y with
    | .int i=>i = -1∧abl L2 a fun ys=>∀ p,L2 p=none→Q (.ref p) (qh L2 p (.lst ys.reverse))
    | _=>False
  | _=>False
theorem azh {X:Cx} {e st:Expr} {te ts:TE3} {p2 pos:Pos} (he:QE X e te) (hst:QE X st ts):QE X (.Subscript e (.Slice none none (some st) p2) pos) (a2z te ts):=PE.imp (azj he hst) fun σ H Q ⟨τ,L,Q3,rs,rl,z,k⟩=>
  ⟨τ,L,_,rs,rl,z,fun v H1 x L1 t1 rl1 rv1 z1=>by
    cases x with
    | ref a=>
      refine ⟨τ,L1,_,rs.ts t1,rl1,z1,fun w H2 y L2 t2 rl2 rv2 z2=>?_⟩
      cases y with
      | int i=>
        obtain ⟨rfl,z2⟩:=z2
        obtain ⟨ys,e,z3⟩:=jx z2
        obtain ⟨xs,e2,r⟩:=rl2 a _ e
        exact ⟨rv2,a,xs,rv1,SqL.of e2,fun p hp=>k _ _ _ _ ((t1.trans t2).trans (TSt.new hp)) (rl2.newL hp r.rev) (by rfl) (z3 p (rl2.none hp))⟩
      | _=>exact z2.elim
    | _=>exact z1.elim⟩
def ag5 (C:Addr) (m:Str) (sp:Sp3) (to:TE3) (t:TA3) (τ:St3) (L:LHp) (Q:YK):Prop:=to τ L fun x L1=>match x with
  | .ref a=>aoz L1 a fun C' fs=>C'=C∧fs.lookup m=none∧t τ L1 fun ys L2=>sp (.ref a::ys) L2 Q
  | _=>False
section
variable {X:Cx} {o e:Expr} {es:List Expr} {to:TE3} {tr:TA3} {pos apos:Pos} {m:Str} {C g:Addr}
theorem ay8 {pl:Sem Bool} {k:Nat} {fd:FuncData} {ps:List Str} {sp:Sp3} (ho:QE X o to) (c:Cls X.K C) (hm:Meth X.K C m g) (F:Fn3 X.prog X.w X.K X.mg X.base k g fd ps sp) (hr:Room k X.A) (hb:Binds X.K fd ps []) (ha:QA X (e::es) tr)
    (hst:starEach (e::es) X.env=(false,eval e X.env)::starEach es X.env:=by rfl) (hpl:(backTo pos (starEach es X.env)).any (·.1)=false:=by rfl)
    (ht:eval (.Call (.Attribute o m apos) (e::es) [] pos) X.env=(do
      let ov ← eval o X.env
      standAt apos.atName
      let (f,first) ← holding [ov] (getMethod ov m pl)
      callWith pos f first (backTo pos (starEach (e::es) X.env)) (backToKw pos (keywordEach [] X.env))):=by rfl):
    QE X (.Call (.Attribute o m apos) (e::es) [] pos) (ag5 C m sp to tr):=PE.imp (axy (pl:=pl) ho c hm F hr hb .nil av9 ha hst hpl ht) fun σ H Q ⟨τ,L,Q3,rs,rl,z,k⟩=>
  ⟨τ,L,_,rs,rl,z,fun v H1 y L1 t1 rl1 rv1 z1=>by
    split at z1
    · rename_i a
      obtain ⟨C',fs,e,ec,n,q⟩:=ahg z1
      subst ec
      obtain ⟨dx,xs,e2,pr⟩:=rl1 a _ e
      cases (show v=V.ref a from rv1)
      exact ⟨a,dx,xs,rfl,e2,avl pr n,τ,L1,_,rs.ts t1,rl1,q,fun vs H2 ys L2 t2 rl2 rv2 z2=>⟨.ref a::ys,L2,Q3,⟨.ref a,vs++[],rfl,rfl,by rw [List.append_nil];exact rv2⟩,rl2,z2,k.ts (t1.trans t2)⟩⟩
    · exact z1.elim⟩
theorem ary {pl:Sem Bool} {k:Nat} {ps:List Str} {sp:Sp3} (cm:CalM X.prog X.w X.K X.mg X.base k C m ps sp) (hr:Room k X.A) (c:Cls X.K C) (ho:QE X o to) (ha:QA X (e::es) tr)
    (hst:starEach (e::es) X.env=(false,eval e X.env)::starEach es X.env:=by rfl) (hpl:(backTo pos (starEach es X.env)).any (·.1)=false:=by rfl)
    (ht:eval (.Call (.Attribute o m apos) (e::es) [] pos) X.env=(do
      let ov ← eval o X.env
      standAt apos.atName
      let (f,first) ← holding [ov] (getMethod ov m pl)
      callWith pos f first (backTo pos (starEach (e::es) X.env)) (backToKw pos (keywordEach [] X.env))):=by rfl):
    QE X (.Call (.Attribute o m apos) (e::es) [] pos) (ag5 C m sp to tr):=by
  obtain ⟨g,fd,M,F,b⟩:=cm.ex
  exact ay8 (pl:=pl) ho c M F hr b ha hst hpl ht
end
end L3
namespace TS
open PySem PyProof.Rows
section
variable {prog:Program} {w:World} {A:Around} {E:Value→Shared→Prop} {s:Shared}
structure Ord (prog:Program) (w:World) (A:Around) (s:Shared) (κ:SortKind) (Ok:Keyed→Prop) (f:Keyed→Int):Prop where
  lt:∀ x y,Ok x→Ok y→∀ {E:Value→Shared→Prop} {Q:Bool→Shared→Prop},Q (decide (f x<f y)) s→wpAny (model prog w) A (keyLt' κ x.1 y.1) Q E s
variable {κ:SortKind} {Ok:Keyed→Prop} {f:Keyed→Int}
theorem w_lt (O:Ord prog w A s κ Ok f) {st:SortSt} {x y:Keyed} {Q:Option Bool→SortSt→Prop} (hk:kindOf st=κ) (hx:Ok x) (hy:Ok y) (h:Q (some (decide (f x<f y))) st):wpS (model prog w) A E s (lt' x y) Q st:=by
  rw [lt'_eq]
  refine wpS_bind (wpS_get ?_)
  rw [hk]
  refine wpS_bind (wpS_lift (wpAny_attempt (O.lt x y hx hy ⟨rfl,?_⟩)))
  exact wpS_pure h
theorem au3 {arr:Array Keyed} {i:Nat} {x:Keyed} {st:SortSt} {Q:Keyed→SortSt→Prop} (h:arr[i]?=some x) (q:Q x st):wpS (model prog w) A E s (elem' arr i) Q st:=by
  rw [elem'_eq,h];exact wpS_pure q
end
end TS
namespace TS
open PySem PyProof.Rows
section
variable {f:Keyed→Int} {a b out:Array Keyed} {ia ib:Nat}
end
section
variable {prog:Program} {w:World} {A:Around} {E:Value→Shared→Prop} {s:Shared} {κ:SortKind} {Ok:Keyed→Prop} {f:Keyed→Int}
end
end TS
namespace TS
open PySem PyProof.Rows
theorem a3d (l:List Keyed) {i k:Nat} (h:i≤k):l.take i++(l.drop i).take (k - i)=l.take k:=by
  have:=List.take_add (l:=l) (i:=i) (j:=k - i)
  rw [show i+(k - i)=k by omega] at this
  exact this.symm
section
variable {f:Keyed→Int} {a b out:Array Keyed} {na nb:Nat}
end
end TS
namespace TS
open PySem PyProof.Rows
section
variable {prog:Program} {w:World} {A:Around} {E:Value→Shared→Prop} {s:Shared} {κ:SortKind} {Ok:Keyed→Prop} {f:Keyed→Int}
end
end TS
namespace TS
open PySem PyProof.Rows
section
variable {prog:Program} {w:World} {A:Around} {E:Value→Shared→Prop} {s:Shared} {κ:SortKind} {Ok:Keyed→Prop} {f:Keyed→Int}
theorem a4r {l:List Keyed} (s:l.Pairwise fun x y=>f x≤f y) {i j:Nat} (hij:i≤j) (hj:j<l.length):f (l[i]'(by omega))≤f l[j]:=by
  rcases Nat.lt_or_eq_of_le hij with h | h
  · exact List.pairwise_iff_getElem.mp s i j (by omega) hj h
  · subst h;exact Int.le_refl _
end
end TS
namespace TS
open PySem PyProof.Rows
theorem ama {α:Type} {arr:Array α} {P R:List α} {n:Nat} (h:arr.toList=P++R) (hn:n≤R.length):(mirror arr P.length (P.length+n) ((P.length+n - P.length) / 2)).toList=P++((R.take n).reverse++R.drop n):=by
  have hs:arr.size=P.length+R.length:=by rw [← Array.length_toList,h];simp
  refine List.ext_getElem? fun k=>?_
  rw [Array.getElem?_toList,getElem?_mirror_all (by omega)]
  by_cases c:P.length≤k∧k<P.length+n
  · rw [if_pos c,← Array.getElem?_toList,h,List.getElem?_append_right (by omega),List.getElem?_append_right (by omega),List.getElem?_append_left (by simp;omega),List.getElem?_reverse (by simp;omega),List.getElem?_take,List.length_take,if_pos (by omega)]
    congr 1;omega
  · rw [if_neg c,← Array.getElem?_toList,h]
    by_cases c2:k<P.length
    · rw [List.getElem?_append_left c2,List.getElem?_append_left c2]
    · rw [List.getElem?_append_right (by omega),List.getElem?_append_right (by omega),List.getElem?_append_right (by simp;omega),List.getElem?_drop]
      congr 1;simp;omega
theorem ans {α:Type} {arr:Array α} {P R:List α} {k l:Nat} (h:arr.toList=P++R) (hk:k<R.length) (hl:l≤k):(bubble arr (P.length+k) (P.length+k - (P.length+l))).toList=P++(R.take l++R[k]::((R.drop l).take (k - l)++R.drop (k+1))):=by
  have hs:arr.size=P.length+R.length:=by rw [← Array.length_toList,h];simp
  refine List.ext_getElem? fun i=>?_
  rw [Array.getElem?_toList,getElem?_bubble (by omega) _ (by omega),show P.length+k - (P.length+k - (P.length+l))=P.length+l by omega]
  by_cases c1:i=P.length+l
  · rw [if_pos c1,← Array.getElem?_toList,h,c1,List.getElem?_append_right (by omega),List.getElem?_append_right (by omega),List.getElem?_append_right (by simp;omega)]
    rw [show P.length+l - P.length - (R.take l).length=0 by simp;omega,show P.length+k - P.length=k by omega,List.getElem?_cons_zero]
    simp [hk]
  · rw [if_neg c1]
    by_cases c2:P.length+l<i∧i≤P.length+k
    · rw [if_pos c2,← Array.getElem?_toList,h,List.getElem?_append_right (by omega),List.getElem?_append_right (by omega),List.getElem?_append_right (by simp;omega)]
      obtain ⟨d,hd⟩:∃ d,i=P.length+l+d+1:=⟨i - P.length - l - 1,by omega⟩
      rw [show i - P.length - (R.take l).length=d+1 by simp;omega,List.getElem?_cons_succ,List.getElem?_append_left (by simp;omega),List.getElem?_take,if_pos (by omega),List.getElem?_drop]
      congr 1;omega
    · rw [if_neg c2,← Array.getElem?_toList,h]
      by_cases c3:i<P.length
      · rw [List.getElem?_append_left c3,List.getElem?_append_left c3]
      · rw [List.getElem?_append_right (by omega),List.getElem?_append_right (by omega)]
        by_cases c4:i<P.length+l
        · rw [List.getElem?_append_left (by simp;omega),List.getElem?_take,if_pos (by omega)]
        · obtain ⟨d,hd⟩:∃ d,i=P.length+k+d+1:=⟨i - P.length - k - 1,by omega⟩
          rw [List.getElem?_append_right (by simp;omega),show i - P.length - (R.take l).length=(k - l)+d+1 by simp;omega,List.getElem?_cons_succ,List.getElem?_append_right (by simp;omega),List.getElem?_drop]
          congr 1;simp;omega
section
variable {prog:Program} {w:World} {A:Around} {E:Value→Shared→Prop} {s:Shared} {κ:SortKind} {Ok:Keyed→Prop} {f:Keyed→Int}
structure Tl (κ:SortKind) (Ok:Keyed→Prop) (st:SortSt) (P R:List Keyed):Prop where
  kind:kindOf st=κ
  arr:(arrOf st).toList=P++R
  ok:∀ x∈R,Ok x
theorem aes (O:Ord prog w A s κ Ok f) {st:SortSt} {P R:List Keyed} (T:Tl κ Ok st P R) {i j:Nat} (hi:i<R.length) (hj:j<R.length) {a b:Nat} (ea:a=P.length+i) (eb:b=P.length+j) {Q:Option Bool→SortSt→Prop} (q:Q (some (decide (f R[i]<f R[j]))) st):wpS (model prog w) A E s (ltAt' a b) Q st:=by
  have at_:∀ i (hi:i<R.length),(arrOf st)[P.length+i]?=some R[i]:=fun i hi=>by rw [← Array.getElem?_toList,T.arr,List.getElem?_append_right (by omega),Nat.add_sub_cancel_left];simp
  subst ea eb
  rw [ltAt'_eq]
  refine wpS_bind (wpS_get ?_)
  refine wpS_bind (au3 (at_ i hi) (wpS_bind (au3 (at_ j hj) ?_)))
  exact w_lt O T.kind (T.ok _ (List.getElem_mem _)) (T.ok _ (List.getElem_mem _)) q
def Up (f:Keyed→Int) (R:List Keyed) (n:Nat):Prop:=∀ i j (_:i≤j) (_:j<R.length),j<n→f (R[i]'(by omega))≤f R[j]
theorem Up.snoc {R:List Keyed} {n:Nat} (h:Up f R n) (h1:1≤n) (hn:n<R.length) (hs:f (R[n - 1]'(by omega))≤f R[n]):Up f R (n+1):=fun i j hij hj hjn=>by
  rcases Nat.lt_or_ge j n with c | c
  · exact h i j hij hj c
  · have e:j=n:=by omega
    subst e
    rcases Nat.lt_or_ge i j with c2 | c2
    · exact Int.le_trans (h i (j - 1) (by omega) (by omega) (by omega)) hs
    · have e:i=j:=by omega
      subst e;exact Int.le_refl _
theorem Up.pair {R:List Keyed} {n:Nat} (h:Up f R n) (hn:n≤R.length):(R.take n).Pairwise fun x y=>f x≤f y:=by
  rw [List.pairwise_iff_getElem]
  intro i j hi hj hij
  rw [List.length_take] at hi hj
  rw [List.getElem_take,List.getElem_take]
  exact h i j (by omega) (by omega) (by omega)
end
end TS
namespace TS
open PySem PyProof.Rows
section
variable {prog:Program} {w:World} {A:Around} {E:Value→Shared→Prop} {s:Shared} {κ:SortKind} {Ok:Keyed→Prop} {f:Keyed→Int}
theorem Tl.same {st:SortSt} {P R R':List Keyed} (T:Tl κ Ok st P R) (p:R'.Perm R) {arr:Array Keyed} (h:arr.toList=P++R'):Tl κ Ok (setArr st arr) P R':=⟨T.kind,h,fun x hx=>T.ok x (p.mem_iff.mp hx)⟩
theorem Up.one {R:List Keyed}:Up f R 1:=fun i j hij hj h=>by
  have:i=j:=by omega
  subst this;exact Int.le_refl _
theorem avy (O:Ord prog w A s κ Ok f) {st:SortSt} {P R:List Keyed} (T:Tl κ Ok st P R) (h1:1≤R.length) (inj:∀ i j (_:i<j) (_:j<R.length),f (R[i]'(by omega))≠f R[j]) {Q:Option Nat→SortSt→Prop}
    (q:∀ n R' arr,1≤n→n≤R.length→R'.Perm R→arr.toList=P++R'→Up f R' n→Q (some n) (setArr st arr)):wpS (model prog w) A E s (countRun' P.length R.length) Q st:=by
  have hst:setArr st (arrOf st)=st:=rfl
  refine wpS_bind (wpS_mono (wpS_forRange (I:=fun x c st'=>st'=st∧c=(none,x)∧Up f R x)
    (Q:=fun c st'=>st'=st∧∃ n,c=(none,n)∧1≤n∧n≤R.length∧Up f R n∧(n=R.length∨∃ h:n<R.length,f R[n]<f (R[n - 1]'(by omega)))) ?_ ?_ ⟨rfl,rfl,Up.one⟩) ?_)
  · rintro x c st' hx1 hx ⟨rfl,rfl,U⟩
    dsimp only
    refine wpS_bind (aes O T (i:=x) (j:=x - 1) hx (by omega) rfl (by omega) ?_)
    dsimp only
    by_cases c:f R[x]<f (R[x - 1]'(by omega))
    · rw [decide_eq_true c,if_pos rfl]
      exact wpS_pure ⟨rfl,x,rfl,hx1,by omega,U,.inr ⟨hx,c⟩⟩
    · rw [decide_eq_false c,if_neg (by simp)]
      exact wpS_pure ⟨rfl,rfl,U.snoc hx1 hx (by omega)⟩
  · rintro c st' ⟨rfl,rfl,U⟩
    exact ⟨rfl,_,rfl,by omega,by omega,by rw [Nat.max_eq_right h1] at *;exact U,.inl (by omega)⟩
  · rintro c st' ⟨rfl,n,rfl,hn1,hn2,U,hend⟩
    dsimp only
    by_cases c1:(n==R.length)=true
    · rw [if_pos c1]
      exact wpS_pure (q n R (arrOf st') hn1 hn2 (List.Perm.refl _) T.arr U)
    rw [if_neg c1]
    have c1:¬ n=R.length:=by simpa using c1
    have hnl:n<R.length:=by omega
    by_cases c2:n > 1
    · rw [if_pos c2]
      refine wpS_bind (aes O T (i:=0) (j:=n - 1) (by omega) (by omega) rfl (by omega) ?_)
      have:f R[0]<f (R[n - 1]'(by omega)):=by
        have h3:=U 0 (n - 1) (by omega) (by omega) (by omega)
        have h4:=inj 0 (n - 1) (by omega) (by omega)
        omega
      dsimp only
      rw [decide_eq_true this,if_pos rfl]
      exact wpS_pure (q n R (arrOf st') hn1 hn2 (List.Perm.refl _) T.arr U)
    rw [if_neg c2]
    obtain rfl:n=1:=by omega
    refine wpS_bind (wpS_lift (wpAny_rule ⟨rfl,?_⟩))
    have hd:f R[1]<f R[0]:=by
      rcases hend with h | ⟨h,h'⟩
      · omega
      · exact h'
    refine wpS_bind (wpS_mono (wpS_forRange (I:=fun x c st''=>st''=st'∧c=(none,x,0)∧∀ i j (_:i≤j) (_:j<R.length),j<x→f R[j]≤f (R[i]'(by omega)))
      (Q:=fun c st''=>st''=st'∧∃ n,c=(none,n,0)∧2≤n∧n≤R.length∧∀ i j (_:i≤j) (_:j<R.length),j<n→f R[j]≤f (R[i]'(by omega))) ?_ ?_ ⟨rfl,rfl,?_⟩) ?_)
    · rintro x c st'' hx1 hx ⟨rfl,rfl,D⟩
      dsimp only
      refine wpS_bind (aes O T (i:=x) (j:=x - 1) hx (by omega) rfl (by omega) ?_)
      dsimp only
      by_cases c:f R[x]<f (R[x - 1]'(by omega))
      · rw [decide_eq_true c,if_pos rfl,if_neg (by simp)]
        refine wpS_pure ⟨rfl,rfl,fun i j hij hj hjx=>?_⟩
        rcases Nat.lt_or_ge j x with h | h
        · exact D i j hij hj h
        · have e:j=x:=by omega
          subst e
          rcases Nat.lt_or_ge i j with h2 | h2
          · exact Int.le_trans (Int.le_of_lt c) (D i (j - 1) (by omega) (by omega) (by omega))
          · have e:i=j:=by omega
            subst e;exact Int.le_refl _
      · rw [decide_eq_false c,if_neg (by simp)]
        refine wpS_bind (aes O T (i:=x - 1) (j:=x) (by omega) hx (by omega) rfl ?_)
        have h4:=inj (x - 1) x (by omega) hx
        have:f (R[x - 1]'(by omega))<f R[x]:=by omega
        dsimp only
        rw [decide_eq_true this,if_pos rfl]
        exact wpS_pure ⟨rfl,x,rfl,by omega,by omega,D⟩
    · rintro c st'' ⟨rfl,rfl,D⟩
      exact ⟨rfl,_,rfl,by omega,by omega,D⟩
    · intro i j hij hj hjx
      have:j=0∨j=1:=by omega
      rcases this with rfl | rfl
      · have:i=0:=by omega
        subst this;exact Int.le_refl _
      · have:i=0∨i=1:=by omega
        rcases this with rfl | rfl
        · exact Int.le_of_lt hd
        · exact Int.le_refl _
    · rintro c st'' ⟨rfl,n,rfl,g1,g2,D⟩
      dsimp only
      rw [if_neg (by simp)]
      have T':=T.same (R':=(R.take n).reverse++R.drop n) (((List.perm_append_right_iff _).mpr (List.reverse_perm _)).trans (by rw [List.take_append_drop])) (ama T.arr g2)
      obtain ⟨R',eR⟩:∃ R',R'=(R.take n).reverse++R.drop n:=⟨_,rfl⟩
      have pR:R'.Perm R:=by rw [eR];exact ((List.perm_append_right_iff _).mpr (List.reverse_perm _)).trans (by rw [List.take_append_drop])
      have lR:R'.length=R.length:=pR.length_eq
      have U':Up f R' n:=fun i j hij hj hjn=>by
        subst eR
        rw [List.getElem_append_left (by simp;omega),List.getElem_append_left (by simp;omega),List.getElem_reverse,List.getElem_reverse,List.getElem_take,List.getElem_take]
        refine D _ _ ?_ (by simp;omega) ?_
        · simp;omega
        · simp;omega
      rw [← eR] at T'
      refine wpS_bind (wpS_modify ?_)
      refine wpS_bind (wpS_mono (wpS_forRange (I:=fun x c sx=>sx=setArr st'' (mirror (arrOf st'') P.length (P.length+n) ((P.length+n - P.length) / 2))∧c=(none,x)∧Up f R' x)
        (Q:=fun c sx=>sx=setArr st'' (mirror (arrOf st'') P.length (P.length+n) ((P.length+n - P.length) / 2))∧∃ n,c=(none,n)∧1≤n∧n≤R.length∧Up f R' n) ?_ ?_ ⟨rfl,rfl,U'⟩) ?_)
      · rintro x c sx hx1 hx ⟨rfl,rfl,U⟩
        dsimp only
        refine wpS_bind (aes O T' (i:=x) (j:=x - 1) (by omega) (by omega) rfl (by omega) ?_)
        dsimp only
        by_cases c:f (R'[x]'(by omega))<f (R'[x - 1]'(by omega))
        · rw [decide_eq_true c,if_pos rfl]
          exact wpS_pure ⟨rfl,x,rfl,by omega,by omega,U⟩
        · rw [decide_eq_false c,if_neg (by simp)]
          exact wpS_pure ⟨rfl,rfl,U.snoc (by omega) (by omega) (by omega)⟩
      · rintro c sx ⟨rfl,rfl,U⟩
        exact ⟨rfl,_,rfl,by omega,by omega,U⟩
      · rintro c sx ⟨rfl,n,rfl,k1,k2,U⟩
        exact wpS_pure (q n R' _ k1 k2 pR T'.arr U)
end
end TS
namespace TS
open PySem PyProof.Rows
section
variable {prog:Program} {w:World} {A:Around} {E:Value→Shared→Prop} {s:Shared} {κ:SortKind} {Ok:Keyed→Prop} {f:Keyed→Int}
theorem Up.of {R:List Keyed} {n:Nat} (h:(R.take n).Pairwise fun x y=>f x≤f y):Up f R n:=fun i j hij hj hjn=>by
  have:=a4r h (i:=i) (j:=j) hij (by simp;omega)
  rw [List.getElem_take,List.getElem_take] at this
  exact this
theorem atl {R:List Keyed} {k l:Nat} (hk:k<R.length) (hl:l≤k):(R.take l++R[k]::((R.drop l).take (k - l)++R.drop (k+1))).Perm R:=by
  have e:R=R.take l++((R.drop l).take (k - l)++(R[k]::R.drop (k+1))):=by
    rw [← List.append_assoc,a3d _ hl,← List.drop_eq_getElem_cons hk,List.take_append_drop]
  refine List.Perm.trans ?_ (List.Perm.of_eq e.symm)
  exact (List.perm_append_left_iff _).mpr List.perm_middle.symm
theorem a1u {R:List Keyed} {k l:Nat} (hk:k<R.length) (hl:l≤k) (U:Up f R k) (lo:∀ i (_:i<l),f (R[i]'(by omega))≤f R[k]) (hi:∀ i (_:i<k),l≤i→f R[k]≤f (R[i]'(by omega))):
    Up f (R.take l++R[k]::((R.drop l).take (k - l)++R.drop (k+1))) (k+1):=by
  apply Up.of
  have e:R.take l++R[k]::((R.drop l).take (k - l)++R.drop (k+1))=(R.take l++R[k]::(R.drop l).take (k - l))++R.drop (k+1):=by simp
  rw [e,List.take_left' (by simp;omega)]
  have ab:=U.pair (Nat.le_of_lt hk)
  rw [← a3d R hl] at ab
  have ab:=List.pairwise_append.mp ab
  have hB:∀ y∈(R.drop l).take (k - l),f R[k]≤f y:=fun y hy=>by
    obtain ⟨j,hj,rfl⟩:=List.getElem_of_mem hy
    rw [List.length_take,List.length_drop] at hj
    rw [List.getElem_take,List.getElem_drop]
    exact hi (l+j) (by omega) (by omega)
  have hA:∀ x∈R.take l,f x≤f R[k]:=fun x hx=>by
    obtain ⟨j,hj,rfl⟩:=List.getElem_of_mem hx
    rw [List.length_take] at hj
    rw [List.getElem_take]
    exact lo j (by omega)
  refine List.pairwise_append.mpr ⟨ab.1,List.pairwise_cons.mpr ⟨hB,ab.2.1⟩,fun x hx y hy=>?_⟩
  rcases List.mem_cons.mp hy with rfl | hy
  · exact hA x hx
  · exact ab.2.2 x hx y hy
theorem a2w (O:Ord prog w A s κ Ok f) {st:SortSt} {P R:List Keyed} (T:Tl κ Ok st P R) {n ok:Nat} (hn:n≤R.length) (h1:1≤ok) (ho:ok≤n) (U:Up f R ok) {Q:Bool→SortSt→Prop}
    (q:∀ R' arr,R'.Perm R→arr.toList=P++R'→Up f R' n→Q true (setArr st arr)):wpS (model prog w) A E s (binarySort' P.length n ok) Q st:=by
  have hst:setArr st (arrOf st)=st:=rfl
  refine wpS_bind (wpS_mono (wpS_forRange (I:=fun x c st'=>c=(none,())∧∃ R' arr,st'=setArr st arr∧R'.Perm R∧arr.toList=P++R'∧Up f R' x)
    (Q:=fun c st'=>c=(none,())∧∃ R' arr,st'=setArr st arr∧R'.Perm R∧arr.toList=P++R'∧Up f R' n) ?_ ?_ ⟨rfl,R,arrOf st,rfl,List.Perm.refl _,T.arr,by rw [Nat.max_eq_left h1];exact U⟩) ?_)
  · rintro x c st' hx1 hx ⟨rfl,R',arr,rfl,pR,eA,U'⟩
    have T':=T.same pR eA
    have lR:R'.length=R.length:=pR.length_eq
    have hxl:x<R'.length:=by omega
    dsimp only
    refine wpS_bind (wpS_mono (wpS_forRange (I:=fun y c st'=>st'=setArr st arr∧∃ l r,c=(none,l,r)∧l≤r∧r≤x∧r - l+y≤x∧(∀ i (_:i<l) (_:i<R'.length),f R'[i]≤f R'[x])∧(∀ i (_:i<x),r≤i→f R'[x]≤f (R'[i]'(by omega))))
      (Q:=fun c st'=>st'=setArr st arr∧∃ l,c=(none,l,l)∧l≤x∧(∀ i (_:i<l) (_:i<R'.length),f R'[i]≤f R'[x])∧(∀ i (_:i<x),l≤i→f R'[x]≤f (R'[i]'(by omega)))) ?_ ?_ ⟨rfl,0,x,rfl,Nat.zero_le _,Nat.le_refl _,by omega,fun i h=>by omega,fun i h h'=>by omega⟩) ?_)
    · rintro y c st' _ hy ⟨rfl,l,r,rfl,g1,g2,g3,g4,g5⟩
      dsimp only
      by_cases c:l≥r
      · rw [if_pos c]
        obtain rfl:l=r:=by omega
        exact wpS_pure ⟨rfl,l,rfl,g2,g4,g5⟩
      · rw [if_neg c]
        refine wpS_bind (aes O T' (i:=x) (j:=(l+r) / 2) hxl (by omega) rfl rfl ?_)
        dsimp only
        by_cases e:f R'[x]<f (R'[(l+r) / 2]'(by omega))
        · rw [decide_eq_true e,if_pos rfl]
          refine wpS_pure ⟨rfl,l,(l+r) / 2,rfl,by omega,by omega,by omega,g4,fun i h h'=>?_⟩
          exact Int.le_trans (Int.le_of_lt e) (U' _ _ h' (by omega) h)
        · rw [decide_eq_false e,if_neg (by simp)]
          refine wpS_pure ⟨rfl,(l+r) / 2+1,r,rfl,by omega,g2,by omega,fun i h h'=>?_,g5⟩
          exact Int.le_trans (U' i ((l+r) / 2) (by omega) (by omega) (by omega)) (by omega)
    · rintro c st' ⟨rfl,l,r,rfl,g1,g2,g3,g4,g5⟩
      obtain rfl:l=r:=by omega
      exact ⟨rfl,l,rfl,g2,g4,g5⟩
    · rintro c st' ⟨rfl,l,rfl,g2,g4,g5⟩
      dsimp only
      refine wpS_bind (wpS_modify ?_)
      exact wpS_pure ⟨rfl,_,_,rfl,(atl hxl g2).trans pR,ans eA hxl g2,a1u hxl g2 U' (fun i h=>g4 i h (by omega)) g5⟩
  · rintro c st' ⟨rfl,R',arr,rfl,pR,eA,U'⟩
    exact ⟨rfl,R',arr,rfl,pR,eA,by rw [Nat.max_eq_left h1,Nat.max_eq_right ho] at U';exact U'⟩
  · rintro c st' ⟨rfl,R',arr,rfl,pR,eA,U'⟩
    exact wpS_pure (q R' arr pR eA U')
end
end TS
namespace TS
open PySem PyProof.Rows
section
variable {prog:Program} {w:World} {A:Around} {E:Value→Shared→Prop} {s:Shared} {κ:SortKind} {Ok:Keyed→Prop} {f:Keyed→Int}
end
end TS
namespace TS
open PySem PyProof.Rows PySem.W
def a3g (h:Heap) (B:Int) (x:Keyed):Prop:=∃ a o n r p t u,x.1=.ref a∧h.get? a=some o∧o.data=.seq #[.int r t,.int p u] n∧0≤p∧p<B
noncomputable def num (h:Heap) (B:Int) (x:Keyed):Int:=match x.1 with
  | .ref a=>match h.get? a with
    | some o=>match o.data with
      | .seq xs _=>match xs.toList with
        | [.int r _,.int p _]=>r*B+p
        | _=>0
      | _=>0
    | none=>0
  | _=>0
theorem num_of {h:Heap} {B:Int} {x:Keyed} {a:Addr} {o:Obj} {n:Nat} {r p:Int} {t u:Tok} (e1:x.1=.ref a) (e2:h.get? a=some o) (e3:o.data=.seq #[.int r t,.int p u] n):num h B x=r*B+p:=by
  unfold num;simp [e1,e2,e3]
theorem ash {prog:Program} {w:World} {A:Around} {s:Shared} {B:Int}:Ord prog w A s (tuples' true) (a3g s.heap B) (num s.heap B):=by
  constructor
  rintro x y ⟨a1,o1,n1,r1,p1,t1,u1,e1,g1,d1,b1,c1⟩ ⟨a2,o2,n2,r2,p2,t2,u2,e2,g2,d2,b2,c2⟩ E Q h
  rw [num_of e1 g1 d1,num_of e2 g2 d2] at h
  rw [e1,e2]
  refine kat_lt g1 d1 g2 d2 ?_
  show KatLex prog w A true _ Q [(.int r1 t1,.int r2 t2),(.int p1 u1,.int p2 u2)] 0 s
  refine kat_cons (wpAny_eqBool_int ?_)
  by_cases c:r1=r2
  · subst c
    rw [beq_self_eq_true]
    refine kat_yes (kat_cons (wpAny_eqBool_int ?_))
    by_cases c':p1=p2
    · subst c'
      rw [beq_self_eq_true]
      refine kat_yes (kat_nil ?_)
      have e:decide (r1*B+p1<r1*B+p1)=false:=decide_eq_false (by omega)
      rw [e] at h
      exact h
    · rw [beq_false_of_ne c']
      refine kat_no (kat_one _ _ (PyProof.Rows.lt_int ?_))
      have e:decide (r1*B+p1<r1*B+p2)=decide (p1<p2):=by
        by_cases z:p1<p2
        · rw [decide_eq_true z];exact decide_eq_true (by omega)
        · rw [decide_eq_false z];exact decide_eq_false (by omega)
      rw [e] at h
      exact h
  · rw [beq_false_of_ne c]
    refine kat_no (oneLt_int ?_)
    have e:decide (r1*B+p1<r2*B+p2)=decide (r1<r2):=by
      by_cases z:r1<r2
      · rw [decide_eq_true z]
        have h5:(r1+1)*B≤r2*B:=Int.mul_le_mul_of_nonneg_right (by omega) (by omega)
        rw [Int.add_mul,Int.one_mul] at h5
        exact decide_eq_true (by omega)
      · rw [decide_eq_false z]
        have h5:(r2+1)*B≤r1*B:=Int.mul_le_mul_of_nonneg_right (by omega) (by omega)
        rw [Int.add_mul,Int.one_mul] at h5
        exact decide_eq_false (by omega)
    rw [e] at h
    exact h
end TS
namespace TS
open PySem PyProof.Rows PySem.W
section
variable {prog:Program} {w:World} {A:Around} {E:Value→Shared→Prop} {s:Shared}
def TupP (h:Heap) (B:Int) (v:Value):Prop:=∃ a o n r p t u,v=.ref a∧h.get? a=some o∧o.cls=.type "tuple" ∧ o.data=.seq #[.int r t,.int p u] n∧0≤p∧p<B
theorem TupP.pair {h:Heap} {B:Int} {x:Keyed} (k:TupP h B x.1):a3g h B x:=by
  obtain ⟨a,o,n,r,p,t,u,e1,e2,_,e3,e4,e5⟩:=k
  exact ⟨a,o,n,r,p,t,u,e1,e2,e3,e4,e5⟩
theorem tups {h:Heap} {B:Int}:∀ {ks:List Value},(∀ v∈ks,TupP h B v)→∃ fs,KatTups h ks fs∧fs.length=ks.length∧∀ v∈fs,∃ r t,v=Value.int r t
  | [],_=>⟨[],trivial,rfl,fun v hv=>by simp at hv⟩
  | k::ks,hk=>by
    obtain ⟨fs,h1,h2,h3⟩:=tups (ks:=ks) fun v hv=>hk v (List.mem_cons_of_mem _ hv)
    obtain ⟨a,o,n,r,p,t,u,rfl,e2,e3,e4,_,_⟩:=hk k (List.mem_cons_self ..)
    refine ⟨.int r t::fs,KatTups.cons e2 e3 e4 rfl h1,by simp [h2],fun v hv=>?_⟩
    rcases List.mem_cons.mp hv with rfl | hv
    · exact ⟨r,t,rfl⟩
    · exact h3 v hv
theorem azc {B:Int} {ks:List Value} {Q:SortKind→Shared→Prop} (hk:∀ v∈ks,TupP s.heap B v) (h0:0<ks.length) (q:Q (tuples' true) s):wpAny (model prog w) A (keyKind' ks.toArray) Q E s:=by
  obtain ⟨fs,h1,h2,h3⟩:=tups hk
  refine kat_kind (T:=.type "int") h1 (by omega) (fun v hv=>?_) (by decide) ?_
  · obtain ⟨r,t,rfl⟩:=h3 v hv
    exact .now
  · exact q
theorem aum {α:Type} {R:α→α→Prop}:∀ {l:List α},l.length<2→l.Pairwise R
  | [],_=>List.Pairwise.nil
  | [_],_=>List.pairwise_singleton _ _
  | _::_::_,h=>absurd h (by simp)
end
end TS
namespace TS
open PySem PyProof.Rows PySem.W
section
variable {prog:Program} {w:World} {A:Around} {E:Value→Shared→Prop} {s:Shared} {κ:SortKind} {Ok:Keyed→Prop} {f:Keyed→Int}
theorem aux {N:Nat} (h1:1≤N) (h:N<64):(sortPriv% PySem.Builtin.minRun) N N 0=N:=by
  obtain ⟨r,rfl⟩:∃ r,N=r+1:=⟨N - 1,by omega⟩
  show minRun' (r+1) (r+1) 0=r+1
  rw [minRun'_succ,if_pos h]
structure Srt (f:Keyed→Int) (l:List Keyed) (st:SortSt):Prop where
  fl:failedOf st=none
  pn:(pendingOf st).size≤1
  pm:(arrOf st).toList.Perm l
  pw:(arrOf st).toList.Pairwise fun x y=>f x≤f y
theorem auz (O:Ord prog w A s κ Ok f) {st:SortSt} {Q:Unit→SortSt→Prop} (h64:(arrOf st).size<64) (hk:kindOf st=κ) (hp:pendingOf st=#[]) (hf:failedOf st=none) (ok:∀ x∈(arrOf st).toList,Ok x) (inj:((arrOf st).toList.map f).Nodup)
    (q:∀ st',failedOf st'=none→(arrOf st').toList.Perm (arrOf st).toList→((arrOf st').toList.Pairwise fun x y=>f x≤f y)→Q () st'):wpS (model prog w) A E s sortRuns' Q st:=by
  refine wpS_bind (wpS_get ?_)
  dsimp only
  have lN:(arrOf st).toList.length=(arrOf st).size:=Array.length_toList
  obtain ⟨N,eN⟩:∃ N,N=(arrOf st).size:=⟨_,rfl⟩
  rw [← eN] at h64 lN ⊢
  obtain ⟨R,eR⟩:∃ R,R=(arrOf st).toList:=⟨_,rfl⟩
  rw [← eR] at lN ok inj q
  generalize hmr:(sortPriv% PySem.Builtin.minRun) N N 0=mr
  have inj':∀ i j (_:i<j) (_:j<R.length),f (R[i]'(by omega))≠f R[j]:=fun i j hij hj e=>by
    have h2:=List.pairwise_iff_getElem.mp inj i j (by simp;omega) (by simpa using hj) hij
    simp at h2
    exact h2 e
  refine wpS_bind (wpS_mono (wpS_forRange (I:=fun x c st'=>∃ lo,c=(none,lo)∧((x=0∧lo=0∧st'=st)∨(lo=N∧Srt f R st')))
    (Q:=fun c st'=>∃ lo,c=(none,lo)∧Srt f R st') ?_ ?_ ⟨0,rfl,.inl ⟨rfl,rfl,rfl⟩⟩) ?_)
  · rintro x c st' _ hx ⟨lo,rfl,h⟩
    dsimp only
    by_cases c:lo≥N
    · rw [if_pos c]
      rcases h with ⟨h1,h2,_⟩ | ⟨_,h⟩
      · omega
      · exact wpS_pure ⟨lo,rfl,h⟩
    rw [if_neg c]
    obtain ⟨rfl,rfl,rfl⟩:x=0∧lo=0∧st'=st:=by
      rcases h with h | ⟨h,_⟩
      · exact h
      · omega
    have em:mr=N:=by rw [← hmr];exact aux (by omega) h64
    subst em
    have T:Tl κ Ok st' [] R:=⟨hk,eR.symm,ok⟩
    rw [Nat.sub_zero,← lN]
    refine wpS_bind (avy O T (by omega) inj' fun n R1 arr1 g1 g2 pR1 eA1 U1=>?_)
    dsimp only
    have T1:=T.same pR1 eA1
    have l1:R1.length=R.length:=pR1.length_eq
    have fin:∀ (arr:Array Keyed) (R2:List Keyed) (n2:Nat),R2.Perm R→arr.toList=[]++R2→Up f R2 R.length→n2=R.length→∃ lo,((none,0+n2):Option Unit×Nat)=(none,lo)∧((0+1=0∧lo=0∧setPending (setArr st' arr) ((pendingOf (setArr st' arr)).push (0,n2,0))=st')∨(lo=R.length∧Srt f R (setPending (setArr st' arr) ((pendingOf (setArr st' arr)).push (0,n2,0))))):=fun arr R2 n2 p2 e2 U2 en=>by
      refine ⟨0+n2,rfl,.inr ⟨by omega,⟨hf,?_,?_,?_⟩⟩⟩
      · show ((pendingOf st').push (0,n2,0)).size≤1
        rw [hp];exact Nat.le_refl 1
      · show arr.toList.Perm R
        rw [e2];exact p2
      · show arr.toList.Pairwise _
        rw [e2]
        have:=U2.pair (by rw [p2.length_eq];exact Nat.le_refl _)
        rw [← p2.length_eq,List.take_length] at this
        exact this
    by_cases cm:n<R.length
    · rw [if_pos cm]
      refine wpS_bind (wpS_lift (wpAny_rule ⟨rfl,?_⟩))
      rw [Nat.min_self]
      refine wpS_bind (a2w O T1 (by omega) g1 (by omega) U1 fun R2 arr2 pR2 eA2 U2=>?_)
      rw [if_neg (by simp)]
      refine wpS_bind (wpS_get ?_)
      have eb:(pendingOf (setArr (setArr st' arr1) arr2)).back?=none:=by show (pendingOf st').back?=none;rw [hp];rfl
      rw [eb]
      exact wpS_bind (wpS_modify (wpS_pure (fin arr2 R2 _ (pR2.trans pR1) eA2 U2 rfl)))
    · rw [if_neg cm]
      refine wpS_bind (wpS_get ?_)
      have eb:(pendingOf (setArr st' arr1)).back?=none:=by show (pendingOf st').back?=none;rw [hp];rfl
      rw [eb]
      have en:n=R.length:=by omega
      exact wpS_bind (wpS_modify (wpS_pure (fin arr1 R1 _ pR1 eA1 (en▸U1) en)))
  · rintro c st' ⟨lo,rfl,h⟩
    refine ⟨lo,rfl,?_⟩
    rcases h with ⟨h1,h2,rfl⟩ | ⟨_,h⟩
    · have:R=[]:=List.eq_nil_of_length_eq_zero (by omega)
      refine ⟨hf,by rw [hp];exact Nat.zero_le _,by rw [← eR],?_⟩
      rw [← eR,this];exact List.Pairwise.nil
    · exact h
  · rintro c st' ⟨lo,rfl,h⟩
    dsimp only
    refine wpS_bind (wpS_mono (wpS_forRange (I:=fun y c st3=>c=(none,())∧Srt f R st3) (Q:=fun c st3=>c=(none,())∧Srt f R st3) ?_ ?_ ⟨rfl,h⟩) ?_)
    · rintro y c st3 _ hy ⟨rfl,h3⟩
      refine wpS_bind (wpS_get ?_)
      rw [if_pos h3.pn]
      exact wpS_pure ⟨rfl,h3⟩
    · rintro c st3 h3;exact h3
    · rintro c st3 ⟨rfl,h3⟩
      exact wpS_pure (q st3 h3.fl h3.pm h3.pw)
end
end TS
namespace TS
open PySem PyProof.Rows PySem.W
section
variable {prog:Program} {w:World} {A:Around} {E:Value→Shared→Prop} {s:Shared}
theorem TupP.ne {h:Heap} {B:Int} {v:Value} {a b:Addr} {xs:Array Value} {n:Nat} (k:TupP h B v) (e:v=.ref a) (hb:h.get? b=some (seqObj "list" xs n)):a≠b:=by
  obtain ⟨a',o,m,r,p,t,u,e1,e2,e3,_⟩:=k
  rw [e] at e1;cases e1
  rintro rfl
  rw [hb] at e2;cases e2
  have e3:Value.type "list" = Value.type "tuple" := e3
  injection e3 with e
  exact absurd e (by decide)
theorem TupP.keeps {h h':Heap} {B:Int} {v:Value} {b:Addr} {xs:Array Value} {n:Nat} (k:TupP h B v) (hb:h.get? b=some (seqObj "list" xs n)) (hk:∀ c o,c≠b→h.get? c=some o→h'.get? c=some o):TupP h' B v:=by
  have k0:=k
  obtain ⟨a,o,m,r,p,t,u,e1,e2,e3,e4,e5,e6⟩:=k
  exact ⟨a,o,m,r,p,t,u,e1,hk a o (k0.ne e1 hb) e2,e3,e4,e5,e6⟩
theorem aqs {h h':Heap} {B:Int} {x:Keyed} {b:Addr} {xs:Array Value} {n:Nat} (k:TupP h B x.1) (hb:h.get? b=some (seqObj "list" xs n)) (hk:∀ c o,c≠b→h.get? c=some o→h'.get? c=some o):num h' B x=num h B x:=by
  have k0:=k
  obtain ⟨a,o,m,r,p,t,u,e1,e2,e3,e4,e5,e6⟩:=k
  rw [num_of e1 e2 e4,num_of e1 (hk a o (k0.ne e1 hb) e2) e4]
theorem ab7 {vs:List Value} {x:Keyed} (h:x∈vs.zip vs):x.1∈vs∧x.1=x.2:=by
  induction vs with
  | nil=>simp at h
  | cons v r ih=>
    rw [List.zip_cons_cons] at h
    rcases List.mem_cons.mp h with rfl | h
    · exact ⟨List.mem_cons_self ..,rfl⟩
    · exact ⟨List.mem_cons_of_mem _ (ih h).1,(ih h).2⟩
theorem avu {a:Addr} {vs:List Value} {n:Nat} {B:Int} {P:PySem.Fin→Shared→Prop} (ho:s.heap.get? a=some (seqObj "list" vs.toArray n)) (hz:vs.length≤63) (hk:∀ v∈vs,TupP s.heap B v) (inj:((vs.zip vs).map (num s.heap B)).Nodup)
    (h:∀ h' tk (xs:List Keyed) c,(∀ b o,b≠a→s.heap.get? b=some o→h'.get? b=some o)→h'.get? a=some (seqObj "list" (List.toArray (xs.map (·.2))) c)→xs.Perm (vs.zip vs)→(xs.Pairwise fun x y=>num s.heap B x≤num s.heap B y)→P (.done (.ret .none)) { s with heap:=h',toks:=tk }):
    wpAny (model prog w) A (Builtin.«list.sort» ⟨[.ref a],[]⟩) P E s:=by
  have big:(63:Nat)+1≤sizeLine:=by rw [sizeLine_eq];omega
  have zl:(vs.toArray.zip vs.toArray).toList=vs.zip vs:=by simp
  have s1:=Heap.SameBut.update s.heap a (Obj.mapSeq fun _=>(#[]:Array Value))
  obtain ⟨e1,ho1⟩:∃ e1,(s.heap.update a (Obj.mapSeq fun _=>(#[]:Array Value))).get? a=some (seqObj "list" #[] e1):=⟨_,get?_update_seq ho fun _=>#[]⟩
  obtain ⟨hp3,ehp3⟩:∃ g,g=((s.heap.update a (Obj.mapSeq fun _=>(#[]:Array Value))).push (seqObj "tuple" vs.toArray 0)).push (seqObj "list" #[] 0):=⟨_,rfl⟩
  have k3:∀ b o,b≠a→s.heap.get? b=some o→hp3.get? b=some o:=fun b o hb e=>by
    rw [ehp3]
    exact Heap.get?_push_of_some _ (Heap.get?_push_of_some _ ((s1.2 b hb).trans e))
  have ha3:hp3.get? a=some (seqObj "list" #[] e1):=by
    rw [ehp3]
    exact Heap.get?_push_of_some _ (Heap.get?_push_of_some _ ho1)
  have hk3:∀ v∈vs,TupP hp3 B v:=fun v hv=>(hk v hv).keeps ho k3
  have nk:∀ x∈vs.zip vs,num hp3 B x=num s.heap B x:=fun x hx=>aqs (hk _ (ab7 hx).1) ho k3
  have inj3:((vs.zip vs).map (num hp3 B)).Nodup:=by
    rw [List.map_congr_left nk];exact inj
  have tail:∀ st:SortSt,failedOf st=none→(arrOf st).toList.Perm (vs.zip vs)→((arrOf st).toList.Pairwise fun x y=>num hp3 B x≤num hp3 B y)→
      ∀ tk,P (.done (.ret .none)) { s with heap:=hp3.update a (Obj.mapSeq fun _=>(arrOf st).map (·.2)),toks:=tk }:=by
    intro st hf hp hs tk
    have s2:=Heap.SameBut.update hp3 a (Obj.mapSeq fun _=>(arrOf st).map (·.2))
    obtain ⟨c2,hc2⟩:∃ c2,(hp3.update a (Obj.mapSeq fun _=>(arrOf st).map (·.2))).get? a=some (seqObj "list" ((arrOf st).map (·.2)) c2):=⟨_,get?_update_seq ha3 fun _=>(arrOf st).map (·.2)⟩
    have em:(arrOf st).map (·.2)=List.toArray ((arrOf st).toList.map (·.2)):=by
      apply Array.toList_inj.mp
      rw [Array.toList_map]
    refine h _ tk (arrOf st).toList c2 (fun b o hb e=>(s2.2 b hb).trans (k3 b o hb e)) ?_ hp ?_
    · rw [em] at hc2 ⊢;exact hc2
    · refine List.Pairwise.imp_of_mem (fun {x y} hx hy z=>?_) hs
      rw [nk x (hp.mem_iff.mp hx),nk y (hp.mem_iff.mp hy)] at z
      exact z
  have len:∀ st:SortSt,(arrOf st).toList.Perm (vs.zip vs)→((arrOf st).map (·.2)).size≤sizeLine+1:=fun st hp=>by
    have:=hp.length_eq
    rw [List.length_zip,Array.length_toList] at this
    rw [Array.size_map];omega
  rw [list_sort_plain]
  refine wpAny_bind (listItems_at ho rfl ?_)
  refine wpAny_bind (listUpdate_at ho rfl ?_ (by rw [List.size_toArray];omega) (Nat.zero_le _))
  refine wpAny_bind (seqEpoch_at ho1 rfl ?_)
  refine wpAny_bind (wpAny_newTuple ?_ (by show vs.length≤_;omega))
  refine wpAny_bind (wpAny_newList ?_ (Nat.zero_le _))
  refine wpAny_holding ?_
  show wpAny (model prog w) A _ P E { s with heap:=((s.heap.update a (Obj.mapSeq fun _=>(#[]:Array Value))).push (seqObj "tuple" vs.toArray 0)).push (seqObj "list" #[] 0) }
  rw [← ehp3]
  dsimp only
  by_cases h2:vs.toArray.size<2
  · rw [if_pos h2,if_pos h2]
    refine wpAny_bind (wpAny_pure ?_)
    rw [StateT.run_pure]
    refine wpAny_bind (wpAny_pure ?_)
    dsimp only
    refine wpAny_bind (seqEpoch_at ha3 rfl ?_)
    have pz:(arrOf (SortSt.mk' (tuples' true) (vs.toArray.zip vs.toArray) #[] 7 none)).toList.Perm (vs.zip vs):=by show (vs.toArray.zip vs.toArray).toList.Perm _;rw [zl]
    refine wpAny_bind (listUpdate_at ha3 rfl ?_ (Nat.zero_le _) (len _ pz))
    simp only [bne_self_eq_false,Bool.false_eq_true,if_false]
    refine wpAny_pure (tail (SortSt.mk' (tuples' true) (vs.toArray.zip vs.toArray) #[] 7 none) rfl pz ?_ _)
    show (vs.toArray.zip vs.toArray).toList.Pairwise _
    rw [zl]
    rw [List.size_toArray] at h2
    have:(vs.zip vs).length<2:=by rw [List.length_zip];omega
    exact aum this
  · rw [if_neg h2,if_neg h2]
    rw [List.size_toArray] at h2
    refine wpAny_bind (azc (s:={ s with heap:=hp3 }) hk3 (by omega) ?_)
    refine wpAny_bind (wpAny_mono (auz (E:=E) (ash (s:={ s with heap:=hp3 }) (B:=B)) (st:=SortSt.mk' (tuples' true) (vs.toArray.zip vs.toArray) #[] 7 none)
      (Q:=fun _ st'=>failedOf st'=none∧(arrOf st').toList.Perm (vs.zip vs)∧((arrOf st').toList.Pairwise fun x y=>num hp3 B x≤num hp3 B y)) (by show (vs.toArray.zip vs.toArray).size<64;simp;omega) rfl rfl rfl (fun x hx=>?_) ?_ fun st' b1 b2 b3=>⟨b1,?_,b3⟩) ?_ fun _ _ e=>e)
    · have hx:x∈(vs.toArray.zip vs.toArray).toList:=hx
      rw [zl] at hx
      exact TupP.pair (hk3 _ (ab7 hx).1)
    · show ((vs.toArray.zip vs.toArray).toList.map _).Nodup
      rw [zl];exact inj3
    · have b2:(arrOf st').toList.Perm (vs.toArray.zip vs.toArray).toList:=b2
      rw [zl] at b2;exact b2
    · rintro ⟨⟨⟩,st'⟩ s' ⟨rfl,b1,b2,b3⟩
      dsimp only
      refine wpAny_bind (seqEpoch_at ha3 rfl ?_)
      refine wpAny_bind (listUpdate_at ha3 rfl ?_ (Nat.zero_le _) (len _ b2))
      rw [b1]
      simp only [bne_self_eq_false,Bool.false_eq_true,if_false]
      exact wpAny_pure (tail st' b1 b2 b3 _)
theorem w_sorted {l:Addr} {vs:List Value} {B:Int} {Q:Value→Shared→Prop} (hl:s.heap.IsList l vs.toArray) (hz:vs.length≤63) (hk:∀ v∈vs,TupP s.heap B v) (inj:((vs.zip vs).map (num s.heap B)).Nodup)
    (h:∀ h' tk (xs:List Keyed) D c,s.heap.objs.size≤D→(∀ b o,s.heap.get? b=some o→h'.get? b=some o)→h'.get? D=some (seqObj "list" (List.toArray (xs.map (·.2))) c)→xs.Perm (vs.zip vs)→(xs.Pairwise fun x y=>num s.heap B x≤num s.heap B y)→Q (.ref D) { s with heap:=h',toks:=tk }):
    wpAny (model prog w) A (call (.builtin "sorted") [.ref l]) Q E s:=by
  have big:(63:Nat)+1≤sizeLine:=by rw [sizeLine_eq];omega
  refine Calls.call_function_entry kind_sorted plain_sorted entry_sorted (args_sorted1 _) ?_
  unfold Builtin.«sorted»
  refine wpAny_bind (m:=checkCount "sorted" 1 1 _) (wpAny_pure ?_)
  refine wpAny_bind (collect_list hl ?_ (by omega))
  refine wpAny_bind (wpAny_newList ?_ (by omega))
  obtain ⟨g,eg⟩:∃ g,g=(s.heap.push (seqObj "list" #[] 0)).update s.heap.objs.size (Obj.mapSeq (· ++ vs.toArray)):=⟨_,rfl⟩
  have gs:g.objs.size=s.heap.objs.size+1:=by rw [eg,Heap.size_update,size_push']
  have gk:∀ b o,s.heap.get? b=some o→g.get? b=some o:=fun b o q=>by
    have hlt:b<s.heap.objs.size:=Heap.lt_size q
    rw [eg,Heap.get?_update_ne _ _ _ _ (Nat.ne_of_lt hlt)]
    exact Heap.get?_push_of_some _ q
  show wpAny _ _ _ _ _ { s with heap:=((s.heap.push (seqObj "list" #[] 0)).update s.heap.objs.size (Obj.mapSeq (· ++ vs.toArray))).push (seqObj "list" vs.toArray 0) }
  rw [← eg]
  have hoD:(g.push (seqObj "list" vs.toArray 0)).get? g.objs.size=some (seqObj "list" vs.toArray 0):=Heap.get?_push_size _ rfl
  have keep:∀ b o,s.heap.get? b=some o→(g.push (seqObj "list" vs.toArray 0)).get? b=some o:=fun b o q=>Heap.get?_push_of_some _ (gk b o q)
  have kT:∀ v∈vs,TupP (g.push (seqObj "list" vs.toArray 0)) B v:=fun v hv=>by
    obtain ⟨a,o,m,r,p,t,u,e1,e2,r'⟩:=hk v hv
    exact ⟨a,o,m,r,p,t,u,e1,keep _ _ e2,r'⟩
  have nk:∀ x∈vs.zip vs,num (g.push (seqObj "list" vs.toArray 0)) B x=num s.heap B x:=fun x hx=>by
    obtain ⟨a,o,m,r,p,t,u,e1,e2,e3,e4,_⟩:=hk _ (ab7 hx).1
    rw [num_of e1 e2 e4,num_of e1 (keep _ _ e2) e4]
  refine wpAny_bind (wpAny_holding (wpAny_call_entry slot_list_sort ⟨_,hoD,rfl⟩ entry_list_sort ?body (args_list_sort _)))
  case body=>
    refine avu (s:={ s with heap:=g.push (seqObj "list" vs.toArray 0) }) hoD hz kT (by rw [List.map_congr_left nk];exact inj) fun h' tk xs c k1 hD pm pw=>?_
    refine ⟨_,rfl,wpAny_pure ⟨_,rfl,h h' tk xs g.objs.size c (by rw [gs];exact Nat.le_succ _) (fun b o q=>k1 b o ?_ (keep b o q)) hD pm ?_⟩⟩
    · have hlt:b<s.heap.objs.size:=Heap.lt_size q
      intro z
      rw [z,gs] at hlt
      exact Nat.not_succ_lt_self hlt
    · refine List.Pairwise.imp_of_mem (fun {x y} hx hy z=>?_) pw
      rw [nk x (pm.mem_iff.mp hx),nk y (pm.mem_iff.mp hy)] at z
      exact z
end
end TS
namespace L2
open PySem PySem.Spec PyProof.Rows
theorem ak3 {α β:Type} (f:α→β):∀ {l m:List β},l.Perm m→∀ {T:List α},T.map f=m→∃ T':List α,T'.Perm T∧T'.map f=l:=by
  intro l m p
  induction p with
  | nil=>intro T e;exact ⟨T,List.Perm.refl _,e⟩
  | cons x _ ih=>
    intro T e
    cases T with
    | nil=>cases e
    | cons t r=>
      rw [List.map_cons] at e
      obtain ⟨e1,e2⟩:=List.cons.inj e
      obtain ⟨T',p',e'⟩:=ih e2
      exact ⟨t::T',p'.cons t,by rw [List.map_cons,e',e1]⟩
  | swap x y l=>
    intro T e
    match T,e with
    | t::u::r,e=>
      rw [List.map_cons,List.map_cons] at e
      obtain ⟨e1,e2⟩:=List.cons.inj e
      obtain ⟨e3,e4⟩:=List.cons.inj e2
      exact ⟨u::t::r,List.Perm.swap t u r,by rw [List.map_cons,List.map_cons,e1,e3,e4]⟩
  | trans _ _ ih1 ih2=>
    intro T e
    obtain ⟨T1,p1,e1⟩:=ih2 e
    obtain ⟨T2,p2,e2⟩:=ih1 e1
    exact ⟨T2,p2.trans p1,e2⟩
theorem ade {α β γ:Type} {R:β→γ→Prop} {g:α→β} {h:α→γ}:∀ {T:List α},(∀ t∈T,R (g t) (h t))→Paired R (T.map g) (T.map h)
  | [],_=>.nil
  | t::_,k=>.cons (k t (List.mem_cons_self ..)) (ade fun u hu=>k u (List.mem_cons_of_mem _ hu))
theorem adg {α β γ:Type} {R:α→β→Prop} {S:α→γ→Prop}:∀ {xs:List α} {ys:List β} {zs:List γ},Paired R xs ys→Paired S xs zs→∃ T:List (α×β×γ),T.map (·.1)=xs∧T.map (fun t=>t.2.1)=ys∧T.map (fun t=>t.2.2)=zs∧∀ t∈T,R t.1 t.2.1∧S t.1 t.2.2
  | _,_,_,.nil,.nil=>⟨[],rfl,rfl,rfl,fun t ht=>by cases ht⟩
  | _,_,_,.cons (a:=x) (b:=y) r p,.cons (b:=z) q p'=>by
    obtain ⟨T,e1,e2,e3,k⟩:=adg p p'
    refine ⟨(x,y,z)::T,by rw [List.map_cons,e1],by rw [List.map_cons,e2],by rw [List.map_cons,e3],fun t ht=>?_⟩
    rcases List.mem_cons.mp ht with rfl | ht
    · exact ⟨r,q⟩
    · exact k t ht
theorem ah6 {α β:Type} {f:α→β}:∀ {l:List α},(∀ x∈l,∀ y∈l,f x=f y→x=y)→l.Nodup→(l.map f).Nodup
  | [],_,_=>List.nodup_nil
  | a::r,h,n=>by
    obtain ⟨n1,n2⟩:=List.nodup_cons.mp n
    rw [List.map_cons]
    refine List.nodup_cons.mpr ⟨fun z=>?_,ah6 (fun x hx y hy=>h x (List.mem_cons_of_mem _ hx) y (List.mem_cons_of_mem _ hy)) n2⟩
    obtain ⟨y,hy,e⟩:=List.mem_map.mp z
    have:=h y (List.mem_cons_of_mem _ hy) a (List.mem_cons_self ..) e
    exact n1 (this▸hy)
def amm (p q:Int×Int):Prop:=p.1<q.1∨(p.1=q.1∧p.2≤q.2)
abbrev apa (K:PySem.W.Frag) (H:Hp) (v:V) (p:Int×Int):Prop:=∃ a,v=.ref a∧SqT K H a [.int p.1,.int p.2]
theorem aos {B:Int} {p q:Int×Int} (hp:0≤p.2∧p.2<B) (hq:0≤q.2∧q.2<B) (h:p.1*B+p.2≤q.1*B+q.2):amm p q:=by
  unfold amm
  by_cases c:p.1<q.1
  · exact .inl c
  · right
    by_cases d:q.1<p.1
    · have h5:(q.1+1)*B≤p.1*B:=Int.mul_le_mul_of_nonneg_right (by omega) (by omega)
      rw [Int.add_mul,Int.one_mul] at h5
      omega
    · have e:p.1=q.1:=by omega
      rw [e] at h
      exact ⟨e,by omega⟩
theorem axg {B:Int} {p q:Int×Int} (hp:0≤p.2∧p.2<B) (hq:0≤q.2∧q.2<B) (h:p.1*B+p.2=q.1*B+q.2):p=q:=by
  have h1:=aos hp hq (by omega)
  have h2:=aos hq hp (by omega)
  unfold amm at h1 h2
  have e1:p.1=q.1:=by omega
  have e2:p.2=q.2:=by omega
  exact Prod.ext e1 e2
section
variable {X:Cx}
def a1w (X:Cx):List V→Hp→VK→Prop:=fun xs H Q=>∃ l ys ps,xs=[.ref l]∧SqL X.K H l ys∧Paired (apa X.K H) ys ps∧(∀ p∈ps,0≤p.2∧p.2<1000000)∧ps.Nodup∧ys.length≤63∧
  ∀ D zs qs,H D=none→Paired (apa X.K H) zs qs→qs.Perm ps→qs.Pairwise amm→Q (.ref D) (upd H D (.lst zs))
theorem aok:CallR X (.builtin "sorted") (a1w X):=by
  intro pins s σ H xs us Q I r h
  obtain ⟨l,ys,ps,rfl,hl,pr,hb,hnd,hlen,q⟩:=h
  obtain ⟨u,rfl,ru⟩:=r.one
  cases (show u=Value.ref l from ru)
  obtain ⟨its,rv,pl,hz⟩:=I.list hl
  have l1:ys.length=its.length:=rv.length
  obtain ⟨T,e1,e2,e3,kT⟩:=adg rv pr
  have kT2:∀ t∈T,(∃ a o n t1 t2,t.2.1=Value.ref a∧s.heap.get? a=some o∧o.cls=.type "tuple" ∧ o.data=.seq #[.int t.2.2.1 t1,.int t.2.2.2 t2] n)∧0≤t.2.2.2∧t.2.2.2<1000000:=fun t ht=>by
    obtain ⟨r1,a,ea,hs⟩:=kT t ht
    obtain ⟨its2,rv2,⟨o,g1,g2,n,g3⟩,_⟩:=I.tuple hs
    obtain ⟨w1,w2,rfl,x1,x2⟩:=rv2.two
    obtain ⟨t1,rfl⟩:=(show ∃ t1,w1=Value.int t.2.2.1 t1 from x1)
    obtain ⟨t2,rfl⟩:=(show ∃ t2,w2=Value.int t.2.2.2 t2 from x2)
    rw [ea] at r1
    refine ⟨⟨a,o,n,t1,t2,r1,g1,g2,g3⟩,?_⟩
    exact hb _ (by rw [← e3];exact List.mem_map_of_mem (f:=fun t:V×Value×(Int×Int)=>t.2.2) ht)
  have nT:∀ t∈T,TS.num s.heap 1000000 (t.2.1,t.2.1)=t.2.2.1*1000000+t.2.2.2:=fun t ht=>by
    obtain ⟨⟨a,o,n,t1,t2,g0,g1,g2,g3⟩,_⟩:=kT2 t ht
    exact TS.num_of g0 g1 g3
  have ez:its.zip its=T.map fun t=>(t.2.1,t.2.1):=by
    rw [← e2,List.zip_map']
  have inj:((its.zip its).map (TS.num s.heap 1000000)).Nodup:=by
    rw [ez,List.map_map]
    have e4:T.map (TS.num s.heap 1000000∘fun t=>(t.2.1,t.2.1))=(T.map fun t=>t.2.2).map fun p:Int×Int=>p.1*1000000+p.2:=by
      rw [List.map_map]
      exact List.map_congr_left fun t ht=>nT t ht
    rw [e4,e3]
    exact ah6 (fun x hx y hy e=>axg (hb x hx) (hb y hy) e) hnd
  refine jn I.tk (TS.w_sorted (B:=1000000) pl.isList (by rw [← l1];exact hlen) (fun v hv=>?_) inj fun h' tk ks D c hD hk hg pm pw ht=>?_)
  · rw [← e2] at hv
    obtain ⟨t,ht,rfl⟩:=List.mem_map.mp hv
    obtain ⟨⟨a,o,n,t1,t2,g0,g1,g2,g3⟩,b1,b2⟩:=kT2 t ht
    exact ⟨a,o,n,_,_,t1,t2,g0,g1,g2,g3,b1,b2⟩
  · rw [ez] at pm
    obtain ⟨T',pT,eT⟩:=ak3 _ pm rfl
    subst eT
    have mT:∀ t,t∈T'→t∈T:=fun t=>pT.mem_iff.mp
    have pw':=List.pairwise_map.mp pw
    refine ⟨.ref D,_,I.laid (t':=tk) (o:=.lst (T'.map (·.1))) hk hD ?_,rfl,q D (T'.map (·.1)) (T'.map fun t=>t.2.2) (I.hok.fresh hD) (ade fun t ht=>(kT t (mT t ht)).2) ?_ ?_⟩
    · refine ⟨?_,T'.map (fun t=>t.2.1),c,ade fun t ht=>(kT t (mT t ht)).1,?_⟩
      · rw [List.length_map,pT.length_eq]
        have:T.length=ys.length:=by rw [← e1,List.length_map]
        rw [this];exact hz
      · rw [hg,List.map_map];rfl
    · rw [← e3];exact pT.map _
    · refine List.pairwise_map.mpr (List.Pairwise.imp_of_mem (fun {x y} hx hy z=>?_) pw')
      rw [nT x (mT x hx),nT y (mT y hy)] at z
      exact aos (kT2 x (mT x hx)).2 (kT2 y (mT y hy)).2 z
end
end L2
namespace L3
open PySem L2
def prY (p:Int×Int):Y:=.tup [.int p.1,.int p.2]
theorem ani {G:G3} {H:Hp}:∀ {ps:List (Int×Int)} {xs:List V},RVs G H (ps.map prY) xs→Paired (apa G.K H) xs ps
  | [],_,h=>by cases (show _=[] from h);exact .nil
  | p::r,_,⟨x,xs',e,⟨a,zs,ea,hs,z1,zs1,e1,rz1,z2,zs2,e2,rz2,e3⟩,s⟩=>by
    subst e ea e1 e2 e3
    cases (show z1=V.int p.1 from rz1)
    cases (show z2=V.int p.2 from rz2)
    exact .cons ⟨a,rfl,hs⟩ (ani s)
theorem amt {G:G3} {H:Hp}:∀ {ps:List (Int×Int)} {xs:List V},Paired (apa G.K H) xs ps→RVs G H (ps.map prY) xs
  | _,_,.nil=>rfl
  | _,_,.cons ⟨a,ea,hs⟩ t=>by
    subst ea
    exact ⟨_,_,rfl,⟨a,_,rfl,hs,_,_,rfl,rfl,_,_,rfl,rfl,rfl⟩,amt t⟩
def aon (xs:List Y) (L:LHp) (Q:YK):Prop:=match xs with
  | [.ref a]=>abl L a fun ys=>∃ ps:List (Int×Int),ys=ps.map prY∧(∀ p∈ps,0≤p.2∧p.2<1000000)∧ps.Nodup∧ps.length≤63∧∀ (D:Addr) (qs:List (Int×Int)),L D=none→qs.Perm ps→qs.Pairwise amm→Q (.ref D) (qh L D (.lst (qs.map prY)))
  | _=>False
theorem aqu:bootBuiltins "sorted" = some (.builtin "sorted"):=by decide +kernel
theorem awl {X:Cx}:CallR X (.builtin "sorted") (upL X.g3 aon):=CallR.imp aok fun xs H Q ⟨ys,L,Q3,rv,rl,z,k⟩=>by
  unfold aon at z
  split at z
  · rename_i a
    obtain ⟨zs,e,ps,rfl,hb,hnd,hlen,z⟩:=jx z
    obtain ⟨vs,e2,r⟩:=rl a _ e
    obtain ⟨u,rfl,ru⟩:=rv.inv1
    cases (show u=V.ref a from ru)
    have pr:=ani r
    exact ⟨a,vs,ps,rfl,SqL.of e2,pr,hb,hnd,by rw [← r.length,List.length_map];exact hlen,fun D zs qs hD pz pm pw=>k _ _ _ _ (TSt.new hD) (rl.newL hD (amt pz)) (by rfl) (z D qs (rl.none hD) pm pw)⟩
  · exact z.elim
end L3
namespace L3
open PySem L2 Words
local macro_rules | `(tactic| walk_at "w")=>`(tactic| conv=>whnf)
def qo:Wd→Y
  | .leaf t n=>.tup [.str (kL t),.str n]
  | .node e l r=>.tup [.str (kN e),qo l,qo r]
def ad0:Y:=(.tup [(.str "plain"),(.str "turned")])
def abd:Y:=(.cd [("plain", "turned"),("turned", "plain"),("both", "either"),("either", "both")])
theorem qx {α:Type} {L:LHp} {Q:α→LHp→Prop} {o:Option α} {v:α} (e:o=some v) (h:Q v L):atK L Q o:=by rw [e];exact h
def ajz:TS3:=(j9 (yOp (aqz false) (yOp yIx (qb 0) (yC (.int 0))) (yC ad0)))
def kX:Bool→Bool→Str
  | true,t=>kL t
  | false,e=>kN e
def js:Sp3:=fun ys L Q=>∃ lf b rest,ys=[.tup (.str (kX lf b)::rest)]∧Q (.bl lf) L
theorem arn (t:Bool):inV (.str (kL t)) [.str "plain",.str "turned"]=true:=by cases t<;>decide +kernel
theorem arx (t:Bool):inV (.str (kN t)) [.str "plain",.str "turned"]=false:=by cases t<;>decide +kernel
theorem ao5:∀ ys L Q,js ys L Q→xj ajz 1 ys L Q:=by
  rintro ys L Q ⟨lf,b,rest,rfl,q⟩
  have e0:atI (Y.str (kX lf b)::rest) 0=some (Y.str (kX lf b)):=vg (xs:=Y.str (kX lf b)::rest) (j:=0) rfl
  walk_at "w"
  rw [e0]
  refine ⟨rfl,rfl,fin ?_⟩
  cases lf with
  | true=>
    rw [show nb false (inV (toV (.str (kX true b))) ([Y.str "plain",.str "turned"].map toV))=true from arn b]
    exact q
  | false=>
    rw [show nb false (inV (toV (.str (kX false b))) ([Y.str "plain",.str "turned"].map toV))=false from arx b]
    exact q
def amq (p_is_leaf p_turned:Sp3):TS3:=(qw (z9 (yOp yIx (yC abd) (yOp yIx (qb 0) (yC (.int 0)))) (qj 1))
  (qw (kc (yB (zc p_is_leaf (qc (qb 0) qm))) (j9 (k8 (qc (qb 1) (qc (yOp yIx (qb 0) (yC (.int 1))) qm)))) x9)
  (j9 (k8 (qc (qb 1) (qc (zc p_turned (qc (yOp yIx (qb 0) (yC (.int 1))) qm)) (qc (zc p_turned (qc (yOp yIx (qb 0) (yC (.int 2))) qm)) qm)))))))
def vv (n:Nat):Sp3:=fun ys L Q=>∃ wd,ys=[qo wd]∧wd.depth≤n∧Q (qo wd.turn) L
theorem aqk (t:Bool):List.lookup (kL t) [(("plain" : Str),("turned" : Str)),("turned", "plain"),("both", "either"),("either", "both")]=some (kL (!t)):=by cases t<;>decide +kernel
theorem ars (t:Bool):List.lookup (kN t) [(("plain" : Str),("turned" : Str)),("turned", "plain"),("both", "either"),("either", "both")]=some (kN (!t)):=by cases t<;>decide +kernel
theorem arh (n:Nat):∀ ys L Q,vv (n+1) ys L Q→xj (amq js (vv n)) 2 ys L Q:=by
  rintro ys L Q ⟨wd,rfl,hd,q⟩
  cases wd with
  | leaf t nm=>
    exact qx (aqk t) ⟨true,t,_,rfl,fin q⟩
  | node e l r=>
    have hd':max l.depth r.depth+1≤n+1:=hd
    refine qx (ars e) ⟨false,e,_,rfl,l,rfl,by omega,r,rfl,by omega,?_⟩
    exact fin q
def afw (p_is_leaf p_leaves_of:Sp3):TS3:=(qw (kc (yB (zc p_is_leaf (qc (qb 0) qm))) (j9 (w6 (qc (qb 0) qm))) x9)
  (j9 (yOp ju (zc p_leaves_of (qc (yOp yIx (qb 0) (yC (.int 1))) qm)) (zc p_leaves_of (qc (yOp yIx (qb 0) (yC (.int 2))) qm)))))
def xx (n:Nat):Sp3:=fun ys L Q=>∃ wd,ys=[qo wd]∧wd.depth≤n∧wd.leaves≤63∧∀ p,L p=none→Q (.ref p) (qh L p (.lst (wd.leafL.map qo)))
theorem axk {L:LHp} {p q r:Addr} {o u v:LO} (hp:L p=none) (hq:qh L p o q=none) (hr:qh (qh L p o) q u r=none):LSub (qh L r v) (qh (qh (qh L p o) q u) r v):=fun a z e=>by
  by_cases c:a=r
  · subst c;rw [q8] at e ⊢;exact e
  · rw [qf c] at e ⊢
    exact ((LSub.new hp).trans (LSub.new hq)) a z e
theorem jd {L L':LHp} (s:LSub L L') {p:Addr} (h:L' p=none):L p=none:=by
  cases e:L p with
  | none=>rfl
  | some o=>rw [s _ _ e] at h;cases h
theorem al6 (n:Nat):∀ ys L Q,xx (n+1) ys L Q→xj (afw js (xx n)) 1 ys L Q:=by
  rintro ys L Q ⟨wd,rfl,hd,h63,q⟩
  cases wd with
  | leaf t n=>exact ⟨true,t,_,rfl,fun p hp=>fin (q p hp)⟩
  | node e l r=>
    have hd':max l.depth r.depth+1≤n+1:=hd
    have h63':l.leaves+r.leaves≤63:=h63
    refine ⟨false,e,_,rfl,l,rfl,by omega,by omega,fun p1 h1=>⟨r,rfl,by omega,by omega,fun p2 h2=>?_⟩⟩
    have n1:p1≠p2:=neL q8 h2
    refine ⟨_,_,(qf n1).trans q8,q8,abh ?_,fun p3 h3=>?_⟩
    · rw [List.length_map,List.length_map,Wd.leafL_len,Wd.leafL_len];omega
    · refine aau (axk h1 h2 h3) ?_
      have:=q p3 (jd (LSub.new h1) (jd (LSub.new h2) h3))
      rw [show (Wd.node e l r).leafL=l.leafL++r.leafL from rfl,List.map_append] at this
      exact this
theorem DatN.str {L:LHp} {n:Nat} (x:Str):DatN L n (.str x) (.s (.str x)):=by
  cases n with
  | zero=>exact ⟨rfl,rfl⟩
  | succ n=>exact .inl ⟨rfl,rfl⟩
theorem kj {L:LHp}:∀ {wd:Wd} {n:Nat},wd.depth≤n→DatN L n (qo wd) (enc wd)
  | .leaf t nm,n+1,_=>.inr (.inl ⟨_,_,rfl,rfl,.cons (DatN.str _) (.cons (DatN.str _) .nil)⟩)
  | .node e l r,n+1,h=>by
    have h':max l.depth r.depth+1≤n+1:=h
    exact .inr (.inl ⟨_,_,rfl,rfl,.cons (DatN.str _) (.cons (kj (by omega)) (.cons (kj (by omega)) .nil))⟩)
theorem aaj {L:LHp} {n:Nat}:∀ {ws:List Wd},(∀ w∈ws,w.depth≤n)→Paired (DatN L n) (ws.map qo) (ws.map enc)
  | [],_=>.nil
  | w::r,h=>.cons (kj (h w (by simp))) (aaj fun x hx=>h x (by simp [hx]))
theorem jm {L:LHp} {n:Nat} {a:Addr} {ys:List Y} {ds:List Da} (e:L a=some (.lst ys)) (p:Paired (DatN L n) ys ds):DatN L (n+1) (.ref a) (.lst ds):=.inr (.inr ⟨ys,ds,rfl,rfl,zg e,p⟩)
theorem ado {L:LHp} {n:Nat} {ys:List Y} {ds:List Da} (p:Paired (DatN L n) ys ds):DatN L (n+1) (.tup ys) (.tup ds):=.inr (.inl ⟨ys,ds,rfl,rfl,p⟩)
theorem asa {L:LHp} {neg:Bool} {a b:Addr} {ys zs:List Y} {ds es:List Da} {n m:Nat} {Q:YK} (hn:n<128) (ea:L a=some (.lst ys)) (eb:L b=some (.lst zs)) (pa:Paired (DatN L n) ys ds) (pb:Paired (DatN L m) zs es) (q:Q (.bl (nb neg (Da.eqs ds es))) L):
    yEq neg (.ref a) (.ref b) L Q:=⟨rfl,rfl,n+1,m+1,_,_,hn,jm ea pa,jm eb pb,q⟩
theorem ar3:∀ ys L Q,¬ vv 0 ys L Q:=fun ys L Q ⟨wd,_,hd,_⟩=>by cases wd<;>simp [Wd.depth] at hd
theorem al0:∀ ys L Q,¬ xx 0 ys L Q:=fun ys L Q ⟨wd,_,hd,_⟩=>by cases wd<;>simp [Wd.depth] at hd
end L3
namespace L3
open PySem L2 Words
local macro_rules | `(tactic| walk_at "w")=>`(tactic| conv=>whnf)
def acw (K:PySem.W.Frag):TS3:=(az1 K "heads" (qb 0) (anq (qb 1)))
def aap (K:PySem.W.Frag):TS3:=(qw (z9 (qb 1) (qj 2))
  (qw (ahm (yB (yOp (yEq true) (yOp yIx (ap1 K "heads" (qb 0)) (qb 2)) (qb 2))) (qw (asq (ap1 K "heads" (qb 0)) (qb 2) (yOp yIx (ap1 K "heads" (qb 0)) (yOp yIx (ap1 K "heads" (qb 0)) (qb 2))))
  (z9 (yOp yIx (ap1 K "heads" (qb 0)) (qb 2)) (qj 2))))
  (j9 (qb 2))))
def ac5 (K:PySem.W.Frag) (C_Pieces:Addr) (p_Pieces_head_of:Sp3):TS3:=(qw (z9 (ag5 C_Pieces "head_of" p_Pieces_head_of (qb 0) (qc (qb 1) qm)) (qj 3))
  (qw (z9 (ag5 C_Pieces "head_of" p_Pieces_head_of (qb 0) (qc (qb 2) qm)) (qj 4))
  (qw (asq (ap1 K "heads" (qb 0)) (qb 3) (qb 4))
  (j9 (yOp (yEq true) (qb 3) (qb 4))))))
structure XFP (K:PySem.W.Frag) (C:Addr):Prop where
  cl:Cls K C
  na:NoAttr K C "heads"
def nY (hs:List Nat):List Y:=hs.map fun n:Nat=>.int (n:Int)
def fsP (hp:Addr):List (Str×Y):=[("heads",.ref hp)]
theorem aay {hp:Addr}:(fsP hp).lookup ("heads" : Str)=some (.ref hp):=by unfold fsP;rw [List.lookup_cons,show ((("heads" : Str)==("heads" : Str)))=true by decide +kernel]
theorem aci {hp:Addr}:(fsP hp).lookup ("head_of" : Str)=none:=by unfold fsP;rw [List.lookup_cons,show ((("head_of" : Str)==("heads" : Str)))=false by decide +kernel];rfl
theorem ai5 {hp:Addr}:(fsP hp).lookup ("unite" : Str)=none:=by unfold fsP;rw [List.lookup_cons,show ((("unite" : Str)==("heads" : Str)))=false by decide +kernel];rfl
theorem awv (n:Nat):wt 0 n=nY (List.range n):=by unfold wt nY;exact List.map_congr_left fun k _=>by rw [Int.zero_add]
theorem aai (hs:List Nat):(nY hs).length=hs.length:=by unfold nY;rw [List.length_map]
theorem aq6 {hs:List Nat} {i h:Nat} (e:hs[i]?=some h):atI (nY hs) (i:Int)=some (.int (h:Int)):=vg (by unfold nY;rw [List.getElem?_map,e];rfl)
theorem au9 (hs:List Nat) (i g:Nat):(nY hs).set i (.int (g:Int))=nY (hs.set i g):=by unfold nY;rw [List.map_set]
theorem aq0 {n j:Nat} (h:j<n):ixN n (j:Int)=some j:=by
  unfold ixN
  rw [if_pos (by omega),if_pos (by omega)];rfl
theorem x5 {L:LHp} {a p:Addr} {o:LO} (h:qh L a o p=none):L p=none:=by
  by_cases c:p=a
  · subst c;rw [q8] at h;cases h
  · rw [qf c] at h;exact h
theorem aan {L:LHp} {a:Addr} {o:LO} (h:L a=some o):qh L a o=L:=by
  funext b;unfold qh
  split
  · rename_i e;rw [e,h]
  · rfl
def Rkd (rk:Nat→Nat) (hs:List Nat):Prop:=∀ i h,hs[i]?=some h→h<hs.length∧(h≠i→rk h<rk i)
inductive Rep (hs:List Nat):Nat→Nat→Prop
  | root {r:Nat}:hs[r]?=some r→Rep hs r r
  | step {i h r:Nat}:hs[i]?=some h→h≠i→Rep hs h r→Rep hs i r
theorem Rep.top {hs:List Nat} {i r:Nat} (h:Rep hs i r):hs[r]?=some r:=by
  induction h with
  | root e=>exact e
  | step _ _ _ ih=>exact ih
theorem Rep.uniq {hs:List Nat} {i r s:Nat} (h:Rep hs i r) (k:Rep hs i s):r=s:=by
  induction h generalizing s with
  | root e=>
    cases k with
    | root _=>rfl
    | step e' ne _=>rw [e] at e';exact absurd (Option.some.inj e').symm ne
  | step e ne t ih=>
    cases k with
    | root e'=>rw [e] at e';exact absurd (Option.some.inj e') ne
    | step e' _ t'=>rw [e] at e';cases e';exact ih t'
theorem Rep.of_top {hs:List Nat} {i r:Nat} (h:Rep hs i r) (e:hs[i]?=some i):r=i:=h.uniq (.root e)
theorem Rkd.rep {rk:Nat→Nat} {hs:List Nat} (hr:Rkd rk hs):∀ (n i:Nat),rk i<n→i<hs.length→∃ r,Rep hs i r
  | 0,_,h,_=>absurd h (Nat.not_lt_zero _)
  | n+1,i,h,hi=>by
    have e:hs[i]?=some hs[i]:=List.getElem?_eq_getElem hi
    by_cases c:hs[i]=i
    · exact ⟨i,.root (by rw [e,c])⟩
    · obtain ⟨h1,h2⟩:=hr i _ e
      obtain ⟨r,t⟩:=Rkd.rep hr n hs[i] (by have:=h2 c;omega) h1
      exact ⟨r,.step e c t⟩
theorem Rkd.rep' {rk:Nat→Nat} {hs:List Nat} (hr:Rkd rk hs) {i:Nat} (hi:i<hs.length):∃ r,Rep hs i r:=hr.rep (rk i+1) i (Nat.lt_succ_self _) hi
theorem j7 {α:Type} {l:List α} {i:Nat} {x:α} (h:l[i]?=some x):i<l.length:=(List.getElem?_eq_some_iff.mp h).1
theorem xn {α:Type} {l:List α} {i:Nat} {x:α} (h:i<l.length):(l.set i x)[i]?=some x:=by rw [List.getElem?_set];simp [h]
theorem x8 {α:Type} {l:List α} {i j:Nat} {x:α} (h:i≠j):(l.set i x)[j]?=l[j]?:=by rw [List.getElem?_set,if_neg h]
theorem Rkd.halve {rk:Nat→Nat} {hs:List Nat} (hr:Rkd rk hs) {i h g:Nat} (ei:hs[i]?=some h) (ne:h≠i) (eh:hs[h]?=some g):Rkd rk (hs.set i g)∧rk g<rk i:=by
  have hg:rk g<rk i:=by
    have h1:=(hr i h ei).2 ne
    by_cases c:g=h
    · rw [c];exact h1
    · have:=(hr h g eh).2 c;omega
  refine ⟨fun j x e=>?_,hg⟩
  rw [List.length_set]
  by_cases c:i=j
  · subst c
    rw [xn (j7 ei)] at e;cases e
    exact ⟨(hr h _ eh).1,fun _=>hg⟩
  · rw [x8 c] at e
    exact hr j x e
theorem af8 {rk:Nat→Nat} {hs:List Nat} (hr:Rkd rk hs) {i h g:Nat} (ei:hs[i]?=some h) (ne:h≠i) (eh:hs[h]?=some g):∀ (n j r:Nat),rk j<n→Rep hs j r→Rep (hs.set i g) j r
  | 0,_,_,h,_=>absurd h (Nat.not_lt_zero _)
  | n+1,j,r,hn,t=>by
    have ih:=af8 hr ei ne eh n
    have hg:=(hr.halve ei ne eh).2
    cases t with
    | root e=>
      have c:i≠j:=fun c=>by subst c;rw [ei] at e;exact ne (Option.some.inj e)
      exact .root (by rw [x8 c];exact e)
    | step e ne' t=>
      rename_i h'
      have lt:=(hr j h' e).2 ne'
      by_cases c:i=j
      · subst c
        rw [ei] at e;cases e
        by_cases d:g=h
        · subst d
          exact .step (xn (j7 ei)) ne' (ih _ r (by omega) t)
        · cases t with
          | root e2=>rw [eh] at e2;exact absurd (Option.some.inj e2) d
          | step e2 ne2 t2=>
            rw [eh] at e2;cases e2
            refine .step (xn (j7 ei)) (fun z=>?_) (ih _ r (by omega) t2)
            rw [z] at hg;exact Nat.lt_irrefl _ hg
      · exact .step (by rw [x8 c];exact e) ne' (ih _ r (by omega) t)
def rts (hs:List Nat):Nat:=(List.range hs.length).countP fun i=>decide (hs[i]?=some i)
theorem ar8 {rk:Nat→Nat} {hs:List Nat} (hr:Rkd rk hs) {i h g:Nat} (ei:hs[i]?=some h) (ne:h≠i) (eh:hs[h]?=some g):rts (hs.set i g)=rts hs:=by
  unfold rts
  rw [List.length_set]
  refine List.countP_congr fun j hj=>?_
  have hg:=(hr.halve ei ne eh).2
  by_cases c:i=j
  · subst c
    rw [xn (j7 ei),ei]
    have d:g≠i:=fun z=>by rw [z] at hg;exact Nat.lt_irrefl _ hg
    simp [d,ne]
  · rw [x8 c]
theorem ahf {p:Nat→Bool} {a:Nat} (ha:p a=true):∀ {l:List Nat},l.Nodup→a∈l→l.countP (fun j=>p j&&!decide (j=a))+1=l.countP p
  | [],_,h=>by cases h
  | x::r,hn,h=>by
    obtain ⟨n1,n2⟩:=List.nodup_cons.mp hn
    rw [List.countP_cons,List.countP_cons]
    by_cases c:x=a
    · subst c
      have e:r.countP (fun j=>p j&&!decide (j=x))=r.countP p:=by
        refine List.countP_congr fun j hj=>?_
        have:j≠x:=fun z=>n1 (z▸hj)
        simp [this]
      rw [e]
      simp [ha]
    · have hm:a∈r:=by
        rcases List.mem_cons.mp h with z | z
        · exact absurd z.symm c
        · exact z
      have ih:=ahf ha n2 hm
      simp only [decide_eq_false c,Bool.not_false,Bool.and_true]
      omega
theorem Rkd.join {rk:Nat→Nat} {hs:List Nat} (hr:Rkd rk hs) {a b:Nat} (ea:hs[a]?=some a) (eb:hs[b]?=some b):∃ rk',Rkd rk' (hs.set a b):=by
  by_cases c:a=b
  · subst c
    refine ⟨rk,fun i h e=>?_⟩
    rw [List.length_set]
    by_cases d:a=i
    · subst d;rw [xn (j7 ea)] at e;cases e;exact hr _ _ ea
    · rw [x8 d] at e;exact hr i h e
  · refine ⟨fun x=>if x=b then 0 else rk x+1,fun i h e=>?_⟩
    rw [List.length_set]
    by_cases d:a=i
    · subst d
      rw [xn (j7 ea)] at e;cases e
      refine ⟨j7 eb,fun _=>?_⟩
      show (if b=b then 0 else rk b+1)<if a=b then 0 else rk a+1
      rw [if_pos rfl,if_neg c];omega
    · rw [x8 d] at e
      refine ⟨(hr i h e).1,fun ne=>?_⟩
      have nb:i≠b:=fun z=>by subst z;rw [eb] at e;exact ne (Option.some.inj e).symm
      show (if h=b then 0 else rk h+1)<if i=b then 0 else rk i+1
      rw [if_neg nb]
      have:=(hr i h e).2 ne
      split<;>omega
theorem asj {hs:List Nat} {a b:Nat} (ea:hs[a]?=some a) (eb:hs[b]?=some b) {i r:Nat} (t:Rep hs i r):Rep (hs.set a b) i (if r=a then b else r):=by
  induction t with
  | root e=>
    rename_i r
    by_cases c:r=a
    · subst c
      rw [if_pos rfl]
      by_cases d:r=b
      · subst d;exact .root (xn (j7 ea))
      · exact .step (xn (j7 ea)) (fun z=>d z.symm) (.root (by rw [x8 d];exact eb))
    · rw [if_neg c]
      exact .root (by rw [x8 (fun z=>c z.symm)];exact e)
  | step e ne t ih=>
    rename_i i h r
    have c:a≠i:=fun z=>by subst z;rw [ea] at e;exact ne (Option.some.inj e).symm
    exact .step (by rw [x8 c];exact e) ne ih
theorem auq {hs:List Nat} {a b:Nat} (ea:hs[a]?=some a) (eb:hs[b]?=some b) (ne:a≠b):rts (hs.set a b)+1=rts hs:=by
  unfold rts
  rw [List.length_set]
  have e:=ahf (p:=fun i=>decide (hs[i]?=some i)) (a:=a) (decide_eq_true ea) (l:=List.range hs.length) List.nodup_range (List.mem_range.mpr (j7 ea))
  rw [← e]
  congr 1
  refine List.countP_congr fun j hj=>?_
  by_cases c:a=j
  · subst c
    rw [xn (j7 ea)]
    simp [Ne.symm ne]
  · rw [x8 c]
    simp [Ne.symm c]
def ac4 (C:Addr):Sp3:=fun ys L Q=>∃ o,∃ n:Nat,∃ ni:Int,ys=[.ref o,.int ni]∧ni=(n:Int)∧L o=some (.ins C [])∧n≤1000∧∀ hp,L hp=none→Q .non (qh (qh L hp (.lst (nY (List.range n)))) o (.ins C (fsP hp)))
theorem avd {K:PySem.W.Frag} {C:Addr} (xf:XFP K C):∀ ys L Q,ac4 C ys L Q→xj (acw K) 2 ys L Q:=by
  rintro ys L Q ⟨o,n,ni,rfl,rfl,ho,hn,q⟩
  refine ⟨⟨by omega,by omega⟩,fun hp hhp=>?_⟩
  refine xr ((qf (neL ho hhp)).trans ho) ⟨xf.cl,xf.na,by decide,?_⟩
  rw [show ((n:Nat):Int).toNat=n from rfl,awv]
  exact fin (q hp hhp)
def ab2 (C:Addr):Sp3:=fun ys L Q=>∃ o hp,∃ hs:List Nat,∃ p:Nat,∃ pi:Int,∃ rk,ys=[.ref o,.int pi]∧pi=(p:Int)∧L o=some (.ins C (fsP hp))∧L hp=some (.lst (nY hs))∧Rkd rk hs∧p<hs.length∧
  ∀ (r:Nat) hs',hs'.length=hs.length→Rkd rk hs'→Rep hs p r→(∀ i s,Rep hs i s→Rep hs' i s)→rts hs'=rts hs→Q (.int (r:Int)) (qh L hp (.lst (nY hs')))
theorem ay1 {K:PySem.W.Frag} {C:Addr} (xf:XFP K C):∀ ys L Q,ab2 C ys L Q→xj (aap K) 3 ys L Q:=by
  rintro ys L Q ⟨o,hp,hs,p,pi,rk,rfl,rfl,ho,hhp,hr,hlt,q⟩
  obtain ⟨r0,t0⟩:=hr.rep' hlt
  have hop:o≠hp:=as9 ho hhp (fun e=>by cases e)
  refine ⟨fun m τ L'=>∃ (hs':List Nat) (here:Nat),τ=[some (.ref o),some (.int (p:Int)),some (.int (here:Int))]∧L'=qh L hp (.lst (nY hs'))∧hs'.length=hs.length∧Rkd rk hs'∧here<hs.length∧Rep hs' here r0∧(∀ i s,Rep hs i s→Rep hs' i s)∧rts hs'=rts hs∧m=rk here,⟨_,hs,p,rfl,(aan hhp).symm,rfl,hr,hlt,t0,fun _ _ h=>h,rfl,rfl⟩,?_⟩
  rintro m τ L' ⟨hs',here,rfl,rfl,hl,hr',hh,t,hall,hrt,rfl⟩
  have ho':∀ z,(qh L hp (.lst z)) o=some (.ins C (fsP hp)):=fun z=>(qf hop).trans ho
  obtain ⟨h,eh⟩:∃ h,hs'[here]?=some h:=⟨_,List.getElem?_eq_getElem (by omega)⟩
  refine xr (ho' _) ⟨xf.cl,xf.na,qx aay (ql q8 (qx (aq6 eh) ?_))⟩
  by_cases c:h=here
  · subst c
    refine kf (by show (!decide (((h:Nat):Int)=(h:Int)))=false;rw [decide_eq_true rfl];rfl) ?_
    have e:=t.of_top eh
    subst e
    exact fin (q _ hs' hl hr' t0 hall hrt)
  · refine adb (by show (!decide (((h:Nat):Int)=(here:Int)))=true;rw [decide_eq_false (by omega)];rfl) ?_
    refine ⟨_,fun _ _ h=>h,?_⟩
    obtain ⟨g,eg⟩:∃ g,hs'[h]?=some g:=⟨_,List.getElem?_eq_getElem (hr' here h eh).1⟩
    refine xr (ho' _) ⟨xf.cl,xf.na,qx aay (xr (ho' _) ⟨xf.cl,xf.na,qx aay (ql q8 (qx (aq6 eh) (ql q8 (qx (aq6 eg) ?_))))⟩)⟩
    refine xr (ho' _) ⟨xf.cl,xf.na,qx aay (qz q8 (qx (v:=here) ?_ ?_))⟩
    · exact aq0 (by rw [aai];omega)
    rw [zd,au9]
    have es:(hs'.set here g)[here]?=some g:=xn (by omega)
    refine xr (ho' _) ⟨xf.cl,xf.na,qx aay (ql q8 (qx (aq6 es) ?_))⟩
    obtain ⟨hv1,hv2⟩:=hr'.halve eh c eg
    refine ⟨_,LSub.refl _,rk g,hv2,hs'.set here g,g,rfl,rfl,by rw [List.length_set];exact hl,hv1,?_,?_,fun i s z=>af8 hr' eh c eg (rk i+1) i s (Nat.lt_succ_self _) (hall i s z),by rw [ar8 hr' eh c eg];exact hrt,rfl⟩
    · rw [← hl];exact (hr' h g eg).1
    · have t2:=af8 hr' eh c eg (rk here+1) here r0 (Nat.lt_succ_self _) t
      cases t2 with
      | root e2=>rw [es] at e2;cases e2;exact .root es
      | step e2 ne2 t3=>rw [es] at e2;cases e2;exact t3
def aa1 (C:Addr):Sp3:=fun ys L Q=>∃ o hp,∃ hs:List Nat,∃ p q a b:Nat,∃ pi qi:Int,ys=[.ref o,.int pi,.int qi]∧pi=(p:Int)∧qi=(q:Int)∧L o=some (.ins C (fsP hp))∧L hp=some (.lst (nY hs))∧(∃ rk,Rkd rk hs)∧Rep hs p a∧Rep hs q b∧p<hs.length∧q<hs.length∧
  ∀ hs',hs'.length=hs.length→(∃ rk,Rkd rk hs')→(∀ i s,Rep hs i s→Rep hs' i (if s=a then b else s))→(a=b→rts hs'=rts hs)→(a≠b→rts hs'+1=rts hs)→Q (.bl (!decide (a=b))) (qh L hp (.lst (nY hs')))
theorem ave {K:PySem.W.Frag} {C:Addr} (xf:XFP K C):∀ ys L Q,aa1 C ys L Q→xj (ac5 K C (ab2 C)) 5 ys L Q:=by
  rintro ys L Q ⟨o,hp,hs,p,q,a,b,pi,qi,rfl,rfl,rfl,ho,hhp,⟨rk,hr⟩,ta,tb,hp1,hq1,k⟩
  have hop:o≠hp:=as9 ho hhp (fun e=>by cases e)
  have ho':∀ z,(qh L hp (.lst z)) o=some (.ins C (fsP hp)):=fun z=>(qf hop).trans ho
  refine xr ho ⟨rfl,aci,o,hp,hs,p,_,rk,rfl,rfl,ho,hhp,hr,hp1,fun r1 hs1 l1 k1 t1 a1 n1=>?_⟩
  cases t1.uniq ta
  refine xr (ho' _) ⟨rfl,aci,o,hp,hs1,q,_,rk,rfl,rfl,ho' _,q8,k1,by omega,fun r2 hs2 l2 k2 t2 a2 n2=>?_⟩
  cases t2.uniq (a1 _ _ tb)
  rw [zd]
  have ea:hs2[a]?=some a:=(a2 _ _ (a1 _ _ ta)).top
  have eb:hs2[b]?=some b:=(a2 _ _ (a1 _ _ tb)).top
  refine xr (ho' _) ⟨xf.cl,xf.na,qx aay (qz q8 (qx (v:=a) (aq0 (by rw [aai];exact j7 ea)) ?_))⟩
  rw [zd,au9]
  have e0:(decide ((a:Int)=(b:Int)))=decide (a=b):=by
    by_cases c:a=b
    · rw [decide_eq_true c];exact decide_eq_true (by omega)
    · rw [decide_eq_false c];exact decide_eq_false (by omega)
  show aev Q (.bl (!decide ((a:Int)=(b:Int)))) _
  rw [e0]
  refine fin (k (hs2.set a b) (by rw [List.length_set];omega) (k2.join ea eb) (fun i s z=>asj ea eb (a2 _ _ (a1 _ _ z))) (fun e=>?_) (fun ne=>?_))
  · subst e
    have:hs2.set a a=hs2:=by
      apply List.ext_getElem?
      intro j
      by_cases c:a=j
      · subst c;rw [xn (j7 ea),ea]
      · rw [x8 c]
    rw [this,n2,n1]
  · have:=auq ea eb ne;omega
end L3
namespace L3
open PySem L2 Words
local macro_rules | `(tactic| walk_at "w")=>`(tactic| conv=>whnf)
theorem axc (x y:Y) (m:Int):∃ b:Bool,atI [x,y] (m % 2)=some (if b then y else x):=by
  have:m % 2=0∨m % 2=1:=by omega
  rcases this with h | h
  · rw [h];exact ⟨false,rfl⟩
  · rw [h];exact ⟨true,rfl⟩
theorem arf (m:Int):∃ b:Bool,atI [.str "plain",.str "turned"] (m % 2)=some (Y.str (kL b)):=by
  obtain ⟨b,e⟩:=axc (.str "plain") (.str "turned") m
  exact ⟨b,by rw [e];cases b<;>rfl⟩
end L3
namespace L3
open PySem L2 Words
local macro_rules | `(tactic| walk_at "w")=>`(tactic| conv=>whnf)
def ai8:TS3:=(j9 (yOp wj (yOp wn (yOp ahy (yOp ju (yOp ju (yOp ahy (yOp wn (qb 0) (yC (.int 1000003))) (yC (.int 7))) (yOp ahy (qb 1) (qb 1))) (yC (.int 1))) (qb 2)) (yC (.int 2147483647))) (yC (.int 16))))
def afj:Sp3:=fun ys L Q=>∃ c k f:Int,ys=[.int c,.int k,.int f]∧0≤k∧k<1000000∧0<f∧f<1000000∧∀ v,0≤v→v<134217728→Q (.int v) L
theorem a1b:∀ ys L Q,afj ys L Q→xj ai8 3 ys L Q:=by
  rintro ys L Q ⟨c,k,f,rfl,h0,h1,h2,h3,q⟩
  refine ⟨(by decide:(0:Int)<1000003),.inr ⟨by decide,by decide⟩,.inl ⟨by omega,by omega⟩,.inr ⟨by omega,by omega⟩,(by decide:(0:Int)<2147483647),⟨by decide,by decide⟩,fin (q _ ?_ ?_)⟩
  all_goals
    generalize ((c % 1000003*7+k*k+1)*f)=z
    omega
theorem asb (cs:List Nat):(Txt.join "" (cs.map fun c=>(⟨#[c]⟩:Str))).cps.toList=cs:=by
  rw [akx]
  induction cs with
  | nil=>rfl
  | cons c r ih=>rw [List.map_cons,List.flatMap_cons,ih];rfl
end L3
namespace L3
open PySem L2 Words
end L3
namespace L3
open PySem L2 Words
local macro_rules | `(tactic| walk_at "w")=>`(tactic| conv=>whnf)
def mkS (l:List Nat):Str:=⟨l.toArray⟩
theorem aq1 (x:Str):mkS x.cps.toList=x:=by cases x;rfl
end L3
namespace L3
open PySem L2 Words
local macro_rules | `(tactic| walk_at "w")=>`(tactic| conv=>whnf)
end L3
namespace L3
open PySem L2 Words
local macro_rules | `(tactic| walk_at "w")=>`(tactic| conv=>whnf)
end L3
namespace L3
open PySem L2 Words
local macro_rules | `(tactic| walk_at "w")=>`(tactic| conv=>whnf)
end L3
namespace L3
open PySem L2 Words
end L3
namespace L3
open PySem L2 Words
local macro_rules | `(tactic| walk_at "w")=>`(tactic| conv=>whnf)
end L3
namespace L3
open PySem L2 Words
end L3
namespace L3
open PySem L2 Words
local macro_rules | `(tactic| walk_at "w")=>`(tactic| conv=>whnf)
inductive Kn where
  | lf (t:Bool) (n:Str) | nd (e:Bool) (i j:Nat)
def att:Kn→Y
  | .lf t n=>.tup [.str (kL t),.str n]
  | .nd e i j=>.tup [.str (kN e),.int ((i:Nat):Int),.int ((j:Nat):Int)]
end L3
namespace L3
open PySem L2 Words
local macro_rules | `(tactic| walk_at "w")=>`(tactic| conv=>whnf)
def ai3 (p_is_leaf:Sp3):TS3:=(qw (kc (yOr (yB (agf false (qb 0))) (yB (zc p_is_leaf (qc (qb 0) qm)))) (j9 (w6 qm)) x9)
  (j9 (w6 (qc (yOp yIx (qb 0) (yC (.int 1))) (qc (yOp yIx (qb 0) (yC (.int 2))) qm)))))
def ac0:TS3:=(j9 (yLC 2 (adc (qb 0)) (aa7 2 (zp (qj 1) (zp (qj 2) aa2))) (yB (agf true (qb 2))) (qb 1)))
def afz:TS3:=(qw (z9 (w6 qm) (qj 1))
  (qw (ac7 (xa (qb 0)) (aa7 2 (zp (qj 2) (zp (qj 3) aa2))) (qw (v4 (yBL jj (qb 1) (qc (qb 2) qm)))
  (v4 (yBL jj (qb 1) (qc (qb 3) qm)))))
  (j9 (qb 1))))
def adh:TS3:=(j9 (yLC 2 (adc (yOp yIx (qb 0) (yC (.int 0)))) (aa7 2 (zp (qj 1) (zp (qj 2) aa2))) (axw (yB (agf true (qb 2))) (yB (yOp (yEq false) (yOp yIx (qb 2) (yC (.int 0))) (yC (.str "either"))))) (qb 1)))
def ahz (p_places_there:Sp3):TS3:=(j9 (yLC 1 (xa (zc p_places_there (qc (yOp yIx (qb 0) (yC (.int 0))) qm))) (qj 1) (yB (yOp (yEq false) (yOp yIx (yOp yIx (yOp yIx (qb 0) (yC (.int 0))) (qb 1)) (yC (.int 0))) (yC (.str "both")))) (qb 1)))
def adr (p_parts_of:Sp3):TS3:=(qw (z9 (w6 qm) (qj 2))
  (qw (ac7 (xa (qb 1)) (qj 3) (v4 (yBL adw (qb 2) (qc (yLC 1 (xa (zc p_parts_of (qc (yOp yIx (qb 0) (qb 3)) qm))) (qj 4) av8 (k8 (qc (qb 3) (qc (qb 4) qm)))) qm))))
  (j9 (qb 2))))
def aig (p_part_edges:Sp3) (p_boths_of:Sp3):TS3:=(j9 (yOp ju (yOp ju (yOp yIx (qb 0) (yC (.int 1))) (yOp yIx (qb 0) (yC (.int 2)))) (zc p_part_edges (qc (yOp yIx (qb 0) (yC (.int 0))) (qc (zc p_boths_of (qc (qb 0) qm)) qm)))))
def aln:Option Kn→Y
  | none=>.non
  | some k=>att k
abbrev osY (ks:List (Option Kn)):List Y:=ks.map aln
def wm:Option Kn→List Nat
  | some (.nd _ i j)=>[i,j]
  | _=>[]
def aak:Sp3:=fun ys L Q=>∃ k:Option Kn,ys=[aln k]∧∀ p,L p=none→Q (.ref p) (qh L p (.lst (nY (wm k))))
theorem aud:∀ ys L Q,aak ys L Q→xj (ai3 js) 1 ys L Q:=by
  rintro ys L Q ⟨k,rfl,q⟩
  cases k with
  | none=>exact fun p hp=>fin (q p hp)
  | some k=>
    cases k with
    | lf t n=>exact ⟨true,t,_,rfl,fun p hp=>fin (q p hp)⟩
    | nd e i j=>exact ⟨false,e,_,rfl,fun p hp=>fin (q p hp)⟩
def whr (f:Option Kn→Bool) (ks:List (Option Kn)) (i:Nat):List Nat:=(List.range i).filter fun p=>match ks[p]? with
  | some k=>f k
  | none=>false
theorem ahi {f:Option Kn→Bool} {ks:List (Option Kn)} {i:Nat} {k:Option Kn} (h:ks[i]?=some k):whr f ks (i+1)=whr f ks i++if f k=true then [i] else []:=by
  unfold whr
  rw [List.range_succ,List.filter_append]
  congr 1
  rw [List.filter_cons]
  simp only [h,List.filter_nil]
theorem adt {f:Option Kn→Bool} {ks:List (Option Kn)} {i p:Nat} (h:p∈whr f ks i):p<i∧∃ k,ks[p]?=some k∧f k=true:=by
  unfold whr at h
  obtain ⟨h1,h2⟩:=List.mem_filter.mp h
  refine ⟨List.mem_range.mp h1,?_⟩
  split at h2
  · rename_i k e;exact ⟨k,e,h2⟩
  · cases h2
theorem adp (f:Option Kn→Bool) (ks:List (Option Kn)) (i:Nat):(whr f ks i).length≤i:=by
  unfold whr
  exact Nat.le_trans (List.length_filter_le _ _) (by rw [List.length_range];omega)
def ao4:Option Kn→Bool
  | some _=>true
  | none=>false
def va (e:Bool):Option Kn→Bool
  | some (.nd e' _ _)=>decide (e'=e)
  | _=>false
abbrev aa5 (ks:List (Option Kn)):List Nat:=whr ao4 ks ks.length
abbrev jg (e:Bool) (ks:List (Option Kn)):List Nat:=whr (va e) ks ks.length
theorem auc (a b:List Nat):nY (a++b)=nY a++nY b:=by unfold nY;rw [List.map_append]
theorem ad3 {hs:List Nat} {i:Nat} {y:Y} (h:(nY hs)[i]?=some y):∃ n,hs[i]?=some n∧y=.int (n:Int):=by
  unfold nY at h
  rw [List.getElem?_map] at h
  obtain ⟨n,e1,e2⟩:=Option.map_eq_some_iff.mp h
  exact ⟨n,e1,e2.symm⟩
theorem ahr {f:Option Kn→Bool} {ks:List (Option Kn)} {keep:LHp→Prop} {L:LHp} {g:TG3} {tc:TT3} {te:TE3} {τ:St3} {Q:YK} (hz:ks.length≤1000) (hk:keep L)
    (turn:∀ (i:Nat) (k:Option Kn) (R:List Y→LHp→Prop) zs,ks[i]?=some k→(f k=true→R (zs++[.int (i:Int)]) L)→(f k=false→R zs L)→g (.tup [.int (i:Nat),aln k]) (τ++List.replicate 2 none) L fun τ2 L2=>tc τ2 L2 fun b L3=>vf b (te τ2 L3 fun z L4=>R (zs++[z]) L4) (R zs L3))
    (hq:∀ p,L p=none→Q (.ref p) (qh L p (.lst (nY (whr f ks ks.length))))):lcK (aio (osY ks)) keep 2 g tc te τ L Q:=by
  refine aht (fun i zs=>zs=nY (whr f ks i)) (by rw [aax,List.length_map];exact Nat.lt_of_le_of_lt hz (by decide)) hk rfl ?_ ?_
  · rintro i y zs ey rfl
    obtain ⟨z,ez,rfl⟩:=ady ey
    rw [List.getElem?_map] at ez
    obtain ⟨k,ek,rfl⟩:=Option.map_eq_some_iff.mp ez
    refine turn i k _ _ ek (fun h=>⟨L,LSub.refl _,rfl,?_⟩) (fun h=>⟨L,LSub.refl _,rfl,?_⟩)
    · rw [ahi ek,if_pos h,auc];rfl
    · rw [ahi ek,if_neg (by rw [h];exact Bool.false_ne_true),List.append_nil]
  · rintro zs rfl
    rw [aax,List.length_map]
    exact hq
def aao:Sp3:=fun ys L Q=>∃ a,∃ ks:List (Option Kn),ys=[.ref a]∧L a=some (.lst (osY ks))∧ks.length≤1000∧∀ p,L p=none→Q (.ref p) (qh L p (.lst (nY (aa5 ks))))
theorem atq:∀ ys L Q,aao ys L Q→xj ac0 1 ys L Q:=by
  rintro ys L Q ⟨a,ks,rfl,ha,hz,q⟩
  refine vh ha fun keep kp=>ahr (f:=ao4) hz (kp L rfl) (fun i k R zs ek h1 h2=>?_) fun p hp=>fin (q p hp)
  cases k with
  | none=>exact h2 rfl
  | some k=>cases k<;>exact h1 rfl
abbrev ank (a l c:Addr):Y:=.tup [.ref a,.ref l,.ref c]
def ab0:Sp3:=fun ys L Q=>∃ a l c,∃ ks:List (Option Kn),ys=[ank a l c]∧L a=some (.lst (osY ks))∧ks.length≤1000∧∀ p,L p=none→Q (.ref p) (qh L p (.lst (nY (jg true ks))))
theorem asl:∀ ys L Q,ab0 ys L Q→xj adh 1 ys L Q:=by
  rintro ys L Q ⟨a,l,c,ks,rfl,ha,hz,q⟩
  refine vh ha fun keep kp=>ahr (f:=va true) hz (kp L rfl) (fun i k R zs ek h1 h2=>?_) fun p hp=>fin (q p hp)
  cases k with
  | none=>exact h2 rfl
  | some k=>
    cases k with
    | lf t n=>cases t<;>exact h2 rfl
    | nd e i j=>
      cases e with
      | true=>exact h1 rfl
      | false=>exact h2 rfl
def aeo:Sp3:=fun ys L Q=>∃ a l c,∃ ks:List (Option Kn),ys=[ank a l c]∧L a=some (.lst (osY ks))∧ks.length≤1000∧∀ p,L p=none→Q (.ref p) (qh L p (.lst (nY (jg false ks))))
theorem axz (f g:Option Kn→Bool) (ks:List (Option Kn)) (i:Nat):((whr f ks i).filter fun p=>match ks[p]? with | some k=>g k | none=>false)=whr (fun k=>f k&&g k) ks i:=by
  unfold whr
  rw [List.filter_filter]
  refine List.filter_congr fun p _=>?_
  cases ks[p]? with
  | none=>rfl
  | some k=>exact Bool.and_comm _ _
theorem aof (e:Bool) (ks:List (Option Kn)) (i:Nat):whr (fun k=>ao4 k&&va e k) ks i=whr (va e) ks i:=by
  unfold whr
  refine List.filter_congr fun p _=>?_
  cases ks[p]? with
  | none=>rfl
  | some k=>cases k<;>rfl
theorem av4:∀ ys L Q,aeo ys L Q→xj (ahz aao) 1 ys L Q:=by
  rintro ys L Q ⟨a,l,c,ks,rfl,ha,hz,q⟩
  refine ⟨a,ks,rfl,ha,hz,fun p hp=>?_⟩
  have ha1:=LSub.new (o:=.lst (nY (aa5 ks))) hp _ _ ha
  refine vh q8 fun keep kp=>aht (fun i zs=>zs=nY (((aa5 ks).take i).filter fun p=>match ks[p]? with | some k=>va false k | none=>false)) (by rw [aai];exact Nat.lt_of_le_of_lt (Nat.le_trans (adp _ _ _) hz) (by decide)) (kp _ rfl) rfl ?_ ?_
  · rintro i y zs ey rfl
    obtain ⟨n,en,rfl⟩:=ad3 ey
    obtain ⟨hn,k,ek,hk⟩:=adt (List.mem_of_getElem? en)
    have et:(aa5 ks).take (i+1)=(aa5 ks).take i++[n]:=by rw [List.take_succ,en];rfl
    have a1:atI (osY ks) (n:Int)=some (aln k):=vg (by rw [List.getElem?_map,ek];rfl)
    refine ql ha1 (qx a1 ?_)
    cases k with
    | none=>cases hk
    | some k=>
      cases k with
      | lf t nm=>
        have z:Frg (fun zs L'=>L'=qh L p (.lst (nY (aa5 ks)))∧zs=nY (((aa5 ks).take (i+1)).filter fun p=>match ks[p]? with | some k=>va false k | none=>false)) (nY (((aa5 ks).take i).filter fun p=>match ks[p]? with | some k=>va false k | none=>false)) (qh L p (.lst (nY (aa5 ks)))):=by
          refine ⟨_,LSub.refl _,rfl,?_⟩
          rw [et,List.filter_append,List.filter_cons]
          simp [ek,va]
        cases t<;>exact z
      | nd e i' j'=>
        cases e with
        | true=>
          refine ⟨_,LSub.refl _,rfl,?_⟩
          rw [et,List.filter_append,List.filter_cons]
          simp [ek,va]
        | false=>
          refine ⟨_,LSub.refl _,rfl,?_⟩
          rw [et,List.filter_append,List.filter_cons]
          simp [ek,va,nY]
  · rintro zs rfl p2 hp2
    rw [aai,List.take_length,axz,aof]
    have hp3:L p2=none:=jd (LSub.new hp) hp2
    refine aau (L:=qh L p2 (.lst (nY (jg false ks)))) ?_ (q p2 hp3)
    exact LSub.put ((LSub.new (o:=.lst (nY (aa5 ks))) hp).upd hp3) q8
def prN (p:Nat×Nat):Y:=.tup [.int ((p.1:Nat):Int),.int ((p.2:Nat):Int)]
abbrev zj (l:List (Nat×Nat)):List Y:=l.map prN
def jz (ks:List (Option Kn)) (pl:List Nat):List (Nat×Nat):=pl.flatMap fun p=>match ks[p]? with
  | some k=>(wm k).map fun q=>(p,q)
  | none=>[]
theorem ajr (ks:List (Option Kn)) (a b:List Nat):jz ks (a++b)=jz ks a++jz ks b:=by unfold jz;rw [List.flatMap_append]
theorem ak8 {ks:List (Option Kn)} {p:Nat} {k:Option Kn} (h:ks[p]?=some k):jz ks [p]=(wm k).map fun q=>(p,q):=by unfold jz;simp [h]
theorem af7 (k:Option Kn):(wm k).length≤2:=by
  unfold wm
  split<;>simp
theorem ace (ks:List (Option Kn)):∀ pl:List Nat,(jz ks pl).length≤2*pl.length
  | []=>by simp [jz]
  | p::r=>by
    have ih:=ace ks r
    have e:=ajr ks [p] r
    rw [List.singleton_append] at e
    rw [e,List.length_append,List.length_cons]
    cases h:ks[p]? with
    | none=>
      have:jz ks [p]=[]:=by unfold jz;simp [h]
      rw [this];simp;omega
    | some k=>
      rw [ak8 h,List.length_map]
      have:=af7 k;omega
def acf:Sp3:=fun ys L Q=>∃ a b,∃ ks:List (Option Kn),∃ pl:List Nat,ys=[.ref a,.ref b]∧L a=some (.lst (osY ks))∧L b=some (.lst (nY pl))∧pl.length≤1000∧(∀ p∈pl,p<ks.length)∧∀ p,L p=none→Q (.ref p) (qh L p (.lst (zj (jz ks pl))))
theorem art:∀ ys L Q,acf ys L Q→xj (adr aak) 4 ys L Q:=by
  rintro ys L Q ⟨a,b,ks,pl,rfl,ha,hb,hz,hlt,q⟩
  intro p hp
  have hap:a≠p:=neL ha hp
  have hbp:b≠p:=neL hb hp
  refine xu (ys:=nY pl) (zg ((qf hbp).trans hb)) (fun i τ L'=>∃ c,τ=[some (.ref a),some (.ref b),some (.ref p),c]∧L'=qh L p (.lst (zj (jz ks (pl.take i))))) ⟨_,rfl,rfl⟩ ?_ ?_ ?_
  · rintro i τ L' ⟨c,rfl,rfl⟩
    rw [qf hbp,qf hbp]
  · rintro i y τ L' hy ⟨c,rfl,rfl⟩
    obtain ⟨n,en,rfl⟩:=ad3 hy
    have hn:=hlt n (List.mem_of_getElem? en)
    obtain ⟨k,ek⟩:∃ k,ks[n]?=some k:=⟨_,List.getElem?_eq_getElem hn⟩
    have a1:atI (osY ks) (n:Int)=some (aln k):=vg (by rw [List.getElem?_map,ek];rfl)
    have et:pl.take (i+1)=pl.take i++[n]:=by rw [List.take_succ,en];rfl
    refine ql q8 (ql ((qf hap).trans ha) (qx a1 ⟨k,rfl,fun p2 hp2=>?_⟩))
    refine vh q8 fun keep kp=>aht (fun j zs=>zs=zj (((wm k).take j).map fun q=>(n,q))) (by rw [aai];exact Nat.lt_of_le_of_lt (af7 k) (by decide)) (kp _ rfl) rfl ?_ ?_
    · rintro j y zs ey rfl
      obtain ⟨m,em,rfl⟩:=ad3 ey
      refine ⟨_,LSub.refl _,rfl,?_⟩
      rw [List.take_succ,em,List.map_append]
      unfold zj
      rw [List.map_append];rfl
    · rintro zs rfl p3 hp3
      rw [aai,List.take_length]
      have hp32:p≠p3:=neL ((qf (neL q8 hp2)).trans q8) hp3
      refine qz ((qf hp32).trans ((qf (neL q8 hp2)).trans q8)) (qz q8 ⟨?_,?_⟩)
      · rw [List.length_map,List.length_map,List.length_map]
        have h1:=ace ks (pl.take i)
        have h2:=af7 k
        have h3:(pl.take i).length≤1000:=by rw [List.length_take];omega
        have hb:(3000:Nat)≤sizeLine:=by decide
        omega
      · refine ⟨qh L p (.lst (zj (jz ks (pl.take (i+1))))),?_,_,rfl,rfl⟩
        have e:zj (jz ks (pl.take i))++zj ((wm k).map fun q=>(n,q))=zj (jz ks (pl.take (i+1))):=by rw [et,ajr,ak8 ek];unfold zj;rw [List.map_append]
        rw [e]
        have n2:L p2=none:=jd (LSub.new hp) hp2
        have n3:L p3=none:=jd ((LSub.new hp).trans (LSub.new hp2)) hp3
        exact LSub.put ((((LSub.new hp).trans (LSub.new hp2)).trans (LSub.new hp3)).upd hp) q8
  · rintro τ L' ⟨c,rfl,rfl⟩
    rw [aai,List.take_length]
    exact fin (q p hp)
def xm (ks:List (Option Kn)) (lk ct:List (Nat×Nat)):List (Nat×Nat):=(lk++ct)++jz ks (jg false ks)
def aar:Sp3:=fun ys L Q=>∃ a l c,∃ ks:List (Option Kn),∃ lk ct:List (Nat×Nat),ys=[ank a l c]∧L a=some (.lst (osY ks))∧L l=some (.lst (zj lk))∧L c=some (.lst (zj ct))∧ks.length≤1000∧lk.length≤1000∧ct.length≤1000∧∀ p,L p=none→Q (.ref p) (qh L p (.lst (zj (xm ks lk ct))))
theorem ato:∀ ys L Q,aar ys L Q→xj (aig acf aeo) 1 ys L Q:=by
  rintro ys L Q ⟨a,l,c,ks,lk,ct,rfl,ha,hl,hc,hz,hz1,hz2,q⟩
  have hb:(10000:Nat)<sizeLine:=by decide
  refine ⟨_,_,hl,hc,by rw [List.length_map,List.length_map];omega,fun p1 hp1=>?_⟩
  have ha1:=LSub.new (o:=.lst (zj lk++zj ct)) hp1 _ _ ha
  refine ⟨a,l,c,ks,rfl,ha1,hz,fun p2 hp2=>?_⟩
  have ha2:=LSub.new (o:=.lst (nY (jg false ks))) hp2 _ _ ha1
  refine ⟨a,p2,ks,jg false ks,rfl,ha2,q8,Nat.le_trans (adp _ _ _) hz,fun p hp=>(adt hp).1,fun p3 hp3=>?_⟩
  have e1:=LSub.new (o:=.lst (zj (jz ks (jg false ks)))) hp3 _ _ (LSub.new (o:=.lst (nY (jg false ks))) hp2 _ _ (q8 (L:=L) (a:=p1) (o:=.lst (zj lk++zj ct))))
  refine ⟨_,_,e1,q8,?_,fun p4 hp4=>?_⟩
  · have:=ace ks (jg false ks)
    have:(jg false ks).length≤ks.length:=adp (va false) ks ks.length
    rw [List.length_append,List.length_map,List.length_map,List.length_map];omega
  · have n1:LSub L (qh (qh (qh L p1 (.lst (zj lk++zj ct))) p2 (.lst (nY (jg false ks)))) p3 (.lst (zj (jz ks (jg false ks))))):=((LSub.new hp1).trans (LSub.new hp2)).trans (LSub.new hp3)
    have n4:L p4=none:=jd n1 hp4
    refine aau (L:=qh L p4 (.lst (zj (xm ks lk ct)))) ?_ (q p4 n4)
    have e:zj lk++zj ct++zj (jz ks (jg false ks))=zj (xm ks lk ct):=by unfold zj xm;rw [List.map_append,List.map_append]
    rw [e]
    exact LSub.put (n1.upd n4) q8
end L3
namespace L3
open PySem L2 Words
local macro_rules | `(tactic| walk_at "w")=>`(tactic| conv=>whnf)
def aee (C_Pieces:Addr) (p_Pieces_unite:Sp3):TS3:=(qw (z9 (w6 qm) (qj 2))
  (qw (ac7 (xa (qb 1)) (aa7 2 (zp (qj 3) (zp (qj 4) aa2))) (kc (yB (ag5 C_Pieces "unite" p_Pieces_unite (qb 0) (qc (qb 3) (qc (qb 4) qm)))) (v4 (yBL jj (qb 2) (qc (k8 (qc (yC (.str "join")) (qc (qb 3) (qc (qb 4) qm)))) qm))) x9))
  (j9 (qb 2))))
def aih (C_Pieces:Addr) (p_parts_of:Sp3) (p_Pieces_head_of:Sp3):TS3:=(qw (z9 (yLC 1 (xa (zc p_parts_of (qc (yOp yIx (qb 1) (qb 2)) qm))) (qj 4) av8 (ag5 C_Pieces "head_of" p_Pieces_head_of (qb 0) (qc (qb 4) qm))) (qj 3))
  (j9 (ag3 (yOp (yEq false) (yOp yIx (qb 3) (yC (.int 0))) (yOp yIx (qb 3) (yC (.int 1)))) (yOp (yEq true) (yOp yIx (qb 3) (yC (.int 0))) (ag5 C_Pieces "head_of" p_Pieces_head_of (qb 0) (qc (qb 2) qm))))))
def ae8 (C_Pieces:Addr) (p_can_fold:Sp3) (p_Pieces_unite:Sp3):TS3:=(qw (z9 (w6 qm) (qj 3))
  (qw (z9 (yUn azy (yC (.int 1))) (qj 4))
  (qw (ahm (yB (yOp yLt (qb 4) (yCB wu (qc (qb 3) qm)))) (qw (z9 (yCB wu (qc (qb 3) qm)) (qj 4))
  (ac7 (xa (qb 2)) (qj 5) (kc (yB (zc p_can_fold (qc (qb 0) (qc (qb 1) (qc (qb 5) qm))))) (qw (v4 (ag5 C_Pieces "unite" p_Pieces_unite (qb 0) (qc (qb 5) (qc (yOp yIx (yOp yIx (qb 1) (qb 5)) (yC (.int 1))) qm))))
  (v4 (yBL jj (qb 3) (qc (k8 (qc (yC (.str "fold")) (qc (qb 5) qm))) qm)))) x9))))
  (j9 (qb 3)))))
def aij (C_Pieces:Addr) (p_Pieces_init:Sp3) (p_join_steps:Sp3) (p_fold_steps:Sp3):TS3:=(qw (z9 (asd C_Pieces p_Pieces_init (qc (yCB wu (qc (qb 0) qm)) qm)) (qj 3))
  (j9 (yOp ju (zc p_join_steps (qc (qb 3) (qc (qb 1) qm))) (zc p_fold_steps (qc (qb 3) (qc (qb 0) (qc (qb 2) qm)))))))
def wo (p_places_there:Sp3) (p_steps_by:Sp3):TS3:=(qw (z9 (yOp ao6 (yCB wu (qc (zc p_places_there (qc (qb 0) qm)) qm)) (yC (.int 1))) (qj 3))
  (j9 (ag3 (yOp (yEq false) (yOp ju (yCB wu (qc (qb 1) qm)) (yCB wu (qc (qb 2) qm))) (qb 3)) (yOp (yEq false) (yCB wu (qc (zc p_steps_by (qc (qb 0) (qc (qb 1) (qc (qb 2) qm)))) qm)) (qb 3)))))
def agb (p_all_come_together:Sp3) (p_eithers_of:Sp3) (p_joins_of:Sp3):TS3:=(j9 (zc p_all_come_together (qc (yOp yIx (qb 0) (yC (.int 0))) (qc (zc p_joins_of (qc (qb 0) qm)) (qc (zc p_eithers_of (qc (qb 0) qm)) qm)))))
def aft (p_right_web:Sp3) (p_joins_of:Sp3) (p_eithers_of:Sp3) (p_all_come_together:Sp3):TS3:=(qw (kc (yB (zc p_right_web (qc (qb 0) qm))) (j9 (yC .non)) x9)
  (qw (z9 (yOp yIx (qb 0) (yC (.int 0))) (qj 1))
  (qw (z9 (zc p_joins_of (qc (qb 0) qm)) (qj 2))
  (qw (z9 (zc p_eithers_of (qc (qb 0) qm)) (qj 3))
  (qw (z9 (w6 qm) (qj 4))
  (qw (ac7 (adc (qb 3)) (aa7 2 (zp (qj 5) (zp (qj 6) aa2))) (qw (z9 (k8 (qc (qb 6) (qc (yOp yIx (yOp yIx (qb 1) (qb 6)) (yC (.int 1))) qm))) (qj 7))
  (qw (z9 (yIf (yB (zc p_all_come_together (qc (qb 1) (qc (yOp ju (qb 2) (w6 (qc (qb 7) qm))) (qc (ySl aj1 (qb 3) (abf (yOp ju (qb 5) (yC (.int 1)))) aab) qm))))) (yC (.int 1)) (yC (.int 0))) (qj 8))
  (qw (v4 (yBL jj (qb 4) (qc (qb 8) qm)))
  (v4 (yBL jj (qb 2) (qc (k8 (qc (qb 6) (qc (yOp yIx (yOp yIx (qb 1) (qb 6)) (yOp ju (yC (.int 1)) (qb 8))) qm))) qm)))))))
  (j9 (qb 4))))))))
def Gd (hs hs':List Nat):Prop:=hs'.length=hs.length∧∃ rk,Rkd rk hs'
theorem ay3:(100000:Nat)≤sizeLine:=by decide
def ach (C:Addr):Sp3:=fun ys L Q=>∃ o hp j,∃ hs:List Nat,∃ ps:List (Nat×Nat),ys=[.ref o,.ref j]∧L o=some (.ins C (fsP hp))∧L hp=some (.lst (nY hs))∧L j=some (.lst (zj ps))∧j≠hp∧(∃ rk,Rkd rk hs)∧(∀ x∈ps,x.1<hs.length∧x.2<hs.length)∧ps.length≤10000∧
  ∀ s zs hs',L s=none→Gd hs hs'→zs.length≤ps.length→zs.length+rts hs'=rts hs→Q (.ref s) (qh (qh L hp (.lst (nY hs'))) s (.lst zs))
theorem aqd {C:Addr}:∀ ys L Q,ach C ys L Q→xj (aee C (aa1 C)) 5 ys L Q:=by
  rintro ys L Q ⟨o,hp,j,hs,ps,rfl,ho,hhp,hj,hjp,hrk,hlt,hz,q⟩
  intro s hs0
  have hop:o≠hp:=as9 ho hhp (fun e=>by cases e)
  have hos:o≠s:=neL ho hs0
  have hps:hp≠s:=neL hhp hs0
  have hjs:j≠s:=neL hj hs0
  have fo:∀ A Z,(qh (qh L hp A) s Z) o=some (.ins C (fsP hp)):=fun A Z=>(qf hos).trans ((qf hop).trans ho)
  have fh:∀ A Z,(qh (qh L hp A) s Z) hp=some A:=fun A Z=>(qf hps).trans q8
  have fj:∀ A Z,(qh (qh L hp A) s Z) j=some (.lst (zj ps)):=fun A Z=>(qf hjs).trans ((qf hjp).trans hj)
  have e0:qh L s (.lst [])=qh (qh L hp (.lst (nY hs))) s (.lst []):=by rw [aan hhp]
  refine xu (ys:=zj ps) (zg ((qf hjs).trans hj)) (fun i τ L'=>∃ hs' zs c3 c4,τ=[some (.ref o),some (.ref j),some (.ref s),c3,c4]∧L'=qh (qh L hp (.lst (nY hs'))) s (.lst zs)∧Gd hs hs'∧zs.length≤i∧zs.length+rts hs'=rts hs) ⟨hs,[],_,_,rfl,e0,⟨rfl,hrk⟩,Nat.le_refl _,Nat.zero_add _⟩ ?_ ?_ ?_
  · rintro i τ L' ⟨hs',zs,c3,c4,rfl,rfl,_⟩
    rw [fj,qf hjs,hj]
  · rintro i y τ L' hy ⟨hs',zs,c3,c4,rfl,rfl,⟨g1,rk,g2⟩,hzi,hrt⟩
    rw [List.getElem?_map] at hy
    obtain ⟨⟨p,q'⟩,ex,rfl⟩:=Option.map_eq_some_iff.mp hy
    obtain ⟨h1,h2⟩:=hlt _ (List.mem_of_getElem? ex)
    have h1:p<hs.length:=h1
    have h2:q'<hs.length:=h2
    have hi:=j7 ex
    obtain ⟨a,ta⟩:=g2.rep' (i:=p) (by omega)
    obtain ⟨b,tb⟩:=g2.rep' (i:=q') (by omega)
    refine xr (fo _ _) ⟨rfl,ai5,o,hp,hs',p,q',a,b,_,_,rfl,rfl,rfl,fo _ _,fh _ _,⟨rk,g2⟩,ta,tb,by omega,by omega,fun hs2 l2 k2 r2 e1 e2=>?_⟩
    rw [aal (Ne.symm hps),zd]
    by_cases c:a=b
    · refine kf (by rw [decide_eq_true c];rfl) ⟨_,LSub.refl _,hs2,zs,_,_,rfl,rfl,⟨by omega,k2⟩,by omega,by rw [e1 c];exact hrt⟩
    · refine adb (by rw [decide_eq_false c];rfl) ?_
      have:=e2 c
      refine ql q8 (qz q8 ⟨Nat.lt_of_le_of_lt (by omega:zs.length≤10000) (by decide),_,LSub.refl _,hs2,zs++[_],_,_,rfl,zd,⟨by omega,k2⟩,?_,?_⟩)
      · rw [List.length_append,List.length_singleton];omega
      · rw [List.length_append,List.length_singleton];omega
  · rintro τ L' ⟨hs',zs,c3,c4,rfl,rfl,g,hzi,hrt⟩
    rw [List.length_map] at hzi
    exact fin (q s zs hs' hs0 g hzi hrt)
def aek (C:Addr):Sp3:=fun ys L Q=>∃ o hp a,∃ hs:List Nat,∃ ks:List (Option Kn),∃ p i j:Nat,∃ e:Bool,∃ pi:Int,ys=[.ref o,.ref a,.int pi]∧pi=(p:Int)∧L o=some (.ins C (fsP hp))∧L hp=some (.lst (nY hs))∧L a=some (.lst (osY ks))∧a≠hp∧(∃ rk,Rkd rk hs)∧
  ks[p]?=some (some (.nd e i j))∧p<hs.length∧i<hs.length∧j<hs.length∧
  ∀ ri rj rp hs',Rep hs i ri→Rep hs j rj→Rep hs p rp→Gd hs hs'→(∀ x s,Rep hs x s→Rep hs' x s)→rts hs'=rts hs→Q (.bl (decide (ri=rj)&&!decide (ri=rp))) (qh L hp (.lst (nY hs')))
theorem alq (a b:Nat):decide ((a:Int)=(b:Int))=decide (a=b):=by
  by_cases c:a=b
  · rw [decide_eq_true c];exact decide_eq_true (by omega)
  · rw [decide_eq_false c];exact decide_eq_false (by omega)
theorem avh {C:Addr}:∀ ys L Q,aek C ys L Q→xj (aih C aak (ab2 C)) 4 ys L Q:=by
  rintro ys L Q ⟨o,hp,a,hs,ks,p,i,j,e,pi,rfl,rfl,ho,hhp,ha,hap,⟨rk,hr⟩,ek,hp1,hi1,hj1,q⟩
  have a1:atI (osY ks) (p:Int)=some (aln (some (.nd e i j))):=vg (by rw [List.getElem?_map,ek];rfl)
  obtain ⟨ri,ti⟩:=hr.rep' hi1
  obtain ⟨rj,tj⟩:=hr.rep' hj1
  obtain ⟨rp,tp⟩:=hr.rep' hp1
  refine ql ha (qx a1 ⟨some (.nd e i j),rfl,fun p2 hp2=>?_⟩)
  have hop:o≠hp:=as9 ho hhp (fun e=>by cases e)
  have ho2:o≠p2:=neL ho hp2
  have hh2:hp≠p2:=neL hhp hp2
  have fo:∀ A Z,(qh (qh L p2 Z) hp A) o=some (.ins C (fsP hp)):=fun A Z=>(qf hop).trans ((qf ho2).trans ho)
  refine vh q8 fun keep kp=>ao0 ⟨by show 2<sizeLine;decide,fun k zs L'=>∃ hs',L'=qh (qh L p2 (.lst (nY [i,j]))) hp (.lst (nY hs'))∧hs'.length=hs.length∧Rkd rk hs'∧(∀ x s,Rep hs x s→Rep hs' x s)∧rts hs'=rts hs∧zs=nY ([ri,rj].take k),⟨hs,?_,rfl,hr,fun _ _ h=>h,rfl,rfl⟩,?_,?_,?_⟩
  · exact (aan ((qf hh2).trans hhp)).symm
  · rintro k zs L' ⟨hs',rfl,_⟩
    exact kp _ (by rw [qf (Ne.symm hh2)];rfl)
  · rintro k y zs L' hy ⟨hs',rfl,l1,k1,t1,n1,rfl⟩
    obtain ⟨n,en,rfl⟩:=ad3 hy
    have hn:n<hs.length∧∃ rn,Rep hs n rn∧nY ([ri,rj].take k)++[.int (rn:Int)]=nY ([ri,rj].take (k+1)):=by
      match k,en with
      | 0,en=>cases en;exact ⟨hi1,ri,ti,rfl⟩
      | 1,en=>cases en;exact ⟨hj1,rj,tj,rfl⟩
    obtain ⟨hn,rn,tn,ezs⟩:=hn
    refine xr (fo _ _) ⟨rfl,aci,o,hp,hs',n,_,rk,rfl,rfl,fo _ _,q8,k1,by omega,fun r hs2 l2 k2 t2 a2 n2=>?_⟩
    cases t2.uniq (t1 _ _ tn)
    exact ⟨_,LSub.refl _,hs2,zd,by omega,k2,fun x s z=>a2 x s (t1 x s z),by omega,ezs⟩
  · rintro zs L' ⟨hs',rfl,l1,k1,t1,n1,rfl⟩ p3 hp3
    have hp3':L p3=none:=jd (LSub.new hp2) (x5 hp3)
    have ne3:hp≠p3:=neL q8 hp3
    have f0:atI (nY ([ri,rj].take (nY (wm (some (Kn.nd e i j)))).length)) 0=some (.int (ri:Int)):=rfl
    have f1:atI (nY ([ri,rj].take (nY (wm (some (Kn.nd e i j)))).length)) 1=some (.int (rj:Int)):=rfl
    refine ql q8 (qx f0 (ql q8 (qx f1 ?_)))
    have fo3:∀ Z,(qh (qh (qh L p2 (.lst (nY [i,j]))) hp (.lst (nY hs'))) p3 Z) o=some (.ins C (fsP hp)):=fun Z=>(qf (neL (fo _ _) hp3)).trans (fo _ _)
    have sub:∀ (hs2:List Nat) Z,LSub (qh L hp (.lst (nY hs2))) (qh (qh (qh (qh L p2 (.lst (nY [i,j]))) hp (.lst (nY hs'))) p3 Z) hp (.lst (nY hs2))):=fun hs2 Z b u e=>by
      by_cases c:b=hp
      · subst c;rw [q8] at e ⊢;exact e
      · rw [qf c] at e
        rw [qf c,qf (neL e hp3'),qf c,qf (neL e hp2)]
        exact e
    show vf (decide ((ri:Int)=(rj:Int))) _ _
    rw [alq]
    refine we (fun c=>?_) (fun c=>?_)
    · refine ql q8 (qx f0 ?_)
      refine xr (fo3 _) ⟨rfl,aci,o,hp,hs',p,_,rk,rfl,rfl,fo3 _,(qf ne3).trans q8,k1,by omega,fun r hs2 l2 k2 t2 a2 n2=>?_⟩
      cases t2.uniq (t1 _ _ tp)
      show aev Q (.bl (!decide ((ri:Int)=(rp:Int)))) _
      rw [alq]
      have:=q ri rj rp hs2 ti tj tp ⟨by omega,rk,k2⟩ (fun x s z=>a2 x s (t1 x s z)) (by omega)
      rw [decide_eq_true c,Bool.true_and] at this
      exact aau (sub hs2 _) this
    · have:=q ri rj rp hs' ti tj tp ⟨by omega,rk,k1⟩ t1 n1
      rw [decide_eq_false c,Bool.false_and] at this
      refine aau (L:=qh L hp (.lst (nY hs'))) (fun b u eb=>?_) this
      have z:=sub hs' (.lst (nY ([ri,rj].take (nY (wm (some (Kn.nd e i j)))).length))) b u
      have e2:qh (qh (qh (qh L p2 (.lst (nY [i,j]))) hp (.lst (nY hs'))) p3 (.lst (nY ([ri,rj].take (nY (wm (some (Kn.nd e i j)))).length)))) hp (.lst (nY hs'))=qh (qh (qh L p2 (.lst (nY [i,j]))) hp (.lst (nY hs'))) p3 (.lst (nY ([ri,rj].take (nY (wm (some (Kn.nd e i j)))).length))):=aan ((qf ne3).trans q8)
      rw [e2] at z
      exact z eb
def a1n (ks:List (Option Kn)) (n p:Nat):Prop:=∃ e i j,ks[p]?=some (some (.nd e i j))∧p<n∧i<n∧j<n
def acd (C:Addr):Sp3:=fun ys L Q=>∃ o hp a b,∃ hs:List Nat,∃ ks:List (Option Kn),∃ es:List Nat,ys=[.ref o,.ref a,.ref b]∧L o=some (.ins C (fsP hp))∧L hp=some (.lst (nY hs))∧L a=some (.lst (osY ks))∧L b=some (.lst (nY es))∧a≠hp∧b≠hp∧(∃ rk,Rkd rk hs)∧(∀ p∈es,a1n ks hs.length p)∧hs.length≤1000∧
  ∀ s zs hs',L s=none→Gd hs hs'→zs.length+rts hs'=rts hs→Q (.ref s) (qh (qh L hp (.lst (nY hs'))) s (.lst zs))
theorem atw (hs:List Nat):rts hs≤hs.length:=by
  unfold rts
  exact Nat.le_trans (List.countP_le_length) (by rw [List.length_range];omega)
theorem aqf {C:Addr}:∀ ys L Q,acd C ys L Q→xj (ae8 C (aek C) (aa1 C)) 6 ys L Q:=by
  rintro ys L Q ⟨o,hp,a,b,hs,ks,es,rfl,ho,hhp,ha,hb,hap,hbp,hrk,hes,hlen,q⟩
  intro s hs0
  have hop:o≠hp:=as9 ho hhp (fun e=>by cases e)
  have hos:o≠s:=neL ho hs0
  have hps:hp≠s:=neL hhp hs0
  have fo:∀ A Z,(qh (qh L hp A) s Z) o=some (.ins C (fsP hp)):=fun A Z=>(qf hos).trans ((qf hop).trans ho)
  have fh:∀ A Z,(qh (qh L hp A) s Z) hp=some A:=fun A Z=>(qf hps).trans q8
  have fa:∀ A Z,(qh (qh L hp A) s Z) a=some (.lst (osY ks)):=fun A Z=>(qf (neL ha hs0)).trans ((qf hap).trans ha)
  have fb:∀ A Z,(qh (qh L hp A) s Z) b=some (.lst (nY es)):=fun A Z=>(qf (neL hb hs0)).trans ((qf hbp).trans hb)
  have e0:qh L s (.lst [])=qh (qh L hp (.lst (nY hs))) s (.lst []):=by rw [aan hhp]
  refine ⟨fun m τ L'=>∃ hs' zs,∃ bf:Int,∃ c5,τ=[some (.ref o),some (.ref a),some (.ref b),some (.ref s),some (.int bf),c5]∧L'=qh (qh L hp (.lst (nY hs'))) s (.lst zs)∧Gd hs hs'∧zs.length+rts hs'=rts hs∧m=2*rts hs'+(if bf<(zs.length:Int) then 1 else 0),⟨_,hs,[],-1,_,rfl,e0,⟨rfl,hrk⟩,Nat.zero_add _,rfl⟩,?_⟩
  rintro m τ L' ⟨hs',zs,bf,c5,rfl,rfl,g,hrt,rfl⟩
  refine ql q8 ?_
  show vf (decide (bf<(zs.length:Int))) _ _
  refine we (fun c=>?_) (fun c=>fin (q s zs hs' hs0 g hrt))
  refine ⟨_,fun _ _ h=>h,ql q8 ?_⟩
  refine xu (ys:=nY es) (zg (fb _ _)) (fun i τ L'=>∃ hs2 zs2 c5,τ=[some (.ref o),some (.ref a),some (.ref b),some (.ref s),some (.int (zs.length:Int)),c5]∧L'=qh (qh L hp (.lst (nY hs2))) s (.lst zs2)∧Gd hs hs2∧zs2.length+rts hs2=rts hs∧zs.length≤zs2.length) ⟨hs',zs,_,rfl,rfl,g,hrt,Nat.le_refl _⟩ ?_ ?_ ?_
  · rintro i τ L' ⟨hs2,zs2,c5,rfl,rfl,_⟩
    rw [fb,fb]
  · rintro i y τ L' hy ⟨hs2,zs2,c5,rfl,rfl,⟨g1,rk,g2⟩,hrt2,hzz⟩
    obtain ⟨p,ep,rfl⟩:=ad3 hy
    obtain ⟨e,i',j',ek,h1,h2,h3⟩:=hes p (List.mem_of_getElem? ep)
    have a1:atI (osY ks) (p:Int)=some (aln (some (.nd e i' j'))):=vg (by rw [List.getElem?_map,ek];rfl)
    refine ⟨o,hp,a,hs2,ks,p,i',j',e,_,rfl,rfl,fo _ _,fh _ _,fa _ _,hap,⟨rk,g2⟩,ek,by omega,by omega,by omega,fun ri rj rp hs3 ti tj tp ⟨l3,k3⟩ t3 n3=>?_⟩
    rw [aal (Ne.symm hps),zd]
    cases cc:(decide (ri=rj)&&!decide (ri=rp)) with
    | false=>
      exact ⟨_,LSub.refl _,hs3,zs2,_,rfl,rfl,⟨by omega,k3⟩,by omega,hzz⟩
    | true=>
      have c2:ri≠rp:=by
        have:=(Bool.and_eq_true _ _▸cc).2
        intro z
        rw [decide_eq_true z] at this
        cases this
      refine xr (fo _ _) ⟨rfl,ai5,ql (fa _ _) (qx a1 ⟨o,hp,hs3,p,i',rp,ri,_,_,rfl,rfl,rfl,fo _ _,fh _ _,k3,t3 _ _ tp,t3 _ _ ti,by omega,by omega,fun hs4 l4 k4 r4 e1 e2=>?_⟩)⟩
      rw [aal (Ne.symm hps),zd]
      have e3:=e2 (Ne.symm c2)
      have hb2:=atw hs
      refine ql q8 (qz q8 ⟨Nat.lt_of_le_of_lt (by omega:zs2.length≤1000) (by decide),_,LSub.refl _,hs4,zs2++[_],_,rfl,zd,⟨by omega,k4⟩,?_,?_⟩)
      · rw [List.length_append,List.length_singleton];omega
      · rw [List.length_append,List.length_singleton];omega
  · rintro τ L' ⟨hs2,zs2,c5,rfl,rfl,g2,hrt2,hzz⟩
    refine ⟨_,LSub.refl _,2*rts hs2+(if ((zs.length:Nat):Int)<(zs2.length:Int) then 1 else 0),?_,hs2,zs2,_,_,rfl,rfl,g2,hrt2,rfl⟩
    rw [if_pos c]
    split<;>omega
end L3
namespace L3
open PySem L2 Words
local macro_rules | `(tactic| walk_at "w")=>`(tactic| conv=>whnf)
theorem aex {b:Bool} {A B:Prop} (h1:A) (h2:B):vf b A B:=by cases b<;>assumption
def adz (n:Nat) (ps:List (Nat×Nat)):Prop:=∀ x∈ps,x.1<n∧x.2<n
def KnR (ks:List (Option Kn)):Prop:=∀ (p:Nat) (e:Bool) (i j:Nat),ks[p]?=some (some (Kn.nd e i j))→i<ks.length∧j<ks.length
theorem as7 (n:Nat):Rkd (fun _=>0) (List.range n):=fun i h e=>by
  have hi:i<n:=by have:=j7 e;rwa [List.length_range] at this
  rw [List.getElem?_range hi] at e
  cases e
  exact ⟨by rw [List.length_range];exact hi,fun z=>absurd rfl z⟩
def ab5 (C:Addr):Sp3:=fun ys L Q=>∃ a j b,∃ ks:List (Option Kn),∃ ps:List (Nat×Nat),∃ es:List Nat,ys=[.ref a,.ref j,.ref b]∧L a=some (.lst (osY ks))∧L j=some (.lst (zj ps))∧L b=some (.lst (nY es))∧ks.length≤1000∧adz ks.length ps∧ps.length≤10000∧(∀ p∈es,a1n ks ks.length p)∧
  ∀ zs p,L p=none→Q (.ref p) (qh L p (.lst zs))
theorem ao3 {C:Addr}:∀ ys L Q,ab5 C ys L Q→xj (aij C (ac4 C) (ach C) (acd C)) 4 ys L Q:=by
  rintro ys L Q ⟨a,j,b,ks,ps,es,rfl,ha,hj,hb,hz,hps,hpl,hes,q⟩
  refine ql ha fun x hx=>⟨x,ks.length,_,rfl,by rw [List.length_map],q8,hz,fun hp hhp=>⟨rfl,?_⟩⟩
  have hxp:x≠hp:=neL q8 hhp
  have nhp:L hp=none:=x5 hhp
  have hx2:(qh (qh (qh L x (.ins C [])) hp (.lst (nY (List.range ks.length)))) x (.ins C (fsP hp))) x=some (.ins C (fsP hp)):=q8
  have hh2:(qh (qh (qh L x (.ins C [])) hp (.lst (nY (List.range ks.length)))) x (.ins C (fsP hp))) hp=some (.lst (nY (List.range ks.length))):=(qf (Ne.symm hxp)).trans q8
  have sub:LSub L (qh (qh (qh L x (.ins C [])) hp (.lst (nY (List.range ks.length)))) x (.ins C (fsP hp))):=(((LSub.new hx).trans (LSub.new hhp)).upd hx)
  generalize qh (qh (qh L x (.ins C [])) hp (.lst (nY (List.range ks.length)))) x (.ins C (fsP hp))=L2 at hx2 hh2 sub
  have ln:(List.range ks.length).length=ks.length:=List.length_range
  refine ⟨x,hp,j,List.range ks.length,ps,rfl,hx2,hh2,sub _ _ hj,neL hj nhp,⟨_,as7 _⟩,fun y hy=>by rw [ln];exact hps y hy,hpl,fun s1 zs1 hs1 n1 g1 z1 r1=>?_⟩
  have hs1p:hp≠s1:=neL hh2 n1
  refine ⟨x,hp,a,b,hs1,ks,es,rfl,(qf (neL hx2 n1)).trans ((qf hxp).trans hx2),(qf hs1p).trans q8,(qf (neL (sub _ _ ha) n1)).trans ((qf (neL ha nhp)).trans (sub _ _ ha)),(qf (neL (sub _ _ hb) n1)).trans ((qf (neL hb nhp)).trans (sub _ _ hb)),neL ha nhp,neL hb nhp,g1.2,fun p hp=>by rw [g1.1,ln];exact hes p hp,by rw [g1.1,ln];exact hz,fun s2 zs2 hs2 n2 g2 r2=>?_⟩
  have e1:(qh (qh (qh (qh L2 hp (.lst (nY hs1))) s1 (.lst zs1)) hp (.lst (nY hs2))) s2 (.lst zs2)) s1=some (.lst zs1):=(qf (neL q8 n2)).trans ((qf (Ne.symm hs1p)).trans q8)
  have l1:=atw (List.range ks.length)
  rw [ln] at l1
  have hb5:=ay3
  refine ⟨_,_,e1,q8,by omega,fun p4 hp4=>?_⟩
  have np4:L2 p4=none:=x5 (x5 (x5 (x5 hp4)))
  have np4':L p4=none:=jd sub np4
  refine aau (L:=qh L p4 (.lst (zs1++zs2))) (fun y u e=>?_) (q _ p4 np4')
  by_cases c:y=p4
  · subst c;rw [q8] at e ⊢;exact e
  · rw [qf c] at e
    have e2:=sub _ _ e
    have ns2:L2 s2=none:=x5 (x5 n2)
    rw [qf c,qf (neL e2 ns2),qf (neL e nhp),qf (neL e2 n1),qf (neL e nhp)]
    exact e2
def af5:Sp3:=fun ys L Q=>∃ a j b,∃ ks:List (Option Kn),∃ ps:List (Nat×Nat),∃ es:List Nat,ys=[.ref a,.ref j,.ref b]∧L a=some (.lst (osY ks))∧L j=some (.lst (zj ps))∧L b=some (.lst (nY es))∧ks.length≤1000∧adz ks.length ps∧ps.length≤10000∧(∀ p∈es,a1n ks ks.length p)∧∀ r,Q (.bl r) L
theorem azr {C:Addr}:∀ ys L Q,af5 ys L Q→xj (wo aao (ab5 C)) 4 ys L Q:=by
  rintro ys L Q ⟨a,j,b,ks,ps,es,rfl,ha,hj,hb,hz,hps,hpl,hes,q⟩
  refine ⟨a,ks,rfl,ha,hz,fun p1 hp1=>ql q8 ?_⟩
  have s1:LSub L (qh L p1 (.lst (nY (aa5 ks)))):=LSub.new hp1
  refine ql (s1 _ _ hj) (ql (s1 _ _ hb) ?_)
  refine aex ?_ (aau s1 (q _))
  refine ⟨a,j,b,ks,ps,es,rfl,s1 _ _ ha,s1 _ _ hj,s1 _ _ hb,hz,hps,hpl,hes,fun zs p2 hp2=>ql q8 ?_⟩
  exact aau (s1.trans (LSub.new hp2)) (q _)
theorem ak0 {ks:List (Option Kn)} {lk ct:List (Nat×Nat)} (h1:adz ks.length lk) (h2:adz ks.length ct) (h3:KnR ks):adz ks.length (xm ks lk ct):=by
  intro x hx
  unfold xm at hx
  rcases List.mem_append.mp hx with hx | hx
  · rcases List.mem_append.mp hx with hx | hx
    · exact h1 x hx
    · exact h2 x hx
  · unfold jz at hx
    obtain ⟨p,hp,hx⟩:=List.mem_flatMap.mp hx
    obtain ⟨hp1,k,ek,hk⟩:=adt hp
    rw [ek] at hx
    obtain ⟨q,hq,rfl⟩:=List.mem_map.mp hx
    cases k with
    | none=>cases hq
    | some k=>
      cases k with
      | lf t n=>cases hq
      | nd e i j=>
        obtain ⟨a1,a2⟩:=h3 p e i j ek
        have hq:q∈[i,j]:=hq
        refine ⟨hp1,?_⟩
        rcases List.mem_cons.mp hq with rfl | hq
        · exact a1
        · rw [List.mem_singleton.mp hq];exact a2
theorem aju {ks:List (Option Kn)} {lk ct:List (Nat×Nat)}:(xm ks lk ct).length≤lk.length+ct.length+2*ks.length:=by
  unfold xm
  rw [List.length_append,List.length_append]
  have h1:=ace ks (jg false ks)
  have h2:(jg false ks).length≤ks.length:=adp (va false) ks ks.length
  omega
theorem aku {ks:List (Option Kn)} {e:Bool} (h3:KnR ks):∀ p∈jg e ks,∃ i j,ks[p]?=some (some (.nd e i j))∧p<ks.length∧i<ks.length∧j<ks.length:=fun p hp=>by
  obtain ⟨hp1,k,ek,hk⟩:=adt hp
  cases k with
  | none=>cases hk
  | some k=>
    cases k with
    | lf t n=>cases hk
    | nd e' i j=>
      have:e'=e:=of_decide_eq_true hk
      subst this
      exact ⟨i,j,ek,hp1,h3 p _ i j ek⟩
def ayh (L:LHp) (a l c:Addr) (ks:List (Option Kn)) (lk ct:List (Nat×Nat)):Prop:=L a=some (.lst (osY ks))∧L l=some (.lst (zj lk))∧L c=some (.lst (zj ct))∧ks.length≤1000∧lk.length≤1000∧ct.length≤1000∧adz ks.length lk∧adz ks.length ct∧KnR ks
def aeh:Sp3:=fun ys L Q=>∃ a l c ks lk ct,ys=[ank a l c]∧ayh L a l c ks lk ct∧∀ r,Q (.bl r) L
theorem as3:∀ ys L Q,aeh ys L Q→xj (agb af5 ab0 aar) 1 ys L Q:=by
  rintro ys L Q ⟨a,l,c,ks,lk,ct,rfl,⟨ha,hl,hc,z1,z2,z3,r1,r2,r3⟩,q⟩
  refine ⟨a,l,c,ks,lk,ct,rfl,ha,hl,hc,z1,z2,z3,fun p1 hp1=>?_⟩
  have s1:LSub L (qh L p1 (.lst (zj (xm ks lk ct)))):=LSub.new hp1
  refine ⟨a,l,c,ks,rfl,s1 _ _ ha,z1,fun p2 hp2=>?_⟩
  have s2:=s1.trans (LSub.new (o:=.lst (nY (jg true ks))) hp2)
  have jl:=aju (ks:=ks) (lk:=lk) (ct:=ct)
  refine ⟨a,p1,p2,ks,_,_,rfl,s2 _ _ ha,LSub.new hp2 _ _ q8,q8,z1,ak0 r1 r2 r3,by omega,fun p hp=>?_,fun r=>aau s2 (q r)⟩
  obtain ⟨i,j,h1,h2,h3,h4⟩:=aku r3 p hp
  exact ⟨true,i,j,h1,h2,h3,h4⟩
def ah3:Sp3:=fun ys L Q=>∃ a l c ks lk ct,ys=[ank a l c]∧ayh L a l c ks lk ct∧Q .non L∧∀ p zs,L p=none→zs.length≤1000→Q (.ref p) (qh L p (.lst zs))
theorem axn:∀ ys L Q,ah3 ys L Q→xj (aft aeh aar ab0 af5) 9 ys L Q:=by
  rintro ys L Q ⟨a,l,c,ks,lk,ct,rfl,W,q0,q⟩
  have W0:=W
  obtain ⟨ha,hl,hc,z1,z2,z3,r1,r2,r3⟩:=W
  refine ⟨a,l,c,ks,lk,ct,rfl,W0,fun r=>?_⟩
  refine aex (fin q0) ?_
  refine ⟨a,l,c,ks,lk,ct,rfl,ha,hl,hc,z1,z2,z3,fun p1 hp1=>?_⟩
  have s1:LSub L (qh L p1 (.lst (zj (xm ks lk ct)))):=LSub.new hp1
  refine ⟨a,l,c,ks,rfl,s1 _ _ ha,z1,fun p2 hp2=>?_⟩
  have s2:=s1.trans (LSub.new (o:=.lst (nY (jg true ks))) hp2)
  intro p3 hp3
  have s3:=s2.trans (LSub.new (o:=.lst []) hp3)
  have n2:L p2=none:=jd s1 hp2
  have n3:L p3=none:=jd s2 hp3
  have f1:=LSub.new (o:=.lst []) hp3 _ _ (LSub.new (o:=.lst (nY (jg true ks))) hp2 _ _ (q8 (L:=L) (a:=p1) (o:=.lst (zj (xm ks lk ct)))))
  have f2:=LSub.new (o:=.lst []) hp3 _ _ (q8 (L:=qh L p1 (.lst (zj (xm ks lk ct)))) (a:=p2) (o:=.lst (nY (jg true ks))))
  have f3:(qh (qh (qh L p1 (.lst (zj (xm ks lk ct)))) p2 (.lst (nY (jg true ks)))) p3 (.lst [])) p3=some (.lst []):=q8
  have n12:p1≠p2:=neL q8 hp2
  have n13:p1≠p3:=neL (LSub.new (o:=.lst (nY (jg true ks))) hp2 _ _ (q8 (L:=L) (a:=p1) (o:=.lst (zj (xm ks lk ct))))) hp3
  have n23:p2≠p3:=neL q8 hp3
  generalize qh (qh (qh L p1 (.lst (zj (xm ks lk ct)))) p2 (.lst (nY (jg true ks)))) p3 (.lst [])=L3 at s3 f1 f2 f3
  have jl:=aju (ks:=ks) (lk:=lk) (ct:=ct)
  have jr:=ak0 r1 r2 r3
  have el:(jg true ks).length≤ks.length:=adp (va true) ks ks.length
  refine vh f2 fun keep kp=>agx ⟨fun i τ L'=>∃ ps zs c5 c6 c7 c8,τ=[some (ank a l c),some (.ref a),some (.ref p1),some (.ref p2),some (.ref p3),c5,c6,c7,c8]∧LSub L L'∧L' p1=some (.lst (zj ps))∧L' p2=some (.lst (nY (jg true ks)))∧L' p3=some (.lst zs)∧adz ks.length ps∧ps.length=(xm ks lk ct).length+i∧zs.length=i,⟨_,[],_,_,_,_,rfl,s3,f1,f2,f3,jr,rfl,rfl⟩,?_,?_,?_⟩
  · rintro i τ L' ⟨ps,zs,c5,c6,c7,c8,rfl,s,g1,g2,g3,_⟩
    exact kp L' (g2.trans f2.symm)
  · rintro i y τ L' hy ⟨ps,zs,c5,c6,c7,c8,rfl,s,g1,g2,g3,wr,lp,lz⟩
    obtain ⟨z,ez,rfl⟩:=ady hy
    obtain ⟨p,ep,rfl⟩:=ad3 ez
    obtain ⟨i',j',ek,h1,h2,h3⟩:=aku r3 p (List.mem_of_getElem? ep)
    have hi:=j7 ep
    have a1:atI (osY ks) (p:Int)=some (aln (some (.nd true i' j'))):=vg (by rw [List.getElem?_map,ek];rfl)
    have hb5:=ay3
    refine ql (s _ _ ha) (qx a1 ?_)
    intro q1 hq1
    have t1:LSub L' (qh L' q1 (.lst [Y.tup [.int (p:Int),.int (i':Int)]])):=LSub.new hq1
    refine ⟨_,_,t1 _ _ g1,q8,by rw [List.length_map,List.length_singleton];omega,fun q2 hq2=>?_⟩
    have t2:=t1.trans (LSub.new (o:=.lst (zj ps++[Y.tup [.int (p:Int),.int (i':Int)]])) hq2)
    refine qz (t2 _ _ g2) fun q3 hq3=>?_
    have ec:((i:Int)+1)=((i+1:Nat):Int):=by omega
    rw [ec,ajh]
    have t3:=t2.trans (LSub.new (o:=.lst ((nY (jg true ks)).drop (i+1))) hq3)
    have e2:(qh (qh (qh L' q1 (.lst [Y.tup [.int (p:Int),.int (i':Int)]])) q2 (.lst (zj ps++[Y.tup [.int (p:Int),.int (i':Int)]]))) q3 (.lst ((nY (jg true ks)).drop (i+1)))) q2=some (.lst (zj (ps++[(p,i')]))):=by
      refine Eq.trans (LSub.new hq3 _ _ q8) ?_
      unfold zj;rw [List.map_append];rfl
    have e3:(qh (qh (qh L' q1 (.lst [Y.tup [.int (p:Int),.int (i':Int)]])) q2 (.lst (zj ps++[Y.tup [.int (p:Int),.int (i':Int)]]))) q3 (.lst ((nY (jg true ks)).drop (i+1)))) q3=some (.lst (nY ((jg true ks).drop (i+1)))):=by
      rw [q8];unfold nY;rw [List.map_drop]
    refine ⟨a,q2,q3,ks,ps++[(p,i')],(jg true ks).drop (i+1),rfl,t3 _ _ (s _ _ ha),e2,e3,z1,?_,by rw [List.length_append,List.length_singleton];omega,?_,fun r=>?_⟩
    · intro x hx
      rcases List.mem_append.mp hx with hx | hx
      · exact wr x hx
      · rw [List.mem_singleton.mp hx];exact ⟨h1,h2⟩
    · intro x hx
      obtain ⟨i2,j2,w1,w2,w3,w4⟩:=aku r3 x (List.mem_of_mem_drop hx)
      exact ⟨true,i2,j2,w1,w2,w3,w4⟩
    have u1:=t3 _ _ g1
    have u2:=t3 _ _ g2
    have u3:=t3 _ _ g3
    have us:=s.trans t3
    generalize qh (qh (qh L' q1 (.lst [Y.tup [.int (p:Int),.int (i':Int)]])) q2 (.lst (zj ps++[Y.tup [.int (p:Int),.int (i':Int)]]))) q3 (.lst ((nY (jg true ks)).drop (i+1)))=L4 at u1 u2 u3 us
    clear e2 e3 t3 t2 t1 hq3 hq2 hq1
    have last:∀ (v:Y) (m:Nat),m<ks.length→Frg (fun τ L'=>∃ ps zs c5 c6 c7 c8,τ=[some (ank a l c),some (.ref a),some (.ref p1),some (.ref p2),some (.ref p3),c5,c6,c7,c8]∧LSub L L'∧L' p1=some (.lst (zj ps))∧L' p2=some (.lst (nY (jg true ks)))∧L' p3=some (.lst zs)∧adz ks.length ps∧ps.length=(xm ks lk ct).length+(i+1)∧zs.length=i+1)
        [some (ank a l c),some (.ref a),some (.ref p1),some (.ref p2),some (.ref p3),some (.int (i:Int)),some (.int (p:Int)),some (prN (p,i')),some v] (qh (qh L4 p3 (.lst (zs++[v]))) p1 (.lst (zj ps++[prN (p,m)]))):=by
      intro v m hm
      refine ⟨_,LSub.refl _,ps++[(p,m)],zs++[v],_,_,_,_,rfl,(us.upd n3).upd hp1,?_,?_,?_,?_,?_,?_⟩
      · rw [q8];unfold zj;rw [List.map_append];rfl
      · rw [qf (Ne.symm n12),qf n23];exact u2
      · rw [qf (Ne.symm n13),q8]
      · intro x hx
        rcases List.mem_append.mp hx with hx | hx
        · exact wr x hx
        · rw [List.mem_singleton.mp hx];exact ⟨h1,hm⟩
      · rw [List.length_append,List.length_singleton];omega
      · rw [List.length_append,List.length_singleton];omega
    have u1':∀ v,(qh L4 p3 (.lst (zs++[v]))) p1=some (.lst (zj ps)):=fun v=>(qf n13).trans u1
    refine aex ?_ ?_
    · refine ql u3 (qz u3 ⟨Nat.lt_of_le_of_lt (by omega:zs.length≤1000) (by decide),?_⟩)
      refine ql (u1' _) (ql ((qf (neL ha n3)).trans (us _ _ ha)) (qx a1 (qz (u1' _) ⟨Nat.lt_of_le_of_lt (by rw [List.length_map];omega:(zj ps).length≤10000) (by decide),?_⟩)))
      exact last (.int 1) j' h3
    · refine ql u3 (qz u3 ⟨Nat.lt_of_le_of_lt (by omega:zs.length≤1000) (by decide),?_⟩)
      refine ql (u1' _) (ql ((qf (neL ha n3)).trans (us _ _ ha)) (qx a1 (qz (u1' _) ⟨Nat.lt_of_le_of_lt (by rw [List.length_map];omega:(zj ps).length≤10000) (by decide),?_⟩)))
      exact last (.int 0) i' h2
  · rintro τ L' ⟨ps,zs,c5,c6,c7,c8,rfl,s,g1,g2,g3,wr,lp,lz⟩
    rw [aax,aai] at lz
    exact aau (LSub.put s g3) (q p3 zs n3 (by omega))
end L3
namespace L3
open PySem L2 Words
local macro_rules | `(tactic| walk_at "w")=>`(tactic| conv=>whnf)
def alv:TS3:=(qw (z9 (yC (.str "abcdefghijklmnopqrstuvwxyz")) (qj 2))
  (qw (z9 (yOp ju (yC (.int 1)) (yOp wn (qb 0) (yC (.int 8)))) (qj 3))
  (qw (z9 (yOp wn (yOp wj (qb 0) (yC (.int 8))) (qb 3)) (qj 4))
  (qw (z9 (yBS aph (yC (.str "")) (qc (yLC 1 (auy (qc (yC (.int 8)) qm)) (qj 7) av8 (yOp yIx (qb 2) (yOp wn (yOp ju (yOp wj (qb 0) (yC (.int 64))) (yOp ahy (yC (.int 3)) (qb 7))) (yC (.int 26))))) qm)) (qj 5))
  (qw (kc (yB (yOp (yEq false) (yOp wn (yOp wj (qb 0) (yC (.int 64))) (yC (.int 3))) (yC (.int 1)))) (j9 (ySl aj1 (qb 5) aab (abf (yOp ju (yC (.int 1)) (yOp wn (yOp ju (qb 1) (qb 0)) (yC (.int 3))))))) x9)
  (qw (z9 (yOp yIx (qb 2) (yOp wn (yOp ju (yOp ju (yOp wj (qb 0) (yC (.int 64))) (yOp ahy (yC (.int 3)) (qb 4))) (qb 1)) (yC (.int 26)))) (qj 6))
  (j9 (yOp ju (yOp ju (ySl aj1 (qb 5) aab (abf (qb 4))) (qb 6)) (ySl aj1 (qb 5) (abf (yOp ju (qb 4) (yC (.int 1)))) (abf (qb 3)))))))))))
def ag7 (i:Int):Nat:=97+(i % 26).toNat
theorem aps (i:Int):atI ("abcdefghijklmnopqrstuvwxyz" : Str).cps.toList (i % 26)=some (ag7 i):=by
  obtain ⟨n,hn⟩:∃ n:Nat,i % 26=n:=⟨(i % 26).toNat,by omega⟩
  have h:n<26:=by omega
  unfold ag7
  rw [hn]
  have key:∀ n,n<26→("abcdefghijklmnopqrstuvwxyz" : Str).cps.toList[n]?=some (97+n):=by decide +kernel
  exact vg (key n h)
def abm (s:Int):List Nat:=(List.range 8).map fun k:Nat=>ag7 (s / 64+3*(k:Int))
theorem an4 (s:Int):(abm s).length=8:=by unfold abm;simp
def plN (s:Int):Nat:=(s / 8 % (1+s % 8)).toNat
def szN (s:Int):Nat:=(1+s % 8).toNat
theorem a3u (s:Int):plN s<szN s∧szN s≤8∧s / 8 % (1+s % 8)=(plN s:Int)∧1+s % 8=(szN s:Int):=by
  have h0:0<1+s % 8:=by omega
  have h1:0≤s / 8 % (1+s % 8):=Int.emod_nonneg _ (by omega)
  have h2:s / 8 % (1+s % 8)<1+s % 8:=Int.emod_lt_of_pos _ h0
  unfold plN szN
  omega
def adx (s w:Int):List Nat:=
  if s / 64 % 3=1 then (abm s).take (1+(w+s) % 3).toNat
  else ((abm s).take (plN s)++[ag7 (s / 64+3*(plN s:Int)+w)])++((abm s).drop (plN s+1)).take (szN s - (plN s+1))
def ads:Sp3:=fun ys L Q=>∃ s w:Int,ys=[.int s,.int w]∧Q (.str (mkS (adx s w))) L
theorem arc {x:Str} {m n:Nat} (h:m≤n) (h2:n≤x.length):(Txt.slice x (some (m:Int)) (some (n:Int))).cps.toList=(x.cps.toList.drop m).take (n - m):=by
  have e:=ajv x (some (m:Int)) (some (n:Int))
  rw [HT.sIx_nat,HT.sIx_nat,Nat.min_eq_left h2,Nat.min_eq_left (Nat.le_trans h h2)] at e
  exact e
theorem ak7 {x:Str} {n:Nat} (h:n≤x.length):(Txt.slice x none (some (n:Int))).cps.toList=x.cps.toList.take n:=by
  have e:=ajv x none (some (n:Int))
  rw [HT.sIx_nat,HT.sIx_none,List.drop_zero,Nat.sub_zero,Nat.min_eq_left h] at e
  exact e
theorem au8:∀ ys L Q,ads ys L Q→xj alv 7 ys L Q:=by
  rintro ys L Q ⟨s,w,rfl,q⟩
  have hsz:0<1+s % 8:=by omega
  refine ⟨(by decide:(0:Int)<8),⟨by decide,by decide⟩,hsz,⟨by decide,by decide⟩,?_⟩
  show lcK (wt 0 8) _ _ _ _ _ _ _ _
  refine a1k (m:=8) (fun i zs=>zs=((List.range i).map fun k:Nat=>Y.str ⟨#[ag7 (s / 64+3*(k:Int))]⟩)) (by decide) rfl ?_ ?_
  · rintro i _ hi rfl
    have hat:=aps (s / 64+3*(0+(i:Int)))
    refine ⟨⟨by decide,by decide⟩,.inl ⟨by decide,by decide⟩,(by decide:(0:Int)<26),by decide +kernel,?_⟩
    walk_at "w"
    rw [hat]
    refine ⟨_,LSub.refl _,rfl,?_⟩
    rw [List.range_succ,List.map_append,show (0:Int)+(i:Int)=(i:Int) by omega];rfl
  · rintro _ rfl p hp
    have e0:((List.range 8).map fun k:Nat=>Y.str ⟨#[ag7 (s / 64+3*(k:Int))]⟩)=((abm s).map fun c=>(⟨#[c]⟩:Str)).map Y.str:=by
      unfold abm;rw [List.map_map,List.map_map];rfl
    rw [e0]
    refine qz q8 ⟨(abm s).map fun c=>(⟨#[c]⟩:Str),rfl,?_,?_⟩
    · have e1:∀ cs:List Nat,((cs.map fun c=>(⟨#[c]⟩:Str)).map (·.length)).sum=cs.length:=fun cs=>by
        induction cs with
        | nil=>rfl
        | cons c r ih=>rw [List.map_cons,List.map_cons,List.sum_cons,ih,List.length_cons];show 1+r.length=_;omega
      rw [e1,an4];show 8+_*0≤_;rw [Nat.mul_zero];decide
    · have hb:=asb (abm s)
      have hbl:(Txt.join "" ((abm s).map fun c=>(⟨#[c]⟩:Str))).length=8:=by rw [← Txs.len_list,hb,an4]
      generalize Txt.join "" ((abm s).map fun c=>(⟨#[c]⟩:Str))=base at hbl hb
      obtain ⟨p1,p2,hn,hk⟩:=a3u s
      refine ⟨⟨by decide,by decide⟩,(by decide:(0:Int)<3),?_⟩
      refine we (fun c=>?_) fun c=>?_
      · have e:1+(w+s) % 3=((1+(w+s) % 3).toNat:Int):=by omega
        refine ⟨(by decide:(0:Int)<3),abh (by omega),aau (LSub.new hp) ?_⟩
        have es:=ak7 (x:=base) (n:=(1+(w+s) % 3).toNat) (by omega)
        have eq:Txt.slice base none (some (1+(w+s) % 3))=mkS (adx s w):=by
          rw [e]
          refine (aq1 _).symm.trans ?_
          rw [es,hb];unfold adx;rw [if_pos c]
        rw [← eq] at q
        exact q
      · have hat:=aps (s / 64+3*(s / 8 % (1+s % 8))+w)
        refine ⟨⟨by decide,by decide⟩,.inl ⟨by decide,by decide⟩,(by decide:(0:Int)<26),by decide +kernel,?_⟩
        walk_at "w"
        rw [hat]
        have s1:=ak7 (x:=base) (n:=plN s) (by omega)
        have s2:=arc (x:=base) (m:=plN s+1) (n:=szN s) (by omega) (by omega)
        have l1:(Txt.slice base none (some (plN s:Int))).length=plN s:=by rw [← Txs.len_list,s1,List.length_take,Txs.len_list];omega
        have l2:(Txt.slice base (some ((plN s+1:Nat):Int)) (some (szN s:Int))).length≤8:=by rw [← Txs.len_list,s2,List.length_take];omega
        refine ⟨abh (by omega),?_⟩
        refine ⟨abh (by rw [hn,l1];show plN s+1≤1000;omega),?_⟩
        refine ⟨abh (by omega),?_⟩
        have e1:((plN s:Int)+1)=((plN s+1:Nat):Int):=by omega
        have l3:(Txt.slice base none (some (plN s:Int))++(⟨#[ag7 (s / 64+3*(s / 8 % (1+s % 8))+w)]⟩:Str)).length=plN s+1:=by rw [PySem.Str.length_append,l1];rfl
        refine ⟨abh ?_,aau (LSub.new hp) ?_⟩
        · rw [hn] at l3 ⊢
          rw [l3,e1,hk];omega
        · have eq:(Txt.slice base none (some (plN s:Int))++(⟨#[ag7 (s / 64+3*(plN s:Int)+w)]⟩:Str))++Txt.slice base (some ((plN s+1:Nat):Int)) (some (szN s:Int))=mkS (adx s w):=by
            refine (aq1 _).symm.trans ?_
            have ca:∀ a b:Str,(a++b).cps.toList=a.cps.toList++b.cps.toList:=fun a b=>by show (a.cps++b.cps).toList=_;simp
            rw [ca,ca,s1,s2,hb];unfold adx;rw [if_neg c]
          rw [hn,e1,hk,eq]
          exact q
end L3
namespace L3
open PySem L2 Words
local macro_rules | `(tactic| walk_at "w")=>`(tactic| conv=>whnf)
def aer:List (Str×Str):=[("plain", "turned"),("turned", "plain")]
theorem aul (t:Bool):v9 (aer.map fun p=>((Sum.inr p.1:Key),Y.str p.2)) (Sum.inr (kL t))=some (.str (kL (!t))):=by
  cases t<;>exact am7 (by decide +kernel)
theorem ap5 {α β:Type} (f:α→β) (l:List α) (x:α) (n:Nat):(l.map f).take n++f x::(l.map f).drop n=(l.take n++x::l.drop n).map f:=by
  rw [List.map_append,List.map_cons,List.map_take,List.map_drop]
theorem awf {α:Type} {l:List α} {x y:α} {n:Nat} (h:y∈l.take n++x::l.drop n):y=x∨y∈l:=by
  rcases List.mem_append.mp h with h | h
  · exact .inr (List.mem_of_mem_take h)
  · rcases List.mem_cons.mp h with h | h
    · exact .inl h
    · exact .inr (List.mem_of_mem_drop h)
theorem aqb {α:Type} (l:List α) (x:α) (n:Nat):(l.take n++x::l.drop n).length=l.length+1:=by
  rw [List.length_append,List.length_cons,List.length_take,List.length_drop];omega
end L3
namespace L3
open PySem L2 Words
local macro_rules | `(tactic| walk_at "w")=>`(tactic| conv=>whnf)
def aad:Nat→Nat
  | 0=>1
  | n+1=>aad n*(n+1)
theorem ap7 (t t':Bool) (n n':Str):Da.eq (enc (.leaf t n)) (enc (.leaf t' n'))=(decide (t=t')&&decide (n=n')):=by
  by_cases h:n=n'
  · subst h;cases t<;>cases t'<;>simp [enc,Da.eq,Da.eqs,eqV,kL]<;>decide +kernel
  · cases t<;>cases t'<;>simp [enc,Da.eq,Da.eqs,eqV,kL,h]<;>decide +kernel
end L3
namespace L3
open PySem L2 Words
local macro_rules | `(tactic| walk_at "w")=>`(tactic| conv=>whnf)
def abi (t:Bool) (x:Str):Wd→Bool
  | .leaf u y=>decide (u=t)&&decide (y=x)
  | _=>false
def za (ls:List Wd) (t:Bool) (x:Str):Nat:=ls.countP (abi t x)
def ahl:Wd→Str
  | .leaf _ n=>n
  | _ => ""
def adn (ls:List Wd):Prop:=∀ x,za ls false x=za ls true x
def a27 (ls:List Wd) (n:Nat):Prop:=
  (adn ls∧∀ nms:List Str,nms.Nodup→(∀ w∈ls,ahl w∈nms)→n=(nms.map fun x=>aad (za ls false x)).prod)∨(¬ adn ls∧n=0)
def LV (ws:List Wd):List Wd:=ws.flatMap Wd.leafL
theorem aff (a b:List Wd):LV (a++b)=LV a++LV b:=by unfold LV;rw [List.flatMap_append]
end L3
namespace L3
open PySem L2 Words
local macro_rules | `(tactic| walk_at "w")=>`(tactic| conv=>whnf)
theorem ak9 {α β:Type} (f:α→β):∀ (l:List α) (n:Nat),(l.map f).eraseIdx n=(l.eraseIdx n).map f
  | [],n=>by simp
  | _::_,0=>rfl
  | x::r,n+1=>by rw [List.map_cons,List.eraseIdx_cons_succ,List.eraseIdx_cons_succ,List.map_cons,ak9 f r n]
end L3
namespace L3
open PySem L2 Words
local macro_rules | `(tactic| walk_at "w")=>`(tactic| conv=>whnf)
def afs (p_leaves_of:Sp3):TS3:=(qw (z9 (w6 qm) (qj 1))
  (qw (ac7 (xa (qb 0)) (qj 2) (v4 (yBL adw (qb 1) (qc (zc p_leaves_of (qc (qb 2) qm)) qm))))
  (j9 (qb 1))))
def aby (p_turned:Sp3):TS3:=(qw (ac7 (xa (qb 0)) (qj 1) (kc (yB (yOp (yEq true) (yBL ad7 (qb 0) (qc (qb 1) qm)) (yBL ad7 (qb 0) (qc (zc p_turned (qc (qb 1) qm)) qm)))) (j9 (yOp yIx (qb 1) (yC (.int 1)))) x9))
  (j9 (yC .non)))
def afu (p_leaves_in:Sp3) (p_first_uneven:Sp3):TS3:=(qw (z9 (zc p_leaves_in (qc (qb 0) qm)) (qj 1))
  (qw (kc (yB (agf true (zc p_first_uneven (qc (qb 1) qm)))) (j9 (yC (.int 0))) x9)
  (qw (z9 (yC (.int 1)) (qj 2))
  (qw (z9 asm (qj 3))
  (qw (ac7 (xa (qb 1)) (aa7 2 (zp (qj 4) (zp (qj 5) aa2))) (kc (yB (yOp (yEq false) (qb 4) (yC (.str "plain")))) (qw (aur (qb 3) (qb 5) (yOp ju (ao1 (qb 3) (qb 5) (yC (.int 0))) (yC (.int 1))))
  (z9 (yOp ahy (qb 2) (asg (qb 3) (qb 5))) (qj 2))) x9))
  (j9 (qb 2)))))))
theorem ah2 {ws:List Wd} {x:Wd} (h:x∈LV ws):∃ t n,x=.leaf t n:=by
  obtain ⟨w,_,hx⟩:=List.mem_flatMap.mp h
  exact Wd.leafL_leaf hx
theorem anz (w:Wd):LV [w]=w.leafL:=by simp [LV]
theorem ant (ws:List Wd) (i:Nat):(LV (ws.take i)).length≤(LV ws).length:=by
  have:=aff (ws.take i) (ws.drop i)
  rw [List.take_append_drop] at this
  rw [this,List.length_append];omega
def ab4:Sp3:=fun ys L Q=>∃ a,∃ ws:List Wd,ys=[.ref a]∧L a=some (.lst (ws.map qo))∧(∀ w∈ws,w.depth≤63∧w.leaves≤63)∧(LV ws).length≤1000∧∀ p,L p=none→Q (.ref p) (qh L p (.lst ((LV ws).map qo)))
theorem aws:∀ ys L Q,ab4 ys L Q→xj (afs (xx 63)) 3 ys L Q:=by
  rintro ys L Q ⟨a,ws,rfl,ha,hd,hz,q⟩
  intro p hp
  have hap:a≠p:=neL ha hp
  refine xu (ys:=ws.map qo) (zg ((qf hap).trans ha)) (fun i τ L'=>∃ c,τ=[some (.ref a),some (.ref p),c]∧L'=qh L p (.lst ((LV (ws.take i)).map qo))) ⟨_,rfl,rfl⟩ ?_ ?_ ?_
  · rintro i τ L' ⟨c,rfl,rfl⟩
    rw [qf hap,qf hap]
  · rintro i y τ L' hy ⟨c,rfl,rfl⟩
    rw [List.getElem?_map] at hy
    obtain ⟨w,ew,rfl⟩:=Option.map_eq_some_iff.mp hy
    have hw:=hd w (List.mem_of_getElem? ew)
    have et:ws.take (i+1)=ws.take i++[w]:=by rw [List.take_succ,ew];rfl
    have hl:=ant ws (i+1)
    rw [et,aff,anz,List.length_append] at hl
    refine ql q8 ⟨w,rfl,hw.1,hw.2,fun p2 hp2=>?_⟩
    have hpp:p≠p2:=neL q8 hp2
    refine qz ((qf hpp).trans q8) (qz q8 ⟨?_,?_⟩)
    · rw [List.length_map,List.length_map]
      have hb:(1000:Nat)≤sizeLine:=by decide
      omega
    · refine ⟨qh L p (.lst ((LV (ws.take (i+1))).map qo)),?_,_,rfl,rfl⟩
      rw [et,aff,anz,List.map_append,aal (Ne.symm hpp),zd]
      exact LSub.new ((qf (Ne.symm hpp)).trans ((qf (Ne.symm hpp)).symm.trans hp2))
  · rintro τ L' ⟨c,rfl,rfl⟩
    rw [List.length_map,List.take_length]
    exact fin (q p hp)
theorem avp (t:Bool) (x:Str) {w:Wd} (h:∃ u y,w=.leaf u y):Da.eq (enc w) (enc (.leaf t x))=abi t x w:=by
  obtain ⟨u,y,rfl⟩:=h
  exact ap7 u t y x
theorem al5 {ls:List Wd} (h:∀ w∈ls,∃ u y,w=Wd.leaf u y) (t:Bool) (x:Str):((ls.map enc).countP fun d=>Da.eq d (enc (.leaf t x)))=za ls t x:=by
  unfold za
  rw [List.countP_map]
  refine List.countP_congr fun w hw=>?_
  rw [Function.comp,avp t x (h w hw)]
def abg (ls:List Wd) (w:Wd):Bool:=!decide (za ls false (ahl w)=za ls true (ahl w))
def adu (ls:List Wd):Option Str:=(ls.find? (abg ls)).map ahl
theorem ase (ls:List Wd) (t:Bool) (x:Str):abg ls (.leaf t x)=!decide (za ls t x=za ls (!t) x):=by
  show (!decide (za ls false x=za ls true x))=_
  cases t
  · rfl
  · show _=!decide (za ls true x=za ls false x)
    by_cases h:za ls false x=za ls true x
    · rw [decide_eq_true h,decide_eq_true h.symm]
    · rw [decide_eq_false h,decide_eq_false (Ne.symm h)]
def kg:Sp3:=fun ys L Q=>∃ a,∃ ls:List Wd,ys=[.ref a]∧L a=some (.lst (ls.map qo))∧(∀ w∈ls,∃ t n,w=Wd.leaf t n)∧ls.length≤1000∧(∀ x,adu ls=some x→Q (.str x) L)∧(adu ls=none→Q .non L)
theorem awx:∀ ys L Q,kg ys L Q→xj (aby (vv 63)) 2 ys L Q:=by
  rintro ys L Q ⟨a,ls,rfl,ha,hlf,hz,q1,q2⟩
  refine xu (ys:=ls.map qo) (zg ha) (fun i τ L'=>∃ c,τ=[some (.ref a),c]∧L'=L∧∀ w∈ls.take i,abg ls w=false) ⟨_,rfl,rfl,by simp⟩ ?_ ?_ ?_
  · rintro i τ L' ⟨c,rfl,rfl,_⟩;rfl
  · rintro i y τ L' hy ⟨c,rfl,rfl,hno⟩
    rw [List.getElem?_map] at hy
    obtain ⟨w,ew,rfl⟩:=Option.map_eq_some_iff.mp hy
    obtain ⟨t,x,rfl⟩:=hlf w (List.mem_of_getElem? ew)
    have pd:Paired (DatN L' 1) (ls.map qo) (ls.map enc):=aaj fun w hw=>by obtain ⟨u,z,rfl⟩:=hlf w hw;exact Nat.le_refl _
    refine ql ha (qz ha ⟨_,enc (.leaf t x),1,1,by decide,pd,kj (Nat.le_refl 1),ql ha ⟨.leaf t x,rfl,by show 1≤63;decide,qz ha ⟨_,enc (.leaf (!t) x),1,1,by decide,pd,kj (Nat.le_refl 1),?_⟩⟩⟩)
    rw [al5 hlf,al5 hlf]
    have ho:=ase ls t x
    have et:ls.take (i+1)=ls.take i++[Wd.leaf t x]:=by rw [List.take_succ,ew];rfl
    by_cases h:za ls t x=za ls (!t) x
    · refine kf (by show (!decide (((za ls t x:Nat):Int)=((za ls (!t) x:Nat):Int)))=false;rw [h,decide_eq_true rfl];rfl) ?_
      refine ⟨_,LSub.refl _,_,rfl,rfl,?_⟩
      rw [et]
      intro w hw
      rcases List.mem_append.mp hw with z | z
      · exact hno w z
      · rw [List.mem_singleton.mp z,ho,decide_eq_true h];rfl
    · refine adb (by show (!decide (((za ls t x:Nat):Int)=((za ls (!t) x:Nat):Int)))=true;rw [decide_eq_false (by omega)];rfl) ?_
      refine fin (q1 x ?_)
      unfold adu
      have hod:abg ls (.leaf t x)=true:=by rw [ho,decide_eq_false h];rfl
      have es:ls=ls.take i++(Wd.leaf t x::ls.drop (i+1)):=by
        have:=(List.take_append_drop i ls).symm
        rw [List.drop_eq_getElem?_toList_append,ew] at this
        exact this
      have:ls.find? (abg ls)=some (.leaf t x):=by
        generalize hp:abg ls=P at hno hod
        rw [es,List.find?_append,List.find?_eq_none.mpr (fun w hw=>by rw [hno w hw];exact Bool.false_ne_true),List.find?_cons,hod]
        rfl
      rw [this];rfl
  · rintro τ L' ⟨c,rfl,rfl,hno⟩
    rw [List.length_map,List.take_length] at hno
    refine fin (q2 ?_)
    unfold adu
    rw [List.find?_eq_none.mpr (fun w hw=>by rw [hno w hw];exact Bool.false_ne_true)]
    rfl
theorem km (a:Key) (b:Y) (r:List (Key×Y)) (k:Key):v9 ((a,b)::r) k=if a=k then some b else v9 r k:=by
  unfold v9
  rw [List.find?_cons]
  by_cases h:a=k
  · rw [if_pos h,show decide ((a,b).1=k)=true from decide_eq_true h];rfl
  · rw [if_neg h,show decide ((a,b).1=k)=false from decide_eq_false h]
theorem anc (k k':Key) (y:Y):∀ kvs:List (Key×Y),v9 (kvs.map fun kv=>if kv.1=k then (kv.1,y) else kv) k'=if k'=k then (v9 kvs k').map (fun _=>y) else v9 kvs k'
  | []=>by rw [List.map_nil];split<;>rfl
  | (a,b)::r=>by
    have ih:=anc k k' y r
    rw [List.map_cons,km]
    by_cases h:a=k
    · rw [if_pos (show (a,b).1=k from h),km,ih]
      by_cases h2:k'=k
      · rw [if_pos h2,if_pos h2,if_pos (h.trans h2.symm),if_pos (h.trans h2.symm)];rfl
      · rw [if_neg h2,if_neg h2,if_neg (fun z=>h2 (z.symm.trans h)),if_neg (fun z=>h2 (z.symm.trans h))]
    · rw [if_neg (show ¬ (a,b).1=k from h),km,ih]
      by_cases h2:k'=k
      · rw [if_pos h2,if_pos h2,if_neg (fun z=>h (z.trans h2)),if_neg (fun z=>h (z.trans h2))]
      · rw [if_neg h2,if_neg h2]
theorem amo (k k':Key) (y:Y):∀ kvs:List (Key×Y),v9 (kvs++[(k,y)]) k'=(v9 kvs k').or (if k=k' then some y else none)
  | []=>by
    rw [List.nil_append,km]
    have:v9 [] k'=none:=rfl
    rw [this];split<;>rfl
  | (a,b)::r=>by
    rw [List.cons_append,km,km,amo k k' y r]
    split<;>rfl
theorem alt (k:Key):∀ kvs:List (Key×Y),(kvs.any fun kv=>decide (kv.1=k))=(v9 kvs k).isSome
  | []=>rfl
  | (a,b)::r=>by
    rw [List.any_cons,km,alt k r]
    by_cases h:a=k
    · rw [if_pos h,show decide ((a,b).1=k)=true from decide_eq_true h];rfl
    · rw [if_neg h,show decide ((a,b).1=k)=false from decide_eq_false h];rfl
theorem ael (kvs:List (Key×Y)) (k k':Key) (y:Y):v9 (air kvs k y) k'=if k'=k then some y else v9 kvs k':=by
  unfold air
  rw [alt]
  cases e:v9 kvs k with
  | some v=>
    rw [if_pos (show (some v).isSome=true from rfl),anc]
    by_cases h:k'=k
    · rw [if_pos h,if_pos h,h,e];rfl
    · rw [if_neg h,if_neg h]
  | none=>
    rw [if_neg (by simp),amo]
    by_cases h:k'=k
    · rw [if_pos h,h,e,if_pos rfl];rfl
    · rw [if_neg h,if_neg (fun z=>h z.symm)];cases v9 kvs k'<;>rfl
theorem amv (kvs:List (Key×Y)) (k:Key) (y:Y):(air kvs k y).length≤kvs.length+1:=by
  unfold air
  split
  · rw [List.length_map];omega
  · rw [List.length_append];simp
theorem al8 {f g:Str→Nat} {x:Str} {k:Nat} (hx:g x=f x*k) (ho:∀ y,y≠x→g y=f y):∀ nms:List Str,nms.Nodup→x∈nms→(nms.map g).prod=(nms.map f).prod*k
  | [],_,h=>by cases h
  | y::r,hn,h=>by
    obtain ⟨hy,hr⟩:=List.nodup_cons.mp hn
    rw [List.map_cons,List.map_cons,List.prod_cons,List.prod_cons]
    by_cases e:y=x
    · subst e
      have:r.map g=r.map f:=List.map_congr_left fun z hz=>ho z fun q=>hy (q▸hz)
      rw [this,hx,Nat.mul_assoc,Nat.mul_comm k,← Nat.mul_assoc]
    · have hm:x∈r:=by
        rcases List.mem_cons.mp h with z | z
        · exact absurd z.symm e
        · exact z
      rw [al8 hx ho r hr hm,ho y e,Nat.mul_assoc]
def WayR (ls:List Wd) (n:Nat):Prop:=∀ nms:List Str,nms.Nodup→(∀ w∈ls,ahl w∈nms)→n=(nms.map fun x=>aad (za ls false x)).prod
theorem afk {f:Str→Nat} (h:∀ y,f y=1):∀ nms:List Str,(nms.map f).prod=1
  | []=>rfl
  | y::r=>by rw [List.map_cons,List.prod_cons,h,afk h r]
theorem WayR.nil:WayR [] 1:=fun nms _ _=>(afk (fun y=>rfl) nms).symm
theorem vd (ls:List Wd) (w:Wd) (t:Bool) (x:Str):za (ls++[w]) t x=za ls t x+if abi t x w=true then 1 else 0:=by
  unfold za
  rw [List.countP_append,List.countP_singleton]
theorem WayR.other {ls:List Wd} {n:Nat} {x:Str} (h:WayR ls n):WayR (ls++[.leaf true x]) n:=fun nms hn hm=>by
  have:=h nms hn fun w hw=>hm w (List.mem_append_left _ hw)
  rw [this]
  refine congrArg List.prod (List.map_congr_left fun y _=>?_)
  rw [vd,if_neg (by simp [abi]),Nat.add_zero]
theorem WayR.plain {ls:List Wd} {n:Nat} {x:Str} (h:WayR ls n):WayR (ls++[.leaf false x]) (n*(za ls false x+1)):=fun nms hn hm=>by
  have:=h nms hn fun w hw=>hm w (List.mem_append_left _ hw)
  rw [this]
  refine (al8 (x:=x) ?_ ?_ nms hn (hm (.leaf false x) (List.mem_append_right _ (List.mem_singleton.mpr rfl)))).symm
  · show aad (za (ls++[.leaf false x]) false x)=_
    rw [vd,if_pos (by simp [abi])];rfl
  · intro y hy
    show aad (za (ls++[.leaf false x]) false y)=_
    rw [vd,if_neg (by simp [abi];exact fun z=>hy z.symm)];rfl
theorem adm {ls:List Wd} (hlf:∀ w∈ls,∃ t n,w=Wd.leaf t n) (h:adu ls=none):adn ls:=by
  intro x
  unfold adu at h
  have h:=List.find?_eq_none.mp (Option.map_eq_none_iff.mp h)
  by_cases c:∃ t,Wd.leaf t x∈ls
  · obtain ⟨t,c⟩:=c
    have:=h _ c
    have e:(!decide (za ls false x=za ls true x))=false:=by
      cases z:(!decide (za ls false x=za ls true x)) with
      | false=>rfl
      | true=>exact absurd z this
    exact of_decide_eq_true (by simpa using e)
  · have zero:∀ t,za ls t x=0:=fun t=>by
      unfold za
      rw [List.countP_eq_zero]
      intro w hw
      obtain ⟨u,y,rfl⟩:=hlf w hw
      intro z
      have:decide (u=t)=true∧decide (y=x)=true:=by simpa [abi] using z
      have e:y=x:=of_decide_eq_true this.2
      subst e
      exact c ⟨u,hw⟩
    rw [zero,zero]
theorem an8 {ls:List Wd} {x:Str} (h:adu ls=some x):¬ adn ls:=by
  unfold adu at h
  obtain ⟨w,hw,_⟩:=Option.map_eq_some_iff.mp h
  have:=List.find?_some hw
  intro e
  have e2:=e (ahl w)
  unfold abg at this
  rw [decide_eq_true e2] at this
  cases this
def aqx (n:Nat):Option Y:=if n=0 then none else some (.int (n:Int))
end L3
namespace L3
open PySem L2 Words
local macro_rules | `(tactic| walk_at "w")=>`(tactic| conv=>whnf)
def aaz (p_turned:Sp3) (p_places_in:Sp3):TS3:=(qw (z9 (yLC 2 (adc (qb 0)) (aa7 2 (zp (qj 8) (zp (qj 9) aa2))) (yB (yOp (yEq false) (qb 9) (zc p_turned (qc (yOp yIx (qb 0) (qb 2)) qm)))) (qb 8)) (qj 3))
  (qw (z9 (w6 qm) (qj 4))
  (qw (ac7 (xa (qb 1)) (qj 5) (qw (z9 (zc p_places_in (qc (qb 5) qm)) (qj 6))
  (ac7 (xa (qb 3)) (qj 7) (kc (yB (yOp (aqz true) (qb 7) (qb 6))) (v4 (yBL jj (qb 4) (qc (yOp ju (qb 5) (w6 (qc (k8 (qc (yCB a08 (qc (qb 2) (qc (qb 7) qm))) (qc (yCB au1 (qc (qb 2) (qc (qb 7) qm))) qm))) qm))) qm))) x9))))
  (j9 (qb 4)))))
def abx (p_linked_further:Sp3):TS3:=(qw (z9 (w6 (qc (w6 qm) qm)) (qj 1))
  (qw (ac7 (adc (qb 0)) (aa7 2 (zp (qj 2) (zp (qj 3) aa2))) (kc (yB (yOp (yEq false) (yOp yIx (qb 3) (yC (.int 0))) (yC (.str "plain")))) (z9 (zc p_linked_further (qc (qb 0) (qc (qb 1) (qc (qb 2) qm)))) (qj 1)) x9))
  (j9 (yLC 1 (xa (qb 1)) (qj 4) av8 (yCB aon (qc (qb 4) qm))))))
def aaa (p_ways_to_link:Sp3) (p_first_bad:Sp3):TS3:=(qw (z9 (w6 qm) (qj 1))
  (qw (ac7 (xa (zc p_ways_to_link (qc (qb 0) qm))) (qj 2) (qw (z9 (k8 (qc (qb 0) (qc (qb 2) (qc (w6 qm) qm)))) (qj 3))
  (qw (z9 (zc p_first_bad (qc (qb 3) qm)) (qj 4))
  (qw (kc (yB (agf false (qb 4))) (j9 (k8 (qc (yC (.str "web")) (qc (qb 3) qm)))) x9)
  (v4 (yBL jj (qb 1) (qc (k8 (qc (qb 2) (qc (qb 4) qm))) qm)))))))
  (j9 (k8 (qc (yC (.str "tries")) (qc (qb 1) qm))))))
def aez (lk:List (Nat×Nat)):List Nat:=lk.flatMap fun x=>[x.1,x.2]
theorem amj (a b:List (Nat×Nat)):aez (a++b)=aez a++aez b:=by unfold aez;rw [List.flatMap_append]
theorem am0 (x:Nat×Nat):aez [x]=[x.1,x.2]:=by simp [aez]
theorem atg (lk:List (Nat×Nat)):(aez lk).length=2*lk.length:=by
  induction lk with
  | nil=>rfl
  | cons x r ih=>
    have:=amj [x] r
    rw [List.singleton_append] at this
    rw [this,List.length_append,ih,am0,List.length_cons];simp;omega
def agv:Sp3:=fun ys L Q=>∃ a,∃ lk:List (Nat×Nat),ys=[.ref a]∧L a=some (.lst (zj lk))∧lk.length≤1000∧∀ p,L p=none→Q (.ref p) (qh L p (.lst (nY (aez lk))))
theorem avn:∀ ys L Q,agv ys L Q→xj afz 4 ys L Q:=by
  rintro ys L Q ⟨a,lk,rfl,ha,hz,q⟩
  intro p hp
  have hap:a≠p:=neL ha hp
  refine xu (ys:=zj lk) (zg ((qf hap).trans ha)) (fun i τ L'=>∃ c2 c3,τ=[some (.ref a),some (.ref p),c2,c3]∧L'=qh L p (.lst (nY (aez (lk.take i))))) ⟨_,_,rfl,rfl⟩ ?_ ?_ ?_
  · rintro i τ L' ⟨c2,c3,rfl,rfl⟩
    rw [qf hap,qf hap]
  · rintro i y τ L' hy ⟨c2,c3,rfl,rfl⟩
    rw [List.getElem?_map] at hy
    obtain ⟨x,ex,rfl⟩:=Option.map_eq_some_iff.mp hy
    have et:lk.take (i+1)=lk.take i++[x]:=by rw [List.take_succ,ex];rfl
    have hl:(nY (aez (lk.take i))).length≤2000:=by rw [aai,atg,List.length_take];omega
    refine ql q8 (qz q8 ⟨Nat.lt_of_le_of_lt hl (by decide),?_⟩)
    refine ql q8 (qz q8 ⟨Nat.lt_of_le_of_lt (by rw [List.length_append,List.length_singleton];omega:_≤2001) (by decide),_,LSub.refl _,_,_,rfl,?_⟩)
    rw [zd,zd,et,amj,am0,auc,List.append_assoc]
    rfl
  · rintro τ L' ⟨c2,c3,rfl,rfl⟩
    rw [List.length_map,List.take_length]
    exact fin (q p hp)
def ak1:Kn→Da
  | .lf t n=>.tup [.s (.str (kL t)),.s (.str n)]
  | .nd e i j=>.tup [.s (.str (kN e)),.s (.int ((i:Nat):Int)),.s (.int ((j:Nat):Int))]
theorem an1 {L:LHp} (k:Kn):DatN L 1 (att k) (ak1 k):=by
  cases k with
  | lf t n=>exact ado (.cons ⟨rfl,rfl⟩ (.cons ⟨rfl,rfl⟩ .nil))
  | nd e i j=>exact ado (.cons ⟨rfl,rfl⟩ (.cons ⟨rfl,rfl⟩ (.cons ⟨rfl,rfl⟩ .nil)))
def ac8 (x:Str):Option Kn→Bool
  | some (.lf t n)=>t&&decide (n=x)
  | _=>false
theorem axi (x:Str) (k:Kn):Da.eq (ak1 k) (enc (.leaf true x))=ac8 x (some k):=by
  cases k with
  | lf t n=>
    have h:=ap7 t true n x
    have e:ak1 (.lf t n)=enc (.leaf t n):=rfl
    rw [e,h]
    cases t<;>rfl
  | nd e i j=>cases e<;>rfl
def aa8 (ks:List (Option Kn)) (p:Nat):Prop:=∃ x,ks[p]?=some (some (.lf false x))
def az3:Option Kn→Bool
  | some (.lf _ _)=>true
  | _=>false
def lvN (ks:List (Option Kn)) (i:Nat):Nat:=(ks.take i).countP az3
theorem at5 {ks:List (Option Kn)} {i j:Nat} (h:i≤j):lvN ks i≤lvN ks j:=by
  have e:ks.take i=(ks.take j).take i:=by rw [List.take_take,Nat.min_eq_left h]
  unfold lvN
  rw [e]
  exact (List.take_sublist i _).countP_le
theorem av3 {ks:List (Option Kn)} {i:Nat} (hp:aa8 ks i):lvN ks (i+1)=lvN ks i+1:=by
  obtain ⟨x,e⟩:=hp
  unfold lvN
  rw [List.take_succ,e,List.countP_append];rfl
def Way (ks:List (Option Kn)) (i:Nat) (lk:List (Nat×Nat)):Prop:=lk.Nodup∧(lk.length≤i∧lk.length≤lvN ks i)∧∀ y∈lk,y.1<ks.length∧y.2<ks.length∧(aa8 ks y.1→y.1<i)∧(aa8 ks y.2→y.2<i)
theorem Way.mono {ks:List (Option Kn)} {i j:Nat} {lk:List (Nat×Nat)} (h:Way ks i lk) (hij:i≤j):Way ks j lk:=
  ⟨h.1,⟨Nat.le_trans h.2.1.1 hij,Nat.le_trans h.2.1.2 (at5 hij)⟩,fun y hy=>by obtain ⟨a,b,c,d⟩:=h.2.2 y hy;exact ⟨a,b,fun z=>Nat.lt_of_lt_of_le (c z) hij,fun z=>Nat.lt_of_lt_of_le (d z) hij⟩⟩
theorem Way.more {ks:List (Option Kn)} {i m:Nat} {lk:List (Nat×Nat)} {x:Str} (h:Way ks i lk) (hp:aa8 ks i) (hm:ks[m]?=some (some (.lf true x))):Way ks (i+1) (lk++[(min i m,max i m)]):=by
  have hi:i<ks.length:=by obtain ⟨x,e⟩:=hp;exact j7 e
  have hml:=j7 hm
  have nm:¬ aa8 ks m:=fun ⟨y,e⟩=>by rw [hm] at e;cases e
  have one:min i m=i∨max i m=i:=by omega
  refine ⟨?_,by rw [List.length_append,List.length_singleton,av3 hp];have:=h.2.1;omega,fun y hy=>?_⟩
  · refine List.nodup_append.mpr ⟨h.1,List.nodup_cons.mpr ⟨by simp,List.nodup_nil⟩,fun a ha b hb=>?_⟩
    rw [List.mem_singleton.mp hb]
    rintro rfl
    obtain ⟨_,_,c,d⟩:=h.2.2 _ ha
    rcases one with z | z
    · have:=c (by show aa8 ks (min i m);rw [z];exact hp);have:min i m<i:=this;omega
    · have:=d (by show aa8 ks (max i m);rw [z];exact hp);have:max i m<i:=this;omega
  · rcases List.mem_append.mp hy with hy | hy
    · exact (h.mono (Nat.le_succ i)).2.2 y hy
    · rw [List.mem_singleton.mp hy]
      refine ⟨by show min i m<_;omega,by show max i m<_;omega,fun z=>?_,fun z=>?_⟩
      · show min i m<i+1;omega
      · show max i m<i+1
        have z:aa8 ks (max i m):=z
        by_cases c:m≤i
        · omega
        · have e:max i m=m:=by omega
          rw [e] at z;exact absurd z nm
def ais (L:LHp) (w:Addr) (ks:List (Option Kn)) (i:Nat) (lks:List (List (Nat×Nat))):Prop:=∃ as:List Addr,L w=some (.lst (as.map Y.ref))∧Paired (fun b lk=>L b=some (.lst (zj lk))∧b≠w∧Way ks i lk) as lks
theorem ack {α β:Type} {R:α→β→Prop}:∀ {xs:List α} {ys:List β} {i:Nat} {x:α},Paired R xs ys→xs[i]?=some x→∃ y,ys[i]?=some y∧R x y
  | _,_,0,_,.cons r _,e=>by cases e;exact ⟨_,rfl,r⟩
  | _,_,i+1,_,.cons _ t,e=>ack (i:=i) t e
theorem ac6 {α β:Type} {R:α→β→Prop}:∀ {xs:List α} {ys:List β} {x:α} {y:β},Paired R xs ys→R x y→Paired R (xs++[x]) (ys++[y])
  | _,_,_,_,.nil,r=>.cons r .nil
  | _,_,_,_,.cons a t,r=>.cons a (ac6 t r)
theorem xo {α β:Type} {R S:α→β→Prop} (h:∀ a b,R a b→S a b):∀ {xs:List α} {ys:List β},Paired R xs ys→Paired S xs ys
  | _,_,.nil=>.nil
  | _,_,.cons a t=>.cons (h _ _ a) (xo h t)
def vk (ks:List (Option Kn)) (x:Str):Nat:=(whr (ac8 x) ks ks.length).length
def ab1:Sp3:=fun ys L Q=>∃ a w,∃ ks:List (Option Kn),∃ i:Nat,∃ ii:Int,∃ x:Str,∃ lks,ys=[.ref a,.ref w,.int ii]∧ii=(i:Int)∧L a=some (.lst (osY ks))∧ais L w ks i lks∧(∀ k∈ks,k≠none)∧ks.length≤1000∧ks[i]?=some (some (.lf false x))∧lks.length*vk ks x≤100000∧
  ∀ L' w' lks',LSub L L'→L w'=none→ais L' w' ks (i+1) lks'→lks'.length≤lks.length*vk ks x→Q (.ref w') L'
theorem aw9 (m:Nat) (l:List Nat):inV (toV (.int (m:Int))) ((nY l).map toV)=decide (m∈l):=by
  induction l with
  | nil=>rfl
  | cons n r ih=>
    have e:inV (toV (.int (m:Int))) ((nY (n::r)).map toV)=(eqV (toV (.int (n:Int))) (toV (.int (m:Int)))||inV (toV (.int (m:Int))) ((nY r).map toV)):=rfl
    rw [e,ih]
    have e2:eqV (toV (.int (n:Int))) (toV (.int (m:Int)))=decide (n=m):=alq n m
    rw [e2]
    by_cases c:n=m
    · subst c;simp
    · by_cases d:m∈r
      · simp [d]
      · simp [c,d,Ne.symm c]
theorem axr (l:List Nat):(nY l).all aga=true:=by
  rw [List.all_eq_true]
  intro y hy
  obtain ⟨n,_,rfl⟩:=List.mem_map.mp hy
  rfl
theorem awg {ks:List (Option Kn)} {x:Str} {m:Nat} (h:m∈whr (ac8 x) ks ks.length):ks[m]?=some (some (.lf true x)):=by
  obtain ⟨_,k,ek,hk⟩:=adt h
  cases k with
  | none=>cases hk
  | some k=>
    cases k with
    | nd e i j=>cases hk
    | lf t n=>
      have hk:(t&&decide (n=x))=true:=hk
      rw [Bool.and_eq_true] at hk
      obtain ⟨h1,h2⟩:=hk
      have h2:=of_decide_eq_true h2
      subst h1 h2
      exact ek
theorem aoy:∀ ys L Q,ab1 ys L Q→xj (aaz (vv 63) agv) 8 ys L Q:=by
  rintro ys L Q ⟨a,w,ks,i,ii,x,lks,rfl,rfl,ha,⟨as,hw,pa⟩,hno,hz,ek,hbd,q⟩
  have a1:atI (osY ks) (i:Int)=some (aln (some (.lf false x))):=vg (by rw [List.getElem?_map,ek];rfl)
  have hi:=j7 ek
  refine vh ha fun keep kp=>ahr (f:=ac8 x) hz (kp L rfl) (fun m k R zs em h1 h2=>?_) fun mt hmt=>?_
  · cases k with
    | none=>exact absurd rfl (hno none (List.mem_of_getElem? em))
    | some k=>
      have hd:∀ k:Kn,(ac8 x (some k)=true→R (zs++[.int (m:Int)]) L)→(ac8 x (some k)=false→R zs L)→vf (Da.eq (ak1 k) (enc (.leaf true x))) (R (zs++[.int (m:Int)]) L) (R zs L):=fun k h1 h2=>by
        rw [axi]
        cases hb:ac8 x (some k) with
        | true=>exact h1 hb
        | false=>exact h2 hb
      cases k with
      | lf t n=>exact ql ha (qx a1 ⟨.leaf false x,rfl,by show 1≤63;decide,rfl,rfl,1,1,ak1 (.lf t n),enc (.leaf true x),by decide,an1 (.lf t n),kj (Nat.le_refl 1),hd _ h1 h2⟩)
      | nd e i' j'=>exact ql ha (qx a1 ⟨.leaf false x,rfl,by show 1≤63;decide,rfl,rfl,1,1,ak1 (.nd e i' j'),enc (.leaf true x),by decide,an1 (.nd e i' j'),kj (Nat.le_refl 1),hd _ h1 h2⟩)
  obtain ⟨mts,emts⟩:∃ mts,mts=whr (ac8 x) ks ks.length:=⟨_,rfl⟩
  have hM:vk ks x=mts.length:=by rw [emts];rfl
  rw [← emts]
  intro lg hlg
  have s2:LSub L (qh (qh L mt (.lst (nY mts))) lg (.lst [])):=(LSub.new hmt).trans (LSub.new hlg)
  have nlg:L lg=none:=x5 hlg
  have nml:mt≠lg:=neL q8 hlg
  have g0:(qh (qh L mt (.lst (nY mts))) lg (.lst [])) mt=some (.lst (nY mts)):=(qf nml).trans q8
  have g1:(qh (qh L mt (.lst (nY mts))) lg (.lst [])) lg=some (.lst []):=q8
  generalize qh (qh L mt (.lst (nY mts))) lg (.lst [])=L2 at s2 g0 g1
  have la:as.length=lks.length:=aaq pa
  refine xu (ys:=as.map Y.ref) (zg (s2 _ _ hw)) (fun k τ L'=>∃ as' lks' c5 c6 c7,τ=[some (.ref a),some (.ref w),some (.int (i:Int)),some (.ref mt),some (.ref lg),c5,c6,c7]∧LSub L L'∧L' mt=some (.lst (nY mts))∧L' lg=some (.lst (as'.map Y.ref))∧Paired (fun b lk=>L' b=some (.lst (zj lk))∧b≠lg∧Way ks (i+1) lk) as' lks'∧lks'.length≤k*mts.length) ⟨[],[],_,_,_,rfl,s2,g0,g1,.nil,Nat.zero_le _⟩ ?_ ?_ ?_
  · rintro k τ L' ⟨as',lks',c5,c6,c7,rfl,s,_⟩
    rw [s _ _ hw,s2 _ _ hw]
  · rintro k y τ L' hy ⟨as',lks',c5,c6,c7,rfl,s,m1,l1,p1,n1⟩
    rw [List.getElem?_map] at hy
    obtain ⟨b,eb,rfl⟩:=Option.map_eq_some_iff.mp hy
    have hk:=j7 eb
    obtain ⟨lk,elk,hb,hbw,wy⟩:=ack pa eb
    have hlk:=wy.2.1.1
    have hkl:(k+1)*mts.length≤lks.length*mts.length:=Nat.mul_le_mul_right _ (by omega)
    rw [Nat.add_mul,Nat.one_mul] at hkl
    rw [hM] at hbd
    refine ⟨b,lk,rfl,s _ _ hb,by omega,fun us hus=>?_⟩
    have t1:LSub L' (qh L' us (.lst (nY (aez lk)))):=LSub.new hus
    refine xu (ys:=nY mts) (zg (t1 _ _ m1)) (fun j τ L''=>∃ as' lks' c7,τ=[some (.ref a),some (.ref w),some (.int (i:Int)),some (.ref mt),some (.ref lg),some (.ref b),some (.ref us),c7]∧LSub L L''∧L'' mt=some (.lst (nY mts))∧L'' us=some (.lst (nY (aez lk)))∧L'' lg=some (.lst (as'.map Y.ref))∧Paired (fun b lk=>L'' b=some (.lst (zj lk))∧b≠lg∧Way ks (i+1) lk) as' lks'∧lks'.length≤k*mts.length+j∧us≠lg) ⟨as',lks',_,rfl,s.trans t1,t1 _ _ m1,q8,t1 _ _ l1,xo (fun c d ⟨h1,h2⟩=>⟨t1 _ _ h1,h2⟩) p1,by omega,Ne.symm (neL l1 hus)⟩ ?_ ?_ ?_
    · rintro j τ L'' ⟨as',lks',c7,rfl,s',m2,_⟩
      rw [m2,t1 _ _ m1]
    · rintro j y τ L'' hy2 ⟨as2,lks2,c7,rfl,s',m2,u2,l2,p2,n2,nul⟩
      obtain ⟨m,em,rfl⟩:=ad3 hy2
      have hj:=j7 em
      have mm:=awg (x:=x) (ks:=ks) (m:=m) (by rw [← emts];exact List.mem_of_getElem? em)
      refine ql u2 ⟨rfl,axr _,?_⟩
      rw [aw9]
      by_cases c:m∈aez lk
      · refine kf (by rw [decide_eq_true c];rfl) ⟨_,LSub.refl _,as2,lks2,_,rfl,s',m2,u2,l2,p2,by omega,nul⟩
      · refine adb (by rw [decide_eq_false c];rfl) ?_
        have l2n:(as2.map Y.ref).length≤100000:=by rw [List.length_map,aaq p2];omega
        refine ql l2 fun q1 hq1=>?_
        have e1:(Y.tup [.int (min (i:Int) (m:Int)),.int (max (i:Int) (m:Int))])=prN (min i m,max i m):=by
          have e2:min (i:Int) (m:Int)=((min i m:Nat):Int):=by omega
          have e3:max (i:Int) (m:Int)=((max i m:Nat):Int):=by omega
          unfold prN;rw [← e2,← e3]
        have v1:=LSub.new (o:=.lst [Y.tup [.int (min (i:Int) (m:Int)),.int (max (i:Int) (m:Int))]]) hq1
        refine ⟨_,_,v1 _ _ (s' _ _ hb),q8,by rw [List.length_map,List.length_singleton];have:=ay3;omega,fun q2 hq2=>?_⟩
        have v2:=v1.trans (LSub.new (o:=.lst (zj lk++[Y.tup [.int (min (i:Int) (m:Int)),.int (max (i:Int) (m:Int))]])) hq2)
        have nql:q2≠lg:=Ne.symm (neL (v1 _ _ l2) hq2)
        refine qz (v2 _ _ l2) ⟨Nat.lt_of_le_of_lt l2n (by decide),_,LSub.refl _,as2++[q2],lks2++[lk++[(min i m,max i m)]],_,rfl,(s'.trans v2).upd nlg,?_,?_,?_,?_,?_,nul⟩
        · rw [qf (fun z=>nml z)];exact v2 _ _ m2
        · rw [qf nul];exact v2 _ _ u2
        · rw [q8,List.map_append];rfl
        · refine ac6 (xo (fun c d ⟨h1,h2,h3⟩=>⟨(qf h2).trans (v2 _ _ h1),h2,h3⟩) p2) ⟨?_,nql,wy.more ⟨x,ek⟩ mm⟩
          rw [qf nql,q8,e1]
          unfold zj;rw [List.map_append];rfl
        · rw [List.length_append,List.length_singleton];omega
    · rintro τ L'' ⟨as2,lks2,c7,rfl,s',m2,u2,l2,p2,n2,nul⟩
      rw [aai] at n2
      refine ⟨_,LSub.refl _,as2,lks2,_,_,_,rfl,s',m2,l2,p2,?_⟩
      rw [Nat.add_mul,Nat.one_mul];exact n2
  · rintro τ L' ⟨as',lks',c5,c6,c7,rfl,s,m1,l1,p1,n1⟩
    rw [List.length_map,la] at n1
    rw [hM] at q
    exact fin (q L' lg lks' s nlg ⟨as',l1,p1⟩ n1)
def ap0 (ks:List (Option Kn)):Option Kn→Nat
  | some (.lf false x)=>vk ks x
  | _=>1
def bnd (ks:List (Option Kn)) (i:Nat):Nat:=((ks.take i).map (ap0 ks)).prod
theorem atj {ks:List (Option Kn)} {i:Nat} {k:Option Kn} (h:ks[i]?=some k):bnd ks (i+1)=bnd ks i*ap0 ks k:=by
  unfold bnd
  rw [List.take_succ,h,List.map_append,List.prod_append]
  simp
theorem Way.perm {ks:List (Option Kn)} {i:Nat} {lk lk':List (Nat×Nat)} (h:Way ks i lk) (p:lk'.Perm lk):Way ks i lk':=⟨p.nodup_iff.mpr h.1,by rw [p.length_eq];exact h.2.1,fun y hy=>h.2.2 y (p.mem_iff.mp hy)⟩
def azq (p:Nat×Nat):Int×Int:=((p.1:Int),(p.2:Int))
theorem avb (lk:List (Nat×Nat)):zj lk=(lk.map azq).map prY:=by unfold zj;rw [List.map_map];rfl
def a42 (L0 L:LHp) (w:Addr) (ks:List (Option Kn)) (lks:List (List (Nat×Nat))):Prop:=∃ as:List Addr,L w=some (.lst (as.map Y.ref))∧Paired (fun b lk=>L b=some (.lst (zj lk))∧L0 b=none∧Way ks ks.length lk) as lks
def agp:Sp3:=fun ys L Q=>∃ a,∃ ks:List (Option Kn),ys=[.ref a]∧L a=some (.lst (osY ks))∧(∀ k∈ks,k≠none)∧ks.length≤1000∧((∀ i≤ks.length,bnd ks i≤100000)∧lvN ks ks.length≤63)∧∀ L' w' lks,LSub L L'→L w'=none→a42 L L' w' ks lks→lks.length≤bnd ks ks.length→Q (.ref w') L'
theorem aw4:∀ ys L Q,agp ys L Q→xj (abx ab1) 4 ys L Q:=by
  rintro ys L Q ⟨a,ks,rfl,ha,hno,hz,⟨hB,h63⟩,q⟩
  intro e he w0 hw0
  have s0:LSub L (qh (qh L e (.lst [])) w0 (.lst [.ref e])):=(LSub.new he).trans (LSub.new hw0)
  have new0:e≠w0:=neL q8 hw0
  have W0:ais (qh (qh L e (.lst [])) w0 (.lst [.ref e])) w0 ks 0 [[]]:=⟨[e],q8,.cons ⟨(qf new0).trans q8,new0,List.nodup_nil,⟨Nat.le_refl _,Nat.le_refl _⟩,fun y hy=>by cases hy⟩ .nil⟩
  have nw0:L w0=none:=x5 hw0
  refine vh (s0 _ _ ha) fun keep kp=>agx ⟨fun i τ L'=>∃ w' lks c2 c3,τ=[some (Y.ref a),some (Y.ref w'),c2,c3]∧LSub L L'∧L w'=none∧ais L' w' ks i lks∧lks.length≤bnd ks i,⟨w0,[[]],_,_,rfl,s0,nw0,W0,by unfold bnd;simp⟩,?_,?_,?_⟩
  · rintro i τ L' ⟨w',lks,c2,c3,rfl,s,_⟩
    exact kp L' (by rw [s _ _ ha,s0 _ _ ha])
  · rintro i y τ L' hy ⟨w',lks,c2,c3,rfl,s,nw,wa,hl⟩
    obtain ⟨z,ez,rfl⟩:=ady hy
    rw [List.getElem?_map] at ez
    obtain ⟨k,ek,rfl⟩:=Option.map_eq_some_iff.mp ez
    have hi:=j7 ek
    have bs:=atj ek
    have up:∀ {as:List Addr} {lks:List (List (Nat×Nat))} {L':LHp} {w':Addr},Paired (fun b lk=>L' b=some (.lst (zj lk))∧b≠w'∧Way ks i lk) as lks→Paired (fun b lk=>L' b=some (.lst (zj lk))∧b≠w'∧Way ks (i+1) lk) as lks:=fun p=>xo (fun _ _ ⟨h1,h2,h3⟩=>⟨h1,h2,h3.mono (Nat.le_succ i)⟩) p
    have stay:ap0 ks k=1→∀ c2 c3,Frg (fun (τ:St3) (L':LHp)=>∃ w' lks c2 c3,τ=[some (Y.ref a),some (Y.ref w'),c2,c3]∧LSub L L'∧L w'=none∧ais L' w' ks (i+1) lks∧lks.length≤bnd ks (i+1)) [some (Y.ref a),some (Y.ref w'),c2,c3] L':=fun h1 c2 c3=>by
      obtain ⟨as,hw,pa⟩:=wa
      exact ⟨_,LSub.refl _,w',lks,c2,c3,rfl,s,nw,⟨as,hw,up pa⟩,by rw [bs,h1,Nat.mul_one];exact hl⟩
    cases k with
    | none=>exact absurd rfl (hno none (List.mem_of_getElem? ek))
    | some k=>
      cases k with
      | nd e' i' j'=>
        cases e' with
        | true=>exact stay rfl _ _
        | false=>exact stay rfl _ _
      | lf t x=>
        cases t with
        | true=>exact stay rfl _ _
        | false=>
          have hb1:=hB (i+1) (by omega)
          have fe:ap0 ks (some (.lf false x))=vk ks x:=rfl
          rw [fe] at bs
          have lb:lks.length*vk ks x≤bnd ks (i+1):=by rw [bs];exact Nat.mul_le_mul_right _ hl
          refine ⟨a,w',ks,i,_,x,lks,rfl,rfl,s _ _ ha,wa,hno,hz,ek,by omega,fun L3 w3 lks3 s3 n3 wa3 hl3=>?_⟩
          exact ⟨_,LSub.refl _,w3,lks3,_,_,rfl,s.trans s3,jd s n3,wa3,by omega⟩
  · rintro τ L' ⟨w',lks,c2,c3,rfl,s,nw,⟨as,hw,pa⟩,hl⟩
    rw [aax,List.length_map] at pa hl
    have la:as.length=lks.length:=aaq pa
    have hbn:=hB ks.length (Nat.le_refl _)
    refine vh hw fun keep kp=>ao0 ⟨by rw [List.length_map];exact Nat.lt_of_le_of_lt (by omega:as.length≤100000) (by decide),fun k zs L2=>∃ ds lks2,zs=ds.map Y.ref∧LSub L' L2∧Paired (fun b lk=>L2 b=some (.lst (zj lk))∧L b=none∧Way ks ks.length lk) ds lks2∧lks2.length=k,⟨[],[],rfl,LSub.refl _,.nil,rfl⟩,?_,?_,?_⟩
    · rintro k zs L2 ⟨ds,lks2,rfl,s2,_⟩
      exact kp L2 (by rw [s2 _ _ hw,hw])
    · rintro k y zs L2 hy ⟨ds,lks2,rfl,s2,pd,ld⟩
      rw [List.getElem?_map] at hy
      obtain ⟨b,eb,rfl⟩:=Option.map_eq_some_iff.mp hy
      obtain ⟨lk,elk,hb,_,wy⟩:=ack pa eb
      refine qz (s2 _ _ hb) ⟨lk.map azq,avb lk,fun p hp=>?_,?_,?_,fun D qs hD pm pw=>?_⟩
      · obtain ⟨r,hr,rfl⟩:=List.mem_map.mp hp
        have:=(wy.2.2 r hr).2.1
        show (0:Int)≤((r.2:Nat):Int)∧((r.2:Nat):Int)<1000000
        omega
      · exact ah6 (fun x hx y hy e=>by
          have e1:((x.1:Nat):Int)=(y.1:Int):=congrArg Prod.fst e
          have e2:((x.2:Nat):Int)=(y.2:Int):=congrArg Prod.snd e
          exact Prod.ext (by omega) (by omega)) wy.1
      · rw [List.length_map];have:=wy.2.1.2;omega
      · obtain ⟨lk',pl,rfl⟩:=ak3 azq pm rfl
        have nD:L D=none:=jd (s.trans s2) hD
        refine ⟨_,LSub.refl _,ds++[D],lks2++[lk'],by rw [List.map_append];rfl,s2.trans (LSub.new hD),?_,by rw [List.length_append,List.length_singleton,ld]⟩
        refine ac6 (xo (fun c d ⟨h1,h2⟩=>⟨LSub.new hD _ _ h1,h2⟩) pd) ⟨?_,nD,wy.perm pl⟩
        rw [q8,← avb]
    · rintro zs L2 ⟨ds,lks2,rfl,s2,pd,ld⟩ p hp
      rw [List.length_map] at ld
      refine fin (q _ p lks2 ((s.trans s2).trans (LSub.new hp)) (jd (s.trans s2) hp) ⟨ds,q8,xo (fun c d ⟨h1,h2⟩=>⟨LSub.new hp _ _ h1,h2⟩) pd⟩ (by omega))
def ahn:Sp3:=fun ys L Q=>∃ a,∃ ks:List (Option Kn),ys=[.ref a]∧L a=some (.lst (osY ks))∧(∀ k∈ks,k≠none)∧ks.length≤1000∧((∀ i≤ks.length,bnd ks i≤100000)∧lvN ks ks.length≤63)∧KnR ks∧(∀ y L',LSub L L'→Q (.tup [.str "web",y]) L')∧(∀ y L',LSub L L'→Q (.tup [.str "tries",y]) L')
theorem azi:∀ ys L Q,ahn ys L Q→xj (aaa agp ah3) 5 ys L Q:=by
  rintro ys L Q ⟨a,ks,rfl,ha,hno,hz,⟨hB,h63⟩,hkr,q1,q2⟩
  intro p0 hp0
  have s0:LSub L (qh L p0 (.lst [])):=LSub.new hp0
  refine ⟨a,ks,rfl,s0 _ _ ha,hno,hz,⟨hB,h63⟩,fun L1 w lks s1 nw ⟨as,hw,pa⟩ hl=>?_⟩
  have hb:=hB ks.length (Nat.le_refl _)
  have la:as.length=lks.length:=aaq pa
  have hwp:w≠p0:=Ne.symm (neL q8 nw)
  have h0:L1 p0=some (.lst []):=s1 _ _ q8
  have sL:LSub L L1:=s0.trans s1
  refine xu (ys:=as.map Y.ref) (zg hw) (fun k τ L'=>∃ ts c2 c3 c4,τ=[some (.ref a),some (.ref p0),c2,c3,c4]∧LSub L L'∧L' w=some (.lst (as.map Y.ref))∧L' p0=some (.lst ts)∧Paired (fun b lk=>L' b=some (.lst (zj lk))∧b≠p0∧Way ks ks.length lk) as lks∧ts.length≤k) ⟨[],_,_,_,rfl,sL,hw,h0,xo (fun b lk ⟨h1,h2,h3⟩=>⟨h1,Ne.symm (neL q8 h2),h3⟩) pa,Nat.le_refl _⟩ ?_ ?_ ?_
  · rintro k τ L' ⟨ts,c2,c3,c4,rfl,_,h,_⟩
    rw [h,hw]
  · rintro k y τ L' hy ⟨ts,c2,c3,c4,rfl,s,w1,t1,p1,l1⟩
    rw [List.getElem?_map] at hy
    obtain ⟨b,eb,rfl⟩:=Option.map_eq_some_iff.mp hy
    have hk:=j7 eb
    obtain ⟨lk,elk,hb1,hbp,wy⟩:=ack p1 eb
    intro e he
    have v1:LSub L' (qh L' e (.lst [])):=LSub.new he
    have hlk:=wy.2.1.1
    refine ⟨a,b,e,ks,lk,[],rfl,⟨v1 _ _ (s _ _ ha),v1 _ _ hb1,q8,hz,by omega,Nat.zero_le _,fun x hx=>⟨(wy.2.2 x hx).1,(wy.2.2 x hx).2.1⟩,(fun x hx=>by cases hx),hkr⟩,fin (q1 _ _ (s.trans v1)),fun c zs hc hzs=>?_⟩
    have v2:=v1.trans (LSub.new (o:=.lst zs) hc)
    refine ql (v2 _ _ t1) (qz (v2 _ _ t1) ⟨Nat.lt_of_le_of_lt (by omega:ts.length≤100000) (by decide),_,LSub.refl _,ts++[_],_,_,_,rfl,(s.trans v2).upd hp0,?_,q8,?_,?_⟩)
    · rw [qf hwp];exact v2 _ _ w1
    · exact xo (fun c d ⟨h1,h2,h3⟩=>⟨(qf h2).trans (v2 _ _ h1),h2,h3⟩) p1
    · rw [List.length_append,List.length_singleton];omega
  · rintro τ L' ⟨ts,c2,c3,c4,rfl,s,_⟩
    exact fin (q2 _ _ s)
end L3
namespace L3
open PySem L2 Words
local macro_rules | `(tactic| walk_at "w")=>`(tactic| conv=>whnf)
def ahe (p_is_leaf:Sp3) (p_lay_word:Sp3):TS3:=(apt (kc (yB (zc p_is_leaf (qc (qb 1) qm))) (v4 (yBL jj (qb 0) (qc (qb 1) qm))) (qw (z9 (zc p_lay_word (qc (qb 0) (qc (yOp yIx (qb 1) (yC (.int 1))) qm))) (qj 2))
  (qw (z9 (zc p_lay_word (qc (qb 0) (qc (yOp yIx (qb 1) (yC (.int 2))) qm))) (qj 3))
  (v4 (yBL jj (qb 0) (qc (k8 (qc (yOp yIx (qb 1) (yC (.int 0))) (qc (qb 2) (qc (qb 3) qm)))) qm))))))
  (j9 (yOp ao6 (yCB wu (qc (qb 0) qm)) (yC (.int 1)))))
def atu (p_lay_word:Sp3):TS3:=(qw (z9 (w6 qm) (qj 1))
  (qw (z9 (w6 qm) (qj 2))
  (qw (ac7 (xa (qb 0)) (qj 3) (v4 (yBL jj (qb 2) (qc (zc p_lay_word (qc (qb 1) (qc (qb 3) qm))) qm))))
  (j9 (k8 (qc (qb 1) (qc (qb 2) qm)))))))
def abj:Nat→Wd→List Y
  | _,.leaf t n=>[.tup [.str (kL t),.str n]]
  | b,.node e l r=>(abj b l++abj (b+l.size) r)++[.tup [.str (kN e),.int ((b+l.size - 1:Nat)),.int ((b+l.size+r.size - 1:Nat))]]
theorem wc:∀ (b:Nat) (w:Wd),(abj b w).length=w.size
  | _,.leaf _ _=>rfl
  | b,.node e l r=>by
    show ((abj b l++abj (b+l.size) r)++[_]).length=1+l.size+r.size
    rw [List.length_append,List.length_append,wc,wc]
    show l.size+r.size+1=_;omega
def vz (n:Nat):Sp3:=fun ys L Q=>∃ k ks wd,ys=[.ref k,qo wd]∧L k=some (.lst ks)∧wd.depth≤n∧ks.length+wd.size≤1000∧Q (.int ((ks.length+wd.size - 1:Nat))) (qh L k (.lst (ks++abj ks.length wd)))
theorem amf:∀ ys L Q,¬ vz 0 ys L Q:=fun ys L Q ⟨k,ks,wd,_,_,hd,_⟩=>by cases wd<;>simp [Wd.depth] at hd
theorem anr (n:Nat):∀ ys L Q,vz (n+1) ys L Q→xj (ahe js (vz n)) 4 ys L Q:=by
  rintro ys L Q ⟨k,ks,wd,rfl,hk,hd,hz,q⟩
  cases wd with
  | leaf t nm=>
    have hz':ks.length+1≤1000:=hz
    refine ⟨_,⟨true,t,_,rfl,ql hk (qz hk ⟨acn (by omega),?_⟩)⟩,fun _ _ h=>h⟩
    refine ql q8 ?_
    have e:(((ks++[Y.tup [.str (kL t),.str nm]]).length:Int) - 1)=((ks.length+(Wd.leaf t nm).size - 1:Nat):Int):=by
      rw [List.length_append];show ((ks.length+1:Nat):Int) - 1=((ks.length+1 - 1:Nat):Int);omega
    refine fin ?_
    dsimp only
    rw [show ks++[qo (Wd.leaf t nm)]=ks++[Y.tup [.str (kL t),.str nm]] from rfl,e]
    exact q
  | node e l r=>
    have hd':max l.depth r.depth+1≤n+1:=hd
    have hz':ks.length+(1+l.size+r.size)≤1000:=hz
    have pl:=l.size_pos;have pr:=r.size_pos
    refine ⟨_,⟨false,e,_,rfl,k,ks,l,rfl,hk,by omega,by omega,k,_,r,rfl,q8,by omega,?_,ql q8 (qz q8 ⟨acn ?_,?_⟩)⟩,fun _ _ h=>h⟩
    · rw [List.length_append,wc];omega
    · rw [List.length_append,List.length_append,wc,wc];omega
    · rw [zd,zd]
      refine ql q8 (fin ?_)
      have e1:(ks++abj ks.length l).length=ks.length+l.size:=by rw [List.length_append,wc]
      rw [e1]
      have e2:ks++abj ks.length l++abj (ks.length+l.size) r++[Y.tup [.str (kN e),.int ((ks.length+l.size - 1:Nat)),.int ((ks.length+l.size+r.size - 1:Nat))]]=ks++abj ks.length (.node e l r):=by
        show _=ks++((abj ks.length l++abj (ks.length+l.size) r)++[_])
        simp only [List.append_assoc]
      rw [e2]
      have e3:(((ks++abj ks.length (.node e l r)).length:Int) - 1)=((ks.length+(Wd.node e l r).size - 1:Nat):Int):=by
        rw [List.length_append,wc]
        have:1≤(Wd.node e l r).size:=Wd.size_pos _
        omega
      dsimp only
      rw [e3]
      exact q
def SZ (ws:List Wd):Nat:=(ws.map Wd.size).sum
theorem at4 (us vs:List Wd):SZ (us++vs)=SZ us+SZ vs:=by simp [SZ]
theorem a0f (w:Wd):SZ [w]=w.size:=by simp [SZ]
theorem xk (w:Wd) (r:List Wd):SZ (w::r)=w.size+SZ r:=by simp [SZ]
theorem atf (ws:List Wd):ws.length≤SZ ws:=by
  induction ws with
  | nil=>simp
  | cons w r ih=>have:=w.size_pos;rw [xk,List.length_cons];omega
theorem a06 {ws:List Wd} {w:Wd} (h:w∈ws):w.size≤SZ ws:=by
  induction ws with
  | nil=>cases h
  | cons v r ih=>
    rw [xk]
    rcases List.mem_cons.mp h with rfl | h
    · omega
    · have:=ih h;omega
theorem aoo (w:Wd):2*w.depth≤w.size+1:=by have:=w.depth_le;have:=w.size_eq;omega
def v5:Nat→List Wd→List Y
  | _,[]=>[]
  | b,w::r=>abj b w++v5 (b+w.size) r
theorem ag1:∀ (b:Nat) (us:List Wd) (w:Wd),v5 b (us++[w])=v5 b us++abj (b+SZ us) w
  | b,[],w=>by simp [v5,SZ]
  | b,u::us,w=>by
    rw [List.cons_append,v5,v5,ag1,xk,List.append_assoc,Nat.add_assoc]
theorem ab6:∀ (b:Nat) (us:List Wd),(v5 b us).length=SZ us
  | _,[]=>rfl
  | b,u::us=>by rw [v5,List.length_append,wc,ab6,xk]
def plc:Nat→List Wd→List Y
  | _,[]=>[]
  | b,w::r=>.int ((b+w.size - 1:Nat))::plc (b+w.size) r
theorem anb:∀ (b:Nat) (us:List Wd) (w:Wd),plc b (us++[w])=plc b us++[.int ((b+SZ us+w.size - 1:Nat))]
  | b,[],w=>by simp [plc,SZ]
  | b,u::us,w=>by
    rw [List.cons_append,plc,plc,anb,xk,List.cons_append,show b+u.size+SZ us=b+(u.size+SZ us) by omega]
theorem apw:∀ (b:Nat) (us:List Wd),(plc b us).length=us.length
  | _,[]=>rfl
  | b,u::us=>by rw [plc,List.length_cons,apw,List.length_cons]
theorem amb {α:Type} {ws:List α} {i:Nat} {w:α} (h:ws[i]?=some w):ws.take (i+1)=ws.take i++[w]:=by rw [List.take_succ,h];rfl
theorem ay2 (ws:List Wd) (i:Nat):SZ (ws.take i)≤SZ ws:=by
  have:=at4 (ws.take i) (ws.drop i)
  rw [List.take_append_drop] at this
  omega
def aeg:Sp3:=fun ys L Q=>∃ a ws,ys=[.ref a]∧L a=some (.lst ((ws:List Wd).map qo))∧SZ ws≤100∧∀ k p,L k=none→L p=none→k≠p→Q (.tup [.ref k,.ref p]) (qh (qh L k (.lst (v5 0 ws))) p (.lst (plc 0 ws)))
theorem avx:∀ ys L Q,aeg ys L Q→xj (atu (vz 60)) 4 ys L Q:=by
  rintro ys L Q ⟨a,ws,rfl,ha,hz,q⟩
  intro k hk p hp
  have np:L p=none:=jd (LSub.new hk) hp
  have nkp:k≠p:=neL q8 hp
  have nak:a≠k:=neL ha hk
  have nap:a≠p:=neL ha np
  have sb:∀ o u,LSub L (qh (qh L k o) p u):=fun o u=>(LSub.new hk).upd np
  refine xu (ys:=ws.map qo) (zg (sb _ _ _ _ ha)) (fun i τ L'=>∃ c,τ=[some (.ref a),some (.ref k),some (.ref p),c]∧L'=qh (qh L k (.lst (v5 0 (ws.take i)))) p (.lst (plc 0 (ws.take i)))) ⟨_,rfl,rfl⟩ ?_ ?_ ?_
  · rintro i τ L' ⟨c,rfl,rfl⟩
    rw [sb _ _ _ _ ha,sb _ _ _ _ ha]
  · rintro i y τ L' hy ⟨c,rfl,rfl⟩
    rw [List.getElem?_map] at hy
    obtain ⟨w,ew,rfl⟩:=Option.map_eq_some_iff.mp hy
    have hw:=a06 (List.mem_of_getElem? ew)
    have hd:=aoo w
    have ht:=ay2 ws (i+1)
    rw [amb ew,at4,a0f] at ht
    have hl:(ws.take i).length≤100:=Nat.le_trans (atf _) (by omega)
    refine ql q8 ⟨k,_,w,rfl,(qf nkp).trans q8,by omega,by rw [ab6];omega,?_⟩
    refine qz ((qf (Ne.symm nkp)).trans q8) ⟨acn (by rw [apw];omega),⟨_,LSub.refl _,_,rfl,?_⟩⟩
    rw [ab6,amb ew,ag1,anb,aal (Ne.symm nkp),zd,zd,Nat.zero_add]
  · rintro τ L' ⟨c,rfl,rfl⟩
    rw [List.length_map,List.take_length]
    exact fin (q k p hk np nkp)
end L3
namespace L3
open PySem L2 Words
local macro_rules | `(tactic| walk_at "w")=>`(tactic| conv=>whnf)
def aeq:Nat→Wd→List Kn
  | _,.leaf t n=>[.lf t n]
  | b,.node e l r=>(aeq b l++aeq (b+l.size) r)++[.nd e (b+l.size - 1) (b+l.size+r.size - 1)]
theorem aoc:∀ (b:Nat) (w:Wd),(aeq b w).map att=abj b w
  | _,.leaf _ _=>rfl
  | b,.node e l r=>by
    show ((aeq b l++aeq (b+l.size) r)++[_]).map att=(abj b l++abj (b+l.size) r)++[_]
    rw [List.map_append,List.map_append,aoc,aoc];rfl
def abr:Nat→List Wd→List Kn
  | _,[]=>[]
  | b,w::r=>aeq b w++abr (b+w.size) r
theorem alk:∀ (b:Nat) (ws:List Wd),(abr b ws).map att=v5 b ws
  | _,[]=>rfl
  | b,w::r=>by rw [abr,List.map_append,aoc,alk,v5]
theorem ar7 (b:Nat) (ws:List Wd):(abr b ws).length=SZ ws:=by rw [← ab6 b ws,← alk,List.length_map]
abbrev ksO (ws:List Wd):List (Option Kn):=(abr 0 ws).map some
theorem a40 (ws:List Wd):osY (ksO ws)=v5 0 ws:=by
  unfold osY ksO
  rw [List.map_map,← alk];rfl
theorem apr (ws:List Wd):(ksO ws).length=SZ ws:=by rw [List.length_map,ar7]
theorem au5 (ws:List Wd):∀ k∈ksO ws,k≠none:=fun k hk=>by
  obtain ⟨x,_,rfl⟩:=List.mem_map.mp hk
  exact fun z=>by cases z
def Low (n:Nat):Kn→Prop
  | .lf _ _=>True
  | .nd _ i j=>i<n∧j<n
theorem Low.mono {n m:Nat} (h:n≤m):∀ {k:Kn},Low n k→Low m k
  | .lf _ _,_=>trivial
  | .nd _ _ _,⟨a,b⟩=>⟨Nat.lt_of_lt_of_le a h,Nat.lt_of_lt_of_le b h⟩
theorem aif:∀ (b:Nat) (w:Wd),∀ k∈aeq b w,Low (b+w.size) k
  | _,.leaf _ _,k,hk=>by rw [List.mem_singleton.mp hk];trivial
  | b,.node e l r,k,hk=>by
    have pl:=l.size_pos;have pr:=r.size_pos
    have es:(Wd.node e l r).size=1+l.size+r.size:=rfl
    rcases List.mem_append.mp hk with hk | hk
    · rcases List.mem_append.mp hk with hk | hk
      · exact (aif b l k hk).mono (by omega)
      · exact (aif (b+l.size) r k hk).mono (by omega)
    · rw [List.mem_singleton.mp hk]
      exact ⟨by omega,by omega⟩
theorem aka:∀ (b:Nat) (ws:List Wd),∀ k∈abr b ws,Low (b+SZ ws) k
  | _,[],k,hk=>by cases hk
  | b,w::r,k,hk=>by
    rw [abr] at hk
    rw [xk]
    rcases List.mem_append.mp hk with hk | hk
    · exact (aif b w k hk).mono (by omega)
    · exact (aka (b+w.size) r k hk).mono (by omega)
theorem a2n (ws:List Wd):KnR (ksO ws):=by
  intro p e i j h
  have hm:=List.mem_of_getElem? h
  obtain ⟨k,hk,ek⟩:=List.mem_map.mp hm
  cases ek
  have:=aka 0 ws _ hk
  rw [apr,← Nat.zero_add (SZ ws)]
  exact this
def lvK:Option Kn→Option Wd
  | some (.lf t n)=>some (.leaf t n)
  | _=>none
theorem al3:∀ (b:Nat) (w:Wd),((aeq b w).map some).filterMap lvK=w.leafL
  | _,.leaf _ _=>rfl
  | b,.node e l r=>by
    show (((aeq b l++aeq (b+l.size) r)++[_]).map some).filterMap lvK=l.leafL++r.leafL
    rw [List.map_append,List.map_append,List.filterMap_append,List.filterMap_append,al3,al3]
    simp [lvK]
theorem ah7:∀ (b:Nat) (ws:List Wd),((abr b ws).map some).filterMap lvK=LV ws
  | _,[]=>rfl
  | b,w::r=>by
    rw [abr,List.map_append,List.filterMap_append,al3,ah7]
    unfold LV;rw [List.flatMap_cons]
def boN:Wd→Nat
  | .leaf _ _=>0
  | .node e l r=>boN l+boN r+if e=true then 0 else 1
def BO (ws:List Wd):Nat:=(ws.map boN).sum
theorem alj:∀ (b:Nat) (w:Wd),((aeq b w).map some).countP (va false)=boN w
  | _,.leaf _ _=>rfl
  | b,.node e l r=>by
    show (((aeq b l++aeq (b+l.size) r)++[_]).map some).countP (va false)=boN l+boN r+_
    rw [List.map_append,List.map_append,List.countP_append,List.countP_append,alj,alj]
    cases e<;>rfl
theorem amu:∀ (b:Nat) (ws:List Wd),((abr b ws).map some).countP (va false)=BO ws
  | _,[]=>rfl
  | b,w::r=>by
    rw [abr,List.map_append,List.countP_append,alj,amu]
    unfold BO;rw [List.map_cons,List.sum_cons]
theorem ajk (f:Option Kn→Bool) (ks:List (Option Kn)):∀ i,i≤ks.length→(whr f ks i).length=(ks.take i).countP f
  | 0,_=>rfl
  | i+1,h=>by
    have e:ks[i]?=some ks[i]:=List.getElem?_eq_getElem (by omega)
    rw [ahi e,List.length_append,ajk f ks i (by omega),List.take_succ,e,List.countP_append]
    congr 1
    cases hf:f ks[i]<;>simp [hf]
theorem au7 (ks:List (Option Kn)) (x:Str):vk ks x=za (ks.filterMap lvK) true x:=by
  unfold vk za
  rw [ajk _ _ _ (Nat.le_refl _),List.take_length]
  induction ks with
  | nil=>rfl
  | cons k r ih=>
    rw [List.countP_cons,ih]
    cases k with
    | none=>simp [lvK,ac8,List.filterMap_cons]
    | some k=>
      cases k with
      | nd e i j=>simp [lvK,ac8,List.filterMap_cons]
      | lf t n=>cases t<;>simp [lvK,ac8,abi,List.countP_cons]
def akr (f:Str→Nat):Wd→Nat
  | .leaf false x=>f x
  | _=>1
theorem azo (ks:List (Option Kn)) (i:Nat):bnd ks i=(((ks.take i).filterMap lvK).map (akr (vk ks))).prod:=by
  unfold bnd
  generalize ks.take i=l
  induction l with
  | nil=>rfl
  | cons k r ih=>
    rw [List.map_cons,List.prod_cons,ih]
    cases k with
    | none=>simp [lvK,ap0,List.filterMap_cons]
    | some k=>
      cases k with
      | nd e i j=>simp [lvK,ap0,List.filterMap_cons]
      | lf t n=>cases t<;>simp [lvK,ap0,akr]
theorem aq2 {f:Str→Nat} (ls:List Wd) (hlf:∀ w∈ls,∃ t n,w=Wd.leaf t n):∀ i,∀ nms:List Str,nms.Nodup→(∀ w∈ls,ahl w∈nms)→((ls.take i).map (akr f)).prod=(nms.map fun x=>f x ^ za (ls.take i) false x).prod
  | 0,nms,_,_=>(afk (fun y=>rfl) nms).symm
  | i+1,nms,hn,hm=>by
    have ih:=aq2 (f:=f) ls hlf i nms hn hm
    cases e:ls[i]? with
    | none=>
      have et:ls.take (i+1)=ls.take i:=by rw [List.take_succ,e];simp
      rw [et];exact ih
    | some w=>
      have et:ls.take (i+1)=ls.take i++[w]:=by rw [List.take_succ,e];rfl
      have hw:=List.mem_of_getElem? e
      obtain ⟨t,x,rfl⟩:=hlf w hw
      rw [et,List.map_append,List.prod_append,ih]
      cases t with
      | true=>
        have:([Wd.leaf true x].map (akr f)).prod=1:=by simp [akr]
        rw [this,Nat.mul_one]
        refine congrArg List.prod (List.map_congr_left fun y _=>?_)
        rw [vd,if_neg (by simp [abi]),Nat.add_zero]
      | false=>
        have:([Wd.leaf false x].map (akr f)).prod=f x:=by simp [akr]
        rw [this]
        refine (al8 (x:=x) ?_ ?_ nms hn (hm _ hw)).symm
        · rw [vd,if_pos (by simp [abi]),Nat.pow_succ]
        · intro y hy
          rw [vd,if_neg (by simp [abi];exact fun z=>hy z.symm),Nat.add_zero]
theorem apy {f g:Str→Nat}:∀ {nms:List Str},(∀ x∈nms,f x≤g x)→(nms.map f).prod≤(nms.map g).prod
  | [],_=>Nat.le_refl _
  | x::r,h=>by
    rw [List.map_cons,List.map_cons,List.prod_cons,List.prod_cons]
    exact Nat.mul_le_mul (h x (List.mem_cons_self ..)) (apy fun y hy=>h y (List.mem_cons_of_mem _ hy))
theorem apj {f:Str→Nat}:∀ nms:List Str,(nms.map fun x=>f x*f x).prod=(nms.map f).prod*(nms.map f).prod
  | []=>rfl
  | x::r=>by
    rw [List.map_cons,List.map_cons,List.prod_cons,List.prod_cons,apj r]
    rw [Nat.mul_assoc,Nat.mul_assoc,Nat.mul_left_comm (f x) ((r.map f).prod)]
theorem anp:∀ n,1≤aad n
  | 0=>Nat.le_refl _
  | n+1=>by show 1≤aad n*(n+1);exact Nat.mul_pos (anp n) (Nat.succ_pos n)
theorem amx {f:Str→Nat} (h:∀ x,1≤f x):∀ nms:List Str,1≤(nms.map f).prod
  | []=>Nat.le_refl _
  | x::r=>by rw [List.map_cons,List.prod_cons];exact Nat.mul_pos (h x) (amx h r)
theorem ag2 {f:Str→Nat} (h:∀ x,1≤f x):∀ {nms:List Str} {x:Str},x∈nms→f x≤(nms.map f).prod
  | y::r,x,hx=>by
    rw [List.map_cons,List.prod_cons]
    rcases List.mem_cons.mp hx with rfl | hx
    · exact Nat.le_mul_of_pos_right _ (amx h r)
    · exact Nat.le_trans (ag2 h hx) (Nat.le_mul_of_pos_left _ (h y))
theorem ak4:∀ n,aad (n+3)≥6
  | 0=>by decide
  | n+1=>by
    have:=ak4 n
    show aad (n+3)*(n+4)≥6
    exact Nat.le_trans this (Nat.le_mul_of_pos_right _ (by omega))
theorem ait:∀ l:List Str,∃ nms:List Str,nms.Nodup∧∀ x∈l,x∈nms
  | []=>⟨[],List.nodup_nil,fun x hx=>by cases hx⟩
  | a::r=>by
    obtain ⟨nms,h1,h2⟩:=ait r
    by_cases c:a∈nms
    · refine ⟨nms,h1,fun x hx=>?_⟩
      rcases List.mem_cons.mp hx with rfl | hx
      · exact c
      · exact h2 x hx
    · refine ⟨a::nms,List.nodup_cons.mpr ⟨c,h1⟩,fun x hx=>?_⟩
      rcases List.mem_cons.mp hx with rfl | hx
      · exact List.mem_cons_self ..
      · exact List.mem_cons_of_mem _ (h2 x hx)
theorem as6 {f:Wd→Nat}:∀ (a b:List Wd),(∀ w∈b,1≤f w)→(a.map f).prod≤((a++b).map f).prod:=fun a b h=>by
  rw [List.map_append,List.prod_append]
  refine Nat.le_mul_of_pos_right _ ?_
  induction b with
  | nil=>exact Nat.le_refl _
  | cons x r ih=>
    rw [List.map_cons,List.prod_cons]
    exact Nat.mul_pos (h x (List.mem_cons_self ..)) (ih fun w hw=>h w (List.mem_cons_of_mem _ hw))
theorem am1 {α β:Type} (f:α→Option β) (l:List α) (i:Nat):∃ r,l.filterMap f=(l.take i).filterMap f++r:=⟨(l.drop i).filterMap f,by rw [← List.filterMap_append,List.take_append_drop]⟩
theorem axh {ls:List Wd} {t:Bool} {x:Str} (h:Wd.leaf t x∈ls):1≤za ls t x:=by
  unfold za
  exact List.countP_pos_iff.mpr ⟨_,h,by simp [abi]⟩
theorem aqy {ws:List Wd} {n:Nat} (he:adn (LV ws)) (hn:WayR (LV ws) n) (h4:n≤4):∀ i≤(ksO ws).length,bnd (ksO ws) i≤100000:=by
  intro i _
  have elv:(ksO ws).filterMap lvK=LV ws:=ah7 0 ws
  have em:∀ x,vk (ksO ws) x=za (LV ws) false x:=fun x=>by rw [au7,elv,he x]
  have hlf:∀ w∈LV ws,∃ t n,w=Wd.leaf t n:=fun w hw=>ah2 hw
  rw [azo]
  obtain ⟨r,er⟩:=am1 lvK (ksO ws) i
  have step:((((ksO ws).take i).filterMap lvK).map (akr (vk (ksO ws)))).prod≤((LV ws).map (akr (vk (ksO ws)))).prod:=by
    rw [← elv,er]
    refine as6 _ _ fun w hw=>?_
    have hw2:w∈LV ws:=by rw [← elv,er];exact List.mem_append_right _ hw
    obtain ⟨t,x,rfl⟩:=hlf w hw2
    cases t with
    | true=>exact Nat.le_refl _
    | false=>show 1≤vk (ksO ws) x;rw [em];exact axh hw2
  obtain ⟨nms,nd,hm⟩:=ait ((LV ws).map ahl)
  have hm':∀ w∈LV ws,ahl w∈nms:=fun w hw=>hm _ (List.mem_map_of_mem hw)
  have e1:=aq2 (f:=vk (ksO ws)) (LV ws) hlf (LV ws).length nms nd hm'
  rw [List.take_length] at e1
  have e2:=hn nms nd hm'
  have c2:∀ x∈nms,za (LV ws) false x≤2:=fun x hx=>by
    have h1:aad (za (LV ws) false x)≤n:=by rw [e2];exact ag2 (f:=fun x=>aad (za (LV ws) false x)) (fun y=>anp _) hx
    by_cases c:za (LV ws) false x≤2
    · exact c
    · obtain ⟨k,ek⟩:∃ k,za (LV ws) false x=k+3:=⟨za (LV ws) false x - 3,by omega⟩
      rw [ek] at h1
      have:=ak4 k
      omega
  have e3:(nms.map fun x=>vk (ksO ws) x ^ za (LV ws) false x).prod≤(nms.map fun x=>aad (za (LV ws) false x)*aad (za (LV ws) false x)).prod:=apy fun x hx=>by
    rw [em]
    have h2:=c2 x hx
    generalize za (LV ws) false x=c at h2
    have:c=0∨c=1∨c=2:=by omega
    rcases this with rfl | rfl | rfl<;>decide
  rw [apj (f:=fun x=>aad (za (LV ws) false x)),← e2] at e3
  rw [e1] at step
  have:n*n≤4*4:=Nat.mul_le_mul h4 h4
  omega
end L3
namespace L3
open PySem L2 Words
local macro_rules | `(tactic| walk_at "w")=>`(tactic| conv=>whnf)
def aaw:Sp3:=fun ys L Q=>∃ a,∃ ws:List Wd,ys=[.ref a]∧L a=some (.lst (ws.map qo))∧(∀ w∈ws,w.depth≤63∧w.leaves≤63)∧(LV ws).length≤124∧∀ n,a27 (LV ws) n→Q (.int ((n:Nat):Int)) L
theorem aqg:∀ ys L Q,aaw ys L Q→xj (afu ab4 kg) 6 ys L Q:=by
  rintro ys L Q ⟨a,ws,rfl,ha,hok,hlv,q⟩
  refine ⟨a,ws,rfl,ha,hok,by omega,fun p hp=>?_⟩
  have hlf:∀ w∈LV ws,∃ t n,w=Wd.leaf t n:=fun w hw=>ah2 hw
  refine ⟨p,LV ws,rfl,q8,hlf,by omega,fun x hx=>?_,fun hn=>?_⟩
  · exact aau (LSub.new hp) (q 0 (.inr ⟨an8 hx,rfl⟩))
  intro d hd
  have hpd:p≠d:=neL q8 hd
  have sub:∀ o,LSub L (qh (qh L p (.lst ((LV ws).map qo))) d o):=fun o=>(LSub.new hp).trans (LSub.new hd)
  refine xu (ys:=(LV ws).map qo) (zg ((qf hpd).trans q8)) (fun i τ L'=>∃ kvs,∃ n:Nat,∃ c4 c5,τ=[some (.ref a),some (.ref p),some (.int (n:Int)),some (.ref d),c4,c5]∧L'=qh (qh L p (.lst ((LV ws).map qo))) d (.dct kvs)∧kvs.length≤i∧(∀ x,v9 kvs (.inr x)=aqx (za ((LV ws).take i) false x))∧WayR ((LV ws).take i) n) ⟨[],1,_,_,rfl,rfl,Nat.le_refl _,fun x=>rfl,WayR.nil⟩ ?_ ?_ ?_
  · rintro i τ L' ⟨kvs,n,c4,c5,rfl,rfl,_⟩
    rw [qf hpd,qf hpd]
  · rintro i y τ L' hy ⟨kvs,n,c4,c5,rfl,rfl,hk,hv,hw⟩
    rw [List.getElem?_map] at hy
    obtain ⟨w,ew,rfl⟩:=Option.map_eq_some_iff.mp hy
    obtain ⟨t,x,rfl⟩:=hlf w (List.mem_of_getElem? ew)
    have hi:i<(LV ws).length:=(List.getElem?_eq_some_iff.mp ew).1
    have et:(LV ws).take (i+1)=(LV ws).take i++[Wd.leaf t x]:=by rw [List.take_succ,ew];rfl
    cases t with
    | true=>
      refine ⟨_,LSub.refl _,kvs,n,_,_,rfl,rfl,by omega,fun z=>?_,?_⟩
      · rw [hv,et,vd,if_neg (by simp [abi])];rfl
      · rw [et];exact hw.other
    | false=>
      have e:((v9 kvs (.inr x)).getD (Y.int 0))=.int ((za ((LV ws).take i) false x:Nat):Int):=by
        rw [hv];unfold aqx
        split
        · rename_i h;rw [h];rfl
        · rfl
      refine wx q8 (wx q8 ?_)
      rw [e]
      refine wx q8 ⟨?_,?_⟩
      · have hb:(1000:Nat)≤sizeLine:=by decide
        omega
      have ev:v9 (air kvs (.inr x) (.int (((za ((LV ws).take i) false x:Nat):Int)+1))) (.inr x)=some (.int (((za ((LV ws).take i) false x:Nat):Int)+1)):=by rw [ael,if_pos rfl]
      have hcl:za ((LV ws).take i) false x≤124:=by
        have h1:za ((LV ws).take i) false x≤((LV ws).take i).length:=List.countP_le_length
        have h2:((LV ws).take i).length≤(LV ws).length:=by rw [List.length_take];omega
        omega
      refine wx q8 (qx ev ⟨.inr ⟨by omega,by omega⟩,?_⟩)
      refine ⟨_,LSub.refl _,air kvs (.inr x) (.int (((za ((LV ws).take i) false x:Nat):Int)+1)),n*(za ((LV ws).take i) false x+1),some (.str (kL false)),some (.str x),?_,zd,?_,fun z=>?_,?_⟩
      · have e2:(n:Int)*(((za ((LV ws).take i) false x:Nat):Int)+1)=((n*(za ((LV ws).take i) false x+1):Nat):Int):=by push_cast;rfl
        rw [← e2];rfl
      · have:=amv kvs (.inr x) (.int (((za ((LV ws).take i) false x:Nat):Int)+1));omega
      · rw [ael,et,vd]
        by_cases h:z=x
        · subst h
          rw [if_pos rfl,if_pos (by simp [abi])]
          unfold aqx
          rw [if_neg (by omega)]
          push_cast;rfl
        · rw [if_neg (fun q=>h (Sum.inr.inj q)),if_neg (by simp [abi];exact fun q=>h q.symm),hv];rfl
      · rw [et];exact hw.plain
  · rintro τ L' ⟨kvs,n,c4,c5,rfl,rfl,hk,hv,hw⟩
    rw [List.length_map,List.take_length] at hw
    exact aau (sub _) (q n (.inl ⟨adm hlf hn,hw⟩))
def ad4 (C_TooMany:Addr) (E3:X3) (p_leaves_in:Sp3) (p_first_uneven:Sp3) (p_laid:Sp3) (p_tries_due:Sp3) (p_linked_or_tried:Sp3):TS3:=(qw (z9 (zc p_leaves_in (qc (qb 0) qm)) (qj 2))
  (qw (z9 (zc p_first_uneven (qc (qb 2) qm)) (qj 3))
  (qw (kc (yB (agf true (qb 3))) (j9 (k8 (qc (yC (.str "names")) (qc (qb 3) qm)))) x9)
  (qw (z9 (yOp yIx (zc p_laid (qc (qb 0) qm)) (yC (.int 0))) (qj 4))
  (qw (z9 (yCB wu (qc (yLC 1 (xa (qb 4)) (qj 6) (yB (yOp (yEq false) (yOp yIx (qb 6) (yC (.int 0))) (yC (.str "both")))) (qb 6)) qm)) (qj 5))
  (qw (kc (yB (yOp (yEq true) (yCB wu (qc (qb 2) qm)) (yOp ju (yOp ahy (yC (.int 2)) (qb 5)) (yC (.int 2))))) (j9 (k8 (qc (yC (.str "count")) (qc (yCB wu (qc (qb 2) qm)) (qc (qb 5) qm))))) x9)
  (qw (kc (yB (yOp yGt (zc p_tries_due (qc (qb 0) qm)) (qb 1))) (av6 C_TooMany E3 (qc (yC (.str "there are more ways to link than may be tried")) qm)) x9)
  (j9 (zc p_linked_or_tried (qc (qb 4) qm))))))))))
theorem ah1:∀ l:List (Option Kn),(l.filterMap lvK).length=l.countP az3
  | []=>rfl
  | none::r=>ah1 r
  | some (.lf t n)::r=>by
    rw [List.countP_cons,← ah1 r];rfl
  | some (.nd e i j)::r=>ah1 r
theorem axe (ws:List Wd):lvN (ksO ws) (ksO ws).length=(LV ws).length:=by
  unfold lvN
  rw [List.take_length,← ah1]
  exact congrArg List.length (ah7 0 ws)
def wf (C:Addr):aj4:=fun ys L Q E=>∃ a,∃ ws:List Wd,∃ m:Int,ys=[.ref a,.int m]∧L a=some (.lst (ws.map qo))∧(∀ w∈ws,w.depth≤63∧w.leaves≤63)∧(LV ws).length≤63∧SZ ws≤100∧m≤4∧
  (∀ x,adu (LV ws)=some x→Q (.tup [.str "names",.str x]) L)∧
  (adu (LV ws)=none→(LV ws).length≠2*BO ws+2→Q (.tup [.str "count",.int ((LV ws).length:Int),.int (BO ws:Int)]) L)∧
  (∀ n:Nat,adu (LV ws)=none→WayR (LV ws) n→(LV ws).length=2*BO ws+2→m<(n:Int)→E C L)∧
  (∀ n:Nat,adu (LV ws)=none→WayR (LV ws) n→(LV ws).length=2*BO ws+2→(n:Int)≤m→∀ y L',LSub L L'→Q (.tup [.str "web",y]) L'∧Q (.tup [.str "tries",y]) L')
theorem am9 {C:Addr}:∀ ys L Q E,wf C ys L Q E→xj (ad4 C (awr E) ab4 kg aeg aaw ahn) 6 ys L Q:=by
  rintro ys L Q E ⟨a,ws,m,rfl,ha,hok,hlv,hsz,hm,q1,q2,ex,q3⟩
  refine ⟨a,ws,rfl,ha,hok,by omega,fun p1 hp1=>?_⟩
  have s1:LSub L (qh L p1 (.lst ((LV ws).map qo))):=LSub.new hp1
  have g1:(qh L p1 (.lst ((LV ws).map qo))) p1=some (.lst ((LV ws).map qo)):=q8
  generalize qh L p1 (.lst ((LV ws).map qo))=L1 at s1 g1
  have hlf:∀ w∈LV ws,∃ t n,w=Wd.leaf t n:=fun w hw=>ah2 hw
  refine ⟨p1,LV ws,rfl,g1,hlf,by omega,fun x hx=>?_,fun hn=>?_⟩
  · exact aau s1 (q1 x hx)
  refine ⟨a,ws,rfl,s1 _ _ ha,hsz,fun k p hk hp hkp=>?_⟩
  have s2:LSub L1 (qh (qh L1 k (.lst (v5 0 ws))) p (.lst (plc 0 ws))):=(LSub.new hk).upd hp
  have g2:(qh (qh L1 k (.lst (v5 0 ws))) p (.lst (plc 0 ws))) k=some (.lst (osY (ksO ws))):=by rw [qf hkp,q8,a40]
  generalize qh (qh L1 k (.lst (v5 0 ws))) p (.lst (plc 0 ws))=L2 at s2 g2
  have lk:=apr ws
  refine vh g2 fun keep kp=>aht (fun i zs=>zs.length=((ksO ws).take i).countP (va false)) (by rw [List.length_map,lk];exact Nat.lt_of_le_of_lt hsz (by decide)) (kp _ rfl) rfl ?_ ?_
  · rintro i y zs hy hz
    rw [List.getElem?_map] at hy
    obtain ⟨kk,ekk,rfl⟩:=Option.map_eq_some_iff.mp hy
    have et:(ksO ws).take (i+1)=(ksO ws).take i++[kk]:=by rw [List.take_succ,ekk];rfl
    have no:va false kk=false→Frg (fun zs L'=>L'=L2∧zs.length=((ksO ws).take (i+1)).countP (va false)) zs L2:=fun h=>⟨L2,LSub.refl _,rfl,by rw [et,List.countP_append,hz];simp [h]⟩
    have yes:∀ z,va false kk=true→Frg (fun zs L'=>L'=L2∧zs.length=((ksO ws).take (i+1)).countP (va false)) (zs++[z]) L2:=fun z h=>⟨L2,LSub.refl _,rfl,by rw [et,List.countP_append,List.length_append,hz];simp [h]⟩
    cases kk with
    | none=>exact absurd rfl (au5 ws none (List.mem_of_getElem? ekk))
    | some kn=>
      cases kn with
      | lf t n=>cases t<;>exact no rfl
      | nd e i' j'=>
        cases e with
        | true=>exact no rfl
        | false=>exact yes _ rfl
  · intro zs hz p3 hp3
    rw [List.length_map,List.take_length,amu] at hz
    refine ql q8 ?_
    have s3:=LSub.new (o:=.lst zs) hp3
    have sL:=(s1.trans s2).trans s3
    have g13:=s3 _ _ (s2 _ _ g1)
    have g23:=s3 _ _ g2
    have ha3:=sL _ _ ha
    rw [hz]
    generalize qh L2 p3 (.lst zs)=L3 at s3 sL g13 g23 ha3
    refine ql g13 ⟨.inl ⟨by decide,by decide⟩,?_⟩
    by_cases c:(LV ws).length=2*BO ws+2
    · refine kf (by show (!decide ((((LV ws).map qo).length:Int)=2*(BO ws:Int)+2))=false;rw [decide_eq_true (by rw [List.length_map,c];omega)];rfl) ?_
      refine ⟨a,ws,rfl,ha3,hok,(by omega),fun n hT=>?_⟩
      have he:=adm hlf hn
      have hW:WayR (LV ws) n:=by
        rcases hT with ⟨_,h⟩ | ⟨h,_⟩
        · exact h
        · exact absurd he h
      show vf (decide ((n:Int) > m)) _ _
      refine we (fun h=>⟨by decide,_,sL,ex n hn hW c (by omega)⟩) (fun h=>?_)
      have q:=q3 n hn hW c (by omega)
      exact ⟨k,ksO ws,rfl,g23,au5 ws,by rw [lk];omega,⟨aqy he hW (by omega),by rw [axe];exact hlv⟩,a2n ws,fun y L' s=>fin (q y L' (sL.trans s)).1,fun y L' s=>fin (q y L' (sL.trans s)).2⟩
    · refine adb (by show (!decide ((((LV ws).map qo).length:Int)=2*(BO ws:Int)+2))=true;rw [decide_eq_false (by rw [List.length_map];omega)];rfl) ?_
      refine ql g13 (aau sL ?_)
      have:=q2 hn c
      rw [List.length_map]
      exact this
end L3
namespace L3
open PySem L2 Words
local macro_rules | `(tactic| walk_at "w")=>`(tactic| conv=>whnf)
def ad2:TS3:=(qw (ac7 (xa (qb 0)) (qj 1) (kc (yB (yOp (yEq true) (yBL ad7 (qb 0) (qc (k8 (qc (yC (.str "plain")) (qc (yOp yIx (qb 1) (yC (.int 1))) qm))) qm)) (yBL ad7 (qb 0) (qc (k8 (qc (yC (.str "turned")) (qc (yOp yIx (qb 1) (yC (.int 1))) qm))) qm)))) (j9 (yOp yIx (qb 1) (yC (.int 1)))) x9))
  (j9 (yC .non)))
def ag4:TS3:=(qw (z9 (yC (.int 1)) (qj 1))
  (qw (z9 asm (qj 2))
  (qw (ac7 (xa (qb 0)) (qj 3) (kc (yB (yOp (yEq false) (yOp yIx (qb 3) (yC (.int 0))) (yC (.str "plain")))) (qw (aur (qb 2) (yOp yIx (qb 3) (yC (.int 1))) (yOp ju (ao1 (qb 2) (yOp yIx (qb 3) (yC (.int 1))) (yC (.int 0))) (yC (.int 1))))
  (z9 (yOp ahy (qb 1) (asg (qb 2) (yOp yIx (qb 3) (yC (.int 1))))) (qj 1))) x9))
  (j9 (qb 1)))))
theorem am6:∀ ys L Q,kg ys L Q→xj ad2 2 ys L Q:=by
  rintro ys L Q ⟨a,ls,rfl,ha,hlf,hz,q1,q2⟩
  refine xu (ys:=ls.map qo) (zg ha) (fun i τ L'=>∃ c,τ=[some (.ref a),c]∧L'=L∧∀ w∈ls.take i,abg ls w=false) ⟨_,rfl,rfl,by simp⟩ ?_ ?_ ?_
  · rintro i τ L' ⟨c,rfl,rfl,_⟩;rfl
  · rintro i y τ L' hy ⟨c,rfl,rfl,hno⟩
    rw [List.getElem?_map] at hy
    obtain ⟨w,ew,rfl⟩:=Option.map_eq_some_iff.mp hy
    obtain ⟨t,x,rfl⟩:=hlf w (List.mem_of_getElem? ew)
    have pd:Paired (DatN L' 1) (ls.map qo) (ls.map enc):=aaj fun w hw=>by obtain ⟨u,z,rfl⟩:=hlf w hw;exact Nat.le_refl _
    refine ql ha (qz ha ⟨_,enc (.leaf false x),1,1,by decide,pd,kj (wd:=.leaf false x) (Nat.le_refl 1),ql ha (qz ha ⟨_,enc (.leaf true x),1,1,by decide,pd,kj (wd:=.leaf true x) (Nat.le_refl 1),?_⟩)⟩)
    rw [al5 hlf,al5 hlf]
    have ho:abg ls (.leaf t x)=!decide (za ls false x=za ls true x):=rfl
    have et:ls.take (i+1)=ls.take i++[Wd.leaf t x]:=by rw [List.take_succ,ew];rfl
    by_cases h:za ls false x=za ls true x
    · refine kf (by show (!decide (((za ls false x:Nat):Int)=((za ls true x:Nat):Int)))=false;rw [h,decide_eq_true rfl];rfl) ?_
      refine ⟨_,LSub.refl _,_,rfl,rfl,?_⟩
      rw [et]
      intro w hw
      rcases List.mem_append.mp hw with z | z
      · exact hno w z
      · rw [List.mem_singleton.mp z,ho,decide_eq_true h];rfl
    · refine adb (by show (!decide (((za ls false x:Nat):Int)=((za ls true x:Nat):Int)))=true;rw [decide_eq_false (by omega)];rfl) ?_
      refine fin (q1 x ?_)
      unfold adu
      have hod:abg ls (.leaf t x)=true:=by rw [ho,decide_eq_false h];rfl
      have es:ls=ls.take i++(Wd.leaf t x::ls.drop (i+1)):=by
        have:=(List.take_append_drop i ls).symm
        rw [List.drop_eq_getElem?_toList_append,ew] at this
        exact this
      have:ls.find? (abg ls)=some (.leaf t x):=by
        generalize hp:abg ls=P at hno hod
        rw [es,List.find?_append,List.find?_eq_none.mpr (fun w hw=>by rw [hno w hw];exact Bool.false_ne_true),List.find?_cons,hod]
        rfl
      rw [this];rfl
  · rintro τ L' ⟨c,rfl,rfl,hno⟩
    rw [List.length_map,List.take_length] at hno
    refine fin (q2 ?_)
    unfold adu
    rw [List.find?_eq_none.mpr (fun w hw=>by rw [hno w hw];exact Bool.false_ne_true)]
    rfl
def aca:Sp3:=fun ys L Q=>∃ p,∃ ls:List Wd,ys=[.ref p]∧L p=some (.lst (ls.map qo))∧(∀ w∈ls,∃ t n,w=Wd.leaf t n)∧ls.length≤124∧∀ n:Nat,WayR ls n→Q (.int (n:Int)) L
theorem ard:∀ ys L Q,aca ys L Q→xj ag4 4 ys L Q:=by
  rintro ys L Q ⟨p,ls,rfl,hpl,hlf,hlv,q⟩
  intro d hd
  have hpd:p≠d:=neL hpl hd
  have sub:∀ o,LSub L (qh L d o):=fun o=>LSub.new hd
  refine xu (ys:=ls.map qo) (zg ((qf hpd).trans hpl)) (fun i τ L'=>∃ kvs,∃ n:Nat,∃ c4,τ=[some (.ref p),some (.int (n:Int)),some (.ref d),c4]∧L'=qh L d (.dct kvs)∧kvs.length≤i∧(∀ x,v9 kvs (.inr x)=aqx (za (ls.take i) false x))∧WayR (ls.take i) n) ⟨[],1,_,rfl,rfl,Nat.le_refl _,fun x=>rfl,WayR.nil⟩ ?_ ?_ ?_
  · rintro i τ L' ⟨kvs,n,c4,rfl,rfl,_⟩
    rw [qf hpd,qf hpd]
  · rintro i y τ L' hy ⟨kvs,n,c4,rfl,rfl,hk,hv,hw⟩
    rw [List.getElem?_map] at hy
    obtain ⟨w,ew,rfl⟩:=Option.map_eq_some_iff.mp hy
    obtain ⟨t,x,rfl⟩:=hlf w (List.mem_of_getElem? ew)
    have hi:i<ls.length:=(List.getElem?_eq_some_iff.mp ew).1
    have et:ls.take (i+1)=ls.take i++[Wd.leaf t x]:=by rw [List.take_succ,ew];rfl
    cases t with
    | true=>
      refine ⟨_,LSub.refl _,kvs,n,_,rfl,rfl,by omega,fun z=>?_,?_⟩
      · rw [hv,et,vd,if_neg (by simp [abi])];rfl
      · rw [et];exact hw.other
    | false=>
      have e:((v9 kvs (.inr x)).getD (Y.int 0))=.int ((za (ls.take i) false x:Nat):Int):=by
        rw [hv];unfold aqx
        split
        · rename_i h;rw [h];rfl
        · rfl
      refine wx q8 (wx q8 ?_)
      rw [e]
      refine wx q8 ⟨?_,?_⟩
      · have hb:(1000:Nat)≤sizeLine:=by decide
        omega
      have ev:v9 (air kvs (.inr x) (.int (((za (ls.take i) false x:Nat):Int)+1))) (.inr x)=some (.int (((za (ls.take i) false x:Nat):Int)+1)):=by rw [ael,if_pos rfl]
      have hcl:za (ls.take i) false x≤124:=by
        have h1:za (ls.take i) false x≤(ls.take i).length:=List.countP_le_length
        have h2:(ls.take i).length≤ls.length:=by rw [List.length_take];omega
        omega
      refine wx q8 (qx ev ⟨.inr ⟨by omega,by omega⟩,?_⟩)
      refine ⟨_,LSub.refl _,air kvs (.inr x) (.int (((za (ls.take i) false x:Nat):Int)+1)),n*(za (ls.take i) false x+1),some (qo (.leaf false x)),?_,zd,?_,fun z=>?_,?_⟩
      · have e2:(n:Int)*(((za (ls.take i) false x:Nat):Int)+1)=((n*(za (ls.take i) false x+1):Nat):Int):=by push_cast;rfl
        rw [← e2];rfl
      · have:=amv kvs (.inr x) (.int (((za (ls.take i) false x:Nat):Int)+1));omega
      · rw [ael,et,vd]
        by_cases h:z=x
        · subst h
          rw [if_pos rfl,if_pos (by simp [abi])]
          unfold aqx
          rw [if_neg (by omega)]
          push_cast;rfl
        · rw [if_neg (fun q=>h (Sum.inr.inj q)),if_neg (by simp [abi];exact fun q=>h q.symm),hv];rfl
      · rw [et];exact hw.plain
  · rintro τ L' ⟨kvs,n,c4,rfl,rfl,hk,hv,hw⟩
    rw [List.length_map,List.take_length] at hw
    exact aau (sub _) (q n hw)
end L3
namespace L3
open PySem L2 Words
local macro_rules | `(tactic| walk_at "w")=>`(tactic| conv=>whnf)
def ahj (p__law_name:Sp3) (p__law_mix:Sp3):TS3:=(qw (z9 (ayq [("plain", "turned"),("turned", "plain")]) (qj 3))
  (qw (z9 (w6 (qc (k8 (qc (yC (.str "plain")) (qc (zc p__law_name (qc (qb 1) (qc (yC (.int 0)) qm))) qm))) qm)) (qj 4))
  (apt (kc (yB (qb 2)) (v4 (yBL jj (qb 4) (qc (k8 (qc (yC (.str "turned")) (qc (zc p__law_name (qc (qb 1) (qc (yC (.int 0)) qm))) qm))) qm))) x9)
  (qw (ac7 (adc (qb 0)) (aa7 2 (zp (qj 5) (zp (qj 6) aa2))) (qw (z9 (zc p__law_mix (qc (qb 6) (qc (qb 5) (qc (yC (.int 48271)) qm)))) (qj 7))
  (qw (z9 (k8 (qc (ast (qc (yC (.str "plain")) (qc (yC (.str "turned")) qm)) (yOp wn (qb 7) (yC (.int 2)))) (qc (zc p__law_name (qc (qb 1) (qc (yOp wn (yOp wj (qb 7) (yC (.int 2))) (yOp ju (yC (.int 1)) (yOp wn (yOp wj (qb 1) (yC (.int 1440))) (yC (.int 6))))) qm))) qm))) (qj 8))
  (qw (v4 (yBL aea (qb 4) (qc (yOp wn (yOp wj (qb 7) (yC (.int 8))) (yOp ju (yCB wu (qc (qb 4) qm)) (yC (.int 1)))) (qc (qb 8) qm))))
  (kc (yB (qb 2)) (v4 (yBL aea (qb 4) (qc (yOp wn (yOp wj (qb 7) (yC (.int 512))) (yOp ju (yCB wu (qc (qb 4) qm)) (yC (.int 1)))) (qc (k8 (qc (yOp yIx (qb 3) (yOp yIx (qb 8) (yC (.int 0)))) (qc (yOp yIx (qb 8) (yC (.int 1))) qm))) qm)))) x9)))))
  (j9 (qb 4))))))
def ahb (p__law_mix:Sp3):TS3:=(qw (z9 (yCB ae7 (qc (qb 0) qm)) (qj 4))
  (qw (a3k 5 6 (qc (qb 2) (qc (qb 3) qm)))
  (qw (ahm (axw (yB (yOp yGt (yOp ju (qb 5) (qb 6)) (yC (.int 0)))) (yB (yOp yGt (yCB wu (qc (qb 4) qm)) (yC (.int 1))))) (qw (z9 (zc p__law_mix (qc (yOp yIx (yOp ju (qb 1) (w6 (qc (yC (.int 3)) qm))) (yOp wn (yOp ju (qb 5) (yOp ahy (yC (.int 2)) (qb 6))) (yOp ju (yCB wu (qc (qb 1) qm)) (yC (.int 1))))) (qc (yOp ju (yOp ahy (yC (.int 64)) (qb 5)) (qb 6)) (qc (yC (.int 69621)) qm)))) (qj 7))
  (qw (z9 (yIf (yB (yOp yLt (yOp wn (qb 7) (yOp ju (qb 5) (qb 6))) (qb 5))) (yC (.str "both")) (yC (.str "either"))) (qj 8))
  (qw (z9 (yOp wn (yOp wj (qb 7) (yC (.int 64))) (yOp ao6 (yCB wu (qc (qb 4) qm)) (yC (.int 1)))) (qj 9))
  (qw (z9 (yOp ju (yOp ju (ySl aj1 (qb 4) aab (abf (qb 9))) (w6 (qc (k8 (qc (qb 8) (qc (yOp yIx (qb 4) (qb 9)) (qc (yOp yIx (qb 4) (yOp ju (qb 9) (yC (.int 1)))) qm)))) qm))) (ySl aj1 (qb 4) (abf (yOp ju (qb 9) (yC (.int 2)))) aab)) (qj 4))
  (kc (yB (yOp (yEq false) (qb 8) (yC (.str "both")))) (avj 5 (yC (.int 1)) as5) (avj 6 (yC (.int 1)) as5)))))))
  (j9 (qb 4)))))
def aqc:TS3:=(qw (z9 (a2z (yCB ae7 (qc (qb 0) qm)) (yUn azy (yC (.int 1)))) (qj 1))
  (qw (z9 (w6 qm) (qj 2))
  (qw (z9 (yC (.int 0)) (qj 3))
  (qw (ahm (yB (yOp (yEq true) (qb 1) (w6 qm))) (qw (z9 (yBL auh (qb 1) qm) (qj 4))
  (kc (yB (yOp (yEq false) (yCB wu (qc (qb 4) qm)) (yC (.int 2)))) (v4 (yBL jj (qb 2) (qc (qb 4) qm))) (qw (avj 3 (yCB ata (qc (yOp (yEq false) (yOp yIx (qb 4) (yC (.int 0))) (yC (.str "both"))) qm)) az2)
  (qw (v4 (yBL jj (qb 1) (qc (yOp yIx (qb 4) (yC (.int 2))) qm)))
  (v4 (yBL jj (qb 1) (qc (yOp yIx (qb 4) (yC (.int 1))) qm))))))))
  (j9 (k8 (qc (qb 2) (qc (qb 3) qm))))))))
def afo (ls:List Wd):Prop:=∀ w∈ls,∃ t n,w=Wd.leaf t n
theorem ajj {ls:List Wd} (h:afo ls) (t:Bool) (n:Str) (j:Nat):afo (ls.take j++Wd.leaf t n::ls.drop j):=fun w hw=>by
  rcases awf hw with z | z
  · exact ⟨t,n,z⟩
  · exact h w z
def aaf:Sp3:=fun ys L Q=>∃ a,∃ ns:List Int,∃ s:Int,∃ e:Bool,ys=[.ref a,.int s,.bl e]∧L a=some (.lst (ns.map Y.int))∧ns.length≤24∧
  ∀ (p:Addr) (ls:List Wd),L p=none→afo ls→1≤ls.length→(e=true→2≤ls.length)→ls.length≤50→Q (.ref p) (qh L p (.lst (ls.map qo)))
theorem ang:∀ ys L Q,aaf ys L Q→xj (ahj ads afj) 9 ys L Q:=by
  rintro ys L Q ⟨a,ns,s,e,rfl,ha,h24,q⟩
  intro pd hpd
  refine ⟨s,0,rfl,fun p hp=>?_⟩
  have np:L p=none:=jd (LSub.new hpd) hp
  have nd:pd≠p:=neL q8 hp
  have ap:a≠p:=neL ha np
  have ad:a≠pd:=neL ha hpd
  have hpd':∀ o,qh (qh L pd (aiq aer)) p o pd=some (aiq aer):=fun o=>by rw [qf nd];exact q8
  have ha':∀ o,qh (qh L pd (aiq aer)) p o a=some (.lst (ns.map Y.int)):=fun o=>by rw [qf ap,qf ad];exact ha
  refine ⟨fun τ' L'=>∃ ls:List Wd,τ'=[some (.ref a),some (.int s),some (.bl e),some (.ref pd),some (.ref p),none,none,none,none]∧L'=qh (qh L pd (aiq aer)) p (.lst (ls.map qo))∧afo ls∧1≤ls.length∧(e=true→2≤ls.length)∧ls.length≤2,?_,?_⟩
  · cases e with
    | false=>exact ⟨[.leaf false (mkS (adx s 0))],rfl,rfl,fun w hw=>⟨_,_,List.mem_singleton.mp hw⟩,Nat.le_refl _,(fun z=>by cases z),(by show 1≤2;decide)⟩
    | true=>
      refine ql q8 ⟨s,0,rfl,qz q8 ⟨(by show 1<sizeLine;decide),[.leaf false (mkS (adx s 0)),.leaf true (mkS (adx s 0))],rfl,zd,fun w hw=>?_,(by show 1≤2;decide),fun _=>Nat.le_refl _,Nat.le_refl _⟩⟩
      rcases List.mem_cons.mp hw with z | hw
      · exact ⟨_,_,z⟩
      · exact ⟨_,_,List.mem_singleton.mp hw⟩
  rintro τ' L' ⟨ls0,rfl,rfl,k1,k2,k3,k4⟩
  refine vh (ha' _) fun keep kp=>agx ⟨fun i τ L'=>∃ c5 c6 c7 c8,∃ ls:List Wd,τ=[some (.ref a),some (.int s),some (.bl e),some (.ref pd),some (.ref p),c5,c6,c7,c8]∧L'=qh (qh L pd (aiq aer)) p (.lst (ls.map qo))∧afo ls∧1≤ls.length∧(e=true→2≤ls.length)∧ls.length≤2+2*i,?_,?_,?_,?_⟩
  · exact ⟨_,_,_,_,ls0,rfl,rfl,k1,k2,k3,by omega⟩
  · rintro i τ L' ⟨c5,c6,c7,c8,ls,rfl,rfl,_⟩
    exact kp _ ((ha' _).trans (ha' _).symm)
  · rintro i y τ L' hy ⟨c5,c6,c7,c8,ls,rfl,rfl,m1,m2,m3,m4⟩
    obtain ⟨z,ez,rfl⟩:=ady hy
    have hi:i<ns.length:=by have:=(List.getElem?_eq_some_iff.mp ez).1;rw [List.length_map] at this;exact this
    obtain ⟨c,rfl⟩:∃ c,z=Y.int c:=by
      rw [List.getElem?_map] at ez
      obtain ⟨w,e1,e2⟩:=Option.map_eq_some_iff.mp ez
      exact ⟨w,e2.symm⟩
    refine ⟨c,(i:Int),48271,rfl,by omega,by omega,by decide,by decide,fun v h0 h1=>?_⟩
    obtain ⟨b,eb⟩:=arf v
    have eb:atI [.str "plain",.str "turned"] (v % 2)=some (Y.str (kL b)):=eb
    refine ⟨(by decide:(0:Int)<2),qx eb ⟨⟨by decide,by decide⟩,⟨by decide,by decide⟩,(by decide:(0:Int)<6),(by show (0:Int)<1+s / 1440 % 6;omega),s,v / 2 % (1+s / 1440 % 6),rfl,?_⟩⟩
    generalize mkS (adx s (v / 2 % (1+s / 1440 % 6)))=nm
    have hlen:((ls.map qo).length:Int)=(ls.length:Int):=by rw [List.length_map]
    refine ql q8 ⟨⟨by decide,by decide⟩,ql q8 ⟨(by show (0:Int)<((ls.map qo).length:Int)+1;omega),?_⟩⟩
    have j0:0≤v / 8 % (((ls.map qo).length:Int)+1):=Int.emod_nonneg _ (by omega)
    have j1:v / 8 % (((ls.map qo).length:Int)+1)<((ls.map qo).length:Int)+1:=Int.emod_lt_of_pos _ (by omega)
    refine qz q8 ⟨⟨j0,by omega,by rw [List.length_map];omega⟩,?_⟩
    rw [zd]
    generalize (v / 8 % (((ls.map qo).length:Int)+1)).toNat=j
    have ei:(ls.map qo).take j++Y.tup [.str (kL b),.str nm]::(ls.map qo).drop j=(ls.take j++Wd.leaf b nm::ls.drop j).map qo:=ap5 qo ls (Wd.leaf b nm) j
    have hl1:=aqb ls (Wd.leaf b nm) j
    have n1:=ajj m1 b nm j
    rw [ei]
    generalize hvs:ls.take j++Wd.leaf b nm::ls.drop j=us at hl1 n1
    cases e with
    | false=>exact ⟨_,LSub.refl _,_,_,_,_,us,rfl,rfl,n1,by omega,fun z=>(by cases z),by omega⟩
    | true=>
      have m3:=m3 rfl
      have hlen2:((us.map qo).length:Int)=(us.length:Int):=by rw [List.length_map]
      refine ql q8 ⟨⟨by decide,by decide⟩,ql q8 ⟨(by show (0:Int)<((us.map qo).length:Int)+1;omega),?_⟩⟩
      have k0:0≤v / 512 % (((us.map qo).length:Int)+1):=Int.emod_nonneg _ (by omega)
      have k1:v / 512 % (((us.map qo).length:Int)+1)<((us.map qo).length:Int)+1:=Int.emod_lt_of_pos _ (by omega)
      refine wx (hpd' _) (qx (aul b) ?_)
      refine qz q8 ⟨⟨k0,by omega,by rw [List.length_map];omega⟩,?_⟩
      rw [zd]
      generalize (v / 512 % (((us.map qo).length:Int)+1)).toNat=j2
      have ei2:(us.map qo).take j2++Y.tup [.str (kL (!b)),.str nm]::(us.map qo).drop j2=(us.take j2++Wd.leaf (!b) nm::us.drop j2).map qo:=ap5 qo us (Wd.leaf (!b) nm) j2
      rw [ei2]
      have hl2:=aqb us (Wd.leaf (!b) nm) j2
      exact ⟨_,LSub.refl _,_,_,_,_,us.take j2++Wd.leaf (!b) nm::us.drop j2,rfl,rfl,ajj n1 (!b) nm j2,by omega,fun _=>by omega,by omega⟩
  · rintro τ L' ⟨c5,c6,c7,c8,ls,rfl,rfl,m1,m2,m3,m4⟩
    rw [aax,List.length_map] at m4
    refine aau ?_ (q p ls np m1 m2 m3 (by omega))
    exact LSub.put ((LSub.new hpd).trans (LSub.new hp)) q8
theorem aot {ws:List Wd} {w:Wd} (h:w∈ws):w.leaves≤(LV ws).length:=by
  induction ws with
  | nil=>cases h
  | cons x r ih=>
    have e:LV (x::r)=x.leafL++LV r:=by unfold LV;rw [List.flatMap_cons]
    rw [e,List.length_append,Wd.leafL_len]
    rcases List.mem_cons.mp h with rfl | h
    · omega
    · have:=ih h;omega
theorem at3 {ws:List Wd} (h:(LV ws).length≤50):∀ w∈ws,w.depth≤63∧w.leaves≤63:=fun w hw=>by
  have h1:=aot hw
  have h2:=w.depth_le
  omega
def aae:Sp3:=fun ys L Q=>∃ a c,∃ ls:List Wd,∃ ns:List Int,∃ bo ei:Int,ys=[.ref a,.ref c,.int bo,.int ei]∧L a=some (.lst (ls.map qo))∧L c=some (.lst (ns.map Y.int))∧afo ls∧1≤ls.length∧ls.length≤50∧ns.length≤24∧0≤bo∧bo≤50∧0≤ei∧ei≤12∧
  ∀ p ws,L p=none→LV ws=ls→Q (.ref p) (qh L p (.lst (ws.map qo)))
theorem aw6 {ls:List Wd} (h:afo ls):LV ls=ls:=by
  induction ls with
  | nil=>rfl
  | cons x r ih=>
    obtain ⟨t,n,rfl⟩:=h x (List.mem_cons_self ..)
    have e:LV (Wd.leaf t n::r)=[Wd.leaf t n]++LV r:=by unfold LV;rw [List.flatMap_cons];rfl
    rw [e,ih fun w hw=>h w (List.mem_cons_of_mem _ hw)];rfl
theorem a12 {ws:List Wd} {i:Nat} {u v:Wd} (h1:ws[i]?=some u) (h2:ws[i+1]?=some v):ws=ws.take i++u::v::ws.drop (i+2):=by
  have a1:i<ws.length:=j7 h1
  have a2:i+1<ws.length:=j7 h2
  have e1:ws[i]=u:=by rw [List.getElem?_eq_getElem a1] at h1;exact Option.some.inj h1
  have e2:ws[i+1]=v:=by rw [List.getElem?_eq_getElem a2] at h2;exact Option.some.inj h2
  have:=(List.take_append_drop i ws).symm
  rw [List.drop_eq_getElem_cons a1,List.drop_eq_getElem_cons a2,e1,e2] at this
  exact this
theorem ax4 {ws:List Wd} {i:Nat} {u v:Wd} (e:Bool) (h1:ws[i]?=some u) (h2:ws[i+1]?=some v):LV (ws.take i++[Wd.node e u v]++ws.drop (i+2))=LV ws:=by
  have h:=congrArg LV (a12 h1 h2)
  rw [h,aff,aff,aff]
  have e1:LV [Wd.node e u v]=u.leafL++v.leafL:=by rw [anz];rfl
  have e2:LV (u::v::ws.drop (i+2))=u.leafL++(v.leafL++LV (ws.drop (i+2))):=by unfold LV;rw [List.flatMap_cons,List.flatMap_cons]
  rw [e1,e2]
  simp only [List.append_assoc]
theorem alx:∀ ys L Q,aae ys L Q→xj (ahb afj) 10 ys L Q:=by
  rintro ys L Q ⟨a,c,ls,ns,bo,ei,rfl,ha,hc,hlf,h1,h50,hns,b0,b1,e0,e1,q⟩
  refine ql ha fun p hp=>?_
  have sp0:LSub L (qh L p (.lst (ls.map qo))):=LSub.new hp
  refine ⟨fun m τ L'=>∃ w,∃ ws:List Wd,∃ mo ot:Int,∃ c7 c8 c9,τ=[some (.ref a),some (.ref c),some (.int bo),some (.int ei),some (.ref w),some (.int mo),some (.int ot),c7,c8,c9]∧LSub L L'∧L w=none∧L' w=some (.lst (ws.map qo))∧LV ws=ls∧0≤mo∧mo≤50∧0≤ot∧ot≤12∧ws.length≤50∧m=ws.length,⟨_,p,ls,bo,ei,_,_,_,rfl,sp0,hp,q8,aw6 hlf,b0,b1,e0,e1,h50,rfl⟩,?_⟩
  rintro m τ L' ⟨w,ws,mo,ot,c7,c8,c9,rfl,s,nw,hw,hL,m0,m1,o0,o1,hl,rfl⟩
  have last:aev Q (.ref w) L':=aau (LSub.put s hw) (q w ws nw hL)
  show vf (decide (mo+ot > 0)) _ _
  refine we (fun g1=>?_) (fun g1=>last)
  refine ql hw ?_
  show vf (decide (((ws.map qo).length:Int) > 1)) _ _
  refine we (fun g2=>?_) (fun g2=>last)
  rw [List.length_map] at g2
  refine ⟨_,fun _ _ h=>h,?_⟩
  intro q1 hq1
  have t1:LSub L' (qh L' q1 (.lst [.int 3])):=LSub.new hq1
  have lim:=ay3
  refine ⟨_,_,t1 _ _ (s _ _ hc),q8,by rw [List.length_map,List.length_singleton];omega,fun q2 hq2=>?_⟩
  have t2:=t1.trans (LSub.new (o:=.lst (ns.map Y.int++[.int 3])) hq2)
  refine ⟨.inl ⟨by decide,by decide⟩,ql (t2 _ _ (s _ _ hc)) ⟨(by show (0:Int)<((ns.map Y.int).length:Int)+1;omega),?_⟩⟩
  obtain ⟨cell,ecell⟩:∃ cell:Int,atI (ns.map Y.int++[Y.int 3]) ((mo+2*ot) % (((ns.map Y.int).length:Int)+1))=some (.int cell):=by
    have j0:0≤(mo+2*ot) % (((ns.map Y.int).length:Int)+1):=Int.emod_nonneg _ (by omega)
    have j1:(mo+2*ot) % (((ns.map Y.int).length:Int)+1)<((ns.map Y.int).length:Int)+1:=Int.emod_lt_of_pos _ (by omega)
    obtain ⟨j,ej⟩:∃ j:Nat,(mo+2*ot) % (((ns.map Y.int).length:Int)+1)=(j:Int):=⟨_,(Int.toNat_of_nonneg j0).symm⟩
    rw [ej] at j1 ⊢
    have e3:ns.map Y.int++[Y.int 3]=(ns++[3]).map Y.int:=by rw [List.map_append];rfl
    have hj:j<(ns++[3]).length:=by rw [List.length_append,List.length_singleton];rw [List.length_map] at j1;omega
    refine ⟨(ns++[3])[j],?_⟩
    rw [e3]
    exact vg (by rw [List.getElem?_map,List.getElem?_eq_getElem hj];rfl)
  refine ql q8 (qx ecell ⟨.inl ⟨by decide,by decide⟩,cell,64*mo+ot,69621,rfl,by omega,by omega,by decide,by decide,fun v v0 v1=>?_⟩)
  have w2:=t2 _ _ hw
  have s2:=s.trans t2
  generalize qh (qh L' q1 (.lst [.int 3])) q2 (.lst (ns.map Y.int++[.int 3]))=L2 at w2 s2
  clear t2 t1 hq2 hq1
  refine ⟨(by show (0:Int)<mo+ot;omega),?_⟩
  have k0:0≤v % (mo+ot):=Int.emod_nonneg _ (by omega)
  have k1:v % (mo+ot)<mo+ot:=Int.emod_lt_of_pos _ (by omega)
  have j0:0≤v / 64 % (((ws.map qo).length:Int) - 1):=Int.emod_nonneg _ (by rw [List.length_map];omega)
  have j1:v / 64 % (((ws.map qo).length:Int) - 1)<((ws.map qo).length:Int) - 1:=Int.emod_lt_of_pos _ (by rw [List.length_map];omega)
  obtain ⟨j,ej⟩:∃ j:Nat,v / 64 % (((ws.map qo).length:Int) - 1)=(j:Int):=⟨_,(Int.toNat_of_nonneg j0).symm⟩
  rw [ej,List.length_map] at j1
  obtain ⟨u0,eu0⟩:∃ u,ws[j]?=some u:=⟨_,List.getElem?_eq_getElem (by omega)⟩
  obtain ⟨u1,eu1⟩:∃ u,ws[j+1]?=some u:=⟨_,List.getElem?_eq_getElem (by omega)⟩
  have a0:atI (ws.map qo) (j:Int)=some (qo u0):=apf eu0
  have a1:atI (ws.map qo) ((j:Int)+1)=some (qo u1):=by
    rw [show ((j:Int)+1)=((j+1:Nat):Int) by omega];exact apf eu1
  have rest:∀ (e:Bool) (mo' ot':Int),0≤mo'→mo'≤50→0≤ot'→ot'≤12→∀ c7 c8 c9 (L3:LHp) w',LSub L L3→L w'=none→L3 w'=some (.lst ((ws.take j++[Wd.node e u0 u1]++ws.drop (j+2)).map qo))→
      Frg (fun (τ':St3) (L':LHp)=>∃ m',m'<ws.length∧∃ w,∃ ws:List Wd,∃ mo ot:Int,∃ c7 c8 c9,τ'=[some (Y.ref a),some (Y.ref c),some (Y.int bo),some (Y.int ei),some (Y.ref w),some (Y.int mo),some (Y.int ot),c7,c8,c9]∧LSub L L'∧L w=none∧L' w=some (.lst (ws.map qo))∧LV ws=ls∧0≤mo∧mo≤50∧0≤ot∧ot≤12∧ws.length≤50∧m'=ws.length)
        [some (Y.ref a),some (Y.ref c),some (Y.int bo),some (Y.int ei),some (Y.ref w'),some (Y.int mo'),some (Y.int ot'),c7,c8,c9] L3:=by
    intro e mo' ot' x1 x2 x3 x4 c7 c8 c9 L3 w' sL nw' hw'
    have len:(ws.take j++[Wd.node e u0 u1]++ws.drop (j+2)).length=ws.length - 1:=by
      rw [List.length_append,List.length_append,List.length_take,List.length_drop,List.length_singleton];omega
    exact ⟨_,LSub.refl _,ws.length - 1,by omega,w',_,mo',ot',c7,c8,c9,rfl,sL,nw',hw',by rw [ax4 e eu0 eu1];exact hL,x1,x2,x3,x4,by omega,len.symm⟩
  have tail:∀ (e:Bool) {D:Ends3} {c9:Option Y},(∀ (w':Addr) (L3:LHp),LSub L L3→L w'=none→L3 w'=some (.lst ((ws.take j++[Wd.node e u0 u1]++ws.drop (j+2)).map qo))→D.nx [some (Y.ref a),some (Y.ref c),some (Y.int bo),some (Y.int ei),some (Y.ref w'),some (Y.int mo),some (Y.int ot),some (Y.int v),some (Y.str (kN e)),some (Y.int (j:Int))] L3)→
      (qw (z9 (yOp wn (yOp wj (qb 7) (yC (.int 64))) (yOp ao6 (yCB wu (qc (qb 4) qm)) (yC (.int 1)))) (qj 9)) (z9 (yOp ju (yOp ju (ySl aj1 (qb 4) aab (abf (qb 9))) (w6 (qc (k8 (qc (qb 8) (qc (yOp yIx (qb 4) (qb 9)) (qc (yOp yIx (qb 4) (yOp ju (qb 9) (yC (.int 1)))) qm)))) qm))) (ySl aj1 (qb 4) (abf (yOp ju (qb 9) (yC (.int 2)))) aab)) (qj 4))) D [some (Y.ref a),some (Y.ref c),some (Y.int bo),some (Y.int ei),some (Y.ref w),some (Y.int mo),some (Y.int ot),some (Y.int v),some (Y.str (kN e)),c9] L2:=by
    intro e D c9 hD
    refine ⟨⟨by decide,by decide⟩,ql w2 ⟨(by show (0:Int)<((ws.map qo).length:Int) - 1;rw [List.length_map];omega),?_⟩⟩
    dsimp only
    rw [ej]
    refine qz w2 fun r1 hr1=>?_
    rw [aw1]
    have v1':LSub L2 (qh L2 r1 (.lst ((ws.map qo).take j))):=LSub.new hr1
    refine ql (v1' _ _ w2) (qx a0 (ql (v1' _ _ w2) (qx a1 fun r2 hr2=>?_)))
    have v2':=v1'.trans (LSub.new (o:=.lst [Y.tup [.str (kN e),qo u0,qo u1]]) hr2)
    have x1:(qh (qh L2 r1 (.lst ((ws.map qo).take j))) r2 (.lst [Y.tup [.str (kN e),qo u0,qo u1]])) r1=some (.lst ((ws.map qo).take j)):=LSub.new hr2 _ _ q8
    refine ⟨_,_,x1,q8,by rw [List.length_take,List.length_map,List.length_singleton];omega,fun r3 hr3=>?_⟩
    have v3':=v2'.trans (LSub.new (o:=.lst ((ws.map qo).take j++[Y.tup [.str (kN e),qo u0,qo u1]])) hr3)
    refine qz (v3' _ _ w2) fun r4 hr4=>?_
    rw [show ((j:Int)+2)=((j+2:Nat):Int) by omega,ajh]
    have x3:=LSub.new (o:=.lst ((ws.map qo).drop (j+2))) hr4 _ _ (q8 (L:=qh (qh L2 r1 (.lst ((ws.map qo).take j))) r2 (.lst [Y.tup [.str (kN e),qo u0,qo u1]])) (a:=r3) (o:=.lst ((ws.map qo).take j++[Y.tup [.str (kN e),qo u0,qo u1]])))
    have v4':=v3'.trans (LSub.new (o:=.lst ((ws.map qo).drop (j+2))) hr4)
    refine ⟨_,_,x3,q8,by rw [List.length_append,List.length_take,List.length_drop,List.length_map,List.length_singleton];omega,fun r5 hr5=>?_⟩
    refine hD r5 _ ((s2.trans v4').trans (LSub.new hr5)) (jd (s2.trans v4') hr5) ?_
    rw [q8,List.map_append,List.map_append,List.map_take,List.map_drop]
    rfl
  show vf (decide (v % (mo+ot)<mo)) _ _
  refine we (fun g3=>?_) (fun g3=>?_)
  · exact tail false fun w' L3 sL nw' hw'=>rest false (mo - 1) ot (by omega) (by omega) o0 o1 _ _ _ L3 w' sL nw' hw'
  · exact tail true fun w' L3 sL nw' hw'=>rest true mo (ot - 1) m0 m1 (by omega) (by omega) _ _ _ L3 w' sL nw' hw'
end L3
namespace L3
open PySem L2 Words
local macro_rules | `(tactic| walk_at "w")=>`(tactic| conv=>whnf)
theorem akz (w:Wd) (r:List Wd):BO (w::r)=boN w+BO r:=by unfold BO;rw [List.map_cons,List.sum_cons]
theorem agy (w:Wd) (r:List Wd):LV (w::r)=w.leafL++LV r:=by unfold LV;rw [List.flatMap_cons]
theorem awz {L:LHp} {ss:List Wd} (h:∀ w∈ss,w.depth≤63):Paired (DatN L 63) (ss.map qo).reverse (ss.map enc).reverse:=by
  rw [← List.map_reverse,← List.map_reverse]
  exact aaj fun w hw=>h w (List.mem_reverse.mp hw)
theorem awi (ss:List Wd):Da.eqs (ss.map enc).reverse []=ss.isEmpty:=by
  cases ss with
  | nil=>rfl
  | cons w r=>
    rw [List.map_cons,List.reverse_cons]
    cases (List.map enc r).reverse<;>rfl
def ae1:Sp3:=fun ys L Q=>∃ w,∃ ws:List Wd,ys=[.ref w]∧L w=some (.lst (ws.map qo))∧(∀ x∈ws,x.depth≤63)∧SZ ws≤100∧(LV ws).length≤124∧∀ p,L p=none→Q (.tup [.ref p,.int (BO ws:Int)]) (qh L p (.lst ((LV ws).map qo)))
theorem asr:∀ ys L Q,ae1 ys L Q→xj aqc 5 ys L Q:=by
  rintro ys L Q ⟨w,ws,rfl,hw,hd0,hsz,hlv,q⟩
  refine ql hw fun p1 hp1=>⟨rfl,qz q8 fun st hst=>?_⟩
  intro lv hlv2
  have n1:L st=none:=x5 hst
  have n2:L lv=none:=x5 (x5 hlv2)
  have nsl:st≠lv:=neL q8 hlv2
  have s0:LSub L (qh (qh (qh L p1 (.lst (ws.map qo))) st (.lst (ws.map qo).reverse)) lv (.lst [])):=((LSub.new hp1).trans (LSub.new hst)).trans (LSub.new hlv2)
  have g0:(qh (qh (qh L p1 (.lst (ws.map qo))) st (.lst (ws.map qo).reverse)) lv (.lst [])) st=some (.lst (ws.map qo).reverse):=(qf nsl).trans q8
  refine ⟨fun m τ L'=>∃ ss ls:List Wd,∃ bo:Nat,∃ c4,τ=[some (.ref w),some (.ref st),some (.ref lv),some (.int (bo:Int)),c4]∧LSub L L'∧L' st=some (.lst (ss.map qo).reverse)∧L' lv=some (.lst (ls.map qo))∧ls++LV ss=LV ws∧bo+BO ss=BO ws∧(∀ x∈ss,x.depth≤63)∧SZ ss≤100∧m=SZ ss,⟨_,ws,[],0,_,rfl,s0,g0,q8,rfl,Nat.zero_add _,hd0,hsz,rfl⟩,?_⟩
  rintro m τ L' ⟨ss,ls,bo,c4,rfl,s,h1,h2,hL,hB,hd,hz,rfl⟩
  intro pe hpe
  have t1:LSub L' (qh L' pe (.lst [])):=LSub.new hpe
  refine asa (by decide) (t1 _ _ h1) q8 (awz hd) (.nil:Paired (DatN _ 0) _ []) ?_
  rw [awi]
  cases ss with
  | nil=>
    have e1:ls=LV ws:=by rw [← hL];simp [LV]
    have e2:bo=BO ws:=by rw [← hB];rfl
    subst e1 e2
    exact aau (LSub.put (s.trans t1) (t1 _ _ h2)) (q lv n2)
  | cons x r=>
    refine ⟨_,fun _ _ h=>h,?_⟩
    have ew:((x::r).map qo).reverse=(r.map qo).reverse++[qo x]:=by rw [List.map_cons,List.reverse_cons]
    have h1':=t1 _ _ h1
    rw [ew] at h1'
    refine a1i h1' ?_
    have k1:(qh (qh L' pe (.lst [])) st (.lst (r.map qo).reverse)) st=some (.lst (r.map qo).reverse):=q8
    have k2:(qh (qh L' pe (.lst [])) st (.lst (r.map qo).reverse)) lv=some (.lst (ls.map qo)):=(qf (Ne.symm nsl)).trans (t1 _ _ h2)
    have ks:LSub L (qh (qh L' pe (.lst [])) st (.lst (r.map qo).reverse)):=(s.trans t1).upd n1
    generalize qh (qh L' pe (.lst [])) st (.lst (r.map qo).reverse)=L1 at k1 k2 ks
    have hd1:∀ y∈r,y.depth≤63:=fun y hy=>hd y (List.mem_cons_of_mem _ hy)
    have hdx:x.depth≤63:=hd x (List.mem_cons_self ..)
    rw [xk] at hz
    rw [akz] at hB
    rw [agy] at hL
    have xp:=x.size_pos
    have rl:=atf r
    have ll:ls.length≤124:=by have:=congrArg List.length hL;rw [List.length_append] at this;omega
    cases x with
    | leaf t n=>
      refine ql k2 (qz k2 ⟨Nat.lt_of_le_of_lt (by rw [List.length_map];exact ll) (by decide),_,LSub.refl _,?_⟩)
      refine ⟨SZ r,by rw [xk];show SZ r<1+SZ r;omega,r,ls++[.leaf t n],bo,_,rfl,ks.upd n2,(qf nsl).trans k1,?_,?_,?_,hd1,by omega,rfl⟩
      · rw [q8,List.map_append];rfl
      · rw [← hL,List.append_assoc];rfl
      · rw [← hB];show bo+BO r=bo+(0+BO r);omega
    | node e l rr=>
      have hdn:max l.depth rr.depth+1≤63:=hdx
      have es:(Wd.node e l rr).size=1+l.size+rr.size:=rfl
      rw [es] at hz
      have go:∀ (bi:Int) (b2:Nat),bi=(b2:Int)→b2=bo+(if e=true then 0 else 1)→∀ c4,Frg (fun (τ':St3) (L':LHp)=>∃ m',m'<SZ (Wd.node e l rr::r)∧∃ ss ls:List Wd,∃ bo:Nat,∃ c4,τ'=[some (Y.ref w),some (Y.ref st),some (Y.ref lv),some (Y.int (bo:Int)),c4]∧LSub L L'∧L' st=some (.lst (ss.map qo).reverse)∧L' lv=some (.lst (ls.map qo))∧ls++LV ss=LV ws∧bo+BO ss=BO ws∧(∀ x∈ss,x.depth≤63)∧SZ ss≤100∧m'=SZ ss)
          [some (Y.ref w),some (Y.ref st),some (Y.ref lv),some (Y.int bi),c4] (qh (qh L1 st (.lst ((r.map qo).reverse++[qo rr]))) st (.lst ((r.map qo).reverse++[qo rr]++[qo l]))):=by
        rintro _ b2 rfl eb c4
        refine ⟨_,LSub.refl _,SZ (l::rr::r),?_,l::rr::r,ls,b2,c4,rfl,(ks.upd n1).upd n1,?_,?_,?_,?_,?_,?_,rfl⟩
        · rw [xk,xk,xk,es];omega
        · rw [q8,List.map_cons,List.map_cons,List.reverse_cons,List.reverse_cons]
        · rw [qf (Ne.symm nsl),qf (Ne.symm nsl)];exact k2
        · rw [← hL,agy,agy]
          show ls++(l.leafL++(rr.leafL++LV r))=ls++((l.leafL++rr.leafL)++LV r)
          rw [List.append_assoc]
        · rw [← hB,akz,akz,eb]
          show _=bo+(boN l+boN rr+(if e=true then 0 else 1)+BO r)
          omega
        · intro y hy
          rcases List.mem_cons.mp hy with rfl | hy
          · omega
          · rcases List.mem_cons.mp hy with rfl | hy
            · omega
            · exact hd1 y hy
        · rw [xk,xk];omega
      have l1:((r.map qo).reverse).length≤100:=by rw [List.length_reverse,List.length_map];omega
      have l2:((r.map qo).reverse++[qo rr]).length≤101:=by rw [List.length_append,List.length_singleton];omega
      cases e with
      | true=>
        refine ql k1 (qz k1 ⟨Nat.lt_of_le_of_lt l1 (by decide),ql q8 (qz q8 ⟨Nat.lt_of_le_of_lt l2 (by decide),?_⟩)⟩)
        exact go _ bo (by show (bo:Int)+(if false=true then 1 else 0)=_;simp) rfl _
      | false=>
        refine ql k1 (qz k1 ⟨Nat.lt_of_le_of_lt l1 (by decide),ql q8 (qz q8 ⟨Nat.lt_of_le_of_lt l2 (by decide),?_⟩)⟩)
        exact go _ (bo+1) (by show (bo:Int)+(if true=true then 1 else 0)=_;simp) rfl _
end L3
namespace L3
open PySem L2 Words
local macro_rules | `(tactic| walk_at "w")=>`(tactic| conv=>whnf)
def aqa (K:PySem.W.Frag) (C_OnceError:Addr) (C_TooMany:Addr) (C_BadWeb:Addr) (C_NoTree:Addr) (C_NoWord:Addr) (p__law_leaves:Sp3) (p__law_joined:Sp3) (p__law_row:Sp3) (p_searched:aj4) (p__law_uneven:Sp3) (p__law_ways:Sp3):TS3:=(qw (z9 (yOp wn (yOp yIx (yOp ayj (qb 0) (w6 (qc (yC (.int 0)) qm))) (yC (.int 0))) (yOp a4h (yC (.int 10)) (yC (.int 9)))) (qj 1))
  (qw (z9 (ySl aj1 (qb 0) (abf (yC (.int 1))) (abf (yC (.int 25)))) (qj 2))
  (qw (z9 (zc p__law_leaves (qc (qb 2) (qc (qb 1) (qc (yOp yGt (yOp wn (qb 1) (yC (.int 5))) (yC (.int 0))) qm)))) (qj 3))
  (apt (kc (yB (yOp (yEq false) (yOp wn (qb 1) (yC (.int 5))) (yC (.int 1)))) (v4 (yBL ake (qb 3) (qc (yOp wn (yOp wj (qb 1) (yC (.int 45))) (yCB wu (qc (qb 3) qm))) qm))) x9)
  (qw (z9 (yOp wj (yCB wu (qc (qb 3) qm)) (yC (.int 2))) (qj 4))
  (qw (z9 (ast (qc (yCB au1 (qc (yC (.int 0)) (qc (yOp ao6 (qb 4) (yC (.int 1))) qm))) (qc (qb 4) (qc (yOp wn (yOp wj (qb 1) (yC (.int 5))) (yC (.int 30))) (qc (yCB au1 (qc (yC (.int 0)) (qc (yOp ao6 (qb 4) (yC (.int 1))) qm))) qm)))) (yOp wn (yOp wj (qb 1) (yC (.int 5))) (yC (.int 4)))) (qj 5))
  (qw (z9 (zc p__law_joined (qc (qb 3) (qc (qb 2) (qc (qb 5) (qc (yOp wn (yOp wj (qb 1) (yC (.int 20))) (yC (.int 12))) qm))))) (qj 6))
  (qw (z9 (yOp ao6 (yOp wn (yOp wj (qb 1) (yC (.int 240))) (yC (.int 6))) (yC (.int 1))) (qj 7))
  (qw (z9 (zc p__law_row (qc (qb 6) qm)) (aa7 2 (zp (qj 3) (zp (qj 5) aa2))))
  (qw (z9 (yCB ae7 (qc (qb 6) qm)) (qj 8))
  (qw (z9 (k8 (qc (yC .non) (qc (yC .non) qm))) (aa7 2 (zp (qj 9) (zp (qj 10) aa2))))
  (qw (a3e K C_OnceError 11 (fun E3=>z9 (auo p_searched E3 (qc (qb 8) (qc (qb 7) qm))) (qj 9)) (z9 (qb 11) (qj 10)))
  (qw (kc (yOr (yB (yOp (yEq true) (qb 8) (qb 6))) (axw (yB (agf true (qb 10))) (a3b (yB (ad6 K (.ref C_TooMany) (qb 10)))))) (j9 (yC (.bl false))) x9)
  (qw (z9 (zc p__law_uneven (qc (qb 3) qm)) (qj 12))
  (qw (kc (yB (agf true (qb 12))) (j9 (ag3 (apv .tuple (qb 9)) (yOp (yEq false) (qb 9) (k8 (qc (yC (.str "names")) (qc (qb 12) qm)))))) x9)
  (qw (kc (yB (yOp (yEq true) (yCB wu (qc (qb 3) qm)) (yOp ju (yOp ahy (yC (.int 2)) (qb 5)) (yC (.int 2))))) (j9 (ag3 (apv .tuple (qb 9)) (yOp (yEq false) (qb 9) (k8 (qc (yC (.str "count")) (qc (yCB wu (qc (qb 3) qm)) (qc (qb 5) qm))))))) x9)
  (qw (kc (yB (yOp yGt (zc p__law_ways (qc (qb 3) qm)) (qb 7))) (qw (z9 (a1f (ad6 K (.ref C_NoWord) (qb 10)) (a1f (ad6 K (.ref C_NoTree) (qb 10)) (ad6 K (.ref C_BadWeb) (qb 10)))) (qj 13))
  (j9 (ag3 (ad6 K (.ref C_TooMany) (qb 10)) (ag3 (ad6 K (.type "ValueError") (qb 10)) (ayl (qb 13)))))) x9)
  (j9 (ag3 (apv .tuple (qb 9)) (yOp (aqz false) (yOp yIx (qb 9) (yC (.int 0))) (k8 (qc (yC (.str "web")) (qc (yC (.str "tries")) qm)))))))))))))))))))))))
structure XF72 (K:PySem.W.Frag) (O T BW NT NW:Addr):Prop where
  hd:XHd K T
  em:PySem.W.exmOne K (.ref T) (.ref O)=some true
  tt:PySem.W.kitOne K (.ref T) (.ref T)=some true
  ve:PySem.W.kitOne K (.ref T) (.type "ValueError")=some true
  nw:PySem.W.kitOne K (.ref T) (.ref NW)=some false
  nt:PySem.W.kitOne K (.ref T) (.ref NT)=some false
  bw:PySem.W.kitOne K (.ref T) (.ref BW)=some false
structure XF7 (K:PySem.W.Frag) (P O T BW NT NW:Addr):Prop where
  p:XFP K P
  e:XF72 K O T BW NT NW
theorem a14 (ns:List Int) (h:ns.length≤63):∃ ms:List Int,aj8 (ns.map Y.int) (some 1) (some 25)=ms.map Y.int∧ms.length≤24:=by
  refine ⟨(ns.drop 1).take 24,?_,by rw [List.length_take];omega⟩
  unfold aj8
  have e1:HT.sIx (ns.map Y.int).length 0 (some 1)=min 1 (ns.map Y.int).length:=HT.sIx_nat _ _ 1
  have e2:HT.sIx (ns.map Y.int).length (ns.map Y.int).length (some 25)=min 25 (ns.map Y.int).length:=HT.sIx_nat _ _ 25
  rw [e1,e2,List.map_take,List.map_drop,List.length_map]
  by_cases c:25≤ns.length
  · have m1:min 1 ns.length=1:=by omega
    have m2:min 25 ns.length=25:=by omega
    rw [m1,m2]
  · by_cases d:1≤ns.length
    · have m1:min 1 ns.length=1:=by omega
      have m2:min 25 ns.length=ns.length:=by omega
      rw [m1,m2]
      rw [List.take_of_length_le (by rw [List.length_drop,List.length_map];omega),List.take_of_length_le (by rw [List.length_drop,List.length_map];omega)]
    · have:ns=[]:=List.length_eq_zero_iff.mp (by omega)
      subst this;rfl
theorem ayo:∀ ws:List Wd,SZ ws≤2*(LV ws).length
  | []=>Nat.le_refl _
  | w::r=>by
    have:=ayo r
    have:=w.size_eq
    rw [xk,agy,List.length_append,Wd.leafL_len];omega
theorem WayR.uniq {ls:List Wd} {n m:Nat} (h:WayR ls n) (k:WayR ls m):n=m:=by
  obtain ⟨nms,nd,hm⟩:=ait (ls.map ahl)
  have hm':∀ w∈ls,ahl w∈nms:=fun w hw=>hm _ (List.mem_map_of_mem hw)
  rw [h nms nd hm',k nms nd hm']
theorem apx {L:LHp} (a b:Str):DatN L 1 (.tup [.str a,.str b]) (.tup [.s (.str a),.s (.str b)]):=ado (.cons ⟨rfl,rfl⟩ (.cons ⟨rfl,rfl⟩ .nil))
theorem apk {L:LHp} (a:Str) (i j:Int):DatN L 1 (.tup [.str a,.int i,.int j]) (.tup [.s (.str a),.s (.int i),.s (.int j)]):=ado (.cons ⟨rfl,rfl⟩ (.cons ⟨rfl,rfl⟩ (.cons ⟨rfl,rfl⟩ .nil)))
theorem atv {K:PySem.W.Frag} {O T BW NT NW:Addr} (xf:XF72 K O T BW NT NW):∀ ys L Q,aoq ys L Q→xj (aqa K O T BW NT NW aaf aae ae1 (wf T) kg aca) 14 ys L Q:=by
  rintro ys L Q ⟨ns,rfl,h63,rfl,q⟩
  intro p0 hp0
  refine ql q8 ⟨rfl,rfl,abh (by rw [List.length_map];show ns.length+1≤1000;omega),fun p hp=>?_⟩
  obtain ⟨c,ec⟩:∃ c:Int,atI (ns.map Y.int++[Y.int 0]) 0=some (Y.int c):=by
    cases ns with
    | nil=>exact ⟨0,rfl⟩
    | cons a r=>exact ⟨a,vg (j:=0) rfl⟩
  refine ql q8 (qx ec ⟨⟨by decide,by decide,by decide⟩,(by decide:(0:Int)<10 ^ (9:Int).toNat),?_⟩)
  show qj 1 (Y.int (c % (10:Int) ^ (9:Int).toNat)) _ _ _
  have hs0:0≤c % (10:Int) ^ (9:Int).toNat:=Int.emod_nonneg _ (by decide)
  generalize c % (10:Int) ^ (9:Int).toNat=s at hs0
  generalize qh (qh _ p0 _) p _=L1
  clear hp hp0 ec
  obtain ⟨ms,ems,hms⟩:=a14 ns h63
  intro pm hpm
  rw [ems]
  refine ⟨(by decide:(0:Int)<5),pm,ms,s,decide (0<s % 5),rfl,q8,hms,fun lv ls hlv hlf hl1 hl2 hl3=>?_⟩
  have g1:=LSub.new (o:=.lst (ls.map qo)) hlv _ _ (q8 (L:=L1) (a:=pm) (o:=.lst (ms.map Y.int)))
  have g2:(qh (qh L1 pm (.lst (ms.map Y.int))) lv (.lst (ls.map qo))) lv=some (.lst (ls.map qo)):=q8
  have npl:pm≠lv:=neL q8 hlv
  generalize qh (qh L1 pm (.lst (ms.map Y.int))) lv (.lst (ls.map qo))=L2 at g1 g2
  clear hlv hpm
  refine ⟨fun τ' L'=>∃ ls:List Wd,τ'=[some (.sq (ns.map Y.int)),some (.int s),some (.ref pm),some (.ref lv),none,none,none,none,none,none,none,none,none,none]∧L' pm=some (.lst (ms.map Y.int))∧L' lv=some (.lst (ls.map qo))∧afo ls∧1≤ls.length∧ls.length≤50,?_,?_⟩
  · refine ⟨(by decide:(0:Int)<5),?_⟩
    show vf (decide (s % 5=1)) _ _
    refine we (fun h1=>?_) fun h1=>⟨ls,rfl,g1,g2,hlf,hl1,hl3⟩
    have hl2':=hl2 (decide_eq_true (by omega))
    refine ql g2 ⟨⟨by decide,by decide⟩,ql g2 ⟨(by show (0:Int)<((ls.map qo).length:Int);rw [List.length_map];omega),?_⟩⟩
    have j0:0≤s / 45 % ((ls.map qo).length:Int):=Int.emod_nonneg _ (by rw [List.length_map];omega)
    have j1:s / 45 % ((ls.map qo).length:Int)<((ls.map qo).length:Int):=Int.emod_lt_of_pos _ (by rw [List.length_map];omega)
    refine qz g2 ⟨j0,j1,?_⟩
    generalize hj:(s / 45 % ((ls.map qo).length:Int)).toNat=j
    obtain ⟨y,ey⟩:∃ y,(ls.map qo)[j]?=some y:=⟨_,List.getElem?_eq_getElem (by omega)⟩
    have hjl:j<ls.length:=by have:=j7 ey;rwa [List.length_map] at this
    refine qx ey ⟨ls.eraseIdx j,rfl,(qf npl).trans g1,?_,fun z hz=>hlf z (List.mem_of_mem_eraseIdx hz),?_,?_⟩
    · rw [q8,ak9]
    · rw [List.length_eraseIdx_of_lt hjl];omega
    · rw [List.length_eraseIdx_of_lt hjl];omega
  clear g1 g2 hlf hl1 hl2 hl3
  rintro τ' L3 ⟨ls,rfl,g1,g2,hlf,hl1,hl3⟩
  refine ql g2 ⟨⟨by decide,by decide⟩,?_⟩
  obtain ⟨bo,eb,bo0,bo1⟩:∃ bo:Int,atI [Y.int (max 0 (((ls.map qo).length:Int) / 2 - 1)),.int (((ls.map qo).length:Int) / 2),.int (s / 5 % 30),.int (max 0 (((ls.map qo).length:Int) / 2 - 1))] (s / 5 % 4)=some (.int bo)∧0≤bo∧bo≤50:=by
    have hl:((ls.map qo).length:Int)=(ls.length:Int):=by rw [List.length_map]
    have h4:s / 5 % 4=0∨s / 5 % 4=1∨s / 5 % 4=2∨s / 5 % 4=3:=by omega
    rcases h4 with h | h | h | h<;>rw [h]
    · exact ⟨_,rfl,by omega,by omega⟩
    · exact ⟨_,rfl,by omega,by omega⟩
    · exact ⟨_,rfl,by omega,by omega⟩
    · exact ⟨_,rfl,by omega,by omega⟩
  refine ⟨⟨by decide,by decide⟩,(by decide:(0:Int)<30),⟨by decide,by decide⟩,(by decide:(0:Int)<4),qx eb ?_⟩
  refine ⟨⟨by decide,by decide⟩,(by decide:(0:Int)<12),lv,pm,ls,ms,bo,s / 20 % 12,rfl,g2,g1,hlf,hl1,hl3,hms,bo0,bo1,by omega,by omega,fun w ws hw hLV=>?_⟩
  have g3:(qh L3 w (.lst (ws.map qo))) w=some (.lst (ws.map qo)):=q8
  generalize qh L3 w (.lst (ws.map qo))=L4 at g3
  refine ⟨⟨by decide,by decide⟩,(by decide:(0:Int)<6),?_⟩
  have hll:(LV ws).length≤50:=by rw [hLV];exact hl3
  have hsm:=at3 hll
  have hsz:SZ ws≤100:=by have:=ayo ws;omega
  have hlf':∀ x∈LV ws,∃ t n,x=Wd.leaf t n:=fun x hx=>ah2 hx
  refine ⟨w,ws,rfl,g3,fun x hx=>(hsm x hx).1,hsz,by omega,fun l2 hl2=>?_⟩
  have g4:=LSub.new (o:=.lst ((LV ws).map qo)) hl2 _ _ g3
  have g5:(qh L4 l2 (.lst ((LV ws).map qo))) l2=some (.lst ((LV ws).map qo)):=q8
  generalize qh L4 l2 (.lst ((LV ws).map qo))=L5 at g4 g5
  refine ql g4 fun as has=>?_
  have k1:=LSub.new (o:=.lst (ws.map qo)) has _ _ g4
  have k2:=LSub.new (o:=.lst (ws.map qo)) has _ _ g5
  have k3:(qh L5 as (.lst (ws.map qo))) as=some (.lst (ws.map qo)):=q8
  generalize qh L5 as (.lst (ws.map qo))=L6 at k1 k2 k3
  clear hl2 has g4 g5 hw g3 g1 g2
  have hm4:s / 240 % 6 - 1≤4:=by omega
  have rf:nb true (Da.eq (.lst (ws.map enc)) (.lst (ws.map enc)))=false:=by rw [show Da.eq (.lst (ws.map enc)) (.lst (ws.map enc))=true from ajp ws];rfl
  have dw:∀ L':LHp,Paired (DatN L' 63) (ws.map qo) (ws.map enc):=fun L'=>aaj fun x hx=>(hsm x hx).1
  simp only [wv]
  refine ⟨as,ws,s / 240 % 6 - 1,rfl,k3,hsm,by omega,hsz,hm4,fun x hx=>?_,fun hn hc=>?_,fun n hn hW hc hlt=>⟨xf.em,fun ex hex=>?_⟩,fun n hn hW hc hle y L' sL=>?_⟩
  ·
    simp only [qj,wv]
    refine ⟨rfl,rfl,64,64,_,_,by decide,jm k3 (dw _),jm k1 (dw _),kf rf ?_⟩
    refine ⟨l2,LV ws,rfl,k2,hlf',by omega,fun x' hx'=>?_,fun hn=>by rw [hn] at hx;cases hx⟩
    rw [hx] at hx'
    cases hx'
    refine ⟨rfl,rfl,1,1,_,_,by decide,apx _ _,apx _ _,?_⟩
    rw [show nb false (Da.eq (.tup [.s (.str "names"),.s (.str x)]) (.tup [.s (.str "names"),.s (.str x)]))=true by simp [nb,Da.eq,Da.eqs,eqV]]
    exact fin (q _)
  ·
    simp only [qj,wv]
    refine ⟨rfl,rfl,64,64,_,_,by decide,jm k3 (dw _),jm k1 (dw _),kf rf ?_⟩
    refine ⟨l2,LV ws,rfl,k2,hlf',by omega,fun x' hx'=>(by rw [hn] at hx';cases hx'),fun _=>?_⟩
    refine ql k2 ⟨.inl ⟨by decide,by decide⟩,?_⟩
    refine adb (by show (!decide ((((LV ws).map qo).length:Int)=2*(BO ws:Int)+2))=true;rw [decide_eq_false (by rw [List.length_map];omega)];rfl) ?_
    refine ql k2 ?_
    refine ⟨rfl,rfl,1,1,_,_,by decide,apk _ _ _,apk _ _ _,?_⟩
    rw [show nb false (Da.eq (.tup [.s (.str "count"),.s (.int ((LV ws).length:Int)),.s (.int (BO ws:Int))]) (.tup [.s (.str "count"),.s (.int (((LV ws).map qo).length:Int)),.s (.int (BO ws:Int))]))=true by simp [nb,Da.eq,Da.eqs,eqV]]
    exact fin (q _)
  ·
    have k1:=LSub.new (o:=.exc T) hex _ _ k1
    have k2:=LSub.new (o:=.exc T) hex _ _ k2
    have k3:=LSub.new (o:=.exc T) hex _ _ k3
    have ke:(qh L6 ex (.exc T)) ex=some (.exc T):=q8
    refine ⟨rfl,rfl,64,64,_,_,by decide,jm k3 (dw _),jm k1 (dw _),kf rf ?_⟩
    refine acg ke ⟨xf.hd,true,xf.tt,?_⟩
    refine ⟨l2,LV ws,rfl,k2,hlf',by omega,fun x' hx'=>(by rw [hn] at hx';cases hx'),fun _=>?_⟩
    refine ql k2 ⟨.inl ⟨by decide,by decide⟩,?_⟩
    refine kf (by show (!decide ((((LV ws).map qo).length:Int)=2*(BO ws:Int)+2))=false;rw [decide_eq_true (by rw [List.length_map,hc];omega)];rfl) ?_
    refine ⟨l2,LV ws,rfl,k2,hlf',by omega,fun n' hW'=>?_⟩
    cases hW.uniq hW'
    show vf (decide ((n:Int) > s / 240 % 6 - 1)) _ _
    refine avk (by omega) ?_
    refine acg ke ⟨xf.hd,false,xf.nw,acg ke ⟨xf.hd,false,xf.nt,acg ke ⟨xf.hd,false,xf.bw,?_⟩⟩⟩
    exact acg ke ⟨xf.hd,true,xf.tt,acg ke ⟨xf.hd,true,xf.ve,fin (q _)⟩⟩
  ·
    have k1:=sL _ _ k1
    have k2:=sL _ _ k2
    have k3:=sL _ _ k3
    have e1:inV (toV (.str "web")) ([Y.str "web",.str "tries"].map toV)=true:=by decide +kernel
    have e2:inV (toV (.str "tries")) ([Y.str "web",.str "tries"].map toV)=true:=by decide +kernel
    refine ⟨?_,?_⟩
    · simp only [qj,wv]
      refine ⟨rfl,rfl,64,64,_,_,by decide,jm k3 (dw _),jm k1 (dw _),kf rf ?_⟩
      refine ⟨l2,LV ws,rfl,k2,hlf',by omega,fun x' hx'=>(by rw [hn] at hx';cases hx'),fun _=>?_⟩
      refine ql k2 ⟨.inl ⟨by decide,by decide⟩,?_⟩
      refine kf (by show (!decide ((((LV ws).map qo).length:Int)=2*(BO ws:Int)+2))=false;rw [decide_eq_true (by rw [List.length_map,hc];omega)];rfl) ?_
      refine ⟨l2,LV ws,rfl,k2,hlf',by omega,fun n' hW'=>?_⟩
      cases hW.uniq hW'
      show vf (decide ((n:Int) > s / 240 % 6 - 1)) _ _
      refine apb (by omega) ⟨rfl,rfl,?_⟩
      show aev Q (.bl (inV (toV (.str "web")) ([Y.str "web",.str "tries"].map toV))) L'
      rw [e1]
      exact fin (q _)
    · simp only [qj,wv]
      refine ⟨rfl,rfl,64,64,_,_,by decide,jm k3 (dw _),jm k1 (dw _),kf rf ?_⟩
      refine ⟨l2,LV ws,rfl,k2,hlf',by omega,fun x' hx'=>(by rw [hn] at hx';cases hx'),fun _=>?_⟩
      refine ql k2 ⟨.inl ⟨by decide,by decide⟩,?_⟩
      refine kf (by show (!decide ((((LV ws).map qo).length:Int)=2*(BO ws:Int)+2))=false;rw [decide_eq_true (by rw [List.length_map,hc];omega)];rfl) ?_
      refine ⟨l2,LV ws,rfl,k2,hlf',by omega,fun n' hW'=>?_⟩
      cases hW.uniq hW'
      show vf (decide ((n:Int) > s / 240 % 6 - 1)) _ _
      refine apb (by omega) ⟨rfl,rfl,?_⟩
      show aev Q (.bl (inV (toV (.str "tries")) ([Y.str "web",.str "tries"].map toV))) L'
      rw [e2]
      exact fin (q _)
end L3
namespace L3
open PySem L2
theorem a24:bootBuiltins "min" = some (.builtin "min"):=by decide +kernel
structure FunD (K:PySem.W.Frag) (x qual:Str) (st:Stmt) (f:Addr) (fd:FuncData):Prop where
  ex:∃ (oc:Value) (od:Option Addr) (dV kV doc pm:Value) (an:Option Addr) (cdv ct:Value) (osl:Array (Option Value)),
    fd=PySem.W.fnOf x qual (jv st) (qr st) (qa st) dV kV doc pm an cdv ct∧K.lookup f=some ⟨oc,od,.func fd,osl⟩∧PySem.W.codeIn K cdv qual=true
  kp:PySem.W.keepIn K (.ref f)=true
structure DefInD (K:PySem.W.Frag) (x:Str) (st:Stmt) (d:Int):Prop where
  ex:∃ (f T:Addr) (oT:Obj) (t:Tok) (n:Nat) (kV doc pm:Value) (an:Option Addr) (cdv ct:Value),PySem.W.nsIn K mainGlobals x=some (some (.ref f))∧FunD K x x st f (PySem.W.fnOf x x (jv st) (qr st) (qa st) (.ref T) kV doc pm an cdv ct)∧K.lookup T=some oT∧oT.data=.seq #[.int d t] n
theorem def_inD {K:PySem.W.Frag} {x:Str} {st:Stmt} {d:Int} {f T:Addr} {oc oc2:Value} {od od2 an:Option Addr} {osl osl2:Array (Option Value)} {kV doc pm cdv ct:Value} {t:Tok} {n:Nat} (a:PySem.W.nsIn K mainGlobals x=some (some (.ref f)))
    (l:K.lookup f=some ⟨oc,od,.func (PySem.W.fnOf x x (jv st) (qr st) (qa st) (.ref T) kV doc pm an cdv ct),osl⟩) (lt:K.lookup T=some ⟨oc2,od2,.seq #[.int d t] n,osl2⟩) (c:PySem.W.codeIn K cdv x=true) (k:PySem.W.keepIn K (.ref f)=true):DefInD K x st d:=
  ⟨f,T,_,t,n,kV,doc,pm,an,cdv,ct,a,⟨⟨oc,od,.ref T,kV,doc,pm,an,cdv,ct,osl,rfl,l,c⟩,k⟩,lt,rfl⟩
theorem DefInD.use {K:PySem.W.Frag} {x:Str} {st:Stmt} {d:Int} {ps:List Str} {h:Heap} {mg:Str→Option Value} (D:DefInD K x st d) (X:K.In h) (G:h.Ns mainGlobals mg)
    (hb:∀ (T:Addr) (t:Tok) (kV doc pm:Value) (an:Option Addr) (cdv ct:Value) (us:List Value),us.length=ps.length→∃ k,bindArgs (PySem.W.fnOf x x (jv st) (qr st) (qa st) (.ref T) kV doc pm an cdv ct) ⟨us,[]⟩=seqItems? (.ref T) >>= k∧k (some #[.int d t])=pure (ps.zip us)):
    ∃ f fd,FunD K x x st f fd∧Binds K fd ps []∧mg x=some (.ref f):=by
  obtain ⟨f,T,oT,t,n,kV,doc,pm,an,cdv,ct,a,F,lT,dT⟩:=D.ex
  refine ⟨f,_,F,fun s us KX hl=>?_,PySem.W.mg_of X G a⟩
  rw [List.append_nil] at hl ⊢
  obtain ⟨k,h1,h2⟩:=hb T t kV doc pm an cdv ct us hl
  exact BindsTo.of_defaults rfl (KX T oT lT) dT h1 h2
theorem a46 {P:Program} {w:World} {K:PySem.W.Frag} {mg:Str→Option Value} {base:Heap} {x qual:Str} {st:Stmt} {f:Addr} {fd:FuncData} {N ps:List Str} {k:Nat} {sp:aj4} {t:X3→TS3} (F:FunD K x qual st f fd) (S:FnScope N ps (qa st)) (len:∀ ys L Q E,sp ys L Q E→ys.length=ps.length)
    (hbody:∀ (cdv:Value) (A:Around) (outer:List Env) (s:Shared) (H:Hp) (E:XK) (E3:X3),Room k (A.deeper (PyProof.Rows.envOfC qual (qa st) s.heap.objs.size f cdv))→
      Takes (jb (CXE P w) P w K mg base N qual (qa st) f cdv A outer s H E) (upX ⟨K,P,w⟩ E3)→QSs (jb (CXE P w) P w K mg base N qual (qa st) f cdv A outer s H E) (qr st) (t E3))
    (vc:∀ ys L Q E,sp ys L Q E→t (awr E) { nx:=fun _ L'=>aev Q .non L',rt:=aev Q } (afi N ys) L):a19 P w K mg base (k+1) f fd ps sp:=by
  obtain ⟨oc,od,dV,kV,doc,pm,an,cdv,ct,osl,rfl,lk,hcd⟩:=F.ex
  refine ays lk hcd S (fun vs H Q E ⟨ys,L,Q3,E3,rv,rl,z,_⟩=>by rw [← rv.length];exact len ys L Q3 E3 z) fun A outer s H vs Q E hr ⟨ys,L,Q3,E3,rv,rl,z,k,kx⟩=>?_
  refine ⟨_,hbody cdv A outer s H E (awr E3) hr (a18 kx),afi N ys,L,_,ajq rv,rl,vc ys L Q3 E3 z,?_⟩
  exact ⟨fun σ H' τ L' t' rs' rl' ⟨L2,s2,q2⟩=>k .non H' .non L2 t' (rl'.sub s2) (by rfl) q2,fun v H' y L' t' rl' rv' ⟨L2,s2,q2⟩=>k v H' y L2 t' (rl'.sub s2) rv' q2,fun _ _ _ _ _ _ _ z=>z.elim,fun _ _ _ _ _ _ _ z=>z.elim⟩
end L3
namespace K72
open PySem L2 L3 Words
def top (i:Nat):Stmt:=PySem.Challenge.pw_oncewise_k72_names_and_counts.main.body.getD i (.Pass ⟨0,0,0,0⟩)
abbrev wz:Stmt:=top 11
theorem aim:FnScope ["word"] ["word"] (qa wz):=⟨rfl,rfl,rfl,by decide +kernel,rfl,by decide +kernel,by decide +kernel⟩
abbrev aav:Stmt:=top 12
theorem akb:FnScope ["word", "kind"] ["word"] (qa aav):=⟨rfl,rfl,rfl,by decide +kernel,rfl,by decide +kernel,by decide +kernel⟩
abbrev vp:Stmt:=top 13
theorem adv:FnScope ["word"] ["word"] (qa vp):=⟨rfl,rfl,rfl,by decide +kernel,rfl,by decide +kernel,by decide +kernel⟩
abbrev kq:Stmt:=top 15
theorem afq:FnScope ["knots", "word", "left", "right"] ["knots", "word"] (qa kq):=⟨rfl,rfl,rfl,by decide +kernel,rfl,by decide +kernel,by decide +kernel⟩
abbrev af3:Stmt:=top 16
theorem aq7:FnScope ["words", "knots", "places", "word"] ["words"] (qa af3):=⟨rfl,rfl,rfl,by decide +kernel,rfl,by decide +kernel,by decide +kernel⟩
abbrev xh:Stmt:=(agu (top 7)).getD 0 (.Pass ⟨0,0,0,0⟩)
theorem ac1:FnScope ["self", "count"] ["self", "count"] (qa xh):=⟨rfl,rfl,rfl,by decide +kernel,rfl,by decide +kernel,by decide +kernel⟩
abbrev ji:Stmt:=(agu (top 7)).getD 1 (.Pass ⟨0,0,0,0⟩)
theorem aah:FnScope ["self", "place", "here"] ["self", "place"] (qa ji):=⟨rfl,rfl,rfl,by decide +kernel,rfl,by decide +kernel,by decide +kernel⟩
abbrev x6:Stmt:=(agu (top 7)).getD 2 (.Pass ⟨0,0,0,0⟩)
theorem abe:FnScope ["self", "p", "q", "first", "second"] ["self", "p", "q"] (qa x6):=⟨rfl,rfl,rfl,by decide +kernel,rfl,by decide +kernel,by decide +kernel⟩
abbrev jw:Stmt:=top 17
theorem abc:FnScope ["knots"] ["knots"] (qa jw):=⟨rfl,rfl,rfl,by decide +kernel,rfl,by decide +kernel,by decide +kernel⟩
abbrev kz:Stmt:=top 18
theorem ag6:FnScope ["knot"] ["knot"] (qa kz):=⟨rfl,rfl,rfl,by decide +kernel,rfl,by decide +kernel,by decide +kernel⟩
abbrev k7:Stmt:=top 19
theorem adq:FnScope ["pairs", "places", "p", "q"] ["pairs"] (qa k7):=⟨rfl,rfl,rfl,by decide +kernel,rfl,by decide +kernel,by decide +kernel⟩
abbrev xw:Stmt:=top 20
theorem ad1:FnScope ["web"] ["web"] (qa xw):=⟨rfl,rfl,rfl,by decide +kernel,rfl,by decide +kernel,by decide +kernel⟩
abbrev kr:Stmt:=top 22
theorem afp:FnScope ["web"] ["web"] (qa kr):=⟨rfl,rfl,rfl,by decide +kernel,rfl,by decide +kernel,by decide +kernel⟩
abbrev xz:Stmt:=top 23
theorem acz:FnScope ["knots", "places", "edges", "place"] ["knots", "places"] (qa xz):=⟨rfl,rfl,rfl,by decide +kernel,rfl,by decide +kernel,by decide +kernel⟩
abbrev w5:Stmt:=top 24
theorem ag9:FnScope ["web"] ["web"] (qa w5):=⟨rfl,rfl,rfl,by decide +kernel,rfl,by decide +kernel,by decide +kernel⟩
abbrev xt:Stmt:=top 25
theorem acx:FnScope ["pieces", "joins", "steps", "p", "q"] ["pieces", "joins"] (qa xt):=⟨rfl,rfl,rfl,by decide +kernel,rfl,by decide +kernel,by decide +kernel⟩
abbrev ko:Stmt:=top 26
theorem afx:FnScope ["pieces", "knots", "place", "heads"] ["pieces", "knots", "place"] (qa ko):=⟨rfl,rfl,rfl,by decide +kernel,rfl,by decide +kernel,by decide +kernel⟩
abbrev xq:Stmt:=top 27
theorem acy:FnScope ["pieces", "knots", "eithers", "steps", "before", "place"] ["pieces", "knots", "eithers"] (qa xq):=⟨rfl,rfl,rfl,by decide +kernel,rfl,by decide +kernel,by decide +kernel⟩
abbrev ky:Stmt:=top 28
theorem agc:FnScope ["knots", "joins", "eithers", "pieces"] ["knots", "joins", "eithers"] (qa ky):=⟨rfl,rfl,rfl,by decide +kernel,rfl,by decide +kernel,by decide +kernel⟩
abbrev zu:Stmt:=top 29
theorem wb:FnScope ["knots", "joins", "eithers", "due"] ["knots", "joins", "eithers"] (qa zu):=⟨rfl,rfl,rfl,by decide +kernel,rfl,by decide +kernel,by decide +kernel⟩
abbrev vq:Stmt:=top 30
theorem aep:FnScope ["web"] ["web"] (qa vq):=⟨rfl,rfl,rfl,by decide +kernel,rfl,by decide +kernel,by decide +kernel⟩
abbrev k6:Stmt:=top 31
theorem adi:FnScope ["web", "knots", "joins", "eithers", "choices", "number", "place", "left", "choice"] ["web"] (qa k6):=⟨rfl,rfl,rfl,by decide +kernel,rfl,by decide +kernel,by decide +kernel⟩
abbrev vn:Stmt:=top 33
theorem ae5:FnScope ["words", "leaves", "word"] ["words"] (qa vn):=⟨rfl,rfl,rfl,by decide +kernel,rfl,by decide +kernel,by decide +kernel⟩
abbrev jy:Stmt:=top 34
theorem aba:FnScope ["leaves", "leaf"] ["leaves"] (qa jy):=⟨rfl,rfl,rfl,by decide +kernel,rfl,by decide +kernel,by decide +kernel⟩
abbrev vo:Stmt:=top 35
theorem aed:FnScope ["words", "leaves", "ways", "counts", "kind", "name"] ["words"] (qa vo):=⟨rfl,rfl,rfl,by decide +kernel,rfl,by decide +kernel,by decide +kernel⟩
abbrev jh:Stmt:=top 36
theorem aa9:FnScope ["knots", "ways", "place", "mates", "longer", "links", "used", "mate"] ["knots", "ways", "place"] (qa jh):=⟨rfl,rfl,rfl,by decide +kernel,rfl,by decide +kernel,by decide +kernel⟩
abbrev x0:Stmt:=top 37
theorem abb:FnScope ["knots", "ways", "place", "knot"] ["knots"] (qa x0):=⟨rfl,rfl,rfl,by decide +kernel,rfl,by decide +kernel,by decide +kernel⟩
abbrev ja:Stmt:=top 38
theorem aa3:FnScope ["knots", "tried", "links", "web", "choices"] ["knots"] (qa ja):=⟨rfl,rfl,rfl,by decide +kernel,rfl,by decide +kernel,by decide +kernel⟩
abbrev vj:Stmt:=top 39
theorem afr:FnScope ["words", "most", "leaves", "name", "knots", "boths"] ["words", "most"] (qa vj):=⟨rfl,rfl,rfl,by decide +kernel,rfl,by decide +kernel,by decide +kernel⟩
abbrev kl:Stmt:=top 41
theorem afy:FnScope ["_law_cell", "_law_k", "_law_factor"] ["_law_cell", "_law_k", "_law_factor"] (qa kl):=⟨rfl,rfl,rfl,by decide +kernel,rfl,by decide +kernel,by decide +kernel⟩
abbrev vt:Stmt:=top 42
theorem aef:FnScope ["_law_seed", "_law_which", "_law_letters", "_law_size", "_law_place", "_law_base", "_law_sign"] ["_law_seed", "_law_which"] (qa vt):=⟨rfl,rfl,rfl,by decide +kernel,rfl,by decide +kernel,by decide +kernel⟩
abbrev xc:Stmt:=top 43
theorem ac3:FnScope ["_law_leaves_here", "_law_cells", "_law_boths", "_law_eithers", "_law_words", "_law_more", "_law_other", "_law_number", "_law_kind", "_law_at"] ["_law_leaves_here", "_law_cells", "_law_boths", "_law_eithers"] (qa xc):=⟨rfl,rfl,rfl,by decide +kernel,rfl,by decide +kernel,by decide +kernel⟩
abbrev xg:Stmt:=top 44
theorem abz:FnScope ["_law_cells", "_law_seed", "_law_even", "_law_sides", "_law_leaves_here", "_law_k", "_law_cell", "_law_number", "_law_leaf"] ["_law_cells", "_law_seed", "_law_even"] (qa xg):=⟨rfl,rfl,rfl,by decide +kernel,rfl,by decide +kernel,by decide +kernel⟩
abbrev ku:Stmt:=top 45
theorem ag8:FnScope ["_law_words", "_law_stack", "_law_leaves_here", "_law_boths", "_law_part"] ["_law_words"] (qa ku):=⟨rfl,rfl,rfl,by decide +kernel,rfl,by decide +kernel,by decide +kernel⟩
abbrev xb:Stmt:=top 46
theorem ac2:FnScope ["_law_leaves_here", "_law_leaf"] ["_law_leaves_here"] (qa xb):=⟨rfl,rfl,rfl,by decide +kernel,rfl,by decide +kernel,by decide +kernel⟩
abbrev vm:Stmt:=top 47
theorem aej:FnScope ["_law_leaves_here", "_law_due", "_law_seen", "_law_leaf"] ["_law_leaves_here"] (qa vm):=⟨rfl,rfl,rfl,by decide +kernel,rfl,by decide +kernel,by decide +kernel⟩
abbrev ae4:Stmt:=top 48
theorem aua:FnScope ["_law_script", "_law_seed", "_law_cells", "_law_leaves_here", "_law_half", "_law_boths", "_law_words", "_law_most", "_law_asked", "_law_found", "_law_error", "caught", "_law_name_here", "_law_other"] ["_law_script"] (qa ae4):=⟨rfl,rfl,rfl,by decide +kernel,rfl,by decide +kernel,by decide +kernel⟩
structure Bt (K:PySem.W.Frag) (P:Program) (w:World) (mg:Str→Option Value) (C_Pieces C_TooMany C_OnceError C_BadWeb C_NoTree C_NoWord:Addr):Prop where
  none_:True
  b_len:mg "len" = none
  b_list:mg "list" = none
  b_range:mg "range" = none
  b_enumerate:mg "enumerate" = none
  b_max:mg "max" = none
  b_min:mg "min" = none
  b_sorted:mg "sorted" = none
  b_int:mg "int" = none
  b_isinstance:mg "isinstance" = none
  b_tuple:mg "tuple" = none
  b_ValueError:mg "ValueError" = none
  k_LEAF_KINDS:TopC ⟨K,P,w⟩ mg "LEAF_KINDS" ad0
  k_TURNED_KINDS:TopC ⟨K,P,w⟩ mg "TURNED_KINDS" abd
  m_Pieces:mg "Pieces" = some (.ref C_Pieces)
  m_TooMany:mg "TooMany" = some (.ref C_TooMany)
  m_OnceError:mg "OnceError" = some (.ref C_OnceError)
  m_BadWeb:mg "BadWeb" = some (.ref C_BadWeb)
  m_NoTree:mg "NoTree" = some (.ref C_NoTree)
  m_NoWord:mg "NoWord" = some (.ref C_NoWord)
  x_TooMany:XCls K C_TooMany
  cl_Pieces:Cls K C_Pieces
section
variable {P:Program} {w:World} {K:PySem.W.Frag} {mg:Str→Option Value} {base:Heap} {f:Addr} {fd:FuncData} {m:Nat} {C_Pieces C_TooMany C_OnceError C_BadWeb C_NoTree C_NoWord:Addr}
theorem ao2 (B:Bt K P w mg C_Pieces C_TooMany C_OnceError C_BadWeb C_NoTree C_NoWord) {cdv:Value} {A:Around} {outer:List Env} {s:Shared} {H:Hp} {E:XK} (hr:Room m (A.deeper (PyProof.Rows.envOfC "is_leaf" (qa wz) s.heap.objs.size f cdv))):
    QSs (jb CX0 P w K mg base ["word"] "is_leaf" (qa wz) f cdv A outer s H E).nox (qr wz) ajz:=by
  have sc:=aim
  have hu:=huK hr
  exact (qk (qy (ki (az0 K P w) (z7 (z0 K P w) (qv 0) qg (fun _ _=>rfl)) (au6 B.k_LEAF_KINDS rfl) (by with_unfolding_all rfl))))
theorem an6 (F:Fun K "is_leaf" "is_leaf" wz f fd) (B:Bt K P w mg C_Pieces C_TooMany C_OnceError C_BadWeb C_NoTree C_NoWord):Fn3 P w K mg base 1 f fd ["word"] (js):=
  ok3 (k:=0) F aim (by rintro _ _ _ ⟨_,_,_,rfl,_⟩;rfl) fun cdv A outer s H E hr=>⟨_,ao2 B hr,ao5⟩
theorem arw {p_is_leaf:Sp3} {p_turned:Sp3} (B:Bt K P w mg C_Pieces C_TooMany C_OnceError C_BadWeb C_NoTree C_NoWord) (c_is_leaf:z8 P w K mg base m "is_leaf" ["word"] p_is_leaf) (c_turned:z8 P w K mg base m "turned" ["word"] p_turned) {cdv:Value} {A:Around} {outer:List Env} {s:Shared} {H:Hp} {E:XK} (hr:Room m (A.deeper (PyProof.Rows.envOfC "turned" (qa aav) s.heap.objs.size f cdv))):
    QSs (jb CX0 P w K mg base ["word", "kind"] "turned" (qa aav) f cdv A outer s H E).nox (qr aav) (amq p_is_leaf p_turned):=by
  have sc:=akb
  have hu:=huK hr
  exact (qe (qq (i:=1) sc.nd rfl (Or.inl rfl) (z7 (z0 K P w) (au6 B.k_TURNED_KINDS rfl) (z7 (z0 K P w) (qv 0) qg (fun _ _=>rfl)) (fun _ _=>rfl)))
    (qe (jt (aa6 (j8 c_is_leaf hr rfl (q9 (qv 0) qd))) (qk (qy (zw (q9 (qv 1) (q9 (z7 (z0 K P w) (qv 0) qg (fun _ _=>rfl)) qd))))) zn)
    (qk (qy (zw (q9 (qv 1) (q9 (j8 c_turned hr rfl (q9 (z7 (z0 K P w) (qv 0) qg (fun _ _=>rfl)) qd)) (q9 (j8 c_turned hr rfl (q9 (z7 (z0 K P w) (qv 0) qg (fun _ _=>rfl)) qd)) qd))))))))
theorem aha (F:Fun K "turned" "turned" aav f fd) (b:Binds K fd ["word"] []) (mgx:mg "turned" = some (.ref f)) (B:Bt K P w mg C_Pieces C_TooMany C_OnceError C_BadWeb C_NoTree C_NoWord) (c_is_leaf:z8 P w K mg base 1 "is_leaf" ["word"] (js)):∀ k,Fn3 P w K mg base (k+2) f fd ["word"] (vv k)
  | 0=>Fn3.never fun ys L Q h=>ar3 ys L Q h
  | k+1=>ok3 F akb (by rintro _ _ _ ⟨_,rfl,_⟩;rfl) fun cdv A outer s H E hr=>⟨_,arw B (c_is_leaf.mono (by omega)) (Cal.of (aha F b mgx B c_is_leaf k) b F.kp mgx) hr,arh k⟩
theorem ale {p_is_leaf:Sp3} {p_leaves_of:Sp3} (B:Bt K P w mg C_Pieces C_TooMany C_OnceError C_BadWeb C_NoTree C_NoWord) (c_is_leaf:z8 P w K mg base m "is_leaf" ["word"] p_is_leaf) (c_leaves_of:z8 P w K mg base m "leaves_of" ["word"] p_leaves_of) {cdv:Value} {A:Around} {outer:List Env} {s:Shared} {H:Hp} {E:XK} (hr:Room m (A.deeper (PyProof.Rows.envOfC "leaves_of" (qa vp) s.heap.objs.size f cdv))):
    QSs (jb CX0 P w K mg base ["word"] "leaves_of" (qa vp) f cdv A outer s H E).nox (qr vp) (afw p_is_leaf p_leaves_of):=by
  have sc:=adv
  have hu:=huK hr
  exact (qe (jt (aa6 (j8 c_is_leaf hr rfl (q9 (qv 0) qd))) (qk (qy (je (q9 (qv 0) qd)))) zn)
    (qk (qy (qp zy (j8 c_leaves_of hr rfl (q9 (z7 (z0 K P w) (qv 0) qg (fun _ _=>rfl)) qd)) (j8 c_leaves_of hr rfl (q9 (z7 (z0 K P w) (qv 0) qg (fun _ _=>rfl)) qd))))))
theorem acv (F:Fun K "leaves_of" "leaves_of" vp f fd) (b:Binds K fd ["word"] []) (mgx:mg "leaves_of" = some (.ref f)) (B:Bt K P w mg C_Pieces C_TooMany C_OnceError C_BadWeb C_NoTree C_NoWord) (c_is_leaf:z8 P w K mg base 1 "is_leaf" ["word"] (js)):∀ k,Fn3 P w K mg base (k+2) f fd ["word"] (xx k)
  | 0=>Fn3.never fun ys L Q h=>al0 ys L Q h
  | k+1=>ok3 F adv (by rintro _ _ _ ⟨_,rfl,_⟩;rfl) fun cdv A outer s H E hr=>⟨_,ale B (c_is_leaf.mono (by omega)) (Cal.of (acv F b mgx B c_is_leaf k) b F.kp mgx) hr,al6 k⟩
theorem aml {p_is_leaf:Sp3} {p_lay_word:Sp3} (B:Bt K P w mg C_Pieces C_TooMany C_OnceError C_BadWeb C_NoTree C_NoWord) (c_is_leaf:z8 P w K mg base m "is_leaf" ["word"] p_is_leaf) (c_lay_word:z8 P w K mg base m "lay_word" ["knots", "word"] p_lay_word) {cdv:Value} {A:Around} {outer:List Env} {s:Shared} {H:Hp} {E:XK} (hr:Room m (A.deeper (PyProof.Rows.envOfC "lay_word" (qa kq) s.heap.objs.size f cdv))):
    QSs (jb CX0 P w K mg base ["knots", "word", "left", "right"] "lay_word" (qa kq) f cdv A outer s H E).nox (qr kq) (ahe p_is_leaf p_lay_word):=by
  have sc:=afq
  have hu:=huK hr
  exact (aey (jt (aa6 (j8 c_is_leaf hr rfl (q9 (qv 1) qd))) (qk (j6 (j5 (qv 0) (q9 (qv 1) qd)))) (qe (qq (i:=2) sc.nd rfl (Or.inl rfl) (j8 c_lay_word hr rfl (q9 (qv 0) (q9 (z7 (z0 K P w) (qv 1) qg (fun _ _=>rfl)) qd))))
    (qe (qq (i:=3) sc.nd rfl (Or.inl rfl) (j8 c_lay_word hr rfl (q9 (qv 0) (q9 (z7 (z0 K P w) (qv 1) qg (fun _ _=>rfl)) qd))))
    (qk (j6 (j5 (qv 0) (q9 (zw (q9 (z7 (z0 K P w) (qv 1) qg (fun _ _=>rfl)) (q9 (qv 2) (q9 (qv 3) qd)))) qd)))))))
    (qk (qy (qp ajx (zb (jq K P w) rfl B.b_len jp (q9 (qv 0) qd)) qg))))
theorem ae2 (F:Fun K "lay_word" "lay_word" kq f fd) (b:Binds K fd ["knots", "word"] []) (mgx:mg "lay_word" = some (.ref f)) (B:Bt K P w mg C_Pieces C_TooMany C_OnceError C_BadWeb C_NoTree C_NoWord) (c_is_leaf:z8 P w K mg base 1 "is_leaf" ["word"] (js)):∀ k,Fn3 P w K mg base (k+2) f fd ["knots", "word"] (vz k)
  | 0=>Fn3.never fun ys L Q h=>amf ys L Q h
  | k+1=>ok3 F afq (by rintro _ _ _ ⟨_,_,_,rfl,_⟩;rfl) fun cdv A outer s H E hr=>⟨_,aml B (c_is_leaf.mono (by omega)) (Cal.of (ae2 F b mgx B c_is_leaf k) b F.kp mgx) hr,anr k⟩
theorem axf {p_lay_word:Sp3} (B:Bt K P w mg C_Pieces C_TooMany C_OnceError C_BadWeb C_NoTree C_NoWord) (c_lay_word:z8 P w K mg base m "lay_word" ["knots", "word"] p_lay_word) {cdv:Value} {A:Around} {outer:List Env} {s:Shared} {H:Hp} {E:XK} (hr:Room m (A.deeper (PyProof.Rows.envOfC "laid" (qa af3) s.heap.objs.size f cdv))):
    QSs (jb CX0 P w K mg base ["words", "knots", "places", "word"] "laid" (qa af3) f cdv A outer s H E).nox (qr af3) (atu p_lay_word):=by
  have sc:=aq7
  have hu:=huK hr
  exact (qe (qq (i:=1) sc.nd rfl (Or.inl rfl) (je qd))
    (qe (qq (i:=2) sc.nd rfl (Or.inl rfl) (je qd))
    (qe (v8 PassesOwn.never rfl (jk (qv 0)) (zk (i:=3) sc.nd rfl (Or.inl rfl)) (qk (j6 (j5 (qv 2) (q9 (j8 c_lay_word hr rfl (q9 (qv 1) (q9 (qv 3) qd))) qd)))))
    (qk (qy (zw (q9 (qv 1) (q9 (qv 2) qd))))))))
theorem aso (F:Fun K "laid" "laid" af3 f fd) (B:Bt K P w mg C_Pieces C_TooMany C_OnceError C_BadWeb C_NoTree C_NoWord) (c_lay_word:z8 P w K mg base 62 "lay_word" ["knots", "word"] (vz 60)):Fn3 P w K mg base 63 f fd ["words"] (aeg):=
  ok3 (k:=62) F aq7 (by rintro _ _ _ ⟨_,_,rfl,_⟩;rfl) fun cdv A outer s H E hr=>⟨_,axf B (c_lay_word.mono (by decide)) hr,avx⟩
theorem aiu (B:Bt K P w mg C_Pieces C_TooMany C_OnceError C_BadWeb C_NoTree C_NoWord) {cdv:Value} {A:Around} {outer:List Env} {s:Shared} {H:Hp} {E:XK} (hr:Room m (A.deeper (PyProof.Rows.envOfC "Pieces.__init__" (qa xh) s.heap.objs.size f cdv))):
    QSs (jb CX0 P w K mg base ["self", "count"] "Pieces.__init__" (qa xh) f cdv A outer s H E).nox (qr xh) (acw K):=by
  have sc:=ac1
  have hu:=huK hr
  exact (qk (awt (qv 0) (aor rfl rfl B.b_list rfl B.b_range (qv 1))))
theorem agi (F:Fun K "__init__" "Pieces.__init__" xh f fd) (B:Bt K P w mg C_Pieces C_TooMany C_OnceError C_BadWeb C_NoTree C_NoWord) (xf:L3.XF7 K C_Pieces C_OnceError C_TooMany C_BadWeb C_NoTree C_NoWord):Fn3 P w K mg base 1 f fd ["self", "count"] (ac4 C_Pieces):=
  ok3 (k:=0) F ac1 (by rintro _ _ _ ⟨_,_,_,rfl,_⟩;rfl) fun cdv A outer s H E hr=>⟨_,aiu B hr,avd xf.p⟩
theorem aeb (B:Bt K P w mg C_Pieces C_TooMany C_OnceError C_BadWeb C_NoTree C_NoWord) {cdv:Value} {A:Around} {outer:List Env} {s:Shared} {H:Hp} {E:XK} (hr:Room m (A.deeper (PyProof.Rows.envOfC "Pieces.head_of" (qa ji) s.heap.objs.size f cdv))):
    QSs (jb CX0 P w K mg base ["self", "place", "here"] "Pieces.head_of" (qa ji) f cdv A outer s H E).nox (qr ji) (aap K):=by
  have sc:=aah
  have hu:=huK hr
  exact (qe (qq (i:=2) sc.nd rfl (Or.inl rfl) (qv 1))
    (qe (adk PassesOwn.never (zm (aec K P w hu) (z7 (z0 K P w) (aeu (qv 0)) (qv 2) (fun _ _=>rfl)) (qv 2) (zh _)) (qe (apd (aeu (qv 0)) (qv 2) (z7 (z0 K P w) (aeu (qv 0)) (z7 (z0 K P w) (aeu (qv 0)) (qv 2) (fun _ _=>rfl)) (fun _ _=>rfl)))
    (qk (qq (i:=2) sc.nd rfl (Or.inl rfl) (z7 (z0 K P w) (aeu (qv 0)) (qv 2) (fun _ _=>rfl))))))
    (qk (qy (qv 2)))))
theorem ada (F:Fun K "head_of" "Pieces.head_of" ji f fd) (B:Bt K P w mg C_Pieces C_TooMany C_OnceError C_BadWeb C_NoTree C_NoWord) (xf:L3.XF7 K C_Pieces C_OnceError C_TooMany C_BadWeb C_NoTree C_NoWord):Fn3 P w K mg base 1 f fd ["self", "place"] (ab2 C_Pieces):=
  ok3 (k:=0) F aah (by rintro _ _ _ ⟨_,_,_,_,_,_,rfl,_⟩;rfl) fun cdv A outer s H E hr=>⟨_,aeb B hr,ay1 xf.p⟩
theorem agm {p_Pieces_head_of:Sp3} (B:Bt K P w mg C_Pieces C_TooMany C_OnceError C_BadWeb C_NoTree C_NoWord) (c_Pieces_head_of:CalM P w K mg base m C_Pieces "head_of" ["self", "place"] p_Pieces_head_of) {cdv:Value} {A:Around} {outer:List Env} {s:Shared} {H:Hp} {E:XK} (hr:Room m (A.deeper (PyProof.Rows.envOfC "Pieces.unite" (qa x6) s.heap.objs.size f cdv))):
    QSs (jb CX0 P w K mg base ["self", "p", "q", "first", "second"] "Pieces.unite" (qa x6) f cdv A outer s H E).nox (qr x6) (ac5 K C_Pieces p_Pieces_head_of):=by
  have sc:=abe
  have hu:=huK hr
  exact (qe (qq (i:=3) sc.nd rfl (Or.inl rfl) (ary c_Pieces_head_of hr B.cl_Pieces (qv 0) (q9 (qv 1) qd)))
    (qe (qq (i:=4) sc.nd rfl (Or.inl rfl) (ary c_Pieces_head_of hr B.cl_Pieces (qv 0) (q9 (qv 2) qd)))
    (qe (apd (aeu (qv 0)) (qv 3) (qv 4))
    (qk (qy (ki (aec K P w hu) (qv 3) (qv 4) (zh _)))))))
theorem afd (F:Fun K "unite" "Pieces.unite" x6 f fd) (B:Bt K P w mg C_Pieces C_TooMany C_OnceError C_BadWeb C_NoTree C_NoWord) (c_Pieces_head_of:CalM P w K mg base 1 C_Pieces "head_of" ["self", "place"] (ab2 C_Pieces)) (xf:L3.XF7 K C_Pieces C_OnceError C_TooMany C_BadWeb C_NoTree C_NoWord):Fn3 P w K mg base 2 f fd ["self", "p", "q"] (aa1 C_Pieces):=
  ok3 (k:=1) F abe (by rintro _ _ _ ⟨_,_,_,_,_,_,_,_,_,rfl,_⟩;rfl) fun cdv A outer s H E hr=>⟨_,agm B (c_Pieces_head_of.mono (by decide)) hr,ave xf.p⟩
theorem age (B:Bt K P w mg C_Pieces C_TooMany C_OnceError C_BadWeb C_NoTree C_NoWord) {cdv:Value} {A:Around} {outer:List Env} {s:Shared} {H:Hp} {E:XK} (hr:Room m (A.deeper (PyProof.Rows.envOfC "places_there" (qa jw) s.heap.objs.size f cdv))):
    QSs (jb CX0 P w K mg base ["knots"] "places_there" (qa jw) f cdv A outer s H E).nox (qr jw) ac0:=by
  have sc:=abc
  have hu:=huK hr
  exact (qk (qy (aii ["place", "knot"] (compOk.mk (by rfl)) rfl (acj rfl B.b_enumerate (qv 0)) (aks rfl (by show List.Nodup (["knots", "place", "knot"]:List Str);decide +kernel) (fun _ _ _ _=>rfl) (fun _ _ _ _=>rfl)) (fun _ _ _ _=>ahq (acm (qv 2))) (fun _ _ _ _=>(qv 1)))))
theorem afg (F:Fun K "places_there" "places_there" jw f fd) (B:Bt K P w mg C_Pieces C_TooMany C_OnceError C_BadWeb C_NoTree C_NoWord):Fn3 P w K mg base 1 f fd ["knots"] (aao):=
  ok3 (k:=0) F abc (by rintro _ _ _ ⟨_,_,rfl,_⟩;rfl) fun cdv A outer s H E hr=>⟨_,age B hr,atq⟩
theorem an3 {p_is_leaf:Sp3} (B:Bt K P w mg C_Pieces C_TooMany C_OnceError C_BadWeb C_NoTree C_NoWord) (c_is_leaf:z8 P w K mg base m "is_leaf" ["word"] p_is_leaf) {cdv:Value} {A:Around} {outer:List Env} {s:Shared} {H:Hp} {E:XK} (hr:Room m (A.deeper (PyProof.Rows.envOfC "parts_of" (qa kz) s.heap.objs.size f cdv))):
    QSs (jb CX0 P w K mg base ["knot"] "parts_of" (qa kz) f cdv A outer s H E).nox (qr kz) (ai3 p_is_leaf):=by
  have sc:=ag6
  have hu:=huK hr
  exact (qe (jt (ami (ayc (aug (qv 0)) (as4 (aa6 (j8 c_is_leaf hr rfl (q9 (qv 0) qd)))))) (qk (qy (je qd))) zn)
    (qk (qy (je (q9 (z7 (z0 K P w) (qv 0) qg (fun _ _=>rfl)) (q9 (z7 (z0 K P w) (qv 0) qg (fun _ _=>rfl)) qd))))))
theorem alp (F:Fun K "parts_of" "parts_of" kz f fd) (B:Bt K P w mg C_Pieces C_TooMany C_OnceError C_BadWeb C_NoTree C_NoWord) (c_is_leaf:z8 P w K mg base 1 "is_leaf" ["word"] (js)):Fn3 P w K mg base 2 f fd ["knot"] (aak):=
  ok3 (k:=1) F ag6 (by rintro _ _ _ ⟨_,rfl,_⟩;rfl) fun cdv A outer s H E hr=>⟨_,an3 B (c_is_leaf.mono (by decide)) hr,aud⟩
theorem al4 (B:Bt K P w mg C_Pieces C_TooMany C_OnceError C_BadWeb C_NoTree C_NoWord) {cdv:Value} {A:Around} {outer:List Env} {s:Shared} {H:Hp} {E:XK} (hr:Room m (A.deeper (PyProof.Rows.envOfC "places_in" (qa k7) s.heap.objs.size f cdv))):
    QSs (jb CX0 P w K mg base ["pairs", "places", "p", "q"] "places_in" (qa k7) f cdv A outer s H E).nox (qr k7) afz:=by
  have sc:=adq
  have hu:=huK hr
  exact (qe (qq (i:=1) sc.nd rfl (Or.inl rfl) (je qd))
    (qe (v8 PassesOwn.never rfl (jk (qv 0)) (abq rfl (jc (zk (i:=2) sc.nd rfl (Or.inl rfl)) (jc (zk (i:=3) sc.nd rfl (Or.inl rfl)) aag))) (qe (j6 (j5 (qv 1) (q9 (qv 2) qd)))
    (qk (j6 (j5 (qv 1) (q9 (qv 3) qd))))))
    (qk (qy (qv 1)))))
theorem aj2 (F:Fun K "places_in" "places_in" k7 f fd) (B:Bt K P w mg C_Pieces C_TooMany C_OnceError C_BadWeb C_NoTree C_NoWord):Fn3 P w K mg base 1 f fd ["pairs"] (agv):=
  ok3 (k:=0) F adq (by rintro _ _ _ ⟨_,_,rfl,_⟩;rfl) fun cdv A outer s H E hr=>⟨_,al4 B hr,avn⟩
theorem ajc (B:Bt K P w mg C_Pieces C_TooMany C_OnceError C_BadWeb C_NoTree C_NoWord) {cdv:Value} {A:Around} {outer:List Env} {s:Shared} {H:Hp} {E:XK} (hr:Room m (A.deeper (PyProof.Rows.envOfC "eithers_of" (qa xw) s.heap.objs.size f cdv))):
    QSs (jb CX0 P w K mg base ["web"] "eithers_of" (qa xw) f cdv A outer s H E).nox (qr xw) adh:=by
  have sc:=ad1
  have hu:=huK hr
  exact (qk (qy (aii ["place", "knot"] (compOk.mk (by rfl)) rfl (acj rfl B.b_enumerate (z7 (z0 K P w) (qv 0) qg (fun _ _=>rfl))) (aks rfl (by show List.Nodup (["web", "place", "knot"]:List Str);decide +kernel) (fun _ _ _ _=>rfl) (fun _ _ _ _=>rfl)) (fun _ _ _ _=>ahq (ami (aoh (acm (qv 2)) (ako (zm (wg K P w hu) (z7 (z0 K P w) (qv 2) qg (fun _ _=>rfl)) zq (zh _)))))) (fun _ _ _ _=>(qv 1)))))
theorem aib (F:Fun K "eithers_of" "eithers_of" xw f fd) (B:Bt K P w mg C_Pieces C_TooMany C_OnceError C_BadWeb C_NoTree C_NoWord):Fn3 P w K mg base 1 f fd ["web"] (ab0):=
  ok3 (k:=0) F ad1 (by rintro _ _ _ ⟨_,_,_,_,rfl,_⟩;rfl) fun cdv A outer s H E hr=>⟨_,ajc B hr,asl⟩
theorem anj {p_places_there:Sp3} (B:Bt K P w mg C_Pieces C_TooMany C_OnceError C_BadWeb C_NoTree C_NoWord) (c_places_there:z8 P w K mg base m "places_there" ["knots"] p_places_there) {cdv:Value} {A:Around} {outer:List Env} {s:Shared} {H:Hp} {E:XK} (hr:Room m (A.deeper (PyProof.Rows.envOfC "boths_of" (qa kr) s.heap.objs.size f cdv))):
    QSs (jb CX0 P w K mg base ["web"] "boths_of" (qa kr) f cdv A outer s H E).nox (qr kr) (ahz p_places_there):=by
  have sc:=afp
  have hu:=huK hr
  exact (qk (qy (aii ["place"] (compOk.mk (by rfl)) rfl (jk (j8 c_places_there hr rfl (q9 (z7 (z0 K P w) (qv 0) qg (fun _ _=>rfl)) qd))) (aat (by show List.Nodup (["web", "place"]:List Str);decide +kernel) (fun _ _ _ _=>Or.inl rfl) (fun _ _ _ _=>rfl)) (fun _ _ _ _=>ahq (zm (wg K P w hu) (z7 (z0 K P w) (z7 (z0 K P w) (z7 (z0 K P w) (qv 0) qg (fun _ _=>rfl)) (qv 1) (fun _ _=>rfl)) qg (fun _ _=>rfl)) zq (zh _))) (fun _ _ _ _=>(qv 1)))))
theorem al9 (F:Fun K "boths_of" "boths_of" kr f fd) (B:Bt K P w mg C_Pieces C_TooMany C_OnceError C_BadWeb C_NoTree C_NoWord) (c_places_there:z8 P w K mg base 1 "places_there" ["knots"] (aao)):Fn3 P w K mg base 2 f fd ["web"] (aeo):=
  ok3 (k:=1) F afp (by rintro _ _ _ ⟨_,_,_,_,rfl,_⟩;rfl) fun cdv A outer s H E hr=>⟨_,anj B (c_places_there.mono (by decide)) hr,av4⟩
theorem aix {p_parts_of:Sp3} (B:Bt K P w mg C_Pieces C_TooMany C_OnceError C_BadWeb C_NoTree C_NoWord) (c_parts_of:z8 P w K mg base m "parts_of" ["knot"] p_parts_of) {cdv:Value} {A:Around} {outer:List Env} {s:Shared} {H:Hp} {E:XK} (hr:Room m (A.deeper (PyProof.Rows.envOfC "part_edges" (qa xz) s.heap.objs.size f cdv))):
    QSs (jb CX0 P w K mg base ["knots", "places", "edges", "place"] "part_edges" (qa xz) f cdv A outer s H E).nox (qr xz) (adr p_parts_of):=by
  have sc:=acz
  have hu:=huK hr
  exact (qe (qq (i:=2) sc.nd rfl (Or.inl rfl) (je qd))
    (qe (v8 PassesOwn.never rfl (jk (qv 1)) (zk (i:=3) sc.nd rfl (Or.inr rfl)) (qk (j6 (ajf (qv 2) (q9 (aii ["part"] (compOk.mk (by rfl)) rfl (jk (j8 c_parts_of hr rfl (q9 (z7 (z0 K P w) (qv 0) (qv 3) (fun _ _=>rfl)) qd))) (aat (by show List.Nodup (["knots", "places", "edges", "place", "part"]:List Str);decide +kernel) (fun _ _ _ _=>Or.inl rfl) (fun _ _ _ _=>rfl)) (fun _ _ _ _=>alb) (fun _ _ _ _=>(zw (q9 (qv 3) (q9 (qv 4) qd))))) qd)))))
    (qk (qy (qv 2)))))
theorem ah9 (F:Fun K "part_edges" "part_edges" xz f fd) (B:Bt K P w mg C_Pieces C_TooMany C_OnceError C_BadWeb C_NoTree C_NoWord) (c_parts_of:z8 P w K mg base 2 "parts_of" ["knot"] (aak)):Fn3 P w K mg base 3 f fd ["knots", "places"] (acf):=
  ok3 (k:=2) F acz (by rintro _ _ _ ⟨_,_,_,_,rfl,_⟩;rfl) fun cdv A outer s H E hr=>⟨_,aix B (c_parts_of.mono (by decide)) hr,art⟩
theorem am4 {p_part_edges:Sp3} {p_boths_of:Sp3} (B:Bt K P w mg C_Pieces C_TooMany C_OnceError C_BadWeb C_NoTree C_NoWord) (c_part_edges:z8 P w K mg base m "part_edges" ["knots", "places"] p_part_edges) (c_boths_of:z8 P w K mg base m "boths_of" ["web"] p_boths_of) {cdv:Value} {A:Around} {outer:List Env} {s:Shared} {H:Hp} {E:XK} (hr:Room m (A.deeper (PyProof.Rows.envOfC "joins_of" (qa w5) s.heap.objs.size f cdv))):
    QSs (jb CX0 P w K mg base ["web"] "joins_of" (qa w5) f cdv A outer s H E).nox (qr w5) (aig p_part_edges p_boths_of):=by
  have sc:=ag9
  have hu:=huK hr
  exact (qk (qy (qp zy (qp zy (z7 (z0 K P w) (qv 0) qg (fun _ _=>rfl)) (z7 (z0 K P w) (qv 0) qg (fun _ _=>rfl))) (j8 c_part_edges hr rfl (q9 (z7 (z0 K P w) (qv 0) qg (fun _ _=>rfl)) (q9 (j8 c_boths_of hr rfl (q9 (qv 0) qd)) qd))))))
theorem akv (F:Fun K "joins_of" "joins_of" w5 f fd) (B:Bt K P w mg C_Pieces C_TooMany C_OnceError C_BadWeb C_NoTree C_NoWord) (c_part_edges:z8 P w K mg base 3 "part_edges" ["knots", "places"] (acf)) (c_boths_of:z8 P w K mg base 2 "boths_of" ["web"] (aeo)):Fn3 P w K mg base 4 f fd ["web"] (aar):=
  ok3 (k:=3) F ag9 (by rintro _ _ _ ⟨_,_,_,_,_,_,rfl,_⟩;rfl) fun cdv A outer s H E hr=>⟨_,am4 B (c_part_edges.mono (by decide)) (c_boths_of.mono (by decide)) hr,ato⟩
theorem aiv {p_Pieces_unite:Sp3} (B:Bt K P w mg C_Pieces C_TooMany C_OnceError C_BadWeb C_NoTree C_NoWord) (c_Pieces_unite:CalM P w K mg base m C_Pieces "unite" ["self", "p", "q"] p_Pieces_unite) {cdv:Value} {A:Around} {outer:List Env} {s:Shared} {H:Hp} {E:XK} (hr:Room m (A.deeper (PyProof.Rows.envOfC "join_steps" (qa xt) s.heap.objs.size f cdv))):
    QSs (jb CX0 P w K mg base ["pieces", "joins", "steps", "p", "q"] "join_steps" (qa xt) f cdv A outer s H E).nox (qr xt) (aee C_Pieces p_Pieces_unite):=by
  have sc:=acx
  have hu:=huK hr
  exact (qe (qq (i:=2) sc.nd rfl (Or.inl rfl) (je qd))
    (qe (v8 PassesOwn.never rfl (jk (qv 1)) (abq rfl (jc (zk (i:=3) sc.nd rfl (Or.inl rfl)) (jc (zk (i:=4) sc.nd rfl (Or.inl rfl)) aag))) (qk (jt (aa6 (ary c_Pieces_unite hr B.cl_Pieces (qv 0) (q9 (qv 3) (q9 (qv 4) qd)))) (qk (j6 (j5 (qv 2) (q9 (zw (q9 zq (q9 (qv 3) (q9 (qv 4) qd)))) qd)))) zn)))
    (qk (qy (qv 2)))))
theorem ai6 (F:Fun K "join_steps" "join_steps" xt f fd) (B:Bt K P w mg C_Pieces C_TooMany C_OnceError C_BadWeb C_NoTree C_NoWord) (c_Pieces_unite:CalM P w K mg base 2 C_Pieces "unite" ["self", "p", "q"] (aa1 C_Pieces)):Fn3 P w K mg base 3 f fd ["pieces", "joins"] (ach C_Pieces):=
  ok3 (k:=2) F acx (by rintro _ _ _ ⟨_,_,_,_,_,rfl,_⟩;rfl) fun cdv A outer s H E hr=>⟨_,aiv B (c_Pieces_unite.mono (by decide)) hr,aqd⟩
theorem amc {p_parts_of:Sp3} {p_Pieces_head_of:Sp3} (B:Bt K P w mg C_Pieces C_TooMany C_OnceError C_BadWeb C_NoTree C_NoWord) (c_parts_of:z8 P w K mg base m "parts_of" ["knot"] p_parts_of) (c_Pieces_head_of:CalM P w K mg base m C_Pieces "head_of" ["self", "place"] p_Pieces_head_of) {cdv:Value} {A:Around} {outer:List Env} {s:Shared} {H:Hp} {E:XK} (hr:Room m (A.deeper (PyProof.Rows.envOfC "can_fold" (qa ko) s.heap.objs.size f cdv))):
    QSs (jb CX0 P w K mg base ["pieces", "knots", "place", "heads"] "can_fold" (qa ko) f cdv A outer s H E).nox (qr ko) (aih C_Pieces p_parts_of p_Pieces_head_of):=by
  have sc:=afx
  have hu:=huK hr
  exact (qe (an7 ["part"] (i:=3) sc.nd rfl (Or.inl rfl) (compOk.mk (by rfl)) rfl (jk (j8 c_parts_of hr rfl (q9 (z7 (z0 K P w) (qv 1) (qv 2) (fun _ _=>rfl)) qd))) (aat (by show List.Nodup (["pieces", "knots", "place", "heads", "part"]:List Str);decide +kernel) (fun _ _ _ _=>Or.inl rfl) (fun _ _ _ _=>rfl)) (fun _ _ _ _=>alb) (fun _ _ _ _=>(ary c_Pieces_head_of hr B.cl_Pieces (qv 0) (q9 (qv 4) qd))))
    (qk (qy (adf (ki (wg K P w hu) (z7 (z0 K P w) (qv 3) qg (fun _ _=>rfl)) (z7 (z0 K P w) (qv 3) qg (fun _ _=>rfl)) (zh _)) (ad9 (ki (aec K P w hu) (z7 (z0 K P w) (qv 3) qg (fun _ _=>rfl)) (ary c_Pieces_head_of hr B.cl_Pieces (qv 0) (q9 (qv 2) qd)) (zh _)))))))
theorem aki (F:Fun K "can_fold" "can_fold" ko f fd) (B:Bt K P w mg C_Pieces C_TooMany C_OnceError C_BadWeb C_NoTree C_NoWord) (c_parts_of:z8 P w K mg base 2 "parts_of" ["knot"] (aak)) (c_Pieces_head_of:CalM P w K mg base 1 C_Pieces "head_of" ["self", "place"] (ab2 C_Pieces)):Fn3 P w K mg base 3 f fd ["pieces", "knots", "place"] (aek C_Pieces):=
  ok3 (k:=2) F afx (by rintro _ _ _ ⟨_,_,_,_,_,_,_,_,_,_,rfl,_⟩;rfl) fun cdv A outer s H E hr=>⟨_,amc B (c_parts_of.mono (by decide)) (c_Pieces_head_of.mono (by decide)) hr,avh⟩
theorem aja {p_can_fold:Sp3} {p_Pieces_unite:Sp3} (B:Bt K P w mg C_Pieces C_TooMany C_OnceError C_BadWeb C_NoTree C_NoWord) (c_can_fold:z8 P w K mg base m "can_fold" ["pieces", "knots", "place"] p_can_fold) (c_Pieces_unite:CalM P w K mg base m C_Pieces "unite" ["self", "p", "q"] p_Pieces_unite) {cdv:Value} {A:Around} {outer:List Env} {s:Shared} {H:Hp} {E:XK} (hr:Room m (A.deeper (PyProof.Rows.envOfC "fold_steps" (qa xq) s.heap.objs.size f cdv))):
    QSs (jb CX0 P w K mg base ["pieces", "knots", "eithers", "steps", "before", "place"] "fold_steps" (qa xq) f cdv A outer s H E).nox (qr xq) (ae8 C_Pieces p_can_fold p_Pieces_unite):=by
  have sc:=acy
  have hu:=huK hr
  exact (qe (qq (i:=3) sc.nd rfl (Or.inl rfl) (je qd))
    (qe (qq (i:=4) sc.nd rfl (Or.inl rfl) (ayt az6 qg))
    (qe (adk PassesOwn.never (zm a3x (qv 4) (zb (jq K P w) rfl B.b_len jp (q9 (qv 3) qd)) (zh _)) (qe (qq (i:=4) sc.nd rfl (Or.inl rfl) (zb (jq K P w) rfl B.b_len jp (q9 (qv 3) qd)))
    (qk (v8 PassesOwn.never rfl (jk (qv 2)) (zk (i:=5) sc.nd rfl (Or.inl rfl)) (qk (jt (aa6 (j8 c_can_fold hr rfl (q9 (qv 0) (q9 (qv 1) (q9 (qv 5) qd))))) (qe (j6 (ary c_Pieces_unite hr B.cl_Pieces (qv 0) (q9 (qv 5) (q9 (z7 (z0 K P w) (z7 (z0 K P w) (qv 1) (qv 5) (fun _ _=>rfl)) qg (fun _ _=>rfl)) qd))))
    (qk (j6 (j5 (qv 3) (q9 (zw (q9 zq (q9 (qv 5) qd))) qd))))) zn))))))
    (qk (qy (qv 3))))))
theorem aho (F:Fun K "fold_steps" "fold_steps" xq f fd) (B:Bt K P w mg C_Pieces C_TooMany C_OnceError C_BadWeb C_NoTree C_NoWord) (c_can_fold:z8 P w K mg base 3 "can_fold" ["pieces", "knots", "place"] (aek C_Pieces)) (c_Pieces_unite:CalM P w K mg base 2 C_Pieces "unite" ["self", "p", "q"] (aa1 C_Pieces)):Fn3 P w K mg base 4 f fd ["pieces", "knots", "eithers"] (acd C_Pieces):=
  ok3 (k:=3) F acy (by rintro _ _ _ ⟨_,_,_,_,_,_,_,rfl,_⟩;rfl) fun cdv A outer s H E hr=>⟨_,aja B (c_can_fold.mono (by decide)) (c_Pieces_unite.mono (by decide)) hr,aqf⟩
theorem am3 {p_Pieces_init:Sp3} {p_join_steps:Sp3} {p_fold_steps:Sp3} (B:Bt K P w mg C_Pieces C_TooMany C_OnceError C_BadWeb C_NoTree C_NoWord) (c_Pieces_init:CalI P w K mg base m C_Pieces ["self", "count"] p_Pieces_init) (c_join_steps:z8 P w K mg base m "join_steps" ["pieces", "joins"] p_join_steps) (c_fold_steps:z8 P w K mg base m "fold_steps" ["pieces", "knots", "eithers"] p_fold_steps) {cdv:Value} {A:Around} {outer:List Env} {s:Shared} {H:Hp} {E:XK} (hr:Room m (A.deeper (PyProof.Rows.envOfC "steps_by" (qa ky) s.heap.objs.size f cdv))):
    QSs (jb CX0 P w K mg base ["knots", "joins", "eithers", "pieces"] "steps_by" (qa ky) f cdv A outer s H E).nox (qr ky) (aij C_Pieces p_Pieces_init p_join_steps p_fold_steps):=by
  have sc:=agc
  have hu:=huK hr
  exact (qe (qq (i:=3) sc.nd rfl (Or.inl rfl) (a3z c_Pieces_init hr rfl B.m_Pieces (q9 (zb (jq K P w) rfl B.b_len jp (q9 (qv 0) qd)) qd)))
    (qk (qy (qp zy (j8 c_join_steps hr rfl (q9 (qv 3) (q9 (qv 1) qd))) (j8 c_fold_steps hr rfl (q9 (qv 3) (q9 (qv 0) (q9 (qv 2) qd))))))))
theorem akd (F:Fun K "steps_by" "steps_by" ky f fd) (B:Bt K P w mg C_Pieces C_TooMany C_OnceError C_BadWeb C_NoTree C_NoWord) (c_Pieces_init:CalI P w K mg base 2 C_Pieces ["self", "count"] (ac4 C_Pieces)) (c_join_steps:z8 P w K mg base 3 "join_steps" ["pieces", "joins"] (ach C_Pieces)) (c_fold_steps:z8 P w K mg base 4 "fold_steps" ["pieces", "knots", "eithers"] (acd C_Pieces)):Fn3 P w K mg base 5 f fd ["knots", "joins", "eithers"] (ab5 C_Pieces):=
  ok3 (k:=4) F agc (by rintro _ _ _ ⟨_,_,_,_,_,_,rfl,_⟩;rfl) fun cdv A outer s H E hr=>⟨_,am3 B (c_Pieces_init.mono (by decide)) (c_join_steps.mono (by decide)) (c_fold_steps.mono (by decide)) hr,ao3⟩
theorem abt {p_places_there:Sp3} {p_steps_by:Sp3} (B:Bt K P w mg C_Pieces C_TooMany C_OnceError C_BadWeb C_NoTree C_NoWord) (c_places_there:z8 P w K mg base m "places_there" ["knots"] p_places_there) (c_steps_by:z8 P w K mg base m "steps_by" ["knots", "joins", "eithers"] p_steps_by) {cdv:Value} {A:Around} {outer:List Env} {s:Shared} {H:Hp} {E:XK} (hr:Room m (A.deeper (PyProof.Rows.envOfC "all_come_together" (qa zu) s.heap.objs.size f cdv))):
    QSs (jb CX0 P w K mg base ["knots", "joins", "eithers", "due"] "all_come_together" (qa zu) f cdv A outer s H E).nox (qr zu) (wo p_places_there p_steps_by):=by
  have sc:=wb
  have hu:=huK hr
  exact (qe (qq (i:=3) sc.nd rfl (Or.inl rfl) (qp ajx (zb (jq K P w) rfl B.b_len jp (q9 (j8 c_places_there hr rfl (q9 (qv 0) qd)) qd)) qg))
    (qk (qy (adf (ki (wg K P w hu) (qp zy (zb (jq K P w) rfl B.b_len jp (q9 (qv 1) qd)) (zb (jq K P w) rfl B.b_len jp (q9 (qv 2) qd))) (qv 3) (zh _)) (ad9 (ki (wg K P w hu) (zb (jq K P w) rfl B.b_len jp (q9 (j8 c_steps_by hr rfl (q9 (qv 0) (q9 (qv 1) (q9 (qv 2) qd)))) qd)) (qv 3) (zh _)))))))
theorem abk (F:Fun K "all_come_together" "all_come_together" zu f fd) (B:Bt K P w mg C_Pieces C_TooMany C_OnceError C_BadWeb C_NoTree C_NoWord) (c_places_there:z8 P w K mg base 1 "places_there" ["knots"] (aao)) (c_steps_by:z8 P w K mg base 5 "steps_by" ["knots", "joins", "eithers"] (ab5 C_Pieces)):Fn3 P w K mg base 6 f fd ["knots", "joins", "eithers"] (af5):=
  ok3 (k:=5) F wb (by rintro _ _ _ ⟨_,_,_,_,_,_,rfl,_⟩;rfl) fun cdv A outer s H E hr=>⟨_,abt B (c_places_there.mono (by decide)) (c_steps_by.mono (by decide)) hr,azr⟩
theorem akw {p_all_come_together:Sp3} {p_eithers_of:Sp3} {p_joins_of:Sp3} (B:Bt K P w mg C_Pieces C_TooMany C_OnceError C_BadWeb C_NoTree C_NoWord) (c_all_come_together:z8 P w K mg base m "all_come_together" ["knots", "joins", "eithers"] p_all_come_together) (c_eithers_of:z8 P w K mg base m "eithers_of" ["web"] p_eithers_of) (c_joins_of:z8 P w K mg base m "joins_of" ["web"] p_joins_of) {cdv:Value} {A:Around} {outer:List Env} {s:Shared} {H:Hp} {E:XK} (hr:Room m (A.deeper (PyProof.Rows.envOfC "right_web" (qa vq) s.heap.objs.size f cdv))):
    QSs (jb CX0 P w K mg base ["web"] "right_web" (qa vq) f cdv A outer s H E).nox (qr vq) (agb p_all_come_together p_eithers_of p_joins_of):=by
  have sc:=aep
  have hu:=huK hr
  exact (qk (qy (j8 c_all_come_together hr rfl (q9 (z7 (z0 K P w) (qv 0) qg (fun _ _=>rfl)) (q9 (j8 c_joins_of hr rfl (q9 (qv 0) qd)) (q9 (j8 c_eithers_of hr rfl (q9 (qv 0) qd)) qd))))))
theorem aj5 (F:Fun K "right_web" "right_web" vq f fd) (B:Bt K P w mg C_Pieces C_TooMany C_OnceError C_BadWeb C_NoTree C_NoWord) (c_all_come_together:z8 P w K mg base 6 "all_come_together" ["knots", "joins", "eithers"] (af5)) (c_eithers_of:z8 P w K mg base 1 "eithers_of" ["web"] (ab0)) (c_joins_of:z8 P w K mg base 4 "joins_of" ["web"] (aar)):Fn3 P w K mg base 7 f fd ["web"] (aeh):=
  ok3 (k:=6) F aep (by rintro _ _ _ ⟨_,_,_,_,_,_,rfl,_⟩;rfl) fun cdv A outer s H E hr=>⟨_,akw B (c_all_come_together.mono (by decide)) (c_eithers_of.mono (by decide)) (c_joins_of.mono (by decide)) hr,as3⟩
theorem al1 {p_right_web:Sp3} {p_joins_of:Sp3} {p_eithers_of:Sp3} {p_all_come_together:Sp3} (B:Bt K P w mg C_Pieces C_TooMany C_OnceError C_BadWeb C_NoTree C_NoWord) (c_right_web:z8 P w K mg base m "right_web" ["web"] p_right_web) (c_joins_of:z8 P w K mg base m "joins_of" ["web"] p_joins_of) (c_eithers_of:z8 P w K mg base m "eithers_of" ["web"] p_eithers_of) (c_all_come_together:z8 P w K mg base m "all_come_together" ["knots", "joins", "eithers"] p_all_come_together) {cdv:Value} {A:Around} {outer:List Env} {s:Shared} {H:Hp} {E:XK} (hr:Room m (A.deeper (PyProof.Rows.envOfC "first_bad" (qa k6) s.heap.objs.size f cdv))):
    QSs (jb CX0 P w K mg base ["web", "knots", "joins", "eithers", "choices", "number", "place", "left", "choice"] "first_bad" (qa k6) f cdv A outer s H E).nox (qr k6) (aft p_right_web p_joins_of p_eithers_of p_all_come_together):=by
  have sc:=adi
  have hu:=huK hr
  exact (qe (jt (aa6 (j8 c_right_web hr rfl (q9 (qv 0) qd))) (qk (qy aie)) zn)
    (qe (qq (i:=1) sc.nd rfl (Or.inl rfl) (z7 (z0 K P w) (qv 0) qg (fun _ _=>rfl)))
    (qe (qq (i:=2) sc.nd rfl (Or.inl rfl) (j8 c_joins_of hr rfl (q9 (qv 0) qd)))
    (qe (qq (i:=3) sc.nd rfl (Or.inl rfl) (j8 c_eithers_of hr rfl (q9 (qv 0) qd)))
    (qe (qq (i:=4) sc.nd rfl (Or.inl rfl) (je qd))
    (qe (v8 PassesOwn.never rfl (acj rfl B.b_enumerate (qv 3)) (abq rfl (jc (zk (i:=5) sc.nd rfl (Or.inl rfl)) (jc (zk (i:=6) sc.nd rfl (Or.inl rfl)) aag))) (qe (qq (i:=7) sc.nd rfl (Or.inl rfl) (zw (q9 (qv 6) (q9 (z7 (z0 K P w) (z7 (z0 K P w) (qv 1) (qv 6) (fun _ _=>rfl)) qg (fun _ _=>rfl)) qd))))
    (qe (qq (i:=8) sc.nd rfl (Or.inl rfl) (an9 (aa6 (j8 c_all_come_together hr rfl (q9 (qv 1) (q9 (qp zy (qv 2) (je (q9 (qv 7) qd))) (q9 (aa4 (ai0 K P w) (qv 3) (ww (qp zy (qv 5) qg)) aei) qd))))) qg qg))
    (qe (j6 (j5 (qv 4) (q9 (qv 8) qd)))
    (qk (j6 (j5 (qv 2) (q9 (zw (q9 (qv 6) (q9 (z7 (z0 K P w) (z7 (z0 K P w) (qv 1) (qv 6) (fun _ _=>rfl)) (qp zy qg (qv 8)) (fun _ _=>rfl)) qd))) qd))))))))
    (qk (qy (qv 4)))))))))
theorem aiz (F:Fun K "first_bad" "first_bad" k6 f fd) (B:Bt K P w mg C_Pieces C_TooMany C_OnceError C_BadWeb C_NoTree C_NoWord) (c_right_web:z8 P w K mg base 7 "right_web" ["web"] (aeh)) (c_joins_of:z8 P w K mg base 4 "joins_of" ["web"] (aar)) (c_eithers_of:z8 P w K mg base 1 "eithers_of" ["web"] (ab0)) (c_all_come_together:z8 P w K mg base 6 "all_come_together" ["knots", "joins", "eithers"] (af5)):Fn3 P w K mg base 8 f fd ["web"] (ah3):=
  ok3 (k:=7) F adi (by rintro _ _ _ ⟨_,_,_,_,_,_,rfl,_⟩;rfl) fun cdv A outer s H E hr=>⟨_,al1 B (c_right_web.mono (by decide)) (c_joins_of.mono (by decide)) (c_eithers_of.mono (by decide)) (c_all_come_together.mono (by decide)) hr,axn⟩
theorem akf {p_leaves_of:Sp3} (B:Bt K P w mg C_Pieces C_TooMany C_OnceError C_BadWeb C_NoTree C_NoWord) (c_leaves_of:z8 P w K mg base m "leaves_of" ["word"] p_leaves_of) {cdv:Value} {A:Around} {outer:List Env} {s:Shared} {H:Hp} {E:XK} (hr:Room m (A.deeper (PyProof.Rows.envOfC "leaves_in" (qa vn) s.heap.objs.size f cdv))):
    QSs (jb CX0 P w K mg base ["words", "leaves", "word"] "leaves_in" (qa vn) f cdv A outer s H E).nox (qr vn) (afs p_leaves_of):=by
  have sc:=ae5
  have hu:=huK hr
  exact (qe (qq (i:=1) sc.nd rfl (Or.inl rfl) (je qd))
    (qe (v8 PassesOwn.never rfl (jk (qv 0)) (zk (i:=2) sc.nd rfl (Or.inl rfl)) (qk (j6 (ajf (qv 1) (q9 (j8 c_leaves_of hr rfl (q9 (qv 2) qd)) qd)))))
    (qk (qy (qv 1)))))
theorem aj7 (F:Fun K "leaves_in" "leaves_in" vn f fd) (B:Bt K P w mg C_Pieces C_TooMany C_OnceError C_BadWeb C_NoTree C_NoWord) (c_leaves_of:z8 P w K mg base 65 "leaves_of" ["word"] (xx 63)):Fn3 P w K mg base 66 f fd ["words"] (ab4):=
  ok3 (k:=65) F ae5 (by rintro _ _ _ ⟨_,_,rfl,_⟩;rfl) fun cdv A outer s H E hr=>⟨_,akf B (c_leaves_of.mono (by decide)) hr,aws⟩
theorem ago {p_turned:Sp3} (B:Bt K P w mg C_Pieces C_TooMany C_OnceError C_BadWeb C_NoTree C_NoWord) (c_turned:z8 P w K mg base m "turned" ["word"] p_turned) {cdv:Value} {A:Around} {outer:List Env} {s:Shared} {H:Hp} {E:XK} (hr:Room m (A.deeper (PyProof.Rows.envOfC "first_uneven" (qa jy) s.heap.objs.size f cdv))):
    QSs (jb CX0 P w K mg base ["leaves", "leaf"] "first_uneven" (qa jy) f cdv A outer s H E).nox (qr jy) (aby p_turned):=by
  have sc:=aba
  have hu:=huK hr
  exact (qe (v8 PassesOwn.never rfl (jk (qv 0)) (zk (i:=1) sc.nd rfl (Or.inl rfl)) (qk (jt (zm (aec K P w hu) (ae0 hu (qv 0) (q9 (qv 1) qd)) (ae0 hu (qv 0) (q9 (j8 c_turned hr rfl (q9 (qv 1) qd)) qd)) (zh _)) (qk (qy (z7 (z0 K P w) (qv 1) qg (fun _ _=>rfl)))) zn)))
    (qk (qy aie)))
theorem af1 (F:Fun K "first_uneven" "first_uneven" jy f fd) (B:Bt K P w mg C_Pieces C_TooMany C_OnceError C_BadWeb C_NoTree C_NoWord) (c_turned:z8 P w K mg base 65 "turned" ["word"] (vv 63)):Fn3 P w K mg base 66 f fd ["leaves"] (kg):=
  ok3 (k:=65) F aba (by rintro _ _ _ ⟨_,_,rfl,_⟩;rfl) fun cdv A outer s H E hr=>⟨_,ago B (c_turned.mono (by decide)) hr,awx⟩
theorem alo {p_leaves_in:Sp3} {p_first_uneven:Sp3} (B:Bt K P w mg C_Pieces C_TooMany C_OnceError C_BadWeb C_NoTree C_NoWord) (c_leaves_in:z8 P w K mg base m "leaves_in" ["words"] p_leaves_in) (c_first_uneven:z8 P w K mg base m "first_uneven" ["leaves"] p_first_uneven) {cdv:Value} {A:Around} {outer:List Env} {s:Shared} {H:Hp} {E:XK} (hr:Room m (A.deeper (PyProof.Rows.envOfC "tries_due" (qa vo) s.heap.objs.size f cdv))):
    QSs (jb CX0 P w K mg base ["words", "leaves", "ways", "counts", "kind", "name"] "tries_due" (qa vo) f cdv A outer s H E).nox (qr vo) (afu p_leaves_in p_first_uneven):=by
  have sc:=aed
  have hu:=huK hr
  exact (qe (qq (i:=1) sc.nd rfl (Or.inl rfl) (j8 c_leaves_in hr rfl (q9 (qv 0) qd)))
    (qe (jt (acm (j8 c_first_uneven hr rfl (q9 (qv 1) qd))) (qk (qy qg)) zn)
    (qe (qq (i:=2) sc.nd rfl (Or.inl rfl) qg)
    (qe (qq (i:=3) sc.nd rfl (Or.inl rfl) apq)
    (qe (v8 PassesOwn.never rfl (jk (qv 1)) (abq rfl (jc (zk (i:=4) sc.nd rfl (Or.inl rfl)) (jc (zk (i:=5) sc.nd rfl (Or.inl rfl)) aag))) (qk (jt (zm (wg K P w hu) (qv 4) zq (zh _)) (qe (ape hu (qv 3) (qv 5) (qp zy (ann hu (qv 3) (qv 5) qg) qg))
    (qk (qq (i:=2) sc.nd rfl (Or.inl rfl) (qp ac9 (qv 2) (ap4 hu (qv 3) (qv 5) (fun _ _=>rfl)))))) zn)))
    (qk (qy (qv 2))))))))
theorem aj3 (F:Fun K "tries_due" "tries_due" vo f fd) (B:Bt K P w mg C_Pieces C_TooMany C_OnceError C_BadWeb C_NoTree C_NoWord) (c_leaves_in:z8 P w K mg base 66 "leaves_in" ["words"] (ab4)) (c_first_uneven:z8 P w K mg base 66 "first_uneven" ["leaves"] (kg)):Fn3 P w K mg base 67 f fd ["words"] (aaw):=
  ok3 (k:=66) F aed (by rintro _ _ _ ⟨_,_,rfl,_⟩;rfl) fun cdv A outer s H E hr=>⟨_,alo B (c_leaves_in.mono (by decide)) (c_first_uneven.mono (by decide)) hr,aqg⟩
theorem ae6 {p_turned:Sp3} {p_places_in:Sp3} (B:Bt K P w mg C_Pieces C_TooMany C_OnceError C_BadWeb C_NoTree C_NoWord) (c_turned:z8 P w K mg base m "turned" ["word"] p_turned) (c_places_in:z8 P w K mg base m "places_in" ["pairs"] p_places_in) {cdv:Value} {A:Around} {outer:List Env} {s:Shared} {H:Hp} {E:XK} (hr:Room m (A.deeper (PyProof.Rows.envOfC "linked_further" (qa jh) s.heap.objs.size f cdv))):
    QSs (jb CX0 P w K mg base ["knots", "ways", "place", "mates", "longer", "links", "used", "mate"] "linked_further" (qa jh) f cdv A outer s H E).nox (qr jh) (aaz p_turned p_places_in):=by
  have sc:=aa9
  have hu:=huK hr
  exact (qe (an7 ["other", "knot"] (i:=3) sc.nd rfl (Or.inl rfl) (compOk.mk (by rfl)) rfl (acj rfl B.b_enumerate (qv 0)) (aks rfl (by show List.Nodup (["knots", "ways", "place", "mates", "longer", "links", "used", "mate", "other", "knot"]:List Str);decide +kernel) (fun _ _ _ _=>rfl) (fun _ _ _ _=>rfl)) (fun _ _ _ _=>ahq (zm (wg K P w hu) (qv 9) (j8 c_turned hr rfl (q9 (z7 (z0 K P w) (qv 0) (qv 2) (fun _ _=>rfl)) qd)) (zh _))) (fun _ _ _ _=>(qv 8)))
    (qe (qq (i:=4) sc.nd rfl (Or.inl rfl) (je qd))
    (qe (v8 PassesOwn.never rfl (jk (qv 1)) (zk (i:=5) sc.nd rfl (Or.inl rfl)) (qe (qq (i:=6) sc.nd rfl (Or.inl rfl) (j8 c_places_in hr rfl (q9 (qv 5) qd)))
    (qk (v8 PassesOwn.never rfl (jk (qv 3)) (zk (i:=7) sc.nd rfl (Or.inl rfl)) (qk (jt (zm (a1c K P w) (qv 7) (qv 6) (by with_unfolding_all rfl)) (qk (j6 (j5 (qv 4) (q9 (qp zy (qv 5) (je (q9 (zw (q9 (zb a3o rfl B.b_min a24 (q9 (qv 2) (q9 (qv 7) qd))) (q9 (zb auv rfl B.b_max anw (q9 (qv 2) (q9 (qv 7) qd))) qd))) qd))) qd)))) zn))))))
    (qk (qy (qv 4))))))
theorem ad8 (F:Fun K "linked_further" "linked_further" jh f fd) (B:Bt K P w mg C_Pieces C_TooMany C_OnceError C_BadWeb C_NoTree C_NoWord) (c_turned:z8 P w K mg base 65 "turned" ["word"] (vv 63)) (c_places_in:z8 P w K mg base 1 "places_in" ["pairs"] (agv)):Fn3 P w K mg base 66 f fd ["knots", "ways", "place"] (ab1):=
  ok3 (k:=65) F aa9 (by rintro _ _ _ ⟨_,_,_,_,_,_,_,rfl,_⟩;rfl) fun cdv A outer s H E hr=>⟨_,ae6 B (c_turned.mono (by decide)) (c_places_in.mono (by decide)) hr,aoy⟩
theorem agl {p_linked_further:Sp3} (B:Bt K P w mg C_Pieces C_TooMany C_OnceError C_BadWeb C_NoTree C_NoWord) (c_linked_further:z8 P w K mg base m "linked_further" ["knots", "ways", "place"] p_linked_further) {cdv:Value} {A:Around} {outer:List Env} {s:Shared} {H:Hp} {E:XK} (hr:Room m (A.deeper (PyProof.Rows.envOfC "ways_to_link" (qa x0) s.heap.objs.size f cdv))):
    QSs (jb CX0 P w K mg base ["knots", "ways", "place", "knot"] "ways_to_link" (qa x0) f cdv A outer s H E).nox (qr x0) (abx p_linked_further):=by
  have sc:=abb
  have hu:=huK hr
  exact (qe (qq (i:=1) sc.nd rfl (Or.inl rfl) (je (q9 (je qd) qd)))
    (qe (v8 PassesOwn.never rfl (acj rfl B.b_enumerate (qv 0)) (abq rfl (jc (zk (i:=2) sc.nd rfl (Or.inl rfl)) (jc (zk (i:=3) sc.nd rfl (Or.inl rfl)) aag))) (qk (jt (zm (wg K P w hu) (z7 (z0 K P w) (qv 3) qg (fun _ _=>rfl)) zq (zh _)) (qk (qq (i:=1) sc.nd rfl (Or.inl rfl) (j8 c_linked_further hr rfl (q9 (qv 0) (q9 (qv 1) (q9 (qv 2) qd)))))) zn)))
    (qk (qy (aii ["links"] (compOk.mk (by rfl)) rfl (jk (qv 1)) (aat (by show List.Nodup (["knots", "ways", "place", "knot", "links"]:List Str);decide +kernel) (fun _ _ _ _=>Or.inl rfl) (fun _ _ _ _=>rfl)) (fun _ _ _ _=>alb) (fun _ _ _ _=>(zb awl rfl B.b_sorted aqu (q9 (qv 4) qd))))))))
theorem afc (F:Fun K "ways_to_link" "ways_to_link" x0 f fd) (B:Bt K P w mg C_Pieces C_TooMany C_OnceError C_BadWeb C_NoTree C_NoWord) (c_linked_further:z8 P w K mg base 66 "linked_further" ["knots", "ways", "place"] (ab1)):Fn3 P w K mg base 67 f fd ["knots"] (agp):=
  ok3 (k:=66) F abb (by rintro _ _ _ ⟨_,_,rfl,_⟩;rfl) fun cdv A outer s H E hr=>⟨_,agl B (c_linked_further.mono (by decide)) hr,aw4⟩
theorem ad5 {p_ways_to_link:Sp3} {p_first_bad:Sp3} (B:Bt K P w mg C_Pieces C_TooMany C_OnceError C_BadWeb C_NoTree C_NoWord) (c_ways_to_link:z8 P w K mg base m "ways_to_link" ["knots"] p_ways_to_link) (c_first_bad:z8 P w K mg base m "first_bad" ["web"] p_first_bad) {cdv:Value} {A:Around} {outer:List Env} {s:Shared} {H:Hp} {E:XK} (hr:Room m (A.deeper (PyProof.Rows.envOfC "linked_or_tried" (qa ja) s.heap.objs.size f cdv))):
    QSs (jb CX0 P w K mg base ["knots", "tried", "links", "web", "choices"] "linked_or_tried" (qa ja) f cdv A outer s H E).nox (qr ja) (aaa p_ways_to_link p_first_bad):=by
  have sc:=aa3
  have hu:=huK hr
  exact (qe (qq (i:=1) sc.nd rfl (Or.inl rfl) (je qd))
    (qe (v8 PassesOwn.never rfl (jk (j8 c_ways_to_link hr rfl (q9 (qv 0) qd))) (zk (i:=2) sc.nd rfl (Or.inl rfl)) (qe (qq (i:=3) sc.nd rfl (Or.inl rfl) (zw (q9 (qv 0) (q9 (qv 2) (q9 (je qd) qd)))))
    (qe (qq (i:=4) sc.nd rfl (Or.inl rfl) (j8 c_first_bad hr rfl (q9 (qv 3) qd)))
    (qe (jt (aug (qv 4)) (qk (qy (zw (q9 zq (q9 (qv 3) qd))))) zn)
    (qk (j6 (j5 (qv 1) (q9 (zw (q9 (qv 2) (q9 (qv 4) qd))) qd))))))))
    (qk (qy (zw (q9 zq (q9 (qv 1) qd)))))))
theorem acr (F:Fun K "linked_or_tried" "linked_or_tried" ja f fd) (B:Bt K P w mg C_Pieces C_TooMany C_OnceError C_BadWeb C_NoTree C_NoWord) (c_ways_to_link:z8 P w K mg base 67 "ways_to_link" ["knots"] (agp)) (c_first_bad:z8 P w K mg base 8 "first_bad" ["web"] (ah3)):Fn3 P w K mg base 68 f fd ["knots"] (ahn):=
  ok3 (k:=67) F aa3 (by rintro _ _ _ ⟨_,_,rfl,_⟩;rfl) fun cdv A outer s H E hr=>⟨_,ad5 B (c_ways_to_link.mono (by decide)) (c_first_bad.mono (by decide)) hr,azi⟩
theorem amn {p_leaves_in:Sp3} {p_first_uneven:Sp3} {p_laid:Sp3} {p_tries_due:Sp3} {p_linked_or_tried:Sp3} (B:Bt K P w mg C_Pieces C_TooMany C_OnceError C_BadWeb C_NoTree C_NoWord) (c_leaves_in:z8 P w K mg base m "leaves_in" ["words"] p_leaves_in) (c_first_uneven:z8 P w K mg base m "first_uneven" ["leaves"] p_first_uneven) (c_laid:z8 P w K mg base m "laid" ["words"] p_laid) (c_tries_due:z8 P w K mg base m "tries_due" ["words"] p_tries_due) (c_linked_or_tried:z8 P w K mg base m "linked_or_tried" ["knots"] p_linked_or_tried) {cdv:Value} {A:Around} {outer:List Env} {s:Shared} {H:Hp} {E:XK} {E3:X3} (hr:Room m (A.deeper (PyProof.Rows.envOfC "searched" (qa vj) s.heap.objs.size f cdv))) (ht:Takes (jb (CXE P w) P w K mg base ["words", "most", "leaves", "name", "knots", "boths"] "searched" (qa vj) f cdv A outer s H E) (upX ⟨K,P,w⟩ E3)):
    QSs (jb (CXE P w) P w K mg base ["words", "most", "leaves", "name", "knots", "boths"] "searched" (qa vj) f cdv A outer s H E) (qr vj) (ad4 C_TooMany E3 p_leaves_in p_first_uneven p_laid p_tries_due p_linked_or_tried):=by
  have sc:=afr
  have hu:=huK hr
  exact (qe (qq (i:=2) sc.nd rfl (Or.inl rfl) (j8 c_leaves_in hr rfl (q9 (qv 0) qd)))
    (qe (qq (i:=3) sc.nd rfl (Or.inl rfl) (j8 c_first_uneven hr rfl (q9 (qv 2) qd)))
    (qe (jt (acm (qv 3)) (qk (qy (zw (q9 zq (q9 (qv 3) qd))))) zn)
    (qe (qq (i:=4) sc.nd rfl (Or.inl rfl) (z7 (z0 K P w) (j8 c_laid hr rfl (q9 (qv 0) qd)) qg (fun _ _=>rfl)))
    (qe (qq (i:=5) sc.nd rfl (Or.inl rfl) (zb (jq K P w) rfl B.b_len jp (q9 (aii ["knot"] (compOk.mk (by rfl)) rfl (jk (qv 4)) (aat (by show List.Nodup (["words", "most", "leaves", "name", "knots", "boths", "knot"]:List Str);decide +kernel) (fun _ _ _ _=>Or.inl rfl) (fun _ _ _ _=>rfl)) (fun _ _ _ _=>ahq (zm (wg K P w hu) (z7 (z0 K P w) (qv 6) qg (fun _ _=>rfl)) zq (zh _))) (fun _ _ _ _=>(qv 6))) qd)))
    (qe (jt (zm (aec K P w hu) (zb (jq K P w) rfl B.b_len jp (q9 (qv 2) qd)) (qp zy (qp ac9 qg (qv 5)) qg) (zh _)) (qk (qy (zw (q9 zq (q9 (zb (jq K P w) rfl B.b_len jp (q9 (qv 2) qd)) (q9 (qv 5) qd)))))) zn)
    (qe (jt (zm aus (j8 c_tries_due hr rfl (q9 (qv 0) qd)) (qv 1) (zh _)) (qk (asf B.x_TooMany rfl B.m_TooMany rfl ht rfl (q9 zq qd))) zn)
    (qk (qy (j8 c_linked_or_tried hr rfl (q9 (qv 4) qd)))))))))))
theorem als (F:FunD K "searched" "searched" vj f fd) (B:Bt K P w mg C_Pieces C_TooMany C_OnceError C_BadWeb C_NoTree C_NoWord) (c_leaves_in:z8 P w K mg base 66 "leaves_in" ["words"] (ab4)) (c_first_uneven:z8 P w K mg base 66 "first_uneven" ["leaves"] (kg)) (c_laid:z8 P w K mg base 63 "laid" ["words"] (aeg)) (c_tries_due:z8 P w K mg base 67 "tries_due" ["words"] (aaw)) (c_linked_or_tried:z8 P w K mg base 68 "linked_or_tried" ["knots"] (ahn)):a19 P w K mg base 69 f fd ["words", "most"] (wf C_TooMany):=
  a46 (k:=68) (t:=fun E3=>ad4 C_TooMany E3 (ab4) (kg) (aeg) (aaw) (ahn)) F afr (by rintro _ _ _ _ ⟨_,_,_,rfl,_⟩;rfl) (fun cdv A outer s H E E3 hr ht=>amn B (c_leaves_in.mono (by decide)) (c_first_uneven.mono (by decide)) (c_laid.mono (by decide)) (c_tries_due.mono (by decide)) (c_linked_or_tried.mono (by decide)) hr ht) (am9)
theorem am8 (B:Bt K P w mg C_Pieces C_TooMany C_OnceError C_BadWeb C_NoTree C_NoWord) {cdv:Value} {A:Around} {outer:List Env} {s:Shared} {H:Hp} {E:XK} (hr:Room m (A.deeper (PyProof.Rows.envOfC "_law_mix" (qa kl) s.heap.objs.size f cdv))):
    QSs (jb CX0 P w K mg base ["_law_cell", "_law_k", "_law_factor"] "_law_mix" (qa kl) f cdv A outer s H E).nox (qr kl) ai8:=by
  have sc:=afy
  have hu:=huK hr
  exact (qk (qy (qp v7 (qp xl (qp ac9 (qp zy (qp zy (qp ac9 (qp xl (qv 0) qg) qg) (qp ac9 (qv 1) (qv 1))) qg) (qv 2)) qg) qg)))
theorem al2 (F:Fun K "_law_mix" "_law_mix" kl f fd) (B:Bt K P w mg C_Pieces C_TooMany C_OnceError C_BadWeb C_NoTree C_NoWord):Fn3 P w K mg base 1 f fd ["_law_cell", "_law_k", "_law_factor"] (afj):=
  ok3 (k:=0) F afy (by rintro _ _ _ ⟨_,_,_,rfl,_⟩;rfl) fun cdv A outer s H E hr=>⟨_,am8 B hr,a1b⟩
theorem akj (B:Bt K P w mg C_Pieces C_TooMany C_OnceError C_BadWeb C_NoTree C_NoWord) {cdv:Value} {A:Around} {outer:List Env} {s:Shared} {H:Hp} {E:XK} (hr:Room m (A.deeper (PyProof.Rows.envOfC "_law_name" (qa vt) s.heap.objs.size f cdv))):
    QSs (jb CX0 P w K mg base ["_law_seed", "_law_which", "_law_letters", "_law_size", "_law_place", "_law_base", "_law_sign"] "_law_name" (qa vt) f cdv A outer s H E).nox (qr vt) alv:=by
  have sc:=aef
  have hu:=huK hr
  exact (qe (qq (i:=2) sc.nd rfl (Or.inr rfl) zq)
    (qe (qq (i:=3) sc.nd rfl (Or.inl rfl) (qp zy qg (qp xl (qv 0) qg)))
    (qe (qq (i:=4) sc.nd rfl (Or.inl rfl) (qp xl (qp v7 (qv 0) qg) (qv 3)))
    (qe (qq (i:=5) sc.nd rfl (Or.inl rfl) (axm zq (q9 (aii ["_law_k"] (compOk.mk (by rfl)) rfl (arq rfl B.b_range (q9 qg qd)) (aat (by show List.Nodup (["_law_seed", "_law_which", "_law_letters", "_law_size", "_law_place", "_law_base", "_law_sign", "_law_k"]:List Str);decide +kernel) (fun _ _ _ _=>Or.inl rfl) (fun _ _ _ _=>rfl)) (fun _ _ _ _=>alb) (fun _ _ _ _=>(z7 (z0 K P w) (qv 2) (qp xl (qp zy (qp v7 (qv 0) qg) (qp ac9 qg (qv 7))) qg) (fun _ _=>rfl)))) qd)))
    (qe (jt (zm (wg K P w hu) (qp xl (qp v7 (qv 0) qg) qg) qg (zh _)) (qk (qy (aa4 (ai0 K P w) (qv 5) aei (ww (qp zy qg (qp xl (qp zy (qv 1) (qv 0)) qg)))))) zn)
    (qe (qq (i:=6) sc.nd rfl (Or.inl rfl) (z7 (z0 K P w) (qv 2) (qp xl (qp zy (qp zy (qp v7 (qv 0) qg) (qp ac9 qg (qv 4))) (qv 1)) qg) (fun _ _=>rfl)))
    (qk (qy (qp zy (qp zy (aa4 (ai0 K P w) (qv 5) aei (ww (qv 4))) (qv 6)) (aa4 (ai0 K P w) (qv 5) (ww (qp zy (qv 4) qg)) (ww (qv 3))))))))))))
theorem aiy (F:Fun K "_law_name" "_law_name" vt f fd) (B:Bt K P w mg C_Pieces C_TooMany C_OnceError C_BadWeb C_NoTree C_NoWord):Fn3 P w K mg base 1 f fd ["_law_seed", "_law_which"] (ads):=
  ok3 (k:=0) F aef (by rintro _ _ _ ⟨_,_,rfl,_⟩;rfl) fun cdv A outer s H E hr=>⟨_,akj B hr,au8⟩
theorem aic {p__law_mix:Sp3} (B:Bt K P w mg C_Pieces C_TooMany C_OnceError C_BadWeb C_NoTree C_NoWord) (c__law_mix:z8 P w K mg base m "_law_mix" ["_law_cell", "_law_k", "_law_factor"] p__law_mix) {cdv:Value} {A:Around} {outer:List Env} {s:Shared} {H:Hp} {E:XK} (hr:Room m (A.deeper (PyProof.Rows.envOfC "_law_joined" (qa xc) s.heap.objs.size f cdv))):
    QSs (jb CX0 P w K mg base ["_law_leaves_here", "_law_cells", "_law_boths", "_law_eithers", "_law_words", "_law_more", "_law_other", "_law_number", "_law_kind", "_law_at"] "_law_joined" (qa xc) f cdv A outer s H E).nox (qr xc) (ahb p__law_mix):=by
  have sc:=ac3
  have hu:=huK hr
  exact (qe (qq (i:=4) sc.nd rfl (Or.inl rfl) (aem ai2 rfl B.b_list ags (q9 (qv 0) qd)))
    (qe (azp (i:=5) (j:=6) rfl sc.nd rfl rfl (by decide) rfl rfl (q9 (qv 2) (q9 (qv 3) qd)) rfl)
    (qe (adk PassesOwn.never (ami (aoh (zm aus (qp zy (qv 5) (qv 6)) qg (zh _)) (ako (zm aus (zb (jq K P w) rfl B.b_len jp (q9 (qv 4) qd)) qg (zh _))))) (qe (qq (i:=7) sc.nd rfl (Or.inl rfl) (j8 c__law_mix hr rfl (q9 (z7 (z0 K P w) (qp zy (qv 1) (je (q9 qg qd))) (qp xl (qp zy (qv 5) (qp ac9 qg (qv 6))) (qp zy (zb (jq K P w) rfl B.b_len jp (q9 (qv 1) qd)) qg)) (fun _ _=>rfl)) (q9 (qp zy (qp ac9 qg (qv 5)) (qv 6)) (q9 qg qd)))))
    (qe (qq (i:=8) sc.nd rfl (Or.inl rfl) (an9 (zm a3x (qp xl (qv 7) (qp zy (qv 5) (qv 6))) (qv 5) (zh _)) zq zq))
    (qe (qq (i:=9) sc.nd rfl (Or.inl rfl) (qp xl (qp v7 (qv 7) qg) (qp ajx (zb (jq K P w) rfl B.b_len jp (q9 (qv 4) qd)) qg)))
    (qe (qq (i:=4) sc.nd rfl (Or.inl rfl) (qp zy (qp zy (aa4 (ai0 K P w) (qv 4) aei (ww (qv 9))) (je (q9 (zw (q9 (qv 8) (q9 (z7 (z0 K P w) (qv 4) (qv 9) (fun _ _=>rfl)) (q9 (z7 (z0 K P w) (qv 4) (qp zy (qv 9) qg) (fun _ _=>rfl)) qd)))) qd))) (aa4 (ai0 K P w) (qv 4) (ww (qp zy (qv 9) qg)) aei)))
    (qk (jt (zm (wg K P w hu) (qv 8) zq (zh _)) (qk (aob (i:=5) sc.nd rfl (Or.inl rfl) qg asc)) (qk (aob (i:=6) sc.nd rfl (Or.inl rfl) qg asc)))))))))
    (qk (qy (qv 4))))))
theorem agn (F:Fun K "_law_joined" "_law_joined" xc f fd) (B:Bt K P w mg C_Pieces C_TooMany C_OnceError C_BadWeb C_NoTree C_NoWord) (c__law_mix:z8 P w K mg base 1 "_law_mix" ["_law_cell", "_law_k", "_law_factor"] (afj)):Fn3 P w K mg base 2 f fd ["_law_leaves_here", "_law_cells", "_law_boths", "_law_eithers"] (aae):=
  ok3 (k:=1) F ac3 (by rintro _ _ _ ⟨_,_,_,_,_,_,rfl,_⟩;rfl) fun cdv A outer s H E hr=>⟨_,aic B (c__law_mix.mono (by decide)) hr,alx⟩
theorem ai4 {p__law_name:Sp3} {p__law_mix:Sp3} (B:Bt K P w mg C_Pieces C_TooMany C_OnceError C_BadWeb C_NoTree C_NoWord) (c__law_name:z8 P w K mg base m "_law_name" ["_law_seed", "_law_which"] p__law_name) (c__law_mix:z8 P w K mg base m "_law_mix" ["_law_cell", "_law_k", "_law_factor"] p__law_mix) {cdv:Value} {A:Around} {outer:List Env} {s:Shared} {H:Hp} {E:XK} (hr:Room m (A.deeper (PyProof.Rows.envOfC "_law_leaves" (qa xg) s.heap.objs.size f cdv))):
    QSs (jb CX0 P w K mg base ["_law_cells", "_law_seed", "_law_even", "_law_sides", "_law_leaves_here", "_law_k", "_law_cell", "_law_number", "_law_leaf"] "_law_leaves" (qa xg) f cdv A outer s H E).nox (qr xg) (ahj p__law_name p__law_mix):=by
  have sc:=abz
  have hu:=huK hr
  exact (qe (qq (i:=3) sc.nd rfl (Or.inl rfl) (axs [("plain", "turned"),("turned", "plain")] (amg ahc ahc (amg ahc ahc awa)) rfl rfl (List.cons_ne_nil _ _) (Nat.le_of_ble_eq_true rfl)))
    (qe (qq (i:=4) sc.nd rfl (Or.inl rfl) (je (q9 (zw (q9 zq (q9 (j8 c__law_name hr rfl (q9 (qv 1) (q9 qg qd))) qd))) qd)))
    (aey (jt (aa6 (qv 2)) (qk (j6 (j5 (qv 4) (q9 (zw (q9 zq (q9 (j8 c__law_name hr rfl (q9 (qv 1) (q9 qg qd))) qd))) qd)))) zn)
    (qe (v8 PassesOwn.never rfl (acj rfl B.b_enumerate (qv 0)) (abq rfl (jc (zk (i:=5) sc.nd rfl (Or.inl rfl)) (jc (zk (i:=6) sc.nd rfl (Or.inl rfl)) aag))) (qe (qq (i:=7) sc.nd rfl (Or.inl rfl) (j8 c__law_mix hr rfl (q9 (qv 6) (q9 (qv 5) (q9 qg qd)))))
    (qe (qq (i:=8) sc.nd rfl (Or.inl rfl) (zw (q9 (aq3 (q9 zq (q9 zq qd)) (qp xl (qv 7) qg) (a1r (au2 _) (az7 _)) (fun _ _=>rfl)) (q9 (j8 c__law_name hr rfl (q9 (qv 1) (q9 (qp xl (qp v7 (qv 7) qg) (qp zy qg (qp xl (qp v7 (qv 1) qg) qg))) qd))) qd))))
    (qe (j6 (ak6 (qv 4) (q9 (qp xl (qp v7 (qv 7) qg) (qp zy (zb (jq K P w) rfl B.b_len jp (q9 (qv 4) qd)) qg)) (q9 (qv 8) qd))))
    (qk (jt (aa6 (qv 2)) (qk (j6 (ak6 (qv 4) (q9 (qp xl (qp v7 (qv 7) qg) (qp zy (zb (jq K P w) rfl B.b_len jp (q9 (qv 4) qd)) qg)) (q9 (zw (q9 (z7 (z0 K P w) (qv 3) (z7 (z0 K P w) (qv 8) qg (fun _ _=>rfl)) (fun _ _=>rfl)) (q9 (z7 (z0 K P w) (qv 8) qg (fun _ _=>rfl)) qd))) qd))))) zn))))))
    (qk (qy (qv 4)))))))
theorem agj (F:Fun K "_law_leaves" "_law_leaves" xg f fd) (B:Bt K P w mg C_Pieces C_TooMany C_OnceError C_BadWeb C_NoTree C_NoWord) (c__law_name:z8 P w K mg base 1 "_law_name" ["_law_seed", "_law_which"] (ads)) (c__law_mix:z8 P w K mg base 1 "_law_mix" ["_law_cell", "_law_k", "_law_factor"] (afj)):Fn3 P w K mg base 2 f fd ["_law_cells", "_law_seed", "_law_even"] (aaf):=
  ok3 (k:=1) F abz (by rintro _ _ _ ⟨_,_,_,_,rfl,_⟩;rfl) fun cdv A outer s H E hr=>⟨_,ai4 B (c__law_name.mono (by decide)) (c__law_mix.mono (by decide)) hr,ang⟩
theorem anm (B:Bt K P w mg C_Pieces C_TooMany C_OnceError C_BadWeb C_NoTree C_NoWord) {cdv:Value} {A:Around} {outer:List Env} {s:Shared} {H:Hp} {E:XK} (hr:Room m (A.deeper (PyProof.Rows.envOfC "_law_row" (qa ku) s.heap.objs.size f cdv))):
    QSs (jb CX0 P w K mg base ["_law_words", "_law_stack", "_law_leaves_here", "_law_boths", "_law_part"] "_law_row" (qa ku) f cdv A outer s H E).nox (qr ku) aqc:=by
  have sc:=ag8
  have hu:=huK hr
  exact (qe (qq (i:=1) sc.nd rfl (Or.inl rfl) (azh (aem ai2 rfl B.b_list ags (q9 (qv 0) qd)) (ayt az6 qg)))
    (qe (qq (i:=2) sc.nd rfl (Or.inl rfl) (je qd))
    (qe (qq (i:=3) sc.nd rfl (Or.inl rfl) qg)
    (qe (adk PassesOwn.never (zm (aec K P w hu) (qv 1) (je qd) (zh _)) (qe (qq (i:=4) sc.nd rfl (Or.inl rfl) (a05 (qv 1)))
    (qk (jt (zm (wg K P w hu) (zb (jq K P w) rfl B.b_len jp (q9 (qv 4) qd)) qg (zh _)) (qk (j6 (j5 (qv 2) (q9 (qv 4) qd)))) (qe (aob (i:=3) sc.nd rfl (Or.inl rfl) (aem a2a rfl B.b_int a11 (q9 (ki (wg K P w hu) (z7 (z0 K P w) (qv 4) qg (fun _ _=>rfl)) zq (zh _)) qd)) a0g)
    (qe (j6 (j5 (qv 1) (q9 (z7 (z0 K P w) (qv 4) qg (fun _ _=>rfl)) qd)))
    (qk (j6 (j5 (qv 1) (q9 (z7 (z0 K P w) (qv 4) qg (fun _ _=>rfl)) qd))))))))))
    (qk (qy (zw (q9 (qv 2) (q9 (qv 3) qd)))))))))
theorem akl (F:Fun K "_law_row" "_law_row" ku f fd) (B:Bt K P w mg C_Pieces C_TooMany C_OnceError C_BadWeb C_NoTree C_NoWord):Fn3 P w K mg base 1 f fd ["_law_words"] (ae1):=
  ok3 (k:=0) F ag8 (by rintro _ _ _ ⟨_,_,rfl,_⟩;rfl) fun cdv A outer s H E hr=>⟨_,anm B hr,asr⟩
theorem ah4 (B:Bt K P w mg C_Pieces C_TooMany C_OnceError C_BadWeb C_NoTree C_NoWord) {cdv:Value} {A:Around} {outer:List Env} {s:Shared} {H:Hp} {E:XK} (hr:Room m (A.deeper (PyProof.Rows.envOfC "_law_uneven" (qa xb) s.heap.objs.size f cdv))):
    QSs (jb CX0 P w K mg base ["_law_leaves_here", "_law_leaf"] "_law_uneven" (qa xb) f cdv A outer s H E).nox (qr xb) ad2:=by
  have sc:=ac2
  have hu:=huK hr
  exact (qe (v8 PassesOwn.never rfl (jk (qv 0)) (zk (i:=1) sc.nd rfl (Or.inl rfl)) (qk (jt (zm (aec K P w hu) (ae0 hu (qv 0) (q9 (zw (q9 zq (q9 (z7 (z0 K P w) (qv 1) qg (fun _ _=>rfl)) qd))) qd)) (ae0 hu (qv 0) (q9 (zw (q9 zq (q9 (z7 (z0 K P w) (qv 1) qg (fun _ _=>rfl)) qd))) qd)) (zh _)) (qk (qy (z7 (z0 K P w) (qv 1) qg (fun _ _=>rfl)))) zn)))
    (qk (qy aie)))
theorem agd (F:Fun K "_law_uneven" "_law_uneven" xb f fd) (B:Bt K P w mg C_Pieces C_TooMany C_OnceError C_BadWeb C_NoTree C_NoWord):Fn3 P w K mg base 1 f fd ["_law_leaves_here"] (kg):=
  ok3 (k:=0) F ac2 (by rintro _ _ _ ⟨_,_,rfl,_⟩;rfl) fun cdv A outer s H E hr=>⟨_,ah4 B hr,am6⟩
theorem akt (B:Bt K P w mg C_Pieces C_TooMany C_OnceError C_BadWeb C_NoTree C_NoWord) {cdv:Value} {A:Around} {outer:List Env} {s:Shared} {H:Hp} {E:XK} (hr:Room m (A.deeper (PyProof.Rows.envOfC "_law_ways" (qa vm) s.heap.objs.size f cdv))):
    QSs (jb CX0 P w K mg base ["_law_leaves_here", "_law_due", "_law_seen", "_law_leaf"] "_law_ways" (qa vm) f cdv A outer s H E).nox (qr vm) ag4:=by
  have sc:=aej
  have hu:=huK hr
  exact (qe (qq (i:=1) sc.nd rfl (Or.inl rfl) qg)
    (qe (qq (i:=2) sc.nd rfl (Or.inl rfl) apq)
    (qe (v8 PassesOwn.never rfl (jk (qv 0)) (zk (i:=3) sc.nd rfl (Or.inl rfl)) (qk (jt (zm (wg K P w hu) (z7 (z0 K P w) (qv 3) qg (fun _ _=>rfl)) zq (zh _)) (qe (ape hu (qv 2) (z7 (z0 K P w) (qv 3) qg (fun _ _=>rfl)) (qp zy (ann hu (qv 2) (z7 (z0 K P w) (qv 3) qg (fun _ _=>rfl)) qg) qg))
    (qk (qq (i:=1) sc.nd rfl (Or.inl rfl) (qp ac9 (qv 1) (ap4 hu (qv 2) (z7 (z0 K P w) (qv 3) qg (fun _ _=>rfl)) (fun _ _=>rfl)))))) zn)))
    (qk (qy (qv 1))))))
theorem aiw (F:Fun K "_law_ways" "_law_ways" vm f fd) (B:Bt K P w mg C_Pieces C_TooMany C_OnceError C_BadWeb C_NoTree C_NoWord):Fn3 P w K mg base 1 f fd ["_law_leaves_here"] (aca):=
  ok3 (k:=0) F aej (by rintro _ _ _ ⟨_,_,rfl,_⟩;rfl) fun cdv A outer s H E hr=>⟨_,akt B hr,ard⟩
theorem a03 {p__law_leaves:Sp3} {p__law_joined:Sp3} {p__law_row:Sp3} {p_searched:aj4} {p__law_uneven:Sp3} {p__law_ways:Sp3} (B:Bt K P w mg C_Pieces C_TooMany C_OnceError C_BadWeb C_NoTree C_NoWord) (c__law_leaves:z8 P w K mg base m "_law_leaves" ["_law_cells", "_law_seed", "_law_even"] p__law_leaves) (c__law_joined:z8 P w K mg base m "_law_joined" ["_law_leaves_here", "_law_cells", "_law_boths", "_law_eithers"] p__law_joined) (c__law_row:z8 P w K mg base m "_law_row" ["_law_words"] p__law_row) (c_searched:Cal3X P w K mg base m "searched" ["words", "most"] p_searched) (c__law_uneven:z8 P w K mg base m "_law_uneven" ["_law_leaves_here"] p__law_uneven) (c__law_ways:z8 P w K mg base m "_law_ways" ["_law_leaves_here"] p__law_ways) {cdv:Value} {A:Around} {outer:List Env} {s:Shared} {H:Hp} {E:XK} (hr:Room m (A.deeper (PyProof.Rows.envOfC "law" (qa ae4) s.heap.objs.size f cdv))):
    QSs (jb CX0 P w K mg base ["_law_script", "_law_seed", "_law_cells", "_law_leaves_here", "_law_half", "_law_boths", "_law_words", "_law_most", "_law_asked", "_law_found", "_law_error", "caught", "_law_name_here", "_law_other"] "law" (qa ae4) f cdv A outer s H E).nox (qr ae4) (aqa K C_OnceError C_TooMany C_BadWeb C_NoTree C_NoWord p__law_leaves p__law_joined p__law_row p_searched p__law_uneven p__law_ways):=by
  have sc:=aua
  have hu:=huK hr
  exact (qe (qq (i:=1) sc.nd rfl (Or.inl rfl) (qp xl (z7 (z0 K P w) (qp (a1e K P w) (qv 0) (je (q9 qg qd))) qg (fun _ _=>rfl)) (qp a2k qg qg)))
    (qe (qq (i:=2) sc.nd rfl (Or.inl rfl) (aa4 (ai0 K P w) (qv 0) (ww qg) (ww qg)))
    (qe (qq (i:=3) sc.nd rfl (Or.inl rfl) (j8 c__law_leaves hr rfl (q9 (qv 2) (q9 (qv 1) (q9 (ki aus (qp xl (qv 1) qg) qg (zh _)) qd)))))
    (aey (jt (zm (wg K P w hu) (qp xl (qv 1) qg) qg (zh _)) (qk (j6 (aut (qv 3) (q9 (qp xl (qp v7 (qv 1) qg) (zb (jq K P w) rfl B.b_len jp (q9 (qv 3) qd))) qd)))) zn)
    (qe (qq (i:=4) sc.nd rfl (Or.inl rfl) (qp v7 (zb (jq K P w) rfl B.b_len jp (q9 (qv 3) qd)) qg))
    (qe (qq (i:=5) sc.nd rfl (Or.inl rfl) (aq3 (q9 (zb auv rfl B.b_max anw (q9 qg (q9 (qp ajx (qv 4) qg) qd))) (q9 (qv 4) (q9 (qp xl (qp v7 (qv 1) qg) qg) (q9 (zb auv rfl B.b_max anw (q9 qg (q9 (qp ajx (qv 4) qg) qd))) qd)))) (qp xl (qp v7 (qv 1) qg) qg) (a1r (a1r (au2 _) (az7 _)) (az7 _)) (fun _ _=>rfl)))
    (qe (qq (i:=6) sc.nd rfl (Or.inl rfl) (j8 c__law_joined hr rfl (q9 (qv 3) (q9 (qv 2) (q9 (qv 5) (q9 (qp xl (qp v7 (qv 1) qg) qg) qd))))))
    (qe (qq (i:=7) sc.nd rfl (Or.inl rfl) (qp ajx (qp xl (qp v7 (qv 1) qg) qg) qg))
    (qe (au4 (j8 c__law_row hr rfl (q9 (qv 6) qd)) (abq rfl (jc (zk (i:=3) sc.nd rfl (Or.inl rfl)) (jc (zk (i:=5) sc.nd rfl (Or.inl rfl)) aag))))
    (qe (qq (i:=8) sc.nd rfl (Or.inl rfl) (aem ai2 rfl B.b_list ags (q9 (qv 6) qd)))
    (qe (au4 (zw (q9 aie (q9 aie qd))) (abq rfl (jc (zk (i:=9) sc.nd rfl (Or.inl rfl)) (jc (zk (i:=10) sc.nd rfl (Or.inl rfl)) aag))))
    (qe (az8 (i:=11) rfl rfl rfl sc.nd rfl rfl rfl B.m_OnceError (a1m (i:=9) c_searched hr rfl rfl sc.nd rfl (Or.inl rfl) (fun _ _=>(q9 (qv 8) (q9 (qv 7) qd)))) (fun _=>(qk (qq (i:=10) sc.nd rfl (Or.inl rfl) (qv 11)))))
    (qe (jt (ami (ayc (zm (aec K P w hu) (qv 8) (qv 6) (zh _)) (as4 (ami (aoh (acm (qv 10)) (ako (azz (aa6 (aas rfl B.b_isinstance (qv 10) (ah5 rfl B.m_TooMany) rfl))))))))) (qk (qy a2g)) zn)
    (qe (qq (i:=12) sc.nd rfl (Or.inl rfl) (j8 c__law_uneven hr rfl (q9 (qv 3) qd)))
    (qe (jt (acm (qv 12)) (qk (qy (adf (alm .tuple rfl B.b_isinstance rfl B.b_tuple ahv (qv 9)) (ad9 (ki (wg K P w hu) (qv 9) (zw (q9 zq (q9 (qv 12) qd))) (zh _)))))) zn)
    (qe (jt (zm (aec K P w hu) (zb (jq K P w) rfl B.b_len jp (q9 (qv 3) qd)) (qp zy (qp ac9 qg (qv 5)) qg) (zh _)) (qk (qy (adf (alm .tuple rfl B.b_isinstance rfl B.b_tuple ahv (qv 9)) (ad9 (ki (wg K P w hu) (qv 9) (zw (q9 zq (q9 (zb (jq K P w) rfl B.b_len jp (q9 (qv 3) qd)) (q9 (qv 5) qd)))) (zh _)))))) zn)
    (qe (jt (zm aus (j8 c__law_ways hr rfl (q9 (qv 3) qd)) (qv 7) (zh _)) (qe (qq (i:=13) sc.nd rfl (Or.inl rfl) (ayz (aas rfl B.b_isinstance (qv 10) (ah5 rfl B.m_NoWord) rfl) (ayz (aas rfl B.b_isinstance (qv 10) (ah5 rfl B.m_NoTree) rfl) (ad9 (aas rfl B.b_isinstance (qv 10) (ah5 rfl B.m_BadWeb) rfl)))))
    (qk (qy (adf (aas rfl B.b_isinstance (qv 10) (ah5 rfl B.m_TooMany) rfl) (adf (aas rfl B.b_isinstance (qv 10) (ayr rfl B.b_ValueError ajb) rfl) (ad9 (a2e (qv 13)))))))) zn)
    (qk (qy (adf (alm .tuple rfl B.b_isinstance rfl B.b_tuple ahv (qv 9)) (ad9 (ki (az0 K P w) (z7 (z0 K P w) (qv 9) qg (fun _ _=>rfl)) (zw (q9 zq (q9 zq qd))) (by with_unfolding_all rfl)))))))))))))))))))))))
theorem awb (F:Fun K "law" "law" ae4 f fd) (B:Bt K P w mg C_Pieces C_TooMany C_OnceError C_BadWeb C_NoTree C_NoWord) (c__law_leaves:z8 P w K mg base 2 "_law_leaves" ["_law_cells", "_law_seed", "_law_even"] (aaf)) (c__law_joined:z8 P w K mg base 2 "_law_joined" ["_law_leaves_here", "_law_cells", "_law_boths", "_law_eithers"] (aae)) (c__law_row:z8 P w K mg base 1 "_law_row" ["_law_words"] (ae1)) (c_searched:Cal3X P w K mg base 69 "searched" ["words", "most"] (wf C_TooMany)) (c__law_uneven:z8 P w K mg base 1 "_law_uneven" ["_law_leaves_here"] (kg)) (c__law_ways:z8 P w K mg base 1 "_law_ways" ["_law_leaves_here"] (aca)) (xf:L3.XF7 K C_Pieces C_OnceError C_TooMany C_BadWeb C_NoTree C_NoWord):Fn3 P w K mg base 70 f fd ["_law_script"] (aoq):=
  ok3 (k:=69) F aua (by rintro _ _ _ ⟨_,rfl,_⟩;rfl) fun cdv A outer s H E hr=>⟨_,a03 B (c__law_leaves.mono (by decide)) (c__law_joined.mono (by decide)) (c__law_row.mono (by decide)) (c_searched.mono (by decide)) (c__law_uneven.mono (by decide)) (c__law_ways.mono (by decide)) hr,atv xf.e⟩
end
theorem all_mk {l:PySem.W.OpenLaw} {w:World} {K:PySem.W.Frag} {h:Heap} {mg:Str→Option Value} {fa:Addr} {a_LEAF_KINDS:Addr} {o_LEAF_KINDS:Option Addr} {n_LEAF_KINDS:Nat} {l_LEAF_KINDS:Array (Option Value)} {t_LEAF_KINDS0 t_LEAF_KINDS1:Tok} {a_TURNED_KINDS:Addr} {e_TURNED_KINDS:Nat} {t_TURNED_KINDS0 t_TURNED_KINDS1 t_TURNED_KINDS2 t_TURNED_KINDS3 u_TURNED_KINDS0 u_TURNED_KINDS1 u_TURNED_KINDS2 u_TURNED_KINDS3:Tok} {C_Pieces:Addr} {C_TooMany:Addr} {C_OnceError:Addr} {C_BadWeb:Addr} {C_NoTree:Addr} {C_NoWord:Addr} (X:K.In h) (G:h.Ns mainGlobals mg) (hfa:mg "law" = some (.ref fa))
    (D0:DefIn K "is_leaf" wz)
    (D1:DefIn K "turned" aav)
    (D2:DefIn K "leaves_of" vp)
    (D3:DefIn K "lay_word" kq)
    (D4:DefIn K "laid" af3)
    (D5:MethIn K C_Pieces "__init__" "Pieces.__init__" xh)
    (D6:MethIn K C_Pieces "head_of" "Pieces.head_of" ji)
    (D7:MethIn K C_Pieces "unite" "Pieces.unite" x6)
    (D8:DefIn K "places_there" jw)
    (D9:DefIn K "parts_of" kz)
    (D10:DefIn K "places_in" k7)
    (D11:DefIn K "eithers_of" xw)
    (D12:DefIn K "boths_of" kr)
    (D13:DefIn K "part_edges" xz)
    (D14:DefIn K "joins_of" w5)
    (D15:DefIn K "join_steps" xt)
    (D16:DefIn K "can_fold" ko)
    (D17:DefIn K "fold_steps" xq)
    (D18:DefIn K "steps_by" ky)
    (D19:DefIn K "all_come_together" zu)
    (D20:DefIn K "right_web" vq)
    (D21:DefIn K "first_bad" k6)
    (D22:DefIn K "leaves_in" vn)
    (D23:DefIn K "first_uneven" jy)
    (D24:DefIn K "tries_due" vo)
    (D25:DefIn K "linked_further" jh)
    (D26:DefIn K "ways_to_link" x0)
    (D27:DefIn K "linked_or_tried" ja)
    (D28:DefInD K "searched" vj 120)
    (D29:DefIn K "_law_mix" kl)
    (D30:DefIn K "_law_name" vt)
    (D31:DefIn K "_law_joined" xc)
    (D32:DefIn K "_law_leaves" xg)
    (D33:DefIn K "_law_row" ku)
    (D34:DefIn K "_law_uneven" xb)
    (D35:DefIn K "_law_ways" vm)
    (D36:DefIn K "law" ae4)
    (aLEAF_KINDS:PySem.W.nsIn K mainGlobals "LEAF_KINDS" = some (some (.ref a_LEAF_KINDS)))
    (lLEAF_KINDS:K.lookup a_LEAF_KINDS=some ⟨.type "tuple",o_LEAF_KINDS,.seq #[.str "plain" t_LEAF_KINDS0,.str "turned" t_LEAF_KINDS1] n_LEAF_KINDS,l_LEAF_KINDS⟩)
    (aTURNED_KINDS:PySem.W.nsIn K mainGlobals "TURNED_KINDS" = some (some (.ref a_TURNED_KINDS)))
    (lTURNED_KINDS:K.lookup a_TURNED_KINDS=some ⟨.type "dict",none,.dict ((([("plain",t_TURNED_KINDS0, "turned",u_TURNED_KINDS0),("turned",t_TURNED_KINDS1, "plain",u_TURNED_KINDS1),("both",t_TURNED_KINDS2, "either",u_TURNED_KINDS2),("either",t_TURNED_KINDS3, "both",u_TURNED_KINDS3)]:List (Str×Tok×Str×Tok)).map (apl w)).toArray) e_TURNED_KINDS,#[]⟩)
    (hTURNED_KINDS:(a_TURNED_KINDS==sysModules)=false)
    (aCPieces:PySem.W.nsIn K mainGlobals "Pieces" = some (some (.ref C_Pieces)))
    (aCTooMany:PySem.W.nsIn K mainGlobals "TooMany" = some (some (.ref C_TooMany)))
    (aCOnceError:PySem.W.nsIn K mainGlobals "OnceError" = some (some (.ref C_OnceError)))
    (aCBadWeb:PySem.W.nsIn K mainGlobals "BadWeb" = some (some (.ref C_BadWeb)))
    (aCNoTree:PySem.W.nsIn K mainGlobals "NoTree" = some (some (.ref C_NoTree)))
    (aCNoWord:PySem.W.nsIn K mainGlobals "NoWord" = some (some (.ref C_NoWord)))
    (qCTooMany:PySem.W.excIn K C_TooMany [.type "ValueError",.type "Exception",.type "BaseException",.type "object"] "ValueError.__new__" = true)
    (clPieces:Cls K C_Pieces)
    (mAPieces:PySem.W.makesIn K C_Pieces=true)
    (mKPieces:PySem.W.keepIn K (.ref C_Pieces)=true)
    (xf:L3.XF7 K C_Pieces C_OnceError C_TooMany C_BadWeb C_NoTree C_NoWord)
    (zlen:PySem.W.nsIn K mainGlobals "len" = some none)
    (zlist:PySem.W.nsIn K mainGlobals "list" = some none)
    (zrange:PySem.W.nsIn K mainGlobals "range" = some none)
    (zenumerate:PySem.W.nsIn K mainGlobals "enumerate" = some none)
    (zmax:PySem.W.nsIn K mainGlobals "max" = some none)
    (zmin:PySem.W.nsIn K mainGlobals "min" = some none)
    (zsorted:PySem.W.nsIn K mainGlobals "sorted" = some none)
    (zint:PySem.W.nsIn K mainGlobals "int" = some none)
    (zisinstance:PySem.W.nsIn K mainGlobals "isinstance" = some none)
    (ztuple:PySem.W.nsIn K mainGlobals "tuple" = some none)
    (zValueError:PySem.W.nsIn K mainGlobals "ValueError" = some none):
    ∃ fd:FuncData,(∀ (s:Shared) (v:Value),BindsTo s fd ⟨[v],[]⟩ [("_law_script",v)])∧∀ base:Heap,K.In base→base.Ns mainGlobals mg→FnOk l.prog w K mg base CX0 70 fa fd ["_law_script"] (spTop K):=by
  obtain ⟨f0,fd0,F0,b0,m0⟩:=D0.use (ps:=["word"]) X G fun _ _ _ _ _ _ us hl=>match us,hl with | [_],_=>rfl
  obtain ⟨f1,fd1,F1,b1,m1⟩:=D1.use (ps:=["word"]) X G fun _ _ _ _ _ _ us hl=>match us,hl with | [_],_=>rfl
  obtain ⟨f2,fd2,F2,b2,m2⟩:=D2.use (ps:=["word"]) X G fun _ _ _ _ _ _ us hl=>match us,hl with | [_],_=>rfl
  obtain ⟨f3,fd3,F3,b3,m3⟩:=D3.use (ps:=["knots", "word"]) X G fun _ _ _ _ _ _ us hl=>match us,hl with | [_,_],_=>rfl
  obtain ⟨f4,fd4,F4,b4,m4⟩:=D4.use (ps:=["words"]) X G fun _ _ _ _ _ _ us hl=>match us,hl with | [_],_=>rfl
  obtain ⟨f5,fd5,F5,b5,m5⟩:=D5.use (ps:=["self", "count"]) fun _ _ _ _ _ _ us hl=>match us,hl with | [_,_],_=>rfl
  obtain ⟨f6,fd6,F6,b6,m6⟩:=D6.use (ps:=["self", "place"]) fun _ _ _ _ _ _ us hl=>match us,hl with | [_,_],_=>rfl
  obtain ⟨f7,fd7,F7,b7,m7⟩:=D7.use (ps:=["self", "p", "q"]) fun _ _ _ _ _ _ us hl=>match us,hl with | [_,_,_],_=>rfl
  obtain ⟨f8,fd8,F8,b8,m8⟩:=D8.use (ps:=["knots"]) X G fun _ _ _ _ _ _ us hl=>match us,hl with | [_],_=>rfl
  obtain ⟨f9,fd9,F9,b9,m9⟩:=D9.use (ps:=["knot"]) X G fun _ _ _ _ _ _ us hl=>match us,hl with | [_],_=>rfl
  obtain ⟨f10,fd10,F10,b10,m10⟩:=D10.use (ps:=["pairs"]) X G fun _ _ _ _ _ _ us hl=>match us,hl with | [_],_=>rfl
  obtain ⟨f11,fd11,F11,b11,m11⟩:=D11.use (ps:=["web"]) X G fun _ _ _ _ _ _ us hl=>match us,hl with | [_],_=>rfl
  obtain ⟨f12,fd12,F12,b12,m12⟩:=D12.use (ps:=["web"]) X G fun _ _ _ _ _ _ us hl=>match us,hl with | [_],_=>rfl
  obtain ⟨f13,fd13,F13,b13,m13⟩:=D13.use (ps:=["knots", "places"]) X G fun _ _ _ _ _ _ us hl=>match us,hl with | [_,_],_=>rfl
  obtain ⟨f14,fd14,F14,b14,m14⟩:=D14.use (ps:=["web"]) X G fun _ _ _ _ _ _ us hl=>match us,hl with | [_],_=>rfl
  obtain ⟨f15,fd15,F15,b15,m15⟩:=D15.use (ps:=["pieces", "joins"]) X G fun _ _ _ _ _ _ us hl=>match us,hl with | [_,_],_=>rfl
  obtain ⟨f16,fd16,F16,b16,m16⟩:=D16.use (ps:=["pieces", "knots", "place"]) X G fun _ _ _ _ _ _ us hl=>match us,hl with | [_,_,_],_=>rfl
  obtain ⟨f17,fd17,F17,b17,m17⟩:=D17.use (ps:=["pieces", "knots", "eithers"]) X G fun _ _ _ _ _ _ us hl=>match us,hl with | [_,_,_],_=>rfl
  obtain ⟨f18,fd18,F18,b18,m18⟩:=D18.use (ps:=["knots", "joins", "eithers"]) X G fun _ _ _ _ _ _ us hl=>match us,hl with | [_,_,_],_=>rfl
  obtain ⟨f19,fd19,F19,b19,m19⟩:=D19.use (ps:=["knots", "joins", "eithers"]) X G fun _ _ _ _ _ _ us hl=>match us,hl with | [_,_,_],_=>rfl
  obtain ⟨f20,fd20,F20,b20,m20⟩:=D20.use (ps:=["web"]) X G fun _ _ _ _ _ _ us hl=>match us,hl with | [_],_=>rfl
  obtain ⟨f21,fd21,F21,b21,m21⟩:=D21.use (ps:=["web"]) X G fun _ _ _ _ _ _ us hl=>match us,hl with | [_],_=>rfl
  obtain ⟨f22,fd22,F22,b22,m22⟩:=D22.use (ps:=["words"]) X G fun _ _ _ _ _ _ us hl=>match us,hl with | [_],_=>rfl
  obtain ⟨f23,fd23,F23,b23,m23⟩:=D23.use (ps:=["leaves"]) X G fun _ _ _ _ _ _ us hl=>match us,hl with | [_],_=>rfl
  obtain ⟨f24,fd24,F24,b24,m24⟩:=D24.use (ps:=["words"]) X G fun _ _ _ _ _ _ us hl=>match us,hl with | [_],_=>rfl
  obtain ⟨f25,fd25,F25,b25,m25⟩:=D25.use (ps:=["knots", "ways", "place"]) X G fun _ _ _ _ _ _ us hl=>match us,hl with | [_,_,_],_=>rfl
  obtain ⟨f26,fd26,F26,b26,m26⟩:=D26.use (ps:=["knots"]) X G fun _ _ _ _ _ _ us hl=>match us,hl with | [_],_=>rfl
  obtain ⟨f27,fd27,F27,b27,m27⟩:=D27.use (ps:=["knots"]) X G fun _ _ _ _ _ _ us hl=>match us,hl with | [_],_=>rfl
  obtain ⟨f28,fd28,F28,b28,m28⟩:=D28.use (ps:=["words", "most"]) X G fun _ _ _ _ _ _ _ _ us hl=>match us,hl with | [_,_],_=>⟨_,rfl,rfl⟩
  obtain ⟨f29,fd29,F29,b29,m29⟩:=D29.use (ps:=["_law_cell", "_law_k", "_law_factor"]) X G fun _ _ _ _ _ _ us hl=>match us,hl with | [_,_,_],_=>rfl
  obtain ⟨f30,fd30,F30,b30,m30⟩:=D30.use (ps:=["_law_seed", "_law_which"]) X G fun _ _ _ _ _ _ us hl=>match us,hl with | [_,_],_=>rfl
  obtain ⟨f31,fd31,F31,b31,m31⟩:=D31.use (ps:=["_law_leaves_here", "_law_cells", "_law_boths", "_law_eithers"]) X G fun _ _ _ _ _ _ us hl=>match us,hl with | [_,_,_,_],_=>rfl
  obtain ⟨f32,fd32,F32,b32,m32⟩:=D32.use (ps:=["_law_cells", "_law_seed", "_law_even"]) X G fun _ _ _ _ _ _ us hl=>match us,hl with | [_,_,_],_=>rfl
  obtain ⟨f33,fd33,F33,b33,m33⟩:=D33.use (ps:=["_law_words"]) X G fun _ _ _ _ _ _ us hl=>match us,hl with | [_],_=>rfl
  obtain ⟨f34,fd34,F34,b34,m34⟩:=D34.use (ps:=["_law_leaves_here"]) X G fun _ _ _ _ _ _ us hl=>match us,hl with | [_],_=>rfl
  obtain ⟨f35,fd35,F35,b35,m35⟩:=D35.use (ps:=["_law_leaves_here"]) X G fun _ _ _ _ _ _ us hl=>match us,hl with | [_],_=>rfl
  obtain ⟨fL,kV,doc,pm,an,cdv,ct,aL,FL⟩:=D36.ex
  have e:=hfa.symm.trans (PySem.W.mg_of X G aL)
  cases e
  have B:Bt K l.prog w mg C_Pieces C_TooMany C_OnceError C_BadWeb C_NoTree C_NoWord:=⟨trivial,PySem.W.mg_none_of X G zlen,PySem.W.mg_none_of X G zlist,PySem.W.mg_none_of X G zrange,PySem.W.mg_none_of X G zenumerate,PySem.W.mg_none_of X G zmax,PySem.W.mg_none_of X G zmin,PySem.W.mg_none_of X G zsorted,PySem.W.mg_none_of X G zint,PySem.W.mg_none_of X G zisinstance,PySem.W.mg_none_of X G ztuple,PySem.W.mg_none_of X G zValueError,⟨⟨a_LEAF_KINDS,PySem.W.mg_of X G aLEAF_KINDS,fun H=>⟨a_LEAF_KINDS,[V.str "plain",V.str "turned"],rfl,.inr ⟨_,_,_,lLEAF_KINDS,rfl,rfl,by show 2≤sizeLine;decide,.cons ⟨_,rfl⟩ (.cons ⟨_,rfl⟩ (.nil))⟩,⟨_,_,rfl,rfl,⟨_,_,rfl,rfl,rfl⟩⟩⟩⟩⟩,⟨⟨a_TURNED_KINDS,PySem.W.mg_of X G aTURNED_KINDS,fun H=>⟨a_TURNED_KINDS,rfl,a38 _ lTURNED_KINDS hTURNED_KINDS (by show 4≤1000;decide) (by show List.Nodup ([Sum.inr "plain",Sum.inr "turned",Sum.inr "both",Sum.inr "either"]:List Key);decide +kernel)⟩⟩⟩,PySem.W.mg_of X G aCPieces,PySem.W.mg_of X G aCTooMany,PySem.W.mg_of X G aCOnceError,PySem.W.mg_of X G aCBadWeb,PySem.W.mg_of X G aCNoTree,PySem.W.mg_of X G aCNoWord,aoj qCTooMany,clPieces⟩
  refine ⟨PySem.W.fnOf "law" "law" (jv ae4) (qr ae4) (qa ae4) .none kV doc pm an cdv ct,fun s v=>.of_eq rfl,fun base _ _=>?_⟩
  have CA_is_leaf:=Cal.of (an6 (P:=l.prog) (w:=w) (base:=base) F0 B) b0 F0.kp m0
  have CA_turned:=Cal.of (aha (P:=l.prog) (w:=w) (base:=base) F1 b1 m1 B CA_is_leaf 63) b1 F1.kp m1
  have CA_leaves_of:=Cal.of (acv (P:=l.prog) (w:=w) (base:=base) F2 b2 m2 B CA_is_leaf 63) b2 F2.kp m2
  have CA_lay_word:=Cal.of (ae2 (P:=l.prog) (w:=w) (base:=base) F3 b3 m3 B CA_is_leaf 60) b3 F3.kp m3
  have CA_laid:=Cal.of (aso (P:=l.prog) (w:=w) (base:=base) F4 B CA_lay_word) b4 F4.kp m4
  have CA_Pieces_init:CalI l.prog w K mg base 2 C_Pieces ["self", "count"] (ac4 C_Pieces):=⟨_,_,⟨mAPieces,m5.at_,m5.fn,mKPieces⟩,⟨_,rfl,agi (P:=l.prog) (w:=w) (base:=base) F5 B xf⟩,b5⟩
  have CA_Pieces_head_of:CalM l.prog w K mg base 1 C_Pieces "head_of" ["self", "place"] (ab2 C_Pieces):=⟨_,_,m6,ada (P:=l.prog) (w:=w) (base:=base) F6 B xf,b6⟩
  have CA_Pieces_unite:CalM l.prog w K mg base 2 C_Pieces "unite" ["self", "p", "q"] (aa1 C_Pieces):=⟨_,_,m7,afd (P:=l.prog) (w:=w) (base:=base) F7 B CA_Pieces_head_of xf,b7⟩
  have CA_places_there:=Cal.of (afg (P:=l.prog) (w:=w) (base:=base) F8 B) b8 F8.kp m8
  have CA_parts_of:=Cal.of (alp (P:=l.prog) (w:=w) (base:=base) F9 B CA_is_leaf) b9 F9.kp m9
  have CA_places_in:=Cal.of (aj2 (P:=l.prog) (w:=w) (base:=base) F10 B) b10 F10.kp m10
  have CA_eithers_of:=Cal.of (aib (P:=l.prog) (w:=w) (base:=base) F11 B) b11 F11.kp m11
  have CA_boths_of:=Cal.of (al9 (P:=l.prog) (w:=w) (base:=base) F12 B CA_places_there) b12 F12.kp m12
  have CA_part_edges:=Cal.of (ah9 (P:=l.prog) (w:=w) (base:=base) F13 B CA_parts_of) b13 F13.kp m13
  have CA_joins_of:=Cal.of (akv (P:=l.prog) (w:=w) (base:=base) F14 B CA_part_edges CA_boths_of) b14 F14.kp m14
  have CA_join_steps:=Cal.of (ai6 (P:=l.prog) (w:=w) (base:=base) F15 B CA_Pieces_unite) b15 F15.kp m15
  have CA_can_fold:=Cal.of (aki (P:=l.prog) (w:=w) (base:=base) F16 B CA_parts_of CA_Pieces_head_of) b16 F16.kp m16
  have CA_fold_steps:=Cal.of (aho (P:=l.prog) (w:=w) (base:=base) F17 B CA_can_fold CA_Pieces_unite) b17 F17.kp m17
  have CA_steps_by:=Cal.of (akd (P:=l.prog) (w:=w) (base:=base) F18 B CA_Pieces_init CA_join_steps CA_fold_steps) b18 F18.kp m18
  have CA_all_come_together:=Cal.of (abk (P:=l.prog) (w:=w) (base:=base) F19 B CA_places_there CA_steps_by) b19 F19.kp m19
  have CA_right_web:=Cal.of (aj5 (P:=l.prog) (w:=w) (base:=base) F20 B CA_all_come_together CA_eithers_of CA_joins_of) b20 F20.kp m20
  have CA_first_bad:=Cal.of (aiz (P:=l.prog) (w:=w) (base:=base) F21 B CA_right_web CA_joins_of CA_eithers_of CA_all_come_together) b21 F21.kp m21
  have CA_leaves_in:=Cal.of (aj7 (P:=l.prog) (w:=w) (base:=base) F22 B CA_leaves_of) b22 F22.kp m22
  have CA_first_uneven:=Cal.of (af1 (P:=l.prog) (w:=w) (base:=base) F23 B CA_turned) b23 F23.kp m23
  have CA_tries_due:=Cal.of (aj3 (P:=l.prog) (w:=w) (base:=base) F24 B CA_leaves_in CA_first_uneven) b24 F24.kp m24
  have CA_linked_further:=Cal.of (ad8 (P:=l.prog) (w:=w) (base:=base) F25 B CA_turned CA_places_in) b25 F25.kp m25
  have CA_ways_to_link:=Cal.of (afc (P:=l.prog) (w:=w) (base:=base) F26 B CA_linked_further) b26 F26.kp m26
  have CA_linked_or_tried:=Cal.of (acr (P:=l.prog) (w:=w) (base:=base) F27 B CA_ways_to_link CA_first_bad) b27 F27.kp m27
  have CA_searched:Cal3X l.prog w K mg base 69 "searched" ["words", "most"] (wf C_TooMany):=⟨_,_,als (P:=l.prog) (w:=w) (base:=base) F28 B CA_leaves_in CA_first_uneven CA_laid CA_tries_due CA_linked_or_tried,b28,F28.kp,m28⟩
  have CA__law_mix:=Cal.of (al2 (P:=l.prog) (w:=w) (base:=base) F29 B) b29 F29.kp m29
  have CA__law_name:=Cal.of (aiy (P:=l.prog) (w:=w) (base:=base) F30 B) b30 F30.kp m30
  have CA__law_joined:=Cal.of (agn (P:=l.prog) (w:=w) (base:=base) F31 B CA__law_mix) b31 F31.kp m31
  have CA__law_leaves:=Cal.of (agj (P:=l.prog) (w:=w) (base:=base) F32 B CA__law_name CA__law_mix) b32 F32.kp m32
  have CA__law_row:=Cal.of (akl (P:=l.prog) (w:=w) (base:=base) F33 B) b33 F33.kp m33
  have CA__law_uneven:=Cal.of (agd (P:=l.prog) (w:=w) (base:=base) F34 B) b34 F34.kp m34
  have CA__law_ways:=Cal.of (aiw (P:=l.prog) (w:=w) (base:=base) F35 B) b35 F35.kp m35
  exact FnOk.imp (awb (P:=l.prog) (w:=w) (base:=base) FL B CA__law_leaves CA__law_joined CA__law_row CA_searched CA__law_uneven CA__law_ways xf) fun vs H Q E q=>a1v q
end K72
namespace H72
noncomputable section
open PySem PySem.W PySem.W.X L2 L3 PyProof.Rows
abbrev rr:=PySem.Challenge.rw_oncewise_k72_names_and_counts
abbrev p:Program:=PySem.Challenge.pw_oncewise_k72_names_and_counts
abbrev top:=K72.top
abbrev amp (i k:Nat):Stmt:=(agu (top i)).getD k (.Pass ⟨0,0,0,0⟩)
abbrev s (x:String):Str:=Str.ofString x
abbrev S (x:String) (t:Tok):Value:=.str (Str.ofString x) t
abbrev I (i:Int) (t:Tok):Value:=.int i t
abbrev R (a:Addr):Value:=.ref a
abbrev E (P:Params) (k:String) (t:Tok) (v:Value):DictEntry:=⟨PyData.keyHash P (Str.ofString k),.str (Str.ofString k) t,v⟩
abbrev O (c:Value) (d:Data):Obj:=⟨c,none,d,#[]⟩
abbrev FN (n q:String) (st:Stmt) (dV kV doc pm:Value) (an:Option Addr) (cd ct:Value):FuncData:=fnOf (Str.ofString n) (Str.ofString q) (jv st) (qr st) (qa st) dV kV doc pm an cd ct
abbrev FG (n q:String) (st:Stmt):FuncData:={ fnOf (Str.ofString n) (Str.ofString q) (jv st) (qr st) (qa st) .none .none .none .none none .none .none with globals:=0 }
abbrev tu (l:Array Value):Obj:=O (.type "tuple") (.seq l 0)
abbrev fo (f:FuncData):Obj:=O (.type "function") (.func f)
abbrev go (f:FuncData):Obj:=O .none (.func f)
abbrev co (n q:String) (t l a b c fl v:Nat) (o:Bool) (m k:Nat) (x y z u:Value) (d:Nat):Obj:=O (.type "code") (.fields #[S n t,S q (t+1),S "/claim/cut.py" (t+2),I l 0,I a 0,I b 0,I c 0,I fl 0,R v,.bool o,I m 0,R k,x,y,z,u,I d 0,I l 0,S "/claim/cut.py" (d+1)])
abbrev Ob:=Params→Obj
def ev {α:Type}:Bool→List α→List α
  | _,[]=>[]
  | true,x::r=>x::ev false r
  | false,_::r=>ev true r
def bt:Nat→List Obj→BT
  | 0,_=>.nil
  | _,[]=>.nil
  | n+1,x::r=>.node x (bt n (ev true r)) (bt n (ev false r))
def env0:Env:={ scope:=p.main.scope,locals:=mainNs,globals:=mainNs,cells:=[],code:=.ref 13,frame:=some 14 }
abbrev cE:Code:=.body (behindTheImports p) env0
abbrev q0:Pos:=⟨0,0,0,0⟩
abbrev an:Option Value:=some (.ref 6)
abbrev Pc (n:Nat) (S S':World→OsState→SharedT) (l:List Stmt) (q q':Pos) (w:World):Prop:=(fun os=>segRunT treeTable p w 11 an 1 n (S w os) (piecesOf l env0 cE q [topFrame q0]))=fun os=>some (Flow.next,S' w os,cE,q')
abbrev b0:=PySem.W.boot_o_0
abbrev b1:=PySem.W.boot_o_1
abbrev b2:=PySem.W.boot_o_2
abbrev b3:=PySem.W.boot_o_3
abbrev b4:=PySem.W.boot_o_4
abbrev b5:=PySem.W.boot_o_5
abbrev b6:=PySem.W.boot_o_6
abbrev b7:=PySem.W.boot_o_7
abbrev b8:=PySem.W.boot_o_8
abbrev b9:=PySem.W.boot_o_9
abbrev b10:=PySem.W.boot_o_10
def xaa:Ob:=fun _=>tu #[]
def xab:Ob:=fun _=>O .none (.fields #[])
def xac:Ob:=fun _=>co "<module>" "<module>" 182 1 0 0 0 0 11 false 181 12 .none .none .none .none 185
def xad:Ob:=fun _=>⟨(.type "frame"),none,.plain,#[(some (R 13)),(some (R 3)),(some (R 3)),none,(some (S "__main__" 164)),none,(some (R 0))]⟩
def xae:Ob:=fun P=>O (.type "dict") (.dict #[(E P "__name__" 165 (S "oncewise.errors" 187)),(E P "__doc__" 166 .none),(E P "__package__" 167 .none),(E P "__loader__" 168 (.builtin "__main__.__loader__#opaque")),(E P "__spec__" 169 .none),(E P "__annotations__" 170 (R 6)),(E P "__builtins__" 171 (R 4)),(E P "__file__" 173 (S "/claim/cut.py" 172)),(E P "__cached__" 174 .none),(E P "OnceError" 206 (R 24))] 10)
def xaf:Ob:=fun _=>tu #[(.type "ValueError")]
def xag:Ob:=fun P=>O (.type "dict") (.dict #[(E P "__module__" 196 (S "oncewise.errors" 187)),(E P "__firstlineno__" 200 (I 2 199)),(E P "__static_attributes__" 201 (R 22)),(E P "__weakref__" 203 (R 25)),(E P "__doc__" 204 .none)] 3)
def xah:Ob:=fun _=>O (.type "builtin_function_or_method") (.fields #[(.builtin "object.__init_subclass__"),R 24])
def xai:Ob:=fun P=>O (.type "dict") (.dict #[(E P "__module__" 196 (S "oncewise.errors" 187)),(E P "__qualname__" 198 (S "OnceError" 197)),(E P "__firstlineno__" 200 (I 2 199)),(E P "__static_attributes__" 201 (R 22))] 4)
def xaj:Ob:=fun _=>O (.type "getset_descriptor") (.fields #[S "__weakref__" 202,R 24,(.builtin "ExceptionGroup.__weakref__"),.none])
def xak:Ob:=fun _=>⟨(.type "frame"),none,.plain,#[(some (R 20)),(some (R 3)),(some (R 17)),none,(some (S "oncewise.errors" 187)),none,(some (R 0))]⟩
def xal:Ob:=fun _=>O (.type "builtin_function_or_method") (.fields #[(.builtin "type.__prepare__"),(.type "type")])
def xam:Ob:=fun _=>⟨(.type "type"),none,(.cls (ClassData.mk (s "OnceError") [(.type "ValueError")] [R 24,(.type "ValueError"),(.type "Exception"),(.type "BaseException"),(.type "object")] 23 (s "OnceError") true [] [] false none false)),#[(some (R 15)),none,(some (S "OnceError" 189)),(some (S "OnceError" 197)),(some (.builtin "ValueError.__new__")),(some (.bool true))]⟩
def xan:Ob:=fun _=>O .none (.fields #[I 2 0,I 0 0,R 20])
def xao:Ob:=fun _=>co "OnceError" "OnceError" 191 2 0 0 0 0 18 false 181 19 .none .none .none .none 194
def xap:Ob:=fun _=>O (.type "super") (.fields #[R 24,R 24,R 24])
def xaq:Ob:=fun P=>O (.type "dict") (.dict #[(E P "__name__" 165 (S "oncewise.errors" 187)),(E P "__doc__" 166 .none),(E P "__package__" 167 .none),(E P "__loader__" 168 (.builtin "__main__.__loader__#opaque")),(E P "__spec__" 169 .none),(E P "__annotations__" 170 (R 6)),(E P "__builtins__" 171 (R 4)),(E P "__file__" 173 (S "/claim/cut.py" 172)),(E P "__cached__" 174 .none),(E P "OnceError" 206 (R 24)),(E P "NoWord" 222 (R 37))] 11)
def xar:Ob:=fun _=>O (.type "builtin_function_or_method") (.fields #[(.builtin "object.__init_subclass__"),R 37])
def xas:Ob:=fun _=>co "NoWord" "NoWord" 209 4 0 0 0 0 31 false 181 32 .none .none .none .none 212
def xat:Ob:=fun _=>⟨(.type "type"),none,(.cls (ClassData.mk (s "NoWord") [R 24] [R 37,R 24,(.type "ValueError"),(.type "Exception"),(.type "BaseException"),(.type "object")] 36 (s "NoWord") true [] [] false none false)),#[(some (R 28)),none,(some (S "NoWord" 207)),(some (S "NoWord" 215)),(some (.builtin "ValueError.__new__")),(some (.bool true))]⟩
def xau:Ob:=fun _=>⟨(.type "type"),none,(.cls (ClassData.mk (s "OnceError") [(.type "ValueError")] [R 24,(.type "ValueError"),(.type "Exception"),(.type "BaseException"),(.type "object")] 23 (s "OnceError") true [] [R 37] false none false)),#[(some (R 15)),none,(some (S "OnceError" 189)),(some (S "OnceError" 197)),(some (.builtin "ValueError.__new__")),(some (.bool true))]⟩
def xav:Ob:=fun _=>O .none (.fields #[I 2 0,I 0 0,R 20,I 4 0,I 0 0,R 33])
def xaw:Ob:=fun P=>O (.type "dict") (.dict #[(E P "__module__" 214 (S "oncewise.errors" 187)),(E P "__firstlineno__" 218 (I 4 217)),(E P "__static_attributes__" 219 (R 35)),(E P "__doc__" 220 .none)] 2)
def xax:Ob:=fun _=>tu #[R 24]
def xay:Ob:=fun _=>⟨(.type "frame"),none,.plain,#[(some (R 33)),(some (R 3)),(some (R 30)),none,(some (S "oncewise.errors" 187)),none,(some (R 0))]⟩
def xaz:Ob:=fun _=>O (.type "super") (.fields #[R 37,R 37,R 37])
def xa0:Ob:=fun P=>O (.type "dict") (.dict #[(E P "__module__" 214 (S "oncewise.errors" 187)),(E P "__qualname__" 216 (S "NoWord" 215)),(E P "__firstlineno__" 218 (I 4 217)),(E P "__static_attributes__" 219 (R 35))] 4)
def xa1:Ob:=fun P=>O (.type "dict") (.dict #[(E P "__name__" 165 (S "oncewise.errors" 187)),(E P "__doc__" 166 .none),(E P "__package__" 167 .none),(E P "__loader__" 168 (.builtin "__main__.__loader__#opaque")),(E P "__spec__" 169 .none),(E P "__annotations__" 170 (R 6)),(E P "__builtins__" 171 (R 4)),(E P "__file__" 173 (S "/claim/cut.py" 172)),(E P "__cached__" 174 .none),(E P "OnceError" 206 (R 24)),(E P "NoWord" 222 (R 37)),(E P "BadWeb" 238 (R 49))] 12)
def xa2:Ob:=fun _=>O (.type "builtin_function_or_method") (.fields #[(.builtin "object.__init_subclass__"),R 49])
def xa3:Ob:=fun _=>⟨(.type "type"),none,(.cls (ClassData.mk (s "BadWeb") [R 24] [R 49,R 24,(.type "ValueError"),(.type "Exception"),(.type "BaseException"),(.type "object")] 48 (s "BadWeb") true [] [] false none false)),#[(some (R 40)),none,(some (S "BadWeb" 223)),(some (S "BadWeb" 231)),(some (.builtin "ValueError.__new__")),(some (.bool true))]⟩
def xa4:Ob:=fun _=>co "BadWeb" "BadWeb" 225 6 0 0 0 0 43 false 181 44 .none .none .none .none 228
def xa5:Ob:=fun P=>O (.type "dict") (.dict #[(E P "__module__" 230 (S "oncewise.errors" 187)),(E P "__firstlineno__" 234 (I 6 233)),(E P "__static_attributes__" 235 (R 47)),(E P "__doc__" 236 .none)] 2)
def xa6:Ob:=fun _=>⟨(.type "type"),none,(.cls (ClassData.mk (s "OnceError") [(.type "ValueError")] [R 24,(.type "ValueError"),(.type "Exception"),(.type "BaseException"),(.type "object")] 23 (s "OnceError") true [] [R 37,R 49] false none false)),#[(some (R 15)),none,(some (S "OnceError" 189)),(some (S "OnceError" 197)),(some (.builtin "ValueError.__new__")),(some (.bool true))]⟩
def xa7:Ob:=fun _=>O .none (.fields #[I 2 0,I 0 0,R 20,I 4 0,I 0 0,R 33,I 6 0,I 0 0,R 45])
def xa8:Ob:=fun _=>O (.type "super") (.fields #[R 49,R 49,R 49])
def xa9:Ob:=fun P=>O (.type "dict") (.dict #[(E P "__module__" 230 (S "oncewise.errors" 187)),(E P "__qualname__" 232 (S "BadWeb" 231)),(E P "__firstlineno__" 234 (I 6 233)),(E P "__static_attributes__" 235 (R 47))] 4)
def xba:Ob:=fun _=>⟨(.type "frame"),none,.plain,#[(some (R 45)),(some (R 3)),(some (R 42)),none,(some (S "oncewise.errors" 187)),none,(some (R 0))]⟩
def xbb:Ob:=fun P=>O (.type "dict") (.dict #[(E P "__name__" 165 (S "oncewise.errors" 187)),(E P "__doc__" 166 .none),(E P "__package__" 167 .none),(E P "__loader__" 168 (.builtin "__main__.__loader__#opaque")),(E P "__spec__" 169 .none),(E P "__annotations__" 170 (R 6)),(E P "__builtins__" 171 (R 4)),(E P "__file__" 173 (S "/claim/cut.py" 172)),(E P "__cached__" 174 .none),(E P "OnceError" 206 (R 24)),(E P "NoWord" 222 (R 37)),(E P "BadWeb" 238 (R 49)),(E P "NoTree" 264 (R 68))] 13)
def xbc:Ob:=fun _=>go (FG "__init__" "NoTree.__init__" (amp 4 0))
def xbd:Ob:=fun P=>O (.type "dict") (.dict #[(E P "__module__" 246 (S "oncewise.errors" 187)),(E P "__firstlineno__" 250 (I 8 249)),(E P "__init__" 259 (R 65)),(E P "__static_attributes__" 261 (R 66)),(E P "__doc__" 262 .none)] 2)
def xbe:Ob:=fun _=>fo (FN "__init__" "NoTree.__init__" (amp 4 0) .none .none .none (S "oncewise.errors" 187) none (R 64) .none)
def xbf:Ob:=fun _=>co "NoTree" "NoTree" 241 8 0 0 0 0 55 false 181 56 .none .none .none .none 244
def xbg:Ob:=fun _=>O (.type "super") (.fields #[R 68,R 68,R 68])
def xbh:Ob:=fun _=>tu #[S "self" 254,S "words" 255,S "choices" 256]
def xbi:Ob:=fun _=>co "__init__" "NoTree.__init__" 251 10 3 0 0 3 59 true 181 60 .none (R 61) (R 62) (R 63) 257
def xbj:Ob:=fun _=>⟨(.type "type"),none,(.cls (ClassData.mk (s "OnceError") [(.type "ValueError")] [R 24,(.type "ValueError"),(.type "Exception"),(.type "BaseException"),(.type "object")] 23 (s "OnceError") true [] [R 37,R 49,R 68] false none false)),#[(some (R 15)),none,(some (S "OnceError" 189)),(some (S "OnceError" 197)),(some (.builtin "ValueError.__new__")),(some (.bool true))]⟩
def xbk:Ob:=fun _=>O .none (.fields #[I 10 0,I 4 0,R 64])
def xbl:Ob:=fun _=>O .none (.fields #[I 2 0,I 0 0,R 20,I 4 0,I 0 0,R 33,I 6 0,I 0 0,R 45,I 8 0,I 0 0,R 57])
def xbm:Ob:=fun _=>⟨(.type "type"),none,(.cls (ClassData.mk (s "NoTree") [R 24] [R 68,R 24,(.type "ValueError"),(.type "Exception"),(.type "BaseException"),(.type "object")] 67 (s "NoTree") true [] [] false none false)),#[(some (R 52)),none,(some (S "NoTree" 239)),(some (S "NoTree" 247)),(some (.builtin "ValueError.__new__")),(some (.bool true))]⟩
def xbn:Ob:=fun _=>tu #[S "choices" 260]
def xbo:Ob:=fun _=>⟨(.type "frame"),none,.plain,#[(some (R 57)),(some (R 3)),(some (R 54)),none,(some (S "oncewise.errors" 187)),none,(some (R 0))]⟩
def xbp:Ob:=fun _=>O (.type "builtin_function_or_method") (.fields #[(.builtin "object.__init_subclass__"),R 68])
def xbq:Ob:=fun P=>O (.type "dict") (.dict #[(E P "__module__" 246 (S "oncewise.errors" 187)),(E P "__qualname__" 248 (S "NoTree" 247)),(E P "__firstlineno__" 250 (I 8 249)),(E P "__init__" 259 (R 65)),(E P "__static_attributes__" 261 (R 66))] 5)
def xbr:Ob:=fun P=>O (.type "dict") (.dict #[(E P "__name__" 165 (S "oncewise.pieces" 281)),(E P "__doc__" 166 .none),(E P "__package__" 167 .none),(E P "__loader__" 168 (.builtin "__main__.__loader__#opaque")),(E P "__spec__" 169 .none),(E P "__annotations__" 170 (R 6)),(E P "__builtins__" 171 (R 4)),(E P "__file__" 173 (S "/claim/cut.py" 172)),(E P "__cached__" 174 .none),(E P "OnceError" 206 (R 24)),(E P "NoWord" 222 (R 37)),(E P "BadWeb" 238 (R 49)),(E P "NoTree" 264 (R 68)),(E P "TooMany" 280 (R 80))] 14)
def xbs:Ob:=fun P=>O (.type "dict") (.dict #[(E P "__module__" 272 (S "oncewise.errors" 187)),(E P "__firstlineno__" 276 (I 13 275)),(E P "__static_attributes__" 277 (R 78)),(E P "__doc__" 278 .none)] 2)
def xbt:Ob:=fun _=>O (.type "super") (.fields #[R 80,R 80,R 80])
def xbu:Ob:=fun P=>O (.type "dict") (.dict #[(E P "__module__" 272 (S "oncewise.errors" 187)),(E P "__qualname__" 274 (S "TooMany" 273)),(E P "__firstlineno__" 276 (I 13 275)),(E P "__static_attributes__" 277 (R 78))] 4)
def xbv:Ob:=fun _=>⟨(.type "frame"),none,.plain,#[(some (R 76)),(some (R 3)),(some (R 73)),none,(some (S "oncewise.errors" 187)),none,(some (R 0))]⟩
def xbw:Ob:=fun _=>⟨(.type "type"),none,(.cls (ClassData.mk (s "TooMany") [R 24] [R 80,R 24,(.type "ValueError"),(.type "Exception"),(.type "BaseException"),(.type "object")] 79 (s "TooMany") true [] [] false none false)),#[(some (R 71)),none,(some (S "TooMany" 265)),(some (S "TooMany" 273)),(some (.builtin "ValueError.__new__")),(some (.bool true))]⟩
def xbx:Ob:=fun _=>⟨(.type "type"),none,(.cls (ClassData.mk (s "OnceError") [(.type "ValueError")] [R 24,(.type "ValueError"),(.type "Exception"),(.type "BaseException"),(.type "object")] 23 (s "OnceError") true [] [R 37,R 49,R 68,R 80] false none false)),#[(some (R 15)),none,(some (S "OnceError" 189)),(some (S "OnceError" 197)),(some (.builtin "ValueError.__new__")),(some (.bool true))]⟩
def xby:Ob:=fun _=>O .none (.fields #[I 2 0,I 0 0,R 20,I 4 0,I 0 0,R 33,I 6 0,I 0 0,R 45,I 8 0,I 0 0,R 57,I 13 0,I 0 0,R 76])
def xbz:Ob:=fun _=>co "TooMany" "TooMany" 267 13 0 0 0 0 74 false 181 75 .none .none .none .none 270
def xb0:Ob:=fun _=>O (.type "builtin_function_or_method") (.fields #[(.builtin "object.__init_subclass__"),R 80])
def xb1:Ob:=fun P=>O (.type "dict") (.dict #[(E P "__name__" 165 (S "oncewise.words" 332)),(E P "__doc__" 166 .none),(E P "__package__" 167 .none),(E P "__loader__" 168 (.builtin "__main__.__loader__#opaque")),(E P "__spec__" 169 .none),(E P "__annotations__" 170 (R 6)),(E P "__builtins__" 171 (R 4)),(E P "__file__" 173 (S "/claim/cut.py" 172)),(E P "__cached__" 174 .none),(E P "OnceError" 206 (R 24)),(E P "NoWord" 222 (R 37)),(E P "BadWeb" 238 (R 49)),(E P "NoTree" 264 (R 68)),(E P "TooMany" 280 (R 80)),(E P "Pieces" 331 (R 113)),(E P "LEAF_KINDS" 336 (R 118)),(E P "TURNED_KINDS" 349 (R 119))] 17)
def xb2:Ob:=fun _=>co "__init__" "Pieces.__init__" 295 18 2 0 0 3 90 true 181 91 .none (R 92) (R 93) (R 94) 300
def xb3:Ob:=fun _=>tu #[S "heads" 323]
def xb4:Ob:=fun _=>fo (FN "head_of" "Pieces.head_of" (amp 7 1) .none .none .none (S "oncewise.pieces" 281) none (R 102) .none)
def xb5:Ob:=fun _=>O .none (.fields #[I 18 0,I 4 0,R 95,I 21 0,I 4 0,R 102,I 28 0,I 4 0,R 109])
def xb6:Ob:=fun P=>O (.type "dict") (.dict #[(E P "plain" 337 (S "turned" 338)),(E P "turned" 339 (S "plain" 340)),(E P "both" 341 (S "either" 342)),(E P "either" 343 (S "both" 344))] 4)
def xb7:Ob:=fun _=>tu #[S "self" 306,S "place" 307,S "here" 308]
def xb8:Ob:=fun _=>O (.type "getset_descriptor") (.fields #[S "__weakref__" 327,R 113,(.builtin "ExceptionGroup.__weakref__"),.none])
def xb9:Ob:=fun _=>⟨(.type "type"),none,(.cls (ClassData.mk (s "Pieces") [(.type "object")] [R 113,(.type "object")] 112 (s "Pieces") true [] [] false none false)),#[none,none,(some (S "Pieces" 283)),(some (S "Pieces" 291)),(some (.builtin "object.__new__")),(some (.bool true))]⟩
def xca:Ob:=fun _=>⟨(.type "frame"),none,.plain,#[(some (R 88)),(some (R 3)),(some (R 85)),none,(some (S "oncewise.pieces" 281)),none,(some (R 0))]⟩
def xcb:Ob:=fun _=>go (FG "head_of" "Pieces.head_of" (amp 7 1))
def xcc:Ob:=fun P=>O (.type "dict") (.dict #[(E P "__module__" 290 (S "oncewise.pieces" 281)),(E P "__qualname__" 292 (S "Pieces" 291)),(E P "__firstlineno__" 294 (I 16 293)),(E P "__init__" 302 (R 96)),(E P "head_of" 311 (R 103)),(E P "unite" 322 (R 110)),(E P "__static_attributes__" 324 (R 111))] 7)
def xcd:Ob:=fun _=>O (.type "builtin_function_or_method") (.fields #[(.builtin "object.__init_subclass__"),R 113])
def xce:Ob:=fun _=>co "unite" "Pieces.unite" 312 28 3 0 0 3 104 true 181 105 .none (R 106) (R 107) (R 108) 320
def xcf:Ob:=fun _=>fo (FN "__init__" "Pieces.__init__" (amp 7 0) .none .none .none (S "oncewise.pieces" 281) none (R 95) .none)
def xcg:Ob:=fun P=>O (.type "dict") (.dict #[(E P "__module__" 290 (S "oncewise.pieces" 281)),(E P "__firstlineno__" 294 (I 16 293)),(E P "__init__" 302 (R 96)),(E P "head_of" 311 (R 103)),(E P "unite" 322 (R 110)),(E P "__static_attributes__" 324 (R 111)),(E P "__dict__" 326 (R 114)),(E P "__weakref__" 328 (R 115)),(E P "__doc__" 329 .none)] 4)
def xch:Ob:=fun _=>co "Pieces" "Pieces" 285 16 0 0 0 0 86 false 181 87 .none .none .none .none 288
def xci:Ob:=fun _=>O .none (.fields #[I 2 0,I 0 0,R 20,I 4 0,I 0 0,R 33,I 6 0,I 0 0,R 45,I 8 0,I 0 0,R 57,I 13 0,I 0 0,R 76,I 16 0,I 0 0,R 88])
def xcj:Ob:=fun _=>O (.type "super") (.fields #[R 113,R 113,R 113])
def xck:Ob:=fun _=>go (FG "unite" "Pieces.unite" (amp 7 2))
def xcl:Ob:=fun _=>tu #[S "self" 298,S "count" 299]
def xcm:Ob:=fun _=>O (.type "getset_descriptor") (.fields #[S "__dict__" 325,R 113,(.builtin "function.__dict__"),(.builtin "function.__dict__#set")])
def xcn:Ob:=fun _=>tu #[S "self" 315,S "p" 316,S "q" 317,S "first" 318,S "second" 319]
def xco:Ob:=fun _=>co "head_of" "Pieces.head_of" 303 21 2 0 0 3 97 true 181 98 .none (R 99) (R 100) (R 101) 309
def xcp:Ob:=fun _=>tu #[S "plain" 334,S "turned" 335]
def xcq:Ob:=fun _=>fo (FN "unite" "Pieces.unite" (amp 7 2) .none .none .none (S "oncewise.pieces" 281) none (R 109) .none)
def xcr:Ob:=fun _=>go (FG "__init__" "Pieces.__init__" (amp 7 0))
def xcs:Ob:=fun P=>O (.type "dict") (.dict #[(E P "__name__" 165 (S "oncewise.shrinking" 423)),(E P "__doc__" 166 .none),(E P "__package__" 167 .none),(E P "__loader__" 168 (.builtin "__main__.__loader__#opaque")),(E P "__spec__" 169 .none),(E P "__annotations__" 170 (R 6)),(E P "__builtins__" 171 (R 4)),(E P "__file__" 173 (S "/claim/cut.py" 172)),(E P "__cached__" 174 .none),(E P "OnceError" 206 (R 24)),(E P "NoWord" 222 (R 37)),(E P "BadWeb" 238 (R 49)),(E P "NoTree" 264 (R 68)),(E P "TooMany" 280 (R 80)),(E P "Pieces" 331 (R 113)),(E P "LEAF_KINDS" 336 (R 118)),(E P "TURNED_KINDS" 349 (R 119)),(E P "is_leaf" 356 (R 126)),(E P "turned" 364 (R 133)),(E P "leaves_of" 371 (R 140)),(E P "lay_word" 383 (R 147)),(E P "laid" 393 (R 154)),(E P "places_there" 399 (R 159)),(E P "parts_of" 406 (R 166)),(E P "places_in" 416 (R 173)),(E P "eithers_of" 422 (R 178)),(E P "boths_of" 430 (R 183)),(E P "part_edges" 436 (R 188)),(E P "joins_of" 443 (R 195)),(E P "join_steps" 454 (R 202))] 30)
def xct:Ob:=fun _=>tu #[S "web" 440]
def xcu:Ob:=fun _=>fo (FN "places_there" "places_there" (top 17) .none .none .none (S "oncewise.webs" 372) none (R 158) .none)
def xcv:Ob:=fun _=>tu #[S "knots" 377,S "word" 378,S "left" 379,S "right" 380]
def xcw:Ob:=fun _=>fo (FN "boths_of" "boths_of" (top 22) .none .none .none (S "oncewise.shrinking" 423) none (R 182) .none)
def xcx:Ob:=fun _=>go (FG "turned" "turned" (top 12))
def xcy:Ob:=fun _=>fo (FN "joins_of" "joins_of" (top 24) .none .none .none (S "oncewise.shrinking" 423) none (R 194) .none)
def xcz:Ob:=fun _=>fo (FN "lay_word" "lay_word" (top 15) .none .none .none (S "oncewise.webs" 372) none (R 146) .none)
def xc0:Ob:=fun _=>co "leaves_of" "leaves_of" 365 43 1 0 0 3 134 true 181 135 .none (R 136) (R 137) (R 138) 369
def xc1:Ob:=fun _=>go (FG "places_in" "places_in" (top 19))
def xc2:Ob:=fun _=>co "part_edges" "part_edges" 431 79 2 0 0 3 184 true 181 185 .none .none .none (R 186) 434
def xc3:Ob:=fun _=>tu #[S "word" 360,S "kind" 361]
def xc4:Ob:=fun _=>go (FG "joins_of" "joins_of" (top 24))
def xc5:Ob:=fun _=>go (FG "lay_word" "lay_word" (top 15))
def xc6:Ob:=fun _=>co "eithers_of" "eithers_of" 417 74 1 0 0 3 174 true 181 175 .none .none .none (R 176) 420
def xc7:Ob:=fun _=>co "join_steps" "join_steps" 444 86 2 0 0 3 196 true 181 197 .none (R 198) (R 199) (R 200) 452
def xc8:Ob:=fun _=>tu #[S "pairs" 410,S "places" 411,S "p" 412,S "q" 413]
def xc9:Ob:=fun _=>co "laid" "laid" 384 56 1 0 0 3 148 true 181 149 .none (R 150) (R 151) (R 152) 391
def xda:Ob:=fun _=>fo (FN "turned" "turned" (top 12) .none .none .none (S "oncewise.words" 332) none (R 132) .none)
def xdb:Ob:=fun _=>co "parts_of" "parts_of" 400 64 1 0 0 3 160 true 181 161 .none (R 162) (R 163) (R 164) 404
def xdc:Ob:=fun _=>go (FG "boths_of" "boths_of" (top 22))
def xdd:Ob:=fun _=>fo (FN "places_in" "places_in" (top 19) .none .none .none (S "oncewise.webs" 372) none (R 172) .none)
def xde:Ob:=fun _=>go (FG "places_there" "places_there" (top 17))
def xdf:Ob:=fun _=>co "is_leaf" "is_leaf" 350 36 1 0 0 3 120 true 181 121 .none (R 122) (R 123) (R 124) 354
def xdg:Ob:=fun _=>go (FG "eithers_of" "eithers_of" (top 20))
def xdh:Ob:=fun _=>tu #[S "word" 368]
def xdi:Ob:=fun _=>go (FG "join_steps" "join_steps" (top 25))
def xdj:Ob:=fun _=>go (FG "laid" "laid" (top 16))
def xdk:Ob:=fun _=>O .none (.fields #[I 2 0,I 0 0,R 20,I 4 0,I 0 0,R 33,I 6 0,I 0 0,R 45,I 8 0,I 0 0,R 57,I 13 0,I 0 0,R 76,I 16 0,I 0 0,R 88,I 36 0,I 0 0,R 125,I 38 0,I 0 0,R 132,I 43 0,I 0 0,R 139,I 48 0,I 0 0,R 146,I 56 0,I 0 0,R 153,I 62 0,I 0 0,R 158,I 64 0,I 0 0,R 165,I 68 0,I 0 0,R 172,I 74 0,I 0 0,R 177,I 77 0,I 0 0,R 182,I 79 0,I 0 0,R 187,I 84 0,I 0 0,R 194,I 86 0,I 0 0,R 201])
def xdl:Ob:=fun _=>co "turned" "turned" 357 38 1 0 0 3 127 true 181 128 .none (R 129) (R 130) (R 131) 362
def xdm:Ob:=fun _=>go (FG "parts_of" "parts_of" (top 18))
def xdn:Ob:=fun _=>fo (FN "leaves_of" "leaves_of" (top 13) .none .none .none (S "oncewise.words" 332) none (R 139) .none)
def xdo:Ob:=fun _=>co "places_in" "places_in" 407 68 1 0 0 3 167 true 181 168 .none (R 169) (R 170) (R 171) 414
def xdp:Ob:=fun _=>go (FG "is_leaf" "is_leaf" (top 11))
def xdq:Ob:=fun _=>fo (FN "part_edges" "part_edges" (top 23) .none .none .none (S "oncewise.shrinking" 423) none (R 187) .none)
def xdr:Ob:=fun _=>co "joins_of" "joins_of" 437 84 1 0 0 3 189 true 181 190 .none (R 191) (R 192) (R 193) 441
def xds:Ob:=fun _=>tu #[S "knot" 403]
def xdt:Ob:=fun _=>co "lay_word" "lay_word" 374 48 2 0 0 3 141 true 181 142 .none (R 143) (R 144) (R 145) 381
def xdu:Ob:=fun _=>fo (FN "eithers_of" "eithers_of" (top 20) .none .none .none (S "oncewise.webs" 372) none (R 177) .none)
def xdv:Ob:=fun _=>go (FG "leaves_of" "leaves_of" (top 13))
def xdw:Ob:=fun _=>fo (FN "join_steps" "join_steps" (top 25) .none .none .none (S "oncewise.shrinking" 423) none (R 201) .none)
def xdx:Ob:=fun _=>fo (FN "laid" "laid" (top 16) .none .none .none (S "oncewise.webs" 372) none (R 153) .none)
def xdy:Ob:=fun _=>tu #[S "word" 353]
def xdz:Ob:=fun _=>go (FG "part_edges" "part_edges" (top 23))
def xd0:Ob:=fun _=>tu #[S "pieces" 447,S "joins" 448,S "steps" 449,S "p" 450,S "q" 451]
def xd1:Ob:=fun _=>fo (FN "parts_of" "parts_of" (top 18) .none .none .none (S "oncewise.webs" 372) none (R 165) .none)
def xd2:Ob:=fun _=>tu #[S "words" 387,S "knots" 388,S "places" 389,S "word" 390]
def xd3:Ob:=fun _=>co "boths_of" "boths_of" 425 77 1 0 0 3 179 true 181 180 .none .none .none (R 181) 428
def xd4:Ob:=fun _=>co "places_there" "places_there" 394 62 1 0 0 3 155 true 181 156 .none .none .none (R 157) 397
def xd5:Ob:=fun _=>fo (FN "is_leaf" "is_leaf" (top 11) .none .none .none (S "oncewise.words" 332) none (R 125) .none)
def xd6:Ob:=fun P=>O (.type "dict") (.dict #[(E P "__name__" 165 (S "oncewise.searching" 515)),(E P "__doc__" 166 .none),(E P "__package__" 167 .none),(E P "__loader__" 168 (.builtin "__main__.__loader__#opaque")),(E P "__spec__" 169 .none),(E P "__annotations__" 170 (R 6)),(E P "__builtins__" 171 (R 4)),(E P "__file__" 173 (S "/claim/cut.py" 172)),(E P "__cached__" 174 .none),(E P "OnceError" 206 (R 24)),(E P "NoWord" 222 (R 37)),(E P "BadWeb" 238 (R 49)),(E P "NoTree" 264 (R 68)),(E P "TooMany" 280 (R 80)),(E P "Pieces" 331 (R 113)),(E P "LEAF_KINDS" 336 (R 118)),(E P "TURNED_KINDS" 349 (R 119)),(E P "is_leaf" 356 (R 126)),(E P "turned" 364 (R 133)),(E P "leaves_of" 371 (R 140)),(E P "lay_word" 383 (R 147)),(E P "laid" 393 (R 154)),(E P "places_there" 399 (R 159)),(E P "parts_of" 406 (R 166)),(E P "places_in" 416 (R 173)),(E P "eithers_of" 422 (R 178)),(E P "boths_of" 430 (R 183)),(E P "part_edges" 436 (R 188)),(E P "joins_of" 443 (R 195)),(E P "join_steps" 454 (R 202)),(E P "can_fold" 460 (R 207)),(E P "fold_steps" 472 (R 214)),(E P "steps_by" 482 (R 221)),(E P "all_come_together" 492 (R 228)),(E P "right_web" 499 (R 235)),(E P "first_bad" 514 (R 242)),(E P "leaves_in" 525 (R 249)),(E P "first_uneven" 533 (R 256)),(E P "tries_due" 545 (R 263)),(E P "linked_further" 551 (R 268)),(E P "ways_to_link" 557 (R 273)),(E P "linked_or_tried" 568 (R 280))] 42)
def xd7:Ob:=fun _=>co "first_uneven" "first_uneven" 526 132 1 0 0 3 250 true 181 251 .none (R 252) (R 253) (R 254) 531
def xd8:Ob:=fun _=>go (FG "ways_to_link" "ways_to_link" (top 37))
def xd9:Ob:=fun _=>fo (FN "can_fold" "can_fold" (top 26) .none .none .none (S "oncewise.shrinking" 423) none (R 206) .none)
def xea:Ob:=fun _=>fo (FN "tries_due" "tries_due" (top 35) .none .none .none (S "oncewise.searching" 515) none (R 262) .none)
def xeb:Ob:=fun _=>tu #[S "web" 496]
def xec:Ob:=fun _=>co "linked_or_tried" "linked_or_tried" 558 163 1 0 0 3 274 true 181 275 .none (R 276) (R 277) (R 278) 566
def xed:Ob:=fun _=>go (FG "leaves_in" "leaves_in" (top 33))
def xee:Ob:=fun _=>tu #[S "words" 537,S "leaves" 538,S "ways" 539,S "counts" 540,S "kind" 541,S "name" 542]
def xef:Ob:=fun _=>co "all_come_together" "all_come_together" 483 108 3 0 0 3 222 true 181 223 .none (R 224) (R 225) (R 226) 490
def xeg:Ob:=fun _=>co "linked_further" "linked_further" 546 148 3 0 0 3 264 true 181 265 .none .none .none (R 266) 549
def xeh:Ob:=fun _=>fo (FN "right_web" "right_web" (top 30) .none .none .none (S "oncewise.shrinking" 423) none (R 234) .none)
def xei:Ob:=fun _=>go (FG "steps_by" "steps_by" (top 28))
def xej:Ob:=fun _=>fo (FN "ways_to_link" "ways_to_link" (top 37) .none .none .none (S "oncewise.searching" 515) none (R 272) .none)
def xek:Ob:=fun _=>co "first_bad" "first_bad" 500 113 1 0 0 3 236 true 181 237 .none (R 238) (R 239) (R 240) 512
def xel:Ob:=fun _=>go (FG "right_web" "right_web" (top 30))
def xem:Ob:=fun _=>tu #[S "knots" 476,S "joins" 477,S "eithers" 478,S "pieces" 479]
def xen:Ob:=fun _=>fo (FN "leaves_in" "leaves_in" (top 33) .none .none .none (S "oncewise.searching" 515) none (R 248) .none)
def xeo:Ob:=fun _=>go (FG "tries_due" "tries_due" (top 35))
def xep:Ob:=fun _=>co "fold_steps" "fold_steps" 461 95 3 0 0 3 208 true 181 209 .none (R 210) (R 211) (R 212) 470
def xeq:Ob:=fun _=>tu #[S "words" 520,S "leaves" 521,S "word" 522]
def xer:Ob:=fun _=>go (FG "can_fold" "can_fold" (top 26))
def xes:Ob:=fun _=>fo (FN "steps_by" "steps_by" (top 28) .none .none .none (S "oncewise.shrinking" 423) none (R 220) .none)
def xet:Ob:=fun _=>fo (FN "first_uneven" "first_uneven" (top 34) .none .none .none (S "oncewise.searching" 515) none (R 255) .none)
def xeu:Ob:=fun _=>tu #[S "knots" 486,S "joins" 487,S "eithers" 488,S "due" 489]
def xev:Ob:=fun _=>co "ways_to_link" "ways_to_link" 552 157 1 0 0 3 269 true 181 270 .none .none .none (R 271) 555
def xew:Ob:=fun _=>go (FG "first_bad" "first_bad" (top 31))
def xex:Ob:=fun _=>fo (FN "linked_or_tried" "linked_or_tried" (top 38) .none .none .none (S "oncewise.searching" 515) none (R 279) .none)
def xey:Ob:=fun _=>co "leaves_in" "leaves_in" 517 127 1 0 0 3 243 true 181 244 .none (R 245) (R 246) (R 247) 523
def xez:Ob:=fun _=>O .none (.fields #[I 2 0,I 0 0,R 20,I 4 0,I 0 0,R 33,I 6 0,I 0 0,R 45,I 8 0,I 0 0,R 57,I 13 0,I 0 0,R 76,I 16 0,I 0 0,R 88,I 36 0,I 0 0,R 125,I 38 0,I 0 0,R 132,I 43 0,I 0 0,R 139,I 48 0,I 0 0,R 146,I 56 0,I 0 0,R 153,I 62 0,I 0 0,R 158,I 64 0,I 0 0,R 165,I 68 0,I 0 0,R 172,I 74 0,I 0 0,R 177,I 77 0,I 0 0,R 182,I 79 0,I 0 0,R 187,I 84 0,I 0 0,R 194,I 86 0,I 0 0,R 201,I 92 0,I 0 0,R 206,I 95 0,I 0 0,R 213,I 105 0,I 0 0,R 220,I 108 0,I 0 0,R 227,I 111 0,I 0 0,R 234,I 113 0,I 0 0,R 241,I 127 0,I 0 0,R 248,I 132 0,I 0 0,R 255,I 137 0,I 0 0,R 262,I 148 0,I 0 0,R 267,I 157 0,I 0 0,R 272,I 163 0,I 0 0,R 279])
def xe0:Ob:=fun _=>fo (FN "all_come_together" "all_come_together" (top 29) .none .none .none (S "oncewise.shrinking" 423) none (R 227) .none)
def xe1:Ob:=fun _=>tu #[S "knots" 561,S "tried" 562,S "links" 563,S "web" 564,S "choices" 565]
def xe2:Ob:=fun _=>go (FG "fold_steps" "fold_steps" (top 27))
def xe3:Ob:=fun _=>fo (FN "linked_further" "linked_further" (top 36) .none .none .none (S "oncewise.searching" 515) none (R 267) .none)
def xe4:Ob:=fun _=>co "steps_by" "steps_by" 473 105 3 0 0 3 215 true 181 216 .none (R 217) (R 218) (R 219) 480
def xe5:Ob:=fun _=>tu #[S "leaves" 529,S "leaf" 530]
def xe6:Ob:=fun _=>go (FG "all_come_together" "all_come_together" (top 29))
def xe7:Ob:=fun _=>tu #[S "pieces" 464,S "knots" 465,S "eithers" 466,S "steps" 467,S "before" 468,S "place" 469]
def xe8:Ob:=fun _=>fo (FN "first_bad" "first_bad" (top 31) .none .none .none (S "oncewise.shrinking" 423) none (R 241) .none)
def xe9:Ob:=fun _=>go (FG "linked_further" "linked_further" (top 36))
def xfa:Ob:=fun _=>co "right_web" "right_web" 493 111 1 0 0 3 229 true 181 230 .none (R 231) (R 232) (R 233) 497
def xfb:Ob:=fun _=>co "tries_due" "tries_due" 534 137 1 0 0 3 257 true 181 258 .none (R 259) (R 260) (R 261) 543
def xfc:Ob:=fun _=>go (FG "linked_or_tried" "linked_or_tried" (top 38))
def xfd:Ob:=fun _=>fo (FN "fold_steps" "fold_steps" (top 27) .none .none .none (S "oncewise.shrinking" 423) none (R 213) .none)
def xfe:Ob:=fun _=>co "can_fold" "can_fold" 455 92 3 0 0 3 203 true 181 204 .none .none .none (R 205) 458
def xff:Ob:=fun _=>tu #[S "web" 503,S "knots" 504,S "joins" 505,S "eithers" 506,S "choices" 507,S "number" 508,S "place" 509,S "left" 510,S "choice" 511]
def xfg:Ob:=fun _=>go (FG "first_uneven" "first_uneven" (top 34))
def xfh:Ob:=fun P=>O (.type "dict") (.dict #[(E P "__name__" 165 (S "law_oncewise_k72_names_and_counts" 576)),(E P "__doc__" 166 .none),(E P "__package__" 167 .none),(E P "__loader__" 168 (.builtin "__main__.__loader__#opaque")),(E P "__spec__" 169 .none),(E P "__annotations__" 170 (R 6)),(E P "__builtins__" 171 (R 4)),(E P "__file__" 173 (S "/claim/cut.py" 172)),(E P "__cached__" 174 .none),(E P "OnceError" 206 (R 24)),(E P "NoWord" 222 (R 37)),(E P "BadWeb" 238 (R 49)),(E P "NoTree" 264 (R 68)),(E P "TooMany" 280 (R 80)),(E P "Pieces" 331 (R 113)),(E P "LEAF_KINDS" 336 (R 118)),(E P "TURNED_KINDS" 349 (R 119)),(E P "is_leaf" 356 (R 126)),(E P "turned" 364 (R 133)),(E P "leaves_of" 371 (R 140)),(E P "lay_word" 383 (R 147)),(E P "laid" 393 (R 154)),(E P "places_there" 399 (R 159)),(E P "parts_of" 406 (R 166)),(E P "places_in" 416 (R 173)),(E P "eithers_of" 422 (R 178)),(E P "boths_of" 430 (R 183)),(E P "part_edges" 436 (R 188)),(E P "joins_of" 443 (R 195)),(E P "join_steps" 454 (R 202)),(E P "can_fold" 460 (R 207)),(E P "fold_steps" 472 (R 214)),(E P "steps_by" 482 (R 221)),(E P "all_come_together" 492 (R 228)),(E P "right_web" 499 (R 235)),(E P "first_bad" 514 (R 242)),(E P "leaves_in" 525 (R 249)),(E P "first_uneven" 533 (R 256)),(E P "tries_due" 545 (R 263)),(E P "linked_further" 551 (R 268)),(E P "ways_to_link" 557 (R 273)),(E P "linked_or_tried" 568 (R 280)),(E P "searched" 575 (R 286)),(E P "_law_mix" 586 (R 293)),(E P "_law_name" 592 (R 298)),(E P "_law_joined" 608 (R 305)),(E P "_law_leaves" 623 (R 312)),(E P "_law_row" 634 (R 319)),(E P "_law_uneven" 642 (R 326)),(E P "_law_ways" 652 (R 333)),(E P "law" 672 (R 340))] 51)
def xfi:Ob:=fun _=>fo (FN "_law_row" "_law_row" (top 45) .none .none .none (S "law_oncewise_k72_names_and_counts" 576) none (R 318) .none)
def xfj:Ob:=fun _=>go (FG "_law_joined" "_law_joined" (top 43))
def xfk:Ob:=fun _=>co "_law_leaves" "_law_leaves" 609 209 3 0 0 3 306 true 181 307 .none (R 308) (R 309) (R 310) 621
def xfl:Ob:=fun _=>go (FG "_law_mix" "_law_mix" (top 41))
def xfm:Ob:=fun _=>co "law" "law" 653 247 1 0 0 3 334 true 181 335 .none (R 336) (R 337) (R 338) 670
def xfn:Ob:=fun _=>go (FG "_law_ways" "_law_ways" (top 47))
def xfo:Ob:=fun _=>tu #[S "_law_words" 627,S "_law_stack" 628,S "_law_leaves_here" 629,S "_law_boths" 630,S "_law_part" 631]
def xfp:Ob:=fun _=>tu #[S "_law_cell" 581,S "_law_k" 582,S "_law_factor" 583]
def xfq:Ob:=fun _=>fo (FN "_law_joined" "_law_joined" (top 43) .none .none .none (S "law_oncewise_k72_names_and_counts" 576) none (R 304) .none)
def xfr:Ob:=fun _=>tu #[S "_law_leaves_here" 646,S "_law_due" 647,S "_law_seen" 648,S "_law_leaf" 649]
def xfs:Ob:=fun _=>co "_law_name" "_law_name" 587 187 2 0 0 3 294 true 181 295 .none .none .none (R 296) 590
def xft:Ob:=fun _=>tu #[I 120 569]
def xfu:Ob:=fun _=>co "_law_uneven" "_law_uneven" 635 234 1 0 0 3 320 true 181 321 .none (R 322) (R 323) (R 324) 640
def xfv:Ob:=fun _=>fo (FN "_law_mix" "_law_mix" (top 41) .none .none .none (S "law_oncewise_k72_names_and_counts" 576) none (R 292) .none)
def xfw:Ob:=fun _=>fo (FN "_law_ways" "_law_ways" (top 47) .none .none .none (S "law_oncewise_k72_names_and_counts" 576) none (R 332) .none)
def xfx:Ob:=fun _=>tu #[S "_law_leaves_here" 596,S "_law_cells" 597,S "_law_boths" 598,S "_law_eithers" 599,S "_law_words" 600,S "_law_more" 601,S "_law_other" 602,S "_law_number" 603,S "_law_kind" 604,S "_law_at" 605]
def xfy:Ob:=fun _=>co "searched" "searched" 570 172 2 0 0 3 282 true 181 283 .none .none .none (R 284) 573
def xfz:Ob:=fun _=>go (FG "_law_row" "_law_row" (top 45))
def xf0:Ob:=fun _=>tu #[S "_law_script" 656,S "_law_seed" 657,S "_law_cells" 658,S "_law_leaves_here" 659,S "_law_half" 660,S "_law_boths" 661,S "_law_words" 662,S "_law_most" 663,S "_law_asked" 664,S "_law_found" 665,S "_law_error" 666,S "caught" 667,S "_law_name_here" 668,S "_law_other" 669]
def xf1:Ob:=fun _=>co "_law_joined" "_law_joined" 593 196 4 0 0 3 299 true 181 300 .none (R 301) (R 302) (R 303) 606
def xf2:Ob:=fun _=>go (FG "_law_name" "_law_name" (top 42))
def xf3:Ob:=fun _=>fo (FN "_law_leaves" "_law_leaves" (top 44) .none .none .none (S "law_oncewise_k72_names_and_counts" 576) none (R 311) .none)
def xf4:Ob:=fun _=>O .none (.fields #[I 2 0,I 0 0,R 20,I 4 0,I 0 0,R 33,I 6 0,I 0 0,R 45,I 8 0,I 0 0,R 57,I 13 0,I 0 0,R 76,I 16 0,I 0 0,R 88,I 36 0,I 0 0,R 125,I 38 0,I 0 0,R 132,I 43 0,I 0 0,R 139,I 48 0,I 0 0,R 146,I 56 0,I 0 0,R 153,I 62 0,I 0 0,R 158,I 64 0,I 0 0,R 165,I 68 0,I 0 0,R 172,I 74 0,I 0 0,R 177,I 77 0,I 0 0,R 182,I 79 0,I 0 0,R 187,I 84 0,I 0 0,R 194,I 86 0,I 0 0,R 201,I 92 0,I 0 0,R 206,I 95 0,I 0 0,R 213,I 105 0,I 0 0,R 220,I 108 0,I 0 0,R 227,I 111 0,I 0 0,R 234,I 113 0,I 0 0,R 241,I 127 0,I 0 0,R 248,I 132 0,I 0 0,R 255,I 137 0,I 0 0,R 262,I 148 0,I 0 0,R 267,I 157 0,I 0 0,R 272,I 163 0,I 0 0,R 279,I 172 0,I 0 0,R 285,I 185 0,I 0 0,R 292,I 187 0,I 0 0,R 297,I 196 0,I 0 0,R 304,I 209 0,I 0 0,R 311,I 221 0,I 0 0,R 318,I 234 0,I 0 0,R 325,I 239 0,I 0 0,R 332,I 247 0,I 0 0,R 339])
def xf5:Ob:=fun _=>go (FG "_law_uneven" "_law_uneven" (top 46))
def xf6:Ob:=fun _=>co "_law_mix" "_law_mix" 578 185 3 0 0 3 287 true 181 288 .none (R 289) (R 290) (R 291) 584
def xf7:Ob:=fun _=>fo (FN "law" "law" (top 48) .none .none .none (S "law_oncewise_k72_names_and_counts" 576) none (R 339) .none)
def xf8:Ob:=fun _=>tu #[S "_law_cells" 612,S "_law_seed" 613,S "_law_even" 614,S "_law_sides" 615,S "_law_leaves_here" 616,S "_law_k" 617,S "_law_cell" 618,S "_law_number" 619,S "_law_leaf" 620]
def xf9:Ob:=fun _=>co "_law_ways" "_law_ways" 643 239 1 0 0 3 327 true 181 328 .none (R 329) (R 330) (R 331) 650
def xga:Ob:=fun _=>go (FG "searched" "searched" (top 39))
def xgb:Ob:=fun _=>tu #[S "_law_leaves_here" 638,S "_law_leaf" 639]
def xgc:Ob:=fun _=>go (FG "law" "law" (top 48))
def xgd:Ob:=fun _=>fo (FN "_law_name" "_law_name" (top 42) .none .none .none (S "law_oncewise_k72_names_and_counts" 576) none (R 297) .none)
def xge:Ob:=fun _=>fo (FN "_law_uneven" "_law_uneven" (top 46) .none .none .none (S "law_oncewise_k72_names_and_counts" 576) none (R 325) .none)
def xgf:Ob:=fun _=>go (FG "_law_leaves" "_law_leaves" (top 44))
def xgg:Ob:=fun _=>fo (FN "searched" "searched" (top 39) (R 281) .none .none (S "oncewise.searching" 515) none (R 285) .none)
def xgh:Ob:=fun _=>co "_law_row" "_law_row" 624 221 1 0 0 3 313 true 181 314 .none (R 315) (R 316) (R 317) 632
def a4k:List Ob:=[b0,b1,b2,b3,b4,b5,b6,b7,b8,b9,b10,xaa,xab,xac,xad]
def a51:List Ob:=[b0,b1,b2,xfh,b4,b5,b6,b7,b8,b9,b10,xaa,xf4,xac,xad,xaf,xal,xai,xaa,xab,xao,xak,xaa,xag,xbx,xaj,xap,xah,xax,xal,xa0,xaa,xab,xas,xay,xaa,xaw,xat,xaz,xar,xax,xal,xa9,xaa,xab,xa4,xba,xaa,xa5,xa3,xa8,xa2,xax,xal,xbq,xaa,xbk,xbf,xbo,xaa,xab,xbh,xaa,xbc,xbi,xbe,xbn,xbd,xbm,xbg,xbp,xax,xal,xbu,xaa,xab,xbz,xbv,xaa,xbs,xbw,xbt,xb0,xaa,xal,xcc,xaa,xb5,xch,xca,xaa,xab,xcl,xaa,xcr,xb2,xcf,xaa,xab,xb7,xaa,xcb,xco,xb4,xaa,xab,xcn,xaa,xck,xce,xcq,xb3,xcg,xb9,xcm,xb8,xcj,xcd,xcp,xb6,xaa,xab,xdy,xaa,xdp,xdf,xd5,xaa,xab,xc3,xaa,xcx,xdl,xda,xaa,xab,xdh,xaa,xdv,xc0,xdn,xaa,xab,xcv,xaa,xc5,xdt,xcz,xaa,xab,xd2,xaa,xdj,xc9,xdx,xaa,xab,xde,xd4,xcu,xaa,xab,xds,xaa,xdm,xdb,xd1,xaa,xab,xc8,xaa,xc1,xdo,xdd,xaa,xab,xdg,xc6,xdu,xaa,xab,xdc,xd3,xcw,xaa,xab,xdz,xc2,xdq,xaa,xab,xct,xaa,xc4,xdr,xcy,xaa,xab,xd0,xaa,xdi,xc7,xdw,xaa,xab,xer,xfe,xd9,xaa,xab,xe7,xaa,xe2,xep,xfd,xaa,xab,xem,xaa,xei,xe4,xes,xaa,xab,xeu,xaa,xe6,xef,xe0,xaa,xab,xeb,xaa,xel,xfa,xeh,xaa,xab,xff,xaa,xew,xek,xe8,xaa,xab,xeq,xaa,xed,xey,xen,xaa,xab,xe5,xaa,xfg,xd7,xet,xaa,xab,xee,xaa,xeo,xfb,xea,xaa,xab,xe9,xeg,xe3,xaa,xab,xd8,xev,xej,xaa,xab,xe1,xaa,xfc,xec,xex,xft,xaa,xab,xga,xfy,xgg,xaa,xab,xfp,xaa,xfl,xf6,xfv,xaa,xab,xf2,xfs,xgd,xaa,xab,xfx,xaa,xfj,xf1,xfq,xaa,xab,xf8,xaa,xgf,xfk,xf3,xaa,xab,xfo,xaa,xfz,xgh,xfi,xaa,xab,xgb,xaa,xf5,xfu,xge,xaa,xab,xfr,xaa,xfn,xf9,xfw,xaa,xab,xf0,xaa,xgc,xfm,xf7]
def a4d:List Ob:=[b0,b1,b2,b3,b4,b5,b6,b7,b8,b9,b10,xaa,xab,xac,xad]
def a58:List Ob:=[b0,b1,b2,xae,b4,b5,b6,b7,b8,b9,b10,xaa,xan,xac,xad,xaf,xal,xai,xaa,xab,xao,xak,xaa,xag,xam,xaj,xap,xah]
def a4j:List Ob:=[b0,b1,b2,xaq,b4,b5,b6,b7,b8,b9,b10,xaa,xav,xac,xad,xaf,xal,xai,xaa,xab,xao,xak,xaa,xag,xau,xaj,xap,xah,xax,xal,xa0,xaa,xab,xas,xay,xaa,xaw,xat,xaz,xar]
def a5p:List Ob:=[b0,b1,b2,xa1,b4,b5,b6,b7,b8,b9,b10,xaa,xa7,xac,xad,xaf,xal,xai,xaa,xab,xao,xak,xaa,xag,xa6,xaj,xap,xah,xax,xal,xa0,xaa,xab,xas,xay,xaa,xaw,xat,xaz,xar,xax,xal,xa9,xaa,xab,xa4,xba,xaa,xa5,xa3,xa8,xa2]
def a5n:List Ob:=[b0,b1,b2,xbb,b4,b5,b6,b7,b8,b9,b10,xaa,xbl,xac,xad,xaf,xal,xai,xaa,xab,xao,xak,xaa,xag,xbj,xaj,xap,xah,xax,xal,xa0,xaa,xab,xas,xay,xaa,xaw,xat,xaz,xar,xax,xal,xa9,xaa,xab,xa4,xba,xaa,xa5,xa3,xa8,xa2,xax,xal,xbq,xaa,xbk,xbf,xbo,xaa,xab,xbh,xaa,xbc,xbi,xbe,xbn,xbd,xbm,xbg,xbp]
def a5o:List Ob:=[b0,b1,b2,xbr,b4,b5,b6,b7,b8,b9,b10,xaa,xby,xac,xad,xaf,xal,xai,xaa,xab,xao,xak,xaa,xag,xbx,xaj,xap,xah,xax,xal,xa0,xaa,xab,xas,xay,xaa,xaw,xat,xaz,xar,xax,xal,xa9,xaa,xab,xa4,xba,xaa,xa5,xa3,xa8,xa2,xax,xal,xbq,xaa,xbk,xbf,xbo,xaa,xab,xbh,xaa,xbc,xbi,xbe,xbn,xbd,xbm,xbg,xbp,xax,xal,xbu,xaa,xab,xbz,xbv,xaa,xbs,xbw,xbt,xb0]
def a4b:List Ob:=[b0,b1,b2,xb1,b4,b5,b6,b7,b8,b9,b10,xaa,xci,xac,xad,xaf,xal,xai,xaa,xab,xao,xak,xaa,xag,xbx,xaj,xap,xah,xax,xal,xa0,xaa,xab,xas,xay,xaa,xaw,xat,xaz,xar,xax,xal,xa9,xaa,xab,xa4,xba,xaa,xa5,xa3,xa8,xa2,xax,xal,xbq,xaa,xbk,xbf,xbo,xaa,xab,xbh,xaa,xbc,xbi,xbe,xbn,xbd,xbm,xbg,xbp,xax,xal,xbu,xaa,xab,xbz,xbv,xaa,xbs,xbw,xbt,xb0,xaa,xal,xcc,xaa,xb5,xch,xca,xaa,xab,xcl,xaa,xcr,xb2,xcf,xaa,xab,xb7,xaa,xcb,xco,xb4,xaa,xab,xcn,xaa,xck,xce,xcq,xb3,xcg,xb9,xcm,xb8,xcj,xcd,xcp,xb6]
def a4o:List Ob:=[b0,b1,b2,xcs,b4,b5,b6,b7,b8,b9,b10,xaa,xdk,xac,xad,xaf,xal,xai,xaa,xab,xao,xak,xaa,xag,xbx,xaj,xap,xah,xax,xal,xa0,xaa,xab,xas,xay,xaa,xaw,xat,xaz,xar,xax,xal,xa9,xaa,xab,xa4,xba,xaa,xa5,xa3,xa8,xa2,xax,xal,xbq,xaa,xbk,xbf,xbo,xaa,xab,xbh,xaa,xbc,xbi,xbe,xbn,xbd,xbm,xbg,xbp,xax,xal,xbu,xaa,xab,xbz,xbv,xaa,xbs,xbw,xbt,xb0,xaa,xal,xcc,xaa,xb5,xch,xca,xaa,xab,xcl,xaa,xcr,xb2,xcf,xaa,xab,xb7,xaa,xcb,xco,xb4,xaa,xab,xcn,xaa,xck,xce,xcq,xb3,xcg,xb9,xcm,xb8,xcj,xcd,xcp,xb6,xaa,xab,xdy,xaa,xdp,xdf,xd5,xaa,xab,xc3,xaa,xcx,xdl,xda,xaa,xab,xdh,xaa,xdv,xc0,xdn,xaa,xab,xcv,xaa,xc5,xdt,xcz,xaa,xab,xd2,xaa,xdj,xc9,xdx,xaa,xab,xde,xd4,xcu,xaa,xab,xds,xaa,xdm,xdb,xd1,xaa,xab,xc8,xaa,xc1,xdo,xdd,xaa,xab,xdg,xc6,xdu,xaa,xab,xdc,xd3,xcw,xaa,xab,xdz,xc2,xdq,xaa,xab,xct,xaa,xc4,xdr,xcy,xaa,xab,xd0,xaa,xdi,xc7,xdw]
def a5j:List Ob:=[b0,b1,b2,xd6,b4,b5,b6,b7,b8,b9,b10,xaa,xez,xac,xad,xaf,xal,xai,xaa,xab,xao,xak,xaa,xag,xbx,xaj,xap,xah,xax,xal,xa0,xaa,xab,xas,xay,xaa,xaw,xat,xaz,xar,xax,xal,xa9,xaa,xab,xa4,xba,xaa,xa5,xa3,xa8,xa2,xax,xal,xbq,xaa,xbk,xbf,xbo,xaa,xab,xbh,xaa,xbc,xbi,xbe,xbn,xbd,xbm,xbg,xbp,xax,xal,xbu,xaa,xab,xbz,xbv,xaa,xbs,xbw,xbt,xb0,xaa,xal,xcc,xaa,xb5,xch,xca,xaa,xab,xcl,xaa,xcr,xb2,xcf,xaa,xab,xb7,xaa,xcb,xco,xb4,xaa,xab,xcn,xaa,xck,xce,xcq,xb3,xcg,xb9,xcm,xb8,xcj,xcd,xcp,xb6,xaa,xab,xdy,xaa,xdp,xdf,xd5,xaa,xab,xc3,xaa,xcx,xdl,xda,xaa,xab,xdh,xaa,xdv,xc0,xdn,xaa,xab,xcv,xaa,xc5,xdt,xcz,xaa,xab,xd2,xaa,xdj,xc9,xdx,xaa,xab,xde,xd4,xcu,xaa,xab,xds,xaa,xdm,xdb,xd1,xaa,xab,xc8,xaa,xc1,xdo,xdd,xaa,xab,xdg,xc6,xdu,xaa,xab,xdc,xd3,xcw,xaa,xab,xdz,xc2,xdq,xaa,xab,xct,xaa,xc4,xdr,xcy,xaa,xab,xd0,xaa,xdi,xc7,xdw,xaa,xab,xer,xfe,xd9,xaa,xab,xe7,xaa,xe2,xep,xfd,xaa,xab,xem,xaa,xei,xe4,xes,xaa,xab,xeu,xaa,xe6,xef,xe0,xaa,xab,xeb,xaa,xel,xfa,xeh,xaa,xab,xff,xaa,xew,xek,xe8,xaa,xab,xeq,xaa,xed,xey,xen,xaa,xab,xe5,xaa,xfg,xd7,xet,xaa,xab,xee,xaa,xeo,xfb,xea,xaa,xab,xe9,xeg,xe3,xaa,xab,xd8,xev,xej,xaa,xab,xe1,xaa,xfc,xec,xex]
def a4w:List Ob:=[b0,b1,b2,xfh,b4,b5,b6,b7,b8,b9,b10,xaa,xf4,xac,xad,xaf,xal,xai,xaa,xab,xao,xak,xaa,xag,xbx,xaj,xap,xah,xax,xal,xa0,xaa,xab,xas,xay,xaa,xaw,xat,xaz,xar,xax,xal,xa9,xaa,xab,xa4,xba,xaa,xa5,xa3,xa8,xa2,xax,xal,xbq,xaa,xbk,xbf,xbo,xaa,xab,xbh,xaa,xbc,xbi,xbe,xbn,xbd,xbm,xbg,xbp,xax,xal,xbu,xaa,xab,xbz,xbv,xaa,xbs,xbw,xbt,xb0,xaa,xal,xcc,xaa,xb5,xch,xca,xaa,xab,xcl,xaa,xcr,xb2,xcf,xaa,xab,xb7,xaa,xcb,xco,xb4,xaa,xab,xcn,xaa,xck,xce,xcq,xb3,xcg,xb9,xcm,xb8,xcj,xcd,xcp,xb6,xaa,xab,xdy,xaa,xdp,xdf,xd5,xaa,xab,xc3,xaa,xcx,xdl,xda,xaa,xab,xdh,xaa,xdv,xc0,xdn,xaa,xab,xcv,xaa,xc5,xdt,xcz,xaa,xab,xd2,xaa,xdj,xc9,xdx,xaa,xab,xde,xd4,xcu,xaa,xab,xds,xaa,xdm,xdb,xd1,xaa,xab,xc8,xaa,xc1,xdo,xdd,xaa,xab,xdg,xc6,xdu,xaa,xab,xdc,xd3,xcw,xaa,xab,xdz,xc2,xdq,xaa,xab,xct,xaa,xc4,xdr,xcy,xaa,xab,xd0,xaa,xdi,xc7,xdw,xaa,xab,xer,xfe,xd9,xaa,xab,xe7,xaa,xe2,xep,xfd,xaa,xab,xem,xaa,xei,xe4,xes,xaa,xab,xeu,xaa,xe6,xef,xe0,xaa,xab,xeb,xaa,xel,xfa,xeh,xaa,xab,xff,xaa,xew,xek,xe8,xaa,xab,xeq,xaa,xed,xey,xen,xaa,xab,xe5,xaa,xfg,xd7,xet,xaa,xab,xee,xaa,xeo,xfb,xea,xaa,xab,xe9,xeg,xe3,xaa,xab,xd8,xev,xej,xaa,xab,xe1,xaa,xfc,xec,xex,xft,xaa,xab,xga,xfy,xgg,xaa,xab,xfp,xaa,xfl,xf6,xfv,xaa,xab,xf2,xfs,xgd,xaa,xab,xfx,xaa,xfj,xf1,xfq,xaa,xab,xf8,xaa,xgf,xfk,xf3,xaa,xab,xfo,xaa,xfz,xgh,xfi,xaa,xab,xgb,xaa,xf5,xfu,xge,xaa,xab,xfr,xaa,xfn,xf9,xfw,xaa,xab,xf0,xaa,xgc,xfm,xf7]
def hpA (P:Params):Heap:=⟨⟨a4k.map (· P)⟩,{}⟩
def hpZ (P:Params):Heap:=⟨⟨a51.map (· P)⟩,{}⟩
def tr0 (P:Params):BT:=bt 20 (a4d.map (· P))
def tr1 (P:Params):BT:=bt 20 (a58.map (· P))
def tr2 (P:Params):BT:=bt 20 (a4j.map (· P))
def tr3 (P:Params):BT:=bt 20 (a5p.map (· P))
def tr4 (P:Params):BT:=bt 20 (a5n.map (· P))
def tr5 (P:Params):BT:=bt 20 (a5o.map (· P))
def tr6 (P:Params):BT:=bt 20 (a4b.map (· P))
def tr7 (P:Params):BT:=bt 20 (a4o.map (· P))
def tr8 (P:Params):BT:=bt 20 (a5j.map (· P))
def tr9 (P:Params):BT:=bt 20 (a4w.map (· P))
def sA (w:World) (os:OsState):Shared:=⟨hpA w.params,#[],{},187,os⟩
def sZ (w:World) (os:OsState):Shared:=⟨hpZ w.params,#[],{},673,os⟩
def st0 (w:World) (os:OsState):SharedT:=⟨tr0 w.params,15,{},#[],{},187,os⟩
def st1 (w:World) (os:OsState):SharedT:=⟨tr1 w.params,28,{},#[],{},207,os⟩
def st2 (w:World) (os:OsState):SharedT:=⟨tr2 w.params,40,{},#[],{},223,os⟩
def st3 (w:World) (os:OsState):SharedT:=⟨tr3 w.params,52,{},#[],{},239,os⟩
def st4 (w:World) (os:OsState):SharedT:=⟨tr4 w.params,71,{},#[],{},265,os⟩
def st5 (w:World) (os:OsState):SharedT:=⟨tr5 w.params,83,{},#[],{},283,os⟩
def st6 (w:World) (os:OsState):SharedT:=⟨tr6 w.params,120,{},#[],{},350,os⟩
def st7 (w:World) (os:OsState):SharedT:=⟨tr7 w.params,203,{},#[],{},455,os⟩
def st8 (w:World) (os:OsState):SharedT:=⟨tr8 w.params,281,{},#[],{},569,os⟩
def st9 (w:World) (os:OsState):SharedT:=⟨tr9 w.params,341,{},#[],{},673,os⟩
def a1j:List Stmt:=((behindTheImports p).drop 0).take 2
def axa:List Stmt:=((behindTheImports p).drop 2).take 1
def aub:List Stmt:=((behindTheImports p).drop 3).take 1
def ar9:List Stmt:=((behindTheImports p).drop 4).take 1
def anu:List Stmt:=((behindTheImports p).drop 5).take 2
def aj9:List Stmt:=((behindTheImports p).drop 7).take 4
def ald:List Stmt:=((behindTheImports p).drop 11).take 15
def aj6:List Stmt:=((behindTheImports p).drop 26).take 13
def ah8:List Stmt:=((behindTheImports p).drop 39).take 10
theorem a5i (w:World):(fun os=>topGo treeTable p w 11 an 12 ⟨boot_heap w.params,#[],boot_drawn,boot_toks,os⟩ (topStub p))=fun os=>some (sA w os,⟨denote treeTable cE,cE,⟨0,0,0,0⟩,[topFrame q0]⟩):=by kernel_rfl
theorem a4p (w:World):(fun os=>segRun treeTable p w 11 an 1 1 (sA w os) (blockOf (behindTheImports p) env0 cE ⟨0,0,0,0⟩ [topFrame q0]))=fun os=>some (.next,(st0 w os).abs,cE,⟨0,0,0,0⟩):=by kernel_rfl
theorem pc1:∀ w,Pc 196 st0 st1 a1j ⟨0,0,0,0⟩ ⟨2,0,3,8⟩ w:=fun w=>by kernel_rfl
theorem pc2:∀ w,Pc 214 st1 st2 axa ⟨2,0,3,8⟩ ⟨4,0,5,8⟩ w:=fun w=>by kernel_rfl
theorem pc3:∀ w,Pc 214 st2 st3 aub ⟨4,0,5,8⟩ ⟨6,0,7,8⟩ w:=fun w=>by kernel_rfl
theorem pc4:∀ w,Pc 247 st3 st4 ar9 ⟨6,0,7,8⟩ ⟨8,0,12,36⟩ w:=fun w=>by kernel_rfl
theorem pc5:∀ w,Pc 223 st4 st5 anu ⟨8,0,12,36⟩ ⟨15,0,15,8⟩ w:=fun w=>by kernel_rfl
theorem a4a (w:World):Pc 382 st5 st6 aj9 ⟨15,0,15,8⟩ ⟨35,0,35,12⟩ (w.withFollow "special-get-raises" false):=by kernel_rfl
theorem a4n (w:World):Pc 382 st5 st6 aj9 ⟨15,0,15,8⟩ ⟨35,0,35,12⟩ (w.withFollow "special-get-raises" true):=by kernel_rfl
theorem pc6:∀ w,Pc 382 st5 st6 aj9 ⟨15,0,15,8⟩ ⟨35,0,35,12⟩ w:=byRow2 "special-get-raises" a4a a4n
theorem pc7:∀ w,Pc 398 st6 st7 ald ⟨35,0,35,12⟩ ⟨86,0,91,16⟩ w:=fun w=>by kernel_rfl
theorem pc8:∀ w,Pc 380 st7 st8 aj6 ⟨86,0,91,16⟩ ⟨163,0,171,27⟩ w:=fun w=>by kernel_rfl
theorem pc9:∀ w,Pc 307 st8 st9 ah8 ⟨163,0,171,27⟩ ⟨247,0,274,78⟩ w:=fun w=>by kernel_rfl
theorem a5h (w:World):(fun os=>topRun treeTable p w 11 an 2 (st9 w os).abs ⟨doneF .next,cE,⟨247,0,274,78⟩,[topFrame q0]⟩)=fun os=>some (sZ w os):=by kernel_rfl
theorem a41:a1j++(axa++(aub++(ar9++(anu++(aj9++(ald++(aj6++(ah8++([])))))))))=behindTheImports p:=by kernel_rfl
theorem a4e (w:World) (os:OsState):topRun treeTable p w 11 an (12+(1+(196+(214+(214+(247+(223+(382+(398+(380+(307+(2)))))))))))) ⟨boot_heap w.params,#[],boot_drawn,boot_toks,os⟩ (topStub p)=some (sZ w os):=by
  have h:=(piece_app (l:=a1j) (rest:=axa++(aub++(ar9++(anu++(aj9++(ald++(aj6++(ah8++([]))))))))) (segRun_of (congrFun (pc1 w) os)) (piece_app (l:=axa) (rest:=aub++(ar9++(anu++(aj9++(ald++(aj6++(ah8++([])))))))) (segRun_of (congrFun (pc2 w) os)) (piece_app (l:=aub) (rest:=ar9++(anu++(aj9++(ald++(aj6++(ah8++([]))))))) (segRun_of (congrFun (pc3 w) os)) (piece_app (l:=ar9) (rest:=anu++(aj9++(ald++(aj6++(ah8++([])))))) (segRun_of (congrFun (pc4 w) os)) (piece_app (l:=anu) (rest:=aj9++(ald++(aj6++(ah8++([]))))) (segRun_of (congrFun (pc5 w) os)) (piece_app (l:=aj9) (rest:=ald++(aj6++(ah8++([])))) (segRun_of (congrFun (pc6 w) os)) (piece_app (l:=ald) (rest:=aj6++(ah8++([]))) (segRun_of (congrFun (pc7 w) os)) (piece_app (l:=aj6) (rest:=ah8++([])) (segRun_of (congrFun (pc8 w) os)) (piece_app (l:=ah8) (rest:=[]) (segRun_of (congrFun (pc9 w) os)) (piece_nil (env:=env0) (congrFun (a5h w) os)))))))))))
  rw [a41] at h
  exact go_top (congrFun (a5i w) os) (piece_block (congrFun (a4p w) os) h)
def as0:List Nat:=[0,1,2,3,4,5,6,7,8,9,10,11,12,13,14,15,22,23,24,25,28,35,36,37,40,47,48,49,52,59,60,61,62,63,64,65,66,67,68,71,78,79,80,90,91,92,93,94,95,96,97,98,99,100,101,102,103,104,105,106,107,108,109,110,111,112,113,114,115,118,119,120,121,122,123,124,125,126,127,128,129,130,131,132,133,134,135,136,137,138,139,140,141,142,143,144,145,146,147,148,149,150,151,152,153,154,155,156,157,158,159,160,161,162,163,164,165,166,167,168,169,170,171,172,173,174,175,176,177,178,179,180,181,182,183,184,185,186,187,188,189,190,191,192,193,194,195,196,197,198,199,200,201,202,203,204,205,206,207,208,209,210,211,212,213,214,215,216,217,218,219,220,221,222,223,224,225,226,227,228,229,230,231,232,233,234,235,236,237,238,239,240,241,242,243,244,245,246,247,248,249,250,251,252,253,254,255,256,257,258,259,260,261,262,263,264,265,266,267,268,269,270,271,272,273,274,275,276,277,278,279,280,281,282,283,284,285,286,287,288,289,290,291,292,293,294,295,296,297,298,299,300,301,302,303,304,305,306,307,308,309,310,311,312,313,314,315,316,317,318,319,320,321,322,323,324,325,326,327,328,329,330,331,332,333,334,335,336,337,338,339,340]
def vw:Program:={ p with main:={ p.main with body:=[top 1,top 2,top 3,top 4,top 5,top 7,top 9,top 10,top 11,top 12,top 13,top 15,top 16,top 17,top 18,top 19,top 20,top 22,top 23,top 24,top 25,top 26,top 27,top 28,top 29,top 30,top 31,top 33,top 34,top 35,top 36,top 37,top 38,top 41,top 42,top 43,top 44,top 45,top 46,top 47,top 48] } }
def K0:Params→Frag:=fun P=>(nat_lit 0,b0 P)::(nat_lit 1,b1 P)::(nat_lit 2,b2 P)::(nat_lit 3,xfh P)::(nat_lit 4,b4 P)::(nat_lit 5,b5 P)::(nat_lit 6,b6 P)::(nat_lit 7,b7 P)::(nat_lit 8,b8 P)::(nat_lit 9,b9 P)::(nat_lit 10,b10 P)::(nat_lit 11,xaa P)::(nat_lit 12,xf4 P)::(nat_lit 13,xac P)::(nat_lit 14,xad P)::(nat_lit 15,xaf P)::(nat_lit 22,xaa P)::(nat_lit 23,xag P)::(nat_lit 24,xbx P)::(nat_lit 25,xaj P)::(nat_lit 28,xax P)::(nat_lit 35,xaa P)::(nat_lit 36,xaw P)::(nat_lit 37,xat P)::(nat_lit 40,xax P)::(nat_lit 47,xaa P)::(nat_lit 48,xa5 P)::(nat_lit 49,xa3 P)::(nat_lit 52,xax P)::(nat_lit 59,xaa P)::(nat_lit 60,xab P)::(nat_lit 61,xbh P)::(nat_lit 62,xaa P)::(nat_lit 63,xbc P)::(nat_lit 64,xbi P)::(nat_lit 65,xbe P)::(nat_lit 66,xbn P)::(nat_lit 67,xbd P)::(nat_lit 68,xbm P)::(nat_lit 71,xax P)::(nat_lit 78,xaa P)::(nat_lit 79,xbs P)::(nat_lit 80,xbw P)::(nat_lit 90,xaa P)::(nat_lit 91,xab P)::(nat_lit 92,xcl P)::(nat_lit 93,xaa P)::(nat_lit 94,xcr P)::(nat_lit 95,xb2 P)::(nat_lit 96,xcf P)::(nat_lit 97,xaa P)::(nat_lit 98,xab P)::(nat_lit 99,xb7 P)::(nat_lit 100,xaa P)::(nat_lit 101,xcb P)::(nat_lit 102,xco P)::(nat_lit 103,xb4 P)::(nat_lit 104,xaa P)::(nat_lit 105,xab P)::(nat_lit 106,xcn P)::(nat_lit 107,xaa P)::(nat_lit 108,xck P)::(nat_lit 109,xce P)::(nat_lit 110,xcq P)::(nat_lit 111,xb3 P)::(nat_lit 112,xcg P)::(nat_lit 113,xb9 P)::(nat_lit 114,xcm P)::(nat_lit 115,xb8 P)::(nat_lit 118,xcp P)::(nat_lit 119,xb6 P)::(nat_lit 120,xaa P)::(nat_lit 121,xab P)::(nat_lit 122,xdy P)::(nat_lit 123,xaa P)::(nat_lit 124,xdp P)::(nat_lit 125,xdf P)::(nat_lit 126,xd5 P)::(nat_lit 127,xaa P)::(nat_lit 128,xab P)::(nat_lit 129,xc3 P)::(nat_lit 130,xaa P)::(nat_lit 131,xcx P)::(nat_lit 132,xdl P)::(nat_lit 133,xda P)::(nat_lit 134,xaa P)::(nat_lit 135,xab P)::(nat_lit 136,xdh P)::(nat_lit 137,xaa P)::(nat_lit 138,xdv P)::(nat_lit 139,xc0 P)::(nat_lit 140,xdn P)::(nat_lit 141,xaa P)::(nat_lit 142,xab P)::(nat_lit 143,xcv P)::(nat_lit 144,xaa P)::(nat_lit 145,xc5 P)::(nat_lit 146,xdt P)::(nat_lit 147,xcz P)::(nat_lit 148,xaa P)::(nat_lit 149,xab P)::(nat_lit 150,xd2 P)::(nat_lit 151,xaa P)::(nat_lit 152,xdj P)::(nat_lit 153,xc9 P)::(nat_lit 154,xdx P)::(nat_lit 155,xaa P)::(nat_lit 156,xab P)::(nat_lit 157,xde P)::(nat_lit 158,xd4 P)::(nat_lit 159,xcu P)::(nat_lit 160,xaa P)::(nat_lit 161,xab P)::(nat_lit 162,xds P)::(nat_lit 163,xaa P)::(nat_lit 164,xdm P)::(nat_lit 165,xdb P)::(nat_lit 166,xd1 P)::(nat_lit 167,xaa P)::(nat_lit 168,xab P)::(nat_lit 169,xc8 P)::(nat_lit 170,xaa P)::(nat_lit 171,xc1 P)::(nat_lit 172,xdo P)::(nat_lit 173,xdd P)::(nat_lit 174,xaa P)::(nat_lit 175,xab P)::(nat_lit 176,xdg P)::(nat_lit 177,xc6 P)::(nat_lit 178,xdu P)::(nat_lit 179,xaa P)::(nat_lit 180,xab P)::(nat_lit 181,xdc P)::(nat_lit 182,xd3 P)::(nat_lit 183,xcw P)::(nat_lit 184,xaa P)::(nat_lit 185,xab P)::(nat_lit 186,xdz P)::(nat_lit 187,xc2 P)::(nat_lit 188,xdq P)::(nat_lit 189,xaa P)::(nat_lit 190,xab P)::(nat_lit 191,xct P)::(nat_lit 192,xaa P)::(nat_lit 193,xc4 P)::(nat_lit 194,xdr P)::(nat_lit 195,xcy P)::(nat_lit 196,xaa P)::(nat_lit 197,xab P)::(nat_lit 198,xd0 P)::(nat_lit 199,xaa P)::(nat_lit 200,xdi P)::(nat_lit 201,xc7 P)::(nat_lit 202,xdw P)::(nat_lit 203,xaa P)::(nat_lit 204,xab P)::(nat_lit 205,xer P)::(nat_lit 206,xfe P)::(nat_lit 207,xd9 P)::(nat_lit 208,xaa P)::(nat_lit 209,xab P)::(nat_lit 210,xe7 P)::(nat_lit 211,xaa P)::(nat_lit 212,xe2 P)::(nat_lit 213,xep P)::(nat_lit 214,xfd P)::(nat_lit 215,xaa P)::(nat_lit 216,xab P)::(nat_lit 217,xem P)::(nat_lit 218,xaa P)::(nat_lit 219,xei P)::(nat_lit 220,xe4 P)::(nat_lit 221,xes P)::(nat_lit 222,xaa P)::(nat_lit 223,xab P)::(nat_lit 224,xeu P)::(nat_lit 225,xaa P)::(nat_lit 226,xe6 P)::(nat_lit 227,xef P)::(nat_lit 228,xe0 P)::(nat_lit 229,xaa P)::(nat_lit 230,xab P)::(nat_lit 231,xeb P)::(nat_lit 232,xaa P)::(nat_lit 233,xel P)::(nat_lit 234,xfa P)::(nat_lit 235,xeh P)::(nat_lit 236,xaa P)::(nat_lit 237,xab P)::(nat_lit 238,xff P)::(nat_lit 239,xaa P)::(nat_lit 240,xew P)::(nat_lit 241,xek P)::(nat_lit 242,xe8 P)::(nat_lit 243,xaa P)::(nat_lit 244,xab P)::(nat_lit 245,xeq P)::(nat_lit 246,xaa P)::(nat_lit 247,xed P)::(nat_lit 248,xey P)::(nat_lit 249,xen P)::(nat_lit 250,xaa P)::(nat_lit 251,xab P)::(nat_lit 252,xe5 P)::(nat_lit 253,xaa P)::(nat_lit 254,xfg P)::(nat_lit 255,xd7 P)::(nat_lit 256,xet P)::(nat_lit 257,xaa P)::(nat_lit 258,xab P)::(nat_lit 259,xee P)::(nat_lit 260,xaa P)::(nat_lit 261,xeo P)::(nat_lit 262,xfb P)::(nat_lit 263,xea P)::(nat_lit 264,xaa P)::(nat_lit 265,xab P)::(nat_lit 266,xe9 P)::(nat_lit 267,xeg P)::(nat_lit 268,xe3 P)::(nat_lit 269,xaa P)::(nat_lit 270,xab P)::(nat_lit 271,xd8 P)::(nat_lit 272,xev P)::(nat_lit 273,xej P)::(nat_lit 274,xaa P)::(nat_lit 275,xab P)::(nat_lit 276,xe1 P)::(nat_lit 277,xaa P)::(nat_lit 278,xfc P)::(nat_lit 279,xec P)::(nat_lit 280,xex P)::(nat_lit 281,xft P)::(nat_lit 282,xaa P)::(nat_lit 283,xab P)::(nat_lit 284,xga P)::(nat_lit 285,xfy P)::(nat_lit 286,xgg P)::(nat_lit 287,xaa P)::(nat_lit 288,xab P)::(nat_lit 289,xfp P)::(nat_lit 290,xaa P)::(nat_lit 291,xfl P)::(nat_lit 292,xf6 P)::(nat_lit 293,xfv P)::(nat_lit 294,xaa P)::(nat_lit 295,xab P)::(nat_lit 296,xf2 P)::(nat_lit 297,xfs P)::(nat_lit 298,xgd P)::(nat_lit 299,xaa P)::(nat_lit 300,xab P)::(nat_lit 301,xfx P)::(nat_lit 302,xaa P)::(nat_lit 303,xfj P)::(nat_lit 304,xf1 P)::(nat_lit 305,xfq P)::(nat_lit 306,xaa P)::(nat_lit 307,xab P)::(nat_lit 308,xf8 P)::(nat_lit 309,xaa P)::(nat_lit 310,xgf P)::(nat_lit 311,xfk P)::(nat_lit 312,xf3 P)::(nat_lit 313,xaa P)::(nat_lit 314,xab P)::(nat_lit 315,xfo P)::(nat_lit 316,xaa P)::(nat_lit 317,xfz P)::(nat_lit 318,xgh P)::(nat_lit 319,xfi P)::(nat_lit 320,xaa P)::(nat_lit 321,xab P)::(nat_lit 322,xgb P)::(nat_lit 323,xaa P)::(nat_lit 324,xf5 P)::(nat_lit 325,xfu P)::(nat_lit 326,xge P)::(nat_lit 327,xaa P)::(nat_lit 328,xab P)::(nat_lit 329,xfr P)::(nat_lit 330,xaa P)::(nat_lit 331,xfn P)::(nat_lit 332,xf9 P)::(nat_lit 333,xfw P)::(nat_lit 334,xaa P)::(nat_lit 335,xab P)::(nat_lit 336,xf0 P)::(nat_lit 337,xaa P)::(nat_lit 338,xgc P)::(nat_lit 339,xfm P)::(nat_lit 340,xf7 P)::[]
abbrev ls:List Str:=[Str.ofString "TURNED_KINDS",Str.ofString "searched"]
abbrev Xt:Shared→Bool:=fun s=>xlAt vw [] s&&recOk (RowW.records rr.row.toRowW) s
theorem a2v (w:World):((boot_heap w.params).isNs mainGlobals&&(#[]:Array GenState).size==0,(boot_heap w.params).objs.size,(boot_heap w.params).nsMap mainGlobals "__annotations__")=(true,11,an):=by kernel_rfl
theorem a54:opening p=plainProg p.main.scope.names:=by kernel_rfl
theorem a5g (s:Shared):fenceModules? p s=some s:=by kernel_rfl
theorem lk1 (w:World):(fun os=>(staticsOk (importedModules p.main.body) (boot_heap w.params) (hpZ w.params)&&namesBound p (hpZ w.params)&&gensDone (sZ w os)&&laidKept (boot_heap w.params) (hpZ w.params)))=fun _=>true:=by kernel_rfl
theorem lk2 (w:World):(fun os=>openSeen vw ls (importedModules p.main.body) Xt true (sZ w os))=fun _=>openGood vw ls:=by kernel_rfl
theorem lk3 (w:World):(fun os=>obsZ as0 (sZ w os))=fun _=>valZ K0 341 673 w:=by kernel_rfl
theorem left_:LeftO p vw ls Xt (obsZ as0) (valZ K0 341 673) 5230:=LeftO.of_pieces (boot_open a54 rfl a5g) a2v a4e rfl fun w=>funext fun os=>looks_pair (congrFun (lk1 w) os) (looks_pair (congrFun (lk2 w) os) (congrFun (lk3 w) os))
end
end H72
open PySem PySem.W PyProof.Rows
set_option maxRecDepth 100000 in
set_option maxHeartbeats 0 in
theorem PySem.Challenge.cw_oncewise_k72_names_and_counts_holds : PySem.Challenge.rw_oncewise_k72_names_and_counts.Holds := by
  w_on;o_law
  refine holds_openX (q:=H72.vw) (loose:=H72.ls) (Xt:=H72.Xt) (XP:=XL H72.vw []) (Yf:=PySem.W.X.obsZ H72.as0) (Ya:=PySem.W.X.valZ H72.K0 341 673) (N:=5230) H72.left_ (fun s e=>xl_of s (Bool.and_eq_true_iff.mp e).1)
    XL.keeps (by rfl) (by rfl) (by rfl) (fun s e=>recFacts_of (Bool.and_eq_true_iff.mp e).2)
    (by rfl) (by decide +kernel) (by decide +kernel) ⟨rfl,rfl,rfl,rfl,rfl,by decide +kernel⟩ ?hw ?hc
  case hw=>w_witness2
  k_fill
  refine L2.walk_ofZ (l:=PySem.Challenge.rw_oncewise_k72_names_and_counts) (n:=63) (k:=70) (x:="_law_script") (CX:=L2.CX0) (sp:=L3.spTop) rfl (by decide) rfl ⟨rfl,by decide,by decide⟩ (fun _=>rfl) (by decide) ?F ?S ?C
  case F=>
    intro w mg fa h KX G hmg
    refine' K72.all_mk KX G hmg ?D0 ?D1 ?D2 ?D3 ?D4 ?D5 ?D6 ?D7 ?D8 ?D9 ?D10 ?D11 ?D12 ?D13 ?D14 ?D15 ?D16 ?D17 ?D18 ?D19 ?D20 ?D21 ?D22 ?D23 ?D24 ?D25 ?D26 ?D27 ?D28 ?D29 ?D30 ?D31 ?D32 ?D33 ?D34 ?D35 ?D36 ?aLEAF_KINDS ?lLEAF_KINDS ?aTURNED_KINDS ?lTURNED_KINDS ?hTURNED_KINDS ?aCPieces ?aCTooMany ?aCOnceError ?aCBadWeb ?aCNoTree ?aCNoWord ?qCTooMany ?clPieces ?mAPieces ?mKPieces ?xf ?zlen ?zlist ?zrange ?zenumerate ?zmax ?zmin ?zsorted ?zint ?zisinstance ?ztuple ?zValueError
    (case aCPieces=>k_is)
    (case aCTooMany=>k_is)
    (case aCOnceError=>k_is)
    (case aCBadWeb=>k_is)
    (case aCNoTree=>k_is)
    (case aCNoWord=>k_is)
    (case D0=>refine' L2.def_in ?a ?l ?c ?k;(case a=>k_is);(case l=>k_is);(case c=>k_is);(case k=>k_is))
    (case D1=>refine' L2.def_in ?a ?l ?c ?k;(case a=>k_is);(case l=>k_is);(case c=>k_is);(case k=>k_is))
    (case D2=>refine' L2.def_in ?a ?l ?c ?k;(case a=>k_is);(case l=>k_is);(case c=>k_is);(case k=>k_is))
    (case D3=>refine' L2.def_in ?a ?l ?c ?k;(case a=>k_is);(case l=>k_is);(case c=>k_is);(case k=>k_is))
    (case D4=>refine' L2.def_in ?a ?l ?c ?k;(case a=>k_is);(case l=>k_is);(case c=>k_is);(case k=>k_is))
    (case D5=>refine' L3.meth_in ?a ?l ?c ?k ?i;(case a=>k_is);(case l=>k_is);(case c=>k_is);(case k=>k_is);(case i=>k_is))
    (case D6=>refine' L3.meth_in ?a ?l ?c ?k ?i;(case a=>k_is);(case l=>k_is);(case c=>k_is);(case k=>k_is);(case i=>k_is))
    (case D7=>refine' L3.meth_in ?a ?l ?c ?k ?i;(case a=>k_is);(case l=>k_is);(case c=>k_is);(case k=>k_is);(case i=>k_is))
    (case D8=>refine' L2.def_in ?a ?l ?c ?k;(case a=>k_is);(case l=>k_is);(case c=>k_is);(case k=>k_is))
    (case D9=>refine' L2.def_in ?a ?l ?c ?k;(case a=>k_is);(case l=>k_is);(case c=>k_is);(case k=>k_is))
    (case D10=>refine' L2.def_in ?a ?l ?c ?k;(case a=>k_is);(case l=>k_is);(case c=>k_is);(case k=>k_is))
    (case D11=>refine' L2.def_in ?a ?l ?c ?k;(case a=>k_is);(case l=>k_is);(case c=>k_is);(case k=>k_is))
    (case D12=>refine' L2.def_in ?a ?l ?c ?k;(case a=>k_is);(case l=>k_is);(case c=>k_is);(case k=>k_is))
    (case D13=>refine' L2.def_in ?a ?l ?c ?k;(case a=>k_is);(case l=>k_is);(case c=>k_is);(case k=>k_is))
    (case D14=>refine' L2.def_in ?a ?l ?c ?k;(case a=>k_is);(case l=>k_is);(case c=>k_is);(case k=>k_is))
    (case D15=>refine' L2.def_in ?a ?l ?c ?k;(case a=>k_is);(case l=>k_is);(case c=>k_is);(case k=>k_is))
    (case D16=>refine' L2.def_in ?a ?l ?c ?k;(case a=>k_is);(case l=>k_is);(case c=>k_is);(case k=>k_is))
    (case D17=>refine' L2.def_in ?a ?l ?c ?k;(case a=>k_is);(case l=>k_is);(case c=>k_is);(case k=>k_is))
    (case D18=>refine' L2.def_in ?a ?l ?c ?k;(case a=>k_is);(case l=>k_is);(case c=>k_is);(case k=>k_is))
    (case D19=>refine' L2.def_in ?a ?l ?c ?k;(case a=>k_is);(case l=>k_is);(case c=>k_is);(case k=>k_is))
    (case D20=>refine' L2.def_in ?a ?l ?c ?k;(case a=>k_is);(case l=>k_is);(case c=>k_is);(case k=>k_is))
    (case D21=>refine' L2.def_in ?a ?l ?c ?k;(case a=>k_is);(case l=>k_is);(case c=>k_is);(case k=>k_is))
    (case D22=>refine' L2.def_in ?a ?l ?c ?k;(case a=>k_is);(case l=>k_is);(case c=>k_is);(case k=>k_is))
    (case D23=>refine' L2.def_in ?a ?l ?c ?k;(case a=>k_is);(case l=>k_is);(case c=>k_is);(case k=>k_is))
    (case D24=>refine' L2.def_in ?a ?l ?c ?k;(case a=>k_is);(case l=>k_is);(case c=>k_is);(case k=>k_is))
    (case D25=>refine' L2.def_in ?a ?l ?c ?k;(case a=>k_is);(case l=>k_is);(case c=>k_is);(case k=>k_is))
    (case D26=>refine' L2.def_in ?a ?l ?c ?k;(case a=>k_is);(case l=>k_is);(case c=>k_is);(case k=>k_is))
    (case D27=>refine' L2.def_in ?a ?l ?c ?k;(case a=>k_is);(case l=>k_is);(case c=>k_is);(case k=>k_is))
    (case D28=>refine' L3.def_inD ?a ?l ?t ?c ?k;(case a=>k_is);(case l=>k_is);(case t=>k_is);(case c=>k_is);(case k=>k_is))
    (case D29=>refine' L2.def_in ?a ?l ?c ?k;(case a=>k_is);(case l=>k_is);(case c=>k_is);(case k=>k_is))
    (case D30=>refine' L2.def_in ?a ?l ?c ?k;(case a=>k_is);(case l=>k_is);(case c=>k_is);(case k=>k_is))
    (case D31=>refine' L2.def_in ?a ?l ?c ?k;(case a=>k_is);(case l=>k_is);(case c=>k_is);(case k=>k_is))
    (case D32=>refine' L2.def_in ?a ?l ?c ?k;(case a=>k_is);(case l=>k_is);(case c=>k_is);(case k=>k_is))
    (case D33=>refine' L2.def_in ?a ?l ?c ?k;(case a=>k_is);(case l=>k_is);(case c=>k_is);(case k=>k_is))
    (case D34=>refine' L2.def_in ?a ?l ?c ?k;(case a=>k_is);(case l=>k_is);(case c=>k_is);(case k=>k_is))
    (case D35=>refine' L2.def_in ?a ?l ?c ?k;(case a=>k_is);(case l=>k_is);(case c=>k_is);(case k=>k_is))
    (case D36=>refine' L2.def_in ?a ?l ?c ?k;(case a=>k_is);(case l=>k_is);(case c=>k_is);(case k=>k_is))
    (case aLEAF_KINDS=>k_is)
    (case lLEAF_KINDS=>k_is)
    (case aTURNED_KINDS=>k_is)
    (case lTURNED_KINDS=>k_is)
    (case hTURNED_KINDS=>rfl)
    (case qCTooMany=>k_exc)
    (case clPieces=>refine' L2.Cls.mk ?pg ?hd ?po ?sa;(case pg=>k_is);(case hd=>k_is);(case po=>k_is);(case sa=>k_is))
    (case mAPieces=>k_is)
    (case mKPieces=>k_is)
    (case xf=>(refine' L3.XF7.mk ?xp ?xe;(case xp=>(refine' L3.XFP.mk ?cl ?na;(case cl=>(refine' L2.Cls.mk ?pg ?hd ?po ?sa;(case pg=>k_is);(case hd=>k_is);(case po=>k_is);(case sa=>k_is)));(case na=>(unfold L2.NoAttr;k_is))));(case xe=>(refine' L3.XF72.mk ?hd ?em ?tt ?ve ?nw ?nt ?bw;(case hd=>(refine' L3.xhd_of ?ga ?gt ?cl ?ge ?tk ?mo ?be ?h;(case ga=>k_is);(case gt=>k_is);(case cl=>k_is);(case ge=>k_is);(case tk=>k_is);(case mo=>k_is);(case be=>k_is);(case h=>k_is)));(case em=>(refine' L3.exm_own ?h0 ?h1 ?h2 ?h3;(case h0=>k_is);(case h1=>k_is);(case h2=>k_is);(case h3=>k_is)));(case tt=>exact L3.kit_self);(case ve=>(refine' L3.kit_blt ?a ?b;(case a=>rfl);(case b=>k_is)));(case nw=>(refine' L3.kit_own ?a ?b ?c ?d;(case a=>rfl);(case b=>k_is);(case c=>k_is);(case d=>k_is)));(case nt=>(refine' L3.kit_own ?a ?b ?c ?d;(case a=>rfl);(case b=>k_is);(case c=>k_is);(case d=>k_is)));(case bw=>(refine' L3.kit_own ?a ?b ?c ?d;(case a=>rfl);(case b=>k_is);(case c=>k_is);(case d=>k_is)))))))
    (case zlen=>k_is)
    (case zlist=>k_is)
    (case zrange=>k_is)
    (case zenumerate=>k_is)
    (case zmax=>k_is)
    (case zmin=>k_is)
    (case zsorted=>k_is)
    (case zint=>k_is)
    (case zisinstance=>k_is)
    (case ztuple=>k_is)
    (case zValueError=>k_is)
  case S=>exact L3.top_start
  case C=>exact fun _ _ _ _ z=>z
#print axioms PySem.Challenge.cw_oncewise_k72_names_and_counts_holds
