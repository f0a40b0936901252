import PyProof.Rows.All
import Wide.All
import OpenK.AllK
import Wide.FinOn
import Lean
import PyProof.EqAt
import PyProof.EqKinds
import PyProof.TupleCall
import PyProof.NeKinds
import PySem.Challenge.RW_oncewise_k74_found
import OpenK.ZGo
set_option genSizeOf false
set_option bootstrap.genMatcherCode false
set_option compiler.extract_closed false
set_option hygiene false
local macro_rules | `(tactic| walk_at "t")=>`(tactic| (first | assumption | exact Nat.succ_pos _ | exact qr.tk (by assumption) | exact Nat.lt_of_lt_of_le (qr.tk (by assumption)) (Nat.le_add_right _ _) | exact Nat.lt_of_lt_of_le (qr.tk (by assumption)) (by assumption)))
set_option hygiene true
local macro_rules | `(tactic| walk_at "w")=>`(tactic| conv=>whnf)
local macro_rules | `(tactic| walk_at "y")=>`(tactic| ((refine PySem.W.look_both ?_ ?_);(refine PySem.W.look_both ?_ ?_);(refine PySem.W.look_both ?_ ?_);(refine PySem.W.look_both ?_ ?_);(refine PySem.W.look_both ?_ ?_);(refine PySem.W.look_both ?_ ?_)))
set_option Elab.async false
set_option linter.all false
set_option maxRecDepth 100000
abbrev Aa:=@List.length_append
abbrev Ab:=@List.length_map
abbrev Ac:=@PySem.W.Frag
abbrev Ad:=@PySem.wpAny_bind
abbrev Ae:=@List.mem_cons_of_mem
abbrev Af:=@List.mem_singleton
abbrev Ag:=@List.mem_append_right
abbrev Ah:=@List.mem_append
abbrev Ai:=@List.getElem?_map
abbrev Aj:=@Option.map_eq_some_iff
abbrev Ak:=@List.getElem?_eq_getElem
abbrev Al:=@List.size_toArray
abbrev Am:=@Nat.le_refl
abbrev An:=@List.mem_cons
abbrev Ao:=@List.mem_append_left
abbrev Ap:=@Bool.false_ne_true
abbrev Aq:=@List.getElem?_append_right
abbrev Ar:=@List.map_append
abbrev As:=@decide_eq_false
abbrev Au:=@List.mem_cons_self
abbrev Av:=@PyProof.Rows.wpS_bind
abbrev Aw:=@decide_eq_true
abbrev Ax:=@PySem.wpAny_pure
abbrev Ay:=@List.mem_of_getElem?
abbrev Az:=@List.nodup_cons
abbrev AA:=@List.countP_cons
abbrev AB:=@if_neg
abbrev AC:=@if_pos
abbrev AD:=@List.map_cons
abbrev AE:=@List.length_cons
abbrev AF:=@List.take_length
abbrev AG:=@PyProof.Rows.wpS_pure
abbrev AH:=@Nat.lt_of_lt_of_le
abbrev AI:=@List.length_singleton
abbrev AJ:=@List.nodup_append
abbrev AK:=@List.getElem?_append_left
abbrev AL:=@List.countP_append
abbrev AM:=@Nat.le_trans
abbrev AN:=@List.take_succ
abbrev AO:=@Nat.lt_of_le_of_lt
abbrev AQ:=@Option.some.inj
abbrev AR:=@Ne.symm
abbrev AS:=@List.length_take
abbrev AU:=@List.getElem?_eq_some_iff
abbrev AV:=@List.flatMap_append
abbrev AW:=@PySem.wpAny_mono
abbrev AX:=@List.mem_range
abbrev AY:=@List.mem_flatMap
abbrev AZ:=@List.mem_filter
abbrev A0:=@List.append_nil
abbrev A1:=@PySem.W.mg_none_of
abbrev A2:=@Bool.and_eq_true
abbrev A3:=@List.length_range
abbrev A4:=@List.flatMap_cons
abbrev A5:=@List.getD_eq_getElem?_getD
abbrev A6:=@Int.natCast_nonneg
abbrev A7:=@List.perm_ext_iff_of_nodup
abbrev A8:=@List.length_set
abbrev A9:=@List.getElem?_set_ne
abbrev Ba:=@List.append_assoc
abbrev Bb:=@Array.getElem?_toList
abbrev Bc:=@Nat.ne_of_lt
abbrev Bd:=@List.filterMap_cons
abbrev Be:=@PySem.W.kia_one
abbrev Bf:=@Nat.zero_le
abbrev Bg:=@PyProof.Rows.wpS_forRange
abbrev Bh:=@List.mem_map
abbrev Bi:=@List.lookup_cons
abbrev Bj:=@List.nodup_range
abbrev Bk:=@PySem.mem_of_lookup
abbrev Bl:=@List.find?_cons
abbrev Bm:=@List.map_map
abbrev Bo:=@Array.length_toList
abbrev Bp:=@List.map_congr_left
abbrev Bq:=@Bool.eq_iff_iff
abbrev Br:=@Nat.lt_succ_self
abbrev Bs:=@congrArg
abbrev Bt:=@List.getElem_take
abbrev Bu:=@PySem.wpAny_holding
abbrev Bv:=@List.getElem?_eq_none
abbrev Bw:=@List.take_append_drop
abbrev Bx:=@Nat.le_of_lt
abbrev Bz:=@Nat.le_succ
abbrev BA:=@List.count_append
abbrev BB:=@List.getElem?_range
abbrev BC:=@List.perm_iff_count
abbrev BD:=@PySem.W.look_both
abbrev BE:=@Int.toNat_natCast
abbrev BF:=@Nat.zero_add
abbrev BG:=@List.pairwise_map
abbrev BH:=@List.mem_of_mem_take
abbrev BI:=@Nat.lt_irrefl
abbrev BJ:=@List.any_cons
abbrev BK:=@Nat.le_add_right
abbrev BL:=@List.getElem?_replicate
abbrev BM:=@Int.mul_le_mul_of_nonneg_right
abbrev BN:=@List.getElem?_set_self
abbrev BP:=@Bool.false_eq_true
abbrev BQ:=@List.take_of_length_le
abbrev BR:=@List.filter_append
abbrev BS:=@Nat.min_eq_left
abbrev BU:=@List.countP_nil
abbrev BV:=@PySem.W.mg_of
abbrev BW:=@List.length_replicate
abbrev BX:=@PyProof.Rows.callWith_type1
abbrev BY:=@List.countP_congr
abbrev BZ:=@List.Perm.refl
abbrev B0:=@List.length_drop
abbrev B1:=@List.all_eq_true
abbrev B2:=@List.perm_middle
abbrev B3:=@List.filter_cons
abbrev B4:=@List.pairwise_iff_getElem
abbrev B5:=@List.countP_eq_zero
abbrev B6:=@List.Pairwise.imp_of_mem
abbrev B7:=@Nat.not_lt_zero
abbrev B8:=@List.countP_map
abbrev B9:=@PySem.W.callWith_K
abbrev Cc:=@List.count_eq_zero
abbrev Cd:=@List.getElem?_cons_succ
abbrev Ce:=@Nat.add_sub_cancel_left
abbrev Cf:=@List.eraseIdx_cons_succ
abbrev Cg:=@List.length_eq_zero_iff
abbrev Ci:=@List.take_sublist
abbrev Cj:=@List.ext_getElem?
abbrev Ck:=@List.prod_cons
abbrev Cm:=@Nat.lt_succ_of_lt
abbrev Cn:=@PySem.F.slot_dict_get
abbrev Co:=@List.singleton_append
abbrev Cp:=@List.countP_le_length
abbrev Cq:=@List.filterMap_append
abbrev Cr:=@List.getElem_mem
abbrev Cs:=@List.cons_append
abbrev Ct:=@PySem.W.hideAll_none
abbrev Cu:=@Int.le_refl
abbrev Cv:=@List.length_zip
abbrev Cw:=@PySem.W.hideAll_get
abbrev Cy:=@PySem.W.plainGet_of
abbrev Cz:=@Nat.succ_pos
abbrev CA:=@List.mem_filterMap
abbrev CB:=@PySem.F.excBase_ValueError
abbrev CC:=@List.getElem?_take
abbrev CD:=@List.getElem?_drop
abbrev CF:=@List.perm_append_right_iff
abbrev CG:=@List.nodup_nil
abbrev CH:=@List.find?_eq_none
abbrev CI:=@List.perm_append_singleton
abbrev CJ:=@PyProof.Rows.firstMet_succ
abbrev CK:=@PySem.F.slot_dict_getitem
abbrev CL:=@PySem.W.kitx_list
abbrev CM:=@Bool.not_eq_true'
abbrev CN:=@List.mem_range'_1
abbrev CO:=@List.all_cons
abbrev CP:=@List.getElem_append_left
abbrev CQ:=@List.Perm.eq_of_pairwise
abbrev CS:=@PySem.F.args_dict_get_3
abbrev CT:=@List.range'_succ
abbrev CU:=@Nat.max_eq_right
abbrev CV:=@List.getElem?_set_self'
abbrev CW:=@congrFun
abbrev CY:=@PySem.W.cellsFrom_some
abbrev CZ:=@List.map_nil
abbrev C0:=@PySem.F.entry_dict_get
abbrev C1:=@Nat.add_comm
abbrev C2:=@List.drop_of_length_le
abbrev C3:=@Int.zero_add
abbrev C4:=@Nat.lt_or_ge
abbrev C5:=@Int.le_trans
abbrev C6:=@List.of_mem_zip
abbrev C7:=@Bool.or_eq_true
abbrev C8:=@Nat.max_eq_left
abbrev C9:=@List.range_succ
abbrev Dc:=@List.filter_nil
abbrev Dd:=@Bool.and_false
abbrev De:=@Bool.and_true
abbrev Df:=@Bool.true_and
abbrev Dg:=@List.cons.inj
abbrev Dh:=@Nat.mul_assoc
abbrev Di:=@Int.ofNat_inj
noncomputable section
namespace L2
open PySem PyProof.Rows
theorem fw{M:Model}{Γ:Ctx}{p:Pos}{t:Sem Fin}{fs:List Frame}{s s':Shared}{e:End}(h:Runs M Γ p t fs s e s'):s.toks≤s'.toks:=by induction h with|fresh _ ih=>exact AM (Bz _) ih|call _ _ ih1 ih2=>exact AM ih1 ih2|resumeFresh _ _ _ _ ih1 ih2=>exact AM ih1 ih2|resumeSuspended _ _ _ _ ih1 ih2=>exact AM ih1 ih2|segRet _ _ ih1 ih2=>exact AM ih1 ih2|segGen _ _ ih1 ih2=>exact AM ih1 ih2|segSuspGen _ _ _ _ ih1 ih2=>exact AM ih1 ih2|_=>first | exact Am _ | assumption
theorem rL{M:Model}{Γ:Ctx}{p:Pos}{g:Nat}{r:Resume}{s s':Shared}{res:GenResult}(h:Wakes M Γ p g r s res s'):s.toks≤s'.toks:=by
 unfold Wakes at h;split at h
 ·exact h.elim
 ·split at h
  ·obtain⟨e,s1,hr,_,_,rfl⟩:=h;have q:=fw hr;exact q
  ·obtain⟨_,rfl⟩:=h;exact Am _
  ·obtain⟨_,rfl⟩:=h;exact Am _
 ·obtain⟨e,s1,hr,_,_,rfl⟩:=h;have q:=fw hr;exact q
 ·obtain⟨_,rfl⟩:=h;exact Am _
 ·obtain⟨_,rfl⟩:=h;exact Am _
theorem ab7{α:Type}{M:Model}{Γ:Ctx}(t:Sem α):∀{Q:α->Pos->Shared->Prop} {E:Value->Pos->Shared->Prop} {p:Pos} {s:Shared} (n:Nat),n≤s.toks->Sem.wp M Γ t Q E p s->Sem.wp M Γ t (fun a p' s'=>Q a p' s'/\n≤s'.toks) (fun e p' s'=>E e p' s'/\n≤s'.toks) p s:=by induction t with|pure a=>intro Q E p s n hn h;exact⟨h,hn⟩|raise e=>intro Q E p s n hn h;exact⟨h,hn⟩|load a part k ih=>intro Q E p s n hn ⟨o,h1,h2⟩;exact⟨o,h1,ih o n hn h2⟩|update a part f k ih=>intro Q E p s n hn ⟨h1,h2⟩;exact⟨h1,ih () n hn h2⟩|fresh k ih=>intro Q E p s n hn h;exact ih s.toks n (AM hn (Bz _)) h|choose src m k ih=>intro Q E p s n hn ⟨h1,h2⟩;exact⟨h1,ih _ n hn h2⟩|call c hd g l k ih=>intro Q E p s n hn ⟨r,s',h1,h2⟩;exact⟨r,s',h1,ih r n (AM hn (fw h1)) h2⟩|genState g k ih=>intro Q E p s n hn ⟨st,h1,h2⟩;exact⟨st,h1,ih _ n hn h2⟩|resume g r l k ih=>intro Q E p s n hn ⟨res,s',h1,h2⟩;exact⟨res,s',h1,ih _ n (AM hn (rL h1)) h2⟩|rule tag k ih=>intro Q E p s n hn h;exact ih () n hn h|«at» pos k ih=>intro Q E p s n hn h;exact ih () n hn h|alloc o k ih=>intro Q E p s n hn h;exact ih _ n hn h|loadIfAlive a k ih=>intro Q E p s n hn h;exact ih _ n hn h|point l k ih=>intro Q E p s n hn h;exact ih _ n hn h|ask k ih=>intro Q E p s n hn h;exact ih _ n hn h|os q l k ih=>intro Q E p s n hn h;exact ih _ n hn h|handled own k ih=>intro Q E p s n hn h;exact ih _ n hn h|newGen c k ih=>intro Q E p s n hn h;exact ih _ n hn h|stack k ih=>intro Q E p s n hn h;exact ih _ n hn h|thread k ih=>intro Q E p s n hn h;exact ih _ n hn h|unsupported w=>intro Q E p s n hn h;exact h.elim|finish e=>intro Q E p s n hn h;exact h.elim|register a k ih=>intro Q E p s n hn h;exact h.elim|yield v g l k ih=>intro Q E p s n hn h;exact h.elim|fork c k ih=>intro Q E p s n hn h;exact h.elim|await a f d l k ih=>intro Q E p s n hn h;exact h.elim
theorem sH{α:Type}{M:Model}{A:Around}{t:Sem α}{Q:α->Shared->Prop}{E:Value->Shared->Prop}{s:Shared}(h:wpAny M A t Q E s):wpAny M A t (fun a s'=>Q a s'/\s.toks≤s'.toks) (fun e s'=>E e s'/\s.toks≤s'.toks) s:=
 fun Γ p hΓ=>ab7 t s.toks (Am _) (h Γ p hΓ)
theorem jy{α:Type}{M:Model}{A:Around}{t:Sem α}{Q:α->Shared->Prop}{E:Value->Shared->Prop}{s:Shared}(hp:0<s.toks)(h:wpAny M A t (fun a s'=>0<s'.toks->Q a s') (fun e s'=>0<s'.toks->E e s') s):wpAny M A t Q E s:=
 AW (sH h) (fun _ _ z=>z.1 (AH hp z.2)) fun _ _ z=>z.1 (AH hp z.2)
end L2
variable {M:PySem.Model}{apos cpos p p1 p2 pos pos' px tp:PySem.Pos}{s s':PySem.Shared}{c e elt iter o target tg value:PySem.Expr}{α β κ:Type}{A:PySem.Around}{E Q:PySem.Value->PySem.Shared->Prop}{its us vs:List PySem.Value}{C a b dx f fa hp ka:PySem.Addr}{cd cdv ct doc oc pm u:PySem.Value}{base h h':PySem.Heap}{i j l m n q t' x1:Nat}{ch fp:List PySem.Addr}{kn name qual x:PySem.Str}{pins:List (PySem.Addr×PySem.Obj)}{st:PySem.Stmt}{elts es ifs:List PySem.Expr}{body rest:List PySem.Stmt}{B d lo:Int}{mA mg:PySem.Str->Option PySem.Value}{kw:List (PySem.Str×PySem.Value)}{prog:PySem.Program}{env:PySem.Env}{fd:PySem.FuncData}{ps:List PySem.Str}{outer:List PySem.Env}{scope:PySem.Scope}{an od:Option PySem.Addr}{osl:Array (Option PySem.Value)}{Z hs hs':List Nat}{rk:Nat->Nat}{lk:List (Nat×Nat)}
namespace L2
open PySem PySem.Spec PyProof.Rows
abbrev jf:=Sum Int Str
def kO:jf->Value->Bool
 |.inl k,v=>Value.isInt k v
 |.inr x,v=>Value.isStrOf x v
def ao2(w:World):jf->Int
 |.inl k=>hashInt k
 |.inr x=>hashStr w x
theorem xh:∀{k:jf} {v:Value},kO k v=true->(∃i t,k=Sum.inl i/\v=Value.int i t)\/(∃x t,k=Sum.inr x/\v=Value.str x t)
 |.inl i,v,h=>by obtain⟨t,e⟩:=Value.isInt_shape (k:=i) (v:=v) h;exact .inl ⟨i,t,rfl,e⟩
 |.inr x,v,h=>by obtain⟨t,e⟩:=Value.isStrOf_shape (x:=x) (v:=v) h;exact .inr ⟨x,t,rfl,e⟩
theorem uO(i:Int)(t:Tok):kO (.inl i) (.int i t)=true:=by simp[kO,Value.isInt]
theorem gK(x:Str)(t:Tok):kO (.inr x) (.str x t)=true:=by simp[kO,Value.isStrOf]
theorem aft(a b:Int):decide ((Sum.inl a:jf)=Sum.inl b)=(a==b):=by
 by_cases e:a=b
 ·subst e;simp
 ·have h:¬(Sum.inl a:jf)=Sum.inl b:=fun q=>e (Sum.inl.inj q);rw[As h];exact(beq_eq_false_iff_ne.mpr e).symm
theorem age(a b:Str):decide ((Sum.inr a:jf)=Sum.inr b)=decide (a=b):=by
 by_cases e:a=b
 ·subst e;simp
 ·have h:¬(Sum.inr a:jf)=Sum.inr b:=fun q=>e (Sum.inr.inj q);rw[As h,As e]
theorem aii(a:Int)(b:Str):decide ((Sum.inl a:jf)=Sum.inr b)=false:=As (fun q=>nomatch q)
theorem ahk(a:Str)(b:Int):decide ((Sum.inr a:jf)=Sum.inl b)=false:=As (fun q=>nomatch q)
def xc(prog:Program)(w:World):PySem.KeyKind prog w jf where
 is:=kO
 hash:=ao2 w
 inj:=fun v a b ha hb=>by
  rcases xh ha with⟨i,t,rfl,rfl⟩ | ⟨x,t,rfl,rfl⟩
  ·rcases xh hb with⟨j,u,rfl,e⟩ | ⟨y,u,rfl,e⟩
   ·injection e with e1 _;rw[e1]
   ·exact nomatch e
  ·rcases xh hb with⟨j,u,rfl,e⟩ | ⟨y,u,rfl,e⟩
   ·exact nomatch e
   ·injection e with e1 _;rw[e1]
 byValue:=fun k v h=>by rcases xh h with⟨i,t,rfl,rfl⟩ | ⟨x,t,rfl,rfl⟩<;>rfl
 pyHash:=fun hv h=>by
  rcases xh hv with⟨i,t,rfl,rfl⟩ | ⟨x,t,rfl,rfl⟩
  ·exact wpAny_pyHash_int h
  ·exact wpAny_pyHash_str h
 eqBool:=fun hu hv h=>by
  rcases xh hu with⟨i,t,rfl,rfl⟩ | ⟨x,t,rfl,rfl⟩
  ·rcases xh hv with⟨j,u,rfl,rfl⟩ | ⟨y,u,rfl,rfl⟩
   ·rw[aft] at h;exact wpAny_eqBool_int h
   ·rw[aii] at h;exact SeqAt.EqAt.int_str i t y u _ _ _ _ h
  ·rcases xh hv with⟨j,u,rfl,rfl⟩ | ⟨y,u,rfl,rfl⟩
   ·rw[ahk] at h;exact SeqAt.EqAt.str_int x t j u _ _ _ _ h
   ·rw[age] at h;exact wpAny_eqBool_str h
 «strs» := fun k x t v h=>by
  rcases xh h with⟨i,u,rfl,e⟩ | ⟨y,u,rfl,e⟩
  ·exact nomatch e
  ·injection e with e1 _
   subst e1;cases v<;>rfl
theorem pL(prog:Program)(w:World)(i:Int)(t:Tok):(xc prog w).is (.inl i) (.int i t)=true:=uO i t
theorem ot(prog:Program)(w:World)(x:Str)(t:Tok):(xc prog w).is (.inr x) (.str x t)=true:=gK x t
inductive V where
 |non | bl (b:Bool) | int (i:Int) | str (x:Str) | byt (b:Array UInt8) | flt (b:UInt64) | ref (a:Addr) | ty (n:String)
 deriving DecidableEq
def zc:V->Value->Prop
 |.non,u=>u=Value.none
 |.bl b,u=>u=Value.bool b
 |.int i,u=>∃t,u=Value.int i t
 |.str x,u=>∃t,u=Value.str x t
 |.byt b,u=>∃t,u=Value.bytes b t
 |.flt b,u=>∃t,u=Value.float b t
 |.ref a,u=>u=Value.ref a
 |.ty n,u=>u=Value.type n
abbrev zh:List V->List Value->Prop:=Paired zc
theorem zh.length{xs:List V}(r:zh xs us):xs.length=us.length:=Paired.length r
theorem zh.get:∀{xs:List V} {us:List Value} {i:Nat} {x:V},zh xs us->xs[i]?=some x->∃u,us[i]?=some u/\zc x u
 |_,_,_,_,.nil,e=>by simp at e
 |_,_,0,_,.cons r _,e=>by simp at e;subst e;exact⟨_,rfl,r⟩
 |_,_,i+1,x,.cons _ t,e=>by obtain⟨u,h1,h2⟩:=zh.get (i:=i) (x:=x) t (by simpa using e);exact⟨u,by simpa using h1,h2⟩
theorem zh.set{x:V}{u:Value}(r:zc x u):∀{xs:List V} {us:List Value} (i:Nat),zh xs us->zh (xs.set i x) (us.set i u)
 |_,_,_,.nil=>.nil
 |_,_,0,.cons _ t=>.cons r t
 |_,_,i+1,.cons q t=>.cons q (zh.set r i t)
theorem zh.append:∀{xs ys:List V} {us ws:List Value},zh xs us->zh ys ws->zh (xs++ys) (us++ws)
 |_,_,_,_,.nil,s=>s
 |_,_,_,_,.cons r t,s=>.cons r (zh.append t s)
theorem zh.take:∀{xs:List V} {us:List Value} (n:Nat),zh xs us->zh (xs.take n) (us.take n)
 |_,_,0,_=>.nil
 |_,_,_+1,.nil=>.nil
 |_,_,n+1,.cons r t=>.cons r (zh.take n t)
theorem zh.drop:∀{xs:List V} {us:List Value} (n:Nat),zh xs us->zh (xs.drop n) (us.drop n)
 |_,_,0,r=>r
 |_,_,_+1,.nil=>.nil
 |_,_,n+1,.cons _ t=>zh.drop n t
def ar:Option V->Option Value->Prop
 |some v,some u=>zc v u
 |none,none=>True
 |_,_=>False
def KV :List (κ×V)->List (κ×Value)->Prop:=Paired fun(p:κ×V) (q:κ×Value)=>p.1=q.1/\zc p.2 q.2
def kV:jf->V
 |.inl i=>.int i
 |.inr x=>.str x
inductive HO where
 |lst (xs:List V)
 |tup (xs:List V)
 |dK (kvs:List (jf×V)) | dT (kvs:List (List jf×V))
 |set (S:Int->Bool) (n:Nat)
 |ins (C dx:Addr) (fs:List (Str×V))
 |own (x:Addr)
 |xd (fs:List (Str×V))
 |met (f x:Addr)
 |rng (lo hi:Int)
 |frz (o:Obj) (u:HO)
 |tbl (ps:Array Value)
 |ext (φ:Heap->Prop)
abbrev Hp:=Addr->Option HO
def upd(H:Hp)(a:Addr)(o:HO):Hp:=fun b=>if b=a then some o else H b
theorem xg{H:Hp}{o:HO}:upd H a o a=some o:=by unfold upd;rw[AC rfl]
theorem z7{H:Hp}{o:HO}(h:b≠a):upd H a o b=H b:=by unfold upd;rw[AB h]
theorem akd{H:Hp}{o u:HO}(h:H a=some o)(h':H b=some u)(d:o≠u):a≠b:=by intro e;subst e;rw[h] at h';exact d (AQ h')
theorem jb{H:Hp}{o:HO}(h:H a=some o)(h':H b=none):a≠b:=by intro e;subst e;rw[h] at h';cases h'
section
variable (P:Program)(w:World)
def xa(H:Hp)(h:Heap)(a:Addr):HO->Prop
 |.lst xs=>xs.length≤sizeLine/\∃(its:List Value) (n:Nat),zh xs its/\h.get? a=some { cls:=.type "list",data:=.seq its.toArray n }
 |.tup xs=>xs.length≤sizeLine/\∃its:List Value,zh xs its/\IsTup h a its.toArray
 |.dK kvs=>kvs.length≤sizeLine/\(a==sysModules)=false/\∃vs,KV kvs vs/\h.DictOf (xc P w) a vs
 |.dT kvs=>kvs.length≤sizeLine/\(a==sysModules)=false/\∃xs:List (List jf×Addr×Value),
  Paired (fun(p:List jf×V) (q:List jf×Addr×Value)=>p.1=q.1/\H q.2.1=some (.tup (p.1.map kV))/\zc p.2 q.2.2) kvs xs/\
  ∃o es ep,h.get? a=some o/\o.ExactDict/\o.data=.dict es ep/\es.toList=xs.map (entryOfKey (tupleKind (xc P w)))/\(xs.map (·.1)).Nodup
 |.set S n=>h.SetOf (intKind P w) a S n
 |.ins C dx fs=>H dx=some (.own a)/\fs.length≤1000/\dx≠a/\h.get? a=some (PySem.W.instObj C dx)/\
  ∃mA,h.Ns1 dx mA/\(∀f,ar (fs.lookup f) (mA f))/\PySem.Within mA (fs.map (·.1))
 |.own _=>∃o,h.get? a=some o
 |.xd fs=>∃mA,h.Ns1 a mA/\∀f,ar (fs.lookup f) (mA f)
 |.rng lo hi=>∃t u v,h.get? a=some { cls:=.type "range",data:=.fields #[.int lo t,.int hi u,.int 1 v] }
 |.frz o u=>h.get? a=some o/\xa H h a u
 |.tbl ps=>h.get? a=some { cls:=.none,data:=.fields ps }
 |.met f x=>h.get? a=some (PySem.W.methodObj (.ref f) (.ref x))
 |.ext φ=>φ h/\(∃o,h.get? a=some o)/\∀h1 h2:Heap,φ h1->(∀o,h1.get? a=some o->h2.get? a=some o)->φ h2
def bX(H:Hp)(h:Heap):Prop:=∀a o,H a=some o->xa P w H h a o
end
section
variable {P:Program}{w:World}{H H':Hp}{o:HO}
theorem xa.lt(x:xa P w H h a o):a<h.objs.size:=by
 cases o with
 |lst xs=>obtain⟨_,_,_,_,e⟩:=x;exact Heap.lt_size e
 |tup xs=>obtain⟨_,_,_,p⟩:=x;exact p.lt
 |dK kvs=>obtain⟨_,_,_,_,o,_,_,e,_⟩:=x;exact Heap.lt_size e
 |dT kvs=>obtain⟨_,_,_,_,o,_,_,e,_⟩:=x;exact Heap.lt_size e
 |set S n=>obtain⟨o,_,_,_,e,_⟩:=x;exact Heap.lt_size e
 |ins C dx fs=>obtain⟨_,_,_,e,_⟩:=x;exact Heap.lt_size e
 |own y=>obtain⟨_,e⟩:=x;exact Heap.lt_size e
 |xd fs=>obtain⟨_,⟨_,_,_,e,_⟩,_⟩:=x;exact Heap.lt_size e
 |rng lo hi=>obtain⟨_,_,_,e⟩:=x;exact Heap.lt_size e
 |frz ob u=>obtain⟨e,_⟩:=x;exact Heap.lt_size e
 |tbl ps=>exact Heap.lt_size (show h.get? a=some _ from x)
 |met f y=>exact Heap.lt_size (show h.get? a=some _ from x)
 |ext φ=>obtain⟨_,⟨_,e⟩,_⟩:=x;exact Heap.lt_size e
theorem Paired.mapP{α β:Type}{F G:α->β->Prop}:∀{l₁:List α} {l₂:List β},Paired F l₁ l₂->(∀a b,F a b->G a b)->Paired G l₁ l₂
 |_,_,.nil,_=>.nil
 |_,_,.cons r t,f=>.cons (f _ _ r) (Paired.mapP t f)
abbrev DF:=@Paired.mapP
theorem xa.stay(x:xa P w H h a o)(k:∀b u,(b=a\/H b=some (.own a))->h.get? b=some u->h'.get? b=some u)
 (ho:∀b,H b=some (.own a)->H' b=some (.own a)) (ht:∀b xs,H b=some (.tup xs)->H' b=some (.tup xs)):xa P w H' h' a o:=by
 induction o with
 |lst xs=>obtain⟨z,its,n,r,e⟩:=x;exact⟨z,its,n,r,k _ _ (.inl rfl) e⟩
 |tup xs=>obtain⟨z,its,r,ob,e,c⟩:=x;exact⟨z,its,r,ob,k _ _ (.inl rfl) e,c⟩
 |dK kvs=>obtain⟨z,y,vs,r,ob,es,ep,e,c⟩:=x;exact⟨z,y,vs,r,ob,es,ep,k _ _ (.inl rfl) e,c⟩
 |dT kvs=>
  obtain⟨z,y,xs,r,ob,es,ep,e,c⟩:=x;exact⟨z,y,xs,DF r fun p q z=>⟨z.1,ht _ _ z.2.1,z.2.2⟩,ob,es,ep,k _ _ (.inl rfl) e,c⟩
 |set S n=>obtain⟨ob,es,ep,t,e,c⟩:=x;exact⟨ob,es,ep,t,k _ _ (.inl rfl) e,c⟩
 |ins C dx fs=>
  obtain⟨d,z,ne,e,mA,⟨od,es,ep,e2,c⟩,r⟩:=x;exact⟨ho _ d,z,ne,k _ _ (.inl rfl) e,mA,⟨od,es,ep,k _ _ (.inr d) e2,c⟩,r⟩
 |own y=>obtain⟨ob,e⟩:=x;exact⟨ob,k _ _ (.inl rfl) e⟩
 |xd fs=>obtain⟨mA,⟨od,es,ep,e,c⟩,r⟩:=x;exact⟨mA,⟨od,es,ep,k _ _ (.inl rfl) e,c⟩,r⟩
 |rng lo hi=>obtain⟨t,u,v,e⟩:=x;exact⟨t,u,v,k _ _ (.inl rfl) e⟩
 |frz ob u ih=>obtain⟨e,q⟩:=x;exact⟨k _ _ (.inl rfl) e,ih q⟩
 |tbl ps=>
  have e:h.get? a=some { cls:=.none,data:=.fields ps }:=x;show h'.get? a=some { cls:=.none,data:=.fields ps };exact k a _ (.inl rfl) e
 |met f y=>
  have e:h.get? a=some (PySem.W.methodObj (.ref f) (.ref y)):=x;show h'.get? a=some (PySem.W.methodObj (.ref f) (.ref y));exact k a _ (.inl rfl) e
 |ext φ=>obtain⟨p,⟨o,e⟩,st⟩:=x;exact⟨st _ _ p fun o q=>k _ _ (.inl rfl) q,⟨o,k _ _ (.inl rfl) e⟩,st⟩
theorem bX.lt(x:bX P w H h)(e:H a=some o):a<h.objs.size:=(x a o e).lt
theorem bX.fresh(x:bX P w H h)(e:h.objs.size≤a):H a=none:=by cases q:H a with|none=>rfl|some u=>exact absurd (AH (x.lt q) e) (BI _)
theorem bX.kept(x:bX P w H h)(k:∀b u,h.get? b=some u->h'.get? b=some u):bX P w H h':=fun a o e=>
 (x a o e).stay (fun b u _ q=>k b u q) (fun _ q=>q) fun _ _ q=>q
theorem bX.laid(x:bX P w H h)(k:∀b u,h.get? b=some u->h'.get? b=some u)(hp:h.objs.size≤a)(new:xa P w (upd H a o) h' a o):bX P w (upd H a o) h':=fun b u e=>by
 have hn:=x.fresh hp;by_cases hb:b=a
 ·subst hb;rw[xg] at e;cases e;exact new
 ·rw[z7 hb] at e;exact(x b u e).stay (fun c v _ q=>k c v q) (fun c q=>by rw[z7 (jb q hn)];exact q) fun c xs q=>by rw[z7 (jb q hn)];exact q
end
def Rd(H:Hp)(a:Addr)(u:HO):Prop:=H a=some u\/∃o,H a=some (.frz o u)
theorem Rd.ok{P:Program}{w:World}{H:Hp}{u:HO}(r:Rd H a u)(x:bX P w H h):xa P w H h a u:=by
 rcases r with r | ⟨o,r⟩
 ·exact x a u r
 ·obtain⟨_,q⟩:=x a _ r;exact q
def Mut:Option HO->Prop
 |some (.lst _)=>True
 |some (.dK _)=>True
 |some (.dT _)=>True
 |some (.set _ _)=>True
 |some (.ins _ _ _)=>True
 |some (.ext _)=>True
 |_=>False
section
variable {P:Program}{w:World}{H:Hp}{x e:Addr}{o':HO}
theorem bX.write(ok:bX P w H h)(mu:Mut (H x))(he:e=x\/H e=some (.own x))(k:∀b u,b≠e->h.get? b=some u->h'.get? b=some u)(heo:∃u,h'.get? e=some u)
 (new:xa P w (upd H x o') h' x o'):bX P w (upd H x o') h':=fun b u q=>by
 have nown:∀c y,H c=some (.own y)->c≠x:=fun c y r z=>by subst z;rw[r] at mu;exact mu
 have ntup:∀c xs,H c=some (.tup xs)->c≠x:=fun c xs r z=>by subst z;rw[r] at mu;exact mu
 by_cases hb:b=x
 ·subst hb;rw[xg] at q;cases q;exact new
 ·rw[z7 hb] at q;by_cases hbe:b=e
  ·have q':H b=some (.own x):=by
    rcases he with z | z
    ·exact absurd (hbe.trans z) hb
    ·rw[hbe];exact z
   rw[q] at q';cases q';obtain⟨v,hv⟩:=heo;exact⟨v,by rw[hbe];exact hv⟩
  ·refine(ok b u q).stay (fun c v hc r=>k c v ?_ r) (fun c r=>by rw[z7 (nown c b r)];exact r) fun c xs r=>by rw[z7 (ntup c xs r)];exact r
   rcases hc with rfl | hc
   ·exact hbe
   ·rintro rfl;rcases he with z | z
    ·exact nown c b hc z
    ·rw[hc] at z;cases z;exact hb rfl
end
structure Un(fs ex:List Addr)(H H':Hp)(h h':Heap):Prop where
 keep:∀b o,h.get? b=some o->H b=none->b∉fs->b∉ex->h'.get? b=some o
 slot:∀b o,h.get? b=some o->H b=none->b∈fs->b∉ex->∃sl,h'.get? b=some { o with slots:=sl }
 free:∀b o,h.get? b=some o->H b=none->b∉ex->H' b=none
 there:∀b o,h.get? b=some o->b∉ex->∃o',h'.get? b=some o'
 tups:∀b xs,H b=some (.tup xs)->H' b=some (.tup xs)
 frzs:∀b o u,H b=some (.frz o u)->H' b=some (.frz o u)
 tbls:∀b ps,H b=some (.tbl ps)->∃more,H' b=some (.tbl (ps++more))
section
variable {fs fs' ex ex':List Addr}{H H1 H2:Hp}{h1 h2:Heap}{x e:Addr}{o:HO}
theorem Un.any(u:Un fs ex H H1 h h1){ob:Obj}(q:h.get? b=some ob)(n:H b=none)(hx:b∉ex):∃sl,h1.get? b=some { ob with slots:=sl }:=by
 by_cases hb:b∈fs
 ·exact u.slot b ob q n hb hx
 ·exact⟨ob.slots,u.keep b ob q n hb hx⟩
theorem Un.kept(k:∀b u,h.get? b=some u->h'.get? b=some u):Un fs ex H H h h':=
 ⟨fun b ob q _ _ _=>k b ob q,fun b ob q _ _ _=>⟨ob.slots,k b ob q⟩,fun _ _ _ n _=>n,fun b ob q _=>⟨ob,k b ob q⟩,fun _ _ q=>q,fun _ _ _ q=>q,fun _ ps q=>⟨#[],by rw[q];simp⟩⟩
theorem Un.refl:Un fs ex H H h h:=Un.kept fun _ _ q=>q
theorem Un.laid(k:∀b u,h.get? b=some u->h'.get? b=some u)(hp:h.objs.size≤a)(hn:H a=none):Un fs ex H (upd H a o) h h' where
 keep:=fun b u q _ _ _=>k b u q
 slot:=fun b u q _ _ _=>⟨u.slots,k b u q⟩
 free:=fun b u q n _=>by rw[z7 (Bc (AH (Heap.lt_size q) hp))];exact n
 there:=fun b u q _=>⟨u,k b u q⟩
 tups:=fun b xs q=>by rw[z7 (jb q hn)];exact q
 frzs:=fun b u xs q=>by rw[z7 (jb q hn)];exact q
 tbls:=fun b ps q=>⟨#[],by rw[z7 (jb q hn),q];simp⟩
theorem Un.write(mu:Mut (H x))(he:e=x\/H e=some (.own x))(k:∀b u,b≠e->h.get? b=some u->h'.get? b=some u)(heo:∃u,h'.get? e=some u):Un fs ex H (upd H x o) h h':=by
 have hx:∀b,H b=none->b≠x:=fun b n z=>by subst z;rw[n] at mu;exact mu
 have hb:∀b,H b=none->b≠e:=fun b n z=>by
  subst z;rcases he with r | r
  ·exact hx b n r
  ·rw[n] at r;cases r
 have hm:∀b u,H b=some u->¬Mut (some u)->b≠x:=fun b u q nm z=>by subst z;rw[q] at mu;exact nm mu
 refine⟨fun b u q n _ _=>k b u (hb b n) q,fun b u q n _ _=>⟨u.slots,k b u (hb b n) q⟩,fun b u q n _=>by rw[z7 (hx b n)];exact n,fun b u q _=>?_,
  fun b xs q=>by rw[z7 (hm b _ q fun z=>z)];exact q,fun b u xs q=>by rw[z7 (hm b _ q fun z=>z)];exact q,fun b ps q=>⟨#[],by rw[z7 (hm b _ q fun z=>z),q];simp⟩⟩
 by_cases hbe:b=e
 ·subst hbe;exact heo
 ·exact⟨u,k b u hbe q⟩
end
def trk(h:Heap)(H:Hp):List Addr:=(List.range h.objs.size).filter fun a=>(H a).isSome
def nS(h:Heap)(H:Hp):Heap:=PySem.W.hideAll h (trk h H)
theorem vP(h:Heap)(H:Hp):(nS h H).objs.size=h.objs.size:=PySem.W.hideAll_size _ _
theorem aa3{H:Hp}{o:Obj}(e:h.get? b=some o)(n:H b=none):(nS h H).get? b=some o:=
 Cw _ e fun hm=>by have q:(H b).isSome=true:=(AZ.mp hm).2;rw[n] at q;simp at q
theorem ad9{H:Hp}{o:Obj}(e:(nS h H).get? b=some o):h.get? b=some o/\H b=none:=by
 have e':h.get? b=some o:=PySem.W.of_hideAll (trk h H) e;refine⟨e',?_⟩;cases q:H b with
 |none=>rfl
 |some x=>
  have hm:b∈trk h H:=AZ.mpr ⟨AX.mpr (Heap.lt_size e'),by simp[q]⟩;have z:(nS h H).get? b=none:=Ct (trk h H) hm;rw[z] at e;cases e
end L2
variable {xs zs:List L2.V}{H H' H₀:L2.Hp}{v:L2.V}{kvs:List (List L2.jf×L2.V)}
namespace L2
open PySem PySem.Spec PyProof.Rows
structure Mod(K:Ac)(mg:Str->Option Value)(base:Heap):Prop where
 kin:K.In base
 glob:base.Ns mainGlobals mg
 blt:∃mb,base.Ns builtinsNs mb/\∀x:Str,x ≠ "__name__" -> mb x=bootBuiltins x
 nolimit:base.NoLimit
structure Cx where
 prog:Program
 w:World
 K:Ac
 mg:Str->Option Value
 base:Heap
 A:Around
 N:List Str
 s₀:Shared
 H₀:Hp
 env:Env
 outer:List Env
 stack:List Env
 ex:List Addr
 fn:Str->Bool
 calm:Bool
 pn:List (Addr×Obj)
 xe:Value->Shared->Prop
def dP(l:List Env):List Addr:=l.filterMap (·.frame)
abbrev Cx.fs(X:Cx):List Addr:=dP X.outer
def Vis(sc:Scope)(x:Str):Prop:=sc.names.lookup x=some .local\/sc.names.lookup x=some .cell\/sc.names.lookup x=some .free
def um(sc:Scope)(x:Str):Prop:=sc.names.lookup x=some .local\/sc.names.lookup x=some .cell
def amd(env:Env)(h:Heap)(m:Str->Option Value)(x:Str)(u:Value):Prop:=
 (env.kindOf x=some .local/\m x=some u)\/((env.kindOf x=some .cell\/env.kindOf x=some .free)/\∃c,env.cells.lookup x=some c/\h.IsCell c (some u))
structure Cx.Ok(X:Cx):Prop where
 mod:Mod X.K X.mg X.base
 kind:X.env.scope.kind=.function
 glob:X.env.globals=mainGlobals
 blt:X.env.builtins=builtinsNs
 above:X.s₀.heap.objs.size≤X.env.locals
 inj:∀x y c,X.env.cells.lookup x=some c->X.env.cells.lookup y=some c->x=y
 has:∀x,(X.env.kindOf x=some .cell\/X.env.kindOf x=some .free)->∃c,X.env.cells.lookup x=some c
 cab:∀x c,X.fn x=true->X.env.cells.lookup x=some c->X.s₀.heap.objs.size≤c
 hd:X.calm=true->X.A.handled=none
 frames:X.A.frames=some X.stack
 stk:X.stack=X.outer\/(X.stack=X.env::X.outer/\X.env.frame=some X.env.locals)
 exf:∀b∈X.ex,b≠X.env.locals/\∀x c,X.env.cells.lookup x=some c->c≠b
 bs:∀b o,X.base.get? b=some o->X.s₀.heap.get? b=some o/\X.H₀ b=none
 bsz:X.base.objs.size≤X.s₀.heap.objs.size
 noex:∀b o,X.base.get? b=some o->b∉X.ex
 exfs:∀b∈X.ex,b∉X.fs
 funs:X.s₀.heap.FunFrames X.base X.outer
 frf:∀b∈X.fs,X.H₀ b=none
structure qr(X:Cx)(pins:List (Addr×Obj))(σ:List (Option V))(H:Hp)(s:Shared):Prop where
 ok:X.Ok
 os:s.os=X.s₀.os
 bare:AllBare s.gens
 base:Un X.fs X.ex X.H₀ H X.s₀.heap s.heap
 loc:∃m,s.heap.Ns X.env.locals m/\∀(i:Nat) (x:Str) (v:V),X.N[i]?=some x->σ[i]?=some (some v)->Vis X.env.scope x->∃u,zc v u/\amd X.env s.heap m x u
 cell:∀x c,X.env.cells.lookup x=some c->∃v,s.heap.IsCell c v
 free:H X.env.locals=none
 freeC:∀x c,X.env.cells.lookup x=some c->H c=none
 pin:∀p∈X.pn++pins,s.heap.get? p.1=some p.2/\H p.1=none/\p.1≠X.env.locals/\p.1∉X.fs/\∀v,p.2.data≠.cell v
 hok:bX X.prog X.w H s.heap
 len:σ.length=X.N.length
 tk:0<s.toks
section
variable {X:Cx}{σ:List (Option V)} 
theorem Cx.Ok.nofr(ok:X.Ok){o:Obj}(e:X.base.get? b=some o):b∉X.fs:=fun hb=>by have:=(ok.funs.mem hb).1;rw[e] at this;cases this
theorem qr.bs(I:qr X pins σ H s):∀b o,X.base.get? b=some o->s.heap.get? b=some o/\H b=none:=fun b o e=>
 ⟨I.base.keep b o (I.ok.bs b o e).1 (I.ok.bs b o e).2 (I.ok.nofr e) (I.ok.noex b o e),I.base.free b o (I.ok.bs b o e).1 (I.ok.bs b o e).2 (I.ok.noex b o e)⟩
theorem qr.bk(I:qr X pins σ H s):∀b o,X.base.get? b=some o->s.heap.get? b=some o:=fun b o e=>(I.bs b o e).1
theorem qr.mod(I:qr X pins σ H s):Mod X.K X.mg X.base:=I.ok.mod
theorem qr.kIn(I:qr X pins σ H s):X.K.In s.heap:=I.ok.mod.kin.keeps I.bk
theorem qr.lt(I:qr X pins σ H s):X.env.locals<s.heap.objs.size:=let ⟨_,hn,_⟩:=I.loc;hn.lt
theorem qr.sz(I:qr X pins σ H s):X.s₀.heap.objs.size≤s.heap.objs.size:=AM I.ok.above (Bx I.lt)
theorem qr.nofs(I:qr X pins σ H s)(h:s.heap.objs.size≤a):a∉X.fs:=fun hb=>by obtain⟨_,o,ho,_⟩:=I.ok.funs.mem hb;exact absurd (AH (Heap.lt_size ho) (AM I.sz h)) (BI _)
theorem qr.cne(I:qr X pins σ H s):∀x c,X.env.cells.lookup x=some c->c≠X.env.locals:=fun x c e z=>by obtain⟨v,o,ho,hd⟩:=I.cell x c e;obtain⟨m,⟨o',es,ep,ho',hd',_⟩,_⟩:=I.loc;rw[z,ho'] at ho;cases ho;rw[hd'] at hd;cases hd
theorem qr.funs(I:qr X pins σ H s):s.heap.FunFrames X.base X.outer:=by
 have all:∀(l:List Env),(∀b∈dP l,b∈X.fs)->X.s₀.heap.FunFrames X.base l->s.heap.FunFrames X.base l:=by
  intro l
  induction l with
  |nil=>intro _ _;trivial
  |cons env r ih=>
   intro hs hl;obtain⟨hk,⟨L,o,hf,hn,ho,hd⟩,hr⟩:=hl;have hL:L∈X.fs:=hs L (by unfold dP;rw[Bd,hf];exact Au);obtain⟨sl,e⟩:=I.base.slot L o ho (I.ok.frf L hL) hL fun z=>I.ok.exfs L z hL;exact⟨hk,⟨L,_,hf,hn,e,hd⟩,ih (fun b hb=>hs b (by unfold dP;rw[Bd,hf];exact Ae _ hb)) hr⟩
 exact all X.outer (fun _ hb=>hb) I.ok.funs
theorem qr.stack(I:qr X pins σ H s):s.heap.FunFrames X.base X.stack:=by
 rcases I.ok.stk with e | ⟨e,hf⟩
 ·rw[e];exact I.funs
 ·rw[e];obtain⟨m,hn,_⟩:=I.loc;refine .cons (by rw[I.ok.kind];decide) hf hn ?_ I.funs;exact Heap.get?_none_of_le (AM I.ok.bsz I.ok.above)
theorem qr.stkSub(I:qr X pins σ H s):∀b∈dP X.stack,b∈X.env.locals::X.fs:=fun b hb=>by
 rcases I.ok.stk with e | ⟨e,hf⟩
 ·rw[e] at hb;exact Ae _ hb
 ·rw[e] at hb;unfold dP at hb;rw[Bd,hf] at hb;exact hb
theorem qr.stkFree(I:qr X pins σ H s):∀b∈dP X.stack,H b=none:=fun b hb=>by
 rcases An.mp (I.stkSub b hb) with e | hb
 ·rw[e];exact I.free
 ·obtain⟨_,o,ho,_⟩:=I.ok.funs.mem hb;exact I.base.free b o ho (I.ok.frf b hb) fun z=>I.ok.exfs b z hb
theorem qr.step{g':Array GenState}{d':Drawn}(I:qr X pins σ H s)
 (hch:∀b∈ch,(b∈X.ex\/X.s₀.heap.objs.size≤b)/\b≠X.env.locals/\(∀x c,X.env.cells.lookup x=some c->c≠b)/\∀p∈X.pn++pins,p.1≠b)
 (keep:∀b o,b≠X.env.locals->b∉X.fs->b∉ch->s.heap.get? b=some o->H b=none->h'.get? b=some o)
 (slot:∀b o,b≠X.env.locals->b∈X.fs->b∉ch->s.heap.get? b=some o->H b=none->∃sl,h'.get? b=some { o with slots:=sl }) (free:∀b o,b∉ch->s.heap.get? b=some o->H b=none->H' b=none)
 (there:∀b o,b∉ch->s.heap.get? b=some o->∃o',h'.get? b=some o')
 (tups:∀b xs,H b=some (.tup xs)->H' b=some (.tup xs)) (frzs:∀b o u,H b=some (.frz o u)->H' b=some (.frz o u)) (tbls:∀b ps,H b=some (.tbl ps)->∃more,H' b=some (.tbl (ps++more)))
 (ns:∀m,s.heap.Ns X.env.locals m->h'.Ns X.env.locals m) (hok:bX X.prog X.w H' h') (hg:AllBare g') (ht:0<t':=by walk_at "t"):
 qr X pins σ H' { s with heap:=h',gens:=g',drawn:=d',toks:=t' }:=by
 have k8:∀b o,X.s₀.heap.get? b=some o->b≠X.env.locals:=fun b o e=>Bc (AH (Heap.lt_size e) I.ok.above);have neC:∀b o,X.s₀.heap.get? b=some o->b∉X.ex->b∉ch:=fun b o e hx hb=>by
  rcases (hch b hb).1 with z | z
  ·exact hx z
  ·exact absurd (AH (Heap.lt_size e) z) (BI _)
 have cellK:∀x c,X.env.cells.lookup x=some c->∀v,s.heap.IsCell c v->h'.IsCell c v:=fun x c e v ⟨o,ho,hd⟩=>by
  have nch:c∉ch:=fun z=>(hch c z).2.2.1 x c e rfl;by_cases hc:c∈X.fs
  ·obtain⟨sl,q⟩:=slot c o (I.cne x c e) hc nch ho (I.freeC x c e);exact⟨_,q,hd⟩
  ·exact⟨o,keep c o (I.cne x c e) hc nch ho (I.freeC x c e),hd⟩
 refine⟨I.ok,I.os,hg,⟨fun b o e n hb hx=>?_,fun b o e n hb hx=>?_,fun b o e n hx=>?_,fun b o e hx=>?_,fun b xs e=>tups b xs (I.base.tups b xs e),fun b o xs e=>frzs b o xs (I.base.frzs b o xs e),fun b ps e=>?_⟩,?_,fun x c e=>?_,?_,fun x c e=>?_,fun p hp=>?_,hok,I.len,ht⟩
 ·exact keep b o (k8 b o e) hb (neC b o e hx) (I.base.keep b o e n hb hx) (I.base.free b o e n hx)
 ·obtain⟨sl,e1⟩:=I.base.slot b o e n hb hx;obtain⟨sl',e2⟩:=slot b _ (k8 b o e) hb (neC b o e hx) e1 (I.base.free b o e n hx);exact⟨sl',e2⟩
 ·obtain⟨o',e1⟩:=I.base.there b o e hx;exact free b o' (neC b o e hx) e1 (I.base.free b o e n hx)
 ·obtain⟨o',e1⟩:=I.base.there b o e hx;exact there b o' (neC b o e hx) e1
 ·obtain⟨m1,e1⟩:=I.base.tbls b ps e;obtain⟨m2,e2⟩:=tbls b _ e1;exact⟨m1++m2,by rw[e2,Array.append_assoc]⟩
 ·obtain⟨m,hn,hl⟩:=I.loc;refine⟨m,ns m hn,fun i x v e1 e2 e3=>?_⟩;obtain⟨u,r,l⟩:=hl i x v e1 e2 e3;refine⟨u,r,?_⟩;rcases l with l | ⟨k,c,e,z⟩
  ·exact .inl l
  ·exact .inr ⟨k,c,e,cellK x c e _ z⟩
 ·obtain⟨v,z⟩:=I.cell x c e;exact⟨v,cellK x c e v z⟩
 ·obtain⟨m,⟨o,_,_,ho,_⟩,_⟩:=I.loc;exact free _ o (fun z=>(hch _ z).2.1 rfl) ho I.free
 ·obtain⟨v,o,ho,hd⟩:=I.cell x c e;exact free c o (fun z=>(hch c z).2.2.1 x c e rfl) ho (I.freeC x c e)
 ·obtain⟨e,n,ne,nf,d⟩:=I.pin p hp;have nch:p.1∉ch:=fun z=>(hch p.1 z).2.2.2 p hp rfl;exact⟨keep p.1 p.2 ne nf nch e n,free p.1 p.2 nch e n,ne,nf,d⟩
theorem qr.un(I:qr X pins σ H s)(u:Un X.fs [] H H' s.heap h')(hok:bX X.prog X.w H' h')(ht:0<t':=by walk_at "t"):qr X pins σ H' { s with heap:=h',toks:=t' }:=by obtain⟨m,⟨o,es,ep,ho,r⟩,_⟩:=id I.loc;obtain⟨sl,hL⟩:=u.any ho I.free (by simp);exact I.step (g':=s.gens) (d':=s.drawn) (ch:=[]) (fun _ z=>nomatch z) (fun b o _ hb _ e n=>u.keep b o e n hb (by simp)) (fun b o _ hb _ e n=>u.slot b o e n hb (by simp)) (fun b o _ e n=>u.free b o e n (by simp)) (fun b o _ e=>u.there b o e (by simp)) u.tups u.frzs u.tbls (fun m' hm=>by obtain⟨o',es',ep',ho',r'⟩:=hm;rw[ho] at ho';cases ho';exact⟨_,es',ep',hL,r'⟩) hok I.bare
theorem qr.call{g':Array GenState}{d':Drawn}(I:qr X pins σ H s)(u:Un (dP X.stack) ch H H' s.heap h')(hok:bX X.prog X.w H' h')(hg:AllBare g')
 (hch:∀b∈ch,(b∈X.ex\/X.s₀.heap.objs.size≤b)/\b≠X.env.locals/\(∀x c,X.env.cells.lookup x=some c->c≠b)/\∀p∈X.pn++pins,p.1≠b) (ht:0<t':=by walk_at "t"):
 qr X pins σ H' { s with heap:=h',gens:=g',drawn:=d',toks:=t' }:=by
 obtain⟨m,⟨o,es,ep,ho,r⟩,_⟩:=id I.loc;obtain⟨sl,hL⟩:=u.any ho I.free fun z=>(hch _ z).2.1 rfl;exact I.step (ch:=ch) hch (fun b o hL hb hc e n=>u.keep b o e n (fun z=>(An.mp (I.stkSub b z)).elim hL hb) hc) (fun b o _ _ hc e n=>u.any e n hc) (fun b o hc e n=>u.free b o e n hc) (fun b o hc e=>u.there b o e hc) u.tups u.frzs u.tbls (fun m' hm=>by obtain⟨o',es',ep',ho',r'⟩:=hm;rw[ho] at ho';cases ho';exact⟨_,es',ep',hL,r'⟩) hok hg
theorem qr.turned{it:Addr}(I:qr X pins σ H s)(k:∀b o,b≠it->s.heap.get? b=some o->h'.get? b=some o)(hn:H it=none)(hL:it≠X.env.locals)
 (h1:it∈X.ex\/X.s₀.heap.objs.size≤it) (h2:∀x c,X.env.cells.lookup x=some c->c≠it) (h3:∀p∈X.pn++pins,p.1≠it) (ht:0<t':=by walk_at "t"):qr X pins σ H { s with heap:=h',toks:=t' }:=by
 have nit:∀b u,H b=some u->b≠it:=fun b u e z=>by rw[z,hn] at e;cases e
 refine I.step (g':=s.gens) (d':=s.drawn) (ch:=[it]) (fun b hb=>?_) (fun b o _ _ hc e _=>k b o (fun z=>hc (by simp[z])) e) (fun b o _ _ hc e _=>⟨o.slots,k b o (fun z=>hc (by simp[z])) e⟩) (fun _ _ _ _ n=>n)
  (fun b o hc e=>⟨o,k b o (fun z=>hc (by simp[z])) e⟩) (fun _ _ e=>e) (fun _ _ _ e=>e) (fun b ps e=>⟨#[],by rw[e];simp⟩) (fun m hm=>?_) (fun b u e=>?_) I.bare
 ·have e:b=it:=by simpa using hb
  subst e;exact⟨h1,hL,h2,h3⟩
 ·obtain⟨o,es,ep,ho,r⟩:=hm;exact⟨o,es,ep,k _ o (AR hL) ho,r⟩
 ·refine(I.hok b u e).stay (fun c v hc q=>k c v ?_ q) (fun _ q=>q) fun _ _ q=>q;rcases hc with z | z
  ·rw[z];exact nit b u e
  ·exact nit c _ z
theorem qr.tok(I:qr X pins σ H s)(t:Nat)(ht:0<t:=by walk_at "t"):qr X pins σ H { s with toks:=t }:=I.un (h':=s.heap) (t':=t) Un.refl I.hok
theorem qr.kept(I:qr X pins σ H s)(k:∀b u,s.heap.get? b=some u->h'.get? b=some u)(ht:0<t':=by walk_at "t"):qr X pins σ H { s with heap:=h',toks:=t' }:=I.un (Un.kept k) (I.hok.kept k)
theorem qr.laid{o:HO}(I:qr X pins σ H s)(k:∀b u,s.heap.get? b=some u->h'.get? b=some u)(hp:s.heap.objs.size≤a)(new:xa X.prog X.w (upd H a o) h' a o)(ht:0<t':=by walk_at "t"):
 qr X pins σ (upd H a o) { s with heap:=h',toks:=t' }:=I.un (Un.laid k hp (I.hok.fresh hp)) (I.hok.laid k hp new)
theorem qr.write{x e:Addr}{o:HO}(I:qr X pins σ H s)(mu:Mut (H x))(he:e=x\/H e=some (.own x))(k:∀b u,b≠e->s.heap.get? b=some u->h'.get? b=some u)(heo:∃u,h'.get? e=some u)
 (new:xa X.prog X.w (upd H x o) h' x o) (ht:0<t':=by walk_at "t"):qr X pins σ (upd H x o) { s with heap:=h',toks:=t' }:=I.un (Un.write mu he k heo) (I.hok.write mu he k heo new)
theorem qr.weak{σ':List (Option V)}(I:qr X pins σ H s)(hl:σ'.length=σ.length)(w:∀(i:Nat) v,σ'[i]?=some (some v)->σ[i]?=some (some v)):qr X pins σ' H s:=
 ⟨I.ok,I.os,I.bare,I.base,let ⟨m,hn,hl'⟩:=I.loc;⟨m,hn,fun i x v e1 e2 e3=>hl' i x v e1 (w i v e2) e3⟩,I.cell,I.free,I.freeC,I.pin,I.hok,hl.trans I.len,I.tk⟩
theorem qr.pins_of{pins':List (Addr×Obj)}(I:qr X pins σ H s)(h:∀p∈pins',s.heap.get? p.1=some p.2/\H p.1=none/\p.1≠X.env.locals/\p.1∉X.fs/\∀v,p.2.data≠.cell v):qr X pins' σ H s:=
 ⟨I.ok,I.os,I.bare,I.base,I.loc,I.cell,I.free,I.freeC,fun p hp=>(Ah.mp hp).elim (fun z=>I.pin p (Ao _ z)) (h p),I.hok,I.len,I.tk⟩
theorem pj{N:List Str}(hN:N.Nodup)(a:N[i]?=some x)(b:N[j]?=some x):i=j:=by obtain⟨h1,e1⟩:=AU.mp a;obtain⟨h2,e2⟩:=AU.mp b;exact(List.getElem_inj hN).mp (e1.trans e2.symm)
theorem l9{Q:Unit->Shared->Prop}(I:qr X pins σ H s)(hN:X.N.Nodup)(hi:X.N[i]?=some x)(hx:um X.env.scope x)(r:zc v u)
 (h:∀s',qr X pins (σ.set i (some v)) H s'->(∃a,Heap.SameBut a s.heap s'.heap/\(a=X.env.locals\/X.env.cells.lookup x=some a))->(X.env.kindOf x=some .local->∃m',s'.heap.Ns X.env.locals m'/\m' x=some u)->Q () s') (hf:X.fn x=true\/X.env.scope.names.lookup x=some .local:=by first | exact .inl rfl | exact .inr rfl | assumption):wpAny M A (storeName X.env x u) Q E s:=by
 obtain⟨m,hn,hl⟩:=id I.loc;have hcls:(X.env.scope.kind==.class||(X.env.scope.kind==.module&&X.env.locals != X.env.globals))=false:=by rw[I.ok.kind];rfl
 have hiσ:i<σ.length:=by rw[I.len];exact(AU.mp hi).1
 have cne:=I.cne;have tracked:∀{a:Addr} {h':Heap},(∃o,s.heap.get? a=some o/\H a=none)->Heap.SameBut a s.heap h'->bX X.prog X.w H h':=fun {a h'} ha hs b ob e=>by
  obtain⟨_,_,hfree⟩:=ha;refine(I.hok b ob e).stay (fun c w' hc q=>(hs.2 c ?_).trans q) (fun _ q=>q) fun _ _ q=>q;rintro rfl;rcases hc with rfl | hc
  ·rw[hfree] at e;cases e
  ·rw[hfree] at hc;cases hc
 rcases hx with hk | hk
 ·refine wpAny_storeName_local hk hn (fun h' hn' hs=>?_) hcls;obtain⟨oL,_,_,hoL,_⟩:=id hn;refine h _ ⟨I.ok,I.os,I.bare,⟨fun b o e n hb hx=>?_,fun b o e n hb hx=>?_,I.base.free,fun b o e hx=>?_,I.base.tups,I.base.frzs,I.base.tbls⟩,⟨_,hn',fun j y v' e1 e2 e3=>?_⟩,fun y c e=>?_,I.free,I.freeC,fun p hp=>?_,tracked ⟨oL,hoL,I.free⟩ hs,by simpa using I.len,by first | exact I.tk | exact Cz _⟩ ⟨_,hs,.inl rfl⟩ (fun _=>⟨_,hn',by simp⟩)
  ·exact(hs.2 b (Bc (AH (Heap.lt_size e) I.ok.above))).trans (I.base.keep b o e n hb hx)
  ·obtain⟨sl,e1⟩:=I.base.slot b o e n hb hx;exact⟨sl,(hs.2 b (Bc (AH (Heap.lt_size e) I.ok.above))).trans e1⟩
  ·obtain⟨o',e1⟩:=I.base.there b o e hx;exact⟨o',(hs.2 b (Bc (AH (Heap.lt_size e) I.ok.above))).trans e1⟩
  ·by_cases hj:j=i
   ·subst hj;rw[hi] at e1;cases e1;rw[BN hiσ] at e2;cases e2;exact⟨u,r,.inl ⟨hk,by simp⟩⟩
   ·rw[A9 (AR hj)] at e2;obtain⟨u',r',q⟩:=hl j y v' e1 e2 e3;refine⟨u',r',?_⟩;rcases q with⟨k,e⟩ | ⟨k,c,e,z⟩
    ·refine .inl ⟨k,?_⟩;have:y≠x:=fun e=>hj (pj hN e1 (e▸hi));simp[this,e]
    ·exact .inr ⟨k,c,e,z.sameBut hs (cne y c e)⟩
  ·obtain⟨w',z⟩:=I.cell y c e;exact⟨w',z.sameBut hs (cne y c e)⟩
  ·obtain⟨e,n,ne,nf,d⟩:=I.pin p hp;exact⟨(hs.2 p.1 ne).trans e,n,ne,nf,d⟩
 ·have hfn:X.fn x=true:=by
   rcases hf with z | z
   ·exact z
   ·rw[z] at hk;cases hk
  obtain⟨c,hc⟩:=I.ok.has x (.inl hk);obtain⟨w',z⟩:=I.cell x c hc;refine wpAny_storeName_cell I.ok.kind hk hc z (fun h' hc' hs=>?_);obtain⟨oc,hoc,hocd⟩:=id z;refine h { s with heap:=h' } ⟨I.ok,I.os,I.bare,⟨fun b o e n hb hx=>?_,fun b o e n hb hx=>?_,I.base.free,fun b o e hx=>?_,I.base.tups,I.base.frzs,I.base.tbls⟩,⟨m,hn.sameBut hs (AR (cne x c hc)),fun j y v' e1 e2 e3=>?_⟩,fun y c' e=>?_,I.free,I.freeC,fun p hp=>?_,tracked ⟨oc,hoc,I.freeC x c hc⟩ hs,by simpa using I.len,I.tk⟩ ⟨c,hs,.inr hc⟩ (fun z=>by have e:=(show X.env.kindOf x=some .cell from hk).symm.trans z;cases e)
  ·exact(hs.2 b (Bc (AH (Heap.lt_size e) (I.ok.cab x c hfn hc)))).trans (I.base.keep b o e n hb hx)
  ·obtain⟨sl,e1⟩:=I.base.slot b o e n hb hx;exact⟨sl,(hs.2 b (Bc (AH (Heap.lt_size e) (I.ok.cab x c hfn hc)))).trans e1⟩
  ·obtain⟨o',e1⟩:=I.base.there b o e hx;exact⟨o',(hs.2 b (Bc (AH (Heap.lt_size e) (I.ok.cab x c hfn hc)))).trans e1⟩
  ·by_cases hj:j=i
   ·subst hj;rw[hi] at e1;cases e1;rw[BN hiσ] at e2;cases e2;exact⟨u,r,.inr ⟨.inl hk,c,hc,hc'⟩⟩
   ·rw[A9 (AR hj)] at e2;obtain⟨u',r',q⟩:=hl j y v' e1 e2 e3;refine⟨u',r',?_⟩;rcases q with q | ⟨k,c',e,z'⟩
    ·exact .inl q
    ·refine .inr ⟨k,c',e,z'.sameBut hs ?_⟩;rintro rfl;exact hj (pj hN e1 (I.ok.inj _ _ _ e hc▸hi))
  ·by_cases hcc:c'=c
   ·subst hcc;exact⟨_,hc'⟩
   ·obtain⟨w2,z2⟩:=I.cell y c' e;exact⟨w2,z2.sameBut hs hcc⟩
  ·obtain⟨e,n,ne,nf,d⟩:=I.pin p hp;refine⟨(hs.2 p.1 ?_).trans e,n,ne,nf,d⟩;intro q;rw[q,hoc] at e;have q':oc=p.2:=AQ e;exact d w' (by rw[<-q'];exact hocd)
theorem cZ{Q:Unit->Shared->Prop}(I:qr X pins σ H s)(hN:X.N.Nodup)(hi:X.N[i]?=some x)(hx:um X.env.scope x)(r:zc v u)
 (h:∀s',qr X pins (σ.set i (some v)) H s'->Q () s') (hf:X.fn x=true\/X.env.scope.names.lookup x=some .local:=by first | exact .inl rfl | exact .inr rfl | assumption):wpAny M A (storeName X.env x u) Q E s:=
 l9 I hN hi hx r (fun s' I' _ _=>h s' I') hf
theorem qr.call'(I:qr X pins σ H s)(ho:s'.os=s.os)(u:Un (dP X.stack) ch H H' s.heap s'.heap)(hok:bX X.prog X.w H' s'.heap)(hg:AllBare s'.gens)
 (hch:∀b∈ch,(b∈X.ex\/X.s₀.heap.objs.size≤b)/\b≠X.env.locals/\(∀x c,X.env.cells.lookup x=some c->c≠b)/\∀p∈X.pn++pins,p.1≠b) (ht:0<s'.toks:=by walk_at "t"):qr X pins σ H' s':=by
 obtain⟨h',g',d',t',o'⟩:=s';have e:o'=s.os:=ho;subst e;exact I.call (g':=g') (t':=t') (d':=d') u hok hg hch ht
end
abbrev XK:=Value->Option Addr->Hp->Prop
abbrev St:=List (Option V)
abbrev VK:=V->Hp->Prop
abbrev TE:=St->Hp->VK->Prop
abbrev TT:=St->Hp->(Bool->Hp->Prop)->Prop
abbrev TA:=St->Hp->(List V->Hp->Prop)->Prop
structure sS where
 nx:St->Hp->Prop
 rt:VK
 bk:St->Hp->Prop:=fun _ _=>False
 ct:St->Hp->Prop:=fun _ _=>False
abbrev TS:=sS->St->Hp->Prop
def EP(X:Cx)(pins:List (Addr×Obj))(σ:St)(Q:VK)(u:Value)(s':Shared):Prop:=∃v H',qr X pins σ H' s'/\zc v u/\Q v H'
def TP(X:Cx)(pins:List (Addr×Obj))(σ:St)(Q:Bool->Hp->Prop)(b:Bool)(s':Shared):Prop:=∃H',qr X pins σ H' s'/\Q b H'
def AP(X:Cx)(pins:List (Addr×Obj))(σ:St)(Q:List V->Hp->Prop)(us:List Value)(s':Shared):Prop:=∃vs H',qr X pins σ H' s'/\zh vs us/\Q vs H'
def SP(X:Cx)(pins:List (Addr×Obj))(D:sS)(f:Flow)(s':Shared):Prop:=
 match f with
 |.next=>∃σ' H',qr X pins σ' H' s'/\D.nx σ' H'
 |.brk=>∃σ' H',qr X pins σ' H' s'/\D.bk σ' H'
 |.cont=>∃σ' H',qr X pins σ' H' s'/\D.ct σ' H'
 |.ret u=>∃v σ' H',qr X pins σ' H' s'/\zc v u/\D.rt v H'
def PE(X:Cx)(e:Expr)(t:TE):Prop:=
 ∀(pins:List (Addr×Obj)) (s:Shared) (σ:St) (H:Hp) (Q:VK),qr X pins σ H s->t σ H Q->wpAny (model X.prog X.w) X.A (eval e X.env) (EP X pins σ Q) X.xe s
def PT(X:Cx)(e:Expr)(t:TT):Prop:=
 ∀(pins:List (Addr×Obj)) (s:Shared) (σ:St) (H:Hp) (Q:Bool->Hp->Prop),qr X pins σ H s->t σ H Q->wpAny (model X.prog X.w) X.A (isTrue e X.env (eval e X.env)) (TP X pins σ Q) X.xe s
def PW(X:Cx)(e:Expr)(t:TT):Prop:=
 ∀(whole:Sem Value) (pins:List (Addr×Obj)) (s:Shared) (σ:St) (H:Hp) (Q:Bool->Hp->Prop),qr X pins σ H s->t σ H Q->wpAny (model X.prog X.w) X.A (isTrue e X.env whole) (TP X pins σ Q) X.xe s
theorem PW.pt{X:Cx}{t:TT}(h:PW X e t):PT X e t:=h _
def PA(X:Cx)(es:List Expr)(t:TA):Prop:=
 ∀(pos:Pos) (pins:List (Addr×Obj)) (s:Shared) (σ:St) (H:Hp) (Q:List V->Hp->Prop),qr X pins σ H s->t σ H Q->wpAny (model X.prog X.w) X.A (spliced (backTo pos (starEach es X.env))) (AP X pins σ Q) X.xe s
def PS(X:Cx)(st:Stmt)(t:TS):Prop:=
 ∀(pins:List (Addr×Obj)) (s:Shared) (σ:St) (H:Hp) (D:sS),qr X pins σ H s->t D σ H->wpAny (model X.prog X.w) X.A (exec st X.env) (SP X pins D) X.xe s
def mH(X:Cx)(st:List Stmt)(t:TS):Prop:=
 ∀(pins:List (Addr×Obj)) (s:Shared) (σ:St) (H:Hp) (D:sS),qr X pins σ H s->t D σ H->wpAny (model X.prog X.w) X.A (execs st X.env) (SP X pins D) X.xe s
theorem x8{t:Sem α}{Q Q':α->Shared->Prop}(h:wpAny M A t Q E s)(hQ:∀a s,Q a s->Q' a s):wpAny M A t Q' E s:=AW h hQ fun _ _ x=>x
end L2
variable {t:L2.TA}{r:L2.V->Option Int->Option Int->L2.Hp->L2.VK->Prop}{X:L2.Cx}{σ:L2.St}{ta:L2.TE}
namespace L2
open PySem PySem.Spec PyProof.Rows
section
def afu(i:Nat):TE:=fun σ H Q=>∃v,σ[i]?=some (some v)/\Q v H
def tC(v:V):TE:=fun _ H Q=>Q v H
abbrev Dl(x:Str):Prop:=(x==("__debug__":Str))=false
abbrev Dm(x:Str):Prop:=(x==("__classdict__":Str))=false
theorem afv(hN:X.N[i]?=some x)(hv:Vis X.env.scope x)(hd:Dl x:=by decide)(hcd:Dm x:=by decide):PE X (.Name x pos) (afu i):=by
 intro pins s σ H Q I h;obtain⟨v,e,h⟩:=h;obtain⟨m,hn,hl⟩:=I.loc;obtain⟨u,r,l⟩:=hl i x v hN e hv;have xu:EP X pins σ Q u s:=⟨v,H,I,r,h⟩;rcases l with⟨hk,hm⟩ | ⟨hk,c,hc,hcell⟩
 ·exact wpAny_Name (wpAny_loadName_local I.ok.kind hk hn hm xu) hd
 ·rcases hk with hk | hk
  ·exact wpAny_Name (wpAny_loadName_cell I.ok.kind hk hc hcell xu) hd
  ·exact wpAny_Name (wpAny_loadName_free I.ok.kind hk hc hcell xu hcd) hd
theorem ahy{i j pos}:PE X (.Constant (.int i) j pos) (tC (.int i)):=fun _ _ _ H _ I h=>wpAny_Constant_int ⟨.int i,H,I.tok _,⟨_,rfl⟩,h⟩
theorem al0{b j pos}:PE X (.Constant (.bool b) j pos) (tC (.bl b)):=fun _ _ _ H _ I h=>Constant_bool ⟨.bl b,H,I,rfl,h⟩
theorem ahw{j pos}:PE X (.Constant .none j pos) (tC .non):=fun _ _ _ H _ I h=>Constant_none ⟨.non,H,I,rfl,h⟩
theorem agu{x j pos}:PE X (.Constant (.str x) j pos) (tC (.str x)):=fun _ _ _ H _ I h=>Calls.Constant_str ⟨.str x,H,I.tok _,⟨_,rfl⟩,h⟩
def Gl(X:Cx)(x:Str):Prop:=X.env.kindOf x=some .globalImplicit
theorem eZ(I:qr X pins σ H s)(hg:Gl X x)(hm:X.mg x=some u)(h:Q u s)
 (hd:Dl x:=by decide):wpAny (model X.prog X.w) X.A (eval (.Name x pos) X.env) Q E s:=
 Calls.Name_function_global I.ok.kind hg (Calls.loadGlobal_global (by rw[I.ok.glob];exact I.mod.glob.keeps I.bk) hm h) hd
theorem dl(I:qr X pins σ H s)(hg:Gl X x)(hm:X.mg x=none)(hv:bootBuiltins x=some u)(h:Q u s)
 (hn:x ≠ "__name__" := by decide) (hd:Dl x:=by decide):wpAny (model X.prog X.w) X.A (eval (.Name x pos) X.env) Q E s:=by
 obtain⟨mb,h1,h2⟩:=I.mod.blt;exact Calls.Name_function_global I.ok.kind hg (Calls.loadGlobal_builtin (by rw[I.ok.glob];exact I.mod.glob.keeps I.bk) hm (by rw[I.ok.blt];exact h1.keeps I.bk) ((h2 x hn).trans hv) h) hd
theorem abe(hg:Gl X x)(hm:X.mg x=some u)(r:zc v u)(hd:Dl x:=by decide):PE X (.Name x pos) (tC v):=
 fun _ _ _ H _ I h=>eZ I hg hm ⟨v,H,I,r,h⟩ hd
theorem ab4(hg:Gl X x)(hm:X.mg x=none)(hv:bootBuiltins x=some u)(r:zc v u)(hn:x ≠ "__name__" := by decide)(hd:Dl x:=by decide):PE X (.Name x pos) (tC v):=
 fun _ _ _ H _ I h=>dl I hg hm hv ⟨v,H,I,r,h⟩ hn hd
variable {a b:Expr}{tb:TE} 
def PC(X:Cx)(op:CmpOp)(a b:Expr)(t:TE):Prop:=
 ∀(pins:List (Addr×Obj)) (s:Shared) (σ:St) (H:Hp) (Q:VK),qr X pins σ H s->t σ H Q->
  wpAny (model X.prog X.w) X.A (eval a X.env) (fun v s₁=>wpAny (model X.prog X.w) X.A (eval b X.env) (fun u s₂=>wpAny (model X.prog X.w) X.A (compareOp op v u) (EP X pins σ Q) X.xe s₂) X.xe s₁) X.xe s
theorem zL(b:Expr){op:CmpOp}(h:op≠.In)(h2:op≠.NotIn):behindInMarks op b=false:=by
 have e1:(op==CmpOp.In)=false:=by cases op<;>first | rfl | exact absurd rfl h
 have e2:(op==CmpOp.NotIn)=false:=by cases op<;>first | rfl | exact absurd rfl h2
 cases b<;>simp[behindInMarks,e1,e2]
def ajj(ta:TE):TE:=fun σ H Q=>ta σ H fun x H1=>Q (.bl (decide (x=.non))) H1
def aeq(ta:TE):TE:=fun σ H Q=>ta σ H fun x H1=>Q (.bl (!decide (x=.non))) H1
theorem zc.none_iff{x:V}{v:Value}(r:zc x v):(v==Value.none)=decide (x=.non):=by
 cases x with
 |non=>cases r;rfl
 |bl _=>cases r;rfl
 |int _=>obtain⟨t,rfl⟩:=r;rfl
 |str _=>obtain⟨t,rfl⟩:=r;rfl
 |byt _=>obtain⟨t,rfl⟩:=r;rfl
 |flt _=>obtain⟨t,rfl⟩:=r;rfl
 |ref _=>cases r;rfl
 |ty _=>cases r;rfl
theorem afs{j pos'}(ha:PE X a ta):PC X .Is a (.Constant .none j pos') (ajj ta):=by intro pins s σ H Q I h;refine x8 (ha pins s σ H _ I h) fun v s1 ⟨x,H1,I1,r1,q1⟩=>?_;exact Constant_none (is_none_gen ⟨.bl _,H1,I1,by rw[r1.none_iff];rfl,q1⟩)
theorem ab8{j pos'}(ha:PE X a ta):PC X .IsNot a (.Constant .none j pos') (aeq ta):=by intro pins s σ H Q I h;refine x8 (ha pins s σ H _ I h) fun v s1 ⟨x,H1,I1,r1,q1⟩=>?_;exact Constant_none (isnot_none_gen ⟨.bl _,H1,I1,by rw[r1.none_iff];rfl,q1⟩)
def tB(t:TE):TT:=fun σ H Q=>t σ H fun x H1=>∃c,x=.bl c/\Q c H1
theorem yb{op:CmpOp}{t:TE}(h:PC X op a b t)(h1:behindInMarks op b=false:=by first | exact zL _ (by decide) (by decide) | rfl):PT X (.Compare a [op] [b] pos) (tB t):=by intro pins s σ H Q I hw;refine wpAny_isTrue_Compare1 (x8 (h pins s σ H _ I hw) fun v s1 h1=>x8 h1 fun u s2 h2=>x8 h2 fun c s3 ⟨x,H1,I1,r1,q1⟩=>?_) h1;obtain⟨d,rfl,q⟩:=q1;cases r1;exact wpAny_truthy_bool ⟨H1,I1,q⟩
theorem ag8{t:TE}(h:PE X e t)(he:∀whole,isTrue e X.env whole=(do let v <-whole;standAt e.pos;holding [v] (truthy v)):=by intro _;rfl):PT X e (tB t):=by intro pins s σ H Q I hw;refine isTrue_plain (x8 (h pins s σ H _ I hw) fun v s1 ⟨x,H1,I1,r1,q1⟩=>?_) (he _);obtain⟨d,rfl,q⟩:=q1;cases r1;exact wpAny_truthy_bool ⟨H1,I1,q⟩
variable {tA tB':TT}{rest:List Expr}
def am5(t u:TT):TT:=fun σ H Q=>t σ H fun c H1=>if c=true then u σ H1 Q else Q false H1
def tOr(t u:TT):TT:=fun σ H Q=>t σ H fun c H1=>if c=true then Q true H1 else u σ H1 Q
def anz(t:TT):TT:=fun σ H Q=>t σ H fun c H1=>Q (!c) H1
theorem ac1(ha:PT X a tA):PW X (.BoolOp .And [a] pos) tA:=by intro wh pins s σ H Q I h;refine isTrue_and (x8 (ha pins s σ H Q I h) fun c s1 e=>?_);cases c with|true=>exact isTrue_and_nil e|false=>exact e
theorem aib(ha:PT X a tA):PW X (.BoolOp .Or [a] pos) tA:=by intro wh pins s σ H Q I h;refine isTrue_or (x8 (ha pins s σ H Q I h) fun c s1 e=>?_);cases c with|false=>exact isTrue_or_nil e|true=>exact e
theorem ahx(ha:PT X a tA)(hb:PW X (.BoolOp .And (b::rest) pos) tB'):PW X (.BoolOp .And (a::b::rest) pos) (am5 tA tB'):=by intro wh pins s σ H Q I h;refine isTrue_and (x8 (ha pins s σ H _ I h) fun c s1 ⟨H1,I1,q1⟩=>?_);cases c with|true=>exact hb wh pins s1 σ H1 Q I1 q1|false=>exact⟨H1,I1,q1⟩
theorem akm(ha:PT X a tA)(hb:PW X (.BoolOp .Or (b::rest) pos) tB'):PW X (.BoolOp .Or (a::b::rest) pos) (tOr tA tB'):=by intro wh pins s σ H Q I h;refine isTrue_or (x8 (ha pins s σ H _ I h) fun c s1 ⟨H1,I1,q1⟩=>?_);cases c with|true=>exact⟨H1,I1,q1⟩|false=>exact hb wh pins s1 σ H1 Q I1 q1
theorem ail(ha:PT X a tA):PT X (.UnaryOp .Not a pos) (anz tA):=by intro pins s σ H Q I h;exact isTrue_not (ha pins s σ H (fun c H1=>Q (!c) H1) I h)
def aki(ta tb:TE):TE:=fun σ H Q=>ta σ H fun x H1=>∃c,x=.bl c/\if c=true then tb σ H1 Q else Q (.bl false) H1
def al2(ta:TE):TE:=fun σ H Q=>ta σ H fun x H1=>∃c,x=.bl c/\Q (.bl (!c)) H1
theorem agl{op}{t:TE}(h:PE X a t):PE X (.BoolOp op [a] pos) t:=fun pins s σ H Q I hw=>BoolOp_one (h pins s σ H Q I hw)
theorem aht(ha:PE X a ta)(hb:PE X (.BoolOp .And (b::rest) pos) tb):PE X (.BoolOp .And (a::b::rest) pos) (aki ta tb):=by
 intro pins s σ H Q I h;refine BoolOp_and (x8 (ha pins s σ H _ I h) fun v s1 ⟨x,H1,I1,r1,q1⟩=>?_);obtain⟨c,rfl,q1⟩:=q1;cases r1;refine wpAny_truthy_bool ?_;cases c with
 |true=>exact hb pins s1 σ H1 Q I1 q1
 |false=>exact⟨.bl false,H1,I1,rfl,q1⟩
theorem ai9(ha:PE X a ta):PE X (.UnaryOp .Not a pos) (al2 ta):=by intro pins s σ H Q I h;refine UnaryOp_ (x8 (ha pins s σ H _ I h) fun v s1 ⟨x,H1,I1,r1,q1⟩=>?_);obtain⟨c,rfl,q1⟩:=q1;cases r1;exact not_of (wpAny_truthy_bool ⟨.bl (!c),H1,I1,rfl,q1⟩)
def tIf(t:TT)(ta tb:TE):TE:=fun σ H Q=>t σ H fun c H1=>if c=true then ta σ H1 Q else tb σ H1 Q
theorem aah(hc:PT X c tA)(ha:PE X a ta)(hb:PE X b tb):PE X (.IfExp c a b pos) (tIf tA ta tb):=by intro pins s σ H Q I h;refine wpAny_IfExp (x8 (hc pins s σ H _ I h) fun d s1 ⟨H1,I1,q1⟩=>?_);cases d with|true=>exact ha pins s1 σ H1 Q I1 q1|false=>exact hb pins s1 σ H1 Q I1 q1
end
def aE(K:Ac)(H:Hp)(a:Addr)(xs:List V):Prop:=
 Rd H a (.lst xs)\/
  ∃(o:Obj) (its:Array Value) (n:Nat),K.lookup a=some o/\o.cls=.type "list" /\ o.dict=none/\o.data=.seq its n/\its.size≤sizeLine/\zh xs its.toList
def f9(K:Ac)(H:Hp)(a:Addr)(xs:List V):Prop:=
 Rd H a (.tup xs)\/
  ∃(o:Obj) (its:Array Value) (n:Nat),K.lookup a=some o/\o.cls=.type "tuple" /\ o.data=.seq its n/\its.size≤sizeLine/\zh xs its.toList
def an8:Value->Option V
 |.none=>some .non
 |.bool b=>some (.bl b)
 |.int i _=>some (.int i)
 |.str x _=>some (.str x)
 |.bytes b _=>some (.byt b)
 |.float b _=>some (.flt b)
 |.ref a=>some (.ref a)
 |.type n=>some (.ty n)
 |_=>none
theorem zc.abs{x:V}(r:zc x u):an8 u=some x:=by
 cases x with
 |non=>cases r;rfl
 |bl _=>cases r;rfl
 |int _=>obtain⟨t,rfl⟩:=r;rfl
 |str _=>obtain⟨t,rfl⟩:=r;rfl
 |byt _=>obtain⟨t,rfl⟩:=r;rfl
 |flt _=>obtain⟨t,rfl⟩:=r;rfl
 |ref _=>cases r;rfl
 |ty _=>cases r;rfl
theorem zc.inj{x y:V}(r:zc x u)(q:zc y u):x=y:=AQ (r.abs.symm.trans q.abs)
theorem zh.inj:∀{xs ys:List V} {us:List Value},zh xs us->zh ys us->xs=ys
 |_,_,_,.nil,.nil=>rfl
 |_,_,_,.cons r t,.cons r' t'=>by rw[r.inj r',zh.inj t t']
section
variable {ys:List V}
theorem aE.of{K:Ac}(h:H a=some (.lst xs)):aE K H a xs:=.inl (.inl h)
theorem f9.of{K:Ac}(h:H a=some (.tup xs)):f9 K H a xs:=.inl (.inl h)
theorem qr.list(I:qr X pins σ H s)(h:aE X.K H a xs):∃its:List Value,zh xs its/\PlainL s.heap a its.toArray/\xs.length≤sizeLine:=by
 rcases h with h | ⟨o,its,n,hk,hc,hd,hs,hz,r⟩
 ·obtain⟨z,its,n,r,e⟩:=h.ok I.hok;exact⟨its,r,⟨_,n,e,rfl,rfl,rfl⟩,z⟩
 ·refine⟨its.toList,r,⟨o,n,I.kIn a o hk,hc,hd,by simpa using hs⟩,?_⟩;have e:=r.length;simp only[Bo] at e;omega
theorem qr.tuple(I:qr X pins σ H s)(h:f9 X.K H a xs):∃its:List Value,zh xs its/\IsTup s.heap a its.toArray/\xs.length≤sizeLine:=by
 rcases h with h | ⟨o,its,n,hk,hc,hs,hz,r⟩
 ·obtain⟨z,its,r,p⟩:=h.ok I.hok;exact⟨its,r,p,z⟩
 ·refine⟨its.toList,r,⟨o,I.kIn a o hk,hc,n,by simpa using hs⟩,?_⟩;have e:=r.length;simp only[Bo] at e;omega
theorem qr.list_inj(I:qr X pins σ H s)(h:aE X.K H a xs)(h':aE X.K H a ys):xs=ys:=by
 obtain⟨its,r,⟨o,n,e,_,_,d⟩,_⟩:=I.list h;obtain⟨its',r',⟨o',n',e',_,_,d'⟩,_⟩:=I.list h';rw[e] at e';cases e';rw[d] at d';injection d' with d1 _
 have:its=its':=by simpa using Bs Array.toList d1
 subst this;exact r.inj r'
theorem qr.tuple_inj(I:qr X pins σ H s)(h:f9 X.K H a xs)(h':f9 X.K H a ys):xs=ys:=by
 obtain⟨its,r,⟨o,e,_,n,d⟩,_⟩:=I.tuple h;obtain⟨its',r',⟨o',e',_,n',d'⟩,_⟩:=I.tuple h';rw[e] at e';cases e';rw[d] at d';injection d' with d1 _
 have:its=its':=by simpa using Bs Array.toList d1
 subst this;exact r.inj r'
end
abbrev Cx.wish(X:Cx)(E:Value->Shared->Prop):Cx:={ X with xe:=E }
abbrev Cx.nox(X:Cx):Cx:=X.wish fun _ _=>False
theorem Cx.Ok.wish(ok:X.Ok)(E:Value->Shared->Prop):(X.wish E).Ok:=
 ⟨ok.mod,ok.kind,ok.glob,ok.blt,ok.above,ok.inj,ok.has,ok.cab,ok.hd,ok.frames,ok.stk,ok.exf,ok.bs,ok.bsz,ok.noex,ok.exfs,ok.funs,ok.frf⟩
theorem Cx.Ok.unwish(ok:(X.wish E).Ok):X.Ok:=
 ⟨ok.mod,ok.kind,ok.glob,ok.blt,ok.above,ok.inj,ok.has,ok.cab,ok.hd,ok.frames,ok.stk,ok.exf,ok.bs,ok.bsz,ok.noex,ok.exfs,ok.funs,ok.frf⟩
section
theorem qr.wish(I:qr X pins σ H s)(E:Value->Shared->Prop):qr (X.wish E) pins σ H s:=⟨I.ok.wish E,I.os,I.bare,I.base,I.loc,I.cell,I.free,I.freeC,I.pin,I.hok,I.len,I.tk⟩
theorem qr.unwish(I:qr (X.wish E) pins σ H s):qr X pins σ H s:=⟨I.ok.unwish,I.os,I.bare,I.base,I.loc,I.cell,I.free,I.freeC,I.pin,I.hok,I.len,I.tk⟩
theorem SP.unwish{D:sS}{f:Flow}(h:SP (X.wish E) pins D f s'):SP X pins D f s':=by
 cases f with
 |next=>obtain⟨σ',H',I,q⟩:=h;exact⟨σ',H',I.unwish,q⟩
 |brk=>obtain⟨σ',H',I,q⟩:=h;exact⟨σ',H',I.unwish,q⟩
 |cont=>obtain⟨σ',H',I,q⟩:=h;exact⟨σ',H',I.unwish,q⟩
 |ret u=>obtain⟨v,σ',H',I,r,q⟩:=h;exact⟨v,σ',H',I.unwish,r,q⟩
theorem mH.nox{st:List Stmt}{t:TS}(h:mH X.nox st t):mH X st t:=fun pins s σ H D I hw=>
 AW (h pins s σ H D (I.wish _) hw) (fun _ _ q=>q.unwish) fun _ _ z=>False.elim z
end
section
variable {t u:TS}{te:TE} 
def ak8:TS:=fun D σ H=>D.nx σ H
def ama(t u:TS):TS:=fun D σ H=>t { D with nx:=u D } σ H
theorem ae0:mH X [] ak8:=fun _ _ σ H _ I h=>wpAny_execs_nil ⟨σ,H,I,h⟩
theorem qU(h1:PS X st t)(h2:mH X rest u):mH X (st::rest) (ama t u):=by
 intro pins s σ H D I h;refine wpAny_execs_cons (x8 (h1 pins s σ H { D with nx:=u D } I h) fun f s1 q=>?_);cases f with
 |next=>
  obtain⟨σ',H',I',q⟩:=q;exact h2 pins s1 σ' H' D I' q
 |ret v=>exact q
 |brk=>exact q
 |cont=>exact q
theorem aaw(h1:PS X st t):mH X [st] t:=by intro pins s σ H D I h;refine wpAny_execs_cons (x8 (h1 pins s σ H D I h) fun f s1 q=>?_);cases f with|next=>exact wpAny_execs_nil q|ret v=>exact q|brk=>exact q|cont=>exact q
def akw:TS:=fun D σ H=>D.ct σ H
theorem om:PS X (.Continue pos) akw:=fun _ _ σ H _ I h=>wpAny_Continue ⟨σ,H,I,h⟩
theorem qr.quiet(I:qr X pins σ H s):interactive X.env=false:=by simp[interactive,I.ok.kind]
def akq(te:TE):TS:=fun D σ H=>te σ H fun _ H1=>D.nx σ H1
theorem acm(he:PE X e te)(hs:swapsWith e none pos.line X.env=pure false:=by rfl):PS X (.Expr e pos) (akq te):=by intro pins s σ H D I h;exact wpAny_Expr_any (x8 (he pins s σ H _ I h) fun v s1 ⟨x,H1,I1,r1,q1⟩=>⟨σ,H1,I1,q1⟩) I.quiet hs
def amk(te:TE):TS:=fun D σ H=>te σ H D.rt
theorem aha(he:PE X e te):PS X (.Return (some e) pos) (amk te):=by intro pins s σ H D I h;exact wpAny_Return_some (x8 (he pins s σ H _ I h) fun v s1 ⟨x,H1,I1,r1,q1⟩=>⟨x,σ,H1,I1,r1,q1⟩)
def ajg:TS:=fun D _ H=>D.rt .non H
theorem abq:PS X (.Return none pos) ajg:=fun _ _ σ H _ I h=>wpAny_Return_none ⟨.non,σ,H,I,rfl,h⟩
def anm(c:TT)(t u:TS):TS:=fun D σ H=>c σ H fun b H1=>if b=true then t D σ H1 else u D σ H1
theorem ajy{a b:List Stmt}{tc:TT}(hc:PT X c tc)(ha:mH X a t)(hb:mH X b u):PS X (.If c a b pos) (anm tc t u):=by intro pins s σ H D I h;refine wpAny_If (x8 (hc pins s σ H _ I h) fun d s1 ⟨H1,I1,q1⟩=>?_);cases d with|true=>exact ha pins s1 σ H1 D I1 q1|false=>exact hb pins s1 σ H1 D I1 q1
end
abbrev TG:=V->St->Hp->(St->Hp->Prop)->Prop
abbrev TGs:=List V->St->Hp->(St->Hp->Prop)->Prop
def PG(X:Cx)(target:Expr)(t:TG):Prop:=
 ∀(pins:List (Addr×Obj)) (s:Shared) (σ:St) (H:Hp) (v:V) (u:Value) (Q:St->Hp->Prop),qr X pins σ H s->zc v u->t v σ H Q->
  wpAny (model X.prog X.w) X.A (assign target X.env u) (fun _ s'=>∃σ' H',qr X pins σ' H' s'/\Q σ' H') X.xe s
def PGs(X:Cx)(ts:List Expr)(t:TGs):Prop:=
 ∀(pins:List (Addr×Obj)) (s:Shared) (σ:St) (H:Hp) (vs:List V) (us:List Value) (Q:St->Hp->Prop),qr X pins σ H s->zh vs us->t vs σ H Q->
  wpAny (model X.prog X.w) X.A (assignInOrder ((assignEach ts X.env).map (·.2)) us) (fun _ s'=>∃σ' H',qr X pins σ' H' s'/\Q σ' H') X.xe s
abbrev ah1:=V->V->V->Hp->(Hp->Prop)->Prop
def akh(X:Cx)(t:ah1):Prop:=
 ∀(pins:List (Addr×Obj)) (s:Shared) (σ:St) (H:Hp) (o i v:V) (ov iv u:Value) (Q:Hp->Prop),qr X pins σ H s->zc o ov->zc i iv->zc v u->t o i v H Q->
  wpAny (model X.prog X.w) X.A (setItem ov iv u) (fun _ s'=>∃H',qr X pins σ H' s'/\Q H') X.xe s
abbrev TIp:=V->V->Hp->VK->Prop
def PIp(X:Cx)(op:Operator)(t:TIp):Prop:=
 ∀(pins:List (Addr×Obj)) (s:Shared) (σ:St) (H:Hp) (x y:V) (v u:Value) (Q:VK),qr X pins σ H s->zc x v->zc y u->t x y H Q->
  wpAny (model X.prog X.w) X.A (inplaceOp op v u) (EP X pins σ Q) X.xe s
section
def cU(i:Nat):TG:=fun v σ H Q=>Q (σ.set i (some v)) H
theorem i7(hN:X.N.Nodup)(hi:X.N[i]?=some x)(hx:um X.env.scope x)(hf:X.fn x=true\/X.env.scope.names.lookup x=some .local:=by first | exact .inl rfl | exact .inr rfl | assumption):PG X (.Name x pos) (cU i):=by intro pins s σ H v u Q I r h;exact wpAny_assign_Name (cZ I hN hi hx r (fun s' I'=>⟨_,H,I',h⟩) hf)
def afz:TGs:=fun vs σ H Q=>vs=[]/\Q σ H
def pZ(t:TG)(u:TGs):TGs:=fun vs σ H Q=>∃v r,vs=v::r/\t v σ H fun σ' H'=>u r σ' H' Q
theorem t8:PGs X [] afz:=by intro pins s σ H vs us Q I r h;obtain⟨e,h⟩:=h;subst e;cases r;exact assignInOrder_nil ⟨σ,H,I,h⟩
theorem jP{t:TG}{u:TGs}(h1:PG X e t)(h2:PGs X es u)
 (hs:(assignEach (e::es) X.env).map (·.2)=assign e X.env::(assignEach es X.env).map (·.2):=by rfl):PGs X (e::es) (pZ t u):=by
 intro pins s σ H vs us Q I r h;obtain⟨v,vr,e1,h⟩:=h;subst e1;cases r with
 |cons r rr=>
  rw[hs];refine assignInOrder_cons (x8 (h1 pins s σ H _ _ _ I r h) fun _ s1 ⟨σ1,H1,I1,q1⟩=>?_);exact h2 pins s1 σ1 H1 _ _ Q I1 rr q1
def agq(K:Ac)(n:Nat)(t:TGs):TG:=fun v σ H Q=>∃a xs,v=.ref a/\f9 K H a xs/\xs.length=n/\t xs σ H Q
theorem zC{k:Nat}{t:TGs}(hc:X.calm=true)(h:PGs X es t)
 (hn:(assignEach es X.env).length=n:=by rfl) (hst:(assignEach es X.env).findIdx? (·.1)=none:=by rfl):PG X (.Tuple es k pos) (agq X.K n t):=by
 intro pins s σ H v u Q I r hw;obtain⟨a,xs,e1,hq,hl,hw⟩:=hw;subst e1;cases r;obtain⟨its,rv,ht,hz⟩:=I.tuple hq;refine assign_Tuple_tuple (I.ok.hd hc) ht (by simp[hn,<-hl,rv.length]) hst fun h' hx=>?_;have I1:qr X pins σ H { s with heap:=h' }:=I.kept (t':=s.toks) fun b o e=>hx b o (Bc (Heap.lt_size e)) e;exact h pins _ σ H xs _ Q I1 (by simpa using rv) hw
def alz(to ti:TE)(t:ah1):TG:=fun v σ H Q=>to σ H fun o H1=>ti σ H1 fun i H2=>t o i v H2 fun H3=>Q σ H3
theorem afb{i:Expr}{to ti:TE}{t:ah1}(ho:PE X o to)(hi:PE X i ti)(hs:akh X t)
 (ha:∀v,assign (.Subscript o i pos) X.env v=(do
  let ov <-holding [v] (eval o X.env)
  let iv <-holding [v,ov] (eval i X.env)
  standAt pos
  holding [v,ov,iv] (setItem ov iv v)
  release [v,ov,iv] []):=by intro _;rfl):PG X (.Subscript o i pos) (alz to ti t):=by
 intro pins s σ H v u Q I r h;rw[ha];refine Ad (Bu (x8 (ho pins s σ H _ I h) fun ov s1 ⟨x,H1,I1,r1,q1⟩=>?_));refine Ad (Bu (x8 (hi pins s1 σ H1 _ I1 q1) fun iv s2 ⟨y,H2,I2,r2,q2⟩=>?_));refine Ad (wpAny_standAt (Ad (Bu (x8 (hs pins s2 σ H2 x y v ov iv u _ I2 r1 r2 r q2) fun _ s3 ⟨H3,I3,q3⟩=>?_))));exact wpAny_release ⟨σ,H3,I3,q3⟩
def afh(te:TE)(g:TG):TS:=fun D σ H=>te σ H fun x H1=>g x σ H1 D.nx
theorem zM{te:TE}{g:TG}(he:PE X e te)(hg:PG X tg g)(hs:swapsWithSole [tg] e pos.line X.env=pure false:=by rfl)(hw:swappedStores [tg] e X.env=pure none:=by rfl)
 (h1:(assignEach [tg] X.env).map (·.2)=[assign tg X.env]:=by rfl):PS X (.Assign [tg] e pos) (afh te g):=by
 intro pins s σ H D I h;refine wpAny_Assign_stores (x8 (he pins s σ H _ I h) fun v s1 ⟨x,H1,I1,r1,q1⟩=>?_) hs hw;rw[h1];exact x8 (hg pins s1 σ H1 x v _ I1 r1 q1) fun _ s2 q=>q
theorem ahe{te:TE}(hN:X.N.Nodup)(hi:X.N[i]?=some x)(hx:um X.env.scope x)(he:PE X e te)(hs:swapsWith e (some (.Name x pos')) pos.line X.env=pure false:=by rfl)(hf:X.fn x=true\/X.env.scope.names.lookup x=some .local:=by first | exact .inl rfl | exact .inr rfl | assumption):
 PS X (.Assign [.Name x pos'] e pos) (afh te (cU i)):=by
 intro pins s σ H D I h;refine wpAny_Assign_Name (x8 (he pins s σ H _ I h) fun v s1 ⟨y,H1,I1,r1,q1⟩=>?_) hs;exact cZ I1 hN hi hx r1 (fun s2 I2=>⟨_,H1,I2,q1⟩) hf
def am9(i j:Nat)(ta:TA):TS:=fun D σ H=>ta σ H fun vs H1=>∃v w,vs=[v,w]/\D.nx ((σ.set i (some v)).set j (some w)) H1
theorem afl{y:Str}{a b:Expr}{ta:TA}{py pt:Pos}{kt k2 pt2}(hc:X.calm=true)(hN:X.N.Nodup)(hi:X.N[i]?=some x)(hj:X.N[j]?=some y)(hij:i≠j)
 (hx:X.env.scope.names.lookup x=some .local) (hy:X.env.scope.names.lookup y=some .local) (ha:PA X [a,b] ta)
 (hw:swappedStores [.Tuple [.Name x px,.Name y py] kt pt] (.Tuple [a,b] k2 pt2) X.env=pure (some [x,y]))
 (hs:swapsWithSole [.Tuple [.Name x px,.Name y py] kt pt] (.Tuple [a,b] k2 pt2) pos.line X.env=pure false:=by rfl):
 PS X (.Assign [.Tuple [.Name x px,.Name y py] kt pt] (.Tuple [a,b] k2 pt2) pos) (am9 i j ta):=by
 intro pins s σ H D I h;rw[exec_Assign_arm];refine Ad (wpAny_standAt ?_);rw[hs];refine Ad (Ax ?_);rw[AB (by decide)];refine Ad (Tuple_ (x8 (ha _ pins s σ H _ I h) fun us s1 ⟨vs,H1,I1,r1,q1⟩=>?_));obtain⟨v,w,e1,q1⟩:=q1;subst e1;obtain⟨u1,u2,rfl,rv,rw'⟩:∃u1 u2,us=[u1,u2]/\zc v u1/\zc w u2:=by
  cases r1 with
  |cons p q=>
   cases q with
   |cons p' q'=>
    cases q';exact⟨_,_,rfl,p,p'⟩
 refine wpAny_newObj_type ?_ (by show 2≤sizeLine;decide);have I2:qr X pins σ H1 { s1 with heap:=s1.heap.push { cls:=.type "tuple",data:=.seq [u1,u2].toArray } }:=I1.kept (t':=s1.toks) fun b o e=>Heap.get?_push_of_some _ e;rw[hw];refine Ad (Ax ?_);show wpAny (model X.prog X.w) X.A (do rule "assign.swapped-stores";let items <-unpackItems (.ref s1.heap.objs.size) 2 none;assignInOrder [fun v=>bindName X.env y v,fun v=>bindName X.env x v] items.reverse;pure Flow.next) _ _ _;refine Ad (wpAny_rule (Ad (unpackItems_tuple (items:=#[u1,u2]) (I.ok.hd hc) (IsTup.new s1.heap _) fun h' hx'=>?_)));have I3:=I2.kept (h':=h') (t':=s1.toks) fun b o e=>hx' b o (Bc (Heap.lt_size e)) e;show wpAny _ _ (assignInOrder [fun v=>bindName X.env y v,fun v=>bindName X.env x v] [u2,u1] >>= fun _=>pure Flow.next) _ _ _;refine Ad (assignInOrder_cons (wpAny_bindName (cZ I3 hN hj (.inl hy) rw' (fun s2 I4=>?_) (.inr hy))));refine assignInOrder_cons (wpAny_bindName (cZ I4 hN hi (.inl hx) rv (fun s3 I5=>assignInOrder_nil (Ax ?_)) (.inr hx)));rw[List.set_comm _ _ (AR hij)] at I5;exact⟨_,H1,I5,q1⟩
def amq(i:Nat)(te:TE)(ti:TIp):TS:=fun D σ H=>∃x,σ[i]?=some (some x)/\te σ H fun y H1=>ti x y H1 fun z H2=>D.nx (σ.set i (some z)) H2
theorem ag1{te:TE}{op:Operator}{ti:TIp}(hN:X.N.Nodup)(hi:X.N[i]?=some x)(hx:um X.env.scope x)(he:PE X e te)(ho:PIp X op ti)(hf:X.fn x=true\/X.env.scope.names.lookup x=some .local:=by first | exact .inl rfl | exact .inr rfl | assumption):
 PS X (.AugAssign (.Name x pos') op e pos) (amq i te ti):=by
 intro pins s σ H D I h;obtain⟨v,e1,h⟩:=h;obtain⟨m,hn,hl⟩:=I.loc;have vis:Vis X.env.scope x:=by rcases hx with k | k;exact .inl k;exact .inr (.inl k)
 obtain⟨u,r,l⟩:=hl i x v hi e1 vis;refine wpAny_AugAssign_Name ?_;have go:wpAny (model X.prog X.w) X.A (eval e X.env) (fun w s₂=>wpAny (model X.prog X.w) X.A (inplaceOp op u w) (fun r s₃=>wpAny (model X.prog X.w) X.A (storeName X.env x r) (fun _=>SP X pins D .next) X.xe s₃) X.xe s₂) X.xe s:=by refine x8 (he pins s σ H _ I h) fun w s1 ⟨y,H1,I1,r1,q1⟩=>?_;refine x8 (ho pins s1 σ H1 v y u w _ I1 r r1 q1) fun z s2 ⟨zv,H2,I2,r2,q2⟩=>?_;exact cZ I2 hN hi hx r2 (fun s3 I3=>⟨_,H2,I3,q2⟩) hf
 rcases l with⟨hk,hm⟩ | ⟨hk,c,hc,hcell⟩
 ·exact wpAny_loadName_local I.ok.kind hk hn hm go
 ·rcases hk with hk | hk
  ·exact wpAny_loadName_cell I.ok.kind hk hc hcell go
  ·rcases hx with k | k
   ·have:X.env.scope.names.lookup x=some .free:=hk;rw[k] at this;cases this
   ·have:X.env.scope.names.lookup x=some .free:=hk;rw[k] at this;cases this
def ipI(f:Int->Int->Int):TIp:=fun x y H Q=>∃i j,x=.int i/\y=.int j/\Q (.int (f i j)) H
theorem afq:PIp X .Add (ipI fun i j=>i+j):=by intro pins s σ H x y v u Q I r1 r2 h;obtain⟨i,j,e1,e2,q⟩:=h;subst e1;subst e2;obtain⟨t,rfl⟩:=r1;obtain⟨t',rfl⟩:=r2;exact iadd_int ⟨.int _,H,I.tok _,⟨_,rfl⟩,q⟩
end
section
def afk(c:TT)(tb:TS):TS:=fun D σ H=>∃W:Nat->St->Hp->Prop,(∃m,W m σ H)/\∀m σ H,W m σ H->
 c σ H fun b H1=>if b=true then ∃N:St->Hp->Prop,(∀σ' H',N σ' H'->∃m',m'<m/\W m' σ' H')/\tb { D with nx:=N,ct:=N,bk:=D.nx } σ H1 else D.nx σ H1
theorem yg{tc:TT}{tb:TS}(hp:PassesOwn (model X.prog X.w) X.A X.env X.xe)(hc:PT X c tc)(hb:mH X body tb):PS X (.While c body [] pos) (afk tc tb):=by
 intro pins s σ H D I h;obtain⟨W,⟨m0,w0⟩,turn⟩:=h;refine wpAny_While (codeAny_whileLoop (fun n s'=>∃σ' H',qr X pins σ' H' s'/\W n σ' H') ?_ m0 ⟨σ,H,I,w0⟩);rintro n s1 ⟨σ1,H1,I1,w1⟩;refine wpAny_passesOwn hp (x8 (hc pins s1 σ1 H1 _ I1 (turn n σ1 H1 w1)) fun b s2 ⟨H2,I2,q2⟩=>?_);cases b with
 |true=>
  obtain⟨N,hN,q2⟩:=q2;rw[AC rfl];refine wpAny_passesOwn hp (x8 (hb pins s2 σ1 H2 _ I2 q2) fun f s3 q3=>?_);cases f with
  |next=>
   obtain⟨σ3,H3,I3,n3⟩:=q3;obtain⟨m',hm,w3⟩:=hN σ3 H3 n3;exact⟨m',hm,σ3,H3,I3,w3⟩
  |cont=>
   obtain⟨σ3,H3,I3,n3⟩:=q3;obtain⟨m',hm,w3⟩:=hN σ3 H3 n3;exact⟨m',hm,σ3,H3,I3,w3⟩
  |brk=>exact q3
  |ret v=>exact q3
 |false=>
  rw[AB Ap];exact wpAny_execs_nil ⟨σ1,H2,I2,q2⟩
end
structure It where
 go:Nat->Hp->Prop
 yld:Nat->Hp->V->Hp->Prop
 stop:Nat->Hp->Prop
def lV(X:Cx)(pins:List (Addr×Obj))(H:Hp)(b:Addr):Prop:=
 H b=none/\b≠X.env.locals/\b∉X.fs/\(b∈X.ex\/X.s₀.heap.objs.size≤b)/\(∀x c,X.env.cells.lookup x=some c->c≠b)/\∀p∈X.pn++pins,p.1≠b
theorem qr.fpOk(I:qr X pins σ H s)(hb:s.heap.objs.size≤b)(hn:H' b=none):lV X pins H' b:=by
 refine⟨hn,Nat.ne_of_gt (AH I.lt hb),I.nofs hb,.inr (AM I.sz hb),fun x c e z=>?_,fun p hp z=>?_⟩
 ·obtain⟨v,q⟩:=I.cell x c e;exact absurd (AH q.lt (by rw[z];exact hb)) (BI _)
 ·exact absurd (AH (Heap.lt_size (I.pin p hp).1) (by rw[z];exact hb)) (BI _)
structure abo(P:Program)(w:World)(K:Ac)(tg:Expr)(J:It)(fp:List Addr)(it:Addr)(tn:Nat->Heap->Prop):Prop where
 mem:it∈fp
 obj:∀i h,tn i h->∀b∈fp,∃o,h.get? b=some o/\∀v,o.data≠.cell v
 keep:∀i h h',tn i h->(∀b∈fp,∀o,h.get? b=some o->h'.get? b=some o)->tn i h'
 item:∀(X:Cx),X.prog=P->X.w=w->X.K=K->X.calm=true->∀(i:Nat) (pins:List (Addr×Obj)) (s:Shared) (σ:St) (H:Hp) (E:Value->Shared->Prop),qr X pins σ H s->(∀b∈fp,lV X pins H b)->tn i s.heap->J.go i H->
  wpAny (model P w) X.A (pyNext (.ref it)) (fun r s1=>∃u,r=some u/\
   wpAny (model P w) X.A (letOwnedTupleGo tg (.ref it) u) (fun _ s2=>∃x H',qr X pins σ H' s2/\zc x u/\J.yld i H x H'/\tn (i+1) s2.heap/\∀b∈fp,H' b=none) E s1) E s
 done:∀(X:Cx),X.prog=P->X.w=w->X.K=K->X.calm=true->∀(i:Nat) (pins:List (Addr×Obj)) (s:Shared) (σ:St) (H:Hp) (E:Value->Shared->Prop),qr X pins σ H s->(∀b∈fp,lV X pins H b)->tn i s.heap->J.stop i H->
  wpAny (model P w) X.A (pyNext (.ref it)) (fun r s1=>r=none/\qr X pins σ H s1) E s
 self:∀(A:Around) (i:Nat) (s:Shared) (Q:Value->Shared->Prop) (E:Value->Shared->Prop),tn i s.heap->Q (.ref it) s->wpAny (model P w) A (pyIter (.ref it)) Q E s
abbrev TI:=St->Hp->(It->Hp->Prop)->Prop
def PIE(X:Cx)(pins:List (Addr×Obj))(σ:St)(tg:Expr)(R:It->Hp->Prop)(itv:Value)(s2:Shared):Prop:=
 ∃(it:Addr) (fp:List Addr) (tn:Nat->Heap->Prop) (J:It) (H':Hp),itv=.ref it/\qr X pins σ H' s2/\abo X.prog X.w X.K tg J fp it tn/\tn 0 s2.heap/\(∀b∈fp,lV X pins H' b)/\R J H'
def PI(X:Cx)(tg iter:Expr)(wi:TI):Prop:=
 ∀(pins:List (Addr×Obj)) (s:Shared) (σ:St) (H:Hp) (R:It->Hp->Prop),qr X pins σ H s->wi σ H R->
  wpAny (model X.prog X.w) X.A (eval iter X.env) (fun v s1=>wpAny (model X.prog X.w) X.A (pyIter v) (PIE X pins σ tg R) X.xe s1) X.xe s
theorem aef{it:Addr}{o:Obj}{n:String}{vs:Array Value}{Q:Unit->Shared->Prop}(ho:s.heap.get? it=some o)(hc:o.cls=.type n)(hd:o.data=.fields vs)
 (hn:["enumerate", "zip", "dict_itemiterator", "dict_reverseitemiterator", "odict_iterator", "itertools.zip_longest", "itertools.pairwise"].contains n=false) (hQ:Q () s):wpAny M A (letOwnedTupleGo tg (.ref it) u) Q E s:=by
 unfold letOwnedTupleGo;cases tg<;>first
  |exact Ax hQ
  |(cases u<;>first
   |exact Ax hQ
   |(refine Ad (wpAny_load ho ?_)
     rw[hc,hd];show wpAny M A (if (["enumerate", "zip", "dict_itemiterator", "dict_reverseitemiterator", "odict_iterator", "itertools.zip_longest", "itertools.pairwise"].contains n&&vs[0]?==some (rawInt _))=true then _ else _) Q E s;rw[AB (by intro h;rw[hn,Bool.false_and] at h;cases h)];exact Ax hQ))
def Itl(K:Ac)(a:Addr):It:=
 ⟨fun i H=>∃xs x,aE K H a xs/\xs[i]?=some x,fun i H x H'=>H'=H/\∀xs,aE K H a xs->xs[i]?=some x,fun i H=>∃xs,aE K H a xs/\xs.length≤i⟩
def Itr(lo:Int)(n:Nat):It:=⟨fun i _=>i<n,fun i H x H'=>H'=H/\x=.int (lo+i),fun i _=>n≤i⟩
theorem vH{P:Program}{w:World}{K:Ac}(a it:Addr):abo P w K tg (Itl K a) [it] it (fun i h=>h.IsListIter it a i) where
 mem:=by simp
 obj:=fun i h st b hb=>by
  have e:b=it:=by simpa using hb
  subst e;obtain⟨o,e,c,d⟩:=st;exact⟨o,e,fun v z=>by rw[d] at z;cases z⟩
 keep:=fun i h h' st k=>st.at fun o e=>k it (by simp) o e
 item:=by intro X hP hw hK hc i pins s σ H E I hf st hg;subst hP hw hK;obtain⟨xs,x,hq,hx⟩:=hg;obtain⟨its,rv,p,hz⟩:=I.list hq;obtain⟨u,hu,ru⟩:=rv.get hx;obtain⟨f0,f1,f2,f3,f4,f5⟩:=hf it (by simp);refine wpAny_pyNext_list_item st p.isList (x:=u) (by simpa using hu) fun h' st' sb=>?_;have I1:qr X pins σ H { s with heap:=h' }:=I.turned (t':=s.toks) (fun b o hb e=>(sb.2 b hb).trans e) f0 f1 f3 f4 f5;obtain⟨o,e,c,d⟩:=id st';exact⟨u,rfl,aef (s:={ s with heap:=h' }) e c d (by decide) ⟨x,H,I1,ru,⟨rfl,fun ys hy=>by rw[I.list_inj hy hq];exact hx⟩,st',fun b hb=>(hf b hb).1⟩⟩
 done:=by intro X hP hw hK hc i pins s σ H E I hf st hg;subst hP hw hK;obtain⟨xs,hq,hx⟩:=hg;obtain⟨its,rv,p,hz⟩:=I.list hq;obtain⟨f0,f1,f2,f3,f4,f5⟩:=hf it (by simp);have hl:=rv.length;exact wpAny_pyNext_list_end (I.ok.hd hc) st p.isList (by simp;omega) fun h' eb=>⟨rfl,I.turned (t':=s.toks) (fun b o hb e=>eb b o hb e) f0 f1 f3 f4 f5⟩
 self:=fun _ _ _ _ _ st h=>wpAny_pyIter_listiter st h
theorem rV{P:Program}{w:World}{K:Ac}(it:Addr)(lo:Int)(n:Nat):abo P w K tg (Itr lo n) [it] it (fun i h=>IsRangeIter h it (lo+(i:Nat)*1) ((n:Int) - (i:Nat)) 1) where
 mem:=by simp
 obj:=fun i h st b hb=>by
  have e:b=it:=by simpa using hb
  subst e;exact⟨_,st,fun v z=>by have z':Data.fields _=Data.cell v:=z;cases z'⟩
 keep:=fun i h h' st k=>k it (by simp) _ st
 item:=by intro X hP hw hK hc i pins s σ H E I hf st hg;subst hP hw hK;obtain⟨f0,f1,f2,f3,f4,f5⟩:=hf it (by simp);have W:=Walks.range (prog:=X.prog) (w:=X.w) (I.ok.hd hc) it lo 1 n;refine jy I.tk (W.item i s _ _ hg st fun v h' tk hv st' kk ht=>?_);obtain⟨t,rfl⟩:=hv;have I1:qr X pins σ H { s with heap:=h',toks:=tk }:=I.turned (fun b o hb e=>kk b o (by simpa using hb) e) f0 f1 f3 f4 f5;refine⟨_,rfl,aef (s:={ s with heap:=h',toks:=tk }) (n:="range_iterator") st' rfl rfl (by decide) ⟨.int (lo+i),H,I1,⟨t,?_⟩,⟨rfl,rfl⟩,st',fun b hb=>(hf b hb).1⟩⟩;rw[Int.mul_one]
 done:=by intro X hP hw hK hc i pins s σ H E I hf st hg;subst hP hw hK;obtain⟨f0,f1,f2,f3,f4,f5⟩:=hf it (by simp);exact wpAny_pyNext_range_end (I.ok.hd hc) st (by have:n≤i:=hg;omega) fun h' eb=>⟨rfl,I.turned (t':=s.toks) (fun b o hb e=>eb b o hb e) f0 f1 f3 f4 f5⟩
 self:=fun _ _ _ _ _ st h=>wpAny_pyIter_rangeiter st h
end L2
variable {wi:L2.TI}
namespace L2
open PySem PySem.Spec PyProof.Rows
section
def akb(K:Ac)(tl:TE):TI:=fun σ H R=>tl σ H fun x H1=>∃a,x=.ref a/\(∃xs,aE K H1 a xs)/\R (Itl K a) H1
theorem adf{l:Expr}{tl:TE}(hl:PE X l tl):PI X tg l (akb X.K tl):=by
 intro pins s σ H R I h;refine x8 (hl pins s σ H _ I h) fun v s1 ⟨x,H1,I1,r1,q1⟩=>?_;obtain⟨a,e,⟨xs,hq⟩,q⟩:=q1;subst e;cases r1;obtain⟨its,rv,p,hz⟩:=I1.list hq;refine wpAny_pyIter_list p.isList ?_;refine⟨s1.heap.objs.size,[s1.heap.objs.size],_,_,H1,rfl,I1.kept (t':=s1.toks) fun b o e=>Heap.get?_push_of_some _ e,vH a _,⟨_,Heap.get?_push_size _ rfl,rfl,rfl⟩,fun b hb=>?_,q⟩;have e:b=s1.heap.objs.size:=by simpa using hb
 subst e;exact I1.fpOk (Am _) (I1.hok.fresh (Am _))
theorem aaf{R:It->Hp->Prop}{hi:Int}{t u v:Tok}{tk:Nat}(I:qr X pins σ H s)(h1 : -(2 ^ 62)≤lo)(h2:lo<2 ^ 62)(h3 : -(2 ^ 62)≤hi)(h4:hi<2 ^ 62)
 (q:R (Itr lo (hi - lo).toNat) H) (ht:0<tk:=by walk_at "t"):wpAny (model X.prog X.w) X.A (pyIter (.ref s.heap.objs.size)) (PIE X pins σ tg R) E { s with heap:=s.heap.push { cls:=.type "range",data:=.fields #[.int lo t,.int hi u,.int 1 v] },toks:=tk }:=by
 refine wpAny_pyIter_range (IsRange.new ..) (small_one h1 h2 h3 h4) ?_;have I1:qr X pins σ H { s with heap:=s.heap.push { cls:=.type "range",data:=.fields #[.int lo t,.int hi u,.int 1 v] },toks:=tk }:=I.kept fun b o e=>Heap.get?_push_of_some _ e;refine⟨(s.heap.push { cls:=.type "range",data:=.fields #[.int lo t,.int hi u,.int 1 v] }).objs.size,[(s.heap.push { cls:=.type "range",data:=.fields #[.int lo t,.int hi u,.int 1 v] }).objs.size],_,_,H,rfl,
  I1.kept (t':=tk) fun b o e=>Heap.get?_push_of_some _ e,rV _ lo (hi - lo).toNat,?_,fun b hb=>?_,q⟩
 ·have e1:lo+((0:Nat):Int)*1=lo:=by simp
  have e2:(((hi - lo).toNat:Nat):Int) - ((0:Nat):Int)=Builtin.Range.rangeSize lo hi 1:=by rw[rangeSize_one];split<;>omega
  show IsRangeIter _ _ (lo+((0:Nat):Int)*1) ((((hi - lo).toNat:Nat):Int) - ((0:Nat):Int)) 1;rw[e1,e2];exact Heap.get?_push_size _ rfl
 ·have e:b=(s.heap.push { cls:=.type "range",data:=.fields #[.int lo t,.int hi u,.int 1 v] }).objs.size:=by simpa using hb
  subst e;exact I1.fpOk (Am _) (I1.hok.fresh (Am _))
def al1(ta:TA):TI:=fun σ H R=>ta σ H fun vs H1=>∃j:Int,vs=[.int j] /\ -(2 ^ 62)≤j/\j<2 ^ 62/\R (Itr 0 j.toNat) H1
theorem uW{a:Expr}{ta:TA}(hg:Gl X "range")(hm:X.mg "range" = none)(ha:PA X [a] ta)(hs:starEach [a] X.env=[(false,eval a X.env)]:=by rfl):PI X tg (.Call (.Name "range" p) [a] [] pos) (al1 ta):=by
 intro pins s σ H R I h;refine Call_ (dl I hg hm boot_range (BX (x8 (ha pos pins s σ H _ I h) fun us s1 ⟨vs,H1,I1,r1,q1⟩=>?_) hs rfl));obtain⟨j,e,q1,q2,q⟩:=q1;subst e;cases r1 with
 |cons r rr=>
  cases rr;obtain⟨t,rfl⟩:=r;exact call_range_1 (aaf I1 (by omega) (by omega) q1 q2 (by simpa using q))
def aoi(wi:TI)(g:TG)(tb:TS):TS:=fun D σ H=>wi σ H fun J H1=>∃W:Nat->Nat->St->Hp->Prop,(∃m,W 0 m σ H1)/\∀i m σ H,W i m σ H->
 (J.stop i H/\D.nx σ H)\/(J.go i H/\∃N:St->Hp->Prop,(∀σ' H',N σ' H'->∃m',m'<m/\W (i+1) m' σ' H')/\∀x H',J.yld i H x H'->g x σ H' fun σ2 H2=>tb { D with nx:=N,ct:=N,bk:=D.nx } σ2 H2)
def kC(fp:List Addr)(h:Heap):List (Addr×Obj):=fp.filterMap fun b=>(h.get? b).map fun o=>(b,o)
theorem bD{o:Obj}(hb:b∈fp)(e:h.get? b=some o):(b,o)∈kC fp h:=CA.mpr ⟨b,hb,by rw[e];rfl⟩
theorem uR{p:Addr×Obj}(hp:p∈kC fp h):p.1∈fp/\h.get? p.1=some p.2:=by
 obtain⟨b,hb,e⟩:=CA.mp hp;cases q:h.get? b with
 |none=>rw[q] at e;cases e
 |some o=>
  rw[q] at e;have e':(b,o)=p:=AQ e;subst e';exact⟨hb,q⟩
theorem qr.pinned(I:qr X pins σ H s)(hf:∀b∈fp,lV X pins H b)(ho:∀b∈fp,∃o,s.heap.get? b=some o/\∀v,o.data≠.cell v):qr X (pins++kC fp s.heap) σ H s:=
 I.pins_of fun p hp=>(Ah.mp hp).elim (fun z=>I.pin p (Ag _ z)) fun z=>by obtain⟨hb,e⟩:=uR z;obtain⟨f0,f1,f2,_⟩:=hf p.1 hb;obtain⟨o,e',d⟩:=ho p.1 hb;rw[e] at e';cases e';exact⟨e,f0,f1,f2,d⟩
theorem qr.unpinned{pl:List (Addr×Obj)}(I:qr X (pins++pl) σ H s):qr X pins σ H s:=I.pins_of fun p hp=>I.pin p (Ag _ (Ao _ hp))
theorem ai6{g:TG}{tb:TS}(hp:PassesOwn (model X.prog X.w) X.A X.env X.xe)(hc:X.calm=true)(hi:PI X tg iter wi)(hg:PG X tg g)(hb:mH X body tb)
 (hs:∀x,foldedSetIterable iter X.env x=pure x:=by intro _;rfl):PS X (.For tg iter body [] pos) (aoi wi g tb):=by
 intro pins s σ H D I h;refine wpAny_For (x8 (hi pins s σ H _ I h) fun v s1 h1=>x8 h1 fun itv s2 h2=>?_) hs;obtain⟨it,fp,tn,J,H2,e,I2,T,st2,f2,W,⟨m0,w0⟩,turn⟩:=h2;subst e;have stat:∀{H':Hp},(∀b∈fp,H' b=none)->∀b∈fp,lV X pins H' b:=fun hn b hb=>⟨hn b hb,(f2 b hb).2⟩;refine codeAny_forLoop_any (fun n s'=>∃i σ' H',qr X pins σ' H' s'/\tn i s'.heap/\(∀b∈fp,H' b=none)/\W i n σ' H') ?_ m0 ⟨0,σ,H2,I2,st2,fun b hb=>(f2 b hb).1,w0⟩;rintro n s3 ⟨i,σ3,H3,I3,st3,fr3,w3⟩;rcases turn i n σ3 H3 w3 with⟨stop,qn⟩ | ⟨go,N,hN,step⟩
 ·refine wpAny_passesOwn hp (x8 (T.done X rfl rfl rfl hc i pins s3 σ3 H3 X.xe I3 (stat fr3) st3 stop) fun r s4 ⟨hr,I4⟩=>?_);subst hr;exact wpAny_execs_nil ⟨σ3,H3,I4,qn⟩
 ·refine wpAny_passesOwn hp (x8 (T.item X rfl rfl rfl hc i pins s3 σ3 H3 X.xe I3 (stat fr3) st3 go) fun r s4 ⟨u,hr,h4⟩=>?_);subst hr;refine wpAny_passesOwn hp (x8 h4 fun _ s5 ⟨x,H5,I5,r5,y5,st5,fr5⟩=>?_);have I5':=I5.pinned (stat fr5) (T.obj _ _ st5);refine wpAny_passesOwn hp (x8 (hg _ s5 σ3 H5 x u _ I5' r5 (step x H5 y5)) fun _ s6 ⟨σ6,H6,I6,q6⟩=>?_);refine wpAny_passesOwn hp (x8 (hb _ s6 σ6 H6 _ I6 q6) fun f s7 q7=>?_);have again:∀{σ7:St} {H7:Hp},qr X (pins++kC fp s5.heap) σ7 H7 s7->N σ7 H7->∃m,m<n/\∃i σ' H',qr X pins σ' H' s7/\tn i s7.heap/\(∀b∈fp,H' b=none)/\W i m σ' H':=fun {σ7 H7} I7 n7=>by obtain⟨m',hm,w7⟩:=hN σ7 H7 n7;refine⟨m',hm,i+1,σ7,H7,I7.unpinned,T.keep _ _ _ st5 fun b hb o e=>(I7.pin (b,o) (Ag _ (Ag _ (bD hb e)))).1,fun b hb=>?_,w7⟩;obtain⟨o,e,d⟩:=T.obj _ _ st5 b hb;exact(I7.pin (b,o) (Ag _ (Ag _ (bD hb e)))).2.1
  cases f with
  |next=>obtain⟨σ7,H7,I7,n7⟩:=q7;exact again I7 n7
  |cont=>obtain⟨σ7,H7,I7,n7⟩:=q7;exact again I7 n7
  |brk=>obtain⟨σ7,H7,I7,q7⟩:=q7;exact⟨σ7,H7,I7.unpinned,q7⟩
  |ret v=>obtain⟨x7,σ7,H7,I7,r7,q7⟩:=q7;exact⟨x7,σ7,H7,I7.unpinned,r7,q7⟩
end
abbrev R2:=V->V->Hp->VK->Prop
def ko(X:Cx)(f:Value->Value->Sem Value)(r:R2):Prop:=
 ∀(pins:List (Addr×Obj)) (s:Shared) (σ:St) (H:Hp) (x y:V) (v u:Value) (Q:VK),qr X pins σ H s->zc x v->zc y u->r x y H Q->
  wpAny (model X.prog X.w) X.A (f v u) (EP X pins σ Q) X.xe s
def UnR(X:Cx)(f:Value->Sem Value)(r:V->Hp->VK->Prop):Prop:=
 ∀(pins:List (Addr×Obj)) (s:Shared) (σ:St) (H:Hp) (x:V) (v:Value) (Q:VK),qr X pins σ H s->zc x v->r x H Q->
  wpAny (model X.prog X.w) X.A (f v) (EP X pins σ Q) X.xe s
def ju(X:Cx)(f:Value)(r:List V->Hp->VK->Prop):Prop:=
 ∀(pins:List (Addr×Obj)) (s:Shared) (σ:St) (H:Hp) (xs:List V) (us:List Value) (Q:VK),qr X pins σ H s->zh xs us->r xs H Q->
  wpAny (model X.prog X.w) X.A (call f us) (EP X pins σ Q) X.xe s
def tOp(r:R2)(ta tb:TE):TE:=fun σ H Q=>ta σ H fun x H1=>tb σ H1 fun y H2=>r x y H2 Q
def tUn(r:V->Hp->VK->Prop)(ta:TE):TE:=fun σ H Q=>ta σ H fun x H1=>r x H1 Q
def rI(C:Int->Int->Prop)(g:Int->Int->V):R2:=fun x y H Q=>∃i j,x=.int i/\y=.int j/\C i j/\Q (g i j) H
def rI0(g:Int->Int->V):R2:=fun x y H Q=>∃i j,x=.int i/\y=.int j/\Q (g i j) H
def rU(g:Int->V):V->Hp->VK->Prop:=fun x H Q=>∃i,x=.int i/\Q (g i) H
section
variable {a b:Expr}{tb tc:TE} 
theorem aia(ha:PE X a ta)(hb:PE X b tb){R:V->V->Hp->Prop}(I:qr X pins σ H s)
 (h:ta σ H fun x H1=>tb σ H1 fun y H2=>R x y H2) {f:Value->Value->Sem Value}
 (hf:∀v u s2 x y H2,qr X pins σ H2 s2->zc x v->zc y u->R x y H2->wpAny (model X.prog X.w) X.A (f v u) Q X.xe s2):
 wpAny (model X.prog X.w) X.A (eval a X.env) (fun v s₁=>wpAny (model X.prog X.w) X.A (eval b X.env) (fun u s₂=>wpAny (model X.prog X.w) X.A (f v u) Q X.xe s₂) X.xe s₁) X.xe s:=by
 refine x8 (ha pins s σ H _ I h) fun v s1 ⟨x,H1,I1,r1,q1⟩=>?_;refine x8 (hb pins s1 σ H1 _ I1 q1) fun u s2 ⟨y,H2,I2,r2,q2⟩=>?_;exact hf v u s2 x y H2 I2 r1 r2 q2
theorem akc{op:Operator}{r:R2}(ho:ko X (binaryOp op) r)(ha:PE X a ta)(hb:PE X b tb):PE X (.BinOp a op b pos) (tOp r ta tb):=by intro pins s σ H Q I h;exact wpAny_BinOp (aia ha hb I h fun v u s2 x y H2 I2 rx ry q=>ho pins s2 σ H2 x y v u Q I2 rx ry q)
theorem ak0{op:UnaryOp}{r:V->Hp->VK->Prop}(ho:UnR X (unaryOp op) r)(ha:PE X a ta):PE X (.UnaryOp op a pos) (tUn r ta):=by intro pins s σ H Q I h;exact UnaryOp_ (x8 (ha pins s σ H _ I h) fun v s1 ⟨x,H1,I1,r1,q1⟩=>ho pins s1 σ H1 x v Q I1 r1 q1)
theorem opI{f:Value->Value->Sem Value}{C:Int->Int->Prop}{g:Int->Int->Int}
 (rule:∀(i j:Int) (t u:Tok) (s:Shared) (Q:Value->Shared->Prop) (E:Value->Shared->Prop),C i j->Q (.int (g i j) s.toks) { s with toks:=s.toks+1 }->wpAny (model X.prog X.w) X.A (f (.int i t) (.int j u)) Q E s):
 ko X f (rI C fun i j=>.int (g i j)):=by
 intro pins s σ H x y v u Q I rx ry h;obtain⟨i,j,rfl,rfl,hc,q⟩:=h;obtain⟨t,rfl⟩:=rx;obtain⟨t',rfl⟩:=ry;exact rule i j t t' s _ _ hc ⟨.int (g i j),H,I.tok _,⟨_,rfl⟩,q⟩
theorem aka{f:Value->Value->Sem Value}{g:Int->Int->Int}
 (rule:∀(i j:Int) (t u:Tok) (s:Shared) (Q:Value->Shared->Prop) (E:Value->Shared->Prop),Q (.int (g i j) s.toks) { s with toks:=s.toks+1 }->wpAny (model X.prog X.w) X.A (f (.int i t) (.int j u)) Q E s):
 ko X f (rI0 fun i j=>.int (g i j)):=by
 intro pins s σ H x y v u Q I rx ry h;obtain⟨i,j,rfl,rfl,q⟩:=h;obtain⟨t,rfl⟩:=rx;obtain⟨t',rfl⟩:=ry;exact rule i j t t' s _ _ ⟨.int (g i j),H,I.tok _,⟨_,rfl⟩,q⟩
theorem aik{f:Value->Value->Sem Value}{g:Int->Int->Bool}
 (rule:∀(i j:Int) (t u:Tok) (s:Shared) (Q:Value->Shared->Prop) (E:Value->Shared->Prop),Q (.bool (g i j)) s->wpAny (model X.prog X.w) X.A (f (.int i t) (.int j u)) Q E s):
 ko X f (rI0 fun i j=>.bl (g i j)):=by
 intro pins s σ H x y v u Q I rx ry h;obtain⟨i,j,rfl,rfl,q⟩:=h;obtain⟨t,rfl⟩:=rx;obtain⟨t',rfl⟩:=ry;exact rule i j t t' s _ _ ⟨.bl (g i j),H,I,rfl,q⟩
def ahq(i j:Int):Prop:=0<j/\j<1073741824
def aho(i j:Int):Prop:=0≤j/\j≤1000000/\i.natAbs<2 ^ 64
def wV(i j:Int):Prop:=(-(2 ^ 64)<i/\i<2 ^ 64)\/(-(2 ^ 64)<j/\j<2 ^ 64)
theorem wV.ok{i j:Int}(h:wV i j):IntMulOk i j:=by
 rcases h with⟨h1,h2⟩ | ⟨h1,h2⟩
 ·exact .of_left (intBits_le_64 h1 h2)
 ·exact .of_right (intBits_le_64 h1 h2)
theorem ah0:ko X (binaryOp .Add) (rI0 fun i j=>.int (i+j)):=aka fun _ _ _ _ _ _ _ q=>add_int q
theorem agx:ko X (binaryOp .Sub) (rI0 fun i j=>.int (i - j)):=aka fun _ _ _ _ _ _ _ q=>sub_int q
theorem aih:ko X (binaryOp .Mult) (rI wV fun i j=>.int (i*j)):=opI fun _ _ _ _ _ _ _ hc q=>mul_int q hc.ok
theorem aci:ko X (binaryOp .FloorDiv) (rI ahq fun i j=>.int (i / j)):=opI fun i j _ _ _ _ _ hc q=>by have h1:(0:Int)<j:=hc.1;have h2:j<1073741824:=hc.2;exact floordiv_int (by omega) (by rw[Int.fdiv_eq_ediv_of_nonneg i (by omega)];exact q) (.inl (PyProof.noPylong_small (by omega)))
theorem ai7:ko X (binaryOp .Mod) (rI (fun _ j=>0<j) fun i j=>.int (i % j)):=opI fun i j _ _ _ _ _ hc q=>by have h1:(0:Int)<j:=hc;exact mod_int' (by omega) (by rw[Int.fmod_eq_emod_of_nonneg i (by omega)];exact q)
theorem afg:ko X (binaryOp .Pow) (rI aho fun i j=>.int (i ^ j.toNat)):=opI fun _ _ _ _ _ _ _ hc q=>pow_int_small hc.1 hc.2.1 hc.2.2 q
theorem unI{f:Value->Sem Value}{g:Int->Int}
 (rule:∀(i:Int) (t:Tok) (s:Shared) (Q:Value->Shared->Prop) (E:Value->Shared->Prop),Q (.int (g i) s.toks) { s with toks:=s.toks+1 }->wpAny (model X.prog X.w) X.A (f (.int i t)) Q E s):
 UnR X f (rU fun i=>.int (g i)):=by
 intro pins s σ H x v Q I rx h;obtain⟨i,rfl,q⟩:=h;obtain⟨t,rfl⟩:=rx;exact rule i t s _ _ ⟨.int (g i),H,I.tok _,⟨_,rfl⟩,q⟩
theorem ahd:UnR X (unaryOp .USub) (rU fun i=>.int (-i)):=unI fun _ _ _ _ _ q=>neg_int q
end
def acq:V->V->Bool
 |.non,.non=>true | .non,.int _=>true | .int _,.non=>true | .non,.bl _=>true | .bl _,.non=>true | .non,.str _=>true | .str _,.non=>true
 |.int _,.int _=>true | .bl _,.bl _=>true | .str _,.str _=>true | .byt _,.byt _=>true
 |.int _,.str _=>true | .str _,.int _=>true | .bl _,.str _=>true | .str _,.bl _=>true
 |_,_=>false
def rEq:R2:=fun x y H Q=>acq x y=true/\Q (.bl (decide (x=y))) H
def rNe:R2:=fun x y H Q=>acq x y=true/\Q (.bl (!decide (x=y))) H
theorem tZ{i j:Int}:decide (V.int i=V.int j)=(i==j):=by rw[Bq];simp
theorem aao{i j:Bool}:decide (V.bl i=V.bl j)=(i==j):=by rw[Bq];simp
theorem tW{i j:Str}:decide (V.str i=V.str j)=(i==j):=by rw[Bq];simp
theorem uA{i j:Array UInt8}:decide (V.byt i=V.byt j)=(i.toList==j.toList):=by rw[Bq];cases i;cases j;simp
section
variable {a b:Expr}{tb tc:TE} 
theorem j7{Q:VK}{k k':Bool}(I:qr X pins σ H s)(q:Q (.bl k) H)(e:k=k'):EP X pins σ Q (.bool k') s:=by subst e;exact⟨.bl k,H,I,rfl,q⟩
theorem aee:ko X (compareOp .Eq) rEq:=by
 intro pins s σ H x y v u Q I rx ry h;obtain⟨hs,q⟩:=h;cases x with
 |non=>
  cases rx;cases y with
  |non=>cases ry;exact PySem.EqNone.eq_none_none (j7 I q (by simp))
  |bl j=>cases ry;exact PySem.EqNone.eq_none_bool (j7 I q (by simp))
  |int j=>obtain⟨t',rfl⟩:=ry;exact PySem.EqNone.eq_none_int (j7 I q (by simp))
  |str j=>obtain⟨t',rfl⟩:=ry;exact PySem.EqNone.eq_none_str (j7 I q (by simp))
  |_=>exact absurd (show false=true from hs) Ap
 |bl i=>
  cases rx;cases y with
  |non=>cases ry;exact PySem.EqNone.eq_bool_none (j7 I q (by simp))
  |bl j=>cases ry;exact eq_bool (j7 I q aao)
  |str j=>obtain⟨t',rfl⟩:=ry;exact PySem.EqMixed.eq_bool_str (j7 I q (by simp))
  |_=>exact absurd (show false=true from hs) Ap
 |int i=>
  obtain⟨t,rfl⟩:=rx;cases y with
  |non=>cases ry;exact PySem.EqNone.eq_int_none (j7 I q (by simp))
  |int j=>obtain⟨t',rfl⟩:=ry;exact eq_int (j7 I q tZ)
  |str j=>obtain⟨t',rfl⟩:=ry;exact PySem.EqMixed.eq_int_str (j7 I q (by simp))
  |_=>exact absurd (show false=true from hs) Ap
 |str i=>
  obtain⟨t,rfl⟩:=rx;cases y with
  |non=>cases ry;exact PySem.EqNone.eq_str_none (j7 I q (by simp))
  |bl j=>cases ry;exact PySem.EqMixed.eq_str_bool (j7 I q (by simp))
  |int j=>obtain⟨t',rfl⟩:=ry;exact PySem.EqMixed.eq_str_int (j7 I q (by simp))
  |str j=>obtain⟨t',rfl⟩:=ry;exact eq_str (j7 I q tW)
  |_=>exact absurd (show false=true from hs) Ap
 |byt i=>
  obtain⟨t,rfl⟩:=rx;cases y with
  |byt j=>obtain⟨t',rfl⟩:=ry;exact PySem.W.eq_bytes (j7 I q uA)
  |_=>exact absurd (show false=true from hs) Ap
 |_=>cases y<;>exact absurd (show false=true from hs) Ap
theorem aex:ko X (compareOp .NotEq) rNe:=by
 intro pins s σ H x y v u Q I rx ry h;obtain⟨hs,q⟩:=h;cases x with
 |non=>
  cases rx;cases y with
  |non=>cases ry;exact PySem.EqNone.ne_none_none (j7 I q (by simp))
  |bl j=>cases ry;exact PySem.EqNone.ne_none_bool (j7 I q (by simp))
  |int j=>obtain⟨t',rfl⟩:=ry;exact PySem.EqNone.ne_none_int (j7 I q (by simp))
  |str j=>obtain⟨t',rfl⟩:=ry;exact PySem.EqNone.ne_none_str (j7 I q (by simp))
  |_=>exact absurd (show false=true from hs) Ap
 |bl i=>
  cases rx;cases y with
  |non=>cases ry;exact PySem.EqNone.ne_bool_none (j7 I q (by simp))
  |bl j=>cases ry;exact ne_bool (j7 I q (Bs not aao))
  |str j=>obtain⟨t',rfl⟩:=ry;exact PySem.EqMixed.ne_bool_str (j7 I q (by simp))
  |_=>exact absurd (show false=true from hs) Ap
 |int i=>
  obtain⟨t,rfl⟩:=rx;cases y with
  |non=>cases ry;exact PySem.EqNone.ne_int_none (j7 I q (by simp))
  |int j=>obtain⟨t',rfl⟩:=ry;exact ne_int (j7 I q (Bs not tZ))
  |str j=>obtain⟨t',rfl⟩:=ry;exact PySem.EqMixed.ne_int_str (j7 I q (by simp))
  |_=>exact absurd (show false=true from hs) Ap
 |str i=>
  obtain⟨t,rfl⟩:=rx;cases y with
  |non=>cases ry;exact PySem.EqNone.ne_str_none (j7 I q (by simp))
  |bl j=>cases ry;exact PySem.EqMixed.ne_str_bool (j7 I q (by simp))
  |int j=>obtain⟨t',rfl⟩:=ry;exact PySem.EqMixed.ne_str_int (j7 I q (by simp))
  |str j=>obtain⟨t',rfl⟩:=ry;exact ne_str (j7 I q (Bs not tW))
  |_=>exact absurd (show false=true from hs) Ap
 |byt i=>
  obtain⟨t,rfl⟩:=rx;cases y with
  |byt j=>obtain⟨t',rfl⟩:=ry;exact PySem.W.ne_bytes (j7 I q (Bs not uA))
  |_=>exact absurd (show false=true from hs) Ap
 |_=>cases y<;>exact absurd (show false=true from hs) Ap
theorem ajc:ko X (compareOp .Lt) (rI0 fun i j=>.bl (decide (i<j))):=aik fun _ _ _ _ _ _ _ q=>lt_int q
theorem aj6:ko X (compareOp .LtE) (rI0 fun i j=>.bl (decide (i≤j))):=aik fun _ _ _ _ _ _ _ q=>le_int q
theorem ak4:ko X (compareOp .Gt) (rI0 fun i j=>.bl (decide (j<i))):=aik fun _ _ _ _ _ _ _ q=>gt_int q
theorem vd(b:Expr){op:CmpOp}(h:op≠.In:=by decide)(h2:op≠.NotIn:=by decide):behindInMarks op b=false:=by
 have e1:(op==CmpOp.In)=false:=by cases op<;>first | rfl | exact absurd rfl h
 have e2:(op==CmpOp.NotIn)=false:=by cases op<;>first | rfl | exact absurd rfl h2
 cases b<;>simp[behindInMarks,e1,e2]
theorem adz{op:CmpOp}{r:R2}(ho:ko X (compareOp op) r)(ha:PE X a ta)(hb:PE X b tb)(hm:behindInMarks op b=false):PE X (.Compare a [op] [b] pos) (tOp r ta tb):=by intro pins s σ H Q I h;exact wpAny_Compare1 (aia ha hb I h fun v u s2 x y H2 I2 rx ry q=>ho pins s2 σ H2 x y v u Q I2 rx ry q) hm
def aa6(t:TE):TT:=fun σ H Q=>t σ H fun x H'=>∃k,x=.bl k/\Q k H'
theorem aby{op:CmpOp}{r:R2}(ho:ko X (compareOp op) r)(ha:PE X a ta)(hb:PE X b tb)(hm:behindInMarks op b=false):PT X (.Compare a [op] [b] pos) (aa6 (tOp r ta tb)):=by
 intro pins s σ H Q I h;refine wpAny_isTrue_Compare1 (x8 (ha pins s σ H _ I h) fun v s1 ⟨x,H1,I1,r1,q1⟩=>x8 (hb pins s1 σ H1 _ I1 q1) fun u s2 ⟨y,H2,I2,r2,q2⟩=>
  x8 (ho pins s2 σ H2 x y v u _ I2 r1 r2 q2) fun c s3 ⟨z,H3,I3,r3,k,e,q3⟩=>?_) hm
 subst e;cases r3;exact wpAny_truthy_bool ⟨H3,I3,q3⟩
theorem ga:(sizeLine:Nat)<2 ^ 63:=by rw[sizeLine_eq];decide
theorem sm:ko X (binaryOp .Add) (fun x y H Q=>∃i j,x=.str i/\y=.str j/\i.length+j.length≤sizeLine/\Q (.str (i++j)) H):=by intro pins s σ H x y v u Q I rx ry h;obtain⟨i,j,rfl,rfl,hz,q⟩:=h;obtain⟨t,rfl⟩:=rx;obtain⟨t',rfl⟩:=ry;exact jy I.tk (add_str (fun t' tk ht=>⟨.str (i++j),H,I.tok _,⟨_,rfl⟩,q⟩) hz)
theorem qR{x:V}(r:zh [x] us):∃u,us=[u]/\zc x u:=by cases r with|cons r1 r2=>cases r2;exact⟨_,rfl,r1⟩
theorem aew{x y:V}(r:zh [x,y] us):∃u w',us=[u,w']/\zc x u/\zc y w':=by
 cases r with
 |cons r1 r2=>
  cases r2 with|cons r3 r4=>cases r4;exact⟨_,_,rfl,r1,r3⟩
theorem vY(hc:X.calm=true):ju X (.builtin "max") (fun xs H Q=>∃i j,xs=[.int i,.int j]/\Q (.int (if j > i then j else i)) H):=by
 intro pins s σ H xs us Q I r h;obtain⟨i,j,rfl,q⟩:=h;obtain⟨u,w',rfl,⟨t,rfl⟩,⟨t',rfl⟩⟩:=aew r;refine jy I.tk (max_two_ints (I.ok.hd hc) fun h' tk k ht=>⟨_,H,I.kept k,?_,q⟩);by_cases hj:j > i
 ·rw[AC hj,AC hj];exact⟨_,rfl⟩
 ·rw[AB hj,AB hj];exact⟨_,rfl⟩
theorem u7(hc:X.calm=true):ju X (.builtin "min") (fun xs H Q=>∃i j,xs=[.int i,.int j]/\Q (.int (if j<i then j else i)) H):=by
 intro pins s σ H xs us Q I r h;obtain⟨i,j,rfl,q⟩:=h;obtain⟨u,w',rfl,⟨t,rfl⟩,⟨t',rfl⟩⟩:=aew r;refine jy I.tk (min_two_ints (I.ok.hd hc) fun h' tk k ht=>⟨_,H,I.kept k,?_,q⟩);by_cases hj:j<i
 ·rw[AC hj,AC hj];exact⟨_,rfl⟩
 ·rw[AB hj,AB hj];exact⟨_,rfl⟩
end
structure rO(h:Heap)(x dx C:Addr)(mA:Str->Option Value):Prop where
 obj:h.get? x=some (PySem.W.instObj C dx)
 ns:h.Ns1 dx mA
 ne:dx≠x
theorem vA(n:h.Ns1 dx mA):∃od,h.get? dx=some od/\∀name,PySem.W.lookIn name od=some (mA name):=by
 obtain⟨o,es,ep,ho,hd,hk,_,hm⟩:=n;refine⟨o,ho,fun name=>?_⟩;have e:=hm name;unfold nsFind findBy at e;rw[<-Array.find?_toList] at e;unfold PySem.W.lookIn;rw[hd];dsimp only;split
 ·rename_i y q;rw[q] at e;exact Bs some e
 ·rename_i q;rw[q] at e;have a:es.toList.any (·.refKey)=false:=by rw[List.any_eq_false];intro y hy;obtain⟨z,t,hkey⟩:=hk y (Array.mem_toList_iff.mp hy);simp[DictEntry.refKey,hkey]
  have a':¬es.toList.any (·.refKey)=true:=by rw[a];exact Ap
  rw[AB a'];exact Bs some e
theorem rO.look{x:Addr}(I:rO h x dx C mA):∃od,PySem.W.InstAt h x (PySem.W.instObj C dx) C (some od)/\∀name,PySem.W.lookIn name od=some (mA name):=
 let ⟨od,ho,hl⟩:=vA I.ns
 ⟨od,⟨I.obj,rfl,rfl,ho⟩,hl⟩
section
variable {w:World}{K:Ac}{x:Addr}{v:Value}
theorem ac3{expr:Bool}(X:K.In s.heap)(I:rO s.heap x dx C mA)(hg:PySem.W.plainGet K C name=true)(hh:PySem.W.hasDictIn K C=true)
 (ha:PySem.W.findIn K (.ref C) name=some none) (hv:mA name=some v) (hv':PySem.W.handedIn v=true) (h:Q v { s with toks:=s.toks+1 }):
 wpAny (model prog w) A (getAttr (.ref x) name expr) Q E s:=by
 obtain⟨od,J,hl⟩:=I.look;exact PySem.W.get_value X J (Cy hg).1 (PySem.W.findObj_own hh ha rfl (by rw[hl,hv])) hv' h
theorem xM{pl:Sem Bool}{Q:Value×List Value->Shared->Prop}(X:K.In s.heap)(I:rO s.heap x dx C mA)(hg:PySem.W.plainGet K C name=true)
 (hf:PySem.W.findIn K (.ref C) name=some (some (.ref f))) (ht:PySem.W.isFn K (.ref f)=true) (hv:mA name=none) (h:Q (.ref f,[.ref x]) s):
 wpAny (model prog w) A (getMethod (.ref x) name pl) Q E s:=by
 obtain⟨od,J,hl⟩:=I.look;exact PySem.W.method_fn X J (Cy hg).1 (Cy hg).2 hf (beq_iff_eq.mp ht) (by show(PySem.W.lookIn name od).map (·.isSome)=some false;rw[hl,hv];rfl) h
theorem acj{ns:List Str}{Q:Unit->Shared->Prop}(X:K.In s.heap)(I:rO s.heap x dx C mA)
 (hs:PySem.W.findIn K (.ref C) "__setattr__" = some (some (.builtin "object.__setattr__"))) (hp:PySem.W.plainOver K C=true) (ht:PySem.W.takerIn K C name=some none) (hh:PySem.W.hasDictIn K C=true)
 (hw:PySem.Within mA ns) (hsz:ns.length≤sizeLine)
 (h:∀h',rO h' x dx C (fun y=>if y=name then some v else mA y)->Heap.SameBut dx s.heap h'->Q () { s with heap:=h',toks:=s.toks+2 }):
 wpAny (model prog w) A (setAttr (.ref x) name v) Q E s:=by
 obtain⟨od,J,hl⟩:=I.look;refine PySem.W.set_plain X J hs (PySem.W.osa_open (s:={ s with toks:=s.toks+1 }) (r:=none) X J hp ht fun b=>?_);obtain⟨cd,hc,hd'⟩:=PySem.W.any_some hh;have hx:s.heap.get? x=some ⟨.ref C,some dx,.plain,#[]⟩:=I.obj;refine Ad (Ax (Ad (Ad (wpAny_loadPart hx (Ad (PySem.W.Looks.here (s:={ s with toks:=s.toks+1 }) (PySem.W.looks_clsIn X hc) ?_))))));rw[hd'];refine Ax (a:=some dx) (Ad (Ax (Ad ?_)));refine wpAny_nsSet1 (s:={ s with toks:=s.toks+1 }) I.ns fun h' hn2 hs2=>?_;obtain⟨oD,esD,epD,hoD,hdD,hcD⟩:=hn2.count (PySem.Within.cons name v hw);refine Ad (wpAny_lookBehind hoD (by rw[hdD];exact pastItsLine_dict (AM hcD (by rw[AE];omega))) ?_);exact Ax (h _ ⟨(hs2.2 _ (AR I.ne)).trans I.obj,hn2,I.ne⟩ hs2)
theorem wS{R:Result->Shared->Prop}(X:K.In s.heap)(hm:PySem.W.makesIn K C=true)
 (hi:PySem.W.findIn K (.ref C) "__init__" = some (some (.ref f))) (hf:PySem.W.typeIn K (.ref f)=some (.type "function"))
 (h:codeAny (model prog w) (A.under (.builtin "type.__call__" ⟨.ref C::vs,kw⟩)) (.call (.ref f) ⟨.ref (s.heap.objs.size+1)::vs,kw⟩) (PySem.W.InitBack (s.heap.objs.size+1) R)
  { s with heap:=(s.heap.push PySem.W.emptyDict).push (PySem.W.instObj C s.heap.objs.size) }):
 codeAny (model prog w) A (.call (.ref C) ⟨vs,kw⟩) R s:=by
 obtain⟨hh,g,d,t,os⟩:=s;exact PySem.W.make_core (PySem.W.makes_of X hm) (PySem.W.looks_findIn X hi) (fun self=>PySem.W.bind_fn X self hf) (.inl rfl) h
end
def bJ(f:Str)(v:V):List (Str×V)->List (Str×V)
 |[]=>[(f,v)]
 |(g,x)::r=>if g=f then(g,v)::r else(g,x)::bJ f v r
theorem gz(f g:Str)(v:V):∀fs:List (Str×V),(bJ f v fs).lookup g=if g=f then some v else fs.lookup g
 |[]=>by
  show List.lookup g [(f,v)]=_;by_cases h:g=f
  ·have hb:(g==f)=true:=beq_iff_eq.mpr h;simp only[List.lookup,hb,AC h]
  ·have hb:(g==f)=false:=beq_eq_false_iff_ne.mpr h;simp only[List.lookup,hb,AB h]
 |(k,x)::r=>by
  have ih:=gz f g v r;rw[show bJ f v ((k,x)::r)=(if k=f then(k,v)::r else(k,x)::bJ f v r) from rfl];by_cases hk:k=f
  ·rw[AC hk];by_cases h:g=k
   ·have hb:(g==k)=true:=beq_iff_eq.mpr h;simp only[List.lookup,hb,AC (h.trans hk)]
   ·have hb:(g==k)=false:=beq_eq_false_iff_ne.mpr h;simp only[List.lookup,hb,AB (fun e:g=f=>h (e.trans hk.symm))]
  ·rw[AB hk];by_cases h:g=k
   ·have hb:(g==k)=true:=beq_iff_eq.mpr h;simp only[List.lookup,hb,AB (fun e:g=f=>hk (h.symm.trans e))]
   ·have hb:(g==k)=false:=beq_eq_false_iff_ne.mpr h;simp only[List.lookup,hb];exact ih
theorem fu(f:Str)(v:V):∀fs:List (Str×V),f∈(bJ f v fs).map (·.1)/\∀g,g∈fs.map (·.1)->g∈(bJ f v fs).map (·.1)
 |[]=>⟨by simp[bJ],fun g h=>by simp at h⟩
 |(k,x)::r=>by
  obtain⟨i1,i2⟩:=fu f v r;rw[show bJ f v ((k,x)::r)=(if k=f then(k,v)::r else(k,x)::bJ f v r) from rfl];by_cases hk:k=f
  ·rw[AC hk];subst hk;exact⟨by simp,fun g h=>by simpa using h⟩
  ·rw[AB hk];refine⟨?_,fun g h=>?_⟩
   ·rw[AD];exact Ae _ i1
   ·rw[AD] at h ⊢;rcases An.mp h with e | e
    ·exact An.mpr (.inl e)
    ·exact Ae _ (i2 g e)
theorem gh(f:Str)(v:V):∀fs:List (Str×V),(bJ f v fs).length≤fs.length+1
 |[]=>by simp[bJ]
 |(k,x)::r=>by
  have ih:=gh f v r;rw[show bJ f v ((k,x)::r)=(if k=f then(k,v)::r else(k,x)::bJ f v r) from rfl];by_cases hk:k=f
  ·rw[AC hk,AE,AE];omega
  ·rw[AB hk,AE,AE];omega
theorem ar.some_of{o:Option Value}(r:ar (some v) o):∃u,o=some u/\zc v u:=by cases o with|none=>exact(show False from r).elim|some u=>exact⟨u,rfl,r⟩
abbrev DJ:=@ar.some_of
theorem ar.none_of{o:Option Value}(r:ar none o):o=none:=by cases o with|none=>rfl|some u=>exact(show False from r).elim
theorem vW(r:zc v u):PySem.W.handedIn u=true:=by
 cases v with
 |non=>cases (show u=Value.none from r);rfl
 |bl b=>cases (show u=Value.bool b from r);rfl
 |int i=>obtain⟨t,e⟩:=(show ∃t,u=Value.int i t from r);cases e;rfl
 |str x=>obtain⟨t,e⟩:=(show ∃t,u=Value.str x t from r);cases e;rfl
 |byt b=>obtain⟨t,e⟩:=(show ∃t,u=Value.bytes b t from r);cases e;rfl
 |flt b=>obtain⟨t,e⟩:=(show ∃t,u=Value.float b t from r);cases e;rfl
 |ref a=>cases (show u=Value.ref a from r);rfl
 |ty n=>cases (show u=Value.type n from r);rfl
section
variable {P:Program}{w:World}{fs fs':List (Str×V)}
theorem i0(hok:bX P w H h)(e:H a=some (.ins C dx fs)):∃mA,rO h a dx C mA/\(∀f,ar (fs.lookup f) (mA f))/\PySem.Within mA (fs.map (·.1))/\fs.length≤1000/\H dx=some (.own a):=by obtain⟨d,z,ne,ob,mA,n,r,q⟩:=(show xa P w H h a (.ins C dx fs) from hok a _ e);exact⟨mA,⟨ob,n,ne⟩,r,q,z,d⟩
end
structure Cls(K:Ac)(C:Addr):Prop where
 pg:PySem.W.plainGet K C Str.empty=true
 hd:PySem.W.hasDictIn K C=true
 po:PySem.W.plainOver K C=true
 sa:PySem.W.findIn K (.ref C) "__setattr__" = some (some (.builtin "object.__setattr__"))
theorem Cls.get{K:Ac}(c:Cls K C)(f:Str):PySem.W.plainGet K C f=true:=c.pg
def NoAttr(K:Ac)(C:Addr)(f:Str):Prop:=PySem.W.findIn K (.ref C) f=some none
theorem NoAttr.taker{K:Ac}{f:Str}(n:NoAttr K C f):PySem.W.takerIn K C f=some none:=by unfold PySem.W.takerIn;rw[show PySem.W.findIn K (.ref C) f=some none from n];rfl
structure yG(K:Ac)(C:Addr)(m:Str)(f:Addr):Prop where
 at_:PySem.W.findIn K (.ref C) m=some (some (.ref f))
 fn:PySem.W.isFn K (.ref f)=true
 kp:PySem.W.keepIn K (.ref f)=true
section
variable {fs:List (Str×V)}{f:Str} 
theorem rM{b:Bool}(I:qr X pins σ H s)(e:H a=some (.ins C dx fs))(c:Cls X.K C)(n:NoAttr X.K C f)(l:fs.lookup f=some v)
 (h:∀u s',qr X pins σ H s'->zc v u->Q u s'):wpAny (model X.prog X.w) A (getAttr (.ref a) f b) Q E s:=by
 obtain⟨mA,O,r,_,_,_⟩:=i0 I.hok e;obtain⟨u,hu,ru⟩:=DJ (v:=v) (o:=mA f) (by rw[<-l];exact r f);exact ac3 I.kIn O (c.get f) c.hd n hu (vW ru) (h u _ (I.tok _) ru)
theorem rc{m:Str}{g:Addr}{pl:Sem Bool}{Q:Value×List Value->Shared->Prop}(I:qr X pins σ H s)(e:H a=some (.ins C dx fs))(c:Cls X.K C)(k:yG X.K C m g)(l:fs.lookup m=none)
 (h:Q (.ref g,[.ref a]) s):wpAny (model X.prog X.w) A (getMethod (.ref a) m pl) Q E s:=by
 obtain⟨mA,O,r,_,_,_⟩:=i0 I.hok e;have hn:mA m=none:=ar.none_of (by rw[<-l];exact r m);exact xM I.kIn O (c.get m) k.at_ k.fn hn h
theorem s9{y:V}{Q:Unit->Shared->Prop}(I:qr X pins σ H s)(e:H a=some (.ins C dx fs))(c:Cls X.K C)(n:NoAttr X.K C f)(hl:fs.length<1000)(ry:zc y u)
 (h:∀s',qr X pins σ (upd H a (.ins C dx (bJ f y fs))) s'->Q () s'):wpAny (model X.prog X.w) A (setAttr (.ref a) f u) Q E s:=by
 obtain⟨mA,O,r,wi,_,ho⟩:=i0 I.hok e;have hz:(fs.map (·.1)).length≤sizeLine:=by rw[Ab,sizeLine_eq];omega
 refine acj I.kIn O c.sa c.po n.taker c.hd wi hz fun h' O' sb=>h _ ?_;have hd:∃o,h'.get? dx=some o:=let ⟨o,_,_,e',_⟩:=O'.ns;⟨o,e'⟩;refine I.write (x:=a) (e:=dx) (by rw[e];exact True.intro) (.inr ho) (fun b q hb z=>(sb.2 b hb).trans z) hd ?_;refine⟨by rw[z7 O.ne];exact ho,?_,O.ne,O'.obj,_,O'.ns,fun g=>?_,fun g hg=>?_⟩
 ·have:=gh f y fs;omega
 ·show ar ((bJ f y fs).lookup g) (if g=f then some u else mA g);rw[gz];by_cases q:g=f
  ·rw[AC q,AC q];exact ry
  ·rw[AB q,AB q];exact r g
 ·by_cases q:g=f
  ·rw[q];exact(fu f y fs).1
  ·refine(fu f y fs).2 g (wi g fun z=>hg ?_);show(if g=f then some u else mA g)=none;rw[AB q];exact z
theorem qr.made(I:qr X pins σ H s):qr X pins σ (upd (upd H s.heap.objs.size (.own (s.heap.objs.size+1))) (s.heap.objs.size+1) (.ins C s.heap.objs.size []))
 { s with heap:=(s.heap.push PySem.W.emptyDict).push (PySem.W.instObj C s.heap.objs.size) }:=by
 have e1:(s.heap.push PySem.W.emptyDict).get? s.heap.objs.size=some PySem.W.emptyDict:=Heap.get?_push_size s.heap rfl;have e2:((s.heap.push PySem.W.emptyDict).push (PySem.W.instObj C s.heap.objs.size)).get? (s.heap.objs.size+1)=some (PySem.W.instObj C s.heap.objs.size):=by have:=Heap.get?_push_size (s.heap.push PySem.W.emptyDict) (o:=PySem.W.instObj C s.heap.objs.size) rfl;rwa[Heap.size_push] at this
 have e3:(s.heap.push PySem.W.emptyDict).Ns s.heap.objs.size (fun _=>none):=⟨PySem.W.emptyDict,#[],_,e1,rfl,(fun e he=>absurd he (by simp)),fun _=>rfl⟩;have I1:=I.laid (a:=s.heap.objs.size) (o:=.own (s.heap.objs.size+1)) (h':=s.heap.push PySem.W.emptyDict) (t':=s.toks) (fun b u q=>Heap.get?_push_of_some _ q) (Am _) ⟨_,e1⟩;refine I1.laid (a:=s.heap.objs.size+1) (o:=.ins C s.heap.objs.size []) (t':=s.toks) (fun b u q=>Heap.get?_push_of_some _ q) (Nat.le_of_eq (Heap.size_push _ _)) ?_;have ne:s.heap.objs.size≠s.heap.objs.size+1:=Bc (Br _);refine⟨by rw[z7 ne,xg],Bf _,ne,e2,fun _=>none,(Heap.Ns1.of_empty e3).at fun o q=>Heap.get?_push_of_some _ q,fun _=>True.intro,fun y hy=>absurd rfl hy⟩
theorem adw{w:World}{f:Str}(hb:attributeBase e f env (eval e env)=eval e env)
 (h:wpAny (model prog w) A (eval e env) (fun o s₁=>wpAny (model prog w) A (getAttr o f true) Q E s₁) E s):wpAny (model prog w) A (eval (.Attribute e f pos) env) Q E s:=
 Attribute_any_ h (by rw[arm_eval_Attribute,hb])
end
def an4(K:Ac)(ta:TE)(f:Str):TE:=fun σ H Q=>ta σ H fun x H1=>∃a C dx fs v,x=.ref a/\H1 a=some (.ins C dx fs)/\Cls K C/\NoAttr K C f/\fs.lookup f=some v/\Q v H1
def ant(K:Ac)(ta tv:TE)(f:Str):TS:=fun D σ H=>tv σ H fun y H1=>ta σ H1 fun x H2=>∃a C dx fs,x=.ref a/\H2 a=some (.ins C dx fs)/\Cls K C/\NoAttr K C f/\fs.length<1000/\
 D.nx σ (upd H2 a (.ins C dx (bJ f y fs)))
section
variable {f:Str}{tpos:Pos}{tv:TE}
theorem aiq(he:PE X e ta)(hb:attributeBase e f X.env (eval e X.env)=eval e X.env):PE X (.Attribute e f pos) (an4 X.K ta f):=by intro pins s σ H Q I h;refine adw hb (x8 (he pins s σ H _ I h) fun u s1 ⟨x,H1,I1,rx,a,C,dx,fs,v,ex,ea,c,n,l,q⟩=>?_);subst ex;obtain rfl:u=Value.ref a:=rx;exact rM I1 ea c n l fun u' s2 I2 ru=>⟨v,H1,I2,ru,q⟩
theorem ah7(ha:PE X o ta)(hv:PE X value tv)(hs:swapsWith value (some (.Attribute o f pos')) pos.line X.env=pure false):PS X (.Assign [.Attribute o f pos'] value pos) (ant X.K ta tv f):=by intro pins s σ H D I h;refine plainObj_wpAny_Assign_Attribute (x8 (hv pins s σ H _ I h) fun u s1 ⟨y,H1,I1,ry,q⟩=>x8 (ha pins s1 σ H1 _ I1 q) fun ov s2 ⟨x,H2,I2,rx,a,C,dx,fs,ex,ea,c,n,l,q2⟩=>?_) hs;subst ex;obtain rfl:ov=Value.ref a:=rx;exact s9 I2 ea c n l ry fun s3 I3=>⟨σ,_,I3,q2⟩
end
section
variable {c:Value}{b:Bool}
inductive iN(K:Ac)(H:Hp):V->Value->Prop where
 |non:iN K H .non (.type "NoneType")
 |bl (x:Bool):iN K H (.bl x) (.type "bool")
 |int (i:Int):iN K H (.int i) (.type "int")
 |str (x:Str):iN K H (.str x) (.type "str")
 |flt (x:UInt64):iN K H (.flt x) (.type "float")
 |lst {a:Addr} {xs:List V} (e:H a=some (.lst xs)):iN K H (.ref a) (.type "list")
 |frz {a:Addr} {o:Obj} {xs:List V} (e:H a=some (.frz o (.lst xs))):iN K H (.ref a) (.type "list")
 |tup {a:Addr} {xs:List V} (e:H a=some (.tup xs)):iN K H (.ref a) (.type "tuple")
 |dK {a:Addr} {kvs:List (jf×V)} (e:H a=some (.dK kvs)):iN K H (.ref a) (.type "dict")
 |dT {a:Addr} {kvs:List (List jf×V)} (e:H a=some (.dT kvs)):iN K H (.ref a) (.type "dict")
 |ins {a C dx:Addr} {fs:List (Str×V)} (e:H a=some (.ins C dx fs)) (cl:Cls K C) (ha:PySem.W.findIn K (.ref C) "__class__" = some (some (.builtin "object.__class__")))
  (hn:PySem.W.specialIn K (.builtin "object.__class__") "__get__" = some (some (.builtin "getset_descriptor.__get__"))) (htk:PySem.W.takesIn K (.builtin "object.__class__")=some true)
  (hm:PySem.W.mroIn K C (.type "object")=some true):iN K H (.ref a) (.ref C)
theorem aR{x:V}{t:Value}(I:qr X pins σ H s)(rx:zc x u)(ty:iN X.K H x t)(e:PySem.W.kitOne X.K t c=some b)(h:∀tk,Q (.bool b) { s with toks:=tk }):
 wpAny (model X.prog X.w) A (call (.builtin "isinstance") [u,c]) Q E s:=by
 cases ty with
 |non=>cases (show u=Value.none from rx);exact Be PySem.W.kitx_none I.kIn True.intro e (fun z=>nomatch z) h
 |bl y=>cases (show u=Value.bool y from rx);exact Be PySem.W.kitx_bool I.kIn True.intro e (fun z=>nomatch z) h
 |int i=>obtain⟨t,q⟩:=(show ∃t,u=Value.int i t from rx);cases q;exact Be PySem.W.kitx_int I.kIn True.intro e (fun z=>nomatch z) h
 |str y=>obtain⟨t,q⟩:=(show ∃t,u=Value.str y t from rx);cases q;exact Be PySem.W.kitx_str I.kIn True.intro e (fun z=>nomatch z) h
 |flt y=>obtain⟨t,q⟩:=(show ∃t,u=Value.float y t from rx);cases q;exact Be PySem.W.kitx_float I.kIn True.intro e (fun z=>nomatch z) h
 |@lst a xs ea=>
  cases (show u=Value.ref a from rx);obtain⟨_,_,n,_,h1⟩:=(show xa X.prog X.w H s.heap a (.lst xs) from I.hok a _ ea);exact Be CL I.kIn ⟨_,h1,rfl⟩ e (fun z=>nomatch z) h
 |@frz a ob xs ea=>
  cases (show u=Value.ref a from rx);obtain⟨_,_,_,n,_,h1⟩:=(show xa X.prog X.w H s.heap a (.frz ob (.lst xs)) from I.hok a _ ea);exact Be CL I.kIn ⟨_,h1,rfl⟩ e (fun z=>nomatch z) h
 |@tup a xs ea=>
  cases (show u=Value.ref a from rx);obtain⟨_,_,_,p⟩:=(show xa X.prog X.w H s.heap a (.tup xs) from I.hok a _ ea);obtain⟨o,h1,h2,_⟩:=p;exact Be PySem.W.kitx_tuple I.kIn ⟨o,h1,h2⟩ e (fun z=>nomatch z) h
 |@dK a kvs ea=>
  cases (show u=Value.ref a from rx);obtain⟨_,_,vs,_,p⟩:=(show xa X.prog X.w H s.heap a (.dK kvs) from I.hok a _ ea);obtain⟨o,es,ep,h1,h2,_⟩:=p;exact Be PySem.W.kitx_dict I.kIn ⟨o,h1,h2.1⟩ e (fun z=>nomatch z) h
 |@dT a kvs ea=>
  cases (show u=Value.ref a from rx);obtain⟨_,_,xs,_,o,es,ep,h1,h2,_⟩:=(show xa X.prog X.w H s.heap a (.dT kvs) from I.hok a _ ea);exact Be PySem.W.kitx_dict I.kIn ⟨o,h1,h2.1⟩ e (fun z=>nomatch z) h
 |@ins a C dx fs ea cl ha hn htk hm=>
  cases (show u=Value.ref a from rx);obtain⟨mA,O,_⟩:=i0 I.hok ea;obtain⟨od,J,_⟩:=O.look;exact Be (PySem.W.kitx_own (cl.get _) cl.hd ha hn htk hm) I.kIn J e (fun z=>nomatch z) h
end
structure v3(k:Nat)(A:Around):Prop where
 hd:A.handled=none
 dp:A.depth+3*k+5<recursionLimit
 un:A.units+16*k+200<cLine
theorem v3.mono{k:Nat}(r:v3 k A)(h:j≤k):v3 j A:=⟨r.hd,by have:=r.dp;omega,by have:=r.un;omega⟩
theorem v3.deeper{k:Nat}(r:v3 (k+1) A)(env:Env):v3 k (A.deeper env):=
 ⟨r.hd,by have:=r.dp;show A.depth+1+3*k+5<_;omega,by have:=r.un;show A.units+3+16*k+200<_;omega⟩
theorem sT :(A.under (.builtin "type.__call__" ⟨.ref C::us,kw⟩)).depth=A.depth+1:=by first | rfl | simp[Around.under,Code.weight,Code.isCreation,Code.isGuard,Code.isCaller,Code.frames,Code.isFrame,guardIds]
theorem sP :(A.under (.builtin "type.__call__" ⟨.ref C::us,kw⟩)).units=A.units+1:=by first | rfl | simp[Around.under,Code.cUnits,Code.frames,Code.isFrame]
theorem v3.make{k:Nat}(r:v3 (k+1) A)(C:Addr)(us:List Value)(kw:List (Str×Value)):v3 k (A.under (.builtin "type.__call__" ⟨.ref C::us,kw⟩)):=
 ⟨r.hd,by have:=r.dp;rw[sT];omega,by have:=r.un;rw[sP];omega⟩
theorem v3.depth{k:Nat}(r:v3 k A):A.depth<recursionLimit:=by have:=r.dp;omega
def amp:TA:=fun _ H Q=>Q [] H
def alg(ta:TE)(tr:TA):TA:=fun σ H Q=>ta σ H fun x H1=>tr σ H1 fun xs H2=>Q (x::xs) H2
section
variable {te:TE} 
theorem lJ:PA X [] amp:=fun _ _ _ _ H Q I h=>Calls.spliced_nil ⟨[],H,I,.nil,h⟩
abbrev Dj(e:Expr)(es:List Expr)(X:Cx):Prop:=starEach (e::es) X.env=(false,eval e X.env)::starEach es X.env
theorem cw(ha:PE X e te)(hr:PA X es t)(hs:Dj e es X:=by rfl):PA X (e::es) (alg te t):=by intro pos pins s σ H Q I h;rw[hs];show wpAny _ _ (spliced ((false,eval e X.env)::backTo pos (starEach es X.env))) _ _ s;refine Calls.spliced_cons (x8 (ha pins s σ H _ I h) fun u s1 ⟨x,H1,I1,r1,q1⟩=>?_);exact x8 (hr pos pins s1 σ H1 _ I1 q1) fun us s2 ⟨xs,H2,I2,r2,q2⟩=>⟨x::xs,H2,I2,.cons r1 r2,q2⟩
def ao9(t:TA):TE:=fun σ H Q=>t σ H fun xs H1=>xs.length≤sizeLine/\∀p,H1 p=none->Q (.ref p) (upd H1 p (.tup xs))
def amz(t:TA):TE:=fun σ H Q=>t σ H fun xs H1=>xs.length≤sizeLine/\∀p,H1 p=none->Q (.ref p) (upd H1 p (.lst xs))
theorem ahc{x1}(h:PA X es t):PE X (.Tuple es x1 pos) (ao9 t):=by intro pins s σ H Q I hq;refine wpAny_Tuple_spliced (x8 (h pos pins s σ H _ I hq) fun us s1 ⟨xs,H1,I1,r,z,q⟩=>⟨by rw[<-r.length];exact z,?_⟩);have hf:H1 s1.heap.objs.size=none:=I1.hok.fresh (Am _);refine⟨.ref s1.heap.objs.size,upd H1 s1.heap.objs.size (.tup xs),I1.laid (t':=s1.toks) (fun b u e=>Heap.get?_push_of_some _ e) (Am _) ?_,rfl,q _ hf⟩;exact⟨z,us,r,⟨_,Heap.get?_push_size _ rfl,rfl,_,rfl⟩⟩
theorem agt(h:PA X es t):PE X (.List es pos) (amz t):=by intro pins s σ H Q I hq;refine wpAny_List_spliced (x8 (h pos pins s σ H _ I hq) fun us s1 ⟨xs,H1,I1,r,z,q⟩=>⟨by rw[<-r.length];exact z,?_⟩);have hf:H1 s1.heap.objs.size=none:=I1.hok.fresh (Am _);refine⟨.ref s1.heap.objs.size,upd H1 s1.heap.objs.size (.lst xs),I1.laid (t':=s1.toks) (fun b u e=>Heap.get?_push_of_some _ e) (Am _) ?_,rfl,q _ hf⟩;exact⟨z,us,0,r,Heap.get?_push_size _ rfl⟩
end
abbrev Sp:=List V->Hp->VK->XK->Prop
abbrev uE:=List Env->Hp->Shared->XK->Value->Shared->Prop
structure sM(P:Program)(w:World)(K:Ac)(mg:Str->Option Value)(base:Heap)(A:Around)(outer:List Env)(s:Shared)(H:Hp):Prop where
 frames:A.frames=some outer
 mod:Mod K mg base
 bs:∀b o,base.get? b=some o->s.heap.get? b=some o/\H b=none
 bsz:base.objs.size≤s.heap.objs.size
 funs:s.heap.FunFrames base outer
 frf:∀b∈dP outer,H b=none
 hok:bX P w H s.heap
 bare:AllBare s.gens
 tk:0<s.toks
def CE(outer:List Env)(P:Program)(w:World)(H:Hp)(s:Shared)(Q:VK)(u:Value)(s':Shared):Prop:=
 ∃v H',s'.os=s.os/\AllBare s'.gens/\Un (dP outer) [] H H' s.heap s'.heap/\bX P w H' s'.heap/\zc v u/\Q v H'/\0<s'.toks
def CR(CX:uE)(outer:List Env)(P:Program)(w:World)(H:Hp)(s:Shared)(Q:VK)(E:XK)(r:Result)(s':Shared):Prop:=
 match r with
 |.ok (.ret u)=>CE outer P w H s Q u s'
 |.ok _=>False
 |.error e=>CX outer H s E e s'
structure wo(P:Program)(w:World)(K:Ac)(mg:Str->Option Value)(base:Heap)(CX:uE)(k:Nat)(f:Addr)(fd:FuncData)(ps:List Str)(sp:Sp):Prop where
 len:∀vs H Q E,sp vs H Q E->vs.length=ps.length
 run:∀(A:Around) (outer:List Env) (s:Shared) (H:Hp) (args:Args) (us:List Value) (vs:List V) (Q:VK) (E:XK),v3 k A->sM P w K mg base A outer s H->BindsTo s fd args (ps.zip us)->zh vs us->sp vs H Q E->
  codeAny (model P w) A (.call (.ref f) args) (CR CX outer P w H s Q E) s
theorem wo.mono{P:Program}{w:World}{K:Ac}{CX:uE}{k:Nat}{sp:Sp}(F:wo P w K mg base CX j f fd ps sp)(h:j≤k):
 wo P w K mg base CX k f fd ps sp:=⟨F.len,fun A outer s H args us vs Q E hr=>F.run A outer s H args us vs Q E (hr.mono h)⟩
theorem wo.imp{P:Program}{w:World}{K:Ac}{CX:uE}{k:Nat}{sp sp':Sp}(F:wo P w K mg base CX k f fd ps sp)
 (h:∀vs H Q E,sp' vs H Q E->sp vs H Q E):wo P w K mg base CX k f fd ps sp':=
 ⟨fun vs H Q E q=>F.len vs H Q E (h _ _ _ _ q),fun A outer s H args us vs Q E hr he hb hv hs=>F.run A outer s H args us vs Q E hr he hb hv (h _ _ _ _ hs)⟩
theorem sM.make{P:Program}{w:World}{K:Ac}(e:sM P w K mg base A outer s H)(C:Addr)(us:List Value)(kw:List (Str×Value)):
 sM P w K mg base (A.under (.builtin "type.__call__" ⟨.ref C::us,kw⟩)) outer s H:=⟨by first | exact e.frames | (simpa[Around.under,Code.envs,Code.isFrame,pushEnvs] using e.frames),e.mod,e.bs,e.bsz,e.funs,e.frf,e.hok,e.bare,e.tk⟩
section
theorem qr.env0(I:qr X pins σ H s):sM X.prog X.w X.K X.mg X.base X.A X.stack s H:=
 ⟨I.ok.frames,I.ok.mod,I.bs,AM I.ok.bsz I.sz,I.stack,I.stkFree,I.hok,I.bare,I.tk⟩
theorem qr.after{Q:VK}(I:qr X pins σ H s)(h:CE X.stack X.prog X.w H s Q u s'):EP X pins σ Q u s':=by obtain⟨v,H',os,bare,un,hok,r,q,ht⟩:=h;obtain⟨hh,g,d,t,os'⟩:=s';obtain rfl:os'=s.os:=os;exact⟨v,H',I.call (h':=hh) (g':=g) (d':=d) (t':=t) (ch:=[]) un hok bare (fun b z=>absurd z (by simp)),r,q⟩
end
def af2(sp:Sp)(dvs:List V)(E:XK)(t:TA):TE:=fun σ H Q=>t σ H fun vs H1=>sp (vs++dvs) H1 Q E
def ajm(C:Addr)(m:Str)(sp:Sp)(dvs:List V)(E:XK)(ta:TE)(t:TA):TE:=fun σ H Q=>ta σ H fun x H1=>∃a dx fs,x=.ref a/\H1 a=some (.ins C dx fs)/\fs.lookup m=none/\
 t σ H1 fun vs H2=>sp (x::(vs++dvs)) H2 Q E
def alb(C:Addr)(sp:Sp)(dvs:List V)(E:XK)(t:TA):TE:=fun σ H Q=>t σ H fun vs H1=>∀x dx,H1 x=none->H1 dx=none->dx≠x->
 sp (.ref x::(vs++dvs)) (upd (upd H1 dx (.own x)) x (.ins C dx [])) (fun v H2=>v=.non/\Q (.ref x) H2) E
def ki(K:Ac)(fd:FuncData)(ps:List Str)(ds:List Value):Prop:=
 ∀(s:Shared) (us:List Value),K.In s.heap->(us++ds).length=ps.length->BindsTo s fd ⟨us,[]⟩ (ps.zip (us++ds))
theorem ki.all{K:Ac}(h:∀us:List Value,us.length=ps.length->bindArgs fd ⟨us,[]⟩=pure (ps.zip us)):ki K fd ps []:=fun s us _ hl=>by rw[A0] at hl ⊢;exact .of_eq (h us hl)
def fk(CX:uE)(X:Cx)(E:XK):Prop:=∀(pins:List (Addr×Obj)) (σ:St) (H:Hp) (s:Shared) (e:Value) (s':Shared),qr X pins σ H s->CX X.stack H s E e s'->X.xe e s'
section
variable {CX:uE}{k:Nat}{sp:Sp}{dvs:List V}{ds:List Value}{E:XK}{m:Str} 
theorem yQ{Q:VK}{vs:List V}(F:wo X.prog X.w X.K X.mg X.base CX k f fd ps sp)(hr:v3 k X.A)(hb:ki X.K fd ps ds)(hd:zh dvs ds)(hx:fk CX X E)
 (I:qr X pins σ H s) (r:zh vs us) (h:sp (vs++dvs) H Q E):wpAny (model X.prog X.w) X.A (call (.ref f) us) (EP X pins σ Q) X.xe s:=by
 have r2:zh (vs++dvs) (us++ds):=r.append hd;have hl:(us++ds).length=ps.length:=by rw[<-r2.length];exact F.len _ _ _ _ h
 refine wpAny_call (codeAny_mono (F.run X.A X.stack s H ⟨us,[]⟩ (us++ds) (vs++dvs) Q E hr I.env0 (hb s us I.kIn hl) r2 h) fun r s' hq=>?_);cases r with
 |error e=>exact hx pins σ H s e s' I hq
 |ok fl=>
  cases fl with|ret u=>exact I.after hq|next=>exact False.elim hq|brk=>exact False.elim hq|cont=>exact False.elim hq
abbrev Dk(p:Pos)(es:List Expr)(X:Cx):Prop:=(backTo p (starEach es X.env)).any (·.1)=false
theorem adk(F:wo X.prog X.w X.K X.mg X.base CX k f fd ps sp)(hr:v3 k X.A)(hg:Gl X x)(hm:X.mg x=some (.ref f))(hk:PySem.W.keepIn X.K (.ref f)=true)(hb:ki X.K fd ps ds)(hd:zh dvs ds)(hx:fk CX X E)
 (ha:PA X (e::es) t) (hdb:Dl x:=by decide) (he:Dj e es X:=by rfl) (hpl:Dk pos es X:=by rfl):
 PE X (.Call (.Name x p) (e::es) [] pos) (af2 sp dvs E t):=by
 intro pins s σ H Q I h;refine wpAny_Call_Name_kw (eZ I hg hm ?_ hdb);refine B9 (h₀:=X.base) I.ok.mod.kin hk (x8 (ha pos pins s σ H _ I h) fun us s1 ⟨vs,H1,I1,r,q⟩=>⟨I1.kIn,?_⟩) he hpl;exact yQ F hr hb hd hx I1 r q
theorem ac7{pl:Sem Bool}(he:PE X o ta)(c:Cls X.K C)(hm:yG X.K C m f)(F:wo X.prog X.w X.K X.mg X.base CX k f fd ps sp)(hr:v3 k X.A)(hb:ki X.K fd ps ds)(hd:zh dvs ds)(hx:fk CX X E)(ha:PA X (e::es) t)
 (hst:Dj e es X:=by rfl) (hpl:Dk pos es X:=by rfl)
 (ht:eval (.Call (.Attribute o m apos) (e::es) [] pos) X.env=(do
  let ov <-eval o X.env
  standAt apos.atName
  let (f,first) <-holding [ov] (getMethod ov m pl)
  callWith pos f first (backTo pos (starEach (e::es) X.env)) (backToKw pos (keywordEach [] X.env))):=by rfl):
 PE X (.Call (.Attribute o m apos) (e::es) [] pos) (ajm C m sp dvs E ta t):=by
 intro pins s σ H Q I h;refine PySem.W.methodCall_KW (pl:=pl) (x8 (he pins s σ H _ I h) fun u s1 ⟨x,H1,I1,rx,a,dx,fs,ex,ea,l,q⟩=>?_) ht;subst ex;obtain rfl:u=Value.ref a:=rx;refine rc I1 ea c hm l ?_;refine B9 (first:=[.ref a]) (h₀:=X.base) I.ok.mod.kin hm.kp (x8 (ha pos pins s1 σ H1 _ I1 q) fun us s2 ⟨vs,H2,I2,r,q2⟩=>⟨I2.kIn,?_⟩) hst hpl;exact yQ (us:=.ref a::us) (vs:=.ref a::vs) F hr hb hd hx I2 (.cons rfl r) q2
structure Mk(K:Ac)(C f:Addr):Prop where
 makes:PySem.W.makesIn K C=true
 init:PySem.W.findIn K (.ref C) "__init__" = some (some (.ref f))
 fn:PySem.W.isFn K (.ref f)=true
 kp:PySem.W.keepIn K (.ref C)=true
theorem wO{Q:VK}{vs:List V}(M:Mk X.K C f)(F:wo X.prog X.w X.K X.mg X.base CX k f fd ps sp)(hr:v3 (k+1) X.A)(hb:ki X.K fd ps ds)(hd:zh dvs ds)
 (hx:fk CX X E) (I:qr X pins σ H s) (r:zh vs us)
 (h:∀x dx,H x=none->H dx=none->dx≠x->sp (.ref x::(vs++dvs)) (upd (upd H dx (.own x)) x (.ins C dx [])) (fun v H2=>v=.non/\Q (.ref x) H2) E):
 wpAny (model X.prog X.w) X.A (call (.ref C) us) (EP X pins σ Q) X.xe s:=by
 have hq:=h (s.heap.objs.size+1) s.heap.objs.size (I.hok.fresh (Bz _)) (I.hok.fresh (Am _)) (Bc (Br _));have I2:=qr.made (C:=C) I;have r2:zh (V.ref (s.heap.objs.size+1)::(vs++dvs)) (Value.ref (s.heap.objs.size+1)::(us++ds)):=.cons rfl (r.append hd);have hl:(Value.ref (s.heap.objs.size+1)::us++ds).length=ps.length:=by have e:=r2.length;rw[F.len _ _ _ _ hq] at e;exact e.symm
 refine wpAny_call (wS (f:=f) I.kIn M.makes M.init (beq_iff_eq.mp M.fn) (codeAny_mono (F.run _ X.stack _ _ ⟨Value.ref (s.heap.objs.size+1)::us,[]⟩ (Value.ref (s.heap.objs.size+1)::(us++ds)) _ _ E (hr.make C us [])
  (I2.env0.make C us []) (hb _ (Value.ref (s.heap.objs.size+1)::us) I2.kIn hl) r2 hq) fun r s' hq'=>?_))
 cases r with
 |error e=>exact hx pins σ _ _ e s' I2 hq'
 |ok fl=>
  cases fl with
  |ret u=>
   obtain⟨v,H',I3,rv,ev,q3⟩:=I2.after hq';subst ev;exact⟨rv,⟨V.ref (s.heap.objs.size+1),H',I3,rfl,q3⟩⟩
  |next=>exact False.elim hq'
  |brk=>exact False.elim hq'
  |cont=>exact False.elim hq'
theorem ad4(M:Mk X.K C f)(F:wo X.prog X.w X.K X.mg X.base CX k f fd ps sp)(hr:v3 (k+1) X.A)(hg:Gl X x)(hm:X.mg x=some (.ref C))(hb:ki X.K fd ps ds)(hd:zh dvs ds)(hx:fk CX X E)
 (ha:PA X (e::es) t) (hdb:Dl x:=by decide) (he:Dj e es X:=by rfl) (hpl:Dk pos es X:=by rfl):
 PE X (.Call (.Name x p) (e::es) [] pos) (alb C sp dvs E t):=by
 intro pins s σ H Q I h;refine wpAny_Call_Name_kw (eZ I hg hm ?_ hdb);refine B9 (h₀:=X.base) I.ok.mod.kin M.kp (x8 (ha pos pins s σ H _ I h) fun us s1 ⟨vs,H1,I1,r,q⟩=>⟨I1.kIn,?_⟩) he hpl;exact wO M F hr hb hd hx I1 r q
end
section
variable {CX:uE}{k:Nat}{ks:List Str}{sp:Sp}{E:XK}{m:Str}{kpos:Pos}{kws:List Keyword}{te:TE}{tk:TA}{nm:Option Str}
variable {g:List Value->List Value->List Value}{gV:List V->List V->List V}
end
structure aN(N P:List Str)(sc:Scope):Prop where
 kind:sc.kind=.function
 co:sc.isCoroutine=false
 gen:sc.isGenerator=false
 nd:N.Nodup
 pre:N.take P.length=P
 par:∀x∈P,sc.names.lookup x=some .local\/sc.names.lookup x=some .cell
 nofree:∀y∈sc.names,y.2≠.free
theorem mR{kindOf:Str->Option NameKind}{x:Str}:∀{binds:List (Str×Value)} {m:Str->Option Value},(∀v,(x,v)∉binds)->bindL kindOf binds m x=m x
 |[],_,_=>rfl
 |(n,v)::r,m,h=>by
  unfold bindL;rw[mR fun w hw=>h w (Ae _ hw)];split
  ·have:x≠n:=by rintro rfl;exact h v Au
   simp[this]
  ·rfl
theorem mO{kindOf:Str->Option NameKind}{x:Str}:∀{binds:List (Str×Value)} {m:Str->Option Value},(∀v,(x,v)∉binds)->bindC kindOf binds m x=m x
 |[],_,_=>rfl
 |(n,v)::r,m,h=>by
  unfold bindC;rw[mO fun w hw=>h w (Ae _ hw)];split
  ·rfl
  ·have:x≠n:=by rintro rfl;exact h v Au
   simp[this]
theorem mX{kindOf:Str->Option NameKind}{x:Str}{v:Value}:∀{P:List Str} {vs:List Value} {i:Nat} {m:Str->Option Value},P.Nodup->P[i]?=some x->vs[i]?=some v->kindOf x=some .local->
 bindL kindOf (P.zip vs) m x=some v
 |[],_,_,_,_,h,_,_=>by simp at h
 |_::_,[],_,_,_,_,h,_=>by simp at h
 |p::P,w::vs,0,m,nd,h1,h2,hk=>by simp at h1 h2;subst h1;subst h2;show bindL kindOf ((p,w)::P.zip vs) m p=_;unfold bindL;rw[mR fun v hv=>(Az.mp nd).1 (C6 hv).1,AC hk];simp
 |p::P,w::vs,i+1,m,nd,h1,h2,hk=>by show bindL kindOf ((p,w)::P.zip vs) m x=_;unfold bindL;exact mX (i:=i) (Az.mp nd).2 (by simpa using h1) (by simpa using h2) hk
theorem mL{kindOf:Str->Option NameKind}{x:Str}{v:Value}:∀{P:List Str} {vs:List Value} {i:Nat} {m:Str->Option Value},P.Nodup->P[i]?=some x->vs[i]?=some v->kindOf x≠some .local->
 bindC kindOf (P.zip vs) m x=some v
 |[],_,_,_,_,h,_,_=>by simp at h
 |_::_,[],_,_,_,_,h,_=>by simp at h
 |p::P,w::vs,0,m,nd,h1,h2,hk=>by simp at h1 h2;subst h1;subst h2;show bindC kindOf ((p,w)::P.zip vs) m p=_;unfold bindC;rw[mO fun v hv=>(Az.mp nd).1 (C6 hv).1,AB hk];simp
 |p::P,w::vs,i+1,m,nd,h1,h2,hk=>by show bindC kindOf ((p,w)::P.zip vs) m x=_;unfold bindC;exact mL (i:=i) (Az.mp nd).2 (by simpa using h1) (by simpa using h2) hk
def start(N:List Str)(vs:List V):St:=vs.map some++List.replicate (N.length - vs.length) none
def cR(CX:uE)(P:Program)(w:World)(K:Ac)(mg:Str->Option Value)(base:Heap)(N:List Str)(qual:Str)(scope:Scope)(f:Addr)(cd:Value)(A:Around)(outer:List Env)(s:Shared)(H:Hp)(E:XK):Cx where
 prog:=P
 w:=w
 K:=K
 mg:=mg
 base:=base
 A:=A.deeper (envOfC qual scope s.heap.objs.size f cd)
 N:=N
 s₀:=s
 H₀:=H
 env:=envOfC qual scope s.heap.objs.size f cd
 outer:=outer
 stack:=envOfC qual scope s.heap.objs.size f cd::outer
 ex:=[]
 calm:=true
 fn:=fun _=>true
 pn:=[]
 xe:=fun e s'=>wpAny (model P w) (A.deeper (envOfC qual scope s.heap.objs.size f cd)) (leaving (envOfC qual scope s.heap.objs.size f cd) e) (fun _ s''=>CX outer H s E e s'') (fun e' s''=>CX outer H s E e' s'') s'
theorem pV{sc:Scope}(h:sc.names.lookup x=some .cell):∃c,(cellsFrom n sc.names []).lookup x=some c:=by have q:=CY sc.names n [] (.inl h);exact Option.isSome_iff_exists.mp q
theorem wJ{CX:uE}{P:Program}{w:World}{K:Ac}{N:List Str}{s1:Shared}{E:XK}{vs:List V}
 (S:aN N ps scope) (hd:A.handled=none) (e0:sM P w K mg base A outer s H) (hl:vs.length=ps.length) (r:zh vs us)
 (x:InCallC s s.heap.objs.size (bindL (envOfC qual scope s.heap.objs.size f cd).kindOf (ps.zip us) fun _=>none) (cellsFrom (s.heap.objs.size+1) scope.names []) (bindC (envOfC qual scope s.heap.objs.size f cd).kindOf (ps.zip us) fun _=>none) s1) (ht:0<s1.toks):
 qr (cR CX P w K mg base N qual scope f cd A outer s H E) [] (start N vs) H s1:=by
 have hpl:ps.length≤N.length:=by have:=Bs List.length S.pre;rw[AS] at this;omega
 obtain⟨h1,tk,rfl,hk⟩:=x.done;have noA:∀b:Addr,b∉(cR CX P w K mg base N qual scope f cd A outer s H E).ex:=fun b z=>absurd (show b∈([]:List Addr) from z) (by simp);refine⟨⟨e0.mod,S.kind,rfl,rfl,Am _,fun y z c h1 h2=>?_,fun y hy=>?_,fun y c _ h=>?_,fun _=>hd,Around.frames_deeper e0.frames,.inr ⟨rfl,rfl⟩,fun b z=>absurd z (noA b),e0.bs,e0.bsz,fun b _ _=>noA b,fun b z=>absurd z (noA b),e0.funs,e0.frf⟩,
  rfl,e0.bare,Un.kept hk,⟨_,x.toInCall.ns,fun i y v h1 h2 h3=>?_⟩,fun y c h=>⟨_,x.cell y c h⟩,e0.hok.fresh (Am _),fun y c h=>?_,fun p hp=>absurd (show p∈([]:List (Addr×Obj)) from hp) (by simp),e0.hok.kept hk,?_,ht⟩
 ·exact name_of_addr x.apart (Bk h1) (Bk h2)
 ·have hy:scope.names.lookup y=some .cell\/scope.names.lookup y=some .free:=hy;rcases hy with hy | hy
  ·exact pV hy
  ·exact absurd rfl (S.nofree _ (Bk hy))
 ·exact Bx (x.above y c (Bk h))
 ·have hi:i<vs.length:=by
   unfold start at h2;by_cases hi:i<vs.length
   ·exact hi
   ·rw[Aq (by simpa using hi)] at h2;rw[BL] at h2;split at h2<;>cases h2
  have ha:vs[i]?=some v:=by unfold start at h2;rw[AK (by simpa using hi),Ai] at h2;cases e:vs[i]? with|none=>rw[e] at h2;cases h2|some a=>rw[e] at h2;cases h2;rfl
  obtain⟨u,hu,rv⟩:=r.get ha;have hp:ps[i]?=some y:=by rw[<-S.pre,List.getElem?_take_of_lt (by omega)];exact h1
  have ndP:ps.Nodup:=by rw[<-S.pre];exact S.nd.sublist (Ci _ _)
  refine⟨u,rv,?_⟩;rcases S.par y (Ay hp) with k | k
  ·exact .inl ⟨k,mX ndP hp hu k⟩
  ·obtain⟨c,e⟩:=pV (n:=s.heap.objs.size+1) k;refine .inr ⟨.inl k,c,e,?_⟩;have q:=x.cell y c e;rw[mL ndP hp hu (by show scope.names.lookup y≠_;rw[k];decide)] at q;exact q
 ·exact e0.hok.fresh (Bx (x.above y c (Bk h)))
 ·unfold start;show _=N.length;rw[Aa,Ab,BW];omega
theorem af1{CX:uE}{P:Program}{w:World}{K:Ac}{k:Nat}{params:Arguments}{dV kV:Value}
 {N:List Str} {sp:Sp} (lk:K.lookup f=some ⟨oc,od,.func (PySem.W.fnOf name qual params body scope dV kV doc pm an cdv ct),osl⟩) (hcd:PySem.W.codeIn K cdv qual=true) (S:aN N ps scope)
 (len:∀vs H Q E,sp vs H Q E->vs.length=ps.length)
 (hbody:∀(A:Around) (outer:List Env) (s:Shared) (H:Hp) (vs:List V) (Q:VK) (E:XK),v3 k (A.deeper (envOfC qual scope s.heap.objs.size f cdv))->sp vs H Q E->
  ∃t,mH (cR CX P w K mg base N qual scope f cdv A outer s H E) body t/\t { nx:=fun _ H'=>Q .non H',rt:=Q } (start N vs) H):
 wo P w K mg base CX (k+1) f (PySem.W.fnOf name qual params body scope dV kV doc pm an cdv ct) ps sp:=by
 refine⟨len,fun A outer s H args us vs Q E hr e0 hb r hsp=>?_⟩;have hl:=len _ _ _ _ hsp;have KX:K.In s.heap:=e0.mod.kin.keeps fun b o e=>(e0.bs b o e).1;have lim:s.heap.NoLimit:=e0.mod.nolimit.keeps fun b o e=>(e0.bs b o e).1;have hkind:∀y∈ps.zip us,scope.names.lookup y.1=some .local\/(scope.names.lookup y.1=some .cell/\((cellsFrom (s.heap.objs.size+1) scope.names []).lookup y.1).isSome=true):=fun⟨n,v⟩ hy=>by
  rcases S.par n (C6 hy).1 with q | q
  ·exact .inl q
  ·exact .inr ⟨q,CY _ _ _ (.inl q)⟩
 refine codeAny_call_function hr.depth (KX _ _ lk) rfl S.co S.gen rfl (PySem.W.codeRec_of KX hcd) (hb _ _ _ _ ?_);refine jy e0.tk (wpAny_newFunctionEnv_cells S.kind hkind fun env he s1 x htk=>?_);subst he;refine⟨lim.keeps x.toInCall.keep,codeAny_func ?_⟩;obtain⟨t,ht,hq⟩:=hbody A outer s H vs Q E (hr.deeper _) hsp;have I:qr (cR CX P w K mg base N qual scope f cdv A outer s H E) [] (start N vs) H s1:=wJ S hr.hd e0 hl r x htk;refine AW (ht [] s1 (start N vs) H _ I hq) (fun fl s' hs=>?_) fun e s' hs=>hs;have xu:∀{σ':St} {H':Hp} {v:V} {u:Value},qr (cR CX P w K mg base N qual scope f cdv A outer s H E) [] σ' H' s'->zc v u->Q v H'->CE outer P w H s Q u s':=
  fun {σ' H' v u} J rv q=>⟨v,H',J.os,J.bare,J.base,J.hok,rv,q,J.tk⟩
 cases fl with
 |ret u=>
  obtain⟨v,σ',H',J,rv,q⟩:=hs;exact xu J rv q
 |next=>
  obtain⟨σ',H',J,q⟩:=hs;exact xu (v:=V.non) (u:=Value.none) J rfl q
 |brk=>
  obtain⟨_,_,_,q⟩:=hs;exact False.elim q
 |cont=>
  obtain⟨_,_,_,q⟩:=hs;exact False.elim q
end L2
variable {sp:L2.Sp}
namespace L2
open PySem PySem.Spec PyProof.Rows
section
variable {id T:String}{r:List V->Hp->VK->Prop}
def tCB(r:List V->Hp->VK->Prop)(t:TA):TE:=fun σ H Q=>t σ H fun vs H1=>r vs H1 Q
theorem qA(hc:ju X (.builtin id) r)(hg:Gl X x)(hm:X.mg x=none)(hv:bootBuiltins x=some (.builtin id))(ha:PA X (e::es) t)(hn:x ≠ "__name__" := by decide)(hdb:Dl x:=by decide)
 (he:Dj e es X:=by rfl) (hpl:Dk pos es X:=by rfl):PE X (.Call (.Name x p) (e::es) [] pos) (tCB r t):=by
 intro pins s σ H Q I h;refine wpAny_Call_Name_kw (dl I hg hm hv ?_ hn hdb);exact PyProof.Rows.callWith_builtin1 (x8 (ha pos pins s σ H _ I h) fun us s1 ⟨vs,H1,I1,r1,q1⟩=>hc pins s1 σ H1 vs us Q I1 r1 q1) he hpl
theorem gG(hc:ju X (.type T) r)(hg:Gl X x)(hm:X.mg x=none)(hv:bootBuiltins x=some (.type T))(ha:PA X (e::es) t)(hn:x ≠ "__name__" := by decide)(hdb:Dl x:=by decide)
 (he:Dj e es X:=by rfl) (hpl:Dk pos es X:=by rfl):PE X (.Call (.Name x p) (e::es) [] pos) (tCB r t):=by
 intro pins s σ H Q I h;refine wpAny_Call_Name_kw (dl I hg hm hv ?_ hn hdb);exact BX (x8 (ha pos pins s σ H _ I h) fun us s1 ⟨vs,H1,I1,r1,q1⟩=>hc pins s1 σ H1 vs us Q I1 r1 q1) he hpl
end
section
variable [DecidableEq κ]
def dS(kvs:List (κ×V))(k:κ):Option V:=(kvs.find? fun kv=>decide (kv.1=k)).map (·.2)
def gf(kvs:List (κ×V))(k:κ)(v:V):List (κ×V):=
 if (kvs.any fun kv=>decide (kv.1=k))=true then kvs.map (fun kv=>if kv.1=k then(kv.1,v) else kv) else kvs++[(k,v)]
theorem kE{p:κ×V}{r:List (κ×V)}{k:κ}(e:p.1=k):dS (p::r) k=some p.2:=by simp[dS,Bl,e]
theorem eF{p:κ×V}{r:List (κ×V)}{k:κ}(e:¬p.1=k):dS (p::r) k=dS r k:=by simp[dS,Bl,e]
theorem oo(k:κ):∀kvs:List (κ×V),(kvs.any fun kv=>decide (kv.1=k))=(dS kvs k).isSome
 |[]=>rfl
 |p::r=>by
  rw[BJ];by_cases e:p.1=k
  ·simp only[kE e,Aw e,Bool.true_or,Option.isSome_some]
  ·rw[eF e,As e,Bool.false_or];exact oo k r
theorem iF(kvs:List (κ×V))(k:κ)(v:V):(gf kvs k v).length≤kvs.length+1:=by
 unfold gf;split
 ·rw[Ab];omega
 ·rw[Aa,AE,List.length_nil];omega
theorem ar.isSome_eq{o:Option V}{u:Option Value}(r:ar o u):o.isSome=u.isSome:=by
 cases o with
 |none=>cases u with|none=>rfl|some _=>exact(show False from r).elim
 |some _=>cases u with|none=>exact(show False from r).elim|some _=>rfl
theorem ar.getD{o:Option V}{u:Option Value}{d:V}{d':Value}(r:ar o u)(rd:zc d d'):zc (o.getD d) (u.getD d'):=by
 cases o with
 |none=>cases u with|none=>exact rd|some _=>exact(show False from r).elim
 |some _=>cases u with|none=>exact(show False from r).elim|some _=>exact r
theorem KV.val{kvs:List (κ×V)}{vs:List (κ×Value)}(r:KV kvs vs)(k:κ):ar (dS kvs k) (valueAt vs k):=by
 unfold KV at r
 induction r with
 |nil=>exact True.intro
 |@cons p q ps qs h t ih=>
  obtain⟨h1,h2⟩:=h;by_cases e:p.1=k
  ·have e':q.1=k:=h1.symm.trans e;have b:valueAt (q::qs) k=some q.2:=by simp[valueAt,Bl,e']
   rw[kE e,b];exact h2
  ·have e':¬q.1=k:=fun z=>e (h1.trans z);have b:valueAt (q::qs) k=valueAt qs k:=by simp[valueAt,Bl,e']
   rw[eF e,b];exact ih
theorem KV.any{kvs:List (κ×V)}{vs:List (κ×Value)}(r:KV kvs vs)(k:κ):(kvs.any fun kv=>decide (kv.1=k))=vs.any fun kv=>decide (kv.1=k):=by
 unfold KV at r
 induction r with|nil=>rfl|cons h t ih=>rw[BJ,BJ,ih,h.1]
theorem KV.repl{kvs:List (κ×V)}{vs:List (κ×Value)}(r:KV kvs vs)(k:κ){y:V}(ry:zc y u):
 KV (kvs.map fun kv=>if kv.1=k then(kv.1,y) else kv) (vs.map fun kv=>if kv.1=k then(kv.1,u) else kv):=by
 unfold KV at r ⊢
 induction r with
 |nil=>exact .nil
 |@cons p q ps qs h t ih=>
  rw[AD,AD];refine .cons ?_ ih;obtain⟨h1,h2⟩:=h;by_cases e:p.1=k
  ·rw[AC e,AC (h1.symm.trans e)];exact⟨h1,ry⟩
  ·rw[AB e,AB (fun z=>e (h1.trans z))];exact⟨h1,h2⟩
theorem KV.put{kvs:List (κ×V)}{vs:List (κ×Value)}(r:KV kvs vs)(k:κ){y:V}(ry:zc y u):KV (gf kvs k y) (stored vs k u):=by
 unfold gf stored;rw[r.any k];by_cases e:(vs.any fun kv=>decide (kv.1=k))=true
 ·rw[AC e,AC e];exact r.repl k ry
 ·rw[AB e,AB e];exact Paired.snoc r ⟨rfl,ry⟩
theorem KV.length{kvs:List (κ×V)}{vs:List (κ×Value)}(r:KV kvs vs):kvs.length=vs.length:=Paired.length r
end
theorem m5{P:Program}{w:World}{k:jf}(r:zc (kV k) u):(xc P w).is k u=true:=by
 cases k with
 |inl i=>obtain⟨t,e⟩:=(show ∃t,u=Value.int i t from r);subst e;exact pL P w i t
 |inr x=>obtain⟨t,e⟩:=(show ∃t,u=Value.str x t from r);subst e;exact ot P w x t
theorem lr{P:Program}{w:World}:∀{ks:List jf} {us:List Value},zh (ks.map kV) us->ItemsAre (xc P w) ks us
 |[],_,r=>by rw[CZ] at r;cases r;exact .nil
 |k::ks,_,r=>by rw[AD] at r;cases r with|cons h t=>exact .cons (m5 h) (lr t)
abbrev KT(H:Hp):List (List jf×V)->List (List jf×Addr×Value)->Prop:=Paired fun p q=>p.1=q.1/\H q.2.1=some (.tup (p.1.map kV))/\zc p.2 q.2.2
theorem KT.val{xs:List (List jf×Addr×Value)}(r:KT H kvs xs)(k:List jf):ar (dS kvs k) ((atKey xs k).map (·.2)):=by
 induction r with
 |nil=>exact True.intro
 |@cons p q ps qs h t ih=>
  obtain⟨h1,_,h2⟩:=h;by_cases e:p.1=k
  ·have e':q.1=k:=h1.symm.trans e;have b:atKey (q::qs) k=some q.2:=by simp[atKey,Bl,e']
   rw[kE e,b];exact h2
  ·have e':¬q.1=k:=fun z=>e (h1.trans z);have b:atKey (q::qs) k=atKey qs k:=by simp[atKey,Bl,e']
   rw[eF e,b];exact ih
theorem KT.repl{xs:List (List jf×Addr×Value)}(r:KT H kvs xs)(k:List jf){y:V}(ry:zc y u):
 KT H (kvs.map fun kv=>if kv.1=k then(kv.1,y) else kv) (xs.map (putAt k u)):=by
 induction r with
 |nil=>exact .nil
 |@cons p q ps qs h t ih=>
  rw[AD,AD];refine .cons ?_ ih;obtain⟨h1,h2,h3⟩:=h;unfold putAt;by_cases e:p.1=k
  ·rw[AC e,AC (h1.symm.trans e)];exact⟨h1,h2,ry⟩
  ·rw[AB e,AB (fun z=>e (h1.trans z))];exact⟨h1,h2,h3⟩
theorem KT.put{xs:List (List jf×Addr×Value)}(r:KT H kvs xs)(k:List jf){y:V}(hb:H b=some (.tup (k.map kV)))(ry:zc y u):
 KT H (gf kvs k y) (storedH xs k b u):=by
 have e:(kvs.any fun kv=>decide (kv.1=k))=(atKey xs k).isSome:=by rw[oo,(r.val k).isSome_eq,Option.isSome_map]
 unfold gf storedH;rw[e];by_cases q:(atKey xs k).isSome=true
 ·rw[AC q,AC q];exact r.repl k ry
 ·rw[AB q,AB q];exact Paired.snoc r ⟨rfl,hb,ry⟩
theorem KT.keeps{xs:List (List jf×Addr×Value)}(r:KT H kvs xs)(ht:∀b ys,H b=some (.tup ys)->H' b=some (.tup ys)):KT H' kvs xs:=
 DF r fun _ _ z=>⟨z.1,ht _ _ z.2.1,z.2.2⟩
section
variable {P:Program}{w:World} 
theorem aev{u:HO}(ok:bX P w H h)(e:Rd H a u):xa P w H h a u:=e.ok ok
theorem m4{kvs:List (jf×V)}(ok:bX P w H h)(e:Rd H a (.dK kvs)):kvs.length≤sizeLine/\(a==sysModules)=false/\∃vs,KV kvs vs/\h.DictOf (xc P w) a vs:=
 show xa P w H h a (.dK kvs) from aev ok e
theorem akl{kvs:List (jf×V)}(ok:bX P w H h)(e:H a=some (.dK kvs)):kvs.length≤sizeLine/\(a==sysModules)=false/\∃vs,KV kvs vs/\h.DictOf (xc P w) a vs:=m4 ok (.inl e)
theorem oH{ks:List jf}(ok:bX P w H h)(e:H a=some (.tup (ks.map kV))):(tupleKind (xc P w)).is h ks a:=by obtain⟨_,its,r,o,h1,h2,n,h3⟩:=(show xa P w H h a (.tup (ks.map kV)) from ok a _ e);exact⟨o,its.toArray,n,h1,h2,h3,by simpa using lr r⟩
theorem oy(ok:bX P w H h)(e:Rd H a (.dT kvs)):kvs.length≤sizeLine/\(a==sysModules)=false/\
 ∃xs,KT H kvs xs/\h.DictOfH (tupleKind (xc P w)) a xs:=by
 obtain⟨z,y,xs,r,o,es,ep,h1,h2,h3,h4,h5⟩:=(show xa P w H h a (.dT kvs) from aev ok e);refine⟨z,y,xs,r,o,es,ep,h1,h2,h3,h4,fun x hx=>?_,h5⟩;have all:∀{l:List (List jf×V)} {m:List (List jf×Addr×Value)},KT H l m->∀x∈m,(tupleKind (xc P w)).is h x.1 x.2.1:=by
  intro l m q
  induction q with
  |nil=>intro x hx;exact nomatch hx
  |@cons p q ps qs hq t ih=>
   intro x hx;rcases An.mp hx with e | hx
   ·subst e;exact oH ok (by rw[<-hq.1];exact hq.2.1)
   ·exact ih x hx
 exact all r x hx
theorem ajv(ok:bX P w H h)(e:H a=some (.dT kvs)):kvs.length≤sizeLine/\(a==sysModules)=false/\
 ∃xs,KT H kvs xs/\h.DictOfH (tupleKind (xc P w)) a xs:=oy ok (.inl e)
end
def wW(H:Hp)(a:Addr)(y:V)(r:Option V):Prop:=
 (∃kvs k,Rd H a (.dK kvs)/\y=kV k/\r=dS kvs k)\/∃kvs k b,Rd H a (.dT kvs)/\y=.ref b/\H b=some (.tup (k.map kV))/\r=dS kvs k
def akg(H:Hp)(a:Addr)(y v:V)(H':Hp):Prop:=
 (∃kvs k,H a=some (.dK kvs)/\y=kV k/\kvs.length<sizeLine/\H'=upd H a (.dK (gf kvs k v)))\/
 ∃kvs k b,H a=some (.dT kvs)/\y=.ref b/\H b=some (.tup (k.map kV))/\kvs.length<sizeLine/\H'=upd H a (.dT (gf kvs k v))
section
variable {y:V}{r:Value}{o:Option V} 
theorem qr.big(I:qr X pins σ H s):sysModules<s.heap.objs.size:=by have h:mainGlobals<s.heap.objs.size:=(I.mod.glob.keeps I.bk).lt;exact Nat.lt_trans (by decide) h
theorem uU(hu:A.units+1<cLine)(I:qr X pins σ H s)(g:wW H a y (some v))(ry:zc y u)(h:∀w' s',qr X pins σ H s'->zc v w'->Q w' s'):
 wpAny (model X.prog X.w) A (getItem (.ref a) u) Q E s:=by
 rcases g with⟨kvs,k,e,ey,l⟩ | ⟨kvs,k,b,e,ey,eb,l⟩
 ·subst ey;obtain⟨z,hd,vs,rel,dd⟩:=m4 I.hok e;obtain⟨w',hw,rw'⟩:=DJ (v:=v) (o:=valueAt vs k) (by rw[l];exact rel.val k);exact wpAny_getItem_of (m5 ry) dd.mapOf hw (h w' _ (I.tok _) rw')
 ·subst ey;cases (show u=Value.ref b from ry);obtain⟨z,hd,xs,rel,dd⟩:=oy I.hok e;obtain⟨w',hw,rw'⟩:=DJ (v:=v) (o:=(atKey xs k).map (·.2)) (by rw[l];exact rel.val k);obtain⟨p,hp,hp2⟩:=Aj.mp hw;refine wpAny_getItem_heap (tupleKind_room_in1 hu) (oH I.hok eb) dd hp ?_;rw[hp2];exact h w' _ (I.tok _) rw'
theorem tX{ob:HO}(I:qr X pins σ H s)(mu:Mut (H a))(hs:Heap.SameBut a s.heap h')(he:∃q,h'.get? a=some q)(new:xa X.prog X.w (upd H a ob) h' a ob)(ht:0<t':=by walk_at "t"):
 qr X pins σ (upd H a ob) { s with heap:=h',toks:=t' }:=
 I.write (x:=a) (e:=a) mu (.inl rfl) (fun b q hb z=>(hs.2 b hb).trans z) he new
theorem ago{P:Program}{w:World}{kvs:List (jf×V)}{vs:List (jf×Value)}(z:kvs.length≤sizeLine)(hd:(a==sysModules)=false)(rel:KV kvs vs)(dd:h'.DictOf (xc P w) a vs):
 xa P w H' h' a (.dK kvs):=⟨z,hd,vs,rel,dd⟩
theorem ub{Q:Unit->Shared->Prop}(hu:A.units+1<cLine)(I:qr X pins σ H s)(g:akg H a y v H')(ry:zc y u)(rv:zc v r)(h:∀s',qr X pins σ H' s'->Q () s'):
 wpAny (model X.prog X.w) A (setItem (.ref a) u r) Q E s:=by
 rcases g with⟨kvs,k,e,ey,l,eH⟩ | ⟨kvs,k,b,e,ey,eb,l,eH⟩
 ·subst ey eH;obtain⟨z,hd,vs,rel,dd⟩:=akl I.hok e;have hz:vs.length≤sizeLine:=by rw[<-rel.length];exact z
  have hl:(gf kvs k v).length≤sizeLine:=by have:=iF kvs k v;omega
  refine wpAny_setItem_pairs (hsz:=hz) (m5 ry) dd fun h' dd' hs=>h _ ?_;have he:∃q,h'.get? a=some q:=let ⟨q,_,_,hq,_⟩:=dd';⟨q,hq⟩;exact tX I (by rw[e];exact True.intro) hs he (ago hl hd (rel.put k rv) dd')
 ·subst ey eH;cases (show u=Value.ref b from ry);obtain⟨z,hd,xs,rel,dd⟩:=ajv I.hok e;have hz:xs.length≤sizeLine:=by rw[<-Paired.length rel];exact z
  have hl:(gf kvs k v).length≤sizeLine:=by have:=iF kvs k v;omega
  refine wpAny_setItem_heap (hsz:=hz) (tupleKind_room_in1 hu) (oH I.hok eb) dd fun h' dd' hs=>h _ ?_;obtain⟨q,es,ep,hq,h2,h3,h4,_,h5⟩:=dd';refine tX I (by rw[e];exact True.intro) hs ⟨q,hq⟩ ⟨hl,hd,_,(rel.put k eb rv).keeps fun c ys ec=>?_,q,es,ep,hq,h2,h3,h4,h5⟩;rw[z7 (akd ec e (fun z=>nomatch z))];exact ec
end
section
variable {kvs:List (jf×V)}{k:jf} 
end
def ahv(i:Expr):Prop:=∀ov iv,subscripted i false ov iv=operate [ov,iv] (getItem ov iv)
theorem adg{w:World}{slice:Expr}{T id:String}
 (hl:typeLookup (.type T) "__getitem__" = pure (some (.builtin id))) (hs:ahv slice)
 (h:wpAny (model prog w) A (eval value env) (fun o s₁=>wpAny (model prog w) A (eval slice env) (fun i s₂=>s₂.TypeIs o T/\wpAny (model prog w) A (getItem o i) Q E s₂) E s₁) E s):
 wpAny (model prog w) A (eval (.Subscript value slice pos) env) Q E s:=by
 refine Subscript_ (AW h (fun o s₁ h₁=>AW h₁ (fun i s₂ h₂=>?_) fun _ _ x=>x) fun _ _ x=>x);obtain⟨hT,h₂⟩:=h₂;unfold subscriptTail;refine Ad ?_;rw[getitemInPython_of_ne hT.not_modules];refine Ad (wpAny_specialOf hT hl ?_);have xu:wpAny (model prog w) A (subscripted slice false o i) (fun r s₃=>wpAny (model prog w) A (letTemporaryGo value o r >>= fun _=>pure r) Q E s₃) E s₂:=by rw[hs o i];exact wpAny_operating (AW h₂ (fun r s₃ h₃=>Ad (wpAny_letTemporaryGo (Ax h₃))) fun _ _ x=>x)
 first
  |exact Ax (Ad xu)
  |exact Ad (Ax (Ad xu))
  |exact Ad xu
theorem pF{y:V}{o:Option V}(I:qr X pins σ H s)(g:wW H a y o):s.TypeIs (.ref a) "dict" := by
 rcases g with⟨kvs,k,e,_,_⟩ | ⟨kvs,k,b,e,_,_,_⟩
 ·obtain⟨_,_,vs,_,dd⟩:=m4 I.hok e;exact dd.typeIs
 ·obtain⟨_,_,xs,_,dd⟩:=oy I.hok e;exact dd.typeIs
def akk(td ty:TE):TE:=fun σ H Q=>td σ H fun x H1=>ty σ H1 fun y H2=>∃a v,x=.ref a/\wW H2 a y (some v)/\Q v H2
def ak7(td ty tv:TE):TS:=fun D σ H=>tv σ H fun v H1=>td σ H1 fun x H2=>ty σ H2 fun y H3=>∃a H4,x=.ref a/\akg H3 a y v H4/\D.nx σ H4
section
variable {i:Expr}{tpos:Pos}{td ty tv:TE}
theorem ae2(hu:X.A.units+1<cLine)(ho:PE X o td)(hi:PE X i ty)(hs:ahv i):PE X (.Subscript o i pos) (akk td ty):=by intro pins s σ H Q I h;refine adg CK.lookup hs (x8 (ho pins s σ H _ I h) fun u s1 ⟨x,H1,I1,rx,q1⟩=>x8 (hi pins s1 σ H1 _ I1 q1) fun iv s2 ⟨y,H2,I2,ry,a,v,ex,g,q2⟩=>?_);subst ex;obtain rfl:u=Value.ref a:=rx;exact⟨pF I2 g,uU hu I2 g ry fun w' s3 I3 rw'=>⟨v,H2,I3,rw',q2⟩⟩
theorem ae9(hu:X.A.units+1<cLine)(ho:PE X o td)(hi:PE X i ty)(hv:PE X value tv)(hs:swapsWith value (some (.Subscript o i pos')) pos.line X.env=pure false):
 PS X (.Assign [.Subscript o i pos'] value pos) (ak7 td ty tv):=by
 intro pins s σ H D I h;refine wpAny_Assign_Subscript (x8 (hv pins s σ H _ I h) fun r s1 ⟨v,H1,I1,rv,q1⟩=>x8 (ho pins s1 σ H1 _ I1 q1) fun u s2 ⟨x,H2,I2,rx,q2⟩=>x8 (hi pins s2 σ H2 _ I2 q2) fun iv s3 ⟨y,H3,I3,ry,a,H4,ex,g,q3⟩=>?_) hs;subst ex;obtain rfl:u=Value.ref a:=rx;exact ub hu I3 g ry rv fun s4 I4=>⟨σ,H4,I4,q3⟩
end
theorem zR{P:Program}{w:World}(h:Heap)(hb:sysModules<h.objs.size):xa P w H (h.push { cls:=.type "dict",data:=.dict #[] }) h.objs.size (.dK []):=
 ⟨Bf _,beq_eq_false_iff_ne.mpr (AR (Bc hb)),[],.nil,Heap.DictOf.new h⟩
def agr:TE:=fun _ H Q=>∀p,H p=none->Q (.ref p) (upd H p (.dK []))
section
theorem yN:PE X (.Dict [] [] pos) agr:=fun pins s σ H Q I h=>
 wpAny_Dict_empty ⟨.ref s.heap.objs.size,_,I.laid (a:=s.heap.objs.size) (o:=.dK []) (t':=s.toks) (fun _ _ q=>Heap.get?_push_of_some _ q) (Am _) (zR s.heap I.big),rfl,h _ (I.hok.fresh (Am _))⟩
end
structure M2(X:Cx)(o:Expr)(m:Str)(apos:Pos)(e f:Expr)(cpos:Pos):Prop where
 base:attributeBase o m X.env (eval o X.env)=eval o X.env
 few:((backTo cpos (starEach [e,f] X.env)).all (fun x=>!x.1)&&(backToKw cpos (keywordEach [] X.env)).all (fun x=>x.1.isSome)
  && decide (([e,f]:List Expr).length+([]:List Keyword).length+(if ([]:List Keyword).isEmpty then 0 else 1)<30))=true
 line:(apos.endLine==cpos.line)=true
 trees:backTo cpos (starEach [e,f] X.env)=[(false,eval e X.env),(false,eval f X.env)]
def IsD(H:Hp)(a:Addr):Prop:=(∃kvs,Rd H a (.dK kvs))\/∃kvs,Rd H a (.dT kvs)
theorem agg(I:qr X pins σ H s)(d:IsD H a):
 s.TypeIs (.ref a) "dict" /\ (∀b,Value.ref a=.ref b->∃ob,s.heap.get? b=some ob/\ob.dict=none)/\(a==sysModules)=false:=by
 rcases d with⟨kvs,e⟩ | ⟨kvs,e⟩
 ·obtain⟨_,hd,vs,_,dd⟩:=m4 I.hok e;refine⟨dd.typeIs,fun b q=>?_,hd⟩;cases q;obtain⟨ob,_,_,h1,h2,_⟩:=dd;exact⟨ob,h1,h2.2.1⟩
 ·obtain⟨_,hd,xs,_,dd⟩:=oy I.hok e;refine⟨dd.typeIs,fun b q=>?_,hd⟩;cases q;obtain⟨ob,_,_,h1,h2,_⟩:=dd;exact⟨ob,h1,h2.2.1⟩
section
variable {y d:V}{r:Value}{o:Option V} 
theorem afd(hu:A.units+1<cLine)(I:qr X pins σ H s)(g:wW H a y o)(ry:zc y u)(rd:zc d r)(h:∀w' s',qr X pins σ H s'->zc (o.getD d) w'->Q w' s'):
 wpAny (model X.prog X.w) A (call (.builtin "dict.get") [.ref a,u,r]) Q E s:=by
 rcases g with⟨kvs,k,e,ey,l⟩ | ⟨kvs,k,b,e,ey,eb,l⟩
 ·subst ey;obtain⟨z,hd,vs,rel,dd⟩:=m4 I.hok e;refine call_meetsIn Cn dd.typeIs C0 (CS _ _ _) (meets_dict_get_default (xc X.prog X.w) a (m5 ry) hd r) ⟨_,dd.mapOf,h _ _ (I.tok _) ?_⟩;rw[l];exact(rel.val k).getD rd
 ·subst ey;cases (show u=Value.ref b from ry);obtain⟨z,hd,xs,rel,dd⟩:=oy I.hok e;refine call_meetsIn Cn dd.typeIs C0 (CS _ _ _) (meetsH_dict_get_default (tupleKind (xc X.prog X.w)) a b hd r) ⟨tupleKind_room_in1 hu,k,xs,oH I.hok eb,dd,h _ _ (I.tok _) ?_⟩;rw[l];exact(rel.val k).getD rd
end
def ah4(td ty tx:TE):TE:=fun σ H Q=>td σ H fun x H1=>∃a,x=.ref a/\IsD H1 a/\ty σ H1 fun y H2=>tx σ H2 fun z H3=>∃o,wW H3 a y o/\Q (o.getD z) H3
section
variable {f:Expr}{td ty tx:TE}
theorem aae(hu:X.A.units+1<cLine)(ho:PE X o td)(he:PE X e ty)(hf:PE X f tx)(m:M2 X o "get" apos e f cpos):PE X (.Call (.Attribute o "get" apos) [e,f] [] cpos) (ah4 td ty tx):=by
 intro pins s σ H Q I h;refine wpAny_Call_method m.base m.few m.line PySem.F.plainAttrs_dict Cn PySem.F.type_dict_get (x8 (ho pins s σ H _ I h) fun u s1 ⟨x,H1,I1,rx,a,ex,d,q1⟩=>?_);subst ex;obtain rfl:u=Value.ref a:=rx;obtain⟨t1,t2,_⟩:=agg I1 d;refine⟨t1,t2,?_⟩;rw[m.trees];refine Calls.callWith_builtin rfl (Calls.evalArgs_plain (Calls.spliced_cons (x8 (he pins s1 σ H1 _ I1 q1) fun iv s2 ⟨y,H2,I2,ry,q2⟩=>
  Calls.spliced_cons (x8 (hf pins s2 σ H2 _ I2 q2) fun fv s3 ⟨z,H3,I3,rz,ov,g,q3⟩=>Calls.spliced_nil ?_))))
 exact afd hu I3 g ry rz fun w' s4 I4 rw'=>⟨_,H3,I4,rw',q3⟩
end
section
variable {kvs:List (jf×V)} 
end
section
variable {y:V} 
end
end L2
namespace HT
open PySem PyProof.Rows
section
open PySem.SeqAt
open PySem.AutoSeq1 (wpAny_loadPart')
open PySem.MeetsSeq PySem.MeetsSeq2 PySem.MeetsSeq3
end
section
variable {w:World} 
def sIx(n d:Nat):Option Int->Nat
 |none=>d
 |some v=>if v<0 then(v+(n:Int)).toNat else min v.toNat n
theorem sIx_none(n d:Nat):sIx n d none=d:=rfl
theorem sIx_nat(n d k:Nat):sIx n d (some (k:Int))=min k n:=by show(if (k:Int)<0 then((k:Int)+(n:Int)).toNat else min (k:Int).toNat n)=min k n;rw[AB (by omega),BE]
theorem sIx_le(n d:Nat)(hd:d≤n)(o:Option Int):sIx n d o≤n:=by
 cases o with
 |none=>exact hd
 |some v=>
  show(if v<0 then(v+(n:Int)).toNat else min v.toNat n)≤n;by_cases hv:v<0
  ·rw[AC hv];omega
  ·rw[AB hv];exact Nat.min_le_right _ _
end
end HT
namespace L2
open PySem PySem.Spec PyProof.Rows
abbrev TO:=St->Hp->(Option Int->Hp->Prop)->Prop
def PO(X:Cx)(e:Option Expr)(t:TO):Prop:=
 ∀(pins:List (Addr×Obj)) (s:Shared) (σ:St) (H:Hp) (Q:Option Int->Hp->Prop),qr X pins σ H s->t σ H Q->
  wpAny (model X.prog X.w) X.A (evalPart e X.env) (fun u s'=>∃o H',qr X pins σ H' s'/\IsPart u o/\Q o H') X.xe s
def aax:TO:=fun _ H Q=>Q none H
def aj3(t:TE):TO:=fun σ H Q=>t σ H fun x H1=>∃i,x=.int i/\Q (some i) H1
section
variable {te:TE}{lo hi:Option Expr}{tl th:TO} 
theorem abw:PO X none aax:=by intro pins s σ H Q I h;rw[evalPart_none];exact Ax ⟨none,H,I,.none,h⟩
theorem adr(h:PE X e te):PO X (some e) (aj3 te):=by intro pins s σ H Q I hw;rw[evalPart_some];refine x8 (h pins s σ H _ I hw) fun u s1 ⟨x,H1,I1,r1,q1⟩=>?_;obtain⟨i,rfl,q⟩:=q1;obtain⟨t,rfl⟩:=r1;exact⟨some i,H1,I1,.int i t,q⟩
def sJ(X:Cx)(r:V->Option Int->Option Int->Hp->VK->Prop):Prop:=
 ∀(pins:List (Addr×Obj)) (s:Shared) (σ:St) (H:Hp) (x:V) (v vl vu:Value) (lo hi:Option Int) (sl:Addr) (Q:VK),qr X pins σ H s->zc x v->s.heap.IsSliceOf sl vl vu .none->IsPart vl lo->IsPart vu hi->r x lo hi H Q->
  ∃T id,typeLookup (.type T) "__getitem__" = pure (some (.builtin id))/\s.TypeIs v T/\wpAny (model X.prog X.w) X.A (getItem v (.ref sl)) (EP X pins σ Q) X.xe s
theorem sJ.or{r':V->Option Int->Option Int->Hp->VK->Prop}(h:sJ X r)(h':sJ X r'):sJ X (fun x lo hi H Q=>r x lo hi H Q\/r' x lo hi H Q):=by
 intro pins s σ H x v vl vu lo hi sl Q I rx hs pl pu q;rcases q with q | q
 ·exact h pins s σ H x v vl vu lo hi sl Q I rx hs pl pu q
 ·exact h' pins s σ H x v vl vu lo hi sl Q I rx hs pl pu q
def tSl(r:V->Option Int->Option Int->Hp->VK->Prop)(te:TE)(tl th:TO):TE:=fun σ H Q=>te σ H fun x H1=>tl σ H1 fun l H2=>th σ H2 fun u H3=>r x l u H3 Q
theorem zK(hr:sJ X r)(he:PE X e te)(hl:PO X lo tl)(hu:PO X hi th):PE X (.Subscript e (.Slice lo hi none p2) pos) (tSl r te tl th):=by intro pins s σ H Q I h;refine Subscript_ (x8 (he pins s σ H _ I h) fun v s1 ⟨x,H1,I1,r1,q1⟩=>?_);refine wpAny_Slice (x8 (hl pins s1 σ H1 _ I1 q1) fun vl s2 ⟨l,H2,I2,pl,q2⟩=>x8 (hu pins s2 σ H2 _ I2 q2) fun vu s3 ⟨u,H3,I3,pu,q3⟩=>?_);rw[evalPart_none];refine Ax ?_;have I4:qr X pins σ H3 { s3 with heap:=s3.heap.push { cls:=.type "slice",data:=.fields #[vl,vu,.none] } }:=I3.kept (t':=s3.toks) fun b ob q=>Heap.get?_push_of_some _ q;obtain⟨T,id,hT,ht,hg⟩:=hr pins { s3 with heap:=s3.heap.push { cls:=.type "slice",data:=.fields #[vl,vu,.none] } } σ H3 x v vl vu l u s3.heap.objs.size Q I4 r1 (Heap.IsSliceOf.new ..) pl pu q3;show wpAny (model X.prog X.w) X.A (subscriptTail e (.Slice lo hi none p2) v (.ref s3.heap.objs.size)) (EP X pins σ Q) X.xe { s3 with heap:=s3.heap.push { cls:=.type "slice",data:=.fields #[vl,vu,.none] } };exact tail_any (ops:=[.ref s3.heap.objs.size,v]) ht hT hg (by with_unfolding_all rfl)
def uz(xs:List V)(lo hi:Option Int):List V:=(xs.drop (HT.sIx xs.length 0 lo)).take (HT.sIx xs.length xs.length hi - HT.sIx xs.length 0 lo)
theorem og(xs:List V)(lo hi:Option Int):(uz xs lo hi).length≤xs.length:=by unfold uz;rw[AS,B0];omega
end
def zQ(n:Nat)(i:Int):Option Nat:=if 0≤i then(if i<n then some i.toNat else none) else if -(n:Int)≤i then some (i+n).toNat else none
def bW(xs:List α)(i:Int):Option α:=(zQ xs.length i).bind fun j=>xs[j]?
theorem tT{i:Int}(h:zQ n i=some j):seqIndex? i n=some j/\j<n /\ -(n:Int)≤i/\i<n:=by
 unfold zQ at h;by_cases h0:0≤i
 ·rw[AC h0] at h;by_cases h1:i<n
  ·rw[AC h1] at h;have e:i.toNat=j:=AQ h;exact⟨by rw[seqIndex_of h0 h1,e],by omega,by omega,h1⟩
  ·rw[AB h1] at h;cases h
 ·rw[AB h0] at h;by_cases h1 : -(n:Int)≤i
  ·rw[AC h1] at h;have e:(i+n).toNat=j:=AQ h;exact⟨by rw[seqIndex_neg (by omega) h1,e],by omega,h1,by omega⟩
  ·rw[AB h1] at h;cases h
theorem oN{xs:List α}{i:Int}{v:α}(h:bW xs i=some v):∃j,seqIndex? i xs.length=some j/\xs[j]?=some v/\j<xs.length /\ -(xs.length:Int)≤i/\i<xs.length:=by
 unfold bW at h;cases e:zQ xs.length i with
 |none=>rw[e] at h;cases h
 |some j=>
  rw[e] at h;obtain⟨h1,h2,h3,h4⟩:=tT e;exact⟨j,h1,h,h2,h3,h4⟩
theorem xr{xs:List α}{v:α}(h:xs[j]?=some v):bW xs (j:Int)=some v:=by
 have hj:j<xs.length:=(AU.mp h).1;have e:zQ xs.length (j:Int)=some j:=by unfold zQ;rw[AC (by omega),AC (by omega)];simp
 unfold bW;rw[e];exact h
def nX(b:Expr):Prop:=∀o i,subscripted b false o i=operate [o,i] (getItem o i)
def xY(X:Cx)(r:R2):Prop:=
 ∀(value slice:Expr) (pins:List (Addr×Obj)) (s:Shared) (σ:St) (H:Hp) (x y:V) (v u:Value) (Q:VK),qr X pins σ H s->zc x v->zc y u->r x y H Q->
  subscripted slice false v u=operate [v,u] (getItem v u)->wpAny (model X.prog X.w) X.A (subscriptTail value slice v u) (EP X pins σ Q) X.xe s
def MtR(X:Cx)(id:String)(r:V->List V->Hp->VK->Prop):Prop:=
 ∀(pins:List (Addr×Obj)) (s:Shared) (σ:St) (H:Hp) (x:V) (xs:List V) (v:Value) (us:List Value) (Q:VK),qr X pins σ H s->zc x v->zh xs us->r x xs H Q->
  wpAny (model X.prog X.w) X.A (call (.builtin id) (v::us)) (EP X pins σ Q) X.xe s
section
variable {a b:Expr}{tb:TE} 
theorem aky{r:R2}(hr:xY X r)(ha:PE X a ta)(hb:PE X b tb)(hs:nX b):PE X (.Subscript a b pos) (tOp r ta tb):=by intro pins s σ H Q I h;exact Subscript_ (aia ha hb I h fun v u s2 x y H2 I2 rx ry q=>hr a b pins s2 σ H2 x y v u Q I2 rx ry q (hs _ _))
def amw(K:Ac):R2:=fun x y H Q=>∃p xs i v,x=.ref p/\y=.int i/\aE K H p xs/\bW xs i=some v/\Q v H
def anj(K:Ac):R2:=fun x y H Q=>∃p xs i v,x=.ref p/\y=.int i/\f9 K H p xs/\bW xs i=some v/\Q v H
def aoe:R2:=fun x y H Q=>∃z i c,x=.str z/\y=.int i/\z.length≤sizeLine/\bW z.cps.toList i=some c/\Q (.str ⟨#[c]⟩) H
theorem ab1:xY X (amw X.K):=by
 intro value slice pins s σ H x y v u Q I rx ry h hs;obtain⟨p,xs,i,z,rfl,rfl,hq,he,q⟩:=h;cases rx;obtain⟨t,rfl⟩:=ry;obtain⟨its,r,pl,hz⟩:=I.list hq;obtain⟨j,h1,h2,h3,h4,h5⟩:=oN he;obtain⟨w,ew,rw'⟩:=r.get h2;have hl:=r.length;have hn:=ga;have xu:EP X pins σ Q w s:=⟨z,H,I,rw',q⟩;by_cases h0:0≤i
 ·have hj:i.toNat=j:=by rw[seqIndex_of h0 h5] at h1;exact AQ h1
  exact item_listR pl.isList h0 (by omega) (by rw[hj];simpa using ew) xu hs
 ·have hj:(i+(its.toArray.size:Int)).toNat=j:=by rw[seqIndex_neg (by omega) h4] at h1;rw[Al,<-hl];exact AQ h1
  exact subscriptTail_builtinR (x:=w) pl.isList.typeIs slot_list_getitem.lookup
   (wpAny_getItem_list_neg (Q:=fun r s'=>r=w/\EP X pins σ Q r s') pl.isList (by omega) (by rw[Al]<;>omega) (by omega) (by rw[hj];simpa using ew) ⟨rfl,xu⟩) hs
theorem agf:xY X (anj X.K):=by
 intro value slice pins s σ H x y v u Q I rx ry h hs;obtain⟨p,xs,i,z,rfl,rfl,hq,he,q⟩:=h;cases rx;obtain⟨t,rfl⟩:=ry;obtain⟨its,r,pl,hz⟩:=I.tuple hq;obtain⟨j,h1,h2,h3,h4,h5⟩:=oN he;obtain⟨w,ew,rw'⟩:=r.get h2;have hl:=r.length;have hn:=ga;have xu:EP X pins σ Q w s:=⟨z,H,I,rw',q⟩;exact subscriptTail_builtinR (x:=w) pl.typeIs slot_tuple_getitem.lookup
  (getItem_tuple (j:=j) (Q:=fun r s'=>r=w/\EP X pins σ Q r s') pl (by omega) (by omega) (by rw[Al,<-hl];exact h1) (by simpa using ew) ⟨rfl,xu⟩) hs
theorem ah6:xY X aoe:=by
 intro value slice pins s σ H x y v u Q I rx ry h hs;obtain⟨z,i,c,rfl,rfl,hz,he,q⟩:=h;obtain⟨t,rfl⟩:=rx;obtain⟨t',rfl⟩:=ry;obtain⟨j,h1,h2,h3,h4,h5⟩:=oN he;have hl:z.cps.toList.length=z.length:=by simp[Str.length]
 rw[hl] at h1 h4 h5;have hn:=ga;exact tail_any (typeIs_str s z t) slot_str_getitem.lookup (getItem_str (c:=c) (by have e1:decide (i < -(2 ^ 63:Int))=false:=As (by omega);have e2:decide (i≥2 ^ 63)=false:=As (by omega);rw[e1,e2,Bool.or_false]) (by rw[h1];simpa using h2) ⟨.str ⟨#[c]⟩,H,I.tok _,⟨_,rfl⟩,q⟩) hs
theorem sG(its:List Value)(n j:Nat)(u:Value):Obj.mapSeq (·.setIfInBounds j u) { cls:=.type "list",data:=.seq its.toArray n }={ cls:=.type "list",data:=.seq (its.set j u).toArray n }:=by simp[Obj.mapSeq]
theorem qr.lst{p:Addr}(I:qr X pins σ H s)(h:H p=some (.lst xs)):
 ∃(its:List Value) (n:Nat),zh xs its/\s.heap.get? p=some { cls:=.type "list",data:=.seq its.toArray n }/\xs.length≤sizeLine:=by
 obtain⟨z,its,n,r,e⟩:=I.hok p _ h;exact⟨its,n,r,e,z⟩
theorem qr.lstUpd{p:Addr}{ys:List V}{its':List Value}{n':Nat}{f:Obj->Obj}(I:qr X pins σ H s)(h:H p=some (.lst xs))
 (ho:s.heap.get? p=some { cls:=.type "list",data:=.seq its.toArray n }) (hf:f { cls:=.type "list",data:=.seq its.toArray n }={ cls:=.type "list",data:=.seq its'.toArray n' }) (r:zh ys its') (hz:ys.length≤sizeLine) (t:Nat) (ht:0<t:=by walk_at "t"):
 qr X pins σ (upd H p (.lst ys)) { s with heap:=s.heap.update p f,toks:=t }:=by
 have e:(s.heap.update p f).get? p=some { cls:=.type "list",data:=.seq its'.toArray n' }:=by rw[Heap.get?_update_self f ho (by rw[hf]<;>rfl),hf]
 refine I.write (x:=p) (e:=p) (by rw[h];trivial) (.inl rfl) (fun b u hb q=>(Heap.get?_update_other _ _ (AR hb)).trans q) ⟨_,e⟩ ?_;exact⟨hz,its',n',r,e⟩
def aj4:V->V->V->Hp->(Hp->Prop)->Prop:=fun o i v H Q=>∃p xs k j,o=.ref p/\i=.int k/\H p=some (.lst xs)/\zQ xs.length k=some j/\Q (upd H p (.lst (xs.set j v)))
theorem zO:akh X aj4:=by
 intro pins s σ H o i v ov iv u Q I ro ri rv h;obtain⟨p,xs,k,j,rfl,rfl,hp,hj,q⟩:=h;cases ro;obtain⟨t,rfl⟩:=ri;obtain⟨its,n,r,ho,hz⟩:=I.lst hp;obtain⟨h1,h2,h3,h4⟩:=tT hj;have hl:=r.length;have hn:=ga;have I':qr X pins σ (upd H p (.lst (xs.set j v))) { s with heap:=s.heap.update p (Obj.mapSeq (·.setIfInBounds j u)) }:=
  I.lstUpd hp ho (sG its n j u) (r.set rv j) (by rw[A8];exact hz) s.toks
 by_cases h0:0≤k
 ·have hk:k.toNat=j:=by rw[seqIndex_of h0 h4] at h1;exact AQ h1
  exact PySem.W.ki_setAt ho h0 (by omega) (by rw[Al,<-hl];exact h4) (by rw[hk];exact⟨_,I',q⟩)
 ·have hk:(k+(its.toArray.size:Int)).toNat=j:=by rw[seqIndex_neg (by omega) h3] at h1;rw[Al,<-hl];exact AQ h1
  exact PySem.W.ki_setBack ho (by omega) (by rw[Al,<-hl];exact h3) (by omega) (by rw[hk];exact⟨_,I',q⟩)
theorem o0(lo hi:Option Int)(n:Nat):(sliceBounds lo hi none n).1=((HT.sIx n 0 lo:Nat):Int)/\(sliceBounds lo hi none n).2.1=((HT.sIx n n hi:Nat):Int)/\(sliceBounds lo hi none n).2.2=1:=by
 refine⟨?_,?_,rfl⟩
 ·cases lo with
  |none=>simp[sliceBounds,HT.sIx]
  |some i=>
   simp only[sliceBounds,HT.sIx,Option.getD_none,show(1:Int) > 0 by decide,if_true];by_cases h:i<0
   ·simp only[h,if_true]<;>omega
   ·simp only[h,if_false]<;>omega
 ·cases hi with
  |none=>simp[sliceBounds,HT.sIx]
  |some i=>
   simp only[sliceBounds,HT.sIx,Option.getD_none,show(1:Int) > 0 by decide,if_true];by_cases h:i<0
   ·simp only[h,if_true]<;>omega
   ·simp only[h,if_false]<;>omega
theorem lW(its:List Value)(lo hi:Option Int):slicePick its.toArray lo hi none=((its.drop (HT.sIx its.length 0 lo)).take (HT.sIx its.length its.length hi - HT.sIx its.length 0 lo)).toArray:=by obtain⟨h1,h2,h3⟩:=o0 lo hi its.toArray.size;unfold slicePick;rw[h1,h2,h3];simp only[sliceRange_one,pick_run,Al]<;>rfl
def am7(K:Ac):V->Option Int->Option Int->Hp->VK->Prop:=fun x lo hi H Q=>∃a xs,x=.ref a/\aE K H a xs/\∀p,H p=none->Q (.ref p) (upd H p (.lst (uz xs lo hi)))
theorem aec:sJ X (am7 X.K):=by intro pins s σ H x v vl vu lo hi sl Q I rx hs pl pu h;obtain⟨a,xs,rfl,hx,q⟩:=h;cases rx;obtain⟨its,r,ht,hz⟩:=I.list hx;have hlen:=r.length;refine⟨"list",_,slot_list_getitem.lookup,ht.isList.typeIs,?_⟩;refine wpAny_getItem_list_slice ht.isList hs pl pu .none (by simp) ?_ (by rw[Al]<;>omega);rw[lW,<-hlen];refine⟨.ref s.heap.objs.size,_,I.laid (t':=s.toks) (o:=.lst (uz xs lo hi)) (fun b ob q=>Heap.get?_push_of_some _ q) (Am _) ?_,rfl,q _ (I.hok.fresh (Am _))⟩;exact⟨AM (og xs lo hi) hz,_,0,(r.drop (HT.sIx xs.length 0 lo)).take (HT.sIx xs.length xs.length hi - HT.sIx xs.length 0 lo),Heap.get?_push_size _ rfl⟩
def aH:V->Bool
 |.non=>true
 |.bl _=>true
 |.int _=>true
 |.str _=>true
 |_=>false
def iM:V->V->Bool
 |.non,.non=>true
 |.bl a,.bl b=>a==b
 |.bl a,.int b=>(if a then 1 else 0)==b
 |.int a,.bl b=>a==(if b then 1 else 0)
 |.int a,.int b=>a==b
 |.str a,.str b=>a==b
 |_,_=>false
theorem jD{y x:V}{v:Value}(ry:zc y u)(rx:zc x v)(fy:aH y=true)(fx:aH x=true):SeqAt.EqAt A s u v (iM y x):=by
 cases y with
 |non=>
  cases ry;cases x with
  |non=>cases rx;exact SeqAt.EqAt.same _
  |bl b=>cases rx;exact SeqAt.EqAt.none_bool b
  |int b=>obtain⟨t,rfl⟩:=rx;exact SeqAt.EqAt.none_int b t
  |str b=>obtain⟨t,rfl⟩:=rx;exact SeqAt.EqAt.none_str b t
  |_=>exact absurd (show false=true from fx) Ap
 |bl a=>
  cases ry;cases x with
  |non=>cases rx;exact SeqAt.EqAt.bool_none a
  |bl b=>cases rx;exact SeqAt.EqAt.bool_bool a b
  |int b=>obtain⟨t,rfl⟩:=rx;exact SeqAt.EqAt.bool_int a b t
  |str b=>obtain⟨t,rfl⟩:=rx;exact SeqAt.EqAt.bool_str a b t
  |_=>exact absurd (show false=true from fx) Ap
 |int a=>
  obtain⟨t',rfl⟩:=ry;cases x with
  |non=>cases rx;exact SeqAt.EqAt.int_none a t'
  |bl b=>cases rx;exact SeqAt.EqAt.int_bool a t' b
  |int b=>obtain⟨t,rfl⟩:=rx;exact SeqAt.EqAt.int_int a t' b t
  |str b=>obtain⟨t,rfl⟩:=rx;exact SeqAt.EqAt.int_str a t' b t
  |_=>exact absurd (show false=true from fx) Ap
 |str a=>
  obtain⟨t',rfl⟩:=ry;cases x with
  |non=>cases rx;exact SeqAt.EqAt.str_none a t'
  |bl b=>cases rx;exact SeqAt.EqAt.str_bool a t' b
  |int b=>obtain⟨t,rfl⟩:=rx;exact SeqAt.EqAt.str_int a t' b t
  |str b=>obtain⟨t,rfl⟩:=rx;exact SeqAt.EqAt.str_str a t' b t
  |_=>exact absurd (show false=true from fx) Ap
 |_=>exact absurd (show false=true from fy) Ap
def rP(x:V)(u:Value):Bool:=match u with
 |.none=>iM .non x
 |.bool b=>iM (.bl b) x
 |.int i _=>iM (.int i) x
 |.str z _=>iM (.str z) x
 |_=>false
theorem xS{x y:V}(r:zc y u)(f:aH y=true):rP x u=iM y x:=by
 cases y with
 |non=>cases r;rfl
 |bl b=>cases r;rfl
 |int i=>obtain⟨t,rfl⟩:=r;rfl
 |str z=>obtain⟨t,rfl⟩:=r;rfl
 |_=>exact absurd (show false=true from f) Ap
theorem ef{x:V}:∀{xs:List V} {us:List Value},zh xs us->xs.all aH=true->us.any (rP x)=xs.any fun y=>iM y x
 |_,_,.nil,_=>rfl
 |y::xs,u::us,.cons r t,f=>by rw[CO,A2] at f;rw[BJ,BJ,xS r f.1,ef t f.2]
theorem cK{A:Around}{s:Shared}{x:V}{v:Value}(rx:zc x v)(fx:aH x=true):∀{xs:List V} {us:List Value},zh xs us->xs.all aH=true->∀u∈us,SeqAt.EqAt A s u v (rP x u)
 |_,_,.nil,_=>fun u hu=>by cases hu
 |y::xs,u::us,.cons r t,f=>fun u' hu=>by
  rw[CO,A2] at f;rcases An.mp hu with rfl | hu
  ·rw[xS r f.1];exact jD r rx f.1 fx
  ·exact cK rx fx t f.2 u' hu
def tP(x:V)(xs:List V):Bool:=xs.any fun y=>iM y x
def rIn(K:Ac)(neg:Bool):R2:=fun x y H Q=>∃p xs,y=.ref p/\(aE K H p xs\/f9 K H p xs)/\aH x=true/\xs.all aH=true/\Q (.bl (if neg then !tP x xs else tP x xs)) H
theorem uy:ko X (compareOp .In) (rIn X.K false):=by
 intro pins s σ H x y v u Q I rx ry h;obtain⟨p,xs,rfl,hq,fx,fs,q⟩:=h;cases ry;rcases hq with hq | hq
 ·obtain⟨its,r,pl,hz⟩:=I.list hq;refine SeqAt.in_listAt (rP x) pl.isList (fun w hw=>cK rx fx r fs w (by simpa using hw)) ⟨.bl _,H,I,rfl,?_⟩;rw[show its.toArray.any (rP x)=its.any (rP x) by simp,ef r fs];exact q
 ·obtain⟨its,r,pl,hz⟩:=I.tuple hq;refine SeqAt.in_tupleAt (rP x) pl (fun w hw=>cK rx fx r fs w (by simpa using hw)) ⟨.bl _,H,I,rfl,?_⟩;rw[show its.toArray.any (rP x)=its.any (rP x) by simp,ef r fs];exact q
theorem oV:ko X (compareOp .NotIn) (rIn X.K true):=by
 intro pins s σ H x y v u Q I rx ry h;obtain⟨p,xs,rfl,hq,fx,fs,q⟩:=h;cases ry;rcases hq with hq | hq
 ·obtain⟨its,r,pl,hz⟩:=I.list hq;refine SeqAt.notIn_listAt (rP x) pl.isList (fun w hw=>cK rx fx r fs w (by simpa using hw)) ⟨.bl _,H,I,rfl,?_⟩;rw[show its.toArray.any (rP x)=its.any (rP x) by simp,ef r fs];exact q
 ·obtain⟨its,r,pl,hz⟩:=I.tuple hq;refine SeqAt.notIn_tupleAt (rP x) pl (fun w hw=>cK rx fx r fs w (by simpa using hw)) ⟨.bl _,H,I,rfl,?_⟩;rw[show its.toArray.any (rP x)=its.any (rP x) by simp,ef r fs];exact q
theorem oF:ju X (.builtin "len") (fun xs H Q=>∃p ys,xs=[.ref p]/\(aE X.K H p ys\/f9 X.K H p ys)/\Q (.int ys.length) H):=by
 intro pins s σ H xs us Q I r h;obtain⟨p,ys,rfl,hq,q⟩:=h;obtain⟨u,rfl,rx⟩:=qR r;cases rx;have hn:=ga;rcases hq with hq | hq
 ·obtain⟨its,r',pl,hz⟩:=I.list hq;have hlen:=r'.length;exact Calls.call_len_list pl.isList (by simp only[Al]<;>omega) ⟨.int ys.length,H,I.tok _,⟨s.toks+1,by rw[Al,hlen]⟩,q⟩
 ·obtain⟨its,r',pl,hz⟩:=I.tuple hq;have hlen:=r'.length;exact len_tuple pl (by simp only[Al]<;>omega) ⟨.int ys.length,H,I.tok _,⟨s.toks+1,by rw[Al,hlen]⟩,q⟩
theorem nK:ju X (.builtin "len") (fun xs H Q=>∃z,xs=[.str z]/\z.length≤sizeLine/\Q (.int z.length) H):=by intro pins s σ H xs us Q I r h;obtain⟨z,rfl,hz,q⟩:=h;obtain⟨u,rfl,t,rfl⟩:=qR r;have hn:=ga;exact len_str (by omega) ⟨.int z.length,H,I.tok _,⟨_,rfl⟩,q⟩
theorem n9:ju X (.type "list") (fun xs H Q=>∃p ys,xs=[.ref p]/\(aE X.K H p ys\/f9 X.K H p ys)/\∀l,H l=none->Q (.ref l) (upd H l (.lst ys))):=by
 intro pins s σ H xs us Q I r h;obtain⟨p,ys,rfl,hq,q⟩:=h;obtain⟨u,rfl,rx⟩:=qR r;cases rx;have xu:∀(its:List Value),zh ys its->ys.length≤sizeLine->∀(h':Heap) (c':Nat),(∀b o',s.heap.get? b=some o'->h'.get? b=some o')->
  h'.get? s.heap.objs.size=some { cls:=.type "list",dict:=none,data:=.seq its.toArray c',slots:=#[] }->EP X pins σ Q (.ref s.heap.objs.size) { s with heap:=h' }:=fun its r' hz h' c' kp e=>
  ⟨.ref s.heap.objs.size,_,I.laid (t':=s.toks) kp (Am _) (show xa X.prog X.w _ h' _ (.lst ys) from⟨hz,its,c',r',e⟩),rfl,q _ (I.hok.fresh (Am _))⟩
 rcases hq with hq | hq
 ·obtain⟨its,r',pl,hz⟩:=I.list hq;have hlen:=r'.length;obtain⟨o,ho,hc,n,hd⟩:=pl.isList;exact call_list_seq p (.inl rfl) ho hc hd (fun h' c' kp e=>xu its r' hz h' c' kp e) (by simp only[Al]<;>omega)
 ·obtain⟨its,r',pl,hz⟩:=I.tuple hq;have hlen:=r'.length;obtain⟨o,ho,hc,n,hd⟩:=pl;exact call_list_seq p (.inr rfl) ho hc hd (fun h' c' kp e=>xu its r' hz h' c' kp e) (by simp only[Al]<;>omega)
def tyV(K:Ac)(T:String)(x:V)(H:Hp):Prop:=match x with
 |.str _=>T = "str"
 |.int _=>T = "int"
 |.ref p=>(T = "list" /\ ∃xs,aE K H p xs)\/(T = "tuple" /\ ∃o,K.lookup p=some o/\o.cls=.type "tuple" /\ o.dict=none)\/
  (T = "dict" /\ ((∃kvs,H p=some (.dK kvs))\/∃kvs,H p=some (.dT kvs)))\/(T = "set" /\ ∃S n,H p=some (.set S n))
 |_=>False
theorem ah3{T:String}{x:V}{v:Value}(I:qr X pins σ H s)(r:zc x v)(ty:tyV X.K T x H):
 s.TypeIs v T/\∀a,v=.ref a->∃ob,s.heap.get? a=some ob/\ob.dict=none:=by
 cases x with
 |str z=>
  obtain⟨t,rfl⟩:=r;cases (show T = "str" from ty);exact⟨typeIs_str s z t,fun _ e=>nomatch e⟩
 |int i=>
  obtain⟨t,rfl⟩:=r;cases (show T = "int" from ty);exact⟨typeIs_int s i t,fun _ e=>nomatch e⟩
 |ref p=>
  cases r;rcases ty with⟨rfl,xs,hq⟩ | ⟨rfl,o,hk,hc,hd⟩ | ⟨rfl,hk⟩ | ⟨rfl,S,n,hk⟩
  ·obtain⟨its,_,pl,_⟩:=I.list hq;refine⟨pl.isList.typeIs,fun a e=>?_⟩;cases e;obtain⟨o,n,e,c,hd,_⟩:=pl;exact⟨o,e,hd⟩
  ·refine⟨⟨o,I.kIn p o hk,hc⟩,fun a e=>?_⟩;cases e;exact⟨o,I.kIn _ o hk,hd⟩
  ·have z:∃o,s.heap.get? p=some o/\o.ExactDict:=by
    rcases hk with⟨kvs,hk⟩ | ⟨kvs,hk⟩
    ·obtain⟨_,_,_,_,o,_,_,e,ex,_⟩:=I.hok p _ hk;exact⟨o,e,ex⟩
    ·obtain⟨_,_,_,_,o,_,_,e,ex,_⟩:=I.hok p _ hk;exact⟨o,e,ex⟩
   obtain⟨o,e,ex⟩:=z;refine⟨⟨o,e,ex.1⟩,fun a e2=>?_⟩;cases e2;exact⟨o,e,ex.2.1⟩
  ·obtain⟨o,_,_,_,e,ex,_⟩:=I.hok p _ hk;refine⟨⟨o,e,ex.1⟩,fun a e2=>?_⟩;cases e2;exact⟨o,e,ex.2.1⟩
 |_=>exact False.elim ty
def tBM(K:Ac)(T:String)(r:V->List V->Hp->VK->Prop)(to:TE)(t:TA):TE:=fun σ H Q=>to σ H fun x H1=>tyV K T x H1/\t σ H1 fun xs H2=>r x xs H2 Q
variable {to:TE}{T id:String}{r:V->List V->Hp->VK->Prop}
theorem aej(pa:PlainAttrs T)(slot:Slot T name id)(hty:typeOf (.builtin id)=pure (.type "method_descriptor"))(hm:MtR X id r)(ho:PE X o to)(ha:PA X (e::es) t)
 (hbase:attributeBase o name X.env (eval o X.env)=eval o X.env:=by rfl)
 (hfew:((backTo cpos (starEach (e::es) X.env)).all (fun x=>!x.1)&&(backToKw cpos (keywordEach [] X.env)).all (fun x=>x.1.isSome)
  && decide ((e::es).length+([]:List Keyword).length+(if ([]:List Keyword).isEmpty then 0 else 1)<30))=true:=by rfl)
 (hline:(apos.endLine==cpos.line)=true:=by rfl) (hs:Dj e es X:=by rfl) (hplain:Dk cpos es X:=by rfl):
 PE X (.Call (.Attribute o name apos) (e::es) [] cpos) (tBM X.K T r to t):=by
 intro pins s σ H Q I h;refine wpAny_Call_method_late hbase hfew hline rfl (x8 (ho pins s σ H _ I h) fun v s1 ⟨x,H1,I1,r1,ty,q1⟩=>?_);obtain⟨h1,h2⟩:=ah3 I1 r1 ty;refine⟨T,id,pa,slot,hty,h1,h2,?_⟩;have hA:=ha cpos pins s1 σ H1 _ I1 q1;rw[hs] at hA ⊢;refine Calls.callWith_builtin (by show(false||(backTo cpos (starEach es X.env)).any (·.1))=false;rw[hplain]<;>rfl) (Calls.evalArgs_plain ?_);exact x8 hA fun us s2 ⟨vs,H2,I2,r2,q2⟩=>hm pins s2 σ H2 x vs v us Q I2 r1 r2 q2
end
def nG(X:Cx)(id:String)(r:V->List V->Hp->VK->Prop):Prop:=
 ∀(pins:List (Addr×Obj)) (s:Shared) (σ:St) (H:Hp) (x:V) (xs:List V) (v:Value) (us:List Value) (Q:VK),qr X pins σ H s->zc x v->zh xs us->r x xs H Q->
  wpAny (model X.prog X.w) X.A (call (.builtin id) (v::us)) (EP X pins σ Q) X.xe s
theorem zh.one:∀{x:V} {us:List Value},zh [x] us->∃u,us=[u]/\zc x u
 |_,_,.cons r .nil=>⟨_,rfl,r⟩
theorem zh.two:∀{x y:V} {us:List Value},zh [x,y] us->∃u v,us=[u,v]/\zc x u/\zc y v
 |_,_,_,.cons r (.cons q .nil)=>⟨_,_,rfl,r,q⟩
theorem zh.eraseIdx:∀{xs:List V} {us:List Value} (i:Nat),zh xs us->zh (xs.eraseIdx i) (us.eraseIdx i)
 |_,_,_,.nil=>.nil
 |_,_,0,.cons _ t=>t
 |_,_,i+1,.cons r t=>.cons r (zh.eraseIdx i t)
theorem m6{α:Type}:∀(l:List α) (i:Nat),(l.eraseIdx i).length≤l.length
 |[],_=>Am _
 |_::_,0=>Bz _
 |_::r,i+1=>Nat.succ_le_succ (m6 r i)
section
variable {l:Addr}{ys:List V}
theorem qr.lset{its':List Value}{f:Array Value->Array Value}(I:qr X pins σ H s)(hH:H l=some (.lst xs))
 (e:s.heap.get? l=some { cls:=.type "list",data:=.seq its.toArray n }) (hf:f its.toArray=its'.toArray) (hv:zh ys its') (hz:ys.length≤sizeLine) (ht:0<t':=by walk_at "t"):
 qr X pins σ (upd H l (.lst ys)) { s with heap:=s.heap.update l (Obj.mapSeq f),toks:=t' }:=by
 have q:=PySem.IsL.update e f;rw[hf] at q;refine I.write (x:=l) (e:=l) (by rw[hH];exact trivial) (.inl rfl) (fun b' u hb hu=>(Heap.get?_update_other s.heap (Obj.mapSeq f) (AR hb)).trans hu) ⟨_,q⟩ ?_;exact⟨hz,its',_,hv,q⟩
theorem qr.lnew(I:qr X pins σ H s)(hv:zh ys its)(hz:ys.length≤sizeLine)(ht:0<t':=by walk_at "t"):
 qr X pins σ (upd H s.heap.objs.size (.lst ys)) { s with heap:=s.heap.push { cls:=.type "list",data:=.seq its.toArray },toks:=t' }:=
 I.laid (fun _ _ q=>Heap.get?_push_of_some _ q) (Am _) ⟨hz,its,0,hv,Heap.get?_push_size _ rfl⟩
theorem qr.fresh(I:qr X pins σ H s):H s.heap.objs.size=none:=I.hok.fresh (Am _)
theorem qr.lstM(I:qr X pins σ H s)(hH:H l=some (.lst xs)):xs.length≤sizeLine/\∃(its:List Value) (n:Nat),zh xs its/\xs.length=its.length/\s.heap.get? l=some { cls:=.type "list",data:=.seq its.toArray n }:=by obtain⟨z,its,n,r,e⟩:=I.hok l _ hH;exact⟨z,its,n,r,r.length,e⟩
theorem aa4(h:n≤sizeLine):Builtin.List.listTooLong n=false:=by unfold Builtin.List.listTooLong;exact As (by omega)
end
section
def ac6:V->List V->Hp->VK->Prop:=fun x vs H Q=>∃l xs y,x=.ref l/\vs=[y]/\H l=some (.lst xs)/\xs.length<sizeLine/\Q .non (upd H l (.lst (xs++[y])))
theorem uX:nG X "list.append" ac6:=by intro pins s σ H x vs v us Q I rx rv h;obtain⟨l,xs,y,rfl,rfl,hH,hz,q⟩:=h;cases rx;obtain⟨u,rfl,ru⟩:=rv.one;obtain⟨z,its,n,r,hl,e⟩:=I.lstM hH;refine call_meets F.slot_list_append ⟨_,e,rfl⟩ F.entry_list_append (F.args_list_append_2 _ _) (PySem.list_append l its.toArray n u (by rw[Al];omega)) ⟨e,?_⟩;refine⟨.non,_,I.lset (its':=its++[u]) hH e (by simp) (r.append (.cons ru .nil)) ?_,rfl,q⟩;rw[Aa,AI];omega
def aca:V->List V->Hp->VK->Prop:=fun x vs H Q=>∃l b xs zs,x=.ref l/\vs=[.ref b]/\H l=some (.lst xs)/\H b=some (.lst zs)/\xs.length+zs.length≤sizeLine/\Q .non (upd H l (.lst (xs++zs)))
theorem uo:nG X "list.extend" aca:=by
 intro pins s σ H x vs v us Q I rx rv h;obtain⟨l,b,xs,zs,rfl,rfl,hH,hB,hz,q⟩:=h;cases rx;obtain⟨u,rfl,ru⟩:=rv.one;cases ru;obtain⟨z,its,n,r,hl,e⟩:=I.lstM hH;obtain⟨z2,its2,n2,r2,hl2,e2⟩:=I.lstM hB;have hsz:its.toArray.size+its2.toArray.size≤sizeLine:=by rw[Al,Al];omega
 have hlong:¬(!its.toArray.isEmpty&&Builtin.List.listTooLong (its.toArray.size+its2.toArray.size))=true:=by rw[aa4 hsz,Dd];exact Ap
 refine call_meets F.slot_list_extend ⟨_,e,rfl⟩ F.entry_list_extend (F.args_list_extend_2 _ _)
  (AutoSeq1.list_extend_list_list_0 l its.toArray n b its2.toArray n2 hlong (by rw[Al];omega) (by omega)) ⟨e,e2,?_⟩
 refine⟨.non,_,I.lset (its':=its++its2) hH e (by simp) (r.append r2) ?_,rfl,q⟩;rw[Aa];omega
def agz:V->List V->Hp->VK->Prop:=fun x vs H Q=>∃l xs i k y,x=.ref l/\vs=[.int i]/\H l=some (.lst xs) /\ -(2 ^ 63)≤i/\i<2 ^ 63/\seqIndex? i xs.length=some k/\xs[k]?=some y/\Q y (upd H l (.lst (xs.eraseIdx k)))
theorem yK:nG X "list.pop" agz:=by
 intro pins s σ H x vs v us Q I rx rv h;obtain⟨l,xs,i,k,y,rfl,rfl,hH,h1,h2,hk,hy,q⟩:=h;cases rx;obtain⟨u,rfl,ru⟩:=rv.one;obtain⟨t,rfl⟩:=ru;obtain⟨z,its,n,r,hl,e⟩:=I.lstM hH;obtain⟨w,hw,rw'⟩:=r.get hy;refine call_meets F.slot_list_pop ⟨_,e,rfl⟩ F.entry_list_pop (F.args_list_pop_2 _ _)
  (MeetsSeq.list_pop_at l its.toArray n i t k w (fitsIndex_both h1 h2) (by rw[Al,<-hl];exact hk) (by rw[<-Bb];exact hw) (by rw[Al];omega)) ⟨e,?_⟩
 refine⟨y,_,I.lset (its':=its.eraseIdx k) hH e ?_ (r.eraseIdx k) ?_,rw',q⟩
 ·show its.toArray.eraseIdxIfInBounds k=(its.eraseIdx k).toArray;rw[List.eraseIdxIfInBounds_toArray]
 ·have:=m6 xs k;omega
def amv:R2:=fun x y H Q=>∃l b xs zs,x=.ref l/\y=.ref b/\H l=some (.lst xs)/\H b=some (.lst zs)/\xs.length+zs.length≤sizeLine/\∀p,H p=none->Q (.ref p) (upd H p (.lst (xs++zs)))
theorem ahh:ko X (binaryOp .Add) amv:=by
 intro pins s σ H x y v u Q I rx ry h;obtain⟨l,b,xs,zs,rfl,rfl,hH,hB,hz,q⟩:=h;cases rx;cases ry;obtain⟨z,its,n,r,hl,e⟩:=I.lstM hH;obtain⟨z2,its2,n2,r2,hl2,e2⟩:=I.lstM hB;refine PySem.P.add_list e e2 ?_ (by rw[Al,Al];omega);have ea:its.toArray++its2.toArray=(its++its2).toArray:=by simp
 rw[ea];exact⟨.ref _,_,I.lnew (t':=s.toks) (r.append r2) (by rw[Aa];omega),rfl,q _ I.fresh⟩
end
section
variable {w:World} 
set_option maxRecDepth 100000 in
end
section
end
end L2
namespace Att
open PySem PySem.W PySem.Calls PyProof.Rows
theorem iK{P:Params} :∀(ns:List Int) (vs:List Value),WellAll P h vs (ns.map WData.int)->IntsAre vs ns:=by
 intro ns
 induction ns with
 |nil=>
  intro vs w;rw[CZ] at w;cases w;exact .nil
 |cons n ns ih=>
  intro vs w;rw[AD] at w;cases w with
  |cons a b=>
   cases a;exact .cons _ _ (ih _ b)
theorem wF{l:OpenLaw}(hn:l.most=some n){P:Params}{args:List WData}{vals:List Value}
 (hpre:l.row.toRowW.claim.pre args=true) (hwl:WellAll P h vals args):
 ∃a vs ns,vals=[Value.ref a]/\args=[WData.list (ns.map WData.int)]/\h.get? a=some { cls:=.type "list",data:=.seq vs.toArray }/\IntsAre vs ns/\ns.length≤n:=by
 have hsh:WShape.hasAll [] args [.list .int]=true:=(pre_splitW hpre).1;have hc:l.pre.holds [] { args:=args }=true:=(pre_splitW hpre).2;obtain⟨d,r,rfl,h1,h2⟩:=hasAllW_cons hsh;obtain rfl:=hasAllW_nil h2;obtain⟨xs,rfl,h3⟩:=hasW_list h1;obtain⟨ns,rfl⟩:=items_int h3;have hlen:ns.length≤n:=by
  unfold OpenLaw.pre at hc;have h4:(WTm.not (.lt (.lit (.int (n:Int))) (.len (.arg 0)))).holds [] { args:=[.list (ns.map .int)] }=true:=by have h4:=(holds_andW hc).1;rw[hn] at h4;exact h4
  have h5:=condW_of h4 (w_not (w_lt w_lit (w_len_list (w_arg rfl))));rw[Ab] at h5;refine Nat.le_of_not_lt fun q=>?_;have q':(n:Int)<((ns.length:Nat):Int):=by omega
  first
   |(rw[Aw q'] at h5;exact absurd h5 (by decide))
   |(simp at h5;omega)
 cases hwl with
 |cons w1 w2=>
  cases w2;cases w1 with|list ho hall=>exact⟨_,_,ns,rfl,rfl,ho,iK ns _ hall,hlen⟩
theorem uZ(l:OpenLaw)(args:List WData):l.row.toRowW.claim.post args (.bool true) args=true:=
 postW_of (r:=l.row.toRowW) (X:=(true==true))
  (show WShape.has [] (.bool true) .bool=true by first | rfl | decide | simp[WShape.has,WShape.arms,WShape.armsAll])
  (show(WTm.eq .res (.lit (.bool true))).value [] { args:=args,res:=some (.bool true),after:=args }=some (.bool (true==true)) from w_eq_bool (w_res rfl) w_lit) rfl
theorem attach_callZ{l:OpenLaw}{q:Program}{loose:List Str}{XP:(Str->Option Value)->Heap->Prop}{as0:List Addr}{N t:Nat}{K:Params->Frag}{d:DefRec}
 (hn:l.most=some n) (hdf:d.params.defaults=[]) (ek:∀P,as0=(K P).map (·.1)) (htk:0<t)
 (call:∀(w:World) (s₀ s₁:Shared) (mg mb:Str->Option Value) (fa:Addr) (o:Obj) (pm cd doc:Value) (a:Addr) (vs:List Value) (ns:List Int),
  Ground q loose [] XP w s₀ mg mb s₁.heap->(K w.params).In s₁.heap->0<s₁.toks->
  s₁.heap.get? fa=some o->o.data=.func (docDef d.name d.params d.body d.scope pm cd doc)->s₁.heap.CodeRec cd d.name->mg d.name=some (.ref fa)->
  s₁.heap.get? a=some { cls:=.type "list",data:=.seq vs.toArray }->IntsAre vs ns->ns.length≤n->s₁.gens=#[]->
  codeAny (model l.prog w) callerA (.call (.ref fa) ⟨[.ref a],[]⟩) (fun r s'=>r=.ok (.ret (.bool true))/\OldK s₁.heap s'.heap/\s'.os=s₁.os/\AllBare s'.gens) s₁):
 WalkX q loose XP (PySem.W.X.obsZ as0) (PySem.W.X.valZ K N t) l.row.toRowW d [] (fun f vs=>PySem.call f vs):=by
 intro w s₀ s₁ mg mb G Y fa o pm cd doc dV kV ho hd hcd hD hmg hg args vals as L hpre hlay hrd hwl hlo;obtain rfl:dV=.none:=Dflts.none hD hdf;obtain rfl:kV=.none:=Dflts.noKw hD;obtain⟨a,vs,ns,rfl,rfl,hobj,hints,hlen⟩:=wF hn hpre hwl;obtain⟨_,zi,_,zt⟩:=X.z_facts ek Y;have eP:∀ns:List Int,ofPy (PyData.list (ns.map PyData.int))=WData.list (ns.map WData.int):=fun ns=>by
  simp only[ofPy];congr 1
  induction ns with|nil=>simp[ofPys]|cons n r ih=>simp only[AD,ofPys,ofPy,ih]
 rw[<-eP] at L;have KX:=InK.keeps w s₀.heap s₁.heap zi L.keeps;have tk1:0<s₁.toks:=AH htk (X.script_toks L zt);refine enter_call (codeAny_mono (call w s₀ s₁ mg mb fa o pm cd doc a vs ns G KX tk1 ho (fd_plain hd) hcd hmg hobj hints hlen hg) fun r s' hq=>?_);obtain⟨rfl,h2,h3,h4⟩:=hq;exact⟨.inl ⟨.bool true,.bool true,[],rfl,fun _=>rfl,.bool true,uZ l _,fun _=>⟨List.Pairwise.nil,fun _ hm=>(nomatch hm)⟩⟩,h2,h3,h4⟩
section
variable {w:World}{K:Frag}
end
end Att
namespace L2
open PySem PySem.Spec PyProof.Rows
theorem l8:∀{vs:List Value} {ns:List Int},IntsAre vs ns->zh (ns.map V.int) vs
 |_,_,.nil=>.nil
 |_,_,.cons n t h=>.cons ⟨t,rfl⟩ (l8 h)
def acv(H:Hp):Prop:=∀b,H b=none\/∃o xs,H b=some (.frz o (.lst xs))
theorem xW{P:Program}{w:World}{K:Ac}{mb:Str->Option Value}{CX:uE}{k:Nat}{s₁:Shared}{ns:List Int}
 (KX:K.In s₁.heap) (hns:s₁.heap.Ns mainGlobals mg) (hb:s₁.heap.Ns builtinsNs mb) (hbb:∀x:Str,x ≠ "__name__" -> mb x=bootBuiltins x) (hlim:s₁.heap.NoLimit) (hg:s₁.gens=#[]) (htk:0<s₁.toks)
 (ha:s₁.heap.get? a=some { cls:=.type "list",data:=.seq vs.toArray }) (hi:IntsAre vs ns) (hl:ns.length≤sizeLine) (hr:v3 k callerA)
 (F:∀base:Heap,K.In base->base.Ns mainGlobals mg->wo P w K mg base CX k fa fd [x] sp) (hbind:∀(s:Shared) (u:Value),BindsTo s fd ⟨[u],[]⟩ [(x,u)])
 (hsp:∀H:Hp,acv H->aE K H a (ns.map V.int)->sp [.ref a] H (fun v _=>v=.bl true) fun _ _ _=>False)
 (hCX:∀H e s',CX [] H s₁ (fun _ _ _=>False) e s'->False):
 codeAny (model P w) callerA (.call (.ref fa) ⟨[.ref a],[]⟩) (fun r s'=>r=.ok (.ret (.bool true))/\OldK s₁.heap s'.heap/\s'.os=s₁.os/\AllBare s'.gens) s₁:=by
 have rv:=l8 hi;have lenV:=hi.length;have core:∀H:Hp,acv H->aE K H a (ns.map V.int)->bX P w H s₁.heap->(∀b,H b≠none->b=a)->(H a≠none->K.lookup a=none)->
  codeAny (model P w) callerA (.call (.ref fa) ⟨[.ref a],[]⟩) (fun r s'=>r=.ok (.ret (.bool true))/\OldK s₁.heap s'.heap/\s'.os=s₁.os/\AllBare s'.gens) s₁:=by
  intro H hO hS hok hA hK;have base_of:∀{b:Addr} {o:Obj},s₁.heap.get? b=some o->H b=none->(nS s₁.heap H).get? b=some o:=fun e n=>aa3 e n;have noA:∀{b:Addr} {o:Obj} {es:Array DictEntry} {ep:Nat},s₁.heap.get? b=some o->o.data=.dict es ep->H b=none:=fun {b o es ep} e d=>by
   cases q:H b with
   |none=>rfl
   |some u=>
    have e':b=a:=hA b (by rw[q];simp);subst e';rw[ha] at e;cases e;have d':Data.seq vs.toArray _=Data.dict es ep:=d;cases d'
  have nsK:∀{b:Addr} {m:Str->Option Value},s₁.heap.Ns b m->(nS s₁.heap H).Ns b m:=fun {b m} ⟨o,es,ep,e,d,r⟩=>⟨o,es,ep,base_of e (noA e d),d,r⟩;have hKb:K.In (nS s₁.heap H):=fun b o e=>base_of (KX b o e) (by
   cases q:H b with
   |none=>rfl
   |some u=>
    have e':b=a:=hA b (by rw[q];simp);subst e';rw[hK (by rw[q];simp)] at e;cases e)
  have hM:Mod K mg (nS s₁.heap H):=⟨hKb,nsK hns,⟨mb,nsK hb,hbb⟩,let ⟨mc,h1,h2⟩:=hlim;⟨mc,nsK h1,h2⟩⟩;have e0:sM P w K mg (nS s₁.heap H) callerA [] s₁ H:=⟨rfl,hM,fun b o e=>ad9 e,Nat.le_of_eq (vP _ _),trivial,fun b hb=>absurd (show b∈([]:List Addr) from hb) (by simp),hok,.of_eq hg,htk⟩;refine codeAny_mono ((F _ hKb (nsK hns)).run callerA [] s₁ H ⟨[.ref a],[]⟩ [.ref a] [.ref a] _ _ hr e0 (hbind s₁ (.ref a)) (.cons rfl .nil) (hsp H hO hS)) fun r s' h=>?_;cases r with
  |error e=>exact(hCX H e s' h).elim
  |ok fl=>
   cases fl with
   |next=>exact False.elim h
   |brk=>exact False.elim h
   |cont=>exact False.elim h
   |ret u=>
    obtain⟨v,H',os,bare,un,hok',r',q,_⟩:=h;have q':v=.bl true:=q;subst q';obtain rfl:u=Value.bool true:=r';refine⟨rfl,OldK.of_keep fun b o e=>?_,os,bare⟩;cases q:H b with
    |none=>exact un.keep b o e q (by intro z;exact absurd (show b∈([]:List Addr) from z) (by simp)) (by simp)
    |some u=>
     rcases hO b with z | ⟨ob,xs,z⟩
     ·rw[q] at z;cases z
     ·have z2:=un.frzs b ob _ z;obtain⟨e1,_⟩:=hok b _ z;obtain⟨e2,_⟩:=hok' b _ z2;rw[e] at e1;cases e1;exact e2
 cases hk:K.lookup a with
 |some o=>
  have e:=KX a o hk;rw[ha] at e;cases e;refine core (fun _=>none) (fun _=>.inl rfl) (.inr ⟨_,vs.toArray,_,hk,rfl,rfl,rfl,by rw[Al,lenV];exact hl,by simpa using rv⟩) (fun b u z=>by have z':(none:Option HO)=some u:=z;cases z') (fun b z=>absurd rfl z) fun z=>absurd rfl z
 |none=>
  refine core (fun b=>if b=a then some (.frz { cls:=.type "list",data:=.seq vs.toArray } (.lst (ns.map V.int))) else none) (fun b=>?_) (.inl (.inr ⟨{ cls:=.type "list",data:=.seq vs.toArray },AC rfl⟩)) (fun b u z=>?_) (fun b z=>?_) fun _=>hk
  ·by_cases hb:b=a
   ·exact .inr ⟨_,_,AC hb⟩
   ·exact .inl (AB hb)
  ·by_cases hb:b=a
   ·have z':=(AC hb).symm.trans z;cases z';subst hb;exact⟨ha,by rw[Ab];exact hl,vs,_,rv,ha⟩
   ·have z':=(AB hb).symm.trans z;cases z'
  ·by_cases hb:b=a
   ·exact hb
   ·exact absurd (AB hb) z
theorem walk_ofZ{l:PySem.W.OpenLaw}{k:Nat}{q:Program}{loose:List Str}{XP:(Str->Option Value)->Heap->Prop}{as0:List Addr}{N t:Nat}{d:DefRec}{K:Params->Ac}{CX:uE}{sp:Ac->Sp}
 (hn:l.most=some n) (hn2:n≤sizeLine) (hdf:d.params.defaults=[]) (hr:v3 k callerA) (ek:∀P,as0=(K P).map (·.1)) (htk:0<t)
 (F:∀(w:World) (mg:Str->Option Value) (fa:Addr) (h:Heap),(K w.params).In h->h.Ns mainGlobals mg->mg d.name=some (.ref fa)->
  ∃fd:FuncData,(∀(s:Shared) (u:Value),BindsTo s fd ⟨[u],[]⟩ [(x,u)])/\
   ∀base:Heap,(K w.params).In base->base.Ns mainGlobals mg->wo l.prog w (K w.params) mg base CX k fa fd [x] (sp (K w.params)))
 (hsp:∀(K:Ac) (H:Hp) (a:Addr) (ns:List Int),ns.length≤n->acv H->aE K H a (ns.map V.int)->sp K [.ref a] H (fun v _=>v=.bl true) fun _ _ _=>False)
 (hCX:∀(H:Hp) (s:Shared) (e:Value) (s':Shared),CX [] H s (fun _ _ _=>False) e s'->False):
 PySem.W.WalkX q loose XP (PySem.W.X.obsZ as0) (PySem.W.X.valZ K N t) l.row.toRowW d [] (fun f vs=>PySem.call f vs):=by
 refine Att.attach_callZ hn hdf ek htk fun w s₀ s₁ mg mb fa o pm cd doc a vs ns G KX tk ho hd hcd hmg hobj hints hlen hg=>?_;obtain⟨fd,hb,hF⟩:=F w mg fa _ KX G.T.g hmg;exact xW KX G.T.g G.T.b G.T.builtins G.T.nolimit hg tk hobj hints (AM hlen hn2) hr hF hb (fun H hO hS=>hsp (K w.params) H a ns hlen hO hS) fun H e s'=>hCX H s₁ e s'
def ja(s:Stmt):Arguments:=match s with
 |.FunctionDef _ a _ _ _ _ _ _ _ _=>a
 |_=>{ posonlyargs:=[],args:=[],vararg:=none,kwonlyargs:=[],kw_defaults:=[],kwarg:=none,defaults:=[] }
def zn(s:Stmt):List Stmt:=match s with
 |.FunctionDef _ _ b _ _ _ _ _ _ _=>b
 |_=>[]
def ql(s:Stmt):Scope:=match s with
 |.FunctionDef _ _ _ _ _ _ sc _ _ _=>sc
 |_=>{ kind:=.function,names:=[],isGenerator:=false,isCoroutine:=false }
abbrev CX0:uE:=fun _ _ _ _ _ _=>False
abbrev E0:XK:=fun _ _ _=>False
theorem zA :fk CX0 X E0:=fun _ _ _ _ _ _ _ h=>h.elim
structure Fun(K:Ac)(x qual:Str)(st:Stmt)(f:Addr)(fd:FuncData):Prop where
 ex:∃(oc:Value) (od:Option Addr) (kV doc pm:Value) (an:Option Addr) (cdv ct:Value) (osl:Array (Option Value)),
  fd=PySem.W.fnOf x qual (ja st) (zn st) (ql st) .none kV doc pm an cdv ct/\K.lookup f=some ⟨oc,od,.func fd,osl⟩/\PySem.W.codeIn K cdv qual=true
 kp:PySem.W.keepIn K (.ref f)=true
section
variable {P:Program}{w:World}{K:Ac} 
theorem Fun.ok{N:List Str}{k:Nat}(F:Fun K x qual st f fd)(S:aN N ps (ql st))(len:∀vs H Q E,sp vs H Q E->vs.length=ps.length)
 (hbody:∀(cdv:Value) (A:Around) (outer:List Env) (s:Shared) (H:Hp) (vs:List V) (Q:VK) (E:XK),v3 k (A.deeper (envOfC qual (ql st) s.heap.objs.size f cdv))->sp vs H Q E->
  ∃t,mH (cR CX0 P w K mg base N qual (ql st) f cdv A outer s H E).nox (zn st) t/\t { nx:=fun _ H'=>Q .non H',rt:=Q } (start N vs) H):wo P w K mg base CX0 (k+1) f fd ps sp:=by
 obtain⟨oc,od,kV,doc,pm,an,cdv,ct,osl,rfl,lk,hcd⟩:=F.ex;refine af1 lk hcd S len fun A outer s H vs Q E hr hsp=>?_;obtain⟨t,h,q⟩:=hbody cdv A outer s H vs Q E hr hsp;exact⟨t,h.nox,q⟩
theorem yA{kV:Value}(l:K.lookup f=some ⟨oc,od,.func (PySem.W.fnOf x qual (ja st) (zn st) (ql st) .none kV doc pm an cdv ct),osl⟩)
 (c:PySem.W.codeIn K cdv qual=true) (k:PySem.W.keepIn K (.ref f)=true):Fun K x qual st f (PySem.W.fnOf x qual (ja st) (zn st) (ql st) .none kV doc pm an cdv ct):=⟨⟨oc,od,kV,doc,pm,an,cdv,ct,osl,rfl,l,c⟩,k⟩
end
theorem wb(h:n≤1000):n<sizeLine:=AO h (by decide)
section
theorem pv(i:Nat)(hN:X.N[i]?=some x:=by rfl)(hv:Vis X.env.scope x:=by first | exact Or.inl rfl | exact Or.inr (Or.inl rfl) | exact Or.inr (Or.inr rfl))(hd:Dl x:=by decide)
 (hcd:Dm x:=by decide):PE X (.Name x pos) (afu i):=afv hN hv hd hcd
end
section
variable [DecidableEq κ]
end
end L2
set_option maxHeartbeats 8000000
theorem adt{a b c:Nat}(h:a≤b:=by assumption)(k:b<c:=by assumption):a<c:=AO h k
theorem adi{a b c:Nat}(h:a≤b:=by assumption)(k:b≤c:=by assumption):a≤c:=AM h k
theorem y4{a b c:Nat}(h:a<b:=by assumption)(k:b<c:=by assumption):a<c:=Nat.lt_trans h k
theorem ai8{a b c:Nat}(h:a≤b:=by assumption)(k:b≤c:=by decide):a≤c:=AM h k
theorem nN{a b:Nat}(h:a≤b:=by assumption):a<b+1:=Nat.lt_succ_of_le h
theorem yh{a b:Nat}(h:a≤b:=by assumption):a≤b+1:=Nat.le_succ_of_le h
theorem yE{a b:Nat}(h:a<b:=by assumption):a≤b:=Bx h
theorem ann{a b:Nat}(h:b<a:=by assumption):a≠b:=Nat.ne_of_gt h
theorem am6{a:Nat}(h:a≠0:=by assumption):0<a:=Nat.pos_of_ne_zero h
theorem ako{a b c:Nat}(h:a<b:=by assumption)(k:b≤c:=by assumption):a≤c:=AM (Bx h) k
theorem akr{a b c:Nat}(h:a<b:=by assumption):a<b+c:=AH h (BK _ _)
theorem vU{a b:Nat}(h:a=b:=by assumption):a≤b:=Nat.le_of_eq h
theorem aa7{a b:Nat}(h:¬a<b:=by assumption):b≤a:=Nat.le_of_not_lt h
theorem amm{a b:Nat}(h:a<b+1:=by assumption):a≤b:=Nat.le_of_lt_succ h
theorem aj9{a b:Nat}(h:0<a:=by assumption)(k:0<b:=by decide):a - b<a:=Nat.sub_lt h k
theorem ph{a b c:Nat}(h:a<c:=by assumption):a - b<c:=AO (Nat.sub_le _ _) h
theorem aoh{a b:Nat}(h:a≤b:=by assumption)(k:a≠b:=by assumption):a<b:=Nat.lt_of_le_of_ne h k
namespace L2
open PySem PySem.Spec PyProof.Rows
section
def amj:R2:=fun x y H Q=>match x,y with
 |.int i,.int j=>Q (.int (i+j)) H
 |.str a,.str b=>a.length+b.length≤sizeLine/\Q (.str (a++b)) H
 |.ref l,.ref b=>∃xs zs,H l=some (.lst xs)/\H b=some (.lst zs)/\xs.length+zs.length≤sizeLine/\∀p,H p=none->Q (.ref p) (upd H p (.lst (xs++zs)))
 |_,_=>False
theorem ad8:ko X (binaryOp .Add) amj:=by
 intro pins s σ H x y v u Q I rx ry h;cases x<;>cases y<;>first
  |exact False.elim h
  |exact ah0 pins s σ H _ _ v u Q I rx ry ⟨_,_,rfl,rfl,h⟩
  |exact sm pins s σ H _ _ v u Q I rx ry ⟨_,_,rfl,rfl,h.1,h.2⟩
  |(obtain⟨xs,zs,h1,h2,h3,h4⟩:=h;exact ahh pins s σ H _ _ v u Q I rx ry ⟨_,_,xs,zs,rfl,rfl,h1,h2,h3,h4⟩)
def KD(K:Ac)(P:Program)(w:World)(a:Addr)(kvs:List (jf×V)):Prop:=
 (a==sysModules)=false/\kvs.length≤sizeLine/\∀h:Heap,K.In h->∃vs,KV kvs vs/\h.DictOf (xc P w) a vs
def uIx(K:Ac)(P:Program)(w:World):R2:=fun x y H Q=>match x,y with
 |.str z,.int i=>z.length≤sizeLine/\∃c,bW z.cps.toList i=some c/\Q (.str ⟨#[c]⟩) H
 |.ref p,.int i=>∃xs v,(aE K H p xs\/f9 K H p xs)/\bW xs i=some v/\Q v H
 |.ref p,.str k=>∃kvs v,(Rd H p (.dK kvs)\/KD K P w p kvs)/\dS kvs (Sum.inr k)=some v/\Q v H
 |_,_=>False
theorem yi{slice:Expr}{vs:List (jf×Value)}{k:jf}{w':Value}{Q:VK}(I:qr X pins σ H s)(dd:s.heap.DictOf (xc X.prog X.w) a vs)(hk:kO k u=true)
 (hw:valueAt vs k=some w') (r:zc v w') (q:Q v H) (hs:subscripted slice false (.ref a) u=operate [.ref a,u] (getItem (.ref a) u)):wpAny (model X.prog X.w) X.A (subscriptTail value slice (.ref a) u) (EP X pins σ Q) X.xe s:=
 tail_any dd.typeIs CK.lookup (wpAny_getItem_of hk dd.mapOf hw ⟨v,H,I.tok _,r,q⟩) hs
theorem an0:xY X (uIx X.K X.prog X.w):=by
 intro value slice pins s σ H x y v u Q I rx ry q hs;cases x with
 |str z=>
  cases y with
  |int i=>
   obtain⟨h1,c,h2,h3⟩:=q;exact ah6 value slice pins s σ H _ _ v u Q I rx ry ⟨z,i,c,rfl,rfl,h1,h2,h3⟩ hs
  |_=>exact q.elim
 |ref p=>
  cases y with
  |int i=>
   obtain⟨xs,w',h1,h2,h3⟩:=q;rcases h1 with h1 | h1
   ·exact ab1 value slice pins s σ H _ _ v u Q I rx ry ⟨p,xs,i,w',rfl,rfl,h1,h2,h3⟩ hs
   ·exact agf value slice pins s σ H _ _ v u Q I rx ry ⟨p,xs,i,w',rfl,rfl,h1,h2,h3⟩ hs
  |str k=>
   obtain⟨kvs,w',h1,h2,h3⟩:=q;have ry':zc (kV (Sum.inr k)) u:=ry;cases (show v=Value.ref p from rx);rcases h1 with h1 | h1
   ·obtain⟨z,hd,vs,rel,dd⟩:=m4 I.hok h1;obtain⟨w2,hw,rw'⟩:=DJ (v:=w') (o:=valueAt vs (Sum.inr k)) (by rw[<-h2];exact rel.val _);exact yi I dd (m5 (P:=X.prog) (w:=X.w) ry') hw rw' h3 hs
   ·obtain⟨hd,z,dd⟩:=h1;obtain⟨vs,rel,dd⟩:=dd s.heap I.kIn;obtain⟨w2,hw,rw'⟩:=DJ (v:=w') (o:=valueAt vs (Sum.inr k)) (by rw[<-h2];exact rel.val _);exact yi I dd (m5 (P:=X.prog) (w:=X.w) ry') hw rw' h3 hs
  |_=>exact q.elim
 |_=>cases y<;>exact q.elim
def amy(K:Ac):List V->Hp->VK->Prop:=fun xs H Q=>match xs with
 |[.str z]=>z.length≤sizeLine/\Q (.int z.length) H
 |[.ref p]=>∃ys,(aE K H p ys\/f9 K H p ys)/\Q (.int ys.length) H
 |_=>False
theorem vX:ju X (.builtin "len") (amy X.K):=by
 intro pins s σ H xs us Q I r h
 match xs,h with
 |[.str z],h=>exact nK pins s σ H _ us Q I r ⟨z,rfl,h.1,h.2⟩
 |[.ref p],h=>
  obtain⟨ys,h1,h2⟩:=h;exact oF pins s σ H _ us Q I r ⟨p,ys,rfl,h1,h2⟩
inductive Da where
 |s (v:V)
 |tup (xs:List Da)
 |lst (xs:List Da)
mutual
def Da.eq:Da->Da->Bool
 |.s v,.s w=>iM v w
 |.tup xs,.tup ys=>Da.eqs xs ys
 |.lst xs,.lst ys=>Da.eqs xs ys
 |_,_=>false
def Da.eqs:List Da->List Da->Bool
 |[],[]=>true
 |x::xs,y::ys=>Da.eq x y&&Da.eqs xs ys
 |_,_=>false
end
def v8(K:Ac)(H:Hp):Nat->V->Da->Prop
 |0,v,d=>d=.s v/\aH v=true
 |n+1,v,d=>(d=.s v/\aH v=true)\/(∃a xs ds,v=.ref a/\d=.tup ds/\f9 K H a xs/\Paired (v8 K H n) xs ds)\/(∃a xs ds,v=.ref a/\d=.lst ds/\aE K H a xs/\Paired (v8 K H n) xs ds)
theorem Da.eqs_range:∀(ds es:List Da),((List.range (min ds.length es.length)).all (fun j=>Da.eq (ds.getD j (.s .non)) (es.getD j (.s .non)))&&ds.length==es.length)=Da.eqs ds es
 |[],[]=>by simp[Da.eqs]
 |[],e::es=>by simp[Da.eqs]
 |d::ds,[]=>by simp[Da.eqs]
 |d::ds,e::es=>by
  have ih:=Da.eqs_range ds es;rw[Da.eqs,<-ih];have:min (d::ds).length (e::es).length=min ds.length es.length+1:=by simp only[AE];lia
  rw[this,List.range_succ_eq_map,CO,List.all_map];have h2:((d::ds).length==(e::es).length)=(ds.length==es.length):=by simp
  rw[h2,Bool.and_assoc];rfl
abbrev DE:=@Da.eqs_range
theorem Paired.at{α β:Type}{F:α->β->Prop}:∀{xs:List α} {ys:List β} {j:Nat} {x:α} {y:β},Paired F xs ys->xs[j]?=some x->ys[j]?=some y->F x y
 |_,_,_,_,_,.nil,h,_=>by simp at h
 |_,_,0,_,_,.cons r _,h1,h2=>by simp at h1 h2;subst h1 h2;exact r
 |_,_,j+1,_,_,.cons _ t,h1,h2=>Paired.at (j:=j) t (by simpa using h1) (by simpa using h2)
abbrev DM:=@Paired.at
theorem f7:∀{v:V},aH v=true->iM v v=true
 |.non,_=>rfl
 |.bl _,_=>by simp[iM]
 |.int _,_=>by simp[iM]
 |.str _,_=>by simp[iM]
section
theorem zr(h:aH (.ref a)=true):False:=by simp[aH] at h
theorem qr.notBoth(I:qr X pins σ H s){ys:List V}(h:f9 X.K H a xs)(h':aE X.K H a ys):False:=by
 obtain⟨its,_,⟨o,e,c,_⟩,_⟩:=I.tuple h;obtain⟨its',_,⟨o',n',e',c',_⟩,_⟩:=I.list h';rw[e] at e';cases e';rw[c] at c';injection c' with c'
 exact absurd c' (by decide)
theorem oJ(I:qr X pins σ H s):∀(n:Nat) {m:Nat} {x:V} {d e:Da},v8 X.K H n x d->v8 X.K H m x e->Da.eq d e=true
 |0,m,x,d,e,h1,h2=>by
  obtain⟨rfl,f⟩:=h1;cases m with
  |zero=>obtain⟨rfl,_⟩:=h2;exact f7 f
  |succ m=>
   rcases h2 with⟨rfl,_⟩ | ⟨a,xs,ds,rfl,_⟩ | ⟨a,xs,ds,rfl,_⟩
   ·exact f7 f
   ·exact(zr f).elim
   ·exact(zr f).elim
 |n+1,m,x,d,e,h1,h2=>by
  have both:∀{xs:List V} {ds es:List Da} {m:Nat},Paired (v8 X.K H n) xs ds->Paired (v8 X.K H m) xs es->Da.eqs ds es=true:=by
   intro xs ds es m p
   induction p generalizing es with
   |nil=>intro q;cases q;rfl
   |cons r t ih=>
    intro q;cases q with|cons r' t'=>rw[Da.eqs,oJ I n r r',ih t'];rfl
  rcases h1 with⟨rfl,f⟩ | ⟨a,xs,ds,rfl,rfl,hs,hp⟩ | ⟨a,xs,ds,rfl,rfl,hs,hp⟩
  ·cases m with
   |zero=>obtain⟨rfl,_⟩:=h2;exact f7 f
   |succ m=>
    rcases h2 with⟨rfl,_⟩ | ⟨a,xs,ds,rfl,_⟩ | ⟨a,xs,ds,rfl,_⟩
    ·exact f7 f
    ·exact(zr f).elim
    ·exact(zr f).elim
  ·cases m with
   |zero=>exact(zr h2.2).elim
   |succ m=>
    rcases h2 with⟨_,f⟩ | ⟨a',ys,es,e1,rfl,hs',hp'⟩ | ⟨a',ys,es,e1,rfl,hs',hp'⟩
    ·exact(zr f).elim
    ·cases e1;cases I.tuple_inj hs hs';exact both hp hp'
    ·cases e1;exact(I.notBoth hs hs').elim
  ·cases m with
   |zero=>exact(zr h2.2).elim
   |succ m=>
    rcases h2 with⟨_,f⟩ | ⟨a',ys,es,e1,rfl,hs',hp'⟩ | ⟨a',ys,es,e1,rfl,hs',hp'⟩
    ·exact(zr f).elim
    ·cases e1;exact(I.notBoth hs' hs).elim
    ·cases e1;cases I.list_inj hs hs';exact both hp hp'
theorem zp{its:Array Value}(p:PlainL h a its):h.IsList a its:=let ⟨o,n,e,c,_,d⟩:=p;⟨o,e,c,n,d⟩
theorem eU{ys:List V}{ds es:List Da}(px:Paired (v8 X.K H n) xs ds)(py:Paired (v8 X.K H m) ys es)(vx:zh xs us)(vy:zh ys vs)
 (ih:∀{x y:V} {d e:Da} {u v:Value},v8 X.K H n x d->v8 X.K H m y e->zc x u->zc y v->SeqAt.EqAt A.in1 s u v (Da.eq d e)):
 ∀j (h1:j<us.toArray.size) (h2:j<vs.toArray.size),SeqAt.EqAt A.in1 s us.toArray[j] vs.toArray[j] (Da.eq (ds.getD j (.s .non)) (es.getD j (.s .non))):=by
 intro j h1 h2;have l1:=px.length;have l2:=py.length;have l3:=vx.length;have l4:=vy.length;rw[Al] at h1 h2;have q1:xs[j]?=some xs[j]:=Ak (by lia);have q2:ys[j]?=some ys[j]:=Ak (by lia);have q3:ds[j]?=some ds[j]:=Ak (by lia);have q4:es[j]?=some es[j]:=Ak (by lia);have q5:us[j]?=some us[j]:=Ak (by lia);have q6:vs[j]?=some vs[j]:=Ak (by lia);rw[A5,A5,q3,q4];exact ih (DM px q1 q3) (DM py q2 q4) (DM vx q1 q5) (DM vy q2 q6)
theorem mF{ys:List V}{ds es:List Da}(I:qr X pins σ H s)(hu:A.units<cLine)(sx:f9 X.K H a xs)(sy:f9 X.K H b ys)(px:Paired (v8 X.K H n) xs ds)(py:Paired (v8 X.K H m) ys es)
 (ih:∀{x y:V} {d e:Da} {u v:Value},v8 X.K H n x d->v8 X.K H m y e->zc x u->zc y v->SeqAt.EqAt A.in1 s u v (Da.eq d e)):SeqAt.RcAt A s (.ref a) (.ref b) (Da.eqs ds es):=by
 obtain⟨us,vx,tx,_⟩:=I.tuple sx;obtain⟨vs,vy,ty,_⟩:=I.tuple sy;have q:=SeqAt.RcAt.tuples tx ty hu (eU px py vx vy ih);rw[Al,Al,<-vx.length,<-vy.length,px.length,py.length,DE] at q;exact q
theorem qD{ys:List V}{ds es:List Da}(I:qr X pins σ H s)(hu:A.units<cLine)(sx:aE X.K H a xs)(sy:aE X.K H b ys)(px:Paired (v8 X.K H n) xs ds)(py:Paired (v8 X.K H m) ys es)
 (ih:∀{x y:V} {d e:Da} {u v:Value},v8 X.K H n x d->v8 X.K H m y e->zc x u->zc y v->SeqAt.EqAt A.in1 s u v (Da.eq d e)):SeqAt.RcAt A s (.ref a) (.ref b) (Da.eqs ds es):=by
 obtain⟨us,vx,tx,_⟩:=I.list sx;obtain⟨vs,vy,ty,_⟩:=I.list sy;by_cases hz:us.toArray.size=vs.toArray.size
 ·have q:=SeqAt.RcAt.lists (zp tx) (zp ty) hz hu (eU px py vx vy ih);have hz':ds.length=es.length:=by rw[<-px.length,<-py.length,vx.length,vy.length];simpa using hz
  have e:=DE ds es;rw[hz',Nat.min_self] at e;rw[<-hz'] at e;rw[Al,<-vx.length,px.length] at q;simp only[beq_self_eq_true,De] at e;rw[e] at q;exact q
 ·have q:=SeqAt.RcAt.lists_lengths (zp tx) (zp ty) (by simpa using hz) hu;have hz':ds.length≠es.length:=by rw[<-px.length,<-py.length,vx.length,vy.length];intro z;exact hz (by simpa using z)
  have e:=DE ds es;have f:(ds.length==es.length)=false:=by simpa using hz'
  rw[f,Dd] at e;rw[<-e];exact q
theorem kA(I:qr X pins σ H s):∀(n:Nat) {m:Nat} {A:Around} {x y:V} {d e:Da} {u v:Value},A.units+n<cLine->v8 X.K H n x d->v8 X.K H m y e->zc x u->zc y v->SeqAt.EqAt A s u v (Da.eq d e):=by
 have flatRef:∀{A:Around} {x:V} {u:Value} {b:Addr} {ys:List V},A.units<cLine->aH x=true->zc x u->(f9 X.K H b ys\/aE X.K H b ys)->SeqAt.EqAt A s u (.ref b) false/\SeqAt.EqAt A s (.ref b) u false:=by
  intro A x u b ys hu f r h;have h':(∃its,s.heap.IsTuple b its)\/∃its,s.heap.IsList b its:=by
   rcases h with h | h
   ·obtain⟨its,_,t,_⟩:=I.tuple h;exact .inl ⟨_,t⟩
   ·obtain⟨its,_,t,_⟩:=I.list h;exact .inr ⟨_,zp t⟩
  cases x with
  |non=>cases r;rcases h' with⟨_,t⟩ | ⟨_,t⟩;exact⟨.none_tuple t hu,.tuple_none t hu⟩;exact⟨.none_list t hu,.list_none t hu⟩
  |bl k=>cases r;rcases h' with⟨_,t⟩ | ⟨_,t⟩;exact⟨.bool_tuple k t hu,.tuple_bool k t hu⟩;exact⟨.bool_list k t hu,.list_bool k t hu⟩
  |int k=>obtain⟨tk,rfl⟩:=r;rcases h' with⟨_,t⟩ | ⟨_,t⟩;exact⟨.int_tuple k tk t hu,.tuple_int k tk t hu⟩;exact⟨.int_list k tk t hu,.list_int k tk t hu⟩
  |str k=>obtain⟨tk,rfl⟩:=r;rcases h' with⟨_,t⟩ | ⟨_,t⟩;exact⟨.str_tuple k tk t hu,.tuple_str k tk t hu⟩;exact⟨.str_list k tk t hu,.list_str k tk t hu⟩
  |_=>simp[aH] at f
 intro n
 induction n with
 |zero=>
  intro m A x y d e u v hu h1 h2 rx ry;obtain⟨rfl,f⟩:=h1;cases m with
  |zero=>obtain⟨rfl,f'⟩:=h2;exact jD rx ry f f'
  |succ m=>
   rcases h2 with⟨rfl,f'⟩ | ⟨b,ys,es,rfl,rfl,sy,py⟩ | ⟨b,ys,es,rfl,rfl,sy,py⟩
   ·exact jD rx ry f f'
   ·cases ry;exact(flatRef (by lia) f rx (.inl sy)).1
   ·cases ry;exact(flatRef (by lia) f rx (.inr sy)).1
 |succ n ih=>
  intro m A x y d e u v hu h1 h2 rx ry;have hin:A.in1.units+n<cLine:=by show A.units+1+n<cLine;lia
  rcases h1 with⟨rfl,f⟩ | ⟨a,xs,ds,rfl,rfl,sx,px⟩ | ⟨a,xs,ds,rfl,rfl,sx,px⟩
  ·cases m with
   |zero=>obtain⟨rfl,f'⟩:=h2;exact jD rx ry f f'
   |succ m=>
    rcases h2 with⟨rfl,f'⟩ | ⟨b,ys,es,rfl,rfl,sy,py⟩ | ⟨b,ys,es,rfl,rfl,sy,py⟩
    ·exact jD rx ry f f'
    ·cases ry;exact(flatRef (by lia) f rx (.inl sy)).1
    ·cases ry;exact(flatRef (by lia) f rx (.inr sy)).1
  ·cases rx;cases m with
   |zero=>obtain⟨rfl,f'⟩:=h2;exact(flatRef (by lia) f' ry (.inl sx)).2
   |succ m=>
    rcases h2 with⟨rfl,f'⟩ | ⟨b,ys,es,rfl,rfl,sy,py⟩ | ⟨b,ys,es,rfl,rfl,sy,py⟩
    ·exact(flatRef (by lia) f' ry (.inl sx)).2
    ·cases ry;by_cases hab:a=b
     ·subst hab;cases I.tuple_inj sx sy;have e:Da.eq (.tup ds) (.tup es)=true:=oJ I (n+1) (m:=m+1) (x:=.ref a) (.inr (.inl ⟨a,xs,ds,rfl,rfl,sx,px⟩)) (.inr (.inl ⟨a,xs,es,rfl,rfl,sy,py⟩));rw[e];exact .same _
     ·exact .of_refs hab (mF I (by lia) sx sy px py fun h1 h2 r1 r2=>ih hin h1 h2 r1 r2)
    ·cases ry;obtain⟨us,vx,tx,_⟩:=I.tuple sx;obtain⟨vs,vy,ty,_⟩:=I.list sy;exact .tuple_list tx (zp ty) (by lia)
  ·cases rx;cases m with
   |zero=>obtain⟨rfl,f'⟩:=h2;exact(flatRef (by lia) f' ry (.inr sx)).2
   |succ m=>
    rcases h2 with⟨rfl,f'⟩ | ⟨b,ys,es,rfl,rfl,sy,py⟩ | ⟨b,ys,es,rfl,rfl,sy,py⟩
    ·exact(flatRef (by lia) f' ry (.inr sx)).2
    ·cases ry;obtain⟨us,vx,tx,_⟩:=I.list sx;obtain⟨vs,vy,ty,_⟩:=I.tuple sy;exact .list_tuple (zp tx) ty (by lia)
    ·cases ry;by_cases hab:a=b
     ·subst hab;cases I.list_inj sx sy;have e:Da.eq (.lst ds) (.lst es)=true:=oJ I (n+1) (m:=m+1) (x:=.ref a) (.inr (.inr ⟨a,xs,ds,rfl,rfl,sx,px⟩)) (.inr (.inr ⟨a,xs,es,rfl,rfl,sy,py⟩));rw[e];exact .same _
     ·exact .of_refs hab (qD I (by lia) sx sy px py fun h1 h2 r1 r2=>ih hin h1 h2 r1 r2)
end
def uEq(K:Ac)(k:Nat):R2:=fun x y H Q=>match x,y with
 |.ref a,.ref b=>∃n m d e,n≤k/\v8 K H n (.ref a) d/\v8 K H m (.ref b) e/\Q (.bl (Da.eq d e)) H
 |x,y=>acq x y=true/\Q (.bl (decide (x=y))) H
theorem aip{k:Nat}(hu:X.A.units+k<cLine):ko X (compareOp .Eq) (uEq X.K k):=by
 intro pins s σ H x y v u Q I rx ry h;cases x with
 |ref a=>
  cases y with
  |ref b=>
   obtain⟨n,m,d,e,hn,h1,h2,q⟩:=h;cases rx;cases ry;have xu:∀{k:Bool},k=Da.eq d e->SeqAt.RcAt X.A s (.ref a) (.ref b) k->wpAny (model X.prog X.w) X.A (compareOp .Eq (.ref a) (.ref b)) (EP X pins σ Q) X.xe s:=fun {k} e' r=>
    r X.prog X.w X.xe (EP X pins σ Q) (by rw[e'];exact⟨.bl _,H,I,rfl,q⟩)
   cases n with
   |zero=>exact(zr h1.2).elim
   |succ n=>
    cases m with
    |zero=>exact(zr h2.2).elim
    |succ m=>
     have hin:X.A.in1.units+n<cLine:=by show X.A.units+1+n<cLine;lia
     rcases h1 with⟨_,f⟩ | ⟨a',xs,ds,e1,rfl,sx,px⟩ | ⟨a',xs,ds,e1,rfl,sx,px⟩
     ·exact(zr f).elim
     ·cases e1;rcases h2 with⟨_,f⟩ | ⟨b',ys,es,e2,rfl,sy,py⟩ | ⟨b',ys,es,e2,rfl,sy,py⟩
      ·exact(zr f).elim
      ·cases e2;exact xu rfl (mF I (by lia) sx sy px py fun h1 h2 r1 r2=>kA I n hin h1 h2 r1 r2)
      ·cases e2;obtain⟨us,vx,tx,_⟩:=I.tuple sx;obtain⟨vs,vy,ty,_⟩:=I.list sy;exact xu rfl (.tuple_list tx (zp ty) (by lia))
     ·cases e1;rcases h2 with⟨_,f⟩ | ⟨b',ys,es,e2,rfl,sy,py⟩ | ⟨b',ys,es,e2,rfl,sy,py⟩
      ·exact(zr f).elim
      ·cases e2;obtain⟨us,vx,tx,_⟩:=I.list sx;obtain⟨vs,vy,ty,_⟩:=I.tuple sy;exact xu rfl (.list_tuple (zp tx) ty (by lia))
      ·cases e2;exact xu rfl (qD I (by lia) sx sy px py fun h1 h2 r1 r2=>kA I n hin h1 h2 r1 r2)
  |_=>exact aee pins s σ H _ _ v u Q I rx ry h
 |_=>cases y<;>exact aee pins s σ H _ _ v u Q I rx ry h
end
theorem ak6{c:Addr}(hg:Gl X x)(hm:X.mg x=some (.ref c))(hd:Dl x:=by decide):PE X (.Name x pos) (tC (.ref c)):=abe hg hm (v:=.ref c) rfl hd
theorem akv{T:String}(hg:Gl X x)(hm:X.mg x=none)(hv:bootBuiltins x=some (.type T))(hn:x ≠ "__name__" := by decide)(hd:Dl x:=by decide):PE X (.Name x pos) (tC (.ty T)):=ab4 hg hm hv (v:=.ty T) rfl hn hd
structure Cal(P:Program)(w:World)(K:Ac)(mg:Str->Option Value)(base:Heap)(k:Nat)(x:Str)(ps:List Str)(sp:Sp):Prop where
 ex:∃f fd,wo P w K mg base CX0 k f fd ps sp/\ki K fd ps []/\PySem.W.keepIn K (.ref f)=true/\mg x=some (.ref f)
theorem ao5{k:Nat}(c:Cal X.prog X.w X.K X.mg X.base k x ps sp)(hr:v3 k X.A)(hg:Gl X x)(ha:PA X (e::es) t)(hdb:Dl x:=by decide)
 (he:Dj e es X:=by rfl) (hpl:Dk pos es X:=by rfl):PE X (.Call (.Name x p) (e::es) [] pos) (af2 sp [] E0 t):=by
 obtain⟨f,fd,F,b,kp,m⟩:=c.ex;exact adk F hr hg m kp b .nil zA ha hdb he hpl
theorem Cal.mono{P:Program}{w:World}{K:Ac}{k:Nat}(c:Cal P w K mg base j x ps sp)(h:j≤k):Cal P w K mg base k x ps sp:=by obtain⟨f,fd,F,b,kp,m⟩:=c.ex;exact⟨f,fd,F.mono h,b,kp,m⟩
end L2
variable {ds:List L2.Da}
namespace L2
open PySem PySem.Spec PyProof.Rows
def kD(env:Env):List (Str×NameKind)->List (Str×Addr)->List (Str×Addr)
 |[],cs=>cs
 |(n,k)::r,cs=>kD env r (if k==.free then(n,(env.cells.lookup n).getD 0)::cs else cs)
def dM(scope:Scope)(env:Env):List (Str×Addr):=kD env scope.names []
theorem ox{env:Env}:∀{names:List (Str×NameKind)} {cs:List (Str×Addr)} {p:Str×Addr},p∈kD env names cs->p∈cs\/((p.1,NameKind.free)∈names/\p.2=(env.cells.lookup p.1).getD 0)
 |[],_,_,h=>.inl h
 |(n,k)::r,cs,p,h=>by
  rcases ox (names:=r) h with q | ⟨q,e⟩
  ·by_cases hk:(k==NameKind.free)=true
   ·rw[AC hk] at q;rcases An.mp q with rfl | q
    ·have:k=.free:=by simpa using hk
     exact .inr ⟨by rw[this];exact Au,rfl⟩
    ·exact .inl q
   ·rw[AB hk] at q;exact .inl q
  ·exact .inr ⟨Ae _ q,e⟩
theorem qH{env:Env}{x:Str}:∀{names:List (Str×NameKind)} {cs:List (Str×Addr)},((∃c,(x,c)∈cs)\/(x,NameKind.free)∈names)->∃c,(x,c)∈kD env names cs
 |[],_,.inl h=>h
 |[],_,.inr h=>by simp at h
 |(n,k)::r,cs,h=>by
  refine qH (names:=r) ?_;rcases h with⟨c,h⟩ | h
  ·left;by_cases hk:(k==NameKind.free)=true
   ·rw[AC hk];exact⟨c,Ae _ h⟩
   ·rw[AB hk];exact⟨c,h⟩
  ·rcases An.mp h with e | h
   ·left;injection e with e1 e2
    subst e1;subst e2;exact⟨_,Au⟩
   ·exact .inr h
theorem dX{x:Str}:∀{l:List (Str×Addr)} {c:Addr},(x,c)∈l->∃c',l.lookup x=some c'
 |(n,d)::r,c,h=>by
  rw[Bi];cases hx:x==n with
  |true=>exact⟨d,rfl⟩
  |false=>
   rcases An.mp h with e | h
   ·injection e with e1 _;subst e1;simp at hx
   ·exact dX h
theorem iL(h:∀n,(n,NameKind.free)∈scope.names->∃c,env.cells.lookup n=some c):closureFor scope env=pure (dM scope env):=by
 unfold closureFor dM;have key:∀(names:List (Str×NameKind)) (cs:List (Str×Addr)),(∀n,(n,NameKind.free)∈names->∃c,env.cells.lookup n=some c)->
  (forIn names cs fun x (r:List (Str×Addr))=>(match x with | (name,kind)=>if kind==NameKind.free then do let a <-cellOf env name;pure (ForInStep.yield ((name,a)::r)) else pure (ForInStep.yield r):Sem (ForInStep (List (Str×Addr)))))=pure (kD env names cs):=by
  intro names
  induction names with
  |nil=>intro cs _;rfl
  |cons p r ih=>
   intro cs hf;obtain⟨n,k⟩:=p;rw[List.forIn_cons];cases hk:k==NameKind.free with
   |true=>
    have hk':k=.free:=by simpa using hk
    subst hk';obtain⟨c,hc⟩:=hf n Au;have e:cellOf env n=pure c:=by unfold cellOf;rw[hc]
    simp only[beq_self_eq_true,if_true,e];have e2:kD env ((n,NameKind.free)::r) cs=kD env r ((n,c)::cs):=by show kD env r _=_;rw[hc];rfl
    rw[e2];exact ih ((n,c)::cs) fun m hm=>hf m (Ae _ hm)
   |false=>
    simp only[hk,BP,if_false];have e2:kD env ((n,k)::r) cs=kD env r cs:=by show kD env r (if (k==NameKind.free)=true then _ else _)=_;rw[hk];rfl
    rw[e2];exact ih cs fun m hm=>hf m (Ae _ hm)
 exact(Bs (· >>= pure) (key scope.names [] h))
theorem kq{env:Env}{x:Str}:∀{names:List (Str×NameKind)},
 (names.map fun(n,k)=>if (k==NameKind.free&&env.scope.kind==.function&&env.kindOf n==some .cell) then(n,NameKind.cell) else(n,k)).lookup x
  = (names.lookup x).map fun k=>if (k==NameKind.free&&env.scope.kind==.function&&env.kindOf x==some .cell) then NameKind.cell else k
 |[]=>rfl
 |(n,k)::r=>by
  have ih:=@kq env x r;show List.lookup x ((if (k==NameKind.free&&env.scope.kind==.function&&env.kindOf n==some .cell)=true then(n,NameKind.cell) else(n,k))::_)=_;cases hx:x==n with
  |true=>
   have hx':x=n:=by simpa using hx
   subst hx';by_cases hc:(k==NameKind.free&&env.scope.kind==.function&&env.kindOf x==some .cell)=true
   ·rw[AC hc];simp only[Bi,beq_self_eq_true,Option.map_some];rw[AC hc]
   ·rw[AB hc];simp only[Bi,beq_self_eq_true,Option.map_some];rw[AB hc]
  |false=>
   by_cases hc:(k==NameKind.free&&env.scope.kind==.function&&env.kindOf n==some .cell)=true
   ·rw[AC hc];simp only[Bi,hx];exact ih
   ·rw[AB hc];simp only[Bi,hx];exact ih
def Cx.comp(X:Cx)(scope:Scope)(T:List Str)(C:Addr)(fp:List Addr)(s₀:Shared)(H₀:Hp):Cx:=
 { X with N:=X.N++T,s₀:=s₀,H₀:=H₀,env:=compEnvC scope (dM scope X.env) C X.env,outer:=X.stack,ex:=fp,fn:=fun _=>false,xe:=fun _ _=>False }
structure j3(X:Cx)(scope:Scope):Prop where
 kind:scope.kind=.function
 nocell:∀y∈scope.names,y.2≠.cell
 names:∀y∈scope.names,y.2=.local->scope.names.lookup y.1=some .local
 free:∀n,scope.names.lookup n=some .free->X.env.kindOf n=some .cell\/X.env.kindOf n=some .free
 freeM:∀n,(n,NameKind.free)∈scope.names->X.env.kindOf n=some .cell\/X.env.kindOf n=some .free
 apart:∀x∈X.N,scope.names.lookup x≠some .local
section
theorem j3.clo(S:j3 X scope)(I:qr X pins σ H s):closureFor scope X.env=pure (dM scope X.env):=
 iL fun n h=>I.ok.has n (S.freeM n h)
theorem j3.cl_old(S:j3 X scope)(I:qr X pins σ H s){c:Addr}(h:(dM scope X.env).lookup x=some c):X.env.cells.lookup x=some c:=by
 rcases ox (Bk h) with q | ⟨q,e⟩
 ·simp at q
 ·obtain⟨d,hd⟩:=I.ok.has x (S.freeM x q);have e':c=(X.env.cells.lookup x).getD 0:=e;rw[hd] at e' ⊢;rw[e'];rfl
theorem j3.cl_has(_:j3 X scope)(h:scope.names.lookup x=some .free):∃c,(dM scope X.env).lookup x=some c:=by obtain⟨c,hc⟩:=qH (env:=X.env) (names:=scope.names) (cs:=[]) (x:=x) (.inr (Bk h));exact dX hc
theorem j3.kindOf(S:j3 X scope)(h:(compEnvC scope (dM scope X.env) C X.env).kindOf x=some .cell\/(compEnvC scope (dM scope X.env) C X.env).kindOf x=some .free):scope.names.lookup x=some .free:=by
 have e:(compEnvC scope (dM scope X.env) C X.env).kindOf x=(scope.names.lookup x).map fun k=>if (k==NameKind.free&&X.env.scope.kind==.function&&X.env.kindOf x==some .cell) then NameKind.cell else k:=kq
 rw[e] at h;cases hl:scope.names.lookup x with
 |none=>rw[hl] at h;rcases h with h | h<;>cases h
 |some k=>
  rw[hl] at h;cases k with|free=>rfl|cell=>exact absurd rfl (S.nocell _ (Bk hl))|_=>rcases h with h | h<;>cases h
theorem j3.vis(S:j3 X scope)(hx:x∈X.N)(h:Vis (compEnvC scope (dM scope X.env) C X.env).scope x):scope.names.lookup x=some .free:=by
 rcases h with h | h | h
 ·exfalso;have e:(compEnvC scope (dM scope X.env) C X.env).kindOf x=(scope.names.lookup x).map fun k=>if (k==NameKind.free&&X.env.scope.kind==.function&&X.env.kindOf x==some .cell) then NameKind.cell else k:=kq
  have h':(compEnvC scope (dM scope X.env) C X.env).kindOf x=some .local:=h;rw[e] at h';cases hl:scope.names.lookup x with
  |none=>rw[hl] at h';cases h'
  |some k=>
   rw[hl] at h';have h':(if (k==NameKind.free&&X.env.scope.kind==.function&&X.env.kindOf x==some .cell)=true then NameKind.cell else k)=.local:=AQ h';split at h'
   ·cases h'
   ·subst h';exact S.apart x hx hl
 ·exact S.kindOf (C:=C) (.inl h)
 ·exact S.kindOf (C:=C) (.inr h)
theorem j3.back(S:j3 X scope)(h:scope.names.lookup x=some .free):(compEnvC scope (dM scope X.env) C X.env).kindOf x=some .cell\/(compEnvC scope (dM scope X.env) C X.env).kindOf x=some .free:=by
 have e:(compEnvC scope (dM scope X.env) C X.env).kindOf x=(scope.names.lookup x).map fun k=>if (k==NameKind.free&&X.env.scope.kind==.function&&X.env.kindOf x==some .cell) then NameKind.cell else k:=kq
 rw[e,h];show some (if _ then _ else _)=_\/some (if _ then _ else _)=_;split
 ·exact .inl rfl
 ·exact .inr rfl
end
def PF(X:Cx)(ifs:List Expr)(t:TT):Prop:=
 ∀(pins:List (Addr×Obj)) (s:Shared) (σ:St) (H:Hp) (Q:Bool->Hp->Prop),qr X pins σ H s->t σ H Q->
  wpAny (model X.prog X.w) X.A (forIn ifs true fun c r=>if r=true then do let ok <-isTrue c X.env (eval c X.env);pure (ForInStep.yield ok) else pure (ForInStep.yield r)) (TP X pins σ Q) X.xe s
def amo:TT:=fun _ H Q=>Q true H
theorem agk :PF X [] amo:=fun _ _ _ H _ I h=>Ax ⟨H,I,h⟩
theorem aie{t:TT}(hc:PT X c t):PF X [c] t:=by intro pins s σ H Q I h;rw[List.forIn_cons];simp only[if_true];refine Ad (Ad (x8 (hc pins s σ H Q I h) fun b s1 q=>Ax ?_));exact Ax q
theorem dU{w:World}{R:Result->Shared->Prop}{it acc:Value}(I:Nat->Shared->Prop)
 (turn:∀n s,I n s->wpAny (model prog w) A (pyNext it) (fun r s₁=>match r with
  |none=>R (.ok .next) s₁
  |some v=>wpAny (model prog w) A (letOwnedTupleGo target it v) (fun _ s₁=>wpAny (model prog w) A (assign target env v) (fun _ s₂=>
   wpAny (model prog w) A (forIn ifs true fun c r=>if r=true then do let ok <-isTrue c env (eval c env);pure (ForInStep.yield ok) else pure (ForInStep.yield r)) (fun ok s₃=>
    if ok=true then wpAny (model prog w) A (eval elt env) (fun x s₄=>
     wpAny (model prog w) A (call (.builtin "list.append") [acc,x]) (fun _ s₅=>∃m,m<n/\I m s₅) (fun _ _=>False) s₄) (fun _ _=>False) s₃
    else ∃m,m<n/\I m s₃) (fun _ _=>False) s₂) (fun _ _=>False) s₁) (fun _ _=>False) s₁) (fun _ _=>False) s)
 (n:Nat) (h:I n s):
 codeAny (model prog w) A (.compLoop (.ListComp elt [⟨target,iter,ifs,0⟩] scope pos) 0 it acc env) R s:=by
 refine codeAny_loop rfl I (fun n s hI=>?_) n h;show wpAny _ A ((compTurn (.ListComp elt [⟨target,iter,ifs,0⟩] scope pos) 0 it acc env).onRaise (fun x=>do noteFrame x env;theTreesLotGoes x)) _ _ s;refine wpAny_noted ?_;rw[compTurn_list];refine Ad (wpAny_standAt (Ad (AW (turn n s hI) (fun r s₁ h₁=>?_) fun _ _ h'=>h'.elim)));cases r with
 |none=>exact Ax h₁
 |some v=>
  refine Ad (AW h₁ (fun _ s₁ h₁=>?_) fun _ _ h'=>h'.elim);refine Ad (AW h₁ (fun _ s₂ h₂=>Ad (AW h₂ (fun ok s₃ h₃=>?_) fun _ _ h'=>h'.elim)) fun _ _ h'=>h'.elim);cases ok with
  |false=>exact Ax ⟨rfl,h₃⟩
  |true=>
   exact Ad (Ad (AW h₃ (fun x s₄ h₄=>Ad (AW h₄ (fun _ s₅ h₅=>Ax (Ax ⟨rfl,h₅⟩)) fun _ _ h'=>h'.elim)) fun _ _ h'=>h'.elim))
def tLC(n:Nat)(wi:TI)(g:TG)(tc:TT)(te:TE):TE:=fun σ H Q=>wi σ H fun J H1=>∃W:Nat->Nat->List V->Hp->Prop,(∃m,W 0 m [] H1)/\∀i m ys H,W i m ys H->
 (J.stop i H/\ys.length≤sizeLine/\∀D,H D=none->Q (.ref D) (upd H D (.lst ys)))\/
 (J.go i H/\ys.length<sizeLine/\∀x H',J.yld i H x H'->g x (σ++List.replicate n none) H' fun σ2 H2=>tc σ2 H2 fun b H3=>
  if b=true then te σ2 H3 fun y H4=>∃m',m'<m/\W (i+1) m' (ys++[y]) H4 else ∃m',m'<m/\W (i+1) m' ys H3)
def mU(g:TG)(n k:Nat):Prop:=∀(σ:St),σ.length=n->∀x H Q,g x (σ++List.replicate k none) H Q->
 g x (σ++List.replicate k none) H fun σ2 H2=>((σ2.length=n+k/\∀(i:Nat) v,(σ++List.replicate k none)[i]?=some (some v)->σ2[i]?=some (some v))/\Q σ2 H2)
section
variable {T:List Str}{g:TG}{tc:TT}{te:TE}
theorem ltN{o:Obj}(e:h.get? b=some o):@LT.lt Nat instLTNat b h.objs.size:=Heap.lt_size e
theorem wK(h:@Ne Nat a b):a≠b:=h
theorem leN(h:@LE.le Nat instLENat a b):a≤b:=h
theorem aa9(its:List Value)(n:Nat)(u:Value):∃n',Obj.mapSeq (·.push u) { cls:=.type "list",data:=.seq its.toArray n }=({ cls:=.type "list",data:=.seq (its++[u]).toArray n' }:Obj):=
 ⟨_,by simp[Obj.mapSeq];rfl⟩
theorem sD{w:World}{D:Addr}(hD:s.heap.get? D=some { cls:=.type "list",data:=.seq its.toArray n })
 (hz:its.length≤sizeLine) (h:∀h' n',Heap.SameBut D s.heap h'->h'.get? D=some { cls:=.type "list",data:=.seq (its++[u]).toArray n' }->Q .none { s with heap:=h' }):
 wpAny (model prog w) A (call (.builtin "list.append") [.ref D,u]) Q E s:=by
 have hl:s.heap.IsList D its.toArray:=⟨_,hD,rfl,n,rfl⟩;refine wpAny_call_entry slot_list_append hl.typeIs entry_list_append ?_ (args_list_append _ _);show wpAny _ _ (updateSeq D (·.push u) >>= fun _=>ret .none) _ _ s;refine Ad ?_;obtain⟨n',e'⟩:=aa9 its n u;refine wpAny_updateSeq (f:=(·.push u)) hD rfl (Ax ⟨.none,rfl,h _ n' (Heap.SameBut.update ..) ?_⟩) (by rw[Al];exact hz) (by rw[Array.size_push,Al];exact Nat.succ_le_succ hz);rw[<-e'];exact Heap.get?_update_self _ hD (by rw[e'];rfl)
theorem kP{Q:VK}{itv:Value}{s₂:Shared}{RR:Value->Addr->Result->Shared->Prop}
 (S:j3 X scope) (hc:X.calm=true)
 (hg:∀C fp s₀ H₀,PG (X.comp scope T C fp s₀ H₀) target g) (hgo:mU g X.N.length T.length) (hf:∀C fp s₀ H₀,PF (X.comp scope T C fp s₀ H₀) ifs tc) (he:∀C fp s₀ H₀,PE (X.comp scope T C fp s₀ H₀) elt te)
 (h:PIE X pins σ target (fun J H1=>∃W:Nat->Nat->List V->Hp->Prop,(∃m,W 0 m [] H1)/\∀i m ys H,W i m ys H->
  (J.stop i H/\ys.length≤sizeLine/\∀D,H D=none->Q (.ref D) (upd H D (.lst ys)))\/
  (J.go i H/\ys.length<sizeLine/\∀x H',J.yld i H x H'->g x (σ++List.replicate T.length none) H' fun σ2 H2=>tc σ2 H2 fun b H3=>
   if b=true then te σ2 H3 fun y H4=>∃m',m'<m/\W (i+1) m' (ys++[y]) H4 else ∃m',m'<m/\W (i+1) m' ys H3)) itv s₂)
 (hRR:∀D C s' H' m',qr X pins σ H' s'->lV X pins H' C->s'.heap.Ns C m'->Q (.ref D) H'->RR (.ref D) C (.ok .next) s'):
 wpAny (model X.prog X.w) X.A (newList []) (fun acc s₃=>wpAny (model X.prog X.w) X.A (newFunctionEnv scope X.env.globals (dM scope X.env) [] X.env.qual none .none (some X.env)) (fun cenv s₄=>
  codeAny (model X.prog X.w) X.A (.compStart (.ListComp elt [⟨target,iter,ifs,0⟩] scope pos) 0 itv acc { cenv with scope:=relabel scope X.env }) (RR acc cenv.locals) s₄) E s₃) E s₂:=by
 obtain⟨it,fp,tn,J,H2,rfl,I2,Tn,st2,f2,W,⟨m0,w0⟩,turn⟩:=h;refine wpAny_newObj_type (wpAny_newFunctionEnv S.nocell (by intro y hy;simp at hy) (fun h₁ hns₁ hsb₁=>?_) S.kind);dsimp only at hns₁ hsb₁ ⊢;generalize hH2:s₂.heap.push { cls:=.type "list",dict:=none,data:=.seq ([]:List Value).toArray }=G at hns₁ hsb₁ ⊢;have hC:G.objs.size=s₂.heap.objs.size+1:=by rw[<-hH2,Heap.size_push]
 obtain⟨D,eD⟩:∃D,s₂.heap.objs.size=D:=⟨_,rfl⟩;obtain⟨C,eC⟩:∃C,G.objs.size=C:=⟨_,rfl⟩;rw[eD] at hC ⊢;rw[eC] at hC hns₁ hsb₁ ⊢;have hDC:D≠C:=by lia
 have old:∀b o,s₂.heap.get? b=some o->h₁.get? b=some o:=fun b o e=>by have hb:=ltN e;exact hsb₁.extBut b o (wK (by lia)) (Heap.get?_push_of_some _ (hH2▸Heap.get?_push_of_some _ e))
 have hacc:h₁.get? D=some { cls:=.type "list",data:=.seq ([]:List Value).toArray 0 }:=by refine hsb₁.extBut _ _ hDC (Heap.get?_push_of_some _ ?_);rw[<-hH2,<-eD];exact Heap.get?_push_size _ rfl
 have fpo:∀b∈fp,@LT.lt Nat instLTNat b s₂.heap.objs.size:=fun b hb=>by obtain⟨o,e,_⟩:=Tn.obj _ _ st2 b hb;exact ltN e
 have ilt:@LT.lt Nat instLTNat X.env.locals s₂.heap.objs.size:=I2.lt;have isz:X.s₀.heap.objs.size≤s₂.heap.objs.size:=I2.sz;have HD:H2 D=none:=I2.hok.fresh (leN (by exact vU));have HC:H2 C=none:=I2.hok.fresh (leN (by lia));have nfs:∀b:Addr,@LE.le Nat instLENat s₂.heap.objs.size b->b∉dP X.stack:=fun b hb z=>by
  have q:=I2.stkSub b z;rcases An.mp q with q | q
  ·rw[<-q] at ilt;exact absurd ilt (Nat.not_lt.mpr hb)
  ·exact I2.nofs hb q
 have cellLt:∀x c,X.env.cells.lookup x=some c->@LT.lt Nat instLTNat c s₂.heap.objs.size:=fun x c e=>by obtain⟨v,q⟩:=I2.cell x c e;exact q.lt
 let X':Cx:=X.comp scope T C fp s₂ H2
 have ok':X'.Ok:={
  mod:=I2.ok.mod,kind:=S.kind,glob:=I2.ok.glob,blt:=I2.ok.blt
  above:=leN (by show @LE.le Nat instLENat s₂.heap.objs.size C;lia)
  inj:=fun x y c h1 h2=>I2.ok.inj x y c (S.cl_old I2 h1) (S.cl_old I2 h2)
  has:=fun x hx=>S.cl_has (S.kindOf hx)
  cab:=fun x c hx=>absurd (show false=true from hx) (by simp)
  hd:=I2.ok.hd,frames:=I2.ok.frames,stk:=.inl rfl
  exf:=fun b hb=>⟨wK (by have:=fpo b hb;show @Ne Nat b C;lia),fun x c e=>(f2 b hb).2.2.2.2.1 x c (S.cl_old I2 e)⟩
  bs:=I2.bs,bsz:=AM I2.ok.bsz I2.sz
  noex:=fun b o e hb=>by
   obtain⟨e0,n0⟩:=I2.ok.bs b o e;rcases (f2 b hb).2.2.2.1 with q | q
   ·exact I2.ok.noex b o e q
   ·have q':@LE.le Nat instLENat X.s₀.heap.objs.size b:=q;have:=ltN e0;lia
  exfs:=fun b hb z=>by
   rcases An.mp (I2.stkSub b z) with q | q
   ·exact(f2 b hb).2.1 q
   ·exact(f2 b hb).2.2.1 q
  funs:=I2.stack,frf:=I2.stkFree }
 have I4:∀tk,0<tk->qr X' pins (σ++List.replicate T.length none) H2 { s₂ with heap:=h₁,toks:=tk }:=fun tk htk=>{
  tk:=htk,ok:=ok',os:=rfl,bare:=I2.bare,base:=Un.kept old
  loc:=⟨_,hns₁,fun i x v e1 e2 e3=>by
   have hi:i<σ.length:=by
    by_cases hi:i<σ.length
    ·exact hi
    ·rw[Aq (by exact aa7),BL] at e2;split at e2<;>cases e2
   rw[AK hi] at e2;have hi':i<X.N.length:=by rw[<-I2.len];exact hi
   have e1':X.N[i]?=some x:=by have:(X.N++T)[i]?=some x:=e1;rw[AK hi'] at this;exact this
   have hfr:=S.vis (Ay e1') e3;obtain⟨m,hn,hl⟩:=I2.loc;have hk:=S.free x hfr;obtain⟨u,r,l⟩:=hl i x v e1' e2 (.inr hk);refine⟨u,r,.inr ⟨S.back hfr,?_⟩⟩;rcases l with⟨l,_⟩ | ⟨_,c,e,z⟩
   ·rw[l] at hk;rcases hk with q | q<;>cases q
   ·obtain⟨c',e'⟩:=S.cl_has hfr;have e'':=S.cl_old I2 e';rw[e] at e'';cases e'';exact⟨c,e',z.keeps old⟩⟩
  cell:=fun x c e=>by obtain⟨v,z⟩:=I2.cell x c (S.cl_old I2 e);exact⟨v,z.keeps old⟩
  free:=HC,freeC:=fun x c e=>I2.freeC x c (S.cl_old I2 e)
  pin:=fun p hp=>by
   obtain⟨a,b,c,d,e⟩:=I2.pin p hp;have hlt:=ltN a;refine⟨old _ _ a,b,wK (by show @Ne Nat p.1 C;lia),fun z=>?_,e⟩;rcases An.mp (I2.stkSub _ z) with q | q
   ·exact c q
   ·exact d q
  hok:=I2.hok.kept old
  len:=by show(σ++_).length=(X.N++T).length;rw[Aa,Aa,BW,I2.len] }
 have fpk:∀(pins':List (Addr×Obj)) (H':Hp),(∀p∈pins',p∈pins\/p.1=D)->(∀b∈fp,H' b=none)->∀b∈fp,lV X' pins' H' b:=fun pins' H' hp hn b hb=>by
  obtain⟨_,q1,q2,q3,q4,q5⟩:=f2 b hb;have hlt:=fpo b hb;refine⟨hn b hb,wK (by show @Ne Nat b C;lia),ok'.exfs b hb,.inl hb,(ok'.exf b hb).2,fun p hpp=>?_⟩;rcases Ah.mp hpp with z | z
  ·exact q5 p (Ao _ z)
  ·rcases hp p z with z | z
   ·exact q5 p (Ag _ z)
   ·rw[z];exact wK (by lia)
 have stay:Tn.keep=Tn.keep:=rfl;have loop:∀s₃:Shared,s₃={ s₂ with heap:=h₁,toks:=s₂.toks+([]:List (Str×Value)).length }->
  codeAny (model X.prog X.w) X.A (.compLoop (.ListComp elt [⟨target,iter,ifs,0⟩] scope pos) 0 (.ref it) (.ref D) X'.env) (RR (.ref D) C) s₃:=by
  rintro s₃ rfl;refine dU (fun n s'=>∃i σ' H' ys its k,qr X' pins σ' H' s'/\(σ'.length=X.N.length+T.length/\∀(i:Nat) v,(σ++List.replicate T.length none)[i]?=some (some v)->σ'[i]?=some (some v))/\
   s'.heap.get? D=some { cls:=.type "list",data:=.seq (its:List Value).toArray k }/\zh ys its/\H' D=none/\tn i s'.heap/\(∀b∈fp,H' b=none)/\W i n ys H') ?_ m0
   ⟨0,_,H2,[],[],0,I4 _ I2.tk,⟨by rw[Aa,BW,I2.len],fun _ _ e=>e⟩,hacc,.nil,HD,Tn.keep _ _ _ st2 fun b _ o e=>old b o e,fun b hb=>(f2 b hb).1,w0⟩
  rintro n s3 ⟨i,σ3,H3,ys,its,k,I3,⟨hl3,hs3⟩,hD3,hv3,hH3,st3,fr3,w3⟩;have hlen:its.length=ys.length:=hv3.length.symm;have D_fs:D∉X'.fs:=nfs D (by exact vU);have DC':D≠X'.env.locals:=hDC;have I3p:qr X' (pins++[(D,{ cls:=.type "list",data:=.seq its.toArray k })]) (σ++List.replicate T.length none) H3 s3:=
   (I3.weak (by rw[hl3,Aa,BW,I2.len]) hs3).pins_of fun p hp=>by
    rcases Ah.mp hp with z | z
    ·exact I3.pin p (Ag _ z)
    ·have e:=Af.mp z;subst e;exact⟨hD3,hH3,DC',D_fs,fun v z=>by cases z⟩
  have pinsD:∀p∈pins++[(D,({ cls:=.type "list",data:=.seq its.toArray k }:Obj))],p∈pins\/p.1=D:=fun p hp=>by
   rcases Ah.mp hp with z | z
   ·exact .inl z
   ·exact .inr (by rw[Af.mp z])
  rcases turn i n ys H3 w3 with⟨stop,hz,qn⟩ | ⟨go,hz,step⟩
  ·refine x8 (Tn.done X' rfl rfl rfl hc i _ s3 _ H3 _ I3p (fpk _ H3 pinsD fr3) st3 stop) fun r s4 ⟨hr,I4'⟩=>?_;subst hr;obtain⟨hD4,hH4,_⟩:=I4'.pin (D,_) (Ag _ (Ag _ Au));obtain⟨m',hn',_⟩:=I4'.loc;have un:Un (dP X.stack) fp H2 (upd H3 D (.lst ys)) s₂.heap s4.heap:={
    keep:=I4'.base.keep,slot:=I4'.base.slot
    free:=fun b o e n hx=>by have:=ltN e;rw[z7 (wK (by lia))];exact I4'.base.free b o e n hx
    there:=I4'.base.there
    tups:=fun b xs e=>by rw[z7 (fun z=>by rw[z,HD] at e;cases e)];exact I4'.base.tups b xs e
    frzs:=fun b o u e=>by rw[z7 (fun z=>by rw[z,HD] at e;cases e)];exact I4'.base.frzs b o u e
    tbls:=fun b ps e=>by rw[z7 (fun z=>by rw[z,HD] at e;cases e)];exact I4'.base.tbls b ps e }
   have hok:bX X.prog X.w (upd H3 D (.lst ys)) s4.heap:=fun b u e=>by
    by_cases hb:b=D
    ·subst hb;rw[xg] at e;cases e;exact⟨hz,its,k,hv3,hD4⟩
    ·rw[z7 hb] at e;refine(I4'.hok b u e).stay (fun _ _ _ q=>q) (fun c q=>?_) fun c xs q=>?_
     ·rw[z7 (jb q hH3)];exact q
     ·rw[z7 (jb q hH3)];exact q
   have I5:qr X pins σ (upd H3 D (.lst ys)) s4:=I2.call' (ch:=fp) I4'.os un hok I4'.bare fun b hb=>⟨(f2 b hb).2.2.2.1,(f2 b hb).2.1,(f2 b hb).2.2.2.2.1,(f2 b hb).2.2.2.2.2⟩;refine hRR D C s4 _ m' I5 ?_ hn' (qn D hH3);refine⟨by rw[z7 (AR hDC)];exact I4'.free,?_,?_,.inr ?_,fun x c e=>?_,fun p hp=>?_⟩
   ·exact wK (by lia)
   ·exact I2.nofs (leN (by lia))
   ·exact leN (by lia)
   ·exact wK (by have:=cellLt x c e;lia)
   ·exact wK (by have:=ltN (I2.pin p hp).1;lia)
  ·refine x8 (Tn.item X' rfl rfl rfl hc i _ s3 _ H3 _ I3p (fpk _ H3 pinsD fr3) st3 go) fun r s4 ⟨u,hr,h4⟩=>?_;subst hr;refine x8 h4 fun _ s5 ⟨x,H5,I5,r5,y5,st5,fr5⟩=>?_;have I5':=I5.pinned (fpk _ H5 pinsD fr5) (Tn.obj _ _ st5);refine AW ((hg C fp s₂ H2) _ s5 _ H5 x u _ I5' r5 (hgo σ I2.len x H5 _ (step x H5 y5))) (fun _ s6 ⟨σ6,H6,I6,⟨hl6,hs6⟩,q6⟩=>?_) fun _ _ z=>z;refine AW ((hf C fp s₂ H2) _ s6 σ6 H6 _ I6 q6) (fun b s7 ⟨H7,I7,q7⟩=>?_) fun _ _ z=>z;have xu:∀{s8:Shared} {H8:Hp} (I8:qr X' ((pins++[(D,{ cls:=.type "list",data:=.seq its.toArray k })])++kC fp s5.heap) σ6 H8 s8),tn (i+1) s8.heap/\(∀b∈fp,H8 b=none)/\s8.heap.get? D=some { cls:=.type "list",data:=.seq its.toArray k }/\H8 D=none/\qr X' pins σ6 H8 s8:=fun {s8 H8} I8=>by
    refine⟨Tn.keep _ _ _ st5 fun b hb o e=>(I8.pin (b,o) (Ag _ (Ag _ (bD hb e)))).1,fun b hb=>?_,?_,?_,I8.unpinned.unpinned⟩
    ·obtain⟨o,e,d⟩:=Tn.obj _ _ st5 b hb;exact(I8.pin (b,o) (Ag _ (Ag _ (bD hb e)))).2.1
    ·exact(I8.pin (D,_) (Ag _ (Ao _ (Ag _ Au)))).1
    ·exact(I8.pin (D,_) (Ag _ (Ao _ (Ag _ Au)))).2.1
   cases b with
   |false=>
    rw[AB Ap] at q7 ⊢;obtain⟨m',hm,w7⟩:=q7;obtain⟨a1,a2,a3,a4,a5⟩:=xu I7;exact⟨m',hm,i+1,σ6,H7,ys,its,k,a5,⟨hl6,hs6⟩,a3,hv3,a4,a1,a2,w7⟩
   |true=>
    rw[AC rfl] at q7 ⊢;refine AW ((he C fp s₂ H2) _ s7 σ6 H7 _ I7 q7) (fun v s8 ⟨y,H8,I8,r8,m',hm,w8⟩=>?_) fun _ _ z=>z;obtain⟨a1,a2,a3,a4,a5⟩:=xu I8;refine sD a3 (by lia) fun h9 k9 hs9 hD9=>?_;have nD:∀b∈fp,b≠D:=fun b hb=>wK (by have:=fpo b hb;lia);refine⟨m',hm,i+1,σ6,H8,ys++[y],its++[v],k9,?_,⟨hl6,hs6⟩,hD9,hv3.append (.cons r8 .nil),a4,Tn.keep _ _ _ a1 fun b hb o e=>(hs9.2 b (nD b hb)).trans e,a2,w8⟩;exact a5.turned (t':=s8.toks) (it:=D) (fun b o hb e=>(hs9.2 b hb).trans e) a4 DC' (.inr (leN (by show @LE.le Nat instLENat s₂.heap.objs.size D;exact vU))) (fun x c e=>wK (by have:=cellLt x c (S.cl_old I2 e);lia)) fun p hp=>wK (by have:=ltN (I2.pin p hp).1;lia)
 exact codeAny_compStart_list (loop _ rfl) (Tn.self _ _ _ _ _ (Tn.keep _ _ _ st2 fun b _ o e=>old b o e) (loop _ rfl))
end
section
variable {T:List Str}{g:TG}{tc:TT}{te:TE}
theorem ajx(T:List Str)(S:j3 X scope)(hc:X.calm=true)(hi:PI X target iter wi)(hg:∀C fp s₀ H₀,PG (X.comp scope T C fp s₀ H₀) target g)(hgo:mU g X.N.length T.length)
 (hf:∀C fp s₀ H₀,PF (X.comp scope T C fp s₀ H₀) ifs tc) (he:∀C fp s₀ H₀,PE (X.comp scope T C fp s₀ H₀) elt te)
 (hs:∀x,foldedSetIterable iter X.env x=pure x:=by intro _;rfl):PE X (.ListComp elt [⟨target,iter,ifs,0⟩] scope pos) (tLC T.length wi g tc te):=by
 intro pins s σ H Q I h;rw[eval_ListComp];refine wpAny_comprehension_free (use:=none) rfl hs (S.clo I) S.kind S.names (x8 (hi pins s σ H _ I h) fun v s1 h1=>x8 h1 fun itv s2 h2=>?_);refine kP (RR:=fun acc C=>compPost (model X.prog X.w) X.A X.xe none (EP X pins σ Q) acc C) S hc hg hgo hf he h2 ?_;intro D C s' H' m' I' f' hn q;exact⟨m',hn,fun h' hs'=>⟨.ref D,H',I'.turned (t':=s'.toks) (it:=C) (fun b o hb e=>(hs'.2 b hb).trans e) f'.1 (AR (AR f'.2.1)) f'.2.2.2.1 f'.2.2.2.2.1 f'.2.2.2.2.2,rfl,q⟩⟩
theorem yq(T:List Str){lp:Pos}(hN:X.N.Nodup)(hix:X.N[i]?=some x)(hx:um X.env.scope x)(S:j3 X scope)(hc:X.calm=true)(hi:PI X target iter wi)
 (hg:∀C fp s₀ H₀,PG (X.comp scope T C fp s₀ H₀) target g) (hgo:mU g X.N.length T.length)
 (hf:∀C fp s₀ H₀,PF (X.comp scope T C fp s₀ H₀) ifs tc) (he:∀C fp s₀ H₀,PE (X.comp scope T C fp s₀ H₀) elt te)
 (hsw:swapsWith (.ListComp elt [⟨target,iter,ifs,0⟩] scope lp) (some (.Name x px)) pos.line X.env=pure true:=by rfl)
 (hfn:X.fn x=true\/X.env.scope.names.lookup x=some .local:=by first | exact .inl rfl | exact .inr rfl | assumption)
 (hs:∀x,foldedSetIterable iter X.env x=pure x:=by intro _;rfl):PS X (.Assign [.Name x px] (.ListComp elt [⟨target,iter,ifs,0⟩] scope lp) pos) (afh (tLC T.length wi g tc te) (cU i)):=by
 intro pins s σ H D I h;rw[exec_Assign_Name_used _ _ _ _ hsw];refine Ad (wpAny_standAt (Ad ?_));show wpAny _ X.A (do let _ <-comprehension (.ListComp elt [⟨target,iter,ifs,0⟩] scope lp) scope X.env _ (newList []) false (eval iter X.env) (some (assign (.Name x px) X.env))) _ _ s;refine Ad (AW (wpAny_comprehension_free (use:=some (assign (.Name x px) X.env)) (Q:=fun _ s'=>SP X pins D .next s') rfl hs (S.clo I) S.kind S.names
  (x8 (hi pins s σ H _ I h) fun v s1 h1=>x8 h1 fun itv s2 h2=>?_)) (fun _ s' hq=>Ax (Ax hq)) fun _ _ e=>e)
 refine kP (RR:=fun acc C=>compPost (model X.prog X.w) X.A X.xe (some (assign (.Name x px) X.env)) (fun _ s'=>SP X pins D .next s') acc C) (pins:=pins) (σ:=σ) (Q:=fun x H1=>cU i x σ H1 D.nx) S hc hg hgo hf he h2 ?_;intro A C s' H' m' I' f' hn q;show wpAny _ X.A (assign (.Name x px) X.env (.ref A)) _ _ s';refine wpAny_assign_Name (l9 I' hN hix hx (v:=.ref A) rfl (fun s'' I'' ⟨a,hs,ha⟩ _=>?_) hfn);have hCa:C≠a:=by
  rcases ha with z | z
  ·rw[z];exact f'.2.1
  ·exact fun e=>f'.2.2.2.2.1 x a z e.symm
 exact⟨m',hn.sameBut hs hCa,fun h' hs'=>⟨_,H',I''.turned (t':=s''.toks) (it:=C) (fun b o hb e=>(hs'.2 b hb).trans e) f'.1 f'.2.1 f'.2.2.2.1 f'.2.2.2.2.1 f'.2.2.2.2.2,q⟩⟩
end
def xt(outer:Scope)(N:List Str)(sc:Scope):Bool:=
 decide (sc.kind=.function)&&sc.names.all (fun p=>decide (p.2≠.cell)&&(decide (p.2≠.local)||decide (sc.names.lookup p.1=some .local))&&(decide (p.2≠.free)||(decide (outer.names.lookup p.1=some .cell)||decide (outer.names.lookup p.1=some .free))))
  && N.all (fun x=>decide (sc.names.lookup x≠some .local))
theorem xt.mk{sc:Scope}(h:xt X.env.scope X.N sc=true):j3 X sc:=by
 unfold xt at h;rw[A2,A2,B1,B1] at h;obtain⟨⟨h1,h2⟩,h3⟩:=h;have fm:∀n,(n,NameKind.free)∈sc.names->X.env.kindOf n=some .cell\/X.env.kindOf n=some .free:=fun n hn=>by
  have q:=h2 _ hn;simp only[A2,C7,decide_eq_true_eq] at q;rcases q.2 with z | z
  ·exact absurd rfl z
  ·exact z
 refine⟨of_decide_eq_true h1,fun y hy=>?_,fun y hy e=>?_,fun n hn=>fm n (Bk hn),fm,fun x hx=>of_decide_eq_true (h3 x hx)⟩
 ·have q:=h2 _ hy;simp only[A2,C7,decide_eq_true_eq] at q;exact q.1.1
 ·have q:=h2 _ hy;simp only[A2,C7,decide_eq_true_eq] at q;rcases q.1.2 with z | z
  ·exact absurd e z
  ·exact z
abbrev DH:=@xt.mk
theorem rN(n:Nat):mU (cU n) n 1:=by
 intro σ hl x H Q h;refine⟨⟨by simp[hl],fun i v e=>?_⟩,h⟩;by_cases hi:i=n
 ·subst hi;rw[Aq (by exact vU)] at e;simp[hl] at e
 ·rw[A9 (AR hi)];exact e
theorem lM:bootBuiltins "isinstance" = some (.builtin "isinstance"):=by decide +kernel
theorem kY:bootBuiltins "tuple" = some (.type "tuple"):=by decide +kernel
theorem aic:bootBuiltins "int" = some (.type "int"):=by decide +kernel
theorem iT:bootBuiltins "list" = some (.type "list"):=by decide +kernel
theorem yt:bootBuiltins "len" = some (.builtin "len"):=by decide +kernel
theorem huK{k:Nat}(hr:v3 k A):A.units+128<cLine:=by have:=hr.un;lia
theorem aj(h:n≤1000):n≤sizeLine:=Bx (wb h)
theorem Cal.of{P:Program}{w:World}{K:Ac}{k:Nat}(F:wo P w K mg base CX0 k f fd ps sp)(b:ki K fd ps [])(kp:PySem.W.keepIn K (.ref f)=true)(m:mg x=some (.ref f)):
 Cal P w K mg base k x ps sp:=⟨f,fd,F,b,kp,m⟩
theorem wo.never{P:Program}{w:World}{K:Ac}{k:Nat}(no:∀vs H Q E,¬sp vs H Q E):wo P w K mg base CX0 k f fd ps sp:=
 ⟨fun vs H Q E h=>absurd h (no vs H Q E),fun A outer s H args us vs Q E _ _ _ _ h=>absurd h (no vs H Q E)⟩
section
variable (K:Ac)(P:Program)(w:World)
end
structure qq(K:Ac)(x:Str)(st:Stmt):Prop where
 ex:∃(f:Addr) (kV doc pm:Value) (an:Option Addr) (cdv ct:Value),PySem.W.nsIn K mainGlobals x=some (some (.ref f))/\Fun K x x st f (PySem.W.fnOf x x (ja st) (zn st) (ql st) .none kV doc pm an cdv ct)
theorem def_in{K:Ac}{kV:Value}(a:PySem.W.nsIn K mainGlobals x=some (some (.ref f)))
 (l:K.lookup f=some ⟨oc,od,.func (PySem.W.fnOf x x (ja st) (zn st) (ql st) .none kV doc pm an cdv ct),osl⟩) (c:PySem.W.codeIn K cdv x=true) (k:PySem.W.keepIn K (.ref f)=true):qq K x st:=
 ⟨f,kV,doc,pm,an,cdv,ct,a,yA (st:=st) l c k⟩
theorem qq.use{K:Ac}(D:qq K x st)(X:K.In h)(G:h.Ns mainGlobals mg)
 (hb:∀(kV doc pm:Value) (an:Option Addr) (cdv ct:Value) (us:List Value),us.length=ps.length->bindArgs (PySem.W.fnOf x x (ja st) (zn st) (ql st) .none kV doc pm an cdv ct) ⟨us,[]⟩=pure (ps.zip us)):
 ∃f fd,Fun K x x st f fd/\ki K fd ps []/\mg x=some (.ref f):=by
 obtain⟨f,kV,doc,pm,an,cdv,ct,a,F⟩:=D.ex;exact⟨f,_,F,ki.all (hb kV doc pm an cdv ct),BV X G a⟩
def tz(w:World)(r:Str×Tok×Str×Tok):DictEntry:=⟨hashStr w r.1,.str r.1 r.2.1,.str r.2.2.1 r.2.2.2⟩
theorem ak3{K:Ac}{P:Program}{w:World}{c:Addr}{ep:Nat}(rows:List (Str×Tok×Str×Tok))(l:K.lookup c=some ⟨.type "dict",none,.dict (rows.map (tz w)).toArray ep,#[]⟩)(hs:(c==sysModules)=false)(hz:rows.length≤1000)(nd:(rows.map fun r=>(Sum.inr r.1:jf)).Nodup):
 KD K P w c (rows.map fun r=>(Sum.inr r.1,.str r.2.2.1)):=by
 refine⟨hs,by rw[Ab];exact aj hz,fun h X=>⟨rows.map fun r=>(Sum.inr r.1,.str r.2.2.1 r.2.2.2),?_,_,_,ep,X c _ l,⟨rfl,rfl,rfl⟩,rfl,?_,?_,?_⟩⟩
 ·unfold KV;clear l hz nd
  induction rows with|nil=>exact .nil|cons r t ih=>exact .cons ⟨rfl,_,rfl⟩ ih
 ·intro e he;have he':e∈rows.map (tz w):=by simpa using he
  obtain⟨r,_,rfl⟩:=Bh.mp he';exact⟨Sum.inr r.1,gK r.1 r.2.1,rfl⟩
 ·show Pairs _ (rows.map (tz w)).toArray.toList _;rw[List.toList_toArray];clear l hz nd
  induction rows with|nil=>exact .nil|cons r t ih=>exact .cons (gK r.1 r.2.1) rfl ih
 ·rw[Bm];exact nd
end L2
namespace Words
open PySem L2
inductive Wd where
 |leaf (t:Bool) (n:Str)
 |node (e:Bool) (l r:Wd)
def kL:Bool->Str
 |false => "plain"
 |true => "turned"
def kN:Bool->Str
 |false => "both"
 |true => "either"
def Wd.turn:Wd->Wd
 |.leaf t n=>.leaf (!t) n
 |.node e l r=>.node (!e) l.turn r.turn
def Wd.depth:Wd->Nat
 |.leaf _ _=>1
 |.node _ l r=>max l.depth r.depth+1
def Wd.leaves:Wd->Nat
 |.leaf _ _=>1
 |.node _ l r=>l.leaves+r.leaves
theorem Wd.leaves_pos:∀w:Wd,1≤w.leaves
 |.leaf _ _=>Am _
 |.node _ l r=>by have:=Wd.leaves_pos l;show 1≤l.leaves+r.leaves;exact akr
abbrev DK:=@Wd.leaves_pos
theorem Wd.depth_le:∀w:Wd,w.depth≤w.leaves
 |.leaf _ _=>Am _
 |.node _ l r=>by have:=Wd.depth_le l;have:=Wd.depth_le r;have:=DK l;have:=DK r;show max l.depth r.depth+1≤l.leaves+r.leaves;lia
def fA:Wd->Da
 |.leaf t n=>.tup [.s (.str (kL t)),.s (.str n)]
 |.node e l r=>.tup [.s (.str (kN e)),fA l,fA r]
theorem ir:∀w:Wd,Da.eq (fA w) (fA w)=true
 |.leaf t n=>by simp[fA,Da.eq,Da.eqs,iM]
 |.node e l r=>by simp[fA,Da.eq,Da.eqs,iM,ir l,ir r]
def cO(x:Str):Prop:=1≤x.length/\x.length≤8/\∀c∈x.cps.toList,97≤c/\c≤122
def Wd.ok:Wd->Prop
 |.leaf _ n=>cO n
 |.node _ l r=>l.ok/\r.ok
theorem Paired.getP{α β:Type}{F:α->β->Prop}:∀{xs:List α} {ys:List β} {i:Nat} {x:α},Paired F xs ys->xs[i]?=some x->∃y,ys[i]?=some y/\F x y
 |_,_,_,_,.nil,h=>by simp at h
 |_,_,0,_,.cons (b:=y) r _,h=>by simp at h;subst h;exact⟨y,rfl,r⟩
 |_,_,i+1,_,.cons _ t,h=>by obtain⟨y,e,q⟩:=Paired.getP (i:=i) t (by simpa using h);exact⟨y,by simpa using e,q⟩
end Words
variable {ls ws:List Words.Wd}
namespace L2
open PySem PySem.Spec PyProof.Rows
section
theorem wD{ys:List V}{es:List Da}(I:qr X pins σ H s)(hu:A.units<cLine)(sx:f9 X.K H a xs)(sy:f9 X.K H b ys)(px:Paired (v8 X.K H n) xs ds)(py:Paired (v8 X.K H m) ys es)
 (ih:∀{x y:V} {d e:Da} {u v:Value},v8 X.K H n x d->v8 X.K H m y e->zc x u->zc y v->SeqAt.EqAt A.in1 s u v (Da.eq d e)):SeqAt.RcNeAt A s (.ref a) (.ref b) (!Da.eqs ds es):=by
 obtain⟨us,vx,tx,_⟩:=I.tuple sx;obtain⟨vs,vy,ty,_⟩:=I.tuple sy;have q:=SeqAt.RcNeAt.tuples tx ty hu (eU px py vx vy ih);rw[Al,Al,<-vx.length,<-vy.length,px.length,py.length,DE] at q;exact q
theorem xJ{ys:List V}{es:List Da}(I:qr X pins σ H s)(hu:A.units<cLine)(sx:aE X.K H a xs)(sy:aE X.K H b ys)(px:Paired (v8 X.K H n) xs ds)(py:Paired (v8 X.K H m) ys es)
 (ih:∀{x y:V} {d e:Da} {u v:Value},v8 X.K H n x d->v8 X.K H m y e->zc x u->zc y v->SeqAt.EqAt A.in1 s u v (Da.eq d e)):SeqAt.RcNeAt A s (.ref a) (.ref b) (!Da.eqs ds es):=by
 obtain⟨us,vx,tx,_⟩:=I.list sx;obtain⟨vs,vy,ty,_⟩:=I.list sy;by_cases hz:us.toArray.size=vs.toArray.size
 ·have q:=SeqAt.RcNeAt.lists (zp tx) (zp ty) hz hu (eU px py vx vy ih);have hz':ds.length=es.length:=by rw[<-px.length,<-py.length,vx.length,vy.length];simpa using hz
  have e:=DE ds es;rw[hz',Nat.min_self] at e;rw[<-hz'] at e;rw[Al,<-vx.length,px.length] at q;simp only[beq_self_eq_true,De] at e;rw[e] at q;exact q
 ·have q:=SeqAt.RcNeAt.lists_lengths (zp tx) (zp ty) (by simpa using hz) hu;have hz':ds.length≠es.length:=by rw[<-px.length,<-py.length,vx.length,vy.length];intro z;exact hz (by simpa using z)
  have e:=DE ds es;have f:(ds.length==es.length)=false:=by simpa using hz'
  rw[f,Dd] at e;rw[<-e];exact q
end
section
def uNe(K:Ac)(k:Nat):R2:=fun x y H Q=>match x,y with
 |.ref a,.ref b=>∃n m d e,n≤k/\v8 K H n (.ref a) d/\v8 K H m (.ref b) e/\Q (.bl (!Da.eq d e)) H
 |x,y=>acq x y=true/\Q (.bl (!decide (x=y))) H
theorem ahg{k:Nat}(hu:X.A.units+k<cLine):ko X (compareOp .NotEq) (uNe X.K k):=by
 intro pins s σ H x y v u Q I rx ry h;cases x with
 |ref a=>
  cases y with
  |ref b=>
   obtain⟨n,m,d,e,hn,h1,h2,q⟩:=h;cases rx;cases ry;have xu:∀{k:Bool},k=(!Da.eq d e)->SeqAt.RcNeAt X.A s (.ref a) (.ref b) k->wpAny (model X.prog X.w) X.A (compareOp .NotEq (.ref a) (.ref b)) (EP X pins σ Q) X.xe s:=fun {k} e' r=>
    r X.prog X.w X.xe (EP X pins σ Q) (by rw[e'];exact⟨.bl _,H,I,rfl,q⟩)
   cases n with
   |zero=>exact(zr h1.2).elim
   |succ n=>
    cases m with
    |zero=>exact(zr h2.2).elim
    |succ m=>
     have hin:X.A.in1.units+n<cLine:=by show X.A.units+1+n<cLine;lia
     rcases h1 with⟨_,f⟩ | ⟨a',xs,ds,e1,rfl,sx,px⟩ | ⟨a',xs,ds,e1,rfl,sx,px⟩
     ·exact(zr f).elim
     ·cases e1;rcases h2 with⟨_,f⟩ | ⟨b',ys,es,e2,rfl,sy,py⟩ | ⟨b',ys,es,e2,rfl,sy,py⟩
      ·exact(zr f).elim
      ·cases e2;exact xu rfl (wD I (by lia) sx sy px py fun h1 h2 r1 r2=>kA I n hin h1 h2 r1 r2)
      ·cases e2;obtain⟨us,vx,tx,_⟩:=I.tuple sx;obtain⟨vs,vy,ty,_⟩:=I.list sy;exact xu rfl (.tuple_list tx (zp ty) (by lia))
     ·cases e1;rcases h2 with⟨_,f⟩ | ⟨b',ys,es,e2,rfl,sy,py⟩ | ⟨b',ys,es,e2,rfl,sy,py⟩
      ·exact(zr f).elim
      ·cases e2;obtain⟨us,vx,tx,_⟩:=I.list sx;obtain⟨vs,vy,ty,_⟩:=I.tuple sy;exact xu rfl (.list_tuple (zp tx) ty (by lia))
      ·cases e2;exact xu rfl (xJ I (by lia) sx sy px py fun h1 h2 r1 r2=>kA I n hin h1 h2 r1 r2)
  |_=>exact aex pins s σ H _ _ v u Q I rx ry h
 |_=>cases y<;>exact aex pins s σ H _ _ v u Q I rx ry h
end
theorem afy:bootBuiltins "max" = some (.builtin "max"):=by decide +kernel
theorem acx:bootBuiltins "bool" = some (.type "bool"):=by decide +kernel
end L2
namespace Words
open PySem L2
def Wd.leafL:Wd->List Wd
 |.leaf t n=>[.leaf t n]
 |.node _ l r=>l.leafL++r.leafL
def Wd.size:Wd->Nat
 |.leaf _ _=>1
 |.node _ l r=>1+l.size+r.size
theorem Wd.size_pos:∀w:Wd,1≤w.size
 |.leaf _ _=>Am _
 |.node _ l r=>by show 1≤1+l.size+r.size;simp +arith only
theorem Wd.size_eq:∀w:Wd,w.size+1=2*w.leaves
 |.leaf _ _=>rfl
 |.node _ l r=>by have:=Wd.size_eq l;have:=Wd.size_eq r;show 1+l.size+r.size+1=2*(l.leaves+r.leaves);lia
theorem Wd.leafL_len:∀w:Wd,w.leafL.length=w.leaves
 |.leaf _ _=>rfl
 |.node _ l r=>by show(l.leafL++r.leafL).length=l.leaves+r.leaves;rw[Aa,Wd.leafL_len l,Wd.leafL_len r]
abbrev DI:=@Wd.leafL_len
theorem Wd.leafL_leaf:∀{w:Wd} {x:Wd},x∈w.leafL->∃t n,x=.leaf t n
 |.leaf t n,x,h=>⟨t,n,Af.mp h⟩
 |.node _ l r,x,h=>by
  rcases Ah.mp h with h | h
  ·exact Wd.leafL_leaf h
  ·exact Wd.leafL_leaf h
abbrev DL:=@Wd.leafL_leaf
theorem mC:∀ws:List Wd,Da.eqs (ws.map fA) (ws.map fA)=true
 |[]=>rfl
 |w::r=>by rw[AD,Da.eqs,ir,mC r];rfl
end Words
namespace L2
open PySem PySem.Spec PyProof.Rows
theorem xa.get{P:Program}{w:World}{o:HO}(x:xa P w H h a o):∃ob,h.get? a=some ob:=by
 cases o with
 |lst xs=>obtain⟨_,_,_,_,e⟩:=x;exact⟨_,e⟩
 |tup xs=>obtain⟨_,_,_,_,e,_⟩:=x;exact⟨_,e⟩
 |dK kvs=>obtain⟨_,_,_,_,o,_,_,e,_⟩:=x;exact⟨_,e⟩
 |dT kvs=>obtain⟨_,_,_,_,o,_,_,e,_⟩:=x;exact⟨_,e⟩
 |set S n=>obtain⟨o,_,_,_,e,_⟩:=x;exact⟨_,e⟩
 |ins C dx fs=>obtain⟨_,_,_,e,_⟩:=x;exact⟨_,e⟩
 |own y=>exact x
 |xd fs=>obtain⟨_,⟨_,_,_,e,_⟩,_⟩:=x;exact⟨_,e⟩
 |rng lo hi=>obtain⟨_,_,_,e⟩:=x;exact⟨_,e⟩
 |frz ob u=>obtain⟨e,_⟩:=x;exact⟨_,e⟩
 |tbl ps=>exact⟨_,show h.get? a=some _ from x⟩
 |met f y=>exact⟨_,show h.get? a=some _ from x⟩
 |ext φ=>obtain⟨_,e,_⟩:=x;exact e
def aea(h0 h:Heap)(H:Hp)(a C:Addr)(tr:Option Addr):Prop:=
 h0.get? a=none/\H a=none/\∃oe vs a0,h.get? a=some oe/\oe.cls=.ref C/\oe.data=.fields vs/\vs[0]?=some a0/\
  match tr with
  |none=>vs[1]?=some .none
  |some T=>vs[1]?=some (.ref T)/\h0.get? T=none/\H T=none/\T≠a/\∃oT ts,h.get? T=some oT/\oT.data=.fields ts/\ts[3]?=some .none
def fQ(a:Addr)(tr:Option Addr)(fs:List Addr):List Addr:=a::(tr.toList++fs)
section
variable {tr:Option Addr}
theorem acu{l:List Env}(h:env∈l)(e:env.frame=some b):b∈dP l:=CA.mpr ⟨env,h,e⟩
theorem ab3(I:qr X pins σ H s)(hs:X.stack=X.env::X.outer)(hx:X.ex=[])(new:X.s₀.heap.get? a=none)(free:H a=none)(newT:∀T,tr=some T->X.s₀.heap.get? T=none/\H T=none){a0 fl:Value}
 (k1:(PySem.W.hideAll s.heap (fQ a tr (dP X.stack))).StaysIn h') (k2:h'.FunFrames (PySem.W.hideAll s.heap (fQ a tr (dP X.stack))) X.stack) (k3:h'.TracedAtW (PySem.W.hideAll s.heap (fQ a tr (dP X.stack))) a (.ref C) a0 fl)
 (k4:∀b o,s.heap.get? b=some o->(∀vs,o.data≠.fields vs)->∃sl,h'.get? b=some { o with slots:=sl }):
 Un X.fs [] X.H₀ H X.s₀.heap h'/\bX X.prog X.w H h'/\∃T,(∀b o,s.heap.get? b=some o->(∀T0,tr=some T0->b≠T0)->b≠T)/\X.s₀.heap.get? T=none/\H T=none/\T≠a/\∃oe vs oT ts,h'.get? a=some oe/\oe.cls=.ref C/\vs[0]?=some a0/\oe.data=.fields vs/\vs[1]?=some (.ref T)/\h'.get? T=some oT/\oT.data=.fields ts/\ts[3]?=some fl:=by
 have kp:∀b o,s.heap.get? b=some o->b∉fQ a tr (dP X.stack)->h'.get? b=some o:=fun b o e n=>k1 b o (Cw _ e n);have sl:∀b o,s.heap.get? b=some o->b∈dP X.stack->∃sl,h'.get? b=some { o with slots:=sl }:=fun b o e hb=>by obtain⟨_,o',e',nf⟩:=I.stack.mem hb;rw[e] at e';cases e';exact k4 b o e nf
 have hidN:∀b,b∈fQ a tr (dP X.stack)->H b=none:=fun b hb=>by
  rcases An.mp hb with e | hb
  ·rw[e];exact free
  ·rcases Ah.mp hb with q | q
   ·exact(newT b (by simpa using q)).2
   ·exact I.stkFree b q
 have notHid:∀b o,X.s₀.heap.get? b=some o->b∉X.fs->b∉fQ a tr (dP X.stack):=fun b o e nb hb=>by
  rcases An.mp hb with q | hb
  ·rw[q,new] at e;cases e
  ·rcases Ah.mp hb with q | q
   ·rw[(newT b (by simpa using q)).1] at e;cases e
   ·rcases An.mp (I.stkSub b q) with q | q
    ·exact absurd (AH (Heap.lt_size e) I.ok.above) (by rw[q];exact BI _)
    ·exact nb q
 have fsub:∀b,b∈X.fs->b∈dP X.stack:=fun b hb=>by
  rw[hs];unfold dP;rw[Bd];split
  ·exact hb
  ·exact Ae _ hb
 have noex:∀b:Addr,b∉X.ex:=fun b=>by rw[hx];simp
 have hokk:bX X.prog X.w H h':=fun b u e=>(I.hok b u e).stay (fun c w' hc q=>kp c w' q fun hm=>by
  have n:=hidN c hm;rcases hc with z | z
  ·rw[z,e] at n;cases n
  ·rw[z] at n;cases n) (fun _ q=>q) fun _ _ q=>q
 refine⟨⟨fun b o e n hb _=>?_,fun b o e n hb _=>?_,fun b o e n _=>I.base.free b o e n (noex b),fun b o e _=>?_,I.base.tups,I.base.frzs,I.base.tbls⟩,hokk,?_⟩
 ·exact kp b o (I.base.keep b o e n hb (noex b)) (notHid b o e hb)
 ·obtain⟨z,e1⟩:=I.base.slot b o e n hb (noex b);obtain⟨z',e2⟩:=sl b _ e1 (fsub b hb);exact⟨z',e2⟩
 ·obtain⟨o',e1⟩:=I.base.there b o e (noex b);by_cases hb:b∈X.fs
  ·obtain⟨z',e2⟩:=sl b _ e1 (fsub b hb);exact⟨_,e2⟩
  ·exact⟨o',kp b o' e1 (notHid b o e hb)⟩
 ·obtain⟨oe',vs',T,oT,ts,he',⟨hc',h0'⟩,hd',h1',hnT,hTa,hT,hdT,h3⟩:=k3;have inn:∀o,s.heap.get? T=some o->T∈fQ a tr (dP X.stack):=fun o e=>by
   by_cases q:T∈fQ a tr (dP X.stack)
   ·exact q
   ·rw[Cw _ e q] at hnT;cases hnT
  have nfr:T∉dP X.stack:=fun hb=>by obtain⟨_,o',e',nf⟩:=k2.mem hb;rw[hT] at e';cases e';exact nf ts hdT
  refine⟨T,fun b o e ne z=>?_,?_,?_,hTa,oe',vs',oT,ts,he',hc',h0',hd',h1',hT,hdT,h3⟩
  ·subst z;rcases An.mp (inn o e) with z | z
   ·exact hTa z
   ·rcases Ah.mp z with z | z
    ·exact ne b (by simpa using z) rfl
    ·exact nfr z
  ·cases q:X.s₀.heap.get? T with
   |none=>rfl
   |some o=>
    obtain⟨o',e1⟩:=I.base.there T o q (noex T);rcases An.mp (inn o' e1) with z | z
    ·exact absurd z hTa
    ·rcases Ah.mp z with z | z
     ·rw[(newT T (by simpa using z)).1] at q;cases q
     ·exact absurd z nfr
  ·cases q:H T with
   |none=>rfl
   |some u=>
    obtain⟨o',e1⟩:=(I.hok T u q).get;have:=hidN T (inn o' e1);rw[q] at this;cases this
theorem zE{Q:Unit->Shared->Prop}(I:qr X pins σ H s)(hs:X.stack=X.env::X.outer)(hf:X.env.frame=some X.env.locals)(hx:X.ex=[])(L:aea X.s₀.heap s.heap H a C tr)
 (h:∀h' T,Un X.fs [] X.H₀ H X.s₀.heap h'->bX X.prog X.w H h'->aea X.s₀.heap h' H a C (some T)->Q () { s with heap:=h' }):wpAny M X.A (leaving X.env (.ref a)) Q E s:=by
 have L0:=L;obtain⟨new,free,oe,vs,b0,he,hc,hd,h0,htr⟩:=L0;have fr:s.heap.FunFrames (PySem.W.hideAll s.heap (fQ a tr (dP X.stack))) X.stack:=PySem.W.funFrames_hide I.stack fun env he b hb=>Ae _ (Ag _ (acu he hb));have st:(PySem.W.hideAll s.heap (fQ a tr (dP X.stack))).StaysIn s.heap:=fun b o e=>PySem.W.of_hideAll _ e;have na:(PySem.W.hideAll s.heap (fQ a tr (dP X.stack))).get? a=none:=Ct _ Au;have hfr:X.A.frames=some (X.env::X.outer):=by rw[<-hs];exact I.ok.frames
 have go:∀h',Heap.LeftW (PySem.W.hideAll s.heap (fQ a tr (dP X.stack))) (X.env::X.outer) a (.ref C) b0 s.heap h'->Q () { s with heap:=h' }:=fun h' ⟨k1,k2,k3,k4⟩=>by obtain⟨u,hok,T,_,n1,n2,ne,oe',vs',oT,ts,e1,e2,e3,e4,e5,e6,e7,e8⟩:=ab3 I hs hx new free (by intro T e;subst e;exact⟨htr.2.1,htr.2.2.1⟩) k1 (by rw[hs];rw[hs] at k2;exact k2) k3.at k4;exact h h' T u hok ⟨new,free,oe',vs',b0,e1,e2,e4,e3,e5,n1,n2,ne,oT,ts,e6,e7,e8⟩
 have nT:∀T,tr=some T->(PySem.W.hideAll s.heap (fQ a tr (dP X.stack))).get? T=none:=fun T e=>by subst e;exact Ct _ (Ae _ (Ao _ (by simp)))
 generalize PySem.W.hideAll s.heap (fQ a tr (dP X.stack))=base at fr st na go nT;rw[hs] at fr;cases tr with
 |none=>exact wpAny_leaving_firstW hfr fr hf he st na hd htr h0 (by rw[hc];exact go)
 |some T=>
  obtain⟨h1,_,_,hTa,oT,ts,hT,hdT,h3⟩:=htr;exact wpAny_leaving_nextW hfr fr hf ⟨oe,vs,T,oT,ts,he,⟨hc,h0⟩,hd,h1,nT T rfl,hTa,hT,hdT,h3⟩ st na go
end
def CXE(P:Program)(w:World):uE:=fun outer H s E e s'=>∃a C T H',e=.ref a/\s'.os=s.os/\AllBare s'.gens/\Un (dP outer) [] H H' s.heap s'.heap/\bX P w H' s'.heap/\aea s.heap s'.heap H' a C (some T)/\E (.ref C) none H'/\0<s'.toks
def xQ(X:Cx)(a:Addr):Prop:=a≠X.env.locals/\(∀x c,X.env.cells.lookup x=some c->c≠a)/\∀p∈X.pn,p.1≠a
abbrev X1:=St->Value->Hp->Prop
def bQ(X:Cx)(E1:X1):Prop:=∀(pins:List (Addr×Obj)) (σ:St) (H:Hp) (s:Shared) (a C:Addr) (tr:Option Addr),qr X pins σ H s->aea X.s₀.heap s.heap H a C tr->xQ X a->(∀T,tr=some T->xQ X T)->E1 σ (.ref C) H->X.xe (.ref a) s
section
variable {T:Addr}{tr:Option Addr}{E1:X1}
theorem qr.apart(I:qr X pins σ H s)(h:s.heap.get? b=none):xQ X b:=by
 refine⟨fun e=>?_,fun x c e z=>?_,fun p hp z=>?_⟩
 ·obtain⟨m,⟨o,_,_,ho,_⟩,_⟩:=I.loc;rw[<-e,h] at ho;cases ho
 ·obtain⟨v,o,ho,_⟩:=I.cell x c e;rw[z,h] at ho;cases ho
 ·obtain⟨e,_⟩:=I.pin p (Ao _ hp);rw[z,h] at e;cases e
theorem qr.news(I:qr X pins σ H s)(hx:X.ex=[])(h:s.heap.get? b=none):X.s₀.heap.get? b=none:=by
 cases q:X.s₀.heap.get? b with
 |none=>rfl
 |some o=>
  obtain⟨o',e⟩:=I.base.there b o q (by rw[hx];simp);rw[h] at e;cases e
theorem bQ.pass(t:bQ X E1)(hx:X.ex=[]){e:Value}(I:qr X pins σ H s)(h:CXE X.prog X.w X.stack H s (fun c _ H'=>E1 σ c H') e s'):X.xe e s':=by obtain⟨a,C,T,H',rfl,ho,hg,u,hok,⟨new,free,oe,vs,a0,he,hc,hd,h0,h1,nT,fT,rest⟩,q,htk⟩:=h;have I':qr X pins σ H' s':=I.call' (ch:=[]) ho u hok hg (fun b z=>absurd z (by simp));exact t pins σ H' s' a C (some T) I' ⟨I.news hx new,free,oe,vs,a0,he,hc,hd,h0,h1,I.news hx nT,fT,rest⟩ (I.apart new) (fun T' e=>by cases e;exact I.apart nT) q
end
section
variable {k:Nat}{E1:X1} 
end
theorem yU{P:Program}{w:World}{K:Ac}{N:List Str}{E:XK}:
 bQ (cR (CXE P w) P w K mg base N qual scope f cd A outer s H E) fun _ c H'=>E c none H':=by
 intro pins σ H' s' a C tr I L _ _ q;refine zE (X:=cR (CXE P w) P w K mg base N qual scope f cd A outer s H E) I rfl rfl rfl L fun h' T u hok L'=>?_;exact⟨a,C,T,H',rfl,I.os,I.bare,u,hok,L',q,I.tk⟩
structure yX(K:Ac)(C:Addr):Prop where
 ex:∃(nm q:Str) (N:Addr) (bs bm:List Value) (hdct:Bool) (sn:List Str) (sub:List Value) (ab:Bool) (col:Option Bool) (dd:Option Addr) (k0 k1 k2 k3 k5:Option Value) (B Bn newId nid initId inN:String) (bmB bmN:List Value),
  ExcBaseFacts Bn newId inN bmN/\bmB.contains (.type Bn)=true/\ExcBaseFacts B nid initId bmB/\
  ∀h,K.In h->h.get? C=some (excClassObj nm q C N bs bm hdct sn sub ab col dd k0 k1 k2 k3 k5 newId)/\(∃mN,h.Ns N mN/\mN "__init__" = none)/\OwnTail h bmB bm
theorem abp{K:Ac}{bmB bmN:List Value}{B Bn newId nid initId inN:String}(q:PySem.W.excIn K C bmB newId=true)(Fn:ExcBaseFacts Bn newId inN bmN)(hBn:bmB.contains (.type Bn)=true)(F:ExcBaseFacts B nid initId bmB):yX K C:=by
 unfold PySem.W.excIn at q;split at q
 ·rename_i dd cd sl ho;split at q
  ·rename_i C' bm k0 k1 k2 k3 n k5 hm hs;simp only[A2,beq_iff_eq,CM] at q;obtain⟨⟨⟨⟨⟨rfl,rfl⟩,hdel⟩,ht⟩,hok⟩,hni⟩:=q;obtain⟨nm,bs,mro,ns,qn,hd,sn,sub,ab,col,del⟩:=cd;dsimp only at hm hdel hok hni;subst hm hdel;have hsl:sl=#[k0,k1,k2,k3,some (.builtin n),k5]:=by obtain⟨l⟩:=sl;simp only at hs;rw[hs]
   subst hsl;exact⟨nm,qn,ns,bs,bm,hd,sn,sub,ab,col,dd,k0,k1,k2,k3,k5,B,Bn,n,nid,initId,inN,bmB,bmN,Fn,hBn,F,fun h X=>⟨X _ _ ho,⟨_,.of_isNs (PySem.W.isNs_of_in X hok),PySem.W.nsMap_none_of_in X hok hni⟩,PySem.W.tail_of_in X ht⟩⟩
  ·cases q
 ·cases q
def afp(C:Addr)(E1:X1)(t:TA):TS:=fun _ σ H=>t σ H fun vs H1=>vs.length≤sizeLine/\E1 σ (.ref C) H1
theorem wU{E1:X1}{np:Pos}(c:yX X.K C)(hg:Gl X x)(hm:X.mg x=some (.ref C))(hc:X.calm=true)(ht:bQ X E1)(hx:X.ex=[])(ha:PA X (e::es) t)(hdb:Dl x:=by decide)
 (he:Dj e es X:=by rfl) (hpl:Dk cpos es X:=by rfl):
 PS X (.Raise (some (.Call (.Name x np) (e::es) [] cpos)) none pos) (afp C E1 t):=by
 intro pins s σ H D I h;obtain⟨nm,q,N,bs,bm,hdct,sn,sub,ab,col,dd,k0,k1,k2,k3,k5,B,Bn,newId,nid,initId,inN,bmB,bmN,Fn,hBn,F,all⟩:=c.ex;obtain⟨_,⟨mN,hn,hni⟩,ow⟩:=all X.base I.ok.mod.kin;refine wpAny_Raise_call_subU (C:=C) (nm:=nm) (q:=q) (N:=N) (bs:=bs) (bm:=bm) (hdct:=hdct) (sn:=sn) (sub:=sub) (ab:=ab) (col:=col) (dd:=dd) (k0:=k0) (k1:=k1) (k2:=k2) (k3:=k3) (k5:=k5) Fn hBn F (mN:=mN) (ow.hasType F.hasBase) (I.ok.hd hc)
  (by rw[he];show(false||(backTo cpos (starEach es X.env)).any (·.1))=false;rw[hpl];rfl) hni (eZ I hg hm ⟨rfl,?_⟩ hdb)
 rw[he];have ha':=ha cpos pins s σ H _ I h;rw[he] at ha';refine Calls.evalArgs_plain (x8 ha' fun us s2 ⟨vs,H1,I1,r,hl,q1⟩=>⟨rfl,by rw[<-r.length];exact hl,(all _ I1.kIn).1,hn.keeps I1.bk,(all _ I1.kIn).2.2,fun h' a hm=>?_⟩);obtain⟨t0,e1,_,_⟩:=hm.there;have I2:qr X pins σ H1 { s2 with heap:=h' }:=I1.kept (t':=s2.toks) hm.keeps;have fr:H1 a=none:=by
  cases z:H1 a with
  |none=>rfl
  |some u=>
   obtain⟨o,eo⟩:=(I1.hok a u z).get;rw[hm.new] at eo;cases eo
 exact ht pins σ H1 _ a C none I2 ⟨I1.news hx hm.new,fr,_,_,.ref t0,e1,rfl,rfl,rfl,rfl⟩ (I1.apart hm.new) (fun T z=>nomatch z) q1
end L2
variable {E1:L2.X1}
namespace L2
open PySem PySem.Spec PyProof.Rows
section
variable {T:Addr}{tr:Option Addr} 
end
section
variable {T:Addr}
end
open PySem PySem.Spec PyProof.Rows PySem.W
open Builtin.ObjectAttr in
section
variable {w:World}{K:Frag} 
open Builtin Builtin.ObjectAttr Builtin.Getset_descriptor in
end
def ajq(K:Ac)(H:Hp)(a C:Addr):Prop:=∃oe,H a=some (.frz oe (.own 0))/\oe.cls=.ref C
def yO(H:Hp)(P:Addr)(q:Str):Prop:=∃ps,H P=some (.tbl ps)/\TriplesOk ps.toList/\∀pos cv,codeAmong pos ps.toList=some cv->∃c' oc vs t,cv=.ref c'/\H c'=some (.frz oc (.own 0))/\oc.data=.fields vs/\vs[1]?=some (.str q t)
theorem yO.keep{P:Addr}{q:Str}(h:yO H P q)(e:H' P=H P)(t:∀b o u,H b=some (.frz o u)->H' b=some (.frz o u)):yO H' P q:=by obtain⟨ps,h1,h2,h3⟩:=h;refine⟨ps,e.trans h1,h2,fun pos cv z=>?_⟩;obtain⟨c',oc,vs,tt,e1,e2,e3⟩:=h3 pos cv z;exact⟨c',oc,vs,tt,e1,t _ _ _ e2,e3⟩
end L2
namespace L3
open PySem L2
inductive Y where
 |non | bl (b:Bool) | int (i:Int) | str (x:Str) | ref (a:Addr) | ty (n:String) | cd (kvs:List (Str×Str)) | tup (ys:List Y) | sq (ys:List Y)
inductive LO where
 |lst (ys:List Y) | dct (kvs:List (jf×Y)) | ins (C:Addr) (fs:List (Str×Y)) | exc (C:Addr) | tb (q:Str)
abbrev qk:=Addr->Option LO
def qd(L:qk)(a:Addr)(o:LO):qk:=fun b=>if b=a then some o else L b
theorem q8{L:qk}{o:LO}:qd L a o a=some o:=by unfold qd;rw[AC rfl]
theorem qb{L:qk}{o:LO}(h:b≠a):qd L a o b=L b:=by unfold qd;rw[AB h]
theorem zg{L:qk}{o u:LO}:qd (qd L a o) a u=qd L a u:=by funext b;unfold qd;split<;>rfl
theorem k8{L:qk}{o:LO}(h:L a=some o)(h':L b=none):a≠b:=by intro e;subst e;rw[h] at h';cases h'
theorem yx{L:qk}{o u:LO}(h:L a=some o)(h':L b=some u)(d:o≠u):a≠b:=by intro e;subst e;rw[h] at h';exact d (AQ h')
structure G3 where
 K:Ac
 P:Program
 w:World
abbrev _root_.L2.Cx.g3(X:Cx):G3:=⟨X.K,X.prog,X.w⟩
def SqF(K:Ac)(H:Hp)(a:Addr)(xs:List V):Prop:=(∃o,H a=some (.frz o (.lst xs)))\/
 ∃(o:Obj) (its:Array Value) (n:Nat),K.lookup a=some o/\o.cls=.type "list" /\ o.dict=none/\o.data=.seq its n/\its.size≤sizeLine/\zh xs its.toList
theorem SqF.sq{K:Ac}(h:SqF K H a xs):aE K H a xs:=by
 rcases h with⟨o,h⟩ | h
 ·exact .inl (.inr ⟨o,h⟩)
 ·exact .inr h
mutual
def RV(G:G3)(H:Hp):Y->V->Prop
 |.non,v=>v=.non
 |.bl b,v=>v=.bl b
 |.int i,v=>v=.int i
 |.str x,v=>v=.str x
 |.ref a,v=>v=.ref a
 |.ty n,v=>v=.ty n
 |.cd kvs,v=>∃a,v=.ref a/\KD G.K G.P G.w a (kvs.map fun p=>(Sum.inr p.1,V.str p.2))
 |.tup ys,v=>∃a xs,v=.ref a/\f9 G.K H a xs/\xk G H ys xs
 |.sq ys,v=>∃a xs,v=.ref a/\SqF G.K H a xs/\xk G H ys xs
def xk(G:G3)(H:Hp):List Y->List V->Prop
 |[],xs=>xs=[]
 |y::ys,xs=>∃x xs',xs=x::xs'/\RV G H y x/\xk G H ys xs'
end
def Imm:HO->Bool
 |.tup _=>true
 |.frz _ _=>true
 |_=>false
def j4(H H':Hp):Prop:=∀a u,Imm u=true->H a=some u->H' a=some u
theorem j4.refl(H:Hp):j4 H H:=fun _ _ _ h=>h
abbrev DB:=@j4.refl
theorem j4.trans{H1 H2:Hp}(a:j4 H H1)(b:j4 H1 H2):j4 H H2:=fun c u i h=>b c u i (a c u i h)
theorem j4.new{p:Addr}{o:HO}(h:H p=none):j4 H (upd H p o):=fun _ _ _ q=>by rw[z7 (jb q h)];exact q
abbrev DD:=@j4.new
theorem j4.lst{p:Addr}{o:HO}(h:H p=some (.lst zs)):j4 H (upd H p o):=fun a u i q=>by rw[z7 ?_];exact q;rintro rfl;rw[h] at q;cases q;cases i
abbrev DO:=@j4.lst
theorem f9.ts{K:Ac}(h:f9 K H a xs)(t:j4 H H'):f9 K H' a xs:=by
 rcases h with(h | ⟨o,h⟩) | h
 ·exact .inl (.inl (t _ _ rfl h))
 ·exact .inl (.inr ⟨o,t _ _ rfl h⟩)
 ·exact .inr h
theorem SqF.ts{K:Ac}(h:SqF K H a xs)(t:j4 H H'):SqF K H' a xs:=by
 rcases h with⟨o,h⟩ | h
 ·exact .inl ⟨o,t _ _ rfl h⟩
 ·exact .inr h
mutual
theorem RV.ts{G:G3}{H H':Hp}(t:j4 H H'):∀{y:Y} {v:V},RV G H y v->RV G H' y v
 |.non,_,h=>h
 |.bl _,_,h=>h
 |.int _,_,h=>h
 |.str _,_,h=>h
 |.ref _,_,h=>h
 |.ty _,_,h=>h
 |.cd _,_,h=>h
 |.tup _,_,⟨a,xs,e,s,r⟩=>⟨a,xs,e,f9.ts s t,xk.ts t r⟩
 |.sq _,_,⟨a,xs,e,s,r⟩=>⟨a,xs,e,s.ts t,xk.ts t r⟩
theorem xk.ts{G:G3}{H H':Hp}(t:j4 H H'):∀{ys:List Y} {xs:List V},xk G H ys xs->xk G H' ys xs
 |[],_,h=>h
 |_::_,_,⟨x,xs',e,r,s⟩=>⟨x,xs',e,RV.ts t r,xk.ts t s⟩
end
theorem xk.length{G:G3}{H:Hp}:∀{ys:List Y} {xs:List V},xk G H ys xs->ys.length=xs.length
 |[],_,h=>by cases h;rfl
 |_::_,_,⟨x,xs',e,_,s⟩=>by subst e;simp[xk.length s]
theorem xk.get{G:G3}{H:Hp}:∀{ys:List Y} {xs:List V} {i:Nat} {y:Y},xk G H ys xs->ys[i]?=some y->∃x,xs[i]?=some x/\RV G H y x
 |[],_,_,_,_,h=>by simp at h
 |_::_,_,0,_,⟨x,xs',e,r,_⟩,h=>by subst e;simp at h;subst h;exact⟨x,rfl,r⟩
 |_::_,_,i+1,_,⟨x,xs',e,_,s⟩,h=>by subst e;obtain⟨x',q,r⟩:=xk.get (i:=i) s (by simpa using h);exact⟨x',by simpa using q,r⟩
theorem xk.app{G:G3}{H:Hp}:∀{ys zs:List Y} {xs us:List V},xk G H ys xs->xk G H zs us->xk G H (ys++zs) (xs++us)
 |[],_,_,_,h,q=>by cases h;exact q
 |_::_,_,_,_,⟨x,xs',e,r,s⟩,q=>by subst e;exact⟨x,xs'++_,rfl,r,xk.app s q⟩
theorem xk.one{G:G3}{y:Y}{x:V}(r:RV G H y x):xk G H [y] [x]:=⟨x,[],rfl,r,rfl⟩
theorem xk.take{G:G3}{H:Hp}:∀{ys:List Y} {xs:List V} (n:Nat),xk G H ys xs->xk G H (ys.take n) (xs.take n)
 |[],_,n,h=>by cases h;simp[xk]
 |_::_,_,0,_=>by simp[xk]
 |_::_,_,n+1,⟨x,xs',e,r,s⟩=>by subst e;exact⟨x,xs'.take n,rfl,r,xk.take n s⟩
theorem xk.drop{G:G3}{H:Hp}:∀{ys:List Y} {xs:List V} (n:Nat),xk G H ys xs->xk G H (ys.drop n) (xs.drop n)
 |[],_,n,h=>by cases h;simp[xk]
 |_::_,_,0,h=>h
 |_::_,_,n+1,⟨x,xs',e,r,s⟩=>by subst e;exact xk.drop n s
theorem xk.setY{G:G3}{H:Hp}{y:Y}{x:V}(r:RV G H y x):∀{ys:List Y} {xs:List V} (i:Nat),xk G H ys xs->xk G H (ys.set i y) (xs.set i x)
 |[],_,_,h=>by cases h;simp[xk]
 |_::_,_,0,⟨x',xs',e,_,s⟩=>by subst e;exact⟨x,xs',rfl,r,s⟩
 |_::_,_,i+1,⟨x',xs',e,q,s⟩=>by subst e;exact⟨x',xs'.set i x,rfl,q,xk.setY r i s⟩
theorem xk.eraseIdx{G:G3}{H:Hp}:∀{ys:List Y} {xs:List V} (n:Nat),xk G H ys xs->xk G H (ys.eraseIdx n) (xs.eraseIdx n)
 |[],_,n,h=>by cases h;simp[xk]
 |_::_,_,0,⟨x,xs',e,r,s⟩=>by subst e;exact s
 |_::_,_,n+1,⟨x,xs',e,r,s⟩=>by subst e;exact⟨x,xs'.eraseIdx n,rfl,r,xk.eraseIdx n s⟩
def RO(G:G3)(H:Hp)(a:Addr):LO->Prop
 |.lst ys=>∃xs,H a=some (.lst xs)/\xk G H ys xs
 |.dct kvs=>∃xs,H a=some (.dK xs)/\Paired (fun(p:jf×Y) (q:jf×V)=>p.1=q.1/\RV G H p.2 q.2) kvs xs
 |.ins C fs=>∃dx xs,H a=some (.ins C dx xs)/\Paired (fun(p:Str×Y) (q:Str×V)=>p.1=q.1/\RV G H p.2 q.2) fs xs
 |.exc C=>ajq G.K H a C
 |.tb q=>yO H a q
def j8(G:G3)(H:Hp)(L:qk):Prop:=∀a o,L a=some o->RO G H a o
theorem RO.ex{G:G3} :∀{o:LO},RO G H a o->∃u,H a=some u
 |.lst _,⟨_,h,_⟩=>⟨_,h⟩
 |.dct _,⟨_,h,_⟩=>⟨_,h⟩
 |.ins _ _,⟨_,_,h,_⟩=>⟨_,h⟩
 |.exc _,⟨_,h,_⟩=>⟨_,h⟩
 |.tb _,⟨_,h,_⟩=>⟨_,h⟩
theorem j8.none{G:G3}{L:qk}(h:j8 G H L){p:Addr}(hp:H p=none):L p=none:=by cases e:L p with|none=>rfl|some o=>obtain⟨u,q⟩:=(h p o e).ex;rw[hp] at q;cases q
theorem RO.keep{G:G3}(t:j4 H H')(e:H' a=H a):∀{o:LO},RO G H a o->RO G H' a o
 |.lst _,⟨xs,h,r⟩=>⟨xs,e.trans h,r.ts t⟩
 |.dct _,⟨xs,h,r⟩=>⟨xs,e.trans h,DF r fun _ _ ⟨a,b⟩=>⟨a,b.ts t⟩⟩
 |.ins _ _,⟨dx,xs,h,r⟩=>⟨dx,xs,e.trans h,DF r fun _ _ ⟨a,b⟩=>⟨a,b.ts t⟩⟩
 |.exc _,⟨o,h,c⟩=>⟨o,e.trans h,c⟩
 |.tb _,h=>yO.keep h e fun b o u z=>t b _ rfl z
theorem j8.skip{G:G3}{L:qk}(h:j8 G H L){p:Addr}{o:HO}(hp:H p=.none):j8 G (upd H p o) L:=fun a u e=>by obtain⟨x,q⟩:=(h a u e).ex;exact(h a u e).keep (DD hp) (z7 (jb q hp))
theorem j8.newL{G:G3}{L:qk}(h:j8 G H L){p:Addr}{ys:List Y}(hp:H p=.none)(r:xk G H ys xs):j8 G (upd H p (.lst xs)) (qd L p (.lst ys)):=fun a u e=>by
 by_cases c:a=p
 ·subst c;rw[q8] at e;cases e;exact⟨xs,xg,r.ts (DD hp)⟩
 ·rw[qb c] at e;exact(h a u e).keep (DD hp) (z7 c)
theorem j8.setL{G:G3}{L:qk}(h:j8 G H L){p:Addr}{ys:List Y}(hp:H p=some (.lst zs))(r:xk G H ys xs):j8 G (upd H p (.lst xs)) (qd L p (.lst ys)):=fun a u e=>by
 by_cases c:a=p
 ·subst c;rw[q8] at e;cases e;exact⟨xs,xg,r.ts (DO hp)⟩
 ·rw[qb c] at e;exact(h a u e).keep (DO hp) (z7 c)
def qg(L L':qk):Prop:=∀a o,L a=some o->L' a=some o
theorem qg.refl(L:qk):qg L L:=fun _ _ h=>h
abbrev DA:=@qg.refl
theorem qg.trans{L L1 L2:qk}(a:qg L L1)(b:qg L1 L2):qg L L2:=fun c o h=>b c o (a c o h)
theorem qg.new{L:qk}{p:Addr}{o:LO}(h:L p=none):qg L (qd L p o):=fun a u e=>by rw[qb (k8 e h)];exact e
abbrev By:=@qg.new
theorem j8.sub{G:G3}{L L':qk}(h:j8 G H L')(s:qg L L'):j8 G H L:=fun a o e=>h a o (s a o e)
abbrev j9:=List (Option Y)
structure ve(G:G3)(H:Hp)(σ:St)(τ:j9):Prop where
 len:σ.length=τ.length
 get:∀(i:Nat) y,τ[i]?=some (some y)->∃v,σ[i]?=some (some v)/\RV G H y v
theorem ve.ts{G:G3}{τ:j9}(h:ve G H σ τ)(t:j4 H H'):ve G H' σ τ:=
 ⟨h.len,fun i y e=>let ⟨v,a,b⟩:=h.get i y e;⟨v,a,b.ts t⟩⟩
theorem ve.set{G:G3}{τ:j9}(h:ve G H σ τ){y:Y}(r:RV G H y v):ve G H (σ.set i (some v)) (τ.set i (some y)):=by
 refine⟨by simp[h.len],fun j z e=>?_⟩;by_cases c:i=j
 ·subst c;have hi:i<τ.length:=by
   by_cases q:i<τ.length
   ·exact q
   ·rw[Bv (by simp;omega)] at e;cases e
  rw[BN hi] at e;cases e;exact⟨v,BN (by rw[h.len];exact hi),r⟩
 ·rw[A9 c] at e ⊢;exact h.get j z e
theorem ve.more{G:G3}{τ:j9}(h:ve G H σ τ)(n:Nat):ve G H (σ++List.replicate n none) (τ++List.replicate n none):=by
 refine⟨by simp[h.len],fun j z e=>?_⟩;by_cases c:j<τ.length
 ·rw[AK c] at e;rw[AK (by rw[h.len];exact c)];exact h.get j z e
 ·rw[Aq (by omega),BL] at e;split at e<;>cases e
def uk:j9->Nat->Option Y
 |[],_=>none
 |o::_,0=>o
 |_::r,i+1=>uk r i
theorem nJ:∀(τ:j9) (i:Nat) {y:Y},uk τ i=some y->τ[i]?=some (some y)
 |[],_,_,h=>by cases h
 |o::_,0,_,h=>by simp[uk] at h;simp[h]
 |_::r,i+1,_,h=>by simp only[Cd];exact nJ r i h
abbrev YK:=Y->qk->Prop
abbrev x4:=j9->qk->YK->Prop
abbrev iS:=j9->qk->(Bool->qk->Prop)->Prop
abbrev dN:=j9->qk->(List Y->qk->Prop)->Prop
structure xo where
 nx:j9->qk->Prop
 rt:YK
 bk:j9->qk->Prop:=fun _ _=>False
 ct:j9->qk->Prop:=fun _ _=>False
abbrev k6:=xo->j9->qk->Prop
abbrev jJ:=Y->j9->qk->(j9->qk->Prop)->Prop
abbrev u8:=List Y->j9->qk->(j9->qk->Prop)->Prop
abbrev TI3:=j9->qk->(List Y->(qk->Prop)->qk->Prop)->Prop
abbrev kW:=Y->Y->qk->YK->Prop
def tH(G:G3)(H:Hp)(Q3:YK)(Q:VK):Prop:=∀v H' y L',j4 H H'->j8 G H' L'->RV G H' y v->Q3 y L'->Q v H'
def abz(G:G3)(H:Hp)(Q3:Bool->qk->Prop)(Q:Bool->Hp->Prop):Prop:=∀b H' L',j4 H H'->j8 G H' L'->Q3 b L'->Q b H'
def ao0(G:G3)(H:Hp)(Q3:List Y->qk->Prop)(Q:List V->Hp->Prop):Prop:=∀vs H' ys L',j4 H H'->j8 G H' L'->xk G H' ys vs->Q3 ys L'->Q vs H'
def lS(G:G3)(H:Hp)(Q3:j9->qk->Prop)(Q:St->Hp->Prop):Prop:=∀σ H' τ L',j4 H H'->ve G H' σ τ->j8 G H' L'->Q3 τ L'->Q σ H'
theorem tH.ts{G:G3}{Q3:YK}{Q:VK}(h:tH G H Q3 Q)(t:j4 H H'):tH G H' Q3 Q:=fun v H2 y L' t2=>h v H2 y L' (t.trans t2)
theorem abz.ts{G:G3}{Q3:Bool->qk->Prop}{Q:Bool->Hp->Prop}(h:abz G H Q3 Q)(t:j4 H H'):abz G H' Q3 Q:=fun v H2 L' t2=>h v H2 L' (t.trans t2)
theorem lS.ts{G:G3}{Q3:j9->qk->Prop}{Q:St->Hp->Prop}(h:lS G H Q3 Q)(t:j4 H H'):lS G H' Q3 Q:=fun v H2 y L' t2=>h v H2 y L' (t.trans t2)
structure abm(G:G3)(H:Hp)(D3:xo)(D:sS):Prop where
 nx:lS G H D3.nx D.nx
 rt:tH G H D3.rt D.rt
 bk:lS G H D3.bk D.bk
 ct:lS G H D3.ct D.ct
theorem abm.ts{G:G3}{D3:xo}{D:sS}(h:abm G H D3 D)(t:j4 H H'):abm G H' D3 D:=⟨h.nx.ts t,h.rt.ts t,h.bk.ts t,h.ct.ts t⟩
def o6(G:G3)(t:x4):TE:=fun σ H Q=>∃τ L Q3,ve G H σ τ/\j8 G H L/\t τ L Q3/\tH G H Q3 Q
def upT(G:G3)(t:iS):TT:=fun σ H Q=>∃τ L Q3,ve G H σ τ/\j8 G H L/\t τ L Q3/\abz G H Q3 Q
def upA(G:G3)(t:dN):TA:=fun σ H Q=>∃τ L Q3,ve G H σ τ/\j8 G H L/\t τ L Q3/\ao0 G H Q3 Q
def upS(G:G3)(t:k6):L2.TS:=fun D σ H=>∃τ L D3,ve G H σ τ/\j8 G H L/\t D3 τ L/\abm G H D3 D
def upG(G:G3)(g:jJ):TG:=fun v σ H Q=>∃y τ L Q3,RV G H y v/\ve G H σ τ/\j8 G H L/\g y τ L Q3/\lS G H Q3 Q
def ame(G:G3)(g:u8):TGs:=fun vs σ H Q=>∃ys τ L Q3,xk G H ys vs/\ve G H σ τ/\j8 G H L/\g ys τ L Q3/\lS G H Q3 Q
structure nF(G:G3)(H₀:Hp)(J:It)(ys:List Y)(keep:qk->Prop):Prop where
 go:∀i H L,j4 H₀ H->j8 G H L->keep L->i<ys.length->J.go i H
 yld:∀i H L x H' y,j4 H₀ H->j8 G H L->keep L->ys[i]?=some y->J.yld i H x H'->j4 H H'/\j8 G H' L/\RV G H' y x
 stop:∀H L,j4 H₀ H->j8 G H L->keep L->J.stop ys.length H
def upI(G:G3)(wi:TI3):TI:=fun σ H R=>∃τ L R3,ve G H σ τ/\j8 G H L/\wi τ L R3/\∀J H' ys keep L',j4 H H'->j8 G H' L'->nF G H' J ys keep->R3 ys keep L'->R J H'
def dy(G:G3)(r3:kW):R2:=fun x y H Q=>∃x3 y3 L Q3,RV G H x3 x/\RV G H y3 y/\j8 G H L/\r3 x3 y3 L Q3/\tH G H Q3 Q
def upL(G:G3)(r3:List Y->qk->YK->Prop):List V->Hp->VK->Prop:=fun xs H Q=>∃ys L Q3,xk G H ys xs/\j8 G H L/\r3 ys L Q3/\tH G H Q3 Q
def upU(G:G3)(r3:Y->qk->YK->Prop):V->Hp->VK->Prop:=fun x H Q=>∃y L Q3,RV G H y x/\j8 G H L/\r3 y L Q3/\tH G H Q3 Q
theorem PE.imp{t u:TE}(h:PE X e t)(q:∀σ H Q,u σ H Q->t σ H Q):PE X e u:=fun pins s σ H Q I z=>h pins s σ H Q I (q σ H Q z)
abbrev DC:=@PE.imp
theorem PT.imp{t u:TT}(h:PT X e t)(q:∀σ H Q,u σ H Q->t σ H Q):PT X e u:=fun pins s σ H Q I z=>h pins s σ H Q I (q σ H Q z)
theorem PW.imp{t u:TT}(h:PW X e t)(q:∀σ H Q,u σ H Q->t σ H Q):PW X e u:=fun wh pins s σ H Q I z=>h wh pins s σ H Q I (q σ H Q z)
theorem PA.imp{e:List Expr}{u:TA}(h:PA X e t)(q:∀σ H Q,u σ H Q->t σ H Q):PA X e u:=fun pos pins s σ H Q I z=>h pos pins s σ H Q I (q σ H Q z)
theorem PS.imp{e:Stmt}{t u:L2.TS}(h:PS X e t)(q:∀D σ H,u D σ H->t D σ H):PS X e u:=fun pins s σ H Q I z=>h pins s σ H Q I (q _ σ H z)
abbrev DG:=@PS.imp
theorem mH.imp{e:List Stmt}{t u:L2.TS}(h:mH X e t)(q:∀D σ H,u D σ H->t D σ H):mH X e u:=fun pins s σ H Q I z=>h pins s σ H Q I (q _ σ H z)
theorem PF.imp{e:List Expr}{t u:TT}(h:PF X e t)(q:∀σ H Q,u σ H Q->t σ H Q):PF X e u:=fun pins s σ H Q I z=>h pins s σ H Q I (q σ H Q z)
end L3
variable {g:L3.jJ}{y:L3.Y}{D:L3.xo}{tA tc:L3.iS}{tb te ti to:L3.x4}{ys:List L3.Y}{L L' L0 L1:L3.qk}{G:L3.G3}{τ:L3.j9}{tr:L3.dN}
namespace L3
open PySem L2
def km(b:Bool)(A B:Prop):Prop:=match b with
 |true=>A
 |false=>B
theorem cD{b:Bool}{A B:Prop}(e:b=true)(h:A):km b A B:=by rw[e];exact h
theorem kh{b:Bool}{A B:Prop}(e:b=false)(h:B):km b A B:=by rw[e];exact h
theorem xm{p:Prop} [Decidable p]{A B:Prop}(h:p->A)(k:¬p->B):km (decide p) A B:=by
 by_cases c:p
 ·rw[Aw c];exact h c
 ·rw[As c];exact k c
def nb(neg b:Bool):Bool:=match neg with
 |true=>!b
 |false=>b
def qa(i:Nat)(τ:j9)(L:qk)(Q:YK):Prop:=match uk τ i with
 |some y=>Q y L
 |none=>False
def yC(y:Y)(_:j9)(L:qk)(Q:YK):Prop:=Q y L
def zm(r:kW)(ta tb:x4)(τ:j9)(L:qk)(Q:YK):Prop:=ta τ L fun x L1=>tb τ L1 fun y L2=>r x y L2 Q
def yUn(r:Y->qk->YK->Prop)(ta:x4)(τ:j9)(L:qk)(Q:YK):Prop:=ta τ L fun x L1=>r x L1 Q
def yI(C:Int->Int->Prop)(g:Int->Int->Y)(x y:Y)(L:qk)(Q:YK):Prop:=match x,y with
 |.int i,.int j=>C i j/\Q (g i j) L
 |_,_=>False
def yI0(g:Int->Int->Y)(x y:Y)(L:qk)(Q:YK):Prop:=match x,y with
 |.int i,.int j=>Q (g i j) L
 |_,_=>False
def aku(x:Y)(L:qk)(Q:YK):Prop:=match x with
 |.int i=>Q (.int (-i)) L
 |_=>False
def bN(L:qk):Y->Option (List Y)
 |.tup ys=>some ys
 |.sq ys=>some ys
 |.ref a=>match L a with
  |some (.lst ys)=>some ys
  |_=>none
 |_=>none
@[irreducible] def dQ (L:qk) (a:Addr) (k:List Y->Prop):Prop:=match L a with
 |some (.lst ys)=>k ys
 |_=>False
theorem v5{k:List Y->Prop}(h:dQ L a k):∃ys,L a=some (.lst ys)/\k ys:=by
 unfold dQ at h;split at h
 ·rename_i ys e;exact⟨ys,e,h⟩
 ·exact h.elim
theorem qu{k:List Y->Prop}(e:L a=some (.lst ys))(h:k ys):dQ L a k:=by unfold dQ;rw[e];exact h
def iI(L:qk)(x:Y)(k:List Y->Prop):Prop:=match x with
 |.tup ys=>k ys
 |.sq ys=>k ys
 |.ref a=>dQ L a k
 |_=>False
theorem zd(h:L a=some (.lst ys)):bN L (.ref a)=some ys:=by show(match L a with | some (.lst ys)=>some ys | _=>none)=some ys;rw[h]
theorem aA{x:Y}{k:List Y->Prop}(h:iI L x k):∃ys,bN L x=some ys/\k ys:=by
 cases x with
 |tup ys=>exact⟨ys,rfl,h⟩
 |sq ys=>exact⟨ys,rfl,h⟩
 |ref a=>obtain⟨ys,e,q⟩:=v5 h;exact⟨ys,zd e,q⟩
 |_=>exact h.elim
theorem mS(h:bN L (.ref a)=some ys):L a=some (.lst ys):=by
 have h':(match L a with | some (.lst ys)=>some ys | _=>none)=some ys:=h;split at h'
 ·rename_i e;cases h';exact e
 ·cases h'
theorem ac8{x:Y}{k:List Y->Prop}(e:bN L x=some ys)(h:k ys):iI L x k:=by cases x with|tup zs=>cases e;exact h|sq zs=>cases e;exact h|ref a=>exact qu (mS e) h|_=>cases e
theorem qe{k:List Y->Prop}(e:L a=some (.lst ys))(h:k ys):iI L (.ref a) k:=ac8 (zd e) h
def vm(x y:Y)(L:qk)(Q:YK):Prop:=match x,y with
 |.int i,.int j=>Q (.int (i+j)) L
 |.str a,.str b=>a.length+b.length≤sizeLine/\Q (.str (a++b)) L
 |.ref a,.ref b=>∃ys zs,L a=some (.lst ys)/\L b=some (.lst zs)/\ys.length+zs.length≤sizeLine/\∀p,L p=none->Q (.ref p) (qd L p (.lst (ys++zs)))
 |_,_=>False
def uY(L:qk)(Q:α->qk->Prop):Option α->Prop
 |some v=>Q v L
 |none=>False
def wz(kvs:List (jf×Y))(k:jf):Option Y:=(kvs.find? fun p=>decide (p.1=k)).map (·.2)
@[irreducible] def nZ (L:qk) (a:Addr) (k:List (jf×Y)->Prop):Prop:=match L a with
 |some (.dct kvs)=>k kvs
 |_=>False
theorem cW{k:List (jf×Y)->Prop}(h:nZ L a k):∃kvs,L a=some (.dct kvs)/\k kvs:=by
 unfold nZ at h;split at h
 ·rename_i ys e;exact⟨ys,e,h⟩
 ·exact h.elim
theorem i6{k:List (jf×Y)->Prop}{kvs:List (jf×Y)}(e:L a=some (.dct kvs))(h:k kvs):nZ L a k:=by unfold nZ;rw[e];exact h
def bM(x y:Y)(L:qk)(Q:YK):Prop:=match x,y with
 |.str z,.int i=>z.length≤sizeLine/\uY L (fun c L=>Q (.str ⟨#[c]⟩) L) (bW z.cps.toList i)
 |.cd kvs,.str k=>uY L (fun s L=>Q (.str s) L) (kvs.lookup k)
 |.ref a,.str k=>nZ L a fun kvs=>uY L Q (wz kvs (.inr k))
 |x,.int i=>iI L x fun ys=>uY L Q (bW ys i)
 |_,_=>False
def eK(xs:List Y)(L:qk)(Q:YK):Prop:=match xs with
 |[.str z]=>z.length≤sizeLine/\Q (.int z.length) L
 |[x]=>iI L x fun ys=>Q (.int ys.length) L
 |_=>False
def ahl(xs:List Y)(L:qk)(Q:YK):Prop:=match xs with
 |[.int i,.int j]=>Q (.int (max i j)) L
 |_=>False
def ahz(xs:List Y)(L:qk)(Q:YK):Prop:=match xs with
 |[.int i,.int j]=>Q (.int (min i j)) L
 |_=>False
inductive o5 where
 |non | bool | int | str | tuple | list | dict
def o5.nm:o5->String
 |.non => "NoneType"
 |.bool => "bool"
 |.int => "int"
 |.str => "str"
 |.tuple => "tuple"
 |.list => "list"
 |.dict => "dict"
def tyY(L:qk):Y->Option o5
 |.non=>some .non
 |.bl _=>some .bool
 |.int _=>some .int
 |.str _=>some .str
 |.tup _=>some .tuple
 |.sq _=>some .list
 |.ref a=>match L a with
  |some (.lst _)=>some .list
  |some (.dct _)=>some .dict
  |_=>none
 |_=>none
theorem tyL(h:L a=some (.lst ys)):tyY L (.ref a)=some .list:=by show(match L a with | some (.lst _)=>some o5.list | some (.dct _)=>some .dict | _=>none)=some .list;rw[h]
def xX:o5->o5->Bool
 |.bool,.int=>true
 |.bool,.bool=>true
 |.int,.int=>true
 |.str,.str=>true
 |.tuple,.tuple=>true
 |.list,.list=>true
 |.dict,.dict=>true
 |.non,.non=>true
 |_,_=>false
@[irreducible] def tyK (L:qk) (a:Addr) (k:o5->Prop):Prop:=match tyY L (.ref a) with
 |some T=>k T
 |none=>False
theorem aaz{k:o5->Prop}(h:tyK L a k):∃T,tyY L (.ref a)=some T/\k T:=by
 unfold tyK at h;split at h
 ·rename_i T e;exact⟨T,e,h⟩
 ·exact h.elim
theorem abn{k:o5->Prop}(e:L a=some (.lst ys))(h:k .list):tyK L a k:=by unfold tyK;rw[tyL e];exact h
def ajo(L:qk)(x:Y)(k:o5->Prop):Prop:=match x with
 |.non=>k .non
 |.bl _=>k .bool
 |.int _=>k .int
 |.str _=>k .str
 |.tup _=>k .tuple
 |.sq _=>k .list
 |.ref a=>tyK L a k
 |_=>False
theorem wQ{x:Y}{k:o5->Prop}(h:ajo L x k):∃T,tyY L x=some T/\k T:=by cases x with|ref a=>exact aaz h|ty n=>exact h.elim|cd k=>exact h.elim|_=>exact⟨_,rfl,h⟩
def jA(S:o5)(te:x4)(τ:j9)(L:qk)(Q:YK):Prop:=te τ L fun x L1=>ajo L1 x fun T=>Q (.bl (xX T S)) L1
def gi:Y->Bool
 |.non=>true
 |.bl _=>true
 |.int _=>true
 |.str _=>true
 |_=>false
def fU:Y->V
 |.non=>.non
 |.bl b=>.bl b
 |.int i=>.int i
 |.str x=>.str x
 |_=>.ty "?"
theorem RV.flat :∀{y:Y} {v:V},gi y=true->RV G H y v->v=fU y
 |.non,_,_,h=>h
 |.bl _,_,_,h=>h
 |.int _,_,_,h=>h
 |.str _,_,_,h=>h
theorem eW:∀{y:Y},gi y=true->aH (fU y)=true
 |.non,_=>rfl
 |.bl _,_=>rfl
 |.int _,_=>rfl
 |.str _,_=>rfl
theorem xk.flat :∀{ys:List Y} {xs:List V},ys.all gi=true->xk G H ys xs->xs=ys.map fU
 |[],_,_,h=>h
 |y::ys,_,f,⟨x,xs',e,r,s⟩=>by rw[CO,A2] at f;rw[e,r.flat f.1,s.flat f.2];rfl
def qX:Y->Bool
 |.ref _=>true
 |.sq _=>true
 |_=>false
def ji(L:qk):Nat->Y->Da->Prop
 |0,y,d=>gi y=true/\d=.s (fU y)
 |n+1,y,d=>(gi y=true/\d=.s (fU y))\/(∃ys ds,y=.tup ys/\d=.tup ds/\Paired (ji L n) ys ds)\/(∃ys ds,qX y=true/\d=.lst ds/\bN L y=some ys/\Paired (ji L n) ys ds)
def ahn:Y->Bool
 |.ref _=>true
 |.tup _=>true
 |.sq _=>true
 |_=>false
def rC(neg:Bool)(x y:Y)(L:qk)(Q:YK):Prop:=match x,y with
 |.int i,.int j=>Q (.bl (nb neg (decide (i=j)))) L
 |.str i,.str j=>Q (.bl (nb neg (decide (i=j)))) L
 |.bl i,.bl j=>Q (.bl (nb neg (decide (i=j)))) L
 |x,y=>ahn x=true/\ahn y=true/\∃n m d e,n≤128/\ji L n x d/\ji L m y e/\Q (.bl (nb neg (Da.eq d e))) L
def lP(neg:Bool)(ta:x4)(τ:j9)(L:qk)(Q:YK):Prop:=ta τ L fun x L1=>match x with
 |.non=>Q (.bl (!neg)) L1
 |_=>Q (.bl neg) L1
def yB(t:x4)(τ:j9)(L:qk)(Q:Bool->qk->Prop):Prop:=t τ L fun x L1=>match x with
 |.bl c=>Q c L1
 |_=>False
def ajs(t u:iS)(τ:j9)(L:qk)(Q:Bool->qk->Prop):Prop:=t τ L fun c L1=>km c (u τ L1 Q) (Q false L1)
def rE(t u:iS)(τ:j9)(L:qk)(Q:Bool->qk->Prop):Prop:=t τ L fun c L1=>km c (Q true L1) (u τ L1 Q)
def mn(t:iS)(τ:j9)(L:qk)(Q:Bool->qk->Prop):Prop:=t τ L fun c L1=>Q (!c) L1
def qK(ta tb:x4)(τ:j9)(L:qk)(Q:YK):Prop:=ta τ L fun x L1=>match x with
 |.bl c=>km c (tb τ L1 Q) (Q (.bl false) L1)
 |_=>False
def af3(ta:x4)(τ:j9)(L:qk)(Q:YK):Prop:=ta τ L fun x L1=>match x with
 |.bl c=>Q (.bl (!c)) L1
 |_=>False
def yIf(t:iS)(ta tb:x4)(τ:j9)(L:qk)(Q:YK):Prop:=t τ L fun c L1=>km c (ta τ L1 Q) (tb τ L1 Q)
def qz(_:j9)(L:qk)(Q:List Y->qk->Prop):Prop:=Q [] L
def qh(ta:x4)(tr:dN)(τ:j9)(L:qk)(Q:List Y->qk->Prop):Prop:=ta τ L fun x L1=>tr τ L1 fun xs L2=>Q (x::xs) L2
def aX(t:dN)(τ:j9)(L:qk)(Q:YK):Prop:=t τ L fun ys L1=>match Nat.ble ys.length 1000 with
 |true=>Q (.tup ys) L1
 |false=>False
def xz(t:dN)(τ:j9)(L:qk)(Q:YK):Prop:=t τ L fun ys L1=>match Nat.ble ys.length 1000 with
 |true=>∀p,L1 p=none->Q (.ref p) (qd L1 p (.lst ys))
 |false=>False
def lK(r:List Y->qk->YK->Prop)(t:dN)(τ:j9)(L:qk)(Q:YK):Prop:=t τ L fun vs L1=>r vs L1 Q
abbrev TO3:=j9->qk->(Option Int->qk->Prop)->Prop
def fI(_:j9)(L:qk)(Q:Option Int->qk->Prop):Prop:=Q none L
def iw(t:x4)(τ:j9)(L:qk)(Q:Option Int->qk->Prop):Prop:=t τ L fun x L1=>match x with
 |.int i=>Q (some i) L1
 |_=>False
def o9(xs:List Y)(lo hi:Option Int):List Y:=(xs.drop (HT.sIx xs.length 0 lo)).take (HT.sIx xs.length xs.length hi - HT.sIx xs.length 0 lo)
def aj5(x:Y)(lo hi:Option Int)(L:qk)(Q:YK):Prop:=match x with
 |.ref a=>dQ L a fun ys=>∀p,L p=none->Q (.ref p) (qd L p (.lst (o9 ys lo hi)))
 |.sq ys=>∀p,L p=none->Q (.ref p) (qd L p (.lst (o9 ys lo hi)))
 |_=>False
def ySl(r:Y->Option Int->Option Int->qk->YK->Prop)(te:x4)(tl th:TO3)(τ:j9)(L:qk)(Q:YK):Prop:=te τ L fun x L1=>tl τ L1 fun l L2=>th τ L2 fun u L3=>r x l u L3 Q
def qo(t u:k6)(D:xo)(τ:j9)(L:qk):Prop:=t { D with nx:=u D } τ L
def jw(D:xo)(τ:j9)(L:qk):Prop:=D.nx τ L
def aeg(D:xo)(τ:j9)(L:qk):Prop:=D.ct τ L
def jx(te:x4)(D:xo)(τ:j9)(L:qk):Prop:=te τ L fun _ L1=>D.nx τ L1
def jd(te:x4)(D:xo)(τ:j9)(L:qk):Prop:=te τ L D.rt
def aen(D:xo)(_:j9)(L:qk):Prop:=D.rt .non L
def vg(c:iS)(t u:k6)(D:xo)(τ:j9)(L:qk):Prop:=c τ L fun b L1=>km b (t D τ L1) (u D τ L1)
def z8(te:x4)(g:jJ)(D:xo)(τ:j9)(L:qk):Prop:=te τ L fun x L1=>g x τ L1 D.nx
def bT:j9->Nat->Y->j9
 |[],_,_=>[]
 |_::r,0,y=>some y::r
 |o::r,i+1,y=>o::bT r i y
theorem wg:∀(τ:j9) (i:Nat) (y:Y),bT τ i y=τ.set i (some y)
 |[],_,_=>rfl
 |_::_,0,_=>rfl
 |o::r,i+1,y=>by rw[bT,wg r i y];rfl
def qc(i:Nat)(y:Y)(τ:j9)(L:qk)(Q:j9->qk->Prop):Prop:=Q (bT τ i y) L
def ky(ys:List Y)(τ:j9)(L:qk)(Q:j9->qk->Prop):Prop:=match ys with
 |[]=>Q τ L
 |_=>False
def zu(t:jJ)(u:u8)(ys:List Y)(τ:j9)(L:qk)(Q:j9->qk->Prop):Prop:=match ys with
 |[]=>False
 |y::r=>t y τ L fun τ' L'=>u r τ' L' Q
def wx(n:Nat)(t:u8)(y:Y)(τ:j9)(L:qk)(Q:j9->qk->Prop):Prop:=match y with
 |.tup ys=>match ys.length==n with
  |true=>t ys τ L Q
  |false=>False
 |_=>False
def ag4(i j:Nat)(ta:dN)(D:xo)(τ:j9)(L:qk):Prop:=ta τ L fun vs L1=>match vs with
 |[v,w]=>D.nx (bT (bT τ i v) j w) L1
 |_=>False
def ipY(f:Int->Int->Int)(x y:Y)(L:qk)(Q:YK):Prop:=match x,y with
 |.int i,.int j=>Q (.int (f i j)) L
 |_,_=>False
def ad0(i:Nat)(te:x4)(ti:kW)(D:xo)(τ:j9)(L:qk):Prop:=match uk τ i with
 |some x=>te τ L fun y L1=>ti x y L1 fun z L2=>D.nx (bT τ i z) L2
 |none=>False
def bV(W:α->qk->Prop)(x:α)(L:qk):Prop:=∃L',qg L' L/\W x L'
theorem frg{W:α->qk->Prop}{x:α}(h:W x L):bV W x L:=⟨L,DA L,h⟩
def oR(c:iS)(tb:k6)(D:xo)(τ:j9)(L:qk):Prop:=∃W:Nat->j9->qk->Prop,(∃m,W m τ L)/\∀m τ L,W m τ L->
 c τ L fun b L1=>km b (∃N:j9->qk->Prop,(∀τ' L',N τ' L'->∃m',m'<m/\W m' τ' L')/\tb { D with nx:=bV N,ct:=bV N,bk:=D.nx } τ L1) (D.nx τ L1)
@[irreducible] def rX (ys:List Y) (keep:qk->Prop) (g:jJ) (tb:k6) (D:xo) (τ:j9) (L1:qk):Prop:=∃W:Nat->j9->qk->Prop,W 0 τ L1/\(∀i τ L,W i τ L->keep L)/\
 (∀i y τ L,ys[i]?=some y->W i τ L->g y τ L fun τ2 L2=>tb { D with nx:=bV (W (i+1)),ct:=bV (W (i+1)),bk:=D.nx } τ2 L2)/\∀τ L,W ys.length τ L->D.nx τ L
theorem aK{keep:qk->Prop}{tb:k6}(h:∃W:Nat->j9->qk->Prop,W 0 τ L1/\(∀i τ L,W i τ L->keep L)/\
 (∀i y τ L,ys[i]?=some y->W i τ L->g y τ L fun τ2 L2=>tb { D with nx:=bV (W (i+1)),ct:=bV (W (i+1)),bk:=D.nx } τ2 L2)/\∀τ L,W ys.length τ L->D.nx τ L):rX ys keep g tb D τ L1:=by unfold rX;exact h
theorem xI{keep:qk->Prop}{tb:k6}(h:rX ys keep g tb D τ L1):∃W:Nat->j9->qk->Prop,W 0 τ L1/\(∀i τ L,W i τ L->keep L)/\
 (∀i y τ L,ys[i]?=some y->W i τ L->g y τ L fun τ2 L2=>tb { D with nx:=bV (W (i+1)),ct:=bV (W (i+1)),bk:=D.nx } τ2 L2)/\∀τ L,W ys.length τ L->D.nx τ L:=by unfold rX at h;exact h
def a7(wi:TI3)(g:jJ)(tb:k6)(D:xo)(τ:j9)(L:qk):Prop:=wi τ L fun ys keep L1=>rX ys keep g tb D τ L1
@[irreducible] def qW (L:qk) (a:Addr) (R:List Y->(qk->Prop)->qk->Prop):Prop:=match L a with
 |some (.lst ys)=>R ys (fun L=>L a=some (.lst ys)) L
 |_=>False
theorem jk{R:List Y->(qk->Prop)->qk->Prop}(h:L a=some (.lst ys))(q:∀keep:qk->Prop,(∀L',L' a=L a->keep L')->R ys keep L):qW L a R:=by unfold qW;rw[h];exact q _ fun L' e'=>e'.trans h
theorem qZ{R:List Y->(qk->Prop)->qk->Prop}(h:qW L a R):∃ys keep,bN L (.ref a)=some ys/\keep L/\(∀L',keep L'->bN L' (.ref a)=some ys)/\R ys keep L:=by
 unfold qW at h;split at h
 ·rename_i ys e;exact⟨ys,_,zd e,e,fun L' e'=>zd e',h⟩
 ·exact h.elim
def jq(tl:x4)(τ:j9)(L:qk)(R:List Y->(qk->Prop)->qk->Prop):Prop:=tl τ L fun x L1=>match x with
 |.ref a=>qW L1 a R
 |.sq ys=>R ys (fun _=>True) L1
 |_=>False
def kz(lo:Int)(n:Nat):List Y:=(List.range n).map fun k=>.int (lo+(k:Nat))
def gA(ta:dN)(τ:j9)(L:qk)(R:List Y->(qk->Prop)->qk->Prop):Prop:=ta τ L fun vs L1=>match vs with
 |[.int j]=>(-(2 ^ 62)≤j/\j<2 ^ 62)/\R (kz 0 j.toNat) (fun _=>True) L1
 |_=>False
def m9(_:j9)(L:qk)(Q:Bool->qk->Prop):Prop:=Q true L
@[irreducible] def lcK (ys:List Y) (keep:qk->Prop) (n:Nat) (g:jJ) (tc:iS) (te:x4) (τ:j9) (L1:qk) (Q:YK):Prop:=ys.length<sizeLine/\∃W:Nat->List Y->qk->Prop,W 0 [] L1/\(∀i zs L,W i zs L->keep L)/\
 (∀i y zs L,ys[i]?=some y->W i zs L->g y (τ++List.replicate n none) L fun τ2 L2=>tc τ2 L2 fun b L3=>km b (te τ2 L3 fun z L4=>bV (W (i+1)) (zs++[z]) L4) (bV (W (i+1)) zs L3))/\
 ∀zs L,W ys.length zs L->∀p,L p=none->Q (.ref p) (qd L p (.lst zs))
theorem ss{keep:qk->Prop}{Q:YK}(h:ys.length<sizeLine/\∃W:Nat->List Y->qk->Prop,W 0 [] L1/\(∀i zs L,W i zs L->keep L)/\
 (∀i y zs L,ys[i]?=some y->W i zs L->g y (τ++List.replicate n none) L fun τ2 L2=>tc τ2 L2 fun b L3=>km b (te τ2 L3 fun z L4=>bV (W (i+1)) (zs++[z]) L4) (bV (W (i+1)) zs L3))/\
 ∀zs L,W ys.length zs L->∀p,L p=none->Q (.ref p) (qd L p (.lst zs))):lcK ys keep n g tc te τ L1 Q:=by unfold lcK;exact h
theorem acb{keep:qk->Prop}{Q:YK}(h:lcK ys keep n g tc te τ L1 Q):ys.length<sizeLine/\∃W:Nat->List Y->qk->Prop,W 0 [] L1/\(∀i zs L,W i zs L->keep L)/\
 (∀i y zs L,ys[i]?=some y->W i zs L->g y (τ++List.replicate n none) L fun τ2 L2=>tc τ2 L2 fun b L3=>km b (te τ2 L3 fun z L4=>bV (W (i+1)) (zs++[z]) L4) (bV (W (i+1)) zs L3))/\
 ∀zs L,W ys.length zs L->∀p,L p=none->Q (.ref p) (qd L p (.lst zs)):=by unfold lcK at h;exact h
def nP(n:Nat)(wi:TI3)(g:jJ)(tc:iS)(te:x4)(τ:j9)(L:qk)(Q:YK):Prop:=wi τ L fun ys keep L1=>lcK ys keep n g tc te τ L1 Q
abbrev jc:=List Y->qk->YK->Prop
def qw(sp:jc)(t:dN)(τ:j9)(L:qk)(Q:YK):Prop:=t τ L fun ys L1=>sp ys L1 Q
def zw(x:Y)(vs:List Y)(L:qk)(Q:YK):Prop:=match x,vs with
 |.ref a,[v]=>dQ L a fun ys=>ys.length<sizeLine/\Q .non (qd L a (.lst (ys++[v])))
 |_,_=>False
def fS(x:Y)(vs:List Y)(L:qk)(Q:YK):Prop:=match x,vs with
 |.ref a,[.ref b]=>dQ L a fun ys=>dQ L b fun zs=>ys.length+zs.length≤sizeLine/\Q .non (qd L a (.lst (ys++zs)))
 |_,_=>False
section
theorem ko.imp{f:Value->Value->Sem Value}{r r':R2}(h:ko X f r)(q:∀x y H Q,r' x y H Q->r x y H Q):ko X f r':=fun pins s σ H x y v u Q I rx ry z=>h pins s σ H x y v u Q I rx ry (q x y H Q z)
theorem UnR.imp{f:Value->Sem Value}{r r':V->Hp->VK->Prop}(h:UnR X f r)(q:∀x H Q,r' x H Q->r x H Q):UnR X f r':=fun pins s σ H x v Q I rx z=>h pins s σ H x v Q I rx (q x H Q z)
theorem ju.imp{f:Value}{r r':List V->Hp->VK->Prop}(h:ju X f r)(q:∀x H Q,r' x H Q->r x H Q):ju X f r':=fun pins s σ H x v Q I rx z=>h pins s σ H x v Q I rx (q x H Q z)
abbrev DP:=@ju.imp
theorem xY.imp{r r':R2}(h:xY X r)(q:∀x y H Q,r' x y H Q->r x y H Q):xY X r':=fun value slice pins s σ H x y v u Q I rx ry z=>h value slice pins s σ H x y v u Q I rx ry (q x y H Q z)
theorem nG.imp{id:String}{r r':V->List V->Hp->VK->Prop}(h:nG X id r)(q:∀x xs H Q,r' x xs H Q->r x xs H Q):nG X id r':=fun pins s σ H x xs v us Q I rx ry z=>h pins s σ H x xs v us Q I rx ry (q x xs H Q z)
theorem nL(rl:j8 G H L)(r:RV G H y v)(h:bN L y=some ys):∃p xs,v=.ref p/\(aE G.K H p xs\/f9 G.K H p xs)/\xk G H ys xs:=by
 cases y with
 |tup zs=>
  obtain⟨a,xs,e,s,q⟩:=r;cases h;exact⟨a,xs,e,.inr s,q⟩
 |sq zs=>
  obtain⟨a,xs,e,s,q⟩:=r;cases h;exact⟨a,xs,e,.inl s.sq,q⟩
 |ref a=>
  cases (show v=.ref a from r);have h':(match L a with | some (.lst ys)=>some ys | _=>none)=some ys:=h;split at h'
  ·rename_i zs e;cases h';obtain⟨xs,e2,q⟩:=rl a _ e;exact⟨a,xs,rfl,.inl (aE.of e2),q⟩
  ·cases h'
 |_=>cases h
theorem ahi{i:Int}(s:xk G H ys xs)(h:bW ys i=some y):∃x,bW xs i=some x/\RV G H y x:=by
 unfold bW at h ⊢;rw[<-s.length];cases e:zQ ys.length i with
 |none=>rw[e] at h;cases h
 |some j=>
  rw[e] at h;exact s.get (i:=j) h
end
section
variable {a b:Expr}{ta tc:x4} 
abbrev QE(X:Cx)(e:Expr)(t:x4):Prop:=PE X e (o6 X.g3 t)
abbrev QT(X:Cx)(e:Expr)(t:iS):Prop:=PT X e (upT X.g3 t)
abbrev QW(X:Cx)(e:Expr)(t:iS):Prop:=PW X e (upT X.g3 t)
abbrev QA(X:Cx)(es:List Expr)(t:dN):Prop:=PA X es (upA X.g3 t)
abbrev QS(X:Cx)(st:Stmt)(t:k6):Prop:=PS X st (upS X.g3 t)
abbrev rD(X:Cx)(st:List Stmt)(t:k6):Prop:=mH X st (upS X.g3 t)
abbrev QG(X:Cx)(e:Expr)(g:jJ):Prop:=PG X e (upG X.g3 g)
abbrev QGs(X:Cx)(es:List Expr)(g:u8):Prop:=PGs X es (ame X.g3 g)
abbrev QI(X:Cx)(tg it:Expr)(w:TI3):Prop:=PI X tg it (upI X.g3 w)
abbrev QF(X:Cx)(es:List Expr)(t:iS):Prop:=PF X es (upT X.g3 t)
theorem QE.of_var(h:PE X e (afu i)):QE X e (qa i):=DC h fun σ H Q ⟨τ,L,Q3,rs,rl,z,k⟩=>by
 unfold qa at z;split at z
 ·rename_i y ey;obtain⟨v,ev,rv⟩:=rs.get i y (nJ _ _ ey);exact⟨v,ev,k v H y L (DB _) rl rv z⟩
 ·exact z.elim
theorem QE.of_c(h:PE X e (tC v))(q:∀H,RV X.g3 H y v):QE X e (yC y):=DC h fun σ H Q ⟨τ,L,Q3,rs,rl,z,k⟩=>k v H y L (DB _) rl (q H) z
theorem qv(i:Nat)(hN:X.N[i]?=some x:=by rfl)(hv:Vis X.env.scope x:=by first | exact Or.inl rfl | exact Or.inr (Or.inl rfl) | exact Or.inr (Or.inr rfl))(hd:Dl x:=by decide)
 (hcd:Dm x:=by decide):QE X (.Name x pos) (qa i):=QE.of_var (pv i hN hv hd hcd)
theorem yY :QE X (.Constant .none j pos) (yC .non):=QE.of_c ahw fun _=>rfl
theorem dz{b:Bool} :QE X (.Constant (.bool b) j pos) (yC (.bl b)):=QE.of_c al0 fun _=>rfl
theorem qj{i:Int} :QE X (.Constant (.int i) j pos) (yC (.int i)):=QE.of_c ahy fun _=>rfl
theorem jh :QE X (.Constant (.str x) j pos) (yC (.str x)):=QE.of_c agu fun _=>rfl
theorem akn{c:Addr}(hg:Gl X x)(hm:X.mg x=some (.ref c))(q:∀H,RV X.g3 H y (.ref c))(hd:Dl x:=by decide):QE X (.Name x pos) (yC y):=QE.of_c (ak6 hg hm hd) q
theorem uH{r:kW}{ta:x4}(σ:St)(H:Hp)(Q:VK):o6 G (zm r ta tb) σ H Q->tOp (dy G r) (o6 G ta) (o6 G tb) σ H Q:=fun⟨τ,L,Q3,rs,rl,z,k⟩=>
 ⟨τ,L,_,rs,rl,z,fun v H1 y L1 t1 rl1 rv1 z1=>⟨τ,L1,_,rs.ts t1,rl1,z1,fun v2 H2 y2 L2 t2 rl2 rv2 z2=>⟨y,y2,L2,Q3,rv1.ts t2,rv2,rl2,z2,k.ts (t1.trans t2)⟩⟩⟩
theorem qp{op:Operator}{r:kW}(h:ko X (binaryOp op) (dy X.g3 r))(ha:QE X a ta)(hb:QE X b tb):QE X (.BinOp a op b pos) (zm r ta tb):=DC (akc h ha hb) uH
theorem al7{r:kW}(h:xY X (dy X.g3 r))(ha:QE X a ta)(hb:QE X b tb)(hp:nX b):QE X (.Subscript a b pos) (zm r ta tb):=DC (aky h ha hb hp) uH
theorem a8{op:CmpOp}{r:kW}(h:ko X (compareOp op) (dy X.g3 r))(ha:QE X a ta)(hb:QE X b tb)(hm:behindInMarks op b=false):QE X (.Compare a [op] [b] pos) (zm r ta tb):=DC (adz h ha hb hm) uH
theorem afe{t:x4}(σ:St)(H:Hp)(Q:Bool->Hp->Prop):upT G (yB t) σ H Q->aa6 (o6 G t) σ H Q:=fun⟨τ,L,Q3,rs,rl,z,k⟩=>
 ⟨τ,L,_,rs,rl,z,fun v H1 y L1 t1 rl1 rv1 z1=>by cases y with|bl b=>exact⟨b,rv1,k b H1 L1 t1 rl1 z1⟩|_=>exact z1.elim⟩
theorem aep{t:x4}(σ:St)(H:Hp)(Q:Bool->Hp->Prop):upT G (yB t) σ H Q->L2.tB (o6 G t) σ H Q:=afe σ H Q
theorem vq{op:CmpOp}{r:kW}(h:ko X (compareOp op) (dy X.g3 r))(ha:QE X a ta)(hb:QE X b tb)(hm:behindInMarks op b=false):QT X (.Compare a [op] [b] pos) (yB (zm r ta tb)):=
 PT.imp (aby h ha hb hm) fun σ H Q q=>by have q':=afe σ H Q q;obtain⟨τ,L,Q3,rs,rl,z,k⟩:=q';exact uH σ H _ ⟨τ,L,Q3,rs,rl,z,k⟩
theorem kg(h:QE X e te)(he:∀whole,isTrue e X.env whole=(do let v <-whole;standAt e.pos;holding [v] (truthy v)):=by intro _;rfl):QT X e (yB te):=PT.imp (ag8 h he) aep
theorem OpI{f:Value->Value->Sem Value}{C:Int->Int->Prop}{g:Int->Int->V}{g3:Int->Int->Y}(h:ko X f (rI C g))(e:∀i j H,RV X.g3 H (g3 i j) (g i j)):ko X f (dy X.g3 (yI C g3)):=ko.imp h fun x y H Q ⟨x3,y3,L,Q3,rx,ry,rl,z,k⟩=>by
 cases x3 with
 |int i=>
  cases y3 with|int j=>exact⟨i,j,rx,ry,z.1,k _ H _ L (DB _) rl (e i j H) z.2⟩|_=>exact z.elim
 |_=>cases y3<;>exact z.elim
theorem ack{f:Value->Value->Sem Value}{g:Int->Int->V}{g3:Int->Int->Y}(h:ko X f (rI0 g))(e:∀i j H,RV X.g3 H (g3 i j) (g i j)):ko X f (dy X.g3 (yI0 g3)):=ko.imp h fun x y H Q ⟨x3,y3,L,Q3,rx,ry,rl,z,k⟩=>by
 cases x3 with
 |int i=>
  cases y3 with|int j=>exact⟨i,j,rx,ry,k _ H _ L (DB _) rl (e i j H) z⟩|_=>exact z.elim
 |_=>cases y3<;>exact z.elim
theorem gt:ko X (binaryOp .Sub) (dy X.g3 (yI0 fun i j=>.int (i - j))):=ack agx fun _ _ _=>rfl
theorem cQ:ko X (binaryOp .Mult) (dy X.g3 (yI wV fun i j=>.int (i*j))):=OpI aih fun _ _ _=>rfl
theorem wc:ko X (binaryOp .FloorDiv) (dy X.g3 (yI ahq fun i j=>.int (i / j))):=OpI aci fun _ _ _=>rfl
theorem vz:ko X (binaryOp .Mod) (dy X.g3 (yI (fun _ j=>0<j) fun i j=>.int (i % j))):=OpI ai7 fun _ _ _=>rfl
theorem ak5:ko X (binaryOp .Pow) (dy X.g3 (yI aho fun i j=>.int (i ^ j.toNat))):=OpI afg fun _ _ _=>rfl
theorem se:ko X (compareOp .Lt) (dy X.g3 (yI0 fun i j=>.bl (decide (i<j)))):=ack ajc fun _ _ _=>rfl
theorem al9:ko X (compareOp .LtE) (dy X.g3 (yI0 fun i j=>.bl (decide (i≤j)))):=ack aj6 fun _ _ _=>rfl
theorem afm:ko X (compareOp .Gt) (dy X.g3 (yI0 fun i j=>.bl (decide (j<i)))):=ack ak4 fun _ _ _=>rfl
theorem jo:ko X (binaryOp .Add) (dy X.g3 vm):=ko.imp ad8 fun x y H Q ⟨x3,y3,L,Q3,rx,ry,rl,z,k⟩=>by
 cases x3 with
 |int i=>
  cases y3 with|int j=>cases rx;cases ry;exact k _ H _ L (DB _) rl (by rfl) z|_=>exact z.elim
 |str i=>
  cases y3 with|str j=>cases rx;cases ry;exact⟨z.1,k _ H _ L (DB _) rl (by rfl) z.2⟩|_=>exact z.elim
 |ref a=>
  cases y3 with
  |ref b=>
   cases rx;cases ry;obtain⟨ys,zs,e1,e2,hz,q⟩:=z;obtain⟨xs,h1,r1⟩:=rl a _ e1;obtain⟨us,h2,r2⟩:=rl b _ e2;refine⟨xs,us,h1,h2,by rw[<-r1.length,<-r2.length];exact hz,fun p hp=>?_⟩;exact k _ _ _ _ (DD hp) (rl.newL hp (r1.app r2)) (by rfl) (q p (rl.none hp))
  |_=>exact z.elim
 |_=>cases y3<;>exact z.elim
theorem pN{kvs:List (Str×Str)}{k:Str}(h:kvs.lookup k=some x):dS (kvs.map fun p=>((Sum.inr p.1:jf),V.str p.2)) (Sum.inr k)=some (V.str x):=by
 induction kvs with
 |nil=>simp at h
 |cons p r ih=>
  obtain⟨a,b⟩:=p;unfold dS;rw[AD,Bl];rw[Bi] at h;by_cases c:k=a
  ·subst c;simp at h;simp[h]
  ·have c1:(k==a)=false:=by simpa using c
   rw[c1] at h;have c2:decide ((Sum.inr a:jf)=Sum.inr k)=false:=As fun z=>c (Sum.inr.inj z).symm;simp only[c2];exact ih h
theorem gS{kvs:List (jf×Y)}{xs:List (jf×V)}{k:jf}(p:Paired (fun(p:jf×Y) (q:jf×V)=>p.1=q.1/\RV G H p.2 q.2) kvs xs)(h:wz kvs k=some y):∃x,dS xs k=some x/\RV G H y x:=by
 induction p with
 |nil=>cases h
 |@cons a b _ _ r t ih=>
  obtain⟨ka,ya⟩:=a;obtain⟨kb,vb⟩:=b;obtain⟨e,r⟩:=r;cases (show ka=kb from e);unfold wz at h;unfold dS;rw[Bl] at h ⊢;by_cases c:ka=k
  ·have c':decide (ka=k)=true:=Aw c;simp only[c'] at h ⊢;cases h;exact⟨vb,rfl,r⟩
  ·have c':decide (ka=k)=false:=As c;simp only[c'] at h ⊢;exact ih h
theorem ald(K:Ac)(P:Program)(w:World)(hK:X.K=K:=by rfl)(hP:X.prog=P:=by rfl)(hw:X.w=w:=by rfl):xY X (dy ⟨K,P,w⟩ bM):=by
 subst hK hP hw;refine xY.imp an0 fun x y H Q ⟨x3,y3,L,Q3,rx,ry,rl,z,k⟩=>?_;have seq:∀{i:Int} {x3:Y},RV X.g3 H x3 x->y=.int i->(iI L x3 fun ys=>uY L Q3 (bW ys i))->uIx X.K X.prog X.w x y H Q:=by
  intro i x3 rx ey z;subst ey;obtain⟨ys,es,z⟩:=aA z;obtain⟨p,xs,e,sq,rv⟩:=nL rl rx es;subst e;cases ea:bW ys i with
  |none=>rw[ea] at z;exact z.elim
  |some y=>
   rw[ea] at z;obtain⟨x,ex,rvx⟩:=ahi rv ea;exact⟨xs,x,sq,ex,k _ H _ L (DB _) rl rvx z⟩
 cases x3 with
 |str s=>
  cases y3 with
  |int i=>
   cases rx;cases ry;obtain⟨z1,z2⟩:=z;cases ea:bW s.cps.toList i with
   |none=>rw[ea] at z2;exact z2.elim
   |some c=>rw[ea] at z2;exact⟨z1,c,ea,k _ H _ L (DB _) rl (by rfl) z2⟩
  |_=>exact z.elim
 |cd kvs=>
  cases y3 with
  |str s=>
   obtain⟨a,ea,kd⟩:=rx;cases ea;cases ry;have z':uY L (fun s L=>Q3 (.str s) L) (kvs.lookup s):=z;cases el:kvs.lookup s with
   |none=>rw[el] at z';exact z'.elim
   |some t=>rw[el] at z';exact⟨_,_,.inr kd,pN el,k _ H _ L (DB _) rl (by rfl) z'⟩
  |int i=>exact z.elim
  |_=>exact z.elim
 |ref a=>
  cases y3 with
  |int i=>exact seq (x3:=.ref a) rx ry z
  |str s=>
   cases rx;cases ry;obtain⟨kvs,e,z'⟩:=cW z;obtain⟨xs,e2,pr⟩:=rl a _ e;cases ev:wz kvs (Sum.inr s) with
   |none=>rw[ev] at z';exact z'.elim
   |some y=>
    rw[ev] at z';obtain⟨x,ex,rx⟩:=gS pr ev;exact⟨xs,x,.inl (.inl e2),ex,k _ H _ L (DB _) rl rx z'⟩
  |_=>exact z.elim
 |tup ys=>
  cases y3 with|int i=>exact seq (x3:=.tup ys) rx ry z|_=>exact z.elim
 |sq ys=>
  cases y3 with|int i=>exact seq (x3:=.sq ys) rx ry z|_=>exact z.elim
 |_=>cases y3<;>exact z.elim
theorem xk.inv1(h:xk G H [y] xs):∃x,xs=[x]/\RV G H y x:=by obtain⟨x,xs',e,r,s⟩:=h;cases (show xs'=[] from s);exact⟨x,e,r⟩
theorem xk.inv2{y':Y}(h:xk G H [y,y'] xs):∃x x',xs=[x,x']/\RV G H y x/\RV G H y' x':=by obtain⟨x,xs',e,r,s⟩:=h;obtain⟨x',e',r'⟩:=s.inv1;exact⟨x,x',by rw[e,e'],r,r'⟩
theorem agp(K:Ac)(P:Program)(w:World)(hK:X.K=K:=by rfl)(hP:X.prog=P:=by rfl)(hw:X.w=w:=by rfl):ju X (.builtin "len") (upL ⟨K,P,w⟩ eK):=by
 subst hK hP hw;refine DP vX fun xs H Q ⟨ys,L,Q3,rv,rl,z,k⟩=>?_;unfold eK at z;split at z
 ·obtain⟨x,rfl,r⟩:=rv.inv1;cases r;exact⟨z.1,k _ H _ L (DB _) rl (by rfl) z.2⟩
 ·rename_i y _;obtain⟨x,rfl,r⟩:=rv.inv1;obtain⟨ys,es,z⟩:=aA z;obtain⟨p,us,e,sq,rw'⟩:=nL rl r es;subst e;refine⟨us,sq,?_⟩;rw[<-rw'.length];exact k _ H _ L (DB _) rl (by rfl) z
 ·exact z.elim
theorem ahu(i j:Int):(if j > i then j else i)=max i j:=by split<;>lia
theorem aif(i j:Int):(if j<i then j else i)=min i j:=by split<;>lia
theorem ala(hc:X.calm=true:=by rfl):ju X (.builtin "max") (upL X.g3 ahl):=DP (vY hc) fun xs H Q ⟨ys,L,Q3,rv,rl,z,k⟩=>by
 unfold ahl at z;split at z
 ·rename_i i j;obtain⟨x,x',rfl,r1,r2⟩:=rv.inv2;cases r1;cases r2;refine⟨i,j,rfl,?_⟩;rw[ahu];exact k _ H _ L (DB _) rl (by rfl) z
 ·exact z.elim
theorem akp(hc:X.calm=true:=by rfl):ju X (.builtin "min") (upL X.g3 ahz):=DP (u7 hc) fun xs H Q ⟨ys,L,Q3,rv,rl,z,k⟩=>by
 unfold ahz at z;split at z
 ·rename_i i j;obtain⟨x,x',rfl,r1,r2⟩:=rv.inv2;cases r1;cases r2;refine⟨i,j,rfl,?_⟩;rw[aif];exact k _ H _ L (DB _) rl (by rfl) z
 ·exact z.elim
theorem alf:UnR X (unaryOp .USub) (upU X.g3 aku):=UnR.imp ahd fun x H Q ⟨y,L,Q3,rv,rl,z,k⟩=>by cases y with|int i=>exact⟨i,rv,k _ H _ L (DB _) rl (by rfl) z⟩|_=>exact z.elim
theorem aji{op:UnaryOp}{r:Y->qk->YK->Prop}(h:UnR X (unaryOp op) (upU X.g3 r))(ha:QE X a ta):QE X (.UnaryOp op a pos) (yUn r ta):=DC (ak0 h ha) fun σ H Q ⟨τ,L,Q3,rs,rl,z,k⟩=>
 ⟨τ,L,_,rs,rl,z,fun v H1 y L1 t1 rl1 rv1 z1=>⟨y,L1,Q3,rv1,rl1,z1,k.ts t1⟩⟩
end
section
variable {a b:Expr}{ta tc:x4} 
theorem cG{a:Addr}(rl:j8 G H L)(h:bN L (.ref a)=some ys):∃xs,aE G.K H a xs/\xk G H ys xs:=by
 have h':(match L a with | some (.lst ys)=>some ys | _=>none)=some ys:=h;split at h'
 ·rename_i e;cases h';obtain⟨xs,e2,q⟩:=rl a _ e;exact⟨xs,aE.of e2,q⟩
 ·cases h'
theorem ck(rl:j8 G H L)(r:RV G H y v)(hy:qX y=true)(h:bN L y=some ys):∃a xs,v=.ref a/\aE G.K H a xs/\xk G H ys xs:=by
 cases y with
 |ref a=>obtain⟨xs,s,q⟩:=cG rl h;exact⟨a,xs,r,s,q⟩
 |sq zs=>obtain⟨a,xs,e,s,q⟩:=r;cases h;exact⟨a,xs,e,s.sq,q⟩
 |_=>cases hy
theorem ud{G:G3}{T:o5}{σ:L2.St}(I:qr X pins σ H s)(rl:j8 X.g3 H L)(r:RV X.g3 H y v)(ru:zc v u)(h:tyY L y=some T)
 {c:Value} {b:Bool} (e:PySem.W.kitOne X.K (.type T.nm) c=some b) (hq:∀tk,Q (.bool b) { s with toks:=tk }):
 wpAny (model X.prog X.w) A (call (.builtin "isinstance") [u,c]) Q E s:=by
 cases y with
 |non=>cases h;cases r;exact aR I ru .non e hq
 |bl b=>cases h;cases r;exact aR I ru (.bl _) e hq
 |int i=>cases h;cases r;exact aR I ru (.int _) e hq
 |str x=>cases h;cases r;exact aR I ru (.str _) e hq
 |tup ys=>
  cases h;obtain⟨a,xs,rfl,sq,_⟩:=r;cases (show u=Value.ref a from ru);obtain⟨its,_,⟨o,h1,h2,_⟩,_⟩:=I.tuple sq;exact Be PySem.W.kitx_tuple I.kIn ⟨o,h1,h2⟩ e (fun z=>nomatch z) hq
 |sq ys=>
  cases h;obtain⟨a,xs,rfl,sq,_⟩:=r;cases (show u=Value.ref a from ru);obtain⟨its,_,⟨o,n,h1,h2,_⟩,_⟩:=I.list sq.sq;exact Be CL I.kIn ⟨o,h1,h2⟩ e (fun z=>nomatch z) hq
 |ref a=>
  cases (show v=.ref a from r);have h':(match L a with | some (.lst _)=>some o5.list | some (.dct _)=>some .dict | _=>none)=some T:=h;split at h'
  ·rename_i ys el;cases h';obtain⟨xs,e2,_⟩:=rl a _ el;exact aR I ru (.lst e2) e hq
  ·rename_i kvs el;cases h';obtain⟨xs,e2,_⟩:=rl a _ el;exact aR I ru (.dK e2) e hq
  ·cases h'
 |_=>cases h
theorem act(K:Ac):∀T S:o5,PySem.W.kitOne K (.type T.nm) (.type S.nm)=some (xX T S):=by intro T S;cases T<;>cases S<;>rfl
def aid(G:G3)(S:o5):List V->Hp->VK->Prop:=fun xs H Q=>∃y v L Q3 T,xs=[v,.ty S.nm]/\RV G H y v/\j8 G H L/\tyY L y=some T/\Q3 (.bl (xX T S)) L/\tH G H Q3 Q
theorem ai1(S:o5):ju X (.builtin "isinstance") (aid X.g3 S):=by intro pins s σ H xs us Q I r h;obtain⟨y,v,L,Q3,T,rfl,rv,rl,ty,q,k⟩:=h;obtain⟨u,c,rfl,r1,r2⟩:=zh.two r;cases (show c=Value.type S.nm from r2);exact jy I.tk (ud (G:=X.g3) I rl rv r1 ty (act _ T S) fun tk ht=>⟨.bl _,H,I.tok _,rfl,k _ H _ L (DB _) rl (by rfl) q⟩)
theorem dD{xT:Str}(S:o5)(hg:Gl X "isinstance")(hm:X.mg "isinstance" = none)(hgT:Gl X xT)(hmT:X.mg xT=none)(hvT:bootBuiltins xT=some (.type S.nm))(ha:QE X a ta)
 (hn:xT ≠ "__name__" := by decide) (hd:(xT==("__debug__" : Str))=false:=by decide)
 (hs:starEach [a,.Name xT p1] X.env=(false,eval a X.env)::starEach [.Name xT p1] X.env:=by rfl) (hs2:starEach [.Name xT p1] X.env=(false,eval (.Name xT p1) X.env)::starEach [] X.env:=by rfl)
 (hp:(backTo pos (starEach [.Name xT p1] X.env)).any (·.1)=false:=by rfl):
 QE X (.Call (.Name "isinstance" p) [a,.Name xT p1] [] pos) (jA S ta):=by
 refine DC (qA (ai1 S) hg hm lM (cw ha (cw (akv hgT hmT hvT hn hd) lJ hs2) hs) (by decide) (by decide) hs hp) ?_;rintro σ H Q ⟨τ,L,Q3,rs,rl,z,k⟩;refine⟨τ,L,_,rs,rl,z,fun v H1 y L1 t1 rl1 rv1 z1=>?_⟩;obtain⟨T,et,z1⟩:=wQ z1;exact⟨y,v,L1,Q3,T,rfl,rv1,rl1,et,z1,k.ts t1⟩
def rH(neg:Bool)(x y:Y)(L:qk)(Q:YK):Prop:=iI L y fun ys=>gi x=true/\ys.all gi=true/\Q (.bl (nb neg (tP (fU x) (ys.map fU)))) L
theorem ajn(neg:Bool){op:CmpOp}(h:ko X (compareOp op) (rIn X.K neg)):ko X (compareOp op) (dy X.g3 (rH neg)):=ko.imp h fun x y H Q ⟨x3,y3,L,Q3,rx,ry,rl,z,k⟩=>by
 obtain⟨ys,es,f1,f2,q⟩:=aA z;obtain⟨p,xs,e,sq,rv⟩:=nL rl ry es;rw[rx.flat f1];rw[rv.flat f2] at sq;refine⟨p,_,e,sq,eW f1,?_,?_⟩
 ·rw[List.all_map,B1];intro y hy;exact eW (B1.mp f2 y hy)
 ·have:(if neg=true then !tP (fU x3) (ys.map fU) else tP (fU x3) (ys.map fU))=(nb neg (tP (fU x3) (ys.map fU))):=by cases neg<;>simp[nb]
  rw[this];exact k _ H _ L (DB _) rl (by rfl) q
theorem aju(K:Ac)(P:Program)(w:World)(hK:X.K=K:=by rfl)(hP:X.prog=P:=by rfl)(hw:X.w=w:=by rfl):ko X (compareOp .In) (dy ⟨K,P,w⟩ (rH false)):=by subst hK hP hw;exact ajn false uy
theorem yd(K:Ac)(P:Program)(w:World)(hK:X.K=K:=by rfl)(hP:X.prog=P:=by rfl)(hw:X.w=w:=by rfl):ko X (compareOp .NotIn) (dy ⟨K,P,w⟩ (rH true)):=by subst hK hP hw;exact ajn true oV
theorem ji.rep{G:G3}{H:Hp}{L:qk}(rl:j8 G H L):∀{n:Nat} {y:Y} {d:Da} {v:V},ji L n y d->RV G H y v->v8 G.K H n v d
 |0,y,d,v,⟨f,e⟩,r=>by rw[r.flat f];exact⟨e,eW f⟩
 |n+1,y,d,v,h,r=>by
  have both:∀{ys:List Y} {ds:List Da} {xs:List V},Paired (ji L n) ys ds->xk G H ys xs->Paired (v8 G.K H n) xs ds:=by
   intro ys ds xs p
   induction p generalizing xs with
   |nil=>intro r;cases (show xs=[] from r);exact .nil
   |cons q t ih=>
    rintro⟨x,xs',rfl,r1,r2⟩;exact .cons (ji.rep rl q r1) (ih r2)
  rcases h with⟨f,e⟩ | ⟨ys,ds,rfl,rfl,p⟩ | ⟨ys,ds,hy,rfl,es,p⟩
  ·rw[r.flat f];exact .inl ⟨e,eW f⟩
  ·obtain⟨a,xs,rfl,sq,rv⟩:=r;exact .inr (.inl ⟨a,xs,ds,rfl,rfl,sq,both p rv⟩)
  ·obtain⟨a,xs,rfl,sq,rv⟩:=ck rl r hy es;exact .inr (.inr ⟨a,xs,ds,rfl,rfl,sq,both p rv⟩)
theorem iR(h:ahn y=true)(r:RV G H y v):∃a,v=.ref a:=by
 cases y with
 |ref a=>exact⟨a,r⟩
 |tup ys=>obtain⟨a,xs,e,_⟩:=r;exact⟨a,e⟩
 |sq ys=>obtain⟨a,xs,e,_⟩:=r;exact⟨a,e⟩
 |_=>cases h
theorem mK(K:Ac)(P:Program)(w:World)(hu:X.A.units+128<cLine)(hK:X.K=K:=by rfl)(hP:X.prog=P:=by rfl)(hw:X.w=w:=by rfl):ko X (compareOp .Eq) (dy ⟨K,P,w⟩ (rC false)):=by
 subst hK hP hw;refine ko.imp (aip hu) fun x y H Q ⟨x3,y3,L,Q3,rx,ry,rl,z,k⟩=>?_;unfold rC at z;split at z
 ·rename_i i j;cases rx;cases ry;refine⟨rfl,?_⟩;have:decide (V.int i=V.int j)=nb false (decide (i=j)):=by rw[Bq];simp[nb]
  rw[this];exact k _ H _ L (DB _) rl (by rfl) z
 ·rename_i i j;cases rx;cases ry;refine⟨rfl,?_⟩;have:decide (V.str i=V.str j)=nb false (decide (i=j)):=by rw[Bq];simp[nb]
  rw[this];exact k _ H _ L (DB _) rl (by rfl) z
 ·rename_i i j;cases rx;cases ry;refine⟨rfl,?_⟩;have:decide (V.bl i=V.bl j)=nb false (decide (i=j)):=by rw[Bq];simp[nb]
  rw[this];exact k _ H _ L (DB _) rl (by rfl) z
 ·obtain⟨f1,f2,n,m,d,e,hn,h1,h2,q⟩:=z;obtain⟨a,rfl⟩:=iR f1 rx;obtain⟨b,rfl⟩:=iR f2 ry;have q:Q3 (.bl (Da.eq d e)) L:=q;exact⟨n,m,d,e,hn,h1.rep rl rx,h2.rep rl ry,k _ H _ L (DB _) rl (by rfl) q⟩
theorem yj(K:Ac)(P:Program)(w:World)(hu:X.A.units+128<cLine)(hK:X.K=K:=by rfl)(hP:X.prog=P:=by rfl)(hw:X.w=w:=by rfl):ko X (compareOp .NotEq) (dy ⟨K,P,w⟩ (rC true)):=by
 subst hK hP hw;refine ko.imp (ahg hu) fun x y H Q ⟨x3,y3,L,Q3,rx,ry,rl,z,k⟩=>?_;unfold rC at z;split at z
 ·rename_i i j;cases rx;cases ry;refine⟨rfl,?_⟩;have:(!decide (V.int i=V.int j))=nb true (decide (i=j)):=by show _=!_;congr 1;rw[Bq];simp
  rw[this];exact k _ H _ L (DB _) rl (by rfl) z
 ·rename_i i j;cases rx;cases ry;refine⟨rfl,?_⟩;have:(!decide (V.str i=V.str j))=nb true (decide (i=j)):=by show _=!_;congr 1;rw[Bq];simp
  rw[this];exact k _ H _ L (DB _) rl (by rfl) z
 ·rename_i i j;cases rx;cases ry;refine⟨rfl,?_⟩;have:(!decide (V.bl i=V.bl j))=nb true (decide (i=j)):=by show _=!_;congr 1;rw[Bq];simp
  rw[this];exact k _ H _ L (DB _) rl (by rfl) z
 ·obtain⟨f1,f2,n,m,d,e,hn,h1,h2,q⟩:=z;obtain⟨a,rfl⟩:=iR f1 rx;obtain⟨b,rfl⟩:=iR f2 ry;have q:Q3 (.bl (!Da.eq d e)) L:=q;exact⟨n,m,d,e,hn,h1.rep rl rx,h2.rep rl ry,k _ H _ L (DB _) rl (by rfl) q⟩
theorem RV.non_iff(r:RV G H y v):decide (v=.non)=(match y with | .non=>true | _=>false):=by
 cases y with
 |non=>cases r;rfl
 |cd kvs=>obtain⟨a,rfl,_⟩:=r;rfl
 |tup ys=>obtain⟨a,xs,rfl,_⟩:=r;rfl
 |sq ys=>obtain⟨a,xs,rfl,_⟩:=r;rfl
 |_=>cases r;rfl
theorem afr(σ:L2.St)(H:Hp)(Q:VK):o6 G (lP false ta) σ H Q->ajj (o6 G ta) σ H Q:=fun⟨τ,L,Q3,rs,rl,z,k⟩=>
 ⟨τ,L,_,rs,rl,z,fun v H1 y L1 t1 rl1 rv1 z1=>by dsimp only;rw[rv1.non_iff];cases y<;>exact k _ H1 _ L1 t1 rl1 (by rfl) z1⟩
theorem abx(σ:L2.St)(H:Hp)(Q:VK):o6 G (lP true ta) σ H Q->aeq (o6 G ta) σ H Q:=fun⟨τ,L,Q3,rs,rl,z,k⟩=>
 ⟨τ,L,_,rs,rl,z,fun v H1 y L1 t1 rl1 rv1 z1=>by dsimp only;rw[rv1.non_iff];cases y<;>exact k _ H1 _ L1 t1 rl1 (by rfl) z1⟩
theorem aeh{t:TE}(h:∀σ H Q,o6 G te σ H Q->t σ H Q)(σ:L2.St)(H:Hp)(Q:Bool->Hp->Prop):upT G (yB te) σ H Q->L2.tB t σ H Q:=fun q=>h σ H _ (aep σ H Q q)
theorem aaa(h:QE X a ta):QT X (.Compare a [.Is] [.Constant .none j pos'] pos) (yB (lP false ta)):=PT.imp (yb (afs h)) (aeh afr)
theorem iV(h:QE X a ta):QT X (.Compare a [.IsNot] [.Constant .none j pos'] pos) (yB (lP true ta)):=PT.imp (yb (ab8 h)) (aeh abx)
end
section
variable {a b:Expr}{rest:List Expr}{ta tc:x4}{tB:iS} 
theorem acp(h:QT X a tA):QW X (.BoolOp .And [a] pos) tA:=ac1 h
theorem cJ(h:QT X a tA):QW X (.BoolOp .Or [a] pos) tA:=aib h
theorem agj(h:QT X a tA)(k:QW X (.BoolOp .And (b::rest) pos) tB):QW X (.BoolOp .And (a::b::rest) pos) (ajs tA tB):=PW.imp (ahx h k) fun σ H Q ⟨τ,L,Q3,rs,rl,z,k⟩=>
 ⟨τ,L,_,rs,rl,z,fun c H1 L1 t1 rl1 z1=>by cases c with|true=>rw[AC rfl];exact⟨τ,L1,Q3,rs.ts t1,rl1,z1,k.ts t1⟩|false=>rw[AB Ap];exact k _ H1 L1 t1 rl1 z1⟩
theorem aY(h:QT X a tA)(k:QW X (.BoolOp .Or (b::rest) pos) tB):QW X (.BoolOp .Or (a::b::rest) pos) (rE tA tB):=PW.imp (akm h k) fun σ H Q ⟨τ,L,Q3,rs,rl,z,k⟩=>
 ⟨τ,L,_,rs,rl,z,fun c H1 L1 t1 rl1 z1=>by cases c with|true=>rw[AC rfl];exact k _ H1 L1 t1 rl1 z1|false=>rw[AB Ap];exact⟨τ,L1,Q3,rs.ts t1,rl1,z1,k.ts t1⟩⟩
theorem fG(h:QW X a tA):QT X a tA:=PW.pt h
theorem cI(h:QT X a tA):QT X (.UnaryOp .Not a pos) (mn tA):=PT.imp (ail h) fun σ H Q ⟨τ,L,Q3,rs,rl,z,k⟩=>
 ⟨τ,L,_,rs,rl,z,fun c H1 L1 t1 rl1 z1=>k _ H1 L1 t1 rl1 z1⟩
theorem n8{op:BoolOp}(h:QE X a ta):QE X (.BoolOp op [a] pos) ta:=agl h
theorem mv(h:QE X a ta)(k:QE X (.BoolOp .And (b::rest) pos) tb):QE X (.BoolOp .And (a::b::rest) pos) (qK ta tb):=DC (aht h k) fun σ H Q ⟨τ,L,Q3,rs,rl,z,k⟩=>
 ⟨τ,L,_,rs,rl,z,fun v H1 y L1 t1 rl1 rv1 z1=>by
  cases y with
  |bl c=>
   refine⟨c,rv1,?_⟩;have z2:km c (tb τ L1 Q3) (Q3 (.bl false) L1):=z1;cases c with|true=>rw[AC rfl];exact⟨τ,L1,Q3,rs.ts t1,rl1,z2,k.ts t1⟩|false=>rw[AB Ap];exact k _ H1 _ L1 t1 rl1 (by rfl) z2
  |_=>exact z1.elim⟩
theorem agc(h:QE X a ta):QE X (.UnaryOp .Not a pos) (af3 ta):=DC (ai9 h) fun σ H Q ⟨τ,L,Q3,rs,rl,z,k⟩=>
 ⟨τ,L,_,rs,rl,z,fun v H1 y L1 t1 rl1 rv1 z1=>by cases y with|bl c=>exact⟨c,rv1,k _ H1 _ L1 t1 rl1 (by rfl) z1⟩|_=>exact z1.elim⟩
theorem qQ(h:QT X c tA)(ha:QE X a ta)(hb:QE X b tb):QE X (.IfExp c a b pos) (yIf tA ta tb):=DC (aah h ha hb) fun σ H Q ⟨τ,L,Q3,rs,rl,z,k⟩=>
 ⟨τ,L,_,rs,rl,z,fun c H1 L1 t1 rl1 z1=>by cases c with|true=>rw[AC rfl];exact⟨τ,L1,Q3,rs.ts t1,rl1,z1,k.ts t1⟩|false=>rw[AB Ap];exact⟨τ,L1,Q3,rs.ts t1,rl1,z1,k.ts t1⟩⟩
theorem x6:QA X [] qz:=PA.imp lJ fun σ H Q ⟨τ,L,Q3,rs,rl,z,k⟩=>k _ H _ L (DB _) rl (by rfl) z
theorem bF(h:QE X e te)(ht:QA X es tr)(hs:Dj e es X:=by rfl):QA X (e::es) (qh te tr):=PA.imp (cw h ht hs) fun σ H Q ⟨τ,L,Q3,rs,rl,z,k⟩=>
 ⟨τ,L,_,rs,rl,z,fun v H1 y L1 t1 rl1 rv1 z1=>⟨τ,L1,_,rs.ts t1,rl1,z1,fun vs H2 ys L2 t2 rl2 rv2 z2=>k (v::vs) H2 (y::ys) L2 (t1.trans t2) rl2 ⟨v,vs,rfl,rv1.ts t2,rv2⟩ z2⟩⟩
theorem zx(h:QA X es tr):QE X (.Tuple es x1 pos) (aX tr):=DC (ahc h) fun σ H Q ⟨τ,L,Q3,rs,rl,z,k⟩=>
 ⟨τ,L,_,rs,rl,z,fun vs H1 ys L1 t1 rl1 rv1 z1=>by
  cases e:Nat.ble ys.length 1000 with
  |false=>rw[e] at z1;exact z1.elim
  |true=>
   rw[e] at z1;have:=Nat.le_of_ble_eq_true e;refine⟨aj (by rw[<-rv1.length];exact this),fun p hp=>?_⟩;exact k _ _ (.tup ys) L1 (t1.trans (DD hp)) (rl1.skip hp) ⟨p,vs,rfl,f9.of xg,rv1.ts (DD hp)⟩ z1⟩
theorem zq(h:QA X es tr):QE X (.List es pos) (xz tr):=DC (agt h) fun σ H Q ⟨τ,L,Q3,rs,rl,z,k⟩=>
 ⟨τ,L,_,rs,rl,z,fun vs H1 ys L1 t1 rl1 rv1 z1=>by
  cases e:Nat.ble ys.length 1000 with
  |false=>rw[e] at z1;exact z1.elim
  |true=>
   rw[e] at z1;have:=Nat.le_of_ble_eq_true e;refine⟨aj (by rw[<-rv1.length];exact this),fun p hp=>?_⟩;exact k _ _ _ _ (t1.trans (DD hp)) (rl1.newL hp rv1) (by rfl) (z1 p (rl1.none hp))⟩
theorem aV{id:String}{r:List Y->qk->YK->Prop}(hc:ju X (.builtin id) (upL X.g3 r))(hg:Gl X x)(hm:X.mg x=none)(hv:bootBuiltins x=some (.builtin id))(h:QA X (e::es) tr)
 (hn:x ≠ "__name__" := by decide) (hd:Dl x:=by decide) (hs:Dj e es X:=by rfl) (hp:Dk pos es X:=by rfl):
 QE X (.Call (.Name x p) (e::es) [] pos) (lK r tr):=DC (qA hc hg hm hv h hn hd hs hp) fun σ H Q ⟨τ,L,Q3,rs,rl,z,k⟩=>
 ⟨τ,L,_,rs,rl,z,fun vs H1 ys L1 t1 rl1 rv1 z1=>⟨ys,L1,Q3,rv1,rl1,z1,k.ts t1⟩⟩
def upO(G:G3)(t:TO3):TO:=fun σ H Q=>∃τ L Q3,ve G H σ τ/\j8 G H L/\t τ L Q3/\∀(o:Option Int) H' L',j4 H H'->j8 G H' L'->Q3 o L'->Q o H'
abbrev QO(X:Cx)(e:Option Expr)(t:TO3):Prop:=PO X e (upO X.g3 t)
theorem PO.imp{e:Option Expr}{t u:TO}(h:PO X e t)(q:∀σ H Q,u σ H Q->t σ H Q):PO X e u:=fun pins s σ H Q I z=>h pins s σ H Q I (q σ H Q z)
theorem sJ.imp{r':V->Option Int->Option Int->Hp->VK->Prop}(h:sJ X r)(q:∀x lo hi H Q,r' x lo hi H Q->r x lo hi H Q):sJ X r':=by intro pins s σ H x v vl vu lo hi sl Q I rx hs pl pu z;exact h pins s σ H x v vl vu lo hi sl Q I rx hs pl pu (q _ _ _ _ _ z)
theorem i3:QO X none fI:=PO.imp abw fun σ H Q ⟨τ,L,Q3,rs,rl,z,k⟩=>k _ H L (DB _) rl z
theorem cz(h:QE X e te):QO X (some e) (iw te):=PO.imp (adr h) fun σ H Q ⟨τ,L,Q3,rs,rl,z,k⟩=>
 ⟨τ,L,_,rs,rl,z,fun v H1 y L1 t1 rl1 rv1 z1=>by cases y with|int i=>exact⟨i,rv1,k _ H1 L1 t1 rl1 z1⟩|_=>exact z1.elim⟩
def agn(G:G3)(r:Y->Option Int->Option Int->qk->YK->Prop):V->Option Int->Option Int->Hp->VK->Prop:=fun x lo hi H Q=>∃y L Q3,RV G H y x/\j8 G H L/\r y lo hi L Q3/\tH G H Q3 Q
theorem bZ{lo hi:Option Expr}{tl th:TO3}{r:Y->Option Int->Option Int->qk->YK->Prop}(h:sJ X (agn X.g3 r))(ha:QE X a ta)(hl:QO X lo tl)(hh:QO X hi th):QE X (.Subscript a (.Slice lo hi none p2) pos) (ySl r ta tl th):=
 DC (zK h ha hl hh) fun σ H Q ⟨τ,L,Q3,rs,rl,z,k⟩=>
 ⟨τ,L,_,rs,rl,z,fun v H1 y L1 t1 rl1 rv1 z1=>⟨τ,L1,_,rs.ts t1,rl1,z1,fun o H2 L2 t2 rl2 z2=>⟨τ,L2,_,rs.ts (t1.trans t2),rl2,z2,fun o' H3 L3 t3 rl3 z3=>⟨y,L3,Q3,rv1.ts (t2.trans t3),rl3,z3,k.ts (t1.trans (t2.trans t3))⟩⟩⟩⟩
theorem tf(r:xk G H ys xs)(lo hi:Option Int):xk G H (o9 ys lo hi) (uz xs lo hi):=by unfold o9 uz;rw[r.length];exact(r.drop _).take _
theorem aj7(K:Ac)(P:Program)(w:World)(hK:X.K=K:=by rfl)(hP:X.prog=P:=by rfl)(hw:X.w=w:=by rfl):sJ X (agn ⟨K,P,w⟩ aj5):=by
 subst hK hP hw;refine sJ.imp aec fun x lo hi H Q ⟨y,L,Q3,rv,rl,z,k⟩=>?_;cases y with
 |ref a=>
  obtain⟨ys,es,z'⟩:=v5 z;obtain⟨xs,sq,r⟩:=cG rl (zd es);exact⟨a,xs,rv,sq,fun p hp=>k _ _ _ _ (DD hp) (rl.newL hp (tf r lo hi)) (by rfl) (z' p (rl.none hp))⟩
 |sq ys=>
  obtain⟨a,xs,e,sf,r⟩:=rv;exact⟨a,xs,e,sf.sq,fun p hp=>k _ _ _ _ (DD hp) (rl.newL hp (tf r lo hi)) (by rfl) (z p (rl.none hp))⟩
 |_=>exact z.elim
end
section
variable {a b:Expr}{ta tc:x4}{tB:iS}{orelse:List Stmt}{t u:k6}
theorem zk:rD X [] jw:=mH.imp ae0 fun D σ H ⟨τ,L,D3,rs,rl,z,k⟩=>k.nx _ H _ L (DB _) rs rl z
theorem qf(h:QS X st t):rD X [st] t:=aaw h
theorem q9(h:QS X st t)(k:rD X rest u):rD X (st::rest) (qo t u):=mH.imp (qU h k) fun D σ H ⟨τ,L,D3,rs,rl,z,k⟩=>
 ⟨τ,L,{ D3 with nx:=u D3 },rs,rl,z,fun σ1 H1 τ1 L1 t1 rs1 rl1 z1=>⟨τ1,L1,D3,rs1,rl1,z1,k.ts t1⟩,k.rt,k.bk,k.ct⟩
theorem pH:QS X (.Continue pos) aeg:=DG om fun D σ H ⟨τ,L,D3,rs,rl,z,k⟩=>k.ct _ H _ L (DB _) rs rl z
theorem zj(h:QE X e te)(hs:swapsWith e none pos.line X.env=pure false:=by rfl):QS X (.Expr e pos) (jx te):=DG (acm h hs) fun D σ H ⟨τ,L,D3,rs,rl,z,k⟩=>
 ⟨τ,L,_,rs,rl,z,fun v H1 y L1 t1 rl1 rv1 z1=>k.nx _ H1 _ L1 t1 (rs.ts t1) rl1 z1⟩
theorem qt(h:QE X e te):QS X (.Return (some e) pos) (jd te):=DG (aha h) fun D σ H ⟨τ,L,D3,rs,rl,z,k⟩=>⟨τ,L,_,rs,rl,z,k.rt⟩
theorem abf:QS X (.Return none pos) aen:=DG abq fun D σ H ⟨τ,L,D3,rs,rl,z,k⟩=>k.rt _ H _ L (DB _) rl (by rfl) z
theorem jm(h:QT X c tA)(ha:rD X body t)(hb:rD X orelse u):QS X (.If c body orelse pos) (vg tA t u):=DG (ajy h ha hb) fun D σ H ⟨τ,L,D3,rs,rl,z,k⟩=>
 ⟨τ,L,_,rs,rl,z,fun c H1 L1 t1 rl1 z1=>by cases c with|true=>rw[AC rfl];exact⟨τ,L1,D3,rs.ts t1,rl1,z1,k.ts t1⟩|false=>rw[AB Ap];exact⟨τ,L1,D3,rs.ts t1,rl1,z1,k.ts t1⟩⟩
theorem cA(hN:X.N.Nodup)(hix:X.N[i]?=some x)(hx:um X.env.scope x)(h:QE X e te)(hsw:swapsWith e (some (.Name x pos')) pos.line X.env=pure false:=by rfl)
 (hfn:X.fn x=true\/X.env.scope.names.lookup x=some .local:=by first | exact .inl rfl | exact .inr rfl | assumption):QS X (.Assign [.Name x pos'] e pos) (z8 te (qc i)):=DG (ahe hN hix hx h hsw hfn) fun D σ H ⟨τ,L,D3,rs,rl,z,k⟩=>
 ⟨τ,L,_,rs,rl,z,fun v H1 y L1 t1 rl1 rv1 z1=>k.nx _ H1 _ L1 t1 (show ve _ _ _ (bT τ i y) by rw[wg];exact(rs.ts t1).set rv1) rl1 z1⟩
theorem y8(h:QE X e te)(hg:QG X tg g)(h1:swapsWithSole [tg] e pos.line X.env=pure false:=by rfl)(h2:swappedStores [tg] e X.env=pure none:=by rfl)
 (h3:(assignEach [tg] X.env).map (·.2)=[assign tg X.env]:=by rfl):QS X (.Assign [tg] e pos) (z8 te g):=DG (zM h hg h1 h2 h3) fun D σ H ⟨τ,L,D3,rs,rl,z,k⟩=>
 ⟨τ,L,_,rs,rl,z,fun v H1 y L1 t1 rl1 rv1 z1=>⟨y,τ,L1,_,rv1,rs.ts t1,rl1,z1,k.nx.ts t1⟩⟩
theorem PG.imp{t u:TG}(h:PG X e t)(q:∀v σ H Q,u v σ H Q->t v σ H Q):PG X e u:=fun pins s σ H x v Q I r z=>h pins s σ H x v Q I r (q _ _ _ _ z)
theorem PGs.imp{e:List Expr}{t u:TGs}(h:PGs X e t)(q:∀v σ H Q,u v σ H Q->t v σ H Q):PGs X e u:=fun pins s σ H x v Q I r z=>h pins s σ H x v Q I r (q _ _ _ _ z)
theorem eJ(hN:X.N.Nodup)(hix:X.N[i]?=some x)(hx:um X.env.scope x)(hfn:X.fn x=true\/X.env.scope.names.lookup x=some .local:=by first | exact .inl rfl | exact .inr rfl | assumption):QG X (.Name x pos) (qc i):=
 PG.imp (i7 hN hix hx hfn) fun v σ H Q ⟨y,τ,L,Q3,rv,rs,rl,z,k⟩=>k _ H _ L (DB _) (show ve _ _ _ (bT τ i y) by rw[wg];exact rs.set rv) rl z
theorem wm:QGs X [] ky:=PGs.imp t8 fun vs σ H Q ⟨ys,τ,L,Q3,rv,rs,rl,z,k⟩=>by cases ys with|nil=>exact⟨rv,k _ H _ L (DB _) rs rl z⟩|cons y r=>exact z.elim
theorem j5{gs:u8}(h:QG X e g)(hs:QGs X es gs)(he:(assignEach (e::es) X.env).map (·.2)=assign e X.env::(assignEach es X.env).map (·.2):=by rfl):QGs X (e::es) (zu g gs):=
 PGs.imp (jP h hs he) fun vs σ H Q ⟨ys,τ,L,Q3,rv,rs,rl,z,k⟩=>by
 cases ys with
 |nil=>exact z.elim
 |cons y r=>
  obtain⟨x,xs,rfl,r1,r2⟩:=rv;exact⟨x,xs,rfl,y,τ,L,_,r1,rs,rl,z,fun σ1 H1 τ1 L1 t1 rs1 rl1 z1=>⟨r,τ1,L1,Q3,r2.ts t1,rs1,rl1,z1,k.ts t1⟩⟩
theorem ag{gs:u8}{kk:Nat}(hc:X.calm=true)(h:QGs X es gs)(h1:(assignEach es X.env).length=n:=by rfl)(h2:(assignEach es X.env).findIdx? (·.1)=none:=by rfl):QG X (.Tuple es kk pos) (wx n gs):=
 PG.imp (zC hc h h1 h2) fun v σ H Q ⟨y,τ,L,Q3,rv,rs,rl,z,k⟩=>by
 cases y with
 |tup ys=>
  obtain⟨a,xs,rfl,sq,r⟩:=rv;have z':(match ys.length==n with | true=>gs ys τ L Q3 | false=>False):=z;split at z'
  ·rename_i e;exact⟨a,xs,rfl,sq,by rw[<-r.length];exact beq_iff_eq.mp e,ys,τ,L,Q3,r,rs,rl,z',k⟩
  ·exact z'.elim
 |_=>exact z.elim
theorem zH{y:Str}{py pt:Pos}{kt k2:Nat}{pt2:Pos}(hc:X.calm=true)(hN:X.N.Nodup)(hi:X.N[i]?=some x)(hj:X.N[j]?=some y)(hij:i≠j)(lx:X.env.scope.names.lookup x=some .local)(ly:X.env.scope.names.lookup y=some .local)
 (h:QA X [a,b] tr) (h1:swappedStores [.Tuple [.Name x px,.Name y py] kt pt] (.Tuple [a,b] k2 pt2) X.env=pure (some [x,y])) (h2:swapsWithSole [.Tuple [.Name x px,.Name y py] kt pt] (.Tuple [a,b] k2 pt2) pos.line X.env=pure false:=by rfl):
 QS X (.Assign [.Tuple [.Name x px,.Name y py] kt pt] (.Tuple [a,b] k2 pt2) pos) (ag4 i j tr):=DG (afl hc hN hi hj hij lx ly h h1 h2) fun D σ H ⟨τ,L,D3,rs,rl,z,k⟩=>
 ⟨τ,L,_,rs,rl,z,fun vs H1 ys L1 t1 rl1 rv1 z1=>by
  split at z1
  ·rename_i v w;obtain⟨x',y',rfl,r1,r2⟩:=rv1.inv2;exact⟨x',y',rfl,k.nx _ H1 _ L1 t1 (show ve _ _ _ (bT (bT τ i v) j w) by rw[wg,wg];exact((rs.ts t1).set r1).set r2) rl1 z1⟩
  ·exact z1.elim⟩
theorem anu{op:Operator}{f:Int->Int->Int}(h:PIp X op (ipI f)):PIp X op (dy X.g3 (ipY f)):=fun pins s σ H x y v u Q I rx ry ⟨x3,y3,L,Q3,r1,r2,rl,z,k⟩=>by
 refine h pins s σ H x y v u Q I rx ry ?_;cases x3 with
 |int i=>
  cases y3 with|int j=>exact⟨i,j,r1,r2,k _ H _ L (DB _) rl (by rfl) z⟩|_=>exact z.elim
 |_=>cases y3<;>exact z.elim
theorem yn{op:Operator}{r:kW}(hN:X.N.Nodup)(hix:X.N[i]?=some x)(hx:um X.env.scope x)(h:QE X e te)(hp:PIp X op (dy X.g3 r))
 (hfn:X.fn x=true\/X.env.scope.names.lookup x=some .local:=by first | exact .inl rfl | exact .inr rfl | assumption):QS X (.AugAssign (.Name x pos') op e pos) (ad0 i te r):=DG (ag1 hN hix hx h hp hfn) fun D σ H ⟨τ,L,D3,rs,rl,z,k⟩=>by
 unfold ad0 at z;split at z
 ·rename_i y ey;obtain⟨v,ev,rv⟩:=rs.get i y (nJ _ _ ey);exact⟨v,ev,τ,L,_,rs,rl,z,fun v1 H1 y1 L1 t1 rl1 rv1 z1=>⟨y,y1,L1,_,rv.ts t1,rv1,rl1,z1,fun v2 H2 y2 L2 t2 rl2 rv2 z2=>
   k.nx _ H2 _ L2 (t1.trans t2) (show ve _ _ _ (bT τ i y2) by rw[wg];exact(rs.ts (t1.trans t2)).set rv2) rl2 z2⟩⟩
 ·exact z.elim
theorem kU(hp:PassesOwn (model X.prog X.w) X.A X.env X.xe)(h:QT X c tA)(hb:rD X body t):QS X (.While c body [] pos) (oR tA t):=DG (yg hp h hb) fun D σ H ⟨τ,L,D3,rs,rl,⟨W,⟨m0,w0⟩,turn⟩,k⟩=>by
 refine⟨fun m σ1 H1=>∃τ1 L1,j4 H H1/\ve X.g3 H1 σ1 τ1/\j8 X.g3 H1 L1/\W m τ1 L1,⟨m0,τ,L,DB _,rs,rl,w0⟩,?_⟩;rintro m σ1 H1 ⟨τ1,L1,t1,rs1,rl1,w1⟩;refine⟨τ1,L1,_,rs1,rl1,turn m τ1 L1 w1,fun b H2 L2 t2 rl2 z2=>?_⟩;cases b with
 |false=>rw[AB Ap];exact k.nx _ H2 _ L2 (t1.trans t2) (rs1.ts t2) rl2 z2
 |true=>
  rw[AC rfl];obtain⟨N,hN,z2⟩:=z2;refine⟨fun σ' H'=>∃τ' L',j4 H H'/\ve X.g3 H' σ' τ'/\j8 X.g3 H' L'/\N τ' L',?_,?_⟩
  ·rintro σ' H' ⟨τ',L',t',rs',rl',n'⟩;obtain⟨m',hm,w'⟩:=hN τ' L' n';exact⟨m',hm,τ',L',t',rs',rl',w'⟩
  ·have nx:lS X.g3 H2 (bV N) (fun σ' H'=>∃τ' L',j4 H H'/\ve X.g3 H' σ' τ'/\j8 X.g3 H' L'/\N τ' L'):=fun σ' H' τ' L' t' rs' rl' ⟨L5,s5,n'⟩=>⟨τ',L5,(t1.trans t2).trans t',rs',rl'.sub s5,n'⟩;have k2:=k.ts (t1.trans t2);exact⟨τ1,L2,_,rs1.ts t2,rl2,z2,nx,k2.rt,k2.nx,nx⟩
theorem xi{wi:TI3}(hp:PassesOwn (model X.prog X.w) X.A X.env X.xe)(hc:X.calm=true)(hi:QI X tg iter wi)(hg:QG X tg g)(hb:rD X body t)(hs:∀x,foldedSetIterable iter X.env x=pure x:=by intro _;rfl):
 QS X (.For tg iter body [] pos) (a7 wi g t):=DG (ai6 hp hc hi hg hb hs) fun D σ H ⟨τ,L,D3,rs,rl,z,k⟩=>by
 refine⟨τ,L,_,rs,rl,z,fun J H1 ys keep L1 t1 rl1 yl zz=>?_⟩;obtain⟨W,w0,wk,turn,xu⟩:=xI zz;refine⟨fun i m σ' H'=>∃τ' L',i+m=ys.length/\j4 H1 H'/\ve X.g3 H' σ' τ'/\j8 X.g3 H' L'/\W i τ' L',⟨ys.length,τ,L1,by omega,DB _,rs.ts t1,rl1,w0⟩,?_⟩;rintro i m σ2 H2 ⟨τ2,L2,him,t2,rs2,rl2,w2⟩;by_cases hlt:i<ys.length
 ·refine .inr ⟨yl.go i H2 L2 t2 rl2 (wk i τ2 L2 w2) hlt,fun σ' H'=>∃τ' L',j4 H1 H'/\ve X.g3 H' σ' τ'/\j8 X.g3 H' L'/\W (i+1) τ' L',?_,?_⟩
  ·rintro σ' H' ⟨τ',L',t',rs',rl',w'⟩;exact⟨m - 1,by omega,τ',L',by omega,t',rs',rl',w'⟩
  ·intro x H3 y3;have ey:ys[i]?=some ys[i]:=Ak hlt;obtain⟨t3,rl3,rv3⟩:=yl.yld i H2 L2 x H3 _ t2 rl2 (wk i τ2 L2 w2) ey y3;refine⟨ys[i],τ2,L2,_,rv3,rs2.ts t3,rl3,turn i _ τ2 L2 ey w2,fun σ4 H4 τ4 L4 t4 rs4 rl4 z4=>?_⟩;have nx:lS X.g3 H4 (bV (W (i+1))) (fun σ' H'=>∃τ' L',j4 H1 H'/\ve X.g3 H' σ' τ'/\j8 X.g3 H' L'/\W (i+1) τ' L'):=fun σ' H' τ' L' t' rs' rl' ⟨L5,s5,n'⟩=>⟨τ',L5,((t2.trans t3).trans t4).trans t',rs',rl'.sub s5,n'⟩;have k2:=k.ts (t1.trans ((t2.trans t3).trans t4));exact⟨τ4,L4,_,rs4,rl4,z4,nx,k2.rt,k2.nx,nx⟩
 ·have e:i=ys.length:=by omega
  subst e;exact .inl ⟨yl.stop H2 L2 t2 rl2 (wk _ τ2 L2 w2),k.nx _ H2 _ L2 (t1.trans t2) rs2 rl2 (xu τ2 L2 w2)⟩
theorem PI.imp{t u:TI}(h:PI X tg e t)(q:∀σ H Q,u σ H Q->t σ H Q):PI X tg e u:=fun pins s σ H Q I z=>h pins s σ H Q I (q σ H Q z)
theorem iG{a:Addr}{keep:qk->Prop}(h:∀H L,j4 H₀ H->j8 G H L->keep L->∃xs,aE G.K H a xs/\xk G H ys xs):nF G H₀ (Itl G.K a) ys keep where
 go:=fun i H L t rl kp hi=>by
  obtain⟨xs,sq,r⟩:=h H L t rl kp;have:i<xs.length:=by rw[<-r.length];exact hi
  exact⟨xs,xs[i],sq,Ak this⟩
 yld:=fun i H L x H' y t rl kp hy ⟨e,f⟩=>by subst e;obtain⟨xs,sq,r⟩:=h _ L t rl kp;obtain⟨x',e',rv⟩:=r.get hy;have:=f xs sq;rw[e'] at this;cases this;exact⟨DB _,rl,rv⟩
 stop:=fun H L t rl kp=>by obtain⟨xs,sq,r⟩:=h H L t rl kp;exact⟨xs,sq,by rw[r.length];exact Am _⟩
theorem j6(h:QE X e te):QI X tg e (jq te):=PI.imp (adf h) fun σ H R ⟨τ,L,R3,rs,rl,z,k⟩=>by
 refine⟨τ,L,_,rs,rl,z,fun v H1 y L1 t1 rl1 rv1 z1=>?_⟩;cases y with
 |ref a=>
  obtain⟨ys,keep,es,kp,hk,z2⟩:=qZ z1;have hy:∀H L,j4 H1 H->j8 X.g3 H L->keep L->∃xs,aE X.K H a xs/\xk X.g3 H ys xs:=fun H L _ rl e=>cG rl (hk L e);obtain⟨xs,sq,_⟩:=hy H1 L1 (DB _) rl1 kp;exact⟨a,rv1,⟨xs,sq⟩,k _ H1 ys _ L1 t1 rl1 (iG hy) z2⟩
 |sq ys=>
  obtain⟨a,xs,e,sf,r⟩:=rv1;exact⟨a,e,⟨xs,sf.sq⟩,k _ H1 ys (fun _=>True) L1 t1 rl1 (iG fun H L t _ _=>⟨xs,(sf.ts t).sq,r.ts t⟩) z1⟩
 |_=>exact z1.elim
theorem qL(lo:Int)(n:Nat):nF G H₀ (Itr lo n) (kz lo n) (fun _=>True) where
 go:=fun i H L t rl kp hi=>show i<n by simpa[kz] using hi
 yld:=fun i H L x H' y t rl kp hy ⟨e,f⟩=>by
  subst e f;refine⟨DB _,rl,?_⟩;unfold kz at hy;rw[Ai] at hy;obtain⟨z,ez,e⟩:=Aj.mp hy;have:=BB (i:=i) (n:=n) (by
   by_cases c:i<n
   ·exact c
   ·rw[Bv (by simp;omega)] at ez;cases ez)
  rw[this] at ez;cases ez;subst e;rfl
 stop:=fun H L t rl kp=>by simp[kz,Itr]
theorem ao(hg:Gl X "range")(hm:X.mg "range" = none)(h:QA X [a] tr)(hs:starEach [a] X.env=[(false,eval a X.env)]:=by rfl):QI X tg (.Call (.Name "range" p) [a] [] pos) (gA tr):=
 PI.imp (uW hg hm h hs) fun σ H R ⟨τ,L,R3,rs,rl,z,k⟩=>by
 refine⟨τ,L,_,rs,rl,z,fun vs H1 ys L1 t1 rl1 rv1 z1=>?_⟩;split at z1
 ·rename_i j;obtain⟨x,rfl,r⟩:=rv1.inv1;cases r;exact⟨j,rfl,z1.1.1,z1.1.2,k _ H1 _ _ L1 t1 rl1 (qL 0 _) z1.2⟩
 ·exact z1.elim
end
section
variable {T:List Str}{wi:TI3} 
theorem cT:QF X [] m9:=PF.imp agk fun σ H Q ⟨τ,L,Q3,rs,rl,z,k⟩=>k _ H L (DB _) rl z
theorem cB(h:QT X c tA):QF X [c] tA:=aie h
theorem aer{g2:TG}(hg2:∀v σ H Q,upG G g v σ H Q->g2 v σ H Q)(σ:L2.St)(H:Hp)(Q:VK):o6 G (nP n wi g tA te) σ H Q->tLC n (upI G wi) g2 (upT G tA) (o6 G te) σ H Q:=fun⟨τ,L,Q3,rs,rl,z,k⟩=>by
 refine⟨τ,L,_,rs,rl,z,fun J H1 ys keep L1 t1 rl1 yl zz=>?_⟩;obtain⟨hz,W,w0,wk,turn,xu⟩:=acb zz;refine⟨fun i m vs H'=>∃zs L',i+m=ys.length/\zs.length≤i/\j4 H1 H'/\xk G H' zs vs/\j8 G H' L'/\W i zs L',⟨ys.length,[],L1,by exact C1 _ _,Am _,DB _,rfl,rl1,w0⟩,?_⟩;rintro i m vs H2 ⟨zs,L2,him,hzi,t2,rv2,rl2,w2⟩;by_cases hlt:i<ys.length
 ·refine .inr ⟨yl.go i H2 L2 t2 rl2 (wk i zs L2 w2) hlt,by rw[<-rv2.length];lia,?_⟩;intro x H3 y3;have ey:ys[i]?=some ys[i]:=Ak hlt;obtain⟨t3,rl3,rv3⟩:=yl.yld i H2 L2 x H3 _ t2 rl2 (wk i zs L2 w2) ey y3;refine hg2 _ _ _ _ ⟨ys[i],_,L2,_,rv3,(rs.ts ((t1.trans t2).trans t3)).more n,rl3,turn i _ zs L2 ey w2,fun σ4 H4 τ4 L4 t4 rs4 rl4 z4=>?_⟩;refine⟨τ4,L4,_,rs4,rl4,z4,fun b H5 L5 t5 rl5 z5=>?_⟩;cases b with
  |true=>
   rw[AC rfl];refine⟨τ4,L5,_,rs4.ts t5,rl5,z5,fun v6 H6 y6 L6 t6 rl6 rv6 ⟨L7,s7,z6⟩=>?_⟩;have tt:=((t3.trans t4).trans t5).trans t6;exact⟨m - 1,by omega,zs++[y6],L7,by lia,by rw[Aa,AI];exact nN,t2.trans tt,(rv2.ts tt).app (xk.one rv6),rl6.sub s7,z6⟩
  |false=>
   rw[AB Ap];have tt:=(t3.trans t4).trans t5;obtain⟨L7,s7,z6⟩:=z5;exact⟨m - 1,by lia,zs,L7,by lia,by exact yh,t2.trans tt,rv2.ts tt,rl5.sub s7,z6⟩
 ·have ei:i=ys.length:=by lia
  subst ei;refine .inl ⟨yl.stop H2 L2 t2 rl2 (wk _ zs L2 w2),by rw[<-rv2.length];lia,fun D hD=>?_⟩;exact k _ _ _ _ ((t1.trans t2).trans (DD hD)) (rl2.newL hD rv2) (by rfl) (xu zs L2 w2 D (rl2.none hD))
structure TGx(X:Cx)(scope:Scope)(T:List Str)(target:Expr)(g:jJ):Prop where
 ex:∃g2:TG,(∀C fp s₀ H₀,PG (X.comp scope T C fp s₀ H₀) target g2)/\mU g2 X.N.length T.length/\∀v σ H Q,upG X.g3 g v σ H Q->g2 v σ H Q
theorem ado(i:Nat)(v:V)(σ:L2.St)(H:Hp)(Q:L2.St->Hp->Prop):upG G (qc i) v σ H Q->cU i v σ H Q:=fun⟨y,τ,L,Q3,rv,rs,rl,z,k⟩=>
 k _ H _ L (DB _) (show ve _ _ _ (bT τ i y) by rw[wg];exact rs.set rv) rl z
theorem v7(hN:(X.N++[x]).Nodup)(hl:∀C fp s₀ H₀,um (X.comp scope [x] C fp s₀ H₀).env.scope x)(hfn:∀C fp s₀ H₀,(X.comp scope [x] C fp s₀ H₀).env.scope.names.lookup x=some .local):TGx X scope [x] (.Name x p) (qc X.N.length):=
 ⟨cU X.N.length,fun C fp s₀ H₀=>i7 (X:=X.comp scope [x] C fp s₀ H₀) hN (by show(X.N++[x])[X.N.length]?=some x;simp) (hl C fp s₀ H₀) (.inr (hfn C fp s₀ H₀)),rN _,ado _⟩
theorem wI{K:Ac}(n:Nat):mU (agq K 2 (pZ (cU n) (pZ (cU (n+1)) afz))) n 2:=by
 rintro σ hl x H Q ⟨a,xs,e,sq,len,v,r,e1,w,r',e2,e3,q⟩;refine⟨a,xs,e,sq,len,v,r,e1,w,r',e2,e3,⟨by simp[hl],fun i u ei=>?_⟩,q⟩;have hi:i<n:=by
  by_cases c:i<n
  ·exact c
  ·rw[Aq (by lia),BL] at ei;split at ei<;>cases ei
 rw[A9 (by lia),A9 (by exact ann)];exact ei
theorem agw(i j:Nat)(v:V)(σ:L2.St)(H:Hp)(Q:L2.St->Hp->Prop):upG G (wx 2 (zu (qc i) (zu (qc j) ky))) v σ H Q->agq G.K 2 (pZ (cU i) (pZ (cU j) afz)) v σ H Q:=fun⟨y,τ,L,Q3,rv,rs,rl,z,k⟩=>by
 cases y with
 |tup ys=>
  obtain⟨a,xs,rfl,sq,r⟩:=rv;have z':(match ys.length==2 with | true=>zu (qc i) (zu (qc j) ky) ys τ L Q3 | false=>False):=z;split at z'
  ·rename_i e;have hl:ys.length=2:=beq_iff_eq.mp e
   match ys,hl with
   |[y1,y2],_=>
    obtain⟨x1,x2,rfl,r1,r2⟩:=r.inv2;have z2:Q3 (bT (bT τ i y1) j y2) L:=z';exact⟨a,_,rfl,sq,rfl,x1,[x2],rfl,x2,[],rfl,rfl,k _ H _ L (DB _) (by rw[wg,wg];exact(rs.set r1).set r2) rl z2⟩
  ·exact z'.elim
 |_=>exact z.elim
theorem i4{y:Str}{p' pt:Pos}{kt:Nat}(hc:X.calm=true)(hN:(X.N++[x,y]).Nodup)(hl:∀C fp s₀ H₀,(X.comp scope [x,y] C fp s₀ H₀).env.scope.names.lookup x=some .local)(hl2:∀C fp s₀ H₀,(X.comp scope [x,y] C fp s₀ H₀).env.scope.names.lookup y=some .local)
 (h1:∀env,(assignEach [.Name x p,.Name y p'] env).length=2:=by intro _;rfl) (h2:∀env,(assignEach [.Name x p,.Name y p'] env).findIdx? (·.1)=none:=by intro _;rfl)
 (h3:∀env,(assignEach [.Name x p,.Name y p'] env).map (·.2)=assign (.Name x p) env::(assignEach [.Name y p'] env).map (·.2):=by intro _;rfl) (h4:∀env,(assignEach [.Name y p'] env).map (·.2)=assign (.Name y p') env::(assignEach [] env).map (·.2):=by intro _;rfl):
 TGx X scope [x,y] (.Tuple [.Name x p,.Name y p'] kt pt) (wx 2 (zu (qc X.N.length) (zu (qc (X.N.length+1)) ky))):=
 ⟨_,fun C fp s₀ H₀=>zC (X:=X.comp scope [x,y] C fp s₀ H₀) hc (jP (i7 hN (by show(X.N++[x,y])[X.N.length]?=some x;simp) (.inl (hl C fp s₀ H₀)) (.inr (hl C fp s₀ H₀))) (jP (i7 hN (by show(X.N++[x,y])[X.N.length+1]?=some y;simp) (.inl (hl2 C fp s₀ H₀)) (.inr (hl2 C fp s₀ H₀))) t8 (h4 _)) (h3 _)) (h1 _) (h2 _),wI _,agw _ _⟩
theorem fW(T:List Str)(S:j3 X scope)(hc:X.calm=true)(hi:QI X target iter wi)(hg:TGx X scope T target g)
 (hf:∀C fp s₀ H₀,QF (X.comp scope T C fp s₀ H₀) ifs tA) (he:∀C fp s₀ H₀,QE (X.comp scope T C fp s₀ H₀) elt te)
 (hs:∀x,foldedSetIterable iter X.env x=pure x:=by intro _;rfl):QE X (.ListComp elt [⟨target,iter,ifs,0⟩] scope pos) (nP T.length wi g tA te):=by
 obtain⟨g2,h1,h2,h3⟩:=hg.ex;exact DC (ajx T S hc hi h1 h2 hf he hs) (aer h3)
theorem aT(T:List Str){lp:Pos}(hN:X.N.Nodup)(hix:X.N[i]?=some x)(hx:um X.env.scope x)(S:j3 X scope)(hc:X.calm=true)(hi:QI X target iter wi)
 (hg:TGx X scope T target g) (hf:∀C fp s₀ H₀,QF (X.comp scope T C fp s₀ H₀) ifs tA) (he:∀C fp s₀ H₀,QE (X.comp scope T C fp s₀ H₀) elt te)
 (hsw:swapsWith (.ListComp elt [⟨target,iter,ifs,0⟩] scope lp) (some (.Name x px)) pos.line X.env=pure true:=by rfl)
 (hfn:X.fn x=true\/X.env.scope.names.lookup x=some .local:=by first | exact .inl rfl | exact .inr rfl | assumption)
 (hs:∀x,foldedSetIterable iter X.env x=pure x:=by intro _;rfl):QS X (.Assign [.Name x px] (.ListComp elt [⟨target,iter,ifs,0⟩] scope lp) pos) (z8 (nP T.length wi g tA te) (qc i)):=by
 obtain⟨g2,h1,h2,h3⟩:=hg.ex;refine DG (yq (tc:=upT X.g3 tA) (te:=o6 X.g3 te) T hN hix hx S hc hi h1 h2 hf he hsw hfn hs) fun D σ H ⟨τ,L,D3,rs,rl,z,k⟩=>?_;refine aer h3 σ H _ ⟨τ,L,_,rs,rl,z,fun v H1 y L1 t1 rl1 rv1 z1=>?_⟩;exact k.nx _ H1 _ L1 t1 (show ve _ _ _ (bT τ i y) by rw[wg];exact(rs.ts t1).set rv1) rl1 z1
def dn(G:G3)(sp:jc):Sp:=fun vs H Q _=>∃ys L Q3,xk G H ys vs/\j8 G H L/\sp ys L Q3/\tH G H Q3 Q
abbrev ah8(P:Program)(w:World)(K:Ac)(mg:Str->Option Value)(base:Heap)(k:Nat)(x:Str)(ps:List Str)(sp:jc):Prop:=Cal P w K mg base k x ps (dn ⟨K,P,w⟩ sp)
abbrev Fn3(P:Program)(w:World)(K:Ac)(mg:Str->Option Value)(base:Heap)(k:Nat)(f:Addr)(fd:FuncData)(ps:List Str)(sp:jc):Prop:=wo P w K mg base CX0 k f fd ps (dn ⟨K,P,w⟩ sp)
theorem an5{k:Nat}{sp:jc}(c:ah8 X.prog X.w X.K X.mg X.base k x ps sp)(hr:v3 k X.A)(hg:Gl X x)(ha:QA X (e::es) tr)(hdb:Dl x:=by decide)
 (he:Dj e es X:=by rfl) (hpl:Dk pos es X:=by rfl):QE X (.Call (.Name x p) (e::es) [] pos) (qw sp tr):=
 DC (ao5 c hr hg ha hdb he hpl) fun σ H Q ⟨τ,L,Q3,rs,rl,z,k⟩=>
 ⟨τ,L,_,rs,rl,z,fun vs H1 ys L1 t1 rl1 rv1 z1=>⟨ys,L1,Q3,by rw[A0];exact rv1,rl1,z1,k.ts t1⟩⟩
def gD(Q:YK):YK:=fun y L=>∃L2,qg L2 L/\Q y L2
def gQ(N:List Str)(ys:List Y):j9:=ys.map some++List.replicate (N.length - ys.length) none
theorem l6{N:List Str}{vs:List V}(r:xk G H ys vs):ve G H (L2.start N vs) (gQ N ys):=by unfold L2.start gQ;rw[<-r.length];refine ve.more ⟨by simp[r.length],fun i y e=>?_⟩ _;rw[Ai] at e;obtain⟨y',e1,e2⟩:=Aj.mp e;cases e2;obtain⟨x,ex,rx⟩:=r.get e1;exact⟨x,by rw[Ai,ex];rfl,rx⟩
theorem ok3{P:Program}{w:World}{K:Ac}{N:List Str}{k:Nat}{sp:jc}(F:Fun K x qual st f fd)(S:aN N ps (ql st))(len:∀ys L Q,sp ys L Q->ys.length=ps.length)
 (hbody:∀(cdv:Value) (A:Around) (outer:List Env) (s:Shared) (H:Hp) (E:XK),v3 k (A.deeper (PyProof.Rows.envOfC qual (ql st) s.heap.objs.size f cdv))->
  ∃t,rD (cR CX0 P w K mg base N qual (ql st) f cdv A outer s H E).nox (zn st) t/\∀ys L Q,sp ys L Q->t { nx:=fun _ L'=>gD Q .non L',rt:=gD Q } (gQ N ys) L):Fn3 P w K mg base (k+1) f fd ps sp:=by
 refine F.ok S (fun vs H Q E ⟨ys,L,Q3,rv,rl,z,_⟩=>by rw[<-rv.length];exact len ys L Q3 z) fun cdv A outer s H vs Q E hr ⟨ys,L,Q3,rv,rl,z,k⟩=>?_;obtain⟨t,ht,q⟩:=hbody cdv A outer s H E hr;refine⟨_,ht,gQ N ys,L,_,l6 rv,rl,q ys L Q3 z,?_⟩;refine⟨fun σ H' τ L' t' rs' rl' ⟨L2,s2,q2⟩=>k .non H' .non L2 t' (rl'.sub s2) (by rfl) q2,fun v H' y L' t' rl' rv' ⟨L2,s2,q2⟩=>k v H' y L2 t' (rl'.sub s2) rv' q2,fun _ _ _ _ _ _ _ z=>z.elim,fun _ _ _ _ _ _ _ z=>z.elim⟩
def upM(G:G3)(r:Y->List Y->qk->YK->Prop):V->List V->Hp->VK->Prop:=fun x xs H Q=>∃y ys L Q3,RV G H y x/\xk G H ys xs/\j8 G H L/\r y ys L Q3/\tH G H Q3 Q
theorem wP:nG X "list.append" (upM X.g3 zw):=nG.imp uX fun x xs H Q ⟨y,ys,L,Q3,r1,r2,rl,z,k⟩=>by
 unfold zw at z;split at z
 ·rename_i a v;obtain⟨zs,e,z⟩:=v5 z;obtain⟨us,e2,r⟩:=rl a _ e;obtain⟨v',rfl,rv⟩:=r2.inv1;exact⟨a,us,v',r1,rfl,e2,by rw[<-r.length];exact z.1,k _ _ _ _ (DO e2) (rl.setL e2 (r.app (xk.one rv))) (by rfl) z.2⟩
 ·exact z.elim
theorem xA:nG X "list.extend" (upM X.g3 fS):=nG.imp uo fun x xs H Q ⟨y,ys,L,Q3,r1,r2,rl,z,k⟩=>by
 unfold fS at z;split at z
 ·rename_i a b;obtain⟨zs,e,z⟩:=v5 z;obtain⟨us,e',z⟩:=v5 z;obtain⟨vs,e2,r⟩:=rl a _ e;obtain⟨ws,e3,r'⟩:=rl b _ e';obtain⟨v',rfl,rv⟩:=r2.inv1;cases rv;exact⟨a,b,vs,ws,r1,rfl,e2,e3,by rw[<-r.length,<-r'.length];exact z.1,k _ _ _ _ (DO e2) (rl.setL e2 (r.app r')) (by rfl) z.2⟩
 ·exact z.elim
theorem abr(rl:j8 G H L)(h:bN L (.ref a)=some ys):tyV G.K "list" (.ref a) H:=by obtain⟨xs,sq,_⟩:=cG rl h;exact .inl ⟨rfl,xs,sq⟩
def bU(r:Y->List Y->qk->YK->Prop)(to:x4)(t:dN)(τ:j9)(L:qk)(Q:YK):Prop:=to τ L fun x L1=>match x with
 |.ref a=>iI L1 (.ref a) fun _=>t τ L1 fun xs L2=>r (.ref a) xs L2 Q
 |_=>False
theorem mq{id:String}{r:Y->List Y->qk->YK->Prop}(h2:Slot "list" name id)(h3:typeOf (.builtin id)=pure (.type "method_descriptor"))(hm:nG X id (upM X.g3 r))(ho:QE X o to)(ha:QA X (e::es) tr)
 (h4:attributeBase o name X.env (eval o X.env)=eval o X.env:=by rfl)
 (h5:((backTo cpos (starEach (e::es) X.env)).all (fun x=>!x.1)&&(backToKw cpos (keywordEach [] X.env)).all (fun x=>x.1.isSome)&&decide ((e::es).length+([]:List Keyword).length+(if ([]:List Keyword).isEmpty=true then 0 else 1)<30))=true:=by rfl)
 (h6:(apos.endLine==cpos.line)=true:=by rfl) (h7:Dj e es X:=by rfl) (h8:Dk cpos es X:=by rfl):
 QE X (.Call (.Attribute o name apos) (e::es) [] cpos) (bU r to tr):=DC (aej PySem.F.plainAttrs_list h2 h3 hm ho ha h4 h5 h6 h7 h8) fun σ H Q ⟨τ,L,Q3,rs,rl,z,k⟩=>
 ⟨τ,L,_,rs,rl,z,fun v H1 y L1 t1 rl1 rv1 z1=>by
  split at z1
  ·rename_i a;obtain⟨ys,es,z1⟩:=aA z1;exact⟨by cases rv1;exact abr rl1 es,τ,L1,_,rs.ts t1,rl1,z1,fun vs H2 ys L2 t2 rl2 rv2 z2=>⟨.ref a,ys,L2,Q3,rv1.ts t2,rv2,rl2,z2,k.ts (t1.trans t2)⟩⟩
  ·exact z1.elim⟩
theorem ze(ho:QE X o to)(ha:QA X (e::es) tr)(h4:attributeBase o "append" X.env (eval o X.env)=eval o X.env:=by rfl)
 (h5:((backTo cpos (starEach (e::es) X.env)).all (fun x=>!x.1)&&(backToKw cpos (keywordEach [] X.env)).all (fun x=>x.1.isSome)&&decide ((e::es).length+([]:List Keyword).length+(if ([]:List Keyword).isEmpty=true then 0 else 1)<30))=true:=by rfl)
 (h6:(apos.endLine==cpos.line)=true:=by rfl) (h7:Dj e es X:=by rfl) (h8:Dk cpos es X:=by rfl):
 QE X (.Call (.Attribute o "append" apos) (e::es) [] cpos) (bU zw to tr):=mq PySem.F.slot_list_append PySem.F.type_list_append wP ho ha h4 h5 h6 h7 h8
theorem mJ(ho:QE X o to)(ha:QA X (e::es) tr)(h4:attributeBase o "extend" X.env (eval o X.env)=eval o X.env:=by rfl)
 (h5:((backTo cpos (starEach (e::es) X.env)).all (fun x=>!x.1)&&(backToKw cpos (keywordEach [] X.env)).all (fun x=>x.1.isSome)&&decide ((e::es).length+([]:List Keyword).length+(if ([]:List Keyword).isEmpty=true then 0 else 1)<30))=true:=by rfl)
 (h6:(apos.endLine==cpos.line)=true:=by rfl) (h7:Dj e es X:=by rfl) (h8:Dk cpos es X:=by rfl):
 QE X (.Call (.Attribute o "extend" apos) (e::es) [] cpos) (bU fS to tr):=mq PySem.F.slot_list_extend PySem.F.type_list_extend xA ho ha h4 h5 h6 h7 h8
end
abbrev pY:kW:=yI0 fun i j=>.int (i - j)
abbrev jE:kW:=yI wV fun i j=>.int (i*j)
abbrev az:kW:=yI ahq fun i j=>.int (i / j)
abbrev ai:kW:=yI (fun _ j=>0<j) fun i j=>.int (i % j)
abbrev ani:kW:=yI aho fun i j=>.int (i ^ j.toNat)
abbrev yLt:kW:=yI0 fun i j=>.bl (decide (i<j))
abbrev yLe:kW:=yI0 fun i j=>.bl (decide (i≤j))
abbrev yGt:kW:=yI0 fun i j=>.bl (decide (j<i))
abbrev yF:kW:=ipY fun i j=>i+j
theorem yT :PIp X .Add (dy X.g3 yF):=anu afq
structure ag9(G:G3)(mg:Str->Option Value)(x:Str)(y:Y):Prop where
 ex:∃c,mg x=some (.ref c)/\∀H,RV G H y (.ref c)
theorem zD(t:ag9 X.g3 X.mg x y)(hg:Gl X x)(hd:Dl x:=by decide):QE X (.Name x pos) (yC y):=by obtain⟨c,hm,q⟩:=t.ex;exact akn hg hm q hd
theorem i5{Q:α->qk->Prop}{o:Option α}(h:uY L Q o):∃v,o=some v/\Q v L:=by cases o with|none=>exact h.elim|some v=>exact⟨v,rfl,h⟩
theorem tG(h:(kz lo n)[i]?=some y):i<n/\y=.int (lo+i):=by
 unfold kz at h;rw[Ai] at h;obtain⟨z,ez,e⟩:=Aj.mp h;have hi:i<n:=by
  by_cases c:i<n
  ·exact c
  ·rw[Bv (by simp;exact aa7)] at ez;cases ez
 rw[BB hi] at ez;cases ez;exact⟨hi,e.symm⟩
theorem jB(lo:Int)(n:Nat):(kz lo n).length=n:=by simp[kz]
theorem t7{tb:k6}(W:Nat->j9->qk->Prop)(h0:W 0 τ L)
 (hs:∀i τ L,i<n->W i τ L->g (.int (lo+i)) τ L fun τ2 L2=>tb { D with nx:=bV (W (i+1)),ct:=bV (W (i+1)),bk:=D.nx } τ2 L2) (hd:∀τ L,W n τ L->D.nx τ L):rX (kz lo n) (fun _=>True) g tb D τ L:=by
 refine aK ⟨W,h0,fun _ _ _ _=>trivial,fun i y τ L e w=>?_,fun τ L w=>hd τ L (by rw[jB] at w;exact w)⟩;obtain⟨hi,rfl⟩:=tG e;exact hs i τ L hi w
theorem kf{tb:k6}(h:bN L (.ref a)=some ys)(W:Nat->j9->qk->Prop)(h0:W 0 τ L)(hk:∀i τ L',W i τ L'->L' a=L a)
 (hs:∀i y τ L,ys[i]?=some y->W i τ L->g y τ L fun τ2 L2=>tb { D with nx:=bV (W (i+1)),ct:=bV (W (i+1)),bk:=D.nx } τ2 L2) (hd:∀τ L,W ys.length τ L->D.nx τ L):
 qW L a fun ys keep L1=>rX ys keep g tb D τ L1:=jk (mS h) fun keep kp=>aK ⟨W,h0,fun i τ L' w=>kp L' (hk i τ L' w),hs,hd⟩
theorem ae{keep:qk->Prop}{Q:YK}(I:Nat->List Y->Prop)(hz:ys.length<sizeLine)(hk:keep L)(h0:I 0 [])
 (turn:∀(i:Nat) y zs,ys[i]?=some y->I i zs->g y (τ++List.replicate n none) L fun τ2 L2=>tc τ2 L2 fun b L3=>km b (te τ2 L3 fun z L4=>bV (fun zs L'=>L'=L/\I (i+1) zs) (zs++[z]) L4) (bV (fun zs L'=>L'=L/\I (i+1) zs) zs L3))
 (hq:∀zs,I ys.length zs->∀p,L p=none->Q (.ref p) (qd L p (.lst zs))):lcK ys keep n g tc te τ L Q:=by
 refine ss ⟨hz,fun i zs L'=>L'=L/\I i zs,⟨rfl,h0⟩,?_,?_,?_⟩
 ·rintro i zs L' ⟨rfl,_⟩;exact hk
 ·rintro i y zs L' ey ⟨rfl,hI⟩;exact turn i y zs ey hI
 ·rintro zs L' ⟨rfl,hI⟩ p hp;exact hq zs hI p hp
theorem sg{Q:YK}(I:Nat->List Y->Prop)(hz:m<sizeLine)(h0:I 0 [])
 (turn:∀(i:Nat) zs,i<m->I i zs->g (.int (lo+i)) (τ++List.replicate n none) L fun τ2 L2=>tc τ2 L2 fun b L3=>km b (te τ2 L3 fun z L4=>bV (fun zs L'=>L'=L/\I (i+1) zs) (zs++[z]) L4) (bV (fun zs L'=>L'=L/\I (i+1) zs) zs L3))
 (hq:∀zs,I m zs->∀p,L p=none->Q (.ref p) (qd L p (.lst zs))):lcK (kz lo m) (fun _=>True) n g tc te τ L Q:=by
 refine ae (keep:=fun _=>True) I (by rw[jB];exact hz) trivial h0 (fun i y zs e hI=>?_) fun zs hI=>hq zs (by rw[jB] at hI;exact hI);obtain⟨hi,rfl⟩:=tG e;exact turn i zs hi hI
theorem ue(ys:List Y)(n:Nat):o9 ys (some ((n:Nat):Int)) none=ys.drop n:=by
 unfold o9;rw[HT.sIx_nat,HT.sIx_none];by_cases h:n≤ys.length
 ·rw[BS h,BQ (by rw[B0];simp +arith only)]
 ·rw[Nat.min_eq_right (by lia),C2 (Am _),C2 (by lia),List.take_nil]
theorem dE{ws:List α}{f:α->Y}{w:α}(h:ws[i]?=some w):bW (ws.map f) (i:Int)=some (f w):=xr (by rw[Ai,h];rfl)
def x0(t:k6)(n:Nat)(ys:List Y)(L:qk)(Q:YK):Prop:=t { nx:=fun _ L'=>gD Q .non L',rt:=gD Q } (ys.map some++List.replicate (n - ys.length) none) L
theorem xu{Q:YK}(h:Q y L):gD Q y L:=⟨L,DA L,h⟩
theorem ce{Q:YK}(s:qg L L')(h:Q y L):gD Q y L':=⟨L,s,h⟩
theorem Fn3.never{P:Program}{w:World}{K:Ac}{k:Nat}{sp:jc}(no:∀ys L Q,¬sp ys L Q):Fn3 P w K mg base k f fd ps sp:=
 wo.never fun vs H Q E ⟨ys,L,Q3,_,_,z,_⟩=>no ys L Q3 z
theorem qg.upd{o:LO}(s:qg L L')(h:L a=none):qg L (qd L' a o):=fun b u e=>by rw[qb (k8 e h)];exact s b u e
theorem qg.put{o:LO}(s:qg L L')(h:L' a=some o):qg (qd L a o) L':=fun b u e=>by
 by_cases c:b=a
 ·subst c;rw[q8] at e;cases e;exact h
 ·rw[qb c] at e;exact s b u e
def rQ:jc:=fun ys L Q=>∃ns:List Int,ys=[.sq (ns.map Y.int)]/\ns.length≤63/\L=(fun _=>none)/\∀L',Q (.bl true) L'
def spTop(K:Ac):Sp:=fun vs H Q _=>∃(a:Addr) (ns:List Int),vs=[.ref a]/\SqF K H a (ns.map V.int)/\ns.length≤63/\∀H',Q (.bl true) H'
theorem ou{G:G3}{H:Hp}:∀ns:List Int,xk G H (ns.map Y.int) (ns.map V.int)
 |[]=>rfl
 |_::r=>⟨_,_,rfl,rfl,ou r⟩
theorem ag2{vs:List V}{Q:VK}{E:XK}(h:spTop G.K vs H Q E):dn G rQ vs H Q E:=by obtain⟨a,ns,rfl,hs,hl,q⟩:=h;refine⟨[.sq (ns.map Y.int)],fun _=>none,fun y _=>y=.bl true,xk.one ⟨a,_,rfl,hs,ou ns⟩,(fun _ _ e=>by cases e),⟨ns,rfl,hl,rfl,fun _=>rfl⟩,?_⟩;rintro v H' y L' _ _ rv rfl;cases rv;exact q H'
theorem top_start:∀(K:Ac) (H:Hp) (a:Addr) (ns:List Int),ns.length≤63->acv H->aE K H a (ns.map V.int)->spTop K [.ref a] H (fun v _=>v=.bl true) fun _ _ _=>False:=by
 intro K H a ns hl hO hS;refine⟨a,ns,rfl,?_,hl,fun _=>rfl⟩;rcases hS with(h | ⟨o,h⟩) | h
 ·rcases hO a with z | ⟨o,xs,z⟩<;>rw[h] at z<;>cases z
 ·exact .inl ⟨o,h⟩
 ·exact .inr h
end L3
namespace L2
open PySem PySem.Spec PyProof.Rows
section
variable {σ:L2.St} 
theorem jW(I:qr X pins σ H s)(hf:∀b∈fp,H b=none)(k:∀b o,b∉fp->s.heap.get? b=some o->h'.get? b=some o):bX X.prog X.w H h':=fun b u e=>by
 refine(I.hok b u e).stay (fun c v hc q=>k c v (fun z=>?_) q) (fun _ q=>q) fun _ _ q=>q;have hn:=hf c z;rcases hc with w | w
 ·rw[w,e] at hn;cases hn
 ·rw[w] at hn;cases hn
theorem wE{fs:List Addr}(k:∀b o,b∉fp->h.get? b=some o->h'.get? b=some o):Un fs fp H H h h':=
 ⟨fun b o q _ _ x=>k b o x q,fun b o q _ _ x=>⟨o.slots,k b o x q⟩,fun _ _ _ n _=>n,fun b o q x=>⟨o,k b o x q⟩,fun _ _ q=>q,fun _ _ _ q=>q,fun b ps q=>⟨#[],by rw[q];simp⟩⟩
theorem qr.turnedL(I:qr X pins σ H s)(k:∀b o,b∉fp->s.heap.get? b=some o->h'.get? b=some o)(hf:∀b∈fp,lV X pins H b)(ht:0<t':=by walk_at "t"):qr X pins σ H { s with heap:=h',toks:=t' }:=
 I.call' (s':={ s with heap:=h',toks:=t' }) (ch:=fp) rfl (wE k) (jW I (fun b hb=>(hf b hb).1) k) I.bare fun b hb=>⟨(hf b hb).2.2.2.1,(hf b hb).2.1,(hf b hb).2.2.2.2.1,(hf b hb).2.2.2.2.2⟩
theorem qr.turnedN{o:HO}(I:qr X pins σ H s)(k:∀b o,b∉fp->s.heap.get? b=some o->h'.get? b=some o)(hf:∀b∈fp,lV X pins H b)(ha:s.heap.objs.size≤a)
 (new:xa X.prog X.w (upd H a o) h' a o) (ht:0<t':=by walk_at "t"):qr X pins σ (upd H a o) { s with heap:=h',toks:=t' }:=by
 have hn:H a=none:=I.hok.fresh ha;have lt:∀b ob,s.heap.get? b=some ob->b≠a:=fun b ob q=>Bc (AH (Heap.lt_size q) ha);refine I.call' (s':={ s with heap:=h',toks:=t' }) (ch:=fp) rfl ?_ ?_ I.bare fun b hb=>⟨(hf b hb).2.2.2.1,(hf b hb).2.1,(hf b hb).2.2.2.2.1,(hf b hb).2.2.2.2.2⟩
 ·exact⟨fun b ob q _ _ x=>k b ob x q,fun b ob q _ _ x=>⟨ob.slots,k b ob x q⟩,fun b ob q n _=>by rw[z7 (lt b ob q)];exact n,fun b ob q x=>⟨ob,k b ob x q⟩,
   fun b xs q=>by rw[z7 (jb q hn)];exact q,fun b ob u q=>by rw[z7 (jb q hn)];exact q,fun b ps q=>⟨#[],by rw[z7 (jb q hn),q];simp⟩⟩
 ·intro b u e;by_cases hb:b=a
  ·subst hb;rw[xg] at e;cases e;exact new
  ·rw[z7 hb] at e;have ok:=jW I (h':=h') (fun b hb=>(hf b hb).1) k b u e;exact ok.stay (fun _ _ _ q=>q) (fun c q=>by rw[z7 (jb q hn)];exact q) fun c xs q=>by rw[z7 (jb q hn)];exact q
end
def Ite(K:Ac)(a:Addr):It:=
 ⟨fun i H=>∃xs x,aE K H a xs/\xs[i]?=some x,fun i H v H'=>∃p x,H p=none/\v=.ref p/\H'=upd H p (.tup [.int i,x])/\∀xs,aE K H a xs->xs[i]?=some x,fun i H=>∃xs,aE K H a xs/\xs.length≤i⟩
theorem uj{P:Program}{w:World}{K:Ac}(a e it:Addr)(hne:e≠it):abo P w K (.Tuple elts x1 tp) (Ite K a) [e,it] e (fun i h=>(∃old,IsEnum h e it i old)/\h.IsListIter it a i) where
 mem:=by simp
 obj:=fun i h ⟨⟨old,he⟩,hi⟩ b hb=>by
  rcases An.mp hb with rfl | hb
  ·exact⟨_,he,fun v z=>by cases z⟩
  ·cases Af.mp hb;obtain⟨o,ho,hc,hd⟩:=hi;exact⟨o,ho,fun v z=>by rw[hd] at z;cases z⟩
 keep:=fun i h h' ⟨⟨old,he⟩,hi⟩ k=>⟨⟨old,k e (by simp) _ he⟩,hi.at fun o q=>k it (by simp) o q⟩
 item:=by
  intro X hP hw hK hc i pins s σ H E I hf ⟨⟨old,he⟩,hi⟩ hg;subst hP hw hK;obtain⟨xs,x,hq,hx⟩:=hg;obtain⟨its,rv,p,hz⟩:=I.list hq;obtain⟨u,hu,ru⟩:=rv.get hx;refine wpAny_pyNext_enum_item he hi p.isList (x:=u) (by simpa using hu) hne fun h1 heo hi1 ht hz1 hk=>⟨.ref s.heap.objs.size,rfl,wpAny_letOwnedTupleGo_enum heo fun h2 he2 hs2=>?_⟩;have el:e<s.heap.objs.size:=Heap.lt_size he;have il:it<s.heap.objs.size:=by obtain⟨o,ho,_⟩:=hi;exact Heap.lt_size ho
  have kk:∀b o,b∉[e,it]->s.heap.get? b=some o->h2.get? b=some o:=fun b o nb q=>by have n1:b≠e:=fun z=>nb (by simp[z]);have n2:b≠it:=fun z=>nb (by simp[z]);exact hs2.extBut b o n1 (hk b o n1 n2 q)
  have tg:h2.get? s.heap.objs.size=some { cls:=.type "tuple",data:=.seq #[.int i s.toks,u] }:=hs2.extBut _ _ (Nat.ne_of_gt el) ht;refine⟨.ref s.heap.objs.size,upd H s.heap.objs.size (.tup [.int i,x]),?_,rfl,⟨_,x,I.hok.fresh (Am _),rfl,rfl,fun ys hy=>by rw[I.list_inj hy hq];exact hx⟩,⟨⟨_,he2⟩,hi1.at fun o q=>hs2.extBut _ _ (AR hne) q⟩,fun b hb=>?_⟩
  ·exact I.turnedN (t':=s.toks+1) kk hf (Am _) ⟨by show 2≤sizeLine;decide,[.int i s.toks,u],.cons ⟨_,rfl⟩ (.cons ru .nil),⟨_,tg,rfl,_,rfl⟩⟩
  ·have hb':b<s.heap.objs.size:=by rcases An.mp hb with rfl | hb;exact el;cases Af.mp hb;exact il
   rw[z7 (Bc hb')];exact(hf b hb).1
 done:=by intro X hP hw hK hc i pins s σ H E I hf ⟨⟨old,he⟩,hi⟩ hg;subst hP hw hK;obtain⟨xs,hq,hx⟩:=hg;obtain⟨its,rv,p,hz⟩:=I.list hq;have hl:=rv.length;exact wpAny_pyNext_enum_end (I.ok.hd hc) he hi p.isList (by simp;omega) fun h1 eb=>⟨rfl,I.turnedL (t':=s.toks) (fp:=[e,it]) (fun b o nb q=>eb b o (fun z=>nb (by simp[z])) q) hf⟩
 self:=fun _ _ _ _ _ ⟨⟨_,he⟩,_⟩ h=>wpAny_pyIter_enum he h
def aja(K:Ac)(ta:TA):TI:=fun σ H R=>ta σ H fun vs H1=>∃a,vs=[.ref a]/\(∃xs,aE K H1 a xs)/\R (Ite K a) H1
theorem m8:bootBuiltins "enumerate" = some (.type "enumerate"):=by decide +kernel
theorem ac0{a:Expr}{ta:TA}(hg:Gl X "enumerate")(hm:X.mg "enumerate" = none)(ha:PA X [a] ta)(hs:starEach [a] X.env=[(false,eval a X.env)]:=by rfl):
 PI X (.Tuple elts x1 tp) (.Call (.Name "enumerate" p) [a] [] pos) (aja X.K ta):=by
 intro pins s σ H R I h;refine Call_ (dl I hg hm m8 (BX (x8 (ha pos pins s σ H _ I h) fun us s1 ⟨vs,H1,I1,r1,q1⟩=>?_) hs rfl));obtain⟨l,e,⟨xs,hq⟩,q⟩:=q1;subst e;obtain⟨u,rfl,ru⟩:=qR r1;cases ru;obtain⟨its,rv,pl,hz⟩:=I1.list hq;refine call_enumerate_list pl.isList fun h1 he hi hsz hk=>?_;have I2:qr X pins σ H1 { s1 with heap:=h1 }:=I1.kept (t':=s1.toks) hk;refine wpAny_pyIter_enum (s:={ s1 with heap:=h1 }) he ?_;refine⟨s1.heap.objs.size+1,[s1.heap.objs.size+1,s1.heap.objs.size],_,_,H1,rfl,I2,uj l _ _ (Nat.succ_ne_self _),⟨⟨_,he⟩,hi⟩,fun b hb=>?_,q⟩;have hb':s1.heap.objs.size≤b:=by rcases An.mp hb with rfl | hb;exact Bz _;cases Af.mp hb;exact Am _
 exact I1.fpOk hb' (I1.hok.fresh hb')
end L2
namespace L3
open PySem L2
theorem iD{keep:qk->Prop}(h:∀H L,j4 H₀ H->j8 G H L->keep L->∃xs,aE G.K H a xs/\xk G H ys xs):nF G H₀ (Ite G.K a) (ys.zipIdx.map fun p=>Y.tup [.int (p.2:Nat),p.1]) keep where
 go:=fun i H L t rl kp hi=>by
  obtain⟨xs,sq,r⟩:=h H L t rl kp;have:i<xs.length:=by rw[<-r.length];simpa using hi
  exact⟨xs,xs[i],sq,Ak this⟩
 yld:=fun i H L x H' y t rl kp hy ⟨p,z,hp,e1,e2,f⟩=>by subst e1 e2;obtain⟨xs,sq,r⟩:=h H L t rl kp;rw[Ai,List.getElem?_zipIdx] at hy;obtain⟨⟨y',j⟩,ey,e3⟩:=Aj.mp hy;obtain⟨y'',ey',e4⟩:=Aj.mp ey;cases e4;subst e3;obtain⟨x',e',rv⟩:=r.get ey';have:=f xs sq;rw[e'] at this;cases this;refine⟨DD hp,rl.skip hp,p,_,rfl,f9.of xg,⟨_,_,rfl,?_,_,_,rfl,rv.ts (DD hp),rfl⟩⟩;show V.int _=V.int _;congr 1;simp
 stop:=fun H L t rl kp=>by obtain⟨xs,sq,r⟩:=h H L t rl kp;exact⟨xs,sq,by rw[Ab,List.length_zipIdx,r.length];exact Am _⟩
def jO(ys:List Y):List Y:=ys.zipIdx.map fun p=>Y.tup [.int (p.2:Nat),p.1]
theorem ak(h:(jO ys)[i]?=some y):∃z,ys[i]?=some z/\y=.tup [.int i,z]:=by unfold jO at h;rw[Ai,List.getElem?_zipIdx] at h;obtain⟨⟨y',j⟩,ey,e3⟩:=Aj.mp h;obtain⟨y'',ey',e4⟩:=Aj.mp ey;cases e4;exact⟨y',ey',by rw[<-e3];simp⟩
theorem aO(ys:List Y):(jO ys).length=ys.length:=by simp[jO]
def bL(tl:x4)(τ:j9)(L:qk)(R:List Y->(qk->Prop)->qk->Prop):Prop:=tl τ L fun x L1=>match x with
 |.ref a=>qW L1 a fun ys keep L=>R (jO ys) keep L
 |.sq ys=>R (jO ys) (fun _=>True) L1
 |_=>False
theorem ac{a:Expr}(hg:Gl X "enumerate")(hm:X.mg "enumerate" = none)(ha:QE X a te)(hs:starEach [a] X.env=[(false,eval a X.env)]:=by rfl)
 (hs2:starEach [a] X.env=(false,eval a X.env)::starEach [] X.env:=by rfl):QI X (.Tuple elts x1 tp) (.Call (.Name "enumerate" p) [a] [] pos) (bL te):=PI.imp (ac0 hg hm (cw ha lJ hs2) hs) fun σ H R ⟨τ,L,R3,rs,rl,z,k⟩=>by
 refine⟨τ,L,_,rs,rl,z,fun v H1 y L1 t1 rl1 rv1 z1=>?_⟩;cases y with
 |ref a=>
  obtain⟨ys,keep,es,kp,hk,z2⟩:=qZ z1;have hy:∀H L,j4 H1 H->j8 X.g3 H L->keep L->∃xs,aE X.K H a xs/\xk X.g3 H ys xs:=fun H L _ rl e=>cG rl (hk L e);obtain⟨xs,sq,_⟩:=hy H1 L1 (DB _) rl1 kp;cases rv1;exact⟨a,rfl,⟨xs,sq⟩,k _ H1 _ _ L1 t1 rl1 (iD hy) z2⟩
 |sq ys=>
  obtain⟨a,xs,e,sf,r⟩:=rv1;subst e;exact⟨a,rfl,⟨xs,sf.sq⟩,k _ H1 _ (fun _=>True) L1 t1 rl1 (iD fun H L t _ _=>⟨xs,(sf.ts t).sq,r.ts t⟩) z1⟩
 |_=>exact z1.elim
end L3
namespace L2
open PySem PySem.Spec PyProof.Rows
section
variable {w:World} 
end
section
variable {w:World} 
end
section
variable {σ:L2.St} 
end
end L2
namespace L3
open PySem L2
def iX(xs:List Y)(L:qk)(Q:YK):Prop:=match xs with
 |[x]=>iI L x fun ys=>∀p,L p=none->Q (.ref p) (qd L p (.lst ys))
 |_=>False
theorem rB :ju X (.type "list") (upL X.g3 iX):=DP n9 fun xs H Q ⟨ys,L,Q3,rv,rl,z,k⟩=>by
 unfold iX at z;split at z
 ·rename_i x;obtain⟨u,rfl,ru⟩:=rv.inv1;obtain⟨zs,ez,z⟩:=aA z;obtain⟨p,us,e,sq,r⟩:=nL rl ru ez;subst e;exact⟨p,us,rfl,sq,fun l hl=>k _ _ _ _ (DD hl) (rl.newL hl r) (by rfl) (z l (rl.none hl))⟩
 ·exact z.elim
theorem pD{T:String}{r:List Y->qk->YK->Prop}(hc:ju X (.type T) (upL X.g3 r))(hg:Gl X x)(hm:X.mg x=none)(hv:bootBuiltins x=some (.type T))(h:QA X (e::es) tr)
 (hn:x ≠ "__name__" := by decide) (hd:Dl x:=by decide) (hs:Dj e es X:=by rfl) (hp:Dk pos es X:=by rfl):
 QE X (.Call (.Name x p) (e::es) [] pos) (lK r tr):=DC (gG hc hg hm hv h hn hd hs hp) fun σ H Q ⟨τ,L,Q3,rs,rl,z,k⟩=>
 ⟨τ,L,_,rs,rl,z,fun vs H1 ys L1 t1 rl1 rv1 z1=>⟨ys,L1,Q3,rv1,rl1,z1,k.ts t1⟩⟩
def du(x:Y)(vs:List Y)(L:qk)(Q:YK):Prop:=match x,vs with
 |.ref a,[.int i]=>dQ L a fun ys=>0≤i/\i<ys.length/\uY L (fun v L=>Q v (qd L a (.lst (ys.eraseIdx i.toNat)))) (ys[i.toNat]?)
 |_,_=>False
theorem acl :nG X "list.pop" (upM X.g3 du):=fun pins s σ H x xs v us Q I rx ry ⟨y,ys,L,Q3,r1,r2,rl,z,k⟩=>by
 unfold du at z;split at z
 ·rename_i a i;obtain⟨zs,e,h0,h1,z⟩:=v5 z;obtain⟨ws,e2,r⟩:=rl a _ e;obtain⟨i',rfl,ri⟩:=r2.inv1;cases ri;cases el:zs[i.toNat]? with
  |none=>rw[el] at z;exact z.elim
  |some w=>
   rw[el] at z;obtain⟨u,eu,ru⟩:=r.get el;obtain⟨_,_,_,hz⟩:=I.list (aE.of e2);have hl:=r.length;have hs:sizeLine<2 ^ 62:=by decide
   refine yK pins s σ H x _ v us Q I rx ry ⟨a,ws,i,i.toNat,u,r1,rfl,e2,by lia,by lia,?_,eu,k _ _ _ _ (DO e2) (rl.setL e2 (r.eraseIdx _)) (ru.ts (DO e2)) z⟩;unfold seqIndex?;rw[AB (show ¬i<0 by lia),AC (by simp;lia)]
 ·exact z.elim
theorem eO(ho:QE X o to)(ha:QA X (e::es) tr)(h4:attributeBase o "pop" X.env (eval o X.env)=eval o X.env:=by rfl)
 (h5:((backTo cpos (starEach (e::es) X.env)).all (fun x=>!x.1)&&(backToKw cpos (keywordEach [] X.env)).all (fun x=>x.1.isSome)&&decide ((e::es).length+([]:List Keyword).length+(if ([]:List Keyword).isEmpty=true then 0 else 1)<30))=true:=by rfl)
 (h6:(apos.endLine==cpos.line)=true:=by rfl) (h7:Dj e es X:=by rfl) (h8:Dk cpos es X:=by rfl):
 QE X (.Call (.Attribute o "pop" apos) (e::es) [] cpos) (bU du to tr):=mq PySem.F.slot_list_pop PySem.F.type_list_pop acl ho ha h4 h5 h6 h7 h8
end L3
namespace L2
open PySem PySem.Spec PyProof.Rows
section
theorem uL(i:Int)(n d:Nat):max 0 (min (if i<0 then i+(n:Int) else i) n)=((HT.sIx n d (some i):Nat):Int):=by
 simp only[HT.sIx];by_cases h:i<0
 ·simp only[h,if_true]<;>lia
 ·simp only[h,if_false]<;>lia
theorem vF(l u:Option Int)(n:Nat):Builtin.Str.strSliceIndices l u 1 n=(List.range (HT.sIx n n u - HT.sIx n 0 l)).map (HT.sIx n 0 l+·):=by
 have z:(0:Int)=((HT.sIx n 0 none:Nat):Int):=rfl;have y:(n:Int)=((HT.sIx n n none:Nat):Int):=rfl;unfold Builtin.Str.strSliceIndices;cases l with
 |none=>
  cases u with
  |none=>exact sliceRange_one 0 n
  |some j=>
   show sliceRange 0 (max 0 (min (if j<0 then j+(n:Int) else j) n)) 1=_;rw[uL j n n];exact sliceRange_one 0 _
 |some i=>
  cases u with
  |none=>
   show sliceRange (max 0 (min (if i<0 then i+(n:Int) else i) n)) n 1=_;rw[uL i n 0];exact sliceRange_one _ n
  |some j=>
   show sliceRange (max 0 (min (if i<0 then i+(n:Int) else i) n)) (max 0 (min (if j<0 then j+(n:Int) else j) n)) 1=_;rw[uL i n 0,uL j n n];exact sliceRange_one _ _
theorem mZ(x:Str)(l u:Option Int):(Txt.slice x l u).cps.toList=(x.cps.toList.drop (HT.sIx x.length 0 l)).take (HT.sIx x.length x.length u - HT.sIx x.length 0 l):=by
 have hn:x.length=x.cps.toList.length:=by simp[Str.length]
 have pick:=pick_run x.cps (HT.sIx x.length 0 l) (HT.sIx x.length x.length u - HT.sIx x.length 0 l);unfold Txt.slice;rw[vF];split
 ·rename_i h;simp only[beq_self_eq_true,Df,Ab,A3,beq_iff_eq] at h;have h1:=HT.sIx_le x.length 0 (Bf _) l;have h2:=HT.sIx_le x.length x.length (Am _) u;have a0:HT.sIx x.length 0 l=0:=by lia
  rw[h,a0,List.drop_zero,BQ (by exact vU)]
 ·show(List.filterMap (fun i=>x.cps[i]?) _).toArray.toList=_;rw[List.toList_toArray];exact pick
def amh:V->Option Int->Option Int->Hp->VK->Prop:=fun x lo hi H Q=>∃z,x=.str z/\z.length≤sizeLine/\Q (.str (Txt.slice z lo hi)) H
theorem ag5:sJ X amh:=by
 intro pins s σ H x v vl vu lo hi sl Q I rx hs pl pu h;obtain⟨z,rfl,hz,q⟩:=h;obtain⟨t,rfl⟩:=rx;obtain⟨l,rfl,hl⟩:∃l:Option (Int×Tok),vl=partValue l/\l.map (·.1)=lo:=by cases pl with|none=>exact⟨none,rfl,rfl⟩|int i t=>exact⟨some (i,t),rfl,rfl⟩
 obtain⟨u,rfl,hu⟩:∃u:Option (Int×Tok),vu=partValue u/\u.map (·.1)=hi:=by cases pu with|none=>exact⟨none,rfl,rfl⟩|int i t=>exact⟨some (i,t),rfl,rfl⟩
 subst hl hu;refine⟨"str",_,F.slot_str_getitem.lookup,typeIs_str _ _ _,jy I.tk (wpAny_getItem_str_slice (l:=l) (u:=u) (st:=none) hs rfl ?_)⟩;exact post_val_or_str ⟨AM (Txt.slice_le z _ _) hz,fun t' k ht=>⟨.str _,H,I.tok _,⟨t',rfl⟩,q⟩⟩
theorem rY{zs:List Str}:∀{us:List Value},zh (zs.map V.str) us->StrsAre us zs:=by
 induction zs with
 |nil=>intro us r;rw[CZ] at r;cases r;exact .nil
 |cons z zs ih=>
  intro us r;rw[AD] at r;cases r with
  |cons r1 r2=>
   obtain⟨t,e⟩:=r1;subst e;exact .cons z t (ih r2)
def aje(K:Ac):V->List V->Hp->VK->Prop:=fun x vs H Q=>∃z a zs,x=.str z/\vs=[.ref a]/\aE K H a ((zs:List Str).map V.str)/\(zs.map (·.length)).sum+zs.length*z.length≤16777216/\Q (.str (Txt.join z zs)) H
theorem ade:nG X "str.join" (aje X.K):=by intro pins s σ H x vs v us Q I rx rv h;obtain⟨z,a,zs,rfl,rfl,hq,hz,q⟩:=h;obtain⟨t,rfl⟩:=rx;obtain⟨u,rfl,ru⟩:=rv.one;cases ru;obtain⟨its,r,p,_⟩:=I.list hq;exact jy I.tk (PyProof.Rows.join_list p.isList (by simpa using rY r) hz fun t' k ht=>⟨.str _,H,I.tok _,⟨t',rfl⟩,q⟩)
end
end L2
namespace L3
open PySem L2
def ug(x:Y)(lo hi:Option Int)(L:qk)(Q:YK):Prop:=match x with
 |.str z=>z.length≤sizeLine/\Q (.str (Txt.slice z lo hi)) L
 |x=>aj5 x lo hi L Q
theorem qE(K:Ac)(P:Program)(w:World)(hK:X.K=K:=by rfl)(hP:X.prog=P:=by rfl)(hw:X.w=w:=by rfl):sJ X (agn ⟨K,P,w⟩ ug):=by refine sJ.imp (ag5.or (aj7 K P w hK hP hw)) fun x lo hi H Q ⟨y,L,Q3,rv,rl,z,k⟩=>?_;cases y with|str s=>exact .inl ⟨s,rv,z.1,k _ H _ L (DB _) rl (by rfl) z.2⟩|_=>exact .inr ⟨_,L,Q3,rv,rl,z,k⟩
def yBS(r:Y->List Y->qk->YK->Prop)(to:x4)(t:dN)(τ:j9)(L:qk)(Q:YK):Prop:=to τ L fun x L1=>match x with
 |.str z=>t τ L1 fun xs L2=>r (.str z) xs L2 Q
 |_=>False
theorem ahj{id:String}{r:Y->List Y->qk->YK->Prop}(h2:Slot "str" name id)(h3:typeOf (.builtin id)=pure (.type "method_descriptor"))(hm:nG X id (upM X.g3 r))(ho:QE X o to)(ha:QA X (e::es) tr)
 (h4:attributeBase o name X.env (eval o X.env)=eval o X.env:=by rfl)
 (h5:((backTo cpos (starEach (e::es) X.env)).all (fun x=>!x.1)&&(backToKw cpos (keywordEach [] X.env)).all (fun x=>x.1.isSome)&&decide ((e::es).length+([]:List Keyword).length+(if ([]:List Keyword).isEmpty=true then 0 else 1)<30))=true:=by rfl)
 (h6:(apos.endLine==cpos.line)=true:=by rfl) (h7:Dj e es X:=by rfl) (h8:Dk cpos es X:=by rfl):
 QE X (.Call (.Attribute o name apos) (e::es) [] cpos) (yBS r to tr):=DC (aej PySem.F.plainAttrs_str h2 h3 hm ho ha h4 h5 h6 h7 h8) fun σ H Q ⟨τ,L,Q3,rs,rl,z,k⟩=>
 ⟨τ,L,_,rs,rl,z,fun v H1 y L1 t1 rl1 rv1 z1=>by
  split at z1
  ·rename_i s;cases rv1;exact⟨rfl,τ,L1,_,rs.ts t1,rl1,z1,fun vs H2 ys L2 t2 rl2 rv2 z2=>⟨.str s,ys,L2,Q3,rfl,rv2,rl2,z2,k.ts (t1.trans t2)⟩⟩
  ·exact z1.elim⟩
theorem pK{G:G3}{H:Hp}:∀{zs:List Str} {xs:List V},xk G H (zs.map Y.str) xs->xs=zs.map V.str
 |[],_,h=>h
 |z::r,_,⟨x,xs',e,q,s⟩=>by rw[e,show x=V.str z from q,pK s];rfl
def tw(x:Y)(vs:List Y)(L:qk)(Q:YK):Prop:=match x,vs with
 |.str z,[.ref a]=>dQ L a fun ys=>∃zs,ys=zs.map Y.str/\(zs.map (·.length)).sum+zs.length*z.length≤16777216/\Q (.str (Txt.join z zs)) L
 |_,_=>False
theorem agv :nG X "str.join" (upM X.g3 tw):=nG.imp ade fun x xs H Q ⟨y,ys,L,Q3,r1,r2,rl,z,k⟩=>by
 unfold tw at z;split at z
 ·rename_i s a;obtain⟨us,e,zs,rfl,hz,z⟩:=v5 z;obtain⟨ws,e2,r⟩:=rl a _ e;obtain⟨u,rfl,ru⟩:=r2.inv1;cases ru;rw[pK r] at e2;exact⟨s,a,zs,r1,rfl,aE.of e2,hz,k _ H _ L (DB _) rl (by rfl) z⟩
 ·exact z.elim
theorem adb(ho:QE X o to)(ha:QA X (e::es) tr)(h4:attributeBase o "join" X.env (eval o X.env)=eval o X.env:=by rfl)
 (h5:((backTo cpos (starEach (e::es) X.env)).all (fun x=>!x.1)&&(backToKw cpos (keywordEach [] X.env)).all (fun x=>x.1.isSome)&&decide ((e::es).length+([]:List Keyword).length+(if ([]:List Keyword).isEmpty=true then 0 else 1)<30))=true:=by rfl)
 (h6:(apos.endLine==cpos.line)=true:=by rfl) (h7:Dj e es X:=by rfl) (h8:Dk cpos es X:=by rfl):
 QE X (.Call (.Attribute o "join" apos) (e::es) [] cpos) (yBS tw to tr):=ahj PySem.F.slot_str_join PySem.F.type_str_join agv ho ha h4 h5 h6 h7 h8
theorem oO(zs:List Str):(Txt.join "" zs).cps.toList=zs.flatMap fun z=>z.cps.toList:=by
 have e:∀zs:List Str,(Str.join "" zs).cps.toList=zs.flatMap fun z=>z.cps.toList:=by
  intro zs
  induction zs with
  |nil=>rfl
  |cons z r ih=>
   cases r with
   |nil=>simp[Str.join]
   |cons y r=>
    show(z ++ "" ++ Str.join "" (y::r)).cps.toList=_;have:(z ++ "" ++ Str.join "" (y::r)).cps=z.cps++#[]++(Str.join "" (y::r)).cps:=rfl;rw[this];simp only[Array.toList_append,ih,A4,Array.append_empty]
 exact(Bs (fun x:Str=>x.cps.toList) (StrLaws.glued_eq_join "" zs)).trans (e zs)
def mG(t u:k6)(D:xo)(τ:j9)(L:qk):Prop:=∃J:j9->qk->Prop,t { D with nx:=J } τ L/\∀τ' L',J τ' L'->u D τ' L'
theorem ax{t u:k6}(h:QS X st t)(k:rD X rest u):rD X (st::rest) (mG t u):=mH.imp (qU h k) fun D σ H ⟨τ,L,D3,rs,rl,⟨J,z,q⟩,k⟩=>
 ⟨τ,L,{ D3 with nx:=J },rs,rl,z,fun σ1 H1 τ1 L1 t1 rs1 rl1 z1=>⟨τ1,L1,D3,rs1,rl1,q τ1 L1 z1,k.ts t1⟩,k.rt,k.bk,k.ct⟩
theorem ay{o u:LO}(h:a≠b):qd (qd L a o) b u=qd (qd L b u) a o:=by
 funext c;by_cases h1:c=a
 ·subst h1;rw[qb h,q8,q8]
 ·by_cases h2:c=b
  ·subst h2;rw[q8,qb h1,q8]
  ·rw[qb h2,qb h1,qb h1,qb h2]
abbrev X3:=j9->Addr->qk->Prop
abbrev lU:=List Y->qk->YK->(Addr->qk->Prop)->Prop
def upX(G:G3)(E3:X3):X1:=fun σ c H=>∃C τ L,c=.ref C/\ve G H σ τ/\j8 G H L/\E3 τ C L
def ajf(G:G3)(H:Hp)(E3:Addr->qk->Prop)(E:XK):Prop:=∀C H' L',j4 H H'->j8 G H' L'->E3 C L'->E (.ref C) none H'
def dnX(G:G3)(sp:lU):Sp:=fun vs H Q E=>∃ys L Q3 E3,xk G H ys vs/\j8 G H L/\sp ys L Q3 E3/\tH G H Q3 Q/\ajf G H E3 E
def xO(E3:Addr->qk->Prop):X3:=fun _ C L=>∃L2,qg L2 L/\E3 C L2
abbrev al3(P:Program)(w:World)(K:Ac)(mg:Str->Option Value)(base:Heap)(k:Nat)(f:Addr)(fd:FuncData)(ps:List Str)(sp:lU):Prop:=wo P w K mg base (CXE P w) k f fd ps (dnX ⟨K,P,w⟩ sp)
theorem qr.tst{σ:L2.St}(I:qr X pins σ H s):j4 X.H₀ H:=fun a u i e=>by cases u with|tup xs=>exact I.base.tups a xs e|frz o u=>exact I.base.frzs a o u e|_=>cases i
theorem ahf{P:Program}{w:World}{K:Ac}{N:List Str}{E:XK}{E3:Addr->qk->Prop}(h:ajf ⟨K,P,w⟩ H E3 E):
 bQ (cR (CXE P w) P w K mg base N qual scope f cd A outer s H E) (upX ⟨K,P,w⟩ (xO E3)):=by
 intro pins σ H' s' a C tr I L ap apT ⟨C',τ,L',ec,rs,rl,L2,sb,q⟩;cases ec;exact yU pins σ H' s' a C tr I L ap apT (h C H' L2 (qr.tst I) (rl.sub sb) q)
def zZ(C:Addr)(E3:X3)(t:dN)(_:xo)(τ:j9)(L:qk):Prop:=t τ L fun ys L1=>ys.length≤1000/\E3 τ C L1
section
variable {E3:X3}
theorem yH{np:Pos}(c:yX X.K C)(hg:Gl X x)(hm:X.mg x=some (.ref C))(hc:X.calm=true)(ht:bQ X (upX X.g3 E3))(hx:X.ex=[])(ha:QA X (e::es) tr)(hdb:Dl x:=by decide)
 (he:Dj e es X:=by rfl) (hpl:Dk cpos es X:=by rfl):
 QS X (.Raise (some (.Call (.Name x np) (e::es) [] cpos)) none pos) (zZ C E3 tr):=DG (wU c hg hm hc ht hx ha hdb he hpl) fun D σ H ⟨τ,L,D3,rs,rl,z,k⟩=>
 ⟨τ,L,_,rs,rl,z,fun vs H1 ys L1 t1 rl1 rv1 ⟨hl,z1⟩=>⟨aj (by rw[<-rv1.length];exact hl),C,τ,L1,rfl,rs.ts t1,rl1,z1⟩⟩
end
section
variable {cp:Pos}
end
section
variable {a:Expr}{ta:x4}{pt:Pos}{vs:List V}
end
def noX:X3:=fun _ _ _=>False
theorem agd :bQ X (upX X.g3 noX):=fun _ _ _ _ _ _ _ _ _ _ _ ⟨_,_,_,_,_,_,z⟩=>z.elim
open PySem L2 PySem.W
theorem sk{K:Frag}(q:excIn K C [.type "ValueError",.type "Exception",.type "BaseException",.type "object"] "ValueError.__new__" = true):yX K C:=abp q CB (by decide +kernel) CB
section
variable {K:Frag}{D:Addr}{t c:Value}{b:Bool}
end
end L3
namespace L2
open PySem PySem.Spec PyProof.Rows
def gU(X:Cx)(ops:List CmpOp)(es:List Expr)(t:V->TE):Prop:=∀(pos:Pos) (pins:List (Addr×Obj)) (s:Shared) (σ:St) (H:Hp) (x:V) (v:Value) (Q:Bool->Hp->Prop),qr X pins σ H s->zc x v->(t x σ H fun z H'=>∃k,z=.bl k/\Q k H')->wpAny (model X.prog X.w) X.A (testChain pos v ops (evalEach es X.env)) (TP X pins σ Q) X.xe s
def aet(r:R2)(tb:TE):V->TE:=fun x σ H Q=>tb σ H fun y H1=>r x y H1 Q
def aeu(r:R2)(tb:TE)(u:V->TE):V->TE:=fun x σ H Q=>tb σ H fun y H1=>r x y H1 fun z H2=>∃k,z=.bl k/\(if k=true then u y σ H2 Q else Q (.bl false) H2)
section
variable {a b:Expr}{tb:TE}{op op':CmpOp}{ops:List CmpOp}{r:R2}{u:V->TE} 
theorem vC(ho:ko X (compareOp op) r)(hb:PE X b tb):gU X [op] [b] (aet r tb):=by intro pos pins s σ H x v Q I rx h;refine test_last (x8 (hb pins s σ H _ I h) fun w' s1 ⟨y,H1,I1,r1,q1⟩=>x8 (ho pins s1 σ H1 x y v w' _ I1 rx r1 q1) fun d s2 ⟨z,H2,I2,r2,k,e,q2⟩=>?_);subst e;cases r2;exact wpAny_truthy_bool ⟨H2,I2,q2⟩
theorem u5(ho:ko X (compareOp op) r)(hb:PE X b tb)(ht:gU X (op'::ops) (c::es) u):gU X (op::op'::ops) (b::c::es) (aeu r tb u):=by
 intro pos pins s σ H x v Q I rx h;refine test_link (x8 (hb pins s σ H _ I h) fun w' s1 ⟨y,H1,I1,r1,q1⟩=>x8 (ho pins s1 σ H1 x y v w' _ I1 rx r1 q1) fun d s2 ⟨z,H2,I2,r2,k,e,q2⟩=>?_);subst e;cases r2;refine wpAny_truthy_bool ?_;cases k with
 |false=>
  obtain⟨k',e',q'⟩:=q2;cases e';exact ite_ff ⟨H2,I2,q'⟩
 |true=>exact ite_tt (ht pos pins s2 σ H2 y w' Q I2 r1 q2)
theorem uv(ha:PE X a ta)(h:gU X (op::op'::ops) (b::c::es) u)(hm:lastMarks (op::op'::ops) (b::c::es)=false):PT X (.Compare a (op::op'::ops) (b::c::es) pos) (aa6 fun σ H Q=>ta σ H fun x H1=>u x σ H1 Q):=by intro pins s σ H Q I hh;exact isTrue_chain (x8 (ha pins s σ H _ I hh) fun v s1 ⟨x,H1,I1,r1,q1⟩=>h pos pins s1 σ H1 x v Q I1 r1 q1) hm
end
end L2
namespace L3
open PySem L2
def sF(ta:x4)(u:Y->x4)(τ:j9)(L:qk)(Q:YK):Prop:=ta τ L fun x L1=>u x τ L1 Q
def xZ(r:kW)(tb:x4)(x:Y)(τ:j9)(L:qk)(Q:YK):Prop:=tb τ L fun y L1=>r x y L1 Q
def uG(r:kW)(tb:x4)(u:Y->x4)(x:Y)(τ:j9)(L:qk)(Q:YK):Prop:=tb τ L fun y L1=>r x y L1 fun z L2=>match z with
 |.bl k=>km k (u y τ L2 Q) (Q (.bl false) L2)
 |_=>False
def upC(G:G3)(u:Y->x4):V->TE:=fun x σ H Q=>∃y τ L Q3,RV G H y x/\ve G H σ τ/\j8 G H L/\u y τ L Q3/\tH G H Q3 Q
theorem gU.imp{ops:List CmpOp}{t u:V->TE}(h:gU X ops es t)(q:∀x σ H Q,u x σ H Q->t x σ H Q):gU X ops es u:=fun pos pins s σ H x v Q I r z=>h pos pins s σ H x v Q I r (q _ _ _ _ z)
theorem adn{r:kW}(x:V)(σ:L2.St)(H:Hp)(Q:VK):upC G (xZ r tb) x σ H Q->aet (dy G r) (o6 G tb) x σ H Q:=fun⟨y,τ,L,Q3,rv,rs,rl,z,k⟩=>
 ⟨τ,L,_,rs,rl,z,fun v H1 y1 L1 t1 rl1 rv1 z1=>⟨y,y1,L1,Q3,rv.ts t1,rv1,rl1,z1,k.ts t1⟩⟩
theorem ac4{r:kW}{u:Y->x4}(x:V)(σ:L2.St)(H:Hp)(Q:VK):upC G (uG r tb u) x σ H Q->aeu (dy G r) (o6 G tb) (upC G u) x σ H Q:=fun⟨y,τ,L,Q3,rv,rs,rl,z,k⟩=>
 ⟨τ,L,_,rs,rl,z,fun v H1 y1 L1 t1 rl1 rv1 z1=>⟨y,y1,L1,_,rv.ts t1,rv1,rl1,z1,fun v2 H2 y2 L2 t2 rl2 rv2 z2=>by
  cases y2 with
  |bl kk=>
   refine⟨kk,rv2,?_⟩;have z3:km kk (u y1 τ L2 Q3) (Q3 (.bl false) L2):=z2;cases kk with|true=>rw[AC rfl];exact⟨y1,τ,L2,Q3,rv1.ts t2,rs.ts (t1.trans t2),rl2,z3,k.ts (t1.trans t2)⟩|false=>rw[AB Ap];exact k _ H2 _ L2 (t1.trans t2) rl2 (by rfl) z3
  |_=>exact z2.elim⟩⟩
section
variable {a b:Expr}{ta:x4}{op op':CmpOp}{ops:List CmpOp}{r:kW}{u:Y->x4} 
theorem vQ(ho:ko X (compareOp op) (dy X.g3 r))(hb:QE X b tb):gU X [op] [b] (upC X.g3 (xZ r tb)):=gU.imp (vC ho hb) adn
theorem l7(ho:ko X (compareOp op) (dy X.g3 r))(hb:QE X b tb)(ht:gU X (op'::ops) (c::es) (upC X.g3 u)):gU X (op::op'::ops) (b::c::es) (upC X.g3 (uG r tb u)):=gU.imp (u5 ho hb ht) ac4
theorem yk(σ:L2.St)(H:Hp)(Q:VK):o6 G (sF ta u) σ H Q->(fun σ H Q=>o6 G ta σ H fun x H1=>upC G u x σ H1 Q) σ H Q:=fun⟨τ,L,Q3,rs,rl,z,k⟩=>
 ⟨τ,L,_,rs,rl,z,fun v H1 y L1 t1 rl1 rv1 z1=>⟨y,τ,L1,Q3,rv1,rs.ts t1,rl1,z1,k.ts t1⟩⟩
theorem aag(ha:QE X a ta)(h:gU X (op::op'::ops) (b::c::es) (upC X.g3 u))(hm:lastMarks (op::op'::ops) (b::c::es)=false:=by with_unfolding_all rfl):QT X (.Compare a (op::op'::ops) (b::c::es) pos) (yB (sF ta u)):=
 PT.imp (uv ha h hm) fun σ H Q q=>yk σ H _ (afe σ H Q q)
end
end L3
namespace L2
open PySem PySem.Spec PyProof.Rows
section
end
end L2
namespace L3
open PySem L2
def abt:Y->Option jf
 |.int i=>some (.inl i)
 |.str x=>some (.inr x)
 |_=>none
theorem ij{k:jf}(h:abt y=some k)(r:RV G H y v):v=kV k:=by cases y with|int i=>cases h;exact r|str x=>cases h;exact r|_=>cases h
def oI(kvs:List (jf×Y))(k:jf)(y:Y):List (jf×Y):=
 if (kvs.any fun kv=>decide (kv.1=k))=true then kvs.map (fun kv=>if kv.1=k then(kv.1,y) else kv) else kvs++[(k,y)]
theorem j4.dct{p:Addr}{zs:List (jf×V)}{o:HO}(h:H p=some (.dK zs)):j4 H (upd H p o):=fun a u i q=>by rw[z7 ?_];exact q;rintro rfl;rw[h] at q;cases q;cases i
theorem yS{kvs:List (jf×Y)}{xs:List (jf×V)}(p:Paired (fun(p:jf×Y) (q:jf×V)=>p.1=q.1/\RV G H p.2 q.2) kvs xs)(k:jf):(kvs.any fun kv=>decide (kv.1=k))=xs.any fun kv=>decide (kv.1=k):=by induction p with|nil=>rfl|cons r t ih=>rw[BJ,BJ,ih,r.1]
theorem yM{kvs:List (jf×Y)}{xs:List (jf×V)}(p:Paired (fun(p:jf×Y) (q:jf×V)=>p.1=q.1/\RV G H p.2 q.2) kvs xs)(k:jf)(r:RV G H y v):
 Paired (fun(p:jf×Y) (q:jf×V)=>p.1=q.1/\RV G H p.2 q.2) (kvs.map fun kv=>if kv.1=k then(kv.1,y) else kv) (xs.map fun kv=>if kv.1=k then(kv.1,v) else kv):=by
 induction p with
 |nil=>exact .nil
 |@cons a b _ _ r' t ih=>
  refine .cons ?_ ih;obtain⟨e,q⟩:=r';dsimp only;by_cases c:a.1=k
  ·rw[AC c,AC (e▸c)];exact⟨e,r⟩
  ·rw[AB c,AB (fun z=>c (e.trans z))];exact⟨e,q⟩
theorem ua{kvs:List (jf×Y)}{xs:List (jf×V)}(p:Paired (fun(p:jf×Y) (q:jf×V)=>p.1=q.1/\RV G H p.2 q.2) kvs xs)(k:jf)(r:RV G H y v):
 Paired (fun(p:jf×Y) (q:jf×V)=>p.1=q.1/\RV G H p.2 q.2) (kvs++[(k,y)]) (xs++[(k,v)]):=by
 induction p with|nil=>exact .cons ⟨rfl,r⟩ .nil|cons r' t ih=>exact .cons r' ih
theorem wR{kvs:List (jf×Y)}{xs:List (jf×V)}(p:Paired (fun(p:jf×Y) (q:jf×V)=>p.1=q.1/\RV G H p.2 q.2) kvs xs)(k:jf)(r:RV G H y v):
 Paired (fun(p:jf×Y) (q:jf×V)=>p.1=q.1/\RV G H p.2 q.2) (oI kvs k y) (gf xs k v):=by
 unfold oI gf;rw[yS p k];by_cases c:(xs.any fun kv=>decide (kv.1=k))=true
 ·rw[AC c,AC c];exact yM p k r
 ·rw[AB c,AB c];exact ua p k r
theorem wu{R:α->β->Prop}{l:List α}{m:List β}(p:Paired R l m):l.length=m.length:=by induction p with|nil=>rfl|cons _ _ ih=>rw[AE,AE,ih]
def aeo(_:j9)(L:qk)(Q:YK):Prop:=∀p,L p=none->Q (.ref p) (qd L p (.dct []))
def af7(td ti:x4)(τ:j9)(L:qk)(Q:YK):Prop:=td τ L fun x L1=>ti τ L1 fun y L2=>match x,abt y with
 |.ref a,some k=>nZ L2 a fun kvs=>uY L2 Q (wz kvs k)
 |_,_=>False
def af5(td ti tv:x4)(D:xo)(τ:j9)(L:qk):Prop:=tv τ L fun v L1=>td τ L1 fun x L2=>ti τ L2 fun y L3=>match x,abt y with
 |.ref a,some k=>nZ L3 a fun kvs=>kvs.length<sizeLine/\D.nx τ (qd L3 a (.dct (oI kvs k v)))
 |_,_=>False
section
variable {i:Expr}{td tv:x4} 
theorem aco:QE X (.Dict [] [] pos) aeo:=DC yN fun σ H Q ⟨τ,L,Q3,rs,rl,z,k⟩=>fun p hp=>by
 refine k _ _ _ (qd L p (.dct [])) (DD hp) (fun a u e=>?_) (by rfl) (z p (rl.none hp));by_cases c:a=p
 ·subst c;rw[q8] at e;cases e;exact⟨[],xg,.nil⟩
 ·rw[qb c] at e;exact(rl a u e).keep (DD hp) (z7 c)
theorem ae7(hu:X.A.units+128<cLine)(ho:QE X o td)(hi:QE X i ti)(hs:ahv i):QE X (.Subscript o i pos) (af7 td ti):=DC (ae2 (by omega) ho hi hs) fun σ H Q ⟨τ,L,Q3,rs,rl,z,k⟩=>
 ⟨τ,L,_,rs,rl,z,fun v H1 x L1 t1 rl1 rv1 z1=>⟨τ,L1,_,rs.ts t1,rl1,z1,fun w H2 y L2 t2 rl2 rv2 z2=>by
  split at z2
  ·rename_i a kk ek;obtain⟨kvs,e,z3⟩:=cW z2;obtain⟨yv,ev,q⟩:=i5 z3;obtain⟨xs,e2,pr⟩:=rl2 a _ e;obtain⟨xv,ex,rx⟩:=gS pr ev;exact⟨a,xv,rv1,.inl ⟨xs,kk,.inl e2,ij ek rv2,ex.symm⟩,k _ H2 _ L2 (t1.trans t2) rl2 rx q⟩
  ·exact z2.elim⟩⟩
theorem ad5(hu:X.A.units+128<cLine)(ho:QE X o td)(hi:QE X i ti)(hv:QE X value tv)(hs:swapsWith value (some (.Subscript o i pos')) pos.line X.env=pure false:=by rfl):QS X (.Assign [.Subscript o i pos'] value pos) (af5 td ti tv):=
 DG (ae9 (by omega) ho hi hv hs) fun D σ H ⟨τ,L,D3,rs,rl,z,k⟩=>
 ⟨τ,L,_,rs,rl,z,fun v H1 vy L1 t1 rl1 rv1 z1=>⟨τ,L1,_,rs.ts t1,rl1,z1,fun x H2 xy L2 t2 rl2 rv2 z2=>⟨τ,L2,_,rs.ts (t1.trans t2),rl2,z2,fun w H3 y L3 t3 rl3 rv3 z3=>by
  split at z3
  ·rename_i a kk ek;obtain⟨kvs,e,hl,q⟩:=cW z3;obtain⟨xs,e2,pr⟩:=rl3 a _ e;have tt:j4 H3 (upd H3 a (.dK (gf xs kk v))):=j4.dct e2;cases (show x=V.ref a from rv2);refine⟨a,_,rfl,.inl ⟨xs,kk,e2,ij ek rv3,by rw[<-wu pr];exact hl,rfl⟩,?_⟩;refine k.nx _ _ _ _ (((t1.trans t2).trans t3).trans tt) (rs.ts (((t1.trans t2).trans t3).trans tt)) (fun b u eb=>?_) q;by_cases c:b=a
   ·subst c;rw[q8] at eb;cases eb;exact⟨_,xg,DF (wR pr kk (rv1.ts (t2.trans t3))) fun _ _ ⟨h1,h2⟩=>⟨h1,h2.ts tt⟩⟩
   ·rw[qb c] at eb;exact(rl3 b u eb).keep tt (z7 c)
  ·exact z3.elim⟩⟩⟩
end
def tV(to ti tv:x4)(D:xo)(τ:j9)(L:qk):Prop:=tv τ L fun v L1=>to τ L1 fun x L2=>ti τ L2 fun y L3=>match x,y with
 |.ref a,.int i=>dQ L3 a fun ys=>uY L3 (fun j L=>D.nx τ (qd L a (.lst (ys.set j v)))) (zQ ys.length i)
 |_,_=>False
section
variable {i:Expr}{tv:x4} 
theorem nU(ho:QE X o to)(hi:QE X i ti)(hv:QE X value tv)
 (ha:∀v,assign (.Subscript o i pos') X.env v=(do
  let ov <-holding [v] (eval o X.env)
  let iv <-holding [v,ov] (eval i X.env)
  standAt pos'
  holding [v,ov,iv] (setItem ov iv v)
  release [v,ov,iv] []):=by intro _;rfl)
 (h1:swapsWithSole [.Subscript o i pos'] value pos.line X.env=pure false:=by rfl) (h2:swappedStores [.Subscript o i pos'] value X.env=pure none:=by rfl)
 (h3:(assignEach [.Subscript o i pos'] X.env).map (·.2)=[assign (.Subscript o i pos') X.env]:=by rfl):QS X (.Assign [.Subscript o i pos'] value pos) (tV to ti tv):=
 DG (zM hv (afb ho hi zO ha) h1 h2 h3) fun D σ H ⟨τ,L,D3,rs,rl,z,k⟩=>
 ⟨τ,L,_,rs,rl,z,fun v H1 vy L1 t1 rl1 rv1 z1=>⟨τ,L1,_,rs.ts t1,rl1,z1,fun x H2 xy L2 t2 rl2 rv2 z2=>⟨τ,L2,_,rs.ts (t1.trans t2),rl2,z2,fun w H3 y L3 t3 rl3 rv3 z3=>by
  split at z3
  ·rename_i a ii;obtain⟨ys,e,z4⟩:=v5 z3;obtain⟨j,ej,q⟩:=i5 z4;obtain⟨xs,e2,r⟩:=rl3 a _ e;cases (show x=V.ref a from rv2);cases (show w=V.int ii from rv3);have tt:j4 H3 (upd H3 a (.lst (xs.set j v))):=DO e2;exact⟨a,xs,ii,j,rfl,rfl,e2,by rw[<-r.length];exact ej,k.nx _ _ _ _ (((t1.trans t2).trans t3).trans tt) (rs.ts (((t1.trans t2).trans t3).trans tt)) (rl3.setL e2 (xk.setY (rv1.ts (t2.trans t3)) j r)) q⟩
  ·exact z3.elim⟩⟩⟩
end
end L3
namespace L2
open PySem PySem.Spec PyProof.Rows
section
variable {v₁ v₂:Expr}{te:TE}{u:Str->TE} 
end
end L2
namespace L3
open PySem L2
section
variable {v₁ v₂:Expr}{u:Str->x4} 
end
@[irreducible] def rW (L:qk) (a:Addr) (k:Addr->List (Str×Y)->Prop):Prop:=match L a with
 |some (.ins C fs)=>k C fs
 |_=>False
theorem vp{fs:List (Str×Y)}{k:Addr->List (Str×Y)->Prop}(e:L a=some (.ins C fs))(h:k C fs):rW L a k:=by unfold rW;rw[e];exact h
theorem jY{k:Addr->List (Str×Y)->Prop}(h:rW L a k):∃C fs,L a=some (.ins C fs)/\k C fs:=by
 unfold rW at h;split at h
 ·rename_i C fs e;exact⟨C,fs,e,h⟩
 ·exact h.elim
abbrev PrF(G:G3)(H:Hp):List (Str×Y)->List (Str×V)->Prop:=Paired fun(p:Str×Y) (q:Str×V)=>p.1=q.1/\RV G H p.2 q.2
theorem abg{fs:List (Str×Y)}{xs:List (Str×V)}(p:PrF G H fs xs){f:Str}(h:fs.lookup f=some y):∃v,xs.lookup f=some v/\RV G H y v:=by
 induction p with
 |nil=>cases h
 |@cons a b _ _ r t ih=>
  obtain⟨ka,ya⟩:=a;obtain⟨kb,vb⟩:=b;obtain⟨e,r⟩:=r;cases (show ka=kb from e);rw[Bi] at h ⊢;cases c:(f==ka) with
  |true=>rw[c] at h;cases h;exact⟨vb,rfl,r⟩
  |false=>rw[c] at h;exact ih h
theorem y0{fs:List (Str×Y)}{xs:List (Str×V)}(p:PrF G H fs xs){f:Str}(h:fs.lookup f=none):xs.lookup f=none:=by
 induction p with
 |nil=>rfl
 |@cons a b _ _ r t ih=>
  obtain⟨ka,ya⟩:=a;obtain⟨kb,vb⟩:=b;obtain⟨e,r⟩:=r;cases (show ka=kb from e);rw[Bi] at h ⊢;cases c:(f==ka) with
  |true=>rw[c] at h;cases h
  |false=>rw[c] at h;exact ih h
def uI(f:Str)(y:Y):List (Str×Y)->List (Str×Y)
 |[]=>[(f,y)]
 |(g,x)::r=>if g=f then(g,y)::r else(g,x)::uI f y r
theorem acd{fs:List (Str×Y)}{xs:List (Str×V)}(p:PrF G H fs xs)(f:Str)(r:RV G H y v):PrF G H (uI f y fs) (bJ f v xs):=by
 induction p with
 |nil=>exact .cons ⟨rfl,r⟩ .nil
 |@cons a b _ _ r' t ih=>
  obtain⟨ka,ya⟩:=a;obtain⟨kb,vb⟩:=b;obtain⟨e,q⟩:=r';cases (show ka=kb from e);unfold uI bJ;by_cases c:ka=f
  ·rw[AC c,AC c];exact .cons ⟨rfl,r⟩ t
  ·rw[AB c,AB c];exact .cons ⟨rfl,q⟩ ih
theorem j4.ins{p:Addr}{zs:List (Str×V)}{o:HO}(h:H p=some (.ins C dx zs)):j4 H (upd H p o):=fun a u i q=>by rw[z7 ?_];exact q;rintro rfl;rw[h] at q;cases q;cases i
def sQ(K:Ac)(f:Str)(te:x4)(τ:j9)(L:qk)(Q:YK):Prop:=te τ L fun x L1=>match x with
 |.ref a=>rW L1 a fun C fs=>Cls K C/\NoAttr K C f/\uY L1 Q (fs.lookup f)
 |_=>False
def af6(K:Ac)(f:Str)(to tv:x4)(D:xo)(τ:j9)(L:qk):Prop:=tv τ L fun v L1=>to τ L1 fun x L2=>match x with
 |.ref a=>rW L2 a fun C fs=>Cls K C/\NoAttr K C f/\fs.length<1000/\D.nx τ (qd L2 a (.ins C (uI f v fs)))
 |_=>False
def aak(C:Addr)(sp:jc)(t:dN)(τ:j9)(L:qk)(Q:YK):Prop:=t τ L fun ys L1=>∀x,L1 x=none->sp (.ref x::ys) (qd L1 x (.ins C [])) fun v L2=>v=.non/\Q (.ref x) L2
section
variable {tv:x4}{f m:Str}{g:Addr}
theorem gL(h:QE X e te)(hb:attributeBase e f X.env (eval e X.env)=eval e X.env:=by rfl):QE X (.Attribute e f pos) (sQ X.K f te):=DC (aiq h hb) fun σ H Q ⟨τ,L,Q3,rs,rl,z,k⟩=>
 ⟨τ,L,_,rs,rl,z,fun v H1 y L1 t1 rl1 rv1 z1=>by
  split at z1
  ·rename_i a;obtain⟨C,fs,e,c,n,z2⟩:=jY z1;obtain⟨y,ey,q⟩:=i5 z2;obtain⟨dx,xs,e2,pr⟩:=rl1 a _ e;obtain⟨w,ew,rw'⟩:=abg pr ey;exact⟨a,C,dx,xs,w,rv1,e2,c,n,ew,k _ H1 _ L1 t1 rl1 rw' q⟩
  ·exact z1.elim⟩
theorem ac5(ho:QE X o to)(hv:QE X value tv)(hs:swapsWith value (some (.Attribute o f pos')) pos.line X.env=pure false:=by rfl):QS X (.Assign [.Attribute o f pos'] value pos) (af6 X.K f to tv):=DG (ah7 ho hv hs) fun D σ H ⟨τ,L,D3,rs,rl,z,k⟩=>
 ⟨τ,L,_,rs,rl,z,fun v H1 vy L1 t1 rl1 rv1 z1=>⟨τ,L1,_,rs.ts t1,rl1,z1,fun w H2 y L2 t2 rl2 rv2 z2=>by
  split at z2
  ·rename_i a;obtain⟨C,fs,e,c,n,hl,q⟩:=jY z2;obtain⟨dx,xs,e2,pr⟩:=rl2 a _ e;have tt:j4 H2 (upd H2 a (.ins C dx (bJ f v xs))):=j4.ins e2;refine⟨a,C,dx,xs,rv2,e2,c,n,by rw[<-wu pr];exact hl,k.nx _ _ _ _ ((t1.trans t2).trans tt) (rs.ts ((t1.trans t2).trans tt)) (fun b u eb=>?_) q⟩;by_cases cc:b=a
   ·subst cc;rw[q8] at eb;cases eb;exact⟨dx,_,xg,DF (acd pr f (rv1.ts t2)) fun _ _ ⟨h1,h2⟩=>⟨h1,h2.ts tt⟩⟩
   ·rw[qb cc] at eb;exact(rl2 b u eb).keep tt (z7 cc)
  ·exact z2.elim⟩⟩
theorem ad6{k:Nat}{sp:jc}(M:Mk X.K C g)(F:Fn3 X.prog X.w X.K X.mg X.base k g fd ps sp)(hr:v3 (k+1) X.A)(hg:Gl X x)(hm:X.mg x=some (.ref C))(hb:ki X.K fd ps [])(ha:QA X (e::es) tr)
 (hdb:Dl x:=by decide) (he:Dj e es X:=by rfl) (hpl:Dk pos es X:=by rfl):
 QE X (.Call (.Name x p) (e::es) [] pos) (aak C sp tr):=DC (ad4 M F hr hg hm hb .nil zA ha hdb he hpl) fun σ H Q ⟨τ,L,Q3,rs,rl,z,k⟩=>
 ⟨τ,L,_,rs,rl,z,fun vs H1 ys L1 t1 rl1 rv1 z1=>fun x dx hx hdx ne=>by
  have ta:j4 H1 (upd H1 dx (.own x)):=DD hdx;have hx':upd H1 dx (.own x) x=none:=by rw[z7 (AR ne)];exact hx
  have tt:j4 H1 (upd (upd H1 dx (.own x)) x (.ins C dx [])):=ta.trans (DD hx');refine⟨.ref x::ys,qd L1 x (.ins C []),_,⟨.ref x,vs++[],by simp,rfl,by rw[A0];exact rv1.ts tt⟩,fun b u eb=>?_,z1 x (rl1.none hx),fun v H2 y L2 t2 rl2 rv2 ⟨ev,q⟩=>?_⟩
  ·by_cases cc:b=x
   ·subst cc;rw[q8] at eb;cases eb;exact⟨dx,[],xg,.nil⟩
   ·rw[qb cc] at eb;have nd:b≠dx:=fun z=>by obtain⟨w,ew⟩:=(rl1 b u eb).ex;rw[z,hdx] at ew;cases ew
    exact(rl1 b u eb).keep tt (by rw[z7 cc,z7 nd])
  ·subst ev;exact⟨rv2,k _ H2 _ L2 (t1.trans (tt.trans t2)) rl2 (by rfl) q⟩⟩
end
open PySem.AutoSeq1 (wpAny_loadPart')
open MeetsSeq MeetsSeq2 MeetsSeq3 SeqRoads2
def af0(x y:Y)(L:qk)(Q:YK):Prop:=iI L x fun xs=>iI L y fun ys=>qX x=true/\qX y=true/\xs.length+ys.length≤sizeLine/\∀p,L p=none->Q (.ref p) (qd L p (.lst (xs++ys)))
theorem aga(K:Ac)(P:Program)(w:World)(hK:X.K=K:=by rfl)(hP:X.prog=P:=by rfl)(hw:X.w=w:=by rfl):ko X (binaryOp .Add) (dy ⟨K,P,w⟩ af0):=by
 subst hK hP hw;intro pins s σ H x y v u Q I rx ry ⟨x3,y3,L,Q3,r1,r2,rl,z,k⟩;obtain⟨xs,ex,z⟩:=aA z;obtain⟨ys,ey,z⟩:=aA z;obtain⟨lx,ly,hz,q⟩:=z;obtain⟨a,ws,rfl,s1,rv1⟩:=ck rl r1 lx ex;obtain⟨b,ws',rfl,s2,rv2⟩:=ck rl r2 ly ey;cases rx;cases ry;obtain⟨is1,vx,tx,_⟩:=I.list s1;obtain⟨is2,vy,ty,_⟩:=I.list s2;obtain⟨⟨cls,dd,data,sl⟩,ho,hc,n,hd⟩:=id (zp tx);obtain⟨⟨cls2,dd2,data2,sl2⟩,ho2,hc2,n2,hd2⟩:=id (zp ty);simp only at hc hd hc2 hd2;subst hc hd hc2 hd2;have l1:=vx.length;have l2:=vy.length;have l3:=rv1.length;have l4:=rv2.length;have hsz:is1.toArray.size+is2.toArray.size≤sizeLine:=by rw[Al,Al];lia
 refine concat_meets ⟨_,ho,rfl⟩ ⟨_,ho2,rfl⟩ noFill_list_add seq_list_add PySem.F.slot_list_add PySem.F.entry_list_add (PySem.F.args_list_add_2 _ _) (PyProof.Rows.list_addW a b is1.toArray is2.toArray n n2 dd dd2 sl sl2 hsz) ⟨ho,ho2,?_⟩;have e:is1.toArray++is2.toArray=(is1++is2).toArray:=by simp
 rw[e];exact⟨.ref _,_,I.lnew (t':=s.toks) (vx.append vy) (by rw[Aa];lia),rfl,k _ _ _ _ (DD I.fresh) (rl.newL I.fresh (rv1.app rv2)) (by rfl) (q _ (rl.none I.fresh))⟩
end L3
namespace L2
open PySem PySem.Spec PyProof.Rows
end L2
namespace Txs
open PySem PySem.Builtin.Str
theorem len_list(x:Str):x.cps.toList.length=x.length:=by simp[Str.length]
end Txs
namespace L2
open PySem PySem.Spec PyProof.Rows
section
variable {isp imk c j1 j2:Nat}{sp mk:Str}{u:Tok}{m:Str->Option Value}{p3 p4 p5 p6 p7 p8 p9 p10:Pos}{Q:Flow->Shared->Prop}
end
end L2
namespace L3
open PySem L2
end L3
namespace L2
open PySem PySem.Spec PyProof.Rows
section
end
end L2
namespace L3
open PySem L2
def iW(s:Stmt):List Stmt:=match s with
 |.ClassDef _ _ _ b _ _ _ _ _ _ _=>b
 |_=>[]
structure vI(P:Program)(w:World)(K:Ac)(mg:Str->Option Value)(base:Heap)(k:Nat)(C:Addr)(m:Str)(ps:List Str)(sp:jc):Prop where
 ex:∃g fd,yG K C m g/\Fn3 P w K mg base k g fd ps sp/\ki K fd ps []
structure wZ(P:Program)(w:World)(K:Ac)(mg:Str->Option Value)(base:Heap)(k:Nat)(C:Addr)(ps:List Str)(sp:jc):Prop where
 ex:∃g fd,Mk K C g/\(∃j,k=j+1/\Fn3 P w K mg base j g fd ps sp)/\ki K fd ps []
theorem vI.mono{P:Program}{w:World}{K:Ac}{k:Nat}{m:Str}{sp:jc}(c:vI P w K mg base j C m ps sp)(h:j≤k):vI P w K mg base k C m ps sp:=by obtain⟨g,fd,M,F,b⟩:=c.ex;exact⟨g,fd,M,F.mono h,b⟩
theorem wZ.mono{P:Program}{w:World}{K:Ac}{k:Nat}{sp:jc}(c:wZ P w K mg base j C ps sp)(h:j≤k):wZ P w K mg base k C ps sp:=by obtain⟨g,fd,M,⟨i,e,F⟩,b⟩:=c.ex;subst e;exact⟨g,fd,M,⟨k - 1,by omega,F.mono (by omega)⟩,b⟩
section
variable {m:Str}{k:Nat}{sp:jc}
theorem ajb(ci:wZ X.prog X.w X.K X.mg X.base k C ps sp)(hr:v3 k X.A)(hg:Gl X x)(hm:X.mg x=some (.ref C))(ha:QA X (e::es) tr)
 (hdb:Dl x:=by decide) (he:Dj e es X:=by rfl) (hpl:Dk pos es X:=by rfl):
 QE X (.Call (.Name x p) (e::es) [] pos) (aak C sp tr):=by
 obtain⟨g,fd,M,⟨j,ej,F⟩,b⟩:=ci.ex;subst ej;exact ad6 M F hr hg hm b ha hdb he hpl
end
structure bG(K:Ac)(C:Addr)(x qual:Str)(st:Stmt):Prop where
 ex:∃(f:Addr) (kV doc pm:Value) (an:Option Addr) (cdv ct:Value),PySem.W.findIn K (.ref C) x=some (some (.ref f))/\PySem.W.isFn K (.ref f)=true/\Fun K x qual st f (PySem.W.fnOf x qual (ja st) (zn st) (ql st) .none kV doc pm an cdv ct)
theorem meth_in{K:Ac}{kV:Value}(a:PySem.W.findIn K (.ref C) x=some (some (.ref f)))
 (l:K.lookup f=some ⟨oc,od,.func (PySem.W.fnOf x qual (ja st) (zn st) (ql st) .none kV doc pm an cdv ct),osl⟩) (c:PySem.W.codeIn K cdv qual=true) (k:PySem.W.keepIn K (.ref f)=true) (i:PySem.W.isFn K (.ref f)=true):bG K C x qual st:=
 ⟨f,kV,doc,pm,an,cdv,ct,a,i,yA (st:=st) l c k⟩
theorem bG.use{K:Ac}(D:bG K C x qual st)
 (hb:∀(kV doc pm:Value) (an:Option Addr) (cdv ct:Value) (us:List Value),us.length=ps.length->bindArgs (PySem.W.fnOf x qual (ja st) (zn st) (ql st) .none kV doc pm an cdv ct) ⟨us,[]⟩=pure (ps.zip us)):
 ∃f fd,Fun K x qual st f fd/\ki K fd ps []/\yG K C x f:=by
 obtain⟨f,kV,doc,pm,an,cdv,ct,a,i,F⟩:=D.ex;exact⟨f,_,F,ki.all (hb kV doc pm an cdv ct),⟨a,i,F.kp⟩⟩
end L3
namespace L2
open PySem PySem.Spec PyProof.Rows
end L2
namespace L3
open PySem L2
end L3
namespace L2
open PySem PySem.Spec PyProof.Rows
section
variable {te:TE} 
end
end L2
namespace L3
open PySem L2
section
end
end L3
namespace L2
open PySem PySem.Spec PyProof.Rows
end L2
namespace L3
open PySem L2 PySem.Spec PyProof.Rows
end L3
namespace L2
open PySem PySem.Spec PyProof.Rows
section
variable {T:Addr}{tr:Option Addr}
end
section
variable {T:List Str}{g:TG}{tc:TT}{te:TE}
end
section
variable {T:Addr}{tr:Option Addr} 
end
section
variable {k:Nat} 
end
theorem qP:∀{ns:List Int} {us:List Value},zh (ns.map V.int) us->∃l:List (Int×Tok),l.map (·.1)=ns/\us=l.map fun p=>Value.int p.1 p.2
 |[],_,.nil=>⟨[],rfl,rfl⟩
 |n::ns,_,.cons r t=>by obtain⟨tk,rfl⟩:=(show ∃t,_=Value.int n t from r);obtain⟨l,e,rfl⟩:=qP t;exact⟨(n,tk)::l,by rw[AD,e],rfl⟩
theorem wN(hc:X.calm=true:=by rfl):ju X (.builtin "sum") (fun xs H Q=>∃(a:Addr) (ns:List Int),xs=[.ref a]/\aE X.K H a (ns.map V.int)/\Q (.int ns.sum) H):=by
 intro pins s σ H xs us Q I r h;obtain⟨a,ns,rfl,sq,q⟩:=h;obtain⟨u,rfl,ru⟩:=qR r;cases ru;obtain⟨its,rv,pl,_⟩:=I.list sq;obtain⟨l,el,rfl⟩:=qP rv;have hl:=zp pl;have ei:(l.map fun p=>Value.int p.1 p.2).toArray=intItems l.toArray:=by unfold intItems;simp
 rw[ei] at hl;refine jy I.tk (sum_intListG (I.ok.hd hc) hl fun h' tk t' hk ht=>?_);have es:preSum (numAt l.toArray) l.toArray.size=ns.sum:=by rw[preSum_eq,BQ (by simp),<-el]
 rw[es];exact⟨.int ns.sum,H,I.kept (h':=h') (t':=tk) hk ht,⟨_,rfl⟩,q⟩
end L2
namespace L3
open PySem L2
section
variable {T:List Str}{wi:TI3}{E3:X3}{Ea:Addr->qk->Prop}
end
def l5:List Y->Option (List Int)
 |[]=>some []
 |.int b::r=>(l5 r).map (b::·)
 |_::_=>none
theorem ux(bs:List Int):l5 (bs.map Y.int)=some bs:=by induction bs with|nil=>rfl|cons b r ih=>show(l5 (r.map Y.int)).map (b::·)=_;rw[ih];rfl
theorem lq{G:G3}{H:Hp}:∀{ys:List Y} {xs:List V} {bs:List Int},l5 ys=some bs->xk G H ys xs->xs=bs.map V.int
 |[],_,_,h,r=>by cases h;exact r
 |y::ys,_,bs,h,⟨x,xs',e,r1,r2⟩=>by
  cases y with
  |int b=>
   have h':(l5 ys).map (b::·)=some bs:=h;obtain⟨cs,e1,rfl⟩:=Aj.mp h';cases (show x=V.int b from r1);rw[e,lq e1 r2];rfl
  |_=>cases h
def ai0(xs:List Y)(L:qk)(Q:YK):Prop:=match xs with
 |[y]=>qX y=true/\iI L y fun ys=>uY L (fun bs L=>Q (.int bs.sum) L) (l5 ys)
 |_=>False
theorem al5(hc:X.calm=true:=by rfl):ju X (.builtin "sum") (upL X.g3 ai0):=DP (wN hc) fun xs H Q ⟨ys,L,Q3,rv,rl,z,k⟩=>by
 unfold ai0 at z;split at z
 ·rename_i y;obtain⟨x,rfl,r⟩:=rv.inv1;obtain⟨hy,z⟩:=z;obtain⟨zs,es,z⟩:=aA z;obtain⟨bs,eb,z⟩:=i5 z;obtain⟨a,us,rfl,sq,rr⟩:=ck rl r hy es;cases lq eb rr;exact⟨a,bs,rfl,sq,k _ H _ L (DB _) rl (by rfl) z⟩
 ·exact z.elim
theorem ah5:bootBuiltins "sum" = some (.builtin "sum"):=by decide +kernel
end L3
namespace L2
open PySem PySem.Spec PyProof.Rows
section
end
end L2
namespace L3
open PySem L2
end L3
namespace L2
open PySem PySem.Spec PyProof.Rows
section
variable {w:World} 
end
section
end
section
end
section
end
end L2
namespace L3
open PySem L2
end L3
namespace L2
open PySem PySem.Spec PyProof.Rows
section
def gB(b:Nat->Bool):Nat->Nat->Nat
 |_,0=>0
 |i,k+1=>(if b i=true then 1 else 0)+gB b (i+1) k
theorem ae5(l:Addr)(its:Array Value)(n:Nat)(x:Value)(b:Nat->Bool):∀(k i:Nat) (c:Int),its.size - i=k->
 Meets (Builtin.«list.count.loop» ⟨[.ref l,x,rawInt i,rawInt c],[]⟩) (fun A R s=>s.heap.get? l=some { cls:=.type "list",dict:=none,data:=.seq its n,slots:=#[] }/\(∀m (hm:m<its.size),SeqAt.EqAt A.in1 s its[m] x (b m))/\R (.ok (.ret (.int (c+((gB b i k:Nat):Int)) s.toks))) { s with toks:=s.toks+1 }):=by
 intro k
 induction k with
 |zero=>
  intro i c hk prog w A R s h;obtain⟨hp,g,d,tk,os⟩:=s;obtain⟨hl,eq,h⟩:=h
  (wp_walk using wpAny_loadPart' hl)
  have none_there:its[((i:Nat):Int).toNat]?=none:=by simp;omega
  rw[none_there]
  wp_walk
  simpa[gB] using h
 |succ k ih=>
  intro i c hk prog w A R s h;obtain⟨hp,g,d,tk,os⟩:=s;obtain⟨hl,eq,h⟩:=h;have hlt:i<its.size:=by omega
  (wp_walk using wpAny_loadPart' hl)
  have one_there:its[((i:Nat):Int).toNat]?=some its[i]:=by simp[hlt]
  have up:((i:Int)+1)=((i+1:Nat):Int):=by rfl
  rw[one_there];refine Ad (eq i hlt prog w _ _ ?_)
  wp_walk
  rw[up];refine⟨plainId_quiet MeetsSeq.plain_count_loop _,codeAny_builtin MeetsSeq.entry_count_loop ?_⟩;rw[Around.under_plainId MeetsSeq.plain_count_loop _];refine ih (i+1) _ (by omega) prog w A R _ ⟨hl,eq,?_⟩;have e:gB b i (k+1)=(if b i=true then 1 else 0)+gB b (i+1) k:=rfl;rw[e] at h;cases hb:b i with
  |false=>
   rw[hb] at h;have e2:(((if false=true then 1 else 0)+gB b (i+1) k:Nat):Int)=((gB b (i+1) k:Nat):Int):=by simp
   rw[e2] at h;exact h
  |true=>
   rw[hb] at h;have e2:c+(((if true=true then 1 else 0)+gB b (i+1) k:Nat):Int)=c+1+((gB b (i+1) k:Nat):Int):=by rw[AC rfl];push_cast;simp +arith only
   rw[e2] at h;exact h
theorem yy(l:Addr)(its:Array Value)(n:Nat)(x:Value)(b:Nat->Bool):
 Meets (Builtin.«list.count» ⟨[.ref l,x],[]⟩) (fun A R s=>s.heap.get? l=some { cls:=.type "list",dict:=none,data:=.seq its n,slots:=#[] }/\(∀m (hm:m<its.size),SeqAt.EqAt A.in1 s its[m] x (b m))/\R (.ok (.ret (.int ((gB b 0 its.size:Nat):Int) s.toks))) { s with toks:=s.toks+1 }):=by
 intro prog w A R s h;obtain⟨hp,g,d,tk,os⟩:=s;obtain⟨hl,eq,h⟩:=h
 (wp_walk using wpAny_loadPart' hl)
 refine⟨plainId_quiet MeetsSeq.plain_count_loop _,codeAny_builtin MeetsSeq.entry_count_loop ?_⟩;rw[Around.under_plainId MeetsSeq.plain_count_loop _];refine ae5 l its n x b its.size 0 0 (by rfl) prog w A R _ ⟨hl,eq,?_⟩;rw[C3];exact h
theorem t9{e:Da}:∀(ds:List Da) (b:Nat->Bool) (i:Nat),(∀k d,ds[k]?=some d->b (i+k)=Da.eq d e)->gB b i ds.length=ds.countP fun d=>Da.eq d e
 |[],_,_,_=>rfl
 |d::r,b,i,h=>by
  have h0:=h 0 d rfl;have ih:=t9 (e:=e) r b (i+1) fun k d' hk=>by have:=h (k+1) d' hk;rw[show i+1+k=i+(k+1) by simp +arith only];exact this
  rw[AE,AA];show(if b i=true then 1 else 0)+gB b (i+1) r.length=_;rw[ih];have h0:b i=Da.eq d e:=h0;rw[h0,C1]
end
section
def aig(X:Cx):V->List V->Hp->VK->Prop:=fun x vs H Q=>∃l xs y ds e,∃n m:Nat,x=.ref l/\vs=[y]/\H l=some (.lst xs)/\n≤126/\Paired (v8 X.K H n) xs ds/\v8 X.K H m y e/\Q (.int (((ds.countP fun d=>Da.eq d e):Nat):Int)) H
theorem yP(hu:X.A.units+128<cLine):nG X "list.count" (aig X):=by
 intro pins s σ H x vs v us Q I rx rv h;obtain⟨l,xs,y,ds,e,n,m,rfl,rfl,hH,hn,pd,ry,q⟩:=h;cases rx;obtain⟨u,rfl,ru⟩:=rv.one;obtain⟨z,its,nn,r,hl,eo⟩:=I.lstM hH;have l1:xs.length=ds.length:=pd.length;have l2:its.length=xs.length:=r.length.symm;obtain⟨arr,harr⟩:∃arr:Array Value,arr=its.toArray:=⟨_,rfl⟩;have hsz:arr.size=ds.length:=by rw[harr,Al];lia
 have M:=yy l arr nn u (fun k=>((ds[k]?).map fun d=>Da.eq d e).getD false);have hc:gB (fun k=>((ds[k]?).map fun d=>Da.eq d e).getD false) 0 arr.size=ds.countP fun d=>Da.eq d e:=by rw[hsz];refine t9 ds _ 0 fun k d hk=>?_;show((ds[0+k]?).map fun d=>Da.eq d e).getD false=_;rw[BF,hk];rfl
 rw[hc,harr] at M;refine call_meets F.slot_list_count ⟨_,eo,rfl⟩ F.entry_list_count (F.args_list_count_2 _ _) M ⟨eo,fun k hk=>?_,?_⟩
 ·have hk':k<its.length:=by rw[Al] at hk;exact hk
  obtain⟨d,ed,rd⟩:=Words.Paired.getP pd (Ak (by lia:k<xs.length));show SeqAt.EqAt _ s _ u (((ds[k]?).map fun d=>Da.eq d e).getD false);rw[ed];obtain⟨u',eu',ru'⟩:=Words.Paired.getP r (Ak (by lia:k<xs.length));have eg:its.toArray[k]=u':=by have:=(AU.mp eu').2;simpa using this
  rw[eg];exact kA I n (by show X.A.units+1+n<cLine;lia) rd ry ru' ru
 ·exact⟨.int _,_,I.tok (s.toks+1),⟨_,rfl⟩,q⟩
end
end L2
namespace L3
open PySem L2
def jM(x:Y)(vs:List Y)(L:qk)(Q:YK):Prop:=match x,vs with
 |.ref a,[v]=>dQ L a fun ys=>∃ds e,∃n m:Nat,n≤126/\Paired (ji L n) ys ds/\ji L m v e/\Q (.int (((ds.countP fun d=>Da.eq d e):Nat):Int)) L
 |_,_=>False
theorem adl(hu:X.A.units+128<cLine):nG X "list.count" (upM X.g3 jM):=nG.imp (yP hu) fun x xs H Q ⟨y,ys,L,Q3,r1,r2,rl,z,k⟩=>by
 unfold jM at z;split at z
 ·rename_i a v;obtain⟨zs,e,ds,de,n,m,hn,pd,dv,z⟩:=v5 z;obtain⟨us,e2,r⟩:=rl a _ e;obtain⟨v',rfl,rv⟩:=r2.inv1;have both:∀{ys:List Y} {ds:List Da} {xs:List V},Paired (ji L n) ys ds->xk X.g3 H ys xs->Paired (v8 X.K H n) xs ds:=by
   intro ys ds xs p
   induction p generalizing xs with
   |nil=>intro q;cases (show xs=[] from q);exact .nil
   |cons h t ih=>
    rintro⟨x,xs',rfl,q1,q2⟩;exact .cons (ji.rep rl h q1) (ih q2)
  exact⟨a,us,v',ds,de,n,m,r1,rfl,e2,hn,both pd r,ji.rep rl dv rv,k _ _ _ _ (DB _) rl (by rfl) z⟩
 ·exact z.elim
theorem oj(hu:X.A.units+128<cLine)(ho:QE X o to)(ha:QA X (e::es) tr)(h4:attributeBase o "count" X.env (eval o X.env)=eval o X.env:=by rfl)
 (h5:((backTo cpos (starEach (e::es) X.env)).all (fun x=>!x.1)&&(backToKw cpos (keywordEach [] X.env)).all (fun x=>x.1.isSome)&&decide ((e::es).length+([]:List Keyword).length+(if ([]:List Keyword).isEmpty=true then 0 else 1)<30))=true:=by rfl)
 (h6:(apos.endLine==cpos.line)=true:=by rfl) (h7:Dj e es X:=by rfl) (h8:Dk cpos es X:=by rfl):
 QE X (.Call (.Attribute o "count" apos) (e::es) [] cpos) (bU jM to tr):=mq PySem.F.slot_list_count PySem.F.type_list_count (adl hu) ho ha h4 h5 h6 h7 h8
theorem vV{kvs:List (jf×Y)}{xs:List (jf×V)}{k:jf}(p:Paired (fun(p:jf×Y) (q:jf×V)=>p.1=q.1/\RV G H p.2 q.2) kvs xs)(h:wz kvs k=none):dS xs k=none:=by
 induction p with
 |nil=>rfl
 |@cons a b _ _ r t ih=>
  obtain⟨e,_⟩:=r;unfold wz at h;rw[Bl] at h;by_cases c:a.1=k
  ·rw[Aw c] at h;cases h
  ·rw[As c] at h;rw[eF (fun z=>c (e.trans z))];exact ih h
def yf(td ti tx:x4)(τ:j9)(L:qk)(Q:YK):Prop:=td τ L fun x L1=>match x with
 |.ref a=>nZ L1 a fun _=>ti τ L1 fun y L2=>tx τ L2 fun z L3=>match abt y with
  |some k=>nZ L3 a fun kvs=>Q ((wz kvs k).getD z) L3
  |none=>False
 |_=>False
theorem xG{f:Expr}{td tx:x4}(hu:X.A.units+128<cLine)(ho:QE X o td)(hi:QE X e ti)(hf:QE X f tx)(m:M2 X o "get" apos e f cpos:=by exact⟨rfl,rfl,rfl,rfl⟩):QE X (.Call (.Attribute o "get" apos) [e,f] [] cpos) (yf td ti tx):=DC (aae (by lia) ho hi hf m) fun σ H Q ⟨τ,L,Q3,rs,rl,z,k⟩=>
 ⟨τ,L,_,rs,rl,z,fun v H1 x L1 t1 rl1 rv1 z1=>by
  split at z1
  ·rename_i a;obtain⟨kvs0,e0,z1⟩:=cW z1;obtain⟨xs0,e02,_⟩:=rl1 a _ e0;refine⟨a,rv1,.inl ⟨xs0,.inl e02⟩,τ,L1,_,rs.ts t1,rl1,z1,fun w H2 y L2 t2 rl2 rv2 z2=>⟨τ,L2,_,rs.ts (t1.trans t2),rl2,z2,fun u H3 yz L3 t3 rl3 rv3 z3=>?_⟩⟩;split at z3
   ·rename_i kk ek;obtain⟨kvs,e,z3⟩:=cW z3;obtain⟨xs,e2,pr⟩:=rl3 a _ e;have rk:=ij ek rv2;cases ev:wz kvs kk with
    |none=>
     rw[ev] at z3;exact⟨none,.inl ⟨xs,kk,.inl e2,rk,(vV pr ev).symm⟩,k _ H3 _ L3 ((t1.trans t2).trans t3) rl3 rv3 z3⟩
    |some yv=>
     rw[ev] at z3;obtain⟨xv,ex,rx⟩:=gS pr ev;exact⟨some xv,.inl ⟨xs,kk,.inl e2,rk,ex.symm⟩,k _ H3 _ L3 ((t1.trans t2).trans t3) rl3 rx z3⟩
   ·exact z3.elim
  ·exact z1.elim⟩
end L3
namespace L2
open PySem PySem.Spec PyProof.Rows
section
def ans:List V->Hp->VK->Prop:=fun xs H Q=>∃n:Int,xs=[.int n]/\∀p,H p=none->Q (.ref p) (upd H p (.rng 0 n))
theorem aan:ju X (.type "range") ans:=by intro pins s σ H xs us Q I r h;obtain⟨n,rfl,q⟩:=h;obtain⟨u,rfl,ru⟩:=r.one;obtain⟨t,rfl⟩:=(show ∃t,u=Value.int n t from ru);refine call_range_1 ?_;refine⟨.ref s.heap.objs.size,_,I.laid (t':=s.toks+1+1) (o:=.rng 0 n) (fun b ob q=>Heap.get?_push_of_some _ q) (Am _) ?_,rfl,q _ (I.hok.fresh (Am _))⟩;exact⟨s.toks,t,s.toks+1,Heap.get?_push_size _ rfl⟩
theorem r9{acc:Array Value}(h:ItemsOf (fun i v=>∃t,v=.int (0+(i:Int)*1) t) acc n):zh ((List.range n).map fun i:Nat=>V.int (0+(i:Int))) acc.toList:=by
 have len:acc.toList.length=n:=by rw[Bo];exact h.1
 have key:∀(l:List Value) (k:Nat),(∀(j:Nat) v,l[j]?=some v->∃t,v=Value.int (0+((k+j:Nat):Int)*1) t)->zh ((List.range' k l.length).map fun i:Nat=>V.int (0+(i:Int))) l:=by
  intro l
  induction l with
  |nil=>intro k _;exact .nil
  |cons v r ih=>
   intro k hk;rw[AE,CT,AD];obtain⟨t,e⟩:=hk 0 v rfl;refine .cons ?_ (ih (k+1) fun j v' hj=>?_)
   ·exact⟨t,by rw[e];simp⟩
   ·have:=hk (j+1) v' hj;rw[show k+1+j=k+(j+1) by simp +arith only];exact this
 have:=key acc.toList 0 fun j v hj=>by rw[BF];exact h.2 j v (by simpa using hj)
 rw[len,<-List.range_eq_range'] at this;exact this
def akf:List V->Hp->VK->Prop:=fun xs H Q=>∃a,∃n:Nat,xs=[.ref a]/\H a=some (.rng 0 n)/\n≤100000/\∀p,H p=none->Q (.ref p) (upd H p (.lst ((List.range n).map fun i:Nat=>V.int (0+(i:Int)))))
theorem uQ(hc:X.calm=true):ju X (.type "list") akf:=by
 intro pins s σ H xs us Q I r h;obtain⟨a,n,rfl,ha,hn,q⟩:=h;obtain⟨u,rfl,ru⟩:=r.one;cases (show u=Value.ref a from ru);obtain⟨t,u,v,e⟩:=I.hok a _ ha;have hb:(100000:Nat)≤sizeLine:=by decide
 have rs:Builtin.Range.rangeSize 0 (n:Int) 1=((n:Nat):Int):=by rw[rangeSize_one];split<;>lia
 refine jy I.tk (call_list_range (I.ok.hd hc) (show IsRange s.heap a 0 (n:Int) 1 t u v from e) (small_one (by decide) (by decide) (by exact A6 _) (by omega)) rs (AM hn (by decide)) fun h' tk acc c hk hS hacc ht=>?_);refine⟨.ref s.heap.objs.size,_,I.laid (t':=tk) (o:=.lst ((List.range n).map fun i:Nat=>V.int (0+(i:Int)))) hk (Am _) ?_,rfl,q _ (I.hok.fresh (Am _))⟩;refine⟨by rw[Ab,A3];exact adi,acc.toList,c,r9 hacc,?_⟩;rw[hS]
end
end L2
namespace L3
open PySem L2
theorem afa:bootBuiltins "range" = some (.type "range"):=by decide +kernel
def eV(te:x4)(τ:j9)(L:qk)(Q:YK):Prop:=te τ L fun y L1=>match y with
 |.int n=>(0≤n/\n≤100000)/\∀p,L1 p=none->Q (.ref p) (qd L1 p (.lst (kz 0 n.toNat)))
 |_=>False
theorem aeb(n:Nat):xk G H (kz 0 n) ((List.range n).map fun i:Nat=>V.int (0+(i:Int))):=by
 unfold kz;generalize List.range n=l
 induction l with|nil=>rfl|cons k r ih=>exact⟨_,_,rfl,rfl,ih⟩
theorem di{pos2:Pos}(hc:X.calm=true)(hg:Gl X "list")(hm:X.mg "list" = none)(hg2:Gl X "range")(hm2:X.mg "range" = none)(h:QE X e te)
 (h1:starEach [.Call (.Name "range" p2) [e] [] pos2] X.env=(false,eval (.Call (.Name "range" p2) [e] [] pos2) X.env)::starEach [] X.env:=by rfl) (h2:(backTo pos (starEach [] X.env)).any (·.1)=false:=by rfl)
 (h3:starEach [e] X.env=(false,eval e X.env)::starEach [] X.env:=by rfl) (h4:(backTo pos2 (starEach [] X.env)).any (·.1)=false:=by rfl):
 QE X (.Call (.Name "list" p) [.Call (.Name "range" p2) [e] [] pos2] [] pos) (eV te):=
 DC (gG (uQ hc) hg hm iT (cw (gG aan hg2 hm2 afa (cw h lJ h3) (by decide) (by decide) h3 h4) lJ h1) (by decide) (by decide) h1 h2) fun σ H Q ⟨τ,L,Q3,rs,rl,z,k⟩=>
 ⟨τ,L,_,rs,rl,z,fun v H1 y L1 t1 rl1 rv1 z1=>by
  cases y with
  |int n=>
   obtain⟨⟨h0,h5⟩,z1⟩:=z1;cases (show v=V.int n from rv1);obtain⟨m,rfl⟩:∃m:Nat,n=(m:Int):=⟨n.toNat,by lia⟩;refine⟨_,rfl,fun q hq=>⟨q,m,rfl,xg,by lia,fun p hp=>?_⟩⟩;have hp1:H1 p=none:=by
    by_cases c:p=q
    ·subst c;exact hq
    ·rw[z7 c] at hp;exact hp
   exact k _ _ _ _ (t1.trans ((DD hq).trans (DD hp))) ((rl1.skip hq).newL hp (aeb m)) (by rfl) (z1 p (rl1.none hp1))
  |_=>exact z1.elim⟩
def gp(C:Addr)(m:Str)(sp:jc)(to:x4)(t:dN)(τ:j9)(L:qk)(Q:YK):Prop:=to τ L fun x L1=>match x with
 |.ref a=>rW L1 a fun C' fs=>C'=C/\fs.lookup m=none/\t τ L1 fun ys L2=>sp (.ref a::ys) L2 Q
 |_=>False
section
variable {m:Str}{g:Addr}
theorem adh{pl:Sem Bool}{k:Nat}{sp:jc}(ho:QE X o to)(c:Cls X.K C)(hm:yG X.K C m g)(F:Fn3 X.prog X.w X.K X.mg X.base k g fd ps sp)(hr:v3 k X.A)(hb:ki X.K fd ps [])(ha:QA X (e::es) tr)
 (hst:Dj e es X:=by rfl) (hpl:Dk pos es X:=by rfl)
 (ht:eval (.Call (.Attribute o m apos) (e::es) [] pos) X.env=(do
  let ov <-eval o X.env
  standAt apos.atName
  let (f,first) <-holding [ov] (getMethod ov m pl)
  callWith pos f first (backTo pos (starEach (e::es) X.env)) (backToKw pos (keywordEach [] X.env))):=by rfl):
 QE X (.Call (.Attribute o m apos) (e::es) [] pos) (gp C m sp to tr):=DC (ac7 (pl:=pl) ho c hm F hr hb .nil zA ha hst hpl ht) fun σ H Q ⟨τ,L,Q3,rs,rl,z,k⟩=>
 ⟨τ,L,_,rs,rl,z,fun v H1 y L1 t1 rl1 rv1 z1=>by
  split at z1
  ·rename_i a;obtain⟨C',fs,e,ec,n,q⟩:=jY z1;subst ec;obtain⟨dx,xs,e2,pr⟩:=rl1 a _ e;cases (show v=V.ref a from rv1);exact⟨a,dx,xs,rfl,e2,y0 pr n,τ,L1,_,rs.ts t1,rl1,q,fun vs H2 ys L2 t2 rl2 rv2 z2=>⟨.ref a::ys,L2,Q3,⟨.ref a,vs++[],rfl,rfl,by rw[A0];exact rv2⟩,rl2,z2,k.ts (t1.trans t2)⟩⟩
  ·exact z1.elim⟩
theorem uq{pl:Sem Bool}{k:Nat}{sp:jc}(cm:vI X.prog X.w X.K X.mg X.base k C m ps sp)(hr:v3 k X.A)(c:Cls X.K C)(ho:QE X o to)(ha:QA X (e::es) tr)
 (hst:Dj e es X:=by rfl) (hpl:Dk pos es X:=by rfl)
 (ht:eval (.Call (.Attribute o m apos) (e::es) [] pos) X.env=(do
  let ov <-eval o X.env
  standAt apos.atName
  let (f,first) <-holding [ov] (getMethod ov m pl)
  callWith pos f first (backTo pos (starEach (e::es) X.env)) (backToKw pos (keywordEach [] X.env))):=by rfl):
 QE X (.Call (.Attribute o m apos) (e::es) [] pos) (gp C m sp to tr):=by
 obtain⟨g,fd,M,F,b⟩:=cm.ex;exact adh (pl:=pl) ho c M F hr b ha hst hpl ht
end
end L3
namespace TS
open PySem PyProof.Rows
section
variable {w:World} 
structure Ord(prog:Program)(w:World)(A:Around)(s:Shared)(κ:SortKind)(Ok:Keyed->Prop)(f:Keyed->Int):Prop where
 lt:∀x y,Ok x->Ok y->∀{E:Value->Shared->Prop} {Q:Bool->Shared->Prop},Q (decide (f x<f y)) s->wpAny (model prog w) A (keyLt' κ x.1 y.1) Q E s
variable {κ:SortKind}{Ok:Keyed->Prop}{f:Keyed->Int}
theorem w_lt(O:Ord prog w A s κ Ok f){st:SortSt}{x y:Keyed}{Q:Option Bool->SortSt->Prop}(hk:kindOf st=κ)(hx:Ok x)(hy:Ok y)(h:Q (some (decide (f x<f y))) st):wpS (model prog w) A E s (lt' x y) Q st:=by rw[lt'_eq];refine Av (wpS_get ?_);rw[hk];refine Av (wpS_lift (wpAny_attempt (O.lt x y hx hy ⟨rfl,?_⟩)));exact AG h
theorem wT{arr:Array Keyed}{x:Keyed}{st:SortSt}{Q:Keyed->SortSt->Prop}(h:arr[i]?=some x)(q:Q x st):wpS (model prog w) A E s (elem' arr i) Q st:=by rw[elem'_eq,h];exact AG q
end
section
variable {f:Keyed->Int}{a b out:Array Keyed}{ia ib:Nat}
end
section
variable {w:World}{κ:SortKind}{Ok:Keyed->Prop}{f:Keyed->Int}
end
theorem ajz(l:List Keyed){k:Nat}(h:i≤k):l.take i++(l.drop i).take (k - i)=l.take k:=by have:=List.take_add (l:=l) (i:=i) (j:=k - i);rw[show i+(k - i)=k by omega] at this;exact this.symm
section
variable {f:Keyed->Int}{a b out:Array Keyed}{na nb:Nat}
end
section
variable {w:World}{κ:SortKind}{Ok:Keyed->Prop}{f:Keyed->Int}
end
section
variable {w:World}{κ:SortKind}{Ok:Keyed->Prop}{f:Keyed->Int}
theorem am2{l:List Keyed}(s:l.Pairwise fun x y=>f x≤f y)(hij:i≤j)(hj:j<l.length):f (l[i]'(by exact adt))≤f l[j]:=by
 rcases Nat.lt_or_eq_of_le hij with h | h
 ·exact B4.mp s i j (by exact adt) hj h
 ·subst h;exact Cu _
end
theorem pX{arr:Array α}{P R:List α}(h:arr.toList=P++R)(hn:n≤R.length):(mirror arr P.length (P.length+n) ((P.length+n - P.length) / 2)).toList=P++((R.take n).reverse++R.drop n):=by
 have hs:arr.size=P.length+R.length:=by rw[<-Bo,h];simp
 refine Cj fun k=>?_;rw[Bb,getElem?_mirror_all (by lia)];by_cases c:P.length≤k/\k<P.length+n
 ·rw[AC c,<-Bb,h,Aq (by omega),Aq (by lia),AK (by simp;omega),List.getElem?_reverse (by simp;omega),CC,AS,AC (by omega)];congr 1;lia
 ·rw[AB c,<-Bb,h];by_cases c2:k<P.length
  ·rw[AK c2,AK c2]
  ·rw[Aq (by exact aa7),Aq (by omega),Aq (by simp;lia),CD];congr 1;simp;lia
theorem rA{arr:Array α}{P R:List α}{k:Nat}(h:arr.toList=P++R)(hk:k<R.length)(hl:l≤k):(bubble arr (P.length+k) (P.length+k - (P.length+l))).toList=P++(R.take l++R[k]::((R.drop l).take (k - l)++R.drop (k+1))):=by
 have hs:arr.size=P.length+R.length:=by rw[<-Bo,h];simp
 refine Cj fun i=>?_;rw[Bb,getElem?_bubble (by lia) _ (by exact Nat.sub_le _ _),show P.length+k - (P.length+k - (P.length+l))=P.length+l by omega];by_cases c1:i=P.length+l
 ·rw[AC c1,<-Bb,h,c1,Aq (by exact BK _ _),Aq (by exact BK _ _),Aq (by simp;lia)];rw[show P.length+l - P.length - (R.take l).length=0 by simp;lia,show P.length+k - P.length=k by lia,List.getElem?_cons_zero];simp[hk]
 ·rw[AB c1];by_cases c2:P.length+l<i/\i≤P.length+k
  ·rw[AC c2,<-Bb,h,Aq (by omega),Aq (by lia),Aq (by simp;lia)];obtain⟨d,hd⟩:∃d,i=P.length+l+d+1:=⟨i - P.length - l - 1,by omega⟩;rw[show i - P.length - (R.take l).length=d+1 by simp;lia,Cd,AK (by simp;omega),CC,AC (by omega),CD];congr 1;omega
  ·rw[AB c2,<-Bb,h];by_cases c3:i<P.length
   ·rw[AK c3,AK c3]
   ·rw[Aq (by exact aa7),Aq (by omega)];by_cases c4:i<P.length+l
    ·rw[AK (by simp;lia),CC,AC (by omega)]
    ·obtain⟨d,hd⟩:∃d,i=P.length+k+d+1:=⟨i - P.length - k - 1,by omega⟩;rw[Aq (by simp;lia),show i - P.length - (R.take l).length=(k - l)+d+1 by simp;lia,Cd,Aq (by simp;omega),CD];congr 1;simp;lia
section
variable {w:World}{κ:SortKind}{Ok:Keyed->Prop}{f:Keyed->Int}
structure Tl(κ:SortKind)(Ok:Keyed->Prop)(st:SortSt)(P R:List Keyed):Prop where
 kind:kindOf st=κ
 arr:(arrOf st).toList=P++R
 ok:∀x∈R,Ok x
theorem gF(O:Ord prog w A s κ Ok f){st:SortSt}{P R:List Keyed}(T:Tl κ Ok st P R)(hi:i<R.length)(hj:j<R.length){a b:Nat}(ea:a=P.length+i)(eb:b=P.length+j){Q:Option Bool->SortSt->Prop}(q:Q (some (decide (f R[i]<f R[j]))) st):wpS (model prog w) A E s (ltAt' a b) Q st:=by
 have at_:∀i (hi:i<R.length),(arrOf st)[P.length+i]?=some R[i]:=fun i hi=>by rw[<-Bb,T.arr,Aq (by exact BK _ _),Ce];simp
 subst ea eb;rw[ltAt'_eq];refine Av (wpS_get ?_);refine Av (wT (at_ i hi) (Av (wT (at_ j hj) ?_)));exact w_lt O T.kind (T.ok _ (Cr _)) (T.ok _ (Cr _)) q
def Up(f:Keyed->Int)(R:List Keyed)(n:Nat):Prop:=∀i j (_:i≤j) (_:j<R.length),j<n->f (R[i]'(by exact adt))≤f R[j]
theorem Up.snoc{R:List Keyed}(h:Up f R n)(h1:1≤n)(hn:n<R.length)(hs:f (R[n - 1]'(by exact ph))≤f R[n]):Up f R (n+1):=fun i j hij hj hjn=>by
 rcases C4 j n with c | c
 ·exact h i j hij hj c
 ·have e:j=n:=by lia
  subst e;rcases C4 i j with c2 | c2
  ·exact C5 (h i (j - 1) (by omega) (by exact ph) (by exact aj9)) hs
  ·have e:i=j:=by lia
   subst e;exact Cu _
theorem Up.pair{R:List Keyed}(h:Up f R n)(hn:n≤R.length):(R.take n).Pairwise fun x y=>f x≤f y:=by rw[B4];intro i j hi hj hij;rw[AS] at hi hj;rw[Bt,Bt];exact h i j (by exact yE) (by lia) (by lia)
end
section
variable {w:World}{κ:SortKind}{Ok:Keyed->Prop}{f:Keyed->Int}
theorem Tl.same{st:SortSt}{P R R':List Keyed}(T:Tl κ Ok st P R)(p:R'.Perm R){arr:Array Keyed}(h:arr.toList=P++R'):Tl κ Ok (setArr st arr) P R':=⟨T.kind,h,fun x hx=>T.ok x (p.mem_iff.mp hx)⟩
theorem Up.one{R:List Keyed}:Up f R 1:=fun i j hij hj h=>by
 have:i=j:=by lia
 subst this;exact Cu _
theorem aed(O:Ord prog w A s κ Ok f){st:SortSt}{P R:List Keyed}(T:Tl κ Ok st P R)(h1:1≤R.length)(inj:∀i j (_:i<j) (_:j<R.length),f (R[i]'(by exact y4))≠f R[j]){Q:Option Nat->SortSt->Prop}
 (q:∀n R' arr,1≤n->n≤R.length->R'.Perm R->arr.toList=P++R'->Up f R' n->Q (some n) (setArr st arr)):wpS (model prog w) A E s (countRun' P.length R.length) Q st:=by
 have hst:setArr st (arrOf st)=st:=rfl;refine Av (wpS_mono (Bg (I:=fun x c st'=>st'=st/\c=(none,x)/\Up f R x)
  (Q:=fun c st'=>st'=st/\∃n,c=(none,n)/\1≤n/\n≤R.length/\Up f R n/\(n=R.length\/∃h:n<R.length,f R[n]<f (R[n - 1]'(by exact ph)))) ?_ ?_ ⟨rfl,rfl,Up.one⟩) ?_)
 ·rintro x c st' hx1 hx ⟨rfl,rfl,U⟩;dsimp only;refine Av (gF O T (i:=x) (j:=x - 1) hx (by exact ph) rfl (by lia) ?_);dsimp only;by_cases c:f R[x]<f (R[x - 1]'(by omega))
  ·rw[Aw c,AC rfl];exact AG ⟨rfl,x,rfl,hx1,by exact yE,U,.inr ⟨hx,c⟩⟩
  ·rw[As c,AB (by simp)];exact AG ⟨rfl,rfl,U.snoc hx1 hx (by omega)⟩
 ·rintro c st' ⟨rfl,rfl,U⟩;exact⟨rfl,_,rfl,by lia,by lia,by rw[CU h1] at *;exact U,.inl (by lia)⟩
 ·rintro c st' ⟨rfl,n,rfl,hn1,hn2,U,hend⟩;dsimp only;by_cases c1:(n==R.length)=true
  ·rw[AC c1];exact AG (q n R (arrOf st') hn1 hn2 (BZ _) T.arr U)
  rw[AB c1];have c1:¬n=R.length:=by simpa using c1
  have hnl:n<R.length:=by exact aoh
  by_cases c2:n > 1
  ·rw[AC c2];refine Av (gF O T (i:=0) (j:=n - 1) (by assumption) (by exact ph) rfl (by omega) ?_);have:f R[0]<f (R[n - 1]'(by omega)):=by have h3:=U 0 (n - 1) (by exact Nat.le_add_left _ _) (by omega) (by exact aj9);have h4:=inj 0 (n - 1) (by omega) (by exact ph);omega
   dsimp only;rw[Aw this,AC rfl];exact AG (q n R (arrOf st') hn1 hn2 (BZ _) T.arr U)
  rw[AB c2];obtain rfl:n=1:=by lia
  refine Av (wpS_lift (wpAny_rule ⟨rfl,?_⟩));have hd:f R[1]<f R[0]:=by
   rcases hend with h | ⟨h,h'⟩
   ·omega
   ·exact h'
  refine Av (wpS_mono (Bg (I:=fun x c st''=>st''=st'/\c=(none,x,0)/\∀i j (_:i≤j) (_:j<R.length),j<x->f R[j]≤f (R[i]'(by exact adt)))
   (Q:=fun c st''=>st''=st'/\∃n,c=(none,n,0)/\2≤n/\n≤R.length/\∀i j (_:i≤j) (_:j<R.length),j<n->f R[j]≤f (R[i]'(by omega))) ?_ ?_ ⟨rfl,rfl,?_⟩) ?_)
  ·rintro x c st'' hx1 hx ⟨rfl,rfl,D⟩;dsimp only;refine Av (gF O T (i:=x) (j:=x - 1) hx (by exact ph) rfl (by lia) ?_);dsimp only;by_cases c:f R[x]<f (R[x - 1]'(by omega))
   ·rw[Aw c,AC rfl,AB (by simp)];refine AG ⟨rfl,rfl,fun i j hij hj hjx=>?_⟩;rcases C4 j x with h | h
    ·exact D i j hij hj h
    ·have e:j=x:=by lia
     subst e;rcases C4 i j with h2 | h2
     ·exact C5 (Int.le_of_lt c) (D i (j - 1) (by omega) (by exact ph) (by omega))
     ·have e:i=j:=by lia
      subst e;exact Cu _
   ·rw[As c,AB (by simp)];refine Av (gF O T (i:=x - 1) (j:=x) (by omega) hx (by lia) rfl ?_);have h4:=inj (x - 1) x (by omega) hx;have:f (R[x - 1]'(by omega))<f R[x]:=by lia
    dsimp only;rw[Aw this,AC rfl];exact AG ⟨rfl,x,rfl,by omega,by exact yE,D⟩
  ·rintro c st'' ⟨rfl,rfl,D⟩;exact⟨rfl,_,rfl,by lia,by lia,D⟩
  ·intro i j hij hj hjx;have:j=0\/j=1:=by lia
   rcases this with rfl | rfl
   ·have:i=0:=by lia
    subst this;exact Cu _
   ·have:i=0\/i=1:=by lia
    rcases this with rfl | rfl
    ·exact Int.le_of_lt hd
    ·exact Cu _
  ·rintro c st'' ⟨rfl,n,rfl,g1,g2,D⟩;dsimp only;rw[AB (by simp)];have T':=T.same (R':=(R.take n).reverse++R.drop n) (((CF _).mpr (List.reverse_perm _)).trans (by rw[Bw])) (pX T.arr g2);obtain⟨R',eR⟩:∃R',R'=(R.take n).reverse++R.drop n:=⟨_,rfl⟩;have pR:R'.Perm R:=by rw[eR];exact((CF _).mpr (List.reverse_perm _)).trans (by rw[Bw])
   have lR:R'.length=R.length:=pR.length_eq;have U':Up f R' n:=fun i j hij hj hjn=>by
    subst eR;rw[CP (by simp;lia),CP (by simp;lia),List.getElem_reverse,List.getElem_reverse,Bt,Bt];refine D _ _ ?_ (by simp;omega) ?_
    ·simp;omega
    ·simp;omega
   rw[<-eR] at T';refine Av (wpS_modify ?_);refine Av (wpS_mono (Bg (I:=fun x c sx=>sx=setArr st'' (mirror (arrOf st'') P.length (P.length+n) ((P.length+n - P.length) / 2))/\c=(none,x)/\Up f R' x)
    (Q:=fun c sx=>sx=setArr st'' (mirror (arrOf st'') P.length (P.length+n) ((P.length+n - P.length) / 2))/\∃n,c=(none,n)/\1≤n/\n≤R.length/\Up f R' n) ?_ ?_ ⟨rfl,rfl,U'⟩) ?_)
   ·rintro x c sx hx1 hx ⟨rfl,rfl,U⟩;dsimp only;refine Av (gF O T' (i:=x) (j:=x - 1) (by lia) (by omega) rfl (by lia) ?_);dsimp only;by_cases c:f (R'[x]'(by omega))<f (R'[x - 1]'(by omega))
    ·rw[Aw c,AC rfl];exact AG ⟨rfl,x,rfl,by exact ako,by exact yE,U⟩
    ·rw[As c,AB (by simp)];exact AG ⟨rfl,rfl,U.snoc (by omega) (by lia) (by omega)⟩
   ·rintro c sx ⟨rfl,rfl,U⟩;exact⟨rfl,_,rfl,by lia,by lia,U⟩
   ·rintro c sx ⟨rfl,n,rfl,k1,k2,U⟩;exact AG (q n R' _ k1 k2 pR T'.arr U)
end
section
variable {w:World}{κ:SortKind}{Ok:Keyed->Prop}{f:Keyed->Int}
theorem Up.of{R:List Keyed}(h:(R.take n).Pairwise fun x y=>f x≤f y):Up f R n:=fun i j hij hj hjn=>by have:=am2 h (i:=i) (j:=j) hij (by simp;lia);rw[Bt,Bt] at this;exact this
theorem xN{R:List Keyed}{k:Nat}(hk:k<R.length)(hl:l≤k):(R.take l++R[k]::((R.drop l).take (k - l)++R.drop (k+1))).Perm R:=by
 have e:R=R.take l++((R.drop l).take (k - l)++(R[k]::R.drop (k+1))):=by rw[<-Ba,ajz _ hl,<-List.drop_eq_getElem_cons hk,Bw]
 refine List.Perm.trans ?_ (List.Perm.of_eq e.symm);exact(List.perm_append_left_iff _).mpr B2.symm
theorem ag7{R:List Keyed}{k:Nat}(hk:k<R.length)(hl:l≤k)(U:Up f R k)(lo:∀i (_:i<l),f (R[i]'(by lia))≤f R[k])(hi:∀i (_:i<k),l≤i->f R[k]≤f (R[i]'(by exact y4))):
 Up f (R.take l++R[k]::((R.drop l).take (k - l)++R.drop (k+1))) (k+1):=by
 apply Up.of;have e:R.take l++R[k]::((R.drop l).take (k - l)++R.drop (k+1))=(R.take l++R[k]::(R.drop l).take (k - l))++R.drop (k+1):=by simp
 rw[e,List.take_left' (by simp;lia)];have ab:=U.pair (Bx hk);rw[<-ajz R hl] at ab;have ab:=List.pairwise_append.mp ab;have hB:∀y∈(R.drop l).take (k - l),f R[k]≤f y:=fun y hy=>by obtain⟨j,hj,rfl⟩:=List.getElem_of_mem hy;rw[AS,B0] at hj;rw[Bt,List.getElem_drop];exact hi (l+j) (by lia) (by exact BK _ _)
 have hA:∀x∈R.take l,f x≤f R[k]:=fun x hx=>by obtain⟨j,hj,rfl⟩:=List.getElem_of_mem hx;rw[AS] at hj;rw[Bt];exact lo j (by lia)
 refine List.pairwise_append.mpr ⟨ab.1,List.pairwise_cons.mpr ⟨hB,ab.2.1⟩,fun x hx y hy=>?_⟩;rcases An.mp hy with rfl | hy
 ·exact hA x hx
 ·exact ab.2.2 x hx y hy
theorem ajt(O:Ord prog w A s κ Ok f){st:SortSt}{P R:List Keyed}(T:Tl κ Ok st P R){ok:Nat}(hn:n≤R.length)(h1:1≤ok)(ho:ok≤n)(U:Up f R ok){Q:Bool->SortSt->Prop}
 (q:∀R' arr,R'.Perm R->arr.toList=P++R'->Up f R' n->Q true (setArr st arr)):wpS (model prog w) A E s (binarySort' P.length n ok) Q st:=by
 have hst:setArr st (arrOf st)=st:=rfl;refine Av (wpS_mono (Bg (I:=fun x c st'=>c=(none,())/\∃R' arr,st'=setArr st arr/\R'.Perm R/\arr.toList=P++R'/\Up f R' x)
  (Q:=fun c st'=>c=(none,())/\∃R' arr,st'=setArr st arr/\R'.Perm R/\arr.toList=P++R'/\Up f R' n) ?_ ?_ ⟨rfl,R,arrOf st,rfl,BZ _,T.arr,by rw[C8 h1];exact U⟩) ?_)
 ·rintro x c st' hx1 hx ⟨rfl,R',arr,rfl,pR,eA,U'⟩;have T':=T.same pR eA;have lR:R'.length=R.length:=pR.length_eq;have hxl:x<R'.length:=by lia
  dsimp only;refine Av (wpS_mono (Bg (I:=fun y c st'=>st'=setArr st arr/\∃l r,c=(none,l,r)/\l≤r/\r≤x/\r - l+y≤x/\(∀i (_:i<l) (_:i<R'.length),f R'[i]≤f R'[x])/\(∀i (_:i<x),r≤i->f R'[x]≤f (R'[i]'(by exact y4))))
   (Q:=fun c st'=>st'=setArr st arr/\∃l,c=(none,l,l)/\l≤x/\(∀i (_:i<l) (_:i<R'.length),f R'[i]≤f R'[x])/\(∀i (_:i<x),l≤i->f R'[x]≤f (R'[i]'(by lia)))) ?_ ?_ ⟨rfl,0,x,rfl,Bf _,Am _,by exact Nat.sub_le _ _,fun i h=>by lia,fun i h h'=>by omega⟩) ?_)
  ·rintro y c st' _ hy ⟨rfl,l,r,rfl,g1,g2,g3,g4,g5⟩;dsimp only;by_cases c:l≥r
   ·rw[AC c];obtain rfl:l=r:=by lia
    exact AG ⟨rfl,l,rfl,g2,g4,g5⟩
   ·rw[AB c];refine Av (gF O T' (i:=x) (j:=(l+r) / 2) hxl (by lia) rfl rfl ?_);dsimp only;by_cases e:f R'[x]<f (R'[(l+r) / 2]'(by lia))
    ·rw[Aw e,AC rfl];refine AG ⟨rfl,l,(l+r) / 2,rfl,by lia,by lia,by omega,g4,fun i h h'=>?_⟩;exact C5 (Int.le_of_lt e) (U' _ _ h' (by exact y4) h)
    ·rw[As e,AB (by simp)];refine AG ⟨rfl,(l+r) / 2+1,r,rfl,by lia,g2,by omega,fun i h h'=>?_,g5⟩;exact C5 (U' i ((l+r) / 2) (by exact amm) (by lia) (by lia)) (by omega)
  ·rintro c st' ⟨rfl,l,r,rfl,g1,g2,g3,g4,g5⟩;obtain rfl:l=r:=by lia
   exact⟨rfl,l,rfl,g2,g4,g5⟩
  ·rintro c st' ⟨rfl,l,rfl,g2,g4,g5⟩;dsimp only;refine Av (wpS_modify ?_);exact AG ⟨rfl,_,_,rfl,(xN hxl g2).trans pR,rA eA hxl g2,ag7 hxl g2 U' (fun i h=>g4 i h (by lia)) g5⟩
 ·rintro c st' ⟨rfl,R',arr,rfl,pR,eA,U'⟩;exact⟨rfl,R',arr,rfl,pR,eA,by rw[C8 h1,CU ho] at U';exact U'⟩
 ·rintro c st' ⟨rfl,R',arr,rfl,pR,eA,U'⟩;exact AG (q R' arr pR eA U')
end
section
variable {w:World}{κ:SortKind}{Ok:Keyed->Prop}{f:Keyed->Int}
end
open PySem PyProof.Rows PySem.W
def ajh(h:Heap)(B:Int)(x:Keyed):Prop:=∃a o n r p t u,x.1=.ref a/\h.get? a=some o/\o.data=.seq #[.int r t,.int p u] n/\0≤p/\p<B
noncomputable def num(h:Heap)(B:Int)(x:Keyed):Int:=match x.1 with
 |.ref a=>match h.get? a with
  |some o=>match o.data with
   |.seq xs _=>match xs.toList with
    |[.int r _,.int p _]=>r*B+p
    |_=>0
   |_=>0
  |none=>0
 |_=>0
theorem num_of{x:Keyed}{o:Obj}{r p:Int}{t u:Tok}(e1:x.1=.ref a)(e2:h.get? a=some o)(e3:o.data=.seq #[.int r t,.int p u] n):num h B x=r*B+p:=by unfold num;simp[e1,e2,e3]
theorem yW{w:World} :Ord prog w A s (tuples' true) (ajh s.heap B) (num s.heap B):=by
 constructor;rintro x y ⟨a1,o1,n1,r1,p1,t1,u1,e1,g1,d1,b1,c1⟩ ⟨a2,o2,n2,r2,p2,t2,u2,e2,g2,d2,b2,c2⟩ E Q h;rw[num_of e1 g1 d1,num_of e2 g2 d2] at h;rw[e1,e2];refine kat_lt g1 d1 g2 d2 ?_;show KatLex prog w A true _ Q [(.int r1 t1,.int r2 t2),(.int p1 u1,.int p2 u2)] 0 s;refine kat_cons (wpAny_eqBool_int ?_);by_cases c:r1=r2
 ·subst c;rw[beq_self_eq_true];refine kat_yes (kat_cons (wpAny_eqBool_int ?_));by_cases c':p1=p2
  ·subst c';rw[beq_self_eq_true];refine kat_yes (kat_nil ?_);have e:decide (r1*B+p1<r1*B+p1)=false:=As (by lia);rw[e] at h;exact h
  ·rw[beq_false_of_ne c'];refine kat_no (kat_one _ _ (PyProof.Rows.lt_int ?_));have e:decide (r1*B+p1<r1*B+p2)=decide (p1<p2):=by
    by_cases z:p1<p2
    ·rw[Aw z];exact Aw (by lia)
    ·rw[As z];exact As (by lia)
   rw[e] at h;exact h
 ·rw[beq_false_of_ne c];refine kat_no (oneLt_int ?_);have e:decide (r1*B+p1<r2*B+p2)=decide (r1<r2):=by
   by_cases z:r1<r2
   ·rw[Aw z];have h5:(r1+1)*B≤r2*B:=BM (by assumption) (by lia);rw[Int.add_mul,Int.one_mul] at h5;exact Aw (by omega)
   ·rw[As z];have h5:(r2+1)*B≤r1*B:=BM (by lia) (by lia);rw[Int.add_mul,Int.one_mul] at h5;exact As (by lia)
  rw[e] at h;exact h
section
variable {w:World} 
def dr(h:Heap)(B:Int)(v:Value):Prop:=∃a o n r p t u,v=.ref a/\h.get? a=some o/\o.cls=.type "tuple" /\ o.data=.seq #[.int r t,.int p u] n/\0≤p/\p<B
theorem dr.pair{x:Keyed}(k:dr h B x.1):ajh h B x:=by obtain⟨a,o,n,r,p,t,u,e1,e2,_,e3,e4,e5⟩:=k;exact⟨a,o,n,r,p,t,u,e1,e2,e3,e4,e5⟩
theorem tups{h:Heap}{B:Int}:∀{ks:List Value},(∀v∈ks,dr h B v)->∃fs,KatTups h ks fs/\fs.length=ks.length/\∀v∈fs,∃r t,v=Value.int r t
 |[],_=>⟨[],trivial,rfl,fun v hv=>by simp at hv⟩
 |k::ks,hk=>by
  obtain⟨fs,h1,h2,h3⟩:=tups (ks:=ks) fun v hv=>hk v (Ae _ hv);obtain⟨a,o,n,r,p,t,u,rfl,e2,e3,e4,_,_⟩:=hk k (Au ..);refine⟨.int r t::fs,KatTups.cons e2 e3 e4 rfl h1,by simp[h2],fun v hv=>?_⟩;rcases An.mp hv with rfl | hv
  ·exact⟨r,t,rfl⟩
  ·exact h3 v hv
theorem ahp{ks:List Value}{Q:SortKind->Shared->Prop}(hk:∀v∈ks,dr s.heap B v)(h0:0<ks.length)(q:Q (tuples' true) s):wpAny (model prog w) A (keyKind' ks.toArray) Q E s:=by
 obtain⟨fs,h1,h2,h3⟩:=tups hk;refine kat_kind (T:=.type "int") h1 (by lia) (fun v hv=>?_) (by decide) ?_
 ·obtain⟨r,t,rfl⟩:=h3 v hv;exact .now
 ·exact q
theorem pM{R:α->α->Prop}:∀{l:List α},l.length<2->l.Pairwise R
 |[],_=>List.Pairwise.nil
 |[_],_=>List.pairwise_singleton _ _
 |_::_::_,h=>absurd h (by simp)
end
section
variable {w:World}{κ:SortKind}{Ok:Keyed->Prop}{f:Keyed->Int}
theorem wY{N:Nat}(h1:1≤N)(h:N<64):(sortPriv% PySem.Builtin.minRun) N N 0=N:=by obtain⟨r,rfl⟩:∃r,N=r+1:=⟨N - 1,by omega⟩;show minRun' (r+1) (r+1) 0=r+1;rw[minRun'_succ,AC h]
structure Srt(f:Keyed->Int)(l:List Keyed)(st:SortSt):Prop where
 fl:failedOf st=none
 pn:(pendingOf st).size≤1
 pm:(arrOf st).toList.Perm l
 pw:(arrOf st).toList.Pairwise fun x y=>f x≤f y
theorem qM(O:Ord prog w A s κ Ok f){st:SortSt}{Q:Unit->SortSt->Prop}(h64:(arrOf st).size<64)(hk:kindOf st=κ)(hp:pendingOf st=#[])(hf:failedOf st=none)(ok:∀x∈(arrOf st).toList,Ok x)(inj:((arrOf st).toList.map f).Nodup)
 (q:∀st',failedOf st'=none->(arrOf st').toList.Perm (arrOf st).toList->((arrOf st').toList.Pairwise fun x y=>f x≤f y)->Q () st'):wpS (model prog w) A E s sortRuns' Q st:=by
 refine Av (wpS_get ?_);dsimp only;have lN:(arrOf st).toList.length=(arrOf st).size:=Bo;obtain⟨N,eN⟩:∃N,N=(arrOf st).size:=⟨_,rfl⟩;rw[<-eN] at h64 lN ⊢;obtain⟨R,eR⟩:∃R,R=(arrOf st).toList:=⟨_,rfl⟩;rw[<-eR] at lN ok inj q;generalize hmr:(sortPriv% PySem.Builtin.minRun) N N 0=mr;have inj':∀i j (_:i<j) (_:j<R.length),f (R[i]'(by omega))≠f R[j]:=fun i j hij hj e=>by have h2:=B4.mp inj i j (by simp;omega) (by simpa using hj) hij;simp at h2;exact h2 e
 refine Av (wpS_mono (Bg (I:=fun x c st'=>∃lo,c=(none,lo)/\((x=0/\lo=0/\st'=st)\/(lo=N/\Srt f R st')))
  (Q:=fun c st'=>∃lo,c=(none,lo)/\Srt f R st') ?_ ?_ ⟨0,rfl,.inl ⟨rfl,rfl,rfl⟩⟩) ?_)
 ·rintro x c st' _ hx ⟨lo,rfl,h⟩;dsimp only;by_cases c:lo≥N
  ·rw[AC c];rcases h with⟨h1,h2,_⟩ | ⟨_,h⟩
   ·omega
   ·exact AG ⟨lo,rfl,h⟩
  rw[AB c];obtain⟨rfl,rfl,rfl⟩:x=0/\lo=0/\st'=st:=by
   rcases h with h | ⟨h,_⟩
   ·exact h
   ·omega
  have em:mr=N:=by rw[<-hmr];exact wY (by omega) h64
  subst em;have T:Tl κ Ok st' [] R:=⟨hk,eR.symm,ok⟩;rw[Nat.sub_zero,<-lN];refine Av (aed O T (by omega) inj' fun n R1 arr1 g1 g2 pR1 eA1 U1=>?_);dsimp only;have T1:=T.same pR1 eA1;have l1:R1.length=R.length:=pR1.length_eq;have xu:∀(arr:Array Keyed) (R2:List Keyed) (n2:Nat),R2.Perm R->arr.toList=[]++R2->Up f R2 R.length->n2=R.length->∃lo,((none,0+n2):Option Unit×Nat)=(none,lo)/\((0+1=0/\lo=0/\setPending (setArr st' arr) ((pendingOf (setArr st' arr)).push (0,n2,0))=st')\/(lo=R.length/\Srt f R (setPending (setArr st' arr) ((pendingOf (setArr st' arr)).push (0,n2,0))))):=fun arr R2 n2 p2 e2 U2 en=>by
   refine⟨0+n2,rfl,.inr ⟨by omega,⟨hf,?_,?_,?_⟩⟩⟩
   ·show((pendingOf st').push (0,n2,0)).size≤1;rw[hp];exact Am 1
   ·show arr.toList.Perm R;rw[e2];exact p2
   ·show arr.toList.Pairwise _;rw[e2];have:=U2.pair (by rw[p2.length_eq];exact Am _);rw[<-p2.length_eq,AF] at this;exact this
  by_cases cm:n<R.length
  ·rw[AC cm];refine Av (wpS_lift (wpAny_rule ⟨rfl,?_⟩));rw[Nat.min_self];refine Av (ajt O T1 (by omega) g1 (by omega) U1 fun R2 arr2 pR2 eA2 U2=>?_);rw[AB (by simp)];refine Av (wpS_get ?_);have eb:(pendingOf (setArr (setArr st' arr1) arr2)).back?=none:=by show(pendingOf st').back?=none;rw[hp];rfl
   rw[eb];exact Av (wpS_modify (AG (xu arr2 R2 _ (pR2.trans pR1) eA2 U2 rfl)))
  ·rw[AB cm];refine Av (wpS_get ?_);have eb:(pendingOf (setArr st' arr1)).back?=none:=by show(pendingOf st').back?=none;rw[hp];rfl
   rw[eb];have en:n=R.length:=by omega
   exact Av (wpS_modify (AG (xu arr1 R1 _ pR1 eA1 (en▸U1) en)))
 ·rintro c st' ⟨lo,rfl,h⟩;refine⟨lo,rfl,?_⟩;rcases h with⟨h1,h2,rfl⟩ | ⟨_,h⟩
  ·have:R=[]:=List.eq_nil_of_length_eq_zero (by omega);refine⟨hf,by rw[hp];exact Bf _,by rw[<-eR],?_⟩;rw[<-eR,this];exact List.Pairwise.nil
  ·exact h
 ·rintro c st' ⟨lo,rfl,h⟩;dsimp only;refine Av (wpS_mono (Bg (I:=fun y c st3=>c=(none,())/\Srt f R st3) (Q:=fun c st3=>c=(none,())/\Srt f R st3) ?_ ?_ ⟨rfl,h⟩) ?_)
  ·rintro y c st3 _ hy ⟨rfl,h3⟩;refine Av (wpS_get ?_);rw[AC h3.pn];exact AG ⟨rfl,h3⟩
  ·rintro c st3 h3;exact h3
  ·rintro c st3 ⟨rfl,h3⟩;exact AG (q st3 h3.fl h3.pm h3.pw)
end
section
variable {w:World} 
theorem dr.ne{v:Value}{xs:Array Value}(k:dr h B v)(e:v=.ref a)(hb:h.get? b=some (seqObj "list" xs n)):a≠b:=by
 obtain⟨a',o,m,r,p,t,u,e1,e2,e3,_⟩:=k;rw[e] at e1;cases e1;rintro rfl;rw[hb] at e2;cases e2;have e3:Value.type "list" = Value.type "tuple" := e3;injection e3 with e
 exact absurd e (by decide)
theorem dr.keeps{v:Value}{xs:Array Value}(k:dr h B v)(hb:h.get? b=some (seqObj "list" xs n))(hk:∀c o,c≠b->h.get? c=some o->h'.get? c=some o):dr h' B v:=by have k0:=k;obtain⟨a,o,m,r,p,t,u,e1,e2,e3,e4,e5,e6⟩:=k;exact⟨a,o,m,r,p,t,u,e1,hk a o (k0.ne e1 hb) e2,e3,e4,e5,e6⟩
theorem wG{x:Keyed}{xs:Array Value}(k:dr h B x.1)(hb:h.get? b=some (seqObj "list" xs n))(hk:∀c o,c≠b->h.get? c=some o->h'.get? c=some o):num h' B x=num h B x:=by have k0:=k;obtain⟨a,o,m,r,p,t,u,e1,e2,e3,e4,e5,e6⟩:=k;rw[num_of e1 e2 e4,num_of e1 (hk a o (k0.ne e1 hb) e2) e4]
theorem mem_self_zip{x:Keyed}(h:x∈vs.zip vs):x.1∈vs/\x.1=x.2:=by
 induction vs with
 |nil=>simp at h
 |cons v r ih=>
  rw[List.zip_cons_cons] at h;rcases An.mp h with rfl | h
  ·exact⟨Au ..,rfl⟩
  ·exact⟨Ae _ (ih h).1,(ih h).2⟩
theorem ae3{P:PySem.Fin->Shared->Prop}(ho:s.heap.get? a=some (seqObj "list" vs.toArray n))(hz:vs.length≤63)(hk:∀v∈vs,dr s.heap B v)(inj:((vs.zip vs).map (num s.heap B)).Nodup)
 (h:∀h' tk (xs:List Keyed) c,(∀b o,b≠a->s.heap.get? b=some o->h'.get? b=some o)->h'.get? a=some (seqObj "list" (List.toArray (xs.map (·.2))) c)->xs.Perm (vs.zip vs)->(xs.Pairwise fun x y=>num s.heap B x≤num s.heap B y)->P (.done (.ret .none)) { s with heap:=h',toks:=tk }):
 wpAny (model prog w) A (Builtin.«list.sort» ⟨[.ref a],[]⟩) P E s:=by
 have big:(63:Nat)+1≤sizeLine:=by rw[sizeLine_eq];omega
 have zl:(vs.toArray.zip vs.toArray).toList=vs.zip vs:=by simp
 have s1:=Heap.SameBut.update s.heap a (Obj.mapSeq fun _=>(#[]:Array Value));obtain⟨e1,ho1⟩:∃e1,(s.heap.update a (Obj.mapSeq fun _=>(#[]:Array Value))).get? a=some (seqObj "list" #[] e1):=⟨_,get?_update_seq ho fun _=>#[]⟩;obtain⟨hp3,ehp3⟩:∃g,g=((s.heap.update a (Obj.mapSeq fun _=>(#[]:Array Value))).push (seqObj "tuple" vs.toArray 0)).push (seqObj "list" #[] 0):=⟨_,rfl⟩;have k3:∀b o,b≠a->s.heap.get? b=some o->hp3.get? b=some o:=fun b o hb e=>by rw[ehp3];exact Heap.get?_push_of_some _ (Heap.get?_push_of_some _ ((s1.2 b hb).trans e))
 have ha3:hp3.get? a=some (seqObj "list" #[] e1):=by rw[ehp3];exact Heap.get?_push_of_some _ (Heap.get?_push_of_some _ ho1)
 have hk3:∀v∈vs,dr hp3 B v:=fun v hv=>(hk v hv).keeps ho k3;have nk:∀x∈vs.zip vs,num hp3 B x=num s.heap B x:=fun x hx=>wG (hk _ (mem_self_zip hx).1) ho k3;have inj3:((vs.zip vs).map (num hp3 B)).Nodup:=by rw[Bp nk];exact inj
 have tail:∀st:SortSt,failedOf st=none->(arrOf st).toList.Perm (vs.zip vs)->((arrOf st).toList.Pairwise fun x y=>num hp3 B x≤num hp3 B y)->
  ∀tk,P (.done (.ret .none)) { s with heap:=hp3.update a (Obj.mapSeq fun _=>(arrOf st).map (·.2)),toks:=tk }:=by
  intro st hf hp hs tk;have s2:=Heap.SameBut.update hp3 a (Obj.mapSeq fun _=>(arrOf st).map (·.2));obtain⟨c2,hc2⟩:∃c2,(hp3.update a (Obj.mapSeq fun _=>(arrOf st).map (·.2))).get? a=some (seqObj "list" ((arrOf st).map (·.2)) c2):=⟨_,get?_update_seq ha3 fun _=>(arrOf st).map (·.2)⟩;have em:(arrOf st).map (·.2)=List.toArray ((arrOf st).toList.map (·.2)):=by apply Array.toList_inj.mp;rw[Array.toList_map]
  refine h _ tk (arrOf st).toList c2 (fun b o hb e=>(s2.2 b hb).trans (k3 b o hb e)) ?_ hp ?_
  ·rw[em] at hc2 ⊢;exact hc2
  ·refine B6 (fun {x y} hx hy z=>?_) hs;rw[nk x (hp.mem_iff.mp hx),nk y (hp.mem_iff.mp hy)] at z;exact z
 have len:∀st:SortSt,(arrOf st).toList.Perm (vs.zip vs)->((arrOf st).map (·.2)).size≤sizeLine+1:=fun st hp=>by have:=hp.length_eq;rw[Cv,Bo] at this;rw[Array.size_map];omega
 rw[list_sort_plain];refine Ad (listItems_at ho rfl ?_);refine Ad (listUpdate_at ho rfl ?_ (by rw[Al];omega) (Bf _));refine Ad (seqEpoch_at ho1 rfl ?_);refine Ad (wpAny_newTuple ?_ (by show vs.length≤_;omega));refine Ad (wpAny_newList ?_ (Bf _));refine Bu ?_;show wpAny (model prog w) A _ P E { s with heap:=((s.heap.update a (Obj.mapSeq fun _=>(#[]:Array Value))).push (seqObj "tuple" vs.toArray 0)).push (seqObj "list" #[] 0) };rw[<-ehp3];dsimp only;by_cases h2:vs.toArray.size<2
 ·rw[AC h2,AC h2];refine Ad (Ax ?_);rw[StateT.run_pure];refine Ad (Ax ?_);dsimp only;refine Ad (seqEpoch_at ha3 rfl ?_);have pz:(arrOf (SortSt.mk' (tuples' true) (vs.toArray.zip vs.toArray) #[] 7 none)).toList.Perm (vs.zip vs):=by show(vs.toArray.zip vs.toArray).toList.Perm _;rw[zl]
  refine Ad (listUpdate_at ha3 rfl ?_ (Bf _) (len _ pz));simp only[bne_self_eq_false,BP,if_false];refine Ax (tail (SortSt.mk' (tuples' true) (vs.toArray.zip vs.toArray) #[] 7 none) rfl pz ?_ _);show(vs.toArray.zip vs.toArray).toList.Pairwise _;rw[zl];rw[Al] at h2;have:(vs.zip vs).length<2:=by rw[Cv];omega
  exact pM this
 ·rw[AB h2,AB h2];rw[Al] at h2;refine Ad (ahp (s:={ s with heap:=hp3 }) hk3 (by omega) ?_);refine Ad (AW (qM (E:=E) (yW (s:={ s with heap:=hp3 }) (B:=B)) (st:=SortSt.mk' (tuples' true) (vs.toArray.zip vs.toArray) #[] 7 none)
   (Q:=fun _ st'=>failedOf st'=none/\(arrOf st').toList.Perm (vs.zip vs)/\((arrOf st').toList.Pairwise fun x y=>num hp3 B x≤num hp3 B y)) (by show(vs.toArray.zip vs.toArray).size<64;simp;omega) rfl rfl rfl (fun x hx=>?_) ?_ fun st' b1 b2 b3=>⟨b1,?_,b3⟩) ?_ fun _ _ e=>e)
  ·have hx:x∈(vs.toArray.zip vs.toArray).toList:=hx;rw[zl] at hx;exact dr.pair (hk3 _ (mem_self_zip hx).1)
  ·show((vs.toArray.zip vs.toArray).toList.map _).Nodup;rw[zl];exact inj3
  ·have b2:(arrOf st').toList.Perm (vs.toArray.zip vs.toArray).toList:=b2;rw[zl] at b2;exact b2
  ·rintro⟨⟨⟩,st'⟩ s' ⟨rfl,b1,b2,b3⟩;dsimp only;refine Ad (seqEpoch_at ha3 rfl ?_);refine Ad (listUpdate_at ha3 rfl ?_ (Bf _) (len _ b2));rw[b1];simp only[bne_self_eq_false,BP,if_false];exact Ax (tail st' b1 b2 b3 _)
theorem w_sorted{l:Addr}(hl:s.heap.IsList l vs.toArray)(hz:vs.length≤63)(hk:∀v∈vs,dr s.heap B v)(inj:((vs.zip vs).map (num s.heap B)).Nodup)
 (h:∀h' tk (xs:List Keyed) D c,s.heap.objs.size≤D->(∀b o,s.heap.get? b=some o->h'.get? b=some o)->h'.get? D=some (seqObj "list" (List.toArray (xs.map (·.2))) c)->xs.Perm (vs.zip vs)->(xs.Pairwise fun x y=>num s.heap B x≤num s.heap B y)->Q (.ref D) { s with heap:=h',toks:=tk }):
 wpAny (model prog w) A (call (.builtin "sorted") [.ref l]) Q E s:=by
 have big:(63:Nat)+1≤sizeLine:=by rw[sizeLine_eq];omega
 refine Calls.call_function_entry kind_sorted plain_sorted entry_sorted (args_sorted1 _) ?_;unfold Builtin.«sorted»;refine Ad (m:=checkCount "sorted" 1 1 _) (Ax ?_);refine Ad (collect_list hl ?_ (by omega));refine Ad (wpAny_newList ?_ (by omega));obtain⟨g,eg⟩:∃g,g=(s.heap.push (seqObj "list" #[] 0)).update s.heap.objs.size (Obj.mapSeq (· ++ vs.toArray)):=⟨_,rfl⟩;have gs:g.objs.size=s.heap.objs.size+1:=by rw[eg,Heap.size_update,size_push']
 have gk:∀b o,s.heap.get? b=some o->g.get? b=some o:=fun b o q=>by have hlt:b<s.heap.objs.size:=Heap.lt_size q;rw[eg,Heap.get?_update_ne _ _ _ _ (Bc hlt)];exact Heap.get?_push_of_some _ q
 show wpAny _ _ _ _ _ { s with heap:=((s.heap.push (seqObj "list" #[] 0)).update s.heap.objs.size (Obj.mapSeq (· ++ vs.toArray))).push (seqObj "list" vs.toArray 0) };rw[<-eg];have hoD:(g.push (seqObj "list" vs.toArray 0)).get? g.objs.size=some (seqObj "list" vs.toArray 0):=Heap.get?_push_size _ rfl;have keep:∀b o,s.heap.get? b=some o->(g.push (seqObj "list" vs.toArray 0)).get? b=some o:=fun b o q=>Heap.get?_push_of_some _ (gk b o q);have kT:∀v∈vs,dr (g.push (seqObj "list" vs.toArray 0)) B v:=fun v hv=>by obtain⟨a,o,m,r,p,t,u,e1,e2,r'⟩:=hk v hv;exact⟨a,o,m,r,p,t,u,e1,keep _ _ e2,r'⟩
 have nk:∀x∈vs.zip vs,num (g.push (seqObj "list" vs.toArray 0)) B x=num s.heap B x:=fun x hx=>by obtain⟨a,o,m,r,p,t,u,e1,e2,e3,e4,_⟩:=hk _ (mem_self_zip hx).1;rw[num_of e1 e2 e4,num_of e1 (keep _ _ e2) e4]
 refine Ad (Bu (wpAny_call_entry slot_list_sort ⟨_,hoD,rfl⟩ entry_list_sort ?body (args_list_sort _)))
 case body=>
  refine ae3 (s:={ s with heap:=g.push (seqObj "list" vs.toArray 0) }) hoD hz kT (by rw[Bp nk];exact inj) fun h' tk xs c k1 hD pm pw=>?_;refine⟨_,rfl,Ax ⟨_,rfl,h h' tk xs g.objs.size c (by rw[gs];exact Bz _) (fun b o q=>k1 b o ?_ (keep b o q)) hD pm ?_⟩⟩
  ·have hlt:b<s.heap.objs.size:=Heap.lt_size q;intro z;rw[z,gs] at hlt;exact Nat.not_succ_lt_self hlt
  ·refine B6 (fun {x y} hx hy z=>?_) pw;rw[nk x (pm.mem_iff.mp hx),nk y (pm.mem_iff.mp hy)] at z;exact z
end
end TS
namespace L2
open PySem PySem.Spec PyProof.Rows
theorem li(f:α->β):∀{l m:List β},l.Perm m->∀{T:List α},T.map f=m->∃T':List α,T'.Perm T/\T'.map f=l:=by
 intro l m p
 induction p with
 |nil=>intro T e;exact⟨T,BZ _,e⟩
 |cons x _ ih=>
  intro T e;cases T with
  |nil=>cases e
  |cons t r=>
   rw[AD] at e;obtain⟨e1,e2⟩:=Dg e;obtain⟨T',p',e'⟩:=ih e2;exact⟨t::T',p'.cons t,by rw[AD,e',e1]⟩
 |swap x y l=>
  intro T e
  match T,e with
  |t::u::r,e=>
   rw[AD,AD] at e;obtain⟨e1,e2⟩:=Dg e;obtain⟨e3,e4⟩:=Dg e2;exact⟨u::t::r,List.Perm.swap t u r,by rw[AD,AD,e1,e3,e4]⟩
 |trans _ _ ih1 ih2=>
  intro T e;obtain⟨T1,p1,e1⟩:=ih2 e;obtain⟨T2,p2,e2⟩:=ih1 e1;exact⟨T2,p2.trans p1,e2⟩
theorem dq{α β γ:Type}{R:β->γ->Prop}{g:α->β}{h:α->γ}:∀{T:List α},(∀t∈T,R (g t) (h t))->Paired R (T.map g) (T.map h)
 |[],_=>.nil
 |t::_,k=>.cons (k t (Au ..)) (dq fun u hu=>k u (Ae _ hu))
theorem eX{α β γ:Type}{R:α->β->Prop}{S:α->γ->Prop}:∀{xs:List α} {ys:List β} {zs:List γ},Paired R xs ys->Paired S xs zs->∃T:List (α×β×γ),T.map (·.1)=xs/\T.map (fun t=>t.2.1)=ys/\T.map (fun t=>t.2.2)=zs/\∀t∈T,R t.1 t.2.1/\S t.1 t.2.2
 |_,_,_,.nil,.nil=>⟨[],rfl,rfl,rfl,fun t ht=>by cases ht⟩
 |_,_,_,.cons (a:=x) (b:=y) r p,.cons (b:=z) q p'=>by
  obtain⟨T,e1,e2,e3,k⟩:=eX p p';refine⟨(x,y,z)::T,by rw[AD,e1],by rw[AD,e2],by rw[AD,e3],fun t ht=>?_⟩;rcases An.mp ht with rfl | ht
  ·exact⟨r,q⟩
  ·exact k t ht
theorem bB{α β:Type}{f:α->β}:∀{l:List α},(∀x∈l,∀y∈l,f x=f y->x=y)->l.Nodup->(l.map f).Nodup
 |[],_,_=>CG
 |a::r,h,n=>by obtain⟨n1,n2⟩:=Az.mp n;rw[AD];refine Az.mpr ⟨fun z=>?_,bB (fun x hx y hy=>h x (Ae _ hx) y (Ae _ hy)) n2⟩;obtain⟨y,hy,e⟩:=Bh.mp z;have:=h y (Ae _ hy) a (Au ..) e;exact n1 (this▸hy)
def kG(p q:Int×Int):Prop:=p.1<q.1\/(p.1=q.1/\p.2≤q.2)
abbrev tU(K:Ac)(H:Hp)(v:V)(p:Int×Int):Prop:=∃a,v=.ref a/\f9 K H a [.int p.1,.int p.2]
theorem sj{p q:Int×Int}(hp:0≤p.2/\p.2<B)(hq:0≤q.2/\q.2<B)(h:p.1*B+p.2≤q.1*B+q.2):kG p q:=by
 unfold kG;by_cases c:p.1<q.1
 ·exact .inl c
 ·right;by_cases d:q.1<p.1
  ·have h5:(q.1+1)*B≤p.1*B:=BM (by omega) (by omega);rw[Int.add_mul,Int.one_mul] at h5;omega
  ·have e:p.1=q.1:=by omega
   rw[e] at h;exact⟨e,by omega⟩
theorem adu{p q:Int×Int}(hp:0≤p.2/\p.2<B)(hq:0≤q.2/\q.2<B)(h:p.1*B+p.2=q.1*B+q.2):p=q:=by
 have h1:=sj hp hq (by omega);have h2:=sj hq hp (by omega);unfold kG at h1 h2;have e1:p.1=q.1:=by omega
 have e2:p.2=q.2:=by omega
 exact Prod.ext e1 e2
section
def ahs(X:Cx):List V->Hp->VK->Prop:=fun xs H Q=>∃l ys ps,xs=[.ref l]/\aE X.K H l ys/\Paired (tU X.K H) ys ps/\(∀p∈ps,0≤p.2/\p.2<1000000)/\ps.Nodup/\ys.length≤63/\
 ∀D zs qs,H D=none->Paired (tU X.K H) zs qs->qs.Perm ps->qs.Pairwise kG->Q (.ref D) (upd H D (.lst zs))
theorem tD:ju X (.builtin "sorted") (ahs X):=by
 intro pins s σ H xs us Q I r h;obtain⟨l,ys,ps,rfl,hl,pr,hb,hnd,hlen,q⟩:=h;obtain⟨u,rfl,ru⟩:=r.one;cases (show u=Value.ref l from ru);obtain⟨its,rv,pl,hz⟩:=I.list hl;have l1:ys.length=its.length:=rv.length;obtain⟨T,e1,e2,e3,kT⟩:=eX rv pr;have kT2:∀t∈T,(∃a o n t1 t2,t.2.1=Value.ref a/\s.heap.get? a=some o/\o.cls=.type "tuple" /\ o.data=.seq #[.int t.2.2.1 t1,.int t.2.2.2 t2] n)/\0≤t.2.2.2/\t.2.2.2<1000000:=fun t ht=>by obtain⟨r1,a,ea,hs⟩:=kT t ht;obtain⟨its2,rv2,⟨o,g1,g2,n,g3⟩,_⟩:=I.tuple hs;obtain⟨w1,w2,rfl,x1,x2⟩:=rv2.two;obtain⟨t1,rfl⟩:=(show ∃t1,w1=Value.int t.2.2.1 t1 from x1);obtain⟨t2,rfl⟩:=(show ∃t2,w2=Value.int t.2.2.2 t2 from x2);rw[ea] at r1;refine⟨⟨a,o,n,t1,t2,r1,g1,g2,g3⟩,?_⟩;exact hb _ (by rw[<-e3];exact List.mem_map_of_mem (f:=fun t:V×Value×(Int×Int)=>t.2.2) ht)
 have nT:∀t∈T,TS.num s.heap 1000000 (t.2.1,t.2.1)=t.2.2.1*1000000+t.2.2.2:=fun t ht=>by obtain⟨⟨a,o,n,t1,t2,g0,g1,g2,g3⟩,_⟩:=kT2 t ht;exact TS.num_of g0 g1 g3
 have ez:its.zip its=T.map fun t=>(t.2.1,t.2.1):=by rw[<-e2,List.zip_map']
 have inj:((its.zip its).map (TS.num s.heap 1000000)).Nodup:=by
  rw[ez,Bm];have e4:T.map (TS.num s.heap 1000000∘fun t=>(t.2.1,t.2.1))=(T.map fun t=>t.2.2).map fun p:Int×Int=>p.1*1000000+p.2:=by rw[Bm];exact Bp fun t ht=>nT t ht
  rw[e4,e3];exact bB (fun x hx y hy e=>adu (hb x hx) (hb y hy) e) hnd
 refine jy I.tk (TS.w_sorted (B:=1000000) pl.isList (by rw[<-l1];exact hlen) (fun v hv=>?_) inj fun h' tk ks D c hD hk hg pm pw ht=>?_)
 ·rw[<-e2] at hv;obtain⟨t,ht,rfl⟩:=Bh.mp hv;obtain⟨⟨a,o,n,t1,t2,g0,g1,g2,g3⟩,b1,b2⟩:=kT2 t ht;exact⟨a,o,n,_,_,t1,t2,g0,g1,g2,g3,b1,b2⟩
 ·rw[ez] at pm;obtain⟨T',pT,eT⟩:=li _ pm rfl;subst eT;have mT:∀t,t∈T'->t∈T:=fun t=>pT.mem_iff.mp;have pw':=BG.mp pw;refine⟨.ref D,_,I.laid (t':=tk) (o:=.lst (T'.map (·.1))) hk hD ?_,rfl,q D (T'.map (·.1)) (T'.map fun t=>t.2.2) (I.hok.fresh hD) (dq fun t ht=>(kT t (mT t ht)).2) ?_ ?_⟩
  ·refine⟨?_,T'.map (fun t=>t.2.1),c,dq fun t ht=>(kT t (mT t ht)).1,?_⟩
   ·rw[Ab,pT.length_eq];have:T.length=ys.length:=by rw[<-e1,Ab]
    rw[this];exact hz
   ·rw[hg,Bm];rfl
  ·rw[<-e3];exact pT.map _
  ·refine BG.mpr (B6 (fun {x y} hx hy z=>?_) pw');rw[nT x (mT x hx),nT y (mT y hy)] at z;exact sj (kT2 x (mT x hx)).2 (kT2 y (mT y hy)).2 z
end
end L2
namespace L3
open PySem L2
def prY(p:Int×Int):Y:=.tup [.int p.1,.int p.2]
theorem on{G:G3}{H:Hp}:∀{ps:List (Int×Int)} {xs:List V},xk G H (ps.map prY) xs->Paired (tU G.K H) xs ps
 |[],_,h=>by cases (show _=[] from h);exact .nil
 |p::r,_,⟨x,xs',e,⟨a,zs,ea,hs,z1,zs1,e1,rz1,z2,zs2,e2,rz2,e3⟩,s⟩=>by subst e ea e1 e2 e3;cases (show z1=V.int p.1 from rz1);cases (show z2=V.int p.2 from rz2);exact .cons ⟨a,rfl,hs⟩ (on s)
theorem qC{G:G3}{H:Hp}:∀{ps:List (Int×Int)} {xs:List V},Paired (tU G.K H) xs ps->xk G H (ps.map prY) xs
 |_,_,.nil=>rfl
 |_,_,.cons ⟨a,ea,hs⟩ t=>by subst ea;exact⟨_,_,rfl,⟨a,_,rfl,hs,_,_,rfl,rfl,_,_,rfl,rfl,rfl⟩,qC t⟩
def mh(xs:List Y)(L:qk)(Q:YK):Prop:=match xs with
 |[.ref a]=>dQ L a fun ys=>∃ps:List (Int×Int),ys=ps.map prY/\(∀p∈ps,0≤p.2/\p.2<1000000)/\ps.Nodup/\ps.length≤63/\∀(D:Addr) (qs:List (Int×Int)),L D=none->qs.Perm ps->qs.Pairwise kG->Q (.ref D) (qd L D (.lst (qs.map prY)))
 |_=>False
theorem gE:bootBuiltins "sorted" = some (.builtin "sorted"):=by decide +kernel
theorem uB :ju X (.builtin "sorted") (upL X.g3 mh):=DP tD fun xs H Q ⟨ys,L,Q3,rv,rl,z,k⟩=>by
 unfold mh at z;split at z
 ·rename_i a;obtain⟨zs,e,ps,rfl,hb,hnd,hlen,z⟩:=v5 z;obtain⟨vs,e2,r⟩:=rl a _ e;obtain⟨u,rfl,ru⟩:=rv.inv1;cases (show u=V.ref a from ru);have pr:=on r;exact⟨a,vs,ps,rfl,aE.of e2,pr,hb,hnd,by rw[<-r.length,Ab];exact hlen,fun D zs qs hD pz pm pw=>k _ _ _ _ (DD hD) (rl.newL hD (qC pz)) (by rfl) (z D qs (rl.none hD) pm pw)⟩
 ·exact z.elim
open PySem L2 Words
def x5:Wd->Y
 |.leaf t n=>.tup [.str (kL t),.str n]
 |.node e l r=>.tup [.str (kN e),x5 l,x5 r]
def db:Y:=(.tup [(.str "plain"),(.str "turned")])
def bP:Y:=(.cd [("plain", "turned"),("turned", "plain"),("both", "either"),("either", "both")])
theorem qm{Q:α->qk->Prop}{o:Option α}{v:α}(e:o=some v)(h:Q v L):uY L Q o:=by rw[e];exact h
abbrev jt(i:Int):x4:=yC (.int i)
abbrev f8(x:Str):x4:=yC (.str x)
abbrev vh(i:Nat)(n:Int):x4:=zm bM (qa i) (yC (.int n))
abbrev dZ(i:Nat):x4:=lK eK (qh (qa i) qz)
abbrev pI(a b:x4):iS:=yB (zm (rC false) a b)
abbrev tI(a b:x4):iS:=yB (zm (rC true) a b)
abbrev wA(a b:x4):x4:=aX (qh a (qh b qz))
abbrev kc(a:x4):dN:=qh a qz
abbrev bO(a b:x4):dN:=qh a (qh b qz)
def uS:k6:=(jd (zm (rH false) (vh 0 0) (yC db)))
def kX:Bool->Bool->Str
 |true,t=>kL t
 |false,e=>kN e
def w6:jc:=fun ys L Q=>∃lf b rest,ys=[.tup (.str (kX lf b)::rest)]/\Q (.bl lf) L
theorem ur(t:Bool):tP (.str (kL t)) [.str "plain",.str "turned"]=true:=by cases t<;>decide +kernel
theorem vG(t:Bool):tP (.str (kN t)) [.str "plain",.str "turned"]=false:=by cases t<;>decide +kernel
theorem sv:∀ys L Q,w6 ys L Q->x0 uS 1 ys L Q:=by
 rintro ys L Q ⟨lf,b,rest,rfl,q⟩;have e0:bW (Y.str (kX lf b)::rest) 0=some (Y.str (kX lf b)):=xr (xs:=Y.str (kX lf b)::rest) (j:=0) rfl;walk_at "w";rw[e0];refine⟨rfl,rfl,xu ?_⟩;cases lf with
 |true=>
  rw[show nb false (tP (fU (.str (kX true b))) ([Y.str "plain",.str "turned"].map fU))=true from ur b];exact q
 |false=>
  rw[show nb false (tP (fU (.str (kX false b))) ([Y.str "plain",.str "turned"].map fU))=false from vG b];exact q
def aac(p0 p1:jc):k6:=(qo (z8 (zm bM (yC bP) (vh 0 0)) (qc 1))
 (qo (vg (yB (qw p0 (kc (qa 0)))) (jd (wA (qa 1) (vh 0 1))) jw)
 (jd (aX (qh (qa 1) (qh (qw p1 (kc (vh 0 1))) (qh (qw p1 (kc (vh 0 2))) qz)))))))
def aP(n:Nat):jc:=fun ys L Q=>∃wd,ys=[x5 wd]/\wd.depth≤n/\Q (x5 wd.turn) L
theorem vB(t:Bool):List.lookup (kL t) [(("plain" : Str),("turned" : Str)),("turned", "plain"),("both", "either"),("either", "both")]=some (kL (!t)):=by cases t<;>decide +kernel
theorem uT(t:Bool):List.lookup (kN t) [(("plain" : Str),("turned" : Str)),("turned", "plain"),("both", "either"),("either", "both")]=some (kN (!t)):=by cases t<;>decide +kernel
theorem uh(n:Nat):∀ys L Q,aP (n+1) ys L Q->x0 (aac w6 (aP n)) 2 ys L Q:=by
 rintro ys L Q ⟨wd,rfl,hd,q⟩;cases wd with
 |leaf t nm=>
  exact qm (vB t) ⟨true,t,_,rfl,xu q⟩
 |node e l r=>
  have hd':max l.depth r.depth+1≤n+1:=hd;refine qm (uT e) ⟨false,e,_,rfl,l,rfl,by lia,r,rfl,by lia,?_⟩;exact xu q
def qS(p0 p1:jc):k6:=(qo (vg (yB (qw p0 (kc (qa 0)))) (jd (xz (kc (qa 0)))) jw)
 (jd (zm vm (qw p1 (kc (vh 0 1))) (qw p1 (kc (vh 0 2))))))
def ku(n:Nat):jc:=fun ys L Q=>∃wd,ys=[x5 wd]/\wd.depth≤n/\wd.leaves≤63/\∀p,L p=none->Q (.ref p) (qd L p (.lst (wd.leafL.map x5)))
theorem ab9{p q r:Addr}{o u v:LO}(hp:L p=none)(hq:qd L p o q=none)(hr:qd (qd L p o) q u r=none):qg (qd L r v) (qd (qd (qd L p o) q u) r v):=fun a z e=>by
 by_cases c:a=r
 ·subst c;rw[q8] at e ⊢;exact e
 ·rw[qb c] at e ⊢;exact((By hp).trans (By hq)) a z e
theorem xb(s:qg L L'){p:Addr}(h:L' p=none):L p=none:=by cases e:L p with|none=>rfl|some o=>rw[s _ _ e] at h;cases h
theorem o3(n:Nat):∀ys L Q,ku (n+1) ys L Q->x0 (qS w6 (ku n)) 1 ys L Q:=by
 rintro ys L Q ⟨wd,rfl,hd,h63,q⟩;cases wd with
 |leaf t n=>exact⟨true,t,_,rfl,fun p hp=>xu (q p hp)⟩
 |node e l r=>
  have hd':max l.depth r.depth+1≤n+1:=hd;have h63':l.leaves+r.leaves≤63:=h63;refine⟨false,e,_,rfl,l,rfl,by lia,by lia,fun p1 h1=>⟨r,rfl,by lia,by lia,fun p2 h2=>?_⟩⟩;have n1:p1≠p2:=k8 q8 h2;refine⟨_,_,(qb n1).trans q8,q8,aj ?_,fun p3 h3=>?_⟩
  ·rw[Ab,Ab,DI,DI];exact ai8
  ·refine ce (ab9 h1 h2 h3) ?_;have:=q p3 (xb (By h1) (xb (By h2) h3));rw[show(Wd.node e l r).leafL=l.leafL++r.leafL from rfl,Ar] at this;exact this
theorem ji.str(x:Str):ji L n (.str x) (.s (.str x)):=by cases n with|zero=>exact⟨rfl,rfl⟩|succ n=>exact .inl ⟨rfl,rfl⟩
abbrev DQ:=@ji.str
theorem ji.int(x:Int):ji L n (.int x) (.s (.int x)):=by cases n with|zero=>exact⟨rfl,rfl⟩|succ n=>exact .inl ⟨rfl,rfl⟩
abbrev DN:=@ji.int
theorem aZ{L:qk}:∀{wd:Wd} {n:Nat},wd.depth≤n->ji L n (x5 wd) (fA wd)
 |.leaf t nm,n+1,_=>.inr (.inl ⟨_,_,rfl,rfl,.cons (DQ _) (.cons (DQ _) .nil)⟩)
 |.node e l r,n+1,h=>by have h':max l.depth r.depth+1≤n+1:=h;exact .inr (.inl ⟨_,_,rfl,rfl,.cons (DQ _) (.cons (aZ (by lia)) (.cons (aZ (by lia)) .nil))⟩)
theorem gP{L:qk}{n:Nat}:∀{ws:List Wd},(∀w∈ws,w.depth≤n)->Paired (ji L n) (ws.map x5) (ws.map fA)
 |[],_=>.nil
 |w::r,h=>.cons (aZ (h w (by simp))) (gP fun x hx=>h x (by simp[hx]))
theorem dF(e:L a=some (.lst ys))(p:Paired (ji L n) ys ds):ji L (n+1) (.ref a) (.lst ds):=.inr (.inr ⟨ys,ds,rfl,rfl,zd e,p⟩)
theorem aU(p:Paired (ji L n) ys ds):ji L (n+1) (.tup ys) (.tup ds):=.inr (.inl ⟨ys,ds,rfl,rfl,p⟩)
theorem jT{neg:Bool}{zs:List Y}{es:List Da}{Q:YK}(hn:n<128)(ea:L a=some (.lst ys))(eb:L b=some (.lst zs))(pa:Paired (ji L n) ys ds)(pb:Paired (ji L m) zs es)(q:Q (.bl (nb neg (Da.eqs ds es))) L):
 rC neg (.ref a) (.ref b) L Q:=⟨rfl,rfl,n+1,m+1,_,_,hn,dF ea pa,dF eb pb,q⟩
theorem wB:∀ys L Q,¬aP 0 ys L Q:=fun ys L Q ⟨wd,_,hd,_⟩=>by cases wd<;>simp[Wd.depth] at hd
theorem nW:∀ys L Q,¬ku 0 ys L Q:=fun ys L Q ⟨wd,_,hd,_⟩=>by cases wd<;>simp[Wd.depth] at hd
def lL(K:Ac):k6:=(af6 K "heads" (qa 0) (eV (qa 1)))
def ff(K:Ac):k6:=(qo (z8 (qa 1) (qc 2))
 (qo (oR (tI (zm bM (sQ K "heads" (qa 0)) (qa 2)) (qa 2)) (qo (tV (sQ K "heads" (qa 0)) (qa 2) (zm bM (sQ K "heads" (qa 0)) (zm bM (sQ K "heads" (qa 0)) (qa 2))))
 (z8 (zm bM (sQ K "heads" (qa 0)) (qa 2)) (qc 2))))
 (jd (qa 2))))
def jF(K:Ac)(Ca:Addr)(p0:jc):k6:=(qo (z8 (gp Ca "head_of" p0 (qa 0) (kc (qa 1))) (qc 3))
 (qo (z8 (gp Ca "head_of" p0 (qa 0) (kc (qa 2))) (qc 4))
 (qo (tV (sQ K "heads" (qa 0)) (qa 3) (qa 4))
 (jd (zm (rC true) (qa 3) (qa 4))))))
structure XFP(K:Ac)(C:Addr):Prop where
 cl:Cls K C
 na:NoAttr K C "heads"
def nY(hs:List Nat):List Y:=hs.map fun n:Nat=>.int (n:Int)
def kJ(hp:Addr):List (Str×Y):=[("heads",.ref hp)]
theorem bA :(kJ hp).lookup ("heads" : Str)=some (.ref hp):=by unfold kJ;rw[Bi,show((("heads" : Str)==("heads" : Str)))=true by decide +kernel]
theorem dJ :(kJ hp).lookup ("head_of" : Str)=none:=by unfold kJ;rw[Bi,show((("head_of" : Str)==("heads" : Str)))=false by decide +kernel];rfl
theorem iy :(kJ hp).lookup ("unite" : Str)=none:=by unfold kJ;rw[Bi,show((("unite" : Str)==("heads" : Str)))=false by decide +kernel];rfl
theorem tN(n:Nat):kz 0 n=nY (List.range n):=by unfold kz nY;exact Bp fun k _=>by rw[C3]
theorem vk(hs:List Nat):(nY hs).length=hs.length:=by unfold nY;rw[Ab]
theorem tO{h:Nat}(e:hs[i]?=some h):bW (nY hs) (i:Int)=some (.int (h:Int)):=xr (by unfold nY;rw[Ai,e];rfl)
theorem ye(hs:List Nat)(i g:Nat):(nY hs).set i (.int (g:Int))=nY (hs.set i g):=by unfold nY;rw[List.map_set]
theorem uM(h:j<n):zQ n (j:Int)=some j:=by unfold zQ;rw[AC (by exact A6 _),AC (by omega)];rfl
theorem vi{p:Addr}{o:LO}(h:qd L a o p=none):L p=none:=by
 by_cases c:p=a
 ·subst c;rw[q8] at h;cases h
 ·rw[qb c] at h;exact h
theorem aq{o:LO}(h:L a=some o):qd L a o=L:=by
 funext b;unfold qd;split
 ·rename_i e;rw[e,h]
 ·rfl
def eY(rk:Nat->Nat)(hs:List Nat):Prop:=∀i h,hs[i]?=some h->h<hs.length/\(h≠i->rk h<rk i)
inductive kj(hs:List Nat):Nat->Nat->Prop
 |root {r:Nat}:hs[r]?=some r->kj hs r r
 |step {i h r:Nat}:hs[i]?=some h->h≠i->kj hs h r->kj hs i r
theorem kj.top{r:Nat}(h:kj hs i r):hs[r]?=some r:=by induction h with|root e=>exact e|step _ _ _ ih=>exact ih
theorem kj.uniq{r s:Nat}(h:kj hs i r)(k:kj hs i s):r=s:=by
 induction h generalizing s with
 |root e=>
  cases k with|root _=>rfl|step e' ne _=>rw[e] at e';exact absurd (AQ e').symm ne
 |step e ne t ih=>
  cases k with|root e'=>rw[e] at e';exact absurd (AQ e') ne|step e' _ t'=>rw[e] at e';cases e';exact ih t'
theorem kj.of_top{r:Nat}(h:kj hs i r)(e:hs[i]?=some i):r=i:=h.uniq (.root e)
theorem eY.rep{rk:Nat->Nat}{hs:List Nat}(hr:eY rk hs):∀(n i:Nat),rk i<n->i<hs.length->∃r,kj hs i r
 |0,_,h,_=>absurd h (B7 _)
 |n+1,i,h,hi=>by
  have e:hs[i]?=some hs[i]:=Ak hi;by_cases c:hs[i]=i
  ·exact⟨i,.root (by rw[e,c])⟩
  ·obtain⟨h1,h2⟩:=hr i _ e;obtain⟨r,t⟩:=eY.rep hr n hs[i] (by have:=h2 c;omega) h1;exact⟨r,.step e c t⟩
theorem eY.rep'(hr:eY rk hs)(hi:i<hs.length):∃r,kj hs i r:=hr.rep (rk i+1) i (Br _) hi
theorem qx{l:List α}{x:α}(h:l[i]?=some x):i<l.length:=(AU.mp h).1
theorem vj{l:List α}{x:α}(h:i<l.length):(l.set i x)[i]?=some x:=by rw[List.getElem?_set];simp[h]
theorem xl{l:List α}{x:α}(h:i≠j):(l.set i x)[j]?=l[j]?:=by rw[List.getElem?_set,AB h]
theorem eY.halve(hr:eY rk hs){h g:Nat}(ei:hs[i]?=some h)(ne:h≠i)(eh:hs[h]?=some g):eY rk (hs.set i g)/\rk g<rk i:=by
 have hg:rk g<rk i:=by
  have h1:=(hr i h ei).2 ne;by_cases c:g=h
  ·rw[c];exact h1
  ·have:=(hr h g eh).2 c;exact y4
 refine⟨fun j x e=>?_,hg⟩;rw[A8];by_cases c:i=j
 ·subst c;rw[vj (qx ei)] at e;cases e;exact⟨(hr h _ eh).1,fun _=>hg⟩
 ·rw[xl c] at e;exact hr j x e
theorem gd{rk:Nat->Nat}{hs:List Nat}(hr:eY rk hs){i h g:Nat}(ei:hs[i]?=some h)(ne:h≠i)(eh:hs[h]?=some g):∀(n j r:Nat),rk j<n->kj hs j r->kj (hs.set i g) j r
 |0,_,_,h,_=>absurd h (B7 _)
 |n+1,j,r,hn,t=>by
  have ih:=gd hr ei ne eh n;have hg:=(hr.halve ei ne eh).2;cases t with
  |root e=>
   have c:i≠j:=fun c=>by subst c;rw[ei] at e;exact ne (AQ e)
   exact .root (by rw[xl c];exact e)
  |step e ne' t=>
   rename_i h';have lt:=(hr j h' e).2 ne';by_cases c:i=j
   ·subst c;rw[ei] at e;cases e;by_cases d:g=h
    ·subst d;exact .step (vj (qx ei)) ne' (ih _ r (by lia) t)
    ·cases t with
     |root e2=>rw[eh] at e2;exact absurd (AQ e2) d
     |step e2 ne2 t2=>
      rw[eh] at e2;cases e2;refine .step (vj (qx ei)) (fun z=>?_) (ih _ r (by lia) t2);rw[z] at hg;exact BI _ hg
   ·exact .step (by rw[xl c];exact e) ne' (ih _ r (by lia) t)
def bR(hs:List Nat):Nat:=(List.range hs.length).countP fun i=>decide (hs[i]?=some i)
theorem vK(hr:eY rk hs){h g:Nat}(ei:hs[i]?=some h)(ne:h≠i)(eh:hs[h]?=some g):bR (hs.set i g)=bR hs:=by
 unfold bR;rw[A8];refine BY fun j hj=>?_;have hg:=(hr.halve ei ne eh).2;by_cases c:i=j
 ·subst c;rw[vj (qx ei),ei];have d:g≠i:=fun z=>by rw[z] at hg;exact BI _ hg
  simp[d,ne]
 ·rw[xl c]
theorem bK{p:Nat->Bool}{a:Nat}(ha:p a=true):∀{l:List Nat},l.Nodup->a∈l->l.countP (fun j=>p j&&!decide (j=a))+1=l.countP p
 |[],_,h=>by cases h
 |x::r,hn,h=>by
  obtain⟨n1,n2⟩:=Az.mp hn;rw[AA,AA];by_cases c:x=a
  ·subst c;have e:r.countP (fun j=>p j&&!decide (j=x))=r.countP p:=by refine BY fun j hj=>?_;have:j≠x:=fun z=>n1 (z▸hj);simp[this]
   rw[e];simp[ha]
  ·have hm:a∈r:=by
    rcases An.mp h with z | z
    ·exact absurd z.symm c
    ·exact z
   have ih:=bK ha n2 hm;simp only[As c,Bool.not_false,De];lia
theorem eY.join(hr:eY rk hs){a b:Nat}(ea:hs[a]?=some a)(eb:hs[b]?=some b):∃rk',eY rk' (hs.set a b):=by
 by_cases c:a=b
 ·subst c;refine⟨rk,fun i h e=>?_⟩;rw[A8];by_cases d:a=i
  ·subst d;rw[vj (qx ea)] at e;cases e;exact hr _ _ ea
  ·rw[xl d] at e;exact hr i h e
 ·refine⟨fun x=>if x=b then 0 else rk x+1,fun i h e=>?_⟩;rw[A8];by_cases d:a=i
  ·subst d;rw[vj (qx ea)] at e;cases e;refine⟨qx eb,fun _=>?_⟩;show(if b=b then 0 else rk b+1)<if a=b then 0 else rk a+1
   rw[AC rfl,AB c];exact Cz _
  ·rw[xl d] at e;refine⟨(hr i h e).1,fun ne=>?_⟩;have nb:i≠b:=fun z=>by subst z;rw[eb] at e;exact ne (AQ e).symm
   show(if h=b then 0 else rk h+1)<if i=b then 0 else rk i+1
   rw[AB nb];have:=(hr i h e).2 ne;split<;>lia
theorem aam{a b:Nat}(ea:hs[a]?=some a)(eb:hs[b]?=some b){r:Nat}(t:kj hs i r):kj (hs.set a b) i (if r=a then b else r):=by
 induction t with
 |root e=>
  rename_i r;by_cases c:r=a
  ·subst c;rw[AC rfl];by_cases d:r=b
   ·subst d;exact .root (vj (qx ea))
   ·exact .step (vj (qx ea)) (fun z=>d z.symm) (.root (by rw[xl d];exact eb))
  ·rw[AB c];exact .root (by rw[xl (fun z=>c z.symm)];exact e)
 |step e ne t ih=>
  rename_i i h r;have c:a≠i:=fun z=>by subst z;rw[ea] at e;exact ne (AQ e).symm
  exact .step (by rw[xl c];exact e) ne ih
theorem aa5{a b:Nat}(ea:hs[a]?=some a)(eb:hs[b]?=some b)(ne:a≠b):bR (hs.set a b)+1=bR hs:=by
 unfold bR;rw[A8];have e:=bK (p:=fun i=>decide (hs[i]?=some i)) (a:=a) (Aw ea) (l:=List.range hs.length) Bj (AX.mpr (qx ea));rw[<-e];congr 1;refine BY fun j hj=>?_;by_cases c:a=j
 ·subst c;rw[vj (qx ea)];simp[AR ne]
 ·rw[xl c];simp[AR c]
def i9(C:Addr):jc:=fun ys L Q=>∃o,∃n:Nat,∃ni:Int,ys=[.ref o,.int ni]/\ni=(n:Int)/\L o=some (.ins C [])/\n≤1000/\∀hp,L hp=none->Q .non (qd (qd L hp (.lst (nY (List.range n)))) o (.ins C (kJ hp)))
theorem aa1{K:Ac}(xf:XFP K C):∀ys L Q,i9 C ys L Q->x0 (lL K) 2 ys L Q:=by rintro ys L Q ⟨o,n,ni,rfl,rfl,ho,hn,q⟩;refine⟨⟨by exact A6 _,by lia⟩,fun hp hhp=>?_⟩;refine vp ((qb (k8 ho hhp)).trans ho) ⟨xf.cl,xf.na,by decide,?_⟩;rw[show((n:Nat):Int).toNat=n from rfl,tN];exact xu (q hp hhp)
def i8(C:Addr):jc:=fun ys L Q=>∃o hp,∃hs:List Nat,∃p:Nat,∃pi:Int,∃rk,ys=[.ref o,.int pi]/\pi=(p:Int)/\L o=some (.ins C (kJ hp))/\L hp=some (.lst (nY hs))/\eY rk hs/\p<hs.length/\
 ∀(r:Nat) hs',hs'.length=hs.length->eY rk hs'->kj hs p r->(∀i s,kj hs i s->kj hs' i s)->bR hs'=bR hs->Q (.int (r:Int)) (qd L hp (.lst (nY hs')))
theorem ae6{K:Ac}(xf:XFP K C):∀ys L Q,i8 C ys L Q->x0 (ff K) 3 ys L Q:=by
 rintro ys L Q ⟨o,hp,hs,p,pi,rk,rfl,rfl,ho,hhp,hr,hlt,q⟩;obtain⟨r0,t0⟩:=hr.rep' hlt;have hop:o≠hp:=yx ho hhp (fun e=>by cases e);refine⟨fun m τ L'=>∃(hs':List Nat) (here:Nat),τ=[some (.ref o),some (.int (p:Int)),some (.int (here:Int))]/\L'=qd L hp (.lst (nY hs'))/\hs'.length=hs.length/\eY rk hs'/\here<hs.length/\kj hs' here r0/\(∀i s,kj hs i s->kj hs' i s)/\bR hs'=bR hs/\m=rk here,⟨_,hs,p,rfl,(aq hhp).symm,rfl,hr,hlt,t0,fun _ _ h=>h,rfl,rfl⟩,?_⟩;rintro m τ L' ⟨hs',here,rfl,rfl,hl,hr',hh,t,hall,hrt,rfl⟩;have ho':∀z,(qd L hp (.lst z)) o=some (.ins C (kJ hp)):=fun z=>(qb hop).trans ho;obtain⟨h,eh⟩:∃h,hs'[here]?=some h:=⟨_,Ak (by lia)⟩;refine vp (ho' _) ⟨xf.cl,xf.na,qm bA (qe q8 (qm (tO eh) ?_))⟩;by_cases c:h=here
 ·subst c;refine kh (by show(!decide (((h:Nat):Int)=(h:Int)))=false;rw[Aw rfl];rfl) ?_;have e:=t.of_top eh;subst e;exact xu (q _ hs' hl hr' t0 hall hrt)
 ·refine cD (by show(!decide (((h:Nat):Int)=(here:Int)))=true;rw[As (by lia)];rfl) ?_;refine⟨_,fun _ _ h=>h,?_⟩;obtain⟨g,eg⟩:∃g,hs'[h]?=some g:=⟨_,Ak (hr' here h eh).1⟩;refine vp (ho' _) ⟨xf.cl,xf.na,qm bA (vp (ho' _) ⟨xf.cl,xf.na,qm bA (qe q8 (qm (tO eh) (qe q8 (qm (tO eg) ?_))))⟩)⟩;refine vp (ho' _) ⟨xf.cl,xf.na,qm bA (qu q8 (qm (v:=here) ?_ ?_))⟩
  ·exact uM (by rw[vk];lia)
  rw[zg,ye];have es:(hs'.set here g)[here]?=some g:=vj (by lia);refine vp (ho' _) ⟨xf.cl,xf.na,qm bA (qe q8 (qm (tO es) ?_))⟩;obtain⟨hv1,hv2⟩:=hr'.halve eh c eg;refine⟨_,DA _,rk g,hv2,hs'.set here g,g,rfl,rfl,by rw[A8];exact hl,hv1,?_,?_,fun i s z=>gd hr' eh c eg (rk i+1) i s (Br _) (hall i s z),by rw[vK hr' eh c eg];exact hrt,rfl⟩
  ·rw[<-hl];exact(hr' h g eg).1
  ·have t2:=gd hr' eh c eg (rk here+1) here r0 (Br _) t;cases t2 with|root e2=>rw[es] at e2;cases e2;exact .root es|step e2 ne2 t3=>rw[es] at e2;cases e2;exact t3
def fC(C:Addr):jc:=fun ys L Q=>∃o hp,∃hs:List Nat,∃p q a b:Nat,∃pi qi:Int,ys=[.ref o,.int pi,.int qi]/\pi=(p:Int)/\qi=(q:Int)/\L o=some (.ins C (kJ hp))/\L hp=some (.lst (nY hs))/\(∃rk,eY rk hs)/\kj hs p a/\kj hs q b/\p<hs.length/\q<hs.length/\
 ∀hs',hs'.length=hs.length->(∃rk,eY rk hs')->(∀i s,kj hs i s->kj hs' i (if s=a then b else s))->(a=b->bR hs'=bR hs)->(a≠b->bR hs'+1=bR hs)->Q (.bl (!decide (a=b))) (qd L hp (.lst (nY hs')))
theorem xR{K:Ac}(xf:XFP K C):∀ys L Q,fC C ys L Q->x0 (jF K C (i8 C)) 5 ys L Q:=by
 rintro ys L Q ⟨o,hp,hs,p,q,a,b,pi,qi,rfl,rfl,rfl,ho,hhp,⟨rk,hr⟩,ta,tb,hp1,hq1,k⟩;have hop:o≠hp:=yx ho hhp (fun e=>by cases e);have ho':∀z,(qd L hp (.lst z)) o=some (.ins C (kJ hp)):=fun z=>(qb hop).trans ho;refine vp ho ⟨rfl,dJ,o,hp,hs,p,_,rk,rfl,rfl,ho,hhp,hr,hp1,fun r1 hs1 l1 k1 t1 a1 n1=>?_⟩;cases t1.uniq ta;refine vp (ho' _) ⟨rfl,dJ,o,hp,hs1,q,_,rk,rfl,rfl,ho' _,q8,k1,by lia,fun r2 hs2 l2 k2 t2 a2 n2=>?_⟩;cases t2.uniq (a1 _ _ tb);rw[zg];have ea:hs2[a]?=some a:=(a2 _ _ (a1 _ _ ta)).top;have eb:hs2[b]?=some b:=(a2 _ _ (a1 _ _ tb)).top;refine vp (ho' _) ⟨xf.cl,xf.na,qm bA (qu q8 (qm (v:=a) (uM (by rw[vk];exact qx ea)) ?_))⟩;rw[zg,ye];have e0:(decide ((a:Int)=(b:Int)))=decide (a=b):=by
  by_cases c:a=b
  ·rw[Aw c];exact Aw (by lia)
  ·rw[As c];exact As (by lia)
 show gD Q (.bl (!decide ((a:Int)=(b:Int)))) _;rw[e0];refine xu (k (hs2.set a b) (by rw[A8];lia) (k2.join ea eb) (fun i s z=>aam ea eb (a2 _ _ (a1 _ _ z))) (fun e=>?_) (fun ne=>?_))
 ·subst e;have:hs2.set a a=hs2:=by
   apply Cj;intro j;by_cases c:a=j
   ·subst c;rw[vj (qx ea),ea]
   ·rw[xl c]
  rw[this,n2,n1]
 ·have:=aa5 ea eb ne;lia
def oM:k6:=(jd (qK (jA .int (qa 0)) (af3 (jA .bool (qa 0)))))
def ig:jc:=fun ys L Q=>∃i,ys=[.int i]/\Q (.bl true) L
theorem yD:∀ys L Q,ig ys L Q->x0 oM 1 ys L Q:=by rintro ys L Q ⟨i,rfl,q⟩;exact xu q
def rK:k6:=(jd (zm az (zm ai (zm jE (zm vm (zm vm (zm jE (zm ai (qa 0) (jt 1000003)) (jt 7)) (zm jE (qa 1) (qa 1))) (jt 1)) (qa 2)) (jt 2147483647)) (jt 16)))
def qV(p0:jc):k6:=(qo (z8 (zm bM (qa 0) (qa 1)) (qc 2))
 (qo (vg (pI (dZ 2) (jt 2)) (jd (qa 2)) jw)
 (jd (aX (qh (vh 2 0) (qh (qw p0 (bO (qa 0) (vh 2 1))) (qh (qw p0 (bO (qa 0) (vh 2 2))) qz)))))))
def oQ:jc:=fun ys L Q=>∃c k f:Int,ys=[.int c,.int k,.int f]/\0≤k/\k<1000000/\0<f/\f<1000000/\∀v,0≤v->v<134217728->Q (.int v) L
theorem ahr:∀ys L Q,oQ ys L Q->x0 rK 3 ys L Q:=by
 rintro ys L Q ⟨c,k,f,rfl,h0,h1,h2,h3,q⟩;refine⟨(by decide:(0:Int)<1000003),.inr ⟨by decide,by decide⟩,.inl ⟨by lia,by lia⟩,.inr ⟨by lia,by lia⟩,(by decide:(0:Int)<2147483647),⟨by decide,by decide⟩,xu (q _ ?_ ?_)⟩
 all_goals
  generalize ((c % 1000003*7+k*k+1)*f)=z;lia
theorem xE(cs:List Nat):(Txt.join "" (cs.map fun c=>(⟨#[c]⟩:Str))).cps.toList=cs:=by
 rw[oO]
 induction cs with|nil=>rfl|cons c r ih=>rw[AD,A4,ih];rfl
def KW(ks:List Y):Nat->Wd->Prop
 |p,.leaf t n=>ks[p]?=some (.tup [.str (kL t),.str n])
 |p,.node e l r=>∃i j:Nat,ks[p]?=some (.tup [.str (kN e),.int i,.int j])/\KW ks i l/\KW ks j r
theorem KW.more{ks:List Y}(ms:List Y):∀{wd:Wd} {p:Nat},KW ks p wd->KW (ks++ms) p wd
 |.leaf _ _,p,h=>by have h':ks[p]?=some _:=h;show(ks++ms)[p]?=some _;rw[AK (AU.mp h').1];exact h'
 |.node _ _ _,p,⟨i,j,h,a,b⟩=>⟨i,j,by rw[AK (AU.mp h).1];exact h,KW.more ms a,KW.more ms b⟩
def wf(n:Nat):jc:=fun ys L Q=>∃k ks p wd,ys=[.ref k,.int ((p:Nat):Int)]/\L k=some (.lst ks)/\KW ks p wd/\wd.depth≤n/\Q (x5 wd) L
theorem rg:∀ys L Q,¬wf 0 ys L Q:=fun ys L Q ⟨k,ks,p,wd,_,_,_,hd,_⟩=>by cases wd<;>simp[Wd.depth] at hd
theorem mf:∀ys L Q,¬wf 0 ys L Q:=rg
theorem qF(n:Nat):∀ys L Q,wf (n+1) ys L Q->x0 (qV (wf n)) 3 ys L Q:=by
 rintro ys L Q ⟨k,ks,p,wd,rfl,hk,h,hd,q⟩;cases wd with
 |leaf t nm=>exact qe hk (qm (xr h) (xu q))
 |node e l r=>
  obtain⟨i,j,h,hl,hr⟩:=h;have hd':max l.depth r.depth+1≤n+1:=hd;exact qe hk (qm (xr h) ⟨k,ks,i,l,rfl,hk,hl,by lia,k,ks,j,r,rfl,hk,hr,by lia,xu q⟩)
def zX(l:List Nat):Str:=⟨l.toArray⟩
theorem tR(x:Str):zX x.cps.toList=x:=by cases x;rfl
inductive Kn where
 |lf (t:Bool) (n:Str) | nd (e:Bool) (i j:Nat)
def bH:Kn->Y
 |.lf t n=>.tup [.str (kL t),.str n]
 |.nd e i j=>.tup [.str (kN e),.int ((i:Nat):Int),.int ((j:Nat):Int)]
inductive Ru where
 |link (p q:Nat) | ei (r:Nat) (A:Ru) | bo (r:Nat) (A B:Ru) | cu (p q:Nat) (A B:Ru)
def vo:Ru->Y
 |.link p q=>.tup [.str "link",.int ((p:Nat):Int),.int ((q:Nat):Int)]
 |.ei r A=>.tup [.str "either",.int ((r:Nat):Int),vo A]
 |.bo r A B=>.tup [.str "both",.int ((r:Nat):Int),vo A,vo B]
 |.cu p q A B=>.tup [.str "cut",.int ((p:Nat):Int),.int ((q:Nat):Int),vo A,vo B]
def za:Ru->List Nat
 |.link p q=>[p,q]
 |.ei r A=>r::za A
 |.bo r A B=>r::(za A++za B)
 |.cu _ _ A B=>za A++za B
abbrev vv(ks:List Kn):List Y:=ks.map bH
def dY(ks:List Kn)(p:Nat)(w:Wd):Prop:=KW (vv ks) p w
theorem dY.more{ks:List Kn}{p:Nat}{w:Wd}(h:dY ks p w)(ms:List Kn):dY (ks++ms) p w:=by unfold dY vv;rw[Ar];exact KW.more _ h
def cf(ks:List Kn):Prop:=∀(p:Nat) (k:Kn),ks[p]?=some k->match k with
 |.lf _ n=>cO n
 |.nd _ i j=>i<p/\j<p
theorem cf.snoc{ks:List Kn}{k:Kn}(h:cf ks)(hk:match k with | .lf _ n=>cO n | .nd _ i j=>i<ks.length/\j<ks.length):cf (ks++[k]):=by
 intro p k' e;by_cases c:p<ks.length
 ·rw[AK c] at e;exact h p k' e
 ·rw[Aq (by exact aa7)] at e;have c2:p=ks.length:=by
   by_cases c3:p - ks.length=0
   ·omega
   ·rw[Bv (by simp;exact am6)] at e;cases e
  subst c2;rw[Nat.sub_self] at e;cases e;exact hk
theorem kM(l:List α)(x:α)(r:List α):(l++x::r)[l.length]?=some x:=by rw[Aq (Am _),Nat.sub_self];rfl
theorem cX{l r:List α}{p:Nat}{x:α}(h:l[p]?=some x):(l++r)[p]?=some x:=by rw[AK (AU.mp h).1];exact h
inductive SR(ks:List Kn):Ru->List Nat->Prop
 |link {p q:Nat} {t:Bool} {n:Str} {E:List Nat}:p<q->ks[p]?=some (.lf t n)->ks[q]?=some (.lf (!t) n)->(∀x,x∈E↔x=p\/x=q)->E.Nodup->SR ks (.link p q) E
 |ei {r i j:Nat} {A:Ru} {EA E:List Nat}:ks[r]?=some (.nd true i j)->SR ks A EA->i∈EA->j∈EA->i≠j->(∀x,x∈E↔(x∈EA/\x≠i/\x≠j)\/x=r)->E.Nodup->SR ks (.ei r A) E
 |bo {r i j:Nat} {A B:Ru} {EA EB E:List Nat}:ks[r]?=some (.nd false i j)->SR ks A EA->SR ks B EB->i∈EA->j∈EB->(∀x,x∈E↔(x∈EA/\x≠i)\/(x∈EB/\x≠j)\/x=r)->E.Nodup->SR ks (.bo r A B) E
 |cu {p q:Nat} {A B:Ru} {EA EB E:List Nat} {w:Wd}:SR ks A EA->SR ks B EB->p∈EA->q∈EB->dY ks p w->dY ks q w.turn->(∀x,x∈E↔(x∈EA/\x≠p)\/(x∈EB/\x≠q))->E.Nodup->SR ks (.cu p q A B) E
theorem SR.more{ks:List Kn}{R:Ru}{E:List Nat}(h:SR ks R E)(ms:List Kn):SR (ks++ms) R E:=by induction h with|link h1 h2 h3 h4 h5=>exact .link h1 (cX h2) (cX h3) h4 h5|ei h1 _ h3 h4 h5 h6 h7 ih=>exact .ei (cX h1) ih h3 h4 h5 h6 h7|bo h1 _ _ h4 h5 h6 h7 ih1 ih2=>exact .bo (cX h1) ih1 ih2 h4 h5 h6 h7|cu _ _ h3 h4 h5 h6 h7 h8 ih1 ih2=>exact .cu ih1 ih2 h3 h4 (h5.more ms) (h6.more ms) h7 h8
theorem SR.sub{ks:List Kn}{R:Ru}{E:List Nat}(h:SR ks R E):∀x∈E,x∈za R:=by
 induction h with
 |link _ _ _ h4 _=>intro x hx;rcases (h4 x).mp hx with rfl | rfl<;>simp[za]
 |ei _ _ _ _ _ h6 _ ih=>intro x hx;rcases (h6 x).mp hx with⟨h,_⟩ | rfl;exact Ae _ (ih x h);exact Au ..
 |bo _ _ _ _ _ h6 _ ih1 ih2=>
  intro x hx;rcases (h6 x).mp hx with⟨h,_⟩ | ⟨h,_⟩ | rfl
  ·exact Ae _ (Ao _ (ih1 x h))
  ·exact Ae _ (Ag _ (ih2 x h))
  ·exact Au ..
 |cu _ _ _ _ _ _ h7 _ ih1 ih2=>
  intro x hx;rcases (h7 x).mp hx with⟨h,_⟩ | ⟨h,_⟩
  ·exact Ao _ (ih1 x h)
  ·exact Ag _ (ih2 x h)
structure Mir(ks:List Kn)(w:Wd)(ms:List Kn)(R:Ru)(tp sp:Nat):Prop where
 len:ms.length=2*w.size
 sr:SR (ks++ms) R [tp,sp]
 wt:dY (ks++ms) tp w.turn
 ws:dY (ks++ms) sp w
 tm:∀x,x∈za R↔ks.length≤x/\x<ks.length+ms.length
 nd:(za R).Nodup
 ok:cf (ks++ms)
theorem dY.leaf{ks:List Kn}{p:Nat}{t:Bool}{n:Str}(h:ks[p]?=some (.lf t n)):dY ks p (.leaf t n):=by show(vv ks)[p]?=_;rw[Ai,h];rfl
theorem dY.node{ks:List Kn}{p:Nat}{e:Bool}{l r:Wd}(h:ks[p]?=some (.nd e i j))(hl:dY ks i l)(hr:dY ks j r):dY ks p (.node e l r):=by refine⟨i,j,?_,hl,hr⟩;rw[Ai,h];rfl
theorem wX{ks:List Kn}(hk:cf ks){t:Bool}{n:Str}(hn:cO n):Mir ks (.leaf t n) [.lf (!t) n,.lf t n] (.link ks.length (ks.length+1)) ks.length (ks.length+1):=by
 have e1:(ks++[Kn.lf (!t) n,.lf t n])[ks.length]?=some (.lf (!t) n):=kM _ _ _;have e2:(ks++[Kn.lf (!t) n,.lf t n])[ks.length+1]?=some (.lf t n):=by have:=kM (ks++[Kn.lf (!t) n]) (Kn.lf t n) [];rw[Aa,Ba] at this;exact this
 refine⟨rfl,.link (t:=!t) (n:=n) (by exact Br _) e1 (by rw[Bool.not_not];exact e2) (by simp) (by simp),dY.leaf e1,dY.leaf e2,fun x=>?_,by simp[za],?_⟩
 ·show x∈[ks.length,ks.length+1]↔ks.length≤x/\x<ks.length+2;simp;lia
 ·have:=(hk.snoc (k:=.lf (!t) n) hn).snoc (k:=.lf t n) hn;rw[Ba] at this;exact this
theorem SR.nod{ks:List Kn}{R:Ru}{E:List Nat}(h:SR ks R E):E.Nodup:=by cases h<;>assumption
end L3
variable {R:L3.Ru}{ks ms:List L3.Kn}
namespace L3
open PySem L2 Words
def rJ(p0:jc):k6:=(qo (vg (rE (yB (lP false (qa 0))) (yB (qw p0 (kc (qa 0))))) (jd (xz qz)) jw)
 (jd (xz (bO (vh 0 1) (vh 0 2)))))
def im:k6:=(jd (nP 2 (bL (qa 0)) (wx 2 (zu (qc 1) (zu (qc 2) ky))) (yB (lP true (qa 2))) (qa 1)))
def pQ:k6:=(qo (z8 (xz qz) (qc 1))
 (qo (a7 (jq (qa 0)) (wx 2 (zu (qc 2) (zu (qc 3) ky))) (qo (jx (bU zw (qa 1) (kc (qa 2))))
 (jx (bU zw (qa 1) (kc (qa 3))))))
 (jd (qa 1))))
def oS:k6:=(jd (nP 2 (bL (vh 0 0)) (wx 2 (zu (qc 1) (zu (qc 2) ky))) (ajs (yB (lP true (qa 2))) (pI (vh 2 0) (f8 "either"))) (qa 1)))
def rR(p0:jc):k6:=(jd (nP 1 (jq (qw p0 (kc (vh 0 0)))) (qc 1) (pI (zm bM (zm bM (vh 0 0) (qa 1)) (jt 0)) (f8 "both")) (qa 1)))
def ml(p0:jc):k6:=(qo (z8 (xz qz) (qc 2))
 (qo (a7 (jq (qa 1)) (qc 3) (jx (bU fS (qa 2) (qh (nP 1 (jq (qw p0 (qh (zm bM (qa 0) (qa 3)) qz))) (qc 4) m9 (wA (qa 3) (qa 4))) qz))))
 (jd (qa 2))))
def sR(p0:jc)(p1:jc):k6:=(jd (zm vm (zm vm (vh 0 1) (vh 0 2)) (qw p0 (qh (vh 0 0) (qh (qw p1 (kc (qa 0))) qz)))))
def iJ:Option Kn->Y
 |none=>.non
 |some k=>bH k
abbrev cV(ks:List (Option Kn)):List Y:=ks.map iJ
def va:Option Kn->List Nat
 |some (.nd _ i j)=>[i,j]
 |_=>[]
def eQ:jc:=fun ys L Q=>∃k:Option Kn,ys=[iJ k]/\∀p,L p=none->Q (.ref p) (qd L p (.lst (nY (va k))))
theorem xB:∀ys L Q,eQ ys L Q->x0 (rJ w6) 1 ys L Q:=by
 rintro ys L Q ⟨k,rfl,q⟩;cases k with
 |none=>exact fun p hp=>xu (q p hp)
 |some k=>
  cases k with|lf t n=>exact⟨true,t,_,rfl,fun p hp=>xu (q p hp)⟩|nd e i j=>exact⟨false,e,_,rfl,fun p hp=>xu (q p hp)⟩
def aC(f:Option Kn->Bool)(ks:List (Option Kn))(i:Nat):List Nat:=(List.range i).filter fun p=>match ks[p]? with
 |some k=>f k
 |none=>false
theorem aW{f:Option Kn->Bool}{ks:List (Option Kn)}{k:Option Kn}(h:ks[i]?=some k):aC f ks (i+1)=aC f ks i++if f k=true then [i] else []:=by unfold aC;rw[C9,BR];congr 1;rw[B3];simp only[h,Dc]
theorem aJ{f:Option Kn->Bool}{ks:List (Option Kn)}{p:Nat}(h:p∈aC f ks i):p<i/\∃k,ks[p]?=some k/\f k=true:=by
 unfold aC at h;obtain⟨h1,h2⟩:=AZ.mp h;refine⟨AX.mp h1,?_⟩;split at h2
 ·rename_i k e;exact⟨k,e,h2⟩
 ·cases h2
theorem dI(f:Option Kn->Bool)(ks:List (Option Kn))(i:Nat):(aC f ks i).length≤i:=by unfold aC;exact AM (List.length_filter_le _ _) (by rw[A3];simp +arith only)
def sW:Option Kn->Bool
 |some _=>true
 |none=>false
def zo(e:Bool):Option Kn->Bool
 |some (.nd e' _ _)=>decide (e'=e)
 |_=>false
abbrev xw(ks:List (Option Kn)):List Nat:=aC sW ks ks.length
abbrev zy(e:Bool)(ks:List (Option Kn)):List Nat:=aC (zo e) ks ks.length
theorem gb(a b:List Nat):nY (a++b)=nY a++nY b:=by unfold nY;rw[Ar]
theorem bY(h:(nY hs)[i]?=some y):∃n,hs[i]?=some n/\y=.int (n:Int):=by unfold nY at h;rw[Ai] at h;obtain⟨n,e1,e2⟩:=Aj.mp h;exact⟨n,e1,e2.symm⟩
theorem jV{f:Option Kn->Bool}{ks:List (Option Kn)}{keep:qk->Prop}{Q:YK}(hz:ks.length≤1000)(hk:keep L)
 (turn:∀(i:Nat) (k:Option Kn) (R:List Y->qk->Prop) zs,ks[i]?=some k->(f k=true->R (zs++[.int (i:Int)]) L)->(f k=false->R zs L)->g (.tup [.int (i:Nat),iJ k]) (τ++List.replicate 2 none) L fun τ2 L2=>tc τ2 L2 fun b L3=>km b (te τ2 L3 fun z L4=>R (zs++[z]) L4) (R zs L3))
 (hq:∀p,L p=none->Q (.ref p) (qd L p (.lst (nY (aC f ks ks.length))))):lcK (jO (cV ks)) keep 2 g tc te τ L Q:=by
 refine ae (fun i zs=>zs=nY (aC f ks i)) (by rw[aO,Ab];exact AO hz (by decide)) hk rfl ?_ ?_
 ·rintro i y zs ey rfl;obtain⟨z,ez,rfl⟩:=ak ey;rw[Ai] at ez;obtain⟨k,ek,rfl⟩:=Aj.mp ez;refine turn i k _ _ ek (fun h=>⟨L,DA _,rfl,?_⟩) (fun h=>⟨L,DA _,rfl,?_⟩)
  ·rw[aW ek,AC h,gb];rfl
  ·rw[aW ek,AB (by rw[h];exact Ap),A0]
 ·rintro zs rfl;rw[aO,Ab];exact hq
def fP:jc:=fun ys L Q=>∃a,∃ks:List (Option Kn),ys=[.ref a]/\L a=some (.lst (cV ks))/\ks.length≤1000/\∀p,L p=none->Q (.ref p) (qd L p (.lst (nY (xw ks))))
theorem xV:∀ys L Q,fP ys L Q->x0 im 1 ys L Q:=by
 rintro ys L Q ⟨a,ks,rfl,ha,hz,q⟩;refine jk ha fun keep kp=>jV (f:=sW) hz (kp L rfl) (fun i k R zs ek h1 h2=>?_) fun p hp=>xu (q p hp);cases k with
 |none=>exact h2 rfl
 |some k=>cases k<;>exact h1 rfl
abbrev dR(a l c:Addr):Y:=.tup [.ref a,.ref l,.ref c]
def ee:jc:=fun ys L Q=>∃a l c,∃ks:List (Option Kn),ys=[dR a l c]/\L a=some (.lst (cV ks))/\ks.length≤1000/\∀p,L p=none->Q (.ref p) (qd L p (.lst (nY (zy true ks))))
theorem xU:∀ys L Q,ee ys L Q->x0 oS 1 ys L Q:=by
 rintro ys L Q ⟨a,l,c,ks,rfl,ha,hz,q⟩;refine jk ha fun keep kp=>jV (f:=zo true) hz (kp L rfl) (fun i k R zs ek h1 h2=>?_) fun p hp=>xu (q p hp);cases k with
 |none=>exact h2 rfl
 |some k=>
  cases k with
  |lf t n=>cases t<;>exact h2 rfl
  |nd e i j=>
   cases e with|true=>exact h1 rfl|false=>exact h2 rfl
def ik:jc:=fun ys L Q=>∃a l c,∃ks:List (Option Kn),ys=[dR a l c]/\L a=some (.lst (cV ks))/\ks.length≤1000/\∀p,L p=none->Q (.ref p) (qd L p (.lst (nY (zy false ks))))
theorem ae8(f g:Option Kn->Bool)(ks:List (Option Kn))(i:Nat):((aC f ks i).filter fun p=>match ks[p]? with | some k=>g k | none=>false)=aC (fun k=>f k&&g k) ks i:=by unfold aC;rw[List.filter_filter];refine List.filter_congr fun p _=>?_;cases ks[p]? with|none=>rfl|some k=>exact Bool.and_comm _ _
theorem rq(e:Bool)(ks:List (Option Kn))(i:Nat):aC (fun k=>sW k&&zo e k) ks i=aC (zo e) ks i:=by unfold aC;refine List.filter_congr fun p _=>?_;cases ks[p]? with|none=>rfl|some k=>cases k<;>rfl
theorem xC:∀ys L Q,ik ys L Q->x0 (rR fP) 1 ys L Q:=by
 rintro ys L Q ⟨a,l,c,ks,rfl,ha,hz,q⟩;refine⟨a,ks,rfl,ha,hz,fun p hp=>?_⟩;have ha1:=By (o:=.lst (nY (xw ks))) hp _ _ ha;refine jk q8 fun keep kp=>ae (fun i zs=>zs=nY (((xw ks).take i).filter fun p=>match ks[p]? with | some k=>zo false k | none=>false)) (by rw[vk];exact AO (AM (dI _ _ _) hz) (by decide)) (kp _ rfl) rfl ?_ ?_
 ·rintro i y zs ey rfl;obtain⟨n,en,rfl⟩:=bY ey;obtain⟨hn,k,ek,hk⟩:=aJ (Ay en);have et:(xw ks).take (i+1)=(xw ks).take i++[n]:=by rw[AN,en];rfl
  have a1:bW (cV ks) (n:Int)=some (iJ k):=xr (by rw[Ai,ek];rfl);refine qe ha1 (qm a1 ?_);cases k with
  |none=>cases hk
  |some k=>
   cases k with
   |lf t nm=>
    have z:bV (fun zs L'=>L'=qd L p (.lst (nY (xw ks)))/\zs=nY (((xw ks).take (i+1)).filter fun p=>match ks[p]? with | some k=>zo false k | none=>false)) (nY (((xw ks).take i).filter fun p=>match ks[p]? with | some k=>zo false k | none=>false)) (qd L p (.lst (nY (xw ks)))):=by refine⟨_,DA _,rfl,?_⟩;rw[et,BR,B3];simp[ek,zo]
    cases t<;>exact z
   |nd e i' j'=>
    cases e with
    |true=>
     refine⟨_,DA _,rfl,?_⟩;rw[et,BR,B3];simp[ek,zo]
    |false=>
     refine⟨_,DA _,rfl,?_⟩;rw[et,BR,B3];simp[ek,zo,nY]
 ·rintro zs rfl p2 hp2;rw[vk,AF,ae8,rq];have hp3:L p2=none:=xb (By hp) hp2;refine ce (L:=qd L p2 (.lst (nY (zy false ks)))) ?_ (q p2 hp3);exact qg.put ((By (o:=.lst (nY (xw ks))) hp).upd hp3) q8
theorem an6(a b:Nat):min (a:Int) (b:Int)=((min a b:Nat):Int):=by omega
theorem ao1(a b:Nat):max (a:Int) (b:Int)=((max a b:Nat):Int):=by omega
def prN(p:Nat×Nat):Y:=.tup [.int ((p.1:Nat):Int),.int ((p.2:Nat):Int)]
abbrev zf(l:List (Nat×Nat)):List Y:=l.map prN
def jg(ks:List (Option Kn))(pl:List Nat):List (Nat×Nat):=pl.flatMap fun p=>match ks[p]? with
 |some k=>(va k).map fun q=>(p,q)
 |none=>[]
theorem gI(ks:List (Option Kn))(a b:List Nat):jg ks (a++b)=jg ks a++jg ks b:=by unfold jg;rw[AV]
theorem gC{ks:List (Option Kn)}{p:Nat}{k:Option Kn}(h:ks[p]?=some k):jg ks [p]=(va k).map fun q=>(p,q):=by unfold jg;simp[h]
theorem gJ(k:Option Kn):(va k).length≤2:=by unfold va;split<;>simp
theorem cg(ks:List (Option Kn)):∀pl:List Nat,(jg ks pl).length≤2*pl.length
 |[]=>by simp[jg]
 |p::r=>by
  have ih:=cg ks r;have e:=gI ks [p] r;rw[Co] at e;rw[e,Aa,AE];cases h:ks[p]? with
  |none=>
   have:jg ks [p]=[]:=by unfold jg;simp[h]
   rw[this];simp;lia
  |some k=>
   rw[gC h,Ab];have:=gJ k;lia
def fi:jc:=fun ys L Q=>∃a b,∃ks:List (Option Kn),∃pl:List Nat,ys=[.ref a,.ref b]/\L a=some (.lst (cV ks))/\L b=some (.lst (nY pl))/\pl.length≤1000/\(∀p∈pl,p<ks.length)/\∀p,L p=none->Q (.ref p) (qd L p (.lst (zf (jg ks pl))))
theorem u0:∀ys L Q,fi ys L Q->x0 (ml eQ) 4 ys L Q:=by
 rintro ys L Q ⟨a,b,ks,pl,rfl,ha,hb,hz,hlt,q⟩;intro p hp;have hap:a≠p:=k8 ha hp;have hbp:b≠p:=k8 hb hp;refine kf (ys:=nY pl) (zd ((qb hbp).trans hb)) (fun i τ L'=>∃c,τ=[some (.ref a),some (.ref b),some (.ref p),c]/\L'=qd L p (.lst (zf (jg ks (pl.take i))))) ⟨_,rfl,rfl⟩ ?_ ?_ ?_
 ·rintro i τ L' ⟨c,rfl,rfl⟩;rw[qb hbp,qb hbp]
 ·rintro i y τ L' hy ⟨c,rfl,rfl⟩;obtain⟨n,en,rfl⟩:=bY hy;have hn:=hlt n (Ay en);obtain⟨k,ek⟩:∃k,ks[n]?=some k:=⟨_,Ak hn⟩;have a1:bW (cV ks) (n:Int)=some (iJ k):=xr (by rw[Ai,ek];rfl);have et:pl.take (i+1)=pl.take i++[n]:=by rw[AN,en];rfl
  refine qe q8 (qe ((qb hap).trans ha) (qm a1 ⟨k,rfl,fun p2 hp2=>?_⟩));refine jk q8 fun keep kp=>ae (fun j zs=>zs=zf (((va k).take j).map fun q=>(n,q))) (by rw[vk];exact AO (gJ k) (by decide)) (kp _ rfl) rfl ?_ ?_
  ·rintro j y zs ey rfl;obtain⟨m,em,rfl⟩:=bY ey;refine⟨_,DA _,rfl,?_⟩;rw[AN,em,Ar];unfold zf;rw[Ar];rfl
  ·rintro zs rfl p3 hp3;rw[vk,AF];have hp32:p≠p3:=k8 ((qb (k8 q8 hp2)).trans q8) hp3;refine qu ((qb hp32).trans ((qb (k8 q8 hp2)).trans q8)) (qu q8 ⟨?_,?_⟩)
   ·rw[Ab,Ab,Ab];have h1:=cg ks (pl.take i);have h2:=gJ k;have h3:(pl.take i).length≤1000:=by rw[AS];lia
    have hb:(3000:Nat)≤sizeLine:=by decide
    lia
   ·refine⟨qd L p (.lst (zf (jg ks (pl.take (i+1))))),?_,_,rfl,rfl⟩;have e:zf (jg ks (pl.take i))++zf ((va k).map fun q=>(n,q))=zf (jg ks (pl.take (i+1))):=by rw[et,gI,gC ek];unfold zf;rw[Ar]
    rw[e];have n2:L p2=none:=xb (By hp) hp2;have n3:L p3=none:=xb ((By hp).trans (By hp2)) hp3;exact qg.put ((((By hp).trans (By hp2)).trans (By hp3)).upd hp) q8
 ·rintro τ L' ⟨c,rfl,rfl⟩;rw[vk,AF];exact xu (q p hp)
def jp(ks:List (Option Kn))(lk ct:List (Nat×Nat)):List (Nat×Nat):=(lk++ct)++jg ks (zy false ks)
def fB:jc:=fun ys L Q=>∃a l c,∃ks:List (Option Kn),∃lk ct:List (Nat×Nat),ys=[dR a l c]/\L a=some (.lst (cV ks))/\L l=some (.lst (zf lk))/\L c=some (.lst (zf ct))/\ks.length≤1000/\lk.length≤1000/\ct.length≤1000/\∀p,L p=none->Q (.ref p) (qd L p (.lst (zf (jp ks lk ct))))
theorem aad:∀ys L Q,fB ys L Q->x0 (sR fi ik) 1 ys L Q:=by
 rintro ys L Q ⟨a,l,c,ks,lk,ct,rfl,ha,hl,hc,hz,hz1,hz2,q⟩;have hb:(10000:Nat)<sizeLine:=by decide
 refine⟨_,_,hl,hc,by rw[Ab,Ab];lia,fun p1 hp1=>?_⟩;have ha1:=By (o:=.lst (zf lk++zf ct)) hp1 _ _ ha;refine⟨a,l,c,ks,rfl,ha1,hz,fun p2 hp2=>?_⟩;have ha2:=By (o:=.lst (nY (zy false ks))) hp2 _ _ ha1;refine⟨a,p2,ks,zy false ks,rfl,ha2,q8,AM (dI _ _ _) hz,fun p hp=>(aJ hp).1,fun p3 hp3=>?_⟩;have e1:=By (o:=.lst (zf (jg ks (zy false ks)))) hp3 _ _ (By (o:=.lst (nY (zy false ks))) hp2 _ _ (q8 (L:=L) (a:=p1) (o:=.lst (zf lk++zf ct))));refine⟨_,_,e1,q8,?_,fun p4 hp4=>?_⟩
 ·have:=cg ks (zy false ks);have:(zy false ks).length≤ks.length:=dI (zo false) ks ks.length;rw[Aa,Ab,Ab,Ab];lia
 ·have n1:qg L (qd (qd (qd L p1 (.lst (zf lk++zf ct))) p2 (.lst (nY (zy false ks)))) p3 (.lst (zf (jg ks (zy false ks))))):=((By hp1).trans (By hp2)).trans (By hp3);have n4:L p4=none:=xb n1 hp4;refine ce (L:=qd L p4 (.lst (zf (jp ks lk ct)))) ?_ (q p4 n4);have e:zf lk++zf ct++zf (jg ks (zy false ks))=zf (jp ks lk ct):=by unfold zf jp;rw[Ar,Ar]
  rw[e];exact qg.put (n1.upd n4) q8
def nM(Ca:Addr)(p0:jc):k6:=(qo (z8 (xz qz) (qc 2))
 (qo (a7 (jq (qa 1)) (wx 2 (zu (qc 3) (zu (qc 4) ky))) (vg (yB (gp Ca "unite" p0 (qa 0) (bO (qa 3) (qa 4)))) (jx (bU zw (qa 2) (qh (aX (qh (f8 "join") (bO (qa 3) (qa 4)))) qz))) jw))
 (jd (qa 2))))
def sd(Ca:Addr)(p0:jc)(p1:jc):k6:=(qo (z8 (nP 1 (jq (qw p0 (qh (zm bM (qa 1) (qa 2)) qz))) (qc 4) m9 (gp Ca "head_of" p1 (qa 0) (kc (qa 4)))) (qc 3))
 (jd (qK (zm (rC false) (vh 3 0) (vh 3 1)) (zm (rC true) (vh 3 0) (gp Ca "head_of" p1 (qa 0) (kc (qa 2)))))))
def my(Ca:Addr)(p0:jc)(p1:jc):k6:=(qo (z8 (xz qz) (qc 3))
 (qo (z8 (yUn aku (jt 1)) (qc 4))
 (qo (oR (yB (zm yLt (qa 4) (dZ 3))) (qo (z8 (dZ 3) (qc 4))
 (a7 (jq (qa 2)) (qc 5) (vg (yB (qw p0 (qh (qa 0) (bO (qa 1) (qa 5))))) (qo (jx (gp Ca "unite" p1 (qa 0) (qh (qa 5) (qh (zm bM (zm bM (qa 1) (qa 5)) (jt 1)) qz))))
 (jx (bU zw (qa 3) (qh (wA (f8 "fold") (qa 5)) qz)))) jw))))
 (jd (qa 3)))))
def si(Ca:Addr)(p0:jc)(p1:jc)(p2:jc):k6:=(qo (z8 (aak Ca p0 (kc (dZ 0))) (qc 3))
 (jd (zm vm (qw p1 (bO (qa 3) (qa 1))) (qw p2 (qh (qa 3) (bO (qa 0) (qa 2)))))))
def dO(p0:jc)(p1:jc):k6:=(qo (z8 (zm pY (lK eK (qh (qw p0 (kc (qa 0))) qz)) (jt 1)) (qc 3))
 (jd (qK (zm (rC false) (zm vm (dZ 1) (dZ 2)) (qa 3)) (zm (rC false) (lK eK (qh (qw p1 (qh (qa 0) (bO (qa 1) (qa 2)))) qz)) (qa 3)))))
def pW(p0:jc)(p1:jc)(p2:jc):k6:=(jd (qw p0 (qh (vh 0 0) (qh (qw p2 (kc (qa 0))) (qh (qw p1 (kc (qa 0))) qz)))))
def qN(p0:jc)(p1:jc)(p2:jc)(p3:jc):k6:=(qo (vg (yB (qw p0 (kc (qa 0)))) (jd (yC .non)) jw)
 (qo (z8 (vh 0 0) (qc 1))
 (qo (z8 (qw p1 (kc (qa 0))) (qc 2))
 (qo (z8 (qw p2 (kc (qa 0))) (qc 3))
 (qo (z8 (xz qz) (qc 4))
 (qo (a7 (bL (qa 3)) (wx 2 (zu (qc 5) (zu (qc 6) ky))) (qo (z8 (aX (qh (qa 6) (qh (zm bM (zm bM (qa 1) (qa 6)) (jt 1)) qz))) (qc 7))
 (qo (z8 (yIf (yB (qw p3 (qh (qa 1) (qh (zm vm (qa 2) (xz (kc (qa 7)))) (qh (ySl ug (qa 3) (iw (zm vm (qa 5) (jt 1))) fI) qz))))) (jt 1) (jt 0)) (qc 8))
 (qo (jx (bU zw (qa 4) (kc (qa 8))))
 (jx (bU zw (qa 2) (qh (aX (qh (qa 6) (qh (zm bM (zm bM (qa 1) (qa 6)) (zm vm (jt 1) (qa 8))) qz))) qz)))))))
 (jd (qa 4))))))))
def uf(hs:List Nat)(a b:Nat):Prop:=∃r,kj hs a r/\kj hs b r
def Mon(hs hs':List Nat):Prop:=∀a b,uf hs a b->uf hs' a b
theorem Mon.trans{a b c:List Nat}(h:Mon a b)(k:Mon b c):Mon a c:=fun x y z=>k x y (h x y z)
theorem kK(h:∀x s,kj hs x s->kj hs' x s):Mon hs hs':=fun _ _ ⟨r,p,q⟩=>⟨r,h _ _ p,h _ _ q⟩
theorem lH{a b:Nat}(h:∀i s,kj hs i s->kj hs' i (if s=a then b else s)):Mon hs hs':=fun _ _ ⟨_,p,q⟩=>⟨_,h _ _ p,h _ _ q⟩
theorem zI{a b p:Nat}(h:∀i s,kj hs i s->kj hs' i (if s=a then b else s))(ta:kj hs p a)(tb:kj hs q b):uf hs' p q:=by
 have h1:=h _ _ ta;have h2:=h _ _ tb;rw[AC rfl] at h1;refine⟨b,h1,?_⟩;by_cases c:b=a
 ·rw[AC c] at h2;exact h2
 ·rw[AB c] at h2;exact h2
theorem qJ{a b ra rb:Nat}(h:∀x s,kj hs x s->kj hs' x s)(ta:kj hs a ra)(tb:kj hs b rb):uf hs' a b->uf hs a b:=fun⟨r,p,q⟩=>by have e1:=(h _ _ ta).uniq p;have e2:=(h _ _ tb).uniq q;exact⟨r,e1▸ta,e2▸tb⟩
def ace(ks:List (Option Kn))(hs es:List Nat):Prop:=∀p∈es,∀e i j,ks[p]?=some (some (.nd e i j))->uf hs i j->uf hs p i
structure Eqv(R:Nat->Nat->Prop):Prop where
 r:∀a,R a a
 s:∀{a b},R a b->R b a
 t:∀{a b c},R a b->R b c->R a c
def oG(R:Nat->Nat->Prop)(hs:List Nat):Prop:=∀a b,uf hs a b->R a b
theorem kj.lt{r:Nat}(h:kj hs i r):i<hs.length:=by cases h with|root e=>exact qx e|step e _ _=>exact qx e
theorem mY{R:Nat->Nat->Prop}(hr:eY rk hs)(hl:hs'.length=hs.length)(h:∀x s,kj hs x s->kj hs' x s)(F:oG R hs):oG R hs':=fun x y ⟨r,p,q⟩=>by obtain⟨rx,tx⟩:=hr.rep' (i:=x) (by have:=p.lt;lia);obtain⟨ry,ty⟩:=hr.rep' (i:=y) (by have:=q.lt;lia);exact F x y (qJ h tx ty ⟨r,p,q⟩)
theorem mB{R:Nat->Nat->Prop}{a b p:Nat}(hr:eY rk hs)(hl:hs'.length=hs.length)(h:∀i s,kj hs i s->kj hs' i (if s=a then b else s))(ta:kj hs p a)(tb:kj hs q b)(E:Eqv R)(hpq:R p q)(F:oG R hs):oG R hs':=fun x y ⟨r,px,qy⟩=>by
 obtain⟨rx,tx⟩:=hr.rep' (i:=x) (by have:=px.lt;lia);obtain⟨ry,ty⟩:=hr.rep' (i:=y) (by have:=qy.lt;lia);have e:=((h _ _ tx).uniq px).trans ((h _ _ ty).uniq qy).symm;have xp:rx=a->R x p:=fun z=>F x p ⟨a,z▸tx,ta⟩;have yp:ry=a->R y p:=fun z=>F y p ⟨a,z▸ty,ta⟩;by_cases c:rx=a
 ·by_cases d:ry=a
  ·exact E.t (xp c) (E.s (yp d))
  ·rw[AC c,AB d] at e;exact E.t (E.t (xp c) hpq) (F q y ⟨b,tb,e▸ty⟩)
 ·by_cases d:ry=a
  ·rw[AB c,AC d] at e;exact E.t (F x q ⟨b,e▸tx,tb⟩) (E.s (E.t (yp d) hpq))
  ·rw[AB c,AB d] at e;exact F x y ⟨rx,tx,e▸ty⟩
theorem sN{R:Nat->Nat->Prop}(E:Eqv R)(n:Nat):oG R (List.range n):=fun x y ⟨r,p,q⟩=>by have h:∀{i r:Nat},kj (List.range n) i r->r=i:=fun {i r} t=>t.of_top (BB (by have:=t.lt;rwa[A3] at this));have e1:=h p;have e2:=h q;subst e1;rw[e2];exact E.r _
def JnR(hs hs':List Nat)(ps:List (Nat×Nat)):Prop:=Mon hs hs'/\(∀x∈ps,uf hs' x.1 x.2)/\∀R,Eqv R->(∀x∈ps,R x.1 x.2)->oG R hs->oG R hs'
def FoC(ks:List (Option Kn))(es:List Nat)(R:Nat->Nat->Prop):Prop:=∀p∈es,∀e i j,ks[p]?=some (some (.nd e i j))->R i j->R p i
def FoR(ks:List (Option Kn))(hs hs' es:List Nat):Prop:=Mon hs hs'/\∀R,Eqv R->FoC ks es R->oG R hs->oG R hs'
theorem JnR.snoc{hs2:List Nat}{ps:List (Nat×Nat)}{a b p:Nat}(j:JnR hs hs' ps)(hr:eY rk hs')(hl:hs2.length=hs'.length)(h:∀i s,kj hs' i s->kj hs2 i (if s=a then b else s))(ta:kj hs' p a)(tb:kj hs' q b):JnR hs hs2 (ps++[(p,q)]):=by
 refine⟨j.1.trans (lH h),fun x hx=>?_,fun R E c F=>mB hr hl h ta tb E (c (p,q) (Ag _ (Af.mpr rfl))) (j.2.2 R E (fun x hx=>c x (Ao _ hx)) F)⟩;rcases Ah.mp hx with hx | hx
 ·exact lH h _ _ (j.2.1 x hx)
 ·rw[Af.mp hx];exact zI h ta tb
def Gd(hs hs':List Nat):Prop:=hs'.length=hs.length/\∃rk,eY rk hs'
theorem ag6:(100000:Nat)≤sizeLine:=by decide
def fc(C:Addr):jc:=fun ys L Q=>∃o hp j,∃hs:List Nat,∃ps:List (Nat×Nat),ys=[.ref o,.ref j]/\L o=some (.ins C (kJ hp))/\L hp=some (.lst (nY hs))/\L j=some (.lst (zf ps))/\j≠hp/\(∃rk,eY rk hs)/\(∀x∈ps,x.1<hs.length/\x.2<hs.length)/\ps.length≤10000/\
 ∀s zs hs',L s=none->Gd hs hs'->zs.length≤ps.length->zs.length+bR hs'=bR hs->JnR hs hs' ps->Q (.ref s) (qd (qd L hp (.lst (nY hs'))) s (.lst zs))
theorem u6 :∀ys L Q,fc C ys L Q->x0 (nM C (fC C)) 5 ys L Q:=by
 rintro ys L Q ⟨o,hp,j,hs,ps,rfl,ho,hhp,hj,hjp,hrk,hlt,hz,q⟩;intro s hs0;have hop:o≠hp:=yx ho hhp (fun e=>by cases e);have hos:o≠s:=k8 ho hs0;have hps:hp≠s:=k8 hhp hs0;have hjs:j≠s:=k8 hj hs0;have fo:∀A Z,(qd (qd L hp A) s Z) o=some (.ins C (kJ hp)):=fun A Z=>(qb hos).trans ((qb hop).trans ho);have fh:∀A Z,(qd (qd L hp A) s Z) hp=some A:=fun A Z=>(qb hps).trans q8;have fj:∀A Z,(qd (qd L hp A) s Z) j=some (.lst (zf ps)):=fun A Z=>(qb hjs).trans ((qb hjp).trans hj);have e0:qd L s (.lst [])=qd (qd L hp (.lst (nY hs))) s (.lst []):=by rw[aq hhp]
 refine kf (ys:=zf ps) (zd ((qb hjs).trans hj)) (fun i τ L'=>∃hs' zs c3 c4,τ=[some (.ref o),some (.ref j),some (.ref s),c3,c4]/\L'=qd (qd L hp (.lst (nY hs'))) s (.lst zs)/\Gd hs hs'/\zs.length≤i/\zs.length+bR hs'=bR hs/\JnR hs hs' (ps.take i)) ⟨hs,[],_,_,rfl,e0,⟨rfl,hrk⟩,Am _,BF _,fun _ _ z=>z,(fun x hx=>by cases hx),fun _ _ _ F=>F⟩ ?_ ?_ ?_
 ·rintro i τ L' ⟨hs',zs,c3,c4,rfl,rfl,_⟩;rw[fj,qb hjs,hj]
 ·rintro i y τ L' hy ⟨hs',zs,c3,c4,rfl,rfl,⟨g1,rk,g2⟩,hzi,hrt,jn⟩;rw[Ai] at hy;obtain⟨⟨p,q'⟩,ex,rfl⟩:=Aj.mp hy;obtain⟨h1,h2⟩:=hlt _ (Ay ex);have h1:p<hs.length:=h1;have h2:q'<hs.length:=h2;have hi:=qx ex;obtain⟨a,ta⟩:=g2.rep' (i:=p) (by lia);obtain⟨b,tb⟩:=g2.rep' (i:=q') (by lia);refine vp (fo _ _) ⟨rfl,iy,o,hp,hs',p,q',a,b,_,_,rfl,rfl,rfl,fo _ _,fh _ _,⟨rk,g2⟩,ta,tb,by lia,by lia,fun hs2 l2 k2 r2 e1 e2=>?_⟩;rw[ay (AR hps),zg];have nw:JnR hs hs2 (ps.take (i+1)):=by
   have et:ps.take (i+1)=ps.take i++[(p,q')]:=by rw[AN,ex];rfl
   rw[et];exact jn.snoc g2 l2 r2 ta tb
  by_cases c:a=b
  ·refine kh (by rw[Aw c];rfl) ⟨_,DA _,hs2,zs,_,_,rfl,rfl,⟨by lia,k2⟩,by exact yh,by rw[e1 c];exact hrt,nw⟩
  ·refine cD (by rw[As c];rfl) ?_;have:=e2 c;refine qe q8 (qu q8 ⟨AO (by lia:zs.length≤10000) (by decide),_,DA _,hs2,zs++[_],_,_,rfl,zg,⟨by lia,k2⟩,?_,?_,nw⟩)
   ·rw[Aa,AI];exact nN
   ·rw[Aa,AI];lia
 ·rintro τ L' ⟨hs',zs,c3,c4,rfl,rfl,g,hzi,hrt,jn⟩;rw[Ab] at hzi jn;rw[AF] at jn;exact xu (q s zs hs' hs0 g hzi hrt jn)
def jU(C:Addr):jc:=fun ys L Q=>∃o hp a,∃hs:List Nat,∃ks:List (Option Kn),∃p i j:Nat,∃e:Bool,∃pi:Int,ys=[.ref o,.ref a,.int pi]/\pi=(p:Int)/\L o=some (.ins C (kJ hp))/\L hp=some (.lst (nY hs))/\L a=some (.lst (cV ks))/\a≠hp/\(∃rk,eY rk hs)/\
 ks[p]?=some (some (.nd e i j))/\p<hs.length/\i<hs.length/\j<hs.length/\
 ∀ri rj rp hs',kj hs i ri->kj hs j rj->kj hs p rp->Gd hs hs'->(∀x s,kj hs x s->kj hs' x s)->bR hs'=bR hs->Q (.bl (decide (ri=rj)&&!decide (ri=rp))) (qd L hp (.lst (nY hs')))
theorem iU(a b:Nat):decide ((a:Int)=(b:Int))=decide (a=b):=by
 by_cases c:a=b
 ·rw[Aw c];exact Aw (by lia)
 ·rw[As c];exact As (by lia)
theorem zN :∀ys L Q,jU C ys L Q->x0 (sd C eQ (i8 C)) 4 ys L Q:=by
 rintro ys L Q ⟨o,hp,a,hs,ks,p,i,j,e,pi,rfl,rfl,ho,hhp,ha,hap,⟨rk,hr⟩,ek,hp1,hi1,hj1,q⟩;have a1:bW (cV ks) (p:Int)=some (iJ (some (.nd e i j))):=xr (by rw[Ai,ek];rfl);obtain⟨ri,ti⟩:=hr.rep' hi1;obtain⟨rj,tj⟩:=hr.rep' hj1;obtain⟨rp,tp⟩:=hr.rep' hp1;refine qe ha (qm a1 ⟨some (.nd e i j),rfl,fun p2 hp2=>?_⟩);have hop:o≠hp:=yx ho hhp (fun e=>by cases e);have ho2:o≠p2:=k8 ho hp2;have hh2:hp≠p2:=k8 hhp hp2;have fo:∀A Z,(qd (qd L p2 Z) hp A) o=some (.ins C (kJ hp)):=fun A Z=>(qb hop).trans ((qb ho2).trans ho);refine jk q8 fun keep kp=>ss ⟨by show 2<sizeLine;decide,fun k zs L'=>∃hs',L'=qd (qd L p2 (.lst (nY [i,j]))) hp (.lst (nY hs'))/\hs'.length=hs.length/\eY rk hs'/\(∀x s,kj hs x s->kj hs' x s)/\bR hs'=bR hs/\zs=nY ([ri,rj].take k),⟨hs,?_,rfl,hr,fun _ _ h=>h,rfl,rfl⟩,?_,?_,?_⟩
 ·exact(aq ((qb hh2).trans hhp)).symm
 ·rintro k zs L' ⟨hs',rfl,_⟩;exact kp _ (by rw[qb (AR hh2)];rfl)
 ·rintro k y zs L' hy ⟨hs',rfl,l1,k1,t1,n1,rfl⟩;obtain⟨n,en,rfl⟩:=bY hy;have hn:n<hs.length/\∃rn,kj hs n rn/\nY ([ri,rj].take k)++[.int (rn:Int)]=nY ([ri,rj].take (k+1)):=by
   match k,en with
   |0,en=>cases en;exact⟨hi1,ri,ti,rfl⟩
   |1,en=>cases en;exact⟨hj1,rj,tj,rfl⟩
  obtain⟨hn,rn,tn,ezs⟩:=hn;refine vp (fo _ _) ⟨rfl,dJ,o,hp,hs',n,_,rk,rfl,rfl,fo _ _,q8,k1,by lia,fun r hs2 l2 k2 t2 a2 n2=>?_⟩;cases t2.uniq (t1 _ _ tn);exact⟨_,DA _,hs2,zg,by lia,k2,fun x s z=>a2 x s (t1 x s z),by lia,ezs⟩
 ·rintro zs L' ⟨hs',rfl,l1,k1,t1,n1,rfl⟩ p3 hp3;have hp3':L p3=none:=xb (By hp2) (vi hp3);have ne3:hp≠p3:=k8 q8 hp3;have f0:bW (nY ([ri,rj].take (nY (va (some (Kn.nd e i j)))).length)) 0=some (.int (ri:Int)):=rfl;have f1:bW (nY ([ri,rj].take (nY (va (some (Kn.nd e i j)))).length)) 1=some (.int (rj:Int)):=rfl;refine qe q8 (qm f0 (qe q8 (qm f1 ?_)));have fo3:∀Z,(qd (qd (qd L p2 (.lst (nY [i,j]))) hp (.lst (nY hs'))) p3 Z) o=some (.ins C (kJ hp)):=fun Z=>(qb (k8 (fo _ _) hp3)).trans (fo _ _);have sub:∀(hs2:List Nat) Z,qg (qd L hp (.lst (nY hs2))) (qd (qd (qd (qd L p2 (.lst (nY [i,j]))) hp (.lst (nY hs'))) p3 Z) hp (.lst (nY hs2))):=fun hs2 Z b u e=>by
   by_cases c:b=hp
   ·subst c;rw[q8] at e ⊢;exact e
   ·rw[qb c] at e;rw[qb c,qb (k8 e hp3'),qb c,qb (k8 e hp2)];exact e
  show km (decide ((ri:Int)=(rj:Int))) _ _;rw[iU];refine xm (fun c=>?_) (fun c=>?_)
  ·refine qe q8 (qm f0 ?_);refine vp (fo3 _) ⟨rfl,dJ,o,hp,hs',p,_,rk,rfl,rfl,fo3 _,(qb ne3).trans q8,k1,by lia,fun r hs2 l2 k2 t2 a2 n2=>?_⟩;cases t2.uniq (t1 _ _ tp);show gD Q (.bl (!decide ((ri:Int)=(rp:Int)))) _;rw[iU];have:=q ri rj rp hs2 ti tj tp ⟨by lia,rk,k2⟩ (fun x s z=>a2 x s (t1 x s z)) (by lia);rw[Aw c,Df] at this;exact ce (sub hs2 _) this
  ·have:=q ri rj rp hs' ti tj tp ⟨by lia,rk,k1⟩ t1 n1;rw[As c,Bool.false_and] at this;refine ce (L:=qd L hp (.lst (nY hs'))) (fun b u eb=>?_) this;have z:=sub hs' (.lst (nY ([ri,rj].take (nY (va (some (Kn.nd e i j)))).length))) b u;have e2:qd (qd (qd (qd L p2 (.lst (nY [i,j]))) hp (.lst (nY hs'))) p3 (.lst (nY ([ri,rj].take (nY (va (some (Kn.nd e i j)))).length)))) hp (.lst (nY hs'))=qd (qd (qd L p2 (.lst (nY [i,j]))) hp (.lst (nY hs'))) p3 (.lst (nY ([ri,rj].take (nY (va (some (Kn.nd e i j)))).length))):=aq ((qb ne3).trans q8);rw[e2] at z;exact z eb
def aba(ks:List (Option Kn))(n p:Nat):Prop:=∃e i j,ks[p]?=some (some (.nd e i j))/\p<n/\i<n/\j<n
def gT(C:Addr):jc:=fun ys L Q=>∃o hp a b,∃hs:List Nat,∃ks:List (Option Kn),∃es:List Nat,ys=[.ref o,.ref a,.ref b]/\L o=some (.ins C (kJ hp))/\L hp=some (.lst (nY hs))/\L a=some (.lst (cV ks))/\L b=some (.lst (nY es))/\a≠hp/\b≠hp/\(∃rk,eY rk hs)/\(∀p∈es,aba ks hs.length p)/\hs.length≤1000/\
 ∀s zs hs',L s=none->Gd hs hs'->zs.length+bR hs'=bR hs->(FoR ks hs hs' es/\ace ks hs' es)->Q (.ref s) (qd (qd L hp (.lst (nY hs'))) s (.lst zs))
theorem aa0(hs:List Nat):bR hs≤hs.length:=by unfold bR;exact AM (Cp) (by rw[A3];simp +arith only)
theorem vR :∀ys L Q,gT C ys L Q->x0 (my C (jU C) (fC C)) 6 ys L Q:=by
 rintro ys L Q ⟨o,hp,a,b,hs,ks,es,rfl,ho,hhp,ha,hb,hap,hbp,hrk,hes,hlen,q⟩;intro s hs0;have hop:o≠hp:=yx ho hhp (fun e=>by cases e);have hos:o≠s:=k8 ho hs0;have hps:hp≠s:=k8 hhp hs0;have fo:∀A Z,(qd (qd L hp A) s Z) o=some (.ins C (kJ hp)):=fun A Z=>(qb hos).trans ((qb hop).trans ho);have fh:∀A Z,(qd (qd L hp A) s Z) hp=some A:=fun A Z=>(qb hps).trans q8;have fa:∀A Z,(qd (qd L hp A) s Z) a=some (.lst (cV ks)):=fun A Z=>(qb (k8 ha hs0)).trans ((qb hap).trans ha);have fb:∀A Z,(qd (qd L hp A) s Z) b=some (.lst (nY es)):=fun A Z=>(qb (k8 hb hs0)).trans ((qb hbp).trans hb);have e0:qd L s (.lst [])=qd (qd L hp (.lst (nY hs))) s (.lst []):=by rw[aq hhp]
 refine⟨fun m τ L'=>∃hs' zs,∃bf:Int,∃c5,τ=[some (.ref o),some (.ref a),some (.ref b),some (.ref s),some (.int bf),c5]/\L'=qd (qd L hp (.lst (nY hs'))) s (.lst zs)/\Gd hs hs'/\zs.length+bR hs'=bR hs/\(FoR ks hs hs' es/\(bf<(zs.length:Int)\/ace ks hs' es))/\m=2*bR hs'+(if bf<(zs.length:Int) then 1 else 0),⟨_,hs,[],-1,_,rfl,e0,⟨rfl,hrk⟩,BF _,⟨⟨fun _ _ z=>z,fun _ _ _ F=>F⟩,.inl (by decide)⟩,rfl⟩,?_⟩;rintro m τ L' ⟨hs',zs,bf,c5,rfl,rfl,g,hrt,⟨mo,sh⟩,rfl⟩;refine qe q8 ?_;show km (decide (bf<(zs.length:Int))) _ _;refine xm (fun c=>?_) (fun c=>xu (q s zs hs' hs0 g hrt ⟨mo,sh.resolve_left c⟩));refine⟨_,fun _ _ h=>h,qe q8 ?_⟩;refine kf (ys:=nY es) (zd (fb _ _)) (fun i τ L'=>∃hs2 zs2 c5,τ=[some (.ref o),some (.ref a),some (.ref b),some (.ref s),some (.int (zs.length:Int)),c5]/\L'=qd (qd L hp (.lst (nY hs2))) s (.lst zs2)/\Gd hs hs2/\zs2.length+bR hs2=bR hs/\zs.length≤zs2.length/\(FoR ks hs hs2 es/\(zs.length<zs2.length\/ace ks hs2 (es.take i)))) ⟨hs',zs,_,rfl,rfl,g,hrt,Am _,mo,.inr fun p hp=>by cases hp⟩ ?_ ?_ ?_
 ·rintro i τ L' ⟨hs2,zs2,c5,rfl,rfl,_⟩;rw[fb,fb]
 ·rintro i y τ L' hy ⟨hs2,zs2,c5,rfl,rfl,⟨g1,rk,g2⟩,hrt2,hzz,mo2,sh2⟩;obtain⟨p,ep,rfl⟩:=bY hy;obtain⟨e,i',j',ek,h1,h2,h3⟩:=hes p (Ay ep);have a1:bW (cV ks) (p:Int)=some (iJ (some (.nd e i' j'))):=xr (by rw[Ai,ek];rfl);refine⟨o,hp,a,hs2,ks,p,i',j',e,_,rfl,rfl,fo _ _,fh _ _,fa _ _,hap,⟨rk,g2⟩,ek,by lia,by lia,by lia,fun ri rj rp hs3 ti tj tp ⟨l3,k3⟩ t3 n3=>?_⟩;rw[ay (AR hps),zg];cases cc:(decide (ri=rj)&&!decide (ri=rp)) with
  |false=>
   refine⟨_,DA _,hs3,zs2,_,rfl,rfl,⟨by lia,k3⟩,by lia,hzz,⟨mo2.1.trans (kK t3),fun R E c F=>mY g2 l3 t3 (mo2.2 R E c F)⟩,sh2.imp id fun sh=>?_⟩;have et:es.take (i+1)=es.take i++[p]:=by rw[AN,ep];rfl
   rw[et];intro x hx f u v ex cx;rcases Ah.mp hx with hx | hx
   ·obtain⟨f',u',v',ex',_,hu,hv⟩:=hes x (BH hx);rw[ex] at ex';cases ex';obtain⟨ru,tu⟩:=g2.rep' (i:=u) (by lia);obtain⟨rv,tv⟩:=g2.rep' (i:=v) (by lia);exact kK t3 _ _ (sh x hx f u v ex (qJ t3 tu tv cx))
   ·rw[Af.mp hx] at ex ⊢;rw[ek] at ex;cases ex;obtain⟨r,c3,c4⟩:=cx;have e5:=(t3 _ _ ti).uniq c3;have e6:=(t3 _ _ tj).uniq c4;rw[Aw (e5.trans e6.symm),Df] at cc;by_cases e7:ri=rp
    ·exact⟨ri,e7▸t3 _ _ tp,t3 _ _ ti⟩
    ·rw[As e7] at cc;cases cc
  |true=>
   have c2:ri≠rp:=by have:=(A2 _ _▸cc).2;intro z;rw[Aw z] at this;cases this
   refine vp (fo _ _) ⟨rfl,iy,qe (fa _ _) (qm a1 ⟨o,hp,hs3,p,i',rp,ri,_,_,rfl,rfl,rfl,fo _ _,fh _ _,k3,t3 _ _ tp,t3 _ _ ti,by lia,by lia,fun hs4 l4 k4 r4 e1 e2=>?_⟩)⟩;rw[ay (AR hps),zg];have e3:=e2 (AR c2);have hb2:=aa0 hs;refine qe q8 (qu q8 ⟨AO (by lia:zs2.length≤1000) (by decide),_,DA _,hs4,zs2++[_],_,rfl,zg,⟨by lia,k4⟩,?_,?_,⟨(mo2.1.trans (kK t3)).trans (lH r4),fun R E c F=>?_⟩,.inl (by rw[Aa,AI];exact nN)⟩)
   ·rw[Aa,AI];lia
   ·rw[Aa,AI];exact yh
   ·obtain⟨rk3,k3'⟩:=k3;have F3:=mY g2 l3 t3 (mo2.2 R E c F);have c1:ri=rj:=of_decide_eq_true (A2 _ _▸cc).1;exact mB k3' l4 r4 (t3 _ _ tp) (t3 _ _ ti) E (c p (Ay ep) e i' j' ek (F3 _ _ ⟨ri,t3 _ _ ti,c1▸t3 _ _ tj⟩)) F3
 ·rintro τ L' ⟨hs2,zs2,c5,rfl,rfl,g2,hrt2,hzz,mo2,sh2⟩;rw[vk,AF] at sh2;refine⟨_,DA _,2*bR hs2+(if ((zs.length:Nat):Int)<(zs2.length:Int) then 1 else 0),?_,hs2,zs2,_,_,rfl,rfl,g2,hrt2,⟨mo2,sh2.imp (fun z=>by lia) id⟩,rfl⟩;rw[AC c];split<;>lia
theorem vT{b:Bool}{A B:Prop}(h1:A)(h2:B):km b A B:=by cases b<;>assumption
def fM(n:Nat)(ps:List (Nat×Nat)):Prop:=∀x∈ps,x.1<n/\x.2<n
def KnR(ks:List (Option Kn)):Prop:=∀(p:Nat) (e:Bool) (i j:Nat),ks[p]?=some (some (Kn.nd e i j))->i<ks.length/\j<ks.length
theorem y9(n:Nat):eY (fun _=>0) (List.range n):=fun i h e=>by
 have hi:i<n:=by have:=qx e;rwa[A3] at this
 rw[BB hi] at e;cases e;exact⟨by rw[A3];exact hi,fun z=>absurd rfl z⟩
theorem afc{b:Bool}{A B:Prop}(h1:b=true->A)(h2:b=false->B):km b A B:=by cases b with|true=>exact h1 rfl|false=>exact h2 rfl
def zV(n:Nat)(ks:List (Option Kn))(ps:List (Nat×Nat))(es:List Nat):Prop:=∀R:Nat->Nat->Prop,(∀a,R a a)->(∀a b,R a b->R b a)->(∀a b c,R a b->R b c->R a c)->(∀x∈ps,R x.1 x.2)->
 (∀p∈es,∀e i j,ks[p]?=some (some (.nd e i j))->R i j->R p i)->∀a b,a<n->b<n->R a b
theorem vD(n:Nat):bR (List.range n)=n:=by unfold bR;rw[A3];refine Eq.trans (List.countP_eq_length.mpr fun i hi=>?_) A3;exact Aw (BB (AX.mp hi))
theorem ym{ks:List (Option Kn)}{ps:List (Nat×Nat)}{es:List Nat}(hl:hs.length=n)(hr:eY rk hs)(hes:∀p∈es,aba ks n p)(C:zV n ks ps es)(h1:∀x∈ps,uf hs x.1 x.2)(h2:ace ks hs es)(hn:1≤n):bR hs=1:=by
 have all:∀a b,a<n->b<n->a=b\/uf hs a b:=C (fun a b=>a=b\/uf hs a b) (fun a=>.inl rfl) (fun a b h=>h.elim (fun e=>.inl e.symm) fun⟨r,p,q⟩=>.inr ⟨r,q,p⟩)
  (fun a b c h k=>by
   rcases h with rfl | ⟨r,p,q⟩
   ·exact k
   ·rcases k with rfl | ⟨s,p2,q2⟩
    ·exact .inr ⟨r,p,q⟩
    ·exact .inr ⟨r,p,by rw[q.uniq p2];exact q2⟩) (fun x hx=>.inr (h1 x hx))
  (fun p hp e i j ek h=>by
   rcases h with rfl | h
   ·obtain⟨e',i',j',ek',_,hi,_⟩:=hes p hp;rw[ek] at ek';cases ek';obtain⟨r,t⟩:=hr.rep' (i:=i) (by lia);exact .inr (h2 p hp e i i ek ⟨r,t,t⟩)
   ·exact .inr (h2 p hp e i j ek h))
 obtain⟨r,t⟩:=hr.rep' (i:=0) (by lia);have rt:=t.top;have rl:=qx rt;have e:=bK (p:=fun i=>decide (hs[i]?=some i)) (a:=r) (Aw rt) (l:=List.range hs.length) Bj (AX.mpr rl);unfold bR;rw[<-e];have z:(List.range hs.length).countP (fun j=>decide (hs[j]?=some j)&&!decide (j=r))=0:=B5.mpr fun j hj=>by
  intro h;rw[A2] at h;have j1:=of_decide_eq_true h.1;have j2:j≠r:=fun c=>by rw[Aw c] at h;cases h.2
  rcases all j r (by have:=AX.mp hj;lia) (by lia) with c | ⟨s,p,q⟩
  ·exact j2 c
  ·exact j2 ((p.of_top j1).symm.trans (q.of_top rt))
 rw[z]
theorem adp(hl:hs.length=n)(hr:eY rk hs)(h:bR hs=1){a b:Nat}(ha:a<n)(hb:b<n):uf hs a b:=by
 obtain⟨r,ta⟩:=hr.rep' (i:=a) (by lia);obtain⟨s,tb⟩:=hr.rep' (i:=b) (by lia);have rt:=ta.top;have st:=tb.top;have e:=bK (p:=fun i=>decide (hs[i]?=some i)) (a:=r) (Aw rt) (l:=List.range hs.length) Bj (AX.mpr (qx rt));have h':(List.range hs.length).countP (fun i=>decide (hs[i]?=some i))=1:=h;have z:(List.range hs.length).countP (fun j=>decide (hs[j]?=some j)&&!decide (j=r))=0:=by lia
 by_cases c:s=r
 ·exact⟨r,ta,c▸tb⟩
 ·have:=B5.mp z s (AX.mpr (qx st));exact absurd (by rw[Aw st,As c];rfl) this
def Rt(ks:List (Option Kn))(lk ct:List (Nat×Nat)):Prop:=zV ks.length ks (jp ks lk ct) (zy true ks)/\(xw ks).length=ks.length/\(jp ks lk ct).length+(zy true ks).length+1=ks.length
def dh(C:Addr):jc:=fun ys L Q=>∃a j b,∃ks:List (Option Kn),∃ps:List (Nat×Nat),∃es:List Nat,ys=[.ref a,.ref j,.ref b]/\L a=some (.lst (cV ks))/\L j=some (.lst (zf ps))/\L b=some (.lst (nY es))/\ks.length≤1000/\fM ks.length ps/\ps.length≤10000/\(∀p∈es,aba ks ks.length p)/\
 ∀zs p,L p=none->(1≤ks.length->(zs.length+1=ks.length↔zV ks.length ks ps es))->Q (.ref p) (qd L p (.lst zs))
theorem sY :∀ys L Q,dh C ys L Q->x0 (si C (i9 C) (fc C) (gT C)) 4 ys L Q:=by
 rintro ys L Q ⟨a,j,b,ks,ps,es,rfl,ha,hj,hb,hz,hps,hpl,hes,q⟩;refine qe ha fun x hx=>⟨x,ks.length,_,rfl,by rw[Ab],q8,hz,fun hp hhp=>⟨rfl,?_⟩⟩;have hxp:x≠hp:=k8 q8 hhp;have nhp:L hp=none:=vi hhp;have hx2:(qd (qd (qd L x (.ins C [])) hp (.lst (nY (List.range ks.length)))) x (.ins C (kJ hp))) x=some (.ins C (kJ hp)):=q8;have hh2:(qd (qd (qd L x (.ins C [])) hp (.lst (nY (List.range ks.length)))) x (.ins C (kJ hp))) hp=some (.lst (nY (List.range ks.length))):=(qb (AR hxp)).trans q8;have sub:qg L (qd (qd (qd L x (.ins C [])) hp (.lst (nY (List.range ks.length)))) x (.ins C (kJ hp))):=(((By hx).trans (By hhp)).upd hx);generalize qd (qd (qd L x (.ins C [])) hp (.lst (nY (List.range ks.length)))) x (.ins C (kJ hp))=L2 at hx2 hh2 sub;have ln:(List.range ks.length).length=ks.length:=A3;refine⟨x,hp,j,List.range ks.length,ps,rfl,hx2,hh2,sub _ _ hj,k8 hj nhp,⟨_,y9 _⟩,fun y hy=>by rw[ln];exact hps y hy,hpl,fun s1 zs1 hs1 n1 g1 z1 r1 m1=>?_⟩;have hs1p:hp≠s1:=k8 hh2 n1;refine⟨x,hp,a,b,hs1,ks,es,rfl,(qb (k8 hx2 n1)).trans ((qb hxp).trans hx2),(qb hs1p).trans q8,(qb (k8 (sub _ _ ha) n1)).trans ((qb (k8 ha nhp)).trans (sub _ _ ha)),(qb (k8 (sub _ _ hb) n1)).trans ((qb (k8 hb nhp)).trans (sub _ _ hb)),k8 ha nhp,k8 hb nhp,g1.2,fun p hp=>by rw[g1.1,ln];exact hes p hp,by rw[g1.1,ln];exact hz,fun s2 zs2 hs2 n2 g2 r2 m2=>?_⟩;have e1:(qd (qd (qd (qd L2 hp (.lst (nY hs1))) s1 (.lst zs1)) hp (.lst (nY hs2))) s2 (.lst zs2)) s1=some (.lst zs1):=(qb (k8 q8 n2)).trans ((qb (AR hs1p)).trans q8);have l1:=aa0 (List.range ks.length);rw[ln] at l1;have hb5:=ag6;refine⟨_,_,e1,q8,by lia,fun p4 hp4=>?_⟩;have np4:L2 p4=none:=vi (vi (vi (vi hp4)));have np4':L p4=none:=xb sub np4;refine ce (L:=qd L p4 (.lst (zs1++zs2))) (fun y u e=>?_) (q _ p4 np4' fun hn=>?_)
 rotate_left
 ·obtain⟨l2,rk2,k2⟩:=g2;have hl2:hs2.length=ks.length:=by rw[l2,g1.1,ln]
  rw[vD] at r1;rw[Aa];refine⟨fun h R rr rs rt hj hf a b ha hb=>?_,fun C=>?_⟩
  ·have E:Eqv R:=⟨rr,fun {a b}=>rs a b,fun {a b c}=>rt a b c⟩;exact m2.1.2 R E hf (m1.2.2 R E hj (sN E _)) a b (adp hl2 k2 (by lia) ha hb)
  ·have:=ym hl2 k2 hes C (fun x hx=>m2.1.1 _ _ (m1.2.1 x hx)) m2.2 hn;lia
 by_cases c:y=p4
 ·subst c;rw[q8] at e ⊢;exact e
 ·rw[qb c] at e;have e2:=sub _ _ e;have ns2:L2 s2=none:=vi (vi n2);rw[qb c,qb (k8 e2 ns2),qb (k8 e nhp),qb (k8 e2 n1),qb (k8 e nhp)];exact e2
def oP:jc:=fun ys L Q=>∃a j b,∃ks:List (Option Kn),∃ps:List (Nat×Nat),∃es:List Nat,ys=[.ref a,.ref j,.ref b]/\L a=some (.lst (cV ks))/\L j=some (.lst (zf ps))/\L b=some (.lst (nY es))/\ks.length≤1000/\fM ks.length ps/\ps.length≤10000/\(∀p∈es,aba ks ks.length p)/\∀r,((xw ks).length=ks.length->(r=true↔zV ks.length ks ps es/\ps.length+es.length+1=ks.length))->Q (.bl r) L
theorem ai5 :∀ys L Q,oP ys L Q->x0 (dO fP (dh C)) 4 ys L Q:=by rintro ys L Q ⟨a,j,b,ks,ps,es,rfl,ha,hj,hb,hz,hps,hpl,hes,q⟩;refine⟨a,ks,rfl,ha,hz,fun p1 hp1=>qe q8 ?_⟩;have s1:qg L (qd L p1 (.lst (nY (xw ks)))):=By hp1;refine qe (s1 _ _ hj) (qe (s1 _ _ hb) ?_);show km (decide (((zf ps).length:Int)+((nY es).length:Int)=((nY (xw ks)).length:Int) - 1)) _ _;rw[vk,vk,Ab];refine xm (fun c=>?_) (fun c=>ce s1 (q _ fun t1=>⟨(fun z=>by cases z),fun z=>absurd (by lia) c⟩));refine⟨a,j,b,ks,ps,es,rfl,s1 _ _ ha,s1 _ _ hj,s1 _ _ hb,hz,hps,hpl,hes,fun zs p2 hp2 hq=>qe q8 ?_⟩;show gD Q (.bl (decide ((zs.length:Int)=((xw ks).length:Int) - 1))) _;refine ce (s1.trans (By hp2)) (q _ fun t1=>?_);have:=hq (by lia);refine⟨fun z=>⟨this.mp (by have:=of_decide_eq_true z;lia),by lia⟩,fun z=>Aw ?_⟩;have:=this.mpr z.1;omega
theorem lX{ks:List (Option Kn)}{ct:List (Nat×Nat)}(h1:fM ks.length lk)(h2:fM ks.length ct)(h3:KnR ks):fM ks.length (jp ks lk ct):=by
 intro x hx;unfold jp at hx;rcases Ah.mp hx with hx | hx
 ·rcases Ah.mp hx with hx | hx
  ·exact h1 x hx
  ·exact h2 x hx
 ·unfold jg at hx;obtain⟨p,hp,hx⟩:=AY.mp hx;obtain⟨hp1,k,ek,hk⟩:=aJ hp;rw[ek] at hx;obtain⟨q,hq,rfl⟩:=Bh.mp hx;cases k with
  |none=>cases hq
  |some k=>
   cases k with
   |lf t n=>cases hq
   |nd e i j=>
    obtain⟨a1,a2⟩:=h3 p e i j ek;have hq:q∈[i,j]:=hq;refine⟨hp1,?_⟩;rcases An.mp hq with rfl | hq
    ·exact a1
    ·rw[Af.mp hq];exact a2
theorem mQ{ks:List (Option Kn)}{ct:List (Nat×Nat)}:(jp ks lk ct).length≤lk.length+ct.length+2*ks.length:=by unfold jp;rw[Aa,Aa];have h1:=cg ks (zy false ks);have h2:(zy false ks).length≤ks.length:=dI (zo false) ks ks.length;lia
theorem oZ{ks:List (Option Kn)}{e:Bool}(h3:KnR ks):∀p∈zy e ks,∃i j,ks[p]?=some (some (.nd e i j))/\p<ks.length/\i<ks.length/\j<ks.length:=fun p hp=>by
 obtain⟨hp1,k,ek,hk⟩:=aJ hp;cases k with
 |none=>cases hk
 |some k=>
  cases k with
  |lf t n=>cases hk
  |nd e' i j=>
   have:e'=e:=of_decide_eq_true hk;subst this;exact⟨i,j,ek,hp1,h3 p _ i j ek⟩
def aek(L:qk)(a l c:Addr)(ks:List (Option Kn))(lk ct:List (Nat×Nat)):Prop:=L a=some (.lst (cV ks))/\L l=some (.lst (zf lk))/\L c=some (.lst (zf ct))/\ks.length≤1000/\lk.length≤1000/\ct.length≤1000/\fM ks.length lk/\fM ks.length ct/\KnR ks
def lC:jc:=fun ys L Q=>∃a l c ks lk ct,ys=[dR a l c]/\aek L a l c ks lk ct/\∀r,((xw ks).length=ks.length->(r=true↔Rt ks lk ct))->Q (.bl r) L
theorem yw:∀ys L Q,lC ys L Q->x0 (pW oP ee fB) 1 ys L Q:=by rintro ys L Q ⟨a,l,c,ks,lk,ct,rfl,⟨ha,hl,hc,z1,z2,z3,r1,r2,r3⟩,q⟩;refine⟨a,l,c,ks,lk,ct,rfl,ha,hl,hc,z1,z2,z3,fun p1 hp1=>?_⟩;have s1:qg L (qd L p1 (.lst (zf (jp ks lk ct)))):=By hp1;refine⟨a,l,c,ks,rfl,s1 _ _ ha,z1,fun p2 hp2=>?_⟩;have s2:=s1.trans (By (o:=.lst (nY (zy true ks))) hp2);have jl:=mQ (ks:=ks) (lk:=lk) (ct:=ct);refine⟨a,p1,p2,ks,_,_,rfl,s2 _ _ ha,By hp2 _ _ q8,q8,z1,lX r1 r2 r3,by lia,fun p hp=>?_,fun r hr=>ce s2 (q r fun t=>(hr t).trans ⟨fun z=>⟨z.1,t,z.2⟩,fun z=>⟨z.1,z.2.2⟩⟩)⟩;obtain⟨i,j,h1,h2,h3,h4⟩:=oZ r3 p hp;exact⟨true,i,j,h1,h2,h3,h4⟩
def n5:jc:=fun ys L Q=>∃a l c ks lk ct,ys=[dR a l c]/\aek L a l c ks lk ct/\(((xw ks).length=ks.length->Rt ks lk ct)->Q .non L)/\(¬Rt ks lk ct->∀p zs,L p=none->zs.length≤1000->Q (.ref p) (qd L p (.lst zs)))
theorem adj:∀ys L Q,n5 ys L Q->x0 (qN lC fB ee oP) 9 ys L Q:=by
 rintro ys L Q ⟨a,l,c,ks,lk,ct,rfl,W,q0,q⟩;have W0:=W;obtain⟨ha,hl,hc,z1,z2,z3,r1,r2,r3⟩:=W;refine⟨a,l,c,ks,lk,ct,rfl,W0,fun r hr=>?_⟩;refine afc (fun rt=>xu (q0 fun t=>(hr t).mp rt)) fun rf=>?_;replace q:=q fun h=>by rw[(hr h.2.1).mpr h] at rf;cases rf
 refine⟨a,l,c,ks,lk,ct,rfl,ha,hl,hc,z1,z2,z3,fun p1 hp1=>?_⟩;have s1:qg L (qd L p1 (.lst (zf (jp ks lk ct)))):=By hp1;refine⟨a,l,c,ks,rfl,s1 _ _ ha,z1,fun p2 hp2=>?_⟩;have s2:=s1.trans (By (o:=.lst (nY (zy true ks))) hp2);intro p3 hp3;have s3:=s2.trans (By (o:=.lst []) hp3);have n2:L p2=none:=xb s1 hp2;have n3:L p3=none:=xb s2 hp3;have f1:=By (o:=.lst []) hp3 _ _ (By (o:=.lst (nY (zy true ks))) hp2 _ _ (q8 (L:=L) (a:=p1) (o:=.lst (zf (jp ks lk ct)))));have f2:=By (o:=.lst []) hp3 _ _ (q8 (L:=qd L p1 (.lst (zf (jp ks lk ct)))) (a:=p2) (o:=.lst (nY (zy true ks))));have f3:(qd (qd (qd L p1 (.lst (zf (jp ks lk ct)))) p2 (.lst (nY (zy true ks)))) p3 (.lst [])) p3=some (.lst []):=q8;have n12:p1≠p2:=k8 q8 hp2;have n13:p1≠p3:=k8 (By (o:=.lst (nY (zy true ks))) hp2 _ _ (q8 (L:=L) (a:=p1) (o:=.lst (zf (jp ks lk ct))))) hp3;have n23:p2≠p3:=k8 q8 hp3;generalize qd (qd (qd L p1 (.lst (zf (jp ks lk ct)))) p2 (.lst (nY (zy true ks)))) p3 (.lst [])=L3 at s3 f1 f2 f3;have jl:=mQ (ks:=ks) (lk:=lk) (ct:=ct);have jr:=lX r1 r2 r3;have el:(zy true ks).length≤ks.length:=dI (zo true) ks ks.length;refine jk f2 fun keep kp=>aK ⟨fun i τ L'=>∃ps zs c5 c6 c7 c8,τ=[some (dR a l c),some (.ref a),some (.ref p1),some (.ref p2),some (.ref p3),c5,c6,c7,c8]/\qg L L'/\L' p1=some (.lst (zf ps))/\L' p2=some (.lst (nY (zy true ks)))/\L' p3=some (.lst zs)/\fM ks.length ps/\ps.length=(jp ks lk ct).length+i/\zs.length=i,⟨_,[],_,_,_,_,rfl,s3,f1,f2,f3,jr,rfl,rfl⟩,?_,?_,?_⟩
 ·rintro i τ L' ⟨ps,zs,c5,c6,c7,c8,rfl,s,g1,g2,g3,_⟩;exact kp L' (g2.trans f2.symm)
 ·rintro i y τ L' hy ⟨ps,zs,c5,c6,c7,c8,rfl,s,g1,g2,g3,wr,lp,lz⟩;obtain⟨z,ez,rfl⟩:=ak hy;obtain⟨p,ep,rfl⟩:=bY ez;obtain⟨i',j',ek,h1,h2,h3⟩:=oZ r3 p (Ay ep);have hi:=qx ep;have a1:bW (cV ks) (p:Int)=some (iJ (some (.nd true i' j'))):=xr (by rw[Ai,ek];rfl);have hb5:=ag6;refine qe (s _ _ ha) (qm a1 ?_);intro q1 hq1;have t1:qg L' (qd L' q1 (.lst [Y.tup [.int (p:Int),.int (i':Int)]])):=By hq1;refine⟨_,_,t1 _ _ g1,q8,by rw[Ab,AI];lia,fun q2 hq2=>?_⟩;have t2:=t1.trans (By (o:=.lst (zf ps++[Y.tup [.int (p:Int),.int (i':Int)]])) hq2);refine qu (t2 _ _ g2) fun q3 hq3=>?_;have ec:((i:Int)+1)=((i+1:Nat):Int):=by rfl
  rw[ec,ue];have t3:=t2.trans (By (o:=.lst ((nY (zy true ks)).drop (i+1))) hq3);have e2:(qd (qd (qd L' q1 (.lst [Y.tup [.int (p:Int),.int (i':Int)]])) q2 (.lst (zf ps++[Y.tup [.int (p:Int),.int (i':Int)]]))) q3 (.lst ((nY (zy true ks)).drop (i+1)))) q2=some (.lst (zf (ps++[(p,i')]))):=by refine Eq.trans (By hq3 _ _ q8) ?_;unfold zf;rw[Ar];rfl
  have e3:(qd (qd (qd L' q1 (.lst [Y.tup [.int (p:Int),.int (i':Int)]])) q2 (.lst (zf ps++[Y.tup [.int (p:Int),.int (i':Int)]]))) q3 (.lst ((nY (zy true ks)).drop (i+1)))) q3=some (.lst (nY ((zy true ks).drop (i+1)))):=by rw[q8];unfold nY;rw[List.map_drop]
  refine⟨a,q2,q3,ks,ps++[(p,i')],(zy true ks).drop (i+1),rfl,t3 _ _ (s _ _ ha),e2,e3,z1,?_,by rw[Aa,AI];lia,?_,fun r _=>?_⟩
  ·intro x hx;rcases Ah.mp hx with hx | hx
   ·exact wr x hx
   ·rw[Af.mp hx];exact⟨h1,h2⟩
  ·intro x hx;obtain⟨i2,j2,w1,w2,w3,w4⟩:=oZ r3 x (List.mem_of_mem_drop hx);exact⟨true,i2,j2,w1,w2,w3,w4⟩
  have u1:=t3 _ _ g1;have u2:=t3 _ _ g2;have u3:=t3 _ _ g3;have us:=s.trans t3;generalize qd (qd (qd L' q1 (.lst [Y.tup [.int (p:Int),.int (i':Int)]])) q2 (.lst (zf ps++[Y.tup [.int (p:Int),.int (i':Int)]]))) q3 (.lst ((nY (zy true ks)).drop (i+1)))=L4 at u1 u2 u3 us;clear e2 e3 t3 t2 t1 hq3 hq2 hq1;have last:∀(v:Y) (m:Nat),m<ks.length->bV (fun τ L'=>∃ps zs c5 c6 c7 c8,τ=[some (dR a l c),some (.ref a),some (.ref p1),some (.ref p2),some (.ref p3),c5,c6,c7,c8]/\qg L L'/\L' p1=some (.lst (zf ps))/\L' p2=some (.lst (nY (zy true ks)))/\L' p3=some (.lst zs)/\fM ks.length ps/\ps.length=(jp ks lk ct).length+(i+1)/\zs.length=i+1)
   [some (dR a l c),some (.ref a),some (.ref p1),some (.ref p2),some (.ref p3),some (.int (i:Int)),some (.int (p:Int)),some (prN (p,i')),some v] (qd (qd L4 p3 (.lst (zs++[v]))) p1 (.lst (zf ps++[prN (p,m)]))):=by
   intro v m hm;refine⟨_,DA _,ps++[(p,m)],zs++[v],_,_,_,_,rfl,(us.upd n3).upd hp1,?_,?_,?_,?_,?_,?_⟩
   ·rw[q8];unfold zf;rw[Ar];rfl
   ·rw[qb (AR n12),qb n23];exact u2
   ·rw[qb (AR n13),q8]
   ·intro x hx;rcases Ah.mp hx with hx | hx
    ·exact wr x hx
    ·rw[Af.mp hx];exact⟨h1,hm⟩
   ·rw[Aa,AI];lia
   ·rw[Aa,AI];lia
  have u1':∀v,(qd L4 p3 (.lst (zs++[v]))) p1=some (.lst (zf ps)):=fun v=>(qb n13).trans u1;refine vT ?_ ?_
  ·refine qe u3 (qu u3 ⟨AO (by lia:zs.length≤1000) (by decide),?_⟩);refine qe (u1' _) (qe ((qb (k8 ha n3)).trans (us _ _ ha)) (qm a1 (qu (u1' _) ⟨AO (by rw[Ab];lia:(zf ps).length≤10000) (by decide),?_⟩)));exact last (.int 1) j' h3
  ·refine qe u3 (qu u3 ⟨AO (by lia:zs.length≤1000) (by decide),?_⟩);refine qe (u1' _) (qe ((qb (k8 ha n3)).trans (us _ _ ha)) (qm a1 (qu (u1' _) ⟨AO (by rw[Ab];lia:(zf ps).length≤10000) (by decide),?_⟩)));exact last (.int 0) i' h2
 ·rintro τ L' ⟨ps,zs,c5,c6,c7,c8,rfl,s,g1,g2,g3,wr,lp,lz⟩;rw[aO,vk] at lz;exact ce (qg.put s g3) (q p3 zs n3 (by lia))
def xK:k6:=(qo (z8 (f8 "abcdefghijklmnopqrstuvwxyz") (qc 2))
 (qo (z8 (zm vm (jt 1) (zm ai (qa 0) (jt 8))) (qc 3))
 (qo (z8 (zm ai (zm az (qa 0) (jt 8)) (qa 3)) (qc 4))
 (qo (z8 (yBS tw (f8 "") (qh (nP 1 (gA (kc (jt 8))) (qc 7) m9 (zm bM (qa 2) (zm ai (zm vm (zm az (qa 0) (jt 64)) (zm jE (jt 3) (qa 7))) (jt 26)))) qz)) (qc 5))
 (qo (vg (pI (zm ai (zm az (qa 0) (jt 64)) (jt 3)) (jt 1)) (jd (ySl ug (qa 5) fI (iw (zm vm (jt 1) (zm ai (zm vm (qa 1) (qa 0)) (jt 3)))))) jw)
 (qo (z8 (zm bM (qa 2) (zm ai (zm vm (zm vm (zm az (qa 0) (jt 64)) (zm jE (jt 3) (qa 4))) (qa 1)) (jt 26))) (qc 6))
 (jd (zm vm (zm vm (ySl ug (qa 5) fI (iw (qa 4))) (qa 6)) (ySl ug (qa 5) (iw (zm vm (qa 4) (jt 1))) (iw (qa 3)))))))))))
def aa(i:Int):Nat:=97+(i % 26).toNat
theorem tE(i:Int):bW ("abcdefghijklmnopqrstuvwxyz" : Str).cps.toList (i % 26)=some (aa i):=by
 obtain⟨n,hn⟩:∃n:Nat,i % 26=n:=⟨(i % 26).toNat,by lia⟩;have h:n<26:=by lia
 unfold aa;rw[hn];have key:∀n,n<26->("abcdefghijklmnopqrstuvwxyz" : Str).cps.toList[n]?=some (97+n):=by decide +kernel
 exact xr (key n h)
theorem tJ(i:Int):97≤aa i/\aa i≤122:=by unfold aa;lia
def aG(s:Int):List Nat:=(List.range 8).map fun k:Nat=>aa (s / 64+3*(k:Int))
theorem fK(s:Int):(aG s).length=8:=by unfold aG;simp
theorem jZ(s:Int):∀c∈aG s,97≤c/\c≤122:=fun c hc=>by obtain⟨k,_,rfl⟩:=Bh.mp hc;exact tJ _
def dg(s:Int):Nat:=(s / 8 % (1+s % 8)).toNat
def szN(s:Int):Nat:=(1+s % 8).toNat
theorem zF(s:Int):dg s<szN s/\szN s≤8/\s / 8 % (1+s % 8)=(dg s:Int)/\1+s % 8=(szN s:Int):=by
 have h0:0<1+s % 8:=by lia
 have h1:0≤s / 8 % (1+s % 8):=Int.emod_nonneg _ (by lia);have h2:s / 8 % (1+s % 8)<1+s % 8:=Int.emod_lt_of_pos _ h0;unfold dg szN;lia
def k7(s w:Int):List Nat:=
 if s / 64 % 3=1 then(aG s).take (1+(w+s) % 3).toNat
 else((aG s).take (dg s)++[aa (s / 64+3*(dg s:Int)+w)])++((aG s).drop (dg s+1)).take (szN s - (dg s+1))
theorem oi(s w:Int):cO (zX (k7 s w)):=by
 have hl:(zX (k7 s w)).length=(k7 s w).length:=by rw[<-Txs.len_list];show(k7 s w).toArray.toList.length=_;simp
 have hc:(zX (k7 s w)).cps.toList=k7 s w:=by show(k7 s w).toArray.toList=_;simp
 have hb:=fK s;obtain⟨p1,p2,_,_⟩:=zF s;refine⟨?_,?_,?_⟩
 ·rw[hl];unfold k7;split
  ·rw[AS];omega
  ·rw[Aa,Aa];simp;simp +arith only
 ·rw[hl];unfold k7;split
  ·rw[AS];omega
  ·rw[Aa,Aa,AS,AS,B0];simp;lia
 ·rw[hc];intro c h;unfold k7 at h;split at h
  ·exact jZ s c (BH h)
  ·rcases Ah.mp h with h | h
   ·rcases Ah.mp h with h | h
    ·exact jZ s c (BH h)
    ·rw[Af.mp h];exact tJ _
   ·exact jZ s c (List.mem_of_mem_drop (BH h))
theorem uw{s:Int}{v w:Nat}(hv:v<3)(hw:w<3)(h:k7 s v=k7 s w):v=w:=by
 have hb:=fK s;obtain⟨p1,p2,_,_⟩:=zF s;unfold k7 at h;split at h
 ·have:=Bs List.length h;rw[AS,AS] at this;omega
 ·have h1:=Bs (fun l=>l[dg s]?) h;have hl:((aG s).take (dg s)).length=dg s:=by rw[AS];lia
  have at_:∀(c:Nat) (r:List Nat),(((aG s).take (dg s)++[c])++r)[dg s]?=some c:=fun c r=>by rw[Ba,Aq (by exact vU),hl,Nat.sub_self];rfl
  have h1:(((aG s).take (dg s)++[aa (s / 64+3*(dg s:Int)+v)])++_)[dg s]?=(((aG s).take (dg s)++[aa (s / 64+3*(dg s:Int)+w)])++_)[dg s]?:=h1;rw[at_,at_] at h1;have h2:=AQ h1;unfold aa at h2;omega
def jQ:jc:=fun ys L Q=>∃s w:Int,ys=[.int s,.int w]/\Q (.str (zX (k7 s w))) L
theorem u4(h:m≤n)(h2:n≤x.length):(Txt.slice x (some (m:Int)) (some (n:Int))).cps.toList=(x.cps.toList.drop m).take (n - m):=by have e:=mZ x (some (m:Int)) (some (n:Int));rw[HT.sIx_nat,HT.sIx_nat,BS h2,BS (AM h h2)] at e;exact e
theorem mI(h:n≤x.length):(Txt.slice x none (some (n:Int))).cps.toList=x.cps.toList.take n:=by have e:=mZ x none (some (n:Int));rw[HT.sIx_nat,HT.sIx_none,List.drop_zero,Nat.sub_zero,BS h] at e;exact e
theorem y7:∀ys L Q,jQ ys L Q->x0 xK 7 ys L Q:=by
 rintro ys L Q ⟨s,w,rfl,q⟩;have hsz:0<1+s % 8:=by lia
 refine⟨(by decide:(0:Int)<8),⟨by decide,by decide⟩,hsz,⟨by decide,by decide⟩,?_⟩;show lcK (kz 0 8) _ _ _ _ _ _ _ _;refine sg (m:=8) (fun i zs=>zs=((List.range i).map fun k:Nat=>Y.str ⟨#[aa (s / 64+3*(k:Int))]⟩)) (by decide) rfl ?_ ?_
 ·rintro i _ hi rfl;have hat:=tE (s / 64+3*(0+(i:Int)));refine⟨⟨by decide,by decide⟩,.inl ⟨by decide,by decide⟩,(by decide:(0:Int)<26),by decide +kernel,?_⟩;walk_at "w";rw[hat];refine⟨_,DA _,rfl,?_⟩;rw[C9,Ar,show(0:Int)+(i:Int)=(i:Int) by simp +arith only];rfl
 ·rintro _ rfl p hp;have e0:((List.range 8).map fun k:Nat=>Y.str ⟨#[aa (s / 64+3*(k:Int))]⟩)=((aG s).map fun c=>(⟨#[c]⟩:Str)).map Y.str:=by unfold aG;rw[Bm,Bm];rfl
  rw[e0];refine qu q8 ⟨(aG s).map fun c=>(⟨#[c]⟩:Str),rfl,?_,?_⟩
  ·have e1:∀cs:List Nat,((cs.map fun c=>(⟨#[c]⟩:Str)).map (·.length)).sum=cs.length:=fun cs=>by induction cs with|nil=>rfl|cons c r ih=>rw[AD,AD,List.sum_cons,ih,AE];show 1+r.length=_;exact C1 _ _
   rw[e1,fK];show 8+_*0≤_;rw[Nat.mul_zero];decide
  ·have hb:=xE (aG s);have hbl:(Txt.join "" ((aG s).map fun c=>(⟨#[c]⟩:Str))).length=8:=by rw[<-Txs.len_list,hb,fK]
   generalize Txt.join "" ((aG s).map fun c=>(⟨#[c]⟩:Str))=base at hbl hb;obtain⟨p1,p2,hn,hk⟩:=zF s;refine⟨⟨by decide,by decide⟩,(by decide:(0:Int)<3),?_⟩;refine xm (fun c=>?_) fun c=>?_
   ·have e:1+(w+s) % 3=((1+(w+s) % 3).toNat:Int):=by lia
    refine⟨(by decide:(0:Int)<3),aj (by lia),ce (By hp) ?_⟩;have es:=mI (x:=base) (n:=(1+(w+s) % 3).toNat) (by lia);have eq:Txt.slice base none (some (1+(w+s) % 3))=zX (k7 s w):=by rw[e];refine(tR _).symm.trans ?_;rw[es,hb];unfold k7;rw[AC c]
    rw[<-eq] at q;exact q
   ·have hat:=tE (s / 64+3*(s / 8 % (1+s % 8))+w);refine⟨⟨by decide,by decide⟩,.inl ⟨by decide,by decide⟩,(by decide:(0:Int)<26),by decide +kernel,?_⟩;walk_at "w";rw[hat];have s1:=mI (x:=base) (n:=dg s) (by lia);have s2:=u4 (x:=base) (m:=dg s+1) (n:=szN s) (by assumption) (by lia);have l1:(Txt.slice base none (some (dg s:Int))).length=dg s:=by rw[<-Txs.len_list,s1,AS,Txs.len_list];lia
    have l2:(Txt.slice base (some ((dg s+1:Nat):Int)) (some (szN s:Int))).length≤8:=by rw[<-Txs.len_list,s2,AS];lia
    refine⟨aj (by lia),?_⟩;refine⟨aj (by rw[hn,l1];show dg s+1≤1000;lia),?_⟩;refine⟨aj (by lia),?_⟩;have e1:((dg s:Int)+1)=((dg s+1:Nat):Int):=by rfl
    have l3:(Txt.slice base none (some (dg s:Int))++(⟨#[aa (s / 64+3*(s / 8 % (1+s % 8))+w)]⟩:Str)).length=dg s+1:=by rw[PySem.Str.length_append,l1];rfl
    refine⟨aj ?_,ce (By hp) ?_⟩
    ·rw[hn] at l3 ⊢;rw[l3,e1,hk];lia
    ·have eq:(Txt.slice base none (some (dg s:Int))++(⟨#[aa (s / 64+3*(dg s:Int)+w)]⟩:Str))++Txt.slice base (some ((dg s+1:Nat):Int)) (some (szN s:Int))=zX (k7 s w):=by
      refine(tR _).symm.trans ?_;have ca:∀a b:Str,(a++b).cps.toList=a.cps.toList++b.cps.toList:=fun a b=>by show(a.cps++b.cps).toList=_;simp
      rw[ca,ca,s1,s2,hb];unfold k7;rw[AB c]
     rw[hn,e1,hk,eq];exact q
def iu:Nat->Nat
 |0=>1
 |n+1=>iu n*(n+1)
theorem tQ(t t':Bool)(n n':Str):Da.eq (fA (.leaf t n)) (fA (.leaf t' n'))=(decide (t=t')&&decide (n=n')):=by
 by_cases h:n=n'
 ·subst h;cases t<;>cases t'<;>simp[fA,Da.eq,Da.eqs,iM,kL]<;>decide +kernel
 ·cases t<;>cases t'<;>simp[fA,Da.eq,Da.eqs,iM,kL,h]<;>decide +kernel
def g7(t:Bool)(x:Str):Wd->Bool
 |.leaf u y=>decide (u=t)&&decide (y=x)
 |_=>false
def je(ls:List Wd)(t:Bool)(x:Str):Nat:=ls.countP (g7 t x)
def rF:Wd->Str
 |.leaf _ n=>n
 |_ => ""
def fV(ls:List Wd):Prop:=∀x,je ls false x=je ls true x
def ai2(ls:List Wd)(n:Nat):Prop:=
 (fV ls/\∀nms:List Str,nms.Nodup->(∀w∈ls,rF w∈nms)->n=(nms.map fun x=>iu (je ls false x)).prod)\/(¬fV ls/\n=0)
def LV(ws:List Wd):List Wd:=ws.flatMap Wd.leafL
theorem sI(a b:List Wd):LV (a++b)=LV a++LV b:=by unfold LV;rw[AV]
theorem fg{α β:Type}(f:α->β):∀(l:List α) (n:Nat),(l.map f).eraseIdx n=(l.eraseIdx n).map f
 |[],n=>by simp
 |_::_,0=>rfl
 |x::r,n+1=>by rw[AD,Cf,Cf,AD,fg f r n]
def oz(p0:jc):k6:=(qo (z8 (xz qz) (qc 1))
 (qo (a7 (jq (qa 0)) (qc 2) (jx (bU fS (qa 1) (qh (qw p0 (kc (qa 2))) qz))))
 (jd (qa 1))))
def kB(p0:jc):k6:=(qo (a7 (jq (qa 0)) (qc 1) (vg (tI (bU jM (qa 0) (kc (qa 1))) (bU jM (qa 0) (qh (qw p0 (kc (qa 1))) qz))) (jd (vh 1 1)) jw))
 (jd (yC .non)))
def pk(p0:jc)(p1:jc):k6:=(qo (z8 (qw p0 (kc (qa 0))) (qc 1))
 (qo (vg (yB (lP true (qw p1 (kc (qa 1))))) (jd (jt 0)) jw)
 (qo (z8 (jt 1) (qc 2))
 (qo (z8 aeo (qc 3))
 (qo (a7 (jq (qa 1)) (wx 2 (zu (qc 4) (zu (qc 5) ky))) (vg (pI (qa 4) (f8 "plain")) (qo (af5 (qa 3) (qa 5) (zm vm (yf (qa 3) (qa 5) (jt 0)) (jt 1)))
 (z8 (zm jE (qa 2) (af7 (qa 3) (qa 5))) (qc 2))) jw))
 (jd (qa 2)))))))
theorem oC{x:Wd}(h:x∈LV ws):∃t n,x=.leaf t n:=by obtain⟨w,_,hx⟩:=AY.mp h;exact DL hx
theorem zP(w:Wd):LV [w]=w.leafL:=by simp[LV]
theorem pB(ws:List Wd)(i:Nat):(LV (ws.take i)).length≤(LV ws).length:=by have:=sI (ws.take i) (ws.drop i);rw[Bw] at this;rw[this,Aa];omega
def fO:jc:=fun ys L Q=>∃a,∃ws:List Wd,ys=[.ref a]/\L a=some (.lst (ws.map x5))/\(∀w∈ws,w.depth≤63/\w.leaves≤63)/\(LV ws).length≤1000/\∀p,L p=none->Q (.ref p) (qd L p (.lst ((LV ws).map x5)))
theorem abk:∀ys L Q,fO ys L Q->x0 (oz (ku 63)) 3 ys L Q:=by
 rintro ys L Q ⟨a,ws,rfl,ha,hd,hz,q⟩;intro p hp;have hap:a≠p:=k8 ha hp;refine kf (ys:=ws.map x5) (zd ((qb hap).trans ha)) (fun i τ L'=>∃c,τ=[some (.ref a),some (.ref p),c]/\L'=qd L p (.lst ((LV (ws.take i)).map x5))) ⟨_,rfl,rfl⟩ ?_ ?_ ?_
 ·rintro i τ L' ⟨c,rfl,rfl⟩;rw[qb hap,qb hap]
 ·rintro i y τ L' hy ⟨c,rfl,rfl⟩;rw[Ai] at hy;obtain⟨w,ew,rfl⟩:=Aj.mp hy;have hw:=hd w (Ay ew);have et:ws.take (i+1)=ws.take i++[w]:=by rw[AN,ew];rfl
  have hl:=pB ws (i+1);rw[et,sI,zP,Aa] at hl;refine qe q8 ⟨w,rfl,hw.1,hw.2,fun p2 hp2=>?_⟩;have hpp:p≠p2:=k8 q8 hp2;refine qu ((qb hpp).trans q8) (qu q8 ⟨?_,?_⟩)
  ·rw[Ab,Ab];have hb:(1000:Nat)≤sizeLine:=by decide
   omega
  ·refine⟨qd L p (.lst ((LV (ws.take (i+1))).map x5)),?_,_,rfl,rfl⟩;rw[et,sI,zP,Ar,ay (AR hpp),zg];exact By ((qb (AR hpp)).trans ((qb (AR hpp)).symm.trans hp2))
 ·rintro τ L' ⟨c,rfl,rfl⟩;rw[Ab,AF];exact xu (q p hp)
theorem ab2(t:Bool)(x:Str){w:Wd}(h:∃u y,w=.leaf u y):Da.eq (fA w) (fA (.leaf t x))=g7 t x w:=by obtain⟨u,y,rfl⟩:=h;exact tQ u t y x
theorem yu(h:∀w∈ls,∃u y,w=Wd.leaf u y)(t:Bool)(x:Str):((ls.map fA).countP fun d=>Da.eq d (fA (.leaf t x)))=je ls t x:=by unfold je;rw[B8];refine BY fun w hw=>?_;rw[Function.comp,ab2 t x (h w hw)]
def iq(ls:List Wd)(w:Wd):Bool:=!decide (je ls false (rF w)=je ls true (rF w))
def oh(ls:List Wd):Option Str:=(ls.find? (iq ls)).map rF
theorem aai(ls:List Wd)(t:Bool)(x:Str):iq ls (.leaf t x)=!decide (je ls t x=je ls (!t) x):=by
 show(!decide (je ls false x=je ls true x))=_;cases t
 ·rfl
 ·show _=!decide (je ls true x=je ls false x);by_cases h:je ls false x=je ls true x
  ·rw[Aw h,Aw h.symm]
  ·rw[As h,As (AR h)]
def eB:jc:=fun ys L Q=>∃a,∃ls:List Wd,ys=[.ref a]/\L a=some (.lst (ls.map x5))/\(∀w∈ls,∃t n,w=Wd.leaf t n)/\ls.length≤1000/\(∀x,oh ls=some x->Q (.str x) L)/\(oh ls=none->Q .non L)
theorem acr:∀ys L Q,eB ys L Q->x0 (kB (aP 63)) 2 ys L Q:=by
 rintro ys L Q ⟨a,ls,rfl,ha,hlf,hz,q1,q2⟩;refine kf (ys:=ls.map x5) (zd ha) (fun i τ L'=>∃c,τ=[some (.ref a),c]/\L'=L/\∀w∈ls.take i,iq ls w=false) ⟨_,rfl,rfl,by simp⟩ ?_ ?_ ?_
 ·rintro i τ L' ⟨c,rfl,rfl,_⟩;rfl
 ·rintro i y τ L' hy ⟨c,rfl,rfl,hno⟩;rw[Ai] at hy;obtain⟨w,ew,rfl⟩:=Aj.mp hy;obtain⟨t,x,rfl⟩:=hlf w (Ay ew);have pd:Paired (ji L' 1) (ls.map x5) (ls.map fA):=gP fun w hw=>by obtain⟨u,z,rfl⟩:=hlf w hw;exact Am _
  refine qe ha (qu ha ⟨_,fA (.leaf t x),1,1,by decide,pd,aZ (Am 1),qe ha ⟨.leaf t x,rfl,by show 1≤63;decide,qu ha ⟨_,fA (.leaf (!t) x),1,1,by decide,pd,aZ (Am 1),?_⟩⟩⟩);rw[yu hlf,yu hlf];have ho:=aai ls t x;have et:ls.take (i+1)=ls.take i++[Wd.leaf t x]:=by rw[AN,ew];rfl
  by_cases h:je ls t x=je ls (!t) x
  ·refine kh (by show(!decide (((je ls t x:Nat):Int)=((je ls (!t) x:Nat):Int)))=false;rw[h,Aw rfl];rfl) ?_;refine⟨_,DA _,_,rfl,rfl,?_⟩;rw[et];intro w hw;rcases Ah.mp hw with z | z
   ·exact hno w z
   ·rw[Af.mp z,ho,Aw h];rfl
  ·refine cD (by show(!decide (((je ls t x:Nat):Int)=((je ls (!t) x:Nat):Int)))=true;rw[As (by omega)];rfl) ?_;refine xu (q1 x ?_);unfold oh;have hod:iq ls (.leaf t x)=true:=by rw[ho,As h];rfl
   have es:ls=ls.take i++(Wd.leaf t x::ls.drop (i+1)):=by have:=(Bw i ls).symm;rw[List.drop_eq_getElem?_toList_append,ew] at this;exact this
   have:ls.find? (iq ls)=some (.leaf t x):=by generalize hp:iq ls=P at hno hod;rw[es,List.find?_append,CH.mpr (fun w hw=>by rw[hno w hw];exact Ap),Bl,hod];rfl
   rw[this];rfl
 ·rintro τ L' ⟨c,rfl,rfl,hno⟩;rw[Ab,AF] at hno;refine xu (q2 ?_);unfold oh;rw[CH.mpr (fun w hw=>by rw[hno w hw];exact Ap)];rfl
theorem we(a:jf)(b:Y)(r:List (jf×Y))(k:jf):wz ((a,b)::r) k=if a=k then some b else wz r k:=by
 unfold wz;rw[Bl];by_cases h:a=k
 ·rw[AC h,show decide ((a,b).1=k)=true from Aw h];rfl
 ·rw[AB h,show decide ((a,b).1=k)=false from As h]
theorem pG(k k':jf)(y:Y):∀kvs:List (jf×Y),wz (kvs.map fun kv=>if kv.1=k then(kv.1,y) else kv) k'=if k'=k then(wz kvs k').map (fun _=>y) else wz kvs k'
 |[]=>by rw[CZ];split<;>rfl
 |(a,b)::r=>by
  have ih:=pG k k' y r;rw[AD,we];by_cases h:a=k
  ·rw[AC (show(a,b).1=k from h),we,ih];by_cases h2:k'=k
   ·rw[AC h2,AC h2,AC (h.trans h2.symm),AC (h.trans h2.symm)];rfl
   ·rw[AB h2,AB h2,AB (fun z=>h2 (z.symm.trans h)),AB (fun z=>h2 (z.symm.trans h))]
  ·rw[AB (show ¬(a,b).1=k from h),we,ih];by_cases h2:k'=k
   ·rw[AC h2,AC h2,AB (fun z=>h (z.trans h2)),AB (fun z=>h (z.trans h2))]
   ·rw[AB h2,AB h2]
theorem qT(k k':jf)(y:Y):∀kvs:List (jf×Y),wz (kvs++[(k,y)]) k'=(wz kvs k').or (if k=k' then some y else none)
 |[]=>by rw[List.nil_append,we];have:wz [] k'=none:=rfl;rw[this];split<;>rfl
 |(a,b)::r=>by rw[Cs,we,we,qT k k' y r];split<;>rfl
theorem pP(k:jf):∀kvs:List (jf×Y),(kvs.any fun kv=>decide (kv.1=k))=(wz kvs k).isSome
 |[]=>rfl
 |(a,b)::r=>by
  rw[BJ,we,pP k r];by_cases h:a=k
  ·rw[AC h,show decide ((a,b).1=k)=true from Aw h];rfl
  ·rw[AB h,show decide ((a,b).1=k)=false from As h];rfl
theorem qG(kvs:List (jf×Y))(k k':jf)(y:Y):wz (oI kvs k y) k'=if k'=k then some y else wz kvs k':=by
 unfold oI;rw[pP];cases e:wz kvs k with
 |some v=>
  rw[AC (show(some v).isSome=true from rfl),pG];by_cases h:k'=k
  ·rw[AC h,AC h,h,e];rfl
  ·rw[AB h,AB h]
 |none=>
  rw[AB (by simp),qT];by_cases h:k'=k
  ·rw[AC h,h,e,AC rfl];rfl
  ·rw[AB h,AB (fun z=>h z.symm)];cases wz kvs k'<;>rfl
theorem zT(kvs:List (jf×Y))(k:jf)(y:Y):(oI kvs k y).length≤kvs.length+1:=by
 unfold oI;split
 ·rw[Ab];omega
 ·rw[Aa];simp
theorem uD{f g:Str->Nat}{x:Str}{k:Nat}(hx:g x=f x*k)(ho:∀y,y≠x->g y=f y):∀nms:List Str,nms.Nodup->x∈nms->(nms.map g).prod=(nms.map f).prod*k
 |[],_,h=>by cases h
 |y::r,hn,h=>by
  obtain⟨hy,hr⟩:=Az.mp hn;rw[AD,AD,Ck,Ck];by_cases e:y=x
  ·subst e;have:r.map g=r.map f:=Bp fun z hz=>ho z fun q=>hy (q▸hz);rw[this,hx,Dh,Nat.mul_comm k,<-Dh]
  ·have hm:x∈r:=by
    rcases An.mp h with z | z
    ·exact absurd z.symm e
    ·exact z
   rw[uD hx ho r hr hm,ho y e,Dh]
def gZ(ls:List Wd)(n:Nat):Prop:=∀nms:List Str,nms.Nodup->(∀w∈ls,rF w∈nms)->n=(nms.map fun x=>iu (je ls false x)).prod
theorem mP{f:Str->Nat}(h:∀y,f y=1):∀nms:List Str,(nms.map f).prod=1
 |[]=>rfl
 |y::r=>by rw[AD,Ck,h,mP h r]
theorem gZ.nil:gZ [] 1:=fun nms _ _=>(mP (fun y=>rfl) nms).symm
theorem bw(ls:List Wd)(w:Wd)(t:Bool)(x:Str):je (ls++[w]) t x=je ls t x+if g7 t x w=true then 1 else 0:=by unfold je;rw[AL,List.countP_singleton]
theorem gZ.other(h:gZ ls n):gZ (ls++[.leaf true x]) n:=fun nms hn hm=>by have:=h nms hn fun w hw=>hm w (Ao _ hw);rw[this];refine Bs List.prod (Bp fun y _=>?_);rw[bw,AB (by simp[g7]),Nat.add_zero]
theorem gZ.plain(h:gZ ls n):gZ (ls++[.leaf false x]) (n*(je ls false x+1)):=fun nms hn hm=>by
 have:=h nms hn fun w hw=>hm w (Ao _ hw);rw[this];refine(uD (x:=x) ?_ ?_ nms hn (hm (.leaf false x) (Ag _ (Af.mpr rfl)))).symm
 ·show iu (je (ls++[.leaf false x]) false x)=_;rw[bw,AC (by simp[g7])];rfl
 ·intro y hy;show iu (je (ls++[.leaf false x]) false y)=_;rw[bw,AB (by simp[g7];exact fun z=>hy z.symm)];rfl
theorem nH(hlf:∀w∈ls,∃t n,w=Wd.leaf t n)(h:oh ls=none):fV ls:=by
 intro x;unfold oh at h;have h:=CH.mp (Option.map_eq_none_iff.mp h);by_cases c:∃t,Wd.leaf t x∈ls
 ·obtain⟨t,c⟩:=c;have:=h _ c;have e:(!decide (je ls false x=je ls true x))=false:=by cases z:(!decide (je ls false x=je ls true x)) with|false=>rfl|true=>exact absurd z this
  exact of_decide_eq_true (by simpa using e)
 ·have zero:∀t,je ls t x=0:=fun t=>by
   unfold je;rw[B5];intro w hw;obtain⟨u,y,rfl⟩:=hlf w hw;intro z;have:decide (u=t)=true/\decide (y=x)=true:=by simpa[g7] using z
   have e:y=x:=of_decide_eq_true this.2;subst e;exact c ⟨u,hw⟩
  rw[zero,zero]
theorem iC(h:oh ls=some x):¬fV ls:=by unfold oh at h;obtain⟨w,hw,_⟩:=Aj.mp h;have:=List.find?_some hw;intro e;have e2:=e (rF w);unfold iq at this;rw[Aw e2] at this;cases this
def afn(n:Nat):Option Y:=if n=0 then none else some (.int (n:Int))
def ft(p0:jc)(p1:jc):k6:=(qo (z8 (nP 2 (bL (qa 0)) (wx 2 (zu (qc 8) (zu (qc 9) ky))) (pI (qa 9) (qw p0 (qh (zm bM (qa 0) (qa 2)) qz))) (qa 8)) (qc 3))
 (qo (z8 (xz qz) (qc 4))
 (qo (a7 (jq (qa 1)) (qc 5) (qo (z8 (qw p1 (kc (qa 5))) (qc 6))
 (a7 (jq (qa 3)) (qc 7) (vg (yB (zm (rH true) (qa 7) (qa 6))) (jx (bU zw (qa 4) (qh (zm vm (qa 5) (xz (qh (aX (qh (lK ahz (bO (qa 2) (qa 7))) (qh (lK ahl (bO (qa 2) (qa 7))) qz))) qz))) qz))) jw))))
 (jd (qa 4)))))
def jR(p0:jc):k6:=(qo (z8 (xz (kc (xz qz))) (qc 1))
 (qo (a7 (bL (qa 0)) (wx 2 (zu (qc 2) (zu (qc 3) ky))) (vg (pI (vh 3 0) (f8 "plain")) (z8 (qw p0 (qh (qa 0) (bO (qa 1) (qa 2)))) (qc 1)) jw))
 (jd (nP 1 (jq (qa 1)) (qc 4) m9 (lK mh (kc (qa 4)))))))
def eI(p0:jc)(p1:jc):k6:=(qo (z8 (xz qz) (qc 1))
 (qo (a7 (jq (qw p0 (kc (qa 0)))) (qc 2) (qo (z8 (aX (qh (qa 0) (bO (qa 2) (xz qz)))) (qc 3))
 (qo (z8 (qw p1 (kc (qa 3))) (qc 4))
 (qo (vg (yB (lP false (qa 4))) (jd (wA (f8 "web") (qa 3))) jw)
 (jx (bU zw (qa 1) (qh (wA (qa 2) (qa 4)) qz)))))))
 (jd (wA (f8 "tries") (qa 1)))))
def xj(lk:List (Nat×Nat)):List Nat:=lk.flatMap fun x=>[x.1,x.2]
theorem fE(a b:List (Nat×Nat)):xj (a++b)=xj a++xj b:=by unfold xj;rw[AV]
theorem fN(x:Nat×Nat):xj [x]=[x.1,x.2]:=by simp[xj]
theorem fJ(lk:List (Nat×Nat)):(xj lk).length=2*lk.length:=by
 induction lk with
 |nil=>rfl
 |cons x r ih=>
  have:=fE [x] r;rw[Co] at this;rw[this,Aa,ih,fN,AE];simp;exact C1 _ _
def n6:jc:=fun ys L Q=>∃a,∃lk:List (Nat×Nat),ys=[.ref a]/\L a=some (.lst (zf lk))/\lk.length≤1000/\∀p,L p=none->Q (.ref p) (qd L p (.lst (nY (xj lk))))
theorem abu:∀ys L Q,n6 ys L Q->x0 pQ 4 ys L Q:=by
 rintro ys L Q ⟨a,lk,rfl,ha,hz,q⟩;intro p hp;have hap:a≠p:=k8 ha hp;refine kf (ys:=zf lk) (zd ((qb hap).trans ha)) (fun i τ L'=>∃c2 c3,τ=[some (.ref a),some (.ref p),c2,c3]/\L'=qd L p (.lst (nY (xj (lk.take i))))) ⟨_,_,rfl,rfl⟩ ?_ ?_ ?_
 ·rintro i τ L' ⟨c2,c3,rfl,rfl⟩;rw[qb hap,qb hap]
 ·rintro i y τ L' hy ⟨c2,c3,rfl,rfl⟩;rw[Ai] at hy;obtain⟨x,ex,rfl⟩:=Aj.mp hy;have et:lk.take (i+1)=lk.take i++[x]:=by rw[AN,ex];rfl
  have hl:(nY (xj (lk.take i))).length≤2000:=by rw[vk,fJ,AS];lia
  refine qe q8 (qu q8 ⟨AO hl (by decide),?_⟩);refine qe q8 (qu q8 ⟨AO (by rw[Aa,AI];exact nN:_≤2001) (by decide),_,DA _,_,_,rfl,?_⟩);rw[zg,zg,et,fE,fN,gb,Ba];rfl
 ·rintro τ L' ⟨c2,c3,rfl,rfl⟩;rw[Ab,AF];exact xu (q p hp)
def cM:Kn->Da
 |.lf t n=>.tup [.s (.str (kL t)),.s (.str n)]
 |.nd e i j=>.tup [.s (.str (kN e)),.s (.int ((i:Nat):Int)),.s (.int ((j:Nat):Int))]
theorem jH(k:Kn):ji L 1 (bH k) (cM k):=by cases k with|lf t n=>exact aU (.cons ⟨rfl,rfl⟩ (.cons ⟨rfl,rfl⟩ .nil))|nd e i j=>exact aU (.cons ⟨rfl,rfl⟩ (.cons ⟨rfl,rfl⟩ (.cons ⟨rfl,rfl⟩ .nil)))
def au(x:Str):Option Kn->Bool
 |some (.lf t n)=>t&&decide (n=x)
 |_=>false
theorem ab0(x:Str)(k:Kn):Da.eq (cM k) (fA (.leaf true x))=au x (some k):=by
 cases k with
 |lf t n=>
  have h:=tQ t true n x;have e:cM (.lf t n)=fA (.leaf t n):=rfl;rw[e,h];cases t<;>rfl
 |nd e i j=>cases e<;>rfl
def jj(ks:List (Option Kn))(p:Nat):Prop:=∃x,ks[p]?=some (some (.lf false x))
def jv:Option Kn->Bool
 |some (.lf _ _)=>true
 |_=>false
def yV(ks:List (Option Kn))(i:Nat):Nat:=(ks.take i).countP jv
theorem aaj{ks:List (Option Kn)}(h:i≤j):yV ks i≤yV ks j:=by
 have e:ks.take i=(ks.take j).take i:=by rw[List.take_take,BS h]
 unfold yV;rw[e];exact(Ci i _).countP_le
theorem aal{ks:List (Option Kn)}(hp:jj ks i):yV ks (i+1)=yV ks i+1:=by obtain⟨x,e⟩:=hp;unfold yV;rw[AN,e,AL];rfl
theorem ic{f:Option Kn->Bool}{ks:List (Option Kn)}{p:Nat}{k:Option Kn}(h:ks[p]?=some k)(hf:f k=true)(hi:p<i):p∈aC f ks i:=by unfold aC;refine AZ.mpr ⟨AX.mpr hi,?_⟩;simp only[h];exact hf
def rG:Option Kn->Bool
 |some (.lf false _)=>true
 |_=>false
def mj(ks:List (Option Kn))(i:Nat):Nat:=(ks.take i).countP rG
def acz(ks:List (Option Kn))(i:Nat)(lk:List (Nat×Nat)):Prop:=(xj lk).Nodup/\(∀p∈xj lk,∃k,ks[p]?=some k/\jv k=true)/\lk.length=mj ks i/\∀y∈lk,jj ks y.1\/jj ks y.2
def kS(ks:List (Option Kn)):Prop:=∀i lk x,acz ks i lk->ks[i]?=some (some (.lf false x))->∃m,ks[m]?=some (some (.lf true x))/\m∉xj lk
def Lk1(ks:List (Option Kn))(y:Nat×Nat):Prop:=y.1<y.2/\∃t n,ks[y.1]?=some (some (.lf t n))/\ks[y.2]?=some (some (.lf (!t) n))
def mW(ks:List (Option Kn))(i:Nat)(lk:List (Nat×Nat)):Prop:=lk.Nodup/\(lk.length≤i/\lk.length≤yV ks i/\acz ks i lk)/\∀y∈lk,y.1<ks.length/\y.2<ks.length/\(jj ks y.1->y.1<i)/\(jj ks y.2->y.2<i)/\Lk1 ks y
theorem mW.up{ks:List (Option Kn)}(h:mW ks i lk)(hn:¬jj ks i):mW ks (i+1) lk:=by
 obtain⟨h1,⟨h2,h3,h4,h5,h6,h7⟩,h8⟩:=h;refine⟨h1,⟨by exact yh,AM h3 (aaj (Bz i)),h4,h5,?_,h7⟩,fun y hy=>by obtain⟨a,b,c,d,f⟩:=h8 y hy;exact⟨a,b,fun z=>Cm (c z),fun z=>Cm (d z),f⟩⟩;rw[h6];unfold mj;rw[AN,AL];cases e:ks[i]? with
 |none=>rfl
 |some k=>
  cases k with
  |none=>rfl
  |some k=>
   cases k with|nd e i j=>rfl|lf t x=>cases t with|true=>rfl|false=>exact absurd ⟨x,e⟩ hn
theorem mW.more{ks:List (Option Kn)}(h:mW ks i lk)(hx:ks[i]?=some (some (.lf false x)))(hm:ks[m]?=some (some (.lf true x)))(hu:m∉xj lk):mW ks (i+1) (lk++[(min i m,max i m)]):=by
 have hp:jj ks i:=⟨x,hx⟩;obtain⟨h1,⟨h2,h3,h4,h5,h6,h7⟩,h8⟩:=h;have hi:i<ks.length:=by obtain⟨x,e⟩:=hp;exact qx e
 have hml:=qx hm;have nm:¬jj ks m:=fun⟨y,e⟩=>by rw[hm] at e;cases e
 have one:min i m=i/\max i m=m\/min i m=m/\max i m=i:=by lia
 have ni:i∉xj lk:=fun z=>by
  unfold xj at z;obtain⟨y,hy,hq⟩:=AY.mp z;obtain⟨_,_,c,d,_⟩:=h8 y hy;rcases An.mp hq with e | e
  ·have:=c (e▸hp);lia
  ·have e:=Af.mp e;have:=d (e▸hp);lia
 have nim:i≠m:=fun z=>nm (z▸hp);have ep:xj (lk++[(min i m,max i m)])=xj lk++[min i m,max i m]:=by rw[fE,fN]
 have ex:(xj (lk++[(min i m,max i m)])).Nodup:=by
  rw[ep];refine AJ.mpr ⟨h4,?_,fun a ha b hb=>?_⟩
  ·rcases one with⟨e1,e2⟩ | ⟨e1,e2⟩<;>rw[e1,e2]
   ·exact Az.mpr ⟨by simp[nim],by simp⟩
   ·exact Az.mpr ⟨by simp[AR nim],by simp⟩
  ·rintro rfl;rcases one with⟨e1,e2⟩ | ⟨e1,e2⟩<;>rw[e1,e2] at hb
   ·rcases An.mp hb with rfl | hb
    ·exact ni ha
    ·rw[Af.mp hb] at ha;exact hu ha
   ·rcases An.mp hb with rfl | hb
    ·exact hu ha
    ·rw[Af.mp hb] at ha;exact ni ha
 refine⟨?_,⟨by rw[Aa,AI];exact nN,by rw[Aa,AI,aal hp];exact nN,ex,?_,?_,?_⟩,fun y hy=>?_⟩
 ·refine AJ.mpr ⟨h1,Az.mpr ⟨by simp,CG⟩,fun a ha b hb=>?_⟩;rw[Af.mp hb];rintro rfl;refine ni ?_;unfold xj;refine AY.mpr ⟨_,ha,?_⟩;rcases one with⟨e1,e2⟩ | ⟨e1,e2⟩<;>simp[e1,e2]
 ·rw[ep];intro p hp2;rcases Ah.mp hp2 with hp2 | hp2
  ·exact h5 p hp2
  ·have:p=i\/p=m:=by
    have:p=min i m\/p=max i m:=by simpa using hp2
    lia
   rcases this with rfl | rfl
   ·obtain⟨z,e⟩:=hp;exact⟨_,e,rfl⟩
   ·exact⟨_,hm,rfl⟩
 ·rw[Aa,AI,h6];unfold mj;obtain⟨z,e⟩:=hp;rw[AN,e,AL];rfl
 ·intro y hy;rcases Ah.mp hy with hy | hy
  ·exact h7 y hy
  ·rw[Af.mp hy];rcases one with⟨e1,e2⟩ | ⟨e1,e2⟩
   ·exact .inl (by show jj ks (min i m);rw[e1];exact hp)
   ·exact .inr (by show jj ks (max i m);rw[e2];exact hp)
 ·rcases Ah.mp hy with hy | hy
  ·obtain⟨a,b,c,d,f⟩:=h8 y hy;exact⟨a,b,fun z=>Cm (c z),fun z=>Cm (d z),f⟩
  ·rw[Af.mp hy];refine⟨by show min i m<_;lia,by show max i m<_;omega,fun z=>?_,fun z=>?_,?_⟩
   rotate_right
   ·unfold Lk1;rcases one with⟨e1,e2⟩ | ⟨e1,e2⟩<;>simp only[e1,e2]
    ·exact⟨by lia,false,x,hx,hm⟩
    ·exact⟨by lia,true,x,hm,hx⟩
   ·show min i m<i+1;lia
   ·show max i m<i+1;have z:jj ks (max i m):=z;by_cases c:m≤i
    ·omega
    ·have e:max i m=m:=by lia
     rw[e] at z;exact absurd z nm
inductive iO(ks:List (Option Kn)):Nat->List (Nat×Nat)->Prop
 |zero:iO ks 0 []
 |plain {i m:Nat} {lk:List (Nat×Nat)} {x:Str}:iO ks i lk->ks[i]?=some (some (.lf false x))->ks[m]?=some (some (.lf true x))->m∉xj lk->iO ks (i+1) (lk++[(min i m,max i m)])
 |skip {i:Nat} {lk:List (Nat×Nat)}:iO ks i lk->¬jj ks i->iO ks (i+1) lk
def kH(L:qk)(w:Addr)(ks:List (Option Kn))(i:Nat)(lks:List (List (Nat×Nat))):Prop:=∃as:List Addr,L w=some (.lst (as.map Y.ref))/\Paired (fun b lk=>L b=some (.lst (zf lk))/\b≠w/\mW ks i lk) as lks
theorem al{α β:Type}{R:α->β->Prop}:∀{xs:List α} {ys:List β} {i:Nat} {x:α},Paired R xs ys->xs[i]?=some x->∃y,ys[i]?=some y/\R x y
 |_,_,0,_,.cons r _,e=>by cases e;exact⟨_,rfl,r⟩
 |_,_,i+1,_,.cons _ t,e=>al (i:=i) t e
theorem bx{α β:Type}{R:α->β->Prop}:∀{xs:List α} {ys:List β} {x:α} {y:β},Paired R xs ys->R x y->Paired R (xs++[x]) (ys++[y])
 |_,_,_,_,.nil,r=>.cons r .nil
 |_,_,_,_,.cons a t,r=>.cons a (bx t r)
theorem vn{α β:Type}{R S:α->β->Prop}(h:∀a b,R a b->S a b):∀{xs:List α} {ys:List β},Paired R xs ys->Paired S xs ys
 |_,_,.nil=>.nil
 |_,_,.cons a t=>.cons (h _ _ a) (vn h t)
def ah(ks:List (Option Kn))(x:Str):Nat:=(aC (au x) ks ks.length).length
def dm:jc:=fun ys L Q=>∃a w,∃ks:List (Option Kn),∃i:Nat,∃ii:Int,∃x:Str,∃lks,ys=[.ref a,.ref w,.int ii]/\ii=(i:Int)/\L a=some (.lst (cV ks))/\kH L w ks i lks/\(∀k∈ks,k≠none)/\ks.length≤1000/\ks[i]?=some (some (.lf false x))/\lks.length*ah ks x≤100000/\
 ∀L' w' lks',qg L L'->L w'=none->kH L' w' ks (i+1) lks'->lks'.length≤lks.length*ah ks x->(lks≠[]->kS ks->lks'≠[])->(∀lk∈lks,∀m,ks[m]?=some (some (.lf true x))->m∉xj lk->lk++[(min i m,max i m)]∈lks')->Q (.ref w') L'
theorem abv(m:Nat)(l:List Nat):tP (fU (.int (m:Int))) ((nY l).map fU)=decide (m∈l):=by
 induction l with
 |nil=>rfl
 |cons n r ih=>
  have e:tP (fU (.int (m:Int))) ((nY (n::r)).map fU)=(iM (fU (.int (n:Int))) (fU (.int (m:Int)))||tP (fU (.int (m:Int))) ((nY r).map fU)):=rfl;rw[e,ih];have e2:iM (fU (.int (n:Int))) (fU (.int (m:Int)))=decide (n=m):=iU n m;rw[e2];by_cases c:n=m
  ·subst c;simp
  ·by_cases d:m∈r
   ·simp[d]
   ·simp[c,d,AR c]
theorem ac9(l:List Nat):(nY l).all gi=true:=by rw[B1];intro y hy;obtain⟨n,_,rfl⟩:=Bh.mp hy;rfl
theorem acy{ks:List (Option Kn)}(h:m∈aC (au x) ks ks.length):ks[m]?=some (some (.lf true x)):=by
 obtain⟨_,k,ek,hk⟩:=aJ h;cases k with
 |none=>cases hk
 |some k=>
  cases k with
  |nd e i j=>cases hk
  |lf t n=>
   have hk:(t&&decide (n=x))=true:=hk;rw[A2] at hk;obtain⟨h1,h2⟩:=hk;have h2:=of_decide_eq_true h2;subst h1 h2;exact ek
theorem su:∀ys L Q,dm ys L Q->x0 (ft (aP 63) n6) 8 ys L Q:=by
 rintro ys L Q ⟨a,w,ks,i,ii,x,lks,rfl,rfl,ha,⟨as,hw,pa⟩,hno,hz,ek,hbd,q⟩;have a1:bW (cV ks) (i:Int)=some (iJ (some (.lf false x))):=xr (by rw[Ai,ek];rfl);have hi:=qx ek;refine jk ha fun keep kp=>jV (f:=au x) hz (kp L rfl) (fun m k R zs em h1 h2=>?_) fun mt hmt=>?_
 ·cases k with
  |none=>exact absurd rfl (hno none (Ay em))
  |some k=>
   have hd:∀k:Kn,(au x (some k)=true->R (zs++[.int (m:Int)]) L)->(au x (some k)=false->R zs L)->km (Da.eq (cM k) (fA (.leaf true x))) (R (zs++[.int (m:Int)]) L) (R zs L):=fun k h1 h2=>by rw[ab0];cases hb:au x (some k) with|true=>exact h1 hb|false=>exact h2 hb
   cases k with|lf t n=>exact qe ha (qm a1 ⟨.leaf false x,rfl,by show 1≤63;decide,rfl,rfl,1,1,cM (.lf t n),fA (.leaf true x),by decide,jH (.lf t n),aZ (Am 1),hd _ h1 h2⟩)|nd e i' j'=>exact qe ha (qm a1 ⟨.leaf false x,rfl,by show 1≤63;decide,rfl,rfl,1,1,cM (.nd e i' j'),fA (.leaf true x),by decide,jH (.nd e i' j'),aZ (Am 1),hd _ h1 h2⟩)
 obtain⟨mts,emts⟩:∃mts,mts=aC (au x) ks ks.length:=⟨_,rfl⟩;have hM:ah ks x=mts.length:=by rw[emts];rfl
 rw[<-emts];intro lg hlg;have s2:qg L (qd (qd L mt (.lst (nY mts))) lg (.lst [])):=(By hmt).trans (By hlg);have nlg:L lg=none:=vi hlg;have nml:mt≠lg:=k8 q8 hlg;have g0:(qd (qd L mt (.lst (nY mts))) lg (.lst [])) mt=some (.lst (nY mts)):=(qb nml).trans q8;have g1:(qd (qd L mt (.lst (nY mts))) lg (.lst [])) lg=some (.lst []):=q8;generalize qd (qd L mt (.lst (nY mts))) lg (.lst [])=L2 at s2 g0 g1;have la:as.length=lks.length:=wu pa;refine kf (ys:=as.map Y.ref) (zd (s2 _ _ hw)) (fun k τ L'=>∃as' lks' c5 c6 c7,τ=[some (.ref a),some (.ref w),some (.int (i:Int)),some (.ref mt),some (.ref lg),c5,c6,c7]/\qg L L'/\L' mt=some (.lst (nY mts))/\L' lg=some (.lst (as'.map Y.ref))/\Paired (fun b lk=>L' b=some (.lst (zf lk))/\b≠lg/\mW ks (i+1) lk) as' lks'/\lks'.length≤k*mts.length/\(k≠0->kS ks->lks'≠[])/\∀lk∈lks.take k,∀m∈mts,m∉xj lk->lk++[(min i m,max i m)]∈lks') ⟨[],[],_,_,_,rfl,s2,g0,g1,.nil,Bf _,(fun z=>absurd rfl z),fun lk h=>by cases h⟩ ?_ ?_ ?_
 ·rintro k τ L' ⟨as',lks',c5,c6,c7,rfl,s,_⟩;rw[s _ _ hw,s2 _ _ hw]
 ·rintro k y τ L' hy ⟨as',lks',c5,c6,c7,rfl,s,m1,l1,p1,n1,_,cp⟩;rw[Ai] at hy;obtain⟨b,eb,rfl⟩:=Aj.mp hy;have hk:=qx eb;obtain⟨lk,elk,hb,hbw,wy⟩:=al pa eb;have hlk:=wy.2.1.1;have hkl:(k+1)*mts.length≤lks.length*mts.length:=Nat.mul_le_mul_right _ (by lia);rw[Nat.add_mul,Nat.one_mul] at hkl;rw[hM] at hbd;refine⟨b,lk,rfl,s _ _ hb,by lia,fun us hus=>?_⟩;have t1:qg L' (qd L' us (.lst (nY (xj lk)))):=By hus;refine kf (ys:=nY mts) (zd (t1 _ _ m1)) (fun j τ L''=>∃as' lks' c7,τ=[some (.ref a),some (.ref w),some (.int (i:Int)),some (.ref mt),some (.ref lg),some (.ref b),some (.ref us),c7]/\qg L L''/\L'' mt=some (.lst (nY mts))/\L'' us=some (.lst (nY (xj lk)))/\L'' lg=some (.lst (as'.map Y.ref))/\Paired (fun b lk=>L'' b=some (.lst (zf lk))/\b≠lg/\mW ks (i+1) lk) as' lks'/\lks'.length≤k*mts.length+j/\us≠lg/\(lks'≠[]\/∀m∈mts.take j,m∈xj lk)/\(∀lk∈lks.take k,∀m∈mts,m∉xj lk->lk++[(min i m,max i m)]∈lks')/\∀m∈mts.take j,m∉xj lk->lk++[(min i m,max i m)]∈lks') ⟨as',lks',_,rfl,s.trans t1,t1 _ _ m1,q8,t1 _ _ l1,vn (fun c d ⟨h1,h2⟩=>⟨t1 _ _ h1,h2⟩) p1,by omega,AR (k8 l1 hus),(.inr fun m hm=>by cases hm),cp,fun m hm=>by cases hm⟩ ?_ ?_ ?_
  ·rintro j τ L'' ⟨as',lks',c7,rfl,s',m2,_⟩;rw[m2,t1 _ _ m1]
  ·rintro j y τ L'' hy2 ⟨as2,lks2,c7,rfl,s',m2,u2,l2,p2,n2,nul,av,cp,cj⟩;obtain⟨m,em,rfl⟩:=bY hy2;have hj:=qx em;have etj:mts.take (j+1)=mts.take j++[m]:=by rw[AN,em];rfl
   have mm:=acy (x:=x) (ks:=ks) (m:=m) (by rw[<-emts];exact Ay em);refine qe u2 ⟨rfl,ac9 _,?_⟩;rw[abv];by_cases c:m∈xj lk
   ·refine kh (by rw[Aw c];rfl) ⟨_,DA _,as2,lks2,_,rfl,s',m2,u2,l2,p2,by exact yh,nul,av.imp id fun h z hz=>?_,cp,fun z hz hn=>?_⟩
    rotate_right
    ·rw[etj] at hz;rcases Ah.mp hz with hz | hz
     ·exact cj z hz hn
     ·rw[Af.mp hz] at hn;exact absurd c hn
    rw[AN,em] at hz;rcases Ah.mp hz with hz | hz
    ·exact h z hz
    ·rw[Af.mp hz];exact c
   ·refine cD (by rw[As c];rfl) ?_;have l2n:(as2.map Y.ref).length≤100000:=by rw[Ab,wu p2];lia
    refine qe l2 fun q1 hq1=>?_;have e1:(Y.tup [.int (min (i:Int) (m:Int)),.int (max (i:Int) (m:Int))])=prN (min i m,max i m):=by have e2:min (i:Int) (m:Int)=((min i m:Nat):Int):=an6 i m;have e3:max (i:Int) (m:Int)=((max i m:Nat):Int):=ao1 i m;unfold prN;rw[<-e2,<-e3]
    have v1:=By (o:=.lst [Y.tup [.int (min (i:Int) (m:Int)),.int (max (i:Int) (m:Int))]]) hq1;refine⟨_,_,v1 _ _ (s' _ _ hb),q8,by rw[Ab,AI];have:=ag6;lia,fun q2 hq2=>?_⟩;have v2:=v1.trans (By (o:=.lst (zf lk++[Y.tup [.int (min (i:Int) (m:Int)),.int (max (i:Int) (m:Int))]])) hq2);have nql:q2≠lg:=AR (k8 (v1 _ _ l2) hq2);refine qu (v2 _ _ l2) ⟨AO l2n (by decide),_,DA _,as2++[q2],lks2++[lk++[(min i m,max i m)]],_,rfl,(s'.trans v2).upd nlg,?_,?_,?_,?_,?_,nul,.inl (by simp),fun lk' h m' hm' hn=>Ao _ (cp lk' h m' hm' hn),fun z hz hn=>?_⟩
    rotate_right
    ·rw[etj] at hz;rcases Ah.mp hz with hz | hz
     ·exact Ao _ (cj z hz hn)
     ·rw[Af.mp hz];exact Ag _ (Af.mpr rfl)
    ·rw[qb (fun z=>nml z)];exact v2 _ _ m2
    ·rw[qb nul];exact v2 _ _ u2
    ·rw[q8,Ar];rfl
    ·refine bx (vn (fun c d ⟨h1,h2,h3⟩=>⟨(qb h2).trans (v2 _ _ h1),h2,h3⟩) p2) ⟨?_,nql,wy.more ek mm c⟩;rw[qb nql,q8,e1];unfold zf;rw[Ar];rfl
    ·rw[Aa,AI];exact nN
  ·rintro τ L'' ⟨as2,lks2,c7,rfl,s',m2,u2,l2,p2,n2,nul,av,cp,cj⟩;rw[vk] at n2 av cj;rw[AF] at av cj;refine⟨_,DA _,as2,lks2,_,_,_,rfl,s',m2,l2,p2,?_,fun _ A=>av.elim id fun h=>?_,fun lk' h m' hm' hn=>?_⟩
   rotate_right
   ·have ek':lks.take (k+1)=lks.take k++[lk]:=by rw[AN,elk];rfl
    rw[ek'] at h;rcases Ah.mp h with h | h
    ·exact cp lk' h m' hm' hn
    ·rw[Af.mp h] at hn ⊢;exact cj m' hm' hn
   rotate_left
   ·obtain⟨m,em,hm⟩:=A i lk x wy.2.1.2.2 ek;exact absurd (h m (by rw[emts];exact ic em (by simp[au]) (qx em))) hm
   rw[Nat.add_mul,Nat.one_mul];exact n2
 ·rintro τ L' ⟨as',lks',c5,c6,c7,rfl,s,m1,l1,p1,n1,av,cp⟩;rw[Ab,la] at n1 av cp;rw[AF] at cp;rw[hM] at q;exact xu (q L' lg lks' s nlg ⟨as',l1,p1⟩ n1 (fun h=>av fun z=>h (Cg.mp z)) fun lk h m hm hn=>cp lk h m (by rw[emts];exact ic hm (by simp[au]) (qx hm)) hn)
def sO(ks:List (Option Kn)):Option Kn->Nat
 |some (.lf false x)=>ah ks x
 |_=>1
def uP(ks:List (Option Kn))(i:Nat):Nat:=((ks.take i).map (sO ks)).prod
theorem yL{ks:List (Option Kn)}{k:Option Kn}(h:ks[i]?=some k):uP ks (i+1)=uP ks i*sO ks k:=by unfold uP;rw[AN,h,Ar,List.prod_append];simp
theorem mW.perm{ks:List (Option Kn)}{lk':List (Nat×Nat)}(h:mW ks i lk)(p:lk'.Perm lk):mW ks i lk':=by obtain⟨h1,⟨h2,h3,h4,h5,h6,h7⟩,h8⟩:=h;have pp:(xj lk').Perm (xj lk):=p.flatMap_right _;exact⟨p.nodup_iff.mpr h1,⟨by rw[p.length_eq];exact h2,by rw[p.length_eq];exact h3,pp.nodup_iff.mpr h4,fun x hx=>h5 x (pp.mem_iff.mp hx),by rw[p.length_eq];exact h6,fun y hy=>h7 y (p.mem_iff.mp hy)⟩,fun y hy=>h8 y (p.mem_iff.mp hy)⟩
def wM(p:Nat×Nat):Int×Int:=((p.1:Int),(p.2:Int))
theorem oE(lk:List (Nat×Nat)):zf lk=(lk.map wM).map prY:=by unfold zf;rw[Bm];rfl
def nV(a b:Nat×Nat):Prop:=a.1<b.1\/(a.1=b.1/\a.2≤b.2)
def aj8(L0 L:qk)(w:Addr)(ks:List (Option Kn))(lks:List (List (Nat×Nat))):Prop:=∃as:List Addr,L w=some (.lst (as.map Y.ref))/\Paired (fun b lk=>L b=some (.lst (zf lk))/\L0 b=none/\mW ks ks.length lk/\lk.Pairwise nV) as lks
def oU:jc:=fun ys L Q=>∃a,∃ks:List (Option Kn),ys=[.ref a]/\L a=some (.lst (cV ks))/\(∀k∈ks,k≠none)/\ks.length≤1000/\((∀i≤ks.length,uP ks i≤100000)/\yV ks ks.length≤63)/\∀L' w' lks,qg L L'->L w'=none->aj8 L L' w' ks lks->lks.length≤uP ks ks.length->(kS ks->lks≠[])->(∀lk,iO ks ks.length lk->∃lk'∈lks,lk'.Perm lk)->Q (.ref w') L'
theorem ad1:∀ys L Q,oU ys L Q->x0 (jR dm) 4 ys L Q:=by
 rintro ys L Q ⟨a,ks,rfl,ha,hno,hz,⟨hB,h63⟩,q⟩;intro e he w0 hw0;have s0:qg L (qd (qd L e (.lst [])) w0 (.lst [.ref e])):=(By he).trans (By hw0);have new0:e≠w0:=k8 q8 hw0;have W0:kH (qd (qd L e (.lst [])) w0 (.lst [.ref e])) w0 ks 0 [[]]:=⟨[e],q8,.cons ⟨(qb new0).trans q8,new0,CG,⟨Am _,Am _,CG,(fun y hy=>by cases hy),rfl,fun y hy=>by cases hy⟩,fun y hy=>by cases hy⟩ .nil⟩;have nw0:L w0=none:=vi hw0;refine jk (s0 _ _ ha) fun keep kp=>aK ⟨fun i τ L'=>∃w' lks c2 c3,τ=[some (Y.ref a),some (Y.ref w'),c2,c3]/\qg L L'/\L w'=none/\kH L' w' ks i lks/\lks.length≤uP ks i/\(kS ks->lks≠[])/\∀lk,iO ks i lk->lk∈lks,⟨w0,[[]],_,_,rfl,s0,nw0,W0,(by unfold uP;simp),(fun _=>by simp),fun lk h=>by cases h;exact Af.mpr rfl⟩,?_,?_,?_⟩
 ·rintro i τ L' ⟨w',lks,c2,c3,rfl,s,_⟩;exact kp L' (by rw[s _ _ ha,s0 _ _ ha])
 ·rintro i y τ L' hy ⟨w',lks,c2,c3,rfl,s,nw,wa,hl,av,mk⟩;obtain⟨z,ez,rfl⟩:=ak hy;rw[Ai] at ez;obtain⟨k,ek,rfl⟩:=Aj.mp ez;have hi:=qx ek;have bs:=yL ek;have up:¬jj ks i->∀{as:List Addr} {lks:List (List (Nat×Nat))} {L':qk} {w':Addr},Paired (fun b lk=>L' b=some (.lst (zf lk))/\b≠w'/\mW ks i lk) as lks->Paired (fun b lk=>L' b=some (.lst (zf lk))/\b≠w'/\mW ks (i+1) lk) as lks:=fun np=>fun p=>vn (fun _ _ ⟨h1,h2,h3⟩=>⟨h1,h2,h3.up np⟩) p;have stay:sO ks k=1->¬jj ks i->∀c2 c3,bV (fun(τ:j9) (L':qk)=>∃w' lks c2 c3,τ=[some (Y.ref a),some (Y.ref w'),c2,c3]/\qg L L'/\L w'=none/\kH L' w' ks (i+1) lks/\lks.length≤uP ks (i+1)/\(kS ks->lks≠[])/\∀lk,iO ks (i+1) lk->lk∈lks) [some (Y.ref a),some (Y.ref w'),c2,c3] L':=fun h1 np c2 c3=>by obtain⟨as,hw,pa⟩:=wa;exact⟨_,DA _,w',lks,c2,c3,rfl,s,nw,⟨as,hw,up np pa⟩,(by rw[bs,h1,Nat.mul_one];exact hl),av,fun lk h=>by cases h with | plain _ e _ _=>exact absurd ⟨_,e⟩ np | skip h _=>exact mk lk h⟩
  cases k with
  |none=>exact absurd rfl (hno none (Ay ek))
  |some k=>
   cases k with
   |nd e' i' j'=>
    cases e' with|true=>exact stay rfl (fun⟨_,e⟩=>by rw[ek] at e;cases e) _ _|false=>exact stay rfl (fun⟨_,e⟩=>by rw[ek] at e;cases e) _ _
   |lf t x=>
    cases t with
    |true=>exact stay rfl (fun⟨_,e⟩=>by rw[ek] at e;cases e) _ _
    |false=>
     have hb1:=hB (i+1) (by assumption);have fe:sO ks (some (.lf false x))=ah ks x:=rfl;rw[fe] at bs;have lb:lks.length*ah ks x≤uP ks (i+1):=by rw[bs];exact Nat.mul_le_mul_right _ hl
     refine⟨a,w',ks,i,_,x,lks,rfl,rfl,s _ _ ha,wa,hno,hz,ek,by exact adi,fun L3 w3 lks3 s3 n3 wa3 hl3 av3 cp=>?_⟩;refine⟨_,DA _,w3,lks3,_,_,rfl,s.trans s3,xb s n3,wa3,(by exact adi),(fun A=>av3 (av A) A),fun lk h=>?_⟩;cases h with|plain h e em hn=>rw[ek] at e;cases e;exact cp _ (mk _ h) _ em hn|skip h np=>exact absurd ⟨x,ek⟩ np
 ·rintro τ L' ⟨w',lks,c2,c3,rfl,s,nw,⟨as,hw,pa⟩,hl,av,mk⟩;rw[aO,Ab] at pa hl mk;have la:as.length=lks.length:=wu pa;have hbn:=hB ks.length (Am _);refine jk hw fun keep kp=>ss ⟨by rw[Ab];exact AO (by lia:as.length≤100000) (by decide),fun k zs L2=>∃ds lks2,zs=ds.map Y.ref/\qg L' L2/\Paired (fun b lk=>L2 b=some (.lst (zf lk))/\L b=none/\mW ks ks.length lk/\lk.Pairwise nV) ds lks2/\lks2.length=k/\∀lk∈lks.take k,∃lk'∈lks2,lk'.Perm lk,⟨[],[],rfl,DA _,.nil,rfl,fun lk h=>by cases h⟩,?_,?_,?_⟩
  ·rintro k zs L2 ⟨ds,lks2,rfl,s2,_⟩;exact kp L2 (by rw[s2 _ _ hw,hw])
  ·rintro k y zs L2 hy ⟨ds,lks2,rfl,s2,pd,ld,cp⟩;rw[Ai] at hy;obtain⟨b,eb,rfl⟩:=Aj.mp hy;obtain⟨lk,elk,hb,_,wy⟩:=al pa eb;refine qu (s2 _ _ hb) ⟨lk.map wM,oE lk,fun p hp=>?_,?_,?_,fun D qs hD pm pw=>?_⟩
   ·obtain⟨r,hr,rfl⟩:=Bh.mp hp;have:=(wy.2.2 r hr).2.1;show(0:Int)≤((r.2:Nat):Int)/\((r.2:Nat):Int)<1000000;omega
   ·exact bB (fun x hx y hy e=>by have e1:((x.1:Nat):Int)=(y.1:Int):=Bs Prod.fst e;have e2:((x.2:Nat):Int)=(y.2:Int):=Bs Prod.snd e;exact Prod.ext (by lia) (by lia)) wy.1
   ·rw[Ab];have:=wy.2.1.2.1;lia
   ·obtain⟨lk',pl,rfl⟩:=li wM pm rfl;have nD:L D=none:=xb (s.trans s2) hD;refine⟨_,DA _,ds++[D],lks2++[lk'],by rw[Ar];rfl,s2.trans (By hD),?_,by rw[Aa,AI,ld],fun l h=>?_⟩
    rotate_right
    ·have et:lks.take (k+1)=lks.take k++[lk]:=by rw[AN,elk];rfl
     rw[et] at h;rcases Ah.mp h with h | h
     ·obtain⟨l',h1,h2⟩:=cp l h;exact⟨l',Ao _ h1,h2⟩
     ·rw[Af.mp h];exact⟨lk',Ag _ (Af.mpr rfl),pl⟩
    refine bx (vn (fun c d ⟨h1,h2⟩=>⟨By hD _ _ h1,h2⟩) pd) ⟨?_,nD,wy.perm pl,?_⟩
    ·rw[q8,<-oE]
    ·refine(BG.mp pw).imp fun {a b} h=>?_;have h:((a.1:Nat):Int)<(b.1:Int)\/(((a.1:Nat):Int)=(b.1:Int)/\((a.2:Nat):Int)≤(b.2:Int)):=h;unfold nV;lia
  ·rintro zs L2 ⟨ds,lks2,rfl,s2,pd,ld,cp⟩ p hp;rw[Ab] at ld cp;rw[la,AF] at cp;refine xu (q _ p lks2 ((s.trans s2).trans (By hp)) (xb (s.trans s2) hp) ⟨ds,q8,vn (fun c d ⟨h1,h2⟩=>⟨By hp _ _ h1,h2⟩) pd⟩ (by lia) (fun A z=>av A (Cg.mp (by rw[z] at ld;have:0=as.length:=ld;lia))) fun lk h=>cp lk (mk lk h))
def mw:jc:=fun ys L Q=>∃a,∃ks:List (Option Kn),ys=[.ref a]/\L a=some (.lst (cV ks))/\(∀k∈ks,k≠none)/\ks.length≤1000/\((∀i≤ks.length,uP ks i≤100000)/\yV ks ks.length≤63)/\KnR ks/\(∀b e lk L',qg L L'->L' b=some (.lst (zf lk))->L' e=some (.lst [])->mW ks ks.length lk->lk.Pairwise nV->((xw ks).length=ks.length->Rt ks lk [])->Q (.tup [.str "web",dR a b e]) L')/\(¬(kS ks/\∀lk,acz ks ks.length lk->Rt ks lk [])->(∀lk,iO ks ks.length lk->∃lk',lk'.Perm lk/\¬Rt ks lk' [])->∀y L',qg L L'->Q (.tup [.str "tries",y]) L')
theorem ah2:∀ys L Q,mw ys L Q->x0 (eI oU n5) 5 ys L Q:=by
 rintro ys L Q ⟨a,ks,rfl,ha,hno,hz,⟨hB,h63⟩,hkr,q1,q2⟩;intro p0 hp0;have s0:qg L (qd L p0 (.lst [])):=By hp0;refine⟨a,ks,rfl,s0 _ _ ha,hno,hz,⟨hB,h63⟩,fun L1 w lks s1 nw ⟨as,hw,pa⟩ hl av cp=>?_⟩;have hb:=hB ks.length (Am _);have la:as.length=lks.length:=wu pa;have hwp:w≠p0:=AR (k8 q8 nw);have h0:L1 p0=some (.lst []):=s1 _ _ q8;have sL:qg L L1:=s0.trans s1;refine kf (ys:=as.map Y.ref) (zd hw) (fun k τ L'=>∃ts c2 c3 c4,τ=[some (.ref a),some (.ref p0),c2,c3,c4]/\qg L L'/\L' w=some (.lst (as.map Y.ref))/\L' p0=some (.lst ts)/\Paired (fun b lk=>L' b=some (.lst (zf lk))/\b≠p0/\mW ks ks.length lk/\lk.Pairwise nV) as lks/\ts.length≤k/\((kS ks/\∀lk,acz ks ks.length lk->Rt ks lk [])->k=0)/\∀lk∈lks.take k,¬Rt ks lk []) ⟨[],_,_,_,rfl,sL,hw,h0,vn (fun b lk ⟨h1,h2,h3⟩=>⟨h1,AR (k8 q8 h2),h3⟩) pa,Am _,(fun _=>rfl),fun lk h=>by cases h⟩ ?_ ?_ ?_
 ·rintro k τ L' ⟨ts,c2,c3,c4,rfl,_,h,_⟩;rw[h,hw]
 ·rintro k y τ L' hy ⟨ts,c2,c3,c4,rfl,s,w1,t1,p1,l1,_,nr⟩;rw[Ai] at hy;obtain⟨b,eb,rfl⟩:=Aj.mp hy;have hk:=qx eb;obtain⟨lk,elk,hb1,hbp,wy,ws⟩:=al p1 eb;intro e he;have v1:qg L' (qd L' e (.lst [])):=By he;have hlk:=wy.2.1.1;refine⟨a,b,e,ks,lk,[],rfl,⟨v1 _ _ (s _ _ ha),v1 _ _ hb1,q8,hz,by exact adi,Bf _,fun x hx=>⟨(wy.2.2 x hx).1,(wy.2.2 x hx).2.1⟩,(fun x hx=>by cases hx),hkr⟩,fun hR=>xu (q1 b e lk _ (s.trans v1) (v1 _ _ hb1) q8 wy ws hR),fun nR c zs hc hzs=>?_⟩;have v2:=v1.trans (By (o:=.lst zs) hc);refine qe (v2 _ _ t1) (qu (v2 _ _ t1) ⟨AO (by lia:ts.length≤100000) (by decide),_,DA _,ts++[_],_,_,_,rfl,(s.trans v2).upd hp0,?_,q8,?_,?_,fun G=>absurd (G.2 lk wy.2.1.2.2) nR,fun l h=>?_⟩)
  rotate_right
  ·have et:lks.take (k+1)=lks.take k++[lk]:=by rw[AN,elk];rfl
   rw[et] at h;rcases Ah.mp h with h | h
   ·exact nr l h
   ·rw[Af.mp h];exact nR
  ·rw[qb hwp];exact v2 _ _ w1
  ·exact vn (fun c d ⟨h1,h2,h3⟩=>⟨(qb h2).trans (v2 _ _ h1),h2,h3⟩) p1
  ·rw[Aa,AI];exact nN
 ·rintro τ L' ⟨ts,c2,c3,c4,rfl,s,_,_,_,_,hG,nr⟩;rw[Ab,la,AF] at nr;refine xu (q2 (fun G=>?_) (fun lk h=>let ⟨l,h1,h2⟩:=cp lk h;⟨l,h2,nr l h1⟩) _ _ s);have z:=hG G;rw[Ab,la] at z;exact av G.1 (Cg.mp z)
def sw(p0:jc)(p1:jc):k6:=(mG (vg (yB (qw p0 (kc (qa 1)))) (jx (bU zw (qa 0) (kc (qa 1)))) (qo (z8 (qw p1 (bO (qa 0) (vh 1 1))) (qc 2))
 (qo (z8 (qw p1 (bO (qa 0) (vh 1 2))) (qc 3))
 (jx (bU zw (qa 0) (qh (aX (qh (vh 1 0) (bO (qa 2) (qa 3)))) qz))))))
 (jd (zm pY (dZ 0) (jt 1))))
def ain(p0:jc):k6:=(qo (z8 (xz qz) (qc 1))
 (qo (z8 (xz qz) (qc 2))
 (qo (a7 (jq (qa 0)) (qc 3) (jx (bU zw (qa 2) (qh (qw p0 (bO (qa 1) (qa 3))) qz))))
 (jd (wA (qa 1) (qa 2))))))
def ww:Nat->Wd->List Y
 |_,.leaf t n=>[.tup [.str (kL t),.str n]]
 |b,.node e l r=>(ww b l++ww (b+l.size) r)++[.tup [.str (kN e),.int ((b+l.size - 1:Nat)),.int ((b+l.size+r.size - 1:Nat))]]
theorem xn:∀(b:Nat) (w:Wd),(ww b w).length=w.size
 |_,.leaf _ _=>rfl
 |b,.node e l r=>by show((ww b l++ww (b+l.size) r)++[_]).length=1+l.size+r.size;rw[Aa,Aa,xn,xn];show l.size+r.size+1=_;omega
def x9(n:Nat):jc:=fun ys L Q=>∃k ks wd,ys=[.ref k,x5 wd]/\L k=some (.lst ks)/\wd.depth≤n/\ks.length+wd.size≤1000/\Q (.int ((ks.length+wd.size - 1:Nat))) (qd L k (.lst (ks++ww ks.length wd)))
theorem gg:∀ys L Q,¬x9 0 ys L Q:=fun ys L Q ⟨k,ks,wd,_,_,hd,_⟩=>by cases wd<;>simp[Wd.depth] at hd
theorem pU(n:Nat):∀ys L Q,x9 (n+1) ys L Q->x0 (sw w6 (x9 n)) 4 ys L Q:=by
 rintro ys L Q ⟨k,ks,wd,rfl,hk,hd,hz,q⟩;cases wd with
 |leaf t nm=>
  have hz':ks.length+1≤1000:=hz;refine⟨_,⟨true,t,_,rfl,qe hk (qu hk ⟨wb (by omega),?_⟩)⟩,fun _ _ h=>h⟩;refine qe q8 ?_;have e:(((ks++[Y.tup [.str (kL t),.str nm]]).length:Int) - 1)=((ks.length+(Wd.leaf t nm).size - 1:Nat):Int):=by rw[Aa];show((ks.length+1:Nat):Int) - 1=((ks.length+1 - 1:Nat):Int);omega
  refine xu ?_;dsimp only;rw[show ks++[x5 (Wd.leaf t nm)]=ks++[Y.tup [.str (kL t),.str nm]] from rfl,e];exact q
 |node e l r=>
  have hd':max l.depth r.depth+1≤n+1:=hd;have hz':ks.length+(1+l.size+r.size)≤1000:=hz;have pl:=l.size_pos;have pr:=r.size_pos;refine⟨_,⟨false,e,_,rfl,k,ks,l,rfl,hk,by omega,by omega,k,_,r,rfl,q8,by omega,?_,qe q8 (qu q8 ⟨wb ?_,?_⟩)⟩,fun _ _ h=>h⟩
  ·rw[Aa,xn];omega
  ·rw[Aa,Aa,xn,xn];omega
  ·rw[zg,zg];refine qe q8 (xu ?_);have e1:(ks++ww ks.length l).length=ks.length+l.size:=by rw[Aa,xn]
   rw[e1];have e2:ks++ww ks.length l++ww (ks.length+l.size) r++[Y.tup [.str (kN e),.int ((ks.length+l.size - 1:Nat)),.int ((ks.length+l.size+r.size - 1:Nat))]]=ks++ww ks.length (.node e l r):=by show _=ks++((ww ks.length l++ww (ks.length+l.size) r)++[_]);simp only[Ba]
   rw[e2];have e3:(((ks++ww ks.length (.node e l r)).length:Int) - 1)=((ks.length+(Wd.node e l r).size - 1:Nat):Int):=by rw[Aa,xn];have:1≤(Wd.node e l r).size:=Wd.size_pos _;omega
   dsimp only;rw[e3];exact q
def SZ(ws:List Wd):Nat:=(ws.map Wd.size).sum
theorem sV(us vs:List Wd):SZ (us++vs)=SZ us+SZ vs:=by simp[SZ]
theorem yZ(w:Wd):SZ [w]=w.size:=by simp[SZ]
theorem dG(w:Wd)(r:List Wd):SZ (w::r)=w.size+SZ r:=by simp[SZ]
theorem afi(ws:List Wd):ws.length≤SZ ws:=by induction ws with|nil=>simp|cons w r ih=>have:=w.size_pos;rw[dG,AE];omega
theorem sX{w:Wd}(h:w∈ws):w.size≤SZ ws:=by
 induction ws with
 |nil=>cases h
 |cons v r ih=>
  rw[dG];rcases An.mp h with rfl | h
  ·omega
  ·have:=ih h;omega
theorem lI(w:Wd):2*w.depth≤w.size+1:=by have:=w.depth_le;have:=w.size_eq;omega
def js:Nat->List Wd->List Y
 |_,[]=>[]
 |b,w::r=>ww b w++js (b+w.size) r
theorem cb:∀(b:Nat) (us:List Wd) (w:Wd),js b (us++[w])=js b us++ww (b+SZ us) w
 |b,[],w=>by simp[js,SZ]
 |b,u::us,w=>by rw[Cs,js,js,cb,dG,Ba,Nat.add_assoc]
theorem w5:∀(b:Nat) (us:List Wd),(js b us).length=SZ us
 |_,[]=>rfl
 |b,u::us=>by rw[js,Aa,xn,w5,dG]
def uc:Nat->List Wd->List Y
 |_,[]=>[]
 |b,w::r=>.int ((b+w.size - 1:Nat))::uc (b+w.size) r
theorem qO:∀(b:Nat) (us:List Wd) (w:Wd),uc b (us++[w])=uc b us++[.int ((b+SZ us+w.size - 1:Nat))]
 |b,[],w=>by simp[uc,SZ]
 |b,u::us,w=>by rw[Cs,uc,uc,qO,dG,Cs,show b+u.size+SZ us=b+(u.size+SZ us) by omega]
theorem uF:∀(b:Nat) (us:List Wd),(uc b us).length=us.length
 |_,[]=>rfl
 |b,u::us=>by rw[uc,AE,uF,AE]
theorem eM{ws:List α}{w:α}(h:ws[i]?=some w):ws.take (i+1)=ws.take i++[w]:=by rw[AN,h];rfl
theorem uK(ws:List Wd)(i:Nat):SZ (ws.take i)≤SZ ws:=by have:=sV (ws.take i) (ws.drop i);rw[Bw] at this;omega
def iQ:jc:=fun ys L Q=>∃a ws,ys=[.ref a]/\L a=some (.lst ((ws:List Wd).map x5))/\SZ ws≤100/\∀k p,L k=none->L p=none->k≠p->Q (.tup [.ref k,.ref p]) (qd (qd L k (.lst (js 0 ws))) p (.lst (uc 0 ws)))
theorem ab5:∀ys L Q,iQ ys L Q->x0 (ain (x9 60)) 4 ys L Q:=by
 rintro ys L Q ⟨a,ws,rfl,ha,hz,q⟩;intro k hk p hp;have np:L p=none:=xb (By hk) hp;have nkp:k≠p:=k8 q8 hp;have nak:a≠k:=k8 ha hk;have nap:a≠p:=k8 ha np;have sb:∀o u,qg L (qd (qd L k o) p u):=fun o u=>(By hk).upd np;refine kf (ys:=ws.map x5) (zd (sb _ _ _ _ ha)) (fun i τ L'=>∃c,τ=[some (.ref a),some (.ref k),some (.ref p),c]/\L'=qd (qd L k (.lst (js 0 (ws.take i)))) p (.lst (uc 0 (ws.take i)))) ⟨_,rfl,rfl⟩ ?_ ?_ ?_
 ·rintro i τ L' ⟨c,rfl,rfl⟩;rw[sb _ _ _ _ ha,sb _ _ _ _ ha]
 ·rintro i y τ L' hy ⟨c,rfl,rfl⟩;rw[Ai] at hy;obtain⟨w,ew,rfl⟩:=Aj.mp hy;have hw:=sX (Ay ew);have hd:=lI w;have ht:=uK ws (i+1);rw[eM ew,sV,yZ] at ht;have hl:(ws.take i).length≤100:=AM (afi _) (by omega);refine qe q8 ⟨k,_,w,rfl,(qb nkp).trans q8,by omega,by rw[w5];omega,?_⟩;refine qu ((qb (AR nkp)).trans q8) ⟨wb (by rw[uF];omega),⟨_,DA _,_,rfl,?_⟩⟩;rw[w5,eM ew,cb,qO,ay (AR nkp),zg,zg,BF]
 ·rintro τ L' ⟨c,rfl,rfl⟩;rw[Ab,AF];exact xu (q k p hk np nkp)
def eE:Nat->Wd->List Kn
 |_,.leaf t n=>[.lf t n]
 |b,.node e l r=>(eE b l++eE (b+l.size) r)++[.nd e (b+l.size - 1) (b+l.size+r.size - 1)]
theorem sE:∀(b:Nat) (w:Wd),(eE b w).map bH=ww b w
 |_,.leaf _ _=>rfl
 |b,.node e l r=>by show((eE b l++eE (b+l.size) r)++[_]).map bH=(ww b l++ww (b+l.size) r)++[_];rw[Ar,Ar,sE,sE];rfl
def vf:Nat->List Wd->List Kn
 |_,[]=>[]
 |b,w::r=>eE b w++vf (b+w.size) r
theorem iP:∀(b:Nat) (ws:List Wd),(vf b ws).map bH=js b ws
 |_,[]=>rfl
 |b,w::r=>by rw[vf,Ar,sE,iP,js]
theorem l0(b:Nat)(ws:List Wd):(vf b ws).length=SZ ws:=by rw[<-w5 b ws,<-iP,Ab]
abbrev aF(ws:List Wd):List (Option Kn):=(vf 0 ws).map some
theorem zJ(ws:List Wd):cV (aF ws)=js 0 ws:=by unfold cV aF;rw[Bm,<-iP];rfl
theorem nO(ws:List Wd):(aF ws).length=SZ ws:=by rw[Ab,l0]
theorem iz(ws:List Wd):∀k∈aF ws,k≠none:=fun k hk=>by obtain⟨x,_,rfl⟩:=Bh.mp hk;exact fun z=>by cases z
def Low(n:Nat):Kn->Prop
 |.lf _ _=>True
 |.nd _ i j=>i<n/\j<n
theorem Low.mono(h:n≤m):∀{k:Kn},Low n k->Low m k
 |.lf _ _,_=>trivial
 |.nd _ _ _,⟨a,b⟩=>⟨AH a h,AH b h⟩
theorem kF:∀(b:Nat) (w:Wd),∀k∈eE b w,Low (b+w.size) k
 |_,.leaf _ _,k,hk=>by rw[Af.mp hk];trivial
 |b,.node e l r,k,hk=>by
  have pl:=l.size_pos;have pr:=r.size_pos;have es:(Wd.node e l r).size=1+l.size+r.size:=rfl;rcases Ah.mp hk with hk | hk
  ·rcases Ah.mp hk with hk | hk
   ·exact(kF b l k hk).mono (by omega)
   ·exact(kF (b+l.size) r k hk).mono (by omega)
  ·rw[Af.mp hk];exact⟨by omega,by omega⟩
theorem mD:∀(b:Nat) (ws:List Wd),∀k∈vf b ws,Low (b+SZ ws) k
 |_,[],k,hk=>by cases hk
 |b,w::r,k,hk=>by
  rw[vf] at hk;rw[dG];rcases Ah.mp hk with hk | hk
  ·exact(kF b w k hk).mono (by omega)
  ·exact(mD (b+w.size) r k hk).mono (by omega)
theorem aey(ws:List Wd):KnR (aF ws):=by intro p e i j h;have hm:=Ay h;obtain⟨k,hk,ek⟩:=Bh.mp hm;cases ek;have:=mD 0 ws _ hk;rw[nO,<-BF (SZ ws)];exact this
def jS:Option Kn->Option Wd
 |some (.lf t n)=>some (.leaf t n)
 |_=>none
theorem nI:∀(b:Nat) (w:Wd),((eE b w).map some).filterMap jS=w.leafL
 |_,.leaf _ _=>rfl
 |b,.node e l r=>by show(((eE b l++eE (b+l.size) r)++[_]).map some).filterMap jS=l.leafL++r.leafL;rw[Ar,Ar,Cq,Cq,nI,nI];simp[jS]
theorem cP:∀(b:Nat) (ws:List Wd),((vf b ws).map some).filterMap jS=LV ws
 |_,[]=>rfl
 |b,w::r=>by rw[vf,Ar,Cq,nI,cP];unfold LV;rw[A4]
def boN:Wd->Nat
 |.leaf _ _=>0
 |.node e l r=>boN l+boN r+if e=true then 0 else 1
def BO(ws:List Wd):Nat:=(ws.map boN).sum
theorem oK:∀(b:Nat) (w:Wd),((eE b w).map some).countP (zo false)=boN w
 |_,.leaf _ _=>rfl
 |b,.node e l r=>by show(((eE b l++eE (b+l.size) r)++[_]).map some).countP (zo false)=boN l+boN r+_;rw[Ar,Ar,AL,AL,oK,oK];cases e<;>rfl
theorem eS:∀(b:Nat) (ws:List Wd),((vf b ws).map some).countP (zo false)=BO ws
 |_,[]=>rfl
 |b,w::r=>by rw[vf,Ar,AL,oK,eS];unfold BO;rw[AD,List.sum_cons]
theorem w9(f:Option Kn->Bool)(ks:List (Option Kn)):∀i,i≤ks.length->(aC f ks i).length=(ks.take i).countP f
 |0,_=>rfl
 |i+1,h=>by have e:ks[i]?=some ks[i]:=Ak (by omega);rw[aW e,Aa,w9 f ks i (by omega),AN,e,AL];congr 1;cases hf:f ks[i]<;>simp[hf]
theorem zG(ks:List (Option Kn))(x:Str):ah ks x=je (ks.filterMap jS) true x:=by
 unfold ah je;rw[w9 _ _ _ (Am _),AF]
 induction ks with
 |nil=>rfl
 |cons k r ih=>
  rw[AA,ih];cases k with
  |none=>simp[jS,au,Bd]
  |some k=>
   cases k with|nd e i j=>simp[jS,au,Bd]|lf t n=>cases t<;>simp[jS,au,g7,AA]
def ajk(f:Str->Nat):Wd->Nat
 |.leaf false x=>f x
 |_=>1
theorem agi(ks:List (Option Kn))(i:Nat):uP ks i=(((ks.take i).filterMap jS).map (ajk (ah ks))).prod:=by
 unfold uP;generalize ks.take i=l
 induction l with
 |nil=>rfl
 |cons k r ih=>
  rw[AD,Ck,ih];cases k with
  |none=>simp[jS,sO,Bd]
  |some k=>
   cases k with|nd e i j=>simp[jS,sO,Bd]|lf t n=>cases t<;>simp[jS,sO,ajk]
def dH:jc:=fun ys L Q=>∃a,∃ws:List Wd,ys=[.ref a]/\L a=some (.lst (ws.map x5))/\(∀w∈ws,w.depth≤63/\w.leaves≤63)/\(LV ws).length≤124/\∀n,ai2 (LV ws) n->Q (.int ((n:Nat):Int)) L
theorem wH:∀ys L Q,dH ys L Q->x0 (pk fO eB) 6 ys L Q:=by
 rintro ys L Q ⟨a,ws,rfl,ha,hok,hlv,q⟩;refine⟨a,ws,rfl,ha,hok,by omega,fun p hp=>?_⟩;have hlf:∀w∈LV ws,∃t n,w=Wd.leaf t n:=fun w hw=>oC hw;refine⟨p,LV ws,rfl,q8,hlf,by omega,fun x hx=>?_,fun hn=>?_⟩
 ·exact ce (By hp) (q 0 (.inr ⟨iC hx,rfl⟩))
 intro d hd;have hpd:p≠d:=k8 q8 hd;have sub:∀o,qg L (qd (qd L p (.lst ((LV ws).map x5))) d o):=fun o=>(By hp).trans (By hd);refine kf (ys:=(LV ws).map x5) (zd ((qb hpd).trans q8)) (fun i τ L'=>∃kvs,∃n:Nat,∃c4 c5,τ=[some (.ref a),some (.ref p),some (.int (n:Int)),some (.ref d),c4,c5]/\L'=qd (qd L p (.lst ((LV ws).map x5))) d (.dct kvs)/\kvs.length≤i/\(∀x,wz kvs (.inr x)=afn (je ((LV ws).take i) false x))/\gZ ((LV ws).take i) n) ⟨[],1,_,_,rfl,rfl,Am _,fun x=>rfl,gZ.nil⟩ ?_ ?_ ?_
 ·rintro i τ L' ⟨kvs,n,c4,c5,rfl,rfl,_⟩;rw[qb hpd,qb hpd]
 ·rintro i y τ L' hy ⟨kvs,n,c4,c5,rfl,rfl,hk,hv,hw⟩;rw[Ai] at hy;obtain⟨w,ew,rfl⟩:=Aj.mp hy;obtain⟨t,x,rfl⟩:=hlf w (Ay ew);have hi:i<(LV ws).length:=(AU.mp ew).1;have et:(LV ws).take (i+1)=(LV ws).take i++[Wd.leaf t x]:=by rw[AN,ew];rfl
  cases t with
  |true=>
   refine⟨_,DA _,kvs,n,_,_,rfl,rfl,by omega,fun z=>?_,?_⟩
   ·rw[hv,et,bw,AB (by simp[g7])];rfl
   ·rw[et];exact hw.other
  |false=>
   have e:((wz kvs (.inr x)).getD (Y.int 0))=.int ((je ((LV ws).take i) false x:Nat):Int):=by
    rw[hv];unfold afn;split
    ·rename_i h;rw[h];rfl
    ·rfl
   refine i6 q8 (i6 q8 ?_);rw[e];refine i6 q8 ⟨?_,?_⟩
   ·have hb:(1000:Nat)≤sizeLine:=by decide
    omega
   have ev:wz (oI kvs (.inr x) (.int (((je ((LV ws).take i) false x:Nat):Int)+1))) (.inr x)=some (.int (((je ((LV ws).take i) false x:Nat):Int)+1)):=by rw[qG,AC rfl]
   have hcl:je ((LV ws).take i) false x≤124:=by
    have h1:je ((LV ws).take i) false x≤((LV ws).take i).length:=Cp;have h2:((LV ws).take i).length≤(LV ws).length:=by rw[AS];omega
    omega
   refine i6 q8 (qm ev ⟨.inr ⟨by omega,by omega⟩,?_⟩);refine⟨_,DA _,oI kvs (.inr x) (.int (((je ((LV ws).take i) false x:Nat):Int)+1)),n*(je ((LV ws).take i) false x+1),some (.str (kL false)),some (.str x),?_,zg,?_,fun z=>?_,?_⟩
   ·have e2:(n:Int)*(((je ((LV ws).take i) false x:Nat):Int)+1)=((n*(je ((LV ws).take i) false x+1):Nat):Int):=by push_cast;rfl
    rw[<-e2];rfl
   ·have:=zT kvs (.inr x) (.int (((je ((LV ws).take i) false x:Nat):Int)+1));omega
   ·rw[qG,et,bw];by_cases h:z=x
    ·subst h;rw[AC rfl,AC (by simp[g7])];unfold afn;rw[AB (by omega)];push_cast;rfl
    ·rw[AB (fun q=>h (Sum.inr.inj q)),AB (by simp[g7];exact fun q=>h q.symm),hv];rfl
   ·rw[et];exact hw.plain
 ·rintro τ L' ⟨kvs,n,c4,c5,rfl,rfl,hk,hv,hw⟩;rw[Ab,AF] at hw;exact ce (sub _) (q n (.inl ⟨nH hlf hn,hw⟩))
def jX(Cb:Addr)(E3:X3)(p0:jc)(p1:jc)(p2:jc)(p3:jc)(p4:jc):k6:=(qo (z8 (qw p0 (kc (qa 0))) (qc 2))
 (qo (z8 (qw p1 (kc (qa 2))) (qc 3))
 (qo (vg (yB (lP true (qa 3))) (jd (wA (f8 "names") (qa 3))) jw)
 (qo (z8 (zm bM (qw p2 (kc (qa 0))) (jt 0)) (qc 4))
 (qo (z8 (lK eK (qh (nP 1 (jq (qa 4)) (qc 6) (pI (vh 6 0) (f8 "both")) (qa 6)) qz)) (qc 5))
 (qo (vg (tI (dZ 2) (zm vm (zm jE (jt 2) (qa 5)) (jt 2))) (jd (aX (qh (f8 "count") (bO (dZ 2) (qa 5))))) jw)
 (qo (vg (yB (zm yGt (qw p3 (kc (qa 0))) (qa 1))) (zZ Cb E3 (kc (f8 "there are more ways to link than may be tried"))) jw)
 (jd (qw p4 (kc (qa 4)))))))))))
theorem cq:∀l:List (Option Kn),(l.filterMap jS).length=l.countP jv
 |[]=>rfl
 |none::r=>cq r
 |some (.lf t n)::r=>by rw[AA,<-cq r];rfl
 |some (.nd e i j)::r=>cq r
theorem abh(ws:List Wd):yV (aF ws) (aF ws).length=(LV ws).length:=by unfold yV;rw[AF,<-cq];exact Bs List.length (cP 0 ws)
def afw:k6:=(qo (z8 (bU du (qa 1) (qh (zm ai (qa 3) (dZ 1)) qz)) (qc 4))
 (qo (z8 (bU du (qa 1) (qh (zm ai (qa 2) (dZ 1)) qz)) (qc 5))
 (qo (z8 (zm bM (vh 4 1) (zm ai (zm az (qa 3) (jt 64)) (lK eK (kc (vh 4 1))))) (qc 6))
 (qo (z8 (zm bM (vh 5 1) (zm ai (zm az (qa 2) (jt 64)) (lK eK (kc (vh 5 1))))) (qc 7))
 (qo (jx (bU zw (qa 0) (qh (aX (qh (f8 "both") (bO (qa 6) (qa 7)))) qz)))
 (qo (z8 (nP 1 (jq (zm vm (vh 4 1) (vh 5 1))) (qc 9) (yB (zm (rH true) (qa 9) (wA (qa 6) (qa 7)))) (qa 9)) (qc 8))
 (jx (bU zw (qa 1) (qh (xz (qh (aX (qh (f8 "both") (qh (zm pY (dZ 0) (jt 1)) (bO (vh 4 0) (vh 5 0))))) (qh (zm vm (qa 8) (xz (qh (zm pY (dZ 0) (jt 1)) qz))) qz))) qz)))))))))
def abd:k6:=(qo (vg (yB (zm yLt (lK eK (kc (vh 1 1))) (jt 2))) aen jw)
 (qo (z8 (bU du (vh 1 1) (qh (zm ai (qa 3) (lK eK (kc (vh 1 1)))) qz)) (qc 4))
 (qo (z8 (bU du (vh 1 1) (qh (zm ai (qa 2) (lK eK (kc (vh 1 1)))) qz)) (qc 5))
 (qo (jx (bU zw (qa 0) (qh (aX (qh (f8 "either") (bO (qa 4) (qa 5)))) qz)))
 (qo (tV (qa 1) (jt 0) (aX (qh (f8 "either") (qh (zm pY (dZ 0) (jt 1)) (kc (vh 1 0))))))
 (jx (bU zw (vh 1 1) (qh (zm pY (dZ 0) (jt 1)) qz))))))))
theorem am{ks:List Kn}:∀{w v:Wd} {p:Nat},dY ks p w->dY ks p v->w=v
 |.leaf t n,.leaf t' n',p,h,k=>by
  have h:(vv ks)[p]?=some (.tup [.str (kL t),.str n]):=h;have k:(vv ks)[p]?=some (.tup [.str (kL t'),.str n']):=k;rw[h] at k;injection k with k;injection k with k;injection k with k1 k2;injection k2 with k2 _
  injection k1 with k1;injection k2 with k2
  have:t=t':=by cases t<;>cases t'<;>first | rfl | (exfalso;revert k1;decide +kernel)
  rw[this,k2]
 |.leaf t n,.node e l r,p,h,k=>by obtain⟨i,j,k,_⟩:=k;have h:(vv ks)[p]?=some (.tup [.str (kL t),.str n]):=h;rw[h] at k;injection k with k;injection k with k;injection k with _ k;injection k with _ k;cases k
 |.node e l r,.leaf t n,p,h,k=>by obtain⟨i,j,h,_⟩:=h;have k:(vv ks)[p]?=some (.tup [.str (kL t),.str n]):=k;rw[h] at k;injection k with k;injection k with k;injection k with _ k;injection k with _ k;cases k
 |.node e l r,.node e' l' r',p,⟨i,j,h,hl,hr⟩,⟨i',j',k,kl,kr⟩=>by
  rw[h] at k;injection k with k;injection k with k;injection k with k1 k2;injection k2 with k2 k3;injection k3 with k3 _
  injection k1 with k1;injection k2 with k2;injection k3 with k3
  have e1:i=i':=by lia
  have e2:j=j':=by lia
  subst e1 e2;have:e=e':=by cases e<;>cases e'<;>first | rfl | (exfalso;revert k1;decide +kernel)
  rw[this,am (ks:=ks) hl kl,am (ks:=ks) hr kr]
theorem nQ{ks:List Kn}(hk:cf ks):∀(m p:Nat),p<m->p<ks.length->∃w,dY ks p w/\w.depth≤p+1/\w.ok
 |0,p,h,_=>absurd h (by lia)
 |m+1,p,h,hp=>by
  obtain⟨k,ek⟩:∃k,ks[p]?=some k:=⟨_,Ak hp⟩;have ho:=hk p k ek;cases k with
  |lf t n=>exact⟨.leaf t n,dY.leaf ek,by show 1≤p+1;exact Cz _,ho⟩
  |nd e i j=>
   have ho:i<p/\j<p:=ho;obtain⟨l,a1,a2,a3⟩:=nQ hk m i (by lia) (by omega);obtain⟨r,b1,b2,b3⟩:=nQ hk m j (by lia) (by lia);exact⟨.node e l r,dY.node ek a1 b1,by show max l.depth r.depth+1≤p+1;lia,a3,b3⟩
def TV(v:Str->Bool):Wd->Bool
 |.leaf t n=>if t=true then !v n else v n
 |.node e l r=>if e=true then TV v l||TV v r else TV v l&&TV v r
theorem iY(v:Str->Bool):∀w:Wd,TV v w.turn=!TV v w
 |.leaf t n=>by cases t<;>simp[Wd.turn,TV]
 |.node e l r=>by cases e<;>simp[Wd.turn,TV,iY v l,iY v r]
theorem SR.lt{E:List Nat}(h:SR ks R E):∀x∈za R,x<ks.length:=by
 have lt:∀{p:Nat} {k:Kn},ks[p]?=some k->p<ks.length:=fun h=>(AU.mp h).1
 induction h with
 |link _ h2 h3 _ _=>intro x hx;simp[za] at hx;rcases hx with rfl | rfl;exact lt h2;exact lt h3
 |ei h1 _ _ _ _ _ _ ih=>intro x hx;rcases An.mp hx with rfl | hx;exact lt h1;exact ih x hx
 |bo h1 _ _ _ _ _ _ ih1 ih2=>
  intro x hx;rcases An.mp hx with rfl | hx
  ·exact lt h1
  ·rcases Ah.mp hx with hx | hx
   ·exact ih1 x hx
   ·exact ih2 x hx
 |cu _ _ _ _ _ _ _ _ ih1 ih2=>
  intro x hx;rcases Ah.mp hx with hx | hx
  ·exact ih1 x hx
  ·exact ih2 x hx
theorem SR.tv(hk:cf ks)(v:Str->Bool){E:List Nat}(h:SR ks R E):∃x∈E,∃w,dY ks x w/\TV v w=true:=by
 have ex:∀{R':Ru} {E':List Nat},SR ks R' E'->∀x∈E',∃w,dY ks x w:=fun s x hx=>by obtain⟨w,hw,_⟩:=nQ hk (x+1) x (by exact Br _) (s.lt x (s.sub x hx));exact⟨w,hw⟩
 induction h with
 |@link p q t n E _ h2 h3 h4 _=>
  cases ht:TV v (.leaf t n) with
  |true=>exact⟨p,(h4 p).mpr (.inl rfl),_,dY.leaf h2,ht⟩
  |false=>
   refine⟨q,(h4 q).mpr (.inr rfl),_,dY.leaf h3,?_⟩;have:=iY v (.leaf t n);rw[ht] at this;exact this
 |@ei r i j A EA E h1 hA hi hj _ h6 _ ih=>
  obtain⟨x,hx,w,hw,tv⟩:=ih;obtain⟨wi,wi'⟩:=ex hA i hi;obtain⟨wj,wj'⟩:=ex hA j hj;by_cases c1:x=i
  ·subst c1;rw[am hw wi'] at tv;exact⟨r,(h6 r).mpr (.inr rfl),_,dY.node h1 wi' wj',by simp[TV,tv]⟩
  ·by_cases c2:x=j
   ·subst c2;rw[am hw wj'] at tv;exact⟨r,(h6 r).mpr (.inr rfl),_,dY.node h1 wi' wj',by simp[TV,tv]⟩
   ·exact⟨x,(h6 x).mpr (.inl ⟨hx,c1,c2⟩),w,hw,tv⟩
 |@bo r i j A B EA EB E h1 hA hB hi hj h6 _ ih1 ih2=>
  obtain⟨x,hx,w,hw,tv⟩:=ih1;obtain⟨y,hy,u,hu,tu⟩:=ih2;by_cases c1:x=i
  ·by_cases c2:y=j
   ·subst c1 c2;exact⟨r,(h6 r).mpr (.inr (.inr rfl)),_,dY.node h1 hw hu,by simp[TV,tv,tu]⟩
   ·exact⟨y,(h6 y).mpr (.inr (.inl ⟨hy,c2⟩)),u,hu,tu⟩
  ·exact⟨x,(h6 x).mpr (.inl ⟨hx,c1⟩),w,hw,tv⟩
 |@cu p q A B EA EB E w0 hA hB hp hq hwp hwq h7 _ ih1 ih2=>
  obtain⟨x,hx,w,hw,tv⟩:=ih1;obtain⟨y,hy,u,hu,tu⟩:=ih2;by_cases c1:x=p
  ·by_cases c2:y=q
   ·subst c1 c2;rw[am hw hwp] at tv;rw[am hu hwq,iY,tv] at tu;cases tu
   ·exact⟨y,(h7 y).mpr (.inr ⟨hy,c2⟩),u,hu,tu⟩
  ·exact⟨x,(h7 x).mpr (.inl ⟨hx,c1⟩),w,hw,tv⟩
theorem SR.ends(hk:cf ks){E:List Nat}(h:SR ks R E):0<E.length:=by obtain⟨x,hx,_⟩:=h.tv hk fun _=>true;exact List.length_pos_of_mem hx
structure Tr where
 a:Addr
 b:Addr
 R:Ru
 E:List Nat
abbrev z9(E:List Nat):List Y:=E.map fun n:Nat=>Y.int (n:Int)
def Tr.ads(t:Tr):List Addr:=[t.a,t.b]
structure cr(L0 L:qk)(ka fa:Addr)(ks:List Kn)(fo:List Tr):Prop where
 hk:L ka=some (.lst (vv ks))
 ht:∀t∈fo,L t.a=some (.lst [vo t.R,.ref t.b])/\L t.b=some (.lst (z9 t.E))
 sr:∀t∈fo,SR ks t.R t.E
 nd:(fo.flatMap fun t=>za t.R).Nodup
 tm:∀x,x∈(fo.flatMap fun t=>za t.R)↔x<ks.length
 ad:(ka::fa::fo.flatMap Tr.ads).Nodup
 ok:cf ks
 sub:qg L0 L
 fr:∀x∈ka::fa::fo.flatMap Tr.ads,L0 x=none
def j0(fo:List Tr):List Y:=fo.map fun t=>Y.ref t.a
structure lh(L0 L:qk)(ka fa:Addr)(ks:List Kn)(fo:List Tr):Prop where
 b:cr L0 L ka fa ks fo
 hf:L fa=some (.lst (j0 fo))
def qY:Ru->Prop
 |.link _ _=>True
 |.ei _ A=>qY A
 |.bo _ A B=>qY A/\qY B
 |.cu _ _ _ _=>False
def Ext(ks:List Kn)(fo:List Tr)(ks':List Kn)(fo':List Tr):Prop:=(∃ms:List Kn,ks'=ks++ms/\∀k∈ms,∃e i j,k=.nd e i j)/\((∀t∈fo,qY t.R)->∀t∈fo',qY t.R)
theorem cr.perm{fo fo':List Tr}(h:cr L0 L ka fa ks fo)(p:fo.Perm fo'):cr L0 L ka fa ks fo':=by have p1:(fo.flatMap fun t=>za t.R).Perm (fo'.flatMap fun t=>za t.R):=p.flatMap_right _;have p2:(fo.flatMap Tr.ads).Perm (fo'.flatMap Tr.ads):=p.flatMap_right _;refine⟨h.hk,fun t ht=>h.ht t (p.mem_iff.mpr ht),fun t ht=>h.sr t (p.mem_iff.mpr ht),p1.nodup_iff.mp h.nd,fun x=>by rw[<-p1.mem_iff];exact h.tm x,((p2.cons _).cons _).nodup_iff.mp h.ad,h.ok,h.sub,fun x hx=>h.fr x (((p2.cons _).cons _).mem_iff.mpr hx)⟩
end L3
variable {fo:List L3.Tr}
namespace L3
open PySem L2 Words
theorem xx{α:Type}:∀{l:List α} {j:Nat} {x:α},l[j]?=some x->l.Perm (x::l.eraseIdx j)
 |[],_,_,h=>by simp at h
 |y::r,0,x,h=>by
  have:y=x:=by simpa using h
  subst this;exact .refl _
 |y::r,j+1,x,h=>by have ih:=xx (l:=r) (j:=j) (x:=x) (by simpa using h);rw[Cf];exact(ih.cons y).trans (.swap _ _ _)
theorem re(fo:List Tr)(j:Nat):(j0 fo).eraseIdx j=j0 (fo.eraseIdx j):=fg _ fo j
theorem cr.step{old rest:List Tr}{t':Tr}(h:cr L0 L ka fa ks (old++rest))(hk:L' ka=some (.lst (vv (ks++ms))))(ht:L' t'.a=some (.lst [vo t'.R,.ref t'.b])/\L' t'.b=some (.lst (z9 t'.E)))
 (keep:∀t∈rest,L' t.a=L t.a/\L' t.b=L t.b) (sub:qg L0 L') (ad:(ka::fa::(rest++[t']).flatMap Tr.ads).Nodup) (fr:∀x∈t'.ads,L0 x=none) (ok:cf (ks++ms)) (sr:SR (ks++ms) t'.R t'.E)
 (tp:(za t'.R).Perm (List.range' ks.length ms.length++old.flatMap fun t=>za t.R)):cr L0 L' ka fa (ks++ms) (rest++[t']):=by
 have hnd:=h.nd;have htm:=h.tm;rw[AV] at hnd;have e1:((rest++[t']).flatMap fun t=>za t.R)=(rest.flatMap fun t=>za t.R)++za t'.R:=by rw[AV];simp
 have mem:∀x,x∈za t'.R↔(ks.length≤x/\x<ks.length+ms.length)\/x∈(old.flatMap fun t=>za t.R):=fun x=>by rw[tp.mem_iff,Ah,CN]
 refine⟨hk,fun t h'=>?_,fun t h'=>?_,?_,fun x=>?_,ad,ok,sub,fun x hx=>?_⟩
 ·rcases Ah.mp h' with h' | h'
  ·obtain⟨k1,k2⟩:=keep t h';rw[k1,k2];exact h.ht t (Ag _ h')
  ·rw[Af.mp h'];exact ht
 ·rcases Ah.mp h' with h' | h'
  ·exact(h.sr t (Ag _ h')).more _
  ·rw[Af.mp h'];exact sr
 ·rw[e1,AJ];rw[AJ] at hnd;refine⟨hnd.2.1,tp.nodup_iff.mpr ?_,fun x hx y hy e=>?_⟩
  ·rw[AJ];refine⟨List.nodup_range',hnd.1,fun x hx y hy e=>?_⟩;have hx:=CN.mp hx;have hy:=(htm y).mp (by rw[AV];exact Ao _ hy);lia
  ·subst e;rcases (mem x).mp hy with hy | hy
   ·have:=(htm x).mp (by rw[AV];exact Ag _ hx);lia
   ·exact hnd.2.2 x hy x hx rfl
 ·rw[e1,Ah,mem,Aa];have h1:=htm x;rw[AV,Ah] at h1;constructor
  ·rintro(h2 | h2 | h2)
   ·have:=h1.mp (.inr h2);exact akr
   ·lia
   ·have:=h1.mp (.inl h2);lia
  ·intro h2;by_cases c:x<ks.length
   ·rcases h1.mpr c with h3 | h3
    ·exact .inr (.inr h3)
    ·exact .inl h3
   ·exact .inr (.inl (by lia))
 ·rcases An.mp hx with rfl | hx
  ·exact h.fr _ (Au ..)
  ·rcases An.mp hx with rfl | hx
   ·exact h.fr _ (Ae _ (Au ..))
   ·rw[AV] at hx;rcases Ah.mp hx with hx | hx
    ·exact h.fr _ (Ae _ (Ae _ (by rw[AV];exact Ag _ hx)))
    ·exact fr x (by simpa using hx)
def mz:jc:=fun ys L Q=>∃L0 ka fa ks fo,∃one two:Int,ys=[.ref ka,.ref fa,.int one,.int two]/\lh L0 L ka fa ks fo/\2≤fo.length/\fo.length≤200/\ks.length≤200/\
 ∀L' ks' fo',lh L0 L' ka fa ks' fo'->ks'.length=ks.length+1->fo'.length+1=fo.length->Ext ks fo ks' fo'->Q .non L'
theorem oY{l:List α}(h:0<l.length)(k:Int):∃(j:Nat) (x:α),k % (l.length:Int)=(j:Int)/\j<l.length/\l[j]?=some x:=by have h0:0≤k % (l.length:Int):=Int.emod_nonneg _ (by lia);have h1:k % (l.length:Int)<(l.length:Int):=Int.emod_lt_of_pos _ (by omega);refine⟨(k % (l.length:Int)).toNat,l[(k % (l.length:Int)).toNat]'(by lia),by lia,by lia,Ak (by lia)⟩
theorem wv:∀(n:Nat) (l:List Nat),l.Nodup->(∀x∈l,x<n)->l.length≤n
 |0,l,_,h=>by cases l with|nil=>exact Am _|cons x r=>exact absurd (h x (Au ..)) (by lia)
 |n+1,l,nd,h=>by
  by_cases c:n∈l
  ·have p:=List.perm_cons_erase c;have ih:=wv n (l.erase n) (nd.erase n) fun x hx=>by have:=(List.Nodup.mem_erase_iff nd).mp hx;have:=h x this.2;lia
   rw[p.length_eq,AE];exact nN
  ·exact Nat.le_succ_of_le (wv n l nd fun x hx=>by have:=h x hx;have:x≠n:=fun e=>c (e▸hx);lia)
theorem kI(h:cr L0 L ka fa ks fo){t:Tr}(ht:t∈fo):0<t.E.length/\t.E.length≤ks.length:=by have s:=h.sr t ht;exact⟨s.ends h.ok,wv _ _ s.nod fun x hx=>s.lt x (s.sub x hx)⟩
theorem ach(x l r:Nat):tP (fU (.int (x:Int))) (([.int (l:Int),.int (r:Int)]:List Y).map fU)=decide (x=l\/x=r):=by
 show(iM (.int (l:Int)) (.int (x:Int))||(iM (.int (r:Int)) (.int (x:Int))||false))=_;have e:∀a b:Nat,iM (.int (a:Int)) (.int (b:Int))=decide (b=a):=fun a b=>by
  show decide ((a:Int)=(b:Int))=decide (b=a);by_cases c:b=a
  ·subst c;simp
  ·rw[As c];apply As;lia
 rw[e,e];by_cases h1:x=l<;>by_cases h2:x=r<;>simp[h1,h2]
theorem tM{E:List Nat}(h:0<E.length)(k:Int):∃x,x∈E/\bW (z9 E) (k % ((z9 E).length:Int))=some (.int ((x:Nat):Int)):=by obtain⟨j,x,ej,lj,ex⟩:=oY h k;refine⟨x,Ay ex,?_⟩;rw[Ab,ej];exact xr (by rw[Ai,ex];rfl)
def vt(E1 E2:List Nat)(l r:Nat):List Nat:=(E1++E2).filter fun x=>!decide (x=l\/x=r)
theorem af9{pp:Addr}{E:List Nat}{r k:Nat}{Q:YK}(hp:L pp=some (.lst (z9 E)))(hlen:E.length≤1000)
 (ht:∀y (Q':Bool->qk->Prop),rH true y (.tup [.int (l:Int),.int (r:Int)]) L (fun x L'=>match x with | .bl c=>Q' c L' | _=>False)->tc (bT (τ++List.replicate 1 none) k y) L Q')
 (hv:∀y,uk (bT (τ++List.replicate 1 none) k y) k=some y)
 (hq:∀p,L p=none->Q (.ref p) (qd L p (.lst (z9 (E.filter fun x=>!decide (x=l\/x=r)))))):
 qW L pp fun ys keep L2=>lcK ys keep 1 (qc k) tc (qa k) τ L2 Q:=by
 refine jk hp fun keep kp=>ae (fun j zs=>zs=z9 ((E.take j).filter fun x=>!decide (x=l\/x=r))) (by rw[Ab];exact wb hlen) (kp L rfl) rfl ?_ ?_
 ·rintro j y _ ey rfl;obtain⟨x,ex,rfl⟩:∃x:Nat,E[j]?=some x/\y=Y.int (x:Int):=by rw[Ai] at ey;obtain⟨x,e1,e2⟩:=Aj.mp ey;exact⟨x,e1,e2.symm⟩
  refine ht _ _ ⟨rfl,rfl,?_⟩;rw[ach];show km (!decide (x=l\/x=r)) _ _;have et:(E.take (j+1)).filter (fun x=>!decide (x=l\/x=r))=(E.take j).filter (fun x=>!decide (x=l\/x=r))++[x].filter (fun x=>!decide (x=l\/x=r)):=by rw[AN,ex,BR];rfl
  by_cases c:x=l\/x=r
  ·refine kh (by rw[Aw c];rfl) ?_;refine frg ⟨rfl,?_⟩;rw[et,List.filter_cons_of_neg (by simp[c]),Dc,A0]
  ·refine cD (by rw[As c];rfl) ?_;unfold qa;rw[hv];refine frg ⟨rfl,?_⟩;rw[et,List.filter_cons_of_pos (by simp[c]),Dc];unfold z9;rw[Ar];rfl
 ·rintro _ rfl p hp';rw[Ab,AF];exact hq p hp'
theorem xH{k:Int}(hf:L fa=some (.lst (j0 fo)))(h:0<fo.length):∃(j:Nat) (t:Tr),fo[j]?=some t/\0≤k % ((j0 fo).length:Int)/\k % ((j0 fo).length:Int)<((j0 fo).length:Int)/\
 (j0 fo)[(k % ((j0 fo).length:Int)).toNat]?=some (.ref t.a)/\qd L fa (.lst ((j0 fo).eraseIdx (k % ((j0 fo).length:Int)).toNat)) fa=some (.lst (j0 (fo.eraseIdx j))):=by
 obtain⟨j,t,ej,lj,et⟩:=oY h k;have e:(j0 fo).length=fo.length:=Ab ..;rw[e,ej];refine⟨j,t,et,by exact A6 _,by lia,?_,?_⟩
 ·show(j0 fo)[j]?=_;unfold j0;rw[Ai,et];rfl
 ·rw[q8];show some (LO.lst ((j0 fo).eraseIdx j))=_;rw[re]
theorem cr.two{t1 t2:Tr}{rest:List Tr}(h:cr L0 L ka fa ks (t1::t2::rest)):∀x,x∈za t1.R->x∈za t2.R->False:=by intro x h1 h2;have nd:=h.nd;rw[A4,A4,AJ] at nd;exact nd.2.2 x h1 x (Ao _ h2) rfl
theorem tq{E1 E2:List Nat}{r:Nat}(hl:l∉E2)(hr:r∉E1)(x:Nat):x∈vt E1 E2 l r↔(x∈E1/\x≠l)\/(x∈E2/\x≠r):=by
 unfold vt;rw[AZ,Ah];constructor
 ·rintro⟨h,c⟩;have c:¬(x=l\/x=r):=by simpa using c
  rcases h with h | h
  ·exact .inl ⟨h,fun e=>c (.inl e)⟩
  ·exact .inr ⟨h,fun e=>c (.inr e)⟩
 ·rintro(⟨h,c⟩ | ⟨h,c⟩)
  ·refine⟨.inl h,?_⟩;have:x≠r:=fun e=>hr (e▸h);simp[c,this]
  ·refine⟨.inr h,?_⟩;have:x≠l:=fun e=>hl (e▸h);simp[c,this]
theorem uN{E1 E2:List Nat}{r:Nat}(h1:E1.Nodup)(h2:E2.Nodup)(d:∀x,x∈E1->x∈E2->False):(vt E1 E2 l r).Nodup:=by
 unfold vt;have h:(E1++E2).Nodup:=by rw[AJ];exact⟨h1,h2,fun x hx y hy e=>d x hx (e▸hy)⟩
 exact List.Pairwise.filter _ h
theorem bg_:∀m:Nat,m≤20000->m<sizeLine:=fun m h=>AO h (by decide)
theorem adq:∀ys L Q,mz ys L Q->x0 afw 9 ys L Q:=by
 rintro ys L Q ⟨L0,ka,fa,ks,fo,one,two,rfl,F,h2,h200,hk200,q⟩;have big:=bg_;have lenR:∀fo:List Tr,(j0 fo).length=fo.length:=fun fo=>Ab ..;obtain⟨j1,t1,at1,a1,a2,a3,hf1⟩:=xH (k:=two) F.hf (by exact yE);have l1:(fo.eraseIdx j1).length+1=fo.length:=by have:=(xx at1).length_eq;rw[AE] at this;lia
 refine qe F.hf (qe F.hf ⟨(by show(0:Int)<((j0 fo).length:Int);rw[lenR];lia),qu F.hf ⟨a1,a2,qm a3 ?_⟩⟩);have old1:∀b o,b≠fa->L b=some o->qd L fa (.lst ((j0 fo).eraseIdx (two % ((j0 fo).length:Int)).toNat)) b=some o:=fun b o nb e=>by rw[qb nb];exact e
 generalize qd L fa (.lst ((j0 fo).eraseIdx (two % ((j0 fo).length:Int)).toNat))=L1 at hf1 old1;obtain⟨j2,t2,at2,b1,b2,b3,hf2⟩:=xH (k:=one) hf1 (by lia);have l2:((fo.eraseIdx j1).eraseIdx j2).length+1=(fo.eraseIdx j1).length:=by have:=(xx at2).length_eq;rw[AE] at this;lia
 refine qe hf1 (qe hf1 ⟨(by show(0:Int)<((j0 (fo.eraseIdx j1)).length:Int);rw[lenR];lia),qu hf1 ⟨b1,b2,qm b3 ?_⟩⟩);have old2:∀b o,b≠fa->L b=some o->qd L1 fa (.lst ((j0 (fo.eraseIdx j1)).eraseIdx (one % ((j0 (fo.eraseIdx j1)).length:Int)).toNat)) b=some o:=fun b o nb e=>by rw[qb nb];exact old1 b o nb e
 generalize qd L1 fa (.lst ((j0 (fo.eraseIdx j1)).eraseIdx (one % ((j0 (fo.eraseIdx j1)).length:Int)).toNat))=L2 at hf2 old2;have pfo:fo.Perm (t1::t2::(fo.eraseIdx j1).eraseIdx j2):=(xx at1).trans ((xx at2).cons _);have B:cr L0 L ka fa ks (t1::t2::(fo.eraseIdx j1).eraseIdx j2):=F.b.perm pfo;generalize (fo.eraseIdx j1).eraseIdx j2=rest at l2 hf2 B pfo;clear hf1 old1 a1 a2 a3 b1 b2 b3;have m1:t1∈t1::t2::rest:=by simp
 have m2:t2∈t1::t2::rest:=by simp
 have ad:=B.ad;have nk:∀t∈t1::t2::rest,t.a≠fa/\t.b≠fa/\t.a≠ka/\t.b≠ka:=fun t ht=>by rw[Az,Az] at ad;have ma:t.a∈(t1::t2::rest).flatMap Tr.ads:=AY.mpr ⟨t,ht,by simp[Tr.ads]⟩;have mb:t.b∈(t1::t2::rest).flatMap Tr.ads:=AY.mpr ⟨t,ht,by simp[Tr.ads]⟩;exact⟨fun e=>ad.2.1 (e▸ma),fun e=>ad.2.1 (e▸mb),fun e=>ad.1 (Ae _ (e▸ma)),fun e=>ad.1 (Ae _ (e▸mb))⟩
 have nkf:ka≠fa:=by rw[Az] at ad;exact fun e=>ad.1 (e▸Au ..)
 have hk2:L2 ka=some (.lst (vv ks)):=old2 ka _ nkf B.hk;have ta1:=old2 t1.a _ (nk t1 m1).1 (B.ht t1 m1).1;have tb1:=old2 t1.b _ (nk t1 m1).2.1 (B.ht t1 m1).2;have ta2:=old2 t2.a _ (nk t2 m2).1 (B.ht t2 m2).1;have tb2:=old2 t2.b _ (nk t2 m2).2.1 (B.ht t2 m2).2;have le1:=kI B m1;have le2:=kI B m2;obtain⟨x,hx,ex⟩:=tM le1.1 (two / 64);obtain⟨y,hy,ey⟩:=tM le2.1 (one / 64);refine qe ta1 ⟨⟨by decide,by decide⟩,qe ta1 (qe tb1 ⟨(by show(0:Int)<((z9 t1.E).length:Int);rw[Ab];omega),qe tb1 (qm ex ?_)⟩)⟩;refine qe ta2 ⟨⟨by decide,by decide⟩,qe ta2 (qe tb2 ⟨(by show(0:Int)<((z9 t2.E).length:Int);rw[Ab];omega),qe tb2 (qm ey ?_)⟩)⟩;refine qe hk2 (qu hk2 ⟨big _ (by rw[Ab];exact ai8),?_⟩);have ek:vv ks++[.tup [.str "both",.int ((x:Nat):Int),.int ((y:Nat):Int)]]=vv (ks++[.nd false x y]):=by unfold vv;rw[Ar];rfl
 rw[ek];have hk3:qd L2 ka (.lst (vv (ks++[.nd false x y]))) ka=some (.lst (vv (ks++[.nd false x y]))):=q8;have old3:∀b o,b≠ka->L2 b=some o->qd L2 ka (.lst (vv (ks++[.nd false x y]))) b=some o:=fun b o nb e=>by rw[qb nb];exact e
 generalize qd L2 ka (.lst (vv (ks++[.nd false x y])))=L3 at hk3 old3;have ta1:=old3 _ _ (nk t1 m1).2.2.1 ta1;have tb1:=old3 _ _ (nk t1 m1).2.2.2 tb1;have ta2:=old3 _ _ (nk t2 m2).2.2.1 ta2;have tb2:=old3 _ _ (nk t2 m2).2.2.2 tb2;have hf3:=old3 _ _ (AR nkf) hf2;refine qe ta1 (qe ta2 ⟨_,_,tb1,tb2,aj (by rw[Ab,Ab];lia),fun pp hpp=>?_⟩);have en:z9 t1.E++z9 t2.E=z9 (t1.E++t2.E):=by unfold z9;rw[Ar]
 rw[en];refine af9 (E:=t1.E++t2.E) (l:=x) (r:=y) (k:=9) q8 (by rw[Aa];lia) (fun y' Q' h=>h) (fun _=>rfl) fun pe hpe=>?_;have s4:qg L3 (qd (qd L3 pp (.lst (z9 (t1.E++t2.E)))) pe (.lst (z9 ((t1.E++t2.E).filter fun z=>!decide (z=x\/z=y))))):=(By hpp).trans (By hpe);have he4:qd (qd L3 pp (.lst (z9 (t1.E++t2.E)))) pe (.lst (z9 ((t1.E++t2.E).filter fun z=>!decide (z=x\/z=y)))) pe=some (.lst (z9 (vt t1.E t2.E x y))):=q8;generalize qd (qd L3 pp (.lst (z9 (t1.E++t2.E)))) pe (.lst (z9 ((t1.E++t2.E).filter fun z=>!decide (z=x\/z=y))))=L4 at s4 he4;have hk4:=s4 _ _ hk3;have hf4:=s4 _ _ hf3;have nn:(((vv (ks++[.nd false x y])).length:Nat):Int) - 1=((ks.length:Nat):Int):=by rw[Ab,Aa];simp
 refine qe hf4 (qe hk4 (qe (s4 _ _ ta1) (qe (s4 _ _ ta2) (qe hk4 fun pn hpn=>?_))));refine⟨_,_,By hpn _ _ he4,q8,aj (by have:=uN (l:=x) (r:=y) (B.sr t1 m1).nod (B.sr t2 m2).nod (fun z h1 h2=>B.two z ((B.sr t1 m1).sub z h1) ((B.sr t2 m2).sub z h2));have:=List.length_filter_le (fun z=>!decide (z=x\/z=y)) (t1.E++t2.E);rw[Aa] at this;rw[Ab];unfold vt;show _+1≤1000;lia),fun pb hpb pa hpa=>?_⟩;have s7:=(By (o:=.lst [.int ((((vv (ks++[.nd false x y])).length:Nat):Int) - 1)]) hpn).trans ((By (o:=.lst (z9 (vt t1.E t2.E x y)++[.int ((((vv (ks++[.nd false x y])).length:Nat):Int) - 1)])) hpb).trans (By (o:=.lst [.tup [.str "both",.int ((((vv (ks++[.nd false x y])).length:Nat):Int) - 1),vo t1.R,vo t2.R],.ref pb]) hpa));refine qu (s7 _ _ hf4) ⟨big _ (by rw[lenR];lia),?_⟩;have nab:pb≠pa:=k8 q8 hpa;have hpa7:∀L6:qk,qd L6 pa (.lst [.tup [.str "both",.int ((((vv (ks++[.nd false x y])).length:Nat):Int) - 1),vo t1.R,vo t2.R],.ref pb]) pa=some (.lst [vo (.bo ks.length t1.R t2.R),.ref pb]):=fun L6=>by rw[q8,nn];rfl
 have hpb7:∀L5 o,qd (qd L5 pb (.lst (z9 (vt t1.E t2.E x y)++[.int ((((vv (ks++[.nd false x y])).length:Nat):Int) - 1)]))) pa o pb=some (.lst (z9 (vt t1.E t2.E x y++[ks.length]))):=fun L5 o=>by rw[qb nab,q8,nn];unfold z9;rw[Ar];rfl
 have ea:=hpa7 (qd (qd L4 pn (.lst [.int ((((vv (ks++[.nd false x y])).length:Nat):Int) - 1)])) pb (.lst (z9 (vt t1.E t2.E x y)++[.int ((((vv (ks++[.nd false x y])).length:Nat):Int) - 1)])));have eb:=hpb7 (qd L4 pn (.lst [.int ((((vv (ks++[.nd false x y])).length:Nat):Int) - 1)])) (.lst [.tup [.str "both",.int ((((vv (ks++[.nd false x y])).length:Nat):Int) - 1),vo t1.R,vo t2.R],.ref pb]);have na4:L4 pa=none:=by cases z:L4 pa with|none=>rfl|some o=>rw[((By hpn).trans (By hpb)) _ _ z] at hpa;cases hpa
 have nb4:L4 pb=none:=by cases z:L4 pb with|none=>rfl|some o=>rw[(By hpn) _ _ z] at hpb;cases hpb
 generalize qd (qd (qd L4 pn (.lst [.int ((((vv (ks++[.nd false x y])).length:Nat):Int) - 1)])) pb (.lst (z9 (vt t1.E t2.E x y)++[.int ((((vv (ks++[.nd false x y])).length:Nat):Int) - 1)]))) pa (.lst [.tup [.str "both",.int ((((vv (ks++[.nd false x y])).length:Nat):Int) - 1),vo t1.R,vo t2.R],.ref pb])=L7 at s7 ea eb;clear hpn hpb hpa hpa7 hpb7 he4;have up:∀b o,b≠fa->b≠ka->L b=some o->L4 b=some o:=fun b o n1 n2 e=>s4 _ _ (old3 _ _ n2 (old2 _ _ n1 e));have hf7:=s7 _ _ hf4;have npa:pa≠fa:=fun e=>by rw[e,hf4] at na4;cases na4
 have npb:pb≠fa:=fun e=>by rw[e,hf4] at nb4;cases nb4
 have s1:=B.sr t1 m1;have s2:=B.sr t2 m2;have dis:∀z,z∈t1.E->z∈t2.E->False:=fun z h1 h2=>B.two z (s1.sub z h1) (s2.sub z h2);refine xu (q _ (ks++[.nd false x y]) (rest++[⟨pa,pb,.bo ks.length t1.R t2.R,vt t1.E t2.E x y++[ks.length]⟩]) ⟨?_,?_⟩ (by rw[Aa];rfl) (by rw[Aa];simp;lia) ⟨⟨_,rfl,fun k hk=>⟨_,_,_,Af.mp hk⟩⟩,fun h t ht=>?_⟩)
 rotate_right
 ·have h':∀u∈t1::t2::rest,qY u.R:=fun u hu=>h u (pfo.mem_iff.mpr hu);rcases Ah.mp ht with ht | ht
  ·exact h' t (Ae _ (Ae _ ht))
  ·rw[Af.mp ht];exact⟨h' t1 m1,h' t2 m2⟩
 ·refine cr.step (old:=[t1,t2]) (t':=⟨pa,pb,.bo ks.length t1.R t2.R,vt t1.E t2.E x y++[ks.length]⟩) B ?_ ⟨?_,?_⟩ (fun t ht=>?_) (fun b o e=>?_) ?_ (fun z hz=>?_) ?_ ?_ ?_
  ·rw[qb nkf];exact s7 _ _ hk4
  ·rw[qb npa];exact ea
  ·rw[qb npb];exact eb
  ·have mt:t∈t1::t2::rest:=Ae _ (Ae _ ht);obtain⟨n1,n2,n3,n4⟩:=nk t mt;obtain⟨h1,h2⟩:=B.ht t mt;rw[h1,h2,qb n1,qb n2];exact⟨s7 _ _ (up _ _ n1 n3 h1),s7 _ _ (up _ _ n2 n4 h2)⟩
  ·have n1:b≠ka:=fun z=>by rw[z,B.fr ka (by simp)] at e;cases e
   have n2:b≠fa:=fun z=>by rw[z,B.fr fa (by simp)] at e;cases e
   rw[qb n2];exact s7 _ _ (up _ _ n2 n1 (B.sub _ _ e))
  ·rw[Az,Az] at ad;obtain⟨d1,d2,d3⟩:=ad;have d3':(rest.flatMap Tr.ads).Nodup:=by rw[A4,A4,AJ,AJ] at d3;exact d3.2.1.2.1
   have inn:∀z∈rest.flatMap Tr.ads,z∈(t1::t2::rest).flatMap Tr.ads:=fun z hz=>by rw[A4,A4];exact Ag _ (Ag _ hz)
   have ex4:∀z∈rest.flatMap Tr.ads,∃o,L4 z=some o:=fun z hz=>by
    obtain⟨t,ht,hz⟩:=AY.mp hz;have mt:t∈t1::t2::rest:=Ae _ (Ae _ ht);obtain⟨n1,n2,n3,n4⟩:=nk t mt;obtain⟨h1,h2⟩:=B.ht t mt;have hz:z=t.a\/z=t.b:=by simpa[Tr.ads] using hz
    rcases hz with rfl | rfl
    ·exact⟨_,up _ _ n1 n3 h1⟩
    ·exact⟨_,up _ _ n2 n4 h2⟩
   have npk:pa≠ka:=fun e=>by rw[e,hk4] at na4;cases na4
   have nbk:pb≠ka:=fun e=>by rw[e,hk4] at nb4;cases nb4
   have nra:pa∉rest.flatMap Tr.ads:=fun hz=>by obtain⟨o,e⟩:=ex4 _ hz;rw[na4] at e;cases e
   have nrb:pb∉rest.flatMap Tr.ads:=fun hz=>by obtain⟨o,e⟩:=ex4 _ hz;rw[nb4] at e;cases e
   rw[AV];rw[Az,Az,AJ];refine⟨?_,?_,d3',?_,?_⟩
   ·intro z;rcases An.mp z with z | z
    ·exact nkf z
    ·rcases Ah.mp z with z | z
     ·exact d1 (Ae _ (inn _ z))
     ·simp[Tr.ads] at z;rcases z with z | z;exact npk z.symm;exact nbk z.symm
   ·intro z;rcases Ah.mp z with z | z
    ·exact d2 (inn _ z)
    ·simp[Tr.ads] at z;rcases z with z | z;exact npa z.symm;exact npb z.symm
   ·simp[Tr.ads];exact AR nab
   ·intro u hu v hv e;simp[Tr.ads] at hv;subst e;rcases hv with rfl | rfl
    ·exact nra hu
    ·exact nrb hu
  ·have hz:z=pa\/z=pb:=by simpa[Tr.ads] using hz
   cases w:L0 z with
   |none=>rfl
   |some o=>
    have n1:z≠ka:=fun e=>by rw[e,B.fr ka (by simp)] at w;cases w
    have n2:z≠fa:=fun e=>by rw[e,B.fr fa (by simp)] at w;cases w
    have:=up _ _ n2 n1 (B.sub _ _ w);rcases hz with rfl | rfl
    ·rw[na4] at this;cases this
    ·rw[nb4] at this;cases this
  ·exact B.ok.snoc ⟨s1.lt x (s1.sub x hx),s2.lt y (s2.sub y hy)⟩
  ·refine .bo (kM _ _ _) (s1.more _) (s2.more _) hx hy (fun z=>?_) ?_
   ·rw[Ah,tq (fun h=>dis x hx h) (fun h=>dis y h hy),Af];constructor
    ·rintro((h | h) | h)
     ·exact .inl h
     ·exact .inr (.inl h)
     ·exact .inr (.inr h)
    ·rintro(h | h | h)
     ·exact .inl (.inl h)
     ·exact .inl (.inr h)
     ·exact .inr h
   ·rw[AJ];refine⟨uN s1.nod s2.nod dis,by simp,fun u hu v hv e=>?_⟩;rw[Af.mp hv] at e;have:=(tq (fun h=>dis x hx h) (fun h=>dis y h hy) u).mp hu;rcases this with⟨h,_⟩ | ⟨h,_⟩
    ·have:=s1.lt u (s1.sub u h);lia
    ·have:=s2.lt u (s2.sub u h);lia
  ·show(ks.length::(za t1.R++za t2.R)).Perm (List.range' ks.length 1++([t1,t2].flatMap fun t=>za t.R));simp[CT]
 ·rw[q8];unfold j0;rw[Ar];rfl
theorem pJ{E:List Nat}{k:Int}(h:0<E.length):∃(j x:Nat),E[j]?=some x/\0≤k % ((z9 E).length:Int)/\k % ((z9 E).length:Int)<((z9 E).length:Int)/\
 (z9 E)[(k % ((z9 E).length:Int)).toNat]?=some (.int ((x:Nat):Int))/\(z9 E).eraseIdx (k % ((z9 E).length:Int)).toNat=z9 (E.eraseIdx j):=by
 obtain⟨j,x,ej,lj,et⟩:=oY h k;have e:(z9 E).length=E.length:=Ab ..;rw[e,ej];refine⟨j,x,et,by exact A6 _,by lia,?_,?_⟩
 ·show(z9 E)[j]?=_;rw[Ai,et];rfl
 ·exact fg _ E j
def lG:jc:=fun ys L Q=>∃L0 ka fa ks,∃pre post:List Tr,∃t:Tr,∃one two:Int,ys=[.ref ka,.ref t.a,.int one,.int two]/\lh L0 L ka fa ks (pre++t::post)/\ks.length≤200/\
 ∀L' ks' fo',lh L0 L' ka fa ks' fo'->ks'.length≤ks.length+1->fo'.length=(pre++t::post).length->Ext ks (pre++t::post) ks' fo'->Q .non L'
theorem zY:∀ys L Q,lG ys L Q->x0 abd 6 ys L Q:=by
 rintro ys L Q ⟨L0,ka,fa,ks,pre,post,t,one,two,rfl,F,hk200,q⟩;have big:=bg_;have mt:t∈pre++t::post:=by simp
 have B:=F.b;obtain⟨ta,tb⟩:=B.ht t mt;have le:=kI B mt;have s:=B.sr t mt;have lenE:∀E:List Nat,(z9 E).length=E.length:=fun E=>Ab ..;refine qe ta (qe tb ?_);refine xm (fun c=>?_) fun c=>?_
 ·exact xu (q L ks _ F (Bz _) rfl ⟨⟨[],(A0 _).symm,fun k hk=>by cases hk⟩,fun h=>h⟩)
 have c:¬(((z9 t.E).length:Int)<2):=c;rw[lenE] at c;have ad:=B.ad;have nkf:ka≠fa:=by rw[Az] at ad;exact fun e=>ad.1 (e▸Au ..)
 have nk:∀u∈pre++t::post,u.a≠fa/\u.b≠fa/\u.a≠ka/\u.b≠ka:=fun u hu=>by rw[Az,Az] at ad;have ma:u.a∈(pre++t::post).flatMap Tr.ads:=AY.mpr ⟨u,hu,by simp[Tr.ads]⟩;have mb:u.b∈(pre++t::post).flatMap Tr.ads:=AY.mpr ⟨u,hu,by simp[Tr.ads]⟩;exact⟨fun e=>ad.2.1 (e▸ma),fun e=>ad.2.1 (e▸mb),fun e=>ad.1 (Ae _ (e▸ma)),fun e=>ad.1 (Ae _ (e▸mb))⟩
 have nab:t.a≠t.b:=by rw[Az,Az,AV,A4,AJ,AJ] at ad;have:=ad.2.2.2.1.1;simpa[Tr.ads] using this
 obtain⟨j1,x,e1,a1,a2,a3,a4⟩:=pJ (k:=two) le.1;refine qe ta (qe tb (qe ta (qe tb ⟨(by show(0:Int)<((z9 t.E).length:Int);rw[lenE];omega),qu tb ⟨a1,a2,qm a3 ?_⟩⟩)));rw[a4];have lE1:(t.E.eraseIdx j1).length+1=t.E.length:=by have:=(xx e1).length_eq;rw[AE] at this;lia
 have ta1:qd L t.b (.lst (z9 (t.E.eraseIdx j1))) t.a=some (.lst [vo t.R,.ref t.b]):=by rw[qb nab];exact ta
 obtain⟨j2,y,e2,b1,b2,b3,b4⟩:=pJ (E:=t.E.eraseIdx j1) (k:=one) (by lia);refine qe ta1 (qe q8 (qe ta1 (qe q8 ⟨(by show(0:Int)<((z9 (t.E.eraseIdx j1)).length:Int);rw[lenE];omega),qu q8 ⟨b1,b2,qm b3 ?_⟩⟩)));rw[b4,zg];have lE2:((t.E.eraseIdx j1).eraseIdx j2).length+1=(t.E.eraseIdx j1).length:=by have:=(xx e2).length_eq;rw[AE] at this;lia
 have pE:t.E.Perm (x::y::(t.E.eraseIdx j1).eraseIdx j2):=(xx e1).trans ((xx e2).cons _);generalize (t.E.eraseIdx j1).eraseIdx j2=E2 at lE2 pE;have hk1:qd L t.b (.lst (z9 E2)) ka=some (.lst (vv ks)):=by rw[qb (AR (nk t mt).2.2.2)];exact B.hk
 refine qe hk1 (qu hk1 ⟨big _ (by rw[Ab];exact ai8),?_⟩);have ek:vv ks++[.tup [.str "either",.int ((x:Nat):Int),.int ((y:Nat):Int)]]=vv (ks++[.nd true x y]):=by unfold vv;rw[Ar];rfl
 rw[ek];have nn:(((vv (ks++[.nd true x y])).length:Nat):Int) - 1=((ks.length:Nat):Int):=by rw[Ab,Aa];simp
 have ta2:qd (qd L t.b (.lst (z9 E2))) ka (.lst (vv (ks++[.nd true x y]))) t.a=some (.lst [vo t.R,.ref t.b]):=by rw[qb (nk t mt).2.2.1,qb nab];exact ta
 refine qe q8 (qe ta2 ?_);refine qu ta2 (qm (v:=0) rfl ?_);have ha3:qd (qd (qd L t.b (.lst (z9 E2))) ka (.lst (vv (ks++[.nd true x y])))) t.a (.lst ([vo t.R,.ref t.b].set 0 (.tup [.str "either",.int ((((vv (ks++[.nd true x y])).length:Nat):Int) - 1),vo t.R]))) t.a=some (.lst [vo (.ei ks.length t.R),.ref t.b]):=by rw[q8,nn];rfl
 have hk3:∀o,qd (qd (qd L t.b (.lst (z9 E2))) ka (.lst (vv (ks++[.nd true x y])))) t.a o ka=some (.lst (vv (ks++[.nd true x y]))):=fun o=>by rw[qb (AR (nk t mt).2.2.1)];exact q8
 have tb3:∀o,qd (qd (qd L t.b (.lst (z9 E2))) ka (.lst (vv (ks++[.nd true x y])))) t.a o t.b=some (.lst (z9 E2)):=fun o=>by rw[qb (AR nab),qb (nk t mt).2.2.2];exact q8
 have old3:∀o b u,b≠t.a->b≠t.b->b≠ka->L b=some u->qd (qd (qd L t.b (.lst (z9 E2))) ka (.lst (vv (ks++[.nd true x y])))) t.a o b=some u:=fun o b u n1 n2 n3 e=>by rw[qb n1,qb n3,qb n2];exact e
 have hk3:=hk3 (.lst ([vo t.R,.ref t.b].set 0 (.tup [.str "either",.int ((((vv (ks++[.nd true x y])).length:Nat):Int) - 1),vo t.R])));have tb3:=tb3 (.lst ([vo t.R,.ref t.b].set 0 (.tup [.str "either",.int ((((vv (ks++[.nd true x y])).length:Nat):Int) - 1),vo t.R])));have old3:=old3 (.lst ([vo t.R,.ref t.b].set 0 (.tup [.str "either",.int ((((vv (ks++[.nd true x y])).length:Nat):Int) - 1),vo t.R])));generalize qd (qd (qd L t.b (.lst (z9 E2))) ka (.lst (vv (ks++[.nd true x y])))) t.a (.lst ([vo t.R,.ref t.b].set 0 (.tup [.str "either",.int ((((vv (ks++[.nd true x y])).length:Nat):Int) - 1),vo t.R])))=L3 at ha3 hk3 tb3 old3;refine qe ha3 (qe tb3 (qe hk3 (qu tb3 ⟨big _ (by rw[lenE];lia),?_⟩)));have en:z9 E2++[.int ((((vv (ks++[.nd true x y])).length:Nat):Int) - 1)]=z9 (E2++[ks.length]):=by rw[nn];unfold z9;rw[Ar];rfl
 have nxy:=pE.nodup_iff.mp s.nod;rw[Az,Az] at nxy;have hx:x∈t.E:=pE.mem_iff.mpr (by simp);have hy:y∈t.E:=pE.mem_iff.mpr (by simp);have adT:∀u∈pre++post,u.a≠t.a/\u.a≠t.b/\u.b≠t.a/\u.b≠t.b:=fun u hu=>by have p:(pre++t::post).Perm (t::(pre++post)):=B2;have ad2:=(p.flatMap_right Tr.ads).nodup_iff.mp (by rw[Az,Az] at ad;exact ad.2.2);rw[A4,AJ] at ad2;have k:=ad2.2.2;have ma:u.a∈(pre++post).flatMap Tr.ads:=AY.mpr ⟨u,hu,by simp[Tr.ads]⟩;have mb:u.b∈(pre++post).flatMap Tr.ads:=AY.mpr ⟨u,hu,by simp[Tr.ads]⟩;exact⟨fun e=>k t.a (by simp[Tr.ads]) u.a ma e.symm,fun e=>k t.b (by simp[Tr.ads]) u.a ma e.symm,fun e=>k t.a (by simp[Tr.ads]) u.b mb e.symm,fun e=>k t.b (by simp[Tr.ads]) u.b mb e.symm⟩
 refine xu (q _ (ks++[.nd true x y]) (pre++⟨t.a,t.b,.ei ks.length t.R,E2++[ks.length]⟩::post) ⟨?_,?_⟩ (by rw[Aa];exact Am _) (by simp) ⟨⟨_,rfl,fun k hk=>⟨_,_,_,Af.mp hk⟩⟩,fun h u hu=>?_⟩)
 rotate_right
 ·rcases Ah.mp hu with hu | hu
  ·exact h u (Ao _ hu)
  ·rcases An.mp hu with rfl | hu
   ·exact h t mt
   ·exact h u (Ag _ (Ae _ hu))
 ·have B':=B.perm (fo':=[t]++(pre++post)) B2;have st:=cr.step (old:=[t]) (rest:=pre++post) (t':=⟨t.a,t.b,.ei ks.length t.R,E2++[ks.length]⟩) (ms:=[.nd true x y]) (L':=qd L3 t.b (.lst (z9 E2++[.int ((((vv (ks++[.nd true x y])).length:Nat):Int) - 1)]))) B' ?_ ⟨?_,?_⟩ (fun u hu=>?_) (fun b o e=>?_) ?_ (fun z hz=>?_) ?_ ?_ ?_
  ·exact st.perm (by have p1:((pre++post)++[(⟨t.a,t.b,.ei ks.length t.R,E2++[ks.length]⟩:Tr)]).Perm ((⟨t.a,t.b,.ei ks.length t.R,E2++[ks.length]⟩:Tr)::(pre++post)):=CI _ _;exact p1.trans B2.symm)
  ·rw[qb (AR (nk t mt).2.2.2)];exact hk3
  ·rw[qb nab];exact ha3
  ·rw[q8,en]
  ·have hu':u∈pre++t::post:=by rcases Ah.mp hu with h | h;exact Ao _ h;exact Ag _ (Ae _ h)
   obtain⟨n1,n2,n3,n4⟩:=adT u hu;obtain⟨k1,k2,k3,k4⟩:=nk u hu';obtain⟨h1,h2⟩:=B.ht u hu';rw[h1,h2,qb n2,qb n4];exact⟨old3 _ _ n1 n2 k3 h1,old3 _ _ n3 n4 k4 h2⟩
  ·have fr:=B.fr;have n0:∀z,L0 z=none->b≠z:=fun z hz w=>by rw[w,hz] at e;cases e
   have n1:=n0 ka (fr ka (by simp));have n2:=n0 t.a (fr t.a (by simp[Tr.ads]));have n3:=n0 t.b (fr t.b (by simp[Tr.ads]));rw[qb n3];exact old3 _ _ n2 n3 n1 (B.sub _ _ e)
  ·have p:(pre++t::post).Perm ((pre++post)++[t]):=B2.trans (CI _ _).symm;have e:((pre++post)++[(⟨t.a,t.b,.ei ks.length t.R,E2++[ks.length]⟩:Tr)]).flatMap Tr.ads=((pre++post)++[t]).flatMap Tr.ads:=by simp[AV,Tr.ads]
   rw[e];exact(((p.flatMap_right Tr.ads).cons _).cons _).nodup_iff.mp ad
  ·have hz:z=t.a\/z=t.b:=by simpa[Tr.ads] using hz
   rcases hz with rfl | rfl
   ·exact B.fr _ (by simp[Tr.ads])
   ·exact B.fr _ (by simp[Tr.ads])
  ·exact B.ok.snoc ⟨s.lt x (s.sub x hx),s.lt y (s.sub y hy)⟩
  ·refine .ei (kM _ _ _) (s.more _) hx hy (fun e=>nxy.1 (by rw[e];exact Au ..)) (fun z=>?_) ?_
   ·rw[Ah,Af];have hm:=pE.mem_iff (a:=z);rw[An,An] at hm;have h1:z∈E2->z≠x/\z≠y:=fun h=>⟨fun e=>nxy.1 (by rw[<-e];exact Ae _ h),fun e=>nxy.2.1 (e▸h)⟩;constructor
    ·rintro(h | h)
     ·exact .inl ⟨hm.mpr (.inr (.inr h)),h1 h⟩
     ·exact .inr h
    ·rintro(⟨h,c1,c2⟩ | h)
     ·rcases hm.mp h with e | e | e
      ·exact absurd e c1
      ·exact absurd e c2
      ·exact .inl e
     ·exact .inr h
   ·rw[AJ];refine⟨nxy.2.2,by simp,fun u hu v hv e=>?_⟩;rw[Af.mp hv] at e;have:u∈t.E:=pE.mem_iff.mpr (Ae _ (Ae _ hu));have:=s.lt u (s.sub u this);lia
  ·show(ks.length::za t.R).Perm (List.range' ks.length 1++([t].flatMap fun t=>za t.R));simp[CT]
 ·have nf:=nk t mt;rw[qb (AR nf.2.1)];have:=old3 fa _ (AR nf.1) (AR nf.2.1) (AR nkf) F.hf;rw[this];unfold j0;rw[Ar,Ar];rfl
def v4:Ru->List (Nat×Nat)
 |.link p q=>[(p,q)]
 |.ei _ A=>v4 A
 |.bo _ A B=>v4 A++v4 B
 |.cu _ _ A B=>v4 A++v4 B
def bS(ks:List Kn)(l:List Nat):List Nat:=l.flatMap fun p=>va ks[p]?
theorem iZ(ks:List Kn)(a b:List Nat):bS ks (a++b)=bS ks a++bS ks b:=by unfold bS;rw[AV]
theorem aB(ks:List Kn)(x:Nat)(l:List Nat):bS ks (x::l)=va ks[x]?++bS ks l:=A4 ..
theorem eG{E:List Nat}(h:E.Nodup)(hi:i∈E):E.Perm ([i]++E.filter fun x=>!decide (x=i)):=by
 refine(A7 h ?_).mpr fun x=>?_
 ·refine Az.mpr ⟨fun z=>?_,h.filter _⟩;have:=(AZ.mp z).2;simp at this
 ·rw[Ah,Af,AZ];constructor
  ·intro hx;by_cases c:x=i
   ·exact .inl c
   ·exact .inr ⟨hx,by simp[c]⟩
  ·rintro(rfl | hx)
   ·exact hi
   ·exact hx.1
theorem SR.partN{E:List Nat}(h:SR ks R E):qY R->(za R).Nodup->(bS ks (za R)++E).Perm (za R):=by
 induction h with
 |@link p q t n E' h1 h2 h3 h4 h5=>
  intro _ _;have e:bS ks [p,q]=[]:=by rw[aB,aB,h2,h3];rfl
  show(bS ks [p,q]++E').Perm [p,q];rw[e,List.nil_append];refine(A7 h5 (by simp;omega)).mpr fun x=>?_;rw[h4 x];simp
 |@ei r i j A EA E' h1 hA h3 h4 h5 h6 h7 ih=>
  intro nc nd;obtain⟨n1,n2⟩:=Az.mp nd;have ih:=ih nc n2;have nA:EA.Nodup:=hA.nod;have p1:=eG nA h3;have p2:(EA.filter fun x=>!decide (x=i)).Perm _:=eG (nA.filter _) (i:=j) (AZ.mpr ⟨h4,by simp;exact AR h5⟩);have p3:E'.Perm ([r]++(EA.filter fun x=>!decide (x=i)).filter fun x=>!decide (x=j)):=by
   refine(A7 h7 (Az.mpr ⟨fun z=>n1 (hA.sub _ (AZ.mp (AZ.mp z).1).1),(nA.filter _).filter _⟩)).mpr fun x=>?_;rw[h6 x,An,AZ,AZ];simp only[CM,decide_eq_false_iff_not];constructor
   ·rintro(⟨a,b,c⟩ | rfl)
    ·exact .inr ⟨⟨a,b⟩,c⟩
    ·exact .inl rfl
   ·rintro(rfl | ⟨⟨a,b⟩,c⟩)
    ·exact .inr rfl
    ·exact .inl ⟨a,b,c⟩
  show(bS ks (r::za A)++E').Perm ([r]++za A);rw[aB,h1];show((([i]++[j])++bS ks (za A))++E').Perm _;refine BC.mpr fun a=>?_;have c1:=p1.count_eq a;have c2:=p2.count_eq a;have c3:=p3.count_eq a;have c4:=ih.count_eq a;simp only[BA] at c1 c2 c3 c4 ⊢;omega
 |@bo r i j A B EA EB E' h1 hA hB h4 h5 h6 h7 ih1 ih2=>
  intro nc nd;obtain⟨n1,n2⟩:=Az.mp nd;obtain⟨m1,m2,m3⟩:=AJ.mp n2;have ih1:=ih1 nc.1 m1;have ih2:=ih2 nc.2 m2;have nA:EA.Nodup:=hA.nod;have nB:EB.Nodup:=hB.nod;have p1:=eG nA h4;have p2:=eG nB h5;have p3:E'.Perm ([r]++((EA.filter fun x=>!decide (x=i))++EB.filter fun x=>!decide (x=j))):=by
   refine(A7 h7 (Az.mpr ⟨fun z=>n1 ?_,AJ.mpr ⟨nA.filter _,nB.filter _,fun a ha b hb=>m3 a (hA.sub _ (AZ.mp ha).1) b (hB.sub _ (AZ.mp hb).1)⟩⟩)).mpr fun x=>?_
   ·rcases Ah.mp z with z | z
    ·exact Ao _ (hA.sub _ (AZ.mp z).1)
    ·exact Ag _ (hB.sub _ (AZ.mp z).1)
   ·rw[h6 x,An,Ah,AZ,AZ];simp only[CM,decide_eq_false_iff_not];constructor
    ·rintro(a | a | rfl)
     ·exact .inr (.inl a)
     ·exact .inr (.inr a)
     ·exact .inl rfl
    ·rintro(rfl | a | a)
     ·exact .inr (.inr rfl)
     ·exact .inl a
     ·exact .inr (.inl a)
  show(bS ks (r::(za A++za B))++E').Perm ([r]++(za A++za B));rw[aB,h1,iZ];show((([i]++[j])++(bS ks (za A)++bS ks (za B)))++E').Perm _;refine BC.mpr fun a=>?_;have c1:=p1.count_eq a;have c2:=p2.count_eq a;have c3:=p3.count_eq a;have c4:=ih1.count_eq a;have c5:=ih2.count_eq a;simp only[BA] at c1 c2 c3 c4 c5 ⊢;omega
 |cu=>intro nc;exact nc.elim
inductive PO(ks:List Kn):Nat->Wd->List Nat->Prop
 |lf {p:Nat} {t:Bool} {n:Str}:ks[p]?=some (.lf t n)->PO ks p (.leaf t n) [p]
 |nd {p i j:Nat} {e:Bool} {l r:Wd} {Y Z:List Nat}:ks[p]?=some (.nd e i j)->PO ks i l Y->PO ks j r Z->PO ks p (.node e l r) ((Y++Z)++[p])
theorem PO.len{p:Nat}{w:Wd}(h:PO ks p w Z):Z.length=w.size:=by
 induction h with
 |lf _=>rfl
 |@nd p i j e l r Y Z _ _ _ ih1 ih2=>
  rw[Aa,Aa,ih1,ih2];show l.size+r.size+1=1+l.size+r.size;omega
theorem PO.last{p:Nat}{w:Wd}(h:PO ks p w Z):Z[w.size - 1]?=some p:=by
 have hl:=h.len;cases h with
 |lf _=>rfl
 |@nd _ i j e l r Y Z _ _ _=>
  rw[<-hl,Aa];show((Y++Z)++[p])[(Y++Z).length]?=some p;exact kM _ _ _
theorem PO.perm{p:Nat}{w:Wd}(h:PO ks p w Z):Z.Perm (p::bS ks Z):=by
 induction h with
 |@lf p t n e=>rw[aB,e];exact BZ _
 |@nd p i j e l r Y Z h1 _ _ ih1 ih2=>
  rw[iZ,iZ,aB,h1];refine BC.mpr fun a=>?_;have c1:=ih1.count_eq a;have c2:=ih2.count_eq a;have e:va (some (Kn.nd e i j))=[i]++[j]:=rfl;rw[e];have e2:bS ks ([]:List Nat)=[]:=rfl;rw[e2];rw[show p::((bS ks Y++bS ks Z)++(([i]++[j])++[]))=[p]++((bS ks Y++bS ks Z)++(([i]++[j])++[])) from rfl];rw[show i::bS ks Y=[i]++bS ks Y from rfl] at c1;rw[show j::bS ks Z=[j]++bS ks Z from rfl] at c2;simp only[BA,List.count_nil] at c1 c2 ⊢;omega
theorem vE{k:Kn}{t:Bool}{n:Str}(h:bH k=.tup [.str (kL t),.str n]):k=.lf t n:=by
 cases k with
 |lf u m=>
  have h1:kL u=kL t:=by injection h with h;injection h with h _;injection h
  have h2:m=n:=by injection h with h;injection h with _ h;injection h with h _;injection h
  subst h2;cases u<;>cases t<;>first | rfl | (exfalso;revert h1;decide)
 |nd e i j=>injection h with h;injection h with _ h;injection h with _ h;cases h
theorem vZ{k:Kn}{e:Bool}(h:bH k=.tup [.str (kN e),.int (i:Int),.int (j:Int)]):k=.nd e i j:=by
 cases k with
 |lf u m=>injection h with h;injection h with _ h;injection h with _ h;cases h
 |nd b i' j'=>
  have h1:kN b=kN e:=by injection h with h;injection h with h _;injection h
  have h2:((i':Nat):Int)=i:=by injection h with h;injection h with _ h;injection h with h _;injection h
  have h3:((j':Nat):Int)=j:=by injection h with h;injection h with _ h;injection h with _ h;injection h with h _;injection h
  have h2:=Di.mp h2;have h3:=Di.mp h3;subst h2 h3;cases b<;>cases e<;>first | rfl | (exfalso;revert h1;decide)
theorem r6{ks:List Kn}:∀{w:Wd} {p:Nat},dY ks p w->∃Z,PO ks p w Z
 |.leaf t n,p,h=>by have h:(vv ks)[p]?=some (.tup [.str (kL t),.str n]):=h;rw[Ai] at h;obtain⟨k,e,z⟩:=Aj.mp h;rw[vE z] at e;exact⟨_,.lf e⟩
 |.node e l r,p,⟨i,j,h,a,b⟩=>by rw[Ai] at h;obtain⟨k,ek,z⟩:=Aj.mp h;obtain⟨Y,hY⟩:=r6 a;obtain⟨Z,hZ⟩:=r6 b;rw[vZ z] at ek;exact⟨_,.nd ek hY hZ⟩
inductive wL(ks:List Kn):List Nat->List Wd->List Nat->Prop
 |nil:wL ks [] [] []
 |cons {p:Nat} {w:Wd} {Z E:List Nat} {ws:List Wd} {T:List Nat}:PO ks p w Z->wL ks E ws T->wL ks (p::E) (w::ws) (Z++T)
theorem afx{E:List Nat}(h:Paired (dY ks) E ws):∃T,wL ks E ws T:=by
 induction h with
 |nil=>exact⟨_,.nil⟩
 |cons a _ ih=>
  obtain⟨Z,hZ⟩:=r6 a;obtain⟨T,hT⟩:=ih;exact⟨_,.cons hZ hT⟩
theorem wL.perm{E:List Nat}{T:List Nat}(h:wL ks E ws T):T.Perm (E++bS ks T):=by
 induction h with
 |nil=>exact BZ _
 |@cons p w Z E ws T a _ ih=>
  rw[iZ];refine BC.mpr fun x=>?_;have c1:=a.perm.count_eq x;have c2:=ih.count_eq x;rw[show p::bS ks Z=[p]++bS ks Z from rfl] at c1;rw[show p::E++(bS ks Z++bS ks T)=[p]++E++(bS ks Z++bS ks T) from rfl];simp only[BA] at c1 c2 ⊢;omega
theorem mV{ks:List Kn}(ok:cf ks)(x:Nat):∀A:List Nat,(bS ks A).count x=(bS ks (A.filter fun q=>decide (x<q))).count x
 |[]=>rfl
 |q::r=>by
  have ih:=mV ok x r;rw[aB,BA,ih,B3];by_cases c:x<q
  ·rw[AC (Aw c),aB,BA]
  ·rw[AB (by rw[As c];exact Ap)];have:(va ks[q]?).count x=0:=Cc.mpr fun h=>by
    cases e:ks[q]? with
    |none=>rw[e] at h;cases h
    |some k=>
     rw[e] at h;cases k with
     |lf t n=>cases h
     |nd b i j=>
      have o:i<q/\j<q:=ok q _ e;have h:x∈[i,j]:=h;rcases An.mp h with rfl | h
      ·omega
      ·rw[Af.mp h] at c;omega
   omega
theorem rm(ok:cf ks){E A B:List Nat}(hA:A.Perm (E++bS ks A))(hB:B.Perm (E++bS ks B))(lA:∀x∈A,x<n)(lB:∀x∈B,x<n):A.Perm B:=by
 have key:∀m x,n≤x+m->A.count x=B.count x:=by
  intro m
  induction m with
  |zero=>
   intro x h;rw[Cc.mpr fun z=>by have:=lA x z;omega,Cc.mpr fun z=>by have:=lB x z;omega]
  |succ m ih=>
   intro x h;have f:(A.filter fun q=>decide (x<q)).Perm (B.filter fun q=>decide (x<q)):=BC.mpr fun q=>by
    by_cases c:x<q
    ·have z:∀l:List Nat,(l.filter fun q=>decide (x<q)).count q=l.count q:=fun l=>List.count_filter (show(fun q=>decide (x<q)) q=true from Aw c);rw[z,z];exact ih q (by omega)
    ·have z:∀l:List Nat,(l.filter fun q=>decide (x<q)).count q=0:=fun l=>Cc.mpr fun h=>c (of_decide_eq_true (AZ.mp h).2);rw[z,z]
   have g:(bS ks (A.filter fun q=>decide (x<q))).count x=(bS ks (B.filter fun q=>decide (x<q))).count x:=(f.flatMap_right _).count_eq x;have a:=hA.count_eq x;have b:=hB.count_eq x;rw[BA,mV ok] at a b;omega
 exact BC.mpr fun x=>key n x (by omega)
theorem wL.all{E:List Nat}{T:List Nat}(h:wL ks E ws T)(ok:cf ks)(sr:SR ks R E)(nc:qY R)(tp:(za R).Perm (List.range ks.length))(lt:∀x∈T,x<ks.length):T.Perm (List.range ks.length):=by have nd:(za R).Nodup:=tp.nodup_iff.mpr Bj;exact(rm ok h.perm ((sr.partN nc nd).symm.trans List.perm_append_comm) lt sr.lt).trans tp
theorem PO.lt{p:Nat}{w:Wd}(h:PO ks p w Z):∀x∈Z,x<ks.length:=by
 induction h with
 |lf e=>intro x hx;rw[Af.mp hx];exact qx e
 |nd e _ _ ih1 ih2=>
  intro x hx;rcases Ah.mp hx with hx | hx
  ·rcases Ah.mp hx with hx | hx
   ·exact ih1 x hx
   ·exact ih2 x hx
  ·rw[Af.mp hx];exact qx e
theorem wL.lt{E:List Nat}{T:List Nat}(h:wL ks E ws T):∀x∈T,x<ks.length:=by
 induction h with
 |nil=>intro x hx;cases hx
 |cons a _ ih=>
  intro x hx;rcases Ah.mp hx with hx | hx
  ·exact a.lt x hx
  ·exact ih x hx
def rh(f:Nat->Nat):Kn->Kn
 |.lf t n=>.lf t n
 |.nd e i j=>.nd e (f i) (f j)
def ak9(ks:List Kn)(f:Nat->Nat):List Kn->List Nat->Prop:=Paired fun k q=>∃k0,ks[q]?=some k0/\k=rh f k0
theorem dj{R:α->β->Prop}{a c:List α}{b d:List β}(h:Paired R a b)(k:Paired R c d):Paired R (a++c) (b++d):=by induction h with|nil=>exact k|cons x _ ih=>exact .cons x ih
theorem ai4{f:Nat->Nat}{p:Nat}{w:Wd}(h:PO ks p w Z):∀b,(∀i q,Z[i]?=some q->f q=b+i)->ak9 ks f (eE b w) Z:=by
 induction h with
 |@lf p t n e=>intro b _;exact .cons ⟨_,e,rfl⟩ .nil
 |@nd p i j e l r Y Z h1 hY hZ ih1 ih2=>
  intro b hf;have lY:=hY.len;have lZ:=hZ.len;have pl:=l.size_pos;have pr:=r.size_pos;have fY:∀m q,Y[m]?=some q->f q=b+m:=fun m q e=>hf m q (cX (cX e));have fZ:∀m q,Z[m]?=some q->f q=(b+l.size)+m:=fun m q e=>by have hm:=qx e;have:=hf (l.size+m) q (by rw[Ba,Aq (by omega),lY,Ce];exact cX e);omega
  refine dj (dj (ih1 b fY) (ih2 (b+l.size) fZ)) (.cons ⟨_,h1,?_⟩ .nil);have e1:=fY _ _ hY.last;have e2:=fZ _ _ hZ.last;show Kn.nd e (b+l.size - 1) (b+l.size+r.size - 1)=.nd e (f i) (f j);rw[e1,e2,Nat.add_sub_assoc pl,Nat.add_sub_assoc pr]
theorem ae1{f:Nat->Nat}{E:List Nat}{T:List Nat}(h:wL ks E ws T):∀b,(∀i q,T[i]?=some q->f q=b+i)->ak9 ks f (vf b ws) T:=by
 induction h with
 |nil=>intro b _;exact .nil
 |@cons p w Z E ws T a _ ih=>
  intro b hf;have l:=a.len;refine dj (ai4 a b fun i q e=>hf i q (cX e)) (ih (b+w.size) fun i q e=>?_);have:=hf (w.size+i) q (by rw[Aq (by omega),l,Ce];exact e);omega
open PySem L2
theorem aff:bootBuiltins "min" = some (.builtin "min"):=by decide +kernel
structure agh(K:Ac)(x qual:Str)(st:Stmt)(f:Addr)(fd:FuncData):Prop where
 ex:∃(oc:Value) (od:Option Addr) (dV kV doc pm:Value) (an:Option Addr) (cdv ct:Value) (osl:Array (Option Value)),
  fd=PySem.W.fnOf x qual (ja st) (zn st) (ql st) dV kV doc pm an cdv ct/\K.lookup f=some ⟨oc,od,.func fd,osl⟩/\PySem.W.codeIn K cdv qual=true
 kp:PySem.W.keepIn K (.ref f)=true
structure gO(K:Ac)(x:Str)(st:Stmt)(d:Int):Prop where
 ex:∃(f T:Addr) (oT:Obj) (t:Tok) (n:Nat) (kV doc pm:Value) (an:Option Addr) (cdv ct:Value),PySem.W.nsIn K mainGlobals x=some (some (.ref f))/\agh K x x st f (PySem.W.fnOf x x (ja st) (zn st) (ql st) (.ref T) kV doc pm an cdv ct)/\K.lookup T=some oT/\oT.data=.seq #[.int d t] n
theorem def_inD{K:Ac}{T:Addr}{oc2:Value}{od2:Option Addr}{osl2:Array (Option Value)}{kV:Value}{t:Tok}(a:PySem.W.nsIn K mainGlobals x=some (some (.ref f)))
 (l:K.lookup f=some ⟨oc,od,.func (PySem.W.fnOf x x (ja st) (zn st) (ql st) (.ref T) kV doc pm an cdv ct),osl⟩) (lt:K.lookup T=some ⟨oc2,od2,.seq #[.int d t] n,osl2⟩) (c:PySem.W.codeIn K cdv x=true) (k:PySem.W.keepIn K (.ref f)=true):gO K x st d:=
 ⟨f,T,_,t,n,kV,doc,pm,an,cdv,ct,a,⟨⟨oc,od,.ref T,kV,doc,pm,an,cdv,ct,osl,rfl,l,c⟩,k⟩,lt,rfl⟩
theorem aj2{P:Program}{w:World}{K:Ac}{N:List Str}{k:Nat}{sp:lU}{t:X3->k6}(F:agh K x qual st f fd)(S:aN N ps (ql st))(len:∀ys L Q E,sp ys L Q E->ys.length=ps.length)
 (hbody:∀(cdv:Value) (A:Around) (outer:List Env) (s:Shared) (H:Hp) (E:XK) (E3:X3),v3 k (A.deeper (PyProof.Rows.envOfC qual (ql st) s.heap.objs.size f cdv))->
  bQ (cR (CXE P w) P w K mg base N qual (ql st) f cdv A outer s H E) (upX ⟨K,P,w⟩ E3)->rD (cR (CXE P w) P w K mg base N qual (ql st) f cdv A outer s H E) (zn st) (t E3))
 (vc:∀ys L Q E,sp ys L Q E->t (xO E) { nx:=fun _ L'=>gD Q .non L',rt:=gD Q } (gQ N ys) L):al3 P w K mg base (k+1) f fd ps sp:=by
 obtain⟨oc,od,dV,kV,doc,pm,an,cdv,ct,osl,rfl,lk,hcd⟩:=F.ex;refine af1 lk hcd S (fun vs H Q E ⟨ys,L,Q3,E3,rv,rl,z,_⟩=>by rw[<-rv.length];exact len ys L Q3 E3 z) fun A outer s H vs Q E hr ⟨ys,L,Q3,E3,rv,rl,z,k,kx⟩=>?_;refine⟨_,hbody cdv A outer s H E (xO E3) hr (ahf kx),gQ N ys,L,_,l6 rv,rl,vc ys L Q3 E3 z,?_⟩;exact⟨fun σ H' τ L' t' rs' rl' ⟨L2,s2,q2⟩=>k .non H' .non L2 t' (rl'.sub s2) (by rfl) q2,fun v H' y L' t' rl' rv' ⟨L2,s2,q2⟩=>k v H' y L2 t' (rl'.sub s2) rv' q2,fun _ _ _ _ _ _ _ z=>z.elim,fun _ _ _ _ _ _ _ z=>z.elim⟩
end L3
namespace L2
open PySem PySem.Spec PyProof.Rows
section
theorem yo{k:Nat}{Q:VK}{ws:List Value}{vs:List V}(F:wo X.prog X.w X.K X.mg X.base (CXE X.prog X.w) k f fd ps sp)(hr:v3 k X.A)(hb:BindsTo s fd ⟨ws,kw⟩ (ps.zip us))(ht:bQ X E1)(hx:X.ex=[])
 (I:qr X pins σ H s) (r:zh vs us) (h:sp vs H Q (fun c _ H'=>E1 σ c H')):wpAny (model X.prog X.w) X.A (call (.ref f) ws kw) (EP X pins σ Q) X.xe s:=by
 refine wpAny_call (codeAny_mono (F.run X.A X.stack s H ⟨ws,kw⟩ us vs Q _ hr I.env0 hb r h) fun r s' hq=>?_);cases r with
 |error e=>exact ht.pass hx I hq
 |ok fl=>
  cases fl with|ret u=>exact I.after hq|next=>exact False.elim hq|brk=>exact False.elim hq|cont=>exact False.elim hq
end
def adm(sp:Sp)(dvs:List V)(E1:X1)(t:TA):TE:=fun σ H Q=>t σ H fun vs H1=>sp (vs++dvs) H1 Q fun c _ H'=>E1 σ c H'
section
variable {k:Nat}{kp:Pos}{ke:Expr}{tk:TE}{dvs:List V}{ds:List Value}
theorem vN(F:wo X.prog X.w X.K X.mg X.base (CXE X.prog X.w) k f fd ps sp)(hr:v3 k X.A)(hg:Gl X x)(hm:X.mg x=some (.ref f))(hk:PySem.W.keepIn X.K (.ref f)=true)(hb:ki X.K fd ps ds)(hd:zh dvs ds)(ht:bQ X E1)(hx:X.ex=[])
 (ha:PA X (e::es) t) (hdb:Dl x:=by decide) (he:Dj e es X:=by rfl) (hpl:Dk pos es X:=by rfl):
 PE X (.Call (.Name x p) (e::es) [] pos) (adm sp dvs E1 t):=by
 intro pins s σ H Q I h;refine wpAny_Call_Name_kw (eZ I hg hm ?_ hdb);refine B9 (h₀:=X.base) I.ok.mod.kin hk (x8 (ha pos pins s σ H _ I h) fun us s1 ⟨vs,H1,I1,r,q⟩=>⟨I1.kIn,?_⟩) he hpl;have r2:zh (vs++dvs) (us++ds):=r.append hd;exact yo F hr (hb s1 us I1.kIn (by rw[<-r2.length];exact F.len _ _ _ _ q)) ht hx I1 r2 q
end
end L2
namespace L3
open PySem L2
def uJ(sp:lU)(d:Int)(E3:X3)(t:dN)(τ:j9)(L:qk)(Q:YK):Prop:=t τ L fun ys L1=>sp (ys++[.int d]) L1 Q (E3 τ)
structure zU(K:Ac)(fd:FuncData)(ps:List Str)(d:Int)(kn:Str):Prop where
 all:ki K fd ps []
 df:∃t,ki K fd ps [.int d t]
 kw:∀(s:Shared) (us:List Value) (u:Value),K.In s.heap->(us++[u]).length=ps.length->BindsTo s fd ⟨us,[(kn,u)]⟩ (ps.zip (us++[u]))
structure fz(P:Program)(w:World)(K:Ac)(mg:Str->Option Value)(base:Heap)(k:Nat)(x:Str)(ps:List Str)(d:Int)(kn:Str)(sp:lU):Prop where
 ex:∃f fd,al3 P w K mg base k f fd ps sp/\zU K fd ps d kn/\PySem.W.keepIn K (.ref f)=true/\mg x=some (.ref f)
section
variable {P:Program}{w:World}{K:Ac}{k:Nat}{sp:lU}
theorem fz.mono(c:fz P w K mg base j x ps d kn sp)(h:j≤k):fz P w K mg base k x ps d kn sp:=by obtain⟨f,fd,F,b,kp,m⟩:=c.ex;exact⟨f,fd,F.mono h,b,kp,m⟩
theorem gO.useD(D:gO K x st d)(X:K.In h)(G:h.Ns mainGlobals mg)
 (hb:∀(T:Addr) (t:Tok) (kV doc pm:Value) (an:Option Addr) (cdv ct:Value),
  (∀us:List Value,us.length=ps.length->∃k,bindArgs (PySem.W.fnOf x x (ja st) (zn st) (ql st) (.ref T) kV doc pm an cdv ct) ⟨us,[]⟩=seqItems? (.ref T) >>= k/\k (some #[.int d t])=pure (ps.zip us))/\
  (∀us:List Value,(us++[Value.int d t]).length=ps.length->∃k,bindArgs (PySem.W.fnOf x x (ja st) (zn st) (ql st) (.ref T) kV doc pm an cdv ct) ⟨us,[]⟩=seqItems? (.ref T) >>= k/\k (some #[.int d t])=pure (ps.zip (us++[.int d t])))/\
  (∀(us:List Value) (u:Value),(us++[u]).length=ps.length->∃k,bindArgs (PySem.W.fnOf x x (ja st) (zn st) (ql st) (.ref T) kV doc pm an cdv ct) ⟨us,[(kn,u)]⟩=seqItems? (.ref T) >>= k/\k (some #[.int d t])=pure (ps.zip (us++[u])))):
 ∃f fd,agh K x x st f fd/\zU K fd ps d kn/\mg x=some (.ref f):=by
 obtain⟨f,T,oT,t,n,kV,doc,pm,an,cdv,ct,a,F,lT,dT⟩:=D.ex;obtain⟨b1,b2,b3⟩:=hb T t kV doc pm an cdv ct;refine⟨f,_,F,⟨fun s us KX hl=>?_,⟨t,fun s us KX hl=>?_⟩,fun s us u KX hl=>?_⟩,BV X G a⟩
 ·rw[A0] at hl ⊢;obtain⟨k,h1,h2⟩:=b1 us hl;exact BindsTo.of_defaults rfl (KX T oT lT) dT h1 h2
 ·obtain⟨k,h1,h2⟩:=b2 us hl;exact BindsTo.of_defaults rfl (KX T oT lT) dT h1 h2
 ·obtain⟨k,h1,h2⟩:=b3 us u hl;exact BindsTo.of_defaults rfl (KX T oT lT) dT h1 h2
end
theorem zW{a:Value}(h:(us++[a]).length=2):∃u,us=[u]:=by
 rw[Aa,AI] at h
 match us,h with
 |[u],_=>exact⟨u,rfl⟩
section
variable {ke:Expr}{tk:x4}{cp kp:Pos}{E3:X3}{k:Nat}{sp:lU} 
theorem aim(c:fz X.prog X.w X.K X.mg X.base k x ps d kn sp)(hr:v3 k X.A)(hg:Gl X x)(ht:bQ X (upX X.g3 E3))(hx:X.ex=[])(ha:QA X (e::es) tr)(hdb:Dl x:=by decide)
 (he:Dj e es X:=by rfl) (hpl:Dk pos es X:=by rfl):QE X (.Call (.Name x p) (e::es) [] pos) (uJ sp d E3 tr):=by
 obtain⟨f,fd,F,b,kp,m⟩:=c.ex;obtain⟨t,bd⟩:=b.df;refine DC (vN (dvs:=[.int d]) F hr hg m kp bd (.cons ⟨_,rfl⟩ .nil) ht hx ha hdb he hpl) fun σ H Q ⟨τ,L,Q3,rs,rl,z,k⟩=>?_;exact⟨τ,L,_,rs,rl,z,fun vs H1 ys L1 t1 rl1 rv1 z1=>⟨ys++[.int d],L1,Q3,E3 τ,rv1.app (xk.one (by rfl)),rl1,z1,k.ts t1,fun C H' L' t' rl' q=>⟨C,τ,L',rfl,rs.ts (t1.trans t'),rl',q⟩⟩⟩
end
open PySem L2 Words
theorem abl{ks:List (Option Kn)}{p:Nat}(h:ks[p]?=some (some (.nd false i j))):(p,i)∈jg ks (zy false ks)/\(p,j)∈jg ks (zy false ks):=by
 have hp:p∈zy false ks:=ic h rfl (qx h);unfold jg;refine⟨AY.mpr ⟨p,hp,?_⟩,AY.mpr ⟨p,hp,?_⟩⟩
 ·rw[h];simp[va]
 ·rw[h];simp[va]
theorem gN{ks:List (Option Kn)}:∀{pl:List Nat},(∀p∈pl,∃e i j,ks[p]?=some (some (.nd e i j)))->(jg ks pl).length=2*pl.length
 |[],_=>by simp[jg]
 |p::r,h=>by have ih:=gN (pl:=r) fun q hq=>h q (Ae _ hq);obtain⟨e,i,j,ek⟩:=h p (Au ..);have ea:=gI ks [p] r;rw[Co] at ea;rw[ea,Aa,ih,gC ek,Ab,AE];show 2+_=_;omega
theorem gM:∀ks:List (Option Kn),(∀k∈ks,k≠none)->ks.countP jv+ks.countP (zo false)+ks.countP (zo true)=ks.length
 |[],_=>rfl
 |k::r,h=>by
  have ih:=gM r fun q hq=>h q (Ae _ hq);rw[AA,AA,AA,AE];cases k with
  |none=>exact absurd rfl (h none (Au ..))
  |some k=>
   cases k with|lf t n=>simp[jv,zo];omega|nd e i j=>cases e<;>simp[jv,zo]<;>omega
theorem cL(e:Bool)(ks:List (Option Kn)):(zy e ks).length=ks.countP (zo e):=by rw[w9 _ _ _ (Am _),AF]
theorem mE{ks:List (Option Kn)}(h:∀k∈ks,k≠none):(xw ks).length=ks.length:=by rw[w9 _ _ _ (Am _),AF];refine List.countP_eq_length.mpr fun k hk=>?_;cases k with|none=>exact absurd rfl (h none hk)|some k=>rfl
theorem vO{ks:List (Option Kn)}(hno:∀k∈ks,k≠none)(h1:2*lk.length=ks.countP jv)(h2:ks.countP jv=2*ks.countP (zo false)+2):(jp ks lk []).length+(zy true ks).length+1=ks.length:=by
 have h3:=gM ks hno;have h4:(jg ks (zy false ks)).length=2*(zy false ks).length:=gN fun p hp=>by
  obtain⟨_,k,ek,hk⟩:=aJ hp;cases k with
  |none=>cases hk
  |some k=>
   cases k with|lf t n=>cases hk|nd e i j=>exact⟨e,i,j,ek⟩
 unfold jp;rw[A0,Aa,h4,cL,cL];omega
theorem lu:∀(l m:List Nat),l.Nodup->(∀x∈l,x∈m)->l.length≤m.length
 |[],_,_,_=>Bf _
 |x::r,m,nd,h=>by
  obtain⟨n1,n2⟩:=Az.mp nd;have hx:=h x (Au ..);have p:=List.perm_cons_erase hx;have ih:=lu r (m.erase x) n2 fun y hy=>by refine(List.mem_erase_of_ne ?_).mpr (h y (Ae _ hy));rintro rfl;exact n1 hy
  rw[p.length_eq,AE,AE];omega
theorem ui{l m:List Nat}(nd:l.Nodup)(h:∀x∈l,x∈m)(hm:m.length≤l.length):∀x∈m,x∈l:=fun x hx=>by
 by_cases c:x∈l
 ·exact c
 ·have:=lu (x::l) m (Az.mpr ⟨c,nd⟩) fun y hy=>by
   rcases An.mp hy with rfl | hy
   ·exact hx
   ·exact h y hy
  rw[AE] at this;omega
section
variable {R:Nat->Nat->Prop}(rr:∀a,R a a)(rs:∀a b,R a b->R b a)(rt:∀a b c,R a b->R b c->R a c)
include rt
include rr
omit rr
include rs
end
theorem gY:∀{T:List Nat} {i q:Nat},T.Nodup->T[i]?=some q->T.idxOf q=i
 |[],i,q,_,h=>by simp at h
 |x::r,0,q,_,h=>by cases h;exact List.idxOf_cons_self ..
 |x::r,i+1,q,nd,h=>by obtain⟨n1,n2⟩:=Az.mp nd;have h:r[i]?=some q:=h;have ne:x≠q:=fun z=>n1 (z▸Ay h);rw[List.idxOf_cons,gY n2 h,show(x==q)=false from beq_eq_false_iff_ne.mpr ne];rfl
structure Iso(ks ls:List Kn)(f:Nat->Nat):Prop where
 at_:∀p k,ks[p]?=some k->ls[f p]?=some (rh f k)
 len:ls.length=ks.length
 inj:∀a b,a<ks.length->b<ks.length->f a=f b->a=b
 sur:∀x,x<ls.length->∃p,p<ks.length/\f p=x
theorem mM{α β:Type}{R:α->β->Prop}:∀{xs:List α} {ys:List β} {i:Nat} {y:β},Paired R xs ys->ys[i]?=some y->∃x,xs[i]?=some x/\R x y
 |_,_,0,_,.cons r _,e=>by cases e;exact⟨_,rfl,r⟩
 |_,_,i+1,_,.cons _ t,e=>mM (i:=i) t e
theorem aij{E:List Nat}{T:List Nat}(h:wL ks E ws T)(pm:T.Perm (List.range ks.length)):∃f,Iso ks (vf 0 ws) f:=by
 have nd:T.Nodup:=pm.nodup_iff.mpr Bj;have lt:T.length=ks.length:=by rw[pm.length_eq,A3]
 have ix:∀i q,T[i]?=some q->T.idxOf q=0+i:=fun i q e=>by rw[gY nd e,BF]
 have L:=ae1 (f:=fun q=>T.idxOf q) h 0 ix;have ll:(vf 0 ws).length=T.length:=wu L;have mem:∀p,p<ks.length->∃i,T[i]?=some p:=fun p hp=>List.getElem?_of_mem (pm.mem_iff.mpr (AX.mpr hp));refine⟨fun q=>T.idxOf q,fun p k e=>?_,by omega,fun a b ha hb e=>?_,fun x hx=>?_⟩
 ·obtain⟨i,hi⟩:=mem p (qx e);obtain⟨k',e1,k0,e2,e3⟩:=mM L hi;rw[e] at e2;cases e2;show(vf 0 ws)[T.idxOf p]?=_;rw[gY nd hi,e1,e3]
 ·obtain⟨i,hi⟩:=mem a ha;obtain⟨j,hj⟩:=mem b hb;have e:T.idxOf a=T.idxOf b:=e;rw[gY nd hi,gY nd hj] at e;rw[e,hj] at hi;cases hi;rfl
 ·have e:T[x]?=some (T[x]'(by omega)):=Ak (by omega);exact⟨_,AX.mp (pm.mem_iff.mp (Ay e)),gY nd e⟩
theorem g9(ks:List Kn):(List.range ks.length).map (fun p=>ks[p]?)=ks.map some:=by
 refine Cj fun i=>?_;rw[Ai,Ai];by_cases c:i<ks.length
 ·rw[BB c];show some ks[i]?=ks[i]?.map some;rw[Ak c];rfl
 ·rw[Bv (by rw[A3];omega),Bv (l:=ks) (by omega)];rfl
theorem Iso.perm{ls:List Kn}{f:Nat->Nat}(I:Iso ks ls f):(ls.map some).Perm ((ks.map (rh f)).map some):=by
 have p:((List.range ks.length).map f).Perm (List.range ls.length):=by
  refine(A7 (bB (fun a ha b hb e=>I.inj a b (AX.mp ha) (AX.mp hb) e) Bj) Bj).mpr fun x=>?_;rw[Bh,AX];constructor
  ·rintro⟨a,ha,rfl⟩;exact qx (I.at_ a _ (Ak (AX.mp ha)))
  ·intro hx;obtain⟨q,hq,e⟩:=I.sur x hx;exact⟨q,AX.mpr hq,e⟩
 have p2:=p.symm.map fun x=>ls[x]?;rw[g9,Bm] at p2;refine p2.trans (List.Perm.of_eq ?_);rw[Bm];have:(List.range ks.length).map ((fun x=>ls[x]?)∘f)=(List.range ks.length).map ((fun o=>o.map (rh f))∘fun p=>ks[p]?):=Bp fun a ha=>by have e:=Ak (AX.mp ha);show ls[f a]?=ks[a]?.map (rh f);rw[I.at_ a _ e,e];rfl
 rw[this,<-Bm,g9,Bm];refine Bp fun k _=>rfl
def rS(t:Bool)(x:Str):Option Kn->Bool
 |some (.lf u n)=>decide (u=t)&&decide (n=x)
 |_=>false
theorem cn{ls:List Kn}{f:Nat->Nat}(I:Iso ks ls f)(P:Option Kn->Bool)(h:∀k,P (some (rh f k))=P (some k)):(ls.map some).countP P=(ks.map some).countP P:=by rw[I.perm.countP_eq,B8,B8,B8];exact BY fun k _=>by show P (some (rh f k))=true↔_;rw[h k];rfl
theorem aS(tp:(za R).Perm (List.range ks.length))(P:Option Kn->Bool):(ks.map some).countP P=(za R).countP fun p=>P ks[p]?:=by rw[tp.countP_eq,<-g9,B8];rfl
theorem SR.cnt{E:List Nat}(h:SR ks R E):qY R->(za R).countP (fun p=>rG ks[p]?)=(v4 R).length/\(za R).countP (fun p=>jv ks[p]?)=2*(v4 R).length/\(za R).countP (fun p=>zo false ks[p]?)+1=(v4 R).length/\∀x,(za R).countP (fun p=>rS false x ks[p]?)=(za R).countP (fun p=>rS true x ks[p]?):=by
 induction h with
 |@link p q t n E' _ h2 h3 _ _=>
  intro _;refine⟨?_,?_,?_,fun x=>?_⟩
  ·show List.countP _ [p,q]=1;rw[AA,AA,BU];simp only[h2,h3];cases t<;>rfl
  ·show List.countP _ [p,q]=2;rw[AA,AA,BU];simp only[h2,h3];rfl
  ·show List.countP _ [p,q]+1=1;rw[AA,AA,BU];simp only[h2,h3];rfl
  ·show List.countP _ [p,q]=List.countP _ [p,q];rw[AA,AA,BU,AA,AA,BU];simp only[h2,h3];cases t<;>simp[rS]<;>omega
 |@ei r i j A EA E' h1 _ _ _ _ _ _ ih=>
  intro nc;obtain⟨a,b,c,d⟩:=ih nc;refine⟨?_,?_,?_,fun x=>?_⟩
  ·show List.countP _ (r::za A)=_;rw[AA,a];simp only[h1];rfl
  ·show List.countP _ (r::za A)=_;rw[AA,b];simp only[h1];rfl
  ·show List.countP _ (r::za A)+1=_;rw[AA];simp only[h1];exact c
  ·show List.countP _ (r::za A)=List.countP _ (r::za A);rw[AA,AA,d x];simp only[h1];rfl
 |@bo r i j A B EA EB E' h1 _ _ _ _ _ _ ih1 ih2=>
  intro nc;obtain⟨a,b,c,d⟩:=ih1 nc.1;obtain⟨a',b',c',d'⟩:=ih2 nc.2;have ll:(v4 (.bo r A B)).length=(v4 A).length+(v4 B).length:=Aa ..;refine⟨?_,?_,?_,fun x=>?_⟩
  ·show List.countP _ (r::(za A++za B))=_;rw[AA,AL,a,a',ll];simp only[h1];rfl
  ·show List.countP _ (r::(za A++za B))=_;rw[AA,AL,b,b',ll];simp only[h1];rw[AB (show ¬jv (some (Kn.nd false i j))=true from Ap)];omega
  ·show List.countP _ (r::(za A++za B))+1=_;rw[AA,AL,ll];simp only[h1];rw[AC (show zo false (some (Kn.nd false i j))=true from rfl)];omega
  ·show List.countP _ (r::(za A++za B))=List.countP _ (r::(za A++za B));rw[AA,AA,AL,AL,d x,d' x];simp only[h1];rfl
 |cu=>intro nc;exact nc.elim
theorem SR.oneN{E:List Nat}(h:SR ks R E){T:Nat->Nat->Prop}(sy:∀a b,T a b->T b a)(tr:∀a b c,T a b->T b c->T a c)(rf:∀a,T a a)(nc:qY R)
 (hl:∀x∈v4 R,T x.1 x.2) (hb:∀r i j,ks[r]?=some (.nd false i j)->T r i/\T r j)
 (he:∀r i j,ks[r]?=some (.nd true i j)->T i j->T r i):∀a∈za R,∀b∈za R,T a b:=by
 have star:∀{l:List Nat} {c:Nat},(∀x∈l,T c x)->∀a∈l,∀b∈l,T a b:=fun h a ha b hb=>tr _ _ _ (sy _ _ (h a ha)) (h b hb)
 induction h with
 |@link p q t n E' _ _ _ _ _=>
  have e:T p q:=hl (p,q) (Af.mpr rfl);refine star (c:=p) fun x hx=>?_;rcases An.mp hx with rfl | hx
  ·exact rf _
  ·rw[Af.mp hx];exact e
 |@ei r i j A EA E' h1 hA h3 h4 _ _ _ ih=>
  have one:=ih nc hl;have mi:=hA.sub i h3;have ri:=he r i j h1 (one i mi j (hA.sub j h4));refine star (c:=r) fun x hx=>?_;rcases An.mp hx with rfl | hx
  ·exact rf _
  ·exact tr _ _ _ ri (one i mi x hx)
 |@bo r i j A B EA EB E' h1 hA hB h4 h5 _ _ ih1 ih2=>
  have oA:=ih1 nc.1 fun x hx=>hl x (Ao _ hx);have oB:=ih2 nc.2 fun x hx=>hl x (Ag _ hx);obtain⟨ri,rj⟩:=hb r i j h1;refine star (c:=r) fun x hx=>?_;rcases An.mp hx with rfl | hx
  ·exact rf _
  ·rcases Ah.mp hx with hx | hx
   ·exact tr _ _ _ ri (oA i (hA.sub i h4) x hx)
   ·exact tr _ _ _ rj (oB j (hB.sub j h5) x hx)
 |cu=>exact nc.elim
theorem SR.lks{E:List Nat}(h:SR ks R E):∀x∈v4 R,x.1∈za R/\x.2∈za R/\∃t n,ks[x.1]?=some (.lf t n)/\ks[x.2]?=some (.lf (!t) n):=by
 induction h with
 |@link p q t n E' _ h2 h3 _ _=>intro x hx;rw[Af.mp hx];exact⟨Au ..,Ae _ (Au ..),t,n,h2,h3⟩
 |ei _ _ _ _ _ _ _ ih=>intro x hx;obtain⟨a,b,c⟩:=ih x hx;exact⟨Ae _ a,Ae _ b,c⟩
 |bo _ _ _ _ _ _ _ ih1 ih2=>
  intro x hx;rcases Ah.mp hx with hx | hx
  ·obtain⟨a,b,c⟩:=ih1 x hx;exact⟨Ae _ (Ao _ a),Ae _ (Ao _ b),c⟩
  ·obtain⟨a,b,c⟩:=ih2 x hx;exact⟨Ae _ (Ag _ a),Ae _ (Ag _ b),c⟩
 |cu _ _ _ _ _ _ _ _ ih1 ih2=>
  intro x hx;rcases Ah.mp hx with hx | hx
  ·obtain⟨a,b,c⟩:=ih1 x hx;exact⟨Ao _ a,Ao _ b,c⟩
  ·obtain⟨a,b,c⟩:=ih2 x hx;exact⟨Ag _ a,Ag _ b,c⟩
theorem SR.lkOf{E:List Nat}(h:SR ks R E):∀p∈za R,∀t n,ks[p]?=some (.lf t n)->∃x∈v4 R,x.1=p\/x.2=p:=by
 induction h with
 |@link p q t n E' _ h2 h3 _ _=>
  intro u hu _ _ _;refine⟨_,Af.mpr rfl,?_⟩;rcases An.mp hu with rfl | hu
  ·exact .inl rfl
  ·exact .inr (Af.mp hu).symm
 |ei h1 _ _ _ _ _ _ ih=>
  intro u hu t n e;rcases An.mp hu with rfl | hu
  ·rw[h1] at e;cases e
  ·exact ih u hu t n e
 |bo h1 _ _ _ _ _ _ ih1 ih2=>
  intro u hu t n e;rcases An.mp hu with rfl | hu
  ·rw[h1] at e;cases e
  ·rcases Ah.mp hu with hu | hu
   ·obtain⟨x,a,b⟩:=ih1 u hu t n e;exact⟨x,Ao _ a,b⟩
   ·obtain⟨x,a,b⟩:=ih2 u hu t n e;exact⟨x,Ag _ a,b⟩
 |cu _ _ _ _ _ _ _ _ ih1 ih2=>
  intro u hu t n e;rcases Ah.mp hu with hu | hu
  ·obtain⟨x,a,b⟩:=ih1 u hu t n e;exact⟨x,Ao _ a,b⟩
  ·obtain⟨x,a,b⟩:=ih2 u hu t n e;exact⟨x,Ag _ a,b⟩
theorem SR.lkU{E:List Nat}(h:SR ks R E):(za R).Nodup->∀x∈v4 R,∀y∈v4 R,(x.1=y.1\/x.1=y.2\/x.2=y.1\/x.2=y.2)->x=y:=by
 have app:∀{A B:Ru} {EA EB:List Nat},SR ks A EA->SR ks B EB->(za A++za B).Nodup->(∀x∈v4 A,∀y∈v4 A,(x.1=y.1\/x.1=y.2\/x.2=y.1\/x.2=y.2)->x=y)->(∀x∈v4 B,∀y∈v4 B,(x.1=y.1\/x.1=y.2\/x.2=y.1\/x.2=y.2)->x=y)->∀x∈v4 A++v4 B,∀y∈v4 A++v4 B,(x.1=y.1\/x.1=y.2\/x.2=y.1\/x.2=y.2)->x=y:=fun {A B EA EB} sA sB nd iA iB x hx y hy e=>by
  have ap:∀u∈v4 A,∀v∈v4 B,¬(u.1=v.1\/u.1=v.2\/u.2=v.1\/u.2=v.2):=fun u hu v hv z=>by
   obtain⟨a,b,_⟩:=sA.lks u hu;obtain⟨c,d,_⟩:=sB.lks v hv;have m:=(AJ.mp nd).2.2;rcases z with z | z | z | z
   ·exact m _ a _ c z
   ·exact m _ a _ d z
   ·exact m _ b _ c z
   ·exact m _ b _ d z
  rcases Ah.mp hx with hx | hx<;>rcases Ah.mp hy with hy | hy
  ·exact iA x hx y hy e
  ·exact absurd e (ap x hx y hy)
  ·refine absurd ?_ (ap y hy x hx);rcases e with e | e | e | e
   ·exact .inl e.symm
   ·exact .inr (.inr (.inl e.symm))
   ·exact .inr (.inl e.symm)
   ·exact .inr (.inr (.inr e.symm))
  ·exact iB x hx y hy e
 induction h with|link _ _ _ _ _=>intro _ x hx y hy _;rw[Af.mp hx,Af.mp hy]|ei _ _ _ _ _ _ _ ih=>intro nd;exact ih (Az.mp nd).2|bo _ sA sB _ _ _ _ ih1 ih2=>intro nd;have n2:=(Az.mp nd).2;exact app sA sB n2 (ih1 (AJ.mp n2).1) (ih2 (AJ.mp n2).2.1)|cu sA sB _ _ _ _ _ _ ih1 ih2=>intro n2;exact app sA sB n2 (ih1 (AJ.mp n2).1) (ih2 (AJ.mp n2).2.1)
section
variable {ls:List Kn}{E:List Nat}{f:Nat->Nat}
def Pt(R:Ru)(f:Nat->Nat)(x y:Nat):Prop:=∃l∈v4 R,(x=f l.1/\y=f l.2)\/(x=f l.2/\y=f l.1)
theorem Pt.sy{x y:Nat}(h:Pt R f x y):Pt R f y x:=by obtain⟨l,hl,h⟩:=h;exact⟨l,hl,h.symm.imp (fun⟨a,b⟩=>⟨b,a⟩) fun⟨a,b⟩=>⟨b,a⟩⟩
theorem Pt.lf(I:Iso ks ls f)(sr:SR ks R E){x y:Nat}(h:Pt R f x y):∃t n,ls[x]?=some (.lf t n)/\ls[y]?=some (.lf (!t) n):=by
 obtain⟨l,hl,h⟩:=h;obtain⟨_,_,t,n,e1,e2⟩:=sr.lks l hl;have w1:=I.at_ _ _ e1;have w2:=I.at_ _ _ e2;rcases h with⟨rfl,rfl⟩ | ⟨rfl,rfl⟩
 ·exact⟨t,n,w1,w2⟩
 ·exact⟨!t,n,w2,by rw[Bool.not_not];exact w1⟩
theorem Pt.un(I:Iso ks ls f)(sr:SR ks R E)(nd:(za R).Nodup){x x' y:Nat}(h:Pt R f x y)(h':Pt R f x' y):x=x':=by
 obtain⟨l,hl,h⟩:=h;obtain⟨m,hm,h'⟩:=h';obtain⟨a1,a2,t,n,e1,e2⟩:=sr.lks l hl;obtain⟨b1,b2,_⟩:=sr.lks m hm;have inj:∀{p q:Nat},p∈za R->q∈za R->f p=f q->p=q:=fun hp hq e=>I.inj _ _ (sr.lt _ hp) (sr.lt _ hq) e;have ne:l.1≠l.2:=fun z=>by rw[z,e2] at e1;cases t<;>cases e1
 rcases h with⟨rfl,hy⟩ | ⟨rfl,hy⟩<;>rcases h' with⟨rfl,hy'⟩ | ⟨rfl,hy'⟩<;>rw[hy] at hy'
 ·have e:=inj a2 b2 hy';rw[sr.lkU nd l hl m hm (.inr (.inr (.inr e)))]
 ·have e:=inj a2 b1 hy';have z:=sr.lkU nd l hl m hm (.inr (.inr (.inl e)));subst z;exact absurd e.symm ne
 ·have e:=inj a1 b2 hy';have z:=sr.lkU nd l hl m hm (.inr (.inl e));subst z;exact absurd e ne
 ·have e:=inj a1 b1 hy';rw[sr.lkU nd l hl m hm (.inl e)]
theorem Pt.tot(I:Iso ks ls f)(sr:SR ks R E)(tp:(za R).Perm (List.range ks.length)){x:Nat}{t:Bool}{n:Str}(h:ls[x]?=some (.lf t n)):∃y,Pt R f x y:=by
 obtain⟨p,hp,rfl⟩:=I.sur x (qx h);have e:=Ak hp;have w:=I.at_ p _ e;rw[h] at w;obtain⟨t',n',e'⟩:∃t n,ks[p]?=some (.lf t n):=by cases ek:ks[p] with|lf t n=>rw[ek] at e;exact⟨t,n,e⟩|nd b i j=>rw[ek] at w;cases w
 obtain⟨l,hl,c⟩:=sr.lkOf p (tp.mem_iff.mpr (AX.mpr hp)) t' n' e';rcases c with c | c
 ·exact⟨f l.2,l,hl,.inl ⟨by rw[c],rfl⟩⟩
 ·exact⟨f l.1,l,hl,.inr ⟨by rw[c],rfl⟩⟩
theorem aM{x:Nat}{k:Kn}:(ls.map some)[x]?=some (some k)↔ls[x]?=some k:=by rw[Ai];cases ls[x]? with|none=>simp|some k'=>simp
theorem zS(I:Iso ks ls f)(sr:SR ks R E)(tp:(za R).Perm (List.range ks.length)):∀i,i≤ls.length->∃lk,iO (ls.map some) i lk/\(∀c∈lk,∃x y,Pt R f x y/\jj (ls.map some) x/\x<i/\c=(min x y,max x y))/\(∀x y,x<i->jj (ls.map some) x->Pt R f x y->(min x y,max x y)∈lk)/\lk.length=mj (ls.map some) i:=by
 have nd:(za R).Nodup:=tp.nodup_iff.mpr Bj;intro i
 induction i with
 |zero=>exact fun _=>⟨[],.zero,fun c hc=>(by cases hc),fun x y hx=>absurd hx (B7 _),rfl⟩
 |succ i ih=>
  intro hi;obtain⟨lk,M,h1,h2,h3⟩:=ih (by omega);have e:(ls.map some)[i]?=some (some ls[i]):=aM.mpr (Ak hi);have pn:mj (ls.map some) (i+1)=mj (ls.map some) i+if rG (some ls[i])=true then 1 else 0:=by unfold mj;rw[AN,e,AL];show _+[some ls[i]].countP rG=_;rw[AA,BU,BF]
  have skip:rG (some ls[i])=false->¬jj (ls.map some) i->∃lk,iO (ls.map some) (i+1) lk/\(∀c∈lk,∃x y,Pt R f x y/\jj (ls.map some) x/\x<i+1/\c=(min x y,max x y))/\(∀x y,x<i+1->jj (ls.map some) x->Pt R f x y->(min x y,max x y)∈lk)/\lk.length=mj (ls.map some) (i+1):=fun hb np=>by
   refine⟨lk,.skip M np,fun c hc=>?_,fun x y hx hp hy=>?_,by rw[pn,hb,h3];rfl⟩
   ·obtain⟨x,y,a,b,d,g⟩:=h1 c hc;exact⟨x,y,a,b,by omega,g⟩
   ·by_cases z:x=i
    ·rw[z] at hp;exact absurd hp np
    ·exact h2 x y (by omega) hp hy
  cases ek:ls[i] with
  |nd b p q=>rw[ek] at e skip;exact skip rfl fun⟨_,z⟩=>by rw[e] at z;cases z
  |lf t n=>
   rw[ek] at e skip pn;cases t with
   |true=>exact skip rfl fun⟨_,z⟩=>by rw[e] at z;cases z
   |false=>
    obtain⟨y,hy⟩:=Pt.tot I sr tp (aM.mp e);obtain⟨t,n',w1,w2⟩:=hy.lf I sr;rw[aM.mp e] at w1;cases w1;have hp:jj (ls.map some) i:=⟨_,e⟩;have ny:y∉xj lk:=fun z=>by
     unfold xj at z;obtain⟨c,hc,hq⟩:=AY.mp z;obtain⟨x,y',a,⟨n2,b⟩,d,rfl⟩:=h1 c hc;have o:y=x\/y=y':=by
      have:y=min x y'\/y=max x y':=by simpa using hq
      omega
     rcases o with o | o
     ·rw[<-o,aM,w2] at b;cases b
     ·rw[<-o] at a;have:=Pt.un I sr nd a hy;omega
    refine⟨lk++[(min i y,max i y)],.plain M e (aM.mpr w2) ny,fun c hc=>?_,fun x z hx hpx hz=>?_,by rw[pn,Aa,h3];rfl⟩
    ·rcases Ah.mp hc with hc | hc
     ·obtain⟨x,y,a,b,d,g⟩:=h1 c hc;exact⟨x,y,a,b,by omega,g⟩
     ·exact⟨i,y,hy,hp,by omega,Af.mp hc⟩
    ·by_cases zz:x=i
     ·subst zz;rw[Pt.un I sr nd hz.sy hy.sy];exact Ag _ (Af.mpr rfl)
     ·exact Ao _ (h2 x z (by omega) hpx hz)
theorem xF(I:Iso ks ls f)(sr:SR ks R E)(nc:qY R)(tp:(za R).Perm (List.range ks.length))(hl:∀x y,x<ls.length->jj (ls.map some) x->Pt R f x y->(min x y,max x y)∈lk):zV (ls.map some).length (ls.map some) (jp (ls.map some) lk []) (zy true (ls.map some)):=by
 intro Q rf sy tr hj hf a b ha hb;rw[Ab] at ha hb;obtain⟨p,hp,rfl⟩:=I.sur a ha;obtain⟨q,hq,rfl⟩:=I.sur b hb;have mm:∀x y,(min x y,max x y)∈lk->Q x y:=fun x y h=>by
  have:=hj _ (Ao _ (Ao _ h));have this:Q (min x y) (max x y):=this;rcases Nat.le_total x y with c | c
  ·rwa[BS c,CU c] at this
  ·rw[Nat.min_eq_right c,C8 c] at this;exact sy _ _ this
 refine sr.oneN (T:=fun a b=>Q (f a) (f b)) (fun a b=>sy _ _) (fun a b c=>tr _ _ _) (fun a=>rf _) nc (fun l hl'=>?_) (fun r i j e=>?_) (fun r i j e h=>?_) p (tp.mem_iff.mpr (AX.mpr hp)) q (tp.mem_iff.mpr (AX.mpr hq))
 ·have h1:Pt R f (f l.1) (f l.2):=⟨l,hl',.inl ⟨rfl,rfl⟩⟩;obtain⟨t,n,w1,w2⟩:=h1.lf I sr;cases t with
  |false=>exact mm _ _ (hl _ _ (qx w1) ⟨n,aM.mpr w1⟩ h1)
  |true=>exact sy _ _ (mm _ _ (hl _ _ (qx w2) ⟨n,aM.mpr w2⟩ h1.sy))
 ·have w:=aM.mpr (I.at_ r _ e);obtain⟨a,b⟩:=abl w;exact⟨hj _ (Ag _ a),hj _ (Ag _ b)⟩
 ·have w:=aM.mpr (I.at_ r _ e);exact hf (f r) (ic w rfl (qx w)) true _ _ w h
end
theorem rT{ks:List (Option Kn)}{lk':List (Nat×Nat)}(p:lk'.Perm lk):(jp ks lk' []).Perm (jp ks lk []):=(p.append_right _).append_right _
structure Fnd(ks:List Kn)(R:Ru)(ws:List Wd):Prop where
 way:∃lk,iO (aF ws) (aF ws).length lk/\∀lk',lk'.Perm lk->Rt (aF ws) lk' []
 cnt:∀t x,je (LV ws) t x=(ks.map some).countP (rS t x)
 even:fV (LV ws)
 ll:(LV ws).length=2*(v4 R).length
 bo:BO ws+1=(v4 R).length
 sz:SZ ws=ks.length
theorem afo(ks:List (Option Kn))(t:Bool)(x:Str):je (ks.filterMap jS) t x=ks.countP (rS t x):=by
 unfold je
 induction ks with
 |nil=>rfl
 |cons k r ih=>
  rw[AA,<-ih];cases k with
  |none=>simp[jS,rS,Bd]
  |some k=>
   cases k with|nd e i j=>simp[jS,rS,Bd]|lf u n=>cases u<;>cases t<;>simp[jS,rS,g7,AA]
theorem uu{E:List Nat}(ok:cf ks)(sr:SR ks R E)(nc:qY R)(tp:(za R).Perm (List.range ks.length))(pw:Paired (dY ks) E ws):Fnd ks R ws:=by
 obtain⟨T,hT⟩:=afx pw;have pm:=hT.all ok sr nc tp hT.lt;obtain⟨f,I⟩:=aij hT pm;have nd:(za R).Nodup:=tp.nodup_iff.mpr Bj;obtain⟨c1,c2,c3,c4⟩:=sr.cnt nc;have lv:LV ws=((vf 0 ws).map some).filterMap jS:=(cP 0 ws).symm;have cl:∀t x,je (LV ws) t x=(ks.map some).countP (rS t x):=fun t x=>by rw[lv,afo];exact cn I _ fun k=>by cases k<;>rfl
 have n1:((vf 0 ws).map some).countP jv=2*(v4 R).length:=by rw[cn I _ fun k=>(by cases k<;>rfl),aS tp,c2]
 have n2:((vf 0 ws).map some).countP (zo false)+1=(v4 R).length:=by rw[cn I _ fun k=>(by cases k<;>rfl),aS tp];exact c3
 have n3:((vf 0 ws).map some).countP rG=(v4 R).length:=by rw[cn I _ fun k=>(by cases k<;>rfl),aS tp,c1]
 have ll:=I.len;obtain⟨lk,M,_,h2,h3⟩:=zS I sr tp (vf 0 ws).length (Am _);have h3:lk.length=(v4 R).length:=by rw[h3,<-n3];unfold mj;rw[BQ (by rw[Ab];exact Am _)]
 have hno:=iz ws;refine⟨⟨lk,by rw[Ab];exact M,fun lk' p=>?_⟩,cl,fun x=>?_,?_,?_,?_⟩
 ·have C:=xF I sr nc tp (lk:=lk) h2;refine⟨fun Q rf sy tr hj hf=>C Q rf sy tr (fun x hx=>hj x ((rT p).mem_iff.mpr hx)) hf,mE hno,vO hno ?_ ?_⟩
  ·rw[p.length_eq,h3];exact n1.symm
  ·rw[n1];show 2*(v4 R).length=2*(((vf 0 ws).map some).countP (zo false))+2;omega
 ·rw[cl,cl,aS tp,aS tp];exact c4 x
 ·rw[lv,cq];exact n1
 ·rw[<-eS 0 ws];exact n2
 ·rw[<-l0 0 ws];exact ll
end L3
namespace TS
open PySem PyProof.Rows PySem.W
section
variable {w:World} 
def IntV(v:Value):Prop:=∃i t,v=.int i t
noncomputable def nmI(x:Keyed):Int:=match x.1 with
 |.int i _=>i
 |_=>0
theorem acg:Ord prog w A s oneType' (fun x=>IntV x.1) nmI:=by
 constructor;rintro x y ⟨i,t,e1⟩ ⟨j,u,e2⟩ E Q h;have h1:nmI x=i:=by unfold nmI;rw[e1]
 have h2:nmI y=j:=by unfold nmI;rw[e2]
 rw[h1,h2] at h;rw[e1,e2];exact kat_lt_int h
theorem oa:∀{vs:List Value},(∀v∈vs,IntV v)->∃ns,IntsAre vs ns
 |[],_=>⟨[],.nil⟩
 |v::r,h=>by obtain⟨i,t,rfl⟩:=h v (Au ..);obtain⟨ns,k⟩:=oa (vs:=r) fun u hu=>h u (Ae _ hu);exact⟨_,.cons i t k⟩
theorem vM(h:∀v∈vs,IntV v)(h2:¬vs.length<2):keyKind' vs.toArray=pure oneType':=by
 obtain⟨ns,k⟩:=oa h
 match vs,k,h2 with
 |[],_,h2=>exact absurd (Nat.zero_lt_succ 1) h2
 |[_],_,h2=>exact absurd (Br 1) h2
 |_::_::_,k,_=>exact keyKind_ints k
theorem yr{P:PySem.Fin->Shared->Prop}(ho:s.heap.get? a=some (seqObj "list" vs.toArray n))(hz:vs.length≤63)(hk:∀v∈vs,IntV v)(inj:((vs.zip vs).map nmI).Nodup)
 (h:∀h' tk (xs:List Keyed) c,(∀b o,b≠a->s.heap.get? b=some o->h'.get? b=some o)->h'.get? a=some (seqObj "list" (List.toArray (xs.map (·.2))) c)->xs.Perm (vs.zip vs)->(xs.Pairwise fun x y=>nmI x≤nmI y)->P (.done (.ret .none)) { s with heap:=h',toks:=tk }):
 wpAny (model prog w) A (Builtin.«list.sort» ⟨[.ref a],[]⟩) P E s:=by
 have big:(63:Nat)+1≤sizeLine:=by rw[sizeLine_eq];omega
 have zl:(vs.toArray.zip vs.toArray).toList=vs.zip vs:=by simp
 have s1:=Heap.SameBut.update s.heap a (Obj.mapSeq fun _=>(#[]:Array Value));obtain⟨e1,ho1⟩:∃e1,(s.heap.update a (Obj.mapSeq fun _=>(#[]:Array Value))).get? a=some (seqObj "list" #[] e1):=⟨_,get?_update_seq ho fun _=>#[]⟩;obtain⟨hp3,ehp3⟩:∃g,g=((s.heap.update a (Obj.mapSeq fun _=>(#[]:Array Value))).push (seqObj "tuple" vs.toArray 0)).push (seqObj "list" #[] 0):=⟨_,rfl⟩;have k3:∀b o,b≠a->s.heap.get? b=some o->hp3.get? b=some o:=fun b o hb e=>by rw[ehp3];exact Heap.get?_push_of_some _ (Heap.get?_push_of_some _ ((s1.2 b hb).trans e))
 have ha3:hp3.get? a=some (seqObj "list" #[] e1):=by rw[ehp3];exact Heap.get?_push_of_some _ (Heap.get?_push_of_some _ ho1)
 have tail:∀st:SortSt,(arrOf st).toList.Perm (vs.zip vs)->((arrOf st).toList.Pairwise fun x y=>nmI x≤nmI y)->
  ∀tk,P (.done (.ret .none)) { s with heap:=hp3.update a (Obj.mapSeq fun _=>(arrOf st).map (·.2)),toks:=tk }:=by
  intro st hp hs tk;have s2:=Heap.SameBut.update hp3 a (Obj.mapSeq fun _=>(arrOf st).map (·.2));obtain⟨c2,hc2⟩:∃c2,(hp3.update a (Obj.mapSeq fun _=>(arrOf st).map (·.2))).get? a=some (seqObj "list" ((arrOf st).map (·.2)) c2):=⟨_,get?_update_seq ha3 fun _=>(arrOf st).map (·.2)⟩;have em:(arrOf st).map (·.2)=List.toArray ((arrOf st).toList.map (·.2)):=by apply Array.toList_inj.mp;rw[Array.toList_map]
  refine h _ tk (arrOf st).toList c2 (fun b o hb e=>(s2.2 b hb).trans (k3 b o hb e)) ?_ hp hs;rw[em] at hc2 ⊢;exact hc2
 have len:∀st:SortSt,(arrOf st).toList.Perm (vs.zip vs)->((arrOf st).map (·.2)).size≤sizeLine+1:=fun st hp=>by have:=hp.length_eq;rw[Cv,Bo] at this;rw[Array.size_map];lia
 rw[list_sort_plain];refine Ad (listItems_at ho rfl ?_);refine Ad (listUpdate_at ho rfl ?_ (by rw[Al];omega) (Bf _));refine Ad (seqEpoch_at ho1 rfl ?_);refine Ad (wpAny_newTuple ?_ (by show vs.length≤_;lia));refine Ad (wpAny_newList ?_ (Bf _));refine Bu ?_;show wpAny (model prog w) A _ P E { s with heap:=((s.heap.update a (Obj.mapSeq fun _=>(#[]:Array Value))).push (seqObj "tuple" vs.toArray 0)).push (seqObj "list" #[] 0) };rw[<-ehp3];dsimp only;by_cases h2:vs.toArray.size<2
 ·rw[AC h2,AC h2];refine Ad (Ax ?_);rw[StateT.run_pure];refine Ad (Ax ?_);dsimp only;refine Ad (seqEpoch_at ha3 rfl ?_);have pz:(arrOf (SortSt.mk' oneType' (vs.toArray.zip vs.toArray) #[] 7 none)).toList.Perm (vs.zip vs):=by show(vs.toArray.zip vs.toArray).toList.Perm _;rw[zl]
  refine Ad (listUpdate_at ha3 rfl ?_ (Bf _) (len _ pz));simp only[bne_self_eq_false,BP,if_false];refine Ax (tail (SortSt.mk' oneType' (vs.toArray.zip vs.toArray) #[] 7 none) pz ?_ _);show(vs.toArray.zip vs.toArray).toList.Pairwise _;rw[zl];rw[Al] at h2;have:(vs.zip vs).length<2:=by rw[Cv];lia
  exact pM this
 ·rw[AB h2,AB h2];rw[Al] at h2;rw[vM hk h2];refine Ad (Ax ?_);refine Ad (AW (qM (E:=E) (acg (s:={ s with heap:=hp3 })) (st:=SortSt.mk' oneType' (vs.toArray.zip vs.toArray) #[] 7 none)
   (Q:=fun _ st'=>failedOf st'=none/\(arrOf st').toList.Perm (vs.zip vs)/\((arrOf st').toList.Pairwise fun x y=>nmI x≤nmI y)) (by show(vs.toArray.zip vs.toArray).size<64;simp;omega) rfl rfl rfl (fun x hx=>?_) ?_ fun st' b1 b2 b3=>⟨b1,?_,b3⟩) ?_ fun _ _ e=>e)
  ·have hx:x∈(vs.toArray.zip vs.toArray).toList:=hx;rw[zl] at hx;exact hk _ (mem_self_zip hx).1
  ·show((vs.toArray.zip vs.toArray).toList.map _).Nodup;rw[zl];exact inj
  ·have b2:(arrOf st').toList.Perm (vs.toArray.zip vs.toArray).toList:=b2;rw[zl] at b2;exact b2
  ·rintro⟨⟨⟩,st'⟩ s' ⟨rfl,b1,b2,b3⟩;dsimp only;refine Ad (seqEpoch_at ha3 rfl ?_);refine Ad (listUpdate_at ha3 rfl ?_ (Bf _) (len _ b2));rw[b1];simp only[bne_self_eq_false,BP,if_false];exact Ax (tail st' b2 b3 _)
theorem w_sortedI{l:Addr}(hl:s.heap.IsList l vs.toArray)(hz:vs.length≤63)(hk:∀v∈vs,IntV v)(inj:((vs.zip vs).map nmI).Nodup)
 (h:∀h' tk (xs:List Keyed) D c,s.heap.objs.size≤D->(∀b o,s.heap.get? b=some o->h'.get? b=some o)->h'.get? D=some (seqObj "list" (List.toArray (xs.map (·.2))) c)->xs.Perm (vs.zip vs)->(xs.Pairwise fun x y=>nmI x≤nmI y)->Q (.ref D) { s with heap:=h',toks:=tk }):
 wpAny (model prog w) A (call (.builtin "sorted") [.ref l]) Q E s:=by
 have big:(63:Nat)+1≤sizeLine:=by rw[sizeLine_eq];lia
 refine Calls.call_function_entry kind_sorted plain_sorted entry_sorted (args_sorted1 _) ?_;unfold Builtin.«sorted»;refine Ad (m:=checkCount "sorted" 1 1 _) (Ax ?_);refine Ad (collect_list hl ?_ (by lia));refine Ad (wpAny_newList ?_ (by lia));obtain⟨g,eg⟩:∃g,g=(s.heap.push (seqObj "list" #[] 0)).update s.heap.objs.size (Obj.mapSeq (· ++ vs.toArray)):=⟨_,rfl⟩;have gs:g.objs.size=s.heap.objs.size+1:=by rw[eg,Heap.size_update,size_push']
 have gk:∀b o,s.heap.get? b=some o->g.get? b=some o:=fun b o q=>by have hlt:b<s.heap.objs.size:=Heap.lt_size q;rw[eg,Heap.get?_update_ne _ _ _ _ (Bc hlt)];exact Heap.get?_push_of_some _ q
 show wpAny _ _ _ _ _ { s with heap:=((s.heap.push (seqObj "list" #[] 0)).update s.heap.objs.size (Obj.mapSeq (· ++ vs.toArray))).push (seqObj "list" vs.toArray 0) };rw[<-eg];have hoD:(g.push (seqObj "list" vs.toArray 0)).get? g.objs.size=some (seqObj "list" vs.toArray 0):=Heap.get?_push_size _ rfl;have keep:∀b o,s.heap.get? b=some o->(g.push (seqObj "list" vs.toArray 0)).get? b=some o:=fun b o q=>Heap.get?_push_of_some _ (gk b o q);refine Ad (Bu (wpAny_call_entry slot_list_sort ⟨_,hoD,rfl⟩ entry_list_sort ?body (args_list_sort _)))
 case body=>
  refine yr (s:={ s with heap:=g.push (seqObj "list" vs.toArray 0) }) hoD hz hk inj fun h' tk xs c k1 hD pm pw=>?_;refine⟨_,rfl,Ax ⟨_,rfl,h h' tk xs g.objs.size c (by rw[gs];exact Bz _) (fun b o q=>k1 b o ?_ (keep b o q)) hD pm pw⟩⟩;have hlt:b<s.heap.objs.size:=Heap.lt_size q;intro z;rw[z,gs] at hlt;exact Nat.not_succ_lt_self hlt
end
end TS
namespace L2
open PySem PySem.Spec PyProof.Rows
theorem dt:∀{ns:List Int} {vs:List Value},zh (ns.map V.int) vs->IntsAre vs ns
 |[],_,.nil=>.nil
 |n::_,_,.cons ⟨t,e⟩ p=>by subst e;exact .cons n t (dt p)
theorem ip:∀{vs:List Value} {ns:List Int},IntsAre vs ns->(vs.zip vs).map TS.nmI=ns
 |_,_,.nil=>rfl
 |_,_,.cons n t h=>by rw[List.zip_cons_cons,AD,ip h];rfl
theorem jK:∀{vs:List Value} {ns:List Int},IntsAre vs ns->∀v∈vs,TS.IntV v
 |_,_,.nil,_,h=>by cases h
 |_,_,.cons n t k,v,h=>by
  rcases An.mp h with rfl | h
  ·exact⟨n,t,rfl⟩
  ·exact jK k v h
theorem pO:∀{xs:List PyProof.Rows.Keyed},(∀x∈xs,TS.IntV x.1/\x.1=x.2)->zh ((xs.map TS.nmI).map V.int) (xs.map (·.2))
 |[],_=>.nil
 |x::r,h=>by obtain⟨⟨i,t,e⟩,e2⟩:=h x (Au ..);refine .cons ⟨t,?_⟩ (pO fun y hy=>h y (Ae _ hy));show x.2=Value.int (TS.nmI x) t;rw[<-e2,e];unfold TS.nmI;rw[e]
section
def ahb(X:Cx):List V->Hp->VK->Prop:=fun xs H Q=>∃(l:Addr) (ns:List Int),xs=[.ref l]/\aE X.K H l (ns.map V.int)/\ns.Nodup/\ns.length≤63/\
 ∀(D:Addr) (ms:List Int),H D=none->ms.Perm ns->ms.Pairwise (fun a b:Int=>a≤b)->Q (.ref D) (upd H D (.lst (ms.map V.int)))
theorem sK:ju X (.builtin "sorted") (ahb X):=by
 intro pins s σ H xs us Q I r h;obtain⟨l,ns,rfl,hl,hnd,hlen,q⟩:=h;obtain⟨u,rfl,ru⟩:=r.one;cases (show u=Value.ref l from ru);obtain⟨its,rv,pl,hz⟩:=I.list hl;have ia:=dt rv;have l1:ns.length=its.length:=by have:=rv.length;rw[Ab] at this;exact this
 refine jy I.tk (TS.w_sortedI pl.isList (by rw[<-l1];exact hlen) (jK ia) (by rw[ip ia];exact hnd) fun h' tk ks D c hD hk hg pm pw ht=>?_);have mk:∀x∈ks,TS.IntV x.1/\x.1=x.2:=fun x hx=>by obtain⟨m1,m2⟩:=TS.mem_self_zip (pm.mem_iff.mp hx);exact⟨jK ia _ m1,m2⟩
 have pn:(ks.map TS.nmI).Perm ns:=by rw[<-ip ia];exact pm.map _
 refine⟨.ref D,_,I.laid (t':=tk) (o:=.lst ((ks.map TS.nmI).map V.int)) hk hD ⟨?_,ks.map (·.2),c,pO mk,hg⟩,rfl,q D _ (I.hok.fresh hD) pn (BG.mpr pw)⟩;rw[Ab,pn.length_eq,<-Ab (f:=V.int)];exact hz
def ol(ns:List Int):Nat:=(firstMet (fun i=>ns.getD i 0) ns.length).length
def ad3(X:Cx)(te:TE):TE:=fun σ H Q=>te σ H fun x H1=>∃(a:Addr) (ns:List Int),x=.ref a/\aE X.K H1 a (ns.map V.int)/\ns.length≤4000/\Q (.int (ol ns:Nat)) H1
theorem agb:bootBuiltins "set" = some (.type "set"):=by decide +kernel
theorem vS{te:TE}{ps:Pos}(hc:X.calm=true)(hgl:Gl X "len")(hml:X.mg "len" = none)(hgs:Gl X "set")(hms:X.mg "set" = none)(he:PE X e te)(h1:starEach [e] X.env=(false,eval e X.env)::starEach [] X.env:=by rfl):
 PE X (.Call (.Name "len" p1) [.Call (.Name "set" p2) [e] [] ps] [] pos) (ad3 X te):=by
 intro pins s σ H Q I h;refine wpAny_Call_Name_kw (dl I hgl hml yt ?_);refine callWith_builtin1 ?_ rfl rfl;show wpAny _ _ (spliced ((false,eval (.Call (.Name "set" p2) [e] [] ps) X.env)::[])) _ _ s;refine Calls.spliced_cons ?_;refine wpAny_Call_Name_kw (dl I hgs hms agb ?_);refine callWith_type1 ?_ h1 rfl;rw[h1];show wpAny _ _ (spliced ((false,eval e X.env)::[])) _ _ s;refine Calls.spliced_cons (x8 (he pins s σ H _ I h) fun u s1 ⟨x,H1,I1,r1,q1⟩=>?_);obtain⟨a,ns,rfl,hq,hz,q⟩:=q1;cases (show u=Value.ref a from r1);obtain⟨its,rv,pl,_⟩:=I1.list hq;have ia:=dt rv;have l1:ns.length=its.length:=by have:=rv.length;rw[Ab] at this;exact this
 have sb:(4001:Nat)<scanBound:=by decide
 refine Calls.spliced_nil ?_;refine jy I1.tk (call_set_list (I1.ok.hd hc) pl.isList (ns:=ns) (by simpa using ia) (by rw[Al];lia) fun h' tk hS hk ht=>?_);have sz:its.toArray.size=ns.length:=by rw[Al,l1]
 rw[sz] at hS;obtain⟨o,ho,hex,es,ep,t,hd,_,_,hn,hf⟩:=hS.objOf;have I2:qr X pins σ H1 { s1 with heap:=h',toks:=tk }:=I1.kept (fun b o e=>hk b o (Heap.lt_size e) e) ht;have le:ol ns≤ns.length:=firstMet_length_le _ _;have hn:es.size=ol ns:=hn;refine Calls.spliced_nil (call_len_set (s:={ s1 with heap:=h',toks:=tk }) ho hex hd hf (by rw[hn];lia) ?_);rw[hn];exact⟨.int (ol ns:Nat),H1,I2.kept (fun _ _ e=>e) (Cz _),⟨_,rfl⟩,q⟩
end
end L2
namespace L3
open PySem L2
def rZ(xs:List Y)(L:qk)(Q:YK):Prop:=match xs with
 |[.ref a]=>dQ L a fun ys=>∃ns:List Int,ys=ns.map Y.int/\ns.Nodup/\ns.length≤63/\∀(D:Addr) (ms:List Int),L D=none->ms.Perm ns->ms.Pairwise (fun a b:Int=>a≤b)->Q (.ref D) (qd L D (.lst (ms.map Y.int)))
 |_=>False
theorem oW{G:G3}{H:Hp}:∀{ns:List Int} {xs:List V},xk G H (ns.map Y.int) xs->xs=ns.map V.int
 |[],_,h=>h
 |n::r,_,⟨x,xs',e,rx,s⟩=>by subst e;cases (show x=V.int n from rx);rw[oW s];rfl
theorem tF{G:G3}{H:Hp}:∀ns:List Int,xk G H (ns.map Y.int) (ns.map V.int)
 |[]=>rfl
 |n::r=>⟨_,_,rfl,rfl,tF r⟩
theorem acw :ju X (.builtin "sorted") (upL X.g3 rZ):=DP sK fun xs H Q ⟨ys,L,Q3,rv,rl,z,k⟩=>by
 unfold rZ at z;split at z
 ·rename_i a;obtain⟨zs,e,ns,rfl,hnd,hlen,z⟩:=v5 z;obtain⟨vs,e2,r⟩:=rl a _ e;obtain⟨u,rfl,ru⟩:=rv.inv1;cases (show u=V.ref a from ru);cases oW r;exact⟨a,ns,rfl,aE.of e2,hnd,hlen,fun D ms hD pm pw=>k _ _ _ _ (DD hD) (rl.newL hD (tF ms)) (by rfl) (z D ms (rl.none hD) pm pw)⟩
 ·exact z.elim
def uC(ta:x4)(τ:j9)(L:qk)(Q:YK):Prop:=ta τ L fun x L1=>match x with
 |.ref a=>dQ L1 a fun ys=>∃ns:List Int,ys=ns.map Y.int/\ns.length≤4000/\Q (.int (ol ns:Nat)) L1
 |_=>False
theorem ul{ps:Pos}(hc:X.calm=true)(hgl:Gl X "len")(hml:X.mg "len" = none)(hgs:Gl X "set")(hms:X.mg "set" = none)(he:QE X e te)(h1:starEach [e] X.env=(false,eval e X.env)::starEach [] X.env:=by rfl):
 QE X (.Call (.Name "len" p1) [.Call (.Name "set" p2) [e] [] ps] [] pos) (uC te):=DC (vS hc hgl hml hgs hms he h1) fun σ H Q ⟨τ,L,Q3,rs,rl,z,k⟩=>
 ⟨τ,L,_,rs,rl,z,fun v H1 y L1 t1 rl1 rv1 z1=>by
  cases y with
  |ref a=>
   obtain⟨zs,e,ns,rfl,hz,z⟩:=v5 z1;obtain⟨vs,e2,r⟩:=rl1 a _ e;cases oW r;exact⟨a,ns,rv1,aE.of e2,hz,k _ H1 _ L1 t1 rl1 (by rfl) z⟩
  |_=>exact z1.elim⟩
end L3
namespace TS
open PySem PyProof.Rows PySem.W PySem.Calls
section
variable {w:World} 
end
section
variable {w:World} 
end
section
variable {w:World} 
end
end TS
namespace L2
open PySem PySem.Spec PyProof.Rows
section
end
section
end
end L2
namespace L3
open PySem L2
end L3
namespace L2
open PySem PySem.Spec PyProof.Rows
section
variable {K:Ac}{Pt:Addr}(T:K.lookup Pt=some (PySem.W.tabObj #[]))
include T
end
end L2
namespace L3
open PySem L2
end L3
namespace L2
open PySem PySem.Spec PyProof.Rows
section
variable {σ':St} 
theorem qr.ren(M:List Str)(I:qr X pins σ H s)(hl:M.length=X.N.length)(hs:σ'.length=σ.length)(h:∀(j:Nat) v,σ'[j]?=some (some v)->σ[j]?=some (some v)/\X.N[j]?=M[j]?):qr { X with N:=M } pins σ' H s:=by obtain⟨m,hm,l⟩:=I.loc;have o:=I.ok;exact { ok:=⟨o.mod,o.kind,o.glob,o.blt,o.above,o.inj,o.has,o.cab,o.hd,o.frames,o.stk,o.exf,o.bs,o.bsz,o.noex,o.exfs,o.funs,o.frf⟩,os:=I.os,bare:=I.bare,base:=I.base,cell:=I.cell,free:=I.free,freeC:=I.freeC,pin:=I.pin,hok:=I.hok,tk:=I.tk,len:=(by rw[hs,I.len];exact hl.symm),loc:=⟨m,hm,fun i x v e1 e2 e3=>by obtain⟨a,b⟩:=h i v e2;exact l i x v (b.trans e1) a e3⟩ }
theorem pA(h:(σ.set i none)[j]?=some (some v)):j≠i/\σ[j]?=some (some v):=by
 by_cases c:i=j
 ·subst c;rw[CV] at h;cases e:σ[i]? with|none=>rw[e] at h;cases h|some o=>rw[e] at h;cases h
 ·rw[A9 c] at h;exact⟨AR c,h⟩
def ake(i:Nat)(t:TS):TS:=fun D σ H=>t { nx:=fun σ' H'=>D.nx (σ'.set i none) H',rt:=D.rt,bk:=fun σ' H'=>D.bk (σ'.set i none) H',ct:=fun σ' H'=>D.ct (σ'.set i none) H' } (σ.set i none) H
theorem adx{t:TS}(h:PS { X with N:=X.N.set i x } st t):PS X st (ake i t):=by
 intro pins s σ H D I z;have I':qr { X with N:=X.N.set i x } pins (σ.set i none) H s:=I.ren _ (by rw[A8]) (by rw[A8]) fun j v e=>by obtain⟨a,b⟩:=pA e;exact⟨b,by rw[A9 (AR a)]⟩
 refine x8 (h pins s _ H _ I' z) fun f s' q=>?_;have back:∀{σ':St} {H':Hp},qr { X with N:=X.N.set i x } pins σ' H' s'->qr X pins (σ'.set i none) H' s':=fun {σ' H'} J=>
  qr.ren (X:={ X with N:=X.N.set i x }) X.N J (by show X.N.length=(X.N.set i x).length;rw[A8]) (by rw[A8]) fun j v e=>by obtain⟨a,b⟩:=pA e;exact⟨b,by show(X.N.set i x)[j]?=_;rw[A9 (AR a)]⟩
 cases f with
 |next=>obtain⟨σ',H',J,q⟩:=q;exact⟨_,H',back J,q⟩
 |brk=>obtain⟨σ',H',J,q⟩:=q;exact⟨_,H',back J,q⟩
 |cont=>obtain⟨σ',H',J,q⟩:=q;exact⟨_,H',back J,q⟩
 |ret u=>obtain⟨v,σ',H',J,r,q⟩:=q;exact⟨v,_,H',back J,r,q⟩
end
end L2
namespace L3
open PySem L2
def fF:j9->Nat->j9
 |[],_=>[]
 |_::r,0=>none::r
 |o::r,i+1=>o::fF r i
theorem pC:∀(τ:j9) (i:Nat),fF τ i=τ.set i none
 |[],_=>rfl
 |_::_,0=>rfl
 |o::r,i+1=>by unfold fF;rw[pC r i];rfl
def yc(i:Nat)(t:k6)(D:xo)(τ:j9)(L:qk):Prop:=t { nx:=fun τ' L'=>D.nx (fF τ' i) L',rt:=D.rt,bk:=fun τ' L'=>D.bk (fF τ' i) L',ct:=fun τ' L'=>D.ct (fF τ' i) L' } (fF τ i) L
theorem ve.forget(h:ve G H σ τ)(i:Nat):ve G H (σ.set i none) (fF τ i):=by
 rw[pC];refine⟨by rw[A8,A8];exact h.len,fun j y e=>?_⟩;by_cases c:i=j
 ·subst c;rw[CV] at e;cases e2:τ[i]? with|none=>rw[e2] at e;cases e|some o=>rw[e2] at e;cases e
 ·rw[A9 c] at e ⊢;exact h.get j y e
theorem tS(x:Str){t:k6}(h:QS { X with N:=X.N.set i x } st t):QS X st (yc i t):=
 DG (adx h) fun D σ H ⟨τ,L,D3,rs,rl,z,k⟩=>⟨fF τ i,L,_,rs.forget i,rl,z,
  ⟨fun σ' H' τ' L' t' rs' rl' q=>k.nx _ H' _ L' t' (rs'.forget i) rl' q,k.rt,fun σ' H' τ' L' t' rs' rl' q=>k.bk _ H' _ L' t' (rs'.forget i) rl' q,fun σ' H' τ' L' t' rs' rl' q=>k.ct _ H' _ L' t' (rs'.forget i) rl' q⟩⟩
open PySem L2 PyProof.Rows
open PySem L2 Words
theorem ie:∀l:List Nat,(∀x∈l,x≤2)->l.prod≤2 ^ l.length
 |[],_=>by simp
 |x::r,h=>by have ih:=ie r fun y hy=>h y (Ae _ hy);have hx:=h x (Au ..);rw[Ck,AE,Nat.pow_succ,Nat.mul_comm];exact Nat.mul_le_mul ih hx
theorem ada(F:Fnd ks R ws)(h6:(v4 R).length≤6)(h2:∀x,(ks.map some).countP (rS true x)≤2):∀i≤(aF ws).length,uP (aF ws) i≤100000:=fun i _=>by
 rw[agi];have lv:(aF ws).filterMap jS=LV ws:=cP 0 ws;have sub:(((aF ws).take i).filterMap jS).length≤12:=by have h1:(((aF ws).take i).filterMap jS).length≤((aF ws).filterMap jS).length:=((Ci i _).filterMap _).length_le;rw[lv,F.ll] at h1;omega
 refine AM (ie _ fun x hx=>?_) ?_
 ·obtain⟨w,hw,rfl⟩:=Bh.mp hx;cases w with
  |node e l r=>exact Bz 1
  |leaf t x=>
   cases t with
   |true=>exact Bz 1
   |false=>
    show ah (aF ws) x≤2;rw[zG,lv,F.cnt];exact h2 x
 ·rw[Ab];exact AM (Nat.pow_le_pow_right (by decide) sub) (by decide)
def bE(C:Addr):lU:=fun ys L Q _=>∃a,∃ws:List Wd,∃m:Int,∃ks:List Kn,∃R:Ru,ys=[.ref a,.int m]/\L a=some (.lst (ws.map x5))/\Fnd ks R ws/\(∀w∈ws,w.depth≤63/\w.leaves≤63)/\(v4 R).length≤6/\SZ ws≤100/\(∀n:Nat,gZ (LV ws) n->(n:Int)≤m)/\(∀x,(ks.map some).countP (rS true x)≤2)/\C=C/\
 ∀k b e lk L',qg L L'->L' k=some (.lst (cV (aF ws)))->L' b=some (.lst (zf lk))->L' e=some (.lst [])->mW (aF ws) (aF ws).length lk->lk.Pairwise nV->Rt (aF ws) lk []->Q (.tup [.str "web",dR k b e]) L'
theorem oX :∀ys L Q E,bE C ys L Q E->x0 (jX C (xO E) fO eB iQ dH mw) 6 ys L Q:=by
 rintro ys L Q E ⟨a,ws,m,ks,R,rfl,ha,F,hok,h6,hsz,hm,h2,_,q⟩;have hll:=F.ll;have hbo:=F.bo;have hlv:(LV ws).length≤63:=by omega
 refine⟨a,ws,rfl,ha,hok,by omega,fun p1 hp1=>?_⟩;have s1:qg L (qd L p1 (.lst ((LV ws).map x5))):=By hp1;have g1:(qd L p1 (.lst ((LV ws).map x5))) p1=some (.lst ((LV ws).map x5)):=q8;generalize qd L p1 (.lst ((LV ws).map x5))=L1 at s1 g1;have hlf:∀w∈LV ws,∃t n,w=Wd.leaf t n:=fun w hw=>oC hw;refine⟨p1,LV ws,rfl,g1,hlf,by omega,(fun y hy=>absurd F.even (iC hy)),fun hn=>?_⟩;refine⟨a,ws,rfl,s1 _ _ ha,hsz,fun k p hk hp hkp=>?_⟩;have s2:qg L1 (qd (qd L1 k (.lst (js 0 ws))) p (.lst (uc 0 ws))):=(By hk).upd hp;have g2:(qd (qd L1 k (.lst (js 0 ws))) p (.lst (uc 0 ws))) k=some (.lst (cV (aF ws))):=by rw[qb hkp,q8,zJ]
 generalize qd (qd L1 k (.lst (js 0 ws))) p (.lst (uc 0 ws))=L2 at s2 g2;have lk:=nO ws;refine jk g2 fun keep kp=>ae (fun i zs=>zs.length=((aF ws).take i).countP (zo false)) (by rw[Ab,lk];exact AO hsz (by decide)) (kp _ rfl) rfl ?_ ?_
 ·rintro i y zs hy hz;rw[Ai] at hy;obtain⟨kk,ekk,rfl⟩:=Aj.mp hy;have et:(aF ws).take (i+1)=(aF ws).take i++[kk]:=by rw[AN,ekk];rfl
  have no:zo false kk=false->bV (fun zs L'=>L'=L2/\zs.length=((aF ws).take (i+1)).countP (zo false)) zs L2:=fun h=>⟨L2,DA _,rfl,by rw[et,AL,hz];simp[h]⟩;have yes:∀z,zo false kk=true->bV (fun zs L'=>L'=L2/\zs.length=((aF ws).take (i+1)).countP (zo false)) (zs++[z]) L2:=fun z h=>⟨L2,DA _,rfl,by rw[et,AL,Aa,hz];simp[h]⟩;cases kk with
  |none=>exact absurd rfl (iz ws none (Ay ekk))
  |some kn=>
   cases kn with
   |lf t n=>cases t<;>exact no rfl
   |nd e i' j'=>
    cases e with|true=>exact no rfl|false=>exact yes _ rfl
 ·intro zs hz p3 hp3;rw[Ab,AF,eS] at hz;refine qe q8 ?_;have s3:=By (o:=.lst zs) hp3;have sL:=(s1.trans s2).trans s3;have g13:=s3 _ _ (s2 _ _ g1);have g23:=s3 _ _ g2;have ha3:=sL _ _ ha;rw[hz];generalize qd L2 p3 (.lst zs)=L3 at s3 sL g13 g23 ha3;refine qe g13 ⟨.inl ⟨by decide,by decide⟩,?_⟩;refine kh (by show(!decide ((((LV ws).map x5).length:Int)=2*(BO ws:Int)+2))=false;rw[Aw (by rw[Ab];omega)];rfl) ?_;refine⟨a,ws,rfl,ha3,hok,(by omega),fun n hT=>?_⟩;have hW:gZ (LV ws) n:=by
   rcases hT with⟨_,h⟩ | ⟨h,_⟩
   ·exact h
   ·exact absurd F.even h
  have hnm:=hm n hW;show km (decide ((n:Int) > m)) _ _;refine kh (As (by omega)) ?_;refine⟨k,aF ws,rfl,g23,iz ws,by rw[lk];omega,⟨ada F h6 h2,by rw[abh];exact hlv⟩,aey ws,fun b e lk L' s hb he wy wp hR=>xu (q k b e lk L' (sL.trans s) (s _ _ g23) hb he wy wp (hR (mE (iz ws)))),fun _ nR=>?_⟩;obtain⟨lk,M,hR⟩:=F.way;obtain⟨lk',p',nr⟩:=nR lk M;exact absurd (hR lk' p') nr
def af:Ru->Nat
 |.link _ _=>1
 |.ei _ A=>af A+1
 |.bo _ A B=>max (af A) (af B)+1
 |.cu _ _ A B=>max (af A) (af B)+1
theorem aQ:∀R:Ru,af R+1≤(za R).length
 |.link _ _=>Am _
 |.ei _ A=>by have:=aQ A;simp[af,za];lia
 |.bo _ A B=>by have:=aQ A;have:=aQ B;simp[af,za];lia
 |.cu _ _ A B=>by have:=aQ A;have:=aQ B;simp[af,za];lia
def so:Ru->Da
 |.link p q=>.tup [.s (.str "link"),.s (.int (p:Int)),.s (.int (q:Int))]
 |.ei r A=>.tup [.s (.str "either"),.s (.int (r:Int)),so A]
 |.bo r A B=>.tup [.s (.str "both"),.s (.int (r:Int)),so A,so B]
 |.cu p q A B=>.tup [.s (.str "cut"),.s (.int (p:Int)),.s (.int (q:Int)),so A,so B]
theorem dC{L:qk}:∀{R:Ru} {n:Nat},af R≤n->ji L n (vo R) (so R)
 |.link p q,n+1,_=>aU (.cons (DQ _) (.cons (DN _) (.cons (DN _) .nil)))
 |.ei r A,n+1,h=>aU (.cons (DQ _) (.cons (DN _) (.cons (dC (by simp[af] at h;lia)) .nil)))
 |.bo r A B,n+1,h=>aU (.cons (DQ _) (.cons (DN _) (.cons (dC (by simp[af] at h;lia)) (.cons (dC (by simp[af] at h;lia)) .nil))))
 |.cu p q A B,n+1,h=>aU (.cons (DQ _) (.cons (DN _) (.cons (DN _) (.cons (dC (by simp[af] at h;lia)) (.cons (dC (by simp[af] at h;lia)) .nil)))))
 |.link _ _,0,h=>by simp[af] at h
 |.ei _ _,0,h=>by simp[af] at h
 |.bo _ _ _,0,h=>by simp[af] at h
 |.cu _ _ _ _,0,h=>by simp[af] at h
def ajw(E:List Nat):List Da:=E.map fun n:Nat=>Da.s (.int (n:Int))
theorem tY{L:qk}{n:Nat}:∀E:List Nat,Paired (ji L n) (z9 E) (ajw E)
 |[]=>.nil
 |_::r=>.cons (DN _) (tY r)
def vJ(t:Tr):Da:=.lst [so t.R,.lst (ajw t.E)]
theorem ab6{t:Tr}(ha:L t.a=some (.lst [vo t.R,.ref t.b]))(hb:L t.b=some (.lst (z9 t.E)))(h:af t.R≤n+1):ji L (n+2) (.ref t.a) (vJ t):=
 dF ha (.cons (dC h) (.cons (dF hb (tY _)) .nil))
theorem cr.rd(h:cr L0 L ka fa ks fo){t:Tr}(ht:t∈fo):af t.R≤ks.length:=by
 have h1:=aQ t.R;have nd:(za t.R).Nodup:=by obtain⟨a,b,rfl⟩:=List.append_of_mem ht;have:=h.nd;rw[AV,A4,AJ,AJ] at this;exact this.2.1.1
 have:=wv _ _ nd fun x hx=>(h.sr t ht).lt x hx;exact ako
theorem qg.none(s:qg L L'){p:Addr}(h:L' p=none):L p=none:=by cases z:L p with|none=>rfl|some o=>rw[s _ _ z] at h;cases h
theorem cr.nkf(h:cr L0 L ka fa ks fo):ka≠fa:=by have ad:=h.ad;rw[Az] at ad;exact fun e=>ad.1 (e▸Au ..)
theorem cr.nk(h:cr L0 L ka fa ks fo):∀t∈fo,t.a≠fa/\t.b≠fa/\t.a≠ka/\t.b≠ka:=fun t ht=>by have ad:=h.ad;rw[Az,Az] at ad;have ma:t.a∈fo.flatMap Tr.ads:=AY.mpr ⟨t,ht,by simp[Tr.ads]⟩;have mb:t.b∈fo.flatMap Tr.ads:=AY.mpr ⟨t,ht,by simp[Tr.ads]⟩;exact⟨fun e=>ad.2.1 (e▸ma),fun e=>ad.2.1 (e▸mb),fun e=>ad.1 (Ae _ (e▸ma)),fun e=>ad.1 (Ae _ (e▸mb))⟩
theorem cr.setF(h:cr L0 L ka fa ks fo)(o:LO):cr L0 (qd L fa o) ka fa ks fo:=by
 refine⟨by rw[qb h.nkf];exact h.hk,fun t ht=>?_,h.sr,h.nd,h.tm,h.ad,h.ok,fun b u e=>?_,h.fr⟩
 ·obtain⟨n1,n2,_,_⟩:=h.nk t ht;rw[qb n1,qb n2];exact h.ht t ht
 ·have:b≠fa:=fun z=>by rw[z,h.fr fa (by simp)] at e;cases e
  rw[qb this];exact h.sub _ _ e
theorem cr.mono(h:cr L0 L ka fa ks fo)(s:qg L L'):cr L0 L' ka fa ks fo:=
 ⟨s _ _ h.hk,fun t ht=>⟨s _ _ (h.ht t ht).1,s _ _ (h.ht t ht).2⟩,h.sr,h.nd,h.tm,h.ad,h.ok,h.sub.trans s,h.fr⟩
theorem cr.exs(h:cr L0 L ka fa ks fo):∀z∈fo.flatMap Tr.ads,∃o,L z=some o:=fun z hz=>by
 obtain⟨t,ht,hz⟩:=AY.mp hz;obtain⟨h1,h2⟩:=h.ht t ht;have hz:z=t.a\/z=t.b:=by simpa[Tr.ads] using hz
 rcases hz with rfl | rfl
 ·exact⟨_,h1⟩
 ·exact⟨_,h2⟩
theorem ahm{l:List Addr}{pa pb:Addr}(nd:l.Nodup)(ex:∀z∈l,∃o,L z=some o)(ha:L pa=none)(hb:L pb=none)(ne:pa≠pb):(l++[pa,pb]).Nodup:=by
 rw[AJ];refine⟨nd,by simp[ne],fun u hu v hv e=>?_⟩;subst e;obtain⟨o,eo⟩:=ex u hu;simp at hv;rcases hv with rfl | rfl
 ·rw[ha] at eo;cases eo
 ·rw[hb] at eo;cases eo
theorem lh.mono(h:lh L0 L ka fa ks fo)(s:qg L L'):lh L0 L' ka fa ks fo:=⟨h.b.mono s,s _ _ h.hf⟩
theorem cr.plus{LF:qk}{rest:List Tr}{t':Tr}{fs:LO}(B:cr L0 L ka fa ks rest)(hf:L fa=some fs)(sA:qg (qd L ka (.lst (vv (ks++ms)))) LF)(ea:LF t'.a=some (.lst [vo t'.R,.ref t'.b]))(eb:LF t'.b=some (.lst (z9 t'.E)))
 (na2:qd L ka (.lst (vv (ks++ms))) t'.a=none) (nb2:qd L ka (.lst (vv (ks++ms))) t'.b=none) (nab:t'.a≠t'.b) (ok:cf (ks++ms)) (sr:SR (ks++ms) t'.R t'.E) (tm:∀x,x∈za t'.R↔ks.length≤x/\x<ks.length+ms.length) (nd:(za t'.R).Nodup):
 cr L0 LF ka fa (ks++ms) (rest++[t']):=by
 have keep:∀z o,z≠ka->L z=some o->LF z=some o:=fun z o n e=>sA _ _ (by rw[qb n];exact e);refine cr.step (old:=[]) (rest:=rest) (ms:=ms) (t':=t') B (sA _ _ q8) ⟨ea,eb⟩ (fun t ht=>?_) (fun z o e=>?_) ?_ (fun z hz=>?_) ok sr ?_
 ·obtain⟨n1,n2,n3,n4⟩:=B.nk t ht;obtain⟨h1,h2⟩:=B.ht t ht;rw[h1,h2];exact⟨keep _ _ n3 h1,keep _ _ n4 h2⟩
 ·exact keep _ _ (fun z=>by rw[z,B.fr ka (by simp)] at e;cases e) (B.sub _ _ e)
 ·have:=ahm (L:=qd L ka (.lst (vv (ks++ms)))) B.ad (fun z hz=>?_) na2 nb2 nab
  ·rw[AV];simpa[Tr.ads] using this
  ·by_cases c:z=ka
   ·rw[c];exact⟨_,q8⟩
   ·rw[qb c];rcases An.mp hz with rfl | hz
    ·exact absurd rfl c
    ·rcases An.mp hz with rfl | hz
     ·exact⟨_,hf⟩
     ·exact B.exs z hz
 ·have hz:z=t'.a\/z=t'.b:=by simpa[Tr.ads] using hz
  cases e:L0 z with
  |none=>rfl
  |some o=>
   have n:z≠ka:=fun z'=>by rw[z',B.fr ka (by simp)] at e;cases e
   have:=B.sub _ _ e;have e2:qd L ka (.lst (vv (ks++ms))) z=some o:=by rw[qb n];exact this
   rcases hz with rfl | rfl
   ·rw[na2] at e2;cases e2
   ·rw[nb2] at e2;cases e2
 ·rw[List.flatMap_nil,A0];exact(A7 nd List.nodup_range').mpr fun z=>by rw[tm,CN]
theorem lh.link(F:lh L0 L ka fa ks fo){nm:Str}(hn:cO nm)(b:Bool){pa pb:Addr}(hb:qd L ka (.lst (vv (ks++[.lf b nm,.lf (!b) nm]))) pb=none)
 (ha:qd (qd L ka (.lst (vv (ks++[.lf b nm,.lf (!b) nm])))) pb (.lst (z9 [ks.length,ks.length+1])) pa=none) {fs:List Y} (hfs:fs=j0 fo++[.ref pa]):
 lh L0 (qd (qd (qd (qd L ka (.lst (vv (ks++[.lf b nm,.lf (!b) nm])))) pb (.lst (z9 [ks.length,ks.length+1]))) pa (.lst [vo (.link ks.length (ks.length+1)),.ref pb])) fa (.lst fs)) ka fa (ks++[.lf b nm,.lf (!b) nm]) (fo++[⟨pa,pb,.link ks.length (ks.length+1),[ks.length,ks.length+1]⟩]):=by
 have nab:pb≠pa:=k8 q8 ha;have M:=wX F.b.ok (t:=!b) hn;rw[Bool.not_not] at M;refine⟨(cr.plus F.b F.hf ((By hb).trans (By ha)) q8 (by rw[qb nab];exact q8) ((By hb).none ha) hb (AR nab) M.ok M.sr M.tm M.nd).setF _,?_⟩;rw[q8,hfs];unfold j0;rw[Ar];rfl
theorem cr.dats(h:cr L0 L ka fa ks fo)(hl:ks.length≤120):Paired (ji L 124) (j0 fo) (fo.map vJ):=by
 have dd:∀l:List Tr,(∀t∈l,t∈fo)->Paired (ji L 124) (j0 l) (l.map vJ):=fun l=>by
  induction l with
  |nil=>intro _;exact .nil
  |cons t r ih=>
   intro k;have mt:=k t (Au ..);obtain⟨h1,h2⟩:=h.ht t mt;have:=h.rd mt;exact .cons (ab6 (n:=122) h1 h2 (by lia)) (ih fun t ht=>k t (Ae _ ht))
 exact dd fo fun t ht=>ht
theorem tL(fo:List Tr):Da.eqs (fo.map vJ) []=decide (fo=[]):=by cases fo<;>rfl
def xP(p0:jc)(p1:jc)(p2:jc)(p3:jc):k6:=(qo (z8 (xz qz) (qc 3))
 (qo (z8 (xz qz) (qc 4))
 (qo (z8 (jt 0) (qc 5))
 (qo (a7 (bL (qa 0)) (wx 2 (zu (qc 6) (zu (qc 7) ky))) (qo (ag4 8 9 (qh (qw p0 (qh (qa 7) (bO (qa 6) (jt 48271)))) (qh (qw p0 (qh (qa 7) (bO (qa 6) (jt 69621)))) qz)))
 (qo (vg (yB (zm yGt (zm vm (zm vm (dZ 3) (dZ 4)) (jt 3)) (qa 2))) aeg jw)
 (qo (z8 (zm ai (qa 8) (jt 8)) (qc 10))
 (qo (z8 (zm az (qa 8) (jt 8)) (qc 8))
 (vg (rE (yB (zm yLt (qa 10) (jt 3))) (pI (qa 4) (xz qz))) (qo (z8 (dZ 3) (qc 11))
 (qo (z8 (qw p1 (qh (qa 1) (qh (zm az (qa 5) (jt 2)) qz))) (qc 12))
 (qo (z8 (xz (qh (wA (f8 "plain") (qa 12)) (qh (wA (f8 "turned") (qa 12)) qz))) (qc 13))
 (qo (jx (bU zw (qa 3) (qh (zm bM (qa 13) (zm ai (qa 8) (jt 2))) qz)))
 (qo (jx (bU zw (qa 3) (qh (zm bM (qa 13) (zm pY (jt 1) (zm ai (qa 8) (jt 2)))) qz)))
 (qo (jx (bU zw (qa 4) (qh (xz (qh (aX (qh (f8 "link") (qh (qa 11) (qh (zm vm (qa 11) (jt 1)) qz)))) (qh (xz (qh (qa 11) (qh (zm vm (qa 11) (jt 1)) qz))) qz))) qz)))
 (ad0 5 (jt 1) yF))))))) (vg (rE (yB (zm yLt (qa 10) (jt 6))) (yB (zm yLt (dZ 4) (jt 2)))) (jx (qw p2 (qh (qa 3) (qh (zm bM (qa 4) (zm ai (qa 9) (dZ 4))) (qh (qa 8) (qh (zm az (qa 9) (jt 64)) qz)))))) (jx (qw p3 (qh (qa 3) (qh (qa 4) (bO (qa 8) (qa 9)))))))))))))
 (mG (vg (pI (qa 4) (xz qz)) (qo (jx (bU zw (qa 3) (qh (aX (qh (f8 "turned") (qh (qw p1 (bO (qa 1) (jt 0))) qz))) qz)))
 (qo (jx (bU zw (qa 3) (qh (aX (qh (f8 "plain") (qh (qw p1 (bO (qa 1) (jt 0))) qz))) qz)))
 (jx (bU zw (qa 4) (qh (xz (qh (aX (qh (f8 "link") (bO (jt 0) (jt 1)))) (qh (xz (bO (jt 0) (jt 1))) qz))) qz))))) jw)
 (qo (oR (yB (zm yGt (dZ 4) (jt 1))) (jx (qw p3 (qh (qa 3) (qh (qa 4) (qh (zm vm (zm az (qa 1) (jt 7)) (dZ 4)) (qh (zm az (qa 1) (jt 3)) qz)))))))
 (jd (aX (qh (qa 3) (qh (zm bM (vh 4 0) (jt 1)) qz))))))))))
def gx(s:Int)(v:Nat):Str:=zX (k7 s ((v:Nat):Int))
theorem tK{s:Int}{v w:Nat}(hv:v<3)(hw:w<3)(h:gx s v=gx s w):v=w:=by refine uw (s:=s) hv hw ?_;have:=Bs (fun x:Str=>x.cps.toList) h;simpa[gx,zX] using this
structure Nm(s:Int)(c:Nat)(ks:List Kn):Prop where
 cnt:∀x,(ks.map some).countP (rS false x)=(List.range c).countP fun l=>decide (gx s (l / 2)=x)
 pl:(ks.map some).countP rG=c
 nam:∀t n,Kn.lf t n∈ks->∃l,l<c/\n=gx s (l / 2)
theorem Nm.nodes{s:Int}{c:Nat}(h:Nm s c ks)(hm:∀k∈ms,∃e i j,k=Kn.nd e i j):Nm s c (ks++ms):=by
 have z:∀P:Option Kn->Bool,(∀e i j,P (some (.nd e i j))=false)->(ms.map some).countP P=0:=fun P hP=>B5.mpr fun k hk=>by obtain⟨k',hk',rfl⟩:=Bh.mp hk;obtain⟨e,i,j,rfl⟩:=hm k' hk';rw[hP];exact Ap
 refine⟨fun x=>?_,?_,fun t n hk=>?_⟩
 ·rw[Ar,AL,z _ fun _ _ _=>rfl];exact h.cnt x
 ·rw[Ar,AL,z _ fun _ _ _=>rfl];exact h.pl
 ·rcases Ah.mp hk with hk | hk
  ·exact h.nam t n hk
  ·obtain⟨e,i,j,z⟩:=hm _ hk;cases z
theorem Nm.link{s:Int}{c:Nat}(h:Nm s c ks)(b:Bool):Nm s (c+1) (ks++[.lf b (gx s (c / 2)),.lf (!b) (gx s (c / 2))]):=by
 refine⟨fun x=>?_,?_,fun t n hk=>?_⟩
 ·rw[Ar,AL,h.cnt,C9,AL];congr 1;cases b<;>simp[rS,AA]
 ·rw[Ar,AL,h.pl];cases b<;>rfl
 ·rcases Ah.mp hk with hk | hk
  ·obtain⟨l,a,e⟩:=h.nam t n hk;exact⟨l,by omega,e⟩
  ·refine⟨c,by omega,?_⟩;rcases An.mp hk with hk | hk
   ·cases hk;rfl
   ·cases Af.mp hk;rfl
theorem Nm.two{s:Int}{c:Nat}(h:Nm s c ks)(hc:c≤6)(x:Str):(ks.map some).countP (rS false x)≤2:=by
 rw[h.cnt];have sub:(List.range c).Sublist (List.range 6):=by
  have e:List.range 6=List.range c++(List.range (6 - c)).map (c+·):=by rw[<-List.range_add];congr 1;omega
  rw[e];exact List.sublist_append_left ..
 refine AM sub.countP_le ?_;have e:List.range 6=[0,1,2,3,4,5]:=rfl;rw[e];have d:∀v w:Nat,v<3->w<3->gx s v=x->gx s w=x->v=w:=fun v w hv hw h1 h2=>tK hv hw (h1.trans h2.symm);have d1:=d 0 1 (by decide) (by decide);have d2:=d 0 2 (by decide) (by decide);have d3:=d 1 2 (by decide) (by decide);show [0,1,2,3,4,5].countP (fun l=>decide (gx s (l / 2)=x))≤2;by_cases h0:gx s 0=x<;>by_cases h1:gx s 1=x<;>by_cases h2:gx s 2=x<;>simp_all [AA]
theorem abb{s:Int}{c:Nat}(N:Nm s c ks)(hc:c≤6)(F:Fnd ks R ws):∀n:Nat,gZ (LV ws) n->(n:Int)≤120:=fun n hn=>by
 have nd:[gx s 0,gx s 1,gx s 2].Nodup:=by have d:∀v w:Nat,v<3->w<3->v≠w->gx s v≠gx s w:=fun v w hv hw ne z=>ne (tK hv hw z);simp[d 0 1 (by decide) (by decide) (by decide),d 0 2 (by decide) (by decide) (by decide),d 1 2 (by decide) (by decide) (by decide)]
 have cov:∀w∈LV ws,rF w∈[gx s 0,gx s 1,gx s 2]:=fun w hw=>by
  obtain⟨t,x,rfl⟩:=oC hw;have h1:0<je (LV ws) t x:=List.countP_pos_iff.mpr ⟨_,hw,by simp[g7]⟩;rw[F.cnt] at h1;obtain⟨k,hk,hx⟩:=List.countP_pos_iff.mp h1;obtain⟨k',hk',rfl⟩:=Bh.mp hk;cases k' with
  |nd e i j=>cases hx
  |lf u m=>
   have hx:(decide (u=t)&&decide (m=x))=true:=hx;rw[A2] at hx;have e:=of_decide_eq_true hx.2;subst e;obtain⟨l,hl,e⟩:=N.nam u m hk';have v:l / 2=0\/l / 2=1\/l / 2=2:=by omega
   show m∈_;rw[e];rcases v with v | v | v<;>rw[v]<;>simp
 have e:=hn _ nd cov;have two:∀x,iu (je (LV ws) false x)≤2:=fun x=>by
  have:je (LV ws) false x≤2:=by rw[F.cnt];exact N.two hc x
  have:je (LV ws) false x=0\/je (LV ws) false x=1\/je (LV ws) false x=2:=by omega
  rcases this with h | h | h<;>rw[h]<;>decide
 have p:=ie ([gx s 0,gx s 1,gx s 2].map fun x=>iu (je (LV ws) false x)) fun y hy=>by obtain⟨x,_,rfl⟩:=Bh.mp hy;exact two x
 rw[<-e] at p;have p:n≤2 ^ 3:=p;omega
structure T74(s:Int)(ks:List Kn)(R:Ru)(E:List Nat):Prop where
 ok:cf ks
 sr:SR ks R E
 tp:(za R).Perm (List.range ks.length)
 nc:qY R
 len:ks.length≤18
 nm:∃c,c≤6/\Nm s c ks
def gW:jc:=fun ys L Q=>∃cy,∃ns:List Int,∃s:Int,ys=[.ref cy,.int s,.int 18]/\L cy=some (.lst (ns.map Y.int))/\ns.length≤1000/\
 ∀ka eb ks R E L',qg L L'->L ka=none->L eb=none->L' ka=some (.lst (vv ks))->L' eb=some (.lst (z9 E))->T74 s ks R E->Q (.tup [.ref ka,.ref eb]) L'
def TU(L0:qk)(ka fa:Addr)(s:Int)(τ:j9)(L:qk):Prop:=∃c0 c6 c7 c8 c9 lD fq o4 o8 ks fo,∃c:Nat,τ=[c0,some (.int s),some (.int 18),some (.ref ka),some (.ref fa),some (.int (c:Int)),c6,c7,c8,c9,lD,fq,o4,o8]/\lh L0 L ka fa ks fo/\ks.length+fo.length≤18/\3*c≤ks.length+fo.length/\Nm s c ks/\∀t∈fo,qY t.R
theorem acs(v:Int):(v % 2=0/\1 - v % 2=1)\/(v % 2=1/\1 - v % 2=0):=by omega
theorem uV:∀ys L Q,gW ys L Q->x0 (xP oQ jQ lG mz) 14 ys L Q:=by
 rintro ys L Q ⟨cy,ns,s,rfl,hcy,hns,q⟩;have big:=bg_;have lenR:∀fo:List Tr,(j0 fo).length=fo.length:=fun fo=>Ab ..;have lenK:∀ks:List Kn,(vv ks).length=ks.length:=fun ks=>Ab ..;intro ka hka fa hfa;have nkf:ka≠fa:=k8 q8 hfa;have hfa':L fa=none:=(By hka).none hfa;have F0:lh L (qd (qd L ka (.lst [])) fa (.lst [])) ka fa [] []:=by
  refine⟨⟨by rw[qb nkf];exact q8,fun t ht=>by simp at ht,fun t ht=>by simp at ht,by simp,by simp,by simp[nkf],fun p k e=>by simp at e,(By hka).trans (By hfa),fun x hx=>?_⟩,q8⟩;rcases An.mp hx with rfl | hx
  ·exact hka
  ·rw[Af.mp hx];exact hfa'
 generalize qd (qd L ka (.lst [])) fa (.lst [])=L1 at F0;have N0:Nm s 0 []:=⟨fun _=>rfl,rfl,fun t n h=>by cases h⟩;refine jk (F0.b.sub _ _ hcy) fun keep kp=>aK ⟨fun _ τ L'=>TU L ka fa s τ L',?_,?_,?_,?_⟩
 ·exact⟨_,_,_,_,_,_,_,_,_,_,_,0,rfl,F0,Bf _,Bf _,N0,fun t ht=>by cases ht⟩
 ·rintro i τ L' ⟨c0,c6,c7,c8,c9,lD,fq,o4,o8,ks,fo,c,rfl,F,_⟩;exact kp L' (by rw[F.b.sub _ _ hcy,F0.b.sub _ _ hcy])
 ·rintro i y τ L' ey ⟨c0,c6,c7,c8,c9,lD,fq,o4,o8,ks,fo,c,rfl,F,hb,h3,N,nc⟩;obtain⟨z,ez,rfl⟩:=ak ey;obtain⟨cell,ec,rfl⟩:∃cell:Int,ns[i]?=some cell/\z=Y.int cell:=by rw[Ai] at ez;obtain⟨z,e1,e2⟩:=Aj.mp ez;exact⟨z,e1,e2.symm⟩
  have hi:=(AU.mp ec).1;refine⟨cell,((i:Nat):Int),48271,rfl,by exact A6 _,by omega,by decide,by decide,fun one h1 h1'=>⟨cell,((i:Nat):Int),69621,rfl,by exact A6 _,by omega,by decide,by decide,fun two h2 h2'=>?_⟩⟩;refine qe F.b.hk (qe F.hf ?_);refine xm (fun cc=>⟨_,DA _,_,_,_,_,_,_,_,_,_,_,_,_,rfl,F,hb,h3,N,nc⟩) fun cc=>?_;have cc:¬((((vv ks).length:Nat):Int)+(((j0 fo).length:Nat):Int)+3 > 18):=cc;rw[lenK,lenR] at cc;refine⟨(by decide:(0:Int)<8),⟨by decide,by decide⟩,?_⟩;have en:∀z:Int,z=((ks.length:Nat):Int)->z9 [ks.length,ks.length+1]=[.int z,.int (z+1)]:=fun z e=>by rw[e];rfl
  have er:∀z:Int,z=((ks.length:Nat):Int)->vo (.link ks.length (ks.length+1))=.tup [.str "link",.int z,.int (z+1)]:=fun z e=>by rw[e];rfl
  have ez:(((vv ks).length:Nat):Int)=((ks.length:Nat):Int):=by rw[lenK]
  refine xm (fun c3=>?_) fun c3=>?_
  case' refine_1=>
   obtain⟨L2,eL2⟩:∃L2,L2=L':=⟨_,rfl⟩;rw[<-eL2];have F':lh L L2 ka fa ks fo:=by rw[eL2];exact F
  case' refine_2=>
   intro p hp;refine jT (by decide) (By hp _ _ F.hf) q8 ((F.b.mono (By hp)).dats (by omega)) (.nil:Paired (ji _ 0) _ []) ?_;show km (Da.eqs (fo.map vJ) []) _ _;rw[tL];have F':lh L (qd L' p (.lst [])) ka fa ks fo:=F.mono (By hp);generalize qd L' p (.lst [])=L2 at F';refine xm (fun c0=>?_) fun c0=>?_
  case' refine_2.refine_2=>
   have hfo:0<fo.length:=by cases fo with | nil=>exact absurd rfl c0 | cons _ _=>simp
   have F:=F';have done:∀{L3:qk} {ks':List Kn} {fo':List Tr} {τ':j9},(∃c0 c6 c7 c8 c9 lD fq o4 o8,τ'=[c0,some (.int s),some (.int 18),some (.ref ka),some (.ref fa),some (.int (c:Int)),c6,c7,c8,c9,lD,fq,o4,o8])->lh L L3 ka fa ks' fo'->Ext ks fo ks' fo'->ks'.length+fo'.length≤18->ks.length+fo.length≤ks'.length+fo'.length->bV (TU L ka fa s) τ' L3:=fun⟨_,_,_,_,_,_,_,_,_,e⟩ F3 X g1 g2=>by obtain⟨⟨ms,e2,hm⟩,hn⟩:=X;subst e2;exact⟨_,DA _,_,_,_,_,_,_,_,_,_,_,_,c,e,F3,g1,by omega,N.nodes hm,hn nc⟩
   refine xm (fun c6=>?_) fun c6=>qe F.hf (xm (fun c1=>?_) fun c1=>?_)
   rotate_left 2
   ·have c1:¬((((j0 fo).length:Nat):Int)<2):=c1;rw[lenR] at c1;refine⟨L,ka,fa,ks,fo,one / 8,two,rfl,F,by omega,by omega,by omega,fun L3 ks' fo' F3 g1 g2 X=>?_⟩;exact done ⟨_,_,_,_,_,_,_,_,_,rfl⟩ F3 X (by omega) (by omega)
   all_goals
    obtain⟨j,t,ej,lj,et⟩:=oY hfo two;refine qe F.hf ⟨(by show(0:Int)<((j0 fo).length:Int);rw[lenR];omega),qe F.hf (qm (v:=.ref t.a) (by show bW (j0 fo) (two % ((j0 fo).length:Int))=_;rw[lenR,ej];exact xr (by unfold j0;rw[Ai,et];rfl)) ?_)⟩;obtain⟨pre,post,ep⟩:=List.append_of_mem (Ay et);rw[ep] at F hb cc h3;refine⟨⟨by decide,by decide⟩,L,ka,fa,ks,pre,post,t,one / 8,two / 64,rfl,F,by omega,fun L3 ks' fo' F3 g1 g2 X=>?_⟩;have X':Ext ks fo ks' fo':=by rw[ep];exact X
    have gl:ks.length≤ks'.length:=by obtain⟨⟨ms,e,_⟩,_⟩:=X;rw[e,Aa];omega
    exact done ⟨_,_,_,_,_,_,_,_,_,rfl⟩ F3 X' (by omega) (by rw[ep];omega)
  all_goals
   have e2:((c:Nat):Int) / 2=((c / 2:Nat):Int):=by omega
   obtain⟨nm,enm⟩:∃nm,nm=gx s (c / 2):=⟨_,rfl⟩;have hnm:cO nm:=by rw[enm];exact oi _ _
   refine qe F'.b.hk ⟨⟨by decide,by decide⟩,s,((c:Nat):Int) / 2,rfl,?_⟩;rw[e2,show zX (k7 s ((c / 2:Nat):Int))=nm from enm.symm];intro p13 h13;have F3:lh L (qd L2 p13 (.lst [.tup [.str "plain",.str nm],.tup [.str "turned",.str nm]])) ka fa ks fo:=F'.mono (By h13);have g13:qd L2 p13 (.lst [.tup [.str "plain",.str nm],.tup [.str "turned",.str nm]]) p13=some (.lst [.tup [.str "plain",.str nm],.tup [.str "turned",.str nm]]):=q8;have n13:p13≠ka:=AR (k8 F'.b.hk h13);generalize qd L2 p13 (.lst [.tup [.str "plain",.str nm],.tup [.str "turned",.str nm]])=L3 at F3 g13;obtain⟨b,x1,x2⟩:∃b:Bool,bW [Y.tup [.str "plain",.str nm],.tup [.str "turned",.str nm]] (one / 8 % 2)=some (bH (.lf b nm))/\bW [Y.tup [.str "plain",.str nm],.tup [.str "turned",.str nm]] (1 - one / 8 % 2)=some (bH (.lf (!b) nm)):=by
    rcases acs (one / 8) with⟨z0,z1⟩ | ⟨z0,z1⟩<;>rw[z0]
    ·exact⟨false,rfl,rfl⟩
    ·exact⟨true,rfl,rfl⟩
   refine qe F3.b.hk ⟨(by decide:(0:Int)<2),qe g13 (qm x1 (qu F3.b.hk ⟨big _ (by rw[lenK];omega),?_⟩))⟩;refine qe q8 ⟨(by decide:(0:Int)<2),qe ((qb n13).trans g13) (qm x2 (qu q8 ⟨big _ (by rw[Aa,lenK];simp;omega),?_⟩))⟩;rw[zg];have e1:(vv ks++[bH (.lf b nm)])++[bH (.lf (!b) nm)]=vv (ks++[.lf b nm,.lf (!b) nm]):=by unfold vv;rw[Ar,Ba];rfl
   rw[e1];have hf3:qd L3 ka (.lst (vv (ks++[.lf b nm,.lf (!b) nm]))) fa=some (.lst (j0 fo)):=by rw[qb (AR nkf)];exact F3.hf
   refine qe hf3 fun pb hpb pa hpa=>?_;have H:=F3.link hnm b (pb:=pb) (pa:=pa) hpb (by rw[en _ ez];exact hpa) rfl;rw[en _ ez,er _ ez] at H;refine qu (((By hpb).trans (By hpa)) _ _ hf3) ⟨big _ (by rw[lenR];omega),?_⟩;refine⟨_,DA _,_,_,_,_,_,_,_,_,_,_,_,c+1,rfl,H,?_,?_,by rw[enm];exact N.link b,fun t ht=>?_⟩
   ·rw[Aa,Aa];simp;omega
   ·rw[Aa,Aa];simp;omega
   ·rcases Ah.mp ht with ht | ht
    ·exact nc t ht
    ·rw[Af.mp ht];trivial
 ·rintro τ L' ⟨c0,c6,c7,c8,c9,lD,fq,o4,o8,ks,fo,c,rfl,F,hb,h3,N,nc⟩;refine⟨fun τ L3=>∃c0 c5 c6 c7 c8 c9 lD fq o4 o8 ks fo,τ=[c0,some (.int s),some (.int 18),some (.ref ka),some (.ref fa),c5,c6,c7,c8,c9,lD,fq,o4,o8]/\lh L L3 ka fa ks fo/\1≤fo.length/\ks.length+fo.length≤18/\(∃c,c≤6/\Nm s c ks)/\∀t∈fo,qY t.R,?_,?_⟩
  ·intro p hp;refine jT (by decide) (By hp _ _ F.hf) q8 ((F.b.mono (By hp)).dats (by omega)) (.nil:Paired (ji _ 0) _ []) ?_;show km (Da.eqs (fo.map vJ) []) _ _;rw[tL];have F':lh L (qd L' p (.lst [])) ka fa ks fo:=F.mono (By hp);generalize qd L' p (.lst [])=L2 at F';refine xm (fun c0=>?_) fun c0=>?_
   ·subst c0;have k0:ks=[]:=by cases ks with|nil=>rfl|cons k r=>exact absurd ((F.b.tm 0).mpr (by simp)) (by simp)
    subst k0;obtain⟨nm,enm⟩:∃nm,nm=gx s 0:=⟨_,rfl⟩;have hnm:cO nm:=by rw[enm];exact oi _ _
    refine qe F'.b.hk ⟨s,0,rfl,qu F'.b.hk ⟨big _ (by decide),?_⟩⟩;refine qe q8 ⟨s,0,rfl,qu q8 ⟨big _ (by show 1≤20000;decide),?_⟩⟩;rw[show zX (k7 s 0)=nm from enm.symm,zg];have hf3:∀o,qd L2 ka o fa=some (.lst (j0 [])):=fun o=>by rw[qb (AR nkf)];exact F'.hf
    refine qe (hf3 _) fun pb hpb pa hpa=>?_;have H:=F'.link hnm true (pb:=pb) (pa:=pa) hpb hpa rfl;refine qu (((By hpb).trans (By hpa)) _ _ (hf3 _)) ⟨big _ (by show 0≤20000;decide),?_⟩;have N1:Nm s 1 ([]++[.lf true nm,.lf (!true) nm]):=by rw[enm];exact(show Nm s 0 [] from N0).link true
    exact⟨_,_,_,_,_,_,_,_,_,_,_,_,rfl,H,by simp,by simp,⟨1,by decide,N1⟩,fun t ht=>by rw[Af.mp ht];trivial⟩
   ·exact⟨_,_,_,_,_,_,_,_,_,_,ks,fo,rfl,F',(by cases fo with | nil=>exact absurd rfl c0 | cons _ _=>simp),hb,⟨c,by omega,N⟩,nc⟩
  ·rintro τ L' ⟨c0,c5,c6,c7,c8,c9,lD,fq,o4,o8,ks,fo,rfl,F,h1,hb,hN,nc⟩;refine⟨fun m τ L3=>∃c0 c5 c6 c7 c8 c9 lD fq o4 o8 ks fo,τ=[c0,some (.int s),some (.int 18),some (.ref ka),some (.ref fa),c5,c6,c7,c8,c9,lD,fq,o4,o8]/\lh L L3 ka fa ks fo/\1≤fo.length/\fo.length=m/\ks.length+fo.length≤18/\(∃c,c≤6/\Nm s c ks)/\∀t∈fo,qY t.R,⟨_,_,_,_,_,_,_,_,_,_,_,_,_,rfl,F,h1,rfl,hb,hN,nc⟩,?_⟩;rintro m τ L' ⟨c0,c5,c6,c7,c8,c9,lD,fq,o4,o8,ks,fo,rfl,F,h1,hm,hb,hN,nc⟩;refine qe F.hf ?_;refine xm (fun c1=>?_) fun c1=>?_
   ·have c1:(((j0 fo).length:Nat):Int) > 1:=c1;rw[lenR] at c1;refine⟨fun τ L3=>∃c0 c5 c6 c7 c8 c9 lD fq o4 o8 ks fo,τ=[c0,some (.int s),some (.int 18),some (.ref ka),some (.ref fa),c5,c6,c7,c8,c9,lD,fq,o4,o8]/\lh L L3 ka fa ks fo/\1≤fo.length/\fo.length+1=m/\ks.length+fo.length≤18/\(∃c,c≤6/\Nm s c ks)/\∀t∈fo,qY t.R,?_,?_⟩
    ·rintro τ L3 ⟨d0,d5,d6,d7,d8,d9,d10,d11,d12,d13,ks',fo',rfl,F3,g1,g2,g3,g4,g5⟩;exact⟨m - 1,by omega,_,_,_,_,_,_,_,_,_,_,_,_,rfl,F3,g1,by omega,g3,g4,g5⟩
    ·refine⟨⟨by decide,by decide⟩,qe F.hf ⟨⟨by decide,by decide⟩,L,ka,fa,ks,fo,_,_,rfl,F,by omega,by omega,by omega,fun L3 ks' fo' F3 g1 g2 X=>?_⟩⟩;obtain⟨⟨ms,e,hms⟩,hn⟩:=X;subst e;obtain⟨c,hc,N⟩:=hN;exact⟨_,DA _,_,_,_,_,_,_,_,_,_,_,ks++ms,fo',rfl,F3,by omega,by omega,by omega,⟨c,hc,N.nodes hms⟩,hn nc⟩
   ·have c1:¬((((j0 fo).length:Nat):Int) > 1):=c1;rw[lenR] at c1;obtain⟨t,rfl⟩:∃t,fo=[t]:=List.length_eq_one_iff.mp (by omega);obtain⟨ta,tb⟩:=F.b.ht t (Au ..);refine qe F.hf (qe ta ?_);have tp:(za t.R).Perm (List.range ks.length):=by have nd:=F.b.nd;have tm:=F.b.tm;simp at nd tm;exact(A7 nd Bj).mpr fun x=>by rw[tm,AX]
    have fr:=F.b.fr;refine xu (q ka t.b ks t.R t.E L' F.b.sub hka (fr t.b (by simp[Tr.ads])) F.b.hk tb ⟨F.b.ok,F.b.sr t (Au ..),tp,nc t (Au ..),by simp at hb;omega,hN⟩)
def sC(p0:jc):k6:=(mG (vg (pI (dZ 1) (jt 2)) (jx (bU zw (qa 0) (kc (qa 1)))) (qo (z8 (qw p0 (bO (qa 0) (vh 1 1))) (qc 2))
 (qo (z8 (qw p0 (bO (qa 0) (vh 1 2))) (qc 3))
 (jx (bU zw (qa 0) (qh (aX (qh (vh 1 0) (bO (qa 2) (qa 3)))) qz))))))
 (jd (zm pY (dZ 0) (jt 1))))
def oq(p0:jc):k6:=(qo (z8 (xz qz) (qc 1))
 (qo (a7 (jq (qa 0)) (qc 2) (jx (qw p0 (bO (qa 1) (qa 2)))))
 (jd (qa 1))))
def lQ:k6:=(qo (z8 (eV (dZ 0)) (qc 3))
 (qo (z8 (lK iX (kc (qa 1))) (qc 4))
 (qo (z8 (jt 0) (qc 5))
 (qo (a7 (bL (qa 0)) (wx 2 (zu (qc 6) (zu (qc 7) ky))) (mG (vg (pI (vh 7 0) (f8 "both")) (z8 (zm vm (qa 4) (xz (qh (wA (qa 6) (vh 7 1)) (qh (wA (qa 6) (vh 7 2)) qz)))) (qc 4)) jw)
 (vg (pI (vh 7 0) (f8 "either")) (qo (jx (bU zw (qa 4) (qh (aX (qh (qa 6) (qh (zm bM (qa 7) (zm vm (jt 1) (zm bM (qa 2) (qa 5)))) qz))) qz)))
 (ad0 5 (jt 1) yF)) jw)))
 (qo (a7 (jq (qa 4)) (wx 2 (zu (qc 8) (zu (qc 9) ky))) (qo (z8 (aX (qh (zm bM (qa 3) (qa 8)) (qh (zm bM (qa 3) (qa 9)) qz))) (wx 2 (zu (qc 10) (zu (qc 11) ky))))
 (z8 (nP 1 (jq (qa 3)) (qc 12) m9 (yIf (pI (qa 12) (qa 11)) (qa 10) (qa 12))) (qc 3))))
 (jd (uC (qa 3))))))))
def pf:k6:=(qo (z8 (xz qz) (qc 2))
 (qo (a7 (gA (kc (qa 1))) (qc 3) (qo (z8 (zm vm (xz (qh (zm ai (qa 0) (jt 2)) qz)) (qa 2)) (qc 2))
 (z8 (zm az (qa 0) (jt 2)) (qc 0))))
 (jd (qa 2))))
def lO(p0:jc):k6:=(qo (vg (mn (yB (jA .list (qa 1)))) (jd (yC (.bl false))) jw)
 (qo (z8 (xz qz) (qc 2))
 (qo (a7 (jq (qa 1)) (qc 3) (qo (vg (rE (mn (yB (jA .tuple (qa 3)))) (rE (tI (dZ 3) (jt 2)) (rE (mn (yB (qw p0 (kc (vh 3 0))))) (mn (yB (qw p0 (kc (vh 3 1)))))))) (jd (yC (.bl false))) jw)
 (qo (vg (mn (yB (sF (jt 0) (uG yLe (vh 3 0) (uG yLt (vh 3 1) (xZ yLt (dZ 0))))))) (jd (yC (.bl false))) jw)
 (qo (ag4 4 5 (qh (zm bM (qa 0) (vh 3 0)) (qh (zm bM (qa 0) (vh 3 1)) qz)))
 (qo (vg (rE (tI (dZ 4) (jt 2)) (rE (tI (dZ 5) (jt 2)) (rE (pI (vh 4 0) (vh 5 0)) (tI (vh 4 1) (vh 5 1))))) (jd (yC (.bl false))) jw)
 (z8 (zm vm (qa 2) (xz (bO (vh 3 0) (vh 3 1)))) (qc 2)))))))
 (qo (z8 (nP 1 (gA (kc (dZ 0))) (qc 7) (pI (lK eK (qh (zm bM (qa 0) (qa 7)) qz)) (jt 2)) (qa 7)) (qc 6))
 (jd (qK (zm (rC false) (lK rZ (kc (qa 2))) (qa 6)) (zm (rC false) (qa 1) (lK mh (kc (qa 1))))))))))
def aay(p0:jc)(p1:jc)(p2:lU)(p3:jc)(p4:jc)(p5:jc)(p6:jc)(p7:jc):k6:=(qo (z8 (zm ai (zm bM (zm af0 (qa 0) (xz (kc (jt 0)))) (jt 0)) (zm ani (jt 10) (jt 9))) (qc 1))
 (qo (z8 (ySl ug (qa 0) fI (iw (jt 63))) (qc 2))
 (qo (z8 (qw p0 (qh (qa 2) (bO (qa 1) (jt 18)))) (wx 2 (zu (qc 3) (zu (qc 4) ky))))
 (qo (z8 (nP 1 (jq (qa 4)) (qc 15) m9 (qw p1 (bO (qa 3) (qa 15)))) (qc 5))
 (qo (z8 (lK iX (kc (qa 5))) (qc 6))
 (qo (z8 (uJ p2 120 noX (kc (qa 6))) (qc 7))
 (qo (vg (rE (tI (qa 6) (qa 5)) (rE (mn (yB (jA .tuple (qa 7)))) (rE (tI (dZ 7) (jt 2)) (tI (vh 7 0) (f8 "web"))))) (jd (yC (.bl false))) jw)
 (qo (z8 (vh 7 1) (qc 8))
 (qo (z8 (qw p3 (kc (qa 5))) (qc 3))
 (qo (vg (rE (mn (yB (jA .tuple (qa 8)))) (rE (tI (dZ 8) (jt 3)) (tI (vh 8 0) (qa 3)))) (jd (yC (.bl false))) jw)
 (qo (vg (rE (mn (yB (qw p4 (bO (qa 3) (vh 8 1))))) (tI (vh 8 2) (xz qz))) (jd (yC (.bl false))) jw)
 (qo (z8 (lK eK (qh (nP 1 (jq (qa 3)) (qc 15) (pI (vh 15 0) (f8 "either")) (qa 15)) qz)) (qc 9))
 (qo (z8 (jt 1) (qc 10))
 (qo (a7 (gA (kc (qa 9))) (qc 11) (z8 (zm jE (jt 2) (qa 10)) (qc 10)))
 (qo (yc 11 (z8 (lK ai0 (qh (nP 2 (bL (qa 2)) (wx 2 (zu (qc 15) (zu (qc 16) ky))) m9 (qw p5 (qh (qa 16) (bO (qa 15) (jt 16807))))) qz)) (qc 12)))
 (qo (yc 11 (z8 (nP 1 (gA (kc (jt 8))) (qc 15) m9 (zm ai (zm jE (zm vm (qa 12) (zm jE (zm jE (qa 15) (qa 15)) (jt 7919))) (jt 48271)) (qa 10))) (qc 13)))
 (mG (vg (yB (zm yLe (qa 9) (jt 5))) (z8 (eV (qa 10)) (qc 13)) jw)
 (qo (a7 (jq (qa 13)) (qc 14) (vg (tI (qw p6 (qh (qa 3) (qh (vh 8 1) (qh (qw p7 (bO (qa 14) (qa 9))) qz)))) (jt 1)) (jd (yC (.bl false))) jw))
 (jd (yC (.bl true)))))))))))))))))))))
theorem acn(n:Nat):∀ys L Q,x9 (n+1) ys L Q->x0 (sC (x9 n)) 4 ys L Q:=by
 rintro ys L Q ⟨k,ks,wd,rfl,hk,hd,hz,q⟩;cases wd with
 |leaf t nm=>
  have hz':ks.length+1≤1000:=hz;refine⟨_,qe hk (qu hk ⟨wb (by omega),?_⟩),fun _ _ h=>h⟩;refine qe q8 ?_;have e:(((ks++[Y.tup [.str (kL t),.str nm]]).length:Int) - 1)=((ks.length+(Wd.leaf t nm).size - 1:Nat):Int):=by rw[Aa];show((ks.length+1:Nat):Int) - 1=((ks.length+1 - 1:Nat):Int);omega
  refine xu ?_;dsimp only;rw[show ks++[x5 (Wd.leaf t nm)]=ks++[Y.tup [.str (kL t),.str nm]] from rfl,e];exact q
 |node e l r=>
  have hd':max l.depth r.depth+1≤n+1:=hd;have hz':ks.length+(1+l.size+r.size)≤1000:=hz;have pl:=l.size_pos;have pr:=r.size_pos;refine⟨_,⟨k,ks,l,rfl,hk,by omega,by omega,k,_,r,rfl,q8,by omega,?_,qe q8 (qu q8 ⟨wb ?_,?_⟩)⟩,fun _ _ h=>h⟩
  ·rw[Aa,xn];omega
  ·rw[Aa,Aa,xn,xn];omega
  ·rw[zg,zg];refine qe q8 (xu ?_);have e1:(ks++ww ks.length l).length=ks.length+l.size:=by rw[Aa,xn]
   rw[e1];have e2:ks++ww ks.length l++ww (ks.length+l.size) r++[Y.tup [.str (kN e),.int ((ks.length+l.size - 1:Nat)),.int ((ks.length+l.size+r.size - 1:Nat))]]=ks++ww ks.length (.node e l r):=by show _=ks++((ww ks.length l++ww (ks.length+l.size) r)++[_]);rw[Ba,Ba,<-Ba (ww ks.length l)]
   rw[e2];have e3:(((ks++ww ks.length (.node e l r)).length:Int) - 1)=((ks.length+(Wd.node e l r).size - 1:Nat):Int):=by rw[Aa,xn];have:(Wd.node e l r).size=1+l.size+r.size:=rfl;omega
   dsimp only;rw[e3];exact q
def kQ:jc:=fun ys L Q=>∃a ws,ys=[.ref a]/\L a=some (.lst ((ws:List Wd).map x5))/\SZ ws≤100/\∀k,L k=none->Q (.ref k) (qd L k (.lst (js 0 ws)))
theorem xD:∀ys L Q,kQ ys L Q->x0 (oq (x9 100)) 3 ys L Q:=by
 rintro ys L Q ⟨a,ws,rfl,ha,hz,q⟩;intro k hk;have sb:∀o,qg L (qd L k o):=fun o=>By hk;refine kf (ys:=ws.map x5) (zd (sb _ _ _ ha)) (fun i τ L'=>∃c,τ=[some (.ref a),some (.ref k),c]/\L'=qd L k (.lst (js 0 (ws.take i)))) ⟨_,rfl,rfl⟩ ?_ ?_ ?_
 ·rintro i τ L' ⟨c,rfl,rfl⟩;rw[sb _ _ _ ha,sb _ _ _ ha]
 ·rintro i y τ L' hy ⟨c,rfl,rfl⟩;rw[Ai] at hy;obtain⟨w,ew,rfl⟩:=Aj.mp hy;have hw:=sX (Ay ew);have hd:=lI w;have ht:=uK ws (i+1);rw[eM ew,sV,yZ] at ht;refine⟨k,_,w,rfl,q8,by omega,by rw[w5];omega,⟨_,DA _,_,rfl,?_⟩⟩;rw[w5,eM ew,cb,zg,BF]
 ·rintro τ L' ⟨c,rfl,rfl⟩;rw[Ab,AF];exact xu (q k hk)
def m7:jc:=fun ys L Q=>∃n:Int,∃m:Nat,ys=[.int n,.int (m:Int)]/\m≤1000/\∀p bs,L p=none->bs.length=m->(∀b∈bs,b=0\/b=1)->Q (.ref p) (qd L p (.lst (nY bs)))
theorem abj:∀ys L Q,m7 ys L Q->x0 pf 4 ys L Q:=by
 rintro ys L Q ⟨n,m,rfl,hm,q⟩;have big:=bg_;intro p hp;refine⟨⟨A6 _,by omega⟩,?_⟩;rw[BE];refine t7 (fun i τ L'=>∃(n:Int) (p:Addr) (bs:List Nat) (c3:Option Y),τ=[some (.int n),some (.int (m:Int)),some (.ref p),c3]/\qg L L'/\L p=none/\L' p=some (.lst (nY bs))/\bs.length=i/\∀b∈bs,b=0\/b=1) ⟨n,p,[],_,rfl,By hp,hp,q8,rfl,fun b hb=>by cases hb⟩ ?_ ?_
 ·rintro i τ L' hi ⟨n,p,bs,c3,rfl,s,np,g,hl,hb⟩;refine⟨(show(0:Int)<2 by decide),fun p1 h1=>?_⟩;obtain⟨b,eb,hb2⟩:∃b:Nat,n % 2=(b:Int)/\(b=0\/b=1):=⟨(n % 2).toNat,by omega,by omega⟩;refine⟨_,_,q8,By h1 _ _ g,by rw[vk];exact Bx (big _ (by show 1+bs.length≤20000;omega)),fun p2 h2=>?_⟩;refine⟨⟨by decide,by decide⟩,_,DA _,_,p2,b::bs,_,rfl,(s.trans (By h1)).trans (By h2),s.none (vi h2),?_,by rw[AE,hl],fun z hz=>?_⟩
  ·rw[q8];show some (LO.lst ([Y.int (n % 2)]++nY bs))=_;rw[eb];rfl
  ·rcases An.mp hz with rfl | hz
   ·exact hb2
   ·exact hb z hz
 ·rintro τ L' ⟨n,p,bs,c3,rfl,s,np,g,hl,hb⟩;exact ce (qg.put s g) (q p bs np hl hb)
theorem mx(l:List Nat):nY l=(l.map fun n:Nat=>(n:Int)).map Y.int:=by unfold nY;rw[Bm];rfl
theorem ac2{ns:List Int}{c:Int}(h:∀x∈ns,x=c)(hp:0<ns.length):ol ns=1:=by
 have key:∀i,i<ns.length->PyProof.Rows.firstMet (fun i=>ns.getD i 0) (i+1)=[c]:=by
  intro i
  induction i with
  |zero=>
   intro hi;rw[CJ,PyProof.Rows.firstMet_zero];have e:ns.getD 0 0=c:=by rw[A5,Ak hi];exact h _ (Cr hi)
   rw[e];unfold PyProof.Rows.step_dedup;rfl
  |succ i ih=>
   intro hi;rw[CJ,ih (by omega)];have e:ns.getD (i+1) 0=c:=by rw[A5,Ak hi];exact h _ (Cr hi)
   rw[e];unfold PyProof.Rows.step_dedup;rw[AC (by simp)]
 unfold ol;obtain⟨m,e⟩:∃m,ns.length=m+1:=⟨ns.length - 1,by omega⟩;rw[e,key m (by omega)];rfl
structure Sw(ks:List (Option Kn))(lk:List (Nat×Nat))(i:Nat)(es:List (Nat×Nat)):Prop where
 ex:∀x∈lk,x∈es
 bo:∀r,r<i->∀p q,ks[r]?=some (some (.nd false p q))->(r,p)∈es/\(r,q)∈es
 ei:∀r,r<i->∀p q,ks[r]?=some (some (.nd true p q))->(r,p)∈es\/(r,q)∈es
 bd:∀x∈es,x.1<ks.length/\x.2<ks.length
 ln:es.length≤lk.length+2*i
theorem Sw.next{ks:List (Option Kn)}{es ms:List (Nat×Nat)}(h:Sw ks lk i es)(hm:ms.length≤2)(hb:∀x∈ms,x.1<ks.length/\x.2<ks.length)
 (h1:∀p q,ks[i]?=some (some (.nd false p q))->(i,p)∈ms/\(i,q)∈ms) (h2:∀p q,ks[i]?=some (some (.nd true p q))->(i,p)∈ms\/(i,q)∈ms):Sw ks lk (i+1) (es++ms):=by
 refine⟨fun x hx=>Ao _ (h.ex x hx),fun r hr p q e=>?_,fun r hr p q e=>?_,fun x hx=>?_,?_⟩
 ·by_cases c:r=i
  ·subst c;obtain⟨a,b⟩:=h1 p q e;exact⟨Ag _ a,Ag _ b⟩
  ·obtain⟨a,b⟩:=h.bo r (by omega) p q e;exact⟨Ao _ a,Ao _ b⟩
 ·by_cases c:r=i
  ·subst c;exact(h2 p q e).imp (Ag _) (Ag _)
  ·exact(h.ei r (by omega) p q e).imp (Ao _) (Ao _)
 ·rcases Ah.mp hx with hx | hx
  ·exact h.bd x hx
  ·exact hb x hx
 ·have:=h.ln;rw[Aa];omega
theorem zB{f:Option Kn->Bool}{ks:List (Option Kn)}{k:Option Kn}(e:ks[i]?=some k)(hf:f k=true):(aC f ks i).length<(aC f ks ks.length).length:=by
 have hi:=qx e;have h1:(aC f ks (i+1)).length=(aC f ks i).length+1:=by rw[aW e,AC hf,Aa];rfl
 have h2:(aC f ks (i+1)).length≤(aC f ks ks.length).length:=by rw[w9 _ _ _ (by omega),w9 _ _ _ (Am _),AF];exact(Ci _ _).countP_le
 omega
def mrk(lo hi:Nat)(ms:List Nat):List Nat:=ms.map fun x=>if x=hi then lo else x
theorem xL{lo hi:Nat}{ms:List Nat}{a:Nat}(h:a<ms.length):(mrk lo hi ms).getD a 0=if ms.getD a 0=hi then lo else ms.getD a 0:=by unfold mrk;rw[A5,Ai,A5,Ak h];rfl
def gR:jc:=fun ys L Q=>∃k l c,∃ks:List (Option Kn),∃lk:List (Nat×Nat),∃bs:List Nat,ys=[.ref k,.ref l,.ref c]/\L k=some (.lst (cV ks))/\L l=some (.lst (zf lk))/\L c=some (.lst (nY bs))/\(∀k∈ks,k≠none)/\KnR ks/\(∀x∈lk,x.1<ks.length/\x.2<ks.length)/\lk.length≤100/\bs.length=(zy true ks).length/\(∀b∈bs,b=0\/b=1)/\Rt ks lk []/\1≤ks.length/\ks.length≤100/\Q (.int 1) L
theorem vL:∀ys L Q,gR ys L Q->x0 lQ 12 ys L Q:=by
 rintro ys L Q ⟨k,l,c,ks,lk,bs,rfl,hk,hl,hc,hno,hr,hlk,hll,hbs,hb01,R,h1,h100,q⟩;have big:=bg_;have lw:(cV ks).length=ks.length:=Ab ..;refine qe hk ⟨⟨A6 _,by rw[lw];omega⟩,fun mk hmk=>?_⟩;rw[lw,BE,tN];have s1:qg L (qd L mk (.lst (nY (List.range ks.length)))):=By hmk;have g1:qd L mk (.lst (nY (List.range ks.length))) mk=some (.lst (nY (List.range ks.length))):=q8;generalize qd L mk (.lst (nY (List.range ks.length)))=L1 at s1 g1 ⊢;refine qe (s1 _ _ hl) fun ed hed=>?_;have s2:=s1.trans (By (o:=.lst (zf lk)) hed);have g2:=By (o:=.lst (zf lk)) hed _ _ g1;have e2:qd L1 ed (.lst (zf lk)) ed=some (.lst (zf lk)):=q8;have ned:L ed=none:=s1.none hed;generalize qd L1 ed (.lst (zf lk))=L2 at s2 g2 e2 ⊢;refine jk (s2 _ _ hk) fun keep kp=>aK ⟨fun i τ L'=>∃(ed:Addr) (es:List (Nat×Nat)) (c6 c7:Option Y),τ=[some (.ref k),some (.ref l),some (.ref c),some (.ref mk),some (.ref ed),some (.int ((aC (zo true) ks i).length:Int)),c6,c7,none,none,none,none]/\qg L L'/\L ed=none/\ed≠mk/\L' mk=some (.lst (nY (List.range ks.length)))/\L' ed=some (.lst (zf es))/\Sw ks lk i es,⟨ed,lk,_,_,rfl,s2,ned,AR (k8 g1 hed),g2,e2,⟨fun x hx=>hx,fun r hr=>absurd hr (B7 _),fun r hr=>absurd hr (B7 _),hlk,by omega⟩⟩,?_,?_,?_⟩
 ·rintro i τ L' ⟨ed,es,c6,c7,rfl,s,_⟩;exact kp L' (by rw[s _ _ hk,s2 _ _ hk])
 ·rintro i y τ L' hy ⟨ed,es,c6,c7,rfl,s,ned,nem,gm,ge,W⟩;obtain⟨z,ez,rfl⟩:=ak hy;rw[Ai] at ez;obtain⟨kn,ek,rfl⟩:=Aj.mp ez;have hi:=qx ek;have wl:=W.ln;have ws:=aW (f:=zo true) ek;cases kn with
  |none=>exact absurd rfl (hno none (Ay ek))
  |some kn=>
   have skip:(∀e p q,kn≠.nd e p q)->bV (fun τ L'=>∃(ed:Addr) (es:List (Nat×Nat)) (c6 c7:Option Y),τ=[some (.ref k),some (.ref l),some (.ref c),some (.ref mk),some (.ref ed),some (.int ((aC (zo true) ks (i+1)).length:Int)),c6,c7,none,none,none,none]/\qg L L'/\L ed=none/\ed≠mk/\L' mk=some (.lst (nY (List.range ks.length)))/\L' ed=some (.lst (zf es))/\Sw ks lk (i+1) es) [some (.ref k),some (.ref l),some (.ref c),some (.ref mk),some (.ref ed),some (.int ((aC (zo true) ks i).length:Int)),some (.int ((i:Nat):Int)),some (bH kn),none,none,none,none] L':=fun hn=>by
    have hf:zo true (some kn)=false:=by cases kn with|lf t n=>rfl|nd e p q=>exact absurd rfl (hn e p q)
    rw[hf,AB Ap,A0] at ws;have W1:=W.next (ms:=[]) (by decide) (fun x hx=>by cases hx) (fun p q e=>by rw[ek] at e;exact absurd (AQ (AQ e)) (hn _ _ _)) (fun p q e=>by rw[ek] at e;exact absurd (AQ (AQ e)) (hn _ _ _));rw[A0] at W1;exact⟨_,DA _,ed,es,_,_,by rw[ws],s,ned,nem,gm,ge,W1⟩
   cases kn with
   |lf t n=>
    have z:=skip fun e p q z=>by cases z
    cases t<;>exact⟨fun τ' L''=>τ'=[some (.ref k),some (.ref l),some (.ref c),some (.ref mk),some (.ref ed),some (.int ((aC (zo true) ks i).length:Int)),some (.int ((i:Nat):Int)),some (bH (.lf _ n)),none,none,none,none]/\L''=L',⟨rfl,rfl⟩,by rintro τ' L'' ⟨rfl,rfl⟩;exact z⟩
   |nd e p q=>
    obtain⟨hp,hq⟩:=hr i e p q ek;cases e with
    |false=>
     have hf:zo true (some (Kn.nd false p q))=false:=rfl;rw[hf,AB Ap,A0] at ws;refine⟨fun τ' L''=>∃ed',τ'=[some (.ref k),some (.ref l),some (.ref c),some (.ref mk),some (.ref ed'),some (.int ((aC (zo true) ks i).length:Int)),some (.int ((i:Nat):Int)),some (bH (.nd false p q)),none,none,none,none]/\qg L L''/\L ed'=none/\ed'≠mk/\L'' mk=some (.lst (nY (List.range ks.length)))/\L'' ed'=some (.lst (zf (es++[(i,p),(i,q)]))),?_,?_⟩
     ·intro p1 hp1;refine⟨_,_,By hp1 _ _ ge,q8,by rw[Ab];exact Bx (big _ (by show es.length+2≤20000;omega)),fun p2 hp2=>?_⟩;have v:=(By (o:=.lst [.tup [.int ((i:Nat):Int),.int ((p:Nat):Int)],.tup [.int ((i:Nat):Int),.int ((q:Nat):Int)]]) hp1);refine⟨p2,rfl,(s.trans v).trans (By hp2),s.none (v.none hp2),AR (k8 (v _ _ gm) hp2),By hp2 _ _ (v _ _ gm),?_⟩;rw[q8];unfold zf;rw[Ar];rfl
     ·rintro τ' L'' ⟨ed',rfl,s',n',nm',gm',ge'⟩;have W1:=W.next (ms:=[(i,p),(i,q)]) (Am 2) (fun x hx=>by
       rcases An.mp hx with rfl | hx
       ·exact⟨hi,hp⟩
       ·rw[Af.mp hx];exact⟨hi,hq⟩) (fun p' q' e=>by rw[ek] at e;cases e;simp) (fun p' q' e=>by rw[ek] at e;cases e)
      exact⟨_,DA _,ed',_,_,_,by rw[ws],s',n',nm',gm',ge',W1⟩
    |true=>
     have hf:zo true (some (Kn.nd true p q))=true:=rfl;rw[AC hf] at ws;refine⟨fun τ' L''=>τ'=[some (.ref k),some (.ref l),some (.ref c),some (.ref mk),some (.ref ed),some (.int ((aC (zo true) ks i).length:Int)),some (.int ((i:Nat):Int)),some (bH (.nd true p q)),none,none,none,none]/\L''=L',⟨rfl,rfl⟩,?_⟩;rintro τ' L'' ⟨rfl,rfl⟩;have lt:=zB ek hf;obtain⟨b,hb⟩:∃b,bs[(aC (zo true) ks i).length]?=some b:=⟨_,Ak (by rw[hbs];exact lt)⟩;have hb2:=hb01 b (Ay hb);refine qe ge (qe (s _ _ hc) (qm (dE hb) ?_));obtain⟨m,hm,em⟩:∃m,(m=p\/m=q)/\bW [Y.str (kN true),.int ((p:Nat):Int),.int ((q:Nat):Int)] (1+((b:Nat):Int))=some (.int ((m:Nat):Int)):=by
      rcases hb2 with rfl | rfl
      ·exact⟨p,.inl rfl,rfl⟩
      ·exact⟨q,.inr rfl,rfl⟩
     refine qm em (qu ge ⟨by rw[Ab];exact big _ (by omega),?_⟩);have W1:=W.next (ms:=[(i,m)]) (Bz 1) (fun x hx=>by rw[Af.mp hx];refine⟨hi,?_⟩;rcases hm with rfl | rfl;exact hp;exact hq) (fun p' q' e=>by rw[ek] at e;cases e) (fun p' q' e=>by rw[ek] at e;cases e;rcases hm with rfl | rfl<;>simp);refine⟨_,DA _,ed,es++[(i,m)],some (.int ((i:Nat):Int)),some (bH (.nd true p q)),?_,s.upd ned,ned,nem,(qb (AR nem)).trans gm,?_,W1⟩
     ·rw[ws,Aa];rfl
     ·rw[q8];unfold zf;rw[Ar];rfl
 rintro τ L' ⟨ed,es,c6,c7,rfl,s,ned,nem,gm,ge,W⟩;rw[aO,lw] at W;have wl:=W.ln;refine jk ge fun keep kp=>aK ⟨fun i τ L''=>∃(mk:Addr) (ms:List Nat) (c5 c6 c7 c8 c9 lD fq:Option Y),τ=[some (.ref k),some (.ref l),some (.ref c),some (.ref mk),some (.ref ed),c5,c6,c7,c8,c9,lD,fq]/\qg L L''/\L'' ed=some (.lst (zf es))/\L'' mk=some (.lst (nY ms))/\ms.length=ks.length/\∀x∈es.take i,ms.getD x.1 0=ms.getD x.2 0,⟨mk,_,_,_,_,_,_,_,_,rfl,s,ge,gm,A3,fun x hx=>by cases hx⟩,?_,?_,?_⟩
 ·rintro i τ L'' ⟨mk,ms,c5,c6,c7,c8,c9,lD,fq,rfl,s',ge',_⟩;exact kp L'' (by rw[ge',ge])
 ·rintro i y τ L'' hy ⟨mk,ms,c5,c6,c7,c8,c9,lD,fq,rfl,s',ge',gm',lm,eqs⟩;rw[Ai] at hy;obtain⟨x,ex,rfl⟩:=Aj.mp hy;obtain⟨x1,x2⟩:=W.bd x (Ay ex);have at_:∀{a:Nat},a<ks.length->ms[a]?=some (ms.getD a 0):=fun {a} h=>by rw[A5,Ak (by omega)];rfl
  refine qe gm' (qm (dE (at_ x1)) (qe gm' (qm (dE (at_ x2)) ?_)));refine jk gm' fun keep kp=>ae (fun i zs=>zs=nY (mrk (ms.getD x.1 0) (ms.getD x.2 0) (ms.take i))) (by rw[vk];exact big _ (by omega)) (kp _ rfl) rfl ?_ ?_
  ·rintro j y zs hy rfl;obtain⟨m,em,rfl⟩:=bY hy;have et:mrk (ms.getD x.1 0) (ms.getD x.2 0) (ms.take (j+1))=mrk (ms.getD x.1 0) (ms.getD x.2 0) (ms.take j)++[if m=ms.getD x.2 0 then ms.getD x.1 0 else m]:=by unfold mrk;rw[AN,em,Ar];rfl
   show km (decide (((m:Nat):Int)=((ms.getD x.2 0:Nat):Int))) _ _;rw[iU];by_cases c:m=ms.getD x.2 0
   ·refine cD (Aw c) ⟨_,DA _,rfl,?_⟩;rw[et,AC c,gb];rfl
   ·refine kh (As c) ⟨_,DA _,rfl,?_⟩;rw[et,AB c,gb];rfl
  rintro zs rfl p7 h7;rw[vk,AF];refine⟨_,DA _,p7,_,_,_,_,_,_,_,_,rfl,s'.trans (By h7),By h7 _ _ ge',q8,by unfold mrk;rw[Ab];exact lm,fun z hz=>?_⟩;have et:es.take (i+1)=es.take i++[x]:=by rw[AN,ex];rfl
  rw[et] at hz;have zb:z.1<ks.length/\z.2<ks.length:=by
   rcases Ah.mp hz with hz | hz
   ·exact W.bd z (BH hz)
   ·rw[Af.mp hz];exact⟨x1,x2⟩
  rw[xL (by omega),xL (by omega)];rcases Ah.mp hz with hz | hz
  ·rw[eqs z hz]
  ·rw[Af.mp hz,AC (rfl:ms.getD x.2 0=_)];split<;>rfl
 ·rintro τ L'' ⟨mk,ms,c5,c6,c7,c8,c9,lD,fq,rfl,s',ge',gm',lm,eqs⟩;rw[Ab,AF] at eqs;have all:∀a b,a<ks.length->b<ks.length->ms.getD a 0=ms.getD b 0:=by
   refine R.1 (fun a b=>ms.getD a 0=ms.getD b 0) (fun _=>rfl) (fun _ _ h=>h.symm) (fun _ _ _ h g=>h.trans g) (fun x hx=>?_) (fun p hp e i j ek h=>?_)
   ·rcases Ah.mp hx with hx | hx
    ·rw[A0] at hx;exact eqs x (W.ex x hx)
    ·unfold jg at hx;obtain⟨r,hr,hx⟩:=AY.mp hx;obtain⟨_,kn,ek,hk⟩:=aJ hr;rw[ek] at hx;cases kn with
     |none=>cases hk
     |some kn=>
      cases kn with
      |lf t n=>cases hk
      |nd e p q=>
       cases e with
       |true=>cases hk
       |false=>
        obtain⟨a,b⟩:=W.bo r (qx ek) p q ek;have hx:x∈[(r,p),(r,q)]:=hx;rcases An.mp hx with rfl | hx
        ·exact eqs _ a
        ·rw[Af.mp hx];exact eqs _ b
   ·obtain⟨_,kn,ek2,hk⟩:=aJ hp;rw[ek] at ek2;cases ek2;cases e with
    |false=>cases hk
    |true=>
     rcases W.ei p (qx ek) i j ek with z | z
     ·exact eqs _ z
     ·exact(eqs _ z).trans h.symm
  refine qu gm' ⟨_,mx ms,by rw[Ab];omega,?_⟩;have d:ol (ms.map fun n:Nat=>(n:Int))=1:=by refine ac2 (c:=((ms.getD 0 0:Nat):Int)) (fun x hx=>?_) (by rw[Ab];omega);obtain⟨m,hm,rfl⟩:=Bh.mp hx;obtain⟨a,ha⟩:=List.getElem?_of_mem hm;have:=all a 0 (by have:=qx ha;omega) (by omega);rw[<-this,A5,ha];rfl
  rw[d];exact ce s' q
theorem aab{L:qk}:∀xs:List Int,Paired (ji L 0) (xs.map Y.int) (xs.map fun x=>Da.s (.int x))
 |[]=>.nil
 |_::r=>.cons ⟨rfl,rfl⟩ (aab r)
theorem akz:∀xs:List Int,Da.eqs (xs.map fun x=>Da.s (.int x)) (xs.map fun x=>Da.s (.int x))=true
 |[]=>rfl
 |x::r=>by rw[AD,Da.eqs,akz r];simp[Da.eq,iM]
def ad7(x:Nat×Nat):Da:=.tup [.s (.int (x.1:Int)),.s (.int (x.2:Int))]
theorem aaq{L:qk}:∀l:List (Nat×Nat),Paired (ji L 1) (zf l) (l.map ad7)
 |[]=>.nil
 |_::r=>.cons (aU (.cons (DN _) (.cons (DN _) .nil))) (aaq r)
theorem akt:∀l:List (Nat×Nat),Da.eqs (l.map ad7) (l.map ad7)=true
 |[]=>rfl
 |x::r=>by rw[AD,Da.eqs,akt r];simp[ad7,Da.eq,Da.eqs,iM]
theorem afj{c:Nat×Nat}(h:lk[i]?=some c):xj (lk.take (i+1))=xj (lk.take i)++[c.1,c.2]:=by rw[AN,h];show xj (lk.take i++[c])=_;rw[fE,fN]
structure LkS(ks:List (Option Kn))(lk:List (Nat×Nat)):Prop where
 at_:∀y∈lk,Lk1 ks y
 nd:(xj lk).Nodup
 all:∀p,p∈xj lk↔p∈aC jv ks ks.length
 pw:lk.Pairwise nV
 nod:lk.Nodup
 ln:lk.length≤20
 no:∀k∈ks,k≠none
 len:ks.length≤100
def gH:jc:=fun ys L Q=>∃k l,∃ks:List (Option Kn),∃lk:List (Nat×Nat),ys=[.ref k,.ref l]/\L k=some (.lst (cV ks))/\L l=some (.lst (zf lk))/\LkS ks lk/\Q (.bl true) L
theorem u9:∀ys L Q,gH ys L Q->x0 (lO ig) 7 ys L Q:=by
 rintro ys L Q ⟨k,l,ks,lk,rfl,hk,hl,S,q⟩;have big:=bg_;have ll:=S.ln;have kl:=S.len;have lw:(cV ks).length=ks.length:=Ab ..;refine abn hl ?_;intro sa hsa;have s1:qg L (qd L sa (.lst [])):=By hsa;refine jk (s1 _ _ hl) fun keep kp=>aK ⟨fun i τ L'=>∃(sa:Addr) (c3 c4 c5:Option Y),τ=[some (.ref k),some (.ref l),some (.ref sa),c3,c4,c5,none]/\qg L L'/\L' sa=some (.lst (nY (xj (lk.take i)))),⟨sa,_,_,_,rfl,s1,q8⟩,?_,?_,?_⟩
 ·rintro i τ L' ⟨sa,c3,c4,c5,rfl,s,_⟩;exact kp L' (by rw[s _ _ hl,s1 _ _ hl])
 ·rintro i y τ L' hy ⟨sa,c3,c4,c5,rfl,s,g⟩;rw[Ai] at hy;obtain⟨c,ec,rfl⟩:=Aj.mp hy;obtain⟨lt,t,n,h1,h2⟩:=S.at_ c (Ay ec);have hr:=qx h2;have pl:=fJ (lk.take i);rw[AS] at pl;refine⟨_,rfl,⟨_,rfl,kh rfl ?_⟩⟩;refine cD (Aw (Int.ofNat_lt.mpr lt)) (qe (s _ _ hk) ?_);refine kh (by show(!decide ((c.2:Int)<((cV ks).length:Int)))=false;rw[lw,Aw (Int.ofNat_lt.mpr hr)];rfl) ?_;refine qe (s _ _ hk) (qm (dE h1) (qe (s _ _ hk) (qm (dE h2) ?_)));have rest:km (!decide (n=n)) (gD Q (.bl false) L') (∀p1,L' p1=none->∃xs zs,qd L' p1 (.lst [.int ((c.1:Nat):Int),.int ((c.2:Nat):Int)]) sa=some (.lst xs)/\qd L' p1 (.lst [.int ((c.1:Nat):Int),.int ((c.2:Nat):Int)]) p1=some (.lst zs)/\xs.length+zs.length≤sizeLine/\∀p2,qd L' p1 (.lst [.int ((c.1:Nat):Int),.int ((c.2:Nat):Int)]) p2=none->bV (fun τ L'=>∃(sa:Addr) (c3 c4 c5:Option Y),τ=[some (.ref k),some (.ref l),some (.ref sa),c3,c4,c5,none]/\qg L L'/\L' sa=some (.lst (nY (xj (lk.take (i+1)))))) [some (.ref k),some (.ref l),some (.ref p2),some (prN c),some (iJ (some (.lf t n))),some (iJ (some (.lf (!t) n))),none] (qd (qd L' p1 (.lst [.int ((c.1:Nat):Int),.int ((c.2:Nat):Int)])) p2 (.lst (xs++zs)))):=by refine kh (by simp) fun p1 hp1=>?_;refine⟨_,_,By hp1 _ _ g,q8,by rw[vk];exact Bx (big _ (by show _+2≤20000;omega)),fun p2 hp2=>?_⟩;refine⟨_,DA _,p2,_,_,_,rfl,(s.trans (By hp1)).trans (By hp2),?_⟩;rw[q8,afj ec,gb];rfl
  cases t<;>exact rest
 rintro τ L' ⟨sa,c3,c4,c5,rfl,s,g⟩;rw[Ab,AF] at g;have k1:=s _ _ hk;refine qe k1 ⟨⟨A6 _,by rw[lw];omega⟩,?_⟩;rw[lw,BE];refine sg (fun i zs=>zs=nY (aC jv ks i)) (big _ (by omega)) rfl ?_ ?_
 ·rintro i zs hi rfl;obtain⟨kn,ek⟩:∃k,ks[i]?=some k:=⟨_,Ak hi⟩;have e0:bW (cV ks) (0+(i:Int))=some (iJ kn):=by rw[C3];exact dE ek
  have no:jv kn=false->bV (fun zs L2=>L2=L'/\zs=nY (aC jv ks (i+1))) (nY (aC jv ks i)) L':=fun h=>⟨L',DA _,rfl,by rw[aW ek,AB (by rw[h];exact Ap),A0]⟩;have yes:jv kn=true->bV (fun zs L2=>L2=L'/\zs=nY (aC jv ks (i+1))) (nY (aC jv ks i)++[.int (0+(i:Int))]) L':=fun h=>⟨L',DA _,rfl,by rw[aW ek,AC h,gb,C3];rfl⟩;refine qe k1 (qm e0 ?_);cases kn with
  |none=>exact absurd rfl (S.no none (Ay ek))
  |some kn=>
   cases kn with|lf t n=>exact yes rfl|nd e i' j'=>exact no rfl
 rintro zs rfl p6 h6;have s6:=s.trans (By (o:=.lst (nY (aC jv ks ks.length))) h6);have pl:=fJ lk;have wn:(aC jv ks ks.length).Nodup:=by unfold aC;exact Bj.filter _
 have p2:(xj lk).Perm (aC jv ks ks.length):=(A7 S.nd wn).mpr S.all;have wp:(aC jv ks ks.length).Pairwise fun a b=>a<b:=by unfold aC;exact List.Pairwise.filter _ List.pairwise_lt_range
 refine qu (By h6 _ _ g) ⟨_,mx _,bB (fun _ _ _ _ e=>Di.mp e) S.nd,by rw[Ab];omega,fun D ms hD pm pw=>?_⟩;have em:ms=(aC jv ks ks.length).map fun n:Nat=>(n:Int):=by refine CQ (le:=fun a b:Int=>a≤b) (fun a b _ _ h1 h2=>Int.le_antisymm h1 h2) pw ?_ (pm.trans (p2.map _));exact BG.mpr (wp.imp fun h=>Int.ofNat_le.mpr (Bx h))
 subst em;have s7:=s6.trans (By (o:=.lst (((aC jv ks ks.length).map fun n:Nat=>(n:Int)).map Y.int)) hD);refine⟨rfl,rfl,1,1,_,_,by decide,.inr (.inr ⟨_,_,rfl,rfl,zd q8,aab _⟩),.inr (.inr ⟨_,_,rfl,rfl,zd (By hD _ _ q8),(by rw[mx];exact aab _)⟩),?_⟩;refine cD (by show Da.eqs _ _=true;exact akz _) ?_;refine qu (s7 _ _ hl) ⟨lk.map wM,oE lk,fun p hp=>?_,?_,by rw[Ab];omega,fun D2 qs hD2 pq wq=>?_⟩
 ·obtain⟨r,hr,rfl⟩:=Bh.mp hp;obtain⟨_,t,n,_,h2⟩:=S.at_ r hr;have:=qx h2;show(0:Int)≤((r.2:Nat):Int)/\((r.2:Nat):Int)<1000000;omega
 ·exact bB (fun x _ y _ e=>by have e1:((x.1:Nat):Int)=(y.1:Int):=Bs Prod.fst e;have e2:((x.2:Nat):Int)=(y.2:Int):=Bs Prod.snd e;exact Prod.ext (by omega) (by omega)) S.nod
 have eq:qs=lk.map wM:=by
  refine CQ (le:=kG) (fun a b _ _ h1 h2=>?_) wq ?_ pq
  ·unfold kG at h1 h2;exact Prod.ext (by omega) (by omega)
  ·refine BG.mpr (S.pw.imp fun {a b} h=>?_);unfold nV at h;show((a.1:Nat):Int)<(b.1:Int)\/(((a.1:Nat):Int)=(b.1:Int)/\((a.2:Nat):Int)≤(b.2:Int));omega
 subst eq;rw[<-oE];refine jT (n:=1) (m:=1) (by decide) (By hD2 _ _ (s7 _ _ hl)) q8 (aaq _) (aaq _) ?_;show gD Q (.bl (nb false (Da.eqs _ _))) _;rw[akt];exact ce (s7.trans (By hD2)) q
theorem adv(ns:List Int)(lo hi:Option Int):∃ms:List Int,o9 (ns.map Y.int) lo hi=ms.map Y.int/\ms.length≤ns.length:=by unfold o9;refine⟨(ns.drop (HT.sIx (ns.map Y.int).length 0 lo)).take (HT.sIx (ns.map Y.int).length (ns.map Y.int).length hi - HT.sIx (ns.map Y.int).length 0 lo),by rw[List.map_take,List.map_drop],?_⟩;rw[AS,B0];omega
theorem qI{ks:List Kn}(ok:cf ks):∀E:List Nat,(∀x∈E,x<ks.length)->∃ws,Paired (dY ks) E ws/\∀w∈ws,w.depth≤ks.length
 |[],_=>⟨[],.nil,fun w h=>by cases h⟩
 |x::r,h=>by
  obtain⟨ws,p,d⟩:=qI ok r fun y hy=>h y (Ae _ hy);have hx:=h x (Au ..);obtain⟨w,hw,hd,_⟩:=nQ ok (x+1) x (Br _) hx;refine⟨w::ws,.cons hw p,fun u hu=>?_⟩;rcases An.mp hu with rfl | hu
  ·omega
  ·exact d u hu
theorem aem{L:qk}:∀ks:List Kn,Paired (ji L 1) (ks.map bH) (ks.map cM)
 |[]=>.nil
 |k::r=>.cons (jH k) (aem r)
theorem akx:∀ks:List Kn,Da.eqs (ks.map cM) (ks.map cM)=true
 |[]=>rfl
 |k::r=>by rw[AD,Da.eqs,akx r];cases k<;>simp[cM,Da.eq,Da.eqs,iM]
theorem acf{ks:List (Option Kn)}(hno:∀k∈ks,k≠none)(w:mW ks ks.length lk)(wp:lk.Pairwise nV)(hl:2*lk.length=ks.countP jv)(h20:lk.length≤20)(h100:ks.length≤100):LkS ks lk:=by
 obtain⟨h1,⟨_,_,h4,h5,_,_⟩,h8⟩:=w;have sub:∀p∈xj lk,p∈aC jv ks ks.length:=fun p hp=>by obtain⟨k,e,hb⟩:=h5 p hp;exact ic e hb (qx e)
 have len:(aC jv ks ks.length).length≤(xj lk).length:=by rw[w9 _ _ _ (Am _),AF,fJ];omega
 exact⟨fun y hy=>(h8 y hy).2.2.2.2,h4,fun p=>⟨sub p,fun h=>ui h4 sub len p h⟩,wp,h1,h20,hno,h100⟩
theorem aa8 :∀ys L Q,rQ ys L Q->x0 (aay gW (wf 120) (bE C) kQ gH oQ gR m7) 15 ys L Q:=by
 rintro ys L Q ⟨ns,rfl,h63,rfl,q⟩;have big:=bg_;intro p0 hp0;refine qe q8 ⟨rfl,rfl,aj (by rw[Ab];show ns.length+1≤1000;omega),fun p hp=>?_⟩;obtain⟨c,ec⟩:∃c:Int,bW (ns.map Y.int++[Y.int 0]) 0=some (Y.int c):=by cases ns with|nil=>exact⟨0,rfl⟩|cons a r=>exact⟨a,xr (j:=0) rfl⟩
 refine qe q8 (qm ec ⟨⟨by decide,by decide,by decide⟩,(by decide:(0:Int)<10 ^ (9:Int).toNat),?_⟩);show qc 1 (Y.int (c % (10:Int) ^ (9:Int).toNat)) _ _ _;generalize c % (10:Int) ^ (9:Int).toNat=s;generalize qd (qd _ p0 _) p _=L1;clear hp hp0 ec;obtain⟨ms,ems,hms⟩:=adv ns none (some 63);intro pc hpc;rw[ems];have gc:qd L1 pc (.lst (ms.map Y.int)) pc=some (.lst (ms.map Y.int)):=q8;generalize qd L1 pc (.lst (ms.map Y.int))=L1 at gc ⊢;clear hpc;refine⟨pc,ms,s,rfl,gc,by omega,fun ka eb ks R E L2 s2 _ _ gk ge T=>?_⟩;have gc:=s2 _ _ gc;have kl:=T.len;obtain⟨ws,pw,wd⟩:=qI T.ok E fun x hx=>T.sr.lt x (T.sr.sub x hx);have F:=uu T.ok T.sr T.nc T.tp pw;have lE:E.length=ws.length:=wu pw;have hsz:=F.sz;have hok:∀w∈ws,w.depth≤63/\w.leaves≤63:=fun w hw=>by have:=sX hw;have:=w.size_eq;have:=wd w hw;omega
 obtain⟨cN,hcN,N⟩:=T.nm;have hl6:(v4 R).length≤6:=by rw[<-(T.sr.cnt T.nc).1,<-aS T.tp,N.pl];exact hcN
 have h2:∀x,(ks.map some).countP (rS true x)≤2:=fun x=>by rw[<-F.cnt,<-F.even x,F.cnt];exact N.two hcN x
 have hE:E.length≤18:=by have:=wv _ _ T.sr.nod fun x hx=>T.sr.lt x (T.sr.sub x hx);omega
 refine jk ge fun keep kp=>ae (fun i zs=>zs=(ws.take i).map x5) (by rw[Ab];exact big _ (by omega)) (kp _ rfl) rfl ?_ ?_
 ·rintro i y zs hy rfl;rw[Ai] at hy;obtain⟨x,ex,rfl⟩:=Aj.mp hy;obtain⟨w,ew,hw⟩:=al pw ex;have hd:=wd w (Ay ew);refine⟨ka,vv ks,x,w,rfl,gk,hw,by omega,_,DA _,rfl,?_⟩;rw[AN,ew,Ar];rfl
 rintro zs rfl p5 h5;rw[Ab,lE,AF];have gc:=By (o:=.lst (ws.map x5)) h5 _ _ gc;have g5:qd L2 p5 (.lst (ws.map x5)) p5=some (.lst (ws.map x5)):=q8;generalize qd L2 p5 (.lst (ws.map x5))=L3 at gc g5 ⊢;refine qe g5 fun p6 h6=>?_;have gc:=By (o:=.lst (ws.map x5)) h6 _ _ gc;have g5:=By (o:=.lst (ws.map x5)) h6 _ _ g5;have g6:qd L3 p6 (.lst (ws.map x5)) p6=some (.lst (ws.map x5)):=q8;generalize qd L3 p6 (.lst (ws.map x5))=L4 at gc g5 g6 ⊢;refine⟨p6,ws,120,ks,R,rfl,g6,F,hok,hl6,by omega,abb N hcN F,h2,rfl,fun k b e lk L5 s5 f1 f2 f3 wy wp hR=>?_⟩;have gc:=s5 _ _ gc;have g5:=s5 _ _ g5;have g6:=s5 _ _ g6;have dw:∀{a:Addr} {L:qk},L a=some (.lst (ws.map x5))->ji L 64 (.ref a) (.lst (ws.map fA)):=fun h=>.inr (.inr ⟨_,_,rfl,rfl,zd h,gP fun w hw=>(hok w hw).1⟩);refine⟨rfl,rfl,64,64,_,_,by decide,dw g6,dw g5,?_⟩;refine kh (by show(!Da.eqs _ _)=false;rw[show Da.eqs (ws.map fA) (ws.map fA)=true from mC ws];rfl) ?_;refine⟨p5,ws,rfl,g5,by omega,fun k3 hk3=>?_⟩;have el:js 0 ws=(vf 0 ws).map bH:=(iP 0 ws).symm;have gc:=By (o:=.lst (js 0 ws)) hk3 _ _ gc;have f1:=By (o:=.lst (js 0 ws)) hk3 _ _ f1;have f2:=By (o:=.lst (js 0 ws)) hk3 _ _ f2;have f3:=By (o:=.lst (js 0 ws)) hk3 _ _ f3;have g3:qd L5 k3 (.lst (js 0 ws)) k3=some (.lst (cV (aF ws))):=by rw[q8,zJ]
 generalize qd L5 k3 (.lst (js 0 ws))=L6 at gc f1 f2 f3 g3 ⊢;have dk:∀{a:Addr},L6 a=some (.lst (cV (aF ws)))->ji L6 2 (.ref a) (.lst ((vf 0 ws).map cM)):=fun h=>.inr (.inr ⟨_,_,rfl,rfl,zd h,(by rw[zJ,el];exact aem _)⟩);refine⟨rfl,rfl,2,2,_,_,by decide,dk f1,dk g3,?_⟩;refine kh (by show(!Da.eqs _ _)=false;rw[akx];rfl) ?_;have hkl:(aF ws).length=ks.length:=by rw[nO,hsz]
 have hno:=iz ws;have cnt:(aF ws).countP jv=2*(v4 R).length:=by rw[<-cq];show(((vf 0 ws).map some).filterMap jS).length=_;rw[cP];exact F.ll
 have hlk:2*lk.length=(aF ws).countP jv:=by
  have r3:=hR.2.2;have k3:=gM (aF ws) hno;have b3:(aF ws).countP (zo false)=BO ws:=eS 0 ws;have bo:=F.bo;have e2:(jg (aF ws) (zy false (aF ws))).length=2*(zy false (aF ws)).length:=gN fun p hp=>by
   obtain⟨_,kn,ek,hk⟩:=aJ hp;cases kn with
   |none=>cases hk
   |some kn=>
    cases kn with|lf t n=>cases hk|nd e i j=>exact⟨e,i,j,ek⟩
  unfold jp at r3;rw[A0,Aa,e2,cL,cL] at r3;omega
 have S:=acf hno wy wp hlk (by omega) (by omega);refine⟨k3,b,aF ws,lk,rfl,g3,f2,S,?_⟩;refine kh rfl ?_;intro p9 hp9;have v9:=By (o:=.lst []) hp9;refine⟨rfl,rfl,1,1,.lst [],.lst [],by decide,.inr (.inr ⟨_,_,rfl,rfl,zd (v9 _ _ f3),.nil⟩),.inr (.inr ⟨_,_,rfl,rfl,zd q8,.nil⟩),?_⟩;refine kh rfl ?_;have gc:=v9 _ _ gc;have f2:=v9 _ _ f2;have g3:=v9 _ _ g3;generalize qd L6 p9 (.lst [])=L7 at gc f2 g3 ⊢;have lk3:(cV (aF ws)).length=ks.length:=by rw[Ab];exact hkl
 refine jk g3 fun keep kp=>ae (fun i zs=>zs.length=((aF ws).take i).countP (zo true)) (by rw[lk3];exact big _ (by omega)) (kp _ rfl) rfl ?_ ?_
 ·rintro i y zs hy hz;rw[Ai] at hy;obtain⟨kk,ekk,rfl⟩:=Aj.mp hy;have et:(aF ws).take (i+1)=(aF ws).take i++[kk]:=by rw[AN,ekk];rfl
  have no:zo true kk=false->bV (fun zs L'=>L'=L7/\zs.length=((aF ws).take (i+1)).countP (zo true)) zs L7:=fun h=>⟨L7,DA _,rfl,by rw[et,AL,hz];simp[h]⟩;have yes:∀z,zo true kk=true->bV (fun zs L'=>L'=L7/\zs.length=((aF ws).take (i+1)).countP (zo true)) (zs++[z]) L7:=fun z h=>⟨L7,DA _,rfl,by rw[et,AL,Aa,hz];simp[h]⟩;cases kk with
  |none=>exact absurd rfl (hno none (Ay ekk))
  |some kn=>
   cases kn with
   |lf t n=>cases t<;>exact no rfl
   |nd e i' j'=>
    cases e with|false=>exact no rfl|true=>exact yes _ rfl
 intro zs hz p10 hp10;rw[lk3,<-hkl,AF,<-cL] at hz;refine qe q8 ?_;obtain⟨m,hm⟩:∃m,m=zs.length:=⟨_,rfl⟩;rw[<-hm] at hz ⊢;have hm18:m≤18:=by have:=dI (zo true) (aF ws) (aF ws).length;rw[hz];show(aC (zo true) (aF ws) (aF ws).length).length≤18;omega
 have v10:=By (o:=.lst zs) hp10;have gc:=v10 _ _ gc;have f2:=v10 _ _ f2;have g3:=v10 _ _ g3;generalize qd L7 p10 (.lst zs)=L8 at gc f2 g3 ⊢;refine⟨⟨A6 _,by omega⟩,?_⟩;rw[BE];refine t7 (fun i τ L'=>∃fq,τ=[some (.sq (ns.map Y.int)),some (.int s),some (.ref pc),some (.ref k3),some (.ref eb),some (.ref p5),some (.ref p6),some (.tup [.str "web",dR k b e]),some (dR k b e),some (.int (m:Int)),some (.int ((2 ^ i:Nat):Int)),fq,none,none,none]/\L'=L8) ⟨_,rfl,rfl⟩ ?_ ?_
 ·rintro i τ L' hi ⟨fq,rfl,rfl⟩;refine⟨.inl ⟨by decide,by decide⟩,_,DA _,some (.int (0+(i:Int))),?_,rfl⟩;rw[Nat.pow_succ,Nat.mul_comm];rfl
 rintro τ L' ⟨fq,rfl,rfl⟩;refine jk gc fun keep kp=>ae (fun i zs=>∃vs:List Int,zs=vs.map Y.int) (by rw[aO,Ab];exact big _ (by omega)) (kp _ rfl) ⟨[],rfl⟩ ?_ ?_
 ·rintro i y zs hy ⟨vs,rfl⟩;obtain⟨z,ez,rfl⟩:=ak hy;have hi:i<ms.length:=by have:=qx ez;rwa[Ab] at this
  obtain⟨c,rfl⟩:∃c,z=Y.int c:=by rw[Ai] at ez;obtain⟨w,_,e2⟩:=Aj.mp ez;exact⟨w,e2.symm⟩
  exact⟨c,(i:Int),16807,rfl,by omega,by omega,by decide,by decide,fun v v0 v1=>⟨_,DA _,rfl,vs++[v],by rw[Ar];rfl⟩⟩
 rintro _ ⟨vs,rfl⟩ p12 hp12;refine⟨rfl,qe q8 (qm (ux _) ?_)⟩;generalize vs.sum=tot;have v12:=By (o:=.lst (vs.map Y.int)) hp12;have f2:=v12 _ _ f2;have g3:=v12 _ _ g3;generalize qd L' p12 (.lst (vs.map Y.int))=L9 at f2 g3 ⊢;have pp:(0:Int)<((2 ^ m:Nat):Int):=by have:=Nat.two_pow_pos m;omega
 refine⟨⟨by decide,by decide⟩,?_⟩;refine sg (fun i zs=>∃vs:List Int,zs=vs.map Y.int) (by decide) ⟨[],rfl⟩ ?_ ?_
 ·rintro i zs hi ⟨vs,rfl⟩;have hi:i<8:=hi;refine⟨.inl ⟨by omega,by omega⟩,.inr ⟨by decide,by decide⟩,.inr ⟨by decide,by decide⟩,pp,_,DA _,rfl,vs++[(tot+(0+(i:Int))*(0+(i:Int))*7919)*48271 % ((2 ^ m:Nat):Int)],?_⟩;rw[Ar];rfl
 rintro _ ⟨vs,rfl⟩ p13 hp13;have v13:=By (o:=.lst (vs.map Y.int)) hp13;refine⟨fun τ L'=>∃(p13:Addr) (vs:List Int),τ=[some (.sq (ns.map Y.int)),some (.int s),some (.ref pc),some (.ref k3),some (.ref eb),some (.ref p5),some (.ref p6),some (.tup [.str "web",dR k b e]),some (dR k b e),some (.int (m:Int)),some (.int ((2 ^ m:Nat):Int)),none,some (.int tot),some (.ref p13),none]/\L' b=some (.lst (zf lk))/\L' k3=some (.lst (cV (aF ws)))/\L' p13=some (.lst (vs.map Y.int)),?_,?_⟩
 ·refine xm (fun c5=>?_) fun c5=>⟨p13,vs,rfl,v13 _ _ f2,v13 _ _ g3,q8⟩;have c5:((m:Nat):Int)≤5:=c5;have p32:2 ^ m≤2 ^ 5:=Nat.pow_le_pow_right (by decide) (by omega);refine⟨⟨A6 _,by omega⟩,fun p14 h14=>⟨p14,(List.range (2 ^ m)).map fun i:Nat=>(0+(i:Int)),rfl,By h14 _ _ (v13 _ _ f2),By h14 _ _ (v13 _ _ g3),?_⟩⟩;rw[q8,BE];unfold kz;rw[Bm];rfl
 rintro τ L' ⟨p13,vs,rfl,f2,g3,gv⟩;refine jk gv fun keep kp=>aK ⟨fun i τ L''=>∃c14,τ=[some (.sq (ns.map Y.int)),some (.int s),some (.ref pc),some (.ref k3),some (.ref eb),some (.ref p5),some (.ref p6),some (.tup [.str "web",dR k b e]),some (dR k b e),some (.int (m:Int)),some (.int ((2 ^ m:Nat):Int)),none,some (.int tot),some (.ref p13),c14]/\L''=L',⟨_,rfl,rfl⟩,?_,?_,?_⟩
 ·rintro i τ L'' ⟨c14,rfl,rfl⟩;exact kp _ rfl
 ·rintro i y τ L'' hy ⟨c14,rfl,rfl⟩;rw[Ai] at hy;obtain⟨v,_,rfl⟩:=Aj.mp hy;refine⟨v,m,rfl,by omega,fun p20 bs hp20 hbl hb01=>?_⟩;have v20:=By (o:=.lst (nY bs)) hp20;refine⟨k3,b,p20,aF ws,lk,bs,rfl,v20 _ _ g3,v20 _ _ f2,q8,hno,aey ws,fun x hx=>⟨(wy.2.2 x hx).1,(wy.2.2 x hx).2.1⟩,by omega,by rw[hbl,hz],hb01,hR,by have:=(T.sr.cnt T.nc).2.1;have:=F.bo;have:=F.ll;rw[hkl];have:=aS T.tp jv;have:=Cp (p:=jv) (l:=ks.map some);rw[Ab] at this;omega,by omega,?_⟩;exact⟨L'',v20,_,rfl,rfl⟩
 ·rintro τ L'' ⟨c14,rfl,rfl⟩;exact xu (q _)
end L3
end
set_option maxRecDepth 100000
set_option maxHeartbeats 8000000
namespace K74
open PySem L2 L3 Words
abbrev ng:Str:="_law_knots"
abbrev nh:Str:="_law_k"
abbrev nj:Str:="_law_one"
abbrev nl:Str:="_law_two"
abbrev nq:Str:="_law_links"
abbrev nt:Str:="_law_seed"
abbrev nu:Str:="_law_script"
abbrev nv:Str:="_law_right"
abbrev nz:Str:="_law_word_here"
abbrev nC:Str:="_law_cell"
abbrev nE:Str:="_law_left"
def top(i:Nat):Stmt:=PySem.Challenge.pw_oncewise_k74_found.main.body.getD i (.Pass ⟨0,0,0,0⟩)
theorem ana:∀{us:List Value},us.length=1->∃a0,us=[a0]
 |[a0],_=>⟨a0,rfl⟩
theorem ajl:∀{us:List Value},us.length=2->∃a0 a1,us=[a0,a1]
 |[a0,a1],_=>⟨a0,a1,rfl⟩
theorem aml:∀{us:List Value},us.length=3->∃a0 a1 a2,us=[a0,a1,a2]
 |[a0,a1,a2],_=>⟨a0,a1,a2,rfl⟩
theorem anb:∀{us:List Value},us.length=4->∃a0 a1 a2 a3,us=[a0,a1,a2,a3]
 |[a0,a1,a2,a3],_=>⟨a0,a1,a2,a3,rfl⟩
abbrev lc:Stmt:=top 8
abbrev qB:Stmt:=top 9
abbrev gr:Stmt:=top 10
abbrev kZ:Stmt:=top 12
abbrev yR:Stmt:=top 13
abbrev dc:Stmt:=(iW (top 4)).getD 0 (.Pass ⟨0,0,0,0⟩)
abbrev aw:Stmt:=(iW (top 4)).getD 1 (.Pass ⟨0,0,0,0⟩)
abbrev be:Stmt:=(iW (top 4)).getD 2 (.Pass ⟨0,0,0,0⟩)
abbrev cH:Stmt:=top 14
abbrev kR:Stmt:=top 15
abbrev iH:Stmt:=top 16
abbrev fD:Stmt:=top 17
abbrev jC:Stmt:=top 19
abbrev e9:Stmt:=top 20
abbrev jG:Stmt:=top 21
abbrev f6:Stmt:=top 22
abbrev jI:Stmt:=top 23
abbrev fH:Stmt:=top 24
abbrev jN:Stmt:=top 25
abbrev aI:Stmt:=top 26
abbrev hU:Stmt:=top 27
abbrev gy:Stmt:=top 28
abbrev gj:Stmt:=top 30
abbrev bz:Stmt:=top 31
abbrev iE:Stmt:=top 32
abbrev bC:Stmt:=top 33
abbrev cY:Stmt:=top 34
abbrev a9:Stmt:=top 35
abbrev lF:Stmt:=top 36
abbrev jL:Stmt:=top 38
abbrev hX:Stmt:=top 39
abbrev gu:Stmt:=top 40
abbrev hV:Stmt:=top 41
abbrev gn:Stmt:=top 42
abbrev gw:Stmt:=top 43
abbrev eL:Stmt:=top 44
abbrev io:Stmt:=top 45
abbrev hJ:Stmt:=top 46
abbrev dW:Stmt:=top 47
abbrev gq:Stmt:=top 48
abbrev da:Stmt:=top 49
abbrev pS:Stmt:=top 50
structure V_ where
 (P:Program) (w:World) (K:Ac) (mg:Str->Option Value) (base:Heap) (Ca Cb:Addr)
structure B_(V:V_):Prop where
 hp:∃h:Heap,V.K.In h/\h.Ns mainGlobals V.mg
 ba:V.mg "len" = none
 bh:V.mg "list" = none
 bc:V.mg "range" = none
 bb:V.mg "enumerate" = none
 bp:V.mg "max" = none
 bq:V.mg "min" = none
 bi:V.mg "sorted" = none
 bg:V.mg "isinstance" = none
 bv:V.mg "bool" = none
 br:V.mg "int" = none
 bu:V.mg "set" = none
 bj:V.mg "tuple" = none
 bn:V.mg "sum" = none
 D0:qq V.K "is_leaf" lc
 D1:qq V.K "turned" qB
 D2:qq V.K "leaves_of" gr
 D3:qq V.K "lay_word" kZ
 D4:qq V.K "laid" yR
 D5:bG V.K V.Ca "__init__" "Pieces.__init__" dc
 D6:bG V.K V.Ca "head_of" "Pieces.head_of" aw
 D7:bG V.K V.Ca "unite" "Pieces.unite" be
 D8:qq V.K "places_there" cH
 D9:qq V.K "parts_of" kR
 D10:qq V.K "places_in" iH
 D11:qq V.K "eithers_of" fD
 D12:qq V.K "boths_of" jC
 D13:qq V.K "part_edges" e9
 D14:qq V.K "joins_of" jG
 D15:qq V.K "join_steps" f6
 D16:qq V.K "can_fold" jI
 D17:qq V.K "fold_steps" fH
 D18:qq V.K "steps_by" jN
 D19:qq V.K "all_come_together" aI
 D20:qq V.K "right_web" hU
 D21:qq V.K "first_bad" gy
 D22:qq V.K "leaves_in" gj
 D23:qq V.K "first_uneven" bz
 D24:qq V.K "tries_due" iE
 D25:qq V.K "linked_further" bC
 D26:qq V.K "ways_to_link" cY
 D27:qq V.K "linked_or_tried" a9
 D28:gO V.K "searched" lF 120
 D29:qq V.K "_law_mix" jL
 D30:qq V.K "_law_name" hX
 D31:qq V.K "_law_word" gu
 D32:qq V.K "_law_join" hV
 D33:qq V.K "_law_fold" gn
 D34:qq V.K "_law_tree" gw
 D35:qq V.K "_law_whole" eL
 D36:qq V.K "_law_lay" io
 D37:qq V.K "_law_laid" hJ
 D38:qq V.K "_law_pieces" dW
 D39:qq V.K "_law_bits" gq
 D40:qq V.K "_law_linked" da
 k_LEAF_KINDS:ag9 ⟨V.K,V.P,V.w⟩ V.mg "LEAF_KINDS" db
 k_TURNED_KINDS:ag9 ⟨V.K,V.P,V.w⟩ V.mg "TURNED_KINDS" bP
 md:V.mg "Pieces" = some (.ref V.Ca)
 me:V.mg "TooMany" = some (.ref V.Cb)
 x_TooMany:yX V.K V.Cb
 cl_Pieces:Cls V.K V.Ca
 mAPieces:PySem.W.makesIn V.K V.Ca=true
 mKPieces:PySem.W.keepIn V.K (.ref V.Ca)=true
 xf:L3.XFP V.K V.Ca
abbrev Q_(V:V_)(k:Nat)(x:Str)(ps:List Str)(sp:jc):Prop:=ah8 V.P V.w V.K V.mg V.base k x ps sp
abbrev c0(_:V_):Prop:=True
local macro_rules | `(tactic| walk_at "s")=>`(tactic| exact⟨rfl,rfl,rfl,by decide +kernel,rfl,by decide +kernel,by decide +kernel⟩)
local macro_rules | `(tactic| walk_at "l")=>`(tactic| first | exact fun _ _ _ ⟨_,e,_⟩=>by rw[e];rfl | exact fun _ _ _ ⟨_,_,e,_⟩=>by rw[e];rfl | exact fun _ _ _ ⟨_,_,_,e,_⟩=>by rw[e];rfl | exact fun _ _ _ ⟨_,_,_,_,e,_⟩=>by rw[e];rfl | exact fun _ _ _ ⟨_,_,_,_,_,e,_⟩=>by rw[e];rfl | exact fun _ _ _ ⟨_,_,_,_,_,_,e,_⟩=>by rw[e];rfl | exact fun _ _ _ ⟨_,_,_,_,_,_,_,e,_⟩=>by rw[e];rfl | exact fun _ _ _ ⟨_,_,_,_,_,_,_,_,_,e,_⟩=>by rw[e];rfl | exact fun _ _ _ ⟨_,_,_,_,_,_,_,_,_,_,e,_⟩=>by rw[e];rfl)
local macro_rules | `(tactic| walk_at "x")=>`(tactic| first | exact fun _ _ _ _ ⟨_,e,_⟩=>by rw[e];rfl | exact fun _ _ _ _ ⟨_,_,e,_⟩=>by rw[e];rfl | exact fun _ _ _ _ ⟨_,_,_,e,_⟩=>by rw[e];rfl | exact fun _ _ _ _ ⟨_,_,_,_,e,_⟩=>by rw[e];rfl | exact fun _ _ _ _ ⟨_,_,_,_,_,e,_⟩=>by rw[e];rfl | exact fun _ _ _ _ ⟨_,_,_,_,_,_,e,_⟩=>by rw[e];rfl | exact fun _ _ _ _ ⟨_,_,_,_,_,_,_,e,_⟩=>by rw[e];rfl | exact fun _ _ _ _ ⟨_,_,_,_,_,_,_,_,_,e,_⟩=>by rw[e];rfl | exact fun _ _ _ _ ⟨_,_,_,_,_,_,_,_,_,_,e,_⟩=>by rw[e];rfl)
local macro_rules | `(tactic| walk_at "b")=>`(tactic| (intro _ _ _ _ _ _ us hl;first | (obtain⟨_,e⟩:=ana hl;rw[e];rfl) | (obtain⟨_,_,e⟩:=ajl hl;rw[e];rfl) | (obtain⟨_,_,_,e⟩:=aml hl;rw[e];rfl) | (obtain⟨_,_,_,_,e⟩:=anb hl;rw[e];rfl)))
section
variable {f:Addr}{fd:FuncData}{x q:Str}{st:Stmt}{ps:List Str}(V:V_)(k:Nat)(N:List Str)
theorem W_{sp:jc}{t:k6}(F:Fun V.K x q st f fd)(vc:∀ys L Q,sp ys L Q->x0 t N.length ys L Q)(h:∀(cdv:Value) (A:Around) (outer:List Env) (s:Shared) (H:Hp) (E:XK),v3 k (A.deeper (PyProof.Rows.envOfC q (ql st) s.heap.objs.size f cdv))->N.Nodup->(A.deeper (PyProof.Rows.envOfC q (ql st) s.heap.objs.size f cdv)).units+128<cLine->rD (cR CX0 V.P V.w V.K V.mg V.base N q (ql st) f cdv A outer s H E).nox (zn st) t)(sc:aN N ps (ql st):=by walk_at "s")(len:∀ys L Q,sp ys L Q->ys.length=ps.length:=by walk_at "l"):Fn3 V.P V.w V.K V.mg V.base (k+1) f fd ps sp:=
 ok3 F sc len fun cdv A outer s H E hr=>⟨t,h cdv A outer s H E hr sc.nd (huK hr),vc⟩
theorem M_{sp:jc}{t:k6}(hp:∃h:Heap,V.K.In h/\h.Ns mainGlobals V.mg)(D:qq V.K x st)(vc:∀ys L Q,sp ys L Q->x0 t N.length ys L Q)(h:∀f,∀(cdv:Value) (A:Around) (outer:List Env) (s:Shared) (H:Hp) (E:XK),v3 k (A.deeper (PyProof.Rows.envOfC x (ql st) s.heap.objs.size f cdv))->N.Nodup->(A.deeper (PyProof.Rows.envOfC x (ql st) s.heap.objs.size f cdv)).units+128<cLine->rD (cR CX0 V.P V.w V.K V.mg V.base N x (ql st) f cdv A outer s H E).nox (zn st) t)(sc:aN N ps (ql st):=by walk_at "s")(len:∀ys L Q,sp ys L Q->ys.length=ps.length:=by walk_at "l")(hb:∀(kV doc pm:Value) (an:Option Addr) (cdv ct:Value) (us:List Value),us.length=ps.length->bindArgs (PySem.W.fnOf x x (ja st) (zn st) (ql st) .none kV doc pm an cdv ct) ⟨us,[]⟩=pure (ps.zip us):=by walk_at "b"):Q_ V (k+1) x ps sp:=by obtain⟨_,X,G⟩:=hp;obtain⟨f,fd,F,b,m⟩:=D.use X G hb;exact Cal.of (W_ V k N F vc (h f) sc len) b F.kp m
theorem R_{sp:Nat->jc}{t:Nat->k6}(hp:∃h:Heap,V.K.In h/\h.Ns mainGlobals V.mg)(D:qq V.K x st)(no:∀ys L Q,¬sp 0 ys L Q)(vc:∀n ys L Q,sp (n+1) ys L Q->x0 (t n) N.length ys L Q)(h:∀n f,Q_ V (n+k) x ps (sp n)->∀(cdv:Value) (A:Around) (outer:List Env) (s:Shared) (H:Hp) (E:XK),v3 (n+k) (A.deeper (PyProof.Rows.envOfC x (ql st) s.heap.objs.size f cdv))->N.Nodup->(A.deeper (PyProof.Rows.envOfC x (ql st) s.heap.objs.size f cdv)).units+128<cLine->rD (cR CX0 V.P V.w V.K V.mg V.base N x (ql st) f cdv A outer s H E).nox (zn st) (t n))(n:Nat)(sc:aN N ps (ql st):=by walk_at "s")(len:∀n ys L Q,sp n ys L Q->ys.length=ps.length:=by walk_at "x")(hb:∀(kV doc pm:Value) (an:Option Addr) (cdv ct:Value) (us:List Value),us.length=ps.length->bindArgs (PySem.W.fnOf x x (ja st) (zn st) (ql st) .none kV doc pm an cdv ct) ⟨us,[]⟩=pure (ps.zip us):=by walk_at "b"):Q_ V (n+k) x ps (sp n):=by
 obtain⟨_,X,G⟩:=hp;obtain⟨f,fd,F,b,m⟩:=D.use X G hb
 induction n with|zero=>exact Cal.of (Fn3.never no) b F.kp m|succ n ih=>rw[Nat.add_right_comm];exact Cal.of (W_ V (n+k) N F (vc n) (h n f ih) sc (len _)) b F.kp m
theorem XD_{sp:lU}{t:X3->k6}{d:Int}{kn:Str}(hp:∃h:Heap,V.K.In h/\h.Ns mainGlobals V.mg)(D:gO V.K x st d)(vc:∀ys L Q E,sp ys L Q E->x0 (t (xO E)) N.length ys L Q)(h:∀f,∀(cdv:Value) (A:Around) (outer:List Env) (s:Shared) (H:Hp) (E:XK) (E3:X3),v3 k (A.deeper (PyProof.Rows.envOfC x (ql st) s.heap.objs.size f cdv))->bQ (cR (CXE V.P V.w) V.P V.w V.K V.mg V.base N x (ql st) f cdv A outer s H E) (upX ⟨V.K,V.P,V.w⟩ E3)->N.Nodup->(A.deeper (PyProof.Rows.envOfC x (ql st) s.heap.objs.size f cdv)).units+128<cLine->rD (cR (CXE V.P V.w) V.P V.w V.K V.mg V.base N x (ql st) f cdv A outer s H E) (zn st) (t E3))(sc:aN N ps (ql st):=by walk_at "s")(len:∀ys L Q E,sp ys L Q E->ys.length=ps.length:=by walk_at "x")(hb:∀(T:Addr) (t:Tok) (kV doc pm:Value) (an:Option Addr) (cdv ct:Value),(∀us:List Value,us.length=ps.length->∃k,bindArgs (PySem.W.fnOf x x (ja st) (zn st) (ql st) (.ref T) kV doc pm an cdv ct) ⟨us,[]⟩=seqItems? (.ref T) >>= k/\k (some #[.int d t])=pure (ps.zip us))/\(∀us:List Value,(us++[Value.int d t]).length=ps.length->∃k,bindArgs (PySem.W.fnOf x x (ja st) (zn st) (ql st) (.ref T) kV doc pm an cdv ct) ⟨us,[]⟩=seqItems? (.ref T) >>= k/\k (some #[.int d t])=pure (ps.zip (us++[.int d t])))/\(∀(us:List Value) (u:Value),(us++[u]).length=ps.length->∃k,bindArgs (PySem.W.fnOf x x (ja st) (zn st) (ql st) (.ref T) kV doc pm an cdv ct) ⟨us,[(kn,u)]⟩=seqItems? (.ref T) >>= k/\k (some #[.int d t])=pure (ps.zip (us++[u]))):=by exact fun _ _ _ _ _ _ _ _=>⟨fun us hl=>by obtain⟨_,_,rfl⟩:=ajl hl;exact⟨_,rfl,rfl⟩,fun us hl=>by obtain⟨_,rfl⟩:=zW hl;exact⟨_,rfl,rfl⟩,fun us u hl=>by obtain⟨_,rfl⟩:=zW hl;exact⟨_,rfl,rfl⟩⟩):fz V.P V.w V.K V.mg V.base (k+1) x ps d kn sp:=by obtain⟨_,X,G⟩:=hp;obtain⟨f,fd,F,b,m⟩:=D.useD X G hb;exact⟨_,_,aj2 F sc len (fun cdv A outer s H E E3 hr ht=>h f cdv A outer s H E E3 hr ht sc.nd (huK hr)) vc,b,F.kp,m⟩
end
theorem I_{X:Cx}{a b:Expr}{ta tb:x4}{pos:Pos}(ha:QE X a ta)(hb:QE X b tb)(hp:nX b:=by exact fun _ _=>rfl):QE X (.Subscript a b pos) (zm bM ta tb):=al7 (ald X.K X.prog X.w) ha hb hp
theorem jz{X:Cx}{e:Expr}{t:x4}(h:QE X e t)(s:starEach [e] X.env=[(false,eval e X.env)]:=by rfl):QA X [e] (qh t qz):=bF h x6 s
theorem aD{X:Cx}{e f:Expr}{t u:x4}(h:QE X e t)(g:QE X f u)(s:starEach [e,f] X.env=[(false,eval e X.env),(false,eval f X.env)]:=by rfl)(r:starEach [f] X.env=[(false,eval f X.env)]:=by rfl):QA X [e,f] (qh t (qh u qz)):=bF h (jz g r) (by show _=_;rw[s,r])
theorem g8{X:Cx}{e f d:Expr}{t u v:x4}(h:QE X e t)(g:QE X f u)(i:QE X d v)(s:starEach [e,f,d] X.env=[(false,eval e X.env),(false,eval f X.env),(false,eval d X.env)]:=by rfl)(r:starEach [f,d] X.env=[(false,eval f X.env),(false,eval d X.env)]:=by rfl)(q:starEach [d] X.env=[(false,eval d X.env)]:=by rfl):QA X [e,f,d] (qh t (qh u (qh v qz))):=bF h (aD g i r q) (by show _=_;rw[s,r])
theorem E_{X:Cx}{a b:Expr}{ta tb:x4}{pos:Pos}(hu:X.A.units+128<cLine)(ha:QE X a ta)(hb:QE X b tb):QT X (.Compare a [.Eq] [b] pos) (yB (zm (rC false) ta tb)):=vq (mK X.K X.prog X.w hu) ha hb (vd _)
theorem N_{X:Cx}{a b:Expr}{ta tb:x4}{pos:Pos}(hu:X.A.units+128<cLine)(ha:QE X a ta)(hb:QE X b tb):QT X (.Compare a [.NotEq] [b] pos) (yB (zm (rC true) ta tb)):=vq (yj X.K X.prog X.w hu) ha hb (vd _)
theorem S_{X:Cx}{x:Str}{e:Expr}{te:x4}{pos pos':Pos}(i:Nat)(hN:X.N.Nodup)(h:QE X e te)(hix:X.N[i]?=some x:=by rfl)(hx:um X.env.scope x:=by exact Or.inl rfl)(hsw:swapsWith e (some (.Name x pos')) pos.line X.env=pure false:=by rfl)(hfn:X.fn x=true\/X.env.scope.names.lookup x=some .local:=by first | exact .inl rfl | exact .inr rfl | assumption):QS X (.Assign [.Name x pos'] e pos) (z8 te (qc i)):=cA (i:=i) hN hix hx h hsw hfn
theorem G_{X:Cx}{x:Str}{pos:Pos}(i:Nat)(hN:X.N.Nodup)(hix:X.N[i]?=some x:=by rfl)(hx:um X.env.scope x:=by exact Or.inl rfl)(hfn:X.fn x=true\/X.env.scope.names.lookup x=some .local:=by first | exact .inl rfl | exact .inr rfl | assumption):QG X (.Name x pos) (qc i):=eJ (i:=i) hN hix hx hfn
theorem C_{X:Cx}{e:Expr}{es:List Expr}{tr:dN}{pos p:Pos}{j k:Nat}{x:Str}{ps:List Str}{sp:jc}(c:ah8 X.prog X.w X.K X.mg X.base j x ps sp)(hr:v3 k X.A)(ha:QA X (e::es) tr)(hj:j≤k:=by first | decide | exact Am _ | exact AM (by decide) (Nat.le_add_left _ _))(hg:Gl X x:=by rfl)(hdb:Dl x:=by decide)(he:Dj e es X:=by rfl)(hpl:Dk pos es X:=by rfl):QE X (.Call (.Name x p) (e::es) [] pos) (qw sp tr):=an5 (Cal.mono c hj) hr hg ha hdb he hpl
theorem J_{X:Cx}{x:Str}{n:Int}{k:Nat}{p q pos:Pos}(i:Nat)(hN:X.N[i]?=some x:=by rfl)(hv:Vis X.env.scope x:=by first | exact Or.inl rfl | exact Or.inr (Or.inl rfl) | exact Or.inr (Or.inr rfl))(hd:Dl x:=by decide)(hc:Dm x:=by decide):QE X (.Subscript (.Name x p) (.Constant (.int n) k q) pos) (zm bM (qa i) (yC (.int n))):=I_ (qv i hN hv hd hc) qj (fun _ _=>rfl)
theorem L_{X:Cx}{e:Expr}{t:x4}{p pos:Pos}(hm:X.mg "len" = none)(h:QE X e t)(s:starEach [e] X.env=[(false,eval e X.env)]:=by rfl)(hg:Gl X "len" := by rfl):QE X (.Call (.Name "len" p) [e] [] pos) (lK eK (qh t qz)):=aV (agp X.K X.prog X.w) hg hm yt (jz h s) (hs:=s)
theorem o7{l:List Str}(h:decide l.Nodup=true:=by kernel_rfl):l.Nodup:=of_decide_eq_true h
abbrev c1(V:V_):Prop:=c0 V/\Q_ V 1 "is_leaf" ["word"] (w6)
theorem d1(V:V_)(B:B_ V)(c:c0 V):c1 V:=⟨c,M_ V 0 ["word"] B.hp B.D0 sv fun _ _ _ _ _ _ _ hr hN hu=>(qf (qt (a8 (aju _ _ _) (J_ 0) (zD B.k_LEAF_KINDS rfl) (by with_unfolding_all rfl))))⟩
abbrev c2(V:V_):Prop:=c1 V/\Q_ V 65 "turned" ["word"] (aP 63)
theorem d2(V:V_)(B:B_ V)(c:c1 V):c2 V:=⟨c,R_ V 2 ["word", "kind"] B.hp B.D1 wB uh (fun _ _ c_turned _ _ _ _ _ _ hr hN hu=>(q9 (S_ 1 hN (I_ (zD B.k_TURNED_KINDS rfl) (J_ 0))) (q9 (jm (kg (C_ c.2 hr (jz (qv 0)))) (qf (qt (zx (aD (qv 1) (J_ 0))))) zk) (qf (qt (zx (g8 (qv 1) (C_ c_turned hr (jz (J_ 0))) (C_ c_turned hr (jz (J_ 0)))))))))) 63⟩
abbrev c3(V:V_):Prop:=c2 V/\Q_ V 65 "leaves_of" ["word"] (ku 63)
theorem d3(V:V_)(B:B_ V)(c:c2 V):c3 V:=⟨c,R_ V 2 ["word"] B.hp B.D2 nW o3 (fun _ _ c_leaves_of _ _ _ _ _ _ hr hN hu=>(q9 (jm (kg (C_ c.1.2 hr (jz (qv 0)))) (qf (qt (zq (jz (qv 0))))) zk) (qf (qt (qp jo (C_ c_leaves_of hr (jz (J_ 0))) (C_ c_leaves_of hr (jz (J_ 0)))))))) 63⟩
abbrev c4(V:V_):Prop:=c3 V/\Q_ V 62 "lay_word" ["knots", "word"] (x9 60)
theorem d4(V:V_)(B:B_ V)(c:c3 V):c4 V:=⟨c,R_ V 2 ["knots", "word", "left", "right"] B.hp B.D3 gg pU (fun _ _ c_lay_word _ _ _ _ _ _ hr hN hu=>(ax (jm (kg (C_ c.1.1.2 hr (jz (qv 1)))) (qf (zj (ze (qv 0) (jz (qv 1))))) (q9 (S_ 2 hN (C_ c_lay_word hr (aD (qv 0) (J_ 1)))) (q9 (S_ 3 hN (C_ c_lay_word hr (aD (qv 0) (J_ 1)))) (qf (zj (ze (qv 0) (jz (zx (g8 (J_ 1) (qv 2) (qv 3)))))))))) (qf (qt (qp gt (L_ B.ba (qv 0)) qj))))) 60⟩
abbrev c5(V:V_):Prop:=c4 V/\Q_ V 63 "laid" ["words"] (iQ)
theorem d5(V:V_)(B:B_ V)(c:c4 V):c5 V:=⟨c,M_ V 62 ["words", "knots", "places", "word"] B.hp B.D4 ab5 fun _ _ _ _ _ _ _ hr hN hu=>(q9 (S_ 1 hN (zq x6)) (q9 (S_ 2 hN (zq x6)) (q9 (xi PassesOwn.never rfl (j6 (qv 0)) (G_ 3 hN) (qf (zj (ze (qv 2) (jz (C_ c.2 hr (aD (qv 1) (qv 3)))))))) (qf (qt (zx (aD (qv 1) (qv 2))))))))⟩
abbrev c6(V:V_):Prop:=c5 V/\wZ V.P V.w V.K V.mg V.base 2 V.Ca ["self", "count"] (i9 V.Ca)
theorem d6(V:V_)(B:B_ V)(c:c5 V):c6 V:=⟨c,by obtain⟨f,fd,F,b,m⟩:=B.D5.use (ps:=["self", "count"]) fun _ _ _ _ _ _ us hl=>match us,hl with | [_,_],_=>rfl;exact⟨_,_,⟨B.mAPieces,m.at_,m.fn,B.mKPieces⟩,⟨_,rfl,W_ V 0 ["self", "count"] F (aa1 B.xf) fun _ _ _ _ _ _ hr hN hu=>(qf (ac5 (qv 0) (di rfl rfl B.bh rfl B.bc (qv 1))))⟩,b⟩⟩
abbrev c7(V:V_):Prop:=c6 V/\vI V.P V.w V.K V.mg V.base 1 V.Ca "head_of" ["self", "place"] (i8 V.Ca)
theorem d7(V:V_)(B:B_ V)(c:c6 V):c7 V:=⟨c,by obtain⟨f,fd,F,b,m⟩:=B.D6.use (ps:=["self", "place"]) fun _ _ _ _ _ _ us hl=>match us,hl with | [_,_],_=>rfl;exact⟨_,_,m,W_ V 0 ["self", "place", "here"] F (ae6 B.xf) fun _ _ _ _ _ _ hr hN hu=>(q9 (S_ 2 hN (qv 1)) (q9 (kU PassesOwn.never (N_ hu (I_ (gL (qv 0)) (qv 2)) (qv 2)) (q9 (nU (gL (qv 0)) (qv 2) (I_ (gL (qv 0)) (I_ (gL (qv 0)) (qv 2)))) (qf (S_ 2 hN (I_ (gL (qv 0)) (qv 2)))))) (qf (qt (qv 2))))),b⟩⟩
abbrev c8(V:V_):Prop:=c7 V/\vI V.P V.w V.K V.mg V.base 2 V.Ca "unite" ["self", "p", "q"] (fC V.Ca)
theorem d8(V:V_)(B:B_ V)(c:c7 V):c8 V:=⟨c,by obtain⟨f,fd,F,b,m⟩:=B.D7.use (ps:=["self", "p", "q"]) fun _ _ _ _ _ _ us hl=>match us,hl with | [_,_,_],_=>rfl;exact⟨_,_,m,W_ V 1 ["self", "p", "q", "first", "second"] F (xR B.xf) fun _ _ _ _ _ _ hr hN hu=>(q9 (S_ 3 hN (uq (c.2.mono (by decide)) hr B.cl_Pieces (qv 0) (jz (qv 1)))) (q9 (S_ 4 hN (uq (c.2.mono (by decide)) hr B.cl_Pieces (qv 0) (jz (qv 2)))) (q9 (nU (gL (qv 0)) (qv 3) (qv 4)) (qf (qt (a8 (yj _ _ _ hu) (qv 3) (qv 4) (vd _))))))),b⟩⟩
abbrev c9(V:V_):Prop:=c8 V/\Q_ V 1 "places_there" ["knots"] (fP)
theorem d9(V:V_)(B:B_ V)(c:c8 V):c9 V:=⟨c,M_ V 0 ["knots"] B.hp B.D8 xV fun _ _ _ _ _ _ _ hr hN hu=>(qf (qt (fW ["place", "knot" ] (DH (by rfl)) rfl (ac rfl B.bb (qv 0)) (i4 rfl o7 (fun _ _ _ _=>rfl) (fun _ _ _ _=>rfl)) (fun _ _ _ _=>cB (iV (qv 2))) (fun _ _ _ _=>(qv 1)))))⟩
abbrev lD(V:V_):Prop:=c9 V/\Q_ V 2 "parts_of" ["knot"] (eQ)
theorem d10(V:V_)(B:B_ V)(c:c9 V):lD V:=⟨c,M_ V 1 ["knot"] B.hp B.D9 xB fun _ _ _ _ _ _ _ hr hN hu=>(q9 (jm (fG (aY (aaa (qv 0)) (cJ (kg (C_ c.1.1.1.1.1.1.1.1.2 hr (jz (qv 0))))))) (qf (qt (zq x6))) zk) (qf (qt (zq (aD (J_ 0) (J_ 0))))))⟩
abbrev fq(V:V_):Prop:=lD V/\Q_ V 1 "places_in" ["pairs"] (n6)
theorem d11(V:V_)(B:B_ V)(c:lD V):fq V:=⟨c,M_ V 0 ["pairs", "places", "p", "q"] B.hp B.D10 abu fun _ _ _ _ _ _ _ hr hN hu=>(q9 (S_ 1 hN (zq x6)) (q9 (xi PassesOwn.never rfl (j6 (qv 0)) (ag rfl (j5 (G_ 2 hN) (j5 (G_ 3 hN) wm))) (q9 (zj (ze (qv 1) (jz (qv 2)))) (qf (zj (ze (qv 1) (jz (qv 3))))))) (qf (qt (qv 1)))))⟩
abbrev o4(V:V_):Prop:=fq V/\Q_ V 1 "eithers_of" ["web"] (ee)
theorem d12(V:V_)(B:B_ V)(c:fq V):o4 V:=⟨c,M_ V 0 ["web"] B.hp B.D11 xU fun _ _ _ _ _ _ _ hr hN hu=>(qf (qt (fW ["place", "knot" ] (DH (by rfl)) rfl (ac rfl B.bb (J_ 0)) (i4 rfl o7 (fun _ _ _ _=>rfl) (fun _ _ _ _=>rfl)) (fun _ _ _ _=>cB (fG (agj (iV (qv 2)) (acp (E_ hu (J_ 2) jh))))) (fun _ _ _ _=>(qv 1)))))⟩
abbrev o8(V:V_):Prop:=o4 V/\Q_ V 2 "boths_of" ["web"] (ik)
theorem d13(V:V_)(B:B_ V)(c:o4 V):o8 V:=⟨c,M_ V 1 ["web"] B.hp B.D12 xC fun _ _ _ _ _ _ _ hr hN hu=>(qf (qt (fW ["place"] (DH (by rfl)) rfl (j6 (C_ c.1.1.1.2 hr (jz (J_ 0)))) (v7 o7 (fun _ _ _ _=>Or.inl rfl) (fun _ _ _ _=>rfl)) (fun _ _ _ _=>cB (E_ hu (I_ (I_ (J_ 0) (qv 1)) qj) jh)) (fun _ _ _ _=>(qv 1)))))⟩
abbrev c14(V:V_):Prop:=o8 V/\Q_ V 3 "part_edges" ["knots", "places"] (fi)
theorem d14(V:V_)(B:B_ V)(c:o8 V):c14 V:=⟨c,M_ V 2 ["knots", "places", "edges", "place"] B.hp B.D13 u0 fun _ _ _ _ _ _ _ hr hN hu=>(q9 (S_ 2 hN (zq x6)) (q9 (xi PassesOwn.never rfl (j6 (qv 1)) (eJ (i:=3) hN rfl (Or.inr rfl)) (qf (zj (mJ (qv 2) (jz (fW ["part"] (DH (by rfl)) rfl (j6 (C_ c.1.1.1.2 hr (jz (I_ (qv 0) (qv 3))))) (v7 o7 (fun _ _ _ _=>Or.inl rfl) (fun _ _ _ _=>rfl)) (fun _ _ _ _=>cT) (fun _ _ _ _=>(zx (aD (qv 3) (qv 4)))))))))) (qf (qt (qv 2)))))⟩
abbrev c15(V:V_):Prop:=c14 V/\Q_ V 4 "joins_of" ["web"] (fB)
theorem d15(V:V_)(B:B_ V)(c:c14 V):c15 V:=⟨c,M_ V 3 ["web"] B.hp B.D14 aad fun _ _ _ _ _ _ _ hr hN hu=>(qf (qt (qp jo (qp jo (J_ 0) (J_ 0)) (C_ c.2 hr (aD (J_ 0) (C_ c.1.2 hr (jz (qv 0))))))))⟩
abbrev c16(V:V_):Prop:=c15 V/\Q_ V 3 "join_steps" ["pieces", "joins"] (fc V.Ca)
theorem d16(V:V_)(B:B_ V)(c:c15 V):c16 V:=⟨c,M_ V 2 ["pieces", "joins", "steps", "p", "q"] B.hp B.D15 u6 fun _ _ _ _ _ _ _ hr hN hu=>(q9 (S_ 2 hN (zq x6)) (q9 (xi PassesOwn.never rfl (j6 (qv 1)) (ag rfl (j5 (G_ 3 hN) (j5 (G_ 4 hN) wm))) (qf (jm (kg (uq (c.1.1.1.1.1.1.1.2.mono (by decide)) hr B.cl_Pieces (qv 0) (aD (qv 3) (qv 4)))) (qf (zj (ze (qv 2) (jz (zx (g8 jh (qv 3) (qv 4))))))) zk))) (qf (qt (qv 2)))))⟩
abbrev c17(V:V_):Prop:=c16 V/\Q_ V 3 "can_fold" ["pieces", "knots", "place"] (jU V.Ca)
theorem d17(V:V_)(B:B_ V)(c:c16 V):c17 V:=⟨c,M_ V 2 ["pieces", "knots", "place", "heads"] B.hp B.D16 zN fun _ _ _ _ _ _ _ hr hN hu=>(q9 (aT ["part"] (i:=3) hN rfl (Or.inl rfl) (DH (by rfl)) rfl (j6 (C_ c.1.1.1.1.1.1.2 hr (jz (I_ (qv 1) (qv 2))))) (v7 o7 (fun _ _ _ _=>Or.inl rfl) (fun _ _ _ _=>rfl)) (fun _ _ _ _=>cT) (fun _ _ _ _=>(uq (c.1.1.1.1.1.1.1.1.1.2.mono (by decide)) hr B.cl_Pieces (qv 0) (jz (qv 4))))) (qf (qt (mv (a8 (mK _ _ _ hu) (J_ 3) (J_ 3) (vd _)) (n8 (a8 (yj _ _ _ hu) (J_ 3) (uq (c.1.1.1.1.1.1.1.1.1.2.mono (by decide)) hr B.cl_Pieces (qv 0) (jz (qv 2))) (vd _)))))))⟩
abbrev c18(V:V_):Prop:=c17 V/\Q_ V 4 "fold_steps" ["pieces", "knots", "eithers"] (gT V.Ca)
theorem d18(V:V_)(B:B_ V)(c:c17 V):c18 V:=⟨c,M_ V 3 ["pieces", "knots", "eithers", "steps", "before", "place"] B.hp B.D17 vR fun _ _ _ _ _ _ _ hr hN hu=>(q9 (S_ 3 hN (zq x6)) (q9 (S_ 4 hN (aji alf qj)) (q9 (kU PassesOwn.never (vq se (qv 4) (L_ B.ba (qv 3)) (vd _)) (q9 (S_ 4 hN (L_ B.ba (qv 3))) (qf (xi PassesOwn.never rfl (j6 (qv 2)) (G_ 5 hN) (qf (jm (kg (C_ c.2 hr (g8 (qv 0) (qv 1) (qv 5)))) (q9 (zj (uq (c.1.1.1.1.1.1.1.1.1.2.mono (by decide)) hr B.cl_Pieces (qv 0) (aD (qv 5) (I_ (I_ (qv 1) (qv 5)) qj)))) (qf (zj (ze (qv 3) (jz (zx (aD jh (qv 5)))))))) zk)))))) (qf (qt (qv 3))))))⟩
abbrev c19(V:V_):Prop:=c18 V/\Q_ V 5 "steps_by" ["knots", "joins", "eithers"] (dh V.Ca)
theorem d19(V:V_)(B:B_ V)(c:c18 V):c19 V:=⟨c,M_ V 4 ["knots", "joins", "eithers", "pieces"] B.hp B.D18 sY fun _ _ _ _ _ _ _ hr hN hu=>(q9 (S_ 3 hN (ajb (c.1.1.1.1.1.1.1.1.1.1.1.1.2.mono (by decide)) hr rfl B.md (jz (L_ B.ba (qv 0))))) (qf (qt (qp jo (C_ c.1.1.2 hr (aD (qv 3) (qv 1))) (C_ c.2 hr (g8 (qv 3) (qv 0) (qv 2)))))))⟩
abbrev c20(V:V_):Prop:=c19 V/\Q_ V 6 "all_come_together" ["knots", "joins", "eithers"] (oP)
theorem d20(V:V_)(B:B_ V)(c:c19 V):c20 V:=⟨c,M_ V 5 ["knots", "joins", "eithers", "due"] B.hp B.D19 ai5 fun _ _ _ _ _ _ _ hr hN hu=>(q9 (S_ 3 hN (qp gt (L_ B.ba (C_ c.1.1.1.1.1.1.1.1.1.1.2 hr (jz (qv 0)))) qj)) (qf (qt (mv (a8 (mK _ _ _ hu) (qp jo (L_ B.ba (qv 1)) (L_ B.ba (qv 2))) (qv 3) (vd _)) (n8 (a8 (mK _ _ _ hu) (L_ B.ba (C_ c.2 hr (g8 (qv 0) (qv 1) (qv 2)))) (qv 3) (vd _)))))))⟩
abbrev c21(V:V_):Prop:=c20 V/\Q_ V 7 "right_web" ["web"] (lC)
theorem d21(V:V_)(B:B_ V)(c:c20 V):c21 V:=⟨c,M_ V 6 ["web"] B.hp B.D20 yw fun _ _ _ _ _ _ _ hr hN hu=>(qf (qt (C_ c.2 hr (g8 (J_ 0) (C_ c.1.1.1.1.1.2 hr (jz (qv 0))) (C_ c.1.1.1.1.1.1.1.1.2 hr (jz (qv 0)))))))⟩
abbrev c22(V:V_):Prop:=c21 V/\Q_ V 8 "first_bad" ["web"] (n5)
theorem d22(V:V_)(B:B_ V)(c:c21 V):c22 V:=⟨c,M_ V 7 ["web", "knots", "joins", "eithers", "choices", "number", "place", "left", "choice"] B.hp B.D21 adj fun _ _ _ _ _ _ _ hr hN hu=>(q9 (jm (kg (C_ c.2 hr (jz (qv 0)))) (qf (qt yY)) zk) (q9 (S_ 1 hN (J_ 0)) (q9 (S_ 2 hN (C_ c.1.1.1.1.1.1.2 hr (jz (qv 0)))) (q9 (S_ 3 hN (C_ c.1.1.1.1.1.1.1.1.1.2 hr (jz (qv 0)))) (q9 (S_ 4 hN (zq x6)) (q9 (xi PassesOwn.never rfl (ac rfl B.bb (qv 3)) (ag rfl (j5 (G_ 5 hN) (j5 (G_ 6 hN) wm))) (q9 (S_ 7 hN (zx (aD (qv 6) (I_ (I_ (qv 1) (qv 6)) qj)))) (q9 (S_ 8 hN (qQ (kg (C_ c.1.2 hr (g8 (qv 1) (qp jo (qv 2) (zq (jz (qv 7)))) (bZ (qE _ _ _) (qv 3) (cz (qp jo (qv 5) qj)) i3)))) qj qj)) (q9 (zj (ze (qv 4) (jz (qv 8)))) (qf (zj (ze (qv 2) (jz (zx (aD (qv 6) (I_ (I_ (qv 1) (qv 6)) (qp jo qj (qv 8))))))))))))) (qf (qt (qv 4)))))))))⟩
abbrev c23(V:V_):Prop:=c22 V/\Q_ V 66 "leaves_in" ["words"] (fO)
theorem d23(V:V_)(B:B_ V)(c:c22 V):c23 V:=⟨c,M_ V 65 ["words", "leaves", "word"] B.hp B.D22 abk fun _ _ _ _ _ _ _ hr hN hu=>(q9 (S_ 1 hN (zq x6)) (q9 (xi PassesOwn.never rfl (j6 (qv 0)) (G_ 2 hN) (qf (zj (mJ (qv 1) (jz (C_ c.1.1.1.1.1.1.1.1.1.1.1.1.1.1.1.1.1.1.1.2 hr (jz (qv 2)))))))) (qf (qt (qv 1)))))⟩
abbrev c24(V:V_):Prop:=c23 V/\Q_ V 66 "first_uneven" ["leaves"] (eB)
theorem d24(V:V_)(B:B_ V)(c:c23 V):c24 V:=⟨c,M_ V 65 ["leaves", "leaf"] B.hp B.D23 acr fun _ _ _ _ _ _ _ hr hN hu=>(q9 (xi PassesOwn.never rfl (j6 (qv 0)) (G_ 1 hN) (qf (jm (N_ hu (oj hu (qv 0) (jz (qv 1))) (oj hu (qv 0) (jz (C_ c.1.1.1.1.1.1.1.1.1.1.1.1.1.1.1.1.1.1.1.1.1.2 hr (jz (qv 1)))))) (qf (qt (J_ 1))) zk))) (qf (qt yY)))⟩
abbrev c25(V:V_):Prop:=c24 V/\Q_ V 67 "tries_due" ["words"] (dH)
theorem d25(V:V_)(B:B_ V)(c:c24 V):c25 V:=⟨c,M_ V 66 ["words", "leaves", "ways", "counts", "kind", "name"] B.hp B.D24 wH fun _ _ _ _ _ _ _ hr hN hu=>(q9 (S_ 1 hN (C_ c.1.2 hr (jz (qv 0)))) (q9 (jm (iV (C_ c.2 hr (jz (qv 1)))) (qf (qt qj)) zk) (q9 (S_ 2 hN qj) (q9 (S_ 3 hN aco) (q9 (xi PassesOwn.never rfl (j6 (qv 1)) (ag rfl (j5 (G_ 4 hN) (j5 (G_ 5 hN) wm))) (qf (jm (E_ hu (qv 4) jh) (q9 (ad5 hu (qv 3) (qv 5) (qp jo (xG hu (qv 3) (qv 5) qj) qj)) (qf (S_ 2 hN (qp cQ (qv 2) (ae7 hu (qv 3) (qv 5) (fun _ _=>rfl)))))) zk))) (qf (qt (qv 2))))))))⟩
abbrev c26(V:V_):Prop:=c25 V/\Q_ V 66 "linked_further" ["knots", "ways", "place"] (dm)
theorem d26(V:V_)(B:B_ V)(c:c25 V):c26 V:=⟨c,M_ V 65 ["knots", "ways", "place", "mates", "longer", "links", "used", "mate"] B.hp B.D25 su fun _ _ _ _ _ _ _ hr hN hu=>(q9 (aT ["other", "knot" ] (i:=3) hN rfl (Or.inl rfl) (DH (by rfl)) rfl (ac rfl B.bb (qv 0)) (i4 rfl o7 (fun _ _ _ _=>rfl) (fun _ _ _ _=>rfl)) (fun _ _ _ _=>cB (E_ hu (qv 9) (C_ c.1.1.1.1.1.1.1.1.1.1.1.1.1.1.1.1.1.1.1.1.1.1.1.2 hr (jz (I_ (qv 0) (qv 2)))))) (fun _ _ _ _=>(qv 8))) (q9 (S_ 4 hN (zq x6)) (q9 (xi PassesOwn.never rfl (j6 (qv 1)) (G_ 5 hN) (q9 (S_ 6 hN (C_ c.1.1.1.1.1.1.1.1.1.1.1.1.1.1.2 hr (jz (qv 5)))) (qf (xi PassesOwn.never rfl (j6 (qv 3)) (G_ 7 hN) (qf (jm (vq (yd _ _ _) (qv 7) (qv 6) (by with_unfolding_all rfl)) (qf (zj (ze (qv 4) (jz (qp jo (qv 5) (zq (jz (zx (aD (aV akp rfl B.bq aff (aD (qv 2) (qv 7))) (aV ala rfl B.bp afy (aD (qv 2) (qv 7)))))))))))) zk)))))) (qf (qt (qv 4))))))⟩
abbrev c27(V:V_):Prop:=c26 V/\Q_ V 67 "ways_to_link" ["knots"] (oU)
theorem d27(V:V_)(B:B_ V)(c:c26 V):c27 V:=⟨c,M_ V 66 ["knots", "ways", "place", "knot"] B.hp B.D26 ad1 fun _ _ _ _ _ _ _ hr hN hu=>(q9 (S_ 1 hN (zq (jz (zq x6)))) (q9 (xi PassesOwn.never rfl (ac rfl B.bb (qv 0)) (ag rfl (j5 (G_ 2 hN) (j5 (G_ 3 hN) wm))) (qf (jm (E_ hu (J_ 3) jh) (qf (S_ 1 hN (C_ c.2 hr (g8 (qv 0) (qv 1) (qv 2))))) zk))) (qf (qt (fW ["links"] (DH (by rfl)) rfl (j6 (qv 1)) (v7 o7 (fun _ _ _ _=>Or.inl rfl) (fun _ _ _ _=>rfl)) (fun _ _ _ _=>cT) (fun _ _ _ _=>(aV uB rfl B.bi gE (jz (qv 4)))))))))⟩
abbrev c28(V:V_):Prop:=c27 V/\Q_ V 68 "linked_or_tried" ["knots"] (mw)
theorem d28(V:V_)(B:B_ V)(c:c27 V):c28 V:=⟨c,M_ V 67 ["knots", "tried", "links", "web", "choices"] B.hp B.D27 ah2 fun _ _ _ _ _ _ _ hr hN hu=>(q9 (S_ 1 hN (zq x6)) (q9 (xi PassesOwn.never rfl (j6 (C_ c.2 hr (jz (qv 0)))) (G_ 2 hN) (q9 (S_ 3 hN (zx (g8 (qv 0) (qv 2) (zq x6)))) (q9 (S_ 4 hN (C_ c.1.1.1.1.1.2 hr (jz (qv 3)))) (q9 (jm (aaa (qv 4)) (qf (qt (zx (aD jh (qv 3))))) zk) (qf (zj (ze (qv 1) (jz (zx (aD (qv 2) (qv 4))))))))))) (qf (qt (zx (aD jh (qv 1)))))))⟩
abbrev c29(V:V_):Prop:=c28 V/\fz V.P V.w V.K V.mg V.base 69 "searched" ["words", "most"] 120 "most" (bE V.Cb)
theorem d29(V:V_)(B:B_ V)(c:c28 V):c29 V:=⟨c,XD_ V 68 ["words", "most", "leaves", "name", "knots", "boths"] (t:=(fun E3=>jX V.Cb E3 (fO) (eB) (iQ) (dH) (mw))) B.hp B.D28 oX fun _ _ _ _ _ _ _ _ hr ht hN hu=>(q9 (S_ 2 hN (C_ c.1.1.1.1.1.2 hr (jz (qv 0)))) (q9 (S_ 3 hN (C_ c.1.1.1.1.2 hr (jz (qv 2)))) (q9 (jm (iV (qv 3)) (qf (qt (zx (aD jh (qv 3))))) zk) (q9 (S_ 4 hN (I_ (C_ c.1.1.1.1.1.1.1.1.1.1.1.1.1.1.1.1.1.1.1.1.1.1.1.2 hr (jz (qv 0))) qj)) (q9 (S_ 5 hN (L_ B.ba (fW ["knot"] (DH (by rfl)) rfl (j6 (qv 4)) (v7 o7 (fun _ _ _ _=>Or.inl rfl) (fun _ _ _ _=>rfl)) (fun _ _ _ _=>cB (E_ hu (J_ 6) jh)) (fun _ _ _ _=>(qv 6))))) (q9 (jm (N_ hu (L_ B.ba (qv 2)) (qp jo (qp cQ qj (qv 5)) qj)) (qf (qt (zx (g8 jh (L_ B.ba (qv 2)) (qv 5))))) zk) (q9 (jm (vq afm (C_ c.1.1.1.2 hr (jz (qv 0))) (qv 1) (vd _)) (qf (yH B.x_TooMany rfl B.me rfl ht rfl (jz jh))) zk) (qf (qt (C_ c.2 hr (jz (qv 4))))))))))))⟩
abbrev c30(V:V_):Prop:=c29 V/\Q_ V 1 "_law_mix" [nC, nh, "_law_factor"] (oQ)
theorem d30(V:V_)(B:B_ V)(c:c29 V):c30 V:=⟨c,M_ V 0 [nC, nh, "_law_factor"] B.hp B.D29 ahr fun _ _ _ _ _ _ _ hr hN hu=>(qf (qt (qp wc (qp vz (qp cQ (qp jo (qp jo (qp cQ (qp vz (qv 0) qj) qj) (qp cQ (qv 1) (qv 1))) qj) (qv 2)) qj) qj)))⟩
abbrev c31(V:V_):Prop:=c30 V/\Q_ V 1 "_law_name" [nt, "_law_which"] (jQ)
theorem d31(V:V_)(B:B_ V)(c:c30 V):c31 V:=⟨c,M_ V 0 [nt, "_law_which", "_law_letters", "_law_size", "_law_place", "_law_base", "_law_sign"] B.hp B.D30 y7 fun _ _ _ _ _ _ _ hr hN hu=>(q9 (cA (i:=2) hN rfl (Or.inr rfl) jh) (q9 (S_ 3 hN (qp jo qj (qp vz (qv 0) qj))) (q9 (S_ 4 hN (qp vz (qp wc (qv 0) qj) (qv 3))) (q9 (S_ 5 hN (adb jh (jz (fW [nh] (DH (by rfl)) rfl (ao rfl B.bc (jz qj)) (v7 o7 (fun _ _ _ _=>Or.inl rfl) (fun _ _ _ _=>rfl)) (fun _ _ _ _=>cT) (fun _ _ _ _=>(I_ (qv 2) (qp vz (qp jo (qp wc (qv 0) qj) (qp cQ qj (qv 7))) qj))))))) (q9 (jm (E_ hu (qp vz (qp wc (qv 0) qj) qj) qj) (qf (qt (bZ (qE _ _ _) (qv 5) i3 (cz (qp jo qj (qp vz (qp jo (qv 1) (qv 0)) qj)))))) zk) (q9 (S_ 6 hN (I_ (qv 2) (qp vz (qp jo (qp jo (qp wc (qv 0) qj) (qp cQ qj (qv 4))) (qv 1)) qj))) (qf (qt (qp jo (qp jo (bZ (qE _ _ _) (qv 5) i3 (cz (qv 4))) (qv 6)) (bZ (qE _ _ _) (qv 5) (cz (qp jo (qv 4) qj)) (cz (qv 3))))))))))))⟩
abbrev c32(V:V_):Prop:=c31 V/\Q_ V 121 "_law_word" [ng, "_law_p"] (wf 120)
theorem d32(V:V_)(B:B_ V)(c:c31 V):c32 V:=⟨c,R_ V 1 [ng, "_law_p", "_law_knot"] B.hp B.D31 mf qF (fun _ _ c__law_word _ _ _ _ _ _ hr hN hu=>(q9 (S_ 2 hN (I_ (qv 0) (qv 1))) (q9 (jm (E_ hu (L_ B.ba (qv 2)) qj) (qf (qt (qv 2))) zk) (qf (qt (zx (g8 (J_ 2) (C_ c__law_word hr (aD (qv 0) (J_ 2))) (C_ c__law_word hr (aD (qv 0) (J_ 2)))))))))) 120⟩
abbrev c33(V:V_):Prop:=c32 V/\Q_ V 1 "_law_join" [ng, "_law_forest", nj, nl] (mz)
theorem d33(V:V_)(B:B_ V)(c:c32 V):c33 V:=⟨c,M_ V 0 [ng, "_law_forest", nj, nl, "_law_first", "_law_second", nE, nv, "_law_ends"] B.hp B.D32 adq fun _ _ _ _ _ _ _ hr hN hu=>(q9 (S_ 4 hN (eO (qv 1) (jz (qp vz (qv 3) (L_ B.ba (qv 1)))))) (q9 (S_ 5 hN (eO (qv 1) (jz (qp vz (qv 2) (L_ B.ba (qv 1)))))) (q9 (cA (i:=6) hN rfl (Or.inr rfl) (I_ (J_ 4) (qp vz (qp wc (qv 3) qj) (L_ B.ba (J_ 4))))) (q9 (cA (i:=7) hN rfl (Or.inr rfl) (I_ (J_ 5) (qp vz (qp wc (qv 2) qj) (L_ B.ba (J_ 5))))) (q9 (zj (ze (qv 0) (jz (zx (g8 jh (qv 6) (qv 7)))))) (q9 (aT ["_law_p"] (i:=8) hN rfl (Or.inl rfl) (DH (by rfl)) rfl (j6 (qp jo (J_ 4) (J_ 5))) (v7 o7 (fun _ _ _ _=>Or.inl rfl) (fun _ _ _ _=>rfl)) (fun _ _ _ _=>cB (vq (yd _ _ _) (qv 9) (zx (aD (qv 6) (qv 7))) (by with_unfolding_all rfl))) (fun _ _ _ _=>(qv 9))) (qf (zj (ze (qv 1) (jz (zq (aD (zx (bF jh (g8 (qp gt (L_ B.ba (qv 0)) qj) (J_ 4) (J_ 5)))) (qp jo (qv 8) (zq (jz (qp gt (L_ B.ba (qv 0)) qj))))))))))))))))⟩
abbrev c34(V:V_):Prop:=c33 V/\Q_ V 1 "_law_fold" [ng, "_law_tree_here", nj, nl] (lG)
theorem d34(V:V_)(B:B_ V)(c:c33 V):c34 V:=⟨c,M_ V 0 [ng, "_law_tree_here", nj, nl, nE, nv] B.hp B.D33 zY fun _ _ _ _ _ _ _ hr hN hu=>(q9 (jm (vq se (L_ B.ba (J_ 1)) qj (vd _)) (qf abf) zk) (q9 (S_ 4 hN (eO (J_ 1) (jz (qp vz (qv 3) (L_ B.ba (J_ 1)))))) (q9 (S_ 5 hN (eO (J_ 1) (jz (qp vz (qv 2) (L_ B.ba (J_ 1)))))) (q9 (zj (ze (qv 0) (jz (zx (g8 jh (qv 4) (qv 5)))))) (q9 (nU (qv 1) qj (zx (g8 jh (qp gt (L_ B.ba (qv 0)) qj) (J_ 1)))) (qf (zj (ze (J_ 1) (jz (qp gt (L_ B.ba (qv 0)) qj))))))))))⟩
abbrev c35(V:V_):Prop:=c34 V/\Q_ V 2 "_law_tree" ["_law_cells", nt, "_law_room"] (gW)
theorem d35(V:V_)(B:B_ V)(c:c34 V):c35 V:=⟨c,M_ V 1 ["_law_cells", nt, "_law_room", ng, "_law_forest", nq, nh, nC, nj, nl, "_law_deed", "_law_at", "_law_name_here", "_law_sides"] B.hp B.D34 uV fun _ _ _ _ _ _ _ hr hN hu=>(q9 (S_ 3 hN (zq x6)) (q9 (S_ 4 hN (zq x6)) (q9 (S_ 5 hN qj) (q9 (xi PassesOwn.never rfl (ac rfl B.bb (qv 0)) (ag rfl (j5 (G_ 6 hN) (j5 (G_ 7 hN) wm))) (q9 (zH (i:=8) (j:=9) rfl hN rfl rfl (by decide) rfl rfl (aD (C_ c.1.1.1.1.2 hr (g8 (qv 7) (qv 6) qj)) (C_ c.1.1.1.1.2 hr (g8 (qv 7) (qv 6) qj))) rfl) (q9 (jm (vq afm (qp jo (qp jo (L_ B.ba (qv 3)) (L_ B.ba (qv 4))) qj) (qv 2) (vd _)) (qf pH) zk) (q9 (S_ 10 hN (qp vz (qv 8) qj)) (q9 (S_ 8 hN (qp wc (qv 8) qj)) (qf (jm (fG (aY (vq se (qv 10) qj (vd _)) (cJ (E_ hu (qv 4) (zq x6))))) (q9 (S_ 11 hN (L_ B.ba (qv 3))) (q9 (S_ 12 hN (C_ c.1.1.1.2 hr (aD (qv 1) (qp wc (qv 5) qj)))) (q9 (S_ 13 hN (zq (aD (zx (aD jh (qv 12))) (zx (aD jh (qv 12)))))) (q9 (zj (ze (qv 3) (jz (I_ (qv 13) (qp vz (qv 8) qj))))) (q9 (zj (ze (qv 3) (jz (I_ (qv 13) (qp gt qj (qp vz (qv 8) qj)))))) (q9 (zj (ze (qv 4) (jz (zq (aD (zx (g8 jh (qv 11) (qp jo (qv 11) qj))) (zq (aD (qv 11) (qp jo (qv 11) qj)))))))) (qf (yn (i:=5) hN rfl (Or.inl rfl) qj yT)))))))) (qf (jm (fG (aY (vq se (qv 10) qj (vd _)) (cJ (vq se (L_ B.ba (qv 4)) qj (vd _))))) (qf (zj (C_ c.2 hr (bF (qv 3) (g8 (I_ (qv 4) (qp vz (qv 9) (L_ B.ba (qv 4)))) (qv 8) (qp wc (qv 9) qj)))))) (qf (zj (C_ c.1.2 hr (bF (qv 3) (g8 (qv 4) (qv 8) (qv 9))))))))))))))) (ax (jm (E_ hu (qv 4) (zq x6)) (q9 (zj (ze (qv 3) (jz (zx (aD jh (C_ c.1.1.1.2 hr (aD (qv 1) qj))))))) (q9 (zj (ze (qv 3) (jz (zx (aD jh (C_ c.1.1.1.2 hr (aD (qv 1) qj))))))) (qf (zj (ze (qv 4) (jz (zq (aD (zx (g8 jh qj qj)) (zq (aD qj qj)))))))))) zk) (q9 (kU PassesOwn.never (vq afm (L_ B.ba (qv 4)) qj (vd _)) (qf (zj (C_ c.1.2 hr (bF (qv 3) (g8 (qv 4) (qp jo (qp wc (qv 1) qj) (L_ B.ba (qv 4))) (qp wc (qv 1) qj))))))) (qf (qt (zx (aD (qv 3) (I_ (J_ 4) qj)))))))))))⟩
abbrev c36(V:V_):Prop:=c35 V/\Q_ V 1 "_law_whole" ["_law_found"] (ig)
theorem d36(V:V_)(B:B_ V)(c:c35 V):c36 V:=⟨c,M_ V 0 ["_law_found"] B.hp B.D35 yD fun _ _ _ _ _ _ _ hr hN hu=>(qf (qt (mv (dD .int rfl B.bg rfl B.br aic (qv 0)) (n8 (agc (dD .bool rfl B.bg rfl B.bv acx (qv 0)))))))⟩
abbrev c37(V:V_):Prop:=c36 V/\Q_ V 101 "_law_lay" [ng, nz] (x9 100)
theorem d37(V:V_)(B:B_ V)(c:c36 V):c37 V:=⟨c,R_ V 1 [ng, nz, nE, nv] B.hp B.D36 gg acn (fun _ _ c__law_lay _ _ _ _ _ _ hr hN hu=>(ax (jm (E_ hu (L_ B.ba (qv 1)) qj) (qf (zj (ze (qv 0) (jz (qv 1))))) (q9 (S_ 2 hN (C_ c__law_lay hr (aD (qv 0) (J_ 1)))) (q9 (S_ 3 hN (C_ c__law_lay hr (aD (qv 0) (J_ 1)))) (qf (zj (ze (qv 0) (jz (zx (g8 (J_ 1) (qv 2) (qv 3)))))))))) (qf (qt (qp gt (L_ B.ba (qv 0)) qj))))) 100⟩
abbrev c38(V:V_):Prop:=c37 V/\Q_ V 102 "_law_laid" ["_law_words"] (kQ)
theorem d38(V:V_)(B:B_ V)(c:c37 V):c38 V:=⟨c,M_ V 101 ["_law_words", ng, nz] B.hp B.D37 xD fun _ _ _ _ _ _ _ hr hN hu=>(q9 (S_ 1 hN (zq x6)) (q9 (xi PassesOwn.never rfl (j6 (qv 0)) (G_ 2 hN) (qf (zj (C_ c.2 hr (aD (qv 1) (qv 2)))))) (qf (qt (qv 1)))))⟩
abbrev c39(V:V_):Prop:=c38 V/\Q_ V 1 "_law_pieces" [ng, nq, "_law_choices"] (gR)
theorem d39(V:V_)(B:B_ V)(c:c38 V):c39 V:=⟨c,M_ V 0 [ng, nq, "_law_choices", "_law_mark", "_law_edges", "_law_at", "_law_r", "_law_knot", nj, nl, "_law_low", "_law_high"] B.hp B.D38 vL fun _ _ _ _ _ _ _ hr hN hu=>(q9 (S_ 3 hN (di rfl rfl B.bh rfl B.bc (L_ B.ba (qv 0)))) (q9 (S_ 4 hN (pD rB rfl B.bh iT (jz (qv 1)))) (q9 (S_ 5 hN qj) (q9 (xi PassesOwn.never rfl (ac rfl B.bb (qv 0)) (ag rfl (j5 (G_ 6 hN) (j5 (G_ 7 hN) wm))) (ax (jm (E_ hu (J_ 7) jh) (qf (S_ 4 hN (qp jo (qv 4) (zq (aD (zx (aD (qv 6) (J_ 7))) (zx (aD (qv 6) (J_ 7)))))))) zk) (qf (jm (E_ hu (J_ 7) jh) (q9 (zj (ze (qv 4) (jz (zx (aD (qv 6) (I_ (qv 7) (qp jo qj (I_ (qv 2) (qv 5))))))))) (qf (yn (i:=5) hN rfl (Or.inl rfl) qj yT))) zk)))) (q9 (xi PassesOwn.never rfl (j6 (qv 4)) (ag rfl (j5 (G_ 8 hN) (j5 (G_ 9 hN) wm))) (q9 (y8 (zx (aD (I_ (qv 3) (qv 8)) (I_ (qv 3) (qv 9)))) (ag rfl (j5 (eJ (i:=10) hN rfl (Or.inr rfl)) (j5 (eJ (i:=11) hN rfl (Or.inr rfl)) wm)))) (qf (aT ["_law_x"] (i:=3) hN rfl (Or.inl rfl) (DH (by rfl)) rfl (j6 (qv 3)) (v7 o7 (fun _ _ _ _=>Or.inl rfl) (fun _ _ _ _=>rfl)) (fun _ _ _ _=>cT) (fun _ _ _ _=>(qQ (E_ hu (qv 12) (qv 11)) (qv 10) (qv 12))))))) (qf (qt (ul rfl rfl B.ba rfl B.bu (qv 3)))))))))⟩
abbrev c40(V:V_):Prop:=c39 V/\Q_ V 1 "_law_bits" ["_law_number", "_law_many"] (m7)
theorem d40(V:V_)(B:B_ V)(c:c39 V):c40 V:=⟨c,M_ V 0 ["_law_number", "_law_many", "_law_bits_here", nh] B.hp B.D39 abj fun _ _ _ _ _ _ _ hr hN hu=>(q9 (S_ 2 hN (zq x6)) (q9 (xi PassesOwn.never rfl (ao rfl B.bc (jz (qv 1))) (G_ 3 hN) (q9 (S_ 2 hN (qp jo (zq (jz (qp vz (qv 0) qj))) (qv 2))) (qf (S_ 0 hN (qp wc (qv 0) qj))))) (qf (qt (qv 2)))))⟩
abbrev c41(V:V_):Prop:=c40 V/\Q_ V 2 "_law_linked" [ng, nq] (gH)
theorem d41(V:V_)(B:B_ V)(c:c40 V):c41 V:=⟨c,M_ V 1 [ng, nq, "_law_seen", "_law_link", nE, nv, "_law_leaves"] B.hp B.D40 u9 fun _ _ _ _ _ _ _ hr hN hu=>(q9 (jm (cI (kg (dD .list rfl B.bg rfl B.bh iT (qv 1)))) (qf (qt dz)) zk) (q9 (S_ 2 hN (zq x6)) (q9 (xi PassesOwn.never rfl (j6 (qv 1)) (G_ 3 hN) (q9 (jm (fG (aY (cI (kg (dD .tuple rfl B.bg rfl B.bj kY (qv 3)))) (aY (N_ hu (L_ B.ba (qv 3)) qj) (aY (cI (kg (C_ c.1.1.1.1.2 hr (jz (J_ 3))))) (cJ (cI (kg (C_ c.1.1.1.1.2 hr (jz (J_ 3)))))))))) (qf (qt dz)) zk) (q9 (jm (cI (aag qj (l7 al9 (J_ 3) (l7 se (J_ 3) (vQ se (L_ B.ba (qv 0))))))) (qf (qt dz)) zk) (q9 (zH (i:=4) (j:=5) rfl hN rfl rfl (by decide) rfl rfl (aD (I_ (qv 0) (J_ 3)) (I_ (qv 0) (J_ 3))) rfl) (q9 (jm (fG (aY (N_ hu (L_ B.ba (qv 4)) qj) (aY (N_ hu (L_ B.ba (qv 5)) qj) (aY (E_ hu (J_ 4) (J_ 5)) (cJ (N_ hu (J_ 4) (J_ 5))))))) (qf (qt dz)) zk) (qf (S_ 2 hN (qp jo (qv 2) (zq (aD (J_ 3) (J_ 3))))))))))) (q9 (aT [nh] (i:=6) hN rfl (Or.inl rfl) (DH (by rfl)) rfl (ao rfl B.bc (jz (L_ B.ba (qv 0)))) (v7 o7 (fun _ _ _ _=>Or.inl rfl) (fun _ _ _ _=>rfl)) (fun _ _ _ _=>cB (E_ hu (L_ B.ba (I_ (qv 0) (qv 7))) qj)) (fun _ _ _ _=>(qv 7))) (qf (qt (mv (a8 (mK _ _ _ hu) (aV acw rfl B.bi gE (jz (qv 2))) (qv 6) (vd _)) (n8 (a8 (mK _ _ _ hu) (qv 1) (aV uB rfl B.bi gE (jz (qv 1))) (vd _))))))))))⟩
theorem dL(V:V_)(B:B_ V)(c:c41 V){f:Addr}{fd:FuncData}(F:Fun V.K "law" "law" pS f fd):Fn3 V.P V.w V.K V.mg V.base 122 f fd [nu] (rQ):=
 W_ V 121 [nu, nt, "_law_cells", ng, "_law_ends", "_law_words", "_law_asked", "_law_found", "_law_web", "_law_many", "_law_lists", nh, "_law_total", "_law_numbers", "_law_number"] F aa8 fun _ _ _ _ _ _ hr hN hu=>(q9 (S_ 1 hN (qp vz (I_ (qp (aga _ _ _) (qv 0) (zq (jz qj))) qj) (qp ak5 qj qj))) (q9 (S_ 2 hN (bZ (qE _ _ _) (qv 0) i3 (cz qj))) (q9 (y8 (C_ c.1.1.1.1.1.1.2 hr (g8 (qv 2) (qv 1) qj)) (ag rfl (j5 (eJ (i:=3) hN rfl (Or.inr rfl)) (j5 (G_ 4 hN) wm)))) (q9 (aT ["_law_p"] (i:=5) hN rfl (Or.inl rfl) (DH (by rfl)) rfl (j6 (qv 4)) (v7 o7 (fun _ _ _ _=>Or.inl rfl) (fun _ _ _ _=>rfl)) (fun _ _ _ _=>cT) (fun _ _ _ _=>(C_ c.1.1.1.1.1.1.1.1.1.2 hr (aD (qv 3) (qv 15))))) (q9 (S_ 6 hN (pD rB rfl B.bh iT (jz (qv 5)))) (q9 (S_ 7 hN (aim (c.1.1.1.1.1.1.1.1.1.1.1.1.2.mono (by decide)) hr rfl agd rfl (jz (qv 6)))) (q9 (jm (fG (aY (N_ hu (qv 6) (qv 5)) (aY (cI (kg (dD .tuple rfl B.bg rfl B.bj kY (qv 7)))) (aY (N_ hu (L_ B.ba (qv 7)) qj) (cJ (N_ hu (J_ 7) jh)))))) (qf (qt dz)) zk) (q9 (S_ 8 hN (J_ 7)) (q9 (cA (i:=3) hN rfl (Or.inr rfl) (C_ c.1.1.1.2 hr (jz (qv 5)))) (q9 (jm (fG (aY (cI (kg (dD .tuple rfl B.bg rfl B.bj kY (qv 8)))) (aY (N_ hu (L_ B.ba (qv 8)) qj) (cJ (N_ hu (J_ 8) (qv 3)))))) (qf (qt dz)) zk) (q9 (jm (fG (aY (cI (kg (C_ c.2 hr (aD (qv 3) (J_ 8))))) (cJ (N_ hu (J_ 8) (zq x6))))) (qf (qt dz)) zk) (q9 (S_ 9 hN (L_ B.ba (fW ["_law_knot"] (DH (by rfl)) rfl (j6 (qv 3)) (v7 o7 (fun _ _ _ _=>Or.inl rfl) (fun _ _ _ _=>rfl)) (fun _ _ _ _=>cB (E_ hu (J_ 15) jh)) (fun _ _ _ _=>(qv 15))))) (q9 (cA (i:=10) hN rfl (Or.inr rfl) qj) (q9 (xi PassesOwn.never rfl (ao rfl B.bc (jz (qv 9))) (G_ 11 hN) (qf (cA (i:=10) hN rfl (Or.inr rfl) (qp cQ qj (qv 10))))) (q9 (tS "_law_k'" (cA (i:=12) o7 rfl (Or.inr rfl) (aV al5 rfl B.bn ah5 (jz (fW [nh, nC ] (DH (by rfl)) rfl (ac rfl B.bb (qv 2)) (i4 rfl o7 (fun _ _ _ _=>rfl) (fun _ _ _ _=>rfl)) (fun _ _ _ _=>cT) (fun _ _ _ _=>(C_ c.1.1.1.1.1.1.1.1.1.1.1.2 hr (g8 (qv 16) (qv 15) qj)))))))) (q9 (tS "_law_k'" (aT [nh] (i:=13) o7 rfl (Or.inl rfl) (DH (by rfl)) rfl (ao rfl B.bc (jz qj)) (v7 o7 (fun _ _ _ _=>Or.inl rfl) (fun _ _ _ _=>rfl)) (fun _ _ _ _=>cT) (fun _ _ _ _=>(qp vz (qp cQ (qp jo (qv 12) (qp cQ (qp cQ (qv 15) (qv 15)) qj)) qj) (qv 10))))) (ax (jm (vq al9 (qv 9) qj (vd _)) (qf (S_ 13 hN (di rfl rfl B.bh rfl B.bc (qv 10)))) zk) (q9 (xi PassesOwn.never rfl (j6 (qv 13)) (G_ 14 hN) (qf (jm (N_ hu (C_ c.1.1.2 hr (g8 (qv 3) (J_ 8) (C_ c.1.2 hr (aD (qv 14) (qv 9))))) qj) (qf (qt dz)) zk))) (qf (qt dz))))))))))))))))))))
theorem all_mk{l:PySem.W.OpenLaw}{w:World}{K:Ac}{h:Heap}{mg:Str->Option Value}{fa:Addr}{a_LEAF_KINDS:Addr}{o_LEAF_KINDS:Option Addr}{n_LEAF_KINDS:Nat}{l_LEAF_KINDS:Array (Option Value)}{t_LEAF_KINDS0 t_LEAF_KINDS1:Tok}{a_TURNED_KINDS:Addr}{e_TURNED_KINDS:Nat}{t_TURNED_KINDS0 t_TURNED_KINDS1 t_TURNED_KINDS2 t_TURNED_KINDS3 u_TURNED_KINDS0 u_TURNED_KINDS1 u_TURNED_KINDS2 u_TURNED_KINDS3:Tok}{Ca:Addr}{Cb:Addr}(X:K.In h)(G:h.Ns mainGlobals mg)(hfa:mg "law" = some (.ref fa))
 (D0:qq K "is_leaf" lc)
 (D1:qq K "turned" qB)
 (D2:qq K "leaves_of" gr)
 (D3:qq K "lay_word" kZ)
 (D4:qq K "laid" yR)
 (D5:bG K Ca "__init__" "Pieces.__init__" dc)
 (D6:bG K Ca "head_of" "Pieces.head_of" aw)
 (D7:bG K Ca "unite" "Pieces.unite" be)
 (D8:qq K "places_there" cH)
 (D9:qq K "parts_of" kR)
 (D10:qq K "places_in" iH)
 (D11:qq K "eithers_of" fD)
 (D12:qq K "boths_of" jC)
 (D13:qq K "part_edges" e9)
 (D14:qq K "joins_of" jG)
 (D15:qq K "join_steps" f6)
 (D16:qq K "can_fold" jI)
 (D17:qq K "fold_steps" fH)
 (D18:qq K "steps_by" jN)
 (D19:qq K "all_come_together" aI)
 (D20:qq K "right_web" hU)
 (D21:qq K "first_bad" gy)
 (D22:qq K "leaves_in" gj)
 (D23:qq K "first_uneven" bz)
 (D24:qq K "tries_due" iE)
 (D25:qq K "linked_further" bC)
 (D26:qq K "ways_to_link" cY)
 (D27:qq K "linked_or_tried" a9)
 (D28:gO K "searched" lF 120)
 (D29:qq K "_law_mix" jL)
 (D30:qq K "_law_name" hX)
 (D31:qq K "_law_word" gu)
 (D32:qq K "_law_join" hV)
 (D33:qq K "_law_fold" gn)
 (D34:qq K "_law_tree" gw)
 (D35:qq K "_law_whole" eL)
 (D36:qq K "_law_lay" io)
 (D37:qq K "_law_laid" hJ)
 (D38:qq K "_law_pieces" dW)
 (D39:qq K "_law_bits" gq)
 (D40:qq K "_law_linked" da)
 (D41:qq K "law" pS)
 (aLEAF_KINDS:PySem.W.nsIn K mainGlobals "LEAF_KINDS" = some (some (.ref a_LEAF_KINDS)))
 (lLEAF_KINDS:K.lookup a_LEAF_KINDS=some ⟨.type "tuple",o_LEAF_KINDS,.seq #[.str "plain" t_LEAF_KINDS0,.str "turned" t_LEAF_KINDS1] n_LEAF_KINDS,l_LEAF_KINDS⟩)
 (aTURNED_KINDS:PySem.W.nsIn K mainGlobals "TURNED_KINDS" = some (some (.ref a_TURNED_KINDS)))
 (lTURNED_KINDS:K.lookup a_TURNED_KINDS=some ⟨.type "dict",none,.dict ((([("plain",t_TURNED_KINDS0, "turned",u_TURNED_KINDS0),("turned",t_TURNED_KINDS1, "plain",u_TURNED_KINDS1),("both",t_TURNED_KINDS2, "either",u_TURNED_KINDS2),("either",t_TURNED_KINDS3, "both",u_TURNED_KINDS3)]:List (Str×Tok×Str×Tok)).map (tz w)).toArray) e_TURNED_KINDS,#[]⟩)
 (hTURNED_KINDS:(a_TURNED_KINDS==sysModules)=false)
 (aCPieces:PySem.W.nsIn K mainGlobals "Pieces" = some (some (.ref Ca)))
 (aCTooMany:PySem.W.nsIn K mainGlobals "TooMany" = some (some (.ref Cb)))
 (qCTooMany:PySem.W.excIn K Cb [.type "ValueError",.type "Exception",.type "BaseException",.type "object"] "ValueError.__new__" = true)
 (clPieces:Cls K Ca)
 (mAPieces:PySem.W.makesIn K Ca=true)
 (mKPieces:PySem.W.keepIn K (.ref Ca)=true)
 (xf:L3.XFP K Ca)
 (zlen:PySem.W.nsIn K mainGlobals "len" = some none)
 (zlist:PySem.W.nsIn K mainGlobals "list" = some none)
 (zrange:PySem.W.nsIn K mainGlobals "range" = some none)
 (zenumerate:PySem.W.nsIn K mainGlobals "enumerate" = some none)
 (zmax:PySem.W.nsIn K mainGlobals "max" = some none)
 (zmin:PySem.W.nsIn K mainGlobals "min" = some none)
 (zsorted:PySem.W.nsIn K mainGlobals "sorted" = some none)
 (zisinstance:PySem.W.nsIn K mainGlobals "isinstance" = some none)
 (zbool:PySem.W.nsIn K mainGlobals "bool" = some none)
 (zint:PySem.W.nsIn K mainGlobals "int" = some none)
 (zset:PySem.W.nsIn K mainGlobals "set" = some none)
 (ztuple:PySem.W.nsIn K mainGlobals "tuple" = some none)
 (zsum:PySem.W.nsIn K mainGlobals "sum" = some none):
 ∃fd:FuncData,(∀(s:Shared) (v:Value),BindsTo s fd ⟨[v],[]⟩ [(nu,v)])/\∀base:Heap,K.In base->base.Ns mainGlobals mg->wo l.prog w K mg base CX0 122 fa fd [nu] (spTop K):=by
 obtain⟨fL,kV,doc,pm,an,cdv,ct,aL,FL⟩:=D41.ex;have e:=hfa.symm.trans (BV X G aL);cases e;refine⟨PySem.W.fnOf "law" "law" (ja pS) (zn pS) (ql pS) .none kV doc pm an cdv ct,fun s v=>.of_eq rfl,fun base _ _=>?_⟩;have B:B_ ⟨l.prog,w,K,mg,base,Ca,Cb⟩:=⟨⟨h,X,G⟩,A1 X G zlen,A1 X G zlist,A1 X G zrange,A1 X G zenumerate,A1 X G zmax,A1 X G zmin,A1 X G zsorted,A1 X G zisinstance,A1 X G zbool,A1 X G zint,A1 X G zset,A1 X G ztuple,A1 X G zsum,D0,D1,D2,D3,D4,D5,D6,D7,D8,D9,D10,D11,D12,D13,D14,D15,D16,D17,D18,D19,D20,D21,D22,D23,D24,D25,D26,D27,D28,D29,D30,D31,D32,D33,D34,D35,D36,D37,D38,D39,D40,⟨a_LEAF_KINDS,BV X G aLEAF_KINDS,fun H=>⟨a_LEAF_KINDS,[V.str "plain",V.str "turned"],rfl,.inr ⟨_,_,_,lLEAF_KINDS,rfl,rfl,by show 2≤sizeLine;decide,.cons ⟨_,rfl⟩ (.cons ⟨_,rfl⟩ (.nil))⟩,⟨_,_,rfl,rfl,⟨_,_,rfl,rfl,rfl⟩⟩⟩⟩,⟨a_TURNED_KINDS,BV X G aTURNED_KINDS,fun H=>⟨a_TURNED_KINDS,rfl,ak3 _ lTURNED_KINDS hTURNED_KINDS (by show 4≤1000;decide) (by show List.Nodup ([Sum.inr "plain",Sum.inr "turned",Sum.inr "both",Sum.inr "either"]:List jf);decide +kernel)⟩⟩,BV X G aCPieces,BV X G aCTooMany,sk qCTooMany,clPieces,mAPieces,mKPieces,xf⟩;exact wo.imp (dL _ B (d41 _ B (d40 _ B (d39 _ B (d38 _ B (d37 _ B (d36 _ B (d35 _ B (d34 _ B (d33 _ B (d32 _ B (d31 _ B (d30 _ B (d29 _ B (d28 _ B (d27 _ B (d26 _ B (d25 _ B (d24 _ B (d23 _ B (d22 _ B (d21 _ B (d20 _ B (d19 _ B (d18 _ B (d17 _ B (d16 _ B (d15 _ B (d14 _ B (d13 _ B (d12 _ B (d11 _ B (d10 _ B (d9 _ B (d8 _ B (d7 _ B (d6 _ B (d5 _ B (d4 _ B (d3 _ B (d2 _ B (d1 _ B trivial))))))))))))))))))))))))))))))))))))))))) FL) fun vs H Q E q=>ag2 q
end K74
namespace H74
noncomputable section
open PySem PySem.W PySem.W.X L2 L3 PyProof.Rows
abbrev rr:=PySem.Challenge.rw_oncewise_k74_found
abbrev p:Program:=PySem.Challenge.pw_oncewise_k74_found
abbrev top:=K74.top
abbrev ut(i k:Nat):Stmt:=(iW (top i)).getD k (.Pass ⟨0,0,0,0⟩)
abbrev s(x:String):Str:=Str.ofString x
noncomputable abbrev S (x:String) (t:Tok):Value:=.str (Str.ofString x) t
noncomputable abbrev I (i:Int) (t:Tok):Value:=.int i t
noncomputable abbrev R (a:Addr):Value:=.ref a
abbrev E(P:Params)(k:String)(t:Tok)(v:Value):DictEntry:=⟨PyData.keyHash P (Str.ofString k),.str (Str.ofString k) t,v⟩
noncomputable abbrev O (c:Value) (d:Data):Obj:=⟨c,none,d,#[]⟩
abbrev FN(n q:String)(st:Stmt)(dV kV doc pm:Value)(an:Option Addr)(cd ct:Value):FuncData:=fnOf (Str.ofString n) (Str.ofString q) (ja st) (zn st) (ql st) dV kV doc pm an cd ct
abbrev FG(n q:String)(st:Stmt):FuncData:={ fnOf (Str.ofString n) (Str.ofString q) (ja st) (zn st) (ql st) .none .none .none .none none .none .none with globals:=0 }
abbrev tu(l:Array Value):Obj:=O (.type "tuple") (.seq l 0)
abbrev fo(f:FuncData):Obj:=O (.type "function") (.func f)
abbrev go(f:FuncData):Obj:=O .none (.func f)
abbrev co(n q:String)(t l a b c fl v:Nat)(o:Bool)(m k:Nat)(x y z u:Value)(d:Nat):Obj:=O (.type "code") (.fields #[S n t,S q (t+1),S "/claim/cut.py" (t+2),I l 0,I a 0,I b 0,I c 0,I fl 0,R v,.bool o,I m 0,R k,x,y,z,u,I d 0,I l 0,S "/claim/cut.py" (d+1)])
abbrev wC:Value:=S "law_oncewise_k74_found" 518
abbrev m1_:Value:=S "oncewise.shrinking" 365
abbrev m2_:Value:=S "oncewise.searching" 457
abbrev m3_:Value:=S "oncewise.webs" 314
abbrev m5_:Value:=S "oncewise.words" 274
abbrev fX(n:String)(i:Nat)(m:Value)(r:Nat):Obj:=fo (FN n n (top i) .none .none .none m none (R r) .none)
abbrev gX(n:String)(i:Nat):Obj:=go (FG n n (top i))
abbrev cF(n:String)(t l a v d:Nat):Obj:=co n n t l a 0 0 3 v true 181 (v+1) .none (R (v+2)) (R (v+3)) (R (v+4)) d
abbrev cC(n:String)(t l v d:Nat):Obj:=co n n t l 0 0 0 0 v false 181 (v+1) .none .none .none .none d
abbrev cS(n:String)(a ns k t v:Nat):Obj:=⟨.type "type",none,.cls (ClassData.mk (s n) [R 24] [R a,R 24,.type "ValueError",.type "Exception",.type "BaseException",.type "object"] ns (s n) true [] [] false none false),#[some (R k),none,some (S n t),some (S n v),some (.builtin "ValueError.__new__"),some (.bool true)]⟩
abbrev dA(P:Params)(a b:Nat)(l:Int)(c d r e:Nat):Obj:=O (.type "dict") (.dict #[E P "__module__" a (S "oncewise.errors" 187),E P "__firstlineno__" b (I l c),E P "__static_attributes__" d (R r),E P "__doc__" e .none] 2)
abbrev dB(P:Params)(a q:Nat)(n:String)(q2 b:Nat)(l:Int)(c d r:Nat):Obj:=O (.type "dict") (.dict #[E P "__module__" a (S "oncewise.errors" 187),E P "__qualname__" q (S n q2),E P "__firstlineno__" b (I l c),E P "__static_attributes__" d (R r)] 4)
abbrev fR(a b:Nat):Obj:=⟨.type "frame",none,.plain,#[some (R a),some (R 3),some (R b),none,some (S "oncewise.errors" 187),none,some (R 0)]⟩
abbrev bI(a:Nat):Obj:=O (.type "builtin_function_or_method") (.fields #[.builtin "object.__init_subclass__",R a])
abbrev sU(a:Nat):Obj:=O (.type "super") (.fields #[R a,R a,R a])
abbrev Ob:=Params->Obj
def ev{α:Type}:Bool->List α->List α
 |_,[]=>[]
 |true,x::r=>x::ev false r
 |false,_::r=>ev true r
def bt:Nat->List Obj->BT
 |0,_=>.nil
 |_,[]=>.nil
 |n+1,x::r=>.node x (bt n (ev true r)) (bt n (ev false r))
def env0:Env:={ scope:=p.main.scope,locals:=mainNs,globals:=mainNs,cells:=[],code:=.ref 13,frame:=some 14 }
abbrev cE:Code:=.body (behindTheImports p) env0
abbrev q0:Pos:=⟨0,0,0,0⟩
abbrev an:Option Value:=some (.ref 6)
abbrev Pc(n:Nat)(S S':World->OsState->SharedT)(l:List Stmt)(q q':Pos)(w:World):Prop:=(fun os=>segRunT treeTable p w 11 an 1 n (S w os) (piecesOf l env0 cE q [topFrame q0]))=fun os=>some (Flow.next,S' w os,cE,q')
abbrev b0:=PySem.W.boot_o_0
abbrev b1:=PySem.W.boot_o_1
abbrev b2:=PySem.W.boot_o_2
abbrev b3:=PySem.W.boot_o_3
abbrev b4:=PySem.W.boot_o_4
abbrev b5:=PySem.W.boot_o_5
abbrev b6:=PySem.W.boot_o_6
abbrev b7:=PySem.W.boot_o_7
abbrev b8:=PySem.W.boot_o_8
abbrev b9:=PySem.W.boot_o_9
abbrev b10:=PySem.W.boot_o_10
def xq:Ob:=fun _=>tu #[]
def a6:Ob:=fun _=>O .none (.fields #[])
def xac:Ob:=fun _=>cC "<module>" 182 1 11 185
def xad:Ob:=fun _=>⟨(.type "frame"),none,.plain,#[(some (R 13)),(some (R 3)),(some (R 3)),none,(some (S "__main__" 164)),none,(some (R 0))]⟩
def xag:Ob:=fun P=>O (.type "dict") (.dict #[(E P "__module__" 196 (S "oncewise.errors" 187)),(E P "__firstlineno__" 200 (I 2 199)),(E P "__static_attributes__" 201 (R 22)),(E P "__weakref__" 203 (R 25)),(E P "__doc__" 204 .none)] 3)
def xaj:Ob:=fun _=>O (.type "getset_descriptor") (.fields #[S "__weakref__" 202,R 24,(.builtin "ExceptionGroup.__weakref__"),.none])
def xal:Ob:=fun _=>O (.type "builtin_function_or_method") (.fields #[(.builtin "type.__prepare__"),(.type "type")])
def xat:Ob:=fun _=>cS "TooMany" 37 36 28 207 215
def xau:Ob:=fun _=>⟨(.type "type"),none,(.cls (ClassData.mk (s "OnceError") [(.type "ValueError")] [R 24,(.type "ValueError"),(.type "Exception"),(.type "BaseException"),(.type "object")] 23 (s "OnceError") true [] [R 37] false none false)),#[(some (R 15)),none,(some (S "OnceError" 189)),(some (S "OnceError" 197)),(some (.builtin "ValueError.__new__")),(some (.bool true))]⟩
def xaw:Ob:=fun P=>dA P 214 218 4 217 219 35 220
def xa3:Ob:=fun _=>O (.type "getset_descriptor") (.fields #[S "__dict__" 267,R 70,(.builtin "function.__dict__"),(.builtin "function.__dict__#set")])
def xa4:Ob:=fun _=>fo (FN "unite" "Pieces.unite" (ut 4 2) .none .none .none (S "oncewise.pieces" 223) none (R 66) .none)
def xa6:Ob:=fun _=>tu #[S "plain" 276,S "turned" 277]
def xa7:Ob:=fun _=>co "head_of" "Pieces.head_of" 245 12 2 0 0 3 54 true 181 55 .none (R 56) (R 57) (R 58) 251
def xbb:Ob:=fun P=>O (.type "dict") (.dict #[(E P "__module__" 232 (S "oncewise.pieces" 223)),(E P "__firstlineno__" 236 (I 7 235)),(E P "__init__" 244 (R 53)),(E P "head_of" 253 (R 60)),(E P "unite" 264 (R 67)),(E P "__static_attributes__" 266 (R 68)),(E P "__dict__" 268 (R 71)),(E P "__weakref__" 270 (R 72)),(E P "__doc__" 271 .none)] 4)
def xbc:Ob:=fun _=>fo (FN "__init__" "Pieces.__init__" (ut 4 0) .none .none .none (S "oncewise.pieces" 223) none (R 52) .none)
def xbe:Ob:=fun _=>O (.type "getset_descriptor") (.fields #[S "__weakref__" 269,R 70,(.builtin "ExceptionGroup.__weakref__"),.none])
def xbi:Ob:=fun _=>co "__init__" "Pieces.__init__" 237 9 2 0 0 3 47 true 181 48 .none (R 49) (R 50) (R 51) 242
def xbk:Ob:=fun P=>O (.type "dict") (.dict #[(E P "plain" 279 (S "turned" 280)),(E P "turned" 281 (S "plain" 282)),(E P "both" 283 (S "either" 284)),(E P "either" 285 (S "both" 286))] 4)
def xbl:Ob:=fun _=>fo (FN "head_of" "Pieces.head_of" (ut 4 1) .none .none .none (S "oncewise.pieces" 223) none (R 59) .none)
def xbm:Ob:=fun _=>co "unite" "Pieces.unite" 254 19 3 0 0 3 61 true 181 62 .none (R 63) (R 64) (R 65) 262
def xbq:Ob:=fun _=>⟨(.type "type"),none,(.cls (ClassData.mk (s "Pieces") [(.type "object")] [R 70,(.type "object")] 69 (s "Pieces") true [] [] false none false)),#[none,none,(some (S "Pieces" 225)),(some (S "Pieces" 233)),(some (.builtin "object.__new__")),(some (.bool true))]⟩
def xbu:Ob:=fun _=>fX "join_steps" 22 m1_ 158
def xbx:Ob:=fun _=>fX "laid" 13 m3_ 110
def xby:Ob:=fun _=>fX "eithers_of" 17 m3_ 134
def xbz:Ob:=fun _=>cF "lay_word" 316 39 2 98 323
def xb0:Ob:=fun _=>cF "joins_of" 379 75 1 146 383
def xb2:Ob:=fun _=>fX "is_leaf" 8 m5_ 82
def xb3:Ob:=fun _=>co "places_there" "places_there" 336 53 1 0 0 3 112 true 181 113 .none .none .none (R 114) 339
def xb4:Ob:=fun _=>co "boths_of" "boths_of" 367 68 1 0 0 3 136 true 181 137 .none .none .none (R 138) 370
def xb7:Ob:=fun _=>fX "parts_of" 15 m3_ 122
def xb8:Ob:=fun _=>cF "places_in" 349 59 1 124 356
def xb9:Ob:=fun _=>fX "leaves_of" 10 m5_ 96
def xcb:Ob:=fun _=>fX "part_edges" 20 m1_ 144
def xcc:Ob:=fun _=>cF "turned" 299 29 1 84 304
def xcj:Ob:=fun _=>cF "leaves_of" 307 34 1 91 311
def xck:Ob:=fun _=>co "part_edges" "part_edges" 373 70 2 0 0 3 141 true 181 142 .none .none .none (R 143) 376
def xcl:Ob:=fun _=>fX "lay_word" 12 m3_ 103
def xcn:Ob:=fun _=>fX "joins_of" 21 m1_ 151
def xcr:Ob:=fun _=>fX "places_there" 14 m3_ 115
def xcs:Ob:=fun _=>fX "boths_of" 19 m1_ 139
def xct:Ob:=fun _=>fX "places_in" 16 m3_ 129
def xcu:Ob:=fun _=>cF "is_leaf" 292 27 1 77 296
def xcx:Ob:=fun _=>fX "turned" 9 m5_ 89
def xcy:Ob:=fun _=>cF "parts_of" 342 55 1 117 346
def xcz:Ob:=fun _=>co "eithers_of" "eithers_of" 359 65 1 0 0 3 131 true 181 132 .none .none .none (R 133) 362
def xc3:Ob:=fun _=>cF "laid" 326 47 1 105 333
def xc4:Ob:=fun _=>cF "join_steps" 386 77 2 153 394
def xc7:Ob:=fun _=>cF "right_web" 435 102 1 186 439
def xc9:Ob:=fun _=>fX "first_bad" 28 m1_ 198
def xdd:Ob:=fun _=>co "can_fold" "can_fold" 397 83 3 0 0 3 160 true 181 161 .none .none .none (R 162) 400
def xdf:Ob:=fun _=>fX "fold_steps" 24 m1_ 170
def xdh:Ob:=fun _=>cF "tries_due" 476 128 1 214 485
def xdi:Ob:=fun _=>fX "linked_further" 33 m2_ 224
def xdk:Ob:=fun _=>cF "steps_by" 415 96 3 172 422
def xdn:Ob:=fun _=>fX "all_come_together" 26 m1_ 184
def xdp:Ob:=fun _=>co "ways_to_link" "ways_to_link" 494 148 1 0 0 3 226 true 181 227 .none .none .none (R 228) 497
def xdq:Ob:=fun _=>fX "first_uneven" 31 m2_ 212
def xds:Ob:=fun _=>cF "leaves_in" 459 118 1 200 465
def xdt:Ob:=fun _=>fX "linked_or_tried" 35 m2_ 236
def xdu:Ob:=fun _=>fX "right_web" 27 m1_ 191
def xdv:Ob:=fun _=>co "linked_further" "linked_further" 488 139 3 0 0 3 221 true 181 222 .none .none .none (R 223) 491
def xdy:Ob:=fun _=>cF "all_come_together" 425 99 3 179 432
def xd0:Ob:=fun _=>fX "can_fold" 23 m1_ 163
def xd2:Ob:=fun _=>cF "first_uneven" 468 123 1 207 473
def xd4:Ob:=fun _=>cF "linked_or_tried" 500 154 1 231 508
def xd5:Ob:=fun _=>fX "tries_due" 32 m2_ 219
def xd8:Ob:=fun _=>fX "steps_by" 25 m1_ 177
def xea:Ob:=fun _=>cF "fold_steps" 403 86 3 165 412
def xec:Ob:=fun _=>cF "first_bad" 442 104 1 193 454
def xed:Ob:=fun _=>fX "ways_to_link" 34 m2_ 229
def xee:Ob:=fun _=>fX "leaves_in" 30 m2_ 205
def xei:Ob:=fun _=>fX "_law_name" 39 wC 254
def xej:Ob:=fun _=>cF "_law_whole" 582 237 1 282 586
def xek:Ob:=fun _=>fX "_law_lay" 45 wC 294
def xen:Ob:=fun _=>fX "_law_pieces" 47 wC 306
def xeo:Ob:=fun _=>fo (FN "searched" "searched" (top 36) (R 238) .none .none (S "oncewise.searching" 457) none (R 242) .none)
def xep:Ob:=fun _=>fX "_law_join" 41 wC 266
def xeq:Ob:=fun _=>cF "_law_fold" 550 200 4 268 559
def xeu:Ob:=fun _=>fX "_law_tree" 43 wC 280
def xev:Ob:=fun _=>cF "_law_bits" 614 266 2 308 621
def xew:Ob:=fun _=>cF "_law_mix" 520 176 3 244 526
def xex:Ob:=fun _=>cF "_law_word" 535 187 2 256 541
def xe0:Ob:=fun _=>cF "_law_laid" 599 247 1 296 605
def xe2:Ob:=fun _=>fX "_law_whole" 44 wC 287
def xe4:Ob:=fun _=>cF "_law_tree" 562 208 3 275 579
def xfc:Ob:=fun _=>fX "_law_fold" 42 wC 273
def xfd:Ob:=fun _=>co "_law_pieces" "_law_pieces" 608 252 3 0 0 3 303 true 181 304 .none .none .none (R 305) 611
def xfe:Ob:=fun _=>co "searched" "searched" 512 163 2 0 0 3 239 true 181 240 .none .none .none (R 241) 515
def xff:Ob:=fun _=>co "_law_join" "_law_join" 544 192 4 0 0 3 263 true 181 264 .none .none .none (R 265) 547
def xfh:Ob:=fun _=>fX "_law_bits" 48 wC 313
def xfi:Ob:=fun _=>fX "_law_mix" 38 wC 249
def xfj:Ob:=fun _=>fX "_law_word" 40 wC 261
def xfk:Ob:=fun _=>cF "_law_lay" 589 239 2 289 596
def xfo:Ob:=fun _=>fX "_law_laid" 46 wC 301
def xfp:Ob:=fun _=>tu #[I 120 511]
def xfr:Ob:=fun _=>co "_law_name" "_law_name" 529 178 2 0 0 3 251 true 181 252 .none .none .none (R 253) 532
def xfs:Ob:=fun P=>O (.type "dict") (.dict #[(E P "__name__" 165 (S "law_oncewise_k74_found" 518)),(E P "__doc__" 166 .none),(E P "__package__" 167 .none),(E P "__loader__" 168 (.builtin "__main__.__loader__#opaque")),(E P "__spec__" 169 .none),(E P "__annotations__" 170 (R 6)),(E P "__builtins__" 171 (R 4)),(E P "__file__" 173 (S "/claim/cut.py" 172)),(E P "__cached__" 174 .none),(E P "OnceError" 206 (R 24)),(E P "TooMany" 222 (R 37)),(E P "Pieces" 273 (R 70)),(E P "LEAF_KINDS" 278 (R 75)),(E P "TURNED_KINDS" 291 (R 76)),(E P "is_leaf" 298 (R 83)),(E P "turned" 306 (R 90)),(E P "leaves_of" 313 (R 97)),(E P "lay_word" 325 (R 104)),(E P "laid" 335 (R 111)),(E P "places_there" 341 (R 116)),(E P "parts_of" 348 (R 123)),(E P "places_in" 358 (R 130)),(E P "eithers_of" 364 (R 135)),(E P "boths_of" 372 (R 140)),(E P "part_edges" 378 (R 145)),(E P "joins_of" 385 (R 152)),(E P "join_steps" 396 (R 159)),(E P "can_fold" 402 (R 164)),(E P "fold_steps" 414 (R 171)),(E P "steps_by" 424 (R 178)),(E P "all_come_together" 434 (R 185)),(E P "right_web" 441 (R 192)),(E P "first_bad" 456 (R 199)),(E P "leaves_in" 467 (R 206)),(E P "first_uneven" 475 (R 213)),(E P "tries_due" 487 (R 220)),(E P "linked_further" 493 (R 225)),(E P "ways_to_link" 499 (R 230)),(E P "linked_or_tried" 510 (R 237)),(E P "searched" 517 (R 243)),(E P "_law_mix" 528 (R 250)),(E P "_law_name" 534 (R 255)),(E P "_law_word" 543 (R 262)),(E P "_law_join" 549 (R 267)),(E P "_law_fold" 561 (R 274)),(E P "_law_tree" 581 (R 281)),(E P "_law_whole" 588 (R 288)),(E P "_law_lay" 598 (R 295)),(E P "_law_laid" 607 (R 302)),(E P "_law_pieces" 613 (R 307)),(E P "_law_bits" 623 (R 314)),(E P "_law_linked" 629 (R 319)),(E P "law" 635 (R 324))] 53)
def xft:Ob:=fun _=>fX "_law_linked" 49 wC 318
def xfu:Ob:=fun _=>co "law" "law" 630 287 1 0 0 3 320 true 181 321 .none .none .none (R 322) 633
def xfx:Ob:=fun _=>fX "law" 50 wC 323
def xfz:Ob:=fun _=>co "_law_linked" "_law_linked" 624 272 2 0 0 3 315 true 181 316 .none .none .none (R 317) 627
def anp:List Ob:=[b0,b1,b2,b3,b4,b5,b6,b7,b8,b9,b10,xq,a6,xac,xad]
def ajr:List Ob:=[b0,b1,b2,xfs,b4,b5,b6,b7,b8,b9,b10,xq,fun _=>O .none (.fields #[I 2 0,I 0 0,R 20,I 4 0,I 0 0,R 33,I 7 0,I 0 0,R 45,I 27 0,I 0 0,R 82,I 29 0,I 0 0,R 89,I 34 0,I 0 0,R 96,I 39 0,I 0 0,R 103,I 47 0,I 0 0,R 110,I 53 0,I 0 0,R 115,I 55 0,I 0 0,R 122,I 59 0,I 0 0,R 129,I 65 0,I 0 0,R 134,I 68 0,I 0 0,R 139,I 70 0,I 0 0,R 144,I 75 0,I 0 0,R 151,I 77 0,I 0 0,R 158,I 83 0,I 0 0,R 163,I 86 0,I 0 0,R 170,I 96 0,I 0 0,R 177,I 99 0,I 0 0,R 184,I 102 0,I 0 0,R 191,I 104 0,I 0 0,R 198,I 118 0,I 0 0,R 205,I 123 0,I 0 0,R 212,I 128 0,I 0 0,R 219,I 139 0,I 0 0,R 224,I 148 0,I 0 0,R 229,I 154 0,I 0 0,R 236,I 163 0,I 0 0,R 242,I 176 0,I 0 0,R 249,I 178 0,I 0 0,R 254,I 187 0,I 0 0,R 261,I 192 0,I 0 0,R 266,I 200 0,I 0 0,R 273,I 208 0,I 0 0,R 280,I 237 0,I 0 0,R 287,I 239 0,I 0 0,R 294,I 247 0,I 0 0,R 301,I 252 0,I 0 0,R 306,I 266 0,I 0 0,R 313,I 272 0,I 0 0,R 318,I 287 0,I 0 0,R 323]),xac,xad,fun _=>tu #[(.type "ValueError")],xal,fun P=>dB P 196 198 "OnceError" 197 200 2 199 201 22,xq,a6,fun _=>cC "OnceError" 191 2 18 194,fun _=>fR 20 17,xq,xag,xau,xaj,fun _=>sU 24,fun _=>bI 24,fun _=>tu #[R 24],xal,fun P=>dB P 214 216 "TooMany" 215 218 4 217 219 35,xq,a6,fun _=>cC "TooMany" 209 4 31 212,fun _=>fR 33 30,xq,xaw,xat,fun _=>sU 37,fun _=>bI 37,xq,xal,fun P=>O (.type "dict") (.dict #[(E P "__module__" 232 (S "oncewise.pieces" 223)),(E P "__qualname__" 234 (S "Pieces" 233)),(E P "__firstlineno__" 236 (I 7 235)),(E P "__init__" 244 (R 53)),(E P "head_of" 253 (R 60)),(E P "unite" 264 (R 67)),(E P "__static_attributes__" 266 (R 68))] 7),xq,fun _=>O .none (.fields #[I 9 0,I 4 0,R 52,I 12 0,I 4 0,R 59,I 19 0,I 4 0,R 66]),fun _=>cC "Pieces" 227 7 43 230,fun _=>⟨(.type "frame"),none,.plain,#[(some (R 45)),(some (R 3)),(some (R 42)),none,(some (S "oncewise.pieces" 223)),none,(some (R 0))]⟩,xq,a6,fun _=>tu #[S "self" 240,S "count" 241],xq,fun _=>go (FG "__init__" "Pieces.__init__" (ut 4 0)),xbi,xbc,xq,a6,fun _=>tu #[S "self" 248,S "place" 249,S "here" 250],xq,fun _=>go (FG "head_of" "Pieces.head_of" (ut 4 1)),xa7,xbl,xq,a6,fun _=>tu #[S "self" 257,S "p" 258,S "q" 259,S "first" 260,S "second" 261],xq,fun _=>go (FG "unite" "Pieces.unite" (ut 4 2)),xbm,xa4,fun _=>tu #[S "heads" 265],xbb,xbq,xa3,xbe,fun _=>sU 70,fun _=>bI 70,xa6,xbk,xq,a6,fun _=>tu #[S "word" 295],xq,fun _=>gX "is_leaf" 8,xcu,xb2,xq,a6,fun _=>tu #[S "word" 302,S "kind" 303],xq,fun _=>gX "turned" 9,xcc,xcx,xq,a6,fun _=>tu #[S "word" 310],xq,fun _=>gX "leaves_of" 10,xcj,xb9,xq,a6,fun _=>tu #[S "knots" 319,S "word" 320,S "left" 321,S "right" 322],xq,fun _=>gX "lay_word" 12,xbz,xcl,xq,a6,fun _=>tu #[S "words" 329,S "knots" 330,S "places" 331,S "word" 332],xq,fun _=>gX "laid" 13,xc3,xbx,xq,a6,fun _=>gX "places_there" 14,xb3,xcr,xq,a6,fun _=>tu #[S "knot" 345],xq,fun _=>gX "parts_of" 15,xcy,xb7,xq,a6,fun _=>tu #[S "pairs" 352,S "places" 353,S "p" 354,S "q" 355],xq,fun _=>gX "places_in" 16,xb8,xct,xq,a6,fun _=>gX "eithers_of" 17,xcz,xby,xq,a6,fun _=>gX "boths_of" 19,xb4,xcs,xq,a6,fun _=>gX "part_edges" 20,xck,xcb,xq,a6,fun _=>tu #[S "web" 382],xq,fun _=>gX "joins_of" 21,xb0,xcn,xq,a6,fun _=>tu #[S "pieces" 389,S "joins" 390,S "steps" 391,S "p" 392,S "q" 393],xq,fun _=>gX "join_steps" 22,xc4,xbu,xq,a6,fun _=>gX "can_fold" 23,xdd,xd0,xq,a6,fun _=>tu #[S "pieces" 406,S "knots" 407,S "eithers" 408,S "steps" 409,S "before" 410,S "place" 411],xq,fun _=>gX "fold_steps" 24,xea,xdf,xq,a6,fun _=>tu #[S "knots" 418,S "joins" 419,S "eithers" 420,S "pieces" 421],xq,fun _=>gX "steps_by" 25,xdk,xd8,xq,a6,fun _=>tu #[S "knots" 428,S "joins" 429,S "eithers" 430,S "due" 431],xq,fun _=>gX "all_come_together" 26,xdy,xdn,xq,a6,fun _=>tu #[S "web" 438],xq,fun _=>gX "right_web" 27,xc7,xdu,xq,a6,fun _=>tu #[S "web" 445,S "knots" 446,S "joins" 447,S "eithers" 448,S "choices" 449,S "number" 450,S "place" 451,S "left" 452,S "choice" 453],xq,fun _=>gX "first_bad" 28,xec,xc9,xq,a6,fun _=>tu #[S "words" 462,S "leaves" 463,S "word" 464],xq,fun _=>gX "leaves_in" 30,xds,xee,xq,a6,fun _=>tu #[S "leaves" 471,S "leaf" 472],xq,fun _=>gX "first_uneven" 31,xd2,xdq,xq,a6,fun _=>tu #[S "words" 479,S "leaves" 480,S "ways" 481,S "counts" 482,S "kind" 483,S "name" 484],xq,fun _=>gX "tries_due" 32,xdh,xd5,xq,a6,fun _=>gX "linked_further" 33,xdv,xdi,xq,a6,fun _=>gX "ways_to_link" 34,xdp,xed,xq,a6,fun _=>tu #[S "knots" 503,S "tried" 504,S "links" 505,S "web" 506,S "choices" 507],xq,fun _=>gX "linked_or_tried" 35,xd4,xdt,xfp,xq,a6,fun _=>gX "searched" 36,xfe,xeo,xq,a6,fun _=>tu #[S "_law_cell" 523,S "_law_k" 524,S "_law_factor" 525],xq,fun _=>gX "_law_mix" 38,xew,xfi,xq,a6,fun _=>gX "_law_name" 39,xfr,xei,xq,a6,fun _=>tu #[S "_law_knots" 538,S "_law_p" 539,S "_law_knot" 540],xq,fun _=>gX "_law_word" 40,xex,xfj,xq,a6,fun _=>gX "_law_join" 41,xff,xep,xq,a6,fun _=>tu #[S "_law_knots" 553,S "_law_tree_here" 554,S "_law_one" 555,S "_law_two" 556,S "_law_left" 557,S "_law_right" 558],xq,fun _=>gX "_law_fold" 42,xeq,xfc,xq,a6,fun _=>tu #[S "_law_cells" 565,S "_law_seed" 566,S "_law_room" 567,S "_law_knots" 568,S "_law_forest" 569,S "_law_links" 570,S "_law_k" 571,S "_law_cell" 572,S "_law_one" 573,S "_law_two" 574,S "_law_deed" 575,S "_law_at" 576,S "_law_name_here" 577,S "_law_sides" 578],xq,fun _=>gX "_law_tree" 43,xe4,xeu,xq,a6,fun _=>tu #[S "_law_found" 585],xq,fun _=>gX "_law_whole" 44,xej,xe2,xq,a6,fun _=>tu #[S "_law_knots" 592,S "_law_word_here" 593,S "_law_left" 594,S "_law_right" 595],xq,fun _=>gX "_law_lay" 45,xfk,xek,xq,a6,fun _=>tu #[S "_law_words" 602,S "_law_knots" 603,S "_law_word_here" 604],xq,fun _=>gX "_law_laid" 46,xe0,xfo,xq,a6,fun _=>gX "_law_pieces" 47,xfd,xen,xq,a6,fun _=>tu #[S "_law_number" 617,S "_law_many" 618,S "_law_bits_here" 619,S "_law_k" 620],xq,fun _=>gX "_law_bits" 48,xev,xfh,xq,a6,fun _=>gX "_law_linked" 49,xfz,xft,xq,a6,fun _=>gX "law" 50,xfu,xfx]
def an7:List Ob:=[b0,b1,b2,b3,b4,b5,b6,b7,b8,b9,b10,xq,a6,xac,xad]
def an2:List Ob:=ajr
def hpA(P:Params):Heap:=⟨⟨anp.map (· P)⟩,{}⟩
def hpZ(P:Params):Heap:=⟨⟨ajr.map (· P)⟩,{}⟩
def tr0(P:Params):BT:=bt 20 (an7.map (· P))
def tr7(P:Params):BT:=bt 20 (an2.map (· P))
def sA(w:World)(os:OsState):Shared:=⟨hpA w.params,#[],{},187,os⟩
def sZ(w:World)(os:OsState):Shared:=⟨hpZ w.params,#[],{},636,os⟩
def st0(w:World)(os:OsState):SharedT:=⟨tr0 w.params,15,{},#[],{},187,os⟩
def st7(w:World)(os:OsState):SharedT:=⟨tr7 w.params,325,{},#[],{},636,os⟩
def yJ:List Stmt:=((behindTheImports p).drop 0).take 51
theorem anl(w:World):(fun os=>topGo treeTable p w 11 an 12 ⟨boot_heap w.params,#[],boot_drawn,boot_toks,os⟩ (topStub p))=fun os=>some (sA w os,⟨denote treeTable cE,cE,⟨0,0,0,0⟩,[topFrame q0]⟩):=by kernel_rfl
theorem ao4(w:World):(fun os=>segRun treeTable p w 11 an 1 1 (sA w os) (blockOf (behindTheImports p) env0 cE ⟨0,0,0,0⟩ [topFrame q0]))=fun os=>some (.next,(st0 w os).abs,cE,⟨0,0,0,0⟩):=by kernel_rfl
theorem ao8(w:World):Pc 2010 st0 st7 yJ ⟨0,0,0,0⟩ ⟨287,0,313,15⟩ (w.withFollow "special-get-raises" false):=by kernel_rfl
theorem amr(w:World):Pc 2010 st0 st7 yJ ⟨0,0,0,0⟩ ⟨287,0,313,15⟩ (w.withFollow "special-get-raises" true):=by kernel_rfl
theorem pc1:∀w,Pc 2010 st0 st7 yJ ⟨0,0,0,0⟩ ⟨287,0,313,15⟩ w:=byRow2 "special-get-raises" ao8 amr
theorem aod(w:World):(fun os=>topRun treeTable p w 11 an 2 (st7 w os).abs ⟨doneF .next,cE,⟨287,0,313,15⟩,[topFrame q0]⟩)=fun os=>some (sZ w os):=by kernel_rfl
theorem ak2:yJ++([])=behindTheImports p:=by kernel_rfl
theorem anv(w:World)(os:OsState):topRun treeTable p w 11 an (12+(1+(2010+(2)))) ⟨boot_heap w.params,#[],boot_drawn,boot_toks,os⟩ (topStub p)=some (sZ w os):=by have h:=(piece_app (l:=yJ) (rest:=[]) (segRun_of (CW (pc1 w) os)) (piece_nil (env:=env0) (CW (aod w) os)));rw[ak2] at h;exact go_top (CW (anl w) os) (piece_block (CW (ao4 w) os) h)
def as0:List Nat:=[0,1,2,3,4,5,6,7,8,9,10,13,23,24,25,36,37,52,53,59,60,66,67,69,70,71,72,75,76,82,83,89,90,96,97,103,104,110,111,115,116,122,123,129,130,134,135,139,140,144,145,151,152,158,159,163,164,170,171,177,178,184,185,191,192,198,199,205,206,212,213,219,220,224,225,229,230,236,237,238,242,243,249,250,254,255,261,262,266,267,273,274,280,281,287,288,294,295,301,302,306,307,313,314,318,319,323,324]
def vw:Program:={ p with main:={ p.main with body:=[top 1,top 2,top 4,top 6,top 7,top 8,top 9,top 10,top 12,top 13,top 14,top 15,top 16,top 17,top 19,top 20,top 21,top 22,top 23,top 24,top 25,top 26,top 27,top 28,top 30,top 31,top 32,top 33,top 34,top 35,top 38,top 39,top 40,top 41,top 42,top 43,top 44,top 45,top 46,top 47,top 48,top 49,top 50] } }
def K0:Params->Frag:=fun P=>(nat_lit 0,b0 P)::(nat_lit 1,b1 P)::(nat_lit 2,b2 P)::(nat_lit 3,xfs P)::(nat_lit 4,b4 P)::(nat_lit 5,b5 P)::(nat_lit 6,b6 P)::(nat_lit 7,b7 P)::(nat_lit 8,b8 P)::(nat_lit 9,b9 P)::(nat_lit 10,b10 P)::(nat_lit 13,xac P)::(nat_lit 23,xag P)::(nat_lit 24,xau P)::(nat_lit 25,xaj P)::(nat_lit 36,xaw P)::(nat_lit 37,xat P)::(nat_lit 52,xbi P)::(nat_lit 53,xbc P)::(nat_lit 59,xa7 P)::(nat_lit 60,xbl P)::(nat_lit 66,xbm P)::(nat_lit 67,xa4 P)::(nat_lit 69,xbb P)::(nat_lit 70,xbq P)::(nat_lit 71,xa3 P)::(nat_lit 72,xbe P)::(nat_lit 75,xa6 P)::(nat_lit 76,xbk P)::(nat_lit 82,xcu P)::(nat_lit 83,xb2 P)::(nat_lit 89,xcc P)::(nat_lit 90,xcx P)::(nat_lit 96,xcj P)::(nat_lit 97,xb9 P)::(nat_lit 103,xbz P)::(nat_lit 104,xcl P)::(nat_lit 110,xc3 P)::(nat_lit 111,xbx P)::(nat_lit 115,xb3 P)::(nat_lit 116,xcr P)::(nat_lit 122,xcy P)::(nat_lit 123,xb7 P)::(nat_lit 129,xb8 P)::(nat_lit 130,xct P)::(nat_lit 134,xcz P)::(nat_lit 135,xby P)::(nat_lit 139,xb4 P)::(nat_lit 140,xcs P)::(nat_lit 144,xck P)::(nat_lit 145,xcb P)::(nat_lit 151,xb0 P)::(nat_lit 152,xcn P)::(nat_lit 158,xc4 P)::(nat_lit 159,xbu P)::(nat_lit 163,xdd P)::(nat_lit 164,xd0 P)::(nat_lit 170,xea P)::(nat_lit 171,xdf P)::(nat_lit 177,xdk P)::(nat_lit 178,xd8 P)::(nat_lit 184,xdy P)::(nat_lit 185,xdn P)::(nat_lit 191,xc7 P)::(nat_lit 192,xdu P)::(nat_lit 198,xec P)::(nat_lit 199,xc9 P)::(nat_lit 205,xds P)::(nat_lit 206,xee P)::(nat_lit 212,xd2 P)::(nat_lit 213,xdq P)::(nat_lit 219,xdh P)::(nat_lit 220,xd5 P)::(nat_lit 224,xdv P)::(nat_lit 225,xdi P)::(nat_lit 229,xdp P)::(nat_lit 230,xed P)::(nat_lit 236,xd4 P)::(nat_lit 237,xdt P)::(nat_lit 238,xfp P)::(nat_lit 242,xfe P)::(nat_lit 243,xeo P)::(nat_lit 249,xew P)::(nat_lit 250,xfi P)::(nat_lit 254,xfr P)::(nat_lit 255,xei P)::(nat_lit 261,xex P)::(nat_lit 262,xfj P)::(nat_lit 266,xff P)::(nat_lit 267,xep P)::(nat_lit 273,xeq P)::(nat_lit 274,xfc P)::(nat_lit 280,xe4 P)::(nat_lit 281,xeu P)::(nat_lit 287,xej P)::(nat_lit 288,xe2 P)::(nat_lit 294,xfk P)::(nat_lit 295,xek P)::(nat_lit 301,xe0 P)::(nat_lit 302,xfo P)::(nat_lit 306,xfd P)::(nat_lit 307,xen P)::(nat_lit 313,xev P)::(nat_lit 314,xfh P)::(nat_lit 318,xfz P)::(nat_lit 319,xft P)::(nat_lit 323,xfu P)::(nat_lit 324,xfx P)::[]
abbrev ls:List Str:=[Str.ofString "TURNED_KINDS",Str.ofString "searched"]
abbrev Xt:Shared->Bool:=fun s=>xlAt vw [] s&&recOk (RowW.records rr.row.toRowW) s
theorem al4(w:World):((boot_heap w.params).isNs mainGlobals&&(#[]:Array GenState).size==0,(boot_heap w.params).objs.size,(boot_heap w.params).nsMap mainGlobals "__annotations__")=(true,11,an):=by kernel_rfl
theorem aoj:opening p=plainProg p.main.scope.names:=by kernel_rfl
theorem aoa(s:Shared):fenceModules? p s=some s:=by kernel_rfl
theorem lk1(w:World):(fun os=>(staticsOk (importedModules p.main.body) (boot_heap w.params) (hpZ w.params)&&namesBound p (hpZ w.params)&&gensDone (sZ w os)&&laidKept (boot_heap w.params) (hpZ w.params)))=fun _=>true:=by kernel_rfl
theorem lk2(w:World):(fun os=>openSeen vw ls (importedModules p.main.body) Xt true (sZ w os))=fun _=>openGood vw ls:=by kernel_rfl
theorem lk3(w:World):(fun os=>obsZ as0 (sZ w os))=fun _=>valZ K0 325 636 w:=by kernel_rfl
theorem left_:LeftO p vw ls Xt (obsZ as0) (valZ K0 325 636) 4132:=LeftO.of_pieces (boot_open aoj rfl aoa) al4 anv rfl fun w=>funext fun os=>looks_pair (CW (lk1 w) os) (looks_pair (CW (lk2 w) os) (CW (lk3 w) os))
end
end H74
open PySem PySem.W PyProof.Rows
set_option maxRecDepth 100000 in
set_option maxHeartbeats 0 in
theorem PySem.Challenge.cw_oncewise_k74_found_holds : PySem.Challenge.rw_oncewise_k74_found.Holds := by
 w_on;refine holds_law (by unfold OpenLaw.wellSaid OpenRow.wellSaid OpenRow.partSaid looksOpen;walk_at "y";walk_at "y";walk_at "y";walk_at "y";walk_at "y";walk_at "y";all_goals decide +kernel) fun said=>?_
 refine holds_openX (q:=H74.vw) (loose:=H74.ls) (Xt:=H74.Xt) (XP:=XL H74.vw []) (Yf:=PySem.W.X.obsZ H74.as0) (Ya:=PySem.W.X.valZ H74.K0 325 636) (N:=4132) H74.left_ (fun s e=>xl_of s (Bool.and_eq_true_iff.mp e).1)
  XL.keeps (by rfl) (by rfl) (by rfl) (fun s e=>recFacts_of (Bool.and_eq_true_iff.mp e).2)
  (by rfl) (by decide +kernel) (by decide +kernel) ⟨rfl,rfl,rfl,rfl,rfl,by decide +kernel⟩ ?hw ?hc
 case hw=>w_witness2
 k_fill
 refine L2.walk_ofZ (l:=PySem.Challenge.rw_oncewise_k74_found) (n:=63) (k:=122) (x:="_law_script") (CX:=L2.CX0) (sp:=L3.spTop) rfl (by decide) rfl ⟨rfl,by decide,by decide⟩ (fun _=>rfl) (by decide) ?F ?S ?C
 case F=>
  intro w mg fa h KX G hmg;refine' K74.all_mk KX G hmg ?D0 ?D1 ?D2 ?D3 ?D4 ?D5 ?D6 ?D7 ?D8 ?D9 ?D10 ?D11 ?D12 ?D13 ?D14 ?D15 ?D16 ?D17 ?D18 ?D19 ?D20 ?D21 ?D22 ?D23 ?D24 ?D25 ?D26 ?D27 ?D28 ?D29 ?D30 ?D31 ?D32 ?D33 ?D34 ?D35 ?D36 ?D37 ?D38 ?D39 ?D40 ?D41 ?aLEAF_KINDS ?lLEAF_KINDS ?aTURNED_KINDS ?lTURNED_KINDS ?hTURNED_KINDS ?aCPieces ?aCTooMany ?qCTooMany ?clPieces ?mAPieces ?mKPieces ?xf ?zlen ?zlist ?zrange ?zenumerate ?zmax ?zmin ?zsorted ?zisinstance ?zbool ?zint ?zset ?ztuple ?zsum
  (case aCPieces=>k_is)
  (case aCTooMany=>k_is)
  (case D0=>refine' L2.def_in ?a ?l ?c ?k;(case a=>k_is);(case l=>k_is);(case c=>k_is);(case k=>k_is))
  (case D1=>refine' L2.def_in ?a ?l ?c ?k;(case a=>k_is);(case l=>k_is);(case c=>k_is);(case k=>k_is))
  (case D2=>refine' L2.def_in ?a ?l ?c ?k;(case a=>k_is);(case l=>k_is);(case c=>k_is);(case k=>k_is))
  (case D3=>refine' L2.def_in ?a ?l ?c ?k;(case a=>k_is);(case l=>k_is);(case c=>k_is);(case k=>k_is))
  (case D4=>refine' L2.def_in ?a ?l ?c ?k;(case a=>k_is);(case l=>k_is);(case c=>k_is);(case k=>k_is))
  (case D5=>refine' L3.meth_in ?a ?l ?c ?k ?i;(case a=>k_is);(case l=>k_is);(case c=>k_is);(case k=>k_is);(case i=>k_is))
  (case D6=>refine' L3.meth_in ?a ?l ?c ?k ?i;(case a=>k_is);(case l=>k_is);(case c=>k_is);(case k=>k_is);(case i=>k_is))
  (case D7=>refine' L3.meth_in ?a ?l ?c ?k ?i;(case a=>k_is);(case l=>k_is);(case c=>k_is);(case k=>k_is);(case i=>k_is))
  (case D8=>refine' L2.def_in ?a ?l ?c ?k;(case a=>k_is);(case l=>k_is);(case c=>k_is);(case k=>k_is))
  (case D9=>refine' L2.def_in ?a ?l ?c ?k;(case a=>k_is);(case l=>k_is);(case c=>k_is);(case k=>k_is))
  (case D10=>refine' L2.def_in ?a ?l ?c ?k;(case a=>k_is);(case l=>k_is);(case c=>k_is);(case k=>k_is))
  (case D11=>refine' L2.def_in ?a ?l ?c ?k;(case a=>k_is);(case l=>k_is);(case c=>k_is);(case k=>k_is))
  (case D12=>refine' L2.def_in ?a ?l ?c ?k;(case a=>k_is);(case l=>k_is);(case c=>k_is);(case k=>k_is))
  (case D13=>refine' L2.def_in ?a ?l ?c ?k;(case a=>k_is);(case l=>k_is);(case c=>k_is);(case k=>k_is))
  (case D14=>refine' L2.def_in ?a ?l ?c ?k;(case a=>k_is);(case l=>k_is);(case c=>k_is);(case k=>k_is))
  (case D15=>refine' L2.def_in ?a ?l ?c ?k;(case a=>k_is);(case l=>k_is);(case c=>k_is);(case k=>k_is))
  (case D16=>refine' L2.def_in ?a ?l ?c ?k;(case a=>k_is);(case l=>k_is);(case c=>k_is);(case k=>k_is))
  (case D17=>refine' L2.def_in ?a ?l ?c ?k;(case a=>k_is);(case l=>k_is);(case c=>k_is);(case k=>k_is))
  (case D18=>refine' L2.def_in ?a ?l ?c ?k;(case a=>k_is);(case l=>k_is);(case c=>k_is);(case k=>k_is))
  (case D19=>refine' L2.def_in ?a ?l ?c ?k;(case a=>k_is);(case l=>k_is);(case c=>k_is);(case k=>k_is))
  (case D20=>refine' L2.def_in ?a ?l ?c ?k;(case a=>k_is);(case l=>k_is);(case c=>k_is);(case k=>k_is))
  (case D21=>refine' L2.def_in ?a ?l ?c ?k;(case a=>k_is);(case l=>k_is);(case c=>k_is);(case k=>k_is))
  (case D22=>refine' L2.def_in ?a ?l ?c ?k;(case a=>k_is);(case l=>k_is);(case c=>k_is);(case k=>k_is))
  (case D23=>refine' L2.def_in ?a ?l ?c ?k;(case a=>k_is);(case l=>k_is);(case c=>k_is);(case k=>k_is))
  (case D24=>refine' L2.def_in ?a ?l ?c ?k;(case a=>k_is);(case l=>k_is);(case c=>k_is);(case k=>k_is))
  (case D25=>refine' L2.def_in ?a ?l ?c ?k;(case a=>k_is);(case l=>k_is);(case c=>k_is);(case k=>k_is))
  (case D26=>refine' L2.def_in ?a ?l ?c ?k;(case a=>k_is);(case l=>k_is);(case c=>k_is);(case k=>k_is))
  (case D27=>refine' L2.def_in ?a ?l ?c ?k;(case a=>k_is);(case l=>k_is);(case c=>k_is);(case k=>k_is))
  (case D28=>refine' L3.def_inD ?a ?l ?t ?c ?k;(case a=>k_is);(case l=>k_is);(case t=>k_is);(case c=>k_is);(case k=>k_is))
  (case D29=>refine' L2.def_in ?a ?l ?c ?k;(case a=>k_is);(case l=>k_is);(case c=>k_is);(case k=>k_is))
  (case D30=>refine' L2.def_in ?a ?l ?c ?k;(case a=>k_is);(case l=>k_is);(case c=>k_is);(case k=>k_is))
  (case D31=>refine' L2.def_in ?a ?l ?c ?k;(case a=>k_is);(case l=>k_is);(case c=>k_is);(case k=>k_is))
  (case D32=>refine' L2.def_in ?a ?l ?c ?k;(case a=>k_is);(case l=>k_is);(case c=>k_is);(case k=>k_is))
  (case D33=>refine' L2.def_in ?a ?l ?c ?k;(case a=>k_is);(case l=>k_is);(case c=>k_is);(case k=>k_is))
  (case D34=>refine' L2.def_in ?a ?l ?c ?k;(case a=>k_is);(case l=>k_is);(case c=>k_is);(case k=>k_is))
  (case D35=>refine' L2.def_in ?a ?l ?c ?k;(case a=>k_is);(case l=>k_is);(case c=>k_is);(case k=>k_is))
  (case D36=>refine' L2.def_in ?a ?l ?c ?k;(case a=>k_is);(case l=>k_is);(case c=>k_is);(case k=>k_is))
  (case D37=>refine' L2.def_in ?a ?l ?c ?k;(case a=>k_is);(case l=>k_is);(case c=>k_is);(case k=>k_is))
  (case D38=>refine' L2.def_in ?a ?l ?c ?k;(case a=>k_is);(case l=>k_is);(case c=>k_is);(case k=>k_is))
  (case D39=>refine' L2.def_in ?a ?l ?c ?k;(case a=>k_is);(case l=>k_is);(case c=>k_is);(case k=>k_is))
  (case D40=>refine' L2.def_in ?a ?l ?c ?k;(case a=>k_is);(case l=>k_is);(case c=>k_is);(case k=>k_is))
  (case D41=>refine' L2.def_in ?a ?l ?c ?k;(case a=>k_is);(case l=>k_is);(case c=>k_is);(case k=>k_is))
  (case aLEAF_KINDS=>k_is)
  (case lLEAF_KINDS=>k_is)
  (case aTURNED_KINDS=>k_is)
  (case lTURNED_KINDS=>k_is)
  (case hTURNED_KINDS=>rfl)
  (case qCTooMany=>k_exc)
  (case clPieces=>refine' L2.Cls.mk ?pg ?hd ?po ?sa;(case pg=>k_is);(case hd=>k_is);(case po=>k_is);(case sa=>k_is))
  (case mAPieces=>k_is)
  (case mKPieces=>k_is)
  (case xf=>(refine' L3.XFP.mk ?cl ?na;(case cl=>(refine' L2.Cls.mk ?pg ?hd ?po ?sa;(case pg=>k_is);(case hd=>k_is);(case po=>k_is);(case sa=>k_is)));(case na=>(unfold L2.NoAttr;k_is))))
  (case zlen=>k_is)
  (case zlist=>k_is)
  (case zrange=>k_is)
  (case zenumerate=>k_is)
  (case zmax=>k_is)
  (case zmin=>k_is)
  (case zsorted=>k_is)
  (case zisinstance=>k_is)
  (case zbool=>k_is)
  (case zint=>k_is)
  (case zset=>k_is)
  (case ztuple=>k_is)
  (case zsum=>k_is)
 case S=>exact L3.top_start
 case C=>exact fun _ _ _ _ z=>z
#print axioms PySem.Challenge.cw_oncewise_k74_found_holds
