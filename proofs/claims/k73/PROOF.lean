import PyProof.Rows.All
import Wide.All
import OpenK.AllK
import Wide.FinOn
import Lean
import PyProof.EqAt
import PyProof.EqKinds
import PyProof.TupleCall
import PyProof.NeKinds
import PySem.Challenge.RW_oncewise_k73_tries
import OpenK.ZGo
set_option genSizeOf false
set_option bootstrap.genMatcherCode false
set_option compiler.extract_closed false
set_option hygiene false
local macro_rules | `(tactic| walk_at "t")=>`(tactic| (first | assumption | exact Nat.succ_pos _ | exact qt.tk (by assumption) | exact Nat.lt_of_lt_of_le (qt.tk (by assumption)) (Nat.le_add_right _ _) | exact Nat.lt_of_lt_of_le (qt.tk (by assumption)) (by assumption)))
set_option hygiene true
local macro_rules | `(tactic| walk_at "w")=>`(tactic| conv=>whnf)
local macro_rules | `(tactic| walk_at "y")=>`(tactic| ((refine PySem.W.look_both ?_ ?_);(refine PySem.W.look_both ?_ ?_);(refine PySem.W.look_both ?_ ?_);(refine PySem.W.look_both ?_ ?_);(refine PySem.W.look_both ?_ ?_);(refine PySem.W.look_both ?_ ?_)))
set_option Elab.async false
set_option linter.all false
set_option maxRecDepth 100000
abbrev Aa:=@List.length_map
abbrev Ab:=@List.length_append
abbrev Ac:=@PySem.W.Frag
abbrev Ad:=@PySem.wpAny_bind
abbrev Ae:=@List.getElem?_eq_getElem
abbrev Af:=@List.mem_cons_of_mem
abbrev Ag:=@Nat.le_refl
abbrev Ah:=@List.size_toArray
abbrev Ai:=@List.mem_singleton
abbrev Aj:=@Option.map_eq_some_iff
abbrev Ak:=@List.getElem?_map
abbrev Al:=@decide_eq_true
abbrev Am:=@decide_eq_false
abbrev An:=@List.mem_of_getElem?
abbrev Ao:=@List.mem_append_right
abbrev Ap:=@List.length_singleton
abbrev Aq:=@Bool.false_ne_true
abbrev Ar:=@PyProof.Rows.wpS_bind
abbrev As:=@if_neg
abbrev Au:=@List.getElem?_append_right
abbrev Av:=@if_pos
abbrev Aw:=@PySem.wpAny_pure
abbrev Ax:=@List.mem_cons_self
abbrev Ay:=@List.map_cons
abbrev Az:=@List.map_append
abbrev AA:=@List.mem_append
abbrev AB:=@List.take_length
abbrev AC:=@List.mem_cons
abbrev AD:=@List.length_cons
abbrev AE:=@PyProof.Rows.wpS_pure
abbrev AF:=@List.mem_append_left
abbrev AG:=@Nat.lt_of_lt_of_le
abbrev AH:=@List.take_succ
abbrev AI:=@Nat.le_trans
abbrev AJ:=@List.length_take
abbrev AK:=@Option.some.inj
abbrev AL:=@List.append_nil
abbrev AM:=@Nat.lt_of_le_of_lt
abbrev AN:=@List.countP_append
abbrev AO:=@List.getElem?_append_left
abbrev AQ:=@List.getD_eq_getElem?_getD
abbrev AR:=@PySem.wpAny_mono
abbrev AS:=@Ne.symm
abbrev AU:=@List.append_assoc
abbrev AV:=@Bool.and_eq_true
abbrev AW:=@PySem.W.mg_none_of
abbrev AX:=@List.getElem?_eq_some_iff
abbrev AY:=@List.countP_cons
abbrev AZ:=@List.length_range
abbrev A0:=@List.take_append_drop
abbrev A1:=@List.nodup_cons
abbrev A2:=@List.length_set
abbrev A3:=@List.getElem?_set_ne
abbrev A4:=@congrArg
abbrev A5:=@List.mem_map
abbrev A6:=@Nat.ne_of_lt
abbrev A7:=@List.filterMap_cons
abbrev A8:=@PySem.W.kia_one
abbrev A9:=@List.mem_range
abbrev Ba:=@List.length_drop
abbrev Bb:=@Nat.zero_le
abbrev Bc:=@PyProof.Rows.wpS_forRange
abbrev Bd:=@List.lookup_cons
abbrev Be:=@PySem.mem_of_lookup
abbrev Bf:=@Array.getElem?_toList
abbrev Bg:=@List.countP_congr
abbrev Bh:=@List.find?_cons
abbrev Bi:=@Nat.le_of_lt
abbrev Bj:=@Array.length_toList
abbrev Bk:=@List.map_congr_left
abbrev Bl:=@List.flatMap_cons
abbrev Bm:=@List.mem_filter
abbrev Bo:=@Bool.eq_iff_iff
abbrev Bp:=@Int.natCast_nonneg
abbrev Bq:=@decide_eq_true_iff
abbrev Br:=@Int.emod_lt_of_pos
abbrev Bs:=@List.take_of_length_le
abbrev Bt:=@List.getElem_take
abbrev Bu:=@PySem.wpAny_holding
abbrev Bv:=@List.getElem?_range
abbrev Bw:=@List.nodup_range
abbrev Bx:=@List.mem_flatMap
abbrev Bz:=@Nat.lt_irrefl
abbrev BA:=@Int.toNat_natCast
abbrev BB:=@List.pairwise_map
abbrev BC:=@List.countP_eq_length_filter
abbrev BD:=@Int.emod_nonneg
abbrev BE:=@List.filterMap_append
abbrev BF:=@List.pairwise_iff_getElem
abbrev BG:=@List.drop_eq_getElem_cons
abbrev BH:=@PySem.W.look_both
abbrev BI:=@List.map_map
abbrev BJ:=@List.getElem?_of_mem
abbrev BK:=@List.any_cons
abbrev BL:=@Nat.le_add_right
abbrev BM:=@Nat.lt_succ_self
abbrev BN:=@List.getElem?_replicate
abbrev BP:=@Int.mul_le_mul_of_nonneg_right
abbrev BQ:=@List.getElem?_set_self
abbrev BR:=@Bool.false_eq_true
abbrev BS:=@List.filter_append
abbrev BU:=@Nat.min_eq_left
abbrev BV:=@PySem.W.mg_of
abbrev BW:=@List.length_replicate
abbrev BX:=@List.countP_le_length
abbrev BY:=@PyProof.Rows.callWith_type1
abbrev BZ:=@List.take_sublist
abbrev B0:=@Nat.lt_succ_of_lt
abbrev B1:=@Nat.le_succ
abbrev B2:=@List.perm_append_right_iff
abbrev B3:=@List.prod_cons
abbrev B4:=@PyProof.Rows.firstMet_succ
abbrev B5:=@List.all_eq_true
abbrev B6:=@Nat.zero_add
abbrev B7:=@List.flatMap_append
abbrev B8:=@List.countP_eq_zero
abbrev B9:=@List.take_succ_cons
abbrev Cc:=@List.Pairwise.imp_of_mem
abbrev Cd:=@List.sum_cons
abbrev Ce:=@List.mem_filterMap
abbrev Cf:=@PySem.W.callWith_K
abbrev Cg:=@List.getElem?_cons_succ
abbrev Ci:=@List.map_nil
abbrev Cj:=@Bool.and_false
abbrev Ck:=@List.length_eq_countP_add_countP
abbrev Cm:=@List.zipWith_nil_right
abbrev Cn:=@PySem.F.slot_dict_get
abbrev Co:=@List.getElem?_eq_none
abbrev Cp:=@Nat.le_of_ble_eq_true
abbrev Cq:=@List.singleton_append
abbrev Cr:=@List.countP_eq_length
abbrev Cs:=@List.zipWith_nil_left
abbrev Ct:=@List.getElem_mem
abbrev Cu:=@List.filter_cons
abbrev Cv:=@List.cons_append
abbrev Cw:=@Nat.mul_assoc
abbrev Cy:=@PySem.W.hideAll_none
abbrev Cz:=@Int.le_refl
abbrev CA:=@List.mem_of_mem_take
abbrev CB:=@List.mem_of_mem_drop
abbrev CC:=@Nat.pow_le_pow_right
abbrev CD:=@List.length_zip
abbrev CF:=@Nat.not_lt_zero
abbrev CG:=@PySem.W.hideAll_get
abbrev CH:=@PySem.W.plainGet_of
abbrev CI:=@Int.toNat_of_nonneg
abbrev CJ:=@Nat.add_comm
abbrev CK:=@Int.zero_add
abbrev CL:=@Nat.mul_comm
abbrev CM:=@Bool.false_and
abbrev CN:=@PySem.F.excBase_ValueError
abbrev CO:=@List.getElem?_take
abbrev CP:=@List.getElem?_drop
abbrev CQ:=@List.Perm.refl
abbrev CS:=@List.pairwise_cons
abbrev CT:=@List.nodup_nil
abbrev CU:=@List.find?_eq_none
abbrev CV:=@PySem.F.slot_dict_getitem
abbrev CW:=@List.perm_append_left_iff
abbrev CY:=@PySem.W.kitx_list
abbrev CZ:=@Bool.not_eq_true'
abbrev C0:=@List.ext_getElem?
abbrev C1:=@List.getElem?_take_of_lt
abbrev C2:=@List.all_cons
abbrev C3:=@Bool.and_true
abbrev C4:=@List.getElem_append_left
abbrev C5:=@List.map_drop
abbrev C6:=@List.Perm.eq_of_pairwise
abbrev C7:=@PySem.F.args_dict_get_3
abbrev C8:=@List.pairwise_singleton
abbrev C9:=@List.getElem?_set_self'
abbrev Dc:=@congrFun
abbrev Dd:=@Nat.succ_pos
abbrev De:=@PySem.W.cellsFrom_some
abbrev Df:=@PySem.F.entry_dict_get
abbrev Dg:=@List.drop_of_length_le
abbrev Dh:=@Nat.lt_or_ge
abbrev Di:=@Int.le_trans
abbrev Dj:=@Nat.add_zero
abbrev Dk:=@Nat.pow_succ
abbrev Dl:=@List.of_mem_zip
abbrev Dm:=@Bool.or_eq_true
abbrev Dn:=@List.range_succ
abbrev Do:=@List.sum_append
abbrev Dp:=@List.drop_zero
abbrev Dq:=@Nat.one_mul
abbrev Dr:=@Bool.true_and
abbrev Ds:=@List.cons.inj
abbrev Dt:=@List.map_take
abbrev Du:=@Prod.ext
noncomputable section
namespace L2
open PySem PyProof.Rows
theorem gI{M:Model}{Γ:Ctx}{p:Pos}{t:Sem Fin}{fs:List Frame}{s s':Shared}{e:End}(h:Runs M Γ p t fs s e s'):s.toks≤s'.toks:=by induction h with|fresh _ ih=>exact AI (B1 _) ih|call _ _ ih1 ih2=>exact AI ih1 ih2|resumeFresh _ _ _ _ ih1 ih2=>exact AI ih1 ih2|resumeSuspended _ _ _ _ ih1 ih2=>exact AI ih1 ih2|segRet _ _ ih1 ih2=>exact AI ih1 ih2|segGen _ _ ih1 ih2=>exact AI ih1 ih2|segSuspGen _ _ _ _ ih1 ih2=>exact AI ih1 ih2|_=>first | exact Ag _ | assumption
theorem qD{M:Model}{Γ:Ctx}{p:Pos}{g:Nat}{r:Resume}{s s':Shared}{res:GenResult}(h:Wakes M Γ p g r s res s'):s.toks≤s'.toks:=by
 unfold Wakes at h;split at h
 ·exact h.elim
 ·split at h
  ·obtain⟨e,s1,hr,_,_,rfl⟩:=h;have q:=gI hr;exact q
  ·obtain⟨_,rfl⟩:=h;exact Ag _
  ·obtain⟨_,rfl⟩:=h;exact Ag _
 ·obtain⟨e,s1,hr,_,_,rfl⟩:=h;have q:=gI hr;exact q
 ·obtain⟨_,rfl⟩:=h;exact Ag _
 ·obtain⟨_,rfl⟩:=h;exact Ag _
theorem ach{α:Type}{M:Model}{Γ:Ctx}(t:Sem α):∀{Q:α->Pos->Shared->Prop} {E:Value->Pos->Shared->Prop} {p:Pos} {s:Shared} (n:Nat),n≤s.toks->Sem.wp M Γ t Q E p s->Sem.wp M Γ t (fun a p' s'=>Q a p' s'/\n≤s'.toks) (fun e p' s'=>E e p' s'/\n≤s'.toks) p s:=by induction t with|pure a=>intro Q E p s n hn h;exact⟨h,hn⟩|raise e=>intro Q E p s n hn h;exact⟨h,hn⟩|load a part k ih=>intro Q E p s n hn ⟨o,h1,h2⟩;exact⟨o,h1,ih o n hn h2⟩|update a part f k ih=>intro Q E p s n hn ⟨h1,h2⟩;exact⟨h1,ih () n hn h2⟩|fresh k ih=>intro Q E p s n hn h;exact ih s.toks n (AI hn (B1 _)) h|choose src m k ih=>intro Q E p s n hn ⟨h1,h2⟩;exact⟨h1,ih _ n hn h2⟩|call c hd g l k ih=>intro Q E p s n hn ⟨r,s',h1,h2⟩;exact⟨r,s',h1,ih r n (AI hn (gI h1)) h2⟩|genState g k ih=>intro Q E p s n hn ⟨st,h1,h2⟩;exact⟨st,h1,ih _ n hn h2⟩|resume g r l k ih=>intro Q E p s n hn ⟨res,s',h1,h2⟩;exact⟨res,s',h1,ih _ n (AI hn (qD h1)) h2⟩|rule tag k ih=>intro Q E p s n hn h;exact ih () n hn h|«at» pos k ih=>intro Q E p s n hn h;exact ih () n hn h|alloc o k ih=>intro Q E p s n hn h;exact ih _ n hn h|loadIfAlive a k ih=>intro Q E p s n hn h;exact ih _ n hn h|point l k ih=>intro Q E p s n hn h;exact ih _ n hn h|ask k ih=>intro Q E p s n hn h;exact ih _ n hn h|os q l k ih=>intro Q E p s n hn h;exact ih _ n hn h|handled own k ih=>intro Q E p s n hn h;exact ih _ n hn h|newGen c k ih=>intro Q E p s n hn h;exact ih _ n hn h|stack k ih=>intro Q E p s n hn h;exact ih _ n hn h|thread k ih=>intro Q E p s n hn h;exact ih _ n hn h|unsupported w=>intro Q E p s n hn h;exact h.elim|finish e=>intro Q E p s n hn h;exact h.elim|register a k ih=>intro Q E p s n hn h;exact h.elim|yield v g l k ih=>intro Q E p s n hn h;exact h.elim|fork c k ih=>intro Q E p s n hn h;exact h.elim|await a f d l k ih=>intro Q E p s n hn h;exact h.elim
theorem rA{α:Type}{M:Model}{A:Around}{t:Sem α}{Q:α->Shared->Prop}{E:Value->Shared->Prop}{s:Shared}(h:wpAny M A t Q E s):wpAny M A t (fun a s'=>Q a s'/\s.toks≤s'.toks) (fun e s'=>E e s'/\s.toks≤s'.toks) s:=
 fun Γ p hΓ=>ach t s.toks (Ag _) (h Γ p hΓ)
theorem jx{α:Type}{M:Model}{A:Around}{t:Sem α}{Q:α->Shared->Prop}{E:Value->Shared->Prop}{s:Shared}(hp:0<s.toks)(h:wpAny M A t (fun a s'=>0<s'.toks->Q a s') (fun e s'=>0<s'.toks->E e s') s):wpAny M A t Q E s:=
 AR (rA h) (fun _ _ z=>z.1 (AG hp z.2)) fun _ _ z=>z.1 (AG hp z.2)
end L2
variable {M:PySem.Model}{apos cpos lp p p1 p2 pos pos' px tp:PySem.Pos}{s s':PySem.Shared}{c e elt iter o target tg value:PySem.Expr}{α β κ:Type}{A:PySem.Around}{E Q:PySem.Value->PySem.Shared->Prop}{its us vs:List PySem.Value}{C a b dx f hp l:PySem.Addr}{cd cdv ct doc oc pm u:PySem.Value}{base h h':PySem.Heap}{i j m n q t' x1:Nat}{ch fp:List PySem.Addr}{kn name qual x:PySem.Str}{pins:List (PySem.Addr×PySem.Obj)}{st:PySem.Stmt}{elts es ifs:List PySem.Expr}{body rest:List PySem.Stmt}{R:Nat->Nat->Prop}{B d lo:Int}{mA mg:PySem.Str->Option PySem.Value}{ns:List Int}{kw:List (PySem.Str×PySem.Value)}{prog:PySem.Program}{env:PySem.Env}{fd:PySem.FuncData}{ps:List PySem.Str}{outer:List PySem.Env}{scope:PySem.Scope}{an od:Option PySem.Addr}{osl:Array (Option PySem.Value)}{hs hs':List Nat}{rk:Nat->Nat}{lk:List (Nat×Nat)}
namespace L2
open PySem PySem.Spec PyProof.Rows
abbrev jc:=Sum Int Str
def jM:jc->Value->Bool
 |.inl k,v=>Value.isInt k v
 |.inr x,v=>Value.isStrOf x v
def aly(w:World):jc->Int
 |.inl k=>hashInt k
 |.inr x=>hashStr w x
theorem xi:∀{k:jc} {v:Value},jM k v=true->(∃i t,k=Sum.inl i/\v=Value.int i t)\/(∃x t,k=Sum.inr x/\v=Value.str x t)
 |.inl i,v,h=>by obtain⟨t,e⟩:=Value.isInt_shape (k:=i) (v:=v) h;exact .inl ⟨i,t,rfl,e⟩
 |.inr x,v,h=>by obtain⟨t,e⟩:=Value.isStrOf_shape (x:=x) (v:=v) h;exact .inr ⟨x,t,rfl,e⟩
theorem uA(i:Int)(t:Tok):jM (.inl i) (.int i t)=true:=by simp[jM,Value.isInt]
theorem gO(x:Str)(t:Tok):jM (.inr x) (.str x t)=true:=by simp[jM,Value.isStrOf]
theorem afm(a b:Int):decide ((Sum.inl a:jc)=Sum.inl b)=(a==b):=by
 by_cases e:a=b
 ·subst e;simp
 ·have h:¬(Sum.inl a:jc)=Sum.inl b:=fun q=>e (Sum.inl.inj q);rw[Am h];exact(beq_eq_false_iff_ne.mpr e).symm
theorem ahc(a b:Str):decide ((Sum.inr a:jc)=Sum.inr b)=decide (a=b):=by
 by_cases e:a=b
 ·subst e;simp
 ·have h:¬(Sum.inr a:jc)=Sum.inr b:=fun q=>e (Sum.inr.inj q);rw[Am h,Am e]
theorem ahg(a:Int)(b:Str):decide ((Sum.inl a:jc)=Sum.inr b)=false:=Am (fun q=>nomatch q)
theorem aho(a:Str)(b:Int):decide ((Sum.inr a:jc)=Sum.inl b)=false:=Am (fun q=>nomatch q)
def xh(prog:Program)(w:World):PySem.KeyKind prog w jc where
 is:=jM
 hash:=aly w
 inj:=fun v a b ha hb=>by
  rcases xi ha with⟨i,t,rfl,rfl⟩ | ⟨x,t,rfl,rfl⟩
  ·rcases xi hb with⟨j,u,rfl,e⟩ | ⟨y,u,rfl,e⟩
   ·injection e with e1 _;rw[e1]
   ·exact nomatch e
  ·rcases xi hb with⟨j,u,rfl,e⟩ | ⟨y,u,rfl,e⟩
   ·exact nomatch e
   ·injection e with e1 _;rw[e1]
 byValue:=fun k v h=>by rcases xi h with⟨i,t,rfl,rfl⟩ | ⟨x,t,rfl,rfl⟩<;>rfl
 pyHash:=fun hv h=>by
  rcases xi hv with⟨i,t,rfl,rfl⟩ | ⟨x,t,rfl,rfl⟩
  ·exact wpAny_pyHash_int h
  ·exact wpAny_pyHash_str h
 eqBool:=fun hu hv h=>by
  rcases xi hu with⟨i,t,rfl,rfl⟩ | ⟨x,t,rfl,rfl⟩
  ·rcases xi hv with⟨j,u,rfl,rfl⟩ | ⟨y,u,rfl,rfl⟩
   ·rw[afm] at h;exact wpAny_eqBool_int h
   ·rw[ahg] at h;exact SeqAt.EqAt.int_str i t y u _ _ _ _ h
  ·rcases xi hv with⟨j,u,rfl,rfl⟩ | ⟨y,u,rfl,rfl⟩
   ·rw[aho] at h;exact SeqAt.EqAt.str_int x t j u _ _ _ _ h
   ·rw[ahc] at h;exact wpAny_eqBool_str h
 «strs» := fun k x t v h=>by
  rcases xi h with⟨i,u,rfl,e⟩ | ⟨y,u,rfl,e⟩
  ·exact nomatch e
  ·injection e with e1 _
   subst e1;cases v<;>rfl
theorem oQ(prog:Program)(w:World)(i:Int)(t:Tok):(xh prog w).is (.inl i) (.int i t)=true:=uA i t
theorem oh(prog:Program)(w:World)(x:Str)(t:Tok):(xh prog w).is (.inr x) (.str x t)=true:=gO x t
inductive V where
 |non | bl (b:Bool) | int (i:Int) | str (x:Str) | byt (b:Array UInt8) | flt (b:UInt64) | ref (a:Addr) | ty (n:String)
 deriving DecidableEq
def za:V->Value->Prop
 |.non,u=>u=Value.none
 |.bl b,u=>u=Value.bool b
 |.int i,u=>∃t,u=Value.int i t
 |.str x,u=>∃t,u=Value.str x t
 |.byt b,u=>∃t,u=Value.bytes b t
 |.flt b,u=>∃t,u=Value.float b t
 |.ref a,u=>u=Value.ref a
 |.ty n,u=>u=Value.type n
abbrev zh:List V->List Value->Prop:=Paired za
theorem zh.length{xs:List V}(r:zh xs us):xs.length=us.length:=Paired.length r
theorem zh.get:∀{xs:List V} {us:List Value} {i:Nat} {x:V},zh xs us->xs[i]?=some x->∃u,us[i]?=some u/\za x u
 |_,_,_,_,.nil,e=>by simp at e
 |_,_,0,_,.cons r _,e=>by simp at e;subst e;exact⟨_,rfl,r⟩
 |_,_,i+1,x,.cons _ t,e=>by obtain⟨u,h1,h2⟩:=zh.get (i:=i) (x:=x) t (by simpa using e);exact⟨u,by simpa using h1,h2⟩
theorem zh.set{x:V}{u:Value}(r:za x u):∀{xs:List V} {us:List Value} (i:Nat),zh xs us->zh (xs.set i x) (us.set i u)
 |_,_,_,.nil=>.nil
 |_,_,0,.cons _ t=>.cons r t
 |_,_,i+1,.cons q t=>.cons q (zh.set r i t)
theorem zh.append:∀{xs ys:List V} {us ws:List Value},zh xs us->zh ys ws->zh (xs++ys) (us++ws)
 |_,_,_,_,.nil,s=>s
 |_,_,_,_,.cons r t,s=>.cons r (zh.append t s)
theorem zh.take:∀{xs:List V} {us:List Value} (n:Nat),zh xs us->zh (xs.take n) (us.take n)
 |_,_,0,_=>.nil
 |_,_,_+1,.nil=>.nil
 |_,_,n+1,.cons r t=>.cons r (zh.take n t)
theorem zh.drop:∀{xs:List V} {us:List Value} (n:Nat),zh xs us->zh (xs.drop n) (us.drop n)
 |_,_,0,r=>r
 |_,_,_+1,.nil=>.nil
 |_,_,n+1,.cons _ t=>zh.drop n t
def aq:Option V->Option Value->Prop
 |some v,some u=>za v u
 |none,none=>True
 |_,_=>False
def KV :List (κ×V)->List (κ×Value)->Prop:=Paired fun(p:κ×V) (q:κ×Value)=>p.1=q.1/\za p.2 q.2
def kV:jc->V
 |.inl i=>.int i
 |.inr x=>.str x
inductive HO where
 |lst (xs:List V)
 |tup (xs:List V)
 |dK (kvs:List (jc×V)) | dT (kvs:List (List jc×V))
 |set (S:Int->Bool) (n:Nat)
 |ins (C dx:Addr) (fs:List (Str×V))
 |own (x:Addr)
 |xd (fs:List (Str×V))
 |met (f x:Addr)
 |rng (lo hi:Int)
 |frz (o:Obj) (u:HO)
 |tbl (ps:Array Value)
 |ext (φ:Heap->Prop)
abbrev Hp:=Addr->Option HO
def upd(H:Hp)(a:Addr)(o:HO):Hp:=fun b=>if b=a then some o else H b
theorem xk{H:Hp}{o:HO}:upd H a o a=some o:=by unfold upd;rw[Av rfl]
theorem z7{H:Hp}{o:HO}(h:b≠a):upd H a o b=H b:=by unfold upd;rw[As h]
theorem aj4{H:Hp}{o u:HO}(h:H a=some o)(h':H b=some u)(d:o≠u):a≠b:=by intro e;subst e;rw[h] at h';exact d (AK h')
theorem j8{H:Hp}{o:HO}(h:H a=some o)(h':H b=none):a≠b:=by intro e;subst e;rw[h] at h';cases h'
section
variable (P:Program)(w:World)
def xj(H:Hp)(h:Heap)(a:Addr):HO->Prop
 |.lst xs=>xs.length≤sizeLine/\∃(its:List Value) (n:Nat),zh xs its/\h.get? a=some { cls:=.type "list",data:=.seq its.toArray n }
 |.tup xs=>xs.length≤sizeLine/\∃its:List Value,zh xs its/\IsTup h a its.toArray
 |.dK kvs=>kvs.length≤sizeLine/\(a==sysModules)=false/\∃vs,KV kvs vs/\h.DictOf (xh P w) a vs
 |.dT kvs=>kvs.length≤sizeLine/\(a==sysModules)=false/\∃xs:List (List jc×Addr×Value),
  Paired (fun(p:List jc×V) (q:List jc×Addr×Value)=>p.1=q.1/\H q.2.1=some (.tup (p.1.map kV))/\za p.2 q.2.2) kvs xs/\
  ∃o es ep,h.get? a=some o/\o.ExactDict/\o.data=.dict es ep/\es.toList=xs.map (entryOfKey (tupleKind (xh P w)))/\(xs.map (·.1)).Nodup
 |.set S n=>h.SetOf (intKind P w) a S n
 |.ins C dx fs=>H dx=some (.own a)/\fs.length≤1000/\dx≠a/\h.get? a=some (PySem.W.instObj C dx)/\
  ∃mA,h.Ns1 dx mA/\(∀f,aq (fs.lookup f) (mA f))/\PySem.Within mA (fs.map (·.1))
 |.own _=>∃o,h.get? a=some o
 |.xd fs=>∃mA,h.Ns1 a mA/\∀f,aq (fs.lookup f) (mA f)
 |.rng lo hi=>∃t u v,h.get? a=some { cls:=.type "range",data:=.fields #[.int lo t,.int hi u,.int 1 v] }
 |.frz o u=>h.get? a=some o/\xj H h a u
 |.tbl ps=>h.get? a=some { cls:=.none,data:=.fields ps }
 |.met f x=>h.get? a=some (PySem.W.methodObj (.ref f) (.ref x))
 |.ext φ=>φ h/\(∃o,h.get? a=some o)/\∀h1 h2:Heap,φ h1->(∀o,h1.get? a=some o->h2.get? a=some o)->φ h2
def bx(H:Hp)(h:Heap):Prop:=∀a o,H a=some o->xj P w H h a o
end
section
variable {P:Program}{w:World}{H H':Hp}{o:HO}
theorem xj.lt(x:xj P w H h a o):a<h.objs.size:=by
 cases o with
 |lst xs=>obtain⟨_,_,_,_,e⟩:=x;exact Heap.lt_size e
 |tup xs=>obtain⟨_,_,_,p⟩:=x;exact p.lt
 |dK kvs=>obtain⟨_,_,_,_,o,_,_,e,_⟩:=x;exact Heap.lt_size e
 |dT kvs=>obtain⟨_,_,_,_,o,_,_,e,_⟩:=x;exact Heap.lt_size e
 |set S n=>obtain⟨o,_,_,_,e,_⟩:=x;exact Heap.lt_size e
 |ins C dx fs=>obtain⟨_,_,_,e,_⟩:=x;exact Heap.lt_size e
 |own y=>obtain⟨_,e⟩:=x;exact Heap.lt_size e
 |xd fs=>obtain⟨_,⟨_,_,_,e,_⟩,_⟩:=x;exact Heap.lt_size e
 |rng lo hi=>obtain⟨_,_,_,e⟩:=x;exact Heap.lt_size e
 |frz ob u=>obtain⟨e,_⟩:=x;exact Heap.lt_size e
 |tbl ps=>exact Heap.lt_size (show h.get? a=some _ from x)
 |met f y=>exact Heap.lt_size (show h.get? a=some _ from x)
 |ext φ=>obtain⟨_,⟨_,e⟩,_⟩:=x;exact Heap.lt_size e
theorem Paired.mapP{α β:Type}{F G:α->β->Prop}:∀{l₁:List α} {l₂:List β},Paired F l₁ l₂->(∀a b,F a b->G a b)->Paired G l₁ l₂
 |_,_,.nil,_=>.nil
 |_,_,.cons r t,f=>.cons (f _ _ r) (Paired.mapP t f)
abbrev DF:=@Paired.mapP
theorem xj.stay(x:xj P w H h a o)(k:∀b u,(b=a\/H b=some (.own a))->h.get? b=some u->h'.get? b=some u)
 (ho:∀b,H b=some (.own a)->H' b=some (.own a)) (ht:∀b xs,H b=some (.tup xs)->H' b=some (.tup xs)):xj P w H' h' a o:=by
 induction o with
 |lst xs=>obtain⟨z,its,n,r,e⟩:=x;exact⟨z,its,n,r,k _ _ (.inl rfl) e⟩
 |tup xs=>obtain⟨z,its,r,ob,e,c⟩:=x;exact⟨z,its,r,ob,k _ _ (.inl rfl) e,c⟩
 |dK kvs=>obtain⟨z,y,vs,r,ob,es,ep,e,c⟩:=x;exact⟨z,y,vs,r,ob,es,ep,k _ _ (.inl rfl) e,c⟩
 |dT kvs=>
  obtain⟨z,y,xs,r,ob,es,ep,e,c⟩:=x;exact⟨z,y,xs,DF r fun p q z=>⟨z.1,ht _ _ z.2.1,z.2.2⟩,ob,es,ep,k _ _ (.inl rfl) e,c⟩
 |set S n=>obtain⟨ob,es,ep,t,e,c⟩:=x;exact⟨ob,es,ep,t,k _ _ (.inl rfl) e,c⟩
 |ins C dx fs=>
  obtain⟨d,z,ne,e,mA,⟨od,es,ep,e2,c⟩,r⟩:=x;exact⟨ho _ d,z,ne,k _ _ (.inl rfl) e,mA,⟨od,es,ep,k _ _ (.inr d) e2,c⟩,r⟩
 |own y=>obtain⟨ob,e⟩:=x;exact⟨ob,k _ _ (.inl rfl) e⟩
 |xd fs=>obtain⟨mA,⟨od,es,ep,e,c⟩,r⟩:=x;exact⟨mA,⟨od,es,ep,k _ _ (.inl rfl) e,c⟩,r⟩
 |rng lo hi=>obtain⟨t,u,v,e⟩:=x;exact⟨t,u,v,k _ _ (.inl rfl) e⟩
 |frz ob u ih=>obtain⟨e,q⟩:=x;exact⟨k _ _ (.inl rfl) e,ih q⟩
 |tbl ps=>
  have e:h.get? a=some { cls:=.none,data:=.fields ps }:=x;show h'.get? a=some { cls:=.none,data:=.fields ps };exact k a _ (.inl rfl) e
 |met f y=>
  have e:h.get? a=some (PySem.W.methodObj (.ref f) (.ref y)):=x;show h'.get? a=some (PySem.W.methodObj (.ref f) (.ref y));exact k a _ (.inl rfl) e
 |ext φ=>obtain⟨p,⟨o,e⟩,st⟩:=x;exact⟨st _ _ p fun o q=>k _ _ (.inl rfl) q,⟨o,k _ _ (.inl rfl) e⟩,st⟩
theorem bx.lt(x:bx P w H h)(e:H a=some o):a<h.objs.size:=(x a o e).lt
theorem bx.fresh(x:bx P w H h)(e:h.objs.size≤a):H a=none:=by cases q:H a with|none=>rfl|some u=>exact absurd (AG (x.lt q) e) (Bz _)
theorem bx.kept(x:bx P w H h)(k:∀b u,h.get? b=some u->h'.get? b=some u):bx P w H h':=fun a o e=>
 (x a o e).stay (fun b u _ q=>k b u q) (fun _ q=>q) fun _ _ q=>q
theorem bx.laid(x:bx P w H h)(k:∀b u,h.get? b=some u->h'.get? b=some u)(hp:h.objs.size≤a)(new:xj P w (upd H a o) h' a o):bx P w (upd H a o) h':=fun b u e=>by
 have hn:=x.fresh hp;by_cases hb:b=a
 ·subst hb;rw[xk] at e;cases e;exact new
 ·rw[z7 hb] at e;exact(x b u e).stay (fun c v _ q=>k c v q) (fun c q=>by rw[z7 (j8 q hn)];exact q) fun c xs q=>by rw[z7 (j8 q hn)];exact q
end
def Rd(H:Hp)(a:Addr)(u:HO):Prop:=H a=some u\/∃o,H a=some (.frz o u)
theorem Rd.ok{P:Program}{w:World}{H:Hp}{u:HO}(r:Rd H a u)(x:bx P w H h):xj P w H h a u:=by
 rcases r with r | ⟨o,r⟩
 ·exact x a u r
 ·obtain⟨_,q⟩:=x a _ r;exact q
def Mut:Option HO->Prop
 |some (.lst _)=>True
 |some (.dK _)=>True
 |some (.dT _)=>True
 |some (.set _ _)=>True
 |some (.ins _ _ _)=>True
 |some (.ext _)=>True
 |_=>False
section
variable {P:Program}{w:World}{H:Hp}{x e:Addr}{o':HO}
theorem bx.write(ok:bx P w H h)(mu:Mut (H x))(he:e=x\/H e=some (.own x))(k:∀b u,b≠e->h.get? b=some u->h'.get? b=some u)(heo:∃u,h'.get? e=some u)
 (new:xj P w (upd H x o') h' x o'):bx P w (upd H x o') h':=fun b u q=>by
 have nown:∀c y,H c=some (.own y)->c≠x:=fun c y r z=>by subst z;rw[r] at mu;exact mu
 have ntup:∀c xs,H c=some (.tup xs)->c≠x:=fun c xs r z=>by subst z;rw[r] at mu;exact mu
 by_cases hb:b=x
 ·subst hb;rw[xk] at q;cases q;exact new
 ·rw[z7 hb] at q;by_cases hbe:b=e
  ·have q':H b=some (.own x):=by
    rcases he with z | z
    ·exact absurd (hbe.trans z) hb
    ·rw[hbe];exact z
   rw[q] at q';cases q';obtain⟨v,hv⟩:=heo;exact⟨v,by rw[hbe];exact hv⟩
  ·refine(ok b u q).stay (fun c v hc r=>k c v ?_ r) (fun c r=>by rw[z7 (nown c b r)];exact r) fun c xs r=>by rw[z7 (ntup c xs r)];exact r
   rcases hc with rfl | hc
   ·exact hbe
   ·rintro rfl;rcases he with z | z
    ·exact nown c b hc z
    ·rw[hc] at z;cases z;exact hb rfl
end
structure Un(fs ex:List Addr)(H H':Hp)(h h':Heap):Prop where
 keep:∀b o,h.get? b=some o->H b=none->b∉fs->b∉ex->h'.get? b=some o
 slot:∀b o,h.get? b=some o->H b=none->b∈fs->b∉ex->∃sl,h'.get? b=some { o with slots:=sl }
 free:∀b o,h.get? b=some o->H b=none->b∉ex->H' b=none
 there:∀b o,h.get? b=some o->b∉ex->∃o',h'.get? b=some o'
 tups:∀b xs,H b=some (.tup xs)->H' b=some (.tup xs)
 frzs:∀b o u,H b=some (.frz o u)->H' b=some (.frz o u)
 tbls:∀b ps,H b=some (.tbl ps)->∃more,H' b=some (.tbl (ps++more))
section
variable {fs fs' ex ex':List Addr}{H H1 H2:Hp}{h1 h2:Heap}{x e:Addr}{o:HO}
theorem Un.any(u:Un fs ex H H1 h h1){ob:Obj}(q:h.get? b=some ob)(n:H b=none)(hx:b∉ex):∃sl,h1.get? b=some { ob with slots:=sl }:=by
 by_cases hb:b∈fs
 ·exact u.slot b ob q n hb hx
 ·exact⟨ob.slots,u.keep b ob q n hb hx⟩
theorem Un.kept(k:∀b u,h.get? b=some u->h'.get? b=some u):Un fs ex H H h h':=
 ⟨fun b ob q _ _ _=>k b ob q,fun b ob q _ _ _=>⟨ob.slots,k b ob q⟩,fun _ _ _ n _=>n,fun b ob q _=>⟨ob,k b ob q⟩,fun _ _ q=>q,fun _ _ _ q=>q,fun _ ps q=>⟨#[],by rw[q];simp⟩⟩
theorem Un.refl:Un fs ex H H h h:=Un.kept fun _ _ q=>q
theorem Un.laid(k:∀b u,h.get? b=some u->h'.get? b=some u)(hp:h.objs.size≤a)(hn:H a=none):Un fs ex H (upd H a o) h h' where
 keep:=fun b u q _ _ _=>k b u q
 slot:=fun b u q _ _ _=>⟨u.slots,k b u q⟩
 free:=fun b u q n _=>by rw[z7 (A6 (AG (Heap.lt_size q) hp))];exact n
 there:=fun b u q _=>⟨u,k b u q⟩
 tups:=fun b xs q=>by rw[z7 (j8 q hn)];exact q
 frzs:=fun b u xs q=>by rw[z7 (j8 q hn)];exact q
 tbls:=fun b ps q=>⟨#[],by rw[z7 (j8 q hn),q];simp⟩
theorem Un.write(mu:Mut (H x))(he:e=x\/H e=some (.own x))(k:∀b u,b≠e->h.get? b=some u->h'.get? b=some u)(heo:∃u,h'.get? e=some u):Un fs ex H (upd H x o) h h':=by
 have hx:∀b,H b=none->b≠x:=fun b n z=>by subst z;rw[n] at mu;exact mu
 have hb:∀b,H b=none->b≠e:=fun b n z=>by
  subst z;rcases he with r | r
  ·exact hx b n r
  ·rw[n] at r;cases r
 have hm:∀b u,H b=some u->¬Mut (some u)->b≠x:=fun b u q nm z=>by subst z;rw[q] at mu;exact nm mu
 refine⟨fun b u q n _ _=>k b u (hb b n) q,fun b u q n _ _=>⟨u.slots,k b u (hb b n) q⟩,fun b u q n _=>by rw[z7 (hx b n)];exact n,fun b u q _=>?_,
  fun b xs q=>by rw[z7 (hm b _ q fun z=>z)];exact q,fun b u xs q=>by rw[z7 (hm b _ q fun z=>z)];exact q,fun b ps q=>⟨#[],by rw[z7 (hm b _ q fun z=>z),q];simp⟩⟩
 by_cases hbe:b=e
 ·subst hbe;exact heo
 ·exact⟨u,k b u hbe q⟩
end
def trk(h:Heap)(H:Hp):List Addr:=(List.range h.objs.size).filter fun a=>(H a).isSome
def mM(h:Heap)(H:Hp):Heap:=PySem.W.hideAll h (trk h H)
theorem uJ(h:Heap)(H:Hp):(mM h H).objs.size=h.objs.size:=PySem.W.hideAll_size _ _
theorem yu{H:Hp}{o:Obj}(e:h.get? b=some o)(n:H b=none):(mM h H).get? b=some o:=
 CG _ e fun hm=>by have q:(H b).isSome=true:=(Bm.mp hm).2;rw[n] at q;simp at q
theorem aaj{H:Hp}{o:Obj}(e:(mM h H).get? b=some o):h.get? b=some o/\H b=none:=by
 have e':h.get? b=some o:=PySem.W.of_hideAll (trk h H) e;refine⟨e',?_⟩;cases q:H b with
 |none=>rfl
 |some x=>
  have hm:b∈trk h H:=Bm.mpr ⟨A9.mpr (Heap.lt_size e'),by simp[q]⟩;have z:(mM h H).get? b=none:=Cy (trk h H) hm;rw[z] at e;cases e
end L2
variable {xs zs:List L2.V}{H H' H₀:L2.Hp}{v:L2.V}{kvs:List (List L2.jc×L2.V)}
namespace L2
open PySem PySem.Spec PyProof.Rows
structure Mod(K:Ac)(mg:Str->Option Value)(base:Heap):Prop where
 kin:K.In base
 glob:base.Ns mainGlobals mg
 blt:∃mb,base.Ns builtinsNs mb/\∀x:Str,x ≠ "__name__" -> mb x=bootBuiltins x
 nolimit:base.NoLimit
structure Cx where
 prog:Program
 w:World
 K:Ac
 mg:Str->Option Value
 base:Heap
 A:Around
 N:List Str
 s₀:Shared
 H₀:Hp
 env:Env
 outer:List Env
 stack:List Env
 ex:List Addr
 fn:Str->Bool
 calm:Bool
 pn:List (Addr×Obj)
 xe:Value->Shared->Prop
def dC(l:List Env):List Addr:=l.filterMap (·.frame)
abbrev Cx.fs(X:Cx):List Addr:=dC X.outer
def Vis(sc:Scope)(x:Str):Prop:=sc.names.lookup x=some .local\/sc.names.lookup x=some .cell\/sc.names.lookup x=some .free
def tZ(sc:Scope)(x:Str):Prop:=sc.names.lookup x=some .local\/sc.names.lookup x=some .cell
def anj(env:Env)(h:Heap)(m:Str->Option Value)(x:Str)(u:Value):Prop:=
 (env.kindOf x=some .local/\m x=some u)\/((env.kindOf x=some .cell\/env.kindOf x=some .free)/\∃c,env.cells.lookup x=some c/\h.IsCell c (some u))
structure Cx.Ok(X:Cx):Prop where
 mod:Mod X.K X.mg X.base
 kind:X.env.scope.kind=.function
 glob:X.env.globals=mainGlobals
 blt:X.env.builtins=builtinsNs
 above:X.s₀.heap.objs.size≤X.env.locals
 inj:∀x y c,X.env.cells.lookup x=some c->X.env.cells.lookup y=some c->x=y
 has:∀x,(X.env.kindOf x=some .cell\/X.env.kindOf x=some .free)->∃c,X.env.cells.lookup x=some c
 cab:∀x c,X.fn x=true->X.env.cells.lookup x=some c->X.s₀.heap.objs.size≤c
 hd:X.calm=true->X.A.handled=none
 frames:X.A.frames=some X.stack
 stk:X.stack=X.outer\/(X.stack=X.env::X.outer/\X.env.frame=some X.env.locals)
 exf:∀b∈X.ex,b≠X.env.locals/\∀x c,X.env.cells.lookup x=some c->c≠b
 bs:∀b o,X.base.get? b=some o->X.s₀.heap.get? b=some o/\X.H₀ b=none
 bsz:X.base.objs.size≤X.s₀.heap.objs.size
 noex:∀b o,X.base.get? b=some o->b∉X.ex
 exfs:∀b∈X.ex,b∉X.fs
 funs:X.s₀.heap.FunFrames X.base X.outer
 frf:∀b∈X.fs,X.H₀ b=none
structure qt(X:Cx)(pins:List (Addr×Obj))(σ:List (Option V))(H:Hp)(s:Shared):Prop where
 ok:X.Ok
 os:s.os=X.s₀.os
 bare:AllBare s.gens
 base:Un X.fs X.ex X.H₀ H X.s₀.heap s.heap
 loc:∃m,s.heap.Ns X.env.locals m/\∀(i:Nat) (x:Str) (v:V),X.N[i]?=some x->σ[i]?=some (some v)->Vis X.env.scope x->∃u,za v u/\anj X.env s.heap m x u
 cell:∀x c,X.env.cells.lookup x=some c->∃v,s.heap.IsCell c v
 free:H X.env.locals=none
 freeC:∀x c,X.env.cells.lookup x=some c->H c=none
 pin:∀p∈X.pn++pins,s.heap.get? p.1=some p.2/\H p.1=none/\p.1≠X.env.locals/\p.1∉X.fs/\∀v,p.2.data≠.cell v
 hok:bx X.prog X.w H s.heap
 len:σ.length=X.N.length
 tk:0<s.toks
section
variable {X:Cx}{σ:List (Option V)} 
theorem Cx.Ok.nofr(ok:X.Ok){o:Obj}(e:X.base.get? b=some o):b∉X.fs:=fun hb=>by have:=(ok.funs.mem hb).1;rw[e] at this;cases this
theorem qt.bs(I:qt X pins σ H s):∀b o,X.base.get? b=some o->s.heap.get? b=some o/\H b=none:=fun b o e=>
 ⟨I.base.keep b o (I.ok.bs b o e).1 (I.ok.bs b o e).2 (I.ok.nofr e) (I.ok.noex b o e),I.base.free b o (I.ok.bs b o e).1 (I.ok.bs b o e).2 (I.ok.noex b o e)⟩
theorem qt.bk(I:qt X pins σ H s):∀b o,X.base.get? b=some o->s.heap.get? b=some o:=fun b o e=>(I.bs b o e).1
theorem qt.mod(I:qt X pins σ H s):Mod X.K X.mg X.base:=I.ok.mod
theorem qt.kIn(I:qt X pins σ H s):X.K.In s.heap:=I.ok.mod.kin.keeps I.bk
theorem qt.lt(I:qt X pins σ H s):X.env.locals<s.heap.objs.size:=let ⟨_,hn,_⟩:=I.loc;hn.lt
theorem qt.sz(I:qt X pins σ H s):X.s₀.heap.objs.size≤s.heap.objs.size:=AI I.ok.above (Bi I.lt)
theorem qt.nofs(I:qt X pins σ H s)(h:s.heap.objs.size≤a):a∉X.fs:=fun hb=>by obtain⟨_,o,ho,_⟩:=I.ok.funs.mem hb;exact absurd (AG (Heap.lt_size ho) (AI I.sz h)) (Bz _)
theorem qt.cne(I:qt X pins σ H s):∀x c,X.env.cells.lookup x=some c->c≠X.env.locals:=fun x c e z=>by obtain⟨v,o,ho,hd⟩:=I.cell x c e;obtain⟨m,⟨o',es,ep,ho',hd',_⟩,_⟩:=I.loc;rw[z,ho'] at ho;cases ho;rw[hd'] at hd;cases hd
theorem qt.funs(I:qt X pins σ H s):s.heap.FunFrames X.base X.outer:=by
 have all:∀(l:List Env),(∀b∈dC l,b∈X.fs)->X.s₀.heap.FunFrames X.base l->s.heap.FunFrames X.base l:=by
  intro l
  induction l with
  |nil=>intro _ _;trivial
  |cons env r ih=>
   intro hs hl;obtain⟨hk,⟨L,o,hf,hn,ho,hd⟩,hr⟩:=hl;have hL:L∈X.fs:=hs L (by unfold dC;rw[A7,hf];exact Ax);obtain⟨sl,e⟩:=I.base.slot L o ho (I.ok.frf L hL) hL fun z=>I.ok.exfs L z hL;exact⟨hk,⟨L,_,hf,hn,e,hd⟩,ih (fun b hb=>hs b (by unfold dC;rw[A7,hf];exact Af _ hb)) hr⟩
 exact all X.outer (fun _ hb=>hb) I.ok.funs
theorem qt.stack(I:qt X pins σ H s):s.heap.FunFrames X.base X.stack:=by
 rcases I.ok.stk with e | ⟨e,hf⟩
 ·rw[e];exact I.funs
 ·rw[e];obtain⟨m,hn,_⟩:=I.loc;refine .cons (by rw[I.ok.kind];decide) hf hn ?_ I.funs;exact Heap.get?_none_of_le (AI I.ok.bsz I.ok.above)
theorem qt.stkSub(I:qt X pins σ H s):∀b∈dC X.stack,b∈X.env.locals::X.fs:=fun b hb=>by
 rcases I.ok.stk with e | ⟨e,hf⟩
 ·rw[e] at hb;exact Af _ hb
 ·rw[e] at hb;unfold dC at hb;rw[A7,hf] at hb;exact hb
theorem qt.stkFree(I:qt X pins σ H s):∀b∈dC X.stack,H b=none:=fun b hb=>by
 rcases AC.mp (I.stkSub b hb) with e | hb
 ·rw[e];exact I.free
 ·obtain⟨_,o,ho,_⟩:=I.ok.funs.mem hb;exact I.base.free b o ho (I.ok.frf b hb) fun z=>I.ok.exfs b z hb
theorem qt.step{g':Array GenState}{d':Drawn}(I:qt X pins σ H s)
 (hch:∀b∈ch,(b∈X.ex\/X.s₀.heap.objs.size≤b)/\b≠X.env.locals/\(∀x c,X.env.cells.lookup x=some c->c≠b)/\∀p∈X.pn++pins,p.1≠b)
 (keep:∀b o,b≠X.env.locals->b∉X.fs->b∉ch->s.heap.get? b=some o->H b=none->h'.get? b=some o)
 (slot:∀b o,b≠X.env.locals->b∈X.fs->b∉ch->s.heap.get? b=some o->H b=none->∃sl,h'.get? b=some { o with slots:=sl }) (free:∀b o,b∉ch->s.heap.get? b=some o->H b=none->H' b=none)
 (there:∀b o,b∉ch->s.heap.get? b=some o->∃o',h'.get? b=some o')
 (tups:∀b xs,H b=some (.tup xs)->H' b=some (.tup xs)) (frzs:∀b o u,H b=some (.frz o u)->H' b=some (.frz o u)) (tbls:∀b ps,H b=some (.tbl ps)->∃more,H' b=some (.tbl (ps++more)))
 (ns:∀m,s.heap.Ns X.env.locals m->h'.Ns X.env.locals m) (hok:bx X.prog X.w H' h') (hg:AllBare g') (ht:0<t':=by walk_at "t"):
 qt X pins σ H' { s with heap:=h',gens:=g',drawn:=d',toks:=t' }:=by
 have ki:∀b o,X.s₀.heap.get? b=some o->b≠X.env.locals:=fun b o e=>A6 (AG (Heap.lt_size e) I.ok.above);have neC:∀b o,X.s₀.heap.get? b=some o->b∉X.ex->b∉ch:=fun b o e hx hb=>by
  rcases (hch b hb).1 with z | z
  ·exact hx z
  ·exact absurd (AG (Heap.lt_size e) z) (Bz _)
 have cellK:∀x c,X.env.cells.lookup x=some c->∀v,s.heap.IsCell c v->h'.IsCell c v:=fun x c e v ⟨o,ho,hd⟩=>by
  have nch:c∉ch:=fun z=>(hch c z).2.2.1 x c e rfl;by_cases hc:c∈X.fs
  ·obtain⟨sl,q⟩:=slot c o (I.cne x c e) hc nch ho (I.freeC x c e);exact⟨_,q,hd⟩
  ·exact⟨o,keep c o (I.cne x c e) hc nch ho (I.freeC x c e),hd⟩
 refine⟨I.ok,I.os,hg,⟨fun b o e n hb hx=>?_,fun b o e n hb hx=>?_,fun b o e n hx=>?_,fun b o e hx=>?_,fun b xs e=>tups b xs (I.base.tups b xs e),fun b o xs e=>frzs b o xs (I.base.frzs b o xs e),fun b ps e=>?_⟩,?_,fun x c e=>?_,?_,fun x c e=>?_,fun p hp=>?_,hok,I.len,ht⟩
 ·exact keep b o (ki b o e) hb (neC b o e hx) (I.base.keep b o e n hb hx) (I.base.free b o e n hx)
 ·obtain⟨sl,e1⟩:=I.base.slot b o e n hb hx;obtain⟨sl',e2⟩:=slot b _ (ki b o e) hb (neC b o e hx) e1 (I.base.free b o e n hx);exact⟨sl',e2⟩
 ·obtain⟨o',e1⟩:=I.base.there b o e hx;exact free b o' (neC b o e hx) e1 (I.base.free b o e n hx)
 ·obtain⟨o',e1⟩:=I.base.there b o e hx;exact there b o' (neC b o e hx) e1
 ·obtain⟨m1,e1⟩:=I.base.tbls b ps e;obtain⟨m2,e2⟩:=tbls b _ e1;exact⟨m1++m2,by rw[e2,Array.append_assoc]⟩
 ·obtain⟨m,hn,hl⟩:=I.loc;refine⟨m,ns m hn,fun i x v e1 e2 e3=>?_⟩;obtain⟨u,r,l⟩:=hl i x v e1 e2 e3;refine⟨u,r,?_⟩;rcases l with l | ⟨k,c,e,z⟩
  ·exact .inl l
  ·exact .inr ⟨k,c,e,cellK x c e _ z⟩
 ·obtain⟨v,z⟩:=I.cell x c e;exact⟨v,cellK x c e v z⟩
 ·obtain⟨m,⟨o,_,_,ho,_⟩,_⟩:=I.loc;exact free _ o (fun z=>(hch _ z).2.1 rfl) ho I.free
 ·obtain⟨v,o,ho,hd⟩:=I.cell x c e;exact free c o (fun z=>(hch c z).2.2.1 x c e rfl) ho (I.freeC x c e)
 ·obtain⟨e,n,ne,nf,d⟩:=I.pin p hp;have nch:p.1∉ch:=fun z=>(hch p.1 z).2.2.2 p hp rfl;exact⟨keep p.1 p.2 ne nf nch e n,free p.1 p.2 nch e n,ne,nf,d⟩
theorem qt.un(I:qt X pins σ H s)(u:Un X.fs [] H H' s.heap h')(hok:bx X.prog X.w H' h')(ht:0<t':=by walk_at "t"):qt X pins σ H' { s with heap:=h',toks:=t' }:=by obtain⟨m,⟨o,es,ep,ho,r⟩,_⟩:=id I.loc;obtain⟨sl,hL⟩:=u.any ho I.free (by simp);exact I.step (g':=s.gens) (d':=s.drawn) (ch:=[]) (fun _ z=>nomatch z) (fun b o _ hb _ e n=>u.keep b o e n hb (by simp)) (fun b o _ hb _ e n=>u.slot b o e n hb (by simp)) (fun b o _ e n=>u.free b o e n (by simp)) (fun b o _ e=>u.there b o e (by simp)) u.tups u.frzs u.tbls (fun m' hm=>by obtain⟨o',es',ep',ho',r'⟩:=hm;rw[ho] at ho';cases ho';exact⟨_,es',ep',hL,r'⟩) hok I.bare
theorem qt.call{g':Array GenState}{d':Drawn}(I:qt X pins σ H s)(u:Un (dC X.stack) ch H H' s.heap h')(hok:bx X.prog X.w H' h')(hg:AllBare g')
 (hch:∀b∈ch,(b∈X.ex\/X.s₀.heap.objs.size≤b)/\b≠X.env.locals/\(∀x c,X.env.cells.lookup x=some c->c≠b)/\∀p∈X.pn++pins,p.1≠b) (ht:0<t':=by walk_at "t"):
 qt X pins σ H' { s with heap:=h',gens:=g',drawn:=d',toks:=t' }:=by
 obtain⟨m,⟨o,es,ep,ho,r⟩,_⟩:=id I.loc;obtain⟨sl,hL⟩:=u.any ho I.free fun z=>(hch _ z).2.1 rfl;exact I.step (ch:=ch) hch (fun b o hL hb hc e n=>u.keep b o e n (fun z=>(AC.mp (I.stkSub b z)).elim hL hb) hc) (fun b o _ _ hc e n=>u.any e n hc) (fun b o hc e n=>u.free b o e n hc) (fun b o hc e=>u.there b o e hc) u.tups u.frzs u.tbls (fun m' hm=>by obtain⟨o',es',ep',ho',r'⟩:=hm;rw[ho] at ho';cases ho';exact⟨_,es',ep',hL,r'⟩) hok hg
theorem qt.turned{it:Addr}(I:qt X pins σ H s)(k:∀b o,b≠it->s.heap.get? b=some o->h'.get? b=some o)(hn:H it=none)(hL:it≠X.env.locals)
 (h1:it∈X.ex\/X.s₀.heap.objs.size≤it) (h2:∀x c,X.env.cells.lookup x=some c->c≠it) (h3:∀p∈X.pn++pins,p.1≠it) (ht:0<t':=by walk_at "t"):qt X pins σ H { s with heap:=h',toks:=t' }:=by
 have nit:∀b u,H b=some u->b≠it:=fun b u e z=>by rw[z,hn] at e;cases e
 refine I.step (g':=s.gens) (d':=s.drawn) (ch:=[it]) (fun b hb=>?_) (fun b o _ _ hc e _=>k b o (fun z=>hc (by simp[z])) e) (fun b o _ _ hc e _=>⟨o.slots,k b o (fun z=>hc (by simp[z])) e⟩) (fun _ _ _ _ n=>n)
  (fun b o hc e=>⟨o,k b o (fun z=>hc (by simp[z])) e⟩) (fun _ _ e=>e) (fun _ _ _ e=>e) (fun b ps e=>⟨#[],by rw[e];simp⟩) (fun m hm=>?_) (fun b u e=>?_) I.bare
 ·have e:b=it:=by simpa using hb
  subst e;exact⟨h1,hL,h2,h3⟩
 ·obtain⟨o,es,ep,ho,r⟩:=hm;exact⟨o,es,ep,k _ o (AS hL) ho,r⟩
 ·refine(I.hok b u e).stay (fun c v hc q=>k c v ?_ q) (fun _ q=>q) fun _ _ q=>q;rcases hc with z | z
  ·rw[z];exact nit b u e
  ·exact nit c _ z
theorem qt.tok(I:qt X pins σ H s)(t:Nat)(ht:0<t:=by walk_at "t"):qt X pins σ H { s with toks:=t }:=I.un (h':=s.heap) (t':=t) Un.refl I.hok
theorem qt.kept(I:qt X pins σ H s)(k:∀b u,s.heap.get? b=some u->h'.get? b=some u)(ht:0<t':=by walk_at "t"):qt X pins σ H { s with heap:=h',toks:=t' }:=I.un (Un.kept k) (I.hok.kept k)
theorem qt.laid{o:HO}(I:qt X pins σ H s)(k:∀b u,s.heap.get? b=some u->h'.get? b=some u)(hp:s.heap.objs.size≤a)(new:xj X.prog X.w (upd H a o) h' a o)(ht:0<t':=by walk_at "t"):
 qt X pins σ (upd H a o) { s with heap:=h',toks:=t' }:=I.un (Un.laid k hp (I.hok.fresh hp)) (I.hok.laid k hp new)
theorem qt.write{x e:Addr}{o:HO}(I:qt X pins σ H s)(mu:Mut (H x))(he:e=x\/H e=some (.own x))(k:∀b u,b≠e->s.heap.get? b=some u->h'.get? b=some u)(heo:∃u,h'.get? e=some u)
 (new:xj X.prog X.w (upd H x o) h' x o) (ht:0<t':=by walk_at "t"):qt X pins σ (upd H x o) { s with heap:=h',toks:=t' }:=I.un (Un.write mu he k heo) (I.hok.write mu he k heo new)
theorem qt.weak{σ':List (Option V)}(I:qt X pins σ H s)(hl:σ'.length=σ.length)(w:∀(i:Nat) v,σ'[i]?=some (some v)->σ[i]?=some (some v)):qt X pins σ' H s:=
 ⟨I.ok,I.os,I.bare,I.base,let ⟨m,hn,hl'⟩:=I.loc;⟨m,hn,fun i x v e1 e2 e3=>hl' i x v e1 (w i v e2) e3⟩,I.cell,I.free,I.freeC,I.pin,I.hok,hl.trans I.len,I.tk⟩
theorem qt.pins_of{pins':List (Addr×Obj)}(I:qt X pins σ H s)(h:∀p∈pins',s.heap.get? p.1=some p.2/\H p.1=none/\p.1≠X.env.locals/\p.1∉X.fs/\∀v,p.2.data≠.cell v):qt X pins' σ H s:=
 ⟨I.ok,I.os,I.bare,I.base,I.loc,I.cell,I.free,I.freeC,fun p hp=>(AA.mp hp).elim (fun z=>I.pin p (AF _ z)) (h p),I.hok,I.len,I.tk⟩
theorem oE{N:List Str}(hN:N.Nodup)(a:N[i]?=some x)(b:N[j]?=some x):i=j:=by obtain⟨h1,e1⟩:=AX.mp a;obtain⟨h2,e2⟩:=AX.mp b;exact(List.getElem_inj hN).mp (e1.trans e2.symm)
theorem lJ{Q:Unit->Shared->Prop}(I:qt X pins σ H s)(hN:X.N.Nodup)(hi:X.N[i]?=some x)(hx:tZ X.env.scope x)(r:za v u)
 (h:∀s',qt X pins (σ.set i (some v)) H s'->(∃a,Heap.SameBut a s.heap s'.heap/\(a=X.env.locals\/X.env.cells.lookup x=some a))->(X.env.kindOf x=some .local->∃m',s'.heap.Ns X.env.locals m'/\m' x=some u)->Q () s') (hf:X.fn x=true\/X.env.scope.names.lookup x=some .local:=by first | exact .inl rfl | exact .inr rfl | assumption):wpAny M A (storeName X.env x u) Q E s:=by
 obtain⟨m,hn,hl⟩:=id I.loc;have hcls:(X.env.scope.kind==.class||(X.env.scope.kind==.module&&X.env.locals != X.env.globals))=false:=by rw[I.ok.kind];rfl
 have hiσ:i<σ.length:=by rw[I.len];exact(AX.mp hi).1
 have cne:=I.cne;have tracked:∀{a:Addr} {h':Heap},(∃o,s.heap.get? a=some o/\H a=none)->Heap.SameBut a s.heap h'->bx X.prog X.w H h':=fun {a h'} ha hs b ob e=>by
  obtain⟨_,_,hfree⟩:=ha;refine(I.hok b ob e).stay (fun c w' hc q=>(hs.2 c ?_).trans q) (fun _ q=>q) fun _ _ q=>q;rintro rfl;rcases hc with rfl | hc
  ·rw[hfree] at e;cases e
  ·rw[hfree] at hc;cases hc
 rcases hx with hk | hk
 ·refine wpAny_storeName_local hk hn (fun h' hn' hs=>?_) hcls;obtain⟨oL,_,_,hoL,_⟩:=id hn;refine h _ ⟨I.ok,I.os,I.bare,⟨fun b o e n hb hx=>?_,fun b o e n hb hx=>?_,I.base.free,fun b o e hx=>?_,I.base.tups,I.base.frzs,I.base.tbls⟩,⟨_,hn',fun j y v' e1 e2 e3=>?_⟩,fun y c e=>?_,I.free,I.freeC,fun p hp=>?_,tracked ⟨oL,hoL,I.free⟩ hs,by simpa using I.len,by first | exact I.tk | exact Dd _⟩ ⟨_,hs,.inl rfl⟩ (fun _=>⟨_,hn',by simp⟩)
  ·exact(hs.2 b (A6 (AG (Heap.lt_size e) I.ok.above))).trans (I.base.keep b o e n hb hx)
  ·obtain⟨sl,e1⟩:=I.base.slot b o e n hb hx;exact⟨sl,(hs.2 b (A6 (AG (Heap.lt_size e) I.ok.above))).trans e1⟩
  ·obtain⟨o',e1⟩:=I.base.there b o e hx;exact⟨o',(hs.2 b (A6 (AG (Heap.lt_size e) I.ok.above))).trans e1⟩
  ·by_cases hj:j=i
   ·subst hj;rw[hi] at e1;cases e1;rw[BQ hiσ] at e2;cases e2;exact⟨u,r,.inl ⟨hk,by simp⟩⟩
   ·rw[A3 (AS hj)] at e2;obtain⟨u',r',q⟩:=hl j y v' e1 e2 e3;refine⟨u',r',?_⟩;rcases q with⟨k,e⟩ | ⟨k,c,e,z⟩
    ·refine .inl ⟨k,?_⟩;have:y≠x:=fun e=>hj (oE hN e1 (e▸hi));simp[this,e]
    ·exact .inr ⟨k,c,e,z.sameBut hs (cne y c e)⟩
  ·obtain⟨w',z⟩:=I.cell y c e;exact⟨w',z.sameBut hs (cne y c e)⟩
  ·obtain⟨e,n,ne,nf,d⟩:=I.pin p hp;exact⟨(hs.2 p.1 ne).trans e,n,ne,nf,d⟩
 ·have hfn:X.fn x=true:=by
   rcases hf with z | z
   ·exact z
   ·rw[z] at hk;cases hk
  obtain⟨c,hc⟩:=I.ok.has x (.inl hk);obtain⟨w',z⟩:=I.cell x c hc;refine wpAny_storeName_cell I.ok.kind hk hc z (fun h' hc' hs=>?_);obtain⟨oc,hoc,hocd⟩:=id z;refine h { s with heap:=h' } ⟨I.ok,I.os,I.bare,⟨fun b o e n hb hx=>?_,fun b o e n hb hx=>?_,I.base.free,fun b o e hx=>?_,I.base.tups,I.base.frzs,I.base.tbls⟩,⟨m,hn.sameBut hs (AS (cne x c hc)),fun j y v' e1 e2 e3=>?_⟩,fun y c' e=>?_,I.free,I.freeC,fun p hp=>?_,tracked ⟨oc,hoc,I.freeC x c hc⟩ hs,by simpa using I.len,I.tk⟩ ⟨c,hs,.inr hc⟩ (fun z=>by have e:=(show X.env.kindOf x=some .cell from hk).symm.trans z;cases e)
  ·exact(hs.2 b (A6 (AG (Heap.lt_size e) (I.ok.cab x c hfn hc)))).trans (I.base.keep b o e n hb hx)
  ·obtain⟨sl,e1⟩:=I.base.slot b o e n hb hx;exact⟨sl,(hs.2 b (A6 (AG (Heap.lt_size e) (I.ok.cab x c hfn hc)))).trans e1⟩
  ·obtain⟨o',e1⟩:=I.base.there b o e hx;exact⟨o',(hs.2 b (A6 (AG (Heap.lt_size e) (I.ok.cab x c hfn hc)))).trans e1⟩
  ·by_cases hj:j=i
   ·subst hj;rw[hi] at e1;cases e1;rw[BQ hiσ] at e2;cases e2;exact⟨u,r,.inr ⟨.inl hk,c,hc,hc'⟩⟩
   ·rw[A3 (AS hj)] at e2;obtain⟨u',r',q⟩:=hl j y v' e1 e2 e3;refine⟨u',r',?_⟩;rcases q with q | ⟨k,c',e,z'⟩
    ·exact .inl q
    ·refine .inr ⟨k,c',e,z'.sameBut hs ?_⟩;rintro rfl;exact hj (oE hN e1 (I.ok.inj _ _ _ e hc▸hi))
  ·by_cases hcc:c'=c
   ·subst hcc;exact⟨_,hc'⟩
   ·obtain⟨w2,z2⟩:=I.cell y c' e;exact⟨w2,z2.sameBut hs hcc⟩
  ·obtain⟨e,n,ne,nf,d⟩:=I.pin p hp;refine⟨(hs.2 p.1 ?_).trans e,n,ne,nf,d⟩;intro q;rw[q,hoc] at e;have q':oc=p.2:=AK e;exact d w' (by rw[<-q'];exact hocd)
theorem cK{Q:Unit->Shared->Prop}(I:qt X pins σ H s)(hN:X.N.Nodup)(hi:X.N[i]?=some x)(hx:tZ X.env.scope x)(r:za v u)
 (h:∀s',qt X pins (σ.set i (some v)) H s'->Q () s') (hf:X.fn x=true\/X.env.scope.names.lookup x=some .local:=by first | exact .inl rfl | exact .inr rfl | assumption):wpAny M A (storeName X.env x u) Q E s:=
 lJ I hN hi hx r (fun s' I' _ _=>h s' I') hf
theorem qt.call'(I:qt X pins σ H s)(ho:s'.os=s.os)(u:Un (dC X.stack) ch H H' s.heap s'.heap)(hok:bx X.prog X.w H' s'.heap)(hg:AllBare s'.gens)
 (hch:∀b∈ch,(b∈X.ex\/X.s₀.heap.objs.size≤b)/\b≠X.env.locals/\(∀x c,X.env.cells.lookup x=some c->c≠b)/\∀p∈X.pn++pins,p.1≠b) (ht:0<s'.toks:=by walk_at "t"):qt X pins σ H' s':=by
 obtain⟨h',g',d',t',o'⟩:=s';have e:o'=s.os:=ho;subst e;exact I.call (g':=g') (t':=t') (d':=d') u hok hg hch ht
end
abbrev XK:=Value->Option Addr->Hp->Prop
abbrev St:=List (Option V)
abbrev VK:=V->Hp->Prop
abbrev TE:=St->Hp->VK->Prop
abbrev TT:=St->Hp->(Bool->Hp->Prop)->Prop
abbrev TA:=St->Hp->(List V->Hp->Prop)->Prop
structure qC where
 nx:St->Hp->Prop
 rt:VK
 bk:St->Hp->Prop:=fun _ _=>False
 ct:St->Hp->Prop:=fun _ _=>False
abbrev TS:=qC->St->Hp->Prop
def EP(X:Cx)(pins:List (Addr×Obj))(σ:St)(Q:VK)(u:Value)(s':Shared):Prop:=∃v H',qt X pins σ H' s'/\za v u/\Q v H'
def TP(X:Cx)(pins:List (Addr×Obj))(σ:St)(Q:Bool->Hp->Prop)(b:Bool)(s':Shared):Prop:=∃H',qt X pins σ H' s'/\Q b H'
def AP(X:Cx)(pins:List (Addr×Obj))(σ:St)(Q:List V->Hp->Prop)(us:List Value)(s':Shared):Prop:=∃vs H',qt X pins σ H' s'/\zh vs us/\Q vs H'
def SP(X:Cx)(pins:List (Addr×Obj))(D:qC)(f:Flow)(s':Shared):Prop:=
 match f with
 |.next=>∃σ' H',qt X pins σ' H' s'/\D.nx σ' H'
 |.brk=>∃σ' H',qt X pins σ' H' s'/\D.bk σ' H'
 |.cont=>∃σ' H',qt X pins σ' H' s'/\D.ct σ' H'
 |.ret u=>∃v σ' H',qt X pins σ' H' s'/\za v u/\D.rt v H'
def PE(X:Cx)(e:Expr)(t:TE):Prop:=
 ∀(pins:List (Addr×Obj)) (s:Shared) (σ:St) (H:Hp) (Q:VK),qt X pins σ H s->t σ H Q->wpAny (model X.prog X.w) X.A (eval e X.env) (EP X pins σ Q) X.xe s
def PT(X:Cx)(e:Expr)(t:TT):Prop:=
 ∀(pins:List (Addr×Obj)) (s:Shared) (σ:St) (H:Hp) (Q:Bool->Hp->Prop),qt X pins σ H s->t σ H Q->wpAny (model X.prog X.w) X.A (isTrue e X.env (eval e X.env)) (TP X pins σ Q) X.xe s
def PW(X:Cx)(e:Expr)(t:TT):Prop:=
 ∀(whole:Sem Value) (pins:List (Addr×Obj)) (s:Shared) (σ:St) (H:Hp) (Q:Bool->Hp->Prop),qt X pins σ H s->t σ H Q->wpAny (model X.prog X.w) X.A (isTrue e X.env whole) (TP X pins σ Q) X.xe s
theorem PW.pt{X:Cx}{t:TT}(h:PW X e t):PT X e t:=h _
def PA(X:Cx)(es:List Expr)(t:TA):Prop:=
 ∀(pos:Pos) (pins:List (Addr×Obj)) (s:Shared) (σ:St) (H:Hp) (Q:List V->Hp->Prop),qt X pins σ H s->t σ H Q->wpAny (model X.prog X.w) X.A (spliced (backTo pos (starEach es X.env))) (AP X pins σ Q) X.xe s
def PS(X:Cx)(st:Stmt)(t:TS):Prop:=
 ∀(pins:List (Addr×Obj)) (s:Shared) (σ:St) (H:Hp) (D:qC),qt X pins σ H s->t D σ H->wpAny (model X.prog X.w) X.A (exec st X.env) (SP X pins D) X.xe s
def mF(X:Cx)(st:List Stmt)(t:TS):Prop:=
 ∀(pins:List (Addr×Obj)) (s:Shared) (σ:St) (H:Hp) (D:qC),qt X pins σ H s->t D σ H->wpAny (model X.prog X.w) X.A (execs st X.env) (SP X pins D) X.xe s
theorem xc{t:Sem α}{Q Q':α->Shared->Prop}(h:wpAny M A t Q E s)(hQ:∀a s,Q a s->Q' a s):wpAny M A t Q' E s:=AR h hQ fun _ _ x=>x
end L2
variable {t:L2.TA}{r:L2.V->Option Int->Option Int->L2.Hp->L2.VK->Prop}{X:L2.Cx}{σ:L2.St}{tc:L2.TT}
namespace L2
open PySem PySem.Spec PyProof.Rows
section
def ag1(i:Nat):TE:=fun σ H Q=>∃v,σ[i]?=some (some v)/\Q v H
def tC(v:V):TE:=fun _ H Q=>Q v H
abbrev Dx(x:Str):Prop:=(x==("__debug__":Str))=false
abbrev Dy(x:Str):Prop:=(x==("__classdict__":Str))=false
theorem ahh(hN:X.N[i]?=some x)(hv:Vis X.env.scope x)(hd:Dx x:=by decide)(hcd:Dy x:=by decide):PE X (.Name x pos) (ag1 i):=by
 intro pins s σ H Q I h;obtain⟨v,e,h⟩:=h;obtain⟨m,hn,hl⟩:=I.loc;obtain⟨u,r,l⟩:=hl i x v hN e hv;have vd:EP X pins σ Q u s:=⟨v,H,I,r,h⟩;rcases l with⟨hk,hm⟩ | ⟨hk,c,hc,hcell⟩
 ·exact wpAny_Name (wpAny_loadName_local I.ok.kind hk hn hm vd) hd
 ·rcases hk with hk | hk
  ·exact wpAny_Name (wpAny_loadName_cell I.ok.kind hk hc hcell vd) hd
  ·exact wpAny_Name (wpAny_loadName_free I.ok.kind hk hc hcell vd hcd) hd
theorem afl{i j pos}:PE X (.Constant (.int i) j pos) (tC (.int i)):=fun _ _ _ H _ I h=>wpAny_Constant_int ⟨.int i,H,I.tok _,⟨_,rfl⟩,h⟩
theorem aix{b j pos}:PE X (.Constant (.bool b) j pos) (tC (.bl b)):=fun _ _ _ H _ I h=>Constant_bool ⟨.bl b,H,I,rfl,h⟩
theorem ags{j pos}:PE X (.Constant .none j pos) (tC .non):=fun _ _ _ H _ I h=>Constant_none ⟨.non,H,I,rfl,h⟩
theorem ah4{x j pos}:PE X (.Constant (.str x) j pos) (tC (.str x)):=fun _ _ _ H _ I h=>Calls.Constant_str ⟨.str x,H,I.tok _,⟨_,rfl⟩,h⟩
def Gl(X:Cx)(x:Str):Prop:=X.env.kindOf x=some .globalImplicit
theorem eU(I:qt X pins σ H s)(hg:Gl X x)(hm:X.mg x=some u)(h:Q u s)
 (hd:Dx x:=by decide):wpAny (model X.prog X.w) X.A (eval (.Name x pos) X.env) Q E s:=
 Calls.Name_function_global I.ok.kind hg (Calls.loadGlobal_global (by rw[I.ok.glob];exact I.mod.glob.keeps I.bk) hm h) hd
theorem dZ(I:qt X pins σ H s)(hg:Gl X x)(hm:X.mg x=none)(hv:bootBuiltins x=some u)(h:Q u s)
 (hn:x ≠ "__name__" := by decide) (hd:Dx x:=by decide):wpAny (model X.prog X.w) X.A (eval (.Name x pos) X.env) Q E s:=by
 obtain⟨mb,h1,h2⟩:=I.mod.blt;exact Calls.Name_function_global I.ok.kind hg (Calls.loadGlobal_builtin (by rw[I.ok.glob];exact I.mod.glob.keeps I.bk) hm (by rw[I.ok.blt];exact h1.keeps I.bk) ((h2 x hn).trans hv) h) hd
theorem acy(hg:Gl X x)(hm:X.mg x=some u)(r:za v u)(hd:Dx x:=by decide):PE X (.Name x pos) (tC v):=
 fun _ _ _ H _ I h=>eU I hg hm ⟨v,H,I,r,h⟩ hd
theorem abp(hg:Gl X x)(hm:X.mg x=none)(hv:bootBuiltins x=some u)(r:za v u)(hn:x ≠ "__name__" := by decide)(hd:Dx x:=by decide):PE X (.Name x pos) (tC v):=
 fun _ _ _ H _ I h=>dZ I hg hm hv ⟨v,H,I,r,h⟩ hn hd
variable {a b:Expr}{ta tb:TE} 
def PC(X:Cx)(op:CmpOp)(a b:Expr)(t:TE):Prop:=
 ∀(pins:List (Addr×Obj)) (s:Shared) (σ:St) (H:Hp) (Q:VK),qt X pins σ H s->t σ H Q->
  wpAny (model X.prog X.w) X.A (eval a X.env) (fun v s₁=>wpAny (model X.prog X.w) X.A (eval b X.env) (fun u s₂=>wpAny (model X.prog X.w) X.A (compareOp op v u) (EP X pins σ Q) X.xe s₂) X.xe s₁) X.xe s
theorem y0(b:Expr){op:CmpOp}(h:op≠.In)(h2:op≠.NotIn):behindInMarks op b=false:=by
 have e1:(op==CmpOp.In)=false:=by cases op<;>first | rfl | exact absurd rfl h
 have e2:(op==CmpOp.NotIn)=false:=by cases op<;>first | rfl | exact absurd rfl h2
 cases b<;>simp[behindInMarks,e1,e2]
def ak1(ta:TE):TE:=fun σ H Q=>ta σ H fun x H1=>Q (.bl (decide (x=.non))) H1
def aeo(ta:TE):TE:=fun σ H Q=>ta σ H fun x H1=>Q (.bl (!decide (x=.non))) H1
theorem za.none_iff{x:V}{v:Value}(r:za x v):(v==Value.none)=decide (x=.non):=by
 cases x with
 |non=>cases r;rfl
 |bl _=>cases r;rfl
 |int _=>obtain⟨t,rfl⟩:=r;rfl
 |str _=>obtain⟨t,rfl⟩:=r;rfl
 |byt _=>obtain⟨t,rfl⟩:=r;rfl
 |flt _=>obtain⟨t,rfl⟩:=r;rfl
 |ref _=>cases r;rfl
 |ty _=>cases r;rfl
theorem ag7{j pos'}(ha:PE X a ta):PC X .Is a (.Constant .none j pos') (ak1 ta):=by intro pins s σ H Q I h;refine xc (ha pins s σ H _ I h) fun v s1 ⟨x,H1,I1,r1,q1⟩=>?_;exact Constant_none (is_none_gen ⟨.bl _,H1,I1,by rw[r1.none_iff];rfl,q1⟩)
theorem acr{j pos'}(ha:PE X a ta):PC X .IsNot a (.Constant .none j pos') (aeo ta):=by intro pins s σ H Q I h;refine xc (ha pins s σ H _ I h) fun v s1 ⟨x,H1,I1,r1,q1⟩=>?_;exact Constant_none (isnot_none_gen ⟨.bl _,H1,I1,by rw[r1.none_iff];rfl,q1⟩)
def tB(t:TE):TT:=fun σ H Q=>t σ H fun x H1=>∃c,x=.bl c/\Q c H1
theorem yL{op:CmpOp}{t:TE}(h:PC X op a b t)(h1:behindInMarks op b=false:=by first | exact y0 _ (by decide) (by decide) | rfl):PT X (.Compare a [op] [b] pos) (tB t):=by intro pins s σ H Q I hw;refine wpAny_isTrue_Compare1 (xc (h pins s σ H _ I hw) fun v s1 h1=>xc h1 fun u s2 h2=>xc h2 fun c s3 ⟨x,H1,I1,r1,q1⟩=>?_) h1;obtain⟨d,rfl,q⟩:=q1;cases r1;exact wpAny_truthy_bool ⟨H1,I1,q⟩
theorem afi{t:TE}(h:PE X e t)(he:∀whole,isTrue e X.env whole=(do let v <-whole;standAt e.pos;holding [v] (truthy v)):=by intro _;rfl):PT X e (tB t):=by intro pins s σ H Q I hw;refine isTrue_plain (xc (h pins s σ H _ I hw) fun v s1 ⟨x,H1,I1,r1,q1⟩=>?_) (he _);obtain⟨d,rfl,q⟩:=q1;cases r1;exact wpAny_truthy_bool ⟨H1,I1,q⟩
variable {tA tB':TT}{rest:List Expr}
def ao0(t u:TT):TT:=fun σ H Q=>t σ H fun c H1=>if c=true then u σ H1 Q else Q false H1
def tOr(t u:TT):TT:=fun σ H Q=>t σ H fun c H1=>if c=true then Q true H1 else u σ H1 Q
def an0(t:TT):TT:=fun σ H Q=>t σ H fun c H1=>Q (!c) H1
theorem ado(ha:PT X a tA):PW X (.BoolOp .And [a] pos) tA:=by intro wh pins s σ H Q I h;refine isTrue_and (xc (ha pins s σ H Q I h) fun c s1 e=>?_);cases c with|true=>exact isTrue_and_nil e|false=>exact e
theorem afn(ha:PT X a tA):PW X (.BoolOp .Or [a] pos) tA:=by intro wh pins s σ H Q I h;refine isTrue_or (xc (ha pins s σ H Q I h) fun c s1 e=>?_);cases c with|false=>exact isTrue_or_nil e|true=>exact e
theorem af5(ha:PT X a tA)(hb:PW X (.BoolOp .And (b::rest) pos) tB'):PW X (.BoolOp .And (a::b::rest) pos) (ao0 tA tB'):=by intro wh pins s σ H Q I h;refine isTrue_and (xc (ha pins s σ H _ I h) fun c s1 ⟨H1,I1,q1⟩=>?_);cases c with|true=>exact hb wh pins s1 σ H1 Q I1 q1|false=>exact⟨H1,I1,q1⟩
theorem ajg(ha:PT X a tA)(hb:PW X (.BoolOp .Or (b::rest) pos) tB'):PW X (.BoolOp .Or (a::b::rest) pos) (tOr tA tB'):=by intro wh pins s σ H Q I h;refine isTrue_or (xc (ha pins s σ H _ I h) fun c s1 ⟨H1,I1,q1⟩=>?_);cases c with|true=>exact⟨H1,I1,q1⟩|false=>exact hb wh pins s1 σ H1 Q I1 q1
theorem ago(ha:PT X a tA):PT X (.UnaryOp .Not a pos) (an0 tA):=by intro pins s σ H Q I h;exact isTrue_not (ha pins s σ H (fun c H1=>Q (!c) H1) I h)
def akm(ta tb:TE):TE:=fun σ H Q=>ta σ H fun x H1=>∃c,x=.bl c/\if c=true then tb σ H1 Q else Q (.bl false) H1
def akf(ta:TE):TE:=fun σ H Q=>ta σ H fun x H1=>∃c,x=.bl c/\Q (.bl (!c)) H1
theorem af1{op}{t:TE}(h:PE X a t):PE X (.BoolOp op [a] pos) t:=fun pins s σ H Q I hw=>BoolOp_one (h pins s σ H Q I hw)
theorem afd(ha:PE X a ta)(hb:PE X (.BoolOp .And (b::rest) pos) tb):PE X (.BoolOp .And (a::b::rest) pos) (akm ta tb):=by
 intro pins s σ H Q I h;refine BoolOp_and (xc (ha pins s σ H _ I h) fun v s1 ⟨x,H1,I1,r1,q1⟩=>?_);obtain⟨c,rfl,q1⟩:=q1;cases r1;refine wpAny_truthy_bool ?_;cases c with
 |true=>exact hb pins s1 σ H1 Q I1 q1
 |false=>exact⟨.bl false,H1,I1,rfl,q1⟩
theorem af2(ha:PE X a ta):PE X (.UnaryOp .Not a pos) (akf ta):=by intro pins s σ H Q I h;refine UnaryOp_ (xc (ha pins s σ H _ I h) fun v s1 ⟨x,H1,I1,r1,q1⟩=>?_);obtain⟨c,rfl,q1⟩:=q1;cases r1;exact not_of (wpAny_truthy_bool ⟨.bl (!c),H1,I1,rfl,q1⟩)
def tIf(t:TT)(ta tb:TE):TE:=fun σ H Q=>t σ H fun c H1=>if c=true then ta σ H1 Q else tb σ H1 Q
theorem aa3(hc:PT X c tA)(ha:PE X a ta)(hb:PE X b tb):PE X (.IfExp c a b pos) (tIf tA ta tb):=by intro pins s σ H Q I h;refine wpAny_IfExp (xc (hc pins s σ H _ I h) fun d s1 ⟨H1,I1,q1⟩=>?_);cases d with|true=>exact ha pins s1 σ H1 Q I1 q1|false=>exact hb pins s1 σ H1 Q I1 q1
end
def aG(K:Ac)(H:Hp)(a:Addr)(xs:List V):Prop:=
 Rd H a (.lst xs)\/
  ∃(o:Obj) (its:Array Value) (n:Nat),K.lookup a=some o/\o.cls=.type "list" /\ o.dict=none/\o.data=.seq its n/\its.size≤sizeLine/\zh xs its.toList
def fU(K:Ac)(H:Hp)(a:Addr)(xs:List V):Prop:=
 Rd H a (.tup xs)\/
  ∃(o:Obj) (its:Array Value) (n:Nat),K.lookup a=some o/\o.cls=.type "tuple" /\ o.data=.seq its n/\its.size≤sizeLine/\zh xs its.toList
def ame:Value->Option V
 |.none=>some .non
 |.bool b=>some (.bl b)
 |.int i _=>some (.int i)
 |.str x _=>some (.str x)
 |.bytes b _=>some (.byt b)
 |.float b _=>some (.flt b)
 |.ref a=>some (.ref a)
 |.type n=>some (.ty n)
 |_=>none
theorem za.abs{x:V}(r:za x u):ame u=some x:=by
 cases x with
 |non=>cases r;rfl
 |bl _=>cases r;rfl
 |int _=>obtain⟨t,rfl⟩:=r;rfl
 |str _=>obtain⟨t,rfl⟩:=r;rfl
 |byt _=>obtain⟨t,rfl⟩:=r;rfl
 |flt _=>obtain⟨t,rfl⟩:=r;rfl
 |ref _=>cases r;rfl
 |ty _=>cases r;rfl
theorem za.inj{x y:V}(r:za x u)(q:za y u):x=y:=AK (r.abs.symm.trans q.abs)
theorem zh.inj:∀{xs ys:List V} {us:List Value},zh xs us->zh ys us->xs=ys
 |_,_,_,.nil,.nil=>rfl
 |_,_,_,.cons r t,.cons r' t'=>by rw[r.inj r',zh.inj t t']
section
variable {ys:List V}
theorem aG.of{K:Ac}(h:H a=some (.lst xs)):aG K H a xs:=.inl (.inl h)
theorem fU.of{K:Ac}(h:H a=some (.tup xs)):fU K H a xs:=.inl (.inl h)
theorem qt.list(I:qt X pins σ H s)(h:aG X.K H a xs):∃its:List Value,zh xs its/\PlainL s.heap a its.toArray/\xs.length≤sizeLine:=by
 rcases h with h | ⟨o,its,n,hk,hc,hd,hs,hz,r⟩
 ·obtain⟨z,its,n,r,e⟩:=h.ok I.hok;exact⟨its,r,⟨_,n,e,rfl,rfl,rfl⟩,z⟩
 ·refine⟨its.toList,r,⟨o,n,I.kIn a o hk,hc,hd,by simpa using hs⟩,?_⟩;have e:=r.length;simp only[Bj] at e;omega
theorem qt.tuple(I:qt X pins σ H s)(h:fU X.K H a xs):∃its:List Value,zh xs its/\IsTup s.heap a its.toArray/\xs.length≤sizeLine:=by
 rcases h with h | ⟨o,its,n,hk,hc,hs,hz,r⟩
 ·obtain⟨z,its,r,p⟩:=h.ok I.hok;exact⟨its,r,p,z⟩
 ·refine⟨its.toList,r,⟨o,I.kIn a o hk,hc,n,by simpa using hs⟩,?_⟩;have e:=r.length;simp only[Bj] at e;omega
theorem qt.list_inj(I:qt X pins σ H s)(h:aG X.K H a xs)(h':aG X.K H a ys):xs=ys:=by
 obtain⟨its,r,⟨o,n,e,_,_,d⟩,_⟩:=I.list h;obtain⟨its',r',⟨o',n',e',_,_,d'⟩,_⟩:=I.list h';rw[e] at e';cases e';rw[d] at d';injection d' with d1 _
 have:its=its':=by simpa using A4 Array.toList d1
 subst this;exact r.inj r'
theorem qt.tuple_inj(I:qt X pins σ H s)(h:fU X.K H a xs)(h':fU X.K H a ys):xs=ys:=by
 obtain⟨its,r,⟨o,e,_,n,d⟩,_⟩:=I.tuple h;obtain⟨its',r',⟨o',e',_,n',d'⟩,_⟩:=I.tuple h';rw[e] at e';cases e';rw[d] at d';injection d' with d1 _
 have:its=its':=by simpa using A4 Array.toList d1
 subst this;exact r.inj r'
end
abbrev Cx.wish(X:Cx)(E:Value->Shared->Prop):Cx:={ X with xe:=E }
abbrev Cx.nox(X:Cx):Cx:=X.wish fun _ _=>False
theorem Cx.Ok.wish(ok:X.Ok)(E:Value->Shared->Prop):(X.wish E).Ok:=
 ⟨ok.mod,ok.kind,ok.glob,ok.blt,ok.above,ok.inj,ok.has,ok.cab,ok.hd,ok.frames,ok.stk,ok.exf,ok.bs,ok.bsz,ok.noex,ok.exfs,ok.funs,ok.frf⟩
theorem Cx.Ok.unwish(ok:(X.wish E).Ok):X.Ok:=
 ⟨ok.mod,ok.kind,ok.glob,ok.blt,ok.above,ok.inj,ok.has,ok.cab,ok.hd,ok.frames,ok.stk,ok.exf,ok.bs,ok.bsz,ok.noex,ok.exfs,ok.funs,ok.frf⟩
section
theorem qt.wish(I:qt X pins σ H s)(E:Value->Shared->Prop):qt (X.wish E) pins σ H s:=⟨I.ok.wish E,I.os,I.bare,I.base,I.loc,I.cell,I.free,I.freeC,I.pin,I.hok,I.len,I.tk⟩
theorem qt.unwish(I:qt (X.wish E) pins σ H s):qt X pins σ H s:=⟨I.ok.unwish,I.os,I.bare,I.base,I.loc,I.cell,I.free,I.freeC,I.pin,I.hok,I.len,I.tk⟩
theorem SP.unwish{D:qC}{f:Flow}(h:SP (X.wish E) pins D f s'):SP X pins D f s':=by
 cases f with
 |next=>obtain⟨σ',H',I,q⟩:=h;exact⟨σ',H',I.unwish,q⟩
 |brk=>obtain⟨σ',H',I,q⟩:=h;exact⟨σ',H',I.unwish,q⟩
 |cont=>obtain⟨σ',H',I,q⟩:=h;exact⟨σ',H',I.unwish,q⟩
 |ret u=>obtain⟨v,σ',H',I,r,q⟩:=h;exact⟨v,σ',H',I.unwish,r,q⟩
theorem mF.nox{st:List Stmt}{t:TS}(h:mF X.nox st t):mF X st t:=fun pins s σ H D I hw=>
 AR (h pins s σ H D (I.wish _) hw) (fun _ _ q=>q.unwish) fun _ _ z=>False.elim z
end
section
variable {t u:TS}{te:TE} 
def aj3:TS:=fun D σ H=>D.nx σ H
def amk(t u:TS):TS:=fun D σ H=>t { D with nx:=u D } σ H
theorem ab1:mF X [] aj3:=fun _ _ σ H _ I h=>wpAny_execs_nil ⟨σ,H,I,h⟩
theorem o8(h1:PS X st t)(h2:mF X rest u):mF X (st::rest) (amk t u):=by
 intro pins s σ H D I h;refine wpAny_execs_cons (xc (h1 pins s σ H { D with nx:=u D } I h) fun f s1 q=>?_);cases f with
 |next=>
  obtain⟨σ',H',I',q⟩:=q;exact h2 pins s1 σ' H' D I' q
 |ret v=>exact q
 |brk=>exact q
 |cont=>exact q
theorem abj(h1:PS X st t):mF X [st] t:=by intro pins s σ H D I h;refine wpAny_execs_cons (xc (h1 pins s σ H D I h) fun f s1 q=>?_);cases f with|next=>exact wpAny_execs_nil q|ret v=>exact q|brk=>exact q|cont=>exact q
theorem qt.quiet(I:qt X pins σ H s):interactive X.env=false:=by simp[interactive,I.ok.kind]
def aj7(te:TE):TS:=fun D σ H=>te σ H fun _ H1=>D.nx σ H1
theorem ad3(he:PE X e te)(hs:swapsWith e none pos.line X.env=pure false:=by rfl):PS X (.Expr e pos) (aj7 te):=by intro pins s σ H D I h;exact wpAny_Expr_any (xc (he pins s σ H _ I h) fun v s1 ⟨x,H1,I1,r1,q1⟩=>⟨σ,H1,I1,q1⟩) I.quiet hs
def amo(te:TE):TS:=fun D σ H=>te σ H D.rt
theorem ahn(he:PE X e te):PS X (.Return (some e) pos) (amo te):=by intro pins s σ H D I h;exact wpAny_Return_some (xc (he pins s σ H _ I h) fun v s1 ⟨x,H1,I1,r1,q1⟩=>⟨x,σ,H1,I1,r1,q1⟩)
def ao3(c:TT)(t u:TS):TS:=fun D σ H=>c σ H fun b H1=>if b=true then t D σ H1 else u D σ H1
theorem ail{a b:List Stmt}(hc:PT X c tc)(ha:mF X a t)(hb:mF X b u):PS X (.If c a b pos) (ao3 tc t u):=by intro pins s σ H D I h;refine wpAny_If (xc (hc pins s σ H _ I h) fun d s1 ⟨H1,I1,q1⟩=>?_);cases d with|true=>exact ha pins s1 σ H1 D I1 q1|false=>exact hb pins s1 σ H1 D I1 q1
end
abbrev TG:=V->St->Hp->(St->Hp->Prop)->Prop
abbrev TGs:=List V->St->Hp->(St->Hp->Prop)->Prop
def PG(X:Cx)(target:Expr)(t:TG):Prop:=
 ∀(pins:List (Addr×Obj)) (s:Shared) (σ:St) (H:Hp) (v:V) (u:Value) (Q:St->Hp->Prop),qt X pins σ H s->za v u->t v σ H Q->
  wpAny (model X.prog X.w) X.A (assign target X.env u) (fun _ s'=>∃σ' H',qt X pins σ' H' s'/\Q σ' H') X.xe s
def PGs(X:Cx)(ts:List Expr)(t:TGs):Prop:=
 ∀(pins:List (Addr×Obj)) (s:Shared) (σ:St) (H:Hp) (vs:List V) (us:List Value) (Q:St->Hp->Prop),qt X pins σ H s->zh vs us->t vs σ H Q->
  wpAny (model X.prog X.w) X.A (assignInOrder ((assignEach ts X.env).map (·.2)) us) (fun _ s'=>∃σ' H',qt X pins σ' H' s'/\Q σ' H') X.xe s
abbrev ahd:=V->V->V->Hp->(Hp->Prop)->Prop
def ak0(X:Cx)(t:ahd):Prop:=
 ∀(pins:List (Addr×Obj)) (s:Shared) (σ:St) (H:Hp) (o i v:V) (ov iv u:Value) (Q:Hp->Prop),qt X pins σ H s->za o ov->za i iv->za v u->t o i v H Q->
  wpAny (model X.prog X.w) X.A (setItem ov iv u) (fun _ s'=>∃H',qt X pins σ H' s'/\Q H') X.xe s
abbrev TIp:=V->V->Hp->VK->Prop
def PIp(X:Cx)(op:Operator)(t:TIp):Prop:=
 ∀(pins:List (Addr×Obj)) (s:Shared) (σ:St) (H:Hp) (x y:V) (v u:Value) (Q:VK),qt X pins σ H s->za x v->za y u->t x y H Q->
  wpAny (model X.prog X.w) X.A (inplaceOp op v u) (EP X pins σ Q) X.xe s
section
def cM(i:Nat):TG:=fun v σ H Q=>Q (σ.set i (some v)) H
theorem iJ(hN:X.N.Nodup)(hi:X.N[i]?=some x)(hx:tZ X.env.scope x)(hf:X.fn x=true\/X.env.scope.names.lookup x=some .local:=by first | exact .inl rfl | exact .inr rfl | assumption):PG X (.Name x pos) (cM i):=by intro pins s σ H v u Q I r h;exact wpAny_assign_Name (cK I hN hi hx r (fun s' I'=>⟨_,H,I',h⟩) hf)
def ahk:TGs:=fun vs σ H Q=>vs=[]/\Q σ H
def pQ(t:TG)(u:TGs):TGs:=fun vs σ H Q=>∃v r,vs=v::r/\t v σ H fun σ' H'=>u r σ' H' Q
theorem sP:PGs X [] ahk:=by intro pins s σ H vs us Q I r h;obtain⟨e,h⟩:=h;subst e;cases r;exact assignInOrder_nil ⟨σ,H,I,h⟩
theorem i5{t:TG}{u:TGs}(h1:PG X e t)(h2:PGs X es u)
 (hs:(assignEach (e::es) X.env).map (·.2)=assign e X.env::(assignEach es X.env).map (·.2):=by rfl):PGs X (e::es) (pQ t u):=by
 intro pins s σ H vs us Q I r h;obtain⟨v,vr,e1,h⟩:=h;subst e1;cases r with
 |cons r rr=>
  rw[hs];refine assignInOrder_cons (xc (h1 pins s σ H _ _ _ I r h) fun _ s1 ⟨σ1,H1,I1,q1⟩=>?_);exact h2 pins s1 σ1 H1 _ _ Q I1 rr q1
def agz(K:Ac)(n:Nat)(t:TGs):TG:=fun v σ H Q=>∃a xs,v=.ref a/\fU K H a xs/\xs.length=n/\t xs σ H Q
theorem zS{k:Nat}{t:TGs}(hc:X.calm=true)(h:PGs X es t)
 (hn:(assignEach es X.env).length=n:=by rfl) (hst:(assignEach es X.env).findIdx? (·.1)=none:=by rfl):PG X (.Tuple es k pos) (agz X.K n t):=by
 intro pins s σ H v u Q I r hw;obtain⟨a,xs,e1,hq,hl,hw⟩:=hw;subst e1;cases r;obtain⟨its,rv,ht,hz⟩:=I.tuple hq;refine assign_Tuple_tuple (I.ok.hd hc) ht (by simp[hn,<-hl,rv.length]) hst fun h' hx=>?_;have I1:qt X pins σ H { s with heap:=h' }:=I.kept (t':=s.toks) fun b o e=>hx b o (A6 (Heap.lt_size e)) e;exact h pins _ σ H xs _ Q I1 (by simpa using rv) hw
def am8(to ti:TE)(t:ahd):TG:=fun v σ H Q=>to σ H fun o H1=>ti σ H1 fun i H2=>t o i v H2 fun H3=>Q σ H3
theorem ahy{i:Expr}{to ti:TE}{t:ahd}(ho:PE X o to)(hi:PE X i ti)(hs:ak0 X t)
 (ha:∀v,assign (.Subscript o i pos) X.env v=(do
  let ov <-holding [v] (eval o X.env)
  let iv <-holding [v,ov] (eval i X.env)
  standAt pos
  holding [v,ov,iv] (setItem ov iv v)
  release [v,ov,iv] []):=by intro _;rfl):PG X (.Subscript o i pos) (am8 to ti t):=by
 intro pins s σ H v u Q I r h;rw[ha];refine Ad (Bu (xc (ho pins s σ H _ I h) fun ov s1 ⟨x,H1,I1,r1,q1⟩=>?_));refine Ad (Bu (xc (hi pins s1 σ H1 _ I1 q1) fun iv s2 ⟨y,H2,I2,r2,q2⟩=>?_));refine Ad (wpAny_standAt (Ad (Bu (xc (hs pins s2 σ H2 x y v ov iv u _ I2 r1 r2 r q2) fun _ s3 ⟨H3,I3,q3⟩=>?_))));exact wpAny_release ⟨σ,H3,I3,q3⟩
def afo(te:TE)(g:TG):TS:=fun D σ H=>te σ H fun x H1=>g x σ H1 D.nx
theorem yq{te:TE}{g:TG}(he:PE X e te)(hg:PG X tg g)(hs:swapsWithSole [tg] e pos.line X.env=pure false:=by rfl)(hw:swappedStores [tg] e X.env=pure none:=by rfl)
 (h1:(assignEach [tg] X.env).map (·.2)=[assign tg X.env]:=by rfl):PS X (.Assign [tg] e pos) (afo te g):=by
 intro pins s σ H D I h;refine wpAny_Assign_stores (xc (he pins s σ H _ I h) fun v s1 ⟨x,H1,I1,r1,q1⟩=>?_) hs hw;rw[h1];exact xc (hg pins s1 σ H1 x v _ I1 r1 q1) fun _ s2 q=>q
theorem ai2{te:TE}(hN:X.N.Nodup)(hi:X.N[i]?=some x)(hx:tZ X.env.scope x)(he:PE X e te)(hs:swapsWith e (some (.Name x pos')) pos.line X.env=pure false:=by rfl)(hf:X.fn x=true\/X.env.scope.names.lookup x=some .local:=by first | exact .inl rfl | exact .inr rfl | assumption):
 PS X (.Assign [.Name x pos'] e pos) (afo te (cM i)):=by
 intro pins s σ H D I h;refine wpAny_Assign_Name (xc (he pins s σ H _ I h) fun v s1 ⟨y,H1,I1,r1,q1⟩=>?_) hs;exact cK I1 hN hi hx r1 (fun s2 I2=>⟨_,H1,I2,q1⟩) hf
def alu(i j:Nat)(ta:TA):TS:=fun D σ H=>ta σ H fun vs H1=>∃v w,vs=[v,w]/\D.nx ((σ.set i (some v)).set j (some w)) H1
theorem ah3{y:Str}{a b:Expr}{ta:TA}{py pt:Pos}{kt k2 pt2}(hc:X.calm=true)(hN:X.N.Nodup)(hi:X.N[i]?=some x)(hj:X.N[j]?=some y)(hij:i≠j)
 (hx:X.env.scope.names.lookup x=some .local) (hy:X.env.scope.names.lookup y=some .local) (ha:PA X [a,b] ta)
 (hw:swappedStores [.Tuple [.Name x px,.Name y py] kt pt] (.Tuple [a,b] k2 pt2) X.env=pure (some [x,y]))
 (hs:swapsWithSole [.Tuple [.Name x px,.Name y py] kt pt] (.Tuple [a,b] k2 pt2) pos.line X.env=pure false:=by rfl):
 PS X (.Assign [.Tuple [.Name x px,.Name y py] kt pt] (.Tuple [a,b] k2 pt2) pos) (alu i j ta):=by
 intro pins s σ H D I h;rw[exec_Assign_arm];refine Ad (wpAny_standAt ?_);rw[hs];refine Ad (Aw ?_);rw[As (by decide)];refine Ad (Tuple_ (xc (ha _ pins s σ H _ I h) fun us s1 ⟨vs,H1,I1,r1,q1⟩=>?_));obtain⟨v,w,e1,q1⟩:=q1;subst e1;obtain⟨u1,u2,rfl,rv,rw'⟩:∃u1 u2,us=[u1,u2]/\za v u1/\za w u2:=by
  cases r1 with
  |cons p q=>
   cases q with
   |cons p' q'=>
    cases q';exact⟨_,_,rfl,p,p'⟩
 refine wpAny_newObj_type ?_ (by show 2≤sizeLine;decide);have I2:qt X pins σ H1 { s1 with heap:=s1.heap.push { cls:=.type "tuple",data:=.seq [u1,u2].toArray } }:=I1.kept (t':=s1.toks) fun b o e=>Heap.get?_push_of_some _ e;rw[hw];refine Ad (Aw ?_);show wpAny (model X.prog X.w) X.A (do rule "assign.swapped-stores";let items <-unpackItems (.ref s1.heap.objs.size) 2 none;assignInOrder [fun v=>bindName X.env y v,fun v=>bindName X.env x v] items.reverse;pure Flow.next) _ _ _;refine Ad (wpAny_rule (Ad (unpackItems_tuple (items:=#[u1,u2]) (I.ok.hd hc) (IsTup.new s1.heap _) fun h' hx'=>?_)));have I3:=I2.kept (h':=h') (t':=s1.toks) fun b o e=>hx' b o (A6 (Heap.lt_size e)) e;show wpAny _ _ (assignInOrder [fun v=>bindName X.env y v,fun v=>bindName X.env x v] [u2,u1] >>= fun _=>pure Flow.next) _ _ _;refine Ad (assignInOrder_cons (wpAny_bindName (cK I3 hN hj (.inl hy) rw' (fun s2 I4=>?_) (.inr hy))));refine assignInOrder_cons (wpAny_bindName (cK I4 hN hi (.inl hx) rv (fun s3 I5=>assignInOrder_nil (Aw ?_)) (.inr hx)));rw[List.set_comm _ _ (AS hij)] at I5;exact⟨_,H1,I5,q1⟩
def ale(i:Nat)(te:TE)(ti:TIp):TS:=fun D σ H=>∃x,σ[i]?=some (some x)/\te σ H fun y H1=>ti x y H1 fun z H2=>D.nx (σ.set i (some z)) H2
theorem afa{te:TE}{op:Operator}{ti:TIp}(hN:X.N.Nodup)(hi:X.N[i]?=some x)(hx:tZ X.env.scope x)(he:PE X e te)(ho:PIp X op ti)(hf:X.fn x=true\/X.env.scope.names.lookup x=some .local:=by first | exact .inl rfl | exact .inr rfl | assumption):
 PS X (.AugAssign (.Name x pos') op e pos) (ale i te ti):=by
 intro pins s σ H D I h;obtain⟨v,e1,h⟩:=h;obtain⟨m,hn,hl⟩:=I.loc;have vis:Vis X.env.scope x:=by rcases hx with k | k;exact .inl k;exact .inr (.inl k)
 obtain⟨u,r,l⟩:=hl i x v hi e1 vis;refine wpAny_AugAssign_Name ?_;have go:wpAny (model X.prog X.w) X.A (eval e X.env) (fun w s₂=>wpAny (model X.prog X.w) X.A (inplaceOp op u w) (fun r s₃=>wpAny (model X.prog X.w) X.A (storeName X.env x r) (fun _=>SP X pins D .next) X.xe s₃) X.xe s₂) X.xe s:=by refine xc (he pins s σ H _ I h) fun w s1 ⟨y,H1,I1,r1,q1⟩=>?_;refine xc (ho pins s1 σ H1 v y u w _ I1 r r1 q1) fun z s2 ⟨zv,H2,I2,r2,q2⟩=>?_;exact cK I2 hN hi hx r2 (fun s3 I3=>⟨_,H2,I3,q2⟩) hf
 rcases l with⟨hk,hm⟩ | ⟨hk,c,hc,hcell⟩
 ·exact wpAny_loadName_local I.ok.kind hk hn hm go
 ·rcases hk with hk | hk
  ·exact wpAny_loadName_cell I.ok.kind hk hc hcell go
  ·rcases hx with k | k
   ·have:X.env.scope.names.lookup x=some .free:=hk;rw[k] at this;cases this
   ·have:X.env.scope.names.lookup x=some .free:=hk;rw[k] at this;cases this
def ipI(f:Int->Int->Int):TIp:=fun x y H Q=>∃i j,x=.int i/\y=.int j/\Q (.int (f i j)) H
theorem ag3:PIp X .Add (ipI fun i j=>i+j):=by intro pins s σ H x y v u Q I r1 r2 h;obtain⟨i,j,e1,e2,q⟩:=h;subst e1;subst e2;obtain⟨t,rfl⟩:=r1;obtain⟨t',rfl⟩:=r2;exact iadd_int ⟨.int _,H,I.tok _,⟨_,rfl⟩,q⟩
theorem agg:PIp X .Sub (ipI fun i j=>i - j):=by intro pins s σ H x y v u Q I r1 r2 h;obtain⟨i,j,e1,e2,q⟩:=h;subst e1;subst e2;obtain⟨t,rfl⟩:=r1;obtain⟨t',rfl⟩:=r2;exact isub_int ⟨.int _,H,I.tok _,⟨_,rfl⟩,q⟩
end
section
def af6(c:TT)(tb:TS):TS:=fun D σ H=>∃W:Nat->St->Hp->Prop,(∃m,W m σ H)/\∀m σ H,W m σ H->
 c σ H fun b H1=>if b=true then ∃N:St->Hp->Prop,(∀σ' H',N σ' H'->∃m',m'<m/\W m' σ' H')/\tb { D with nx:=N,ct:=N,bk:=D.nx } σ H1 else D.nx σ H1
theorem yS{tb:TS}(hp:PassesOwn (model X.prog X.w) X.A X.env X.xe)(hc:PT X c tc)(hb:mF X body tb):PS X (.While c body [] pos) (af6 tc tb):=by
 intro pins s σ H D I h;obtain⟨W,⟨m0,w0⟩,turn⟩:=h;refine wpAny_While (codeAny_whileLoop (fun n s'=>∃σ' H',qt X pins σ' H' s'/\W n σ' H') ?_ m0 ⟨σ,H,I,w0⟩);rintro n s1 ⟨σ1,H1,I1,w1⟩;refine wpAny_passesOwn hp (xc (hc pins s1 σ1 H1 _ I1 (turn n σ1 H1 w1)) fun b s2 ⟨H2,I2,q2⟩=>?_);cases b with
 |true=>
  obtain⟨N,hN,q2⟩:=q2;rw[Av rfl];refine wpAny_passesOwn hp (xc (hb pins s2 σ1 H2 _ I2 q2) fun f s3 q3=>?_);cases f with
  |next=>
   obtain⟨σ3,H3,I3,n3⟩:=q3;obtain⟨m',hm,w3⟩:=hN σ3 H3 n3;exact⟨m',hm,σ3,H3,I3,w3⟩
  |cont=>
   obtain⟨σ3,H3,I3,n3⟩:=q3;obtain⟨m',hm,w3⟩:=hN σ3 H3 n3;exact⟨m',hm,σ3,H3,I3,w3⟩
  |brk=>exact q3
  |ret v=>exact q3
 |false=>
  rw[As Aq];exact wpAny_execs_nil ⟨σ1,H2,I2,q2⟩
end
structure It where
 go:Nat->Hp->Prop
 yld:Nat->Hp->V->Hp->Prop
 stop:Nat->Hp->Prop
def kS(X:Cx)(pins:List (Addr×Obj))(H:Hp)(b:Addr):Prop:=
 H b=none/\b≠X.env.locals/\b∉X.fs/\(b∈X.ex\/X.s₀.heap.objs.size≤b)/\(∀x c,X.env.cells.lookup x=some c->c≠b)/\∀p∈X.pn++pins,p.1≠b
theorem qt.fpOk(I:qt X pins σ H s)(hb:s.heap.objs.size≤b)(hn:H' b=none):kS X pins H' b:=by
 refine⟨hn,Nat.ne_of_gt (AG I.lt hb),I.nofs hb,.inr (AI I.sz hb),fun x c e z=>?_,fun p hp z=>?_⟩
 ·obtain⟨v,q⟩:=I.cell x c e;exact absurd (AG q.lt (by rw[z];exact hb)) (Bz _)
 ·exact absurd (AG (Heap.lt_size (I.pin p hp).1) (by rw[z];exact hb)) (Bz _)
structure ab7(P:Program)(w:World)(K:Ac)(tg:Expr)(J:It)(fp:List Addr)(it:Addr)(tn:Nat->Heap->Prop):Prop where
 mem:it∈fp
 obj:∀i h,tn i h->∀b∈fp,∃o,h.get? b=some o/\∀v,o.data≠.cell v
 keep:∀i h h',tn i h->(∀b∈fp,∀o,h.get? b=some o->h'.get? b=some o)->tn i h'
 item:∀(X:Cx),X.prog=P->X.w=w->X.K=K->X.calm=true->∀(i:Nat) (pins:List (Addr×Obj)) (s:Shared) (σ:St) (H:Hp) (E:Value->Shared->Prop),qt X pins σ H s->(∀b∈fp,kS X pins H b)->tn i s.heap->J.go i H->
  wpAny (model P w) X.A (pyNext (.ref it)) (fun r s1=>∃u,r=some u/\
   wpAny (model P w) X.A (letOwnedTupleGo tg (.ref it) u) (fun _ s2=>∃x H',qt X pins σ H' s2/\za x u/\J.yld i H x H'/\tn (i+1) s2.heap/\∀b∈fp,H' b=none) E s1) E s
 done:∀(X:Cx),X.prog=P->X.w=w->X.K=K->X.calm=true->∀(i:Nat) (pins:List (Addr×Obj)) (s:Shared) (σ:St) (H:Hp) (E:Value->Shared->Prop),qt X pins σ H s->(∀b∈fp,kS X pins H b)->tn i s.heap->J.stop i H->
  wpAny (model P w) X.A (pyNext (.ref it)) (fun r s1=>r=none/\qt X pins σ H s1) E s
 self:∀(A:Around) (i:Nat) (s:Shared) (Q:Value->Shared->Prop) (E:Value->Shared->Prop),tn i s.heap->Q (.ref it) s->wpAny (model P w) A (pyIter (.ref it)) Q E s
abbrev TI:=St->Hp->(It->Hp->Prop)->Prop
def PIE(X:Cx)(pins:List (Addr×Obj))(σ:St)(tg:Expr)(R:It->Hp->Prop)(itv:Value)(s2:Shared):Prop:=
 ∃(it:Addr) (fp:List Addr) (tn:Nat->Heap->Prop) (J:It) (H':Hp),itv=.ref it/\qt X pins σ H' s2/\ab7 X.prog X.w X.K tg J fp it tn/\tn 0 s2.heap/\(∀b∈fp,kS X pins H' b)/\R J H'
def PI(X:Cx)(tg iter:Expr)(wi:TI):Prop:=
 ∀(pins:List (Addr×Obj)) (s:Shared) (σ:St) (H:Hp) (R:It->Hp->Prop),qt X pins σ H s->wi σ H R->
  wpAny (model X.prog X.w) X.A (eval iter X.env) (fun v s1=>wpAny (model X.prog X.w) X.A (pyIter v) (PIE X pins σ tg R) X.xe s1) X.xe s
theorem adr{it:Addr}{o:Obj}{n:String}{vs:Array Value}{Q:Unit->Shared->Prop}(ho:s.heap.get? it=some o)(hc:o.cls=.type n)(hd:o.data=.fields vs)
 (hn:["enumerate", "zip", "dict_itemiterator", "dict_reverseitemiterator", "odict_iterator", "itertools.zip_longest", "itertools.pairwise"].contains n=false) (hQ:Q () s):wpAny M A (letOwnedTupleGo tg (.ref it) u) Q E s:=by
 unfold letOwnedTupleGo;cases tg<;>first
  |exact Aw hQ
  |(cases u<;>first
   |exact Aw hQ
   |(refine Ad (wpAny_load ho ?_)
     rw[hc,hd];show wpAny M A (if (["enumerate", "zip", "dict_itemiterator", "dict_reverseitemiterator", "odict_iterator", "itertools.zip_longest", "itertools.pairwise"].contains n&&vs[0]?==some (rawInt _))=true then _ else _) Q E s;rw[As (by intro h;rw[hn,CM] at h;cases h)];exact Aw hQ))
def Itl(K:Ac)(a:Addr):It:=
 ⟨fun i H=>∃xs x,aG K H a xs/\xs[i]?=some x,fun i H x H'=>H'=H/\∀xs,aG K H a xs->xs[i]?=some x,fun i H=>∃xs,aG K H a xs/\xs.length≤i⟩
def Itr(lo:Int)(n:Nat):It:=⟨fun i _=>i<n,fun i H x H'=>H'=H/\x=.int (lo+i),fun i _=>n≤i⟩
theorem uG{P:Program}{w:World}{K:Ac}(a it:Addr):ab7 P w K tg (Itl K a) [it] it (fun i h=>h.IsListIter it a i) where
 mem:=by simp
 obj:=fun i h st b hb=>by
  have e:b=it:=by simpa using hb
  subst e;obtain⟨o,e,c,d⟩:=st;exact⟨o,e,fun v z=>by rw[d] at z;cases z⟩
 keep:=fun i h h' st k=>st.at fun o e=>k it (by simp) o e
 item:=by intro X hP hw hK hc i pins s σ H E I hf st hg;subst hP hw hK;obtain⟨xs,x,hq,hx⟩:=hg;obtain⟨its,rv,p,hz⟩:=I.list hq;obtain⟨u,hu,ru⟩:=rv.get hx;obtain⟨f0,f1,f2,f3,f4,f5⟩:=hf it (by simp);refine wpAny_pyNext_list_item st p.isList (x:=u) (by simpa using hu) fun h' st' sb=>?_;have I1:qt X pins σ H { s with heap:=h' }:=I.turned (t':=s.toks) (fun b o hb e=>(sb.2 b hb).trans e) f0 f1 f3 f4 f5;obtain⟨o,e,c,d⟩:=id st';exact⟨u,rfl,adr (s:={ s with heap:=h' }) e c d (by decide) ⟨x,H,I1,ru,⟨rfl,fun ys hy=>by rw[I.list_inj hy hq];exact hx⟩,st',fun b hb=>(hf b hb).1⟩⟩
 done:=by intro X hP hw hK hc i pins s σ H E I hf st hg;subst hP hw hK;obtain⟨xs,hq,hx⟩:=hg;obtain⟨its,rv,p,hz⟩:=I.list hq;obtain⟨f0,f1,f2,f3,f4,f5⟩:=hf it (by simp);have hl:=rv.length;exact wpAny_pyNext_list_end (I.ok.hd hc) st p.isList (by simp;omega) fun h' eb=>⟨rfl,I.turned (t':=s.toks) (fun b o hb e=>eb b o hb e) f0 f1 f3 f4 f5⟩
 self:=fun _ _ _ _ _ st h=>wpAny_pyIter_listiter st h
theorem rZ{P:Program}{w:World}{K:Ac}(it:Addr)(lo:Int)(n:Nat):ab7 P w K tg (Itr lo n) [it] it (fun i h=>IsRangeIter h it (lo+(i:Nat)*1) ((n:Int) - (i:Nat)) 1) where
 mem:=by simp
 obj:=fun i h st b hb=>by
  have e:b=it:=by simpa using hb
  subst e;exact⟨_,st,fun v z=>by have z':Data.fields _=Data.cell v:=z;cases z'⟩
 keep:=fun i h h' st k=>k it (by simp) _ st
 item:=by intro X hP hw hK hc i pins s σ H E I hf st hg;subst hP hw hK;obtain⟨f0,f1,f2,f3,f4,f5⟩:=hf it (by simp);have W:=Walks.range (prog:=X.prog) (w:=X.w) (I.ok.hd hc) it lo 1 n;refine jx I.tk (W.item i s _ _ hg st fun v h' tk hv st' kk ht=>?_);obtain⟨t,rfl⟩:=hv;have I1:qt X pins σ H { s with heap:=h',toks:=tk }:=I.turned (fun b o hb e=>kk b o (by simpa using hb) e) f0 f1 f3 f4 f5;refine⟨_,rfl,adr (s:={ s with heap:=h',toks:=tk }) (n:="range_iterator") st' rfl rfl (by decide) ⟨.int (lo+i),H,I1,⟨t,?_⟩,⟨rfl,rfl⟩,st',fun b hb=>(hf b hb).1⟩⟩;rw[Int.mul_one]
 done:=by intro X hP hw hK hc i pins s σ H E I hf st hg;subst hP hw hK;obtain⟨f0,f1,f2,f3,f4,f5⟩:=hf it (by simp);exact wpAny_pyNext_range_end (I.ok.hd hc) st (by have:n≤i:=hg;omega) fun h' eb=>⟨rfl,I.turned (t':=s.toks) (fun b o hb e=>eb b o hb e) f0 f1 f3 f4 f5⟩
 self:=fun _ _ _ _ _ st h=>wpAny_pyIter_rangeiter st h
end L2
variable {wi:L2.TI}
namespace L2
open PySem PySem.Spec PyProof.Rows
section
def aj9(K:Ac)(tl:TE):TI:=fun σ H R=>tl σ H fun x H1=>∃a,x=.ref a/\(∃xs,aG K H1 a xs)/\R (Itl K a) H1
theorem ac0{l:Expr}{tl:TE}(hl:PE X l tl):PI X tg l (aj9 X.K tl):=by
 intro pins s σ H R I h;refine xc (hl pins s σ H _ I h) fun v s1 ⟨x,H1,I1,r1,q1⟩=>?_;obtain⟨a,e,⟨xs,hq⟩,q⟩:=q1;subst e;cases r1;obtain⟨its,rv,p,hz⟩:=I1.list hq;refine wpAny_pyIter_list p.isList ?_;refine⟨s1.heap.objs.size,[s1.heap.objs.size],_,_,H1,rfl,I1.kept (t':=s1.toks) fun b o e=>Heap.get?_push_of_some _ e,uG a _,⟨_,Heap.get?_push_size _ rfl,rfl,rfl⟩,fun b hb=>?_,q⟩;have e:b=s1.heap.objs.size:=by simpa using hb
 subst e;exact I1.fpOk (Ag _) (I1.hok.fresh (Ag _))
theorem zV{R:It->Hp->Prop}{hi:Int}{t u v:Tok}{tk:Nat}(I:qt X pins σ H s)(h1 : -(2 ^ 62)≤lo)(h2:lo<2 ^ 62)(h3 : -(2 ^ 62)≤hi)(h4:hi<2 ^ 62)
 (q:R (Itr lo (hi - lo).toNat) H) (ht:0<tk:=by walk_at "t"):wpAny (model X.prog X.w) X.A (pyIter (.ref s.heap.objs.size)) (PIE X pins σ tg R) E { s with heap:=s.heap.push { cls:=.type "range",data:=.fields #[.int lo t,.int hi u,.int 1 v] },toks:=tk }:=by
 refine wpAny_pyIter_range (IsRange.new ..) (small_one h1 h2 h3 h4) ?_;have I1:qt X pins σ H { s with heap:=s.heap.push { cls:=.type "range",data:=.fields #[.int lo t,.int hi u,.int 1 v] },toks:=tk }:=I.kept fun b o e=>Heap.get?_push_of_some _ e;refine⟨(s.heap.push { cls:=.type "range",data:=.fields #[.int lo t,.int hi u,.int 1 v] }).objs.size,[(s.heap.push { cls:=.type "range",data:=.fields #[.int lo t,.int hi u,.int 1 v] }).objs.size],_,_,H,rfl,
  I1.kept (t':=tk) fun b o e=>Heap.get?_push_of_some _ e,rZ _ lo (hi - lo).toNat,?_,fun b hb=>?_,q⟩
 ·have e1:lo+((0:Nat):Int)*1=lo:=by simp
  have e2:(((hi - lo).toNat:Nat):Int) - ((0:Nat):Int)=Builtin.Range.rangeSize lo hi 1:=by rw[rangeSize_one];split<;>omega
  show IsRangeIter _ _ (lo+((0:Nat):Int)*1) ((((hi - lo).toNat:Nat):Int) - ((0:Nat):Int)) 1;rw[e1,e2];exact Heap.get?_push_size _ rfl
 ·have e:b=(s.heap.push { cls:=.type "range",data:=.fields #[.int lo t,.int hi u,.int 1 v] }).objs.size:=by simpa using hb
  subst e;exact I1.fpOk (Ag _) (I1.hok.fresh (Ag _))
def akk(ta:TA):TI:=fun σ H R=>ta σ H fun vs H1=>∃j:Int,vs=[.int j] /\ -(2 ^ 62)≤j/\j<2 ^ 62/\R (Itr 0 j.toNat) H1
theorem uk{a:Expr}{ta:TA}(hg:Gl X "range")(hm:X.mg "range" = none)(ha:PA X [a] ta)(hs:starEach [a] X.env=[(false,eval a X.env)]:=by rfl):PI X tg (.Call (.Name "range" p) [a] [] pos) (akk ta):=by
 intro pins s σ H R I h;refine Call_ (dZ I hg hm boot_range (BY (xc (ha pos pins s σ H _ I h) fun us s1 ⟨vs,H1,I1,r1,q1⟩=>?_) hs rfl));obtain⟨j,e,q1,q2,q⟩:=q1;subst e;cases r1 with
 |cons r rr=>
  cases rr;obtain⟨t,rfl⟩:=r;exact call_range_1 (zV I1 (by omega) (by omega) q1 q2 (by simpa using q))
def anp(wi:TI)(g:TG)(tb:TS):TS:=fun D σ H=>wi σ H fun J H1=>∃W:Nat->Nat->St->Hp->Prop,(∃m,W 0 m σ H1)/\∀i m σ H,W i m σ H->
 (J.stop i H/\D.nx σ H)\/(J.go i H/\∃N:St->Hp->Prop,(∀σ' H',N σ' H'->∃m',m'<m/\W (i+1) m' σ' H')/\∀x H',J.yld i H x H'->g x σ H' fun σ2 H2=>tb { D with nx:=N,ct:=N,bk:=D.nx } σ2 H2)
def ik(fp:List Addr)(h:Heap):List (Addr×Obj):=fp.filterMap fun b=>(h.get? b).map fun o=>(b,o)
theorem bM{o:Obj}(hb:b∈fp)(e:h.get? b=some o):(b,o)∈ik fp h:=Ce.mpr ⟨b,hb,by rw[e];rfl⟩
theorem tW{p:Addr×Obj}(hp:p∈ik fp h):p.1∈fp/\h.get? p.1=some p.2:=by
 obtain⟨b,hb,e⟩:=Ce.mp hp;cases q:h.get? b with
 |none=>rw[q] at e;cases e
 |some o=>
  rw[q] at e;have e':(b,o)=p:=AK e;subst e';exact⟨hb,q⟩
theorem qt.pinned(I:qt X pins σ H s)(hf:∀b∈fp,kS X pins H b)(ho:∀b∈fp,∃o,s.heap.get? b=some o/\∀v,o.data≠.cell v):qt X (pins++ik fp s.heap) σ H s:=
 I.pins_of fun p hp=>(AA.mp hp).elim (fun z=>I.pin p (Ao _ z)) fun z=>by obtain⟨hb,e⟩:=tW z;obtain⟨f0,f1,f2,_⟩:=hf p.1 hb;obtain⟨o,e',d⟩:=ho p.1 hb;rw[e] at e';cases e';exact⟨e,f0,f1,f2,d⟩
theorem qt.unpinned{pl:List (Addr×Obj)}(I:qt X (pins++pl) σ H s):qt X pins σ H s:=I.pins_of fun p hp=>I.pin p (Ao _ (AF _ hp))
theorem ai1{g:TG}{tb:TS}(hp:PassesOwn (model X.prog X.w) X.A X.env X.xe)(hc:X.calm=true)(hi:PI X tg iter wi)(hg:PG X tg g)(hb:mF X body tb)
 (hs:∀x,foldedSetIterable iter X.env x=pure x:=by intro _;rfl):PS X (.For tg iter body [] pos) (anp wi g tb):=by
 intro pins s σ H D I h;refine wpAny_For (xc (hi pins s σ H _ I h) fun v s1 h1=>xc h1 fun itv s2 h2=>?_) hs;obtain⟨it,fp,tn,J,H2,e,I2,T,st2,f2,W,⟨m0,w0⟩,turn⟩:=h2;subst e;have stat:∀{H':Hp},(∀b∈fp,H' b=none)->∀b∈fp,kS X pins H' b:=fun hn b hb=>⟨hn b hb,(f2 b hb).2⟩;refine codeAny_forLoop_any (fun n s'=>∃i σ' H',qt X pins σ' H' s'/\tn i s'.heap/\(∀b∈fp,H' b=none)/\W i n σ' H') ?_ m0 ⟨0,σ,H2,I2,st2,fun b hb=>(f2 b hb).1,w0⟩;rintro n s3 ⟨i,σ3,H3,I3,st3,fr3,w3⟩;rcases turn i n σ3 H3 w3 with⟨stop,qn⟩ | ⟨go,N,hN,step⟩
 ·refine wpAny_passesOwn hp (xc (T.done X rfl rfl rfl hc i pins s3 σ3 H3 X.xe I3 (stat fr3) st3 stop) fun r s4 ⟨hr,I4⟩=>?_);subst hr;exact wpAny_execs_nil ⟨σ3,H3,I4,qn⟩
 ·refine wpAny_passesOwn hp (xc (T.item X rfl rfl rfl hc i pins s3 σ3 H3 X.xe I3 (stat fr3) st3 go) fun r s4 ⟨u,hr,h4⟩=>?_);subst hr;refine wpAny_passesOwn hp (xc h4 fun _ s5 ⟨x,H5,I5,r5,y5,st5,fr5⟩=>?_);have I5':=I5.pinned (stat fr5) (T.obj _ _ st5);refine wpAny_passesOwn hp (xc (hg _ s5 σ3 H5 x u _ I5' r5 (step x H5 y5)) fun _ s6 ⟨σ6,H6,I6,q6⟩=>?_);refine wpAny_passesOwn hp (xc (hb _ s6 σ6 H6 _ I6 q6) fun f s7 q7=>?_);have again:∀{σ7:St} {H7:Hp},qt X (pins++ik fp s5.heap) σ7 H7 s7->N σ7 H7->∃m,m<n/\∃i σ' H',qt X pins σ' H' s7/\tn i s7.heap/\(∀b∈fp,H' b=none)/\W i m σ' H':=fun {σ7 H7} I7 n7=>by obtain⟨m',hm,w7⟩:=hN σ7 H7 n7;refine⟨m',hm,i+1,σ7,H7,I7.unpinned,T.keep _ _ _ st5 fun b hb o e=>(I7.pin (b,o) (Ao _ (Ao _ (bM hb e)))).1,fun b hb=>?_,w7⟩;obtain⟨o,e,d⟩:=T.obj _ _ st5 b hb;exact(I7.pin (b,o) (Ao _ (Ao _ (bM hb e)))).2.1
  cases f with
  |next=>obtain⟨σ7,H7,I7,n7⟩:=q7;exact again I7 n7
  |cont=>obtain⟨σ7,H7,I7,n7⟩:=q7;exact again I7 n7
  |brk=>obtain⟨σ7,H7,I7,q7⟩:=q7;exact⟨σ7,H7,I7.unpinned,q7⟩
  |ret v=>obtain⟨x7,σ7,H7,I7,r7,q7⟩:=q7;exact⟨x7,σ7,H7,I7.unpinned,r7,q7⟩
end
abbrev R2:=V->V->Hp->VK->Prop
def kg(X:Cx)(f:Value->Value->Sem Value)(r:R2):Prop:=
 ∀(pins:List (Addr×Obj)) (s:Shared) (σ:St) (H:Hp) (x y:V) (v u:Value) (Q:VK),qt X pins σ H s->za x v->za y u->r x y H Q->
  wpAny (model X.prog X.w) X.A (f v u) (EP X pins σ Q) X.xe s
def UnR(X:Cx)(f:Value->Sem Value)(r:V->Hp->VK->Prop):Prop:=
 ∀(pins:List (Addr×Obj)) (s:Shared) (σ:St) (H:Hp) (x:V) (v:Value) (Q:VK),qt X pins σ H s->za x v->r x H Q->
  wpAny (model X.prog X.w) X.A (f v) (EP X pins σ Q) X.xe s
def jv(X:Cx)(f:Value)(r:List V->Hp->VK->Prop):Prop:=
 ∀(pins:List (Addr×Obj)) (s:Shared) (σ:St) (H:Hp) (xs:List V) (us:List Value) (Q:VK),qt X pins σ H s->zh xs us->r xs H Q->
  wpAny (model X.prog X.w) X.A (call f us) (EP X pins σ Q) X.xe s
def tOp(r:R2)(ta tb:TE):TE:=fun σ H Q=>ta σ H fun x H1=>tb σ H1 fun y H2=>r x y H2 Q
def tUn(r:V->Hp->VK->Prop)(ta:TE):TE:=fun σ H Q=>ta σ H fun x H1=>r x H1 Q
def rI(C:Int->Int->Prop)(g:Int->Int->V):R2:=fun x y H Q=>∃i j,x=.int i/\y=.int j/\C i j/\Q (g i j) H
def rI0(g:Int->Int->V):R2:=fun x y H Q=>∃i j,x=.int i/\y=.int j/\Q (g i j) H
def rU(g:Int->V):V->Hp->VK->Prop:=fun x H Q=>∃i,x=.int i/\Q (g i) H
section
variable {a b:Expr}{ta tb tc:TE} 
theorem afr(ha:PE X a ta)(hb:PE X b tb){R:V->V->Hp->Prop}(I:qt X pins σ H s)
 (h:ta σ H fun x H1=>tb σ H1 fun y H2=>R x y H2) {f:Value->Value->Sem Value}
 (hf:∀v u s2 x y H2,qt X pins σ H2 s2->za x v->za y u->R x y H2->wpAny (model X.prog X.w) X.A (f v u) Q X.xe s2):
 wpAny (model X.prog X.w) X.A (eval a X.env) (fun v s₁=>wpAny (model X.prog X.w) X.A (eval b X.env) (fun u s₂=>wpAny (model X.prog X.w) X.A (f v u) Q X.xe s₂) X.xe s₁) X.xe s:=by
 refine xc (ha pins s σ H _ I h) fun v s1 ⟨x,H1,I1,r1,q1⟩=>?_;refine xc (hb pins s1 σ H1 _ I1 q1) fun u s2 ⟨y,H2,I2,r2,q2⟩=>?_;exact hf v u s2 x y H2 I2 r1 r2 q2
theorem ak2{op:Operator}{r:R2}(ho:kg X (binaryOp op) r)(ha:PE X a ta)(hb:PE X b tb):PE X (.BinOp a op b pos) (tOp r ta tb):=by intro pins s σ H Q I h;exact wpAny_BinOp (afr ha hb I h fun v u s2 x y H2 I2 rx ry q=>ho pins s2 σ H2 x y v u Q I2 rx ry q)
theorem aio{op:UnaryOp}{r:V->Hp->VK->Prop}(ho:UnR X (unaryOp op) r)(ha:PE X a ta):PE X (.UnaryOp op a pos) (tUn r ta):=by intro pins s σ H Q I h;exact UnaryOp_ (xc (ha pins s σ H _ I h) fun v s1 ⟨x,H1,I1,r1,q1⟩=>ho pins s1 σ H1 x v Q I1 r1 q1)
theorem opI{f:Value->Value->Sem Value}{C:Int->Int->Prop}{g:Int->Int->Int}
 (rule:∀(i j:Int) (t u:Tok) (s:Shared) (Q:Value->Shared->Prop) (E:Value->Shared->Prop),C i j->Q (.int (g i j) s.toks) { s with toks:=s.toks+1 }->wpAny (model X.prog X.w) X.A (f (.int i t) (.int j u)) Q E s):
 kg X f (rI C fun i j=>.int (g i j)):=by
 intro pins s σ H x y v u Q I rx ry h;obtain⟨i,j,rfl,rfl,hc,q⟩:=h;obtain⟨t,rfl⟩:=rx;obtain⟨t',rfl⟩:=ry;exact rule i j t t' s _ _ hc ⟨.int (g i j),H,I.tok _,⟨_,rfl⟩,q⟩
theorem aig{f:Value->Value->Sem Value}{g:Int->Int->Int}
 (rule:∀(i j:Int) (t u:Tok) (s:Shared) (Q:Value->Shared->Prop) (E:Value->Shared->Prop),Q (.int (g i j) s.toks) { s with toks:=s.toks+1 }->wpAny (model X.prog X.w) X.A (f (.int i t) (.int j u)) Q E s):
 kg X f (rI0 fun i j=>.int (g i j)):=by
 intro pins s σ H x y v u Q I rx ry h;obtain⟨i,j,rfl,rfl,q⟩:=h;obtain⟨t,rfl⟩:=rx;obtain⟨t',rfl⟩:=ry;exact rule i j t t' s _ _ ⟨.int (g i j),H,I.tok _,⟨_,rfl⟩,q⟩
theorem afh{f:Value->Value->Sem Value}{g:Int->Int->Bool}
 (rule:∀(i j:Int) (t u:Tok) (s:Shared) (Q:Value->Shared->Prop) (E:Value->Shared->Prop),Q (.bool (g i j)) s->wpAny (model X.prog X.w) X.A (f (.int i t) (.int j u)) Q E s):
 kg X f (rI0 fun i j=>.bl (g i j)):=by
 intro pins s σ H x y v u Q I rx ry h;obtain⟨i,j,rfl,rfl,q⟩:=h;obtain⟨t,rfl⟩:=rx;obtain⟨t',rfl⟩:=ry;exact rule i j t t' s _ _ ⟨.bl (g i j),H,I,rfl,q⟩
def aft(i j:Int):Prop:=0<j/\j<1073741824
def ahs(i j:Int):Prop:=0≤j/\j≤1000000/\i.natAbs<2 ^ 64
def vJ(i j:Int):Prop:=(-(2 ^ 64)<i/\i<2 ^ 64)\/(-(2 ^ 64)<j/\j<2 ^ 64)
theorem vJ.ok{i j:Int}(h:vJ i j):IntMulOk i j:=by
 rcases h with⟨h1,h2⟩ | ⟨h1,h2⟩
 ·exact .of_left (intBits_le_64 h1 h2)
 ·exact .of_right (intBits_le_64 h1 h2)
theorem agi:kg X (binaryOp .Add) (rI0 fun i j=>.int (i+j)):=aig fun _ _ _ _ _ _ _ q=>add_int q
theorem ag6:kg X (binaryOp .Sub) (rI0 fun i j=>.int (i - j)):=aig fun _ _ _ _ _ _ _ q=>sub_int q
theorem af9:kg X (binaryOp .Mult) (rI vJ fun i j=>.int (i*j)):=opI fun _ _ _ _ _ _ _ hc q=>mul_int q hc.ok
theorem aab:kg X (binaryOp .FloorDiv) (rI aft fun i j=>.int (i / j)):=opI fun i j _ _ _ _ _ hc q=>by have h1:(0:Int)<j:=hc.1;have h2:j<1073741824:=hc.2;exact floordiv_int (by omega) (by rw[Int.fdiv_eq_ediv_of_nonneg i (by omega)];exact q) (.inl (PyProof.noPylong_small (by omega)))
theorem ahe:kg X (binaryOp .Mod) (rI (fun _ j=>0<j) fun i j=>.int (i % j)):=opI fun i j _ _ _ _ _ hc q=>by have h1:(0:Int)<j:=hc;exact mod_int' (by omega) (by rw[Int.fmod_eq_emod_of_nonneg i (by omega)];exact q)
theorem aew:kg X (binaryOp .Pow) (rI ahs fun i j=>.int (i ^ j.toNat)):=opI fun _ _ _ _ _ _ _ hc q=>pow_int_small hc.1 hc.2.1 hc.2.2 q
theorem unI{f:Value->Sem Value}{g:Int->Int}
 (rule:∀(i:Int) (t:Tok) (s:Shared) (Q:Value->Shared->Prop) (E:Value->Shared->Prop),Q (.int (g i) s.toks) { s with toks:=s.toks+1 }->wpAny (model X.prog X.w) X.A (f (.int i t)) Q E s):
 UnR X f (rU fun i=>.int (g i)):=by
 intro pins s σ H x v Q I rx h;obtain⟨i,rfl,q⟩:=h;obtain⟨t,rfl⟩:=rx;exact rule i t s _ _ ⟨.int (g i),H,I.tok _,⟨_,rfl⟩,q⟩
theorem agc:UnR X (unaryOp .USub) (rU fun i=>.int (-i)):=unI fun _ _ _ _ _ q=>neg_int q
end
def ab6:V->V->Bool
 |.non,.non=>true | .non,.int _=>true | .int _,.non=>true | .non,.bl _=>true | .bl _,.non=>true | .non,.str _=>true | .str _,.non=>true
 |.int _,.int _=>true | .bl _,.bl _=>true | .str _,.str _=>true | .byt _,.byt _=>true
 |.int _,.str _=>true | .str _,.int _=>true | .bl _,.str _=>true | .str _,.bl _=>true
 |_,_=>false
def rEq:R2:=fun x y H Q=>ab6 x y=true/\Q (.bl (decide (x=y))) H
def rNe:R2:=fun x y H Q=>ab6 x y=true/\Q (.bl (!decide (x=y))) H
theorem tE{i j:Int}:decide (V.int i=V.int j)=(i==j):=by rw[Bo];simp
theorem vK{i j:Bool}:decide (V.bl i=V.bl j)=(i==j):=by rw[Bo];simp
theorem tS{i j:Str}:decide (V.str i=V.str j)=(i==j):=by rw[Bo];simp
theorem sX{i j:Array UInt8}:decide (V.byt i=V.byt j)=(i.toList==j.toList):=by rw[Bo];cases i;cases j;simp
section
variable {a b:Expr}{ta tb tc:TE} 
theorem j6{Q:VK}{k k':Bool}(I:qt X pins σ H s)(q:Q (.bl k) H)(e:k=k'):EP X pins σ Q (.bool k') s:=by subst e;exact⟨.bl k,H,I,rfl,q⟩
theorem aef:kg X (compareOp .Eq) rEq:=by
 intro pins s σ H x y v u Q I rx ry h;obtain⟨hs,q⟩:=h;cases x with
 |non=>
  cases rx;cases y with
  |non=>cases ry;exact PySem.EqNone.eq_none_none (j6 I q (by simp))
  |bl j=>cases ry;exact PySem.EqNone.eq_none_bool (j6 I q (by simp))
  |int j=>obtain⟨t',rfl⟩:=ry;exact PySem.EqNone.eq_none_int (j6 I q (by simp))
  |str j=>obtain⟨t',rfl⟩:=ry;exact PySem.EqNone.eq_none_str (j6 I q (by simp))
  |_=>exact absurd (show false=true from hs) Aq
 |bl i=>
  cases rx;cases y with
  |non=>cases ry;exact PySem.EqNone.eq_bool_none (j6 I q (by simp))
  |bl j=>cases ry;exact eq_bool (j6 I q vK)
  |str j=>obtain⟨t',rfl⟩:=ry;exact PySem.EqMixed.eq_bool_str (j6 I q (by simp))
  |_=>exact absurd (show false=true from hs) Aq
 |int i=>
  obtain⟨t,rfl⟩:=rx;cases y with
  |non=>cases ry;exact PySem.EqNone.eq_int_none (j6 I q (by simp))
  |int j=>obtain⟨t',rfl⟩:=ry;exact eq_int (j6 I q tE)
  |str j=>obtain⟨t',rfl⟩:=ry;exact PySem.EqMixed.eq_int_str (j6 I q (by simp))
  |_=>exact absurd (show false=true from hs) Aq
 |str i=>
  obtain⟨t,rfl⟩:=rx;cases y with
  |non=>cases ry;exact PySem.EqNone.eq_str_none (j6 I q (by simp))
  |bl j=>cases ry;exact PySem.EqMixed.eq_str_bool (j6 I q (by simp))
  |int j=>obtain⟨t',rfl⟩:=ry;exact PySem.EqMixed.eq_str_int (j6 I q (by simp))
  |str j=>obtain⟨t',rfl⟩:=ry;exact eq_str (j6 I q tS)
  |_=>exact absurd (show false=true from hs) Aq
 |byt i=>
  obtain⟨t,rfl⟩:=rx;cases y with
  |byt j=>obtain⟨t',rfl⟩:=ry;exact PySem.W.eq_bytes (j6 I q sX)
  |_=>exact absurd (show false=true from hs) Aq
 |_=>cases y<;>exact absurd (show false=true from hs) Aq
theorem ae0:kg X (compareOp .NotEq) rNe:=by
 intro pins s σ H x y v u Q I rx ry h;obtain⟨hs,q⟩:=h;cases x with
 |non=>
  cases rx;cases y with
  |non=>cases ry;exact PySem.EqNone.ne_none_none (j6 I q (by simp))
  |bl j=>cases ry;exact PySem.EqNone.ne_none_bool (j6 I q (by simp))
  |int j=>obtain⟨t',rfl⟩:=ry;exact PySem.EqNone.ne_none_int (j6 I q (by simp))
  |str j=>obtain⟨t',rfl⟩:=ry;exact PySem.EqNone.ne_none_str (j6 I q (by simp))
  |_=>exact absurd (show false=true from hs) Aq
 |bl i=>
  cases rx;cases y with
  |non=>cases ry;exact PySem.EqNone.ne_bool_none (j6 I q (by simp))
  |bl j=>cases ry;exact ne_bool (j6 I q (A4 not vK))
  |str j=>obtain⟨t',rfl⟩:=ry;exact PySem.EqMixed.ne_bool_str (j6 I q (by simp))
  |_=>exact absurd (show false=true from hs) Aq
 |int i=>
  obtain⟨t,rfl⟩:=rx;cases y with
  |non=>cases ry;exact PySem.EqNone.ne_int_none (j6 I q (by simp))
  |int j=>obtain⟨t',rfl⟩:=ry;exact ne_int (j6 I q (A4 not tE))
  |str j=>obtain⟨t',rfl⟩:=ry;exact PySem.EqMixed.ne_int_str (j6 I q (by simp))
  |_=>exact absurd (show false=true from hs) Aq
 |str i=>
  obtain⟨t,rfl⟩:=rx;cases y with
  |non=>cases ry;exact PySem.EqNone.ne_str_none (j6 I q (by simp))
  |bl j=>cases ry;exact PySem.EqMixed.ne_str_bool (j6 I q (by simp))
  |int j=>obtain⟨t',rfl⟩:=ry;exact PySem.EqMixed.ne_str_int (j6 I q (by simp))
  |str j=>obtain⟨t',rfl⟩:=ry;exact ne_str (j6 I q (A4 not tS))
  |_=>exact absurd (show false=true from hs) Aq
 |byt i=>
  obtain⟨t,rfl⟩:=rx;cases y with
  |byt j=>obtain⟨t',rfl⟩:=ry;exact PySem.W.ne_bytes (j6 I q (A4 not sX))
  |_=>exact absurd (show false=true from hs) Aq
 |_=>cases y<;>exact absurd (show false=true from hs) Aq
theorem ake:kg X (compareOp .Lt) (rI0 fun i j=>.bl (decide (i<j))):=afh fun _ _ _ _ _ _ _ q=>lt_int q
theorem ak8:kg X (compareOp .LtE) (rI0 fun i j=>.bl (decide (i≤j))):=afh fun _ _ _ _ _ _ _ q=>le_int q
theorem ak5:kg X (compareOp .Gt) (rI0 fun i j=>.bl (decide (j<i))):=afh fun _ _ _ _ _ _ _ q=>gt_int q
theorem kh(b:Expr){op:CmpOp}(h:op≠.In:=by decide)(h2:op≠.NotIn:=by decide):behindInMarks op b=false:=by
 have e1:(op==CmpOp.In)=false:=by cases op<;>first | rfl | exact absurd rfl h
 have e2:(op==CmpOp.NotIn)=false:=by cases op<;>first | rfl | exact absurd rfl h2
 cases b<;>simp[behindInMarks,e1,e2]
theorem abf{op:CmpOp}{r:R2}(ho:kg X (compareOp op) r)(ha:PE X a ta)(hb:PE X b tb)(hm:behindInMarks op b=false):PE X (.Compare a [op] [b] pos) (tOp r ta tb):=by intro pins s σ H Q I h;exact wpAny_Compare1 (afr ha hb I h fun v u s2 x y H2 I2 rx ry q=>ho pins s2 σ H2 x y v u Q I2 rx ry q) hm
def vQ(t:TE):TT:=fun σ H Q=>t σ H fun x H'=>∃k,x=.bl k/\Q k H'
theorem aai{op:CmpOp}{r:R2}(ho:kg X (compareOp op) r)(ha:PE X a ta)(hb:PE X b tb)(hm:behindInMarks op b=false):PT X (.Compare a [op] [b] pos) (vQ (tOp r ta tb)):=by
 intro pins s σ H Q I h;refine wpAny_isTrue_Compare1 (xc (ha pins s σ H _ I h) fun v s1 ⟨x,H1,I1,r1,q1⟩=>xc (hb pins s1 σ H1 _ I1 q1) fun u s2 ⟨y,H2,I2,r2,q2⟩=>
  xc (ho pins s2 σ H2 x y v u _ I2 r1 r2 q2) fun c s3 ⟨z,H3,I3,r3,k,e,q3⟩=>?_) hm
 subst e;cases r3;exact wpAny_truthy_bool ⟨H3,I3,q3⟩
theorem gP:(sizeLine:Nat)<2 ^ 63:=by rw[sizeLine_eq];decide
theorem qZ:kg X (binaryOp .Add) (fun x y H Q=>∃i j,x=.str i/\y=.str j/\i.length+j.length≤sizeLine/\Q (.str (i++j)) H):=by intro pins s σ H x y v u Q I rx ry h;obtain⟨i,j,rfl,rfl,hz,q⟩:=h;obtain⟨t,rfl⟩:=rx;obtain⟨t',rfl⟩:=ry;exact jx I.tk (add_str (fun t' tk ht=>⟨.str (i++j),H,I.tok _,⟨_,rfl⟩,q⟩) hz)
theorem pX{x:V}(r:zh [x] us):∃u,us=[u]/\za x u:=by cases r with|cons r1 r2=>cases r2;exact⟨_,rfl,r1⟩
theorem adz{x y:V}(r:zh [x,y] us):∃u w',us=[u,w']/\za x u/\za y w':=by
 cases r with
 |cons r1 r2=>
  cases r2 with|cons r3 r4=>cases r4;exact⟨_,_,rfl,r1,r3⟩
theorem tV(hc:X.calm=true):jv X (.builtin "max") (fun xs H Q=>∃i j,xs=[.int i,.int j]/\Q (.int (if j > i then j else i)) H):=by
 intro pins s σ H xs us Q I r h;obtain⟨i,j,rfl,q⟩:=h;obtain⟨u,w',rfl,⟨t,rfl⟩,⟨t',rfl⟩⟩:=adz r;refine jx I.tk (max_two_ints (I.ok.hd hc) fun h' tk k ht=>⟨_,H,I.kept k,?_,q⟩);by_cases hj:j > i
 ·rw[Av hj,Av hj];exact⟨_,rfl⟩
 ·rw[As hj,As hj];exact⟨_,rfl⟩
theorem tf(hc:X.calm=true):jv X (.builtin "min") (fun xs H Q=>∃i j,xs=[.int i,.int j]/\Q (.int (if j<i then j else i)) H):=by
 intro pins s σ H xs us Q I r h;obtain⟨i,j,rfl,q⟩:=h;obtain⟨u,w',rfl,⟨t,rfl⟩,⟨t',rfl⟩⟩:=adz r;refine jx I.tk (min_two_ints (I.ok.hd hc) fun h' tk k ht=>⟨_,H,I.kept k,?_,q⟩);by_cases hj:j<i
 ·rw[Av hj,Av hj];exact⟨_,rfl⟩
 ·rw[As hj,As hj];exact⟨_,rfl⟩
end
structure qN(h:Heap)(x dx C:Addr)(mA:Str->Option Value):Prop where
 obj:h.get? x=some (PySem.W.instObj C dx)
 ns:h.Ns1 dx mA
 ne:dx≠x
theorem ul(n:h.Ns1 dx mA):∃od,h.get? dx=some od/\∀name,PySem.W.lookIn name od=some (mA name):=by
 obtain⟨o,es,ep,ho,hd,hk,_,hm⟩:=n;refine⟨o,ho,fun name=>?_⟩;have e:=hm name;unfold nsFind findBy at e;rw[<-Array.find?_toList] at e;unfold PySem.W.lookIn;rw[hd];dsimp only;split
 ·rename_i y q;rw[q] at e;exact A4 some e
 ·rename_i q;rw[q] at e;have a:es.toList.any (·.refKey)=false:=by rw[List.any_eq_false];intro y hy;obtain⟨z,t,hkey⟩:=hk y (Array.mem_toList_iff.mp hy);simp[DictEntry.refKey,hkey]
  have a':¬es.toList.any (·.refKey)=true:=by rw[a];exact Aq
  rw[As a'];exact A4 some e
theorem qN.look{x:Addr}(I:qN h x dx C mA):∃od,PySem.W.InstAt h x (PySem.W.instObj C dx) C (some od)/\∀name,PySem.W.lookIn name od=some (mA name):=
 let ⟨od,ho,hl⟩:=ul I.ns
 ⟨od,⟨I.obj,rfl,rfl,ho⟩,hl⟩
section
variable {w:World}{K:Ac}{x:Addr}{v:Value}
theorem ad9{expr:Bool}(X:K.In s.heap)(I:qN s.heap x dx C mA)(hg:PySem.W.plainGet K C name=true)(hh:PySem.W.hasDictIn K C=true)
 (ha:PySem.W.findIn K (.ref C) name=some none) (hv:mA name=some v) (hv':PySem.W.handedIn v=true) (h:Q v { s with toks:=s.toks+1 }):
 wpAny (model prog w) A (getAttr (.ref x) name expr) Q E s:=by
 obtain⟨od,J,hl⟩:=I.look;exact PySem.W.get_value X J (CH hg).1 (PySem.W.findObj_own hh ha rfl (by rw[hl,hv])) hv' h
theorem vP{pl:Sem Bool}{Q:Value×List Value->Shared->Prop}(X:K.In s.heap)(I:qN s.heap x dx C mA)(hg:PySem.W.plainGet K C name=true)
 (hf:PySem.W.findIn K (.ref C) name=some (some (.ref f))) (ht:PySem.W.isFn K (.ref f)=true) (hv:mA name=none) (h:Q (.ref f,[.ref x]) s):
 wpAny (model prog w) A (getMethod (.ref x) name pl) Q E s:=by
 obtain⟨od,J,hl⟩:=I.look;exact PySem.W.method_fn X J (CH hg).1 (CH hg).2 hf (beq_iff_eq.mp ht) (by show(PySem.W.lookIn name od).map (·.isSome)=some false;rw[hl,hv];rfl) h
theorem acf{ns:List Str}{Q:Unit->Shared->Prop}(X:K.In s.heap)(I:qN s.heap x dx C mA)
 (hs:PySem.W.findIn K (.ref C) "__setattr__" = some (some (.builtin "object.__setattr__"))) (hp:PySem.W.plainOver K C=true) (ht:PySem.W.takerIn K C name=some none) (hh:PySem.W.hasDictIn K C=true)
 (hw:PySem.Within mA ns) (hsz:ns.length≤sizeLine)
 (h:∀h',qN h' x dx C (fun y=>if y=name then some v else mA y)->Heap.SameBut dx s.heap h'->Q () { s with heap:=h',toks:=s.toks+2 }):
 wpAny (model prog w) A (setAttr (.ref x) name v) Q E s:=by
 obtain⟨od,J,hl⟩:=I.look;refine PySem.W.set_plain X J hs (PySem.W.osa_open (s:={ s with toks:=s.toks+1 }) (r:=none) X J hp ht fun b=>?_);obtain⟨cd,hc,hd'⟩:=PySem.W.any_some hh;have hx:s.heap.get? x=some ⟨.ref C,some dx,.plain,#[]⟩:=I.obj;refine Ad (Aw (Ad (Ad (wpAny_loadPart hx (Ad (PySem.W.Looks.here (s:={ s with toks:=s.toks+1 }) (PySem.W.looks_clsIn X hc) ?_))))));rw[hd'];refine Aw (a:=some dx) (Ad (Aw (Ad ?_)));refine wpAny_nsSet1 (s:={ s with toks:=s.toks+1 }) I.ns fun h' hn2 hs2=>?_;obtain⟨oD,esD,epD,hoD,hdD,hcD⟩:=hn2.count (PySem.Within.cons name v hw);refine Ad (wpAny_lookBehind hoD (by rw[hdD];exact pastItsLine_dict (AI hcD (by rw[AD];omega))) ?_);exact Aw (h _ ⟨(hs2.2 _ (AS I.ne)).trans I.obj,hn2,I.ne⟩ hs2)
theorem xO{R:Result->Shared->Prop}(X:K.In s.heap)(hm:PySem.W.makesIn K C=true)
 (hi:PySem.W.findIn K (.ref C) "__init__" = some (some (.ref f))) (hf:PySem.W.typeIn K (.ref f)=some (.type "function"))
 (h:codeAny (model prog w) (A.under (.builtin "type.__call__" ⟨.ref C::vs,kw⟩)) (.call (.ref f) ⟨.ref (s.heap.objs.size+1)::vs,kw⟩) (PySem.W.InitBack (s.heap.objs.size+1) R)
  { s with heap:=(s.heap.push PySem.W.emptyDict).push (PySem.W.instObj C s.heap.objs.size) }):
 codeAny (model prog w) A (.call (.ref C) ⟨vs,kw⟩) R s:=by
 obtain⟨hh,g,d,t,os⟩:=s;exact PySem.W.make_core (PySem.W.makes_of X hm) (PySem.W.looks_findIn X hi) (fun self=>PySem.W.bind_fn X self hf) (.inl rfl) h
end
def bF(f:Str)(v:V):List (Str×V)->List (Str×V)
 |[]=>[(f,v)]
 |(g,x)::r=>if g=f then(g,v)::r else(g,x)::bF f v r
theorem gW(f g:Str)(v:V):∀fs:List (Str×V),(bF f v fs).lookup g=if g=f then some v else fs.lookup g
 |[]=>by
  show List.lookup g [(f,v)]=_;by_cases h:g=f
  ·have hb:(g==f)=true:=beq_iff_eq.mpr h;simp only[List.lookup,hb,Av h]
  ·have hb:(g==f)=false:=beq_eq_false_iff_ne.mpr h;simp only[List.lookup,hb,As h]
 |(k,x)::r=>by
  have ih:=gW f g v r;rw[show bF f v ((k,x)::r)=(if k=f then(k,v)::r else(k,x)::bF f v r) from rfl];by_cases hk:k=f
  ·rw[Av hk];by_cases h:g=k
   ·have hb:(g==k)=true:=beq_iff_eq.mpr h;simp only[List.lookup,hb,Av (h.trans hk)]
   ·have hb:(g==k)=false:=beq_eq_false_iff_ne.mpr h;simp only[List.lookup,hb,As (fun e:g=f=>h (e.trans hk.symm))]
  ·rw[As hk];by_cases h:g=k
   ·have hb:(g==k)=true:=beq_iff_eq.mpr h;simp only[List.lookup,hb,As (fun e:g=f=>hk (h.symm.trans e))]
   ·have hb:(g==k)=false:=beq_eq_false_iff_ne.mpr h;simp only[List.lookup,hb];exact ih
theorem gC(f:Str)(v:V):∀fs:List (Str×V),f∈(bF f v fs).map (·.1)/\∀g,g∈fs.map (·.1)->g∈(bF f v fs).map (·.1)
 |[]=>⟨by simp[bF],fun g h=>by simp at h⟩
 |(k,x)::r=>by
  obtain⟨i1,i2⟩:=gC f v r;rw[show bF f v ((k,x)::r)=(if k=f then(k,v)::r else(k,x)::bF f v r) from rfl];by_cases hk:k=f
  ·rw[Av hk];subst hk;exact⟨by simp,fun g h=>by simpa using h⟩
  ·rw[As hk];refine⟨?_,fun g h=>?_⟩
   ·rw[Ay];exact Af _ i1
   ·rw[Ay] at h ⊢;rcases AC.mp h with e | e
    ·exact AC.mpr (.inl e)
    ·exact Af _ (i2 g e)
theorem gh(f:Str)(v:V):∀fs:List (Str×V),(bF f v fs).length≤fs.length+1
 |[]=>by simp[bF]
 |(k,x)::r=>by
  have ih:=gh f v r;rw[show bF f v ((k,x)::r)=(if k=f then(k,v)::r else(k,x)::bF f v r) from rfl];by_cases hk:k=f
  ·rw[Av hk,AD,AD];omega
  ·rw[As hk,AD,AD];omega
theorem aq.some_of{o:Option Value}(r:aq (some v) o):∃u,o=some u/\za v u:=by cases o with|none=>exact(show False from r).elim|some u=>exact⟨u,rfl,r⟩
abbrev DI:=@aq.some_of
theorem aq.none_of{o:Option Value}(r:aq none o):o=none:=by cases o with|none=>rfl|some u=>exact(show False from r).elim
theorem uM(r:za v u):PySem.W.handedIn u=true:=by
 cases v with
 |non=>cases (show u=Value.none from r);rfl
 |bl b=>cases (show u=Value.bool b from r);rfl
 |int i=>obtain⟨t,e⟩:=(show ∃t,u=Value.int i t from r);cases e;rfl
 |str x=>obtain⟨t,e⟩:=(show ∃t,u=Value.str x t from r);cases e;rfl
 |byt b=>obtain⟨t,e⟩:=(show ∃t,u=Value.bytes b t from r);cases e;rfl
 |flt b=>obtain⟨t,e⟩:=(show ∃t,u=Value.float b t from r);cases e;rfl
 |ref a=>cases (show u=Value.ref a from r);rfl
 |ty n=>cases (show u=Value.type n from r);rfl
section
variable {P:Program}{w:World}{fs fs':List (Str×V)}
theorem iK(hok:bx P w H h)(e:H a=some (.ins C dx fs)):∃mA,qN h a dx C mA/\(∀f,aq (fs.lookup f) (mA f))/\PySem.Within mA (fs.map (·.1))/\fs.length≤1000/\H dx=some (.own a):=by obtain⟨d,z,ne,ob,mA,n,r,q⟩:=(show xj P w H h a (.ins C dx fs) from hok a _ e);exact⟨mA,⟨ob,n,ne⟩,r,q,z,d⟩
end
structure Cls(K:Ac)(C:Addr):Prop where
 pg:PySem.W.plainGet K C Str.empty=true
 hd:PySem.W.hasDictIn K C=true
 po:PySem.W.plainOver K C=true
 sa:PySem.W.findIn K (.ref C) "__setattr__" = some (some (.builtin "object.__setattr__"))
theorem Cls.get{K:Ac}(c:Cls K C)(f:Str):PySem.W.plainGet K C f=true:=c.pg
def NoAttr(K:Ac)(C:Addr)(f:Str):Prop:=PySem.W.findIn K (.ref C) f=some none
theorem NoAttr.taker{K:Ac}{f:Str}(n:NoAttr K C f):PySem.W.takerIn K C f=some none:=by unfold PySem.W.takerIn;rw[show PySem.W.findIn K (.ref C) f=some none from n];rfl
structure yb(K:Ac)(C:Addr)(m:Str)(f:Addr):Prop where
 at_:PySem.W.findIn K (.ref C) m=some (some (.ref f))
 fn:PySem.W.isFn K (.ref f)=true
 kp:PySem.W.keepIn K (.ref f)=true
section
variable {fs:List (Str×V)}{f:Str} 
theorem qO{b:Bool}(I:qt X pins σ H s)(e:H a=some (.ins C dx fs))(c:Cls X.K C)(n:NoAttr X.K C f)(l:fs.lookup f=some v)
 (h:∀u s',qt X pins σ H s'->za v u->Q u s'):wpAny (model X.prog X.w) A (getAttr (.ref a) f b) Q E s:=by
 obtain⟨mA,O,r,_,_,_⟩:=iK I.hok e;obtain⟨u,hu,ru⟩:=DI (v:=v) (o:=mA f) (by rw[<-l];exact r f);exact ad9 I.kIn O (c.get f) c.hd n hu (uM ru) (h u _ (I.tok _) ru)
theorem qY{m:Str}{g:Addr}{pl:Sem Bool}{Q:Value×List Value->Shared->Prop}(I:qt X pins σ H s)(e:H a=some (.ins C dx fs))(c:Cls X.K C)(k:yb X.K C m g)(l:fs.lookup m=none)
 (h:Q (.ref g,[.ref a]) s):wpAny (model X.prog X.w) A (getMethod (.ref a) m pl) Q E s:=by
 obtain⟨mA,O,r,_,_,_⟩:=iK I.hok e;have hn:mA m=none:=aq.none_of (by rw[<-l];exact r m);exact vP I.kIn O (c.get m) k.at_ k.fn hn h
theorem rG{y:V}{Q:Unit->Shared->Prop}(I:qt X pins σ H s)(e:H a=some (.ins C dx fs))(c:Cls X.K C)(n:NoAttr X.K C f)(hl:fs.length<1000)(ry:za y u)
 (h:∀s',qt X pins σ (upd H a (.ins C dx (bF f y fs))) s'->Q () s'):wpAny (model X.prog X.w) A (setAttr (.ref a) f u) Q E s:=by
 obtain⟨mA,O,r,wi,_,ho⟩:=iK I.hok e;have hz:(fs.map (·.1)).length≤sizeLine:=by rw[Aa,sizeLine_eq];omega
 refine acf I.kIn O c.sa c.po n.taker c.hd wi hz fun h' O' sb=>h _ ?_;have hd:∃o,h'.get? dx=some o:=let ⟨o,_,_,e',_⟩:=O'.ns;⟨o,e'⟩;refine I.write (x:=a) (e:=dx) (by rw[e];exact True.intro) (.inr ho) (fun b q hb z=>(sb.2 b hb).trans z) hd ?_;refine⟨by rw[z7 O.ne];exact ho,?_,O.ne,O'.obj,_,O'.ns,fun g=>?_,fun g hg=>?_⟩
 ·have:=gh f y fs;omega
 ·show aq ((bF f y fs).lookup g) (if g=f then some u else mA g);rw[gW];by_cases q:g=f
  ·rw[Av q,Av q];exact ry
  ·rw[As q,As q];exact r g
 ·by_cases q:g=f
  ·rw[q];exact(gC f y fs).1
  ·refine(gC f y fs).2 g (wi g fun z=>hg ?_);show(if g=f then some u else mA g)=none;rw[As q];exact z
theorem qt.made(I:qt X pins σ H s):qt X pins σ (upd (upd H s.heap.objs.size (.own (s.heap.objs.size+1))) (s.heap.objs.size+1) (.ins C s.heap.objs.size []))
 { s with heap:=(s.heap.push PySem.W.emptyDict).push (PySem.W.instObj C s.heap.objs.size) }:=by
 have e1:(s.heap.push PySem.W.emptyDict).get? s.heap.objs.size=some PySem.W.emptyDict:=Heap.get?_push_size s.heap rfl;have e2:((s.heap.push PySem.W.emptyDict).push (PySem.W.instObj C s.heap.objs.size)).get? (s.heap.objs.size+1)=some (PySem.W.instObj C s.heap.objs.size):=by have:=Heap.get?_push_size (s.heap.push PySem.W.emptyDict) (o:=PySem.W.instObj C s.heap.objs.size) rfl;rwa[Heap.size_push] at this
 have e3:(s.heap.push PySem.W.emptyDict).Ns s.heap.objs.size (fun _=>none):=⟨PySem.W.emptyDict,#[],_,e1,rfl,(fun e he=>absurd he (by simp)),fun _=>rfl⟩;have I1:=I.laid (a:=s.heap.objs.size) (o:=.own (s.heap.objs.size+1)) (h':=s.heap.push PySem.W.emptyDict) (t':=s.toks) (fun b u q=>Heap.get?_push_of_some _ q) (Ag _) ⟨_,e1⟩;refine I1.laid (a:=s.heap.objs.size+1) (o:=.ins C s.heap.objs.size []) (t':=s.toks) (fun b u q=>Heap.get?_push_of_some _ q) (Nat.le_of_eq (Heap.size_push _ _)) ?_;have ne:s.heap.objs.size≠s.heap.objs.size+1:=A6 (BM _);refine⟨by rw[z7 ne,xk],Bb _,ne,e2,fun _=>none,(Heap.Ns1.of_empty e3).at fun o q=>Heap.get?_push_of_some _ q,fun _=>True.intro,fun y hy=>absurd rfl hy⟩
theorem acb{w:World}{f:Str}(hb:attributeBase e f env (eval e env)=eval e env)
 (h:wpAny (model prog w) A (eval e env) (fun o s₁=>wpAny (model prog w) A (getAttr o f true) Q E s₁) E s):wpAny (model prog w) A (eval (.Attribute e f pos) env) Q E s:=
 Attribute_any_ h (by rw[arm_eval_Attribute,hb])
end
def amr(K:Ac)(ta:TE)(f:Str):TE:=fun σ H Q=>ta σ H fun x H1=>∃a C dx fs v,x=.ref a/\H1 a=some (.ins C dx fs)/\Cls K C/\NoAttr K C f/\fs.lookup f=some v/\Q v H1
def aml(K:Ac)(ta tv:TE)(f:Str):TS:=fun D σ H=>tv σ H fun y H1=>ta σ H1 fun x H2=>∃a C dx fs,x=.ref a/\H2 a=some (.ins C dx fs)/\Cls K C/\NoAttr K C f/\fs.length<1000/\
 D.nx σ (upd H2 a (.ins C dx (bF f y fs)))
section
variable {f:Str}{tpos:Pos}{ta tv:TE}
theorem afj(he:PE X e ta)(hb:attributeBase e f X.env (eval e X.env)=eval e X.env):PE X (.Attribute e f pos) (amr X.K ta f):=by intro pins s σ H Q I h;refine acb hb (xc (he pins s σ H _ I h) fun u s1 ⟨x,H1,I1,rx,a,C,dx,fs,v,ex,ea,c,n,l,q⟩=>?_);subst ex;obtain rfl:u=Value.ref a:=rx;exact qO I1 ea c n l fun u' s2 I2 ru=>⟨v,H1,I2,ru,q⟩
theorem ahb(ha:PE X o ta)(hv:PE X value tv)(hs:swapsWith value (some (.Attribute o f pos')) pos.line X.env=pure false):PS X (.Assign [.Attribute o f pos'] value pos) (aml X.K ta tv f):=by intro pins s σ H D I h;refine plainObj_wpAny_Assign_Attribute (xc (hv pins s σ H _ I h) fun u s1 ⟨y,H1,I1,ry,q⟩=>xc (ha pins s1 σ H1 _ I1 q) fun ov s2 ⟨x,H2,I2,rx,a,C,dx,fs,ex,ea,c,n,l,q2⟩=>?_) hs;subst ex;obtain rfl:ov=Value.ref a:=rx;exact rG I2 ea c n l ry fun s3 I3=>⟨σ,_,I3,q2⟩
end
section
variable {c:Value}{b:Bool}
inductive hZ(K:Ac)(H:Hp):V->Value->Prop where
 |non:hZ K H .non (.type "NoneType")
 |bl (x:Bool):hZ K H (.bl x) (.type "bool")
 |int (i:Int):hZ K H (.int i) (.type "int")
 |str (x:Str):hZ K H (.str x) (.type "str")
 |flt (x:UInt64):hZ K H (.flt x) (.type "float")
 |lst {a:Addr} {xs:List V} (e:H a=some (.lst xs)):hZ K H (.ref a) (.type "list")
 |frz {a:Addr} {o:Obj} {xs:List V} (e:H a=some (.frz o (.lst xs))):hZ K H (.ref a) (.type "list")
 |tup {a:Addr} {xs:List V} (e:H a=some (.tup xs)):hZ K H (.ref a) (.type "tuple")
 |dK {a:Addr} {kvs:List (jc×V)} (e:H a=some (.dK kvs)):hZ K H (.ref a) (.type "dict")
 |dT {a:Addr} {kvs:List (List jc×V)} (e:H a=some (.dT kvs)):hZ K H (.ref a) (.type "dict")
 |ins {a C dx:Addr} {fs:List (Str×V)} (e:H a=some (.ins C dx fs)) (cl:Cls K C) (ha:PySem.W.findIn K (.ref C) "__class__" = some (some (.builtin "object.__class__")))
  (hn:PySem.W.specialIn K (.builtin "object.__class__") "__get__" = some (some (.builtin "getset_descriptor.__get__"))) (htk:PySem.W.takesIn K (.builtin "object.__class__")=some true)
  (hm:PySem.W.mroIn K C (.type "object")=some true):hZ K H (.ref a) (.ref C)
theorem aV{x:V}{t:Value}(I:qt X pins σ H s)(rx:za x u)(ty:hZ X.K H x t)(e:PySem.W.kitOne X.K t c=some b)(h:∀tk,Q (.bool b) { s with toks:=tk }):
 wpAny (model X.prog X.w) A (call (.builtin "isinstance") [u,c]) Q E s:=by
 cases ty with
 |non=>cases (show u=Value.none from rx);exact A8 PySem.W.kitx_none I.kIn True.intro e (fun z=>nomatch z) h
 |bl y=>cases (show u=Value.bool y from rx);exact A8 PySem.W.kitx_bool I.kIn True.intro e (fun z=>nomatch z) h
 |int i=>obtain⟨t,q⟩:=(show ∃t,u=Value.int i t from rx);cases q;exact A8 PySem.W.kitx_int I.kIn True.intro e (fun z=>nomatch z) h
 |str y=>obtain⟨t,q⟩:=(show ∃t,u=Value.str y t from rx);cases q;exact A8 PySem.W.kitx_str I.kIn True.intro e (fun z=>nomatch z) h
 |flt y=>obtain⟨t,q⟩:=(show ∃t,u=Value.float y t from rx);cases q;exact A8 PySem.W.kitx_float I.kIn True.intro e (fun z=>nomatch z) h
 |@lst a xs ea=>
  cases (show u=Value.ref a from rx);obtain⟨_,_,n,_,h1⟩:=(show xj X.prog X.w H s.heap a (.lst xs) from I.hok a _ ea);exact A8 CY I.kIn ⟨_,h1,rfl⟩ e (fun z=>nomatch z) h
 |@frz a ob xs ea=>
  cases (show u=Value.ref a from rx);obtain⟨_,_,_,n,_,h1⟩:=(show xj X.prog X.w H s.heap a (.frz ob (.lst xs)) from I.hok a _ ea);exact A8 CY I.kIn ⟨_,h1,rfl⟩ e (fun z=>nomatch z) h
 |@tup a xs ea=>
  cases (show u=Value.ref a from rx);obtain⟨_,_,_,p⟩:=(show xj X.prog X.w H s.heap a (.tup xs) from I.hok a _ ea);obtain⟨o,h1,h2,_⟩:=p;exact A8 PySem.W.kitx_tuple I.kIn ⟨o,h1,h2⟩ e (fun z=>nomatch z) h
 |@dK a kvs ea=>
  cases (show u=Value.ref a from rx);obtain⟨_,_,vs,_,p⟩:=(show xj X.prog X.w H s.heap a (.dK kvs) from I.hok a _ ea);obtain⟨o,es,ep,h1,h2,_⟩:=p;exact A8 PySem.W.kitx_dict I.kIn ⟨o,h1,h2.1⟩ e (fun z=>nomatch z) h
 |@dT a kvs ea=>
  cases (show u=Value.ref a from rx);obtain⟨_,_,xs,_,o,es,ep,h1,h2,_⟩:=(show xj X.prog X.w H s.heap a (.dT kvs) from I.hok a _ ea);exact A8 PySem.W.kitx_dict I.kIn ⟨o,h1,h2.1⟩ e (fun z=>nomatch z) h
 |@ins a C dx fs ea cl ha hn htk hm=>
  cases (show u=Value.ref a from rx);obtain⟨mA,O,_⟩:=iK I.hok ea;obtain⟨od,J,_⟩:=O.look;exact A8 (PySem.W.kitx_own (cl.get _) cl.hd ha hn htk hm) I.kIn J e (fun z=>nomatch z) h
end
structure v8(k:Nat)(A:Around):Prop where
 hd:A.handled=none
 dp:A.depth+3*k+5<recursionLimit
 un:A.units+16*k+200<cLine
theorem v8.mono{k:Nat}(r:v8 k A)(h:j≤k):v8 j A:=⟨r.hd,by have:=r.dp;omega,by have:=r.un;omega⟩
theorem v8.deeper{k:Nat}(r:v8 (k+1) A)(env:Env):v8 k (A.deeper env):=
 ⟨r.hd,by have:=r.dp;show A.depth+1+3*k+5<_;omega,by have:=r.un;show A.units+3+16*k+200<_;omega⟩
theorem qU :(A.under (.builtin "type.__call__" ⟨.ref C::us,kw⟩)).depth=A.depth+1:=by first | rfl | simp[Around.under,Code.weight,Code.isCreation,Code.isGuard,Code.isCaller,Code.frames,Code.isFrame,guardIds]
theorem qJ :(A.under (.builtin "type.__call__" ⟨.ref C::us,kw⟩)).units=A.units+1:=by first | rfl | simp[Around.under,Code.cUnits,Code.frames,Code.isFrame]
theorem v8.make{k:Nat}(r:v8 (k+1) A)(C:Addr)(us:List Value)(kw:List (Str×Value)):v8 k (A.under (.builtin "type.__call__" ⟨.ref C::us,kw⟩)):=
 ⟨r.hd,by have:=r.dp;rw[qU];omega,by have:=r.un;rw[qJ];omega⟩
theorem v8.depth{k:Nat}(r:v8 k A):A.depth<recursionLimit:=by have:=r.dp;omega
def alb:TA:=fun _ H Q=>Q [] H
def ait(ta:TE)(tr:TA):TA:=fun σ H Q=>ta σ H fun x H1=>tr σ H1 fun xs H2=>Q (x::xs) H2
section
variable {te:TE} 
theorem iP:PA X [] alb:=fun _ _ _ _ H Q I h=>Calls.spliced_nil ⟨[],H,I,.nil,h⟩
abbrev Dv(e:Expr)(es:List Expr)(X:Cx):Prop:=starEach (e::es) X.env=(false,eval e X.env)::starEach es X.env
theorem ck(ha:PE X e te)(hr:PA X es t)(hs:Dv e es X:=by rfl):PA X (e::es) (ait te t):=by intro pos pins s σ H Q I h;rw[hs];show wpAny _ _ (spliced ((false,eval e X.env)::backTo pos (starEach es X.env))) _ _ s;refine Calls.spliced_cons (xc (ha pins s σ H _ I h) fun u s1 ⟨x,H1,I1,r1,q1⟩=>?_);exact xc (hr pos pins s1 σ H1 _ I1 q1) fun us s2 ⟨xs,H2,I2,r2,q2⟩=>⟨x::xs,H2,I2,.cons r1 r2,q2⟩
def anl(t:TA):TE:=fun σ H Q=>t σ H fun xs H1=>xs.length≤sizeLine/\∀p,H1 p=none->Q (.ref p) (upd H1 p (.tup xs))
def amc(t:TA):TE:=fun σ H Q=>t σ H fun xs H1=>xs.length≤sizeLine/\∀p,H1 p=none->Q (.ref p) (upd H1 p (.lst xs))
theorem afb{x1}(h:PA X es t):PE X (.Tuple es x1 pos) (anl t):=by intro pins s σ H Q I hq;refine wpAny_Tuple_spliced (xc (h pos pins s σ H _ I hq) fun us s1 ⟨xs,H1,I1,r,z,q⟩=>⟨by rw[<-r.length];exact z,?_⟩);have hf:H1 s1.heap.objs.size=none:=I1.hok.fresh (Ag _);refine⟨.ref s1.heap.objs.size,upd H1 s1.heap.objs.size (.tup xs),I1.laid (t':=s1.toks) (fun b u e=>Heap.get?_push_of_some _ e) (Ag _) ?_,rfl,q _ hf⟩;exact⟨z,us,r,⟨_,Heap.get?_push_size _ rfl,rfl,_,rfl⟩⟩
theorem y9(h:PA X es t):PE X (.List es pos) (amc t):=by intro pins s σ H Q I hq;refine wpAny_List_spliced (xc (h pos pins s σ H _ I hq) fun us s1 ⟨xs,H1,I1,r,z,q⟩=>⟨by rw[<-r.length];exact z,?_⟩);have hf:H1 s1.heap.objs.size=none:=I1.hok.fresh (Ag _);refine⟨.ref s1.heap.objs.size,upd H1 s1.heap.objs.size (.lst xs),I1.laid (t':=s1.toks) (fun b u e=>Heap.get?_push_of_some _ e) (Ag _) ?_,rfl,q _ hf⟩;exact⟨z,us,0,r,Heap.get?_push_size _ rfl⟩
end
abbrev Sp:=List V->Hp->VK->XK->Prop
abbrev tF:=List Env->Hp->Shared->XK->Value->Shared->Prop
structure qQ(P:Program)(w:World)(K:Ac)(mg:Str->Option Value)(base:Heap)(A:Around)(outer:List Env)(s:Shared)(H:Hp):Prop where
 frames:A.frames=some outer
 mod:Mod K mg base
 bs:∀b o,base.get? b=some o->s.heap.get? b=some o/\H b=none
 bsz:base.objs.size≤s.heap.objs.size
 funs:s.heap.FunFrames base outer
 frf:∀b∈dC outer,H b=none
 hok:bx P w H s.heap
 bare:AllBare s.gens
 tk:0<s.toks
def CE(outer:List Env)(P:Program)(w:World)(H:Hp)(s:Shared)(Q:VK)(u:Value)(s':Shared):Prop:=
 ∃v H',s'.os=s.os/\AllBare s'.gens/\Un (dC outer) [] H H' s.heap s'.heap/\bx P w H' s'.heap/\za v u/\Q v H'/\0<s'.toks
def CR(CX:tF)(outer:List Env)(P:Program)(w:World)(H:Hp)(s:Shared)(Q:VK)(E:XK)(r:Result)(s':Shared):Prop:=
 match r with
 |.ok (.ret u)=>CE outer P w H s Q u s'
 |.ok _=>False
 |.error e=>CX outer H s E e s'
structure aB(P:Program)(w:World)(K:Ac)(mg:Str->Option Value)(base:Heap)(CX:tF)(k:Nat)(f:Addr)(fd:FuncData)(ps:List Str)(sp:Sp):Prop where
 len:∀vs H Q E,sp vs H Q E->vs.length=ps.length
 run:∀(A:Around) (outer:List Env) (s:Shared) (H:Hp) (args:Args) (us:List Value) (vs:List V) (Q:VK) (E:XK),v8 k A->qQ P w K mg base A outer s H->BindsTo s fd args (ps.zip us)->zh vs us->sp vs H Q E->
  codeAny (model P w) A (.call (.ref f) args) (CR CX outer P w H s Q E) s
theorem aB.mono{P:Program}{w:World}{K:Ac}{CX:tF}{k:Nat}{sp:Sp}(F:aB P w K mg base CX j f fd ps sp)(h:j≤k):
 aB P w K mg base CX k f fd ps sp:=⟨F.len,fun A outer s H args us vs Q E hr=>F.run A outer s H args us vs Q E (hr.mono h)⟩
theorem aB.imp{P:Program}{w:World}{K:Ac}{CX:tF}{k:Nat}{sp sp':Sp}(F:aB P w K mg base CX k f fd ps sp)
 (h:∀vs H Q E,sp' vs H Q E->sp vs H Q E):aB P w K mg base CX k f fd ps sp':=
 ⟨fun vs H Q E q=>F.len vs H Q E (h _ _ _ _ q),fun A outer s H args us vs Q E hr he hb hv hs=>F.run A outer s H args us vs Q E hr he hb hv (h _ _ _ _ hs)⟩
theorem qQ.make{P:Program}{w:World}{K:Ac}(e:qQ P w K mg base A outer s H)(C:Addr)(us:List Value)(kw:List (Str×Value)):
 qQ P w K mg base (A.under (.builtin "type.__call__" ⟨.ref C::us,kw⟩)) outer s H:=⟨by first | exact e.frames | (simpa[Around.under,Code.envs,Code.isFrame,pushEnvs] using e.frames),e.mod,e.bs,e.bsz,e.funs,e.frf,e.hok,e.bare,e.tk⟩
section
theorem qt.env0(I:qt X pins σ H s):qQ X.prog X.w X.K X.mg X.base X.A X.stack s H:=
 ⟨I.ok.frames,I.ok.mod,I.bs,AI I.ok.bsz I.sz,I.stack,I.stkFree,I.hok,I.bare,I.tk⟩
theorem qt.after{Q:VK}(I:qt X pins σ H s)(h:CE X.stack X.prog X.w H s Q u s'):EP X pins σ Q u s':=by obtain⟨v,H',os,bare,un,hok,r,q,ht⟩:=h;obtain⟨hh,g,d,t,os'⟩:=s';obtain rfl:os'=s.os:=os;exact⟨v,H',I.call (h':=hh) (g':=g) (d':=d) (t':=t) (ch:=[]) un hok bare (fun b z=>absurd z (by simp)),r,q⟩
end
def adp(sp:Sp)(dvs:List V)(E:XK)(t:TA):TE:=fun σ H Q=>t σ H fun vs H1=>sp (vs++dvs) H1 Q E
def ajz(C:Addr)(m:Str)(sp:Sp)(dvs:List V)(E:XK)(ta:TE)(t:TA):TE:=fun σ H Q=>ta σ H fun x H1=>∃a dx fs,x=.ref a/\H1 a=some (.ins C dx fs)/\fs.lookup m=none/\
 t σ H1 fun vs H2=>sp (x::(vs++dvs)) H2 Q E
def akt(C:Addr)(sp:Sp)(dvs:List V)(E:XK)(t:TA):TE:=fun σ H Q=>t σ H fun vs H1=>∀x dx,H1 x=none->H1 dx=none->dx≠x->
 sp (.ref x::(vs++dvs)) (upd (upd H1 dx (.own x)) x (.ins C dx [])) (fun v H2=>v=.non/\Q (.ref x) H2) E
def vo(K:Ac)(fd:FuncData)(ps:List Str)(ds:List Value):Prop:=
 ∀(s:Shared) (us:List Value),K.In s.heap->(us++ds).length=ps.length->BindsTo s fd ⟨us,[]⟩ (ps.zip (us++ds))
theorem vo.all{K:Ac}(h:∀us:List Value,us.length=ps.length->bindArgs fd ⟨us,[]⟩=pure (ps.zip us)):vo K fd ps []:=fun s us _ hl=>by rw[AL] at hl ⊢;exact .of_eq (h us hl)
def fq(CX:tF)(X:Cx)(E:XK):Prop:=∀(pins:List (Addr×Obj)) (σ:St) (H:Hp) (s:Shared) (e:Value) (s':Shared),qt X pins σ H s->CX X.stack H s E e s'->X.xe e s'
section
variable {CX:tF}{k:Nat}{sp:Sp}{dvs:List V}{ds:List Value}{E:XK}{m:Str}{ta:TE} 
theorem zU{Q:VK}{vs:List V}(F:aB X.prog X.w X.K X.mg X.base CX k f fd ps sp)(hr:v8 k X.A)(hb:vo X.K fd ps ds)(hd:zh dvs ds)(hx:fq CX X E)
 (I:qt X pins σ H s) (r:zh vs us) (h:sp (vs++dvs) H Q E):wpAny (model X.prog X.w) X.A (call (.ref f) us) (EP X pins σ Q) X.xe s:=by
 have r2:zh (vs++dvs) (us++ds):=r.append hd;have hl:(us++ds).length=ps.length:=by rw[<-r2.length];exact F.len _ _ _ _ h
 refine wpAny_call (codeAny_mono (F.run X.A X.stack s H ⟨us,[]⟩ (us++ds) (vs++dvs) Q E hr I.env0 (hb s us I.kIn hl) r2 h) fun r s' hq=>?_);cases r with
 |error e=>exact hx pins σ H s e s' I hq
 |ok fl=>
  cases fl with|ret u=>exact I.after hq|next=>exact False.elim hq|brk=>exact False.elim hq|cont=>exact False.elim hq
abbrev Dw(p:Pos)(es:List Expr)(X:Cx):Prop:=(backTo p (starEach es X.env)).any (·.1)=false
theorem aax(F:aB X.prog X.w X.K X.mg X.base CX k f fd ps sp)(hr:v8 k X.A)(hg:Gl X x)(hm:X.mg x=some (.ref f))(hk:PySem.W.keepIn X.K (.ref f)=true)(hb:vo X.K fd ps ds)(hd:zh dvs ds)(hx:fq CX X E)
 (ha:PA X (e::es) t) (hdb:Dx x:=by decide) (he:Dv e es X:=by rfl) (hpl:Dw pos es X:=by rfl):
 PE X (.Call (.Name x p) (e::es) [] pos) (adp sp dvs E t):=by
 intro pins s σ H Q I h;refine wpAny_Call_Name_kw (eU I hg hm ?_ hdb);refine Cf (h₀:=X.base) I.ok.mod.kin hk (xc (ha pos pins s σ H _ I h) fun us s1 ⟨vs,H1,I1,r,q⟩=>⟨I1.kIn,?_⟩) he hpl;exact zU F hr hb hd hx I1 r q
theorem ad2{pl:Sem Bool}(he:PE X o ta)(c:Cls X.K C)(hm:yb X.K C m f)(F:aB X.prog X.w X.K X.mg X.base CX k f fd ps sp)(hr:v8 k X.A)(hb:vo X.K fd ps ds)(hd:zh dvs ds)(hx:fq CX X E)(ha:PA X (e::es) t)
 (hst:Dv e es X:=by rfl) (hpl:Dw pos es X:=by rfl)
 (ht:eval (.Call (.Attribute o m apos) (e::es) [] pos) X.env=(do
  let ov <-eval o X.env
  standAt apos.atName
  let (f,first) <-holding [ov] (getMethod ov m pl)
  callWith pos f first (backTo pos (starEach (e::es) X.env)) (backToKw pos (keywordEach [] X.env))):=by rfl):
 PE X (.Call (.Attribute o m apos) (e::es) [] pos) (ajz C m sp dvs E ta t):=by
 intro pins s σ H Q I h;refine PySem.W.methodCall_KW (pl:=pl) (xc (he pins s σ H _ I h) fun u s1 ⟨x,H1,I1,rx,a,dx,fs,ex,ea,l,q⟩=>?_) ht;subst ex;obtain rfl:u=Value.ref a:=rx;refine qY I1 ea c hm l ?_;refine Cf (first:=[.ref a]) (h₀:=X.base) I.ok.mod.kin hm.kp (xc (ha pos pins s1 σ H1 _ I1 q) fun us s2 ⟨vs,H2,I2,r,q2⟩=>⟨I2.kIn,?_⟩) hst hpl;exact zU (us:=.ref a::us) (vs:=.ref a::vs) F hr hb hd hx I2 (.cons rfl r) q2
structure Mk(K:Ac)(C f:Addr):Prop where
 makes:PySem.W.makesIn K C=true
 init:PySem.W.findIn K (.ref C) "__init__" = some (some (.ref f))
 fn:PySem.W.isFn K (.ref f)=true
 kp:PySem.W.keepIn K (.ref C)=true
theorem yQ{Q:VK}{vs:List V}(M:Mk X.K C f)(F:aB X.prog X.w X.K X.mg X.base CX k f fd ps sp)(hr:v8 (k+1) X.A)(hb:vo X.K fd ps ds)(hd:zh dvs ds)
 (hx:fq CX X E) (I:qt X pins σ H s) (r:zh vs us)
 (h:∀x dx,H x=none->H dx=none->dx≠x->sp (.ref x::(vs++dvs)) (upd (upd H dx (.own x)) x (.ins C dx [])) (fun v H2=>v=.non/\Q (.ref x) H2) E):
 wpAny (model X.prog X.w) X.A (call (.ref C) us) (EP X pins σ Q) X.xe s:=by
 have hq:=h (s.heap.objs.size+1) s.heap.objs.size (I.hok.fresh (B1 _)) (I.hok.fresh (Ag _)) (A6 (BM _));have I2:=qt.made (C:=C) I;have r2:zh (V.ref (s.heap.objs.size+1)::(vs++dvs)) (Value.ref (s.heap.objs.size+1)::(us++ds)):=.cons rfl (r.append hd);have hl:(Value.ref (s.heap.objs.size+1)::us++ds).length=ps.length:=by have e:=r2.length;rw[F.len _ _ _ _ hq] at e;exact e.symm
 refine wpAny_call (xO (f:=f) I.kIn M.makes M.init (beq_iff_eq.mp M.fn) (codeAny_mono (F.run _ X.stack _ _ ⟨Value.ref (s.heap.objs.size+1)::us,[]⟩ (Value.ref (s.heap.objs.size+1)::(us++ds)) _ _ E (hr.make C us [])
  (I2.env0.make C us []) (hb _ (Value.ref (s.heap.objs.size+1)::us) I2.kIn hl) r2 hq) fun r s' hq'=>?_))
 cases r with
 |error e=>exact hx pins σ _ _ e s' I2 hq'
 |ok fl=>
  cases fl with
  |ret u=>
   obtain⟨v,H',I3,rv,ev,q3⟩:=I2.after hq';subst ev;exact⟨rv,⟨V.ref (s.heap.objs.size+1),H',I3,rfl,q3⟩⟩
  |next=>exact False.elim hq'
  |brk=>exact False.elim hq'
  |cont=>exact False.elim hq'
theorem ac4(M:Mk X.K C f)(F:aB X.prog X.w X.K X.mg X.base CX k f fd ps sp)(hr:v8 (k+1) X.A)(hg:Gl X x)(hm:X.mg x=some (.ref C))(hb:vo X.K fd ps ds)(hd:zh dvs ds)(hx:fq CX X E)
 (ha:PA X (e::es) t) (hdb:Dx x:=by decide) (he:Dv e es X:=by rfl) (hpl:Dw pos es X:=by rfl):
 PE X (.Call (.Name x p) (e::es) [] pos) (akt C sp dvs E t):=by
 intro pins s σ H Q I h;refine wpAny_Call_Name_kw (eU I hg hm ?_ hdb);refine Cf (h₀:=X.base) I.ok.mod.kin M.kp (xc (ha pos pins s σ H _ I h) fun us s1 ⟨vs,H1,I1,r,q⟩=>⟨I1.kIn,?_⟩) he hpl;exact yQ M F hr hb hd hx I1 r q
end
section
variable {CX:tF}{k:Nat}{ks:List Str}{sp:Sp}{E:XK}{m:Str}{kpos:Pos}{kws:List Keyword}{te ta:TE}{tk:TA}{nm:Option Str}
variable {g:List Value->List Value->List Value}{gV:List V->List V->List V}
end
structure aO(N P:List Str)(sc:Scope):Prop where
 kind:sc.kind=.function
 co:sc.isCoroutine=false
 gen:sc.isGenerator=false
 nd:N.Nodup
 pre:N.take P.length=P
 par:∀x∈P,sc.names.lookup x=some .local\/sc.names.lookup x=some .cell
 nofree:∀y∈sc.names,y.2≠.free
theorem lM{kindOf:Str->Option NameKind}{x:Str}:∀{binds:List (Str×Value)} {m:Str->Option Value},(∀v,(x,v)∉binds)->bindL kindOf binds m x=m x
 |[],_,_=>rfl
 |(n,v)::r,m,h=>by
  unfold bindL;rw[lM fun w hw=>h w (Af _ hw)];split
  ·have:x≠n:=by rintro rfl;exact h v Ax
   simp[this]
  ·rfl
theorem lj{kindOf:Str->Option NameKind}{x:Str}:∀{binds:List (Str×Value)} {m:Str->Option Value},(∀v,(x,v)∉binds)->bindC kindOf binds m x=m x
 |[],_,_=>rfl
 |(n,v)::r,m,h=>by
  unfold bindC;rw[lj fun w hw=>h w (Af _ hw)];split
  ·rfl
  ·have:x≠n:=by rintro rfl;exact h v Ax
   simp[this]
theorem lq{kindOf:Str->Option NameKind}{x:Str}{v:Value}:∀{P:List Str} {vs:List Value} {i:Nat} {m:Str->Option Value},P.Nodup->P[i]?=some x->vs[i]?=some v->kindOf x=some .local->
 bindL kindOf (P.zip vs) m x=some v
 |[],_,_,_,_,h,_,_=>by simp at h
 |_::_,[],_,_,_,_,h,_=>by simp at h
 |p::P,w::vs,0,m,nd,h1,h2,hk=>by simp at h1 h2;subst h1;subst h2;show bindL kindOf ((p,w)::P.zip vs) m p=_;unfold bindL;rw[lM fun v hv=>(A1.mp nd).1 (Dl hv).1,Av hk];simp
 |p::P,w::vs,i+1,m,nd,h1,h2,hk=>by show bindL kindOf ((p,w)::P.zip vs) m x=_;unfold bindL;exact lq (i:=i) (A1.mp nd).2 (by simpa using h1) (by simpa using h2) hk
theorem lY{kindOf:Str->Option NameKind}{x:Str}{v:Value}:∀{P:List Str} {vs:List Value} {i:Nat} {m:Str->Option Value},P.Nodup->P[i]?=some x->vs[i]?=some v->kindOf x≠some .local->
 bindC kindOf (P.zip vs) m x=some v
 |[],_,_,_,_,h,_,_=>by simp at h
 |_::_,[],_,_,_,_,h,_=>by simp at h
 |p::P,w::vs,0,m,nd,h1,h2,hk=>by simp at h1 h2;subst h1;subst h2;show bindC kindOf ((p,w)::P.zip vs) m p=_;unfold bindC;rw[lj fun v hv=>(A1.mp nd).1 (Dl hv).1,As hk];simp
 |p::P,w::vs,i+1,m,nd,h1,h2,hk=>by show bindC kindOf ((p,w)::P.zip vs) m x=_;unfold bindC;exact lY (i:=i) (A1.mp nd).2 (by simpa using h1) (by simpa using h2) hk
def start(N:List Str)(vs:List V):St:=vs.map some++List.replicate (N.length - vs.length) none
def cW(CX:tF)(P:Program)(w:World)(K:Ac)(mg:Str->Option Value)(base:Heap)(N:List Str)(qual:Str)(scope:Scope)(f:Addr)(cd:Value)(A:Around)(outer:List Env)(s:Shared)(H:Hp)(E:XK):Cx where
 prog:=P
 w:=w
 K:=K
 mg:=mg
 base:=base
 A:=A.deeper (envOfC qual scope s.heap.objs.size f cd)
 N:=N
 s₀:=s
 H₀:=H
 env:=envOfC qual scope s.heap.objs.size f cd
 outer:=outer
 stack:=envOfC qual scope s.heap.objs.size f cd::outer
 ex:=[]
 calm:=true
 fn:=fun _=>true
 pn:=[]
 xe:=fun e s'=>wpAny (model P w) (A.deeper (envOfC qual scope s.heap.objs.size f cd)) (leaving (envOfC qual scope s.heap.objs.size f cd) e) (fun _ s''=>CX outer H s E e s'') (fun e' s''=>CX outer H s E e' s'') s'
theorem oo{sc:Scope}(h:sc.names.lookup x=some .cell):∃c,(cellsFrom n sc.names []).lookup x=some c:=by have q:=De sc.names n [] (.inl h);exact Option.isSome_iff_exists.mp q
theorem tq{CX:tF}{P:Program}{w:World}{K:Ac}{N:List Str}{s1:Shared}{E:XK}{vs:List V}
 (S:aO N ps scope) (hd:A.handled=none) (e0:qQ P w K mg base A outer s H) (hl:vs.length=ps.length) (r:zh vs us)
 (x:InCallC s s.heap.objs.size (bindL (envOfC qual scope s.heap.objs.size f cd).kindOf (ps.zip us) fun _=>none) (cellsFrom (s.heap.objs.size+1) scope.names []) (bindC (envOfC qual scope s.heap.objs.size f cd).kindOf (ps.zip us) fun _=>none) s1) (ht:0<s1.toks):
 qt (cW CX P w K mg base N qual scope f cd A outer s H E) [] (start N vs) H s1:=by
 have hpl:ps.length≤N.length:=by have:=A4 List.length S.pre;rw[AJ] at this;omega
 obtain⟨h1,tk,rfl,hk⟩:=x.done;have noA:∀b:Addr,b∉(cW CX P w K mg base N qual scope f cd A outer s H E).ex:=fun b z=>absurd (show b∈([]:List Addr) from z) (by simp);refine⟨⟨e0.mod,S.kind,rfl,rfl,Ag _,fun y z c h1 h2=>?_,fun y hy=>?_,fun y c _ h=>?_,fun _=>hd,Around.frames_deeper e0.frames,.inr ⟨rfl,rfl⟩,fun b z=>absurd z (noA b),e0.bs,e0.bsz,fun b _ _=>noA b,fun b z=>absurd z (noA b),e0.funs,e0.frf⟩,
  rfl,e0.bare,Un.kept hk,⟨_,x.toInCall.ns,fun i y v h1 h2 h3=>?_⟩,fun y c h=>⟨_,x.cell y c h⟩,e0.hok.fresh (Ag _),fun y c h=>?_,fun p hp=>absurd (show p∈([]:List (Addr×Obj)) from hp) (by simp),e0.hok.kept hk,?_,ht⟩
 ·exact name_of_addr x.apart (Be h1) (Be h2)
 ·have hy:scope.names.lookup y=some .cell\/scope.names.lookup y=some .free:=hy;rcases hy with hy | hy
  ·exact oo hy
  ·exact absurd rfl (S.nofree _ (Be hy))
 ·exact Bi (x.above y c (Be h))
 ·have hi:i<vs.length:=by
   unfold start at h2;by_cases hi:i<vs.length
   ·exact hi
   ·rw[Au (by simpa using hi)] at h2;rw[BN] at h2;split at h2<;>cases h2
  have ha:vs[i]?=some v:=by unfold start at h2;rw[AO (by simpa using hi),Ak] at h2;cases e:vs[i]? with|none=>rw[e] at h2;cases h2|some a=>rw[e] at h2;cases h2;rfl
  obtain⟨u,hu,rv⟩:=r.get ha;have hp:ps[i]?=some y:=by rw[<-S.pre,C1 (by omega)];exact h1
  have ndP:ps.Nodup:=by rw[<-S.pre];exact S.nd.sublist (BZ _ _)
  refine⟨u,rv,?_⟩;rcases S.par y (An hp) with k | k
  ·exact .inl ⟨k,lq ndP hp hu k⟩
  ·obtain⟨c,e⟩:=oo (n:=s.heap.objs.size+1) k;refine .inr ⟨.inl k,c,e,?_⟩;have q:=x.cell y c e;rw[lY ndP hp hu (by show scope.names.lookup y≠_;rw[k];decide)] at q;exact q
 ·exact e0.hok.fresh (Bi (x.above y c (Be h)))
 ·unfold start;show _=N.length;rw[Ab,Aa,BW];omega
theorem ae7{CX:tF}{P:Program}{w:World}{K:Ac}{k:Nat}{params:Arguments}{dV kV:Value}
 {N:List Str} {sp:Sp} (lk:K.lookup f=some ⟨oc,od,.func (PySem.W.fnOf name qual params body scope dV kV doc pm an cdv ct),osl⟩) (hcd:PySem.W.codeIn K cdv qual=true) (S:aO N ps scope)
 (len:∀vs H Q E,sp vs H Q E->vs.length=ps.length)
 (hbody:∀(A:Around) (outer:List Env) (s:Shared) (H:Hp) (vs:List V) (Q:VK) (E:XK),v8 k (A.deeper (envOfC qual scope s.heap.objs.size f cdv))->sp vs H Q E->
  ∃t,mF (cW CX P w K mg base N qual scope f cdv A outer s H E) body t/\t { nx:=fun _ H'=>Q .non H',rt:=Q } (start N vs) H):
 aB P w K mg base CX (k+1) f (PySem.W.fnOf name qual params body scope dV kV doc pm an cdv ct) ps sp:=by
 refine⟨len,fun A outer s H args us vs Q E hr e0 hb r hsp=>?_⟩;have hl:=len _ _ _ _ hsp;have KX:K.In s.heap:=e0.mod.kin.keeps fun b o e=>(e0.bs b o e).1;have lim:s.heap.NoLimit:=e0.mod.nolimit.keeps fun b o e=>(e0.bs b o e).1;have hkind:∀y∈ps.zip us,scope.names.lookup y.1=some .local\/(scope.names.lookup y.1=some .cell/\((cellsFrom (s.heap.objs.size+1) scope.names []).lookup y.1).isSome=true):=fun⟨n,v⟩ hy=>by
  rcases S.par n (Dl hy).1 with q | q
  ·exact .inl q
  ·exact .inr ⟨q,De _ _ _ (.inl q)⟩
 refine codeAny_call_function hr.depth (KX _ _ lk) rfl S.co S.gen rfl (PySem.W.codeRec_of KX hcd) (hb _ _ _ _ ?_);refine jx e0.tk (wpAny_newFunctionEnv_cells S.kind hkind fun env he s1 x htk=>?_);subst he;refine⟨lim.keeps x.toInCall.keep,codeAny_func ?_⟩;obtain⟨t,ht,hq⟩:=hbody A outer s H vs Q E (hr.deeper _) hsp;have I:qt (cW CX P w K mg base N qual scope f cdv A outer s H E) [] (start N vs) H s1:=tq S hr.hd e0 hl r x htk;refine AR (ht [] s1 (start N vs) H _ I hq) (fun fl s' hs=>?_) fun e s' hs=>hs;have vd:∀{σ':St} {H':Hp} {v:V} {u:Value},qt (cW CX P w K mg base N qual scope f cdv A outer s H E) [] σ' H' s'->za v u->Q v H'->CE outer P w H s Q u s':=
  fun {σ' H' v u} J rv q=>⟨v,H',J.os,J.bare,J.base,J.hok,rv,q,J.tk⟩
 cases fl with
 |ret u=>
  obtain⟨v,σ',H',J,rv,q⟩:=hs;exact vd J rv q
 |next=>
  obtain⟨σ',H',J,q⟩:=hs;exact vd (v:=V.non) (u:=Value.none) J rfl q
 |brk=>
  obtain⟨_,_,_,q⟩:=hs;exact False.elim q
 |cont=>
  obtain⟨_,_,_,q⟩:=hs;exact False.elim q
end L2
variable {sp:L2.Sp}
namespace L2
open PySem PySem.Spec PyProof.Rows
section
variable {id T:String}{r:List V->Hp->VK->Prop}
def tCB(r:List V->Hp->VK->Prop)(t:TA):TE:=fun σ H Q=>t σ H fun vs H1=>r vs H1 Q
theorem oz(hc:jv X (.builtin id) r)(hg:Gl X x)(hm:X.mg x=none)(hv:bootBuiltins x=some (.builtin id))(ha:PA X (e::es) t)(hn:x ≠ "__name__" := by decide)(hdb:Dx x:=by decide)
 (he:Dv e es X:=by rfl) (hpl:Dw pos es X:=by rfl):PE X (.Call (.Name x p) (e::es) [] pos) (tCB r t):=by
 intro pins s σ H Q I h;refine wpAny_Call_Name_kw (dZ I hg hm hv ?_ hn hdb);exact PyProof.Rows.callWith_builtin1 (xc (ha pos pins s σ H _ I h) fun us s1 ⟨vs,H1,I1,r1,q1⟩=>hc pins s1 σ H1 vs us Q I1 r1 q1) he hpl
theorem f8(hc:jv X (.type T) r)(hg:Gl X x)(hm:X.mg x=none)(hv:bootBuiltins x=some (.type T))(ha:PA X (e::es) t)(hn:x ≠ "__name__" := by decide)(hdb:Dx x:=by decide)
 (he:Dv e es X:=by rfl) (hpl:Dw pos es X:=by rfl):PE X (.Call (.Name x p) (e::es) [] pos) (tCB r t):=by
 intro pins s σ H Q I h;refine wpAny_Call_Name_kw (dZ I hg hm hv ?_ hn hdb);exact BY (xc (ha pos pins s σ H _ I h) fun us s1 ⟨vs,H1,I1,r1,q1⟩=>hc pins s1 σ H1 vs us Q I1 r1 q1) he hpl
end
section
variable [DecidableEq κ]
def dD(kvs:List (κ×V))(k:κ):Option V:=(kvs.find? fun kv=>decide (kv.1=k)).map (·.2)
def f7(kvs:List (κ×V))(k:κ)(v:V):List (κ×V):=
 if (kvs.any fun kv=>decide (kv.1=k))=true then kvs.map (fun kv=>if kv.1=k then(kv.1,v) else kv) else kvs++[(k,v)]
theorem jD{p:κ×V}{r:List (κ×V)}{k:κ}(e:p.1=k):dD (p::r) k=some p.2:=by simp[dD,Bh,e]
theorem dt{p:κ×V}{r:List (κ×V)}{k:κ}(e:¬p.1=k):dD (p::r) k=dD r k:=by simp[dD,Bh,e]
theorem pU(k:κ):∀kvs:List (κ×V),(kvs.any fun kv=>decide (kv.1=k))=(dD kvs k).isSome
 |[]=>rfl
 |p::r=>by
  rw[BK];by_cases e:p.1=k
  ·simp only[jD e,Al e,Bool.true_or,Option.isSome_some]
  ·rw[dt e,Am e,Bool.false_or];exact pU k r
theorem gq(kvs:List (κ×V))(k:κ)(v:V):(f7 kvs k v).length≤kvs.length+1:=by
 unfold f7;split
 ·rw[Aa];omega
 ·rw[Ab,AD,List.length_nil];omega
theorem aq.isSome_eq{o:Option V}{u:Option Value}(r:aq o u):o.isSome=u.isSome:=by
 cases o with
 |none=>cases u with|none=>rfl|some _=>exact(show False from r).elim
 |some _=>cases u with|none=>exact(show False from r).elim|some _=>rfl
theorem aq.getD{o:Option V}{u:Option Value}{d:V}{d':Value}(r:aq o u)(rd:za d d'):za (o.getD d) (u.getD d'):=by
 cases o with
 |none=>cases u with|none=>exact rd|some _=>exact(show False from r).elim
 |some _=>cases u with|none=>exact(show False from r).elim|some _=>exact r
theorem KV.val{kvs:List (κ×V)}{vs:List (κ×Value)}(r:KV kvs vs)(k:κ):aq (dD kvs k) (valueAt vs k):=by
 unfold KV at r
 induction r with
 |nil=>exact True.intro
 |@cons p q ps qs h t ih=>
  obtain⟨h1,h2⟩:=h;by_cases e:p.1=k
  ·have e':q.1=k:=h1.symm.trans e;have b:valueAt (q::qs) k=some q.2:=by simp[valueAt,Bh,e']
   rw[jD e,b];exact h2
  ·have e':¬q.1=k:=fun z=>e (h1.trans z);have b:valueAt (q::qs) k=valueAt qs k:=by simp[valueAt,Bh,e']
   rw[dt e,b];exact ih
theorem KV.any{kvs:List (κ×V)}{vs:List (κ×Value)}(r:KV kvs vs)(k:κ):(kvs.any fun kv=>decide (kv.1=k))=vs.any fun kv=>decide (kv.1=k):=by
 unfold KV at r
 induction r with|nil=>rfl|cons h t ih=>rw[BK,BK,ih,h.1]
theorem KV.repl{kvs:List (κ×V)}{vs:List (κ×Value)}(r:KV kvs vs)(k:κ){y:V}(ry:za y u):
 KV (kvs.map fun kv=>if kv.1=k then(kv.1,y) else kv) (vs.map fun kv=>if kv.1=k then(kv.1,u) else kv):=by
 unfold KV at r ⊢
 induction r with
 |nil=>exact .nil
 |@cons p q ps qs h t ih=>
  rw[Ay,Ay];refine .cons ?_ ih;obtain⟨h1,h2⟩:=h;by_cases e:p.1=k
  ·rw[Av e,Av (h1.symm.trans e)];exact⟨h1,ry⟩
  ·rw[As e,As (fun z=>e (h1.trans z))];exact⟨h1,h2⟩
theorem KV.put{kvs:List (κ×V)}{vs:List (κ×Value)}(r:KV kvs vs)(k:κ){y:V}(ry:za y u):KV (f7 kvs k y) (stored vs k u):=by
 unfold f7 stored;rw[r.any k];by_cases e:(vs.any fun kv=>decide (kv.1=k))=true
 ·rw[Av e,Av e];exact r.repl k ry
 ·rw[As e,As e];exact Paired.snoc r ⟨rfl,ry⟩
theorem KV.length{kvs:List (κ×V)}{vs:List (κ×Value)}(r:KV kvs vs):kvs.length=vs.length:=Paired.length r
end
theorem lF{P:Program}{w:World}{k:jc}(r:za (kV k) u):(xh P w).is k u=true:=by
 cases k with
 |inl i=>obtain⟨t,e⟩:=(show ∃t,u=Value.int i t from r);subst e;exact oQ P w i t
 |inr x=>obtain⟨t,e⟩:=(show ∃t,u=Value.str x t from r);subst e;exact oh P w x t
theorem mG{P:Program}{w:World}:∀{ks:List jc} {us:List Value},zh (ks.map kV) us->ItemsAre (xh P w) ks us
 |[],_,r=>by rw[Ci] at r;cases r;exact .nil
 |k::ks,_,r=>by rw[Ay] at r;cases r with|cons h t=>exact .cons (lF h) (mG t)
abbrev KT(H:Hp):List (List jc×V)->List (List jc×Addr×Value)->Prop:=Paired fun p q=>p.1=q.1/\H q.2.1=some (.tup (p.1.map kV))/\za p.2 q.2.2
theorem KT.val{xs:List (List jc×Addr×Value)}(r:KT H kvs xs)(k:List jc):aq (dD kvs k) ((atKey xs k).map (·.2)):=by
 induction r with
 |nil=>exact True.intro
 |@cons p q ps qs h t ih=>
  obtain⟨h1,_,h2⟩:=h;by_cases e:p.1=k
  ·have e':q.1=k:=h1.symm.trans e;have b:atKey (q::qs) k=some q.2:=by simp[atKey,Bh,e']
   rw[jD e,b];exact h2
  ·have e':¬q.1=k:=fun z=>e (h1.trans z);have b:atKey (q::qs) k=atKey qs k:=by simp[atKey,Bh,e']
   rw[dt e,b];exact ih
theorem KT.repl{xs:List (List jc×Addr×Value)}(r:KT H kvs xs)(k:List jc){y:V}(ry:za y u):
 KT H (kvs.map fun kv=>if kv.1=k then(kv.1,y) else kv) (xs.map (putAt k u)):=by
 induction r with
 |nil=>exact .nil
 |@cons p q ps qs h t ih=>
  rw[Ay,Ay];refine .cons ?_ ih;obtain⟨h1,h2,h3⟩:=h;unfold putAt;by_cases e:p.1=k
  ·rw[Av e,Av (h1.symm.trans e)];exact⟨h1,h2,ry⟩
  ·rw[As e,As (fun z=>e (h1.trans z))];exact⟨h1,h2,h3⟩
theorem KT.put{xs:List (List jc×Addr×Value)}(r:KT H kvs xs)(k:List jc){y:V}(hb:H b=some (.tup (k.map kV)))(ry:za y u):
 KT H (f7 kvs k y) (storedH xs k b u):=by
 have e:(kvs.any fun kv=>decide (kv.1=k))=(atKey xs k).isSome:=by rw[pU,(r.val k).isSome_eq,Option.isSome_map]
 unfold f7 storedH;rw[e];by_cases q:(atKey xs k).isSome=true
 ·rw[Av q,Av q];exact r.repl k ry
 ·rw[As q,As q];exact Paired.snoc r ⟨rfl,hb,ry⟩
theorem KT.keeps{xs:List (List jc×Addr×Value)}(r:KT H kvs xs)(ht:∀b ys,H b=some (.tup ys)->H' b=some (.tup ys)):KT H' kvs xs:=
 DF r fun _ _ z=>⟨z.1,ht _ _ z.2.1,z.2.2⟩
section
variable {P:Program}{w:World} 
theorem ae2{u:HO}(ok:bx P w H h)(e:Rd H a u):xj P w H h a u:=e.ok ok
theorem mB{kvs:List (jc×V)}(ok:bx P w H h)(e:Rd H a (.dK kvs)):kvs.length≤sizeLine/\(a==sysModules)=false/\∃vs,KV kvs vs/\h.DictOf (xh P w) a vs:=
 show xj P w H h a (.dK kvs) from ae2 ok e
theorem aj1{kvs:List (jc×V)}(ok:bx P w H h)(e:H a=some (.dK kvs)):kvs.length≤sizeLine/\(a==sysModules)=false/\∃vs,KV kvs vs/\h.DictOf (xh P w) a vs:=mB ok (.inl e)
theorem mV{ks:List jc}(ok:bx P w H h)(e:H a=some (.tup (ks.map kV))):(tupleKind (xh P w)).is h ks a:=by obtain⟨_,its,r,o,h1,h2,n,h3⟩:=(show xj P w H h a (.tup (ks.map kV)) from ok a _ e);exact⟨o,its.toArray,n,h1,h2,h3,by simpa using mG r⟩
theorem oW(ok:bx P w H h)(e:Rd H a (.dT kvs)):kvs.length≤sizeLine/\(a==sysModules)=false/\
 ∃xs,KT H kvs xs/\h.DictOfH (tupleKind (xh P w)) a xs:=by
 obtain⟨z,y,xs,r,o,es,ep,h1,h2,h3,h4,h5⟩:=(show xj P w H h a (.dT kvs) from ae2 ok e);refine⟨z,y,xs,r,o,es,ep,h1,h2,h3,h4,fun x hx=>?_,h5⟩;have all:∀{l:List (List jc×V)} {m:List (List jc×Addr×Value)},KT H l m->∀x∈m,(tupleKind (xh P w)).is h x.1 x.2.1:=by
  intro l m q
  induction q with
  |nil=>intro x hx;exact nomatch hx
  |@cons p q ps qs hq t ih=>
   intro x hx;rcases AC.mp hx with e | hx
   ·subst e;exact mV ok (by rw[<-hq.1];exact hq.2.1)
   ·exact ih x hx
 exact all r x hx
theorem aj2(ok:bx P w H h)(e:H a=some (.dT kvs)):kvs.length≤sizeLine/\(a==sysModules)=false/\
 ∃xs,KT H kvs xs/\h.DictOfH (tupleKind (xh P w)) a xs:=oW ok (.inl e)
end
def vZ(H:Hp)(a:Addr)(y:V)(r:Option V):Prop:=
 (∃kvs k,Rd H a (.dK kvs)/\y=kV k/\r=dD kvs k)\/∃kvs k b,Rd H a (.dT kvs)/\y=.ref b/\H b=some (.tup (k.map kV))/\r=dD kvs k
def ajk(H:Hp)(a:Addr)(y v:V)(H':Hp):Prop:=
 (∃kvs k,H a=some (.dK kvs)/\y=kV k/\kvs.length<sizeLine/\H'=upd H a (.dK (f7 kvs k v)))\/
 ∃kvs k b,H a=some (.dT kvs)/\y=.ref b/\H b=some (.tup (k.map kV))/\kvs.length<sizeLine/\H'=upd H a (.dT (f7 kvs k v))
section
variable {y:V}{r:Value}{o:Option V} 
theorem qt.big(I:qt X pins σ H s):sysModules<s.heap.objs.size:=by have h:mainGlobals<s.heap.objs.size:=(I.mod.glob.keeps I.bk).lt;exact Nat.lt_trans (by decide) h
theorem u8(hu:A.units+1<cLine)(I:qt X pins σ H s)(g:vZ H a y (some v))(ry:za y u)(h:∀w' s',qt X pins σ H s'->za v w'->Q w' s'):
 wpAny (model X.prog X.w) A (getItem (.ref a) u) Q E s:=by
 rcases g with⟨kvs,k,e,ey,l⟩ | ⟨kvs,k,b,e,ey,eb,l⟩
 ·subst ey;obtain⟨z,hd,vs,rel,dd⟩:=mB I.hok e;obtain⟨w',hw,rw'⟩:=DI (v:=v) (o:=valueAt vs k) (by rw[l];exact rel.val k);exact wpAny_getItem_of (lF ry) dd.mapOf hw (h w' _ (I.tok _) rw')
 ·subst ey;cases (show u=Value.ref b from ry);obtain⟨z,hd,xs,rel,dd⟩:=oW I.hok e;obtain⟨w',hw,rw'⟩:=DI (v:=v) (o:=(atKey xs k).map (·.2)) (by rw[l];exact rel.val k);obtain⟨p,hp,hp2⟩:=Aj.mp hw;refine wpAny_getItem_heap (tupleKind_room_in1 hu) (mV I.hok eb) dd hp ?_;rw[hp2];exact h w' _ (I.tok _) rw'
theorem tJ{ob:HO}(I:qt X pins σ H s)(mu:Mut (H a))(hs:Heap.SameBut a s.heap h')(he:∃q,h'.get? a=some q)(new:xj X.prog X.w (upd H a ob) h' a ob)(ht:0<t':=by walk_at "t"):
 qt X pins σ (upd H a ob) { s with heap:=h',toks:=t' }:=
 I.write (x:=a) (e:=a) mu (.inl rfl) (fun b q hb z=>(hs.2 b hb).trans z) he new
theorem afp{P:Program}{w:World}{kvs:List (jc×V)}{vs:List (jc×Value)}(z:kvs.length≤sizeLine)(hd:(a==sysModules)=false)(rel:KV kvs vs)(dd:h'.DictOf (xh P w) a vs):
 xj P w H' h' a (.dK kvs):=⟨z,hd,vs,rel,dd⟩
theorem ui{Q:Unit->Shared->Prop}(hu:A.units+1<cLine)(I:qt X pins σ H s)(g:ajk H a y v H')(ry:za y u)(rv:za v r)(h:∀s',qt X pins σ H' s'->Q () s'):
 wpAny (model X.prog X.w) A (setItem (.ref a) u r) Q E s:=by
 rcases g with⟨kvs,k,e,ey,l,eH⟩ | ⟨kvs,k,b,e,ey,eb,l,eH⟩
 ·subst ey eH;obtain⟨z,hd,vs,rel,dd⟩:=aj1 I.hok e;have hz:vs.length≤sizeLine:=by rw[<-rel.length];exact z
  have hl:(f7 kvs k v).length≤sizeLine:=by have:=gq kvs k v;omega
  refine wpAny_setItem_pairs (hsz:=hz) (lF ry) dd fun h' dd' hs=>h _ ?_;have he:∃q,h'.get? a=some q:=let ⟨q,_,_,hq,_⟩:=dd';⟨q,hq⟩;exact tJ I (by rw[e];exact True.intro) hs he (afp hl hd (rel.put k rv) dd')
 ·subst ey eH;cases (show u=Value.ref b from ry);obtain⟨z,hd,xs,rel,dd⟩:=aj2 I.hok e;have hz:xs.length≤sizeLine:=by rw[<-Paired.length rel];exact z
  have hl:(f7 kvs k v).length≤sizeLine:=by have:=gq kvs k v;omega
  refine wpAny_setItem_heap (hsz:=hz) (tupleKind_room_in1 hu) (mV I.hok eb) dd fun h' dd' hs=>h _ ?_;obtain⟨q,es,ep,hq,h2,h3,h4,_,h5⟩:=dd';refine tJ I (by rw[e];exact True.intro) hs ⟨q,hq⟩ ⟨hl,hd,_,(rel.put k eb rv).keeps fun c ys ec=>?_,q,es,ep,hq,h2,h3,h4,h5⟩;rw[z7 (aj4 ec e (fun z=>nomatch z))];exact ec
end
section
variable {kvs:List (jc×V)}{k:jc} 
end
def agp(i:Expr):Prop:=∀ov iv,subscripted i false ov iv=operate [ov,iv] (getItem ov iv)
theorem ac5{w:World}{slice:Expr}{T id:String}
 (hl:typeLookup (.type T) "__getitem__" = pure (some (.builtin id))) (hs:agp slice)
 (h:wpAny (model prog w) A (eval value env) (fun o s₁=>wpAny (model prog w) A (eval slice env) (fun i s₂=>s₂.TypeIs o T/\wpAny (model prog w) A (getItem o i) Q E s₂) E s₁) E s):
 wpAny (model prog w) A (eval (.Subscript value slice pos) env) Q E s:=by
 refine Subscript_ (AR h (fun o s₁ h₁=>AR h₁ (fun i s₂ h₂=>?_) fun _ _ x=>x) fun _ _ x=>x);obtain⟨hT,h₂⟩:=h₂;unfold subscriptTail;refine Ad ?_;rw[getitemInPython_of_ne hT.not_modules];refine Ad (wpAny_specialOf hT hl ?_);have vd:wpAny (model prog w) A (subscripted slice false o i) (fun r s₃=>wpAny (model prog w) A (letTemporaryGo value o r >>= fun _=>pure r) Q E s₃) E s₂:=by rw[hs o i];exact wpAny_operating (AR h₂ (fun r s₃ h₃=>Ad (wpAny_letTemporaryGo (Aw h₃))) fun _ _ x=>x)
 first
  |exact Aw (Ad vd)
  |exact Ad (Aw (Ad vd))
  |exact Ad vd
theorem oj{y:V}{o:Option V}(I:qt X pins σ H s)(g:vZ H a y o):s.TypeIs (.ref a) "dict" := by
 rcases g with⟨kvs,k,e,_,_⟩ | ⟨kvs,k,b,e,_,_,_⟩
 ·obtain⟨_,_,vs,_,dd⟩:=mB I.hok e;exact dd.typeIs
 ·obtain⟨_,_,xs,_,dd⟩:=oW I.hok e;exact dd.typeIs
def akh(td ty:TE):TE:=fun σ H Q=>td σ H fun x H1=>ty σ H1 fun y H2=>∃a v,x=.ref a/\vZ H2 a y (some v)/\Q v H2
def akd(td ty tv:TE):TS:=fun D σ H=>tv σ H fun v H1=>td σ H1 fun x H2=>ty σ H2 fun y H3=>∃a H4,x=.ref a/\ajk H3 a y v H4/\D.nx σ H4
section
variable {i:Expr}{tpos:Pos}{td ty tv:TE}
theorem aby(hu:X.A.units+1<cLine)(ho:PE X o td)(hi:PE X i ty)(hs:agp i):PE X (.Subscript o i pos) (akh td ty):=by intro pins s σ H Q I h;refine ac5 CV.lookup hs (xc (ho pins s σ H _ I h) fun u s1 ⟨x,H1,I1,rx,q1⟩=>xc (hi pins s1 σ H1 _ I1 q1) fun iv s2 ⟨y,H2,I2,ry,a,v,ex,g,q2⟩=>?_);subst ex;obtain rfl:u=Value.ref a:=rx;exact⟨oj I2 g,u8 hu I2 g ry fun w' s3 I3 rw'=>⟨v,H2,I3,rw',q2⟩⟩
theorem aar(hu:X.A.units+1<cLine)(ho:PE X o td)(hi:PE X i ty)(hv:PE X value tv)(hs:swapsWith value (some (.Subscript o i pos')) pos.line X.env=pure false):
 PS X (.Assign [.Subscript o i pos'] value pos) (akd td ty tv):=by
 intro pins s σ H D I h;refine wpAny_Assign_Subscript (xc (hv pins s σ H _ I h) fun r s1 ⟨v,H1,I1,rv,q1⟩=>xc (ho pins s1 σ H1 _ I1 q1) fun u s2 ⟨x,H2,I2,rx,q2⟩=>xc (hi pins s2 σ H2 _ I2 q2) fun iv s3 ⟨y,H3,I3,ry,a,H4,ex,g,q3⟩=>?_) hs;subst ex;obtain rfl:u=Value.ref a:=rx;exact ui hu I3 g ry rv fun s4 I4=>⟨σ,H4,I4,q3⟩
end
theorem yM{P:Program}{w:World}(h:Heap)(hb:sysModules<h.objs.size):xj P w H (h.push { cls:=.type "dict",data:=.dict #[] }) h.objs.size (.dK []):=
 ⟨Bb _,beq_eq_false_iff_ne.mpr (AS (A6 hb)),[],.nil,Heap.DictOf.new h⟩
def ahl:TE:=fun _ H Q=>∀p,H p=none->Q (.ref p) (upd H p (.dK []))
section
theorem xN:PE X (.Dict [] [] pos) ahl:=fun pins s σ H Q I h=>
 wpAny_Dict_empty ⟨.ref s.heap.objs.size,_,I.laid (a:=s.heap.objs.size) (o:=.dK []) (t':=s.toks) (fun _ _ q=>Heap.get?_push_of_some _ q) (Ag _) (yM s.heap I.big),rfl,h _ (I.hok.fresh (Ag _))⟩
end
structure M2(X:Cx)(o:Expr)(m:Str)(apos:Pos)(e f:Expr)(cpos:Pos):Prop where
 base:attributeBase o m X.env (eval o X.env)=eval o X.env
 few:((backTo cpos (starEach [e,f] X.env)).all (fun x=>!x.1)&&(backToKw cpos (keywordEach [] X.env)).all (fun x=>x.1.isSome)
  && decide (([e,f]:List Expr).length+([]:List Keyword).length+(if ([]:List Keyword).isEmpty then 0 else 1)<30))=true
 line:(apos.endLine==cpos.line)=true
 trees:backTo cpos (starEach [e,f] X.env)=[(false,eval e X.env),(false,eval f X.env)]
def IsD(H:Hp)(a:Addr):Prop:=(∃kvs,Rd H a (.dK kvs))\/∃kvs,Rd H a (.dT kvs)
theorem ahr(I:qt X pins σ H s)(d:IsD H a):
 s.TypeIs (.ref a) "dict" /\ (∀b,Value.ref a=.ref b->∃ob,s.heap.get? b=some ob/\ob.dict=none)/\(a==sysModules)=false:=by
 rcases d with⟨kvs,e⟩ | ⟨kvs,e⟩
 ·obtain⟨_,hd,vs,_,dd⟩:=mB I.hok e;refine⟨dd.typeIs,fun b q=>?_,hd⟩;cases q;obtain⟨ob,_,_,h1,h2,_⟩:=dd;exact⟨ob,h1,h2.2.1⟩
 ·obtain⟨_,hd,xs,_,dd⟩:=oW I.hok e;refine⟨dd.typeIs,fun b q=>?_,hd⟩;cases q;obtain⟨ob,_,_,h1,h2,_⟩:=dd;exact⟨ob,h1,h2.2.1⟩
section
variable {y d:V}{r:Value}{o:Option V} 
theorem afy(hu:A.units+1<cLine)(I:qt X pins σ H s)(g:vZ H a y o)(ry:za y u)(rd:za d r)(h:∀w' s',qt X pins σ H s'->za (o.getD d) w'->Q w' s'):
 wpAny (model X.prog X.w) A (call (.builtin "dict.get") [.ref a,u,r]) Q E s:=by
 rcases g with⟨kvs,k,e,ey,l⟩ | ⟨kvs,k,b,e,ey,eb,l⟩
 ·subst ey;obtain⟨z,hd,vs,rel,dd⟩:=mB I.hok e;refine call_meetsIn Cn dd.typeIs Df (C7 _ _ _) (meets_dict_get_default (xh X.prog X.w) a (lF ry) hd r) ⟨_,dd.mapOf,h _ _ (I.tok _) ?_⟩;rw[l];exact(rel.val k).getD rd
 ·subst ey;cases (show u=Value.ref b from ry);obtain⟨z,hd,xs,rel,dd⟩:=oW I.hok e;refine call_meetsIn Cn dd.typeIs Df (C7 _ _ _) (meetsH_dict_get_default (tupleKind (xh X.prog X.w)) a b hd r) ⟨tupleKind_room_in1 hu,k,xs,mV I.hok eb,dd,h _ _ (I.tok _) ?_⟩;rw[l];exact(rel.val k).getD rd
end
def ai4(td ty tx:TE):TE:=fun σ H Q=>td σ H fun x H1=>∃a,x=.ref a/\IsD H1 a/\ty σ H1 fun y H2=>tx σ H2 fun z H3=>∃o,vZ H3 a y o/\Q (o.getD z) H3
section
variable {f:Expr}{td ty tx:TE}
theorem wE(hu:X.A.units+1<cLine)(ho:PE X o td)(he:PE X e ty)(hf:PE X f tx)(m:M2 X o "get" apos e f cpos):PE X (.Call (.Attribute o "get" apos) [e,f] [] cpos) (ai4 td ty tx):=by
 intro pins s σ H Q I h;refine wpAny_Call_method m.base m.few m.line PySem.F.plainAttrs_dict Cn PySem.F.type_dict_get (xc (ho pins s σ H _ I h) fun u s1 ⟨x,H1,I1,rx,a,ex,d,q1⟩=>?_);subst ex;obtain rfl:u=Value.ref a:=rx;obtain⟨t1,t2,_⟩:=ahr I1 d;refine⟨t1,t2,?_⟩;rw[m.trees];refine Calls.callWith_builtin rfl (Calls.evalArgs_plain (Calls.spliced_cons (xc (he pins s1 σ H1 _ I1 q1) fun iv s2 ⟨y,H2,I2,ry,q2⟩=>
  Calls.spliced_cons (xc (hf pins s2 σ H2 _ I2 q2) fun fv s3 ⟨z,H3,I3,rz,ov,g,q3⟩=>Calls.spliced_nil ?_))))
 exact afy hu I3 g ry rz fun w' s4 I4 rw'=>⟨_,H3,I4,rw',q3⟩
end
section
variable {kvs:List (jc×V)} 
end
section
variable {y:V} 
end
end L2
namespace HT
open PySem PyProof.Rows
section
open PySem.SeqAt
open PySem.AutoSeq1 (wpAny_loadPart')
open PySem.MeetsSeq PySem.MeetsSeq2 PySem.MeetsSeq3
end
section
variable {w:World} 
def sIx(n d:Nat):Option Int->Nat
 |none=>d
 |some v=>if v<0 then(v+(n:Int)).toNat else min v.toNat n
theorem sIx_none(n d:Nat):sIx n d none=d:=rfl
theorem sIx_nat(n d k:Nat):sIx n d (some (k:Int))=min k n:=by show(if (k:Int)<0 then((k:Int)+(n:Int)).toNat else min (k:Int).toNat n)=min k n;rw[As (by omega),BA]
theorem sIx_le(n d:Nat)(hd:d≤n)(o:Option Int):sIx n d o≤n:=by
 cases o with
 |none=>exact hd
 |some v=>
  show(if v<0 then(v+(n:Int)).toNat else min v.toNat n)≤n;by_cases hv:v<0
  ·rw[Av hv];omega
  ·rw[As hv];exact Nat.min_le_right _ _
end
end HT
namespace L2
open PySem PySem.Spec PyProof.Rows
abbrev TO:=St->Hp->(Option Int->Hp->Prop)->Prop
def PO(X:Cx)(e:Option Expr)(t:TO):Prop:=
 ∀(pins:List (Addr×Obj)) (s:Shared) (σ:St) (H:Hp) (Q:Option Int->Hp->Prop),qt X pins σ H s->t σ H Q->
  wpAny (model X.prog X.w) X.A (evalPart e X.env) (fun u s'=>∃o H',qt X pins σ H' s'/\IsPart u o/\Q o H') X.xe s
def act:TO:=fun _ H Q=>Q none H
def air(t:TE):TO:=fun σ H Q=>t σ H fun x H1=>∃i,x=.int i/\Q (some i) H1
section
variable {te:TE}{lo hi:Option Expr}{tl th:TO} 
theorem aca:PO X none act:=by intro pins s σ H Q I h;rw[evalPart_none];exact Aw ⟨none,H,I,.none,h⟩
theorem aah(h:PE X e te):PO X (some e) (air te):=by intro pins s σ H Q I hw;rw[evalPart_some];refine xc (h pins s σ H _ I hw) fun u s1 ⟨x,H1,I1,r1,q1⟩=>?_;obtain⟨i,rfl,q⟩:=q1;obtain⟨t,rfl⟩:=r1;exact⟨some i,H1,I1,.int i t,q⟩
def qS(X:Cx)(r:V->Option Int->Option Int->Hp->VK->Prop):Prop:=
 ∀(pins:List (Addr×Obj)) (s:Shared) (σ:St) (H:Hp) (x:V) (v vl vu:Value) (lo hi:Option Int) (sl:Addr) (Q:VK),qt X pins σ H s->za x v->s.heap.IsSliceOf sl vl vu .none->IsPart vl lo->IsPart vu hi->r x lo hi H Q->
  ∃T id,typeLookup (.type T) "__getitem__" = pure (some (.builtin id))/\s.TypeIs v T/\wpAny (model X.prog X.w) X.A (getItem v (.ref sl)) (EP X pins σ Q) X.xe s
theorem qS.or{r':V->Option Int->Option Int->Hp->VK->Prop}(h:qS X r)(h':qS X r'):qS X (fun x lo hi H Q=>r x lo hi H Q\/r' x lo hi H Q):=by
 intro pins s σ H x v vl vu lo hi sl Q I rx hs pl pu q;rcases q with q | q
 ·exact h pins s σ H x v vl vu lo hi sl Q I rx hs pl pu q
 ·exact h' pins s σ H x v vl vu lo hi sl Q I rx hs pl pu q
def tSl(r:V->Option Int->Option Int->Hp->VK->Prop)(te:TE)(tl th:TO):TE:=fun σ H Q=>te σ H fun x H1=>tl σ H1 fun l H2=>th σ H2 fun u H3=>r x l u H3 Q
theorem yr(hr:qS X r)(he:PE X e te)(hl:PO X lo tl)(hu:PO X hi th):PE X (.Subscript e (.Slice lo hi none p2) pos) (tSl r te tl th):=by intro pins s σ H Q I h;refine Subscript_ (xc (he pins s σ H _ I h) fun v s1 ⟨x,H1,I1,r1,q1⟩=>?_);refine wpAny_Slice (xc (hl pins s1 σ H1 _ I1 q1) fun vl s2 ⟨l,H2,I2,pl,q2⟩=>xc (hu pins s2 σ H2 _ I2 q2) fun vu s3 ⟨u,H3,I3,pu,q3⟩=>?_);rw[evalPart_none];refine Aw ?_;have I4:qt X pins σ H3 { s3 with heap:=s3.heap.push { cls:=.type "slice",data:=.fields #[vl,vu,.none] } }:=I3.kept (t':=s3.toks) fun b ob q=>Heap.get?_push_of_some _ q;obtain⟨T,id,hT,ht,hg⟩:=hr pins { s3 with heap:=s3.heap.push { cls:=.type "slice",data:=.fields #[vl,vu,.none] } } σ H3 x v vl vu l u s3.heap.objs.size Q I4 r1 (Heap.IsSliceOf.new ..) pl pu q3;show wpAny (model X.prog X.w) X.A (subscriptTail e (.Slice lo hi none p2) v (.ref s3.heap.objs.size)) (EP X pins σ Q) X.xe { s3 with heap:=s3.heap.push { cls:=.type "slice",data:=.fields #[vl,vu,.none] } };exact tail_any (ops:=[.ref s3.heap.objs.size,v]) ht hT hg (by with_unfolding_all rfl)
def uF(xs:List V)(lo hi:Option Int):List V:=(xs.drop (HT.sIx xs.length 0 lo)).take (HT.sIx xs.length xs.length hi - HT.sIx xs.length 0 lo)
theorem oS(xs:List V)(lo hi:Option Int):(uF xs lo hi).length≤xs.length:=by unfold uF;rw[AJ,Ba];omega
end
def yf(n:Nat)(i:Int):Option Nat:=if 0≤i then(if i<n then some i.toNat else none) else if -(n:Int)≤i then some (i+n).toNat else none
def bW(xs:List α)(i:Int):Option α:=(yf xs.length i).bind fun j=>xs[j]?
theorem sO{i:Int}(h:yf n i=some j):seqIndex? i n=some j/\j<n /\ -(n:Int)≤i/\i<n:=by
 unfold yf at h;by_cases h0:0≤i
 ·rw[Av h0] at h;by_cases h1:i<n
  ·rw[Av h1] at h;have e:i.toNat=j:=AK h;exact⟨by rw[seqIndex_of h0 h1,e],by omega,by omega,h1⟩
  ·rw[As h1] at h;cases h
 ·rw[As h0] at h;by_cases h1 : -(n:Int)≤i
  ·rw[Av h1] at h;have e:(i+n).toNat=j:=AK h;exact⟨by rw[seqIndex_neg (by omega) h1,e],by omega,h1,by omega⟩
  ·rw[As h1] at h;cases h
theorem nX{xs:List α}{i:Int}{v:α}(h:bW xs i=some v):∃j,seqIndex? i xs.length=some j/\xs[j]?=some v/\j<xs.length /\ -(xs.length:Int)≤i/\i<xs.length:=by
 unfold bW at h;cases e:yf xs.length i with
 |none=>rw[e] at h;cases h
 |some j=>
  rw[e] at h;obtain⟨h1,h2,h3,h4⟩:=sO e;exact⟨j,h1,h,h2,h3,h4⟩
theorem vn{xs:List α}{v:α}(h:xs[j]?=some v):bW xs (j:Int)=some v:=by
 have hj:j<xs.length:=(AX.mp h).1;have e:yf xs.length (j:Int)=some j:=by unfold yf;rw[Av (by omega),Av (by omega)];simp
 unfold bW;rw[e];exact h
def iA(b:Expr):Prop:=∀o i,subscripted b false o i=operate [o,i] (getItem o i)
def xB(X:Cx)(r:R2):Prop:=
 ∀(value slice:Expr) (pins:List (Addr×Obj)) (s:Shared) (σ:St) (H:Hp) (x y:V) (v u:Value) (Q:VK),qt X pins σ H s->za x v->za y u->r x y H Q->
  subscripted slice false v u=operate [v,u] (getItem v u)->wpAny (model X.prog X.w) X.A (subscriptTail value slice v u) (EP X pins σ Q) X.xe s
def MtR(X:Cx)(id:String)(r:V->List V->Hp->VK->Prop):Prop:=
 ∀(pins:List (Addr×Obj)) (s:Shared) (σ:St) (H:Hp) (x:V) (xs:List V) (v:Value) (us:List Value) (Q:VK),qt X pins σ H s->za x v->zh xs us->r x xs H Q->
  wpAny (model X.prog X.w) X.A (call (.builtin id) (v::us)) (EP X pins σ Q) X.xe s
section
variable {a b:Expr}{ta tb:TE} 
theorem aep{r:R2}(hr:xB X r)(ha:PE X a ta)(hb:PE X b tb)(hs:iA b):PE X (.Subscript a b pos) (tOp r ta tb):=by intro pins s σ H Q I h;exact Subscript_ (afr ha hb I h fun v u s2 x y H2 I2 rx ry q=>hr a b pins s2 σ H2 x y v u Q I2 rx ry q (hs _ _))
def am0(K:Ac):R2:=fun x y H Q=>∃p xs i v,x=.ref p/\y=.int i/\aG K H p xs/\bW xs i=some v/\Q v H
def ami(K:Ac):R2:=fun x y H Q=>∃p xs i v,x=.ref p/\y=.int i/\fU K H p xs/\bW xs i=some v/\Q v H
def ans:R2:=fun x y H Q=>∃z i c,x=.str z/\y=.int i/\z.length≤sizeLine/\bW z.cps.toList i=some c/\Q (.str ⟨#[c]⟩) H
theorem adc:xB X (am0 X.K):=by
 intro value slice pins s σ H x y v u Q I rx ry h hs;obtain⟨p,xs,i,z,rfl,rfl,hq,he,q⟩:=h;cases rx;obtain⟨t,rfl⟩:=ry;obtain⟨its,r,pl,hz⟩:=I.list hq;obtain⟨j,h1,h2,h3,h4,h5⟩:=nX he;obtain⟨w,ew,rw'⟩:=r.get h2;have hl:=r.length;have hn:=gP;have vd:EP X pins σ Q w s:=⟨z,H,I,rw',q⟩;by_cases h0:0≤i
 ·have hj:i.toNat=j:=by rw[seqIndex_of h0 h5] at h1;exact AK h1
  exact item_listR pl.isList h0 (by omega) (by rw[hj];simpa using ew) vd hs
 ·have hj:(i+(its.toArray.size:Int)).toNat=j:=by rw[seqIndex_neg (by omega) h4] at h1;rw[Ah,<-hl];exact AK h1
  exact subscriptTail_builtinR (x:=w) pl.isList.typeIs slot_list_getitem.lookup
   (wpAny_getItem_list_neg (Q:=fun r s'=>r=w/\EP X pins σ Q r s') pl.isList (by omega) (by rw[Ah]<;>omega) (by omega) (by rw[hj];simpa using ew) ⟨rfl,vd⟩) hs
theorem agy:xB X (ami X.K):=by
 intro value slice pins s σ H x y v u Q I rx ry h hs;obtain⟨p,xs,i,z,rfl,rfl,hq,he,q⟩:=h;cases rx;obtain⟨t,rfl⟩:=ry;obtain⟨its,r,pl,hz⟩:=I.tuple hq;obtain⟨j,h1,h2,h3,h4,h5⟩:=nX he;obtain⟨w,ew,rw'⟩:=r.get h2;have hl:=r.length;have hn:=gP;have vd:EP X pins σ Q w s:=⟨z,H,I,rw',q⟩;exact subscriptTail_builtinR (x:=w) pl.typeIs slot_tuple_getitem.lookup
  (getItem_tuple (j:=j) (Q:=fun r s'=>r=w/\EP X pins σ Q r s') pl (by omega) (by omega) (by rw[Ah,<-hl];exact h1) (by simpa using ew) ⟨rfl,vd⟩) hs
theorem afe:xB X ans:=by
 intro value slice pins s σ H x y v u Q I rx ry h hs;obtain⟨z,i,c,rfl,rfl,hz,he,q⟩:=h;obtain⟨t,rfl⟩:=rx;obtain⟨t',rfl⟩:=ry;obtain⟨j,h1,h2,h3,h4,h5⟩:=nX he;have hl:z.cps.toList.length=z.length:=by simp[Str.length]
 rw[hl] at h1 h4 h5;have hn:=gP;exact tail_any (typeIs_str s z t) slot_str_getitem.lookup (getItem_str (c:=c) (by have e1:decide (i < -(2 ^ 63:Int))=false:=Am (by omega);have e2:decide (i≥2 ^ 63)=false:=Am (by omega);rw[e1,e2,Bool.or_false]) (by rw[h1];simpa using h2) ⟨.str ⟨#[c]⟩,H,I.tok _,⟨_,rfl⟩,q⟩) hs
theorem rV(its:List Value)(n j:Nat)(u:Value):Obj.mapSeq (·.setIfInBounds j u) { cls:=.type "list",data:=.seq its.toArray n }={ cls:=.type "list",data:=.seq (its.set j u).toArray n }:=by simp[Obj.mapSeq]
theorem qt.lst{p:Addr}(I:qt X pins σ H s)(h:H p=some (.lst xs)):
 ∃(its:List Value) (n:Nat),zh xs its/\s.heap.get? p=some { cls:=.type "list",data:=.seq its.toArray n }/\xs.length≤sizeLine:=by
 obtain⟨z,its,n,r,e⟩:=I.hok p _ h;exact⟨its,n,r,e,z⟩
theorem qt.lstUpd{p:Addr}{ys:List V}{its':List Value}{n':Nat}{f:Obj->Obj}(I:qt X pins σ H s)(h:H p=some (.lst xs))
 (ho:s.heap.get? p=some { cls:=.type "list",data:=.seq its.toArray n }) (hf:f { cls:=.type "list",data:=.seq its.toArray n }={ cls:=.type "list",data:=.seq its'.toArray n' }) (r:zh ys its') (hz:ys.length≤sizeLine) (t:Nat) (ht:0<t:=by walk_at "t"):
 qt X pins σ (upd H p (.lst ys)) { s with heap:=s.heap.update p f,toks:=t }:=by
 have e:(s.heap.update p f).get? p=some { cls:=.type "list",data:=.seq its'.toArray n' }:=by rw[Heap.get?_update_self f ho (by rw[hf]<;>rfl),hf]
 refine I.write (x:=p) (e:=p) (by rw[h];trivial) (.inl rfl) (fun b u hb q=>(Heap.get?_update_other _ _ (AS hb)).trans q) ⟨_,e⟩ ?_;exact⟨hz,its',n',r,e⟩
def ako:V->V->V->Hp->(Hp->Prop)->Prop:=fun o i v H Q=>∃p xs k j,o=.ref p/\i=.int k/\H p=some (.lst xs)/\yf xs.length k=some j/\Q (upd H p (.lst (xs.set j v)))
theorem zQ:ak0 X ako:=by
 intro pins s σ H o i v ov iv u Q I ro ri rv h;obtain⟨p,xs,k,j,rfl,rfl,hp,hj,q⟩:=h;cases ro;obtain⟨t,rfl⟩:=ri;obtain⟨its,n,r,ho,hz⟩:=I.lst hp;obtain⟨h1,h2,h3,h4⟩:=sO hj;have hl:=r.length;have hn:=gP;have I':qt X pins σ (upd H p (.lst (xs.set j v))) { s with heap:=s.heap.update p (Obj.mapSeq (·.setIfInBounds j u)) }:=
  I.lstUpd hp ho (rV its n j u) (r.set rv j) (by rw[A2];exact hz) s.toks
 by_cases h0:0≤k
 ·have hk:k.toNat=j:=by rw[seqIndex_of h0 h4] at h1;exact AK h1
  exact PySem.W.ki_setAt ho h0 (by omega) (by rw[Ah,<-hl];exact h4) (by rw[hk];exact⟨_,I',q⟩)
 ·have hk:(k+(its.toArray.size:Int)).toNat=j:=by rw[seqIndex_neg (by omega) h3] at h1;rw[Ah,<-hl];exact AK h1
  exact PySem.W.ki_setBack ho (by omega) (by rw[Ah,<-hl];exact h3) (by omega) (by rw[hk];exact⟨_,I',q⟩)
theorem mX(lo hi:Option Int)(n:Nat):(sliceBounds lo hi none n).1=((HT.sIx n 0 lo:Nat):Int)/\(sliceBounds lo hi none n).2.1=((HT.sIx n n hi:Nat):Int)/\(sliceBounds lo hi none n).2.2=1:=by
 refine⟨?_,?_,rfl⟩
 ·cases lo with
  |none=>simp[sliceBounds,HT.sIx]
  |some i=>
   simp only[sliceBounds,HT.sIx,Option.getD_none,show(1:Int) > 0 by decide,if_true];by_cases h:i<0
   ·simp only[h,if_true]<;>omega
   ·simp only[h,if_false]<;>omega
 ·cases hi with
  |none=>simp[sliceBounds,HT.sIx]
  |some i=>
   simp only[sliceBounds,HT.sIx,Option.getD_none,show(1:Int) > 0 by decide,if_true];by_cases h:i<0
   ·simp only[h,if_true]<;>omega
   ·simp only[h,if_false]<;>omega
theorem kW(its:List Value)(lo hi:Option Int):slicePick its.toArray lo hi none=((its.drop (HT.sIx its.length 0 lo)).take (HT.sIx its.length its.length hi - HT.sIx its.length 0 lo)).toArray:=by obtain⟨h1,h2,h3⟩:=mX lo hi its.toArray.size;unfold slicePick;rw[h1,h2,h3];simp only[sliceRange_one,pick_run,Ah]<;>rfl
def alx(K:Ac):V->Option Int->Option Int->Hp->VK->Prop:=fun x lo hi H Q=>∃a xs,x=.ref a/\aG K H a xs/\∀p,H p=none->Q (.ref p) (upd H p (.lst (uF xs lo hi)))
theorem aci:qS X (alx X.K):=by intro pins s σ H x v vl vu lo hi sl Q I rx hs pl pu h;obtain⟨a,xs,rfl,hx,q⟩:=h;cases rx;obtain⟨its,r,ht,hz⟩:=I.list hx;have hlen:=r.length;refine⟨"list",_,slot_list_getitem.lookup,ht.isList.typeIs,?_⟩;refine wpAny_getItem_list_slice ht.isList hs pl pu .none (by simp) ?_ (by rw[Ah]<;>omega);rw[kW,<-hlen];refine⟨.ref s.heap.objs.size,_,I.laid (t':=s.toks) (o:=.lst (uF xs lo hi)) (fun b ob q=>Heap.get?_push_of_some _ q) (Ag _) ?_,rfl,q _ (I.hok.fresh (Ag _))⟩;exact⟨AI (oS xs lo hi) hz,_,0,(r.drop (HT.sIx xs.length 0 lo)).take (HT.sIx xs.length xs.length hi - HT.sIx xs.length 0 lo),Heap.get?_push_size _ rfl⟩
def aJ:V->Bool
 |.non=>true
 |.bl _=>true
 |.int _=>true
 |.str _=>true
 |_=>false
def kO:V->V->Bool
 |.non,.non=>true
 |.bl a,.bl b=>a==b
 |.bl a,.int b=>(if a then 1 else 0)==b
 |.int a,.bl b=>a==(if b then 1 else 0)
 |.int a,.int b=>a==b
 |.str a,.str b=>a==b
 |_,_=>false
theorem jP{y x:V}{v:Value}(ry:za y u)(rx:za x v)(fy:aJ y=true)(fx:aJ x=true):SeqAt.EqAt A s u v (kO y x):=by
 cases y with
 |non=>
  cases ry;cases x with
  |non=>cases rx;exact SeqAt.EqAt.same _
  |bl b=>cases rx;exact SeqAt.EqAt.none_bool b
  |int b=>obtain⟨t,rfl⟩:=rx;exact SeqAt.EqAt.none_int b t
  |str b=>obtain⟨t,rfl⟩:=rx;exact SeqAt.EqAt.none_str b t
  |_=>exact absurd (show false=true from fx) Aq
 |bl a=>
  cases ry;cases x with
  |non=>cases rx;exact SeqAt.EqAt.bool_none a
  |bl b=>cases rx;exact SeqAt.EqAt.bool_bool a b
  |int b=>obtain⟨t,rfl⟩:=rx;exact SeqAt.EqAt.bool_int a b t
  |str b=>obtain⟨t,rfl⟩:=rx;exact SeqAt.EqAt.bool_str a b t
  |_=>exact absurd (show false=true from fx) Aq
 |int a=>
  obtain⟨t',rfl⟩:=ry;cases x with
  |non=>cases rx;exact SeqAt.EqAt.int_none a t'
  |bl b=>cases rx;exact SeqAt.EqAt.int_bool a t' b
  |int b=>obtain⟨t,rfl⟩:=rx;exact SeqAt.EqAt.int_int a t' b t
  |str b=>obtain⟨t,rfl⟩:=rx;exact SeqAt.EqAt.int_str a t' b t
  |_=>exact absurd (show false=true from fx) Aq
 |str a=>
  obtain⟨t',rfl⟩:=ry;cases x with
  |non=>cases rx;exact SeqAt.EqAt.str_none a t'
  |bl b=>cases rx;exact SeqAt.EqAt.str_bool a t' b
  |int b=>obtain⟨t,rfl⟩:=rx;exact SeqAt.EqAt.str_int a t' b t
  |str b=>obtain⟨t,rfl⟩:=rx;exact SeqAt.EqAt.str_str a t' b t
  |_=>exact absurd (show false=true from fx) Aq
 |_=>exact absurd (show false=true from fy) Aq
def qB(x:V)(u:Value):Bool:=match u with
 |.none=>kO .non x
 |.bool b=>kO (.bl b) x
 |.int i _=>kO (.int i) x
 |.str z _=>kO (.str z) x
 |_=>false
theorem y7{x y:V}(r:za y u)(f:aJ y=true):qB x u=kO y x:=by
 cases y with
 |non=>cases r;rfl
 |bl b=>cases r;rfl
 |int i=>obtain⟨t,rfl⟩:=r;rfl
 |str z=>obtain⟨t,rfl⟩:=r;rfl
 |_=>exact absurd (show false=true from f) Aq
theorem fI{x:V}:∀{xs:List V} {us:List Value},zh xs us->xs.all aJ=true->us.any (qB x)=xs.any fun y=>kO y x
 |_,_,.nil,_=>rfl
 |y::xs,u::us,.cons r t,f=>by rw[C2,AV] at f;rw[BK,BK,y7 r f.1,fI t f.2]
theorem cX{A:Around}{s:Shared}{x:V}{v:Value}(rx:za x v)(fx:aJ x=true):∀{xs:List V} {us:List Value},zh xs us->xs.all aJ=true->∀u∈us,SeqAt.EqAt A s u v (qB x u)
 |_,_,.nil,_=>fun u hu=>by cases hu
 |y::xs,u::us,.cons r t,f=>fun u' hu=>by
  rw[C2,AV] at f;rcases AC.mp hu with rfl | hu
  ·rw[y7 r f.1];exact jP r rx f.1 fx
  ·exact cX rx fx t f.2 u' hu
def ux(x:V)(xs:List V):Bool:=xs.any fun y=>kO y x
def rIn(K:Ac)(neg:Bool):R2:=fun x y H Q=>∃p xs,y=.ref p/\(aG K H p xs\/fU K H p xs)/\aJ x=true/\xs.all aJ=true/\Q (.bl (if neg then !ux x xs else ux x xs)) H
theorem ue:kg X (compareOp .In) (rIn X.K false):=by
 intro pins s σ H x y v u Q I rx ry h;obtain⟨p,xs,rfl,hq,fx,fs,q⟩:=h;cases ry;rcases hq with hq | hq
 ·obtain⟨its,r,pl,hz⟩:=I.list hq;refine SeqAt.in_listAt (qB x) pl.isList (fun w hw=>cX rx fx r fs w (by simpa using hw)) ⟨.bl _,H,I,rfl,?_⟩;rw[show its.toArray.any (qB x)=its.any (qB x) by simp,fI r fs];exact q
 ·obtain⟨its,r,pl,hz⟩:=I.tuple hq;refine SeqAt.in_tupleAt (qB x) pl (fun w hw=>cX rx fx r fs w (by simpa using hw)) ⟨.bl _,H,I,rfl,?_⟩;rw[show its.toArray.any (qB x)=its.any (qB x) by simp,fI r fs];exact q
theorem mx:kg X (compareOp .NotIn) (rIn X.K true):=by
 intro pins s σ H x y v u Q I rx ry h;obtain⟨p,xs,rfl,hq,fx,fs,q⟩:=h;cases ry;rcases hq with hq | hq
 ·obtain⟨its,r,pl,hz⟩:=I.list hq;refine SeqAt.notIn_listAt (qB x) pl.isList (fun w hw=>cX rx fx r fs w (by simpa using hw)) ⟨.bl _,H,I,rfl,?_⟩;rw[show its.toArray.any (qB x)=its.any (qB x) by simp,fI r fs];exact q
 ·obtain⟨its,r,pl,hz⟩:=I.tuple hq;refine SeqAt.notIn_tupleAt (qB x) pl (fun w hw=>cX rx fx r fs w (by simpa using hw)) ⟨.bl _,H,I,rfl,?_⟩;rw[show its.toArray.any (qB x)=its.any (qB x) by simp,fI r fs];exact q
theorem nG:jv X (.builtin "len") (fun xs H Q=>∃p ys,xs=[.ref p]/\(aG X.K H p ys\/fU X.K H p ys)/\Q (.int ys.length) H):=by
 intro pins s σ H xs us Q I r h;obtain⟨p,ys,rfl,hq,q⟩:=h;obtain⟨u,rfl,rx⟩:=pX r;cases rx;have hn:=gP;rcases hq with hq | hq
 ·obtain⟨its,r',pl,hz⟩:=I.list hq;have hlen:=r'.length;exact Calls.call_len_list pl.isList (by simp only[Ah]<;>omega) ⟨.int ys.length,H,I.tok _,⟨s.toks+1,by rw[Ah,hlen]⟩,q⟩
 ·obtain⟨its,r',pl,hz⟩:=I.tuple hq;have hlen:=r'.length;exact len_tuple pl (by simp only[Ah]<;>omega) ⟨.int ys.length,H,I.tok _,⟨s.toks+1,by rw[Ah,hlen]⟩,q⟩
theorem mI:jv X (.builtin "len") (fun xs H Q=>∃z,xs=[.str z]/\z.length≤sizeLine/\Q (.int z.length) H):=by intro pins s σ H xs us Q I r h;obtain⟨z,rfl,hz,q⟩:=h;obtain⟨u,rfl,t,rfl⟩:=pX r;have hn:=gP;exact len_str (by omega) ⟨.int z.length,H,I.tok _,⟨_,rfl⟩,q⟩
theorem mJ:jv X (.type "list") (fun xs H Q=>∃p ys,xs=[.ref p]/\(aG X.K H p ys\/fU X.K H p ys)/\∀l,H l=none->Q (.ref l) (upd H l (.lst ys))):=by
 intro pins s σ H xs us Q I r h;obtain⟨p,ys,rfl,hq,q⟩:=h;obtain⟨u,rfl,rx⟩:=pX r;cases rx;have vd:∀(its:List Value),zh ys its->ys.length≤sizeLine->∀(h':Heap) (c':Nat),(∀b o',s.heap.get? b=some o'->h'.get? b=some o')->
  h'.get? s.heap.objs.size=some { cls:=.type "list",dict:=none,data:=.seq its.toArray c',slots:=#[] }->EP X pins σ Q (.ref s.heap.objs.size) { s with heap:=h' }:=fun its r' hz h' c' kp e=>
  ⟨.ref s.heap.objs.size,_,I.laid (t':=s.toks) kp (Ag _) (show xj X.prog X.w _ h' _ (.lst ys) from⟨hz,its,c',r',e⟩),rfl,q _ (I.hok.fresh (Ag _))⟩
 rcases hq with hq | hq
 ·obtain⟨its,r',pl,hz⟩:=I.list hq;have hlen:=r'.length;obtain⟨o,ho,hc,n,hd⟩:=pl.isList;exact call_list_seq p (.inl rfl) ho hc hd (fun h' c' kp e=>vd its r' hz h' c' kp e) (by simp only[Ah]<;>omega)
 ·obtain⟨its,r',pl,hz⟩:=I.tuple hq;have hlen:=r'.length;obtain⟨o,ho,hc,n,hd⟩:=pl;exact call_list_seq p (.inr rfl) ho hc hd (fun h' c' kp e=>vd its r' hz h' c' kp e) (by simp only[Ah]<;>omega)
def tyV(K:Ac)(T:String)(x:V)(H:Hp):Prop:=match x with
 |.str _=>T = "str"
 |.int _=>T = "int"
 |.ref p=>(T = "list" /\ ∃xs,aG K H p xs)\/(T = "tuple" /\ ∃o,K.lookup p=some o/\o.cls=.type "tuple" /\ o.dict=none)\/
  (T = "dict" /\ ((∃kvs,H p=some (.dK kvs))\/∃kvs,H p=some (.dT kvs)))\/(T = "set" /\ ∃S n,H p=some (.set S n))
 |_=>False
theorem afk{T:String}{x:V}{v:Value}(I:qt X pins σ H s)(r:za x v)(ty:tyV X.K T x H):
 s.TypeIs v T/\∀a,v=.ref a->∃ob,s.heap.get? a=some ob/\ob.dict=none:=by
 cases x with
 |str z=>
  obtain⟨t,rfl⟩:=r;cases (show T = "str" from ty);exact⟨typeIs_str s z t,fun _ e=>nomatch e⟩
 |int i=>
  obtain⟨t,rfl⟩:=r;cases (show T = "int" from ty);exact⟨typeIs_int s i t,fun _ e=>nomatch e⟩
 |ref p=>
  cases r;rcases ty with⟨rfl,xs,hq⟩ | ⟨rfl,o,hk,hc,hd⟩ | ⟨rfl,hk⟩ | ⟨rfl,S,n,hk⟩
  ·obtain⟨its,_,pl,_⟩:=I.list hq;refine⟨pl.isList.typeIs,fun a e=>?_⟩;cases e;obtain⟨o,n,e,c,hd,_⟩:=pl;exact⟨o,e,hd⟩
  ·refine⟨⟨o,I.kIn p o hk,hc⟩,fun a e=>?_⟩;cases e;exact⟨o,I.kIn _ o hk,hd⟩
  ·have z:∃o,s.heap.get? p=some o/\o.ExactDict:=by
    rcases hk with⟨kvs,hk⟩ | ⟨kvs,hk⟩
    ·obtain⟨_,_,_,_,o,_,_,e,ex,_⟩:=I.hok p _ hk;exact⟨o,e,ex⟩
    ·obtain⟨_,_,_,_,o,_,_,e,ex,_⟩:=I.hok p _ hk;exact⟨o,e,ex⟩
   obtain⟨o,e,ex⟩:=z;refine⟨⟨o,e,ex.1⟩,fun a e2=>?_⟩;cases e2;exact⟨o,e,ex.2.1⟩
  ·obtain⟨o,_,_,_,e,ex,_⟩:=I.hok p _ hk;refine⟨⟨o,e,ex.1⟩,fun a e2=>?_⟩;cases e2;exact⟨o,e,ex.2.1⟩
 |_=>exact False.elim ty
def tBM(K:Ac)(T:String)(r:V->List V->Hp->VK->Prop)(to:TE)(t:TA):TE:=fun σ H Q=>to σ H fun x H1=>tyV K T x H1/\t σ H1 fun xs H2=>r x xs H2 Q
variable {to:TE}{T id:String}{r:V->List V->Hp->VK->Prop}
theorem ae5(pa:PlainAttrs T)(slot:Slot T name id)(hty:typeOf (.builtin id)=pure (.type "method_descriptor"))(hm:MtR X id r)(ho:PE X o to)(ha:PA X (e::es) t)
 (hbase:attributeBase o name X.env (eval o X.env)=eval o X.env:=by rfl)
 (hfew:((backTo cpos (starEach (e::es) X.env)).all (fun x=>!x.1)&&(backToKw cpos (keywordEach [] X.env)).all (fun x=>x.1.isSome)
  && decide ((e::es).length+([]:List Keyword).length+(if ([]:List Keyword).isEmpty then 0 else 1)<30))=true:=by rfl)
 (hline:(apos.endLine==cpos.line)=true:=by rfl) (hs:Dv e es X:=by rfl) (hplain:Dw cpos es X:=by rfl):
 PE X (.Call (.Attribute o name apos) (e::es) [] cpos) (tBM X.K T r to t):=by
 intro pins s σ H Q I h;refine wpAny_Call_method_late hbase hfew hline rfl (xc (ho pins s σ H _ I h) fun v s1 ⟨x,H1,I1,r1,ty,q1⟩=>?_);obtain⟨h1,h2⟩:=afk I1 r1 ty;refine⟨T,id,pa,slot,hty,h1,h2,?_⟩;have hA:=ha cpos pins s1 σ H1 _ I1 q1;rw[hs] at hA ⊢;refine Calls.callWith_builtin (by show(false||(backTo cpos (starEach es X.env)).any (·.1))=false;rw[hplain]<;>rfl) (Calls.evalArgs_plain ?_);exact xc hA fun us s2 ⟨vs,H2,I2,r2,q2⟩=>hm pins s2 σ H2 x vs v us Q I2 r1 r2 q2
end
def lE(X:Cx)(id:String)(r:V->List V->Hp->VK->Prop):Prop:=
 ∀(pins:List (Addr×Obj)) (s:Shared) (σ:St) (H:Hp) (x:V) (xs:List V) (v:Value) (us:List Value) (Q:VK),qt X pins σ H s->za x v->zh xs us->r x xs H Q->
  wpAny (model X.prog X.w) X.A (call (.builtin id) (v::us)) (EP X pins σ Q) X.xe s
theorem zh.one:∀{x:V} {us:List Value},zh [x] us->∃u,us=[u]/\za x u
 |_,_,.cons r .nil=>⟨_,rfl,r⟩
theorem zh.two:∀{x y:V} {us:List Value},zh [x,y] us->∃u v,us=[u,v]/\za x u/\za y v
 |_,_,_,.cons r (.cons q .nil)=>⟨_,_,rfl,r,q⟩
section
variable {ys:List V}
theorem qt.lset{its':List Value}{f:Array Value->Array Value}(I:qt X pins σ H s)(hH:H l=some (.lst xs))
 (e:s.heap.get? l=some { cls:=.type "list",data:=.seq its.toArray n }) (hf:f its.toArray=its'.toArray) (hv:zh ys its') (hz:ys.length≤sizeLine) (ht:0<t':=by walk_at "t"):
 qt X pins σ (upd H l (.lst ys)) { s with heap:=s.heap.update l (Obj.mapSeq f),toks:=t' }:=by
 have q:=PySem.IsL.update e f;rw[hf] at q;refine I.write (x:=l) (e:=l) (by rw[hH];exact trivial) (.inl rfl) (fun b' u hb hu=>(Heap.get?_update_other s.heap (Obj.mapSeq f) (AS hb)).trans hu) ⟨_,q⟩ ?_;exact⟨hz,its',_,hv,q⟩
theorem qt.lnew(I:qt X pins σ H s)(hv:zh ys its)(hz:ys.length≤sizeLine)(ht:0<t':=by walk_at "t"):
 qt X pins σ (upd H s.heap.objs.size (.lst ys)) { s with heap:=s.heap.push { cls:=.type "list",data:=.seq its.toArray },toks:=t' }:=
 I.laid (fun _ _ q=>Heap.get?_push_of_some _ q) (Ag _) ⟨hz,its,0,hv,Heap.get?_push_size _ rfl⟩
theorem qt.fresh(I:qt X pins σ H s):H s.heap.objs.size=none:=I.hok.fresh (Ag _)
theorem qt.lstM(I:qt X pins σ H s)(hH:H l=some (.lst xs)):xs.length≤sizeLine/\∃(its:List Value) (n:Nat),zh xs its/\xs.length=its.length/\s.heap.get? l=some { cls:=.type "list",data:=.seq its.toArray n }:=by obtain⟨z,its,n,r,e⟩:=I.hok l _ hH;exact⟨z,its,n,r,r.length,e⟩
theorem yU(h:n≤sizeLine):Builtin.List.listTooLong n=false:=by unfold Builtin.List.listTooLong;exact Am (by omega)
end
section
def abv:V->List V->Hp->VK->Prop:=fun x vs H Q=>∃l xs y,x=.ref l/\vs=[y]/\H l=some (.lst xs)/\xs.length<sizeLine/\Q .non (upd H l (.lst (xs++[y])))
theorem ud:lE X "list.append" abv:=by intro pins s σ H x vs v us Q I rx rv h;obtain⟨l,xs,y,rfl,rfl,hH,hz,q⟩:=h;cases rx;obtain⟨u,rfl,ru⟩:=rv.one;obtain⟨z,its,n,r,hl,e⟩:=I.lstM hH;refine call_meets F.slot_list_append ⟨_,e,rfl⟩ F.entry_list_append (F.args_list_append_2 _ _) (PySem.list_append l its.toArray n u (by rw[Ah];omega)) ⟨e,?_⟩;refine⟨.non,_,I.lset (its':=its++[u]) hH e (by simp) (r.append (.cons ru .nil)) ?_,rfl,q⟩;rw[Ab,Ap];omega
def aam:V->List V->Hp->VK->Prop:=fun x vs H Q=>∃l b xs zs,x=.ref l/\vs=[.ref b]/\H l=some (.lst xs)/\H b=some (.lst zs)/\xs.length+zs.length≤sizeLine/\Q .non (upd H l (.lst (xs++zs)))
theorem uY:lE X "list.extend" aam:=by
 intro pins s σ H x vs v us Q I rx rv h;obtain⟨l,b,xs,zs,rfl,rfl,hH,hB,hz,q⟩:=h;cases rx;obtain⟨u,rfl,ru⟩:=rv.one;cases ru;obtain⟨z,its,n,r,hl,e⟩:=I.lstM hH;obtain⟨z2,its2,n2,r2,hl2,e2⟩:=I.lstM hB;have hsz:its.toArray.size+its2.toArray.size≤sizeLine:=by rw[Ah,Ah];omega
 have hlong:¬(!its.toArray.isEmpty&&Builtin.List.listTooLong (its.toArray.size+its2.toArray.size))=true:=by rw[yU hsz,Cj];exact Aq
 refine call_meets F.slot_list_extend ⟨_,e,rfl⟩ F.entry_list_extend (F.args_list_extend_2 _ _)
  (AutoSeq1.list_extend_list_list_0 l its.toArray n b its2.toArray n2 hlong (by rw[Ah];omega) (by omega)) ⟨e,e2,?_⟩
 refine⟨.non,_,I.lset (its':=its++its2) hH e (by simp) (r.append r2) ?_,rfl,q⟩;rw[Ab];omega
def amd:R2:=fun x y H Q=>∃l b xs zs,x=.ref l/\y=.ref b/\H l=some (.lst xs)/\H b=some (.lst zs)/\xs.length+zs.length≤sizeLine/\∀p,H p=none->Q (.ref p) (upd H p (.lst (xs++zs)))
theorem afc:kg X (binaryOp .Add) amd:=by
 intro pins s σ H x y v u Q I rx ry h;obtain⟨l,b,xs,zs,rfl,rfl,hH,hB,hz,q⟩:=h;cases rx;cases ry;obtain⟨z,its,n,r,hl,e⟩:=I.lstM hH;obtain⟨z2,its2,n2,r2,hl2,e2⟩:=I.lstM hB;refine PySem.P.add_list e e2 ?_ (by rw[Ah,Ah];omega);have ea:its.toArray++its2.toArray=(its++its2).toArray:=by simp
 rw[ea];exact⟨.ref _,_,I.lnew (t':=s.toks) (r.append r2) (by rw[Ab];omega),rfl,q _ I.fresh⟩
end
section
variable {w:World} 
set_option maxRecDepth 100000 in
end
section
end
end L2
namespace Att
open PySem PySem.W PySem.Calls PyProof.Rows
theorem hU{P:Params} :∀(ns:List Int) (vs:List Value),WellAll P h vs (ns.map WData.int)->IntsAre vs ns:=by
 intro ns
 induction ns with
 |nil=>
  intro vs w;rw[Ci] at w;cases w;exact .nil
 |cons n ns ih=>
  intro vs w;rw[Ay] at w;cases w with
  |cons a b=>
   cases a;exact .cons _ _ (ih _ b)
theorem uE{l:OpenLaw}(hn:l.most=some n){P:Params}{args:List WData}{vals:List Value}
 (hpre:l.row.toRowW.claim.pre args=true) (hwl:WellAll P h vals args):
 ∃a vs ns,vals=[Value.ref a]/\args=[WData.list (ns.map WData.int)]/\h.get? a=some { cls:=.type "list",data:=.seq vs.toArray }/\IntsAre vs ns/\ns.length≤n:=by
 have hsh:WShape.hasAll [] args [.list .int]=true:=(pre_splitW hpre).1;have hc:l.pre.holds [] { args:=args }=true:=(pre_splitW hpre).2;obtain⟨d,r,rfl,h1,h2⟩:=hasAllW_cons hsh;obtain rfl:=hasAllW_nil h2;obtain⟨xs,rfl,h3⟩:=hasW_list h1;obtain⟨ns,rfl⟩:=items_int h3;have hlen:ns.length≤n:=by
  unfold OpenLaw.pre at hc;have h4:(WTm.not (.lt (.lit (.int (n:Int))) (.len (.arg 0)))).holds [] { args:=[.list (ns.map .int)] }=true:=by have h4:=(holds_andW hc).1;rw[hn] at h4;exact h4
  have h5:=condW_of h4 (w_not (w_lt w_lit (w_len_list (w_arg rfl))));rw[Aa] at h5;refine Nat.le_of_not_lt fun q=>?_;have q':(n:Int)<((ns.length:Nat):Int):=by omega
  first
   |(rw[Al q'] at h5;exact absurd h5 (by decide))
   |(simp at h5;omega)
 cases hwl with
 |cons w1 w2=>
  cases w2;cases w1 with|list ho hall=>exact⟨_,_,ns,rfl,rfl,ho,hU ns _ hall,hlen⟩
theorem tY(l:OpenLaw)(args:List WData):l.row.toRowW.claim.post args (.bool true) args=true:=
 postW_of (r:=l.row.toRowW) (X:=(true==true))
  (show WShape.has [] (.bool true) .bool=true by first | rfl | decide | simp[WShape.has,WShape.arms,WShape.armsAll])
  (show(WTm.eq .res (.lit (.bool true))).value [] { args:=args,res:=some (.bool true),after:=args }=some (.bool (true==true)) from w_eq_bool (w_res rfl) w_lit) rfl
theorem attach_callZ{l:OpenLaw}{q:Program}{loose:List Str}{XP:(Str->Option Value)->Heap->Prop}{as0:List Addr}{N t:Nat}{K:Params->Frag}{d:DefRec}
 (hn:l.most=some n) (hdf:d.params.defaults=[]) (ek:∀P,as0=(K P).map (·.1)) (htk:0<t)
 (call:∀(w:World) (s₀ s₁:Shared) (mg mb:Str->Option Value) (fa:Addr) (o:Obj) (pm cd doc:Value) (a:Addr) (vs:List Value) (ns:List Int),
  Ground q loose [] XP w s₀ mg mb s₁.heap->(K w.params).In s₁.heap->0<s₁.toks->
  s₁.heap.get? fa=some o->o.data=.func (docDef d.name d.params d.body d.scope pm cd doc)->s₁.heap.CodeRec cd d.name->mg d.name=some (.ref fa)->
  s₁.heap.get? a=some { cls:=.type "list",data:=.seq vs.toArray }->IntsAre vs ns->ns.length≤n->s₁.gens=#[]->
  codeAny (model l.prog w) callerA (.call (.ref fa) ⟨[.ref a],[]⟩) (fun r s'=>r=.ok (.ret (.bool true))/\OldK s₁.heap s'.heap/\s'.os=s₁.os/\AllBare s'.gens) s₁):
 WalkX q loose XP (PySem.W.X.obsZ as0) (PySem.W.X.valZ K N t) l.row.toRowW d [] (fun f vs=>PySem.call f vs):=by
 intro w s₀ s₁ mg mb G Y fa o pm cd doc dV kV ho hd hcd hD hmg hg args vals as L hpre hlay hrd hwl hlo;obtain rfl:dV=.none:=Dflts.none hD hdf;obtain rfl:kV=.none:=Dflts.noKw hD;obtain⟨a,vs,ns,rfl,rfl,hobj,hints,hlen⟩:=uE hn hpre hwl;obtain⟨_,zi,_,zt⟩:=X.z_facts ek Y;have eP:∀ns:List Int,ofPy (PyData.list (ns.map PyData.int))=WData.list (ns.map WData.int):=fun ns=>by
  simp only[ofPy];congr 1
  induction ns with|nil=>simp[ofPys]|cons n r ih=>simp only[Ay,ofPys,ofPy,ih]
 rw[<-eP] at L;have KX:=InK.keeps w s₀.heap s₁.heap zi L.keeps;have tk1:0<s₁.toks:=AG htk (X.script_toks L zt);refine enter_call (codeAny_mono (call w s₀ s₁ mg mb fa o pm cd doc a vs ns G KX tk1 ho (fd_plain hd) hcd hmg hobj hints hlen hg) fun r s' hq=>?_);obtain⟨rfl,h2,h3,h4⟩:=hq;exact⟨.inl ⟨.bool true,.bool true,[],rfl,fun _=>rfl,.bool true,tY l _,fun _=>⟨List.Pairwise.nil,fun _ hm=>(nomatch hm)⟩⟩,h2,h3,h4⟩
section
variable {w:World}{K:Frag}
end
end Att
namespace L2
open PySem PySem.Spec PyProof.Rows
theorem lL:∀{vs:List Value} {ns:List Int},IntsAre vs ns->zh (ns.map V.int) vs
 |_,_,.nil=>.nil
 |_,_,.cons n t h=>.cons ⟨t,rfl⟩ (lL h)
def aav(H:Hp):Prop:=∀b,H b=none\/∃o xs,H b=some (.frz o (.lst xs))
theorem yi{P:Program}{w:World}{K:Ac}{mb:Str->Option Value}{CX:tF}{k:Nat}{fa:Addr}{s₁:Shared}
 (KX:K.In s₁.heap) (hns:s₁.heap.Ns mainGlobals mg) (hb:s₁.heap.Ns builtinsNs mb) (hbb:∀x:Str,x ≠ "__name__" -> mb x=bootBuiltins x) (hlim:s₁.heap.NoLimit) (hg:s₁.gens=#[]) (htk:0<s₁.toks)
 (ha:s₁.heap.get? a=some { cls:=.type "list",data:=.seq vs.toArray }) (hi:IntsAre vs ns) (hl:ns.length≤sizeLine) (hr:v8 k callerA)
 (F:∀base:Heap,K.In base->base.Ns mainGlobals mg->aB P w K mg base CX k fa fd [x] sp) (hbind:∀(s:Shared) (u:Value),BindsTo s fd ⟨[u],[]⟩ [(x,u)])
 (hsp:∀H:Hp,aav H->aG K H a (ns.map V.int)->sp [.ref a] H (fun v _=>v=.bl true) fun _ _ _=>False)
 (hCX:∀H e s',CX [] H s₁ (fun _ _ _=>False) e s'->False):
 codeAny (model P w) callerA (.call (.ref fa) ⟨[.ref a],[]⟩) (fun r s'=>r=.ok (.ret (.bool true))/\OldK s₁.heap s'.heap/\s'.os=s₁.os/\AllBare s'.gens) s₁:=by
 have rv:=lL hi;have lenV:=hi.length;have core:∀H:Hp,aav H->aG K H a (ns.map V.int)->bx P w H s₁.heap->(∀b,H b≠none->b=a)->(H a≠none->K.lookup a=none)->
  codeAny (model P w) callerA (.call (.ref fa) ⟨[.ref a],[]⟩) (fun r s'=>r=.ok (.ret (.bool true))/\OldK s₁.heap s'.heap/\s'.os=s₁.os/\AllBare s'.gens) s₁:=by
  intro H hO hS hok hA hK;have base_of:∀{b:Addr} {o:Obj},s₁.heap.get? b=some o->H b=none->(mM s₁.heap H).get? b=some o:=fun e n=>yu e n;have noA:∀{b:Addr} {o:Obj} {es:Array DictEntry} {ep:Nat},s₁.heap.get? b=some o->o.data=.dict es ep->H b=none:=fun {b o es ep} e d=>by
   cases q:H b with
   |none=>rfl
   |some u=>
    have e':b=a:=hA b (by rw[q];simp);subst e';rw[ha] at e;cases e;have d':Data.seq vs.toArray _=Data.dict es ep:=d;cases d'
  have nsK:∀{b:Addr} {m:Str->Option Value},s₁.heap.Ns b m->(mM s₁.heap H).Ns b m:=fun {b m} ⟨o,es,ep,e,d,r⟩=>⟨o,es,ep,base_of e (noA e d),d,r⟩;have hKb:K.In (mM s₁.heap H):=fun b o e=>base_of (KX b o e) (by
   cases q:H b with
   |none=>rfl
   |some u=>
    have e':b=a:=hA b (by rw[q];simp);subst e';rw[hK (by rw[q];simp)] at e;cases e)
  have hM:Mod K mg (mM s₁.heap H):=⟨hKb,nsK hns,⟨mb,nsK hb,hbb⟩,let ⟨mc,h1,h2⟩:=hlim;⟨mc,nsK h1,h2⟩⟩;have e0:qQ P w K mg (mM s₁.heap H) callerA [] s₁ H:=⟨rfl,hM,fun b o e=>aaj e,Nat.le_of_eq (uJ _ _),trivial,fun b hb=>absurd (show b∈([]:List Addr) from hb) (by simp),hok,.of_eq hg,htk⟩;refine codeAny_mono ((F _ hKb (nsK hns)).run callerA [] s₁ H ⟨[.ref a],[]⟩ [.ref a] [.ref a] _ _ hr e0 (hbind s₁ (.ref a)) (.cons rfl .nil) (hsp H hO hS)) fun r s' h=>?_;cases r with
  |error e=>exact(hCX H e s' h).elim
  |ok fl=>
   cases fl with
   |next=>exact False.elim h
   |brk=>exact False.elim h
   |cont=>exact False.elim h
   |ret u=>
    obtain⟨v,H',os,bare,un,hok',r',q,_⟩:=h;have q':v=.bl true:=q;subst q';obtain rfl:u=Value.bool true:=r';refine⟨rfl,OldK.of_keep fun b o e=>?_,os,bare⟩;cases q:H b with
    |none=>exact un.keep b o e q (by intro z;exact absurd (show b∈([]:List Addr) from z) (by simp)) (by simp)
    |some u=>
     rcases hO b with z | ⟨ob,xs,z⟩
     ·rw[q] at z;cases z
     ·have z2:=un.frzs b ob _ z;obtain⟨e1,_⟩:=hok b _ z;obtain⟨e2,_⟩:=hok' b _ z2;rw[e] at e1;cases e1;exact e2
 cases hk:K.lookup a with
 |some o=>
  have e:=KX a o hk;rw[ha] at e;cases e;refine core (fun _=>none) (fun _=>.inl rfl) (.inr ⟨_,vs.toArray,_,hk,rfl,rfl,rfl,by rw[Ah,lenV];exact hl,by simpa using rv⟩) (fun b u z=>by have z':(none:Option HO)=some u:=z;cases z') (fun b z=>absurd rfl z) fun z=>absurd rfl z
 |none=>
  refine core (fun b=>if b=a then some (.frz { cls:=.type "list",data:=.seq vs.toArray } (.lst (ns.map V.int))) else none) (fun b=>?_) (.inl (.inr ⟨{ cls:=.type "list",data:=.seq vs.toArray },Av rfl⟩)) (fun b u z=>?_) (fun b z=>?_) fun _=>hk
  ·by_cases hb:b=a
   ·exact .inr ⟨_,_,Av hb⟩
   ·exact .inl (As hb)
  ·by_cases hb:b=a
   ·have z':=(Av hb).symm.trans z;cases z';subst hb;exact⟨ha,by rw[Aa];exact hl,vs,_,rv,ha⟩
   ·have z':=(As hb).symm.trans z;cases z'
  ·by_cases hb:b=a
   ·exact hb
   ·exact absurd (As hb) z
theorem walk_ofZ{l:PySem.W.OpenLaw}{k:Nat}{q:Program}{loose:List Str}{XP:(Str->Option Value)->Heap->Prop}{as0:List Addr}{N t:Nat}{d:DefRec}{K:Params->Ac}{CX:tF}{sp:Ac->Sp}
 (hn:l.most=some n) (hn2:n≤sizeLine) (hdf:d.params.defaults=[]) (hr:v8 k callerA) (ek:∀P,as0=(K P).map (·.1)) (htk:0<t)
 (F:∀(w:World) (mg:Str->Option Value) (fa:Addr) (h:Heap),(K w.params).In h->h.Ns mainGlobals mg->mg d.name=some (.ref fa)->
  ∃fd:FuncData,(∀(s:Shared) (u:Value),BindsTo s fd ⟨[u],[]⟩ [(x,u)])/\
   ∀base:Heap,(K w.params).In base->base.Ns mainGlobals mg->aB l.prog w (K w.params) mg base CX k fa fd [x] (sp (K w.params)))
 (hsp:∀(K:Ac) (H:Hp) (a:Addr) (ns:List Int),ns.length≤n->aav H->aG K H a (ns.map V.int)->sp K [.ref a] H (fun v _=>v=.bl true) fun _ _ _=>False)
 (hCX:∀(H:Hp) (s:Shared) (e:Value) (s':Shared),CX [] H s (fun _ _ _=>False) e s'->False):
 PySem.W.WalkX q loose XP (PySem.W.X.obsZ as0) (PySem.W.X.valZ K N t) l.row.toRowW d [] (fun f vs=>PySem.call f vs):=by
 refine Att.attach_callZ hn hdf ek htk fun w s₀ s₁ mg mb fa o pm cd doc a vs ns G KX tk ho hd hcd hmg hobj hints hlen hg=>?_;obtain⟨fd,hb,hF⟩:=F w mg fa _ KX G.T.g hmg;exact yi KX G.T.g G.T.b G.T.builtins G.T.nolimit hg tk hobj hints (AI hlen hn2) hr hF hb (fun H hO hS=>hsp (K w.params) H a ns hlen hO hS) fun H e s'=>hCX H s₁ e s'
def ja(s:Stmt):Arguments:=match s with
 |.FunctionDef _ a _ _ _ _ _ _ _ _=>a
 |_=>{ posonlyargs:=[],args:=[],vararg:=none,kwonlyargs:=[],kw_defaults:=[],kwarg:=none,defaults:=[] }
def zn(s:Stmt):List Stmt:=match s with
 |.FunctionDef _ _ b _ _ _ _ _ _ _=>b
 |_=>[]
def qk(s:Stmt):Scope:=match s with
 |.FunctionDef _ _ _ _ _ _ sc _ _ _=>sc
 |_=>{ kind:=.function,names:=[],isGenerator:=false,isCoroutine:=false }
abbrev CX0:tF:=fun _ _ _ _ _ _=>False
abbrev E0:XK:=fun _ _ _=>False
theorem yG :fq CX0 X E0:=fun _ _ _ _ _ _ _ h=>h.elim
structure Fun(K:Ac)(x qual:Str)(st:Stmt)(f:Addr)(fd:FuncData):Prop where
 ex:∃(oc:Value) (od:Option Addr) (kV doc pm:Value) (an:Option Addr) (cdv ct:Value) (osl:Array (Option Value)),
  fd=PySem.W.fnOf x qual (ja st) (zn st) (qk st) .none kV doc pm an cdv ct/\K.lookup f=some ⟨oc,od,.func fd,osl⟩/\PySem.W.codeIn K cdv qual=true
 kp:PySem.W.keepIn K (.ref f)=true
section
variable {P:Program}{w:World}{K:Ac} 
theorem Fun.ok{N:List Str}{k:Nat}(F:Fun K x qual st f fd)(S:aO N ps (qk st))(len:∀vs H Q E,sp vs H Q E->vs.length=ps.length)
 (hbody:∀(cdv:Value) (A:Around) (outer:List Env) (s:Shared) (H:Hp) (vs:List V) (Q:VK) (E:XK),v8 k (A.deeper (envOfC qual (qk st) s.heap.objs.size f cdv))->sp vs H Q E->
  ∃t,mF (cW CX0 P w K mg base N qual (qk st) f cdv A outer s H E).nox (zn st) t/\t { nx:=fun _ H'=>Q .non H',rt:=Q } (start N vs) H):aB P w K mg base CX0 (k+1) f fd ps sp:=by
 obtain⟨oc,od,kV,doc,pm,an,cdv,ct,osl,rfl,lk,hcd⟩:=F.ex;refine ae7 lk hcd S len fun A outer s H vs Q E hr hsp=>?_;obtain⟨t,h,q⟩:=hbody cdv A outer s H vs Q E hr hsp;exact⟨t,h.nox,q⟩
theorem xP{kV:Value}(l:K.lookup f=some ⟨oc,od,.func (PySem.W.fnOf x qual (ja st) (zn st) (qk st) .none kV doc pm an cdv ct),osl⟩)
 (c:PySem.W.codeIn K cdv qual=true) (k:PySem.W.keepIn K (.ref f)=true):Fun K x qual st f (PySem.W.fnOf x qual (ja st) (zn st) (qk st) .none kV doc pm an cdv ct):=⟨⟨oc,od,kV,doc,pm,an,cdv,ct,osl,rfl,l,c⟩,k⟩
end
theorem aT(h:n≤1000):n<sizeLine:=AM h (by decide)
section
theorem pv(i:Nat)(hN:X.N[i]?=some x:=by rfl)(hv:Vis X.env.scope x:=by first | exact Or.inl rfl | exact Or.inr (Or.inl rfl) | exact Or.inr (Or.inr rfl))(hd:Dx x:=by decide)
 (hcd:Dy x:=by decide):PE X (.Name x pos) (ag1 i):=ahh hN hv hd hcd
end
section
variable [DecidableEq κ]
end
end L2
set_option maxHeartbeats 8000000
theorem abz{a b c:Nat}(h:a≤b:=by assumption)(k:b<c:=by assumption):a<c:=AM h k
theorem abc{a b c:Nat}(h:a≤b:=by assumption)(k:b≤c:=by assumption):a≤c:=AI h k
theorem xG{a b c:Nat}(h:a<b:=by assumption)(k:b<c:=by assumption):a<c:=Nat.lt_trans h k
theorem ao4{a b c:Nat}(h:a≤b:=by assumption)(k:b≤c:=by decide):a≤c:=AI h k
theorem pe{a b:Nat}(h:a≤b:=by assumption):a<b+1:=Nat.lt_succ_of_le h
theorem yW{a b:Nat}(h:a≤b:=by assumption):a≤b+1:=Nat.le_succ_of_le h
theorem abq{a b:Nat}(h:a<b:=by assumption):a≤b:=Bi h
theorem anf{a b:Nat}(h:b<a:=by assumption):a≠b:=Nat.ne_of_gt h
theorem alm{a b c:Nat}(h:a<b:=by assumption)(k:b≤c:=by assumption):a≤c:=AI (Bi h) k
theorem ane{a b c:Nat}(h:a<b:=by assumption):a<b+c:=AG h (BL _ _)
theorem uC{a b:Nat}(h:a=b:=by assumption):a≤b:=Nat.le_of_eq h
theorem abg{a b:Nat}(h:¬a<b:=by assumption):b≤a:=Nat.le_of_not_lt h
theorem anz{a b:Nat}(h:a<b+1:=by assumption):a≤b:=Nat.le_of_lt_succ h
theorem aiz{a b:Nat}(h:0<a:=by assumption)(k:0<b:=by decide):a - b<a:=Nat.sub_lt h k
theorem oA{a b c:Nat}(h:a<c:=by assumption):a - b<c:=AM (Nat.sub_le _ _) h
theorem als{a b:Nat}(h:a≤b:=by assumption)(k:a≠b:=by assumption):a<b:=Nat.lt_of_le_of_ne h k
namespace L2
open PySem PySem.Spec PyProof.Rows
section
def amq:R2:=fun x y H Q=>match x,y with
 |.int i,.int j=>Q (.int (i+j)) H
 |.str a,.str b=>a.length+b.length≤sizeLine/\Q (.str (a++b)) H
 |.ref l,.ref b=>∃xs zs,H l=some (.lst xs)/\H b=some (.lst zs)/\xs.length+zs.length≤sizeLine/\∀p,H p=none->Q (.ref p) (upd H p (.lst (xs++zs)))
 |_,_=>False
theorem aaf:kg X (binaryOp .Add) amq:=by
 intro pins s σ H x y v u Q I rx ry h;cases x<;>cases y<;>first
  |exact False.elim h
  |exact agi pins s σ H _ _ v u Q I rx ry ⟨_,_,rfl,rfl,h⟩
  |exact qZ pins s σ H _ _ v u Q I rx ry ⟨_,_,rfl,rfl,h.1,h.2⟩
  |(obtain⟨xs,zs,h1,h2,h3,h4⟩:=h;exact afc pins s σ H _ _ v u Q I rx ry ⟨_,_,xs,zs,rfl,rfl,h1,h2,h3,h4⟩)
def KD(K:Ac)(P:Program)(w:World)(a:Addr)(kvs:List (jc×V)):Prop:=
 (a==sysModules)=false/\kvs.length≤sizeLine/\∀h:Heap,K.In h->∃vs,KV kvs vs/\h.DictOf (xh P w) a vs
def uIx(K:Ac)(P:Program)(w:World):R2:=fun x y H Q=>match x,y with
 |.str z,.int i=>z.length≤sizeLine/\∃c,bW z.cps.toList i=some c/\Q (.str ⟨#[c]⟩) H
 |.ref p,.int i=>∃xs v,(aG K H p xs\/fU K H p xs)/\bW xs i=some v/\Q v H
 |.ref p,.str k=>∃kvs v,(Rd H p (.dK kvs)\/KD K P w p kvs)/\dD kvs (Sum.inr k)=some v/\Q v H
 |_,_=>False
theorem zE{slice:Expr}{vs:List (jc×Value)}{k:jc}{w':Value}{Q:VK}(I:qt X pins σ H s)(dd:s.heap.DictOf (xh X.prog X.w) a vs)(hk:jM k u=true)
 (hw:valueAt vs k=some w') (r:za v w') (q:Q v H) (hs:subscripted slice false (.ref a) u=operate [.ref a,u] (getItem (.ref a) u)):wpAny (model X.prog X.w) X.A (subscriptTail value slice (.ref a) u) (EP X pins σ Q) X.xe s:=
 tail_any dd.typeIs CV.lookup (wpAny_getItem_of hk dd.mapOf hw ⟨v,H,I.tok _,r,q⟩) hs
theorem alz:xB X (uIx X.K X.prog X.w):=by
 intro value slice pins s σ H x y v u Q I rx ry q hs;cases x with
 |str z=>
  cases y with
  |int i=>
   obtain⟨h1,c,h2,h3⟩:=q;exact afe value slice pins s σ H _ _ v u Q I rx ry ⟨z,i,c,rfl,rfl,h1,h2,h3⟩ hs
  |_=>exact q.elim
 |ref p=>
  cases y with
  |int i=>
   obtain⟨xs,w',h1,h2,h3⟩:=q;rcases h1 with h1 | h1
   ·exact adc value slice pins s σ H _ _ v u Q I rx ry ⟨p,xs,i,w',rfl,rfl,h1,h2,h3⟩ hs
   ·exact agy value slice pins s σ H _ _ v u Q I rx ry ⟨p,xs,i,w',rfl,rfl,h1,h2,h3⟩ hs
  |str k=>
   obtain⟨kvs,w',h1,h2,h3⟩:=q;have ry':za (kV (Sum.inr k)) u:=ry;cases (show v=Value.ref p from rx);rcases h1 with h1 | h1
   ·obtain⟨z,hd,vs,rel,dd⟩:=mB I.hok h1;obtain⟨w2,hw,rw'⟩:=DI (v:=w') (o:=valueAt vs (Sum.inr k)) (by rw[<-h2];exact rel.val _);exact zE I dd (lF (P:=X.prog) (w:=X.w) ry') hw rw' h3 hs
   ·obtain⟨hd,z,dd⟩:=h1;obtain⟨vs,rel,dd⟩:=dd s.heap I.kIn;obtain⟨w2,hw,rw'⟩:=DI (v:=w') (o:=valueAt vs (Sum.inr k)) (by rw[<-h2];exact rel.val _);exact zE I dd (lF (P:=X.prog) (w:=X.w) ry') hw rw' h3 hs
  |_=>exact q.elim
 |_=>cases y<;>exact q.elim
def am5(K:Ac):List V->Hp->VK->Prop:=fun xs H Q=>match xs with
 |[.str z]=>z.length≤sizeLine/\Q (.int z.length) H
 |[.ref p]=>∃ys,(aG K H p ys\/fU K H p ys)/\Q (.int ys.length) H
 |_=>False
theorem tz:jv X (.builtin "len") (am5 X.K):=by
 intro pins s σ H xs us Q I r h
 match xs,h with
 |[.str z],h=>exact mI pins s σ H _ us Q I r ⟨z,rfl,h.1,h.2⟩
 |[.ref p],h=>
  obtain⟨ys,h1,h2⟩:=h;exact nG pins s σ H _ us Q I r ⟨p,ys,rfl,h1,h2⟩
inductive Da where
 |s (v:V)
 |tup (xs:List Da)
 |lst (xs:List Da)
mutual
def Da.eq:Da->Da->Bool
 |.s v,.s w=>kO v w
 |.tup xs,.tup ys=>Da.eqs xs ys
 |.lst xs,.lst ys=>Da.eqs xs ys
 |_,_=>false
def Da.eqs:List Da->List Da->Bool
 |[],[]=>true
 |x::xs,y::ys=>Da.eq x y&&Da.eqs xs ys
 |_,_=>false
end
def xx(K:Ac)(H:Hp):Nat->V->Da->Prop
 |0,v,d=>d=.s v/\aJ v=true
 |n+1,v,d=>(d=.s v/\aJ v=true)\/(∃a xs ds,v=.ref a/\d=.tup ds/\fU K H a xs/\Paired (xx K H n) xs ds)\/(∃a xs ds,v=.ref a/\d=.lst ds/\aG K H a xs/\Paired (xx K H n) xs ds)
theorem Da.eqs_range:∀(ds es:List Da),((List.range (min ds.length es.length)).all (fun j=>Da.eq (ds.getD j (.s .non)) (es.getD j (.s .non)))&&ds.length==es.length)=Da.eqs ds es
 |[],[]=>by simp[Da.eqs]
 |[],e::es=>by simp[Da.eqs]
 |d::ds,[]=>by simp[Da.eqs]
 |d::ds,e::es=>by
  have ih:=Da.eqs_range ds es;rw[Da.eqs,<-ih];have:min (d::ds).length (e::es).length=min ds.length es.length+1:=by simp only[AD];lia
  rw[this,List.range_succ_eq_map,C2,List.all_map];have h2:((d::ds).length==(e::es).length)=(ds.length==es.length):=by simp
  rw[h2,Bool.and_assoc];rfl
abbrev DE:=@Da.eqs_range
theorem Paired.at{α β:Type}{F:α->β->Prop}:∀{xs:List α} {ys:List β} {j:Nat} {x:α} {y:β},Paired F xs ys->xs[j]?=some x->ys[j]?=some y->F x y
 |_,_,_,_,_,.nil,h,_=>by simp at h
 |_,_,0,_,_,.cons r _,h1,h2=>by simp at h1 h2;subst h1 h2;exact r
 |_,_,j+1,_,_,.cons _ t,h1,h2=>Paired.at (j:=j) t (by simpa using h1) (by simpa using h2)
abbrev DM:=@Paired.at
theorem dj:∀{v:V},aJ v=true->kO v v=true
 |.non,_=>rfl
 |.bl _,_=>by simp[kO]
 |.int _,_=>by simp[kO]
 |.str _,_=>by simp[kO]
section
theorem zp(h:aJ (.ref a)=true):False:=by simp[aJ] at h
theorem qt.notBoth(I:qt X pins σ H s){ys:List V}(h:fU X.K H a xs)(h':aG X.K H a ys):False:=by
 obtain⟨its,_,⟨o,e,c,_⟩,_⟩:=I.tuple h;obtain⟨its',_,⟨o',n',e',c',_⟩,_⟩:=I.list h';rw[e] at e';cases e';rw[c] at c';injection c' with c'
 exact absurd c' (by decide)
theorem mZ(I:qt X pins σ H s):∀(n:Nat) {m:Nat} {x:V} {d e:Da},xx X.K H n x d->xx X.K H m x e->Da.eq d e=true
 |0,m,x,d,e,h1,h2=>by
  obtain⟨rfl,f⟩:=h1;cases m with
  |zero=>obtain⟨rfl,_⟩:=h2;exact dj f
  |succ m=>
   rcases h2 with⟨rfl,_⟩ | ⟨a,xs,ds,rfl,_⟩ | ⟨a,xs,ds,rfl,_⟩
   ·exact dj f
   ·exact(zp f).elim
   ·exact(zp f).elim
 |n+1,m,x,d,e,h1,h2=>by
  have both:∀{xs:List V} {ds es:List Da} {m:Nat},Paired (xx X.K H n) xs ds->Paired (xx X.K H m) xs es->Da.eqs ds es=true:=by
   intro xs ds es m p
   induction p generalizing es with
   |nil=>intro q;cases q;rfl
   |cons r t ih=>
    intro q;cases q with|cons r' t'=>rw[Da.eqs,mZ I n r r',ih t'];rfl
  rcases h1 with⟨rfl,f⟩ | ⟨a,xs,ds,rfl,rfl,hs,hp⟩ | ⟨a,xs,ds,rfl,rfl,hs,hp⟩
  ·cases m with
   |zero=>obtain⟨rfl,_⟩:=h2;exact dj f
   |succ m=>
    rcases h2 with⟨rfl,_⟩ | ⟨a,xs,ds,rfl,_⟩ | ⟨a,xs,ds,rfl,_⟩
    ·exact dj f
    ·exact(zp f).elim
    ·exact(zp f).elim
  ·cases m with
   |zero=>exact(zp h2.2).elim
   |succ m=>
    rcases h2 with⟨_,f⟩ | ⟨a',ys,es,e1,rfl,hs',hp'⟩ | ⟨a',ys,es,e1,rfl,hs',hp'⟩
    ·exact(zp f).elim
    ·cases e1;cases I.tuple_inj hs hs';exact both hp hp'
    ·cases e1;exact(I.notBoth hs hs').elim
  ·cases m with
   |zero=>exact(zp h2.2).elim
   |succ m=>
    rcases h2 with⟨_,f⟩ | ⟨a',ys,es,e1,rfl,hs',hp'⟩ | ⟨a',ys,es,e1,rfl,hs',hp'⟩
    ·exact(zp f).elim
    ·cases e1;exact(I.notBoth hs' hs).elim
    ·cases e1;cases I.list_inj hs hs';exact both hp hp'
theorem zo{its:Array Value}(p:PlainL h a its):h.IsList a its:=let ⟨o,n,e,c,_,d⟩:=p;⟨o,e,c,n,d⟩
theorem fE{ys:List V}{ds es:List Da}(px:Paired (xx X.K H n) xs ds)(py:Paired (xx X.K H m) ys es)(vx:zh xs us)(vy:zh ys vs)
 (ih:∀{x y:V} {d e:Da} {u v:Value},xx X.K H n x d->xx X.K H m y e->za x u->za y v->SeqAt.EqAt A.in1 s u v (Da.eq d e)):
 ∀j (h1:j<us.toArray.size) (h2:j<vs.toArray.size),SeqAt.EqAt A.in1 s us.toArray[j] vs.toArray[j] (Da.eq (ds.getD j (.s .non)) (es.getD j (.s .non))):=by
 intro j h1 h2;have l1:=px.length;have l2:=py.length;have l3:=vx.length;have l4:=vy.length;rw[Ah] at h1 h2;have q1:xs[j]?=some xs[j]:=Ae (by lia);have q2:ys[j]?=some ys[j]:=Ae (by lia);have q3:ds[j]?=some ds[j]:=Ae (by lia);have q4:es[j]?=some es[j]:=Ae (by lia);have q5:us[j]?=some us[j]:=Ae (by lia);have q6:vs[j]?=some vs[j]:=Ae (by lia);rw[AQ,AQ,q3,q4];exact ih (DM px q1 q3) (DM py q2 q4) (DM vx q1 q5) (DM vy q2 q6)
theorem l9{ys:List V}{ds es:List Da}(I:qt X pins σ H s)(hu:A.units<cLine)(sx:fU X.K H a xs)(sy:fU X.K H b ys)(px:Paired (xx X.K H n) xs ds)(py:Paired (xx X.K H m) ys es)
 (ih:∀{x y:V} {d e:Da} {u v:Value},xx X.K H n x d->xx X.K H m y e->za x u->za y v->SeqAt.EqAt A.in1 s u v (Da.eq d e)):SeqAt.RcAt A s (.ref a) (.ref b) (Da.eqs ds es):=by
 obtain⟨us,vx,tx,_⟩:=I.tuple sx;obtain⟨vs,vy,ty,_⟩:=I.tuple sy;have q:=SeqAt.RcAt.tuples tx ty hu (fE px py vx vy ih);rw[Ah,Ah,<-vx.length,<-vy.length,px.length,py.length,DE] at q;exact q
theorem pA{ys:List V}{ds es:List Da}(I:qt X pins σ H s)(hu:A.units<cLine)(sx:aG X.K H a xs)(sy:aG X.K H b ys)(px:Paired (xx X.K H n) xs ds)(py:Paired (xx X.K H m) ys es)
 (ih:∀{x y:V} {d e:Da} {u v:Value},xx X.K H n x d->xx X.K H m y e->za x u->za y v->SeqAt.EqAt A.in1 s u v (Da.eq d e)):SeqAt.RcAt A s (.ref a) (.ref b) (Da.eqs ds es):=by
 obtain⟨us,vx,tx,_⟩:=I.list sx;obtain⟨vs,vy,ty,_⟩:=I.list sy;by_cases hz:us.toArray.size=vs.toArray.size
 ·have q:=SeqAt.RcAt.lists (zo tx) (zo ty) hz hu (fE px py vx vy ih);have hz':ds.length=es.length:=by rw[<-px.length,<-py.length,vx.length,vy.length];simpa using hz
  have e:=DE ds es;rw[hz',Nat.min_self] at e;rw[<-hz'] at e;rw[Ah,<-vx.length,px.length] at q;simp only[beq_self_eq_true,C3] at e;rw[e] at q;exact q
 ·have q:=SeqAt.RcAt.lists_lengths (zo tx) (zo ty) (by simpa using hz) hu;have hz':ds.length≠es.length:=by rw[<-px.length,<-py.length,vx.length,vy.length];intro z;exact hz (by simpa using z)
  have e:=DE ds es;have f:(ds.length==es.length)=false:=by simpa using hz'
  rw[f,Cj] at e;rw[<-e];exact q
theorem gM(I:qt X pins σ H s):∀(n:Nat) {m:Nat} {A:Around} {x y:V} {d e:Da} {u v:Value},A.units+n<cLine->xx X.K H n x d->xx X.K H m y e->za x u->za y v->SeqAt.EqAt A s u v (Da.eq d e):=by
 have flatRef:∀{A:Around} {x:V} {u:Value} {b:Addr} {ys:List V},A.units<cLine->aJ x=true->za x u->(fU X.K H b ys\/aG X.K H b ys)->SeqAt.EqAt A s u (.ref b) false/\SeqAt.EqAt A s (.ref b) u false:=by
  intro A x u b ys hu f r h;have h':(∃its,s.heap.IsTuple b its)\/∃its,s.heap.IsList b its:=by
   rcases h with h | h
   ·obtain⟨its,_,t,_⟩:=I.tuple h;exact .inl ⟨_,t⟩
   ·obtain⟨its,_,t,_⟩:=I.list h;exact .inr ⟨_,zo t⟩
  cases x with
  |non=>cases r;rcases h' with⟨_,t⟩ | ⟨_,t⟩;exact⟨.none_tuple t hu,.tuple_none t hu⟩;exact⟨.none_list t hu,.list_none t hu⟩
  |bl k=>cases r;rcases h' with⟨_,t⟩ | ⟨_,t⟩;exact⟨.bool_tuple k t hu,.tuple_bool k t hu⟩;exact⟨.bool_list k t hu,.list_bool k t hu⟩
  |int k=>obtain⟨tk,rfl⟩:=r;rcases h' with⟨_,t⟩ | ⟨_,t⟩;exact⟨.int_tuple k tk t hu,.tuple_int k tk t hu⟩;exact⟨.int_list k tk t hu,.list_int k tk t hu⟩
  |str k=>obtain⟨tk,rfl⟩:=r;rcases h' with⟨_,t⟩ | ⟨_,t⟩;exact⟨.str_tuple k tk t hu,.tuple_str k tk t hu⟩;exact⟨.str_list k tk t hu,.list_str k tk t hu⟩
  |_=>simp[aJ] at f
 intro n
 induction n with
 |zero=>
  intro m A x y d e u v hu h1 h2 rx ry;obtain⟨rfl,f⟩:=h1;cases m with
  |zero=>obtain⟨rfl,f'⟩:=h2;exact jP rx ry f f'
  |succ m=>
   rcases h2 with⟨rfl,f'⟩ | ⟨b,ys,es,rfl,rfl,sy,py⟩ | ⟨b,ys,es,rfl,rfl,sy,py⟩
   ·exact jP rx ry f f'
   ·cases ry;exact(flatRef (by lia) f rx (.inl sy)).1
   ·cases ry;exact(flatRef (by lia) f rx (.inr sy)).1
 |succ n ih=>
  intro m A x y d e u v hu h1 h2 rx ry;have hin:A.in1.units+n<cLine:=by show A.units+1+n<cLine;lia
  rcases h1 with⟨rfl,f⟩ | ⟨a,xs,ds,rfl,rfl,sx,px⟩ | ⟨a,xs,ds,rfl,rfl,sx,px⟩
  ·cases m with
   |zero=>obtain⟨rfl,f'⟩:=h2;exact jP rx ry f f'
   |succ m=>
    rcases h2 with⟨rfl,f'⟩ | ⟨b,ys,es,rfl,rfl,sy,py⟩ | ⟨b,ys,es,rfl,rfl,sy,py⟩
    ·exact jP rx ry f f'
    ·cases ry;exact(flatRef (by lia) f rx (.inl sy)).1
    ·cases ry;exact(flatRef (by lia) f rx (.inr sy)).1
  ·cases rx;cases m with
   |zero=>obtain⟨rfl,f'⟩:=h2;exact(flatRef (by lia) f' ry (.inl sx)).2
   |succ m=>
    rcases h2 with⟨rfl,f'⟩ | ⟨b,ys,es,rfl,rfl,sy,py⟩ | ⟨b,ys,es,rfl,rfl,sy,py⟩
    ·exact(flatRef (by lia) f' ry (.inl sx)).2
    ·cases ry;by_cases hab:a=b
     ·subst hab;cases I.tuple_inj sx sy;have e:Da.eq (.tup ds) (.tup es)=true:=mZ I (n+1) (m:=m+1) (x:=.ref a) (.inr (.inl ⟨a,xs,ds,rfl,rfl,sx,px⟩)) (.inr (.inl ⟨a,xs,es,rfl,rfl,sy,py⟩));rw[e];exact .same _
     ·exact .of_refs hab (l9 I (by lia) sx sy px py fun h1 h2 r1 r2=>ih hin h1 h2 r1 r2)
    ·cases ry;obtain⟨us,vx,tx,_⟩:=I.tuple sx;obtain⟨vs,vy,ty,_⟩:=I.list sy;exact .tuple_list tx (zo ty) (by lia)
  ·cases rx;cases m with
   |zero=>obtain⟨rfl,f'⟩:=h2;exact(flatRef (by lia) f' ry (.inr sx)).2
   |succ m=>
    rcases h2 with⟨rfl,f'⟩ | ⟨b,ys,es,rfl,rfl,sy,py⟩ | ⟨b,ys,es,rfl,rfl,sy,py⟩
    ·exact(flatRef (by lia) f' ry (.inr sx)).2
    ·cases ry;obtain⟨us,vx,tx,_⟩:=I.list sx;obtain⟨vs,vy,ty,_⟩:=I.tuple sy;exact .list_tuple (zo tx) ty (by lia)
    ·cases ry;by_cases hab:a=b
     ·subst hab;cases I.list_inj sx sy;have e:Da.eq (.lst ds) (.lst es)=true:=mZ I (n+1) (m:=m+1) (x:=.ref a) (.inr (.inr ⟨a,xs,ds,rfl,rfl,sx,px⟩)) (.inr (.inr ⟨a,xs,es,rfl,rfl,sy,py⟩));rw[e];exact .same _
     ·exact .of_refs hab (pA I (by lia) sx sy px py fun h1 h2 r1 r2=>ih hin h1 h2 r1 r2)
end
def uEq(K:Ac)(k:Nat):R2:=fun x y H Q=>match x,y with
 |.ref a,.ref b=>∃n m d e,n≤k/\xx K H n (.ref a) d/\xx K H m (.ref b) e/\Q (.bl (Da.eq d e)) H
 |x,y=>ab6 x y=true/\Q (.bl (decide (x=y))) H
theorem af4{k:Nat}(hu:X.A.units+k<cLine):kg X (compareOp .Eq) (uEq X.K k):=by
 intro pins s σ H x y v u Q I rx ry h;cases x with
 |ref a=>
  cases y with
  |ref b=>
   obtain⟨n,m,d,e,hn,h1,h2,q⟩:=h;cases rx;cases ry;have vd:∀{k:Bool},k=Da.eq d e->SeqAt.RcAt X.A s (.ref a) (.ref b) k->wpAny (model X.prog X.w) X.A (compareOp .Eq (.ref a) (.ref b)) (EP X pins σ Q) X.xe s:=fun {k} e' r=>
    r X.prog X.w X.xe (EP X pins σ Q) (by rw[e'];exact⟨.bl _,H,I,rfl,q⟩)
   cases n with
   |zero=>exact(zp h1.2).elim
   |succ n=>
    cases m with
    |zero=>exact(zp h2.2).elim
    |succ m=>
     have hin:X.A.in1.units+n<cLine:=by show X.A.units+1+n<cLine;lia
     rcases h1 with⟨_,f⟩ | ⟨a',xs,ds,e1,rfl,sx,px⟩ | ⟨a',xs,ds,e1,rfl,sx,px⟩
     ·exact(zp f).elim
     ·cases e1;rcases h2 with⟨_,f⟩ | ⟨b',ys,es,e2,rfl,sy,py⟩ | ⟨b',ys,es,e2,rfl,sy,py⟩
      ·exact(zp f).elim
      ·cases e2;exact vd rfl (l9 I (by lia) sx sy px py fun h1 h2 r1 r2=>gM I n hin h1 h2 r1 r2)
      ·cases e2;obtain⟨us,vx,tx,_⟩:=I.tuple sx;obtain⟨vs,vy,ty,_⟩:=I.list sy;exact vd rfl (.tuple_list tx (zo ty) (by lia))
     ·cases e1;rcases h2 with⟨_,f⟩ | ⟨b',ys,es,e2,rfl,sy,py⟩ | ⟨b',ys,es,e2,rfl,sy,py⟩
      ·exact(zp f).elim
      ·cases e2;obtain⟨us,vx,tx,_⟩:=I.list sx;obtain⟨vs,vy,ty,_⟩:=I.tuple sy;exact vd rfl (.list_tuple (zo tx) ty (by lia))
      ·cases e2;exact vd rfl (pA I (by lia) sx sy px py fun h1 h2 r1 r2=>gM I n hin h1 h2 r1 r2)
  |_=>exact aef pins s σ H _ _ v u Q I rx ry h
 |_=>cases y<;>exact aef pins s σ H _ _ v u Q I rx ry h
end
theorem ajd{c:Addr}(hg:Gl X x)(hm:X.mg x=some (.ref c))(hd:Dx x:=by decide):PE X (.Name x pos) (tC (.ref c)):=acy hg hm (v:=.ref c) rfl hd
theorem aih{T:String}(hg:Gl X x)(hm:X.mg x=none)(hv:bootBuiltins x=some (.type T))(hn:x ≠ "__name__" := by decide)(hd:Dx x:=by decide):PE X (.Name x pos) (tC (.ty T)):=abp hg hm hv (v:=.ty T) rfl hn hd
structure yJ(P:Program)(w:World)(K:Ac)(mg:Str->Option Value)(base:Heap)(k:Nat)(x:Str)(ps:List Str)(sp:Sp):Prop where
 ex:∃f fd,aB P w K mg base CX0 k f fd ps sp/\vo K fd ps []/\PySem.W.keepIn K (.ref f)=true/\mg x=some (.ref f)
theorem amt{k:Nat}(c:yJ X.prog X.w X.K X.mg X.base k x ps sp)(hr:v8 k X.A)(hg:Gl X x)(ha:PA X (e::es) t)(hdb:Dx x:=by decide)
 (he:Dv e es X:=by rfl) (hpl:Dw pos es X:=by rfl):PE X (.Call (.Name x p) (e::es) [] pos) (adp sp [] E0 t):=by
 obtain⟨f,fd,F,b,kp,m⟩:=c.ex;exact aax F hr hg m kp b .nil yG ha hdb he hpl
theorem yJ.mono{P:Program}{w:World}{K:Ac}{k:Nat}(c:yJ P w K mg base j x ps sp)(h:j≤k):yJ P w K mg base k x ps sp:=by obtain⟨f,fd,F,b,kp,m⟩:=c.ex;exact⟨f,fd,F.mono h,b,kp,m⟩
end L2
variable {ds:List L2.Da}
namespace L2
open PySem PySem.Spec PyProof.Rows
def ix(env:Env):List (Str×NameKind)->List (Str×Addr)->List (Str×Addr)
 |[],cs=>cs
 |(n,k)::r,cs=>ix env r (if k==.free then(n,(env.cells.lookup n).getD 0)::cs else cs)
def cw(scope:Scope)(env:Env):List (Str×Addr):=ix env scope.names []
theorem oY{env:Env}:∀{names:List (Str×NameKind)} {cs:List (Str×Addr)} {p:Str×Addr},p∈ix env names cs->p∈cs\/((p.1,NameKind.free)∈names/\p.2=(env.cells.lookup p.1).getD 0)
 |[],_,_,h=>.inl h
 |(n,k)::r,cs,p,h=>by
  rcases oY (names:=r) h with q | ⟨q,e⟩
  ·by_cases hk:(k==NameKind.free)=true
   ·rw[Av hk] at q;rcases AC.mp q with rfl | q
    ·have:k=.free:=by simpa using hk
     exact .inr ⟨by rw[this];exact Ax,rfl⟩
    ·exact .inl q
   ·rw[As hk] at q;exact .inl q
  ·exact .inr ⟨Af _ q,e⟩
theorem pN{env:Env}{x:Str}:∀{names:List (Str×NameKind)} {cs:List (Str×Addr)},((∃c,(x,c)∈cs)\/(x,NameKind.free)∈names)->∃c,(x,c)∈ix env names cs
 |[],_,.inl h=>h
 |[],_,.inr h=>by simp at h
 |(n,k)::r,cs,h=>by
  refine pN (names:=r) ?_;rcases h with⟨c,h⟩ | h
  ·left;by_cases hk:(k==NameKind.free)=true
   ·rw[Av hk];exact⟨c,Af _ h⟩
   ·rw[As hk];exact⟨c,h⟩
  ·rcases AC.mp h with e | h
   ·left;injection e with e1 e2
    subst e1;subst e2;exact⟨_,Ax⟩
   ·exact .inr h
theorem dI{x:Str}:∀{l:List (Str×Addr)} {c:Addr},(x,c)∈l->∃c',l.lookup x=some c'
 |(n,d)::r,c,h=>by
  rw[Bd];cases hx:x==n with
  |true=>exact⟨d,rfl⟩
  |false=>
   rcases AC.mp h with e | h
   ·injection e with e1 _;subst e1;simp at hx
   ·exact dI h
theorem gv(h:∀n,(n,NameKind.free)∈scope.names->∃c,env.cells.lookup n=some c):closureFor scope env=pure (cw scope env):=by
 unfold closureFor cw;have key:∀(names:List (Str×NameKind)) (cs:List (Str×Addr)),(∀n,(n,NameKind.free)∈names->∃c,env.cells.lookup n=some c)->
  (forIn names cs fun x (r:List (Str×Addr))=>(match x with | (name,kind)=>if kind==NameKind.free then do let a <-cellOf env name;pure (ForInStep.yield ((name,a)::r)) else pure (ForInStep.yield r):Sem (ForInStep (List (Str×Addr)))))=pure (ix env names cs):=by
  intro names
  induction names with
  |nil=>intro cs _;rfl
  |cons p r ih=>
   intro cs hf;obtain⟨n,k⟩:=p;rw[List.forIn_cons];cases hk:k==NameKind.free with
   |true=>
    have hk':k=.free:=by simpa using hk
    subst hk';obtain⟨c,hc⟩:=hf n Ax;have e:cellOf env n=pure c:=by unfold cellOf;rw[hc]
    simp only[beq_self_eq_true,if_true,e];have e2:ix env ((n,NameKind.free)::r) cs=ix env r ((n,c)::cs):=by show ix env r _=_;rw[hc];rfl
    rw[e2];exact ih ((n,c)::cs) fun m hm=>hf m (Af _ hm)
   |false=>
    simp only[hk,BR,if_false];have e2:ix env ((n,k)::r) cs=ix env r cs:=by show ix env r (if (k==NameKind.free)=true then _ else _)=_;rw[hk];rfl
    rw[e2];exact ih cs fun m hm=>hf m (Af _ hm)
 exact(A4 (· >>= pure) (key scope.names [] h))
theorem kz{env:Env}{x:Str}:∀{names:List (Str×NameKind)},
 (names.map fun(n,k)=>if (k==NameKind.free&&env.scope.kind==.function&&env.kindOf n==some .cell) then(n,NameKind.cell) else(n,k)).lookup x
  = (names.lookup x).map fun k=>if (k==NameKind.free&&env.scope.kind==.function&&env.kindOf x==some .cell) then NameKind.cell else k
 |[]=>rfl
 |(n,k)::r=>by
  have ih:=@kz env x r;show List.lookup x ((if (k==NameKind.free&&env.scope.kind==.function&&env.kindOf n==some .cell)=true then(n,NameKind.cell) else(n,k))::_)=_;cases hx:x==n with
  |true=>
   have hx':x=n:=by simpa using hx
   subst hx';by_cases hc:(k==NameKind.free&&env.scope.kind==.function&&env.kindOf x==some .cell)=true
   ·rw[Av hc];simp only[Bd,beq_self_eq_true,Option.map_some];rw[Av hc]
   ·rw[As hc];simp only[Bd,beq_self_eq_true,Option.map_some];rw[As hc]
  |false=>
   by_cases hc:(k==NameKind.free&&env.scope.kind==.function&&env.kindOf n==some .cell)=true
   ·rw[Av hc];simp only[Bd,hx];exact ih
   ·rw[As hc];simp only[Bd,hx];exact ih
def Cx.comp(X:Cx)(scope:Scope)(T:List Str)(C:Addr)(fp:List Addr)(s₀:Shared)(H₀:Hp):Cx:=
 { X with N:=X.N++T,s₀:=s₀,H₀:=H₀,env:=compEnvC scope (cw scope X.env) C X.env,outer:=X.stack,ex:=fp,fn:=fun _=>false,xe:=fun _ _=>False }
structure zx(X:Cx)(scope:Scope):Prop where
 kind:scope.kind=.function
 nocell:∀y∈scope.names,y.2≠.cell
 names:∀y∈scope.names,y.2=.local->scope.names.lookup y.1=some .local
 free:∀n,scope.names.lookup n=some .free->X.env.kindOf n=some .cell\/X.env.kindOf n=some .free
 freeM:∀n,(n,NameKind.free)∈scope.names->X.env.kindOf n=some .cell\/X.env.kindOf n=some .free
 apart:∀x∈X.N,scope.names.lookup x≠some .local
section
theorem zx.clo(S:zx X scope)(I:qt X pins σ H s):closureFor scope X.env=pure (cw scope X.env):=
 gv fun n h=>I.ok.has n (S.freeM n h)
theorem zx.cl_old(S:zx X scope)(I:qt X pins σ H s){c:Addr}(h:(cw scope X.env).lookup x=some c):X.env.cells.lookup x=some c:=by
 rcases oY (Be h) with q | ⟨q,e⟩
 ·simp at q
 ·obtain⟨d,hd⟩:=I.ok.has x (S.freeM x q);have e':c=(X.env.cells.lookup x).getD 0:=e;rw[hd] at e' ⊢;rw[e'];rfl
theorem zx.cl_has(_:zx X scope)(h:scope.names.lookup x=some .free):∃c,(cw scope X.env).lookup x=some c:=by obtain⟨c,hc⟩:=pN (env:=X.env) (names:=scope.names) (cs:=[]) (x:=x) (.inr (Be h));exact dI hc
theorem zx.kindOf(S:zx X scope)(h:(compEnvC scope (cw scope X.env) C X.env).kindOf x=some .cell\/(compEnvC scope (cw scope X.env) C X.env).kindOf x=some .free):scope.names.lookup x=some .free:=by
 have e:(compEnvC scope (cw scope X.env) C X.env).kindOf x=(scope.names.lookup x).map fun k=>if (k==NameKind.free&&X.env.scope.kind==.function&&X.env.kindOf x==some .cell) then NameKind.cell else k:=kz
 rw[e] at h;cases hl:scope.names.lookup x with
 |none=>rw[hl] at h;rcases h with h | h<;>cases h
 |some k=>
  rw[hl] at h;cases k with|free=>rfl|cell=>exact absurd rfl (S.nocell _ (Be hl))|_=>rcases h with h | h<;>cases h
theorem zx.vis(S:zx X scope)(hx:x∈X.N)(h:Vis (compEnvC scope (cw scope X.env) C X.env).scope x):scope.names.lookup x=some .free:=by
 rcases h with h | h | h
 ·exfalso;have e:(compEnvC scope (cw scope X.env) C X.env).kindOf x=(scope.names.lookup x).map fun k=>if (k==NameKind.free&&X.env.scope.kind==.function&&X.env.kindOf x==some .cell) then NameKind.cell else k:=kz
  have h':(compEnvC scope (cw scope X.env) C X.env).kindOf x=some .local:=h;rw[e] at h';cases hl:scope.names.lookup x with
  |none=>rw[hl] at h';cases h'
  |some k=>
   rw[hl] at h';have h':(if (k==NameKind.free&&X.env.scope.kind==.function&&X.env.kindOf x==some .cell)=true then NameKind.cell else k)=.local:=AK h';split at h'
   ·cases h'
   ·subst h';exact S.apart x hx hl
 ·exact S.kindOf (C:=C) (.inl h)
 ·exact S.kindOf (C:=C) (.inr h)
theorem zx.back(S:zx X scope)(h:scope.names.lookup x=some .free):(compEnvC scope (cw scope X.env) C X.env).kindOf x=some .cell\/(compEnvC scope (cw scope X.env) C X.env).kindOf x=some .free:=by
 have e:(compEnvC scope (cw scope X.env) C X.env).kindOf x=(scope.names.lookup x).map fun k=>if (k==NameKind.free&&X.env.scope.kind==.function&&X.env.kindOf x==some .cell) then NameKind.cell else k:=kz
 rw[e,h];show some (if _ then _ else _)=_\/some (if _ then _ else _)=_;split
 ·exact .inl rfl
 ·exact .inr rfl
end
def PF(X:Cx)(ifs:List Expr)(t:TT):Prop:=
 ∀(pins:List (Addr×Obj)) (s:Shared) (σ:St) (H:Hp) (Q:Bool->Hp->Prop),qt X pins σ H s->t σ H Q->
  wpAny (model X.prog X.w) X.A (forIn ifs true fun c r=>if r=true then do let ok <-isTrue c X.env (eval c X.env);pure (ForInStep.yield ok) else pure (ForInStep.yield r)) (TP X pins σ Q) X.xe s
def an6:TT:=fun _ H Q=>Q true H
theorem aey :PF X [] an6:=fun _ _ _ H _ I h=>Aw ⟨H,I,h⟩
theorem ahj{t:TT}(hc:PT X c t):PF X [c] t:=by intro pins s σ H Q I h;rw[List.forIn_cons];simp only[if_true];refine Ad (Ad (xc (hc pins s σ H Q I h) fun b s1 q=>Aw ?_));exact Aw q
theorem cy{w:World}{R:Result->Shared->Prop}{it acc:Value}(I:Nat->Shared->Prop)
 (turn:∀n s,I n s->wpAny (model prog w) A (pyNext it) (fun r s₁=>match r with
  |none=>R (.ok .next) s₁
  |some v=>wpAny (model prog w) A (letOwnedTupleGo target it v) (fun _ s₁=>wpAny (model prog w) A (assign target env v) (fun _ s₂=>
   wpAny (model prog w) A (forIn ifs true fun c r=>if r=true then do let ok <-isTrue c env (eval c env);pure (ForInStep.yield ok) else pure (ForInStep.yield r)) (fun ok s₃=>
    if ok=true then wpAny (model prog w) A (eval elt env) (fun x s₄=>
     wpAny (model prog w) A (call (.builtin "list.append") [acc,x]) (fun _ s₅=>∃m,m<n/\I m s₅) (fun _ _=>False) s₄) (fun _ _=>False) s₃
    else ∃m,m<n/\I m s₃) (fun _ _=>False) s₂) (fun _ _=>False) s₁) (fun _ _=>False) s₁) (fun _ _=>False) s)
 (n:Nat) (h:I n s):
 codeAny (model prog w) A (.compLoop (.ListComp elt [⟨target,iter,ifs,0⟩] scope pos) 0 it acc env) R s:=by
 refine codeAny_loop rfl I (fun n s hI=>?_) n h;show wpAny _ A ((compTurn (.ListComp elt [⟨target,iter,ifs,0⟩] scope pos) 0 it acc env).onRaise (fun x=>do noteFrame x env;theTreesLotGoes x)) _ _ s;refine wpAny_noted ?_;rw[compTurn_list];refine Ad (wpAny_standAt (Ad (AR (turn n s hI) (fun r s₁ h₁=>?_) fun _ _ h'=>h'.elim)));cases r with
 |none=>exact Aw h₁
 |some v=>
  refine Ad (AR h₁ (fun _ s₁ h₁=>?_) fun _ _ h'=>h'.elim);refine Ad (AR h₁ (fun _ s₂ h₂=>Ad (AR h₂ (fun ok s₃ h₃=>?_) fun _ _ h'=>h'.elim)) fun _ _ h'=>h'.elim);cases ok with
  |false=>exact Aw ⟨rfl,h₃⟩
  |true=>
   exact Ad (Ad (AR h₃ (fun x s₄ h₄=>Ad (AR h₄ (fun _ s₅ h₅=>Aw (Aw ⟨rfl,h₅⟩)) fun _ _ h'=>h'.elim)) fun _ _ h'=>h'.elim))
def tLC(n:Nat)(wi:TI)(g:TG)(tc:TT)(te:TE):TE:=fun σ H Q=>wi σ H fun J H1=>∃W:Nat->Nat->List V->Hp->Prop,(∃m,W 0 m [] H1)/\∀i m ys H,W i m ys H->
 (J.stop i H/\ys.length≤sizeLine/\∀D,H D=none->Q (.ref D) (upd H D (.lst ys)))\/
 (J.go i H/\ys.length<sizeLine/\∀x H',J.yld i H x H'->g x (σ++List.replicate n none) H' fun σ2 H2=>tc σ2 H2 fun b H3=>
  if b=true then te σ2 H3 fun y H4=>∃m',m'<m/\W (i+1) m' (ys++[y]) H4 else ∃m',m'<m/\W (i+1) m' ys H3)
def lQ(g:TG)(n k:Nat):Prop:=∀(σ:St),σ.length=n->∀x H Q,g x (σ++List.replicate k none) H Q->
 g x (σ++List.replicate k none) H fun σ2 H2=>((σ2.length=n+k/\∀(i:Nat) v,(σ++List.replicate k none)[i]?=some (some v)->σ2[i]?=some (some v))/\Q σ2 H2)
section
variable {T:List Str}{g:TG}{te:TE}
theorem ltN{o:Obj}(e:h.get? b=some o):@LT.lt Nat instLTNat b h.objs.size:=Heap.lt_size e
theorem vG(h:@Ne Nat a b):a≠b:=h
theorem leN(h:@LE.le Nat instLENat a b):a≤b:=h
theorem vU(its:List Value)(n:Nat)(u:Value):∃n',Obj.mapSeq (·.push u) { cls:=.type "list",data:=.seq its.toArray n }=({ cls:=.type "list",data:=.seq (its++[u]).toArray n' }:Obj):=
 ⟨_,by simp[Obj.mapSeq];rfl⟩
theorem rT{w:World}{D:Addr}(hD:s.heap.get? D=some { cls:=.type "list",data:=.seq its.toArray n })
 (hz:its.length≤sizeLine) (h:∀h' n',Heap.SameBut D s.heap h'->h'.get? D=some { cls:=.type "list",data:=.seq (its++[u]).toArray n' }->Q .none { s with heap:=h' }):
 wpAny (model prog w) A (call (.builtin "list.append") [.ref D,u]) Q E s:=by
 have hl:s.heap.IsList D its.toArray:=⟨_,hD,rfl,n,rfl⟩;refine wpAny_call_entry slot_list_append hl.typeIs entry_list_append ?_ (args_list_append _ _);show wpAny _ _ (updateSeq D (·.push u) >>= fun _=>ret .none) _ _ s;refine Ad ?_;obtain⟨n',e'⟩:=vU its n u;refine wpAny_updateSeq (f:=(·.push u)) hD rfl (Aw ⟨.none,rfl,h _ n' (Heap.SameBut.update ..) ?_⟩) (by rw[Ah];exact hz) (by rw[Array.size_push,Ah];exact Nat.succ_le_succ hz);rw[<-e'];exact Heap.get?_update_self _ hD (by rw[e'];rfl)
theorem jK{Q:VK}{itv:Value}{s₂:Shared}{RR:Value->Addr->Result->Shared->Prop}
 (S:zx X scope) (hc:X.calm=true)
 (hg:∀C fp s₀ H₀,PG (X.comp scope T C fp s₀ H₀) target g) (hgo:lQ g X.N.length T.length) (hf:∀C fp s₀ H₀,PF (X.comp scope T C fp s₀ H₀) ifs tc) (he:∀C fp s₀ H₀,PE (X.comp scope T C fp s₀ H₀) elt te)
 (h:PIE X pins σ target (fun J H1=>∃W:Nat->Nat->List V->Hp->Prop,(∃m,W 0 m [] H1)/\∀i m ys H,W i m ys H->
  (J.stop i H/\ys.length≤sizeLine/\∀D,H D=none->Q (.ref D) (upd H D (.lst ys)))\/
  (J.go i H/\ys.length<sizeLine/\∀x H',J.yld i H x H'->g x (σ++List.replicate T.length none) H' fun σ2 H2=>tc σ2 H2 fun b H3=>
   if b=true then te σ2 H3 fun y H4=>∃m',m'<m/\W (i+1) m' (ys++[y]) H4 else ∃m',m'<m/\W (i+1) m' ys H3)) itv s₂)
 (hRR:∀D C s' H' m',qt X pins σ H' s'->kS X pins H' C->s'.heap.Ns C m'->Q (.ref D) H'->RR (.ref D) C (.ok .next) s'):
 wpAny (model X.prog X.w) X.A (newList []) (fun acc s₃=>wpAny (model X.prog X.w) X.A (newFunctionEnv scope X.env.globals (cw scope X.env) [] X.env.qual none .none (some X.env)) (fun cenv s₄=>
  codeAny (model X.prog X.w) X.A (.compStart (.ListComp elt [⟨target,iter,ifs,0⟩] scope pos) 0 itv acc { cenv with scope:=relabel scope X.env }) (RR acc cenv.locals) s₄) E s₃) E s₂:=by
 obtain⟨it,fp,tn,J,H2,rfl,I2,Tn,st2,f2,W,⟨m0,w0⟩,turn⟩:=h;refine wpAny_newObj_type (wpAny_newFunctionEnv S.nocell (by intro y hy;simp at hy) (fun h₁ hns₁ hsb₁=>?_) S.kind);dsimp only at hns₁ hsb₁ ⊢;generalize hH2:s₂.heap.push { cls:=.type "list",dict:=none,data:=.seq ([]:List Value).toArray }=G at hns₁ hsb₁ ⊢;have hC:G.objs.size=s₂.heap.objs.size+1:=by rw[<-hH2,Heap.size_push]
 obtain⟨D,eD⟩:∃D,s₂.heap.objs.size=D:=⟨_,rfl⟩;obtain⟨C,eC⟩:∃C,G.objs.size=C:=⟨_,rfl⟩;rw[eD] at hC ⊢;rw[eC] at hC hns₁ hsb₁ ⊢;have hDC:D≠C:=by lia
 have old:∀b o,s₂.heap.get? b=some o->h₁.get? b=some o:=fun b o e=>by have hb:=ltN e;exact hsb₁.extBut b o (vG (by lia)) (Heap.get?_push_of_some _ (hH2▸Heap.get?_push_of_some _ e))
 have hacc:h₁.get? D=some { cls:=.type "list",data:=.seq ([]:List Value).toArray 0 }:=by refine hsb₁.extBut _ _ hDC (Heap.get?_push_of_some _ ?_);rw[<-hH2,<-eD];exact Heap.get?_push_size _ rfl
 have fpo:∀b∈fp,@LT.lt Nat instLTNat b s₂.heap.objs.size:=fun b hb=>by obtain⟨o,e,_⟩:=Tn.obj _ _ st2 b hb;exact ltN e
 have ilt:@LT.lt Nat instLTNat X.env.locals s₂.heap.objs.size:=I2.lt;have isz:X.s₀.heap.objs.size≤s₂.heap.objs.size:=I2.sz;have HD:H2 D=none:=I2.hok.fresh (leN (by exact uC));have HC:H2 C=none:=I2.hok.fresh (leN (by lia));have nfs:∀b:Addr,@LE.le Nat instLENat s₂.heap.objs.size b->b∉dC X.stack:=fun b hb z=>by
  have q:=I2.stkSub b z;rcases AC.mp q with q | q
  ·rw[<-q] at ilt;exact absurd ilt (Nat.not_lt.mpr hb)
  ·exact I2.nofs hb q
 have cellLt:∀x c,X.env.cells.lookup x=some c->@LT.lt Nat instLTNat c s₂.heap.objs.size:=fun x c e=>by obtain⟨v,q⟩:=I2.cell x c e;exact q.lt
 let X':Cx:=X.comp scope T C fp s₂ H2
 have ok':X'.Ok:={
  mod:=I2.ok.mod,kind:=S.kind,glob:=I2.ok.glob,blt:=I2.ok.blt
  above:=leN (by show @LE.le Nat instLENat s₂.heap.objs.size C;lia)
  inj:=fun x y c h1 h2=>I2.ok.inj x y c (S.cl_old I2 h1) (S.cl_old I2 h2)
  has:=fun x hx=>S.cl_has (S.kindOf hx)
  cab:=fun x c hx=>absurd (show false=true from hx) (by simp)
  hd:=I2.ok.hd,frames:=I2.ok.frames,stk:=.inl rfl
  exf:=fun b hb=>⟨vG (by have:=fpo b hb;show @Ne Nat b C;lia),fun x c e=>(f2 b hb).2.2.2.2.1 x c (S.cl_old I2 e)⟩
  bs:=I2.bs,bsz:=AI I2.ok.bsz I2.sz
  noex:=fun b o e hb=>by
   obtain⟨e0,n0⟩:=I2.ok.bs b o e;rcases (f2 b hb).2.2.2.1 with q | q
   ·exact I2.ok.noex b o e q
   ·have q':@LE.le Nat instLENat X.s₀.heap.objs.size b:=q;have:=ltN e0;lia
  exfs:=fun b hb z=>by
   rcases AC.mp (I2.stkSub b z) with q | q
   ·exact(f2 b hb).2.1 q
   ·exact(f2 b hb).2.2.1 q
  funs:=I2.stack,frf:=I2.stkFree }
 have I4:∀tk,0<tk->qt X' pins (σ++List.replicate T.length none) H2 { s₂ with heap:=h₁,toks:=tk }:=fun tk htk=>{
  tk:=htk,ok:=ok',os:=rfl,bare:=I2.bare,base:=Un.kept old
  loc:=⟨_,hns₁,fun i x v e1 e2 e3=>by
   have hi:i<σ.length:=by
    by_cases hi:i<σ.length
    ·exact hi
    ·rw[Au (by exact abg),BN] at e2;split at e2<;>cases e2
   rw[AO hi] at e2;have hi':i<X.N.length:=by rw[<-I2.len];exact hi
   have e1':X.N[i]?=some x:=by have:(X.N++T)[i]?=some x:=e1;rw[AO hi'] at this;exact this
   have hfr:=S.vis (An e1') e3;obtain⟨m,hn,hl⟩:=I2.loc;have hk:=S.free x hfr;obtain⟨u,r,l⟩:=hl i x v e1' e2 (.inr hk);refine⟨u,r,.inr ⟨S.back hfr,?_⟩⟩;rcases l with⟨l,_⟩ | ⟨_,c,e,z⟩
   ·rw[l] at hk;rcases hk with q | q<;>cases q
   ·obtain⟨c',e'⟩:=S.cl_has hfr;have e'':=S.cl_old I2 e';rw[e] at e'';cases e'';exact⟨c,e',z.keeps old⟩⟩
  cell:=fun x c e=>by obtain⟨v,z⟩:=I2.cell x c (S.cl_old I2 e);exact⟨v,z.keeps old⟩
  free:=HC,freeC:=fun x c e=>I2.freeC x c (S.cl_old I2 e)
  pin:=fun p hp=>by
   obtain⟨a,b,c,d,e⟩:=I2.pin p hp;have hlt:=ltN a;refine⟨old _ _ a,b,vG (by show @Ne Nat p.1 C;lia),fun z=>?_,e⟩;rcases AC.mp (I2.stkSub _ z) with q | q
   ·exact c q
   ·exact d q
  hok:=I2.hok.kept old
  len:=by show(σ++_).length=(X.N++T).length;rw[Ab,Ab,BW,I2.len] }
 have fpk:∀(pins':List (Addr×Obj)) (H':Hp),(∀p∈pins',p∈pins\/p.1=D)->(∀b∈fp,H' b=none)->∀b∈fp,kS X' pins' H' b:=fun pins' H' hp hn b hb=>by
  obtain⟨_,q1,q2,q3,q4,q5⟩:=f2 b hb;have hlt:=fpo b hb;refine⟨hn b hb,vG (by show @Ne Nat b C;lia),ok'.exfs b hb,.inl hb,(ok'.exf b hb).2,fun p hpp=>?_⟩;rcases AA.mp hpp with z | z
  ·exact q5 p (AF _ z)
  ·rcases hp p z with z | z
   ·exact q5 p (Ao _ z)
   ·rw[z];exact vG (by lia)
 have stay:Tn.keep=Tn.keep:=rfl;have loop:∀s₃:Shared,s₃={ s₂ with heap:=h₁,toks:=s₂.toks+([]:List (Str×Value)).length }->
  codeAny (model X.prog X.w) X.A (.compLoop (.ListComp elt [⟨target,iter,ifs,0⟩] scope pos) 0 (.ref it) (.ref D) X'.env) (RR (.ref D) C) s₃:=by
  rintro s₃ rfl;refine cy (fun n s'=>∃i σ' H' ys its k,qt X' pins σ' H' s'/\(σ'.length=X.N.length+T.length/\∀(i:Nat) v,(σ++List.replicate T.length none)[i]?=some (some v)->σ'[i]?=some (some v))/\
   s'.heap.get? D=some { cls:=.type "list",data:=.seq (its:List Value).toArray k }/\zh ys its/\H' D=none/\tn i s'.heap/\(∀b∈fp,H' b=none)/\W i n ys H') ?_ m0
   ⟨0,_,H2,[],[],0,I4 _ I2.tk,⟨by rw[Ab,BW,I2.len],fun _ _ e=>e⟩,hacc,.nil,HD,Tn.keep _ _ _ st2 fun b _ o e=>old b o e,fun b hb=>(f2 b hb).1,w0⟩
  rintro n s3 ⟨i,σ3,H3,ys,its,k,I3,⟨hl3,hs3⟩,hD3,hv3,hH3,st3,fr3,w3⟩;have hlen:its.length=ys.length:=hv3.length.symm;have D_fs:D∉X'.fs:=nfs D (by exact uC);have DC':D≠X'.env.locals:=hDC;have I3p:qt X' (pins++[(D,{ cls:=.type "list",data:=.seq its.toArray k })]) (σ++List.replicate T.length none) H3 s3:=
   (I3.weak (by rw[hl3,Ab,BW,I2.len]) hs3).pins_of fun p hp=>by
    rcases AA.mp hp with z | z
    ·exact I3.pin p (Ao _ z)
    ·have e:=Ai.mp z;subst e;exact⟨hD3,hH3,DC',D_fs,fun v z=>by cases z⟩
  have pinsD:∀p∈pins++[(D,({ cls:=.type "list",data:=.seq its.toArray k }:Obj))],p∈pins\/p.1=D:=fun p hp=>by
   rcases AA.mp hp with z | z
   ·exact .inl z
   ·exact .inr (by rw[Ai.mp z])
  rcases turn i n ys H3 w3 with⟨stop,hz,qn⟩ | ⟨go,hz,step⟩
  ·refine xc (Tn.done X' rfl rfl rfl hc i _ s3 _ H3 _ I3p (fpk _ H3 pinsD fr3) st3 stop) fun r s4 ⟨hr,I4'⟩=>?_;subst hr;obtain⟨hD4,hH4,_⟩:=I4'.pin (D,_) (Ao _ (Ao _ Ax));obtain⟨m',hn',_⟩:=I4'.loc;have un:Un (dC X.stack) fp H2 (upd H3 D (.lst ys)) s₂.heap s4.heap:={
    keep:=I4'.base.keep,slot:=I4'.base.slot
    free:=fun b o e n hx=>by have:=ltN e;rw[z7 (vG (by lia))];exact I4'.base.free b o e n hx
    there:=I4'.base.there
    tups:=fun b xs e=>by rw[z7 (fun z=>by rw[z,HD] at e;cases e)];exact I4'.base.tups b xs e
    frzs:=fun b o u e=>by rw[z7 (fun z=>by rw[z,HD] at e;cases e)];exact I4'.base.frzs b o u e
    tbls:=fun b ps e=>by rw[z7 (fun z=>by rw[z,HD] at e;cases e)];exact I4'.base.tbls b ps e }
   have hok:bx X.prog X.w (upd H3 D (.lst ys)) s4.heap:=fun b u e=>by
    by_cases hb:b=D
    ·subst hb;rw[xk] at e;cases e;exact⟨hz,its,k,hv3,hD4⟩
    ·rw[z7 hb] at e;refine(I4'.hok b u e).stay (fun _ _ _ q=>q) (fun c q=>?_) fun c xs q=>?_
     ·rw[z7 (j8 q hH3)];exact q
     ·rw[z7 (j8 q hH3)];exact q
   have I5:qt X pins σ (upd H3 D (.lst ys)) s4:=I2.call' (ch:=fp) I4'.os un hok I4'.bare fun b hb=>⟨(f2 b hb).2.2.2.1,(f2 b hb).2.1,(f2 b hb).2.2.2.2.1,(f2 b hb).2.2.2.2.2⟩;refine hRR D C s4 _ m' I5 ?_ hn' (qn D hH3);refine⟨by rw[z7 (AS hDC)];exact I4'.free,?_,?_,.inr ?_,fun x c e=>?_,fun p hp=>?_⟩
   ·exact vG (by lia)
   ·exact I2.nofs (leN (by lia))
   ·exact leN (by lia)
   ·exact vG (by have:=cellLt x c e;lia)
   ·exact vG (by have:=ltN (I2.pin p hp).1;lia)
  ·refine xc (Tn.item X' rfl rfl rfl hc i _ s3 _ H3 _ I3p (fpk _ H3 pinsD fr3) st3 go) fun r s4 ⟨u,hr,h4⟩=>?_;subst hr;refine xc h4 fun _ s5 ⟨x,H5,I5,r5,y5,st5,fr5⟩=>?_;have I5':=I5.pinned (fpk _ H5 pinsD fr5) (Tn.obj _ _ st5);refine AR ((hg C fp s₂ H2) _ s5 _ H5 x u _ I5' r5 (hgo σ I2.len x H5 _ (step x H5 y5))) (fun _ s6 ⟨σ6,H6,I6,⟨hl6,hs6⟩,q6⟩=>?_) fun _ _ z=>z;refine AR ((hf C fp s₂ H2) _ s6 σ6 H6 _ I6 q6) (fun b s7 ⟨H7,I7,q7⟩=>?_) fun _ _ z=>z;have vd:∀{s8:Shared} {H8:Hp} (I8:qt X' ((pins++[(D,{ cls:=.type "list",data:=.seq its.toArray k })])++ik fp s5.heap) σ6 H8 s8),tn (i+1) s8.heap/\(∀b∈fp,H8 b=none)/\s8.heap.get? D=some { cls:=.type "list",data:=.seq its.toArray k }/\H8 D=none/\qt X' pins σ6 H8 s8:=fun {s8 H8} I8=>by
    refine⟨Tn.keep _ _ _ st5 fun b hb o e=>(I8.pin (b,o) (Ao _ (Ao _ (bM hb e)))).1,fun b hb=>?_,?_,?_,I8.unpinned.unpinned⟩
    ·obtain⟨o,e,d⟩:=Tn.obj _ _ st5 b hb;exact(I8.pin (b,o) (Ao _ (Ao _ (bM hb e)))).2.1
    ·exact(I8.pin (D,_) (Ao _ (AF _ (Ao _ Ax)))).1
    ·exact(I8.pin (D,_) (Ao _ (AF _ (Ao _ Ax)))).2.1
   cases b with
   |false=>
    rw[As Aq] at q7 ⊢;obtain⟨m',hm,w7⟩:=q7;obtain⟨a1,a2,a3,a4,a5⟩:=vd I7;exact⟨m',hm,i+1,σ6,H7,ys,its,k,a5,⟨hl6,hs6⟩,a3,hv3,a4,a1,a2,w7⟩
   |true=>
    rw[Av rfl] at q7 ⊢;refine AR ((he C fp s₂ H2) _ s7 σ6 H7 _ I7 q7) (fun v s8 ⟨y,H8,I8,r8,m',hm,w8⟩=>?_) fun _ _ z=>z;obtain⟨a1,a2,a3,a4,a5⟩:=vd I8;refine rT a3 (by lia) fun h9 k9 hs9 hD9=>?_;have nD:∀b∈fp,b≠D:=fun b hb=>vG (by have:=fpo b hb;lia);refine⟨m',hm,i+1,σ6,H8,ys++[y],its++[v],k9,?_,⟨hl6,hs6⟩,hD9,hv3.append (.cons r8 .nil),a4,Tn.keep _ _ _ a1 fun b hb o e=>(hs9.2 b (nD b hb)).trans e,a2,w8⟩;exact a5.turned (t':=s8.toks) (it:=D) (fun b o hb e=>(hs9.2 b hb).trans e) a4 DC' (.inr (leN (by show @LE.le Nat instLENat s₂.heap.objs.size D;exact uC))) (fun x c e=>vG (by have:=cellLt x c (S.cl_old I2 e);lia)) fun p hp=>vG (by have:=ltN (I2.pin p hp).1;lia)
 exact codeAny_compStart_list (loop _ rfl) (Tn.self _ _ _ _ _ (Tn.keep _ _ _ st2 fun b _ o e=>old b o e) (loop _ rfl))
end
section
variable {T:List Str}{g:TG}{te:TE}
theorem ajh(T:List Str)(S:zx X scope)(hc:X.calm=true)(hi:PI X target iter wi)(hg:∀C fp s₀ H₀,PG (X.comp scope T C fp s₀ H₀) target g)(hgo:lQ g X.N.length T.length)
 (hf:∀C fp s₀ H₀,PF (X.comp scope T C fp s₀ H₀) ifs tc) (he:∀C fp s₀ H₀,PE (X.comp scope T C fp s₀ H₀) elt te)
 (hs:∀x,foldedSetIterable iter X.env x=pure x:=by intro _;rfl):PE X (.ListComp elt [⟨target,iter,ifs,0⟩] scope pos) (tLC T.length wi g tc te):=by
 intro pins s σ H Q I h;rw[eval_ListComp];refine wpAny_comprehension_free (use:=none) rfl hs (S.clo I) S.kind S.names (xc (hi pins s σ H _ I h) fun v s1 h1=>xc h1 fun itv s2 h2=>?_);refine jK (RR:=fun acc C=>compPost (model X.prog X.w) X.A X.xe none (EP X pins σ Q) acc C) S hc hg hgo hf he h2 ?_;intro D C s' H' m' I' f' hn q;exact⟨m',hn,fun h' hs'=>⟨.ref D,H',I'.turned (t':=s'.toks) (it:=C) (fun b o hb e=>(hs'.2 b hb).trans e) f'.1 (AS (AS f'.2.1)) f'.2.2.2.1 f'.2.2.2.2.1 f'.2.2.2.2.2,rfl,q⟩⟩
theorem wC(T:List Str)(hN:X.N.Nodup)(hix:X.N[i]?=some x)(hx:tZ X.env.scope x)(S:zx X scope)(hc:X.calm=true)(hi:PI X target iter wi)
 (hg:∀C fp s₀ H₀,PG (X.comp scope T C fp s₀ H₀) target g) (hgo:lQ g X.N.length T.length)
 (hf:∀C fp s₀ H₀,PF (X.comp scope T C fp s₀ H₀) ifs tc) (he:∀C fp s₀ H₀,PE (X.comp scope T C fp s₀ H₀) elt te)
 (hsw:swapsWith (.ListComp elt [⟨target,iter,ifs,0⟩] scope lp) (some (.Name x px)) pos.line X.env=pure true:=by rfl)
 (hfn:X.fn x=true\/X.env.scope.names.lookup x=some .local:=by first | exact .inl rfl | exact .inr rfl | assumption)
 (hs:∀x,foldedSetIterable iter X.env x=pure x:=by intro _;rfl):PS X (.Assign [.Name x px] (.ListComp elt [⟨target,iter,ifs,0⟩] scope lp) pos) (afo (tLC T.length wi g tc te) (cM i)):=by
 intro pins s σ H D I h;rw[exec_Assign_Name_used _ _ _ _ hsw];refine Ad (wpAny_standAt (Ad ?_));show wpAny _ X.A (do let _ <-comprehension (.ListComp elt [⟨target,iter,ifs,0⟩] scope lp) scope X.env _ (newList []) false (eval iter X.env) (some (assign (.Name x px) X.env))) _ _ s;refine Ad (AR (wpAny_comprehension_free (use:=some (assign (.Name x px) X.env)) (Q:=fun _ s'=>SP X pins D .next s') rfl hs (S.clo I) S.kind S.names
  (xc (hi pins s σ H _ I h) fun v s1 h1=>xc h1 fun itv s2 h2=>?_)) (fun _ s' hq=>Aw (Aw hq)) fun _ _ e=>e)
 refine jK (RR:=fun acc C=>compPost (model X.prog X.w) X.A X.xe (some (assign (.Name x px) X.env)) (fun _ s'=>SP X pins D .next s') acc C) (pins:=pins) (σ:=σ) (Q:=fun x H1=>cM i x σ H1 D.nx) S hc hg hgo hf he h2 ?_;intro A C s' H' m' I' f' hn q;show wpAny _ X.A (assign (.Name x px) X.env (.ref A)) _ _ s';refine wpAny_assign_Name (lJ I' hN hix hx (v:=.ref A) rfl (fun s'' I'' ⟨a,hs,ha⟩ _=>?_) hfn);have hCa:C≠a:=by
  rcases ha with z | z
  ·rw[z];exact f'.2.1
  ·exact fun e=>f'.2.2.2.2.1 x a z e.symm
 exact⟨m',hn.sameBut hs hCa,fun h' hs'=>⟨_,H',I''.turned (t':=s''.toks) (it:=C) (fun b o hb e=>(hs'.2 b hb).trans e) f'.1 f'.2.1 f'.2.2.2.1 f'.2.2.2.2.1 f'.2.2.2.2.2,q⟩⟩
end
def vi(outer:Scope)(N:List Str)(sc:Scope):Bool:=
 decide (sc.kind=.function)&&sc.names.all (fun p=>decide (p.2≠.cell)&&(decide (p.2≠.local)||decide (sc.names.lookup p.1=some .local))&&(decide (p.2≠.free)||(decide (outer.names.lookup p.1=some .cell)||decide (outer.names.lookup p.1=some .free))))
  && N.all (fun x=>decide (sc.names.lookup x≠some .local))
theorem vi.mk{sc:Scope}(h:vi X.env.scope X.N sc=true):zx X sc:=by
 unfold vi at h;rw[AV,AV,B5,B5] at h;obtain⟨⟨h1,h2⟩,h3⟩:=h;have fm:∀n,(n,NameKind.free)∈sc.names->X.env.kindOf n=some .cell\/X.env.kindOf n=some .free:=fun n hn=>by
  have q:=h2 _ hn;simp only[AV,Dm,decide_eq_true_eq] at q;rcases q.2 with z | z
  ·exact absurd rfl z
  ·exact z
 refine⟨of_decide_eq_true h1,fun y hy=>?_,fun y hy e=>?_,fun n hn=>fm n (Be hn),fm,fun x hx=>of_decide_eq_true (h3 x hx)⟩
 ·have q:=h2 _ hy;simp only[AV,Dm,decide_eq_true_eq] at q;exact q.1.1
 ·have q:=h2 _ hy;simp only[AV,Dm,decide_eq_true_eq] at q;rcases q.1.2 with z | z
  ·exact absurd e z
  ·exact z
abbrev DJ:=@vi.mk
theorem rF(n:Nat):lQ (cM n) n 1:=by
 intro σ hl x H Q h;refine⟨⟨by simp[hl],fun i v e=>?_⟩,h⟩;by_cases hi:i=n
 ·subst hi;rw[Au (by exact uC)] at e;simp[hl] at e
 ·rw[A3 (AS hi)];exact e
theorem kP:bootBuiltins "isinstance" = some (.builtin "isinstance"):=by decide +kernel
theorem fC:bootBuiltins "tuple" = some (.type "tuple"):=by decide +kernel
theorem ai0:bootBuiltins "int" = some (.type "int"):=by decide +kernel
theorem bG:bootBuiltins "list" = some (.type "list"):=by decide +kernel
theorem vR:bootBuiltins "len" = some (.builtin "len"):=by decide +kernel
theorem huK{k:Nat}(hr:v8 k A):A.units+128<cLine:=by have:=hr.un;lia
theorem bQ(h:n≤1000):n≤sizeLine:=Bi (aT h)
theorem yJ.of{P:Program}{w:World}{K:Ac}{k:Nat}(F:aB P w K mg base CX0 k f fd ps sp)(b:vo K fd ps [])(kp:PySem.W.keepIn K (.ref f)=true)(m:mg x=some (.ref f)):
 yJ P w K mg base k x ps sp:=⟨f,fd,F,b,kp,m⟩
theorem aB.never{P:Program}{w:World}{K:Ac}{k:Nat}(no:∀vs H Q E,¬sp vs H Q E):aB P w K mg base CX0 k f fd ps sp:=
 ⟨fun vs H Q E h=>absurd h (no vs H Q E),fun A outer s H args us vs Q E _ _ _ _ h=>absurd h (no vs H Q E)⟩
section
variable (K:Ac)(P:Program)(w:World)
end
structure qr(K:Ac)(x:Str)(st:Stmt):Prop where
 ex:∃(f:Addr) (kV doc pm:Value) (an:Option Addr) (cdv ct:Value),PySem.W.nsIn K mainGlobals x=some (some (.ref f))/\Fun K x x st f (PySem.W.fnOf x x (ja st) (zn st) (qk st) .none kV doc pm an cdv ct)
theorem def_in{K:Ac}{kV:Value}(a:PySem.W.nsIn K mainGlobals x=some (some (.ref f)))
 (l:K.lookup f=some ⟨oc,od,.func (PySem.W.fnOf x x (ja st) (zn st) (qk st) .none kV doc pm an cdv ct),osl⟩) (c:PySem.W.codeIn K cdv x=true) (k:PySem.W.keepIn K (.ref f)=true):qr K x st:=
 ⟨f,kV,doc,pm,an,cdv,ct,a,xP (st:=st) l c k⟩
theorem qr.use{K:Ac}(D:qr K x st)(X:K.In h)(G:h.Ns mainGlobals mg)
 (hb:∀(kV doc pm:Value) (an:Option Addr) (cdv ct:Value) (us:List Value),us.length=ps.length->bindArgs (PySem.W.fnOf x x (ja st) (zn st) (qk st) .none kV doc pm an cdv ct) ⟨us,[]⟩=pure (ps.zip us)):
 ∃f fd,Fun K x x st f fd/\vo K fd ps []/\mg x=some (.ref f):=by
 obtain⟨f,kV,doc,pm,an,cdv,ct,a,F⟩:=D.ex;exact⟨f,_,F,vo.all (hb kV doc pm an cdv ct),BV X G a⟩
def tI(w:World)(r:Str×Tok×Str×Tok):DictEntry:=⟨hashStr w r.1,.str r.1 r.2.1,.str r.2.2.1 r.2.2.2⟩
theorem aik{K:Ac}{P:Program}{w:World}{c:Addr}{ep:Nat}(rows:List (Str×Tok×Str×Tok))(l:K.lookup c=some ⟨.type "dict",none,.dict (rows.map (tI w)).toArray ep,#[]⟩)(hs:(c==sysModules)=false)(hz:rows.length≤1000)(nd:(rows.map fun r=>(Sum.inr r.1:jc)).Nodup):
 KD K P w c (rows.map fun r=>(Sum.inr r.1,.str r.2.2.1)):=by
 refine⟨hs,by rw[Aa];exact bQ hz,fun h X=>⟨rows.map fun r=>(Sum.inr r.1,.str r.2.2.1 r.2.2.2),?_,_,_,ep,X c _ l,⟨rfl,rfl,rfl⟩,rfl,?_,?_,?_⟩⟩
 ·unfold KV;clear l hz nd
  induction rows with|nil=>exact .nil|cons r t ih=>exact .cons ⟨rfl,_,rfl⟩ ih
 ·intro e he;have he':e∈rows.map (tI w):=by simpa using he
  obtain⟨r,_,rfl⟩:=A5.mp he';exact⟨Sum.inr r.1,gO r.1 r.2.1,rfl⟩
 ·show Pairs _ (rows.map (tI w)).toArray.toList _;rw[List.toList_toArray];clear l hz nd
  induction rows with|nil=>exact .nil|cons r t ih=>exact .cons (gO r.1 r.2.1) rfl ih
 ·rw[BI];exact nd
end L2
namespace Words
open PySem L2
inductive Wd where
 |leaf (t:Bool) (n:Str)
 |node (e:Bool) (l r:Wd)
def kL:Bool->Str
 |false => "plain"
 |true => "turned"
def kN:Bool->Str
 |false => "both"
 |true => "either"
def Wd.turn:Wd->Wd
 |.leaf t n=>.leaf (!t) n
 |.node e l r=>.node (!e) l.turn r.turn
def Wd.depth:Wd->Nat
 |.leaf _ _=>1
 |.node _ l r=>max l.depth r.depth+1
def Wd.leaves:Wd->Nat
 |.leaf _ _=>1
 |.node _ l r=>l.leaves+r.leaves
theorem Wd.leaves_pos:∀w:Wd,1≤w.leaves
 |.leaf _ _=>Ag _
 |.node _ l r=>by have:=Wd.leaves_pos l;show 1≤l.leaves+r.leaves;exact ane
abbrev DK:=@Wd.leaves_pos
theorem Wd.depth_le:∀w:Wd,w.depth≤w.leaves
 |.leaf _ _=>Ag _
 |.node _ l r=>by have:=Wd.depth_le l;have:=Wd.depth_le r;have:=DK l;have:=DK r;show max l.depth r.depth+1≤l.leaves+r.leaves;lia
def l6:Wd->Da
 |.leaf t n=>.tup [.s (.str (kL t)),.s (.str n)]
 |.node e l r=>.tup [.s (.str (kN e)),l6 l,l6 r]
theorem Paired.getP{α β:Type}{F:α->β->Prop}:∀{xs:List α} {ys:List β} {i:Nat} {x:α},Paired F xs ys->xs[i]?=some x->∃y,ys[i]?=some y/\F x y
 |_,_,_,_,.nil,h=>by simp at h
 |_,_,0,_,.cons (b:=y) r _,h=>by simp at h;subst h;exact⟨y,rfl,r⟩
 |_,_,i+1,_,.cons _ t,h=>by obtain⟨y,e,q⟩:=Paired.getP (i:=i) t (by simpa using h);exact⟨y,by simpa using e,q⟩
end Words
variable {ls ws:List Words.Wd}
namespace L2
open PySem PySem.Spec PyProof.Rows
section
theorem ug{ys:List V}{es:List Da}(I:qt X pins σ H s)(hu:A.units<cLine)(sx:fU X.K H a xs)(sy:fU X.K H b ys)(px:Paired (xx X.K H n) xs ds)(py:Paired (xx X.K H m) ys es)
 (ih:∀{x y:V} {d e:Da} {u v:Value},xx X.K H n x d->xx X.K H m y e->za x u->za y v->SeqAt.EqAt A.in1 s u v (Da.eq d e)):SeqAt.RcNeAt A s (.ref a) (.ref b) (!Da.eqs ds es):=by
 obtain⟨us,vx,tx,_⟩:=I.tuple sx;obtain⟨vs,vy,ty,_⟩:=I.tuple sy;have q:=SeqAt.RcNeAt.tuples tx ty hu (fE px py vx vy ih);rw[Ah,Ah,<-vx.length,<-vy.length,px.length,py.length,DE] at q;exact q
theorem yN{ys:List V}{es:List Da}(I:qt X pins σ H s)(hu:A.units<cLine)(sx:aG X.K H a xs)(sy:aG X.K H b ys)(px:Paired (xx X.K H n) xs ds)(py:Paired (xx X.K H m) ys es)
 (ih:∀{x y:V} {d e:Da} {u v:Value},xx X.K H n x d->xx X.K H m y e->za x u->za y v->SeqAt.EqAt A.in1 s u v (Da.eq d e)):SeqAt.RcNeAt A s (.ref a) (.ref b) (!Da.eqs ds es):=by
 obtain⟨us,vx,tx,_⟩:=I.list sx;obtain⟨vs,vy,ty,_⟩:=I.list sy;by_cases hz:us.toArray.size=vs.toArray.size
 ·have q:=SeqAt.RcNeAt.lists (zo tx) (zo ty) hz hu (fE px py vx vy ih);have hz':ds.length=es.length:=by rw[<-px.length,<-py.length,vx.length,vy.length];simpa using hz
  have e:=DE ds es;rw[hz',Nat.min_self] at e;rw[<-hz'] at e;rw[Ah,<-vx.length,px.length] at q;simp only[beq_self_eq_true,C3] at e;rw[e] at q;exact q
 ·have q:=SeqAt.RcNeAt.lists_lengths (zo tx) (zo ty) (by simpa using hz) hu;have hz':ds.length≠es.length:=by rw[<-px.length,<-py.length,vx.length,vy.length];intro z;exact hz (by simpa using z)
  have e:=DE ds es;have f:(ds.length==es.length)=false:=by simpa using hz'
  rw[f,Cj] at e;rw[<-e];exact q
end
section
def uNe(K:Ac)(k:Nat):R2:=fun x y H Q=>match x,y with
 |.ref a,.ref b=>∃n m d e,n≤k/\xx K H n (.ref a) d/\xx K H m (.ref b) e/\Q (.bl (!Da.eq d e)) H
 |x,y=>ab6 x y=true/\Q (.bl (!decide (x=y))) H
theorem aff{k:Nat}(hu:X.A.units+k<cLine):kg X (compareOp .NotEq) (uNe X.K k):=by
 intro pins s σ H x y v u Q I rx ry h;cases x with
 |ref a=>
  cases y with
  |ref b=>
   obtain⟨n,m,d,e,hn,h1,h2,q⟩:=h;cases rx;cases ry;have vd:∀{k:Bool},k=(!Da.eq d e)->SeqAt.RcNeAt X.A s (.ref a) (.ref b) k->wpAny (model X.prog X.w) X.A (compareOp .NotEq (.ref a) (.ref b)) (EP X pins σ Q) X.xe s:=fun {k} e' r=>
    r X.prog X.w X.xe (EP X pins σ Q) (by rw[e'];exact⟨.bl _,H,I,rfl,q⟩)
   cases n with
   |zero=>exact(zp h1.2).elim
   |succ n=>
    cases m with
    |zero=>exact(zp h2.2).elim
    |succ m=>
     have hin:X.A.in1.units+n<cLine:=by show X.A.units+1+n<cLine;lia
     rcases h1 with⟨_,f⟩ | ⟨a',xs,ds,e1,rfl,sx,px⟩ | ⟨a',xs,ds,e1,rfl,sx,px⟩
     ·exact(zp f).elim
     ·cases e1;rcases h2 with⟨_,f⟩ | ⟨b',ys,es,e2,rfl,sy,py⟩ | ⟨b',ys,es,e2,rfl,sy,py⟩
      ·exact(zp f).elim
      ·cases e2;exact vd rfl (ug I (by lia) sx sy px py fun h1 h2 r1 r2=>gM I n hin h1 h2 r1 r2)
      ·cases e2;obtain⟨us,vx,tx,_⟩:=I.tuple sx;obtain⟨vs,vy,ty,_⟩:=I.list sy;exact vd rfl (.tuple_list tx (zo ty) (by lia))
     ·cases e1;rcases h2 with⟨_,f⟩ | ⟨b',ys,es,e2,rfl,sy,py⟩ | ⟨b',ys,es,e2,rfl,sy,py⟩
      ·exact(zp f).elim
      ·cases e2;obtain⟨us,vx,tx,_⟩:=I.list sx;obtain⟨vs,vy,ty,_⟩:=I.tuple sy;exact vd rfl (.list_tuple (zo tx) ty (by lia))
      ·cases e2;exact vd rfl (yN I (by lia) sx sy px py fun h1 h2 r1 r2=>gM I n hin h1 h2 r1 r2)
  |_=>exact ae0 pins s σ H _ _ v u Q I rx ry h
 |_=>cases y<;>exact ae0 pins s σ H _ _ v u Q I rx ry h
end
theorem aes:bootBuiltins "max" = some (.builtin "max"):=by decide +kernel
theorem abb:bootBuiltins "bool" = some (.type "bool"):=by decide +kernel
end L2
namespace Words
open PySem L2
def Wd.leafL:Wd->List Wd
 |.leaf t n=>[.leaf t n]
 |.node _ l r=>l.leafL++r.leafL
def Wd.size:Wd->Nat
 |.leaf _ _=>1
 |.node _ l r=>1+l.size+r.size
theorem Wd.size_pos:∀w:Wd,1≤w.size
 |.leaf _ _=>Ag _
 |.node _ l r=>by show 1≤1+l.size+r.size;simp +arith only
theorem Wd.size_eq:∀w:Wd,w.size+1=2*w.leaves
 |.leaf _ _=>rfl
 |.node _ l r=>by have:=Wd.size_eq l;have:=Wd.size_eq r;show 1+l.size+r.size+1=2*(l.leaves+r.leaves);lia
theorem Wd.leafL_len:∀w:Wd,w.leafL.length=w.leaves
 |.leaf _ _=>rfl
 |.node _ l r=>by show(l.leafL++r.leafL).length=l.leaves+r.leaves;rw[Ab,Wd.leafL_len l,Wd.leafL_len r]
abbrev DG:=@Wd.leafL_len
theorem Wd.leafL_leaf:∀{w:Wd} {x:Wd},x∈w.leafL->∃t n,x=.leaf t n
 |.leaf t n,x,h=>⟨t,n,Ai.mp h⟩
 |.node _ l r,x,h=>by
  rcases AA.mp h with h | h
  ·exact Wd.leafL_leaf h
  ·exact Wd.leafL_leaf h
abbrev DL:=@Wd.leafL_leaf
end Words
namespace L2
open PySem PySem.Spec PyProof.Rows
theorem xj.get{P:Program}{w:World}{o:HO}(x:xj P w H h a o):∃ob,h.get? a=some ob:=by
 cases o with
 |lst xs=>obtain⟨_,_,_,_,e⟩:=x;exact⟨_,e⟩
 |tup xs=>obtain⟨_,_,_,_,e,_⟩:=x;exact⟨_,e⟩
 |dK kvs=>obtain⟨_,_,_,_,o,_,_,e,_⟩:=x;exact⟨_,e⟩
 |dT kvs=>obtain⟨_,_,_,_,o,_,_,e,_⟩:=x;exact⟨_,e⟩
 |set S n=>obtain⟨o,_,_,_,e,_⟩:=x;exact⟨_,e⟩
 |ins C dx fs=>obtain⟨_,_,_,e,_⟩:=x;exact⟨_,e⟩
 |own y=>exact x
 |xd fs=>obtain⟨_,⟨_,_,_,e,_⟩,_⟩:=x;exact⟨_,e⟩
 |rng lo hi=>obtain⟨_,_,_,e⟩:=x;exact⟨_,e⟩
 |frz ob u=>obtain⟨e,_⟩:=x;exact⟨_,e⟩
 |tbl ps=>exact⟨_,show h.get? a=some _ from x⟩
 |met f y=>exact⟨_,show h.get? a=some _ from x⟩
 |ext φ=>obtain⟨_,e,_⟩:=x;exact e
def ab4(h0 h:Heap)(H:Hp)(a C:Addr)(tr:Option Addr):Prop:=
 h0.get? a=none/\H a=none/\∃oe vs a0,h.get? a=some oe/\oe.cls=.ref C/\oe.data=.fields vs/\vs[0]?=some a0/\
  match tr with
  |none=>vs[1]?=some .none
  |some T=>vs[1]?=some (.ref T)/\h0.get? T=none/\H T=none/\T≠a/\∃oT ts,h.get? T=some oT/\oT.data=.fields ts/\ts[3]?=some .none
def dl(a:Addr)(tr:Option Addr)(fs:List Addr):List Addr:=a::(tr.toList++fs)
section
variable {tr:Option Addr}
theorem ad4{l:List Env}(h:env∈l)(e:env.frame=some b):b∈dC l:=Ce.mpr ⟨env,h,e⟩
theorem aau(I:qt X pins σ H s)(hs:X.stack=X.env::X.outer)(hx:X.ex=[])(new:X.s₀.heap.get? a=none)(free:H a=none)(newT:∀T,tr=some T->X.s₀.heap.get? T=none/\H T=none){a0 fl:Value}
 (k1:(PySem.W.hideAll s.heap (dl a tr (dC X.stack))).StaysIn h') (k2:h'.FunFrames (PySem.W.hideAll s.heap (dl a tr (dC X.stack))) X.stack) (k3:h'.TracedAtW (PySem.W.hideAll s.heap (dl a tr (dC X.stack))) a (.ref C) a0 fl)
 (k4:∀b o,s.heap.get? b=some o->(∀vs,o.data≠.fields vs)->∃sl,h'.get? b=some { o with slots:=sl }):
 Un X.fs [] X.H₀ H X.s₀.heap h'/\bx X.prog X.w H h'/\∃T,(∀b o,s.heap.get? b=some o->(∀T0,tr=some T0->b≠T0)->b≠T)/\X.s₀.heap.get? T=none/\H T=none/\T≠a/\∃oe vs oT ts,h'.get? a=some oe/\oe.cls=.ref C/\vs[0]?=some a0/\oe.data=.fields vs/\vs[1]?=some (.ref T)/\h'.get? T=some oT/\oT.data=.fields ts/\ts[3]?=some fl:=by
 have kp:∀b o,s.heap.get? b=some o->b∉dl a tr (dC X.stack)->h'.get? b=some o:=fun b o e n=>k1 b o (CG _ e n);have sl:∀b o,s.heap.get? b=some o->b∈dC X.stack->∃sl,h'.get? b=some { o with slots:=sl }:=fun b o e hb=>by obtain⟨_,o',e',nf⟩:=I.stack.mem hb;rw[e] at e';cases e';exact k4 b o e nf
 have hidN:∀b,b∈dl a tr (dC X.stack)->H b=none:=fun b hb=>by
  rcases AC.mp hb with e | hb
  ·rw[e];exact free
  ·rcases AA.mp hb with q | q
   ·exact(newT b (by simpa using q)).2
   ·exact I.stkFree b q
 have notHid:∀b o,X.s₀.heap.get? b=some o->b∉X.fs->b∉dl a tr (dC X.stack):=fun b o e nb hb=>by
  rcases AC.mp hb with q | hb
  ·rw[q,new] at e;cases e
  ·rcases AA.mp hb with q | q
   ·rw[(newT b (by simpa using q)).1] at e;cases e
   ·rcases AC.mp (I.stkSub b q) with q | q
    ·exact absurd (AG (Heap.lt_size e) I.ok.above) (by rw[q];exact Bz _)
    ·exact nb q
 have fsub:∀b,b∈X.fs->b∈dC X.stack:=fun b hb=>by
  rw[hs];unfold dC;rw[A7];split
  ·exact hb
  ·exact Af _ hb
 have noex:∀b:Addr,b∉X.ex:=fun b=>by rw[hx];simp
 have hokk:bx X.prog X.w H h':=fun b u e=>(I.hok b u e).stay (fun c w' hc q=>kp c w' q fun hm=>by
  have n:=hidN c hm;rcases hc with z | z
  ·rw[z,e] at n;cases n
  ·rw[z] at n;cases n) (fun _ q=>q) fun _ _ q=>q
 refine⟨⟨fun b o e n hb _=>?_,fun b o e n hb _=>?_,fun b o e n _=>I.base.free b o e n (noex b),fun b o e _=>?_,I.base.tups,I.base.frzs,I.base.tbls⟩,hokk,?_⟩
 ·exact kp b o (I.base.keep b o e n hb (noex b)) (notHid b o e hb)
 ·obtain⟨z,e1⟩:=I.base.slot b o e n hb (noex b);obtain⟨z',e2⟩:=sl b _ e1 (fsub b hb);exact⟨z',e2⟩
 ·obtain⟨o',e1⟩:=I.base.there b o e (noex b);by_cases hb:b∈X.fs
  ·obtain⟨z',e2⟩:=sl b _ e1 (fsub b hb);exact⟨_,e2⟩
  ·exact⟨o',kp b o' e1 (notHid b o e hb)⟩
 ·obtain⟨oe',vs',T,oT,ts,he',⟨hc',h0'⟩,hd',h1',hnT,hTa,hT,hdT,h3⟩:=k3;have inn:∀o,s.heap.get? T=some o->T∈dl a tr (dC X.stack):=fun o e=>by
   by_cases q:T∈dl a tr (dC X.stack)
   ·exact q
   ·rw[CG _ e q] at hnT;cases hnT
  have nfr:T∉dC X.stack:=fun hb=>by obtain⟨_,o',e',nf⟩:=k2.mem hb;rw[hT] at e';cases e';exact nf ts hdT
  refine⟨T,fun b o e ne z=>?_,?_,?_,hTa,oe',vs',oT,ts,he',hc',h0',hd',h1',hT,hdT,h3⟩
  ·subst z;rcases AC.mp (inn o e) with z | z
   ·exact hTa z
   ·rcases AA.mp z with z | z
    ·exact ne b (by simpa using z) rfl
    ·exact nfr z
  ·cases q:X.s₀.heap.get? T with
   |none=>rfl
   |some o=>
    obtain⟨o',e1⟩:=I.base.there T o q (noex T);rcases AC.mp (inn o' e1) with z | z
    ·exact absurd z hTa
    ·rcases AA.mp z with z | z
     ·rw[(newT T (by simpa using z)).1] at q;cases q
     ·exact absurd z nfr
  ·cases q:H T with
   |none=>rfl
   |some u=>
    obtain⟨o',e1⟩:=(I.hok T u q).get;have:=hidN T (inn o' e1);rw[q] at this;cases this
theorem xR{Q:Unit->Shared->Prop}(I:qt X pins σ H s)(hs:X.stack=X.env::X.outer)(hf:X.env.frame=some X.env.locals)(hx:X.ex=[])(L:ab4 X.s₀.heap s.heap H a C tr)
 (h:∀h' T,Un X.fs [] X.H₀ H X.s₀.heap h'->bx X.prog X.w H h'->ab4 X.s₀.heap h' H a C (some T)->Q () { s with heap:=h' }):wpAny M X.A (leaving X.env (.ref a)) Q E s:=by
 have L0:=L;obtain⟨new,free,oe,vs,b0,he,hc,hd,h0,htr⟩:=L0;have fr:s.heap.FunFrames (PySem.W.hideAll s.heap (dl a tr (dC X.stack))) X.stack:=PySem.W.funFrames_hide I.stack fun env he b hb=>Af _ (Ao _ (ad4 he hb));have st:(PySem.W.hideAll s.heap (dl a tr (dC X.stack))).StaysIn s.heap:=fun b o e=>PySem.W.of_hideAll _ e;have na:(PySem.W.hideAll s.heap (dl a tr (dC X.stack))).get? a=none:=Cy _ Ax;have hfr:X.A.frames=some (X.env::X.outer):=by rw[<-hs];exact I.ok.frames
 have go:∀h',Heap.LeftW (PySem.W.hideAll s.heap (dl a tr (dC X.stack))) (X.env::X.outer) a (.ref C) b0 s.heap h'->Q () { s with heap:=h' }:=fun h' ⟨k1,k2,k3,k4⟩=>by obtain⟨u,hok,T,_,n1,n2,ne,oe',vs',oT,ts,e1,e2,e3,e4,e5,e6,e7,e8⟩:=aau I hs hx new free (by intro T e;subst e;exact⟨htr.2.1,htr.2.2.1⟩) k1 (by rw[hs];rw[hs] at k2;exact k2) k3.at k4;exact h h' T u hok ⟨new,free,oe',vs',b0,e1,e2,e4,e3,e5,n1,n2,ne,oT,ts,e6,e7,e8⟩
 have nT:∀T,tr=some T->(PySem.W.hideAll s.heap (dl a tr (dC X.stack))).get? T=none:=fun T e=>by subst e;exact Cy _ (Af _ (AF _ (by simp)))
 generalize PySem.W.hideAll s.heap (dl a tr (dC X.stack))=base at fr st na go nT;rw[hs] at fr;cases tr with
 |none=>exact wpAny_leaving_firstW hfr fr hf he st na hd htr h0 (by rw[hc];exact go)
 |some T=>
  obtain⟨h1,_,_,hTa,oT,ts,hT,hdT,h3⟩:=htr;exact wpAny_leaving_nextW hfr fr hf ⟨oe,vs,T,oT,ts,he,⟨hc,h0⟩,hd,h1,nT T rfl,hTa,hT,hdT,h3⟩ st na go
end
def vT(P:Program)(w:World):tF:=fun outer H s E e s'=>∃a C T H',e=.ref a/\s'.os=s.os/\AllBare s'.gens/\Un (dC outer) [] H H' s.heap s'.heap/\bx P w H' s'.heap/\ab4 s.heap s'.heap H' a C (some T)/\E (.ref C) none H'/\0<s'.toks
def vL(X:Cx)(a:Addr):Prop:=a≠X.env.locals/\(∀x c,X.env.cells.lookup x=some c->c≠a)/\∀p∈X.pn,p.1≠a
abbrev X1:=St->Value->Hp->Prop
def bV(X:Cx)(E1:X1):Prop:=∀(pins:List (Addr×Obj)) (σ:St) (H:Hp) (s:Shared) (a C:Addr) (tr:Option Addr),qt X pins σ H s->ab4 X.s₀.heap s.heap H a C tr->vL X a->(∀T,tr=some T->vL X T)->E1 σ (.ref C) H->X.xe (.ref a) s
section
variable {T:Addr}{tr:Option Addr}{E1:X1}
theorem qt.apart(I:qt X pins σ H s)(h:s.heap.get? b=none):vL X b:=by
 refine⟨fun e=>?_,fun x c e z=>?_,fun p hp z=>?_⟩
 ·obtain⟨m,⟨o,_,_,ho,_⟩,_⟩:=I.loc;rw[<-e,h] at ho;cases ho
 ·obtain⟨v,o,ho,_⟩:=I.cell x c e;rw[z,h] at ho;cases ho
 ·obtain⟨e,_⟩:=I.pin p (AF _ hp);rw[z,h] at e;cases e
theorem qt.news(I:qt X pins σ H s)(hx:X.ex=[])(h:s.heap.get? b=none):X.s₀.heap.get? b=none:=by
 cases q:X.s₀.heap.get? b with
 |none=>rfl
 |some o=>
  obtain⟨o',e⟩:=I.base.there b o q (by rw[hx];simp);rw[h] at e;cases e
theorem bV.pass(t:bV X E1)(hx:X.ex=[]){e:Value}(I:qt X pins σ H s)(h:vT X.prog X.w X.stack H s (fun c _ H'=>E1 σ c H') e s'):X.xe e s':=by obtain⟨a,C,T,H',rfl,ho,hg,u,hok,⟨new,free,oe,vs,a0,he,hc,hd,h0,h1,nT,fT,rest⟩,q,htk⟩:=h;have I':qt X pins σ H' s':=I.call' (ch:=[]) ho u hok hg (fun b z=>absurd z (by simp));exact t pins σ H' s' a C (some T) I' ⟨I.news hx new,free,oe,vs,a0,he,hc,hd,h0,h1,I.news hx nT,fT,rest⟩ (I.apart new) (fun T' e=>by cases e;exact I.apart nT) q
theorem acp{k:Nat}{Q:VK}{vs:List V}(F:aB X.prog X.w X.K X.mg X.base (vT X.prog X.w) k f fd ps sp)(hr:v8 k X.A)(hb:vo X.K fd ps [])(ht:bV X E1)(hx:X.ex=[])
 (I:qt X pins σ H s) (r:zh vs us) (h:sp vs H Q (fun c _ H'=>E1 σ c H')):wpAny (model X.prog X.w) X.A (call (.ref f) us) (EP X pins σ Q) X.xe s:=by
 have hl:(us++[]).length=ps.length:=by rw[AL,<-r.length];exact F.len _ _ _ _ h
 refine wpAny_call (codeAny_mono (F.run X.A X.stack s H ⟨us,[]⟩ us vs Q _ hr I.env0 (by have:=hb s us I.kIn hl;rw[AL] at this;exact this) r h) fun r s' hq=>?_);cases r with
 |error e=>exact ht.pass hx I hq
 |ok fl=>
  cases fl with|ret u=>exact I.after hq|next=>exact False.elim hq|brk=>exact False.elim hq|cont=>exact False.elim hq
end
def ai5(sp:Sp)(E1:X1)(t:TA):TE:=fun σ H Q=>t σ H fun vs H1=>sp vs H1 Q fun c _ H'=>E1 σ c H'
section
variable {k:Nat}{E1:X1} 
theorem zF(F:aB X.prog X.w X.K X.mg X.base (vT X.prog X.w) k f fd ps sp)(hr:v8 k X.A)(hg:Gl X x)(hm:X.mg x=some (.ref f))(hk:PySem.W.keepIn X.K (.ref f)=true)(hb:vo X.K fd ps [])(ht:bV X E1)(hx:X.ex=[])
 (ha:PA X (e::es) t) (hdb:Dx x:=by decide) (he:Dv e es X:=by rfl) (hpl:Dw pos es X:=by rfl):
 PE X (.Call (.Name x p) (e::es) [] pos) (ai5 sp E1 t):=by
 intro pins s σ H Q I h;refine wpAny_Call_Name_kw (eU I hg hm ?_ hdb);refine Cf (h₀:=X.base) I.ok.mod.kin hk (xc (ha pos pins s σ H _ I h) fun us s1 ⟨vs,H1,I1,r,q⟩=>⟨I1.kIn,?_⟩) he hpl;exact acp F hr hb ht hx I1 r q
end
theorem wR{P:Program}{w:World}{K:Ac}{N:List Str}{E:XK}:
 bV (cW (vT P w) P w K mg base N qual scope f cd A outer s H E) fun _ c H'=>E c none H':=by
 intro pins σ H' s' a C tr I L _ _ q;refine xR (X:=cW (vT P w) P w K mg base N qual scope f cd A outer s H E) I rfl rfl rfl L fun h' T u hok L'=>?_;exact⟨a,C,T,H',rfl,I.os,I.bare,u,hok,L',q,I.tk⟩
structure yg(K:Ac)(C:Addr):Prop where
 ex:∃(nm q:Str) (N:Addr) (bs bm:List Value) (hdct:Bool) (sn:List Str) (sub:List Value) (ab:Bool) (col:Option Bool) (dd:Option Addr) (k0 k1 k2 k3 k5:Option Value) (B Bn newId nid initId inN:String) (bmB bmN:List Value),
  ExcBaseFacts Bn newId inN bmN/\bmB.contains (.type Bn)=true/\ExcBaseFacts B nid initId bmB/\
  ∀h,K.In h->h.get? C=some (excClassObj nm q C N bs bm hdct sn sub ab col dd k0 k1 k2 k3 k5 newId)/\(∃mN,h.Ns N mN/\mN "__init__" = none)/\OwnTail h bmB bm
theorem abw{K:Ac}{bmB bmN:List Value}{B Bn newId nid initId inN:String}(q:PySem.W.excIn K C bmB newId=true)(Fn:ExcBaseFacts Bn newId inN bmN)(hBn:bmB.contains (.type Bn)=true)(F:ExcBaseFacts B nid initId bmB):yg K C:=by
 unfold PySem.W.excIn at q;split at q
 ·rename_i dd cd sl ho;split at q
  ·rename_i C' bm k0 k1 k2 k3 n k5 hm hs;simp only[AV,beq_iff_eq,CZ] at q;obtain⟨⟨⟨⟨⟨rfl,rfl⟩,hdel⟩,ht⟩,hok⟩,hni⟩:=q;obtain⟨nm,bs,mro,ns,qn,hd,sn,sub,ab,col,del⟩:=cd;dsimp only at hm hdel hok hni;subst hm hdel;have hsl:sl=#[k0,k1,k2,k3,some (.builtin n),k5]:=by obtain⟨l⟩:=sl;simp only at hs;rw[hs]
   subst hsl;exact⟨nm,qn,ns,bs,bm,hd,sn,sub,ab,col,dd,k0,k1,k2,k3,k5,B,Bn,n,nid,initId,inN,bmB,bmN,Fn,hBn,F,fun h X=>⟨X _ _ ho,⟨_,.of_isNs (PySem.W.isNs_of_in X hok),PySem.W.nsMap_none_of_in X hok hni⟩,PySem.W.tail_of_in X ht⟩⟩
  ·cases q
 ·cases q
def aez(C:Addr)(E1:X1)(t:TA):TS:=fun _ σ H=>t σ H fun vs H1=>vs.length≤sizeLine/\E1 σ (.ref C) H1
theorem yF{E1:X1}{np:Pos}(c:yg X.K C)(hg:Gl X x)(hm:X.mg x=some (.ref C))(hc:X.calm=true)(ht:bV X E1)(hx:X.ex=[])(ha:PA X (e::es) t)(hdb:Dx x:=by decide)
 (he:Dv e es X:=by rfl) (hpl:Dw cpos es X:=by rfl):
 PS X (.Raise (some (.Call (.Name x np) (e::es) [] cpos)) none pos) (aez C E1 t):=by
 intro pins s σ H D I h;obtain⟨nm,q,N,bs,bm,hdct,sn,sub,ab,col,dd,k0,k1,k2,k3,k5,B,Bn,newId,nid,initId,inN,bmB,bmN,Fn,hBn,F,all⟩:=c.ex;obtain⟨_,⟨mN,hn,hni⟩,ow⟩:=all X.base I.ok.mod.kin;refine wpAny_Raise_call_subU (C:=C) (nm:=nm) (q:=q) (N:=N) (bs:=bs) (bm:=bm) (hdct:=hdct) (sn:=sn) (sub:=sub) (ab:=ab) (col:=col) (dd:=dd) (k0:=k0) (k1:=k1) (k2:=k2) (k3:=k3) (k5:=k5) Fn hBn F (mN:=mN) (ow.hasType F.hasBase) (I.ok.hd hc)
  (by rw[he];show(false||(backTo cpos (starEach es X.env)).any (·.1))=false;rw[hpl];rfl) hni (eU I hg hm ⟨rfl,?_⟩ hdb)
 rw[he];have ha':=ha cpos pins s σ H _ I h;rw[he] at ha';refine Calls.evalArgs_plain (xc ha' fun us s2 ⟨vs,H1,I1,r,hl,q1⟩=>⟨rfl,by rw[<-r.length];exact hl,(all _ I1.kIn).1,hn.keeps I1.bk,(all _ I1.kIn).2.2,fun h' a hm=>?_⟩);obtain⟨t0,e1,_,_⟩:=hm.there;have I2:qt X pins σ H1 { s2 with heap:=h' }:=I1.kept (t':=s2.toks) hm.keeps;have fr:H1 a=none:=by
  cases z:H1 a with
  |none=>rfl
  |some u=>
   obtain⟨o,eo⟩:=(I1.hok a u z).get;rw[hm.new] at eo;cases eo
 exact ht pins σ H1 _ a C none I2 ⟨I1.news hx hm.new,fr,_,_,.ref t0,e1,rfl,rfl,rfl,rfl⟩ (I1.apart hm.new) (fun T z=>nomatch z) q1
end L2
variable {E1:L2.X1}
namespace L2
open PySem PySem.Spec PyProof.Rows
section
variable {T:Addr}{tr:Option Addr} 
end
section
variable {T:Addr}
end
open PySem PySem.Spec PyProof.Rows PySem.W
open Builtin.ObjectAttr in
section
variable {w:World}{K:Frag} 
open Builtin Builtin.ObjectAttr Builtin.Getset_descriptor in
end
def ak6(K:Ac)(H:Hp)(a C:Addr):Prop:=∃oe,H a=some (.frz oe (.own 0))/\oe.cls=.ref C
def ye(H:Hp)(P:Addr)(q:Str):Prop:=∃ps,H P=some (.tbl ps)/\TriplesOk ps.toList/\∀pos cv,codeAmong pos ps.toList=some cv->∃c' oc vs t,cv=.ref c'/\H c'=some (.frz oc (.own 0))/\oc.data=.fields vs/\vs[1]?=some (.str q t)
theorem ye.keep{P:Addr}{q:Str}(h:ye H P q)(e:H' P=H P)(t:∀b o u,H b=some (.frz o u)->H' b=some (.frz o u)):ye H' P q:=by obtain⟨ps,h1,h2,h3⟩:=h;refine⟨ps,e.trans h1,h2,fun pos cv z=>?_⟩;obtain⟨c',oc,vs,tt,e1,e2,e3⟩:=h3 pos cv z;exact⟨c',oc,vs,tt,e1,t _ _ _ e2,e3⟩
end L2
namespace L3
open PySem L2
inductive Y where
 |non | bl (b:Bool) | int (i:Int) | str (x:Str) | ref (a:Addr) | ty (n:String) | cd (kvs:List (Str×Str)) | tup (ys:List Y) | sq (ys:List Y)
inductive LO where
 |lst (ys:List Y) | dct (kvs:List (jc×Y)) | ins (C:Addr) (fs:List (Str×Y)) | exc (C:Addr) | tb (q:Str)
abbrev qo:=Addr->Option LO
def qd(L:qo)(a:Addr)(o:LO):qo:=fun b=>if b=a then some o else L b
theorem q8{L:qo}{o:LO}:qd L a o a=some o:=by unfold qd;rw[Av rfl]
theorem qe{L:qo}{o:LO}(h:b≠a):qd L a o b=L b:=by unfold qd;rw[As h]
theorem zm{L:qo}{o u:LO}:qd (qd L a o) a u=qd L a u:=by funext b;unfold qd;split<;>rfl
theorem ki{L:qo}{o:LO}(h:L a=some o)(h':L b=none):a≠b:=by intro e;subst e;rw[h] at h';cases h'
theorem aa2{L:qo}{o u:LO}(h:L a=some o)(h':L b=some u)(d:o≠u):a≠b:=by intro e;subst e;rw[h] at h';exact d (AK h')
structure G3 where
 K:Ac
 P:Program
 w:World
abbrev _root_.L2.Cx.g3(X:Cx):G3:=⟨X.K,X.prog,X.w⟩
def SqF(K:Ac)(H:Hp)(a:Addr)(xs:List V):Prop:=(∃o,H a=some (.frz o (.lst xs)))\/
 ∃(o:Obj) (its:Array Value) (n:Nat),K.lookup a=some o/\o.cls=.type "list" /\ o.dict=none/\o.data=.seq its n/\its.size≤sizeLine/\zh xs its.toList
theorem SqF.sq{K:Ac}(h:SqF K H a xs):aG K H a xs:=by
 rcases h with⟨o,h⟩ | h
 ·exact .inl (.inr ⟨o,h⟩)
 ·exact .inr h
mutual
def RV(G:G3)(H:Hp):Y->V->Prop
 |.non,v=>v=.non
 |.bl b,v=>v=.bl b
 |.int i,v=>v=.int i
 |.str x,v=>v=.str x
 |.ref a,v=>v=.ref a
 |.ty n,v=>v=.ty n
 |.cd kvs,v=>∃a,v=.ref a/\KD G.K G.P G.w a (kvs.map fun p=>(Sum.inr p.1,V.str p.2))
 |.tup ys,v=>∃a xs,v=.ref a/\fU G.K H a xs/\xz G H ys xs
 |.sq ys,v=>∃a xs,v=.ref a/\SqF G.K H a xs/\xz G H ys xs
def xz(G:G3)(H:Hp):List Y->List V->Prop
 |[],xs=>xs=[]
 |y::ys,xs=>∃x xs',xs=x::xs'/\RV G H y x/\xz G H ys xs'
end
def Imm:HO->Bool
 |.tup _=>true
 |.frz _ _=>true
 |_=>false
def j3(H H':Hp):Prop:=∀a u,Imm u=true->H a=some u->H' a=some u
theorem j3.refl(H:Hp):j3 H H:=fun _ _ _ h=>h
abbrev DB:=@j3.refl
theorem j3.trans{H1 H2:Hp}(a:j3 H H1)(b:j3 H1 H2):j3 H H2:=fun c u i h=>b c u i (a c u i h)
theorem j3.new{p:Addr}{o:HO}(h:H p=none):j3 H (upd H p o):=fun _ _ _ q=>by rw[z7 (j8 q h)];exact q
abbrev DD:=@j3.new
theorem j3.lst{p:Addr}{o:HO}(h:H p=some (.lst zs)):j3 H (upd H p o):=fun a u i q=>by rw[z7 ?_];exact q;rintro rfl;rw[h] at q;cases q;cases i
theorem fU.ts{K:Ac}(h:fU K H a xs)(t:j3 H H'):fU K H' a xs:=by
 rcases h with(h | ⟨o,h⟩) | h
 ·exact .inl (.inl (t _ _ rfl h))
 ·exact .inl (.inr ⟨o,t _ _ rfl h⟩)
 ·exact .inr h
theorem SqF.ts{K:Ac}(h:SqF K H a xs)(t:j3 H H'):SqF K H' a xs:=by
 rcases h with⟨o,h⟩ | h
 ·exact .inl ⟨o,t _ _ rfl h⟩
 ·exact .inr h
mutual
theorem RV.ts{G:G3}{H H':Hp}(t:j3 H H'):∀{y:Y} {v:V},RV G H y v->RV G H' y v
 |.non,_,h=>h
 |.bl _,_,h=>h
 |.int _,_,h=>h
 |.str _,_,h=>h
 |.ref _,_,h=>h
 |.ty _,_,h=>h
 |.cd _,_,h=>h
 |.tup _,_,⟨a,xs,e,s,r⟩=>⟨a,xs,e,fU.ts s t,xz.ts t r⟩
 |.sq _,_,⟨a,xs,e,s,r⟩=>⟨a,xs,e,s.ts t,xz.ts t r⟩
theorem xz.ts{G:G3}{H H':Hp}(t:j3 H H'):∀{ys:List Y} {xs:List V},xz G H ys xs->xz G H' ys xs
 |[],_,h=>h
 |_::_,_,⟨x,xs',e,r,s⟩=>⟨x,xs',e,RV.ts t r,xz.ts t s⟩
end
theorem xz.length{G:G3}{H:Hp}:∀{ys:List Y} {xs:List V},xz G H ys xs->ys.length=xs.length
 |[],_,h=>by cases h;rfl
 |_::_,_,⟨x,xs',e,_,s⟩=>by subst e;simp[xz.length s]
theorem xz.get{G:G3}{H:Hp}:∀{ys:List Y} {xs:List V} {i:Nat} {y:Y},xz G H ys xs->ys[i]?=some y->∃x,xs[i]?=some x/\RV G H y x
 |[],_,_,_,_,h=>by simp at h
 |_::_,_,0,_,⟨x,xs',e,r,_⟩,h=>by subst e;simp at h;subst h;exact⟨x,rfl,r⟩
 |_::_,_,i+1,_,⟨x,xs',e,_,s⟩,h=>by subst e;obtain⟨x',q,r⟩:=xz.get (i:=i) s (by simpa using h);exact⟨x',by simpa using q,r⟩
theorem xz.app{G:G3}{H:Hp}:∀{ys zs:List Y} {xs us:List V},xz G H ys xs->xz G H zs us->xz G H (ys++zs) (xs++us)
 |[],_,_,_,h,q=>by cases h;exact q
 |_::_,_,_,_,⟨x,xs',e,r,s⟩,q=>by subst e;exact⟨x,xs'++_,rfl,r,xz.app s q⟩
theorem xz.one{G:G3}{y:Y}{x:V}(r:RV G H y x):xz G H [y] [x]:=⟨x,[],rfl,r,rfl⟩
theorem xz.take{G:G3}{H:Hp}:∀{ys:List Y} {xs:List V} (n:Nat),xz G H ys xs->xz G H (ys.take n) (xs.take n)
 |[],_,n,h=>by cases h;simp[xz]
 |_::_,_,0,_=>by simp[xz]
 |_::_,_,n+1,⟨x,xs',e,r,s⟩=>by subst e;exact⟨x,xs'.take n,rfl,r,xz.take n s⟩
theorem xz.drop{G:G3}{H:Hp}:∀{ys:List Y} {xs:List V} (n:Nat),xz G H ys xs->xz G H (ys.drop n) (xs.drop n)
 |[],_,n,h=>by cases h;simp[xz]
 |_::_,_,0,h=>h
 |_::_,_,n+1,⟨x,xs',e,r,s⟩=>by subst e;exact xz.drop n s
theorem xz.setY{G:G3}{H:Hp}{y:Y}{x:V}(r:RV G H y x):∀{ys:List Y} {xs:List V} (i:Nat),xz G H ys xs->xz G H (ys.set i y) (xs.set i x)
 |[],_,_,h=>by cases h;simp[xz]
 |_::_,_,0,⟨x',xs',e,_,s⟩=>by subst e;exact⟨x,xs',rfl,r,s⟩
 |_::_,_,i+1,⟨x',xs',e,q,s⟩=>by subst e;exact⟨x',xs'.set i x,rfl,q,xz.setY r i s⟩
def RO(G:G3)(H:Hp)(a:Addr):LO->Prop
 |.lst ys=>∃xs,H a=some (.lst xs)/\xz G H ys xs
 |.dct kvs=>∃xs,H a=some (.dK xs)/\Paired (fun(p:jc×Y) (q:jc×V)=>p.1=q.1/\RV G H p.2 q.2) kvs xs
 |.ins C fs=>∃dx xs,H a=some (.ins C dx xs)/\Paired (fun(p:Str×Y) (q:Str×V)=>p.1=q.1/\RV G H p.2 q.2) fs xs
 |.exc C=>ak6 G.K H a C
 |.tb q=>ye H a q
def j7(G:G3)(H:Hp)(L:qo):Prop:=∀a o,L a=some o->RO G H a o
theorem RO.ex{G:G3} :∀{o:LO},RO G H a o->∃u,H a=some u
 |.lst _,⟨_,h,_⟩=>⟨_,h⟩
 |.dct _,⟨_,h,_⟩=>⟨_,h⟩
 |.ins _ _,⟨_,_,h,_⟩=>⟨_,h⟩
 |.exc _,⟨_,h,_⟩=>⟨_,h⟩
 |.tb _,⟨_,h,_⟩=>⟨_,h⟩
theorem j7.none{G:G3}{L:qo}(h:j7 G H L){p:Addr}(hp:H p=none):L p=none:=by cases e:L p with|none=>rfl|some o=>obtain⟨u,q⟩:=(h p o e).ex;rw[hp] at q;cases q
theorem RO.keep{G:G3}(t:j3 H H')(e:H' a=H a):∀{o:LO},RO G H a o->RO G H' a o
 |.lst _,⟨xs,h,r⟩=>⟨xs,e.trans h,r.ts t⟩
 |.dct _,⟨xs,h,r⟩=>⟨xs,e.trans h,DF r fun _ _ ⟨a,b⟩=>⟨a,b.ts t⟩⟩
 |.ins _ _,⟨dx,xs,h,r⟩=>⟨dx,xs,e.trans h,DF r fun _ _ ⟨a,b⟩=>⟨a,b.ts t⟩⟩
 |.exc _,⟨o,h,c⟩=>⟨o,e.trans h,c⟩
 |.tb _,h=>ye.keep h e fun b o u z=>t b _ rfl z
theorem j7.skip{G:G3}{L:qo}(h:j7 G H L){p:Addr}{o:HO}(hp:H p=.none):j7 G (upd H p o) L:=fun a u e=>by obtain⟨x,q⟩:=(h a u e).ex;exact(h a u e).keep (DD hp) (z7 (j8 q hp))
theorem j7.newL{G:G3}{L:qo}(h:j7 G H L){p:Addr}{ys:List Y}(hp:H p=.none)(r:xz G H ys xs):j7 G (upd H p (.lst xs)) (qd L p (.lst ys)):=fun a u e=>by
 by_cases c:a=p
 ·subst c;rw[q8] at e;cases e;exact⟨xs,xk,r.ts (DD hp)⟩
 ·rw[qe c] at e;exact(h a u e).keep (DD hp) (z7 c)
theorem j7.setL{G:G3}{L:qo}(h:j7 G H L){p:Addr}{ys:List Y}(hp:H p=some (.lst zs))(r:xz G H ys xs):j7 G (upd H p (.lst xs)) (qd L p (.lst ys)):=fun a u e=>by
 by_cases c:a=p
 ·subst c;rw[q8] at e;cases e;exact⟨xs,xk,r.ts (j3.lst hp)⟩
 ·rw[qe c] at e;exact(h a u e).keep (j3.lst hp) (z7 c)
def qf(L L':qo):Prop:=∀a o,L a=some o->L' a=some o
theorem qf.refl(L:qo):qf L L:=fun _ _ h=>h
abbrev DA:=@qf.refl
theorem qf.trans{L L1 L2:qo}(a:qf L L1)(b:qf L1 L2):qf L L2:=fun c o h=>b c o (a c o h)
theorem qf.new{L:qo}{p:Addr}{o:LO}(h:L p=none):qf L (qd L p o):=fun a u e=>by rw[qe (ki e h)];exact e
abbrev By:=@qf.new
theorem j7.sub{G:G3}{L L':qo}(h:j7 G H L')(s:qf L L'):j7 G H L:=fun a o e=>h a o (s a o e)
abbrev jb:=List (Option Y)
structure ve(G:G3)(H:Hp)(σ:St)(τ:jb):Prop where
 len:σ.length=τ.length
 get:∀(i:Nat) y,τ[i]?=some (some y)->∃v,σ[i]?=some (some v)/\RV G H y v
theorem ve.ts{G:G3}{τ:jb}(h:ve G H σ τ)(t:j3 H H'):ve G H' σ τ:=
 ⟨h.len,fun i y e=>let ⟨v,a,b⟩:=h.get i y e;⟨v,a,b.ts t⟩⟩
theorem ve.set{G:G3}{τ:jb}(h:ve G H σ τ){y:Y}(r:RV G H y v):ve G H (σ.set i (some v)) (τ.set i (some y)):=by
 refine⟨by simp[h.len],fun j z e=>?_⟩;by_cases c:i=j
 ·subst c;have hi:i<τ.length:=by
   by_cases q:i<τ.length
   ·exact q
   ·rw[Co (by simp;omega)] at e;cases e
  rw[BQ hi] at e;cases e;exact⟨v,BQ (by rw[h.len];exact hi),r⟩
 ·rw[A3 c] at e ⊢;exact h.get j z e
theorem ve.more{G:G3}{τ:jb}(h:ve G H σ τ)(n:Nat):ve G H (σ++List.replicate n none) (τ++List.replicate n none):=by
 refine⟨by simp[h.len],fun j z e=>?_⟩;by_cases c:j<τ.length
 ·rw[AO c] at e;rw[AO (by rw[h.len];exact c)];exact h.get j z e
 ·rw[Au (by omega),BN] at e;split at e<;>cases e
def yH:jb->Nat->Option Y
 |[],_=>none
 |o::_,0=>o
 |_::r,i+1=>yH r i
theorem mW:∀(τ:jb) (i:Nat) {y:Y},yH τ i=some y->τ[i]?=some (some y)
 |[],_,_,h=>by cases h
 |o::_,0,_,h=>by simp[yH] at h;simp[h]
 |_::r,i+1,_,h=>by simp only[Cg];exact mW r i h
abbrev YK:=Y->qo->Prop
abbrev jz:=jb->qo->YK->Prop
abbrev i9:=jb->qo->(Bool->qo->Prop)->Prop
abbrev cN:=jb->qo->(List Y->qo->Prop)->Prop
structure v7 where
 nx:jb->qo->Prop
 rt:YK
 bk:jb->qo->Prop:=fun _ _=>False
 ct:jb->qo->Prop:=fun _ _=>False
abbrev k6:=v7->jb->qo->Prop
abbrev kE:=Y->jb->qo->(jb->qo->Prop)->Prop
abbrev uS:=List Y->jb->qo->(jb->qo->Prop)->Prop
abbrev TI3:=jb->qo->(List Y->(qo->Prop)->qo->Prop)->Prop
abbrev iL:=Y->Y->qo->YK->Prop
def tM(G:G3)(H:Hp)(Q3:YK)(Q:VK):Prop:=∀v H' y L',j3 H H'->j7 G H' L'->RV G H' y v->Q3 y L'->Q v H'
def adm(G:G3)(H:Hp)(Q3:Bool->qo->Prop)(Q:Bool->Hp->Prop):Prop:=∀b H' L',j3 H H'->j7 G H' L'->Q3 b L'->Q b H'
def an4(G:G3)(H:Hp)(Q3:List Y->qo->Prop)(Q:List V->Hp->Prop):Prop:=∀vs H' ys L',j3 H H'->j7 G H' L'->xz G H' ys vs->Q3 ys L'->Q vs H'
def kY(G:G3)(H:Hp)(Q3:jb->qo->Prop)(Q:St->Hp->Prop):Prop:=∀σ H' τ L',j3 H H'->ve G H' σ τ->j7 G H' L'->Q3 τ L'->Q σ H'
theorem tM.ts{G:G3}{Q3:YK}{Q:VK}(h:tM G H Q3 Q)(t:j3 H H'):tM G H' Q3 Q:=fun v H2 y L' t2=>h v H2 y L' (t.trans t2)
theorem adm.ts{G:G3}{Q3:Bool->qo->Prop}{Q:Bool->Hp->Prop}(h:adm G H Q3 Q)(t:j3 H H'):adm G H' Q3 Q:=fun v H2 L' t2=>h v H2 L' (t.trans t2)
theorem kY.ts{G:G3}{Q3:jb->qo->Prop}{Q:St->Hp->Prop}(h:kY G H Q3 Q)(t:j3 H H'):kY G H' Q3 Q:=fun v H2 y L' t2=>h v H2 y L' (t.trans t2)
structure ab8(G:G3)(H:Hp)(D3:v7)(D:qC):Prop where
 nx:kY G H D3.nx D.nx
 rt:tM G H D3.rt D.rt
 bk:kY G H D3.bk D.bk
 ct:kY G H D3.ct D.ct
theorem ab8.ts{G:G3}{D3:v7}{D:qC}(h:ab8 G H D3 D)(t:j3 H H'):ab8 G H' D3 D:=⟨h.nx.ts t,h.rt.ts t,h.bk.ts t,h.ct.ts t⟩
def n8(G:G3)(t:jz):TE:=fun σ H Q=>∃τ L Q3,ve G H σ τ/\j7 G H L/\t τ L Q3/\tM G H Q3 Q
def upT(G:G3)(t:i9):TT:=fun σ H Q=>∃τ L Q3,ve G H σ τ/\j7 G H L/\t τ L Q3/\adm G H Q3 Q
def upA(G:G3)(t:cN):TA:=fun σ H Q=>∃τ L Q3,ve G H σ τ/\j7 G H L/\t τ L Q3/\an4 G H Q3 Q
def upS(G:G3)(t:k6):L2.TS:=fun D σ H=>∃τ L D3,ve G H σ τ/\j7 G H L/\t D3 τ L/\ab8 G H D3 D
def upG(G:G3)(g:kE):TG:=fun v σ H Q=>∃y τ L Q3,RV G H y v/\ve G H σ τ/\j7 G H L/\g y τ L Q3/\kY G H Q3 Q
def anw(G:G3)(g:uS):TGs:=fun vs σ H Q=>∃ys τ L Q3,xz G H ys vs/\ve G H σ τ/\j7 G H L/\g ys τ L Q3/\kY G H Q3 Q
structure nJ(G:G3)(H₀:Hp)(J:It)(ys:List Y)(keep:qo->Prop):Prop where
 go:∀i H L,j3 H₀ H->j7 G H L->keep L->i<ys.length->J.go i H
 yld:∀i H L x H' y,j3 H₀ H->j7 G H L->keep L->ys[i]?=some y->J.yld i H x H'->j3 H H'/\j7 G H' L/\RV G H' y x
 stop:∀H L,j3 H₀ H->j7 G H L->keep L->J.stop ys.length H
def upI(G:G3)(wi:TI3):TI:=fun σ H R=>∃τ L R3,ve G H σ τ/\j7 G H L/\wi τ L R3/\∀J H' ys keep L',j3 H H'->j7 G H' L'->nJ G H' J ys keep->R3 ys keep L'->R J H'
def dP(G:G3)(r3:iL):R2:=fun x y H Q=>∃x3 y3 L Q3,RV G H x3 x/\RV G H y3 y/\j7 G H L/\r3 x3 y3 L Q3/\tM G H Q3 Q
def upL(G:G3)(r3:List Y->qo->YK->Prop):List V->Hp->VK->Prop:=fun xs H Q=>∃ys L Q3,xz G H ys xs/\j7 G H L/\r3 ys L Q3/\tM G H Q3 Q
def upU(G:G3)(r3:Y->qo->YK->Prop):V->Hp->VK->Prop:=fun x H Q=>∃y L Q3,RV G H y x/\j7 G H L/\r3 y L Q3/\tM G H Q3 Q
theorem PE.imp{t u:TE}(h:PE X e t)(q:∀σ H Q,u σ H Q->t σ H Q):PE X e u:=fun pins s σ H Q I z=>h pins s σ H Q I (q σ H Q z)
abbrev DC:=@PE.imp
theorem PT.imp{t u:TT}(h:PT X e t)(q:∀σ H Q,u σ H Q->t σ H Q):PT X e u:=fun pins s σ H Q I z=>h pins s σ H Q I (q σ H Q z)
theorem PW.imp{t u:TT}(h:PW X e t)(q:∀σ H Q,u σ H Q->t σ H Q):PW X e u:=fun wh pins s σ H Q I z=>h wh pins s σ H Q I (q σ H Q z)
theorem PA.imp{e:List Expr}{u:TA}(h:PA X e t)(q:∀σ H Q,u σ H Q->t σ H Q):PA X e u:=fun pos pins s σ H Q I z=>h pos pins s σ H Q I (q σ H Q z)
theorem PS.imp{e:Stmt}{t u:L2.TS}(h:PS X e t)(q:∀D σ H,u D σ H->t D σ H):PS X e u:=fun pins s σ H Q I z=>h pins s σ H Q I (q _ σ H z)
abbrev DH:=@PS.imp
theorem mF.imp{e:List Stmt}{t u:L2.TS}(h:mF X e t)(q:∀D σ H,u D σ H->t D σ H):mF X e u:=fun pins s σ H Q I z=>h pins s σ H Q I (q _ σ H z)
theorem PF.imp{e:List Expr}{t u:TT}(h:PF X e t)(q:∀σ H Q,u σ H Q->t σ H Q):PF X e u:=fun pins s σ H Q I z=>h pins s σ H Q I (q σ H Q z)
end L3
variable {g:L3.kE}{y:L3.Y}{D:L3.v7}{ta tb te ti to tv:L3.jz}{ys:List L3.Y}{L L' L1:L3.qo}{G:L3.G3}{τ:L3.jb}{tr:L3.cN}{tA:L3.i9}
namespace L3
open PySem L2
def ku(b:Bool)(A B:Prop):Prop:=match b with
 |true=>A
 |false=>B
theorem dX{b:Bool}{A B:Prop}(e:b=true)(h:A):ku b A B:=by rw[e];exact h
theorem v5{b:Bool}{A B:Prop}(e:b=false)(h:B):ku b A B:=by rw[e];exact h
theorem aY{p:Prop} [Decidable p]{A B:Prop}(h:p->A)(k:¬p->B):ku (decide p) A B:=by
 by_cases c:p
 ·rw[Al c];exact h c
 ·rw[Am c];exact k c
def nb(neg b:Bool):Bool:=match neg with
 |true=>!b
 |false=>b
def qa(i:Nat)(τ:jb)(L:qo)(Q:YK):Prop:=match yH τ i with
 |some y=>Q y L
 |none=>False
def yC(y:Y)(_:jb)(L:qo)(Q:YK):Prop:=Q y L
def zg(r:iL)(ta tb:jz)(τ:jb)(L:qo)(Q:YK):Prop:=ta τ L fun x L1=>tb τ L1 fun y L2=>r x y L2 Q
def yUn(r:Y->qo->YK->Prop)(ta:jz)(τ:jb)(L:qo)(Q:YK):Prop:=ta τ L fun x L1=>r x L1 Q
def yI(C:Int->Int->Prop)(g:Int->Int->Y)(x y:Y)(L:qo)(Q:YK):Prop:=match x,y with
 |.int i,.int j=>C i j/\Q (g i j) L
 |_,_=>False
def yI0(g:Int->Int->Y)(x y:Y)(L:qo)(Q:YK):Prop:=match x,y with
 |.int i,.int j=>Q (g i j) L
 |_,_=>False
def aji(x:Y)(L:qo)(Q:YK):Prop:=match x with
 |.int i=>Q (.int (-i)) L
 |_=>False
def bS(L:qo):Y->Option (List Y)
 |.tup ys=>some ys
 |.sq ys=>some ys
 |.ref a=>match L a with
  |some (.lst ys)=>some ys
  |_=>none
 |_=>none
@[irreducible] def cT (L:qo) (a:Addr) (k:List Y->Prop):Prop:=match L a with
 |some (.lst ys)=>k ys
 |_=>False
theorem xr{k:List Y->Prop}(h:cT L a k):∃ys,L a=some (.lst ys)/\k ys:=by
 unfold cT at h;split at h
 ·rename_i ys e;exact⟨ys,e,h⟩
 ·exact h.elim
theorem z0{k:List Y->Prop}(e:L a=some (.lst ys))(h:k ys):cT L a k:=by unfold cT;rw[e];exact h
def hE(L:qo)(x:Y)(k:List Y->Prop):Prop:=match x with
 |.tup ys=>k ys
 |.sq ys=>k ys
 |.ref a=>cT L a k
 |_=>False
theorem z9(h:L a=some (.lst ys)):bS L (.ref a)=some ys:=by show(match L a with | some (.lst ys)=>some ys | _=>none)=some ys;rw[h]
theorem aD{x:Y}{k:List Y->Prop}(h:hE L x k):∃ys,bS L x=some ys/\k ys:=by
 cases x with
 |tup ys=>exact⟨ys,rfl,h⟩
 |sq ys=>exact⟨ys,rfl,h⟩
 |ref a=>obtain⟨ys,e,q⟩:=xr h;exact⟨ys,z9 e,q⟩
 |_=>exact h.elim
theorem lA(h:bS L (.ref a)=some ys):L a=some (.lst ys):=by
 have h':(match L a with | some (.lst ys)=>some ys | _=>none)=some ys:=h;split at h'
 ·rename_i e;cases h';exact e
 ·cases h'
theorem aas{x:Y}{k:List Y->Prop}(e:bS L x=some ys)(h:k ys):hE L x k:=by cases x with|tup zs=>cases e;exact h|sq zs=>cases e;exact h|ref a=>exact z0 (lA e) h|_=>cases e
theorem qg{k:List Y->Prop}(e:L a=some (.lst ys))(h:k ys):hE L (.ref a) k:=aas (z9 e) h
def jk(x y:Y)(L:qo)(Q:YK):Prop:=match x,y with
 |.int i,.int j=>Q (.int (i+j)) L
 |.str a,.str b=>a.length+b.length≤sizeLine/\Q (.str (a++b)) L
 |.ref a,.ref b=>∃ys zs,L a=some (.lst ys)/\L b=some (.lst zs)/\ys.length+zs.length≤sizeLine/\∀p,L p=none->Q (.ref p) (qd L p (.lst (ys++zs)))
 |_,_=>False
def ur(L:qo)(Q:α->qo->Prop):Option α->Prop
 |some v=>Q v L
 |none=>False
def wb(kvs:List (jc×Y))(k:jc):Option Y:=(kvs.find? fun p=>decide (p.1=k)).map (·.2)
@[irreducible] def m3 (L:qo) (a:Addr) (k:List (jc×Y)->Prop):Prop:=match L a with
 |some (.dct kvs)=>k kvs
 |_=>False
theorem cR{k:List (jc×Y)->Prop}(h:m3 L a k):∃kvs,L a=some (.dct kvs)/\k kvs:=by
 unfold m3 at h;split at h
 ·rename_i ys e;exact⟨ys,e,h⟩
 ·exact h.elim
theorem ae{k:List (jc×Y)->Prop}{kvs:List (jc×Y)}(e:L a=some (.dct kvs))(h:k kvs):m3 L a k:=by unfold m3;rw[e];exact h
def be(x y:Y)(L:qo)(Q:YK):Prop:=match x,y with
 |.str z,.int i=>z.length≤sizeLine/\ur L (fun c L=>Q (.str ⟨#[c]⟩) L) (bW z.cps.toList i)
 |.cd kvs,.str k=>ur L (fun s L=>Q (.str s) L) (kvs.lookup k)
 |.ref a,.str k=>m3 L a fun kvs=>ur L Q (wb kvs (.inr k))
 |x,.int i=>hE L x fun ys=>ur L Q (bW ys i)
 |_,_=>False
def kD(xs:List Y)(L:qo)(Q:YK):Prop:=match xs with
 |[.str z]=>z.length≤sizeLine/\Q (.int z.length) L
 |[x]=>hE L x fun ys=>Q (.int ys.length) L
 |_=>False
def ag2(xs:List Y)(L:qo)(Q:YK):Prop:=match xs with
 |[.int i,.int j]=>Q (.int (max i j)) L
 |_=>False
def af3(xs:List Y)(L:qo)(Q:YK):Prop:=match xs with
 |[.int i,.int j]=>Q (.int (min i j)) L
 |_=>False
inductive n6 where
 |non | bool | int | str | tuple | list | dict
def n6.nm:n6->String
 |.non => "NoneType"
 |.bool => "bool"
 |.int => "int"
 |.str => "str"
 |.tuple => "tuple"
 |.list => "list"
 |.dict => "dict"
def tyY(L:qo):Y->Option n6
 |.non=>some .non
 |.bl _=>some .bool
 |.int _=>some .int
 |.str _=>some .str
 |.tup _=>some .tuple
 |.sq _=>some .list
 |.ref a=>match L a with
  |some (.lst _)=>some .list
  |some (.dct _)=>some .dict
  |_=>none
 |_=>none
theorem tyL(h:L a=some (.lst ys)):tyY L (.ref a)=some .list:=by show(match L a with | some (.lst _)=>some n6.list | some (.dct _)=>some .dict | _=>none)=some .list;rw[h]
def wD:n6->n6->Bool
 |.bool,.int=>true
 |.bool,.bool=>true
 |.int,.int=>true
 |.str,.str=>true
 |.tuple,.tuple=>true
 |.list,.list=>true
 |.dict,.dict=>true
 |.non,.non=>true
 |_,_=>false
@[irreducible] def tyK (L:qo) (a:Addr) (k:n6->Prop):Prop:=match tyY L (.ref a) with
 |some T=>k T
 |none=>False
theorem ada{k:n6->Prop}(h:tyK L a k):∃T,tyY L (.ref a)=some T/\k T:=by
 unfold tyK at h;split at h
 ·rename_i T e;exact⟨T,e,h⟩
 ·exact h.elim
theorem mi{k:n6->Prop}(e:L a=some (.lst ys))(h:k .list):tyK L a k:=by unfold tyK;rw[tyL e];exact h
def ak3(L:qo)(x:Y)(k:n6->Prop):Prop:=match x with
 |.non=>k .non
 |.bl _=>k .bool
 |.int _=>k .int
 |.str _=>k .str
 |.tup _=>k .tuple
 |.sq _=>k .list
 |.ref a=>tyK L a k
 |_=>False
theorem yE{x:Y}{k:n6->Prop}(h:ak3 L x k):∃T,tyY L x=some T/\k T:=by cases x with|ref a=>exact ada h|ty n=>exact h.elim|cd k=>exact h.elim|_=>exact⟨_,rfl,h⟩
def dN(S:n6)(te:jz)(τ:jb)(L:qo)(Q:YK):Prop:=te τ L fun x L1=>ak3 L1 x fun T=>Q (.bl (wD T S)) L1
def ga:Y->Bool
 |.non=>true
 |.bl _=>true
 |.int _=>true
 |.str _=>true
 |_=>false
def gR:Y->V
 |.non=>.non
 |.bl b=>.bl b
 |.int i=>.int i
 |.str x=>.str x
 |_=>.ty "?"
theorem RV.flat :∀{y:Y} {v:V},ga y=true->RV G H y v->v=gR y
 |.non,_,_,h=>h
 |.bl _,_,_,h=>h
 |.int _,_,_,h=>h
 |.str _,_,_,h=>h
theorem fQ:∀{y:Y},ga y=true->aJ (gR y)=true
 |.non,_=>rfl
 |.bl _,_=>rfl
 |.int _,_=>rfl
 |.str _,_=>rfl
theorem xz.flat :∀{ys:List Y} {xs:List V},ys.all ga=true->xz G H ys xs->xs=ys.map gR
 |[],_,_,h=>h
 |y::ys,_,f,⟨x,xs',e,r,s⟩=>by rw[C2,AV] at f;rw[e,r.flat f.1,s.flat f.2];rfl
def pH:Y->Bool
 |.ref _=>true
 |.sq _=>true
 |_=>false
def xo(L:qo):Nat->Y->Da->Prop
 |0,y,d=>ga y=true/\d=.s (gR y)
 |n+1,y,d=>(ga y=true/\d=.s (gR y))\/(∃ys ds,y=.tup ys/\d=.tup ds/\Paired (xo L n) ys ds)\/(∃ys ds,pH y=true/\d=.lst ds/\bS L y=some ys/\Paired (xo L n) ys ds)
def ahi:Y->Bool
 |.ref _=>true
 |.tup _=>true
 |.sq _=>true
 |_=>false
def oV(neg:Bool)(x y:Y)(L:qo)(Q:YK):Prop:=match x,y with
 |.int i,.int j=>Q (.bl (nb neg (decide (i=j)))) L
 |.str i,.str j=>Q (.bl (nb neg (decide (i=j)))) L
 |.bl i,.bl j=>Q (.bl (nb neg (decide (i=j)))) L
 |x,y=>ahi x=true/\ahi y=true/\∃n m d e,n≤128/\xo L n x d/\xo L m y e/\Q (.bl (nb neg (Da.eq d e))) L
def kK(neg:Bool)(ta:jz)(τ:jb)(L:qo)(Q:YK):Prop:=ta τ L fun x L1=>match x with
 |.non=>Q (.bl (!neg)) L1
 |_=>Q (.bl neg) L1
def yB(t:jz)(τ:jb)(L:qo)(Q:Bool->qo->Prop):Prop:=t τ L fun x L1=>match x with
 |.bl c=>Q c L1
 |_=>False
def agx(t u:i9)(τ:jb)(L:qo)(Q:Bool->qo->Prop):Prop:=t τ L fun c L1=>ku c (u τ L1 Q) (Q false L1)
def mj(t u:i9)(τ:jb)(L:qo)(Q:Bool->qo->Prop):Prop:=t τ L fun c L1=>ku c (Q true L1) (u τ L1 Q)
def dY(t:i9)(τ:jb)(L:qo)(Q:Bool->qo->Prop):Prop:=t τ L fun c L1=>Q (!c) L1
def oX(ta tb:jz)(τ:jb)(L:qo)(Q:YK):Prop:=ta τ L fun x L1=>match x with
 |.bl c=>ku c (tb τ L1 Q) (Q (.bl false) L1)
 |_=>False
def adv(ta:jz)(τ:jb)(L:qo)(Q:YK):Prop:=ta τ L fun x L1=>match x with
 |.bl c=>Q (.bl (!c)) L1
 |_=>False
def yIf(t:i9)(ta tb:jz)(τ:jb)(L:qo)(Q:YK):Prop:=t τ L fun c L1=>ku c (ta τ L1 Q) (tb τ L1 Q)
def zj(_:jb)(L:qo)(Q:List Y->qo->Prop):Prop:=Q [] L
def qj(ta:jz)(tr:cN)(τ:jb)(L:qo)(Q:List Y->qo->Prop):Prop:=ta τ L fun x L1=>tr τ L1 fun xs L2=>Q (x::xs) L2
def da(t:cN)(τ:jb)(L:qo)(Q:YK):Prop:=t τ L fun ys L1=>match Nat.ble ys.length 1000 with
 |true=>Q (.tup ys) L1
 |false=>False
def vj(t:cN)(τ:jb)(L:qo)(Q:YK):Prop:=t τ L fun ys L1=>match Nat.ble ys.length 1000 with
 |true=>∀p,L1 p=none->Q (.ref p) (qd L1 p (.lst ys))
 |false=>False
def lZ(r:List Y->qo->YK->Prop)(t:cN)(τ:jb)(L:qo)(Q:YK):Prop:=t τ L fun vs L1=>r vs L1 Q
abbrev TO3:=jb->qo->(Option Int->qo->Prop)->Prop
def w9(_:jb)(L:qo)(Q:Option Int->qo->Prop):Prop:=Q none L
def bB(t:jz)(τ:jb)(L:qo)(Q:Option Int->qo->Prop):Prop:=t τ L fun x L1=>match x with
 |.int i=>Q (some i) L1
 |_=>False
def hV(xs:List Y)(lo hi:Option Int):List Y:=(xs.drop (HT.sIx xs.length 0 lo)).take (HT.sIx xs.length xs.length hi - HT.sIx xs.length 0 lo)
def ajc(x:Y)(lo hi:Option Int)(L:qo)(Q:YK):Prop:=match x with
 |.ref a=>cT L a fun ys=>∀p,L p=none->Q (.ref p) (qd L p (.lst (hV ys lo hi)))
 |.sq ys=>∀p,L p=none->Q (.ref p) (qd L p (.lst (hV ys lo hi)))
 |_=>False
def vH(r:Y->Option Int->Option Int->qo->YK->Prop)(te:jz)(tl th:TO3)(τ:jb)(L:qo)(Q:YK):Prop:=te τ L fun x L1=>tl τ L1 fun l L2=>th τ L2 fun u L3=>r x l u L3 Q
def qm(t u:k6)(D:v7)(τ:jb)(L:qo):Prop:=t { D with nx:=u D } τ L
def je(D:v7)(τ:jb)(L:qo):Prop:=D.nx τ L
def vq(te:jz)(D:v7)(τ:jb)(L:qo):Prop:=te τ L fun _ L1=>D.nx τ L1
def zr(te:jz)(D:v7)(τ:jb)(L:qo):Prop:=te τ L D.rt
def v4(c:i9)(t u:k6)(D:v7)(τ:jb)(L:qo):Prop:=c τ L fun b L1=>ku b (t D τ L1) (u D τ L1)
def z8(te:jz)(g:kE)(D:v7)(τ:jb)(L:qo):Prop:=te τ L fun x L1=>g x τ L1 D.nx
def cz:jb->Nat->Y->jb
 |[],_,_=>[]
 |_::r,0,y=>some y::r
 |o::r,i+1,y=>o::cz r i y
theorem wx:∀(τ:jb) (i:Nat) (y:Y),cz τ i y=τ.set i (some y)
 |[],_,_=>rfl
 |_::_,0,_=>rfl
 |o::r,i+1,y=>by rw[cz,wx r i y];rfl
def qb(i:Nat)(y:Y)(τ:jb)(L:qo)(Q:jb->qo->Prop):Prop:=Q (cz τ i y) L
def aF(ys:List Y)(τ:jb)(L:qo)(Q:jb->qo->Prop):Prop:=match ys with
 |[]=>Q τ L
 |_=>False
def zw(t:kE)(u:uS)(ys:List Y)(τ:jb)(L:qo)(Q:jb->qo->Prop):Prop:=match ys with
 |[]=>False
 |y::r=>t y τ L fun τ' L'=>u r τ' L' Q
def aK(n:Nat)(t:uS)(y:Y)(τ:jb)(L:qo)(Q:jb->qo->Prop):Prop:=match y with
 |.tup ys=>match ys.length==n with
  |true=>t ys τ L Q
  |false=>False
 |_=>False
def ah2(i j:Nat)(ta:cN)(D:v7)(τ:jb)(L:qo):Prop:=ta τ L fun vs L1=>match vs with
 |[v,w]=>D.nx (cz (cz τ i v) j w) L1
 |_=>False
def ipY(f:Int->Int->Int)(x y:Y)(L:qo)(Q:YK):Prop:=match x,y with
 |.int i,.int j=>Q (.int (f i j)) L
 |_,_=>False
def xS(i:Nat)(te:jz)(ti:iL)(D:v7)(τ:jb)(L:qo):Prop:=match yH τ i with
 |some x=>te τ L fun y L1=>ti x y L1 fun z L2=>D.nx (cz τ i z) L2
 |none=>False
def bT(W:α->qo->Prop)(x:α)(L:qo):Prop:=∃L',qf L' L/\W x L'
def nV(c:i9)(tb:k6)(D:v7)(τ:jb)(L:qo):Prop:=∃W:Nat->jb->qo->Prop,(∃m,W m τ L)/\∀m τ L,W m τ L->
 c τ L fun b L1=>ku b (∃N:jb->qo->Prop,(∀τ' L',N τ' L'->∃m',m'<m/\W m' τ' L')/\tb { D with nx:=bT N,ct:=bT N,bk:=D.nx } τ L1) (D.nx τ L1)
@[irreducible] def rM (ys:List Y) (keep:qo->Prop) (g:kE) (tb:k6) (D:v7) (τ:jb) (L1:qo):Prop:=∃W:Nat->jb->qo->Prop,W 0 τ L1/\(∀i τ L,W i τ L->keep L)/\
 (∀i y τ L,ys[i]?=some y->W i τ L->g y τ L fun τ2 L2=>tb { D with nx:=bT (W (i+1)),ct:=bT (W (i+1)),bk:=D.nx } τ2 L2)/\∀τ L,W ys.length τ L->D.nx τ L
theorem aN{keep:qo->Prop}{tb:k6}(h:∃W:Nat->jb->qo->Prop,W 0 τ L1/\(∀i τ L,W i τ L->keep L)/\
 (∀i y τ L,ys[i]?=some y->W i τ L->g y τ L fun τ2 L2=>tb { D with nx:=bT (W (i+1)),ct:=bT (W (i+1)),bk:=D.nx } τ2 L2)/\∀τ L,W ys.length τ L->D.nx τ L):rM ys keep g tb D τ L1:=by unfold rM;exact h
theorem wT{keep:qo->Prop}{tb:k6}(h:rM ys keep g tb D τ L1):∃W:Nat->jb->qo->Prop,W 0 τ L1/\(∀i τ L,W i τ L->keep L)/\
 (∀i y τ L,ys[i]?=some y->W i τ L->g y τ L fun τ2 L2=>tb { D with nx:=bT (W (i+1)),ct:=bT (W (i+1)),bk:=D.nx } τ2 L2)/\∀τ L,W ys.length τ L->D.nx τ L:=by unfold rM at h;exact h
def wt(wi:TI3)(g:kE)(tb:k6)(D:v7)(τ:jb)(L:qo):Prop:=wi τ L fun ys keep L1=>rM ys keep g tb D τ L1
@[irreducible] def qX (L:qo) (a:Addr) (R:List Y->(qo->Prop)->qo->Prop):Prop:=match L a with
 |some (.lst ys)=>R ys (fun L=>L a=some (.lst ys)) L
 |_=>False
theorem jo{R:List Y->(qo->Prop)->qo->Prop}(h:L a=some (.lst ys))(q:∀keep:qo->Prop,(∀L',L' a=L a->keep L')->R ys keep L):qX L a R:=by unfold qX;rw[h];exact q _ fun L' e'=>e'.trans h
theorem o3{R:List Y->(qo->Prop)->qo->Prop}(h:qX L a R):∃ys keep,bS L (.ref a)=some ys/\keep L/\(∀L',keep L'->bS L' (.ref a)=some ys)/\R ys keep L:=by
 unfold qX at h;split at h
 ·rename_i ys e;exact⟨ys,_,z9 e,e,fun L' e'=>z9 e',h⟩
 ·exact h.elim
def jq(tl:jz)(τ:jb)(L:qo)(R:List Y->(qo->Prop)->qo->Prop):Prop:=tl τ L fun x L1=>match x with
 |.ref a=>qX L1 a R
 |.sq ys=>R ys (fun _=>True) L1
 |_=>False
def wg(lo:Int)(n:Nat):List Y:=(List.range n).map fun k=>.int (lo+(k:Nat))
def cP(ta:cN)(τ:jb)(L:qo)(R:List Y->(qo->Prop)->qo->Prop):Prop:=ta τ L fun vs L1=>match vs with
 |[.int j]=>(-(2 ^ 62)≤j/\j<2 ^ 62)/\R (wg 0 j.toNat) (fun _=>True) L1
 |_=>False
def rJ(_:jb)(L:qo)(Q:Bool->qo->Prop):Prop:=Q true L
@[irreducible] def lcK (ys:List Y) (keep:qo->Prop) (n:Nat) (g:kE) (tc:i9) (te:jz) (τ:jb) (L1:qo) (Q:YK):Prop:=ys.length<sizeLine/\∃W:Nat->List Y->qo->Prop,W 0 [] L1/\(∀i zs L,W i zs L->keep L)/\
 (∀i y zs L,ys[i]?=some y->W i zs L->g y (τ++List.replicate n none) L fun τ2 L2=>tc τ2 L2 fun b L3=>ku b (te τ2 L3 fun z L4=>bT (W (i+1)) (zs++[z]) L4) (bT (W (i+1)) zs L3))/\
 ∀zs L,W ys.length zs L->∀p,L p=none->Q (.ref p) (qd L p (.lst zs))
theorem rE{keep:qo->Prop}{tc:i9}{Q:YK}(h:ys.length<sizeLine/\∃W:Nat->List Y->qo->Prop,W 0 [] L1/\(∀i zs L,W i zs L->keep L)/\
 (∀i y zs L,ys[i]?=some y->W i zs L->g y (τ++List.replicate n none) L fun τ2 L2=>tc τ2 L2 fun b L3=>ku b (te τ2 L3 fun z L4=>bT (W (i+1)) (zs++[z]) L4) (bT (W (i+1)) zs L3))/\
 ∀zs L,W ys.length zs L->∀p,L p=none->Q (.ref p) (qd L p (.lst zs))):lcK ys keep n g tc te τ L1 Q:=by unfold lcK;exact h
theorem aaz{keep:qo->Prop}{tc:i9}{Q:YK}(h:lcK ys keep n g tc te τ L1 Q):ys.length<sizeLine/\∃W:Nat->List Y->qo->Prop,W 0 [] L1/\(∀i zs L,W i zs L->keep L)/\
 (∀i y zs L,ys[i]?=some y->W i zs L->g y (τ++List.replicate n none) L fun τ2 L2=>tc τ2 L2 fun b L3=>ku b (te τ2 L3 fun z L4=>bT (W (i+1)) (zs++[z]) L4) (bT (W (i+1)) zs L3))/\
 ∀zs L,W ys.length zs L->∀p,L p=none->Q (.ref p) (qd L p (.lst zs)):=by unfold lcK at h;exact h
def oG(n:Nat)(wi:TI3)(g:kE)(tc:i9)(te:jz)(τ:jb)(L:qo)(Q:YK):Prop:=wi τ L fun ys keep L1=>lcK ys keep n g tc te τ L1 Q
abbrev j4:=List Y->qo->YK->Prop
def qz(sp:j4)(t:cN)(τ:jb)(L:qo)(Q:YK):Prop:=t τ L fun ys L1=>sp ys L1 Q
def xa(x:Y)(vs:List Y)(L:qo)(Q:YK):Prop:=match x,vs with
 |.ref a,[v]=>cT L a fun ys=>ys.length<sizeLine/\Q .non (qd L a (.lst (ys++[v])))
 |_,_=>False
def e9(x:Y)(vs:List Y)(L:qo)(Q:YK):Prop:=match x,vs with
 |.ref a,[.ref b]=>cT L a fun ys=>cT L b fun zs=>ys.length+zs.length≤sizeLine/\Q .non (qd L a (.lst (ys++zs)))
 |_,_=>False
section
theorem kg.imp{f:Value->Value->Sem Value}{r r':R2}(h:kg X f r)(q:∀x y H Q,r' x y H Q->r x y H Q):kg X f r':=fun pins s σ H x y v u Q I rx ry z=>h pins s σ H x y v u Q I rx ry (q x y H Q z)
abbrev DN:=@kg.imp
theorem UnR.imp{f:Value->Sem Value}{r r':V->Hp->VK->Prop}(h:UnR X f r)(q:∀x H Q,r' x H Q->r x H Q):UnR X f r':=fun pins s σ H x v Q I rx z=>h pins s σ H x v Q I rx (q x H Q z)
theorem jv.imp{f:Value}{r r':List V->Hp->VK->Prop}(h:jv X f r)(q:∀x H Q,r' x H Q->r x H Q):jv X f r':=fun pins s σ H x v Q I rx z=>h pins s σ H x v Q I rx (q x H Q z)
abbrev DO:=@jv.imp
theorem xB.imp{r r':R2}(h:xB X r)(q:∀x y H Q,r' x y H Q->r x y H Q):xB X r':=fun value slice pins s σ H x y v u Q I rx ry z=>h value slice pins s σ H x y v u Q I rx ry (q x y H Q z)
theorem lE.imp{id:String}{r r':V->List V->Hp->VK->Prop}(h:lE X id r)(q:∀x xs H Q,r' x xs H Q->r x xs H Q):lE X id r':=fun pins s σ H x xs v us Q I rx ry z=>h pins s σ H x xs v us Q I rx ry (q x xs H Q z)
theorem mP(rl:j7 G H L)(r:RV G H y v)(h:bS L y=some ys):∃p xs,v=.ref p/\(aG G.K H p xs\/fU G.K H p xs)/\xz G H ys xs:=by
 cases y with
 |tup zs=>
  obtain⟨a,xs,e,s,q⟩:=r;cases h;exact⟨a,xs,e,.inr s,q⟩
 |sq zs=>
  obtain⟨a,xs,e,s,q⟩:=r;cases h;exact⟨a,xs,e,.inl s.sq,q⟩
 |ref a=>
  cases (show v=.ref a from r);have h':(match L a with | some (.lst ys)=>some ys | _=>none)=some ys:=h;split at h'
  ·rename_i zs e;cases h';obtain⟨xs,e2,q⟩:=rl a _ e;exact⟨a,xs,rfl,.inl (aG.of e2),q⟩
  ·cases h'
 |_=>cases h
theorem agl{i:Int}(s:xz G H ys xs)(h:bW ys i=some y):∃x,bW xs i=some x/\RV G H y x:=by
 unfold bW at h ⊢;rw[<-s.length];cases e:yf ys.length i with
 |none=>rw[e] at h;cases h
 |some j=>
  rw[e] at h;exact s.get (i:=j) h
end
section
variable {a b:Expr}{tc:jz} 
abbrev QE(X:Cx)(e:Expr)(t:jz):Prop:=PE X e (n8 X.g3 t)
abbrev QT(X:Cx)(e:Expr)(t:i9):Prop:=PT X e (upT X.g3 t)
abbrev QW(X:Cx)(e:Expr)(t:i9):Prop:=PW X e (upT X.g3 t)
abbrev QA(X:Cx)(es:List Expr)(t:cN):Prop:=PA X es (upA X.g3 t)
abbrev QS(X:Cx)(st:Stmt)(t:k6):Prop:=PS X st (upS X.g3 t)
abbrev pj(X:Cx)(st:List Stmt)(t:k6):Prop:=mF X st (upS X.g3 t)
abbrev QG(X:Cx)(e:Expr)(g:kE):Prop:=PG X e (upG X.g3 g)
abbrev QGs(X:Cx)(es:List Expr)(g:uS):Prop:=PGs X es (anw X.g3 g)
abbrev QI(X:Cx)(tg it:Expr)(w:TI3):Prop:=PI X tg it (upI X.g3 w)
abbrev QF(X:Cx)(es:List Expr)(t:i9):Prop:=PF X es (upT X.g3 t)
theorem QE.of_var(h:PE X e (ag1 i)):QE X e (qa i):=DC h fun σ H Q ⟨τ,L,Q3,rs,rl,z,k⟩=>by
 unfold qa at z;split at z
 ·rename_i y ey;obtain⟨v,ev,rv⟩:=rs.get i y (mW _ _ ey);exact⟨v,ev,k v H y L (DB _) rl rv z⟩
 ·exact z.elim
theorem QE.of_c(h:PE X e (tC v))(q:∀H,RV X.g3 H y v):QE X e (yC y):=DC h fun σ H Q ⟨τ,L,Q3,rs,rl,z,k⟩=>k v H y L (DB _) rl (q H) z
theorem qv(i:Nat)(hN:X.N[i]?=some x:=by rfl)(hv:Vis X.env.scope x:=by first | exact Or.inl rfl | exact Or.inr (Or.inl rfl) | exact Or.inr (Or.inr rfl))(hd:Dx x:=by decide)
 (hcd:Dy x:=by decide):QE X (.Name x pos) (qa i):=QE.of_var (pv i hN hv hd hcd)
theorem xZ :QE X (.Constant .none j pos) (yC .non):=QE.of_c ags fun _=>rfl
theorem wf{b:Bool} :QE X (.Constant (.bool b) j pos) (yC (.bl b)):=QE.of_c aix fun _=>rfl
theorem qh{i:Int} :QE X (.Constant (.int i) j pos) (yC (.int i)):=QE.of_c afl fun _=>rfl
theorem jj :QE X (.Constant (.str x) j pos) (yC (.str x)):=QE.of_c ah4 fun _=>rfl
theorem ajm{c:Addr}(hg:Gl X x)(hm:X.mg x=some (.ref c))(q:∀H,RV X.g3 H y (.ref c))(hd:Dx x:=by decide):QE X (.Name x pos) (yC y):=QE.of_c (ajd hg hm hd) q
theorem sW{r:iL}(σ:St)(H:Hp)(Q:VK):n8 G (zg r ta tb) σ H Q->tOp (dP G r) (n8 G ta) (n8 G tb) σ H Q:=fun⟨τ,L,Q3,rs,rl,z,k⟩=>
 ⟨τ,L,_,rs,rl,z,fun v H1 y L1 t1 rl1 rv1 z1=>⟨τ,L1,_,rs.ts t1,rl1,z1,fun v2 H2 y2 L2 t2 rl2 rv2 z2=>⟨y,y2,L2,Q3,rv1.ts t2,rv2,rl2,z2,k.ts (t1.trans t2)⟩⟩⟩
theorem ql{op:Operator}{r:iL}(h:kg X (binaryOp op) (dP X.g3 r))(ha:QE X a ta)(hb:QE X b tb):QE X (.BinOp a op b pos) (zg r ta tb):=DC (ak2 h ha hb) sW
theorem ajv{r:iL}(h:xB X (dP X.g3 r))(ha:QE X a ta)(hb:QE X b tb)(hp:iA b):QE X (.Subscript a b pos) (zg r ta tb):=DC (aep h ha hb hp) sW
theorem aR{op:CmpOp}{r:iL}(h:kg X (compareOp op) (dP X.g3 r))(ha:QE X a ta)(hb:QE X b tb)(hm:behindInMarks op b=false):QE X (.Compare a [op] [b] pos) (zg r ta tb):=DC (abf h ha hb hm) sW
theorem ahf{t:jz}(σ:St)(H:Hp)(Q:Bool->Hp->Prop):upT G (yB t) σ H Q->vQ (n8 G t) σ H Q:=fun⟨τ,L,Q3,rs,rl,z,k⟩=>
 ⟨τ,L,_,rs,rl,z,fun v H1 y L1 t1 rl1 rv1 z1=>by cases y with|bl b=>exact⟨b,rv1,k b H1 L1 t1 rl1 z1⟩|_=>exact z1.elim⟩
theorem aej{t:jz}(σ:St)(H:Hp)(Q:Bool->Hp->Prop):upT G (yB t) σ H Q->L2.tB (n8 G t) σ H Q:=ahf σ H Q
theorem wz{op:CmpOp}{r:iL}(h:kg X (compareOp op) (dP X.g3 r))(ha:QE X a ta)(hb:QE X b tb)(hm:behindInMarks op b=false):QT X (.Compare a [op] [b] pos) (yB (zg r ta tb)):=
 PT.imp (aai h ha hb hm) fun σ H Q q=>by have q':=ahf σ H Q q;obtain⟨τ,L,Q3,rs,rl,z,k⟩:=q';exact sW σ H _ ⟨τ,L,Q3,rs,rl,z,k⟩
theorem xb(h:QE X e te)(he:∀whole,isTrue e X.env whole=(do let v <-whole;standAt e.pos;holding [v] (truthy v)):=by intro _;rfl):QT X e (yB te):=PT.imp (afi h he) aej
theorem OpI{f:Value->Value->Sem Value}{C:Int->Int->Prop}{g:Int->Int->V}{g3:Int->Int->Y}(h:kg X f (rI C g))(e:∀i j H,RV X.g3 H (g3 i j) (g i j)):kg X f (dP X.g3 (yI C g3)):=DN h fun x y H Q ⟨x3,y3,L,Q3,rx,ry,rl,z,k⟩=>by
 cases x3 with
 |int i=>
  cases y3 with|int j=>exact⟨i,j,rx,ry,z.1,k _ H _ L (DB _) rl (e i j H) z.2⟩|_=>exact z.elim
 |_=>cases y3<;>exact z.elim
theorem ab5{f:Value->Value->Sem Value}{g:Int->Int->V}{g3:Int->Int->Y}(h:kg X f (rI0 g))(e:∀i j H,RV X.g3 H (g3 i j) (g i j)):kg X f (dP X.g3 (yI0 g3)):=DN h fun x y H Q ⟨x3,y3,L,Q3,rx,ry,rl,z,k⟩=>by
 cases x3 with
 |int i=>
  cases y3 with|int j=>exact⟨i,j,rx,ry,k _ H _ L (DB _) rl (e i j H) z⟩|_=>exact z.elim
 |_=>cases y3<;>exact z.elim
theorem pD:kg X (binaryOp .Sub) (dP X.g3 (yI0 fun i j=>.int (i - j))):=ab5 ag6 fun _ _ _=>rfl
theorem bR:kg X (binaryOp .Mult) (dP X.g3 (yI vJ fun i j=>.int (i*j))):=OpI af9 fun _ _ _=>rfl
theorem aH:kg X (binaryOp .FloorDiv) (dP X.g3 (yI aft fun i j=>.int (i / j))):=OpI aab fun _ _ _=>rfl
theorem km:kg X (binaryOp .Mod) (dP X.g3 (yI (fun _ j=>0<j) fun i j=>.int (i % j))):=OpI ahe fun _ _ _=>rfl
theorem akb:kg X (binaryOp .Pow) (dP X.g3 (yI ahs fun i j=>.int (i ^ j.toNat))):=OpI aew fun _ _ _=>rfl
theorem xJ:kg X (compareOp .Lt) (dP X.g3 (yI0 fun i j=>.bl (decide (i<j)))):=ab5 ake fun _ _ _=>rfl
theorem ant:kg X (compareOp .LtE) (dP X.g3 (yI0 fun i j=>.bl (decide (i≤j)))):=ab5 ak8 fun _ _ _=>rfl
theorem afs:kg X (compareOp .Gt) (dP X.g3 (yI0 fun i j=>.bl (decide (j<i)))):=ab5 ak5 fun _ _ _=>rfl
theorem zu:kg X (binaryOp .Add) (dP X.g3 jk):=DN aaf fun x y H Q ⟨x3,y3,L,Q3,rx,ry,rl,z,k⟩=>by
 cases x3 with
 |int i=>
  cases y3 with|int j=>cases rx;cases ry;exact k _ H _ L (DB _) rl (by rfl) z|_=>exact z.elim
 |str i=>
  cases y3 with|str j=>cases rx;cases ry;exact⟨z.1,k _ H _ L (DB _) rl (by rfl) z.2⟩|_=>exact z.elim
 |ref a=>
  cases y3 with
  |ref b=>
   cases rx;cases ry;obtain⟨ys,zs,e1,e2,hz,q⟩:=z;obtain⟨xs,h1,r1⟩:=rl a _ e1;obtain⟨us,h2,r2⟩:=rl b _ e2;refine⟨xs,us,h1,h2,by rw[<-r1.length,<-r2.length];exact hz,fun p hp=>?_⟩;exact k _ _ _ _ (DD hp) (rl.newL hp (r1.app r2)) (by rfl) (q p (rl.none hp))
  |_=>exact z.elim
 |_=>cases y3<;>exact z.elim
theorem oM{kvs:List (Str×Str)}{k:Str}(h:kvs.lookup k=some x):dD (kvs.map fun p=>((Sum.inr p.1:jc),V.str p.2)) (Sum.inr k)=some (V.str x):=by
 induction kvs with
 |nil=>simp at h
 |cons p r ih=>
  obtain⟨a,b⟩:=p;unfold dD;rw[Ay,Bh];rw[Bd] at h;by_cases c:k=a
  ·subst c;simp at h;simp[h]
  ·have c1:(k==a)=false:=by simpa using c
   rw[c1] at h;have c2:decide ((Sum.inr a:jc)=Sum.inr k)=false:=Am fun z=>c (Sum.inr.inj z).symm;simp only[c2];exact ih h
theorem gD{kvs:List (jc×Y)}{xs:List (jc×V)}{k:jc}(p:Paired (fun(p:jc×Y) (q:jc×V)=>p.1=q.1/\RV G H p.2 q.2) kvs xs)(h:wb kvs k=some y):∃x,dD xs k=some x/\RV G H y x:=by
 induction p with
 |nil=>cases h
 |@cons a b _ _ r t ih=>
  obtain⟨ka,ya⟩:=a;obtain⟨kb,vb⟩:=b;obtain⟨e,r⟩:=r;cases (show ka=kb from e);unfold wb at h;unfold dD;rw[Bh] at h ⊢;by_cases c:ka=k
  ·have c':decide (ka=k)=true:=Al c;simp only[c'] at h ⊢;cases h;exact⟨vb,rfl,r⟩
  ·have c':decide (ka=k)=false:=Am c;simp only[c'] at h ⊢;exact ih h
theorem aec(K:Ac)(P:Program)(w:World)(hK:X.K=K:=by rfl)(hP:X.prog=P:=by rfl)(hw:X.w=w:=by rfl):xB X (dP ⟨K,P,w⟩ be):=by
 subst hK hP hw;refine xB.imp alz fun x y H Q ⟨x3,y3,L,Q3,rx,ry,rl,z,k⟩=>?_;have seq:∀{i:Int} {x3:Y},RV X.g3 H x3 x->y=.int i->(hE L x3 fun ys=>ur L Q3 (bW ys i))->uIx X.K X.prog X.w x y H Q:=by
  intro i x3 rx ey z;subst ey;obtain⟨ys,es,z⟩:=aD z;obtain⟨p,xs,e,sq,rv⟩:=mP rl rx es;subst e;cases ea:bW ys i with
  |none=>rw[ea] at z;exact z.elim
  |some y=>
   rw[ea] at z;obtain⟨x,ex,rvx⟩:=agl rv ea;exact⟨xs,x,sq,ex,k _ H _ L (DB _) rl rvx z⟩
 cases x3 with
 |str s=>
  cases y3 with
  |int i=>
   cases rx;cases ry;obtain⟨z1,z2⟩:=z;cases ea:bW s.cps.toList i with
   |none=>rw[ea] at z2;exact z2.elim
   |some c=>rw[ea] at z2;exact⟨z1,c,ea,k _ H _ L (DB _) rl (by rfl) z2⟩
  |_=>exact z.elim
 |cd kvs=>
  cases y3 with
  |str s=>
   obtain⟨a,ea,kd⟩:=rx;cases ea;cases ry;have z':ur L (fun s L=>Q3 (.str s) L) (kvs.lookup s):=z;cases el:kvs.lookup s with
   |none=>rw[el] at z';exact z'.elim
   |some t=>rw[el] at z';exact⟨_,_,.inr kd,oM el,k _ H _ L (DB _) rl (by rfl) z'⟩
  |int i=>exact z.elim
  |_=>exact z.elim
 |ref a=>
  cases y3 with
  |int i=>exact seq (x3:=.ref a) rx ry z
  |str s=>
   cases rx;cases ry;obtain⟨kvs,e,z'⟩:=cR z;obtain⟨xs,e2,pr⟩:=rl a _ e;cases ev:wb kvs (Sum.inr s) with
   |none=>rw[ev] at z';exact z'.elim
   |some y=>
    rw[ev] at z';obtain⟨x,ex,rx⟩:=gD pr ev;exact⟨xs,x,.inl (.inl e2),ex,k _ H _ L (DB _) rl rx z'⟩
  |_=>exact z.elim
 |tup ys=>
  cases y3 with|int i=>exact seq (x3:=.tup ys) rx ry z|_=>exact z.elim
 |sq ys=>
  cases y3 with|int i=>exact seq (x3:=.sq ys) rx ry z|_=>exact z.elim
 |_=>cases y3<;>exact z.elim
theorem xz.inv1(h:xz G H [y] xs):∃x,xs=[x]/\RV G H y x:=by obtain⟨x,xs',e,r,s⟩:=h;cases (show xs'=[] from s);exact⟨x,e,r⟩
theorem xz.inv2{y':Y}(h:xz G H [y,y'] xs):∃x x',xs=[x,x']/\RV G H y x/\RV G H y' x':=by obtain⟨x,xs',e,r,s⟩:=h;obtain⟨x',e',r'⟩:=s.inv1;exact⟨x,x',by rw[e,e'],r,r'⟩
theorem ah7(K:Ac)(P:Program)(w:World)(hK:X.K=K:=by rfl)(hP:X.prog=P:=by rfl)(hw:X.w=w:=by rfl):jv X (.builtin "len") (upL ⟨K,P,w⟩ kD):=by
 subst hK hP hw;refine DO tz fun xs H Q ⟨ys,L,Q3,rv,rl,z,k⟩=>?_;unfold kD at z;split at z
 ·obtain⟨x,rfl,r⟩:=rv.inv1;cases r;exact⟨z.1,k _ H _ L (DB _) rl (by rfl) z.2⟩
 ·rename_i y _;obtain⟨x,rfl,r⟩:=rv.inv1;obtain⟨ys,es,z⟩:=aD z;obtain⟨p,us,e,sq,rw'⟩:=mP rl r es;subst e;refine⟨us,sq,?_⟩;rw[<-rw'.length];exact k _ H _ L (DB _) rl (by rfl) z
 ·exact z.elim
theorem af0(i j:Int):(if j > i then j else i)=max i j:=by split<;>lia
theorem aha(i j:Int):(if j<i then j else i)=min i j:=by split<;>lia
theorem ak9(hc:X.calm=true:=by rfl):jv X (.builtin "max") (upL X.g3 ag2):=DO (tV hc) fun xs H Q ⟨ys,L,Q3,rv,rl,z,k⟩=>by
 unfold ag2 at z;split at z
 ·rename_i i j;obtain⟨x,x',rfl,r1,r2⟩:=rv.inv2;cases r1;cases r2;refine⟨i,j,rfl,?_⟩;rw[af0];exact k _ H _ L (DB _) rl (by rfl) z
 ·exact z.elim
theorem aja(hc:X.calm=true:=by rfl):jv X (.builtin "min") (upL X.g3 af3):=DO (tf hc) fun xs H Q ⟨ys,L,Q3,rv,rl,z,k⟩=>by
 unfold af3 at z;split at z
 ·rename_i i j;obtain⟨x,x',rfl,r1,r2⟩:=rv.inv2;cases r1;cases r2;refine⟨i,j,rfl,?_⟩;rw[aha];exact k _ H _ L (DB _) rl (by rfl) z
 ·exact z.elim
theorem aip:UnR X (unaryOp .USub) (upU X.g3 aji):=UnR.imp agc fun x H Q ⟨y,L,Q3,rv,rl,z,k⟩=>by cases y with|int i=>exact⟨i,rv,k _ H _ L (DB _) rl (by rfl) z⟩|_=>exact z.elim
theorem akn{op:UnaryOp}{r:Y->qo->YK->Prop}(h:UnR X (unaryOp op) (upU X.g3 r))(ha:QE X a ta):QE X (.UnaryOp op a pos) (yUn r ta):=DC (aio h ha) fun σ H Q ⟨τ,L,Q3,rs,rl,z,k⟩=>
 ⟨τ,L,_,rs,rl,z,fun v H1 y L1 t1 rl1 rv1 z1=>⟨y,L1,Q3,rv1,rl1,z1,k.ts t1⟩⟩
end
section
variable {a b:Expr}{tc:jz} 
theorem cJ{a:Addr}(rl:j7 G H L)(h:bS L (.ref a)=some ys):∃xs,aG G.K H a xs/\xz G H ys xs:=by
 have h':(match L a with | some (.lst ys)=>some ys | _=>none)=some ys:=h;split at h'
 ·rename_i e;cases h';obtain⟨xs,e2,q⟩:=rl a _ e;exact⟨xs,aG.of e2,q⟩
 ·cases h'
theorem cn(rl:j7 G H L)(r:RV G H y v)(hy:pH y=true)(h:bS L y=some ys):∃a xs,v=.ref a/\aG G.K H a xs/\xz G H ys xs:=by
 cases y with
 |ref a=>obtain⟨xs,s,q⟩:=cJ rl h;exact⟨a,xs,r,s,q⟩
 |sq zs=>obtain⟨a,xs,e,s,q⟩:=r;cases h;exact⟨a,xs,e,s.sq,q⟩
 |_=>cases hy
theorem tX{G:G3}{T:n6}{σ:L2.St}(I:qt X pins σ H s)(rl:j7 X.g3 H L)(r:RV X.g3 H y v)(ru:za v u)(h:tyY L y=some T)
 {c:Value} {b:Bool} (e:PySem.W.kitOne X.K (.type T.nm) c=some b) (hq:∀tk,Q (.bool b) { s with toks:=tk }):
 wpAny (model X.prog X.w) A (call (.builtin "isinstance") [u,c]) Q E s:=by
 cases y with
 |non=>cases h;cases r;exact aV I ru .non e hq
 |bl b=>cases h;cases r;exact aV I ru (.bl _) e hq
 |int i=>cases h;cases r;exact aV I ru (.int _) e hq
 |str x=>cases h;cases r;exact aV I ru (.str _) e hq
 |tup ys=>
  cases h;obtain⟨a,xs,rfl,sq,_⟩:=r;cases (show u=Value.ref a from ru);obtain⟨its,_,⟨o,h1,h2,_⟩,_⟩:=I.tuple sq;exact A8 PySem.W.kitx_tuple I.kIn ⟨o,h1,h2⟩ e (fun z=>nomatch z) hq
 |sq ys=>
  cases h;obtain⟨a,xs,rfl,sq,_⟩:=r;cases (show u=Value.ref a from ru);obtain⟨its,_,⟨o,n,h1,h2,_⟩,_⟩:=I.list sq.sq;exact A8 CY I.kIn ⟨o,h1,h2⟩ e (fun z=>nomatch z) hq
 |ref a=>
  cases (show v=.ref a from r);have h':(match L a with | some (.lst _)=>some n6.list | some (.dct _)=>some .dict | _=>none)=some T:=h;split at h'
  ·rename_i ys el;cases h';obtain⟨xs,e2,_⟩:=rl a _ el;exact aV I ru (.lst e2) e hq
  ·rename_i kvs el;cases h';obtain⟨xs,e2,_⟩:=rl a _ el;exact aV I ru (.dK e2) e hq
  ·cases h'
 |_=>cases h
theorem ac7(K:Ac):∀T S:n6,PySem.W.kitOne K (.type T.nm) (.type S.nm)=some (wD T S):=by intro T S;cases T<;>cases S<;>rfl
def afg(G:G3)(S:n6):List V->Hp->VK->Prop:=fun xs H Q=>∃y v L Q3 T,xs=[v,.ty S.nm]/\RV G H y v/\j7 G H L/\tyY L y=some T/\Q3 (.bl (wD T S)) L/\tM G H Q3 Q
theorem af8(S:n6):jv X (.builtin "isinstance") (afg X.g3 S):=by intro pins s σ H xs us Q I r h;obtain⟨y,v,L,Q3,T,rfl,rv,rl,ty,q,k⟩:=h;obtain⟨u,c,rfl,r1,r2⟩:=zh.two r;cases (show c=Value.type S.nm from r2);exact jx I.tk (tX (G:=X.g3) I rl rv r1 ty (ac7 _ T S) fun tk ht=>⟨.bl _,H,I.tok _,rfl,k _ H _ L (DB _) rl (by rfl) q⟩)
theorem aP{xT:Str}(S:n6)(hg:Gl X "isinstance")(hm:X.mg "isinstance" = none)(hgT:Gl X xT)(hmT:X.mg xT=none)(hvT:bootBuiltins xT=some (.type S.nm))(ha:QE X a ta)
 (hn:xT ≠ "__name__" := by decide) (hd:(xT==("__debug__" : Str))=false:=by decide)
 (hs:starEach [a,.Name xT p1] X.env=(false,eval a X.env)::starEach [.Name xT p1] X.env:=by rfl) (hs2:starEach [.Name xT p1] X.env=(false,eval (.Name xT p1) X.env)::starEach [] X.env:=by rfl)
 (hp:(backTo pos (starEach [.Name xT p1] X.env)).any (·.1)=false:=by rfl):
 QE X (.Call (.Name "isinstance" p) [a,.Name xT p1] [] pos) (dN S ta):=by
 refine DC (oz (af8 S) hg hm kP (ck ha (ck (aih hgT hmT hvT hn hd) iP hs2) hs) (by decide) (by decide) hs hp) ?_;rintro σ H Q ⟨τ,L,Q3,rs,rl,z,k⟩;refine⟨τ,L,_,rs,rl,z,fun v H1 y L1 t1 rl1 rv1 z1=>?_⟩;obtain⟨T,et,z1⟩:=yE z1;exact⟨y,v,L1,Q3,T,rfl,rv1,rl1,et,z1,k.ts t1⟩
def vC(neg:Bool)(x y:Y)(L:qo)(Q:YK):Prop:=hE L y fun ys=>ga x=true/\ys.all ga=true/\Q (.bl (nb neg (ux (gR x) (ys.map gR)))) L
theorem ajr(neg:Bool){op:CmpOp}(h:kg X (compareOp op) (rIn X.K neg)):kg X (compareOp op) (dP X.g3 (vC neg)):=DN h fun x y H Q ⟨x3,y3,L,Q3,rx,ry,rl,z,k⟩=>by
 obtain⟨ys,es,f1,f2,q⟩:=aD z;obtain⟨p,xs,e,sq,rv⟩:=mP rl ry es;rw[rx.flat f1];rw[rv.flat f2] at sq;refine⟨p,_,e,sq,fQ f1,?_,?_⟩
 ·rw[List.all_map,B5];intro y hy;exact fQ (B5.mp f2 y hy)
 ·have:(if neg=true then !ux (gR x3) (ys.map gR) else ux (gR x3) (ys.map gR))=(nb neg (ux (gR x3) (ys.map gR))):=by cases neg<;>simp[nb]
  rw[this];exact k _ H _ L (DB _) rl (by rfl) q
theorem ajy(K:Ac)(P:Program)(w:World)(hK:X.K=K:=by rfl)(hP:X.prog=P:=by rfl)(hw:X.w=w:=by rfl):kg X (compareOp .In) (dP ⟨K,P,w⟩ (vC false)):=by subst hK hP hw;exact ajr false ue
theorem wA(K:Ac)(P:Program)(w:World)(hK:X.K=K:=by rfl)(hP:X.prog=P:=by rfl)(hw:X.w=w:=by rfl):kg X (compareOp .NotIn) (dP ⟨K,P,w⟩ (vC true)):=by subst hK hP hw;exact ajr true mx
theorem xo.rep{G:G3}{H:Hp}{L:qo}(rl:j7 G H L):∀{n:Nat} {y:Y} {d:Da} {v:V},xo L n y d->RV G H y v->xx G.K H n v d
 |0,y,d,v,⟨f,e⟩,r=>by rw[r.flat f];exact⟨e,fQ f⟩
 |n+1,y,d,v,h,r=>by
  have both:∀{ys:List Y} {ds:List Da} {xs:List V},Paired (xo L n) ys ds->xz G H ys xs->Paired (xx G.K H n) xs ds:=by
   intro ys ds xs p
   induction p generalizing xs with
   |nil=>intro r;cases (show xs=[] from r);exact .nil
   |cons q t ih=>
    rintro⟨x,xs',rfl,r1,r2⟩;exact .cons (xo.rep rl q r1) (ih r2)
  rcases h with⟨f,e⟩ | ⟨ys,ds,rfl,rfl,p⟩ | ⟨ys,ds,hy,rfl,es,p⟩
  ·rw[r.flat f];exact .inl ⟨e,fQ f⟩
  ·obtain⟨a,xs,rfl,sq,rv⟩:=r;exact .inr (.inl ⟨a,xs,ds,rfl,rfl,sq,both p rv⟩)
  ·obtain⟨a,xs,rfl,sq,rv⟩:=cn rl r hy es;exact .inr (.inr ⟨a,xs,ds,rfl,rfl,sq,both p rv⟩)
theorem iB(h:ahi y=true)(r:RV G H y v):∃a,v=.ref a:=by
 cases y with
 |ref a=>exact⟨a,r⟩
 |tup ys=>obtain⟨a,xs,e,_⟩:=r;exact⟨a,e⟩
 |sq ys=>obtain⟨a,xs,e,_⟩:=r;exact⟨a,e⟩
 |_=>cases h
theorem l0(K:Ac)(P:Program)(w:World)(hu:X.A.units+128<cLine)(hK:X.K=K:=by rfl)(hP:X.prog=P:=by rfl)(hw:X.w=w:=by rfl):kg X (compareOp .Eq) (dP ⟨K,P,w⟩ (oV false)):=by
 subst hK hP hw;refine DN (af4 hu) fun x y H Q ⟨x3,y3,L,Q3,rx,ry,rl,z,k⟩=>?_;unfold oV at z;split at z
 ·rename_i i j;cases rx;cases ry;refine⟨rfl,?_⟩;have:decide (V.int i=V.int j)=nb false (decide (i=j)):=by rw[Bo];simp[nb]
  rw[this];exact k _ H _ L (DB _) rl (by rfl) z
 ·rename_i i j;cases rx;cases ry;refine⟨rfl,?_⟩;have:decide (V.str i=V.str j)=nb false (decide (i=j)):=by rw[Bo];simp[nb]
  rw[this];exact k _ H _ L (DB _) rl (by rfl) z
 ·rename_i i j;cases rx;cases ry;refine⟨rfl,?_⟩;have:decide (V.bl i=V.bl j)=nb false (decide (i=j)):=by rw[Bo];simp[nb]
  rw[this];exact k _ H _ L (DB _) rl (by rfl) z
 ·obtain⟨f1,f2,n,m,d,e,hn,h1,h2,q⟩:=z;obtain⟨a,rfl⟩:=iB f1 rx;obtain⟨b,rfl⟩:=iB f2 ry;have q:Q3 (.bl (Da.eq d e)) L:=q;exact⟨n,m,d,e,hn,h1.rep rl rx,h2.rep rl ry,k _ H _ L (DB _) rl (by rfl) q⟩
theorem zB(K:Ac)(P:Program)(w:World)(hu:X.A.units+128<cLine)(hK:X.K=K:=by rfl)(hP:X.prog=P:=by rfl)(hw:X.w=w:=by rfl):kg X (compareOp .NotEq) (dP ⟨K,P,w⟩ (oV true)):=by
 subst hK hP hw;refine DN (aff hu) fun x y H Q ⟨x3,y3,L,Q3,rx,ry,rl,z,k⟩=>?_;unfold oV at z;split at z
 ·rename_i i j;cases rx;cases ry;refine⟨rfl,?_⟩;have:(!decide (V.int i=V.int j))=nb true (decide (i=j)):=by show _=!_;congr 1;rw[Bo];simp
  rw[this];exact k _ H _ L (DB _) rl (by rfl) z
 ·rename_i i j;cases rx;cases ry;refine⟨rfl,?_⟩;have:(!decide (V.str i=V.str j))=nb true (decide (i=j)):=by show _=!_;congr 1;rw[Bo];simp
  rw[this];exact k _ H _ L (DB _) rl (by rfl) z
 ·rename_i i j;cases rx;cases ry;refine⟨rfl,?_⟩;have:(!decide (V.bl i=V.bl j))=nb true (decide (i=j)):=by show _=!_;congr 1;rw[Bo];simp
  rw[this];exact k _ H _ L (DB _) rl (by rfl) z
 ·obtain⟨f1,f2,n,m,d,e,hn,h1,h2,q⟩:=z;obtain⟨a,rfl⟩:=iB f1 rx;obtain⟨b,rfl⟩:=iB f2 ry;have q:Q3 (.bl (!Da.eq d e)) L:=q;exact⟨n,m,d,e,hn,h1.rep rl rx,h2.rep rl ry,k _ H _ L (DB _) rl (by rfl) q⟩
theorem RV.non_iff(r:RV G H y v):decide (v=.non)=(match y with | .non=>true | _=>false):=by
 cases y with
 |non=>cases r;rfl
 |cd kvs=>obtain⟨a,rfl,_⟩:=r;rfl
 |tup ys=>obtain⟨a,xs,rfl,_⟩:=r;rfl
 |sq ys=>obtain⟨a,xs,rfl,_⟩:=r;rfl
 |_=>cases r;rfl
theorem aet(σ:L2.St)(H:Hp)(Q:VK):n8 G (kK false ta) σ H Q->ak1 (n8 G ta) σ H Q:=fun⟨τ,L,Q3,rs,rl,z,k⟩=>
 ⟨τ,L,_,rs,rl,z,fun v H1 y L1 t1 rl1 rv1 z1=>by dsimp only;rw[rv1.non_iff];cases y<;>exact k _ H1 _ L1 t1 rl1 (by rfl) z1⟩
theorem adf(σ:L2.St)(H:Hp)(Q:VK):n8 G (kK true ta) σ H Q->aeo (n8 G ta) σ H Q:=fun⟨τ,L,Q3,rs,rl,z,k⟩=>
 ⟨τ,L,_,rs,rl,z,fun v H1 y L1 t1 rl1 rv1 z1=>by dsimp only;rw[rv1.non_iff];cases y<;>exact k _ H1 _ L1 t1 rl1 (by rfl) z1⟩
theorem ady{t:TE}(h:∀σ H Q,n8 G te σ H Q->t σ H Q)(σ:L2.St)(H:Hp)(Q:Bool->Hp->Prop):upT G (yB te) σ H Q->L2.tB t σ H Q:=fun q=>h σ H _ (aej σ H Q q)
theorem wB(h:QE X a ta):QT X (.Compare a [.Is] [.Constant .none j pos'] pos) (yB (kK false ta)):=PT.imp (yL (ag7 h)) (ady aet)
theorem iC(h:QE X a ta):QT X (.Compare a [.IsNot] [.Constant .none j pos'] pos) (yB (kK true ta)):=PT.imp (yL (acr h)) (ady adf)
end
section
variable {a b:Expr}{rest:List Expr}{tc:jz}{tB:i9} 
theorem sk(h:QT X a tA):QW X (.BoolOp .And [a] pos) tA:=ado h
theorem aZ(h:QT X a tA):QW X (.BoolOp .Or [a] pos) tA:=afn h
theorem vM(h:QT X a tA)(k:QW X (.BoolOp .And (b::rest) pos) tB):QW X (.BoolOp .And (a::b::rest) pos) (agx tA tB):=PW.imp (af5 h k) fun σ H Q ⟨τ,L,Q3,rs,rl,z,k⟩=>
 ⟨τ,L,_,rs,rl,z,fun c H1 L1 t1 rl1 z1=>by cases c with|true=>rw[Av rfl];exact⟨τ,L1,Q3,rs.ts t1,rl1,z1,k.ts t1⟩|false=>rw[As Aq];exact k _ H1 L1 t1 rl1 z1⟩
theorem we(h:QT X a tA)(k:QW X (.BoolOp .Or (b::rest) pos) tB):QW X (.BoolOp .Or (a::b::rest) pos) (mj tA tB):=PW.imp (ajg h k) fun σ H Q ⟨τ,L,Q3,rs,rl,z,k⟩=>
 ⟨τ,L,_,rs,rl,z,fun c H1 L1 t1 rl1 z1=>by cases c with|true=>rw[Av rfl];exact k _ H1 L1 t1 rl1 z1|false=>rw[As Aq];exact⟨τ,L1,Q3,rs.ts t1,rl1,z1,k.ts t1⟩⟩
theorem au(h:QW X a tA):QT X a tA:=PW.pt h
theorem w6(h:QT X a tA):QT X (.UnaryOp .Not a pos) (dY tA):=PT.imp (ago h) fun σ H Q ⟨τ,L,Q3,rs,rl,z,k⟩=>
 ⟨τ,L,_,rs,rl,z,fun c H1 L1 t1 rl1 z1=>k _ H1 L1 t1 rl1 z1⟩
theorem mY{op:BoolOp}(h:QE X a ta):QE X (.BoolOp op [a] pos) ta:=af1 h
theorem nC(h:QE X a ta)(k:QE X (.BoolOp .And (b::rest) pos) tb):QE X (.BoolOp .And (a::b::rest) pos) (oX ta tb):=DC (afd h k) fun σ H Q ⟨τ,L,Q3,rs,rl,z,k⟩=>
 ⟨τ,L,_,rs,rl,z,fun v H1 y L1 t1 rl1 rv1 z1=>by
  cases y with
  |bl c=>
   refine⟨c,rv1,?_⟩;have z2:ku c (tb τ L1 Q3) (Q3 (.bl false) L1):=z1;cases c with|true=>rw[Av rfl];exact⟨τ,L1,Q3,rs.ts t1,rl1,z2,k.ts t1⟩|false=>rw[As Aq];exact k _ H1 _ L1 t1 rl1 (by rfl) z2
  |_=>exact z1.elim⟩
theorem ah0(h:QE X a ta):QE X (.UnaryOp .Not a pos) (adv ta):=DC (af2 h) fun σ H Q ⟨τ,L,Q3,rs,rl,z,k⟩=>
 ⟨τ,L,_,rs,rl,z,fun v H1 y L1 t1 rl1 rv1 z1=>by cases y with|bl c=>exact⟨c,rv1,k _ H1 _ L1 t1 rl1 (by rfl) z1⟩|_=>exact z1.elim⟩
theorem fF(h:QT X c tA)(ha:QE X a ta)(hb:QE X b tb):QE X (.IfExp c a b pos) (yIf tA ta tb):=DC (aa3 h ha hb) fun σ H Q ⟨τ,L,Q3,rs,rl,z,k⟩=>
 ⟨τ,L,_,rs,rl,z,fun c H1 L1 t1 rl1 z1=>by cases c with|true=>rw[Av rfl];exact⟨τ,L1,Q3,rs.ts t1,rl1,z1,k.ts t1⟩|false=>rw[As Aq];exact⟨τ,L1,Q3,rs.ts t1,rl1,z1,k.ts t1⟩⟩
theorem xq:QA X [] zj:=PA.imp iP fun σ H Q ⟨τ,L,Q3,rs,rl,z,k⟩=>k _ H _ L (DB _) rl (by rfl) z
theorem dq(h:QE X e te)(ht:QA X es tr)(hs:Dv e es X:=by rfl):QA X (e::es) (qj te tr):=PA.imp (ck h ht hs) fun σ H Q ⟨τ,L,Q3,rs,rl,z,k⟩=>
 ⟨τ,L,_,rs,rl,z,fun v H1 y L1 t1 rl1 rv1 z1=>⟨τ,L1,_,rs.ts t1,rl1,z1,fun vs H2 ys L2 t2 rl2 rv2 z2=>k (v::vs) H2 (y::ys) L2 (t1.trans t2) rl2 ⟨v,vs,rfl,rv1.ts t2,rv2⟩ z2⟩⟩
theorem jt(h:QA X es tr):QE X (.Tuple es x1 pos) (da tr):=DC (afb h) fun σ H Q ⟨τ,L,Q3,rs,rl,z,k⟩=>
 ⟨τ,L,_,rs,rl,z,fun vs H1 ys L1 t1 rl1 rv1 z1=>by
  cases e:Nat.ble ys.length 1000 with
  |false=>rw[e] at z1;exact z1.elim
  |true=>
   rw[e] at z1;have:=Cp e;refine⟨bQ (by rw[<-rv1.length];exact this),fun p hp=>?_⟩;exact k _ _ (.tup ys) L1 (t1.trans (DD hp)) (rl1.skip hp) ⟨p,vs,rfl,fU.of xk,rv1.ts (DD hp)⟩ z1⟩
theorem zy(h:QA X es tr):QE X (.List es pos) (vj tr):=DC (y9 h) fun σ H Q ⟨τ,L,Q3,rs,rl,z,k⟩=>
 ⟨τ,L,_,rs,rl,z,fun vs H1 ys L1 t1 rl1 rv1 z1=>by
  cases e:Nat.ble ys.length 1000 with
  |false=>rw[e] at z1;exact z1.elim
  |true=>
   rw[e] at z1;have:=Cp e;refine⟨bQ (by rw[<-rv1.length];exact this),fun p hp=>?_⟩;exact k _ _ _ _ (t1.trans (DD hp)) (rl1.newL hp rv1) (by rfl) (z1 p (rl1.none hp))⟩
theorem a9{id:String}{r:List Y->qo->YK->Prop}(hc:jv X (.builtin id) (upL X.g3 r))(hg:Gl X x)(hm:X.mg x=none)(hv:bootBuiltins x=some (.builtin id))(h:QA X (e::es) tr)
 (hn:x ≠ "__name__" := by decide) (hd:Dx x:=by decide) (hs:Dv e es X:=by rfl) (hp:Dw pos es X:=by rfl):
 QE X (.Call (.Name x p) (e::es) [] pos) (lZ r tr):=DC (oz hc hg hm hv h hn hd hs hp) fun σ H Q ⟨τ,L,Q3,rs,rl,z,k⟩=>
 ⟨τ,L,_,rs,rl,z,fun vs H1 ys L1 t1 rl1 rv1 z1=>⟨ys,L1,Q3,rv1,rl1,z1,k.ts t1⟩⟩
def upO(G:G3)(t:TO3):TO:=fun σ H Q=>∃τ L Q3,ve G H σ τ/\j7 G H L/\t τ L Q3/\∀(o:Option Int) H' L',j3 H H'->j7 G H' L'->Q3 o L'->Q o H'
abbrev QO(X:Cx)(e:Option Expr)(t:TO3):Prop:=PO X e (upO X.g3 t)
theorem PO.imp{e:Option Expr}{t u:TO}(h:PO X e t)(q:∀σ H Q,u σ H Q->t σ H Q):PO X e u:=fun pins s σ H Q I z=>h pins s σ H Q I (q σ H Q z)
theorem qS.imp{r':V->Option Int->Option Int->Hp->VK->Prop}(h:qS X r)(q:∀x lo hi H Q,r' x lo hi H Q->r x lo hi H Q):qS X r':=by intro pins s σ H x v vl vu lo hi sl Q I rx hs pl pu z;exact h pins s σ H x v vl vu lo hi sl Q I rx hs pl pu (q _ _ _ _ _ z)
theorem ag:QO X none w9:=PO.imp aca fun σ H Q ⟨τ,L,Q3,rs,rl,z,k⟩=>k _ H L (DB _) rl z
theorem aA(h:QE X e te):QO X (some e) (bB te):=PO.imp (aah h) fun σ H Q ⟨τ,L,Q3,rs,rl,z,k⟩=>
 ⟨τ,L,_,rs,rl,z,fun v H1 y L1 t1 rl1 rv1 z1=>by cases y with|int i=>exact⟨i,rv1,k _ H1 L1 t1 rl1 z1⟩|_=>exact z1.elim⟩
def ah5(G:G3)(r:Y->Option Int->Option Int->qo->YK->Prop):V->Option Int->Option Int->Hp->VK->Prop:=fun x lo hi H Q=>∃y L Q3,RV G H y x/\j7 G H L/\r y lo hi L Q3/\tM G H Q3 Q
theorem ky{lo hi:Option Expr}{tl th:TO3}{r:Y->Option Int->Option Int->qo->YK->Prop}(h:qS X (ah5 X.g3 r))(ha:QE X a ta)(hl:QO X lo tl)(hh:QO X hi th):QE X (.Subscript a (.Slice lo hi none p2) pos) (vH r ta tl th):=
 DC (yr h ha hl hh) fun σ H Q ⟨τ,L,Q3,rs,rl,z,k⟩=>
 ⟨τ,L,_,rs,rl,z,fun v H1 y L1 t1 rl1 rv1 z1=>⟨τ,L1,_,rs.ts t1,rl1,z1,fun o H2 L2 t2 rl2 z2=>⟨τ,L2,_,rs.ts (t1.trans t2),rl2,z2,fun o' H3 L3 t3 rl3 z3=>⟨y,L3,Q3,rv1.ts (t2.trans t3),rl3,z3,k.ts (t1.trans (t2.trans t3))⟩⟩⟩⟩
theorem sS(r:xz G H ys xs)(lo hi:Option Int):xz G H (hV ys lo hi) (uF xs lo hi):=by unfold hV uF;rw[r.length];exact(r.drop _).take _
theorem aif(K:Ac)(P:Program)(w:World)(hK:X.K=K:=by rfl)(hP:X.prog=P:=by rfl)(hw:X.w=w:=by rfl):qS X (ah5 ⟨K,P,w⟩ ajc):=by
 subst hK hP hw;refine qS.imp aci fun x lo hi H Q ⟨y,L,Q3,rv,rl,z,k⟩=>?_;cases y with
 |ref a=>
  obtain⟨ys,es,z'⟩:=xr z;obtain⟨xs,sq,r⟩:=cJ rl (z9 es);exact⟨a,xs,rv,sq,fun p hp=>k _ _ _ _ (DD hp) (rl.newL hp (sS r lo hi)) (by rfl) (z' p (rl.none hp))⟩
 |sq ys=>
  obtain⟨a,xs,e,sf,r⟩:=rv;exact⟨a,xs,e,sf.sq,fun p hp=>k _ _ _ _ (DD hp) (rl.newL hp (sS r lo hi)) (by rfl) (z p (rl.none hp))⟩
 |_=>exact z.elim
end
section
variable {a b:Expr}{tc:jz}{tB:i9}{orelse:List Stmt}{t u:k6}
theorem zd:pj X [] je:=mF.imp ab1 fun D σ H ⟨τ,L,D3,rs,rl,z,k⟩=>k.nx _ H _ L (DB _) rs rl z
theorem qc(h:QS X st t):pj X [st] t:=abj h
theorem q9(h:QS X st t)(k:pj X rest u):pj X (st::rest) (qm t u):=mF.imp (o8 h k) fun D σ H ⟨τ,L,D3,rs,rl,z,k⟩=>
 ⟨τ,L,{ D3 with nx:=u D3 },rs,rl,z,fun σ1 H1 τ1 L1 t1 rs1 rl1 z1=>⟨τ1,L1,D3,rs1,rl1,z1,k.ts t1⟩,k.rt,k.bk,k.ct⟩
theorem jh(h:QE X e te)(hs:swapsWith e none pos.line X.env=pure false:=by rfl):QS X (.Expr e pos) (vq te):=DH (ad3 h hs) fun D σ H ⟨τ,L,D3,rs,rl,z,k⟩=>
 ⟨τ,L,_,rs,rl,z,fun v H1 y L1 t1 rl1 rv1 z1=>k.nx _ H1 _ L1 t1 (rs.ts t1) rl1 z1⟩
theorem qp(h:QE X e te):QS X (.Return (some e) pos) (zr te):=DH (ahn h) fun D σ H ⟨τ,L,D3,rs,rl,z,k⟩=>⟨τ,L,_,rs,rl,z,k.rt⟩
theorem jd(h:QT X c tA)(ha:pj X body t)(hb:pj X orelse u):QS X (.If c body orelse pos) (v4 tA t u):=DH (ail h ha hb) fun D σ H ⟨τ,L,D3,rs,rl,z,k⟩=>
 ⟨τ,L,_,rs,rl,z,fun c H1 L1 t1 rl1 z1=>by cases c with|true=>rw[Av rfl];exact⟨τ,L1,D3,rs.ts t1,rl1,z1,k.ts t1⟩|false=>rw[As Aq];exact⟨τ,L1,D3,rs.ts t1,rl1,z1,k.ts t1⟩⟩
theorem qA(hN:X.N.Nodup)(hix:X.N[i]?=some x)(hx:tZ X.env.scope x)(h:QE X e te)(hsw:swapsWith e (some (.Name x pos')) pos.line X.env=pure false:=by rfl)
 (hfn:X.fn x=true\/X.env.scope.names.lookup x=some .local:=by first | exact .inl rfl | exact .inr rfl | assumption):QS X (.Assign [.Name x pos'] e pos) (z8 te (qb i)):=DH (ai2 hN hix hx h hsw hfn) fun D σ H ⟨τ,L,D3,rs,rl,z,k⟩=>
 ⟨τ,L,_,rs,rl,z,fun v H1 y L1 t1 rl1 rv1 z1=>k.nx _ H1 _ L1 t1 (show ve _ _ _ (cz τ i y) by rw[wx];exact(rs.ts t1).set rv1) rl1 z1⟩
theorem ahp(h:QE X e te)(hg:QG X tg g)(h1:swapsWithSole [tg] e pos.line X.env=pure false:=by rfl)(h2:swappedStores [tg] e X.env=pure none:=by rfl)
 (h3:(assignEach [tg] X.env).map (·.2)=[assign tg X.env]:=by rfl):QS X (.Assign [tg] e pos) (z8 te g):=DH (yq h hg h1 h2 h3) fun D σ H ⟨τ,L,D3,rs,rl,z,k⟩=>
 ⟨τ,L,_,rs,rl,z,fun v H1 y L1 t1 rl1 rv1 z1=>⟨y,τ,L1,_,rv1,rs.ts t1,rl1,z1,k.nx.ts t1⟩⟩
theorem PG.imp{t u:TG}(h:PG X e t)(q:∀v σ H Q,u v σ H Q->t v σ H Q):PG X e u:=fun pins s σ H x v Q I r z=>h pins s σ H x v Q I r (q _ _ _ _ z)
theorem PGs.imp{e:List Expr}{t u:TGs}(h:PGs X e t)(q:∀v σ H Q,u v σ H Q->t v σ H Q):PGs X e u:=fun pins s σ H x v Q I r z=>h pins s σ H x v Q I r (q _ _ _ _ z)
theorem iG(hN:X.N.Nodup)(hix:X.N[i]?=some x)(hx:tZ X.env.scope x)(hfn:X.fn x=true\/X.env.scope.names.lookup x=some .local:=by first | exact .inl rfl | exact .inr rfl | assumption):QG X (.Name x pos) (qb i):=
 PG.imp (iJ hN hix hx hfn) fun v σ H Q ⟨y,τ,L,Q3,rv,rs,rl,z,k⟩=>k _ H _ L (DB _) (show ve _ _ _ (cz τ i y) by rw[wx];exact rs.set rv) rl z
theorem aQ:QGs X [] aF:=PGs.imp sP fun vs σ H Q ⟨ys,τ,L,Q3,rv,rs,rl,z,k⟩=>by cases ys with|nil=>exact⟨rv,k _ H _ L (DB _) rs rl z⟩|cons y r=>exact z.elim
theorem jf{gs:uS}(h:QG X e g)(hs:QGs X es gs)(he:(assignEach (e::es) X.env).map (·.2)=assign e X.env::(assignEach es X.env).map (·.2):=by rfl):QGs X (e::es) (zw g gs):=
 PGs.imp (i5 h hs he) fun vs σ H Q ⟨ys,τ,L,Q3,rv,rs,rl,z,k⟩=>by
 cases ys with
 |nil=>exact z.elim
 |cons y r=>
  obtain⟨x,xs,rfl,r1,r2⟩:=rv;exact⟨x,xs,rfl,y,τ,L,_,r1,rs,rl,z,fun σ1 H1 τ1 L1 t1 rs1 rl1 z1=>⟨r,τ1,L1,Q3,r2.ts t1,rs1,rl1,z1,k.ts t1⟩⟩
theorem bO{gs:uS}{kk:Nat}(hc:X.calm=true)(h:QGs X es gs)(h1:(assignEach es X.env).length=n:=by rfl)(h2:(assignEach es X.env).findIdx? (·.1)=none:=by rfl):QG X (.Tuple es kk pos) (aK n gs):=
 PG.imp (zS hc h h1 h2) fun v σ H Q ⟨y,τ,L,Q3,rv,rs,rl,z,k⟩=>by
 cases y with
 |tup ys=>
  obtain⟨a,xs,rfl,sq,r⟩:=rv;have z':(match ys.length==n with | true=>gs ys τ L Q3 | false=>False):=z;split at z'
  ·rename_i e;exact⟨a,xs,rfl,sq,by rw[<-r.length];exact beq_iff_eq.mp e,ys,τ,L,Q3,r,rs,rl,z',k⟩
  ·exact z'.elim
 |_=>exact z.elim
theorem zK{y:Str}{py pt:Pos}{kt k2:Nat}{pt2:Pos}(hc:X.calm=true)(hN:X.N.Nodup)(hi:X.N[i]?=some x)(hj:X.N[j]?=some y)(hij:i≠j)(lx:X.env.scope.names.lookup x=some .local)(ly:X.env.scope.names.lookup y=some .local)
 (h:QA X [a,b] tr) (h1:swappedStores [.Tuple [.Name x px,.Name y py] kt pt] (.Tuple [a,b] k2 pt2) X.env=pure (some [x,y])) (h2:swapsWithSole [.Tuple [.Name x px,.Name y py] kt pt] (.Tuple [a,b] k2 pt2) pos.line X.env=pure false:=by rfl):
 QS X (.Assign [.Tuple [.Name x px,.Name y py] kt pt] (.Tuple [a,b] k2 pt2) pos) (ah2 i j tr):=DH (ah3 hc hN hi hj hij lx ly h h1 h2) fun D σ H ⟨τ,L,D3,rs,rl,z,k⟩=>
 ⟨τ,L,_,rs,rl,z,fun vs H1 ys L1 t1 rl1 rv1 z1=>by
  split at z1
  ·rename_i v w;obtain⟨x',y',rfl,r1,r2⟩:=rv1.inv2;exact⟨x',y',rfl,k.nx _ H1 _ L1 t1 (show ve _ _ _ (cz (cz τ i v) j w) by rw[wx,wx];exact((rs.ts t1).set r1).set r2) rl1 z1⟩
  ·exact z1.elim⟩
theorem akg{op:Operator}{f:Int->Int->Int}(h:PIp X op (ipI f)):PIp X op (dP X.g3 (ipY f)):=fun pins s σ H x y v u Q I rx ry ⟨x3,y3,L,Q3,r1,r2,rl,z,k⟩=>by
 refine h pins s σ H x y v u Q I rx ry ?_;cases x3 with
 |int i=>
  cases y3 with|int j=>exact⟨i,j,r1,r2,k _ H _ L (DB _) rl (by rfl) z⟩|_=>exact z.elim
 |_=>cases y3<;>exact z.elim
theorem rW{op:Operator}{r:iL}(hN:X.N.Nodup)(hix:X.N[i]?=some x)(hx:tZ X.env.scope x)(h:QE X e te)(hp:PIp X op (dP X.g3 r))
 (hfn:X.fn x=true\/X.env.scope.names.lookup x=some .local:=by first | exact .inl rfl | exact .inr rfl | assumption):QS X (.AugAssign (.Name x pos') op e pos) (xS i te r):=DH (afa hN hix hx h hp hfn) fun D σ H ⟨τ,L,D3,rs,rl,z,k⟩=>by
 unfold xS at z;split at z
 ·rename_i y ey;obtain⟨v,ev,rv⟩:=rs.get i y (mW _ _ ey);exact⟨v,ev,τ,L,_,rs,rl,z,fun v1 H1 y1 L1 t1 rl1 rv1 z1=>⟨y,y1,L1,_,rv.ts t1,rv1,rl1,z1,fun v2 H2 y2 L2 t2 rl2 rv2 z2=>
   k.nx _ H2 _ L2 (t1.trans t2) (show ve _ _ _ (cz τ i y2) by rw[wx];exact(rs.ts (t1.trans t2)).set rv2) rl2 z2⟩⟩
 ·exact z.elim
theorem kF(hp:PassesOwn (model X.prog X.w) X.A X.env X.xe)(h:QT X c tA)(hb:pj X body t):QS X (.While c body [] pos) (nV tA t):=DH (yS hp h hb) fun D σ H ⟨τ,L,D3,rs,rl,⟨W,⟨m0,w0⟩,turn⟩,k⟩=>by
 refine⟨fun m σ1 H1=>∃τ1 L1,j3 H H1/\ve X.g3 H1 σ1 τ1/\j7 X.g3 H1 L1/\W m τ1 L1,⟨m0,τ,L,DB _,rs,rl,w0⟩,?_⟩;rintro m σ1 H1 ⟨τ1,L1,t1,rs1,rl1,w1⟩;refine⟨τ1,L1,_,rs1,rl1,turn m τ1 L1 w1,fun b H2 L2 t2 rl2 z2=>?_⟩;cases b with
 |false=>rw[As Aq];exact k.nx _ H2 _ L2 (t1.trans t2) (rs1.ts t2) rl2 z2
 |true=>
  rw[Av rfl];obtain⟨N,hN,z2⟩:=z2;refine⟨fun σ' H'=>∃τ' L',j3 H H'/\ve X.g3 H' σ' τ'/\j7 X.g3 H' L'/\N τ' L',?_,?_⟩
  ·rintro σ' H' ⟨τ',L',t',rs',rl',n'⟩;obtain⟨m',hm,w'⟩:=hN τ' L' n';exact⟨m',hm,τ',L',t',rs',rl',w'⟩
  ·have nx:kY X.g3 H2 (bT N) (fun σ' H'=>∃τ' L',j3 H H'/\ve X.g3 H' σ' τ'/\j7 X.g3 H' L'/\N τ' L'):=fun σ' H' τ' L' t' rs' rl' ⟨L5,s5,n'⟩=>⟨τ',L5,(t1.trans t2).trans t',rs',rl'.sub s5,n'⟩;have k2:=k.ts (t1.trans t2);exact⟨τ1,L2,_,rs1.ts t2,rl2,z2,nx,k2.rt,k2.nx,nx⟩
theorem jp{wi:TI3}(hp:PassesOwn (model X.prog X.w) X.A X.env X.xe)(hc:X.calm=true)(hi:QI X tg iter wi)(hg:QG X tg g)(hb:pj X body t)(hs:∀x,foldedSetIterable iter X.env x=pure x:=by intro _;rfl):
 QS X (.For tg iter body [] pos) (wt wi g t):=DH (ai1 hp hc hi hg hb hs) fun D σ H ⟨τ,L,D3,rs,rl,z,k⟩=>by
 refine⟨τ,L,_,rs,rl,z,fun J H1 ys keep L1 t1 rl1 yl zz=>?_⟩;obtain⟨W,w0,wk,turn,vd⟩:=wT zz;refine⟨fun i m σ' H'=>∃τ' L',i+m=ys.length/\j3 H1 H'/\ve X.g3 H' σ' τ'/\j7 X.g3 H' L'/\W i τ' L',⟨ys.length,τ,L1,by omega,DB _,rs.ts t1,rl1,w0⟩,?_⟩;rintro i m σ2 H2 ⟨τ2,L2,him,t2,rs2,rl2,w2⟩;by_cases hlt:i<ys.length
 ·refine .inr ⟨yl.go i H2 L2 t2 rl2 (wk i τ2 L2 w2) hlt,fun σ' H'=>∃τ' L',j3 H1 H'/\ve X.g3 H' σ' τ'/\j7 X.g3 H' L'/\W (i+1) τ' L',?_,?_⟩
  ·rintro σ' H' ⟨τ',L',t',rs',rl',w'⟩;exact⟨m - 1,by omega,τ',L',by omega,t',rs',rl',w'⟩
  ·intro x H3 y3;have ey:ys[i]?=some ys[i]:=Ae hlt;obtain⟨t3,rl3,rv3⟩:=yl.yld i H2 L2 x H3 _ t2 rl2 (wk i τ2 L2 w2) ey y3;refine⟨ys[i],τ2,L2,_,rv3,rs2.ts t3,rl3,turn i _ τ2 L2 ey w2,fun σ4 H4 τ4 L4 t4 rs4 rl4 z4=>?_⟩;have nx:kY X.g3 H4 (bT (W (i+1))) (fun σ' H'=>∃τ' L',j3 H1 H'/\ve X.g3 H' σ' τ'/\j7 X.g3 H' L'/\W (i+1) τ' L'):=fun σ' H' τ' L' t' rs' rl' ⟨L5,s5,n'⟩=>⟨τ',L5,((t2.trans t3).trans t4).trans t',rs',rl'.sub s5,n'⟩;have k2:=k.ts (t1.trans ((t2.trans t3).trans t4));exact⟨τ4,L4,_,rs4,rl4,z4,nx,k2.rt,k2.nx,nx⟩
 ·have e:i=ys.length:=by omega
  subst e;exact .inl ⟨yl.stop H2 L2 t2 rl2 (wk _ τ2 L2 w2),k.nx _ H2 _ L2 (t1.trans t2) rs2 rl2 (vd τ2 L2 w2)⟩
theorem PI.imp{t u:TI}(h:PI X tg e t)(q:∀σ H Q,u σ H Q->t σ H Q):PI X tg e u:=fun pins s σ H Q I z=>h pins s σ H Q I (q σ H Q z)
theorem gj{a:Addr}{keep:qo->Prop}(h:∀H L,j3 H₀ H->j7 G H L->keep L->∃xs,aG G.K H a xs/\xz G H ys xs):nJ G H₀ (Itl G.K a) ys keep where
 go:=fun i H L t rl kp hi=>by
  obtain⟨xs,sq,r⟩:=h H L t rl kp;have:i<xs.length:=by rw[<-r.length];exact hi
  exact⟨xs,xs[i],sq,Ae this⟩
 yld:=fun i H L x H' y t rl kp hy ⟨e,f⟩=>by subst e;obtain⟨xs,sq,r⟩:=h _ L t rl kp;obtain⟨x',e',rv⟩:=r.get hy;have:=f xs sq;rw[e'] at this;cases this;exact⟨DB _,rl,rv⟩
 stop:=fun H L t rl kp=>by obtain⟨xs,sq,r⟩:=h H L t rl kp;exact⟨xs,sq,by rw[r.length];exact Ag _⟩
theorem j5(h:QE X e te):QI X tg e (jq te):=PI.imp (ac0 h) fun σ H R ⟨τ,L,R3,rs,rl,z,k⟩=>by
 refine⟨τ,L,_,rs,rl,z,fun v H1 y L1 t1 rl1 rv1 z1=>?_⟩;cases y with
 |ref a=>
  obtain⟨ys,keep,es,kp,hk,z2⟩:=o3 z1;have hy:∀H L,j3 H1 H->j7 X.g3 H L->keep L->∃xs,aG X.K H a xs/\xz X.g3 H ys xs:=fun H L _ rl e=>cJ rl (hk L e);obtain⟨xs,sq,_⟩:=hy H1 L1 (DB _) rl1 kp;exact⟨a,rv1,⟨xs,sq⟩,k _ H1 ys _ L1 t1 rl1 (gj hy) z2⟩
 |sq ys=>
  obtain⟨a,xs,e,sf,r⟩:=rv1;exact⟨a,e,⟨xs,sf.sq⟩,k _ H1 ys (fun _=>True) L1 t1 rl1 (gj fun H L t _ _=>⟨xs,(sf.ts t).sq,r.ts t⟩) z1⟩
 |_=>exact z1.elim
theorem pP(lo:Int)(n:Nat):nJ G H₀ (Itr lo n) (wg lo n) (fun _=>True) where
 go:=fun i H L t rl kp hi=>show i<n by simpa[wg] using hi
 yld:=fun i H L x H' y t rl kp hy ⟨e,f⟩=>by
  subst e f;refine⟨DB _,rl,?_⟩;unfold wg at hy;rw[Ak] at hy;obtain⟨z,ez,e⟩:=Aj.mp hy;have:=Bv (i:=i) (n:=n) (by
   by_cases c:i<n
   ·exact c
   ·rw[Co (by simp;omega)] at ez;cases ez)
  rw[this] at ez;cases ez;subst e;rfl
 stop:=fun H L t rl kp=>by simp[wg,Itr]
theorem wj(hg:Gl X "range")(hm:X.mg "range" = none)(h:QA X [a] tr)(hs:starEach [a] X.env=[(false,eval a X.env)]:=by rfl):QI X tg (.Call (.Name "range" p) [a] [] pos) (cP tr):=
 PI.imp (uk hg hm h hs) fun σ H R ⟨τ,L,R3,rs,rl,z,k⟩=>by
 refine⟨τ,L,_,rs,rl,z,fun vs H1 ys L1 t1 rl1 rv1 z1=>?_⟩;split at z1
 ·rename_i j;obtain⟨x,rfl,r⟩:=rv1.inv1;cases r;exact⟨j,rfl,z1.1.1,z1.1.2,k _ H1 _ _ L1 t1 rl1 (pP 0 _) z1.2⟩
 ·exact z1.elim
end
section
variable {T:List Str}{wi:TI3} 
theorem fw:QF X [] rJ:=PF.imp aey fun σ H Q ⟨τ,L,Q3,rs,rl,z,k⟩=>k _ H L (DB _) rl z
theorem cA(h:QT X c tA):QF X [c] tA:=ahj h
theorem aee{g2:TG}(hg2:∀v σ H Q,upG G g v σ H Q->g2 v σ H Q)(σ:L2.St)(H:Hp)(Q:VK):n8 G (oG n wi g tA te) σ H Q->tLC n (upI G wi) g2 (upT G tA) (n8 G te) σ H Q:=fun⟨τ,L,Q3,rs,rl,z,k⟩=>by
 refine⟨τ,L,_,rs,rl,z,fun J H1 ys keep L1 t1 rl1 yl zz=>?_⟩;obtain⟨hz,W,w0,wk,turn,vd⟩:=aaz zz;refine⟨fun i m vs H'=>∃zs L',i+m=ys.length/\zs.length≤i/\j3 H1 H'/\xz G H' zs vs/\j7 G H' L'/\W i zs L',⟨ys.length,[],L1,by exact CJ _ _,Ag _,DB _,rfl,rl1,w0⟩,?_⟩;rintro i m vs H2 ⟨zs,L2,him,hzi,t2,rv2,rl2,w2⟩;by_cases hlt:i<ys.length
 ·refine .inr ⟨yl.go i H2 L2 t2 rl2 (wk i zs L2 w2) hlt,by rw[<-rv2.length];lia,?_⟩;intro x H3 y3;have ey:ys[i]?=some ys[i]:=Ae hlt;obtain⟨t3,rl3,rv3⟩:=yl.yld i H2 L2 x H3 _ t2 rl2 (wk i zs L2 w2) ey y3;refine hg2 _ _ _ _ ⟨ys[i],_,L2,_,rv3,(rs.ts ((t1.trans t2).trans t3)).more n,rl3,turn i _ zs L2 ey w2,fun σ4 H4 τ4 L4 t4 rs4 rl4 z4=>?_⟩;refine⟨τ4,L4,_,rs4,rl4,z4,fun b H5 L5 t5 rl5 z5=>?_⟩;cases b with
  |true=>
   rw[Av rfl];refine⟨τ4,L5,_,rs4.ts t5,rl5,z5,fun v6 H6 y6 L6 t6 rl6 rv6 ⟨L7,s7,z6⟩=>?_⟩;have tt:=((t3.trans t4).trans t5).trans t6;exact⟨m - 1,by omega,zs++[y6],L7,by lia,by rw[Ab,Ap];exact pe,t2.trans tt,(rv2.ts tt).app (xz.one rv6),rl6.sub s7,z6⟩
  |false=>
   rw[As Aq];have tt:=(t3.trans t4).trans t5;obtain⟨L7,s7,z6⟩:=z5;exact⟨m - 1,by lia,zs,L7,by lia,by exact yW,t2.trans tt,rv2.ts tt,rl5.sub s7,z6⟩
 ·have ei:i=ys.length:=by lia
  subst ei;refine .inl ⟨yl.stop H2 L2 t2 rl2 (wk _ zs L2 w2),by rw[<-rv2.length];lia,fun D hD=>?_⟩;exact k _ _ _ _ ((t1.trans t2).trans (DD hD)) (rl2.newL hD rv2) (by rfl) (vd zs L2 w2 D (rl2.none hD))
structure TGx(X:Cx)(scope:Scope)(T:List Str)(target:Expr)(g:kE):Prop where
 ex:∃g2:TG,(∀C fp s₀ H₀,PG (X.comp scope T C fp s₀ H₀) target g2)/\lQ g2 X.N.length T.length/\∀v σ H Q,upG X.g3 g v σ H Q->g2 v σ H Q
theorem acg(i:Nat)(v:V)(σ:L2.St)(H:Hp)(Q:L2.St->Hp->Prop):upG G (qb i) v σ H Q->cM i v σ H Q:=fun⟨y,τ,L,Q3,rv,rs,rl,z,k⟩=>
 k _ H _ L (DB _) (show ve _ _ _ (cz τ i y) by rw[wx];exact rs.set rv) rl z
theorem k7(hN:(X.N++[x]).Nodup)(hl:∀C fp s₀ H₀,tZ (X.comp scope [x] C fp s₀ H₀).env.scope x)(hfn:∀C fp s₀ H₀,(X.comp scope [x] C fp s₀ H₀).env.scope.names.lookup x=some .local):TGx X scope [x] (.Name x p) (qb X.N.length):=
 ⟨cM X.N.length,fun C fp s₀ H₀=>iJ (X:=X.comp scope [x] C fp s₀ H₀) hN (by show(X.N++[x])[X.N.length]?=some x;simp) (hl C fp s₀ H₀) (.inr (hfn C fp s₀ H₀)),rF _,acg _⟩
theorem u4{K:Ac}(n:Nat):lQ (agz K 2 (pQ (cM n) (pQ (cM (n+1)) ahk))) n 2:=by
 rintro σ hl x H Q ⟨a,xs,e,sq,len,v,r,e1,w,r',e2,e3,q⟩;refine⟨a,xs,e,sq,len,v,r,e1,w,r',e2,e3,⟨by simp[hl],fun i u ei=>?_⟩,q⟩;have hi:i<n:=by
  by_cases c:i<n
  ·exact c
  ·rw[Au (by lia),BN] at ei;split at ei<;>cases ei
 rw[A3 (by lia),A3 (by exact anf)];exact ei
theorem ah1(i j:Nat)(v:V)(σ:L2.St)(H:Hp)(Q:L2.St->Hp->Prop):upG G (aK 2 (zw (qb i) (zw (qb j) aF))) v σ H Q->agz G.K 2 (pQ (cM i) (pQ (cM j) ahk)) v σ H Q:=fun⟨y,τ,L,Q3,rv,rs,rl,z,k⟩=>by
 cases y with
 |tup ys=>
  obtain⟨a,xs,rfl,sq,r⟩:=rv;have z':(match ys.length==2 with | true=>zw (qb i) (zw (qb j) aF) ys τ L Q3 | false=>False):=z;split at z'
  ·rename_i e;have hl:ys.length=2:=beq_iff_eq.mp e
   match ys,hl with
   |[y1,y2],_=>
    obtain⟨x1,x2,rfl,r1,r2⟩:=r.inv2;have z2:Q3 (cz (cz τ i y1) j y2) L:=z';exact⟨a,_,rfl,sq,rfl,x1,[x2],rfl,x2,[],rfl,rfl,k _ H _ L (DB _) (by rw[wx,wx];exact(rs.set r1).set r2) rl z2⟩
  ·exact z'.elim
 |_=>exact z.elim
theorem iH{y:Str}{p' pt:Pos}{kt:Nat}(hc:X.calm=true)(hN:(X.N++[x,y]).Nodup)(hl:∀C fp s₀ H₀,(X.comp scope [x,y] C fp s₀ H₀).env.scope.names.lookup x=some .local)(hl2:∀C fp s₀ H₀,(X.comp scope [x,y] C fp s₀ H₀).env.scope.names.lookup y=some .local)
 (h1:∀env,(assignEach [.Name x p,.Name y p'] env).length=2:=by intro _;rfl) (h2:∀env,(assignEach [.Name x p,.Name y p'] env).findIdx? (·.1)=none:=by intro _;rfl)
 (h3:∀env,(assignEach [.Name x p,.Name y p'] env).map (·.2)=assign (.Name x p) env::(assignEach [.Name y p'] env).map (·.2):=by intro _;rfl) (h4:∀env,(assignEach [.Name y p'] env).map (·.2)=assign (.Name y p') env::(assignEach [] env).map (·.2):=by intro _;rfl):
 TGx X scope [x,y] (.Tuple [.Name x p,.Name y p'] kt pt) (aK 2 (zw (qb X.N.length) (zw (qb (X.N.length+1)) aF))):=
 ⟨_,fun C fp s₀ H₀=>zS (X:=X.comp scope [x,y] C fp s₀ H₀) hc (i5 (iJ hN (by show(X.N++[x,y])[X.N.length]?=some x;simp) (.inl (hl C fp s₀ H₀)) (.inr (hl C fp s₀ H₀))) (i5 (iJ hN (by show(X.N++[x,y])[X.N.length+1]?=some y;simp) (.inl (hl2 C fp s₀ H₀)) (.inr (hl2 C fp s₀ H₀))) sP (h4 _)) (h3 _)) (h1 _) (h2 _),u4 _,ah1 _ _⟩
theorem dO(T:List Str)(S:zx X scope)(hc:X.calm=true)(hi:QI X target iter wi)(hg:TGx X scope T target g)
 (hf:∀C fp s₀ H₀,QF (X.comp scope T C fp s₀ H₀) ifs tA) (he:∀C fp s₀ H₀,QE (X.comp scope T C fp s₀ H₀) elt te)
 (hs:∀x,foldedSetIterable iter X.env x=pure x:=by intro _;rfl):QE X (.ListComp elt [⟨target,iter,ifs,0⟩] scope pos) (oG T.length wi g tA te):=by
 obtain⟨g2,h1,h2,h3⟩:=hg.ex;exact DC (ajh T S hc hi h1 h2 hf he hs) (aee h3)
theorem fM(T:List Str)(hN:X.N.Nodup)(hix:X.N[i]?=some x)(hx:tZ X.env.scope x)(S:zx X scope)(hc:X.calm=true)(hi:QI X target iter wi)
 (hg:TGx X scope T target g) (hf:∀C fp s₀ H₀,QF (X.comp scope T C fp s₀ H₀) ifs tA) (he:∀C fp s₀ H₀,QE (X.comp scope T C fp s₀ H₀) elt te)
 (hsw:swapsWith (.ListComp elt [⟨target,iter,ifs,0⟩] scope lp) (some (.Name x px)) pos.line X.env=pure true:=by rfl)
 (hfn:X.fn x=true\/X.env.scope.names.lookup x=some .local:=by first | exact .inl rfl | exact .inr rfl | assumption)
 (hs:∀x,foldedSetIterable iter X.env x=pure x:=by intro _;rfl):QS X (.Assign [.Name x px] (.ListComp elt [⟨target,iter,ifs,0⟩] scope lp) pos) (z8 (oG T.length wi g tA te) (qb i)):=by
 obtain⟨g2,h1,h2,h3⟩:=hg.ex;refine DH (wC (tc:=upT X.g3 tA) (te:=n8 X.g3 te) T hN hix hx S hc hi h1 h2 hf he hsw hfn hs) fun D σ H ⟨τ,L,D3,rs,rl,z,k⟩=>?_;refine aee h3 σ H _ ⟨τ,L,_,rs,rl,z,fun v H1 y L1 t1 rl1 rv1 z1=>?_⟩;exact k.nx _ H1 _ L1 t1 (show ve _ _ _ (cz τ i y) by rw[wx];exact(rs.ts t1).set rv1) rl1 z1
def dn(G:G3)(sp:j4):Sp:=fun vs H Q _=>∃ys L Q3,xz G H ys vs/\j7 G H L/\sp ys L Q3/\tM G H Q3 Q
abbrev afv(P:Program)(w:World)(K:Ac)(mg:Str->Option Value)(base:Heap)(k:Nat)(x:Str)(ps:List Str)(sp:j4):Prop:=yJ P w K mg base k x ps (dn ⟨K,P,w⟩ sp)
abbrev Fn3(P:Program)(w:World)(K:Ac)(mg:Str->Option Value)(base:Heap)(k:Nat)(f:Addr)(fd:FuncData)(ps:List Str)(sp:j4):Prop:=aB P w K mg base CX0 k f fd ps (dn ⟨K,P,w⟩ sp)
theorem an3{k:Nat}{sp:j4}(c:afv X.prog X.w X.K X.mg X.base k x ps sp)(hr:v8 k X.A)(hg:Gl X x)(ha:QA X (e::es) tr)(hdb:Dx x:=by decide)
 (he:Dv e es X:=by rfl) (hpl:Dw pos es X:=by rfl):QE X (.Call (.Name x p) (e::es) [] pos) (qz sp tr):=
 DC (amt c hr hg ha hdb he hpl) fun σ H Q ⟨τ,L,Q3,rs,rl,z,k⟩=>
 ⟨τ,L,_,rs,rl,z,fun vs H1 ys L1 t1 rl1 rv1 z1=>⟨ys,L1,Q3,by rw[AL];exact rv1,rl1,z1,k.ts t1⟩⟩
def cV(Q:YK):YK:=fun y L=>∃L2,qf L2 L/\Q y L2
def fY(N:List Str)(ys:List Y):jb:=ys.map some++List.replicate (N.length - ys.length) none
theorem mD{N:List Str}{vs:List V}(r:xz G H ys vs):ve G H (L2.start N vs) (fY N ys):=by unfold L2.start fY;rw[<-r.length];refine ve.more ⟨by simp[r.length],fun i y e=>?_⟩ _;rw[Ak] at e;obtain⟨y',e1,e2⟩:=Aj.mp e;cases e2;obtain⟨x,ex,rx⟩:=r.get e1;exact⟨x,by rw[Ak,ex];rfl,rx⟩
theorem ok3{P:Program}{w:World}{K:Ac}{N:List Str}{k:Nat}{sp:j4}(F:Fun K x qual st f fd)(S:aO N ps (qk st))(len:∀ys L Q,sp ys L Q->ys.length=ps.length)
 (hbody:∀(cdv:Value) (A:Around) (outer:List Env) (s:Shared) (H:Hp) (E:XK),v8 k (A.deeper (PyProof.Rows.envOfC qual (qk st) s.heap.objs.size f cdv))->
  ∃t,pj (cW CX0 P w K mg base N qual (qk st) f cdv A outer s H E).nox (zn st) t/\∀ys L Q,sp ys L Q->t { nx:=fun _ L'=>cV Q .non L',rt:=cV Q } (fY N ys) L):Fn3 P w K mg base (k+1) f fd ps sp:=by
 refine F.ok S (fun vs H Q E ⟨ys,L,Q3,rv,rl,z,_⟩=>by rw[<-rv.length];exact len ys L Q3 z) fun cdv A outer s H vs Q E hr ⟨ys,L,Q3,rv,rl,z,k⟩=>?_;obtain⟨t,ht,q⟩:=hbody cdv A outer s H E hr;refine⟨_,ht,fY N ys,L,_,mD rv,rl,q ys L Q3 z,?_⟩;refine⟨fun σ H' τ L' t' rs' rl' ⟨L2,s2,q2⟩=>k .non H' .non L2 t' (rl'.sub s2) (by rfl) q2,fun v H' y L' t' rl' rv' ⟨L2,s2,q2⟩=>k v H' y L2 t' (rl'.sub s2) rv' q2,fun _ _ _ _ _ _ _ z=>z.elim,fun _ _ _ _ _ _ _ z=>z.elim⟩
def upM(G:G3)(r:Y->List Y->qo->YK->Prop):V->List V->Hp->VK->Prop:=fun x xs H Q=>∃y ys L Q3,RV G H y x/\xz G H ys xs/\j7 G H L/\r y ys L Q3/\tM G H Q3 Q
theorem zJ:lE X "list.append" (upM X.g3 xa):=lE.imp ud fun x xs H Q ⟨y,ys,L,Q3,r1,r2,rl,z,k⟩=>by
 unfold xa at z;split at z
 ·rename_i a v;obtain⟨zs,e,z⟩:=xr z;obtain⟨us,e2,r⟩:=rl a _ e;obtain⟨v',rfl,rv⟩:=r2.inv1;exact⟨a,us,v',r1,rfl,e2,by rw[<-r.length];exact z.1,k _ _ _ _ (j3.lst e2) (rl.setL e2 (r.app (xz.one rv))) (by rfl) z.2⟩
 ·exact z.elim
theorem wH:lE X "list.extend" (upM X.g3 e9):=lE.imp uY fun x xs H Q ⟨y,ys,L,Q3,r1,r2,rl,z,k⟩=>by
 unfold e9 at z;split at z
 ·rename_i a b;obtain⟨zs,e,z⟩:=xr z;obtain⟨us,e',z⟩:=xr z;obtain⟨vs,e2,r⟩:=rl a _ e;obtain⟨ws,e3,r'⟩:=rl b _ e';obtain⟨v',rfl,rv⟩:=r2.inv1;cases rv;exact⟨a,b,vs,ws,r1,rfl,e2,e3,by rw[<-r.length,<-r'.length];exact z.1,k _ _ _ _ (j3.lst e2) (rl.setL e2 (r.app r')) (by rfl) z.2⟩
 ·exact z.elim
theorem acl(rl:j7 G H L)(h:bS L (.ref a)=some ys):tyV G.K "list" (.ref a) H:=by obtain⟨xs,sq,_⟩:=cJ rl h;exact .inl ⟨rfl,xs,sq⟩
def gY(r:Y->List Y->qo->YK->Prop)(to:jz)(t:cN)(τ:jb)(L:qo)(Q:YK):Prop:=to τ L fun x L1=>match x with
 |.ref a=>hE L1 (.ref a) fun _=>t τ L1 fun xs L2=>r (.ref a) xs L2 Q
 |_=>False
theorem nH{id:String}{r:Y->List Y->qo->YK->Prop}(h2:Slot "list" name id)(h3:typeOf (.builtin id)=pure (.type "method_descriptor"))(hm:lE X id (upM X.g3 r))(ho:QE X o to)(ha:QA X (e::es) tr)
 (h4:attributeBase o name X.env (eval o X.env)=eval o X.env:=by rfl)
 (h5:((backTo cpos (starEach (e::es) X.env)).all (fun x=>!x.1)&&(backToKw cpos (keywordEach [] X.env)).all (fun x=>x.1.isSome)&&decide ((e::es).length+([]:List Keyword).length+(if ([]:List Keyword).isEmpty=true then 0 else 1)<30))=true:=by rfl)
 (h6:(apos.endLine==cpos.line)=true:=by rfl) (h7:Dv e es X:=by rfl) (h8:Dw cpos es X:=by rfl):
 QE X (.Call (.Attribute o name apos) (e::es) [] cpos) (gY r to tr):=DC (ae5 PySem.F.plainAttrs_list h2 h3 hm ho ha h4 h5 h6 h7 h8) fun σ H Q ⟨τ,L,Q3,rs,rl,z,k⟩=>
 ⟨τ,L,_,rs,rl,z,fun v H1 y L1 t1 rl1 rv1 z1=>by
  split at z1
  ·rename_i a;obtain⟨ys,es,z1⟩:=aD z1;exact⟨by cases rv1;exact acl rl1 es,τ,L1,_,rs.ts t1,rl1,z1,fun vs H2 ys L2 t2 rl2 rv2 z2=>⟨.ref a,ys,L2,Q3,rv1.ts t2,rv2,rl2,z2,k.ts (t1.trans t2)⟩⟩
  ·exact z1.elim⟩
theorem jg(ho:QE X o to)(ha:QA X (e::es) tr)(h4:attributeBase o "append" X.env (eval o X.env)=eval o X.env:=by rfl)
 (h5:((backTo cpos (starEach (e::es) X.env)).all (fun x=>!x.1)&&(backToKw cpos (keywordEach [] X.env)).all (fun x=>x.1.isSome)&&decide ((e::es).length+([]:List Keyword).length+(if ([]:List Keyword).isEmpty=true then 0 else 1)<30))=true:=by rfl)
 (h6:(apos.endLine==cpos.line)=true:=by rfl) (h7:Dv e es X:=by rfl) (h8:Dw cpos es X:=by rfl):
 QE X (.Call (.Attribute o "append" apos) (e::es) [] cpos) (gY xa to tr):=nH PySem.F.slot_list_append PySem.F.type_list_append zJ ho ha h4 h5 h6 h7 h8
theorem lK(ho:QE X o to)(ha:QA X (e::es) tr)(h4:attributeBase o "extend" X.env (eval o X.env)=eval o X.env:=by rfl)
 (h5:((backTo cpos (starEach (e::es) X.env)).all (fun x=>!x.1)&&(backToKw cpos (keywordEach [] X.env)).all (fun x=>x.1.isSome)&&decide ((e::es).length+([]:List Keyword).length+(if ([]:List Keyword).isEmpty=true then 0 else 1)<30))=true:=by rfl)
 (h6:(apos.endLine==cpos.line)=true:=by rfl) (h7:Dv e es X:=by rfl) (h8:Dw cpos es X:=by rfl):
 QE X (.Call (.Attribute o "extend" apos) (e::es) [] cpos) (gY e9 to tr):=nH PySem.F.slot_list_extend PySem.F.type_list_extend wH ho ha h4 h5 h6 h7 h8
end
abbrev uc:iL:=yI0 fun i j=>.int (i - j)
abbrev hJ:iL:=yI vJ fun i j=>.int (i*j)
abbrev ao:iL:=yI aft fun i j=>.int (i / j)
abbrev aj:iL:=yI (fun _ j=>0<j) fun i j=>.int (i % j)
abbrev anb:iL:=yI ahs fun i j=>.int (i ^ j.toNat)
abbrev yLt:iL:=yI0 fun i j=>.bl (decide (i<j))
abbrev yLe:iL:=yI0 fun i j=>.bl (decide (i≤j))
abbrev yGt:iL:=yI0 fun i j=>.bl (decide (j<i))
abbrev aeg:iL:=ipY fun i j=>i+j
abbrev yP:iL:=ipY fun i j=>i - j
theorem afq :PIp X .Add (dP X.g3 aeg):=akg ag3
theorem xV :PIp X .Sub (dP X.g3 yP):=akg agg
structure ag5(G:G3)(mg:Str->Option Value)(x:Str)(y:Y):Prop where
 ex:∃c,mg x=some (.ref c)/\∀H,RV G H y (.ref c)
theorem xC(t:ag5 X.g3 X.mg x y)(hg:Gl X x)(hd:Dx x:=by decide):QE X (.Name x pos) (yC y):=by obtain⟨c,hm,q⟩:=t.ex;exact ajm hg hm q hd
def lB(t:jz):Prop:=∀τ L Q,t τ L Q->∃v,Q v L/\∀L' Q',qf L L'->Q' v L'->t τ L' Q'
theorem agh(i:Nat):lB (qa i):=fun τ L Q h=>by
 unfold qa at h ⊢;split at h
 ·rename_i y e;exact⟨y,h,fun L' Q' _ q=>q⟩
 ·exact h.elim
theorem aje(y:Y):lB (yC y):=fun _ _ _ h=>⟨y,h,fun _ _ _ q=>q⟩
theorem ajt{C:Int->Int->Prop}{g:Int->Int->Y}(ha:lB ta)(hb:lB tb):lB (zg (yI C g) ta tb):=fun τ L Q h=>by
 obtain⟨x,h1,k1⟩:=ha τ L _ h;obtain⟨y,h2,k2⟩:=hb τ L _ h1;cases x with
 |int i=>
  cases y with|int j=>exact⟨g i j,h2.2,fun L' Q' s q=>k1 L' _ s (k2 L' _ s ⟨h2.1,q⟩)⟩|_=>exact h2.elim
 |_=>cases y<;>exact h2.elim
theorem eF{Q:α->qo->Prop}{o:Option α}(h:ur L Q o):∃v,o=some v/\Q v L:=by cases o with|none=>exact h.elim|some v=>exact⟨v,rfl,h⟩
def ae3(t:cN)(ti:jz)(τ:jb)(L:qo)(Q:YK):Prop:=t τ L fun ys L1=>match Nat.ble ys.length 1000 with
 |true=>ti τ L1 fun i L2=>match i with
  |.int i=>ur L2 Q (bW ys i)
  |_=>False
 |false=>False
theorem abx{b:Expr}(h:QA X es tr)(hb:QE X b tb)(pu:lB tb)(hp:iA b):QE X (.Subscript (.List es lp) b pos) (ae3 tr tb):=DC (aep (aec X.K X.prog X.w) (y9 h) hb hp) fun σ H Q ⟨τ,L,Q3,rs,rl,z,k⟩=>by
 refine⟨τ,L,_,rs,rl,z,fun vs H1 ys L1 t1 rl1 rv1 z1=>?_⟩;cases e:Nat.ble ys.length 1000 with
 |false=>rw[e] at z1;exact z1.elim
 |true=>
  rw[e] at z1;have:=Cp e;refine⟨bQ (by rw[<-rv1.length];exact this),fun p hp=>?_⟩;obtain⟨v,zv,kv⟩:=pu τ L1 _ z1;have sb:qf L1 (qd L1 p (.lst ys)):=By (rl1.none hp);refine⟨τ,qd L1 p (.lst ys),fun v' L'=>v'=v/\L'=qd L1 p (.lst ys),rs.ts (t1.trans (DD hp)),rl1.newL hp rv1,kv _ _ sb ⟨rfl,rfl⟩,?_⟩;rintro v2 H2 y2 L2 t2 rl2 rv2 ⟨rfl,rfl⟩;refine⟨.ref p,y2,_,fun y L'=>L'=qd L1 p (.lst ys)/\Q3 y L1,rfl,rv2,rl2,?_,?_⟩
  ·cases y2 with
   |int i=>
    obtain⟨u,eu,qu⟩:=eF zv;refine qg q8 ?_;rw[eu];exact⟨rfl,qu⟩
   |_=>exact zv.elim
  ·rintro v3 H3 y3 L3 t3 rl3 rv3 ⟨rfl,q3⟩;exact k v3 H3 y3 L1 (t1.trans ((DD hp).trans (t2.trans t3))) (rl3.sub sb) rv3 q3
theorem sM(h:(wg lo n)[i]?=some y):i<n/\y=.int (lo+i):=by
 unfold wg at h;rw[Ak] at h;obtain⟨z,ez,e⟩:=Aj.mp h;have hi:i<n:=by
  by_cases c:i<n
  ·exact c
  ·rw[Co (by simp;exact abg)] at ez;cases ez
 rw[Bv hi] at ez;cases ez;exact⟨hi,e.symm⟩
theorem iq(lo:Int)(n:Nat):(wg lo n).length=n:=by simp[wg]
theorem eK{tb:k6}(W:Nat->jb->qo->Prop)(h0:W 0 τ L)
 (hs:∀i τ L,i<n->W i τ L->g (.int (lo+i)) τ L fun τ2 L2=>tb { D with nx:=bT (W (i+1)),ct:=bT (W (i+1)),bk:=D.nx } τ2 L2) (hd:∀τ L,W n τ L->D.nx τ L):rM (wg lo n) (fun _=>True) g tb D τ L:=by
 refine aN ⟨W,h0,fun _ _ _ _=>trivial,fun i y τ L e w=>?_,fun τ L w=>hd τ L (by rw[iq] at w;exact w)⟩;obtain⟨hi,rfl⟩:=sM e;exact hs i τ L hi w
theorem vk{tb:k6}(h:bS L (.ref a)=some ys)(W:Nat->jb->qo->Prop)(h0:W 0 τ L)(hk:∀i τ L',W i τ L'->L' a=L a)
 (hs:∀i y τ L,ys[i]?=some y->W i τ L->g y τ L fun τ2 L2=>tb { D with nx:=bT (W (i+1)),ct:=bT (W (i+1)),bk:=D.nx } τ2 L2) (hd:∀τ L,W ys.length τ L->D.nx τ L):
 qX L a fun ys keep L1=>rM ys keep g tb D τ L1:=jo (lA h) fun keep kp=>aN ⟨W,h0,fun i τ L' w=>kp L' (hk i τ L' w),hs,hd⟩
theorem bK{keep:qo->Prop}{tc:i9}{Q:YK}(I:Nat->List Y->Prop)(hz:ys.length<sizeLine)(hk:keep L)(h0:I 0 [])
 (turn:∀(i:Nat) y zs,ys[i]?=some y->I i zs->g y (τ++List.replicate n none) L fun τ2 L2=>tc τ2 L2 fun b L3=>ku b (te τ2 L3 fun z L4=>bT (fun zs L'=>L'=L/\I (i+1) zs) (zs++[z]) L4) (bT (fun zs L'=>L'=L/\I (i+1) zs) zs L3))
 (hq:∀zs,I ys.length zs->∀p,L p=none->Q (.ref p) (qd L p (.lst zs))):lcK ys keep n g tc te τ L Q:=by
 refine rE ⟨hz,fun i zs L'=>L'=L/\I i zs,⟨rfl,h0⟩,?_,?_,?_⟩
 ·rintro i zs L' ⟨rfl,_⟩;exact hk
 ·rintro i y zs L' ey ⟨rfl,hI⟩;exact turn i y zs ey hI
 ·rintro zs L' ⟨rfl,hI⟩ p hp;exact hq zs hI p hp
theorem yy{tc:i9}{Q:YK}(I:Nat->List Y->Prop)(hz:m<sizeLine)(h0:I 0 [])
 (turn:∀(i:Nat) zs,i<m->I i zs->g (.int (lo+i)) (τ++List.replicate n none) L fun τ2 L2=>tc τ2 L2 fun b L3=>ku b (te τ2 L3 fun z L4=>bT (fun zs L'=>L'=L/\I (i+1) zs) (zs++[z]) L4) (bT (fun zs L'=>L'=L/\I (i+1) zs) zs L3))
 (hq:∀zs,I m zs->∀p,L p=none->Q (.ref p) (qd L p (.lst zs))):lcK (wg lo m) (fun _=>True) n g tc te τ L Q:=by
 refine bK (keep:=fun _=>True) I (by rw[iq];exact hz) trivial h0 (fun i y zs e hI=>?_) fun zs hI=>hq zs (by rw[iq] at hI;exact hI);obtain⟨hi,rfl⟩:=sM e;exact turn i zs hi hI
theorem l7(ys:List Y)(n:Nat):hV ys (some ((n:Nat):Int)) none=ys.drop n:=by
 unfold hV;rw[HT.sIx_nat,HT.sIx_none];by_cases h:n≤ys.length
 ·rw[BU h,Bs (by rw[Ba];simp +arith only)]
 ·rw[Nat.min_eq_right (by lia),Dg (Ag _),Dg (by lia),List.take_nil]
theorem tO(ys:List Y)(n:Nat):hV ys none (some ((n:Nat):Int))=ys.take n:=by
 unfold hV;rw[HT.sIx_nat,HT.sIx_none,Dp,Nat.sub_zero];by_cases h:n≤ys.length
 ·rw[BU h]
 ·rw[Nat.min_eq_right (by lia),Bs (Ag _),Bs (by lia)]
theorem ai{ws:List α}{f:α->Y}{w:α}(h:ws[i]?=some w):bW (ws.map f) (i:Int)=some (f w):=vn (by rw[Ak,h];rfl)
def x8(t:k6)(n:Nat)(ys:List Y)(L:qo)(Q:YK):Prop:=t { nx:=fun _ L'=>cV Q .non L',rt:=cV Q } (ys.map some++List.replicate (n - ys.length) none) L
theorem vd{Q:YK}(h:Q y L):cV Q y L:=⟨L,DA L,h⟩
theorem ac{Q:YK}(s:qf L L')(h:Q y L):cV Q y L':=⟨L,s,h⟩
theorem Fn3.never{P:Program}{w:World}{K:Ac}{k:Nat}{sp:j4}(no:∀ys L Q,¬sp ys L Q):Fn3 P w K mg base k f fd ps sp:=
 aB.never fun vs H Q E ⟨ys,L,Q3,_,_,z,_⟩=>no ys L Q3 z
theorem qf.upd{o:LO}(s:qf L L')(h:L a=none):qf L (qd L' a o):=fun b u e=>by rw[qe (ki e h)];exact s b u e
theorem qf.put{o:LO}(s:qf L L')(h:L' a=some o):qf (qd L a o) L':=fun b u e=>by
 by_cases c:b=a
 ·subst c;rw[q8] at e;cases e;exact h
 ·rw[qe c] at e;exact s b u e
abbrev DP:=@qf.put
def r6:j4:=fun ys L Q=>∃ns:List Int,ys=[.sq (ns.map Y.int)]/\ns.length≤63/\L=(fun _=>none)/\∀L',Q (.bl true) L'
def spTop(K:Ac):Sp:=fun vs H Q _=>∃(a:Addr) (ns:List Int),vs=[.ref a]/\SqF K H a (ns.map V.int)/\ns.length≤63/\∀H',Q (.bl true) H'
theorem pJ{G:G3}{H:Hp}:∀ns:List Int,xz G H (ns.map Y.int) (ns.map V.int)
 |[]=>rfl
 |_::r=>⟨_,_,rfl,rfl,pJ r⟩
theorem agu{vs:List V}{Q:VK}{E:XK}(h:spTop G.K vs H Q E):dn G r6 vs H Q E:=by obtain⟨a,ns,rfl,hs,hl,q⟩:=h;refine⟨[.sq (ns.map Y.int)],fun _=>none,fun y _=>y=.bl true,xz.one ⟨a,_,rfl,hs,pJ ns⟩,(fun _ _ e=>by cases e),⟨ns,rfl,hl,rfl,fun _=>rfl⟩,?_⟩;rintro v H' y L' _ _ rv rfl;cases rv;exact q H'
theorem top_start:∀(K:Ac) (H:Hp) (a:Addr) (ns:List Int),ns.length≤63->aav H->aG K H a (ns.map V.int)->spTop K [.ref a] H (fun v _=>v=.bl true) fun _ _ _=>False:=by
 intro K H a ns hl hO hS;refine⟨a,ns,rfl,?_,hl,fun _=>rfl⟩;rcases hS with(h | ⟨o,h⟩) | h
 ·rcases hO a with z | ⟨o,xs,z⟩<;>rw[h] at z<;>cases z
 ·exact .inl ⟨o,h⟩
 ·exact .inr h
end L3
namespace L2
open PySem PySem.Spec PyProof.Rows
section
variable {σ:L2.St} 
theorem iU(I:qt X pins σ H s)(hf:∀b∈fp,H b=none)(k:∀b o,b∉fp->s.heap.get? b=some o->h'.get? b=some o):bx X.prog X.w H h':=fun b u e=>by
 refine(I.hok b u e).stay (fun c v hc q=>k c v (fun z=>?_) q) (fun _ q=>q) fun _ _ q=>q;have hn:=hf c z;rcases hc with w | w
 ·rw[w,e] at hn;cases hn
 ·rw[w] at hn;cases hn
theorem uo{fs:List Addr}(k:∀b o,b∉fp->h.get? b=some o->h'.get? b=some o):Un fs fp H H h h':=
 ⟨fun b o q _ _ x=>k b o x q,fun b o q _ _ x=>⟨o.slots,k b o x q⟩,fun _ _ _ n _=>n,fun b o q x=>⟨o,k b o x q⟩,fun _ _ q=>q,fun _ _ _ q=>q,fun b ps q=>⟨#[],by rw[q];simp⟩⟩
theorem qt.turnedL(I:qt X pins σ H s)(k:∀b o,b∉fp->s.heap.get? b=some o->h'.get? b=some o)(hf:∀b∈fp,kS X pins H b)(ht:0<t':=by walk_at "t"):qt X pins σ H { s with heap:=h',toks:=t' }:=
 I.call' (s':={ s with heap:=h',toks:=t' }) (ch:=fp) rfl (uo k) (iU I (fun b hb=>(hf b hb).1) k) I.bare fun b hb=>⟨(hf b hb).2.2.2.1,(hf b hb).2.1,(hf b hb).2.2.2.2.1,(hf b hb).2.2.2.2.2⟩
theorem qt.turnedN{o:HO}(I:qt X pins σ H s)(k:∀b o,b∉fp->s.heap.get? b=some o->h'.get? b=some o)(hf:∀b∈fp,kS X pins H b)(ha:s.heap.objs.size≤a)
 (new:xj X.prog X.w (upd H a o) h' a o) (ht:0<t':=by walk_at "t"):qt X pins σ (upd H a o) { s with heap:=h',toks:=t' }:=by
 have hn:H a=none:=I.hok.fresh ha;have lt:∀b ob,s.heap.get? b=some ob->b≠a:=fun b ob q=>A6 (AG (Heap.lt_size q) ha);refine I.call' (s':={ s with heap:=h',toks:=t' }) (ch:=fp) rfl ?_ ?_ I.bare fun b hb=>⟨(hf b hb).2.2.2.1,(hf b hb).2.1,(hf b hb).2.2.2.2.1,(hf b hb).2.2.2.2.2⟩
 ·exact⟨fun b ob q _ _ x=>k b ob x q,fun b ob q _ _ x=>⟨ob.slots,k b ob x q⟩,fun b ob q n _=>by rw[z7 (lt b ob q)];exact n,fun b ob q x=>⟨ob,k b ob x q⟩,
   fun b xs q=>by rw[z7 (j8 q hn)];exact q,fun b ob u q=>by rw[z7 (j8 q hn)];exact q,fun b ps q=>⟨#[],by rw[z7 (j8 q hn),q];simp⟩⟩
 ·intro b u e;by_cases hb:b=a
  ·subst hb;rw[xk] at e;cases e;exact new
  ·rw[z7 hb] at e;have ok:=iU I (h':=h') (fun b hb=>(hf b hb).1) k b u e;exact ok.stay (fun _ _ _ q=>q) (fun c q=>by rw[z7 (j8 q hn)];exact q) fun c xs q=>by rw[z7 (j8 q hn)];exact q
end
def Ite(K:Ac)(a:Addr):It:=
 ⟨fun i H=>∃xs x,aG K H a xs/\xs[i]?=some x,fun i H v H'=>∃p x,H p=none/\v=.ref p/\H'=upd H p (.tup [.int i,x])/\∀xs,aG K H a xs->xs[i]?=some x,fun i H=>∃xs,aG K H a xs/\xs.length≤i⟩
theorem uX{P:Program}{w:World}{K:Ac}(a e it:Addr)(hne:e≠it):ab7 P w K (.Tuple elts x1 tp) (Ite K a) [e,it] e (fun i h=>(∃old,IsEnum h e it i old)/\h.IsListIter it a i) where
 mem:=by simp
 obj:=fun i h ⟨⟨old,he⟩,hi⟩ b hb=>by
  rcases AC.mp hb with rfl | hb
  ·exact⟨_,he,fun v z=>by cases z⟩
  ·cases Ai.mp hb;obtain⟨o,ho,hc,hd⟩:=hi;exact⟨o,ho,fun v z=>by rw[hd] at z;cases z⟩
 keep:=fun i h h' ⟨⟨old,he⟩,hi⟩ k=>⟨⟨old,k e (by simp) _ he⟩,hi.at fun o q=>k it (by simp) o q⟩
 item:=by
  intro X hP hw hK hc i pins s σ H E I hf ⟨⟨old,he⟩,hi⟩ hg;subst hP hw hK;obtain⟨xs,x,hq,hx⟩:=hg;obtain⟨its,rv,p,hz⟩:=I.list hq;obtain⟨u,hu,ru⟩:=rv.get hx;refine wpAny_pyNext_enum_item he hi p.isList (x:=u) (by simpa using hu) hne fun h1 heo hi1 ht hz1 hk=>⟨.ref s.heap.objs.size,rfl,wpAny_letOwnedTupleGo_enum heo fun h2 he2 hs2=>?_⟩;have el:e<s.heap.objs.size:=Heap.lt_size he;have il:it<s.heap.objs.size:=by obtain⟨o,ho,_⟩:=hi;exact Heap.lt_size ho
  have kk:∀b o,b∉[e,it]->s.heap.get? b=some o->h2.get? b=some o:=fun b o nb q=>by have n1:b≠e:=fun z=>nb (by simp[z]);have n2:b≠it:=fun z=>nb (by simp[z]);exact hs2.extBut b o n1 (hk b o n1 n2 q)
  have tg:h2.get? s.heap.objs.size=some { cls:=.type "tuple",data:=.seq #[.int i s.toks,u] }:=hs2.extBut _ _ (Nat.ne_of_gt el) ht;refine⟨.ref s.heap.objs.size,upd H s.heap.objs.size (.tup [.int i,x]),?_,rfl,⟨_,x,I.hok.fresh (Ag _),rfl,rfl,fun ys hy=>by rw[I.list_inj hy hq];exact hx⟩,⟨⟨_,he2⟩,hi1.at fun o q=>hs2.extBut _ _ (AS hne) q⟩,fun b hb=>?_⟩
  ·exact I.turnedN (t':=s.toks+1) kk hf (Ag _) ⟨by show 2≤sizeLine;decide,[.int i s.toks,u],.cons ⟨_,rfl⟩ (.cons ru .nil),⟨_,tg,rfl,_,rfl⟩⟩
  ·have hb':b<s.heap.objs.size:=by rcases AC.mp hb with rfl | hb;exact el;cases Ai.mp hb;exact il
   rw[z7 (A6 hb')];exact(hf b hb).1
 done:=by intro X hP hw hK hc i pins s σ H E I hf ⟨⟨old,he⟩,hi⟩ hg;subst hP hw hK;obtain⟨xs,hq,hx⟩:=hg;obtain⟨its,rv,p,hz⟩:=I.list hq;have hl:=rv.length;exact wpAny_pyNext_enum_end (I.ok.hd hc) he hi p.isList (by simp;omega) fun h1 eb=>⟨rfl,I.turnedL (t':=s.toks) (fp:=[e,it]) (fun b o nb q=>eb b o (fun z=>nb (by simp[z])) q) hf⟩
 self:=fun _ _ _ _ _ ⟨⟨_,he⟩,_⟩ h=>wpAny_pyIter_enum he h
def aj8(K:Ac)(ta:TA):TI:=fun σ H R=>ta σ H fun vs H1=>∃a,vs=[.ref a]/\(∃xs,aG K H1 a xs)/\R (Ite K a) H1
theorem mq:bootBuiltins "enumerate" = some (.type "enumerate"):=by decide +kernel
theorem adb{a:Expr}{ta:TA}(hg:Gl X "enumerate")(hm:X.mg "enumerate" = none)(ha:PA X [a] ta)(hs:starEach [a] X.env=[(false,eval a X.env)]:=by rfl):
 PI X (.Tuple elts x1 tp) (.Call (.Name "enumerate" p) [a] [] pos) (aj8 X.K ta):=by
 intro pins s σ H R I h;refine Call_ (dZ I hg hm mq (BY (xc (ha pos pins s σ H _ I h) fun us s1 ⟨vs,H1,I1,r1,q1⟩=>?_) hs rfl));obtain⟨l,e,⟨xs,hq⟩,q⟩:=q1;subst e;obtain⟨u,rfl,ru⟩:=pX r1;cases ru;obtain⟨its,rv,pl,hz⟩:=I1.list hq;refine call_enumerate_list pl.isList fun h1 he hi hsz hk=>?_;have I2:qt X pins σ H1 { s1 with heap:=h1 }:=I1.kept (t':=s1.toks) hk;refine wpAny_pyIter_enum (s:={ s1 with heap:=h1 }) he ?_;refine⟨s1.heap.objs.size+1,[s1.heap.objs.size+1,s1.heap.objs.size],_,_,H1,rfl,I2,uX l _ _ (Nat.succ_ne_self _),⟨⟨_,he⟩,hi⟩,fun b hb=>?_,q⟩;have hb':s1.heap.objs.size≤b:=by rcases AC.mp hb with rfl | hb;exact B1 _;cases Ai.mp hb;exact Ag _
 exact I1.fpOk hb' (I1.hok.fresh hb')
end L2
namespace L3
open PySem L2
theorem gg{keep:qo->Prop}(h:∀H L,j3 H₀ H->j7 G H L->keep L->∃xs,aG G.K H a xs/\xz G H ys xs):nJ G H₀ (Ite G.K a) (ys.zipIdx.map fun p=>Y.tup [.int (p.2:Nat),p.1]) keep where
 go:=fun i H L t rl kp hi=>by
  obtain⟨xs,sq,r⟩:=h H L t rl kp;have:i<xs.length:=by rw[<-r.length];simpa using hi
  exact⟨xs,xs[i],sq,Ae this⟩
 yld:=fun i H L x H' y t rl kp hy ⟨p,z,hp,e1,e2,f⟩=>by subst e1 e2;obtain⟨xs,sq,r⟩:=h H L t rl kp;rw[Ak,List.getElem?_zipIdx] at hy;obtain⟨⟨y',j⟩,ey,e3⟩:=Aj.mp hy;obtain⟨y'',ey',e4⟩:=Aj.mp ey;cases e4;subst e3;obtain⟨x',e',rv⟩:=r.get ey';have:=f xs sq;rw[e'] at this;cases this;refine⟨DD hp,rl.skip hp,p,_,rfl,fU.of xk,⟨_,_,rfl,?_,_,_,rfl,rv.ts (DD hp),rfl⟩⟩;show V.int _=V.int _;congr 1;simp
 stop:=fun H L t rl kp=>by obtain⟨xs,sq,r⟩:=h H L t rl kp;exact⟨xs,sq,by rw[Aa,List.length_zipIdx,r.length];exact Ag _⟩
def kB(ys:List Y):List Y:=ys.zipIdx.map fun p=>Y.tup [.int (p.2:Nat),p.1]
theorem aw(h:(kB ys)[i]?=some y):∃z,ys[i]?=some z/\y=.tup [.int i,z]:=by unfold kB at h;rw[Ak,List.getElem?_zipIdx] at h;obtain⟨⟨y',j⟩,ey,e3⟩:=Aj.mp h;obtain⟨y'',ey',e4⟩:=Aj.mp ey;cases e4;exact⟨y',ey',by rw[<-e3];simp⟩
theorem aS(ys:List Y):(kB ys).length=ys.length:=by simp[kB]
def bN(tl:jz)(τ:jb)(L:qo)(R:List Y->(qo->Prop)->qo->Prop):Prop:=tl τ L fun x L1=>match x with
 |.ref a=>qX L1 a fun ys keep L=>R (kB ys) keep L
 |.sq ys=>R (kB ys) (fun _=>True) L1
 |_=>False
theorem af{a:Expr}(hg:Gl X "enumerate")(hm:X.mg "enumerate" = none)(ha:QE X a te)(hs:starEach [a] X.env=[(false,eval a X.env)]:=by rfl)
 (hs2:starEach [a] X.env=(false,eval a X.env)::starEach [] X.env:=by rfl):QI X (.Tuple elts x1 tp) (.Call (.Name "enumerate" p) [a] [] pos) (bN te):=PI.imp (adb hg hm (ck ha iP hs2) hs) fun σ H R ⟨τ,L,R3,rs,rl,z,k⟩=>by
 refine⟨τ,L,_,rs,rl,z,fun v H1 y L1 t1 rl1 rv1 z1=>?_⟩;cases y with
 |ref a=>
  obtain⟨ys,keep,es,kp,hk,z2⟩:=o3 z1;have hy:∀H L,j3 H1 H->j7 X.g3 H L->keep L->∃xs,aG X.K H a xs/\xz X.g3 H ys xs:=fun H L _ rl e=>cJ rl (hk L e);obtain⟨xs,sq,_⟩:=hy H1 L1 (DB _) rl1 kp;cases rv1;exact⟨a,rfl,⟨xs,sq⟩,k _ H1 _ _ L1 t1 rl1 (gg hy) z2⟩
 |sq ys=>
  obtain⟨a,xs,e,sf,r⟩:=rv1;subst e;exact⟨a,rfl,⟨xs,sf.sq⟩,k _ H1 _ (fun _=>True) L1 t1 rl1 (gg fun H L t _ _=>⟨xs,(sf.ts t).sq,r.ts t⟩) z1⟩
 |_=>exact z1.elim
end L3
namespace L2
open PySem PySem.Spec PyProof.Rows
section
variable {w:World} 
end
section
variable {w:World} 
end
section
variable {σ:L2.St} 
end
end L2
namespace L3
open PySem L2
def fA(xs:List Y)(L:qo)(Q:YK):Prop:=match xs with
 |[x]=>hE L x fun ys=>∀p,L p=none->Q (.ref p) (qd L p (.lst ys))
 |_=>False
theorem kI :jv X (.type "list") (upL X.g3 fA):=DO mJ fun xs H Q ⟨ys,L,Q3,rv,rl,z,k⟩=>by
 unfold fA at z;split at z
 ·rename_i x;obtain⟨u,rfl,ru⟩:=rv.inv1;obtain⟨zs,ez,z⟩:=aD z;obtain⟨p,us,e,sq,r⟩:=mP rl ru ez;subst e;exact⟨p,us,rfl,sq,fun l hl=>k _ _ _ _ (DD hl) (rl.newL hl r) (by rfl) (z l (rl.none hl))⟩
 ·exact z.elim
theorem iV{T:String}{r:List Y->qo->YK->Prop}(hc:jv X (.type T) (upL X.g3 r))(hg:Gl X x)(hm:X.mg x=none)(hv:bootBuiltins x=some (.type T))(h:QA X (e::es) tr)
 (hn:x ≠ "__name__" := by decide) (hd:Dx x:=by decide) (hs:Dv e es X:=by rfl) (hp:Dw pos es X:=by rfl):
 QE X (.Call (.Name x p) (e::es) [] pos) (lZ r tr):=DC (f8 hc hg hm hv h hn hd hs hp) fun σ H Q ⟨τ,L,Q3,rs,rl,z,k⟩=>
 ⟨τ,L,_,rs,rl,z,fun vs H1 ys L1 t1 rl1 rv1 z1=>⟨ys,L1,Q3,rv1,rl1,z1,k.ts t1⟩⟩
end L3
namespace L2
open PySem PySem.Spec PyProof.Rows
section
theorem ss(i:Int)(n d:Nat):max 0 (min (if i<0 then i+(n:Int) else i) n)=((HT.sIx n d (some i):Nat):Int):=by
 simp only[HT.sIx];by_cases h:i<0
 ·simp only[h,if_true]<;>lia
 ·simp only[h,if_false]<;>lia
theorem uB(l u:Option Int)(n:Nat):Builtin.Str.strSliceIndices l u 1 n=(List.range (HT.sIx n n u - HT.sIx n 0 l)).map (HT.sIx n 0 l+·):=by
 have z:(0:Int)=((HT.sIx n 0 none:Nat):Int):=rfl;have y:(n:Int)=((HT.sIx n n none:Nat):Int):=rfl;unfold Builtin.Str.strSliceIndices;cases l with
 |none=>
  cases u with
  |none=>exact sliceRange_one 0 n
  |some j=>
   show sliceRange 0 (max 0 (min (if j<0 then j+(n:Int) else j) n)) 1=_;rw[ss j n n];exact sliceRange_one 0 _
 |some i=>
  cases u with
  |none=>
   show sliceRange (max 0 (min (if i<0 then i+(n:Int) else i) n)) n 1=_;rw[ss i n 0];exact sliceRange_one _ n
  |some j=>
   show sliceRange (max 0 (min (if i<0 then i+(n:Int) else i) n)) (max 0 (min (if j<0 then j+(n:Int) else j) n)) 1=_;rw[ss i n 0,ss j n n];exact sliceRange_one _ _
theorem mC(x:Str)(l u:Option Int):(Txt.slice x l u).cps.toList=(x.cps.toList.drop (HT.sIx x.length 0 l)).take (HT.sIx x.length x.length u - HT.sIx x.length 0 l):=by
 have hn:x.length=x.cps.toList.length:=by simp[Str.length]
 have pick:=pick_run x.cps (HT.sIx x.length 0 l) (HT.sIx x.length x.length u - HT.sIx x.length 0 l);unfold Txt.slice;rw[uB];split
 ·rename_i h;simp only[beq_self_eq_true,Dr,Aa,AZ,beq_iff_eq] at h;have h1:=HT.sIx_le x.length 0 (Bb _) l;have h2:=HT.sIx_le x.length x.length (Ag _) u;have a0:HT.sIx x.length 0 l=0:=by lia
  rw[h,a0,Dp,Bs (by exact uC)]
 ·show(List.filterMap (fun i=>x.cps[i]?) _).toArray.toList=_;rw[List.toList_toArray];exact pick
def al8:V->Option Int->Option Int->Hp->VK->Prop:=fun x lo hi H Q=>∃z,x=.str z/\z.length≤sizeLine/\Q (.str (Txt.slice z lo hi)) H
theorem aht:qS X al8:=by
 intro pins s σ H x v vl vu lo hi sl Q I rx hs pl pu h;obtain⟨z,rfl,hz,q⟩:=h;obtain⟨t,rfl⟩:=rx;obtain⟨l,rfl,hl⟩:∃l:Option (Int×Tok),vl=partValue l/\l.map (·.1)=lo:=by cases pl with|none=>exact⟨none,rfl,rfl⟩|int i t=>exact⟨some (i,t),rfl,rfl⟩
 obtain⟨u,rfl,hu⟩:∃u:Option (Int×Tok),vu=partValue u/\u.map (·.1)=hi:=by cases pu with|none=>exact⟨none,rfl,rfl⟩|int i t=>exact⟨some (i,t),rfl,rfl⟩
 subst hl hu;refine⟨"str",_,F.slot_str_getitem.lookup,typeIs_str _ _ _,jx I.tk (wpAny_getItem_str_slice (l:=l) (u:=u) (st:=none) hs rfl ?_)⟩;exact post_val_or_str ⟨AI (Txt.slice_le z _ _) hz,fun t' k ht=>⟨.str _,H,I.tok _,⟨t',rfl⟩,q⟩⟩
theorem rY{zs:List Str}:∀{us:List Value},zh (zs.map V.str) us->StrsAre us zs:=by
 induction zs with
 |nil=>intro us r;rw[Ci] at r;cases r;exact .nil
 |cons z zs ih=>
  intro us r;rw[Ay] at r;cases r with
  |cons r1 r2=>
   obtain⟨t,e⟩:=r1;subst e;exact .cons z t (ih r2)
def aim(K:Ac):V->List V->Hp->VK->Prop:=fun x vs H Q=>∃z a zs,x=.str z/\vs=[.ref a]/\aG K H a ((zs:List Str).map V.str)/\(zs.map (·.length)).sum+zs.length*z.length≤16777216/\Q (.str (Txt.join z zs)) H
theorem aan:lE X "str.join" (aim X.K):=by intro pins s σ H x vs v us Q I rx rv h;obtain⟨z,a,zs,rfl,rfl,hq,hz,q⟩:=h;obtain⟨t,rfl⟩:=rx;obtain⟨u,rfl,ru⟩:=rv.one;cases ru;obtain⟨its,r,p,_⟩:=I.list hq;exact jx I.tk (PyProof.Rows.join_list p.isList (by simpa using rY r) hz fun t' k ht=>⟨.str _,H,I.tok _,⟨t',rfl⟩,q⟩)
end
end L2
namespace L3
open PySem L2
def hX(x:Y)(lo hi:Option Int)(L:qo)(Q:YK):Prop:=match x with
 |.str z=>z.length≤sizeLine/\Q (.str (Txt.slice z lo hi)) L
 |x=>ajc x lo hi L Q
theorem eE(K:Ac)(P:Program)(w:World)(hK:X.K=K:=by rfl)(hP:X.prog=P:=by rfl)(hw:X.w=w:=by rfl):qS X (ah5 ⟨K,P,w⟩ hX):=by refine qS.imp (aht.or (aif K P w hK hP hw)) fun x lo hi H Q ⟨y,L,Q3,rv,rl,z,k⟩=>?_;cases y with|str s=>exact .inl ⟨s,rv,z.1,k _ H _ L (DB _) rl (by rfl) z.2⟩|_=>exact .inr ⟨_,L,Q3,rv,rl,z,k⟩
def yBS(r:Y->List Y->qo->YK->Prop)(to:jz)(t:cN)(τ:jb)(L:qo)(Q:YK):Prop:=to τ L fun x L1=>match x with
 |.str z=>t τ L1 fun xs L2=>r (.str z) xs L2 Q
 |_=>False
theorem ahz{id:String}{r:Y->List Y->qo->YK->Prop}(h2:Slot "str" name id)(h3:typeOf (.builtin id)=pure (.type "method_descriptor"))(hm:lE X id (upM X.g3 r))(ho:QE X o to)(ha:QA X (e::es) tr)
 (h4:attributeBase o name X.env (eval o X.env)=eval o X.env:=by rfl)
 (h5:((backTo cpos (starEach (e::es) X.env)).all (fun x=>!x.1)&&(backToKw cpos (keywordEach [] X.env)).all (fun x=>x.1.isSome)&&decide ((e::es).length+([]:List Keyword).length+(if ([]:List Keyword).isEmpty=true then 0 else 1)<30))=true:=by rfl)
 (h6:(apos.endLine==cpos.line)=true:=by rfl) (h7:Dv e es X:=by rfl) (h8:Dw cpos es X:=by rfl):
 QE X (.Call (.Attribute o name apos) (e::es) [] cpos) (yBS r to tr):=DC (ae5 PySem.F.plainAttrs_str h2 h3 hm ho ha h4 h5 h6 h7 h8) fun σ H Q ⟨τ,L,Q3,rs,rl,z,k⟩=>
 ⟨τ,L,_,rs,rl,z,fun v H1 y L1 t1 rl1 rv1 z1=>by
  split at z1
  ·rename_i s;cases rv1;exact⟨rfl,τ,L1,_,rs.ts t1,rl1,z1,fun vs H2 ys L2 t2 rl2 rv2 z2=>⟨.str s,ys,L2,Q3,rfl,rv2,rl2,z2,k.ts (t1.trans t2)⟩⟩
  ·exact z1.elim⟩
theorem pE{G:G3}{H:Hp}:∀{zs:List Str} {xs:List V},xz G H (zs.map Y.str) xs->xs=zs.map V.str
 |[],_,h=>h
 |z::r,_,⟨x,xs',e,q,s⟩=>by rw[e,show x=V.str z from q,pE s];rfl
def si(x:Y)(vs:List Y)(L:qo)(Q:YK):Prop:=match x,vs with
 |.str z,[.ref a]=>cT L a fun ys=>∃zs,ys=zs.map Y.str/\(zs.map (·.length)).sum+zs.length*z.length≤16777216/\Q (.str (Txt.join z zs)) L
 |_,_=>False
theorem agk :lE X "str.join" (upM X.g3 si):=lE.imp aan fun x xs H Q ⟨y,ys,L,Q3,r1,r2,rl,z,k⟩=>by
 unfold si at z;split at z
 ·rename_i s a;obtain⟨us,e,zs,rfl,hz,z⟩:=xr z;obtain⟨ws,e2,r⟩:=rl a _ e;obtain⟨u,rfl,ru⟩:=r2.inv1;cases ru;rw[pE r] at e2;exact⟨s,a,zs,r1,rfl,aG.of e2,hz,k _ H _ L (DB _) rl (by rfl) z⟩
 ·exact z.elim
theorem aak(ho:QE X o to)(ha:QA X (e::es) tr)(h4:attributeBase o "join" X.env (eval o X.env)=eval o X.env:=by rfl)
 (h5:((backTo cpos (starEach (e::es) X.env)).all (fun x=>!x.1)&&(backToKw cpos (keywordEach [] X.env)).all (fun x=>x.1.isSome)&&decide ((e::es).length+([]:List Keyword).length+(if ([]:List Keyword).isEmpty=true then 0 else 1)<30))=true:=by rfl)
 (h6:(apos.endLine==cpos.line)=true:=by rfl) (h7:Dv e es X:=by rfl) (h8:Dw cpos es X:=by rfl):
 QE X (.Call (.Attribute o "join" apos) (e::es) [] cpos) (yBS si to tr):=ahz PySem.F.slot_str_join PySem.F.type_str_join agk ho ha h4 h5 h6 h7 h8
theorem nN(zs:List Str):(Txt.join "" zs).cps.toList=zs.flatMap fun z=>z.cps.toList:=by
 have e:∀zs:List Str,(Str.join "" zs).cps.toList=zs.flatMap fun z=>z.cps.toList:=by
  intro zs
  induction zs with
  |nil=>rfl
  |cons z r ih=>
   cases r with
   |nil=>simp[Str.join]
   |cons y r=>
    show(z ++ "" ++ Str.join "" (y::r)).cps.toList=_;have:(z ++ "" ++ Str.join "" (y::r)).cps=z.cps++#[]++(Str.join "" (y::r)).cps:=rfl;rw[this];simp only[Array.toList_append,ih,Bl,Array.append_empty]
 exact(A4 (fun x:Str=>x.cps.toList) (StrLaws.glued_eq_join "" zs)).trans (e zs)
def tQ(t u:k6)(D:v7)(τ:jb)(L:qo):Prop:=∃J:jb->qo->Prop,t { D with nx:=J } τ L/\∀τ' L',J τ' L'->u D τ' L'
theorem gK{t u:k6}(h:QS X st t)(k:pj X rest u):pj X (st::rest) (tQ t u):=mF.imp (o8 h k) fun D σ H ⟨τ,L,D3,rs,rl,⟨J,z,q⟩,k⟩=>
 ⟨τ,L,{ D3 with nx:=J },rs,rl,z,fun σ1 H1 τ1 L1 t1 rs1 rl1 z1=>⟨τ1,L1,D3,rs1,rl1,q τ1 L1 z1,k.ts t1⟩,k.rt,k.bk,k.ct⟩
theorem az{o u:LO}(h:a≠b):qd (qd L a o) b u=qd (qd L b u) a o:=by
 funext c;by_cases h1:c=a
 ·subst h1;rw[qe h,q8,q8]
 ·by_cases h2:c=b
  ·subst h2;rw[q8,qe h1,q8]
  ·rw[qe h2,qe h1,qe h1,qe h2]
abbrev X3:=jb->Addr->qo->Prop
abbrev gx:=List Y->qo->YK->(Addr->qo->Prop)->Prop
def upX(G:G3)(E3:X3):X1:=fun σ c H=>∃C τ L,c=.ref C/\ve G H σ τ/\j7 G H L/\E3 τ C L
def aju(G:G3)(H:Hp)(E3:Addr->qo->Prop)(E:XK):Prop:=∀C H' L',j3 H H'->j7 G H' L'->E3 C L'->E (.ref C) none H'
def dnX(G:G3)(sp:gx):Sp:=fun vs H Q E=>∃ys L Q3 E3,xz G H ys vs/\j7 G H L/\sp ys L Q3 E3/\tM G H Q3 Q/\aju G H E3 E
def yA(E3:Addr->qo->Prop):X3:=fun _ C L=>∃L2,qf L2 L/\E3 C L2
abbrev ag4(P:Program)(w:World)(K:Ac)(mg:Str->Option Value)(base:Heap)(k:Nat)(f:Addr)(fd:FuncData)(ps:List Str)(sp:gx):Prop:=aB P w K mg base (vT P w) k f fd ps (dnX ⟨K,P,w⟩ sp)
structure aeq(P:Program)(w:World)(K:Ac)(mg:Str->Option Value)(base:Heap)(k:Nat)(x:Str)(ps:List Str)(sp:gx):Prop where
 ex:∃f fd,ag4 P w K mg base k f fd ps sp/\vo K fd ps []/\PySem.W.keepIn K (.ref f)=true/\mg x=some (.ref f)
theorem qt.tst{σ:L2.St}(I:qt X pins σ H s):j3 X.H₀ H:=fun a u i e=>by cases u with|tup xs=>exact I.base.tups a xs e|frz o u=>exact I.base.frzs a o u e|_=>cases i
theorem aga{P:Program}{w:World}{K:Ac}{N:List Str}{E:XK}{E3:Addr->qo->Prop}(h:aju ⟨K,P,w⟩ H E3 E):
 bV (cW (vT P w) P w K mg base N qual scope f cd A outer s H E) (upX ⟨K,P,w⟩ (yA E3)):=by
 intro pins σ H' s' a C tr I L ap apT ⟨C',τ,L',ec,rs,rl,L2,sb,q⟩;cases ec;exact wR pins σ H' s' a C tr I L ap apT (h C H' L2 (qt.tst I) (rl.sub sb) q)
def xD(sp:gx)(E3:X3)(t:cN)(τ:jb)(L:qo)(Q:YK):Prop:=t τ L fun ys L1=>sp ys L1 Q (E3 τ)
def wI(C:Addr)(E3:X3)(t:cN)(_:v7)(τ:jb)(L:qo):Prop:=t τ L fun ys L1=>ys.length≤1000/\E3 τ C L1
section
variable {E3:X3}
theorem aiq{k:Nat}{sp:gx}(c:aeq X.prog X.w X.K X.mg X.base k x ps sp)(hr:v8 k X.A)(hg:Gl X x)(ht:bV X (upX X.g3 E3))(hx:X.ex=[])(ha:QA X (e::es) tr)(hdb:Dx x:=by decide)
 (he:Dv e es X:=by rfl) (hpl:Dw pos es X:=by rfl):QE X (.Call (.Name x p) (e::es) [] pos) (xD sp E3 tr):=by
 obtain⟨f,fd,F,b,kp,m⟩:=c.ex;refine DC (zF F hr hg m kp b ht hx ha hdb he hpl) fun σ H Q ⟨τ,L,Q3,rs,rl,z,k⟩=>?_;exact⟨τ,L,_,rs,rl,z,fun vs H1 ys L1 t1 rl1 rv1 z1=>⟨ys,L1,Q3,E3 τ,rv1,rl1,z1,k.ts t1,fun C H' L' t' rl' q=>⟨C,τ,L',rfl,rs.ts (t1.trans t'),rl',q⟩⟩⟩
theorem vV{np:Pos}(c:yg X.K C)(hg:Gl X x)(hm:X.mg x=some (.ref C))(hc:X.calm=true)(ht:bV X (upX X.g3 E3))(hx:X.ex=[])(ha:QA X (e::es) tr)(hdb:Dx x:=by decide)
 (he:Dv e es X:=by rfl) (hpl:Dw cpos es X:=by rfl):
 QS X (.Raise (some (.Call (.Name x np) (e::es) [] cpos)) none pos) (wI C E3 tr):=DH (yF c hg hm hc ht hx ha hdb he hpl) fun D σ H ⟨τ,L,D3,rs,rl,z,k⟩=>
 ⟨τ,L,_,rs,rl,z,fun vs H1 ys L1 t1 rl1 rv1 ⟨hl,z1⟩=>⟨bQ (by rw[<-rv1.length];exact hl),C,τ,L1,rfl,rs.ts t1,rl1,z1⟩⟩
end
section
variable {cp:Pos}
end
section
variable {a:Expr}{pt:Pos}{vs:List V}
end
def noX:X3:=fun _ _ _=>False
theorem agf :bV X (upX X.g3 noX):=fun _ _ _ _ _ _ _ _ _ _ _ ⟨_,_,_,_,_,_,z⟩=>z.elim
open PySem L2 PySem.W
theorem qE{K:Frag}(q:excIn K C [.type "ValueError",.type "Exception",.type "BaseException",.type "object"] "ValueError.__new__" = true):yg K C:=abw q CN (by decide +kernel) CN
section
variable {K:Frag}{D:Addr}{t c:Value}{b:Bool}
end
end L3
namespace L2
open PySem PySem.Spec PyProof.Rows
def gN(X:Cx)(ops:List CmpOp)(es:List Expr)(t:V->TE):Prop:=∀(pos:Pos) (pins:List (Addr×Obj)) (s:Shared) (σ:St) (H:Hp) (x:V) (v:Value) (Q:Bool->Hp->Prop),qt X pins σ H s->za x v->(t x σ H fun z H'=>∃k,z=.bl k/\Q k H')->wpAny (model X.prog X.w) X.A (testChain pos v ops (evalEach es X.env)) (TP X pins σ Q) X.xe s
def ae8(r:R2)(tb:TE):V->TE:=fun x σ H Q=>tb σ H fun y H1=>r x y H1 Q
def ads(r:R2)(tb:TE)(u:V->TE):V->TE:=fun x σ H Q=>tb σ H fun y H1=>r x y H1 fun z H2=>∃k,z=.bl k/\(if k=true then u y σ H2 Q else Q (.bl false) H2)
section
variable {a b:Expr}{ta tb:TE}{op op':CmpOp}{ops:List CmpOp}{r:R2}{u:V->TE} 
theorem uQ(ho:kg X (compareOp op) r)(hb:PE X b tb):gN X [op] [b] (ae8 r tb):=by intro pos pins s σ H x v Q I rx h;refine test_last (xc (hb pins s σ H _ I h) fun w' s1 ⟨y,H1,I1,r1,q1⟩=>xc (ho pins s1 σ H1 x y v w' _ I1 rx r1 q1) fun d s2 ⟨z,H2,I2,r2,k,e,q2⟩=>?_);subst e;cases r2;exact wpAny_truthy_bool ⟨H2,I2,q2⟩
theorem uK(ho:kg X (compareOp op) r)(hb:PE X b tb)(ht:gN X (op'::ops) (c::es) u):gN X (op::op'::ops) (b::c::es) (ads r tb u):=by
 intro pos pins s σ H x v Q I rx h;refine test_link (xc (hb pins s σ H _ I h) fun w' s1 ⟨y,H1,I1,r1,q1⟩=>xc (ho pins s1 σ H1 x y v w' _ I1 rx r1 q1) fun d s2 ⟨z,H2,I2,r2,k,e,q2⟩=>?_);subst e;cases r2;refine wpAny_truthy_bool ?_;cases k with
 |false=>
  obtain⟨k',e',q'⟩:=q2;cases e';exact ite_ff ⟨H2,I2,q'⟩
 |true=>exact ite_tt (ht pos pins s2 σ H2 y w' Q I2 r1 q2)
theorem vF(ha:PE X a ta)(h:gN X (op::op'::ops) (b::c::es) u)(hm:lastMarks (op::op'::ops) (b::c::es)=false):PT X (.Compare a (op::op'::ops) (b::c::es) pos) (vQ fun σ H Q=>ta σ H fun x H1=>u x σ H1 Q):=by intro pins s σ H Q I hh;exact isTrue_chain (xc (ha pins s σ H _ I hh) fun v s1 ⟨x,H1,I1,r1,q1⟩=>h pos pins s1 σ H1 x v Q I1 r1 q1) hm
end
end L2
namespace L3
open PySem L2
def r9(ta:jz)(u:Y->jz)(τ:jb)(L:qo)(Q:YK):Prop:=ta τ L fun x L1=>u x τ L1 Q
def yK(r:iL)(tb:jz)(x:Y)(τ:jb)(L:qo)(Q:YK):Prop:=tb τ L fun y L1=>r x y L1 Q
def sG(r:iL)(tb:jz)(u:Y->jz)(x:Y)(τ:jb)(L:qo)(Q:YK):Prop:=tb τ L fun y L1=>r x y L1 fun z L2=>match z with
 |.bl k=>ku k (u y τ L2 Q) (Q (.bl false) L2)
 |_=>False
def upC(G:G3)(u:Y->jz):V->TE:=fun x σ H Q=>∃y τ L Q3,RV G H y x/\ve G H σ τ/\j7 G H L/\u y τ L Q3/\tM G H Q3 Q
theorem gN.imp{ops:List CmpOp}{t u:V->TE}(h:gN X ops es t)(q:∀x σ H Q,u x σ H Q->t x σ H Q):gN X ops es u:=fun pos pins s σ H x v Q I r z=>h pos pins s σ H x v Q I r (q _ _ _ _ z)
theorem aag{r:iL}(x:V)(σ:L2.St)(H:Hp)(Q:VK):upC G (yK r tb) x σ H Q->ae8 (dP G r) (n8 G tb) x σ H Q:=fun⟨y,τ,L,Q3,rv,rs,rl,z,k⟩=>
 ⟨τ,L,_,rs,rl,z,fun v H1 y1 L1 t1 rl1 rv1 z1=>⟨y,y1,L1,Q3,rv.ts t1,rv1,rl1,z1,k.ts t1⟩⟩
theorem aao{r:iL}{u:Y->jz}(x:V)(σ:L2.St)(H:Hp)(Q:VK):upC G (sG r tb u) x σ H Q->ads (dP G r) (n8 G tb) (upC G u) x σ H Q:=fun⟨y,τ,L,Q3,rv,rs,rl,z,k⟩=>
 ⟨τ,L,_,rs,rl,z,fun v H1 y1 L1 t1 rl1 rv1 z1=>⟨y,y1,L1,_,rv.ts t1,rv1,rl1,z1,fun v2 H2 y2 L2 t2 rl2 rv2 z2=>by
  cases y2 with
  |bl kk=>
   refine⟨kk,rv2,?_⟩;have z3:ku kk (u y1 τ L2 Q3) (Q3 (.bl false) L2):=z2;cases kk with|true=>rw[Av rfl];exact⟨y1,τ,L2,Q3,rv1.ts t2,rs.ts (t1.trans t2),rl2,z3,k.ts (t1.trans t2)⟩|false=>rw[As Aq];exact k _ H2 _ L2 (t1.trans t2) rl2 (by rfl) z3
  |_=>exact z2.elim⟩⟩
section
variable {a b:Expr}{op op':CmpOp}{ops:List CmpOp}{r:iL}{u:Y->jz} 
theorem uw(ho:kg X (compareOp op) (dP X.g3 r))(hb:QE X b tb):gN X [op] [b] (upC X.g3 (yK r tb)):=gN.imp (uQ ho hb) aag
theorem lX(ho:kg X (compareOp op) (dP X.g3 r))(hb:QE X b tb)(ht:gN X (op'::ops) (c::es) (upC X.g3 u)):gN X (op::op'::ops) (b::c::es) (upC X.g3 (sG r tb u)):=gN.imp (uK ho hb ht) aao
theorem xX(σ:L2.St)(H:Hp)(Q:VK):n8 G (r9 ta u) σ H Q->(fun σ H Q=>n8 G ta σ H fun x H1=>upC G u x σ H1 Q) σ H Q:=fun⟨τ,L,Q3,rs,rl,z,k⟩=>
 ⟨τ,L,_,rs,rl,z,fun v H1 y L1 t1 rl1 rv1 z1=>⟨y,τ,L1,Q3,rv1,rs.ts t1,rl1,z1,k.ts t1⟩⟩
theorem yc(ha:QE X a ta)(h:gN X (op::op'::ops) (b::c::es) (upC X.g3 u))(hm:lastMarks (op::op'::ops) (b::c::es)=false:=by with_unfolding_all rfl):QT X (.Compare a (op::op'::ops) (b::c::es) pos) (yB (r9 ta u)):=
 PT.imp (vF ha h hm) fun σ H Q q=>xX σ H _ (ahf σ H Q q)
end
end L3
namespace L2
open PySem PySem.Spec PyProof.Rows
section
end
end L2
namespace L3
open PySem L2
def acs:Y->Option jc
 |.int i=>some (.inl i)
 |.str x=>some (.inr x)
 |_=>none
theorem iQ{k:jc}(h:acs y=some k)(r:RV G H y v):v=kV k:=by cases y with|int i=>cases h;exact r|str x=>cases h;exact r|_=>cases h
def kC(kvs:List (jc×Y))(k:jc)(y:Y):List (jc×Y):=
 if (kvs.any fun kv=>decide (kv.1=k))=true then kvs.map (fun kv=>if kv.1=k then(kv.1,y) else kv) else kvs++[(k,y)]
theorem j3.dct{p:Addr}{zs:List (jc×V)}{o:HO}(h:H p=some (.dK zs)):j3 H (upd H p o):=fun a u i q=>by rw[z7 ?_];exact q;rintro rfl;rw[h] at q;cases q;cases i
theorem aa0{kvs:List (jc×Y)}{xs:List (jc×V)}(p:Paired (fun(p:jc×Y) (q:jc×V)=>p.1=q.1/\RV G H p.2 q.2) kvs xs)(k:jc):(kvs.any fun kv=>decide (kv.1=k))=xs.any fun kv=>decide (kv.1=k):=by induction p with|nil=>rfl|cons r t ih=>rw[BK,BK,ih,r.1]
theorem y4{kvs:List (jc×Y)}{xs:List (jc×V)}(p:Paired (fun(p:jc×Y) (q:jc×V)=>p.1=q.1/\RV G H p.2 q.2) kvs xs)(k:jc)(r:RV G H y v):
 Paired (fun(p:jc×Y) (q:jc×V)=>p.1=q.1/\RV G H p.2 q.2) (kvs.map fun kv=>if kv.1=k then(kv.1,y) else kv) (xs.map fun kv=>if kv.1=k then(kv.1,v) else kv):=by
 induction p with
 |nil=>exact .nil
 |@cons a b _ _ r' t ih=>
  refine .cons ?_ ih;obtain⟨e,q⟩:=r';dsimp only;by_cases c:a.1=k
  ·rw[Av c,Av (e▸c)];exact⟨e,r⟩
  ·rw[As c,As (fun z=>c (e.trans z))];exact⟨e,q⟩
theorem uj{kvs:List (jc×Y)}{xs:List (jc×V)}(p:Paired (fun(p:jc×Y) (q:jc×V)=>p.1=q.1/\RV G H p.2 q.2) kvs xs)(k:jc)(r:RV G H y v):
 Paired (fun(p:jc×Y) (q:jc×V)=>p.1=q.1/\RV G H p.2 q.2) (kvs++[(k,y)]) (xs++[(k,v)]):=by
 induction p with|nil=>exact .cons ⟨rfl,r⟩ .nil|cons r' t ih=>exact .cons r' ih
theorem zX{kvs:List (jc×Y)}{xs:List (jc×V)}(p:Paired (fun(p:jc×Y) (q:jc×V)=>p.1=q.1/\RV G H p.2 q.2) kvs xs)(k:jc)(r:RV G H y v):
 Paired (fun(p:jc×Y) (q:jc×V)=>p.1=q.1/\RV G H p.2 q.2) (kC kvs k y) (f7 xs k v):=by
 unfold kC f7;rw[aa0 p k];by_cases c:(xs.any fun kv=>decide (kv.1=k))=true
 ·rw[Av c,Av c];exact y4 p k r
 ·rw[As c,As c];exact uj p k r
theorem kf{R:α->β->Prop}{l:List α}{m:List β}(p:Paired R l m):l.length=m.length:=by induction p with|nil=>rfl|cons _ _ ih=>rw[AD,AD,ih]
def yx(_:jb)(L:qo)(Q:YK):Prop:=∀p,L p=none->Q (.ref p) (qd L p (.dct []))
def vS(td ti:jz)(τ:jb)(L:qo)(Q:YK):Prop:=td τ L fun x L1=>ti τ L1 fun y L2=>match x,acs y with
 |.ref a,some k=>m3 L2 a fun kvs=>ur L2 Q (wb kvs k)
 |_,_=>False
def zA(td ti tv:jz)(D:v7)(τ:jb)(L:qo):Prop:=tv τ L fun v L1=>td τ L1 fun x L2=>ti τ L2 fun y L3=>match x,acs y with
 |.ref a,some k=>m3 L3 a fun kvs=>kvs.length<sizeLine/\D.nx τ (qd L3 a (.dct (kC kvs k v)))
 |_,_=>False
section
variable {i:Expr}{td:jz} 
theorem sI:QE X (.Dict [] [] pos) yx:=DC xN fun σ H Q ⟨τ,L,Q3,rs,rl,z,k⟩=>fun p hp=>by
 refine k _ _ _ (qd L p (.dct [])) (DD hp) (fun a u e=>?_) (by rfl) (z p (rl.none hp));by_cases c:a=p
 ·subst c;rw[q8] at e;cases e;exact⟨[],xk,.nil⟩
 ·rw[qe c] at e;exact(rl a u e).keep (DD hp) (z7 c)
theorem sR(hu:X.A.units+128<cLine)(ho:QE X o td)(hi:QE X i ti)(hs:agp i):QE X (.Subscript o i pos) (vS td ti):=DC (aby (by omega) ho hi hs) fun σ H Q ⟨τ,L,Q3,rs,rl,z,k⟩=>
 ⟨τ,L,_,rs,rl,z,fun v H1 x L1 t1 rl1 rv1 z1=>⟨τ,L1,_,rs.ts t1,rl1,z1,fun w H2 y L2 t2 rl2 rv2 z2=>by
  split at z2
  ·rename_i a kk ek;obtain⟨kvs,e,z3⟩:=cR z2;obtain⟨yv,ev,q⟩:=eF z3;obtain⟨xs,e2,pr⟩:=rl2 a _ e;obtain⟨xv,ex,rx⟩:=gD pr ev;exact⟨a,xv,rv1,.inl ⟨xs,kk,.inl e2,iQ ek rv2,ex.symm⟩,k _ H2 _ L2 (t1.trans t2) rl2 rx q⟩
  ·exact z2.elim⟩⟩
theorem sw(hu:X.A.units+128<cLine)(ho:QE X o td)(hi:QE X i ti)(hv:QE X value tv)(hs:swapsWith value (some (.Subscript o i pos')) pos.line X.env=pure false:=by rfl):QS X (.Assign [.Subscript o i pos'] value pos) (zA td ti tv):=
 DH (aar (by omega) ho hi hv hs) fun D σ H ⟨τ,L,D3,rs,rl,z,k⟩=>
 ⟨τ,L,_,rs,rl,z,fun v H1 vy L1 t1 rl1 rv1 z1=>⟨τ,L1,_,rs.ts t1,rl1,z1,fun x H2 xy L2 t2 rl2 rv2 z2=>⟨τ,L2,_,rs.ts (t1.trans t2),rl2,z2,fun w H3 y L3 t3 rl3 rv3 z3=>by
  split at z3
  ·rename_i a kk ek;obtain⟨kvs,e,hl,q⟩:=cR z3;obtain⟨xs,e2,pr⟩:=rl3 a _ e;have tt:j3 H3 (upd H3 a (.dK (f7 xs kk v))):=j3.dct e2;cases (show x=V.ref a from rv2);refine⟨a,_,rfl,.inl ⟨xs,kk,e2,iQ ek rv3,by rw[<-kf pr];exact hl,rfl⟩,?_⟩;refine k.nx _ _ _ _ (((t1.trans t2).trans t3).trans tt) (rs.ts (((t1.trans t2).trans t3).trans tt)) (fun b u eb=>?_) q;by_cases c:b=a
   ·subst c;rw[q8] at eb;cases eb;exact⟨_,xk,DF (zX pr kk (rv1.ts (t2.trans t3))) fun _ _ ⟨h1,h2⟩=>⟨h1,h2.ts tt⟩⟩
   ·rw[qe c] at eb;exact(rl3 b u eb).keep tt (z7 c)
  ·exact z3.elim⟩⟩⟩
end
def zM(to ti tv:jz)(D:v7)(τ:jb)(L:qo):Prop:=tv τ L fun v L1=>to τ L1 fun x L2=>ti τ L2 fun y L3=>match x,y with
 |.ref a,.int i=>cT L3 a fun ys=>ur L3 (fun j L=>D.nx τ (qd L a (.lst (ys.set j v)))) (yf ys.length i)
 |_,_=>False
section
variable {i:Expr} 
theorem tH(ho:QE X o to)(hi:QE X i ti)(hv:QE X value tv)
 (ha:∀v,assign (.Subscript o i pos') X.env v=(do
  let ov <-holding [v] (eval o X.env)
  let iv <-holding [v,ov] (eval i X.env)
  standAt pos'
  holding [v,ov,iv] (setItem ov iv v)
  release [v,ov,iv] []):=by intro _;rfl)
 (h1:swapsWithSole [.Subscript o i pos'] value pos.line X.env=pure false:=by rfl) (h2:swappedStores [.Subscript o i pos'] value X.env=pure none:=by rfl)
 (h3:(assignEach [.Subscript o i pos'] X.env).map (·.2)=[assign (.Subscript o i pos') X.env]:=by rfl):QS X (.Assign [.Subscript o i pos'] value pos) (zM to ti tv):=
 DH (yq hv (ahy ho hi zQ ha) h1 h2 h3) fun D σ H ⟨τ,L,D3,rs,rl,z,k⟩=>
 ⟨τ,L,_,rs,rl,z,fun v H1 vy L1 t1 rl1 rv1 z1=>⟨τ,L1,_,rs.ts t1,rl1,z1,fun x H2 xy L2 t2 rl2 rv2 z2=>⟨τ,L2,_,rs.ts (t1.trans t2),rl2,z2,fun w H3 y L3 t3 rl3 rv3 z3=>by
  split at z3
  ·rename_i a ii;obtain⟨ys,e,z4⟩:=xr z3;obtain⟨j,ej,q⟩:=eF z4;obtain⟨xs,e2,r⟩:=rl3 a _ e;cases (show x=V.ref a from rv2);cases (show w=V.int ii from rv3);have tt:j3 H3 (upd H3 a (.lst (xs.set j v))):=j3.lst e2;exact⟨a,xs,ii,j,rfl,rfl,e2,by rw[<-r.length];exact ej,k.nx _ _ _ _ (((t1.trans t2).trans t3).trans tt) (rs.ts (((t1.trans t2).trans t3).trans tt)) (rl3.setL e2 (xz.setY (rv1.ts (t2.trans t3)) j r)) q⟩
  ·exact z3.elim⟩⟩⟩
end
end L3
namespace L2
open PySem PySem.Spec PyProof.Rows
section
variable {v₁ v₂:Expr}{te:TE}{u:Str->TE} 
end
end L2
namespace L3
open PySem L2
section
variable {v₁ v₂:Expr}{u:Str->jz} 
end
@[irreducible] def rP (L:qo) (a:Addr) (k:Addr->List (Str×Y)->Prop):Prop:=match L a with
 |some (.ins C fs)=>k C fs
 |_=>False
theorem vm{fs:List (Str×Y)}{k:Addr->List (Str×Y)->Prop}(e:L a=some (.ins C fs))(h:k C fs):rP L a k:=by unfold rP;rw[e];exact h
theorem jL{k:Addr->List (Str×Y)->Prop}(h:rP L a k):∃C fs,L a=some (.ins C fs)/\k C fs:=by
 unfold rP at h;split at h
 ·rename_i C fs e;exact⟨C,fs,e,h⟩
 ·exact h.elim
abbrev PrF(G:G3)(H:Hp):List (Str×Y)->List (Str×V)->Prop:=Paired fun(p:Str×Y) (q:Str×V)=>p.1=q.1/\RV G H p.2 q.2
theorem adn{fs:List (Str×Y)}{xs:List (Str×V)}(p:PrF G H fs xs){f:Str}(h:fs.lookup f=some y):∃v,xs.lookup f=some v/\RV G H y v:=by
 induction p with
 |nil=>cases h
 |@cons a b _ _ r t ih=>
  obtain⟨ka,ya⟩:=a;obtain⟨kb,vb⟩:=b;obtain⟨e,r⟩:=r;cases (show ka=kb from e);rw[Bd] at h ⊢;cases c:(f==ka) with
  |true=>rw[c] at h;cases h;exact⟨vb,rfl,r⟩
  |false=>rw[c] at h;exact ih h
theorem vX{fs:List (Str×Y)}{xs:List (Str×V)}(p:PrF G H fs xs){f:Str}(h:fs.lookup f=none):xs.lookup f=none:=by
 induction p with
 |nil=>rfl
 |@cons a b _ _ r t ih=>
  obtain⟨ka,ya⟩:=a;obtain⟨kb,vb⟩:=b;obtain⟨e,r⟩:=r;cases (show ka=kb from e);rw[Bd] at h ⊢;cases c:(f==ka) with
  |true=>rw[c] at h;cases h
  |false=>rw[c] at h;exact ih h
def sE(f:Str)(y:Y):List (Str×Y)->List (Str×Y)
 |[]=>[(f,y)]
 |(g,x)::r=>if g=f then(g,y)::r else(g,x)::sE f y r
theorem abu{fs:List (Str×Y)}{xs:List (Str×V)}(p:PrF G H fs xs)(f:Str)(r:RV G H y v):PrF G H (sE f y fs) (bF f v xs):=by
 induction p with
 |nil=>exact .cons ⟨rfl,r⟩ .nil
 |@cons a b _ _ r' t ih=>
  obtain⟨ka,ya⟩:=a;obtain⟨kb,vb⟩:=b;obtain⟨e,q⟩:=r';cases (show ka=kb from e);unfold sE bF;by_cases c:ka=f
  ·rw[Av c,Av c];exact .cons ⟨rfl,r⟩ t
  ·rw[As c,As c];exact .cons ⟨rfl,q⟩ ih
theorem j3.ins{p:Addr}{zs:List (Str×V)}{o:HO}(h:H p=some (.ins C dx zs)):j3 H (upd H p o):=fun a u i q=>by rw[z7 ?_];exact q;rintro rfl;rw[h] at q;cases q;cases i
def sB(K:Ac)(f:Str)(te:jz)(τ:jb)(L:qo)(Q:YK):Prop:=te τ L fun x L1=>match x with
 |.ref a=>rP L1 a fun C fs=>Cls K C/\NoAttr K C f/\ur L1 Q (fs.lookup f)
 |_=>False
def aeh(K:Ac)(f:Str)(to tv:jz)(D:v7)(τ:jb)(L:qo):Prop:=tv τ L fun v L1=>to τ L1 fun x L2=>match x with
 |.ref a=>rP L2 a fun C fs=>Cls K C/\NoAttr K C f/\fs.length<1000/\D.nx τ (qd L2 a (.ins C (sE f v fs)))
 |_=>False
def zT(C:Addr)(sp:j4)(t:cN)(τ:jb)(L:qo)(Q:YK):Prop:=t τ L fun ys L1=>∀x,L1 x=none->sp (.ref x::ys) (qd L1 x (.ins C [])) fun v L2=>v=.non/\Q (.ref x) L2
section
variable {f m:Str}{g:Addr}
theorem gS(h:QE X e te)(hb:attributeBase e f X.env (eval e X.env)=eval e X.env:=by rfl):QE X (.Attribute e f pos) (sB X.K f te):=DC (afj h hb) fun σ H Q ⟨τ,L,Q3,rs,rl,z,k⟩=>
 ⟨τ,L,_,rs,rl,z,fun v H1 y L1 t1 rl1 rv1 z1=>by
  split at z1
  ·rename_i a;obtain⟨C,fs,e,c,n,z2⟩:=jL z1;obtain⟨y,ey,q⟩:=eF z2;obtain⟨dx,xs,e2,pr⟩:=rl1 a _ e;obtain⟨w,ew,rw'⟩:=adn pr ey;exact⟨a,C,dx,xs,w,rv1,e2,c,n,ew,k _ H1 _ L1 t1 rl1 rw' q⟩
  ·exact z1.elim⟩
theorem abl(ho:QE X o to)(hv:QE X value tv)(hs:swapsWith value (some (.Attribute o f pos')) pos.line X.env=pure false:=by rfl):QS X (.Assign [.Attribute o f pos'] value pos) (aeh X.K f to tv):=DH (ahb ho hv hs) fun D σ H ⟨τ,L,D3,rs,rl,z,k⟩=>
 ⟨τ,L,_,rs,rl,z,fun v H1 vy L1 t1 rl1 rv1 z1=>⟨τ,L1,_,rs.ts t1,rl1,z1,fun w H2 y L2 t2 rl2 rv2 z2=>by
  split at z2
  ·rename_i a;obtain⟨C,fs,e,c,n,hl,q⟩:=jL z2;obtain⟨dx,xs,e2,pr⟩:=rl2 a _ e;have tt:j3 H2 (upd H2 a (.ins C dx (bF f v xs))):=j3.ins e2;refine⟨a,C,dx,xs,rv2,e2,c,n,by rw[<-kf pr];exact hl,k.nx _ _ _ _ ((t1.trans t2).trans tt) (rs.ts ((t1.trans t2).trans tt)) (fun b u eb=>?_) q⟩;by_cases cc:b=a
   ·subst cc;rw[q8] at eb;cases eb;exact⟨dx,_,xk,DF (abu pr f (rv1.ts t2)) fun _ _ ⟨h1,h2⟩=>⟨h1,h2.ts tt⟩⟩
   ·rw[qe cc] at eb;exact(rl2 b u eb).keep tt (z7 cc)
  ·exact z2.elim⟩⟩
theorem ade{k:Nat}{sp:j4}(M:Mk X.K C g)(F:Fn3 X.prog X.w X.K X.mg X.base k g fd ps sp)(hr:v8 (k+1) X.A)(hg:Gl X x)(hm:X.mg x=some (.ref C))(hb:vo X.K fd ps [])(ha:QA X (e::es) tr)
 (hdb:Dx x:=by decide) (he:Dv e es X:=by rfl) (hpl:Dw pos es X:=by rfl):
 QE X (.Call (.Name x p) (e::es) [] pos) (zT C sp tr):=DC (ac4 M F hr hg hm hb .nil yG ha hdb he hpl) fun σ H Q ⟨τ,L,Q3,rs,rl,z,k⟩=>
 ⟨τ,L,_,rs,rl,z,fun vs H1 ys L1 t1 rl1 rv1 z1=>fun x dx hx hdx ne=>by
  have ta:j3 H1 (upd H1 dx (.own x)):=DD hdx;have hx':upd H1 dx (.own x) x=none:=by rw[z7 (AS ne)];exact hx
  have tt:j3 H1 (upd (upd H1 dx (.own x)) x (.ins C dx [])):=ta.trans (DD hx');refine⟨.ref x::ys,qd L1 x (.ins C []),_,⟨.ref x,vs++[],by simp,rfl,by rw[AL];exact rv1.ts tt⟩,fun b u eb=>?_,z1 x (rl1.none hx),fun v H2 y L2 t2 rl2 rv2 ⟨ev,q⟩=>?_⟩
  ·by_cases cc:b=x
   ·subst cc;rw[q8] at eb;cases eb;exact⟨dx,[],xk,.nil⟩
   ·rw[qe cc] at eb;have nd:b≠dx:=fun z=>by obtain⟨w,ew⟩:=(rl1 b u eb).ex;rw[z,hdx] at ew;cases ew
    exact(rl1 b u eb).keep tt (by rw[z7 cc,z7 nd])
  ·subst ev;exact⟨rv2,k _ H2 _ L2 (t1.trans (tt.trans t2)) rl2 (by rfl) q⟩⟩
end
open PySem.AutoSeq1 (wpAny_loadPart')
open MeetsSeq MeetsSeq2 MeetsSeq3 SeqRoads2
def aea(x y:Y)(L:qo)(Q:YK):Prop:=hE L x fun xs=>hE L y fun ys=>pH x=true/\pH y=true/\xs.length+ys.length≤sizeLine/\∀p,L p=none->Q (.ref p) (qd L p (.lst (xs++ys)))
theorem ahv(K:Ac)(P:Program)(w:World)(hK:X.K=K:=by rfl)(hP:X.prog=P:=by rfl)(hw:X.w=w:=by rfl):kg X (binaryOp .Add) (dP ⟨K,P,w⟩ aea):=by
 subst hK hP hw;intro pins s σ H x y v u Q I rx ry ⟨x3,y3,L,Q3,r1,r2,rl,z,k⟩;obtain⟨xs,ex,z⟩:=aD z;obtain⟨ys,ey,z⟩:=aD z;obtain⟨lx,ly,hz,q⟩:=z;obtain⟨a,ws,rfl,s1,rv1⟩:=cn rl r1 lx ex;obtain⟨b,ws',rfl,s2,rv2⟩:=cn rl r2 ly ey;cases rx;cases ry;obtain⟨is1,vx,tx,_⟩:=I.list s1;obtain⟨is2,vy,ty,_⟩:=I.list s2;obtain⟨⟨cls,dd,data,sl⟩,ho,hc,n,hd⟩:=id (zo tx);obtain⟨⟨cls2,dd2,data2,sl2⟩,ho2,hc2,n2,hd2⟩:=id (zo ty);simp only at hc hd hc2 hd2;subst hc hd hc2 hd2;have l1:=vx.length;have l2:=vy.length;have l3:=rv1.length;have l4:=rv2.length;have hsz:is1.toArray.size+is2.toArray.size≤sizeLine:=by rw[Ah,Ah];lia
 refine concat_meets ⟨_,ho,rfl⟩ ⟨_,ho2,rfl⟩ noFill_list_add seq_list_add PySem.F.slot_list_add PySem.F.entry_list_add (PySem.F.args_list_add_2 _ _) (PyProof.Rows.list_addW a b is1.toArray is2.toArray n n2 dd dd2 sl sl2 hsz) ⟨ho,ho2,?_⟩;have e:is1.toArray++is2.toArray=(is1++is2).toArray:=by simp
 rw[e];exact⟨.ref _,_,I.lnew (t':=s.toks) (vx.append vy) (by rw[Ab];lia),rfl,k _ _ _ _ (DD I.fresh) (rl.newL I.fresh (rv1.app rv2)) (by rfl) (q _ (rl.none I.fresh))⟩
end L3
namespace L2
open PySem PySem.Spec PyProof.Rows
end L2
namespace Txs
open PySem PySem.Builtin.Str
theorem len_list(x:Str):x.cps.toList.length=x.length:=by simp[Str.length]
end Txs
namespace L2
open PySem PySem.Spec PyProof.Rows
section
variable {isp imk c j1 j2:Nat}{sp mk:Str}{u:Tok}{m:Str->Option Value}{p3 p4 p5 p6 p7 p8 p9 p10:Pos}{Q:Flow->Shared->Prop}
end
end L2
namespace L3
open PySem L2
end L3
namespace L2
open PySem PySem.Spec PyProof.Rows
section
end
end L2
namespace L3
open PySem L2
def iI(s:Stmt):List Stmt:=match s with
 |.ClassDef _ _ _ b _ _ _ _ _ _ _=>b
 |_=>[]
structure uL(P:Program)(w:World)(K:Ac)(mg:Str->Option Value)(base:Heap)(k:Nat)(C:Addr)(m:Str)(ps:List Str)(sp:j4):Prop where
 ex:∃g fd,yb K C m g/\Fn3 P w K mg base k g fd ps sp/\vo K fd ps []
structure yV(P:Program)(w:World)(K:Ac)(mg:Str->Option Value)(base:Heap)(k:Nat)(C:Addr)(ps:List Str)(sp:j4):Prop where
 ex:∃g fd,Mk K C g/\(∃j,k=j+1/\Fn3 P w K mg base j g fd ps sp)/\vo K fd ps []
theorem uL.mono{P:Program}{w:World}{K:Ac}{k:Nat}{m:Str}{sp:j4}(c:uL P w K mg base j C m ps sp)(h:j≤k):uL P w K mg base k C m ps sp:=by obtain⟨g,fd,M,F,b⟩:=c.ex;exact⟨g,fd,M,F.mono h,b⟩
theorem yV.mono{P:Program}{w:World}{K:Ac}{k:Nat}{sp:j4}(c:yV P w K mg base j C ps sp)(h:j≤k):yV P w K mg base k C ps sp:=by obtain⟨g,fd,M,⟨i,e,F⟩,b⟩:=c.ex;subst e;exact⟨g,fd,M,⟨k - 1,by omega,F.mono (by omega)⟩,b⟩
section
variable {m:Str}{k:Nat}{sp:j4}
theorem akp(ci:yV X.prog X.w X.K X.mg X.base k C ps sp)(hr:v8 k X.A)(hg:Gl X x)(hm:X.mg x=some (.ref C))(ha:QA X (e::es) tr)
 (hdb:Dx x:=by decide) (he:Dv e es X:=by rfl) (hpl:Dw pos es X:=by rfl):
 QE X (.Call (.Name x p) (e::es) [] pos) (zT C sp tr):=by
 obtain⟨g,fd,M,⟨j,ej,F⟩,b⟩:=ci.ex;subst ej;exact ade M F hr hg hm b ha hdb he hpl
end
structure bJ(K:Ac)(C:Addr)(x qual:Str)(st:Stmt):Prop where
 ex:∃(f:Addr) (kV doc pm:Value) (an:Option Addr) (cdv ct:Value),PySem.W.findIn K (.ref C) x=some (some (.ref f))/\PySem.W.isFn K (.ref f)=true/\Fun K x qual st f (PySem.W.fnOf x qual (ja st) (zn st) (qk st) .none kV doc pm an cdv ct)
theorem meth_in{K:Ac}{kV:Value}(a:PySem.W.findIn K (.ref C) x=some (some (.ref f)))
 (l:K.lookup f=some ⟨oc,od,.func (PySem.W.fnOf x qual (ja st) (zn st) (qk st) .none kV doc pm an cdv ct),osl⟩) (c:PySem.W.codeIn K cdv qual=true) (k:PySem.W.keepIn K (.ref f)=true) (i:PySem.W.isFn K (.ref f)=true):bJ K C x qual st:=
 ⟨f,kV,doc,pm,an,cdv,ct,a,i,xP (st:=st) l c k⟩
theorem bJ.use{K:Ac}(D:bJ K C x qual st)
 (hb:∀(kV doc pm:Value) (an:Option Addr) (cdv ct:Value) (us:List Value),us.length=ps.length->bindArgs (PySem.W.fnOf x qual (ja st) (zn st) (qk st) .none kV doc pm an cdv ct) ⟨us,[]⟩=pure (ps.zip us)):
 ∃f fd,Fun K x qual st f fd/\vo K fd ps []/\yb K C x f:=by
 obtain⟨f,kV,doc,pm,an,cdv,ct,a,i,F⟩:=D.ex;exact⟨f,_,F,vo.all (hb kV doc pm an cdv ct),⟨a,i,F.kp⟩⟩
end L3
namespace L2
open PySem PySem.Spec PyProof.Rows
end L2
namespace L3
open PySem L2
end L3
namespace L2
open PySem PySem.Spec PyProof.Rows
section
variable {te:TE} 
end
end L2
namespace L3
open PySem L2
section
end
end L3
namespace L2
open PySem PySem.Spec PyProof.Rows
end L2
namespace L3
open PySem L2 PySem.Spec PyProof.Rows
end L3
namespace L2
open PySem PySem.Spec PyProof.Rows
section
variable {T:Addr}{tr:Option Addr}
end
section
variable {T:List Str}{g:TG}{te:TE}
end
section
variable {T:Addr}{tr:Option Addr} 
end
section
variable {k:Nat} 
end
theorem pC:∀{ns:List Int} {us:List Value},zh (ns.map V.int) us->∃l:List (Int×Tok),l.map (·.1)=ns/\us=l.map fun p=>Value.int p.1 p.2
 |[],_,.nil=>⟨[],rfl,rfl⟩
 |n::ns,_,.cons r t=>by obtain⟨tk,rfl⟩:=(show ∃t,_=Value.int n t from r);obtain⟨l,e,rfl⟩:=pC t;exact⟨(n,tk)::l,by rw[Ay,e],rfl⟩
theorem aa4(hc:X.calm=true:=by rfl):jv X (.builtin "sum") (fun xs H Q=>∃(a:Addr) (ns:List Int),xs=[.ref a]/\aG X.K H a (ns.map V.int)/\Q (.int ns.sum) H):=by
 intro pins s σ H xs us Q I r h;obtain⟨a,ns,rfl,sq,q⟩:=h;obtain⟨u,rfl,ru⟩:=pX r;cases ru;obtain⟨its,rv,pl,_⟩:=I.list sq;obtain⟨l,el,rfl⟩:=pC rv;have hl:=zo pl;have ei:(l.map fun p=>Value.int p.1 p.2).toArray=intItems l.toArray:=by unfold intItems;simp
 rw[ei] at hl;refine jx I.tk (sum_intListG (I.ok.hd hc) hl fun h' tk t' hk ht=>?_);have es:preSum (numAt l.toArray) l.toArray.size=ns.sum:=by rw[preSum_eq,Bs (by simp),<-el]
 rw[es];exact⟨.int ns.sum,H,I.kept (h':=h') (t':=tk) hk ht,⟨_,rfl⟩,q⟩
end L2
namespace L3
open PySem L2
section
variable {T:List Str}{wi:TI3}{E3:X3}{Ea:Addr->qo->Prop}
end
def lV:List Y->Option (List Int)
 |[]=>some []
 |.int b::r=>(lV r).map (b::·)
 |_::_=>none
theorem u6(bs:List Int):lV (bs.map Y.int)=some bs:=by induction bs with|nil=>rfl|cons b r ih=>show(lV (r.map Y.int)).map (b::·)=_;rw[ih];rfl
theorem lC{G:G3}{H:Hp}:∀{ys:List Y} {xs:List V} {bs:List Int},lV ys=some bs->xz G H ys xs->xs=bs.map V.int
 |[],_,_,h,r=>by cases h;exact r
 |y::ys,_,bs,h,⟨x,xs',e,r1,r2⟩=>by
  cases y with
  |int b=>
   have h':(lV ys).map (b::·)=some bs:=h;obtain⟨cs,e1,rfl⟩:=Aj.mp h';cases (show x=V.int b from r1);rw[e,lC e1 r2];rfl
  |_=>cases h
def aer(xs:List Y)(L:qo)(Q:YK):Prop:=match xs with
 |[y]=>pH y=true/\hE L y fun ys=>ur L (fun bs L=>Q (.int bs.sum) L) (lV ys)
 |_=>False
theorem akl(hc:X.calm=true:=by rfl):jv X (.builtin "sum") (upL X.g3 aer):=DO (aa4 hc) fun xs H Q ⟨ys,L,Q3,rv,rl,z,k⟩=>by
 unfold aer at z;split at z
 ·rename_i y;obtain⟨x,rfl,r⟩:=rv.inv1;obtain⟨hy,z⟩:=z;obtain⟨zs,es,z⟩:=aD z;obtain⟨bs,eb,z⟩:=eF z;obtain⟨a,us,rfl,sq,rr⟩:=cn rl r hy es;cases lC eb rr;exact⟨a,bs,rfl,sq,k _ H _ L (DB _) rl (by rfl) z⟩
 ·exact z.elim
theorem ahm:bootBuiltins "sum" = some (.builtin "sum"):=by decide +kernel
end L3
namespace L2
open PySem PySem.Spec PyProof.Rows
theorem zh.takeN:∀{xs:List V} {us:List Value} (n:Nat),zh xs us->zh (xs.take n) (us.take n)
 |[],_,n,.nil=>by simp;exact .nil
 |_::_,_,0,.cons _ _=>.nil
 |_::_,_,n+1,.cons r t=>.cons r (zh.takeN n t)
theorem zh.dropN:∀{xs:List V} {us:List Value} (n:Nat),zh xs us->zh (xs.drop n) (us.drop n)
 |[],_,n,.nil=>by simp;exact .nil
 |_::_,_,0,.cons r t=>.cons r t
 |_::_,_,n+1,.cons _ t=>zh.dropN n t
section
def acw:V->List V->Hp->VK->Prop:=fun x vs H Q=>∃l xs,∃i:Int,∃y,x=.ref l/\vs=[.int i,y]/\H l=some (.lst xs)/\0≤i/\i.toNat≤xs.length/\xs.length≤100000/\Q .non (upd H l (.lst (xs.take i.toNat++y::xs.drop i.toNat)))
theorem uU:lE X "list.insert" acw:=by
 intro pins s σ H x vs v us Q I rx rv h;obtain⟨l,xs,i,y,rfl,rfl,hH,h0,hk,hz,q⟩:=h;cases rx;obtain⟨u0,u,rfl,r0,ru⟩:=rv.two;obtain⟨t,rfl⟩:=(show ∃t,u0=Value.int i t from r0);obtain⟨z,its,n,r,hl,e⟩:=I.lstM hH;have hlen:its.length=xs.length:=r.length.symm;have hb:(100000:Nat)<sizeLine:=by decide
 have fits:¬(!Builtin.List.listFitsIndex i)=true:=by unfold Builtin.List.listFitsIndex;simp;lia
 obtain⟨arr,harr⟩:∃arr:Array Value,arr=its.toArray:=⟨_,rfl⟩;have hzz:arr.size≤sizeLine:=by rw[harr,Ah];lia
 have M:=PySem.AutoListH.list_insert_list_int_val_1 l arr n i t u fits hzz;rw[harr] at M;refine call_meets F.slot_list_insert ⟨_,e,rfl⟩ F.entry_list_insert (F.args_list_insert_3 _ _ _) M ⟨e,?_⟩;refine⟨.non,_,I.lset (its':=its.take i.toNat++u::its.drop i.toNat) hH e ?_ ((r.takeN i.toNat).append (.cons ru (r.dropN i.toNat))) ?_,rfl,q⟩
 ·have h1:¬(i<0):=by lia
  have h2:min i.toNat its.length=i.toNat:=by lia
  simp[h1,h2];exact Bs (by rw[Ba];simp +arith only)
 ·simp;lia
end
end L2
namespace L3
open PySem L2
def eO(x:Y)(vs:List Y)(L:qo)(Q:YK):Prop:=match x,vs with
 |.ref a,[.int i,v]=>cT L a fun ys=>(0≤i/\i≤ys.length/\ys.length≤100000)/\Q .non (qd L a (.lst (ys.take i.toNat++v::ys.drop i.toNat)))
 |_,_=>False
theorem wV :lE X "list.insert" (upM X.g3 eO):=lE.imp uU fun x xs H Q ⟨y,ys,L,Q3,r1,r2,rl,z,k⟩=>by
 unfold eO at z;split at z
 ·rename_i a i v;obtain⟨zs,e,⟨h0,h1,h2⟩,z⟩:=xr z;obtain⟨us,e2,r⟩:=rl a _ e;obtain⟨v0,v',rfl,rv0,rv⟩:=r2.inv2;cases rv0;refine⟨a,us,i,v',r1,rfl,e2,h0,by rw[<-r.length];lia,by rw[<-r.length];exact h2,?_⟩;exact k _ _ _ _ (j3.lst e2) (rl.setL e2 ((r.take _).app (show xz X.g3 H (v::_) _ from⟨v',_,rfl,rv,r.drop _⟩))) (by rfl) z
 ·exact z.elim
theorem l5(ho:QE X o to)(ha:QA X (e::es) tr)(h4:attributeBase o "insert" X.env (eval o X.env)=eval o X.env:=by rfl)
 (h5:((backTo cpos (starEach (e::es) X.env)).all (fun x=>!x.1)&&(backToKw cpos (keywordEach [] X.env)).all (fun x=>x.1.isSome)&&decide ((e::es).length+([]:List Keyword).length+(if ([]:List Keyword).isEmpty=true then 0 else 1)<30))=true:=by rfl)
 (h6:(apos.endLine==cpos.line)=true:=by rfl) (h7:Dv e es X:=by rfl) (h8:Dw cpos es X:=by rfl):
 QE X (.Call (.Attribute o "insert" apos) (e::es) [] cpos) (gY eO to tr):=nH PySem.F.slot_list_insert PySem.F.type_list_insert wV ho ha h4 h5 h6 h7 h8
end L3
namespace L2
open PySem PySem.Spec PyProof.Rows
section
variable {w:World} 
end
section
end
section
end
section
end
end L2
namespace L3
open PySem L2
end L3
namespace L2
open PySem PySem.Spec PyProof.Rows
section
def gE(b:Nat->Bool):Nat->Nat->Nat
 |_,0=>0
 |i,k+1=>(if b i=true then 1 else 0)+gE b (i+1) k
theorem acm(l:Addr)(its:Array Value)(n:Nat)(x:Value)(b:Nat->Bool):∀(k i:Nat) (c:Int),its.size - i=k->
 Meets (Builtin.«list.count.loop» ⟨[.ref l,x,rawInt i,rawInt c],[]⟩) (fun A R s=>s.heap.get? l=some { cls:=.type "list",dict:=none,data:=.seq its n,slots:=#[] }/\(∀m (hm:m<its.size),SeqAt.EqAt A.in1 s its[m] x (b m))/\R (.ok (.ret (.int (c+((gE b i k:Nat):Int)) s.toks))) { s with toks:=s.toks+1 }):=by
 intro k
 induction k with
 |zero=>
  intro i c hk prog w A R s h;obtain⟨hp,g,d,tk,os⟩:=s;obtain⟨hl,eq,h⟩:=h
  (wp_walk using wpAny_loadPart' hl)
  have none_there:its[((i:Nat):Int).toNat]?=none:=by simp;omega
  rw[none_there]
  wp_walk
  simpa[gE] using h
 |succ k ih=>
  intro i c hk prog w A R s h;obtain⟨hp,g,d,tk,os⟩:=s;obtain⟨hl,eq,h⟩:=h;have hlt:i<its.size:=by omega
  (wp_walk using wpAny_loadPart' hl)
  have one_there:its[((i:Nat):Int).toNat]?=some its[i]:=by simp[hlt]
  have up:((i:Int)+1)=((i+1:Nat):Int):=by rfl
  rw[one_there];refine Ad (eq i hlt prog w _ _ ?_)
  wp_walk
  rw[up];refine⟨plainId_quiet MeetsSeq.plain_count_loop _,codeAny_builtin MeetsSeq.entry_count_loop ?_⟩;rw[Around.under_plainId MeetsSeq.plain_count_loop _];refine ih (i+1) _ (by omega) prog w A R _ ⟨hl,eq,?_⟩;have e:gE b i (k+1)=(if b i=true then 1 else 0)+gE b (i+1) k:=rfl;rw[e] at h;cases hb:b i with
  |false=>
   rw[hb] at h;have e2:(((if false=true then 1 else 0)+gE b (i+1) k:Nat):Int)=((gE b (i+1) k:Nat):Int):=by simp
   rw[e2] at h;exact h
  |true=>
   rw[hb] at h;have e2:c+(((if true=true then 1 else 0)+gE b (i+1) k:Nat):Int)=c+1+((gE b (i+1) k:Nat):Int):=by rw[Av rfl];push_cast;simp +arith only
   rw[e2] at h;exact h
theorem xQ(l:Addr)(its:Array Value)(n:Nat)(x:Value)(b:Nat->Bool):
 Meets (Builtin.«list.count» ⟨[.ref l,x],[]⟩) (fun A R s=>s.heap.get? l=some { cls:=.type "list",dict:=none,data:=.seq its n,slots:=#[] }/\(∀m (hm:m<its.size),SeqAt.EqAt A.in1 s its[m] x (b m))/\R (.ok (.ret (.int ((gE b 0 its.size:Nat):Int) s.toks))) { s with toks:=s.toks+1 }):=by
 intro prog w A R s h;obtain⟨hp,g,d,tk,os⟩:=s;obtain⟨hl,eq,h⟩:=h
 (wp_walk using wpAny_loadPart' hl)
 refine⟨plainId_quiet MeetsSeq.plain_count_loop _,codeAny_builtin MeetsSeq.entry_count_loop ?_⟩;rw[Around.under_plainId MeetsSeq.plain_count_loop _];refine acm l its n x b its.size 0 0 (by rfl) prog w A R _ ⟨hl,eq,?_⟩;rw[CK];exact h
theorem sm{e:Da}:∀(ds:List Da) (b:Nat->Bool) (i:Nat),(∀k d,ds[k]?=some d->b (i+k)=Da.eq d e)->gE b i ds.length=ds.countP fun d=>Da.eq d e
 |[],_,_,_=>rfl
 |d::r,b,i,h=>by
  have h0:=h 0 d rfl;have ih:=sm (e:=e) r b (i+1) fun k d' hk=>by have:=h (k+1) d' hk;rw[show i+1+k=i+(k+1) by simp +arith only];exact this
  rw[AD,AY];show(if b i=true then 1 else 0)+gE b (i+1) r.length=_;rw[ih];have h0:b i=Da.eq d e:=h0;rw[h0,CJ]
end
section
def agv(X:Cx):V->List V->Hp->VK->Prop:=fun x vs H Q=>∃l xs y ds e,∃n m:Nat,x=.ref l/\vs=[y]/\H l=some (.lst xs)/\n≤126/\Paired (xx X.K H n) xs ds/\xx X.K H m y e/\Q (.int (((ds.countP fun d=>Da.eq d e):Nat):Int)) H
theorem zO(hu:X.A.units+128<cLine):lE X "list.count" (agv X):=by
 intro pins s σ H x vs v us Q I rx rv h;obtain⟨l,xs,y,ds,e,n,m,rfl,rfl,hH,hn,pd,ry,q⟩:=h;cases rx;obtain⟨u,rfl,ru⟩:=rv.one;obtain⟨z,its,nn,r,hl,eo⟩:=I.lstM hH;have l1:xs.length=ds.length:=pd.length;have l2:its.length=xs.length:=r.length.symm;obtain⟨arr,harr⟩:∃arr:Array Value,arr=its.toArray:=⟨_,rfl⟩;have hsz:arr.size=ds.length:=by rw[harr,Ah];lia
 have M:=xQ l arr nn u (fun k=>((ds[k]?).map fun d=>Da.eq d e).getD false);have hc:gE (fun k=>((ds[k]?).map fun d=>Da.eq d e).getD false) 0 arr.size=ds.countP fun d=>Da.eq d e:=by rw[hsz];refine sm ds _ 0 fun k d hk=>?_;show((ds[0+k]?).map fun d=>Da.eq d e).getD false=_;rw[B6,hk];rfl
 rw[hc,harr] at M;refine call_meets F.slot_list_count ⟨_,eo,rfl⟩ F.entry_list_count (F.args_list_count_2 _ _) M ⟨eo,fun k hk=>?_,?_⟩
 ·have hk':k<its.length:=by rw[Ah] at hk;exact hk
  obtain⟨d,ed,rd⟩:=Words.Paired.getP pd (Ae (by lia:k<xs.length));show SeqAt.EqAt _ s _ u (((ds[k]?).map fun d=>Da.eq d e).getD false);rw[ed];obtain⟨u',eu',ru'⟩:=Words.Paired.getP r (Ae (by lia:k<xs.length));have eg:its.toArray[k]=u':=by have:=(AX.mp eu').2;simpa using this
  rw[eg];exact gM I n (by show X.A.units+1+n<cLine;lia) rd ry ru' ru
 ·exact⟨.int _,_,I.tok (s.toks+1),⟨_,rfl⟩,q⟩
end
end L2
namespace L3
open PySem L2
def i6(x:Y)(vs:List Y)(L:qo)(Q:YK):Prop:=match x,vs with
 |.ref a,[v]=>cT L a fun ys=>∃ds e,∃n m:Nat,n≤126/\Paired (xo L n) ys ds/\xo L m v e/\Q (.int (((ds.countP fun d=>Da.eq d e):Nat):Int)) L
 |_,_=>False
theorem ac2(hu:X.A.units+128<cLine):lE X "list.count" (upM X.g3 i6):=lE.imp (zO hu) fun x xs H Q ⟨y,ys,L,Q3,r1,r2,rl,z,k⟩=>by
 unfold i6 at z;split at z
 ·rename_i a v;obtain⟨zs,e,ds,de,n,m,hn,pd,dv,z⟩:=xr z;obtain⟨us,e2,r⟩:=rl a _ e;obtain⟨v',rfl,rv⟩:=r2.inv1;have both:∀{ys:List Y} {ds:List Da} {xs:List V},Paired (xo L n) ys ds->xz X.g3 H ys xs->Paired (xx X.K H n) xs ds:=by
   intro ys ds xs p
   induction p generalizing xs with
   |nil=>intro q;cases (show xs=[] from q);exact .nil
   |cons h t ih=>
    rintro⟨x,xs',rfl,q1,q2⟩;exact .cons (xo.rep rl h q1) (ih q2)
  exact⟨a,us,v',ds,de,n,m,r1,rfl,e2,hn,both pd r,xo.rep rl dv rv,k _ _ _ _ (DB _) rl (by rfl) z⟩
 ·exact z.elim
theorem oI(hu:X.A.units+128<cLine)(ho:QE X o to)(ha:QA X (e::es) tr)(h4:attributeBase o "count" X.env (eval o X.env)=eval o X.env:=by rfl)
 (h5:((backTo cpos (starEach (e::es) X.env)).all (fun x=>!x.1)&&(backToKw cpos (keywordEach [] X.env)).all (fun x=>x.1.isSome)&&decide ((e::es).length+([]:List Keyword).length+(if ([]:List Keyword).isEmpty=true then 0 else 1)<30))=true:=by rfl)
 (h6:(apos.endLine==cpos.line)=true:=by rfl) (h7:Dv e es X:=by rfl) (h8:Dw cpos es X:=by rfl):
 QE X (.Call (.Attribute o "count" apos) (e::es) [] cpos) (gY i6 to tr):=nH PySem.F.slot_list_count PySem.F.type_list_count (ac2 hu) ho ha h4 h5 h6 h7 h8
theorem uq{kvs:List (jc×Y)}{xs:List (jc×V)}{k:jc}(p:Paired (fun(p:jc×Y) (q:jc×V)=>p.1=q.1/\RV G H p.2 q.2) kvs xs)(h:wb kvs k=none):dD xs k=none:=by
 induction p with
 |nil=>rfl
 |@cons a b _ _ r t ih=>
  obtain⟨e,_⟩:=r;unfold wb at h;rw[Bh] at h;by_cases c:a.1=k
  ·rw[Al c] at h;cases h
  ·rw[Am c] at h;rw[dt (fun z=>c (e.trans z))];exact ih h
def qH(td ti tx:jz)(τ:jb)(L:qo)(Q:YK):Prop:=td τ L fun x L1=>match x with
 |.ref a=>m3 L1 a fun _=>ti τ L1 fun y L2=>tx τ L2 fun z L3=>match acs y with
  |some k=>m3 L3 a fun kvs=>Q ((wb kvs k).getD z) L3
  |none=>False
 |_=>False
theorem pF{f:Expr}{td tx:jz}(hu:X.A.units+128<cLine)(ho:QE X o td)(hi:QE X e ti)(hf:QE X f tx)(m:M2 X o "get" apos e f cpos:=by exact⟨rfl,rfl,rfl,rfl⟩):QE X (.Call (.Attribute o "get" apos) [e,f] [] cpos) (qH td ti tx):=DC (wE (by lia) ho hi hf m) fun σ H Q ⟨τ,L,Q3,rs,rl,z,k⟩=>
 ⟨τ,L,_,rs,rl,z,fun v H1 x L1 t1 rl1 rv1 z1=>by
  split at z1
  ·rename_i a;obtain⟨kvs0,e0,z1⟩:=cR z1;obtain⟨xs0,e02,_⟩:=rl1 a _ e0;refine⟨a,rv1,.inl ⟨xs0,.inl e02⟩,τ,L1,_,rs.ts t1,rl1,z1,fun w H2 y L2 t2 rl2 rv2 z2=>⟨τ,L2,_,rs.ts (t1.trans t2),rl2,z2,fun u H3 yz L3 t3 rl3 rv3 z3=>?_⟩⟩;split at z3
   ·rename_i kk ek;obtain⟨kvs,e,z3⟩:=cR z3;obtain⟨xs,e2,pr⟩:=rl3 a _ e;have rk:=iQ ek rv2;cases ev:wb kvs kk with
    |none=>
     rw[ev] at z3;exact⟨none,.inl ⟨xs,kk,.inl e2,rk,(uq pr ev).symm⟩,k _ H3 _ L3 ((t1.trans t2).trans t3) rl3 rv3 z3⟩
    |some yv=>
     rw[ev] at z3;obtain⟨xv,ex,rx⟩:=gD pr ev;exact⟨some xv,.inl ⟨xs,kk,.inl e2,rk,ex.symm⟩,k _ H3 _ L3 ((t1.trans t2).trans t3) rl3 rx z3⟩
   ·exact z3.elim
  ·exact z1.elim⟩
end L3
namespace L2
open PySem PySem.Spec PyProof.Rows
section
def am2:List V->Hp->VK->Prop:=fun xs H Q=>∃n:Int,xs=[.int n]/\∀p,H p=none->Q (.ref p) (upd H p (.rng 0 n))
theorem yd:jv X (.type "range") am2:=by intro pins s σ H xs us Q I r h;obtain⟨n,rfl,q⟩:=h;obtain⟨u,rfl,ru⟩:=r.one;obtain⟨t,rfl⟩:=(show ∃t,u=Value.int n t from ru);refine call_range_1 ?_;refine⟨.ref s.heap.objs.size,_,I.laid (t':=s.toks+1+1) (o:=.rng 0 n) (fun b ob q=>Heap.get?_push_of_some _ q) (Ag _) ?_,rfl,q _ (I.hok.fresh (Ag _))⟩;exact⟨s.toks,t,s.toks+1,Heap.get?_push_size _ rfl⟩
theorem rq{acc:Array Value}(h:ItemsOf (fun i v=>∃t,v=.int (0+(i:Int)*1) t) acc n):zh ((List.range n).map fun i:Nat=>V.int (0+(i:Int))) acc.toList:=by
 have len:acc.toList.length=n:=by rw[Bj];exact h.1
 have key:∀(l:List Value) (k:Nat),(∀(j:Nat) v,l[j]?=some v->∃t,v=Value.int (0+((k+j:Nat):Int)*1) t)->zh ((List.range' k l.length).map fun i:Nat=>V.int (0+(i:Int))) l:=by
  intro l
  induction l with
  |nil=>intro k _;exact .nil
  |cons v r ih=>
   intro k hk;rw[AD,List.range'_succ,Ay];obtain⟨t,e⟩:=hk 0 v rfl;refine .cons ?_ (ih (k+1) fun j v' hj=>?_)
   ·exact⟨t,by rw[e];simp⟩
   ·have:=hk (j+1) v' hj;rw[show k+1+j=k+(j+1) by simp +arith only];exact this
 have:=key acc.toList 0 fun j v hj=>by rw[B6];exact h.2 j v (by simpa using hj)
 rw[len,<-List.range_eq_range'] at this;exact this
def akj:List V->Hp->VK->Prop:=fun xs H Q=>∃a,∃n:Nat,xs=[.ref a]/\H a=some (.rng 0 n)/\n≤100000/\∀p,H p=none->Q (.ref p) (upd H p (.lst ((List.range n).map fun i:Nat=>V.int (0+(i:Int)))))
theorem uZ(hc:X.calm=true):jv X (.type "list") akj:=by
 intro pins s σ H xs us Q I r h;obtain⟨a,n,rfl,ha,hn,q⟩:=h;obtain⟨u,rfl,ru⟩:=r.one;cases (show u=Value.ref a from ru);obtain⟨t,u,v,e⟩:=I.hok a _ ha;have hb:(100000:Nat)≤sizeLine:=by decide
 have rs:Builtin.Range.rangeSize 0 (n:Int) 1=((n:Nat):Int):=by rw[rangeSize_one];split<;>lia
 refine jx I.tk (call_list_range (I.ok.hd hc) (show IsRange s.heap a 0 (n:Int) 1 t u v from e) (small_one (by decide) (by decide) (by exact Bp _) (by omega)) rs (AI hn (by decide)) fun h' tk acc c hk hS hacc ht=>?_);refine⟨.ref s.heap.objs.size,_,I.laid (t':=tk) (o:=.lst ((List.range n).map fun i:Nat=>V.int (0+(i:Int)))) hk (Ag _) ?_,rfl,q _ (I.hok.fresh (Ag _))⟩;refine⟨by rw[Aa,AZ];exact abc,acc.toList,c,rq hacc,?_⟩;rw[hS]
end
end L2
namespace L3
open PySem L2
theorem agj:bootBuiltins "range" = some (.type "range"):=by decide +kernel
def ij(te:jz)(τ:jb)(L:qo)(Q:YK):Prop:=te τ L fun y L1=>match y with
 |.int n=>(0≤n/\n≤100000)/\∀p,L1 p=none->Q (.ref p) (qd L1 p (.lst (wg 0 n.toNat)))
 |_=>False
theorem aac(n:Nat):xz G H (wg 0 n) ((List.range n).map fun i:Nat=>V.int (0+(i:Int))):=by
 unfold wg;generalize List.range n=l
 induction l with|nil=>rfl|cons k r ih=>exact⟨_,_,rfl,rfl,ih⟩
theorem jA{pos2:Pos}(hc:X.calm=true)(hg:Gl X "list")(hm:X.mg "list" = none)(hg2:Gl X "range")(hm2:X.mg "range" = none)(h:QE X e te)
 (h1:starEach [.Call (.Name "range" p2) [e] [] pos2] X.env=(false,eval (.Call (.Name "range" p2) [e] [] pos2) X.env)::starEach [] X.env:=by rfl) (h2:(backTo pos (starEach [] X.env)).any (·.1)=false:=by rfl)
 (h3:starEach [e] X.env=(false,eval e X.env)::starEach [] X.env:=by rfl) (h4:(backTo pos2 (starEach [] X.env)).any (·.1)=false:=by rfl):
 QE X (.Call (.Name "list" p) [.Call (.Name "range" p2) [e] [] pos2] [] pos) (ij te):=
 DC (f8 (uZ hc) hg hm bG (ck (f8 yd hg2 hm2 agj (ck h iP h3) (by decide) (by decide) h3 h4) iP h1) (by decide) (by decide) h1 h2) fun σ H Q ⟨τ,L,Q3,rs,rl,z,k⟩=>
 ⟨τ,L,_,rs,rl,z,fun v H1 y L1 t1 rl1 rv1 z1=>by
  cases y with
  |int n=>
   obtain⟨⟨h0,h5⟩,z1⟩:=z1;cases (show v=V.int n from rv1);obtain⟨m,rfl⟩:∃m:Nat,n=(m:Int):=⟨n.toNat,by lia⟩;refine⟨_,rfl,fun q hq=>⟨q,m,rfl,xk,by lia,fun p hp=>?_⟩⟩;have hp1:H1 p=none:=by
    by_cases c:p=q
    ·subst c;exact hq
    ·rw[z7 c] at hp;exact hp
   exact k _ _ _ _ (t1.trans ((DD hq).trans (DD hp))) ((rl1.skip hq).newL hp (aac m)) (by rfl) (z1 p (rl1.none hp1))
  |_=>exact z1.elim⟩
def gu(C:Addr)(m:Str)(sp:j4)(to:jz)(t:cN)(τ:jb)(L:qo)(Q:YK):Prop:=to τ L fun x L1=>match x with
 |.ref a=>rP L1 a fun C' fs=>C'=C/\fs.lookup m=none/\t τ L1 fun ys L2=>sp (.ref a::ys) L2 Q
 |_=>False
section
variable {m:Str}{g:Addr}
theorem abh{pl:Sem Bool}{k:Nat}{sp:j4}(ho:QE X o to)(c:Cls X.K C)(hm:yb X.K C m g)(F:Fn3 X.prog X.w X.K X.mg X.base k g fd ps sp)(hr:v8 k X.A)(hb:vo X.K fd ps [])(ha:QA X (e::es) tr)
 (hst:Dv e es X:=by rfl) (hpl:Dw pos es X:=by rfl)
 (ht:eval (.Call (.Attribute o m apos) (e::es) [] pos) X.env=(do
  let ov <-eval o X.env
  standAt apos.atName
  let (f,first) <-holding [ov] (getMethod ov m pl)
  callWith pos f first (backTo pos (starEach (e::es) X.env)) (backToKw pos (keywordEach [] X.env))):=by rfl):
 QE X (.Call (.Attribute o m apos) (e::es) [] pos) (gu C m sp to tr):=DC (ad2 (pl:=pl) ho c hm F hr hb .nil yG ha hst hpl ht) fun σ H Q ⟨τ,L,Q3,rs,rl,z,k⟩=>
 ⟨τ,L,_,rs,rl,z,fun v H1 y L1 t1 rl1 rv1 z1=>by
  split at z1
  ·rename_i a;obtain⟨C',fs,e,ec,n,q⟩:=jL z1;subst ec;obtain⟨dx,xs,e2,pr⟩:=rl1 a _ e;cases (show v=V.ref a from rv1);exact⟨a,dx,xs,rfl,e2,vX pr n,τ,L1,_,rs.ts t1,rl1,q,fun vs H2 ys L2 t2 rl2 rv2 z2=>⟨.ref a::ys,L2,Q3,⟨.ref a,vs++[],rfl,rfl,by rw[AL];exact rv2⟩,rl2,z2,k.ts (t1.trans t2)⟩⟩
  ·exact z1.elim⟩
theorem u7{pl:Sem Bool}{k:Nat}{sp:j4}(cm:uL X.prog X.w X.K X.mg X.base k C m ps sp)(hr:v8 k X.A)(c:Cls X.K C)(ho:QE X o to)(ha:QA X (e::es) tr)
 (hst:Dv e es X:=by rfl) (hpl:Dw pos es X:=by rfl)
 (ht:eval (.Call (.Attribute o m apos) (e::es) [] pos) X.env=(do
  let ov <-eval o X.env
  standAt apos.atName
  let (f,first) <-holding [ov] (getMethod ov m pl)
  callWith pos f first (backTo pos (starEach (e::es) X.env)) (backToKw pos (keywordEach [] X.env))):=by rfl):
 QE X (.Call (.Attribute o m apos) (e::es) [] pos) (gu C m sp to tr):=by
 obtain⟨g,fd,M,F,b⟩:=cm.ex;exact abh (pl:=pl) ho c M F hr b ha hst hpl ht
end
end L3
namespace TS
open PySem PyProof.Rows
section
variable {w:World} 
structure Ord(prog:Program)(w:World)(A:Around)(s:Shared)(κ:SortKind)(Ok:Keyed->Prop)(f:Keyed->Int):Prop where
 lt:∀x y,Ok x->Ok y->∀{E:Value->Shared->Prop} {Q:Bool->Shared->Prop},Q (decide (f x<f y)) s->wpAny (model prog w) A (keyLt' κ x.1 y.1) Q E s
variable {κ:SortKind}{Ok:Keyed->Prop}{f:Keyed->Int}
theorem w_lt(O:Ord prog w A s κ Ok f){st:SortSt}{x y:Keyed}{Q:Option Bool->SortSt->Prop}(hk:kindOf st=κ)(hx:Ok x)(hy:Ok y)(h:Q (some (decide (f x<f y))) st):wpS (model prog w) A E s (lt' x y) Q st:=by rw[lt'_eq];refine Ar (wpS_get ?_);rw[hk];refine Ar (wpS_lift (wpAny_attempt (O.lt x y hx hy ⟨rfl,?_⟩)));exact AE h
theorem xU{arr:Array Keyed}{x:Keyed}{st:SortSt}{Q:Keyed->SortSt->Prop}(h:arr[i]?=some x)(q:Q x st):wpS (model prog w) A E s (elem' arr i) Q st:=by rw[elem'_eq,h];exact AE q
end
section
variable {f:Keyed->Int}{a b out:Array Keyed}{ia ib:Nat}
end
section
variable {w:World}{κ:SortKind}{Ok:Keyed->Prop}{f:Keyed->Int}
end
theorem ajw(l:List Keyed){k:Nat}(h:i≤k):l.take i++(l.drop i).take (k - i)=l.take k:=by have:=List.take_add (l:=l) (i:=i) (j:=k - i);rw[show i+(k - i)=k by omega] at this;exact this.symm
section
variable {f:Keyed->Int}{a b out:Array Keyed}{na nb:Nat}
end
section
variable {w:World}{κ:SortKind}{Ok:Keyed->Prop}{f:Keyed->Int}
end
section
variable {w:World}{κ:SortKind}{Ok:Keyed->Prop}{f:Keyed->Int}
theorem anu{l:List Keyed}(s:l.Pairwise fun x y=>f x≤f y)(hij:i≤j)(hj:j<l.length):f (l[i]'(by exact abz))≤f l[j]:=by
 rcases Nat.lt_or_eq_of_le hij with h | h
 ·exact BF.mp s i j (by exact abz) hj h
 ·subst h;exact Cz _
end
theorem o7{arr:Array α}{P R:List α}(h:arr.toList=P++R)(hn:n≤R.length):(mirror arr P.length (P.length+n) ((P.length+n - P.length) / 2)).toList=P++((R.take n).reverse++R.drop n):=by
 have hs:arr.size=P.length+R.length:=by rw[<-Bj,h];simp
 refine C0 fun k=>?_;rw[Bf,getElem?_mirror_all (by lia)];by_cases c:P.length≤k/\k<P.length+n
 ·rw[Av c,<-Bf,h,Au (by omega),Au (by lia),AO (by simp;omega),List.getElem?_reverse (by simp;omega),CO,AJ,Av (by omega)];congr 1;lia
 ·rw[As c,<-Bf,h];by_cases c2:k<P.length
  ·rw[AO c2,AO c2]
  ·rw[Au (by exact abg),Au (by omega),Au (by simp;lia),CP];congr 1;simp;lia
theorem o6{arr:Array α}{P R:List α}{k l:Nat}(h:arr.toList=P++R)(hk:k<R.length)(hl:l≤k):(bubble arr (P.length+k) (P.length+k - (P.length+l))).toList=P++(R.take l++R[k]::((R.drop l).take (k - l)++R.drop (k+1))):=by
 have hs:arr.size=P.length+R.length:=by rw[<-Bj,h];simp
 refine C0 fun i=>?_;rw[Bf,getElem?_bubble (by lia) _ (by exact Nat.sub_le _ _),show P.length+k - (P.length+k - (P.length+l))=P.length+l by omega];by_cases c1:i=P.length+l
 ·rw[Av c1,<-Bf,h,c1,Au (by exact BL _ _),Au (by exact BL _ _),Au (by simp;lia)];rw[show P.length+l - P.length - (R.take l).length=0 by simp;lia,show P.length+k - P.length=k by lia,List.getElem?_cons_zero];simp[hk]
 ·rw[As c1];by_cases c2:P.length+l<i/\i≤P.length+k
  ·rw[Av c2,<-Bf,h,Au (by omega),Au (by lia),Au (by simp;lia)];obtain⟨d,hd⟩:∃d,i=P.length+l+d+1:=⟨i - P.length - l - 1,by omega⟩;rw[show i - P.length - (R.take l).length=d+1 by simp;lia,Cg,AO (by simp;omega),CO,Av (by omega),CP];congr 1;omega
  ·rw[As c2,<-Bf,h];by_cases c3:i<P.length
   ·rw[AO c3,AO c3]
   ·rw[Au (by exact abg),Au (by omega)];by_cases c4:i<P.length+l
    ·rw[AO (by simp;lia),CO,Av (by omega)]
    ·obtain⟨d,hd⟩:∃d,i=P.length+k+d+1:=⟨i - P.length - k - 1,by omega⟩;rw[Au (by simp;lia),show i - P.length - (R.take l).length=(k - l)+d+1 by simp;lia,Cg,Au (by simp;omega),CP];congr 1;simp;lia
section
variable {w:World}{κ:SortKind}{Ok:Keyed->Prop}{f:Keyed->Int}
structure Tl(κ:SortKind)(Ok:Keyed->Prop)(st:SortSt)(P R:List Keyed):Prop where
 kind:kindOf st=κ
 arr:(arrOf st).toList=P++R
 ok:∀x∈R,Ok x
theorem gJ(O:Ord prog w A s κ Ok f){st:SortSt}{P R:List Keyed}(T:Tl κ Ok st P R)(hi:i<R.length)(hj:j<R.length){a b:Nat}(ea:a=P.length+i)(eb:b=P.length+j){Q:Option Bool->SortSt->Prop}(q:Q (some (decide (f R[i]<f R[j]))) st):wpS (model prog w) A E s (ltAt' a b) Q st:=by
 have at_:∀i (hi:i<R.length),(arrOf st)[P.length+i]?=some R[i]:=fun i hi=>by rw[<-Bf,T.arr,Au (by exact BL _ _),Nat.add_sub_cancel_left];simp
 subst ea eb;rw[ltAt'_eq];refine Ar (wpS_get ?_);refine Ar (xU (at_ i hi) (Ar (xU (at_ j hj) ?_)));exact w_lt O T.kind (T.ok _ (Ct _)) (T.ok _ (Ct _)) q
def Up(f:Keyed->Int)(R:List Keyed)(n:Nat):Prop:=∀i j (_:i≤j) (_:j<R.length),j<n->f (R[i]'(by exact abz))≤f R[j]
theorem Up.snoc{R:List Keyed}(h:Up f R n)(h1:1≤n)(hn:n<R.length)(hs:f (R[n - 1]'(by exact oA))≤f R[n]):Up f R (n+1):=fun i j hij hj hjn=>by
 rcases Dh j n with c | c
 ·exact h i j hij hj c
 ·have e:j=n:=by lia
  subst e;rcases Dh i j with c2 | c2
  ·exact Di (h i (j - 1) (by omega) (by exact oA) (by exact aiz)) hs
  ·have e:i=j:=by lia
   subst e;exact Cz _
theorem Up.pair{R:List Keyed}(h:Up f R n)(hn:n≤R.length):(R.take n).Pairwise fun x y=>f x≤f y:=by rw[BF];intro i j hi hj hij;rw[AJ] at hi hj;rw[Bt,Bt];exact h i j (by exact abq) (by lia) (by lia)
end
section
variable {w:World}{κ:SortKind}{Ok:Keyed->Prop}{f:Keyed->Int}
theorem Tl.same{st:SortSt}{P R R':List Keyed}(T:Tl κ Ok st P R)(p:R'.Perm R){arr:Array Keyed}(h:arr.toList=P++R'):Tl κ Ok (setArr st arr) P R':=⟨T.kind,h,fun x hx=>T.ok x (p.mem_iff.mp hx)⟩
theorem Up.one{R:List Keyed}:Up f R 1:=fun i j hij hj h=>by
 have:i=j:=by lia
 subst this;exact Cz _
theorem aat(O:Ord prog w A s κ Ok f){st:SortSt}{P R:List Keyed}(T:Tl κ Ok st P R)(h1:1≤R.length)(inj:∀i j (_:i<j) (_:j<R.length),f (R[i]'(by exact xG))≠f R[j]){Q:Option Nat->SortSt->Prop}
 (q:∀n R' arr,1≤n->n≤R.length->R'.Perm R->arr.toList=P++R'->Up f R' n->Q (some n) (setArr st arr)):wpS (model prog w) A E s (countRun' P.length R.length) Q st:=by
 have hst:setArr st (arrOf st)=st:=rfl;refine Ar (wpS_mono (Bc (I:=fun x c st'=>st'=st/\c=(none,x)/\Up f R x)
  (Q:=fun c st'=>st'=st/\∃n,c=(none,n)/\1≤n/\n≤R.length/\Up f R n/\(n=R.length\/∃h:n<R.length,f R[n]<f (R[n - 1]'(by exact oA)))) ?_ ?_ ⟨rfl,rfl,Up.one⟩) ?_)
 ·rintro x c st' hx1 hx ⟨rfl,rfl,U⟩;dsimp only;refine Ar (gJ O T (i:=x) (j:=x - 1) hx (by exact oA) rfl (by lia) ?_);dsimp only;by_cases c:f R[x]<f (R[x - 1]'(by omega))
  ·rw[Al c,Av rfl];exact AE ⟨rfl,x,rfl,hx1,by exact abq,U,.inr ⟨hx,c⟩⟩
  ·rw[Am c,As (by simp)];exact AE ⟨rfl,rfl,U.snoc hx1 hx (by omega)⟩
 ·rintro c st' ⟨rfl,rfl,U⟩;exact⟨rfl,_,rfl,by lia,by lia,by rw[Nat.max_eq_right h1] at *;exact U,.inl (by lia)⟩
 ·rintro c st' ⟨rfl,n,rfl,hn1,hn2,U,hend⟩;dsimp only;by_cases c1:(n==R.length)=true
  ·rw[Av c1];exact AE (q n R (arrOf st') hn1 hn2 (CQ _) T.arr U)
  rw[As c1];have c1:¬n=R.length:=by simpa using c1
  have hnl:n<R.length:=by exact als
  by_cases c2:n > 1
  ·rw[Av c2];refine Ar (gJ O T (i:=0) (j:=n - 1) (by assumption) (by exact oA) rfl (by omega) ?_);have:f R[0]<f (R[n - 1]'(by omega)):=by have h3:=U 0 (n - 1) (by exact Nat.le_add_left _ _) (by omega) (by exact aiz);have h4:=inj 0 (n - 1) (by omega) (by exact oA);omega
   dsimp only;rw[Al this,Av rfl];exact AE (q n R (arrOf st') hn1 hn2 (CQ _) T.arr U)
  rw[As c2];obtain rfl:n=1:=by lia
  refine Ar (wpS_lift (wpAny_rule ⟨rfl,?_⟩));have hd:f R[1]<f R[0]:=by
   rcases hend with h | ⟨h,h'⟩
   ·omega
   ·exact h'
  refine Ar (wpS_mono (Bc (I:=fun x c st''=>st''=st'/\c=(none,x,0)/\∀i j (_:i≤j) (_:j<R.length),j<x->f R[j]≤f (R[i]'(by exact abz)))
   (Q:=fun c st''=>st''=st'/\∃n,c=(none,n,0)/\2≤n/\n≤R.length/\∀i j (_:i≤j) (_:j<R.length),j<n->f R[j]≤f (R[i]'(by omega))) ?_ ?_ ⟨rfl,rfl,?_⟩) ?_)
  ·rintro x c st'' hx1 hx ⟨rfl,rfl,D⟩;dsimp only;refine Ar (gJ O T (i:=x) (j:=x - 1) hx (by exact oA) rfl (by lia) ?_);dsimp only;by_cases c:f R[x]<f (R[x - 1]'(by omega))
   ·rw[Al c,Av rfl,As (by simp)];refine AE ⟨rfl,rfl,fun i j hij hj hjx=>?_⟩;rcases Dh j x with h | h
    ·exact D i j hij hj h
    ·have e:j=x:=by lia
     subst e;rcases Dh i j with h2 | h2
     ·exact Di (Int.le_of_lt c) (D i (j - 1) (by omega) (by exact oA) (by omega))
     ·have e:i=j:=by lia
      subst e;exact Cz _
   ·rw[Am c,As (by simp)];refine Ar (gJ O T (i:=x - 1) (j:=x) (by omega) hx (by lia) rfl ?_);have h4:=inj (x - 1) x (by omega) hx;have:f (R[x - 1]'(by omega))<f R[x]:=by lia
    dsimp only;rw[Al this,Av rfl];exact AE ⟨rfl,x,rfl,by omega,by exact abq,D⟩
  ·rintro c st'' ⟨rfl,rfl,D⟩;exact⟨rfl,_,rfl,by lia,by lia,D⟩
  ·intro i j hij hj hjx;have:j=0\/j=1:=by lia
   rcases this with rfl | rfl
   ·have:i=0:=by lia
    subst this;exact Cz _
   ·have:i=0\/i=1:=by lia
    rcases this with rfl | rfl
    ·exact Int.le_of_lt hd
    ·exact Cz _
  ·rintro c st'' ⟨rfl,n,rfl,g1,g2,D⟩;dsimp only;rw[As (by simp)];have T':=T.same (R':=(R.take n).reverse++R.drop n) (((B2 _).mpr (List.reverse_perm _)).trans (by rw[A0])) (o7 T.arr g2);obtain⟨R',eR⟩:∃R',R'=(R.take n).reverse++R.drop n:=⟨_,rfl⟩;have pR:R'.Perm R:=by rw[eR];exact((B2 _).mpr (List.reverse_perm _)).trans (by rw[A0])
   have lR:R'.length=R.length:=pR.length_eq;have U':Up f R' n:=fun i j hij hj hjn=>by
    subst eR;rw[C4 (by simp;lia),C4 (by simp;lia),List.getElem_reverse,List.getElem_reverse,Bt,Bt];refine D _ _ ?_ (by simp;omega) ?_
    ·simp;omega
    ·simp;omega
   rw[<-eR] at T';refine Ar (wpS_modify ?_);refine Ar (wpS_mono (Bc (I:=fun x c sx=>sx=setArr st'' (mirror (arrOf st'') P.length (P.length+n) ((P.length+n - P.length) / 2))/\c=(none,x)/\Up f R' x)
    (Q:=fun c sx=>sx=setArr st'' (mirror (arrOf st'') P.length (P.length+n) ((P.length+n - P.length) / 2))/\∃n,c=(none,n)/\1≤n/\n≤R.length/\Up f R' n) ?_ ?_ ⟨rfl,rfl,U'⟩) ?_)
   ·rintro x c sx hx1 hx ⟨rfl,rfl,U⟩;dsimp only;refine Ar (gJ O T' (i:=x) (j:=x - 1) (by lia) (by omega) rfl (by lia) ?_);dsimp only;by_cases c:f (R'[x]'(by omega))<f (R'[x - 1]'(by omega))
    ·rw[Al c,Av rfl];exact AE ⟨rfl,x,rfl,by exact alm,by exact abq,U⟩
    ·rw[Am c,As (by simp)];exact AE ⟨rfl,rfl,U.snoc (by omega) (by lia) (by omega)⟩
   ·rintro c sx ⟨rfl,rfl,U⟩;exact⟨rfl,_,rfl,by lia,by lia,U⟩
   ·rintro c sx ⟨rfl,n,rfl,k1,k2,U⟩;exact AE (q n R' _ k1 k2 pR T'.arr U)
end
section
variable {w:World}{κ:SortKind}{Ok:Keyed->Prop}{f:Keyed->Int}
theorem Up.of{R:List Keyed}(h:(R.take n).Pairwise fun x y=>f x≤f y):Up f R n:=fun i j hij hj hjn=>by have:=anu h (i:=i) (j:=j) hij (by simp;lia);rw[Bt,Bt] at this;exact this
theorem yt{R:List Keyed}{k l:Nat}(hk:k<R.length)(hl:l≤k):(R.take l++R[k]::((R.drop l).take (k - l)++R.drop (k+1))).Perm R:=by
 have e:R=R.take l++((R.drop l).take (k - l)++(R[k]::R.drop (k+1))):=by rw[<-AU,ajw _ hl,<-BG hk,A0]
 refine List.Perm.trans ?_ (List.Perm.of_eq e.symm);exact(CW _).mpr List.perm_middle.symm
theorem agw{R:List Keyed}{k l:Nat}(hk:k<R.length)(hl:l≤k)(U:Up f R k)(lo:∀i (_:i<l),f (R[i]'(by lia))≤f R[k])(hi:∀i (_:i<k),l≤i->f R[k]≤f (R[i]'(by exact xG))):
 Up f (R.take l++R[k]::((R.drop l).take (k - l)++R.drop (k+1))) (k+1):=by
 apply Up.of;have e:R.take l++R[k]::((R.drop l).take (k - l)++R.drop (k+1))=(R.take l++R[k]::(R.drop l).take (k - l))++R.drop (k+1):=by simp
 rw[e,List.take_left' (by simp;lia)];have ab:=U.pair (Bi hk);rw[<-ajw R hl] at ab;have ab:=List.pairwise_append.mp ab;have hB:∀y∈(R.drop l).take (k - l),f R[k]≤f y:=fun y hy=>by obtain⟨j,hj,rfl⟩:=List.getElem_of_mem hy;rw[AJ,Ba] at hj;rw[Bt,List.getElem_drop];exact hi (l+j) (by lia) (by exact BL _ _)
 have hA:∀x∈R.take l,f x≤f R[k]:=fun x hx=>by obtain⟨j,hj,rfl⟩:=List.getElem_of_mem hx;rw[AJ] at hj;rw[Bt];exact lo j (by lia)
 refine List.pairwise_append.mpr ⟨ab.1,CS.mpr ⟨hB,ab.2.1⟩,fun x hx y hy=>?_⟩;rcases AC.mp hy with rfl | hy
 ·exact hA x hx
 ·exact ab.2.2 x hx y hy
theorem ajf(O:Ord prog w A s κ Ok f){st:SortSt}{P R:List Keyed}(T:Tl κ Ok st P R){ok:Nat}(hn:n≤R.length)(h1:1≤ok)(ho:ok≤n)(U:Up f R ok){Q:Bool->SortSt->Prop}
 (q:∀R' arr,R'.Perm R->arr.toList=P++R'->Up f R' n->Q true (setArr st arr)):wpS (model prog w) A E s (binarySort' P.length n ok) Q st:=by
 have hst:setArr st (arrOf st)=st:=rfl;refine Ar (wpS_mono (Bc (I:=fun x c st'=>c=(none,())/\∃R' arr,st'=setArr st arr/\R'.Perm R/\arr.toList=P++R'/\Up f R' x)
  (Q:=fun c st'=>c=(none,())/\∃R' arr,st'=setArr st arr/\R'.Perm R/\arr.toList=P++R'/\Up f R' n) ?_ ?_ ⟨rfl,R,arrOf st,rfl,CQ _,T.arr,by rw[Nat.max_eq_left h1];exact U⟩) ?_)
 ·rintro x c st' hx1 hx ⟨rfl,R',arr,rfl,pR,eA,U'⟩;have T':=T.same pR eA;have lR:R'.length=R.length:=pR.length_eq;have hxl:x<R'.length:=by lia
  dsimp only;refine Ar (wpS_mono (Bc (I:=fun y c st'=>st'=setArr st arr/\∃l r,c=(none,l,r)/\l≤r/\r≤x/\r - l+y≤x/\(∀i (_:i<l) (_:i<R'.length),f R'[i]≤f R'[x])/\(∀i (_:i<x),r≤i->f R'[x]≤f (R'[i]'(by exact xG))))
   (Q:=fun c st'=>st'=setArr st arr/\∃l,c=(none,l,l)/\l≤x/\(∀i (_:i<l) (_:i<R'.length),f R'[i]≤f R'[x])/\(∀i (_:i<x),l≤i->f R'[x]≤f (R'[i]'(by lia)))) ?_ ?_ ⟨rfl,0,x,rfl,Bb _,Ag _,by exact Nat.sub_le _ _,fun i h=>by lia,fun i h h'=>by omega⟩) ?_)
  ·rintro y c st' _ hy ⟨rfl,l,r,rfl,g1,g2,g3,g4,g5⟩;dsimp only;by_cases c:l≥r
   ·rw[Av c];obtain rfl:l=r:=by lia
    exact AE ⟨rfl,l,rfl,g2,g4,g5⟩
   ·rw[As c];refine Ar (gJ O T' (i:=x) (j:=(l+r) / 2) hxl (by lia) rfl rfl ?_);dsimp only;by_cases e:f R'[x]<f (R'[(l+r) / 2]'(by lia))
    ·rw[Al e,Av rfl];refine AE ⟨rfl,l,(l+r) / 2,rfl,by lia,by lia,by omega,g4,fun i h h'=>?_⟩;exact Di (Int.le_of_lt e) (U' _ _ h' (by exact xG) h)
    ·rw[Am e,As (by simp)];refine AE ⟨rfl,(l+r) / 2+1,r,rfl,by lia,g2,by omega,fun i h h'=>?_,g5⟩;exact Di (U' i ((l+r) / 2) (by exact anz) (by lia) (by lia)) (by omega)
  ·rintro c st' ⟨rfl,l,r,rfl,g1,g2,g3,g4,g5⟩;obtain rfl:l=r:=by lia
   exact⟨rfl,l,rfl,g2,g4,g5⟩
  ·rintro c st' ⟨rfl,l,rfl,g2,g4,g5⟩;dsimp only;refine Ar (wpS_modify ?_);exact AE ⟨rfl,_,_,rfl,(yt hxl g2).trans pR,o6 eA hxl g2,agw hxl g2 U' (fun i h=>g4 i h (by lia)) g5⟩
 ·rintro c st' ⟨rfl,R',arr,rfl,pR,eA,U'⟩;exact⟨rfl,R',arr,rfl,pR,eA,by rw[Nat.max_eq_left h1,Nat.max_eq_right ho] at U';exact U'⟩
 ·rintro c st' ⟨rfl,R',arr,rfl,pR,eA,U'⟩;exact AE (q R' arr pR eA U')
end
section
variable {w:World}{κ:SortKind}{Ok:Keyed->Prop}{f:Keyed->Int}
end
open PySem PyProof.Rows PySem.W
def ajp(h:Heap)(B:Int)(x:Keyed):Prop:=∃a o n r p t u,x.1=.ref a/\h.get? a=some o/\o.data=.seq #[.int r t,.int p u] n/\0≤p/\p<B
noncomputable def num(h:Heap)(B:Int)(x:Keyed):Int:=match x.1 with
 |.ref a=>match h.get? a with
  |some o=>match o.data with
   |.seq xs _=>match xs.toList with
    |[.int r _,.int p _]=>r*B+p
    |_=>0
   |_=>0
  |none=>0
 |_=>0
theorem num_of{x:Keyed}{o:Obj}{r p:Int}{t u:Tok}(e1:x.1=.ref a)(e2:h.get? a=some o)(e3:o.data=.seq #[.int r t,.int p u] n):num h B x=r*B+p:=by unfold num;simp[e1,e2,e3]
theorem wY{w:World} :Ord prog w A s (tuples' true) (ajp s.heap B) (num s.heap B):=by
 constructor;rintro x y ⟨a1,o1,n1,r1,p1,t1,u1,e1,g1,d1,b1,c1⟩ ⟨a2,o2,n2,r2,p2,t2,u2,e2,g2,d2,b2,c2⟩ E Q h;rw[num_of e1 g1 d1,num_of e2 g2 d2] at h;rw[e1,e2];refine kat_lt g1 d1 g2 d2 ?_;show KatLex prog w A true _ Q [(.int r1 t1,.int r2 t2),(.int p1 u1,.int p2 u2)] 0 s;refine kat_cons (wpAny_eqBool_int ?_);by_cases c:r1=r2
 ·subst c;rw[beq_self_eq_true];refine kat_yes (kat_cons (wpAny_eqBool_int ?_));by_cases c':p1=p2
  ·subst c';rw[beq_self_eq_true];refine kat_yes (kat_nil ?_);have e:decide (r1*B+p1<r1*B+p1)=false:=Am (by lia);rw[e] at h;exact h
  ·rw[beq_false_of_ne c'];refine kat_no (kat_one _ _ (PyProof.Rows.lt_int ?_));have e:decide (r1*B+p1<r1*B+p2)=decide (p1<p2):=by
    by_cases z:p1<p2
    ·rw[Al z];exact Al (by lia)
    ·rw[Am z];exact Am (by lia)
   rw[e] at h;exact h
 ·rw[beq_false_of_ne c];refine kat_no (oneLt_int ?_);have e:decide (r1*B+p1<r2*B+p2)=decide (r1<r2):=by
   by_cases z:r1<r2
   ·rw[Al z];have h5:(r1+1)*B≤r2*B:=BP (by assumption) (by lia);rw[Int.add_mul,Int.one_mul] at h5;exact Al (by omega)
   ·rw[Am z];have h5:(r2+1)*B≤r1*B:=BP (by lia) (by lia);rw[Int.add_mul,Int.one_mul] at h5;exact Am (by lia)
  rw[e] at h;exact h
section
variable {w:World} 
def dR(h:Heap)(B:Int)(v:Value):Prop:=∃a o n r p t u,v=.ref a/\h.get? a=some o/\o.cls=.type "tuple" /\ o.data=.seq #[.int r t,.int p u] n/\0≤p/\p<B
theorem dR.pair{x:Keyed}(k:dR h B x.1):ajp h B x:=by obtain⟨a,o,n,r,p,t,u,e1,e2,_,e3,e4,e5⟩:=k;exact⟨a,o,n,r,p,t,u,e1,e2,e3,e4,e5⟩
theorem tups{h:Heap}{B:Int}:∀{ks:List Value},(∀v∈ks,dR h B v)->∃fs,KatTups h ks fs/\fs.length=ks.length/\∀v∈fs,∃r t,v=Value.int r t
 |[],_=>⟨[],trivial,rfl,fun v hv=>by simp at hv⟩
 |k::ks,hk=>by
  obtain⟨fs,h1,h2,h3⟩:=tups (ks:=ks) fun v hv=>hk v (Af _ hv);obtain⟨a,o,n,r,p,t,u,rfl,e2,e3,e4,_,_⟩:=hk k (Ax ..);refine⟨.int r t::fs,KatTups.cons e2 e3 e4 rfl h1,by simp[h2],fun v hv=>?_⟩;rcases AC.mp hv with rfl | hv
  ·exact⟨r,t,rfl⟩
  ·exact h3 v hv
theorem ag8{ks:List Value}{Q:SortKind->Shared->Prop}(hk:∀v∈ks,dR s.heap B v)(h0:0<ks.length)(q:Q (tuples' true) s):wpAny (model prog w) A (keyKind' ks.toArray) Q E s:=by
 obtain⟨fs,h1,h2,h3⟩:=tups hk;refine kat_kind (T:=.type "int") h1 (by lia) (fun v hv=>?_) (by decide) ?_
 ·obtain⟨r,t,rfl⟩:=h3 v hv;exact .now
 ·exact q
theorem pB{R:α->α->Prop}:∀{l:List α},l.length<2->l.Pairwise R
 |[],_=>List.Pairwise.nil
 |[_],_=>C8 _ _
 |_::_::_,h=>absurd h (by simp)
end
section
variable {w:World}{κ:SortKind}{Ok:Keyed->Prop}{f:Keyed->Int}
theorem vI{N:Nat}(h1:1≤N)(h:N<64):(sortPriv% PySem.Builtin.minRun) N N 0=N:=by obtain⟨r,rfl⟩:∃r,N=r+1:=⟨N - 1,by omega⟩;show minRun' (r+1) (r+1) 0=r+1;rw[minRun'_succ,Av h]
structure Srt(f:Keyed->Int)(l:List Keyed)(st:SortSt):Prop where
 fl:failedOf st=none
 pn:(pendingOf st).size≤1
 pm:(arrOf st).toList.Perm l
 pw:(arrOf st).toList.Pairwise fun x y=>f x≤f y
theorem oq(O:Ord prog w A s κ Ok f){st:SortSt}{Q:Unit->SortSt->Prop}(h64:(arrOf st).size<64)(hk:kindOf st=κ)(hp:pendingOf st=#[])(hf:failedOf st=none)(ok:∀x∈(arrOf st).toList,Ok x)(inj:((arrOf st).toList.map f).Nodup)
 (q:∀st',failedOf st'=none->(arrOf st').toList.Perm (arrOf st).toList->((arrOf st').toList.Pairwise fun x y=>f x≤f y)->Q () st'):wpS (model prog w) A E s sortRuns' Q st:=by
 refine Ar (wpS_get ?_);dsimp only;have lN:(arrOf st).toList.length=(arrOf st).size:=Bj;obtain⟨N,eN⟩:∃N,N=(arrOf st).size:=⟨_,rfl⟩;rw[<-eN] at h64 lN ⊢;obtain⟨R,eR⟩:∃R,R=(arrOf st).toList:=⟨_,rfl⟩;rw[<-eR] at lN ok inj q;generalize hmr:(sortPriv% PySem.Builtin.minRun) N N 0=mr;have inj':∀i j (_:i<j) (_:j<R.length),f (R[i]'(by omega))≠f R[j]:=fun i j hij hj e=>by have h2:=BF.mp inj i j (by simp;omega) (by simpa using hj) hij;simp at h2;exact h2 e
 refine Ar (wpS_mono (Bc (I:=fun x c st'=>∃lo,c=(none,lo)/\((x=0/\lo=0/\st'=st)\/(lo=N/\Srt f R st')))
  (Q:=fun c st'=>∃lo,c=(none,lo)/\Srt f R st') ?_ ?_ ⟨0,rfl,.inl ⟨rfl,rfl,rfl⟩⟩) ?_)
 ·rintro x c st' _ hx ⟨lo,rfl,h⟩;dsimp only;by_cases c:lo≥N
  ·rw[Av c];rcases h with⟨h1,h2,_⟩ | ⟨_,h⟩
   ·omega
   ·exact AE ⟨lo,rfl,h⟩
  rw[As c];obtain⟨rfl,rfl,rfl⟩:x=0/\lo=0/\st'=st:=by
   rcases h with h | ⟨h,_⟩
   ·exact h
   ·omega
  have em:mr=N:=by rw[<-hmr];exact vI (by omega) h64
  subst em;have T:Tl κ Ok st' [] R:=⟨hk,eR.symm,ok⟩;rw[Nat.sub_zero,<-lN];refine Ar (aat O T (by omega) inj' fun n R1 arr1 g1 g2 pR1 eA1 U1=>?_);dsimp only;have T1:=T.same pR1 eA1;have l1:R1.length=R.length:=pR1.length_eq;have vd:∀(arr:Array Keyed) (R2:List Keyed) (n2:Nat),R2.Perm R->arr.toList=[]++R2->Up f R2 R.length->n2=R.length->∃lo,((none,0+n2):Option Unit×Nat)=(none,lo)/\((0+1=0/\lo=0/\setPending (setArr st' arr) ((pendingOf (setArr st' arr)).push (0,n2,0))=st')\/(lo=R.length/\Srt f R (setPending (setArr st' arr) ((pendingOf (setArr st' arr)).push (0,n2,0))))):=fun arr R2 n2 p2 e2 U2 en=>by
   refine⟨0+n2,rfl,.inr ⟨by omega,⟨hf,?_,?_,?_⟩⟩⟩
   ·show((pendingOf st').push (0,n2,0)).size≤1;rw[hp];exact Ag 1
   ·show arr.toList.Perm R;rw[e2];exact p2
   ·show arr.toList.Pairwise _;rw[e2];have:=U2.pair (by rw[p2.length_eq];exact Ag _);rw[<-p2.length_eq,AB] at this;exact this
  by_cases cm:n<R.length
  ·rw[Av cm];refine Ar (wpS_lift (wpAny_rule ⟨rfl,?_⟩));rw[Nat.min_self];refine Ar (ajf O T1 (by omega) g1 (by omega) U1 fun R2 arr2 pR2 eA2 U2=>?_);rw[As (by simp)];refine Ar (wpS_get ?_);have eb:(pendingOf (setArr (setArr st' arr1) arr2)).back?=none:=by show(pendingOf st').back?=none;rw[hp];rfl
   rw[eb];exact Ar (wpS_modify (AE (vd arr2 R2 _ (pR2.trans pR1) eA2 U2 rfl)))
  ·rw[As cm];refine Ar (wpS_get ?_);have eb:(pendingOf (setArr st' arr1)).back?=none:=by show(pendingOf st').back?=none;rw[hp];rfl
   rw[eb];have en:n=R.length:=by omega
   exact Ar (wpS_modify (AE (vd arr1 R1 _ pR1 eA1 (en▸U1) en)))
 ·rintro c st' ⟨lo,rfl,h⟩;refine⟨lo,rfl,?_⟩;rcases h with⟨h1,h2,rfl⟩ | ⟨_,h⟩
  ·have:R=[]:=List.eq_nil_of_length_eq_zero (by omega);refine⟨hf,by rw[hp];exact Bb _,by rw[<-eR],?_⟩;rw[<-eR,this];exact List.Pairwise.nil
  ·exact h
 ·rintro c st' ⟨lo,rfl,h⟩;dsimp only;refine Ar (wpS_mono (Bc (I:=fun y c st3=>c=(none,())/\Srt f R st3) (Q:=fun c st3=>c=(none,())/\Srt f R st3) ?_ ?_ ⟨rfl,h⟩) ?_)
  ·rintro y c st3 _ hy ⟨rfl,h3⟩;refine Ar (wpS_get ?_);rw[Av h3.pn];exact AE ⟨rfl,h3⟩
  ·rintro c st3 h3;exact h3
  ·rintro c st3 ⟨rfl,h3⟩;exact AE (q st3 h3.fl h3.pm h3.pw)
end
section
variable {w:World} 
theorem dR.ne{v:Value}{xs:Array Value}(k:dR h B v)(e:v=.ref a)(hb:h.get? b=some (seqObj "list" xs n)):a≠b:=by
 obtain⟨a',o,m,r,p,t,u,e1,e2,e3,_⟩:=k;rw[e] at e1;cases e1;rintro rfl;rw[hb] at e2;cases e2;have e3:Value.type "list" = Value.type "tuple" := e3;injection e3 with e
 exact absurd e (by decide)
theorem dR.keeps{v:Value}{xs:Array Value}(k:dR h B v)(hb:h.get? b=some (seqObj "list" xs n))(hk:∀c o,c≠b->h.get? c=some o->h'.get? c=some o):dR h' B v:=by have k0:=k;obtain⟨a,o,m,r,p,t,u,e1,e2,e3,e4,e5,e6⟩:=k;exact⟨a,o,m,r,p,t,u,e1,hk a o (k0.ne e1 hb) e2,e3,e4,e5,e6⟩
theorem uz{x:Keyed}{xs:Array Value}(k:dR h B x.1)(hb:h.get? b=some (seqObj "list" xs n))(hk:∀c o,c≠b->h.get? c=some o->h'.get? c=some o):num h' B x=num h B x:=by have k0:=k;obtain⟨a,o,m,r,p,t,u,e1,e2,e3,e4,e5,e6⟩:=k;rw[num_of e1 e2 e4,num_of e1 (hk a o (k0.ne e1 hb) e2) e4]
theorem mem_self_zip{x:Keyed}(h:x∈vs.zip vs):x.1∈vs/\x.1=x.2:=by
 induction vs with
 |nil=>simp at h
 |cons v r ih=>
  rw[List.zip_cons_cons] at h;rcases AC.mp h with rfl | h
  ·exact⟨Ax ..,rfl⟩
  ·exact⟨Af _ (ih h).1,(ih h).2⟩
theorem aae{P:PySem.Fin->Shared->Prop}(ho:s.heap.get? a=some (seqObj "list" vs.toArray n))(hz:vs.length≤63)(hk:∀v∈vs,dR s.heap B v)(inj:((vs.zip vs).map (num s.heap B)).Nodup)
 (h:∀h' tk (xs:List Keyed) c,(∀b o,b≠a->s.heap.get? b=some o->h'.get? b=some o)->h'.get? a=some (seqObj "list" (List.toArray (xs.map (·.2))) c)->xs.Perm (vs.zip vs)->(xs.Pairwise fun x y=>num s.heap B x≤num s.heap B y)->P (.done (.ret .none)) { s with heap:=h',toks:=tk }):
 wpAny (model prog w) A (Builtin.«list.sort» ⟨[.ref a],[]⟩) P E s:=by
 have big:(63:Nat)+1≤sizeLine:=by rw[sizeLine_eq];omega
 have zl:(vs.toArray.zip vs.toArray).toList=vs.zip vs:=by simp
 have s1:=Heap.SameBut.update s.heap a (Obj.mapSeq fun _=>(#[]:Array Value));obtain⟨e1,ho1⟩:∃e1,(s.heap.update a (Obj.mapSeq fun _=>(#[]:Array Value))).get? a=some (seqObj "list" #[] e1):=⟨_,get?_update_seq ho fun _=>#[]⟩;obtain⟨hp3,ehp3⟩:∃g,g=((s.heap.update a (Obj.mapSeq fun _=>(#[]:Array Value))).push (seqObj "tuple" vs.toArray 0)).push (seqObj "list" #[] 0):=⟨_,rfl⟩;have k3:∀b o,b≠a->s.heap.get? b=some o->hp3.get? b=some o:=fun b o hb e=>by rw[ehp3];exact Heap.get?_push_of_some _ (Heap.get?_push_of_some _ ((s1.2 b hb).trans e))
 have ha3:hp3.get? a=some (seqObj "list" #[] e1):=by rw[ehp3];exact Heap.get?_push_of_some _ (Heap.get?_push_of_some _ ho1)
 have hk3:∀v∈vs,dR hp3 B v:=fun v hv=>(hk v hv).keeps ho k3;have nk:∀x∈vs.zip vs,num hp3 B x=num s.heap B x:=fun x hx=>uz (hk _ (mem_self_zip hx).1) ho k3;have inj3:((vs.zip vs).map (num hp3 B)).Nodup:=by rw[Bk nk];exact inj
 have tail:∀st:SortSt,failedOf st=none->(arrOf st).toList.Perm (vs.zip vs)->((arrOf st).toList.Pairwise fun x y=>num hp3 B x≤num hp3 B y)->
  ∀tk,P (.done (.ret .none)) { s with heap:=hp3.update a (Obj.mapSeq fun _=>(arrOf st).map (·.2)),toks:=tk }:=by
  intro st hf hp hs tk;have s2:=Heap.SameBut.update hp3 a (Obj.mapSeq fun _=>(arrOf st).map (·.2));obtain⟨c2,hc2⟩:∃c2,(hp3.update a (Obj.mapSeq fun _=>(arrOf st).map (·.2))).get? a=some (seqObj "list" ((arrOf st).map (·.2)) c2):=⟨_,get?_update_seq ha3 fun _=>(arrOf st).map (·.2)⟩;have em:(arrOf st).map (·.2)=List.toArray ((arrOf st).toList.map (·.2)):=by apply Array.toList_inj.mp;rw[Array.toList_map]
  refine h _ tk (arrOf st).toList c2 (fun b o hb e=>(s2.2 b hb).trans (k3 b o hb e)) ?_ hp ?_
  ·rw[em] at hc2 ⊢;exact hc2
  ·refine Cc (fun {x y} hx hy z=>?_) hs;rw[nk x (hp.mem_iff.mp hx),nk y (hp.mem_iff.mp hy)] at z;exact z
 have len:∀st:SortSt,(arrOf st).toList.Perm (vs.zip vs)->((arrOf st).map (·.2)).size≤sizeLine+1:=fun st hp=>by have:=hp.length_eq;rw[CD,Bj] at this;rw[Array.size_map];omega
 rw[list_sort_plain];refine Ad (listItems_at ho rfl ?_);refine Ad (listUpdate_at ho rfl ?_ (by rw[Ah];omega) (Bb _));refine Ad (seqEpoch_at ho1 rfl ?_);refine Ad (wpAny_newTuple ?_ (by show vs.length≤_;omega));refine Ad (wpAny_newList ?_ (Bb _));refine Bu ?_;show wpAny (model prog w) A _ P E { s with heap:=((s.heap.update a (Obj.mapSeq fun _=>(#[]:Array Value))).push (seqObj "tuple" vs.toArray 0)).push (seqObj "list" #[] 0) };rw[<-ehp3];dsimp only;by_cases h2:vs.toArray.size<2
 ·rw[Av h2,Av h2];refine Ad (Aw ?_);rw[StateT.run_pure];refine Ad (Aw ?_);dsimp only;refine Ad (seqEpoch_at ha3 rfl ?_);have pz:(arrOf (SortSt.mk' (tuples' true) (vs.toArray.zip vs.toArray) #[] 7 none)).toList.Perm (vs.zip vs):=by show(vs.toArray.zip vs.toArray).toList.Perm _;rw[zl]
  refine Ad (listUpdate_at ha3 rfl ?_ (Bb _) (len _ pz));simp only[bne_self_eq_false,BR,if_false];refine Aw (tail (SortSt.mk' (tuples' true) (vs.toArray.zip vs.toArray) #[] 7 none) rfl pz ?_ _);show(vs.toArray.zip vs.toArray).toList.Pairwise _;rw[zl];rw[Ah] at h2;have:(vs.zip vs).length<2:=by rw[CD];omega
  exact pB this
 ·rw[As h2,As h2];rw[Ah] at h2;refine Ad (ag8 (s:={ s with heap:=hp3 }) hk3 (by omega) ?_);refine Ad (AR (oq (E:=E) (wY (s:={ s with heap:=hp3 }) (B:=B)) (st:=SortSt.mk' (tuples' true) (vs.toArray.zip vs.toArray) #[] 7 none)
   (Q:=fun _ st'=>failedOf st'=none/\(arrOf st').toList.Perm (vs.zip vs)/\((arrOf st').toList.Pairwise fun x y=>num hp3 B x≤num hp3 B y)) (by show(vs.toArray.zip vs.toArray).size<64;simp;omega) rfl rfl rfl (fun x hx=>?_) ?_ fun st' b1 b2 b3=>⟨b1,?_,b3⟩) ?_ fun _ _ e=>e)
  ·have hx:x∈(vs.toArray.zip vs.toArray).toList:=hx;rw[zl] at hx;exact dR.pair (hk3 _ (mem_self_zip hx).1)
  ·show((vs.toArray.zip vs.toArray).toList.map _).Nodup;rw[zl];exact inj3
  ·have b2:(arrOf st').toList.Perm (vs.toArray.zip vs.toArray).toList:=b2;rw[zl] at b2;exact b2
  ·rintro⟨⟨⟩,st'⟩ s' ⟨rfl,b1,b2,b3⟩;dsimp only;refine Ad (seqEpoch_at ha3 rfl ?_);refine Ad (listUpdate_at ha3 rfl ?_ (Bb _) (len _ b2));rw[b1];simp only[bne_self_eq_false,BR,if_false];exact Aw (tail st' b1 b2 b3 _)
theorem w_sorted(hl:s.heap.IsList l vs.toArray)(hz:vs.length≤63)(hk:∀v∈vs,dR s.heap B v)(inj:((vs.zip vs).map (num s.heap B)).Nodup)
 (h:∀h' tk (xs:List Keyed) D c,s.heap.objs.size≤D->(∀b o,s.heap.get? b=some o->h'.get? b=some o)->h'.get? D=some (seqObj "list" (List.toArray (xs.map (·.2))) c)->xs.Perm (vs.zip vs)->(xs.Pairwise fun x y=>num s.heap B x≤num s.heap B y)->Q (.ref D) { s with heap:=h',toks:=tk }):
 wpAny (model prog w) A (call (.builtin "sorted") [.ref l]) Q E s:=by
 have big:(63:Nat)+1≤sizeLine:=by rw[sizeLine_eq];omega
 refine Calls.call_function_entry kind_sorted plain_sorted entry_sorted (args_sorted1 _) ?_;unfold Builtin.«sorted»;refine Ad (m:=checkCount "sorted" 1 1 _) (Aw ?_);refine Ad (collect_list hl ?_ (by omega));refine Ad (wpAny_newList ?_ (by omega));obtain⟨g,eg⟩:∃g,g=(s.heap.push (seqObj "list" #[] 0)).update s.heap.objs.size (Obj.mapSeq (· ++ vs.toArray)):=⟨_,rfl⟩;have gs:g.objs.size=s.heap.objs.size+1:=by rw[eg,Heap.size_update,size_push']
 have gk:∀b o,s.heap.get? b=some o->g.get? b=some o:=fun b o q=>by have hlt:b<s.heap.objs.size:=Heap.lt_size q;rw[eg,Heap.get?_update_ne _ _ _ _ (A6 hlt)];exact Heap.get?_push_of_some _ q
 show wpAny _ _ _ _ _ { s with heap:=((s.heap.push (seqObj "list" #[] 0)).update s.heap.objs.size (Obj.mapSeq (· ++ vs.toArray))).push (seqObj "list" vs.toArray 0) };rw[<-eg];have hoD:(g.push (seqObj "list" vs.toArray 0)).get? g.objs.size=some (seqObj "list" vs.toArray 0):=Heap.get?_push_size _ rfl;have keep:∀b o,s.heap.get? b=some o->(g.push (seqObj "list" vs.toArray 0)).get? b=some o:=fun b o q=>Heap.get?_push_of_some _ (gk b o q);have kT:∀v∈vs,dR (g.push (seqObj "list" vs.toArray 0)) B v:=fun v hv=>by obtain⟨a,o,m,r,p,t,u,e1,e2,r'⟩:=hk v hv;exact⟨a,o,m,r,p,t,u,e1,keep _ _ e2,r'⟩
 have nk:∀x∈vs.zip vs,num (g.push (seqObj "list" vs.toArray 0)) B x=num s.heap B x:=fun x hx=>by obtain⟨a,o,m,r,p,t,u,e1,e2,e3,e4,_⟩:=hk _ (mem_self_zip hx).1;rw[num_of e1 e2 e4,num_of e1 (keep _ _ e2) e4]
 refine Ad (Bu (wpAny_call_entry slot_list_sort ⟨_,hoD,rfl⟩ entry_list_sort ?body (args_list_sort _)))
 case body=>
  refine aae (s:={ s with heap:=g.push (seqObj "list" vs.toArray 0) }) hoD hz kT (by rw[Bk nk];exact inj) fun h' tk xs c k1 hD pm pw=>?_;refine⟨_,rfl,Aw ⟨_,rfl,h h' tk xs g.objs.size c (by rw[gs];exact B1 _) (fun b o q=>k1 b o ?_ (keep b o q)) hD pm ?_⟩⟩
  ·have hlt:b<s.heap.objs.size:=Heap.lt_size q;intro z;rw[z,gs] at hlt;exact Nat.not_succ_lt_self hlt
  ·refine Cc (fun {x y} hx hy z=>?_) pw;rw[nk x (pm.mem_iff.mp hx),nk y (pm.mem_iff.mp hy)] at z;exact z
end
end TS
namespace L2
open PySem PySem.Spec PyProof.Rows
theorem lO(f:α->β):∀{l m:List β},l.Perm m->∀{T:List α},T.map f=m->∃T':List α,T'.Perm T/\T'.map f=l:=by
 intro l m p
 induction p with
 |nil=>intro T e;exact⟨T,CQ _,e⟩
 |cons x _ ih=>
  intro T e;cases T with
  |nil=>cases e
  |cons t r=>
   rw[Ay] at e;obtain⟨e1,e2⟩:=Ds e;obtain⟨T',p',e'⟩:=ih e2;exact⟨t::T',p'.cons t,by rw[Ay,e',e1]⟩
 |swap x y l=>
  intro T e
  match T,e with
  |t::u::r,e=>
   rw[Ay,Ay] at e;obtain⟨e1,e2⟩:=Ds e;obtain⟨e3,e4⟩:=Ds e2;exact⟨u::t::r,List.Perm.swap t u r,by rw[Ay,Ay,e1,e3,e4]⟩
 |trans _ _ ih1 ih2=>
  intro T e;obtain⟨T1,p1,e1⟩:=ih2 e;obtain⟨T2,p2,e2⟩:=ih1 e1;exact⟨T2,p2.trans p1,e2⟩
theorem dU{α β γ:Type}{R:β->γ->Prop}{g:α->β}{h:α->γ}:∀{T:List α},(∀t∈T,R (g t) (h t))->Paired R (T.map g) (T.map h)
 |[],_=>.nil
 |t::_,k=>.cons (k t (Ax ..)) (dU fun u hu=>k u (Af _ hu))
theorem eV{α β γ:Type}{R:α->β->Prop}{S:α->γ->Prop}:∀{xs:List α} {ys:List β} {zs:List γ},Paired R xs ys->Paired S xs zs->∃T:List (α×β×γ),T.map (·.1)=xs/\T.map (fun t=>t.2.1)=ys/\T.map (fun t=>t.2.2)=zs/\∀t∈T,R t.1 t.2.1/\S t.1 t.2.2
 |_,_,_,.nil,.nil=>⟨[],rfl,rfl,rfl,fun t ht=>by cases ht⟩
 |_,_,_,.cons (a:=x) (b:=y) r p,.cons (b:=z) q p'=>by
  obtain⟨T,e1,e2,e3,k⟩:=eV p p';refine⟨(x,y,z)::T,by rw[Ay,e1],by rw[Ay,e2],by rw[Ay,e3],fun t ht=>?_⟩;rcases AC.mp ht with rfl | ht
  ·exact⟨r,q⟩
  ·exact k t ht
theorem cH{α β:Type}{f:α->β}:∀{l:List α},(∀x∈l,∀y∈l,f x=f y->x=y)->l.Nodup->(l.map f).Nodup
 |[],_,_=>CT
 |a::r,h,n=>by obtain⟨n1,n2⟩:=A1.mp n;rw[Ay];refine A1.mpr ⟨fun z=>?_,cH (fun x hx y hy=>h x (Af _ hx) y (Af _ hy)) n2⟩;obtain⟨y,hy,e⟩:=A5.mp z;have:=h y (Af _ hy) a (Ax ..) e;exact n1 (this▸hy)
def im(p q:Int×Int):Prop:=p.1<q.1\/(p.1=q.1/\p.2≤q.2)
abbrev so(K:Ac)(H:Hp)(v:V)(p:Int×Int):Prop:=∃a,v=.ref a/\fU K H a [.int p.1,.int p.2]
theorem rH{p q:Int×Int}(hp:0≤p.2/\p.2<B)(hq:0≤q.2/\q.2<B)(h:p.1*B+p.2≤q.1*B+q.2):im p q:=by
 unfold im;by_cases c:p.1<q.1
 ·exact .inl c
 ·right;by_cases d:q.1<p.1
  ·have h5:(q.1+1)*B≤p.1*B:=BP (by omega) (by omega);rw[Int.add_mul,Int.one_mul] at h5;omega
  ·have e:p.1=q.1:=by omega
   rw[e] at h;exact⟨e,by omega⟩
theorem adj{p q:Int×Int}(hp:0≤p.2/\p.2<B)(hq:0≤q.2/\q.2<B)(h:p.1*B+p.2=q.1*B+q.2):p=q:=by
 have h1:=rH hp hq (by omega);have h2:=rH hq hp (by omega);unfold im at h1 h2;have e1:p.1=q.1:=by omega
 have e2:p.2=q.2:=by omega
 exact Du e1 e2
section
def afz(X:Cx):List V->Hp->VK->Prop:=fun xs H Q=>∃l ys ps,xs=[.ref l]/\aG X.K H l ys/\Paired (so X.K H) ys ps/\(∀p∈ps,0≤p.2/\p.2<1000000)/\ps.Nodup/\ys.length≤63/\
 ∀D zs qs,H D=none->Paired (so X.K H) zs qs->qs.Perm ps->qs.Pairwise im->Q (.ref D) (upd H D (.lst zs))
theorem qT:jv X (.builtin "sorted") (afz X):=by
 intro pins s σ H xs us Q I r h;obtain⟨l,ys,ps,rfl,hl,pr,hb,hnd,hlen,q⟩:=h;obtain⟨u,rfl,ru⟩:=r.one;cases (show u=Value.ref l from ru);obtain⟨its,rv,pl,hz⟩:=I.list hl;have l1:ys.length=its.length:=rv.length;obtain⟨T,e1,e2,e3,kT⟩:=eV rv pr;have kT2:∀t∈T,(∃a o n t1 t2,t.2.1=Value.ref a/\s.heap.get? a=some o/\o.cls=.type "tuple" /\ o.data=.seq #[.int t.2.2.1 t1,.int t.2.2.2 t2] n)/\0≤t.2.2.2/\t.2.2.2<1000000:=fun t ht=>by obtain⟨r1,a,ea,hs⟩:=kT t ht;obtain⟨its2,rv2,⟨o,g1,g2,n,g3⟩,_⟩:=I.tuple hs;obtain⟨w1,w2,rfl,x1,x2⟩:=rv2.two;obtain⟨t1,rfl⟩:=(show ∃t1,w1=Value.int t.2.2.1 t1 from x1);obtain⟨t2,rfl⟩:=(show ∃t2,w2=Value.int t.2.2.2 t2 from x2);rw[ea] at r1;refine⟨⟨a,o,n,t1,t2,r1,g1,g2,g3⟩,?_⟩;exact hb _ (by rw[<-e3];exact List.mem_map_of_mem (f:=fun t:V×Value×(Int×Int)=>t.2.2) ht)
 have nT:∀t∈T,TS.num s.heap 1000000 (t.2.1,t.2.1)=t.2.2.1*1000000+t.2.2.2:=fun t ht=>by obtain⟨⟨a,o,n,t1,t2,g0,g1,g2,g3⟩,_⟩:=kT2 t ht;exact TS.num_of g0 g1 g3
 have ez:its.zip its=T.map fun t=>(t.2.1,t.2.1):=by rw[<-e2,List.zip_map']
 have inj:((its.zip its).map (TS.num s.heap 1000000)).Nodup:=by
  rw[ez,BI];have e4:T.map (TS.num s.heap 1000000∘fun t=>(t.2.1,t.2.1))=(T.map fun t=>t.2.2).map fun p:Int×Int=>p.1*1000000+p.2:=by rw[BI];exact Bk fun t ht=>nT t ht
  rw[e4,e3];exact cH (fun x hx y hy e=>adj (hb x hx) (hb y hy) e) hnd
 refine jx I.tk (TS.w_sorted (B:=1000000) pl.isList (by rw[<-l1];exact hlen) (fun v hv=>?_) inj fun h' tk ks D c hD hk hg pm pw ht=>?_)
 ·rw[<-e2] at hv;obtain⟨t,ht,rfl⟩:=A5.mp hv;obtain⟨⟨a,o,n,t1,t2,g0,g1,g2,g3⟩,b1,b2⟩:=kT2 t ht;exact⟨a,o,n,_,_,t1,t2,g0,g1,g2,g3,b1,b2⟩
 ·rw[ez] at pm;obtain⟨T',pT,eT⟩:=lO _ pm rfl;subst eT;have mT:∀t,t∈T'->t∈T:=fun t=>pT.mem_iff.mp;have pw':=BB.mp pw;refine⟨.ref D,_,I.laid (t':=tk) (o:=.lst (T'.map (·.1))) hk hD ?_,rfl,q D (T'.map (·.1)) (T'.map fun t=>t.2.2) (I.hok.fresh hD) (dU fun t ht=>(kT t (mT t ht)).2) ?_ ?_⟩
  ·refine⟨?_,T'.map (fun t=>t.2.1),c,dU fun t ht=>(kT t (mT t ht)).1,?_⟩
   ·rw[Aa,pT.length_eq];have:T.length=ys.length:=by rw[<-e1,Aa]
    rw[this];exact hz
   ·rw[hg,BI];rfl
  ·rw[<-e3];exact pT.map _
  ·refine BB.mpr (Cc (fun {x y} hx hy z=>?_) pw');rw[nT x (mT x hx),nT y (mT y hy)] at z;exact rH (kT2 x (mT x hx)).2 (kT2 y (mT y hy)).2 z
end
end L2
namespace L3
open PySem L2
def prY(p:Int×Int):Y:=.tup [.int p.1,.int p.2]
theorem oi{G:G3}{H:Hp}:∀{ps:List (Int×Int)} {xs:List V},xz G H (ps.map prY) xs->Paired (so G.K H) xs ps
 |[],_,h=>by cases (show _=[] from h);exact .nil
 |p::r,_,⟨x,xs',e,⟨a,zs,ea,hs,z1,zs1,e1,rz1,z2,zs2,e2,rz2,e3⟩,s⟩=>by subst e ea e1 e2 e3;cases (show z1=V.int p.1 from rz1);cases (show z2=V.int p.2 from rz2);exact .cons ⟨a,rfl,hs⟩ (oi s)
theorem ou{G:G3}{H:Hp}:∀{ps:List (Int×Int)} {xs:List V},Paired (so G.K H) xs ps->xz G H (ps.map prY) xs
 |_,_,.nil=>rfl
 |_,_,.cons ⟨a,ea,hs⟩ t=>by subst ea;exact⟨_,_,rfl,⟨a,_,rfl,hs,_,_,rfl,rfl,_,_,rfl,rfl,rfl⟩,ou t⟩
def nO(xs:List Y)(L:qo)(Q:YK):Prop:=match xs with
 |[.ref a]=>cT L a fun ys=>∃ps:List (Int×Int),ys=ps.map prY/\(∀p∈ps,0≤p.2/\p.2<1000000)/\ps.Nodup/\ps.length≤63/\∀(D:Addr) (qs:List (Int×Int)),L D=none->qs.Perm ps->qs.Pairwise im->Q (.ref D) (qd L D (.lst (qs.map prY)))
 |_=>False
theorem f9:bootBuiltins "sorted" = some (.builtin "sorted"):=by decide +kernel
theorem sF :jv X (.builtin "sorted") (upL X.g3 nO):=DO qT fun xs H Q ⟨ys,L,Q3,rv,rl,z,k⟩=>by
 unfold nO at z;split at z
 ·rename_i a;obtain⟨zs,e,ps,rfl,hb,hnd,hlen,z⟩:=xr z;obtain⟨vs,e2,r⟩:=rl a _ e;obtain⟨u,rfl,ru⟩:=rv.inv1;cases (show u=V.ref a from ru);have pr:=oi r;exact⟨a,vs,ps,rfl,aG.of e2,pr,hb,hnd,by rw[<-r.length,Aa];exact hlen,fun D zs qs hD pz pm pw=>k _ _ _ _ (DD hD) (rl.newL hD (ou pz)) (by rfl) (z D qs (rl.none hD) pm pw)⟩
 ·exact z.elim
open PySem L2 Words
def qw:Wd->Y
 |.leaf t n=>.tup [.str (kL t),.str n]
 |.node e l r=>.tup [.str (kN e),qw l,qw r]
def dM:Y:=(.tup [(.str "plain"),(.str "turned")])
def bX:Y:=(.cd [("plain", "turned"),("turned", "plain"),("both", "either"),("either", "both")])
theorem qq{Q:α->qo->Prop}{o:Option α}{v:α}(e:o=some v)(h:Q v L):ur L Q o:=by rw[e];exact h
abbrev jm(i:Int):jz:=yC (.int i)
abbrev gi(x:Str):jz:=yC (.str x)
abbrev k8(i:Nat)(n:Int):jz:=zg be (qa i) (yC (.int n))
abbrev fV(i:Nat):jz:=lZ kD (qj (qa i) zj)
abbrev mf(a b:jz):i9:=yB (zg (oV false) a b)
abbrev oN(a b:jz):i9:=yB (zg (oV true) a b)
abbrev uP(a b:jz):jz:=da (qj a (qj b zj))
abbrev vv(a:jz):cN:=qj a zj
abbrev dh(a b:jz):cN:=qj a (qj b zj)
def uV:k6:=(zr (zg (vC false) (k8 0 0) (yC dM)))
def kX:Bool->Bool->Str
 |true,t=>kL t
 |false,e=>kN e
def wu:j4:=fun ys L Q=>∃lf b rest,ys=[.tup (.str (kX lf b)::rest)]/\Q (.bl lf) L
theorem uf(t:Bool):ux (.str (kL t)) [.str "plain",.str "turned"]=true:=by cases t<;>decide +kernel
theorem uv(t:Bool):ux (.str (kN t)) [.str "plain",.str "turned"]=false:=by cases t<;>decide +kernel
theorem qR:∀ys L Q,wu ys L Q->x8 uV 1 ys L Q:=by
 rintro ys L Q ⟨lf,b,rest,rfl,q⟩;have e0:bW (Y.str (kX lf b)::rest) 0=some (Y.str (kX lf b)):=vn (xs:=Y.str (kX lf b)::rest) (j:=0) rfl;walk_at "w";rw[e0];refine⟨rfl,rfl,vd ?_⟩;cases lf with
 |true=>
  rw[show nb false (ux (gR (.str (kX true b))) ([Y.str "plain",.str "turned"].map gR))=true from uf b];exact q
 |false=>
  rw[show nb false (ux (gR (.str (kX false b))) ([Y.str "plain",.str "turned"].map gR))=false from uv b];exact q
def xM(p0 p1:j4):k6:=(qm (z8 (zg be (yC bX) (k8 0 0)) (qb 1))
 (qm (v4 (yB (qz p0 (vv (qa 0)))) (zr (uP (qa 1) (k8 0 1))) je)
 (zr (da (qj (qa 1) (qj (qz p1 (vv (k8 0 1))) (qj (qz p1 (vv (k8 0 2))) zj)))))))
def aW(n:Nat):j4:=fun ys L Q=>∃wd,ys=[qw wd]/\wd.depth≤n/\Q (qw wd.turn) L
theorem u5(t:Bool):List.lookup (kL t) [(("plain" : Str),("turned" : Str)),("turned", "plain"),("both", "either"),("either", "both")]=some (kL (!t)):=by cases t<;>decide +kernel
theorem vD(t:Bool):List.lookup (kN t) [(("plain" : Str),("turned" : Str)),("turned", "plain"),("both", "either"),("either", "both")]=some (kN (!t)):=by cases t<;>decide +kernel
theorem ut(n:Nat):∀ys L Q,aW (n+1) ys L Q->x8 (xM wu (aW n)) 2 ys L Q:=by
 rintro ys L Q ⟨wd,rfl,hd,q⟩;cases wd with
 |leaf t nm=>
  exact qq (u5 t) ⟨true,t,_,rfl,vd q⟩
 |node e l r=>
  have hd':max l.depth r.depth+1≤n+1:=hd;refine qq (vD e) ⟨false,e,_,rfl,l,rfl,by lia,r,rfl,by lia,?_⟩;exact vd q
def pI(p0 p1:j4):k6:=(qm (v4 (yB (qz p0 (vv (qa 0)))) (zr (vj (vv (qa 0)))) je)
 (zr (zg jk (qz p1 (vv (k8 0 1))) (qz p1 (vv (k8 0 2))))))
def wc(n:Nat):j4:=fun ys L Q=>∃wd,ys=[qw wd]/\wd.depth≤n/\wd.leaves≤63/\∀p,L p=none->Q (.ref p) (qd L p (.lst (wd.leafL.map qw)))
theorem aco{p q r:Addr}{o u v:LO}(hp:L p=none)(hq:qd L p o q=none)(hr:qd (qd L p o) q u r=none):qf (qd L r v) (qd (qd (qd L p o) q u) r v):=fun a z e=>by
 by_cases c:a=r
 ·subst c;rw[q8] at e ⊢;exact e
 ·rw[qe c] at e ⊢;exact((By hp).trans (By hq)) a z e
theorem j9(s:qf L L'){p:Addr}(h:L' p=none):L p=none:=by cases e:L p with|none=>rfl|some o=>rw[s _ _ e] at h;cases h
theorem mn(n:Nat):∀ys L Q,wc (n+1) ys L Q->x8 (pI wu (wc n)) 1 ys L Q:=by
 rintro ys L Q ⟨wd,rfl,hd,h63,q⟩;cases wd with
 |leaf t n=>exact⟨true,t,_,rfl,fun p hp=>vd (q p hp)⟩
 |node e l r=>
  have hd':max l.depth r.depth+1≤n+1:=hd;have h63':l.leaves+r.leaves≤63:=h63;refine⟨false,e,_,rfl,l,rfl,by lia,by lia,fun p1 h1=>⟨r,rfl,by lia,by lia,fun p2 h2=>?_⟩⟩;have n1:p1≠p2:=ki q8 h2;refine⟨_,_,(qe n1).trans q8,q8,bQ ?_,fun p3 h3=>?_⟩
  ·rw[Aa,Aa,DG,DG];exact ao4
  ·refine ac (aco h1 h2 h3) ?_;have:=q p3 (j9 (By h1) (j9 (By h2) h3));rw[show(Wd.node e l r).leafL=l.leafL++r.leafL from rfl,Az] at this;exact this
theorem xo.str(x:Str):xo L n (.str x) (.s (.str x)):=by cases n with|zero=>exact⟨rfl,rfl⟩|succ n=>exact .inl ⟨rfl,rfl⟩
theorem xo.int(x:Int):xo L n (.int x) (.s (.int x)):=by cases n with|zero=>exact⟨rfl,rfl⟩|succ n=>exact .inl ⟨rfl,rfl⟩
theorem aX{L:qo}:∀{wd:Wd} {n:Nat},wd.depth≤n->xo L n (qw wd) (l6 wd)
 |.leaf t nm,n+1,_=>.inr (.inl ⟨_,_,rfl,rfl,.cons (xo.str _) (.cons (xo.str _) .nil)⟩)
 |.node e l r,n+1,h=>by have h':max l.depth r.depth+1≤n+1:=h;exact .inr (.inl ⟨_,_,rfl,rfl,.cons (xo.str _) (.cons (aX (by lia)) (.cons (aX (by lia)) .nil))⟩)
theorem lc{L:qo}{n:Nat}:∀{ws:List Wd},(∀w∈ws,w.depth≤n)->Paired (xo L n) (ws.map qw) (ws.map l6)
 |[],_=>.nil
 |w::r,h=>.cons (aX (h w (by simp))) (lc fun x hx=>h x (by simp[hx]))
theorem lD(e:L a=some (.lst ys))(p:Paired (xo L n) ys ds):xo L (n+1) (.ref a) (.lst ds):=.inr (.inr ⟨ys,ds,rfl,rfl,z9 e,p⟩)
theorem iY(p:Paired (xo L n) ys ds):xo L (n+1) (.tup ys) (.tup ds):=.inr (.inl ⟨ys,ds,rfl,rfl,p⟩)
theorem zH{neg:Bool}{zs:List Y}{es:List Da}{Q:YK}(hn:n<128)(ea:L a=some (.lst ys))(eb:L b=some (.lst zs))(pa:Paired (xo L n) ys ds)(pb:Paired (xo L m) zs es)(q:Q (.bl (nb neg (Da.eqs ds es))) L):
 oV neg (.ref a) (.ref b) L Q:=⟨rfl,rfl,n+1,m+1,_,_,hn,lD ea pa,lD eb pb,q⟩
theorem uN:∀ys L Q,¬aW 0 ys L Q:=fun ys L Q ⟨wd,_,hd,_⟩=>by cases wd<;>simp[Wd.depth] at hd
theorem m8:∀ys L Q,¬wc 0 ys L Q:=fun ys L Q ⟨wd,_,hd,_⟩=>by cases wd<;>simp[Wd.depth] at hd
def kQ(K:Ac):k6:=(aeh K "heads" (qa 0) (ij (qa 1)))
def fz(K:Ac):k6:=(qm (z8 (qa 1) (qb 2))
 (qm (nV (oN (zg be (sB K "heads" (qa 0)) (qa 2)) (qa 2)) (qm (zM (sB K "heads" (qa 0)) (qa 2) (zg be (sB K "heads" (qa 0)) (zg be (sB K "heads" (qa 0)) (qa 2))))
 (z8 (zg be (sB K "heads" (qa 0)) (qa 2)) (qb 2))))
 (zr (qa 2))))
def iT(K:Ac)(Ca:Addr)(p0:j4):k6:=(qm (z8 (gu Ca "head_of" p0 (qa 0) (vv (qa 1))) (qb 3))
 (qm (z8 (gu Ca "head_of" p0 (qa 0) (vv (qa 2))) (qb 4))
 (qm (zM (sB K "heads" (qa 0)) (qa 3) (qa 4))
 (zr (zg (oV true) (qa 3) (qa 4))))))
structure XFP(K:Ac)(C:Addr):Prop where
 cl:Cls K C
 na:NoAttr K C "heads"
def nY(hs:List Nat):List Y:=hs.map fun n:Nat=>.int (n:Int)
def jO(hp:Addr):List (Str×Y):=[("heads",.ref hp)]
theorem ay :(jO hp).lookup ("heads" : Str)=some (.ref hp):=by unfold jO;rw[Bd,show((("heads" : Str)==("heads" : Str)))=true by decide +kernel]
theorem cj :(jO hp).lookup ("head_of" : Str)=none:=by unfold jO;rw[Bd,show((("head_of" : Str)==("heads" : Str)))=false by decide +kernel];rfl
theorem jJ :(jO hp).lookup ("unite" : Str)=none:=by unfold jO;rw[Bd,show((("unite" : Str)==("heads" : Str)))=false by decide +kernel];rfl
theorem sV(n:Nat):wg 0 n=nY (List.range n):=by unfold wg nY;exact Bk fun k _=>by rw[CK]
theorem xm(hs:List Nat):(nY hs).length=hs.length:=by unfold nY;rw[Aa]
theorem tL{h:Nat}(e:hs[i]?=some h):bW (nY hs) (i:Int)=some (.int (h:Int)):=vn (by unfold nY;rw[Ak,e];rfl)
theorem zY(hs:List Nat)(i g:Nat):(nY hs).set i (.int (g:Int))=nY (hs.set i g):=by unfold nY;rw[List.map_set]
theorem sH(h:j<n):yf n (j:Int)=some j:=by unfold yf;rw[Av (by exact Bp _),Av (by omega)];rfl
theorem vg{p:Addr}{o:LO}(h:qd L a o p=none):L p=none:=by
 by_cases c:p=a
 ·subst c;rw[q8] at h;cases h
 ·rw[qe c] at h;exact h
theorem bA{o:LO}(h:L a=some o):qd L a o=L:=by
 funext b;unfold qd;split
 ·rename_i e;rw[e,h]
 ·rfl
def dy(rk:Nat->Nat)(hs:List Nat):Prop:=∀i h,hs[i]?=some h->h<hs.length/\(h≠i->rk h<rk i)
inductive kq(hs:List Nat):Nat->Nat->Prop
 |root {r:Nat}:hs[r]?=some r->kq hs r r
 |step {i h r:Nat}:hs[i]?=some h->h≠i->kq hs h r->kq hs i r
theorem kq.top{r:Nat}(h:kq hs i r):hs[r]?=some r:=by induction h with|root e=>exact e|step _ _ _ ih=>exact ih
theorem kq.uniq{r s:Nat}(h:kq hs i r)(k:kq hs i s):r=s:=by
 induction h generalizing s with
 |root e=>
  cases k with|root _=>rfl|step e' ne _=>rw[e] at e';exact absurd (AK e').symm ne
 |step e ne t ih=>
  cases k with|root e'=>rw[e] at e';exact absurd (AK e') ne|step e' _ t'=>rw[e] at e';cases e';exact ih t'
theorem kq.of_top{r:Nat}(h:kq hs i r)(e:hs[i]?=some i):r=i:=h.uniq (.root e)
theorem dy.rep{rk:Nat->Nat}{hs:List Nat}(hr:dy rk hs):∀(n i:Nat),rk i<n->i<hs.length->∃r,kq hs i r
 |0,_,h,_=>absurd h (CF _)
 |n+1,i,h,hi=>by
  have e:hs[i]?=some hs[i]:=Ae hi;by_cases c:hs[i]=i
  ·exact⟨i,.root (by rw[e,c])⟩
  ·obtain⟨h1,h2⟩:=hr i _ e;obtain⟨r,t⟩:=dy.rep hr n hs[i] (by have:=h2 c;omega) h1;exact⟨r,.step e c t⟩
theorem dy.rep'(hr:dy rk hs)(hi:i<hs.length):∃r,kq hs i r:=hr.rep (rk i+1) i (BM _) hi
theorem zc{l:List α}{x:α}(h:l[i]?=some x):i<l.length:=(AX.mp h).1
theorem vh{l:List α}{x:α}(h:i<l.length):(l.set i x)[i]?=some x:=by rw[List.getElem?_set];simp[h]
theorem xu{l:List α}{x:α}(h:i≠j):(l.set i x)[j]?=l[j]?:=by rw[List.getElem?_set,As h]
theorem dy.halve(hr:dy rk hs){h g:Nat}(ei:hs[i]?=some h)(ne:h≠i)(eh:hs[h]?=some g):dy rk (hs.set i g)/\rk g<rk i:=by
 have hg:rk g<rk i:=by
  have h1:=(hr i h ei).2 ne;by_cases c:g=h
  ·rw[c];exact h1
  ·have:=(hr h g eh).2 c;exact xG
 refine⟨fun j x e=>?_,hg⟩;rw[A2];by_cases c:i=j
 ·subst c;rw[vh (zc ei)] at e;cases e;exact⟨(hr h _ eh).1,fun _=>hg⟩
 ·rw[xu c] at e;exact hr j x e
theorem fc{rk:Nat->Nat}{hs:List Nat}(hr:dy rk hs){i h g:Nat}(ei:hs[i]?=some h)(ne:h≠i)(eh:hs[h]?=some g):∀(n j r:Nat),rk j<n->kq hs j r->kq (hs.set i g) j r
 |0,_,_,h,_=>absurd h (CF _)
 |n+1,j,r,hn,t=>by
  have ih:=fc hr ei ne eh n;have hg:=(hr.halve ei ne eh).2;cases t with
  |root e=>
   have c:i≠j:=fun c=>by subst c;rw[ei] at e;exact ne (AK e)
   exact .root (by rw[xu c];exact e)
  |step e ne' t=>
   rename_i h';have lt:=(hr j h' e).2 ne';by_cases c:i=j
   ·subst c;rw[ei] at e;cases e;by_cases d:g=h
    ·subst d;exact .step (vh (zc ei)) ne' (ih _ r (by lia) t)
    ·cases t with
     |root e2=>rw[eh] at e2;exact absurd (AK e2) d
     |step e2 ne2 t2=>
      rw[eh] at e2;cases e2;refine .step (vh (zc ei)) (fun z=>?_) (ih _ r (by lia) t2);rw[z] at hg;exact Bz _ hg
   ·exact .step (by rw[xu c];exact e) ne' (ih _ r (by lia) t)
def bY(hs:List Nat):Nat:=(List.range hs.length).countP fun i=>decide (hs[i]?=some i)
theorem t9(hr:dy rk hs){h g:Nat}(ei:hs[i]?=some h)(ne:h≠i)(eh:hs[h]?=some g):bY (hs.set i g)=bY hs:=by
 unfold bY;rw[A2];refine Bg fun j hj=>?_;have hg:=(hr.halve ei ne eh).2;by_cases c:i=j
 ·subst c;rw[vh (zc ei),ei];have d:g≠i:=fun z=>by rw[z] at hg;exact Bz _ hg
  simp[d,ne]
 ·rw[xu c]
theorem wo{p:Nat->Bool}{a:Nat}(ha:p a=true):∀{l:List Nat},l.Nodup->a∈l->l.countP (fun j=>p j&&!decide (j=a))+1=l.countP p
 |[],_,h=>by cases h
 |x::r,hn,h=>by
  obtain⟨n1,n2⟩:=A1.mp hn;rw[AY,AY];by_cases c:x=a
  ·subst c;have e:r.countP (fun j=>p j&&!decide (j=x))=r.countP p:=by refine Bg fun j hj=>?_;have:j≠x:=fun z=>n1 (z▸hj);simp[this]
   rw[e];simp[ha]
  ·have hm:a∈r:=by
    rcases AC.mp h with z | z
    ·exact absurd z.symm c
    ·exact z
   have ih:=wo ha n2 hm;simp only[Am c,Bool.not_false,C3];lia
theorem dy.join(hr:dy rk hs){a b:Nat}(ea:hs[a]?=some a)(eb:hs[b]?=some b):∃rk',dy rk' (hs.set a b):=by
 by_cases c:a=b
 ·subst c;refine⟨rk,fun i h e=>?_⟩;rw[A2];by_cases d:a=i
  ·subst d;rw[vh (zc ea)] at e;cases e;exact hr _ _ ea
  ·rw[xu d] at e;exact hr i h e
 ·refine⟨fun x=>if x=b then 0 else rk x+1,fun i h e=>?_⟩;rw[A2];by_cases d:a=i
  ·subst d;rw[vh (zc ea)] at e;cases e;refine⟨zc eb,fun _=>?_⟩;show(if b=b then 0 else rk b+1)<if a=b then 0 else rk a+1
   rw[Av rfl,As c];exact Dd _
  ·rw[xu d] at e;refine⟨(hr i h e).1,fun ne=>?_⟩;have nb:i≠b:=fun z=>by subst z;rw[eb] at e;exact ne (AK e).symm
   show(if h=b then 0 else rk h+1)<if i=b then 0 else rk i+1
   rw[As nb];have:=(hr i h e).2 ne;split<;>lia
theorem aa1{a b:Nat}(ea:hs[a]?=some a)(eb:hs[b]?=some b){r:Nat}(t:kq hs i r):kq (hs.set a b) i (if r=a then b else r):=by
 induction t with
 |root e=>
  rename_i r;by_cases c:r=a
  ·subst c;rw[Av rfl];by_cases d:r=b
   ·subst d;exact .root (vh (zc ea))
   ·exact .step (vh (zc ea)) (fun z=>d z.symm) (.root (by rw[xu d];exact eb))
  ·rw[As c];exact .root (by rw[xu (fun z=>c z.symm)];exact e)
 |step e ne t ih=>
  rename_i i h r;have c:a≠i:=fun z=>by subst z;rw[ea] at e;exact ne (AK e).symm
  exact .step (by rw[xu c];exact e) ne ih
theorem zD{a b:Nat}(ea:hs[a]?=some a)(eb:hs[b]?=some b)(ne:a≠b):bY (hs.set a b)+1=bY hs:=by
 unfold bY;rw[A2];have e:=wo (p:=fun i=>decide (hs[i]?=some i)) (a:=a) (Al ea) (l:=List.range hs.length) Bw (A9.mpr (zc ea));rw[<-e];congr 1;refine Bg fun j hj=>?_;by_cases c:a=j
 ·subst c;rw[vh (zc ea)];simp[AS ne]
 ·rw[xu c];simp[AS c]
def iR(C:Addr):j4:=fun ys L Q=>∃o,∃n:Nat,∃ni:Int,ys=[.ref o,.int ni]/\ni=(n:Int)/\L o=some (.ins C [])/\n≤1000/\∀hp,L hp=none->Q .non (qd (qd L hp (.lst (nY (List.range n)))) o (.ins C (jO hp)))
theorem yY{K:Ac}(xf:XFP K C):∀ys L Q,iR C ys L Q->x8 (kQ K) 2 ys L Q:=by rintro ys L Q ⟨o,n,ni,rfl,rfl,ho,hn,q⟩;refine⟨⟨by exact Bp _,by lia⟩,fun hp hhp=>?_⟩;refine vm ((qe (ki ho hhp)).trans ho) ⟨xf.cl,xf.na,by decide,?_⟩;rw[show((n:Nat):Int).toNat=n from rfl,sV];exact vd (q hp hhp)
def iE(C:Addr):j4:=fun ys L Q=>∃o hp,∃hs:List Nat,∃p:Nat,∃pi:Int,∃rk,ys=[.ref o,.int pi]/\pi=(p:Int)/\L o=some (.ins C (jO hp))/\L hp=some (.lst (nY hs))/\dy rk hs/\p<hs.length/\
 ∀(r:Nat) hs',hs'.length=hs.length->dy rk hs'->kq hs p r->(∀i s,kq hs i s->kq hs' i s)->bY hs'=bY hs->Q (.int (r:Int)) (qd L hp (.lst (nY hs')))
theorem ab0{K:Ac}(xf:XFP K C):∀ys L Q,iE C ys L Q->x8 (fz K) 3 ys L Q:=by
 rintro ys L Q ⟨o,hp,hs,p,pi,rk,rfl,rfl,ho,hhp,hr,hlt,q⟩;obtain⟨r0,t0⟩:=hr.rep' hlt;have hop:o≠hp:=aa2 ho hhp (fun e=>by cases e);refine⟨fun m τ L'=>∃(hs':List Nat) (here:Nat),τ=[some (.ref o),some (.int (p:Int)),some (.int (here:Int))]/\L'=qd L hp (.lst (nY hs'))/\hs'.length=hs.length/\dy rk hs'/\here<hs.length/\kq hs' here r0/\(∀i s,kq hs i s->kq hs' i s)/\bY hs'=bY hs/\m=rk here,⟨_,hs,p,rfl,(bA hhp).symm,rfl,hr,hlt,t0,fun _ _ h=>h,rfl,rfl⟩,?_⟩;rintro m τ L' ⟨hs',here,rfl,rfl,hl,hr',hh,t,hall,hrt,rfl⟩;have ho':∀z,(qd L hp (.lst z)) o=some (.ins C (jO hp)):=fun z=>(qe hop).trans ho;obtain⟨h,eh⟩:∃h,hs'[here]?=some h:=⟨_,Ae (by lia)⟩;refine vm (ho' _) ⟨xf.cl,xf.na,qq ay (qg q8 (qq (tL eh) ?_))⟩;by_cases c:h=here
 ·subst c;refine v5 (by show(!decide (((h:Nat):Int)=(h:Int)))=false;rw[Al rfl];rfl) ?_;have e:=t.of_top eh;subst e;exact vd (q _ hs' hl hr' t0 hall hrt)
 ·refine dX (by show(!decide (((h:Nat):Int)=(here:Int)))=true;rw[Am (by lia)];rfl) ?_;refine⟨_,fun _ _ h=>h,?_⟩;obtain⟨g,eg⟩:∃g,hs'[h]?=some g:=⟨_,Ae (hr' here h eh).1⟩;refine vm (ho' _) ⟨xf.cl,xf.na,qq ay (vm (ho' _) ⟨xf.cl,xf.na,qq ay (qg q8 (qq (tL eh) (qg q8 (qq (tL eg) ?_))))⟩)⟩;refine vm (ho' _) ⟨xf.cl,xf.na,qq ay (z0 q8 (qq (v:=here) ?_ ?_))⟩
  ·exact sH (by rw[xm];lia)
  rw[zm,zY];have es:(hs'.set here g)[here]?=some g:=vh (by lia);refine vm (ho' _) ⟨xf.cl,xf.na,qq ay (qg q8 (qq (tL es) ?_))⟩;obtain⟨hv1,hv2⟩:=hr'.halve eh c eg;refine⟨_,DA _,rk g,hv2,hs'.set here g,g,rfl,rfl,by rw[A2];exact hl,hv1,?_,?_,fun i s z=>fc hr' eh c eg (rk i+1) i s (BM _) (hall i s z),by rw[t9 hr' eh c eg];exact hrt,rfl⟩
  ·rw[<-hl];exact(hr' h g eg).1
  ·have t2:=fc hr' eh c eg (rk here+1) here r0 (BM _) t;cases t2 with|root e2=>rw[es] at e2;cases e2;exact .root es|step e2 ne2 t3=>rw[es] at e2;cases e2;exact t3
def du(C:Addr):j4:=fun ys L Q=>∃o hp,∃hs:List Nat,∃p q a b:Nat,∃pi qi:Int,ys=[.ref o,.int pi,.int qi]/\pi=(p:Int)/\qi=(q:Int)/\L o=some (.ins C (jO hp))/\L hp=some (.lst (nY hs))/\(∃rk,dy rk hs)/\kq hs p a/\kq hs q b/\p<hs.length/\q<hs.length/\
 ∀hs',hs'.length=hs.length->(∃rk,dy rk hs')->(∀i s,kq hs i s->kq hs' i (if s=a then b else s))->(a=b->bY hs'=bY hs)->(a≠b->bY hs'+1=bY hs)->Q (.bl (!decide (a=b))) (qd L hp (.lst (nY hs')))
theorem zW{K:Ac}(xf:XFP K C):∀ys L Q,du C ys L Q->x8 (iT K C (iE C)) 5 ys L Q:=by
 rintro ys L Q ⟨o,hp,hs,p,q,a,b,pi,qi,rfl,rfl,rfl,ho,hhp,⟨rk,hr⟩,ta,tb,hp1,hq1,k⟩;have hop:o≠hp:=aa2 ho hhp (fun e=>by cases e);have ho':∀z,(qd L hp (.lst z)) o=some (.ins C (jO hp)):=fun z=>(qe hop).trans ho;refine vm ho ⟨rfl,cj,o,hp,hs,p,_,rk,rfl,rfl,ho,hhp,hr,hp1,fun r1 hs1 l1 k1 t1 a1 n1=>?_⟩;cases t1.uniq ta;refine vm (ho' _) ⟨rfl,cj,o,hp,hs1,q,_,rk,rfl,rfl,ho' _,q8,k1,by lia,fun r2 hs2 l2 k2 t2 a2 n2=>?_⟩;cases t2.uniq (a1 _ _ tb);rw[zm];have ea:hs2[a]?=some a:=(a2 _ _ (a1 _ _ ta)).top;have eb:hs2[b]?=some b:=(a2 _ _ (a1 _ _ tb)).top;refine vm (ho' _) ⟨xf.cl,xf.na,qq ay (z0 q8 (qq (v:=a) (sH (by rw[xm];exact zc ea)) ?_))⟩;rw[zm,zY];have e0:(decide ((a:Int)=(b:Int)))=decide (a=b):=by
  by_cases c:a=b
  ·rw[Al c];exact Al (by lia)
  ·rw[Am c];exact Am (by lia)
 show cV Q (.bl (!decide ((a:Int)=(b:Int)))) _;rw[e0];refine vd (k (hs2.set a b) (by rw[A2];lia) (k2.join ea eb) (fun i s z=>aa1 ea eb (a2 _ _ (a1 _ _ z))) (fun e=>?_) (fun ne=>?_))
 ·subst e;have:hs2.set a a=hs2:=by
   apply C0;intro j;by_cases c:a=j
   ·subst c;rw[vh (zc ea),ea]
   ·rw[xu c]
  rw[this,n2,n1]
 ·have:=zD ea eb ne;lia
def m4:k6:=(zr (oX (dN .int (qa 0)) (adv (dN .bool (qa 0)))))
def fK:j4:=fun ys L Q=>∃i,ys=[.int i]/\Q (.bl true) L
theorem vW:∀ys L Q,fK ys L Q->x8 m4 1 ys L Q:=by rintro ys L Q ⟨i,rfl,q⟩;exact vd q
def qV:k6:=(zr (zg ao (zg aj (zg hJ (zg jk (zg jk (zg hJ (zg aj (qa 0) (jm 1000003)) (jm 7)) (zg hJ (qa 1) (qa 1))) (jm 1)) (qa 2)) (jm 2147483647)) (jm 16)))
def iS:j4:=fun ys L Q=>∃c k f:Int,ys=[.int c,.int k,.int f]/\0≤k/\k<1000000/\0<f/\f<1000000/\∀v,0≤v->v<134217728->Q (.int v) L
theorem afx:∀ys L Q,iS ys L Q->x8 qV 3 ys L Q:=by
 rintro ys L Q ⟨c,k,f,rfl,h0,h1,h2,h3,q⟩;refine⟨(by decide:(0:Int)<1000003),.inr ⟨by decide,by decide⟩,.inl ⟨by lia,by lia⟩,.inr ⟨by lia,by lia⟩,(by decide:(0:Int)<2147483647),⟨by decide,by decide⟩,vd (q _ ?_ ?_)⟩
 all_goals
  generalize ((c % 1000003*7+k*k+1)*f)=z;lia
theorem yX(cs:List Nat):(Txt.join "" (cs.map fun c=>(⟨#[c]⟩:Str))).cps.toList=cs:=by
 rw[nN]
 induction cs with|nil=>rfl|cons c r ih=>rw[Ay,Bl,ih];rfl
def mkS(l:List Nat):Str:=⟨l.toArray⟩
theorem sj(x:Str):mkS x.cps.toList=x:=by cases x;rfl
inductive Kn where
 |lf (t:Bool) (n:Str) | nd (e:Bool) (i j:Nat)
def hG:Kn->Y
 |.lf t n=>.tup [.str (kL t),.str n]
 |.nd e i j=>.tup [.str (kN e),.int ((i:Nat):Int),.int ((j:Nat):Int)]
end L3
variable {ks:List (Option L3.Kn)}
namespace L3
open PySem L2 Words
def rL(p0:j4):k6:=(qm (v4 (mj (yB (kK false (qa 0))) (yB (qz p0 (vv (qa 0))))) (zr (vj zj)) je)
 (zr (vj (dh (k8 0 1) (k8 0 2)))))
def jS:k6:=(zr (oG 2 (bN (qa 0)) (aK 2 (zw (qb 1) (zw (qb 2) aF))) (yB (kK true (qa 2))) (qa 1)))
def pV:k6:=(qm (z8 (vj zj) (qb 1))
 (qm (wt (jq (qa 0)) (aK 2 (zw (qb 2) (zw (qb 3) aF))) (qm (vq (gY xa (qa 1) (vv (qa 2))))
 (vq (gY xa (qa 1) (vv (qa 3))))))
 (zr (qa 1))))
def mS:k6:=(zr (oG 2 (bN (k8 0 0)) (aK 2 (zw (qb 1) (zw (qb 2) aF))) (agx (yB (kK true (qa 2))) (mf (k8 2 0) (gi "either"))) (qa 1)))
def qI(p0:j4):k6:=(zr (oG 1 (jq (qz p0 (vv (k8 0 0)))) (qb 1) (mf (zg be (zg be (k8 0 0) (qa 1)) (jm 0)) (gi "both")) (qa 1)))
def mv(p0:j4):k6:=(qm (z8 (vj zj) (qb 2))
 (qm (wt (jq (qa 1)) (qb 3) (vq (gY e9 (qa 2) (qj (oG 1 (jq (qz p0 (qj (zg be (qa 0) (qa 3)) zj))) (qb 4) rJ (uP (qa 3) (qa 4))) zj))))
 (zr (qa 2))))
def rS(p0:j4)(p1:j4):k6:=(zr (zg jk (zg jk (k8 0 1) (k8 0 2)) (qz p0 (qj (k8 0 0) (qj (qz p1 (vv (qa 0))) zj)))))
def gz:Option Kn->Y
 |none=>.non
 |some k=>hG k
abbrev bw(ks:List (Option Kn)):List Y:=ks.map gz
def aI:Option Kn->List Nat
 |some (.nd _ i j)=>[i,j]
 |_=>[]
def eY:j4:=fun ys L Q=>∃k:Option Kn,ys=[gz k]/\∀p,L p=none->Q (.ref p) (qd L p (.lst (nY (aI k))))
theorem yh:∀ys L Q,eY ys L Q->x8 (rL wu) 1 ys L Q:=by
 rintro ys L Q ⟨k,rfl,q⟩;cases k with
 |none=>exact fun p hp=>vd (q p hp)
 |some k=>
  cases k with|lf t n=>exact⟨true,t,_,rfl,fun p hp=>vd (q p hp)⟩|nd e i j=>exact⟨false,e,_,rfl,fun p hp=>vd (q p hp)⟩
def vt(f:Option Kn->Bool)(ks:List (Option Kn))(i:Nat):List Nat:=(List.range i).filter fun p=>match ks[p]? with
 |some k=>f k
 |none=>false
theorem a8{f:Option Kn->Bool}{k:Option Kn}(h:ks[i]?=some k):vt f ks (i+1)=vt f ks i++if f k=true then [i] else []:=by unfold vt;rw[Dn,BS];congr 1;rw[Cu];simp only[h,List.filter_nil]
theorem bL{f:Option Kn->Bool}{p:Nat}(h:p∈vt f ks i):p<i/\∃k,ks[p]?=some k/\f k=true:=by
 unfold vt at h;obtain⟨h1,h2⟩:=Bm.mp h;refine⟨A9.mp h1,?_⟩;split at h2
 ·rename_i k e;exact⟨k,e,h2⟩
 ·cases h2
theorem fN(f:Option Kn->Bool)(ks:List (Option Kn))(i:Nat):(vt f ks i).length≤i:=by unfold vt;exact AI (List.length_filter_le _ _) (by rw[AZ];simp +arith only)
def rB:Option Kn->Bool
 |some _=>true
 |none=>false
def zk(e:Bool):Option Kn->Bool
 |some (.nd e' _ _)=>decide (e'=e)
 |_=>false
abbrev ji(ks:List (Option Kn)):List Nat:=vt rB ks ks.length
abbrev qx(e:Bool)(ks:List (Option Kn)):List Nat:=vt (zk e) ks ks.length
theorem dc(a b:List Nat):nY (a++b)=nY a++nY b:=by unfold nY;rw[Az]
theorem bH(h:(nY hs)[i]?=some y):∃n,hs[i]?=some n/\y=.int (n:Int):=by unfold nY at h;rw[Ak] at h;obtain⟨n,e1,e2⟩:=Aj.mp h;exact⟨n,e1,e2.symm⟩
theorem io{f:Option Kn->Bool}{keep:qo->Prop}{tc:i9}{Q:YK}(hz:ks.length≤1000)(hk:keep L)
 (turn:∀(i:Nat) (k:Option Kn) (R:List Y->qo->Prop) zs,ks[i]?=some k->(f k=true->R (zs++[.int (i:Int)]) L)->(f k=false->R zs L)->g (.tup [.int (i:Nat),gz k]) (τ++List.replicate 2 none) L fun τ2 L2=>tc τ2 L2 fun b L3=>ku b (te τ2 L3 fun z L4=>R (zs++[z]) L4) (R zs L3))
 (hq:∀p,L p=none->Q (.ref p) (qd L p (.lst (nY (vt f ks ks.length))))):lcK (kB (bw ks)) keep 2 g tc te τ L Q:=by
 refine bK (fun i zs=>zs=nY (vt f ks i)) (by rw[aS,Aa];exact AM hz (by decide)) hk rfl ?_ ?_
 ·rintro i y zs ey rfl;obtain⟨z,ez,rfl⟩:=aw ey;rw[Ak] at ez;obtain⟨k,ek,rfl⟩:=Aj.mp ez;refine turn i k _ _ ek (fun h=>⟨L,DA _,rfl,?_⟩) (fun h=>⟨L,DA _,rfl,?_⟩)
  ·rw[a8 ek,Av h,dc];rfl
  ·rw[a8 ek,As (by rw[h];exact Aq),AL]
 ·rintro zs rfl;rw[aS,Aa];exact hq
def fP:j4:=fun ys L Q=>∃a,∃ks:List (Option Kn),ys=[.ref a]/\L a=some (.lst (bw ks))/\ks.length≤1000/\∀p,L p=none->Q (.ref p) (qd L p (.lst (nY (ji ks))))
theorem yj:∀ys L Q,fP ys L Q->x8 jS 1 ys L Q:=by
 rintro ys L Q ⟨a,ks,rfl,ha,hz,q⟩;refine jo ha fun keep kp=>io (f:=rB) hz (kp L rfl) (fun i k R zs ek h1 h2=>?_) fun p hp=>vd (q p hp);cases k with
 |none=>exact h2 rfl
 |some k=>cases k<;>exact h1 rfl
abbrev fG(a l c:Addr):Y:=.tup [.ref a,.ref l,.ref c]
def fS:j4:=fun ys L Q=>∃a l c,∃ks:List (Option Kn),ys=[fG a l c]/\L a=some (.lst (bw ks))/\ks.length≤1000/\∀p,L p=none->Q (.ref p) (qd L p (.lst (nY (qx true ks))))
theorem wG:∀ys L Q,fS ys L Q->x8 mS 1 ys L Q:=by
 rintro ys L Q ⟨a,l,c,ks,rfl,ha,hz,q⟩;refine jo ha fun keep kp=>io (f:=zk true) hz (kp L rfl) (fun i k R zs ek h1 h2=>?_) fun p hp=>vd (q p hp);cases k with
 |none=>exact h2 rfl
 |some k=>
  cases k with
  |lf t n=>cases t<;>exact h2 rfl
  |nd e i j=>
   cases e with|true=>exact h1 rfl|false=>exact h2 rfl
def jY:j4:=fun ys L Q=>∃a l c,∃ks:List (Option Kn),ys=[fG a l c]/\L a=some (.lst (bw ks))/\ks.length≤1000/\∀p,L p=none->Q (.ref p) (qd L p (.lst (nY (qx false ks))))
theorem acq(f g:Option Kn->Bool)(ks:List (Option Kn))(i:Nat):((vt f ks i).filter fun p=>match ks[p]? with | some k=>g k | none=>false)=vt (fun k=>f k&&g k) ks i:=by unfold vt;rw[List.filter_filter];refine List.filter_congr fun p _=>?_;cases ks[p]? with|none=>rfl|some k=>exact Bool.and_comm _ _
theorem qM(e:Bool)(ks:List (Option Kn))(i:Nat):vt (fun k=>rB k&&zk e k) ks i=vt (zk e) ks i:=by unfold vt;refine List.filter_congr fun p _=>?_;cases ks[p]? with|none=>rfl|some k=>cases k<;>rfl
theorem xW:∀ys L Q,jY ys L Q->x8 (qI fP) 1 ys L Q:=by
 rintro ys L Q ⟨a,l,c,ks,rfl,ha,hz,q⟩;refine⟨a,ks,rfl,ha,hz,fun p hp=>?_⟩;have ha1:=By (o:=.lst (nY (ji ks))) hp _ _ ha;refine jo q8 fun keep kp=>bK (fun i zs=>zs=nY (((ji ks).take i).filter fun p=>match ks[p]? with | some k=>zk false k | none=>false)) (by rw[xm];exact AM (AI (fN _ _ _) hz) (by decide)) (kp _ rfl) rfl ?_ ?_
 ·rintro i y zs ey rfl;obtain⟨n,en,rfl⟩:=bH ey;obtain⟨hn,k,ek,hk⟩:=bL (An en);have et:(ji ks).take (i+1)=(ji ks).take i++[n]:=by rw[AH,en];rfl
  have a1:bW (bw ks) (n:Int)=some (gz k):=vn (by rw[Ak,ek];rfl);refine qg ha1 (qq a1 ?_);cases k with
  |none=>cases hk
  |some k=>
   cases k with
   |lf t nm=>
    have z:bT (fun zs L'=>L'=qd L p (.lst (nY (ji ks)))/\zs=nY (((ji ks).take (i+1)).filter fun p=>match ks[p]? with | some k=>zk false k | none=>false)) (nY (((ji ks).take i).filter fun p=>match ks[p]? with | some k=>zk false k | none=>false)) (qd L p (.lst (nY (ji ks)))):=by refine⟨_,DA _,rfl,?_⟩;rw[et,BS,Cu];simp[ek,zk]
    cases t<;>exact z
   |nd e i' j'=>
    cases e with
    |true=>
     refine⟨_,DA _,rfl,?_⟩;rw[et,BS,Cu];simp[ek,zk]
    |false=>
     refine⟨_,DA _,rfl,?_⟩;rw[et,BS,Cu];simp[ek,zk,nY]
 ·rintro zs rfl p2 hp2;rw[xm,AB,acq,qM];have hp3:L p2=none:=j9 (By hp) hp2;refine ac (L:=qd L p2 (.lst (nY (qx false ks)))) ?_ (q p2 hp3);exact DP ((By (o:=.lst (nY (ji ks))) hp).upd hp3) q8
theorem amm(a b:Nat):min (a:Int) (b:Int)=((min a b:Nat):Int):=by omega
theorem anq(a b:Nat):max (a:Int) (b:Int)=((max a b:Nat):Int):=by omega
def prN(p:Nat×Nat):Y:=.tup [.int ((p.1:Nat):Int),.int ((p.2:Nat):Int)]
abbrev zf(l:List (Nat×Nat)):List Y:=l.map prN
def ju(ks:List (Option Kn))(pl:List Nat):List (Nat×Nat):=pl.flatMap fun p=>match ks[p]? with
 |some k=>(aI k).map fun q=>(p,q)
 |none=>[]
theorem gL(ks:List (Option Kn))(a b:List Nat):ju ks (a++b)=ju ks a++ju ks b:=by unfold ju;rw[B7]
theorem gQ{p:Nat}{k:Option Kn}(h:ks[p]?=some k):ju ks [p]=(aI k).map fun q=>(p,q):=by unfold ju;simp[h]
theorem fu(k:Option Kn):(aI k).length≤2:=by unfold aI;split<;>simp
theorem cq(ks:List (Option Kn)):∀pl:List Nat,(ju ks pl).length≤2*pl.length
 |[]=>by simp[ju]
 |p::r=>by
  have ih:=cq ks r;have e:=gL ks [p] r;rw[Cq] at e;rw[e,Ab,AD];cases h:ks[p]? with
  |none=>
   have:ju ks [p]=[]:=by unfold ju;simp[h]
   rw[this];simp;lia
  |some k=>
   rw[gQ h,Aa];have:=fu k;lia
def gF:j4:=fun ys L Q=>∃a b,∃ks:List (Option Kn),∃pl:List Nat,ys=[.ref a,.ref b]/\L a=some (.lst (bw ks))/\L b=some (.lst (nY pl))/\pl.length≤1000/\(∀p∈pl,p<ks.length)/\∀p,L p=none->Q (.ref p) (qd L p (.lst (zf (ju ks pl))))
theorem ua:∀ys L Q,gF ys L Q->x8 (mv eY) 4 ys L Q:=by
 rintro ys L Q ⟨a,b,ks,pl,rfl,ha,hb,hz,hlt,q⟩;intro p hp;have hap:a≠p:=ki ha hp;have hbp:b≠p:=ki hb hp;refine vk (ys:=nY pl) (z9 ((qe hbp).trans hb)) (fun i τ L'=>∃c,τ=[some (.ref a),some (.ref b),some (.ref p),c]/\L'=qd L p (.lst (zf (ju ks (pl.take i))))) ⟨_,rfl,rfl⟩ ?_ ?_ ?_
 ·rintro i τ L' ⟨c,rfl,rfl⟩;rw[qe hbp,qe hbp]
 ·rintro i y τ L' hy ⟨c,rfl,rfl⟩;obtain⟨n,en,rfl⟩:=bH hy;have hn:=hlt n (An en);obtain⟨k,ek⟩:∃k,ks[n]?=some k:=⟨_,Ae hn⟩;have a1:bW (bw ks) (n:Int)=some (gz k):=vn (by rw[Ak,ek];rfl);have et:pl.take (i+1)=pl.take i++[n]:=by rw[AH,en];rfl
  refine qg q8 (qg ((qe hap).trans ha) (qq a1 ⟨k,rfl,fun p2 hp2=>?_⟩));refine jo q8 fun keep kp=>bK (fun j zs=>zs=zf (((aI k).take j).map fun q=>(n,q))) (by rw[xm];exact AM (fu k) (by decide)) (kp _ rfl) rfl ?_ ?_
  ·rintro j y zs ey rfl;obtain⟨m,em,rfl⟩:=bH ey;refine⟨_,DA _,rfl,?_⟩;rw[AH,em,Az];unfold zf;rw[Az];rfl
  ·rintro zs rfl p3 hp3;rw[xm,AB];have hp32:p≠p3:=ki ((qe (ki q8 hp2)).trans q8) hp3;refine z0 ((qe hp32).trans ((qe (ki q8 hp2)).trans q8)) (z0 q8 ⟨?_,?_⟩)
   ·rw[Aa,Aa,Aa];have h1:=cq ks (pl.take i);have h2:=fu k;have h3:(pl.take i).length≤1000:=by rw[AJ];lia
    have hb:(3000:Nat)≤sizeLine:=by decide
    lia
   ·refine⟨qd L p (.lst (zf (ju ks (pl.take (i+1))))),?_,_,rfl,rfl⟩;have e:zf (ju ks (pl.take i))++zf ((aI k).map fun q=>(n,q))=zf (ju ks (pl.take (i+1))):=by rw[et,gL,gQ ek];unfold zf;rw[Az]
    rw[e];have n2:L p2=none:=j9 (By hp) hp2;have n3:L p3=none:=j9 ((By hp).trans (By hp2)) hp3;exact DP ((((By hp).trans (By hp2)).trans (By hp3)).upd hp) q8
 ·rintro τ L' ⟨c,rfl,rfl⟩;rw[xm,AB];exact vd (q p hp)
def ze(ks:List (Option Kn))(lk ct:List (Nat×Nat)):List (Nat×Nat):=(lk++ct)++ju ks (qx false ks)
def dz:j4:=fun ys L Q=>∃a l c,∃ks:List (Option Kn),∃lk ct:List (Nat×Nat),ys=[fG a l c]/\L a=some (.lst (bw ks))/\L l=some (.lst (zf lk))/\L c=some (.lst (zf ct))/\ks.length≤1000/\lk.length≤1000/\ct.length≤1000/\∀p,L p=none->Q (.ref p) (qd L p (.lst (zf (ze ks lk ct))))
theorem xY:∀ys L Q,dz ys L Q->x8 (rS gF jY) 1 ys L Q:=by
 rintro ys L Q ⟨a,l,c,ks,lk,ct,rfl,ha,hl,hc,hz,hz1,hz2,q⟩;have hb:(10000:Nat)<sizeLine:=by decide
 refine⟨_,_,hl,hc,by rw[Aa,Aa];lia,fun p1 hp1=>?_⟩;have ha1:=By (o:=.lst (zf lk++zf ct)) hp1 _ _ ha;refine⟨a,l,c,ks,rfl,ha1,hz,fun p2 hp2=>?_⟩;have ha2:=By (o:=.lst (nY (qx false ks))) hp2 _ _ ha1;refine⟨a,p2,ks,qx false ks,rfl,ha2,q8,AI (fN _ _ _) hz,fun p hp=>(bL hp).1,fun p3 hp3=>?_⟩;have e1:=By (o:=.lst (zf (ju ks (qx false ks)))) hp3 _ _ (By (o:=.lst (nY (qx false ks))) hp2 _ _ (q8 (L:=L) (a:=p1) (o:=.lst (zf lk++zf ct))));refine⟨_,_,e1,q8,?_,fun p4 hp4=>?_⟩
 ·have:=cq ks (qx false ks);have:(qx false ks).length≤ks.length:=fN (zk false) ks ks.length;rw[Ab,Aa,Aa,Aa];lia
 ·have n1:qf L (qd (qd (qd L p1 (.lst (zf lk++zf ct))) p2 (.lst (nY (qx false ks)))) p3 (.lst (zf (ju ks (qx false ks))))):=((By hp1).trans (By hp2)).trans (By hp3);have n4:L p4=none:=j9 n1 hp4;refine ac (L:=qd L p4 (.lst (zf (ze ks lk ct)))) ?_ (q p4 n4);have e:zf lk++zf ct++zf (ju ks (qx false ks))=zf (ze ks lk ct):=by unfold zf ze;rw[Az,Az]
  rw[e];exact DP (n1.upd n4) q8
def m7(Ca:Addr)(p0:j4):k6:=(qm (z8 (vj zj) (qb 2))
 (qm (wt (jq (qa 1)) (aK 2 (zw (qb 3) (zw (qb 4) aF))) (v4 (yB (gu Ca "unite" p0 (qa 0) (dh (qa 3) (qa 4)))) (vq (gY xa (qa 2) (qj (da (qj (gi "join") (dh (qa 3) (qa 4)))) zj))) je))
 (zr (qa 2))))
def rO(Ca:Addr)(p0:j4)(p1:j4):k6:=(qm (z8 (oG 1 (jq (qz p0 (qj (zg be (qa 1) (qa 2)) zj))) (qb 4) rJ (gu Ca "head_of" p1 (qa 0) (vv (qa 4)))) (qb 3))
 (zr (oX (zg (oV false) (k8 3 0) (k8 3 1)) (zg (oV true) (k8 3 0) (gu Ca "head_of" p1 (qa 0) (vv (qa 2)))))))
def mh(Ca:Addr)(p0:j4)(p1:j4):k6:=(qm (z8 (vj zj) (qb 3))
 (qm (z8 (yUn aji (jm 1)) (qb 4))
 (qm (nV (yB (zg yLt (qa 4) (fV 3))) (qm (z8 (fV 3) (qb 4))
 (wt (jq (qa 2)) (qb 5) (v4 (yB (qz p0 (qj (qa 0) (dh (qa 1) (qa 5))))) (qm (vq (gu Ca "unite" p1 (qa 0) (qj (qa 5) (qj (zg be (zg be (qa 1) (qa 5)) (jm 1)) zj))))
 (vq (gY xa (qa 3) (qj (uP (gi "fold") (qa 5)) zj)))) je))))
 (zr (qa 3)))))
def rX(Ca:Addr)(p0:j4)(p1:j4)(p2:j4):k6:=(qm (z8 (zT Ca p0 (vv (fV 0))) (qb 3))
 (zr (zg jk (qz p1 (dh (qa 3) (qa 1))) (qz p2 (qj (qa 3) (dh (qa 0) (qa 2)))))))
def dE(p0:j4)(p1:j4):k6:=(qm (z8 (zg uc (lZ kD (qj (qz p0 (vv (qa 0))) zj)) (jm 1)) (qb 3))
 (zr (oX (zg (oV false) (zg jk (fV 1) (fV 2)) (qa 3)) (zg (oV false) (lZ kD (qj (qz p1 (qj (qa 0) (dh (qa 1) (qa 2)))) zj)) (qa 3)))))
def pY(p0:j4)(p1:j4)(p2:j4):k6:=(zr (qz p0 (qj (k8 0 0) (qj (qz p2 (vv (qa 0))) (qj (qz p1 (vv (qa 0))) zj)))))
def oJ(p0:j4)(p1:j4)(p2:j4)(p3:j4):k6:=(qm (v4 (yB (qz p0 (vv (qa 0)))) (zr (yC .non)) je)
 (qm (z8 (k8 0 0) (qb 1))
 (qm (z8 (qz p1 (vv (qa 0))) (qb 2))
 (qm (z8 (qz p2 (vv (qa 0))) (qb 3))
 (qm (z8 (vj zj) (qb 4))
 (qm (wt (bN (qa 3)) (aK 2 (zw (qb 5) (zw (qb 6) aF))) (qm (z8 (da (qj (qa 6) (qj (zg be (zg be (qa 1) (qa 6)) (jm 1)) zj))) (qb 7))
 (qm (z8 (yIf (yB (qz p3 (qj (qa 1) (qj (zg jk (qa 2) (vj (vv (qa 7)))) (qj (vH hX (qa 3) (bB (zg jk (qa 5) (jm 1))) w9) zj))))) (jm 1) (jm 0)) (qb 8))
 (qm (vq (gY xa (qa 4) (vv (qa 8))))
 (vq (gY xa (qa 2) (qj (da (qj (qa 6) (qj (zg be (zg be (qa 1) (qa 6)) (zg jk (jm 1) (qa 8))) zj))) zj)))))))
 (zr (qa 4))))))))
def tw(hs:List Nat)(a b:Nat):Prop:=∃r,kq hs a r/\kq hs b r
def Mon(hs hs':List Nat):Prop:=∀a b,tw hs a b->tw hs' a b
theorem Mon.trans{a b c:List Nat}(h:Mon a b)(k:Mon b c):Mon a c:=fun x y z=>k x y (h x y z)
theorem jC(h:∀x s,kq hs x s->kq hs' x s):Mon hs hs':=fun _ _ ⟨r,p,q⟩=>⟨r,h _ _ p,h _ _ q⟩
theorem jU{a b:Nat}(h:∀i s,kq hs i s->kq hs' i (if s=a then b else s)):Mon hs hs':=fun _ _ ⟨_,p,q⟩=>⟨_,h _ _ p,h _ _ q⟩
theorem vY{a b p:Nat}(h:∀i s,kq hs i s->kq hs' i (if s=a then b else s))(ta:kq hs p a)(tb:kq hs q b):tw hs' p q:=by
 have h1:=h _ _ ta;have h2:=h _ _ tb;rw[Av rfl] at h1;refine⟨b,h1,?_⟩;by_cases c:b=a
 ·rw[Av c] at h2;exact h2
 ·rw[As c] at h2;exact h2
theorem oR{a b ra rb:Nat}(h:∀x s,kq hs x s->kq hs' x s)(ta:kq hs a ra)(tb:kq hs b rb):tw hs' a b->tw hs a b:=fun⟨r,p,q⟩=>by have e1:=(h _ _ ta).uniq p;have e2:=(h _ _ tb).uniq q;exact⟨r,e1▸ta,e2▸tb⟩
def ac9(ks:List (Option Kn))(hs es:List Nat):Prop:=∀p∈es,∀e i j,ks[p]?=some (some (.nd e i j))->tw hs i j->tw hs p i
structure yk(R:Nat->Nat->Prop):Prop where
 r:∀a,R a a
 s:∀{a b},R a b->R b a
 t:∀{a b c},R a b->R b c->R a c
def mz(R:Nat->Nat->Prop)(hs:List Nat):Prop:=∀a b,tw hs a b->R a b
theorem kq.lt{r:Nat}(h:kq hs i r):i<hs.length:=by cases h with|root e=>exact zc e|step e _ _=>exact zc e
theorem lU(hr:dy rk hs)(hl:hs'.length=hs.length)(h:∀x s,kq hs x s->kq hs' x s)(F:mz R hs):mz R hs':=fun x y ⟨r,p,q⟩=>by obtain⟨rx,tx⟩:=hr.rep' (i:=x) (by have:=p.lt;lia);obtain⟨ry,ty⟩:=hr.rep' (i:=y) (by have:=q.lt;lia);exact F x y (oR h tx ty ⟨r,p,q⟩)
theorem mH{a b p:Nat}(hr:dy rk hs)(hl:hs'.length=hs.length)(h:∀i s,kq hs i s->kq hs' i (if s=a then b else s))(ta:kq hs p a)(tb:kq hs q b)(E:yk R)(hpq:R p q)(F:mz R hs):mz R hs':=fun x y ⟨r,px,qy⟩=>by
 obtain⟨rx,tx⟩:=hr.rep' (i:=x) (by have:=px.lt;lia);obtain⟨ry,ty⟩:=hr.rep' (i:=y) (by have:=qy.lt;lia);have e:=((h _ _ tx).uniq px).trans ((h _ _ ty).uniq qy).symm;have xp:rx=a->R x p:=fun z=>F x p ⟨a,z▸tx,ta⟩;have yp:ry=a->R y p:=fun z=>F y p ⟨a,z▸ty,ta⟩;by_cases c:rx=a
 ·by_cases d:ry=a
  ·exact E.t (xp c) (E.s (yp d))
  ·rw[Av c,As d] at e;exact E.t (E.t (xp c) hpq) (F q y ⟨b,tb,e▸ty⟩)
 ·by_cases d:ry=a
  ·rw[As c,Av d] at e;exact E.t (F x q ⟨b,e▸tx,tb⟩) (E.s (E.t (yp d) hpq))
  ·rw[As c,As d] at e;exact F x y ⟨rx,tx,e▸ty⟩
theorem qP(E:yk R)(n:Nat):mz R (List.range n):=fun x y ⟨r,p,q⟩=>by have h:∀{i r:Nat},kq (List.range n) i r->r=i:=fun {i r} t=>t.of_top (Bv (by have:=t.lt;rwa[AZ] at this));have e1:=h p;have e2:=h q;subst e1;rw[e2];exact E.r _
def JnR(hs hs':List Nat)(ps:List (Nat×Nat)):Prop:=Mon hs hs'/\(∀x∈ps,tw hs' x.1 x.2)/\∀R,yk R->(∀x∈ps,R x.1 x.2)->mz R hs->mz R hs'
def FoC(ks:List (Option Kn))(es:List Nat)(R:Nat->Nat->Prop):Prop:=∀p∈es,∀e i j,ks[p]?=some (some (.nd e i j))->R i j->R p i
def FoR(ks:List (Option Kn))(hs hs' es:List Nat):Prop:=Mon hs hs'/\∀R,yk R->FoC ks es R->mz R hs->mz R hs'
theorem JnR.snoc{hs2:List Nat}{ps:List (Nat×Nat)}{a b p:Nat}(j:JnR hs hs' ps)(hr:dy rk hs')(hl:hs2.length=hs'.length)(h:∀i s,kq hs' i s->kq hs2 i (if s=a then b else s))(ta:kq hs' p a)(tb:kq hs' q b):JnR hs hs2 (ps++[(p,q)]):=by
 refine⟨j.1.trans (jU h),fun x hx=>?_,fun R E c F=>mH hr hl h ta tb E (c (p,q) (Ao _ (Ai.mpr rfl))) (j.2.2 R E (fun x hx=>c x (AF _ hx)) F)⟩;rcases AA.mp hx with hx | hx
 ·exact jU h _ _ (j.2.1 x hx)
 ·rw[Ai.mp hx];exact vY h ta tb
def Gd(hs hs':List Nat):Prop:=hs'.length=hs.length/\∃rk,dy rk hs'
theorem ad7:(100000:Nat)≤sizeLine:=by decide
def fg(C:Addr):j4:=fun ys L Q=>∃o hp j,∃hs:List Nat,∃ps:List (Nat×Nat),ys=[.ref o,.ref j]/\L o=some (.ins C (jO hp))/\L hp=some (.lst (nY hs))/\L j=some (.lst (zf ps))/\j≠hp/\(∃rk,dy rk hs)/\(∀x∈ps,x.1<hs.length/\x.2<hs.length)/\ps.length≤10000/\
 ∀s zs hs',L s=none->Gd hs hs'->zs.length≤ps.length->zs.length+bY hs'=bY hs->JnR hs hs' ps->Q (.ref s) (qd (qd L hp (.lst (nY hs'))) s (.lst zs))
theorem vB :∀ys L Q,fg C ys L Q->x8 (m7 C (du C)) 5 ys L Q:=by
 rintro ys L Q ⟨o,hp,j,hs,ps,rfl,ho,hhp,hj,hjp,hrk,hlt,hz,q⟩;intro s hs0;have hop:o≠hp:=aa2 ho hhp (fun e=>by cases e);have hos:o≠s:=ki ho hs0;have hps:hp≠s:=ki hhp hs0;have hjs:j≠s:=ki hj hs0;have fo:∀A Z,(qd (qd L hp A) s Z) o=some (.ins C (jO hp)):=fun A Z=>(qe hos).trans ((qe hop).trans ho);have fh:∀A Z,(qd (qd L hp A) s Z) hp=some A:=fun A Z=>(qe hps).trans q8;have fj:∀A Z,(qd (qd L hp A) s Z) j=some (.lst (zf ps)):=fun A Z=>(qe hjs).trans ((qe hjp).trans hj);have e0:qd L s (.lst [])=qd (qd L hp (.lst (nY hs))) s (.lst []):=by rw[bA hhp]
 refine vk (ys:=zf ps) (z9 ((qe hjs).trans hj)) (fun i τ L'=>∃hs' zs c3 c4,τ=[some (.ref o),some (.ref j),some (.ref s),c3,c4]/\L'=qd (qd L hp (.lst (nY hs'))) s (.lst zs)/\Gd hs hs'/\zs.length≤i/\zs.length+bY hs'=bY hs/\JnR hs hs' (ps.take i)) ⟨hs,[],_,_,rfl,e0,⟨rfl,hrk⟩,Ag _,B6 _,fun _ _ z=>z,(fun x hx=>by cases hx),fun _ _ _ F=>F⟩ ?_ ?_ ?_
 ·rintro i τ L' ⟨hs',zs,c3,c4,rfl,rfl,_⟩;rw[fj,qe hjs,hj]
 ·rintro i y τ L' hy ⟨hs',zs,c3,c4,rfl,rfl,⟨g1,rk,g2⟩,hzi,hrt,jn⟩;rw[Ak] at hy;obtain⟨⟨p,q'⟩,ex,rfl⟩:=Aj.mp hy;obtain⟨h1,h2⟩:=hlt _ (An ex);have h1:p<hs.length:=h1;have h2:q'<hs.length:=h2;have hi:=zc ex;obtain⟨a,ta⟩:=g2.rep' (i:=p) (by lia);obtain⟨b,tb⟩:=g2.rep' (i:=q') (by lia);refine vm (fo _ _) ⟨rfl,jJ,o,hp,hs',p,q',a,b,_,_,rfl,rfl,rfl,fo _ _,fh _ _,⟨rk,g2⟩,ta,tb,by lia,by lia,fun hs2 l2 k2 r2 e1 e2=>?_⟩;rw[az (AS hps),zm];have nw:JnR hs hs2 (ps.take (i+1)):=by
   have et:ps.take (i+1)=ps.take i++[(p,q')]:=by rw[AH,ex];rfl
   rw[et];exact jn.snoc g2 l2 r2 ta tb
  by_cases c:a=b
  ·refine v5 (by rw[Al c];rfl) ⟨_,DA _,hs2,zs,_,_,rfl,rfl,⟨by lia,k2⟩,by exact yW,by rw[e1 c];exact hrt,nw⟩
  ·refine dX (by rw[Am c];rfl) ?_;have:=e2 c;refine qg q8 (z0 q8 ⟨AM (by lia:zs.length≤10000) (by decide),_,DA _,hs2,zs++[_],_,_,rfl,zm,⟨by lia,k2⟩,?_,?_,nw⟩)
   ·rw[Ab,Ap];exact pe
   ·rw[Ab,Ap];lia
 ·rintro τ L' ⟨hs',zs,c3,c4,rfl,rfl,g,hzi,hrt,jn⟩;rw[Aa] at hzi jn;rw[AB] at jn;exact vd (q s zs hs' hs0 g hzi hrt jn)
def i4(C:Addr):j4:=fun ys L Q=>∃o hp a,∃hs:List Nat,∃ks:List (Option Kn),∃p i j:Nat,∃e:Bool,∃pi:Int,ys=[.ref o,.ref a,.int pi]/\pi=(p:Int)/\L o=some (.ins C (jO hp))/\L hp=some (.lst (nY hs))/\L a=some (.lst (bw ks))/\a≠hp/\(∃rk,dy rk hs)/\
 ks[p]?=some (some (.nd e i j))/\p<hs.length/\i<hs.length/\j<hs.length/\
 ∀ri rj rp hs',kq hs i ri->kq hs j rj->kq hs p rp->Gd hs hs'->(∀x s,kq hs x s->kq hs' x s)->bY hs'=bY hs->Q (.bl (decide (ri=rj)&&!decide (ri=rp))) (qd L hp (.lst (nY hs')))
theorem cf(a b:Nat):decide ((a:Int)=(b:Int))=decide (a=b):=by
 by_cases c:a=b
 ·rw[Al c];exact Al (by lia)
 ·rw[Am c];exact Am (by lia)
theorem wW :∀ys L Q,i4 C ys L Q->x8 (rO C eY (iE C)) 4 ys L Q:=by
 rintro ys L Q ⟨o,hp,a,hs,ks,p,i,j,e,pi,rfl,rfl,ho,hhp,ha,hap,⟨rk,hr⟩,ek,hp1,hi1,hj1,q⟩;have a1:bW (bw ks) (p:Int)=some (gz (some (.nd e i j))):=vn (by rw[Ak,ek];rfl);obtain⟨ri,ti⟩:=hr.rep' hi1;obtain⟨rj,tj⟩:=hr.rep' hj1;obtain⟨rp,tp⟩:=hr.rep' hp1;refine qg ha (qq a1 ⟨some (.nd e i j),rfl,fun p2 hp2=>?_⟩);have hop:o≠hp:=aa2 ho hhp (fun e=>by cases e);have ho2:o≠p2:=ki ho hp2;have hh2:hp≠p2:=ki hhp hp2;have fo:∀A Z,(qd (qd L p2 Z) hp A) o=some (.ins C (jO hp)):=fun A Z=>(qe hop).trans ((qe ho2).trans ho);refine jo q8 fun keep kp=>rE ⟨by show 2<sizeLine;decide,fun k zs L'=>∃hs',L'=qd (qd L p2 (.lst (nY [i,j]))) hp (.lst (nY hs'))/\hs'.length=hs.length/\dy rk hs'/\(∀x s,kq hs x s->kq hs' x s)/\bY hs'=bY hs/\zs=nY ([ri,rj].take k),⟨hs,?_,rfl,hr,fun _ _ h=>h,rfl,rfl⟩,?_,?_,?_⟩
 ·exact(bA ((qe hh2).trans hhp)).symm
 ·rintro k zs L' ⟨hs',rfl,_⟩;exact kp _ (by rw[qe (AS hh2)];rfl)
 ·rintro k y zs L' hy ⟨hs',rfl,l1,k1,t1,n1,rfl⟩;obtain⟨n,en,rfl⟩:=bH hy;have hn:n<hs.length/\∃rn,kq hs n rn/\nY ([ri,rj].take k)++[.int (rn:Int)]=nY ([ri,rj].take (k+1)):=by
   match k,en with
   |0,en=>cases en;exact⟨hi1,ri,ti,rfl⟩
   |1,en=>cases en;exact⟨hj1,rj,tj,rfl⟩
  obtain⟨hn,rn,tn,ezs⟩:=hn;refine vm (fo _ _) ⟨rfl,cj,o,hp,hs',n,_,rk,rfl,rfl,fo _ _,q8,k1,by lia,fun r hs2 l2 k2 t2 a2 n2=>?_⟩;cases t2.uniq (t1 _ _ tn);exact⟨_,DA _,hs2,zm,by lia,k2,fun x s z=>a2 x s (t1 x s z),by lia,ezs⟩
 ·rintro zs L' ⟨hs',rfl,l1,k1,t1,n1,rfl⟩ p3 hp3;have hp3':L p3=none:=j9 (By hp2) (vg hp3);have ne3:hp≠p3:=ki q8 hp3;have f0:bW (nY ([ri,rj].take (nY (aI (some (Kn.nd e i j)))).length)) 0=some (.int (ri:Int)):=rfl;have f1:bW (nY ([ri,rj].take (nY (aI (some (Kn.nd e i j)))).length)) 1=some (.int (rj:Int)):=rfl;refine qg q8 (qq f0 (qg q8 (qq f1 ?_)));have fo3:∀Z,(qd (qd (qd L p2 (.lst (nY [i,j]))) hp (.lst (nY hs'))) p3 Z) o=some (.ins C (jO hp)):=fun Z=>(qe (ki (fo _ _) hp3)).trans (fo _ _);have sub:∀(hs2:List Nat) Z,qf (qd L hp (.lst (nY hs2))) (qd (qd (qd (qd L p2 (.lst (nY [i,j]))) hp (.lst (nY hs'))) p3 Z) hp (.lst (nY hs2))):=fun hs2 Z b u e=>by
   by_cases c:b=hp
   ·subst c;rw[q8] at e ⊢;exact e
   ·rw[qe c] at e;rw[qe c,qe (ki e hp3'),qe c,qe (ki e hp2)];exact e
  show ku (decide ((ri:Int)=(rj:Int))) _ _;rw[cf];refine aY (fun c=>?_) (fun c=>?_)
  ·refine qg q8 (qq f0 ?_);refine vm (fo3 _) ⟨rfl,cj,o,hp,hs',p,_,rk,rfl,rfl,fo3 _,(qe ne3).trans q8,k1,by lia,fun r hs2 l2 k2 t2 a2 n2=>?_⟩;cases t2.uniq (t1 _ _ tp);show cV Q (.bl (!decide ((ri:Int)=(rp:Int)))) _;rw[cf];have:=q ri rj rp hs2 ti tj tp ⟨by lia,rk,k2⟩ (fun x s z=>a2 x s (t1 x s z)) (by lia);rw[Al c,Dr] at this;exact ac (sub hs2 _) this
  ·have:=q ri rj rp hs' ti tj tp ⟨by lia,rk,k1⟩ t1 n1;rw[Am c,CM] at this;refine ac (L:=qd L hp (.lst (nY hs'))) (fun b u eb=>?_) this;have z:=sub hs' (.lst (nY ([ri,rj].take (nY (aI (some (Kn.nd e i j)))).length))) b u;have e2:qd (qd (qd (qd L p2 (.lst (nY [i,j]))) hp (.lst (nY hs'))) p3 (.lst (nY ([ri,rj].take (nY (aI (some (Kn.nd e i j)))).length)))) hp (.lst (nY hs'))=qd (qd (qd L p2 (.lst (nY [i,j]))) hp (.lst (nY hs'))) p3 (.lst (nY ([ri,rj].take (nY (aI (some (Kn.nd e i j)))).length))):=bA ((qe ne3).trans q8);rw[e2] at z;exact z eb
def rg(ks:List (Option Kn))(n p:Nat):Prop:=∃e i j,ks[p]?=some (some (.nd e i j))/\p<n/\i<n/\j<n
def fW(C:Addr):j4:=fun ys L Q=>∃o hp a b,∃hs:List Nat,∃ks:List (Option Kn),∃es:List Nat,ys=[.ref o,.ref a,.ref b]/\L o=some (.ins C (jO hp))/\L hp=some (.lst (nY hs))/\L a=some (.lst (bw ks))/\L b=some (.lst (nY es))/\a≠hp/\b≠hp/\(∃rk,dy rk hs)/\(∀p∈es,rg ks hs.length p)/\hs.length≤1000/\
 ∀s zs hs',L s=none->Gd hs hs'->zs.length+bY hs'=bY hs->(FoR ks hs hs' es/\ac9 ks hs' es)->Q (.ref s) (qd (qd L hp (.lst (nY hs'))) s (.lst zs))
theorem yw(hs:List Nat):bY hs≤hs.length:=by unfold bY;exact AI (BX) (by rw[AZ];simp +arith only)
theorem uH :∀ys L Q,fW C ys L Q->x8 (mh C (i4 C) (du C)) 6 ys L Q:=by
 rintro ys L Q ⟨o,hp,a,b,hs,ks,es,rfl,ho,hhp,ha,hb,hap,hbp,hrk,hes,hlen,q⟩;intro s hs0;have hop:o≠hp:=aa2 ho hhp (fun e=>by cases e);have hos:o≠s:=ki ho hs0;have hps:hp≠s:=ki hhp hs0;have fo:∀A Z,(qd (qd L hp A) s Z) o=some (.ins C (jO hp)):=fun A Z=>(qe hos).trans ((qe hop).trans ho);have fh:∀A Z,(qd (qd L hp A) s Z) hp=some A:=fun A Z=>(qe hps).trans q8;have fa:∀A Z,(qd (qd L hp A) s Z) a=some (.lst (bw ks)):=fun A Z=>(qe (ki ha hs0)).trans ((qe hap).trans ha);have fb:∀A Z,(qd (qd L hp A) s Z) b=some (.lst (nY es)):=fun A Z=>(qe (ki hb hs0)).trans ((qe hbp).trans hb);have e0:qd L s (.lst [])=qd (qd L hp (.lst (nY hs))) s (.lst []):=by rw[bA hhp]
 refine⟨fun m τ L'=>∃hs' zs,∃bf:Int,∃c5,τ=[some (.ref o),some (.ref a),some (.ref b),some (.ref s),some (.int bf),c5]/\L'=qd (qd L hp (.lst (nY hs'))) s (.lst zs)/\Gd hs hs'/\zs.length+bY hs'=bY hs/\(FoR ks hs hs' es/\(bf<(zs.length:Int)\/ac9 ks hs' es))/\m=2*bY hs'+(if bf<(zs.length:Int) then 1 else 0),⟨_,hs,[],-1,_,rfl,e0,⟨rfl,hrk⟩,B6 _,⟨⟨fun _ _ z=>z,fun _ _ _ F=>F⟩,.inl (by decide)⟩,rfl⟩,?_⟩;rintro m τ L' ⟨hs',zs,bf,c5,rfl,rfl,g,hrt,⟨mo,sh⟩,rfl⟩;refine qg q8 ?_;show ku (decide (bf<(zs.length:Int))) _ _;refine aY (fun c=>?_) (fun c=>vd (q s zs hs' hs0 g hrt ⟨mo,sh.resolve_left c⟩));refine⟨_,fun _ _ h=>h,qg q8 ?_⟩;refine vk (ys:=nY es) (z9 (fb _ _)) (fun i τ L'=>∃hs2 zs2 c5,τ=[some (.ref o),some (.ref a),some (.ref b),some (.ref s),some (.int (zs.length:Int)),c5]/\L'=qd (qd L hp (.lst (nY hs2))) s (.lst zs2)/\Gd hs hs2/\zs2.length+bY hs2=bY hs/\zs.length≤zs2.length/\(FoR ks hs hs2 es/\(zs.length<zs2.length\/ac9 ks hs2 (es.take i)))) ⟨hs',zs,_,rfl,rfl,g,hrt,Ag _,mo,.inr fun p hp=>by cases hp⟩ ?_ ?_ ?_
 ·rintro i τ L' ⟨hs2,zs2,c5,rfl,rfl,_⟩;rw[fb,fb]
 ·rintro i y τ L' hy ⟨hs2,zs2,c5,rfl,rfl,⟨g1,rk,g2⟩,hrt2,hzz,mo2,sh2⟩;obtain⟨p,ep,rfl⟩:=bH hy;obtain⟨e,i',j',ek,h1,h2,h3⟩:=hes p (An ep);have a1:bW (bw ks) (p:Int)=some (gz (some (.nd e i' j'))):=vn (by rw[Ak,ek];rfl);refine⟨o,hp,a,hs2,ks,p,i',j',e,_,rfl,rfl,fo _ _,fh _ _,fa _ _,hap,⟨rk,g2⟩,ek,by lia,by lia,by lia,fun ri rj rp hs3 ti tj tp ⟨l3,k3⟩ t3 n3=>?_⟩;rw[az (AS hps),zm];cases cc:(decide (ri=rj)&&!decide (ri=rp)) with
  |false=>
   refine⟨_,DA _,hs3,zs2,_,rfl,rfl,⟨by lia,k3⟩,by lia,hzz,⟨mo2.1.trans (jC t3),fun R E c F=>lU g2 l3 t3 (mo2.2 R E c F)⟩,sh2.imp id fun sh=>?_⟩;have et:es.take (i+1)=es.take i++[p]:=by rw[AH,ep];rfl
   rw[et];intro x hx f u v ex cx;rcases AA.mp hx with hx | hx
   ·obtain⟨f',u',v',ex',_,hu,hv⟩:=hes x (CA hx);rw[ex] at ex';cases ex';obtain⟨ru,tu⟩:=g2.rep' (i:=u) (by lia);obtain⟨rv,tv⟩:=g2.rep' (i:=v) (by lia);exact jC t3 _ _ (sh x hx f u v ex (oR t3 tu tv cx))
   ·rw[Ai.mp hx] at ex ⊢;rw[ek] at ex;cases ex;obtain⟨r,c3,c4⟩:=cx;have e5:=(t3 _ _ ti).uniq c3;have e6:=(t3 _ _ tj).uniq c4;rw[Al (e5.trans e6.symm),Dr] at cc;by_cases e7:ri=rp
    ·exact⟨ri,e7▸t3 _ _ tp,t3 _ _ ti⟩
    ·rw[Am e7] at cc;cases cc
  |true=>
   have c2:ri≠rp:=by have:=(AV _ _▸cc).2;intro z;rw[Al z] at this;cases this
   refine vm (fo _ _) ⟨rfl,jJ,qg (fa _ _) (qq a1 ⟨o,hp,hs3,p,i',rp,ri,_,_,rfl,rfl,rfl,fo _ _,fh _ _,k3,t3 _ _ tp,t3 _ _ ti,by lia,by lia,fun hs4 l4 k4 r4 e1 e2=>?_⟩)⟩;rw[az (AS hps),zm];have e3:=e2 (AS c2);have hb2:=yw hs;refine qg q8 (z0 q8 ⟨AM (by lia:zs2.length≤1000) (by decide),_,DA _,hs4,zs2++[_],_,rfl,zm,⟨by lia,k4⟩,?_,?_,⟨(mo2.1.trans (jC t3)).trans (jU r4),fun R E c F=>?_⟩,.inl (by rw[Ab,Ap];exact pe)⟩)
   ·rw[Ab,Ap];lia
   ·rw[Ab,Ap];exact yW
   ·obtain⟨rk3,k3'⟩:=k3;have F3:=lU g2 l3 t3 (mo2.2 R E c F);have c1:ri=rj:=of_decide_eq_true (AV _ _▸cc).1;exact mH k3' l4 r4 (t3 _ _ tp) (t3 _ _ ti) E (c p (An ep) e i' j' ek (F3 _ _ ⟨ri,t3 _ _ ti,c1▸t3 _ _ tj⟩)) F3
 ·rintro τ L' ⟨hs2,zs2,c5,rfl,rfl,g2,hrt2,hzz,mo2,sh2⟩;rw[xm,AB] at sh2;refine⟨_,DA _,2*bY hs2+(if ((zs.length:Nat):Int)<(zs2.length:Int) then 1 else 0),?_,hs2,zs2,_,_,rfl,rfl,g2,hrt2,⟨mo2,sh2.imp (fun z=>by lia) id⟩,rfl⟩;rw[Av c];split<;>lia
def me(m:Nat->Nat)(e:Nat×Nat):Nat->Nat:=fun x=>if m x=m e.1 then m e.2 else m x
def n5(es:List (Nat×Nat))(m:Nat->Nat):Nat->Nat:=es.foldl me m
def gG(n:Nat)(m:Nat->Nat):Nat:=(List.range n).countP fun x=>decide (m x=x)
def Mk(n:Nat)(m:Nat->Nat):Prop:=∀x,x<n->m x<n/\m (m x)=m x
theorem Mk.step{m:Nat->Nat}{e:Nat×Nat}(h:Mk n m)(h1:e.1<n)(h2:e.2<n):Mk n (me m e):=fun x hx=>by
 obtain⟨a1,a2⟩:=h _ h2;obtain⟨b1,b2⟩:=h _ hx;unfold me;by_cases c:m x=m e.1
 ·rw[Av c];refine⟨a1,?_⟩;rw[a2,ite_self]
 ·rw[As c];refine⟨b1,?_⟩;rw[b2,As c]
theorem ai6{m:Nat->Nat}{e:Nat×Nat}{x y:Nat}(h:m x=m y):me m e x=me m e y:=by unfold me;rw[h]
theorem ajn(m:Nat->Nat)(e:Nat×Nat):me m e e.1=me m e e.2:=by
 unfold me;rw[Av rfl];by_cases c:m e.2=m e.1
 ·rw[Av c]
 ·rw[As c]
theorem vO:∀(es:List (Nat×Nat)) {m:Nat->Nat} {x y:Nat},m x=m y->n5 es m x=n5 es m y
 |[],_,_,_,h=>h
 |e::r,m,_,_,h=>vO r (m:=me m e) (ai6 h)
theorem mL:∀(es:List (Nat×Nat)) (m:Nat->Nat),∀e∈es,n5 es m e.1=n5 es m e.2
 |[],_,e,h=>by cases h
 |d::r,m,e,h=>by
  rcases AC.mp h with rfl | h
  ·exact vO r (ajn m e)
  ·exact mL r (me m d) e h
theorem yn{m:Nat->Nat}{e:Nat×Nat}(c:m e.1=m e.2):gG n (me m e)=gG n m:=by
 have:me m e=m:=funext fun x=>by
  unfold me;by_cases d:m x=m e.1
  ·rw[Av d,d,c]
  ·rw[As d]
 rw[this]
theorem zC{m:Nat->Nat}{e:Nat×Nat}(h:Mk n m)(h1:e.1<n)(h2:e.2<n)(c:m e.1≠m e.2):gG n (me m e)+1=gG n m:=by
 obtain⟨a1,a2⟩:=h _ h1;have b:=wo (p:=fun x=>decide (m x=x)) (a:=m e.1) (Al a2) (l:=List.range n) Bw (A9.mpr a1);unfold gG;rw[<-b];congr 1;refine Bg fun x hx=>?_;have hx:=A9.mp hx;rw[AV,Bq,Bq,CZ,decide_eq_false_iff_not];unfold me;constructor
 ·intro z;by_cases d:m x=m e.1
  ·rw[Av d] at z;rw[<-z,(h _ h2).2] at d;exact absurd d.symm c
  ·rw[As d] at z;exact⟨z,fun y=>d (by rw[y,a2])⟩
 ·rintro⟨z,y⟩;rw[As fun d=>y (z.symm.trans d)];exact z
theorem pO:∀(es:List (Nat×Nat)) {n:Nat} {m:Nat->Nat},Mk n m->(∀e∈es,e.1<n/\e.2<n)->gG n m≤gG n (n5 es m)+es.length/\(gG n (n5 es m)+es.length≤gG n m->∀i e,es[i]?=some e->n5 (es.take i) m e.1≠n5 (es.take i) m e.2)
 |[],n,m,_,_=>⟨Ag _,fun _ i e h=>by simp at h⟩
 |d::r,n,m,h,hb=>by
  obtain⟨d1,d2⟩:=hb d (Ax ..);obtain⟨i1,i2⟩:=pO r (h.step d1 d2) fun e he=>hb e (Af _ he);have eq:n5 (d::r) m=n5 r (me m d):=rfl;rw[eq,AD];by_cases c:m d.1=m d.2
  ·have s:=yn (n:=n) c;exact⟨by lia,fun z=>by lia⟩
  ·have s:=zC h d1 d2 c;refine⟨by lia,fun z i e he=>?_⟩;cases i with|zero=>cases he;exact c|succ i=>exact i2 (by lia) i e he
theorem akq(n:Nat):Mk n id:=fun _ h=>⟨h,rfl⟩
theorem agn(n:Nat):gG n id=n:=by unfold gG;refine Eq.trans (Cr.mpr fun i _=>Al rfl) AZ
def bU(n:Nat)(ps:List (Nat×Nat)):Prop:=∀x∈ps,x.1<n/\x.2<n
def KnR(ks:List (Option Kn)):Prop:=∀(p:Nat) (e:Bool) (i j:Nat),ks[p]?=some (some (Kn.nd e i j))->i<ks.length/\j<ks.length
def bZ(n:Nat)(ks:List (Option Kn))(ps:List (Nat×Nat))(es:List Nat):Prop:=∀R:Nat->Nat->Prop,(∀a,R a a)->(∀a b,R a b->R b a)->(∀a b c,R a b->R b c->R a c)->(∀x∈ps,R x.1 x.2)->
 (∀p∈es,∀e i j,ks[p]?=some (some (.nd e i j))->R i j->R p i)->∀a b,a<n->b<n->R a b
def Clo(ks:List (Option Kn))(ps:List (Nat×Nat))(es:List Nat)(a b:Nat):Prop:=∀R,yk R->(∀x∈ps,R x.1 x.2)->FoC ks es R->R a b
theorem ad8{ps:List (Nat×Nat)}{es:List Nat}:yk (Clo ks ps es):=⟨fun a R E _ _=>E.r a,fun h R E p f=>E.s (h R E p f),fun h k R E p f=>E.t (h R E p f) (k R E p f)⟩
theorem agr{ps:List (Nat×Nat)}{es:List Nat}:FoC ks es (Clo ks ps es):=fun p hp e i j ek h R E q f=>f p hp e i j ek (h R E q f)
theorem o4{R:Nat->Nat->Prop}(E:yk R):∀(es:List (Nat×Nat)) {m:Nat->Nat},(∀x y,m x=m y->R x y)->(∀e∈es,R e.1 e.2)->∀x y,n5 es m x=n5 es m y->R x y
 |[],_,h,_,x,y,e=>h x y e
 |d::r,m,h,c,x,y,e=>by
  refine o4 E r (m:=me m d) (fun x y z=>?_) (fun e he=>c e (Af _ he)) x y e;have hd:=c d (Ax ..);unfold me at z;by_cases a:m x=m d.1
  ·by_cases b:m y=m d.1
   ·exact h x y (a.trans b.symm)
   ·rw[Av a,As b] at z;exact E.t (E.t (h _ _ a) hd) (h _ _ z)
  ·by_cases b:m y=m d.1
   ·rw[As a,Av b] at z;exact E.t (h _ _ z) (E.s (E.t (h _ _ b) hd))
   ·rw[As a,As b] at z;exact h x y z
theorem tK:∀(l T:List Nat),l.Nodup->(∀x∈l,x∈T)->l.length≤T.length
 |[],_,_,_=>Bb _
 |a::r,T,nd,h=>by obtain⟨n1,n2⟩:=A1.mp nd;have ha:=h a (Ax ..);have:=tK r (T.erase a) n2 fun x hx=>(List.mem_erase_of_ne (fun e:x=a=>n1 (e▸hx))).mpr (h x (Af _ hx));rw[List.length_erase_of_mem ha] at this;have:=List.length_pos_of_mem ha;rw[AD];omega
theorem aiu{ed:List (Nat×Nat)}{T:List Nat}(hb:∀e∈ed,e.1<n/\e.2<n)(h:∀x,x<n->∃t∈T,n5 ed id x=n5 ed id t):n≤T.length+ed.length:=by
 have h1:=(pO ed (akq n) hb).1;rw[agn] at h1;have h2:gG n (n5 ed id)≤(T.map (n5 ed id)).length:=by unfold gG;rw[BC];refine tK _ _ (Bw.filter _) fun x hx=>?_;obtain⟨x1,x2⟩:=Bm.mp hx;obtain⟨t,ht,e⟩:=h x (A9.mp x1);exact A5.mpr ⟨t,ht,e.symm.trans (of_decide_eq_true x2)⟩
 rw[Aa] at h2;omega
def gy(ks:List (Option Kn))(p b:Nat):Nat:=match ks[p]? with
 |some (some (.nd _ i j))=>if b=0 then i else j
 |_=>p
theorem ak{p:Nat}{e:Bool}(h:ks[p]?=some (some (.nd e i j)))(b:Nat):gy ks p b=if b=0 then i else j:=by unfold gy;rw[h]
open Classical in
theorem uD{p:Nat}{e:Bool}{ps:List (Nat×Nat)}{es:List Nat}(hk:ks[p]?=some (some (.nd e i j)))(hps:bU n ps)(hes:∀q∈es,rg ks n q)(hi:i<n)(cnt:ps.length+es.length+2=n)
 (c0:bZ n ks (ps++[(p,i)]) es) (c1:bZ n ks (ps++[(p,j)]) es):bZ n ks ps (p::es):=by
 by_cases tot:∀a b,a<n->b<n->Clo ks ps (p::es) a b
 ·exact fun R r s t hp hf a b ha hb=>tot a b ha hb R ⟨r,fun {a b}=>s a b,fun {a b c}=>t a b c⟩ hp hf
 exfalso;have E:yk (Clo ks ps (p::es)):=ad8;have fo:FoC ks (p::es) (Clo ks ps (p::es)):=agr;have inn:∀x∈ps,Clo ks ps (p::es) x.1 x.2:=fun x hx R _ h _=>h x hx;have least:∀R,yk R->(∀x∈ps,R x.1 x.2)->FoC ks (p::es) R->∀a b,Clo ks ps (p::es) a b->R a b:=fun R E h f a b k=>k R E h f;generalize Clo ks ps (p::es)=K at tot E fo inn least;have npq:¬K i j:=fun h=>tot<|c0 K E.r (fun _ _=>E.s) (fun _ _ _=>E.t) (fun x hx=>by
  rcases AA.mp hx with hx | hx
  ·exact inn x hx
  ·rw[Ai.mp hx];exact fo p (Ax ..) e i j hk h) fun q hq=>fo q (Af _ hq)
 let pK:Nat->Prop:=fun q=>∀e i j,ks[q]?=some (some (.nd e i j))->K i j
 have all:∀h,bZ n ks (ps++[(p,h)]) es->∀x,x<n->K x p\/K x h\/∃q∈es.filter fun q=>decide ¬pK q,K x q:=fun h c=>by
  let M:Nat->Prop:=fun x=>K x p\/K x h\/∃q∈es.filter fun q=>decide ¬pK q,K x q
  have mm:∀{x y},K x y->M y->M x:=fun k m=>by
   rcases m with m | m | ⟨q,hq,m⟩
   ·exact .inl (E.t k m)
   ·exact .inr (.inl (E.t k m))
   ·exact .inr (.inr ⟨q,hq,E.t k m⟩)
  have S:=c (fun x y=>K x y\/M x/\M y) (fun a=>.inl (E.r a)) (fun a b z=>z.imp E.s fun⟨u,v⟩=>⟨v,u⟩) (fun a b d y z=>by
   rcases y with y | ⟨y1,y2⟩
   ·rcases z with z | ⟨z1,z2⟩
    ·exact .inl (E.t y z)
    ·exact .inr ⟨mm y z1,z2⟩
   ·rcases z with z | ⟨z1,z2⟩
    ·exact .inr ⟨y1,mm (E.s z) y2⟩
    ·exact .inr ⟨y1,z2⟩) (fun x hx=>by
    rcases AA.mp hx with hx | hx
    ·exact .inl (inn x hx)
    ·rw[Ai.mp hx];exact .inr ⟨.inl (E.r _),.inr (.inl (E.r _))⟩) (fun q hq e' i' j' ek z=>by
    by_cases k:K i' j'
    ·exact .inl (fo q (Af _ hq) e' i' j' ek k)
    ·rcases z with z | ⟨z1,_⟩
     ·exact absurd z k
     ·exact .inr ⟨.inr (.inr ⟨q,Bm.mpr ⟨hq,Al fun w=>k (w e' i' j' ek)⟩,E.r q⟩),z1⟩)
  intro x hx;apply Classical.byContradiction;intro nx;refine tot fun a b ha hb=>?_;have one:∀a,a<n->K a x:=fun a ha=>(S a x ha hx).elim id fun⟨_,z⟩=>absurd z nx;exact E.t (one a ha) (E.s (one b hb))
 have a1:=all j c1 i hi;have cov:∀x,x<n->∃t∈p::es.filter (fun q=>decide ¬pK q),K x t:=fun x hx=>by
  have w:K x i->∃t∈p::es.filter (fun q=>decide ¬pK q),K x t:=fun k=>by
   rcases a1 with z | z | ⟨q,hq,z⟩
   ·exact⟨p,Ax ..,E.t k z⟩
   ·exact absurd z npq
   ·exact⟨q,Af _ hq,E.t k z⟩
  rcases all i c0 x hx with z | z | ⟨q,hq,z⟩
  ·exact⟨p,Ax ..,z⟩
  ·exact w z
  ·exact⟨q,Af _ hq,z⟩
 obtain⟨ed,hed⟩:∃ed,ed=ps++(es.filter fun q=>decide (pK q)).map fun q=>(q,gy ks q 0):=⟨_,rfl⟩;have hs:=hes;have edK:∀x∈ed,K x.1 x.2/\x.1<n/\x.2<n:=fun x hx=>by
  rw[hed] at hx;rcases AA.mp hx with hx | hx
  ·exact⟨inn x hx,hps x hx⟩
  ·obtain⟨q,hq,rfl⟩:=A5.mp hx;obtain⟨h1,h2⟩:=Bm.mp hq;obtain⟨e',i',j',ek,l1,l2,l3⟩:=hes q h1;have e0:gy ks q 0=i':=ak ek 0;show K q (gy ks q 0)/\q<n/\gy ks q 0<n;rw[e0];exact⟨fo q (Af _ h1) e' i' j' ek (of_decide_eq_true h2 e' i' j' ek),l1,l2⟩
 have G:∀a b,K a b->n5 ed id a=n5 ed id b:=least _ ⟨fun _=>rfl,fun h=>h.symm,fun h k=>h.trans k⟩ (fun x hx=>mL ed id x (by rw[hed];exact AF _ hx)) fun q hq e' i' j' ek z=>by
  have k:K i' j':=o4 E ed (m:=id) (fun x y (h:x=y)=>h▸E.r x) (fun x hx=>(edK x hx).1) i' j' z;rcases AC.mp hq with rfl | hq
  ·rw[hk] at ek;cases ek;exact absurd k npq
  ·have e0:gy ks q 0=i':=ak ek 0;refine mL ed id (q,i') ?_;rw[hed];refine Ao _ (A5.mpr ⟨q,Bm.mpr ⟨hq,Al fun e2 i2 j2 ek2=>?_⟩,by rw[e0]⟩);rw[ek] at ek2;cases ek2;exact k
 have vd:=aiu (T:=p::es.filter fun q=>decide ¬pK q) (fun x hx=>(edK x hx).2) fun x hx=>let ⟨t,ht,k⟩:=cov x hx;⟨t,ht,G _ _ k⟩;have l1:=Ck (fun q=>decide (pK q)) (l:=es);have l2:(es.filter fun q=>decide ¬pK q).length=es.countP fun q=>decide ¬decide (pK q)=true:=by rw[<-BC];exact Bg fun q _=>by simp
 rw[hed,Ab,Aa,AD,l2,<-BC] at vd;omega
def ad(ks:List (Option Kn))(es bs:List Nat):List (Nat×Nat):=List.zipWith (fun p b=>(p,gy ks p b)) es bs
theorem eB{ks:List (Option Kn)}:∀{es bs:List Nat} {p b:Nat},es[bs.length]?=some p->ad ks es (bs++[b])=ad ks es bs++[(p,gy ks p b)]
 |[],_,_,_,h=>by cases h
 |q::r,[],p,b,h=>by cases h;cases r<;>rfl
 |q::r,c::bs,p,b,h=>by have:=eB (ks:=ks) (es:=r) (bs:=bs) (b:=b) (by simpa using h);show(q,gy ks q c)::ad ks r (bs++[b])=(q,gy ks q c)::(ad ks r bs++[(p,gy ks p b)]);rw[this]
theorem t8{ps:List (Nat×Nat)}{es:List Nat}{p b:Nat}(c:bZ n ks ps (p::es)):bZ n ks (ps++[(p,gy ks p b)]) es:=fun R r s t hp hf=>c R r s t (fun x hx=>hp x (AF _ hx)) fun q hq e i j ek z=>by
 rcases AC.mp hq with rfl | hq
 ·have k:=hp _ (Ao ps (Ai.mpr rfl));have e0:=ak ek b;have k:R q (gy ks q b):=k;rw[e0] at k;by_cases c:b=0
  ·rw[Av c] at k;exact k
  ·rw[As c] at k;exact t _ _ _ k (s _ _ z)
 ·exact hf q hq e i j ek z
theorem i7{n:Nat}{ks:List (Option Kn)}:∀{es bs:List Nat} {ps:List (Nat×Nat)},es.length=bs.length->bZ n ks ps es->bZ n ks (ps++ad ks es bs) []
 |[],[],ps,_,c=>by rw[show ad ks [] []=[] from rfl,AL];exact c
 |p::es,b::bs,ps,h,c=>by have:=i7 (es:=es) (bs:=bs) (ps:=ps++[(p,gy ks p b)]) (by simpa using h) (t8 c);rw[AU] at this;exact this
 |[],_::_,_,h,_=>by simp at h
 |_::_,[],_,h,_=>by simp at h
structure Fst(ks:List (Option Kn))(js:List (Nat×Nat))(es bs:List Nat):Prop where
 bad:¬bZ ks.length ks (js++ad ks es bs) (es.drop bs.length)
 fst:∀t,bs[t]?=some 1->bZ ks.length ks (js++ad ks es (bs.take t++[0])) (es.drop (t+1))
theorem xH(n:Nat):dy (fun _=>0) (List.range n):=fun i h e=>by
 have hi:i<n:=by have:=zc e;rwa[AZ] at this
 rw[Bv hi] at e;cases e;exact⟨by rw[AZ];exact hi,fun z=>absurd rfl z⟩
theorem yZ{b:Bool}{A B:Prop}(h1:b=true->A)(h2:b=false->B):ku b A B:=by cases b with|true=>exact h1 rfl|false=>exact h2 rfl
theorem ub(n:Nat):bY (List.range n)=n:=by unfold bY;rw[AZ];refine Eq.trans (Cr.mpr fun i hi=>?_) AZ;exact Al (Bv (A9.mp hi))
theorem xI{ps:List (Nat×Nat)}{es:List Nat}(hl:hs.length=n)(hr:dy rk hs)(hes:∀p∈es,rg ks n p)(C:bZ n ks ps es)(h1:∀x∈ps,tw hs x.1 x.2)(h2:ac9 ks hs es)(hn:1≤n):bY hs=1:=by
 have all:∀a b,a<n->b<n->a=b\/tw hs a b:=C (fun a b=>a=b\/tw hs a b) (fun a=>.inl rfl) (fun a b h=>h.elim (fun e=>.inl e.symm) fun⟨r,p,q⟩=>.inr ⟨r,q,p⟩)
  (fun a b c h k=>by
   rcases h with rfl | ⟨r,p,q⟩
   ·exact k
   ·rcases k with rfl | ⟨s,p2,q2⟩
    ·exact .inr ⟨r,p,q⟩
    ·exact .inr ⟨r,p,by rw[q.uniq p2];exact q2⟩) (fun x hx=>.inr (h1 x hx))
  (fun p hp e i j ek h=>by
   rcases h with rfl | h
   ·obtain⟨e',i',j',ek',_,hi,_⟩:=hes p hp;rw[ek] at ek';cases ek';obtain⟨r,t⟩:=hr.rep' (i:=i) (by lia);exact .inr (h2 p hp e i i ek ⟨r,t,t⟩)
   ·exact .inr (h2 p hp e i j ek h))
 obtain⟨r,t⟩:=hr.rep' (i:=0) (by lia);have rt:=t.top;have rl:=zc rt;have e:=wo (p:=fun i=>decide (hs[i]?=some i)) (a:=r) (Al rt) (l:=List.range hs.length) Bw (A9.mpr rl);unfold bY;rw[<-e];have z:(List.range hs.length).countP (fun j=>decide (hs[j]?=some j)&&!decide (j=r))=0:=B8.mpr fun j hj=>by
  intro h;rw[AV] at h;have j1:=of_decide_eq_true h.1;have j2:j≠r:=fun c=>by rw[Al c] at h;cases h.2
  rcases all j r (by have:=A9.mp hj;lia) (by lia) with c | ⟨s,p,q⟩
  ·exact j2 c
  ·exact j2 ((p.of_top j1).symm.trans (q.of_top rt))
 rw[z]
theorem ab3(hl:hs.length=n)(hr:dy rk hs)(h:bY hs=1){a b:Nat}(ha:a<n)(hb:b<n):tw hs a b:=by
 obtain⟨r,ta⟩:=hr.rep' (i:=a) (by lia);obtain⟨s,tb⟩:=hr.rep' (i:=b) (by lia);have rt:=ta.top;have st:=tb.top;have e:=wo (p:=fun i=>decide (hs[i]?=some i)) (a:=r) (Al rt) (l:=List.range hs.length) Bw (A9.mpr (zc rt));have h':(List.range hs.length).countP (fun i=>decide (hs[i]?=some i))=1:=h;have z:(List.range hs.length).countP (fun j=>decide (hs[j]?=some j)&&!decide (j=r))=0:=by lia
 by_cases c:s=r
 ·exact⟨r,ta,c▸tb⟩
 ·have:=B8.mp z s (A9.mpr (zc st));exact absurd (by rw[Al st,Am c];rfl) this
def Rt(ks:List (Option Kn))(lk ct:List (Nat×Nat)):Prop:=bZ ks.length ks (ze ks lk ct) (qx true ks)/\(ji ks).length=ks.length/\(ze ks lk ct).length+(qx true ks).length+1=ks.length
def dg(C:Addr):j4:=fun ys L Q=>∃a j b,∃ks:List (Option Kn),∃ps:List (Nat×Nat),∃es:List Nat,ys=[.ref a,.ref j,.ref b]/\L a=some (.lst (bw ks))/\L j=some (.lst (zf ps))/\L b=some (.lst (nY es))/\ks.length≤1000/\bU ks.length ps/\ps.length≤10000/\(∀p∈es,rg ks ks.length p)/\
 ∀zs p,L p=none->(1≤ks.length->(zs.length+1=ks.length↔bZ ks.length ks ps es))->Q (.ref p) (qd L p (.lst zs))
theorem rc :∀ys L Q,dg C ys L Q->x8 (rX C (iR C) (fg C) (fW C)) 4 ys L Q:=by
 rintro ys L Q ⟨a,j,b,ks,ps,es,rfl,ha,hj,hb,hz,hps,hpl,hes,q⟩;refine qg ha fun x hx=>⟨x,ks.length,_,rfl,by rw[Aa],q8,hz,fun hp hhp=>⟨rfl,?_⟩⟩;have hxp:x≠hp:=ki q8 hhp;have nhp:L hp=none:=vg hhp;have hx2:(qd (qd (qd L x (.ins C [])) hp (.lst (nY (List.range ks.length)))) x (.ins C (jO hp))) x=some (.ins C (jO hp)):=q8;have hh2:(qd (qd (qd L x (.ins C [])) hp (.lst (nY (List.range ks.length)))) x (.ins C (jO hp))) hp=some (.lst (nY (List.range ks.length))):=(qe (AS hxp)).trans q8;have sub:qf L (qd (qd (qd L x (.ins C [])) hp (.lst (nY (List.range ks.length)))) x (.ins C (jO hp))):=(((By hx).trans (By hhp)).upd hx);generalize qd (qd (qd L x (.ins C [])) hp (.lst (nY (List.range ks.length)))) x (.ins C (jO hp))=L2 at hx2 hh2 sub;have ln:(List.range ks.length).length=ks.length:=AZ;refine⟨x,hp,j,List.range ks.length,ps,rfl,hx2,hh2,sub _ _ hj,ki hj nhp,⟨_,xH _⟩,fun y hy=>by rw[ln];exact hps y hy,hpl,fun s1 zs1 hs1 n1 g1 z1 r1 m1=>?_⟩;have hs1p:hp≠s1:=ki hh2 n1;refine⟨x,hp,a,b,hs1,ks,es,rfl,(qe (ki hx2 n1)).trans ((qe hxp).trans hx2),(qe hs1p).trans q8,(qe (ki (sub _ _ ha) n1)).trans ((qe (ki ha nhp)).trans (sub _ _ ha)),(qe (ki (sub _ _ hb) n1)).trans ((qe (ki hb nhp)).trans (sub _ _ hb)),ki ha nhp,ki hb nhp,g1.2,fun p hp=>by rw[g1.1,ln];exact hes p hp,by rw[g1.1,ln];exact hz,fun s2 zs2 hs2 n2 g2 r2 m2=>?_⟩;have e1:(qd (qd (qd (qd L2 hp (.lst (nY hs1))) s1 (.lst zs1)) hp (.lst (nY hs2))) s2 (.lst zs2)) s1=some (.lst zs1):=(qe (ki q8 n2)).trans ((qe (AS hs1p)).trans q8);have l1:=yw (List.range ks.length);rw[ln] at l1;have hb5:=ad7;refine⟨_,_,e1,q8,by lia,fun p4 hp4=>?_⟩;have np4:L2 p4=none:=vg (vg (vg (vg hp4)));have np4':L p4=none:=j9 sub np4;refine ac (L:=qd L p4 (.lst (zs1++zs2))) (fun y u e=>?_) (q _ p4 np4' fun hn=>?_)
 rotate_left
 ·obtain⟨l2,rk2,k2⟩:=g2;have hl2:hs2.length=ks.length:=by rw[l2,g1.1,ln]
  rw[ub] at r1;rw[Ab];refine⟨fun h R rr rs rt hj hf a b ha hb=>?_,fun C=>?_⟩
  ·have E:yk R:=⟨rr,fun {a b}=>rs a b,fun {a b c}=>rt a b c⟩;exact m2.1.2 R E hf (m1.2.2 R E hj (qP E _)) a b (ab3 hl2 k2 (by lia) ha hb)
  ·have:=xI hl2 k2 hes C (fun x hx=>m2.1.1 _ _ (m1.2.1 x hx)) m2.2 hn;lia
 by_cases c:y=p4
 ·subst c;rw[q8] at e ⊢;exact e
 ·rw[qe c] at e;have e2:=sub _ _ e;have ns2:L2 s2=none:=vg (vg n2);rw[qe c,qe (ki e2 ns2),qe (ki e nhp),qe (ki e2 n1),qe (ki e nhp)];exact e2
def nM:j4:=fun ys L Q=>∃a j b,∃ks:List (Option Kn),∃ps:List (Nat×Nat),∃es:List Nat,ys=[.ref a,.ref j,.ref b]/\L a=some (.lst (bw ks))/\L j=some (.lst (zf ps))/\L b=some (.lst (nY es))/\ks.length≤1000/\bU ks.length ps/\ps.length≤10000/\(∀p∈es,rg ks ks.length p)/\∀r,((ji ks).length=ks.length->(r=true↔bZ ks.length ks ps es/\ps.length+es.length+1=ks.length))->Q (.bl r) L
theorem aeu :∀ys L Q,nM ys L Q->x8 (dE fP (dg C)) 4 ys L Q:=by rintro ys L Q ⟨a,j,b,ks,ps,es,rfl,ha,hj,hb,hz,hps,hpl,hes,q⟩;refine⟨a,ks,rfl,ha,hz,fun p1 hp1=>qg q8 ?_⟩;have s1:qf L (qd L p1 (.lst (nY (ji ks)))):=By hp1;refine qg (s1 _ _ hj) (qg (s1 _ _ hb) ?_);show ku (decide (((zf ps).length:Int)+((nY es).length:Int)=((nY (ji ks)).length:Int) - 1)) _ _;rw[xm,xm,Aa];refine aY (fun c=>?_) (fun c=>ac s1 (q _ fun t1=>⟨(fun z=>by cases z),fun z=>absurd (by lia) c⟩));refine⟨a,j,b,ks,ps,es,rfl,s1 _ _ ha,s1 _ _ hj,s1 _ _ hb,hz,hps,hpl,hes,fun zs p2 hp2 hq=>qg q8 ?_⟩;show cV Q (.bl (decide ((zs.length:Int)=((ji ks).length:Int) - 1))) _;refine ac (s1.trans (By hp2)) (q _ fun t1=>?_);have:=hq (by lia);refine⟨fun z=>⟨this.mp (by have:=of_decide_eq_true z;lia),by lia⟩,fun z=>Al ?_⟩;have:=this.mpr z.1;omega
theorem lu{ct:List (Nat×Nat)}(h1:bU ks.length lk)(h2:bU ks.length ct)(h3:KnR ks):bU ks.length (ze ks lk ct):=by
 intro x hx;unfold ze at hx;rcases AA.mp hx with hx | hx
 ·rcases AA.mp hx with hx | hx
  ·exact h1 x hx
  ·exact h2 x hx
 ·unfold ju at hx;obtain⟨p,hp,hx⟩:=Bx.mp hx;obtain⟨hp1,k,ek,hk⟩:=bL hp;rw[ek] at hx;obtain⟨q,hq,rfl⟩:=A5.mp hx;cases k with
  |none=>cases hq
  |some k=>
   cases k with
   |lf t n=>cases hq
   |nd e i j=>
    obtain⟨a1,a2⟩:=h3 p e i j ek;have hq:q∈[i,j]:=hq;refine⟨hp1,?_⟩;rcases AC.mp hq with rfl | hq
    ·exact a1
    ·rw[Ai.mp hq];exact a2
theorem lH{ct:List (Nat×Nat)}:(ze ks lk ct).length≤lk.length+ct.length+2*ks.length:=by unfold ze;rw[Ab,Ab];have h1:=cq ks (qx false ks);have h2:(qx false ks).length≤ks.length:=fN (zk false) ks ks.length;lia
theorem iM{e:Bool}(h3:KnR ks):∀p∈qx e ks,∃i j,ks[p]?=some (some (.nd e i j))/\p<ks.length/\i<ks.length/\j<ks.length:=fun p hp=>by
 obtain⟨hp1,k,ek,hk⟩:=bL hp;cases k with
 |none=>cases hk
 |some k=>
  cases k with
  |lf t n=>cases hk
  |nd e' i j=>
   have:e'=e:=of_decide_eq_true hk;subst this;exact⟨i,j,ek,hp1,h3 p _ i j ek⟩
def ael(L:qo)(a l c:Addr)(ks:List (Option Kn))(lk ct:List (Nat×Nat)):Prop:=L a=some (.lst (bw ks))/\L l=some (.lst (zf lk))/\L c=some (.lst (zf ct))/\ks.length≤1000/\lk.length≤1000/\ct.length≤1000/\bU ks.length lk/\bU ks.length ct/\KnR ks
def i8:j4:=fun ys L Q=>∃a l c ks lk ct,ys=[fG a l c]/\ael L a l c ks lk ct/\∀r,((ji ks).length=ks.length->(r=true↔Rt ks lk ct))->Q (.bl r) L
theorem yD:∀ys L Q,i8 ys L Q->x8 (pY nM fS dz) 1 ys L Q:=by rintro ys L Q ⟨a,l,c,ks,lk,ct,rfl,⟨ha,hl,hc,z1,z2,z3,r1,r2,r3⟩,q⟩;refine⟨a,l,c,ks,lk,ct,rfl,ha,hl,hc,z1,z2,z3,fun p1 hp1=>?_⟩;have s1:qf L (qd L p1 (.lst (zf (ze ks lk ct)))):=By hp1;refine⟨a,l,c,ks,rfl,s1 _ _ ha,z1,fun p2 hp2=>?_⟩;have s2:=s1.trans (By (o:=.lst (nY (qx true ks))) hp2);have jl:=lH (ks:=ks) (lk:=lk) (ct:=ct);refine⟨a,p1,p2,ks,_,_,rfl,s2 _ _ ha,By hp2 _ _ q8,q8,z1,lu r1 r2 r3,by lia,fun p hp=>?_,fun r hr=>ac s2 (q r fun t=>(hr t).trans ⟨fun z=>⟨z.1,t,z.2⟩,fun z=>⟨z.1,z.2.2⟩⟩)⟩;obtain⟨i,j,h1,h2,h3,h4⟩:=iM r3 p hp;exact⟨true,i,j,h1,h2,h3,h4⟩
def nE:j4:=fun ys L Q=>∃a l c ks lk ct,ys=[fG a l c]/\ael L a l c ks lk ct/\(((ji ks).length=ks.length->Rt ks lk ct)->Q .non L)/\(¬Rt ks lk ct->∀p bs,L p=none->bs.length=(qx true ks).length->(∀b∈bs,b=0\/b=1)->((ji ks).length=ks.length->(ze ks lk ct).length+(qx true ks).length+1=ks.length->Fst ks (ze ks lk ct) (qx true ks) bs)->Q (.ref p) (qd L p (.lst (nY bs))))
theorem Fst.snoc{js:List (Nat×Nat)}{es bs:List Nat}{p:Nat}{e:Bool}{r:Bool}(F:Fst ks js es bs)(ep:es[bs.length]?=some p)(ek:ks[p]?=some (some (.nd e i j)))(hw:bU ks.length (js++ad ks es bs))(hes:∀q∈es,rg ks ks.length q)(cnt:js.length+es.length+1=ks.length)(hl:(js++ad ks es bs).length=js.length+bs.length)
 (hr:r=true↔bZ ks.length ks (js++ad ks es bs++[(p,i)]) (es.drop (bs.length+1))):Fst ks js es (bs++[if r then 1 else 0]):=by
 have hi:=zc ep;have ed:es.drop bs.length=p::es.drop (bs.length+1):=by rw[BG hi];rw[Ae hi] at ep;rw[AK ep]
 refine⟨?_,fun t ht=>?_⟩
 ·have e0:=ak ek (if r then 1 else 0);rw[Ab,Ap,eB ep,e0,<-AU];cases r with
  |false=>exact fun c=>by have:=hr.mpr c;cases this
  |true=>
   intro c;refine F.bad ?_;rw[ed];obtain⟨_,_,_,ek',_,l2,_⟩:=hes p (An ep);rw[ek] at ek';cases ek';refine uD ek hw (fun q hq=>hes q (CB hq)) l2 ?_ (hr.mp rfl) c;rw[hl,Ba];omega
 ·by_cases c:t<bs.length
  ·rw[AO c] at ht;rw[List.take_append_of_le_length (Bi c)];exact F.fst t ht
  ·have hb:=zc ht;rw[Ab,Ap] at hb;have et:t=bs.length:=by omega
   subst et;rw[Au (Ag _),Nat.sub_self] at ht;cases r with
   |false=>cases ht
   |true=>
    rw[List.take_left' rfl,eB ep,ak ek 0,<-AU];exact hr.mp rfl
theorem acd:∀ys L Q,nE ys L Q->x8 (oJ i8 dz fS nM) 9 ys L Q:=by
 rintro ys L Q ⟨a,l,c,ks,lk,ct,rfl,W,q0,q⟩;have W0:=W;obtain⟨ha,hl,hc,z1,z2,z3,r1,r2,r3⟩:=W;refine⟨a,l,c,ks,lk,ct,rfl,W0,fun r hr=>?_⟩;refine yZ (fun rt=>vd (q0 fun t=>(hr t).mp rt)) fun rf=>?_;have nR:¬Rt ks lk ct:=fun h=>by rw[(hr h.2.1).mpr h] at rf;cases rf
 replace q:=q nR;refine⟨a,l,c,ks,lk,ct,rfl,ha,hl,hc,z1,z2,z3,fun p1 hp1=>?_⟩;have s1:qf L (qd L p1 (.lst (zf (ze ks lk ct)))):=By hp1;refine⟨a,l,c,ks,rfl,s1 _ _ ha,z1,fun p2 hp2=>?_⟩;have s2:=s1.trans (By (o:=.lst (nY (qx true ks))) hp2);intro p3 hp3;have s3:=s2.trans (By (o:=.lst []) hp3);have n2:L p2=none:=j9 s1 hp2;have n3:L p3=none:=j9 s2 hp3;have f1:=By (o:=.lst []) hp3 _ _ (By (o:=.lst (nY (qx true ks))) hp2 _ _ (q8 (L:=L) (a:=p1) (o:=.lst (zf (ze ks lk ct)))));have f2:=By (o:=.lst []) hp3 _ _ (q8 (L:=qd L p1 (.lst (zf (ze ks lk ct)))) (a:=p2) (o:=.lst (nY (qx true ks))));have f3:(qd (qd (qd L p1 (.lst (zf (ze ks lk ct)))) p2 (.lst (nY (qx true ks)))) p3 (.lst [])) p3=some (.lst []):=q8;have n12:p1≠p2:=ki q8 hp2;have n13:p1≠p3:=ki (By (o:=.lst (nY (qx true ks))) hp2 _ _ (q8 (L:=L) (a:=p1) (o:=.lst (zf (ze ks lk ct))))) hp3;have n23:p2≠p3:=ki q8 hp3;generalize qd (qd (qd L p1 (.lst (zf (ze ks lk ct)))) p2 (.lst (nY (qx true ks)))) p3 (.lst [])=L3 at s3 f1 f2 f3;have jl:=lH (ks:=ks) (lk:=lk) (ct:=ct);have jr:=lu r1 r2 r3;have el:(qx true ks).length≤ks.length:=fN (zk true) ks ks.length;have F0:(ji ks).length=ks.length->(ze ks lk ct).length+(qx true ks).length+1=ks.length->¬bZ ks.length ks (ze ks lk ct++ad ks (qx true ks) []) ((qx true ks).drop ([]:List Nat).length):=fun t c z=>nR ⟨by rw[show ad ks (qx true ks) []=[] by unfold ad;rw[Cm],AL] at z;exact z,t,c⟩;have c0:ad ks (qx true ks) []=[]:=by unfold ad;rw[Cm]
 refine jo f2 fun keep kp=>aN ⟨fun i τ L'=>∃bs c5 c6 c7 c8,τ=[some (fG a l c),some (.ref a),some (.ref p1),some (.ref p2),some (.ref p3),c5,c6,c7,c8]/\qf L L'/\L' p1=some (.lst (zf (ze ks lk ct++ad ks (qx true ks) bs)))/\L' p2=some (.lst (nY (qx true ks)))/\L' p3=some (.lst (nY bs))/\bU ks.length (ze ks lk ct++ad ks (qx true ks) bs)/\(ze ks lk ct++ad ks (qx true ks) bs).length=(ze ks lk ct).length+i/\bs.length=i/\(∀b∈bs,b=0\/b=1)/\((ji ks).length=ks.length->(ze ks lk ct).length+(qx true ks).length+1=ks.length->Fst ks (ze ks lk ct) (qx true ks) bs),⟨[],_,_,_,_,rfl,s3,by rw[c0,AL];exact f1,f2,f3,by rw[c0,AL];exact jr,by rw[c0,AL];rfl,rfl,(fun b hb=>by cases hb),fun t c=>⟨?_,fun t h=>by cases h⟩⟩,?_,?_,?_⟩
 ·have:=F0 t c;exact this
 ·rintro i τ L' ⟨bs,c5,c6,c7,c8,rfl,s,g1,g2,g3,_⟩;exact kp L' (g2.trans f2.symm)
 ·rintro i y τ L' hy ⟨bs,c5,c6,c7,c8,rfl,s,g1,g2,g3,wr,lp,lz,b01,FF⟩;obtain⟨ps,eps⟩:∃ps,ps=ze ks lk ct++ad ks (qx true ks) bs:=⟨_,rfl⟩;have wr':=wr;have lp':=lp;rw[<-eps] at g1 wr lp;obtain⟨z,ez,rfl⟩:=aw hy;obtain⟨p,ep,rfl⟩:=bH ez;obtain⟨i',j',ek,h1,h2,h3⟩:=iM r3 p (An ep);have hi:=zc ep;have a1:bW (bw ks) (p:Int)=some (gz (some (.nd true i' j'))):=vn (by rw[Ak,ek];rfl);have hb5:=ad7;refine qg (s _ _ ha) (qq a1 ?_);intro q1 hq1;have t1:qf L' (qd L' q1 (.lst [Y.tup [.int (p:Int),.int (i':Int)]])):=By hq1;refine⟨_,_,t1 _ _ g1,q8,by rw[Aa,Ap];lia,fun q2 hq2=>?_⟩;have t2:=t1.trans (By (o:=.lst (zf ps++[Y.tup [.int (p:Int),.int (i':Int)]])) hq2);refine z0 (t2 _ _ g2) fun q3 hq3=>?_;have ec:((i:Int)+1)=((i+1:Nat):Int):=by rfl
  rw[ec,l7];have t3:=t2.trans (By (o:=.lst ((nY (qx true ks)).drop (i+1))) hq3);have e2:(qd (qd (qd L' q1 (.lst [Y.tup [.int (p:Int),.int (i':Int)]])) q2 (.lst (zf ps++[Y.tup [.int (p:Int),.int (i':Int)]]))) q3 (.lst ((nY (qx true ks)).drop (i+1)))) q2=some (.lst (zf (ps++[(p,i')]))):=by refine Eq.trans (By hq3 _ _ q8) ?_;unfold zf;rw[Az];rfl
  have e3:(qd (qd (qd L' q1 (.lst [Y.tup [.int (p:Int),.int (i':Int)]])) q2 (.lst (zf ps++[Y.tup [.int (p:Int),.int (i':Int)]]))) q3 (.lst ((nY (qx true ks)).drop (i+1)))) q3=some (.lst (nY ((qx true ks).drop (i+1)))):=by rw[q8];unfold nY;rw[C5]
  refine⟨a,q2,q3,ks,ps++[(p,i')],(qx true ks).drop (i+1),rfl,t3 _ _ (s _ _ ha),e2,e3,z1,?_,by rw[Ab,Ap];lia,?_,fun r hr2=>?_⟩
  ·intro x hx;rcases AA.mp hx with hx | hx
   ·exact wr x hx
   ·rw[Ai.mp hx];exact⟨h1,h2⟩
  ·intro x hx;obtain⟨i2,j2,w1,w2,w3,w4⟩:=iM r3 x (CB hx);exact⟨true,i2,j2,w1,w2,w3,w4⟩
  have u1:=t3 _ _ g1;have u2:=t3 _ _ g2;have u3:=t3 _ _ g3;have us:=s.trans t3;generalize qd (qd (qd L' q1 (.lst [Y.tup [.int (p:Int),.int (i':Int)]])) q2 (.lst (zf ps++[Y.tup [.int (p:Int),.int (i':Int)]]))) q3 (.lst ((nY (qx true ks)).drop (i+1)))=L4 at u1 u2 u3 us;clear e2 e3 t3 t2 t1 hq3 hq2 hq1;have hes:∀q∈qx true ks,rg ks ks.length q:=fun x hx=>by obtain⟨i2,j2,w1,w2,w3,w4⟩:=iM r3 x hx;exact⟨true,i2,j2,w1,w2,w3,w4⟩
  rw[<-lz] at ep;have last:∀b m:Nat,b=(if r then 1 else 0)->m=gy ks p b->bT (fun τ L'=>∃bs c5 c6 c7 c8,τ=[some (fG a l c),some (.ref a),some (.ref p1),some (.ref p2),some (.ref p3),c5,c6,c7,c8]/\qf L L'/\L' p1=some (.lst (zf (ze ks lk ct++ad ks (qx true ks) bs)))/\L' p2=some (.lst (nY (qx true ks)))/\L' p3=some (.lst (nY bs))/\bU ks.length (ze ks lk ct++ad ks (qx true ks) bs)/\(ze ks lk ct++ad ks (qx true ks) bs).length=(ze ks lk ct).length+(i+1)/\bs.length=i+1/\(∀b∈bs,b=0\/b=1)/\((ji ks).length=ks.length->(ze ks lk ct).length+(qx true ks).length+1=ks.length->Fst ks (ze ks lk ct) (qx true ks) bs))
   [some (fG a l c),some (.ref a),some (.ref p1),some (.ref p2),some (.ref p3),some (.int (i:Int)),some (.int (p:Int)),some (prN (p,i')),some (.int (b:Int))] (qd (qd L4 p3 (.lst (nY bs++[.int (b:Int)]))) p1 (.lst (zf ps++[prN (p,m)]))):=by
   rintro b m hb rfl;have e4:ze ks lk ct++ad ks (qx true ks) (bs++[b])=ps++[(p,gy ks p b)]:=by rw[eB ep,<-AU,<-eps]
   have hm:gy ks p b<ks.length:=by
    rw[ak ek];by_cases c:b=0
    ·rw[Av c];exact h2
    ·rw[As c];exact h3
   refine⟨_,DA _,bs++[b],_,_,_,_,rfl,(us.upd n3).upd hp1,?_,?_,?_,?_,?_,?_,?_,fun t c=>?_⟩
   ·rw[q8,e4];unfold zf;rw[Az];rfl
   ·rw[qe (AS n12),qe n23];exact u2
   ·rw[qe (AS n13),q8,dc];rfl
   ·rw[e4];intro x hx;rcases AA.mp hx with hx | hx
    ·exact wr x hx
    ·rw[Ai.mp hx];exact⟨h1,hm⟩
   ·rw[e4,Ab,Ap];lia
   ·rw[Ab,Ap];lia
   ·intro z hz;rcases AA.mp hz with hz | hz
    ·exact b01 z hz
    ·rw[Ai.mp hz,hb];cases r;exact .inl rfl;exact .inr rfl
   ·rw[hb];refine(FF t c).snoc ep ek wr' hes c (by rw[lp',lz]) ?_;rw[lz,<-eps];exact(hr2 t).trans ⟨fun z=>z.1,fun z=>⟨z,by rw[Ab,Ap,Ba];omega⟩⟩
  have u1':∀v,(qd L4 p3 (.lst (nY bs++[v]))) p1=some (.lst (zf ps)):=fun v=>(qe n13).trans u1;refine yZ (fun er=>?_) fun er=>?_
  ·refine qg u3 (z0 u3 ⟨AM (by rw[xm];lia:(nY bs).length≤1000) (by decide),?_⟩);refine qg (u1' _) (qg ((qe (ki ha n3)).trans (us _ _ ha)) (qq a1 (z0 (u1' _) ⟨AM (by rw[Aa];lia:(zf ps).length≤10000) (by decide),?_⟩)));exact last 1 j' (by rw[er];rfl) (by rw[ak ek];rfl)
  ·refine qg u3 (z0 u3 ⟨AM (by rw[xm];lia:(nY bs).length≤1000) (by decide),?_⟩);refine qg (u1' _) (qg ((qe (ki ha n3)).trans (us _ _ ha)) (qq a1 (z0 (u1' _) ⟨AM (by rw[Aa];lia:(zf ps).length≤10000) (by decide),?_⟩)));exact last 0 i' (by rw[er];rfl) (by rw[ak ek];rfl)
 ·rintro τ L' ⟨bs,c5,c6,c7,c8,rfl,s,g1,g2,g3,wr,lp,lz,b01,FF⟩;rw[aS,xm] at lz;exact ac (DP s g3) (q p3 bs n3 lz b01 FF)
def xF:k6:=(qm (z8 (gi "abcdefghijklmnopqrstuvwxyz") (qb 2))
 (qm (z8 (zg jk (jm 1) (zg aj (qa 0) (jm 8))) (qb 3))
 (qm (z8 (zg aj (zg ao (qa 0) (jm 8)) (qa 3)) (qb 4))
 (qm (z8 (yBS si (gi "") (qj (oG 1 (cP (vv (jm 8))) (qb 7) rJ (zg be (qa 2) (zg aj (zg jk (zg ao (qa 0) (jm 64)) (zg hJ (jm 3) (qa 7))) (jm 26)))) zj)) (qb 5))
 (qm (v4 (mf (zg aj (zg ao (qa 0) (jm 64)) (jm 3)) (jm 1)) (zr (vH hX (qa 5) w9 (bB (zg jk (jm 1) (zg aj (zg jk (qa 1) (qa 0)) (jm 3)))))) je)
 (qm (z8 (zg be (qa 2) (zg aj (zg jk (zg jk (zg ao (qa 0) (jm 64)) (zg hJ (jm 3) (qa 4))) (qa 1)) (jm 26))) (qb 6))
 (zr (zg jk (zg jk (vH hX (qa 5) w9 (bB (qa 4))) (qa 6)) (vH hX (qa 5) (bB (zg jk (qa 4) (jm 1))) (bB (qa 3)))))))))))
def cQ(i:Int):Nat:=97+(i % 26).toNat
theorem sJ(i:Int):bW ("abcdefghijklmnopqrstuvwxyz" : Str).cps.toList (i % 26)=some (cQ i):=by
 obtain⟨n,hn⟩:∃n:Nat,i % 26=n:=⟨(i % 26).toNat,by lia⟩;have h:n<26:=by lia
 unfold cQ;rw[hn];have key:∀n,n<26->("abcdefghijklmnopqrstuvwxyz" : Str).cps.toList[n]?=some (97+n):=by decide +kernel
 exact vn (key n h)
def a6(s:Int):List Nat:=(List.range 8).map fun k:Nat=>cQ (s / 64+3*(k:Int))
theorem jR(s:Int):(a6 s).length=8:=by unfold a6;simp
def dW(s:Int):Nat:=(s / 8 % (1+s % 8)).toNat
def szN(s:Int):Nat:=(1+s % 8).toNat
theorem ae6(s:Int):dW s<szN s/\szN s≤8/\s / 8 % (1+s % 8)=(dW s:Int)/\1+s % 8=(szN s:Int):=by
 have h0:0<1+s % 8:=by lia
 have h1:0≤s / 8 % (1+s % 8):=BD _ (by lia);have h2:s / 8 % (1+s % 8)<1+s % 8:=Br _ h0;unfold dW szN;lia
def eX(s w:Int):List Nat:=
 if s / 64 % 3=1 then(a6 s).take (1+(w+s) % 3).toNat
 else((a6 s).take (dW s)++[cQ (s / 64+3*(dW s:Int)+w)])++((a6 s).drop (dW s+1)).take (szN s - (dW s+1))
theorem tU{s:Int}{v w:Nat}(hv:v<3)(hw:w<3)(h:eX s v=eX s w):v=w:=by
 have hb:=jR s;obtain⟨p1,p2,_,_⟩:=ae6 s;unfold eX at h;split at h
 ·have:=A4 List.length h;rw[AJ,AJ] at this;omega
 ·have h1:=A4 (fun l=>l[dW s]?) h;have hl:((a6 s).take (dW s)).length=dW s:=by rw[AJ];lia
  have at_:∀(c:Nat) (r:List Nat),(((a6 s).take (dW s)++[c])++r)[dW s]?=some c:=fun c r=>by rw[AU,Au (by exact uC),hl,Nat.sub_self];rfl
  have h1:(((a6 s).take (dW s)++[cQ (s / 64+3*(dW s:Int)+v)])++_)[dW s]?=(((a6 s).take (dW s)++[cQ (s / 64+3*(dW s:Int)+w)])++_)[dW s]?:=h1;rw[at_,at_] at h1;have h2:=AK h1;unfold cQ at h2;omega
def iX:j4:=fun ys L Q=>∃s w:Int,ys=[.int s,.int w]/\Q (.str (mkS (eX s w))) L
theorem uR(h:m≤n)(h2:n≤x.length):(Txt.slice x (some (m:Int)) (some (n:Int))).cps.toList=(x.cps.toList.drop m).take (n - m):=by have e:=mC x (some (m:Int)) (some (n:Int));rw[HT.sIx_nat,HT.sIx_nat,BU h2,BU (AI h h2)] at e;exact e
theorem kZ(h:n≤x.length):(Txt.slice x none (some (n:Int))).cps.toList=x.cps.toList.take n:=by have e:=mC x none (some (n:Int));rw[HT.sIx_nat,HT.sIx_none,Dp,Nat.sub_zero,BU h] at e;exact e
theorem wQ:∀ys L Q,iX ys L Q->x8 xF 7 ys L Q:=by
 rintro ys L Q ⟨s,w,rfl,q⟩;have hsz:0<1+s % 8:=by lia
 refine⟨(by decide:(0:Int)<8),⟨by decide,by decide⟩,hsz,⟨by decide,by decide⟩,?_⟩;show lcK (wg 0 8) _ _ _ _ _ _ _ _;refine yy (m:=8) (fun i zs=>zs=((List.range i).map fun k:Nat=>Y.str ⟨#[cQ (s / 64+3*(k:Int))]⟩)) (by decide) rfl ?_ ?_
 ·rintro i _ hi rfl;have hat:=sJ (s / 64+3*(0+(i:Int)));refine⟨⟨by decide,by decide⟩,.inl ⟨by decide,by decide⟩,(by decide:(0:Int)<26),by decide +kernel,?_⟩;walk_at "w";rw[hat];refine⟨_,DA _,rfl,?_⟩;rw[Dn,Az,show(0:Int)+(i:Int)=(i:Int) by simp +arith only];rfl
 ·rintro _ rfl p hp;have e0:((List.range 8).map fun k:Nat=>Y.str ⟨#[cQ (s / 64+3*(k:Int))]⟩)=((a6 s).map fun c=>(⟨#[c]⟩:Str)).map Y.str:=by unfold a6;rw[BI,BI];rfl
  rw[e0];refine z0 q8 ⟨(a6 s).map fun c=>(⟨#[c]⟩:Str),rfl,?_,?_⟩
  ·have e1:∀cs:List Nat,((cs.map fun c=>(⟨#[c]⟩:Str)).map (·.length)).sum=cs.length:=fun cs=>by induction cs with|nil=>rfl|cons c r ih=>rw[Ay,Ay,Cd,ih,AD];show 1+r.length=_;exact CJ _ _
   rw[e1,jR];show 8+_*0≤_;rw[Nat.mul_zero];decide
  ·have hb:=yX (a6 s);have hbl:(Txt.join "" ((a6 s).map fun c=>(⟨#[c]⟩:Str))).length=8:=by rw[<-Txs.len_list,hb,jR]
   generalize Txt.join "" ((a6 s).map fun c=>(⟨#[c]⟩:Str))=base at hbl hb;obtain⟨p1,p2,hn,hk⟩:=ae6 s;refine⟨⟨by decide,by decide⟩,(by decide:(0:Int)<3),?_⟩;refine aY (fun c=>?_) fun c=>?_
   ·have e:1+(w+s) % 3=((1+(w+s) % 3).toNat:Int):=by lia
    refine⟨(by decide:(0:Int)<3),bQ (by lia),ac (By hp) ?_⟩;have es:=kZ (x:=base) (n:=(1+(w+s) % 3).toNat) (by lia);have eq:Txt.slice base none (some (1+(w+s) % 3))=mkS (eX s w):=by rw[e];refine(sj _).symm.trans ?_;rw[es,hb];unfold eX;rw[Av c]
    rw[<-eq] at q;exact q
   ·have hat:=sJ (s / 64+3*(s / 8 % (1+s % 8))+w);refine⟨⟨by decide,by decide⟩,.inl ⟨by decide,by decide⟩,(by decide:(0:Int)<26),by decide +kernel,?_⟩;walk_at "w";rw[hat];have s1:=kZ (x:=base) (n:=dW s) (by lia);have s2:=uR (x:=base) (m:=dW s+1) (n:=szN s) (by assumption) (by lia);have l1:(Txt.slice base none (some (dW s:Int))).length=dW s:=by rw[<-Txs.len_list,s1,AJ,Txs.len_list];lia
    have l2:(Txt.slice base (some ((dW s+1:Nat):Int)) (some (szN s:Int))).length≤8:=by rw[<-Txs.len_list,s2,AJ];lia
    refine⟨bQ (by lia),?_⟩;refine⟨bQ (by rw[hn,l1];show dW s+1≤1000;lia),?_⟩;refine⟨bQ (by lia),?_⟩;have e1:((dW s:Int)+1)=((dW s+1:Nat):Int):=by rfl
    have l3:(Txt.slice base none (some (dW s:Int))++(⟨#[cQ (s / 64+3*(s / 8 % (1+s % 8))+w)]⟩:Str)).length=dW s+1:=by rw[PySem.Str.length_append,l1];rfl
    refine⟨bQ ?_,ac (By hp) ?_⟩
    ·rw[hn] at l3 ⊢;rw[l3,e1,hk];lia
    ·have eq:(Txt.slice base none (some (dW s:Int))++(⟨#[cQ (s / 64+3*(dW s:Int)+w)]⟩:Str))++Txt.slice base (some ((dW s+1:Nat):Int)) (some (szN s:Int))=mkS (eX s w):=by
      refine(sj _).symm.trans ?_;have ca:∀a b:Str,(a++b).cps.toList=a.cps.toList++b.cps.toList:=fun a b=>by show(a.cps++b.cps).toList=_;simp
      rw[ca,ca,s1,s2,hb];unfold eX;rw[As c]
     rw[hn,e1,hk,eq];exact q
theorem sY(f:α->β)(l:List α)(x:α)(n:Nat):(l.map f).take n++f x::(l.map f).drop n=(l.take n++x::l.drop n).map f:=by rw[Az,Ay,Dt,C5]
theorem abk{l:List α}{x y:α}(h:y∈l.take n++x::l.drop n):y=x\/y∈l:=by
 rcases AA.mp h with h | h
 ·exact .inr (CA h)
 ·rcases AC.mp h with h | h
  ·exact .inl h
  ·exact .inr (CB h)
theorem m9(l:List α)(x:α)(n:Nat):(l.take n++x::l.drop n).length=l.length+1:=by rw[Ab,AD,AJ,Ba];omega
def aE:Nat->Nat
 |0=>1
 |n+1=>aE n*(n+1)
theorem sQ(t t':Bool)(n n':Str):Da.eq (l6 (.leaf t n)) (l6 (.leaf t' n'))=(decide (t=t')&&decide (n=n')):=by
 by_cases h:n=n'
 ·subst h;cases t<;>cases t'<;>simp[l6,Da.eq,Da.eqs,kO,kL]<;>decide +kernel
 ·cases t<;>cases t'<;>simp[l6,Da.eq,Da.eqs,kO,kL,h]<;>decide +kernel
def al(t:Bool)(x:Str):Wd->Bool
 |.leaf u y=>decide (u=t)&&decide (y=x)
 |_=>false
def zq(ls:List Wd)(t:Bool)(x:Str):Nat:=ls.countP (al t x)
def kM:Wd->Str
 |.leaf _ n=>n
 |_ => ""
def bE(ls:List Wd):Prop:=∀x,zq ls false x=zq ls true x
def aex(ls:List Wd)(n:Nat):Prop:=
 (bE ls/\∀nms:List Str,nms.Nodup->(∀w∈ls,kM w∈nms)->n=(nms.map fun x=>aE (zq ls false x)).prod)\/(¬bE ls/\n=0)
def LV(ws:List Wd):List Wd:=ws.flatMap Wd.leafL
theorem gB(a b:List Wd):LV (a++b)=LV a++LV b:=by unfold LV;rw[B7]
def oy(p0:j4):k6:=(qm (z8 (vj zj) (qb 1))
 (qm (wt (jq (qa 0)) (qb 2) (vq (gY e9 (qa 1) (qj (qz p0 (vv (qa 2))) zj))))
 (zr (qa 1))))
def iy(p0:j4):k6:=(qm (wt (jq (qa 0)) (qb 1) (v4 (oN (gY i6 (qa 0) (vv (qa 1))) (gY i6 (qa 0) (qj (qz p0 (vv (qa 1))) zj))) (zr (k8 1 1)) je))
 (zr (yC .non)))
def pW(p0:j4)(p1:j4):k6:=(qm (z8 (qz p0 (vv (qa 0))) (qb 1))
 (qm (v4 (yB (kK true (qz p1 (vv (qa 1))))) (zr (jm 0)) je)
 (qm (z8 (jm 1) (qb 2))
 (qm (z8 yx (qb 3))
 (qm (wt (jq (qa 1)) (aK 2 (zw (qb 4) (zw (qb 5) aF))) (v4 (mf (qa 4) (gi "plain")) (qm (zA (qa 3) (qa 5) (zg jk (qH (qa 3) (qa 5) (jm 0)) (jm 1)))
 (z8 (zg hJ (qa 2) (vS (qa 3) (qa 5))) (qb 2))) je))
 (zr (qa 2)))))))
theorem sr{x:Wd}(h:x∈LV ws):∃t n,x=.leaf t n:=by obtain⟨w,_,hx⟩:=Bx.mp h;exact DL hx
theorem rN(w:Wd):LV [w]=w.leafL:=by simp[LV]
theorem pG(ws:List Wd)(i:Nat):(LV (ws.take i)).length≤(LV ws).length:=by have:=gB (ws.take i) (ws.drop i);rw[A0] at this;rw[this,Ab];omega
def eZ:j4:=fun ys L Q=>∃a,∃ws:List Wd,ys=[.ref a]/\L a=some (.lst (ws.map qw))/\(∀w∈ws,w.depth≤63/\w.leaves≤63)/\(LV ws).length≤1000/\∀p,L p=none->Q (.ref p) (qd L p (.lst ((LV ws).map qw)))
theorem aap:∀ys L Q,eZ ys L Q->x8 (oy (wc 63)) 3 ys L Q:=by
 rintro ys L Q ⟨a,ws,rfl,ha,hd,hz,q⟩;intro p hp;have hap:a≠p:=ki ha hp;refine vk (ys:=ws.map qw) (z9 ((qe hap).trans ha)) (fun i τ L'=>∃c,τ=[some (.ref a),some (.ref p),c]/\L'=qd L p (.lst ((LV (ws.take i)).map qw))) ⟨_,rfl,rfl⟩ ?_ ?_ ?_
 ·rintro i τ L' ⟨c,rfl,rfl⟩;rw[qe hap,qe hap]
 ·rintro i y τ L' hy ⟨c,rfl,rfl⟩;rw[Ak] at hy;obtain⟨w,ew,rfl⟩:=Aj.mp hy;have hw:=hd w (An ew);have et:ws.take (i+1)=ws.take i++[w]:=by rw[AH,ew];rfl
  have hl:=pG ws (i+1);rw[et,gB,rN,Ab] at hl;refine qg q8 ⟨w,rfl,hw.1,hw.2,fun p2 hp2=>?_⟩;have hpp:p≠p2:=ki q8 hp2;refine z0 ((qe hpp).trans q8) (z0 q8 ⟨?_,?_⟩)
  ·rw[Aa,Aa];have hb:(1000:Nat)≤sizeLine:=by decide
   omega
  ·refine⟨qd L p (.lst ((LV (ws.take (i+1))).map qw)),?_,_,rfl,rfl⟩;rw[et,gB,rN,Az,az (AS hpp),zm];exact By ((qe (AS hpp)).trans ((qe (AS hpp)).symm.trans hp2))
 ·rintro τ L' ⟨c,rfl,rfl⟩;rw[Aa,AB];exact vd (q p hp)
theorem aay(t:Bool)(x:Str){w:Wd}(h:∃u y,w=.leaf u y):Da.eq (l6 w) (l6 (.leaf t x))=al t x w:=by obtain⟨u,y,rfl⟩:=h;exact sQ u t y x
theorem wJ(h:∀w∈ls,∃u y,w=Wd.leaf u y)(t:Bool)(x:Str):((ls.map l6).countP fun d=>Da.eq d (l6 (.leaf t x)))=zq ls t x:=by unfold zq;rw[List.countP_map];refine Bg fun w hw=>?_;rw[Function.comp,aay t x (h w hw)]
def jH(ls:List Wd)(w:Wd):Bool:=!decide (zq ls false (kM w)=zq ls true (kM w))
def oK(ls:List Wd):Option Str:=(ls.find? (jH ls)).map kM
theorem wM(ls:List Wd)(t:Bool)(x:Str):jH ls (.leaf t x)=!decide (zq ls t x=zq ls (!t) x):=by
 show(!decide (zq ls false x=zq ls true x))=_;cases t
 ·rfl
 ·show _=!decide (zq ls true x=zq ls false x);by_cases h:zq ls false x=zq ls true x
  ·rw[Al h,Al h.symm]
  ·rw[Am h,Am (AS h)]
def dm:j4:=fun ys L Q=>∃a,∃ls:List Wd,ys=[.ref a]/\L a=some (.lst (ls.map qw))/\(∀w∈ls,∃t n,w=Wd.leaf t n)/\ls.length≤1000/\(∀x,oK ls=some x->Q (.str x) L)/\(oK ls=none->Q .non L)
theorem aad:∀ys L Q,dm ys L Q->x8 (iy (aW 63)) 2 ys L Q:=by
 rintro ys L Q ⟨a,ls,rfl,ha,hlf,hz,q1,q2⟩;refine vk (ys:=ls.map qw) (z9 ha) (fun i τ L'=>∃c,τ=[some (.ref a),c]/\L'=L/\∀w∈ls.take i,jH ls w=false) ⟨_,rfl,rfl,by simp⟩ ?_ ?_ ?_
 ·rintro i τ L' ⟨c,rfl,rfl,_⟩;rfl
 ·rintro i y τ L' hy ⟨c,rfl,rfl,hno⟩;rw[Ak] at hy;obtain⟨w,ew,rfl⟩:=Aj.mp hy;obtain⟨t,x,rfl⟩:=hlf w (An ew);have pd:Paired (xo L' 1) (ls.map qw) (ls.map l6):=lc fun w hw=>by obtain⟨u,z,rfl⟩:=hlf w hw;exact Ag _
  refine qg ha (z0 ha ⟨_,l6 (.leaf t x),1,1,by decide,pd,aX (Ag 1),qg ha ⟨.leaf t x,rfl,by show 1≤63;decide,z0 ha ⟨_,l6 (.leaf (!t) x),1,1,by decide,pd,aX (Ag 1),?_⟩⟩⟩);rw[wJ hlf,wJ hlf];have ho:=wM ls t x;have et:ls.take (i+1)=ls.take i++[Wd.leaf t x]:=by rw[AH,ew];rfl
  by_cases h:zq ls t x=zq ls (!t) x
  ·refine v5 (by show(!decide (((zq ls t x:Nat):Int)=((zq ls (!t) x:Nat):Int)))=false;rw[h,Al rfl];rfl) ?_;refine⟨_,DA _,_,rfl,rfl,?_⟩;rw[et];intro w hw;rcases AA.mp hw with z | z
   ·exact hno w z
   ·rw[Ai.mp z,ho,Al h];rfl
  ·refine dX (by show(!decide (((zq ls t x:Nat):Int)=((zq ls (!t) x:Nat):Int)))=true;rw[Am (by omega)];rfl) ?_;refine vd (q1 x ?_);unfold oK;have hod:jH ls (.leaf t x)=true:=by rw[ho,Am h];rfl
   have es:ls=ls.take i++(Wd.leaf t x::ls.drop (i+1)):=by have:=(A0 i ls).symm;rw[List.drop_eq_getElem?_toList_append,ew] at this;exact this
   have:ls.find? (jH ls)=some (.leaf t x):=by generalize hp:jH ls=P at hno hod;rw[es,List.find?_append,CU.mpr (fun w hw=>by rw[hno w hw];exact Aq),Bh,hod];rfl
   rw[this];rfl
 ·rintro τ L' ⟨c,rfl,rfl,hno⟩;rw[Aa,AB] at hno;refine vd (q2 ?_);unfold oK;rw[CU.mpr (fun w hw=>by rw[hno w hw];exact Aq)];rfl
theorem wv(a:jc)(b:Y)(r:List (jc×Y))(k:jc):wb ((a,b)::r) k=if a=k then some b else wb r k:=by
 unfold wb;rw[Bh];by_cases h:a=k
 ·rw[Av h,show decide ((a,b).1=k)=true from Al h];rfl
 ·rw[As h,show decide ((a,b).1=k)=false from Am h]
theorem pS(k k':jc)(y:Y):∀kvs:List (jc×Y),wb (kvs.map fun kv=>if kv.1=k then(kv.1,y) else kv) k'=if k'=k then(wb kvs k').map (fun _=>y) else wb kvs k'
 |[]=>by rw[Ci];split<;>rfl
 |(a,b)::r=>by
  have ih:=pS k k' y r;rw[Ay,wv];by_cases h:a=k
  ·rw[Av (show(a,b).1=k from h),wv,ih];by_cases h2:k'=k
   ·rw[Av h2,Av h2,Av (h.trans h2.symm),Av (h.trans h2.symm)];rfl
   ·rw[As h2,As h2,As (fun z=>h2 (z.symm.trans h)),As (fun z=>h2 (z.symm.trans h))]
  ·rw[As (show ¬(a,b).1=k from h),wv,ih];by_cases h2:k'=k
   ·rw[Av h2,Av h2,As (fun z=>h (z.trans h2)),As (fun z=>h (z.trans h2))]
   ·rw[As h2,As h2]
theorem oO(k k':jc)(y:Y):∀kvs:List (jc×Y),wb (kvs++[(k,y)]) k'=(wb kvs k').or (if k=k' then some y else none)
 |[]=>by rw[List.nil_append,wv];have:wb [] k'=none:=rfl;rw[this];split<;>rfl
 |(a,b)::r=>by rw[Cv,wv,wv,oO k k' y r];split<;>rfl
theorem o9(k:jc):∀kvs:List (jc×Y),(kvs.any fun kv=>decide (kv.1=k))=(wb kvs k).isSome
 |[]=>rfl
 |(a,b)::r=>by
  rw[BK,wv,o9 k r];by_cases h:a=k
  ·rw[Av h,show decide ((a,b).1=k)=true from Al h];rfl
  ·rw[As h,show decide ((a,b).1=k)=false from Am h];rfl
theorem fO(kvs:List (jc×Y))(k k':jc)(y:Y):wb (kC kvs k y) k'=if k'=k then some y else wb kvs k':=by
 unfold kC;rw[o9];cases e:wb kvs k with
 |some v=>
  rw[Av (show(some v).isSome=true from rfl),pS];by_cases h:k'=k
  ·rw[Av h,Av h,h,e];rfl
  ·rw[As h,As h]
 |none=>
  rw[As (by simp),oO];by_cases h:k'=k
  ·rw[Av h,h,e,Av rfl];rfl
  ·rw[As h,As (fun z=>h z.symm)];cases wb kvs k'<;>rfl
theorem oP(kvs:List (jc×Y))(k:jc)(y:Y):(kC kvs k y).length≤kvs.length+1:=by
 unfold kC;split
 ·rw[Aa];omega
 ·rw[Ab];simp
theorem nB{f g:Str->Nat}{x:Str}{k:Nat}(hx:g x=f x*k)(ho:∀y,y≠x->g y=f y):∀nms:List Str,nms.Nodup->x∈nms->(nms.map g).prod=(nms.map f).prod*k
 |[],_,h=>by cases h
 |y::r,hn,h=>by
  obtain⟨hy,hr⟩:=A1.mp hn;rw[Ay,Ay,B3,B3];by_cases e:y=x
  ·subst e;have:r.map g=r.map f:=Bk fun z hz=>ho z fun q=>hy (q▸hz);rw[this,hx,Cw,CL k,<-Cw]
  ·have hm:x∈r:=by
    rcases AC.mp h with z | z
    ·exact absurd z.symm e
    ·exact z
   rw[nB hx ho r hr hm,ho y e,Cw]
def bz(ls:List Wd)(n:Nat):Prop:=∀nms:List Str,nms.Nodup->(∀w∈ls,kM w∈nms)->n=(nms.map fun x=>aE (zq ls false x)).prod
theorem fk{f:Str->Nat}(h:∀y,f y=1):∀nms:List Str,(nms.map f).prod=1
 |[]=>rfl
 |y::r=>by rw[Ay,B3,h,fk h r]
theorem bz.nil:bz [] 1:=fun nms _ _=>(fk (fun y=>rfl) nms).symm
theorem w5(ls:List Wd)(w:Wd)(t:Bool)(x:Str):zq (ls++[w]) t x=zq ls t x+if al t x w=true then 1 else 0:=by unfold zq;rw[AN,List.countP_singleton]
theorem bz.other(h:bz ls n):bz (ls++[.leaf true x]) n:=fun nms hn hm=>by have:=h nms hn fun w hw=>hm w (AF _ hw);rw[this];refine A4 List.prod (Bk fun y _=>?_);rw[w5,As (by simp[al]),Dj]
theorem bz.plain(h:bz ls n):bz (ls++[.leaf false x]) (n*(zq ls false x+1)):=fun nms hn hm=>by
 have:=h nms hn fun w hw=>hm w (AF _ hw);rw[this];refine(nB (x:=x) ?_ ?_ nms hn (hm (.leaf false x) (Ao _ (Ai.mpr rfl)))).symm
 ·show aE (zq (ls++[.leaf false x]) false x)=_;rw[w5,Av (by simp[al])];rfl
 ·intro y hy;show aE (zq (ls++[.leaf false x]) false y)=_;rw[w5,As (by simp[al];exact fun z=>hy z.symm)];rfl
theorem nW(hlf:∀w∈ls,∃t n,w=Wd.leaf t n)(h:oK ls=none):bE ls:=by
 intro x;unfold oK at h;have h:=CU.mp (Option.map_eq_none_iff.mp h);by_cases c:∃t,Wd.leaf t x∈ls
 ·obtain⟨t,c⟩:=c;have:=h _ c;have e:(!decide (zq ls false x=zq ls true x))=false:=by cases z:(!decide (zq ls false x=zq ls true x)) with|false=>rfl|true=>exact absurd z this
  exact of_decide_eq_true (by simpa using e)
 ·have zero:∀t,zq ls t x=0:=fun t=>by
   unfold zq;rw[B8];intro w hw;obtain⟨u,y,rfl⟩:=hlf w hw;intro z;have:decide (u=t)=true/\decide (y=x)=true:=by simpa[al] using z
   have e:y=x:=of_decide_eq_true this.2;subst e;exact c ⟨u,hw⟩
  rw[zero,zero]
theorem g9(h:oK ls=some x):¬bE ls:=by unfold oK at h;obtain⟨w,hw,_⟩:=Aj.mp h;have:=List.find?_some hw;intro e;have e2:=e (kM w);unfold jH at this;rw[Al e2] at this;cases this
def uO(n:Nat):Option Y:=if n=0 then none else some (.int (n:Int))
def ft(p0:j4)(p1:j4):k6:=(qm (z8 (oG 2 (bN (qa 0)) (aK 2 (zw (qb 8) (zw (qb 9) aF))) (mf (qa 9) (qz p0 (qj (zg be (qa 0) (qa 2)) zj))) (qa 8)) (qb 3))
 (qm (z8 (vj zj) (qb 4))
 (qm (wt (jq (qa 1)) (qb 5) (qm (z8 (qz p1 (vv (qa 5))) (qb 6))
 (wt (jq (qa 3)) (qb 7) (v4 (yB (zg (vC true) (qa 7) (qa 6))) (vq (gY xa (qa 4) (qj (zg jk (qa 5) (vj (qj (da (qj (lZ af3 (dh (qa 2) (qa 7))) (qj (lZ ag2 (dh (qa 2) (qa 7))) zj))) zj))) zj))) je))))
 (zr (qa 4)))))
def ig(p0:j4):k6:=(qm (z8 (vj (vv (vj zj))) (qb 1))
 (qm (wt (bN (qa 0)) (aK 2 (zw (qb 2) (zw (qb 3) aF))) (v4 (mf (k8 3 0) (gi "plain")) (z8 (qz p0 (qj (qa 0) (dh (qa 1) (qa 2)))) (qb 1)) je))
 (zr (oG 1 (jq (qa 1)) (qb 4) rJ (lZ nO (vv (qa 4)))))))
def eG(p0:j4)(p1:j4):k6:=(qm (z8 (vj zj) (qb 1))
 (qm (wt (jq (qz p0 (vv (qa 0)))) (qb 2) (qm (z8 (da (qj (qa 0) (dh (qa 2) (vj zj)))) (qb 3))
 (qm (z8 (qz p1 (vv (qa 3))) (qb 4))
 (qm (v4 (yB (kK false (qa 4))) (zr (uP (gi "web") (qa 3))) je)
 (vq (gY xa (qa 1) (qj (uP (qa 2) (qa 4)) zj)))))))
 (zr (uP (gi "tries") (qa 1)))))
def jy(lk:List (Nat×Nat)):List Nat:=lk.flatMap fun x=>[x.1,x.2]
theorem cD(a b:List (Nat×Nat)):jy (a++b)=jy a++jy b:=by unfold jy;rw[B7]
theorem cG(x:Nat×Nat):jy [x]=[x.1,x.2]:=by simp[jy]
theorem eJ(lk:List (Nat×Nat)):(jy lk).length=2*lk.length:=by
 induction lk with
 |nil=>rfl
 |cons x r ih=>
  have:=cD [x] r;rw[Cq] at this;rw[this,Ab,ih,cG,AD];simp;exact CJ _ _
def mR:j4:=fun ys L Q=>∃a,∃lk:List (Nat×Nat),ys=[.ref a]/\L a=some (.lst (zf lk))/\lk.length≤1000/\∀p,L p=none->Q (.ref p) (qd L p (.lst (nY (jy lk))))
theorem abm:∀ys L Q,mR ys L Q->x8 pV 4 ys L Q:=by
 rintro ys L Q ⟨a,lk,rfl,ha,hz,q⟩;intro p hp;have hap:a≠p:=ki ha hp;refine vk (ys:=zf lk) (z9 ((qe hap).trans ha)) (fun i τ L'=>∃c2 c3,τ=[some (.ref a),some (.ref p),c2,c3]/\L'=qd L p (.lst (nY (jy (lk.take i))))) ⟨_,_,rfl,rfl⟩ ?_ ?_ ?_
 ·rintro i τ L' ⟨c2,c3,rfl,rfl⟩;rw[qe hap,qe hap]
 ·rintro i y τ L' hy ⟨c2,c3,rfl,rfl⟩;rw[Ak] at hy;obtain⟨x,ex,rfl⟩:=Aj.mp hy;have et:lk.take (i+1)=lk.take i++[x]:=by rw[AH,ex];rfl
  have hl:(nY (jy (lk.take i))).length≤2000:=by rw[xm,eJ,AJ];lia
  refine qg q8 (z0 q8 ⟨AM hl (by decide),?_⟩);refine qg q8 (z0 q8 ⟨AM (by rw[Ab,Ap];exact pe:_≤2001) (by decide),_,DA _,_,_,rfl,?_⟩);rw[zm,zm,et,cD,cG,dc,AU];rfl
 ·rintro τ L' ⟨c2,c3,rfl,rfl⟩;rw[Aa,AB];exact vd (q p hp)
def cB:Kn->Da
 |.lf t n=>.tup [.s (.str (kL t)),.s (.str n)]
 |.nd e i j=>.tup [.s (.str (kN e)),.s (.int ((i:Nat):Int)),.s (.int ((j:Nat):Int))]
theorem jI(k:Kn):xo L 1 (hG k) (cB k):=by cases k with|lf t n=>exact iY (.cons ⟨rfl,rfl⟩ (.cons ⟨rfl,rfl⟩ .nil))|nd e i j=>exact iY (.cons ⟨rfl,rfl⟩ (.cons ⟨rfl,rfl⟩ (.cons ⟨rfl,rfl⟩ .nil)))
def kc(x:Str):Option Kn->Bool
 |some (.lf t n)=>t&&decide (n=x)
 |_=>false
theorem abi(x:Str)(k:Kn):Da.eq (cB k) (l6 (.leaf true x))=kc x (some k):=by
 cases k with
 |lf t n=>
  have h:=sQ t true n x;have e:cB (.lf t n)=l6 (.leaf t n):=rfl;rw[e,h];cases t<;>rfl
 |nd e i j=>cases e<;>rfl
def jw(ks:List (Option Kn))(p:Nat):Prop:=∃x,ks[p]?=some (some (.lf false x))
def vf:Option Kn->Bool
 |some (.lf _ _)=>true
 |_=>false
def zG(ks:List (Option Kn))(i:Nat):Nat:=(ks.take i).countP vf
theorem wZ(h:i≤j):zG ks i≤zG ks j:=by
 have e:ks.take i=(ks.take j).take i:=by rw[List.take_take,BU h]
 unfold zG;rw[e];exact(BZ i _).countP_le
theorem wS(hp:jw ks i):zG ks (i+1)=zG ks i+1:=by obtain⟨x,e⟩:=hp;unfold zG;rw[AH,e,AN];rfl
theorem vN{f:Option Kn->Bool}{p:Nat}{k:Option Kn}(h:ks[p]?=some k)(hf:f k=true)(hi:p<i):p∈vt f ks i:=by unfold vt;refine Bm.mpr ⟨A9.mpr hi,?_⟩;simp only[h];exact hf
def zL:Option Kn->Bool
 |some (.lf false _)=>true
 |_=>false
def ab9(ks:List (Option Kn))(i:Nat):Nat:=(ks.take i).countP zL
def alw(ks:List (Option Kn))(i:Nat)(lk:List (Nat×Nat)):Prop:=(jy lk).Nodup/\(∀p∈jy lk,∃k,ks[p]?=some k/\vf k=true)/\lk.length=ab9 ks i/\∀y∈lk,jw ks y.1\/jw ks y.2
def Lk1(ks:List (Option Kn))(y:Nat×Nat):Prop:=y.1<y.2/\∃t n,ks[y.1]?=some (some (.lf t n))/\ks[y.2]?=some (some (.lf (!t) n))
def kJ(ks:List (Option Kn))(i:Nat)(lk:List (Nat×Nat)):Prop:=lk.Nodup/\(lk.length≤i/\lk.length≤zG ks i/\alw ks i lk)/\∀y∈lk,y.1<ks.length/\y.2<ks.length/\(jw ks y.1->y.1<i)/\(jw ks y.2->y.2<i)/\Lk1 ks y
theorem kJ.up(h:kJ ks i lk)(hn:¬jw ks i):kJ ks (i+1) lk:=by
 obtain⟨h1,⟨h2,h3,h4,h5,h6,h7⟩,h8⟩:=h;refine⟨h1,⟨by exact yW,AI h3 (wZ (B1 i)),h4,h5,?_,h7⟩,fun y hy=>by obtain⟨a,b,c,d,f⟩:=h8 y hy;exact⟨a,b,fun z=>B0 (c z),fun z=>B0 (d z),f⟩⟩;rw[h6];unfold ab9;rw[AH,AN];cases e:ks[i]? with
 |none=>rfl
 |some k=>
  cases k with
  |none=>rfl
  |some k=>
   cases k with|nd e i j=>rfl|lf t x=>cases t with|true=>rfl|false=>exact absurd ⟨x,e⟩ hn
theorem kJ.more(h:kJ ks i lk)(hx:ks[i]?=some (some (.lf false x)))(hm:ks[m]?=some (some (.lf true x)))(hu:m∉jy lk):kJ ks (i+1) (lk++[(min i m,max i m)]):=by
 have hp:jw ks i:=⟨x,hx⟩;obtain⟨h1,⟨h2,h3,h4,h5,h6,h7⟩,h8⟩:=h;have hi:i<ks.length:=by obtain⟨x,e⟩:=hp;exact zc e
 have hml:=zc hm;have nm:¬jw ks m:=fun⟨y,e⟩=>by rw[hm] at e;cases e
 have one:min i m=i/\max i m=m\/min i m=m/\max i m=i:=by lia
 have ni:i∉jy lk:=fun z=>by
  unfold jy at z;obtain⟨y,hy,hq⟩:=Bx.mp z;obtain⟨_,_,c,d,_⟩:=h8 y hy;rcases AC.mp hq with e | e
  ·have:=c (e▸hp);lia
  ·have e:=Ai.mp e;have:=d (e▸hp);lia
 have nim:i≠m:=fun z=>nm (z▸hp);have ep:jy (lk++[(min i m,max i m)])=jy lk++[min i m,max i m]:=by rw[cD,cG]
 have ex:(jy (lk++[(min i m,max i m)])).Nodup:=by
  rw[ep];refine List.nodup_append.mpr ⟨h4,?_,fun a ha b hb=>?_⟩
  ·rcases one with⟨e1,e2⟩ | ⟨e1,e2⟩<;>rw[e1,e2]
   ·exact A1.mpr ⟨by simp[nim],by simp⟩
   ·exact A1.mpr ⟨by simp[AS nim],by simp⟩
  ·rintro rfl;rcases one with⟨e1,e2⟩ | ⟨e1,e2⟩<;>rw[e1,e2] at hb
   ·rcases AC.mp hb with rfl | hb
    ·exact ni ha
    ·rw[Ai.mp hb] at ha;exact hu ha
   ·rcases AC.mp hb with rfl | hb
    ·exact hu ha
    ·rw[Ai.mp hb] at ha;exact ni ha
 refine⟨?_,⟨by rw[Ab,Ap];exact pe,by rw[Ab,Ap,wS hp];exact pe,ex,?_,?_,?_⟩,fun y hy=>?_⟩
 ·refine List.nodup_append.mpr ⟨h1,A1.mpr ⟨by simp,CT⟩,fun a ha b hb=>?_⟩;rw[Ai.mp hb];rintro rfl;refine ni ?_;unfold jy;refine Bx.mpr ⟨_,ha,?_⟩;rcases one with⟨e1,e2⟩ | ⟨e1,e2⟩<;>simp[e1,e2]
 ·rw[ep];intro p hp2;rcases AA.mp hp2 with hp2 | hp2
  ·exact h5 p hp2
  ·have:p=i\/p=m:=by
    have:p=min i m\/p=max i m:=by simpa using hp2
    lia
   rcases this with rfl | rfl
   ·obtain⟨z,e⟩:=hp;exact⟨_,e,rfl⟩
   ·exact⟨_,hm,rfl⟩
 ·rw[Ab,Ap,h6];unfold ab9;obtain⟨z,e⟩:=hp;rw[AH,e,AN];rfl
 ·intro y hy;rcases AA.mp hy with hy | hy
  ·exact h7 y hy
  ·rw[Ai.mp hy];rcases one with⟨e1,e2⟩ | ⟨e1,e2⟩
   ·exact .inl (by show jw ks (min i m);rw[e1];exact hp)
   ·exact .inr (by show jw ks (max i m);rw[e2];exact hp)
 ·rcases AA.mp hy with hy | hy
  ·obtain⟨a,b,c,d,f⟩:=h8 y hy;exact⟨a,b,fun z=>B0 (c z),fun z=>B0 (d z),f⟩
  ·rw[Ai.mp hy];refine⟨by show min i m<_;lia,by show max i m<_;omega,fun z=>?_,fun z=>?_,?_⟩
   rotate_right
   ·unfold Lk1;rcases one with⟨e1,e2⟩ | ⟨e1,e2⟩<;>simp only[e1,e2]
    ·exact⟨by lia,false,x,hx,hm⟩
    ·exact⟨by lia,true,x,hm,hx⟩
   ·show min i m<i+1;lia
   ·show max i m<i+1;have z:jw ks (max i m):=z;by_cases c:m≤i
    ·omega
    ·have e:max i m=m:=by lia
     rw[e] at z;exact absurd z nm
def jE(L:qo)(w:Addr)(ks:List (Option Kn))(i:Nat)(lks:List (List (Nat×Nat))):Prop:=∃as:List Addr,L w=some (.lst (as.map Y.ref))/\Paired (fun b lk=>L b=some (.lst (zf lk))/\b≠w/\kJ ks i lk) as lks
theorem aU{α β:Type}{R:α->β->Prop}:∀{xs:List α} {ys:List β} {i:Nat} {x:α},Paired R xs ys->xs[i]?=some x->∃y,ys[i]?=some y/\R x y
 |_,_,0,_,.cons r _,e=>by cases e;exact⟨_,rfl,r⟩
 |_,_,i+1,_,.cons _ t,e=>aU (i:=i) t e
theorem kj{α β:Type}{R:α->β->Prop}:∀{xs:List α} {ys:List β} {x:α} {y:β},Paired R xs ys->R x y->Paired R (xs++[x]) (ys++[y])
 |_,_,_,_,.nil,r=>.cons r .nil
 |_,_,_,_,.cons a t,r=>.cons a (kj t r)
theorem xn{α β:Type}{R S:α->β->Prop}(h:∀a b,R a b->S a b):∀{xs:List α} {ys:List β},Paired R xs ys->Paired S xs ys
 |_,_,.nil=>.nil
 |_,_,.cons a t=>.cons (h _ _ a) (xn h t)
def ic(mts:List Nat)(i:Nat)(lk:List (Nat×Nat)):List (List (Nat×Nat)):=(mts.filter fun m=>!decide (m∈jy lk)).map fun m=>lk++[(min i m,max i m)]
theorem pf(mts:List Nat)(i m:Nat)(lk:List (Nat×Nat)):ic (mts++[m]) i lk=ic mts i lk++if m∈jy lk then [] else [lk++[(min i m,max i m)]]:=by
 unfold ic;rw[BS,Az];by_cases c:m∈jy lk
 ·rw[Av c,List.filter_cons_of_neg (by simp[c])];rfl
 ·rw[As c,List.filter_cons_of_pos (by simp[c])];rfl
def x6(ks:List (Option Kn))(x:Str):Nat:=(vt (kc x) ks ks.length).length
def dS:j4:=fun ys L Q=>∃a w,∃ks:List (Option Kn),∃i:Nat,∃ii:Int,∃x:Str,∃lks,ys=[.ref a,.ref w,.int ii]/\ii=(i:Int)/\L a=some (.lst (bw ks))/\jE L w ks i lks/\(∀k∈ks,k≠none)/\ks.length≤1000/\ks[i]?=some (some (.lf false x))/\lks.length*x6 ks x≤100000/\
 ∀L' w' lks',qf L L'->L w'=none->jE L' w' ks (i+1) lks'->lks'.length≤lks.length*x6 ks x->lks'=lks.flatMap (ic (vt (kc x) ks ks.length) i)->Q (.ref w') L'
theorem adg(m:Nat)(l:List Nat):ux (gR (.int (m:Int))) ((nY l).map gR)=decide (m∈l):=by
 induction l with
 |nil=>rfl
 |cons n r ih=>
  have e:ux (gR (.int (m:Int))) ((nY (n::r)).map gR)=(kO (gR (.int (n:Int))) (gR (.int (m:Int)))||ux (gR (.int (m:Int))) ((nY r).map gR)):=rfl;rw[e,ih];have e2:kO (gR (.int (n:Int))) (gR (.int (m:Int)))=decide (n=m):=cf n m;rw[e2];by_cases c:n=m
  ·subst c;simp
  ·by_cases d:m∈r
   ·simp[d]
   ·simp[c,d,AS c]
theorem ack(l:List Nat):(nY l).all ga=true:=by rw[B5];intro y hy;obtain⟨n,_,rfl⟩:=A5.mp hy;rfl
theorem eM(h:m∈vt (kc x) ks ks.length):ks[m]?=some (some (.lf true x)):=by
 obtain⟨_,k,ek,hk⟩:=bL h;cases k with
 |none=>cases hk
 |some k=>
  cases k with
  |nd e i j=>cases hk
  |lf t n=>
   have hk:(t&&decide (n=x))=true:=hk;rw[AV] at hk;obtain⟨h1,h2⟩:=hk;have h2:=of_decide_eq_true h2;subst h1 h2;exact ek
theorem qW:∀ys L Q,dS ys L Q->x8 (ft (aW 63) mR) 8 ys L Q:=by
 rintro ys L Q ⟨a,w,ks,i,ii,x,lks,rfl,rfl,ha,⟨as,hw,pa⟩,hno,hz,ek,hbd,q⟩;have a1:bW (bw ks) (i:Int)=some (gz (some (.lf false x))):=vn (by rw[Ak,ek];rfl);have hi:=zc ek;refine jo ha fun keep kp=>io (f:=kc x) hz (kp L rfl) (fun m k R zs em h1 h2=>?_) fun mt hmt=>?_
 ·cases k with
  |none=>exact absurd rfl (hno none (An em))
  |some k=>
   have hd:∀k:Kn,(kc x (some k)=true->R (zs++[.int (m:Int)]) L)->(kc x (some k)=false->R zs L)->ku (Da.eq (cB k) (l6 (.leaf true x))) (R (zs++[.int (m:Int)]) L) (R zs L):=fun k h1 h2=>by rw[abi];cases hb:kc x (some k) with|true=>exact h1 hb|false=>exact h2 hb
   cases k with|lf t n=>exact qg ha (qq a1 ⟨.leaf false x,rfl,by show 1≤63;decide,rfl,rfl,1,1,cB (.lf t n),l6 (.leaf true x),by decide,jI (.lf t n),aX (Ag 1),hd _ h1 h2⟩)|nd e i' j'=>exact qg ha (qq a1 ⟨.leaf false x,rfl,by show 1≤63;decide,rfl,rfl,1,1,cB (.nd e i' j'),l6 (.leaf true x),by decide,jI (.nd e i' j'),aX (Ag 1),hd _ h1 h2⟩)
 obtain⟨mts,emts⟩:∃mts,mts=vt (kc x) ks ks.length:=⟨_,rfl⟩;have hM:x6 ks x=mts.length:=by rw[emts];rfl
 rw[<-emts];intro lg hlg;have s2:qf L (qd (qd L mt (.lst (nY mts))) lg (.lst [])):=(By hmt).trans (By hlg);have nlg:L lg=none:=vg hlg;have nml:mt≠lg:=ki q8 hlg;have g0:(qd (qd L mt (.lst (nY mts))) lg (.lst [])) mt=some (.lst (nY mts)):=(qe nml).trans q8;have g1:(qd (qd L mt (.lst (nY mts))) lg (.lst [])) lg=some (.lst []):=q8;generalize qd (qd L mt (.lst (nY mts))) lg (.lst [])=L2 at s2 g0 g1;have la:as.length=lks.length:=kf pa;refine vk (ys:=as.map Y.ref) (z9 (s2 _ _ hw)) (fun k τ L'=>∃as' lks' c5 c6 c7,τ=[some (.ref a),some (.ref w),some (.int (i:Int)),some (.ref mt),some (.ref lg),c5,c6,c7]/\qf L L'/\L' mt=some (.lst (nY mts))/\L' lg=some (.lst (as'.map Y.ref))/\Paired (fun b lk=>L' b=some (.lst (zf lk))/\b≠lg/\kJ ks (i+1) lk) as' lks'/\lks'.length≤k*mts.length/\lks'=(lks.take k).flatMap (ic mts i)) ⟨[],[],_,_,_,rfl,s2,g0,g1,.nil,Bb _,rfl⟩ ?_ ?_ ?_
 ·rintro k τ L' ⟨as',lks',c5,c6,c7,rfl,s,_⟩;rw[s _ _ hw,s2 _ _ hw]
 ·rintro k y τ L' hy ⟨as',lks',c5,c6,c7,rfl,s,m1,l1,p1,n1,cp⟩;rw[Ak] at hy;obtain⟨b,eb,rfl⟩:=Aj.mp hy;have hk:=zc eb;obtain⟨lk,elk,hb,hbw,wy⟩:=aU pa eb;have hlk:=wy.2.1.1;have hkl:(k+1)*mts.length≤lks.length*mts.length:=Nat.mul_le_mul_right _ (by lia);rw[Nat.add_mul,Dq] at hkl;rw[hM] at hbd;refine⟨b,lk,rfl,s _ _ hb,by lia,fun us hus=>?_⟩;have t1:qf L' (qd L' us (.lst (nY (jy lk)))):=By hus;refine vk (ys:=nY mts) (z9 (t1 _ _ m1)) (fun j τ L''=>∃as' lks' c7,τ=[some (.ref a),some (.ref w),some (.int (i:Int)),some (.ref mt),some (.ref lg),some (.ref b),some (.ref us),c7]/\qf L L''/\L'' mt=some (.lst (nY mts))/\L'' us=some (.lst (nY (jy lk)))/\L'' lg=some (.lst (as'.map Y.ref))/\Paired (fun b lk=>L'' b=some (.lst (zf lk))/\b≠lg/\kJ ks (i+1) lk) as' lks'/\lks'.length≤k*mts.length+j/\us≠lg/\lks'=(lks.take k).flatMap (ic mts i)++ic (mts.take j) i lk) ⟨as',lks',_,rfl,s.trans t1,t1 _ _ m1,q8,t1 _ _ l1,xn (fun c d ⟨h1,h2⟩=>⟨t1 _ _ h1,h2⟩) p1,by omega,AS (ki l1 hus),by rw[cp];exact(AL _).symm⟩ ?_ ?_ ?_
  ·rintro j τ L'' ⟨as',lks',c7,rfl,s',m2,_⟩;rw[m2,t1 _ _ m1]
  ·rintro j y τ L'' hy2 ⟨as2,lks2,c7,rfl,s',m2,u2,l2,p2,n2,nul,cp⟩;obtain⟨m,em,rfl⟩:=bH hy2;have hj:=zc em;have etj:mts.take (j+1)=mts.take j++[m]:=by rw[AH,em];rfl
   have mm:=eM (x:=x) (ks:=ks) (m:=m) (by rw[<-emts];exact An em);refine qg u2 ⟨rfl,ack _,?_⟩;rw[adg];by_cases c:m∈jy lk
   ·exact v5 (by rw[Al c];rfl) ⟨_,DA _,as2,lks2,_,rfl,s',m2,u2,l2,p2,by exact yW,nul,by rw[etj,pf,Av c,AL];exact cp⟩
   ·refine dX (by rw[Am c];rfl) ?_;have l2n:(as2.map Y.ref).length≤100000:=by rw[Aa,kf p2];lia
    refine qg l2 fun q1 hq1=>?_;have e1:(Y.tup [.int (min (i:Int) (m:Int)),.int (max (i:Int) (m:Int))])=prN (min i m,max i m):=by have e2:min (i:Int) (m:Int)=((min i m:Nat):Int):=amm i m;have e3:max (i:Int) (m:Int)=((max i m:Nat):Int):=anq i m;unfold prN;rw[<-e2,<-e3]
    have v1:=By (o:=.lst [Y.tup [.int (min (i:Int) (m:Int)),.int (max (i:Int) (m:Int))]]) hq1;refine⟨_,_,v1 _ _ (s' _ _ hb),q8,by rw[Aa,Ap];have:=ad7;lia,fun q2 hq2=>?_⟩;have v2:=v1.trans (By (o:=.lst (zf lk++[Y.tup [.int (min (i:Int) (m:Int)),.int (max (i:Int) (m:Int))]])) hq2);have nql:q2≠lg:=AS (ki (v1 _ _ l2) hq2);refine z0 (v2 _ _ l2) ⟨AM l2n (by decide),_,DA _,as2++[q2],lks2++[lk++[(min i m,max i m)]],_,rfl,(s'.trans v2).upd nlg,?_,?_,?_,?_,?_,nul,by rw[etj,pf,As c,cp,AU]⟩
    ·rw[qe (fun z=>nml z)];exact v2 _ _ m2
    ·rw[qe nul];exact v2 _ _ u2
    ·rw[q8,Az];rfl
    ·refine kj (xn (fun c d ⟨h1,h2,h3⟩=>⟨(qe h2).trans (v2 _ _ h1),h2,h3⟩) p2) ⟨?_,nql,wy.more ek mm c⟩;rw[qe nql,q8,e1];unfold zf;rw[Az];rfl
    ·rw[Ab,Ap];exact pe
  ·rintro τ L'' ⟨as2,lks2,c7,rfl,s',m2,u2,l2,p2,n2,nul,cp⟩;rw[xm] at n2 cp;rw[AB] at cp;refine⟨_,DA _,as2,lks2,_,_,_,rfl,s',m2,l2,p2,?_,by rw[AH,elk,B7];exact cp.trans (by simp)⟩;rw[Nat.add_mul,Dq];exact n2
 ·rintro τ L' ⟨as',lks',c5,c6,c7,rfl,s,m1,l1,p1,n1,cp⟩;rw[Aa,la] at n1 cp;rw[AB] at cp;rw[hM] at q;exact vd (q L' lg lks' s nlg ⟨as',l1,p1⟩ n1 (by rw[<-emts];exact cp))
def rC(ks:List (Option Kn)):Option Kn->Nat
 |some (.lf false x)=>x6 ks x
 |_=>1
def bnd(ks:List (Option Kn))(i:Nat):Nat:=((ks.take i).map (rC ks)).prod
theorem wF{k:Option Kn}(h:ks[i]?=some k):bnd ks (i+1)=bnd ks i*rC ks k:=by unfold bnd;rw[AH,h,Az,List.prod_append];simp
theorem kJ.perm{lk':List (Nat×Nat)}(h:kJ ks i lk)(p:lk'.Perm lk):kJ ks i lk':=by obtain⟨h1,⟨h2,h3,h4,h5,h6,h7⟩,h8⟩:=h;have pp:(jy lk').Perm (jy lk):=p.flatMap_right _;exact⟨p.nodup_iff.mpr h1,⟨by rw[p.length_eq];exact h2,by rw[p.length_eq];exact h3,pp.nodup_iff.mpr h4,fun x hx=>h5 x (pp.mem_iff.mp hx),by rw[p.length_eq];exact h6,fun y hy=>h7 y (p.mem_iff.mp hy)⟩,fun y hy=>h8 y (p.mem_iff.mp hy)⟩
def yT(p:Nat×Nat):Int×Int:=((p.1:Int),(p.2:Int))
theorem ml(lk:List (Nat×Nat)):zf lk=(lk.map yT).map prY:=by unfold zf;rw[BI];rfl
def ir(a b:Nat×Nat):Prop:=a.1<b.1\/(a.1=b.1/\a.2≤b.2)
def aj5(L0 L:qo)(w:Addr)(ks:List (Option Kn))(lks:List (List (Nat×Nat))):Prop:=∃as:List Addr,L w=some (.lst (as.map Y.ref))/\Paired (fun b lk=>L b=some (.lst (zf lk))/\L0 b=none/\kJ ks ks.length lk/\lk.Pairwise ir) as lks
def ax(ks:List (Option Kn)):Nat->List (List (Nat×Nat))
 |0=>[[]]
 |i+1=>match ks[i]? with
  |some (some (.lf false x))=>(ax ks i).flatMap (ic (vt (kc x) ks ks.length) i)
  |_=>ax ks i
theorem cu(h:ks[i]?=some (some (.lf false x))):ax ks (i+1)=(ax ks i).flatMap (ic (vt (kc x) ks ks.length) i):=by rw[ax,h]
theorem fJ(h:¬jw ks i):ax ks (i+1)=ax ks i:=by
 rw[ax];split
 ·rename_i x e;exact absurd ⟨x,e⟩ h
 ·rfl
def nS:j4:=fun ys L Q=>∃a,∃ks:List (Option Kn),ys=[.ref a]/\L a=some (.lst (bw ks))/\(∀k∈ks,k≠none)/\ks.length≤1000/\((∀i≤ks.length,bnd ks i≤100000)/\zG ks ks.length≤63)/\∀L' w' lks,qf L L'->L w'=none->aj5 L L' w' ks lks->lks.length≤bnd ks ks.length->Paired List.Perm lks (ax ks ks.length)->Q (.ref w') L'
theorem ac3:∀ys L Q,nS ys L Q->x8 (ig dS) 4 ys L Q:=by
 rintro ys L Q ⟨a,ks,rfl,ha,hno,hz,⟨hB,h63⟩,q⟩;intro e he w0 hw0;have s0:qf L (qd (qd L e (.lst [])) w0 (.lst [.ref e])):=(By he).trans (By hw0);have new0:e≠w0:=ki q8 hw0;have W0:jE (qd (qd L e (.lst [])) w0 (.lst [.ref e])) w0 ks 0 [[]]:=⟨[e],q8,.cons ⟨(qe new0).trans q8,new0,CT,⟨Ag _,Ag _,CT,(fun y hy=>by cases hy),rfl,fun y hy=>by cases hy⟩,fun y hy=>by cases hy⟩ .nil⟩;have nw0:L w0=none:=vg hw0;refine jo (s0 _ _ ha) fun keep kp=>aN ⟨fun i τ L'=>∃w' lks c2 c3,τ=[some (Y.ref a),some (Y.ref w'),c2,c3]/\qf L L'/\L w'=none/\jE L' w' ks i lks/\lks.length≤bnd ks i/\lks=ax ks i,⟨w0,[[]],_,_,rfl,s0,nw0,W0,(by unfold bnd;simp),rfl⟩,?_,?_,?_⟩
 ·rintro i τ L' ⟨w',lks,c2,c3,rfl,s,_⟩;exact kp L' (by rw[s _ _ ha,s0 _ _ ha])
 ·rintro i y τ L' hy ⟨w',lks,c2,c3,rfl,s,nw,wa,hl,mk⟩;obtain⟨z,ez,rfl⟩:=aw hy;rw[Ak] at ez;obtain⟨k,ek,rfl⟩:=Aj.mp ez;have hi:=zc ek;have bs:=wF ek;have up:¬jw ks i->∀{as:List Addr} {lks:List (List (Nat×Nat))} {L':qo} {w':Addr},Paired (fun b lk=>L' b=some (.lst (zf lk))/\b≠w'/\kJ ks i lk) as lks->Paired (fun b lk=>L' b=some (.lst (zf lk))/\b≠w'/\kJ ks (i+1) lk) as lks:=fun np=>fun p=>xn (fun _ _ ⟨h1,h2,h3⟩=>⟨h1,h2,h3.up np⟩) p;have stay:rC ks k=1->¬jw ks i->∀c2 c3,bT (fun(τ:jb) (L':qo)=>∃w' lks c2 c3,τ=[some (Y.ref a),some (Y.ref w'),c2,c3]/\qf L L'/\L w'=none/\jE L' w' ks (i+1) lks/\lks.length≤bnd ks (i+1)/\lks=ax ks (i+1)) [some (Y.ref a),some (Y.ref w'),c2,c3] L':=fun h1 np c2 c3=>by obtain⟨as,hw,pa⟩:=wa;exact⟨_,DA _,w',lks,c2,c3,rfl,s,nw,⟨as,hw,up np pa⟩,(by rw[bs,h1,Nat.mul_one];exact hl),by rw[fJ np];exact mk⟩
  cases k with
  |none=>exact absurd rfl (hno none (An ek))
  |some k=>
   cases k with
   |nd e' i' j'=>
    cases e' with|true=>exact stay rfl (fun⟨_,e⟩=>by rw[ek] at e;cases e) _ _|false=>exact stay rfl (fun⟨_,e⟩=>by rw[ek] at e;cases e) _ _
   |lf t x=>
    cases t with
    |true=>exact stay rfl (fun⟨_,e⟩=>by rw[ek] at e;cases e) _ _
    |false=>
     have hb1:=hB (i+1) (by assumption);have fe:rC ks (some (.lf false x))=x6 ks x:=rfl;rw[fe] at bs;have lb:lks.length*x6 ks x≤bnd ks (i+1):=by rw[bs];exact Nat.mul_le_mul_right _ hl
     refine⟨a,w',ks,i,_,x,lks,rfl,rfl,s _ _ ha,wa,hno,hz,ek,by exact abc,fun L3 w3 lks3 s3 n3 wa3 hl3 cp=>?_⟩;exact⟨_,DA _,w3,lks3,_,_,rfl,s.trans s3,j9 s n3,wa3,(by exact abc),by rw[cu ek,<-mk];exact cp⟩
 ·rintro τ L' ⟨w',lks,c2,c3,rfl,s,nw,⟨as,hw,pa⟩,hl,mk⟩;rw[aS,Aa] at pa hl mk;have la:as.length=lks.length:=kf pa;have hbn:=hB ks.length (Ag _);refine jo hw fun keep kp=>rE ⟨by rw[Aa];exact AM (by lia:as.length≤100000) (by decide),fun k zs L2=>∃ds lks2,zs=ds.map Y.ref/\qf L' L2/\Paired (fun b lk=>L2 b=some (.lst (zf lk))/\L b=none/\kJ ks ks.length lk/\lk.Pairwise ir) ds lks2/\lks2.length=k/\Paired List.Perm lks2 (lks.take k),⟨[],[],rfl,DA _,.nil,rfl,.nil⟩,?_,?_,?_⟩
  ·rintro k zs L2 ⟨ds,lks2,rfl,s2,_⟩;exact kp L2 (by rw[s2 _ _ hw,hw])
  ·rintro k y zs L2 hy ⟨ds,lks2,rfl,s2,pd,ld,cp⟩;rw[Ak] at hy;obtain⟨b,eb,rfl⟩:=Aj.mp hy;obtain⟨lk,elk,hb,_,wy⟩:=aU pa eb;refine z0 (s2 _ _ hb) ⟨lk.map yT,ml lk,fun p hp=>?_,?_,?_,fun D qs hD pm pw=>?_⟩
   ·obtain⟨r,hr,rfl⟩:=A5.mp hp;have:=(wy.2.2 r hr).2.1;show(0:Int)≤((r.2:Nat):Int)/\((r.2:Nat):Int)<1000000;omega
   ·exact cH (fun x hx y hy e=>by have e1:((x.1:Nat):Int)=(y.1:Int):=A4 Prod.fst e;have e2:((x.2:Nat):Int)=(y.2:Int):=A4 Prod.snd e;exact Du (by lia) (by lia)) wy.1
   ·rw[Aa];have:=wy.2.1.2.1;lia
   ·obtain⟨lk',pl,rfl⟩:=lO yT pm rfl;have nD:L D=none:=j9 (s.trans s2) hD;refine⟨_,DA _,ds++[D],lks2++[lk'],by rw[Az];rfl,s2.trans (By hD),?_,by rw[Ab,Ap,ld],by rw[AH,elk];exact kj cp pl⟩;refine kj (xn (fun c d ⟨h1,h2⟩=>⟨By hD _ _ h1,h2⟩) pd) ⟨?_,nD,wy.perm pl,?_⟩
    ·rw[q8,<-ml]
    ·refine(BB.mp pw).imp fun {a b} h=>?_;have h:((a.1:Nat):Int)<(b.1:Int)\/(((a.1:Nat):Int)=(b.1:Int)/\((a.2:Nat):Int)≤(b.2:Int)):=h;unfold ir;lia
  ·rintro zs L2 ⟨ds,lks2,rfl,s2,pd,ld,cp⟩ p hp;rw[Aa] at ld cp;rw[la,AB] at cp;refine vd (q _ p lks2 ((s.trans s2).trans (By hp)) (j9 (s.trans s2) hp) ⟨ds,q8,xn (fun c d ⟨h1,h2⟩=>⟨By hp _ _ h1,h2⟩) pd⟩ (by lia) (mk▸cp))
structure Try(ks:List (Option Kn))(lk:List (Nat×Nat))(bs:List Nat):Prop where
 wy:kJ ks ks.length lk
 wp:lk.Pairwise ir
 nr:¬Rt ks lk []
 ln:bs.length=(qx true ks).length
 b01:∀b∈bs,b=0\/b=1
 fs:(ji ks).length=ks.length->(ze ks lk []).length+(qx true ks).length+1=ks.length->Fst ks (ze ks lk []) (qx true ks) bs
def nQ(L:qo)(ks:List (Option Kn))(ts:List Y)(lks:List (List (Nat×Nat))):Prop:=Paired (fun y lk=>∃b c bs,y=.tup [.ref b,.ref c]/\L b=some (.lst (zf lk))/\L c=some (.lst (nY bs))/\Try ks lk bs) ts lks
def nK:j4:=fun ys L Q=>∃a,∃ks:List (Option Kn),ys=[.ref a]/\L a=some (.lst (bw ks))/\(∀k∈ks,k≠none)/\ks.length≤1000/\((∀i≤ks.length,bnd ks i≤100000)/\zG ks ks.length≤63)/\KnR ks/\(∀b e lk L',qf L L'->L' b=some (.lst (zf lk))->L' e=some (.lst [])->kJ ks ks.length lk->lk.Pairwise ir->((ji ks).length=ks.length->Rt ks lk [])->Q (.tup [.str "web",fG a b e]) L')/\(∀t ts lks L',qf L L'->L' t=some (.lst ts)->nQ L' ks ts lks->Paired List.Perm lks (ax ks ks.length)->Q (.tup [.str "tries",.ref t]) L')
theorem agb:∀ys L Q,nK ys L Q->x8 (eG nS nE) 5 ys L Q:=by
 rintro ys L Q ⟨a,ks,rfl,ha,hno,hz,⟨hB,h63⟩,hkr,q1,q2⟩;intro p0 hp0;have s0:qf L (qd L p0 (.lst [])):=By hp0;refine⟨a,ks,rfl,s0 _ _ ha,hno,hz,⟨hB,h63⟩,fun L1 w lks s1 nw ⟨as,hw,pa⟩ hl cp=>?_⟩;have hb:=hB ks.length (Ag _);have la:as.length=lks.length:=kf pa;have hwp:w≠p0:=AS (ki q8 nw);have h0:L1 p0=some (.lst []):=s1 _ _ q8;have sL:qf L L1:=s0.trans s1;refine vk (ys:=as.map Y.ref) (z9 hw) (fun k τ L'=>∃ts c2 c3 c4,τ=[some (.ref a),some (.ref p0),c2,c3,c4]/\qf L L'/\L' w=some (.lst (as.map Y.ref))/\L' p0=some (.lst ts)/\Paired (fun b lk=>L' b=some (.lst (zf lk))/\b≠p0/\kJ ks ks.length lk/\lk.Pairwise ir) as lks/\ts.length≤k/\Paired (fun y lk=>∃b c bs,y=.tup [.ref b,.ref c]/\L' b=some (.lst (zf lk))/\L' c=some (.lst (nY bs))/\(b≠p0/\c≠p0)/\Try ks lk bs) ts (lks.take k)) ⟨[],_,_,_,rfl,sL,hw,h0,xn (fun b lk ⟨h1,h2,h3⟩=>⟨h1,AS (ki q8 h2),h3⟩) pa,Ag _,.nil⟩ ?_ ?_ ?_
 ·rintro k τ L' ⟨ts,c2,c3,c4,rfl,_,h,_⟩;rw[h,hw]
 ·rintro k y τ L' hy ⟨ts,c2,c3,c4,rfl,s,w1,t1,p1,l1,tr⟩;rw[Ak] at hy;obtain⟨b,eb,rfl⟩:=Aj.mp hy;have hk:=zc eb;obtain⟨lk,elk,hb1,hbp,wy,ws⟩:=aU p1 eb;intro e he;have v1:qf L' (qd L' e (.lst [])):=By he;have hlk:=wy.2.1.1;refine⟨a,b,e,ks,lk,[],rfl,⟨v1 _ _ (s _ _ ha),v1 _ _ hb1,q8,hz,by exact abc,Bb _,fun x hx=>⟨(wy.2.2 x hx).1,(wy.2.2 x hx).2.1⟩,(fun x hx=>by cases hx),hkr⟩,fun hR=>vd (q1 b e lk _ (s.trans v1) (v1 _ _ hb1) q8 wy ws hR),fun nR c bs hc hbl hb01 F=>?_⟩;have v2:=v1.trans (By (o:=.lst (nY bs)) hc);have hcp:c≠p0:=AS (ki (v1 _ _ t1) hc);refine qg (v2 _ _ t1) (z0 (v2 _ _ t1) ⟨AM (by lia:ts.length≤100000) (by decide),_,DA _,ts++[_],_,_,_,rfl,(s.trans v2).upd hp0,?_,q8,?_,?_,?_⟩)
  ·rw[qe hwp];exact v2 _ _ w1
  ·exact xn (fun c d ⟨h1,h2,h3⟩=>⟨(qe h2).trans (v2 _ _ h1),h2,h3⟩) p1
  ·rw[Ab,Ap];exact pe
  ·rw[AH,elk];exact kj (xn (fun y d ⟨b',c',bs',h1,h2,h3,⟨h4,h5⟩,h6⟩=>⟨b',c',bs',h1,(qe h4).trans (v2 _ _ h2),(qe h5).trans (v2 _ _ h3),⟨h4,h5⟩,h6⟩) tr) ⟨b,c,bs,rfl,(qe hbp).trans (v2 _ _ hb1),(qe hcp).trans q8,⟨hbp,hcp⟩,wy,ws,nR,hbl,hb01,F⟩
 ·rintro τ L' ⟨ts,c2,c3,c4,rfl,s,_,g,_,_,tr⟩;rw[Aa,la,AB] at tr;exact vd (q2 p0 ts lks L' s g (xn (fun y d ⟨b,c,bs,h1,h2,h3,_,h6⟩=>⟨b,c,bs,h1,h2,h3,h6⟩) tr) cp)
def qF(p0:j4)(p1:j4):k6:=(tQ (v4 (yB (qz p0 (vv (qa 1)))) (vq (gY xa (qa 0) (vv (qa 1)))) (qm (z8 (qz p1 (dh (qa 0) (k8 1 1))) (qb 2))
 (qm (z8 (qz p1 (dh (qa 0) (k8 1 2))) (qb 3))
 (vq (gY xa (qa 0) (qj (da (qj (k8 1 0) (dh (qa 2) (qa 3)))) zj))))))
 (zr (zg uc (fV 0) (jm 1))))
def af7(p0:j4):k6:=(qm (z8 (vj zj) (qb 1))
 (qm (z8 (vj zj) (qb 2))
 (qm (wt (jq (qa 0)) (qb 3) (vq (gY xa (qa 2) (qj (qz p0 (dh (qa 1) (qa 3))) zj))))
 (zr (uP (qa 1) (qa 2))))))
def aC:Nat->Wd->List Y
 |_,.leaf t n=>[.tup [.str (kL t),.str n]]
 |b,.node e l r=>(aC b l++aC (b+l.size) r)++[.tup [.str (kN e),.int ((b+l.size - 1:Nat)),.int ((b+l.size+r.size - 1:Nat))]]
theorem xt:∀(b:Nat) (w:Wd),(aC b w).length=w.size
 |_,.leaf _ _=>rfl
 |b,.node e l r=>by show((aC b l++aC (b+l.size) r)++[_]).length=1+l.size+r.size;rw[Ab,Ab,xt,xt];show l.size+r.size+1=_;omega
def xg(n:Nat):j4:=fun ys L Q=>∃k ks wd,ys=[.ref k,qw wd]/\L k=some (.lst ks)/\wd.depth≤n/\ks.length+wd.size≤1000/\Q (.int ((ks.length+wd.size - 1:Nat))) (qd L k (.lst (ks++aC ks.length wd)))
theorem gr:∀ys L Q,¬xg 0 ys L Q:=fun ys L Q ⟨k,ks,wd,_,_,hd,_⟩=>by cases wd<;>simp[Wd.depth] at hd
theorem pL(n:Nat):∀ys L Q,xg (n+1) ys L Q->x8 (qF wu (xg n)) 4 ys L Q:=by
 rintro ys L Q ⟨k,ks,wd,rfl,hk,hd,hz,q⟩;cases wd with
 |leaf t nm=>
  have hz':ks.length+1≤1000:=hz;refine⟨_,⟨true,t,_,rfl,qg hk (z0 hk ⟨aT (by omega),?_⟩)⟩,fun _ _ h=>h⟩;refine qg q8 ?_;have e:(((ks++[Y.tup [.str (kL t),.str nm]]).length:Int) - 1)=((ks.length+(Wd.leaf t nm).size - 1:Nat):Int):=by rw[Ab];show((ks.length+1:Nat):Int) - 1=((ks.length+1 - 1:Nat):Int);omega
  refine vd ?_;dsimp only;rw[show ks++[qw (Wd.leaf t nm)]=ks++[Y.tup [.str (kL t),.str nm]] from rfl,e];exact q
 |node e l r=>
  have hd':max l.depth r.depth+1≤n+1:=hd;have hz':ks.length+(1+l.size+r.size)≤1000:=hz;have pl:=l.size_pos;have pr:=r.size_pos;refine⟨_,⟨false,e,_,rfl,k,ks,l,rfl,hk,by omega,by omega,k,_,r,rfl,q8,by omega,?_,qg q8 (z0 q8 ⟨aT ?_,?_⟩)⟩,fun _ _ h=>h⟩
  ·rw[Ab,xt];omega
  ·rw[Ab,Ab,xt,xt];omega
  ·rw[zm,zm];refine qg q8 (vd ?_);have e1:(ks++aC ks.length l).length=ks.length+l.size:=by rw[Ab,xt]
   rw[e1];have e2:ks++aC ks.length l++aC (ks.length+l.size) r++[Y.tup [.str (kN e),.int ((ks.length+l.size - 1:Nat)),.int ((ks.length+l.size+r.size - 1:Nat))]]=ks++aC ks.length (.node e l r):=by show _=ks++((aC ks.length l++aC (ks.length+l.size) r)++[_]);simp only[AU]
   rw[e2];have e3:(((ks++aC ks.length (.node e l r)).length:Int) - 1)=((ks.length+(Wd.node e l r).size - 1:Nat):Int):=by rw[Ab,xt];have:1≤(Wd.node e l r).size:=Wd.size_pos _;omega
   dsimp only;rw[e3];exact q
def SZ(ws:List Wd):Nat:=(ws.map Wd.size).sum
theorem rR(us vs:List Wd):SZ (us++vs)=SZ us+SZ vs:=by simp[SZ]
theorem zP(w:Wd):SZ [w]=w.size:=by simp[SZ]
theorem bP(w:Wd)(r:List Wd):SZ (w::r)=w.size+SZ r:=by simp[SZ]
theorem ah6(ws:List Wd):ws.length≤SZ ws:=by induction ws with|nil=>simp|cons w r ih=>have:=w.size_pos;rw[bP,AD];omega
theorem wL{w:Wd}(h:w∈ws):w.size≤SZ ws:=by
 induction ws with
 |nil=>cases h
 |cons v r ih=>
  rw[bP];rcases AC.mp h with rfl | h
  ·omega
  ·have:=ih h;omega
theorem jN(w:Wd):2*w.depth≤w.size+1:=by have:=w.depth_le;have:=w.size_eq;omega
def x9:Nat->List Wd->List Y
 |_,[]=>[]
 |b,w::r=>aC b w++x9 (b+w.size) r
theorem cL:∀(b:Nat) (us:List Wd) (w:Wd),x9 b (us++[w])=x9 b us++aC (b+SZ us) w
 |b,[],w=>by simp[x9,SZ]
 |b,u::us,w=>by rw[Cv,x9,x9,cL,bP,AU,Nat.add_assoc]
theorem ww:∀(b:Nat) (us:List Wd),(x9 b us).length=SZ us
 |_,[]=>rfl
 |b,u::us=>by rw[x9,Ab,xt,ww,bP]
def tm:Nat->List Wd->List Y
 |_,[]=>[]
 |b,w::r=>.int ((b+w.size - 1:Nat))::tm (b+w.size) r
theorem n9:∀(b:Nat) (us:List Wd) (w:Wd),tm b (us++[w])=tm b us++[.int ((b+SZ us+w.size - 1:Nat))]
 |b,[],w=>by simp[tm,SZ]
 |b,u::us,w=>by rw[Cv,tm,tm,n9,bP,Cv,show b+u.size+SZ us=b+(u.size+SZ us) by omega]
theorem sK:∀(b:Nat) (us:List Wd),(tm b us).length=us.length
 |_,[]=>rfl
 |b,u::us=>by rw[tm,AD,sK,AD]
theorem fH{ws:List α}{w:α}(h:ws[i]?=some w):ws.take (i+1)=ws.take i++[w]:=by rw[AH,h];rfl
theorem tT(ws:List Wd)(i:Nat):SZ (ws.take i)≤SZ ws:=by have:=rR (ws.take i) (ws.drop i);rw[A0] at this;omega
def iD:j4:=fun ys L Q=>∃a ws,ys=[.ref a]/\L a=some (.lst ((ws:List Wd).map qw))/\SZ ws≤100/\∀k p,L k=none->L p=none->k≠p->Q (.tup [.ref k,.ref p]) (qd (qd L k (.lst (x9 0 ws))) p (.lst (tm 0 ws)))
theorem ab2:∀ys L Q,iD ys L Q->x8 (af7 (xg 60)) 4 ys L Q:=by
 rintro ys L Q ⟨a,ws,rfl,ha,hz,q⟩;intro k hk p hp;have np:L p=none:=j9 (By hk) hp;have nkp:k≠p:=ki q8 hp;have nak:a≠k:=ki ha hk;have nap:a≠p:=ki ha np;have sb:∀o u,qf L (qd (qd L k o) p u):=fun o u=>(By hk).upd np;refine vk (ys:=ws.map qw) (z9 (sb _ _ _ _ ha)) (fun i τ L'=>∃c,τ=[some (.ref a),some (.ref k),some (.ref p),c]/\L'=qd (qd L k (.lst (x9 0 (ws.take i)))) p (.lst (tm 0 (ws.take i)))) ⟨_,rfl,rfl⟩ ?_ ?_ ?_
 ·rintro i τ L' ⟨c,rfl,rfl⟩;rw[sb _ _ _ _ ha,sb _ _ _ _ ha]
 ·rintro i y τ L' hy ⟨c,rfl,rfl⟩;rw[Ak] at hy;obtain⟨w,ew,rfl⟩:=Aj.mp hy;have hw:=wL (An ew);have hd:=jN w;have ht:=tT ws (i+1);rw[fH ew,rR,zP] at ht;have hl:(ws.take i).length≤100:=AI (ah6 _) (by omega);refine qg q8 ⟨k,_,w,rfl,(qe nkp).trans q8,by omega,by rw[ww];omega,?_⟩;refine z0 ((qe (AS nkp)).trans q8) ⟨aT (by rw[sK];omega),⟨_,DA _,_,rfl,?_⟩⟩;rw[ww,fH ew,cL,n9,az (AS nkp),zm,zm,B6]
 ·rintro τ L' ⟨c,rfl,rfl⟩;rw[Aa,AB];exact vd (q k p hk np nkp)
def f6:Nat->Wd->List Kn
 |_,.leaf t n=>[.lf t n]
 |b,.node e l r=>(f6 b l++f6 (b+l.size) r)++[.nd e (b+l.size - 1) (b+l.size+r.size - 1)]
theorem qL:∀(b:Nat) (w:Wd),(f6 b w).map hG=aC b w
 |_,.leaf _ _=>rfl
 |b,.node e l r=>by show((f6 b l++f6 (b+l.size) r)++[_]).map hG=(aC b l++aC (b+l.size) r)++[_];rw[Az,Az,qL,qL];rfl
def ar:Nat->List Wd->List Kn
 |_,[]=>[]
 |b,w::r=>f6 b w++ar (b+w.size) r
theorem iF:∀(b:Nat) (ws:List Wd),(ar b ws).map hG=x9 b ws
 |_,[]=>rfl
 |b,w::r=>by rw[ar,Az,qL,iF,x9]
theorem vE(b:Nat)(ws:List Wd):(ar b ws).length=SZ ws:=by rw[<-ww b ws,<-iF,Aa]
abbrev vz(ws:List Wd):List (Option Kn):=(ar 0 ws).map some
theorem xK(ws:List Wd):bw (vz ws)=x9 0 ws:=by unfold bw vz;rw[BI,<-iF];rfl
theorem mw(ws:List Wd):(vz ws).length=SZ ws:=by rw[Aa,vE]
theorem mQ(ws:List Wd):∀k∈vz ws,k≠none:=fun k hk=>by obtain⟨x,_,rfl⟩:=A5.mp hk;exact fun z=>by cases z
def Low(n:Nat):Kn->Prop
 |.lf _ _=>True
 |.nd _ i j=>i<n/\j<n
theorem Low.mono(h:n≤m):∀{k:Kn},Low n k->Low m k
 |.lf _ _,_=>trivial
 |.nd _ _ _,⟨a,b⟩=>⟨AG a h,AG b h⟩
theorem jG:∀(b:Nat) (w:Wd),∀k∈f6 b w,Low (b+w.size) k
 |_,.leaf _ _,k,hk=>by rw[Ai.mp hk];trivial
 |b,.node e l r,k,hk=>by
  have pl:=l.size_pos;have pr:=r.size_pos;have es:(Wd.node e l r).size=1+l.size+r.size:=rfl;rcases AA.mp hk with hk | hk
  ·rcases AA.mp hk with hk | hk
   ·exact(jG b l k hk).mono (by omega)
   ·exact(jG (b+l.size) r k hk).mono (by omega)
  ·rw[Ai.mp hk];exact⟨by omega,by omega⟩
theorem mE:∀(b:Nat) (ws:List Wd),∀k∈ar b ws,Low (b+SZ ws) k
 |_,[],k,hk=>by cases hk
 |b,w::r,k,hk=>by
  rw[ar] at hk;rw[bP];rcases AA.mp hk with hk | hk
  ·exact(jG b w k hk).mono (by omega)
  ·exact(mE (b+w.size) r k hk).mono (by omega)
theorem aeb(ws:List Wd):KnR (vz ws):=by intro p e i j h;have hm:=An h;obtain⟨k,hk,ek⟩:=A5.mp hm;cases ek;have:=mE 0 ws _ hk;rw[mw,<-B6 (SZ ws)];exact this
def iN:Option Kn->Option Wd
 |some (.lf t n)=>some (.leaf t n)
 |_=>none
theorem nP:∀(b:Nat) (w:Wd),((f6 b w).map some).filterMap iN=w.leafL
 |_,.leaf _ _=>rfl
 |b,.node e l r=>by show(((f6 b l++f6 (b+l.size) r)++[_]).map some).filterMap iN=l.leafL++r.leafL;rw[Az,Az,BE,BE,nP,nP];simp[iN]
theorem cY:∀(b:Nat) (ws:List Wd),((ar b ws).map some).filterMap iN=LV ws
 |_,[]=>rfl
 |b,w::r=>by rw[ar,Az,BE,nP,cY];unfold LV;rw[Bl]
def boN:Wd->Nat
 |.leaf _ _=>0
 |.node e l r=>boN l+boN r+if e=true then 0 else 1
def BO(ws:List Wd):Nat:=(ws.map boN).sum
theorem nI:∀(b:Nat) (w:Wd),((f6 b w).map some).countP (zk false)=boN w
 |_,.leaf _ _=>rfl
 |b,.node e l r=>by show(((f6 b l++f6 (b+l.size) r)++[_]).map some).countP (zk false)=boN l+boN r+_;rw[Az,Az,AN,AN,nI,nI];cases e<;>rfl
theorem kA:∀(b:Nat) (ws:List Wd),((ar b ws).map some).countP (zk false)=BO ws
 |_,[]=>rfl
 |b,w::r=>by rw[ar,Az,AN,nI,kA];unfold BO;rw[Ay,Cd]
theorem ko(f:Option Kn->Bool)(ks:List (Option Kn)):∀i,i≤ks.length->(vt f ks i).length=(ks.take i).countP f
 |0,_=>rfl
 |i+1,h=>by have e:ks[i]?=some ks[i]:=Ae (by omega);rw[a8 e,Ab,ko f ks i (by omega),AH,e,AN];congr 1;cases hf:f ks[i]<;>simp[hf]
theorem om(ks:List (Option Kn))(x:Str):x6 ks x=zq (ks.filterMap iN) true x:=by
 unfold x6 zq;rw[ko _ _ _ (Ag _),AB]
 induction ks with
 |nil=>rfl
 |cons k r ih=>
  rw[AY,ih];cases k with
  |none=>simp[iN,kc,A7]
  |some k=>
   cases k with|nd e i j=>simp[iN,kc,A7]|lf t n=>cases t<;>simp[iN,kc,al,AY]
def ac6(f:Str->Nat):Wd->Nat
 |.leaf false x=>f x
 |_=>1
theorem ah8(ks:List (Option Kn))(i:Nat):bnd ks i=(((ks.take i).filterMap iN).map (ac6 (x6 ks))).prod:=by
 unfold bnd;generalize ks.take i=l
 induction l with
 |nil=>rfl
 |cons k r ih=>
  rw[Ay,B3,ih];cases k with
  |none=>simp[iN,rC,A7]
  |some k=>
   cases k with|nd e i j=>simp[iN,rC,A7]|lf t n=>cases t<;>simp[iN,rC,ac6]
def cg:j4:=fun ys L Q=>∃a,∃ws:List Wd,ys=[.ref a]/\L a=some (.lst (ws.map qw))/\(∀w∈ws,w.depth≤63/\w.leaves≤63)/\(LV ws).length≤124/\∀n,aex (LV ws) n->Q (.int ((n:Nat):Int)) L
theorem t7:∀ys L Q,cg ys L Q->x8 (pW eZ dm) 6 ys L Q:=by
 rintro ys L Q ⟨a,ws,rfl,ha,hok,hlv,q⟩;refine⟨a,ws,rfl,ha,hok,by omega,fun p hp=>?_⟩;have hlf:∀w∈LV ws,∃t n,w=Wd.leaf t n:=fun w hw=>sr hw;refine⟨p,LV ws,rfl,q8,hlf,by omega,fun x hx=>?_,fun hn=>?_⟩
 ·exact ac (By hp) (q 0 (.inr ⟨g9 hx,rfl⟩))
 intro d hd;have hpd:p≠d:=ki q8 hd;have sub:∀o,qf L (qd (qd L p (.lst ((LV ws).map qw))) d o):=fun o=>(By hp).trans (By hd);refine vk (ys:=(LV ws).map qw) (z9 ((qe hpd).trans q8)) (fun i τ L'=>∃kvs,∃n:Nat,∃c4 c5,τ=[some (.ref a),some (.ref p),some (.int (n:Int)),some (.ref d),c4,c5]/\L'=qd (qd L p (.lst ((LV ws).map qw))) d (.dct kvs)/\kvs.length≤i/\(∀x,wb kvs (.inr x)=uO (zq ((LV ws).take i) false x))/\bz ((LV ws).take i) n) ⟨[],1,_,_,rfl,rfl,Ag _,fun x=>rfl,bz.nil⟩ ?_ ?_ ?_
 ·rintro i τ L' ⟨kvs,n,c4,c5,rfl,rfl,_⟩;rw[qe hpd,qe hpd]
 ·rintro i y τ L' hy ⟨kvs,n,c4,c5,rfl,rfl,hk,hv,hw⟩;rw[Ak] at hy;obtain⟨w,ew,rfl⟩:=Aj.mp hy;obtain⟨t,x,rfl⟩:=hlf w (An ew);have hi:i<(LV ws).length:=(AX.mp ew).1;have et:(LV ws).take (i+1)=(LV ws).take i++[Wd.leaf t x]:=by rw[AH,ew];rfl
  cases t with
  |true=>
   refine⟨_,DA _,kvs,n,_,_,rfl,rfl,by omega,fun z=>?_,?_⟩
   ·rw[hv,et,w5,As (by simp[al])];rfl
   ·rw[et];exact hw.other
  |false=>
   have e:((wb kvs (.inr x)).getD (Y.int 0))=.int ((zq ((LV ws).take i) false x:Nat):Int):=by
    rw[hv];unfold uO;split
    ·rename_i h;rw[h];rfl
    ·rfl
   refine ae q8 (ae q8 ?_);rw[e];refine ae q8 ⟨?_,?_⟩
   ·have hb:(1000:Nat)≤sizeLine:=by decide
    omega
   have ev:wb (kC kvs (.inr x) (.int (((zq ((LV ws).take i) false x:Nat):Int)+1))) (.inr x)=some (.int (((zq ((LV ws).take i) false x:Nat):Int)+1)):=by rw[fO,Av rfl]
   have hcl:zq ((LV ws).take i) false x≤124:=by
    have h1:zq ((LV ws).take i) false x≤((LV ws).take i).length:=BX;have h2:((LV ws).take i).length≤(LV ws).length:=by rw[AJ];omega
    omega
   refine ae q8 (qq ev ⟨.inr ⟨by omega,by omega⟩,?_⟩);refine⟨_,DA _,kC kvs (.inr x) (.int (((zq ((LV ws).take i) false x:Nat):Int)+1)),n*(zq ((LV ws).take i) false x+1),some (.str (kL false)),some (.str x),?_,zm,?_,fun z=>?_,?_⟩
   ·have e2:(n:Int)*(((zq ((LV ws).take i) false x:Nat):Int)+1)=((n*(zq ((LV ws).take i) false x+1):Nat):Int):=by push_cast;rfl
    rw[<-e2];rfl
   ·have:=oP kvs (.inr x) (.int (((zq ((LV ws).take i) false x:Nat):Int)+1));omega
   ·rw[fO,et,w5];by_cases h:z=x
    ·subst h;rw[Av rfl,Av (by simp[al])];unfold uO;rw[As (by omega)];push_cast;rfl
    ·rw[As (fun q=>h (Sum.inr.inj q)),As (by simp[al];exact fun q=>h q.symm),hv];rfl
   ·rw[et];exact hw.plain
 ·rintro τ L' ⟨kvs,n,c4,c5,rfl,rfl,hk,hv,hw⟩;rw[Aa,AB] at hw;exact ac (sub _) (q n (.inl ⟨nW hlf hn,hw⟩))
def iZ(Cb:Addr)(E3:X3)(p0:j4)(p1:j4)(p2:j4)(p3:j4)(p4:j4):k6:=(qm (z8 (qz p0 (vv (qa 0))) (qb 2))
 (qm (z8 (qz p1 (vv (qa 2))) (qb 3))
 (qm (v4 (yB (kK true (qa 3))) (zr (uP (gi "names") (qa 3))) je)
 (qm (z8 (zg be (qz p2 (vv (qa 0))) (jm 0)) (qb 4))
 (qm (z8 (lZ kD (qj (oG 1 (jq (qa 4)) (qb 6) (mf (k8 6 0) (gi "both")) (qa 6)) zj)) (qb 5))
 (qm (v4 (oN (fV 2) (zg jk (zg hJ (jm 2) (qa 5)) (jm 2))) (zr (da (qj (gi "count") (dh (fV 2) (qa 5))))) je)
 (qm (v4 (yB (zg yGt (qz p3 (vv (qa 0))) (qa 1))) (wI Cb E3 (vv (gi "there are more ways to link than may be tried"))) je)
 (zr (qz p4 (vv (qa 4)))))))))))
theorem ee:∀l:List (Option Kn),(l.filterMap iN).length=l.countP vf
 |[]=>rfl
 |none::r=>ee r
 |some (.lf t n)::r=>by rw[AY,<-ee r];rfl
 |some (.nd e i j)::r=>ee r
theorem abe(ws:List Wd):zG (vz ws) (vz ws).length=(LV ws).length:=by unfold zG;rw[AB,<-ee];exact A4 List.length (cY 0 ws)
end L3
namespace TS
open PySem PyProof.Rows PySem.W
section
variable {w:World} 
def IntV(v:Value):Prop:=∃i t,v=.int i t
noncomputable def nmI(x:Keyed):Int:=match x.1 with
 |.int i _=>i
 |_=>0
theorem ad5:Ord prog w A s oneType' (fun x=>IntV x.1) nmI:=by
 constructor;rintro x y ⟨i,t,e1⟩ ⟨j,u,e2⟩ E Q h;have h1:nmI x=i:=by unfold nmI;rw[e1]
 have h2:nmI y=j:=by unfold nmI;rw[e2]
 rw[h1,h2] at h;rw[e1,e2];exact kat_lt_int h
theorem ol:∀{vs:List Value},(∀v∈vs,IntV v)->∃ns,IntsAre vs ns
 |[],_=>⟨[],.nil⟩
 |v::r,h=>by obtain⟨i,t,rfl⟩:=h v (Ax ..);obtain⟨ns,k⟩:=ol (vs:=r) fun u hu=>h u (Af _ hu);exact⟨_,.cons i t k⟩
theorem uI(h:∀v∈vs,IntV v)(h2:¬vs.length<2):keyKind' vs.toArray=pure oneType':=by
 obtain⟨ns,k⟩:=ol h
 match vs,k,h2 with
 |[],_,h2=>exact absurd (Nat.zero_lt_succ 1) h2
 |[_],_,h2=>exact absurd (BM 1) h2
 |_::_::_,k,_=>exact keyKind_ints k
theorem wN{P:PySem.Fin->Shared->Prop}(ho:s.heap.get? a=some (seqObj "list" vs.toArray n))(hz:vs.length≤63)(hk:∀v∈vs,IntV v)(inj:((vs.zip vs).map nmI).Nodup)
 (h:∀h' tk (xs:List Keyed) c,(∀b o,b≠a->s.heap.get? b=some o->h'.get? b=some o)->h'.get? a=some (seqObj "list" (List.toArray (xs.map (·.2))) c)->xs.Perm (vs.zip vs)->(xs.Pairwise fun x y=>nmI x≤nmI y)->P (.done (.ret .none)) { s with heap:=h',toks:=tk }):
 wpAny (model prog w) A (Builtin.«list.sort» ⟨[.ref a],[]⟩) P E s:=by
 have big:(63:Nat)+1≤sizeLine:=by rw[sizeLine_eq];omega
 have zl:(vs.toArray.zip vs.toArray).toList=vs.zip vs:=by simp
 have s1:=Heap.SameBut.update s.heap a (Obj.mapSeq fun _=>(#[]:Array Value));obtain⟨e1,ho1⟩:∃e1,(s.heap.update a (Obj.mapSeq fun _=>(#[]:Array Value))).get? a=some (seqObj "list" #[] e1):=⟨_,get?_update_seq ho fun _=>#[]⟩;obtain⟨hp3,ehp3⟩:∃g,g=((s.heap.update a (Obj.mapSeq fun _=>(#[]:Array Value))).push (seqObj "tuple" vs.toArray 0)).push (seqObj "list" #[] 0):=⟨_,rfl⟩;have k3:∀b o,b≠a->s.heap.get? b=some o->hp3.get? b=some o:=fun b o hb e=>by rw[ehp3];exact Heap.get?_push_of_some _ (Heap.get?_push_of_some _ ((s1.2 b hb).trans e))
 have ha3:hp3.get? a=some (seqObj "list" #[] e1):=by rw[ehp3];exact Heap.get?_push_of_some _ (Heap.get?_push_of_some _ ho1)
 have tail:∀st:SortSt,(arrOf st).toList.Perm (vs.zip vs)->((arrOf st).toList.Pairwise fun x y=>nmI x≤nmI y)->
  ∀tk,P (.done (.ret .none)) { s with heap:=hp3.update a (Obj.mapSeq fun _=>(arrOf st).map (·.2)),toks:=tk }:=by
  intro st hp hs tk;have s2:=Heap.SameBut.update hp3 a (Obj.mapSeq fun _=>(arrOf st).map (·.2));obtain⟨c2,hc2⟩:∃c2,(hp3.update a (Obj.mapSeq fun _=>(arrOf st).map (·.2))).get? a=some (seqObj "list" ((arrOf st).map (·.2)) c2):=⟨_,get?_update_seq ha3 fun _=>(arrOf st).map (·.2)⟩;have em:(arrOf st).map (·.2)=List.toArray ((arrOf st).toList.map (·.2)):=by apply Array.toList_inj.mp;rw[Array.toList_map]
  refine h _ tk (arrOf st).toList c2 (fun b o hb e=>(s2.2 b hb).trans (k3 b o hb e)) ?_ hp hs;rw[em] at hc2 ⊢;exact hc2
 have len:∀st:SortSt,(arrOf st).toList.Perm (vs.zip vs)->((arrOf st).map (·.2)).size≤sizeLine+1:=fun st hp=>by have:=hp.length_eq;rw[CD,Bj] at this;rw[Array.size_map];lia
 rw[list_sort_plain];refine Ad (listItems_at ho rfl ?_);refine Ad (listUpdate_at ho rfl ?_ (by rw[Ah];omega) (Bb _));refine Ad (seqEpoch_at ho1 rfl ?_);refine Ad (wpAny_newTuple ?_ (by show vs.length≤_;lia));refine Ad (wpAny_newList ?_ (Bb _));refine Bu ?_;show wpAny (model prog w) A _ P E { s with heap:=((s.heap.update a (Obj.mapSeq fun _=>(#[]:Array Value))).push (seqObj "tuple" vs.toArray 0)).push (seqObj "list" #[] 0) };rw[<-ehp3];dsimp only;by_cases h2:vs.toArray.size<2
 ·rw[Av h2,Av h2];refine Ad (Aw ?_);rw[StateT.run_pure];refine Ad (Aw ?_);dsimp only;refine Ad (seqEpoch_at ha3 rfl ?_);have pz:(arrOf (SortSt.mk' oneType' (vs.toArray.zip vs.toArray) #[] 7 none)).toList.Perm (vs.zip vs):=by show(vs.toArray.zip vs.toArray).toList.Perm _;rw[zl]
  refine Ad (listUpdate_at ha3 rfl ?_ (Bb _) (len _ pz));simp only[bne_self_eq_false,BR,if_false];refine Aw (tail (SortSt.mk' oneType' (vs.toArray.zip vs.toArray) #[] 7 none) pz ?_ _);show(vs.toArray.zip vs.toArray).toList.Pairwise _;rw[zl];rw[Ah] at h2;have:(vs.zip vs).length<2:=by rw[CD];lia
  exact pB this
 ·rw[As h2,As h2];rw[Ah] at h2;rw[uI hk h2];refine Ad (Aw ?_);refine Ad (AR (oq (E:=E) (ad5 (s:={ s with heap:=hp3 })) (st:=SortSt.mk' oneType' (vs.toArray.zip vs.toArray) #[] 7 none)
   (Q:=fun _ st'=>failedOf st'=none/\(arrOf st').toList.Perm (vs.zip vs)/\((arrOf st').toList.Pairwise fun x y=>nmI x≤nmI y)) (by show(vs.toArray.zip vs.toArray).size<64;simp;omega) rfl rfl rfl (fun x hx=>?_) ?_ fun st' b1 b2 b3=>⟨b1,?_,b3⟩) ?_ fun _ _ e=>e)
  ·have hx:x∈(vs.toArray.zip vs.toArray).toList:=hx;rw[zl] at hx;exact hk _ (mem_self_zip hx).1
  ·show((vs.toArray.zip vs.toArray).toList.map _).Nodup;rw[zl];exact inj
  ·have b2:(arrOf st').toList.Perm (vs.toArray.zip vs.toArray).toList:=b2;rw[zl] at b2;exact b2
  ·rintro⟨⟨⟩,st'⟩ s' ⟨rfl,b1,b2,b3⟩;dsimp only;refine Ad (seqEpoch_at ha3 rfl ?_);refine Ad (listUpdate_at ha3 rfl ?_ (Bb _) (len _ b2));rw[b1];simp only[bne_self_eq_false,BR,if_false];exact Aw (tail st' b2 b3 _)
theorem w_sortedI(hl:s.heap.IsList l vs.toArray)(hz:vs.length≤63)(hk:∀v∈vs,IntV v)(inj:((vs.zip vs).map nmI).Nodup)
 (h:∀h' tk (xs:List Keyed) D c,s.heap.objs.size≤D->(∀b o,s.heap.get? b=some o->h'.get? b=some o)->h'.get? D=some (seqObj "list" (List.toArray (xs.map (·.2))) c)->xs.Perm (vs.zip vs)->(xs.Pairwise fun x y=>nmI x≤nmI y)->Q (.ref D) { s with heap:=h',toks:=tk }):
 wpAny (model prog w) A (call (.builtin "sorted") [.ref l]) Q E s:=by
 have big:(63:Nat)+1≤sizeLine:=by rw[sizeLine_eq];lia
 refine Calls.call_function_entry kind_sorted plain_sorted entry_sorted (args_sorted1 _) ?_;unfold Builtin.«sorted»;refine Ad (m:=checkCount "sorted" 1 1 _) (Aw ?_);refine Ad (collect_list hl ?_ (by lia));refine Ad (wpAny_newList ?_ (by lia));obtain⟨g,eg⟩:∃g,g=(s.heap.push (seqObj "list" #[] 0)).update s.heap.objs.size (Obj.mapSeq (· ++ vs.toArray)):=⟨_,rfl⟩;have gs:g.objs.size=s.heap.objs.size+1:=by rw[eg,Heap.size_update,size_push']
 have gk:∀b o,s.heap.get? b=some o->g.get? b=some o:=fun b o q=>by have hlt:b<s.heap.objs.size:=Heap.lt_size q;rw[eg,Heap.get?_update_ne _ _ _ _ (A6 hlt)];exact Heap.get?_push_of_some _ q
 show wpAny _ _ _ _ _ { s with heap:=((s.heap.push (seqObj "list" #[] 0)).update s.heap.objs.size (Obj.mapSeq (· ++ vs.toArray))).push (seqObj "list" vs.toArray 0) };rw[<-eg];have hoD:(g.push (seqObj "list" vs.toArray 0)).get? g.objs.size=some (seqObj "list" vs.toArray 0):=Heap.get?_push_size _ rfl;have keep:∀b o,s.heap.get? b=some o->(g.push (seqObj "list" vs.toArray 0)).get? b=some o:=fun b o q=>Heap.get?_push_of_some _ (gk b o q);refine Ad (Bu (wpAny_call_entry slot_list_sort ⟨_,hoD,rfl⟩ entry_list_sort ?body (args_list_sort _)))
 case body=>
  refine wN (s:={ s with heap:=g.push (seqObj "list" vs.toArray 0) }) hoD hz hk inj fun h' tk xs c k1 hD pm pw=>?_;refine⟨_,rfl,Aw ⟨_,rfl,h h' tk xs g.objs.size c (by rw[gs];exact B1 _) (fun b o q=>k1 b o ?_ (keep b o q)) hD pm pw⟩⟩;have hlt:b<s.heap.objs.size:=Heap.lt_size q;intro z;rw[z,gs] at hlt;exact Nat.not_succ_lt_self hlt
end
end TS
namespace L2
open PySem PySem.Spec PyProof.Rows
theorem db:∀{ns:List Int} {vs:List Value},zh (ns.map V.int) vs->IntsAre vs ns
 |[],_,.nil=>.nil
 |n::_,_,.cons ⟨t,e⟩ p=>by subst e;exact .cons n t (db p)
theorem jB:∀{vs:List Value} {ns:List Int},IntsAre vs ns->(vs.zip vs).map TS.nmI=ns
 |_,_,.nil=>rfl
 |_,_,.cons n t h=>by rw[List.zip_cons_cons,Ay,jB h];rfl
theorem jF:∀{vs:List Value} {ns:List Int},IntsAre vs ns->∀v∈vs,TS.IntV v
 |_,_,.nil,_,h=>by cases h
 |_,_,.cons n t k,v,h=>by
  rcases AC.mp h with rfl | h
  ·exact⟨n,t,rfl⟩
  ·exact jF k v h
theorem pZ:∀{xs:List PyProof.Rows.Keyed},(∀x∈xs,TS.IntV x.1/\x.1=x.2)->zh ((xs.map TS.nmI).map V.int) (xs.map (·.2))
 |[],_=>.nil
 |x::r,h=>by obtain⟨⟨i,t,e⟩,e2⟩:=h x (Ax ..);refine .cons ⟨t,?_⟩ (pZ fun y hy=>h y (Af _ hy));show x.2=Value.int (TS.nmI x) t;rw[<-e2,e];unfold TS.nmI;rw[e]
section
def ag9(X:Cx):List V->Hp->VK->Prop:=fun xs H Q=>∃(l:Addr) (ns:List Int),xs=[.ref l]/\aG X.K H l (ns.map V.int)/\ns.Nodup/\ns.length≤63/\
 ∀(D:Addr) (ms:List Int),H D=none->ms.Perm ns->ms.Pairwise (fun a b:Int=>a≤b)->Q (.ref D) (upd H D (.lst (ms.map V.int)))
theorem sC:jv X (.builtin "sorted") (ag9 X):=by
 intro pins s σ H xs us Q I r h;obtain⟨l,ns,rfl,hl,hnd,hlen,q⟩:=h;obtain⟨u,rfl,ru⟩:=r.one;cases (show u=Value.ref l from ru);obtain⟨its,rv,pl,hz⟩:=I.list hl;have ia:=db rv;have l1:ns.length=its.length:=by have:=rv.length;rw[Aa] at this;exact this
 refine jx I.tk (TS.w_sortedI pl.isList (by rw[<-l1];exact hlen) (jF ia) (by rw[jB ia];exact hnd) fun h' tk ks D c hD hk hg pm pw ht=>?_);have mk:∀x∈ks,TS.IntV x.1/\x.1=x.2:=fun x hx=>by obtain⟨m1,m2⟩:=TS.mem_self_zip (pm.mem_iff.mp hx);exact⟨jF ia _ m1,m2⟩
 have pn:(ks.map TS.nmI).Perm ns:=by rw[<-jB ia];exact pm.map _
 refine⟨.ref D,_,I.laid (t':=tk) (o:=.lst ((ks.map TS.nmI).map V.int)) hk hD ⟨?_,ks.map (·.2),c,pZ mk,hg⟩,rfl,q D _ (I.hok.fresh hD) pn (BB.mpr pw)⟩;rw[Aa,pn.length_eq,<-Aa (f:=V.int)];exact hz
def kG(ns:List Int):Nat:=(firstMet (fun i=>ns.getD i 0) ns.length).length
def acj(X:Cx)(te:TE):TE:=fun σ H Q=>te σ H fun x H1=>∃(a:Addr) (ns:List Int),x=.ref a/\aG X.K H1 a (ns.map V.int)/\ns.length≤4000/\Q (.int (kG ns:Nat)) H1
theorem age:bootBuiltins "set" = some (.type "set"):=by decide +kernel
theorem vA{te:TE}{ps:Pos}(hc:X.calm=true)(hgl:Gl X "len")(hml:X.mg "len" = none)(hgs:Gl X "set")(hms:X.mg "set" = none)(he:PE X e te)(h1:starEach [e] X.env=(false,eval e X.env)::starEach [] X.env:=by rfl):
 PE X (.Call (.Name "len" p1) [.Call (.Name "set" p2) [e] [] ps] [] pos) (acj X te):=by
 intro pins s σ H Q I h;refine wpAny_Call_Name_kw (dZ I hgl hml vR ?_);refine callWith_builtin1 ?_ rfl rfl;show wpAny _ _ (spliced ((false,eval (.Call (.Name "set" p2) [e] [] ps) X.env)::[])) _ _ s;refine Calls.spliced_cons ?_;refine wpAny_Call_Name_kw (dZ I hgs hms age ?_);refine callWith_type1 ?_ h1 rfl;rw[h1];show wpAny _ _ (spliced ((false,eval e X.env)::[])) _ _ s;refine Calls.spliced_cons (xc (he pins s σ H _ I h) fun u s1 ⟨x,H1,I1,r1,q1⟩=>?_);obtain⟨a,ns,rfl,hq,hz,q⟩:=q1;cases (show u=Value.ref a from r1);obtain⟨its,rv,pl,_⟩:=I1.list hq;have ia:=db rv;have l1:ns.length=its.length:=by have:=rv.length;rw[Aa] at this;exact this
 have sb:(4001:Nat)<scanBound:=by decide
 refine Calls.spliced_nil ?_;refine jx I1.tk (call_set_list (I1.ok.hd hc) pl.isList (ns:=ns) (by simpa using ia) (by rw[Ah];lia) fun h' tk hS hk ht=>?_);have sz:its.toArray.size=ns.length:=by rw[Ah,l1]
 rw[sz] at hS;obtain⟨o,ho,hex,es,ep,t,hd,_,_,hn,hf⟩:=hS.objOf;have I2:qt X pins σ H1 { s1 with heap:=h',toks:=tk }:=I1.kept (fun b o e=>hk b o (Heap.lt_size e) e) ht;have le:kG ns≤ns.length:=firstMet_length_le _ _;have hn:es.size=kG ns:=hn;refine Calls.spliced_nil (call_len_set (s:={ s1 with heap:=h',toks:=tk }) ho hex hd hf (by rw[hn];lia) ?_);rw[hn];exact⟨.int (kG ns:Nat),H1,I2.kept (fun _ _ e=>e) (Dd _),⟨_,rfl⟩,q⟩
end
end L2
namespace L3
open PySem L2
def rD(xs:List Y)(L:qo)(Q:YK):Prop:=match xs with
 |[.ref a]=>cT L a fun ys=>∃ns:List Int,ys=ns.map Y.int/\ns.Nodup/\ns.length≤63/\∀(D:Addr) (ms:List Int),L D=none->ms.Perm ns->ms.Pairwise (fun a b:Int=>a≤b)->Q (.ref D) (qd L D (.lst (ms.map Y.int)))
 |_=>False
theorem mK{G:G3}{H:Hp}:∀{ns:List Int} {xs:List V},xz G H (ns.map Y.int) xs->xs=ns.map V.int
 |[],_,h=>h
 |n::r,_,⟨x,xs',e,rx,s⟩=>by subst e;cases (show x=V.int n from rx);rw[mK s];rfl
theorem tG{G:G3}{H:Hp}:∀ns:List Int,xz G H (ns.map Y.int) (ns.map V.int)
 |[]=>rfl
 |n::r=>⟨_,_,rfl,rfl,tG r⟩
theorem adk :jv X (.builtin "sorted") (upL X.g3 rD):=DO sC fun xs H Q ⟨ys,L,Q3,rv,rl,z,k⟩=>by
 unfold rD at z;split at z
 ·rename_i a;obtain⟨zs,e,ns,rfl,hnd,hlen,z⟩:=xr z;obtain⟨vs,e2,r⟩:=rl a _ e;obtain⟨u,rfl,ru⟩:=rv.inv1;cases (show u=V.ref a from ru);cases mK r;exact⟨a,ns,rfl,aG.of e2,hnd,hlen,fun D ms hD pm pw=>k _ _ _ _ (DD hD) (rl.newL hD (tG ms)) (by rfl) (z D ms (rl.none hD) pm pw)⟩
 ·exact z.elim
def se(ta:jz)(τ:jb)(L:qo)(Q:YK):Prop:=ta τ L fun x L1=>match x with
 |.ref a=>cT L1 a fun ys=>∃ns:List Int,ys=ns.map Y.int/\ns.length≤4000/\Q (.int (kG ns:Nat)) L1
 |_=>False
theorem uT{ps:Pos}(hc:X.calm=true)(hgl:Gl X "len")(hml:X.mg "len" = none)(hgs:Gl X "set")(hms:X.mg "set" = none)(he:QE X e te)(h1:starEach [e] X.env=(false,eval e X.env)::starEach [] X.env:=by rfl):
 QE X (.Call (.Name "len" p1) [.Call (.Name "set" p2) [e] [] ps] [] pos) (se te):=DC (vA hc hgl hml hgs hms he h1) fun σ H Q ⟨τ,L,Q3,rs,rl,z,k⟩=>
 ⟨τ,L,_,rs,rl,z,fun v H1 y L1 t1 rl1 rv1 z1=>by
  cases y with
  |ref a=>
   obtain⟨zs,e,ns,rfl,hz,z⟩:=xr z1;obtain⟨vs,e2,r⟩:=rl1 a _ e;cases mK r;exact⟨a,ns,rv1,aG.of e2,hz,k _ H1 _ L1 t1 rl1 (by rfl) z⟩
  |_=>exact z1.elim⟩
end L3
namespace TS
open PySem PyProof.Rows PySem.W PySem.Calls
section
variable {w:World} 
end
section
variable {w:World} 
end
section
variable {w:World} 
end
end TS
namespace L2
open PySem PySem.Spec PyProof.Rows
section
end
section
end
end L2
namespace L3
open PySem L2
end L3
namespace L2
open PySem PySem.Spec PyProof.Rows
section
variable {K:Ac}{Pt:Addr}(T:K.lookup Pt=some (PySem.W.tabObj #[]))
include T
end
end L2
namespace L3
open PySem L2
end L3
namespace L2
open PySem PySem.Spec PyProof.Rows
section
variable {σ':St} 
theorem qt.ren(M:List Str)(I:qt X pins σ H s)(hl:M.length=X.N.length)(hs:σ'.length=σ.length)(h:∀(j:Nat) v,σ'[j]?=some (some v)->σ[j]?=some (some v)/\X.N[j]?=M[j]?):qt { X with N:=M } pins σ' H s:=by obtain⟨m,hm,l⟩:=I.loc;have o:=I.ok;exact { ok:=⟨o.mod,o.kind,o.glob,o.blt,o.above,o.inj,o.has,o.cab,o.hd,o.frames,o.stk,o.exf,o.bs,o.bsz,o.noex,o.exfs,o.funs,o.frf⟩,os:=I.os,bare:=I.bare,base:=I.base,cell:=I.cell,free:=I.free,freeC:=I.freeC,pin:=I.pin,hok:=I.hok,tk:=I.tk,len:=(by rw[hs,I.len];exact hl.symm),loc:=⟨m,hm,fun i x v e1 e2 e3=>by obtain⟨a,b⟩:=h i v e2;exact l i x v (b.trans e1) a e3⟩ }
theorem oH(h:(σ.set i none)[j]?=some (some v)):j≠i/\σ[j]?=some (some v):=by
 by_cases c:i=j
 ·subst c;rw[C9] at h;cases e:σ[i]? with|none=>rw[e] at h;cases h|some o=>rw[e] at h;cases h
 ·rw[A3 c] at h;exact⟨AS c,h⟩
def ajb(i:Nat)(t:TS):TS:=fun D σ H=>t { nx:=fun σ' H'=>D.nx (σ'.set i none) H',rt:=D.rt,bk:=fun σ' H'=>D.bk (σ'.set i none) H',ct:=fun σ' H'=>D.ct (σ'.set i none) H' } (σ.set i none) H
theorem acn{t:TS}(h:PS { X with N:=X.N.set i x } st t):PS X st (ajb i t):=by
 intro pins s σ H D I z;have I':qt { X with N:=X.N.set i x } pins (σ.set i none) H s:=I.ren _ (by rw[A2]) (by rw[A2]) fun j v e=>by obtain⟨a,b⟩:=oH e;exact⟨b,by rw[A3 (AS a)]⟩
 refine xc (h pins s _ H _ I' z) fun f s' q=>?_;have back:∀{σ':St} {H':Hp},qt { X with N:=X.N.set i x } pins σ' H' s'->qt X pins (σ'.set i none) H' s':=fun {σ' H'} J=>
  qt.ren (X:={ X with N:=X.N.set i x }) X.N J (by show X.N.length=(X.N.set i x).length;rw[A2]) (by rw[A2]) fun j v e=>by obtain⟨a,b⟩:=oH e;exact⟨b,by show(X.N.set i x)[j]?=_;rw[A3 (AS a)]⟩
 cases f with
 |next=>obtain⟨σ',H',J,q⟩:=q;exact⟨_,H',back J,q⟩
 |brk=>obtain⟨σ',H',J,q⟩:=q;exact⟨_,H',back J,q⟩
 |cont=>obtain⟨σ',H',J,q⟩:=q;exact⟨_,H',back J,q⟩
 |ret u=>obtain⟨v,σ',H',J,r,q⟩:=q;exact⟨v,_,H',back J,r,q⟩
end
end L2
namespace L3
open PySem L2
def eQ:jb->Nat->jb
 |[],_=>[]
 |_::r,0=>none::r
 |o::r,i+1=>o::eQ r i
theorem ox:∀(τ:jb) (i:Nat),eQ τ i=τ.set i none
 |[],_=>rfl
 |_::_,0=>rfl
 |o::r,i+1=>by unfold eQ;rw[ox r i];rfl
def adx(i:Nat)(t:k6)(D:v7)(τ:jb)(L:qo):Prop:=t { nx:=fun τ' L'=>D.nx (eQ τ' i) L',rt:=D.rt,bk:=fun τ' L'=>D.bk (eQ τ' i) L',ct:=fun τ' L'=>D.ct (eQ τ' i) L' } (eQ τ i) L
theorem ve.forget(h:ve G H σ τ)(i:Nat):ve G H (σ.set i none) (eQ τ i):=by
 rw[ox];refine⟨by rw[A2,A2];exact h.len,fun j y e=>?_⟩;by_cases c:i=j
 ·subst c;rw[C9] at e;cases e2:τ[i]? with|none=>rw[e2] at e;cases e|some o=>rw[e2] at e;cases e
 ·rw[A3 c] at e ⊢;exact h.get j y e
theorem ac1(x:Str){t:k6}(h:QS { X with N:=X.N.set i x } st t):QS X st (adx i t):=
 DH (acn h) fun D σ H ⟨τ,L,D3,rs,rl,z,k⟩=>⟨eQ τ i,L,_,rs.forget i,rl,z,
  ⟨fun σ' H' τ' L' t' rs' rl' q=>k.nx _ H' _ L' t' (rs'.forget i) rl' q,k.rt,fun σ' H' τ' L' t' rs' rl' q=>k.bk _ H' _ L' t' (rs'.forget i) rl' q,fun σ' H' τ' L' t' rs' rl' q=>k.ct _ H' _ L' t' (rs'.forget i) rl' q⟩⟩
theorem afw:bootBuiltins "min" = some (.builtin "min"):=by decide +kernel
open PySem L2 PyProof.Rows
open PySem L2 Words
def rm(p0:j4):k6:=(tQ (v4 (mf (fV 1) (jm 2)) (vq (gY xa (qa 0) (vv (qa 1)))) (qm (z8 (qz p0 (dh (qa 0) (k8 1 1))) (qb 2))
 (qm (z8 (qz p0 (dh (qa 0) (k8 1 2))) (qb 3))
 (vq (gY xa (qa 0) (qj (da (qj (k8 1 0) (dh (qa 2) (qa 3)))) zj))))))
 (zr (zg uc (fV 0) (jm 1))))
def oF(p0:j4):k6:=(qm (z8 (vj zj) (qb 1))
 (qm (wt (jq (qa 0)) (qb 2) (vq (qz p0 (dh (qa 1) (qa 2)))))
 (zr (qa 1))))
def kU:k6:=(qm (z8 (ij (fV 0)) (qb 3))
 (qm (z8 (lZ fA (vv (qa 1))) (qb 4))
 (qm (z8 (jm 0) (qb 5))
 (qm (wt (bN (qa 0)) (aK 2 (zw (qb 6) (zw (qb 7) aF))) (tQ (v4 (mf (k8 7 0) (gi "both")) (z8 (zg jk (qa 4) (vj (qj (uP (qa 6) (k8 7 1)) (qj (uP (qa 6) (k8 7 2)) zj)))) (qb 4)) je)
 (v4 (mf (k8 7 0) (gi "either")) (qm (vq (gY xa (qa 4) (qj (da (qj (qa 6) (qj (zg be (qa 7) (zg jk (jm 1) (zg be (qa 2) (qa 5)))) zj))) zj)))
 (xS 5 (jm 1) aeg)) je)))
 (qm (wt (jq (qa 4)) (aK 2 (zw (qb 8) (zw (qb 9) aF))) (qm (z8 (da (qj (zg be (qa 3) (qa 8)) (qj (zg be (qa 3) (qa 9)) zj))) (aK 2 (zw (qb 10) (zw (qb 11) aF))))
 (z8 (oG 1 (jq (qa 3)) (qb 12) rJ (yIf (mf (qa 12) (qa 11)) (qa 10) (qa 12))) (qb 3))))
 (zr (se (qa 3))))))))
def oC:k6:=(qm (z8 (vj zj) (qb 2))
 (qm (wt (cP (vv (qa 1))) (qb 3) (qm (z8 (zg jk (vj (qj (zg aj (qa 0) (jm 2)) zj)) (qa 2)) (qb 2))
 (z8 (zg ao (qa 0) (jm 2)) (qb 0))))
 (zr (qa 2))))
theorem abr(n:Nat):∀ys L Q,xg (n+1) ys L Q->x8 (rm (xg n)) 4 ys L Q:=by
 rintro ys L Q ⟨k,ks,wd,rfl,hk,hd,hz,q⟩;cases wd with
 |leaf t nm=>
  have hz':ks.length+1≤1000:=hz;refine⟨_,qg hk (z0 hk ⟨aT (by omega),?_⟩),fun _ _ h=>h⟩;refine qg q8 ?_;have e:(((ks++[Y.tup [.str (kL t),.str nm]]).length:Int) - 1)=((ks.length+(Wd.leaf t nm).size - 1:Nat):Int):=by rw[Ab];show((ks.length+1:Nat):Int) - 1=((ks.length+1 - 1:Nat):Int);omega
  refine vd ?_;dsimp only;rw[show ks++[qw (Wd.leaf t nm)]=ks++[Y.tup [.str (kL t),.str nm]] from rfl,e];exact q
 |node e l r=>
  have hd':max l.depth r.depth+1≤n+1:=hd;have hz':ks.length+(1+l.size+r.size)≤1000:=hz;have pl:=l.size_pos;have pr:=r.size_pos;refine⟨_,⟨k,ks,l,rfl,hk,by omega,by omega,k,_,r,rfl,q8,by omega,?_,qg q8 (z0 q8 ⟨aT ?_,?_⟩)⟩,fun _ _ h=>h⟩
  ·rw[Ab,xt];omega
  ·rw[Ab,Ab,xt,xt];omega
  ·rw[zm,zm];refine qg q8 (vd ?_);have e1:(ks++aC ks.length l).length=ks.length+l.size:=by rw[Ab,xt]
   rw[e1];have e2:ks++aC ks.length l++aC (ks.length+l.size) r++[Y.tup [.str (kN e),.int ((ks.length+l.size - 1:Nat)),.int ((ks.length+l.size+r.size - 1:Nat))]]=ks++aC ks.length (.node e l r):=by show _=ks++((aC ks.length l++aC (ks.length+l.size) r)++[_]);rw[AU,AU,<-AU (aC ks.length l)]
   rw[e2];have e3:(((ks++aC ks.length (.node e l r)).length:Int) - 1)=((ks.length+(Wd.node e l r).size - 1:Nat):Int):=by rw[Ab,xt];have:(Wd.node e l r).size=1+l.size+r.size:=rfl;omega
   dsimp only;rw[e3];exact q
def iu:j4:=fun ys L Q=>∃a ws,ys=[.ref a]/\L a=some (.lst ((ws:List Wd).map qw))/\SZ ws≤100/\∀k,L k=none->Q (.ref k) (qd L k (.lst (x9 0 ws)))
theorem zR:∀ys L Q,iu ys L Q->x8 (oF (xg 100)) 3 ys L Q:=by
 rintro ys L Q ⟨a,ws,rfl,ha,hz,q⟩;intro k hk;have sb:∀o,qf L (qd L k o):=fun o=>By hk;refine vk (ys:=ws.map qw) (z9 (sb _ _ _ ha)) (fun i τ L'=>∃c,τ=[some (.ref a),some (.ref k),c]/\L'=qd L k (.lst (x9 0 (ws.take i)))) ⟨_,rfl,rfl⟩ ?_ ?_ ?_
 ·rintro i τ L' ⟨c,rfl,rfl⟩;rw[sb _ _ _ ha,sb _ _ _ ha]
 ·rintro i y τ L' hy ⟨c,rfl,rfl⟩;rw[Ak] at hy;obtain⟨w,ew,rfl⟩:=Aj.mp hy;have hw:=wL (An ew);have hd:=jN w;have ht:=tT ws (i+1);rw[fH ew,rR,zP] at ht;refine⟨k,_,w,rfl,q8,by omega,by rw[ww];omega,⟨_,DA _,_,rfl,?_⟩⟩;rw[ww,fH ew,cL,zm,B6]
 ·rintro τ L' ⟨c,rfl,rfl⟩;rw[Aa,AB];exact vd (q k hk)
def wm:List Nat->Nat
 |[]=>0
 |b::r=>b*2 ^ r.length+wm r
def dr:j4:=fun ys L Q=>∃n:Int,∃m:Nat,ys=[.int n,.int (m:Int)]/\m≤1000/\∀p bs,L p=none->bs.length=m->(∀b∈bs,b=0\/b=1)->(∃r:Int,n=(wm bs:Int)+((2 ^ m:Nat):Int)*r)->Q (.ref p) (qd L p (.lst (nY bs)))
theorem bg_:∀m:Nat,m≤20000->m<sizeLine:=fun m h=>AM h (by decide)
theorem adl:∀ys L Q,dr ys L Q->x8 oC 4 ys L Q:=by
 rintro ys L Q ⟨n0,m,rfl,hm,q⟩;have big:=bg_;intro p hp;refine⟨⟨Bp _,by omega⟩,?_⟩;rw[BA];refine eK (fun i τ L'=>∃(n:Int) (p:Addr) (bs:List Nat) (c3:Option Y),τ=[some (.int n),some (.int (m:Int)),some (.ref p),c3]/\qf L L'/\L p=none/\L' p=some (.lst (nY bs))/\bs.length=i/\(∀b∈bs,b=0\/b=1)/\n0=(wm bs:Int)+((2 ^ i:Nat):Int)*n) ⟨n0,p,[],_,rfl,By hp,hp,q8,rfl,(fun b hb=>by cases hb),by show n0=((0:Nat):Int)+((1:Nat):Int)*n0;omega⟩ ?_ ?_
 ·rintro i τ L' hi ⟨n,p,bs,c3,rfl,s,np,g,hl,hb,hv⟩;refine⟨(show(0:Int)<2 by decide),fun p1 h1=>?_⟩;obtain⟨b,eb,hb2⟩:∃b:Nat,n % 2=(b:Int)/\(b=0\/b=1):=⟨(n % 2).toNat,by omega,by omega⟩;refine⟨_,_,q8,By h1 _ _ g,by rw[xm];exact Bi (big _ (by show 1+bs.length≤20000;omega)),fun p2 h2=>?_⟩;refine⟨⟨by decide,by decide⟩,_,DA _,_,p2,b::bs,_,rfl,(s.trans (By h1)).trans (By h2),j9 s (vg h2),?_,by rw[AD,hl],(fun z hz=>?_),?_⟩
  ·rw[q8];show some (LO.lst ([Y.int (n % 2)]++nY bs))=_;rw[eb];rfl
  ·rcases AC.mp hz with rfl | hz
   ·exact hb2
   ·exact hb z hz
  ·have e1:(wm (b::bs):Int)=(b:Int)*((2 ^ i:Nat):Int)+(wm bs:Int):=by rw[wm,hl];push_cast;rfl
   have e2:((2 ^ (i+1):Nat):Int)=((2 ^ i:Nat):Int)*2:=by rw[Dk];push_cast;rfl
   have e3:n=2*(n / 2)+(b:Int):=by rw[<-eb];omega
   rw[hv,e1,e2];generalize ((2 ^ i:Nat):Int)=P;show(wm bs:Int)+P*n=(b:Int)*P+(wm bs:Int)+P*2*(n / 2);generalize n / 2=h at e3;rw[e3,Int.mul_add,Int.mul_assoc,Int.mul_comm (b:Int) P];omega
 ·rintro τ L' ⟨n,p,bs,c3,rfl,s,np,g,hl,hb,hv⟩;exact ac (DP s g) (q p bs np hl hb ⟨n,hv⟩)
theorem mO(l:List Nat):nY l=(l.map fun n:Nat=>(n:Int)).map Y.int:=by unfold nY;rw[BI];rfl
theorem aaa{c:Int}(h:∀x∈ns,x=c)(hp:0<ns.length):kG ns=1:=by
 have key:∀i,i<ns.length->PyProof.Rows.firstMet (fun i=>ns.getD i 0) (i+1)=[c]:=by
  intro i
  induction i with
  |zero=>
   intro hi;rw[B4,PyProof.Rows.firstMet_zero];have e:ns.getD 0 0=c:=by rw[AQ,Ae hi];exact h _ (Ct hi)
   rw[e];unfold PyProof.Rows.step_dedup;rfl
  |succ i ih=>
   intro hi;rw[B4,ih (by omega)];have e:ns.getD (i+1) 0=c:=by rw[AQ,Ae hi];exact h _ (Ct hi)
   rw[e];unfold PyProof.Rows.step_dedup;rw[Av (by simp)]
 unfold kG;obtain⟨m,e⟩:∃m,ns.length=m+1:=⟨ns.length - 1,by omega⟩;rw[e,key m (by omega)];rfl
theorem nF(ns:List Int):∀i j,j<i->ns.getD j 0∈PyProof.Rows.firstMet (fun i=>ns.getD i 0) i
 |0,j,h=>absurd h (CF _)
 |i+1,j,h=>by
  rw[B4];unfold PyProof.Rows.step_dedup;by_cases c:j=i
  ·subst c;split
   ·rename_i h;simpa using h
   ·exact Ao _ (Ai.mpr rfl)
  ·have ih:=nF ns i j (by omega);split
   ·exact ih
   ·exact AF _ ih
theorem ad0(h:kG ns=1){a b:Nat}(ha:a<ns.length)(hb:b<ns.length):ns.getD a 0=ns.getD b 0:=by have h1:=nF ns _ a ha;have h2:=nF ns _ b hb;obtain⟨c,hc⟩:=List.length_eq_one_iff.mp h;rw[hc] at h1 h2;rw[Ai.mp h1,Ai.mp h2]
theorem wU{ks:List (Option Kn)}:∀{es bs:List Nat} {p b:Nat},bs[es.length]?=some b->ad ks (es++[p]) bs=ad ks es bs++[(p,gy ks p b)]
 |[],[],_,_,h=>by cases h
 |[],c::bs,p,b,h=>by cases h;rfl
 |q::r,[],p,b,h=>by cases h
 |q::r,c::bs,p,b,h=>by have:=wU (ks:=ks) (es:=r) (bs:=bs) (p:=p) (b:=b) (by simpa using h);show(q,gy ks q c)::ad ks (r++[p]) bs=(q,gy ks q c)::(ad ks r bs++[(p,gy ks p b)]);rw[this]
def OnE(ks:List (Option Kn))(lk ch:List (Nat×Nat))(x:Nat×Nat):Prop:=x∈lk\/(∃p q,ks[x.1]?=some (some (.nd false p q))/\(x.2=p\/x.2=q))\/x∈ch
structure Sw(ks:List (Option Kn))(lk:List (Nat×Nat))(bs:List Nat)(i:Nat)(es:List (Nat×Nat)):Prop where
 ex:∀x∈lk,x∈es
 bo:∀r,r<i->∀p q,ks[r]?=some (some (.nd false p q))->(r,p)∈es/\(r,q)∈es
 ei:∀x∈ad ks (vt (zk true) ks i) bs,x∈es
 on:∀x∈es,OnE ks lk (ad ks (vt (zk true) ks i) bs) x
 bd:∀x∈es,x.1<ks.length/\x.2<ks.length
 ln:es.length≤lk.length+2*i
theorem Sw.next{bs:List Nat}{es ms c:List (Nat×Nat)}(h:Sw ks lk bs i es)(hm:ms.length≤2)(hb:∀x∈ms,x.1<ks.length/\x.2<ks.length)
 (h1:∀p q,ks[i]?=some (some (.nd false p q))->(i,p)∈ms/\(i,q)∈ms) (h2:ad ks (vt (zk true) ks (i+1)) bs=ad ks (vt (zk true) ks i) bs++c) (h3:∀x∈c,x∈ms) (h4:∀x∈ms,x∈c\/∃p q,ks[x.1]?=some (some (.nd false p q))/\(x.2=p\/x.2=q)):Sw ks lk bs (i+1) (es++ms):=by
 refine⟨fun x hx=>AF _ (h.ex x hx),fun r hr p q e=>?_,fun x hx=>?_,fun x hx=>?_,fun x hx=>?_,?_⟩
 ·by_cases c:r=i
  ·subst c;obtain⟨a,b⟩:=h1 p q e;exact⟨Ao _ a,Ao _ b⟩
  ·obtain⟨a,b⟩:=h.bo r (by omega) p q e;exact⟨AF _ a,AF _ b⟩
 ·rw[h2] at hx;exact(AA.mp hx).elim (fun z=>AF _ (h.ei x z)) fun z=>Ao _ (h3 x z)
 ·rw[h2];rcases AA.mp hx with hx | hx
  ·rcases h.on x hx with z | z | z
   ·exact .inl z
   ·exact .inr (.inl z)
   ·exact .inr (.inr (AF _ z))
  ·exact(h4 x hx).elim (fun z=>.inr (.inr (Ao _ z))) fun z=>.inr (.inl z)
 ·rcases AA.mp hx with hx | hx
  ·exact h.bd x hx
  ·exact hb x hx
 ·have:=h.ln;rw[Ab];omega
theorem acu{x:Nat×Nat}{p:Nat}(h:ks[x.1]?=some (some (.nd false p q)))(hx:x.2=p\/x.2=q):x∈ze ks lk []:=by unfold ze ju;refine Ao _ (Bx.mpr ⟨x.1,vN h rfl (zc h),?_⟩);rw[h];refine A5.mpr ⟨x.2,?_,rfl⟩;show x.2∈[p,q];rcases hx with e | e<;>rw[e]<;>simp
theorem yO{f:Option Kn->Bool}{k:Option Kn}(e:ks[i]?=some k)(hf:f k=true):(vt f ks i).length<(vt f ks ks.length).length:=by
 have hi:=zc e;have h1:(vt f ks (i+1)).length=(vt f ks i).length+1:=by rw[a8 e,Av hf,Ab];rfl
 have h2:(vt f ks (i+1)).length≤(vt f ks ks.length).length:=by rw[ko _ _ _ (by omega),ko _ _ _ (Ag _),AB];exact(BZ _ _).countP_le
 omega
def mrk(lo hi:Nat)(ms:List Nat):List Nat:=ms.map fun x=>if x=hi then lo else x
theorem mU{lo hi:Nat}{ms:List Nat}{a:Nat}(h:a<ms.length):(mrk lo hi ms).getD a 0=if ms.getD a 0=hi then lo else ms.getD a 0:=by unfold mrk;rw[AQ,Ak,AQ,Ae h];rfl
def am:j4:=fun ys L Q=>∃k l c,∃ks:List (Option Kn),∃lk:List (Nat×Nat),∃bs:List Nat,ys=[.ref k,.ref l,.ref c]/\L k=some (.lst (bw ks))/\L l=some (.lst (zf lk))/\L c=some (.lst (nY bs))/\(∀k∈ks,k≠none)/\KnR ks/\(∀x∈lk,x.1<ks.length/\x.2<ks.length)/\lk.length≤100/\bs.length=(qx true ks).length/\(∀b∈bs,b=0\/b=1)/\1≤ks.length/\ks.length≤100/\∀d:Int,(d=1↔bZ ks.length ks (ze ks lk []++ad ks (qx true ks) bs) [])->Q (.int d) L
theorem u9:∀ys L Q,am ys L Q->x8 kU 12 ys L Q:=by
 rintro ys L Q ⟨k,l,c,ks,lk,bs,rfl,hk,hl,hc,hno,hr,hlk,hll,hbs,hb01,h1,h100,q⟩;have big:=bg_;have lw:(bw ks).length=ks.length:=Aa ..;refine qg hk ⟨⟨Bp _,by rw[lw];omega⟩,fun mk hmk=>?_⟩;rw[lw,BA,sV];have s1:qf L (qd L mk (.lst (nY (List.range ks.length)))):=By hmk;have g1:qd L mk (.lst (nY (List.range ks.length))) mk=some (.lst (nY (List.range ks.length))):=q8;generalize qd L mk (.lst (nY (List.range ks.length)))=L1 at s1 g1 ⊢;refine qg (s1 _ _ hl) fun ed hed=>?_;have s2:=s1.trans (By (o:=.lst (zf lk)) hed);have g2:=By (o:=.lst (zf lk)) hed _ _ g1;have e2:qd L1 ed (.lst (zf lk)) ed=some (.lst (zf lk)):=q8;have ned:L ed=none:=j9 s1 hed;generalize qd L1 ed (.lst (zf lk))=L2 at s2 g2 e2 ⊢;refine jo (s2 _ _ hk) fun keep kp=>aN ⟨fun i τ L'=>∃(ed:Addr) (es:List (Nat×Nat)) (c6 c7:Option Y),τ=[some (.ref k),some (.ref l),some (.ref c),some (.ref mk),some (.ref ed),some (.int ((vt (zk true) ks i).length:Int)),c6,c7,none,none,none,none]/\qf L L'/\L ed=none/\ed≠mk/\L' mk=some (.lst (nY (List.range ks.length)))/\L' ed=some (.lst (zf es))/\Sw ks lk bs i es,⟨ed,lk,_,_,rfl,s2,ned,AS (ki g1 hed),g2,e2,⟨fun x hx=>hx,fun r hr=>absurd hr (CF _),(fun x hx=>by cases hx),(fun x hx=>.inl hx),hlk,by omega⟩⟩,?_,?_,?_⟩
 ·rintro i τ L' ⟨ed,es,c6,c7,rfl,s,_⟩;exact kp L' (by rw[s _ _ hk,s2 _ _ hk])
 ·rintro i y τ L' hy ⟨ed,es,c6,c7,rfl,s,ned,nem,gm,ge,W⟩;obtain⟨z,ez,rfl⟩:=aw hy;rw[Ak] at ez;obtain⟨kn,ek,rfl⟩:=Aj.mp ez;have hi:=zc ek;have wl:=W.ln;have ws:=a8 (f:=zk true) ek;cases kn with
  |none=>exact absurd rfl (hno none (An ek))
  |some kn=>
   have skip:(∀e p q,kn≠.nd e p q)->bT (fun τ L'=>∃(ed:Addr) (es:List (Nat×Nat)) (c6 c7:Option Y),τ=[some (.ref k),some (.ref l),some (.ref c),some (.ref mk),some (.ref ed),some (.int ((vt (zk true) ks (i+1)).length:Int)),c6,c7,none,none,none,none]/\qf L L'/\L ed=none/\ed≠mk/\L' mk=some (.lst (nY (List.range ks.length)))/\L' ed=some (.lst (zf es))/\Sw ks lk bs (i+1) es) [some (.ref k),some (.ref l),some (.ref c),some (.ref mk),some (.ref ed),some (.int ((vt (zk true) ks i).length:Int)),some (.int ((i:Nat):Int)),some (hG kn),none,none,none,none] L':=fun hn=>by
    have hf:zk true (some kn)=false:=by cases kn with|lf t n=>rfl|nd e p q=>exact absurd rfl (hn e p q)
    rw[hf,As Aq,AL] at ws;have W1:=W.next (ms:=[]) (c:=[]) (by decide) (fun x hx=>by cases hx) (fun p q e=>by rw[ek] at e;exact absurd (AK (AK e)) (hn _ _ _)) (by rw[ws,AL]) (fun x hx=>by cases hx) (fun x hx=>by cases hx);rw[AL] at W1;exact⟨_,DA _,ed,es,_,_,by rw[ws],s,ned,nem,gm,ge,W1⟩
   cases kn with
   |lf t n=>
    have z:=skip fun e p q z=>by cases z
    cases t<;>exact⟨fun τ' L''=>τ'=[some (.ref k),some (.ref l),some (.ref c),some (.ref mk),some (.ref ed),some (.int ((vt (zk true) ks i).length:Int)),some (.int ((i:Nat):Int)),some (hG (.lf _ n)),none,none,none,none]/\L''=L',⟨rfl,rfl⟩,by rintro τ' L'' ⟨rfl,rfl⟩;exact z⟩
   |nd e p q=>
    obtain⟨hp,hq⟩:=hr i e p q ek;cases e with
    |false=>
     have hf:zk true (some (Kn.nd false p q))=false:=rfl;rw[hf,As Aq,AL] at ws;refine⟨fun τ' L''=>∃ed',τ'=[some (.ref k),some (.ref l),some (.ref c),some (.ref mk),some (.ref ed'),some (.int ((vt (zk true) ks i).length:Int)),some (.int ((i:Nat):Int)),some (hG (.nd false p q)),none,none,none,none]/\qf L L''/\L ed'=none/\ed'≠mk/\L'' mk=some (.lst (nY (List.range ks.length)))/\L'' ed'=some (.lst (zf (es++[(i,p),(i,q)]))),?_,?_⟩
     ·intro p1 hp1;refine⟨_,_,By hp1 _ _ ge,q8,by rw[Aa];exact Bi (big _ (by show es.length+2≤20000;omega)),fun p2 hp2=>?_⟩;have v:=(By (o:=.lst [.tup [.int ((i:Nat):Int),.int ((p:Nat):Int)],.tup [.int ((i:Nat):Int),.int ((q:Nat):Int)]]) hp1);refine⟨p2,rfl,(s.trans v).trans (By hp2),j9 s (j9 v hp2),AS (ki (v _ _ gm) hp2),By hp2 _ _ (v _ _ gm),?_⟩;rw[q8];unfold zf;rw[Az];rfl
     ·rintro τ' L'' ⟨ed',rfl,s',n',nm',gm',ge'⟩;have W1:=W.next (ms:=[(i,p),(i,q)]) (Ag 2) (fun x hx=>by
       rcases AC.mp hx with rfl | hx
       ·exact⟨hi,hp⟩
       ·rw[Ai.mp hx];exact⟨hi,hq⟩) (fun p' q' e=>by rw[ek] at e;cases e;simp) (c:=[]) (by rw[ws,AL]) (fun x hx=>by cases hx) (fun x hx=>.inr ⟨p,q,by
       rcases AC.mp hx with rfl | hx
       ·exact⟨ek,.inl rfl⟩
       ·rw[Ai.mp hx];exact⟨ek,.inr rfl⟩⟩)
      exact⟨_,DA _,ed',_,_,_,by rw[ws],s',n',nm',gm',ge',W1⟩
    |true=>
     have hf:zk true (some (Kn.nd true p q))=true:=rfl;rw[Av hf] at ws;refine⟨fun τ' L''=>τ'=[some (.ref k),some (.ref l),some (.ref c),some (.ref mk),some (.ref ed),some (.int ((vt (zk true) ks i).length:Int)),some (.int ((i:Nat):Int)),some (hG (.nd true p q)),none,none,none,none]/\L''=L',⟨rfl,rfl⟩,?_⟩;rintro τ' L'' ⟨rfl,rfl⟩;have lt:=yO ek hf;obtain⟨b,hb⟩:∃b,bs[(vt (zk true) ks i).length]?=some b:=⟨_,Ae (by rw[hbs];exact lt)⟩;have hb2:=hb01 b (An hb);refine qg ge (qg (s _ _ hc) (qq (ai hb) ?_));obtain⟨m,hm,em⟩:∃m,((m=p\/m=q)/\gy ks i b=m)/\bW [Y.str (kN true),.int ((p:Nat):Int),.int ((q:Nat):Int)] (1+((b:Nat):Int))=some (.int ((m:Nat):Int)):=by
      rcases hb2 with rfl | rfl
      ·exact⟨p,⟨.inl rfl,ak ek 0⟩,rfl⟩
      ·exact⟨q,⟨.inr rfl,ak ek 1⟩,rfl⟩
     refine qq em (z0 ge ⟨by rw[Aa];exact big _ (by omega),?_⟩);have W1:=W.next (ms:=[(i,m)]) (c:=[(i,m)]) (B1 1) (fun x hx=>by rw[Ai.mp hx];refine⟨hi,?_⟩;rcases hm.1 with rfl | rfl;exact hp;exact hq) (fun p' q' e=>by rw[ek] at e;cases e) (by rw[ws,wU hb,hm.2]) (fun x hx=>hx) (fun x hx=>.inl hx);refine⟨_,DA _,ed,es++[(i,m)],some (.int ((i:Nat):Int)),some (hG (.nd true p q)),?_,s.upd ned,ned,nem,(qe (AS nem)).trans gm,?_,W1⟩
     ·rw[ws,Ab];rfl
     ·rw[q8];unfold zf;rw[Az];rfl
 rintro τ L' ⟨ed,es,c6,c7,rfl,s,ned,nem,gm,ge,W⟩;rw[aS,lw] at W;have wl:=W.ln;refine jo ge fun keep kp=>aN ⟨fun i τ L''=>∃(mk:Addr) (ms:List Nat) (c5 c6 c7 c8 c9 c10 c11:Option Y),τ=[some (.ref k),some (.ref l),some (.ref c),some (.ref mk),some (.ref ed),c5,c6,c7,c8,c9,c10,c11]/\qf L L''/\L'' ed=some (.lst (zf es))/\L'' mk=some (.lst (nY ms))/\ms.length=ks.length/\(∀x∈es.take i,ms.getD x.1 0=ms.getD x.2 0)/\∀R,yk R->(∀x∈es,R x.1 x.2)->∀a b,a<ks.length->b<ks.length->ms.getD a 0=ms.getD b 0->R a b,⟨mk,_,_,_,_,_,_,_,_,rfl,s,ge,gm,AZ,(fun x hx=>by cases hx),fun R E _ a b ha hb e=>?_⟩,?_,?_,?_⟩
 ·rw[AQ,AQ,Bv ha,Bv hb] at e;have e:a=b:=e;rw[e];exact E.r _
 ·rintro i τ L'' ⟨mk,ms,c5,c6,c7,c8,c9,c10,c11,rfl,s',ge',_⟩;exact kp L'' (by rw[ge',ge])
 ·rintro i y τ L'' hy ⟨mk,ms,c5,c6,c7,c8,c9,c10,c11,rfl,s',ge',gm',lm,eqs,fi⟩;rw[Ak] at hy;obtain⟨x,ex,rfl⟩:=Aj.mp hy;obtain⟨x1,x2⟩:=W.bd x (An ex);have at_:∀{a:Nat},a<ks.length->ms[a]?=some (ms.getD a 0):=fun {a} h=>by rw[AQ,Ae (by omega)];rfl
  refine qg gm' (qq (ai (at_ x1)) (qg gm' (qq (ai (at_ x2)) ?_)));refine jo gm' fun keep kp=>bK (fun i zs=>zs=nY (mrk (ms.getD x.1 0) (ms.getD x.2 0) (ms.take i))) (by rw[xm];exact big _ (by omega)) (kp _ rfl) rfl ?_ ?_
  ·rintro j y zs hy rfl;obtain⟨m,em,rfl⟩:=bH hy;have et:mrk (ms.getD x.1 0) (ms.getD x.2 0) (ms.take (j+1))=mrk (ms.getD x.1 0) (ms.getD x.2 0) (ms.take j)++[if m=ms.getD x.2 0 then ms.getD x.1 0 else m]:=by unfold mrk;rw[AH,em,Az];rfl
   show ku (decide (((m:Nat):Int)=((ms.getD x.2 0:Nat):Int))) _ _;rw[cf];by_cases c:m=ms.getD x.2 0
   ·refine dX (Al c) ⟨_,DA _,rfl,?_⟩;rw[et,Av c,dc];rfl
   ·refine v5 (Am c) ⟨_,DA _,rfl,?_⟩;rw[et,As c,dc];rfl
  rintro zs rfl p7 h7;rw[xm,AB];refine⟨_,DA _,p7,_,_,_,_,_,_,_,_,rfl,s'.trans (By h7),By h7 _ _ ge',q8,by unfold mrk;rw[Aa];exact lm,(fun z hz=>?_),fun R E c a b ha hb e=>?_⟩
  rotate_right
  ·rw[mU (by omega),mU (by omega)] at e;have hx:=c x (An ex);have f:=fi R E c;by_cases c1:ms.getD a 0=ms.getD x.2 0
   ·by_cases c2:ms.getD b 0=ms.getD x.2 0
    ·exact f a b ha hb (c1.trans c2.symm)
    ·rw[Av c1,As c2] at e;exact E.t (E.t (f a x.2 ha x2 c1) (E.s hx)) (f x.1 b x1 hb e)
   ·by_cases c2:ms.getD b 0=ms.getD x.2 0
    ·rw[As c1,Av c2] at e;exact E.t (f a x.1 ha x1 e) (E.t hx (f x.2 b x2 hb c2.symm))
    ·rw[As c1,As c2] at e;exact f a b ha hb e
  have et:es.take (i+1)=es.take i++[x]:=by rw[AH,ex];rfl
  rw[et] at hz;have zb:z.1<ks.length/\z.2<ks.length:=by
   rcases AA.mp hz with hz | hz
   ·exact W.bd z (CA hz)
   ·rw[Ai.mp hz];exact⟨x1,x2⟩
  rw[mU (by omega),mU (by omega)];rcases AA.mp hz with hz | hz
  ·rw[eqs z hz]
  ·rw[Ai.mp hz,Av (rfl:ms.getD x.2 0=_)];split<;>rfl
 ·rintro τ L'' ⟨mk,ms,c5,c6,c7,c8,c9,c10,c11,rfl,s',ge',gm',lm,eqs,fi⟩;rw[Aa,AB] at eqs;refine z0 gm' ⟨_,mO ms,by rw[Aa];omega,ac s' (q _ ⟨fun d R r s t hp _ a b ha hb=>?_,fun C=>?_⟩)⟩
  ·have d:kG (ms.map fun n:Nat=>(n:Int))=1:=by have d:((kG (ms.map fun n:Nat=>(n:Int)):Nat):Int)=1:=d;omega
   have e:=ad0 d (a:=a) (b:=b) (by rw[Aa];omega) (by rw[Aa];omega);have at_:∀{a:Nat},a<ks.length->(ms.map fun n:Nat=>(n:Int)).getD a 0=((ms.getD a 0:Nat):Int):=fun {a} h=>by rw[AQ,Ak,AQ,Ae (by omega)];rfl
   rw[at_ ha,at_ hb] at e;refine fi R ⟨r,fun {a b}=>s a b,fun {a b c}=>t a b c⟩ (fun x hx=>?_) a b ha hb (by omega);rcases W.on x hx with z | ⟨p,q,e1,e2⟩ | z
   ·exact hp x (AF _ (AF _ (AF _ z)))
   ·exact hp x (AF _ (acu e1 e2))
   ·exact hp x (Ao _ z)
  ·have all:∀a b,a<ks.length->b<ks.length->ms.getD a 0=ms.getD b 0:=by
    refine C (fun a b=>ms.getD a 0=ms.getD b 0) (fun _=>rfl) (fun _ _ h=>h.symm) (fun _ _ _ h g=>h.trans g) (fun x hx=>?_) (fun p hp=>by cases hp);rcases AA.mp hx with hx | hx
    ·rcases AA.mp hx with hx | hx
     ·rw[AL] at hx;exact eqs x (W.ex x hx)
     ·unfold ju at hx;obtain⟨r,hr,hx⟩:=Bx.mp hx;obtain⟨_,kn,ek,hk⟩:=bL hr;rw[ek] at hx;cases kn with
      |none=>cases hk
      |some kn=>
       cases kn with
       |lf t n=>cases hk
       |nd e p q=>
        cases e with
        |true=>cases hk
        |false=>
         obtain⟨a,b⟩:=W.bo r (zc ek) p q ek;have hx:x∈[(r,p),(r,q)]:=hx;rcases AC.mp hx with rfl | hx
         ·exact eqs _ a
         ·rw[Ai.mp hx];exact eqs _ b
    ·exact eqs x (W.ei x hx)
   have d:kG (ms.map fun n:Nat=>(n:Int))=1:=by refine aaa (c:=((ms.getD 0 0:Nat):Int)) (fun x hx=>?_) (by rw[Aa];omega);obtain⟨m,hm,rfl⟩:=A5.mp hx;obtain⟨a,ha⟩:=BJ hm;have:=all a 0 (by have:=zc ha;omega) (by omega);rw[<-this,AQ,ha];rfl
   rw[d];rfl
def kR(p0:j4):k6:=(qm (v4 (dY (yB (dN .list (qa 1)))) (zr (yC (.bl false))) je)
 (qm (z8 (vj zj) (qb 2))
 (qm (wt (jq (qa 1)) (qb 3) (qm (v4 (mj (dY (yB (dN .tuple (qa 3)))) (mj (oN (fV 3) (jm 2)) (mj (dY (yB (qz p0 (vv (k8 3 0))))) (dY (yB (qz p0 (vv (k8 3 1)))))))) (zr (yC (.bl false))) je)
 (qm (v4 (dY (yB (r9 (jm 0) (sG yLe (k8 3 0) (sG yLt (k8 3 1) (yK yLt (fV 0))))))) (zr (yC (.bl false))) je)
 (qm (ah2 4 5 (qj (zg be (qa 0) (k8 3 0)) (qj (zg be (qa 0) (k8 3 1)) zj)))
 (qm (v4 (mj (oN (fV 4) (jm 2)) (mj (oN (fV 5) (jm 2)) (mj (mf (k8 4 0) (k8 5 0)) (oN (k8 4 1) (k8 5 1))))) (zr (yC (.bl false))) je)
 (z8 (zg jk (qa 2) (vj (dh (k8 3 0) (k8 3 1)))) (qb 2)))))))
 (qm (z8 (oG 1 (cP (vv (fV 0))) (qb 7) (mf (lZ kD (qj (zg be (qa 0) (qa 7)) zj)) (jm 2)) (qa 7)) (qb 6))
 (zr (oX (zg (oV false) (lZ rD (vv (qa 2))) (qa 6)) (zg (oV false) (qa 1) (lZ nO (vv (qa 1))))))))))
theorem wK{L:qo}:∀xs:List Int,Paired (xo L 0) (xs.map Y.int) (xs.map fun x=>Da.s (.int x))
 |[]=>.nil
 |_::r=>.cons ⟨rfl,rfl⟩ (wK r)
theorem akr:∀xs:List Int,Da.eqs (xs.map fun x=>Da.s (.int x)) (xs.map fun x=>Da.s (.int x))=true
 |[]=>rfl
 |x::r=>by rw[Ay,Da.eqs,akr r];simp[Da.eq,kO]
def gA(x:Nat×Nat):Da:=.tup [.s (.int (x.1:Int)),.s (.int (x.2:Int))]
theorem og{L:qo}:∀l:List (Nat×Nat),Paired (xo L 1) (zf l) (l.map gA)
 |[]=>.nil
 |_::r=>.cons (iY (.cons (xo.int _) (.cons (xo.int _) .nil))) (og r)
theorem aj0:∀l:List (Nat×Nat),Da.eqs (l.map gA) (l.map gA)=true
 |[]=>rfl
 |x::r=>by rw[Ay,Da.eqs,aj0 r];simp[gA,Da.eq,Da.eqs,kO]
theorem agt{c:Nat×Nat}(h:lk[i]?=some c):jy (lk.take (i+1))=jy (lk.take i)++[c.1,c.2]:=by rw[AH,h];show jy (lk.take i++[c])=_;rw[cD,cG]
structure LkS(ks:List (Option Kn))(lk:List (Nat×Nat)):Prop where
 at_:∀y∈lk,Lk1 ks y
 nd:(jy lk).Nodup
 all:∀p,p∈jy lk↔p∈vt vf ks ks.length
 pw:lk.Pairwise ir
 nod:lk.Nodup
 ln:lk.length≤20
 no:∀k∈ks,k≠none
 len:ks.length≤100
def cr:j4:=fun ys L Q=>∃k l,∃ks:List (Option Kn),∃lk:List (Nat×Nat),ys=[.ref k,.ref l]/\L k=some (.lst (bw ks))/\L l=some (.lst (zf lk))/\LkS ks lk/\Q (.bl true) L
theorem um:∀ys L Q,cr ys L Q->x8 (kR fK) 7 ys L Q:=by
 rintro ys L Q ⟨k,l,ks,lk,rfl,hk,hl,S,q⟩;have big:=bg_;have ll:=S.ln;have kl:=S.len;have lw:(bw ks).length=ks.length:=Aa ..;refine mi hl ?_;intro sa hsa;have s1:qf L (qd L sa (.lst [])):=By hsa;refine jo (s1 _ _ hl) fun keep kp=>aN ⟨fun i τ L'=>∃(sa:Addr) (c3 c4 c5:Option Y),τ=[some (.ref k),some (.ref l),some (.ref sa),c3,c4,c5,none]/\qf L L'/\L' sa=some (.lst (nY (jy (lk.take i)))),⟨sa,_,_,_,rfl,s1,q8⟩,?_,?_,?_⟩
 ·rintro i τ L' ⟨sa,c3,c4,c5,rfl,s,_⟩;exact kp L' (by rw[s _ _ hl,s1 _ _ hl])
 ·rintro i y τ L' hy ⟨sa,c3,c4,c5,rfl,s,g⟩;rw[Ak] at hy;obtain⟨c,ec,rfl⟩:=Aj.mp hy;obtain⟨lt,t,n,h1,h2⟩:=S.at_ c (An ec);have hr:=zc h2;have pl:=eJ (lk.take i);rw[AJ] at pl;refine⟨_,rfl,⟨_,rfl,v5 rfl ?_⟩⟩;refine dX (Al (Int.ofNat_lt.mpr lt)) (qg (s _ _ hk) ?_);refine v5 (by show(!decide ((c.2:Int)<((bw ks).length:Int)))=false;rw[lw,Al (Int.ofNat_lt.mpr hr)];rfl) ?_;refine qg (s _ _ hk) (qq (ai h1) (qg (s _ _ hk) (qq (ai h2) ?_)));have rest:ku (!decide (n=n)) (cV Q (.bl false) L') (∀p1,L' p1=none->∃xs zs,qd L' p1 (.lst [.int ((c.1:Nat):Int),.int ((c.2:Nat):Int)]) sa=some (.lst xs)/\qd L' p1 (.lst [.int ((c.1:Nat):Int),.int ((c.2:Nat):Int)]) p1=some (.lst zs)/\xs.length+zs.length≤sizeLine/\∀p2,qd L' p1 (.lst [.int ((c.1:Nat):Int),.int ((c.2:Nat):Int)]) p2=none->bT (fun τ L'=>∃(sa:Addr) (c3 c4 c5:Option Y),τ=[some (.ref k),some (.ref l),some (.ref sa),c3,c4,c5,none]/\qf L L'/\L' sa=some (.lst (nY (jy (lk.take (i+1)))))) [some (.ref k),some (.ref l),some (.ref p2),some (prN c),some (gz (some (.lf t n))),some (gz (some (.lf (!t) n))),none] (qd (qd L' p1 (.lst [.int ((c.1:Nat):Int),.int ((c.2:Nat):Int)])) p2 (.lst (xs++zs)))):=by refine v5 (by simp) fun p1 hp1=>?_;refine⟨_,_,By hp1 _ _ g,q8,by rw[xm];exact Bi (big _ (by show _+2≤20000;omega)),fun p2 hp2=>?_⟩;refine⟨_,DA _,p2,_,_,_,rfl,(s.trans (By hp1)).trans (By hp2),?_⟩;rw[q8,agt ec,dc];rfl
  cases t<;>exact rest
 rintro τ L' ⟨sa,c3,c4,c5,rfl,s,g⟩;rw[Aa,AB] at g;have k1:=s _ _ hk;refine qg k1 ⟨⟨Bp _,by rw[lw];omega⟩,?_⟩;rw[lw,BA];refine yy (fun i zs=>zs=nY (vt vf ks i)) (big _ (by omega)) rfl ?_ ?_
 ·rintro i zs hi rfl;obtain⟨kn,ek⟩:∃k,ks[i]?=some k:=⟨_,Ae hi⟩;have e0:bW (bw ks) (0+(i:Int))=some (gz kn):=by rw[CK];exact ai ek
  have no:vf kn=false->bT (fun zs L2=>L2=L'/\zs=nY (vt vf ks (i+1))) (nY (vt vf ks i)) L':=fun h=>⟨L',DA _,rfl,by rw[a8 ek,As (by rw[h];exact Aq),AL]⟩;have yes:vf kn=true->bT (fun zs L2=>L2=L'/\zs=nY (vt vf ks (i+1))) (nY (vt vf ks i)++[.int (0+(i:Int))]) L':=fun h=>⟨L',DA _,rfl,by rw[a8 ek,Av h,dc,CK];rfl⟩;refine qg k1 (qq e0 ?_);cases kn with
  |none=>exact absurd rfl (S.no none (An ek))
  |some kn=>
   cases kn with|lf t n=>exact yes rfl|nd e i' j'=>exact no rfl
 rintro zs rfl p6 h6;have s6:=s.trans (By (o:=.lst (nY (vt vf ks ks.length))) h6);have pl:=eJ lk;have wn:(vt vf ks ks.length).Nodup:=by unfold vt;exact Bw.filter _
 have p2:(jy lk).Perm (vt vf ks ks.length):=(List.perm_ext_iff_of_nodup S.nd wn).mpr S.all;have wp:(vt vf ks ks.length).Pairwise fun a b=>a<b:=by unfold vt;exact List.Pairwise.filter _ List.pairwise_lt_range
 refine z0 (By h6 _ _ g) ⟨_,mO _,cH (fun _ _ _ _ e=>Int.ofNat_inj.mp e) S.nd,by rw[Aa];omega,fun D ms hD pm pw=>?_⟩;have em:ms=(vt vf ks ks.length).map fun n:Nat=>(n:Int):=by refine C6 (le:=fun a b:Int=>a≤b) (fun a b _ _ h1 h2=>Int.le_antisymm h1 h2) pw ?_ (pm.trans (p2.map _));exact BB.mpr (wp.imp fun h=>Int.ofNat_le.mpr (Bi h))
 subst em;have s7:=s6.trans (By (o:=.lst (((vt vf ks ks.length).map fun n:Nat=>(n:Int)).map Y.int)) hD);refine⟨rfl,rfl,1,1,_,_,by decide,.inr (.inr ⟨_,_,rfl,rfl,z9 q8,wK _⟩),.inr (.inr ⟨_,_,rfl,rfl,z9 (By hD _ _ q8),(by rw[mO];exact wK _)⟩),?_⟩;refine dX (by show Da.eqs _ _=true;exact akr _) ?_;refine z0 (s7 _ _ hl) ⟨lk.map yT,ml lk,fun p hp=>?_,?_,by rw[Aa];omega,fun D2 qs hD2 pq wq=>?_⟩
 ·obtain⟨r,hr,rfl⟩:=A5.mp hp;obtain⟨_,t,n,_,h2⟩:=S.at_ r hr;have:=zc h2;show(0:Int)≤((r.2:Nat):Int)/\((r.2:Nat):Int)<1000000;omega
 ·exact cH (fun x _ y _ e=>by have e1:((x.1:Nat):Int)=(y.1:Int):=A4 Prod.fst e;have e2:((x.2:Nat):Int)=(y.2:Int):=A4 Prod.snd e;exact Du (by omega) (by omega)) S.nod
 have eq:qs=lk.map yT:=by
  refine C6 (le:=im) (fun a b _ _ h1 h2=>?_) wq ?_ pq
  ·unfold im at h1 h2;exact Du (by omega) (by omega)
  ·refine BB.mpr (S.pw.imp fun {a b} h=>?_);unfold ir at h;show((a.1:Nat):Int)<(b.1:Int)\/(((a.1:Nat):Int)=(b.1:Int)/\((a.2:Nat):Int)≤(b.2:Int));omega
 subst eq;rw[<-ml];refine zH (n:=1) (m:=1) (by decide) (By hD2 _ _ (s7 _ _ hl)) q8 (og _) (og _) ?_;show cV Q (.bl (nb false (Da.eqs _ _))) _;rw[aj0];exact ac (s7.trans (By hD2)) q
section
def iw(ks:List (Option Kn))(i:Nat)(x:Str):Nat:=zq ((ks.take i).filterMap iN) false x
theorem jV(h:ks[i]?=some (some (.lf false x)))(y:Str):iw ks (i+1) y=iw ks i y+if x=y then 1 else 0:=by
 unfold iw;rw[AH,h,BE];show zq (_++[Wd.leaf false x]) false y=_;rw[w5];by_cases c:x=y
 ·rw[Av c,Av (by simp[al,c])]
 ·rw[As c,As (by simp[al,c])]
theorem tN(h:¬jw ks i)(y:Str):iw ks (i+1) y=iw ks i y:=by
 unfold iw;rw[AH,BE];cases e:ks[i]? with
 |none=>simp
 |some k=>
  cases k with
  |none=>exact A4 (fun l=>zq l false y) (AL _)
  |some k=>
   cases k with
   |nd e i j=>exact A4 (fun l=>zq l false y) (AL _)
   |lf t x=>
    cases t with
    |false=>exact absurd ⟨x,e⟩ h
    |true=>
     show zq (_++[Wd.leaf true x]) false y=_;rw[w5,As (by simp[al]),Dj]
theorem aii(h:i≤ks.length)(x:Str):iw ks i x≤iw ks ks.length x:=by unfold iw zq;rw[AB];exact((BZ i ks).filterMap _).countP_le
structure WyI(ks:List (Option Kn))(i:Nat)(lk:List (Nat×Nat)):Prop where
 lo:∀p∈jy lk,jw ks p->p<i
 ct:∀x,(vt (kc x) ks ks.length).countP (fun m=>decide (m∈jy lk))=iw ks i x
theorem eW{p:Nat}:p∈jy (lk++[(min i m,max i m)])↔p∈jy lk\/p=i\/p=m:=by rw[cD,cG,AA];refine or_congr_right ?_;rw[AC,Ai];show p=min i m\/p=max i m↔_;omega
theorem m6:∀i,∀lk∈ax ks i,WyI ks i lk
 |0,lk,h=>by rw[Ai.mp h];refine⟨fun p hp=>(by cases hp),fun x=>?_⟩;show List.countP (fun m=>decide (m∈([]:List Nat))) _=0;exact B8.mpr fun _ _=>by simp
 |i+1,lk,h=>by
  by_cases np:jw ks i
  ·obtain⟨x0,e0⟩:=np;rw[cu e0] at h;obtain⟨lk0,h0,h⟩:=Bx.mp h;obtain⟨m,hm,rfl⟩:=A5.mp h;obtain⟨hm,hn⟩:=Bm.mp hm;have hn:m∉jy lk0:=by simpa using hn
   have em:=eM hm;obtain⟨lo,ct⟩:=m6 i lk0 h0;refine⟨fun p hp pl=>?_,fun x=>?_⟩
   ·rcases eW.mp hp with hp | hp | hp
    ·have:=lo p hp pl;omega
    ·omega
    ·obtain⟨y,e⟩:=pl;rw[hp,em] at e;cases e
   ·rw[jV e0,<-ct x];have nd:(vt (kc x) ks ks.length).Nodup:=by unfold vt;exact Bw.filter _
    have ni:∀j∈vt (kc x) ks ks.length,j≠i:=fun j hj e=>by have:=eM hj;rw[e,e0] at this;cases this
    by_cases c:x0=x
    ·subst c;rw[Av rfl,<-wo (p:=fun j=>decide (j∈jy (lk0++[(min i m,max i m)]))) (a:=m) (Al (eW.mpr (.inr (.inr rfl)))) nd hm];congr 1;refine Bg fun j hj=>?_;rw[AV,Bq,Bq,CZ,decide_eq_false_iff_not,eW];have:=ni j hj;constructor
     ·rintro⟨a | a | a,b⟩
      ·exact a
      ·exact absurd a this
      ·exact absurd a b
     ·exact fun a=>⟨.inl a,fun e=>hn (e▸a)⟩
    ·rw[As c,Dj];refine Bg fun j hj=>?_;rw[Bq,Bq,eW];have:=ni j hj;have nm:j≠m:=fun e=>by have:=eM hj;rw[e,em] at this;cases this;exact c rfl
     exact⟨fun a=>a.elim id fun b=>b.elim (fun z=>absurd z this) fun z=>absurd z nm,.inl⟩
  ·rw[fJ np] at h;obtain⟨lo,ct⟩:=m6 i lk h;exact⟨fun p hp pl=>B0 (lo p hp pl),fun x=>by rw[tN np];exact ct x⟩
theorem o5{α β:Type}{f:α->List β}{c:Nat}:∀l:List α,(∀a∈l,(f a).length=c)->(l.flatMap f).length=l.length*c
 |[],_=>(Nat.zero_mul _).symm
 |a::r,h=>by rw[Bl,Ab,o5 r fun b hb=>h b (Af _ hb),h a (Ax ..),AD,Nat.add_mul,Dq,CJ]
theorem aaq(h:ks[i]?=some (some (.lf false x))):(ax ks (i+1)).length=(ax ks i).length*(x6 ks x - iw ks i x):=by
 rw[cu h];refine o5 _ fun lk hk=>?_;unfold ic x6;rw[Aa,<-BC,<-(m6 i lk hk).ct x];have:=Ck (fun m=>decide (m∈jy lk)) (l:=vt (kc x) ks ks.length);have e:(vt (kc x) ks ks.length).countP (fun m=>!decide (m∈jy lk))=(vt (kc x) ks ks.length).countP fun m=>decide ¬decide (m∈jy lk)=true:=Bg fun m _=>by simp
 omega
theorem tR(hev:∀x,iw ks ks.length x≤x6 ks x){nms:List Str}(nd:nms.Nodup)(hm:∀w∈ks.filterMap iN,kM w∈nms):∀i,i≤ks.length->(ax ks i).length*(nms.map fun x=>aE (x6 ks x - iw ks i x)).prod=(nms.map fun x=>aE (x6 ks x)).prod
 |0,_=>by show 1*_=_;rw[Dq];rfl
 |i+1,hi=>by
  have ih:=tR hev nd hm i (by omega);by_cases np:jw ks i
  ·obtain⟨x,e⟩:=np;have hx:kM (.leaf false x)∈nms:=hm _ (Ce.mpr ⟨_,An e,rfl⟩);have p1:=jV e x;rw[Av rfl] at p1;have:=aii hi x;have:=hev x;obtain⟨d,hd⟩:∃d,x6 ks x - iw ks i x=d+1:=⟨x6 ks x - iw ks i x - 1,by omega⟩;have hd2:x6 ks x - iw ks (i+1) x=d:=by omega
   rw[<-ih,aaq e,Cw];congr 1;rw[CL];refine(nB (x:=x) (k:=x6 ks x - iw ks i x) ?_ (fun y hy=>?_) nms nd hx).symm
   ·show aE (x6 ks x - iw ks i x)=aE (x6 ks x - iw ks (i+1) x)*_;rw[hd2,hd];rfl
   ·show aE (x6 ks y - iw ks i y)=aE (x6 ks y - iw ks (i+1) y);rw[jV e y,As (AS hy),Dj]
  ·rw[fJ np,<-ih];congr 2;refine Bk fun y _=>?_;rw[tN np]
theorem aal(he:bE (LV ws)):bz (LV ws) (ax (vz ws) (vz ws).length).length:=fun nms nd hm=>by
 have lv:(vz ws).filterMap iN=LV ws:=cY 0 ws;have pc:∀x,iw (vz ws) (vz ws).length x=zq (LV ws) false x:=fun x=>by unfold iw;rw[AB,lv]
 have mt:∀x,x6 (vz ws) x=zq (LV ws) false x:=fun x=>by rw[om,lv,he x]
 have h:=tR (ks:=vz ws) (fun x=>by rw[pc,mt];exact Ag _) nd (by rw[lv];exact hm) _ (Ag _);rw[fk (fun y=>by rw[pc,mt,Nat.sub_self];rfl) nms,Nat.mul_one] at h;rw[h];exact A4 List.prod (Bk fun x _=>by rw[mt])
theorem sD:∀i,(ax ks i).Pairwise fun a b=>¬a.Perm b
 |0=>C8 ..
 |i+1=>by
  by_cases np:jw ks i
  ·obtain⟨x,e⟩:=np;rw[cu e];have sg:∀{m m':Nat},(min i m,max i m)=(min i m',max i m')->m=m':=fun {m m'} h=>by have h1:min i m=min i m':=A4 Prod.fst h;have h2:max i m=max i m':=A4 Prod.snd h;omega
   have ih:=sD i;refine List.pairwise_flatMap.mpr ⟨fun lk _=>?_,?_⟩
   ·unfold ic;refine BB.mpr ?_;have nd:((vt (kc x) ks ks.length).filter fun m=>!decide (m∈jy lk)).Nodup:=by unfold vt;exact(Bw.filter _).filter _
    refine nd.imp fun {m m'} ne p=>ne (sg ?_);exact List.singleton_inj.mp (List.singleton_perm.mp ((CW lk).mp p))
   ·refine ih.imp_of_mem fun {a b} ha hb nab u hu v hv p=>nab ?_;obtain⟨m,hm,rfl⟩:=A5.mp hu;obtain⟨m',hm',rfl⟩:=A5.mp hv;have em:=eM (Bm.mp hm).1;have in1:(min i m,max i m)∈b++[(min i m',max i m')]:=p.mem_iff.mp (Ao _ (Ai.mpr rfl));rcases AA.mp in1 with z | z
    ·have ip:i∈jy b:=Bx.mpr ⟨_,z,by simp;omega⟩;have:=(m6 i b hb).lo i ip ⟨x,e⟩;exact absurd this (Bz _)
    ·have z:=Ai.mp z;rw[z] at p;exact(B2 _).mp p
  ·rw[fJ np];exact sD i
end
def hY(s:Int)(v:Nat):Str:=mkS (eX s ((v:Nat):Int))
theorem su{s:Int}{v w:Nat}(hv:v<3)(hw:w<3)(h:hY s v=hY s w):v=w:=by refine tU (s:=s) hv hw ?_;have:=A4 (fun x:Str=>x.cps.toList) h;simpa[hY,mkS] using this
end L3
namespace L2
open PySem
section
def an9(X:Cx):R2:=fun x y H Q=>∃l xs ds e,∃n m:Nat,y=.ref l/\H l=some (.lst xs)/\n≤126/\Paired (xx X.K H n) xs ds/\xx X.K H m x e/\(∀d∈ds,Da.eq d e=false)/\Q (.bl false) H
theorem ag0(hu:X.A.units+128<cLine):kg X (compareOp .In) (an9 X):=by
 intro pins s σ H x y v u Q I rx ry h;obtain⟨l,xs,ds,e,n,m,rfl,hH,hn,pd,re,no,q⟩:=h;cases ry;obtain⟨z,its,nn,r,hl,eo⟩:=I.lstM hH;refine SeqAt.in_listAt (fun _=>false) ⟨_,eo,rfl,nn,rfl⟩ (fun w hw=>?_) ?_
 ·obtain⟨k,ek⟩:=BJ (show w∈its by simpa using hw);have l2:its.length=xs.length:=r.length.symm;have hk:=(AX.mp ek).1;obtain⟨d,ed,rd⟩:=Words.Paired.getP pd (Ae (by omega:k<xs.length));obtain⟨u',eu',ru'⟩:=Words.Paired.getP r (Ae (by omega:k<xs.length));rw[ek] at eu';cases eu';have z:=gM (A:=X.A.in1) I n (by show X.A.units+1+n<cLine;omega) rd re ru' rx;rw[no d (An ed)] at z;exact z
 ·refine⟨.bl false,H,I,?_,q⟩;show za (.bl false) (.bool (its.toArray.any fun _=>false));have:(its.toArray.any fun _=>false)=false:=by simp
  rw[this];rfl
end
end L2
namespace L3
open PySem L2
def aev(x y:Y)(L:qo)(Q:YK):Prop:=match y with
 |.ref a=>cT L a fun ys=>∃ds e,∃n m:Nat,n≤126/\Paired (xo L n) ys ds/\xo L m x e/\(∀d∈ds,Da.eq d e=false)/\Q (.bl false) L
 |_=>False
theorem ajo(hu:X.A.units+128<cLine):kg X (compareOp .In) (dP X.g3 aev):=DN (ag0 hu) fun x y H Q ⟨x3,y3,L,Q3,rx,ry,rl,z,k⟩=>by
 unfold aev at z;split at z
 ·rename_i a;obtain⟨zs,e,ds,de,n,m,hn,pd,dv,no,z⟩:=xr z;obtain⟨us,e2,r⟩:=rl a _ e;have both:∀{ys:List Y} {ds:List Da} {xs:List V},Paired (xo L n) ys ds->xz X.g3 H ys xs->Paired (xx X.K H n) xs ds:=by
   intro ys ds xs p
   induction p generalizing xs with
   |nil=>intro q;cases (show xs=[] from q);exact .nil
   |cons h t ih=>
    rintro⟨x,xs',rfl,q1,q2⟩;exact .cons (xo.rep rl h q1) (ih q2)
  exact⟨a,us,ds,de,n,m,ry,e2,hn,both pd r,xo.rep rl dv rx,no,k _ _ _ _ (DB _) rl (by rfl) z⟩
 ·exact z.elim
open PySem L2 Words
def oB:k6:=(qm (z8 (jm 1) (qb 1))
 (qm (z8 yx (qb 2))
 (qm (wt (jq (qa 0)) (qb 3) (v4 (mf (k8 3 0) (gi "plain")) (qm (zA (qa 2) (k8 3 1) (zg jk (qH (qa 2) (k8 3 1) (jm 0)) (jm 1)))
 (z8 (zg hJ (qa 1) (vS (qa 2) (k8 3 1))) (qb 1))) je))
 (zr (qa 1)))))
def ff:j4:=fun ys L Q=>∃p,∃ls:List Wd,ys=[.ref p]/\L p=some (.lst (ls.map qw))/\(∀w∈ls,∃t n,w=Wd.leaf t n)/\ls.length≤124/\∀n:Nat,bz ls n->Q (.int (n:Int)) L
theorem uW:∀ys L Q,ff ys L Q->x8 oB 4 ys L Q:=by
 rintro ys L Q ⟨p,ls,rfl,hpl,hlf,hlv,q⟩;intro d hd;have hpd:p≠d:=ki hpl hd;have sub:∀o,qf L (qd L d o):=fun o=>By hd;refine vk (ys:=ls.map qw) (z9 ((qe hpd).trans hpl)) (fun i τ L'=>∃kvs,∃n:Nat,∃c4,τ=[some (.ref p),some (.int (n:Int)),some (.ref d),c4]/\L'=qd L d (.dct kvs)/\kvs.length≤i/\(∀x,wb kvs (.inr x)=uO (zq (ls.take i) false x))/\bz (ls.take i) n) ⟨[],1,_,rfl,rfl,Ag _,fun x=>rfl,bz.nil⟩ ?_ ?_ ?_
 ·rintro i τ L' ⟨kvs,n,c4,rfl,rfl,_⟩;rw[qe hpd,qe hpd]
 ·rintro i y τ L' hy ⟨kvs,n,c4,rfl,rfl,hk,hv,hw⟩;rw[Ak] at hy;obtain⟨w,ew,rfl⟩:=Aj.mp hy;obtain⟨t,x,rfl⟩:=hlf w (An ew);have hi:i<ls.length:=(AX.mp ew).1;have et:ls.take (i+1)=ls.take i++[Wd.leaf t x]:=by rw[AH,ew];rfl
  cases t with
  |true=>
   refine⟨_,DA _,kvs,n,_,rfl,rfl,by omega,fun z=>?_,?_⟩
   ·rw[hv,et,w5,As (by simp[al])];rfl
   ·rw[et];exact hw.other
  |false=>
   have e:((wb kvs (.inr x)).getD (Y.int 0))=.int ((zq (ls.take i) false x:Nat):Int):=by
    rw[hv];unfold uO;split
    ·rename_i h;rw[h];rfl
    ·rfl
   refine ae q8 (ae q8 ?_);rw[e];refine ae q8 ⟨?_,?_⟩
   ·have hb:(1000:Nat)≤sizeLine:=by decide
    omega
   have ev:wb (kC kvs (.inr x) (.int (((zq (ls.take i) false x:Nat):Int)+1))) (.inr x)=some (.int (((zq (ls.take i) false x:Nat):Int)+1)):=by rw[fO,Av rfl]
   have hcl:zq (ls.take i) false x≤124:=by
    have h1:zq (ls.take i) false x≤(ls.take i).length:=BX;have h2:(ls.take i).length≤ls.length:=by rw[AJ];omega
    omega
   refine ae q8 (qq ev ⟨.inr ⟨by omega,by omega⟩,?_⟩);refine⟨_,DA _,kC kvs (.inr x) (.int (((zq (ls.take i) false x:Nat):Int)+1)),n*(zq (ls.take i) false x+1),some (qw (.leaf false x)),?_,zm,?_,fun z=>?_,?_⟩
   ·have e2:(n:Int)*(((zq (ls.take i) false x:Nat):Int)+1)=((n*(zq (ls.take i) false x+1):Nat):Int):=by push_cast;rfl
    rw[<-e2];rfl
   ·have:=oP kvs (.inr x) (.int (((zq (ls.take i) false x:Nat):Int)+1));omega
   ·rw[fO,et,w5];by_cases h:z=x
    ·subst h;rw[Av rfl,Av (by simp[al])];unfold uO;rw[As (by omega)];push_cast;rfl
    ·rw[As (fun q=>h (Sum.inr.inj q)),As (by simp[al];exact fun q=>h q.symm),hv];rfl
   ·rw[et];exact hw.plain
 ·rintro τ L' ⟨kvs,n,c4,rfl,rfl,hk,hv,hw⟩;rw[Aa,AB] at hw;exact ac (sub _) (q n hw)
def rK(p0:j4):k6:=(qm (z8 (lZ fA (vv (qa 0))) (qb 4))
 (qm (ah2 5 6 (dh (qa 2) (qa 3)))
 (qm (nV (agx (yB (zg yGt (zg jk (qa 5) (qa 6)) (jm 0))) (yB (zg yGt (fV 4) (jm 1)))) (qm (z8 (qz p0 (qj (zg be (zg jk (qa 1) (vj (vv (jm 3)))) (zg aj (zg jk (qa 5) (zg hJ (jm 2) (qa 6))) (zg jk (fV 1) (jm 1)))) (qj (zg jk (zg hJ (jm 64) (qa 5)) (qa 6)) (vv (jm 69621))))) (qb 7))
 (qm (z8 (yIf (yB (zg yLt (zg aj (qa 7) (zg jk (qa 5) (qa 6))) (qa 5))) (gi "both") (gi "either")) (qb 8))
 (qm (z8 (zg aj (zg ao (qa 7) (jm 64)) (zg uc (fV 4) (jm 1))) (qb 9))
 (qm (z8 (zg jk (zg jk (vH hX (qa 4) w9 (bB (qa 9))) (vj (qj (da (qj (qa 8) (qj (zg be (qa 4) (qa 9)) (qj (zg be (qa 4) (zg jk (qa 9) (jm 1))) zj)))) zj))) (vH hX (qa 4) (bB (zg jk (qa 9) (jm 2))) w9)) (qb 4))
 (v4 (mf (qa 8) (gi "both")) (xS 5 (jm 1) yP) (xS 6 (jm 1) yP)))))))
 (zr (qa 4)))))
def lr(ls:List Wd):Prop:=∀w∈ls,∃t n,w=Wd.leaf t n
theorem lG(h:lr ls)(t:Bool)(n:Str)(j:Nat):lr (ls.take j++Wd.leaf t n::ls.drop j):=fun w hw=>by
 rcases abk hw with z | z
 ·exact⟨t,n,z⟩
 ·exact h w z
theorem rQ{w:Wd}(h:w∈ws):w.leaves≤(LV ws).length:=by
 induction ws with
 |nil=>cases h
 |cons x r ih=>
  have e:LV (x::r)=x.leafL++LV r:=by unfold LV;rw[Bl]
  rw[e,Ab,DG];rcases AC.mp h with rfl | h
  ·omega
  ·have:=ih h;omega
theorem yR(h:(LV ws).length≤50):∀w∈ws,w.depth≤63/\w.leaves≤63:=fun w hw=>by have h1:=rQ hw;have h2:=w.depth_le;omega
def ce:j4:=fun ys L Q=>∃a c,∃ls:List Wd,∃ns:List Int,∃bo ei:Int,ys=[.ref a,.ref c,.int bo,.int ei]/\L a=some (.lst (ls.map qw))/\L c=some (.lst (ns.map Y.int))/\lr ls/\1≤ls.length/\ls.length≤50/\ns.length≤25/\0≤bo/\bo≤50/\0≤ei/\ei≤12/\
 ∀p ws,L p=none->LV ws=ls->(bo+ei+1≤(ls.length:Int)->(BO ws:Int)=bo)->Q (.ref p) (qd L p (.lst (ws.map qw)))
theorem adh(h:lr ls):LV ls=ls:=by
 induction ls with
 |nil=>rfl
 |cons x r ih=>
  obtain⟨t,n,rfl⟩:=h x (Ax ..);have e:LV (Wd.leaf t n::r)=[Wd.leaf t n]++LV r:=by unfold LV;rw[Bl];rfl
  rw[e,ih fun w hw=>h w (Af _ hw)];rfl
theorem zI{u v:Wd}(h1:ws[i]?=some u)(h2:ws[i+1]?=some v):ws=ws.take i++u::v::ws.drop (i+2):=by
 have a1:i<ws.length:=zc h1;have a2:i+1<ws.length:=zc h2;have e1:ws[i]=u:=by rw[Ae a1] at h1;exact AK h1
 have e2:ws[i+1]=v:=by rw[Ae a2] at h2;exact AK h2
 have:=(A0 i ws).symm;rw[BG a1,BG a2,e1,e2] at this;exact this
theorem ad6{u v:Wd}(e:Bool)(h1:ws[i]?=some u)(h2:ws[i+1]?=some v):LV (ws.take i++[Wd.node e u v]++ws.drop (i+2))=LV ws:=by
 have h:=A4 LV (zI h1 h2);rw[h,gB,gB,gB];have e1:LV [Wd.node e u v]=u.leafL++v.leafL:=by rw[rN];rfl
 have e2:LV (u::v::ws.drop (i+2))=u.leafL++(v.leafL++LV (ws.drop (i+2))):=by unfold LV;rw[Bl,Bl]
 rw[e1,e2];simp only[AU]
theorem ac8(h:lr ls):BO ls=0:=by
 induction ls with
 |nil=>rfl
 |cons x r ih=>
  obtain⟨t,n,rfl⟩:=h x (Ax ..);have:=ih fun w hw=>h w (Af _ hw);unfold BO at this ⊢;rw[Ay,Cd,this];rfl
theorem adi{u v:Wd}(e:Bool)(h1:ws[i]?=some u)(h2:ws[i+1]?=some v):BO (ws.take i++[Wd.node e u v]++ws.drop (i+2))=BO ws+if e then 0 else 1:=by
 have h:=A4 BO (zI h1 h2);rw[h];unfold BO;rw[Az,Az,Do,Do,Az,Do,Ay,Ay,Ay,Cd,Cd,Cd,Ci,List.sum_nil];have:boN (.node e u v)=boN u+boN v+if e then 0 else 1:=by cases e<;>rfl
 rw[this];omega
theorem oa:∀ys L Q,ce ys L Q->x8 (rK iS) 10 ys L Q:=by
 rintro ys L Q ⟨a,c,ls,ns,bo,ei,rfl,ha,hc,hlf,h1,h50,hns,b0,b1,e0,e1,q⟩;refine qg ha fun p hp=>?_;have sp0:qf L (qd L p (.lst (ls.map qw))):=By hp;refine⟨fun m τ L'=>∃w,∃ws:List Wd,∃mo ot:Int,∃c7 c8 c9,τ=[some (.ref a),some (.ref c),some (.int bo),some (.int ei),some (.ref w),some (.int mo),some (.int ot),c7,c8,c9]/\qf L L'/\L w=none/\L' w=some (.lst (ws.map qw))/\LV ws=ls/\0≤mo/\mo≤50/\0≤ot/\ot≤12/\ws.length≤50/\(bo+ei+1≤(ls.length:Int)->(BO ws:Int)+mo=bo/\mo+ot+1≤(ws.length:Int))/\m=ws.length,⟨_,p,ls,bo,ei,_,_,_,rfl,sp0,hp,q8,adh hlf,b0,b1,e0,e1,h50,(fun h=>⟨by rw[ac8 hlf];exact CK _,h⟩),rfl⟩,?_⟩;rintro m τ L' ⟨w,ws,mo,ot,c7,c8,c9,rfl,s,nw,hw,hL,m0,m1,o0,o1,hl,hbo,rfl⟩;have last:(mo+ot≤0\/ws.length≤1)->cV Q (.ref w) L':=fun g=>ac (DP s hw) (q w ws nw hL fun h=>by have:=hbo h;omega);show ku (decide (mo+ot > 0)) _ _;refine aY (fun g1=>?_) (fun g1=>last (.inl (by omega)));refine qg hw ?_;show ku (decide (((ws.map qw).length:Int) > 1)) _ _;refine aY (fun g2=>?_) (fun g2=>last (.inr (by rw[Aa] at g2;omega)));rw[Aa] at g2;refine⟨_,fun _ _ h=>h,?_⟩;intro q1 hq1;have t1:qf L' (qd L' q1 (.lst [.int 3])):=By hq1;have lim:=ad7;refine⟨_,_,t1 _ _ (s _ _ hc),q8,by rw[Aa,Ap];omega,fun q2 hq2=>?_⟩;have t2:=t1.trans (By (o:=.lst (ns.map Y.int++[.int 3])) hq2);refine⟨.inl ⟨by decide,by decide⟩,qg (t2 _ _ (s _ _ hc)) ⟨(by show(0:Int)<((ns.map Y.int).length:Int)+1;omega),?_⟩⟩;obtain⟨cell,ecell⟩:∃cell:Int,bW (ns.map Y.int++[Y.int 3]) ((mo+2*ot) % (((ns.map Y.int).length:Int)+1))=some (.int cell):=by
  have j0:0≤(mo+2*ot) % (((ns.map Y.int).length:Int)+1):=BD _ (by omega);have j1:(mo+2*ot) % (((ns.map Y.int).length:Int)+1)<((ns.map Y.int).length:Int)+1:=Br _ (by omega);obtain⟨j,ej⟩:∃j:Nat,(mo+2*ot) % (((ns.map Y.int).length:Int)+1)=(j:Int):=⟨_,(CI j0).symm⟩;rw[ej] at j1 ⊢;have e3:ns.map Y.int++[Y.int 3]=(ns++[3]).map Y.int:=by rw[Az];rfl
  have hj:j<(ns++[3]).length:=by rw[Ab,Ap];rw[Aa] at j1;omega
  refine⟨(ns++[3])[j],?_⟩;rw[e3];exact vn (by rw[Ak,Ae hj];rfl)
 refine qg q8 (qq ecell ⟨.inl ⟨by decide,by decide⟩,cell,64*mo+ot,69621,rfl,by omega,by omega,by decide,by decide,fun v v0 v1=>?_⟩);have w2:=t2 _ _ hw;have s2:=s.trans t2;generalize qd (qd L' q1 (.lst [.int 3])) q2 (.lst (ns.map Y.int++[.int 3]))=L2 at w2 s2;clear t2 t1 hq2 hq1;refine⟨(by show(0:Int)<mo+ot;omega),?_⟩;have k0:0≤v % (mo+ot):=BD _ (by omega);have k1:v % (mo+ot)<mo+ot:=Br _ (by omega);have j0:0≤v / 64 % (((ws.map qw).length:Int) - 1):=BD _ (by rw[Aa];omega);have j1:v / 64 % (((ws.map qw).length:Int) - 1)<((ws.map qw).length:Int) - 1:=Br _ (by rw[Aa];omega);obtain⟨j,ej⟩:∃j:Nat,v / 64 % (((ws.map qw).length:Int) - 1)=(j:Int):=⟨_,(CI j0).symm⟩;rw[ej,Aa] at j1;obtain⟨u0,eu0⟩:∃u,ws[j]?=some u:=⟨_,Ae (by omega)⟩;obtain⟨u1,eu1⟩:∃u,ws[j+1]?=some u:=⟨_,Ae (by omega)⟩;have a0:bW (ws.map qw) (j:Int)=some (qw u0):=ai eu0;have a1:bW (ws.map qw) ((j:Int)+1)=some (qw u1):=by rw[show((j:Int)+1)=((j+1:Nat):Int) by omega];exact ai eu1
 have rest:∀(e:Bool) (mo' ot':Int),0≤mo'->mo'≤50->0≤ot'->ot'≤12->(mo'=mo - (if e then 0 else 1)/\mo'+ot'+1=mo+ot)->∀c7 c8 c9 (L3:qo) w',qf L L3->L w'=none->L3 w'=some (.lst ((ws.take j++[Wd.node e u0 u1]++ws.drop (j+2)).map qw))->
  bT (fun(τ':jb) (L':qo)=>∃m',m'<ws.length/\∃w,∃ws:List Wd,∃mo ot:Int,∃c7 c8 c9,τ'=[some (Y.ref a),some (Y.ref c),some (Y.int bo),some (Y.int ei),some (Y.ref w),some (Y.int mo),some (Y.int ot),c7,c8,c9]/\qf L L'/\L w=none/\L' w=some (.lst (ws.map qw))/\LV ws=ls/\0≤mo/\mo≤50/\0≤ot/\ot≤12/\ws.length≤50/\(bo+ei+1≤(ls.length:Int)->(BO ws:Int)+mo=bo/\mo+ot+1≤(ws.length:Int))/\m'=ws.length)
   [some (Y.ref a),some (Y.ref c),some (Y.int bo),some (Y.int ei),some (Y.ref w'),some (Y.int mo'),some (Y.int ot'),c7,c8,c9] L3:=by
  intro e mo' ot' x1 x2 x3 x4 x5 c7 c8 c9 L3 w' sL nw' hw';have len:(ws.take j++[Wd.node e u0 u1]++ws.drop (j+2)).length=ws.length - 1:=by rw[Ab,Ab,AJ,Ba,Ap];omega
  exact⟨_,DA _,ws.length - 1,by omega,w',_,mo',ot',c7,c8,c9,rfl,sL,nw',hw',by rw[ad6 e eu0 eu1];exact hL,x1,x2,x3,x4,by omega,(fun h=>by
   obtain⟨h1,h2⟩:=hbo h;rw[adi e eu0 eu1,len];cases e
   ·have:mo'=mo - 1:=x5.1;refine⟨?_,by omega⟩;show((BO ws+1:Nat):Int)+mo'=bo;omega
   ·have:mo'=mo - 0:=x5.1;refine⟨?_,by omega⟩;show((BO ws+0:Nat):Int)+mo'=bo;omega),len.symm⟩
 have tail:∀(e:Bool) {D:v7} {c9:Option Y},(∀(w':Addr) (L3:qo),qf L L3->L w'=none->L3 w'=some (.lst ((ws.take j++[Wd.node e u0 u1]++ws.drop (j+2)).map qw))->D.nx [some (Y.ref a),some (Y.ref c),some (Y.int bo),some (Y.int ei),some (Y.ref w'),some (Y.int mo),some (Y.int ot),some (Y.int v),some (Y.str (kN e)),some (Y.int (j:Int))] L3)->
  (qm (z8 (zg aj (zg ao (qa 7) (yC (.int 64))) (zg uc (lZ kD (qj (qa 4) zj)) (yC (.int 1)))) (qb 9)) (z8 (zg jk (zg jk (vH hX (qa 4) w9 (bB (qa 9))) (vj (qj (da (qj (qa 8) (qj (zg be (qa 4) (qa 9)) (qj (zg be (qa 4) (zg jk (qa 9) (yC (.int 1)))) zj)))) zj))) (vH hX (qa 4) (bB (zg jk (qa 9) (yC (.int 2)))) w9)) (qb 4))) D [some (Y.ref a),some (Y.ref c),some (Y.int bo),some (Y.int ei),some (Y.ref w),some (Y.int mo),some (Y.int ot),some (Y.int v),some (Y.str (kN e)),c9] L2:=by
  intro e D c9 hD;refine⟨⟨by decide,by decide⟩,qg w2 ⟨(by show(0:Int)<((ws.map qw).length:Int) - 1;rw[Aa];omega),?_⟩⟩;dsimp only;rw[ej];refine z0 w2 fun r1 hr1=>?_;rw[tO];have v1':qf L2 (qd L2 r1 (.lst ((ws.map qw).take j))):=By hr1;refine qg (v1' _ _ w2) (qq a0 (qg (v1' _ _ w2) (qq a1 fun r2 hr2=>?_)));have v2':=v1'.trans (By (o:=.lst [Y.tup [.str (kN e),qw u0,qw u1]]) hr2);have x1:(qd (qd L2 r1 (.lst ((ws.map qw).take j))) r2 (.lst [Y.tup [.str (kN e),qw u0,qw u1]])) r1=some (.lst ((ws.map qw).take j)):=By hr2 _ _ q8;refine⟨_,_,x1,q8,by rw[AJ,Aa,Ap];omega,fun r3 hr3=>?_⟩;have v3':=v2'.trans (By (o:=.lst ((ws.map qw).take j++[Y.tup [.str (kN e),qw u0,qw u1]])) hr3);refine z0 (v3' _ _ w2) fun r4 hr4=>?_;rw[show((j:Int)+2)=((j+2:Nat):Int) by omega,l7];have x3:=By (o:=.lst ((ws.map qw).drop (j+2))) hr4 _ _ (q8 (L:=qd (qd L2 r1 (.lst ((ws.map qw).take j))) r2 (.lst [Y.tup [.str (kN e),qw u0,qw u1]])) (a:=r3) (o:=.lst ((ws.map qw).take j++[Y.tup [.str (kN e),qw u0,qw u1]])));have v4':=v3'.trans (By (o:=.lst ((ws.map qw).drop (j+2))) hr4);refine⟨_,_,x3,q8,by rw[Ab,AJ,Ba,Aa,Ap];omega,fun r5 hr5=>?_⟩;refine hD r5 _ ((s2.trans v4').trans (By hr5)) (j9 (s2.trans v4') hr5) ?_;rw[q8,Az,Az,Dt,C5];rfl
 show ku (decide (v % (mo+ot)<mo)) _ _;refine aY (fun g3=>?_) (fun g3=>?_)
 ·exact tail false fun w' L3 sL nw' hw'=>rest false (mo - 1) ot (by omega) (by omega) o0 o1 ⟨rfl,by omega⟩ _ _ _ L3 w' sL nw' hw'
 ·exact tail true fun w' L3 sL nw' hw'=>rest true mo (ot - 1) m0 m1 (by omega) (by omega) ⟨(Int.sub_zero _).symm,by omega⟩ _ _ _ L3 w' sL nw' hw'
theorem lW:∀(l:List Nat) (b:Nat),wm (l++[b])=2*wm l+b
 |[],b=>by show b*1+0=2*0+b;omega
 |c::r,b=>by show c*2 ^ (r++[b]).length+wm (r++[b])=2*(c*2 ^ r.length+wm r)+b;rw[lW r b,Ab,Ap,Dk,Nat.mul_add,<-Cw,CL _ 2,Nat.add_assoc]
theorem di:∀{l:List Nat},(∀b∈l,b=0\/b=1)->wm l<2 ^ l.length
 |[],_=>Nat.one_pos
 |c::r,h=>by have ih:=di fun b hb=>h b (Af _ hb);show c*2 ^ r.length+wm r<2 ^ (r.length+1);rw[Dk];rcases h c (Ax ..) with rfl | rfl<;>omega
theorem gH:∀{a b:List Nat},a.length=b.length->(∀x∈a,x=0\/x=1)->(∀x∈b,x=0\/x=1)->wm a<wm b->∃t,a.take t=b.take t/\a[t]?=some 0/\b[t]?=some 1
 |[],[],_,_,_,h=>absurd h (Bz _)
 |[],_::_,h,_,_,_=>by cases h
 |_::_,[],h,_,_,_=>by cases h
 |x::a,y::b,hl,ha,hb,h=>by
  have hl':a.length=b.length:=Nat.succ.inj hl;have ha':=fun z hz=>ha z (Af _ hz);have hb':=fun z hz=>hb z (Af _ hz);have va:=di ha';have vb:=di hb';have h:x*2 ^ a.length+wm a<y*2 ^ b.length+wm b:=h;rw[hl'] at h va;rcases ha x (Ax ..) with rfl | rfl<;>rcases hb y (Ax ..) with rfl | rfl
  ·obtain⟨t,e1,e2,e3⟩:=gH hl' ha' hb' (by omega);exact⟨t+1,by rw[B9,B9,e1],e2,e3⟩
  ·exact⟨0,rfl,rfl,rfl⟩
  ·omega
  ·obtain⟨t,e1,e2,e3⟩:=gH hl' ha' hb' (by omega);exact⟨t+1,by rw[B9,B9,e1],e2,e3⟩
theorem tP{ks:List (Option Kn)}:∀{es a b:List Nat},ad ks es (a++b)=ad ks es a++ad ks (es.drop a.length) b
 |es,[],b=>by show ad ks es b=ad ks es []++ad ks es b;unfold ad;rw[Cm];rfl
 |[],c::a,b=>by unfold ad;rw[Cs,Cs,List.drop_nil,Cs];rfl
 |e::es,c::a,b=>by show(e,gy ks e c)::ad ks es (a++b)=(e,gy ks e c)::(ad ks es a++ad ks (es.drop a.length) b);rw[tP]
theorem Fst.less{js:List (Nat×Nat)}{es bs cs:List Nat}(F:Fst ks js es bs)(hl:bs.length=es.length)(h0:∀b∈bs,b=0\/b=1)(hc:cs.length=es.length)(h1:∀b∈cs,b=0\/b=1)(h:wm cs<wm bs):bZ ks.length ks (js++ad ks es cs) []:=by
 obtain⟨t,e1,e2,e3⟩:=gH (by omega) h1 h0 h;have ht:=zc e2;have es1:cs=(bs.take t++[0])++cs.drop (t+1):=by have:=(A0 (t+1) cs).symm;rw[AH,e2,e1] at this;exact this
 have lt:(bs.take t++[0]).length=t+1:=by rw[Ab,AJ,Ap];omega
 have:=i7 (bs:=cs.drop (t+1)) (by rw[Ba,Ba];omega) (F.fst t e3);rw[AU] at this;rw[es1,tP,lt];exact this
theorem abo(x y:Nat×Nat):Da.eq (gA x) (gA y)=decide (x=y):=by
 have e:Da.eq (gA x) (gA y)=(decide ((x.1:Int)=(y.1:Int))&&(decide ((x.2:Int)=(y.2:Int))&&true)):=by simp[gA,Da.eq,Da.eqs,kO];rfl
 rw[e,cf,cf,C3];by_cases c:x=y
 ·subst c;simp
 ·rw[Am c];by_cases d:x.1=y.1
  ·rw[Am fun d2=>c (Du d d2),Cj]
  ·rw[Am d,CM]
theorem sd:∀{a b:List (Nat×Nat)},a≠b->Da.eqs (a.map gA) (b.map gA)=false
 |[],[],h=>absurd rfl h
 |[],_::_,_=>by simp[Da.eqs]
 |_::_,[],_=>by simp[Da.eqs]
 |x::a,y::b,h=>by
  rw[Ay,Ay,Da.eqs,abo];by_cases c:x=y
  ·rw[sd fun d=>h (by rw[c,d]),Cj]
  ·rw[Am c,CM]
theorem ym{v P:Nat}{n r:Int}(h:n=(v:Int)+(P:Int)*r)(h0:0≤n)(h1:n<P)(h2:v<P):n=v:=by
 have e:n % (P:Int)=v:=by rw[h,Int.add_mul_emod_self_left];exact Int.emod_eq_of_lt (by omega) (by omega)
 rw[Int.emod_eq_of_lt h0 h1] at e;exact e
def pk(s:Int)(k:Nat):Nat:=if s / 5 % 2=0 then k % 2 else k / 2
def wX:Wd->Bool
 |.leaf false _=>true
 |_=>false
structure sT(s:Int)(ls:List Wd)(i:Nat):Prop where
 lf:lr ls
 ln:ls.length=2*i
 ct:∀t x,zq ls t x=(List.range i).countP fun k=>decide (hY s (pk s k)=x)
 pl:ls.countP wX=i
theorem tD(ls:List Wd)(w:Wd)(j:Nat)(t:Bool)(x:Str):zq (ls.take j++w::ls.drop j) t x=zq ls t x+if al t x w=true then 1 else 0:=by unfold zq;have h:=A4 (List.countP (al t x)) (A0 j ls);rw[AN] at h;rw[AN,AY,<-h];omega
theorem wO(ls:List Wd)(w:Wd)(j:Nat):(ls.take j++w::ls.drop j).countP wX=ls.countP wX+if wX w=true then 1 else 0:=by have h:=A4 (List.countP wX) (A0 j ls);rw[AN] at h;rw[AN,AY,<-h];omega
theorem sT.next{s:Int}{us:List Wd}{j':Nat}(h:sT s ls i)(hu:us=ls.take j++Wd.leaf false (hY s (pk s i))::ls.drop j):sT s (us.take j'++Wd.leaf true (hY s (pk s i))::us.drop j') (i+1):=by subst hu;refine⟨lG (lG h.lf _ _ _) _ _ _,by rw[m9,m9,h.ln];omega,fun t x=>?_,by rw[wO,wO,h.pl];rfl⟩;rw[tD,tD,h.ct t x,Dn,AN,List.countP_singleton];cases t<;>by_cases c:hY s (pk s i)=x<;>simp[al,c]
theorem ae4{s:Int}{k:Nat}(h:k<5):pk s k<3:=by unfold pk;split<;>omega
theorem sT.even{s:Int}(h:sT s ls i):bE ls:=fun x=>(h.ct false x).trans (h.ct true x).symm
theorem sT.nms{s:Int}(h:sT s ls i)(hi:i≤5):[hY s 0,hY s 1,hY s 2].Nodup/\∀w∈ls,kM w∈[hY s 0,hY s 1,hY s 2]:=by
 have nd:[hY s 0,hY s 1,hY s 2].Nodup:=by have e:∀{v w:Nat},v<3->w<3->v≠w->hY s v≠hY s w:=fun hv hw ne z=>ne (su hv hw z);simp[e (v:=0) (w:=1),e (v:=0) (w:=2),e (v:=1) (w:=2)]
 have hm:∀w∈ls,kM w∈[hY s 0,hY s 1,hY s 2]:=fun w hw=>by
  obtain⟨t,x,rfl⟩:=h.lf w hw;have p:0<zq ls t x:=List.countP_pos_iff.mpr ⟨_,hw,by simp[al]⟩;rw[h.ct t x] at p;obtain⟨k,hk,e⟩:=List.countP_pos_iff.mp p;have e:=of_decide_eq_true e;have hk:=A9.mp hk;have:=ae4 (s:=s) (k:=k) (by omega);show x∈_;rw[<-e];have:pk s k=0\/pk s k=1\/pk s k=2:=by omega
  rcases this with z | z | z<;>rw[z]<;>simp
 exact⟨nd,hm⟩
theorem sT.ways{s:Int}(h:sT s ls i)(hi:i≤5):∀n,bz ls n->(n:Int)≤24:=fun n hn=>by
 obtain⟨nd,hm⟩:=h.nms hi;rw[hn _ nd hm];have ct:∀v,v<3->zq ls false (hY s v)=(List.range i).countP fun k=>decide (pk s k=v):=fun v hv=>by rw[h.ct false];refine Bg fun k hk=>?_;rw[Bq,Bq];have hk:=A9.mp hk;exact⟨fun z=>su (ae4 (by omega)) hv z,fun z=>by rw[z]⟩
 simp only[Ay,Ci,B3,List.prod_nil];rw[ct 0 (by decide),ct 1 (by decide),ct 2 (by decide)];unfold pk;by_cases c:s / 5 % 2=0
 ·simp only[Av c];have:∀i≤5,aE ((List.range i).countP fun k=>decide (k % 2=0))*(aE ((List.range i).countP fun k=>decide (k % 2=1))*(aE ((List.range i).countP fun k=>decide (k % 2=2))*1))≤24:=by decide
  have:=this i hi;omega
 ·simp only[As c];have:∀i≤5,aE ((List.range i).countP fun k=>decide (k / 2=0))*(aE ((List.range i).countP fun k=>decide (k / 2=1))*(aE ((List.range i).countP fun k=>decide (k / 2=2))*1))≤24:=by decide
  have:=this i hi;omega
def rh(p0:j4)(p1:j4):k6:=(qm (z8 (vj zj) (qb 3))
 (qm (wt (cP (qj (zg jk (jm 1) (zg aj (qa 1) (jm 5))) zj)) (qb 4) (qm (z8 (qz p0 (qj (zg jk (zg be (zg jk (qa 0) (vj (vv (qa 2)))) (zg aj (qa 4) (zg jk (fV 0) (jm 1)))) (qa 2)) (dh (qa 4) (jm 48271)))) (qb 5))
 (qm (z8 (qz p1 (qj (qa 1) (qj (ae3 (qj (zg aj (qa 4) (jm 2)) (qj (zg ao (qa 4) (jm 2)) zj)) (zg aj (zg ao (qa 1) (jm 5)) (jm 2))) zj))) (qb 6))
 (qm (vq (gY eO (qa 3) (qj (zg aj (qa 5) (zg jk (fV 3) (jm 1))) (qj (uP (gi "plain") (qa 6)) zj))))
 (vq (gY eO (qa 3) (qj (zg aj (zg ao (qa 5) (jm 64)) (zg jk (fV 3) (jm 1))) (qj (uP (gi "turned") (qa 6)) zj))))))))
 (zr (qa 3))))
def nZ(p0:j4)(p1:j4)(p2:j4):k6:=(qm (z8 (lZ kD (qj (oG 1 (jq (qa 0)) (qb 8) (mf (k8 8 0) (gi "either")) (qa 8)) zj)) (qb 4))
 (qm (v4 (mj (dY (yB (dN .list (qa 2)))) (oN (fV 2) (qa 4))) (zr (yC (.bl false))) je)
 (qm (z8 (jm 0) (qb 5))
 (qm (wt (jq (qa 2)) (qb 6) (qm (v4 (mj (dY (yB (qz p0 (vv (qa 6))))) (yB (zg (vC true) (qa 6) (uP (jm 0) (jm 1))))) (zr (yC (.bl false))) je)
 (z8 (zg jk (zg hJ (jm 2) (qa 5)) (qa 6)) (qb 5))))
 (qm (v4 (mf (qz p1 (qj (qa 0) (dh (qa 1) (qa 2)))) (jm 1)) (zr (yC (.bl false))) je)
 (qm (wt (cP (qj (yIf (yB (qa 3)) (qa 5) (jm 0)) zj)) (qb 7) (v4 (oN (qz p1 (qj (qa 0) (qj (qa 1) (qj (qz p2 (dh (qa 7) (qa 4))) zj)))) (jm 1)) (zr (yC (.bl false))) je))
 (zr (yC (.bl true)))))))))
def ph(p0:j4)(p1:j4):k6:=(qm (v4 (mj (dY (yB (dN .list (qa 1)))) (oN (fV 1) (qa 2))) (zr (yC (.bl false))) je)
 (qm (z8 (vj zj) (qb 3))
 (qm (wt (bN (qa 1)) (aK 2 (zw (qb 4) (zw (qb 5) aF))) (qm (v4 (mj (dY (yB (dN .tuple (qa 5)))) (mj (oN (fV 5) (jm 2)) (dY (yB (qz p0 (dh (qa 0) (k8 5 0))))))) (zr (yC (.bl false))) je)
 (qm (v4 (mj (yB (zg aev (k8 5 0) (qa 3))) (dY (yB (qz p1 (qj (qa 0) (qj (k8 5 0) (qj (k8 5 1) (qj (zg yLt (qa 4) (jm 2)) zj)))))))) (zr (yC (.bl false))) je)
 (vq (gY xa (qa 3) (vv (k8 5 0)))))))
 (zr (yC (.bl true))))))
def cZ:j4:=fun ys L Q=>∃a,∃ns:List Int,∃s tot:Int,ys=[.ref a,.int s,.int tot]/\L a=some (.lst (ns.map Y.int))/\ns.length≤1000/\∀p ls,L p=none->sT s ls (1+s % 5).toNat->Q (.ref p) (qd L p (.lst (ls.map qw)))
theorem pM:∀ys L Q,cZ ys L Q->x8 (rh iS iX) 7 ys L Q:=by
 rintro ys L Q ⟨a,ns,s,tot,rfl,ha,hns,q⟩;have big:=bg_;intro p hp;refine⟨(by decide:(0:Int)<5),⟨by omega,by omega⟩,?_⟩;refine eK (fun i τ L'=>∃(ls:List Wd) (c4 c5 c6:Option Y),τ=[some (.ref a),some (.int s),some (.int tot),some (.ref p),c4,c5,c6]/\qf L L'/\L' p=some (.lst (ls.map qw))/\sT s ls i) ⟨[],_,_,_,rfl,By hp,q8,⟨fun w hw=>(by cases hw),rfl,(fun t x=>rfl),rfl⟩⟩ ?_ ?_
 ·rintro i τ L' hi ⟨ls,c4,c5,c6,rfl,sL,g,V⟩;have hi5:i<5:=by omega
  have hl:=V.ln;intro q1 hq1;have t1:qf L' (qd L' q1 (.lst [.int tot])):=By hq1;refine⟨_,_,t1 _ _ (sL _ _ ha),q8,by rw[Aa];exact Bi (big _ (by show ns.length+1≤20000;omega)),fun q2 hq2=>?_⟩;have t2:=t1.trans (By (o:=.lst (ns.map Y.int++[.int tot])) hq2);refine qg (t2 _ _ (sL _ _ ha)) ⟨(by show(0:Int)<((ns.map Y.int).length:Int)+1;omega),?_⟩;obtain⟨cell,ecell⟩:∃cell:Int,bW (ns.map Y.int++[Y.int tot]) ((0+(i:Int)) % (((ns.map Y.int).length:Int)+1))=some (.int cell):=by
   have j0:0≤(0+(i:Int)) % (((ns.map Y.int).length:Int)+1):=BD _ (by omega);have j1:(0+(i:Int)) % (((ns.map Y.int).length:Int)+1)<((ns.map Y.int).length:Int)+1:=Br _ (by omega);obtain⟨j,ej⟩:∃j:Nat,(0+(i:Int)) % (((ns.map Y.int).length:Int)+1)=(j:Int):=⟨_,(CI j0).symm⟩;rw[ej] at j1 ⊢;have e3:ns.map Y.int++[Y.int tot]=(ns++[tot]).map Y.int:=by rw[Az];rfl
   have hj:j<(ns++[tot]).length:=by rw[Ab,Ap];rw[Aa] at j1;omega
   refine⟨(ns++[tot])[j],?_⟩;rw[e3];exact vn (by rw[Ak,Ae hj];rfl)
  refine qg q8 (qq ecell ⟨cell+tot,0+(i:Int),48271,rfl,by omega,by omega,by decide,by decide,fun v v0 v1=>?_⟩);have g2:=t2 _ _ g;have s2:=sL.trans t2;generalize qd (qd L' q1 (.lst [.int tot])) q2 (.lst (ns.map Y.int++[.int tot]))=L2 at g2 s2 ⊢;clear t2 t1 hq2 hq1 ecell;have ew:bW [Y.int ((0+(i:Int)) % 2),Y.int ((0+(i:Int)) / 2)] (s / 5 % 2)=some (Y.int ((pk s i:Nat):Int)):=by
   unfold pk;by_cases c:s / 5 % 2=0
   ·rw[Av c,c];show some (Y.int _)=_;congr 2;omega
   ·have c:s / 5 % 2=1:=by omega
    rw[c,As (by decide)];show some (Y.int _)=_;congr 2;omega
  refine⟨(by decide:(0:Int)<2),⟨by decide,by decide⟩,⟨by decide,by decide⟩,(by decide:(0:Int)<2),qq ew ⟨s,_,rfl,?_⟩⟩;show qb 6 (Y.str (hY s (pk s i))) _ _ _;generalize hnm:hY s (pk s i)=nm;refine qg g2 (qg g2 ⟨(by show(0:Int)<((ls.map qw).length:Int)+1;omega),?_⟩);have j0:0≤v % (((ls.map qw).length:Int)+1):=BD _ (by omega);have j1:v % (((ls.map qw).length:Int)+1)<((ls.map qw).length:Int)+1:=Br _ (by omega);refine z0 g2 ⟨⟨j0,by omega,by rw[Aa];omega⟩,?_⟩;generalize (v % (((ls.map qw).length:Int)+1)).toNat=j;have ei:(ls.map qw).take j++Y.tup [.str (kL false),.str nm]::(ls.map qw).drop j=(ls.take j++Wd.leaf false nm::ls.drop j).map qw:=sY qw ls (Wd.leaf false nm) j;have ei:(ls.map qw).take j++Y.tup [.str "plain",.str nm]::(ls.map qw).drop j=(ls.take j++Wd.leaf false nm::ls.drop j).map qw:=ei;rw[ei];have hl1:=m9 ls (Wd.leaf false nm) j;obtain⟨us,hus⟩:∃us,us=ls.take j++Wd.leaf false nm::ls.drop j:=⟨_,rfl⟩;rw[<-hus] at hl1 ⊢;have g3:qd L2 p (.lst (us.map qw)) p=some (.lst (us.map qw)):=q8;refine qg g3 ⟨⟨by decide,by decide⟩,qg g3 ⟨(by show(0:Int)<((us.map qw).length:Int)+1;omega),?_⟩⟩;have k0:0≤v / 64 % (((us.map qw).length:Int)+1):=BD _ (by omega);have k1:v / 64 % (((us.map qw).length:Int)+1)<((us.map qw).length:Int)+1:=Br _ (by omega);refine z0 g3 ⟨⟨k0,by omega,by rw[Aa];omega⟩,?_⟩;generalize (v / 64 % (((us.map qw).length:Int)+1)).toNat=j2;have ei2:(us.map qw).take j2++Y.tup [.str (kL true),.str nm]::(us.map qw).drop j2=(us.take j2++Wd.leaf true nm::us.drop j2).map qw:=sY qw us (Wd.leaf true nm) j2;have ei2:(us.map qw).take j2++Y.tup [.str "turned",.str nm]::(us.map qw).drop j2=(us.take j2++Wd.leaf true nm::us.drop j2).map qw:=ei2;rw[zm,ei2];subst hnm;exact⟨_,DA _,_,_,_,_,rfl,s2.upd hp,q8,V.next hus⟩
 ·rintro τ L' ⟨ls,c4,c5,c6,rfl,sL,g,V⟩;exact ac (DP sL g) (q p ls hp V)
structure xA(ks:List (Option Kn))(lk:List (Nat×Nat)):Prop where
 no:∀k∈ks,k≠none
 kr:KnR ks
 wi:bU ks.length lk
 ln:lk.length≤20
 p1:1≤ks.length
 p2:ks.length≤100
 ei:(qx true ks).length≤10
def kH:j4:=fun ys L Q=>∃k l c,∃ks:List (Option Kn),∃lk:List (Nat×Nat),∃bs:List Nat,∃f:Bool,ys=[.ref k,.ref l,.ref c,.bl f]/\L k=some (.lst (bw ks))/\L l=some (.lst (zf lk))/\L c=some (.lst (nY bs))/\xA ks lk/\bs.length=(qx true ks).length/\(∀b∈bs,b=0\/b=1)/\Fst ks (ze ks lk []) (qx true ks) bs/\Q (.bl true) L
theorem y8:∀ys L Q,kH ys L Q->x8 (nZ fK am dr) 8 ys L Q:=by
 rintro ys L Q ⟨k,l,c,ks,lk,bs,f,rfl,hk,hl,hc,S,hbl,h01,F,q⟩;have big:=bg_;have p2:=S.p2;have lw:(bw ks).length=ks.length:=Aa ..;refine jo hk fun keep kp=>bK (fun i zs=>zs.length=(ks.take i).countP (zk true)) (by rw[lw];exact big _ (by omega)) (kp _ rfl) rfl ?_ ?_
 ·rintro i y zs hy hz;rw[Ak] at hy;obtain⟨kk,ekk,rfl⟩:=Aj.mp hy;have et:ks.take (i+1)=ks.take i++[kk]:=by rw[AH,ekk];rfl
  have no:zk true kk=false->bT (fun zs L'=>L'=L/\zs.length=(ks.take (i+1)).countP (zk true)) zs L:=fun h=>⟨L,DA _,rfl,by rw[et,AN,hz];simp[h]⟩;have yes:∀z,zk true kk=true->bT (fun zs L'=>L'=L/\zs.length=(ks.take (i+1)).countP (zk true)) (zs++[z]) L:=fun z h=>⟨L,DA _,rfl,by rw[et,AN,Ab,hz];simp[h]⟩;cases kk with
  |none=>exact absurd rfl (S.no none (An ekk))
  |some kn=>
   cases kn with
   |lf t n=>cases t<;>exact no rfl
   |nd e i' j'=>
    cases e with|false=>exact no rfl|true=>exact yes _ rfl
 intro zs hz p4 hp4;have kl:(qx true ks).length=ks.countP (zk true):=by unfold qx;rw[ko _ _ _ (Ag _),AB]
 rw[lw,AB,<-kl] at hz;refine qg q8 ?_;have s4:=By (o:=.lst zs) hp4;have hm:zs.length=bs.length:=by rw[hz,hbl]
 rw[hm];have hk:=s4 _ _ hk;have hl:=s4 _ _ hl;have hc:=s4 _ _ hc;generalize qd L p4 (.lst zs)=L1 at s4 hk hl hc ⊢;have ei:=S.ei;refine mi hc (qg hc ?_);refine v5 (by show(!decide (((nY bs).length:Int)=((bs.length:Nat):Int)))=false;rw[xm,Al rfl];rfl) ?_;refine jo hc fun keep kp=>aN ⟨fun i τ L'=>∃c6,τ=[some (.ref k),some (.ref l),some (.ref c),some (.bl f),some (.int ((bs.length:Nat):Int)),some (.int ((wm (bs.take i):Nat):Int)),c6,none]/\L'=L1,⟨_,rfl,rfl⟩,?_,?_,?_⟩
 ·rintro i τ L' ⟨c6,rfl,rfl⟩;exact kp _ rfl
 ·rintro i y τ L' hy ⟨c6,rfl,rfl⟩;obtain⟨b,eb,rfl⟩:=bH hy;have et:bs.take (i+1)=bs.take i++[b]:=by rw[AH,eb];rfl
  refine⟨_,rfl,?_⟩;refine⟨rfl,rfl,?_⟩;have hv:(2:Int)*((wm (bs.take i):Nat):Int)+((b:Nat):Int)=((wm (bs.take (i+1)):Nat):Int):=by rw[et,lW];omega
  have hb:=h01 b (An eb);refine v5 (by rcases hb with rfl | rfl<;>rfl) ⟨.inl ⟨by decide,by decide⟩,_,DA _,some (.int ((b:Nat):Int)),?_,rfl⟩;rw[<-hv];rfl
 rintro τ L' ⟨c6,rfl,rfl⟩;rw[xm,AB];refine⟨k,l,c,ks,lk,bs,rfl,hk,hl,hc,S.no,S.kr,S.wi,by have:=S.ln;omega,hbl,h01,S.p1,S.p2,fun d hd=>?_⟩;refine v5 (Am fun z=>F.bad ?_) ?_
 ·rw[hbl,List.drop_length];exact hd.mp z
 have vl:=di h01;have pw:2 ^ bs.length≤2 ^ 10:=CC (by decide) (by omega);have ace:∀(N:Nat) (c6:Option Y),N≤wm bs->wt (fun τ L R=>R (wg 0 N) (fun _=>True) L) (qb 7) (v4 (yB (zg (oV true) (qz am (qj (qa 0) (qj (qa 1) (qj (qz dr (qj (qa 7) (qj (qa 4) zj))) zj)))) (yC (.int 1)))) (zr (yC (.bl false))) je) { nx:=zr (yC (.bl true)) { nx:=fun x L'=>cV Q Y.non L',rt:=cV Q },rt:=cV Q } [some (.ref k),some (.ref l),some (.ref c),some (.bl f),some (.int ((bs.length:Nat):Int)),some (.int ((wm bs:Nat):Int)),c6,none] L':=fun N c6 hN=>by
  refine eK (fun i τ L''=>∃c7,τ=[some (.ref k),some (.ref l),some (.ref c),some (.bl f),some (.int ((bs.length:Nat):Int)),some (.int ((wm bs:Nat):Int)),c6,c7]/\L''=L') ⟨_,rfl,rfl⟩ ?_ ?_
  ·rintro i τ L'' hi ⟨c7,rfl,rfl⟩;refine⟨_,bs.length,rfl,by omega,fun p bs2 hp l2 h2 ⟨r,hr⟩=>?_⟩;have v2:=di h2;rw[l2] at v2;have ev:=ym hr (by omega) (by omega) v2;have vp:=By (o:=.lst (nY bs2)) hp;refine⟨k,l,p,ks,lk,bs2,rfl,vp _ _ hk,vp _ _ hl,q8,S.no,S.kr,S.wi,by have:=S.ln;omega,by rw[l2,hbl],h2,S.p1,S.p2,fun d2 hd2=>?_⟩;cases hd2.mpr (F.less hbl h01 (by rw[l2,hbl]) h2 (by omega));exact⟨L'',vp,_,rfl,rfl⟩
  ·rintro τ L'' ⟨c7,rfl,rfl⟩;exact ac s4 q
 cases f with|true=>exact⟨⟨by omega,by omega⟩,by rw[BA];exact ace (wm bs) _ (Ag _)⟩|false=>exact⟨⟨by decide,by decide⟩,ace 0 _ (Bb _)⟩
structure aiv(ks:List (Option Kn))(lks:List (List (Nat×Nat))):Prop where
 set:∀lk∈lks,xA ks lk/\LkS ks lk/\(ji ks).length=ks.length/\(ze ks lk []).length+(qx true ks).length+1=ks.length
 nd:lks.Pairwise fun a b=>a≠b
 ln:lks.length≤1000
def nL:j4:=fun ys L Q=>∃k t,∃ks:List (Option Kn),∃ts:List Y,∃lks:List (List (Nat×Nat)),ys=[.ref k,.ref t,.int ((ts.length:Nat):Int)]/\L k=some (.lst (bw ks))/\L t=some (.lst ts)/\nQ L ks ts lks/\aiv ks lks/\Q (.bl true) L
theorem ad1:∀ys L Q,nL ys L Q->x8 (ph cr kH) 6 ys L Q:=by
 rintro ys L Q ⟨k,t,ks,ts,lks,rfl,hk,ht,T,A,q⟩;have big:=bg_;have lt:ts.length=lks.length:=kf T;have aln:=A.ln;refine mi ht (qg ht ?_);refine v5 (by show(!decide (((ts.length:Nat):Int)=((ts.length:Nat):Int)))=false;rw[Al rfl];rfl) ?_;intro w hw;have s0:=By (o:=.lst []) hw;refine jo (s0 _ _ ht) fun keep kp=>aN ⟨fun i τ L'=>∃(as:List Addr) (c4 c5:Option Y),τ=[some (.ref k),some (.ref t),some (.int ((ts.length:Nat):Int)),some (.ref w),c4,c5]/\qf L L'/\L' w=some (.lst (as.map Y.ref))/\Paired (fun b lk=>L b=some (.lst (zf lk))) as (lks.take i),⟨[],_,_,rfl,s0,q8,.nil⟩,?_,?_,?_⟩
 ·rintro i τ L' ⟨as,c4,c5,rfl,s,_⟩;exact kp L' (by rw[s _ _ ht,s0 _ _ ht])
 ·rintro i y τ L' hy ⟨as,c4,c5,rfl,s,g,P⟩;obtain⟨z,ez,rfl⟩:=aw hy;obtain⟨lk,elk,b,c,bs,rfl,hb,hc,Tr⟩:=aU T ez;have hi:=zc elk;obtain⟨S,lks1,th,ct⟩:=A.set lk (An elk);refine⟨k,b,ks,lk,rfl,s _ _ hk,s _ _ hb,lks1,?_⟩;refine v5 rfl ?_;have la:as.length=(lks.take i).length:=kf P;rw[AJ] at la;have pd:∀{as:List Addr} {ls:List (List (Nat×Nat))},Paired (fun b lk=>L b=some (.lst (zf lk))) as ls->Paired (xo L' 2) (as.map Y.ref) (ls.map fun lk=>Da.lst (lk.map gA)):=fun P=>by induction P with|nil=>exact .nil|cons h _ ih=>exact .cons (.inr (.inr ⟨_,_,rfl,rfl,z9 (s _ _ h),og _⟩)) ih
  refine z0 g ⟨_,Da.lst (lk.map gA),2,2,by decide,pd P,.inr (.inr ⟨_,_,rfl,rfl,z9 (s _ _ hb),og _⟩),fun d hd=>?_,?_⟩
  ·obtain⟨lk',h',rfl⟩:=A5.mp hd;obtain⟨j,ej⟩:=BJ h';have hj:=zc ej;rw[AJ] at hj;rw[C1 (by omega)] at ej;have ne:lk'≠lk:=by have:=BF.mp A.nd j i (by omega) hi (by omega);rw[Ae (by omega)] at ej;rw[Ae hi] at elk;rw[AK ej,AK elk] at this;exact this
   show Da.eqs _ _=false;exact sd ne
  refine⟨k,b,c,ks,lk,bs,decide (((i:Nat):Int)<2),rfl,s _ _ hk,s _ _ hb,s _ _ hc,S,Tr.ln,Tr.b01,Tr.fs th ct,?_⟩;refine v5 rfl (qg g (z0 g ⟨by rw[Aa];exact big _ (by omega),_,DA _,as++[b],_,_,rfl,s.upd hw,by rw[q8,Az];rfl,?_⟩));rw[AH,elk];exact kj P hb
 ·rintro τ L' ⟨as,c4,c5,rfl,s,g,P⟩;exact ac s q
structure ah9(K:Ac)(x qual:Str)(st:Stmt)(f:Addr)(fd:FuncData):Prop where
 ex:∃(oc:Value) (od:Option Addr) (dV kV doc pm:Value) (an:Option Addr) (cdv ct:Value) (osl:Array (Option Value)),
  fd=PySem.W.fnOf x qual (ja st) (zn st) (qk st) dV kV doc pm an cdv ct/\K.lookup f=some ⟨oc,od,.func fd,osl⟩/\PySem.W.codeIn K cdv qual=true
 kp:PySem.W.keepIn K (.ref f)=true
structure fZ(K:Ac)(x:Str)(st:Stmt)(d:Int):Prop where
 ex:∃(f T:Addr) (oT:Obj) (t:Tok) (n:Nat) (kV doc pm:Value) (an:Option Addr) (cdv ct:Value),PySem.W.nsIn K mainGlobals x=some (some (.ref f))/\ah9 K x x st f (PySem.W.fnOf x x (ja st) (zn st) (qk st) (.ref T) kV doc pm an cdv ct)/\K.lookup T=some oT/\oT.data=.seq #[.int d t] n
theorem def_inD{K:Ac}{T:Addr}{oc2:Value}{od2:Option Addr}{osl2:Array (Option Value)}{kV:Value}{t:Tok}(a:PySem.W.nsIn K mainGlobals x=some (some (.ref f)))
 (l:K.lookup f=some ⟨oc,od,.func (PySem.W.fnOf x x (ja st) (zn st) (qk st) (.ref T) kV doc pm an cdv ct),osl⟩) (lt:K.lookup T=some ⟨oc2,od2,.seq #[.int d t] n,osl2⟩) (c:PySem.W.codeIn K cdv x=true) (k:PySem.W.keepIn K (.ref f)=true):fZ K x st d:=
 ⟨f,T,_,t,n,kV,doc,pm,an,cdv,ct,a,⟨⟨oc,od,.ref T,kV,doc,pm,an,cdv,ct,osl,rfl,l,c⟩,k⟩,lt,rfl⟩
theorem aiy{P:Program}{w:World}{K:Ac}{N:List Str}{k:Nat}{sp:gx}{t:X3->k6}(F:ah9 K x qual st f fd)(S:aO N ps (qk st))(len:∀ys L Q E,sp ys L Q E->ys.length=ps.length)
 (hbody:∀(cdv:Value) (A:Around) (outer:List Env) (s:Shared) (H:Hp) (E:XK) (E3:X3),v8 k (A.deeper (PyProof.Rows.envOfC qual (qk st) s.heap.objs.size f cdv))->
  bV (cW (vT P w) P w K mg base N qual (qk st) f cdv A outer s H E) (upX ⟨K,P,w⟩ E3)->pj (cW (vT P w) P w K mg base N qual (qk st) f cdv A outer s H E) (zn st) (t E3))
 (vc:∀ys L Q E,sp ys L Q E->t (yA E) { nx:=fun _ L'=>cV Q .non L',rt:=cV Q } (fY N ys) L):ag4 P w K mg base (k+1) f fd ps sp:=by
 obtain⟨oc,od,dV,kV,doc,pm,an,cdv,ct,osl,rfl,lk,hcd⟩:=F.ex;refine ae7 lk hcd S (fun vs H Q E ⟨ys,L,Q3,E3,rv,rl,z,_⟩=>by rw[<-rv.length];exact len ys L Q3 E3 z) fun A outer s H vs Q E hr ⟨ys,L,Q3,E3,rv,rl,z,k,kx⟩=>?_;refine⟨_,hbody cdv A outer s H E (yA E3) hr (aga kx),fY N ys,L,_,mD rv,rl,vc ys L Q3 E3 z,?_⟩;exact⟨fun σ H' τ L' t' rs' rl' ⟨L2,s2,q2⟩=>k .non H' .non L2 t' (rl'.sub s2) (by rfl) q2,fun v H' y L' t' rl' rv' ⟨L2,s2,q2⟩=>k v H' y L2 t' (rl'.sub s2) rv' q2,fun _ _ _ _ _ _ _ z=>z.elim,fun _ _ _ _ _ _ _ z=>z.elim⟩
end L3
namespace L2
open PySem PySem.Spec PyProof.Rows
section
end
section
variable {k:Nat}{kp:Pos}{ke:Expr}{tk:TE}{dvs:List V}{ds:List Value}
end
end L2
namespace L3
open PySem L2
structure zZ(K:Ac)(fd:FuncData)(ps:List Str)(d:Int)(kn:Str):Prop where
 all:vo K fd ps []
 df:∃t,vo K fd ps [.int d t]
 kw:∀(s:Shared) (us:List Value) (u:Value),K.In s.heap->(us++[u]).length=ps.length->BindsTo s fd ⟨us,[(kn,u)]⟩ (ps.zip (us++[u]))
structure d0(P:Program)(w:World)(K:Ac)(mg:Str->Option Value)(base:Heap)(k:Nat)(x:Str)(ps:List Str)(d:Int)(kn:Str)(sp:gx):Prop where
 ex:∃f fd,ag4 P w K mg base k f fd ps sp/\zZ K fd ps d kn/\PySem.W.keepIn K (.ref f)=true/\mg x=some (.ref f)
section
variable {P:Program}{w:World}{K:Ac}{k:Nat}{sp:gx}
theorem d0.mono(c:d0 P w K mg base j x ps d kn sp)(h:j≤k):d0 P w K mg base k x ps d kn sp:=by obtain⟨f,fd,F,b,kp,m⟩:=c.ex;exact⟨f,fd,F.mono h,b,kp,m⟩
theorem d0.toX(c:d0 P w K mg base k x ps d kn sp):aeq P w K mg base k x ps sp:=by obtain⟨f,fd,F,b,kp,m⟩:=c.ex;exact⟨f,fd,F,b.all,kp,m⟩
theorem fZ.useD(D:fZ K x st d)(X:K.In h)(G:h.Ns mainGlobals mg)
 (hb:∀(T:Addr) (t:Tok) (kV doc pm:Value) (an:Option Addr) (cdv ct:Value),
  (∀us:List Value,us.length=ps.length->∃k,bindArgs (PySem.W.fnOf x x (ja st) (zn st) (qk st) (.ref T) kV doc pm an cdv ct) ⟨us,[]⟩=seqItems? (.ref T) >>= k/\k (some #[.int d t])=pure (ps.zip us))/\
  (∀us:List Value,(us++[Value.int d t]).length=ps.length->∃k,bindArgs (PySem.W.fnOf x x (ja st) (zn st) (qk st) (.ref T) kV doc pm an cdv ct) ⟨us,[]⟩=seqItems? (.ref T) >>= k/\k (some #[.int d t])=pure (ps.zip (us++[.int d t])))/\
  (∀(us:List Value) (u:Value),(us++[u]).length=ps.length->∃k,bindArgs (PySem.W.fnOf x x (ja st) (zn st) (qk st) (.ref T) kV doc pm an cdv ct) ⟨us,[(kn,u)]⟩=seqItems? (.ref T) >>= k/\k (some #[.int d t])=pure (ps.zip (us++[u])))):
 ∃f fd,ah9 K x x st f fd/\zZ K fd ps d kn/\mg x=some (.ref f):=by
 obtain⟨f,T,oT,t,n,kV,doc,pm,an,cdv,ct,a,F,lT,dT⟩:=D.ex;obtain⟨b1,b2,b3⟩:=hb T t kV doc pm an cdv ct;refine⟨f,_,F,⟨fun s us KX hl=>?_,⟨t,fun s us KX hl=>?_⟩,fun s us u KX hl=>?_⟩,BV X G a⟩
 ·rw[AL] at hl ⊢;obtain⟨k,h1,h2⟩:=b1 us hl;exact BindsTo.of_defaults rfl (KX T oT lT) dT h1 h2
 ·obtain⟨k,h1,h2⟩:=b2 us hl;exact BindsTo.of_defaults rfl (KX T oT lT) dT h1 h2
 ·obtain⟨k,h1,h2⟩:=b3 us u hl;exact BindsTo.of_defaults rfl (KX T oT lT) dT h1 h2
end
theorem wP{a:Value}(h:(us++[a]).length=2):∃u,us=[u]:=by
 rw[Ab,Ap] at h
 match us,h with
 |[u],_=>exact⟨u,rfl⟩
section
variable {ke:Expr}{tk:jz}{cp kp:Pos}{E3:X3}{k:Nat}{sp:gx} 
end
open PySem L2 Words
theorem lh{ks:List (Option Kn)}:∀{pl:List Nat},(∀p∈pl,∃e i j,ks[p]?=some (some (.nd e i j)))->(ju ks pl).length=2*pl.length
 |[],_=>by simp[ju]
 |p::r,h=>by have ih:=lh (pl:=r) fun q hq=>h q (Af _ hq);obtain⟨e,i,j,ek⟩:=h p (Ax ..);have ea:=gL ks [p] r;rw[Cq] at ea;rw[ea,Ab,ih,gQ ek,Aa,AD];show 2+_=_;omega
theorem lP:∀ks:List (Option Kn),(∀k∈ks,k≠none)->ks.countP vf+ks.countP (zk false)+ks.countP (zk true)=ks.length
 |[],_=>rfl
 |k::r,h=>by
  have ih:=lP r fun q hq=>h q (Af _ hq);rw[AY,AY,AY,AD];cases k with
  |none=>exact absurd rfl (h none (Ax ..))
  |some k=>
   cases k with|lf t n=>simp[vf,zk];omega|nd e i j=>cases e<;>simp[vf,zk]<;>omega
theorem eL(e:Bool)(ks:List (Option Kn)):(qx e ks).length=ks.countP (zk e):=by rw[ko _ _ _ (Ag _),AB]
theorem li(h:∀k∈ks,k≠none):(ji ks).length=ks.length:=by rw[ko _ _ _ (Ag _),AB];refine Cr.mpr fun k hk=>?_;cases k with|none=>exact absurd rfl (h none hk)|some k=>rfl
theorem lI:∀(l m:List Nat),l.Nodup->(∀x∈l,x∈m)->l.length≤m.length
 |[],_,_,_=>Bb _
 |x::r,m,nd,h=>by
  obtain⟨n1,n2⟩:=A1.mp nd;have hx:=h x (Ax ..);have p:=List.perm_cons_erase hx;have ih:=lI r (m.erase x) n2 fun y hy=>by refine(List.mem_erase_of_ne ?_).mpr (h y (Af _ hy));rintro rfl;exact n1 hy
  rw[p.length_eq,AD,AD];omega
theorem uh{l m:List Nat}(nd:l.Nodup)(h:∀x∈l,x∈m)(hm:m.length≤l.length):∀x∈m,x∈l:=fun x hx=>by
 by_cases c:x∈l
 ·exact c
 ·have:=lI (x::l) m (A1.mpr ⟨c,nd⟩) fun y hy=>by
   rcases AC.mp hy with rfl | hy
   ·exact hx
   ·exact h y hy
  rw[AD] at this;omega
section
variable (rr:∀a,R a a)(rs:∀a b,R a b->R b a)(rt:∀a b c,R a b->R b c->R a c)
include rt
include rr
omit rr
include rs
end
def bD(C:Addr):gx:=fun ys L Q _=>∃a,∃ws:List Wd,∃m:Int,ys=[.ref a,.int m]/\L a=some (.lst (ws.map qw))/\bE (LV ws)/\(LV ws).length=2*BO ws+2/\(∀w∈ws,w.depth≤63/\w.leaves≤63)/\(LV ws).length≤63/\SZ ws≤100/\(∀n:Nat,bz (LV ws) n->(n:Int)≤m)/\(∀i≤(vz ws).length,bnd (vz ws) i≤100000)/\C=C/\
 (∀k b e lk L',qf L L'->L' k=some (.lst (bw (vz ws)))->L' b=some (.lst (zf lk))->L' e=some (.lst [])->kJ (vz ws) (vz ws).length lk->lk.Pairwise ir->Rt (vz ws) lk []->Q (.tup [.str "web",fG k b e]) L')/\
 ∀t ts lks L',qf L L'->L' t=some (.lst ts)->nQ L' (vz ws) ts lks->Paired List.Perm lks (ax (vz ws) (vz ws).length)->Q (.tup [.str "tries",.ref t]) L'
theorem nU :∀ys L Q E,bD C ys L Q E->x8 (iZ C (yA E) eZ dm iD cg nK) 6 ys L Q:=by
 rintro ys L Q E ⟨a,ws,m,rfl,ha,ev,hbo,hok,hlv,hsz,hm,hB,_,q,q2⟩;refine⟨a,ws,rfl,ha,hok,by omega,fun p1 hp1=>?_⟩;have s1:qf L (qd L p1 (.lst ((LV ws).map qw))):=By hp1;have g1:(qd L p1 (.lst ((LV ws).map qw))) p1=some (.lst ((LV ws).map qw)):=q8;generalize qd L p1 (.lst ((LV ws).map qw))=L1 at s1 g1;have hlf:∀w∈LV ws,∃t n,w=Wd.leaf t n:=fun w hw=>sr hw;refine⟨p1,LV ws,rfl,g1,hlf,by omega,(fun y hy=>absurd ev (g9 hy)),fun hn=>?_⟩;refine⟨a,ws,rfl,s1 _ _ ha,hsz,fun k p hk hp hkp=>?_⟩;have s2:qf L1 (qd (qd L1 k (.lst (x9 0 ws))) p (.lst (tm 0 ws))):=(By hk).upd hp;have g2:(qd (qd L1 k (.lst (x9 0 ws))) p (.lst (tm 0 ws))) k=some (.lst (bw (vz ws))):=by rw[qe hkp,q8,xK]
 generalize qd (qd L1 k (.lst (x9 0 ws))) p (.lst (tm 0 ws))=L2 at s2 g2;have lk:=mw ws;refine jo g2 fun keep kp=>bK (fun i zs=>zs.length=((vz ws).take i).countP (zk false)) (by rw[Aa,lk];exact AM hsz (by decide)) (kp _ rfl) rfl ?_ ?_
 ·rintro i y zs hy hz;rw[Ak] at hy;obtain⟨kk,ekk,rfl⟩:=Aj.mp hy;have et:(vz ws).take (i+1)=(vz ws).take i++[kk]:=by rw[AH,ekk];rfl
  have no:zk false kk=false->bT (fun zs L'=>L'=L2/\zs.length=((vz ws).take (i+1)).countP (zk false)) zs L2:=fun h=>⟨L2,DA _,rfl,by rw[et,AN,hz];simp[h]⟩;have yes:∀z,zk false kk=true->bT (fun zs L'=>L'=L2/\zs.length=((vz ws).take (i+1)).countP (zk false)) (zs++[z]) L2:=fun z h=>⟨L2,DA _,rfl,by rw[et,AN,Ab,hz];simp[h]⟩;cases kk with
  |none=>exact absurd rfl (mQ ws none (An ekk))
  |some kn=>
   cases kn with
   |lf t n=>cases t<;>exact no rfl
   |nd e i' j'=>
    cases e with|true=>exact no rfl|false=>exact yes _ rfl
 ·intro zs hz p3 hp3;rw[Aa,AB,kA] at hz;refine qg q8 ?_;have s3:=By (o:=.lst zs) hp3;have sL:=(s1.trans s2).trans s3;have g13:=s3 _ _ (s2 _ _ g1);have g23:=s3 _ _ g2;have ha3:=sL _ _ ha;rw[hz];generalize qd L2 p3 (.lst zs)=L3 at s3 sL g13 g23 ha3;refine qg g13 ⟨.inl ⟨by decide,by decide⟩,?_⟩;refine v5 (by show(!decide ((((LV ws).map qw).length:Int)=2*(BO ws:Int)+2))=false;rw[Al (by rw[Aa];omega)];rfl) ?_;refine⟨a,ws,rfl,ha3,hok,(by omega),fun n hT=>?_⟩;have hW:bz (LV ws) n:=by
   rcases hT with⟨_,h⟩ | ⟨h,_⟩
   ·exact h
   ·exact absurd ev h
  have hnm:=hm n hW;show ku (decide ((n:Int) > m)) _ _;refine v5 (Am (by omega)) ?_;exact⟨k,vz ws,rfl,g23,mQ ws,by rw[lk];omega,⟨hB,by rw[abe];exact hlv⟩,aeb ws,fun b e lk L' s hb he wy wp hR=>vd (q k b e lk L' (sL.trans s) (s _ _ g23) hb he wy wp (hR (li (mQ ws)))),fun t ts lks L' s gt T P=>vd (q2 t ts lks L' (sL.trans s) gt T P)⟩
theorem my(ns:List Int)(lo hi:Option Int):∃ms:List Int,hV (ns.map Y.int) lo hi=ms.map Y.int/\ms.length≤ns.length:=by unfold hV;refine⟨(ns.drop (HT.sIx (ns.map Y.int).length 0 lo)).take (HT.sIx (ns.map Y.int).length (ns.map Y.int).length hi - HT.sIx (ns.map Y.int).length 0 lo),by rw[Dt,C5],?_⟩;rw[AJ,Ba];omega
theorem adt{L:qo}:∀ks:List Kn,Paired (xo L 1) (ks.map hG) (ks.map cB)
 |[]=>.nil
 |k::r=>.cons (jI k) (adt r)
theorem aj6:∀ks:List Kn,Da.eqs (ks.map cB) (ks.map cB)=true
 |[]=>rfl
 |k::r=>by rw[Ay,Da.eqs,aj6 r];cases k<;>simp[cB,Da.eq,Da.eqs,kO]
theorem abd(hno:∀k∈ks,k≠none)(w:kJ ks ks.length lk)(wp:lk.Pairwise ir)(hl:2*lk.length=ks.countP vf)(h20:lk.length≤20)(h100:ks.length≤100):LkS ks lk:=by
 obtain⟨h1,⟨_,_,h4,h5,_,_⟩,h8⟩:=w;have sub:∀p∈jy lk,p∈vt vf ks ks.length:=fun p hp=>by obtain⟨k,e,hb⟩:=h5 p hp;exact vN e hb (zc e)
 have len:(vt vf ks ks.length).length≤(jy lk).length:=by rw[ko _ _ _ (Ag _),AB,eJ];omega
 exact⟨fun y hy=>(h8 y hy).2.2.2.2,h4,fun p=>⟨sub p,fun h=>uh h4 sub len p h⟩,wp,h1,h20,hno,h100⟩
def acv(p0:j4)(p1:j4)(p2:j4)(p3:j4)(p4:gx)(p5:j4)(p6:j4)(p7:j4)(p8:j4)(p9:j4):k6:=(qm (z8 (zg aj (zg be (zg aea (qa 0) (vj (vv (jm 0)))) (jm 0)) (zg anb (jm 10) (jm 9))) (qb 1))
 (qm (z8 (vH hX (qa 0) (bB (jm 1)) w9) (qb 2))
 (qm (adx 12 (z8 (lZ aer (qj (oG 2 (bN (qa 2)) (aK 2 (zw (qb 13) (zw (qb 14) aF))) rJ (qz p0 (qj (qa 14) (dh (qa 13) (jm 16807))))) zj)) (qb 3)))
 (qm (z8 (qz p1 (qj (vH hX (qa 2) w9 (bB (jm 5))) (dh (qa 1) (qa 3)))) (qb 4))
 (qm (z8 (zg ao (fV 4) (jm 2)) (qb 5))
 (qm (z8 (qz p2 (qj (qa 4) (qj (zg jk (vj (vv (qa 3))) (vH hX (qa 2) w9 (bB (jm 24)))) (qj (zg uc (qa 5) (jm 1)) (qj (zg aj (zg ao (zg jk (qa 1) (qa 3)) (jm 10)) (zg jk (qa 5) (jm 1))) zj))))) (qb 6))
 (qm (z8 (qz p3 (vv (qa 6))) (qb 7))
 (qm (z8 (xD p4 noX (qj (lZ fA (vv (qa 6))) (vv (jm 24)))) (qb 8))
 (qm (v4 (mj (dY (yB (dN .tuple (qa 8)))) (oN (fV 8) (jm 2))) (zr (yC (.bl false))) je)
 (qm (v4 (mf (k8 8 0) (gi "tries")) (zr (qz p5 (qj (qa 7) (qj (k8 8 1) (qj (qz p6 (vv (qa 4))) zj))))) je)
 (qm (z8 (k8 8 1) (qb 9))
 (qm (v4 (mj (oN (k8 8 0) (gi "web")) (mj (dY (yB (dN .tuple (qa 9)))) (oN (fV 9) (jm 3)))) (zr (yC (.bl false))) je)
 (qm (v4 (mj (oN (k8 9 0) (qa 7)) (mj (dY (yB (qz p7 (dh (qa 7) (k8 9 1))))) (oN (k8 9 2) (vj zj)))) (zr (yC (.bl false))) je)
 (qm (z8 (lZ kD (qj (oG 1 (jq (qa 7)) (qb 13) (mf (k8 13 0) (gi "either")) (qa 13)) zj)) (qb 10))
 (qm (z8 (jm 1) (qb 11))
 (qm (wt (cP (vv (qa 10))) (qb 12) (z8 (zg hJ (jm 2) (qa 11)) (qb 11)))
 (qm (wt (cP (vv (qa 11))) (qb 12) (v4 (oN (qz p8 (qj (qa 7) (qj (k8 9 1) (qj (qz p9 (dh (qa 12) (qa 10))) zj)))) (jm 1)) (zr (yC (.bl false))) je))
 (zr (yC (.bl true))))))))))))))))))))
theorem qK:∀ws:List Wd,SZ ws≤2*(LV ws).length
 |[]=>Ag _
 |w::r=>by
  have:=qK r;have:=w.size_eq;have e:LV (w::r)=w.leafL++LV r:=by unfold LV;rw[Bl]
  rw[bP,e,Ab,DG];omega
theorem agd(ks:List (Option Kn)):ks.countP zL=(ks.filterMap iN).countP wX:=by
 induction ks with
 |nil=>rfl
 |cons k r ih=>
  rw[AY,ih];cases k with
  |none=>simp[iN,zL,A7]
  |some k=>
   cases k with|nd e i j=>simp[iN,zL,A7]|lf t n=>cases t<;>simp[iN,zL,wX,AY]
theorem sv{f:Str->Nat}(h:∀x,f x≤5):∀l:List Wd,(l.map (ac6 f)).prod≤5 ^ l.countP wX
 |[]=>by simp
 |w::r=>by
  have ih:=sv h r;rw[Ay,B3,AY];have one:ac6 f w≤5 ^ (if wX w=true then 1 else 0):=by
   cases w with
   |node e l r=>exact Ag 1
   |leaf t x=>
    cases t with|true=>exact Ag 1|false=>exact h x
  rw[Nat.pow_add,CL];exact Nat.mul_le_mul ih one
theorem sT.bnd{s:Int}(V:sT s (LV ws) i)(hi:i≤5):∀j≤(vz ws).length,bnd (vz ws) j≤100000:=fun j _=>by
 have lv:(vz ws).filterMap iN=LV ws:=cY 0 ws;rw[ah8];refine AI (sv (fun x=>?_) _) ?_
 ·rw[om,lv,V.ct];have:=BX (p:=fun k=>decide (hY s (pk s k)=x)) (l:=List.range i);rw[AZ] at this;omega
 ·have sub:(((vz ws).take j).filterMap iN).countP wX≤((vz ws).filterMap iN).countP wX:=((BZ j _).filterMap _).countP_le;rw[lv,V.pl] at sub;exact AI (CC (by decide) (AI sub hi)) (by decide)
theorem adq{s:Int}(V:sT s (LV ws) i)(hi:i≤5)(hb:BO ws+1=i)(wy:kJ (vz ws) (vz ws).length lk)(wp:lk.Pairwise ir):xA (vz ws) lk/\LkS (vz ws) lk/\(ji (vz ws)).length=(vz ws).length/\(ze (vz ws) lk []).length+(qx true (vz ws)).length+1=(vz ws).length:=by
 have lv:(vz ws).filterMap iN=LV ws:=cY 0 ws;have hno:=mQ ws;have l1:lk.length=i:=by rw[wy.2.1.2.2.2.2.1];unfold ab9;rw[AB,agd,lv,V.pl]
 have l2:(vz ws).countP vf=2*i:=by rw[<-ee,lv,V.ln]
 have k3:=lP (vz ws) hno;have b3:(vz ws).countP (zk false)=BO ws:=kA 0 ws;have e2:(ju (vz ws) (qx false (vz ws))).length=2*(qx false (vz ws)).length:=lh fun p hp=>by
  obtain⟨_,kn,ek,hk⟩:=bL hp;cases kn with
  |none=>cases hk
  |some kn=>
   cases kn with|lf t n=>cases hk|nd e i j=>exact⟨e,i,j,ek⟩
 have hz:=qK ws;have kl:=mw ws;rw[V.ln] at hz;have kt:=eL true (vz ws);refine⟨⟨hno,aeb ws,fun x hx=>⟨(wy.2.2 x hx).1,(wy.2.2 x hx).2.1⟩,by omega,by omega,by omega,by omega⟩,abd hno wy wp (by omega) (by omega) (by omega),li hno,?_⟩;unfold ze;rw[AL,Ab,e2,eL,eL];omega
theorem lS{α β:Type}{R:α->β->Prop}:∀{xs:List α} {ys:List β} {i:Nat} {y:β},Paired R xs ys->ys[i]?=some y->∃x,xs[i]?=some x/\R x y
 |_,_,0,_,.cons r _,e=>by cases e;exact⟨_,rfl,r⟩
 |_,_,i+1,_,.cons _ t,e=>lS (i:=i) t e
theorem uy{a b:List (List (Nat×Nat))}(P:Paired List.Perm a b)(h:b.Pairwise fun x y=>¬x.Perm y):a.Pairwise fun x y=>x≠y:=by
 induction P with
 |nil=>exact .nil
 |@cons x y xs ys p t ih=>
  obtain⟨h1,h2⟩:=CS.mp h;refine CS.mpr ⟨fun z hz e=>?_,ih h2⟩;obtain⟨j,ej⟩:=BJ hz;obtain⟨w,ew,pw⟩:=aU t ej;exact h1 w (An ew) (p.symm.trans (e▸pw))
theorem xL :∀ys L Q,r6 ys L Q->x8 (acv iS cZ ce iu (bD C) nL ff cr am dr) 13 ys L Q:=by
 rintro ys L Q ⟨ns,rfl,h63,rfl,q⟩;have big:=bg_;intro p0 hp0;refine qg q8 ⟨rfl,rfl,bQ (by rw[Aa];show ns.length+1≤1000;omega),fun p hp=>?_⟩;obtain⟨c,ec⟩:∃c:Int,bW (ns.map Y.int++[Y.int 0]) 0=some (Y.int c):=by cases ns with|nil=>exact⟨0,rfl⟩|cons a r=>exact⟨a,vn (j:=0) rfl⟩
 refine qg q8 (qq ec ⟨⟨by decide,by decide,by decide⟩,(by decide:(0:Int)<10 ^ (9:Int).toNat),?_⟩);show qb 1 (Y.int (c % (10:Int) ^ (9:Int).toNat)) _ _ _;generalize c % (10:Int) ^ (9:Int).toNat=s;generalize qd (qd _ p0 _) p _=L1;clear hp hp0 ec;obtain⟨ms,ems,hms⟩:=my ns (some 1) none;intro pc hpc;rw[ems];have gc:qd L1 pc (.lst (ms.map Y.int)) pc=some (.lst (ms.map Y.int)):=q8;generalize qd L1 pc (.lst (ms.map Y.int))=L1 at gc ⊢;clear hpc;refine jo gc fun keep kp=>bK (fun i zs=>∃vs:List Int,zs=vs.map Y.int) (by rw[aS,Aa];exact big _ (by omega)) (kp _ rfl) ⟨[],rfl⟩ ?_ ?_
 ·rintro i y zs hy ⟨vs,rfl⟩;obtain⟨z,ez,rfl⟩:=aw hy;have hi:i<ms.length:=by have:=zc ez;rwa[Aa] at this
  obtain⟨c,rfl⟩:∃c,z=Y.int c:=by rw[Ak] at ez;obtain⟨w,_,e2⟩:=Aj.mp ez;exact⟨w,e2.symm⟩
  exact⟨c,(i:Int),16807,rfl,by omega,by omega,by decide,by decide,fun v v0 v1=>⟨_,DA _,rfl,vs++[v],by rw[Az];rfl⟩⟩
 rintro _ ⟨vs,rfl⟩ p12 hp12;refine⟨rfl,qg q8 (qq (u6 _) ?_)⟩;generalize vs.sum=tot;have v12:=By (o:=.lst (vs.map Y.int)) hp12;have gc:=v12 _ _ gc;generalize qd L1 p12 (.lst (vs.map Y.int))=L2 at gc ⊢;clear v12 hp12;obtain⟨m5,e5,h5⟩:=my ms none (some 5);refine z0 gc fun q5 hq5=>?_;rw[e5];have gc:=By (o:=.lst (m5.map Y.int)) hq5 _ _ gc;have g5:qd L2 q5 (.lst (m5.map Y.int)) q5=some (.lst (m5.map Y.int)):=q8;generalize qd L2 q5 (.lst (m5.map Y.int))=L2 at gc g5 ⊢;clear hq5;refine⟨q5,m5,s,tot,rfl,g5,by omega,fun lv ls hlv V=>?_⟩;have gc:=By (o:=.lst (ls.map qw)) hlv _ _ gc;have gl:qd L2 lv (.lst (ls.map qw)) lv=some (.lst (ls.map qw)):=q8;generalize qd L2 lv (.lst (ls.map qw))=L2 at gc gl ⊢;clear hlv g5;obtain⟨P,hP,hP5,hP1⟩:∃P:Nat,P=(1+s % 5).toNat/\P≤5/\1≤P:=⟨_,rfl,by omega,by omega⟩;rw[<-hP] at V;have hln:=V.ln;refine qg gl ⟨⟨by decide,by decide⟩,?_⟩;have ep:((ls.map qw).length:Int) / 2=(P:Int):=by rw[Aa];omega
 show qb 5 (Y.int (((ls.map qw).length:Int) / 2)) _ _ _;rw[ep];obtain⟨m24,e24,h24⟩:=my ms none (some 24);have h24':m24.length≤24:=by have:=A4 List.length e24;rw[Aa] at this;rw[<-this];have e:hV (ms.map Y.int) none (some ((24:Nat):Int))=(ms.map Y.int).take 24:=tO ..;have e:hV (ms.map Y.int) none (some 24)=(ms.map Y.int).take 24:=e;rw[e,AJ];omega
 intro q1 hq1;have gc1:=By (o:=.lst [Y.int tot]) hq1 _ _ gc;have gl1:=By (o:=.lst [Y.int tot]) hq1 _ _ gl;have x1:qd L2 q1 (.lst [Y.int tot]) q1=some (.lst [Y.int tot]):=q8;generalize qd L2 q1 (.lst [Y.int tot])=L3 at gc1 gl1 x1 ⊢;refine z0 gc1 fun q2 hq2=>?_;rw[e24];have gl2:=By (o:=.lst (m24.map Y.int)) hq2 _ _ gl1;have x1:=By (o:=.lst (m24.map Y.int)) hq2 _ _ x1;have x2:qd L3 q2 (.lst (m24.map Y.int)) q2=some (.lst (m24.map Y.int)):=q8;generalize qd L3 q2 (.lst (m24.map Y.int))=L4 at gl2 x1 x2 ⊢;refine⟨_,_,x1,x2,by rw[Aa];exact Bi (big _ (by show 1+m24.length≤20000;omega)),fun q3 hq3=>?_⟩;have e25:[Y.int tot]++m24.map Y.int=(tot::m24).map Y.int:=rfl;rw[e25];have gl:=By (o:=.lst ((tot::m24).map Y.int)) hq3 _ _ gl2;have x3:qd L4 q3 (.lst ((tot::m24).map Y.int)) q3=some (.lst ((tot::m24).map Y.int)):=q8;generalize qd L4 q3 (.lst ((tot::m24).map Y.int))=L5 at gl x3 ⊢;clear hq3 hq2 hq1 x1 x2 gl1 gl2 gc1 gc;have ei0:0≤(s+tot) / 10 % ((P:Int)+1):=BD _ (by omega);have ei1:(s+tot) / 10 % ((P:Int)+1)<(P:Int)+1:=Br _ (by omega);refine⟨⟨by decide,by decide⟩,(by show(0:Int)<(P:Int)+1;omega),lv,q3,ls,tot::m24,(P:Int) - 1,(s+tot) / 10 % ((P:Int)+1),rfl,gl,x3,V.lf,by omega,by omega,by rw[AD];omega,by omega,by omega,ei0,by omega,fun w ws hw hLV hbo=>?_⟩;have hbo:=hbo (by omega);have gl:=By (o:=.lst (ws.map qw)) hw _ _ gl;have gw:qd L5 w (.lst (ws.map qw)) w=some (.lst (ws.map qw)):=q8;generalize qd L5 w (.lst (ws.map qw))=L6 at gl gw ⊢;clear hw x3;subst hLV;have hbo':BO ws+1=P:=by omega
 have hsm:=yR (ws:=ws) (by omega);have hsz:SZ ws≤100:=by have:=qK ws;omega
 refine⟨w,ws,rfl,gw,hsz,fun k3 hk3=>?_⟩;have gl:=By (o:=.lst (x9 0 ws)) hk3 _ _ gl;have gw:=By (o:=.lst (x9 0 ws)) hk3 _ _ gw;have g3:qd L6 k3 (.lst (x9 0 ws)) k3=some (.lst (bw (vz ws))):=by rw[q8,xK]
 generalize qd L6 k3 (.lst (x9 0 ws))=L7 at gl gw g3 ⊢;clear hk3;refine qg gw fun p6 h6=>?_;have gl:=By (o:=.lst (ws.map qw)) h6 _ _ gl;have g3:=By (o:=.lst (ws.map qw)) h6 _ _ g3;have g6:qd L7 p6 (.lst (ws.map qw)) p6=some (.lst (ws.map qw)):=q8;generalize qd L7 p6 (.lst (ws.map qw))=L8 at gl g3 g6 ⊢;clear h6;refine⟨p6,ws,24,rfl,g6,V.even,by omega,hsm,by omega,hsz,V.ways hP5,V.bnd hP5,rfl,fun k b e lk L9 s9 f1 f2 f3 wy wp hR=>?_,fun t ts lks L9 s9 gt T Pm=>?_⟩
 rotate_left
 ·
  have gl:=s9 _ _ gl;have g3:=s9 _ _ g3;refine⟨lv,LV ws,rfl,gl,V.lf,by omega,fun n hn=>?_⟩;have lt:ts.length=lks.length:=kf T;have lp:lks.length=(ax (vz ws) (vz ws).length).length:=kf Pm;have hW:=aal V.even;obtain⟨nd,nm⟩:=V.nms hP5;have en:n=ts.length:=by rw[lt,lp,hn _ nd nm,hW _ nd nm]
  have h24:=V.ways hP5 n hn;subst en;refine⟨k3,t,vz ws,ts,lks,rfl,g3,gt,T,⟨fun lk hlk=>?_,uy Pm (sD _),by omega⟩,vd (q _)⟩;obtain⟨j,ej⟩:=BJ hlk;obtain⟨y,_,_,_,_,_,_,_,Tr⟩:=lS T ej;exact adq V hP5 hbo' Tr.wy Tr.wp
 ·
  have g3:=s9 _ _ g3;obtain⟨S,lks1,th,ct⟩:=adq V hP5 hbo' wy wp;have p2:=S.p2;have el:x9 0 ws=(ar 0 ws).map hG:=(iF 0 ws).symm;have dk:∀{a:Addr},L9 a=some (.lst (bw (vz ws)))->xo L9 2 (.ref a) (.lst ((ar 0 ws).map cB)):=fun h=>.inr (.inr ⟨_,_,rfl,rfl,z9 h,(by rw[xK,el];exact adt _)⟩);refine⟨rfl,rfl,2,2,_,_,by decide,dk f1,dk g3,?_⟩;refine v5 (by show(!Da.eqs _ _)=false;rw[aj6];rfl) ?_;refine⟨k3,b,vz ws,lk,rfl,g3,f2,lks1,?_⟩;refine v5 rfl ?_;intro p9 hp9;have v9:=By (o:=.lst []) hp9;refine⟨rfl,rfl,1,1,.lst [],.lst [],by decide,.inr (.inr ⟨_,_,rfl,rfl,z9 (v9 _ _ f3),.nil⟩),.inr (.inr ⟨_,_,rfl,rfl,z9 q8,.nil⟩),?_⟩;refine v5 rfl ?_;have f2:=v9 _ _ f2;have g3:=v9 _ _ g3;generalize qd L9 p9 (.lst [])=LA at f2 g3 ⊢;have lw:(bw (vz ws)).length=(vz ws).length:=Aa ..;refine jo g3 fun keep kp=>bK (fun i zs=>zs.length=((vz ws).take i).countP (zk true)) (by rw[lw];exact big _ (by omega)) (kp _ rfl) rfl ?_ ?_
  ·rintro i y zs hy hz;rw[Ak] at hy;obtain⟨kk,ekk,rfl⟩:=Aj.mp hy;have et:(vz ws).take (i+1)=(vz ws).take i++[kk]:=by rw[AH,ekk];rfl
   have no:zk true kk=false->bT (fun zs L'=>L'=LA/\zs.length=((vz ws).take (i+1)).countP (zk true)) zs LA:=fun h=>⟨LA,DA _,rfl,by rw[et,AN,hz];simp[h]⟩;have yes:∀z,zk true kk=true->bT (fun zs L'=>L'=LA/\zs.length=((vz ws).take (i+1)).countP (zk true)) (zs++[z]) LA:=fun z h=>⟨LA,DA _,rfl,by rw[et,AN,Ab,hz];simp[h]⟩;cases kk with
   |none=>exact absurd rfl (S.no none (An ekk))
   |some kn=>
    cases kn with
    |lf t n=>cases t<;>exact no rfl
    |nd e i' j'=>
     cases e with|false=>exact no rfl|true=>exact yes _ rfl
  intro zs hz p10 hp10;rw[lw,AB,<-eL] at hz;refine qg q8 ?_;obtain⟨m,hm⟩:∃m,m=zs.length:=⟨_,rfl⟩;rw[<-hm] at hz ⊢;have ei:=S.ei;have v10:=By (o:=.lst zs) hp10;have f2:=v10 _ _ f2;have g3:=v10 _ _ g3;generalize qd LA p10 (.lst zs)=LB at f2 g3 ⊢;refine⟨⟨Bp _,by omega⟩,?_⟩;rw[BA];refine eK (fun i τ L'=>∃xE,τ=[some (.sq (ns.map Y.int)),some (.int s),some (.ref pc),some (.int tot),some (.ref lv),some (.int (P:Int)),some (.ref w),some (.ref k3),some (.tup [.str "web",fG k b e]),some (fG k b e),some (.int (m:Int)),some (.int ((2 ^ i:Nat):Int)),xE]/\L'=LB) ⟨_,rfl,rfl⟩ ?_ ?_
  ·rintro i τ L' hi ⟨xE,rfl,rfl⟩;refine⟨.inl ⟨by decide,by decide⟩,_,DA _,some (.int (0+(i:Int))),?_,rfl⟩;rw[Dk,CL];rfl
  rintro τ L' ⟨xE,rfl,rfl⟩;have pw:2 ^ m≤2 ^ 10:=CC (by decide) (by omega);refine⟨⟨Bp _,by omega⟩,?_⟩;rw[BA];refine eK (fun i τ L''=>∃xE,τ=[some (.sq (ns.map Y.int)),some (.int s),some (.ref pc),some (.int tot),some (.ref lv),some (.int (P:Int)),some (.ref w),some (.ref k3),some (.tup [.str "web",fG k b e]),some (fG k b e),some (.int (m:Int)),some (.int ((2 ^ m:Nat):Int)),xE]/\L''=L') ⟨_,rfl,rfl⟩ ?_ ?_
  ·rintro i τ L'' hi ⟨xE,rfl,rfl⟩;refine⟨_,m,rfl,by omega,fun p20 bs hp20 hbl hb01 _=>?_⟩;have v20:=By (o:=.lst (nY bs)) hp20;refine⟨k3,b,p20,vz ws,lk,bs,rfl,v20 _ _ g3,v20 _ _ f2,q8,S.no,S.kr,S.wi,by have:=S.ln;omega,by rw[hbl,hz],hb01,S.p1,S.p2,fun d hd=>?_⟩;cases hd.mpr (i7 (by rw[hbl,hz]) hR.1);exact⟨L'',v20,_,rfl,rfl⟩
  ·rintro τ L'' ⟨xE,rfl,rfl⟩;exact vd (q _)
end L3
end
set_option maxRecDepth 100000
set_option maxHeartbeats 8000000
namespace K73
open PySem L2 L3 Words
abbrev nc:Str:="_law_knots"
abbrev ng:Str:="_law_leaves_here"
abbrev nh:Str:="_law_k"
abbrev nj:Str:="_law_links"
abbrev nl:Str:="_law_number"
abbrev nq:Str:="_law_cells"
abbrev nt:Str:="_law_choices"
abbrev nu:Str:="_law_seed"
abbrev nv:Str:="_law_script"
abbrev ny:Str:="_law_words"
abbrev nz:Str:="_law_due_here"
abbrev nA:Str:="_law_many"
def top(i:Nat):Stmt:=PySem.Challenge.pw_oncewise_k73_tries.main.body.getD i (.Pass ⟨0,0,0,0⟩)
theorem am1:∀{us:List Value},us.length=1->∃a0,us=[a0]
 |[a0],_=>⟨a0,rfl⟩
theorem ajs:∀{us:List Value},us.length=2->∃a0 a1,us=[a0,a1]
 |[a0,a1],_=>⟨a0,a1,rfl⟩
theorem am6:∀{us:List Value},us.length=3->∃a0 a1 a2,us=[a0,a1,a2]
 |[a0,a1,a2],_=>⟨a0,a1,a2,rfl⟩
theorem al9:∀{us:List Value},us.length=4->∃a0 a1 a2 a3,us=[a0,a1,a2,a3]
 |[a0,a1,a2,a3],_=>⟨a0,a1,a2,a3,rfl⟩
abbrev l8:Stmt:=top 8
abbrev oZ:Stmt:=top 9
abbrev gb:Stmt:=top 10
abbrev jW:Stmt:=top 12
abbrev zN:Stmt:=top 13
abbrev dF:Stmt:=(iI (top 4)).getD 0 (.Pass ⟨0,0,0,0⟩)
abbrev av:Stmt:=(iI (top 4)).getD 1 (.Pass ⟨0,0,0,0⟩)
abbrev cU:Stmt:=(iI (top 4)).getD 2 (.Pass ⟨0,0,0,0⟩)
abbrev cb:Stmt:=top 14
abbrev iz:Stmt:=top 15
abbrev gU:Stmt:=top 16
abbrev fB:Stmt:=top 17
abbrev iO:Stmt:=top 19
abbrev dw:Stmt:=top 20
abbrev i0:Stmt:=top 21
abbrev fD:Stmt:=top 22
abbrev iW:Stmt:=top 23
abbrev eS:Stmt:=top 24
abbrev jQ:Stmt:=top 25
abbrev aM:Stmt:=top 26
abbrev gp:Stmt:=top 27
abbrev g7:Stmt:=top 28
abbrev gZ:Stmt:=top 30
abbrev cI:Stmt:=top 31
abbrev g8:Stmt:=top 32
abbrev bC:Stmt:=top 33
abbrev cO:Stmt:=top 34
abbrev ah:Stmt:=top 35
abbrev jX:Stmt:=top 36
abbrev jT:Stmt:=top 38
abbrev gT:Stmt:=top 39
abbrev dH:Stmt:=top 40
abbrev ef:Stmt:=top 41
abbrev jZ:Stmt:=top 42
abbrev gf:Stmt:=top 43
abbrev dQ:Stmt:=top 44
abbrev gd:Stmt:=top 45
abbrev dG:Stmt:=top 46
abbrev dJ:Stmt:=top 47
abbrev ie:Stmt:=top 48
abbrev eI:Stmt:=top 49
abbrev gn:Stmt:=top 50
abbrev oU:Stmt:=top 51
structure V_ where
 (P:Program) (w:World) (K:Ac) (mg:Str->Option Value) (base:Heap) (Ca Cb:Addr)
structure B_(V:V_):Prop where
 hp:∃h:Heap,V.K.In h/\h.Ns mainGlobals V.mg
 ba:V.mg "len" = none
 bh:V.mg "list" = none
 bb:V.mg "range" = none
 bg:V.mg "enumerate" = none
 bq:V.mg "max" = none
 bv:V.mg "min" = none
 bj:V.mg "sorted" = none
 bc:V.mg "isinstance" = none
 bp:V.mg "bool" = none
 bu:V.mg "int" = none
 bn:V.mg "set" = none
 bi:V.mg "tuple" = none
 br:V.mg "sum" = none
 D0:qr V.K "is_leaf" l8
 D1:qr V.K "turned" oZ
 D2:qr V.K "leaves_of" gb
 D3:qr V.K "lay_word" jW
 D4:qr V.K "laid" zN
 D5:bJ V.K V.Ca "__init__" "Pieces.__init__" dF
 D6:bJ V.K V.Ca "head_of" "Pieces.head_of" av
 D7:bJ V.K V.Ca "unite" "Pieces.unite" cU
 D8:qr V.K "places_there" cb
 D9:qr V.K "parts_of" iz
 D10:qr V.K "places_in" gU
 D11:qr V.K "eithers_of" fB
 D12:qr V.K "boths_of" iO
 D13:qr V.K "part_edges" dw
 D14:qr V.K "joins_of" i0
 D15:qr V.K "join_steps" fD
 D16:qr V.K "can_fold" iW
 D17:qr V.K "fold_steps" eS
 D18:qr V.K "steps_by" jQ
 D19:qr V.K "all_come_together" aM
 D20:qr V.K "right_web" gp
 D21:qr V.K "first_bad" g7
 D22:qr V.K "leaves_in" gZ
 D23:qr V.K "first_uneven" cI
 D24:qr V.K "tries_due" g8
 D25:qr V.K "linked_further" bC
 D26:qr V.K "ways_to_link" cO
 D27:qr V.K "linked_or_tried" ah
 D28:fZ V.K "searched" jX 120
 D29:qr V.K "_law_mix" jT
 D30:qr V.K "_law_name" gT
 D31:qr V.K "_law_joined" dH
 D32:qr V.K "_law_whole" ef
 D33:qr V.K "_law_lay" jZ
 D34:qr V.K "_law_laid" gf
 D35:qr V.K "_law_pieces" dQ
 D36:qr V.K "_law_bits" gd
 D37:qr V.K "_law_linked" dG
 D38:qr V.K "_law_leaves" dJ
 D39:qr V.K "_law_due" ie
 D40:qr V.K "_law_tried" eI
 D41:qr V.K "_law_none" gn
 k_LEAF_KINDS:ag5 ⟨V.K,V.P,V.w⟩ V.mg "LEAF_KINDS" dM
 k_TURNED_KINDS:ag5 ⟨V.K,V.P,V.w⟩ V.mg "TURNED_KINDS" bX
 md:V.mg "Pieces" = some (.ref V.Ca)
 ma:V.mg "TooMany" = some (.ref V.Cb)
 x_TooMany:yg V.K V.Cb
 cl_Pieces:Cls V.K V.Ca
 mAPieces:PySem.W.makesIn V.K V.Ca=true
 mKPieces:PySem.W.keepIn V.K (.ref V.Ca)=true
 xf:L3.XFP V.K V.Ca
abbrev Q_(V:V_)(k:Nat)(x:Str)(ps:List Str)(sp:j4):Prop:=afv V.P V.w V.K V.mg V.base k x ps sp
abbrev c0(_:V_):Prop:=True
local macro_rules | `(tactic| walk_at "s")=>`(tactic| exact⟨rfl,rfl,rfl,by decide +kernel,rfl,by decide +kernel,by decide +kernel⟩)
local macro_rules | `(tactic| walk_at "l")=>`(tactic| first | exact fun _ _ _ ⟨_,e,_⟩=>by rw[e];rfl | exact fun _ _ _ ⟨_,_,e,_⟩=>by rw[e];rfl | exact fun _ _ _ ⟨_,_,_,e,_⟩=>by rw[e];rfl | exact fun _ _ _ ⟨_,_,_,_,e,_⟩=>by rw[e];rfl | exact fun _ _ _ ⟨_,_,_,_,_,e,_⟩=>by rw[e];rfl | exact fun _ _ _ ⟨_,_,_,_,_,_,e,_⟩=>by rw[e];rfl | exact fun _ _ _ ⟨_,_,_,_,_,_,_,e,_⟩=>by rw[e];rfl | exact fun _ _ _ ⟨_,_,_,_,_,_,_,_,_,e,_⟩=>by rw[e];rfl | exact fun _ _ _ ⟨_,_,_,_,_,_,_,_,_,_,e,_⟩=>by rw[e];rfl)
local macro_rules | `(tactic| walk_at "x")=>`(tactic| first | exact fun _ _ _ _ ⟨_,e,_⟩=>by rw[e];rfl | exact fun _ _ _ _ ⟨_,_,e,_⟩=>by rw[e];rfl | exact fun _ _ _ _ ⟨_,_,_,e,_⟩=>by rw[e];rfl | exact fun _ _ _ _ ⟨_,_,_,_,e,_⟩=>by rw[e];rfl | exact fun _ _ _ _ ⟨_,_,_,_,_,e,_⟩=>by rw[e];rfl | exact fun _ _ _ _ ⟨_,_,_,_,_,_,e,_⟩=>by rw[e];rfl | exact fun _ _ _ _ ⟨_,_,_,_,_,_,_,e,_⟩=>by rw[e];rfl | exact fun _ _ _ _ ⟨_,_,_,_,_,_,_,_,_,e,_⟩=>by rw[e];rfl | exact fun _ _ _ _ ⟨_,_,_,_,_,_,_,_,_,_,e,_⟩=>by rw[e];rfl)
local macro_rules | `(tactic| walk_at "b")=>`(tactic| (intro _ _ _ _ _ _ us hl;first | (obtain⟨_,e⟩:=am1 hl;rw[e];rfl) | (obtain⟨_,_,e⟩:=ajs hl;rw[e];rfl) | (obtain⟨_,_,_,e⟩:=am6 hl;rw[e];rfl) | (obtain⟨_,_,_,_,e⟩:=al9 hl;rw[e];rfl)))
section
variable {f:Addr}{fd:FuncData}{x q:Str}{st:Stmt}{ps:List Str}(V:V_)(k:Nat)(N:List Str)
theorem W_{sp:j4}{t:k6}(F:Fun V.K x q st f fd)(vc:∀ys L Q,sp ys L Q->x8 t N.length ys L Q)(h:∀(cdv:Value) (A:Around) (outer:List Env) (s:Shared) (H:Hp) (E:XK),v8 k (A.deeper (PyProof.Rows.envOfC q (qk st) s.heap.objs.size f cdv))->N.Nodup->(A.deeper (PyProof.Rows.envOfC q (qk st) s.heap.objs.size f cdv)).units+128<cLine->pj (cW CX0 V.P V.w V.K V.mg V.base N q (qk st) f cdv A outer s H E).nox (zn st) t)(sc:aO N ps (qk st):=by walk_at "s")(len:∀ys L Q,sp ys L Q->ys.length=ps.length:=by walk_at "l"):Fn3 V.P V.w V.K V.mg V.base (k+1) f fd ps sp:=
 ok3 F sc len fun cdv A outer s H E hr=>⟨t,h cdv A outer s H E hr sc.nd (huK hr),vc⟩
theorem M_{sp:j4}{t:k6}(hp:∃h:Heap,V.K.In h/\h.Ns mainGlobals V.mg)(D:qr V.K x st)(vc:∀ys L Q,sp ys L Q->x8 t N.length ys L Q)(h:∀f,∀(cdv:Value) (A:Around) (outer:List Env) (s:Shared) (H:Hp) (E:XK),v8 k (A.deeper (PyProof.Rows.envOfC x (qk st) s.heap.objs.size f cdv))->N.Nodup->(A.deeper (PyProof.Rows.envOfC x (qk st) s.heap.objs.size f cdv)).units+128<cLine->pj (cW CX0 V.P V.w V.K V.mg V.base N x (qk st) f cdv A outer s H E).nox (zn st) t)(sc:aO N ps (qk st):=by walk_at "s")(len:∀ys L Q,sp ys L Q->ys.length=ps.length:=by walk_at "l")(hb:∀(kV doc pm:Value) (an:Option Addr) (cdv ct:Value) (us:List Value),us.length=ps.length->bindArgs (PySem.W.fnOf x x (ja st) (zn st) (qk st) .none kV doc pm an cdv ct) ⟨us,[]⟩=pure (ps.zip us):=by walk_at "b"):Q_ V (k+1) x ps sp:=by obtain⟨_,X,G⟩:=hp;obtain⟨f,fd,F,b,m⟩:=D.use X G hb;exact yJ.of (W_ V k N F vc (h f) sc len) b F.kp m
theorem R_{sp:Nat->j4}{t:Nat->k6}(hp:∃h:Heap,V.K.In h/\h.Ns mainGlobals V.mg)(D:qr V.K x st)(no:∀ys L Q,¬sp 0 ys L Q)(vc:∀n ys L Q,sp (n+1) ys L Q->x8 (t n) N.length ys L Q)(h:∀n f,Q_ V (n+k) x ps (sp n)->∀(cdv:Value) (A:Around) (outer:List Env) (s:Shared) (H:Hp) (E:XK),v8 (n+k) (A.deeper (PyProof.Rows.envOfC x (qk st) s.heap.objs.size f cdv))->N.Nodup->(A.deeper (PyProof.Rows.envOfC x (qk st) s.heap.objs.size f cdv)).units+128<cLine->pj (cW CX0 V.P V.w V.K V.mg V.base N x (qk st) f cdv A outer s H E).nox (zn st) (t n))(n:Nat)(sc:aO N ps (qk st):=by walk_at "s")(len:∀n ys L Q,sp n ys L Q->ys.length=ps.length:=by walk_at "x")(hb:∀(kV doc pm:Value) (an:Option Addr) (cdv ct:Value) (us:List Value),us.length=ps.length->bindArgs (PySem.W.fnOf x x (ja st) (zn st) (qk st) .none kV doc pm an cdv ct) ⟨us,[]⟩=pure (ps.zip us):=by walk_at "b"):Q_ V (n+k) x ps (sp n):=by
 obtain⟨_,X,G⟩:=hp;obtain⟨f,fd,F,b,m⟩:=D.use X G hb
 induction n with|zero=>exact yJ.of (Fn3.never no) b F.kp m|succ n ih=>rw[Nat.add_right_comm];exact yJ.of (W_ V (n+k) N F (vc n) (h n f ih) sc (len _)) b F.kp m
theorem XD_{sp:gx}{t:X3->k6}{d:Int}{kn:Str}(hp:∃h:Heap,V.K.In h/\h.Ns mainGlobals V.mg)(D:fZ V.K x st d)(vc:∀ys L Q E,sp ys L Q E->x8 (t (yA E)) N.length ys L Q)(h:∀f,∀(cdv:Value) (A:Around) (outer:List Env) (s:Shared) (H:Hp) (E:XK) (E3:X3),v8 k (A.deeper (PyProof.Rows.envOfC x (qk st) s.heap.objs.size f cdv))->bV (cW (vT V.P V.w) V.P V.w V.K V.mg V.base N x (qk st) f cdv A outer s H E) (upX ⟨V.K,V.P,V.w⟩ E3)->N.Nodup->(A.deeper (PyProof.Rows.envOfC x (qk st) s.heap.objs.size f cdv)).units+128<cLine->pj (cW (vT V.P V.w) V.P V.w V.K V.mg V.base N x (qk st) f cdv A outer s H E) (zn st) (t E3))(sc:aO N ps (qk st):=by walk_at "s")(len:∀ys L Q E,sp ys L Q E->ys.length=ps.length:=by walk_at "x")(hb:∀(T:Addr) (t:Tok) (kV doc pm:Value) (an:Option Addr) (cdv ct:Value),(∀us:List Value,us.length=ps.length->∃k,bindArgs (PySem.W.fnOf x x (ja st) (zn st) (qk st) (.ref T) kV doc pm an cdv ct) ⟨us,[]⟩=seqItems? (.ref T) >>= k/\k (some #[.int d t])=pure (ps.zip us))/\(∀us:List Value,(us++[Value.int d t]).length=ps.length->∃k,bindArgs (PySem.W.fnOf x x (ja st) (zn st) (qk st) (.ref T) kV doc pm an cdv ct) ⟨us,[]⟩=seqItems? (.ref T) >>= k/\k (some #[.int d t])=pure (ps.zip (us++[.int d t])))/\(∀(us:List Value) (u:Value),(us++[u]).length=ps.length->∃k,bindArgs (PySem.W.fnOf x x (ja st) (zn st) (qk st) (.ref T) kV doc pm an cdv ct) ⟨us,[(kn,u)]⟩=seqItems? (.ref T) >>= k/\k (some #[.int d t])=pure (ps.zip (us++[u]))):=by exact fun _ _ _ _ _ _ _ _=>⟨fun us hl=>by obtain⟨_,_,rfl⟩:=ajs hl;exact⟨_,rfl,rfl⟩,fun us hl=>by obtain⟨_,rfl⟩:=wP hl;exact⟨_,rfl,rfl⟩,fun us u hl=>by obtain⟨_,rfl⟩:=wP hl;exact⟨_,rfl,rfl⟩⟩):d0 V.P V.w V.K V.mg V.base (k+1) x ps d kn sp:=by obtain⟨_,X,G⟩:=hp;obtain⟨f,fd,F,b,m⟩:=D.useD X G hb;exact⟨_,_,aiy F sc len (fun cdv A outer s H E E3 hr ht=>h f cdv A outer s H E E3 hr ht sc.nd (huK hr)) vc,b,F.kp,m⟩
end
theorem I_{X:Cx}{a b:Expr}{ta tb:jz}{pos:Pos}(ha:QE X a ta)(hb:QE X b tb)(hp:iA b:=by exact fun _ _=>rfl):QE X (.Subscript a b pos) (zg be ta tb):=ajv (aec X.K X.prog X.w) ha hb hp
theorem xl{X:Cx}{e:Expr}{t:jz}(h:QE X e t)(s:starEach [e] X.env=[(false,eval e X.env)]:=by rfl):QA X [e] (qj t zj):=dq h xq s
theorem aa{X:Cx}{e f:Expr}{t u:jz}(h:QE X e t)(g:QE X f u)(s:starEach [e,f] X.env=[(false,eval e X.env),(false,eval f X.env)]:=by rfl)(r:starEach [f] X.env=[(false,eval f X.env)]:=by rfl):QA X [e,f] (qj t (qj u zj)):=dq h (xl g r) (by show _=_;rw[s,r])
theorem i3{X:Cx}{e f d:Expr}{t u v:jz}(h:QE X e t)(g:QE X f u)(i:QE X d v)(s:starEach [e,f,d] X.env=[(false,eval e X.env),(false,eval f X.env),(false,eval d X.env)]:=by rfl)(r:starEach [f,d] X.env=[(false,eval f X.env),(false,eval d X.env)]:=by rfl)(q:starEach [d] X.env=[(false,eval d X.env)]:=by rfl):QA X [e,f,d] (qj t (qj u (qj v zj))):=dq h (aa g i r q) (by show _=_;rw[s,r])
theorem E_{X:Cx}{a b:Expr}{ta tb:jz}{pos:Pos}(hu:X.A.units+128<cLine)(ha:QE X a ta)(hb:QE X b tb):QT X (.Compare a [.Eq] [b] pos) (yB (zg (oV false) ta tb)):=wz (l0 X.K X.prog X.w hu) ha hb (kh _)
theorem N_{X:Cx}{a b:Expr}{ta tb:jz}{pos:Pos}(hu:X.A.units+128<cLine)(ha:QE X a ta)(hb:QE X b tb):QT X (.Compare a [.NotEq] [b] pos) (yB (zg (oV true) ta tb)):=wz (zB X.K X.prog X.w hu) ha hb (kh _)
theorem S_{X:Cx}{x:Str}{e:Expr}{te:jz}{pos pos':Pos}(i:Nat)(hN:X.N.Nodup)(h:QE X e te)(hix:X.N[i]?=some x:=by rfl)(hx:tZ X.env.scope x:=by exact Or.inl rfl)(hsw:swapsWith e (some (.Name x pos')) pos.line X.env=pure false:=by rfl)(hfn:X.fn x=true\/X.env.scope.names.lookup x=some .local:=by first | exact .inl rfl | exact .inr rfl | assumption):QS X (.Assign [.Name x pos'] e pos) (z8 te (qb i)):=qA (i:=i) hN hix hx h hsw hfn
theorem G_{X:Cx}{x:Str}{pos:Pos}(i:Nat)(hN:X.N.Nodup)(hix:X.N[i]?=some x:=by rfl)(hx:tZ X.env.scope x:=by exact Or.inl rfl)(hfn:X.fn x=true\/X.env.scope.names.lookup x=some .local:=by first | exact .inl rfl | exact .inr rfl | assumption):QG X (.Name x pos) (qb i):=iG (i:=i) hN hix hx hfn
theorem C_{X:Cx}{e:Expr}{es:List Expr}{tr:cN}{pos p:Pos}{j k:Nat}{x:Str}{ps:List Str}{sp:j4}(c:afv X.prog X.w X.K X.mg X.base j x ps sp)(hr:v8 k X.A)(ha:QA X (e::es) tr)(hj:j≤k:=by first | decide | exact Ag _ | exact AI (by decide) (Nat.le_add_left _ _))(hg:Gl X x:=by rfl)(hdb:Dx x:=by decide)(he:Dv e es X:=by rfl)(hpl:Dw pos es X:=by rfl):QE X (.Call (.Name x p) (e::es) [] pos) (qz sp tr):=an3 (yJ.mono c hj) hr hg ha hdb he hpl
theorem J_{X:Cx}{x:Str}{n:Int}{k:Nat}{p q pos:Pos}(i:Nat)(hN:X.N[i]?=some x:=by rfl)(hv:Vis X.env.scope x:=by first | exact Or.inl rfl | exact Or.inr (Or.inl rfl) | exact Or.inr (Or.inr rfl))(hd:Dx x:=by decide)(hc:Dy x:=by decide):QE X (.Subscript (.Name x p) (.Constant (.int n) k q) pos) (zg be (qa i) (yC (.int n))):=I_ (qv i hN hv hd hc) qh (fun _ _=>rfl)
theorem L_{X:Cx}{e:Expr}{t:jz}{p pos:Pos}(hm:X.mg "len" = none)(h:QE X e t)(s:starEach [e] X.env=[(false,eval e X.env)]:=by rfl)(hg:Gl X "len" := by rfl):QE X (.Call (.Name "len" p) [e] [] pos) (lZ kD (qj t zj)):=a9 (ah7 X.K X.prog X.w) hg hm vR (xl h s) (hs:=s)
theorem qG{l:List Str}(h:decide l.Nodup=true:=by kernel_rfl):l.Nodup:=of_decide_eq_true h
abbrev c1(V:V_):Prop:=c0 V/\Q_ V 1 "is_leaf" ["word"] (wu)
theorem d1(V:V_)(B:B_ V)(c:c0 V):c1 V:=⟨c,M_ V 0 ["word"] B.hp B.D0 qR fun _ _ _ _ _ _ _ hr hN hu=>(qc (qp (aR (ajy _ _ _) (J_ 0) (xC B.k_LEAF_KINDS rfl) (by with_unfolding_all rfl))))⟩
abbrev c2(V:V_):Prop:=c1 V/\Q_ V 65 "turned" ["word"] (aW 63)
theorem d2(V:V_)(B:B_ V)(c:c1 V):c2 V:=⟨c,R_ V 2 ["word", "kind"] B.hp B.D1 uN ut (fun _ _ c_turned _ _ _ _ _ _ hr hN hu=>(q9 (S_ 1 hN (I_ (xC B.k_TURNED_KINDS rfl) (J_ 0))) (q9 (jd (xb (C_ c.2 hr (xl (qv 0)))) (qc (qp (jt (aa (qv 1) (J_ 0))))) zd) (qc (qp (jt (i3 (qv 1) (C_ c_turned hr (xl (J_ 0))) (C_ c_turned hr (xl (J_ 0)))))))))) 63⟩
abbrev c3(V:V_):Prop:=c2 V/\Q_ V 65 "leaves_of" ["word"] (wc 63)
theorem d3(V:V_)(B:B_ V)(c:c2 V):c3 V:=⟨c,R_ V 2 ["word"] B.hp B.D2 m8 mn (fun _ _ c_leaves_of _ _ _ _ _ _ hr hN hu=>(q9 (jd (xb (C_ c.1.2 hr (xl (qv 0)))) (qc (qp (zy (xl (qv 0))))) zd) (qc (qp (ql zu (C_ c_leaves_of hr (xl (J_ 0))) (C_ c_leaves_of hr (xl (J_ 0)))))))) 63⟩
abbrev c4(V:V_):Prop:=c3 V/\Q_ V 62 "lay_word" ["knots", "word"] (xg 60)
theorem d4(V:V_)(B:B_ V)(c:c3 V):c4 V:=⟨c,R_ V 2 ["knots", "word", "left", "right"] B.hp B.D3 gr pL (fun _ _ c_lay_word _ _ _ _ _ _ hr hN hu=>(gK (jd (xb (C_ c.1.1.2 hr (xl (qv 1)))) (qc (jh (jg (qv 0) (xl (qv 1))))) (q9 (S_ 2 hN (C_ c_lay_word hr (aa (qv 0) (J_ 1)))) (q9 (S_ 3 hN (C_ c_lay_word hr (aa (qv 0) (J_ 1)))) (qc (jh (jg (qv 0) (xl (jt (i3 (J_ 1) (qv 2) (qv 3)))))))))) (qc (qp (ql pD (L_ B.ba (qv 0)) qh))))) 60⟩
abbrev c5(V:V_):Prop:=c4 V/\Q_ V 63 "laid" ["words"] (iD)
theorem d5(V:V_)(B:B_ V)(c:c4 V):c5 V:=⟨c,M_ V 62 ["words", "knots", "places", "word"] B.hp B.D4 ab2 fun _ _ _ _ _ _ _ hr hN hu=>(q9 (S_ 1 hN (zy xq)) (q9 (S_ 2 hN (zy xq)) (q9 (jp PassesOwn.never rfl (j5 (qv 0)) (G_ 3 hN) (qc (jh (jg (qv 2) (xl (C_ c.2 hr (aa (qv 1) (qv 3)))))))) (qc (qp (jt (aa (qv 1) (qv 2))))))))⟩
abbrev c6(V:V_):Prop:=c5 V/\yV V.P V.w V.K V.mg V.base 2 V.Ca ["self", "count"] (iR V.Ca)
theorem d6(V:V_)(B:B_ V)(c:c5 V):c6 V:=⟨c,by obtain⟨f,fd,F,b,m⟩:=B.D5.use (ps:=["self", "count"]) fun _ _ _ _ _ _ us hl=>match us,hl with | [_,_],_=>rfl;exact⟨_,_,⟨B.mAPieces,m.at_,m.fn,B.mKPieces⟩,⟨_,rfl,W_ V 0 ["self", "count"] F (yY B.xf) fun _ _ _ _ _ _ hr hN hu=>(qc (abl (qv 0) (jA rfl rfl B.bh rfl B.bb (qv 1))))⟩,b⟩⟩
abbrev c7(V:V_):Prop:=c6 V/\uL V.P V.w V.K V.mg V.base 1 V.Ca "head_of" ["self", "place"] (iE V.Ca)
theorem d7(V:V_)(B:B_ V)(c:c6 V):c7 V:=⟨c,by obtain⟨f,fd,F,b,m⟩:=B.D6.use (ps:=["self", "place"]) fun _ _ _ _ _ _ us hl=>match us,hl with | [_,_],_=>rfl;exact⟨_,_,m,W_ V 0 ["self", "place", "here"] F (ab0 B.xf) fun _ _ _ _ _ _ hr hN hu=>(q9 (S_ 2 hN (qv 1)) (q9 (kF PassesOwn.never (N_ hu (I_ (gS (qv 0)) (qv 2)) (qv 2)) (q9 (tH (gS (qv 0)) (qv 2) (I_ (gS (qv 0)) (I_ (gS (qv 0)) (qv 2)))) (qc (S_ 2 hN (I_ (gS (qv 0)) (qv 2)))))) (qc (qp (qv 2))))),b⟩⟩
abbrev c8(V:V_):Prop:=c7 V/\uL V.P V.w V.K V.mg V.base 2 V.Ca "unite" ["self", "p", "q"] (du V.Ca)
theorem d8(V:V_)(B:B_ V)(c:c7 V):c8 V:=⟨c,by obtain⟨f,fd,F,b,m⟩:=B.D7.use (ps:=["self", "p", "q"]) fun _ _ _ _ _ _ us hl=>match us,hl with | [_,_,_],_=>rfl;exact⟨_,_,m,W_ V 1 ["self", "p", "q", "first", "second"] F (zW B.xf) fun _ _ _ _ _ _ hr hN hu=>(q9 (S_ 3 hN (u7 (c.2.mono (by decide)) hr B.cl_Pieces (qv 0) (xl (qv 1)))) (q9 (S_ 4 hN (u7 (c.2.mono (by decide)) hr B.cl_Pieces (qv 0) (xl (qv 2)))) (q9 (tH (gS (qv 0)) (qv 3) (qv 4)) (qc (qp (aR (zB _ _ _ hu) (qv 3) (qv 4) (kh _))))))),b⟩⟩
abbrev c9(V:V_):Prop:=c8 V/\Q_ V 1 "places_there" ["knots"] (fP)
theorem d9(V:V_)(B:B_ V)(c:c8 V):c9 V:=⟨c,M_ V 0 ["knots"] B.hp B.D8 yj fun _ _ _ _ _ _ _ hr hN hu=>(qc (qp (dO ["place", "knot" ] (DJ (by rfl)) rfl (af rfl B.bg (qv 0)) (iH rfl qG (fun _ _ _ _=>rfl) (fun _ _ _ _=>rfl)) (fun _ _ _ _=>cA (iC (qv 2))) (fun _ _ _ _=>(qv 1)))))⟩
abbrev c10(V:V_):Prop:=c9 V/\Q_ V 2 "parts_of" ["knot"] (eY)
theorem d10(V:V_)(B:B_ V)(c:c9 V):c10 V:=⟨c,M_ V 1 ["knot"] B.hp B.D9 yh fun _ _ _ _ _ _ _ hr hN hu=>(q9 (jd (au (we (wB (qv 0)) (aZ (xb (C_ c.1.1.1.1.1.1.1.1.2 hr (xl (qv 0))))))) (qc (qp (zy xq))) zd) (qc (qp (zy (aa (J_ 0) (J_ 0))))))⟩
abbrev c11(V:V_):Prop:=c10 V/\Q_ V 1 "places_in" ["pairs"] (mR)
theorem d11(V:V_)(B:B_ V)(c:c10 V):c11 V:=⟨c,M_ V 0 ["pairs", "places", "p", "q"] B.hp B.D10 abm fun _ _ _ _ _ _ _ hr hN hu=>(q9 (S_ 1 hN (zy xq)) (q9 (jp PassesOwn.never rfl (j5 (qv 0)) (bO rfl (jf (G_ 2 hN) (jf (G_ 3 hN) aQ))) (q9 (jh (jg (qv 1) (xl (qv 2)))) (qc (jh (jg (qv 1) (xl (qv 3))))))) (qc (qp (qv 1)))))⟩
abbrev xE(V:V_):Prop:=c11 V/\Q_ V 1 "eithers_of" ["web"] (fS)
theorem d12(V:V_)(B:B_ V)(c:c11 V):xE V:=⟨c,M_ V 0 ["web"] B.hp B.D11 wG fun _ _ _ _ _ _ _ hr hN hu=>(qc (qp (dO ["place", "knot" ] (DJ (by rfl)) rfl (af rfl B.bg (J_ 0)) (iH rfl qG (fun _ _ _ _=>rfl) (fun _ _ _ _=>rfl)) (fun _ _ _ _=>cA (au (vM (iC (qv 2)) (sk (E_ hu (J_ 2) jj))))) (fun _ _ _ _=>(qv 1)))))⟩
abbrev c13(V:V_):Prop:=xE V/\Q_ V 2 "boths_of" ["web"] (jY)
theorem d13(V:V_)(B:B_ V)(c:xE V):c13 V:=⟨c,M_ V 1 ["web"] B.hp B.D12 xW fun _ _ _ _ _ _ _ hr hN hu=>(qc (qp (dO ["place"] (DJ (by rfl)) rfl (j5 (C_ c.1.1.1.2 hr (xl (J_ 0)))) (k7 qG (fun _ _ _ _=>Or.inl rfl) (fun _ _ _ _=>rfl)) (fun _ _ _ _=>cA (E_ hu (I_ (I_ (J_ 0) (qv 1)) qh) jj)) (fun _ _ _ _=>(qv 1)))))⟩
abbrev c14(V:V_):Prop:=c13 V/\Q_ V 3 "part_edges" ["knots", "places"] (gF)
theorem d14(V:V_)(B:B_ V)(c:c13 V):c14 V:=⟨c,M_ V 2 ["knots", "places", "edges", "place"] B.hp B.D13 ua fun _ _ _ _ _ _ _ hr hN hu=>(q9 (S_ 2 hN (zy xq)) (q9 (jp PassesOwn.never rfl (j5 (qv 1)) (iG (i:=3) hN rfl (Or.inr rfl)) (qc (jh (lK (qv 2) (xl (dO ["part"] (DJ (by rfl)) rfl (j5 (C_ c.1.1.1.2 hr (xl (I_ (qv 0) (qv 3))))) (k7 qG (fun _ _ _ _=>Or.inl rfl) (fun _ _ _ _=>rfl)) (fun _ _ _ _=>fw) (fun _ _ _ _=>(jt (aa (qv 3) (qv 4)))))))))) (qc (qp (qv 2)))))⟩
abbrev c15(V:V_):Prop:=c14 V/\Q_ V 4 "joins_of" ["web"] (dz)
theorem d15(V:V_)(B:B_ V)(c:c14 V):c15 V:=⟨c,M_ V 3 ["web"] B.hp B.D14 xY fun _ _ _ _ _ _ _ hr hN hu=>(qc (qp (ql zu (ql zu (J_ 0) (J_ 0)) (C_ c.2 hr (aa (J_ 0) (C_ c.1.2 hr (xl (qv 0))))))))⟩
abbrev c16(V:V_):Prop:=c15 V/\Q_ V 3 "join_steps" ["pieces", "joins"] (fg V.Ca)
theorem d16(V:V_)(B:B_ V)(c:c15 V):c16 V:=⟨c,M_ V 2 ["pieces", "joins", "steps", "p", "q"] B.hp B.D15 vB fun _ _ _ _ _ _ _ hr hN hu=>(q9 (S_ 2 hN (zy xq)) (q9 (jp PassesOwn.never rfl (j5 (qv 1)) (bO rfl (jf (G_ 3 hN) (jf (G_ 4 hN) aQ))) (qc (jd (xb (u7 (c.1.1.1.1.1.1.1.2.mono (by decide)) hr B.cl_Pieces (qv 0) (aa (qv 3) (qv 4)))) (qc (jh (jg (qv 2) (xl (jt (i3 jj (qv 3) (qv 4))))))) zd))) (qc (qp (qv 2)))))⟩
abbrev c17(V:V_):Prop:=c16 V/\Q_ V 3 "can_fold" ["pieces", "knots", "place"] (i4 V.Ca)
theorem d17(V:V_)(B:B_ V)(c:c16 V):c17 V:=⟨c,M_ V 2 ["pieces", "knots", "place", "heads"] B.hp B.D16 wW fun _ _ _ _ _ _ _ hr hN hu=>(q9 (fM ["part"] (i:=3) hN rfl (Or.inl rfl) (DJ (by rfl)) rfl (j5 (C_ c.1.1.1.1.1.1.2 hr (xl (I_ (qv 1) (qv 2))))) (k7 qG (fun _ _ _ _=>Or.inl rfl) (fun _ _ _ _=>rfl)) (fun _ _ _ _=>fw) (fun _ _ _ _=>(u7 (c.1.1.1.1.1.1.1.1.1.2.mono (by decide)) hr B.cl_Pieces (qv 0) (xl (qv 4))))) (qc (qp (nC (aR (l0 _ _ _ hu) (J_ 3) (J_ 3) (kh _)) (mY (aR (zB _ _ _ hu) (J_ 3) (u7 (c.1.1.1.1.1.1.1.1.1.2.mono (by decide)) hr B.cl_Pieces (qv 0) (xl (qv 2))) (kh _)))))))⟩
abbrev c18(V:V_):Prop:=c17 V/\Q_ V 4 "fold_steps" ["pieces", "knots", "eithers"] (fW V.Ca)
theorem d18(V:V_)(B:B_ V)(c:c17 V):c18 V:=⟨c,M_ V 3 ["pieces", "knots", "eithers", "steps", "before", "place"] B.hp B.D17 uH fun _ _ _ _ _ _ _ hr hN hu=>(q9 (S_ 3 hN (zy xq)) (q9 (S_ 4 hN (akn aip qh)) (q9 (kF PassesOwn.never (wz xJ (qv 4) (L_ B.ba (qv 3)) (kh _)) (q9 (S_ 4 hN (L_ B.ba (qv 3))) (qc (jp PassesOwn.never rfl (j5 (qv 2)) (G_ 5 hN) (qc (jd (xb (C_ c.2 hr (i3 (qv 0) (qv 1) (qv 5)))) (q9 (jh (u7 (c.1.1.1.1.1.1.1.1.1.2.mono (by decide)) hr B.cl_Pieces (qv 0) (aa (qv 5) (I_ (I_ (qv 1) (qv 5)) qh)))) (qc (jh (jg (qv 3) (xl (jt (aa jj (qv 5)))))))) zd)))))) (qc (qp (qv 3))))))⟩
abbrev c19(V:V_):Prop:=c18 V/\Q_ V 5 "steps_by" ["knots", "joins", "eithers"] (dg V.Ca)
theorem d19(V:V_)(B:B_ V)(c:c18 V):c19 V:=⟨c,M_ V 4 ["knots", "joins", "eithers", "pieces"] B.hp B.D18 rc fun _ _ _ _ _ _ _ hr hN hu=>(q9 (S_ 3 hN (akp (c.1.1.1.1.1.1.1.1.1.1.1.1.2.mono (by decide)) hr rfl B.md (xl (L_ B.ba (qv 0))))) (qc (qp (ql zu (C_ c.1.1.2 hr (aa (qv 3) (qv 1))) (C_ c.2 hr (i3 (qv 3) (qv 0) (qv 2)))))))⟩
abbrev c20(V:V_):Prop:=c19 V/\Q_ V 6 "all_come_together" ["knots", "joins", "eithers"] (nM)
theorem d20(V:V_)(B:B_ V)(c:c19 V):c20 V:=⟨c,M_ V 5 ["knots", "joins", "eithers", "due"] B.hp B.D19 aeu fun _ _ _ _ _ _ _ hr hN hu=>(q9 (S_ 3 hN (ql pD (L_ B.ba (C_ c.1.1.1.1.1.1.1.1.1.1.2 hr (xl (qv 0)))) qh)) (qc (qp (nC (aR (l0 _ _ _ hu) (ql zu (L_ B.ba (qv 1)) (L_ B.ba (qv 2))) (qv 3) (kh _)) (mY (aR (l0 _ _ _ hu) (L_ B.ba (C_ c.2 hr (i3 (qv 0) (qv 1) (qv 2)))) (qv 3) (kh _)))))))⟩
abbrev c21(V:V_):Prop:=c20 V/\Q_ V 7 "right_web" ["web"] (i8)
theorem d21(V:V_)(B:B_ V)(c:c20 V):c21 V:=⟨c,M_ V 6 ["web"] B.hp B.D20 yD fun _ _ _ _ _ _ _ hr hN hu=>(qc (qp (C_ c.2 hr (i3 (J_ 0) (C_ c.1.1.1.1.1.2 hr (xl (qv 0))) (C_ c.1.1.1.1.1.1.1.1.2 hr (xl (qv 0)))))))⟩
abbrev c22(V:V_):Prop:=c21 V/\Q_ V 8 "first_bad" ["web"] (nE)
theorem d22(V:V_)(B:B_ V)(c:c21 V):c22 V:=⟨c,M_ V 7 ["web", "knots", "joins", "eithers", "choices", "number", "place", "left", "choice"] B.hp B.D21 acd fun _ _ _ _ _ _ _ hr hN hu=>(q9 (jd (xb (C_ c.2 hr (xl (qv 0)))) (qc (qp xZ)) zd) (q9 (S_ 1 hN (J_ 0)) (q9 (S_ 2 hN (C_ c.1.1.1.1.1.1.2 hr (xl (qv 0)))) (q9 (S_ 3 hN (C_ c.1.1.1.1.1.1.1.1.1.2 hr (xl (qv 0)))) (q9 (S_ 4 hN (zy xq)) (q9 (jp PassesOwn.never rfl (af rfl B.bg (qv 3)) (bO rfl (jf (G_ 5 hN) (jf (G_ 6 hN) aQ))) (q9 (S_ 7 hN (jt (aa (qv 6) (I_ (I_ (qv 1) (qv 6)) qh)))) (q9 (S_ 8 hN (fF (xb (C_ c.1.2 hr (i3 (qv 1) (ql zu (qv 2) (zy (xl (qv 7)))) (ky (eE _ _ _) (qv 3) (aA (ql zu (qv 5) qh)) ag)))) qh qh)) (q9 (jh (jg (qv 4) (xl (qv 8)))) (qc (jh (jg (qv 2) (xl (jt (aa (qv 6) (I_ (I_ (qv 1) (qv 6)) (ql zu qh (qv 8))))))))))))) (qc (qp (qv 4)))))))))⟩
abbrev c23(V:V_):Prop:=c22 V/\Q_ V 66 "leaves_in" ["words"] (eZ)
theorem d23(V:V_)(B:B_ V)(c:c22 V):c23 V:=⟨c,M_ V 65 ["words", "leaves", "word"] B.hp B.D22 aap fun _ _ _ _ _ _ _ hr hN hu=>(q9 (S_ 1 hN (zy xq)) (q9 (jp PassesOwn.never rfl (j5 (qv 0)) (G_ 2 hN) (qc (jh (lK (qv 1) (xl (C_ c.1.1.1.1.1.1.1.1.1.1.1.1.1.1.1.1.1.1.1.2 hr (xl (qv 2)))))))) (qc (qp (qv 1)))))⟩
abbrev c24(V:V_):Prop:=c23 V/\Q_ V 66 "first_uneven" ["leaves"] (dm)
theorem d24(V:V_)(B:B_ V)(c:c23 V):c24 V:=⟨c,M_ V 65 ["leaves", "leaf"] B.hp B.D23 aad fun _ _ _ _ _ _ _ hr hN hu=>(q9 (jp PassesOwn.never rfl (j5 (qv 0)) (G_ 1 hN) (qc (jd (N_ hu (oI hu (qv 0) (xl (qv 1))) (oI hu (qv 0) (xl (C_ c.1.1.1.1.1.1.1.1.1.1.1.1.1.1.1.1.1.1.1.1.1.2 hr (xl (qv 1)))))) (qc (qp (J_ 1))) zd))) (qc (qp xZ)))⟩
abbrev c25(V:V_):Prop:=c24 V/\Q_ V 67 "tries_due" ["words"] (cg)
theorem d25(V:V_)(B:B_ V)(c:c24 V):c25 V:=⟨c,M_ V 66 ["words", "leaves", "ways", "counts", "kind", "name"] B.hp B.D24 t7 fun _ _ _ _ _ _ _ hr hN hu=>(q9 (S_ 1 hN (C_ c.1.2 hr (xl (qv 0)))) (q9 (jd (iC (C_ c.2 hr (xl (qv 1)))) (qc (qp qh)) zd) (q9 (S_ 2 hN qh) (q9 (S_ 3 hN sI) (q9 (jp PassesOwn.never rfl (j5 (qv 1)) (bO rfl (jf (G_ 4 hN) (jf (G_ 5 hN) aQ))) (qc (jd (E_ hu (qv 4) jj) (q9 (sw hu (qv 3) (qv 5) (ql zu (pF hu (qv 3) (qv 5) qh) qh)) (qc (S_ 2 hN (ql bR (qv 2) (sR hu (qv 3) (qv 5) (fun _ _=>rfl)))))) zd))) (qc (qp (qv 2))))))))⟩
abbrev c26(V:V_):Prop:=c25 V/\Q_ V 66 "linked_further" ["knots", "ways", "place"] (dS)
theorem d26(V:V_)(B:B_ V)(c:c25 V):c26 V:=⟨c,M_ V 65 ["knots", "ways", "place", "mates", "longer", "links", "used", "mate"] B.hp B.D25 qW fun _ _ _ _ _ _ _ hr hN hu=>(q9 (fM ["other", "knot" ] (i:=3) hN rfl (Or.inl rfl) (DJ (by rfl)) rfl (af rfl B.bg (qv 0)) (iH rfl qG (fun _ _ _ _=>rfl) (fun _ _ _ _=>rfl)) (fun _ _ _ _=>cA (E_ hu (qv 9) (C_ c.1.1.1.1.1.1.1.1.1.1.1.1.1.1.1.1.1.1.1.1.1.1.1.2 hr (xl (I_ (qv 0) (qv 2)))))) (fun _ _ _ _=>(qv 8))) (q9 (S_ 4 hN (zy xq)) (q9 (jp PassesOwn.never rfl (j5 (qv 1)) (G_ 5 hN) (q9 (S_ 6 hN (C_ c.1.1.1.1.1.1.1.1.1.1.1.1.1.1.2 hr (xl (qv 5)))) (qc (jp PassesOwn.never rfl (j5 (qv 3)) (G_ 7 hN) (qc (jd (wz (wA _ _ _) (qv 7) (qv 6) (by with_unfolding_all rfl)) (qc (jh (jg (qv 4) (xl (ql zu (qv 5) (zy (xl (jt (aa (a9 aja rfl B.bv afw (aa (qv 2) (qv 7))) (a9 ak9 rfl B.bq aes (aa (qv 2) (qv 7)))))))))))) zd)))))) (qc (qp (qv 4))))))⟩
abbrev c27(V:V_):Prop:=c26 V/\Q_ V 67 "ways_to_link" ["knots"] (nS)
theorem d27(V:V_)(B:B_ V)(c:c26 V):c27 V:=⟨c,M_ V 66 ["knots", "ways", "place", "knot"] B.hp B.D26 ac3 fun _ _ _ _ _ _ _ hr hN hu=>(q9 (S_ 1 hN (zy (xl (zy xq)))) (q9 (jp PassesOwn.never rfl (af rfl B.bg (qv 0)) (bO rfl (jf (G_ 2 hN) (jf (G_ 3 hN) aQ))) (qc (jd (E_ hu (J_ 3) jj) (qc (S_ 1 hN (C_ c.2 hr (i3 (qv 0) (qv 1) (qv 2))))) zd))) (qc (qp (dO ["links"] (DJ (by rfl)) rfl (j5 (qv 1)) (k7 qG (fun _ _ _ _=>Or.inl rfl) (fun _ _ _ _=>rfl)) (fun _ _ _ _=>fw) (fun _ _ _ _=>(a9 sF rfl B.bj f9 (xl (qv 4)))))))))⟩
abbrev c28(V:V_):Prop:=c27 V/\Q_ V 68 "linked_or_tried" ["knots"] (nK)
theorem d28(V:V_)(B:B_ V)(c:c27 V):c28 V:=⟨c,M_ V 67 ["knots", "tried", "links", "web", "choices"] B.hp B.D27 agb fun _ _ _ _ _ _ _ hr hN hu=>(q9 (S_ 1 hN (zy xq)) (q9 (jp PassesOwn.never rfl (j5 (C_ c.2 hr (xl (qv 0)))) (G_ 2 hN) (q9 (S_ 3 hN (jt (i3 (qv 0) (qv 2) (zy xq)))) (q9 (S_ 4 hN (C_ c.1.1.1.1.1.2 hr (xl (qv 3)))) (q9 (jd (wB (qv 4)) (qc (qp (jt (aa jj (qv 3))))) zd) (qc (jh (jg (qv 1) (xl (jt (aa (qv 2) (qv 4))))))))))) (qc (qp (jt (aa jj (qv 1)))))))⟩
abbrev c29(V:V_):Prop:=c28 V/\d0 V.P V.w V.K V.mg V.base 69 "searched" ["words", "most"] 120 "most" (bD V.Cb)
theorem d29(V:V_)(B:B_ V)(c:c28 V):c29 V:=⟨c,XD_ V 68 ["words", "most", "leaves", "name", "knots", "boths"] (t:=(fun E3=>iZ V.Cb E3 (eZ) (dm) (iD) (cg) (nK))) B.hp B.D28 nU fun _ _ _ _ _ _ _ _ hr ht hN hu=>(q9 (S_ 2 hN (C_ c.1.1.1.1.1.2 hr (xl (qv 0)))) (q9 (S_ 3 hN (C_ c.1.1.1.1.2 hr (xl (qv 2)))) (q9 (jd (iC (qv 3)) (qc (qp (jt (aa jj (qv 3))))) zd) (q9 (S_ 4 hN (I_ (C_ c.1.1.1.1.1.1.1.1.1.1.1.1.1.1.1.1.1.1.1.1.1.1.1.2 hr (xl (qv 0))) qh)) (q9 (S_ 5 hN (L_ B.ba (dO ["knot"] (DJ (by rfl)) rfl (j5 (qv 4)) (k7 qG (fun _ _ _ _=>Or.inl rfl) (fun _ _ _ _=>rfl)) (fun _ _ _ _=>cA (E_ hu (J_ 6) jj)) (fun _ _ _ _=>(qv 6))))) (q9 (jd (N_ hu (L_ B.ba (qv 2)) (ql zu (ql bR qh (qv 5)) qh)) (qc (qp (jt (i3 jj (L_ B.ba (qv 2)) (qv 5))))) zd) (q9 (jd (wz afs (C_ c.1.1.1.2 hr (xl (qv 0))) (qv 1) (kh _)) (qc (vV B.x_TooMany rfl B.ma rfl ht rfl (xl jj))) zd) (qc (qp (C_ c.2 hr (xl (qv 4))))))))))))⟩
abbrev c30(V:V_):Prop:=c29 V/\Q_ V 1 "_law_mix" ["_law_cell", nh, "_law_factor"] (iS)
theorem d30(V:V_)(B:B_ V)(c:c29 V):c30 V:=⟨c,M_ V 0 ["_law_cell", nh, "_law_factor"] B.hp B.D29 afx fun _ _ _ _ _ _ _ hr hN hu=>(qc (qp (ql aH (ql km (ql bR (ql zu (ql zu (ql bR (ql km (qv 0) qh) qh) (ql bR (qv 1) (qv 1))) qh) (qv 2)) qh) qh)))⟩
abbrev c31(V:V_):Prop:=c30 V/\Q_ V 1 "_law_name" [nu, "_law_which"] (iX)
theorem d31(V:V_)(B:B_ V)(c:c30 V):c31 V:=⟨c,M_ V 0 [nu, "_law_which", "_law_letters", "_law_size", "_law_place", "_law_base", "_law_sign"] B.hp B.D30 wQ fun _ _ _ _ _ _ _ hr hN hu=>(q9 (qA (i:=2) hN rfl (Or.inr rfl) jj) (q9 (S_ 3 hN (ql zu qh (ql km (qv 0) qh))) (q9 (S_ 4 hN (ql km (ql aH (qv 0) qh) (qv 3))) (q9 (S_ 5 hN (aak jj (xl (dO [nh] (DJ (by rfl)) rfl (wj rfl B.bb (xl qh)) (k7 qG (fun _ _ _ _=>Or.inl rfl) (fun _ _ _ _=>rfl)) (fun _ _ _ _=>fw) (fun _ _ _ _=>(I_ (qv 2) (ql km (ql zu (ql aH (qv 0) qh) (ql bR qh (qv 7))) qh))))))) (q9 (jd (E_ hu (ql km (ql aH (qv 0) qh) qh) qh) (qc (qp (ky (eE _ _ _) (qv 5) ag (aA (ql zu qh (ql km (ql zu (qv 1) (qv 0)) qh)))))) zd) (q9 (S_ 6 hN (I_ (qv 2) (ql km (ql zu (ql zu (ql aH (qv 0) qh) (ql bR qh (qv 4))) (qv 1)) qh))) (qc (qp (ql zu (ql zu (ky (eE _ _ _) (qv 5) ag (aA (qv 4))) (qv 6)) (ky (eE _ _ _) (qv 5) (aA (ql zu (qv 4) qh)) (aA (qv 3))))))))))))⟩
abbrev c32(V:V_):Prop:=c31 V/\Q_ V 2 "_law_joined" [ng, nq, "_law_boths", "_law_eithers"] (ce)
theorem d32(V:V_)(B:B_ V)(c:c31 V):c32 V:=⟨c,M_ V 1 [ng, nq, "_law_boths", "_law_eithers", ny, "_law_more", "_law_other", nl, "_law_kind", "_law_at"] B.hp B.D31 oa fun _ _ _ _ _ _ _ hr hN hu=>(q9 (S_ 4 hN (iV kI rfl B.bh bG (xl (qv 0)))) (q9 (zK (i:=5) (j:=6) rfl hN rfl rfl (by decide) rfl rfl (aa (qv 2) (qv 3)) rfl) (q9 (kF PassesOwn.never (au (vM (wz afs (ql zu (qv 5) (qv 6)) qh (kh _)) (sk (wz afs (L_ B.ba (qv 4)) qh (kh _))))) (q9 (S_ 7 hN (C_ c.1.2 hr (i3 (I_ (ql zu (qv 1) (zy (xl qh))) (ql km (ql zu (qv 5) (ql bR qh (qv 6))) (ql zu (L_ B.ba (qv 1)) qh))) (ql zu (ql bR qh (qv 5)) (qv 6)) qh))) (q9 (S_ 8 hN (fF (wz xJ (ql km (qv 7) (ql zu (qv 5) (qv 6))) (qv 5) (kh _)) jj jj)) (q9 (S_ 9 hN (ql km (ql aH (qv 7) qh) (ql pD (L_ B.ba (qv 4)) qh))) (q9 (S_ 4 hN (ql zu (ql zu (ky (eE _ _ _) (qv 4) ag (aA (qv 9))) (zy (xl (jt (i3 (qv 8) (I_ (qv 4) (qv 9)) (I_ (qv 4) (ql zu (qv 9) qh))))))) (ky (eE _ _ _) (qv 4) (aA (ql zu (qv 9) qh)) ag))) (qc (jd (E_ hu (qv 8) jj) (qc (rW (i:=5) hN rfl (Or.inl rfl) qh xV)) (qc (rW (i:=6) hN rfl (Or.inl rfl) qh xV))))))))) (qc (qp (qv 4))))))⟩
abbrev c33(V:V_):Prop:=c32 V/\Q_ V 1 "_law_whole" ["_law_found"] (fK)
theorem d33(V:V_)(B:B_ V)(c:c32 V):c33 V:=⟨c,M_ V 0 ["_law_found"] B.hp B.D32 vW fun _ _ _ _ _ _ _ hr hN hu=>(qc (qp (nC (aP .int rfl B.bc rfl B.bu ai0 (qv 0)) (mY (ah0 (aP .bool rfl B.bc rfl B.bp abb (qv 0)))))))⟩
abbrev c34(V:V_):Prop:=c33 V/\Q_ V 101 "_law_lay" [nc, "_law_word"] (xg 100)
theorem d34(V:V_)(B:B_ V)(c:c33 V):c34 V:=⟨c,R_ V 1 [nc, "_law_word", "_law_left", "_law_right"] B.hp B.D33 gr abr (fun _ _ c__law_lay _ _ _ _ _ _ hr hN hu=>(gK (jd (E_ hu (L_ B.ba (qv 1)) qh) (qc (jh (jg (qv 0) (xl (qv 1))))) (q9 (S_ 2 hN (C_ c__law_lay hr (aa (qv 0) (J_ 1)))) (q9 (S_ 3 hN (C_ c__law_lay hr (aa (qv 0) (J_ 1)))) (qc (jh (jg (qv 0) (xl (jt (i3 (J_ 1) (qv 2) (qv 3)))))))))) (qc (qp (ql pD (L_ B.ba (qv 0)) qh))))) 100⟩
abbrev c35(V:V_):Prop:=c34 V/\Q_ V 102 "_law_laid" [ny] (iu)
theorem d35(V:V_)(B:B_ V)(c:c34 V):c35 V:=⟨c,M_ V 101 [ny, nc, "_law_word"] B.hp B.D34 zR fun _ _ _ _ _ _ _ hr hN hu=>(q9 (S_ 1 hN (zy xq)) (q9 (jp PassesOwn.never rfl (j5 (qv 0)) (G_ 2 hN) (qc (jh (C_ c.2 hr (aa (qv 1) (qv 2)))))) (qc (qp (qv 1)))))⟩
abbrev c36(V:V_):Prop:=c35 V/\Q_ V 1 "_law_pieces" [nc, nj, nt] (am)
theorem d36(V:V_)(B:B_ V)(c:c35 V):c36 V:=⟨c,M_ V 0 [nc, nj, nt, "_law_mark", "_law_edges", "_law_at", "_law_r", "_law_knot", "_law_one", "_law_two", "_law_low", "_law_high"] B.hp B.D35 u9 fun _ _ _ _ _ _ _ hr hN hu=>(q9 (S_ 3 hN (jA rfl rfl B.bh rfl B.bb (L_ B.ba (qv 0)))) (q9 (S_ 4 hN (iV kI rfl B.bh bG (xl (qv 1)))) (q9 (S_ 5 hN qh) (q9 (jp PassesOwn.never rfl (af rfl B.bg (qv 0)) (bO rfl (jf (G_ 6 hN) (jf (G_ 7 hN) aQ))) (gK (jd (E_ hu (J_ 7) jj) (qc (S_ 4 hN (ql zu (qv 4) (zy (aa (jt (aa (qv 6) (J_ 7))) (jt (aa (qv 6) (J_ 7)))))))) zd) (qc (jd (E_ hu (J_ 7) jj) (q9 (jh (jg (qv 4) (xl (jt (aa (qv 6) (I_ (qv 7) (ql zu qh (I_ (qv 2) (qv 5))))))))) (qc (rW (i:=5) hN rfl (Or.inl rfl) qh afq))) zd)))) (q9 (jp PassesOwn.never rfl (j5 (qv 4)) (bO rfl (jf (G_ 8 hN) (jf (G_ 9 hN) aQ))) (q9 (ahp (jt (aa (I_ (qv 3) (qv 8)) (I_ (qv 3) (qv 9)))) (bO rfl (jf (iG (i:=10) hN rfl (Or.inr rfl)) (jf (iG (i:=11) hN rfl (Or.inr rfl)) aQ)))) (qc (fM ["_law_x"] (i:=3) hN rfl (Or.inl rfl) (DJ (by rfl)) rfl (j5 (qv 3)) (k7 qG (fun _ _ _ _=>Or.inl rfl) (fun _ _ _ _=>rfl)) (fun _ _ _ _=>fw) (fun _ _ _ _=>(fF (E_ hu (qv 12) (qv 11)) (qv 10) (qv 12))))))) (qc (qp (uT rfl rfl B.ba rfl B.bn (qv 3)))))))))⟩
abbrev c37(V:V_):Prop:=c36 V/\Q_ V 1 "_law_bits" [nl, nA] (dr)
theorem d37(V:V_)(B:B_ V)(c:c36 V):c37 V:=⟨c,M_ V 0 [nl, nA, "_law_bits_here", nh] B.hp B.D36 adl fun _ _ _ _ _ _ _ hr hN hu=>(q9 (S_ 2 hN (zy xq)) (q9 (jp PassesOwn.never rfl (wj rfl B.bb (xl (qv 1))) (G_ 3 hN) (q9 (S_ 2 hN (ql zu (zy (xl (ql km (qv 0) qh))) (qv 2))) (qc (S_ 0 hN (ql aH (qv 0) qh))))) (qc (qp (qv 2)))))⟩
abbrev c38(V:V_):Prop:=c37 V/\Q_ V 2 "_law_linked" [nc, nj] (cr)
theorem d38(V:V_)(B:B_ V)(c:c37 V):c38 V:=⟨c,M_ V 1 [nc, nj, "_law_seen", "_law_link", "_law_left", "_law_right", ng] B.hp B.D37 um fun _ _ _ _ _ _ _ hr hN hu=>(q9 (jd (w6 (xb (aP .list rfl B.bc rfl B.bh bG (qv 1)))) (qc (qp wf)) zd) (q9 (S_ 2 hN (zy xq)) (q9 (jp PassesOwn.never rfl (j5 (qv 1)) (G_ 3 hN) (q9 (jd (au (we (w6 (xb (aP .tuple rfl B.bc rfl B.bi fC (qv 3)))) (we (N_ hu (L_ B.ba (qv 3)) qh) (we (w6 (xb (C_ c.1.1.1.1.2 hr (xl (J_ 3))))) (aZ (w6 (xb (C_ c.1.1.1.1.2 hr (xl (J_ 3)))))))))) (qc (qp wf)) zd) (q9 (jd (w6 (yc qh (lX ant (J_ 3) (lX xJ (J_ 3) (uw xJ (L_ B.ba (qv 0))))))) (qc (qp wf)) zd) (q9 (zK (i:=4) (j:=5) rfl hN rfl rfl (by decide) rfl rfl (aa (I_ (qv 0) (J_ 3)) (I_ (qv 0) (J_ 3))) rfl) (q9 (jd (au (we (N_ hu (L_ B.ba (qv 4)) qh) (we (N_ hu (L_ B.ba (qv 5)) qh) (we (E_ hu (J_ 4) (J_ 5)) (aZ (N_ hu (J_ 4) (J_ 5))))))) (qc (qp wf)) zd) (qc (S_ 2 hN (ql zu (qv 2) (zy (aa (J_ 3) (J_ 3))))))))))) (q9 (fM [nh] (i:=6) hN rfl (Or.inl rfl) (DJ (by rfl)) rfl (wj rfl B.bb (xl (L_ B.ba (qv 0)))) (k7 qG (fun _ _ _ _=>Or.inl rfl) (fun _ _ _ _=>rfl)) (fun _ _ _ _=>cA (E_ hu (L_ B.ba (I_ (qv 0) (qv 7))) qh)) (fun _ _ _ _=>(qv 7))) (qc (qp (nC (aR (l0 _ _ _ hu) (a9 adk rfl B.bj f9 (xl (qv 2))) (qv 6) (kh _)) (mY (aR (l0 _ _ _ hu) (qv 1) (a9 sF rfl B.bj f9 (xl (qv 1))) (kh _))))))))))⟩
abbrev c39(V:V_):Prop:=c38 V/\Q_ V 2 "_law_leaves" [nq, nu, "_law_total"] (cZ)
theorem d39(V:V_)(B:B_ V)(c:c38 V):c39 V:=⟨c,M_ V 1 [nq, nu, "_law_total", ng, nh, nl, "_law_name_here"] B.hp B.D38 pM fun _ _ _ _ _ _ _ hr hN hu=>(q9 (S_ 3 hN (zy xq)) (q9 (jp PassesOwn.never rfl (wj rfl B.bb (xl (ql zu qh (ql km (qv 1) qh)))) (G_ 4 hN) (q9 (S_ 5 hN (C_ c.1.1.1.1.1.1.1.1.2 hr (i3 (ql zu (I_ (ql zu (qv 0) (zy (xl (qv 2)))) (ql km (qv 4) (ql zu (L_ B.ba (qv 0)) qh))) (qv 2)) (qv 4) qh))) (q9 (S_ 6 hN (C_ c.1.1.1.1.1.1.1.2 hr (aa (qv 1) (abx (aa (ql km (qv 4) qh) (ql aH (qv 4) qh)) (ql km (ql aH (qv 1) qh) qh) (ajt (ajt (agh _) (aje _)) (aje _)) (fun _ _=>rfl))))) (q9 (jh (l5 (qv 3) (aa (ql km (qv 5) (ql zu (L_ B.ba (qv 3)) qh)) (jt (aa jj (qv 6)))))) (qc (jh (l5 (qv 3) (aa (ql km (ql aH (qv 5) qh) (ql zu (L_ B.ba (qv 3)) qh)) (jt (aa jj (qv 6))))))))))) (qc (qp (qv 3)))))⟩
abbrev c40(V:V_):Prop:=c39 V/\Q_ V 1 "_law_due" [ng] (ff)
theorem d40(V:V_)(B:B_ V)(c:c39 V):c40 V:=⟨c,M_ V 0 [ng, nz, "_law_seen", "_law_leaf"] B.hp B.D39 uW fun _ _ _ _ _ _ _ hr hN hu=>(q9 (S_ 1 hN qh) (q9 (S_ 2 hN sI) (q9 (jp PassesOwn.never rfl (j5 (qv 0)) (G_ 3 hN) (qc (jd (E_ hu (J_ 3) jj) (q9 (sw hu (qv 2) (J_ 3) (ql zu (pF hu (qv 2) (J_ 3) qh) qh)) (qc (S_ 1 hN (ql bR (qv 1) (sR hu (qv 2) (J_ 3) (fun _ _=>rfl)))))) zd))) (qc (qp (qv 1))))))⟩
abbrev c41(V:V_):Prop:=c40 V/\Q_ V 2 "_law_tried" [nc, nj, nt, "_law_first"] (kH)
theorem d41(V:V_)(B:B_ V)(c:c40 V):c41 V:=⟨c,M_ V 1 [nc, nj, nt, "_law_first", nA, nl, "_law_choice", nh] B.hp B.D40 y8 fun _ _ _ _ _ _ _ hr hN hu=>(q9 (S_ 4 hN (L_ B.ba (dO ["_law_knot"] (DJ (by rfl)) rfl (j5 (qv 0)) (k7 qG (fun _ _ _ _=>Or.inl rfl) (fun _ _ _ _=>rfl)) (fun _ _ _ _=>cA (E_ hu (J_ 8) jj)) (fun _ _ _ _=>(qv 8))))) (q9 (jd (au (we (w6 (xb (aP .list rfl B.bc rfl B.bh bG (qv 2)))) (aZ (N_ hu (L_ B.ba (qv 2)) (qv 4))))) (qc (qp wf)) zd) (q9 (S_ 5 hN qh) (q9 (jp PassesOwn.never rfl (j5 (qv 2)) (G_ 6 hN) (q9 (jd (au (we (w6 (xb (C_ c.1.1.1.1.1.1.1.2 hr (xl (qv 6))))) (aZ (wz (wA _ _ _) (qv 6) (jt (aa qh qh)) (by with_unfolding_all rfl))))) (qc (qp wf)) zd) (qc (S_ 5 hN (ql zu (ql bR qh (qv 5)) (qv 6)))))) (q9 (jd (E_ hu (C_ c.1.1.1.1.2 hr (i3 (qv 0) (qv 1) (qv 2))) qh) (qc (qp wf)) zd) (q9 (jp PassesOwn.never rfl (wj rfl B.bb (xl (fF (xb (qv 3)) (qv 5) qh))) (G_ 7 hN) (qc (jd (N_ hu (C_ c.1.1.1.1.2 hr (i3 (qv 0) (qv 1) (C_ c.1.1.1.2 hr (aa (qv 7) (qv 4))))) qh) (qc (qp wf)) zd))) (qc (qp wf))))))))⟩
abbrev c42(V:V_):Prop:=c41 V/\Q_ V 3 "_law_none" [nc, "_law_tried_here", nz] (nL)
theorem d42(V:V_)(B:B_ V)(c:c41 V):c42 V:=⟨c,M_ V 2 [nc, "_law_tried_here", nz, "_law_ways", nh, "_law_pair"] B.hp B.D41 ad1 fun _ _ _ _ _ _ _ hr hN hu=>(q9 (jd (au (we (w6 (xb (aP .list rfl B.bc rfl B.bh bG (qv 1)))) (aZ (N_ hu (L_ B.ba (qv 1)) (qv 2))))) (qc (qp wf)) zd) (q9 (S_ 3 hN (zy xq)) (q9 (jp PassesOwn.never rfl (af rfl B.bg (qv 1)) (bO rfl (jf (G_ 4 hN) (jf (G_ 5 hN) aQ))) (q9 (jd (au (we (w6 (xb (aP .tuple rfl B.bc rfl B.bi fC (qv 5)))) (we (N_ hu (L_ B.ba (qv 5)) qh) (aZ (w6 (xb (C_ c.1.1.1.2 hr (aa (qv 0) (J_ 5))))))))) (qc (qp wf)) zd) (q9 (jd (au (we (wz (ajo hu) (J_ 5) (qv 3) (by with_unfolding_all rfl)) (aZ (w6 (xb (C_ c.2 hr (dq (qv 0) (i3 (J_ 5) (J_ 5) (aR xJ (qv 4) qh (kh _)))))))))) (qc (qp wf)) zd) (qc (jh (jg (qv 3) (xl (J_ 5)))))))) (qc (qp wf)))))⟩
theorem dL(V:V_)(B:B_ V)(c:c42 V){f:Addr}{fd:FuncData}(F:Fun V.K "law" "law" oU f fd):Fn3 V.P V.w V.K V.mg V.base 103 f fd [nv] (r6):=
 W_ V 102 [nv, nu, nq, "_law_total", ng, "_law_pairs", ny, nc, "_law_found", "_law_web", nA, "_law_lists", nh] F xL fun _ _ _ _ _ _ hr hN hu=>(q9 (S_ 1 hN (ql km (I_ (ql (ahv _ _ _) (qv 0) (zy (xl qh))) qh) (ql akb qh qh))) (q9 (S_ 2 hN (ky (eE _ _ _) (qv 0) (aA qh) ag)) (q9 (ac1 "_law_k'" (qA (i:=3) qG rfl (Or.inl rfl) (a9 akl rfl B.br ahm (xl (dO [nh, "_law_cell" ] (DJ (by rfl)) rfl (af rfl B.bg (qv 2)) (iH rfl qG (fun _ _ _ _=>rfl) (fun _ _ _ _=>rfl)) (fun _ _ _ _=>fw) (fun _ _ _ _=>(C_ c.1.1.1.1.1.1.1.1.1.1.1.1.2 hr (i3 (qv 14) (qv 13) qh)))))))) (q9 (S_ 4 hN (C_ c.1.1.1.2 hr (i3 (ky (eE _ _ _) (qv 2) ag (aA qh)) (qv 1) (qv 3)))) (q9 (S_ 5 hN (ql aH (L_ B.ba (qv 4)) qh)) (q9 (S_ 6 hN (C_ c.1.1.1.1.1.1.1.1.1.1.2 hr (dq (qv 4) (i3 (ql zu (zy (xl (qv 3))) (ky (eE _ _ _) (qv 2) ag (aA qh))) (ql pD (qv 5) qh) (ql km (ql aH (ql zu (qv 1) (qv 3)) qh) (ql zu (qv 5) qh)))))) (q9 (S_ 7 hN (C_ c.1.1.1.1.1.1.1.2 hr (xl (qv 6)))) (q9 (S_ 8 hN (aiq ((c.1.1.1.1.1.1.1.1.1.1.1.1.1.2.mono (by decide)).toX) hr rfl agf rfl (aa (iV kI rfl B.bh bG (xl (qv 6))) qh))) (q9 (jd (au (we (w6 (xb (aP .tuple rfl B.bc rfl B.bi fC (qv 8)))) (aZ (N_ hu (L_ B.ba (qv 8)) qh)))) (qc (qp wf)) zd) (q9 (jd (E_ hu (J_ 8) jj) (qc (qp (C_ c.2 hr (i3 (qv 7) (J_ 8) (C_ c.1.1.2 hr (xl (qv 4))))))) zd) (q9 (S_ 9 hN (J_ 8)) (q9 (jd (au (we (N_ hu (J_ 8) jj) (we (w6 (xb (aP .tuple rfl B.bc rfl B.bi fC (qv 9)))) (aZ (N_ hu (L_ B.ba (qv 9)) qh))))) (qc (qp wf)) zd) (q9 (jd (au (we (N_ hu (J_ 9) (qv 7)) (we (w6 (xb (C_ c.1.1.1.1.2 hr (aa (qv 7) (J_ 9))))) (aZ (N_ hu (J_ 9) (zy xq)))))) (qc (qp wf)) zd) (q9 (S_ 10 hN (L_ B.ba (dO ["_law_knot"] (DJ (by rfl)) rfl (j5 (qv 7)) (k7 qG (fun _ _ _ _=>Or.inl rfl) (fun _ _ _ _=>rfl)) (fun _ _ _ _=>cA (E_ hu (J_ 13) jj)) (fun _ _ _ _=>(qv 13))))) (q9 (S_ 11 hN qh) (q9 (jp PassesOwn.never rfl (wj rfl B.bb (xl (qv 10))) (G_ 12 hN) (qc (S_ 11 hN (ql bR qh (qv 11))))) (q9 (jp PassesOwn.never rfl (wj rfl B.bb (xl (qv 11))) (G_ 12 hN) (qc (jd (N_ hu (C_ c.1.1.1.1.1.1.2 hr (i3 (qv 7) (J_ 9) (C_ c.1.1.1.1.1.2 hr (aa (qv 12) (qv 10))))) qh) (qc (qp wf)) zd))) (qc (qp wf)))))))))))))))))))
theorem all_mk{l:PySem.W.OpenLaw}{w:World}{K:Ac}{h:Heap}{mg:Str->Option Value}{fa:Addr}{a_LEAF_KINDS:Addr}{o_LEAF_KINDS:Option Addr}{n_LEAF_KINDS:Nat}{l_LEAF_KINDS:Array (Option Value)}{t_LEAF_KINDS0 t_LEAF_KINDS1:Tok}{a_TURNED_KINDS:Addr}{e_TURNED_KINDS:Nat}{t_TURNED_KINDS0 t_TURNED_KINDS1 t_TURNED_KINDS2 t_TURNED_KINDS3 u_TURNED_KINDS0 u_TURNED_KINDS1 u_TURNED_KINDS2 u_TURNED_KINDS3:Tok}{Ca:Addr}{Cb:Addr}(X:K.In h)(G:h.Ns mainGlobals mg)(hfa:mg "law" = some (.ref fa))
 (D0:qr K "is_leaf" l8)
 (D1:qr K "turned" oZ)
 (D2:qr K "leaves_of" gb)
 (D3:qr K "lay_word" jW)
 (D4:qr K "laid" zN)
 (D5:bJ K Ca "__init__" "Pieces.__init__" dF)
 (D6:bJ K Ca "head_of" "Pieces.head_of" av)
 (D7:bJ K Ca "unite" "Pieces.unite" cU)
 (D8:qr K "places_there" cb)
 (D9:qr K "parts_of" iz)
 (D10:qr K "places_in" gU)
 (D11:qr K "eithers_of" fB)
 (D12:qr K "boths_of" iO)
 (D13:qr K "part_edges" dw)
 (D14:qr K "joins_of" i0)
 (D15:qr K "join_steps" fD)
 (D16:qr K "can_fold" iW)
 (D17:qr K "fold_steps" eS)
 (D18:qr K "steps_by" jQ)
 (D19:qr K "all_come_together" aM)
 (D20:qr K "right_web" gp)
 (D21:qr K "first_bad" g7)
 (D22:qr K "leaves_in" gZ)
 (D23:qr K "first_uneven" cI)
 (D24:qr K "tries_due" g8)
 (D25:qr K "linked_further" bC)
 (D26:qr K "ways_to_link" cO)
 (D27:qr K "linked_or_tried" ah)
 (D28:fZ K "searched" jX 120)
 (D29:qr K "_law_mix" jT)
 (D30:qr K "_law_name" gT)
 (D31:qr K "_law_joined" dH)
 (D32:qr K "_law_whole" ef)
 (D33:qr K "_law_lay" jZ)
 (D34:qr K "_law_laid" gf)
 (D35:qr K "_law_pieces" dQ)
 (D36:qr K "_law_bits" gd)
 (D37:qr K "_law_linked" dG)
 (D38:qr K "_law_leaves" dJ)
 (D39:qr K "_law_due" ie)
 (D40:qr K "_law_tried" eI)
 (D41:qr K "_law_none" gn)
 (D42:qr K "law" oU)
 (aLEAF_KINDS:PySem.W.nsIn K mainGlobals "LEAF_KINDS" = some (some (.ref a_LEAF_KINDS)))
 (lLEAF_KINDS:K.lookup a_LEAF_KINDS=some ⟨.type "tuple",o_LEAF_KINDS,.seq #[.str "plain" t_LEAF_KINDS0,.str "turned" t_LEAF_KINDS1] n_LEAF_KINDS,l_LEAF_KINDS⟩)
 (aTURNED_KINDS:PySem.W.nsIn K mainGlobals "TURNED_KINDS" = some (some (.ref a_TURNED_KINDS)))
 (lTURNED_KINDS:K.lookup a_TURNED_KINDS=some ⟨.type "dict",none,.dict ((([("plain",t_TURNED_KINDS0, "turned",u_TURNED_KINDS0),("turned",t_TURNED_KINDS1, "plain",u_TURNED_KINDS1),("both",t_TURNED_KINDS2, "either",u_TURNED_KINDS2),("either",t_TURNED_KINDS3, "both",u_TURNED_KINDS3)]:List (Str×Tok×Str×Tok)).map (tI w)).toArray) e_TURNED_KINDS,#[]⟩)
 (hTURNED_KINDS:(a_TURNED_KINDS==sysModules)=false)
 (aCPieces:PySem.W.nsIn K mainGlobals "Pieces" = some (some (.ref Ca)))
 (aCTooMany:PySem.W.nsIn K mainGlobals "TooMany" = some (some (.ref Cb)))
 (qCTooMany:PySem.W.excIn K Cb [.type "ValueError",.type "Exception",.type "BaseException",.type "object"] "ValueError.__new__" = true)
 (clPieces:Cls K Ca)
 (mAPieces:PySem.W.makesIn K Ca=true)
 (mKPieces:PySem.W.keepIn K (.ref Ca)=true)
 (xf:L3.XFP K Ca)
 (zlen:PySem.W.nsIn K mainGlobals "len" = some none)
 (zlist:PySem.W.nsIn K mainGlobals "list" = some none)
 (zrange:PySem.W.nsIn K mainGlobals "range" = some none)
 (zenumerate:PySem.W.nsIn K mainGlobals "enumerate" = some none)
 (zmax:PySem.W.nsIn K mainGlobals "max" = some none)
 (zmin:PySem.W.nsIn K mainGlobals "min" = some none)
 (zsorted:PySem.W.nsIn K mainGlobals "sorted" = some none)
 (zisinstance:PySem.W.nsIn K mainGlobals "isinstance" = some none)
 (zbool:PySem.W.nsIn K mainGlobals "bool" = some none)
 (zint:PySem.W.nsIn K mainGlobals "int" = some none)
 (zset:PySem.W.nsIn K mainGlobals "set" = some none)
 (ztuple:PySem.W.nsIn K mainGlobals "tuple" = some none)
 (zsum:PySem.W.nsIn K mainGlobals "sum" = some none):
 ∃fd:FuncData,(∀(s:Shared) (v:Value),BindsTo s fd ⟨[v],[]⟩ [(nv,v)])/\∀base:Heap,K.In base->base.Ns mainGlobals mg->aB l.prog w K mg base CX0 103 fa fd [nv] (spTop K):=by
 obtain⟨fL,kV,doc,pm,an,cdv,ct,aL,FL⟩:=D42.ex;have e:=hfa.symm.trans (BV X G aL);cases e;refine⟨PySem.W.fnOf "law" "law" (ja oU) (zn oU) (qk oU) .none kV doc pm an cdv ct,fun s v=>.of_eq rfl,fun base _ _=>?_⟩;have B:B_ ⟨l.prog,w,K,mg,base,Ca,Cb⟩:=⟨⟨h,X,G⟩,AW X G zlen,AW X G zlist,AW X G zrange,AW X G zenumerate,AW X G zmax,AW X G zmin,AW X G zsorted,AW X G zisinstance,AW X G zbool,AW X G zint,AW X G zset,AW X G ztuple,AW X G zsum,D0,D1,D2,D3,D4,D5,D6,D7,D8,D9,D10,D11,D12,D13,D14,D15,D16,D17,D18,D19,D20,D21,D22,D23,D24,D25,D26,D27,D28,D29,D30,D31,D32,D33,D34,D35,D36,D37,D38,D39,D40,D41,⟨a_LEAF_KINDS,BV X G aLEAF_KINDS,fun H=>⟨a_LEAF_KINDS,[V.str "plain",V.str "turned"],rfl,.inr ⟨_,_,_,lLEAF_KINDS,rfl,rfl,by show 2≤sizeLine;decide,.cons ⟨_,rfl⟩ (.cons ⟨_,rfl⟩ (.nil))⟩,⟨_,_,rfl,rfl,⟨_,_,rfl,rfl,rfl⟩⟩⟩⟩,⟨a_TURNED_KINDS,BV X G aTURNED_KINDS,fun H=>⟨a_TURNED_KINDS,rfl,aik _ lTURNED_KINDS hTURNED_KINDS (by show 4≤1000;decide) (by show List.Nodup ([Sum.inr "plain",Sum.inr "turned",Sum.inr "both",Sum.inr "either"]:List jc);decide +kernel)⟩⟩,BV X G aCPieces,BV X G aCTooMany,qE qCTooMany,clPieces,mAPieces,mKPieces,xf⟩;exact aB.imp (dL _ B (d42 _ B (d41 _ B (d40 _ B (d39 _ B (d38 _ B (d37 _ B (d36 _ B (d35 _ B (d34 _ B (d33 _ B (d32 _ B (d31 _ B (d30 _ B (d29 _ B (d28 _ B (d27 _ B (d26 _ B (d25 _ B (d24 _ B (d23 _ B (d22 _ B (d21 _ B (d20 _ B (d19 _ B (d18 _ B (d17 _ B (d16 _ B (d15 _ B (d14 _ B (d13 _ B (d12 _ B (d11 _ B (d10 _ B (d9 _ B (d8 _ B (d7 _ B (d6 _ B (d5 _ B (d4 _ B (d3 _ B (d2 _ B (d1 _ B trivial)))))))))))))))))))))))))))))))))))))))))) FL) fun vs H Q E q=>agu q
end K73
namespace H73
noncomputable section
open PySem PySem.W PySem.W.X L2 L3 PyProof.Rows
abbrev rr:=PySem.Challenge.rw_oncewise_k73_tries
abbrev p:Program:=PySem.Challenge.pw_oncewise_k73_tries
abbrev top:=K73.top
abbrev uu(i k:Nat):Stmt:=(iI (top i)).getD k (.Pass ⟨0,0,0,0⟩)
abbrev s(x:String):Str:=Str.ofString x
noncomputable abbrev S (x:String) (t:Tok):Value:=.str (Str.ofString x) t
noncomputable abbrev I (i:Int) (t:Tok):Value:=.int i t
noncomputable abbrev R (a:Addr):Value:=.ref a
abbrev E(P:Params)(k:String)(t:Tok)(v:Value):DictEntry:=⟨PyData.keyHash P (Str.ofString k),.str (Str.ofString k) t,v⟩
noncomputable abbrev O (c:Value) (d:Data):Obj:=⟨c,none,d,#[]⟩
abbrev FN(n q:String)(st:Stmt)(dV kV doc pm:Value)(an:Option Addr)(cd ct:Value):FuncData:=fnOf (Str.ofString n) (Str.ofString q) (ja st) (zn st) (qk st) dV kV doc pm an cd ct
abbrev FG(n q:String)(st:Stmt):FuncData:={ fnOf (Str.ofString n) (Str.ofString q) (ja st) (zn st) (qk st) .none .none .none .none none .none .none with globals:=0 }
abbrev tu(l:Array Value):Obj:=O (.type "tuple") (.seq l 0)
abbrev fo(f:FuncData):Obj:=O (.type "function") (.func f)
abbrev go(f:FuncData):Obj:=O .none (.func f)
abbrev co(n q:String)(t l a b c fl v:Nat)(o:Bool)(m k:Nat)(x y z u:Value)(d:Nat):Obj:=O (.type "code") (.fields #[S n t,S q (t+1),S "/claim/cut.py" (t+2),I l 0,I a 0,I b 0,I c 0,I fl 0,R v,.bool o,I m 0,R k,x,y,z,u,I d 0,I l 0,S "/claim/cut.py" (d+1)])
abbrev sN:Value:=S "law_oncewise_k73_tries" 518
abbrev m1_:Value:=S "oncewise.shrinking" 365
abbrev m2_:Value:=S "oncewise.searching" 457
abbrev m3_:Value:=S "oncewise.webs" 314
abbrev m5_:Value:=S "oncewise.words" 274
abbrev fX(n:String)(i:Nat)(m:Value)(r:Nat):Obj:=fo (FN n n (top i) .none .none .none m none (R r) .none)
abbrev gX(n:String)(i:Nat):Obj:=go (FG n n (top i))
abbrev cF(n:String)(t l a v d:Nat):Obj:=co n n t l a 0 0 3 v true 181 (v+1) .none (R (v+2)) (R (v+3)) (R (v+4)) d
abbrev cC(n:String)(t l v d:Nat):Obj:=co n n t l 0 0 0 0 v false 181 (v+1) .none .none .none .none d
abbrev cS(n:String)(a ns k t v:Nat):Obj:=⟨.type "type",none,.cls (ClassData.mk (s n) [R 24] [R a,R 24,.type "ValueError",.type "Exception",.type "BaseException",.type "object"] ns (s n) true [] [] false none false),#[some (R k),none,some (S n t),some (S n v),some (.builtin "ValueError.__new__"),some (.bool true)]⟩
abbrev dA(P:Params)(a b:Nat)(l:Int)(c d r e:Nat):Obj:=O (.type "dict") (.dict #[E P "__module__" a (S "oncewise.errors" 187),E P "__firstlineno__" b (I l c),E P "__static_attributes__" d (R r),E P "__doc__" e .none] 2)
abbrev dB(P:Params)(a q:Nat)(n:String)(q2 b:Nat)(l:Int)(c d r:Nat):Obj:=O (.type "dict") (.dict #[E P "__module__" a (S "oncewise.errors" 187),E P "__qualname__" q (S n q2),E P "__firstlineno__" b (I l c),E P "__static_attributes__" d (R r)] 4)
abbrev fR(a b:Nat):Obj:=⟨.type "frame",none,.plain,#[some (R a),some (R 3),some (R b),none,some (S "oncewise.errors" 187),none,some (R 0)]⟩
abbrev bI(a:Nat):Obj:=O (.type "builtin_function_or_method") (.fields #[.builtin "object.__init_subclass__",R a])
abbrev sU(a:Nat):Obj:=O (.type "super") (.fields #[R a,R a,R a])
abbrev Ob:=Params->Obj
def ev{α:Type}:Bool->List α->List α
 |_,[]=>[]
 |true,x::r=>x::ev false r
 |false,_::r=>ev true r
def bt:Nat->List Obj->BT
 |0,_=>.nil
 |_,[]=>.nil
 |n+1,x::r=>.node x (bt n (ev true r)) (bt n (ev false r))
def env0:Env:={ scope:=p.main.scope,locals:=mainNs,globals:=mainNs,cells:=[],code:=.ref 13,frame:=some 14 }
abbrev cE:Code:=.body (behindTheImports p) env0
abbrev q0:Pos:=⟨0,0,0,0⟩
abbrev an:Option Value:=some (.ref 6)
abbrev Pc(n:Nat)(S S':World->OsState->SharedT)(l:List Stmt)(q q':Pos)(w:World):Prop:=(fun os=>segRunT treeTable p w 11 an 1 n (S w os) (piecesOf l env0 cE q [topFrame q0]))=fun os=>some (Flow.next,S' w os,cE,q')
abbrev b0:=PySem.W.boot_o_0
abbrev b1:=PySem.W.boot_o_1
abbrev b2:=PySem.W.boot_o_2
abbrev b3:=PySem.W.boot_o_3
abbrev b4:=PySem.W.boot_o_4
abbrev b5:=PySem.W.boot_o_5
abbrev b6:=PySem.W.boot_o_6
abbrev b7:=PySem.W.boot_o_7
abbrev b8:=PySem.W.boot_o_8
abbrev b9:=PySem.W.boot_o_9
abbrev b10:=PySem.W.boot_o_10
def xw:Ob:=fun _=>tu #[]
def a7:Ob:=fun _=>O .none (.fields #[])
def xac:Ob:=fun _=>cC "<module>" 182 1 11 185
def xad:Ob:=fun _=>⟨(.type "frame"),none,.plain,#[(some (R 13)),(some (R 3)),(some (R 3)),none,(some (S "__main__" 164)),none,(some (R 0))]⟩
def xag:Ob:=fun P=>O (.type "dict") (.dict #[(E P "__module__" 196 (S "oncewise.errors" 187)),(E P "__firstlineno__" 200 (I 2 199)),(E P "__static_attributes__" 201 (R 22)),(E P "__weakref__" 203 (R 25)),(E P "__doc__" 204 .none)] 3)
def xaj:Ob:=fun _=>O (.type "getset_descriptor") (.fields #[S "__weakref__" 202,R 24,(.builtin "ExceptionGroup.__weakref__"),.none])
def xal:Ob:=fun _=>O (.type "builtin_function_or_method") (.fields #[(.builtin "type.__prepare__"),(.type "type")])
def xat:Ob:=fun _=>cS "TooMany" 37 36 28 207 215
def xau:Ob:=fun _=>⟨(.type "type"),none,(.cls (ClassData.mk (s "OnceError") [(.type "ValueError")] [R 24,(.type "ValueError"),(.type "Exception"),(.type "BaseException"),(.type "object")] 23 (s "OnceError") true [] [R 37] false none false)),#[(some (R 15)),none,(some (S "OnceError" 189)),(some (S "OnceError" 197)),(some (.builtin "ValueError.__new__")),(some (.bool true))]⟩
def xaw:Ob:=fun P=>dA P 214 218 4 217 219 35 220
def xa3:Ob:=fun _=>O (.type "getset_descriptor") (.fields #[S "__dict__" 267,R 70,(.builtin "function.__dict__"),(.builtin "function.__dict__#set")])
def xa4:Ob:=fun _=>fo (FN "unite" "Pieces.unite" (uu 4 2) .none .none .none (S "oncewise.pieces" 223) none (R 66) .none)
def xa6:Ob:=fun _=>tu #[S "plain" 276,S "turned" 277]
def xa7:Ob:=fun _=>co "head_of" "Pieces.head_of" 245 12 2 0 0 3 54 true 181 55 .none (R 56) (R 57) (R 58) 251
def xbb:Ob:=fun P=>O (.type "dict") (.dict #[(E P "__module__" 232 (S "oncewise.pieces" 223)),(E P "__firstlineno__" 236 (I 7 235)),(E P "__init__" 244 (R 53)),(E P "head_of" 253 (R 60)),(E P "unite" 264 (R 67)),(E P "__static_attributes__" 266 (R 68)),(E P "__dict__" 268 (R 71)),(E P "__weakref__" 270 (R 72)),(E P "__doc__" 271 .none)] 4)
def xbc:Ob:=fun _=>fo (FN "__init__" "Pieces.__init__" (uu 4 0) .none .none .none (S "oncewise.pieces" 223) none (R 52) .none)
def xbe:Ob:=fun _=>O (.type "getset_descriptor") (.fields #[S "__weakref__" 269,R 70,(.builtin "ExceptionGroup.__weakref__"),.none])
def xbi:Ob:=fun _=>co "__init__" "Pieces.__init__" 237 9 2 0 0 3 47 true 181 48 .none (R 49) (R 50) (R 51) 242
def xbk:Ob:=fun P=>O (.type "dict") (.dict #[(E P "plain" 279 (S "turned" 280)),(E P "turned" 281 (S "plain" 282)),(E P "both" 283 (S "either" 284)),(E P "either" 285 (S "both" 286))] 4)
def xbl:Ob:=fun _=>fo (FN "head_of" "Pieces.head_of" (uu 4 1) .none .none .none (S "oncewise.pieces" 223) none (R 59) .none)
def xbm:Ob:=fun _=>co "unite" "Pieces.unite" 254 19 3 0 0 3 61 true 181 62 .none (R 63) (R 64) (R 65) 262
def xbq:Ob:=fun _=>⟨(.type "type"),none,(.cls (ClassData.mk (s "Pieces") [(.type "object")] [R 70,(.type "object")] 69 (s "Pieces") true [] [] false none false)),#[none,none,(some (S "Pieces" 225)),(some (S "Pieces" 233)),(some (.builtin "object.__new__")),(some (.bool true))]⟩
def xbu:Ob:=fun _=>fX "join_steps" 22 m1_ 158
def xbx:Ob:=fun _=>fX "laid" 13 m3_ 110
def xby:Ob:=fun _=>fX "eithers_of" 17 m3_ 134
def xbz:Ob:=fun _=>cF "lay_word" 316 39 2 98 323
def xb0:Ob:=fun _=>cF "joins_of" 379 75 1 146 383
def xb2:Ob:=fun _=>fX "is_leaf" 8 m5_ 82
def xb3:Ob:=fun _=>co "places_there" "places_there" 336 53 1 0 0 3 112 true 181 113 .none .none .none (R 114) 339
def xb4:Ob:=fun _=>co "boths_of" "boths_of" 367 68 1 0 0 3 136 true 181 137 .none .none .none (R 138) 370
def xb7:Ob:=fun _=>fX "parts_of" 15 m3_ 122
def xb8:Ob:=fun _=>cF "places_in" 349 59 1 124 356
def xb9:Ob:=fun _=>fX "leaves_of" 10 m5_ 96
def xcb:Ob:=fun _=>fX "part_edges" 20 m1_ 144
def xcc:Ob:=fun _=>cF "turned" 299 29 1 84 304
def xcj:Ob:=fun _=>cF "leaves_of" 307 34 1 91 311
def xck:Ob:=fun _=>co "part_edges" "part_edges" 373 70 2 0 0 3 141 true 181 142 .none .none .none (R 143) 376
def xcl:Ob:=fun _=>fX "lay_word" 12 m3_ 103
def xcn:Ob:=fun _=>fX "joins_of" 21 m1_ 151
def xcr:Ob:=fun _=>fX "places_there" 14 m3_ 115
def xcs:Ob:=fun _=>fX "boths_of" 19 m1_ 139
def xct:Ob:=fun _=>fX "places_in" 16 m3_ 129
def xcu:Ob:=fun _=>cF "is_leaf" 292 27 1 77 296
def xcx:Ob:=fun _=>fX "turned" 9 m5_ 89
def xcy:Ob:=fun _=>cF "parts_of" 342 55 1 117 346
def xcz:Ob:=fun _=>co "eithers_of" "eithers_of" 359 65 1 0 0 3 131 true 181 132 .none .none .none (R 133) 362
def xc3:Ob:=fun _=>cF "laid" 326 47 1 105 333
def xc4:Ob:=fun _=>cF "join_steps" 386 77 2 153 394
def xc7:Ob:=fun _=>cF "right_web" 435 102 1 186 439
def xc9:Ob:=fun _=>fX "first_bad" 28 m1_ 198
def xdd:Ob:=fun _=>co "can_fold" "can_fold" 397 83 3 0 0 3 160 true 181 161 .none .none .none (R 162) 400
def xdf:Ob:=fun _=>fX "fold_steps" 24 m1_ 170
def xdh:Ob:=fun _=>cF "tries_due" 476 128 1 214 485
def xdi:Ob:=fun _=>fX "linked_further" 33 m2_ 224
def xdk:Ob:=fun _=>cF "steps_by" 415 96 3 172 422
def xdn:Ob:=fun _=>fX "all_come_together" 26 m1_ 184
def xdp:Ob:=fun _=>co "ways_to_link" "ways_to_link" 494 148 1 0 0 3 226 true 181 227 .none .none .none (R 228) 497
def xdq:Ob:=fun _=>fX "first_uneven" 31 m2_ 212
def xds:Ob:=fun _=>cF "leaves_in" 459 118 1 200 465
def xdt:Ob:=fun _=>fX "linked_or_tried" 35 m2_ 236
def xdu:Ob:=fun _=>fX "right_web" 27 m1_ 191
def xdv:Ob:=fun _=>co "linked_further" "linked_further" 488 139 3 0 0 3 221 true 181 222 .none .none .none (R 223) 491
def xdy:Ob:=fun _=>cF "all_come_together" 425 99 3 179 432
def xd0:Ob:=fun _=>fX "can_fold" 23 m1_ 163
def xd2:Ob:=fun _=>cF "first_uneven" 468 123 1 207 473
def xd4:Ob:=fun _=>cF "linked_or_tried" 500 154 1 231 508
def xd5:Ob:=fun _=>fX "tries_due" 32 m2_ 219
def xd8:Ob:=fun _=>fX "steps_by" 25 m1_ 177
def xea:Ob:=fun _=>cF "fold_steps" 403 86 3 165 412
def xec:Ob:=fun _=>cF "first_bad" 442 104 1 193 454
def xed:Ob:=fun _=>fX "ways_to_link" 34 m2_ 229
def xee:Ob:=fun _=>fX "leaves_in" 30 m2_ 205
def xei:Ob:=fun _=>fX "_law_name" 39 sN 254
def xej:Ob:=fun _=>co "_law_pieces" "_law_pieces" 577 215 3 0 0 3 284 true 181 285 .none .none .none (R 286) 580
def xel:Ob:=fun _=>fX "_law_bits" 45 sN 294
def xeo:Ob:=fun _=>cF "_law_lay" 558 202 2 270 565
def xep:Ob:=fun _=>fX "_law_leaves" 47 sN 306
def xeq:Ob:=fun _=>fo (FN "searched" "searched" (top 36) (R 238) .none .none (S "oncewise.searching" 457) none (R 242) .none)
def xes:Ob:=fun _=>co "_law_linked" "_law_linked" 593 235 2 0 0 3 296 true 181 297 .none .none .none (R 298) 596
def xet:Ob:=fun _=>fX "_law_laid" 43 sN 282
def xey:Ob:=fun _=>cF "_law_due" 612 258 1 308 619
def xez:Ob:=fun _=>cF "_law_mix" 520 176 3 244 526
def xe0:Ob:=fun _=>cF "_law_joined" 535 187 4 256 548
def xe2:Ob:=fun _=>fX "_law_whole" 41 sN 268
def xe4:Ob:=fun _=>fX "_law_pieces" 44 sN 287
def xfa:Ob:=fun _=>fX "_law_lay" 42 sN 275
def xfb:Ob:=fun _=>cF "_law_whole" 551 200 1 263 555
def xfc:Ob:=fun _=>fX "_law_linked" 46 sN 299
def xff:Ob:=fun _=>cF "_law_leaves" 599 250 3 301 609
def xfg:Ob:=fun _=>co "searched" "searched" 512 163 2 0 0 3 239 true 181 240 .none .none .none (R 241) 515
def xfi:Ob:=fun _=>cF "_law_laid" 568 210 1 277 574
def xfj:Ob:=fun _=>fX "_law_due" 48 sN 313
def xfk:Ob:=fun _=>fX "_law_mix" 38 sN 249
def xfl:Ob:=fun _=>fX "_law_joined" 40 sN 261
def xfm:Ob:=fun _=>cF "_law_bits" 583 229 2 289 590
def xfp:Ob:=fun _=>tu #[I 120 511]
def xfr:Ob:=fun _=>co "_law_name" "_law_name" 529 178 2 0 0 3 251 true 181 252 .none .none .none (R 253) 532
def xfs:Ob:=fun P=>O (.type "dict") (.dict #[(E P "__name__" 165 (S "law_oncewise_k73_tries" 518)),(E P "__doc__" 166 .none),(E P "__package__" 167 .none),(E P "__loader__" 168 (.builtin "__main__.__loader__#opaque")),(E P "__spec__" 169 .none),(E P "__annotations__" 170 (R 6)),(E P "__builtins__" 171 (R 4)),(E P "__file__" 173 (S "/claim/cut.py" 172)),(E P "__cached__" 174 .none),(E P "OnceError" 206 (R 24)),(E P "TooMany" 222 (R 37)),(E P "Pieces" 273 (R 70)),(E P "LEAF_KINDS" 278 (R 75)),(E P "TURNED_KINDS" 291 (R 76)),(E P "is_leaf" 298 (R 83)),(E P "turned" 306 (R 90)),(E P "leaves_of" 313 (R 97)),(E P "lay_word" 325 (R 104)),(E P "laid" 335 (R 111)),(E P "places_there" 341 (R 116)),(E P "parts_of" 348 (R 123)),(E P "places_in" 358 (R 130)),(E P "eithers_of" 364 (R 135)),(E P "boths_of" 372 (R 140)),(E P "part_edges" 378 (R 145)),(E P "joins_of" 385 (R 152)),(E P "join_steps" 396 (R 159)),(E P "can_fold" 402 (R 164)),(E P "fold_steps" 414 (R 171)),(E P "steps_by" 424 (R 178)),(E P "all_come_together" 434 (R 185)),(E P "right_web" 441 (R 192)),(E P "first_bad" 456 (R 199)),(E P "leaves_in" 467 (R 206)),(E P "first_uneven" 475 (R 213)),(E P "tries_due" 487 (R 220)),(E P "linked_further" 493 (R 225)),(E P "ways_to_link" 499 (R 230)),(E P "linked_or_tried" 510 (R 237)),(E P "searched" 517 (R 243)),(E P "_law_mix" 528 (R 250)),(E P "_law_name" 534 (R 255)),(E P "_law_joined" 550 (R 262)),(E P "_law_whole" 557 (R 269)),(E P "_law_lay" 567 (R 276)),(E P "_law_laid" 576 (R 283)),(E P "_law_pieces" 582 (R 288)),(E P "_law_bits" 592 (R 295)),(E P "_law_linked" 598 (R 300)),(E P "_law_leaves" 611 (R 307)),(E P "_law_due" 621 (R 314)),(E P "_law_tried" 627 (R 319)),(E P "_law_none" 639 (R 326)),(E P "law" 645 (R 331))] 54)
def xft:Ob:=fun _=>fX "_law_tried" 49 sN 318
def xfu:Ob:=fun _=>fX "law" 51 sN 330
def xfw:Ob:=fun _=>cF "_law_none" 628 281 3 320 637
def xf1:Ob:=fun _=>co "law" "law" 640 292 1 0 0 3 327 true 181 328 .none .none .none (R 329) 643
def xf2:Ob:=fun _=>fX "_law_none" 50 sN 325
def xf3:Ob:=fun _=>co "_law_tried" "_law_tried" 622 266 4 0 0 3 315 true 181 316 .none .none .none (R 317) 625
def alh:List Ob:=[b0,b1,b2,b3,b4,b5,b6,b7,b8,b9,b10,xw,a7,xac,xad]
def ak7:List Ob:=[b0,b1,b2,xfs,b4,b5,b6,b7,b8,b9,b10,xw,fun _=>O .none (.fields #[I 2 0,I 0 0,R 20,I 4 0,I 0 0,R 33,I 7 0,I 0 0,R 45,I 27 0,I 0 0,R 82,I 29 0,I 0 0,R 89,I 34 0,I 0 0,R 96,I 39 0,I 0 0,R 103,I 47 0,I 0 0,R 110,I 53 0,I 0 0,R 115,I 55 0,I 0 0,R 122,I 59 0,I 0 0,R 129,I 65 0,I 0 0,R 134,I 68 0,I 0 0,R 139,I 70 0,I 0 0,R 144,I 75 0,I 0 0,R 151,I 77 0,I 0 0,R 158,I 83 0,I 0 0,R 163,I 86 0,I 0 0,R 170,I 96 0,I 0 0,R 177,I 99 0,I 0 0,R 184,I 102 0,I 0 0,R 191,I 104 0,I 0 0,R 198,I 118 0,I 0 0,R 205,I 123 0,I 0 0,R 212,I 128 0,I 0 0,R 219,I 139 0,I 0 0,R 224,I 148 0,I 0 0,R 229,I 154 0,I 0 0,R 236,I 163 0,I 0 0,R 242,I 176 0,I 0 0,R 249,I 178 0,I 0 0,R 254,I 187 0,I 0 0,R 261,I 200 0,I 0 0,R 268,I 202 0,I 0 0,R 275,I 210 0,I 0 0,R 282,I 215 0,I 0 0,R 287,I 229 0,I 0 0,R 294,I 235 0,I 0 0,R 299,I 250 0,I 0 0,R 306,I 258 0,I 0 0,R 313,I 266 0,I 0 0,R 318,I 281 0,I 0 0,R 325,I 292 0,I 0 0,R 330]),xac,xad,fun _=>tu #[(.type "ValueError")],xal,fun P=>dB P 196 198 "OnceError" 197 200 2 199 201 22,xw,a7,fun _=>cC "OnceError" 191 2 18 194,fun _=>fR 20 17,xw,xag,xau,xaj,fun _=>sU 24,fun _=>bI 24,fun _=>tu #[R 24],xal,fun P=>dB P 214 216 "TooMany" 215 218 4 217 219 35,xw,a7,fun _=>cC "TooMany" 209 4 31 212,fun _=>fR 33 30,xw,xaw,xat,fun _=>sU 37,fun _=>bI 37,xw,xal,fun P=>O (.type "dict") (.dict #[(E P "__module__" 232 (S "oncewise.pieces" 223)),(E P "__qualname__" 234 (S "Pieces" 233)),(E P "__firstlineno__" 236 (I 7 235)),(E P "__init__" 244 (R 53)),(E P "head_of" 253 (R 60)),(E P "unite" 264 (R 67)),(E P "__static_attributes__" 266 (R 68))] 7),xw,fun _=>O .none (.fields #[I 9 0,I 4 0,R 52,I 12 0,I 4 0,R 59,I 19 0,I 4 0,R 66]),fun _=>cC "Pieces" 227 7 43 230,fun _=>⟨(.type "frame"),none,.plain,#[(some (R 45)),(some (R 3)),(some (R 42)),none,(some (S "oncewise.pieces" 223)),none,(some (R 0))]⟩,xw,a7,fun _=>tu #[S "self" 240,S "count" 241],xw,fun _=>go (FG "__init__" "Pieces.__init__" (uu 4 0)),xbi,xbc,xw,a7,fun _=>tu #[S "self" 248,S "place" 249,S "here" 250],xw,fun _=>go (FG "head_of" "Pieces.head_of" (uu 4 1)),xa7,xbl,xw,a7,fun _=>tu #[S "self" 257,S "p" 258,S "q" 259,S "first" 260,S "second" 261],xw,fun _=>go (FG "unite" "Pieces.unite" (uu 4 2)),xbm,xa4,fun _=>tu #[S "heads" 265],xbb,xbq,xa3,xbe,fun _=>sU 70,fun _=>bI 70,xa6,xbk,xw,a7,fun _=>tu #[S "word" 295],xw,fun _=>gX "is_leaf" 8,xcu,xb2,xw,a7,fun _=>tu #[S "word" 302,S "kind" 303],xw,fun _=>gX "turned" 9,xcc,xcx,xw,a7,fun _=>tu #[S "word" 310],xw,fun _=>gX "leaves_of" 10,xcj,xb9,xw,a7,fun _=>tu #[S "knots" 319,S "word" 320,S "left" 321,S "right" 322],xw,fun _=>gX "lay_word" 12,xbz,xcl,xw,a7,fun _=>tu #[S "words" 329,S "knots" 330,S "places" 331,S "word" 332],xw,fun _=>gX "laid" 13,xc3,xbx,xw,a7,fun _=>gX "places_there" 14,xb3,xcr,xw,a7,fun _=>tu #[S "knot" 345],xw,fun _=>gX "parts_of" 15,xcy,xb7,xw,a7,fun _=>tu #[S "pairs" 352,S "places" 353,S "p" 354,S "q" 355],xw,fun _=>gX "places_in" 16,xb8,xct,xw,a7,fun _=>gX "eithers_of" 17,xcz,xby,xw,a7,fun _=>gX "boths_of" 19,xb4,xcs,xw,a7,fun _=>gX "part_edges" 20,xck,xcb,xw,a7,fun _=>tu #[S "web" 382],xw,fun _=>gX "joins_of" 21,xb0,xcn,xw,a7,fun _=>tu #[S "pieces" 389,S "joins" 390,S "steps" 391,S "p" 392,S "q" 393],xw,fun _=>gX "join_steps" 22,xc4,xbu,xw,a7,fun _=>gX "can_fold" 23,xdd,xd0,xw,a7,fun _=>tu #[S "pieces" 406,S "knots" 407,S "eithers" 408,S "steps" 409,S "before" 410,S "place" 411],xw,fun _=>gX "fold_steps" 24,xea,xdf,xw,a7,fun _=>tu #[S "knots" 418,S "joins" 419,S "eithers" 420,S "pieces" 421],xw,fun _=>gX "steps_by" 25,xdk,xd8,xw,a7,fun _=>tu #[S "knots" 428,S "joins" 429,S "eithers" 430,S "due" 431],xw,fun _=>gX "all_come_together" 26,xdy,xdn,xw,a7,fun _=>tu #[S "web" 438],xw,fun _=>gX "right_web" 27,xc7,xdu,xw,a7,fun _=>tu #[S "web" 445,S "knots" 446,S "joins" 447,S "eithers" 448,S "choices" 449,S "number" 450,S "place" 451,S "left" 452,S "choice" 453],xw,fun _=>gX "first_bad" 28,xec,xc9,xw,a7,fun _=>tu #[S "words" 462,S "leaves" 463,S "word" 464],xw,fun _=>gX "leaves_in" 30,xds,xee,xw,a7,fun _=>tu #[S "leaves" 471,S "leaf" 472],xw,fun _=>gX "first_uneven" 31,xd2,xdq,xw,a7,fun _=>tu #[S "words" 479,S "leaves" 480,S "ways" 481,S "counts" 482,S "kind" 483,S "name" 484],xw,fun _=>gX "tries_due" 32,xdh,xd5,xw,a7,fun _=>gX "linked_further" 33,xdv,xdi,xw,a7,fun _=>gX "ways_to_link" 34,xdp,xed,xw,a7,fun _=>tu #[S "knots" 503,S "tried" 504,S "links" 505,S "web" 506,S "choices" 507],xw,fun _=>gX "linked_or_tried" 35,xd4,xdt,xfp,xw,a7,fun _=>gX "searched" 36,xfg,xeq,xw,a7,fun _=>tu #[S "_law_cell" 523,S "_law_k" 524,S "_law_factor" 525],xw,fun _=>gX "_law_mix" 38,xez,xfk,xw,a7,fun _=>gX "_law_name" 39,xfr,xei,xw,a7,fun _=>tu #[S "_law_leaves_here" 538,S "_law_cells" 539,S "_law_boths" 540,S "_law_eithers" 541,S "_law_words" 542,S "_law_more" 543,S "_law_other" 544,S "_law_number" 545,S "_law_kind" 546,S "_law_at" 547],xw,fun _=>gX "_law_joined" 40,xe0,xfl,xw,a7,fun _=>tu #[S "_law_found" 554],xw,fun _=>gX "_law_whole" 41,xfb,xe2,xw,a7,fun _=>tu #[S "_law_knots" 561,S "_law_word" 562,S "_law_left" 563,S "_law_right" 564],xw,fun _=>gX "_law_lay" 42,xeo,xfa,xw,a7,fun _=>tu #[S "_law_words" 571,S "_law_knots" 572,S "_law_word" 573],xw,fun _=>gX "_law_laid" 43,xfi,xet,xw,a7,fun _=>gX "_law_pieces" 44,xej,xe4,xw,a7,fun _=>tu #[S "_law_number" 586,S "_law_many" 587,S "_law_bits_here" 588,S "_law_k" 589],xw,fun _=>gX "_law_bits" 45,xfm,xel,xw,a7,fun _=>gX "_law_linked" 46,xes,xfc,xw,a7,fun _=>tu #[S "_law_cells" 602,S "_law_seed" 603,S "_law_total" 604,S "_law_leaves_here" 605,S "_law_k" 606,S "_law_number" 607,S "_law_name_here" 608],xw,fun _=>gX "_law_leaves" 47,xff,xep,xw,a7,fun _=>tu #[S "_law_leaves_here" 615,S "_law_due_here" 616,S "_law_seen" 617,S "_law_leaf" 618],xw,fun _=>gX "_law_due" 48,xey,xfj,xw,a7,fun _=>gX "_law_tried" 49,xf3,xft,xw,a7,fun _=>tu #[S "_law_knots" 631,S "_law_tried_here" 632,S "_law_due_here" 633,S "_law_ways" 634,S "_law_k" 635,S "_law_pair" 636],xw,fun _=>gX "_law_none" 50,xfw,xf2,xw,a7,fun _=>gX "law" 51,xf1,xfu]
def ang:List Ob:=[b0,b1,b2,b3,b4,b5,b6,b7,b8,b9,b10,xw,a7,xac,xad]
def an7:List Ob:=ak7
def hpA(P:Params):Heap:=⟨⟨alh.map (· P)⟩,{}⟩
def hpZ(P:Params):Heap:=⟨⟨ak7.map (· P)⟩,{}⟩
def tr0(P:Params):BT:=bt 20 (ang.map (· P))
def tr7(P:Params):BT:=bt 20 (an7.map (· P))
def sA(w:World)(os:OsState):Shared:=⟨hpA w.params,#[],{},187,os⟩
def sZ(w:World)(os:OsState):Shared:=⟨hpZ w.params,#[],{},646,os⟩
def st0(w:World)(os:OsState):SharedT:=⟨tr0 w.params,15,{},#[],{},187,os⟩
def st7(w:World)(os:OsState):SharedT:=⟨tr7 w.params,332,{},#[],{},646,os⟩
def yo:List Stmt:=((behindTheImports p).drop 0).take 52
theorem alg(w:World):(fun os=>topGo treeTable p w 11 an 12 ⟨boot_heap w.params,#[],boot_drawn,boot_toks,os⟩ (topStub p))=fun os=>some (sA w os,⟨denote treeTable cE,cE,⟨0,0,0,0⟩,[topFrame q0]⟩):=by kernel_rfl
theorem am4(w:World):(fun os=>segRun treeTable p w 11 an 1 1 (sA w os) (blockOf (behindTheImports p) env0 cE ⟨0,0,0,0⟩ [topFrame q0]))=fun os=>some (.next,(st0 w os).abs,cE,⟨0,0,0,0⟩):=by kernel_rfl
theorem ams(w:World):Pc 2042 st0 st7 yo ⟨0,0,0,0⟩ ⟨292,0,317,15⟩ (w.withFollow "special-get-raises" false):=by kernel_rfl
theorem amp(w:World):Pc 2042 st0 st7 yo ⟨0,0,0,0⟩ ⟨292,0,317,15⟩ (w.withFollow "special-get-raises" true):=by kernel_rfl
theorem pc1:∀w,Pc 2042 st0 st7 yo ⟨0,0,0,0⟩ ⟨292,0,317,15⟩ w:=byRow2 "special-get-raises" ams amp
theorem ace(w:World):(fun os=>topRun treeTable p w 11 an 2 (st7 w os).abs ⟨doneF .next,cE,⟨292,0,317,15⟩,[topFrame q0]⟩)=fun os=>some (sZ w os):=by kernel_rfl
theorem ajx:yo++([])=behindTheImports p:=by kernel_rfl
theorem ald(w:World)(os:OsState):topRun treeTable p w 11 an (12+(1+(2042+(2)))) ⟨boot_heap w.params,#[],boot_drawn,boot_toks,os⟩ (topStub p)=some (sZ w os):=by have h:=(piece_app (l:=yo) (rest:=[]) (segRun_of (Dc (pc1 w) os)) (piece_nil (env:=env0) (Dc (ace w) os)));rw[ajx] at h;exact go_top (Dc (alg w) os) (piece_block (Dc (am4 w) os) h)
def as0:List Nat:=[0,1,2,3,4,5,6,7,8,9,10,13,23,24,25,36,37,52,53,59,60,66,67,69,70,71,72,75,76,82,83,89,90,96,97,103,104,110,111,115,116,122,123,129,130,134,135,139,140,144,145,151,152,158,159,163,164,170,171,177,178,184,185,191,192,198,199,205,206,212,213,219,220,224,225,229,230,236,237,238,242,243,249,250,254,255,261,262,268,269,275,276,282,283,287,288,294,295,299,300,306,307,313,314,318,319,325,326,330,331]
def vw:Program:={ p with main:={ p.main with body:=[top 1,top 2,top 4,top 6,top 7,top 8,top 9,top 10,top 12,top 13,top 14,top 15,top 16,top 17,top 19,top 20,top 21,top 22,top 23,top 24,top 25,top 26,top 27,top 28,top 30,top 31,top 32,top 33,top 34,top 35,top 38,top 39,top 40,top 41,top 42,top 43,top 44,top 45,top 46,top 47,top 48,top 49,top 50,top 51] } }
def K0:Params->Frag:=fun P=>(nat_lit 0,b0 P)::(nat_lit 1,b1 P)::(nat_lit 2,b2 P)::(nat_lit 3,xfs P)::(nat_lit 4,b4 P)::(nat_lit 5,b5 P)::(nat_lit 6,b6 P)::(nat_lit 7,b7 P)::(nat_lit 8,b8 P)::(nat_lit 9,b9 P)::(nat_lit 10,b10 P)::(nat_lit 13,xac P)::(nat_lit 23,xag P)::(nat_lit 24,xau P)::(nat_lit 25,xaj P)::(nat_lit 36,xaw P)::(nat_lit 37,xat P)::(nat_lit 52,xbi P)::(nat_lit 53,xbc P)::(nat_lit 59,xa7 P)::(nat_lit 60,xbl P)::(nat_lit 66,xbm P)::(nat_lit 67,xa4 P)::(nat_lit 69,xbb P)::(nat_lit 70,xbq P)::(nat_lit 71,xa3 P)::(nat_lit 72,xbe P)::(nat_lit 75,xa6 P)::(nat_lit 76,xbk P)::(nat_lit 82,xcu P)::(nat_lit 83,xb2 P)::(nat_lit 89,xcc P)::(nat_lit 90,xcx P)::(nat_lit 96,xcj P)::(nat_lit 97,xb9 P)::(nat_lit 103,xbz P)::(nat_lit 104,xcl P)::(nat_lit 110,xc3 P)::(nat_lit 111,xbx P)::(nat_lit 115,xb3 P)::(nat_lit 116,xcr P)::(nat_lit 122,xcy P)::(nat_lit 123,xb7 P)::(nat_lit 129,xb8 P)::(nat_lit 130,xct P)::(nat_lit 134,xcz P)::(nat_lit 135,xby P)::(nat_lit 139,xb4 P)::(nat_lit 140,xcs P)::(nat_lit 144,xck P)::(nat_lit 145,xcb P)::(nat_lit 151,xb0 P)::(nat_lit 152,xcn P)::(nat_lit 158,xc4 P)::(nat_lit 159,xbu P)::(nat_lit 163,xdd P)::(nat_lit 164,xd0 P)::(nat_lit 170,xea P)::(nat_lit 171,xdf P)::(nat_lit 177,xdk P)::(nat_lit 178,xd8 P)::(nat_lit 184,xdy P)::(nat_lit 185,xdn P)::(nat_lit 191,xc7 P)::(nat_lit 192,xdu P)::(nat_lit 198,xec P)::(nat_lit 199,xc9 P)::(nat_lit 205,xds P)::(nat_lit 206,xee P)::(nat_lit 212,xd2 P)::(nat_lit 213,xdq P)::(nat_lit 219,xdh P)::(nat_lit 220,xd5 P)::(nat_lit 224,xdv P)::(nat_lit 225,xdi P)::(nat_lit 229,xdp P)::(nat_lit 230,xed P)::(nat_lit 236,xd4 P)::(nat_lit 237,xdt P)::(nat_lit 238,xfp P)::(nat_lit 242,xfg P)::(nat_lit 243,xeq P)::(nat_lit 249,xez P)::(nat_lit 250,xfk P)::(nat_lit 254,xfr P)::(nat_lit 255,xei P)::(nat_lit 261,xe0 P)::(nat_lit 262,xfl P)::(nat_lit 268,xfb P)::(nat_lit 269,xe2 P)::(nat_lit 275,xeo P)::(nat_lit 276,xfa P)::(nat_lit 282,xfi P)::(nat_lit 283,xet P)::(nat_lit 287,xej P)::(nat_lit 288,xe4 P)::(nat_lit 294,xfm P)::(nat_lit 295,xel P)::(nat_lit 299,xes P)::(nat_lit 300,xfc P)::(nat_lit 306,xff P)::(nat_lit 307,xep P)::(nat_lit 313,xey P)::(nat_lit 314,xfj P)::(nat_lit 318,xf3 P)::(nat_lit 319,xft P)::(nat_lit 325,xfw P)::(nat_lit 326,xf2 P)::(nat_lit 330,xf1 P)::(nat_lit 331,xfu P)::[]
abbrev ls:List Str:=[Str.ofString "TURNED_KINDS",Str.ofString "searched"]
abbrev Xt:Shared->Bool:=fun s=>xlAt vw [] s&&recOk (RowW.records rr.row.toRowW) s
theorem ajl(w:World):((boot_heap w.params).isNs mainGlobals&&(#[]:Array GenState).size==0,(boot_heap w.params).objs.size,(boot_heap w.params).nsMap mainGlobals "__annotations__")=(true,11,an):=by kernel_rfl
theorem ank:opening p=plainProg p.main.scope.names:=by kernel_rfl
theorem am3(s:Shared):fenceModules? p s=some s:=by kernel_rfl
theorem lk1(w:World):(fun os=>(staticsOk (importedModules p.main.body) (boot_heap w.params) (hpZ w.params)&&namesBound p (hpZ w.params)&&gensDone (sZ w os)&&laidKept (boot_heap w.params) (hpZ w.params)))=fun _=>true:=by kernel_rfl
theorem lk2(w:World):(fun os=>openSeen vw ls (importedModules p.main.body) Xt true (sZ w os))=fun _=>openGood vw ls:=by kernel_rfl
theorem lk3(w:World):(fun os=>obsZ as0 (sZ w os))=fun _=>valZ K0 332 646 w:=by kernel_rfl
theorem left_:LeftO p vw ls Xt (obsZ as0) (valZ K0 332 646) 4196:=LeftO.of_pieces (boot_open ank rfl am3) ajl ald rfl fun w=>funext fun os=>looks_pair (Dc (lk1 w) os) (looks_pair (Dc (lk2 w) os) (Dc (lk3 w) os))
end
end H73
open PySem PySem.W PyProof.Rows
set_option maxRecDepth 100000 in
set_option maxHeartbeats 0 in
theorem PySem.Challenge.cw_oncewise_k73_tries_holds : PySem.Challenge.rw_oncewise_k73_tries.Holds := by
 w_on;refine holds_law (by unfold OpenLaw.wellSaid OpenRow.wellSaid OpenRow.partSaid looksOpen;walk_at "y";walk_at "y";walk_at "y";walk_at "y";walk_at "y";walk_at "y";all_goals decide +kernel) fun said=>?_
 refine holds_openX (q:=H73.vw) (loose:=H73.ls) (Xt:=H73.Xt) (XP:=XL H73.vw []) (Yf:=PySem.W.X.obsZ H73.as0) (Ya:=PySem.W.X.valZ H73.K0 332 646) (N:=4196) H73.left_ (fun s e=>xl_of s (Bool.and_eq_true_iff.mp e).1)
  XL.keeps (by rfl) (by rfl) (by rfl) (fun s e=>recFacts_of (Bool.and_eq_true_iff.mp e).2)
  (by rfl) (by decide +kernel) (by decide +kernel) ⟨rfl,rfl,rfl,rfl,rfl,by decide +kernel⟩ ?hw ?hc
 case hw=>w_witness2
 k_fill
 refine L2.walk_ofZ (l:=PySem.Challenge.rw_oncewise_k73_tries) (n:=63) (k:=103) (x:="_law_script") (CX:=L2.CX0) (sp:=L3.spTop) rfl (by decide) rfl ⟨rfl,by decide,by decide⟩ (fun _=>rfl) (by decide) ?F ?S ?C
 case F=>
  intro w mg fa h KX G hmg;refine' K73.all_mk KX G hmg ?D0 ?D1 ?D2 ?D3 ?D4 ?D5 ?D6 ?D7 ?D8 ?D9 ?D10 ?D11 ?D12 ?D13 ?D14 ?D15 ?D16 ?D17 ?D18 ?D19 ?D20 ?D21 ?D22 ?D23 ?D24 ?D25 ?D26 ?D27 ?D28 ?D29 ?D30 ?D31 ?D32 ?D33 ?D34 ?D35 ?D36 ?D37 ?D38 ?D39 ?D40 ?D41 ?D42 ?aLEAF_KINDS ?lLEAF_KINDS ?aTURNED_KINDS ?lTURNED_KINDS ?hTURNED_KINDS ?aCPieces ?aCTooMany ?qCTooMany ?clPieces ?mAPieces ?mKPieces ?xf ?zlen ?zlist ?zrange ?zenumerate ?zmax ?zmin ?zsorted ?zisinstance ?zbool ?zint ?zset ?ztuple ?zsum
  (case aCPieces=>k_is)
  (case aCTooMany=>k_is)
  (case D0=>refine' L2.def_in ?a ?l ?c ?k;(case a=>k_is);(case l=>k_is);(case c=>k_is);(case k=>k_is))
  (case D1=>refine' L2.def_in ?a ?l ?c ?k;(case a=>k_is);(case l=>k_is);(case c=>k_is);(case k=>k_is))
  (case D2=>refine' L2.def_in ?a ?l ?c ?k;(case a=>k_is);(case l=>k_is);(case c=>k_is);(case k=>k_is))
  (case D3=>refine' L2.def_in ?a ?l ?c ?k;(case a=>k_is);(case l=>k_is);(case c=>k_is);(case k=>k_is))
  (case D4=>refine' L2.def_in ?a ?l ?c ?k;(case a=>k_is);(case l=>k_is);(case c=>k_is);(case k=>k_is))
  (case D5=>refine' L3.meth_in ?a ?l ?c ?k ?i;(case a=>k_is);(case l=>k_is);(case c=>k_is);(case k=>k_is);(case i=>k_is))
  (case D6=>refine' L3.meth_in ?a ?l ?c ?k ?i;(case a=>k_is);(case l=>k_is);(case c=>k_is);(case k=>k_is);(case i=>k_is))
  (case D7=>refine' L3.meth_in ?a ?l ?c ?k ?i;(case a=>k_is);(case l=>k_is);(case c=>k_is);(case k=>k_is);(case i=>k_is))
  (case D8=>refine' L2.def_in ?a ?l ?c ?k;(case a=>k_is);(case l=>k_is);(case c=>k_is);(case k=>k_is))
  (case D9=>refine' L2.def_in ?a ?l ?c ?k;(case a=>k_is);(case l=>k_is);(case c=>k_is);(case k=>k_is))
  (case D10=>refine' L2.def_in ?a ?l ?c ?k;(case a=>k_is);(case l=>k_is);(case c=>k_is);(case k=>k_is))
  (case D11=>refine' L2.def_in ?a ?l ?c ?k;(case a=>k_is);(case l=>k_is);(case c=>k_is);(case k=>k_is))
  (case D12=>refine' L2.def_in ?a ?l ?c ?k;(case a=>k_is);(case l=>k_is);(case c=>k_is);(case k=>k_is))
  (case D13=>refine' L2.def_in ?a ?l ?c ?k;(case a=>k_is);(case l=>k_is);(case c=>k_is);(case k=>k_is))
  (case D14=>refine' L2.def_in ?a ?l ?c ?k;(case a=>k_is);(case l=>k_is);(case c=>k_is);(case k=>k_is))
  (case D15=>refine' L2.def_in ?a ?l ?c ?k;(case a=>k_is);(case l=>k_is);(case c=>k_is);(case k=>k_is))
  (case D16=>refine' L2.def_in ?a ?l ?c ?k;(case a=>k_is);(case l=>k_is);(case c=>k_is);(case k=>k_is))
  (case D17=>refine' L2.def_in ?a ?l ?c ?k;(case a=>k_is);(case l=>k_is);(case c=>k_is);(case k=>k_is))
  (case D18=>refine' L2.def_in ?a ?l ?c ?k;(case a=>k_is);(case l=>k_is);(case c=>k_is);(case k=>k_is))
  (case D19=>refine' L2.def_in ?a ?l ?c ?k;(case a=>k_is);(case l=>k_is);(case c=>k_is);(case k=>k_is))
  (case D20=>refine' L2.def_in ?a ?l ?c ?k;(case a=>k_is);(case l=>k_is);(case c=>k_is);(case k=>k_is))
  (case D21=>refine' L2.def_in ?a ?l ?c ?k;(case a=>k_is);(case l=>k_is);(case c=>k_is);(case k=>k_is))
  (case D22=>refine' L2.def_in ?a ?l ?c ?k;(case a=>k_is);(case l=>k_is);(case c=>k_is);(case k=>k_is))
  (case D23=>refine' L2.def_in ?a ?l ?c ?k;(case a=>k_is);(case l=>k_is);(case c=>k_is);(case k=>k_is))
  (case D24=>refine' L2.def_in ?a ?l ?c ?k;(case a=>k_is);(case l=>k_is);(case c=>k_is);(case k=>k_is))
  (case D25=>refine' L2.def_in ?a ?l ?c ?k;(case a=>k_is);(case l=>k_is);(case c=>k_is);(case k=>k_is))
  (case D26=>refine' L2.def_in ?a ?l ?c ?k;(case a=>k_is);(case l=>k_is);(case c=>k_is);(case k=>k_is))
  (case D27=>refine' L2.def_in ?a ?l ?c ?k;(case a=>k_is);(case l=>k_is);(case c=>k_is);(case k=>k_is))
  (case D28=>refine' L3.def_inD ?a ?l ?t ?c ?k;(case a=>k_is);(case l=>k_is);(case t=>k_is);(case c=>k_is);(case k=>k_is))
  (case D29=>refine' L2.def_in ?a ?l ?c ?k;(case a=>k_is);(case l=>k_is);(case c=>k_is);(case k=>k_is))
  (case D30=>refine' L2.def_in ?a ?l ?c ?k;(case a=>k_is);(case l=>k_is);(case c=>k_is);(case k=>k_is))
  (case D31=>refine' L2.def_in ?a ?l ?c ?k;(case a=>k_is);(case l=>k_is);(case c=>k_is);(case k=>k_is))
  (case D32=>refine' L2.def_in ?a ?l ?c ?k;(case a=>k_is);(case l=>k_is);(case c=>k_is);(case k=>k_is))
  (case D33=>refine' L2.def_in ?a ?l ?c ?k;(case a=>k_is);(case l=>k_is);(case c=>k_is);(case k=>k_is))
  (case D34=>refine' L2.def_in ?a ?l ?c ?k;(case a=>k_is);(case l=>k_is);(case c=>k_is);(case k=>k_is))
  (case D35=>refine' L2.def_in ?a ?l ?c ?k;(case a=>k_is);(case l=>k_is);(case c=>k_is);(case k=>k_is))
  (case D36=>refine' L2.def_in ?a ?l ?c ?k;(case a=>k_is);(case l=>k_is);(case c=>k_is);(case k=>k_is))
  (case D37=>refine' L2.def_in ?a ?l ?c ?k;(case a=>k_is);(case l=>k_is);(case c=>k_is);(case k=>k_is))
  (case D38=>refine' L2.def_in ?a ?l ?c ?k;(case a=>k_is);(case l=>k_is);(case c=>k_is);(case k=>k_is))
  (case D39=>refine' L2.def_in ?a ?l ?c ?k;(case a=>k_is);(case l=>k_is);(case c=>k_is);(case k=>k_is))
  (case D40=>refine' L2.def_in ?a ?l ?c ?k;(case a=>k_is);(case l=>k_is);(case c=>k_is);(case k=>k_is))
  (case D41=>refine' L2.def_in ?a ?l ?c ?k;(case a=>k_is);(case l=>k_is);(case c=>k_is);(case k=>k_is))
  (case D42=>refine' L2.def_in ?a ?l ?c ?k;(case a=>k_is);(case l=>k_is);(case c=>k_is);(case k=>k_is))
  (case aLEAF_KINDS=>k_is)
  (case lLEAF_KINDS=>k_is)
  (case aTURNED_KINDS=>k_is)
  (case lTURNED_KINDS=>k_is)
  (case hTURNED_KINDS=>rfl)
  (case qCTooMany=>k_exc)
  (case clPieces=>refine' L2.Cls.mk ?pg ?hd ?po ?sa;(case pg=>k_is);(case hd=>k_is);(case po=>k_is);(case sa=>k_is))
  (case mAPieces=>k_is)
  (case mKPieces=>k_is)
  (case xf=>(refine' L3.XFP.mk ?cl ?na;(case cl=>(refine' L2.Cls.mk ?pg ?hd ?po ?sa;(case pg=>k_is);(case hd=>k_is);(case po=>k_is);(case sa=>k_is)));(case na=>(unfold L2.NoAttr;k_is))))
  (case zlen=>k_is)
  (case zlist=>k_is)
  (case zrange=>k_is)
  (case zenumerate=>k_is)
  (case zmax=>k_is)
  (case zmin=>k_is)
  (case zsorted=>k_is)
  (case zisinstance=>k_is)
  (case zbool=>k_is)
  (case zint=>k_is)
  (case zset=>k_is)
  (case ztuple=>k_is)
  (case zsum=>k_is)
 case S=>exact L3.top_start
 case C=>exact fun _ _ _ _ z=>z
#print axioms PySem.Challenge.cw_oncewise_k73_tries_holds
