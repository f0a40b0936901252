import PyProof.Rows.All
import Wide.All
import OpenK.AllK
import Wide.FinOn
import Lean
import PyProof.EqAt
import PyProof.EqKinds
import PyProof.TupleCall
import PyProof.NeKinds
import PySem.Challenge.RW_oncewise_k21_ends
import OpenK.ZGo
set_option genSizeOf false
set_option bootstrap.genMatcherCode false
set_option compiler.extract_closed false
set_option hygiene false
local macro_rules | `(tactic| walk_at "t")=>`(tactic| (first | assumption | exact Nat.succ_pos _ | exact z0.tk (by assumption) | exact Nat.lt_of_lt_of_le (z0.tk (by assumption)) (Nat.le_add_right _ _) | exact Nat.lt_of_lt_of_le (z0.tk (by assumption)) (by assumption)))
set_option hygiene true
local macro_rules | `(tactic| walk_at "w")=>`(tactic| conv=>whnf)
local macro_rules | `(tactic| walk_at "y")=>`(tactic| ((refine PySem.W.look_both ?_ ?_);(refine PySem.W.look_both ?_ ?_);(refine PySem.W.look_both ?_ ?_);(refine PySem.W.look_both ?_ ?_);(refine PySem.W.look_both ?_ ?_);(refine PySem.W.look_both ?_ ?_)))
set_option Elab.async false
set_option linter.all false
set_option maxRecDepth 100000
abbrev Aa:=@PySem.wpAny_bind
abbrev Ab:=@PyProof.Rows.wpS_bind
abbrev Ac:=@List.length_append
abbrev Ad:=@PyProof.Rows.wpS_pure
abbrev Ae:=@List.length_map
abbrev Af:=@List.mem_append_right
abbrev Ag:=@List.mem_cons_of_mem
abbrev Ah:=@PySem.W.Frag
abbrev Ai:=@PySem.wpAny_pure
abbrev Aj:=@List.getElem?_eq_getElem
abbrev Ak:=@List.mem_append
abbrev Al:=@Nat.le_refl
abbrev Am:=@List.size_toArray
abbrev An:=@List.mem_cons_self
abbrev Ao:=@List.mem_singleton
abbrev Ap:=@List.getElem?_map
abbrev Aq:=@List.nodup_append
abbrev Ar:=@List.getElem?_append_right
abbrev Au:=@List.mem_cons
abbrev Av:=@List.mem_append_left
abbrev Aw:=@Option.map_eq_some_iff
abbrev Ax:=@List.nodup_cons
abbrev Ay:=@if_neg
abbrev Az:=@decide_eq_false
abbrev AA:=@if_pos
abbrev AB:=@Bool.false_ne_true
abbrev AC:=@List.map_append
abbrev AD:=@List.append_assoc
abbrev AE:=@List.getElem?_append_left
abbrev AF:=@List.flatMap_append
abbrev AG:=@decide_eq_true
abbrev AH:=@PyProof.Rows.wpS_forRange
abbrev AI:=@List.mem_of_getElem?
abbrev AJ:=@List.length_cons
abbrev AK:=@Ne.symm
abbrev AL:=@Array.length_toList
abbrev AM:=@Nat.lt_of_lt_of_le
abbrev AN:=@List.length_take
abbrev AO:=@List.map_cons
abbrev AQ:=@List.pairwise_append
abbrev AR:=@List.perm_ext_iff_of_nodup
abbrev AS:=@PyProof.Rows.wpS_mono
abbrev AU:=@Nat.le_trans
abbrev AV:=@List.append_nil
abbrev AW:=@List.flatMap_cons
abbrev AX:=@List.mem_filter
abbrev AY:=@List.mem_map
abbrev AZ:=@List.take_of_length_le
abbrev A1:=@List.getElem?_eq_some_iff
abbrev A2:=@PySem.wpAny_mono
abbrev A3:=@List.getElem_of_mem
abbrev A4:=@Nat.le_add_right
abbrev A5:=@Array.getElem?_toList
abbrev A6:=@List.mem_flatMap
abbrev A7:=@Array.toList_append
abbrev A8:=@Bool.and_eq_true
abbrev A9:=@Nat.ne_of_lt
abbrev Ba:=@Option.some.inj
abbrev Bb:=@List.take_append_drop
abbrev Bc:=@List.mem_range
abbrev Bd:=@PySem.W.mg_none_of
abbrev Be:=@PySem.wpAny_field
abbrev Bf:=@Int.natCast_nonneg
abbrev Bg:=@PySem.wpAny_holding
abbrev Bh:=@List.take_succ
abbrev Bi:=@List.getD_eq_getElem?_getD
abbrev Bj:=@List.perm_append_right_iff
abbrev Bk:=@Array.size_push
abbrev Bl:=@List.getElem?_set_ne
abbrev Bm:=@Nat.zero_le
abbrev Bn:=@List.getElem_take
abbrev Bo:=@PySem.W.kia_one
abbrev Bp:=@List.find?_cons
abbrev Bq:=@PySem.wpAny_newObj_type
abbrev Br:=@List.length_drop
abbrev Bs:=@List.lookup_cons
abbrev Bt:=@List.take_length
abbrev Bu:=@List.perm_append_left_iff
abbrev Bv:=@PySem.wpAny_rule
abbrev Bw:=@List.not_mem_nil
abbrev Bx:=@PySem.mem_of_lookup
abbrev Bz:=@Nat.le_of_lt
abbrev BA:=@PySem.wpAny_seqItems
abbrev BB:=@List.mem_of_mem_take
abbrev BC:=@List.map_map
abbrev BD:=@Int.toNat_natCast
abbrev BE:=@List.perm_append_comm
abbrev BF:=@Bool.eq_iff_iff
abbrev BG:=@Int.le_trans
abbrev BH:=@Array.size_append
abbrev BI:=@Int.le_of_lt
abbrev BJ:=@List.drop_eq_getElem_cons
abbrev BK:=@List.getElem?_eq_none
abbrev BL:=@Nat.lt_succ_self
abbrev BM:=@congrArg
abbrev BN:=@List.Perm.refl
abbrev BO:=@List.length_range
abbrev BP:=@Nat.add_sub_cancel_left
abbrev BQ:=@List.getElem?_set_self
abbrev BR:=@PyProof.Rows.callWith_type1
abbrev BS:=@Nat.le_succ
abbrev BU:=@List.nodup_range
abbrev BV:=@Nat.lt_of_le_of_lt
abbrev BW:=@Bool.false_eq_true
abbrev BX:=@List.nodup_nil
abbrev BY:=@List.perm_append_singleton
abbrev BZ:=@List.append_of_mem
abbrev B1:=@List.pairwise_iff_getElem
abbrev B3:=@List.sublist_append_right
abbrev B4:=@List.length_set
abbrev B5:=@PySem.W.look_both
abbrev B6:=@Nat.le_succ_of_le
abbrev B7:=@List.getElem_drop
abbrev B8:=@Nat.lt_succ_of_lt
abbrev B9:=@List.any_cons
abbrev Ca:=@PyProof.Rows.slot_tuple_getitem
abbrev Cb:=@List.perm_iff_count
abbrev Cc:=@List.getElem?_replicate
abbrev Cd:=@List.eraseIdx_cons_succ
abbrev Ce:=@List.getElem_mem
abbrev Cf:=@List.take_append_of_le_length
abbrev Cg:=@List.getElem_cons_drop
abbrev Ci:=@List.nil_append
abbrev Cj:=@Nat.min_eq_left
abbrev Ck:=@PySem.W.mg_of
abbrev Cm:=@List.length_replicate
abbrev Cn:=@Option.isSome_map
abbrev Co:=@Array.toList_push
abbrev Cp:=@List.flatten_cons
abbrev Cq:=@List.pairwise_map
abbrev Cr:=@List.count_append
abbrev Cs:=@List.mem_of_mem_drop
abbrev Ct:=@Array.toList_reverse
abbrev Cu:=@Nat.le_sub_one_of_lt
abbrev Cv:=@Nat.succ_pos
abbrev Cw:=@List.all_eq_true
abbrev Cy:=@Nat.sub_self
abbrev Cz:=@List.perm_middle
abbrev CA:=@Int.zero_add
abbrev CB:=@List.reverse_append
abbrev CC:=@List.flatten_append
abbrev CD:=@List.mem_map_of_mem
abbrev CF:=@Int.ofNat_inj
abbrev CG:=@List.sublist_append_left
abbrev CH:=@List.forIn_cons
abbrev CI:=@Nat.le_add_left
abbrev CK:=@List.length_zip
abbrev CL:=@Array.size_extract
abbrev CM:=@List.filter_append
abbrev CN:=@List.getElem?_cons_succ
abbrev CO:=@List.length_eraseIdx_le
abbrev CP:=@Int.le_refl
abbrev CQ:=@List.eraseIdx_append_of_length_le
abbrev CS:=@Nat.ne_of_gt
abbrev CT:=@List.map_nil
abbrev CU:=@Bool.and_false
abbrev CV:=@List.drop_drop
abbrev CW:=@List.drop_left
abbrev CY:=@List.mem_range'_1
abbrev CZ:=@List.Sublist.refl
abbrev C0:=@List.flatMap_singleton
abbrev C1:=@List.eraseIdxIfInBounds_toArray
abbrev C2:=@List.length_singleton
abbrev C3:=@Nat.le_of_ble_eq_true
abbrev C4:=@List.singleton_append
abbrev C5:=@Nat.max_eq_right
abbrev C6:=@Int.mul_le_mul_of_nonneg_right
abbrev C7:=@List.filter_cons
abbrev C8:=@List.flatMap_nil
abbrev C9:=@Nat.lt_irrefl
abbrev Dc:=@List.drop_append_of_le_length
abbrev Dd:=@List.eq_nil_of_length_eq_zero
abbrev De:=@List.getElem?_of_mem
abbrev Df:=@List.of_mem_zip
abbrev Dg:=@Nat.max_eq_left
abbrev Dh:=@List.filter_nil
abbrev Di:=@List.filterMap_cons
abbrev Dj:=@List.toList_toArray
abbrev Dk:=@List.getElem?_range
abbrev Dl:=@Int.add_mul_emod_self_right
abbrev Dm:=@PyProof.Rows.LSm.kept_iter
abbrev Dn:=@Nat.lt_or_eq_of_le
abbrev Do:=@List.getElem?_take
abbrev Dp:=@List.getElem?_drop
abbrev Dq:=@List.zip_cons_cons
abbrev Dr:=@PySem.F.slot_dict_getitem
abbrev Ds:=@List.getElem?_zip_eq_some
abbrev Dt:=@PySem.W.kitx_list
abbrev Du:=@List.take_sublist
abbrev Dv:=@List.ext_getElem?
abbrev Dw:=@List.nodup_range'
abbrev Dx:=@Bool.not_eq_true'
abbrev Dy:=@List.getElem?_take_of_lt
abbrev Dz:=@List.all_cons
abbrev DA:=@List.getElem_append_left
abbrev DB:=@PySem.F.plainAttrs_list
abbrev DC:=@List.zipIdx_cons
abbrev DD:=@List.range'_succ
abbrev DE:=@List.getElem?_set_self'
abbrev DF:=@decide_eq_decide
abbrev DG:=@congrFun
abbrev DH:=@PySem.W.cellsFrom_some
abbrev DI:=@Nat.zero_add
abbrev DJ:=@Nat.lt_or_ge
abbrev DK:=@Int.ofNat_lt
abbrev DL:=@Bool.or_eq_true
abbrev DM:=@beq_false_of_ne
abbrev DN:=@List.range_succ
abbrev DO:=@Int.emod_nonneg
abbrev DP:=@List.forIn_nil
abbrev DQ:=@List.drop_zero
abbrev DR:=@List.take_zero
abbrev DS:=@Nat.add_assoc
abbrev DU:=@List.cons.inj
abbrev DV:=@Nat.sub_le
noncomputable section
namespace L2
open PySem PyProof.Rows
theorem gE{M:Model}{Γ:Ctx}{p:Pos}{t:Sem Fin}{fs:List Frame}{s s':Shared}{e:End}(h:Runs M Γ p t fs s e s'):s.toks≤s'.toks:=by induction h with|fresh _ ih=>exact AU (BS _) ih|call _ _ ih1 ih2=>exact AU ih1 ih2|resumeFresh _ _ _ _ ih1 ih2=>exact AU ih1 ih2|resumeSuspended _ _ _ _ ih1 ih2=>exact AU ih1 ih2|segRet _ _ ih1 ih2=>exact AU ih1 ih2|segGen _ _ ih1 ih2=>exact AU ih1 ih2|segSuspGen _ _ _ _ ih1 ih2=>exact AU ih1 ih2|_=>first | exact Al _ | assumption
theorem se{M:Model}{Γ:Ctx}{p:Pos}{g:Nat}{r:Resume}{s s':Shared}{res:GenResult}(h:Wakes M Γ p g r s res s'):s.toks≤s'.toks:=by
 unfold Wakes at h;split at h
 ·exact h.elim
 ·split at h
  ·obtain⟨e,s1,hr,_,_,rfl⟩:=h;have q:=gE hr;exact q
  ·obtain⟨_,rfl⟩:=h;exact Al _
  ·obtain⟨_,rfl⟩:=h;exact Al _
 ·obtain⟨e,s1,hr,_,_,rfl⟩:=h;have q:=gE hr;exact q
 ·obtain⟨_,rfl⟩:=h;exact Al _
 ·obtain⟨_,rfl⟩:=h;exact Al _
theorem ad3{α:Type}{M:Model}{Γ:Ctx}(t:Sem α):∀{Q:α->Pos->Shared->Prop} {E:Value->Pos->Shared->Prop} {p:Pos} {s:Shared} (n:Nat),n≤s.toks->Sem.wp M Γ t Q E p s->Sem.wp M Γ t (fun a p' s'=>Q a p' s'/\n≤s'.toks) (fun e p' s'=>E e p' s'/\n≤s'.toks) p s:=by induction t with|pure a=>intro Q E p s n hn h;exact⟨h,hn⟩|raise e=>intro Q E p s n hn h;exact⟨h,hn⟩|load a part k ih=>intro Q E p s n hn ⟨o,h1,h2⟩;exact⟨o,h1,ih o n hn h2⟩|update a part f k ih=>intro Q E p s n hn ⟨h1,h2⟩;exact⟨h1,ih () n hn h2⟩|fresh k ih=>intro Q E p s n hn h;exact ih s.toks n (AU hn (BS _)) h|choose src m k ih=>intro Q E p s n hn ⟨h1,h2⟩;exact⟨h1,ih _ n hn h2⟩|call c hd g l k ih=>intro Q E p s n hn ⟨r,s',h1,h2⟩;exact⟨r,s',h1,ih r n (AU hn (gE h1)) h2⟩|genState g k ih=>intro Q E p s n hn ⟨st,h1,h2⟩;exact⟨st,h1,ih _ n hn h2⟩|resume g r l k ih=>intro Q E p s n hn ⟨res,s',h1,h2⟩;exact⟨res,s',h1,ih _ n (AU hn (se h1)) h2⟩|rule tag k ih=>intro Q E p s n hn h;exact ih () n hn h|«at» pos k ih=>intro Q E p s n hn h;exact ih () n hn h|alloc o k ih=>intro Q E p s n hn h;exact ih _ n hn h|loadIfAlive a k ih=>intro Q E p s n hn h;exact ih _ n hn h|point l k ih=>intro Q E p s n hn h;exact ih _ n hn h|ask k ih=>intro Q E p s n hn h;exact ih _ n hn h|os q l k ih=>intro Q E p s n hn h;exact ih _ n hn h|handled own k ih=>intro Q E p s n hn h;exact ih _ n hn h|newGen c k ih=>intro Q E p s n hn h;exact ih _ n hn h|stack k ih=>intro Q E p s n hn h;exact ih _ n hn h|thread k ih=>intro Q E p s n hn h;exact ih _ n hn h|unsupported w=>intro Q E p s n hn h;exact h.elim|finish e=>intro Q E p s n hn h;exact h.elim|register a k ih=>intro Q E p s n hn h;exact h.elim|yield v g l k ih=>intro Q E p s n hn h;exact h.elim|fork c k ih=>intro Q E p s n hn h;exact h.elim|await a f d l k ih=>intro Q E p s n hn h;exact h.elim
theorem tF{α:Type}{M:Model}{A:Around}{t:Sem α}{Q:α->Shared->Prop}{E:Value->Shared->Prop}{s:Shared}(h:wpAny M A t Q E s):wpAny M A t (fun a s'=>Q a s'/\s.toks≤s'.toks) (fun e s'=>E e s'/\s.toks≤s'.toks) s:=
 fun Γ p hΓ=>ad3 t s.toks (Al _) (h Γ p hΓ)
theorem jm{α:Type}{M:Model}{A:Around}{t:Sem α}{Q:α->Shared->Prop}{E:Value->Shared->Prop}{s:Shared}(hp:0<s.toks)(h:wpAny M A t (fun a s'=>0<s'.toks->Q a s') (fun e s'=>0<s'.toks->E e s') s):wpAny M A t Q E s:=
 A2 (tF h) (fun _ _ z=>z.1 (AM hp z.2)) fun _ _ z=>z.1 (AM hp z.2)
end L2
variable {M:PySem.Model}{apos cpos kpos p p1 p2 p3 p4 p5 pos pos' tp:PySem.Pos}{t t1 t2:Bool}{s s':PySem.Shared}{c e elt o target tg value:PySem.Expr}{α β κ:Type}{A:PySem.Around}{E Q:PySem.Value->PySem.Shared->Prop}{its us vs:List PySem.Value}{cdv doc oc pm u:PySem.Value}{base h h':PySem.Heap}{d i j m n na t' x1:Nat}{ch fp:List PySem.Addr}{C Pt dx f fa it ka l l1 l2 pa:PySem.Addr}{kx name px q qual x:PySem.Str}{pins:List (PySem.Addr×PySem.Obj)}{st:PySem.Stmt}{elts es ifs:List PySem.Expr}{body:List PySem.Stmt}{B lo:Int}{F tk:List Nat}{mA mg:PySem.Str->Option PySem.Value}{fd:PySem.FuncData}{ps:List PySem.Str}{lscope scope:PySem.Scope}{ct:List (Nat×Nat)}{an od:Option PySem.Addr}{osl:Array (Option PySem.Value)}{prog:PySem.Program}{env:PySem.Env}{rks:List Int}
namespace L2
open PySem PySem.Spec PyProof.Rows
abbrev zq:=Sum Int Str
def kE:zq->Value->Bool
 |.inl k,v=>Value.isInt k v
 |.inr x,v=>Value.isStrOf x v
def aoj(w:World):zq->Int
 |.inl k=>hashInt k
 |.inr x=>hashStr w x
theorem xg:∀{k:zq} {v:Value},kE k v=true->(∃i t,k=Sum.inl i/\v=Value.int i t)\/(∃x t,k=Sum.inr x/\v=Value.str x t)
 |.inl i,v,h=>by obtain⟨t,e⟩:=Value.isInt_shape (k:=i) (v:=v) h;exact .inl ⟨i,t,rfl,e⟩
 |.inr x,v,h=>by obtain⟨t,e⟩:=Value.isStrOf_shape (x:=x) (v:=v) h;exact .inr ⟨x,t,rfl,e⟩
theorem vL(i:Int)(t:Tok):kE (.inl i) (.int i t)=true:=by simp[kE,Value.isInt]
theorem bG(x:Str)(t:Tok):kE (.inr x) (.str x t)=true:=by simp[kE,Value.isStrOf]
theorem aha(a b:Int):decide ((Sum.inl a:zq)=Sum.inl b)=(a==b):=by
 by_cases e:a=b
 ·subst e;simp
 ·have h:¬(Sum.inl a:zq)=Sum.inl b:=fun q=>e (Sum.inl.inj q);rw[Az h];exact(beq_eq_false_iff_ne.mpr e).symm
theorem ags(a b:Str):decide ((Sum.inr a:zq)=Sum.inr b)=decide (a=b):=by
 by_cases e:a=b
 ·subst e;simp
 ·have h:¬(Sum.inr a:zq)=Sum.inr b:=fun q=>e (Sum.inr.inj q);rw[Az h,Az e]
theorem agb(a:Int)(b:Str):decide ((Sum.inl a:zq)=Sum.inr b)=false:=Az (fun q=>nomatch q)
theorem aj6(a:Str)(b:Int):decide ((Sum.inr a:zq)=Sum.inl b)=false:=Az (fun q=>nomatch q)
def x8(prog:Program)(w:World):PySem.KeyKind prog w zq where
 is:=kE
 hash:=aoj w
 inj:=fun v a b ha hb=>by
  rcases xg ha with⟨i,t,rfl,rfl⟩ | ⟨x,t,rfl,rfl⟩
  ·rcases xg hb with⟨j,u,rfl,e⟩ | ⟨y,u,rfl,e⟩
   ·injection e with e1 _;rw[e1]
   ·exact nomatch e
  ·rcases xg hb with⟨j,u,rfl,e⟩ | ⟨y,u,rfl,e⟩
   ·exact nomatch e
   ·injection e with e1 _;rw[e1]
 byValue:=fun k v h=>by rcases xg h with⟨i,t,rfl,rfl⟩ | ⟨x,t,rfl,rfl⟩<;>rfl
 pyHash:=fun hv h=>by
  rcases xg hv with⟨i,t,rfl,rfl⟩ | ⟨x,t,rfl,rfl⟩
  ·exact wpAny_pyHash_int h
  ·exact wpAny_pyHash_str h
 eqBool:=fun hu hv h=>by
  rcases xg hu with⟨i,t,rfl,rfl⟩ | ⟨x,t,rfl,rfl⟩
  ·rcases xg hv with⟨j,u,rfl,rfl⟩ | ⟨y,u,rfl,rfl⟩
   ·rw[aha] at h;exact wpAny_eqBool_int h
   ·rw[agb] at h;exact SeqAt.EqAt.int_str i t y u _ _ _ _ h
  ·rcases xg hv with⟨j,u,rfl,rfl⟩ | ⟨y,u,rfl,rfl⟩
   ·rw[aj6] at h;exact SeqAt.EqAt.str_int x t j u _ _ _ _ h
   ·rw[ags] at h;exact wpAny_eqBool_str h
 «strs» := fun k x t v h=>by
  rcases xg h with⟨i,u,rfl,e⟩ | ⟨y,u,rfl,e⟩
  ·exact nomatch e
  ·injection e with e1 _
   subst e1;cases v<;>rfl
theorem pZ(prog:Program)(w:World)(i:Int)(t:Tok):(x8 prog w).is (.inl i) (.int i t)=true:=vL i t
theorem rc(prog:Program)(w:World)(x:Str)(t:Tok):(x8 prog w).is (.inr x) (.str x t)=true:=bG x t
inductive V where
 |non | bl (b:Bool) | int (i:Int) | str (x:Str) | byt (b:Array UInt8) | flt (b:UInt64) | ref (a:Addr) | ty (n:String)
 deriving DecidableEq
def zf:V->Value->Prop
 |.non,u=>u=Value.none
 |.bl b,u=>u=Value.bool b
 |.int i,u=>∃t,u=Value.int i t
 |.str x,u=>∃t,u=Value.str x t
 |.byt b,u=>∃t,u=Value.bytes b t
 |.flt b,u=>∃t,u=Value.float b t
 |.ref a,u=>u=Value.ref a
 |.ty n,u=>u=Value.type n
abbrev ze:List V->List Value->Prop:=Paired zf
theorem ze.length{xs:List V}(r:ze xs us):xs.length=us.length:=Paired.length r
theorem ze.get:∀{xs:List V} {us:List Value} {i:Nat} {x:V},ze xs us->xs[i]?=some x->∃u,us[i]?=some u/\zf x u
 |_,_,_,_,.nil,e=>by simp at e
 |_,_,0,_,.cons r _,e=>by simp at e;subst e;exact⟨_,rfl,r⟩
 |_,_,i+1,x,.cons _ t,e=>by obtain⟨u,h1,h2⟩:=ze.get (i:=i) (x:=x) t (by simpa using e);exact⟨u,by simpa using h1,h2⟩
theorem ze.set{x:V}{u:Value}(r:zf x u):∀{xs:List V} {us:List Value} (i:Nat),ze xs us->ze (xs.set i x) (us.set i u)
 |_,_,_,.nil=>.nil
 |_,_,0,.cons _ t=>.cons r t
 |_,_,i+1,.cons q t=>.cons q (ze.set r i t)
theorem ze.append:∀{xs ys:List V} {us ws:List Value},ze xs us->ze ys ws->ze (xs++ys) (us++ws)
 |_,_,_,_,.nil,s=>s
 |_,_,_,_,.cons r t,s=>.cons r (ze.append t s)
theorem ze.take:∀{xs:List V} {us:List Value} (n:Nat),ze xs us->ze (xs.take n) (us.take n)
 |_,_,0,_=>.nil
 |_,_,_+1,.nil=>.nil
 |_,_,n+1,.cons r t=>.cons r (ze.take n t)
theorem ze.drop:∀{xs:List V} {us:List Value} (n:Nat),ze xs us->ze (xs.drop n) (us.drop n)
 |_,_,0,r=>r
 |_,_,_+1,.nil=>.nil
 |_,_,n+1,.cons _ t=>ze.drop n t
def g9:Option V->Option Value->Prop
 |some v,some u=>zf v u
 |none,none=>True
 |_,_=>False
def KV :List (κ×V)->List (κ×Value)->Prop:=Paired fun(p:κ×V) (q:κ×Value)=>p.1=q.1/\zf p.2 q.2
def kV:zq->V
 |.inl i=>.int i
 |.inr x=>.str x
inductive HO where
 |lst (xs:List V)
 |tup (xs:List V)
 |dK (kvs:List (zq×V)) | dT (kvs:List (List zq×V))
 |set (S:Int->Bool) (n:Nat)
 |ins (C dx:Addr) (fs:List (Str×V))
 |own (x:Addr)
 |xd (fs:List (Str×V))
 |met (f x:Addr)
 |rng (lo hi:Int)
 |frz (o:Obj) (u:HO)
 |tbl (ps:Array Value)
 |ext (φ:Heap->Prop)
abbrev Hp:=Addr->Option HO
def upd(H:Hp)(a:Addr)(o:HO):Hp:=fun b=>if b=a then some o else H b
theorem zv{H:Hp}{a:Addr}{o:HO}:upd H a o a=some o:=by unfold upd;rw[AA rfl]
theorem qu{H:Hp}{a b:Addr}{o:HO}(h:b≠a):upd H a o b=H b:=by unfold upd;rw[Ay h]
theorem adp{H:Hp}{a:Addr}{o u:HO}:upd (upd H a o) a u=upd H a u:=by funext b;unfold upd;split<;>rfl
theorem al5{H:Hp}{a b:Addr}{o u:HO}(h:H a=some o)(h':H b=some u)(d:o≠u):a≠b:=by intro e;subst e;rw[h] at h';exact d (Ba h')
theorem zp{H:Hp}{a b:Addr}{o:HO}(h:H a=some o)(h':H b=none):a≠b:=by intro e;subst e;rw[h] at h';cases h'
section
variable (P:Program)(w:World)
def xa(H:Hp)(h:Heap)(a:Addr):HO->Prop
 |.lst xs=>xs.length≤sizeLine/\∃(its:List Value) (n:Nat),ze xs its/\h.get? a=some { cls:=.type "list",data:=.seq its.toArray n }
 |.tup xs=>xs.length≤sizeLine/\∃its:List Value,ze xs its/\IsTup h a its.toArray
 |.dK kvs=>kvs.length≤sizeLine/\(a==sysModules)=false/\∃vs,KV kvs vs/\h.DictOf (x8 P w) a vs
 |.dT kvs=>kvs.length≤sizeLine/\(a==sysModules)=false/\∃xs:List (List zq×Addr×Value),
  Paired (fun(p:List zq×V) (q:List zq×Addr×Value)=>p.1=q.1/\H q.2.1=some (.tup (p.1.map kV))/\zf p.2 q.2.2) kvs xs/\
  ∃o es ep,h.get? a=some o/\o.ExactDict/\o.data=.dict es ep/\es.toList=xs.map (entryOfKey (tupleKind (x8 P w)))/\(xs.map (·.1)).Nodup
 |.set S n=>h.SetOf (intKind P w) a S n
 |.ins C dx fs=>H dx=some (.own a)/\fs.length≤1000/\dx≠a/\h.get? a=some (PySem.W.instObj C dx)/\
  ∃mA,h.Ns1 dx mA/\(∀f,g9 (fs.lookup f) (mA f))/\PySem.Within mA (fs.map (·.1))
 |.own _=>∃o,h.get? a=some o
 |.xd fs=>∃mA,h.Ns1 a mA/\∀f,g9 (fs.lookup f) (mA f)
 |.rng lo hi=>∃t u v,h.get? a=some { cls:=.type "range",data:=.fields #[.int lo t,.int hi u,.int 1 v] }
 |.frz o u=>h.get? a=some o/\xa H h a u
 |.tbl ps=>h.get? a=some { cls:=.none,data:=.fields ps }
 |.met f x=>h.get? a=some (PySem.W.methodObj (.ref f) (.ref x))
 |.ext φ=>φ h/\(∃o,h.get? a=some o)/\∀h1 h2:Heap,φ h1->(∀o,h1.get? a=some o->h2.get? a=some o)->φ h2
def dq(H:Hp)(h:Heap):Prop:=∀a o,H a=some o->xa P w H h a o
end
section
variable {P:Program}{w:World}{H H':Hp}{a:Addr}{o:HO}
theorem xa.lt(x:xa P w H h a o):a<h.objs.size:=by
 cases o with
 |lst xs=>obtain⟨_,_,_,_,e⟩:=x;exact Heap.lt_size e
 |tup xs=>obtain⟨_,_,_,p⟩:=x;exact p.lt
 |dK kvs=>obtain⟨_,_,_,_,o,_,_,e,_⟩:=x;exact Heap.lt_size e
 |dT kvs=>obtain⟨_,_,_,_,o,_,_,e,_⟩:=x;exact Heap.lt_size e
 |set S n=>obtain⟨o,_,_,_,e,_⟩:=x;exact Heap.lt_size e
 |ins C dx fs=>obtain⟨_,_,_,e,_⟩:=x;exact Heap.lt_size e
 |own y=>obtain⟨_,e⟩:=x;exact Heap.lt_size e
 |xd fs=>obtain⟨_,⟨_,_,_,e,_⟩,_⟩:=x;exact Heap.lt_size e
 |rng lo hi=>obtain⟨_,_,_,e⟩:=x;exact Heap.lt_size e
 |frz ob u=>obtain⟨e,_⟩:=x;exact Heap.lt_size e
 |tbl ps=>exact Heap.lt_size (show h.get? a=some _ from x)
 |met f y=>exact Heap.lt_size (show h.get? a=some _ from x)
 |ext φ=>obtain⟨_,⟨_,e⟩,_⟩:=x;exact Heap.lt_size e
theorem Paired.mapP{α β:Type}{F G:α->β->Prop}:∀{l₁:List α} {l₂:List β},Paired F l₁ l₂->(∀a b,F a b->G a b)->Paired G l₁ l₂
 |_,_,.nil,_=>.nil
 |_,_,.cons r t,f=>.cons (f _ _ r) (Paired.mapP t f)
abbrev EE:=@Paired.mapP
theorem xa.stay(x:xa P w H h a o)(k:∀b u,(b=a\/H b=some (.own a))->h.get? b=some u->h'.get? b=some u)
 (ho:∀b,H b=some (.own a)->H' b=some (.own a)) (ht:∀b xs,H b=some (.tup xs)->H' b=some (.tup xs)):xa P w H' h' a o:=by
 induction o with
 |lst xs=>obtain⟨z,its,n,r,e⟩:=x;exact⟨z,its,n,r,k _ _ (.inl rfl) e⟩
 |tup xs=>obtain⟨z,its,r,ob,e,c⟩:=x;exact⟨z,its,r,ob,k _ _ (.inl rfl) e,c⟩
 |dK kvs=>obtain⟨z,y,vs,r,ob,es,ep,e,c⟩:=x;exact⟨z,y,vs,r,ob,es,ep,k _ _ (.inl rfl) e,c⟩
 |dT kvs=>
  obtain⟨z,y,xs,r,ob,es,ep,e,c⟩:=x;exact⟨z,y,xs,EE r fun p q z=>⟨z.1,ht _ _ z.2.1,z.2.2⟩,ob,es,ep,k _ _ (.inl rfl) e,c⟩
 |set S n=>obtain⟨ob,es,ep,t,e,c⟩:=x;exact⟨ob,es,ep,t,k _ _ (.inl rfl) e,c⟩
 |ins C dx fs=>
  obtain⟨d,z,ne,e,mA,⟨od,es,ep,e2,c⟩,r⟩:=x;exact⟨ho _ d,z,ne,k _ _ (.inl rfl) e,mA,⟨od,es,ep,k _ _ (.inr d) e2,c⟩,r⟩
 |own y=>obtain⟨ob,e⟩:=x;exact⟨ob,k _ _ (.inl rfl) e⟩
 |xd fs=>obtain⟨mA,⟨od,es,ep,e,c⟩,r⟩:=x;exact⟨mA,⟨od,es,ep,k _ _ (.inl rfl) e,c⟩,r⟩
 |rng lo hi=>obtain⟨t,u,v,e⟩:=x;exact⟨t,u,v,k _ _ (.inl rfl) e⟩
 |frz ob u ih=>obtain⟨e,q⟩:=x;exact⟨k _ _ (.inl rfl) e,ih q⟩
 |tbl ps=>
  have e:h.get? a=some { cls:=.none,data:=.fields ps }:=x;show h'.get? a=some { cls:=.none,data:=.fields ps };exact k a _ (.inl rfl) e
 |met f y=>
  have e:h.get? a=some (PySem.W.methodObj (.ref f) (.ref y)):=x;show h'.get? a=some (PySem.W.methodObj (.ref f) (.ref y));exact k a _ (.inl rfl) e
 |ext φ=>obtain⟨p,⟨o,e⟩,st⟩:=x;exact⟨st _ _ p fun o q=>k _ _ (.inl rfl) q,⟨o,k _ _ (.inl rfl) e⟩,st⟩
theorem dq.lt(x:dq P w H h)(e:H a=some o):a<h.objs.size:=(x a o e).lt
theorem dq.fresh(x:dq P w H h)(e:h.objs.size≤a):H a=none:=by cases q:H a with|none=>rfl|some u=>exact absurd (AM (x.lt q) e) (C9 _)
theorem dq.kept(x:dq P w H h)(k:∀b u,h.get? b=some u->h'.get? b=some u):dq P w H h':=fun a o e=>
 (x a o e).stay (fun b u _ q=>k b u q) (fun _ q=>q) fun _ _ q=>q
theorem dq.laid(x:dq P w H h)(k:∀b u,h.get? b=some u->h'.get? b=some u)(hp:h.objs.size≤a)(new:xa P w (upd H a o) h' a o):dq P w (upd H a o) h':=fun b u e=>by
 have hn:=x.fresh hp;by_cases hb:b=a
 ·subst hb;rw[zv] at e;cases e;exact new
 ·rw[qu hb] at e;exact(x b u e).stay (fun c v _ q=>k c v q) (fun c q=>by rw[qu (zp q hn)];exact q) fun c xs q=>by rw[qu (zp q hn)];exact q
end
def Rd(H:Hp)(a:Addr)(u:HO):Prop:=H a=some u\/∃o,H a=some (.frz o u)
theorem Rd.ok{P:Program}{w:World}{H:Hp}{a:Addr}{u:HO}(r:Rd H a u)(x:dq P w H h):xa P w H h a u:=by
 rcases r with r | ⟨o,r⟩
 ·exact x a u r
 ·obtain⟨_,q⟩:=x a _ r;exact q
def Mut:Option HO->Prop
 |some (.lst _)=>True
 |some (.dK _)=>True
 |some (.dT _)=>True
 |some (.set _ _)=>True
 |some (.ins _ _ _)=>True
 |some (.ext _)=>True
 |_=>False
section
variable {P:Program}{w:World}{H:Hp}{x e:Addr}{o':HO}
theorem dq.write(ok:dq P w H h)(mu:Mut (H x))(he:e=x\/H e=some (.own x))(k:∀b u,b≠e->h.get? b=some u->h'.get? b=some u)(heo:∃u,h'.get? e=some u)
 (new:xa P w (upd H x o') h' x o'):dq P w (upd H x o') h':=fun b u q=>by
 have nown:∀c y,H c=some (.own y)->c≠x:=fun c y r z=>by subst z;rw[r] at mu;exact mu
 have ntup:∀c xs,H c=some (.tup xs)->c≠x:=fun c xs r z=>by subst z;rw[r] at mu;exact mu
 by_cases hb:b=x
 ·subst hb;rw[zv] at q;cases q;exact new
 ·rw[qu hb] at q;by_cases hbe:b=e
  ·have q':H b=some (.own x):=by
    rcases he with z | z
    ·exact absurd (hbe.trans z) hb
    ·rw[hbe];exact z
   rw[q] at q';cases q';obtain⟨v,hv⟩:=heo;exact⟨v,by rw[hbe];exact hv⟩
  ·refine(ok b u q).stay (fun c v hc r=>k c v ?_ r) (fun c r=>by rw[qu (nown c b r)];exact r) fun c xs r=>by rw[qu (ntup c xs r)];exact r
   rcases hc with rfl | hc
   ·exact hbe
   ·rintro rfl;rcases he with z | z
    ·exact nown c b hc z
    ·rw[hc] at z;cases z;exact hb rfl
end
structure Un(fs ex:List Addr)(H H':Hp)(h h':Heap):Prop where
 keep:∀b o,h.get? b=some o->H b=none->b∉fs->b∉ex->h'.get? b=some o
 slot:∀b o,h.get? b=some o->H b=none->b∈fs->b∉ex->∃sl,h'.get? b=some { o with slots:=sl }
 free:∀b o,h.get? b=some o->H b=none->b∉ex->H' b=none
 there:∀b o,h.get? b=some o->b∉ex->∃o',h'.get? b=some o'
 tups:∀b xs,H b=some (.tup xs)->H' b=some (.tup xs)
 frzs:∀b o u,H b=some (.frz o u)->H' b=some (.frz o u)
 tbls:∀b ps,H b=some (.tbl ps)->∃more,H' b=some (.tbl (ps++more))
section
variable {fs fs' ex ex':List Addr}{H H1 H2:Hp}{h1 h2:Heap}{a x e:Addr}{o:HO}
theorem Un.any(u:Un fs ex H H1 h h1){b:Addr}{ob:Obj}(q:h.get? b=some ob)(n:H b=none)(hx:b∉ex):∃sl,h1.get? b=some { ob with slots:=sl }:=by
 by_cases hb:b∈fs
 ·exact u.slot b ob q n hb hx
 ·exact⟨ob.slots,u.keep b ob q n hb hx⟩
theorem Un.kept(k:∀b u,h.get? b=some u->h'.get? b=some u):Un fs ex H H h h':=
 ⟨fun b ob q _ _ _=>k b ob q,fun b ob q _ _ _=>⟨ob.slots,k b ob q⟩,fun _ _ _ n _=>n,fun b ob q _=>⟨ob,k b ob q⟩,fun _ _ q=>q,fun _ _ _ q=>q,fun _ ps q=>⟨#[],by rw[q];simp⟩⟩
theorem Un.refl:Un fs ex H H h h:=Un.kept fun _ _ q=>q
theorem Un.laid(k:∀b u,h.get? b=some u->h'.get? b=some u)(hp:h.objs.size≤a)(hn:H a=none):Un fs ex H (upd H a o) h h' where
 keep:=fun b u q _ _ _=>k b u q
 slot:=fun b u q _ _ _=>⟨u.slots,k b u q⟩
 free:=fun b u q n _=>by rw[qu (A9 (AM (Heap.lt_size q) hp))];exact n
 there:=fun b u q _=>⟨u,k b u q⟩
 tups:=fun b xs q=>by rw[qu (zp q hn)];exact q
 frzs:=fun b u xs q=>by rw[qu (zp q hn)];exact q
 tbls:=fun b ps q=>⟨#[],by rw[qu (zp q hn),q];simp⟩
theorem Un.write(mu:Mut (H x))(he:e=x\/H e=some (.own x))(k:∀b u,b≠e->h.get? b=some u->h'.get? b=some u)(heo:∃u,h'.get? e=some u):Un fs ex H (upd H x o) h h':=by
 have hx:∀b,H b=none->b≠x:=fun b n z=>by subst z;rw[n] at mu;exact mu
 have hb:∀b,H b=none->b≠e:=fun b n z=>by
  subst z;rcases he with r | r
  ·exact hx b n r
  ·rw[n] at r;cases r
 have hm:∀b u,H b=some u->¬Mut (some u)->b≠x:=fun b u q nm z=>by subst z;rw[q] at mu;exact nm mu
 refine⟨fun b u q n _ _=>k b u (hb b n) q,fun b u q n _ _=>⟨u.slots,k b u (hb b n) q⟩,fun b u q n _=>by rw[qu (hx b n)];exact n,fun b u q _=>?_,
  fun b xs q=>by rw[qu (hm b _ q fun z=>z)];exact q,fun b u xs q=>by rw[qu (hm b _ q fun z=>z)];exact q,fun b ps q=>⟨#[],by rw[qu (hm b _ q fun z=>z),q];simp⟩⟩
 by_cases hbe:b=e
 ·subst hbe;exact heo
 ·exact⟨u,k b u hbe q⟩
end
def trk(h:Heap)(H:Hp):List Addr:=(List.range h.objs.size).filter fun a=>(H a).isSome
def oT(h:Heap)(H:Hp):Heap:=PySem.W.hideAll h (trk h H)
theorem yK(h:Heap)(H:Hp):(oT h H).objs.size=h.objs.size:=PySem.W.hideAll_size _ _
theorem zU{H:Hp}{b:Addr}{o:Obj}(e:h.get? b=some o)(n:H b=none):(oT h H).get? b=some o:=
 PySem.W.hideAll_get _ e fun hm=>by have q:(H b).isSome=true:=(AX.mp hm).2;rw[n] at q;simp at q
theorem aes{H:Hp}{b:Addr}{o:Obj}(e:(oT h H).get? b=some o):h.get? b=some o/\H b=none:=by
 have e':h.get? b=some o:=PySem.W.of_hideAll (trk h H) e;refine⟨e',?_⟩;cases q:H b with
 |none=>rfl
 |some x=>
  have hm:b∈trk h H:=AX.mpr ⟨Bc.mpr (Heap.lt_size e'),by simp[q]⟩;have z:(oT h H).get? b=none:=PySem.W.hideAll_none (trk h H) hm;rw[z] at e;cases e
end L2
variable {xs zs:List L2.V}{H H' H₀:L2.Hp}{v:L2.V}
namespace L2
open PySem PySem.Spec PyProof.Rows
structure Mod(K:Ah)(mg:Str->Option Value)(base:Heap):Prop where
 kin:K.In base
 glob:base.Ns mainGlobals mg
 blt:∃mb,base.Ns builtinsNs mb/\∀x:Str,x ≠ "__name__" -> mb x=bootBuiltins x
 nolimit:base.NoLimit
structure Cx where
 prog:Program
 w:World
 K:Ah
 mg:Str->Option Value
 base:Heap
 A:Around
 N:List Str
 s₀:Shared
 H₀:Hp
 env:Env
 outer:List Env
 stack:List Env
 ex:List Addr
 fn:Str->Bool
 calm:Bool
 pn:List (Addr×Obj)
 xe:Value->Shared->Prop
def vT(l:List Env):List Addr:=l.filterMap (·.frame)
abbrev Cx.fs(X:Cx):List Addr:=vT X.outer
def Vis(sc:Scope)(x:Str):Prop:=sc.names.lookup x=some .local\/sc.names.lookup x=some .cell\/sc.names.lookup x=some .free
def ym(sc:Scope)(x:Str):Prop:=sc.names.lookup x=some .local\/sc.names.lookup x=some .cell
def amz(env:Env)(h:Heap)(m:Str->Option Value)(x:Str)(u:Value):Prop:=
 (env.kindOf x=some .local/\m x=some u)\/((env.kindOf x=some .cell\/env.kindOf x=some .free)/\∃c,env.cells.lookup x=some c/\h.IsCell c (some u))
structure Cx.Ok(X:Cx):Prop where
 mod:Mod X.K X.mg X.base
 kind:X.env.scope.kind=.function
 glob:X.env.globals=mainGlobals
 blt:X.env.builtins=builtinsNs
 above:X.s₀.heap.objs.size≤X.env.locals
 inj:∀x y c,X.env.cells.lookup x=some c->X.env.cells.lookup y=some c->x=y
 has:∀x,(X.env.kindOf x=some .cell\/X.env.kindOf x=some .free)->∃c,X.env.cells.lookup x=some c
 cab:∀x c,X.fn x=true->X.env.cells.lookup x=some c->X.s₀.heap.objs.size≤c
 hd:X.calm=true->X.A.handled=none
 frames:X.A.frames=some X.stack
 stk:X.stack=X.outer\/(X.stack=X.env::X.outer/\X.env.frame=some X.env.locals)
 exf:∀b∈X.ex,b≠X.env.locals/\∀x c,X.env.cells.lookup x=some c->c≠b
 bs:∀b o,X.base.get? b=some o->X.s₀.heap.get? b=some o/\X.H₀ b=none
 bsz:X.base.objs.size≤X.s₀.heap.objs.size
 noex:∀b o,X.base.get? b=some o->b∉X.ex
 exfs:∀b∈X.ex,b∉X.fs
 funs:X.s₀.heap.FunFrames X.base X.outer
 frf:∀b∈X.fs,X.H₀ b=none
structure z0(X:Cx)(pins:List (Addr×Obj))(σ:List (Option V))(H:Hp)(s:Shared):Prop where
 ok:X.Ok
 os:s.os=X.s₀.os
 bare:AllBare s.gens
 base:Un X.fs X.ex X.H₀ H X.s₀.heap s.heap
 loc:∃m,s.heap.Ns X.env.locals m/\∀(i:Nat) (x:Str) (v:V),X.N[i]?=some x->σ[i]?=some (some v)->Vis X.env.scope x->∃u,zf v u/\amz X.env s.heap m x u
 cell:∀x c,X.env.cells.lookup x=some c->∃v,s.heap.IsCell c v
 free:H X.env.locals=none
 freeC:∀x c,X.env.cells.lookup x=some c->H c=none
 pin:∀p∈X.pn++pins,s.heap.get? p.1=some p.2/\H p.1=none/\p.1≠X.env.locals/\p.1∉X.fs/\∀v,p.2.data≠.cell v
 hok:dq X.prog X.w H s.heap
 len:σ.length=X.N.length
 tk:0<s.toks
section
variable {X:Cx}{σ:List (Option V)} 
theorem Cx.Ok.nofr(ok:X.Ok){b:Addr}{o:Obj}(e:X.base.get? b=some o):b∉X.fs:=fun hb=>by have:=(ok.funs.mem hb).1;rw[e] at this;cases this
theorem z0.bs(I:z0 X pins σ H s):∀b o,X.base.get? b=some o->s.heap.get? b=some o/\H b=none:=fun b o e=>
 ⟨I.base.keep b o (I.ok.bs b o e).1 (I.ok.bs b o e).2 (I.ok.nofr e) (I.ok.noex b o e),I.base.free b o (I.ok.bs b o e).1 (I.ok.bs b o e).2 (I.ok.noex b o e)⟩
theorem z0.bk(I:z0 X pins σ H s):∀b o,X.base.get? b=some o->s.heap.get? b=some o:=fun b o e=>(I.bs b o e).1
theorem z0.mod(I:z0 X pins σ H s):Mod X.K X.mg X.base:=I.ok.mod
theorem z0.kIn(I:z0 X pins σ H s):X.K.In s.heap:=I.ok.mod.kin.keeps I.bk
theorem z0.nolimit(I:z0 X pins σ H s):s.heap.NoLimit:=I.ok.mod.nolimit.keeps I.bk
theorem z0.lt(I:z0 X pins σ H s):X.env.locals<s.heap.objs.size:=let ⟨_,hn,_⟩:=I.loc;hn.lt
theorem z0.sz(I:z0 X pins σ H s):X.s₀.heap.objs.size≤s.heap.objs.size:=AU I.ok.above (Bz I.lt)
theorem z0.nofs(I:z0 X pins σ H s){a:Addr}(h:s.heap.objs.size≤a):a∉X.fs:=fun hb=>by obtain⟨_,o,ho,_⟩:=I.ok.funs.mem hb;exact absurd (AM (Heap.lt_size ho) (AU I.sz h)) (C9 _)
theorem z0.cne(I:z0 X pins σ H s):∀x c,X.env.cells.lookup x=some c->c≠X.env.locals:=fun x c e z=>by obtain⟨v,o,ho,hd⟩:=I.cell x c e;obtain⟨m,⟨o',es,ep,ho',hd',_⟩,_⟩:=I.loc;rw[z,ho'] at ho;cases ho;rw[hd'] at hd;cases hd
theorem z0.funs(I:z0 X pins σ H s):s.heap.FunFrames X.base X.outer:=by
 have all:∀(l:List Env),(∀b∈vT l,b∈X.fs)->X.s₀.heap.FunFrames X.base l->s.heap.FunFrames X.base l:=by
  intro l
  induction l with
  |nil=>intro _ _;trivial
  |cons env r ih=>
   intro hs hl;obtain⟨hk,⟨L,o,hf,hn,ho,hd⟩,hr⟩:=hl;have hL:L∈X.fs:=hs L (by unfold vT;rw[Di,hf];exact An);obtain⟨sl,e⟩:=I.base.slot L o ho (I.ok.frf L hL) hL fun z=>I.ok.exfs L z hL;exact⟨hk,⟨L,_,hf,hn,e,hd⟩,ih (fun b hb=>hs b (by unfold vT;rw[Di,hf];exact Ag _ hb)) hr⟩
 exact all X.outer (fun _ hb=>hb) I.ok.funs
theorem z0.stack(I:z0 X pins σ H s):s.heap.FunFrames X.base X.stack:=by
 rcases I.ok.stk with e | ⟨e,hf⟩
 ·rw[e];exact I.funs
 ·rw[e];obtain⟨m,hn,_⟩:=I.loc;refine .cons (by rw[I.ok.kind];decide) hf hn ?_ I.funs;exact Heap.get?_none_of_le (AU I.ok.bsz I.ok.above)
theorem z0.stkSub(I:z0 X pins σ H s):∀b∈vT X.stack,b∈X.env.locals::X.fs:=fun b hb=>by
 rcases I.ok.stk with e | ⟨e,hf⟩
 ·rw[e] at hb;exact Ag _ hb
 ·rw[e] at hb;unfold vT at hb;rw[Di,hf] at hb;exact hb
theorem z0.stkFree(I:z0 X pins σ H s):∀b∈vT X.stack,H b=none:=fun b hb=>by
 rcases Au.mp (I.stkSub b hb) with e | hb
 ·rw[e];exact I.free
 ·obtain⟨_,o,ho,_⟩:=I.ok.funs.mem hb;exact I.base.free b o ho (I.ok.frf b hb) fun z=>I.ok.exfs b z hb
theorem z0.step{g':Array GenState}{d':Drawn}(I:z0 X pins σ H s)
 (hch:∀b∈ch,(b∈X.ex\/X.s₀.heap.objs.size≤b)/\b≠X.env.locals/\(∀x c,X.env.cells.lookup x=some c->c≠b)/\∀p∈X.pn++pins,p.1≠b)
 (keep:∀b o,b≠X.env.locals->b∉X.fs->b∉ch->s.heap.get? b=some o->H b=none->h'.get? b=some o)
 (slot:∀b o,b≠X.env.locals->b∈X.fs->b∉ch->s.heap.get? b=some o->H b=none->∃sl,h'.get? b=some { o with slots:=sl }) (free:∀b o,b∉ch->s.heap.get? b=some o->H b=none->H' b=none)
 (there:∀b o,b∉ch->s.heap.get? b=some o->∃o',h'.get? b=some o')
 (tups:∀b xs,H b=some (.tup xs)->H' b=some (.tup xs)) (frzs:∀b o u,H b=some (.frz o u)->H' b=some (.frz o u)) (tbls:∀b ps,H b=some (.tbl ps)->∃more,H' b=some (.tbl (ps++more)))
 (ns:∀m,s.heap.Ns X.env.locals m->h'.Ns X.env.locals m) (hok:dq X.prog X.w H' h') (hg:AllBare g') (ht:0<t':=by walk_at "t"):
 z0 X pins σ H' { s with heap:=h',gens:=g',drawn:=d',toks:=t' }:=by
 have ke:∀b o,X.s₀.heap.get? b=some o->b≠X.env.locals:=fun b o e=>A9 (AM (Heap.lt_size e) I.ok.above);have neC:∀b o,X.s₀.heap.get? b=some o->b∉X.ex->b∉ch:=fun b o e hx hb=>by
  rcases (hch b hb).1 with z | z
  ·exact hx z
  ·exact absurd (AM (Heap.lt_size e) z) (C9 _)
 have cellK:∀x c,X.env.cells.lookup x=some c->∀v,s.heap.IsCell c v->h'.IsCell c v:=fun x c e v ⟨o,ho,hd⟩=>by
  have nch:c∉ch:=fun z=>(hch c z).2.2.1 x c e rfl;by_cases hc:c∈X.fs
  ·obtain⟨sl,q⟩:=slot c o (I.cne x c e) hc nch ho (I.freeC x c e);exact⟨_,q,hd⟩
  ·exact⟨o,keep c o (I.cne x c e) hc nch ho (I.freeC x c e),hd⟩
 refine⟨I.ok,I.os,hg,⟨fun b o e n hb hx=>?_,fun b o e n hb hx=>?_,fun b o e n hx=>?_,fun b o e hx=>?_,fun b xs e=>tups b xs (I.base.tups b xs e),fun b o xs e=>frzs b o xs (I.base.frzs b o xs e),fun b ps e=>?_⟩,?_,fun x c e=>?_,?_,fun x c e=>?_,fun p hp=>?_,hok,I.len,ht⟩
 ·exact keep b o (ke b o e) hb (neC b o e hx) (I.base.keep b o e n hb hx) (I.base.free b o e n hx)
 ·obtain⟨sl,e1⟩:=I.base.slot b o e n hb hx;obtain⟨sl',e2⟩:=slot b _ (ke b o e) hb (neC b o e hx) e1 (I.base.free b o e n hx);exact⟨sl',e2⟩
 ·obtain⟨o',e1⟩:=I.base.there b o e hx;exact free b o' (neC b o e hx) e1 (I.base.free b o e n hx)
 ·obtain⟨o',e1⟩:=I.base.there b o e hx;exact there b o' (neC b o e hx) e1
 ·obtain⟨m1,e1⟩:=I.base.tbls b ps e;obtain⟨m2,e2⟩:=tbls b _ e1;exact⟨m1++m2,by rw[e2,Array.append_assoc]⟩
 ·obtain⟨m,hn,hl⟩:=I.loc;refine⟨m,ns m hn,fun i x v e1 e2 e3=>?_⟩;obtain⟨u,r,l⟩:=hl i x v e1 e2 e3;refine⟨u,r,?_⟩;rcases l with l | ⟨k,c,e,z⟩
  ·exact .inl l
  ·exact .inr ⟨k,c,e,cellK x c e _ z⟩
 ·obtain⟨v,z⟩:=I.cell x c e;exact⟨v,cellK x c e v z⟩
 ·obtain⟨m,⟨o,_,_,ho,_⟩,_⟩:=I.loc;exact free _ o (fun z=>(hch _ z).2.1 rfl) ho I.free
 ·obtain⟨v,o,ho,hd⟩:=I.cell x c e;exact free c o (fun z=>(hch c z).2.2.1 x c e rfl) ho (I.freeC x c e)
 ·obtain⟨e,n,ne,nf,d⟩:=I.pin p hp;have nch:p.1∉ch:=fun z=>(hch p.1 z).2.2.2 p hp rfl;exact⟨keep p.1 p.2 ne nf nch e n,free p.1 p.2 nch e n,ne,nf,d⟩
theorem z0.un(I:z0 X pins σ H s)(u:Un X.fs [] H H' s.heap h')(hok:dq X.prog X.w H' h')(ht:0<t':=by walk_at "t"):z0 X pins σ H' { s with heap:=h',toks:=t' }:=by obtain⟨m,⟨o,es,ep,ho,r⟩,_⟩:=id I.loc;obtain⟨sl,hL⟩:=u.any ho I.free (by simp);exact I.step (g':=s.gens) (d':=s.drawn) (ch:=[]) (fun _ z=>nomatch z) (fun b o _ hb _ e n=>u.keep b o e n hb (by simp)) (fun b o _ hb _ e n=>u.slot b o e n hb (by simp)) (fun b o _ e n=>u.free b o e n (by simp)) (fun b o _ e=>u.there b o e (by simp)) u.tups u.frzs u.tbls (fun m' hm=>by obtain⟨o',es',ep',ho',r'⟩:=hm;rw[ho] at ho';cases ho';exact⟨_,es',ep',hL,r'⟩) hok I.bare
theorem z0.call{g':Array GenState}{d':Drawn}(I:z0 X pins σ H s)(u:Un (vT X.stack) ch H H' s.heap h')(hok:dq X.prog X.w H' h')(hg:AllBare g')
 (hch:∀b∈ch,(b∈X.ex\/X.s₀.heap.objs.size≤b)/\b≠X.env.locals/\(∀x c,X.env.cells.lookup x=some c->c≠b)/\∀p∈X.pn++pins,p.1≠b) (ht:0<t':=by walk_at "t"):
 z0 X pins σ H' { s with heap:=h',gens:=g',drawn:=d',toks:=t' }:=by
 obtain⟨m,⟨o,es,ep,ho,r⟩,_⟩:=id I.loc;obtain⟨sl,hL⟩:=u.any ho I.free fun z=>(hch _ z).2.1 rfl;exact I.step (ch:=ch) hch (fun b o hL hb hc e n=>u.keep b o e n (fun z=>(Au.mp (I.stkSub b z)).elim hL hb) hc) (fun b o _ _ hc e n=>u.any e n hc) (fun b o hc e n=>u.free b o e n hc) (fun b o hc e=>u.there b o e hc) u.tups u.frzs u.tbls (fun m' hm=>by obtain⟨o',es',ep',ho',r'⟩:=hm;rw[ho] at ho';cases ho';exact⟨_,es',ep',hL,r'⟩) hok hg
theorem z0.turned(I:z0 X pins σ H s)(k:∀b o,b≠it->s.heap.get? b=some o->h'.get? b=some o)(hn:H it=none)(hL:it≠X.env.locals)
 (h1:it∈X.ex\/X.s₀.heap.objs.size≤it) (h2:∀x c,X.env.cells.lookup x=some c->c≠it) (h3:∀p∈X.pn++pins,p.1≠it) (ht:0<t':=by walk_at "t"):z0 X pins σ H { s with heap:=h',toks:=t' }:=by
 have nit:∀b u,H b=some u->b≠it:=fun b u e z=>by rw[z,hn] at e;cases e
 refine I.step (g':=s.gens) (d':=s.drawn) (ch:=[it]) (fun b hb=>?_) (fun b o _ _ hc e _=>k b o (fun z=>hc (by simp[z])) e) (fun b o _ _ hc e _=>⟨o.slots,k b o (fun z=>hc (by simp[z])) e⟩) (fun _ _ _ _ n=>n)
  (fun b o hc e=>⟨o,k b o (fun z=>hc (by simp[z])) e⟩) (fun _ _ e=>e) (fun _ _ _ e=>e) (fun b ps e=>⟨#[],by rw[e];simp⟩) (fun m hm=>?_) (fun b u e=>?_) I.bare
 ·have e:b=it:=by simpa using hb
  subst e;exact⟨h1,hL,h2,h3⟩
 ·obtain⟨o,es,ep,ho,r⟩:=hm;exact⟨o,es,ep,k _ o (AK hL) ho,r⟩
 ·refine(I.hok b u e).stay (fun c v hc q=>k c v ?_ q) (fun _ q=>q) fun _ _ q=>q;rcases hc with z | z
  ·rw[z];exact nit b u e
  ·exact nit c _ z
theorem z0.tok(I:z0 X pins σ H s)(t:Nat)(ht:0<t:=by walk_at "t"):z0 X pins σ H { s with toks:=t }:=I.un (h':=s.heap) (t':=t) Un.refl I.hok
theorem z0.kept(I:z0 X pins σ H s)(k:∀b u,s.heap.get? b=some u->h'.get? b=some u)(ht:0<t':=by walk_at "t"):z0 X pins σ H { s with heap:=h',toks:=t' }:=I.un (Un.kept k) (I.hok.kept k)
theorem z0.laid{a:Addr}{o:HO}(I:z0 X pins σ H s)(k:∀b u,s.heap.get? b=some u->h'.get? b=some u)(hp:s.heap.objs.size≤a)(new:xa X.prog X.w (upd H a o) h' a o)(ht:0<t':=by walk_at "t"):
 z0 X pins σ (upd H a o) { s with heap:=h',toks:=t' }:=I.un (Un.laid k hp (I.hok.fresh hp)) (I.hok.laid k hp new)
theorem z0.write{x e:Addr}{o:HO}(I:z0 X pins σ H s)(mu:Mut (H x))(he:e=x\/H e=some (.own x))(k:∀b u,b≠e->s.heap.get? b=some u->h'.get? b=some u)(heo:∃u,h'.get? e=some u)
 (new:xa X.prog X.w (upd H x o) h' x o) (ht:0<t':=by walk_at "t"):z0 X pins σ (upd H x o) { s with heap:=h',toks:=t' }:=I.un (Un.write mu he k heo) (I.hok.write mu he k heo new)
theorem z0.weak{σ':List (Option V)}(I:z0 X pins σ H s)(hl:σ'.length=σ.length)(w:∀(i:Nat) v,σ'[i]?=some (some v)->σ[i]?=some (some v)):z0 X pins σ' H s:=
 ⟨I.ok,I.os,I.bare,I.base,let ⟨m,hn,hl'⟩:=I.loc;⟨m,hn,fun i x v e1 e2 e3=>hl' i x v e1 (w i v e2) e3⟩,I.cell,I.free,I.freeC,I.pin,I.hok,hl.trans I.len,I.tk⟩
theorem z0.pins_of{pins':List (Addr×Obj)}(I:z0 X pins σ H s)(h:∀p∈pins',s.heap.get? p.1=some p.2/\H p.1=none/\p.1≠X.env.locals/\p.1∉X.fs/\∀v,p.2.data≠.cell v):z0 X pins' σ H s:=
 ⟨I.ok,I.os,I.bare,I.base,I.loc,I.cell,I.free,I.freeC,fun p hp=>(Ak.mp hp).elim (fun z=>I.pin p (Av _ z)) (h p),I.hok,I.len,I.tk⟩
theorem rW{N:List Str}(hN:N.Nodup)(a:N[i]?=some x)(b:N[j]?=some x):i=j:=by obtain⟨h1,e1⟩:=A1.mp a;obtain⟨h2,e2⟩:=A1.mp b;exact(List.getElem_inj hN).mp (e1.trans e2.symm)
theorem mY{Q:Unit->Shared->Prop}(I:z0 X pins σ H s)(hN:X.N.Nodup)(hi:X.N[i]?=some x)(hx:ym X.env.scope x)(r:zf v u)
 (h:∀s',z0 X pins (σ.set i (some v)) H s'->(∃a,Heap.SameBut a s.heap s'.heap/\(a=X.env.locals\/X.env.cells.lookup x=some a))->(X.env.kindOf x=some .local->∃m',s'.heap.Ns X.env.locals m'/\m' x=some u)->Q () s') (hf:X.fn x=true\/X.env.scope.names.lookup x=some .local:=by first | exact .inl rfl | exact .inr rfl | assumption):wpAny M A (storeName X.env x u) Q E s:=by
 obtain⟨m,hn,hl⟩:=id I.loc;have hcls:(X.env.scope.kind==.class||(X.env.scope.kind==.module&&X.env.locals != X.env.globals))=false:=by rw[I.ok.kind];rfl
 have hiσ:i<σ.length:=by rw[I.len];exact(A1.mp hi).1
 have cne:=I.cne;have tracked:∀{a:Addr} {h':Heap},(∃o,s.heap.get? a=some o/\H a=none)->Heap.SameBut a s.heap h'->dq X.prog X.w H h':=fun {a h'} ha hs b ob e=>by
  obtain⟨_,_,hfree⟩:=ha;refine(I.hok b ob e).stay (fun c w' hc q=>(hs.2 c ?_).trans q) (fun _ q=>q) fun _ _ q=>q;rintro rfl;rcases hc with rfl | hc
  ·rw[hfree] at e;cases e
  ·rw[hfree] at hc;cases hc
 rcases hx with hk | hk
 ·refine wpAny_storeName_local hk hn (fun h' hn' hs=>?_) hcls;obtain⟨oL,_,_,hoL,_⟩:=id hn;refine h _ ⟨I.ok,I.os,I.bare,⟨fun b o e n hb hx=>?_,fun b o e n hb hx=>?_,I.base.free,fun b o e hx=>?_,I.base.tups,I.base.frzs,I.base.tbls⟩,⟨_,hn',fun j y v' e1 e2 e3=>?_⟩,fun y c e=>?_,I.free,I.freeC,fun p hp=>?_,tracked ⟨oL,hoL,I.free⟩ hs,by simpa using I.len,by first | exact I.tk | exact Cv _⟩ ⟨_,hs,.inl rfl⟩ (fun _=>⟨_,hn',by simp⟩)
  ·exact(hs.2 b (A9 (AM (Heap.lt_size e) I.ok.above))).trans (I.base.keep b o e n hb hx)
  ·obtain⟨sl,e1⟩:=I.base.slot b o e n hb hx;exact⟨sl,(hs.2 b (A9 (AM (Heap.lt_size e) I.ok.above))).trans e1⟩
  ·obtain⟨o',e1⟩:=I.base.there b o e hx;exact⟨o',(hs.2 b (A9 (AM (Heap.lt_size e) I.ok.above))).trans e1⟩
  ·by_cases hj:j=i
   ·subst hj;rw[hi] at e1;cases e1;rw[BQ hiσ] at e2;cases e2;exact⟨u,r,.inl ⟨hk,by simp⟩⟩
   ·rw[Bl (AK hj)] at e2;obtain⟨u',r',q⟩:=hl j y v' e1 e2 e3;refine⟨u',r',?_⟩;rcases q with⟨k,e⟩ | ⟨k,c,e,z⟩
    ·refine .inl ⟨k,?_⟩;have:y≠x:=fun e=>hj (rW hN e1 (e▸hi));simp[this,e]
    ·exact .inr ⟨k,c,e,z.sameBut hs (cne y c e)⟩
  ·obtain⟨w',z⟩:=I.cell y c e;exact⟨w',z.sameBut hs (cne y c e)⟩
  ·obtain⟨e,n,ne,nf,d⟩:=I.pin p hp;exact⟨(hs.2 p.1 ne).trans e,n,ne,nf,d⟩
 ·have hfn:X.fn x=true:=by
   rcases hf with z | z
   ·exact z
   ·rw[z] at hk;cases hk
  obtain⟨c,hc⟩:=I.ok.has x (.inl hk);obtain⟨w',z⟩:=I.cell x c hc;refine wpAny_storeName_cell I.ok.kind hk hc z (fun h' hc' hs=>?_);obtain⟨oc,hoc,hocd⟩:=id z;refine h { s with heap:=h' } ⟨I.ok,I.os,I.bare,⟨fun b o e n hb hx=>?_,fun b o e n hb hx=>?_,I.base.free,fun b o e hx=>?_,I.base.tups,I.base.frzs,I.base.tbls⟩,⟨m,hn.sameBut hs (AK (cne x c hc)),fun j y v' e1 e2 e3=>?_⟩,fun y c' e=>?_,I.free,I.freeC,fun p hp=>?_,tracked ⟨oc,hoc,I.freeC x c hc⟩ hs,by simpa using I.len,I.tk⟩ ⟨c,hs,.inr hc⟩ (fun z=>by have e:=(show X.env.kindOf x=some .cell from hk).symm.trans z;cases e)
  ·exact(hs.2 b (A9 (AM (Heap.lt_size e) (I.ok.cab x c hfn hc)))).trans (I.base.keep b o e n hb hx)
  ·obtain⟨sl,e1⟩:=I.base.slot b o e n hb hx;exact⟨sl,(hs.2 b (A9 (AM (Heap.lt_size e) (I.ok.cab x c hfn hc)))).trans e1⟩
  ·obtain⟨o',e1⟩:=I.base.there b o e hx;exact⟨o',(hs.2 b (A9 (AM (Heap.lt_size e) (I.ok.cab x c hfn hc)))).trans e1⟩
  ·by_cases hj:j=i
   ·subst hj;rw[hi] at e1;cases e1;rw[BQ hiσ] at e2;cases e2;exact⟨u,r,.inr ⟨.inl hk,c,hc,hc'⟩⟩
   ·rw[Bl (AK hj)] at e2;obtain⟨u',r',q⟩:=hl j y v' e1 e2 e3;refine⟨u',r',?_⟩;rcases q with q | ⟨k,c',e,z'⟩
    ·exact .inl q
    ·refine .inr ⟨k,c',e,z'.sameBut hs ?_⟩;rintro rfl;exact hj (rW hN e1 (I.ok.inj _ _ _ e hc▸hi))
  ·by_cases hcc:c'=c
   ·subst hcc;exact⟨_,hc'⟩
   ·obtain⟨w2,z2⟩:=I.cell y c' e;exact⟨w2,z2.sameBut hs hcc⟩
  ·obtain⟨e,n,ne,nf,d⟩:=I.pin p hp;refine⟨(hs.2 p.1 ?_).trans e,n,ne,nf,d⟩;intro q;rw[q,hoc] at e;have q':oc=p.2:=Ba e;exact d w' (by rw[<-q'];exact hocd)
theorem fM{Q:Unit->Shared->Prop}(I:z0 X pins σ H s)(hN:X.N.Nodup)(hi:X.N[i]?=some x)(hx:ym X.env.scope x)(r:zf v u)
 (h:∀s',z0 X pins (σ.set i (some v)) H s'->Q () s') (hf:X.fn x=true\/X.env.scope.names.lookup x=some .local:=by first | exact .inl rfl | exact .inr rfl | assumption):wpAny M A (storeName X.env x u) Q E s:=
 mY I hN hi hx r (fun s' I' _ _=>h s' I') hf
theorem z0.call'(I:z0 X pins σ H s)(ho:s'.os=s.os)(u:Un (vT X.stack) ch H H' s.heap s'.heap)(hok:dq X.prog X.w H' s'.heap)(hg:AllBare s'.gens)
 (hch:∀b∈ch,(b∈X.ex\/X.s₀.heap.objs.size≤b)/\b≠X.env.locals/\(∀x c,X.env.cells.lookup x=some c->c≠b)/\∀p∈X.pn++pins,p.1≠b) (ht:0<s'.toks:=by walk_at "t"):z0 X pins σ H' s':=by
 obtain⟨h',g',d',t',o'⟩:=s';have e:o'=s.os:=ho;subst e;exact I.call (g':=g') (t':=t') (d':=d') u hok hg hch ht
end
abbrev XK:=Value->Option Addr->Hp->Prop
abbrev St:=List (Option V)
abbrev VK:=V->Hp->Prop
abbrev TE:=St->Hp->VK->Prop
abbrev TT:=St->Hp->(Bool->Hp->Prop)->Prop
abbrev TA:=St->Hp->(List V->Hp->Prop)->Prop
structure tG where
 nx:St->Hp->Prop
 rt:VK
 bk:St->Hp->Prop:=fun _ _=>False
 ct:St->Hp->Prop:=fun _ _=>False
abbrev TS:=tG->St->Hp->Prop
def EP(X:Cx)(pins:List (Addr×Obj))(σ:St)(Q:VK)(u:Value)(s':Shared):Prop:=∃v H',z0 X pins σ H' s'/\zf v u/\Q v H'
def TP(X:Cx)(pins:List (Addr×Obj))(σ:St)(Q:Bool->Hp->Prop)(b:Bool)(s':Shared):Prop:=∃H',z0 X pins σ H' s'/\Q b H'
def AP(X:Cx)(pins:List (Addr×Obj))(σ:St)(Q:List V->Hp->Prop)(us:List Value)(s':Shared):Prop:=∃vs H',z0 X pins σ H' s'/\ze vs us/\Q vs H'
def SP(X:Cx)(pins:List (Addr×Obj))(D:tG)(f:Flow)(s':Shared):Prop:=
 match f with
 |.next=>∃σ' H',z0 X pins σ' H' s'/\D.nx σ' H'
 |.brk=>∃σ' H',z0 X pins σ' H' s'/\D.bk σ' H'
 |.cont=>∃σ' H',z0 X pins σ' H' s'/\D.ct σ' H'
 |.ret u=>∃v σ' H',z0 X pins σ' H' s'/\zf v u/\D.rt v H'
def PE(X:Cx)(e:Expr)(t:TE):Prop:=
 ∀(pins:List (Addr×Obj)) (s:Shared) (σ:St) (H:Hp) (Q:VK),z0 X pins σ H s->t σ H Q->wpAny (model X.prog X.w) X.A (eval e X.env) (EP X pins σ Q) X.xe s
def PT(X:Cx)(e:Expr)(t:TT):Prop:=
 ∀(pins:List (Addr×Obj)) (s:Shared) (σ:St) (H:Hp) (Q:Bool->Hp->Prop),z0 X pins σ H s->t σ H Q->wpAny (model X.prog X.w) X.A (isTrue e X.env (eval e X.env)) (TP X pins σ Q) X.xe s
def PW(X:Cx)(e:Expr)(t:TT):Prop:=
 ∀(whole:Sem Value) (pins:List (Addr×Obj)) (s:Shared) (σ:St) (H:Hp) (Q:Bool->Hp->Prop),z0 X pins σ H s->t σ H Q->wpAny (model X.prog X.w) X.A (isTrue e X.env whole) (TP X pins σ Q) X.xe s
theorem PW.pt{X:Cx}{t:TT}(h:PW X e t):PT X e t:=h _
def PA(X:Cx)(es:List Expr)(t:TA):Prop:=
 ∀(pos:Pos) (pins:List (Addr×Obj)) (s:Shared) (σ:St) (H:Hp) (Q:List V->Hp->Prop),z0 X pins σ H s->t σ H Q->wpAny (model X.prog X.w) X.A (spliced (backTo pos (starEach es X.env))) (AP X pins σ Q) X.xe s
def PS(X:Cx)(st:Stmt)(t:TS):Prop:=
 ∀(pins:List (Addr×Obj)) (s:Shared) (σ:St) (H:Hp) (D:tG),z0 X pins σ H s->t D σ H->wpAny (model X.prog X.w) X.A (exec st X.env) (SP X pins D) X.xe s
def mD(X:Cx)(st:List Stmt)(t:TS):Prop:=
 ∀(pins:List (Addr×Obj)) (s:Shared) (σ:St) (H:Hp) (D:tG),z0 X pins σ H s->t D σ H->wpAny (model X.prog X.w) X.A (execs st X.env) (SP X pins D) X.xe s
theorem xj{t:Sem α}{Q Q':α->Shared->Prop}(h:wpAny M A t Q E s)(hQ:∀a s,Q a s->Q' a s):wpAny M A t Q' E s:=A2 h hQ fun _ _ x=>x
end L2
variable {r:L2.V->Option Int->Option Int->L2.Hp->L2.VK->Prop}{X:L2.Cx}{σ:L2.St}{ta:L2.TE}
namespace L2
open PySem PySem.Spec PyProof.Rows
section
def ai1(i:Nat):TE:=fun σ H Q=>∃v,σ[i]?=some (some v)/\Q v H
def tC(v:V):TE:=fun _ H Q=>Q v H
abbrev Ed(x:Str):Prop:=(x==("__debug__":Str))=false
abbrev Ee(x:Str):Prop:=(x==("__classdict__":Str))=false
theorem aht(hN:X.N[i]?=some x)(hv:Vis X.env.scope x)(hd:Ed x:=by decide)(hcd:Ee x:=by decide):PE X (.Name x pos) (ai1 i):=by
 intro pins s σ H Q I h;obtain⟨v,e,h⟩:=h;obtain⟨m,hn,hl⟩:=I.loc;obtain⟨u,r,l⟩:=hl i x v hN e hv;have js:EP X pins σ Q u s:=⟨v,H,I,r,h⟩;rcases l with⟨hk,hm⟩ | ⟨hk,c,hc,hcell⟩
 ·exact wpAny_Name (wpAny_loadName_local I.ok.kind hk hn hm js) hd
 ·rcases hk with hk | hk
  ·exact wpAny_Name (wpAny_loadName_cell I.ok.kind hk hc hcell js) hd
  ·exact wpAny_Name (wpAny_loadName_free I.ok.kind hk hc hcell js hcd) hd
theorem aho{i j pos}:PE X (.Constant (.int i) j pos) (tC (.int i)):=fun _ _ _ H _ I h=>wpAny_Constant_int ⟨.int i,H,I.tok _,⟨_,rfl⟩,h⟩
theorem ak4{b j pos}:PE X (.Constant (.bool b) j pos) (tC (.bl b)):=fun _ _ _ H _ I h=>Constant_bool ⟨.bl b,H,I,rfl,h⟩
theorem aiy{j pos}:PE X (.Constant .none j pos) (tC .non):=fun _ _ _ H _ I h=>Constant_none ⟨.non,H,I,rfl,h⟩
theorem bY{x j pos}:PE X (.Constant (.str x) j pos) (tC (.str x)):=fun _ _ _ H _ I h=>Calls.Constant_str ⟨.str x,H,I.tok _,⟨_,rfl⟩,h⟩
def Gl(X:Cx)(x:Str):Prop:=X.env.kindOf x=some .globalImplicit
theorem uJ(I:z0 X pins σ H s)(hg:Gl X x)(hm:X.mg x=some u)(h:Q u s)
 (hd:Ed x:=by decide):wpAny (model X.prog X.w) X.A (eval (.Name x pos) X.env) Q E s:=
 Calls.Name_function_global I.ok.kind hg (Calls.loadGlobal_global (by rw[I.ok.glob];exact I.mod.glob.keeps I.bk) hm h) hd
theorem bR(I:z0 X pins σ H s)(hg:Gl X x)(hm:X.mg x=none)(hv:bootBuiltins x=some u)(h:Q u s)
 (hn:x ≠ "__name__" := by decide) (hd:Ed x:=by decide):wpAny (model X.prog X.w) X.A (eval (.Name x pos) X.env) Q E s:=by
 obtain⟨mb,h1,h2⟩:=I.mod.blt;exact Calls.Name_function_global I.ok.kind hg (Calls.loadGlobal_builtin (by rw[I.ok.glob];exact I.mod.glob.keeps I.bk) hm (by rw[I.ok.blt];exact h1.keeps I.bk) ((h2 x hn).trans hv) h) hd
theorem u7(hg:Gl X x)(hm:X.mg x=some u)(r:zf v u)(hd:Ed x:=by decide):PE X (.Name x pos) (tC v):=
 fun _ _ _ H _ I h=>uJ I hg hm ⟨v,H,I,r,h⟩ hd
theorem ae9(hg:Gl X x)(hm:X.mg x=none)(hv:bootBuiltins x=some u)(r:zf v u)(hn:x ≠ "__name__" := by decide)(hd:Ed x:=by decide):PE X (.Name x pos) (tC v):=
 fun _ _ _ H _ I h=>bR I hg hm hv ⟨v,H,I,r,h⟩ hn hd
variable {a b:Expr}{tb:TE} 
def PC(X:Cx)(op:CmpOp)(a b:Expr)(t:TE):Prop:=
 ∀(pins:List (Addr×Obj)) (s:Shared) (σ:St) (H:Hp) (Q:VK),z0 X pins σ H s->t σ H Q->
  wpAny (model X.prog X.w) X.A (eval a X.env) (fun v s₁=>wpAny (model X.prog X.w) X.A (eval b X.env) (fun u s₂=>wpAny (model X.prog X.w) X.A (compareOp op v u) (EP X pins σ Q) X.xe s₂) X.xe s₁) X.xe s
theorem qG(b:Expr){op:CmpOp}(h:op≠.In)(h2:op≠.NotIn):behindInMarks op b=false:=by
 have e1:(op==CmpOp.In)=false:=by cases op<;>first | rfl | exact absurd rfl h
 have e2:(op==CmpOp.NotIn)=false:=by cases op<;>first | rfl | exact absurd rfl h2
 cases b<;>simp[behindInMarks,e1,e2]
def akg(ta:TE):TE:=fun σ H Q=>ta σ H fun x H1=>Q (.bl (decide (x=.non))) H1
def afu(ta:TE):TE:=fun σ H Q=>ta σ H fun x H1=>Q (.bl (!decide (x=.non))) H1
theorem zf.none_iff{x:V}{v:Value}(r:zf x v):(v==Value.none)=decide (x=.non):=by
 cases x with
 |non=>cases r;rfl
 |bl _=>cases r;rfl
 |int _=>obtain⟨t,rfl⟩:=r;rfl
 |str _=>obtain⟨t,rfl⟩:=r;rfl
 |byt _=>obtain⟨t,rfl⟩:=r;rfl
 |flt _=>obtain⟨t,rfl⟩:=r;rfl
 |ref _=>cases r;rfl
 |ty _=>cases r;rfl
theorem age{j pos'}(ha:PE X a ta):PC X .Is a (.Constant .none j pos') (akg ta):=by intro pins s σ H Q I h;refine xj (ha pins s σ H _ I h) fun v s1 ⟨x,H1,I1,r1,q1⟩=>?_;exact Constant_none (is_none_gen ⟨.bl _,H1,I1,by rw[r1.none_iff];rfl,q1⟩)
theorem uR{j pos'}(ha:PE X a ta):PC X .IsNot a (.Constant .none j pos') (afu ta):=by intro pins s σ H Q I h;refine xj (ha pins s σ H _ I h) fun v s1 ⟨x,H1,I1,r1,q1⟩=>?_;exact Constant_none (isnot_none_gen ⟨.bl _,H1,I1,by rw[r1.none_iff];rfl,q1⟩)
def tB(t:TE):TT:=fun σ H Q=>t σ H fun x H1=>∃c,x=.bl c/\Q c H1
theorem ahk{op:CmpOp}{t:TE}(h:PC X op a b t)(h1:behindInMarks op b=false:=by first | exact qG _ (by decide) (by decide) | rfl):PE X (.Compare a [op] [b] pos) t:=fun pins s σ H Q I hw=>wpAny_Compare1 (h pins s σ H Q I hw) h1
theorem yd{op:CmpOp}{t:TE}(h:PC X op a b t)(h1:behindInMarks op b=false:=by first | exact qG _ (by decide) (by decide) | rfl):PT X (.Compare a [op] [b] pos) (tB t):=by intro pins s σ H Q I hw;refine wpAny_isTrue_Compare1 (xj (h pins s σ H _ I hw) fun v s1 h1=>xj h1 fun u s2 h2=>xj h2 fun c s3 ⟨x,H1,I1,r1,q1⟩=>?_) h1;obtain⟨d,rfl,q⟩:=q1;cases r1;exact wpAny_truthy_bool ⟨H1,I1,q⟩
theorem aij{t:TE}(h:PE X e t)(he:∀whole,isTrue e X.env whole=(do let v <-whole;standAt e.pos;holding [v] (truthy v)):=by intro _;rfl):PT X e (tB t):=by intro pins s σ H Q I hw;refine isTrue_plain (xj (h pins s σ H _ I hw) fun v s1 ⟨x,H1,I1,r1,q1⟩=>?_) (he _);obtain⟨d,rfl,q⟩:=q1;cases r1;exact wpAny_truthy_bool ⟨H1,I1,q⟩
variable {tA tB':TT}{rest:List Expr}
def ao1(t u:TT):TT:=fun σ H Q=>t σ H fun c H1=>if c=true then u σ H1 Q else Q false H1
def tOr(t u:TT):TT:=fun σ H Q=>t σ H fun c H1=>if c=true then Q true H1 else u σ H1 Q
def ane(t:TT):TT:=fun σ H Q=>t σ H fun c H1=>Q (!c) H1
theorem ad5(ha:PT X a tA):PW X (.BoolOp .And [a] pos) tA:=by intro wh pins s σ H Q I h;refine isTrue_and (xj (ha pins s σ H Q I h) fun c s1 e=>?_);cases c with|true=>exact isTrue_and_nil e|false=>exact e
theorem ag3(ha:PT X a tA):PW X (.BoolOp .Or [a] pos) tA:=by intro wh pins s σ H Q I h;refine isTrue_or (xj (ha pins s σ H Q I h) fun c s1 e=>?_);cases c with|false=>exact isTrue_or_nil e|true=>exact e
theorem aj2(ha:PT X a tA)(hb:PW X (.BoolOp .And (b::rest) pos) tB'):PW X (.BoolOp .And (a::b::rest) pos) (ao1 tA tB'):=by intro wh pins s σ H Q I h;refine isTrue_and (xj (ha pins s σ H _ I h) fun c s1 ⟨H1,I1,q1⟩=>?_);cases c with|true=>exact hb wh pins s1 σ H1 Q I1 q1|false=>exact⟨H1,I1,q1⟩
theorem ajk(ha:PT X a tA)(hb:PW X (.BoolOp .Or (b::rest) pos) tB'):PW X (.BoolOp .Or (a::b::rest) pos) (tOr tA tB'):=by intro wh pins s σ H Q I h;refine isTrue_or (xj (ha pins s σ H _ I h) fun c s1 ⟨H1,I1,q1⟩=>?_);cases c with|true=>exact⟨H1,I1,q1⟩|false=>exact hb wh pins s1 σ H1 Q I1 q1
theorem ahf(ha:PT X a tA):PT X (.UnaryOp .Not a pos) (ane tA):=by intro pins s σ H Q I h;exact isTrue_not (ha pins s σ H (fun c H1=>Q (!c) H1) I h)
def alm(ta tb:TE):TE:=fun σ H Q=>ta σ H fun x H1=>∃c,x=.bl c/\if c=true then tb σ H1 Q else Q (.bl false) H1
theorem agp{op}{t:TE}(h:PE X a t):PE X (.BoolOp op [a] pos) t:=fun pins s σ H Q I hw=>BoolOp_one (h pins s σ H Q I hw)
theorem ah2(ha:PE X a ta)(hb:PE X (.BoolOp .And (b::rest) pos) tb):PE X (.BoolOp .And (a::b::rest) pos) (alm ta tb):=by
 intro pins s σ H Q I h;refine BoolOp_and (xj (ha pins s σ H _ I h) fun v s1 ⟨x,H1,I1,r1,q1⟩=>?_);obtain⟨c,rfl,q1⟩:=q1;cases r1;refine wpAny_truthy_bool ?_;cases c with
 |true=>exact hb pins s1 σ H1 Q I1 q1
 |false=>exact⟨.bl false,H1,I1,rfl,q1⟩
def tIf(t:TT)(ta tb:TE):TE:=fun σ H Q=>t σ H fun c H1=>if c=true then ta σ H1 Q else tb σ H1 Q
theorem ab6(hc:PT X c tA)(ha:PE X a ta)(hb:PE X b tb):PE X (.IfExp c a b pos) (tIf tA ta tb):=by intro pins s σ H Q I h;refine wpAny_IfExp (xj (hc pins s σ H _ I h) fun d s1 ⟨H1,I1,q1⟩=>?_);cases d with|true=>exact ha pins s1 σ H1 Q I1 q1|false=>exact hb pins s1 σ H1 Q I1 q1
end
def w4(K:Ah)(H:Hp)(a:Addr)(xs:List V):Prop:=
 Rd H a (.lst xs)\/
  ∃(o:Obj) (its:Array Value) (n:Nat),K.lookup a=some o/\o.cls=.type "list" /\ o.dict=none/\o.data=.seq its n/\its.size≤sizeLine/\ze xs its.toList
def cJ(K:Ah)(H:Hp)(a:Addr)(xs:List V):Prop:=
 Rd H a (.tup xs)\/
  ∃(o:Obj) (its:Array Value) (n:Nat),K.lookup a=some o/\o.cls=.type "tuple" /\ o.data=.seq its n/\its.size≤sizeLine/\ze xs its.toList
def aom:Value->Option V
 |.none=>some .non
 |.bool b=>some (.bl b)
 |.int i _=>some (.int i)
 |.str x _=>some (.str x)
 |.bytes b _=>some (.byt b)
 |.float b _=>some (.flt b)
 |.ref a=>some (.ref a)
 |.type n=>some (.ty n)
 |_=>none
theorem zf.abs{x:V}(r:zf x u):aom u=some x:=by
 cases x with
 |non=>cases r;rfl
 |bl _=>cases r;rfl
 |int _=>obtain⟨t,rfl⟩:=r;rfl
 |str _=>obtain⟨t,rfl⟩:=r;rfl
 |byt _=>obtain⟨t,rfl⟩:=r;rfl
 |flt _=>obtain⟨t,rfl⟩:=r;rfl
 |ref _=>cases r;rfl
 |ty _=>cases r;rfl
theorem zf.inj{x y:V}(r:zf x u)(q:zf y u):x=y:=Ba (r.abs.symm.trans q.abs)
theorem ze.inj:∀{xs ys:List V} {us:List Value},ze xs us->ze ys us->xs=ys
 |_,_,_,.nil,.nil=>rfl
 |_,_,_,.cons r t,.cons r' t'=>by rw[r.inj r',ze.inj t t']
section
variable {a:Addr}{ys:List V}
theorem w4.of{K:Ah}(h:H a=some (.lst xs)):w4 K H a xs:=.inl (.inl h)
abbrev ET:=@w4.of
theorem cJ.of{K:Ah}(h:H a=some (.tup xs)):cJ K H a xs:=.inl (.inl h)
theorem z0.list(I:z0 X pins σ H s)(h:w4 X.K H a xs):∃its:List Value,ze xs its/\PlainL s.heap a its.toArray/\xs.length≤sizeLine:=by
 rcases h with h | ⟨o,its,n,hk,hc,hd,hs,hz,r⟩
 ·obtain⟨z,its,n,r,e⟩:=h.ok I.hok;exact⟨its,r,⟨_,n,e,rfl,rfl,rfl⟩,z⟩
 ·refine⟨its.toList,r,⟨o,n,I.kIn a o hk,hc,hd,by simpa using hs⟩,?_⟩;have e:=r.length;simp only[AL] at e;omega
theorem z0.tuple(I:z0 X pins σ H s)(h:cJ X.K H a xs):∃its:List Value,ze xs its/\IsTup s.heap a its.toArray/\xs.length≤sizeLine:=by
 rcases h with h | ⟨o,its,n,hk,hc,hs,hz,r⟩
 ·obtain⟨z,its,r,p⟩:=h.ok I.hok;exact⟨its,r,p,z⟩
 ·refine⟨its.toList,r,⟨o,I.kIn a o hk,hc,n,by simpa using hs⟩,?_⟩;have e:=r.length;simp only[AL] at e;omega
theorem z0.list_inj(I:z0 X pins σ H s)(h:w4 X.K H a xs)(h':w4 X.K H a ys):xs=ys:=by
 obtain⟨its,r,⟨o,n,e,_,_,d⟩,_⟩:=I.list h;obtain⟨its',r',⟨o',n',e',_,_,d'⟩,_⟩:=I.list h';rw[e] at e';cases e';rw[d] at d';injection d' with d1 _
 have:its=its':=by simpa using BM Array.toList d1
 subst this;exact r.inj r'
theorem z0.tuple_inj(I:z0 X pins σ H s)(h:cJ X.K H a xs)(h':cJ X.K H a ys):xs=ys:=by
 obtain⟨its,r,⟨o,e,_,n,d⟩,_⟩:=I.tuple h;obtain⟨its',r',⟨o',e',_,n',d'⟩,_⟩:=I.tuple h';rw[e] at e';cases e';rw[d] at d';injection d' with d1 _
 have:its=its':=by simpa using BM Array.toList d1
 subst this;exact r.inj r'
end
abbrev Cx.wish(X:Cx)(E:Value->Shared->Prop):Cx:={ X with xe:=E }
abbrev Cx.nox(X:Cx):Cx:=X.wish fun _ _=>False
theorem Cx.Ok.wish(ok:X.Ok)(E:Value->Shared->Prop):(X.wish E).Ok:=
 ⟨ok.mod,ok.kind,ok.glob,ok.blt,ok.above,ok.inj,ok.has,ok.cab,ok.hd,ok.frames,ok.stk,ok.exf,ok.bs,ok.bsz,ok.noex,ok.exfs,ok.funs,ok.frf⟩
theorem Cx.Ok.unwish(ok:(X.wish E).Ok):X.Ok:=
 ⟨ok.mod,ok.kind,ok.glob,ok.blt,ok.above,ok.inj,ok.has,ok.cab,ok.hd,ok.frames,ok.stk,ok.exf,ok.bs,ok.bsz,ok.noex,ok.exfs,ok.funs,ok.frf⟩
section
theorem z0.wish(I:z0 X pins σ H s)(E:Value->Shared->Prop):z0 (X.wish E) pins σ H s:=⟨I.ok.wish E,I.os,I.bare,I.base,I.loc,I.cell,I.free,I.freeC,I.pin,I.hok,I.len,I.tk⟩
theorem z0.unwish(I:z0 (X.wish E) pins σ H s):z0 X pins σ H s:=⟨I.ok.unwish,I.os,I.bare,I.base,I.loc,I.cell,I.free,I.freeC,I.pin,I.hok,I.len,I.tk⟩
theorem SP.unwish{D:tG}{f:Flow}(h:SP (X.wish E) pins D f s'):SP X pins D f s':=by
 cases f with
 |next=>obtain⟨σ',H',I,q⟩:=h;exact⟨σ',H',I.unwish,q⟩
 |brk=>obtain⟨σ',H',I,q⟩:=h;exact⟨σ',H',I.unwish,q⟩
 |cont=>obtain⟨σ',H',I,q⟩:=h;exact⟨σ',H',I.unwish,q⟩
 |ret u=>obtain⟨v,σ',H',I,r,q⟩:=h;exact⟨v,σ',H',I.unwish,r,q⟩
theorem mD.nox{st:List Stmt}{t:TS}(h:mD X.nox st t):mD X st t:=fun pins s σ H D I hw=>
 A2 (h pins s σ H D (I.wish _) hw) (fun _ _ q=>q.unwish) fun _ _ z=>False.elim z
end
section
variable {rest:List Stmt}{t u:TS}{te:TE} 
def ale:TS:=fun D σ H=>D.nx σ H
def ao7(t u:TS):TS:=fun D σ H=>t { D with nx:=u D } σ H
theorem ady:mD X [] ale:=fun _ _ σ H _ I h=>wpAny_execs_nil ⟨σ,H,I,h⟩
theorem qH(h1:PS X st t)(h2:mD X rest u):mD X (st::rest) (ao7 t u):=by
 intro pins s σ H D I h;refine wpAny_execs_cons (xj (h1 pins s σ H { D with nx:=u D } I h) fun f s1 q=>?_);cases f with
 |next=>
  obtain⟨σ',H',I',q⟩:=q;exact h2 pins s1 σ' H' D I' q
 |ret v=>exact q
 |brk=>exact q
 |cont=>exact q
theorem adh(h1:PS X st t):mD X [st] t:=by intro pins s σ H D I h;refine wpAny_execs_cons (xj (h1 pins s σ H D I h) fun f s1 q=>?_);cases f with|next=>exact wpAny_execs_nil q|ret v=>exact q|brk=>exact q|cont=>exact q
def al8:TS:=fun D σ H=>D.ct σ H
theorem sH:PS X (.Continue pos) al8:=fun _ _ σ H _ I h=>wpAny_Continue ⟨σ,H,I,h⟩
theorem z0.quiet(I:z0 X pins σ H s):interactive X.env=false:=by simp[interactive,I.ok.kind]
def alh(te:TE):TS:=fun D σ H=>te σ H fun _ H1=>D.nx σ H1
theorem aew(he:PE X e te)(hs:swapsWith e none pos.line X.env=pure false:=by rfl):PS X (.Expr e pos) (alh te):=by intro pins s σ H D I h;exact wpAny_Expr_any (xj (he pins s σ H _ I h) fun v s1 ⟨x,H1,I1,r1,q1⟩=>⟨σ,H1,I1,q1⟩) I.quiet hs
def aoy(te:TE):TS:=fun D σ H=>te σ H D.rt
theorem aiv(he:PE X e te):PS X (.Return (some e) pos) (aoy te):=by intro pins s σ H D I h;exact wpAny_Return_some (xj (he pins s σ H _ I h) fun v s1 ⟨x,H1,I1,r1,q1⟩=>⟨x,σ,H1,I1,r1,q1⟩)
def aks:TS:=fun D _ H=>D.rt .non H
theorem adl:PS X (.Return none pos) aks:=fun _ _ σ H _ I h=>wpAny_Return_none ⟨.non,σ,H,I,rfl,h⟩
def amj(c:TT)(t u:TS):TS:=fun D σ H=>c σ H fun b H1=>if b=true then t D σ H1 else u D σ H1
theorem aku{a b:List Stmt}{tc:TT}(hc:PT X c tc)(ha:mD X a t)(hb:mD X b u):PS X (.If c a b pos) (amj tc t u):=by intro pins s σ H D I h;refine wpAny_If (xj (hc pins s σ H _ I h) fun d s1 ⟨H1,I1,q1⟩=>?_);cases d with|true=>exact ha pins s1 σ H1 D I1 q1|false=>exact hb pins s1 σ H1 D I1 q1
end
abbrev TG:=V->St->Hp->(St->Hp->Prop)->Prop
abbrev TGs:=List V->St->Hp->(St->Hp->Prop)->Prop
def PG(X:Cx)(target:Expr)(t:TG):Prop:=
 ∀(pins:List (Addr×Obj)) (s:Shared) (σ:St) (H:Hp) (v:V) (u:Value) (Q:St->Hp->Prop),z0 X pins σ H s->zf v u->t v σ H Q->
  wpAny (model X.prog X.w) X.A (assign target X.env u) (fun _ s'=>∃σ' H',z0 X pins σ' H' s'/\Q σ' H') X.xe s
def PGs(X:Cx)(ts:List Expr)(t:TGs):Prop:=
 ∀(pins:List (Addr×Obj)) (s:Shared) (σ:St) (H:Hp) (vs:List V) (us:List Value) (Q:St->Hp->Prop),z0 X pins σ H s->ze vs us->t vs σ H Q->
  wpAny (model X.prog X.w) X.A (assignInOrder ((assignEach ts X.env).map (·.2)) us) (fun _ s'=>∃σ' H',z0 X pins σ' H' s'/\Q σ' H') X.xe s
abbrev agg:=V->V->V->Hp->(Hp->Prop)->Prop
def ajp(X:Cx)(t:agg):Prop:=
 ∀(pins:List (Addr×Obj)) (s:Shared) (σ:St) (H:Hp) (o i v:V) (ov iv u:Value) (Q:Hp->Prop),z0 X pins σ H s->zf o ov->zf i iv->zf v u->t o i v H Q->
  wpAny (model X.prog X.w) X.A (setItem ov iv u) (fun _ s'=>∃H',z0 X pins σ H' s'/\Q H') X.xe s
section
def cb(i:Nat):TG:=fun v σ H Q=>Q (σ.set i (some v)) H
theorem iZ(hN:X.N.Nodup)(hi:X.N[i]?=some x)(hx:ym X.env.scope x)(hf:X.fn x=true\/X.env.scope.names.lookup x=some .local:=by first | exact .inl rfl | exact .inr rfl | assumption):PG X (.Name x pos) (cb i):=by intro pins s σ H v u Q I r h;exact wpAny_assign_Name (fM I hN hi hx r (fun s' I'=>⟨_,H,I',h⟩) hf)
def ai6:TGs:=fun vs σ H Q=>vs=[]/\Q σ H
def r9(t:TG)(u:TGs):TGs:=fun vs σ H Q=>∃v r,vs=v::r/\t v σ H fun σ' H'=>u r σ' H' Q
theorem u9:PGs X [] ai6:=by intro pins s σ H vs us Q I r h;obtain⟨e,h⟩:=h;subst e;cases r;exact assignInOrder_nil ⟨σ,H,I,h⟩
theorem kQ{t:TG}{u:TGs}(h1:PG X e t)(h2:PGs X es u)
 (hs:(assignEach (e::es) X.env).map (·.2)=assign e X.env::(assignEach es X.env).map (·.2):=by rfl):PGs X (e::es) (r9 t u):=by
 intro pins s σ H vs us Q I r h;obtain⟨v,vr,e1,h⟩:=h;subst e1;cases r with
 |cons r rr=>
  rw[hs];refine assignInOrder_cons (xj (h1 pins s σ H _ _ _ I r h) fun _ s1 ⟨σ1,H1,I1,q1⟩=>?_);exact h2 pins s1 σ1 H1 _ _ Q I1 rr q1
def ai5(K:Ah)(n:Nat)(t:TGs):TG:=fun v σ H Q=>∃a xs,v=.ref a/\cJ K H a xs/\xs.length=n/\t xs σ H Q
theorem yi{k:Nat}{t:TGs}(hc:X.calm=true)(h:PGs X es t)
 (hn:(assignEach es X.env).length=n:=by rfl) (hst:(assignEach es X.env).findIdx? (·.1)=none:=by rfl):PG X (.Tuple es k pos) (ai5 X.K n t):=by
 intro pins s σ H v u Q I r hw;obtain⟨a,xs,e1,hq,hl,hw⟩:=hw;subst e1;cases r;obtain⟨its,rv,ht,hz⟩:=I.tuple hq;refine assign_Tuple_tuple (I.ok.hd hc) ht (by simp[hn,<-hl,rv.length]) hst fun h' hx=>?_;have I1:z0 X pins σ H { s with heap:=h' }:=I.kept (t':=s.toks) fun b o e=>hx b o (A9 (Heap.lt_size e)) e;exact h pins _ σ H xs _ Q I1 (by simpa using rv) hw
def anx(to ti:TE)(t:agg):TG:=fun v σ H Q=>to σ H fun o H1=>ti σ H1 fun i H2=>t o i v H2 fun H3=>Q σ H3
theorem ago{i:Expr}{to ti:TE}{t:agg}(ho:PE X o to)(hi:PE X i ti)(hs:ajp X t)
 (ha:∀v,assign (.Subscript o i pos) X.env v=(do
  let ov <-holding [v] (eval o X.env)
  let iv <-holding [v,ov] (eval i X.env)
  standAt pos
  holding [v,ov,iv] (setItem ov iv v)
  release [v,ov,iv] []):=by intro _;rfl):PG X (.Subscript o i pos) (anx to ti t):=by
 intro pins s σ H v u Q I r h;rw[ha];refine Aa (Bg (xj (ho pins s σ H _ I h) fun ov s1 ⟨x,H1,I1,r1,q1⟩=>?_));refine Aa (Bg (xj (hi pins s1 σ H1 _ I1 q1) fun iv s2 ⟨y,H2,I2,r2,q2⟩=>?_));refine Aa (wpAny_standAt (Aa (Bg (xj (hs pins s2 σ H2 x y v ov iv u _ I2 r1 r2 r q2) fun _ s3 ⟨H3,I3,q3⟩=>?_))));exact wpAny_release ⟨σ,H3,I3,q3⟩
def ag9(te:TE)(g:TG):TS:=fun D σ H=>te σ H fun x H1=>g x σ H1 D.nx
theorem abi{te:TE}{g:TG}(he:PE X e te)(hg:PG X tg g)(hs:swapsWithSole [tg] e pos.line X.env=pure false:=by rfl)(hw:swappedStores [tg] e X.env=pure none:=by rfl)
 (h1:(assignEach [tg] X.env).map (·.2)=[assign tg X.env]:=by rfl):PS X (.Assign [tg] e pos) (ag9 te g):=by
 intro pins s σ H D I h;refine wpAny_Assign_stores (xj (he pins s σ H _ I h) fun v s1 ⟨x,H1,I1,r1,q1⟩=>?_) hs hw;rw[h1];exact xj (hg pins s1 σ H1 x v _ I1 r1 q1) fun _ s2 q=>q
theorem ai8{te:TE}(hN:X.N.Nodup)(hi:X.N[i]?=some x)(hx:ym X.env.scope x)(he:PE X e te)(hs:swapsWith e (some (.Name x pos')) pos.line X.env=pure false:=by rfl)(hf:X.fn x=true\/X.env.scope.names.lookup x=some .local:=by first | exact .inl rfl | exact .inr rfl | assumption):
 PS X (.Assign [.Name x pos'] e pos) (ag9 te (cb i)):=by
 intro pins s σ H D I h;refine wpAny_Assign_Name (xj (he pins s σ H _ I h) fun v s1 ⟨y,H1,I1,r1,q1⟩=>?_) hs;exact fM I1 hN hi hx r1 (fun s2 I2=>⟨_,H1,I2,q1⟩) hf
def an2(i j:Nat)(ta:TA):TS:=fun D σ H=>ta σ H fun vs H1=>∃v w,vs=[v,w]/\D.nx ((σ.set i (some v)).set j (some w)) H1
theorem agl{y:Str}{a b:Expr}{ta:TA}{px py pt:Pos}{kt k2 pt2}(hc:X.calm=true)(hN:X.N.Nodup)(hi:X.N[i]?=some x)(hj:X.N[j]?=some y)(hij:i≠j)
 (hx:X.env.scope.names.lookup x=some .local) (hy:X.env.scope.names.lookup y=some .local) (ha:PA X [a,b] ta)
 (hw:swappedStores [.Tuple [.Name x px,.Name y py] kt pt] (.Tuple [a,b] k2 pt2) X.env=pure (some [x,y]))
 (hs:swapsWithSole [.Tuple [.Name x px,.Name y py] kt pt] (.Tuple [a,b] k2 pt2) pos.line X.env=pure false:=by rfl):
 PS X (.Assign [.Tuple [.Name x px,.Name y py] kt pt] (.Tuple [a,b] k2 pt2) pos) (an2 i j ta):=by
 intro pins s σ H D I h;rw[exec_Assign_arm];refine Aa (wpAny_standAt ?_);rw[hs];refine Aa (Ai ?_);rw[Ay (by decide)];refine Aa (Tuple_ (xj (ha _ pins s σ H _ I h) fun us s1 ⟨vs,H1,I1,r1,q1⟩=>?_));obtain⟨v,w,e1,q1⟩:=q1;subst e1;obtain⟨u1,u2,rfl,rv,rw'⟩:∃u1 u2,us=[u1,u2]/\zf v u1/\zf w u2:=by
  cases r1 with
  |cons p q=>
   cases q with
   |cons p' q'=>
    cases q';exact⟨_,_,rfl,p,p'⟩
 refine Bq ?_ (by show 2≤sizeLine;decide);have I2:z0 X pins σ H1 { s1 with heap:=s1.heap.push { cls:=.type "tuple",data:=.seq [u1,u2].toArray } }:=I1.kept (t':=s1.toks) fun b o e=>Heap.get?_push_of_some _ e;rw[hw];refine Aa (Ai ?_);show wpAny (model X.prog X.w) X.A (do rule "assign.swapped-stores";let items <-unpackItems (.ref s1.heap.objs.size) 2 none;assignInOrder [fun v=>bindName X.env y v,fun v=>bindName X.env x v] items.reverse;pure Flow.next) _ _ _;refine Aa (Bv (Aa (unpackItems_tuple (items:=#[u1,u2]) (I.ok.hd hc) (IsTup.new s1.heap _) fun h' hx'=>?_)));have I3:=I2.kept (h':=h') (t':=s1.toks) fun b o e=>hx' b o (A9 (Heap.lt_size e)) e;show wpAny _ _ (assignInOrder [fun v=>bindName X.env y v,fun v=>bindName X.env x v] [u2,u1] >>= fun _=>pure Flow.next) _ _ _;refine Aa (assignInOrder_cons (wpAny_bindName (fM I3 hN hj (.inl hy) rw' (fun s2 I4=>?_) (.inr hy))));refine assignInOrder_cons (wpAny_bindName (fM I4 hN hi (.inl hx) rv (fun s3 I5=>assignInOrder_nil (Ai ?_)) (.inr hx)));rw[List.set_comm _ _ (AK hij)] at I5;exact⟨_,H1,I5,q1⟩
end
section
def ahd(c:TT)(tb:TS):TS:=fun D σ H=>∃W:Nat->St->Hp->Prop,(∃m,W m σ H)/\∀m σ H,W m σ H->
 c σ H fun b H1=>if b=true then ∃N:St->Hp->Prop,(∀σ' H',N σ' H'->∃m',m'<m/\W m' σ' H')/\tb { D with nx:=N,ct:=N,bk:=D.nx } σ H1 else D.nx σ H1
theorem aau{tc:TT}{tb:TS}(hp:PassesOwn (model X.prog X.w) X.A X.env X.xe)(hc:PT X c tc)(hb:mD X body tb):PS X (.While c body [] pos) (ahd tc tb):=by
 intro pins s σ H D I h;obtain⟨W,⟨m0,w0⟩,turn⟩:=h;refine wpAny_While (codeAny_whileLoop (fun n s'=>∃σ' H',z0 X pins σ' H' s'/\W n σ' H') ?_ m0 ⟨σ,H,I,w0⟩);rintro n s1 ⟨σ1,H1,I1,w1⟩;refine wpAny_passesOwn hp (xj (hc pins s1 σ1 H1 _ I1 (turn n σ1 H1 w1)) fun b s2 ⟨H2,I2,q2⟩=>?_);cases b with
 |true=>
  obtain⟨N,hN,q2⟩:=q2;rw[AA rfl];refine wpAny_passesOwn hp (xj (hb pins s2 σ1 H2 _ I2 q2) fun f s3 q3=>?_);cases f with
  |next=>
   obtain⟨σ3,H3,I3,n3⟩:=q3;obtain⟨m',hm,w3⟩:=hN σ3 H3 n3;exact⟨m',hm,σ3,H3,I3,w3⟩
  |cont=>
   obtain⟨σ3,H3,I3,n3⟩:=q3;obtain⟨m',hm,w3⟩:=hN σ3 H3 n3;exact⟨m',hm,σ3,H3,I3,w3⟩
  |brk=>exact q3
  |ret v=>exact q3
 |false=>
  rw[Ay AB];exact wpAny_execs_nil ⟨σ1,H2,I2,q2⟩
end
structure It where
 go:Nat->Hp->Prop
 yld:Nat->Hp->V->Hp->Prop
 stop:Nat->Hp->Prop
def l0(X:Cx)(pins:List (Addr×Obj))(H:Hp)(b:Addr):Prop:=
 H b=none/\b≠X.env.locals/\b∉X.fs/\(b∈X.ex\/X.s₀.heap.objs.size≤b)/\(∀x c,X.env.cells.lookup x=some c->c≠b)/\∀p∈X.pn++pins,p.1≠b
theorem z0.fpOk{b:Addr}(I:z0 X pins σ H s)(hb:s.heap.objs.size≤b)(hn:H' b=none):l0 X pins H' b:=by
 refine⟨hn,CS (AM I.lt hb),I.nofs hb,.inr (AU I.sz hb),fun x c e z=>?_,fun p hp z=>?_⟩
 ·obtain⟨v,q⟩:=I.cell x c e;exact absurd (AM q.lt (by rw[z];exact hb)) (C9 _)
 ·exact absurd (AM (Heap.lt_size (I.pin p hp).1) (by rw[z];exact hb)) (C9 _)
structure yJ(P:Program)(w:World)(K:Ah)(tg:Expr)(J:It)(fp:List Addr)(it:Addr)(tn:Nat->Heap->Prop):Prop where
 mem:it∈fp
 obj:∀i h,tn i h->∀b∈fp,∃o,h.get? b=some o/\∀v,o.data≠.cell v
 keep:∀i h h',tn i h->(∀b∈fp,∀o,h.get? b=some o->h'.get? b=some o)->tn i h'
 item:∀(X:Cx),X.prog=P->X.w=w->X.K=K->X.calm=true->∀(i:Nat) (pins:List (Addr×Obj)) (s:Shared) (σ:St) (H:Hp) (E:Value->Shared->Prop),z0 X pins σ H s->(∀b∈fp,l0 X pins H b)->tn i s.heap->J.go i H->
  wpAny (model P w) X.A (pyNext (.ref it)) (fun r s1=>∃u,r=some u/\
   wpAny (model P w) X.A (letOwnedTupleGo tg (.ref it) u) (fun _ s2=>∃x H',z0 X pins σ H' s2/\zf x u/\J.yld i H x H'/\tn (i+1) s2.heap/\∀b∈fp,H' b=none) E s1) E s
 done:∀(X:Cx),X.prog=P->X.w=w->X.K=K->X.calm=true->∀(i:Nat) (pins:List (Addr×Obj)) (s:Shared) (σ:St) (H:Hp) (E:Value->Shared->Prop),z0 X pins σ H s->(∀b∈fp,l0 X pins H b)->tn i s.heap->J.stop i H->
  wpAny (model P w) X.A (pyNext (.ref it)) (fun r s1=>r=none/\z0 X pins σ H s1) E s
 self:∀(A:Around) (i:Nat) (s:Shared) (Q:Value->Shared->Prop) (E:Value->Shared->Prop),tn i s.heap->Q (.ref it) s->wpAny (model P w) A (pyIter (.ref it)) Q E s
abbrev TI:=St->Hp->(It->Hp->Prop)->Prop
def PIE(X:Cx)(pins:List (Addr×Obj))(σ:St)(tg:Expr)(R:It->Hp->Prop)(itv:Value)(s2:Shared):Prop:=
 ∃(it:Addr) (fp:List Addr) (tn:Nat->Heap->Prop) (J:It) (H':Hp),itv=.ref it/\z0 X pins σ H' s2/\yJ X.prog X.w X.K tg J fp it tn/\tn 0 s2.heap/\(∀b∈fp,l0 X pins H' b)/\R J H'
def PI(X:Cx)(tg iter:Expr)(wi:TI):Prop:=
 ∀(pins:List (Addr×Obj)) (s:Shared) (σ:St) (H:Hp) (R:It->Hp->Prop),z0 X pins σ H s->wi σ H R->
  wpAny (model X.prog X.w) X.A (eval iter X.env) (fun v s1=>wpAny (model X.prog X.w) X.A (pyIter v) (PIE X pins σ tg R) X.xe s1) X.xe s
theorem yb{o:Obj}{n:String}{vs:Array Value}{Q:Unit->Shared->Prop}(ho:s.heap.get? it=some o)(hc:o.cls=.type n)(hd:o.data=.fields vs)
 (hn:["enumerate", "zip", "dict_itemiterator", "dict_reverseitemiterator", "odict_iterator", "itertools.zip_longest", "itertools.pairwise"].contains n=false) (hQ:Q () s):wpAny M A (letOwnedTupleGo tg (.ref it) u) Q E s:=by
 unfold letOwnedTupleGo;cases tg<;>first
  |exact Ai hQ
  |(cases u<;>first
   |exact Ai hQ
   |(refine Aa (wpAny_load ho ?_)
     rw[hc,hd];show wpAny M A (if (["enumerate", "zip", "dict_itemiterator", "dict_reverseitemiterator", "odict_iterator", "itertools.zip_longest", "itertools.pairwise"].contains n&&vs[0]?==some (rawInt _))=true then _ else _) Q E s;rw[Ay (by intro h;rw[hn,Bool.false_and] at h;cases h)];exact Ai hQ))
def Itl(K:Ah)(a:Addr):It:=
 ⟨fun i H=>∃xs x,w4 K H a xs/\xs[i]?=some x,fun i H x H'=>H'=H/\∀xs,w4 K H a xs->xs[i]?=some x,fun i H=>∃xs,w4 K H a xs/\xs.length≤i⟩
def Itt(K:Ah)(a:Addr):It:=
 ⟨fun i H=>∃xs x,cJ K H a xs/\xs[i]?=some x,fun i H x H'=>H'=H/\∀xs,cJ K H a xs->xs[i]?=some x,fun i H=>∃xs,cJ K H a xs/\xs.length≤i⟩
def Itr(lo:Int)(n:Nat):It:=⟨fun i _=>i<n,fun i H x H'=>H'=H/\x=.int (lo+i),fun i _=>n≤i⟩
theorem vK{P:Program}{w:World}{K:Ah}(a it:Addr):yJ P w K tg (Itl K a) [it] it (fun i h=>h.IsListIter it a i) where
 mem:=by simp
 obj:=fun i h st b hb=>by
  have e:b=it:=by simpa using hb
  subst e;obtain⟨o,e,c,d⟩:=st;exact⟨o,e,fun v z=>by rw[d] at z;cases z⟩
 keep:=fun i h h' st k=>st.at fun o e=>k it (by simp) o e
 item:=by intro X hP hw hK hc i pins s σ H E I hf st hg;subst hP hw hK;obtain⟨xs,x,hq,hx⟩:=hg;obtain⟨its,rv,p,hz⟩:=I.list hq;obtain⟨u,hu,ru⟩:=rv.get hx;obtain⟨f0,f1,f2,f3,f4,f5⟩:=hf it (by simp);refine wpAny_pyNext_list_item st p.isList (x:=u) (by simpa using hu) fun h' st' sb=>?_;have I1:z0 X pins σ H { s with heap:=h' }:=I.turned (t':=s.toks) (fun b o hb e=>(sb.2 b hb).trans e) f0 f1 f3 f4 f5;obtain⟨o,e,c,d⟩:=id st';exact⟨u,rfl,yb (s:={ s with heap:=h' }) e c d (by decide) ⟨x,H,I1,ru,⟨rfl,fun ys hy=>by rw[I.list_inj hy hq];exact hx⟩,st',fun b hb=>(hf b hb).1⟩⟩
 done:=by intro X hP hw hK hc i pins s σ H E I hf st hg;subst hP hw hK;obtain⟨xs,hq,hx⟩:=hg;obtain⟨its,rv,p,hz⟩:=I.list hq;obtain⟨f0,f1,f2,f3,f4,f5⟩:=hf it (by simp);have hl:=rv.length;exact wpAny_pyNext_list_end (I.ok.hd hc) st p.isList (by simp;omega) fun h' eb=>⟨rfl,I.turned (t':=s.toks) (fun b o hb e=>eb b o hb e) f0 f1 f3 f4 f5⟩
 self:=fun _ _ _ _ _ st h=>wpAny_pyIter_listiter st h
theorem sh{P:Program}{w:World}{K:Ah}(a it:Addr):yJ P w K tg (Itt K a) [it] it (fun i h=>h.IsTupleIter it a i) where
 mem:=by simp
 obj:=fun i h st b hb=>by
  have e:b=it:=by simpa using hb
  subst e;obtain⟨o,e,c,d⟩:=st;exact⟨o,e,fun v z=>by rw[d] at z;cases z⟩
 keep:=fun i h h' st k=>st.at fun o e=>k it (by simp) o e
 item:=by intro X hP hw hK hc i pins s σ H E I hf st hg;subst hP hw hK;obtain⟨xs,x,hq,hx⟩:=hg;obtain⟨its,rv,p,hz⟩:=I.tuple hq;obtain⟨u,hu,ru⟩:=rv.get hx;obtain⟨f0,f1,f2,f3,f4,f5⟩:=hf it (by simp);refine wpAny_pyNext_tuple_item st (show s.heap.IsTuple a its.toArray from p) (x:=u) (by simpa using hu) fun h' st' sb=>?_;have I1:z0 X pins σ H { s with heap:=h' }:=I.turned (t':=s.toks) (fun b o hb e=>(sb.2 b hb).trans e) f0 f1 f3 f4 f5;obtain⟨o,e,c,d⟩:=id st';exact⟨u,rfl,yb (s:={ s with heap:=h' }) e c d (by decide) ⟨x,H,I1,ru,⟨rfl,fun ys hy=>by rw[I.tuple_inj hy hq];exact hx⟩,st',fun b hb=>(hf b hb).1⟩⟩
 done:=by intro X hP hw hK hc i pins s σ H E I hf st hg;subst hP hw hK;obtain⟨xs,hq,hx⟩:=hg;obtain⟨its,rv,p,hz⟩:=I.tuple hq;obtain⟨f0,f1,f2,f3,f4,f5⟩:=hf it (by simp);have hl:=rv.length;exact wpAny_pyNext_tuple_end (I.ok.hd hc) st (show s.heap.IsTuple a its.toArray from p) (by simp;omega) fun h' eb=>⟨rfl,I.turned (t':=s.toks) (fun b o hb e=>eb b o hb e) f0 f1 f3 f4 f5⟩
 self:=fun _ _ _ _ _ st h=>wpAny_pyIter_tupleiter st h
theorem tR{P:Program}{w:World}{K:Ah}(it:Addr)(lo:Int)(n:Nat):yJ P w K tg (Itr lo n) [it] it (fun i h=>IsRangeIter h it (lo+(i:Nat)*1) ((n:Int) - (i:Nat)) 1) where
 mem:=by simp
 obj:=fun i h st b hb=>by
  have e:b=it:=by simpa using hb
  subst e;exact⟨_,st,fun v z=>by have z':Data.fields _=Data.cell v:=z;cases z'⟩
 keep:=fun i h h' st k=>k it (by simp) _ st
 item:=by intro X hP hw hK hc i pins s σ H E I hf st hg;subst hP hw hK;obtain⟨f0,f1,f2,f3,f4,f5⟩:=hf it (by simp);have W:=Walks.range (prog:=X.prog) (w:=X.w) (I.ok.hd hc) it lo 1 n;refine jm I.tk (W.item i s _ _ hg st fun v h' tk hv st' kk ht=>?_);obtain⟨t,rfl⟩:=hv;have I1:z0 X pins σ H { s with heap:=h',toks:=tk }:=I.turned (fun b o hb e=>kk b o (by simpa using hb) e) f0 f1 f3 f4 f5;refine⟨_,rfl,yb (s:={ s with heap:=h',toks:=tk }) (n:="range_iterator") st' rfl rfl (by decide) ⟨.int (lo+i),H,I1,⟨t,?_⟩,⟨rfl,rfl⟩,st',fun b hb=>(hf b hb).1⟩⟩;rw[Int.mul_one]
 done:=by intro X hP hw hK hc i pins s σ H E I hf st hg;subst hP hw hK;obtain⟨f0,f1,f2,f3,f4,f5⟩:=hf it (by simp);exact wpAny_pyNext_range_end (I.ok.hd hc) st (by have:n≤i:=hg;omega) fun h' eb=>⟨rfl,I.turned (t':=s.toks) (fun b o hb e=>eb b o hb e) f0 f1 f3 f4 f5⟩
 self:=fun _ _ _ _ _ st h=>wpAny_pyIter_rangeiter st h
end L2
variable {wi:L2.TI}
namespace L2
open PySem PySem.Spec PyProof.Rows
section
def ajy(K:Ah)(tl:TE):TI:=fun σ H R=>tl σ H fun x H1=>∃a,x=.ref a/\(∃xs,w4 K H1 a xs)/\R (Itl K a) H1
def aog(K:Ah)(tl:TE):TI:=fun σ H R=>tl σ H fun x H1=>∃a,x=.ref a/\(∃xs,cJ K H1 a xs)/\R (Itt K a) H1
theorem aeo{l:Expr}{tl:TE}(hl:PE X l tl):PI X tg l (ajy X.K tl):=by
 intro pins s σ H R I h;refine xj (hl pins s σ H _ I h) fun v s1 ⟨x,H1,I1,r1,q1⟩=>?_;obtain⟨a,e,⟨xs,hq⟩,q⟩:=q1;subst e;cases r1;obtain⟨its,rv,p,hz⟩:=I1.list hq;refine wpAny_pyIter_list p.isList ?_;refine⟨s1.heap.objs.size,[s1.heap.objs.size],_,_,H1,rfl,I1.kept (t':=s1.toks) fun b o e=>Heap.get?_push_of_some _ e,vK a _,⟨_,Heap.get?_push_size _ rfl,rfl,rfl⟩,fun b hb=>?_,q⟩;have e:b=s1.heap.objs.size:=by simpa using hb
 subst e;exact I1.fpOk (Al _) (I1.hok.fresh (Al _))
theorem ain{l:Expr}{tl:TE}(hl:PE X l tl):PI X tg l (aog X.K tl):=by
 intro pins s σ H R I h;refine xj (hl pins s σ H _ I h) fun v s1 ⟨x,H1,I1,r1,q1⟩=>?_;obtain⟨a,e,⟨xs,hq⟩,q⟩:=q1;subst e;cases r1;obtain⟨its,rv,p,hz⟩:=I1.tuple hq;refine wpAny_pyIter_tuple (show s1.heap.IsTuple a its.toArray from p) ?_;refine⟨s1.heap.objs.size,[s1.heap.objs.size],_,_,H1,rfl,I1.kept (t':=s1.toks) fun b o e=>Heap.get?_push_of_some _ e,sh a _,⟨_,Heap.get?_push_size _ rfl,rfl,rfl⟩,fun b hb=>?_,q⟩;have e:b=s1.heap.objs.size:=by simpa using hb
 subst e;exact I1.fpOk (Al _) (I1.hok.fresh (Al _))
theorem aaq{R:It->Hp->Prop}{hi:Int}{t u v:Tok}{tk:Nat}(I:z0 X pins σ H s)(h1 : -(2 ^ 62)≤lo)(h2:lo<2 ^ 62)(h3 : -(2 ^ 62)≤hi)(h4:hi<2 ^ 62)
 (q:R (Itr lo (hi - lo).toNat) H) (ht:0<tk:=by walk_at "t"):wpAny (model X.prog X.w) X.A (pyIter (.ref s.heap.objs.size)) (PIE X pins σ tg R) E { s with heap:=s.heap.push { cls:=.type "range",data:=.fields #[.int lo t,.int hi u,.int 1 v] },toks:=tk }:=by
 refine wpAny_pyIter_range (IsRange.new ..) (small_one h1 h2 h3 h4) ?_;have I1:z0 X pins σ H { s with heap:=s.heap.push { cls:=.type "range",data:=.fields #[.int lo t,.int hi u,.int 1 v] },toks:=tk }:=I.kept fun b o e=>Heap.get?_push_of_some _ e;refine⟨(s.heap.push { cls:=.type "range",data:=.fields #[.int lo t,.int hi u,.int 1 v] }).objs.size,[(s.heap.push { cls:=.type "range",data:=.fields #[.int lo t,.int hi u,.int 1 v] }).objs.size],_,_,H,rfl,
  I1.kept (t':=tk) fun b o e=>Heap.get?_push_of_some _ e,tR _ lo (hi - lo).toNat,?_,fun b hb=>?_,q⟩
 ·have e1:lo+((0:Nat):Int)*1=lo:=by simp
  have e2:(((hi - lo).toNat:Nat):Int) - ((0:Nat):Int)=Builtin.Range.rangeSize lo hi 1:=by rw[rangeSize_one];split<;>omega
  show IsRangeIter _ _ (lo+((0:Nat):Int)*1) ((((hi - lo).toNat:Nat):Int) - ((0:Nat):Int)) 1;rw[e1,e2];exact Heap.get?_push_size _ rfl
 ·have e:b=(s.heap.push { cls:=.type "range",data:=.fields #[.int lo t,.int hi u,.int 1 v] }).objs.size:=by simpa using hb
  subst e;exact I1.fpOk (Al _) (I1.hok.fresh (Al _))
def ak2(ta:TA):TI:=fun σ H R=>ta σ H fun vs H1=>∃j:Int,vs=[.int j] /\ -(2 ^ 62)≤j/\j<2 ^ 62/\R (Itr 0 j.toNat) H1
theorem vR{a:Expr}{ta:TA}(hg:Gl X "range")(hm:X.mg "range" = none)(ha:PA X [a] ta)(hs:starEach [a] X.env=[(false,eval a X.env)]:=by rfl):PI X tg (.Call (.Name "range" p) [a] [] pos) (ak2 ta):=by
 intro pins s σ H R I h;refine Call_ (bR I hg hm boot_range (BR (xj (ha pos pins s σ H _ I h) fun us s1 ⟨vs,H1,I1,r1,q1⟩=>?_) hs rfl));obtain⟨j,e,q1,q2,q⟩:=q1;subst e;cases r1 with
 |cons r rr=>
  cases rr;obtain⟨t,rfl⟩:=r;exact call_range_1 (aaq I1 (by omega) (by omega) q1 q2 (by simpa using q))
def anq(wi:TI)(g:TG)(tb:TS):TS:=fun D σ H=>wi σ H fun J H1=>∃W:Nat->Nat->St->Hp->Prop,(∃m,W 0 m σ H1)/\∀i m σ H,W i m σ H->
 (J.stop i H/\D.nx σ H)\/(J.go i H/\∃N:St->Hp->Prop,(∀σ' H',N σ' H'->∃m',m'<m/\W (i+1) m' σ' H')/\∀x H',J.yld i H x H'->g x σ H' fun σ2 H2=>tb { D with nx:=N,ct:=N,bk:=D.nx } σ2 H2)
def jE(fp:List Addr)(h:Heap):List (Addr×Obj):=fp.filterMap fun b=>(h.get? b).map fun o=>(b,o)
theorem cA{b:Addr}{o:Obj}(hb:b∈fp)(e:h.get? b=some o):(b,o)∈jE fp h:=List.mem_filterMap.mpr ⟨b,hb,by rw[e];rfl⟩
theorem vP{p:Addr×Obj}(hp:p∈jE fp h):p.1∈fp/\h.get? p.1=some p.2:=by
 obtain⟨b,hb,e⟩:=List.mem_filterMap.mp hp;cases q:h.get? b with
 |none=>rw[q] at e;cases e
 |some o=>
  rw[q] at e;have e':(b,o)=p:=Ba e;subst e';exact⟨hb,q⟩
theorem z0.pinned(I:z0 X pins σ H s)(hf:∀b∈fp,l0 X pins H b)(ho:∀b∈fp,∃o,s.heap.get? b=some o/\∀v,o.data≠.cell v):z0 X (pins++jE fp s.heap) σ H s:=
 I.pins_of fun p hp=>(Ak.mp hp).elim (fun z=>I.pin p (Af _ z)) fun z=>by obtain⟨hb,e⟩:=vP z;obtain⟨f0,f1,f2,_⟩:=hf p.1 hb;obtain⟨o,e',d⟩:=ho p.1 hb;rw[e] at e';cases e';exact⟨e,f0,f1,f2,d⟩
theorem z0.unpinned{pl:List (Addr×Obj)}(I:z0 X (pins++pl) σ H s):z0 X pins σ H s:=I.pins_of fun p hp=>I.pin p (Af _ (Av _ hp))
theorem aim{iter:Expr}{g:TG}{tb:TS}(hp:PassesOwn (model X.prog X.w) X.A X.env X.xe)(hc:X.calm=true)(hi:PI X tg iter wi)(hg:PG X tg g)(hb:mD X body tb)
 (hs:∀x,foldedSetIterable iter X.env x=pure x:=by intro _;rfl):PS X (.For tg iter body [] pos) (anq wi g tb):=by
 intro pins s σ H D I h;refine wpAny_For (xj (hi pins s σ H _ I h) fun v s1 h1=>xj h1 fun itv s2 h2=>?_) hs;obtain⟨it,fp,tn,J,H2,e,I2,T,st2,f2,W,⟨m0,w0⟩,turn⟩:=h2;subst e;have stat:∀{H':Hp},(∀b∈fp,H' b=none)->∀b∈fp,l0 X pins H' b:=fun hn b hb=>⟨hn b hb,(f2 b hb).2⟩;refine codeAny_forLoop_any (fun n s'=>∃i σ' H',z0 X pins σ' H' s'/\tn i s'.heap/\(∀b∈fp,H' b=none)/\W i n σ' H') ?_ m0 ⟨0,σ,H2,I2,st2,fun b hb=>(f2 b hb).1,w0⟩;rintro n s3 ⟨i,σ3,H3,I3,st3,fr3,w3⟩;rcases turn i n σ3 H3 w3 with⟨stop,qn⟩ | ⟨go,N,hN,step⟩
 ·refine wpAny_passesOwn hp (xj (T.done X rfl rfl rfl hc i pins s3 σ3 H3 X.xe I3 (stat fr3) st3 stop) fun r s4 ⟨hr,I4⟩=>?_);subst hr;exact wpAny_execs_nil ⟨σ3,H3,I4,qn⟩
 ·refine wpAny_passesOwn hp (xj (T.item X rfl rfl rfl hc i pins s3 σ3 H3 X.xe I3 (stat fr3) st3 go) fun r s4 ⟨u,hr,h4⟩=>?_);subst hr;refine wpAny_passesOwn hp (xj h4 fun _ s5 ⟨x,H5,I5,r5,y5,st5,fr5⟩=>?_);have I5':=I5.pinned (stat fr5) (T.obj _ _ st5);refine wpAny_passesOwn hp (xj (hg _ s5 σ3 H5 x u _ I5' r5 (step x H5 y5)) fun _ s6 ⟨σ6,H6,I6,q6⟩=>?_);refine wpAny_passesOwn hp (xj (hb _ s6 σ6 H6 _ I6 q6) fun f s7 q7=>?_);have again:∀{σ7:St} {H7:Hp},z0 X (pins++jE fp s5.heap) σ7 H7 s7->N σ7 H7->∃m,m<n/\∃i σ' H',z0 X pins σ' H' s7/\tn i s7.heap/\(∀b∈fp,H' b=none)/\W i m σ' H':=fun {σ7 H7} I7 n7=>by obtain⟨m',hm,w7⟩:=hN σ7 H7 n7;refine⟨m',hm,i+1,σ7,H7,I7.unpinned,T.keep _ _ _ st5 fun b hb o e=>(I7.pin (b,o) (Af _ (Af _ (cA hb e)))).1,fun b hb=>?_,w7⟩;obtain⟨o,e,d⟩:=T.obj _ _ st5 b hb;exact(I7.pin (b,o) (Af _ (Af _ (cA hb e)))).2.1
  cases f with
  |next=>obtain⟨σ7,H7,I7,n7⟩:=q7;exact again I7 n7
  |cont=>obtain⟨σ7,H7,I7,n7⟩:=q7;exact again I7 n7
  |brk=>obtain⟨σ7,H7,I7,q7⟩:=q7;exact⟨σ7,H7,I7.unpinned,q7⟩
  |ret v=>obtain⟨x7,σ7,H7,I7,r7,q7⟩:=q7;exact⟨x7,σ7,H7,I7.unpinned,r7,q7⟩
end
abbrev R2:=V->V->Hp->VK->Prop
def vm(X:Cx)(f:Value->Value->Sem Value)(r:R2):Prop:=
 ∀(pins:List (Addr×Obj)) (s:Shared) (σ:St) (H:Hp) (x y:V) (v u:Value) (Q:VK),z0 X pins σ H s->zf x v->zf y u->r x y H Q->
  wpAny (model X.prog X.w) X.A (f v u) (EP X pins σ Q) X.xe s
def ji(X:Cx)(f:Value)(r:List V->Hp->VK->Prop):Prop:=
 ∀(pins:List (Addr×Obj)) (s:Shared) (σ:St) (H:Hp) (xs:List V) (us:List Value) (Q:VK),z0 X pins σ H s->ze xs us->r xs H Q->
  wpAny (model X.prog X.w) X.A (call f us) (EP X pins σ Q) X.xe s
def tOp(r:R2)(ta tb:TE):TE:=fun σ H Q=>ta σ H fun x H1=>tb σ H1 fun y H2=>r x y H2 Q
def rI(C:Int->Int->Prop)(g:Int->Int->V):R2:=fun x y H Q=>∃i j,x=.int i/\y=.int j/\C i j/\Q (g i j) H
def rI0(g:Int->Int->V):R2:=fun x y H Q=>∃i j,x=.int i/\y=.int j/\Q (g i j) H
section
variable {a b:Expr}{tb tc:TE} 
theorem ahx(ha:PE X a ta)(hb:PE X b tb){R:V->V->Hp->Prop}(I:z0 X pins σ H s)
 (h:ta σ H fun x H1=>tb σ H1 fun y H2=>R x y H2) {f:Value->Value->Sem Value}
 (hf:∀v u s2 x y H2,z0 X pins σ H2 s2->zf x v->zf y u->R x y H2->wpAny (model X.prog X.w) X.A (f v u) Q X.xe s2):
 wpAny (model X.prog X.w) X.A (eval a X.env) (fun v s₁=>wpAny (model X.prog X.w) X.A (eval b X.env) (fun u s₂=>wpAny (model X.prog X.w) X.A (f v u) Q X.xe s₂) X.xe s₁) X.xe s:=by
 refine xj (ha pins s σ H _ I h) fun v s1 ⟨x,H1,I1,r1,q1⟩=>?_;refine xj (hb pins s1 σ H1 _ I1 q1) fun u s2 ⟨y,H2,I2,r2,q2⟩=>?_;exact hf v u s2 x y H2 I2 r1 r2 q2
theorem ajl{op:Operator}{r:R2}(ho:vm X (binaryOp op) r)(ha:PE X a ta)(hb:PE X b tb):PE X (.BinOp a op b pos) (tOp r ta tb):=by intro pins s σ H Q I h;exact wpAny_BinOp (ahx ha hb I h fun v u s2 x y H2 I2 rx ry q=>ho pins s2 σ H2 x y v u Q I2 rx ry q)
theorem opI{f:Value->Value->Sem Value}{C:Int->Int->Prop}{g:Int->Int->Int}
 (rule:∀(i j:Int) (t u:Tok) (s:Shared) (Q:Value->Shared->Prop) (E:Value->Shared->Prop),C i j->Q (.int (g i j) s.toks) { s with toks:=s.toks+1 }->wpAny (model X.prog X.w) X.A (f (.int i t) (.int j u)) Q E s):
 vm X f (rI C fun i j=>.int (g i j)):=by
 intro pins s σ H x y v u Q I rx ry h;obtain⟨i,j,rfl,rfl,hc,q⟩:=h;obtain⟨t,rfl⟩:=rx;obtain⟨t',rfl⟩:=ry;exact rule i j t t' s _ _ hc ⟨.int (g i j),H,I.tok _,⟨_,rfl⟩,q⟩
theorem alj{f:Value->Value->Sem Value}{g:Int->Int->Int}
 (rule:∀(i j:Int) (t u:Tok) (s:Shared) (Q:Value->Shared->Prop) (E:Value->Shared->Prop),Q (.int (g i j) s.toks) { s with toks:=s.toks+1 }->wpAny (model X.prog X.w) X.A (f (.int i t) (.int j u)) Q E s):
 vm X f (rI0 fun i j=>.int (g i j)):=by
 intro pins s σ H x y v u Q I rx ry h;obtain⟨i,j,rfl,rfl,q⟩:=h;obtain⟨t,rfl⟩:=rx;obtain⟨t',rfl⟩:=ry;exact rule i j t t' s _ _ ⟨.int (g i j),H,I.tok _,⟨_,rfl⟩,q⟩
theorem ahq{f:Value->Value->Sem Value}{g:Int->Int->Bool}
 (rule:∀(i j:Int) (t u:Tok) (s:Shared) (Q:Value->Shared->Prop) (E:Value->Shared->Prop),Q (.bool (g i j)) s->wpAny (model X.prog X.w) X.A (f (.int i t) (.int j u)) Q E s):
 vm X f (rI0 fun i j=>.bl (g i j)):=by
 intro pins s σ H x y v u Q I rx ry h;obtain⟨i,j,rfl,rfl,q⟩:=h;obtain⟨t,rfl⟩:=rx;obtain⟨t',rfl⟩:=ry;exact rule i j t t' s _ _ ⟨.bl (g i j),H,I,rfl,q⟩
def aio(i j:Int):Prop:=0<j/\j<1073741824
def agu(i j:Int):Prop:=0≤j/\j≤1000000/\i.natAbs<2 ^ 64
def zJ(i j:Int):Prop:=(-(2 ^ 64)<i/\i<2 ^ 64)\/(-(2 ^ 64)<j/\j<2 ^ 64)
theorem zJ.ok{i j:Int}(h:zJ i j):IntMulOk i j:=by
 rcases h with⟨h1,h2⟩ | ⟨h1,h2⟩
 ·exact .of_left (intBits_le_64 h1 h2)
 ·exact .of_right (intBits_le_64 h1 h2)
theorem ahl:vm X (binaryOp .Add) (rI0 fun i j=>.int (i+j)):=alj fun _ _ _ _ _ _ _ q=>add_int q
theorem ah0:vm X (binaryOp .Sub) (rI0 fun i j=>.int (i - j)):=alj fun _ _ _ _ _ _ _ q=>sub_int q
theorem aj7:vm X (binaryOp .Mult) (rI zJ fun i j=>.int (i*j)):=opI fun _ _ _ _ _ _ _ hc q=>mul_int q hc.ok
theorem ae4:vm X (binaryOp .FloorDiv) (rI aio fun i j=>.int (i / j)):=opI fun i j _ _ _ _ _ hc q=>by have h1:(0:Int)<j:=hc.1;have h2:j<1073741824:=hc.2;exact floordiv_int (by omega) (by rw[Int.fdiv_eq_ediv_of_nonneg i (by omega)];exact q) (.inl (PyProof.noPylong_small (by omega)))
theorem ag2:vm X (binaryOp .Mod) (rI (fun _ j=>0<j) fun i j=>.int (i % j)):=opI fun i j _ _ _ _ _ hc q=>by have h1:(0:Int)<j:=hc;exact mod_int' (by omega) (by rw[Int.fmod_eq_emod_of_nonneg i (by omega)];exact q)
theorem agx:vm X (binaryOp .Pow) (rI agu fun i j=>.int (i ^ j.toNat)):=opI fun _ _ _ _ _ _ _ hc q=>pow_int_small hc.1 hc.2.1 hc.2.2 q
end
def aey:V->V->Bool
 |.non,.non=>true | .non,.int _=>true | .int _,.non=>true | .non,.bl _=>true | .bl _,.non=>true | .non,.str _=>true | .str _,.non=>true
 |.int _,.int _=>true | .bl _,.bl _=>true | .str _,.str _=>true | .byt _,.byt _=>true
 |.int _,.str _=>true | .str _,.int _=>true | .bl _,.str _=>true | .str _,.bl _=>true
 |_,_=>false
def rEq:R2:=fun x y H Q=>aey x y=true/\Q (.bl (decide (x=y))) H
def rNe:R2:=fun x y H Q=>aey x y=true/\Q (.bl (!decide (x=y))) H
theorem uQ{i j:Int}:decide (V.int i=V.int j)=(i==j):=by rw[BF];simp
theorem ye{i j:Bool}:decide (V.bl i=V.bl j)=(i==j):=by rw[BF];simp
theorem uk{i j:Str}:decide (V.str i=V.str j)=(i==j):=by rw[BF];simp
theorem uV{i j:Array UInt8}:decide (V.byt i=V.byt j)=(i.toList==j.toList):=by rw[BF];cases i;cases j;simp
section
variable {a b:Expr}{tb tc:TE} 
theorem j9{Q:VK}{k k':Bool}(I:z0 X pins σ H s)(q:Q (.bl k) H)(e:k=k'):EP X pins σ Q (.bool k') s:=by subst e;exact⟨.bl k,H,I,rfl,q⟩
theorem afn:vm X (compareOp .Eq) rEq:=by
 intro pins s σ H x y v u Q I rx ry h;obtain⟨hs,q⟩:=h;cases x with
 |non=>
  cases rx;cases y with
  |non=>cases ry;exact PySem.EqNone.eq_none_none (j9 I q (by simp))
  |bl j=>cases ry;exact PySem.EqNone.eq_none_bool (j9 I q (by simp))
  |int j=>obtain⟨t',rfl⟩:=ry;exact PySem.EqNone.eq_none_int (j9 I q (by simp))
  |str j=>obtain⟨t',rfl⟩:=ry;exact PySem.EqNone.eq_none_str (j9 I q (by simp))
  |_=>exact absurd (show false=true from hs) AB
 |bl i=>
  cases rx;cases y with
  |non=>cases ry;exact PySem.EqNone.eq_bool_none (j9 I q (by simp))
  |bl j=>cases ry;exact eq_bool (j9 I q ye)
  |str j=>obtain⟨t',rfl⟩:=ry;exact PySem.EqMixed.eq_bool_str (j9 I q (by simp))
  |_=>exact absurd (show false=true from hs) AB
 |int i=>
  obtain⟨t,rfl⟩:=rx;cases y with
  |non=>cases ry;exact PySem.EqNone.eq_int_none (j9 I q (by simp))
  |int j=>obtain⟨t',rfl⟩:=ry;exact eq_int (j9 I q uQ)
  |str j=>obtain⟨t',rfl⟩:=ry;exact PySem.EqMixed.eq_int_str (j9 I q (by simp))
  |_=>exact absurd (show false=true from hs) AB
 |str i=>
  obtain⟨t,rfl⟩:=rx;cases y with
  |non=>cases ry;exact PySem.EqNone.eq_str_none (j9 I q (by simp))
  |bl j=>cases ry;exact PySem.EqMixed.eq_str_bool (j9 I q (by simp))
  |int j=>obtain⟨t',rfl⟩:=ry;exact PySem.EqMixed.eq_str_int (j9 I q (by simp))
  |str j=>obtain⟨t',rfl⟩:=ry;exact eq_str (j9 I q uk)
  |_=>exact absurd (show false=true from hs) AB
 |byt i=>
  obtain⟨t,rfl⟩:=rx;cases y with
  |byt j=>obtain⟨t',rfl⟩:=ry;exact PySem.W.eq_bytes (j9 I q uV)
  |_=>exact absurd (show false=true from hs) AB
 |_=>cases y<;>exact absurd (show false=true from hs) AB
theorem aff:vm X (compareOp .NotEq) rNe:=by
 intro pins s σ H x y v u Q I rx ry h;obtain⟨hs,q⟩:=h;cases x with
 |non=>
  cases rx;cases y with
  |non=>cases ry;exact PySem.EqNone.ne_none_none (j9 I q (by simp))
  |bl j=>cases ry;exact PySem.EqNone.ne_none_bool (j9 I q (by simp))
  |int j=>obtain⟨t',rfl⟩:=ry;exact PySem.EqNone.ne_none_int (j9 I q (by simp))
  |str j=>obtain⟨t',rfl⟩:=ry;exact PySem.EqNone.ne_none_str (j9 I q (by simp))
  |_=>exact absurd (show false=true from hs) AB
 |bl i=>
  cases rx;cases y with
  |non=>cases ry;exact PySem.EqNone.ne_bool_none (j9 I q (by simp))
  |bl j=>cases ry;exact ne_bool (j9 I q (BM not ye))
  |str j=>obtain⟨t',rfl⟩:=ry;exact PySem.EqMixed.ne_bool_str (j9 I q (by simp))
  |_=>exact absurd (show false=true from hs) AB
 |int i=>
  obtain⟨t,rfl⟩:=rx;cases y with
  |non=>cases ry;exact PySem.EqNone.ne_int_none (j9 I q (by simp))
  |int j=>obtain⟨t',rfl⟩:=ry;exact ne_int (j9 I q (BM not uQ))
  |str j=>obtain⟨t',rfl⟩:=ry;exact PySem.EqMixed.ne_int_str (j9 I q (by simp))
  |_=>exact absurd (show false=true from hs) AB
 |str i=>
  obtain⟨t,rfl⟩:=rx;cases y with
  |non=>cases ry;exact PySem.EqNone.ne_str_none (j9 I q (by simp))
  |bl j=>cases ry;exact PySem.EqMixed.ne_str_bool (j9 I q (by simp))
  |int j=>obtain⟨t',rfl⟩:=ry;exact PySem.EqMixed.ne_str_int (j9 I q (by simp))
  |str j=>obtain⟨t',rfl⟩:=ry;exact ne_str (j9 I q (BM not uk))
  |_=>exact absurd (show false=true from hs) AB
 |byt i=>
  obtain⟨t,rfl⟩:=rx;cases y with
  |byt j=>obtain⟨t',rfl⟩:=ry;exact PySem.W.ne_bytes (j9 I q (BM not uV))
  |_=>exact absurd (show false=true from hs) AB
 |_=>cases y<;>exact absurd (show false=true from hs) AB
theorem ajn:vm X (compareOp .Lt) (rI0 fun i j=>.bl (decide (i<j))):=ahq fun _ _ _ _ _ _ _ q=>lt_int q
theorem alo:vm X (compareOp .LtE) (rI0 fun i j=>.bl (decide (i≤j))):=ahq fun _ _ _ _ _ _ _ q=>le_int q
theorem al9:vm X (compareOp .Gt) (rI0 fun i j=>.bl (decide (j<i))):=ahq fun _ _ _ _ _ _ _ q=>gt_int q
theorem xz(b:Expr){op:CmpOp}(h:op≠.In:=by decide)(h2:op≠.NotIn:=by decide):behindInMarks op b=false:=by
 have e1:(op==CmpOp.In)=false:=by cases op<;>first | rfl | exact absurd rfl h
 have e2:(op==CmpOp.NotIn)=false:=by cases op<;>first | rfl | exact absurd rfl h2
 cases b<;>simp[behindInMarks,e1,e2]
theorem adz{op:CmpOp}{r:R2}(ho:vm X (compareOp op) r)(ha:PE X a ta)(hb:PE X b tb)(hm:behindInMarks op b=false):PE X (.Compare a [op] [b] pos) (tOp r ta tb):=by intro pins s σ H Q I h;exact wpAny_Compare1 (ahx ha hb I h fun v u s2 x y H2 I2 rx ry q=>ho pins s2 σ H2 x y v u Q I2 rx ry q) hm
def zD(t:TE):TT:=fun σ H Q=>t σ H fun x H'=>∃k,x=.bl k/\Q k H'
theorem af2{op:CmpOp}{r:R2}(ho:vm X (compareOp op) r)(ha:PE X a ta)(hb:PE X b tb)(hm:behindInMarks op b=false):PT X (.Compare a [op] [b] pos) (zD (tOp r ta tb)):=by
 intro pins s σ H Q I h;refine wpAny_isTrue_Compare1 (xj (ha pins s σ H _ I h) fun v s1 ⟨x,H1,I1,r1,q1⟩=>xj (hb pins s1 σ H1 _ I1 q1) fun u s2 ⟨y,H2,I2,r2,q2⟩=>
  xj (ho pins s2 σ H2 x y v u _ I2 r1 r2 q2) fun c s3 ⟨z,H3,I3,r3,k,e,q3⟩=>?_) hm
 subst e;cases r3;exact wpAny_truthy_bool ⟨H3,I3,q3⟩
theorem gG:(sizeLine:Nat)<2 ^ 63:=by rw[sizeLine_eq];decide
theorem s9:vm X (binaryOp .Add) (fun x y H Q=>∃i j,x=.str i/\y=.str j/\i.length+j.length≤sizeLine/\Q (.str (i++j)) H):=by intro pins s σ H x y v u Q I rx ry h;obtain⟨i,j,rfl,rfl,hz,q⟩:=h;obtain⟨t,rfl⟩:=rx;obtain⟨t',rfl⟩:=ry;exact jm I.tk (add_str (fun t' tk ht=>⟨.str (i++j),H,I.tok _,⟨_,rfl⟩,q⟩) hz)
theorem gq{x:V}(r:ze [x] us):∃u,us=[u]/\zf x u:=by cases r with|cons r1 r2=>cases r2;exact⟨_,rfl,r1⟩
theorem afw{x y:V}(r:ze [x,y] us):∃u w',us=[u,w']/\zf x u/\zf y w':=by
 cases r with
 |cons r1 r2=>
  cases r2 with|cons r3 r4=>cases r4;exact⟨_,_,rfl,r1,r3⟩
theorem vD(hc:X.calm=true):ji X (.builtin "max") (fun xs H Q=>∃i j,xs=[.int i,.int j]/\Q (.int (if j > i then j else i)) H):=by
 intro pins s σ H xs us Q I r h;obtain⟨i,j,rfl,q⟩:=h;obtain⟨u,w',rfl,⟨t,rfl⟩,⟨t',rfl⟩⟩:=afw r;refine jm I.tk (max_two_ints (I.ok.hd hc) fun h' tk k ht=>⟨_,H,I.kept k,?_,q⟩);by_cases hj:j > i
 ·rw[AA hj,AA hj];exact⟨_,rfl⟩
 ·rw[Ay hj,Ay hj];exact⟨_,rfl⟩
theorem vS(hc:X.calm=true):ji X (.builtin "min") (fun xs H Q=>∃i j,xs=[.int i,.int j]/\Q (.int (if j<i then j else i)) H):=by
 intro pins s σ H xs us Q I r h;obtain⟨i,j,rfl,q⟩:=h;obtain⟨u,w',rfl,⟨t,rfl⟩,⟨t',rfl⟩⟩:=afw r;refine jm I.tk (min_two_ints (I.ok.hd hc) fun h' tk k ht=>⟨_,H,I.kept k,?_,q⟩);by_cases hj:j<i
 ·rw[AA hj,AA hj];exact⟨_,rfl⟩
 ·rw[Ay hj,Ay hj];exact⟨_,rfl⟩
end
structure aik(h:Heap)(x dx C:Addr)(mA:Str->Option Value):Prop where
 obj:h.get? x=some (PySem.W.instObj C dx)
 ns:h.Ns1 dx mA
 ne:dx≠x
theorem xE(n:h.Ns1 dx mA):∃od,h.get? dx=some od/\∀name,PySem.W.lookIn name od=some (mA name):=by
 obtain⟨o,es,ep,ho,hd,hk,_,hm⟩:=n;refine⟨o,ho,fun name=>?_⟩;have e:=hm name;unfold nsFind findBy at e;rw[<-Array.find?_toList] at e;unfold PySem.W.lookIn;rw[hd];dsimp only;split
 ·rename_i y q;rw[q] at e;exact BM some e
 ·rename_i q;rw[q] at e;have a:es.toList.any (·.refKey)=false:=by rw[List.any_eq_false];intro y hy;obtain⟨z,t,hkey⟩:=hk y (Array.mem_toList_iff.mp hy);simp[DictEntry.refKey,hkey]
  have a':¬es.toList.any (·.refKey)=true:=by rw[a];exact AB
  rw[Ay a'];exact BM some e
theorem aik.look{x:Addr}(I:aik h x dx C mA):∃od,PySem.W.InstAt h x (PySem.W.instObj C dx) C (some od)/\∀name,PySem.W.lookIn name od=some (mA name):=
 let ⟨od,ho,hl⟩:=xE I.ns
 ⟨od,⟨I.obj,rfl,rfl,ho⟩,hl⟩
section
variable {w:World}{K:Ah}{x:Addr}{v:Value}
end
theorem g9.some_of{o:Option Value}(r:g9 (some v) o):∃u,o=some u/\zf v u:=by cases o with|none=>exact(show False from r).elim|some u=>exact⟨u,rfl,r⟩
abbrev EM:=@g9.some_of
section
variable {P:Program}{w:World}{a:Addr}{fs fs':List (Str×V)}
theorem ac5(hok:dq P w H h)(e:H a=some (.ins C dx fs)):∃mA,aik h a dx C mA/\(∀f,g9 (fs.lookup f) (mA f))/\PySem.Within mA (fs.map (·.1))/\fs.length≤1000/\H dx=some (.own a):=by obtain⟨d,z,ne,ob,mA,n,r,q⟩:=(show xa P w H h a (.ins C dx fs) from hok a _ e);exact⟨mA,⟨ob,n,ne⟩,r,q,z,d⟩
end
structure Cls(K:Ah)(C:Addr):Prop where
 pg:PySem.W.plainGet K C Str.empty=true
 hd:PySem.W.hasDictIn K C=true
 po:PySem.W.plainOver K C=true
 sa:PySem.W.findIn K (.ref C) "__setattr__" = some (some (.builtin "object.__setattr__"))
theorem Cls.get{K:Ah}(c:Cls K C)(f:Str):PySem.W.plainGet K C f=true:=c.pg
section
variable {a:Addr}{fs:List (Str×V)}{f:Str} 
end
section
variable {f:Str}{tpos:Pos}{tv:TE}
end
section
variable {c:Value}{b:Bool}
inductive iN(K:Ah)(H:Hp):V->Value->Prop where
 |non:iN K H .non (.type "NoneType")
 |bl (x:Bool):iN K H (.bl x) (.type "bool")
 |int (i:Int):iN K H (.int i) (.type "int")
 |str (x:Str):iN K H (.str x) (.type "str")
 |flt (x:UInt64):iN K H (.flt x) (.type "float")
 |lst {a:Addr} {xs:List V} (e:H a=some (.lst xs)):iN K H (.ref a) (.type "list")
 |frz {a:Addr} {o:Obj} {xs:List V} (e:H a=some (.frz o (.lst xs))):iN K H (.ref a) (.type "list")
 |tup {a:Addr} {xs:List V} (e:H a=some (.tup xs)):iN K H (.ref a) (.type "tuple")
 |dK {a:Addr} {kvs:List (zq×V)} (e:H a=some (.dK kvs)):iN K H (.ref a) (.type "dict")
 |dT {a:Addr} {kvs:List (List zq×V)} (e:H a=some (.dT kvs)):iN K H (.ref a) (.type "dict")
 |ins {a C dx:Addr} {fs:List (Str×V)} (e:H a=some (.ins C dx fs)) (cl:Cls K C) (ha:PySem.W.findIn K (.ref C) "__class__" = some (some (.builtin "object.__class__")))
  (hn:PySem.W.specialIn K (.builtin "object.__class__") "__get__" = some (some (.builtin "getset_descriptor.__get__"))) (htk:PySem.W.takesIn K (.builtin "object.__class__")=some true)
  (hm:PySem.W.mroIn K C (.type "object")=some true):iN K H (.ref a) (.ref C)
theorem aN{x:V}{t:Value}(I:z0 X pins σ H s)(rx:zf x u)(ty:iN X.K H x t)(e:PySem.W.kitOne X.K t c=some b)(h:∀tk,Q (.bool b) { s with toks:=tk }):
 wpAny (model X.prog X.w) A (call (.builtin "isinstance") [u,c]) Q E s:=by
 cases ty with
 |non=>cases (show u=Value.none from rx);exact Bo PySem.W.kitx_none I.kIn True.intro e (fun z=>nomatch z) h
 |bl y=>cases (show u=Value.bool y from rx);exact Bo PySem.W.kitx_bool I.kIn True.intro e (fun z=>nomatch z) h
 |int i=>obtain⟨t,q⟩:=(show ∃t,u=Value.int i t from rx);cases q;exact Bo PySem.W.kitx_int I.kIn True.intro e (fun z=>nomatch z) h
 |str y=>obtain⟨t,q⟩:=(show ∃t,u=Value.str y t from rx);cases q;exact Bo PySem.W.kitx_str I.kIn True.intro e (fun z=>nomatch z) h
 |flt y=>obtain⟨t,q⟩:=(show ∃t,u=Value.float y t from rx);cases q;exact Bo PySem.W.kitx_float I.kIn True.intro e (fun z=>nomatch z) h
 |@lst a xs ea=>
  cases (show u=Value.ref a from rx);obtain⟨_,_,n,_,h1⟩:=(show xa X.prog X.w H s.heap a (.lst xs) from I.hok a _ ea);exact Bo Dt I.kIn ⟨_,h1,rfl⟩ e (fun z=>nomatch z) h
 |@frz a ob xs ea=>
  cases (show u=Value.ref a from rx);obtain⟨_,_,_,n,_,h1⟩:=(show xa X.prog X.w H s.heap a (.frz ob (.lst xs)) from I.hok a _ ea);exact Bo Dt I.kIn ⟨_,h1,rfl⟩ e (fun z=>nomatch z) h
 |@tup a xs ea=>
  cases (show u=Value.ref a from rx);obtain⟨_,_,_,p⟩:=(show xa X.prog X.w H s.heap a (.tup xs) from I.hok a _ ea);obtain⟨o,h1,h2,_⟩:=p;exact Bo PySem.W.kitx_tuple I.kIn ⟨o,h1,h2⟩ e (fun z=>nomatch z) h
 |@dK a kvs ea=>
  cases (show u=Value.ref a from rx);obtain⟨_,_,vs,_,p⟩:=(show xa X.prog X.w H s.heap a (.dK kvs) from I.hok a _ ea);obtain⟨o,es,ep,h1,h2,_⟩:=p;exact Bo PySem.W.kitx_dict I.kIn ⟨o,h1,h2.1⟩ e (fun z=>nomatch z) h
 |@dT a kvs ea=>
  cases (show u=Value.ref a from rx);obtain⟨_,_,xs,_,o,es,ep,h1,h2,_⟩:=(show xa X.prog X.w H s.heap a (.dT kvs) from I.hok a _ ea);exact Bo PySem.W.kitx_dict I.kIn ⟨o,h1,h2.1⟩ e (fun z=>nomatch z) h
 |@ins a C dx fs ea cl ha hn htk hm=>
  cases (show u=Value.ref a from rx);obtain⟨mA,O,_⟩:=ac5 I.hok ea;obtain⟨od,J,_⟩:=O.look;exact Bo (PySem.W.kitx_own (cl.get _) cl.hd ha hn htk hm) I.kIn J e (fun z=>nomatch z) h
end
structure wy(k:Nat)(A:Around):Prop where
 hd:A.handled=none
 dp:A.depth+3*k+5<recursionLimit
 un:A.units+16*k+200<cLine
theorem wy.mono{k:Nat}(r:wy k A)(h:j≤k):wy j A:=⟨r.hd,by have:=r.dp;omega,by have:=r.un;omega⟩
theorem wy.deeper{k:Nat}(r:wy (k+1) A)(env:Env):wy k (A.deeper env):=
 ⟨r.hd,by have:=r.dp;show A.depth+1+3*k+5<_;omega,by have:=r.un;show A.units+3+16*k+200<_;omega⟩
theorem wy.depth{k:Nat}(r:wy k A):A.depth<recursionLimit:=by have:=r.dp;omega
def am5:TA:=fun _ H Q=>Q [] H
def aln(ta:TE)(tr:TA):TA:=fun σ H Q=>ta σ H fun x H1=>tr σ H1 fun xs H2=>Q (x::xs) H2
section
variable {te:TE}{t:TA} 
theorem kJ:PA X [] am5:=fun _ _ _ _ H Q I h=>Calls.spliced_nil ⟨[],H,I,.nil,h⟩
abbrev Eb(e:Expr)(es:List Expr)(X:Cx):Prop:=starEach (e::es) X.env=(false,eval e X.env)::starEach es X.env
theorem dO(ha:PE X e te)(hr:PA X es t)(hs:Eb e es X:=by rfl):PA X (e::es) (aln te t):=by intro pos pins s σ H Q I h;rw[hs];show wpAny _ _ (spliced ((false,eval e X.env)::backTo pos (starEach es X.env))) _ _ s;refine Calls.spliced_cons (xj (ha pins s σ H _ I h) fun u s1 ⟨x,H1,I1,r1,q1⟩=>?_);exact xj (hr pos pins s1 σ H1 _ I1 q1) fun us s2 ⟨xs,H2,I2,r2,q2⟩=>⟨x::xs,H2,I2,.cons r1 r2,q2⟩
def aow(t:TA):TE:=fun σ H Q=>t σ H fun xs H1=>xs.length≤sizeLine/\∀p,H1 p=none->Q (.ref p) (upd H1 p (.tup xs))
def an6(t:TA):TE:=fun σ H Q=>t σ H fun xs H1=>xs.length≤sizeLine/\∀p,H1 p=none->Q (.ref p) (upd H1 p (.lst xs))
theorem aj3{x1}(h:PA X es t):PE X (.Tuple es x1 pos) (aow t):=by intro pins s σ H Q I hq;refine wpAny_Tuple_spliced (xj (h pos pins s σ H _ I hq) fun us s1 ⟨xs,H1,I1,r,z,q⟩=>⟨by rw[<-r.length];exact z,?_⟩);have hf:H1 s1.heap.objs.size=none:=I1.hok.fresh (Al _);refine⟨.ref s1.heap.objs.size,upd H1 s1.heap.objs.size (.tup xs),I1.laid (t':=s1.toks) (fun b u e=>Heap.get?_push_of_some _ e) (Al _) ?_,rfl,q _ hf⟩;exact⟨z,us,r,⟨_,Heap.get?_push_size _ rfl,rfl,_,rfl⟩⟩
theorem agw(h:PA X es t):PE X (.List es pos) (an6 t):=by intro pins s σ H Q I hq;refine wpAny_List_spliced (xj (h pos pins s σ H _ I hq) fun us s1 ⟨xs,H1,I1,r,z,q⟩=>⟨by rw[<-r.length];exact z,?_⟩);have hf:H1 s1.heap.objs.size=none:=I1.hok.fresh (Al _);refine⟨.ref s1.heap.objs.size,upd H1 s1.heap.objs.size (.lst xs),I1.laid (t':=s1.toks) (fun b u e=>Heap.get?_push_of_some _ e) (Al _) ?_,rfl,q _ hf⟩;exact⟨z,us,0,r,Heap.get?_push_size _ rfl⟩
end
abbrev Sp:=List V->Hp->VK->XK->Prop
abbrev vV:=List Env->Hp->Shared->XK->Value->Shared->Prop
structure ae0(P:Program)(w:World)(K:Ah)(mg:Str->Option Value)(base:Heap)(A:Around)(outer:List Env)(s:Shared)(H:Hp):Prop where
 frames:A.frames=some outer
 mod:Mod K mg base
 bs:∀b o,base.get? b=some o->s.heap.get? b=some o/\H b=none
 bsz:base.objs.size≤s.heap.objs.size
 funs:s.heap.FunFrames base outer
 frf:∀b∈vT outer,H b=none
 hok:dq P w H s.heap
 bare:AllBare s.gens
 tk:0<s.toks
def CE(outer:List Env)(P:Program)(w:World)(H:Hp)(s:Shared)(Q:VK)(u:Value)(s':Shared):Prop:=
 ∃v H',s'.os=s.os/\AllBare s'.gens/\Un (vT outer) [] H H' s.heap s'.heap/\dq P w H' s'.heap/\zf v u/\Q v H'/\0<s'.toks
def CR(CX:vV)(outer:List Env)(P:Program)(w:World)(H:Hp)(s:Shared)(Q:VK)(E:XK)(r:Result)(s':Shared):Prop:=
 match r with
 |.ok (.ret u)=>CE outer P w H s Q u s'
 |.ok _=>False
 |.error e=>CX outer H s E e s'
structure az(P:Program)(w:World)(K:Ah)(mg:Str->Option Value)(base:Heap)(CX:vV)(k:Nat)(f:Addr)(fd:FuncData)(ps:List Str)(sp:Sp):Prop where
 len:∀vs H Q E,sp vs H Q E->vs.length=ps.length
 run:∀(A:Around) (outer:List Env) (s:Shared) (H:Hp) (args:Args) (us:List Value) (vs:List V) (Q:VK) (E:XK),wy k A->ae0 P w K mg base A outer s H->BindsTo s fd args (ps.zip us)->ze vs us->sp vs H Q E->
  codeAny (model P w) A (.call (.ref f) args) (CR CX outer P w H s Q E) s
theorem az.mono{P:Program}{w:World}{K:Ah}{CX:vV}{k:Nat}{sp:Sp}(F:az P w K mg base CX j f fd ps sp)(h:j≤k):
 az P w K mg base CX k f fd ps sp:=⟨F.len,fun A outer s H args us vs Q E hr=>F.run A outer s H args us vs Q E (hr.mono h)⟩
theorem az.imp{P:Program}{w:World}{K:Ah}{CX:vV}{k:Nat}{sp sp':Sp}(F:az P w K mg base CX k f fd ps sp)
 (h:∀vs H Q E,sp' vs H Q E->sp vs H Q E):az P w K mg base CX k f fd ps sp':=
 ⟨fun vs H Q E q=>F.len vs H Q E (h _ _ _ _ q),fun A outer s H args us vs Q E hr he hb hv hs=>F.run A outer s H args us vs Q E hr he hb hv (h _ _ _ _ hs)⟩
section
theorem z0.env0(I:z0 X pins σ H s):ae0 X.prog X.w X.K X.mg X.base X.A X.stack s H:=
 ⟨I.ok.frames,I.ok.mod,I.bs,AU I.ok.bsz I.sz,I.stack,I.stkFree,I.hok,I.bare,I.tk⟩
theorem z0.after{Q:VK}(I:z0 X pins σ H s)(h:CE X.stack X.prog X.w H s Q u s'):EP X pins σ Q u s':=by obtain⟨v,H',os,bare,un,hok,r,q,ht⟩:=h;obtain⟨hh,g,d,t,os'⟩:=s';obtain rfl:os'=s.os:=os;exact⟨v,H',I.call (h':=hh) (g':=g) (d':=d) (t':=t) (ch:=[]) un hok bare (fun b z=>absurd z (by simp)),r,q⟩
end
def afc(sp:Sp)(dvs:List V)(E:XK)(t:TA):TE:=fun σ H Q=>t σ H fun vs H1=>sp (vs++dvs) H1 Q E
def eV(K:Ah)(fd:FuncData)(ps:List Str)(ds:List Value):Prop:=
 ∀(s:Shared) (us:List Value),K.In s.heap->(us++ds).length=ps.length->BindsTo s fd ⟨us,[]⟩ (ps.zip (us++ds))
theorem eV.all{K:Ah}(h:∀us:List Value,us.length=ps.length->bindArgs fd ⟨us,[]⟩=pure (ps.zip us)):eV K fd ps []:=fun s us _ hl=>by rw[AV] at hl ⊢;exact .of_eq (h us hl)
def sW(CX:vV)(X:Cx)(E:XK):Prop:=∀(pins:List (Addr×Obj)) (σ:St) (H:Hp) (s:Shared) (e:Value) (s':Shared),z0 X pins σ H s->CX X.stack H s E e s'->X.xe e s'
section
variable {CX:vV}{k:Nat}{sp:Sp}{dvs:List V}{ds:List Value}{E:XK}{m:Str}{t:TA}
theorem agk{Q:VK}{vs:List V}(F:az X.prog X.w X.K X.mg X.base CX k f fd ps sp)(hr:wy k X.A)(hb:eV X.K fd ps ds)(hd:ze dvs ds)(hx:sW CX X E)
 (I:z0 X pins σ H s) (r:ze vs us) (h:sp (vs++dvs) H Q E):wpAny (model X.prog X.w) X.A (call (.ref f) us) (EP X pins σ Q) X.xe s:=by
 have r2:ze (vs++dvs) (us++ds):=r.append hd;have hl:(us++ds).length=ps.length:=by rw[<-r2.length];exact F.len _ _ _ _ h
 refine wpAny_call (codeAny_mono (F.run X.A X.stack s H ⟨us,[]⟩ (us++ds) (vs++dvs) Q E hr I.env0 (hb s us I.kIn hl) r2 h) fun r s' hq=>?_);cases r with
 |error e=>exact hx pins σ H s e s' I hq
 |ok fl=>
  cases fl with|ret u=>exact I.after hq|next=>exact False.elim hq|brk=>exact False.elim hq|cont=>exact False.elim hq
abbrev Ec(p:Pos)(es:List Expr)(X:Cx):Prop:=(backTo p (starEach es X.env)).any (·.1)=false
theorem ae7(F:az X.prog X.w X.K X.mg X.base CX k f fd ps sp)(hr:wy k X.A)(hg:Gl X x)(hm:X.mg x=some (.ref f))(hk:PySem.W.keepIn X.K (.ref f)=true)(hb:eV X.K fd ps ds)(hd:ze dvs ds)(hx:sW CX X E)
 (ha:PA X (e::es) t) (hdb:Ed x:=by decide) (he:Eb e es X:=by rfl) (hpl:Ec pos es X:=by rfl):
 PE X (.Call (.Name x p) (e::es) [] pos) (afc sp dvs E t):=by
 intro pins s σ H Q I h;refine wpAny_Call_Name_kw (uJ I hg hm ?_ hdb);refine PySem.W.callWith_K (h₀:=X.base) I.ok.mod.kin hk (xj (ha pos pins s σ H _ I h) fun us s1 ⟨vs,H1,I1,r,q⟩=>⟨I1.kIn,?_⟩) he hpl;exact agk F hr hb hd hx I1 r q
end
section
variable {CX:vV}{k:Nat}{ks:List Str}{sp:Sp}{E:XK}{m:Str}{kws:List Keyword}{te:TE}{t tk:TA}{nm:Option Str}
variable {g:List Value->List Value->List Value}{gV:List V->List V->List V}
end
structure aI(N P:List Str)(sc:Scope):Prop where
 kind:sc.kind=.function
 co:sc.isCoroutine=false
 gen:sc.isGenerator=false
 nd:N.Nodup
 pre:N.take P.length=P
 par:∀x∈P,sc.names.lookup x=some .local\/sc.names.lookup x=some .cell
 nofree:∀y∈sc.names,y.2≠.free
theorem mj{kindOf:Str->Option NameKind}{x:Str}:∀{binds:List (Str×Value)} {m:Str->Option Value},(∀v,(x,v)∉binds)->bindL kindOf binds m x=m x
 |[],_,_=>rfl
 |(n,v)::r,m,h=>by
  unfold bindL;rw[mj fun w hw=>h w (Ag _ hw)];split
  ·have:x≠n:=by rintro rfl;exact h v An
   simp[this]
  ·rfl
theorem mI{kindOf:Str->Option NameKind}{x:Str}:∀{binds:List (Str×Value)} {m:Str->Option Value},(∀v,(x,v)∉binds)->bindC kindOf binds m x=m x
 |[],_,_=>rfl
 |(n,v)::r,m,h=>by
  unfold bindC;rw[mI fun w hw=>h w (Ag _ hw)];split
  ·rfl
  ·have:x≠n:=by rintro rfl;exact h v An
   simp[this]
theorem my{kindOf:Str->Option NameKind}{x:Str}{v:Value}:∀{P:List Str} {vs:List Value} {i:Nat} {m:Str->Option Value},P.Nodup->P[i]?=some x->vs[i]?=some v->kindOf x=some .local->
 bindL kindOf (P.zip vs) m x=some v
 |[],_,_,_,_,h,_,_=>by simp at h
 |_::_,[],_,_,_,_,h,_=>by simp at h
 |p::P,w::vs,0,m,nd,h1,h2,hk=>by simp at h1 h2;subst h1;subst h2;show bindL kindOf ((p,w)::P.zip vs) m p=_;unfold bindL;rw[mj fun v hv=>(Ax.mp nd).1 (Df hv).1,AA hk];simp
 |p::P,w::vs,i+1,m,nd,h1,h2,hk=>by show bindL kindOf ((p,w)::P.zip vs) m x=_;unfold bindL;exact my (i:=i) (Ax.mp nd).2 (by simpa using h1) (by simpa using h2) hk
theorem mm{kindOf:Str->Option NameKind}{x:Str}{v:Value}:∀{P:List Str} {vs:List Value} {i:Nat} {m:Str->Option Value},P.Nodup->P[i]?=some x->vs[i]?=some v->kindOf x≠some .local->
 bindC kindOf (P.zip vs) m x=some v
 |[],_,_,_,_,h,_,_=>by simp at h
 |_::_,[],_,_,_,_,h,_=>by simp at h
 |p::P,w::vs,0,m,nd,h1,h2,hk=>by simp at h1 h2;subst h1;subst h2;show bindC kindOf ((p,w)::P.zip vs) m p=_;unfold bindC;rw[mI fun v hv=>(Ax.mp nd).1 (Df hv).1,Ay hk];simp
 |p::P,w::vs,i+1,m,nd,h1,h2,hk=>by show bindC kindOf ((p,w)::P.zip vs) m x=_;unfold bindC;exact mm (i:=i) (Ax.mp nd).2 (by simpa using h1) (by simpa using h2) hk
def start(N:List Str)(vs:List V):St:=vs.map some++List.replicate (N.length - vs.length) none
def iL(CX:vV)(P:Program)(w:World)(K:Ah)(mg:Str->Option Value)(base:Heap)(N:List Str)(qual:Str)(scope:Scope)(f:Addr)(cd:Value)(A:Around)(outer:List Env)(s:Shared)(H:Hp)(E:XK):Cx where
 prog:=P
 w:=w
 K:=K
 mg:=mg
 base:=base
 A:=A.deeper (envOfC qual scope s.heap.objs.size f cd)
 N:=N
 s₀:=s
 H₀:=H
 env:=envOfC qual scope s.heap.objs.size f cd
 outer:=outer
 stack:=envOfC qual scope s.heap.objs.size f cd::outer
 ex:=[]
 calm:=true
 fn:=fun _=>true
 pn:=[]
 xe:=fun e s'=>wpAny (model P w) (A.deeper (envOfC qual scope s.heap.objs.size f cd)) (leaving (envOfC qual scope s.heap.objs.size f cd) e) (fun _ s''=>CX outer H s E e s'') (fun e' s''=>CX outer H s E e' s'') s'
theorem rF{sc:Scope}(h:sc.names.lookup x=some .cell):∃c,(cellsFrom n sc.names []).lookup x=some c:=by have q:=DH sc.names n [] (.inl h);exact Option.isSome_iff_exists.mp q
theorem uo{CX:vV}{P:Program}{w:World}{K:Ah}{N:List Str}{cd:Value}{outer:List Env}{s1:Shared}{E:XK}{vs:List V}
 (S:aI N ps scope) (hd:A.handled=none) (e0:ae0 P w K mg base A outer s H) (hl:vs.length=ps.length) (r:ze vs us)
 (x:InCallC s s.heap.objs.size (bindL (envOfC qual scope s.heap.objs.size f cd).kindOf (ps.zip us) fun _=>none) (cellsFrom (s.heap.objs.size+1) scope.names []) (bindC (envOfC qual scope s.heap.objs.size f cd).kindOf (ps.zip us) fun _=>none) s1) (ht:0<s1.toks):
 z0 (iL CX P w K mg base N qual scope f cd A outer s H E) [] (start N vs) H s1:=by
 have hpl:ps.length≤N.length:=by have:=BM List.length S.pre;rw[AN] at this;omega
 obtain⟨h1,tk,rfl,hk⟩:=x.done;have noA:∀b:Addr,b∉(iL CX P w K mg base N qual scope f cd A outer s H E).ex:=fun b z=>absurd (show b∈([]:List Addr) from z) (by simp);refine⟨⟨e0.mod,S.kind,rfl,rfl,Al _,fun y z c h1 h2=>?_,fun y hy=>?_,fun y c _ h=>?_,fun _=>hd,Around.frames_deeper e0.frames,.inr ⟨rfl,rfl⟩,fun b z=>absurd z (noA b),e0.bs,e0.bsz,fun b _ _=>noA b,fun b z=>absurd z (noA b),e0.funs,e0.frf⟩,
  rfl,e0.bare,Un.kept hk,⟨_,x.toInCall.ns,fun i y v h1 h2 h3=>?_⟩,fun y c h=>⟨_,x.cell y c h⟩,e0.hok.fresh (Al _),fun y c h=>?_,fun p hp=>absurd (show p∈([]:List (Addr×Obj)) from hp) (by simp),e0.hok.kept hk,?_,ht⟩
 ·exact name_of_addr x.apart (Bx h1) (Bx h2)
 ·have hy:scope.names.lookup y=some .cell\/scope.names.lookup y=some .free:=hy;rcases hy with hy | hy
  ·exact rF hy
  ·exact absurd rfl (S.nofree _ (Bx hy))
 ·exact Bz (x.above y c (Bx h))
 ·have hi:i<vs.length:=by
   unfold start at h2;by_cases hi:i<vs.length
   ·exact hi
   ·rw[Ar (by simpa using hi)] at h2;rw[Cc] at h2;split at h2<;>cases h2
  have ha:vs[i]?=some v:=by unfold start at h2;rw[AE (by simpa using hi),Ap] at h2;cases e:vs[i]? with|none=>rw[e] at h2;cases h2|some a=>rw[e] at h2;cases h2;rfl
  obtain⟨u,hu,rv⟩:=r.get ha;have hp:ps[i]?=some y:=by rw[<-S.pre,Dy (by omega)];exact h1
  have ndP:ps.Nodup:=by rw[<-S.pre];exact S.nd.sublist (Du _ _)
  refine⟨u,rv,?_⟩;rcases S.par y (AI hp) with k | k
  ·exact .inl ⟨k,my ndP hp hu k⟩
  ·obtain⟨c,e⟩:=rF (n:=s.heap.objs.size+1) k;refine .inr ⟨.inl k,c,e,?_⟩;have q:=x.cell y c e;rw[mm ndP hp hu (by show scope.names.lookup y≠_;rw[k];decide)] at q;exact q
 ·exact e0.hok.fresh (Bz (x.above y c (Bx h)))
 ·unfold start;show _=N.length;rw[Ac,Ae,Cm];omega
theorem afa{CX:vV}{P:Program}{w:World}{K:Ah}{k:Nat}{params:Arguments}{dV kV ct:Value}
 {N:List Str} {sp:Sp} (lk:K.lookup f=some ⟨oc,od,.func (PySem.W.fnOf name qual params body scope dV kV doc pm an cdv ct),osl⟩) (hcd:PySem.W.codeIn K cdv qual=true) (S:aI N ps scope)
 (len:∀vs H Q E,sp vs H Q E->vs.length=ps.length)
 (hbody:∀(A:Around) (outer:List Env) (s:Shared) (H:Hp) (vs:List V) (Q:VK) (E:XK),wy k (A.deeper (envOfC qual scope s.heap.objs.size f cdv))->sp vs H Q E->
  ∃t,mD (iL CX P w K mg base N qual scope f cdv A outer s H E) body t/\t { nx:=fun _ H'=>Q .non H',rt:=Q } (start N vs) H):
 az P w K mg base CX (k+1) f (PySem.W.fnOf name qual params body scope dV kV doc pm an cdv ct) ps sp:=by
 refine⟨len,fun A outer s H args us vs Q E hr e0 hb r hsp=>?_⟩;have hl:=len _ _ _ _ hsp;have KX:K.In s.heap:=e0.mod.kin.keeps fun b o e=>(e0.bs b o e).1;have lim:s.heap.NoLimit:=e0.mod.nolimit.keeps fun b o e=>(e0.bs b o e).1;have hkind:∀y∈ps.zip us,scope.names.lookup y.1=some .local\/(scope.names.lookup y.1=some .cell/\((cellsFrom (s.heap.objs.size+1) scope.names []).lookup y.1).isSome=true):=fun⟨n,v⟩ hy=>by
  rcases S.par n (Df hy).1 with q | q
  ·exact .inl q
  ·exact .inr ⟨q,DH _ _ _ (.inl q)⟩
 refine codeAny_call_function hr.depth (KX _ _ lk) rfl S.co S.gen rfl (PySem.W.codeRec_of KX hcd) (hb _ _ _ _ ?_);refine jm e0.tk (wpAny_newFunctionEnv_cells S.kind hkind fun env he s1 x htk=>?_);subst he;refine⟨lim.keeps x.toInCall.keep,codeAny_func ?_⟩;obtain⟨t,ht,hq⟩:=hbody A outer s H vs Q E (hr.deeper _) hsp;have I:z0 (iL CX P w K mg base N qual scope f cdv A outer s H E) [] (start N vs) H s1:=uo S hr.hd e0 hl r x htk;refine A2 (ht [] s1 (start N vs) H _ I hq) (fun fl s' hs=>?_) fun e s' hs=>hs;have js:∀{σ':St} {H':Hp} {v:V} {u:Value},z0 (iL CX P w K mg base N qual scope f cdv A outer s H E) [] σ' H' s'->zf v u->Q v H'->CE outer P w H s Q u s':=
  fun {σ' H' v u} J rv q=>⟨v,H',J.os,J.bare,J.base,J.hok,rv,q,J.tk⟩
 cases fl with
 |ret u=>
  obtain⟨v,σ',H',J,rv,q⟩:=hs;exact js J rv q
 |next=>
  obtain⟨σ',H',J,q⟩:=hs;exact js (v:=V.non) (u:=Value.none) J rfl q
 |brk=>
  obtain⟨_,_,_,q⟩:=hs;exact False.elim q
 |cont=>
  obtain⟨_,_,_,q⟩:=hs;exact False.elim q
end L2
variable {sp:L2.Sp}
namespace L2
open PySem PySem.Spec PyProof.Rows
section
variable {t:TA}{id T:String}{r:List V->Hp->VK->Prop}
def tCB(r:List V->Hp->VK->Prop)(t:TA):TE:=fun σ H Q=>t σ H fun vs H1=>r vs H1 Q
theorem rZ(hc:ji X (.builtin id) r)(hg:Gl X x)(hm:X.mg x=none)(hv:bootBuiltins x=some (.builtin id))(ha:PA X (e::es) t)(hn:x ≠ "__name__" := by decide)(hdb:Ed x:=by decide)
 (he:Eb e es X:=by rfl) (hpl:Ec pos es X:=by rfl):PE X (.Call (.Name x p) (e::es) [] pos) (tCB r t):=by
 intro pins s σ H Q I h;refine wpAny_Call_Name_kw (bR I hg hm hv ?_ hn hdb);exact PyProof.Rows.callWith_builtin1 (xj (ha pos pins s σ H _ I h) fun us s1 ⟨vs,H1,I1,r1,q1⟩=>hc pins s1 σ H1 vs us Q I1 r1 q1) he hpl
theorem fu(hc:ji X (.type T) r)(hg:Gl X x)(hm:X.mg x=none)(hv:bootBuiltins x=some (.type T))(ha:PA X (e::es) t)(hn:x ≠ "__name__" := by decide)(hdb:Ed x:=by decide)
 (he:Eb e es X:=by rfl) (hpl:Ec pos es X:=by rfl):PE X (.Call (.Name x p) (e::es) [] pos) (tCB r t):=by
 intro pins s σ H Q I h;refine wpAny_Call_Name_kw (bR I hg hm hv ?_ hn hdb);exact BR (xj (ha pos pins s σ H _ I h) fun us s1 ⟨vs,H1,I1,r1,q1⟩=>hc pins s1 σ H1 vs us Q I1 r1 q1) he hpl
end
section
variable [DecidableEq κ]
def aJ(kvs:List (κ×V))(k:κ):Option V:=(kvs.find? fun kv=>decide (kv.1=k)).map (·.2)
def cj(kvs:List (κ×V))(k:κ)(v:V):List (κ×V):=
 if (kvs.any fun kv=>decide (kv.1=k))=true then kvs.map (fun kv=>if kv.1=k then(kv.1,v) else kv) else kvs++[(k,v)]
theorem lS{p:κ×V}{r:List (κ×V)}{k:κ}(e:p.1=k):aJ (p::r) k=some p.2:=by simp[aJ,Bp,e]
theorem iz{p:κ×V}{r:List (κ×V)}{k:κ}(e:¬p.1=k):aJ (p::r) k=aJ r k:=by simp[aJ,Bp,e]
theorem qX(k:κ):∀kvs:List (κ×V),(kvs.any fun kv=>decide (kv.1=k))=(aJ kvs k).isSome
 |[]=>rfl
 |p::r=>by
  rw[B9];by_cases e:p.1=k
  ·simp only[lS e,AG e,Bool.true_or,Option.isSome_some]
  ·rw[iz e,Az e,Bool.false_or];exact qX k r
theorem cq(kvs:List (κ×V))(k:κ)(v:V):(cj kvs k v).length≤kvs.length+1:=by
 unfold cj;split
 ·rw[Ae];omega
 ·rw[Ac,AJ,List.length_nil];omega
theorem g9.isSome_eq{o:Option V}{u:Option Value}(r:g9 o u):o.isSome=u.isSome:=by
 cases o with
 |none=>cases u with|none=>rfl|some _=>exact(show False from r).elim
 |some _=>cases u with|none=>exact(show False from r).elim|some _=>rfl
theorem KV.val{kvs:List (κ×V)}{vs:List (κ×Value)}(r:KV kvs vs)(k:κ):g9 (aJ kvs k) (valueAt vs k):=by
 unfold KV at r
 induction r with
 |nil=>exact True.intro
 |@cons p q ps qs h t ih=>
  obtain⟨h1,h2⟩:=h;by_cases e:p.1=k
  ·have e':q.1=k:=h1.symm.trans e;have b:valueAt (q::qs) k=some q.2:=by simp[valueAt,Bp,e']
   rw[lS e,b];exact h2
  ·have e':¬q.1=k:=fun z=>e (h1.trans z);have b:valueAt (q::qs) k=valueAt qs k:=by simp[valueAt,Bp,e']
   rw[iz e,b];exact ih
theorem KV.any{kvs:List (κ×V)}{vs:List (κ×Value)}(r:KV kvs vs)(k:κ):(kvs.any fun kv=>decide (kv.1=k))=vs.any fun kv=>decide (kv.1=k):=by
 unfold KV at r
 induction r with|nil=>rfl|cons h t ih=>rw[B9,B9,ih,h.1]
theorem KV.repl{kvs:List (κ×V)}{vs:List (κ×Value)}(r:KV kvs vs)(k:κ){y:V}(ry:zf y u):
 KV (kvs.map fun kv=>if kv.1=k then(kv.1,y) else kv) (vs.map fun kv=>if kv.1=k then(kv.1,u) else kv):=by
 unfold KV at r ⊢
 induction r with
 |nil=>exact .nil
 |@cons p q ps qs h t ih=>
  rw[AO,AO];refine .cons ?_ ih;obtain⟨h1,h2⟩:=h;by_cases e:p.1=k
  ·rw[AA e,AA (h1.symm.trans e)];exact⟨h1,ry⟩
  ·rw[Ay e,Ay (fun z=>e (h1.trans z))];exact⟨h1,h2⟩
theorem KV.put{kvs:List (κ×V)}{vs:List (κ×Value)}(r:KV kvs vs)(k:κ){y:V}(ry:zf y u):KV (cj kvs k y) (stored vs k u):=by
 unfold cj stored;rw[r.any k];by_cases e:(vs.any fun kv=>decide (kv.1=k))=true
 ·rw[AA e,AA e];exact r.repl k ry
 ·rw[Ay e,Ay e];exact Paired.snoc r ⟨rfl,ry⟩
theorem KV.length{kvs:List (κ×V)}{vs:List (κ×Value)}(r:KV kvs vs):kvs.length=vs.length:=Paired.length r
end
theorem hE{P:Program}{w:World}{k:zq}(r:zf (kV k) u):(x8 P w).is k u=true:=by
 cases k with
 |inl i=>obtain⟨t,e⟩:=(show ∃t,u=Value.int i t from r);subst e;exact pZ P w i t
 |inr x=>obtain⟨t,e⟩:=(show ∃t,u=Value.str x t from r);subst e;exact rc P w x t
theorem mv{P:Program}{w:World}:∀{ks:List zq} {us:List Value},ze (ks.map kV) us->ItemsAre (x8 P w) ks us
 |[],_,r=>by rw[CT] at r;cases r;exact .nil
 |k::ks,_,r=>by rw[AO] at r;cases r with|cons h t=>exact .cons (hE h) (mv t)
abbrev KT(H:Hp):List (List zq×V)->List (List zq×Addr×Value)->Prop:=Paired fun p q=>p.1=q.1/\H q.2.1=some (.tup (p.1.map kV))/\zf p.2 q.2.2
theorem KT.val{kvs:List (List zq×V)}{xs:List (List zq×Addr×Value)}(r:KT H kvs xs)(k:List zq):g9 (aJ kvs k) ((atKey xs k).map (·.2)):=by
 induction r with
 |nil=>exact True.intro
 |@cons p q ps qs h t ih=>
  obtain⟨h1,_,h2⟩:=h;by_cases e:p.1=k
  ·have e':q.1=k:=h1.symm.trans e;have b:atKey (q::qs) k=some q.2:=by simp[atKey,Bp,e']
   rw[lS e,b];exact h2
  ·have e':¬q.1=k:=fun z=>e (h1.trans z);have b:atKey (q::qs) k=atKey qs k:=by simp[atKey,Bp,e']
   rw[iz e,b];exact ih
theorem KT.repl{kvs:List (List zq×V)}{xs:List (List zq×Addr×Value)}(r:KT H kvs xs)(k:List zq){y:V}(ry:zf y u):
 KT H (kvs.map fun kv=>if kv.1=k then(kv.1,y) else kv) (xs.map (putAt k u)):=by
 induction r with
 |nil=>exact .nil
 |@cons p q ps qs h t ih=>
  rw[AO,AO];refine .cons ?_ ih;obtain⟨h1,h2,h3⟩:=h;unfold putAt;by_cases e:p.1=k
  ·rw[AA e,AA (h1.symm.trans e)];exact⟨h1,h2,ry⟩
  ·rw[Ay e,Ay (fun z=>e (h1.trans z))];exact⟨h1,h2,h3⟩
theorem KT.put{kvs:List (List zq×V)}{xs:List (List zq×Addr×Value)}(r:KT H kvs xs)(k:List zq){b:Addr}{y:V}(hb:H b=some (.tup (k.map kV)))(ry:zf y u):
 KT H (cj kvs k y) (storedH xs k b u):=by
 have e:(kvs.any fun kv=>decide (kv.1=k))=(atKey xs k).isSome:=by rw[qX,(r.val k).isSome_eq,Cn]
 unfold cj storedH;rw[e];by_cases q:(atKey xs k).isSome=true
 ·rw[AA q,AA q];exact r.repl k ry
 ·rw[Ay q,Ay q];exact Paired.snoc r ⟨rfl,hb,ry⟩
theorem KT.keeps{kvs:List (List zq×V)}{xs:List (List zq×Addr×Value)}(r:KT H kvs xs)(ht:∀b ys,H b=some (.tup ys)->H' b=some (.tup ys)):KT H' kvs xs:=
 EE r fun _ _ z=>⟨z.1,ht _ _ z.2.1,z.2.2⟩
section
variable {P:Program}{w:World}{a:Addr}
theorem afm{u:HO}(ok:dq P w H h)(e:Rd H a u):xa P w H h a u:=e.ok ok
theorem jJ{kvs:List (zq×V)}(ok:dq P w H h)(e:Rd H a (.dK kvs)):kvs.length≤sizeLine/\(a==sysModules)=false/\∃vs,KV kvs vs/\h.DictOf (x8 P w) a vs:=
 show xa P w H h a (.dK kvs) from afm ok e
theorem aft{kvs:List (zq×V)}(ok:dq P w H h)(e:H a=some (.dK kvs)):kvs.length≤sizeLine/\(a==sysModules)=false/\∃vs,KV kvs vs/\h.DictOf (x8 P w) a vs:=jJ ok (.inl e)
theorem kD{ks:List zq}(ok:dq P w H h)(e:H a=some (.tup (ks.map kV))):(tupleKind (x8 P w)).is h ks a:=by obtain⟨_,its,r,o,h1,h2,n,h3⟩:=(show xa P w H h a (.tup (ks.map kV)) from ok a _ e);exact⟨o,its.toArray,n,h1,h2,h3,by simpa using mv r⟩
theorem pV{kvs:List (List zq×V)}(ok:dq P w H h)(e:Rd H a (.dT kvs)):kvs.length≤sizeLine/\(a==sysModules)=false/\
 ∃xs,KT H kvs xs/\h.DictOfH (tupleKind (x8 P w)) a xs:=by
 obtain⟨z,y,xs,r,o,es,ep,h1,h2,h3,h4,h5⟩:=(show xa P w H h a (.dT kvs) from afm ok e);refine⟨z,y,xs,r,o,es,ep,h1,h2,h3,h4,fun x hx=>?_,h5⟩;have all:∀{l:List (List zq×V)} {m:List (List zq×Addr×Value)},KT H l m->∀x∈m,(tupleKind (x8 P w)).is h x.1 x.2.1:=by
  intro l m q
  induction q with
  |nil=>intro x hx;exact nomatch hx
  |@cons p q ps qs hq t ih=>
   intro x hx;rcases Au.mp hx with e | hx
   ·subst e;exact kD ok (by rw[<-hq.1];exact hq.2.1)
   ·exact ih x hx
 exact all r x hx
theorem ajo{kvs:List (List zq×V)}(ok:dq P w H h)(e:H a=some (.dT kvs)):kvs.length≤sizeLine/\(a==sysModules)=false/\
 ∃xs,KT H kvs xs/\h.DictOfH (tupleKind (x8 P w)) a xs:=pV ok (.inl e)
end
def oM(H:Hp)(a:Addr)(y:V)(r:Option V):Prop:=
 (∃kvs k,Rd H a (.dK kvs)/\y=kV k/\r=aJ kvs k)\/∃kvs k b,Rd H a (.dT kvs)/\y=.ref b/\H b=some (.tup (k.map kV))/\r=aJ kvs k
def ajt(H:Hp)(a:Addr)(y v:V)(H':Hp):Prop:=
 (∃kvs k,H a=some (.dK kvs)/\y=kV k/\kvs.length<sizeLine/\H'=upd H a (.dK (cj kvs k v)))\/
 ∃kvs k b,H a=some (.dT kvs)/\y=.ref b/\H b=some (.tup (k.map kV))/\kvs.length<sizeLine/\H'=upd H a (.dT (cj kvs k v))
theorem oM.k{a:Addr}{kvs:List (zq×V)}{k:zq}(e:H a=some (.dK kvs)):oM H a (kV k) (aJ kvs k):=.inl ⟨kvs,k,.inl e,rfl,rfl⟩
section
variable {a:Addr}{y:V}{r:Value}{o:Option V} 
theorem z0.big(I:z0 X pins σ H s):sysModules<s.heap.objs.size:=by have h:mainGlobals<s.heap.objs.size:=(I.mod.glob.keeps I.bk).lt;exact Nat.lt_trans (by decide) h
theorem vU(hu:A.units+1<cLine)(I:z0 X pins σ H s)(g:oM H a y (some v))(ry:zf y u)(h:∀w' s',z0 X pins σ H s'->zf v w'->Q w' s'):
 wpAny (model X.prog X.w) A (getItem (.ref a) u) Q E s:=by
 rcases g with⟨kvs,k,e,ey,l⟩ | ⟨kvs,k,b,e,ey,eb,l⟩
 ·subst ey;obtain⟨z,hd,vs,rel,dd⟩:=jJ I.hok e;obtain⟨w',hw,rw'⟩:=EM (v:=v) (o:=valueAt vs k) (by rw[l];exact rel.val k);exact wpAny_getItem_of (hE ry) dd.mapOf hw (h w' _ (I.tok _) rw')
 ·subst ey;cases (show u=Value.ref b from ry);obtain⟨z,hd,xs,rel,dd⟩:=pV I.hok e;obtain⟨w',hw,rw'⟩:=EM (v:=v) (o:=(atKey xs k).map (·.2)) (by rw[l];exact rel.val k);obtain⟨p,hp,hp2⟩:=Aw.mp hw;refine wpAny_getItem_heap (tupleKind_room_in1 hu) (kD I.hok eb) dd hp ?_;rw[hp2];exact h w' _ (I.tok _) rw'
theorem amv(hu:A.units+1<cLine)(I:z0 X pins σ H s)(g:oM H a y o)(ry:zf y u)(h:∀s',z0 X pins σ H s'->Q (.bool o.isSome) s'):
 wpAny (model X.prog X.w) A (compareOp .In u (.ref a)) Q E s:=by
 rcases g with⟨kvs,k,e,ey,l⟩ | ⟨kvs,k,b,e,ey,eb,l⟩
 ·subst ey;obtain⟨z,hd,vs,rel,dd⟩:=jJ I.hok e;refine wpAny_in_of (hE ry) hd dd.mapOf ?_;rw[<-(rel.val k).isSome_eq,<-l];exact h _ (I.tok _)
 ·subst ey;cases (show u=Value.ref b from ry);obtain⟨z,hd,xs,rel,dd⟩:=pV I.hok e;refine wpAny_in_heap (tupleKind_room_in1 hu) (kD I.hok eb) hd dd ?_;have q:=(rel.val k).isSome_eq;rw[Cn] at q;rw[<-q,<-l];exact h _ (I.tok _)
theorem ae8(hu:A.units+1<cLine)(I:z0 X pins σ H s)(g:oM H a y o)(ry:zf y u)(h:∀s',z0 X pins σ H s'->Q (.bool (!o.isSome)) s'):
 wpAny (model X.prog X.w) A (compareOp .NotIn u (.ref a)) Q E s:=by
 rcases g with⟨kvs,k,e,ey,l⟩ | ⟨kvs,k,b,e,ey,eb,l⟩
 ·subst ey;obtain⟨z,hd,vs,rel,dd⟩:=jJ I.hok e;refine wpAny_notIn_of (hE ry) hd dd.mapOf ?_;rw[<-(rel.val k).isSome_eq,<-l];exact h _ (I.tok _)
 ·subst ey;cases (show u=Value.ref b from ry);obtain⟨z,hd,xs,rel,dd⟩:=pV I.hok e;refine wpAny_notIn_heap (tupleKind_room_in1 hu) (kD I.hok eb) hd dd ?_;have q:=(rel.val k).isSome_eq;rw[Cn] at q;rw[<-q,<-l];exact h _ (I.tok _)
theorem nQ{ob:HO}(I:z0 X pins σ H s)(mu:Mut (H a))(hs:Heap.SameBut a s.heap h')(he:∃q,h'.get? a=some q)(new:xa X.prog X.w (upd H a ob) h' a ob)(ht:0<t':=by walk_at "t"):
 z0 X pins σ (upd H a ob) { s with heap:=h',toks:=t' }:=
 I.write (x:=a) (e:=a) mu (.inl rfl) (fun b q hb z=>(hs.2 b hb).trans z) he new
theorem ab0{P:Program}{w:World}{kvs:List (zq×V)}{vs:List (zq×Value)}(z:kvs.length≤sizeLine)(hd:(a==sysModules)=false)(rel:KV kvs vs)(dd:h'.DictOf (x8 P w) a vs):
 xa P w H' h' a (.dK kvs):=⟨z,hd,vs,rel,dd⟩
theorem xF{Q:Unit->Shared->Prop}(hu:A.units+1<cLine)(I:z0 X pins σ H s)(g:ajt H a y v H')(ry:zf y u)(rv:zf v r)(h:∀s',z0 X pins σ H' s'->Q () s'):
 wpAny (model X.prog X.w) A (setItem (.ref a) u r) Q E s:=by
 rcases g with⟨kvs,k,e,ey,l,eH⟩ | ⟨kvs,k,b,e,ey,eb,l,eH⟩
 ·subst ey eH;obtain⟨z,hd,vs,rel,dd⟩:=aft I.hok e;have hz:vs.length≤sizeLine:=by rw[<-rel.length];exact z
  have hl:(cj kvs k v).length≤sizeLine:=by have:=cq kvs k v;omega
  refine wpAny_setItem_pairs (hsz:=hz) (hE ry) dd fun h' dd' hs=>h _ ?_;have he:∃q,h'.get? a=some q:=let ⟨q,_,_,hq,_⟩:=dd';⟨q,hq⟩;exact nQ I (by rw[e];exact True.intro) hs he (ab0 hl hd (rel.put k rv) dd')
 ·subst ey eH;cases (show u=Value.ref b from ry);obtain⟨z,hd,xs,rel,dd⟩:=ajo I.hok e;have hz:xs.length≤sizeLine:=by rw[<-Paired.length rel];exact z
  have hl:(cj kvs k v).length≤sizeLine:=by have:=cq kvs k v;omega
  refine wpAny_setItem_heap (hsz:=hz) (tupleKind_room_in1 hu) (kD I.hok eb) dd fun h' dd' hs=>h _ ?_;obtain⟨q,es,ep,hq,h2,h3,h4,_,h5⟩:=dd';refine nQ I (by rw[e];exact True.intro) hs ⟨q,hq⟩ ⟨hl,hd,_,(rel.put k eb rv).keeps fun c ys ec=>?_,q,es,ep,hq,h2,h3,h4,h5⟩;rw[qu (al5 ec e (fun z=>nomatch z))];exact ec
end
section
variable {a:Addr}{kvs:List (zq×V)}{k:zq} 
theorem akj(I:z0 X pins σ H s)(e:Rd H a (.dK kvs))(h:∀t s',z0 X pins σ H s'->Q (.int kvs.length t) s'):wpAny (model X.prog X.w) A (call (.builtin "len") [.ref a]) Q E s:=by obtain⟨z,hd,vs,rel,dd⟩:=jJ I.hok e;refine call_len_dict hd dd (by rw[<-rel.length];rw[sizeLine_eq] at z;omega) ?_;rw[<-rel.length];exact h _ _ (I.tok _)
end
def ai2(i:Expr):Prop:=∀ov iv,subscripted i false ov iv=operate [ov,iv] (getItem ov iv)
theorem ace{w:World}{slice:Expr}{T id:String}
 (hl:typeLookup (.type T) "__getitem__" = pure (some (.builtin id))) (hs:ai2 slice)
 (h:wpAny (model prog w) A (eval value env) (fun o s₁=>wpAny (model prog w) A (eval slice env) (fun i s₂=>s₂.TypeIs o T/\wpAny (model prog w) A (getItem o i) Q E s₂) E s₁) E s):
 wpAny (model prog w) A (eval (.Subscript value slice pos) env) Q E s:=by
 refine Subscript_ (A2 h (fun o s₁ h₁=>A2 h₁ (fun i s₂ h₂=>?_) fun _ _ x=>x) fun _ _ x=>x);obtain⟨hT,h₂⟩:=h₂;unfold subscriptTail;refine Aa ?_;rw[getitemInPython_of_ne hT.not_modules];refine Aa (wpAny_specialOf hT hl ?_);have js:wpAny (model prog w) A (subscripted slice false o i) (fun r s₃=>wpAny (model prog w) A (letTemporaryGo value o r >>= fun _=>pure r) Q E s₃) E s₂:=by rw[hs o i];exact wpAny_operating (A2 h₂ (fun r s₃ h₃=>Aa (wpAny_letTemporaryGo (Ai h₃))) fun _ _ x=>x)
 first
  |exact Ai (Aa js)
  |exact Aa (Ai (Aa js))
  |exact Aa js
theorem qQ{a:Addr}{y:V}{o:Option V}(I:z0 X pins σ H s)(g:oM H a y o):s.TypeIs (.ref a) "dict" := by
 rcases g with⟨kvs,k,e,_,_⟩ | ⟨kvs,k,b,e,_,_,_⟩
 ·obtain⟨_,_,vs,_,dd⟩:=jJ I.hok e;exact dd.typeIs
 ·obtain⟨_,_,xs,_,dd⟩:=pV I.hok e;exact dd.typeIs
def akn(td ty:TE):TE:=fun σ H Q=>td σ H fun x H1=>ty σ H1 fun y H2=>∃a v,x=.ref a/\oM H2 a y (some v)/\Q v H2
def al7(td ty tv:TE):TS:=fun D σ H=>tv σ H fun v H1=>td σ H1 fun x H2=>ty σ H2 fun y H3=>∃a H4,x=.ref a/\ajt H3 a y v H4/\D.nx σ H4
section
variable {i:Expr}{tpos:Pos}{td ty tv:TE}
theorem aei(hu:X.A.units+1<cLine)(ho:PE X o td)(hi:PE X i ty)(hs:ai2 i):PE X (.Subscript o i pos) (akn td ty):=by intro pins s σ H Q I h;refine ace Dr.lookup hs (xj (ho pins s σ H _ I h) fun u s1 ⟨x,H1,I1,rx,q1⟩=>xj (hi pins s1 σ H1 _ I1 q1) fun iv s2 ⟨y,H2,I2,ry,a,v,ex,g,q2⟩=>?_);subst ex;obtain rfl:u=Value.ref a:=rx;exact⟨qQ I2 g,vU hu I2 g ry fun w' s3 I3 rw'=>⟨v,H2,I3,rw',q2⟩⟩
theorem ad6(hu:X.A.units+1<cLine)(ho:PE X o td)(hi:PE X i ty)(hv:PE X value tv)(hs:swapsWith value (some (.Subscript o i pos')) pos.line X.env=pure false):
 PS X (.Assign [.Subscript o i pos'] value pos) (al7 td ty tv):=by
 intro pins s σ H D I h;refine wpAny_Assign_Subscript (xj (hv pins s σ H _ I h) fun r s1 ⟨v,H1,I1,rv,q1⟩=>xj (ho pins s1 σ H1 _ I1 q1) fun u s2 ⟨x,H2,I2,rx,q2⟩=>xj (hi pins s2 σ H2 _ I2 q2) fun iv s3 ⟨y,H3,I3,ry,a,H4,ex,g,q3⟩=>?_) hs;subst ex;obtain rfl:u=Value.ref a:=rx;exact xF hu I3 g ry rv fun s4 I4=>⟨σ,H4,I4,q3⟩
end
theorem pY{P:Program}{w:World}(h:Heap)(hb:sysModules<h.objs.size):xa P w H (h.push { cls:=.type "dict",data:=.dict #[] }) h.objs.size (.dK []):=
 ⟨Bm _,beq_eq_false_iff_ne.mpr (AK (A9 hb)),[],.nil,Heap.DictOf.new h⟩
def agy:TE:=fun _ H Q=>∀p,H p=none->Q (.ref p) (upd H p (.dK []))
section
theorem abh:PE X (.Dict [] [] pos) agy:=fun pins s σ H Q I h=>
 wpAny_Dict_empty ⟨.ref s.heap.objs.size,_,I.laid (a:=s.heap.objs.size) (o:=.dK []) (t':=s.toks) (fun _ _ q=>Heap.get?_push_of_some _ q) (Al _) (pY s.heap I.big),rfl,h _ (I.hok.fresh (Al _))⟩
end
def nK:List (TE×TE)->St->Hp->(List (V×V)->Hp->Prop)->Prop
 |[],_,H,Q=>Q [] H
 |(tk,tv)::r,σ,H,Q=>tk σ H fun x H1=>tv σ H1 fun y H2=>nK r σ H2 fun ps H3=>Q ((x,y)::ps) H3
abbrev VV:List (V×V)->List (Value×Value)->Prop:=Paired fun p q=>zf p.1 q.1/\zf p.2 q.2
def PPs(X:Cx)(pos:Pos)(keys:List (Option Expr))(values:List Expr)(trs:List (TE×TE)):Prop:=
 ∀(pins:List (Addr×Obj)) (s:Shared) (σ:St) (H:Hp) (Q:List (V×V)->Hp->Prop),z0 X pins σ H s->nK trs σ H Q->
  wpAny (model X.prog X.w) X.A (evalPairs (pairTrees keys values X.env pos)) (fun vs s'=>∃ps H',z0 X pins σ H' s'/\VV ps vs/\Q ps H') X.xe s
theorem aer :PPs X pos [] [] []:=fun pins s σ H Q I h=>pairTrees_nil_walk ⟨[],H,I,.nil,h⟩
theorem fB{k v:Expr}{ks:List (Option Expr)}{vs:List Expr}{tk tv:TE}{trs:List (TE×TE)}(hk:PE X k tk)(hv:PE X v tv)(hr:PPs X pos ks vs trs):
 PPs X pos (some k::ks) (v::vs) ((tk,tv)::trs):=fun pins s σ H Q I h=>
 pairTrees_cons_walk (xj (hk pins s σ H _ I h) fun u s1 ⟨x,H1,I1,rx,q1⟩=>xj (hv pins s1 σ H1 _ I1 q1) fun w2 s2 ⟨y,H2,I2,ry,q2⟩=>
  xj (hr pins s2 σ H2 _ I2 q2) fun ws s3 ⟨ps,H3,I3,rel,q3⟩=>⟨(x,y)::ps,H3,I3,.cons ⟨rx,ry⟩ rel,q3⟩)
def fk(kvs more:List (zq×V)):List (zq×V):=more.foldl (fun acc kv=>cj acc kv.1 kv.2) kvs
theorem KV.merge:∀{more:List (zq×V)} {rs:List (zq×Value)} {kvs:List (zq×V)} {vs:List (zq×Value)},KV more rs->KV kvs vs->KV (fk kvs more) (merged vs rs):=by
 intro more rs kvs vs r;unfold KV at r
 induction r generalizing kvs vs with
 |nil=>intro q;exact q
 |@cons p q ps qs h t ih=>
  intro r0;have e:KV (cj kvs p.1 p.2) (stored vs q.1 q.2):=by have:=r0.put p.1 h.2;rw[<-h.1];exact this
  exact ih e
theorem dr:∀(more kvs:List (zq×V)),(fk kvs more).length≤kvs.length+more.length
 |[],kvs=>by show kvs.length≤kvs.length+0;omega
 |p::r,kvs=>by have h1:=dr r (cj kvs p.1 p.2);have h2:=cq kvs p.1 p.2;show(fk (cj kvs p.1 p.2) r).length≤_;rw[AJ];omega
theorem kM{P:Program}{w:World}:∀{kvs:List (zq×V)} {ws:List (Value×Value)},VV (kvs.map fun kv=>(kV kv.1,kv.2)) ws->∃rs,Carries (x8 P w) ws rs/\KV kvs rs
 |[],_,r=>by rw[CT] at r;cases r;exact⟨[],True.intro,.nil⟩
 |p::kvs,_,r=>by
  rw[AO] at r;cases r with
  |@cons a b as bs h t=>
   obtain⟨rs,c,q⟩:=kM (P:=P) (w:=w) t;obtain⟨b1,b2⟩:=b;exact⟨(p.1,b2)::rs,⟨hE h.1,rfl,c⟩,.cons ⟨rfl,h.2⟩ q⟩
def akd(trs:List (TE×TE)):TE:=fun σ H Q=>∀p,H p=none->nK trs σ (upd H p (.dK [])) fun ps H2=>H2 p=some (.dK [])/\∃kvs:List (zq×V),ps=kvs.map (fun kv=>(kV kv.1,kv.2))/\kvs.length≤15/\Q (.ref p) (upd H2 p (.dK (fk [] kvs)))
theorem ado{keys:List (Option Expr)}{values:List Expr}{trs:List (TE×TE)}(h:PPs X pos keys values trs)(hall:keys.all (·.isSome)=true)(hl:keys.length=values.length)(h0:keys≠[])
 (h15:keys.length≤15):PE X (.Dict keys values pos) (akd trs):=by
 intro pins s σ H Q I q;have hn:=I.hok.fresh (Al s.heap.objs.size);have I1:=I.laid (a:=s.heap.objs.size) (o:=.dK []) (h':=s.heap.push { cls:=.type "dict",data:=.dict #[] }) (t':=s.toks) (fun _ _ q=>Heap.get?_push_of_some _ q) (Al _) (pY s.heap I.big);refine wpAny_Dict_walk (knd:=x8 X.prog X.w) hall hl h0 h15 (xj (h pins _ σ _ _ I1 (q _ hn)) fun ws s2 ⟨ps,H2,I2,rel,e,kvs,ep,lk,q2⟩=>?_);subst ep;obtain⟨rs,c,rk⟩:=kM (P:=X.prog) (w:=X.w) rel;obtain⟨z,hd,vs0,r0,dd⟩:=aft I2.hok e;cases r0;refine⟨rs,c,dd,fun h' dd' hs=>⟨.ref s.heap.objs.size,_,?_,rfl,q2⟩⟩;have hz:(fk [] kvs).length≤sizeLine:=by have h1:=dr kvs [];rw[List.length_nil] at h1;rw[sizeLine_eq];omega
 have he:∃q,h'.get? s.heap.objs.size=some q:=let ⟨q,_,_,hq,_⟩:=dd';⟨q,hq⟩;exact nQ I2 (by rw[e];exact True.intro) hs he (ab0 hz hd (rk.merge .nil) dd')
section
variable {a:Addr}{y d:V}{r:Value}{o:Option V} 
end
section
variable {f:Expr}{td ty tx:TE}
end
section
variable {a:Addr}{kvs:List (zq×V)} 
end
section
variable {a:Addr}{y:V} 
end
end L2
namespace HT
open PySem PyProof.Rows
section
open PySem.SeqAt
open PySem.AutoSeq1 (wpAny_loadPart')
open PySem.MeetsSeq PySem.MeetsSeq2 PySem.MeetsSeq3
end
section
variable {w:World} 
def sIx(n d:Nat):Option Int->Nat
 |none=>d
 |some v=>if v<0 then(v+(n:Int)).toNat else min v.toNat n
theorem sIx_none(n d:Nat):sIx n d none=d:=rfl
theorem sIx_nat(n d k:Nat):sIx n d (some (k:Int))=min k n:=by show(if (k:Int)<0 then((k:Int)+(n:Int)).toNat else min (k:Int).toNat n)=min k n;rw[Ay (by omega),BD]
theorem sIx_le(n d:Nat)(hd:d≤n)(o:Option Int):sIx n d o≤n:=by
 cases o with
 |none=>exact hd
 |some v=>
  show(if v<0 then(v+(n:Int)).toNat else min v.toNat n)≤n;by_cases hv:v<0
  ·rw[AA hv];omega
  ·rw[Ay hv];exact Nat.min_le_right _ _
theorem ui(v:Int)(n d:Nat):(if v<0 then max (v+(n:Int)) 0 else min v (n:Int))=((sIx n d (some v):Nat):Int):=by
 show(if v<0 then max (v+(n:Int)) 0 else min v (n:Int))=(((if v<0 then(v+(n:Int)).toNat else min v.toNat n):Nat):Int);by_cases hv:v<0
 ·simp only[AA hv];omega
 ·simp only[Ay hv];omega
theorem tL(lo hi:Option Int)(n:Nat):Builtin.Slice.sliceAdjust lo hi 1 (n:Int)=(((sIx n 0 lo:Nat):Int),((sIx n n hi:Nat):Int)):=by
 have h1:¬((1:Int)<0):=by omega
 unfold Builtin.Slice.sliceAdjust;simp only[h1,if_false];refine Prod.ext ?_ ?_
 ·cases lo with|none=>rfl|some v=>exact ui v n 0
 ·cases hi with|none=>rfl|some v=>exact ui v n n
theorem tT(i j:Nat):Builtin.Slice.slicePlaces (i:Int) (j:Int) 1=j - i:=by
 unfold Builtin.Slice.slicePlaces;have h1:(1:Int) > 0:=by omega
 simp only[h1,if_true,Int.ediv_one];split<;>omega
theorem jO{v:Value}{o:Option Int}{Q:Option Int->Shared->Prop}(p:IsPart v o)(h:Q o s):wpAny (model prog w) A (Builtin.Slice.slicePartIndex v) Q E s:=by cases p with|none=>exact slicePart_none h|int i t=>exact slicePart_int h
theorem fw{sl:Addr}{vl vu:Value}{lo hi:Option Int}{Q:Int×Int×Nat->Shared->Prop}(hs:s.heap.IsSliceOf sl vl vu .none)(pl:IsPart vl lo)(pu:IsPart vu hi)
 (h:Q (((sIx n 0 lo:Nat):Int),1,sIx n n hi - sIx n 0 lo) s):wpAny (model prog w) A (Builtin.Slice.sliceApplied (.ref sl) (pure (n:Int))) Q E s:=by
 obtain⟨os,hos,hcs,hds⟩:=id hs;unfold Builtin.Slice.sliceApplied Builtin.Slice.sliceFields;refine Aa (Aa (Be hos hds (x:=vl) rfl (Aa (Be hos hds (x:=vu) rfl (Aa (Be hos hds (x:=.none) rfl (Ai ?_)))))));refine Aa (slicePart_none ?_);show wpAny _ _ (if ((1:Int)==0)=true then _ else _) _ _ s;rw[Ay (by decide)];refine Aa (jO pl (Aa (jO pu (Aa (Ai ?_)))));show wpAny _ _ (match Builtin.Slice.sliceAdjust lo hi 1 (n:Int) with | (lo,hi)=>pure (lo,(1:Int),Builtin.Slice.slicePlaces lo hi 1)) _ _ s;rw[tL lo hi n];show wpAny _ _ (pure (((sIx n 0 lo:Nat):Int),(1:Int),Builtin.Slice.slicePlaces ((sIx n 0 lo:Nat):Int) ((sIx n n hi:Nat):Int) 1)) _ _ s;rw[tT];exact Ai h
theorem yu(xs:Array Value)(i k:Nat):((List.range k).filterMap fun(m:Nat)=>xs[((i:Int)+(m:Int)*1).toNat]?).toArray=((xs.toList.drop i).take k).toArray:=by
 have e:(fun(m:Nat)=>xs[((i:Int)+(m:Int)*1).toNat]?)=fun m=>xs[i+m]?:=by
  funext m;have:((i:Int)+(m:Int)*1).toNat=i+m:=by omega
  rw[this]
 rw[e];have:=pick_run xs i k;rw[List.filterMap_map] at this;have e2:((fun x=>xs[x]?)∘fun x=>i+x)=fun m=>xs[i+m]?:=rfl;rw[e2] at this;rw[this]
theorem getItem_tuple_cut{t sl:Addr}{items:Array Value}{vl vu:Value}{lo hi:Option Int}(ht:IsTup s.heap t items)(hs:s.heap.IsSliceOf sl vl vu .none)(pl:IsPart vl lo)(pu:IsPart vu hi)
 (hw:¬(sIx items.size 0 lo=0/\sIx items.size items.size hi=items.size))
 (h:Q (.ref s.heap.objs.size) { s with heap:=s.heap.push { cls:=.type "tuple",data:=.seq ((items.toList.drop (sIx items.size 0 lo)).take (sIx items.size items.size hi - sIx items.size 0 lo)).toArray } })
 (hsz:items.size≤sizeLine):wpAny (model prog w) A (getItem (.ref t) (.ref sl)) Q E s:=by
 have htake:sizeOk (.seq ((items.toList.drop (sIx items.size 0 lo)).take (sIx items.size items.size hi - sIx items.size 0 lo)).toArray):=by show((items.toList.drop (sIx items.size 0 lo)).take (sIx items.size items.size hi - sIx items.size 0 lo)).toArray.size≤sizeLine;rw[Am,AN,Br,AL];omega
 have hj:sIx items.size items.size hi≤items.size:=sIx_le _ _ (Al _) hi;obtain⟨os,hos,hcs,hds⟩:=id hs;have hTs:s.TypeIs (.ref sl) "slice" := ⟨os,hos,hcs⟩;unfold getItem
 try with_reducible refine Bg ?_
 first | refine Aa (Ai ?_) | skip
 refine Aa (wpAny_sequenceKey ht.typeIs (by decide) ?_);refine Aa (wpAny_callSpecial?_slot (name:=Str.ofString "__getitem__") ht.typeIs Ca
  (wpAny_call_entry Ca ht.typeIs entry_tuple_getitem ?_ (args_tuple_getitem _ _)))
 show wpAny _ _ (Builtin.Tuple.tupleItemsOf (.ref t) >>= _) _ _ s;refine Aa (tupleItemsOf_ ht ?_);refine Aa (wpAny_typeOf hTs ?_);rw[AA (by decide)];refine Aa (fw hs pl pu ?_);have hno:¬((((sIx items.size 0 lo:Nat):Int)==0&&(1:Int)==1&&(sIx items.size items.size hi - sIx items.size 0 lo)==items.size)=true):=by intro q;rw[A8,A8] at q;have q1:((sIx items.size 0 lo:Nat):Int)=0:=eq_of_beq q.1.1;have q2:sIx items.size items.size hi - sIx items.size 0 lo=items.size:=eq_of_beq q.2;exact hw ⟨by omega,by omega⟩
 show wpAny _ _ (if (((sIx items.size 0 lo:Nat):Int)==0&&(1:Int)==1&&(sIx items.size items.size hi - sIx items.size 0 lo)==items.size)=true then _ else _) _ _ s;rw[Ay hno,yu]
 first
  |exact Aa (m:=Builtin.Tuple.tupleExact _) (Bq (Ai ⟨_,rfl,Ai h⟩) htake)
  |exact Aa (m:=Builtin.Tuple.tupleExact _) (Bq (Aa (Ai (Ai ⟨_,rfl,Ai h⟩))) htake)
  |exact Aa (Aa (m:=Builtin.Tuple.tupleExact _) (Bq (Ai (Ai ⟨_,rfl,Ai h⟩)) htake))
  |exact Aa (Aa (m:=Builtin.Tuple.tupleExact _) (Bq (Ai ⟨_,rfl,Ai h⟩) htake))
end
end HT
namespace L2
open PySem PySem.Spec PyProof.Rows
abbrev TO:=St->Hp->(Option Int->Hp->Prop)->Prop
def PO(X:Cx)(e:Option Expr)(t:TO):Prop:=
 ∀(pins:List (Addr×Obj)) (s:Shared) (σ:St) (H:Hp) (Q:Option Int->Hp->Prop),z0 X pins σ H s->t σ H Q->
  wpAny (model X.prog X.w) X.A (evalPart e X.env) (fun u s'=>∃o H',z0 X pins σ H' s'/\IsPart u o/\Q o H') X.xe s
def ae6:TO:=fun _ H Q=>Q none H
def al2(t:TE):TO:=fun σ H Q=>t σ H fun x H1=>∃i,x=.int i/\Q (some i) H1
section
variable {te:TE}{lo hi:Option Expr}{tl th:TO} 
theorem adc:PO X none ae6:=by intro pins s σ H Q I h;rw[evalPart_none];exact Ai ⟨none,H,I,.none,h⟩
theorem acd(h:PE X e te):PO X (some e) (al2 te):=by intro pins s σ H Q I hw;rw[evalPart_some];refine xj (h pins s σ H _ I hw) fun u s1 ⟨x,H1,I1,r1,q1⟩=>?_;obtain⟨i,rfl,q⟩:=q1;obtain⟨t,rfl⟩:=r1;exact⟨some i,H1,I1,.int i t,q⟩
def ox(X:Cx)(r:V->Option Int->Option Int->Hp->VK->Prop):Prop:=
 ∀(pins:List (Addr×Obj)) (s:Shared) (σ:St) (H:Hp) (x:V) (v vl vu:Value) (lo hi:Option Int) (sl:Addr) (Q:VK),z0 X pins σ H s->zf x v->s.heap.IsSliceOf sl vl vu .none->IsPart vl lo->IsPart vu hi->r x lo hi H Q->
  ∃T id,typeLookup (.type T) "__getitem__" = pure (some (.builtin id))/\s.TypeIs v T/\wpAny (model X.prog X.w) X.A (getItem v (.ref sl)) (EP X pins σ Q) X.xe s
theorem ox.or{r':V->Option Int->Option Int->Hp->VK->Prop}(h:ox X r)(h':ox X r'):ox X (fun x lo hi H Q=>r x lo hi H Q\/r' x lo hi H Q):=by
 intro pins s σ H x v vl vu lo hi sl Q I rx hs pl pu q;rcases q with q | q
 ·exact h pins s σ H x v vl vu lo hi sl Q I rx hs pl pu q
 ·exact h' pins s σ H x v vl vu lo hi sl Q I rx hs pl pu q
def tSl(r:V->Option Int->Option Int->Hp->VK->Prop)(te:TE)(tl th:TO):TE:=fun σ H Q=>te σ H fun x H1=>tl σ H1 fun l H2=>th σ H2 fun u H3=>r x l u H3 Q
theorem aay(hr:ox X r)(he:PE X e te)(hl:PO X lo tl)(hu:PO X hi th):PE X (.Subscript e (.Slice lo hi none p2) pos) (tSl r te tl th):=by intro pins s σ H Q I h;refine Subscript_ (xj (he pins s σ H _ I h) fun v s1 ⟨x,H1,I1,r1,q1⟩=>?_);refine wpAny_Slice (xj (hl pins s1 σ H1 _ I1 q1) fun vl s2 ⟨l,H2,I2,pl,q2⟩=>xj (hu pins s2 σ H2 _ I2 q2) fun vu s3 ⟨u,H3,I3,pu,q3⟩=>?_);rw[evalPart_none];refine Ai ?_;have I4:z0 X pins σ H3 { s3 with heap:=s3.heap.push { cls:=.type "slice",data:=.fields #[vl,vu,.none] } }:=I3.kept (t':=s3.toks) fun b ob q=>Heap.get?_push_of_some _ q;obtain⟨T,id,hT,ht,hg⟩:=hr pins { s3 with heap:=s3.heap.push { cls:=.type "slice",data:=.fields #[vl,vu,.none] } } σ H3 x v vl vu l u s3.heap.objs.size Q I4 r1 (Heap.IsSliceOf.new ..) pl pu q3;show wpAny (model X.prog X.w) X.A (subscriptTail e (.Slice lo hi none p2) v (.ref s3.heap.objs.size)) (EP X pins σ Q) X.xe { s3 with heap:=s3.heap.push { cls:=.type "slice",data:=.fields #[vl,vu,.none] } };exact tail_any (ops:=[.ref s3.heap.objs.size,v]) ht hT hg (by with_unfolding_all rfl)
def pS(xs:List V)(lo hi:Option Int):List V:=(xs.drop (HT.sIx xs.length 0 lo)).take (HT.sIx xs.length xs.length hi - HT.sIx xs.length 0 lo)
theorem iI(xs:List V)(lo hi:Option Int):(pS xs lo hi).length≤xs.length:=by unfold pS;rw[AN,Br];omega
def ang(K:Ah):V->Option Int->Option Int->Hp->VK->Prop:=fun x lo hi H Q=>∃a xs,x=.ref a/\cJ K H a xs/\
 ¬(HT.sIx xs.length 0 lo=0/\HT.sIx xs.length xs.length hi=xs.length)/\∀p,H p=none->Q (.ref p) (upd H p (.tup (pS xs lo hi)))
theorem aif:ox X (ang X.K):=by
 intro pins s σ H x v vl vu lo hi sl Q I rx hs pl pu h;obtain⟨a,xs,rfl,hx,hw,q⟩:=h;cases rx;obtain⟨its,r,ht,hz⟩:=I.tuple hx;have hlen:its.toArray.size=xs.length:=by rw[Am];exact r.length.symm
 refine⟨"tuple",_,Ca.lookup,ht.typeIs,?_⟩;refine HT.getItem_tuple_cut ht hs pl pu (by rw[hlen];exact hw) ?_ (by rw[hlen];exact hz);rw[hlen];refine⟨.ref s.heap.objs.size,_,I.laid (t':=s.toks) (o:=.tup (pS xs lo hi)) (fun b ob q=>Heap.get?_push_of_some _ q) (Al _) ?_,rfl,q _ (I.hok.fresh (Al _))⟩;exact⟨AU (iI xs lo hi) hz,_,(r.drop (HT.sIx xs.length 0 lo)).take (HT.sIx xs.length xs.length hi - HT.sIx xs.length 0 lo),IsTup.new _ _⟩
end
def ixN(n:Nat)(i:Int):Option Nat:=if 0≤i then(if i<n then some i.toNat else none) else if -(n:Int)≤i then some (i+n).toNat else none
def fv(xs:List α)(i:Int):Option α:=(ixN xs.length i).bind fun j=>xs[j]?
theorem uL{i:Int}(h:ixN n i=some j):seqIndex? i n=some j/\j<n /\ -(n:Int)≤i/\i<n:=by
 unfold ixN at h;by_cases h0:0≤i
 ·rw[AA h0] at h;by_cases h1:i<n
  ·rw[AA h1] at h;have e:i.toNat=j:=Ba h;exact⟨by rw[seqIndex_of h0 h1,e],by omega,by omega,h1⟩
  ·rw[Ay h1] at h;cases h
 ·rw[Ay h0] at h;by_cases h1 : -(n:Int)≤i
  ·rw[AA h1] at h;have e:(i+n).toNat=j:=Ba h;exact⟨by rw[seqIndex_neg (by omega) h1,e],by omega,h1,by omega⟩
  ·rw[Ay h1] at h;cases h
theorem nM{xs:List α}{i:Int}{v:α}(h:fv xs i=some v):∃j,seqIndex? i xs.length=some j/\xs[j]?=some v/\j<xs.length /\ -(xs.length:Int)≤i/\i<xs.length:=by
 unfold fv at h;cases e:ixN xs.length i with
 |none=>rw[e] at h;cases h
 |some j=>
  rw[e] at h;obtain⟨h1,h2,h3,h4⟩:=uL e;exact⟨j,h1,h,h2,h3,h4⟩
theorem vh{xs:List α}{v:α}(h:xs[j]?=some v):fv xs (j:Int)=some v:=by
 have hj:j<xs.length:=(A1.mp h).1;have e:ixN xs.length (j:Int)=some j:=by unfold ixN;rw[AA (by omega),AA (by omega)];simp
 unfold fv;rw[e];exact h
def i6(b:Expr):Prop:=∀o i,subscripted b false o i=operate [o,i] (getItem o i)
def IxR(X:Cx)(r:R2):Prop:=
 ∀(value slice:Expr) (pins:List (Addr×Obj)) (s:Shared) (σ:St) (H:Hp) (x y:V) (v u:Value) (Q:VK),z0 X pins σ H s->zf x v->zf y u->r x y H Q->
  subscripted slice false v u=operate [v,u] (getItem v u)->wpAny (model X.prog X.w) X.A (subscriptTail value slice v u) (EP X pins σ Q) X.xe s
def MtR(X:Cx)(id:String)(r:V->List V->Hp->VK->Prop):Prop:=
 ∀(pins:List (Addr×Obj)) (s:Shared) (σ:St) (H:Hp) (x:V) (xs:List V) (v:Value) (us:List Value) (Q:VK),z0 X pins σ H s->zf x v->ze xs us->r x xs H Q->
  wpAny (model X.prog X.w) X.A (call (.builtin id) (v::us)) (EP X pins σ Q) X.xe s
section
variable {a b:Expr}{tb:TE} 
theorem af6{r:R2}(hr:IxR X r)(ha:PE X a ta)(hb:PE X b tb)(hs:i6 b):PE X (.Subscript a b pos) (tOp r ta tb):=by intro pins s σ H Q I h;exact Subscript_ (ahx ha hb I h fun v u s2 x y H2 I2 rx ry q=>hr a b pins s2 σ H2 x y v u Q I2 rx ry q (hs _ _))
def amn(K:Ah):R2:=fun x y H Q=>∃p xs i v,x=.ref p/\y=.int i/\w4 K H p xs/\fv xs i=some v/\Q v H
def ao3(K:Ah):R2:=fun x y H Q=>∃p xs i v,x=.ref p/\y=.int i/\cJ K H p xs/\fv xs i=some v/\Q v H
def an8:R2:=fun x y H Q=>∃z i c,x=.str z/\y=.int i/\z.length≤sizeLine/\fv z.cps.toList i=some c/\Q (.str ⟨#[c]⟩) H
theorem aco:IxR X (amn X.K):=by
 intro value slice pins s σ H x y v u Q I rx ry h hs;obtain⟨p,xs,i,z,rfl,rfl,hq,he,q⟩:=h;cases rx;obtain⟨t,rfl⟩:=ry;obtain⟨its,r,pl,hz⟩:=I.list hq;obtain⟨j,h1,h2,h3,h4,h5⟩:=nM he;obtain⟨w,ew,rw'⟩:=r.get h2;have hl:=r.length;have hn:=gG;have js:EP X pins σ Q w s:=⟨z,H,I,rw',q⟩;by_cases h0:0≤i
 ·have hj:i.toNat=j:=by rw[seqIndex_of h0 h5] at h1;exact Ba h1
  exact item_listR pl.isList h0 (by omega) (by rw[hj];simpa using ew) js hs
 ·have hj:(i+(its.toArray.size:Int)).toNat=j:=by rw[seqIndex_neg (by omega) h4] at h1;rw[Am,<-hl];exact Ba h1
  exact subscriptTail_builtinR (x:=w) pl.isList.typeIs slot_list_getitem.lookup
   (wpAny_getItem_list_neg (Q:=fun r s'=>r=w/\EP X pins σ Q r s') pl.isList (by omega) (by rw[Am]<;>omega) (by omega) (by rw[hj];simpa using ew) ⟨rfl,js⟩) hs
theorem aiu:IxR X (ao3 X.K):=by
 intro value slice pins s σ H x y v u Q I rx ry h hs;obtain⟨p,xs,i,z,rfl,rfl,hq,he,q⟩:=h;cases rx;obtain⟨t,rfl⟩:=ry;obtain⟨its,r,pl,hz⟩:=I.tuple hq;obtain⟨j,h1,h2,h3,h4,h5⟩:=nM he;obtain⟨w,ew,rw'⟩:=r.get h2;have hl:=r.length;have hn:=gG;have js:EP X pins σ Q w s:=⟨z,H,I,rw',q⟩;exact subscriptTail_builtinR (x:=w) pl.typeIs slot_tuple_getitem.lookup
  (getItem_tuple (j:=j) (Q:=fun r s'=>r=w/\EP X pins σ Q r s') pl (by omega) (by omega) (by rw[Am,<-hl];exact h1) (by simpa using ew) ⟨rfl,js⟩) hs
theorem aia:IxR X an8:=by
 intro value slice pins s σ H x y v u Q I rx ry h hs;obtain⟨z,i,c,rfl,rfl,hz,he,q⟩:=h;obtain⟨t,rfl⟩:=rx;obtain⟨t',rfl⟩:=ry;obtain⟨j,h1,h2,h3,h4,h5⟩:=nM he;have hl:z.cps.toList.length=z.length:=by simp[Str.length]
 rw[hl] at h1 h4 h5;have hn:=gG;exact tail_any (typeIs_str s z t) slot_str_getitem.lookup (getItem_str (c:=c) (by have e1:decide (i < -(2 ^ 63:Int))=false:=Az (by omega);have e2:decide (i≥2 ^ 63)=false:=Az (by omega);rw[e1,e2,Bool.or_false]) (by rw[h1];simpa using h2) ⟨.str ⟨#[c]⟩,H,I.tok _,⟨_,rfl⟩,q⟩) hs
theorem sO(its:List Value)(n j:Nat)(u:Value):Obj.mapSeq (·.setIfInBounds j u) { cls:=.type "list",data:=.seq its.toArray n }={ cls:=.type "list",data:=.seq (its.set j u).toArray n }:=by simp[Obj.mapSeq]
theorem z0.lst{p:Addr}(I:z0 X pins σ H s)(h:H p=some (.lst xs)):
 ∃(its:List Value) (n:Nat),ze xs its/\s.heap.get? p=some { cls:=.type "list",data:=.seq its.toArray n }/\xs.length≤sizeLine:=by
 obtain⟨z,its,n,r,e⟩:=I.hok p _ h;exact⟨its,n,r,e,z⟩
theorem z0.lstUpd{p:Addr}{ys:List V}{its':List Value}{n':Nat}{f:Obj->Obj}(I:z0 X pins σ H s)(h:H p=some (.lst xs))
 (ho:s.heap.get? p=some { cls:=.type "list",data:=.seq its.toArray n }) (hf:f { cls:=.type "list",data:=.seq its.toArray n }={ cls:=.type "list",data:=.seq its'.toArray n' }) (r:ze ys its') (hz:ys.length≤sizeLine) (t:Nat) (ht:0<t:=by walk_at "t"):
 z0 X pins σ (upd H p (.lst ys)) { s with heap:=s.heap.update p f,toks:=t }:=by
 have e:(s.heap.update p f).get? p=some { cls:=.type "list",data:=.seq its'.toArray n' }:=by rw[Heap.get?_update_self f ho (by rw[hf]<;>rfl),hf]
 refine I.write (x:=p) (e:=p) (by rw[h];trivial) (.inl rfl) (fun b u hb q=>(Heap.get?_update_other _ _ (AK hb)).trans q) ⟨_,e⟩ ?_;exact⟨hz,its',n',r,e⟩
def al6:V->V->V->Hp->(Hp->Prop)->Prop:=fun o i v H Q=>∃p xs k j,o=.ref p/\i=.int k/\H p=some (.lst xs)/\ixN xs.length k=some j/\Q (upd H p (.lst (xs.set j v)))
theorem zY:ajp X al6:=by
 intro pins s σ H o i v ov iv u Q I ro ri rv h;obtain⟨p,xs,k,j,rfl,rfl,hp,hj,q⟩:=h;cases ro;obtain⟨t,rfl⟩:=ri;obtain⟨its,n,r,ho,hz⟩:=I.lst hp;obtain⟨h1,h2,h3,h4⟩:=uL hj;have hl:=r.length;have hn:=gG;have I':z0 X pins σ (upd H p (.lst (xs.set j v))) { s with heap:=s.heap.update p (Obj.mapSeq (·.setIfInBounds j u)) }:=
  I.lstUpd hp ho (sO its n j u) (r.set rv j) (by rw[B4];exact hz) s.toks
 by_cases h0:0≤k
 ·have hk:k.toNat=j:=by rw[seqIndex_of h0 h4] at h1;exact Ba h1
  exact PySem.W.ki_setAt ho h0 (by omega) (by rw[Am,<-hl];exact h4) (by rw[hk];exact⟨_,I',q⟩)
 ·have hk:(k+(its.toArray.size:Int)).toNat=j:=by rw[seqIndex_neg (by omega) h3] at h1;rw[Am,<-hl];exact Ba h1
  exact PySem.W.ki_setBack ho (by omega) (by rw[Am,<-hl];exact h3) (by omega) (by rw[hk];exact⟨_,I',q⟩)
theorem oJ(lo hi:Option Int)(n:Nat):(sliceBounds lo hi none n).1=((HT.sIx n 0 lo:Nat):Int)/\(sliceBounds lo hi none n).2.1=((HT.sIx n n hi:Nat):Int)/\(sliceBounds lo hi none n).2.2=1:=by
 refine⟨?_,?_,rfl⟩
 ·cases lo with
  |none=>simp[sliceBounds,HT.sIx]
  |some i=>
   simp only[sliceBounds,HT.sIx,Option.getD_none,show(1:Int) > 0 by decide,if_true];by_cases h:i<0
   ·simp only[h,if_true]<;>omega
   ·simp only[h,if_false]<;>omega
 ·cases hi with
  |none=>simp[sliceBounds,HT.sIx]
  |some i=>
   simp only[sliceBounds,HT.sIx,Option.getD_none,show(1:Int) > 0 by decide,if_true];by_cases h:i<0
   ·simp only[h,if_true]<;>omega
   ·simp only[h,if_false]<;>omega
theorem lg(its:List Value)(lo hi:Option Int):slicePick its.toArray lo hi none=((its.drop (HT.sIx its.length 0 lo)).take (HT.sIx its.length its.length hi - HT.sIx its.length 0 lo)).toArray:=by obtain⟨h1,h2,h3⟩:=oJ lo hi its.toArray.size;unfold slicePick;rw[h1,h2,h3];simp only[sliceRange_one,pick_run,Am]<;>rfl
def ant(K:Ah):V->Option Int->Option Int->Hp->VK->Prop:=fun x lo hi H Q=>∃a xs,x=.ref a/\w4 K H a xs/\∀p,H p=none->Q (.ref p) (upd H p (.lst (pS xs lo hi)))
theorem ad8:ox X (ant X.K):=by intro pins s σ H x v vl vu lo hi sl Q I rx hs pl pu h;obtain⟨a,xs,rfl,hx,q⟩:=h;cases rx;obtain⟨its,r,ht,hz⟩:=I.list hx;have hlen:=r.length;refine⟨"list",_,slot_list_getitem.lookup,ht.isList.typeIs,?_⟩;refine wpAny_getItem_list_slice ht.isList hs pl pu .none (by simp) ?_ (by rw[Am]<;>omega);rw[lg,<-hlen];refine⟨.ref s.heap.objs.size,_,I.laid (t':=s.toks) (o:=.lst (pS xs lo hi)) (fun b ob q=>Heap.get?_push_of_some _ q) (Al _) ?_,rfl,q _ (I.hok.fresh (Al _))⟩;exact⟨AU (iI xs lo hi) hz,_,0,(r.drop (HT.sIx xs.length 0 lo)).take (HT.sIx xs.length xs.length hi - HT.sIx xs.length 0 lo),Heap.get?_push_size _ rfl⟩
def aE:V->Bool
 |.non=>true
 |.bl _=>true
 |.int _=>true
 |.str _=>true
 |_=>false
def fi:V->V->Bool
 |.non,.non=>true
 |.bl a,.bl b=>a==b
 |.bl a,.int b=>(if a then 1 else 0)==b
 |.int a,.bl b=>a==(if b then 1 else 0)
 |.int a,.int b=>a==b
 |.str a,.str b=>a==b
 |_,_=>false
theorem iu{y x:V}{v:Value}(ry:zf y u)(rx:zf x v)(fy:aE y=true)(fx:aE x=true):SeqAt.EqAt A s u v (fi y x):=by
 cases y with
 |non=>
  cases ry;cases x with
  |non=>cases rx;exact SeqAt.EqAt.same _
  |bl b=>cases rx;exact SeqAt.EqAt.none_bool b
  |int b=>obtain⟨t,rfl⟩:=rx;exact SeqAt.EqAt.none_int b t
  |str b=>obtain⟨t,rfl⟩:=rx;exact SeqAt.EqAt.none_str b t
  |_=>exact absurd (show false=true from fx) AB
 |bl a=>
  cases ry;cases x with
  |non=>cases rx;exact SeqAt.EqAt.bool_none a
  |bl b=>cases rx;exact SeqAt.EqAt.bool_bool a b
  |int b=>obtain⟨t,rfl⟩:=rx;exact SeqAt.EqAt.bool_int a b t
  |str b=>obtain⟨t,rfl⟩:=rx;exact SeqAt.EqAt.bool_str a b t
  |_=>exact absurd (show false=true from fx) AB
 |int a=>
  obtain⟨t',rfl⟩:=ry;cases x with
  |non=>cases rx;exact SeqAt.EqAt.int_none a t'
  |bl b=>cases rx;exact SeqAt.EqAt.int_bool a t' b
  |int b=>obtain⟨t,rfl⟩:=rx;exact SeqAt.EqAt.int_int a t' b t
  |str b=>obtain⟨t,rfl⟩:=rx;exact SeqAt.EqAt.int_str a t' b t
  |_=>exact absurd (show false=true from fx) AB
 |str a=>
  obtain⟨t',rfl⟩:=ry;cases x with
  |non=>cases rx;exact SeqAt.EqAt.str_none a t'
  |bl b=>cases rx;exact SeqAt.EqAt.str_bool a t' b
  |int b=>obtain⟨t,rfl⟩:=rx;exact SeqAt.EqAt.str_int a t' b t
  |str b=>obtain⟨t,rfl⟩:=rx;exact SeqAt.EqAt.str_str a t' b t
  |_=>exact absurd (show false=true from fx) AB
 |_=>exact absurd (show false=true from fy) AB
def tS(x:V)(u:Value):Bool:=match u with
 |.none=>fi .non x
 |.bool b=>fi (.bl b) x
 |.int i _=>fi (.int i) x
 |.str z _=>fi (.str z) x
 |_=>false
theorem zM{x y:V}(r:zf y u)(f:aE y=true):tS x u=fi y x:=by
 cases y with
 |non=>cases r;rfl
 |bl b=>cases r;rfl
 |int i=>obtain⟨t,rfl⟩:=r;rfl
 |str z=>obtain⟨t,rfl⟩:=r;rfl
 |_=>exact absurd (show false=true from f) AB
theorem f6{x:V}:∀{xs:List V} {us:List Value},ze xs us->xs.all aE=true->us.any (tS x)=xs.any fun y=>fi y x
 |_,_,.nil,_=>rfl
 |y::xs,u::us,.cons r t,f=>by rw[Dz,A8] at f;rw[B9,B9,zM r f.1,f6 t f.2]
theorem cV{A:Around}{s:Shared}{x:V}{v:Value}(rx:zf x v)(fx:aE x=true):∀{xs:List V} {us:List Value},ze xs us->xs.all aE=true->∀u∈us,SeqAt.EqAt A s u v (tS x u)
 |_,_,.nil,_=>fun u hu=>by cases hu
 |y::xs,u::us,.cons r t,f=>fun u' hu=>by
  rw[Dz,A8] at f;rcases Au.mp hu with rfl | hu
  ·rw[zM r f.1];exact iu r rx f.1 fx
  ·exact cV rx fx t f.2 u' hu
def sn(x:V)(xs:List V):Bool:=xs.any fun y=>fi y x
def rIn(K:Ah)(neg:Bool):R2:=fun x y H Q=>∃p xs,y=.ref p/\(w4 K H p xs\/cJ K H p xs)/\aE x=true/\xs.all aE=true/\Q (.bl (if neg then !sn x xs else sn x xs)) H
theorem xJ:vm X (compareOp .In) (rIn X.K false):=by
 intro pins s σ H x y v u Q I rx ry h;obtain⟨p,xs,rfl,hq,fx,fs,q⟩:=h;cases ry;rcases hq with hq | hq
 ·obtain⟨its,r,pl,hz⟩:=I.list hq;refine SeqAt.in_listAt (tS x) pl.isList (fun w hw=>cV rx fx r fs w (by simpa using hw)) ⟨.bl _,H,I,rfl,?_⟩;rw[show its.toArray.any (tS x)=its.any (tS x) by simp,f6 r fs];exact q
 ·obtain⟨its,r,pl,hz⟩:=I.tuple hq;refine SeqAt.in_tupleAt (tS x) pl (fun w hw=>cV rx fx r fs w (by simpa using hw)) ⟨.bl _,H,I,rfl,?_⟩;rw[show its.toArray.any (tS x)=its.any (tS x) by simp,f6 r fs];exact q
theorem oI:vm X (compareOp .NotIn) (rIn X.K true):=by
 intro pins s σ H x y v u Q I rx ry h;obtain⟨p,xs,rfl,hq,fx,fs,q⟩:=h;cases ry;rcases hq with hq | hq
 ·obtain⟨its,r,pl,hz⟩:=I.list hq;refine SeqAt.notIn_listAt (tS x) pl.isList (fun w hw=>cV rx fx r fs w (by simpa using hw)) ⟨.bl _,H,I,rfl,?_⟩;rw[show its.toArray.any (tS x)=its.any (tS x) by simp,f6 r fs];exact q
 ·obtain⟨its,r,pl,hz⟩:=I.tuple hq;refine SeqAt.notIn_tupleAt (tS x) pl (fun w hw=>cV rx fx r fs w (by simpa using hw)) ⟨.bl _,H,I,rfl,?_⟩;rw[show its.toArray.any (tS x)=its.any (tS x) by simp,f6 r fs];exact q
theorem oj:ji X (.builtin "len") (fun xs H Q=>∃p ys,xs=[.ref p]/\(w4 X.K H p ys\/cJ X.K H p ys)/\Q (.int ys.length) H):=by
 intro pins s σ H xs us Q I r h;obtain⟨p,ys,rfl,hq,q⟩:=h;obtain⟨u,rfl,rx⟩:=gq r;cases rx;have hn:=gG;rcases hq with hq | hq
 ·obtain⟨its,r',pl,hz⟩:=I.list hq;have hlen:=r'.length;exact Calls.call_len_list pl.isList (by simp only[Am]<;>omega) ⟨.int ys.length,H,I.tok _,⟨s.toks+1,by rw[Am,hlen]⟩,q⟩
 ·obtain⟨its,r',pl,hz⟩:=I.tuple hq;have hlen:=r'.length;exact len_tuple pl (by simp only[Am]<;>omega) ⟨.int ys.length,H,I.tok _,⟨s.toks+1,by rw[Am,hlen]⟩,q⟩
theorem oN:ji X (.builtin "len") (fun xs H Q=>∃z,xs=[.str z]/\z.length≤sizeLine/\Q (.int z.length) H):=by intro pins s σ H xs us Q I r h;obtain⟨z,rfl,hz,q⟩:=h;obtain⟨u,rfl,t,rfl⟩:=gq r;have hn:=gG;exact len_str (by omega) ⟨.int z.length,H,I.tok _,⟨_,rfl⟩,q⟩
theorem nG:ji X (.type "list") (fun xs H Q=>∃p ys,xs=[.ref p]/\(w4 X.K H p ys\/cJ X.K H p ys)/\∀l,H l=none->Q (.ref l) (upd H l (.lst ys))):=by
 intro pins s σ H xs us Q I r h;obtain⟨p,ys,rfl,hq,q⟩:=h;obtain⟨u,rfl,rx⟩:=gq r;cases rx;have js:∀(its:List Value),ze ys its->ys.length≤sizeLine->∀(h':Heap) (c':Nat),(∀b o',s.heap.get? b=some o'->h'.get? b=some o')->
  h'.get? s.heap.objs.size=some { cls:=.type "list",dict:=none,data:=.seq its.toArray c',slots:=#[] }->EP X pins σ Q (.ref s.heap.objs.size) { s with heap:=h' }:=fun its r' hz h' c' kp e=>
  ⟨.ref s.heap.objs.size,_,I.laid (t':=s.toks) kp (Al _) (show xa X.prog X.w _ h' _ (.lst ys) from⟨hz,its,c',r',e⟩),rfl,q _ (I.hok.fresh (Al _))⟩
 rcases hq with hq | hq
 ·obtain⟨its,r',pl,hz⟩:=I.list hq;have hlen:=r'.length;obtain⟨o,ho,hc,n,hd⟩:=pl.isList;exact call_list_seq p (.inl rfl) ho hc hd (fun h' c' kp e=>js its r' hz h' c' kp e) (by simp only[Am]<;>omega)
 ·obtain⟨its,r',pl,hz⟩:=I.tuple hq;have hlen:=r'.length;obtain⟨o,ho,hc,n,hd⟩:=pl;exact call_list_seq p (.inr rfl) ho hc hd (fun h' c' kp e=>js its r' hz h' c' kp e) (by simp only[Am]<;>omega)
theorem lh:ji X (.type "tuple") (fun xs H Q=>∃p ys,xs=[.ref p]/\((w4 X.K H p ys/\∀l,H l=none->Q (.ref l) (upd H l (.tup ys)))\/(cJ X.K H p ys/\Q (.ref p) H))):=by
 intro pins s σ H xs us Q I r h;obtain⟨p,ys,rfl,h⟩:=h;obtain⟨u,rfl,rx⟩:=gq r;cases rx;rcases h with⟨hq,q⟩ | ⟨hq,q⟩
 ·obtain⟨its,r',pl,hz⟩:=I.list hq;have hlen:=r'.length;refine call_tuple_list pl.isList (fun h' kp=>?_) (by simp only[Am]<;>omega);have I1:z0 X pins σ H { s with heap:=h' }:=I.kept (t':=s.toks) kp;have I2:z0 X pins σ (upd H h'.objs.size (.tup ys)) { s with heap:=h'.push { cls:=.type "tuple",data:=.seq its.toArray } }:=
   I1.laid (t':=s.toks) (fun b o e=>Heap.get?_push_of_some _ e) (Al _) (show xa X.prog X.w _ _ _ (.tup ys) from⟨hz,its,r',IsTup.new _ _⟩)
  exact⟨.ref h'.objs.size,_,I2,rfl,q _ (I1.hok.fresh (Al _))⟩
 ·obtain⟨its,r',pl,hz⟩:=I.tuple hq;exact call_tuple_same pl ⟨.ref p,H,I,rfl,q⟩
def tyV(K:Ah)(T:String)(x:V)(H:Hp):Prop:=match x with
 |.str _=>T = "str"
 |.int _=>T = "int"
 |.ref p=>(T = "list" /\ ∃xs,w4 K H p xs)\/(T = "tuple" /\ ∃o,K.lookup p=some o/\o.cls=.type "tuple" /\ o.dict=none)\/
  (T = "dict" /\ ((∃kvs,H p=some (.dK kvs))\/∃kvs,H p=some (.dT kvs)))\/(T = "set" /\ ∃S n,H p=some (.set S n))
 |_=>False
theorem zW{T:String}{x:V}{v:Value}(I:z0 X pins σ H s)(r:zf x v)(ty:tyV X.K T x H):
 s.TypeIs v T/\∀a,v=.ref a->∃ob,s.heap.get? a=some ob/\ob.dict=none:=by
 cases x with
 |str z=>
  obtain⟨t,rfl⟩:=r;cases (show T = "str" from ty);exact⟨typeIs_str s z t,fun _ e=>nomatch e⟩
 |int i=>
  obtain⟨t,rfl⟩:=r;cases (show T = "int" from ty);exact⟨typeIs_int s i t,fun _ e=>nomatch e⟩
 |ref p=>
  cases r;rcases ty with⟨rfl,xs,hq⟩ | ⟨rfl,o,hk,hc,hd⟩ | ⟨rfl,hk⟩ | ⟨rfl,S,n,hk⟩
  ·obtain⟨its,_,pl,_⟩:=I.list hq;refine⟨pl.isList.typeIs,fun a e=>?_⟩;cases e;obtain⟨o,n,e,c,hd,_⟩:=pl;exact⟨o,e,hd⟩
  ·refine⟨⟨o,I.kIn p o hk,hc⟩,fun a e=>?_⟩;cases e;exact⟨o,I.kIn _ o hk,hd⟩
  ·have z:∃o,s.heap.get? p=some o/\o.ExactDict:=by
    rcases hk with⟨kvs,hk⟩ | ⟨kvs,hk⟩
    ·obtain⟨_,_,_,_,o,_,_,e,ex,_⟩:=I.hok p _ hk;exact⟨o,e,ex⟩
    ·obtain⟨_,_,_,_,o,_,_,e,ex,_⟩:=I.hok p _ hk;exact⟨o,e,ex⟩
   obtain⟨o,e,ex⟩:=z;refine⟨⟨o,e,ex.1⟩,fun a e2=>?_⟩;cases e2;exact⟨o,e,ex.2.1⟩
  ·obtain⟨o,_,_,_,e,ex,_⟩:=I.hok p _ hk;refine⟨⟨o,e,ex.1⟩,fun a e2=>?_⟩;cases e2;exact⟨o,e,ex.2.1⟩
 |_=>exact False.elim ty
def amc(K:Ah)(T:String)(r:V->List V->Hp->VK->Prop)(to:TE):TE:=fun σ H Q=>to σ H fun x H1=>tyV K T x H1/\r x [] H1 Q
def tBM(K:Ah)(T:String)(r:V->List V->Hp->VK->Prop)(to:TE)(t:TA):TE:=fun σ H Q=>to σ H fun x H1=>tyV K T x H1/\t σ H1 fun xs H2=>r x xs H2 Q
variable {to:TE}{t:TA}{T id:String}{r:V->List V->Hp->VK->Prop}
theorem ahb(pa:PlainAttrs T)(slot:Slot T name id)(hty:typeOf (.builtin id)=pure (.type "method_descriptor"))(hm:MtR X id r)(ho:PE X o to)
 (hbase:attributeBase o name X.env (eval o X.env)=eval o X.env:=by rfl) (hline:(apos.endLine==cpos.line)=true:=by rfl):PE X (.Call (.Attribute o name apos) [] [] cpos) (amc X.K T r to):=by
 intro pins s σ H Q I h;refine wpAny_Call_method0_late hbase hline (xj (ho pins s σ H _ I h) fun v s1 ⟨x,H1,I1,r1,ty,q1⟩=>?_);obtain⟨h1,h2⟩:=zW I1 r1 ty;exact⟨T,id,pa,slot,hty,h1,h2,Calls.callWith_builtin rfl (PySem.evalArgs_none (hm pins s1 σ H1 x [] v [] Q I1 r1 .nil q1))⟩
theorem afb(pa:PlainAttrs T)(slot:Slot T name id)(hty:typeOf (.builtin id)=pure (.type "method_descriptor"))(hm:MtR X id r)(ho:PE X o to)(ha:PA X (e::es) t)
 (hbase:attributeBase o name X.env (eval o X.env)=eval o X.env:=by rfl)
 (hfew:((backTo cpos (starEach (e::es) X.env)).all (fun x=>!x.1)&&(backToKw cpos (keywordEach [] X.env)).all (fun x=>x.1.isSome)
  && decide ((e::es).length+([]:List Keyword).length+(if ([]:List Keyword).isEmpty then 0 else 1)<30))=true:=by rfl)
 (hline:(apos.endLine==cpos.line)=true:=by rfl) (hs:Eb e es X:=by rfl) (hplain:Ec cpos es X:=by rfl):
 PE X (.Call (.Attribute o name apos) (e::es) [] cpos) (tBM X.K T r to t):=by
 intro pins s σ H Q I h;refine wpAny_Call_method_late hbase hfew hline rfl (xj (ho pins s σ H _ I h) fun v s1 ⟨x,H1,I1,r1,ty,q1⟩=>?_);obtain⟨h1,h2⟩:=zW I1 r1 ty;refine⟨T,id,pa,slot,hty,h1,h2,?_⟩;have hA:=ha cpos pins s1 σ H1 _ I1 q1;rw[hs] at hA ⊢;refine Calls.callWith_builtin (by show(false||(backTo cpos (starEach es X.env)).any (·.1))=false;rw[hplain]<;>rfl) (Calls.evalArgs_plain ?_);exact xj hA fun us s2 ⟨vs,H2,I2,r2,q2⟩=>hm pins s2 σ H2 x vs v us Q I2 r1 r2 q2
end
def jA(X:Cx)(id:String)(r:V->List V->Hp->VK->Prop):Prop:=
 ∀(pins:List (Addr×Obj)) (s:Shared) (σ:St) (H:Hp) (x:V) (xs:List V) (v:Value) (us:List Value) (Q:VK),z0 X pins σ H s->zf x v->ze xs us->r x xs H Q->
  wpAny (model X.prog X.w) X.A (call (.builtin id) (v::us)) (EP X pins σ Q) X.xe s
theorem ze.one:∀{x:V} {us:List Value},ze [x] us->∃u,us=[u]/\zf x u
 |_,_,.cons r .nil=>⟨_,rfl,r⟩
theorem ze.two:∀{x y:V} {us:List Value},ze [x,y] us->∃u v,us=[u,v]/\zf x u/\zf y v
 |_,_,_,.cons r (.cons q .nil)=>⟨_,_,rfl,r,q⟩
theorem ze.zero:∀{us:List Value},ze [] us->us=[]
 |_,.nil=>rfl
theorem ze.dropLast(h:ze xs us):ze xs.dropLast us.dropLast:=by
 induction h with
 |nil=>exact .nil
 |cons r t ih=>
  cases t with|nil=>exact .nil|cons q t'=>exact .cons r ih
theorem ze.eraseIdx:∀{xs:List V} {us:List Value} (i:Nat),ze xs us->ze (xs.eraseIdx i) (us.eraseIdx i)
 |_,_,_,.nil=>.nil
 |_,_,0,.cons _ t=>t
 |_,_,i+1,.cons r t=>.cons r (ze.eraseIdx i t)
theorem sQ(l:List α):l.eraseIdx (l.length - 1)=l.dropLast:=by
 induction l with
 |nil=>rfl
 |cons a r ih=>
  cases r with
  |nil=>rfl
  |cons b r=>
   have e:(a::b::r).length - 1=((b::r).length - 1)+1:=by have h1:(a::b::r).length=r.length+2:=rfl;have h2:(b::r).length=r.length+1:=rfl;omega
   rw[e,Cd,ih]
   all_goals rfl
theorem mw{α:Type}:∀(l:List α) (i:Nat),(l.eraseIdx i).length≤l.length
 |[],_=>Al _
 |_::_,0=>BS _
 |_::r,i+1=>Nat.succ_le_succ (mw r i)
section
variable {b:Addr}{ys:List V}
theorem z0.lset{its':List Value}{f:Array Value->Array Value}(I:z0 X pins σ H s)(hH:H l=some (.lst xs))
 (e:s.heap.get? l=some { cls:=.type "list",data:=.seq its.toArray n }) (hf:f its.toArray=its'.toArray) (hv:ze ys its') (hz:ys.length≤sizeLine) (ht:0<t':=by walk_at "t"):
 z0 X pins σ (upd H l (.lst ys)) { s with heap:=s.heap.update l (Obj.mapSeq f),toks:=t' }:=by
 have q:=PySem.IsL.update e f;rw[hf] at q;refine I.write (x:=l) (e:=l) (by rw[hH];exact trivial) (.inl rfl) (fun b' u hb hu=>(Heap.get?_update_other s.heap (Obj.mapSeq f) (AK hb)).trans hu) ⟨_,q⟩ ?_;exact⟨hz,its',_,hv,q⟩
theorem z0.lnew(I:z0 X pins σ H s)(hv:ze ys its)(hz:ys.length≤sizeLine)(ht:0<t':=by walk_at "t"):
 z0 X pins σ (upd H s.heap.objs.size (.lst ys)) { s with heap:=s.heap.push { cls:=.type "list",data:=.seq its.toArray },toks:=t' }:=
 I.laid (fun _ _ q=>Heap.get?_push_of_some _ q) (Al _) ⟨hz,its,0,hv,Heap.get?_push_size _ rfl⟩
theorem z0.fresh(I:z0 X pins σ H s):H s.heap.objs.size=none:=I.hok.fresh (Al _)
theorem z0.lstM(I:z0 X pins σ H s)(hH:H l=some (.lst xs)):xs.length≤sizeLine/\∃(its:List Value) (n:Nat),ze xs its/\xs.length=its.length/\s.heap.get? l=some { cls:=.type "list",data:=.seq its.toArray n }:=by obtain⟨z,its,n,r,e⟩:=I.hok l _ hH;exact⟨z,its,n,r,r.length,e⟩
theorem aao(h:n≤sizeLine):Builtin.List.listTooLong n=false:=by unfold Builtin.List.listTooLong;exact Az (by omega)
end
section
def aee:V->List V->Hp->VK->Prop:=fun x vs H Q=>∃l xs y,x=.ref l/\vs=[y]/\H l=some (.lst xs)/\xs.length<sizeLine/\Q .non (upd H l (.lst (xs++[y])))
theorem xL:jA X "list.append" aee:=by intro pins s σ H x vs v us Q I rx rv h;obtain⟨l,xs,y,rfl,rfl,hH,hz,q⟩:=h;cases rx;obtain⟨u,rfl,ru⟩:=rv.one;obtain⟨z,its,n,r,hl,e⟩:=I.lstM hH;refine call_meets F.slot_list_append ⟨_,e,rfl⟩ F.entry_list_append (F.args_list_append_2 _ _) (PySem.list_append l its.toArray n u (by rw[Am];omega)) ⟨e,?_⟩;refine⟨.non,_,I.lset (its':=its++[u]) hH e (by simp) (r.append (.cons ru .nil)) ?_,rfl,q⟩;rw[Ac,C2];omega
def acr:V->List V->Hp->VK->Prop:=fun x vs H Q=>∃l b xs zs,x=.ref l/\vs=[.ref b]/\H l=some (.lst xs)/\H b=some (.lst zs)/\xs.length+zs.length≤sizeLine/\Q .non (upd H l (.lst (xs++zs)))
theorem yG:jA X "list.extend" acr:=by
 intro pins s σ H x vs v us Q I rx rv h;obtain⟨l,b,xs,zs,rfl,rfl,hH,hB,hz,q⟩:=h;cases rx;obtain⟨u,rfl,ru⟩:=rv.one;cases ru;obtain⟨z,its,n,r,hl,e⟩:=I.lstM hH;obtain⟨z2,its2,n2,r2,hl2,e2⟩:=I.lstM hB;have hsz:its.toArray.size+its2.toArray.size≤sizeLine:=by rw[Am,Am];omega
 have hlong:¬(!its.toArray.isEmpty&&Builtin.List.listTooLong (its.toArray.size+its2.toArray.size))=true:=by rw[aao hsz,CU];exact AB
 refine call_meets F.slot_list_extend ⟨_,e,rfl⟩ F.entry_list_extend (F.args_list_extend_2 _ _)
  (AutoSeq1.list_extend_list_list_0 l its.toArray n b its2.toArray n2 hlong (by rw[Am];omega) (by omega)) ⟨e,e2,?_⟩
 refine⟨.non,_,I.lset (its':=its++its2) hH e (by simp) (r.append r2) ?_,rfl,q⟩;rw[Ac];omega
def anv:V->List V->Hp->VK->Prop:=fun x vs H Q=>∃l xs y,x=.ref l/\vs=[]/\H l=some (.lst xs)/\xs[xs.length - 1]?=some y/\Q y (upd H l (.lst xs.dropLast))
theorem ag6:jA X "list.pop" anv:=by
 intro pins s σ H x vs v us Q I rx rv h;obtain⟨l,xs,y,rfl,rfl,hH,hy,q⟩:=h;cases rx;have hus:=rv.zero;subst hus;obtain⟨z,its,n,r,hl,e⟩:=I.lstM hH;obtain⟨u,hu,ru⟩:=r.get hy;have hy':its.toArray[its.toArray.size - 1]?=some u:=by show its.toArray[its.length - 1]?=some u;rw[<-A5,<-hl];exact hu
 refine call_meets F.slot_list_pop ⟨_,e,rfl⟩ F.entry_list_pop (F.args_list_pop_1 _) (MeetsSeq.list_pop_last l its.toArray n u hy' (by rw[Am];omega)) ⟨e,?_⟩;refine⟨y,_,I.lset (its':=its.dropLast) hH e ?_ r.dropLast ?_,ru,q⟩
 ·show its.toArray.eraseIdxIfInBounds (its.toArray.size - 1)=its.dropLast.toArray;rw[Am,C1,sQ]
 ·rw[List.length_dropLast];omega
def aip:V->List V->Hp->VK->Prop:=fun x vs H Q=>∃l xs i k y,x=.ref l/\vs=[.int i]/\H l=some (.lst xs) /\ -(2 ^ 63)≤i/\i<2 ^ 63/\seqIndex? i xs.length=some k/\xs[k]?=some y/\Q y (upd H l (.lst (xs.eraseIdx k)))
theorem aaz:jA X "list.pop" aip:=by
 intro pins s σ H x vs v us Q I rx rv h;obtain⟨l,xs,i,k,y,rfl,rfl,hH,h1,h2,hk,hy,q⟩:=h;cases rx;obtain⟨u,rfl,ru⟩:=rv.one;obtain⟨t,rfl⟩:=ru;obtain⟨z,its,n,r,hl,e⟩:=I.lstM hH;obtain⟨w,hw,rw'⟩:=r.get hy;refine call_meets F.slot_list_pop ⟨_,e,rfl⟩ F.entry_list_pop (F.args_list_pop_2 _ _)
  (MeetsSeq.list_pop_at l its.toArray n i t k w (fitsIndex_both h1 h2) (by rw[Am,<-hl];exact hk) (by rw[<-A5];exact hw) (by rw[Am];omega)) ⟨e,?_⟩
 refine⟨y,_,I.lset (its':=its.eraseIdx k) hH e ?_ (r.eraseIdx k) ?_,rw',q⟩
 ·show its.toArray.eraseIdxIfInBounds k=(its.eraseIdx k).toArray;rw[C1]
 ·have:=mw xs k;omega
def an5:R2:=fun x y H Q=>∃l b xs zs,x=.ref l/\y=.ref b/\H l=some (.lst xs)/\H b=some (.lst zs)/\xs.length+zs.length≤sizeLine/\∀p,H p=none->Q (.ref p) (upd H p (.lst (xs++zs)))
theorem ah8:vm X (binaryOp .Add) an5:=by
 intro pins s σ H x y v u Q I rx ry h;obtain⟨l,b,xs,zs,rfl,rfl,hH,hB,hz,q⟩:=h;cases rx;cases ry;obtain⟨z,its,n,r,hl,e⟩:=I.lstM hH;obtain⟨z2,its2,n2,r2,hl2,e2⟩:=I.lstM hB;refine PySem.P.add_list e e2 ?_ (by rw[Am,Am];omega);have ea:its.toArray++its2.toArray=(its++its2).toArray:=by simp
 rw[ea];exact⟨.ref _,_,I.lnew (t':=s.toks) (r.append r2) (by rw[Ac];omega),rfl,q _ I.fresh⟩
end
section
variable {w:World} 
set_option maxRecDepth 100000 in
end
section
end
end L2
namespace Att
open PySem PySem.W PySem.Calls PyProof.Rows
theorem iP{P:Params} :∀(ns:List Int) (vs:List Value),WellAll P h vs (ns.map WData.int)->IntsAre vs ns:=by
 intro ns
 induction ns with
 |nil=>
  intro vs w;rw[CT] at w;cases w;exact .nil
 |cons n ns ih=>
  intro vs w;rw[AO] at w;cases w with
  |cons a b=>
   cases a;exact .cons _ _ (ih _ b)
theorem xA{l:OpenLaw}(hn:l.most=some n){P:Params}{args:List WData}{vals:List Value}
 (hpre:l.row.toRowW.claim.pre args=true) (hwl:WellAll P h vals args):
 ∃a vs ns,vals=[Value.ref a]/\args=[WData.list (ns.map WData.int)]/\h.get? a=some { cls:=.type "list",data:=.seq vs.toArray }/\IntsAre vs ns/\ns.length≤n:=by
 have hsh:WShape.hasAll [] args [.list .int]=true:=(pre_splitW hpre).1;have hc:l.pre.holds [] { args:=args }=true:=(pre_splitW hpre).2;obtain⟨d,r,rfl,h1,h2⟩:=hasAllW_cons hsh;obtain rfl:=hasAllW_nil h2;obtain⟨xs,rfl,h3⟩:=hasW_list h1;obtain⟨ns,rfl⟩:=items_int h3;have hlen:ns.length≤n:=by
  unfold OpenLaw.pre at hc;have h4:(WTm.not (.lt (.lit (.int (n:Int))) (.len (.arg 0)))).holds [] { args:=[.list (ns.map .int)] }=true:=by have h4:=(holds_andW hc).1;rw[hn] at h4;exact h4
  have h5:=condW_of h4 (w_not (w_lt w_lit (w_len_list (w_arg rfl))));rw[Ae] at h5;refine Nat.le_of_not_lt fun q=>?_;have q':(n:Int)<((ns.length:Nat):Int):=by omega
  first
   |(rw[AG q'] at h5;exact absurd h5 (by decide))
   |(simp at h5;omega)
 cases hwl with
 |cons w1 w2=>
  cases w2;cases w1 with|list ho hall=>exact⟨_,_,ns,rfl,rfl,ho,iP ns _ hall,hlen⟩
theorem wW(l:OpenLaw)(args:List WData):l.row.toRowW.claim.post args (.bool true) args=true:=
 postW_of (r:=l.row.toRowW) (X:=(true==true))
  (show WShape.has [] (.bool true) .bool=true by first | rfl | decide | simp[WShape.has,WShape.arms,WShape.armsAll])
  (show(WTm.eq .res (.lit (.bool true))).value [] { args:=args,res:=some (.bool true),after:=args }=some (.bool (true==true)) from w_eq_bool (w_res rfl) w_lit) rfl
theorem attach_callZ{l:OpenLaw}{q:Program}{loose:List Str}{XP:(Str->Option Value)->Heap->Prop}{as0:List Addr}{N t:Nat}{K:Params->Frag}{d:DefRec}
 (hn:l.most=some n) (hdf:d.params.defaults=[]) (ek:∀P,as0=(K P).map (·.1)) (htk:0<t)
 (call:∀(w:World) (s₀ s₁:Shared) (mg mb:Str->Option Value) (fa:Addr) (o:Obj) (pm cd doc:Value) (a:Addr) (vs:List Value) (ns:List Int),
  Ground q loose [] XP w s₀ mg mb s₁.heap->(K w.params).In s₁.heap->0<s₁.toks->
  s₁.heap.get? fa=some o->o.data=.func (docDef d.name d.params d.body d.scope pm cd doc)->s₁.heap.CodeRec cd d.name->mg d.name=some (.ref fa)->
  s₁.heap.get? a=some { cls:=.type "list",data:=.seq vs.toArray }->IntsAre vs ns->ns.length≤n->s₁.gens=#[]->
  codeAny (model l.prog w) callerA (.call (.ref fa) ⟨[.ref a],[]⟩) (fun r s'=>r=.ok (.ret (.bool true))/\OldK s₁.heap s'.heap/\s'.os=s₁.os/\AllBare s'.gens) s₁):
 WalkX q loose XP (PySem.W.X.obsZ as0) (PySem.W.X.valZ K N t) l.row.toRowW d [] (fun f vs=>PySem.call f vs):=by
 intro w s₀ s₁ mg mb G Y fa o pm cd doc dV kV ho hd hcd hD hmg hg args vals as L hpre hlay hrd hwl hlo;obtain rfl:dV=.none:=Dflts.none hD hdf;obtain rfl:kV=.none:=Dflts.noKw hD;obtain⟨a,vs,ns,rfl,rfl,hobj,hints,hlen⟩:=xA hn hpre hwl;obtain⟨_,zi,_,zt⟩:=X.z_facts ek Y;have eP:∀ns:List Int,ofPy (PyData.list (ns.map PyData.int))=WData.list (ns.map WData.int):=fun ns=>by
  simp only[ofPy];congr 1
  induction ns with|nil=>simp[ofPys]|cons n r ih=>simp only[AO,ofPys,ofPy,ih]
 rw[<-eP] at L;have KX:=InK.keeps w s₀.heap s₁.heap zi L.keeps;have tk1:0<s₁.toks:=AM htk (X.script_toks L zt);refine enter_call (codeAny_mono (call w s₀ s₁ mg mb fa o pm cd doc a vs ns G KX tk1 ho (fd_plain hd) hcd hmg hobj hints hlen hg) fun r s' hq=>?_);obtain⟨rfl,h2,h3,h4⟩:=hq;exact⟨.inl ⟨.bool true,.bool true,[],rfl,fun _=>rfl,.bool true,wW l _,fun _=>⟨List.Pairwise.nil,fun _ hm=>(nomatch hm)⟩⟩,h2,h3,h4⟩
section
variable {w:World}{K:Frag}
end
end Att
namespace L2
open PySem PySem.Spec PyProof.Rows
theorem mn:∀{vs:List Value} {ns:List Int},IntsAre vs ns->ze (ns.map V.int) vs
 |_,_,.nil=>.nil
 |_,_,.cons n t h=>.cons ⟨t,rfl⟩ (mn h)
def xq(s:Stmt):Arguments:=match s with
 |.FunctionDef _ a _ _ _ _ _ _ _ _=>a
 |_=>{ posonlyargs:=[],args:=[],vararg:=none,kwonlyargs:=[],kw_defaults:=[],kwarg:=none,defaults:=[] }
def jh(s:Stmt):List Stmt:=match s with
 |.FunctionDef _ _ b _ _ _ _ _ _ _=>b
 |_=>[]
def qx(s:Stmt):Scope:=match s with
 |.FunctionDef _ _ _ _ _ _ sc _ _ _=>sc
 |_=>{ kind:=.function,names:=[],isGenerator:=false,isCoroutine:=false }
abbrev CX0:vV:=fun _ _ _ _ _ _=>False
abbrev E0:XK:=fun _ _ _=>False
theorem ala :sW CX0 X E0:=fun _ _ _ _ _ _ _ h=>h.elim
structure Fun(K:Ah)(x qual:Str)(st:Stmt)(f:Addr)(fd:FuncData):Prop where
 ex:∃(oc:Value) (od:Option Addr) (kV doc pm:Value) (an:Option Addr) (cdv ct:Value) (osl:Array (Option Value)),
  fd=PySem.W.fnOf x qual (xq st) (jh st) (qx st) .none kV doc pm an cdv ct/\K.lookup f=some ⟨oc,od,.func fd,osl⟩/\PySem.W.codeIn K cdv qual=true
 kp:PySem.W.keepIn K (.ref f)=true
section
variable {P:Program}{w:World}{K:Ah} 
theorem Fun.ok{N:List Str}{k:Nat}(F:Fun K x qual st f fd)(S:aI N ps (qx st))(len:∀vs H Q E,sp vs H Q E->vs.length=ps.length)
 (hbody:∀(cdv:Value) (A:Around) (outer:List Env) (s:Shared) (H:Hp) (vs:List V) (Q:VK) (E:XK),wy k (A.deeper (envOfC qual (qx st) s.heap.objs.size f cdv))->sp vs H Q E->
  ∃t,mD (iL CX0 P w K mg base N qual (qx st) f cdv A outer s H E).nox (jh st) t/\t { nx:=fun _ H'=>Q .non H',rt:=Q } (start N vs) H):az P w K mg base CX0 (k+1) f fd ps sp:=by
 obtain⟨oc,od,kV,doc,pm,an,cdv,ct,osl,rfl,lk,hcd⟩:=F.ex;refine afa lk hcd S len fun A outer s H vs Q E hr hsp=>?_;obtain⟨t,h,q⟩:=hbody cdv A outer s H vs Q E hr hsp;exact⟨t,h.nox,q⟩
theorem ag5{kV ct:Value}(l:K.lookup f=some ⟨oc,od,.func (PySem.W.fnOf x qual (xq st) (jh st) (qx st) .none kV doc pm an cdv ct),osl⟩)
 (c:PySem.W.codeIn K cdv qual=true) (k:PySem.W.keepIn K (.ref f)=true):Fun K x qual st f (PySem.W.fnOf x qual (xq st) (jh st) (qx st) .none kV doc pm an cdv ct):=⟨⟨oc,od,kV,doc,pm,an,cdv,ct,osl,rfl,l,c⟩,k⟩
end
theorem m9(h:n≤1000):n<sizeLine:=BV h (by decide)
section
theorem pv(i:Nat)(hN:X.N[i]?=some x:=by rfl)(hv:Vis X.env.scope x:=by first | exact Or.inl rfl | exact Or.inr (Or.inl rfl) | exact Or.inr (Or.inr rfl))(hd:Ed x:=by decide)
 (hcd:Ee x:=by decide):PE X (.Name x pos) (ai1 i):=aht hN hv hd hcd
end
section
variable [DecidableEq κ]
end
end L2
set_option maxHeartbeats 8000000
theorem wG{a b c:Nat}(h:a<b:=by assumption)(k:b≤c:=by assumption):a<c:=AM h k
theorem gC{a b c:Nat}(h:a≤b:=by assumption)(k:b<c:=by assumption):a<c:=BV h k
theorem aiz{a b c:Nat}(h:a≤b:=by assumption)(k:b≤c:=by assumption):a≤c:=AU h k
theorem lF{a b c:Nat}(h:a<b:=by assumption)(k:b<c:=by assumption):a<c:=Nat.lt_trans h k
theorem vQ{a b c:Nat}(h:a≤b:=by assumption)(k:b≤c:=by decide):a≤c:=AU h k
theorem ai0{a b:Nat}(h:a≤b:=by assumption):a<b+1:=Nat.lt_succ_of_le h
theorem anc{a b:Nat}(h:a≤b:=by assumption):a≤b+1:=B6 h
theorem fF{a b:Nat}(h:a<b:=by assumption):a≤b:=Bz h
theorem ald{a b:Nat}(h:a<b:=by assumption):a≠b:=A9 h
theorem agh{a b:Nat}(h:b<a:=by assumption):a≠b:=CS h
theorem aba{a:Nat}(h:a≠0:=by assumption):0<a:=Nat.pos_of_ne_zero h
theorem aiq{a b c:Nat}(h:a<b:=by assumption)(k:b≤c:=by assumption):a≤c:=AU (Bz h) k
theorem ako{a b c:Nat}(h:a<b:=by assumption):a<b+c:=AM h (A4 _ _)
theorem pO{a b:Nat}(h:a=b:=by assumption):a≤b:=Nat.le_of_eq h
theorem zL{a b:Nat}(h:¬a<b:=by assumption):b≤a:=Nat.le_of_not_lt h
theorem akk{a b:Nat}(h:¬b≤a:=by assumption):a<b:=Nat.lt_of_not_le h
theorem ajr{a b:Nat}(h:a<b+1:=by assumption):a≤b:=Nat.le_of_lt_succ h
theorem ap3{a b c:Nat}(h:a≤b:=by assumption)(k:c≤d:=by assumption):a+c≤b+d:=Nat.add_le_add h k
theorem og{a b:Nat}(h:0<a:=by assumption)(k:0<b:=by decide):a - b<a:=Nat.sub_lt h k
theorem al3{a b c:Nat}(h:a≤c:=by assumption):a - b≤c:=AU (DV _ _) h
theorem lv{a b c:Nat}(h:a<c:=by assumption):a - b<c:=BV (DV _ _) h
theorem wU{a b:Nat}(h:a≤b:=by assumption)(k:a≠b:=by assumption):a<b:=Nat.lt_of_le_of_ne h k
namespace L2
open PySem PySem.Spec PyProof.Rows
section
def anw:R2:=fun x y H Q=>match x,y with
 |.int i,.int j=>Q (.int (i+j)) H
 |.str a,.str b=>a.length+b.length≤sizeLine/\Q (.str (a++b)) H
 |.ref l,.ref b=>∃xs zs,H l=some (.lst xs)/\H b=some (.lst zs)/\xs.length+zs.length≤sizeLine/\∀p,H p=none->Q (.ref p) (upd H p (.lst (xs++zs)))
 |_,_=>False
theorem aek:vm X (binaryOp .Add) anw:=by
 intro pins s σ H x y v u Q I rx ry h;cases x<;>cases y<;>first
  |exact False.elim h
  |exact ahl pins s σ H _ _ v u Q I rx ry ⟨_,_,rfl,rfl,h⟩
  |exact s9 pins s σ H _ _ v u Q I rx ry ⟨_,_,rfl,rfl,h.1,h.2⟩
  |(obtain⟨xs,zs,h1,h2,h3,h4⟩:=h;exact ah8 pins s σ H _ _ v u Q I rx ry ⟨_,_,xs,zs,rfl,rfl,h1,h2,h3,h4⟩)
def KD(K:Ah)(P:Program)(w:World)(a:Addr)(kvs:List (zq×V)):Prop:=
 (a==sysModules)=false/\kvs.length≤sizeLine/\∀h:Heap,K.In h->∃vs,KV kvs vs/\h.DictOf (x8 P w) a vs
def uIx(K:Ah)(P:Program)(w:World):R2:=fun x y H Q=>match x,y with
 |.str z,.int i=>z.length≤sizeLine/\∃c,fv z.cps.toList i=some c/\Q (.str ⟨#[c]⟩) H
 |.ref p,.int i=>∃xs v,(w4 K H p xs\/cJ K H p xs)/\fv xs i=some v/\Q v H
 |.ref p,.str k=>∃kvs v,(Rd H p (.dK kvs)\/KD K P w p kvs)/\aJ kvs (Sum.inr k)=some v/\Q v H
 |_,_=>False
theorem yj{slice:Expr}{a:Addr}{vs:List (zq×Value)}{k:zq}{w':Value}{Q:VK}(I:z0 X pins σ H s)(dd:s.heap.DictOf (x8 X.prog X.w) a vs)(hk:kE k u=true)
 (hw:valueAt vs k=some w') (r:zf v w') (q:Q v H) (hs:subscripted slice false (.ref a) u=operate [.ref a,u] (getItem (.ref a) u)):wpAny (model X.prog X.w) X.A (subscriptTail value slice (.ref a) u) (EP X pins σ Q) X.xe s:=
 tail_any dd.typeIs Dr.lookup (wpAny_getItem_of hk dd.mapOf hw ⟨v,H,I.tok _,r,q⟩) hs
theorem alk:IxR X (uIx X.K X.prog X.w):=by
 intro value slice pins s σ H x y v u Q I rx ry q hs;cases x with
 |str z=>
  cases y with
  |int i=>
   obtain⟨h1,c,h2,h3⟩:=q;exact aia value slice pins s σ H _ _ v u Q I rx ry ⟨z,i,c,rfl,rfl,h1,h2,h3⟩ hs
  |_=>exact q.elim
 |ref p=>
  cases y with
  |int i=>
   obtain⟨xs,w',h1,h2,h3⟩:=q;rcases h1 with h1 | h1
   ·exact aco value slice pins s σ H _ _ v u Q I rx ry ⟨p,xs,i,w',rfl,rfl,h1,h2,h3⟩ hs
   ·exact aiu value slice pins s σ H _ _ v u Q I rx ry ⟨p,xs,i,w',rfl,rfl,h1,h2,h3⟩ hs
  |str k=>
   obtain⟨kvs,w',h1,h2,h3⟩:=q;have ry':zf (kV (Sum.inr k)) u:=ry;cases (show v=Value.ref p from rx);rcases h1 with h1 | h1
   ·obtain⟨z,hd,vs,rel,dd⟩:=jJ I.hok h1;obtain⟨w2,hw,rw'⟩:=EM (v:=w') (o:=valueAt vs (Sum.inr k)) (by rw[<-h2];exact rel.val _);exact yj I dd (hE (P:=X.prog) (w:=X.w) ry') hw rw' h3 hs
   ·obtain⟨hd,z,dd⟩:=h1;obtain⟨vs,rel,dd⟩:=dd s.heap I.kIn;obtain⟨w2,hw,rw'⟩:=EM (v:=w') (o:=valueAt vs (Sum.inr k)) (by rw[<-h2];exact rel.val _);exact yj I dd (hE (P:=X.prog) (w:=X.w) ry') hw rw' h3 hs
  |_=>exact q.elim
 |_=>cases y<;>exact q.elim
def ap2(K:Ah):List V->Hp->VK->Prop:=fun xs H Q=>match xs with
 |[.str z]=>z.length≤sizeLine/\Q (.int z.length) H
 |[.ref p]=>∃ys,(w4 K H p ys\/cJ K H p ys)/\Q (.int ys.length) H
 |_=>False
theorem vG:ji X (.builtin "len") (ap2 X.K):=by
 intro pins s σ H xs us Q I r h
 match xs,h with
 |[.str z],h=>exact oN pins s σ H _ us Q I r ⟨z,rfl,h.1,h.2⟩
 |[.ref p],h=>
  obtain⟨ys,h1,h2⟩:=h;exact oj pins s σ H _ us Q I r ⟨p,ys,rfl,h1,h2⟩
inductive Da where
 |s (v:V)
 |tup (xs:List Da)
 |lst (xs:List Da)
mutual
def Da.eq:Da->Da->Bool
 |.s v,.s w=>fi v w
 |.tup xs,.tup ys=>Da.eqs xs ys
 |.lst xs,.lst ys=>Da.eqs xs ys
 |_,_=>false
def Da.eqs:List Da->List Da->Bool
 |[],[]=>true
 |x::xs,y::ys=>Da.eq x y&&Da.eqs xs ys
 |_,_=>false
end
def vd(K:Ah)(H:Hp):Nat->V->Da->Prop
 |0,v,d=>d=.s v/\aE v=true
 |n+1,v,d=>(d=.s v/\aE v=true)\/(∃a xs ds,v=.ref a/\d=.tup ds/\cJ K H a xs/\Paired (vd K H n) xs ds)\/(∃a xs ds,v=.ref a/\d=.lst ds/\w4 K H a xs/\Paired (vd K H n) xs ds)
theorem Da.eqs_range:∀(ds es:List Da),((List.range (min ds.length es.length)).all (fun j=>Da.eq (ds.getD j (.s .non)) (es.getD j (.s .non)))&&ds.length==es.length)=Da.eqs ds es
 |[],[]=>by simp[Da.eqs]
 |[],e::es=>by simp[Da.eqs]
 |d::ds,[]=>by simp[Da.eqs]
 |d::ds,e::es=>by
  have ih:=Da.eqs_range ds es;rw[Da.eqs,<-ih];have:min (d::ds).length (e::es).length=min ds.length es.length+1:=by simp only[AJ];lia
  rw[this,List.range_succ_eq_map,Dz,List.all_map];have h2:((d::ds).length==(e::es).length)=(ds.length==es.length):=by simp
  rw[h2,Bool.and_assoc];rfl
abbrev EF:=@Da.eqs_range
theorem Paired.at{α β:Type}{F:α->β->Prop}:∀{xs:List α} {ys:List β} {j:Nat} {x:α} {y:β},Paired F xs ys->xs[j]?=some x->ys[j]?=some y->F x y
 |_,_,_,_,_,.nil,h,_=>by simp at h
 |_,_,0,_,_,.cons r _,h1,h2=>by simp at h1 h2;subst h1 h2;exact r
 |_,_,j+1,_,_,.cons _ t,h1,h2=>Paired.at (j:=j) t (by simpa using h1) (by simpa using h2)
abbrev EH:=@Paired.at
theorem fW:∀{v:V},aE v=true->fi v v=true
 |.non,_=>rfl
 |.bl _,_=>by simp[fi]
 |.int _,_=>by simp[fi]
 |.str _,_=>by simp[fi]
section
theorem zo{a:Addr}(h:aE (.ref a)=true):False:=by simp[aE] at h
theorem z0.notBoth(I:z0 X pins σ H s){a:Addr}{ys:List V}(h:cJ X.K H a xs)(h':w4 X.K H a ys):False:=by
 obtain⟨its,_,⟨o,e,c,_⟩,_⟩:=I.tuple h;obtain⟨its',_,⟨o',n',e',c',_⟩,_⟩:=I.list h';rw[e] at e';cases e';rw[c] at c';injection c' with c'
 exact absurd c' (by decide)
theorem o6(I:z0 X pins σ H s):∀(n:Nat) {m:Nat} {x:V} {d e:Da},vd X.K H n x d->vd X.K H m x e->Da.eq d e=true
 |0,m,x,d,e,h1,h2=>by
  obtain⟨rfl,f⟩:=h1;cases m with
  |zero=>obtain⟨rfl,_⟩:=h2;exact fW f
  |succ m=>
   rcases h2 with⟨rfl,_⟩ | ⟨a,xs,ds,rfl,_⟩ | ⟨a,xs,ds,rfl,_⟩
   ·exact fW f
   ·exact(zo f).elim
   ·exact(zo f).elim
 |n+1,m,x,d,e,h1,h2=>by
  have both:∀{xs:List V} {ds es:List Da} {m:Nat},Paired (vd X.K H n) xs ds->Paired (vd X.K H m) xs es->Da.eqs ds es=true:=by
   intro xs ds es m p
   induction p generalizing es with
   |nil=>intro q;cases q;rfl
   |cons r t ih=>
    intro q;cases q with|cons r' t'=>rw[Da.eqs,o6 I n r r',ih t'];rfl
  rcases h1 with⟨rfl,f⟩ | ⟨a,xs,ds,rfl,rfl,hs,hp⟩ | ⟨a,xs,ds,rfl,rfl,hs,hp⟩
  ·cases m with
   |zero=>obtain⟨rfl,_⟩:=h2;exact fW f
   |succ m=>
    rcases h2 with⟨rfl,_⟩ | ⟨a,xs,ds,rfl,_⟩ | ⟨a,xs,ds,rfl,_⟩
    ·exact fW f
    ·exact(zo f).elim
    ·exact(zo f).elim
  ·cases m with
   |zero=>exact(zo h2.2).elim
   |succ m=>
    rcases h2 with⟨_,f⟩ | ⟨a',ys,es,e1,rfl,hs',hp'⟩ | ⟨a',ys,es,e1,rfl,hs',hp'⟩
    ·exact(zo f).elim
    ·cases e1;cases I.tuple_inj hs hs';exact both hp hp'
    ·cases e1;exact(I.notBoth hs hs').elim
  ·cases m with
   |zero=>exact(zo h2.2).elim
   |succ m=>
    rcases h2 with⟨_,f⟩ | ⟨a',ys,es,e1,rfl,hs',hp'⟩ | ⟨a',ys,es,e1,rfl,hs',hp'⟩
    ·exact(zo f).elim
    ·cases e1;exact(I.notBoth hs' hs).elim
    ·cases e1;cases I.list_inj hs hs';exact both hp hp'
theorem zg{a:Addr}{its:Array Value}(p:PlainL h a its):h.IsList a its:=let ⟨o,n,e,c,_,d⟩:=p;⟨o,e,c,n,d⟩
theorem fP{ys:List V}{ds es:List Da}(px:Paired (vd X.K H n) xs ds)(py:Paired (vd X.K H m) ys es)(vx:ze xs us)(vy:ze ys vs)
 (ih:∀{x y:V} {d e:Da} {u v:Value},vd X.K H n x d->vd X.K H m y e->zf x u->zf y v->SeqAt.EqAt A.in1 s u v (Da.eq d e)):
 ∀j (h1:j<us.toArray.size) (h2:j<vs.toArray.size),SeqAt.EqAt A.in1 s us.toArray[j] vs.toArray[j] (Da.eq (ds.getD j (.s .non)) (es.getD j (.s .non))):=by
 intro j h1 h2;have l1:=px.length;have l2:=py.length;have l3:=vx.length;have l4:=vy.length;rw[Am] at h1 h2;have q1:xs[j]?=some xs[j]:=Aj (by lia);have q2:ys[j]?=some ys[j]:=Aj (by lia);have q3:ds[j]?=some ds[j]:=Aj (by lia);have q4:es[j]?=some es[j]:=Aj (by lia);have q5:us[j]?=some us[j]:=Aj (by lia);have q6:vs[j]?=some vs[j]:=Aj (by lia);rw[Bi,Bi,q3,q4];exact ih (EH px q1 q3) (EH py q2 q4) (EH vx q1 q5) (EH vy q2 q6)
theorem mW{a b:Addr}{ys:List V}{ds es:List Da}(I:z0 X pins σ H s)(hu:A.units<cLine)(sx:cJ X.K H a xs)(sy:cJ X.K H b ys)(px:Paired (vd X.K H n) xs ds)(py:Paired (vd X.K H m) ys es)
 (ih:∀{x y:V} {d e:Da} {u v:Value},vd X.K H n x d->vd X.K H m y e->zf x u->zf y v->SeqAt.EqAt A.in1 s u v (Da.eq d e)):SeqAt.RcAt A s (.ref a) (.ref b) (Da.eqs ds es):=by
 obtain⟨us,vx,tx,_⟩:=I.tuple sx;obtain⟨vs,vy,ty,_⟩:=I.tuple sy;have q:=SeqAt.RcAt.tuples tx ty hu (fP px py vx vy ih);rw[Am,Am,<-vx.length,<-vy.length,px.length,py.length,EF] at q;exact q
theorem rA{a b:Addr}{ys:List V}{ds es:List Da}(I:z0 X pins σ H s)(hu:A.units<cLine)(sx:w4 X.K H a xs)(sy:w4 X.K H b ys)(px:Paired (vd X.K H n) xs ds)(py:Paired (vd X.K H m) ys es)
 (ih:∀{x y:V} {d e:Da} {u v:Value},vd X.K H n x d->vd X.K H m y e->zf x u->zf y v->SeqAt.EqAt A.in1 s u v (Da.eq d e)):SeqAt.RcAt A s (.ref a) (.ref b) (Da.eqs ds es):=by
 obtain⟨us,vx,tx,_⟩:=I.list sx;obtain⟨vs,vy,ty,_⟩:=I.list sy;by_cases hz:us.toArray.size=vs.toArray.size
 ·have q:=SeqAt.RcAt.lists (zg tx) (zg ty) hz hu (fP px py vx vy ih);have hz':ds.length=es.length:=by rw[<-px.length,<-py.length,vx.length,vy.length];simpa using hz
  have e:=EF ds es;rw[hz',Nat.min_self] at e;rw[<-hz'] at e;rw[Am,<-vx.length,px.length] at q;simp only[beq_self_eq_true,Bool.and_true] at e;rw[e] at q;exact q
 ·have q:=SeqAt.RcAt.lists_lengths (zg tx) (zg ty) (by simpa using hz) hu;have hz':ds.length≠es.length:=by rw[<-px.length,<-py.length,vx.length,vy.length];intro z;exact hz (by simpa using z)
  have e:=EF ds es;have f:(ds.length==es.length)=false:=by simpa using hz'
  rw[f,CU] at e;rw[<-e];exact q
theorem lQ(I:z0 X pins σ H s):∀(n:Nat) {m:Nat} {A:Around} {x y:V} {d e:Da} {u v:Value},A.units+n<cLine->vd X.K H n x d->vd X.K H m y e->zf x u->zf y v->SeqAt.EqAt A s u v (Da.eq d e):=by
 have flatRef:∀{A:Around} {x:V} {u:Value} {b:Addr} {ys:List V},A.units<cLine->aE x=true->zf x u->(cJ X.K H b ys\/w4 X.K H b ys)->SeqAt.EqAt A s u (.ref b) false/\SeqAt.EqAt A s (.ref b) u false:=by
  intro A x u b ys hu f r h;have h':(∃its,s.heap.IsTuple b its)\/∃its,s.heap.IsList b its:=by
   rcases h with h | h
   ·obtain⟨its,_,t,_⟩:=I.tuple h;exact .inl ⟨_,t⟩
   ·obtain⟨its,_,t,_⟩:=I.list h;exact .inr ⟨_,zg t⟩
  cases x with
  |non=>cases r;rcases h' with⟨_,t⟩ | ⟨_,t⟩;exact⟨.none_tuple t hu,.tuple_none t hu⟩;exact⟨.none_list t hu,.list_none t hu⟩
  |bl k=>cases r;rcases h' with⟨_,t⟩ | ⟨_,t⟩;exact⟨.bool_tuple k t hu,.tuple_bool k t hu⟩;exact⟨.bool_list k t hu,.list_bool k t hu⟩
  |int k=>obtain⟨tk,rfl⟩:=r;rcases h' with⟨_,t⟩ | ⟨_,t⟩;exact⟨.int_tuple k tk t hu,.tuple_int k tk t hu⟩;exact⟨.int_list k tk t hu,.list_int k tk t hu⟩
  |str k=>obtain⟨tk,rfl⟩:=r;rcases h' with⟨_,t⟩ | ⟨_,t⟩;exact⟨.str_tuple k tk t hu,.tuple_str k tk t hu⟩;exact⟨.str_list k tk t hu,.list_str k tk t hu⟩
  |_=>simp[aE] at f
 intro n
 induction n with
 |zero=>
  intro m A x y d e u v hu h1 h2 rx ry;obtain⟨rfl,f⟩:=h1;cases m with
  |zero=>obtain⟨rfl,f'⟩:=h2;exact iu rx ry f f'
  |succ m=>
   rcases h2 with⟨rfl,f'⟩ | ⟨b,ys,es,rfl,rfl,sy,py⟩ | ⟨b,ys,es,rfl,rfl,sy,py⟩
   ·exact iu rx ry f f'
   ·cases ry;exact(flatRef (by lia) f rx (.inl sy)).1
   ·cases ry;exact(flatRef (by lia) f rx (.inr sy)).1
 |succ n ih=>
  intro m A x y d e u v hu h1 h2 rx ry;have hin:A.in1.units+n<cLine:=by show A.units+1+n<cLine;lia
  rcases h1 with⟨rfl,f⟩ | ⟨a,xs,ds,rfl,rfl,sx,px⟩ | ⟨a,xs,ds,rfl,rfl,sx,px⟩
  ·cases m with
   |zero=>obtain⟨rfl,f'⟩:=h2;exact iu rx ry f f'
   |succ m=>
    rcases h2 with⟨rfl,f'⟩ | ⟨b,ys,es,rfl,rfl,sy,py⟩ | ⟨b,ys,es,rfl,rfl,sy,py⟩
    ·exact iu rx ry f f'
    ·cases ry;exact(flatRef (by lia) f rx (.inl sy)).1
    ·cases ry;exact(flatRef (by lia) f rx (.inr sy)).1
  ·cases rx;cases m with
   |zero=>obtain⟨rfl,f'⟩:=h2;exact(flatRef (by lia) f' ry (.inl sx)).2
   |succ m=>
    rcases h2 with⟨rfl,f'⟩ | ⟨b,ys,es,rfl,rfl,sy,py⟩ | ⟨b,ys,es,rfl,rfl,sy,py⟩
    ·exact(flatRef (by lia) f' ry (.inl sx)).2
    ·cases ry;by_cases hab:a=b
     ·subst hab;cases I.tuple_inj sx sy;have e:Da.eq (.tup ds) (.tup es)=true:=o6 I (n+1) (m:=m+1) (x:=.ref a) (.inr (.inl ⟨a,xs,ds,rfl,rfl,sx,px⟩)) (.inr (.inl ⟨a,xs,es,rfl,rfl,sy,py⟩));rw[e];exact .same _
     ·exact .of_refs hab (mW I (by lia) sx sy px py fun h1 h2 r1 r2=>ih hin h1 h2 r1 r2)
    ·cases ry;obtain⟨us,vx,tx,_⟩:=I.tuple sx;obtain⟨vs,vy,ty,_⟩:=I.list sy;exact .tuple_list tx (zg ty) (by lia)
  ·cases rx;cases m with
   |zero=>obtain⟨rfl,f'⟩:=h2;exact(flatRef (by lia) f' ry (.inr sx)).2
   |succ m=>
    rcases h2 with⟨rfl,f'⟩ | ⟨b,ys,es,rfl,rfl,sy,py⟩ | ⟨b,ys,es,rfl,rfl,sy,py⟩
    ·exact(flatRef (by lia) f' ry (.inr sx)).2
    ·cases ry;obtain⟨us,vx,tx,_⟩:=I.list sx;obtain⟨vs,vy,ty,_⟩:=I.tuple sy;exact .list_tuple (zg tx) ty (by lia)
    ·cases ry;by_cases hab:a=b
     ·subst hab;cases I.list_inj sx sy;have e:Da.eq (.lst ds) (.lst es)=true:=o6 I (n+1) (m:=m+1) (x:=.ref a) (.inr (.inr ⟨a,xs,ds,rfl,rfl,sx,px⟩)) (.inr (.inr ⟨a,xs,es,rfl,rfl,sy,py⟩));rw[e];exact .same _
     ·exact .of_refs hab (rA I (by lia) sx sy px py fun h1 h2 r1 r2=>ih hin h1 h2 r1 r2)
end
def uEq(K:Ah)(k:Nat):R2:=fun x y H Q=>match x,y with
 |.ref a,.ref b=>∃n m d e,n≤k/\vd K H n (.ref a) d/\vd K H m (.ref b) e/\Q (.bl (Da.eq d e)) H
 |x,y=>aey x y=true/\Q (.bl (decide (x=y))) H
theorem ahh{k:Nat}(hu:X.A.units+k<cLine):vm X (compareOp .Eq) (uEq X.K k):=by
 intro pins s σ H x y v u Q I rx ry h;cases x with
 |ref a=>
  cases y with
  |ref b=>
   obtain⟨n,m,d,e,hn,h1,h2,q⟩:=h;cases rx;cases ry;have js:∀{k:Bool},k=Da.eq d e->SeqAt.RcAt X.A s (.ref a) (.ref b) k->wpAny (model X.prog X.w) X.A (compareOp .Eq (.ref a) (.ref b)) (EP X pins σ Q) X.xe s:=fun {k} e' r=>
    r X.prog X.w X.xe (EP X pins σ Q) (by rw[e'];exact⟨.bl _,H,I,rfl,q⟩)
   cases n with
   |zero=>exact(zo h1.2).elim
   |succ n=>
    cases m with
    |zero=>exact(zo h2.2).elim
    |succ m=>
     have hin:X.A.in1.units+n<cLine:=by show X.A.units+1+n<cLine;lia
     rcases h1 with⟨_,f⟩ | ⟨a',xs,ds,e1,rfl,sx,px⟩ | ⟨a',xs,ds,e1,rfl,sx,px⟩
     ·exact(zo f).elim
     ·cases e1;rcases h2 with⟨_,f⟩ | ⟨b',ys,es,e2,rfl,sy,py⟩ | ⟨b',ys,es,e2,rfl,sy,py⟩
      ·exact(zo f).elim
      ·cases e2;exact js rfl (mW I (by lia) sx sy px py fun h1 h2 r1 r2=>lQ I n hin h1 h2 r1 r2)
      ·cases e2;obtain⟨us,vx,tx,_⟩:=I.tuple sx;obtain⟨vs,vy,ty,_⟩:=I.list sy;exact js rfl (.tuple_list tx (zg ty) (by lia))
     ·cases e1;rcases h2 with⟨_,f⟩ | ⟨b',ys,es,e2,rfl,sy,py⟩ | ⟨b',ys,es,e2,rfl,sy,py⟩
      ·exact(zo f).elim
      ·cases e2;obtain⟨us,vx,tx,_⟩:=I.list sx;obtain⟨vs,vy,ty,_⟩:=I.tuple sy;exact js rfl (.list_tuple (zg tx) ty (by lia))
      ·cases e2;exact js rfl (rA I (by lia) sx sy px py fun h1 h2 r1 r2=>lQ I n hin h1 h2 r1 r2)
  |_=>exact afn pins s σ H _ _ v u Q I rx ry h
 |_=>cases y<;>exact afn pins s σ H _ _ v u Q I rx ry h
end
theorem alg{c:Addr}(hg:Gl X x)(hm:X.mg x=some (.ref c))(hd:Ed x:=by decide):PE X (.Name x pos) (tC (.ref c)):=u7 hg hm (v:=.ref c) rfl hd
theorem alc{T:String}(hg:Gl X x)(hm:X.mg x=none)(hv:bootBuiltins x=some (.type T))(hn:x ≠ "__name__" := by decide)(hd:Ed x:=by decide):PE X (.Name x pos) (tC (.ty T)):=ae9 hg hm hv (v:=.ty T) rfl hn hd
structure yO(P:Program)(w:World)(K:Ah)(mg:Str->Option Value)(base:Heap)(k:Nat)(x:Str)(ps:List Str)(sp:Sp):Prop where
 ex:∃f fd,az P w K mg base CX0 k f fd ps sp/\eV K fd ps []/\PySem.W.keepIn K (.ref f)=true/\mg x=some (.ref f)
theorem ann{k:Nat}{t:TA}(c:yO X.prog X.w X.K X.mg X.base k x ps sp)(hr:wy k X.A)(hg:Gl X x)(ha:PA X (e::es) t)(hdb:Ed x:=by decide)
 (he:Eb e es X:=by rfl) (hpl:Ec pos es X:=by rfl):PE X (.Call (.Name x p) (e::es) [] pos) (afc sp [] E0 t):=by
 obtain⟨f,fd,F,b,kp,m⟩:=c.ex;exact ae7 F hr hg m kp b .nil ala ha hdb he hpl
theorem yO.mono{P:Program}{w:World}{K:Ah}{k:Nat}(c:yO P w K mg base j x ps sp)(h:j≤k):yO P w K mg base k x ps sp:=by obtain⟨f,fd,F,b,kp,m⟩:=c.ex;exact⟨f,fd,F.mono h,b,kp,m⟩
end L2
variable {ds:List L2.Da}
namespace L2
open PySem PySem.Spec PyProof.Rows
def lG(env:Env):List (Str×NameKind)->List (Str×Addr)->List (Str×Addr)
 |[],cs=>cs
 |(n,k)::r,cs=>lG env r (if k==.free then(n,(env.cells.lookup n).getD 0)::cs else cs)
def dY(scope:Scope)(env:Env):List (Str×Addr):=lG env scope.names []
theorem qP{env:Env}:∀{names:List (Str×NameKind)} {cs:List (Str×Addr)} {p:Str×Addr},p∈lG env names cs->p∈cs\/((p.1,NameKind.free)∈names/\p.2=(env.cells.lookup p.1).getD 0)
 |[],_,_,h=>.inl h
 |(n,k)::r,cs,p,h=>by
  rcases qP (names:=r) h with q | ⟨q,e⟩
  ·by_cases hk:(k==NameKind.free)=true
   ·rw[AA hk] at q;rcases Au.mp q with rfl | q
    ·have:k=.free:=by simpa using hk
     exact .inr ⟨by rw[this];exact An,rfl⟩
    ·exact .inl q
   ·rw[Ay hk] at q;exact .inl q
  ·exact .inr ⟨Ag _ q,e⟩
theorem pP{env:Env}{x:Str}:∀{names:List (Str×NameKind)} {cs:List (Str×Addr)},((∃c,(x,c)∈cs)\/(x,NameKind.free)∈names)->∃c,(x,c)∈lG env names cs
 |[],_,.inl h=>h
 |[],_,.inr h=>by simp at h
 |(n,k)::r,cs,h=>by
  refine pP (names:=r) ?_;rcases h with⟨c,h⟩ | h
  ·left;by_cases hk:(k==NameKind.free)=true
   ·rw[AA hk];exact⟨c,Ag _ h⟩
   ·rw[Ay hk];exact⟨c,h⟩
  ·rcases Au.mp h with e | h
   ·left;injection e with e1 e2
    subst e1;subst e2;exact⟨_,An⟩
   ·exact .inr h
theorem eE{x:Str}:∀{l:List (Str×Addr)} {c:Addr},(x,c)∈l->∃c',l.lookup x=some c'
 |(n,d)::r,c,h=>by
  rw[Bs];cases hx:x==n with
  |true=>exact⟨d,rfl⟩
  |false=>
   rcases Au.mp h with e | h
   ·injection e with e1 _;subst e1;simp at hx
   ·exact eE h
theorem iK(h:∀n,(n,NameKind.free)∈scope.names->∃c,env.cells.lookup n=some c):closureFor scope env=pure (dY scope env):=by
 unfold closureFor dY;have key:∀(names:List (Str×NameKind)) (cs:List (Str×Addr)),(∀n,(n,NameKind.free)∈names->∃c,env.cells.lookup n=some c)->
  (forIn names cs fun x (r:List (Str×Addr))=>(match x with | (name,kind)=>if kind==NameKind.free then do let a <-cellOf env name;pure (ForInStep.yield ((name,a)::r)) else pure (ForInStep.yield r):Sem (ForInStep (List (Str×Addr)))))=pure (lG env names cs):=by
  intro names
  induction names with
  |nil=>intro cs _;rfl
  |cons p r ih=>
   intro cs hf;obtain⟨n,k⟩:=p;rw[CH];cases hk:k==NameKind.free with
   |true=>
    have hk':k=.free:=by simpa using hk
    subst hk';obtain⟨c,hc⟩:=hf n An;have e:cellOf env n=pure c:=by unfold cellOf;rw[hc]
    simp only[beq_self_eq_true,if_true,e];have e2:lG env ((n,NameKind.free)::r) cs=lG env r ((n,c)::cs):=by show lG env r _=_;rw[hc];rfl
    rw[e2];exact ih ((n,c)::cs) fun m hm=>hf m (Ag _ hm)
   |false=>
    simp only[hk,BW,if_false];have e2:lG env ((n,k)::r) cs=lG env r cs:=by show lG env r (if (k==NameKind.free)=true then _ else _)=_;rw[hk];rfl
    rw[e2];exact ih cs fun m hm=>hf m (Ag _ hm)
 exact(BM (· >>= pure) (key scope.names [] h))
theorem ku{env:Env}{x:Str}:∀{names:List (Str×NameKind)},
 (names.map fun(n,k)=>if (k==NameKind.free&&env.scope.kind==.function&&env.kindOf n==some .cell) then(n,NameKind.cell) else(n,k)).lookup x
  = (names.lookup x).map fun k=>if (k==NameKind.free&&env.scope.kind==.function&&env.kindOf x==some .cell) then NameKind.cell else k
 |[]=>rfl
 |(n,k)::r=>by
  have ih:=@ku env x r;show List.lookup x ((if (k==NameKind.free&&env.scope.kind==.function&&env.kindOf n==some .cell)=true then(n,NameKind.cell) else(n,k))::_)=_;cases hx:x==n with
  |true=>
   have hx':x=n:=by simpa using hx
   subst hx';by_cases hc:(k==NameKind.free&&env.scope.kind==.function&&env.kindOf x==some .cell)=true
   ·rw[AA hc];simp only[Bs,beq_self_eq_true,Option.map_some];rw[AA hc]
   ·rw[Ay hc];simp only[Bs,beq_self_eq_true,Option.map_some];rw[Ay hc]
  |false=>
   by_cases hc:(k==NameKind.free&&env.scope.kind==.function&&env.kindOf n==some .cell)=true
   ·rw[AA hc];simp only[Bs,hx];exact ih
   ·rw[Ay hc];simp only[Bs,hx];exact ih
def Cx.comp(X:Cx)(scope:Scope)(T:List Str)(C:Addr)(fp:List Addr)(s₀:Shared)(H₀:Hp):Cx:=
 { X with N:=X.N++T,s₀:=s₀,H₀:=H₀,env:=compEnvC scope (dY scope X.env) C X.env,outer:=X.stack,ex:=fp,fn:=fun _=>false,xe:=fun _ _=>False }
structure j6(X:Cx)(scope:Scope):Prop where
 kind:scope.kind=.function
 nocell:∀y∈scope.names,y.2≠.cell
 names:∀y∈scope.names,y.2=.local->scope.names.lookup y.1=some .local
 free:∀n,scope.names.lookup n=some .free->X.env.kindOf n=some .cell\/X.env.kindOf n=some .free
 freeM:∀n,(n,NameKind.free)∈scope.names->X.env.kindOf n=some .cell\/X.env.kindOf n=some .free
 apart:∀x∈X.N,scope.names.lookup x≠some .local
section
theorem j6.clo(S:j6 X scope)(I:z0 X pins σ H s):closureFor scope X.env=pure (dY scope X.env):=
 iK fun n h=>I.ok.has n (S.freeM n h)
theorem j6.cl_old(S:j6 X scope)(I:z0 X pins σ H s){c:Addr}(h:(dY scope X.env).lookup x=some c):X.env.cells.lookup x=some c:=by
 rcases qP (Bx h) with q | ⟨q,e⟩
 ·simp at q
 ·obtain⟨d,hd⟩:=I.ok.has x (S.freeM x q);have e':c=(X.env.cells.lookup x).getD 0:=e;rw[hd] at e' ⊢;rw[e'];rfl
theorem j6.cl_has(_:j6 X scope)(h:scope.names.lookup x=some .free):∃c,(dY scope X.env).lookup x=some c:=by obtain⟨c,hc⟩:=pP (env:=X.env) (names:=scope.names) (cs:=[]) (x:=x) (.inr (Bx h));exact eE hc
theorem j6.kindOf(S:j6 X scope)(h:(compEnvC scope (dY scope X.env) C X.env).kindOf x=some .cell\/(compEnvC scope (dY scope X.env) C X.env).kindOf x=some .free):scope.names.lookup x=some .free:=by
 have e:(compEnvC scope (dY scope X.env) C X.env).kindOf x=(scope.names.lookup x).map fun k=>if (k==NameKind.free&&X.env.scope.kind==.function&&X.env.kindOf x==some .cell) then NameKind.cell else k:=ku
 rw[e] at h;cases hl:scope.names.lookup x with
 |none=>rw[hl] at h;rcases h with h | h<;>cases h
 |some k=>
  rw[hl] at h;cases k with|free=>rfl|cell=>exact absurd rfl (S.nocell _ (Bx hl))|_=>rcases h with h | h<;>cases h
theorem j6.vis(S:j6 X scope)(hx:x∈X.N)(h:Vis (compEnvC scope (dY scope X.env) C X.env).scope x):scope.names.lookup x=some .free:=by
 rcases h with h | h | h
 ·exfalso;have e:(compEnvC scope (dY scope X.env) C X.env).kindOf x=(scope.names.lookup x).map fun k=>if (k==NameKind.free&&X.env.scope.kind==.function&&X.env.kindOf x==some .cell) then NameKind.cell else k:=ku
  have h':(compEnvC scope (dY scope X.env) C X.env).kindOf x=some .local:=h;rw[e] at h';cases hl:scope.names.lookup x with
  |none=>rw[hl] at h';cases h'
  |some k=>
   rw[hl] at h';have h':(if (k==NameKind.free&&X.env.scope.kind==.function&&X.env.kindOf x==some .cell)=true then NameKind.cell else k)=.local:=Ba h';split at h'
   ·cases h'
   ·subst h';exact S.apart x hx hl
 ·exact S.kindOf (C:=C) (.inl h)
 ·exact S.kindOf (C:=C) (.inr h)
theorem j6.back(S:j6 X scope)(h:scope.names.lookup x=some .free):(compEnvC scope (dY scope X.env) C X.env).kindOf x=some .cell\/(compEnvC scope (dY scope X.env) C X.env).kindOf x=some .free:=by
 have e:(compEnvC scope (dY scope X.env) C X.env).kindOf x=(scope.names.lookup x).map fun k=>if (k==NameKind.free&&X.env.scope.kind==.function&&X.env.kindOf x==some .cell) then NameKind.cell else k:=ku
 rw[e,h];show some (if _ then _ else _)=_\/some (if _ then _ else _)=_;split
 ·exact .inl rfl
 ·exact .inr rfl
end
def PF(X:Cx)(ifs:List Expr)(t:TT):Prop:=
 ∀(pins:List (Addr×Obj)) (s:Shared) (σ:St) (H:Hp) (Q:Bool->Hp->Prop),z0 X pins σ H s->t σ H Q->
  wpAny (model X.prog X.w) X.A (forIn ifs true fun c r=>if r=true then do let ok <-isTrue c X.env (eval c X.env);pure (ForInStep.yield ok) else pure (ForInStep.yield r)) (TP X pins σ Q) X.xe s
def aop:TT:=fun _ H Q=>Q true H
theorem aic :PF X [] aop:=fun _ _ _ H _ I h=>Ai ⟨H,I,h⟩
theorem agm{t:TT}(hc:PT X c t):PF X [c] t:=by intro pins s σ H Q I h;rw[CH];simp only[if_true];refine Aa (Aa (xj (hc pins s σ H Q I h) fun b s1 q=>Ai ?_));exact Ai q
theorem db{w:World}{R:Result->Shared->Prop}{iter:Expr}{it acc:Value}(I:Nat->Shared->Prop)
 (turn:∀n s,I n s->wpAny (model prog w) A (pyNext it) (fun r s₁=>match r with
  |none=>R (.ok .next) s₁
  |some v=>wpAny (model prog w) A (letOwnedTupleGo target it v) (fun _ s₁=>wpAny (model prog w) A (assign target env v) (fun _ s₂=>
   wpAny (model prog w) A (forIn ifs true fun c r=>if r=true then do let ok <-isTrue c env (eval c env);pure (ForInStep.yield ok) else pure (ForInStep.yield r)) (fun ok s₃=>
    if ok=true then wpAny (model prog w) A (eval elt env) (fun x s₄=>
     wpAny (model prog w) A (call (.builtin "list.append") [acc,x]) (fun _ s₅=>∃m,m<n/\I m s₅) (fun _ _=>False) s₄) (fun _ _=>False) s₃
    else ∃m,m<n/\I m s₃) (fun _ _=>False) s₂) (fun _ _=>False) s₁) (fun _ _=>False) s₁) (fun _ _=>False) s)
 (n:Nat) (h:I n s):
 codeAny (model prog w) A (.compLoop (.ListComp elt [⟨target,iter,ifs,0⟩] scope pos) 0 it acc env) R s:=by
 refine codeAny_loop rfl I (fun n s hI=>?_) n h;show wpAny _ A ((compTurn (.ListComp elt [⟨target,iter,ifs,0⟩] scope pos) 0 it acc env).onRaise (fun x=>do noteFrame x env;theTreesLotGoes x)) _ _ s;refine wpAny_noted ?_;rw[compTurn_list];refine Aa (wpAny_standAt (Aa (A2 (turn n s hI) (fun r s₁ h₁=>?_) fun _ _ h'=>h'.elim)));cases r with
 |none=>exact Ai h₁
 |some v=>
  refine Aa (A2 h₁ (fun _ s₁ h₁=>?_) fun _ _ h'=>h'.elim);refine Aa (A2 h₁ (fun _ s₂ h₂=>Aa (A2 h₂ (fun ok s₃ h₃=>?_) fun _ _ h'=>h'.elim)) fun _ _ h'=>h'.elim);cases ok with
  |false=>exact Ai ⟨rfl,h₃⟩
  |true=>
   exact Aa (Aa (A2 h₃ (fun x s₄ h₄=>Aa (A2 h₄ (fun _ s₅ h₅=>Ai (Ai ⟨rfl,h₅⟩)) fun _ _ h'=>h'.elim)) fun _ _ h'=>h'.elim))
def tLC(n:Nat)(wi:TI)(g:TG)(tc:TT)(te:TE):TE:=fun σ H Q=>wi σ H fun J H1=>∃W:Nat->Nat->List V->Hp->Prop,(∃m,W 0 m [] H1)/\∀i m ys H,W i m ys H->
 (J.stop i H/\ys.length≤sizeLine/\∀D,H D=none->Q (.ref D) (upd H D (.lst ys)))\/
 (J.go i H/\ys.length<sizeLine/\∀x H',J.yld i H x H'->g x (σ++List.replicate n none) H' fun σ2 H2=>tc σ2 H2 fun b H3=>
  if b=true then te σ2 H3 fun y H4=>∃m',m'<m/\W (i+1) m' (ys++[y]) H4 else ∃m',m'<m/\W (i+1) m' ys H3)
def mQ(g:TG)(n k:Nat):Prop:=∀(σ:St),σ.length=n->∀x H Q,g x (σ++List.replicate k none) H Q->
 g x (σ++List.replicate k none) H fun σ2 H2=>((σ2.length=n+k/\∀(i:Nat) v,(σ++List.replicate k none)[i]?=some (some v)->σ2[i]?=some (some v))/\Q σ2 H2)
section
variable {T:List Str}{iter:Expr}{g:TG}{tc:TT}{te:TE}
theorem ltN{b:Addr}{o:Obj}(e:h.get? b=some o):@LT.lt Nat instLTNat b h.objs.size:=Heap.lt_size e
theorem sJ{a b:Addr}(h:@Ne Nat a b):a≠b:=h
theorem leN{a b:Addr}(h:@LE.le Nat instLENat a b):a≤b:=h
theorem aab(its:List Value)(n:Nat)(u:Value):∃n',Obj.mapSeq (·.push u) { cls:=.type "list",data:=.seq its.toArray n }=({ cls:=.type "list",data:=.seq (its++[u]).toArray n' }:Obj):=
 ⟨_,by simp[Obj.mapSeq];rfl⟩
theorem uC{w:World}{D:Addr}(hD:s.heap.get? D=some { cls:=.type "list",data:=.seq its.toArray n })
 (hz:its.length≤sizeLine) (h:∀h' n',Heap.SameBut D s.heap h'->h'.get? D=some { cls:=.type "list",data:=.seq (its++[u]).toArray n' }->Q .none { s with heap:=h' }):
 wpAny (model prog w) A (call (.builtin "list.append") [.ref D,u]) Q E s:=by
 have hl:s.heap.IsList D its.toArray:=⟨_,hD,rfl,n,rfl⟩;refine wpAny_call_entry slot_list_append hl.typeIs entry_list_append ?_ (args_list_append _ _);show wpAny _ _ (updateSeq D (·.push u) >>= fun _=>ret .none) _ _ s;refine Aa ?_;obtain⟨n',e'⟩:=aab its n u;refine wpAny_updateSeq (f:=(·.push u)) hD rfl (Ai ⟨.none,rfl,h _ n' (Heap.SameBut.update ..) ?_⟩) (by rw[Am];exact hz) (by rw[Bk,Am];exact Nat.succ_le_succ hz);rw[<-e'];exact Heap.get?_update_self _ hD (by rw[e'];rfl)
theorem kF{Q:VK}{itv:Value}{s₂:Shared}{RR:Value->Addr->Result->Shared->Prop}
 (S:j6 X scope) (hc:X.calm=true)
 (hg:∀C fp s₀ H₀,PG (X.comp scope T C fp s₀ H₀) target g) (hgo:mQ g X.N.length T.length) (hf:∀C fp s₀ H₀,PF (X.comp scope T C fp s₀ H₀) ifs tc) (he:∀C fp s₀ H₀,PE (X.comp scope T C fp s₀ H₀) elt te)
 (h:PIE X pins σ target (fun J H1=>∃W:Nat->Nat->List V->Hp->Prop,(∃m,W 0 m [] H1)/\∀i m ys H,W i m ys H->
  (J.stop i H/\ys.length≤sizeLine/\∀D,H D=none->Q (.ref D) (upd H D (.lst ys)))\/
  (J.go i H/\ys.length<sizeLine/\∀x H',J.yld i H x H'->g x (σ++List.replicate T.length none) H' fun σ2 H2=>tc σ2 H2 fun b H3=>
   if b=true then te σ2 H3 fun y H4=>∃m',m'<m/\W (i+1) m' (ys++[y]) H4 else ∃m',m'<m/\W (i+1) m' ys H3)) itv s₂)
 (hRR:∀D C s' H' m',z0 X pins σ H' s'->l0 X pins H' C->s'.heap.Ns C m'->Q (.ref D) H'->RR (.ref D) C (.ok .next) s'):
 wpAny (model X.prog X.w) X.A (newList []) (fun acc s₃=>wpAny (model X.prog X.w) X.A (newFunctionEnv scope X.env.globals (dY scope X.env) [] X.env.qual none .none (some X.env)) (fun cenv s₄=>
  codeAny (model X.prog X.w) X.A (.compStart (.ListComp elt [⟨target,iter,ifs,0⟩] scope pos) 0 itv acc { cenv with scope:=relabel scope X.env }) (RR acc cenv.locals) s₄) E s₃) E s₂:=by
 obtain⟨it,fp,tn,J,H2,rfl,I2,Tn,st2,f2,W,⟨m0,w0⟩,turn⟩:=h;refine Bq (wpAny_newFunctionEnv S.nocell (by intro y hy;simp at hy) (fun h₁ hns₁ hsb₁=>?_) S.kind);dsimp only at hns₁ hsb₁ ⊢;generalize hH2:s₂.heap.push { cls:=.type "list",dict:=none,data:=.seq ([]:List Value).toArray }=G at hns₁ hsb₁ ⊢;have hC:G.objs.size=s₂.heap.objs.size+1:=by rw[<-hH2,Heap.size_push]
 obtain⟨D,eD⟩:∃D,s₂.heap.objs.size=D:=⟨_,rfl⟩;obtain⟨C,eC⟩:∃C,G.objs.size=C:=⟨_,rfl⟩;rw[eD] at hC ⊢;rw[eC] at hC hns₁ hsb₁ ⊢;have hDC:D≠C:=by lia
 have old:∀b o,s₂.heap.get? b=some o->h₁.get? b=some o:=fun b o e=>by have hb:=ltN e;exact hsb₁.extBut b o (sJ (by lia)) (Heap.get?_push_of_some _ (hH2▸Heap.get?_push_of_some _ e))
 have hacc:h₁.get? D=some { cls:=.type "list",data:=.seq ([]:List Value).toArray 0 }:=by refine hsb₁.extBut _ _ hDC (Heap.get?_push_of_some _ ?_);rw[<-hH2,<-eD];exact Heap.get?_push_size _ rfl
 have fpo:∀b∈fp,@LT.lt Nat instLTNat b s₂.heap.objs.size:=fun b hb=>by obtain⟨o,e,_⟩:=Tn.obj _ _ st2 b hb;exact ltN e
 have ilt:@LT.lt Nat instLTNat X.env.locals s₂.heap.objs.size:=I2.lt;have isz:X.s₀.heap.objs.size≤s₂.heap.objs.size:=I2.sz;have HD:H2 D=none:=I2.hok.fresh (leN (by exact pO));have HC:H2 C=none:=I2.hok.fresh (leN (by lia));have nfs:∀b:Addr,@LE.le Nat instLENat s₂.heap.objs.size b->b∉vT X.stack:=fun b hb z=>by
  have q:=I2.stkSub b z;rcases Au.mp q with q | q
  ·rw[<-q] at ilt;exact absurd ilt (Nat.not_lt.mpr hb)
  ·exact I2.nofs hb q
 have cellLt:∀x c,X.env.cells.lookup x=some c->@LT.lt Nat instLTNat c s₂.heap.objs.size:=fun x c e=>by obtain⟨v,q⟩:=I2.cell x c e;exact q.lt
 let X':Cx:=X.comp scope T C fp s₂ H2
 have ok':X'.Ok:={
  mod:=I2.ok.mod,kind:=S.kind,glob:=I2.ok.glob,blt:=I2.ok.blt
  above:=leN (by show @LE.le Nat instLENat s₂.heap.objs.size C;lia)
  inj:=fun x y c h1 h2=>I2.ok.inj x y c (S.cl_old I2 h1) (S.cl_old I2 h2)
  has:=fun x hx=>S.cl_has (S.kindOf hx)
  cab:=fun x c hx=>absurd (show false=true from hx) (by simp)
  hd:=I2.ok.hd,frames:=I2.ok.frames,stk:=.inl rfl
  exf:=fun b hb=>⟨sJ (by have:=fpo b hb;show @Ne Nat b C;lia),fun x c e=>(f2 b hb).2.2.2.2.1 x c (S.cl_old I2 e)⟩
  bs:=I2.bs,bsz:=AU I2.ok.bsz I2.sz
  noex:=fun b o e hb=>by
   obtain⟨e0,n0⟩:=I2.ok.bs b o e;rcases (f2 b hb).2.2.2.1 with q | q
   ·exact I2.ok.noex b o e q
   ·have q':@LE.le Nat instLENat X.s₀.heap.objs.size b:=q;have:=ltN e0;lia
  exfs:=fun b hb z=>by
   rcases Au.mp (I2.stkSub b z) with q | q
   ·exact(f2 b hb).2.1 q
   ·exact(f2 b hb).2.2.1 q
  funs:=I2.stack,frf:=I2.stkFree }
 have I4:∀tk,0<tk->z0 X' pins (σ++List.replicate T.length none) H2 { s₂ with heap:=h₁,toks:=tk }:=fun tk htk=>{
  tk:=htk,ok:=ok',os:=rfl,bare:=I2.bare,base:=Un.kept old
  loc:=⟨_,hns₁,fun i x v e1 e2 e3=>by
   have hi:i<σ.length:=by
    by_cases hi:i<σ.length
    ·exact hi
    ·rw[Ar (by exact zL),Cc] at e2;split at e2<;>cases e2
   rw[AE hi] at e2;have hi':i<X.N.length:=by rw[<-I2.len];exact hi
   have e1':X.N[i]?=some x:=by have:(X.N++T)[i]?=some x:=e1;rw[AE hi'] at this;exact this
   have hfr:=S.vis (AI e1') e3;obtain⟨m,hn,hl⟩:=I2.loc;have hk:=S.free x hfr;obtain⟨u,r,l⟩:=hl i x v e1' e2 (.inr hk);refine⟨u,r,.inr ⟨S.back hfr,?_⟩⟩;rcases l with⟨l,_⟩ | ⟨_,c,e,z⟩
   ·rw[l] at hk;rcases hk with q | q<;>cases q
   ·obtain⟨c',e'⟩:=S.cl_has hfr;have e'':=S.cl_old I2 e';rw[e] at e'';cases e'';exact⟨c,e',z.keeps old⟩⟩
  cell:=fun x c e=>by obtain⟨v,z⟩:=I2.cell x c (S.cl_old I2 e);exact⟨v,z.keeps old⟩
  free:=HC,freeC:=fun x c e=>I2.freeC x c (S.cl_old I2 e)
  pin:=fun p hp=>by
   obtain⟨a,b,c,d,e⟩:=I2.pin p hp;have hlt:=ltN a;refine⟨old _ _ a,b,sJ (by show @Ne Nat p.1 C;lia),fun z=>?_,e⟩;rcases Au.mp (I2.stkSub _ z) with q | q
   ·exact c q
   ·exact d q
  hok:=I2.hok.kept old
  len:=by show(σ++_).length=(X.N++T).length;rw[Ac,Ac,Cm,I2.len] }
 have fpk:∀(pins':List (Addr×Obj)) (H':Hp),(∀p∈pins',p∈pins\/p.1=D)->(∀b∈fp,H' b=none)->∀b∈fp,l0 X' pins' H' b:=fun pins' H' hp hn b hb=>by
  obtain⟨_,q1,q2,q3,q4,q5⟩:=f2 b hb;have hlt:=fpo b hb;refine⟨hn b hb,sJ (by show @Ne Nat b C;lia),ok'.exfs b hb,.inl hb,(ok'.exf b hb).2,fun p hpp=>?_⟩;rcases Ak.mp hpp with z | z
  ·exact q5 p (Av _ z)
  ·rcases hp p z with z | z
   ·exact q5 p (Af _ z)
   ·rw[z];exact sJ (by lia)
 have stay:Tn.keep=Tn.keep:=rfl;have loop:∀s₃:Shared,s₃={ s₂ with heap:=h₁,toks:=s₂.toks+([]:List (Str×Value)).length }->
  codeAny (model X.prog X.w) X.A (.compLoop (.ListComp elt [⟨target,iter,ifs,0⟩] scope pos) 0 (.ref it) (.ref D) X'.env) (RR (.ref D) C) s₃:=by
  rintro s₃ rfl;refine db (fun n s'=>∃i σ' H' ys its k,z0 X' pins σ' H' s'/\(σ'.length=X.N.length+T.length/\∀(i:Nat) v,(σ++List.replicate T.length none)[i]?=some (some v)->σ'[i]?=some (some v))/\
   s'.heap.get? D=some { cls:=.type "list",data:=.seq (its:List Value).toArray k }/\ze ys its/\H' D=none/\tn i s'.heap/\(∀b∈fp,H' b=none)/\W i n ys H') ?_ m0
   ⟨0,_,H2,[],[],0,I4 _ I2.tk,⟨by rw[Ac,Cm,I2.len],fun _ _ e=>e⟩,hacc,.nil,HD,Tn.keep _ _ _ st2 fun b _ o e=>old b o e,fun b hb=>(f2 b hb).1,w0⟩
  rintro n s3 ⟨i,σ3,H3,ys,its,k,I3,⟨hl3,hs3⟩,hD3,hv3,hH3,st3,fr3,w3⟩;have hlen:its.length=ys.length:=hv3.length.symm;have D_fs:D∉X'.fs:=nfs D (by exact pO);have DC':D≠X'.env.locals:=hDC;have I3p:z0 X' (pins++[(D,{ cls:=.type "list",data:=.seq its.toArray k })]) (σ++List.replicate T.length none) H3 s3:=
   (I3.weak (by rw[hl3,Ac,Cm,I2.len]) hs3).pins_of fun p hp=>by
    rcases Ak.mp hp with z | z
    ·exact I3.pin p (Af _ z)
    ·have e:=Ao.mp z;subst e;exact⟨hD3,hH3,DC',D_fs,fun v z=>by cases z⟩
  have pinsD:∀p∈pins++[(D,({ cls:=.type "list",data:=.seq its.toArray k }:Obj))],p∈pins\/p.1=D:=fun p hp=>by
   rcases Ak.mp hp with z | z
   ·exact .inl z
   ·exact .inr (by rw[Ao.mp z])
  rcases turn i n ys H3 w3 with⟨stop,hz,qn⟩ | ⟨go,hz,step⟩
  ·refine xj (Tn.done X' rfl rfl rfl hc i _ s3 _ H3 _ I3p (fpk _ H3 pinsD fr3) st3 stop) fun r s4 ⟨hr,I4'⟩=>?_;subst hr;obtain⟨hD4,hH4,_⟩:=I4'.pin (D,_) (Af _ (Af _ An));obtain⟨m',hn',_⟩:=I4'.loc;have un:Un (vT X.stack) fp H2 (upd H3 D (.lst ys)) s₂.heap s4.heap:={
    keep:=I4'.base.keep,slot:=I4'.base.slot
    free:=fun b o e n hx=>by have:=ltN e;rw[qu (sJ (by lia))];exact I4'.base.free b o e n hx
    there:=I4'.base.there
    tups:=fun b xs e=>by rw[qu (fun z=>by rw[z,HD] at e;cases e)];exact I4'.base.tups b xs e
    frzs:=fun b o u e=>by rw[qu (fun z=>by rw[z,HD] at e;cases e)];exact I4'.base.frzs b o u e
    tbls:=fun b ps e=>by rw[qu (fun z=>by rw[z,HD] at e;cases e)];exact I4'.base.tbls b ps e }
   have hok:dq X.prog X.w (upd H3 D (.lst ys)) s4.heap:=fun b u e=>by
    by_cases hb:b=D
    ·subst hb;rw[zv] at e;cases e;exact⟨hz,its,k,hv3,hD4⟩
    ·rw[qu hb] at e;refine(I4'.hok b u e).stay (fun _ _ _ q=>q) (fun c q=>?_) fun c xs q=>?_
     ·rw[qu (zp q hH3)];exact q
     ·rw[qu (zp q hH3)];exact q
   have I5:z0 X pins σ (upd H3 D (.lst ys)) s4:=I2.call' (ch:=fp) I4'.os un hok I4'.bare fun b hb=>⟨(f2 b hb).2.2.2.1,(f2 b hb).2.1,(f2 b hb).2.2.2.2.1,(f2 b hb).2.2.2.2.2⟩;refine hRR D C s4 _ m' I5 ?_ hn' (qn D hH3);refine⟨by rw[qu (AK hDC)];exact I4'.free,?_,?_,.inr ?_,fun x c e=>?_,fun p hp=>?_⟩
   ·exact sJ (by lia)
   ·exact I2.nofs (leN (by lia))
   ·exact leN (by lia)
   ·exact sJ (by have:=cellLt x c e;lia)
   ·exact sJ (by have:=ltN (I2.pin p hp).1;lia)
  ·refine xj (Tn.item X' rfl rfl rfl hc i _ s3 _ H3 _ I3p (fpk _ H3 pinsD fr3) st3 go) fun r s4 ⟨u,hr,h4⟩=>?_;subst hr;refine xj h4 fun _ s5 ⟨x,H5,I5,r5,y5,st5,fr5⟩=>?_;have I5':=I5.pinned (fpk _ H5 pinsD fr5) (Tn.obj _ _ st5);refine A2 ((hg C fp s₂ H2) _ s5 _ H5 x u _ I5' r5 (hgo σ I2.len x H5 _ (step x H5 y5))) (fun _ s6 ⟨σ6,H6,I6,⟨hl6,hs6⟩,q6⟩=>?_) fun _ _ z=>z;refine A2 ((hf C fp s₂ H2) _ s6 σ6 H6 _ I6 q6) (fun b s7 ⟨H7,I7,q7⟩=>?_) fun _ _ z=>z;have js:∀{s8:Shared} {H8:Hp} (I8:z0 X' ((pins++[(D,{ cls:=.type "list",data:=.seq its.toArray k })])++jE fp s5.heap) σ6 H8 s8),tn (i+1) s8.heap/\(∀b∈fp,H8 b=none)/\s8.heap.get? D=some { cls:=.type "list",data:=.seq its.toArray k }/\H8 D=none/\z0 X' pins σ6 H8 s8:=fun {s8 H8} I8=>by
    refine⟨Tn.keep _ _ _ st5 fun b hb o e=>(I8.pin (b,o) (Af _ (Af _ (cA hb e)))).1,fun b hb=>?_,?_,?_,I8.unpinned.unpinned⟩
    ·obtain⟨o,e,d⟩:=Tn.obj _ _ st5 b hb;exact(I8.pin (b,o) (Af _ (Af _ (cA hb e)))).2.1
    ·exact(I8.pin (D,_) (Af _ (Av _ (Af _ An)))).1
    ·exact(I8.pin (D,_) (Af _ (Av _ (Af _ An)))).2.1
   cases b with
   |false=>
    rw[Ay AB] at q7 ⊢;obtain⟨m',hm,w7⟩:=q7;obtain⟨a1,a2,a3,a4,a5⟩:=js I7;exact⟨m',hm,i+1,σ6,H7,ys,its,k,a5,⟨hl6,hs6⟩,a3,hv3,a4,a1,a2,w7⟩
   |true=>
    rw[AA rfl] at q7 ⊢;refine A2 ((he C fp s₂ H2) _ s7 σ6 H7 _ I7 q7) (fun v s8 ⟨y,H8,I8,r8,m',hm,w8⟩=>?_) fun _ _ z=>z;obtain⟨a1,a2,a3,a4,a5⟩:=js I8;refine uC a3 (by lia) fun h9 k9 hs9 hD9=>?_;have nD:∀b∈fp,b≠D:=fun b hb=>sJ (by have:=fpo b hb;lia);refine⟨m',hm,i+1,σ6,H8,ys++[y],its++[v],k9,?_,⟨hl6,hs6⟩,hD9,hv3.append (.cons r8 .nil),a4,Tn.keep _ _ _ a1 fun b hb o e=>(hs9.2 b (nD b hb)).trans e,a2,w8⟩;exact a5.turned (t':=s8.toks) (it:=D) (fun b o hb e=>(hs9.2 b hb).trans e) a4 DC' (.inr (leN (by show @LE.le Nat instLENat s₂.heap.objs.size D;exact pO))) (fun x c e=>sJ (by have:=cellLt x c (S.cl_old I2 e);lia)) fun p hp=>sJ (by have:=ltN (I2.pin p hp).1;lia)
 exact codeAny_compStart_list (loop _ rfl) (Tn.self _ _ _ _ _ (Tn.keep _ _ _ st2 fun b _ o e=>old b o e) (loop _ rfl))
end
section
variable {T:List Str}{iter:Expr}{g:TG}{tc:TT}{te:TE}
theorem akq(T:List Str)(S:j6 X scope)(hc:X.calm=true)(hi:PI X target iter wi)(hg:∀C fp s₀ H₀,PG (X.comp scope T C fp s₀ H₀) target g)(hgo:mQ g X.N.length T.length)
 (hf:∀C fp s₀ H₀,PF (X.comp scope T C fp s₀ H₀) ifs tc) (he:∀C fp s₀ H₀,PE (X.comp scope T C fp s₀ H₀) elt te)
 (hs:∀x,foldedSetIterable iter X.env x=pure x:=by intro _;rfl):PE X (.ListComp elt [⟨target,iter,ifs,0⟩] scope pos) (tLC T.length wi g tc te):=by
 intro pins s σ H Q I h;rw[eval_ListComp];refine wpAny_comprehension_free (use:=none) rfl hs (S.clo I) S.kind S.names (xj (hi pins s σ H _ I h) fun v s1 h1=>xj h1 fun itv s2 h2=>?_);refine kF (RR:=fun acc C=>compPost (model X.prog X.w) X.A X.xe none (EP X pins σ Q) acc C) S hc hg hgo hf he h2 ?_;intro D C s' H' m' I' f' hn q;exact⟨m',hn,fun h' hs'=>⟨.ref D,H',I'.turned (t':=s'.toks) (it:=C) (fun b o hb e=>(hs'.2 b hb).trans e) f'.1 (AK (AK f'.2.1)) f'.2.2.2.1 f'.2.2.2.2.1 f'.2.2.2.2.2,rfl,q⟩⟩
theorem yZ(T:List Str){px lp:Pos}(hN:X.N.Nodup)(hix:X.N[i]?=some x)(hx:ym X.env.scope x)(S:j6 X scope)(hc:X.calm=true)(hi:PI X target iter wi)
 (hg:∀C fp s₀ H₀,PG (X.comp scope T C fp s₀ H₀) target g) (hgo:mQ g X.N.length T.length)
 (hf:∀C fp s₀ H₀,PF (X.comp scope T C fp s₀ H₀) ifs tc) (he:∀C fp s₀ H₀,PE (X.comp scope T C fp s₀ H₀) elt te)
 (hsw:swapsWith (.ListComp elt [⟨target,iter,ifs,0⟩] scope lp) (some (.Name x px)) pos.line X.env=pure true:=by rfl)
 (hfn:X.fn x=true\/X.env.scope.names.lookup x=some .local:=by first | exact .inl rfl | exact .inr rfl | assumption)
 (hs:∀x,foldedSetIterable iter X.env x=pure x:=by intro _;rfl):PS X (.Assign [.Name x px] (.ListComp elt [⟨target,iter,ifs,0⟩] scope lp) pos) (ag9 (tLC T.length wi g tc te) (cb i)):=by
 intro pins s σ H D I h;rw[exec_Assign_Name_used _ _ _ _ hsw];refine Aa (wpAny_standAt (Aa ?_));show wpAny _ X.A (do let _ <-comprehension (.ListComp elt [⟨target,iter,ifs,0⟩] scope lp) scope X.env _ (newList []) false (eval iter X.env) (some (assign (.Name x px) X.env))) _ _ s;refine Aa (A2 (wpAny_comprehension_free (use:=some (assign (.Name x px) X.env)) (Q:=fun _ s'=>SP X pins D .next s') rfl hs (S.clo I) S.kind S.names
  (xj (hi pins s σ H _ I h) fun v s1 h1=>xj h1 fun itv s2 h2=>?_)) (fun _ s' hq=>Ai (Ai hq)) fun _ _ e=>e)
 refine kF (RR:=fun acc C=>compPost (model X.prog X.w) X.A X.xe (some (assign (.Name x px) X.env)) (fun _ s'=>SP X pins D .next s') acc C) (pins:=pins) (σ:=σ) (Q:=fun x H1=>cb i x σ H1 D.nx) S hc hg hgo hf he h2 ?_;intro A C s' H' m' I' f' hn q;show wpAny _ X.A (assign (.Name x px) X.env (.ref A)) _ _ s';refine wpAny_assign_Name (mY I' hN hix hx (v:=.ref A) rfl (fun s'' I'' ⟨a,hs,ha⟩ _=>?_) hfn);have hCa:C≠a:=by
  rcases ha with z | z
  ·rw[z];exact f'.2.1
  ·exact fun e=>f'.2.2.2.2.1 x a z e.symm
 exact⟨m',hn.sameBut hs hCa,fun h' hs'=>⟨_,H',I''.turned (t':=s''.toks) (it:=C) (fun b o hb e=>(hs'.2 b hb).trans e) f'.1 f'.2.1 f'.2.2.2.1 f'.2.2.2.2.1 f'.2.2.2.2.2,q⟩⟩
end
def ve(outer:Scope)(N:List Str)(sc:Scope):Bool:=
 decide (sc.kind=.function)&&sc.names.all (fun p=>decide (p.2≠.cell)&&(decide (p.2≠.local)||decide (sc.names.lookup p.1=some .local))&&(decide (p.2≠.free)||(decide (outer.names.lookup p.1=some .cell)||decide (outer.names.lookup p.1=some .free))))
  && N.all (fun x=>decide (sc.names.lookup x≠some .local))
theorem ve.mk{sc:Scope}(h:ve X.env.scope X.N sc=true):j6 X sc:=by
 unfold ve at h;rw[A8,A8,Cw,Cw] at h;obtain⟨⟨h1,h2⟩,h3⟩:=h;have fm:∀n,(n,NameKind.free)∈sc.names->X.env.kindOf n=some .cell\/X.env.kindOf n=some .free:=fun n hn=>by
  have q:=h2 _ hn;simp only[A8,DL,decide_eq_true_eq] at q;rcases q.2 with z | z
  ·exact absurd rfl z
  ·exact z
 refine⟨of_decide_eq_true h1,fun y hy=>?_,fun y hy e=>?_,fun n hn=>fm n (Bx hn),fm,fun x hx=>of_decide_eq_true (h3 x hx)⟩
 ·have q:=h2 _ hy;simp only[A8,DL,decide_eq_true_eq] at q;exact q.1.1
 ·have q:=h2 _ hy;simp only[A8,DL,decide_eq_true_eq] at q;rcases q.1.2 with z | z
  ·exact absurd e z
  ·exact z
abbrev EI:=@ve.mk
theorem tE(n:Nat):mQ (cb n) n 1:=by
 intro σ hl x H Q h;refine⟨⟨by simp[hl],fun i v e=>?_⟩,h⟩;by_cases hi:i=n
 ·subst hi;rw[Ar (by exact pO)] at e;simp[hl] at e
 ·rw[Bl (AK hi)];exact e
theorem l6:bootBuiltins "isinstance" = some (.builtin "isinstance"):=by decide +kernel
theorem rE:bootBuiltins "tuple" = some (.type "tuple"):=by decide +kernel
theorem yq:bootBuiltins "int" = some (.type "int"):=by decide +kernel
theorem dR:bootBuiltins "list" = some (.type "list"):=by decide +kernel
theorem tU:bootBuiltins "len" = some (.builtin "len"):=by decide +kernel
theorem huK{k:Nat}(hr:wy k A):A.units+128<cLine:=by have:=hr.un;lia
theorem small(h:n≤1000):n≤sizeLine:=Bz (m9 h)
theorem yO.of{P:Program}{w:World}{K:Ah}{k:Nat}(F:az P w K mg base CX0 k f fd ps sp)(b:eV K fd ps [])(kp:PySem.W.keepIn K (.ref f)=true)(m:mg x=some (.ref f)):
 yO P w K mg base k x ps sp:=⟨f,fd,F,b,kp,m⟩
theorem az.never{P:Program}{w:World}{K:Ah}{k:Nat}(no:∀vs H Q E,¬sp vs H Q E):az P w K mg base CX0 k f fd ps sp:=
 ⟨fun vs H Q E h=>absurd h (no vs H Q E),fun A outer s H args us vs Q E _ _ _ _ h=>absurd h (no vs H Q E)⟩
section
variable (K:Ah)(P:Program)(w:World)
end
structure qr(K:Ah)(x:Str)(st:Stmt):Prop where
 ex:∃(f:Addr) (kV doc pm:Value) (an:Option Addr) (cdv ct:Value),PySem.W.nsIn K mainGlobals x=some (some (.ref f))/\Fun K x x st f (PySem.W.fnOf x x (xq st) (jh st) (qx st) .none kV doc pm an cdv ct)
theorem def_in{K:Ah}{kV ct:Value}(a:PySem.W.nsIn K mainGlobals x=some (some (.ref f)))
 (l:K.lookup f=some ⟨oc,od,.func (PySem.W.fnOf x x (xq st) (jh st) (qx st) .none kV doc pm an cdv ct),osl⟩) (c:PySem.W.codeIn K cdv x=true) (k:PySem.W.keepIn K (.ref f)=true):qr K x st:=
 ⟨f,kV,doc,pm,an,cdv,ct,a,ag5 (st:=st) l c k⟩
theorem qr.use{K:Ah}(D:qr K x st)(X:K.In h)(G:h.Ns mainGlobals mg)
 (hb:∀(kV doc pm:Value) (an:Option Addr) (cdv ct:Value) (us:List Value),us.length=ps.length->bindArgs (PySem.W.fnOf x x (xq st) (jh st) (qx st) .none kV doc pm an cdv ct) ⟨us,[]⟩=pure (ps.zip us)):
 ∃f fd,Fun K x x st f fd/\eV K fd ps []/\mg x=some (.ref f):=by
 obtain⟨f,kV,doc,pm,an,cdv,ct,a,F⟩:=D.ex;exact⟨f,_,F,eV.all (hb kV doc pm an cdv ct),Ck X G a⟩
def uc(w:World)(r:Str×Tok×Str×Tok):DictEntry:=⟨hashStr w r.1,.str r.1 r.2.1,.str r.2.2.1 r.2.2.2⟩
theorem ak7{K:Ah}{P:Program}{w:World}{c:Addr}{ep:Nat}(rows:List (Str×Tok×Str×Tok))(l:K.lookup c=some ⟨.type "dict",none,.dict (rows.map (uc w)).toArray ep,#[]⟩)(hs:(c==sysModules)=false)(hz:rows.length≤1000)(nd:(rows.map fun r=>(Sum.inr r.1:zq)).Nodup):
 KD K P w c (rows.map fun r=>(Sum.inr r.1,.str r.2.2.1)):=by
 refine⟨hs,by rw[Ae];exact small hz,fun h X=>⟨rows.map fun r=>(Sum.inr r.1,.str r.2.2.1 r.2.2.2),?_,_,_,ep,X c _ l,⟨rfl,rfl,rfl⟩,rfl,?_,?_,?_⟩⟩
 ·unfold KV;clear l hz nd
  induction rows with|nil=>exact .nil|cons r t ih=>exact .cons ⟨rfl,_,rfl⟩ ih
 ·intro e he;have he':e∈rows.map (uc w):=by simpa using he
  obtain⟨r,_,rfl⟩:=AY.mp he';exact⟨Sum.inr r.1,bG r.1 r.2.1,rfl⟩
 ·show Pairs _ (rows.map (uc w)).toArray.toList _;rw[Dj];clear l hz nd
  induction rows with|nil=>exact .nil|cons r t ih=>exact .cons (bG r.1 r.2.1) rfl ih
 ·rw[BC];exact nd
end L2
namespace Words
open PySem L2
inductive Wd where
 |leaf (t:Bool) (n:Str)
 |node (e:Bool) (l r:Wd)
def kL:Bool->Str
 |false => "plain"
 |true => "turned"
def kN:Bool->Str
 |false => "both"
 |true => "either"
def Wd.turn:Wd->Wd
 |.leaf t n=>.leaf (!t) n
 |.node e l r=>.node (!e) l.turn r.turn
def Wd.depth:Wd->Nat
 |.leaf _ _=>1
 |.node _ l r=>max l.depth r.depth+1
def Wd.leaves:Wd->Nat
 |.leaf _ _=>1
 |.node _ l r=>l.leaves+r.leaves
theorem Wd.leaves_pos:∀w:Wd,1≤w.leaves
 |.leaf _ _=>Al _
 |.node _ l r=>by have:=Wd.leaves_pos l;show 1≤l.leaves+r.leaves;exact ako
abbrev EJ:=@Wd.leaves_pos
theorem Wd.depth_le:∀w:Wd,w.depth≤w.leaves
 |.leaf _ _=>Al _
 |.node _ l r=>by have:=Wd.depth_le l;have:=Wd.depth_le r;have:=EJ l;have:=EJ r;show max l.depth r.depth+1≤l.leaves+r.leaves;lia
def jI:Wd->Da
 |.leaf t n=>.tup [.s (.str (kL t)),.s (.str n)]
 |.node e l r=>.tup [.s (.str (kN e)),jI l,jI r]
theorem eY:∀w:Wd,Da.eq (jI w) (jI w)=true
 |.leaf t n=>by simp[jI,Da.eq,Da.eqs,fi]
 |.node e l r=>by simp[jI,Da.eq,Da.eqs,fi,eY l,eY r]
def dG(x:Str):Prop:=1≤x.length/\x.length≤8/\∀c∈x.cps.toList,97≤c/\c≤122
def Wd.ok:Wd->Prop
 |.leaf _ n=>dG n
 |.node _ l r=>l.ok/\r.ok
theorem Paired.getP{α β:Type}{F:α->β->Prop}:∀{xs:List α} {ys:List β} {i:Nat} {x:α},Paired F xs ys->xs[i]?=some x->∃y,ys[i]?=some y/\F x y
 |_,_,_,_,.nil,h=>by simp at h
 |_,_,0,_,.cons (b:=y) r _,h=>by simp at h;subst h;exact⟨y,rfl,r⟩
 |_,_,i+1,_,.cons _ t,h=>by obtain⟨y,e,q⟩:=Paired.getP (i:=i) t (by simpa using h);exact⟨y,by simpa using e,q⟩
end Words
namespace L2
open PySem PySem.Spec PyProof.Rows
section
theorem xY{a b:Addr}{ys:List V}{es:List Da}(I:z0 X pins σ H s)(hu:A.units<cLine)(sx:cJ X.K H a xs)(sy:cJ X.K H b ys)(px:Paired (vd X.K H n) xs ds)(py:Paired (vd X.K H m) ys es)
 (ih:∀{x y:V} {d e:Da} {u v:Value},vd X.K H n x d->vd X.K H m y e->zf x u->zf y v->SeqAt.EqAt A.in1 s u v (Da.eq d e)):SeqAt.RcNeAt A s (.ref a) (.ref b) (!Da.eqs ds es):=by
 obtain⟨us,vx,tx,_⟩:=I.tuple sx;obtain⟨vs,vy,ty,_⟩:=I.tuple sy;have q:=SeqAt.RcNeAt.tuples tx ty hu (fP px py vx vy ih);rw[Am,Am,<-vx.length,<-vy.length,px.length,py.length,EF] at q;exact q
theorem aby{a b:Addr}{ys:List V}{es:List Da}(I:z0 X pins σ H s)(hu:A.units<cLine)(sx:w4 X.K H a xs)(sy:w4 X.K H b ys)(px:Paired (vd X.K H n) xs ds)(py:Paired (vd X.K H m) ys es)
 (ih:∀{x y:V} {d e:Da} {u v:Value},vd X.K H n x d->vd X.K H m y e->zf x u->zf y v->SeqAt.EqAt A.in1 s u v (Da.eq d e)):SeqAt.RcNeAt A s (.ref a) (.ref b) (!Da.eqs ds es):=by
 obtain⟨us,vx,tx,_⟩:=I.list sx;obtain⟨vs,vy,ty,_⟩:=I.list sy;by_cases hz:us.toArray.size=vs.toArray.size
 ·have q:=SeqAt.RcNeAt.lists (zg tx) (zg ty) hz hu (fP px py vx vy ih);have hz':ds.length=es.length:=by rw[<-px.length,<-py.length,vx.length,vy.length];simpa using hz
  have e:=EF ds es;rw[hz',Nat.min_self] at e;rw[<-hz'] at e;rw[Am,<-vx.length,px.length] at q;simp only[beq_self_eq_true,Bool.and_true] at e;rw[e] at q;exact q
 ·have q:=SeqAt.RcNeAt.lists_lengths (zg tx) (zg ty) (by simpa using hz) hu;have hz':ds.length≠es.length:=by rw[<-px.length,<-py.length,vx.length,vy.length];intro z;exact hz (by simpa using z)
  have e:=EF ds es;have f:(ds.length==es.length)=false:=by simpa using hz'
  rw[f,CU] at e;rw[<-e];exact q
end
section
def uNe(K:Ah)(k:Nat):R2:=fun x y H Q=>match x,y with
 |.ref a,.ref b=>∃n m d e,n≤k/\vd K H n (.ref a) d/\vd K H m (.ref b) e/\Q (.bl (!Da.eq d e)) H
 |x,y=>aey x y=true/\Q (.bl (!decide (x=y))) H
theorem aj5{k:Nat}(hu:X.A.units+k<cLine):vm X (compareOp .NotEq) (uNe X.K k):=by
 intro pins s σ H x y v u Q I rx ry h;cases x with
 |ref a=>
  cases y with
  |ref b=>
   obtain⟨n,m,d,e,hn,h1,h2,q⟩:=h;cases rx;cases ry;have js:∀{k:Bool},k=(!Da.eq d e)->SeqAt.RcNeAt X.A s (.ref a) (.ref b) k->wpAny (model X.prog X.w) X.A (compareOp .NotEq (.ref a) (.ref b)) (EP X pins σ Q) X.xe s:=fun {k} e' r=>
    r X.prog X.w X.xe (EP X pins σ Q) (by rw[e'];exact⟨.bl _,H,I,rfl,q⟩)
   cases n with
   |zero=>exact(zo h1.2).elim
   |succ n=>
    cases m with
    |zero=>exact(zo h2.2).elim
    |succ m=>
     have hin:X.A.in1.units+n<cLine:=by show X.A.units+1+n<cLine;lia
     rcases h1 with⟨_,f⟩ | ⟨a',xs,ds,e1,rfl,sx,px⟩ | ⟨a',xs,ds,e1,rfl,sx,px⟩
     ·exact(zo f).elim
     ·cases e1;rcases h2 with⟨_,f⟩ | ⟨b',ys,es,e2,rfl,sy,py⟩ | ⟨b',ys,es,e2,rfl,sy,py⟩
      ·exact(zo f).elim
      ·cases e2;exact js rfl (xY I (by lia) sx sy px py fun h1 h2 r1 r2=>lQ I n hin h1 h2 r1 r2)
      ·cases e2;obtain⟨us,vx,tx,_⟩:=I.tuple sx;obtain⟨vs,vy,ty,_⟩:=I.list sy;exact js rfl (.tuple_list tx (zg ty) (by lia))
     ·cases e1;rcases h2 with⟨_,f⟩ | ⟨b',ys,es,e2,rfl,sy,py⟩ | ⟨b',ys,es,e2,rfl,sy,py⟩
      ·exact(zo f).elim
      ·cases e2;obtain⟨us,vx,tx,_⟩:=I.list sx;obtain⟨vs,vy,ty,_⟩:=I.tuple sy;exact js rfl (.list_tuple (zg tx) ty (by lia))
      ·cases e2;exact js rfl (aby I (by lia) sx sy px py fun h1 h2 r1 r2=>lQ I n hin h1 h2 r1 r2)
  |_=>exact aff pins s σ H _ _ v u Q I rx ry h
 |_=>cases y<;>exact aff pins s σ H _ _ v u Q I rx ry h
end
theorem abu:bootBuiltins "max" = some (.builtin "max"):=by decide +kernel
theorem adf:bootBuiltins "bool" = some (.type "bool"):=by decide +kernel
end L2
namespace Words
open PySem L2
def Wd.size:Wd->Nat
 |.leaf _ _=>1
 |.node _ l r=>1+l.size+r.size
theorem Wd.size_eq:∀w:Wd,w.size+1=2*w.leaves
 |.leaf _ _=>rfl
 |.node _ l r=>by have:=Wd.size_eq l;have:=Wd.size_eq r;show 1+l.size+r.size+1=2*(l.leaves+r.leaves);lia
end Words
namespace L2
open PySem PySem.Spec PyProof.Rows
section
variable {a:Addr}{tr:Option Addr}
end
section
variable {a b T:Addr}{tr:Option Addr}{E1:X1}
end
section
variable {k:Nat}{E1:X1}{t:TA}
end
section
variable {a T:Addr}{tr:Option Addr} 
end
section
variable {a T:Addr}
end
open PySem PySem.Spec PyProof.Rows PySem.W
open Builtin.ObjectAttr in
section
variable {w:World}{K:Frag}{a:Addr}
open Builtin Builtin.ObjectAttr Builtin.Getset_descriptor in
end
def akr(K:Ah)(H:Hp)(a C:Addr):Prop:=∃oe,H a=some (.frz oe (.own 0))/\oe.cls=.ref C
def oo(H:Hp)(P:Addr)(q:Str):Prop:=∃ps,H P=some (.tbl ps)/\TriplesOk ps.toList/\∀pos cv,codeAmong pos ps.toList=some cv->∃c' oc vs t,cv=.ref c'/\H c'=some (.frz oc (.own 0))/\oc.data=.fields vs/\vs[1]?=some (.str q t)
theorem oo.keep{P:Addr}(h:oo H P q)(e:H' P=H P)(t:∀b o u,H b=some (.frz o u)->H' b=some (.frz o u)):oo H' P q:=by obtain⟨ps,h1,h2,h3⟩:=h;refine⟨ps,e.trans h1,h2,fun pos cv z=>?_⟩;obtain⟨c',oc,vs,tt,e1,e2,e3⟩:=h3 pos cv z;exact⟨c',oc,vs,tt,e1,t _ _ _ e2,e3⟩
end L2
namespace L3
open PySem L2
inductive Y where
 |non | bl (b:Bool) | int (i:Int) | str (x:Str) | ref (a:Addr) | ty (n:String) | cd (kvs:List (Str×Str)) | tup (ys:List Y) | sq (ys:List Y)
inductive LO where
 |lst (ys:List Y) | dct (kvs:List (zq×Y)) | ins (C:Addr) (fs:List (Str×Y)) | exc (C:Addr) | tb (q:Str)
abbrev ql:=Addr->Option LO
def qf(L:ql)(a:Addr)(o:LO):ql:=fun b=>if b=a then some o else L b
theorem q9{L:ql}{a:Addr}{o:LO}:qf L a o a=some o:=by unfold qf;rw[AA rfl]
theorem qa{L:ql}{a b:Addr}{o:LO}(h:b≠a):qf L a o b=L b:=by unfold qf;rw[Ay h]
theorem xr{L:ql}{a:Addr}{o u:LO}:qf (qf L a o) a u=qf L a u:=by funext b;unfold qf;split<;>rfl
theorem ke{L:ql}{a b:Addr}{o:LO}(h:L a=some o)(h':L b=none):a≠b:=by intro e;subst e;rw[h] at h';cases h'
structure G3 where
 K:Ah
 P:Program
 w:World
abbrev _root_.L2.Cx.g3(X:Cx):G3:=⟨X.K,X.prog,X.w⟩
def SqF(K:Ah)(H:Hp)(a:Addr)(xs:List V):Prop:=(∃o,H a=some (.frz o (.lst xs)))\/
 ∃(o:Obj) (its:Array Value) (n:Nat),K.lookup a=some o/\o.cls=.type "list" /\ o.dict=none/\o.data=.seq its n/\its.size≤sizeLine/\ze xs its.toList
theorem SqF.sq{K:Ah}{a:Addr}(h:SqF K H a xs):w4 K H a xs:=by
 rcases h with⟨o,h⟩ | h
 ·exact .inl (.inr ⟨o,h⟩)
 ·exact .inr h
mutual
def RV(G:G3)(H:Hp):Y->V->Prop
 |.non,v=>v=.non
 |.bl b,v=>v=.bl b
 |.int i,v=>v=.int i
 |.str x,v=>v=.str x
 |.ref a,v=>v=.ref a
 |.ty n,v=>v=.ty n
 |.cd kvs,v=>∃a,v=.ref a/\KD G.K G.P G.w a (kvs.map fun p=>(Sum.inr p.1,V.str p.2))
 |.tup ys,v=>∃a xs,v=.ref a/\cJ G.K H a xs/\x4 G H ys xs
 |.sq ys,v=>∃a xs,v=.ref a/\SqF G.K H a xs/\x4 G H ys xs
def x4(G:G3)(H:Hp):List Y->List V->Prop
 |[],xs=>xs=[]
 |y::ys,xs=>∃x xs',xs=x::xs'/\RV G H y x/\x4 G H ys xs'
end
def Imm:HO->Bool
 |.tup _=>true
 |.frz _ _=>true
 |_=>false
def j4(H H':Hp):Prop:=∀a u,Imm u=true->H a=some u->H' a=some u
theorem j4.refl(H:Hp):j4 H H:=fun _ _ _ h=>h
abbrev DW:=@j4.refl
theorem j4.trans{H1 H2:Hp}(a:j4 H H1)(b:j4 H1 H2):j4 H H2:=fun c u i h=>b c u i (a c u i h)
theorem j4.new{p:Addr}{o:HO}(h:H p=none):j4 H (upd H p o):=fun _ _ _ q=>by rw[qu (zp q h)];exact q
abbrev DY:=@j4.new
theorem j4.lst{p:Addr}{o:HO}(h:H p=some (.lst zs)):j4 H (upd H p o):=fun a u i q=>by rw[qu ?_];exact q;rintro rfl;rw[h] at q;cases q;cases i
abbrev EK:=@j4.lst
theorem cJ.ts{K:Ah}{a:Addr}(h:cJ K H a xs)(t:j4 H H'):cJ K H' a xs:=by
 rcases h with(h | ⟨o,h⟩) | h
 ·exact .inl (.inl (t _ _ rfl h))
 ·exact .inl (.inr ⟨o,t _ _ rfl h⟩)
 ·exact .inr h
theorem SqF.ts{K:Ah}{a:Addr}(h:SqF K H a xs)(t:j4 H H'):SqF K H' a xs:=by
 rcases h with⟨o,h⟩ | h
 ·exact .inl ⟨o,t _ _ rfl h⟩
 ·exact .inr h
mutual
theorem RV.ts{G:G3}{H H':Hp}(t:j4 H H'):∀{y:Y} {v:V},RV G H y v->RV G H' y v
 |.non,_,h=>h
 |.bl _,_,h=>h
 |.int _,_,h=>h
 |.str _,_,h=>h
 |.ref _,_,h=>h
 |.ty _,_,h=>h
 |.cd _,_,h=>h
 |.tup _,_,⟨a,xs,e,s,r⟩=>⟨a,xs,e,cJ.ts s t,x4.ts t r⟩
 |.sq _,_,⟨a,xs,e,s,r⟩=>⟨a,xs,e,s.ts t,x4.ts t r⟩
theorem x4.ts{G:G3}{H H':Hp}(t:j4 H H'):∀{ys:List Y} {xs:List V},x4 G H ys xs->x4 G H' ys xs
 |[],_,h=>h
 |_::_,_,⟨x,xs',e,r,s⟩=>⟨x,xs',e,RV.ts t r,x4.ts t s⟩
end
theorem x4.length{G:G3}{H:Hp}:∀{ys:List Y} {xs:List V},x4 G H ys xs->ys.length=xs.length
 |[],_,h=>by cases h;rfl
 |_::_,_,⟨x,xs',e,_,s⟩=>by subst e;simp[x4.length s]
theorem x4.get{G:G3}{H:Hp}:∀{ys:List Y} {xs:List V} {i:Nat} {y:Y},x4 G H ys xs->ys[i]?=some y->∃x,xs[i]?=some x/\RV G H y x
 |[],_,_,_,_,h=>by simp at h
 |_::_,_,0,_,⟨x,xs',e,r,_⟩,h=>by subst e;simp at h;subst h;exact⟨x,rfl,r⟩
 |_::_,_,i+1,_,⟨x,xs',e,_,s⟩,h=>by subst e;obtain⟨x',q,r⟩:=x4.get (i:=i) s (by simpa using h);exact⟨x',by simpa using q,r⟩
theorem x4.app{G:G3}{H:Hp}:∀{ys zs:List Y} {xs us:List V},x4 G H ys xs->x4 G H zs us->x4 G H (ys++zs) (xs++us)
 |[],_,_,_,h,q=>by cases h;exact q
 |_::_,_,_,_,⟨x,xs',e,r,s⟩,q=>by subst e;exact⟨x,xs'++_,rfl,r,x4.app s q⟩
theorem x4.one{G:G3}{y:Y}{x:V}(r:RV G H y x):x4 G H [y] [x]:=⟨x,[],rfl,r,rfl⟩
theorem x4.take{G:G3}{H:Hp}:∀{ys:List Y} {xs:List V} (n:Nat),x4 G H ys xs->x4 G H (ys.take n) (xs.take n)
 |[],_,n,h=>by cases h;simp[x4]
 |_::_,_,0,_=>by simp[x4]
 |_::_,_,n+1,⟨x,xs',e,r,s⟩=>by subst e;exact⟨x,xs'.take n,rfl,r,x4.take n s⟩
theorem x4.drop{G:G3}{H:Hp}:∀{ys:List Y} {xs:List V} (n:Nat),x4 G H ys xs->x4 G H (ys.drop n) (xs.drop n)
 |[],_,n,h=>by cases h;simp[x4]
 |_::_,_,0,h=>h
 |_::_,_,n+1,⟨x,xs',e,r,s⟩=>by subst e;exact x4.drop n s
theorem x4.setY{G:G3}{H:Hp}{y:Y}{x:V}(r:RV G H y x):∀{ys:List Y} {xs:List V} (i:Nat),x4 G H ys xs->x4 G H (ys.set i y) (xs.set i x)
 |[],_,_,h=>by cases h;simp[x4]
 |_::_,_,0,⟨x',xs',e,_,s⟩=>by subst e;exact⟨x,xs',rfl,r,s⟩
 |_::_,_,i+1,⟨x',xs',e,q,s⟩=>by subst e;exact⟨x',xs'.set i x,rfl,q,x4.setY r i s⟩
theorem x4.dropLast{G:G3}{ys:List Y}(h:x4 G H ys xs):x4 G H ys.dropLast xs.dropLast:=by rw[List.dropLast_eq_take,List.dropLast_eq_take,h.length];exact h.take _
theorem x4.eraseIdx{G:G3}{H:Hp}:∀{ys:List Y} {xs:List V} (n:Nat),x4 G H ys xs->x4 G H (ys.eraseIdx n) (xs.eraseIdx n)
 |[],_,n,h=>by cases h;simp[x4]
 |_::_,_,0,⟨x,xs',e,r,s⟩=>by subst e;exact s
 |_::_,_,n+1,⟨x,xs',e,r,s⟩=>by subst e;exact⟨x,xs'.eraseIdx n,rfl,r,x4.eraseIdx n s⟩
def RO(G:G3)(H:Hp)(a:Addr):LO->Prop
 |.lst ys=>∃xs,H a=some (.lst xs)/\x4 G H ys xs
 |.dct kvs=>∃xs,H a=some (.dK xs)/\Paired (fun(p:zq×Y) (q:zq×V)=>p.1=q.1/\RV G H p.2 q.2) kvs xs
 |.ins C fs=>∃dx xs,H a=some (.ins C dx xs)/\Paired (fun(p:Str×Y) (q:Str×V)=>p.1=q.1/\RV G H p.2 q.2) fs xs
 |.exc C=>akr G.K H a C
 |.tb q=>oo H a q
def jg(G:G3)(H:Hp)(L:ql):Prop:=∀a o,L a=some o->RO G H a o
theorem RO.ex{G:G3}{a:Addr}:∀{o:LO},RO G H a o->∃u,H a=some u
 |.lst _,⟨_,h,_⟩=>⟨_,h⟩
 |.dct _,⟨_,h,_⟩=>⟨_,h⟩
 |.ins _ _,⟨_,_,h,_⟩=>⟨_,h⟩
 |.exc _,⟨_,h,_⟩=>⟨_,h⟩
 |.tb _,⟨_,h,_⟩=>⟨_,h⟩
theorem jg.none{G:G3}{L:ql}(h:jg G H L){p:Addr}(hp:H p=none):L p=none:=by cases e:L p with|none=>rfl|some o=>obtain⟨u,q⟩:=(h p o e).ex;rw[hp] at q;cases q
theorem RO.keep{G:G3}(t:j4 H H'){a:Addr}(e:H' a=H a):∀{o:LO},RO G H a o->RO G H' a o
 |.lst _,⟨xs,h,r⟩=>⟨xs,e.trans h,r.ts t⟩
 |.dct _,⟨xs,h,r⟩=>⟨xs,e.trans h,EE r fun _ _ ⟨a,b⟩=>⟨a,b.ts t⟩⟩
 |.ins _ _,⟨dx,xs,h,r⟩=>⟨dx,xs,e.trans h,EE r fun _ _ ⟨a,b⟩=>⟨a,b.ts t⟩⟩
 |.exc _,⟨o,h,c⟩=>⟨o,e.trans h,c⟩
 |.tb _,h=>oo.keep h e fun b o u z=>t b _ rfl z
theorem jg.skip{G:G3}{L:ql}(h:jg G H L){p:Addr}{o:HO}(hp:H p=.none):jg G (upd H p o) L:=fun a u e=>by obtain⟨x,q⟩:=(h a u e).ex;exact(h a u e).keep (DY hp) (qu (zp q hp))
theorem jg.newL{G:G3}{L:ql}(h:jg G H L){p:Addr}{ys:List Y}(hp:H p=.none)(r:x4 G H ys xs):jg G (upd H p (.lst xs)) (qf L p (.lst ys)):=fun a u e=>by
 by_cases c:a=p
 ·subst c;rw[q9] at e;cases e;exact⟨xs,zv,r.ts (DY hp)⟩
 ·rw[qa c] at e;exact(h a u e).keep (DY hp) (qu c)
theorem jg.setL{G:G3}{L:ql}(h:jg G H L){p:Addr}{ys:List Y}(hp:H p=some (.lst zs))(r:x4 G H ys xs):jg G (upd H p (.lst xs)) (qf L p (.lst ys)):=fun a u e=>by
 by_cases c:a=p
 ·subst c;rw[q9] at e;cases e;exact⟨xs,zv,r.ts (EK hp)⟩
 ·rw[qa c] at e;exact(h a u e).keep (EK hp) (qu c)
def qi(L L':ql):Prop:=∀a o,L a=some o->L' a=some o
theorem qi.refl(L:ql):qi L L:=fun _ _ h=>h
abbrev DX:=@qi.refl
theorem qi.trans{L L1 L2:ql}(a:qi L L1)(b:qi L1 L2):qi L L2:=fun c o h=>b c o (a c o h)
theorem qi.new{L:ql}{p:Addr}{o:LO}(h:L p=none):qi L (qf L p o):=fun a u e=>by rw[qa (ke e h)];exact e
abbrev By:=@qi.new
theorem jg.sub{G:G3}{L L':ql}(h:jg G H L')(s:qi L L'):jg G H L:=fun a o e=>h a o (s a o e)
abbrev jk:=List (Option Y)
structure kc(G:G3)(H:Hp)(σ:St)(τ:jk):Prop where
 len:σ.length=τ.length
 get:∀(i:Nat) y,τ[i]?=some (some y)->∃v,σ[i]?=some (some v)/\RV G H y v
theorem kc.ts{G:G3}{τ:jk}(h:kc G H σ τ)(t:j4 H H'):kc G H' σ τ:=
 ⟨h.len,fun i y e=>let ⟨v,a,b⟩:=h.get i y e;⟨v,a,b.ts t⟩⟩
theorem kc.set{G:G3}{τ:jk}(h:kc G H σ τ){y:Y}(r:RV G H y v):kc G H (σ.set i (some v)) (τ.set i (some y)):=by
 refine⟨by simp[h.len],fun j z e=>?_⟩;by_cases c:i=j
 ·subst c;have hi:i<τ.length:=by
   by_cases q:i<τ.length
   ·exact q
   ·rw[BK (by simp;omega)] at e;cases e
  rw[BQ hi] at e;cases e;exact⟨v,BQ (by rw[h.len];exact hi),r⟩
 ·rw[Bl c] at e ⊢;exact h.get j z e
theorem kc.more{G:G3}{τ:jk}(h:kc G H σ τ)(n:Nat):kc G H (σ++List.replicate n none) (τ++List.replicate n none):=by
 refine⟨by simp[h.len],fun j z e=>?_⟩;by_cases c:j<τ.length
 ·rw[AE c] at e;rw[AE (by rw[h.len];exact c)];exact h.get j z e
 ·rw[Ar (by omega),Cc] at e;split at e<;>cases e
def wS:jk->Nat->Option Y
 |[],_=>none
 |o::_,0=>o
 |_::r,i+1=>wS r i
theorem nN:∀(τ:jk) (i:Nat) {y:Y},wS τ i=some y->τ[i]?=some (some y)
 |[],_,_,h=>by cases h
 |o::_,0,_,h=>by simp[wS] at h;simp[h]
 |_::r,i+1,_,h=>by simp only[CN];exact nN r i h
abbrev YK:=Y->ql->Prop
abbrev x5:=jk->ql->YK->Prop
abbrev iY:=jk->ql->(Bool->ql->Prop)->Prop
abbrev eU:=jk->ql->(List Y->ql->Prop)->Prop
structure v9 where
 nx:jk->ql->Prop
 rt:YK
 bk:jk->ql->Prop:=fun _ _=>False
 ct:jk->ql->Prop:=fun _ _=>False
abbrev kg:=v9->jk->ql->Prop
abbrev i4:=Y->jk->ql->(jk->ql->Prop)->Prop
abbrev pW:=List Y->jk->ql->(jk->ql->Prop)->Prop
abbrev TI3:=jk->ql->(List Y->(ql->Prop)->ql->Prop)->Prop
abbrev mV:=Y->Y->ql->YK->Prop
def yN(G:G3)(H:Hp)(Q3:YK)(Q:VK):Prop:=∀v H' y L',j4 H H'->jg G H' L'->RV G H' y v->Q3 y L'->Q v H'
def ad9(G:G3)(H:Hp)(Q3:Bool->ql->Prop)(Q:Bool->Hp->Prop):Prop:=∀b H' L',j4 H H'->jg G H' L'->Q3 b L'->Q b H'
def anz(G:G3)(H:Hp)(Q3:List Y->ql->Prop)(Q:List V->Hp->Prop):Prop:=∀vs H' ys L',j4 H H'->jg G H' L'->x4 G H' ys vs->Q3 ys L'->Q vs H'
def l7(G:G3)(H:Hp)(Q3:jk->ql->Prop)(Q:St->Hp->Prop):Prop:=∀σ H' τ L',j4 H H'->kc G H' σ τ->jg G H' L'->Q3 τ L'->Q σ H'
theorem yN.ts{G:G3}{Q3:YK}{Q:VK}(h:yN G H Q3 Q)(t:j4 H H'):yN G H' Q3 Q:=fun v H2 y L' t2=>h v H2 y L' (t.trans t2)
theorem ad9.ts{G:G3}{Q3:Bool->ql->Prop}{Q:Bool->Hp->Prop}(h:ad9 G H Q3 Q)(t:j4 H H'):ad9 G H' Q3 Q:=fun v H2 L' t2=>h v H2 L' (t.trans t2)
theorem l7.ts{G:G3}{Q3:jk->ql->Prop}{Q:St->Hp->Prop}(h:l7 G H Q3 Q)(t:j4 H H'):l7 G H' Q3 Q:=fun v H2 y L' t2=>h v H2 y L' (t.trans t2)
structure aeu(G:G3)(H:Hp)(D3:v9)(D:tG):Prop where
 nx:l7 G H D3.nx D.nx
 rt:yN G H D3.rt D.rt
 bk:l7 G H D3.bk D.bk
 ct:l7 G H D3.ct D.ct
theorem aeu.ts{G:G3}{D3:v9}{D:tG}(h:aeu G H D3 D)(t:j4 H H'):aeu G H' D3 D:=⟨h.nx.ts t,h.rt.ts t,h.bk.ts t,h.ct.ts t⟩
def ou(G:G3)(t:x5):TE:=fun σ H Q=>∃τ L Q3,kc G H σ τ/\jg G H L/\t τ L Q3/\yN G H Q3 Q
def upT(G:G3)(t:iY):TT:=fun σ H Q=>∃τ L Q3,kc G H σ τ/\jg G H L/\t τ L Q3/\ad9 G H Q3 Q
def upA(G:G3)(t:eU):TA:=fun σ H Q=>∃τ L Q3,kc G H σ τ/\jg G H L/\t τ L Q3/\anz G H Q3 Q
def upS(G:G3)(t:kg):L2.TS:=fun D σ H=>∃τ L D3,kc G H σ τ/\jg G H L/\t D3 τ L/\aeu G H D3 D
def upG(G:G3)(g:i4):TG:=fun v σ H Q=>∃y τ L Q3,RV G H y v/\kc G H σ τ/\jg G H L/\g y τ L Q3/\l7 G H Q3 Q
def aol(G:G3)(g:pW):TGs:=fun vs σ H Q=>∃ys τ L Q3,x4 G H ys vs/\kc G H σ τ/\jg G H L/\g ys τ L Q3/\l7 G H Q3 Q
structure gc(G:G3)(H₀:Hp)(J:It)(ys:List Y)(keep:ql->Prop):Prop where
 go:∀i H L,j4 H₀ H->jg G H L->keep L->i<ys.length->J.go i H
 yld:∀i H L x H' y,j4 H₀ H->jg G H L->keep L->ys[i]?=some y->J.yld i H x H'->j4 H H'/\jg G H' L/\RV G H' y x
 stop:∀H L,j4 H₀ H->jg G H L->keep L->J.stop ys.length H
def upI(G:G3)(wi:TI3):TI:=fun σ H R=>∃τ L R3,kc G H σ τ/\jg G H L/\wi τ L R3/\∀J H' ys keep L',j4 H H'->jg G H' L'->gc G H' J ys keep->R3 ys keep L'->R J H'
def dZ(G:G3)(r3:mV):R2:=fun x y H Q=>∃x3 y3 L Q3,RV G H x3 x/\RV G H y3 y/\jg G H L/\r3 x3 y3 L Q3/\yN G H Q3 Q
def yW(G:G3)(r3:List Y->ql->YK->Prop):List V->Hp->VK->Prop:=fun xs H Q=>∃ys L Q3,x4 G H ys xs/\jg G H L/\r3 ys L Q3/\yN G H Q3 Q
theorem PE.imp{t u:TE}(h:PE X e t)(q:∀σ H Q,u σ H Q->t σ H Q):PE X e u:=fun pins s σ H Q I z=>h pins s σ H Q I (q σ H Q z)
abbrev DZ:=@PE.imp
theorem PT.imp{t u:TT}(h:PT X e t)(q:∀σ H Q,u σ H Q->t σ H Q):PT X e u:=fun pins s σ H Q I z=>h pins s σ H Q I (q σ H Q z)
theorem PW.imp{t u:TT}(h:PW X e t)(q:∀σ H Q,u σ H Q->t σ H Q):PW X e u:=fun wh pins s σ H Q I z=>h wh pins s σ H Q I (q σ H Q z)
theorem PA.imp{e:List Expr}{t u:TA}(h:PA X e t)(q:∀σ H Q,u σ H Q->t σ H Q):PA X e u:=fun pos pins s σ H Q I z=>h pos pins s σ H Q I (q σ H Q z)
theorem PS.imp{e:Stmt}{t u:L2.TS}(h:PS X e t)(q:∀D σ H,u D σ H->t D σ H):PS X e u:=fun pins s σ H Q I z=>h pins s σ H Q I (q _ σ H z)
abbrev EG:=@PS.imp
theorem mD.imp{e:List Stmt}{t u:L2.TS}(h:mD X e t)(q:∀D σ H,u D σ H->t D σ H):mD X e u:=fun pins s σ H Q I z=>h pins s σ H Q I (q _ σ H z)
theorem PF.imp{e:List Expr}{t u:TT}(h:PF X e t)(q:∀σ H Q,u σ H Q->t σ H Q):PF X e u:=fun pins s σ H Q I z=>h pins s σ H Q I (q σ H Q z)
end L3
variable {g:L3.i4}{y:L3.Y}{D:L3.v9}{tA tc:L3.iY}{tb te ti to:L3.x5}{kvs:List (L2.zq×L3.Y)}{ys:List L3.Y}{L L' L0 L1:L3.ql}{G:L3.G3}{τ:L3.jk}{gs:L3.pW}{tr:L3.eU}
namespace L3
open PySem L2
def ko(b:Bool)(A B:Prop):Prop:=match b with
 |true=>A
 |false=>B
theorem acq{b:Bool}{A B:Prop}(h:b=true->A)(k:b=false->B):ko b A B:=by cases b with|true=>exact h rfl|false=>exact k rfl
theorem ak{b:Bool}{A B:Prop}(e:b=true)(h:A):ko b A B:=by rw[e];exact h
theorem al{b:Bool}{A B:Prop}(e:b=false)(h:B):ko b A B:=by rw[e];exact h
theorem xc{p:Prop} [Decidable p]{A B:Prop}(h:p->A)(k:¬p->B):ko (decide p) A B:=by
 by_cases c:p
 ·rw[AG c];exact h c
 ·rw[Az c];exact k c
def nb(neg b:Bool):Bool:=match neg with
 |true=>!b
 |false=>b
def qc(i:Nat)(τ:jk)(L:ql)(Q:YK):Prop:=match wS τ i with
 |some y=>Q y L
 |none=>False
def yC(y:Y)(_:jk)(L:ql)(Q:YK):Prop:=Q y L
def zj(r:mV)(ta tb:x5)(τ:jk)(L:ql)(Q:YK):Prop:=ta τ L fun x L1=>tb τ L1 fun y L2=>r x y L2 Q
def yI(C:Int->Int->Prop)(g:Int->Int->Y)(x y:Y)(L:ql)(Q:YK):Prop:=match x,y with
 |.int i,.int j=>C i j/\Q (g i j) L
 |_,_=>False
def yI0(g:Int->Int->Y)(x y:Y)(L:ql)(Q:YK):Prop:=match x,y with
 |.int i,.int j=>Q (g i j) L
 |_,_=>False
def ay(L:ql):Y->Option (List Y)
 |.tup ys=>some ys
 |.sq ys=>some ys
 |.ref a=>match L a with
  |some (.lst ys)=>some ys
  |_=>none
 |_=>none
@[irreducible] def bP (L:ql) (a:Addr) (k:List Y->Prop):Prop:=match L a with
 |some (.lst ys)=>k ys
 |_=>False
theorem jy{a:Addr}{k:List Y->Prop}(h:bP L a k):∃ys,L a=some (.lst ys)/\k ys:=by
 unfold bP at h;split at h
 ·rename_i ys e;exact⟨ys,e,h⟩
 ·exact h.elim
theorem qy{a:Addr}{k:List Y->Prop}(e:L a=some (.lst ys))(h:k ys):bP L a k:=by unfold bP;rw[e];exact h
def dX(L:ql)(x:Y)(k:List Y->Prop):Prop:=match x with
 |.tup ys=>k ys
 |.sq ys=>k ys
 |.ref a=>bP L a k
 |_=>False
theorem wm{a:Addr}(h:L a=some (.lst ys)):ay L (.ref a)=some ys:=by show(match L a with | some (.lst ys)=>some ys | _=>none)=some ys;rw[h]
theorem v5{x:Y}{k:List Y->Prop}(h:dX L x k):∃ys,ay L x=some ys/\k ys:=by
 cases x with
 |tup ys=>exact⟨ys,rfl,h⟩
 |sq ys=>exact⟨ys,rfl,h⟩
 |ref a=>obtain⟨ys,e,q⟩:=jy h;exact⟨ys,wm e,q⟩
 |_=>exact h.elim
theorem gA{a:Addr}(h:ay L (.ref a)=some ys):L a=some (.lst ys):=by
 have h':(match L a with | some (.lst ys)=>some ys | _=>none)=some ys:=h;split at h'
 ·rename_i e;cases h';exact e
 ·cases h'
theorem aef{x:Y}{k:List Y->Prop}(e:ay L x=some ys)(h:k ys):dX L x k:=by cases x with|tup zs=>cases e;exact h|sq zs=>cases e;exact h|ref a=>exact qy (gA e) h|_=>cases e
theorem qd{a:Addr}{k:List Y->Prop}(e:L a=some (.lst ys))(h:k ys):dX L (.ref a) k:=aef (wm e) h
def w5(x y:Y)(L:ql)(Q:YK):Prop:=match x,y with
 |.int i,.int j=>Q (.int (i+j)) L
 |.str a,.str b=>a.length+b.length≤sizeLine/\Q (.str (a++b)) L
 |.ref a,.ref b=>∃ys zs,L a=some (.lst ys)/\L b=some (.lst zs)/\ys.length+zs.length≤sizeLine/\∀p,L p=none->Q (.ref p) (qf L p (.lst (ys++zs)))
 |_,_=>False
def sd(L:ql)(Q:α->ql->Prop):Option α->Prop
 |some v=>Q v L
 |none=>False
def v3(kvs:List (zq×Y))(k:zq):Option Y:=(kvs.find? fun p=>decide (p.1=k)).map (·.2)
@[irreducible] def l8 (L:ql) (a:Addr) (k:List (zq×Y)->Prop):Prop:=match L a with
 |some (.dct kvs)=>k kvs
 |_=>False
theorem cz{a:Addr}{k:List (zq×Y)->Prop}(h:l8 L a k):∃kvs,L a=some (.dct kvs)/\k kvs:=by
 unfold l8 at h;split at h
 ·rename_i ys e;exact⟨ys,e,h⟩
 ·exact h.elim
theorem jl{a:Addr}{k:List (zq×Y)->Prop}(e:L a=some (.dct kvs))(h:k kvs):l8 L a k:=by unfold l8;rw[e];exact h
def cH(x y:Y)(L:ql)(Q:YK):Prop:=match x,y with
 |.str z,.int i=>z.length≤sizeLine/\sd L (fun c L=>Q (.str ⟨#[c]⟩) L) (fv z.cps.toList i)
 |.cd kvs,.str k=>sd L (fun s L=>Q (.str s) L) (kvs.lookup k)
 |.ref a,.str k=>l8 L a fun kvs=>sd L Q (v3 kvs (.inr k))
 |x,.int i=>dX L x fun ys=>sd L Q (fv ys i)
 |_,_=>False
def l9(xs:List Y)(L:ql)(Q:YK):Prop:=match xs with
 |[.str z]=>z.length≤sizeLine/\Q (.int z.length) L
 |[x]=>dX L x fun ys=>Q (.int ys.length) L
 |_=>False
def ad7(xs:List Y)(L:ql)(Q:YK):Prop:=match xs with
 |[.int i,.int j]=>Q (.int (max i j)) L
 |_=>False
def ahm(xs:List Y)(L:ql)(Q:YK):Prop:=match xs with
 |[.int i,.int j]=>Q (.int (min i j)) L
 |_=>False
inductive oy where
 |non | bool | int | str | tuple | list | dict
def oy.nm:oy->String
 |.non => "NoneType"
 |.bool => "bool"
 |.int => "int"
 |.str => "str"
 |.tuple => "tuple"
 |.list => "list"
 |.dict => "dict"
def tyY(L:ql):Y->Option oy
 |.non=>some .non
 |.bl _=>some .bool
 |.int _=>some .int
 |.str _=>some .str
 |.tup _=>some .tuple
 |.sq _=>some .list
 |.ref a=>match L a with
  |some (.lst _)=>some .list
  |some (.dct _)=>some .dict
  |_=>none
 |_=>none
theorem tyL{a:Addr}(h:L a=some (.lst ys)):tyY L (.ref a)=some .list:=by show(match L a with | some (.lst _)=>some oy.list | some (.dct _)=>some .dict | _=>none)=some .list;rw[h]
def abr:oy->oy->Bool
 |.bool,.int=>true
 |.bool,.bool=>true
 |.int,.int=>true
 |.str,.str=>true
 |.tuple,.tuple=>true
 |.list,.list=>true
 |.dict,.dict=>true
 |.non,.non=>true
 |_,_=>false
@[irreducible] def tyK (L:ql) (a:Addr) (k:oy->Prop):Prop:=match tyY L (.ref a) with
 |some T=>k T
 |none=>False
theorem aem{a:Addr}{k:oy->Prop}(h:tyK L a k):∃T,tyY L (.ref a)=some T/\k T:=by
 unfold tyK at h;split at h
 ·rename_i T e;exact⟨T,e,h⟩
 ·exact h.elim
theorem acy{a:Addr}{k:oy->Prop}(e:L a=some (.lst ys))(h:k .list):tyK L a k:=by unfold tyK;rw[tyL e];exact h
def ajs(L:ql)(x:Y)(k:oy->Prop):Prop:=match x with
 |.non=>k .non
 |.bl _=>k .bool
 |.int _=>k .int
 |.str _=>k .str
 |.tup _=>k .tuple
 |.sq _=>k .list
 |.ref a=>tyK L a k
 |_=>False
theorem aak{x:Y}{k:oy->Prop}(h:ajs L x k):∃T,tyY L x=some T/\k T:=by cases x with|ref a=>exact aem h|ty n=>exact h.elim|cd k=>exact h.elim|_=>exact⟨_,rfl,h⟩
def mL(S:oy)(te:x5)(τ:jk)(L:ql)(Q:YK):Prop:=te τ L fun x L1=>ajs L1 x fun T=>Q (.bl (abr T S)) L1
def gx:Y->Bool
 |.non=>true
 |.bl _=>true
 |.int _=>true
 |.str _=>true
 |_=>false
def eI:Y->V
 |.non=>.non
 |.bl b=>.bl b
 |.int i=>.int i
 |.str x=>.str x
 |_=>.ty "?"
theorem RV.flat :∀{y:Y} {v:V},gx y=true->RV G H y v->v=eI y
 |.non,_,_,h=>h
 |.bl _,_,_,h=>h
 |.int _,_,_,h=>h
 |.str _,_,_,h=>h
theorem fZ:∀{y:Y},gx y=true->aE (eI y)=true
 |.non,_=>rfl
 |.bl _,_=>rfl
 |.int _,_=>rfl
 |.str _,_=>rfl
theorem x4.flat :∀{ys:List Y} {xs:List V},ys.all gx=true->x4 G H ys xs->xs=ys.map eI
 |[],_,_,h=>h
 |y::ys,_,f,⟨x,xs',e,r,s⟩=>by rw[Dz,A8] at f;rw[e,r.flat f.1,s.flat f.2];rfl
def mX:Y->Bool
 |.ref _=>true
 |.sq _=>true
 |_=>false
def jf(L:ql):Nat->Y->Da->Prop
 |0,y,d=>gx y=true/\d=.s (eI y)
 |n+1,y,d=>(gx y=true/\d=.s (eI y))\/(∃ys ds,y=.tup ys/\d=.tup ds/\Paired (jf L n) ys ds)\/(∃ys ds,mX y=true/\d=.lst ds/\ay L y=some ys/\Paired (jf L n) ys ds)
def wK:Y->Bool
 |.ref _=>true
 |.tup _=>true
 |.sq _=>true
 |_=>false
def pN(neg:Bool)(x y:Y)(L:ql)(Q:YK):Prop:=match x,y with
 |.int i,.int j=>Q (.bl (nb neg (decide (i=j)))) L
 |.str i,.str j=>Q (.bl (nb neg (decide (i=j)))) L
 |.bl i,.bl j=>Q (.bl (nb neg (decide (i=j)))) L
 |x,y=>wK x=true/\wK y=true/\∃n m d e,n≤128/\jf L n x d/\jf L m y e/\Q (.bl (nb neg (Da.eq d e))) L
def da(neg:Bool)(ta:x5)(τ:jk)(L:ql)(Q:YK):Prop:=ta τ L fun x L1=>match x with
 |.non=>Q (.bl (!neg)) L1
 |_=>Q (.bl neg) L1
def yB(t:x5)(τ:jk)(L:ql)(Q:Bool->ql->Prop):Prop:=t τ L fun x L1=>match x with
 |.bl c=>Q c L1
 |_=>False
def rJ(t u:iY)(τ:jk)(L:ql)(Q:Bool->ql->Prop):Prop:=t τ L fun c L1=>ko c (u τ L1 Q) (Q false L1)
def yOr(t u:iY)(τ:jk)(L:ql)(Q:Bool->ql->Prop):Prop:=t τ L fun c L1=>ko c (Q true L1) (u τ L1 Q)
def uD(t:iY)(τ:jk)(L:ql)(Q:Bool->ql->Prop):Prop:=t τ L fun c L1=>Q (!c) L1
def cZ(ta tb:x5)(τ:jk)(L:ql)(Q:YK):Prop:=ta τ L fun x L1=>match x with
 |.bl c=>ko c (tb τ L1 Q) (Q (.bl false) L1)
 |_=>False
def yIf(t:iY)(ta tb:x5)(τ:jk)(L:ql)(Q:YK):Prop:=t τ L fun c L1=>ko c (ta τ L1 Q) (tb τ L1 Q)
def z9(_:jk)(L:ql)(Q:List Y->ql->Prop):Prop:=Q [] L
def qe(ta:x5)(tr:eU)(τ:jk)(L:ql)(Q:List Y->ql->Prop):Prop:=ta τ L fun x L1=>tr τ L1 fun xs L2=>Q (x::xs) L2
def kn(t:eU)(τ:jk)(L:ql)(Q:YK):Prop:=t τ L fun ys L1=>match Nat.ble ys.length 1000 with
 |true=>Q (.tup ys) L1
 |false=>False
def xw(t:eU)(τ:jk)(L:ql)(Q:YK):Prop:=t τ L fun ys L1=>match Nat.ble ys.length 1000 with
 |true=>∀p,L1 p=none->Q (.ref p) (qf L1 p (.lst ys))
 |false=>False
def iO(r:List Y->ql->YK->Prop)(t:eU)(τ:jk)(L:ql)(Q:YK):Prop:=t τ L fun vs L1=>r vs L1 Q
abbrev TO3:=jk->ql->(Option Int->ql->Prop)->Prop
def ai(_:jk)(L:ql)(Q:Option Int->ql->Prop):Prop:=Q none L
def cL(t:x5)(τ:jk)(L:ql)(Q:Option Int->ql->Prop):Prop:=t τ L fun x L1=>match x with
 |.int i=>Q (some i) L1
 |_=>False
def ld(xs:List Y)(lo hi:Option Int):List Y:=(xs.drop (HT.sIx xs.length 0 lo)).take (HT.sIx xs.length xs.length hi - HT.sIx xs.length 0 lo)
def al1(x:Y)(lo hi:Option Int)(L:ql)(Q:YK):Prop:=match x with
 |.ref a=>bP L a fun ys=>∀p,L p=none->Q (.ref p) (qf L p (.lst (ld ys lo hi)))
 |.sq ys=>∀p,L p=none->Q (.ref p) (qf L p (.lst (ld ys lo hi)))
 |_=>False
def ySl(r:Y->Option Int->Option Int->ql->YK->Prop)(te:x5)(tl th:TO3)(τ:jk)(L:ql)(Q:YK):Prop:=te τ L fun x L1=>tl τ L1 fun l L2=>th τ L2 fun u L3=>r x l u L3 Q
def qw(t u:kg)(D:v9)(τ:jk)(L:ql):Prop:=t { D with nx:=u D } τ L
def jw(D:v9)(τ:jk)(L:ql):Prop:=D.nx τ L
def afq(D:v9)(τ:jk)(L:ql):Prop:=D.ct τ L
def jb(te:x5)(D:v9)(τ:jk)(L:ql):Prop:=te τ L fun _ L1=>D.nx τ L1
def jc(te:x5)(D:v9)(τ:jk)(L:ql):Prop:=te τ L D.rt
def aav(D:v9)(_:jk)(L:ql):Prop:=D.rt .non L
def v0(c:iY)(t u:kg)(D:v9)(τ:jk)(L:ql):Prop:=c τ L fun b L1=>ko b (t D τ L1) (u D τ L1)
def zw(te:x5)(g:i4)(D:v9)(τ:jk)(L:ql):Prop:=te τ L fun x L1=>g x τ L1 D.nx
def df:jk->Nat->Y->jk
 |[],_,_=>[]
 |_::r,0,y=>some y::r
 |o::r,i+1,y=>o::df r i y
theorem aM:∀(τ:jk) (i:Nat) (y:Y),df τ i y=τ.set i (some y)
 |[],_,_=>rfl
 |_::_,0,_=>rfl
 |o::r,i+1,y=>by rw[df,aM r i y];rfl
def qh(i:Nat)(y:Y)(τ:jk)(L:ql)(Q:jk->ql->Prop):Prop:=Q (df τ i y) L
def ae(ys:List Y)(τ:jk)(L:ql)(Q:jk->ql->Prop):Prop:=match ys with
 |[]=>Q τ L
 |_=>False
def jd(t:i4)(u:pW)(ys:List Y)(τ:jk)(L:ql)(Q:jk->ql->Prop):Prop:=match ys with
 |[]=>False
 |y::r=>t y τ L fun τ' L'=>u r τ' L' Q
def cO(n:Nat)(t:pW)(y:Y)(τ:jk)(L:ql)(Q:jk->ql->Prop):Prop:=match y with
 |.tup ys=>match ys.length==n with
  |true=>t ys τ L Q
  |false=>False
 |_=>False
def aj8(i j:Nat)(ta:eU)(D:v9)(τ:jk)(L:ql):Prop:=ta τ L fun vs L1=>match vs with
 |[v,w]=>D.nx (df (df τ i v) j w) L1
 |_=>False
def cR(W:α->ql->Prop)(x:α)(L:ql):Prop:=∃L',qi L' L/\W x L'
theorem frg{W:α->ql->Prop}{x:α}(h:W x L):cR W x L:=⟨L,DX L,h⟩
def lK(c:iY)(tb:kg)(D:v9)(τ:jk)(L:ql):Prop:=∃W:Nat->jk->ql->Prop,(∃m,W m τ L)/\∀m τ L,W m τ L->
 c τ L fun b L1=>ko b (∃N:jk->ql->Prop,(∀τ' L',N τ' L'->∃m',m'<m/\W m' τ' L')/\tb { D with nx:=cR N,ct:=cR N,bk:=D.nx } τ L1) (D.nx τ L1)
@[irreducible] def rM (ys:List Y) (keep:ql->Prop) (g:i4) (tb:kg) (D:v9) (τ:jk) (L1:ql):Prop:=∃W:Nat->jk->ql->Prop,W 0 τ L1/\(∀i τ L,W i τ L->keep L)/\
 (∀i y τ L,ys[i]?=some y->W i τ L->g y τ L fun τ2 L2=>tb { D with nx:=cR (W (i+1)),ct:=cR (W (i+1)),bk:=D.nx } τ2 L2)/\∀τ L,W ys.length τ L->D.nx τ L
theorem kj{keep:ql->Prop}{tb:kg}(h:∃W:Nat->jk->ql->Prop,W 0 τ L1/\(∀i τ L,W i τ L->keep L)/\
 (∀i y τ L,ys[i]?=some y->W i τ L->g y τ L fun τ2 L2=>tb { D with nx:=cR (W (i+1)),ct:=cR (W (i+1)),bk:=D.nx } τ2 L2)/\∀τ L,W ys.length τ L->D.nx τ L):rM ys keep g tb D τ L1:=by unfold rM;exact h
theorem aa1{keep:ql->Prop}{tb:kg}(h:rM ys keep g tb D τ L1):∃W:Nat->jk->ql->Prop,W 0 τ L1/\(∀i τ L,W i τ L->keep L)/\
 (∀i y τ L,ys[i]?=some y->W i τ L->g y τ L fun τ2 L2=>tb { D with nx:=cR (W (i+1)),ct:=cR (W (i+1)),bk:=D.nx } τ2 L2)/\∀τ L,W ys.length τ L->D.nx τ L:=by unfold rM at h;exact h
def gR(wi:TI3)(g:i4)(tb:kg)(D:v9)(τ:jk)(L:ql):Prop:=wi τ L fun ys keep L1=>rM ys keep g tb D τ L1
@[irreducible] def pD (L:ql) (a:Addr) (R:List Y->(ql->Prop)->ql->Prop):Prop:=match L a with
 |some (.lst ys)=>R ys (fun L=>L a=some (.lst ys)) L
 |_=>False
theorem x0{a:Addr}{R:List Y->(ql->Prop)->ql->Prop}(h:L a=some (.lst ys))(q:∀keep:ql->Prop,(∀L',L' a=L a->keep L')->R ys keep L):pD L a R:=by unfold pD;rw[h];exact q _ fun L' e'=>e'.trans h
theorem pK{a:Addr}{R:List Y->(ql->Prop)->ql->Prop}(h:pD L a R):∃ys keep,ay L (.ref a)=some ys/\keep L/\(∀L',keep L'->ay L' (.ref a)=some ys)/\R ys keep L:=by
 unfold pD at h;split at h
 ·rename_i ys e;exact⟨ys,_,wm e,e,fun L' e'=>wm e',h⟩
 ·exact h.elim
def vq(tl:x5)(τ:jk)(L:ql)(R:List Y->(ql->Prop)->ql->Prop):Prop:=tl τ L fun x L1=>match x with
 |.ref a=>pD L1 a R
 |.sq ys=>R ys (fun _=>True) L1
 |_=>False
def yS(tl:x5)(τ:jk)(L:ql)(R:List Y->(ql->Prop)->ql->Prop):Prop:=tl τ L fun x L1=>match x with
 |.tup ys=>R ys (fun _=>True) L1
 |_=>False
def aC(lo:Int)(n:Nat):List Y:=(List.range n).map fun k=>.int (lo+(k:Nat))
def gK(ta:eU)(τ:jk)(L:ql)(R:List Y->(ql->Prop)->ql->Prop):Prop:=ta τ L fun vs L1=>match vs with
 |[.int j]=>(-(2 ^ 62)≤j/\j<2 ^ 62)/\R (aC 0 j.toNat) (fun _=>True) L1
 |_=>False
def nV(_:jk)(L:ql)(Q:Bool->ql->Prop):Prop:=Q true L
@[irreducible] def lcK (ys:List Y) (keep:ql->Prop) (n:Nat) (g:i4) (tc:iY) (te:x5) (τ:jk) (L1:ql) (Q:YK):Prop:=ys.length<sizeLine/\∃W:Nat->List Y->ql->Prop,W 0 [] L1/\(∀i zs L,W i zs L->keep L)/\
 (∀i y zs L,ys[i]?=some y->W i zs L->g y (τ++List.replicate n none) L fun τ2 L2=>tc τ2 L2 fun b L3=>ko b (te τ2 L3 fun z L4=>cR (W (i+1)) (zs++[z]) L4) (cR (W (i+1)) zs L3))/\
 ∀zs L,W ys.length zs L->∀p,L p=none->Q (.ref p) (qf L p (.lst zs))
theorem zT{keep:ql->Prop}{Q:YK}(h:ys.length<sizeLine/\∃W:Nat->List Y->ql->Prop,W 0 [] L1/\(∀i zs L,W i zs L->keep L)/\
 (∀i y zs L,ys[i]?=some y->W i zs L->g y (τ++List.replicate n none) L fun τ2 L2=>tc τ2 L2 fun b L3=>ko b (te τ2 L3 fun z L4=>cR (W (i+1)) (zs++[z]) L4) (cR (W (i+1)) zs L3))/\
 ∀zs L,W ys.length zs L->∀p,L p=none->Q (.ref p) (qf L p (.lst zs))):lcK ys keep n g tc te τ L1 Q:=by unfold lcK;exact h
theorem af0{keep:ql->Prop}{Q:YK}(h:lcK ys keep n g tc te τ L1 Q):ys.length<sizeLine/\∃W:Nat->List Y->ql->Prop,W 0 [] L1/\(∀i zs L,W i zs L->keep L)/\
 (∀i y zs L,ys[i]?=some y->W i zs L->g y (τ++List.replicate n none) L fun τ2 L2=>tc τ2 L2 fun b L3=>ko b (te τ2 L3 fun z L4=>cR (W (i+1)) (zs++[z]) L4) (cR (W (i+1)) zs L3))/\
 ∀zs L,W ys.length zs L->∀p,L p=none->Q (.ref p) (qf L p (.lst zs)):=by unfold lcK at h;exact h
def ow(n:Nat)(wi:TI3)(g:i4)(tc:iY)(te:x5)(τ:jk)(L:ql)(Q:YK):Prop:=wi τ L fun ys keep L1=>lcK ys keep n g tc te τ L1 Q
abbrev ja:=List Y->ql->YK->Prop
def qp(sp:ja)(t:eU)(τ:jk)(L:ql)(Q:YK):Prop:=t τ L fun ys L1=>sp ys L1 Q
def j8(x:Y)(vs:List Y)(L:ql)(Q:YK):Prop:=match x,vs with
 |.ref a,[v]=>bP L a fun ys=>ys.length<sizeLine/\Q .non (qf L a (.lst (ys++[v])))
 |_,_=>False
def a9(x:Y)(vs:List Y)(L:ql)(Q:YK):Prop:=match x,vs with
 |.ref a,[.ref b]=>bP L a fun ys=>bP L b fun zs=>ys.length+zs.length≤sizeLine/\Q .non (qf L a (.lst (ys++zs)))
 |_,_=>False
def yA(x:Y)(vs:List Y)(L:ql)(Q:YK):Prop:=match x,vs with
 |.ref a,[]=>bP L a fun ys=>sd L (fun v L=>Q v (qf L a (.lst ys.dropLast))) (ys[ys.length - 1]?)
 |_,_=>False
section
theorem vm.imp{f:Value->Value->Sem Value}{r r':R2}(h:vm X f r)(q:∀x y H Q,r' x y H Q->r x y H Q):vm X f r':=fun pins s σ H x y v u Q I rx ry z=>h pins s σ H x y v u Q I rx ry (q x y H Q z)
abbrev ER:=@vm.imp
theorem ji.imp{f:Value}{r r':List V->Hp->VK->Prop}(h:ji X f r)(q:∀x H Q,r' x H Q->r x H Q):ji X f r':=fun pins s σ H x v Q I rx z=>h pins s σ H x v Q I rx (q x H Q z)
abbrev EN:=@ji.imp
theorem IxR.imp{r r':R2}(h:IxR X r)(q:∀x y H Q,r' x y H Q->r x y H Q):IxR X r':=fun value slice pins s σ H x y v u Q I rx ry z=>h value slice pins s σ H x y v u Q I rx ry (q x y H Q z)
theorem jA.imp{id:String}{r r':V->List V->Hp->VK->Prop}(h:jA X id r)(q:∀x xs H Q,r' x xs H Q->r x xs H Q):jA X id r':=fun pins s σ H x xs v us Q I rx ry z=>h pins s σ H x xs v us Q I rx ry (q x xs H Q z)
theorem oR(rl:jg G H L)(r:RV G H y v)(h:ay L y=some ys):∃p xs,v=.ref p/\(w4 G.K H p xs\/cJ G.K H p xs)/\x4 G H ys xs:=by
 cases y with
 |tup zs=>
  obtain⟨a,xs,e,s,q⟩:=r;cases h;exact⟨a,xs,e,.inr s,q⟩
 |sq zs=>
  obtain⟨a,xs,e,s,q⟩:=r;cases h;exact⟨a,xs,e,.inl s.sq,q⟩
 |ref a=>
  cases (show v=.ref a from r);have h':(match L a with | some (.lst ys)=>some ys | _=>none)=some ys:=h;split at h'
  ·rename_i zs e;cases h';obtain⟨xs,e2,q⟩:=rl a _ e;exact⟨a,xs,rfl,.inl (ET e2),q⟩
  ·cases h'
 |_=>cases h
theorem ahg{i:Int}(s:x4 G H ys xs)(h:fv ys i=some y):∃x,fv xs i=some x/\RV G H y x:=by
 unfold fv at h ⊢;rw[<-s.length];cases e:ixN ys.length i with
 |none=>rw[e] at h;cases h
 |some j=>
  rw[e] at h;exact s.get (i:=j) h
end
section
variable {a b:Expr}{ta tc:x5} 
abbrev QE(X:Cx)(e:Expr)(t:x5):Prop:=PE X e (ou X.g3 t)
abbrev QT(X:Cx)(e:Expr)(t:iY):Prop:=PT X e (upT X.g3 t)
abbrev QW(X:Cx)(e:Expr)(t:iY):Prop:=PW X e (upT X.g3 t)
abbrev QA(X:Cx)(es:List Expr)(t:eU):Prop:=PA X es (upA X.g3 t)
abbrev QS(X:Cx)(st:Stmt)(t:kg):Prop:=PS X st (upS X.g3 t)
abbrev sI(X:Cx)(st:List Stmt)(t:kg):Prop:=mD X st (upS X.g3 t)
abbrev QG(X:Cx)(e:Expr)(g:i4):Prop:=PG X e (upG X.g3 g)
abbrev QGs(X:Cx)(es:List Expr)(g:pW):Prop:=PGs X es (aol X.g3 g)
abbrev QI(X:Cx)(tg it:Expr)(w:TI3):Prop:=PI X tg it (upI X.g3 w)
abbrev QF(X:Cx)(es:List Expr)(t:iY):Prop:=PF X es (upT X.g3 t)
theorem QE.of_var(h:PE X e (ai1 i)):QE X e (qc i):=DZ h fun σ H Q ⟨τ,L,Q3,rs,rl,z,k⟩=>by
 unfold qc at z;split at z
 ·rename_i y ey;obtain⟨v,ev,rv⟩:=rs.get i y (nN _ _ ey);exact⟨v,ev,k v H y L (DW _) rl rv z⟩
 ·exact z.elim
theorem QE.of_c(h:PE X e (tC v))(q:∀H,RV X.g3 H y v):QE X e (yC y):=DZ h fun σ H Q ⟨τ,L,Q3,rs,rl,z,k⟩=>k v H y L (DW _) rl (q H) z
theorem qv(i:Nat)(hN:X.N[i]?=some x:=by rfl)(hv:Vis X.env.scope x:=by first | exact Or.inl rfl | exact Or.inr (Or.inl rfl) | exact Or.inr (Or.inr rfl))(hd:Ed x:=by decide)
 (hcd:Ee x:=by decide):QE X (.Name x pos) (qc i):=QE.of_var (pv i hN hv hd hcd)
theorem tN :QE X (.Constant .none j pos) (yC .non):=QE.of_c aiy fun _=>rfl
theorem wu{b:Bool} :QE X (.Constant (.bool b) j pos) (yC (.bl b)):=QE.of_c ak4 fun _=>rfl
theorem qj{i:Int} :QE X (.Constant (.int i) j pos) (yC (.int i)):=QE.of_c aho fun _=>rfl
theorem zn :QE X (.Constant (.str x) j pos) (yC (.str x)):=QE.of_c bY fun _=>rfl
theorem aka{c:Addr}(hg:Gl X x)(hm:X.mg x=some (.ref c))(q:∀H,RV X.g3 H y (.ref c))(hd:Ed x:=by decide):QE X (.Name x pos) (yC y):=QE.of_c (alg hg hm hd) q
theorem uh{r:mV}{ta:x5}(σ:St)(H:Hp)(Q:VK):ou G (zj r ta tb) σ H Q->tOp (dZ G r) (ou G ta) (ou G tb) σ H Q:=fun⟨τ,L,Q3,rs,rl,z,k⟩=>
 ⟨τ,L,_,rs,rl,z,fun v H1 y L1 t1 rl1 rv1 z1=>⟨τ,L1,_,rs.ts t1,rl1,z1,fun v2 H2 y2 L2 t2 rl2 rv2 z2=>⟨y,y2,L2,Q3,rv1.ts t2,rv2,rl2,z2,k.ts (t1.trans t2)⟩⟩⟩
theorem qt{op:Operator}{r:mV}(h:vm X (binaryOp op) (dZ X.g3 r))(ha:QE X a ta)(hb:QE X b tb):QE X (.BinOp a op b pos) (zj r ta tb):=DZ (ajl h ha hb) uh
theorem ak0{r:mV}(h:IxR X (dZ X.g3 r))(ha:QE X a ta)(hb:QE X b tb)(hp:i6 b):QE X (.Subscript a b pos) (zj r ta tb):=DZ (af6 h ha hb hp) uh
theorem km{op:CmpOp}{r:mV}(h:vm X (compareOp op) (dZ X.g3 r))(ha:QE X a ta)(hb:QE X b tb)(hm:behindInMarks op b=false):QE X (.Compare a [op] [b] pos) (zj r ta tb):=DZ (adz h ha hb hm) uh
theorem ahp{t:x5}(σ:St)(H:Hp)(Q:Bool->Hp->Prop):upT G (yB t) σ H Q->zD (ou G t) σ H Q:=fun⟨τ,L,Q3,rs,rl,z,k⟩=>
 ⟨τ,L,_,rs,rl,z,fun v H1 y L1 t1 rl1 rv1 z1=>by cases y with|bl b=>exact⟨b,rv1,k b H1 L1 t1 rl1 z1⟩|_=>exact z1.elim⟩
theorem af8{t:x5}(σ:St)(H:Hp)(Q:Bool->Hp->Prop):upT G (yB t) σ H Q->L2.tB (ou G t) σ H Q:=ahp σ H Q
theorem x9{op:CmpOp}{r:mV}(h:vm X (compareOp op) (dZ X.g3 r))(ha:QE X a ta)(hb:QE X b tb)(hm:behindInMarks op b=false):QT X (.Compare a [op] [b] pos) (yB (zj r ta tb)):=
 PT.imp (af2 h ha hb hm) fun σ H Q q=>by have q':=ahp σ H Q q;obtain⟨τ,L,Q3,rs,rl,z,k⟩:=q';exact uh σ H _ ⟨τ,L,Q3,rs,rl,z,k⟩
theorem aB(h:QE X e te)(he:∀whole,isTrue e X.env whole=(do let v <-whole;standAt e.pos;holding [v] (truthy v)):=by intro _;rfl):QT X e (yB te):=PT.imp (aij h he) af8
theorem OpI{f:Value->Value->Sem Value}{C:Int->Int->Prop}{g:Int->Int->V}{g3:Int->Int->Y}(h:vm X f (rI C g))(e:∀i j H,RV X.g3 H (g3 i j) (g i j)):vm X f (dZ X.g3 (yI C g3)):=ER h fun x y H Q ⟨x3,y3,L,Q3,rx,ry,rl,z,k⟩=>by
 cases x3 with
 |int i=>
  cases y3 with|int j=>exact⟨i,j,rx,ry,z.1,k _ H _ L (DW _) rl (e i j H) z.2⟩|_=>exact z.elim
 |_=>cases y3<;>exact z.elim
theorem acx{f:Value->Value->Sem Value}{g:Int->Int->V}{g3:Int->Int->Y}(h:vm X f (rI0 g))(e:∀i j H,RV X.g3 H (g3 i j) (g i j)):vm X f (dZ X.g3 (yI0 g3)):=ER h fun x y H Q ⟨x3,y3,L,Q3,rx,ry,rl,z,k⟩=>by
 cases x3 with
 |int i=>
  cases y3 with|int j=>exact⟨i,j,rx,ry,k _ H _ L (DW _) rl (e i j H) z⟩|_=>exact z.elim
 |_=>cases y3<;>exact z.elim
theorem cK:vm X (binaryOp .Sub) (dZ X.g3 (yI0 fun i j=>.int (i - j))):=acx ah0 fun _ _ _=>rfl
theorem lD:vm X (binaryOp .Mult) (dZ X.g3 (yI zJ fun i j=>.int (i*j))):=OpI aj7 fun _ _ _=>rfl
theorem wr:vm X (binaryOp .FloorDiv) (dZ X.g3 (yI aio fun i j=>.int (i / j))):=OpI ae4 fun _ _ _=>rfl
theorem xo:vm X (binaryOp .Mod) (dZ X.g3 (yI (fun _ j=>0<j) fun i j=>.int (i % j))):=OpI ag2 fun _ _ _=>rfl
theorem akx:vm X (binaryOp .Pow) (dZ X.g3 (yI agu fun i j=>.int (i ^ j.toNat))):=OpI agx fun _ _ _=>rfl
theorem rG:vm X (compareOp .Lt) (dZ X.g3 (yI0 fun i j=>.bl (decide (i<j)))):=acx ajn fun _ _ _=>rfl
theorem ah7:vm X (compareOp .LtE) (dZ X.g3 (yI0 fun i j=>.bl (decide (i≤j)))):=acx alo fun _ _ _=>rfl
theorem yR:vm X (compareOp .Gt) (dZ X.g3 (yI0 fun i j=>.bl (decide (j<i)))):=acx al9 fun _ _ _=>rfl
theorem xt:vm X (binaryOp .Add) (dZ X.g3 w5):=ER aek fun x y H Q ⟨x3,y3,L,Q3,rx,ry,rl,z,k⟩=>by
 cases x3 with
 |int i=>
  cases y3 with|int j=>cases rx;cases ry;exact k _ H _ L (DW _) rl (by rfl) z|_=>exact z.elim
 |str i=>
  cases y3 with|str j=>cases rx;cases ry;exact⟨z.1,k _ H _ L (DW _) rl (by rfl) z.2⟩|_=>exact z.elim
 |ref a=>
  cases y3 with
  |ref b=>
   cases rx;cases ry;obtain⟨ys,zs,e1,e2,hz,q⟩:=z;obtain⟨xs,h1,r1⟩:=rl a _ e1;obtain⟨us,h2,r2⟩:=rl b _ e2;refine⟨xs,us,h1,h2,by rw[<-r1.length,<-r2.length];exact hz,fun p hp=>?_⟩;exact k _ _ _ _ (DY hp) (rl.newL hp (r1.app r2)) (by rfl) (q p (rl.none hp))
  |_=>exact z.elim
 |_=>cases y3<;>exact z.elim
theorem rR{kvs:List (Str×Str)}{k:Str}(h:kvs.lookup k=some x):aJ (kvs.map fun p=>((Sum.inr p.1:zq),V.str p.2)) (Sum.inr k)=some (V.str x):=by
 induction kvs with
 |nil=>simp at h
 |cons p r ih=>
  obtain⟨a,b⟩:=p;unfold aJ;rw[AO,Bp];rw[Bs] at h;by_cases c:k=a
  ·subst c;simp at h;simp[h]
  ·have c1:(k==a)=false:=by simpa using c
   rw[c1] at h;have c2:decide ((Sum.inr a:zq)=Sum.inr k)=false:=Az fun z=>c (Sum.inr.inj z).symm;simp only[c2];exact ih h
theorem mZ{xs:List (zq×V)}{k:zq}(p:Paired (fun(p:zq×Y) (q:zq×V)=>p.1=q.1/\RV G H p.2 q.2) kvs xs)(h:v3 kvs k=some y):∃x,aJ xs k=some x/\RV G H y x:=by
 induction p with
 |nil=>cases h
 |@cons a b _ _ r t ih=>
  obtain⟨ka,ya⟩:=a;obtain⟨kb,vb⟩:=b;obtain⟨e,r⟩:=r;cases (show ka=kb from e);unfold v3 at h;unfold aJ;rw[Bp] at h ⊢;by_cases c:ka=k
  ·have c':decide (ka=k)=true:=AG c;simp only[c'] at h ⊢;cases h;exact⟨vb,rfl,r⟩
  ·have c':decide (ka=k)=false:=Az c;simp only[c'] at h ⊢;exact ih h
theorem ak8(K:Ah)(P:Program)(w:World)(hK:X.K=K:=by rfl)(hP:X.prog=P:=by rfl)(hw:X.w=w:=by rfl):IxR X (dZ ⟨K,P,w⟩ cH):=by
 subst hK hP hw;refine IxR.imp alk fun x y H Q ⟨x3,y3,L,Q3,rx,ry,rl,z,k⟩=>?_;have seq:∀{i:Int} {x3:Y},RV X.g3 H x3 x->y=.int i->(dX L x3 fun ys=>sd L Q3 (fv ys i))->uIx X.K X.prog X.w x y H Q:=by
  intro i x3 rx ey z;subst ey;obtain⟨ys,es,z⟩:=v5 z;obtain⟨p,xs,e,sq,rv⟩:=oR rl rx es;subst e;cases ea:fv ys i with
  |none=>rw[ea] at z;exact z.elim
  |some y=>
   rw[ea] at z;obtain⟨x,ex,rvx⟩:=ahg rv ea;exact⟨xs,x,sq,ex,k _ H _ L (DW _) rl rvx z⟩
 cases x3 with
 |str s=>
  cases y3 with
  |int i=>
   cases rx;cases ry;obtain⟨z1,z2⟩:=z;cases ea:fv s.cps.toList i with
   |none=>rw[ea] at z2;exact z2.elim
   |some c=>rw[ea] at z2;exact⟨z1,c,ea,k _ H _ L (DW _) rl (by rfl) z2⟩
  |_=>exact z.elim
 |cd kvs=>
  cases y3 with
  |str s=>
   obtain⟨a,ea,kd⟩:=rx;cases ea;cases ry;have z':sd L (fun s L=>Q3 (.str s) L) (kvs.lookup s):=z;cases el:kvs.lookup s with
   |none=>rw[el] at z';exact z'.elim
   |some t=>rw[el] at z';exact⟨_,_,.inr kd,rR el,k _ H _ L (DW _) rl (by rfl) z'⟩
  |int i=>exact z.elim
  |_=>exact z.elim
 |ref a=>
  cases y3 with
  |int i=>exact seq (x3:=.ref a) rx ry z
  |str s=>
   cases rx;cases ry;obtain⟨kvs,e,z'⟩:=cz z;obtain⟨xs,e2,pr⟩:=rl a _ e;cases ev:v3 kvs (Sum.inr s) with
   |none=>rw[ev] at z';exact z'.elim
   |some y=>
    rw[ev] at z';obtain⟨x,ex,rx⟩:=mZ pr ev;exact⟨xs,x,.inl (.inl e2),ex,k _ H _ L (DW _) rl rx z'⟩
  |_=>exact z.elim
 |tup ys=>
  cases y3 with|int i=>exact seq (x3:=.tup ys) rx ry z|_=>exact z.elim
 |sq ys=>
  cases y3 with|int i=>exact seq (x3:=.sq ys) rx ry z|_=>exact z.elim
 |_=>cases y3<;>exact z.elim
theorem x4.inv1(h:x4 G H [y] xs):∃x,xs=[x]/\RV G H y x:=by obtain⟨x,xs',e,r,s⟩:=h;cases (show xs'=[] from s);exact⟨x,e,r⟩
theorem x4.inv2{y':Y}(h:x4 G H [y,y'] xs):∃x x',xs=[x,x']/\RV G H y x/\RV G H y' x':=by obtain⟨x,xs',e,r,s⟩:=h;obtain⟨x',e',r'⟩:=s.inv1;exact⟨x,x',by rw[e,e'],r,r'⟩
theorem agt(K:Ah)(P:Program)(w:World)(hK:X.K=K:=by rfl)(hP:X.prog=P:=by rfl)(hw:X.w=w:=by rfl):ji X (.builtin "len") (yW ⟨K,P,w⟩ l9):=by
 subst hK hP hw;refine EN vG fun xs H Q ⟨ys,L,Q3,rv,rl,z,k⟩=>?_;unfold l9 at z;split at z
 ·obtain⟨x,rfl,r⟩:=rv.inv1;cases r;exact⟨z.1,k _ H _ L (DW _) rl (by rfl) z.2⟩
 ·rename_i y _;obtain⟨x,rfl,r⟩:=rv.inv1;obtain⟨ys,es,z⟩:=v5 z;obtain⟨p,us,e,sq,rw'⟩:=oR rl r es;subst e;refine⟨us,sq,?_⟩;rw[<-rw'.length];exact k _ H _ L (DW _) rl (by rfl) z
 ·exact z.elim
theorem agn(i j:Int):(if j > i then j else i)=max i j:=by split<;>lia
theorem ahi(i j:Int):(if j<i then j else i)=min i j:=by split<;>lia
theorem afd(hc:X.calm=true:=by rfl):ji X (.builtin "max") (yW X.g3 ad7):=EN (vD hc) fun xs H Q ⟨ys,L,Q3,rv,rl,z,k⟩=>by
 unfold ad7 at z;split at z
 ·rename_i i j;obtain⟨x,x',rfl,r1,r2⟩:=rv.inv2;cases r1;cases r2;refine⟨i,j,rfl,?_⟩;rw[agn];exact k _ H _ L (DW _) rl (by rfl) z
 ·exact z.elim
theorem alb(hc:X.calm=true:=by rfl):ji X (.builtin "min") (yW X.g3 ahm):=EN (vS hc) fun xs H Q ⟨ys,L,Q3,rv,rl,z,k⟩=>by
 unfold ahm at z;split at z
 ·rename_i i j;obtain⟨x,x',rfl,r1,r2⟩:=rv.inv2;cases r1;cases r2;refine⟨i,j,rfl,?_⟩;rw[ahi];exact k _ H _ L (DW _) rl (by rfl) z
 ·exact z.elim
end
section
variable {a b:Expr}{ta tc:x5} 
theorem cf{a:Addr}(rl:jg G H L)(h:ay L (.ref a)=some ys):∃xs,w4 G.K H a xs/\x4 G H ys xs:=by
 have h':(match L a with | some (.lst ys)=>some ys | _=>none)=some ys:=h;split at h'
 ·rename_i e;cases h';obtain⟨xs,e2,q⟩:=rl a _ e;exact⟨xs,ET e2,q⟩
 ·cases h'
theorem bD(rl:jg G H L)(r:RV G H y v)(hy:mX y=true)(h:ay L y=some ys):∃a xs,v=.ref a/\w4 G.K H a xs/\x4 G H ys xs:=by
 cases y with
 |ref a=>obtain⟨xs,s,q⟩:=cf rl h;exact⟨a,xs,r,s,q⟩
 |sq zs=>obtain⟨a,xs,e,s,q⟩:=r;cases h;exact⟨a,xs,e,s.sq,q⟩
 |_=>cases hy
theorem vX{G:G3}{T:oy}{σ:L2.St}(I:z0 X pins σ H s)(rl:jg X.g3 H L)(r:RV X.g3 H y v)(ru:zf v u)(h:tyY L y=some T)
 {c:Value} {b:Bool} (e:PySem.W.kitOne X.K (.type T.nm) c=some b) (hq:∀tk,Q (.bool b) { s with toks:=tk }):
 wpAny (model X.prog X.w) A (call (.builtin "isinstance") [u,c]) Q E s:=by
 cases y with
 |non=>cases h;cases r;exact aN I ru .non e hq
 |bl b=>cases h;cases r;exact aN I ru (.bl _) e hq
 |int i=>cases h;cases r;exact aN I ru (.int _) e hq
 |str x=>cases h;cases r;exact aN I ru (.str _) e hq
 |tup ys=>
  cases h;obtain⟨a,xs,rfl,sq,_⟩:=r;cases (show u=Value.ref a from ru);obtain⟨its,_,⟨o,h1,h2,_⟩,_⟩:=I.tuple sq;exact Bo PySem.W.kitx_tuple I.kIn ⟨o,h1,h2⟩ e (fun z=>nomatch z) hq
 |sq ys=>
  cases h;obtain⟨a,xs,rfl,sq,_⟩:=r;cases (show u=Value.ref a from ru);obtain⟨its,_,⟨o,n,h1,h2,_⟩,_⟩:=I.list sq.sq;exact Bo Dt I.kIn ⟨o,h1,h2⟩ e (fun z=>nomatch z) hq
 |ref a=>
  cases (show v=.ref a from r);have h':(match L a with | some (.lst _)=>some oy.list | some (.dct _)=>some .dict | _=>none)=some T:=h;split at h'
  ·rename_i ys el;cases h';obtain⟨xs,e2,_⟩:=rl a _ el;exact aN I ru (.lst e2) e hq
  ·rename_i kvs el;cases h';obtain⟨xs,e2,_⟩:=rl a _ el;exact aN I ru (.dK e2) e hq
  ·cases h'
 |_=>cases h
theorem ac9(K:Ah):∀T S:oy,PySem.W.kitOne K (.type T.nm) (.type S.nm)=some (abr T S):=by intro T S;cases T<;>cases S<;>rfl
def ag8(G:G3)(S:oy):List V->Hp->VK->Prop:=fun xs H Q=>∃y v L Q3 T,xs=[v,.ty S.nm]/\RV G H y v/\jg G H L/\tyY L y=some T/\Q3 (.bl (abr T S)) L/\yN G H Q3 Q
theorem ail(S:oy):ji X (.builtin "isinstance") (ag8 X.g3 S):=by intro pins s σ H xs us Q I r h;obtain⟨y,v,L,Q3,T,rfl,rv,rl,ty,q,k⟩:=h;obtain⟨u,c,rfl,r1,r2⟩:=ze.two r;cases (show c=Value.type S.nm from r2);exact jm I.tk (vX (G:=X.g3) I rl rv r1 ty (ac9 _ T S) fun tk ht=>⟨.bl _,H,I.tok _,rfl,k _ H _ L (DW _) rl (by rfl) q⟩)
theorem fD{xT:Str}(S:oy)(hg:Gl X "isinstance")(hm:X.mg "isinstance" = none)(hgT:Gl X xT)(hmT:X.mg xT=none)(hvT:bootBuiltins xT=some (.type S.nm))(ha:QE X a ta)
 (hn:xT ≠ "__name__" := by decide) (hd:(xT==("__debug__" : Str))=false:=by decide)
 (hs:starEach [a,.Name xT p1] X.env=(false,eval a X.env)::starEach [.Name xT p1] X.env:=by rfl) (hs2:starEach [.Name xT p1] X.env=(false,eval (.Name xT p1) X.env)::starEach [] X.env:=by rfl)
 (hp:(backTo pos (starEach [.Name xT p1] X.env)).any (·.1)=false:=by rfl):
 QE X (.Call (.Name "isinstance" p) [a,.Name xT p1] [] pos) (mL S ta):=by
 refine DZ (rZ (ail S) hg hm l6 (dO ha (dO (alc hgT hmT hvT hn hd) kJ hs2) hs) (by decide) (by decide) hs hp) ?_;rintro σ H Q ⟨τ,L,Q3,rs,rl,z,k⟩;refine⟨τ,L,_,rs,rl,z,fun v H1 y L1 t1 rl1 rv1 z1=>?_⟩;obtain⟨T,et,z1⟩:=aak z1;exact⟨y,v,L1,Q3,T,rfl,rv1,rl1,et,z1,k.ts t1⟩
def lM(neg:Bool)(x y:Y)(L:ql)(Q:YK):Prop:=dX L y fun ys=>gx x=true/\ys.all gx=true/\Q (.bl (nb neg (sn (eI x) (ys.map eI)))) L
theorem akt(neg:Bool){op:CmpOp}(h:vm X (compareOp op) (rIn X.K neg)):vm X (compareOp op) (dZ X.g3 (lM neg)):=ER h fun x y H Q ⟨x3,y3,L,Q3,rx,ry,rl,z,k⟩=>by
 obtain⟨ys,es,f1,f2,q⟩:=v5 z;obtain⟨p,xs,e,sq,rv⟩:=oR rl ry es;rw[rx.flat f1];rw[rv.flat f2] at sq;refine⟨p,_,e,sq,fZ f1,?_,?_⟩
 ·rw[List.all_map,Cw];intro y hy;exact fZ (Cw.mp f2 y hy)
 ·have:(if neg=true then !sn (eI x3) (ys.map eI) else sn (eI x3) (ys.map eI))=(nb neg (sn (eI x3) (ys.map eI))):=by cases neg<;>simp[nb]
  rw[this];exact k _ H _ L (DW _) rl (by rfl) q
theorem zF(K:Ah)(P:Program)(w:World)(hK:X.K=K:=by rfl)(hP:X.prog=P:=by rfl)(hw:X.w=w:=by rfl):vm X (compareOp .In) (dZ ⟨K,P,w⟩ (lM false)):=by subst hK hP hw;exact akt false xJ
theorem nO(K:Ah)(P:Program)(w:World)(hK:X.K=K:=by rfl)(hP:X.prog=P:=by rfl)(hw:X.w=w:=by rfl):vm X (compareOp .NotIn) (dZ ⟨K,P,w⟩ (lM true)):=by subst hK hP hw;exact akt true oI
theorem jf.rep{G:G3}{H:Hp}{L:ql}(rl:jg G H L):∀{n:Nat} {y:Y} {d:Da} {v:V},jf L n y d->RV G H y v->vd G.K H n v d
 |0,y,d,v,⟨f,e⟩,r=>by rw[r.flat f];exact⟨e,fZ f⟩
 |n+1,y,d,v,h,r=>by
  have both:∀{ys:List Y} {ds:List Da} {xs:List V},Paired (jf L n) ys ds->x4 G H ys xs->Paired (vd G.K H n) xs ds:=by
   intro ys ds xs p
   induction p generalizing xs with
   |nil=>intro r;cases (show xs=[] from r);exact .nil
   |cons q t ih=>
    rintro⟨x,xs',rfl,r1,r2⟩;exact .cons (jf.rep rl q r1) (ih r2)
  rcases h with⟨f,e⟩ | ⟨ys,ds,rfl,rfl,p⟩ | ⟨ys,ds,hy,rfl,es,p⟩
  ·rw[r.flat f];exact .inl ⟨e,fZ f⟩
  ·obtain⟨a,xs,rfl,sq,rv⟩:=r;exact .inr (.inl ⟨a,xs,ds,rfl,rfl,sq,both p rv⟩)
  ·obtain⟨a,xs,rfl,sq,rv⟩:=bD rl r hy es;exact .inr (.inr ⟨a,xs,ds,rfl,rfl,sq,both p rv⟩)
theorem i8(h:wK y=true)(r:RV G H y v):∃a,v=.ref a:=by
 cases y with
 |ref a=>exact⟨a,r⟩
 |tup ys=>obtain⟨a,xs,e,_⟩:=r;exact⟨a,e⟩
 |sq ys=>obtain⟨a,xs,e,_⟩:=r;exact⟨a,e⟩
 |_=>cases h
theorem gv(K:Ah)(P:Program)(w:World)(hu:X.A.units+128<cLine)(hK:X.K=K:=by rfl)(hP:X.prog=P:=by rfl)(hw:X.w=w:=by rfl):vm X (compareOp .Eq) (dZ ⟨K,P,w⟩ (pN false)):=by
 subst hK hP hw;refine ER (ahh hu) fun x y H Q ⟨x3,y3,L,Q3,rx,ry,rl,z,k⟩=>?_;unfold pN at z;split at z
 ·rename_i i j;cases rx;cases ry;refine⟨rfl,?_⟩;have:decide (V.int i=V.int j)=nb false (decide (i=j)):=by rw[BF];simp[nb]
  rw[this];exact k _ H _ L (DW _) rl (by rfl) z
 ·rename_i i j;cases rx;cases ry;refine⟨rfl,?_⟩;have:decide (V.str i=V.str j)=nb false (decide (i=j)):=by rw[BF];simp[nb]
  rw[this];exact k _ H _ L (DW _) rl (by rfl) z
 ·rename_i i j;cases rx;cases ry;refine⟨rfl,?_⟩;have:decide (V.bl i=V.bl j)=nb false (decide (i=j)):=by rw[BF];simp[nb]
  rw[this];exact k _ H _ L (DW _) rl (by rfl) z
 ·obtain⟨f1,f2,n,m,d,e,hn,h1,h2,q⟩:=z;obtain⟨a,rfl⟩:=i8 f1 rx;obtain⟨b,rfl⟩:=i8 f2 ry;have q:Q3 (.bl (Da.eq d e)) L:=q;exact⟨n,m,d,e,hn,h1.rep rl rx,h2.rep rl ry,k _ H _ L (DW _) rl (by rfl) q⟩
theorem ajx(K:Ah)(P:Program)(w:World)(hu:X.A.units+128<cLine)(hK:X.K=K:=by rfl)(hP:X.prog=P:=by rfl)(hw:X.w=w:=by rfl):vm X (compareOp .NotEq) (dZ ⟨K,P,w⟩ (pN true)):=by
 subst hK hP hw;refine ER (aj5 hu) fun x y H Q ⟨x3,y3,L,Q3,rx,ry,rl,z,k⟩=>?_;unfold pN at z;split at z
 ·rename_i i j;cases rx;cases ry;refine⟨rfl,?_⟩;have:(!decide (V.int i=V.int j))=nb true (decide (i=j)):=by show _=!_;congr 1;rw[BF];simp
  rw[this];exact k _ H _ L (DW _) rl (by rfl) z
 ·rename_i i j;cases rx;cases ry;refine⟨rfl,?_⟩;have:(!decide (V.str i=V.str j))=nb true (decide (i=j)):=by show _=!_;congr 1;rw[BF];simp
  rw[this];exact k _ H _ L (DW _) rl (by rfl) z
 ·rename_i i j;cases rx;cases ry;refine⟨rfl,?_⟩;have:(!decide (V.bl i=V.bl j))=nb true (decide (i=j)):=by show _=!_;congr 1;rw[BF];simp
  rw[this];exact k _ H _ L (DW _) rl (by rfl) z
 ·obtain⟨f1,f2,n,m,d,e,hn,h1,h2,q⟩:=z;obtain⟨a,rfl⟩:=i8 f1 rx;obtain⟨b,rfl⟩:=i8 f2 ry;have q:Q3 (.bl (!Da.eq d e)) L:=q;exact⟨n,m,d,e,hn,h1.rep rl rx,h2.rep rl ry,k _ H _ L (DW _) rl (by rfl) q⟩
theorem RV.non_iff(r:RV G H y v):decide (v=.non)=(match y with | .non=>true | _=>false):=by
 cases y with
 |non=>cases r;rfl
 |cd kvs=>obtain⟨a,rfl,_⟩:=r;rfl
 |tup ys=>obtain⟨a,xs,rfl,_⟩:=r;rfl
 |sq ys=>obtain⟨a,xs,rfl,_⟩:=r;rfl
 |_=>cases r;rfl
theorem ai7(σ:L2.St)(H:Hp)(Q:VK):ou G (da false ta) σ H Q->akg (ou G ta) σ H Q:=fun⟨τ,L,Q3,rs,rl,z,k⟩=>
 ⟨τ,L,_,rs,rl,z,fun v H1 y L1 t1 rl1 rv1 z1=>by dsimp only;rw[rv1.non_iff];cases y<;>exact k _ H1 _ L1 t1 rl1 (by rfl) z1⟩
theorem ug(σ:L2.St)(H:Hp)(Q:VK):ou G (da true ta) σ H Q->afu (ou G ta) σ H Q:=fun⟨τ,L,Q3,rs,rl,z,k⟩=>
 ⟨τ,L,_,rs,rl,z,fun v H1 y L1 t1 rl1 rv1 z1=>by dsimp only;rw[rv1.non_iff];cases y<;>exact k _ H1 _ L1 t1 rl1 (by rfl) z1⟩
theorem iV(h:QE X a ta):QE X (.Compare a [.IsNot] [.Constant .none j pos'] pos) (da true ta):=DZ (ahk (uR h)) ug
theorem afj{t:TE}(h:∀σ H Q,ou G te σ H Q->t σ H Q)(σ:L2.St)(H:Hp)(Q:Bool->Hp->Prop):upT G (yB te) σ H Q->L2.tB t σ H Q:=fun q=>h σ H _ (af8 σ H Q q)
theorem oC(h:QE X a ta):QT X (.Compare a [.Is] [.Constant .none j pos'] pos) (yB (da false ta)):=PT.imp (yd (age h)) (afj ai7)
theorem oG(h:QE X a ta):QT X (.Compare a [.IsNot] [.Constant .none j pos'] pos) (yB (da true ta)):=PT.imp (yd (uR h)) (afj ug)
end
section
variable {a b:Expr}{rest:List Expr}{ta tc:x5}{tB:iY} 
theorem bx(h:QT X a tA):QW X (.BoolOp .And [a] pos) tA:=ad5 h
theorem tI(h:QT X a tA):QW X (.BoolOp .Or [a] pos) tA:=ag3 h
theorem eQ(h:QT X a tA)(k:QW X (.BoolOp .And (b::rest) pos) tB):QW X (.BoolOp .And (a::b::rest) pos) (rJ tA tB):=PW.imp (aj2 h k) fun σ H Q ⟨τ,L,Q3,rs,rl,z,k⟩=>
 ⟨τ,L,_,rs,rl,z,fun c H1 L1 t1 rl1 z1=>by cases c with|true=>rw[AA rfl];exact⟨τ,L1,Q3,rs.ts t1,rl1,z1,k.ts t1⟩|false=>rw[Ay AB];exact k _ H1 L1 t1 rl1 z1⟩
theorem aaw(h:QT X a tA)(k:QW X (.BoolOp .Or (b::rest) pos) tB):QW X (.BoolOp .Or (a::b::rest) pos) (yOr tA tB):=PW.imp (ajk h k) fun σ H Q ⟨τ,L,Q3,rs,rl,z,k⟩=>
 ⟨τ,L,_,rs,rl,z,fun c H1 L1 t1 rl1 z1=>by cases c with|true=>rw[AA rfl];exact k _ H1 L1 t1 rl1 z1|false=>rw[Ay AB];exact⟨τ,L1,Q3,rs.ts t1,rl1,z1,k.ts t1⟩⟩
theorem dw(h:QW X a tA):QT X a tA:=PW.pt h
theorem gJ(h:QT X a tA):QT X (.UnaryOp .Not a pos) (uD tA):=PT.imp (ahf h) fun σ H Q ⟨τ,L,Q3,rs,rl,z,k⟩=>
 ⟨τ,L,_,rs,rl,z,fun c H1 L1 t1 rl1 z1=>k _ H1 L1 t1 rl1 z1⟩
theorem cY{op:BoolOp}(h:QE X a ta):QE X (.BoolOp op [a] pos) ta:=agp h
theorem am(h:QE X a ta)(k:QE X (.BoolOp .And (b::rest) pos) tb):QE X (.BoolOp .And (a::b::rest) pos) (cZ ta tb):=DZ (ah2 h k) fun σ H Q ⟨τ,L,Q3,rs,rl,z,k⟩=>
 ⟨τ,L,_,rs,rl,z,fun v H1 y L1 t1 rl1 rv1 z1=>by
  cases y with
  |bl c=>
   refine⟨c,rv1,?_⟩;have z2:ko c (tb τ L1 Q3) (Q3 (.bl false) L1):=z1;cases c with|true=>rw[AA rfl];exact⟨τ,L1,Q3,rs.ts t1,rl1,z2,k.ts t1⟩|false=>rw[Ay AB];exact k _ H1 _ L1 t1 rl1 (by rfl) z2
  |_=>exact z1.elim⟩
theorem dI(h:QT X c tA)(ha:QE X a ta)(hb:QE X b tb):QE X (.IfExp c a b pos) (yIf tA ta tb):=DZ (ab6 h ha hb) fun σ H Q ⟨τ,L,Q3,rs,rl,z,k⟩=>
 ⟨τ,L,_,rs,rl,z,fun c H1 L1 t1 rl1 z1=>by cases c with|true=>rw[AA rfl];exact⟨τ,L1,Q3,rs.ts t1,rl1,z1,k.ts t1⟩|false=>rw[Ay AB];exact⟨τ,L1,Q3,rs.ts t1,rl1,z1,k.ts t1⟩⟩
theorem k8:QA X [] z9:=PA.imp kJ fun σ H Q ⟨τ,L,Q3,rs,rl,z,k⟩=>k _ H _ L (DW _) rl (by rfl) z
theorem vg(h:QE X e te)(ht:QA X es tr)(hs:Eb e es X:=by rfl):QA X (e::es) (qe te tr):=PA.imp (dO h ht hs) fun σ H Q ⟨τ,L,Q3,rs,rl,z,k⟩=>
 ⟨τ,L,_,rs,rl,z,fun v H1 y L1 t1 rl1 rv1 z1=>⟨τ,L1,_,rs.ts t1,rl1,z1,fun vs H2 ys L2 t2 rl2 rv2 z2=>k (v::vs) H2 (y::ys) L2 (t1.trans t2) rl2 ⟨v,vs,rfl,rv1.ts t2,rv2⟩ z2⟩⟩
theorem zr(h:QA X es tr):QE X (.Tuple es x1 pos) (kn tr):=DZ (aj3 h) fun σ H Q ⟨τ,L,Q3,rs,rl,z,k⟩=>
 ⟨τ,L,_,rs,rl,z,fun vs H1 ys L1 t1 rl1 rv1 z1=>by
  cases e:Nat.ble ys.length 1000 with
  |false=>rw[e] at z1;exact z1.elim
  |true=>
   rw[e] at z1;have:=C3 e;refine⟨small (by rw[<-rv1.length];exact this),fun p hp=>?_⟩;exact k _ _ (.tup ys) L1 (t1.trans (DY hp)) (rl1.skip hp) ⟨p,vs,rfl,cJ.of zv,rv1.ts (DY hp)⟩ z1⟩
theorem zh(h:QA X es tr):QE X (.List es pos) (xw tr):=DZ (agw h) fun σ H Q ⟨τ,L,Q3,rs,rl,z,k⟩=>
 ⟨τ,L,_,rs,rl,z,fun vs H1 ys L1 t1 rl1 rv1 z1=>by
  cases e:Nat.ble ys.length 1000 with
  |false=>rw[e] at z1;exact z1.elim
  |true=>
   rw[e] at z1;have:=C3 e;refine⟨small (by rw[<-rv1.length];exact this),fun p hp=>?_⟩;exact k _ _ _ _ (t1.trans (DY hp)) (rl1.newL hp rv1) (by rfl) (z1 p (rl1.none hp))⟩
theorem k7{id:String}{r:List Y->ql->YK->Prop}(hc:ji X (.builtin id) (yW X.g3 r))(hg:Gl X x)(hm:X.mg x=none)(hv:bootBuiltins x=some (.builtin id))(h:QA X (e::es) tr)
 (hn:x ≠ "__name__" := by decide) (hd:Ed x:=by decide) (hs:Eb e es X:=by rfl) (hp:Ec pos es X:=by rfl):
 QE X (.Call (.Name x p) (e::es) [] pos) (iO r tr):=DZ (rZ hc hg hm hv h hn hd hs hp) fun σ H Q ⟨τ,L,Q3,rs,rl,z,k⟩=>
 ⟨τ,L,_,rs,rl,z,fun vs H1 ys L1 t1 rl1 rv1 z1=>⟨ys,L1,Q3,rv1,rl1,z1,k.ts t1⟩⟩
def upO(G:G3)(t:TO3):TO:=fun σ H Q=>∃τ L Q3,kc G H σ τ/\jg G H L/\t τ L Q3/\∀(o:Option Int) H' L',j4 H H'->jg G H' L'->Q3 o L'->Q o H'
abbrev QO(X:Cx)(e:Option Expr)(t:TO3):Prop:=PO X e (upO X.g3 t)
theorem PO.imp{e:Option Expr}{t u:TO}(h:PO X e t)(q:∀σ H Q,u σ H Q->t σ H Q):PO X e u:=fun pins s σ H Q I z=>h pins s σ H Q I (q σ H Q z)
theorem ox.imp{r':V->Option Int->Option Int->Hp->VK->Prop}(h:ox X r)(q:∀x lo hi H Q,r' x lo hi H Q->r x lo hi H Q):ox X r':=by intro pins s σ H x v vl vu lo hi sl Q I rx hs pl pu z;exact h pins s σ H x v vl vu lo hi sl Q I rx hs pl pu (q _ _ _ _ _ z)
theorem bQ:QO X none ai:=PO.imp adc fun σ H Q ⟨τ,L,Q3,rs,rl,z,k⟩=>k _ H L (DW _) rl z
theorem kw(h:QE X e te):QO X (some e) (cL te):=PO.imp (acd h) fun σ H Q ⟨τ,L,Q3,rs,rl,z,k⟩=>
 ⟨τ,L,_,rs,rl,z,fun v H1 y L1 t1 rl1 rv1 z1=>by cases y with|int i=>exact⟨i,rv1,k _ H1 L1 t1 rl1 z1⟩|_=>exact z1.elim⟩
def adj(G:G3)(r:Y->Option Int->Option Int->ql->YK->Prop):V->Option Int->Option Int->Hp->VK->Prop:=fun x lo hi H Q=>∃y L Q3,RV G H y x/\jg G H L/\r y lo hi L Q3/\yN G H Q3 Q
theorem ky{lo hi:Option Expr}{tl th:TO3}{r:Y->Option Int->Option Int->ql->YK->Prop}(h:ox X (adj X.g3 r))(ha:QE X a ta)(hl:QO X lo tl)(hh:QO X hi th):QE X (.Subscript a (.Slice lo hi none p2) pos) (ySl r ta tl th):=
 DZ (aay h ha hl hh) fun σ H Q ⟨τ,L,Q3,rs,rl,z,k⟩=>
 ⟨τ,L,_,rs,rl,z,fun v H1 y L1 t1 rl1 rv1 z1=>⟨τ,L1,_,rs.ts t1,rl1,z1,fun o H2 L2 t2 rl2 z2=>⟨τ,L2,_,rs.ts (t1.trans t2),rl2,z2,fun o' H3 L3 t3 rl3 z3=>⟨y,L3,Q3,rv1.ts (t2.trans t3),rl3,z3,k.ts (t1.trans (t2.trans t3))⟩⟩⟩⟩
theorem o5(r:x4 G H ys xs)(lo hi:Option Int):x4 G H (ld ys lo hi) (pS xs lo hi):=by unfold ld pS;rw[r.length];exact(r.drop _).take _
theorem ajj(K:Ah)(P:Program)(w:World)(hK:X.K=K:=by rfl)(hP:X.prog=P:=by rfl)(hw:X.w=w:=by rfl):ox X (adj ⟨K,P,w⟩ al1):=by
 subst hK hP hw;refine ox.imp ad8 fun x lo hi H Q ⟨y,L,Q3,rv,rl,z,k⟩=>?_;cases y with
 |ref a=>
  obtain⟨ys,es,z'⟩:=jy z;obtain⟨xs,sq,r⟩:=cf rl (wm es);exact⟨a,xs,rv,sq,fun p hp=>k _ _ _ _ (DY hp) (rl.newL hp (o5 r lo hi)) (by rfl) (z' p (rl.none hp))⟩
 |sq ys=>
  obtain⟨a,xs,e,sf,r⟩:=rv;exact⟨a,xs,e,sf.sq,fun p hp=>k _ _ _ _ (DY hp) (rl.newL hp (o5 r lo hi)) (by rfl) (z p (rl.none hp))⟩
 |_=>exact z.elim
end
section
variable {a b iter:Expr}{ta tc:x5}{tB:iY}{rest orelse:List Stmt}{t u:kg}
theorem zm:sI X [] jw:=mD.imp ady fun D σ H ⟨τ,L,D3,rs,rl,z,k⟩=>k.nx _ H _ L (DW _) rs rl z
theorem qg(h:QS X st t):sI X [st] t:=adh h
theorem qb(h:QS X st t)(k:sI X rest u):sI X (st::rest) (qw t u):=mD.imp (qH h k) fun D σ H ⟨τ,L,D3,rs,rl,z,k⟩=>
 ⟨τ,L,{ D3 with nx:=u D3 },rs,rl,z,fun σ1 H1 τ1 L1 t1 rs1 rl1 z1=>⟨τ1,L1,D3,rs1,rl1,z1,k.ts t1⟩,k.rt,k.bk,k.ct⟩
theorem qA:QS X (.Continue pos) afq:=EG sH fun D σ H ⟨τ,L,D3,rs,rl,z,k⟩=>k.ct _ H _ L (DW _) rs rl z
theorem zb(h:QE X e te)(hs:swapsWith e none pos.line X.env=pure false:=by rfl):QS X (.Expr e pos) (jb te):=EG (aew h hs) fun D σ H ⟨τ,L,D3,rs,rl,z,k⟩=>
 ⟨τ,L,_,rs,rl,z,fun v H1 y L1 t1 rl1 rv1 z1=>k.nx _ H1 _ L1 t1 (rs.ts t1) rl1 z1⟩
theorem qz(h:QE X e te):QS X (.Return (some e) pos) (jc te):=EG (aiv h) fun D σ H ⟨τ,L,D3,rs,rl,z,k⟩=>⟨τ,L,_,rs,rl,z,k.rt⟩
theorem uW:QS X (.Return none pos) aav:=EG adl fun D σ H ⟨τ,L,D3,rs,rl,z,k⟩=>k.rt _ H _ L (DW _) rl (by rfl) z
theorem jn(h:QT X c tA)(ha:sI X body t)(hb:sI X orelse u):QS X (.If c body orelse pos) (v0 tA t u):=EG (aku h ha hb) fun D σ H ⟨τ,L,D3,rs,rl,z,k⟩=>
 ⟨τ,L,_,rs,rl,z,fun c H1 L1 t1 rl1 z1=>by cases c with|true=>rw[AA rfl];exact⟨τ,L1,D3,rs.ts t1,rl1,z1,k.ts t1⟩|false=>rw[Ay AB];exact⟨τ,L1,D3,rs.ts t1,rl1,z1,k.ts t1⟩⟩
theorem ap(hN:X.N.Nodup)(hix:X.N[i]?=some x)(hx:ym X.env.scope x)(h:QE X e te)(hsw:swapsWith e (some (.Name x pos')) pos.line X.env=pure false:=by rfl)
 (hfn:X.fn x=true\/X.env.scope.names.lookup x=some .local:=by first | exact .inl rfl | exact .inr rfl | assumption):QS X (.Assign [.Name x pos'] e pos) (zw te (qh i)):=EG (ai8 hN hix hx h hsw hfn) fun D σ H ⟨τ,L,D3,rs,rl,z,k⟩=>
 ⟨τ,L,_,rs,rl,z,fun v H1 y L1 t1 rl1 rv1 z1=>k.nx _ H1 _ L1 t1 (show kc _ _ _ (df τ i y) by rw[aM];exact(rs.ts t1).set rv1) rl1 z1⟩
theorem lJ(h:QE X e te)(hg:QG X tg g)(h1:swapsWithSole [tg] e pos.line X.env=pure false:=by rfl)(h2:swappedStores [tg] e X.env=pure none:=by rfl)
 (h3:(assignEach [tg] X.env).map (·.2)=[assign tg X.env]:=by rfl):QS X (.Assign [tg] e pos) (zw te g):=EG (abi h hg h1 h2 h3) fun D σ H ⟨τ,L,D3,rs,rl,z,k⟩=>
 ⟨τ,L,_,rs,rl,z,fun v H1 y L1 t1 rl1 rv1 z1=>⟨y,τ,L1,_,rv1,rs.ts t1,rl1,z1,k.nx.ts t1⟩⟩
theorem PG.imp{t u:TG}(h:PG X e t)(q:∀v σ H Q,u v σ H Q->t v σ H Q):PG X e u:=fun pins s σ H x v Q I r z=>h pins s σ H x v Q I r (q _ _ _ _ z)
theorem PGs.imp{e:List Expr}{t u:TGs}(h:PGs X e t)(q:∀v σ H Q,u v σ H Q->t v σ H Q):PGs X e u:=fun pins s σ H x v Q I r z=>h pins s σ H x v Q I r (q _ _ _ _ z)
theorem dS(hN:X.N.Nodup)(hix:X.N[i]?=some x)(hx:ym X.env.scope x)(hfn:X.fn x=true\/X.env.scope.names.lookup x=some .local:=by first | exact .inl rfl | exact .inr rfl | assumption):QG X (.Name x pos) (qh i):=
 PG.imp (iZ hN hix hx hfn) fun v σ H Q ⟨y,τ,L,Q3,rv,rs,rl,z,k⟩=>k _ H _ L (DW _) (show kc _ _ _ (df τ i y) by rw[aM];exact rs.set rv) rl z
theorem aF:QGs X [] ae:=PGs.imp u9 fun vs σ H Q ⟨ys,τ,L,Q3,rv,rs,rl,z,k⟩=>by cases ys with|nil=>exact⟨rv,k _ H _ L (DW _) rs rl z⟩|cons y r=>exact z.elim
theorem j7(h:QG X e g)(hs:QGs X es gs)(he:(assignEach (e::es) X.env).map (·.2)=assign e X.env::(assignEach es X.env).map (·.2):=by rfl):QGs X (e::es) (jd g gs):=
 PGs.imp (kQ h hs he) fun vs σ H Q ⟨ys,τ,L,Q3,rv,rs,rl,z,k⟩=>by
 cases ys with
 |nil=>exact z.elim
 |cons y r=>
  obtain⟨x,xs,rfl,r1,r2⟩:=rv;exact⟨x,xs,rfl,y,τ,L,_,r1,rs,rl,z,fun σ1 H1 τ1 L1 t1 rs1 rl1 z1=>⟨r,τ1,L1,Q3,r2.ts t1,rs1,rl1,z1,k.ts t1⟩⟩
theorem dD{kk:Nat}(hc:X.calm=true)(h:QGs X es gs)(h1:(assignEach es X.env).length=n:=by rfl)(h2:(assignEach es X.env).findIdx? (·.1)=none:=by rfl):QG X (.Tuple es kk pos) (cO n gs):=
 PG.imp (yi hc h h1 h2) fun v σ H Q ⟨y,τ,L,Q3,rv,rs,rl,z,k⟩=>by
 cases y with
 |tup ys=>
  obtain⟨a,xs,rfl,sq,r⟩:=rv;have z':(match ys.length==n with | true=>gs ys τ L Q3 | false=>False):=z;split at z'
  ·rename_i e;exact⟨a,xs,rfl,sq,by rw[<-r.length];exact beq_iff_eq.mp e,ys,τ,L,Q3,r,rs,rl,z',k⟩
  ·exact z'.elim
 |_=>exact z.elim
theorem abd{y:Str}{px py pt:Pos}{kt k2:Nat}{pt2:Pos}(hc:X.calm=true)(hN:X.N.Nodup)(hi:X.N[i]?=some x)(hj:X.N[j]?=some y)(hij:i≠j)(lx:X.env.scope.names.lookup x=some .local)(ly:X.env.scope.names.lookup y=some .local)
 (h:QA X [a,b] tr) (h1:swappedStores [.Tuple [.Name x px,.Name y py] kt pt] (.Tuple [a,b] k2 pt2) X.env=pure (some [x,y])) (h2:swapsWithSole [.Tuple [.Name x px,.Name y py] kt pt] (.Tuple [a,b] k2 pt2) pos.line X.env=pure false:=by rfl):
 QS X (.Assign [.Tuple [.Name x px,.Name y py] kt pt] (.Tuple [a,b] k2 pt2) pos) (aj8 i j tr):=EG (agl hc hN hi hj hij lx ly h h1 h2) fun D σ H ⟨τ,L,D3,rs,rl,z,k⟩=>
 ⟨τ,L,_,rs,rl,z,fun vs H1 ys L1 t1 rl1 rv1 z1=>by
  split at z1
  ·rename_i v w;obtain⟨x',y',rfl,r1,r2⟩:=rv1.inv2;exact⟨x',y',rfl,k.nx _ H1 _ L1 t1 (show kc _ _ _ (df (df τ i v) j w) by rw[aM,aM];exact((rs.ts t1).set r1).set r2) rl1 z1⟩
  ·exact z1.elim⟩
theorem fV(hp:PassesOwn (model X.prog X.w) X.A X.env X.xe)(h:QT X c tA)(hb:sI X body t):QS X (.While c body [] pos) (lK tA t):=EG (aau hp h hb) fun D σ H ⟨τ,L,D3,rs,rl,⟨W,⟨m0,w0⟩,turn⟩,k⟩=>by
 refine⟨fun m σ1 H1=>∃τ1 L1,j4 H H1/\kc X.g3 H1 σ1 τ1/\jg X.g3 H1 L1/\W m τ1 L1,⟨m0,τ,L,DW _,rs,rl,w0⟩,?_⟩;rintro m σ1 H1 ⟨τ1,L1,t1,rs1,rl1,w1⟩;refine⟨τ1,L1,_,rs1,rl1,turn m τ1 L1 w1,fun b H2 L2 t2 rl2 z2=>?_⟩;cases b with
 |false=>rw[Ay AB];exact k.nx _ H2 _ L2 (t1.trans t2) (rs1.ts t2) rl2 z2
 |true=>
  rw[AA rfl];obtain⟨N,hN,z2⟩:=z2;refine⟨fun σ' H'=>∃τ' L',j4 H H'/\kc X.g3 H' σ' τ'/\jg X.g3 H' L'/\N τ' L',?_,?_⟩
  ·rintro σ' H' ⟨τ',L',t',rs',rl',n'⟩;obtain⟨m',hm,w'⟩:=hN τ' L' n';exact⟨m',hm,τ',L',t',rs',rl',w'⟩
  ·have nx:l7 X.g3 H2 (cR N) (fun σ' H'=>∃τ' L',j4 H H'/\kc X.g3 H' σ' τ'/\jg X.g3 H' L'/\N τ' L'):=fun σ' H' τ' L' t' rs' rl' ⟨L5,s5,n'⟩=>⟨τ',L5,(t1.trans t2).trans t',rs',rl'.sub s5,n'⟩;have k2:=k.ts (t1.trans t2);exact⟨τ1,L2,_,rs1.ts t2,rl2,z2,nx,k2.rt,k2.nx,nx⟩
theorem wz{wi:TI3}(hp:PassesOwn (model X.prog X.w) X.A X.env X.xe)(hc:X.calm=true)(hi:QI X tg iter wi)(hg:QG X tg g)(hb:sI X body t)(hs:∀x,foldedSetIterable iter X.env x=pure x:=by intro _;rfl):
 QS X (.For tg iter body [] pos) (gR wi g t):=EG (aim hp hc hi hg hb hs) fun D σ H ⟨τ,L,D3,rs,rl,z,k⟩=>by
 refine⟨τ,L,_,rs,rl,z,fun J H1 ys keep L1 t1 rl1 yl zz=>?_⟩;obtain⟨W,w0,wk,turn,js⟩:=aa1 zz;refine⟨fun i m σ' H'=>∃τ' L',i+m=ys.length/\j4 H1 H'/\kc X.g3 H' σ' τ'/\jg X.g3 H' L'/\W i τ' L',⟨ys.length,τ,L1,by omega,DW _,rs.ts t1,rl1,w0⟩,?_⟩;rintro i m σ2 H2 ⟨τ2,L2,him,t2,rs2,rl2,w2⟩;by_cases hlt:i<ys.length
 ·refine .inr ⟨yl.go i H2 L2 t2 rl2 (wk i τ2 L2 w2) hlt,fun σ' H'=>∃τ' L',j4 H1 H'/\kc X.g3 H' σ' τ'/\jg X.g3 H' L'/\W (i+1) τ' L',?_,?_⟩
  ·rintro σ' H' ⟨τ',L',t',rs',rl',w'⟩;exact⟨m - 1,by omega,τ',L',by omega,t',rs',rl',w'⟩
  ·intro x H3 y3;have ey:ys[i]?=some ys[i]:=Aj hlt;obtain⟨t3,rl3,rv3⟩:=yl.yld i H2 L2 x H3 _ t2 rl2 (wk i τ2 L2 w2) ey y3;refine⟨ys[i],τ2,L2,_,rv3,rs2.ts t3,rl3,turn i _ τ2 L2 ey w2,fun σ4 H4 τ4 L4 t4 rs4 rl4 z4=>?_⟩;have nx:l7 X.g3 H4 (cR (W (i+1))) (fun σ' H'=>∃τ' L',j4 H1 H'/\kc X.g3 H' σ' τ'/\jg X.g3 H' L'/\W (i+1) τ' L'):=fun σ' H' τ' L' t' rs' rl' ⟨L5,s5,n'⟩=>⟨τ',L5,((t2.trans t3).trans t4).trans t',rs',rl'.sub s5,n'⟩;have k2:=k.ts (t1.trans ((t2.trans t3).trans t4));exact⟨τ4,L4,_,rs4,rl4,z4,nx,k2.rt,k2.nx,nx⟩
 ·have e:i=ys.length:=by omega
  subst e;exact .inl ⟨yl.stop H2 L2 t2 rl2 (wk _ τ2 L2 w2),k.nx _ H2 _ L2 (t1.trans t2) rs2 rl2 (js τ2 L2 w2)⟩
theorem PI.imp{t u:TI}(h:PI X tg e t)(q:∀σ H Q,u σ H Q->t σ H Q):PI X tg e u:=fun pins s σ H Q I z=>h pins s σ H Q I (q σ H Q z)
theorem gn{a:Addr}{keep:ql->Prop}(h:∀H L,j4 H₀ H->jg G H L->keep L->∃xs,w4 G.K H a xs/\x4 G H ys xs):gc G H₀ (Itl G.K a) ys keep where
 go:=fun i H L t rl kp hi=>by
  obtain⟨xs,sq,r⟩:=h H L t rl kp;have:i<xs.length:=by rw[<-r.length];exact hi
  exact⟨xs,xs[i],sq,Aj this⟩
 yld:=fun i H L x H' y t rl kp hy ⟨e,f⟩=>by subst e;obtain⟨xs,sq,r⟩:=h _ L t rl kp;obtain⟨x',e',rv⟩:=r.get hy;have:=f xs sq;rw[e'] at this;cases this;exact⟨DW _,rl,rv⟩
 stop:=fun H L t rl kp=>by obtain⟨xs,sq,r⟩:=h H L t rl kp;exact⟨xs,sq,by rw[r.length];exact Al _⟩
theorem xp(h:QE X e te):QI X tg e (vq te):=PI.imp (aeo h) fun σ H R ⟨τ,L,R3,rs,rl,z,k⟩=>by
 refine⟨τ,L,_,rs,rl,z,fun v H1 y L1 t1 rl1 rv1 z1=>?_⟩;cases y with
 |ref a=>
  obtain⟨ys,keep,es,kp,hk,z2⟩:=pK z1;have hy:∀H L,j4 H1 H->jg X.g3 H L->keep L->∃xs,w4 X.K H a xs/\x4 X.g3 H ys xs:=fun H L _ rl e=>cf rl (hk L e);obtain⟨xs,sq,_⟩:=hy H1 L1 (DW _) rl1 kp;exact⟨a,rv1,⟨xs,sq⟩,k _ H1 ys _ L1 t1 rl1 (gn hy) z2⟩
 |sq ys=>
  obtain⟨a,xs,e,sf,r⟩:=rv1;exact⟨a,e,⟨xs,sf.sq⟩,k _ H1 ys (fun _=>True) L1 t1 rl1 (gn fun H L t _ _=>⟨xs,(sf.ts t).sq,r.ts t⟩) z1⟩
 |_=>exact z1.elim
theorem pJ(lo:Int)(n:Nat):gc G H₀ (Itr lo n) (aC lo n) (fun _=>True) where
 go:=fun i H L t rl kp hi=>show i<n by simpa[aC] using hi
 yld:=fun i H L x H' y t rl kp hy ⟨e,f⟩=>by
  subst e f;refine⟨DW _,rl,?_⟩;unfold aC at hy;rw[Ap] at hy;obtain⟨z,ez,e⟩:=Aw.mp hy;have:=Dk (i:=i) (n:=n) (by
   by_cases c:i<n
   ·exact c
   ·rw[BK (by simp;omega)] at ez;cases ez)
  rw[this] at ez;cases ez;subst e;rfl
 stop:=fun H L t rl kp=>by simp[aC,Itr]
theorem bN(hg:Gl X "range")(hm:X.mg "range" = none)(h:QA X [a] tr)(hs:starEach [a] X.env=[(false,eval a X.env)]:=by rfl):QI X tg (.Call (.Name "range" p) [a] [] pos) (gK tr):=
 PI.imp (vR hg hm h hs) fun σ H R ⟨τ,L,R3,rs,rl,z,k⟩=>by
 refine⟨τ,L,_,rs,rl,z,fun vs H1 ys L1 t1 rl1 rv1 z1=>?_⟩;split at z1
 ·rename_i j;obtain⟨x,rfl,r⟩:=rv1.inv1;cases r;exact⟨j,rfl,z1.1.1,z1.1.2,k _ H1 _ _ L1 t1 rl1 (pJ 0 _) z1.2⟩
 ·exact z1.elim
end
section
variable {T:List Str}{iter:Expr}{wi:TI3} 
theorem dE:QF X [] nV:=PF.imp aic fun σ H Q ⟨τ,L,Q3,rs,rl,z,k⟩=>k _ H L (DW _) rl z
theorem eS(h:QT X c tA):QF X [c] tA:=agm h
theorem af9{g2:TG}(hg2:∀v σ H Q,upG G g v σ H Q->g2 v σ H Q)(σ:L2.St)(H:Hp)(Q:VK):ou G (ow n wi g tA te) σ H Q->tLC n (upI G wi) g2 (upT G tA) (ou G te) σ H Q:=fun⟨τ,L,Q3,rs,rl,z,k⟩=>by
 refine⟨τ,L,_,rs,rl,z,fun J H1 ys keep L1 t1 rl1 yl zz=>?_⟩;obtain⟨hz,W,w0,wk,turn,js⟩:=af0 zz;refine⟨fun i m vs H'=>∃zs L',i+m=ys.length/\zs.length≤i/\j4 H1 H'/\x4 G H' zs vs/\jg G H' L'/\W i zs L',⟨ys.length,[],L1,by exact Nat.add_comm _ _,Al _,DW _,rfl,rl1,w0⟩,?_⟩;rintro i m vs H2 ⟨zs,L2,him,hzi,t2,rv2,rl2,w2⟩;by_cases hlt:i<ys.length
 ·refine .inr ⟨yl.go i H2 L2 t2 rl2 (wk i zs L2 w2) hlt,by rw[<-rv2.length];lia,?_⟩;intro x H3 y3;have ey:ys[i]?=some ys[i]:=Aj hlt;obtain⟨t3,rl3,rv3⟩:=yl.yld i H2 L2 x H3 _ t2 rl2 (wk i zs L2 w2) ey y3;refine hg2 _ _ _ _ ⟨ys[i],_,L2,_,rv3,(rs.ts ((t1.trans t2).trans t3)).more n,rl3,turn i _ zs L2 ey w2,fun σ4 H4 τ4 L4 t4 rs4 rl4 z4=>?_⟩;refine⟨τ4,L4,_,rs4,rl4,z4,fun b H5 L5 t5 rl5 z5=>?_⟩;cases b with
  |true=>
   rw[AA rfl];refine⟨τ4,L5,_,rs4.ts t5,rl5,z5,fun v6 H6 y6 L6 t6 rl6 rv6 ⟨L7,s7,z6⟩=>?_⟩;have tt:=((t3.trans t4).trans t5).trans t6;exact⟨m - 1,by omega,zs++[y6],L7,by lia,by rw[Ac,C2];exact ai0,t2.trans tt,(rv2.ts tt).app (x4.one rv6),rl6.sub s7,z6⟩
  |false=>
   rw[Ay AB];have tt:=(t3.trans t4).trans t5;obtain⟨L7,s7,z6⟩:=z5;exact⟨m - 1,by lia,zs,L7,by lia,by exact anc,t2.trans tt,rv2.ts tt,rl5.sub s7,z6⟩
 ·have ei:i=ys.length:=by lia
  subst ei;refine .inl ⟨yl.stop H2 L2 t2 rl2 (wk _ zs L2 w2),by rw[<-rv2.length];lia,fun D hD=>?_⟩;exact k _ _ _ _ ((t1.trans t2).trans (DY hD)) (rl2.newL hD rv2) (by rfl) (js zs L2 w2 D (rl2.none hD))
structure TGx(X:Cx)(scope:Scope)(T:List Str)(target:Expr)(g:i4):Prop where
 ex:∃g2:TG,(∀C fp s₀ H₀,PG (X.comp scope T C fp s₀ H₀) target g2)/\mQ g2 X.N.length T.length/\∀v σ H Q,upG X.g3 g v σ H Q->g2 v σ H Q
theorem adm(i:Nat)(v:V)(σ:L2.St)(H:Hp)(Q:L2.St->Hp->Prop):upG G (qh i) v σ H Q->cb i v σ H Q:=fun⟨y,τ,L,Q3,rv,rs,rl,z,k⟩=>
 k _ H _ L (DW _) (show kc _ _ _ (df τ i y) by rw[aM];exact rs.set rv) rl z
theorem xb(hN:(X.N++[x]).Nodup)(hl:∀C fp s₀ H₀,ym (X.comp scope [x] C fp s₀ H₀).env.scope x)(hfn:∀C fp s₀ H₀,(X.comp scope [x] C fp s₀ H₀).env.scope.names.lookup x=some .local):TGx X scope [x] (.Name x p) (qh X.N.length):=
 ⟨cb X.N.length,fun C fp s₀ H₀=>iZ (X:=X.comp scope [x] C fp s₀ H₀) hN (by show(X.N++[x])[X.N.length]?=some x;simp) (hl C fp s₀ H₀) (.inr (hfn C fp s₀ H₀)),tE _,adm _⟩
theorem xH{K:Ah}(n:Nat):mQ (ai5 K 2 (r9 (cb n) (r9 (cb (n+1)) ai6))) n 2:=by
 rintro σ hl x H Q ⟨a,xs,e,sq,len,v,r,e1,w,r',e2,e3,q⟩;refine⟨a,xs,e,sq,len,v,r,e1,w,r',e2,e3,⟨by simp[hl],fun i u ei=>?_⟩,q⟩;have hi:i<n:=by
  by_cases c:i<n
  ·exact c
  ·rw[Ar (by lia),Cc] at ei;split at ei<;>cases ei
 rw[Bl (by lia),Bl (by exact agh)];exact ei
theorem ah5(i j:Nat)(v:V)(σ:L2.St)(H:Hp)(Q:L2.St->Hp->Prop):upG G (cO 2 (jd (qh i) (jd (qh j) ae))) v σ H Q->ai5 G.K 2 (r9 (cb i) (r9 (cb j) ai6)) v σ H Q:=fun⟨y,τ,L,Q3,rv,rs,rl,z,k⟩=>by
 cases y with
 |tup ys=>
  obtain⟨a,xs,rfl,sq,r⟩:=rv;have z':(match ys.length==2 with | true=>jd (qh i) (jd (qh j) ae) ys τ L Q3 | false=>False):=z;split at z'
  ·rename_i e;have hl:ys.length=2:=beq_iff_eq.mp e
   match ys,hl with
   |[y1,y2],_=>
    obtain⟨x1,x2,rfl,r1,r2⟩:=r.inv2;have z2:Q3 (df (df τ i y1) j y2) L:=z';exact⟨a,_,rfl,sq,rfl,x1,[x2],rfl,x2,[],rfl,rfl,k _ H _ L (DW _) (by rw[aM,aM];exact(rs.set r1).set r2) rl z2⟩
  ·exact z'.elim
 |_=>exact z.elim
theorem aep{y:Str}{p' pt:Pos}{kt:Nat}(hc:X.calm=true)(hN:(X.N++[x,y]).Nodup)(hl:∀C fp s₀ H₀,(X.comp scope [x,y] C fp s₀ H₀).env.scope.names.lookup x=some .local)(hl2:∀C fp s₀ H₀,(X.comp scope [x,y] C fp s₀ H₀).env.scope.names.lookup y=some .local)
 (h1:∀env,(assignEach [.Name x p,.Name y p'] env).length=2:=by intro _;rfl) (h2:∀env,(assignEach [.Name x p,.Name y p'] env).findIdx? (·.1)=none:=by intro _;rfl)
 (h3:∀env,(assignEach [.Name x p,.Name y p'] env).map (·.2)=assign (.Name x p) env::(assignEach [.Name y p'] env).map (·.2):=by intro _;rfl) (h4:∀env,(assignEach [.Name y p'] env).map (·.2)=assign (.Name y p') env::(assignEach [] env).map (·.2):=by intro _;rfl):
 TGx X scope [x,y] (.Tuple [.Name x p,.Name y p'] kt pt) (cO 2 (jd (qh X.N.length) (jd (qh (X.N.length+1)) ae))):=
 ⟨_,fun C fp s₀ H₀=>yi (X:=X.comp scope [x,y] C fp s₀ H₀) hc (kQ (iZ hN (by show(X.N++[x,y])[X.N.length]?=some x;simp) (.inl (hl C fp s₀ H₀)) (.inr (hl C fp s₀ H₀))) (kQ (iZ hN (by show(X.N++[x,y])[X.N.length+1]?=some y;simp) (.inl (hl2 C fp s₀ H₀)) (.inr (hl2 C fp s₀ H₀))) u9 (h4 _)) (h3 _)) (h1 _) (h2 _),xH _,ah5 _ _⟩
theorem cT(T:List Str)(S:j6 X scope)(hc:X.calm=true)(hi:QI X target iter wi)(hg:TGx X scope T target g)
 (hf:∀C fp s₀ H₀,QF (X.comp scope T C fp s₀ H₀) ifs tA) (he:∀C fp s₀ H₀,QE (X.comp scope T C fp s₀ H₀) elt te)
 (hs:∀x,foldedSetIterable iter X.env x=pure x:=by intro _;rfl):QE X (.ListComp elt [⟨target,iter,ifs,0⟩] scope pos) (ow T.length wi g tA te):=by
 obtain⟨g2,h1,h2,h3⟩:=hg.ex;exact DZ (akq T S hc hi h1 h2 hf he hs) (af9 h3)
theorem fH(T:List Str){px lp:Pos}(hN:X.N.Nodup)(hix:X.N[i]?=some x)(hx:ym X.env.scope x)(S:j6 X scope)(hc:X.calm=true)(hi:QI X target iter wi)
 (hg:TGx X scope T target g) (hf:∀C fp s₀ H₀,QF (X.comp scope T C fp s₀ H₀) ifs tA) (he:∀C fp s₀ H₀,QE (X.comp scope T C fp s₀ H₀) elt te)
 (hsw:swapsWith (.ListComp elt [⟨target,iter,ifs,0⟩] scope lp) (some (.Name x px)) pos.line X.env=pure true:=by rfl)
 (hfn:X.fn x=true\/X.env.scope.names.lookup x=some .local:=by first | exact .inl rfl | exact .inr rfl | assumption)
 (hs:∀x,foldedSetIterable iter X.env x=pure x:=by intro _;rfl):QS X (.Assign [.Name x px] (.ListComp elt [⟨target,iter,ifs,0⟩] scope lp) pos) (zw (ow T.length wi g tA te) (qh i)):=by
 obtain⟨g2,h1,h2,h3⟩:=hg.ex;refine EG (yZ (tc:=upT X.g3 tA) (te:=ou X.g3 te) T hN hix hx S hc hi h1 h2 hf he hsw hfn hs) fun D σ H ⟨τ,L,D3,rs,rl,z,k⟩=>?_;refine af9 h3 σ H _ ⟨τ,L,_,rs,rl,z,fun v H1 y L1 t1 rl1 rv1 z1=>?_⟩;exact k.nx _ H1 _ L1 t1 (show kc _ _ _ (df τ i y) by rw[aM];exact(rs.ts t1).set rv1) rl1 z1
def dn(G:G3)(sp:ja):Sp:=fun vs H Q _=>∃ys L Q3,x4 G H ys vs/\jg G H L/\sp ys L Q3/\yN G H Q3 Q
abbrev aix(P:Program)(w:World)(K:Ah)(mg:Str->Option Value)(base:Heap)(k:Nat)(x:Str)(ps:List Str)(sp:ja):Prop:=yO P w K mg base k x ps (dn ⟨K,P,w⟩ sp)
abbrev Fn3(P:Program)(w:World)(K:Ah)(mg:Str->Option Value)(base:Heap)(k:Nat)(f:Addr)(fd:FuncData)(ps:List Str)(sp:ja):Prop:=az P w K mg base CX0 k f fd ps (dn ⟨K,P,w⟩ sp)
theorem am9{k:Nat}{sp:ja}(c:aix X.prog X.w X.K X.mg X.base k x ps sp)(hr:wy k X.A)(hg:Gl X x)(ha:QA X (e::es) tr)(hdb:Ed x:=by decide)
 (he:Eb e es X:=by rfl) (hpl:Ec pos es X:=by rfl):QE X (.Call (.Name x p) (e::es) [] pos) (qp sp tr):=
 DZ (ann c hr hg ha hdb he hpl) fun σ H Q ⟨τ,L,Q3,rs,rl,z,k⟩=>
 ⟨τ,L,_,rs,rl,z,fun vs H1 ys L1 t1 rl1 rv1 z1=>⟨ys,L1,Q3,by rw[AV];exact rv1,rl1,z1,k.ts t1⟩⟩
def eJ(Q:YK):YK:=fun y L=>∃L2,qi L2 L/\Q y L2
def gM(N:List Str)(ys:List Y):jk:=ys.map some++List.replicate (N.length - ys.length) none
theorem mx{N:List Str}{vs:List V}(r:x4 G H ys vs):kc G H (L2.start N vs) (gM N ys):=by unfold L2.start gM;rw[<-r.length];refine kc.more ⟨by simp[r.length],fun i y e=>?_⟩ _;rw[Ap] at e;obtain⟨y',e1,e2⟩:=Aw.mp e;cases e2;obtain⟨x,ex,rx⟩:=r.get e1;exact⟨x,by rw[Ap,ex];rfl,rx⟩
theorem ok3{P:Program}{w:World}{K:Ah}{N:List Str}{k:Nat}{sp:ja}(F:Fun K x qual st f fd)(S:aI N ps (qx st))(len:∀ys L Q,sp ys L Q->ys.length=ps.length)
 (hbody:∀(cdv:Value) (A:Around) (outer:List Env) (s:Shared) (H:Hp) (E:XK),wy k (A.deeper (PyProof.Rows.envOfC qual (qx st) s.heap.objs.size f cdv))->
  ∃t,sI (iL CX0 P w K mg base N qual (qx st) f cdv A outer s H E).nox (jh st) t/\∀ys L Q,sp ys L Q->t { nx:=fun _ L'=>eJ Q .non L',rt:=eJ Q } (gM N ys) L):Fn3 P w K mg base (k+1) f fd ps sp:=by
 refine F.ok S (fun vs H Q E ⟨ys,L,Q3,rv,rl,z,_⟩=>by rw[<-rv.length];exact len ys L Q3 z) fun cdv A outer s H vs Q E hr ⟨ys,L,Q3,rv,rl,z,k⟩=>?_;obtain⟨t,ht,q⟩:=hbody cdv A outer s H E hr;refine⟨_,ht,gM N ys,L,_,mx rv,rl,q ys L Q3 z,?_⟩;refine⟨fun σ H' τ L' t' rs' rl' ⟨L2,s2,q2⟩=>k .non H' .non L2 t' (rl'.sub s2) (by rfl) q2,fun v H' y L' t' rl' rv' ⟨L2,s2,q2⟩=>k v H' y L2 t' (rl'.sub s2) rv' q2,fun _ _ _ _ _ _ _ z=>z.elim,fun _ _ _ _ _ _ _ z=>z.elim⟩
def upM(G:G3)(r:Y->List Y->ql->YK->Prop):V->List V->Hp->VK->Prop:=fun x xs H Q=>∃y ys L Q3,RV G H y x/\x4 G H ys xs/\jg G H L/\r y ys L Q3/\yN G H Q3 Q
theorem aas:jA X "list.append" (upM X.g3 j8):=jA.imp xL fun x xs H Q ⟨y,ys,L,Q3,r1,r2,rl,z,k⟩=>by
 unfold j8 at z;split at z
 ·rename_i a v;obtain⟨zs,e,z⟩:=jy z;obtain⟨us,e2,r⟩:=rl a _ e;obtain⟨v',rfl,rv⟩:=r2.inv1;exact⟨a,us,v',r1,rfl,e2,by rw[<-r.length];exact z.1,k _ _ _ _ (EK e2) (rl.setL e2 (r.app (x4.one rv))) (by rfl) z.2⟩
 ·exact z.elim
theorem y4:jA X "list.extend" (upM X.g3 a9):=jA.imp yG fun x xs H Q ⟨y,ys,L,Q3,r1,r2,rl,z,k⟩=>by
 unfold a9 at z;split at z
 ·rename_i a b;obtain⟨zs,e,z⟩:=jy z;obtain⟨us,e',z⟩:=jy z;obtain⟨vs,e2,r⟩:=rl a _ e;obtain⟨ws,e3,r'⟩:=rl b _ e';obtain⟨v',rfl,rv⟩:=r2.inv1;cases rv;exact⟨a,b,vs,ws,r1,rfl,e2,e3,by rw[<-r.length,<-r'.length];exact z.1,k _ _ _ _ (EK e2) (rl.setL e2 (r.app r')) (by rfl) z.2⟩
 ·exact z.elim
theorem ak3:jA X "list.pop" (upM X.g3 yA):=jA.imp ag6 fun x xs H Q ⟨y,ys,L,Q3,r1,r2,rl,z,k⟩=>by
 unfold yA at z;split at z
 ·rename_i a;obtain⟨zs,e,z⟩:=jy z;obtain⟨us,e2,r⟩:=rl a _ e;cases (show xs=[] from r2);cases el:zs[zs.length - 1]? with
  |none=>rw[el] at z;exact z.elim
  |some v=>
   rw[el] at z;obtain⟨u,eu,ru⟩:=r.get el;rw[r.length] at eu;exact⟨a,us,u,r1,rfl,e2,eu,k _ _ _ _ (EK e2) (rl.setL e2 r.dropLast) (ru.ts (EK e2)) z⟩
 ·exact z.elim
theorem uT{a:Addr}(rl:jg G H L)(h:ay L (.ref a)=some ys):tyV G.K "list" (.ref a) H:=by obtain⟨xs,sq,_⟩:=cf rl h;exact .inl ⟨rfl,xs,sq⟩
def aq(r:Y->List Y->ql->YK->Prop)(to:x5)(t:eU)(τ:jk)(L:ql)(Q:YK):Prop:=to τ L fun x L1=>match x with
 |.ref a=>dX L1 (.ref a) fun _=>t τ L1 fun xs L2=>r (.ref a) xs L2 Q
 |_=>False
theorem ol{id:String}{r:Y->List Y->ql->YK->Prop}(h2:Slot "list" name id)(h3:typeOf (.builtin id)=pure (.type "method_descriptor"))(hm:jA X id (upM X.g3 r))(ho:QE X o to)(ha:QA X (e::es) tr)
 (h4:attributeBase o name X.env (eval o X.env)=eval o X.env:=by rfl)
 (h5:((backTo cpos (starEach (e::es) X.env)).all (fun x=>!x.1)&&(backToKw cpos (keywordEach [] X.env)).all (fun x=>x.1.isSome)&&decide ((e::es).length+([]:List Keyword).length+(if ([]:List Keyword).isEmpty=true then 0 else 1)<30))=true:=by rfl)
 (h6:(apos.endLine==cpos.line)=true:=by rfl) (h7:Eb e es X:=by rfl) (h8:Ec cpos es X:=by rfl):
 QE X (.Call (.Attribute o name apos) (e::es) [] cpos) (aq r to tr):=DZ (afb DB h2 h3 hm ho ha h4 h5 h6 h7 h8) fun σ H Q ⟨τ,L,Q3,rs,rl,z,k⟩=>
 ⟨τ,L,_,rs,rl,z,fun v H1 y L1 t1 rl1 rv1 z1=>by
  split at z1
  ·rename_i a;obtain⟨ys,es,z1⟩:=v5 z1;exact⟨by cases rv1;exact uT rl1 es,τ,L1,_,rs.ts t1,rl1,z1,fun vs H2 ys L2 t2 rl2 rv2 z2=>⟨.ref a,ys,L2,Q3,rv1.ts t2,rv2,rl2,z2,k.ts (t1.trans t2)⟩⟩
  ·exact z1.elim⟩
theorem agc{id:String}{r:Y->List Y->ql->YK->Prop}(h2:Slot "list" name id)(h3:typeOf (.builtin id)=pure (.type "method_descriptor"))(hm:jA X id (upM X.g3 r))(ho:QE X o to)
 (h4:attributeBase o name X.env (eval o X.env)=eval o X.env:=by rfl) (h6:(apos.endLine==cpos.line)=true:=by rfl):
 QE X (.Call (.Attribute o name apos) [] [] cpos) (aq r to z9):=DZ (ahb DB h2 h3 hm ho h4 h6) fun σ H Q ⟨τ,L,Q3,rs,rl,z,k⟩=>
 ⟨τ,L,_,rs,rl,z,fun v H1 y L1 t1 rl1 rv1 z1=>by
  split at z1
  ·rename_i a;obtain⟨ys,es,z1⟩:=v5 z1;exact⟨by cases rv1;exact uT rl1 es,.ref a,[],L1,Q3,rv1,rfl,rl1,z1,k.ts t1⟩
  ·exact z1.elim⟩
theorem zk(ho:QE X o to)(ha:QA X (e::es) tr)(h4:attributeBase o "append" X.env (eval o X.env)=eval o X.env:=by rfl)
 (h5:((backTo cpos (starEach (e::es) X.env)).all (fun x=>!x.1)&&(backToKw cpos (keywordEach [] X.env)).all (fun x=>x.1.isSome)&&decide ((e::es).length+([]:List Keyword).length+(if ([]:List Keyword).isEmpty=true then 0 else 1)<30))=true:=by rfl)
 (h6:(apos.endLine==cpos.line)=true:=by rfl) (h7:Eb e es X:=by rfl) (h8:Ec cpos es X:=by rfl):
 QE X (.Call (.Attribute o "append" apos) (e::es) [] cpos) (aq j8 to tr):=ol PySem.F.slot_list_append PySem.F.type_list_append aas ho ha h4 h5 h6 h7 h8
theorem bH(ho:QE X o to)(ha:QA X (e::es) tr)(h4:attributeBase o "extend" X.env (eval o X.env)=eval o X.env:=by rfl)
 (h5:((backTo cpos (starEach (e::es) X.env)).all (fun x=>!x.1)&&(backToKw cpos (keywordEach [] X.env)).all (fun x=>x.1.isSome)&&decide ((e::es).length+([]:List Keyword).length+(if ([]:List Keyword).isEmpty=true then 0 else 1)<30))=true:=by rfl)
 (h6:(apos.endLine==cpos.line)=true:=by rfl) (h7:Eb e es X:=by rfl) (h8:Ec cpos es X:=by rfl):
 QE X (.Call (.Attribute o "extend" apos) (e::es) [] cpos) (aq a9 to tr):=ol PySem.F.slot_list_extend PySem.F.type_list_extend y4 ho ha h4 h5 h6 h7 h8
theorem yw(ho:QE X o to)(h4:attributeBase o "pop" X.env (eval o X.env)=eval o X.env:=by rfl)(h6:(apos.endLine==cpos.line)=true:=by rfl):
 QE X (.Call (.Attribute o "pop" apos) [] [] cpos) (aq yA to z9):=agc PySem.F.slot_list_pop PySem.F.type_list_pop ak3 ho h4 h6
end
abbrev iR:mV:=yI0 fun i j=>.int (i - j)
abbrev sM:mV:=yI zJ fun i j=>.int (i*j)
abbrev bC:mV:=yI aio fun i j=>.int (i / j)
abbrev w6:mV:=yI (fun _ j=>0<j) fun i j=>.int (i % j)
abbrev anr:mV:=yI agu fun i j=>.int (i ^ j.toNat)
abbrev yLt:mV:=yI0 fun i j=>.bl (decide (i<j))
abbrev yLe:mV:=yI0 fun i j=>.bl (decide (i≤j))
abbrev yGt:mV:=yI0 fun i j=>.bl (decide (j<i))
structure ais(G:G3)(mg:Str->Option Value)(x:Str)(y:Y):Prop where
 ex:∃c,mg x=some (.ref c)/\∀H,RV G H y (.ref c)
theorem ab5(t:ais X.g3 X.mg x y)(hg:Gl X x)(hd:Ed x:=by decide):QE X (.Name x pos) (yC y):=by obtain⟨c,hm,q⟩:=t.ex;exact aka hg hm q hd
def afz(kvs:List (Str×Str)):LO:=.dct (kvs.map fun p=>(Sum.inr p.1,Y.str p.2))
def afy(kvs:List (Str×Str))(_:jk)(L:ql)(Q:YK):Prop:=∀p,L p=none->Q (.ref p) (qf L p (afz kvs))
def kvV(kvs:List (Str×Str)):List (zq×V):=kvs.map fun p=>(Sum.inr p.1,V.str p.2)
theorem qD{σ:L2.St}{H:Hp}{Q:List (V×V)->Hp->Prop}:∀{kvs:List (Str×Str)},Q (kvs.map fun p=>(V.str p.1,V.str p.2)) H->nK (kvs.map fun p=>(tC (.str p.1),tC (.str p.2))) σ H Q
 |[],h=>h
 |_::r,h=>qD (kvs:=r) h
theorem uM{G:G3}{H:Hp}:∀kvs:List (Str×Str),Paired (fun(p:zq×Y) (q:zq×V)=>p.1=q.1/\RV G H p.2 q.2) (kvs.map fun p=>(Sum.inr p.1,Y.str p.2)) (kvV kvs)
 |[]=>.nil
 |_::r=>.cons ⟨rfl,rfl⟩ (uM r)
theorem adx{keys:List (Option Expr)}{values:List Expr}(kvs:List (Str×Str))(h:PPs X pos keys values (kvs.map fun p=>(tC (.str p.1),tC (.str p.2))))(h1:(keys.all fun x=>x.isSome)=true)(h2:keys.length=values.length)(h3:keys≠[])(h4:keys.length≤15)
 (h5:kvs.length≤15:=by decide) (nd:fk [] (kvV kvs)=kvV kvs:=by decide +kernel):QE X (.Dict keys values pos) (afy kvs):=DZ (ado h h1 h2 h3 h4) fun σ H Q ⟨τ,L,Q3,rs,rl,z,k⟩=>by
 intro p hp;refine qD ⟨zv,kvV kvs,by simp[kvV,kV],by simpa[kvV] using h5,?_⟩;rw[nd,adp];refine k _ _ _ (qf L p (afz kvs)) (DY hp) ?_ (by rfl) (z p (rl.none hp));intro a u e;by_cases c:a=p
 ·subst c;rw[q9] at e;cases e;exact⟨kvV kvs,zv,uM kvs⟩
 ·rw[qa c] at e;exact(rl a u e).keep (DY hp) (qu c)
theorem fS{Q:α->ql->Prop}{o:Option α}(h:sd L Q o):∃v,o=some v/\Q v L:=by cases o with|none=>exact h.elim|some v=>exact⟨v,rfl,h⟩
theorem hG{kvs:List (Str×Str)}{k:Str}(h:kvs.lookup k=some x):v3 (kvs.map fun p=>((Sum.inr p.1:zq),Y.str p.2)) (Sum.inr k)=some (Y.str x):=by
 induction kvs with
 |nil=>simp at h
 |cons p r ih=>
  obtain⟨a,b⟩:=p;unfold v3;rw[AO,Bp];rw[Bs] at h;by_cases c:k=a
  ·subst c;simp at h;simp[h]
  ·have c1:(k==a)=false:=by simpa using c
   rw[c1] at h;have c2:decide ((Sum.inr a:zq)=Sum.inr k)=false:=Az fun z=>c (Sum.inr.inj z).symm;simp only[c2];exact ih h
theorem uS(h:(aC lo n)[i]?=some y):i<n/\y=.int (lo+i):=by
 unfold aC at h;rw[Ap] at h;obtain⟨z,ez,e⟩:=Aw.mp h;have hi:i<n:=by
  by_cases c:i<n
  ·exact c
  ·rw[BK (by simp;exact zL)] at ez;cases ez
 rw[Dk hi] at ez;cases ez;exact⟨hi,e.symm⟩
theorem jL(lo:Int)(n:Nat):(aC lo n).length=n:=by simp[aC]
theorem adt{tb:kg}(W:Nat->jk->ql->Prop)(h0:W 0 τ L)
 (hs:∀i τ L,i<n->W i τ L->g (.int (lo+i)) τ L fun τ2 L2=>tb { D with nx:=cR (W (i+1)),ct:=cR (W (i+1)),bk:=D.nx } τ2 L2) (hd:∀τ L,W n τ L->D.nx τ L):rM (aC lo n) (fun _=>True) g tb D τ L:=by
 refine kj ⟨W,h0,fun _ _ _ _=>trivial,fun i y τ L e w=>?_,fun τ L w=>hd τ L (by rw[jL] at w;exact w)⟩;obtain⟨hi,rfl⟩:=uS e;exact hs i τ L hi w
theorem abo{a:Addr}{v:Y}{Q:YK}(e:L a=some (.lst (ys++[v])))(q:Q v (qf L a (.lst ys))):dX L (.ref a) (fun _=>z9 τ L fun xs L2=>yA (.ref a) xs L2 Q):=by
 refine qd e (qy e ?_);have:(ys++[v])[(ys++[v]).length - 1]?=some v:=by simp
 rw[this,List.dropLast_concat];exact q
theorem acf{tb:kg}{a:Addr}(h:ay L (.ref a)=some ys)(W:Nat->jk->ql->Prop)(h0:W 0 τ L)(hk:∀i τ L',W i τ L'->L' a=L a)
 (hs:∀i y τ L,ys[i]?=some y->W i τ L->g y τ L fun τ2 L2=>tb { D with nx:=cR (W (i+1)),ct:=cR (W (i+1)),bk:=D.nx } τ2 L2) (hd:∀τ L,W ys.length τ L->D.nx τ L):
 pD L a fun ys keep L1=>rM ys keep g tb D τ L1:=x0 (gA h) fun keep kp=>kj ⟨W,h0,fun i τ L' w=>kp L' (hk i τ L' w),hs,hd⟩
theorem aj{keep:ql->Prop}{Q:YK}(I:Nat->List Y->Prop)(hz:ys.length<sizeLine)(hk:keep L)(h0:I 0 [])
 (turn:∀(i:Nat) y zs,ys[i]?=some y->I i zs->g y (τ++List.replicate n none) L fun τ2 L2=>tc τ2 L2 fun b L3=>ko b (te τ2 L3 fun z L4=>cR (fun zs L'=>L'=L/\I (i+1) zs) (zs++[z]) L4) (cR (fun zs L'=>L'=L/\I (i+1) zs) zs L3))
 (hq:∀zs,I ys.length zs->∀p,L p=none->Q (.ref p) (qf L p (.lst zs))):lcK ys keep n g tc te τ L Q:=by
 refine zT ⟨hz,fun i zs L'=>L'=L/\I i zs,⟨rfl,h0⟩,?_,?_,?_⟩
 ·rintro i zs L' ⟨rfl,_⟩;exact hk
 ·rintro i y zs L' ey ⟨rfl,hI⟩;exact turn i y zs ey hI
 ·rintro zs L' ⟨rfl,hI⟩ p hp;exact hq zs hI p hp
theorem oB{Q:YK}(I:Nat->List Y->Prop)(hz:m<sizeLine)(h0:I 0 [])
 (turn:∀(i:Nat) zs,i<m->I i zs->g (.int (lo+i)) (τ++List.replicate n none) L fun τ2 L2=>tc τ2 L2 fun b L3=>ko b (te τ2 L3 fun z L4=>cR (fun zs L'=>L'=L/\I (i+1) zs) (zs++[z]) L4) (cR (fun zs L'=>L'=L/\I (i+1) zs) zs L3))
 (hq:∀zs,I m zs->∀p,L p=none->Q (.ref p) (qf L p (.lst zs))):lcK (aC lo m) (fun _=>True) n g tc te τ L Q:=by
 refine aj (keep:=fun _=>True) I (by rw[jL];exact hz) trivial h0 (fun i y zs e hI=>?_) fun zs hI=>hq zs (by rw[jL] at hI;exact hI);obtain⟨hi,rfl⟩:=uS e;exact turn i zs hi hI
theorem vi{ws:List α}{f:α->Y}{w:α}(h:ws[i]?=some w):fv (ws.map f) (i:Int)=some (f w):=vh (by rw[Ap,h];rfl)
def jx(t:kg)(n:Nat)(ys:List Y)(L:ql)(Q:YK):Prop:=t { nx:=fun _ L'=>eJ Q .non L',rt:=eJ Q } (ys.map some++List.replicate (n - ys.length) none) L
theorem js{Q:YK}(h:Q y L):eJ Q y L:=⟨L,DX L,h⟩
theorem bK{Q:YK}(s:qi L L')(h:Q y L):eJ Q y L':=⟨L,s,h⟩
theorem Fn3.never{P:Program}{w:World}{K:Ah}{k:Nat}{sp:ja}(no:∀ys L Q,¬sp ys L Q):Fn3 P w K mg base k f fd ps sp:=
 az.never fun vs H Q E ⟨ys,L,Q3,_,_,z,_⟩=>no ys L Q3 z
theorem qi.upd{a:Addr}{o:LO}(s:qi L L')(h:L a=none):qi L (qf L' a o):=fun b u e=>by rw[qa (ke e h)];exact s b u e
theorem qi.put{a:Addr}{o:LO}(s:qi L L')(h:L' a=some o):qi (qf L a o) L':=fun b u e=>by
 by_cases c:b=a
 ·subst c;rw[q9] at e;cases e;exact h
 ·rw[qa c] at e;exact s b u e
theorem rK{G:G3}{H:Hp}:∀ns:List Int,x4 G H (ns.map Y.int) (ns.map V.int)
 |[]=>rfl
 |_::r=>⟨_,_,rfl,rfl,rK r⟩
end L3
namespace L2
open PySem PySem.Spec PyProof.Rows
section
variable {σ:L2.St} 
theorem lL(I:z0 X pins σ H s)(hf:∀b∈fp,H b=none)(k:∀b o,b∉fp->s.heap.get? b=some o->h'.get? b=some o):dq X.prog X.w H h':=fun b u e=>by
 refine(I.hok b u e).stay (fun c v hc q=>k c v (fun z=>?_) q) (fun _ q=>q) fun _ _ q=>q;have hn:=hf c z;rcases hc with w | w
 ·rw[w,e] at hn;cases hn
 ·rw[w] at hn;cases hn
theorem yH{fs:List Addr}(k:∀b o,b∉fp->h.get? b=some o->h'.get? b=some o):Un fs fp H H h h':=
 ⟨fun b o q _ _ x=>k b o x q,fun b o q _ _ x=>⟨o.slots,k b o x q⟩,fun _ _ _ n _=>n,fun b o q x=>⟨o,k b o x q⟩,fun _ _ q=>q,fun _ _ _ q=>q,fun b ps q=>⟨#[],by rw[q];simp⟩⟩
theorem z0.turnedL(I:z0 X pins σ H s)(k:∀b o,b∉fp->s.heap.get? b=some o->h'.get? b=some o)(hf:∀b∈fp,l0 X pins H b)(ht:0<t':=by walk_at "t"):z0 X pins σ H { s with heap:=h',toks:=t' }:=
 I.call' (s':={ s with heap:=h',toks:=t' }) (ch:=fp) rfl (yH k) (lL I (fun b hb=>(hf b hb).1) k) I.bare fun b hb=>⟨(hf b hb).2.2.2.1,(hf b hb).2.1,(hf b hb).2.2.2.2.1,(hf b hb).2.2.2.2.2⟩
theorem z0.turnedN{a:Addr}{o:HO}(I:z0 X pins σ H s)(k:∀b o,b∉fp->s.heap.get? b=some o->h'.get? b=some o)(hf:∀b∈fp,l0 X pins H b)(ha:s.heap.objs.size≤a)
 (new:xa X.prog X.w (upd H a o) h' a o) (ht:0<t':=by walk_at "t"):z0 X pins σ (upd H a o) { s with heap:=h',toks:=t' }:=by
 have hn:H a=none:=I.hok.fresh ha;have lt:∀b ob,s.heap.get? b=some ob->b≠a:=fun b ob q=>A9 (AM (Heap.lt_size q) ha);refine I.call' (s':={ s with heap:=h',toks:=t' }) (ch:=fp) rfl ?_ ?_ I.bare fun b hb=>⟨(hf b hb).2.2.2.1,(hf b hb).2.1,(hf b hb).2.2.2.2.1,(hf b hb).2.2.2.2.2⟩
 ·exact⟨fun b ob q _ _ x=>k b ob x q,fun b ob q _ _ x=>⟨ob.slots,k b ob x q⟩,fun b ob q n _=>by rw[qu (lt b ob q)];exact n,fun b ob q x=>⟨ob,k b ob x q⟩,
   fun b xs q=>by rw[qu (zp q hn)];exact q,fun b ob u q=>by rw[qu (zp q hn)];exact q,fun b ps q=>⟨#[],by rw[qu (zp q hn),q];simp⟩⟩
 ·intro b u e;by_cases hb:b=a
  ·subst hb;rw[zv] at e;cases e;exact new
  ·rw[qu hb] at e;have ok:=lL I (h':=h') (fun b hb=>(hf b hb).1) k b u e;exact ok.stay (fun _ _ _ q=>q) (fun c q=>by rw[qu (zp q hn)];exact q) fun c xs q=>by rw[qu (zp q hn)];exact q
end
def Ite(K:Ah)(a:Addr):It:=
 ⟨fun i H=>∃xs x,w4 K H a xs/\xs[i]?=some x,fun i H v H'=>∃p x,H p=none/\v=.ref p/\H'=upd H p (.tup [.int i,x])/\∀xs,w4 K H a xs->xs[i]?=some x,fun i H=>∃xs,w4 K H a xs/\xs.length≤i⟩
theorem xZ{P:Program}{w:World}{K:Ah}(a e it:Addr)(hne:e≠it):yJ P w K (.Tuple elts x1 tp) (Ite K a) [e,it] e (fun i h=>(∃old,IsEnum h e it i old)/\h.IsListIter it a i) where
 mem:=by simp
 obj:=fun i h ⟨⟨old,he⟩,hi⟩ b hb=>by
  rcases Au.mp hb with rfl | hb
  ·exact⟨_,he,fun v z=>by cases z⟩
  ·cases Ao.mp hb;obtain⟨o,ho,hc,hd⟩:=hi;exact⟨o,ho,fun v z=>by rw[hd] at z;cases z⟩
 keep:=fun i h h' ⟨⟨old,he⟩,hi⟩ k=>⟨⟨old,k e (by simp) _ he⟩,hi.at fun o q=>k it (by simp) o q⟩
 item:=by
  intro X hP hw hK hc i pins s σ H E I hf ⟨⟨old,he⟩,hi⟩ hg;subst hP hw hK;obtain⟨xs,x,hq,hx⟩:=hg;obtain⟨its,rv,p,hz⟩:=I.list hq;obtain⟨u,hu,ru⟩:=rv.get hx;refine wpAny_pyNext_enum_item he hi p.isList (x:=u) (by simpa using hu) hne fun h1 heo hi1 ht hz1 hk=>⟨.ref s.heap.objs.size,rfl,wpAny_letOwnedTupleGo_enum heo fun h2 he2 hs2=>?_⟩;have el:e<s.heap.objs.size:=Heap.lt_size he;have il:it<s.heap.objs.size:=by obtain⟨o,ho,_⟩:=hi;exact Heap.lt_size ho
  have kk:∀b o,b∉[e,it]->s.heap.get? b=some o->h2.get? b=some o:=fun b o nb q=>by have n1:b≠e:=fun z=>nb (by simp[z]);have n2:b≠it:=fun z=>nb (by simp[z]);exact hs2.extBut b o n1 (hk b o n1 n2 q)
  have tg:h2.get? s.heap.objs.size=some { cls:=.type "tuple",data:=.seq #[.int i s.toks,u] }:=hs2.extBut _ _ (CS el) ht;refine⟨.ref s.heap.objs.size,upd H s.heap.objs.size (.tup [.int i,x]),?_,rfl,⟨_,x,I.hok.fresh (Al _),rfl,rfl,fun ys hy=>by rw[I.list_inj hy hq];exact hx⟩,⟨⟨_,he2⟩,hi1.at fun o q=>hs2.extBut _ _ (AK hne) q⟩,fun b hb=>?_⟩
  ·exact I.turnedN (t':=s.toks+1) kk hf (Al _) ⟨by show 2≤sizeLine;decide,[.int i s.toks,u],.cons ⟨_,rfl⟩ (.cons ru .nil),⟨_,tg,rfl,_,rfl⟩⟩
  ·have hb':b<s.heap.objs.size:=by rcases Au.mp hb with rfl | hb;exact el;cases Ao.mp hb;exact il
   rw[qu (A9 hb')];exact(hf b hb).1
 done:=by intro X hP hw hK hc i pins s σ H E I hf ⟨⟨old,he⟩,hi⟩ hg;subst hP hw hK;obtain⟨xs,hq,hx⟩:=hg;obtain⟨its,rv,p,hz⟩:=I.list hq;have hl:=rv.length;exact wpAny_pyNext_enum_end (I.ok.hd hc) he hi p.isList (by simp;omega) fun h1 eb=>⟨rfl,I.turnedL (t':=s.toks) (fp:=[e,it]) (fun b o nb q=>eb b o (fun z=>nb (by simp[z])) q) hf⟩
 self:=fun _ _ _ _ _ ⟨⟨_,he⟩,_⟩ h=>wpAny_pyIter_enum he h
def akm(K:Ah)(ta:TA):TI:=fun σ H R=>ta σ H fun vs H1=>∃a,vs=[.ref a]/\(∃xs,w4 K H1 a xs)/\R (Ite K a) H1
theorem o8:bootBuiltins "enumerate" = some (.type "enumerate"):=by decide +kernel
theorem acm{a:Expr}{ta:TA}(hg:Gl X "enumerate")(hm:X.mg "enumerate" = none)(ha:PA X [a] ta)(hs:starEach [a] X.env=[(false,eval a X.env)]:=by rfl):
 PI X (.Tuple elts x1 tp) (.Call (.Name "enumerate" p) [a] [] pos) (akm X.K ta):=by
 intro pins s σ H R I h;refine Call_ (bR I hg hm o8 (BR (xj (ha pos pins s σ H _ I h) fun us s1 ⟨vs,H1,I1,r1,q1⟩=>?_) hs rfl));obtain⟨l,e,⟨xs,hq⟩,q⟩:=q1;subst e;obtain⟨u,rfl,ru⟩:=gq r1;cases ru;obtain⟨its,rv,pl,hz⟩:=I1.list hq;refine call_enumerate_list pl.isList fun h1 he hi hsz hk=>?_;have I2:z0 X pins σ H1 { s1 with heap:=h1 }:=I1.kept (t':=s1.toks) hk;refine wpAny_pyIter_enum (s:={ s1 with heap:=h1 }) he ?_;refine⟨s1.heap.objs.size+1,[s1.heap.objs.size+1,s1.heap.objs.size],_,_,H1,rfl,I2,xZ l _ _ (Nat.succ_ne_self _),⟨⟨_,he⟩,hi⟩,fun b hb=>?_,q⟩;have hb':s1.heap.objs.size≤b:=by rcases Au.mp hb with rfl | hb;exact BS _;cases Ao.mp hb;exact Al _
 exact I1.fpOk hb' (I1.hok.fresh hb')
end L2
namespace L3
open PySem L2
theorem iH{a:Addr}{keep:ql->Prop}(h:∀H L,j4 H₀ H->jg G H L->keep L->∃xs,w4 G.K H a xs/\x4 G H ys xs):gc G H₀ (Ite G.K a) (ys.zipIdx.map fun p=>Y.tup [.int (p.2:Nat),p.1]) keep where
 go:=fun i H L t rl kp hi=>by
  obtain⟨xs,sq,r⟩:=h H L t rl kp;have:i<xs.length:=by rw[<-r.length];simpa using hi
  exact⟨xs,xs[i],sq,Aj this⟩
 yld:=fun i H L x H' y t rl kp hy ⟨p,z,hp,e1,e2,f⟩=>by subst e1 e2;obtain⟨xs,sq,r⟩:=h H L t rl kp;rw[Ap,List.getElem?_zipIdx] at hy;obtain⟨⟨y',j⟩,ey,e3⟩:=Aw.mp hy;obtain⟨y'',ey',e4⟩:=Aw.mp ey;cases e4;subst e3;obtain⟨x',e',rv⟩:=r.get ey';have:=f xs sq;rw[e'] at this;cases this;refine⟨DY hp,rl.skip hp,p,_,rfl,cJ.of zv,⟨_,_,rfl,?_,_,_,rfl,rv.ts (DY hp),rfl⟩⟩;show V.int _=V.int _;congr 1;simp
 stop:=fun H L t rl kp=>by obtain⟨xs,sq,r⟩:=h H L t rl kp;exact⟨xs,sq,by rw[Ae,List.length_zipIdx,r.length];exact Al _⟩
def im(ys:List Y):List Y:=ys.zipIdx.map fun p=>Y.tup [.int (p.2:Nat),p.1]
theorem jN(h:(im ys)[i]?=some y):∃z,ys[i]?=some z/\y=.tup [.int i,z]:=by unfold im at h;rw[Ap,List.getElem?_zipIdx] at h;obtain⟨⟨y',j⟩,ey,e3⟩:=Aw.mp h;obtain⟨y'',ey',e4⟩:=Aw.mp ey;cases e4;exact⟨y',ey',by rw[<-e3];simp⟩
theorem gU(ys:List Y):(im ys).length=ys.length:=by simp[im]
def nU(tl:x5)(τ:jk)(L:ql)(R:List Y->(ql->Prop)->ql->Prop):Prop:=tl τ L fun x L1=>match x with
 |.ref a=>pD L1 a fun ys keep L=>R (im ys) keep L
 |.sq ys=>R (im ys) (fun _=>True) L1
 |_=>False
theorem nL{a:Expr}(hg:Gl X "enumerate")(hm:X.mg "enumerate" = none)(ha:QE X a te)(hs:starEach [a] X.env=[(false,eval a X.env)]:=by rfl)
 (hs2:starEach [a] X.env=(false,eval a X.env)::starEach [] X.env:=by rfl):QI X (.Tuple elts x1 tp) (.Call (.Name "enumerate" p) [a] [] pos) (nU te):=PI.imp (acm hg hm (dO ha kJ hs2) hs) fun σ H R ⟨τ,L,R3,rs,rl,z,k⟩=>by
 refine⟨τ,L,_,rs,rl,z,fun v H1 y L1 t1 rl1 rv1 z1=>?_⟩;cases y with
 |ref a=>
  obtain⟨ys,keep,es,kp,hk,z2⟩:=pK z1;have hy:∀H L,j4 H1 H->jg X.g3 H L->keep L->∃xs,w4 X.K H a xs/\x4 X.g3 H ys xs:=fun H L _ rl e=>cf rl (hk L e);obtain⟨xs,sq,_⟩:=hy H1 L1 (DW _) rl1 kp;cases rv1;exact⟨a,rfl,⟨xs,sq⟩,k _ H1 _ _ L1 t1 rl1 (iH hy) z2⟩
 |sq ys=>
  obtain⟨a,xs,e,sf,r⟩:=rv1;subst e;exact⟨a,rfl,⟨xs,sf.sq⟩,k _ H1 _ (fun _=>True) L1 t1 rl1 (iH fun H L t _ _=>⟨xs,(sf.ts t).sq,r.ts t⟩) z1⟩
 |_=>exact z1.elim
end L3
namespace L2
open PySem PySem.Spec PyProof.Rows
def fh(t:Bool)(h:Heap)(it l:Addr)(k:Nat):Prop:=match t with
 |false=>h.IsListIter it l k
 |true=>h.IsTupleIter it l k
def mf(t:Bool)(h:Heap)(l:Addr)(xs:Array Value):Prop:=match t with
 |false=>h.IsList l xs
 |true=>h.IsTuple l xs
theorem fh.on{k:Nat}(x:fh t h it l k)(e:∀o,h.get? it=some o->h'.get? it=some o):fh t h' it l k:=by cases t with|false=>exact Heap.IsListIter.at x e|true=>exact Heap.IsTupleIter.at x e
theorem mf.on{xs:Array Value}(x:mf t h l xs)(e:∀o,h.get? l=some o->h'.get? l=some o):mf t h' l xs:=by cases t with|false=>exact Heap.IsList.at x e|true=>exact Heap.IsTuple.at x e
theorem fh.ob{k:Nat}(x:fh t h it l k):∃o,h.get? it=some o/\∀v,o.data≠.cell v:=by
 cases t with
 |false=>obtain⟨o,e,c,d⟩:=x;exact⟨o,e,fun v z=>by rw[d] at z;cases z⟩
 |true=>obtain⟨o,e,c,d⟩:=x;exact⟨o,e,fun v z=>by rw[d] at z;cases z⟩
theorem ue(l:Addr):¬((Value.ref l==Value.none)=true):=AB
section
variable {w:World} 
theorem sK{xs:Array Value}{x:Value}(hi:s.heap.IsTupleIter it l i)(hl:s.heap.IsTuple l xs)(hx:xs[i]?=some x)
 (q:∀h',h'.IsTupleIter it l (i+1)->Heap.SameBut it s.heap h'->Q x { s with heap:=h' }):wpAny (model prog w) A (Builtin.SmallTypes.nextOf (.ref it)) Q E s:=by
 obtain⟨o,oi,ci,di⟩:=id hi;obtain⟨u,ul,_,n,dl⟩:=hl;unfold Builtin.SmallTypes.nextOf;refine Aa (wpAny_callSpecial?_slot (name:="__next__") hi.typeIs F.slot_tuple_iterator_next (wpAny_call_entry F.slot_tuple_iterator_next hi.typeIs F.entry_tuple_iterator_next ?_ (F.args_tuple_iterator_next_1 _)));refine Aa (m:=field (.ref it) 0) (Be oi di (x:=.ref l) rfl ?_);rw[Ay (ue l)];refine Aa (m:=field (.ref it) 1) (Be oi di (x:=.int i 0) rfl (Aa (m:=seqItems? (.ref l)) (BA ul dl ?_)));simp only[BD,hx];refine Aa (wpAny_setField oi di (by simp) (Ai ⟨x,rfl,Ai (q _ ⟨_,Heap.get?_update_self _ oi (Obj.isFreed_of_fields (Obj.data_mapFields di _)),(Obj.cls_mapFields ..).trans ci,?_⟩ (Heap.SameBut.update ..))⟩));rw[Obj.data_mapFields di];simp[rawInt]
theorem wH{xs:Array Value}(hh:A.handled=none)(hi:s.heap.IsTupleIter it l i)(hl:s.heap.IsTuple l xs)(hx:xs[i]?=none)
 (q:∀h' e,Heap.ExtBut it s.heap h'->(∃o,h'.get? e=some o/\o.cls=.type "StopIteration")->E (.ref e) { s with heap:=h' }):wpAny (model prog w) A (Builtin.SmallTypes.nextOf (.ref it)) Q E s:=by
 obtain⟨o,oi,ci,di⟩:=id hi;obtain⟨u,ul,_,n,dl⟩:=hl;unfold Builtin.SmallTypes.nextOf;refine Aa (wpAny_callSpecial?_slot (name:="__next__") hi.typeIs F.slot_tuple_iterator_next (wpAny_call_entry F.slot_tuple_iterator_next hi.typeIs F.entry_tuple_iterator_next ?_ (F.args_tuple_iterator_next_1 _)));refine Aa (m:=field (.ref it) 0) (Be oi di (x:=.ref l) rfl ?_);rw[Ay (ue l)];refine Aa (m:=field (.ref it) 1) (Be oi di (x:=.int i 0) rfl (Aa (m:=seqItems? (.ref l)) (BA ul dl ?_)));simp only[BD,hx];refine Aa (Bv (Aa (wpAny_setField oi di (by simp) ?_)));refine Aa (m:=newExc (.type "StopIteration") []) ?_;simp only[newExc,newTuple];refine Aa (Bq (Aa (m:=firstArgMember _ _) (wpAny_of_eq (a:=Value.none) (by first | rfl | (simp only[firstArgMember];rfl)) (Bq ?_ (by size_fits)))) (by size_fits));simp only[raiseNew];refine Aa (wpAny_handled ?_)
 first | rw[show A.in1.handled=none from hh] | rw[hh]
 exact Aa (Ai (wpAny_throw (q _ _ (((Heap.SameBut.update ..).extBut.push _).push _) ⟨_,Heap.get?_push_size _ rfl,rfl⟩)))
theorem fh.next{xs:Array Value}{x:Value}(hi:fh t s.heap it l i)(hl:mf t s.heap l xs)(hx:xs[i]?=some x)
 (q:∀h',fh t h' it l (i+1)->Heap.SameBut it s.heap h'->Q x { s with heap:=h' }):wpAny (model prog w) A (Builtin.SmallTypes.nextOf (.ref it)) Q E s:=by
 cases t with|false=>exact wpAny_nextOf_list_item hi hl hx q|true=>exact sK hi hl hx q
theorem fh.stop{xs:Array Value}(hh:A.handled=none)(hi:fh t s.heap it l i)(hl:mf t s.heap l xs)(hx:xs[i]?=none)
 (q:∀h' e,Heap.ExtBut it s.heap h'->(∃o,h'.get? e=some o/\o.cls=.type "StopIteration")->E (.ref e) { s with heap:=h' }):wpAny (model prog w) A (Builtin.SmallTypes.nextOf (.ref it)) Q E s:=by
 cases t with|false=>exact wpAny_nextOf_list_end hh hi hl hx q|true=>exact wH hh hi hl hx q
structure ZAp(z TI TO i1 i2 l1 l2:Addr):Prop where
 n1:TI≠z
 n2:TO≠z
 n3:i1≠z
 n4:i2≠z
 n5:TO≠i1
 n6:TO≠i2
 n7:i1≠i2
 n8:l1≠z
 n9:l1≠TO
 n10:l1≠i1
 n11:l1≠i2
 n12:l2≠z
 n13:l2≠TO
 n14:l2≠i1
 n15:l2≠i2
theorem abn{z TI TO i1 i2:Addr}{k:Nat}{xs ys:Array Value}{x y a b:Value}(D:ZAp z TI TO i1 i2 l1 l2)(hz:IsZip s.heap z TI TO .none)(hI:IsPair s.heap TI (.ref i1) (.ref i2))(hO:IsPair s.heap TO a b)
 (h1:fh t1 s.heap i1 l1 k) (h2:fh t2 s.heap i2 l2 k) (q1:mf t1 s.heap l1 xs) (q2:mf t2 s.heap l2 ys) (hx:xs[k]?=some x) (hy:ys[k]?=some y)
 (q:∀h',IsZip h' z TI TO (rawInt s.heap.objs.size)->IsPair h' TO x y->fh t1 h' i1 l1 (k+1)->fh t2 h' i2 l2 (k+1)->IsPair h' s.heap.objs.size x y->
  (∀c o,c≠z->c≠TO->c≠i1->c≠i2->s.heap.get? c=some o->h'.get? c=some o)->Q (.ref s.heap.objs.size) { s with heap:=h' }):
 wpAny (model prog w) A (Builtin.«zip.__next__» ⟨[.ref z],[]⟩) (fun js s'=>∃v,js=.done (.ret v)/\Q v s') E s:=by
 refine Aa (m:=field (.ref z) 2) (Be hz rfl (x:=.bool false) rfl (Aa (m:=field (.ref z) 3) (Be hz rfl (x:=.ref TI) rfl (Aa (BA hI rfl ?_)))));refine Aa (m:=Builtin.SmallTypes.ownedTupleIsFree (.ref z)) ?_;unfold Builtin.SmallTypes.ownedTupleIsFree;refine Aa (Be hz rfl (x:=.none) rfl (Ai ?_));simp only[if_true];refine Aa (Bv (Aa (Be hz rfl (x:=.ref TO) rfl (Aa (wpAny_setField_rec hz (by simp) fun g1 z1 e1=>?_)))));have z1':IsZip g1 z TI TO .ellipsis:=z1;refine Aa ?_;simp only[DC,List.zipIdx_nil,CH,DP];refine Aa (Aa (wpAny_onRaise (Aa (m:=Builtin.SmallTypes.nextOf (.ref i1)) ((h1.on fun o e=>e1.extBut _ _ D.n3 e).next (q1.on fun o e=>e1.extBut _ _ D.n8 e) hx fun g2 h12 e2=>Ai ?_))));have O2:IsPair g2 TO a b:=e2.extBut _ _ D.n5 (e1.extBut _ _ D.n2 hO);refine Aa (BA O2 rfl (Aa (wpAny_updateSeq_pair O2 fun g3 O3 e3=>Aa (wpAny_letGo (Ai ?_)))));have O3':IsPair g3 TO x b:=O3;refine Aa (Aa (wpAny_onRaise (Aa (m:=Builtin.SmallTypes.nextOf (.ref i2)) (fh.next (l:=l2) (i:=k) (xs:=ys) (x:=y) (t:=t2) (h2.on fun o e=>e3.extBut _ _ (AK D.n6) (e2.extBut _ _ (AK D.n7) (e1.extBut _ _ D.n4 e)))
  (q2.on fun o e=>e3.extBut _ _ D.n13 (e2.extBut _ _ D.n14 (e1.extBut _ _ D.n12 e))) hy fun g4 h24 e4=>Ai ?_))))
 have O4:IsPair g4 TO x b:=e4.extBut _ _ D.n6 O3';refine Aa (BA O4 rfl (Aa (wpAny_updateSeq_pair O4 fun g5 O5 e5=>Aa (wpAny_letGo (Ai (Ai ?_))))));have O5':IsPair g5 TO x y:=O5;refine Aa (BA O5' rfl (Aa (wpAny_newTuple ?_)));have sz:g5.objs.size=s.heap.objs.size:=by rw[e5.1,e4.1,e3.1,e2.1,e1.1]
 have z5:IsZip g5 z TI TO .ellipsis:=e5.extBut _ _ (AK D.n2) (e4.extBut _ _ (AK D.n4) (e3.extBut _ _ (AK D.n2) (e2.extBut _ _ (AK D.n3) z1')));have k5:∀c o,c≠z->c≠TO->c≠i1->c≠i2->s.heap.get? c=some o->g5.get? c=some o:=fun c o a1 a2 a3 a4 e=>e5.extBut _ _ a2 (e4.extBut _ _ a4 (e3.extBut _ _ a2 (e2.extBut _ _ a3 (e1.extBut _ _ a1 e))));have zl:z<g5.objs.size:=Heap.lt_size z5;refine Aa (m:=Builtin.SmallTypes.ownedTupleHandOut (.ref z) (.ref g5.objs.size)) ?_;unfold Builtin.SmallTypes.ownedTupleHandOut;refine Aa (wpAny_setField_rec (show IsZip (g5.push { cls:=.type "tuple",data:=.seq #[x,y] }) z TI TO .ellipsis from Heap.get?_push_of_some _ z5) (by simp) fun g7 z7 e7=>?_);have z7':IsZip g7 z TI TO (rawInt g5.objs.size):=z7;refine wpAny_setField_rec z7' (by simp) fun g8 z8 e8=>Ai ⟨_,rfl,?_⟩;have z8':IsZip g8 z TI TO (rawInt g5.objs.size):=z8;have up:∀c o,c≠z->g5.get? c=some o->g8.get? c=some o:=fun c o a1 e=>e8.extBut _ _ a1 (e7.extBut _ _ a1 (Heap.get?_push_of_some _ e));have T8:IsPair g8 g5.objs.size x y:=e8.extBut _ _ (CS zl) (e7.extBut _ _ (CS zl) (Heap.get?_push_size _ rfl));have js:=q g8 (by rw[<-sz];exact z8') (up _ _ D.n2 O5') (h12.on fun o e=>up _ o D.n3 (e5.extBut _ _ (AK D.n5) (e4.extBut _ _ D.n7 (e3.extBut _ _ (AK D.n5) e)))) (h24.on fun o e=>up _ o D.n4 (e5.extBut _ _ (AK D.n6) e))
  (by rw[<-sz];exact T8) fun c o a1 a2 a3 a4 e=>up c o a1 (k5 c o a1 a2 a3 a4 e)
 show Q (.ref g5.objs.size) _;rw[sz];exact js
theorem ab4{z TI TO i1 i2:Addr}{k:Nat}{xs ys:Array Value}{a b:Value}{Q:Fin->Shared->Prop}(hh:A.handled=none)(D:ZAp z TI TO i1 i2 l1 l2)(hz:IsZip s.heap z TI TO .none)(hI:IsPair s.heap TI (.ref i1) (.ref i2))(hO:IsPair s.heap TO a b)
 (h1:fh t1 s.heap i1 l1 k) (h2:fh t2 s.heap i2 l2 k) (q1:mf t1 s.heap l1 xs) (q2:mf t2 s.heap l2 ys) (hend:xs[k]?=none\/ys[k]?=none)
 (q:∀h' e,(∀c o,c≠z->c≠TO->c≠i1->c≠i2->s.heap.get? c=some o->h'.get? c=some o)->(∃o,h'.get? e=some o/\o.cls=.type "StopIteration")->E (.ref e) { s with heap:=h' }):
 wpAny (model prog w) A (Builtin.«zip.__next__» ⟨[.ref z],[]⟩) Q E s:=by
 refine Aa (m:=field (.ref z) 2) (Be hz rfl (x:=.bool false) rfl (Aa (m:=field (.ref z) 3) (Be hz rfl (x:=.ref TI) rfl (Aa (BA hI rfl ?_)))));refine Aa (m:=Builtin.SmallTypes.ownedTupleIsFree (.ref z)) ?_;unfold Builtin.SmallTypes.ownedTupleIsFree;refine Aa (Be hz rfl (x:=.none) rfl (Ai ?_));simp only[if_true];refine Aa (Bv (Aa (Be hz rfl (x:=.ref TO) rfl (Aa (wpAny_setField_rec hz (by simp) fun g1 z1 e1=>?_)))));have z1':IsZip g1 z TI TO .ellipsis:=z1;refine Aa ?_;simp only[DC,List.zipIdx_nil,CH,DP];refine Aa (Aa (wpAny_onRaise (Aa (m:=Builtin.SmallTypes.nextOf (.ref i1)) ?_)));have h1':=h1.on fun o e=>e1.extBut _ _ D.n3 e;have q1':=q1.on fun o e=>e1.extBut _ _ D.n8 e;cases hx:xs[k]? with
 |none=>
  refine fh.stop hh h1' q1' hx fun g2 e s2 he=>?_;obtain⟨oe,ge,ce⟩:=he;have z2:IsZip g2 z TI TO .ellipsis:=s2 _ _ (AK D.n3) z1';have nz:e≠z:=fun w=>by subst w;rw[z2] at ge;cases ge;simp at ce
  exact wpAny_setField_rec z2 (by simp) fun g3 _ s3=>q g3 e (fun c o a1 _ a3 _ w=>s3.extBut _ _ a1 (s2 _ _ a3 (e1.extBut _ _ a1 w))) ⟨oe,s3.extBut _ _ nz ge,ce⟩
 |some x=>
  have hy:ys[k]?=none:=by rcases hend with h | h;rw[hx] at h;cases h;exact h
  refine fh.next h1' q1' hx fun g2 h12 e2=>Ai ?_;have O2:IsPair g2 TO a b:=e2.extBut _ _ D.n5 (e1.extBut _ _ D.n2 hO);refine Aa (BA O2 rfl (Aa (wpAny_updateSeq_pair O2 fun g3 O3 e3=>Aa (wpAny_letGo (Ai ?_)))));refine Aa (Aa (wpAny_onRaise (Aa (m:=Builtin.SmallTypes.nextOf (.ref i2)) (fh.stop (t:=t2) (l:=l2) (i:=k) (xs:=ys) hh (h2.on fun o e=>e3.extBut _ _ (AK D.n6) (e2.extBut _ _ (AK D.n7) (e1.extBut _ _ D.n4 e)))
   (q2.on fun o e=>e3.extBut _ _ D.n13 (e2.extBut _ _ D.n14 (e1.extBut _ _ D.n12 e))) hy fun g4 e s4 he=>?_))))
  obtain⟨oe,ge,ce⟩:=he;have z4:IsZip g4 z TI TO .ellipsis:=s4 _ _ (AK D.n4) (e3.extBut _ _ (AK D.n2) (e2.extBut _ _ (AK D.n3) z1'));have nz:e≠z:=fun w=>by subst w;rw[z4] at ge;cases ge;simp at ce
  exact wpAny_setField_rec z4 (by simp) fun g5 _ s5=>q g5 e (fun c o a1 a2 a3 a4 w=>s5.extBut _ _ a1 (s4 _ _ a4 (e3.extBut _ _ a2 (e2.extBut _ _ a3 (e1.extBut _ _ a1 w))))) ⟨oe,s5.extBut _ _ nz ge,ce⟩
end
def abm(t:Bool):String:=if t then "tuple_iterator" else "list_iterator"
section
variable {w:World} 
theorem mf.iter{xs:Array Value}(hl:mf t s.heap l xs)(q:Q (.ref s.heap.objs.size) { s with heap:=s.heap.push { cls:=.type (abm t),data:=.fields #[.ref l,.int 0 0] } }):wpAny (model prog w) A (pyIter (.ref l)) Q E s:=by cases t with|false=>exact wpAny_pyIter_list hl q|true=>exact wpAny_pyIter_tuple hl q
end
theorem fh.new(e:h.get? it=some { cls:=.type (abm t),data:=.fields #[.ref l,.int 0 0] }):fh t h it l 0:=by cases t with|false=>exact⟨_,e,rfl,rfl⟩|true=>exact⟨_,e,rfl,rfl⟩
abbrev zh1(t1:Bool)(h:Heap)(l1:Addr):Heap:=h.push { cls:=.type (abm t1),data:=.fields #[.ref l1,.int 0 0] }
abbrev zh2(t1 t2:Bool)(h:Heap)(l1 l2:Addr):Heap:=(zh1 t1 h l1).push { cls:=.type (abm t2),data:=.fields #[.ref l2,.int 0 0] }
abbrev zh3(t1 t2:Bool)(h:Heap)(l1 l2:Addr):Heap:=(zh2 t1 t2 h l1 l2).push { cls:=.type "tuple",data:=.seq #[.ref h.objs.size,.ref (zh1 t1 h l1).objs.size] }
abbrev zh4(t1 t2:Bool)(h:Heap)(l1 l2:Addr):Heap:=(zh3 t1 t2 h l1 l2).push { cls:=.type "tuple",data:=.seq #[.none,.none] }
abbrev zh5(t1 t2:Bool)(h:Heap)(l1 l2:Addr):Heap:=(zh4 t1 t2 h l1 l2).push { cls:=.type "zip",data:=.fields #[.none,.bool false,.bool false,.ref (zh2 t1 t2 h l1 l2).objs.size,.ref (zh3 t1 t2 h l1 l2).objs.size] }
theorem t7(t1 t2:Bool)(l1 l2:Addr)(xs ys:Array Value):Meets (Builtin.«zip.__new__» ⟨[.type "zip",.ref l1,.ref l2],[]⟩) (fun _ R s=>mf t1 s.heap l1 xs/\mf t2 s.heap l2 ys/\R (.ok (.ret (.ref (zh4 t1 t2 s.heap l1 l2).objs.size))) { s with heap:=zh5 t1 t2 s.heap l1 l2 }):=
 .of_wp fun prog w A R s h=>by
  obtain⟨hp,g,d,tk,os⟩:=s;obtain⟨q1,q2,h⟩:=h;have hsub:=sub_zip;have a1:mf t1 (Shared.heap ⟨hp,g,d,tk,os⟩) l1 xs:=q1;have a2:mf t2 (Shared.heap ⟨hp.push { cls:=.type (abm t1),data:=.fields #[.ref l1,.int 0 0] },g,d,tk,os⟩) l2 ys:=q2.on fun o e=>Heap.get?_push_of_some _ e
  wp_walk using mf.iter a1,mf.iter a2
  exact⟨_,rfl,h⟩
theorem xG{w:World}{xs ys:Array Value}(q1:mf t1 s.heap l1 xs)(q2:mf t2 s.heap l2 ys)
 (q:∀h',IsZip h' (s.heap.objs.size+4) (s.heap.objs.size+2) (s.heap.objs.size+3) .none->IsPair h' (s.heap.objs.size+2) (.ref s.heap.objs.size) (.ref (s.heap.objs.size+1))->IsPair h' (s.heap.objs.size+3) .none .none->
  fh t1 h' s.heap.objs.size l1 0->fh t2 h' (s.heap.objs.size+1) l2 0->(∀c o,s.heap.get? c=some o->h'.get? c=some o)->Q (.ref (s.heap.objs.size+4)) { s with heap:=h' }):
 wpAny (model prog w) A (call (.type "zip") [.ref l1,.ref l2]) Q E s:=by
 refine callType_new F.called_zip (by decide) (F.typeCall_zip_2 _ _) (F.newCall_zip_2 _ _) (fun obj=>F.args_object_init_3 obj _ _) F.entry_zip_new (t7 t1 t2 l1 l2 xs ys) ⟨q1,q2,?_⟩;have s1:(zh1 t1 s.heap l1).objs.size=s.heap.objs.size+1:=Heap.size_push ..;have s2:(zh2 t1 t2 s.heap l1 l2).objs.size=s.heap.objs.size+2:=by rw[Heap.size_push,s1]
 have s3:(zh3 t1 t2 s.heap l1 l2).objs.size=s.heap.objs.size+3:=by rw[Heap.size_push,s2]
 have s4:(zh4 t1 t2 s.heap l1 l2).objs.size=s.heap.objs.size+4:=by rw[Heap.size_push,s3]
 have g5:(zh5 t1 t2 s.heap l1 l2).get? (zh4 t1 t2 s.heap l1 l2).objs.size=some _:=Heap.get?_push_size _ rfl;have g4:(zh5 t1 t2 s.heap l1 l2).get? (zh3 t1 t2 s.heap l1 l2).objs.size=some _:=Heap.get?_push_of_some _ (Heap.get?_push_size _ rfl);have g3:(zh5 t1 t2 s.heap l1 l2).get? (zh2 t1 t2 s.heap l1 l2).objs.size=some _:=Heap.get?_push_of_some _ (Heap.get?_push_of_some _ (Heap.get?_push_size _ rfl));have g2:(zh5 t1 t2 s.heap l1 l2).get? (zh1 t1 s.heap l1).objs.size=some _:=Heap.get?_push_of_some _ (Heap.get?_push_of_some _ (Heap.get?_push_of_some _ (Heap.get?_push_size _ rfl)));have g1:(zh5 t1 t2 s.heap l1 l2).get? s.heap.objs.size=some _:=Heap.get?_push_of_some _ (Heap.get?_push_of_some _ (Heap.get?_push_of_some _ (Heap.get?_push_of_some _ (Heap.get?_push_size _ rfl))));show _/\_;rw[s2,s3,s4] at g5;rw[s1,s2] at g3;rw[s3] at g4;rw[s1] at g2;rw[s4];exact⟨⟨_,g5,rfl⟩,q _ g5 g3 g4 (fh.new g1) (fh.new g2) fun c o e=>Heap.get?_push_of_some _ (Heap.get?_push_of_some _ (Heap.get?_push_of_some _ (Heap.get?_push_of_some _ (Heap.get?_push_of_some _ e))))⟩
def Sq(t:Bool)(K:Ah)(H:Hp)(a:Addr)(xs:List V):Prop:=match t with
 |false=>w4 K H a xs
 |true=>cJ K H a xs
section
variable {σ:L2.St} 
theorem z0.seq{a:Addr}(I:z0 X pins σ H s)(h:Sq t X.K H a xs):∃its:List Value,ze xs its/\mf t s.heap a its.toArray/\xs.length≤sizeLine:=by
 cases t with
 |false=>obtain⟨its,v,p,z⟩:=I.list h;exact⟨its,v,p.isList,z⟩
 |true=>obtain⟨its,v,p,z⟩:=I.tuple h;exact⟨its,v,p,z⟩
theorem z0.seq_inj{a:Addr}{ys:List V}(I:z0 X pins σ H s)(h:Sq t X.K H a xs)(h':Sq t X.K H a ys):xs=ys:=by cases t with|false=>exact I.list_inj h h'|true=>exact I.tuple_inj h h'
end
def Itz(t1 t2:Bool)(K:Ah)(a b:Addr):It:=
 ⟨fun i H=>∃xs ys x y,Sq t1 K H a xs/\Sq t2 K H b ys/\xs[i]?=some x/\ys[i]?=some y,
  fun i H v H'=>∃p x y,H p=none/\v=.ref p/\H'=upd H p (.tup [x,y])/\(∀xs,Sq t1 K H a xs->xs[i]?=some x)/\∀ys,Sq t2 K H b ys->ys[i]?=some y,
  fun i H=>∃xs ys,Sq t1 K H a xs/\Sq t2 K H b ys/\(xs.length≤i\/ys.length≤i)⟩
theorem yp{P:Program}{w:World}{K:Ah}(a b z TI TO i1 i2:Addr)(D:ZAp z TI TO i1 i2 a b)(d1:TI≠TO)(d2:TI≠i1)(d3:TI≠i2):
 yJ P w K (.Tuple elts x1 tp) (Itz t1 t2 K a b) [z,TI,TO,i1,i2] z (fun i h=>IsZip h z TI TO .none/\IsPair h TI (.ref i1) (.ref i2)/\(∃u v,IsPair h TO u v)/\fh t1 h i1 a i/\fh t2 h i2 b i) where
 mem:=by simp
 obj:=fun i h ⟨hz,hI,⟨u,v,hO⟩,h1,h2⟩ c hc=>by
  simp only[Au,Bw,or_false] at hc;rcases hc with rfl | rfl | rfl | rfl | rfl
  ·exact⟨_,hz,fun v z=>by cases z⟩
  ·exact⟨_,hI,fun v z=>by cases z⟩
  ·exact⟨_,hO,fun v z=>by cases z⟩
  ·exact h1.ob
  ·exact h2.ob
 keep:=fun i h h' ⟨hz,hI,⟨u,v,hO⟩,h1,h2⟩ k=>⟨k z (by simp) _ hz,k TI (by simp) _ hI,⟨u,v,k TO (by simp) _ hO⟩,h1.on fun o q=>k i1 (by simp) o q,h2.on fun o q=>k i2 (by simp) o q⟩
 item:=by
  intro X hP hw hK hc i pins s σ H E I hf ⟨hz,hI,⟨u,v,hO⟩,h1,h2⟩ hg;subst hP hw hK;obtain⟨xs,ys,x,y,q1,q2,hx,hy⟩:=hg;obtain⟨is1,rv1,p1,_⟩:=I.seq q1;obtain⟨is2,rv2,p2,_⟩:=I.seq q2;obtain⟨ux,hux,rux⟩:=rv1.get hx;obtain⟨uy,huy,ruy⟩:=rv2.get hy;have hT:s.TypeIs (.ref z) "zip" := ⟨_,hz,rfl⟩;unfold pyNext;refine Aa (wpAny_attempt (wpAny_callSpecial?_slot (name:="__next__") hT F.slot_zip_next (wpAny_call_entry F.slot_zip_next hT F.entry_zip_next
   (abn D hz hI hO h1 h2 p1 p2 (x:=ux) (y:=uy) (by simpa using hux) (by simpa using huy) fun g1 gz gO gi1 gi2 gT gk=>Ai ⟨.ref s.heap.objs.size,rfl,wpAny_letOwnedTupleGo_zip gz fun g2 gz2 gs2=>?_⟩) (F.args_zip_next_1 _))))
  have lz:z<s.heap.objs.size:=Heap.lt_size hz;have lts:∀c∈[z,TI,TO,i1,i2],c<s.heap.objs.size:=fun c hc=>by
   simp only[Au,Bw,or_false] at hc;rcases hc with rfl | rfl | rfl | rfl | rfl
   ·exact lz
   ·exact Heap.lt_size hI
   ·exact Heap.lt_size hO
   ·obtain⟨o,e,_⟩:=h1.ob;exact Heap.lt_size e
   ·obtain⟨o,e,_⟩:=h2.ob;exact Heap.lt_size e
  have kk:∀c o,c∉[z,TI,TO,i1,i2]->s.heap.get? c=some o->g2.get? c=some o:=fun c o nc q=>by simp only[Au,Bw,or_false,not_or] at nc;exact gs2.extBut c o nc.1 (gk c o nc.1 nc.2.2.1 nc.2.2.2.1 nc.2.2.2.2 q)
  have tg:g2.get? s.heap.objs.size=some { cls:=.type "tuple",data:=.seq #[ux,uy] }:=gs2.extBut _ _ (CS lz) gT;refine⟨.ref s.heap.objs.size,upd H s.heap.objs.size (.tup [x,y]),?_,rfl,⟨_,x,y,I.hok.fresh (Al _),rfl,rfl,fun zs hq=>by rw[I.seq_inj hq q1];exact hx,fun zs hq=>by rw[I.seq_inj hq q2];exact hy⟩,?_,fun c hc=>?_⟩
  ·exact I.turnedN (t':=s.toks) kk hf (Al _) ⟨by show 2≤sizeLine;decide,[ux,uy],.cons rux (.cons ruy .nil),⟨_,tg,rfl,_,rfl⟩⟩
  ·exact⟨gz2,gs2.extBut _ _ D.n1 (gk _ _ D.n1 d1 d2 d3 hI),⟨_,_,gs2.extBut _ _ D.n2 gO⟩,gi1.on fun o q=>gs2.extBut _ _ D.n3 q,gi2.on fun o q=>gs2.extBut _ _ D.n4 q⟩
  ·rw[qu (A9 (lts c hc))];exact(hf c hc).1
 done:=by
  intro X hP hw hK hc i pins s σ H E I hf ⟨hz,hI,⟨u,v,hO⟩,h1,h2⟩ hg;subst hP hw hK;obtain⟨xs,ys,q1,q2,hl⟩:=hg;obtain⟨is1,rv1,p1,_⟩:=I.seq q1;obtain⟨is2,rv2,p2,_⟩:=I.seq q2;have l1:=rv1.length;have l2:=rv2.length;have hT:s.TypeIs (.ref z) "zip" := ⟨_,hz,rfl⟩;unfold pyNext;refine Aa (wpAny_attempt (wpAny_callSpecial?_slot (name:="__next__") hT F.slot_zip_next (wpAny_call_entry F.slot_zip_next hT F.entry_zip_next
   (ab4 (I.ok.hd hc) D hz hI hO h1 h2 p1 p2 (by rcases hl with h | h;exact .inl (by simp;lia);exact .inr (by simp;lia)) fun g1 e gk he=>?_) (F.args_zip_next_1 _))))
  obtain⟨o,ho,hc'⟩:=he;refine Aa (wpAny_isInstance (T:="StopIteration") (b:=true) ⟨o,ho,hc'⟩ isSubtype_stop (Ai ⟨rfl,?_⟩));exact I.turnedL (t':=s.toks) (fp:=[z,TI,TO,i1,i2]) (fun c o nc q=>by simp only[Au,Bw,or_false,not_or] at nc;exact gk c o nc.1 nc.2.2.1 nc.2.2.2.1 nc.2.2.2.2 q) hf
 self:=fun _ _ _ _ _ ⟨hz,_⟩ h=>wpAny_pyIter_zip hz h
def amk(K:Ah)(ta:TA):TI:=fun σ H R=>ta σ H fun vs H1=>∃t1 t2 a b,vs=[.ref a,.ref b]/\(∃xs,Sq t1 K H1 a xs)/\(∃xs,Sq t2 K H1 b xs)/\R (Itz t1 t2 K a b) H1
theorem aig:bootBuiltins "zip" = some (.type "zip"):=by decide +kernel
theorem ah3{a b:Expr}{ta:TA}(hg:Gl X "zip")(hm:X.mg "zip" = none)(ha:PA X [a,b] ta)(hs:starEach [a,b] X.env=[(false,eval a X.env),(false,eval b X.env)]:=by rfl)
 (hs2:starEach [b] X.env=[(false,eval b X.env)]:=by rfl):PI X (.Tuple elts x1 tp) (.Call (.Name "zip" p) [a,b] [] pos) (amk X.K ta):=by
 intro pins s σ H R I h;refine Call_ (bR I hg hm aig (BR (xj (ha pos pins s σ H _ I h) fun us s1 ⟨vs,H1,I1,r1,q1⟩=>?_) (by rw[hs,hs2]) (by rw[hs2];rfl)));obtain⟨t1,t2,l1,l2,e,⟨xs,hx⟩,⟨ys,hy⟩,q⟩:=q1;subst e;obtain⟨u1,u2,rfl,ru1,ru2⟩:=ze.two r1;cases ru1;cases ru2;obtain⟨is1,_,p1,_⟩:=I1.seq hx;obtain⟨is2,_,p2,_⟩:=I1.seq hy;have lt1:l1<s1.heap.objs.size:=by
  cases t1 with
  |false=>obtain⟨o,e,_⟩:=p1;exact Heap.lt_size e
  |true=>obtain⟨o,e,_⟩:=p1;exact Heap.lt_size e
 have lt2:l2<s1.heap.objs.size:=by
  cases t2 with
  |false=>obtain⟨o,e,_⟩:=p2;exact Heap.lt_size e
  |true=>obtain⟨o,e,_⟩:=p2;exact Heap.lt_size e
 refine xG p1 p2 fun g1 gz gI gO g1' g2' gk=>?_;have I2:z0 X pins σ H1 { s1 with heap:=g1 }:=I1.kept (t':=s1.toks) gk;refine wpAny_pyIter_zip (s:={ s1 with heap:=g1 }) gz ?_;refine⟨_,[_,s1.heap.objs.size+2,s1.heap.objs.size+3,s1.heap.objs.size,s1.heap.objs.size+1],_,_,H1,rfl,I2,yp l1 l2 _ _ _ _ _ ?_ (sJ (by lia)) (sJ (by lia)) (sJ (by lia)),⟨gz,gI,⟨_,_,gO⟩,g1',g2'⟩,fun c hc=>?_,q⟩
 ·have lt1':@LT.lt Nat instLTNat l1 s1.heap.objs.size:=lt1;have lt2':@LT.lt Nat instLTNat l2 s1.heap.objs.size:=lt2;constructor<;>exact sJ (by lia)
 ·have hc':s1.heap.objs.size≤c:=by simp only[Au,Bw,or_false] at hc;rcases hc with rfl | rfl | rfl | rfl | rfl<;>exact leN (by simp +arith only)
  exact I1.fpOk hc' (I1.hok.fresh hc')
end L2
namespace L3
open PySem L2
def om(L₀:ql):Y->ql->Prop
 |.ref a,L=>L a=L₀ a
 |_,_=>True
theorem gy(L:ql):∀y:Y,om L y L
 |.ref _=>rfl
 |.non=>trivial
 |.bl _=>trivial
 |.int _=>trivial
 |.str _=>trivial
 |.ty _=>trivial
 |.cd _=>trivial
 |.tup _=>trivial
 |.sq _=>trivial
theorem uN{H1:Hp}(r:RV G H1 y v)(h:ay L1 y=some ys):∃t p,v=.ref p/\∀H L,j4 H1 H->jg G H L->om L1 y L->∃xs,Sq t G.K H p xs/\x4 G H ys xs:=by
 cases y with
 |tup zs=>
  obtain⟨a,xs,e,s,q⟩:=r;cases h;exact⟨true,a,e,fun H L t _ _=>⟨xs,cJ.ts s t,q.ts t⟩⟩
 |sq zs=>
  obtain⟨a,xs,e,s,q⟩:=r;cases h;exact⟨false,a,e,fun H L t _ _=>⟨xs,(s.ts t).sq,q.ts t⟩⟩
 |ref a=>
  have e:=gA h;exact⟨false,a,r,fun H L _ rl kp=>let ⟨xs,e2,q⟩:=rl a _ (kp.trans e);⟨xs,ET e2,q⟩⟩
 |_=>cases h
def sR(xs ys:List Y):List Y:=List.zipWith (fun a b=>Y.tup [a,b]) xs ys
theorem u3{xs:List Y}(h:(sR xs ys)[i]?=some y):∃a b,xs[i]?=some a/\ys[i]?=some b/\y=.tup [a,b]:=by
 unfold sR at h;rw[List.getElem?_zipWith] at h;cases e1:xs[i]? with
 |none=>rw[e1] at h;simp at h
 |some a=>
  cases e2:ys[i]? with|none=>rw[e1,e2] at h;simp at h|some b=>rw[e1,e2] at h;simp at h;exact⟨a,b,rfl,rfl,h.symm⟩
theorem jR(xs ys:List Y):(sR xs ys).length=min xs.length ys.length:=by simp[sR]
theorem sN{a b:Addr}{xs:List Y}{keep:ql->Prop}(h1:∀H L,j4 H₀ H->jg G H L->keep L->∃us,Sq t1 G.K H a us/\x4 G H xs us)(h2:∀H L,j4 H₀ H->jg G H L->keep L->∃us,Sq t2 G.K H b us/\x4 G H ys us):
 gc G H₀ (Itz t1 t2 G.K a b) (sR xs ys) keep where
 go:=fun i H L t rl kp hi=>by obtain⟨us,s1,r1⟩:=h1 H L t rl kp;obtain⟨vs,s2,r2⟩:=h2 H L t rl kp;rw[jR] at hi;have l1:=r1.length;have l2:=r2.length;exact⟨us,vs,us[i]'(by lia),vs[i]'(by lia),s1,s2,Aj _,Aj _⟩
 yld:=fun i H L x H' y t rl kp hy ⟨p,u,v,hp,e1,e2,f1,f2⟩=>by subst e1 e2;obtain⟨us,s1,r1⟩:=h1 H L t rl kp;obtain⟨vs,s2,r2⟩:=h2 H L t rl kp;obtain⟨c,d,ec,ed,rfl⟩:=u3 hy;obtain⟨u',eu,ru⟩:=r1.get ec;obtain⟨v',ev,rv⟩:=r2.get ed;have z1:=f1 us s1;rw[eu] at z1;cases z1;have z2:=f2 vs s2;rw[ev] at z2;cases z2;exact⟨DY hp,rl.skip hp,p,_,rfl,cJ.of zv,⟨_,_,rfl,ru.ts (DY hp),_,_,rfl,rv.ts (DY hp),rfl⟩⟩
 stop:=fun H L t rl kp=>by obtain⟨us,s1,r1⟩:=h1 H L t rl kp;obtain⟨vs,s2,r2⟩:=h2 H L t rl kp;have l1:=r1.length;have l2:=r2.length;exact⟨us,vs,s1,s2,by rw[jR];lia⟩
def afx(ta:eU)(τ:jk)(L:ql)(R:List Y->(ql->Prop)->ql->Prop):Prop:=ta τ L fun vs L1=>match vs with
 |[x,y]=>dX L1 x fun xs=>dX L1 y fun ys=>R (sR xs ys) (fun L=>om L1 x L/\om L1 y L) L1
 |_=>False
theorem ahn{a b:Expr}(hg:Gl X "zip")(hm:X.mg "zip" = none)(ha:QA X [a,b] tr)(hs:starEach [a,b] X.env=[(false,eval a X.env),(false,eval b X.env)]:=by rfl)
 (hs2:starEach [b] X.env=[(false,eval b X.env)]:=by rfl):QI X (.Tuple elts x1 tp) (.Call (.Name "zip" p) [a,b] [] pos) (afx tr):=PI.imp (ah3 hg hm ha hs hs2) fun σ H R ⟨τ,L,R3,rs,rl,z,k⟩=>by
 refine⟨τ,L,_,rs,rl,z,fun vs H1 ys L1 t1 rl1 rv1 z1=>?_⟩;split at z1
 ·rename_i x y;obtain⟨u,v,rfl,ru,rv⟩:=rv1.inv2;obtain⟨xs,ex,z1⟩:=v5 z1;obtain⟨zs,ez,z1⟩:=v5 z1;obtain⟨t1',p1,rfl,k1⟩:=uN ru ex;obtain⟨t2',p2,rfl,k2⟩:=uN rv ez;obtain⟨us,s1,_⟩:=k1 H1 L1 (DW _) rl1 (gy _ _);obtain⟨ws,s2,_⟩:=k2 H1 L1 (DW _) rl1 (gy _ _);exact⟨t1',t2',p1,p2,rfl,⟨us,s1⟩,⟨ws,s2⟩,k _ H1 _ _ L1 t1 rl1 (sN (fun H L t rl kp=>k1 H L t rl kp.1) fun H L t rl kp=>k2 H L t rl kp.2) z1⟩
 ·exact z1.elim
def dN(xs:List Y)(L:ql)(Q:YK):Prop:=match xs with
 |[x]=>dX L x fun ys=>∀p,L p=none->Q (.ref p) (qf L p (.lst ys))
 |_=>False
theorem fE :ji X (.type "list") (yW X.g3 dN):=EN nG fun xs H Q ⟨ys,L,Q3,rv,rl,z,k⟩=>by
 unfold dN at z;split at z
 ·rename_i x;obtain⟨u,rfl,ru⟩:=rv.inv1;obtain⟨zs,ez,z⟩:=v5 z;obtain⟨p,us,e,sq,r⟩:=oR rl ru ez;subst e;exact⟨p,us,rfl,sq,fun l hl=>k _ _ _ _ (DY hl) (rl.newL hl r) (by rfl) (z l (rl.none hl))⟩
 ·exact z.elim
theorem cw{T:String}{r:List Y->ql->YK->Prop}(hc:ji X (.type T) (yW X.g3 r))(hg:Gl X x)(hm:X.mg x=none)(hv:bootBuiltins x=some (.type T))(h:QA X (e::es) tr)
 (hn:x ≠ "__name__" := by decide) (hd:Ed x:=by decide) (hs:Eb e es X:=by rfl) (hp:Ec pos es X:=by rfl):
 QE X (.Call (.Name x p) (e::es) [] pos) (iO r tr):=DZ (fu hc hg hm hv h hn hd hs hp) fun σ H Q ⟨τ,L,Q3,rs,rl,z,k⟩=>
 ⟨τ,L,_,rs,rl,z,fun vs H1 ys L1 t1 rl1 rv1 z1=>⟨ys,L1,Q3,rv1,rl1,z1,k.ts t1⟩⟩
def cG(x:Y)(vs:List Y)(L:ql)(Q:YK):Prop:=match x,vs with
 |.ref a,[.int i]=>bP L a fun ys=>0≤i/\i<ys.length/\sd L (fun v L=>Q v (qf L a (.lst (ys.eraseIdx i.toNat)))) (ys[i.toNat]?)
 |_,_=>False
theorem ac7 :jA X "list.pop" (upM X.g3 cG):=fun pins s σ H x xs v us Q I rx ry ⟨y,ys,L,Q3,r1,r2,rl,z,k⟩=>by
 unfold cG at z;split at z
 ·rename_i a i;obtain⟨zs,e,h0,h1,z⟩:=jy z;obtain⟨ws,e2,r⟩:=rl a _ e;obtain⟨i',rfl,ri⟩:=r2.inv1;cases ri;cases el:zs[i.toNat]? with
  |none=>rw[el] at z;exact z.elim
  |some w=>
   rw[el] at z;obtain⟨u,eu,ru⟩:=r.get el;obtain⟨_,_,_,hz⟩:=I.list (ET e2);have hl:=r.length;have hs:sizeLine<2 ^ 62:=by decide
   refine aaz pins s σ H x _ v us Q I rx ry ⟨a,ws,i,i.toNat,u,r1,rfl,e2,by lia,by lia,?_,eu,k _ _ _ _ (EK e2) (rl.setL e2 (r.eraseIdx _)) (ru.ts (EK e2)) z⟩;unfold seqIndex?;rw[Ay (show ¬i<0 by lia),AA (by simp;lia)]
 ·exact z.elim
theorem bL(ho:QE X o to)(ha:QA X (e::es) tr)(h4:attributeBase o "pop" X.env (eval o X.env)=eval o X.env:=by rfl)
 (h5:((backTo cpos (starEach (e::es) X.env)).all (fun x=>!x.1)&&(backToKw cpos (keywordEach [] X.env)).all (fun x=>x.1.isSome)&&decide ((e::es).length+([]:List Keyword).length+(if ([]:List Keyword).isEmpty=true then 0 else 1)<30))=true:=by rfl)
 (h6:(apos.endLine==cpos.line)=true:=by rfl) (h7:Eb e es X:=by rfl) (h8:Ec cpos es X:=by rfl):
 QE X (.Call (.Attribute o "pop" apos) (e::es) [] cpos) (aq cG to tr):=ol PySem.F.slot_list_pop PySem.F.type_list_pop ac7 ho ha h4 h5 h6 h7 h8
end L3
namespace L2
open PySem PySem.Spec PyProof.Rows
section
theorem uI(i:Int)(n d:Nat):max 0 (min (if i<0 then i+(n:Int) else i) n)=((HT.sIx n d (some i):Nat):Int):=by
 simp only[HT.sIx];by_cases h:i<0
 ·simp only[h,if_true]<;>lia
 ·simp only[h,if_false]<;>lia
theorem vM(l u:Option Int)(n:Nat):Builtin.Str.strSliceIndices l u 1 n=(List.range (HT.sIx n n u - HT.sIx n 0 l)).map (HT.sIx n 0 l+·):=by
 have z:(0:Int)=((HT.sIx n 0 none:Nat):Int):=rfl;have y:(n:Int)=((HT.sIx n n none:Nat):Int):=rfl;unfold Builtin.Str.strSliceIndices;cases l with
 |none=>
  cases u with
  |none=>exact sliceRange_one 0 n
  |some j=>
   show sliceRange 0 (max 0 (min (if j<0 then j+(n:Int) else j) n)) 1=_;rw[uI j n n];exact sliceRange_one 0 _
 |some i=>
  cases u with
  |none=>
   show sliceRange (max 0 (min (if i<0 then i+(n:Int) else i) n)) n 1=_;rw[uI i n 0];exact sliceRange_one _ n
  |some j=>
   show sliceRange (max 0 (min (if i<0 then i+(n:Int) else i) n)) (max 0 (min (if j<0 then j+(n:Int) else j) n)) 1=_;rw[uI i n 0,uI j n n];exact sliceRange_one _ _
theorem m4(x:Str)(l u:Option Int):(Txt.slice x l u).cps.toList=(x.cps.toList.drop (HT.sIx x.length 0 l)).take (HT.sIx x.length x.length u - HT.sIx x.length 0 l):=by
 have hn:x.length=x.cps.toList.length:=by simp[Str.length]
 have pick:=pick_run x.cps (HT.sIx x.length 0 l) (HT.sIx x.length x.length u - HT.sIx x.length 0 l);unfold Txt.slice;rw[vM];split
 ·rename_i h;simp only[beq_self_eq_true,Bool.true_and,Ae,BO,beq_iff_eq] at h;have h1:=HT.sIx_le x.length 0 (Bm _) l;have h2:=HT.sIx_le x.length x.length (Al _) u;have a0:HT.sIx x.length 0 l=0:=by lia
  rw[h,a0,DQ,AZ (by exact pO)]
 ·show(List.filterMap (fun i=>x.cps[i]?) _).toArray.toList=_;rw[Dj];exact pick
def anh:V->Option Int->Option Int->Hp->VK->Prop:=fun x lo hi H Q=>∃z,x=.str z/\z.length≤sizeLine/\Q (.str (Txt.slice z lo hi)) H
theorem aj1:ox X anh:=by
 intro pins s σ H x v vl vu lo hi sl Q I rx hs pl pu h;obtain⟨z,rfl,hz,q⟩:=h;obtain⟨t,rfl⟩:=rx;obtain⟨l,rfl,hl⟩:∃l:Option (Int×Tok),vl=partValue l/\l.map (·.1)=lo:=by cases pl with|none=>exact⟨none,rfl,rfl⟩|int i t=>exact⟨some (i,t),rfl,rfl⟩
 obtain⟨u,rfl,hu⟩:∃u:Option (Int×Tok),vu=partValue u/\u.map (·.1)=hi:=by cases pu with|none=>exact⟨none,rfl,rfl⟩|int i t=>exact⟨some (i,t),rfl,rfl⟩
 subst hl hu;refine⟨"str",_,F.slot_str_getitem.lookup,typeIs_str _ _ _,jm I.tk (wpAny_getItem_str_slice (l:=l) (u:=u) (st:=none) hs rfl ?_)⟩;exact post_val_or_str ⟨AU (Txt.slice_le z _ _) hz,fun t' k ht=>⟨.str _,H,I.tok _,⟨t',rfl⟩,q⟩⟩
theorem tw{zs:List Str}:∀{us:List Value},ze (zs.map V.str) us->StrsAre us zs:=by
 induction zs with
 |nil=>intro us r;rw[CT] at r;cases r;exact .nil
 |cons z zs ih=>
  intro us r;rw[AO] at r;cases r with
  |cons r1 r2=>
   obtain⟨t,e⟩:=r1;subst e;exact .cons z t (ih r2)
def ak5(K:Ah):V->List V->Hp->VK->Prop:=fun x vs H Q=>∃z a zs,x=.str z/\vs=[.ref a]/\w4 K H a ((zs:List Str).map V.str)/\(zs.map (·.length)).sum+zs.length*z.length≤16777216/\Q (.str (Txt.join z zs)) H
theorem aci:jA X "str.join" (ak5 X.K):=by intro pins s σ H x vs v us Q I rx rv h;obtain⟨z,a,zs,rfl,rfl,hq,hz,q⟩:=h;obtain⟨t,rfl⟩:=rx;obtain⟨u,rfl,ru⟩:=rv.one;cases ru;obtain⟨its,r,p,_⟩:=I.list hq;exact jm I.tk (PyProof.Rows.join_list p.isList (by simpa using tw r) hz fun t' k ht=>⟨.str _,H,I.tok _,⟨t',rfl⟩,q⟩)
end
end L2
namespace L3
open PySem L2
def ab9(x:Y)(lo hi:Option Int)(L:ql)(Q:YK):Prop:=match x with
 |.str z=>z.length≤sizeLine/\Q (.str (Txt.slice z lo hi)) L
 |x=>al1 x lo hi L Q
theorem uF(K:Ah)(P:Program)(w:World)(hK:X.K=K:=by rfl)(hP:X.prog=P:=by rfl)(hw:X.w=w:=by rfl):ox X (adj ⟨K,P,w⟩ ab9):=by refine ox.imp (aj1.or (ajj K P w hK hP hw)) fun x lo hi H Q ⟨y,L,Q3,rv,rl,z,k⟩=>?_;cases y with|str s=>exact .inl ⟨s,rv,z.1,k _ H _ L (DW _) rl (by rfl) z.2⟩|_=>exact .inr ⟨_,L,Q3,rv,rl,z,k⟩
def yBS(r:Y->List Y->ql->YK->Prop)(to:x5)(t:eU)(τ:jk)(L:ql)(Q:YK):Prop:=to τ L fun x L1=>match x with
 |.str z=>t τ L1 fun xs L2=>r (.str z) xs L2 Q
 |_=>False
theorem ait{id:String}{r:Y->List Y->ql->YK->Prop}(h2:Slot "str" name id)(h3:typeOf (.builtin id)=pure (.type "method_descriptor"))(hm:jA X id (upM X.g3 r))(ho:QE X o to)(ha:QA X (e::es) tr)
 (h4:attributeBase o name X.env (eval o X.env)=eval o X.env:=by rfl)
 (h5:((backTo cpos (starEach (e::es) X.env)).all (fun x=>!x.1)&&(backToKw cpos (keywordEach [] X.env)).all (fun x=>x.1.isSome)&&decide ((e::es).length+([]:List Keyword).length+(if ([]:List Keyword).isEmpty=true then 0 else 1)<30))=true:=by rfl)
 (h6:(apos.endLine==cpos.line)=true:=by rfl) (h7:Eb e es X:=by rfl) (h8:Ec cpos es X:=by rfl):
 QE X (.Call (.Attribute o name apos) (e::es) [] cpos) (yBS r to tr):=DZ (afb PySem.F.plainAttrs_str h2 h3 hm ho ha h4 h5 h6 h7 h8) fun σ H Q ⟨τ,L,Q3,rs,rl,z,k⟩=>
 ⟨τ,L,_,rs,rl,z,fun v H1 y L1 t1 rl1 rv1 z1=>by
  split at z1
  ·rename_i s;cases rv1;exact⟨rfl,τ,L1,_,rs.ts t1,rl1,z1,fun vs H2 ys L2 t2 rl2 rv2 z2=>⟨.str s,ys,L2,Q3,rfl,rv2,rl2,z2,k.ts (t1.trans t2)⟩⟩
  ·exact z1.elim⟩
theorem qI{G:G3}{H:Hp}:∀{zs:List Str} {xs:List V},x4 G H (zs.map Y.str) xs->xs=zs.map V.str
 |[],_,h=>h
 |z::r,_,⟨x,xs',e,q,s⟩=>by rw[e,show x=V.str z from q,qI s];rfl
def ud(x:Y)(vs:List Y)(L:ql)(Q:YK):Prop:=match x,vs with
 |.str z,[.ref a]=>bP L a fun ys=>∃zs,ys=zs.map Y.str/\(zs.map (·.length)).sum+zs.length*z.length≤16777216/\Q (.str (Txt.join z zs)) L
 |_,_=>False
theorem agj :jA X "str.join" (upM X.g3 ud):=jA.imp aci fun x xs H Q ⟨y,ys,L,Q3,r1,r2,rl,z,k⟩=>by
 unfold ud at z;split at z
 ·rename_i s a;obtain⟨us,e,zs,rfl,hz,z⟩:=jy z;obtain⟨ws,e2,r⟩:=rl a _ e;obtain⟨u,rfl,ru⟩:=r2.inv1;cases ru;rw[qI r] at e2;exact⟨s,a,zs,r1,rfl,ET e2,hz,k _ H _ L (DW _) rl (by rfl) z⟩
 ·exact z.elim
theorem acb(ho:QE X o to)(ha:QA X (e::es) tr)(h4:attributeBase o "join" X.env (eval o X.env)=eval o X.env:=by rfl)
 (h5:((backTo cpos (starEach (e::es) X.env)).all (fun x=>!x.1)&&(backToKw cpos (keywordEach [] X.env)).all (fun x=>x.1.isSome)&&decide ((e::es).length+([]:List Keyword).length+(if ([]:List Keyword).isEmpty=true then 0 else 1)<30))=true:=by rfl)
 (h6:(apos.endLine==cpos.line)=true:=by rfl) (h7:Eb e es X:=by rfl) (h8:Ec cpos es X:=by rfl):
 QE X (.Call (.Attribute o "join" apos) (e::es) [] cpos) (yBS ud to tr):=ait PySem.F.slot_str_join PySem.F.type_str_join agj ho ha h4 h5 h6 h7 h8
theorem oO(zs:List Str):(Txt.join "" zs).cps.toList=zs.flatMap fun z=>z.cps.toList:=by
 have e:∀zs:List Str,(Str.join "" zs).cps.toList=zs.flatMap fun z=>z.cps.toList:=by
  intro zs
  induction zs with
  |nil=>rfl
  |cons z r ih=>
   cases r with
   |nil=>simp[Str.join]
   |cons y r=>
    show(z ++ "" ++ Str.join "" (y::r)).cps.toList=_;have:(z ++ "" ++ Str.join "" (y::r)).cps=z.cps++#[]++(Str.join "" (y::r)).cps:=rfl;rw[this];simp only[A7,ih,AW,Array.append_empty]
 exact(BM (fun x:Str=>x.cps.toList) (StrLaws.glued_eq_join "" zs)).trans (e zs)
def mK(t u:kg)(D:v9)(τ:jk)(L:ql):Prop:=∃J:jk->ql->Prop,t { D with nx:=J } τ L/\∀τ' L',J τ' L'->u D τ' L'
theorem bF{rest:List Stmt}{t u:kg}(h:QS X st t)(k:sI X rest u):sI X (st::rest) (mK t u):=mD.imp (qH h k) fun D σ H ⟨τ,L,D3,rs,rl,⟨J,z,q⟩,k⟩=>
 ⟨τ,L,{ D3 with nx:=J },rs,rl,z,fun σ1 H1 τ1 L1 t1 rs1 rl1 z1=>⟨τ1,L1,D3,rs1,rl1,q τ1 L1 z1,k.ts t1⟩,k.rt,k.bk,k.ct⟩
section
variable {E3:X3}
end
section
variable {cp:Pos}
end
section
variable {a:Expr}{ta:x5}{pt:Pos}{vs:List V}
end
def aa9(_:v9)(_:jk)(_:ql):Prop:=False
theorem abv :QS X st aa9:=fun _ _ _ _ _ _ ⟨_,_,_,_,_,z,_⟩=>z.elim
open PySem L2 PySem.W
section
variable {K:Frag}{D:Addr}{t c:Value}{b:Bool}
end
end L3
namespace L2
open PySem PySem.Spec PyProof.Rows
def wO(X:Cx)(ops:List CmpOp)(es:List Expr)(t:V->TE):Prop:=∀(pos:Pos) (pins:List (Addr×Obj)) (s:Shared) (σ:St) (H:Hp) (x:V) (v:Value) (Q:VK),z0 X pins σ H s->zf x v->t x σ H Q->wpAny (model X.prog X.w) X.A (compareChain pos v ops (evalEach es X.env)) (EP X pins σ Q) X.xe s
def gQ(X:Cx)(ops:List CmpOp)(es:List Expr)(t:V->TE):Prop:=∀(pos:Pos) (pins:List (Addr×Obj)) (s:Shared) (σ:St) (H:Hp) (x:V) (v:Value) (Q:Bool->Hp->Prop),z0 X pins σ H s->zf x v->(t x σ H fun z H'=>∃k,z=.bl k/\Q k H')->wpAny (model X.prog X.w) X.A (testChain pos v ops (evalEach es X.env)) (TP X pins σ Q) X.xe s
def aag(r:R2)(tb:TE):V->TE:=fun x σ H Q=>tb σ H fun y H1=>r x y H1 Q
def yU(r:R2)(tb:TE)(u:V->TE):V->TE:=fun x σ H Q=>tb σ H fun y H1=>r x y H1 fun z H2=>∃k,z=.bl k/\(if k=true then u y σ H2 Q else Q (.bl false) H2)
section
variable {a b:Expr}{tb:TE}{op op':CmpOp}{ops:List CmpOp}{r:R2}{u:V->TE} 
theorem aa3(ho:vm X (compareOp op) r)(hb:PE X b tb):wO X [op] [b] (aag r tb):=by intro pos pins s σ H x v Q I rx h;exact chain_last (xj (hb pins s σ H _ I h) fun w' s1 ⟨y,H1,I1,r1,q1⟩=>ho pins s1 σ H1 x y v w' Q I1 rx r1 q1)
theorem aa2(ho:vm X (compareOp op) r)(hb:PE X b tb)(ht:wO X (op'::ops) (c::es) u):wO X (op::op'::ops) (b::c::es) (yU r tb u):=by intro pos pins s σ H x v Q I rx h;refine chain_link (xj (hb pins s σ H _ I h) fun w' s1 ⟨y,H1,I1,r1,q1⟩=>xj (ho pins s1 σ H1 x y v w' _ I1 rx r1 q1) fun d s2 ⟨z,H2,I2,r2,k,e,q2⟩=>?_);subst e;cases r2;refine wpAny_truthy_bool ?_;cases k with|false=>exact ite_ff ⟨.bl false,H2,I2,rfl,q2⟩|true=>exact ite_tt (ht pos pins s2 σ H2 y w' Q I2 r1 q2)
theorem wE(ha:PE X a ta)(h:wO X (op::op'::ops) (b::c::es) u)(hm:lastMarks (op::op'::ops) (b::c::es)=false):PE X (.Compare a (op::op'::ops) (b::c::es) pos) (fun σ H Q=>ta σ H fun x H1=>u x σ H1 Q):=by intro pins s σ H Q I hh;exact Compare_chain (xj (ha pins s σ H _ I hh) fun v s1 ⟨x,H1,I1,r1,q1⟩=>h pos pins s1 σ H1 x v Q I1 r1 q1) hm
theorem wB(ho:vm X (compareOp op) r)(hb:PE X b tb):gQ X [op] [b] (aag r tb):=by intro pos pins s σ H x v Q I rx h;refine test_last (xj (hb pins s σ H _ I h) fun w' s1 ⟨y,H1,I1,r1,q1⟩=>xj (ho pins s1 σ H1 x y v w' _ I1 rx r1 q1) fun d s2 ⟨z,H2,I2,r2,k,e,q2⟩=>?_);subst e;cases r2;exact wpAny_truthy_bool ⟨H2,I2,q2⟩
theorem xO(ho:vm X (compareOp op) r)(hb:PE X b tb)(ht:gQ X (op'::ops) (c::es) u):gQ X (op::op'::ops) (b::c::es) (yU r tb u):=by
 intro pos pins s σ H x v Q I rx h;refine test_link (xj (hb pins s σ H _ I h) fun w' s1 ⟨y,H1,I1,r1,q1⟩=>xj (ho pins s1 σ H1 x y v w' _ I1 rx r1 q1) fun d s2 ⟨z,H2,I2,r2,k,e,q2⟩=>?_);subst e;cases r2;refine wpAny_truthy_bool ?_;cases k with
 |false=>
  obtain⟨k',e',q'⟩:=q2;cases e';exact ite_ff ⟨H2,I2,q'⟩
 |true=>exact ite_tt (ht pos pins s2 σ H2 y w' Q I2 r1 q2)
theorem xM(ha:PE X a ta)(h:gQ X (op::op'::ops) (b::c::es) u)(hm:lastMarks (op::op'::ops) (b::c::es)=false):PT X (.Compare a (op::op'::ops) (b::c::es) pos) (zD fun σ H Q=>ta σ H fun x H1=>u x σ H1 Q):=by intro pins s σ H Q I hh;exact isTrue_chain (xj (ha pins s σ H _ I hh) fun v s1 ⟨x,H1,I1,r1,q1⟩=>h pos pins s1 σ H1 x v Q I1 r1 q1) hm
end
end L2
namespace L3
open PySem L2
def gY(ta:x5)(u:Y->x5)(τ:jk)(L:ql)(Q:YK):Prop:=ta τ L fun x L1=>u x τ L1 Q
def mF(r:mV)(tb:x5)(x:Y)(τ:jk)(L:ql)(Q:YK):Prop:=tb τ L fun y L1=>r x y L1 Q
def jC(r:mV)(tb:x5)(u:Y->x5)(x:Y)(τ:jk)(L:ql)(Q:YK):Prop:=tb τ L fun y L1=>r x y L1 fun z L2=>match z with
 |.bl k=>ko k (u y τ L2 Q) (Q (.bl false) L2)
 |_=>False
def yP(G:G3)(u:Y->x5):V->TE:=fun x σ H Q=>∃y τ L Q3,RV G H y x/\kc G H σ τ/\jg G H L/\u y τ L Q3/\yN G H Q3 Q
theorem wO.imp{ops:List CmpOp}{t u:V->TE}(h:wO X ops es t)(q:∀x σ H Q,u x σ H Q->t x σ H Q):wO X ops es u:=fun pos pins s σ H x v Q I r z=>h pos pins s σ H x v Q I r (q _ _ _ _ z)
theorem gQ.imp{ops:List CmpOp}{t u:V->TE}(h:gQ X ops es t)(q:∀x σ H Q,u x σ H Q->t x σ H Q):gQ X ops es u:=fun pos pins s σ H x v Q I r z=>h pos pins s σ H x v Q I r (q _ _ _ _ z)
theorem uK{r:mV}(x:V)(σ:L2.St)(H:Hp)(Q:VK):yP G (mF r tb) x σ H Q->aag (dZ G r) (ou G tb) x σ H Q:=fun⟨y,τ,L,Q3,rv,rs,rl,z,k⟩=>
 ⟨τ,L,_,rs,rl,z,fun v H1 y1 L1 t1 rl1 rv1 z1=>⟨y,y1,L1,Q3,rv.ts t1,rv1,rl1,z1,k.ts t1⟩⟩
theorem u0{r:mV}{u:Y->x5}(x:V)(σ:L2.St)(H:Hp)(Q:VK):yP G (jC r tb u) x σ H Q->yU (dZ G r) (ou G tb) (yP G u) x σ H Q:=fun⟨y,τ,L,Q3,rv,rs,rl,z,k⟩=>
 ⟨τ,L,_,rs,rl,z,fun v H1 y1 L1 t1 rl1 rv1 z1=>⟨y,y1,L1,_,rv.ts t1,rv1,rl1,z1,fun v2 H2 y2 L2 t2 rl2 rv2 z2=>by
  cases y2 with
  |bl kk=>
   refine⟨kk,rv2,?_⟩;have z3:ko kk (u y1 τ L2 Q3) (Q3 (.bl false) L2):=z2;cases kk with|true=>rw[AA rfl];exact⟨y1,τ,L2,Q3,rv1.ts t2,rs.ts (t1.trans t2),rl2,z3,k.ts (t1.trans t2)⟩|false=>rw[Ay AB];exact k _ H2 _ L2 (t1.trans t2) rl2 (by rfl) z3
  |_=>exact z2.elim⟩⟩
section
variable {a b:Expr}{ta:x5}{op op':CmpOp}{ops:List CmpOp}{r:mV}{u:Y->x5} 
theorem rU(ho:vm X (compareOp op) (dZ X.g3 r))(hb:QE X b tb):wO X [op] [b] (yP X.g3 (mF r tb)):=wO.imp (aa3 ho hb) uK
theorem rg(ho:vm X (compareOp op) (dZ X.g3 r))(hb:QE X b tb)(ht:wO X (op'::ops) (c::es) (yP X.g3 u)):wO X (op::op'::ops) (b::c::es) (yP X.g3 (jC r tb u)):=wO.imp (aa2 ho hb ht) u0
theorem wM(ho:vm X (compareOp op) (dZ X.g3 r))(hb:QE X b tb):gQ X [op] [b] (yP X.g3 (mF r tb)):=gQ.imp (wB ho hb) uK
theorem mh(ho:vm X (compareOp op) (dZ X.g3 r))(hb:QE X b tb)(ht:gQ X (op'::ops) (c::es) (yP X.g3 u)):gQ X (op::op'::ops) (b::c::es) (yP X.g3 (jC r tb u)):=gQ.imp (xO ho hb ht) u0
theorem qF(σ:L2.St)(H:Hp)(Q:VK):ou G (gY ta u) σ H Q->(fun σ H Q=>ou G ta σ H fun x H1=>yP G u x σ H1 Q) σ H Q:=fun⟨τ,L,Q3,rs,rl,z,k⟩=>
 ⟨τ,L,_,rs,rl,z,fun v H1 y L1 t1 rl1 rv1 z1=>⟨y,τ,L1,Q3,rv1,rs.ts t1,rl1,z1,k.ts t1⟩⟩
theorem pH(ha:QE X a ta)(h:wO X (op::op'::ops) (b::c::es) (yP X.g3 u))(hm:lastMarks (op::op'::ops) (b::c::es)=false:=by with_unfolding_all rfl):QE X (.Compare a (op::op'::ops) (b::c::es) pos) (gY ta u):=DZ (wE ha h hm) qF
theorem abe(ha:QE X a ta)(h:gQ X (op::op'::ops) (b::c::es) (yP X.g3 u))(hm:lastMarks (op::op'::ops) (b::c::es)=false:=by with_unfolding_all rfl):QT X (.Compare a (op::op'::ops) (b::c::es) pos) (yB (gY ta u)):=
 PT.imp (xM ha h hm) fun σ H Q q=>qF σ H _ (ahp σ H Q q)
end
end L3
namespace L2
open PySem PySem.Spec PyProof.Rows
theorem oA:∀{bs:List Bool} {us:List Value},ze (bs.map V.bl) us->us=bs.map Value.bool
 |[],_,.nil=>rfl
 |b::bs,_,.cons r t=>by cases (show _=Value.bool b from r);rw[oA t];rfl
section
theorem yX(hc:X.calm=true:=by rfl):ji X (.builtin "all") (fun xs H Q=>∃(a:Addr) (bs:List Bool),xs=[.ref a]/\w4 X.K H a (bs.map V.bl)/\Q (.bl (bs.all id)) H):=by
 intro pins s σ H xs us Q I r h;obtain⟨a,bs,rfl,sq,q⟩:=h;obtain⟨u,rfl,ru⟩:=gq r;cases ru;obtain⟨its,rv,pl,_⟩:=I.list sq;cases oA rv;have hl:=zg pl;have hlt:a<s.heap.objs.size:=by obtain⟨_,e,_⟩:=hl;exact Heap.lt_size e
 refine jm I.tk (call_all_walk (wpAny_pyIter_list hl ?_));refine⟨s.heap.objs.size,[s.heap.objs.size,a],[s.heap.objs.size],(bs.map Value.bool).toArray.size,_,_,fun i=>(bs[i]?).getD true,rfl,Walks.list (A:=X.A.in1) (I.ok.hd hc) _ a (A9 hlt) (bs.map Value.bool).toArray,
  ⟨⟨_,Heap.get?_push_size _ rfl,rfl,rfl⟩,hl.push _⟩,fun i v s' Q' E' hP hQ=>?_,fun h' tk hk ht=>?_⟩
 ·have hP:(bs.map Value.bool).toArray[i]?=some v:=hP;rw[List.getElem?_toArray,Ap] at hP;obtain⟨b,e,rfl⟩:=Aw.mp hP;have hQ:Q' ((bs[i]?).getD true) s':=hQ;rw[e] at hQ;exact wpAny_truthy_bool hQ
 ·have e:((List.range (bs.map Value.bool).toArray.size).all fun i=>(bs[i]?).getD true)=bs.all id:=by rw[Am,Ae];exact PyProof.Rows.LSm.range_all bs
  rw[e];exact⟨.bl _,H,I.kept (h':=h') (t':=tk) (Dm hk),rfl,q⟩
theorem yt(hc:X.calm=true:=by rfl):ji X (.builtin "any") (fun xs H Q=>∃(a:Addr) (bs:List Bool),xs=[.ref a]/\w4 X.K H a (bs.map V.bl)/\Q (.bl (bs.any id)) H):=by
 intro pins s σ H xs us Q I r h;obtain⟨a,bs,rfl,sq,q⟩:=h;obtain⟨u,rfl,ru⟩:=gq r;cases ru;obtain⟨its,rv,pl,_⟩:=I.list sq;cases oA rv;have hl:=zg pl;have hlt:a<s.heap.objs.size:=by obtain⟨_,e,_⟩:=hl;exact Heap.lt_size e
 refine jm I.tk (call_any_walk (wpAny_pyIter_list hl ?_));refine⟨s.heap.objs.size,[s.heap.objs.size,a],[s.heap.objs.size],(bs.map Value.bool).toArray.size,_,_,fun i=>(bs[i]?).getD false,rfl,Walks.list (A:=X.A.in1) (I.ok.hd hc) _ a (A9 hlt) (bs.map Value.bool).toArray,
  ⟨⟨_,Heap.get?_push_size _ rfl,rfl,rfl⟩,hl.push _⟩,fun i v s' Q' E' hP hQ=>?_,fun h' tk hk ht=>?_⟩
 ·have hP:(bs.map Value.bool).toArray[i]?=some v:=hP;rw[List.getElem?_toArray,Ap] at hP;obtain⟨b,e,rfl⟩:=Aw.mp hP;have hQ:Q' ((bs[i]?).getD false) s':=hQ;rw[e] at hQ;exact wpAny_truthy_bool hQ
 ·have e:((List.range (bs.map Value.bool).toArray.size).any fun i=>(bs[i]?).getD false)=bs.any id:=by rw[Am,Ae];exact PyProof.Rows.LSm.range_any bs
  rw[e];exact⟨.bl _,H,I.kept (h':=h') (t':=tk) (Dm hk),rfl,q⟩
end
end L2
namespace L3
open PySem L2
def tJ:List Y->Option (List Bool)
 |[]=>some []
 |.bl b::r=>(tJ r).map (b::·)
 |_::_=>none
theorem cU(bs:List Bool):tJ (bs.map Y.bl)=some bs:=by induction bs with|nil=>rfl|cons b r ih=>show(tJ (r.map Y.bl)).map (b::·)=_;rw[ih];rfl
theorem lU{G:G3}{H:Hp}:∀{ys:List Y} {xs:List V} {bs:List Bool},tJ ys=some bs->x4 G H ys xs->xs=bs.map V.bl
 |[],_,_,h,r=>by cases h;exact r
 |y::ys,_,bs,h,⟨x,xs',e,r1,r2⟩=>by
  cases y with
  |bl b=>
   have h':(tJ ys).map (b::·)=some bs:=h;obtain⟨cs,e1,rfl⟩:=Aw.mp h';cases (show x=V.bl b from r1);rw[e,lU e1 r2];rfl
  |_=>cases h
def xD(xs:List Y)(L:ql)(Q:YK):Prop:=match xs with
 |[y]=>mX y=true/\dX L y fun ys=>sd L (fun bs L=>Q (.bl (List.all bs id)) L) (tJ ys)
 |_=>False
def ah4(xs:List Y)(L:ql)(Q:YK):Prop:=match xs with
 |[y]=>mX y=true/\dX L y fun ys=>sd L (fun bs L=>Q (.bl (List.any bs id)) L) (tJ ys)
 |_=>False
theorem uO(hc:X.calm=true:=by rfl):ji X (.builtin "all") (yW X.g3 xD):=EN (yX hc) fun xs H Q ⟨ys,L,Q3,rv,rl,z,k⟩=>by
 unfold xD at z;split at z
 ·rename_i y;obtain⟨x,rfl,r⟩:=rv.inv1;obtain⟨hy,z⟩:=z;obtain⟨zs,es,z⟩:=v5 z;obtain⟨bs,eb,z⟩:=fS z;obtain⟨a,us,rfl,sq,rr⟩:=bD rl r hy es;cases lU eb rr;exact⟨a,bs,rfl,sq,k _ H _ L (DW _) rl (by rfl) z⟩
 ·exact z.elim
theorem akb(hc:X.calm=true:=by rfl):ji X (.builtin "any") (yW X.g3 ah4):=EN (yt hc) fun xs H Q ⟨ys,L,Q3,rv,rl,z,k⟩=>by
 unfold ah4 at z;split at z
 ·rename_i y;obtain⟨x,rfl,r⟩:=rv.inv1;obtain⟨hy,z⟩:=z;obtain⟨zs,es,z⟩:=v5 z;obtain⟨bs,eb,z⟩:=fS z;obtain⟨a,us,rfl,sq,rr⟩:=bD rl r hy es;cases lU eb rr;exact⟨a,bs,rfl,sq,k _ H _ L (DW _) rl (by rfl) z⟩
 ·exact z.elim
theorem o4:bootBuiltins "all" = some (.builtin "all"):=by decide +kernel
theorem ahy:bootBuiltins "any" = some (.builtin "any"):=by decide +kernel
def ac4:Y->Option zq
 |.int i=>some (.inl i)
 |.str x=>some (.inr x)
 |_=>none
theorem lT{k:zq}(h:ac4 y=some k)(r:RV G H y v):v=kV k:=by cases y with|int i=>cases h;exact r|str x=>cases h;exact r|_=>cases h
def fT(kvs:List (zq×Y))(k:zq)(y:Y):List (zq×Y):=
 if (kvs.any fun kv=>decide (kv.1=k))=true then kvs.map (fun kv=>if kv.1=k then(kv.1,y) else kv) else kvs++[(k,y)]
theorem j4.dct{p:Addr}{zs:List (zq×V)}{o:HO}(h:H p=some (.dK zs)):j4 H (upd H p o):=fun a u i q=>by rw[qu ?_];exact q;rintro rfl;rw[h] at q;cases q;cases i
theorem y7{xs:List (zq×V)}(p:Paired (fun(p:zq×Y) (q:zq×V)=>p.1=q.1/\RV G H p.2 q.2) kvs xs)(k:zq):(kvs.any fun kv=>decide (kv.1=k))=xs.any fun kv=>decide (kv.1=k):=by induction p with|nil=>rfl|cons r t ih=>rw[B9,B9,ih,r.1]
theorem aa0{xs:List (zq×V)}(p:Paired (fun(p:zq×Y) (q:zq×V)=>p.1=q.1/\RV G H p.2 q.2) kvs xs)(k:zq)(r:RV G H y v):
 Paired (fun(p:zq×Y) (q:zq×V)=>p.1=q.1/\RV G H p.2 q.2) (kvs.map fun kv=>if kv.1=k then(kv.1,y) else kv) (xs.map fun kv=>if kv.1=k then(kv.1,v) else kv):=by
 induction p with
 |nil=>exact .nil
 |@cons a b _ _ r' t ih=>
  refine .cons ?_ ih;obtain⟨e,q⟩:=r';dsimp only;by_cases c:a.1=k
  ·rw[AA c,AA (e▸c)];exact⟨e,r⟩
  ·rw[Ay c,Ay (fun z=>c (e.trans z))];exact⟨e,q⟩
theorem xP{xs:List (zq×V)}(p:Paired (fun(p:zq×Y) (q:zq×V)=>p.1=q.1/\RV G H p.2 q.2) kvs xs)(k:zq)(r:RV G H y v):
 Paired (fun(p:zq×Y) (q:zq×V)=>p.1=q.1/\RV G H p.2 q.2) (kvs++[(k,y)]) (xs++[(k,v)]):=by
 induction p with|nil=>exact .cons ⟨rfl,r⟩ .nil|cons r' t ih=>exact .cons r' ih
theorem aam{xs:List (zq×V)}(p:Paired (fun(p:zq×Y) (q:zq×V)=>p.1=q.1/\RV G H p.2 q.2) kvs xs)(k:zq)(r:RV G H y v):
 Paired (fun(p:zq×Y) (q:zq×V)=>p.1=q.1/\RV G H p.2 q.2) (fT kvs k y) (cj xs k v):=by
 unfold fT cj;rw[y7 p k];by_cases c:(xs.any fun kv=>decide (kv.1=k))=true
 ·rw[AA c,AA c];exact aa0 p k r
 ·rw[Ay c,Ay c];exact xP p k r
theorem eW{R:α->β->Prop}{l:List α}{m:List β}(p:Paired R l m):l.length=m.length:=by induction p with|nil=>rfl|cons _ _ ih=>rw[AJ,AJ,ih]
def qC(_:jk)(L:ql)(Q:YK):Prop:=∀p,L p=none->Q (.ref p) (qf L p (.dct []))
def hW(td ti:x5)(τ:jk)(L:ql)(Q:YK):Prop:=td τ L fun x L1=>ti τ L1 fun y L2=>match x,ac4 y with
 |.ref a,some k=>l8 L2 a fun kvs=>sd L2 Q (v3 kvs k)
 |_,_=>False
def dh(td ti tv:x5)(D:v9)(τ:jk)(L:ql):Prop:=tv τ L fun v L1=>td τ L1 fun x L2=>ti τ L2 fun y L3=>match x,ac4 y with
 |.ref a,some k=>l8 L3 a fun kvs=>kvs.length<sizeLine/\D.nx τ (qf L3 a (.dct (fT kvs k v)))
 |_,_=>False
section
variable {i:Expr}{td tv:x5} 
theorem iS:QE X (.Dict [] [] pos) qC:=DZ abh fun σ H Q ⟨τ,L,Q3,rs,rl,z,k⟩=>fun p hp=>by
 refine k _ _ _ (qf L p (.dct [])) (DY hp) (fun a u e=>?_) (by rfl) (z p (rl.none hp));by_cases c:a=p
 ·subst c;rw[q9] at e;cases e;exact⟨[],zv,.nil⟩
 ·rw[qa c] at e;exact(rl a u e).keep (DY hp) (qu c)
theorem bz(hu:X.A.units+128<cLine)(ho:QE X o td)(hi:QE X i ti)(hs:ai2 i):QE X (.Subscript o i pos) (hW td ti):=DZ (aei (by omega) ho hi hs) fun σ H Q ⟨τ,L,Q3,rs,rl,z,k⟩=>
 ⟨τ,L,_,rs,rl,z,fun v H1 x L1 t1 rl1 rv1 z1=>⟨τ,L1,_,rs.ts t1,rl1,z1,fun w H2 y L2 t2 rl2 rv2 z2=>by
  split at z2
  ·rename_i a kk ek;obtain⟨kvs,e,z3⟩:=cz z2;obtain⟨yv,ev,q⟩:=fS z3;obtain⟨xs,e2,pr⟩:=rl2 a _ e;obtain⟨xv,ex,rx⟩:=mZ pr ev;exact⟨a,xv,rv1,.inl ⟨xs,kk,.inl e2,lT ek rv2,ex.symm⟩,k _ H2 _ L2 (t1.trans t2) rl2 rx q⟩
  ·exact z2.elim⟩⟩
theorem aK(hu:X.A.units+128<cLine)(ho:QE X o td)(hi:QE X i ti)(hv:QE X value tv)(hs:swapsWith value (some (.Subscript o i pos')) pos.line X.env=pure false:=by rfl):QS X (.Assign [.Subscript o i pos'] value pos) (dh td ti tv):=
 EG (ad6 (by omega) ho hi hv hs) fun D σ H ⟨τ,L,D3,rs,rl,z,k⟩=>
 ⟨τ,L,_,rs,rl,z,fun v H1 vy L1 t1 rl1 rv1 z1=>⟨τ,L1,_,rs.ts t1,rl1,z1,fun x H2 xy L2 t2 rl2 rv2 z2=>⟨τ,L2,_,rs.ts (t1.trans t2),rl2,z2,fun w H3 y L3 t3 rl3 rv3 z3=>by
  split at z3
  ·rename_i a kk ek;obtain⟨kvs,e,hl,q⟩:=cz z3;obtain⟨xs,e2,pr⟩:=rl3 a _ e;have tt:j4 H3 (upd H3 a (.dK (cj xs kk v))):=j4.dct e2;cases (show x=V.ref a from rv2);refine⟨a,_,rfl,.inl ⟨xs,kk,e2,lT ek rv3,by rw[<-eW pr];exact hl,rfl⟩,?_⟩;refine k.nx _ _ _ _ (((t1.trans t2).trans t3).trans tt) (rs.ts (((t1.trans t2).trans t3).trans tt)) (fun b u eb=>?_) q;by_cases c:b=a
   ·subst c;rw[q9] at eb;cases eb;exact⟨_,zv,EE (aam pr kk (rv1.ts (t2.trans t3))) fun _ _ ⟨h1,h2⟩=>⟨h1,h2.ts tt⟩⟩
   ·rw[qa c] at eb;exact(rl3 b u eb).keep tt (qu c)
  ·exact z3.elim⟩⟩⟩
end
def afe(to ti tv:x5)(D:v9)(τ:jk)(L:ql):Prop:=tv τ L fun v L1=>to τ L1 fun x L2=>ti τ L2 fun y L3=>match x,y with
 |.ref a,.int i=>bP L3 a fun ys=>sd L3 (fun j L=>D.nx τ (qf L a (.lst (ys.set j v)))) (ixN ys.length i)
 |_,_=>False
section
variable {i:Expr}{tv:x5} 
theorem aeq(ho:QE X o to)(hi:QE X i ti)(hv:QE X value tv)
 (ha:∀v,assign (.Subscript o i pos') X.env v=(do
  let ov <-holding [v] (eval o X.env)
  let iv <-holding [v,ov] (eval i X.env)
  standAt pos'
  holding [v,ov,iv] (setItem ov iv v)
  release [v,ov,iv] []):=by intro _;rfl)
 (h1:swapsWithSole [.Subscript o i pos'] value pos.line X.env=pure false:=by rfl) (h2:swappedStores [.Subscript o i pos'] value X.env=pure none:=by rfl)
 (h3:(assignEach [.Subscript o i pos'] X.env).map (·.2)=[assign (.Subscript o i pos') X.env]:=by rfl):QS X (.Assign [.Subscript o i pos'] value pos) (afe to ti tv):=
 EG (abi hv (ago ho hi zY ha) h1 h2 h3) fun D σ H ⟨τ,L,D3,rs,rl,z,k⟩=>
 ⟨τ,L,_,rs,rl,z,fun v H1 vy L1 t1 rl1 rv1 z1=>⟨τ,L1,_,rs.ts t1,rl1,z1,fun x H2 xy L2 t2 rl2 rv2 z2=>⟨τ,L2,_,rs.ts (t1.trans t2),rl2,z2,fun w H3 y L3 t3 rl3 rv3 z3=>by
  split at z3
  ·rename_i a ii;obtain⟨ys,e,z4⟩:=jy z3;obtain⟨j,ej,q⟩:=fS z4;obtain⟨xs,e2,r⟩:=rl3 a _ e;cases (show x=V.ref a from rv2);cases (show w=V.int ii from rv3);have tt:j4 H3 (upd H3 a (.lst (xs.set j v))):=EK e2;exact⟨a,xs,ii,j,rfl,rfl,e2,by rw[<-r.length];exact ej,k.nx _ _ _ _ (((t1.trans t2).trans t3).trans tt) (rs.ts (((t1.trans t2).trans t3).trans tt)) (rl3.setL e2 (x4.setY (rv1.ts (t2.trans t3)) j r)) q⟩
  ·exact z3.elim⟩⟩⟩
end
end L3
namespace L2
open PySem PySem.Spec PyProof.Rows
section
variable {v₁ v₂:Expr}{te:TE}{u:Str->TE} 
end
end L2
namespace L3
open PySem L2
section
variable {v₁ v₂:Expr}{u:Str->x5} 
end
section
variable {tv:x5}{f m:Str}{g:Addr}
end
open PySem.AutoSeq1 (wpAny_loadPart')
open MeetsSeq MeetsSeq2 MeetsSeq3 SeqRoads2
def afg(x y:Y)(L:ql)(Q:YK):Prop:=dX L x fun xs=>dX L y fun ys=>mX x=true/\mX y=true/\xs.length+ys.length≤sizeLine/\∀p,L p=none->Q (.ref p) (qf L p (.lst (xs++ys)))
theorem ai3(K:Ah)(P:Program)(w:World)(hK:X.K=K:=by rfl)(hP:X.prog=P:=by rfl)(hw:X.w=w:=by rfl):vm X (binaryOp .Add) (dZ ⟨K,P,w⟩ afg):=by
 subst hK hP hw;intro pins s σ H x y v u Q I rx ry ⟨x3,y3,L,Q3,r1,r2,rl,z,k⟩;obtain⟨xs,ex,z⟩:=v5 z;obtain⟨ys,ey,z⟩:=v5 z;obtain⟨lx,ly,hz,q⟩:=z;obtain⟨a,ws,rfl,s1,rv1⟩:=bD rl r1 lx ex;obtain⟨b,ws',rfl,s2,rv2⟩:=bD rl r2 ly ey;cases rx;cases ry;obtain⟨is1,vx,tx,_⟩:=I.list s1;obtain⟨is2,vy,ty,_⟩:=I.list s2;obtain⟨⟨cls,dd,data,sl⟩,ho,hc,n,hd⟩:=id (zg tx);obtain⟨⟨cls2,dd2,data2,sl2⟩,ho2,hc2,n2,hd2⟩:=id (zg ty);simp only at hc hd hc2 hd2;subst hc hd hc2 hd2;have l1:=vx.length;have l2:=vy.length;have l3:=rv1.length;have l4:=rv2.length;have hsz:is1.toArray.size+is2.toArray.size≤sizeLine:=by rw[Am,Am];lia
 refine concat_meets ⟨_,ho,rfl⟩ ⟨_,ho2,rfl⟩ noFill_list_add seq_list_add PySem.F.slot_list_add PySem.F.entry_list_add (PySem.F.args_list_add_2 _ _) (PyProof.Rows.list_addW a b is1.toArray is2.toArray n n2 dd dd2 sl sl2 hsz) ⟨ho,ho2,?_⟩;have e:is1.toArray++is2.toArray=(is1++is2).toArray:=by simp
 rw[e];exact⟨.ref _,_,I.lnew (t':=s.toks) (vx.append vy) (by rw[Ac];lia),rfl,k _ _ _ _ (DY I.fresh) (rl.newL I.fresh (rv1.app rv2)) (by rfl) (q _ (rl.none I.fresh))⟩
end L3
namespace L2
open PySem PySem.Spec PyProof.Rows
end L2
namespace Txs
open PySem PySem.Builtin.Str
theorem len_list(x:Str):x.cps.toList.length=x.length:=by simp[Str.length]
end Txs
namespace L2
open PySem PySem.Spec PyProof.Rows
section
variable {isp imk c j1 j2:Nat}{sp mk:Str}{u:Tok}{m:Str->Option Value}{p6 p7 p8 p9 p10:Pos}{Q:Flow->Shared->Prop}
end
end L2
namespace L3
open PySem L2
end L3
namespace L2
open PySem PySem.Spec PyProof.Rows
section
end
end L2
namespace L3
open PySem L2
section
variable {m:Str}{k:Nat}{sp:ja}
end
end L3
namespace L2
open PySem PySem.Spec PyProof.Rows
end L2
namespace L3
open PySem L2
end L3
namespace L2
open PySem PySem.Spec PyProof.Rows
section
variable {te:TE} 
end
end L2
namespace L3
open PySem L2
section
end
end L3
namespace L2
open PySem PySem.Spec PyProof.Rows
end L2
namespace L3
open PySem L2 PySem.Spec PyProof.Rows
end L3
namespace L2
open PySem PySem.Spec PyProof.Rows
section
variable {a T:Addr}{tr:Option Addr}
end
section
variable {T:List Str}{iter:Expr}{g:TG}{tc:TT}{te:TE}
end
section
variable {a b T:Addr}{tr:Option Addr}{E1:X1}
end
section
variable {k:Nat}{E1:X1}{t:TA}
end
end L2
namespace L3
open PySem L2
section
variable {T:List Str}{iter:Expr}{wi:TI3}{E3:X3}{Ea:Addr->ql->Prop}
end
end L3
namespace L2
open PySem PySem.Spec PyProof.Rows
section
end
end L2
namespace L3
open PySem L2
end L3
namespace L2
open PySem PySem.Spec PyProof.Rows
section
variable {w:World} 
theorem sG{it t:Addr}{its:Array Value}(hne:t≠it):∀(n i:Nat) (s:Shared) (Q:List Value->Shared->Prop),s.heap.IsListIter it t i->s.heap.IsList t its->i+n≤its.size->
 (∀h',h'.IsListIter it t (i+n)->Heap.SameBut it s.heap h'->Q ((its.toList.drop i).take n) { s with heap:=h' })->wpAny (model prog w) A (draw (.ref it) n) Q E s
 |0,i,s,Q,hit,_,_,hQ=>by unfold draw;exact Ai (by simpa using hQ s.heap hit (Heap.SameBut.refl ..))
 |n+1,i,s,Q,hit,ht,hle,hQ=>by
  have hlt:i<its.size:=by omega
  unfold draw;refine Aa (wpAny_pyNext_list_item hit ht (x:=its[i]) (by simp[hlt]) fun g1 it1 sb1=>?_);refine Aa (Bg (sG hne n (i+1) _ _ it1 (ht.extBut sb1.extBut hne) (by lia) fun g2 it2 sb2=>Ai ?_));have e:its.toList.drop i=its[i]::its.toList.drop (i+1):=by simp[BJ,hlt]
  have q:=hQ g2 (by rw[show i+(n+1)=i+1+n by simp +arith only];exact it2)
   (sb1.trans sb2)
  rw[e,List.take_succ_cons] at q;exact q
theorem acv{t:Addr}{its:Array Value}{Q:Unit->Shared->Prop}(hh:A.handled=none)(ht:s.heap.IsList t its)(hn:(assignEach elts env).length=its.size)(hst:(assignEach elts env).findIdx? (·.1)=none)
 (h:∀g,Heap.ExtBut s.heap.objs.size s.heap g->wpAny (model prog w) A (assignInOrder ((assignEach elts env).map (·.2)) its.toList) Q E { s with heap:=g }):wpAny (model prog w) A (assign (.Tuple elts x1 pos) env (.ref t)) Q E s:=by
 have hlt:t≠s.heap.objs.size:=by obtain⟨o,ho,_⟩:=ht;exact A9 (Heap.lt_size ho)
 rw[arm_assign_Tuple];refine Aa (wpAny_standAt ?_);unfold unpack;rw[hn,hst];refine Aa (Bg ?_);unfold unpackItems notIterableAtAll;refine Aa (Aa (wpAny_specialOf ht.typeIs slot_list_iter.lookup ?_));refine Ai ?_;rw[Ay (by simp)];refine Aa (Bg (wpAny_pyIter_list ht ?_));refine Aa (Bg (sG hlt its.size 0 _ _ ⟨_,Heap.get?_push_size _ rfl,rfl,rfl⟩ (ht.push _) (by simp +arith only) fun g1 it1 sb1=>?_));have all:List.take its.size (List.drop 0 its.toList)=its.toList:=by rw[DQ];exact AZ (by simp)
 rw[all,Ay (by simp)];have ht1:g1.IsList t its:=(ht.push _).extBut sb1.extBut hlt;refine Aa (Bg (wpAny_pyNext_list_end hh it1 ht1 (by simp) fun g2 eb2=>?_));rw[Ay (by simp)];exact Ai (h g2 fun b o hb e=>eb2 b o hb (sb1.extBut b o hb (Heap.get?_push_of_some _ e)))
end
section
def aod(K:Ah)(n:Nat)(t:TGs):TG:=fun v σ H Q=>∃a xs,v=.ref a/\w4 K H a xs/\xs.length=n/\t xs σ H Q
theorem air{k:Nat}{t:TGs}(hc:X.calm=true)(h:PGs X es t)
 (hn:(assignEach es X.env).length=n:=by rfl) (hst:(assignEach es X.env).findIdx? (·.1)=none:=by rfl):PG X (.Tuple es k pos) (aod X.K n t):=by
 intro pins s σ H v u Q I r hw;obtain⟨a,xs,e1,hq,hl,hw⟩:=hw;subst e1;cases r;obtain⟨its,rv,pl,hz⟩:=I.list hq;have ht:=zg pl;refine acv (I.ok.hd hc) ht (by simp[hn,<-hl,rv.length]) hst fun h' hx=>?_;have I1:z0 X pins σ H { s with heap:=h' }:=I.kept (t':=s.toks) fun b o e=>hx b o (A9 (Heap.lt_size e)) e;exact h pins _ σ H xs _ Q I1 (by simpa using rv) hw
end
section
theorem ade(l:Addr)(its:Array Value)(n:Nat)(x:Value)(b:Nat->Bool)(j:Nat)(hj:j<its.size)(hit:b j=true)(hz:its.size≤sizeLine):∀(k i:Nat),j - i=k->i≤j->(∀m,i≤m->m<j->b m=false)->
 Meets (Builtin.«list.remove.loop» ⟨[.ref l,x,rawInt i],[]⟩) (fun A R s=>s.heap.get? l=some { cls:=.type "list",dict:=none,data:=.seq its n,slots:=#[] }/\(∀m (hm:m<its.size),SeqAt.EqAt A.in1 s its[m] x (b m))/\R (.ok (.ret .none)) { s with heap:=s.heap.update l (Obj.mapSeq fun xs=>xs.eraseIdxIfInBounds j) }):=by
 intro k
 induction k with
 |zero=>
  intro i hk hij hno prog w A R s h;obtain⟨hp,g,d,tk,os⟩:=s;obtain⟨hl,eq,h⟩:=h;have e:i=j:=by lia
  subst e
  (wp_walk using wpAny_loadPart' hl)
  have hi:its[((i:Nat):Int).toNat]?=some its[i]:=by simp[hj]
  rw[hi];refine Aa (eq i hj prog w _ _ ?_);rw[hit];have hz':(its.eraseIdxIfInBounds i).size≤sizeLine+1:=AU (MeetsSeq.size_erased its _) (B6 hz)
  (wp_walk using (wpAny_updateSeq hl rfl (hz:=hz) (_hz':=hz')),wpAny_loadPart' hl)
  simpa using h
 |succ k ih=>
  intro i hk hij hno prog w A R s h;obtain⟨hp,g,d,tk,os⟩:=s;obtain⟨hl,eq,h⟩:=h;have hlt:i<its.size:=by exact gC
  (wp_walk using wpAny_loadPart' hl)
  have hi:its[((i:Nat):Int).toNat]?=some its[i]:=by simp[hlt]
  have hc:((i:Int)+1)=((i+1:Nat):Int):=by rfl
  rw[hi];refine Aa (eq i hlt prog w _ _ ?_);rw[hno i (Al _) (by omega)]
  wp_walk
  rw[hc];refine⟨plainId_quiet MeetsSeq.plain_remove_loop _,codeAny_builtin MeetsSeq.entry_remove_loop ?_⟩;rw[Around.under_plainId MeetsSeq.plain_remove_loop _];exact ih (i+1) (by omega) (by omega) (fun m h1 h2=>hno m (by exact fF) h2) prog w A R _ ⟨hl,eq,h⟩
theorem yn(l:Addr)(its:Array Value)(n:Nat)(x:Value)(b:Nat->Bool)(j:Nat)(hj:j<its.size)(hit:b j=true)(hz:its.size≤sizeLine)(hno:∀m,m<j->b m=false):
 Meets (Builtin.«list.remove» ⟨[.ref l,x],[]⟩) (fun A R s=>s.heap.get? l=some { cls:=.type "list",dict:=none,data:=.seq its n,slots:=#[] }/\(∀m (hm:m<its.size),SeqAt.EqAt A.in1 s its[m] x (b m))/\R (.ok (.ret .none)) { s with heap:=s.heap.update l (Obj.mapSeq fun xs=>xs.eraseIdxIfInBounds j) }):=by
 intro prog w A R s h;obtain⟨hp,g,d,tk,os⟩:=s;obtain⟨hl,eq,h⟩:=h
 (wp_walk using wpAny_loadPart' hl)
 refine⟨plainId_quiet MeetsSeq.plain_remove_loop _,codeAny_builtin MeetsSeq.entry_remove_loop ?_⟩;rw[Around.under_plainId MeetsSeq.plain_remove_loop _];exact ade l its n x b j hj hit hz _ 0 rfl (Bm _) (fun m _ h2=>hno m h2) prog w A R _ ⟨hl,eq,h⟩
end
theorem ze.eraseN:∀{xs:List V} {us:List Value} (n:Nat),ze xs us->ze (xs.eraseIdx n) (us.eraseIdx n)
 |[],_,n,.nil=>by simp;exact .nil
 |_::_,_,0,.cons _ t=>t
 |_::_,_,n+1,.cons r t=>.cons r (ze.eraseN n t)
section
def aez(X:Cx):V->List V->Hp->VK->Prop:=fun x vs H Q=>∃l xs y ds e,∃n m j:Nat,x=.ref l/\vs=[y]/\H l=some (.lst xs)/\n≤126/\Paired (vd X.K H n) xs ds/\vd X.K H m y e/\j<ds.length/\(∃d,ds[j]?=some d/\Da.eq d e=true)/\
 (∀(k:Nat) d,k<j->ds[k]?=some d->Da.eq d e=false)/\Q .non (upd H l (.lst (xs.eraseIdx j)))
theorem xI(hu:X.A.units+128<cLine):jA X "list.remove" (aez X):=by
 intro pins s σ H x vs v us Q I rx rv h;obtain⟨l,xs,y,ds,e,n,m,j,rfl,rfl,hH,hn,pd,ry,hj,⟨dj,edj,hdj⟩,hno,q⟩:=h;cases rx;obtain⟨u,rfl,ru⟩:=rv.one;obtain⟨z,its,nn,r,hl,eo⟩:=I.lstM hH;have l1:xs.length=ds.length:=pd.length;have l2:its.length=xs.length:=r.length.symm;obtain⟨arr,harr⟩:∃arr:Array Value,arr=its.toArray:=⟨_,rfl⟩;have hsz:arr.size=its.length:=by rw[harr,Am]
 have b:Nat->Bool:=fun _=>true;have hzz:arr.size≤sizeLine:=by rw[hsz];lia
 have M:=yn l arr nn u (fun k=>((ds[k]?).map fun d=>Da.eq d e).getD false) j (by lia) (by show((ds[j]?).map fun d=>Da.eq d e).getD false=true;rw[edj];exact hdj) hzz (fun k hk=>by show((ds[k]?).map fun d=>Da.eq d e).getD false=false;cases ek:ds[k]? with|none=>rfl|some d=>exact hno k d hk ek)
 rw[harr] at M;refine call_meets F.slot_list_remove ⟨_,eo,rfl⟩ F.entry_list_remove (F.args_list_remove_2 _ _) M ⟨eo,fun k hk=>?_,?_⟩
 ·have hk':k<its.length:=by rw[Am] at hk;exact hk
  obtain⟨d,ed,rd⟩:=Words.Paired.getP pd (Aj (by lia:k<xs.length));show SeqAt.EqAt _ s _ u (((ds[k]?).map fun d=>Da.eq d e).getD false);rw[ed];obtain⟨u',eu',ru'⟩:=Words.Paired.getP r (Aj (by lia:k<xs.length));have eg:its.toArray[k]=u':=by have:=(A1.mp eu').2;simpa using this
  rw[eg];exact lQ I n (by show X.A.units+1+n<cLine;lia) rd ry ru' ru
 ·refine⟨.non,_,I.lset (its':=its.eraseIdx j) hH eo ?_ (r.eraseN j) ?_,rfl,q⟩
  ·have:j<its.length:=by lia
   simp[Array.eraseIdxIfInBounds,this]
  ·have:=CO xs j;exact aiz
end
end L2
namespace L3
open PySem L2
def afv(n:Nat)(t:pW)(y:Y)(τ:jk)(L:ql)(Q:jk->ql->Prop):Prop:=match y with
 |.ref a=>bP L a fun ys=>match ys.length==n with
  |true=>t ys τ L Q
  |false=>False
 |_=>False
theorem ahs{kk:Nat}(hc:X.calm=true)(h:QGs X es gs)(h1:(assignEach es X.env).length=n:=by rfl)(h2:(assignEach es X.env).findIdx? (·.1)=none:=by rfl):QG X (.Tuple es kk pos) (afv n gs):=
 PG.imp (air hc h h1 h2) fun v σ H Q ⟨y,τ,L,Q3,rv,rs,rl,z,k⟩=>by
 cases y with
 |ref a=>
  cases (show v=.ref a from rv);obtain⟨ys,e,z'⟩:=jy z;obtain⟨xs,e2,r⟩:=rl a _ e;split at z'
  ·rename_i ee;exact⟨a,xs,rfl,ET e2,by rw[<-r.length];exact beq_iff_eq.mp ee,ys,τ,L,Q3,r,rs,rl,z',k⟩
  ·exact z'.elim
 |_=>exact z.elim
def i7(x:Y)(vs:List Y)(L:ql)(Q:YK):Prop:=match x,vs with
 |.ref a,[v]=>bP L a fun ys=>∃ds e,∃n m j:Nat,n≤126/\Paired (jf L n) ys ds/\jf L m v e/\j<ds.length/\(∃d,ds[j]?=some d/\Da.eq d e=true)/\(∀(k:Nat) d,k<j->ds[k]?=some d->Da.eq d e=false)/\Q .non (qf L a (.lst (ys.eraseIdx j)))
 |_,_=>False
theorem zN(hu:X.A.units+128<cLine):jA X "list.remove" (upM X.g3 i7):=jA.imp (xI hu) fun x xs H Q ⟨y,ys,L,Q3,r1,r2,rl,z,k⟩=>by
 unfold i7 at z;split at z
 ·rename_i a v;obtain⟨zs,e,ds,de,n,m,j,hn,pd,dv,hj,hit,hno,z⟩:=jy z;obtain⟨us,e2,r⟩:=rl a _ e;obtain⟨v',rfl,rv⟩:=r2.inv1;have both:∀{ys:List Y} {ds:List Da} {xs:List V},Paired (jf L n) ys ds->x4 X.g3 H ys xs->Paired (vd X.K H n) xs ds:=by
   intro ys ds xs p
   induction p generalizing xs with
   |nil=>intro q;cases (show xs=[] from q);exact .nil
   |cons h t ih=>
    rintro⟨x,xs',rfl,q1,q2⟩;exact .cons (jf.rep rl h q1) (ih q2)
  exact⟨a,us,v',ds,de,n,m,j,r1,rfl,e2,hn,both pd r,jf.rep rl dv rv,hj,hit,hno,k _ _ _ _ (EK e2) (rl.setL e2 (r.eraseIdx j)) (by rfl) z⟩
 ·exact z.elim
theorem wD(hu:X.A.units+128<cLine)(ho:QE X o to)(ha:QA X (e::es) tr)(h4:attributeBase o "remove" X.env (eval o X.env)=eval o X.env:=by rfl)
 (h5:((backTo cpos (starEach (e::es) X.env)).all (fun x=>!x.1)&&(backToKw cpos (keywordEach [] X.env)).all (fun x=>x.1.isSome)&&decide ((e::es).length+([]:List Keyword).length+(if ([]:List Keyword).isEmpty=true then 0 else 1)<30))=true:=by rfl)
 (h6:(apos.endLine==cpos.line)=true:=by rfl) (h7:Eb e es X:=by rfl) (h8:Ec cpos es X:=by rfl):
 QE X (.Call (.Attribute o "remove" apos) (e::es) [] cpos) (aq i7 to tr):=ol PySem.F.slot_list_remove PySem.F.type_list_remove (zN hu) ho ha h4 h5 h6 h7 h8
end L3
namespace L2
open PySem PySem.Spec PyProof.Rows
section
end
section
end
end L2
namespace L3
open PySem L2
end L3
namespace L2
open PySem PySem.Spec PyProof.Rows
section
def aof:List V->Hp->VK->Prop:=fun xs H Q=>∃n:Int,xs=[.int n]/\∀p,H p=none->Q (.ref p) (upd H p (.rng 0 n))
theorem abl:ji X (.type "range") aof:=by intro pins s σ H xs us Q I r h;obtain⟨n,rfl,q⟩:=h;obtain⟨u,rfl,ru⟩:=r.one;obtain⟨t,rfl⟩:=(show ∃t,u=Value.int n t from ru);refine call_range_1 ?_;refine⟨.ref s.heap.objs.size,_,I.laid (t':=s.toks+1+1) (o:=.rng 0 n) (fun b ob q=>Heap.get?_push_of_some _ q) (Al _) ?_,rfl,q _ (I.hok.fresh (Al _))⟩;exact⟨s.toks,t,s.toks+1,Heap.get?_push_size _ rfl⟩
theorem tK{acc:Array Value}(h:ItemsOf (fun i v=>∃t,v=.int (0+(i:Int)*1) t) acc n):ze ((List.range n).map fun i:Nat=>V.int (0+(i:Int))) acc.toList:=by
 have len:acc.toList.length=n:=by rw[AL];exact h.1
 have key:∀(l:List Value) (k:Nat),(∀(j:Nat) v,l[j]?=some v->∃t,v=Value.int (0+((k+j:Nat):Int)*1) t)->ze ((List.range' k l.length).map fun i:Nat=>V.int (0+(i:Int))) l:=by
  intro l
  induction l with
  |nil=>intro k _;exact .nil
  |cons v r ih=>
   intro k hk;rw[AJ,DD,AO];obtain⟨t,e⟩:=hk 0 v rfl;refine .cons ?_ (ih (k+1) fun j v' hj=>?_)
   ·exact⟨t,by rw[e];simp⟩
   ·have:=hk (j+1) v' hj;rw[show k+1+j=k+(j+1) by simp +arith only];exact this
 have:=key acc.toList 0 fun j v hj=>by rw[DI];exact h.2 j v (by simpa using hj)
 rw[len,<-List.range_eq_range'] at this;exact this
def akw:List V->Hp->VK->Prop:=fun xs H Q=>∃a,∃n:Nat,xs=[.ref a]/\H a=some (.rng 0 n)/\n≤100000/\∀p,H p=none->Q (.ref p) (upd H p (.lst ((List.range n).map fun i:Nat=>V.int (0+(i:Int)))))
theorem vJ(hc:X.calm=true):ji X (.type "list") akw:=by
 intro pins s σ H xs us Q I r h;obtain⟨a,n,rfl,ha,hn,q⟩:=h;obtain⟨u,rfl,ru⟩:=r.one;cases (show u=Value.ref a from ru);obtain⟨t,u,v,e⟩:=I.hok a _ ha;have hb:(100000:Nat)≤sizeLine:=by decide
 have rs:Builtin.Range.rangeSize 0 (n:Int) 1=((n:Nat):Int):=by rw[rangeSize_one];split<;>lia
 refine jm I.tk (call_list_range (I.ok.hd hc) (show IsRange s.heap a 0 (n:Int) 1 t u v from e) (small_one (by decide) (by decide) (by exact Bf _) (by omega)) rs (AU hn (by decide)) fun h' tk acc c hk hS hacc ht=>?_);refine⟨.ref s.heap.objs.size,_,I.laid (t':=tk) (o:=.lst ((List.range n).map fun i:Nat=>V.int (0+(i:Int)))) hk (Al _) ?_,rfl,q _ (I.hok.fresh (Al _))⟩;refine⟨by rw[Ae,BO];exact aiz,acc.toList,c,tK hacc,?_⟩;rw[hS]
end
end L2
namespace L3
open PySem L2
theorem aib:bootBuiltins "range" = some (.type "range"):=by decide +kernel
def re(te:x5)(τ:jk)(L:ql)(Q:YK):Prop:=te τ L fun y L1=>match y with
 |.int n=>(0≤n/\n≤100000)/\∀p,L1 p=none->Q (.ref p) (qf L1 p (.lst (aC 0 n.toNat)))
 |_=>False
theorem aeb(n:Nat):x4 G H (aC 0 n) ((List.range n).map fun i:Nat=>V.int (0+(i:Int))):=by
 unfold aC;generalize List.range n=l
 induction l with|nil=>rfl|cons k r ih=>exact⟨_,_,rfl,rfl,ih⟩
theorem t8{pos2:Pos}(hc:X.calm=true)(hg:Gl X "list")(hm:X.mg "list" = none)(hg2:Gl X "range")(hm2:X.mg "range" = none)(h:QE X e te)
 (h1:starEach [.Call (.Name "range" p2) [e] [] pos2] X.env=(false,eval (.Call (.Name "range" p2) [e] [] pos2) X.env)::starEach [] X.env:=by rfl) (h2:(backTo pos (starEach [] X.env)).any (·.1)=false:=by rfl)
 (h3:starEach [e] X.env=(false,eval e X.env)::starEach [] X.env:=by rfl) (h4:(backTo pos2 (starEach [] X.env)).any (·.1)=false:=by rfl):
 QE X (.Call (.Name "list" p) [.Call (.Name "range" p2) [e] [] pos2] [] pos) (re te):=
 DZ (fu (vJ hc) hg hm dR (dO (fu abl hg2 hm2 aib (dO h kJ h3) (by decide) (by decide) h3 h4) kJ h1) (by decide) (by decide) h1 h2) fun σ H Q ⟨τ,L,Q3,rs,rl,z,k⟩=>
 ⟨τ,L,_,rs,rl,z,fun v H1 y L1 t1 rl1 rv1 z1=>by
  cases y with
  |int n=>
   obtain⟨⟨h0,h5⟩,z1⟩:=z1;cases (show v=V.int n from rv1);obtain⟨m,rfl⟩:∃m:Nat,n=(m:Int):=⟨n.toNat,by lia⟩;refine⟨_,rfl,fun q hq=>⟨q,m,rfl,zv,by lia,fun p hp=>?_⟩⟩;have hp1:H1 p=none:=by
    by_cases c:p=q
    ·subst c;exact hq
    ·rw[qu c] at hp;exact hp
   exact k _ _ _ _ (t1.trans ((DY hq).trans (DY hp))) ((rl1.skip hq).newL hp (aeb m)) (by rfl) (z1 p (rl1.none hp1))
  |_=>exact z1.elim⟩
section
variable {m:Str}{g:Addr}
end
end L3
namespace TS
open PySem PyProof.Rows
def aed:Bool->Keyed->Array Keyed->Nat->Nat->Nat->StateT SortSt Sem (Option Nat):=sortPriv% PySem.Builtin.gallop
section
variable {w:World} 
structure vY(prog:Program)(w:World)(A:Around)(s:Shared)(κ:SortKind)(Ok:Keyed->Prop)(f:Keyed->Int):Prop where
 lt:∀x y,Ok x->Ok y->∀{E:Value->Shared->Prop} {Q:Bool->Shared->Prop},Q (decide (f x<f y)) s->wpAny (model prog w) A (keyLt' κ x.1 y.1) Q E s
variable {κ:SortKind}{Ok:Keyed->Prop}{f:Keyed->Int}
theorem w_lt(O:vY prog w A s κ Ok f){st:SortSt}{x y:Keyed}{Q:Option Bool->SortSt->Prop}(hk:kindOf st=κ)(hx:Ok x)(hy:Ok y)(h:Q (some (decide (f x<f y))) st):wpS (model prog w) A E s (lt' x y) Q st:=by rw[lt'_eq];refine Ab (wpS_get ?_);rw[hk];refine Ab (wpS_lift (wpAny_attempt (O.lt x y hx hy ⟨rfl,?_⟩)));exact Ad h
theorem jz{arr:Array Keyed}{x:Keyed}{st:SortSt}{Q:Keyed->SortSt->Prop}(h:arr[i]?=some x)(q:Q x st):wpS (model prog w) A E s (elem' arr i) Q st:=by rw[elem'_eq,h];exact Ad q
def bey(left:Bool)(key:Keyed)(arr:Array Keyed)(i:Nat):StateT SortSt Sem (Option Bool):=elem' arr i >>= fun x=>if left=true then lt' x key else lt' key x >>= fun r=>pure (r.map fun b=>!b)
theorem ak1(O:vY prog w A s κ Ok f){left:Bool}{key x:Keyed}{arr:Array Keyed}{st:SortSt}{Q:Option Bool->SortSt->Prop}(hk:kindOf st=κ)(hkey:Ok key)(hx:Ok x)(hi:arr[i]?=some x)
 (q:Q (some (if left=true then decide (f x<f key) else !decide (f key<f x))) st):wpS (model prog w) A E s (bey left key arr i) Q st:=by
 refine Ab (jz hi ?_);cases left with|true=>exact w_lt O hk hx hkey q|false=>exact Ab (w_lt O hk hkey hx (Ad q))
theorem bA(O:vY prog w A s κ Ok f){left:Bool}{key:Keyed}{arr:Array Keyed}{base hint:Nat}{st:SortSt}{Q:Option Nat->SortSt->Prop}(hk:kindOf st=κ)(hkey:Ok key)(hh:hint<n)
 (it:Nat->Keyed) (hit:∀i,i<n->arr[base+i]?=some (it i)/\Ok (it i)) (bd:Nat->Bool) (hbd:∀i,i<n->bd i=if left=true then decide (f (it i)<f key) else !decide (f key<f (it i)))
 (mono:∀i j,i≤j->j<n->bd j=true->bd i=true)
 (q:∀k,k≤n->(∀i,i<k->bd i=true)->(∀i,k≤i->i<n->bd i=false)->Q (some k) st):wpS (model prog w) A E s (aed left key arr base n hint) Q st:=by
 have go:∀i,i<n->∀Q':Option Bool->SortSt->Prop,Q' (some (bd i)) st->wpS (model prog w) A E s (bey left key arr (base+i)) Q' st:=fun i hi Q' h=>ak1 O hk hkey (hit i hi).2 (hit i hi).1 (by rw[<-hbd i hi];exact h);refine Ab (go hint hh _ ?_);dsimp only;cases hb:bd hint with
 |true=>
  rw[AA rfl];refine Ab (AS (AH (I:=fun x c st'=>st'=st/\∃la ofs,c=(none,la,ofs)/\la<ofs/\la<n - hint/\bd (hint+la)=true/\x+1≤ofs)
   (Q:=fun c st'=>st'=st/\∃la ofs,c=(none,la,ofs)/\la<ofs/\la<n - hint/\bd (hint+la)=true/\(n - hint≤ofs\/bd (hint+ofs)=false)) ?_ ?_ ⟨rfl,0,1,rfl,by exact BL _,by omega,hb,by exact BL _⟩) ?_)
  ·rintro x c st' _ hx ⟨rfl,la,ofs,rfl,h1,h2,h3,h4⟩;dsimp only;by_cases c:ofs≥n - hint
   ·rw[AA c];exact Ad ⟨rfl,la,ofs,rfl,h1,h2,h3,.inl c⟩
   ·rw[Ay c];refine Ab (go (hint+ofs) (by lia) _ ?_);dsimp only;cases hm:bd (hint+ofs) with
    |true=>
     rw[Ay (by simp)];exact Ad ⟨rfl,ofs,2*ofs+1,rfl,by simp +arith only,by exact akk,hm,by lia⟩
    |false=>
     rw[AA (by simp)];exact Ad ⟨rfl,la,ofs,rfl,h1,h2,h3,.inr hm⟩
  ·rintro c st' ⟨rfl,la,ofs,rfl,h1,h2,h3,h4⟩;exact⟨rfl,la,ofs,rfl,h1,h2,h3,.inl (by lia)⟩
  ·rintro c st' ⟨rfl,la,ofs,rfl,h1,h2,h3,h4⟩;dsimp only;obtain⟨lo,elo⟩:∃lo,lo=hint+la+1:=⟨_,rfl⟩;obtain⟨hi,ehi⟩:∃hi,hi=hint+min ofs (n - hint):=⟨_,rfl⟩;rw[<-elo,<-ehi];have g1:lo≤hi:=by omega
   have g2:hi≤n:=by lia
   have g3:∀i,i<lo->bd i=true:=fun i hi=>mono i (hint+la) (by lia) (by lia) h3;have g4:∀i,hi≤i->i<n->bd i=false:=fun i h5 h6=>by
    rcases h4 with h4 | h4
    ·omega
    ·cases e:bd i with
     |false=>rfl
     |true=>
      by_cases c:ofs<n - hint
      ·rw[mono (hint+ofs) i (by omega) h6 e] at h4;cases h4
      ·omega
   refine Ab (AS (AH (I:=fun x c sx=>sx=st'/\∃lo hi,c=(none,lo,hi)/\lo≤hi/\hi≤n/\(∀i,i<lo->bd i=true)/\(∀i,hi≤i->i<n->bd i=false)/\hi - lo+x≤n)
    (Q:=fun c sx=>sx=st'/\∃hi,c=(none,hi,hi)/\hi≤n/\(∀i,i<hi->bd i=true)/\(∀i,hi≤i->i<n->bd i=false)) ?_ ?_ ⟨rfl,lo,hi,rfl,g1,g2,g3,g4,by exact al3⟩) ?_)
   ·rintro x c st'' _ hx ⟨rfl,lo,hi,rfl,k1,k2,k3,k4,k5⟩;dsimp only;by_cases c:lo≥hi
    ·rw[AA c];have:lo=hi:=by lia
     subst this;exact Ad ⟨rfl,lo,rfl,k2,k3,k4⟩
    ·rw[Ay c];refine Ab (go (lo+(hi - lo) / 2) (by lia) _ ?_);dsimp only;cases hm:bd (lo+(hi - lo) / 2) with
     |true=>
      rw[AA rfl];exact Ad ⟨rfl,lo+(hi - lo) / 2+1,hi,rfl,by lia,k2,fun i h5=>mono i _ (by exact ajr) (by lia) hm,k4,by lia⟩
     |false=>
      rw[Ay (by simp)];refine Ad ⟨rfl,lo,lo+(hi - lo) / 2,rfl,by exact A4 _ _,by lia,k3,fun i h5 h6=>?_,by omega⟩;cases e:bd i with|false=>rfl|true=>rw[mono _ i h5 h6 e] at hm;cases hm
   ·rintro c st'' ⟨rfl,lo,hi,rfl,k1,k2,k3,k4,k5⟩;have:lo=hi:=by lia
    subst this;exact⟨rfl,lo,rfl,k2,k3,k4⟩
   ·rintro c st'' ⟨rfl,hi,rfl,k2,k3,k4⟩;exact Ad (q hi k2 k3 k4)
 |false=>
  rw[Ay (by simp)];refine Ab (AS (AH (I:=fun x c st'=>st'=st/\∃la ofs,c=(none,la,ofs)/\la<ofs/\la<hint+1/\bd (hint - la)=false/\x+1≤ofs)
   (Q:=fun c st'=>st'=st/\∃la ofs,c=(none,la,ofs)/\la<ofs/\la<hint+1/\bd (hint - la)=false/\(hint+1≤ofs\/bd (hint - ofs)=true)) ?_ ?_ ⟨rfl,0,1,rfl,by lia,by exact Cv _,hb,by lia⟩) ?_)
  ·rintro x c st' _ hx ⟨rfl,la,ofs,rfl,h1,h2,h3,h4⟩;dsimp only;by_cases c:ofs≥hint+1
   ·rw[AA c];exact Ad ⟨rfl,la,ofs,rfl,h1,h2,h3,.inl c⟩
   ·rw[Ay c];refine Ab (go (hint - ofs) (by exact lv) _ ?_);dsimp only;cases hm:bd (hint - ofs) with
    |true=>
     rw[AA rfl];exact Ad ⟨rfl,la,ofs,rfl,h1,h2,h3,.inr hm⟩
    |false=>
     rw[Ay (by simp)];exact Ad ⟨rfl,ofs,2*ofs+1,rfl,by lia,by exact akk,hm,by lia⟩
  ·rintro c st' ⟨rfl,la,ofs,rfl,h1,h2,h3,h4⟩;exact⟨rfl,la,ofs,rfl,h1,h2,h3,.inl (by exact lF)⟩
  ·rintro c st' ⟨rfl,la,ofs,rfl,h1,h2,h3,h4⟩;dsimp only;obtain⟨lo,elo⟩:∃lo,lo=hint+1 - min ofs (hint+1):=⟨_,rfl⟩;obtain⟨hi,ehi⟩:∃hi,hi=hint - la:=⟨_,rfl⟩;rw[<-elo,<-ehi];have g1:lo≤hi:=by omega
   have g2:hi≤n:=by omega
   have g3:∀i,i<lo->bd i=true:=fun i h5=>by
    rcases h4 with h4 | h4
    ·omega
    ·exact mono i (hint - ofs) (by omega) (by exact lv) h4
   have g4:∀i,hi≤i->i<n->bd i=false:=fun i h5 h6=>by cases e:bd i with|false=>rfl|true=>rw[mono (hint - la) i (by lia) h6 e] at h3;cases h3
   refine Ab (AS (AH (I:=fun x c sx=>sx=st'/\∃lo hi,c=(none,lo,hi)/\lo≤hi/\hi≤n/\(∀i,i<lo->bd i=true)/\(∀i,hi≤i->i<n->bd i=false)/\hi - lo+x≤n)
    (Q:=fun c sx=>sx=st'/\∃hi,c=(none,hi,hi)/\hi≤n/\(∀i,i<hi->bd i=true)/\(∀i,hi≤i->i<n->bd i=false)) ?_ ?_ ⟨rfl,lo,hi,rfl,g1,g2,g3,g4,by exact al3⟩) ?_)
   ·rintro x c st'' _ hx ⟨rfl,lo,hi,rfl,k1,k2,k3,k4,k5⟩;dsimp only;by_cases c:lo≥hi
    ·rw[AA c];have:lo=hi:=by lia
     subst this;exact Ad ⟨rfl,lo,rfl,k2,k3,k4⟩
    ·rw[Ay c];refine Ab (go (lo+(hi - lo) / 2) (by lia) _ ?_);dsimp only;cases hm:bd (lo+(hi - lo) / 2) with
     |true=>
      rw[AA rfl];exact Ad ⟨rfl,lo+(hi - lo) / 2+1,hi,rfl,by lia,k2,fun i h5=>mono i _ (by lia) (by lia) hm,k4,by lia⟩
     |false=>
      rw[Ay (by simp)];refine Ad ⟨rfl,lo,lo+(hi - lo) / 2,rfl,by lia,by lia,k3,fun i h5 h6=>?_,by lia⟩;cases e:bd i with|false=>rfl|true=>rw[mono _ i h5 h6 e] at hm;cases hm
   ·rintro c st'' ⟨rfl,lo,hi,rfl,k1,k2,k3,k4,k5⟩;have:lo=hi:=by lia
    subst this;exact⟨rfl,lo,rfl,k2,k3,k4⟩
   ·rintro c st'' ⟨rfl,hi,rfl,k2,k3,k4⟩;exact Ad (q hi k2 k3 k4)
end
def aa6:Array Keyed->Array Keyed->StateT SortSt Sem (Array Keyed):=sortPriv% PySem.Builtin.mergeLo
def aar:Array Keyed->Array Keyed->StateT SortSt Sem (Array Keyed):=sortPriv% PySem.Builtin.mergeHi
structure MI(f:Keyed->Int)(la lb out ra rb:List Keyed):Prop where
 perm:(out++(ra++rb)).Perm (la++lb)
 so:out.Pairwise fun x y=>f x≤f y
 sa:ra.Pairwise fun x y=>f x≤f y
 sb:rb.Pairwise fun x y=>f x≤f y
 oa:∀x∈out,∀y∈ra,f x≤f y
 ob:∀x∈out,∀y∈rb,f x≤f y
theorem MI.a{f:Keyed->Int}{la lb out seg ra rb:List Keyed}(h:MI f la lb out (seg++ra) rb)(hs:∀x∈seg,∀y∈rb,f x≤f y):MI f la lb (out++seg) ra rb:=by
 have sa:=AQ.mp h.sa;refine⟨?_,AQ.mpr ⟨h.so,sa.1,fun x hx y hy=>h.oa x hx y (Av _ hy)⟩,sa.2.1,h.sb,fun x hx y hy=>?_,fun x hx y hy=>?_⟩
 ·have:=h.perm;rw[AD] at this ⊢;exact this
 ·rcases Ak.mp hx with hx | hx
  ·exact h.oa x hx y (Af _ hy)
  ·exact sa.2.2 x hx y hy
 ·rcases Ak.mp hx with hx | hx
  ·exact h.ob x hx y hy
  ·exact hs x hx y hy
theorem MI.b{f:Keyed->Int}{la lb out seg ra rb:List Keyed}(h:MI f la lb out ra (seg++rb))(hs:∀x∈seg,∀y∈ra,f x≤f y):MI f la lb (out++seg) ra rb:=by
 have sb:=AQ.mp h.sb;refine⟨?_,AQ.mpr ⟨h.so,sb.1,fun x hx y hy=>h.ob x hx y (Av _ hy)⟩,h.sa,sb.2.1,fun x hx y hy=>?_,fun x hx y hy=>?_⟩
 ·refine List.Perm.trans ?_ h.perm;rw[AD];exact(Bu out).mpr (by rw[<-AD,<-AD];exact(Bj rb).mpr BE)
 ·rcases Ak.mp hx with hx | hx
  ·exact h.oa x hx y hy
  ·exact hs x hx y hy
 ·rcases Ak.mp hx with hx | hx
  ·exact h.ob x hx y (Af _ hy)
  ·exact sb.2.2 x hx y hy
def vz(f:Keyed->Int)(la lb r:List Keyed):Prop:=r.Perm (la++lb)/\r.Pairwise fun x y=>f x≤f y
theorem MI.ea{f:Keyed->Int}{la lb out ra:List Keyed}(h:MI f la lb out ra []):vz f la lb (out++ra):=⟨by have:=h.perm;rwa[AV] at this,AQ.mpr ⟨h.so,h.sa,h.oa⟩⟩
theorem MI.eb{f:Keyed->Int}{la lb out ra rb:List Keyed}(h:MI f la lb out ra rb)(hs:∀x∈rb,∀y∈ra,f x≤f y):vz f la lb (out++rb++ra):=by
 refine⟨List.Perm.trans ?_ h.perm,?_⟩
 ·rw[AD];exact(Bu out).mpr BE
 ·rw[AD];refine AQ.mpr ⟨h.so,AQ.mpr ⟨h.sb,h.sa,hs⟩,fun x hx y hy=>?_⟩;rcases Ak.mp hy with hy | hy
  ·exact h.ob x hx y hy
  ·exact h.oa x hx y hy
structure MP(f:Keyed->Int)(a b out:Array Keyed)(ia ib:Nat):Prop where
 mi:MI f a.toList b.toList out.toList (a.toList.drop ia) (b.toList.drop ib)
 sz:out.size=ia+ib
 la:ia≤a.size
 lb:ib≤b.size
theorem afl(a:Array Keyed)(h:i<a.size):a.toList.drop i=a[i]::a.toList.drop (i+1):=by rw[BJ (by simpa using h)];simp
theorem fe(a:Array Keyed)(i j:Nat):(a.extract i j).toList=(a.toList.drop i).take (j - i):=by rw[Array.toList_extract,List.extract_eq_drop_take]
theorem j3(l:List Keyed)(i k:Nat):(l.drop i).take k++l.drop (i+k)=l.drop i:=by rw[<-CV,Bb]
theorem oH{a:Array Keyed}{k:Nat}{x:Keyed}(h:x∈(a.toList.drop i).take k):∃j,∃hj:i+j<a.size,j<k/\a[i+j]=x:=by
 obtain⟨j,hj,e⟩:=A3 h;rw[AN,Br] at hj;have h1:i+j<a.size:=by have:a.toList.length=a.size:=AL;omega
 refine⟨j,h1,by omega,?_⟩;rw[<-e];simp
theorem fc{a:Array Keyed}{x:Keyed}(h:x∈a.toList.drop i):∃j,∃hj:j<a.size,i≤j/\a[j]=x:=by
 obtain⟨j,hj,e⟩:=A3 h;rw[Br] at hj;have h1:i+j<a.size:=by have:a.toList.length=a.size:=AL;omega
 refine⟨i+j,h1,by exact A4 _ _,?_⟩;rw[<-e];simp
theorem yQ{f:Keyed->Int}{a:Array Keyed}(s:a.toList.Pairwise fun x y=>f x≤f y)(hij:i≤j)(hj:j<a.size):f (a[i]'(by exact gC))≤f a[j]:=by
 rcases Dn hij with h | h
 ·have:=B1.mp s i j (by simpa using (by exact gC:i<a.size)) (by simpa using hj) h;simpa using this
 ·subst h;exact CP _
section
variable {f:Keyed->Int}{a b out:Array Keyed}{ia ib:Nat}
theorem MP.segA(M:MP f a b out ia ib){k:Nat}(hk:ia+k≤a.size)(h:∀i (hi:ia+i<a.size),i<k->∀j (hj:j<b.size),ib≤j->f a[ia+i]≤f b[j]):MP f a b (out++a.extract ia (ia+k)) (ia+k) ib:=by
 refine⟨?_,?_,hk,M.lb⟩
 ·rw[A7,fe,show ia+k - ia=k by omega];refine MI.a (by rw[j3];exact M.mi) fun x hx y hy=>?_;obtain⟨i,hi,h1,rfl⟩:=oH hx;obtain⟨j,hj,h2,rfl⟩:=fc hy;exact h i hi h1 j hj h2
 ·rw[BH,CL,M.sz];lia
theorem MP.segB(M:MP f a b out ia ib){k:Nat}(hk:ib+k≤b.size)(h:∀i (hi:ib+i<b.size),i<k->∀j (hj:j<a.size),ia≤j->f b[ib+i]≤f a[j]):MP f a b (out++b.extract ib (ib+k)) ia (ib+k):=by
 refine⟨?_,?_,M.la,hk⟩
 ·rw[A7,fe,show ib+k - ib=k by lia];refine MI.b (by rw[j3];exact M.mi) fun x hx y hy=>?_;obtain⟨i,hi,h1,rfl⟩:=oH hx;obtain⟨j,hj,h2,rfl⟩:=fc hy;exact h i hi h1 j hj h2
 ·rw[BH,CL,M.sz];lia
theorem MP.oneA(M:MP f a b out ia ib)(hi:ia<a.size)(h:∀j (hj:j<b.size),ib≤j->f a[ia]≤f b[j]):MP f a b (out.push a[ia]) (ia+1) ib:=by refine⟨?_,by rw[Bk,M.sz];simp +arith only,hi,M.lb⟩;rw[Co];refine MI.a (seg:=[a[ia]]) (by rw[C4,<-afl a hi];exact M.mi) fun x hx y hy=>?_;obtain⟨j,hj,h2,rfl⟩:=fc hy;rw[Ao.mp hx];exact h j hj h2
theorem MP.oneB(M:MP f a b out ia ib)(hi:ib<b.size)(h:∀j (hj:j<a.size),ia≤j->f b[ib]≤f a[j]):MP f a b (out.push b[ib]) ia (ib+1):=by refine⟨?_,by rw[Bk,M.sz];exact DS _ _ _,M.la,hi⟩;rw[Co];refine MI.b (seg:=[b[ib]]) (by rw[C4,<-afl b hi];exact M.mi) fun x hx y hy=>?_;obtain⟨j,hj,h2,rfl⟩:=fc hy;rw[Ao.mp hx];exact h j hj h2
theorem MP.done(M:MP f a b out ia ib)(h:ib=b.size):vz f a.toList b.toList (out++a.extract ia++b.extract ib).toList:=by have e:b.toList.drop ib=[]:=List.drop_eq_nil_of_le (by rw[AL];lia);have m:=M.mi;rw[e] at m;have:=m.ea;rw[A7,A7,fe,fe,e,List.take_nil,AV,AZ (by simp)];exact this
theorem MP.last(M:MP f a b out ia ib)(h:ia+1=a.size)(hl:∀x∈b.toList,f x<f (a[a.size - 1]'(by omega))):vz f a.toList b.toList (out++b.extract ib++a.extract ia).toList:=by
 have:=M.mi.eb fun x hx y hy=>by
  obtain⟨j,hj,h2,rfl⟩:=fc hy;have e:j=a.size - 1:=by omega
  subst e;exact BI (hl x (Cs hx))
 rw[A7,A7,fe,fe,AZ (by simp),AZ (by simp)];exact this
end
section
variable {w:World}{κ:SortKind}{Ok:Keyed->Prop}{f:Keyed->Int}
abbrev f7(st:SortSt)(g:Nat):SortSt:=SortSt.mk' (kindOf st) (arrOf st) (pendingOf st) g (failedOf st)
theorem rS{c:Prop}{_:Decidable c}{K:β->StateT SortSt Sem α}{y:β}{Q:α->SortSt->Prop}{st:SortSt}(key:∀z,wpS (model prog w) A E s (K z) Q st):∀x,wpS (model prog w) A E s (if c then K x else K y) Q st:=fun x=>by
 by_cases h:c
 ·rw[AA h];exact key x
 ·rw[Ay h];exact key y
theorem iW{γ:Type}{c:Prop}{_:Decidable c}{K T:β->γ->StateT SortSt Sem α}{P:β->γ->Prop}{x:β}{i:γ}{Q:α->SortSt->Prop}{st:SortSt}(key:∀o j,P o j->wpS (model prog w) A E s (K o j) Q st)(hn:¬c->P x i)
 (hp:c->(∀o j,P o j->wpS (model prog w) A E s (K o j) Q st)->wpS (model prog w) A E s (T x i) Q st):∀o,x=o->∀j,i=j->wpS (model prog w) A E s (if c then T o j else K o j) Q st:=by
 rintro _ rfl _ rfl;by_cases h:c
 ·rw[AA h];exact hp h key
 ·rw[Ay h];exact key x i (hn h)
theorem vZ(O:vY prog w A s κ Ok f){a b:Array Keyed}{st:SortSt}{Q:Array Keyed->SortSt->Prop}(hk:kindOf st=κ)(oka:∀x∈a.toList,Ok x)(okb:∀x∈b.toList,Ok x)
 (sa:a.toList.Pairwise fun x y=>f x≤f y) (sb:b.toList.Pairwise fun x y=>f x≤f y) (ha:0<a.size) (hb:0<b.size) (h0:∀x∈a.toList,f b[0]<f x) (hl:∀x∈b.toList,f x<f a[a.size - 1])
 (q:∀r g,vz f a.toList b.toList r.toList->Q r (f7 st g)):wpS (model prog w) A E s (aa6 a b) Q st:=by
 refine Ab (wpS_lift (Bv ⟨rfl,?_⟩));refine Ab (jz (x:=b[0]) (by simp[hb]) ?_);dsimp only;have M0:MP f a b #[b[0]] 0 1:=by have M:MP f a b #[] 0 0:=⟨⟨by simp,by simp,by simpa using sa,by simpa using sb,by simp,by simp⟩,rfl,Bm _,Bm _⟩;have:=M.oneB hb fun j hj _=>BI (h0 a[j] (by simp));simpa using this
 by_cases c1:(1==b.size)=true
 ·rw[AA c1];exact Ad (q _ (gallopOf st) (M0.done (by simpa using c1)))
 rw[Ay c1];by_cases c2:(0+1==a.size)=true
 ·rw[AA c2];exact Ad (q _ (gallopOf st) (M0.last (by simpa using c2) hl))
 rw[Ay c2];have c1:¬1=b.size:=by simpa using c1
 have c2:¬1=a.size:=by simpa using c2
 refine Ab (wpS_get ?_);have okA:∀i (hi:i<a.size),Ok a[i]:=fun i hi=>oka _ (by simp);have okB:∀i (hi:i<b.size),Ok b[i]:=fun i hi=>okb _ (by simp);have atA:∀i (hi:i<a.size),a[i]?=some a[i]:=fun i hi=>by simp[hi]
 have atB:∀i (hi:i<b.size),b[i]?=some b[i]:=fun i hi=>by simp[hi]
 obtain⟨tA,tA0⟩:∃t:Nat->Keyed,t=fun i=>(a[i]?).getD b[0]:=⟨_,rfl⟩;have tA2:∀i (hi:i<a.size),tA i=a[i]:=fun i hi=>by rw[tA0];simp[hi]
 have tA1:∀i (hi:i<a.size),a[i]?=some (tA i):=fun i hi=>by rw[tA2 i hi];exact atA i hi
 have tA3:∀i (hi:i<a.size),Ok (tA i):=fun i hi=>by rw[tA2 i hi];exact okA i hi
 have tA4:∀{i j},i≤j->j<a.size->f (tA i)≤f (tA j):=fun {i j} hij hj=>by rw[tA2 i (by exact gC),tA2 j hj];exact yQ sa hij hj
 obtain⟨tB,tB0⟩:∃t:Nat->Keyed,t=fun i=>(b[i]?).getD b[0]:=⟨_,rfl⟩;have tB2:∀i (hi:i<b.size),tB i=b[i]:=fun i hi=>by rw[tB0];simp[hi]
 have tB1:∀i (hi:i<b.size),b[i]?=some (tB i):=fun i hi=>by rw[tB2 i hi];exact atB i hi
 have tB3:∀i (hi:i<b.size),Ok (tB i):=fun i hi=>by rw[tB2 i hi];exact okB i hi
 have tB4:∀{i j},i≤j->j<b.size->f (tB i)≤f (tB j):=fun {i j} hij hj=>by rw[tB2 i (by exact gC),tB2 j hj];exact yQ sb hij hj
 refine Ab (AS (AH (I:=fun x c st'=>(∃g,st'=f7 st g)/\∃out ia ib mg,c=(none,out,ia,ib,mg)/\MP f a b out ia ib/\ia+1<a.size/\ib<b.size/\x+1≤out.size)
  (Q:=fun c st'=>(∃g,st'=f7 st g)/\∃r,c.1=some r/\vz f a.toList b.toList r.toList) ?_ ?_ ⟨⟨gallopOf st,rfl⟩,_,_,_,_,rfl,M0,by exact wU,by exact wU,by simp⟩) ?_)
 ·rintro x c st' _ hx ⟨⟨g,rfl⟩,out,ia,ib,mg,rfl,M,ha',hb',hs⟩;dsimp only;refine Ab (AS (AH (I:=fun y c st'=>st'=f7 st g/\∃out' ia ib ac bc,c=(none,out',ia,ib,ac,bc)/\MP f a b out' ia ib/\ia+1<a.size/\ib<b.size/\out.size+y≤out'.size)
   (Q:=fun c st'=>st'=f7 st g/\((∃r,c.1=some r/\vz f a.toList b.toList r.toList)\/∃out' ia ib ac bc,c=(none,out',ia,ib,ac,bc)/\MP f a b out' ia ib/\ia+1<a.size/\ib<b.size/\out.size+1≤out'.size)) ?_ ?_ ⟨rfl,_,_,_,_,_,rfl,M,ha',hb',Al _⟩) ?_)
  ·rintro y c st' _ hy ⟨rfl,out',ia,ib,ac,bc,rfl,M,ha',hb',hs'⟩;have pA1:ia<a.size:=by exact fF
   dsimp only;refine Ab (jz (atB ib hb') ?_);refine Ab (jz (atA ia pA1) ?_);refine Ab (w_lt O hk (okB ib hb') (okA ia pA1) ?_);dsimp only;by_cases c:f b[ib]<f a[ia]
   ·rw[AG c,AA rfl];refine Ab (jz (atB ib hb') ?_);have M':=M.oneB hb' fun j hj hij=>BI (Int.lt_of_lt_of_le c (yQ sa hij hj));have s2:(out'.push b[ib]).size=out'.size+1:=Bk _;by_cases e1:(ib+1==b.size)=true
    ·rw[AA e1];exact Ad ⟨rfl,.inl ⟨_,rfl,M'.done (by simpa using e1)⟩⟩
    ·rw[Ay e1];have e1:¬ib+1=b.size:=by simpa using e1
     split
     ·exact Ad ⟨rfl,.inr ⟨_,_,_,_,_,rfl,M',ha',by exact wU,by lia⟩⟩
     ·exact Ad ⟨rfl,_,_,_,_,_,rfl,M',ha',by lia,by lia⟩
   ·rw[Az c,Ay (by simp)];refine Ab (jz (atA ia pA1) ?_);have M':=M.oneA (by lia) fun j hj hij=>BG (by omega) (yQ sb hij hj);have s2:(out'.push a[ia]).size=out'.size+1:=Bk _;by_cases e1:(ia+1+1==a.size)=true
    ·rw[AA e1];exact Ad ⟨rfl,.inl ⟨_,rfl,M'.last (by simpa using e1) hl⟩⟩
    ·rw[Ay e1];have e1:¬ia+1+1=a.size:=by simpa using e1
     split
     ·exact Ad ⟨rfl,.inr ⟨_,_,_,_,_,rfl,M',by exact wU,hb',by lia⟩⟩
     ·exact Ad ⟨rfl,_,_,_,_,_,rfl,M',by lia,hb',by lia⟩
  ·rintro c st' ⟨rfl,out',ia,ib,ac,bc,rfl,M,ha',hb',hs'⟩;have:=M.sz;omega
  ·rintro c st' ⟨rfl,h⟩;rcases h with⟨r,er,hr⟩ | ⟨out1,ia,ib,ac,bc,rfl,M,ha',hb',hs'⟩
   ·obtain⟨c1,c2⟩:=c;cases er;exact Ad ⟨⟨g,rfl⟩,r,rfl,hr⟩
   ·dsimp only;refine Ab (wpS_lift (Bv ⟨rfl,?_⟩));refine Ab (AS (AH (I:=fun y c st'=>(∃g,st'=f7 st g)/\∃out' ia ib mg ac bc,c=(none,out',ia,ib,mg,ac,bc)/\MP f a b out' ia ib/\ia+1<a.size/\ib<b.size/\out1.size+y≤out'.size)
     (Q:=fun c st'=>(∃g,st'=f7 st g)/\((∃r,c.1=some r/\vz f a.toList b.toList r.toList)\/∃out' ia ib mg ac bc,c=(none,out',ia,ib,mg,ac,bc)/\MP f a b out' ia ib/\ia+1<a.size/\ib<b.size/\out1.size≤out'.size)) ?_ ?_ ⟨⟨g,rfl⟩,_,_,_,_,_,_,rfl,M,ha',hb',Al _⟩) ?_)
    ·rintro y c st' _ hy ⟨⟨g',rfl⟩,out',ia,ib,mg',ac,bc,rfl,M,ha',hb',hs''⟩;have pA1:ia<a.size:=by exact fF
     dsimp only;generalize mg' - 1=mgx;revert mgx;refine rS (y:=mg') fun mg2=>?_
     all_goals
      refine Ab (wpS_modify ?_);refine Ab (jz (atB ib hb') ?_);refine Ab (bA O hk (okB ib hb') (by lia) (fun i=>tA (ia+i)) (fun i hi=>⟨tA1 _ (by lia),tA3 _ (by lia)⟩) (fun i=>!decide (f b[ib]<f (tA (ia+i)))) (fun i hi=>by rw[Ay (by simp)]) (fun i j hij hj h=>?_) fun k hk1 hlo hhi=>?_)
      ·have:=tA4 (i:=ia+i) (j:=ia+j) (by lia) (by lia);simp at h ⊢;lia
      have hlo:∀i,i<k->f (tA (ia+i))≤f b[ib]:=fun i hi=>by have:=hlo i hi;simpa using this
      have hhi:∀i,k≤i->i<a.size - ia->f b[ib]<f (tA (ia+i)):=fun i hi hj=>by have:=hhi i hi hj;simpa using this
      have kl:k<a.size - ia:=by
       rcases Dn hk1 with h | h
       ·exact h
       ·exfalso;have h1:=hlo (a.size - 1 - ia) (by lia);have h2:=hl b[ib] (by simp);rw[show ia+(a.size - 1 - ia)=a.size - 1 by lia,tA2 _ (by exact og)] at h1;omega
      have M1:MP f a b (out'++a.extract ia (ia+k)) (ia+k) ib:=M.segA (by lia) fun i hi hik j hj hij=>by have h1:=hlo i hik;rw[tA2 _ hi] at h1;exact BG h1 (yQ sb hij hj)
      have pB:∀j (hj:j<a.size),ia+k≤j->f b[ib]≤f a[j]:=fun j hj hij=>by have h1:=hhi (j - ia) (by lia) (by lia);rw[show ia+(j - ia)=j by lia,tA2 _ hj] at h1;lia
      dsimp only;generalize eo0:out'=o0;generalize ej0:ia=j0;revert j0;revert o0;refine iW (P:=fun(o:Array Keyed) (j:Nat)=>MP f a b o j ib/\out'.size≤o.size/\j+1<a.size/\∀j' (hj:j'<a.size),j≤j'->f b[ib]≤f a[j']) (x:=out') (i:=ia) (fun out3 ia3 hP=>?tail) (fun ck=>?hN) (fun ck key=>?hY)
      case hN=>
       obtain rfl:k=0:=by lia
       exact⟨M,Al _,ha',fun j hj hij=>pB j hj (by lia)⟩
      case hY=>
       by_cases e1:(ia+k+1==a.size)=true
       ·rw[AA e1];exact Ad ⟨⟨_,rfl⟩,.inl ⟨_,rfl,M1.last (by simpa using e1) hl⟩⟩
       ·rw[Ay e1,Ay (show ¬(ia+k==a.size)=true by simp;lia)];have e1:¬ia+k+1=a.size:=by simpa using e1
        exact key _ _ ⟨M1,by rw[BH];exact A4 _ _,by lia,pB⟩
      clear pB M1 hlo hhi;obtain⟨M1,h3,l3,pB⟩:=hP;have pA3:ia3<a.size:=by exact fF
      all_goals
       refine Ab (jz (atB ib hb') ?_);have M2:=M1.oneB hb' pB;have s2:(out3.push b[ib]).size=out3.size+1:=Bk _;by_cases e2:(ib+1==b.size)=true
       case' pos=>
        rw[AA e2];exact Ad ⟨⟨_,rfl⟩,.inl ⟨_,rfl,M2.done (by simpa using e2)⟩⟩
       case' neg=>
        rw[Ay e2];have e2:¬ib+1=b.size:=by simpa using e2
        refine Ab (jz (atA ia3 pA3) ?_);refine Ab (bA O hk (okA ia3 pA3) (by lia) (fun i=>tB (ib+1+i)) (fun i hi=>⟨tB1 _ (by omega),tB3 _ (by lia)⟩) (fun i=>decide (f (tB (ib+1+i))<f a[ia3])) (fun i hi=>by rw[AA rfl]) (fun i j hij hj h=>?_) fun k2 hk2 hlo2 hhi2=>?_)
        ·have:=tB4 (i:=ib+1+i) (j:=ib+1+j) (by lia) (by omega);simp at h ⊢;lia
        have hlo2:∀i,i<k2->f (tB (ib+1+i))<f a[ia3]:=fun i hi=>by have:=hlo2 i hi;simpa using this
        have hhi2:∀i,k2≤i->i<b.size - (ib+1)->f a[ia3]≤f (tB (ib+1+i)):=fun i hi hj=>by have:=hhi2 i hi hj;simpa using this
        have M3:MP f a b (out3.push b[ib]++b.extract (ib+1) (ib+1+k2)) ia3 (ib+1+k2):=M2.segB (by omega) fun i hi hik j hj hij=>by have h1:=hlo2 i hik;rw[tB2 _ hi] at h1;exact BG (BI h1) (yQ sa hij hj)
        have pA:∀j (hj:j<b.size),ib+1+k2≤j->f a[ia3]≤f b[j]:=fun j hj hij=>by have h1:=hhi2 (j - (ib+1)) (by lia) (by omega);rw[show ib+1+(j - (ib+1))=j by lia,tB2 _ hj] at h1;exact h1
        dsimp only;obtain⟨o3,eo3⟩:∃o,o=out3.push b[ib]:=⟨_,rfl⟩;obtain⟨ib3,ei3⟩:∃i,i=ib+1:=⟨_,rfl⟩;rw[<-eo3] at s2;rw[<-eo3,<-ei3] at M2 M3 ⊢;rw[<-ei3] at pA hk2;generalize eo0:o3=o0;generalize ej0:ib3=j0;revert j0;revert o0;refine iW (P:=fun(o:Array Keyed) (j:Nat)=>MP f a b o ia3 j/\out3.size+1≤o.size/\j<b.size/\∀j' (hj:j'<b.size),j≤j'->f a[ia3]≤f b[j']) (x:=o3) (i:=ib3) (fun out4 ib4 hP=>?tail2) (fun ck=>?hN) (fun ck key=>?hY)
        case hN=>
         obtain rfl:k2=0:=by lia
         exact⟨M2,by lia,by lia,fun j hj hij=>pA j hj (by lia)⟩
        case hY=>
         by_cases e3:(ib3+k2==b.size)=true
         ·rw[AA e3];exact Ad ⟨⟨_,rfl⟩,.inl ⟨_,rfl,M3.done (by simpa using e3)⟩⟩
         ·rw[Ay e3];have e3:¬ib3+k2=b.size:=by simpa using e3
          exact key _ _ ⟨M3,by rw[BH];lia,by lia,pA⟩
        clear pA M3 hlo2 hhi2;obtain⟨M3,h4,l4,pA⟩:=hP
        all_goals
         refine Ab (jz (atA ia3 pA3) ?_);have M4:=M3.oneA (by lia) pA;have s4:(out4.push a[ia3]).size=out4.size+1:=Bk _;by_cases e4:(ia3+1+1==a.size)=true
         ·rw[AA e4];exact Ad ⟨⟨_,rfl⟩,.inl ⟨_,rfl,M4.last (by simpa using e4) hl⟩⟩
         ·rw[Ay e4];have e4:¬ia3+1+1=a.size:=by simpa using e4
          split
          ·exact Ad ⟨⟨_,rfl⟩,.inr ⟨_,_,_,_,_,_,rfl,M4,by exact wU,l4,by lia⟩⟩
          ·exact Ad ⟨⟨_,rfl⟩,_,_,_,_,_,_,rfl,M4,by lia,l4,by lia⟩
    ·rintro c st' ⟨⟨g',rfl⟩,out',ia,ib,mg',ac,bc,rfl,M,ha',hb',hs''⟩;have:=M.sz;omega
    ·rintro c st' ⟨⟨g',rfl⟩,h⟩;rcases h with⟨r,er,hr⟩ | ⟨out2,ia,ib,mg2,ac,bc,rfl,M,ha',hb',hs''⟩
     ·obtain⟨c1,c2⟩:=c;cases er;exact Ad ⟨⟨g',rfl⟩,r,rfl,hr⟩
     ·dsimp only;refine Ab (wpS_modify ?_);exact Ad ⟨⟨_,rfl⟩,_,_,_,_,rfl,M,ha',hb',by lia⟩
 ·rintro c st' ⟨⟨g,rfl⟩,out,ia,ib,mg,rfl,M,ha',hb',hs⟩;have:=M.sz;lia
 ·rintro c st' ⟨⟨g,rfl⟩,r,er,hr⟩;obtain⟨c1,c2⟩:=c;cases er;exact Ad (q r g hr)
end
structure MH(f:Keyed->Int)(la lb ra rb o:List Keyed):Prop where
 perm:(ra++rb++o).Perm (la++lb)
 so:o.Pairwise fun x y=>f x≤f y
 sa:ra.Pairwise fun x y=>f x≤f y
 sb:rb.Pairwise fun x y=>f x≤f y
 oa:∀x∈ra,∀y∈o,f x≤f y
 ob:∀x∈rb,∀y∈o,f x≤f y
theorem MH.a{f:Keyed->Int}{la lb o seg ra rb:List Keyed}(h:MH f la lb (ra++seg) rb o)(hs:∀x∈rb,∀y∈seg,f x≤f y):MH f la lb ra rb (seg++o):=by
 have sa:=AQ.mp h.sa;refine⟨List.Perm.trans ?_ h.perm,AQ.mpr ⟨sa.2.1,h.so,fun x hx y hy=>h.oa x (Af _ hx) y hy⟩,sa.1,h.sb,fun x hx y hy=>?_,fun x hx y hy=>?_⟩
 ·rw[<-AD];refine(Bj o).mpr ?_;rw[AD,AD];exact(Bu ra).mpr BE
 ·rcases Ak.mp hy with hy | hy
  ·exact sa.2.2 x hx y hy
  ·exact h.oa x (Av _ hx) y hy
 ·rcases Ak.mp hy with hy | hy
  ·exact hs x hx y hy
  ·exact h.ob x hx y hy
theorem MH.b{f:Keyed->Int}{la lb o seg ra rb:List Keyed}(h:MH f la lb ra (rb++seg) o)(hs:∀x∈ra,∀y∈seg,f x≤f y):MH f la lb ra rb (seg++o):=by
 have sb:=AQ.mp h.sb;refine⟨?_,AQ.mpr ⟨sb.2.1,h.so,fun x hx y hy=>h.ob x (Af _ hx) y hy⟩,h.sa,sb.1,fun x hx y hy=>?_,fun x hx y hy=>?_⟩
 ·have:=h.perm;rw[<-AD,AD ra rb seg];exact this
 ·rcases Ak.mp hy with hy | hy
  ·exact hs x hx y hy
  ·exact h.oa x hx y hy
 ·rcases Ak.mp hy with hy | hy
  ·exact sb.2.2 x hx y hy
  ·exact h.ob x (Av _ hx) y hy
theorem MH.ea{f:Keyed->Int}{la lb o rb:List Keyed}(h:MH f la lb [] rb o):vz f la lb (rb++o):=⟨by have:=h.perm;rwa[Ci] at this,AQ.mpr ⟨h.sb,h.so,h.ob⟩⟩
theorem MH.eb{f:Keyed->Int}{la lb o ra rb:List Keyed}(h:MH f la lb ra rb o)(hs:∀x∈rb,∀y∈ra,f x≤f y):vz f la lb (rb++ra++o):=by
 refine⟨List.Perm.trans ?_ h.perm,?_⟩
 ·exact(Bj o).mpr BE
 ·refine AQ.mpr ⟨AQ.mpr ⟨h.sb,h.sa,hs⟩,h.so,fun x hx y hy=>?_⟩;rcases Ak.mp hx with hx | hx
  ·exact h.ob x hx y hy
  ·exact h.oa x hx y hy
structure HP(f:Keyed->Int)(a b out:Array Keyed)(na nb:Nat):Prop where
 mi:MH f a.toList b.toList (a.toList.take na) (b.toList.take nb) out.toList.reverse
 sz:out.size+na+nb=a.size+b.size
 la:na≤a.size
 lb:nb≤b.size
theorem ag0(a:Array Keyed)(h:i<a.size):a.toList.take (i+1)=a.toList.take i++[a[i]]:=by rw[Bh];simp[h]
theorem eh{a:Array Keyed}{x:Keyed}(h:x∈a.toList.take i):∃j,∃hj:j<a.size,j<i/\a[j]=x:=by
 obtain⟨j,hj,e⟩:=A3 h;rw[AN] at hj;have h1:j<a.size:=by have:a.toList.length=a.size:=AL;omega
 refine⟨j,h1,by omega,?_⟩;rw[<-e];simp
theorem aec(l:List Keyed){k:Nat}(h:i≤k):l.take i++(l.drop i).take (k - i)=l.take k:=by have:=List.take_add (l:=l) (i:=i) (j:=k - i);rw[show i+(k - i)=k by omega] at this;exact this.symm
section
variable {f:Keyed->Int}{a b out:Array Keyed}{nb:Nat}
theorem HP.segA(M:HP f a b out na nb){k:Nat}(hk:k≤na)(h:∀i (hi:i<a.size),k≤i->i<na->∀j (hj:j<b.size),j<nb->f b[j]≤f a[i]):HP f a b (out++(a.extract k na).reverse) k nb:=by
 have hl:=M.la;refine⟨?_,?_,by exact aiz,M.lb⟩
 ·rw[A7,CB,Ct,List.reverse_reverse,fe];refine MH.a (by rw[aec _ hk];exact M.mi) fun x hx y hy=>?_;obtain⟨j,hj,h2,rfl⟩:=eh hx;obtain⟨i,hi,h1,rfl⟩:=oH hy;exact h (k+i) hi (by exact A4 _ _) (by lia) j hj h2
 ·have:=M.sz;rw[BH,Array.size_reverse,CL];lia
theorem HP.segB(M:HP f a b out na nb){k:Nat}(hk:k≤nb)(h:∀i (hi:i<b.size),k≤i->i<nb->∀j (hj:j<a.size),j<na->f a[j]≤f b[i]):HP f a b (out++(b.extract k nb).reverse) na k:=by
 have hl:=M.lb;refine⟨?_,?_,M.la,by lia⟩
 ·rw[A7,CB,Ct,List.reverse_reverse,fe];refine MH.b (by rw[aec _ hk];exact M.mi) fun x hx y hy=>?_;obtain⟨j,hj,h2,rfl⟩:=eh hx;obtain⟨i,hi,h1,rfl⟩:=oH hy;exact h (k+i) hi (by lia) (by lia) j hj h2
 ·have:=M.sz;rw[BH,Array.size_reverse,CL];lia
theorem HP.oneA(M:HP f a b out (na+1) nb)(hi:na<a.size)(h:∀j (hj:j<b.size),j<nb->f b[j]≤f a[na]):HP f a b (out.push a[na]) na nb:=by refine⟨?_,by have:=M.sz;rw[Bk];lia,by exact fF,M.lb⟩;rw[Co,CB];refine MH.a (seg:=[a[na]]) (by rw[<-ag0 a hi];exact M.mi) fun x hx y hy=>?_;obtain⟨j,hj,h2,rfl⟩:=eh hx;rw[Ao.mp hy];exact h j hj h2
theorem HP.oneB(M:HP f a b out na (nb+1))(hi:nb<b.size)(h:∀j (hj:j<a.size),j<na->f a[j]≤f b[nb]):HP f a b (out.push b[nb]) na nb:=by refine⟨?_,by have:=M.sz;rw[Bk];lia,M.la,by lia⟩;rw[Co,CB];refine MH.b (seg:=[b[nb]]) (by rw[<-ag0 b hi];exact M.mi) fun x hx y hy=>?_;obtain⟨j,hj,h2,rfl⟩:=eh hx;rw[Ao.mp hy];exact h j hj h2
theorem HP.done(M:HP f a b out na nb)(h:na=0):vz f a.toList b.toList (a.extract 0 na++b.extract 0 nb++out.reverse).toList:=by subst h;have:=M.mi;rw[DR] at this;have:=this.ea;rw[A7,A7,fe,fe,Ct];simpa using this
theorem HP.last(M:HP f a b out na nb)(h:nb=1)(hb:0<b.size)(h0:∀x∈a.toList,f b[0]<f x):vz f a.toList b.toList (b.extract 0 nb++a.extract 0 na++out.reverse).toList:=by
 have:=M.mi.eb fun x hx y hy=>by
  obtain⟨j,hj,h2,rfl⟩:=eh hx;have e:j=0:=by lia
  subst e;exact BI (h0 y (BB hy))
 rw[A7,A7,fe,fe,Ct];simpa using this
end
theorem HP.preA{f:Keyed->Int}{a b out:Array Keyed}{nb:Nat}(M:HP f a b out na nb)(h0:0<na)(h:∀j (hj:j<b.size),j<nb->f b[j]≤f (a[na - 1]'(by have:=M.la;omega))):HP f a b (out.push (a[na - 1]'(by have:=M.la;omega))) (na - 1) nb:=by obtain⟨n,rfl⟩:∃n,na=n+1:=⟨na - 1,by lia⟩;have hl:=M.la;exact HP.oneA M (by assumption) h
theorem HP.preB{f:Keyed->Int}{a b out:Array Keyed}{nb:Nat}(M:HP f a b out na nb)(h0:0<nb)(h:∀j (hj:j<a.size),j<na->f a[j]≤f (b[nb - 1]'(by have:=M.lb;omega))):HP f a b (out.push (b[nb - 1]'(by have:=M.lb;lia))) na (nb - 1):=by obtain⟨n,rfl⟩:∃n,nb=n+1:=⟨nb - 1,by lia⟩;have hl:=M.lb;exact HP.oneB M (by lia) h
section
variable {w:World}{κ:SortKind}{Ok:Keyed->Prop}{f:Keyed->Int}
theorem ah{c:Prop} [Decidable c]{x y:StateT SortSt Sem α}{Q:α->SortSt->Prop}{st:SortSt}(h:c)(k:wpS M A E s x Q st):wpS M A E s (if c then x else y) Q st:=by rw[AA h];exact k
theorem aG{c:Prop} [Decidable c]{x y:StateT SortSt Sem α}{Q:α->SortSt->Prop}{st:SortSt}(h:¬c)(k:wpS M A E s y Q st):wpS M A E s (if c then x else y) Q st:=by rw[Ay h];exact k
theorem xX(O:vY prog w A s κ Ok f){a b:Array Keyed}{st:SortSt}{Q:Array Keyed->SortSt->Prop}(hk:kindOf st=κ)(oka:∀x∈a.toList,Ok x)(okb:∀x∈b.toList,Ok x)
 (sa:a.toList.Pairwise fun x y=>f x≤f y) (sb:b.toList.Pairwise fun x y=>f x≤f y) (ha:0<a.size) (hb:0<b.size) (h0:∀x∈a.toList,f b[0]<f x) (hl:∀x∈b.toList,f x<f a[a.size - 1])
 (q:∀r g,vz f a.toList b.toList r.toList->Q r (f7 st g)):wpS (model prog w) A E s (aar a b) Q st:=by
 have okA:∀i (hi:i<a.size),Ok a[i]:=fun i hi=>oka _ (by simp);have okB:∀i (hi:i<b.size),Ok b[i]:=fun i hi=>okb _ (by simp);have atA:∀i (hi:i<a.size),a[i]?=some a[i]:=fun i hi=>by simp[hi]
 have atB:∀i (hi:i<b.size),b[i]?=some b[i]:=fun i hi=>by simp[hi]
 obtain⟨tA,tA0⟩:∃t:Nat->Keyed,t=fun i=>(a[i]?).getD b[0]:=⟨_,rfl⟩;have tA2:∀i (hi:i<a.size),tA i=a[i]:=fun i hi=>by rw[tA0];simp[hi]
 have tA1:∀i (hi:i<a.size),a[0+i]?=some (tA i):=fun i hi=>by rw[tA2 i hi,DI];exact atA i hi
 have tA3:∀i (hi:i<a.size),Ok (tA i):=fun i hi=>by rw[tA2 i hi];exact okA i hi
 have tA4:∀{i j},i≤j->j<a.size->f (tA i)≤f (tA j):=fun {i j} hij hj=>by rw[tA2 i (by exact gC),tA2 j hj];exact yQ sa hij hj
 obtain⟨tB,tB0⟩:∃t:Nat->Keyed,t=fun i=>(b[i]?).getD b[0]:=⟨_,rfl⟩;have tB2:∀i (hi:i<b.size),tB i=b[i]:=fun i hi=>by rw[tB0];simp[hi]
 have tB1:∀i (hi:i<b.size),b[0+i]?=some (tB i):=fun i hi=>by rw[tB2 i hi,DI];exact atB i hi
 have tB3:∀i (hi:i<b.size),Ok (tB i):=fun i hi=>by rw[tB2 i hi];exact okB i hi
 have tB4:∀{i j},i≤j->j<b.size->f (tB i)≤f (tB j):=fun {i j} hij hj=>by rw[tB2 i (by exact gC),tB2 j hj];exact yQ sb hij hj
 refine Ab (wpS_lift (Bv ⟨rfl,?_⟩));refine Ab (jz (x:=a[a.size - 1]) (atA _ (by exact og)) ?_);dsimp only;obtain⟨n0,hn0⟩:∃n,a.size=n+1:=⟨a.size - 1,by lia⟩;have M0:HP f a b #[a[a.size - 1]] (a.size - 1) b.size:=by
  have M:HP f a b #[] (a.size - 1+1) b.size:=by
   refine⟨⟨?_,by simp,?_,?_,by simp,by simp⟩,by simp;lia,by exact og,Al _⟩
   ·rw[AZ (by simp;lia),AZ (by simp)];simp
   ·rw[AZ (by simp;lia)];exact sa
   ·rw[AZ (by simp)];exact sb
  have:=M.oneA (by lia) fun j hj _=>BI (hl b[j] (by simp));simpa using this
 by_cases c1:(a.size - 1==0)=true
 ·refine ah c1 ?_;exact Ad (q _ (gallopOf st) (M0.done (by simpa using c1)))
 refine aG c1 ?_;by_cases c2:(b.size==1)=true
 ·refine ah c2 ?_;exact Ad (q _ (gallopOf st) (M0.last (by simpa using c2) hb h0))
 refine aG c2 ?_;have c1:¬a.size - 1=0:=by simpa using c1
 have c2:¬b.size=1:=by simpa using c2
 refine Ab (wpS_get ?_);refine Ab (AS (AH (I:=fun x c st'=>(∃g,st'=f7 st g)/\∃na nb out mg,c=(none,na,nb,out,mg)/\HP f a b out na nb/\0<na/\1<nb/\x+1≤out.size)
  (Q:=fun c st'=>(∃g,st'=f7 st g)/\∃r,c.1=some r/\vz f a.toList b.toList r.toList) ?_ ?_ ⟨⟨gallopOf st,rfl⟩,_,_,_,_,rfl,M0,by exact aba,by lia,by simp⟩) ?_)
 ·rintro x c st' _ hx ⟨⟨g,rfl⟩,na,nb,out,mg,rfl,M,ha',hb',hs⟩;dsimp only;refine Ab (AS (AH (I:=fun y c st'=>st'=f7 st g/\∃na nb out' ac bc,c=(none,na,nb,out',ac,bc)/\HP f a b out' na nb/\0<na/\1<nb/\out.size+y≤out'.size)
   (Q:=fun c st'=>st'=f7 st g/\((∃r,c.1=some r/\vz f a.toList b.toList r.toList)\/∃na nb out' ac bc,c=(none,na,nb,out',ac,bc)/\HP f a b out' na nb/\0<na/\1<nb/\out.size+1≤out'.size)) ?_ ?_ ⟨rfl,_,_,_,_,_,rfl,M,ha',hb',Al _⟩) ?_)
  ·rintro y c st' _ hy ⟨rfl,na,nb,out',ac,bc,rfl,M,ha',hb',hs'⟩;have hla:=M.la;have hlb:=M.lb;have pB1:nb - 1<b.size:=by omega
   have pA1:na - 1<a.size:=by lia
   dsimp only;refine Ab (jz (atB (nb - 1) pB1) ?_);refine Ab (jz (atA (na - 1) pA1) ?_);refine Ab (w_lt O hk (okB (nb - 1) pB1) (okA (na - 1) pA1) ?_);dsimp only;by_cases c:f b[nb - 1]<f a[na - 1]
   ·rw[AG c,AA rfl];refine Ab (jz (atA (na - 1) pA1) ?_);have M':=M.preA ha' fun j hj hij=>BI (Int.lt_of_le_of_lt (yQ sb (i:=j) (j:=nb - 1) (Cu hij) pB1) c);have s2:(out'.push a[na - 1]).size=out'.size+1:=Bk _;by_cases e1:(na - 1==0)=true
    ·refine ah e1 ?_;exact Ad ⟨rfl,.inl ⟨_,rfl,M'.done (by simpa using e1)⟩⟩
    ·refine aG e1 ?_;have e1:¬na - 1=0:=by simpa using e1
     split
     ·exact Ad ⟨rfl,.inr ⟨_,_,_,_,_,rfl,M',by exact aba,hb',by lia⟩⟩
     ·exact Ad ⟨rfl,_,_,_,_,_,rfl,M',by lia,hb',by lia⟩
   ·rw[Az c,Ay (by simp)];refine Ab (jz (atB (nb - 1) pB1) ?_);have M':=M.preB (by exact fF) fun j hj hij=>BG (yQ sa (i:=j) (j:=na - 1) (Cu hij) pA1) (by omega);have s2:(out'.push b[nb - 1]).size=out'.size+1:=Bk _;by_cases e1:(nb - 1==1)=true
    ·refine ah e1 ?_;exact Ad ⟨rfl,.inl ⟨_,rfl,M'.last (by simpa using e1) hb h0⟩⟩
    ·refine aG e1 ?_;have e1:¬nb - 1=1:=by simpa using e1
     split
     ·exact Ad ⟨rfl,.inr ⟨_,_,_,_,_,rfl,M',ha',by lia,by lia⟩⟩
     ·exact Ad ⟨rfl,_,_,_,_,_,rfl,M',ha',by lia,by lia⟩
  ·rintro c st' ⟨rfl,na,nb,out',ac,bc,rfl,M,ha',hb',hs'⟩;have:=M.sz;omega
  ·rintro c st' ⟨rfl,h⟩;rcases h with⟨r,er,hr⟩ | ⟨na,nb,out1,ac,bc,rfl,M,ha',hb',hs'⟩
   ·obtain⟨c1,c2⟩:=c;cases er;exact Ad ⟨⟨g,rfl⟩,r,rfl,hr⟩
   ·dsimp only;refine Ab (wpS_lift (Bv ⟨rfl,?_⟩));refine Ab (AS (AH (I:=fun y c st'=>(∃g,st'=f7 st g)/\∃na nb out' mg ac bc,c=(none,na,nb,out',mg,ac,bc)/\HP f a b out' na nb/\0<na/\1<nb/\out1.size+y≤out'.size)
     (Q:=fun c st'=>(∃g,st'=f7 st g)/\((∃r,c.1=some r/\vz f a.toList b.toList r.toList)\/∃na nb out' mg ac bc,c=(none,na,nb,out',mg,ac,bc)/\HP f a b out' na nb/\0<na/\1<nb/\out1.size≤out'.size)) ?_ ?_ ⟨⟨g,rfl⟩,_,_,_,_,_,_,rfl,M,ha',hb',Al _⟩) ?_)
    ·rintro y c st' _ hy ⟨⟨g',rfl⟩,na,nb,out',mg',ac,bc,rfl,M,ha',hb',hs''⟩;have hla:=M.la;have hlb:=M.lb;have pB1:nb - 1<b.size:=by omega
     have pA1:na - 1<a.size:=by lia
     dsimp only;generalize mg' - 1=mgx;revert mgx;refine rS (y:=mg') fun mg2=>?_
     all_goals
      refine Ab (wpS_modify ?_);refine Ab (jz (atB (nb - 1) pB1) ?_);refine Ab (bA O hk (okB (nb - 1) pB1) (by exact og) tA (fun i hi=>⟨tA1 _ (by exact wG),tA3 _ (by lia)⟩) (fun i=>!decide (f b[nb - 1]<f (tA i))) (fun i hi=>by rw[Ay (by simp)]) (fun i j hij hj h=>?_) fun k hk1 hlo hhi=>?_)
      ·have:=tA4 (i:=i) (j:=j) (by lia) (by exact wG);simp at h ⊢;lia
      have hlo:∀i,i<k->f (tA i)≤f b[nb - 1]:=fun i hi=>by have:=hlo i hi;simpa using this
      have hhi:∀i,k≤i->i<na->f b[nb - 1]<f (tA i):=fun i hi hj=>by have:=hhi i hi hj;simpa using this
      have M1:HP f a b (out'++(a.extract k na).reverse) k nb:=M.segA hk1 fun i hi h1 h2 j hj hij=>by have h3:=hhi i h1 h2;rw[tA2 _ hi] at h3;exact BG (yQ sb (i:=j) (j:=nb - 1) (Cu hij) pB1) (BI h3)
      have pB:∀j (hj:j<a.size),j<k->f a[j]≤f b[nb - 1]:=fun j hj hij=>by have h1:=hlo j hij;rw[tA2 _ hj] at h1;exact h1
      dsimp only;generalize ec0:na - k=cn;generalize eo0:out'=o0;generalize ej0:na=j0;revert j0;revert o0;refine iW (P:=fun(o:Array Keyed) (j:Nat)=>HP f a b o j nb/\out'.size≤o.size/\0<j/\∀j' (hj:j'<a.size),j'<j->f a[j']≤f b[nb - 1]) (x:=out') (i:=na) (fun out3 na3 hP=>?tail) (fun ck=>?hN) (fun ck key=>?hY)
      case hN=>
       obtain rfl:k=na:=by lia
       exact⟨M,Al _,by lia,pB⟩
      case hY=>
       by_cases e1:(k==0)=true
       ·refine ah e1 ?_;exact Ad ⟨⟨_,rfl⟩,.inl ⟨_,rfl,M1.done (by simpa using e1)⟩⟩
       ·refine aG e1 ?_;have e1:¬k=0:=by simpa using e1
        exact key _ _ ⟨M1,by rw[BH];exact A4 _ _,by exact aba,pB⟩
      clear pB M1 hlo hhi;obtain⟨M1,h3,l3,pB⟩:=hP
      all_goals
       have hla3:=M1.la;have pA3:na3 - 1<a.size:=by lia
       refine Ab (jz (atB (nb - 1) pB1) ?_);have M2:=M1.preB (by exact fF) pB;have s2:(out3.push b[nb - 1]).size=out3.size+1:=Bk _;by_cases e2:(nb - 1==1)=true
       case' pos=>
        refine ah e2 ?_;exact Ad ⟨⟨_,rfl⟩,.inl ⟨_,rfl,M2.last (by simpa using e2) hb h0⟩⟩
       case' neg=>
        refine aG e2 ?_;have e2:¬nb - 1=1:=by simpa using e2
        refine Ab (jz (atA (na3 - 1) pA3) ?_);refine Ab (bA O hk (okA (na3 - 1) pA3) (by lia) tB (fun i hi=>⟨tB1 _ (by exact lF),tB3 _ (by lia)⟩) (fun i=>decide (f (tB i)<f a[na3 - 1])) (fun i hi=>by rw[AA rfl]) (fun i j hij hj h=>?_) fun k2 hk2 hlo2 hhi2=>?_)
        ·have:=tB4 (i:=i) (j:=j) (by lia) (by exact lF);simp at h ⊢;lia
        have hlo2:∀i,i<k2->f (tB i)<f a[na3 - 1]:=fun i hi=>by have:=hlo2 i hi;simpa using this
        have hhi2:∀i,k2≤i->i<nb - 1->f a[na3 - 1]≤f (tB i):=fun i hi hj=>by have:=hhi2 i hi hj;simpa using this
        have k1:0<k2:=by
         rcases Nat.eq_zero_or_pos k2 with h | h
         ·exfalso;have h5:=hhi2 0 (by exact pO) (by lia);rw[tB2 _ hb] at h5;have h6:=h0 a[na3 - 1] (by simp);lia
         ·exact h
        have M3:HP f a b (out3.push b[nb - 1]++(b.extract k2 (nb - 1)).reverse) na3 k2:=M2.segB hk2 fun i hi h1 h2 j hj hij=>by have h5:=hhi2 i h1 h2;rw[tB2 _ hi] at h5;exact BG (yQ sa (i:=j) (j:=na3 - 1) (Cu hij) pA3) h5
        have pA:∀j (hj:j<b.size),j<k2->f b[j]≤f a[na3 - 1]:=fun j hj hij=>by have h5:=hlo2 j hij;rw[tB2 _ hj] at h5;exact BI h5
        dsimp only;generalize ec2:nb - 1 - k2=cn2;obtain⟨o3,eo3⟩:∃o,o=out3.push b[nb - 1]:=⟨_,rfl⟩;obtain⟨nb3,ei3⟩:∃i,i=nb - 1:=⟨_,rfl⟩;have eb:b[nb - 1]=b[nb3]'(by lia):=by subst ei3;rfl
        rw[<-eo3] at s2 M2 M3 ⊢;rw[<-ei3] at M2 M3 ec2 hk2 ⊢;generalize eo0:o3=o0;generalize ej0:nb3=j0;revert j0;revert o0;refine iW (P:=fun(o:Array Keyed) (j:Nat)=>HP f a b o na3 j/\out3.size+1≤o.size/\1<j/\∀j' (hj:j'<b.size),j'<j->f b[j']≤f a[na3 - 1]) (x:=o3) (i:=nb3) (fun out4 nb4 hP=>?tail2) (fun ck=>?hN) (fun ck key=>?hY)
        case hN=>
         obtain rfl:k2=nb3:=by lia
         exact⟨M2,by lia,by lia,pA⟩
        case hY=>
         by_cases e3:(k2==1)=true
         ·refine ah e3 ?_;exact Ad ⟨⟨_,rfl⟩,.inl ⟨_,rfl,M3.last (by simpa using e3) hb h0⟩⟩
         ·refine aG e3 (aG (show ¬(k2==0)=true by simp;exact agh) ?_);have e3:¬k2=1:=by simpa using e3
          exact key _ _ ⟨M3,by rw[BH];lia,by lia,pA⟩
        clear pA M3 hlo2 hhi2;obtain⟨M3,h4,l4,pA⟩:=hP
        all_goals
         refine Ab (jz (atA (na3 - 1) pA3) ?_);have M4:=M3.preA l3 pA;have s4:(out4.push a[na3 - 1]).size=out4.size+1:=Bk _;by_cases e4:(na3 - 1==0)=true
         ·refine ah e4 ?_;exact Ad ⟨⟨_,rfl⟩,.inl ⟨_,rfl,M4.done (by simpa using e4)⟩⟩
         ·refine aG e4 ?_;have e4:¬na3 - 1=0:=by simpa using e4
          split
          ·exact Ad ⟨⟨_,rfl⟩,.inr ⟨_,_,_,_,_,_,rfl,M4,by exact aba,l4,by lia⟩⟩
          ·exact Ad ⟨⟨_,rfl⟩,_,_,_,_,_,_,rfl,M4,by lia,l4,by lia⟩
    ·rintro c st' ⟨⟨g',rfl⟩,na,nb,out',mg',ac,bc,rfl,M,ha',hb',hs''⟩;have:=M.sz;omega
    ·rintro c st' ⟨⟨g',rfl⟩,h⟩;rcases h with⟨r,er,hr⟩ | ⟨na,nb,out2,mg2,ac,bc,rfl,M,ha',hb',hs''⟩
     ·obtain⟨c1,c2⟩:=c;cases er;exact Ad ⟨⟨g',rfl⟩,r,rfl,hr⟩
     ·dsimp only;refine Ab (wpS_modify ?_);exact Ad ⟨⟨_,rfl⟩,_,_,_,_,rfl,M,ha',hb',by lia⟩
 ·rintro c st' ⟨⟨g,rfl⟩,na,nb,out,mg,rfl,M,ha',hb',hs⟩;have:=M.sz;lia
 ·rintro c st' ⟨⟨g,rfl⟩,r,er,hr⟩;obtain⟨c1,c2⟩:=c;cases er;exact Ad (q r g hr)
end
def ao(f:Keyed->Int):List (Nat×Nat×Nat)->List (List Keyed)->Nat->Prop
 |[],[],_=>True
 |(st,n,_)::ps,l::ls,s=>st=s/\n=l.length/\0<l.length/\(l.Pairwise fun x y=>f x≤f y)/\ao f ps ls (s+l.length)
 |_,_,_=>False
theorem ao.split{f:Keyed->Int}:∀{ps:List (Nat×Nat×Nat)} {pre:List (List Keyed)} {A B:List Keyed} {post:List (List Keyed)} {s:Nat},ao f ps (pre++A::B::post) s->
 ∃P1 P2 w1 w2,ps=P1++(s+pre.flatten.length,A.length,w1)::(s+pre.flatten.length+A.length,B.length,w2)::P2/\P1.length=pre.length/\0<A.length/\0<B.length/\(A.Pairwise fun x y=>f x≤f y)/\(B.Pairwise fun x y=>f x≤f y)/\
  ∀C w,C.length=A.length+B.length->(C.Pairwise fun x y=>f x≤f y)->ao f (P1++(s+pre.flatten.length,A.length+B.length,w)::P2) (pre++C::post) s
 |[],[],A,B,post,s,h=>by exact h.elim
 |[_],[],A,B,post,s,h=>by exact h.2.2.2.2.elim
 |(a1,a2,a3)::(b1,b2,b3)::ps,[],A,B,post,s,h=>by
  obtain⟨h1,h2,h3,h4,k1,k2,k3,k4,k5⟩:=h;refine⟨[],ps,a3,b3,?_,rfl,h3,k3,h4,k4,fun C w hC hs=>⟨rfl,hC.symm,by lia,hs,?_⟩⟩
  ·simp[h1,h2,k1,k2]
  ·rw[hC];have:=k5;rw[DS] at this;exact this
 |[],_::_,A,B,post,s,h=>by exact h.elim
 |(a1,a2,a3)::ps,l::pre,A,B,post,s,h=>by
  obtain⟨h1,h2,h3,h4,k⟩:=h;obtain⟨P1,P2,w1,w2,e,e1,e2,e3,e4,e5,e6⟩:=ao.split k;have en:s+(l::pre).flatten.length=s+l.length+pre.flatten.length:=by simp;simp +arith only
  refine⟨(a1,a2,a3)::P1,P2,w1,w2,?_,by simp[e1],e2,e3,e4,e5,fun C w hC hs=>⟨h1,h2,h3,h4,?_⟩⟩
  ·rw[en,e];rfl
  ·rw[en];exact e6 C w hC hs
theorem adb{σ:Type}{st st':σ}{Q:PUnit->σ->Prop}(h:Q ⟨⟩ st'):wpS M A E s (set st':StateT σ Sem PUnit) Q st:=by unfold wpS;rw[StateT.run_set];exact Ai ⟨rfl,h⟩
theorem jK{α:Type}:∀(m:List α) (arr:Array α) (i k:Nat),i+k+m.length≤arr.size->((m.zipIdx k).foldl (fun(a:Array α) (pj:α×Nat)=>a.setIfInBounds (i+pj.2) pj.1) arr).toList=arr.toList.take (i+k)++(m++arr.toList.drop (i+k+m.length))
 |[],arr,i,k,h=>by simp
 |x::m,arr,i,k,h=>by
  rw[DC,List.foldl_cons];simp only[AJ] at h;rw[jK m _ i (k+1) (by simp;lia)];have e:(arr.setIfInBounds (i+k) x).toList=arr.toList.set (i+k) x:=by simp
  have l:arr.toList.length=arr.size:=AL;rw[e,List.drop_set,AA (by exact A4 _ _),<-DS,Bh,BQ (by lia),List.take_set_of_le (by simp +arith only),AJ];simp;congr 1;simp +arith only
structure a6(κ:SortKind)(Ok:Keyed->Prop)(f:Keyed->Int)(st:SortSt)(j3:List (List Keyed))(rest:List Keyed):Prop where
 kind:kindOf st=κ
 failed:failedOf st=none
 arr:(arrOf st).toList=j3.flatten++rest
 pend:ao f (pendingOf st).toList j3 0
 ok:∀x∈(arrOf st).toList,Ok x
section
variable {w:World}{κ:SortKind}{Ok:Keyed->Prop}{f:Keyed->Int}
theorem rY{l:List Keyed}(s:l.Pairwise fun x y=>f x≤f y)(hij:i≤j)(hj:j<l.length):f (l[i]'(by exact gC))≤f l[j]:=by
 rcases Dn hij with h | h
 ·exact B1.mp s i j (by exact gC) hj h
 ·subst h;exact CP _
theorem aah{p:Array α}{P1 P2:List α}{u v z:α}(h:p.toList=P1++u::v::P2):((p.setIfInBounds P1.length z).eraseIdxIfInBounds (P1.length+1)).toList=P1++z::P2:=by
 have hs:p.size=P1.length+(P2.length+2):=by rw[<-AL,h];simp
 have h2:P1.length+1<(p.setIfInBounds P1.length z).size:=by rw[Array.size_setIfInBounds];lia
 rw[Array.eraseIdxIfInBounds,dif_pos h2,Array.toList_eraseIdx,Array.toList_setIfInBounds,h,List.set_append_right _ _ (Al _),Cy,List.set_cons_zero,CQ (by exact A4 _ _),BP];rfl
theorem vC(O:vY prog w A s κ Ok f){st:SortSt}{pre post:List (List Keyed)}{X Y rest:List Keyed}{Q:Bool->SortSt->Prop}(G:a6 κ Ok f st (pre++X::Y::post) rest)
 (q:∀st' C,a6 κ Ok f st' (pre++C::post) rest->C.Perm (X++Y)->Q true st'):wpS (model prog w) A E s (mergeAt' pre.length) Q st:=by
 obtain⟨P1,P2,w1,w2,ep,e1,lX,lY,sX,sY,done⟩:=G.pend.split;simp only[DI] at ep done;have a1:(pendingOf st)[pre.length]?=some (pre.flatten.length,X.length,w1):=by rw[<-A5,ep,<-e1,Ar (Al _),Cy];rfl
 have a2:(pendingOf st)[pre.length+1]?=some (pre.flatten.length+X.length,Y.length,w2):=by rw[<-A5,ep,<-e1,Ar (by exact A4 _ _),BP];rfl
 refine Ab (wpS_get ?_);rw[show(sortPriv% PySem.Builtin.SortState.pending) st=pendingOf st from rfl,a1,a2];dsimp only;refine Ab (adb ?_);have ea:(arrOf st).toList=pre.flatten++(X++(Y++(post.flatten++rest))):=by rw[G.arr];simp
 have atX:∀i (hi:i<X.length),(arrOf st)[pre.flatten.length+i]?=some X[i]:=fun i hi=>by rw[<-A5,ea,Ar (by exact A4 _ _),BP,AE hi];simp
 have atY:∀i (hi:i<Y.length),(arrOf st)[pre.flatten.length+X.length+i]?=some Y[i]:=fun i hi=>by rw[<-A5,ea,Ar (by simp +arith only),Ar (by omega),AE (by omega)];rw[show pre.flatten.length+X.length+i - pre.flatten.length - X.length=i by omega];simp
 have okX:∀x∈X,Ok x:=fun x hx=>G.ok x (by rw[ea];simp[hx]);have okY:∀x∈Y,Ok x:=fun x hx=>G.ok x (by rw[ea];simp[hx]);have pz:=aah (z:=(pre.flatten.length,X.length+Y.length,w1)) ep;rw[e1] at pz;have good:∀(st':SortSt) (C:List Keyed),kindOf st'=kindOf st->failedOf st'=failedOf st->pendingOf st'=((pendingOf st).setIfInBounds pre.length (pre.flatten.length,X.length+Y.length,w1)).eraseIdxIfInBounds (pre.length+1)->
  (arrOf st').toList=pre.flatten++(C++(post.flatten++rest))->C.Perm (X++Y)->(C.Pairwise fun x y=>f x≤f y)->a6 κ Ok f st' (pre++C::post) rest:=fun st' C g1 g2 g3 g4 g5 g6=>by
  refine⟨g1.trans G.kind,g2.trans G.failed,by rw[g4];simp,?_,fun x hx=>?_⟩
  ·rw[g3,pz];exact done C w1 (by rw[g5.length_eq,Ac]) g6
  ·rw[g4] at hx;rcases Ak.mp hx with h | h
   ·exact G.ok x (by rw[ea];exact Av _ h)
   ·rcases Ak.mp h with h | h
    ·rcases Ak.mp (g5.mem_iff.mp h) with h | h
     ·exact okX x h
     ·exact okY x h
    ·exact G.ok x (by rw[ea];exact Af _ (Af _ (Af _ h)))
 obtain⟨tX,tX0⟩:∃t:Nat->Keyed,t=fun i=>(X[i]?).getD X[0]:=⟨_,rfl⟩;have tX2:∀i (hi:i<X.length),tX i=X[i]:=fun i hi=>by rw[tX0];simp[hi]
 obtain⟨tY,tY0⟩:∃t:Nat->Keyed,t=fun i=>(Y[i]?).getD X[0]:=⟨_,rfl⟩;have tY2:∀i (hi:i<Y.length),tY i=Y[i]:=fun i hi=>by rw[tY0];simp[hi]
 refine Ab (jz (x:=Y[0]) (by have:=atY 0 lY;simpa using this) ?_);refine Ab (bA O G.kind (okY _ (Ce _)) lX tX (fun i hi=>⟨by rw[tX2 i hi];exact atX i hi,by rw[tX2 i hi];exact okX _ (Ce _)⟩) (fun i=>!decide (f Y[0]<f (tX i))) (fun i hi=>by rw[Ay (by simp)]) (fun i j hij hj h=>?_) fun k hk1 hlo hhi=>?_)
 ·have:=rY sX hij hj;rw[tX2 j hj] at h;rw[tX2 i (by exact gC)];simp at h ⊢;omega
 have hlo:∀i (hi:i<k),f (X[i]'(by exact wG))≤f Y[0]:=fun i hi=>by have:=hlo i hi;rw[tX2 i (by lia)] at this;simpa using this
 have hhi:∀i (hj:i<X.length),k≤i->f Y[0]<f X[i]:=fun i hj hi=>by have:=hhi i hi hj;rw[tX2 i hj] at this;simpa using this
 dsimp only;by_cases c:(X.length - k==0)=true
 ·rw[AA c];have c:X.length≤k:=by
   have:X.length - k=0:=by simpa using c
   omega
  refine Ad (q _ (X++Y) (good _ _ rfl rfl rfl (by rw[AD];exact ea) (BN _) (AQ.mpr ⟨sX,sY,fun x hx y hy=>?_⟩)) (BN _));obtain⟨i,hi,rfl⟩:=A3 hx;obtain⟨j,hj,rfl⟩:=A3 hy;exact BG (hlo i (by exact wG)) (rY sY (Bm _) hj)
 rw[Ay c];have c:k<X.length:=by
  have:¬X.length - k=0:=by simpa using c
  lia
 refine Ab (jz (x:=X[X.length - 1]) (by have:=atX (X.length - 1) (by lia);rw[show pre.flatten.length+k+(X.length - k) - 1=pre.flatten.length+(X.length - 1) by lia];exact this) ?_);refine Ab (bA O G.kind (okX _ (Ce _)) (by exact og) tY (fun i hi=>⟨by rw[tY2 i hi];exact atY i hi,by rw[tY2 i hi];exact okY _ (Ce _)⟩) (fun i=>decide (f (tY i)<f X[X.length - 1])) (fun i hi=>by rw[AA rfl]) (fun i j hij hj h=>?_) fun m hm1 hlo2 hhi2=>?_)
 ·have:=rY sY hij hj;rw[tY2 j hj] at h;rw[tY2 i (by exact gC)];simp at h ⊢;omega
 have hlo2:∀i (hi:i<m),f (Y[i]'(by exact wG))<f X[X.length - 1]:=fun i hi=>by have:=hlo2 i hi;rw[tY2 i (by lia)] at this;simpa using this
 have hhi2:∀i (hj:i<Y.length),m≤i->f X[X.length - 1]≤f Y[i]:=fun i hj hi=>by have:=hhi2 i hi hj;rw[tY2 i hj] at this;simpa using this
 have m0:0<m:=by
  rcases Nat.eq_zero_or_pos m with h | h
  ·exfalso;have h5:=hhi2 0 lY (by exact pO);have h6:=hhi (X.length - 1) (by exact og) (by omega);omega
  ·exact h
 dsimp only;rw[Ay (show ¬(m==0)=true by simp;exact agh)];have lsz:(arrOf st).size=pre.flatten.length+(X.length+(Y.length+(post.flatten++rest).length)):=by rw[<-AL,ea];simp
 have ex:((arrOf st).extract (pre.flatten.length+k) (pre.flatten.length+X.length)).toList=X.drop k:=by rw[fe,ea,<-CV,CW,Dc (by lia),Cf (by simp;lia),AZ (by simp;lia)]
 have ey:((arrOf st).extract (pre.flatten.length+X.length) (pre.flatten.length+X.length+m)).toList=Y.take m:=by rw[fe,ea,<-CV,CW,CW,show pre.flatten.length+X.length+m - (pre.flatten.length+X.length)=m by lia,Cf (by lia)]
 have zx:((arrOf st).extract (pre.flatten.length+k) (pre.flatten.length+X.length)).size=X.length - k:=by rw[<-AL,ex];simp
 have zy:((arrOf st).extract (pre.flatten.length+X.length) (pre.flatten.length+X.length+m)).size=m:=by rw[<-AL,ey];simp;lia
 have q1:∀x∈((arrOf st).extract (pre.flatten.length+k) (pre.flatten.length+X.length)).toList,Ok x:=fun x hx=>okX x (Cs (by rw[ex] at hx;exact hx));have q2:∀x∈((arrOf st).extract (pre.flatten.length+X.length) (pre.flatten.length+X.length+m)).toList,Ok x:=fun x hx=>okY x (BB (by rw[ey] at hx;exact hx));have q3:((arrOf st).extract (pre.flatten.length+k) (pre.flatten.length+X.length)).toList.Pairwise fun x y=>f x≤f y:=by rw[ex];exact sX.sublist (List.drop_sublist _ _)
 have q4:((arrOf st).extract (pre.flatten.length+X.length) (pre.flatten.length+X.length+m)).toList.Pairwise fun x y=>f x≤f y:=by rw[ey];exact sY.sublist (Du _ _)
 have q5:0<((arrOf st).extract (pre.flatten.length+k) (pre.flatten.length+X.length)).size:=by lia
 have q6:0<((arrOf st).extract (pre.flatten.length+X.length) (pre.flatten.length+X.length+m)).size:=by omega
 have y0:((arrOf st).extract (pre.flatten.length+X.length) (pre.flatten.length+X.length+m))[0]=Y[0]:=by
  have:((arrOf st).extract (pre.flatten.length+X.length) (pre.flatten.length+X.length+m)).toList[0]'(by rw[ey,AN];lia)=Y[0]:=by simp only[ey];simp
  rw[<-this];simp
 have xl:((arrOf st).extract (pre.flatten.length+k) (pre.flatten.length+X.length))[((arrOf st).extract (pre.flatten.length+k) (pre.flatten.length+X.length)).size - 1]=X[X.length - 1]:=by
  have:((arrOf st).extract (pre.flatten.length+k) (pre.flatten.length+X.length)).toList[((arrOf st).extract (pre.flatten.length+k) (pre.flatten.length+X.length)).size - 1]'(by rw[ex,zx,Br];lia)=X[X.length - 1]:=by simp only[ex,zx];rw[B7];congr 1;lia
  rw[<-this];simp
 have q7:∀x∈((arrOf st).extract (pre.flatten.length+k) (pre.flatten.length+X.length)).toList,f ((arrOf st).extract (pre.flatten.length+X.length) (pre.flatten.length+X.length+m))[0]<f x:=fun x hx=>by rw[y0];rw[ex] at hx;obtain⟨i,hi,rfl⟩:=A3 hx;rw[B7];rw[Br] at hi;exact hhi _ (by lia) (by exact A4 _ _)
 have q8:∀x∈((arrOf st).extract (pre.flatten.length+X.length) (pre.flatten.length+X.length+m)).toList,f x<f ((arrOf st).extract (pre.flatten.length+k) (pre.flatten.length+X.length))[((arrOf st).extract (pre.flatten.length+k) (pre.flatten.length+X.length)).size - 1]:=fun x hx=>by rw[xl];rw[ey] at hx;obtain⟨i,hi,rfl⟩:=A3 hx;rw[Bn];rw[AN] at hi;exact hlo2 _ (by lia)
 have js:∀(r:Array Keyed) (g:Nat),vz f (X.drop k) (Y.take m) r.toList->Q (failedOf st).isNone (SortSt.mk' (kindOf st) (r.toList.zipIdx.foldl (fun a x=>a.setIfInBounds (pre.flatten.length+k+x.2) x.1) (arrOf st)) (((pendingOf st).setIfInBounds pre.length (pre.flatten.length,X.length+Y.length,w1)).eraseIdxIfInBounds (pre.length+1)) g (failedOf st)):=by
  rintro r g ⟨hm,hs⟩;have lr:r.toList.length=X.length - k+m:=by rw[hm.length_eq];simp;lia
  have ef:(failedOf st).isNone=true:=by rw[G.failed];rfl
  have pm:(X.take k++(r.toList++Y.drop m)).Perm (X++Y):=by
   have h1:(r.toList++Y.drop m).Perm (X.drop k++Y):=by refine((Bj (Y.drop m)).mpr hm).trans ?_;rw[AD,Bb]
   refine((Bu (X.take k)).mpr h1).trans ?_;rw[<-AD,Bb]
  have so:(X.take k++(r.toList++Y.drop m)).Pairwise fun x y=>f x≤f y:=by
   refine AQ.mpr ⟨sX.sublist (Du _ _),AQ.mpr ⟨hs,sY.sublist (List.drop_sublist _ _),fun x hx y hy=>?_⟩,fun x hx y hy=>?_⟩
   ·obtain⟨j,hj,rfl⟩:=A3 hy;rw[B7];rw[Br] at hj;rcases Ak.mp (hm.mem_iff.mp hx) with h | h
    ·obtain⟨i,hi,rfl⟩:=A3 h;rw[B7];rw[Br] at hi;exact BG (rY sX (by lia) (by exact og)) (hhi2 _ (by lia) (by exact A4 _ _))
    ·obtain⟨i,hi,rfl⟩:=A3 h;rw[Bn];rw[AN] at hi;exact rY sY (by lia) (by lia)
   ·obtain⟨i,hi,rfl⟩:=A3 hx;rw[Bn];rw[AN] at hi;have low:∀z∈Y,f (X[i]'(by lia))≤f z:=fun z hz=>by obtain⟨j,hj,rfl⟩:=A3 hz;exact BG (hlo i (by lia)) (rY sY (Bm _) hj)
    rcases Ak.mp hy with h | h
    ·rcases Ak.mp (hm.mem_iff.mp h) with h | h
     ·obtain⟨j,hj,rfl⟩:=A3 h;rw[B7];rw[Br] at hj;exact rY sX (by lia) (by lia)
     ·exact low y (BB h)
    ·exact low y (Cs h)
  have pt:=jK r.toList (arrOf st) (pre.flatten.length+k) 0 (by rw[lsz,lr,Ac];lia);have et:(arrOf st).toList.take (pre.flatten.length+k+0)++(r.toList++(arrOf st).toList.drop (pre.flatten.length+k+0+r.toList.length))=pre.flatten++((X.take k++(r.toList++Y.drop m))++(post.flatten++rest)):=by
   have h1:(arrOf st).toList.take (pre.flatten.length+k+0)=pre.flatten++X.take k:=by rw[ea,Nat.add_zero,List.take_length_add_append,Cf (by lia)]
   have h2:(arrOf st).toList.drop (pre.flatten.length+k+0+r.toList.length)=Y.drop m++(post.flatten++rest):=by rw[ea,lr,show pre.flatten.length+k+0+(X.length - k+m)=pre.flatten.length+(X.length+m) by lia,<-CV,CW,<-CV,CW,Dc (by lia)]
   rw[h1,h2];simp
  rw[ef];exact q _ _ (good _ _ rfl rfl rfl (pt.trans et) pm so) pm
 split
 ·exact Ab (vZ O G.kind q1 q2 q3 q4 q5 q6 q7 q8 fun r g h=>Ab (wpS_modify (Ab (wpS_get (Ad (js r g (by rw[ex,ey] at h;exact h)))))))
 ·exact Ab (xX O G.kind q1 q2 q3 q4 q5 q6 q7 q8 fun r g h=>Ab (wpS_modify (Ab (wpS_get (Ad (js r g (by rw[ex,ey] at h;exact h)))))))
end
theorem qZ{arr:Array α}{P R:List α}(h:arr.toList=P++R)(hn:n≤R.length):(mirror arr P.length (P.length+n) ((P.length+n - P.length) / 2)).toList=P++((R.take n).reverse++R.drop n):=by
 have hs:arr.size=P.length+R.length:=by rw[<-AL,h];simp
 refine Dv fun k=>?_;rw[A5,getElem?_mirror_all (by lia)];by_cases c:P.length≤k/\k<P.length+n
 ·rw[AA c,<-A5,h,Ar (by omega),Ar (by lia),AE (by simp;omega),List.getElem?_reverse (by simp;omega),Do,AN,AA (by omega)];congr 1;lia
 ·rw[Ay c,<-A5,h];by_cases c2:k<P.length
  ·rw[AE c2,AE c2]
  ·rw[Ar (by exact zL),Ar (by omega),Ar (by simp;lia),Dp];congr 1;simp;lia
theorem rH{arr:Array α}{P R:List α}{k l:Nat}(h:arr.toList=P++R)(hk:k<R.length)(hl:l≤k):(bubble arr (P.length+k) (P.length+k - (P.length+l))).toList=P++(R.take l++R[k]::((R.drop l).take (k - l)++R.drop (k+1))):=by
 have hs:arr.size=P.length+R.length:=by rw[<-AL,h];simp
 refine Dv fun i=>?_;rw[A5,getElem?_bubble (by lia) _ (by exact DV _ _),show P.length+k - (P.length+k - (P.length+l))=P.length+l by omega];by_cases c1:i=P.length+l
 ·rw[AA c1,<-A5,h,c1,Ar (by exact A4 _ _),Ar (by exact A4 _ _),Ar (by simp;lia)];rw[show P.length+l - P.length - (R.take l).length=0 by simp;lia,show P.length+k - P.length=k by lia,List.getElem?_cons_zero];simp[hk]
 ·rw[Ay c1];by_cases c2:P.length+l<i/\i≤P.length+k
  ·rw[AA c2,<-A5,h,Ar (by omega),Ar (by lia),Ar (by simp;lia)];obtain⟨d,hd⟩:∃d,i=P.length+l+d+1:=⟨i - P.length - l - 1,by omega⟩;rw[show i - P.length - (R.take l).length=d+1 by simp;lia,CN,AE (by simp;omega),Do,AA (by omega),Dp];congr 1;omega
  ·rw[Ay c2,<-A5,h];by_cases c3:i<P.length
   ·rw[AE c3,AE c3]
   ·rw[Ar (by exact zL),Ar (by omega)];by_cases c4:i<P.length+l
    ·rw[AE (by simp;lia),Do,AA (by omega)]
    ·obtain⟨d,hd⟩:∃d,i=P.length+k+d+1:=⟨i - P.length - k - 1,by omega⟩;rw[Ar (by simp;lia),show i - P.length - (R.take l).length=(k - l)+d+1 by simp;lia,CN,Ar (by simp;omega),Dp];congr 1;simp;lia
section
variable {w:World}{κ:SortKind}{Ok:Keyed->Prop}{f:Keyed->Int}
structure Tl(κ:SortKind)(Ok:Keyed->Prop)(st:SortSt)(P R:List Keyed):Prop where
 kind:kindOf st=κ
 arr:(arrOf st).toList=P++R
 ok:∀x∈R,Ok x
theorem ft(O:vY prog w A s κ Ok f){st:SortSt}{P R:List Keyed}(T:Tl κ Ok st P R)(hi:i<R.length)(hj:j<R.length){a b:Nat}(ea:a=P.length+i)(eb:b=P.length+j){Q:Option Bool->SortSt->Prop}(q:Q (some (decide (f R[i]<f R[j]))) st):wpS (model prog w) A E s (ltAt' a b) Q st:=by
 have at_:∀i (hi:i<R.length),(arrOf st)[P.length+i]?=some R[i]:=fun i hi=>by rw[<-A5,T.arr,Ar (by exact A4 _ _),BP];simp
 subst ea eb;rw[ltAt'_eq];refine Ab (wpS_get ?_);refine Ab (jz (at_ i hi) (Ab (jz (at_ j hj) ?_)));exact w_lt O T.kind (T.ok _ (Ce _)) (T.ok _ (Ce _)) q
def Up(f:Keyed->Int)(R:List Keyed)(n:Nat):Prop:=∀i j (_:i≤j) (_:j<R.length),j<n->f (R[i]'(by exact gC))≤f R[j]
theorem Up.snoc{R:List Keyed}(h:Up f R n)(h1:1≤n)(hn:n<R.length)(hs:f (R[n - 1]'(by exact lv))≤f R[n]):Up f R (n+1):=fun i j hij hj hjn=>by
 rcases DJ j n with c | c
 ·exact h i j hij hj c
 ·have e:j=n:=by lia
  subst e;rcases DJ i j with c2 | c2
  ·exact BG (h i (j - 1) (by omega) (by exact lv) (by exact og)) hs
  ·have e:i=j:=by lia
   subst e;exact CP _
theorem Up.pair{R:List Keyed}(h:Up f R n)(hn:n≤R.length):(R.take n).Pairwise fun x y=>f x≤f y:=by rw[B1];intro i j hi hj hij;rw[AN] at hi hj;rw[Bn,Bn];exact h i j (by exact fF) (by lia) (by lia)
end
section
variable {w:World}{κ:SortKind}{Ok:Keyed->Prop}{f:Keyed->Int}
theorem Tl.same{st:SortSt}{P R R':List Keyed}(T:Tl κ Ok st P R)(p:R'.Perm R){arr:Array Keyed}(h:arr.toList=P++R'):Tl κ Ok (setArr st arr) P R':=⟨T.kind,h,fun x hx=>T.ok x (p.mem_iff.mp hx)⟩
theorem Up.one{R:List Keyed}:Up f R 1:=fun i j hij hj h=>by
 have:i=j:=by lia
 subst this;exact CP _
theorem ac6(O:vY prog w A s κ Ok f){st:SortSt}{P R:List Keyed}(T:Tl κ Ok st P R)(h1:1≤R.length)(inj:∀i j (_:i<j) (_:j<R.length),f (R[i]'(by exact lF))≠f R[j]){Q:Option Nat->SortSt->Prop}
 (q:∀n R' arr,1≤n->n≤R.length->R'.Perm R->arr.toList=P++R'->Up f R' n->Q (some n) (setArr st arr)):wpS (model prog w) A E s (countRun' P.length R.length) Q st:=by
 have hst:setArr st (arrOf st)=st:=rfl;refine Ab (AS (AH (I:=fun x c st'=>st'=st/\c=(none,x)/\Up f R x)
  (Q:=fun c st'=>st'=st/\∃n,c=(none,n)/\1≤n/\n≤R.length/\Up f R n/\(n=R.length\/∃h:n<R.length,f R[n]<f (R[n - 1]'(by exact lv)))) ?_ ?_ ⟨rfl,rfl,Up.one⟩) ?_)
 ·rintro x c st' hx1 hx ⟨rfl,rfl,U⟩;dsimp only;refine Ab (ft O T (i:=x) (j:=x - 1) hx (by exact lv) rfl (by lia) ?_);dsimp only;by_cases c:f R[x]<f (R[x - 1]'(by omega))
  ·rw[AG c,AA rfl];exact Ad ⟨rfl,x,rfl,hx1,by exact fF,U,.inr ⟨hx,c⟩⟩
  ·rw[Az c,Ay (by simp)];exact Ad ⟨rfl,rfl,U.snoc hx1 hx (by omega)⟩
 ·rintro c st' ⟨rfl,rfl,U⟩;exact⟨rfl,_,rfl,by lia,by lia,by rw[C5 h1] at *;exact U,.inl (by lia)⟩
 ·rintro c st' ⟨rfl,n,rfl,hn1,hn2,U,hend⟩;dsimp only;by_cases c1:(n==R.length)=true
  ·rw[AA c1];exact Ad (q n R (arrOf st') hn1 hn2 (BN _) T.arr U)
  rw[Ay c1];have c1:¬n=R.length:=by simpa using c1
  have hnl:n<R.length:=by exact wU
  by_cases c2:n > 1
  ·rw[AA c2];refine Ab (ft O T (i:=0) (j:=n - 1) (by assumption) (by exact lv) rfl (by omega) ?_);have:f R[0]<f (R[n - 1]'(by omega)):=by have h3:=U 0 (n - 1) (by exact CI _ _) (by omega) (by exact og);have h4:=inj 0 (n - 1) (by omega) (by exact lv);omega
   dsimp only;rw[AG this,AA rfl];exact Ad (q n R (arrOf st') hn1 hn2 (BN _) T.arr U)
  rw[Ay c2];obtain rfl:n=1:=by lia
  refine Ab (wpS_lift (Bv ⟨rfl,?_⟩));have hd:f R[1]<f R[0]:=by
   rcases hend with h | ⟨h,h'⟩
   ·omega
   ·exact h'
  refine Ab (AS (AH (I:=fun x c st''=>st''=st'/\c=(none,x,0)/\∀i j (_:i≤j) (_:j<R.length),j<x->f R[j]≤f (R[i]'(by exact gC)))
   (Q:=fun c st''=>st''=st'/\∃n,c=(none,n,0)/\2≤n/\n≤R.length/\∀i j (_:i≤j) (_:j<R.length),j<n->f R[j]≤f (R[i]'(by omega))) ?_ ?_ ⟨rfl,rfl,?_⟩) ?_)
  ·rintro x c st'' hx1 hx ⟨rfl,rfl,D⟩;dsimp only;refine Ab (ft O T (i:=x) (j:=x - 1) hx (by exact lv) rfl (by lia) ?_);dsimp only;by_cases c:f R[x]<f (R[x - 1]'(by omega))
   ·rw[AG c,AA rfl,Ay (by simp)];refine Ad ⟨rfl,rfl,fun i j hij hj hjx=>?_⟩;rcases DJ j x with h | h
    ·exact D i j hij hj h
    ·have e:j=x:=by lia
     subst e;rcases DJ i j with h2 | h2
     ·exact BG (BI c) (D i (j - 1) (by omega) (by exact lv) (by omega))
     ·have e:i=j:=by lia
      subst e;exact CP _
   ·rw[Az c,Ay (by simp)];refine Ab (ft O T (i:=x - 1) (j:=x) (by omega) hx (by lia) rfl ?_);have h4:=inj (x - 1) x (by omega) hx;have:f (R[x - 1]'(by omega))<f R[x]:=by lia
    dsimp only;rw[AG this,AA rfl];exact Ad ⟨rfl,x,rfl,by omega,by exact fF,D⟩
  ·rintro c st'' ⟨rfl,rfl,D⟩;exact⟨rfl,_,rfl,by lia,by lia,D⟩
  ·intro i j hij hj hjx;have:j=0\/j=1:=by lia
   rcases this with rfl | rfl
   ·have:i=0:=by lia
    subst this;exact CP _
   ·have:i=0\/i=1:=by lia
    rcases this with rfl | rfl
    ·exact BI hd
    ·exact CP _
  ·rintro c st'' ⟨rfl,n,rfl,g1,g2,D⟩;dsimp only;rw[Ay (by simp)];have T':=T.same (R':=(R.take n).reverse++R.drop n) (((Bj _).mpr (List.reverse_perm _)).trans (by rw[Bb])) (qZ T.arr g2);obtain⟨R',eR⟩:∃R',R'=(R.take n).reverse++R.drop n:=⟨_,rfl⟩;have pR:R'.Perm R:=by rw[eR];exact((Bj _).mpr (List.reverse_perm _)).trans (by rw[Bb])
   have lR:R'.length=R.length:=pR.length_eq;have U':Up f R' n:=fun i j hij hj hjn=>by
    subst eR;rw[DA (by simp;lia),DA (by simp;lia),List.getElem_reverse,List.getElem_reverse,Bn,Bn];refine D _ _ ?_ (by simp;omega) ?_
    ·simp;omega
    ·simp;omega
   rw[<-eR] at T';refine Ab (wpS_modify ?_);refine Ab (AS (AH (I:=fun x c sx=>sx=setArr st'' (mirror (arrOf st'') P.length (P.length+n) ((P.length+n - P.length) / 2))/\c=(none,x)/\Up f R' x)
    (Q:=fun c sx=>sx=setArr st'' (mirror (arrOf st'') P.length (P.length+n) ((P.length+n - P.length) / 2))/\∃n,c=(none,n)/\1≤n/\n≤R.length/\Up f R' n) ?_ ?_ ⟨rfl,rfl,U'⟩) ?_)
   ·rintro x c sx hx1 hx ⟨rfl,rfl,U⟩;dsimp only;refine Ab (ft O T' (i:=x) (j:=x - 1) (by lia) (by omega) rfl (by lia) ?_);dsimp only;by_cases c:f (R'[x]'(by omega))<f (R'[x - 1]'(by omega))
    ·rw[AG c,AA rfl];exact Ad ⟨rfl,x,rfl,by exact aiq,by exact fF,U⟩
    ·rw[Az c,Ay (by simp)];exact Ad ⟨rfl,rfl,U.snoc (by omega) (by lia) (by omega)⟩
   ·rintro c sx ⟨rfl,rfl,U⟩;exact⟨rfl,_,rfl,by lia,by lia,U⟩
   ·rintro c sx ⟨rfl,n,rfl,k1,k2,U⟩;exact Ad (q n R' _ k1 k2 pR T'.arr U)
end
section
variable {w:World}{κ:SortKind}{Ok:Keyed->Prop}{f:Keyed->Int}
theorem Up.of{R:List Keyed}(h:(R.take n).Pairwise fun x y=>f x≤f y):Up f R n:=fun i j hij hj hjn=>by have:=rY h (i:=i) (j:=j) hij (by simp;lia);rw[Bn,Bn] at this;exact this
theorem abb{R:List Keyed}{k l:Nat}(hk:k<R.length)(hl:l≤k):(R.take l++R[k]::((R.drop l).take (k - l)++R.drop (k+1))).Perm R:=by
 have e:R=R.take l++((R.drop l).take (k - l)++(R[k]::R.drop (k+1))):=by rw[<-AD,aec _ hl,<-BJ hk,Bb]
 refine List.Perm.trans ?_ (List.Perm.of_eq e.symm);exact(Bu _).mpr Cz.symm
theorem ah9{R:List Keyed}{k l:Nat}(hk:k<R.length)(hl:l≤k)(U:Up f R k)(lo:∀i (_:i<l),f (R[i]'(by lia))≤f R[k])(hi:∀i (_:i<k),l≤i->f R[k]≤f (R[i]'(by exact lF))):
 Up f (R.take l++R[k]::((R.drop l).take (k - l)++R.drop (k+1))) (k+1):=by
 apply Up.of;have e:R.take l++R[k]::((R.drop l).take (k - l)++R.drop (k+1))=(R.take l++R[k]::(R.drop l).take (k - l))++R.drop (k+1):=by simp
 rw[e,List.take_left' (by simp;lia)];have ab:=U.pair (Bz hk);rw[<-aec R hl] at ab;have ab:=AQ.mp ab;have hB:∀y∈(R.drop l).take (k - l),f R[k]≤f y:=fun y hy=>by obtain⟨j,hj,rfl⟩:=A3 hy;rw[AN,Br] at hj;rw[Bn,B7];exact hi (l+j) (by lia) (by exact A4 _ _)
 have hA:∀x∈R.take l,f x≤f R[k]:=fun x hx=>by obtain⟨j,hj,rfl⟩:=A3 hx;rw[AN] at hj;rw[Bn];exact lo j (by lia)
 refine AQ.mpr ⟨ab.1,List.pairwise_cons.mpr ⟨hB,ab.2.1⟩,fun x hx y hy=>?_⟩;rcases Au.mp hy with rfl | hy
 ·exact hA x hx
 ·exact ab.2.2 x hx y hy
theorem akf(O:vY prog w A s κ Ok f){st:SortSt}{P R:List Keyed}(T:Tl κ Ok st P R){ok:Nat}(hn:n≤R.length)(h1:1≤ok)(ho:ok≤n)(U:Up f R ok){Q:Bool->SortSt->Prop}
 (q:∀R' arr,R'.Perm R->arr.toList=P++R'->Up f R' n->Q true (setArr st arr)):wpS (model prog w) A E s (binarySort' P.length n ok) Q st:=by
 have hst:setArr st (arrOf st)=st:=rfl;refine Ab (AS (AH (I:=fun x c st'=>c=(none,())/\∃R' arr,st'=setArr st arr/\R'.Perm R/\arr.toList=P++R'/\Up f R' x)
  (Q:=fun c st'=>c=(none,())/\∃R' arr,st'=setArr st arr/\R'.Perm R/\arr.toList=P++R'/\Up f R' n) ?_ ?_ ⟨rfl,R,arrOf st,rfl,BN _,T.arr,by rw[Dg h1];exact U⟩) ?_)
 ·rintro x c st' hx1 hx ⟨rfl,R',arr,rfl,pR,eA,U'⟩;have T':=T.same pR eA;have lR:R'.length=R.length:=pR.length_eq;have hxl:x<R'.length:=by lia
  dsimp only;refine Ab (AS (AH (I:=fun y c st'=>st'=setArr st arr/\∃l r,c=(none,l,r)/\l≤r/\r≤x/\r - l+y≤x/\(∀i (_:i<l) (_:i<R'.length),f R'[i]≤f R'[x])/\(∀i (_:i<x),r≤i->f R'[x]≤f (R'[i]'(by exact lF))))
   (Q:=fun c st'=>st'=setArr st arr/\∃l,c=(none,l,l)/\l≤x/\(∀i (_:i<l) (_:i<R'.length),f R'[i]≤f R'[x])/\(∀i (_:i<x),l≤i->f R'[x]≤f (R'[i]'(by lia)))) ?_ ?_ ⟨rfl,0,x,rfl,Bm _,Al _,by exact DV _ _,fun i h=>by lia,fun i h h'=>by omega⟩) ?_)
  ·rintro y c st' _ hy ⟨rfl,l,r,rfl,g1,g2,g3,g4,g5⟩;dsimp only;by_cases c:l≥r
   ·rw[AA c];obtain rfl:l=r:=by lia
    exact Ad ⟨rfl,l,rfl,g2,g4,g5⟩
   ·rw[Ay c];refine Ab (ft O T' (i:=x) (j:=(l+r) / 2) hxl (by lia) rfl rfl ?_);dsimp only;by_cases e:f R'[x]<f (R'[(l+r) / 2]'(by lia))
    ·rw[AG e,AA rfl];refine Ad ⟨rfl,l,(l+r) / 2,rfl,by lia,by lia,by omega,g4,fun i h h'=>?_⟩;exact BG (BI e) (U' _ _ h' (by exact lF) h)
    ·rw[Az e,Ay (by simp)];refine Ad ⟨rfl,(l+r) / 2+1,r,rfl,by lia,g2,by omega,fun i h h'=>?_,g5⟩;exact BG (U' i ((l+r) / 2) (by exact ajr) (by lia) (by lia)) (by omega)
  ·rintro c st' ⟨rfl,l,r,rfl,g1,g2,g3,g4,g5⟩;obtain rfl:l=r:=by lia
   exact⟨rfl,l,rfl,g2,g4,g5⟩
  ·rintro c st' ⟨rfl,l,rfl,g2,g4,g5⟩;dsimp only;refine Ab (wpS_modify ?_);exact Ad ⟨rfl,_,_,rfl,(abb hxl g2).trans pR,rH eA hxl g2,ah9 hxl g2 U' (fun i h=>g4 i h (by lia)) g5⟩
 ·rintro c st' ⟨rfl,R',arr,rfl,pR,eA,U'⟩;exact⟨rfl,R',arr,rfl,pR,eA,by rw[Dg h1,C5 ho] at U';exact U'⟩
 ·rintro c st' ⟨rfl,R',arr,rfl,pR,eA,U'⟩;exact Ad (q R' arr pR eA U')
end
section
variable {w:World}{κ:SortKind}{Ok:Keyed->Prop}{f:Keyed->Int}
theorem ao.len:∀{ps:List (Nat×Nat×Nat)} {j3:List (List Keyed)} {s:Nat},ao f ps j3 s->ps.length=j3.length/\j3.length≤j3.flatten.length
 |[],[],_,_=>⟨rfl,Al _⟩
 |_::_,[],_,h=>h.elim
 |[],_::_,_,h=>h.elim
 |(_,_,_)::ps,l::ls,s,h=>by obtain⟨_,_,h3,_,k⟩:=h;have:=ao.len k;rw[AJ,AJ,Cp,Ac];lia
theorem ao.repow{w:Nat}:∀{ps:List (Nat×Nat×Nat)} {j3:List (List Keyed)} {s:Nat} (i:Nat),ao f ps j3 s->ao f (ps.modify i fun p=>(p.1,p.2.1,w)) j3 s
 |[],[],_,i,_=>by simp[ao]
 |_::_,[],_,_,h=>h.elim
 |[],_::_,_,_,h=>h.elim
 |(_,_,_)::ps,l::ls,s,0,h=>h
 |(_,_,_)::ps,l::ls,s,i+1,h=>by obtain⟨h1,h2,h3,h4,k⟩:=h;exact⟨h1,h2,h3,h4,ao.repow i k⟩
theorem ao.snoc{l:List Keyed}(hl:0<l.length)(hs:l.Pairwise fun x y=>f x≤f y):∀{ps:List (Nat×Nat×Nat)} {j3:List (List Keyed)} {s:Nat},ao f ps j3 s->∀{m:Nat},m=s+j3.flatten.length->ao f (ps++[(m,l.length,0)]) (j3++[l]) s
 |[],[],_,_,m,e=>⟨by simpa using e,rfl,hl,hs,trivial⟩
 |_::_,[],_,h,_,_=>h.elim
 |[],_::_,_,h,_,_=>h.elim
 |(_,_,_)::ps,l'::ls,s,h,m,e=>by obtain⟨h1,h2,h3,h4,k⟩:=h;exact⟨h1,h2,h3,h4,ao.snoc hl hs k (by rw[e];simp;simp +arith only)⟩
theorem ai4{l:List α}(h:i+1<l.length):l=l.take i++l[i]::l[i+1]::l.drop (i+2):=by rw[<-BJ h,<-BJ (by omega),Bb]
theorem rq(O:vY prog w A s κ Ok f){st:SortSt}{j3:List (List Keyed)}{rest:List Keyed}{Q:Bool->SortSt->Prop}(G:a6 κ Ok f st j3 rest)(hi:i+1<j3.length)
 (q:∀st' segs',a6 κ Ok f st' segs' rest->segs'.flatten.Perm j3.flatten->segs'.length+1=j3.length->Q true st'):wpS (model prog w) A E s (mergeAt' i) Q st:=by
 have e:=ai4 hi;have li:(j3.take i).length=i:=by simp;lia
 rw[e] at G;have pf:∀C:List Keyed,C.Perm (j3[i]++j3[i+1])->(j3.take i++C::j3.drop (i+2)).flatten.Perm j3.flatten:=fun C pC=>by have e2:j3.flatten=(j3.take i++j3[i]::j3[i+1]::j3.drop (i+2)).flatten:=BM List.flatten e;rw[e2,CC,CC,Cp,Cp,Cp];refine(Bu _).mpr ?_;rw[<-AD];exact(Bj _).mpr pC
 have:=vC O (E:=E) (Q:=Q) G fun st' C G' pC=>q st' _ G' (pf C pC) (by simp;lia);rw[li] at this;exact this
theorem a6.push{st:SortSt}{j3:List (List Keyed)}{rest:List Keyed}(G:a6 κ Ok f st j3 rest)(hn:n≤rest.length)(h1:1≤n)(U:Up f rest n):a6 κ Ok f (setPending st ((pendingOf st).push (j3.flatten.length,n,0))) (j3++[rest.take n]) (rest.drop n):=by
 refine⟨G.kind,G.failed,?_,?_,G.ok⟩
 ·have:=G.arr;show(arrOf st).toList=_;rw[this,CC,AD];simp
 ·show ao f ((pendingOf st).push _).toList _ 0;rw[Co];have:=ao.snoc (l:=rest.take n) (by simp;lia) (U.pair hn) G.pend (m:=j3.flatten.length) (by simp +arith only);rw[show(rest.take n).length=n by simp;lia] at this;exact this
theorem a6.repow{st:SortSt}{j3:List (List Keyed)}{rest:List Keyed}{w:Nat}(G:a6 κ Ok f st j3 rest):a6 κ Ok f (setPending st ((pendingOf st).modify i fun p=>(p.1,p.2.1,w))) j3 rest:=by refine⟨G.kind,G.failed,G.arr,?_,G.ok⟩;show ao f ((pendingOf st).modify i fun p=>(p.1,p.2.1,w)).toList _ 0;rw[Array.toList_modify];exact G.pend.repow i
theorem a6.set{st:SortSt}{j3:List (List Keyed)}{rest R:List Keyed}{arr:Array Keyed}(G:a6 κ Ok f st j3 rest)(p:R.Perm rest)(e:arr.toList=j3.flatten++R):a6 κ Ok f (setArr st arr) j3 R:=
 ⟨G.kind,G.failed,e,G.pend,fun x hx=>G.ok x (by
  have hx:x∈arr.toList:=hx;rw[e] at hx;rw[G.arr];rcases Ak.mp hx with h | h
  ·exact Av _ h
  ·exact Af _ (p.mem_iff.mp h))⟩
theorem abp(O:vY prog w A s κ Ok f){st:SortSt}{Q:Unit->SortSt->Prop}(hk:kindOf st=κ)(hp:pendingOf st=#[])(hf:failedOf st=none)(ok:∀x∈(arrOf st).toList,Ok x)(inj:((arrOf st).toList.map f).Nodup)
 (q:∀st',failedOf st'=none->(arrOf st').toList.Perm (arrOf st).toList->((arrOf st').toList.Pairwise fun x y=>f x≤f y)->Q () st'):wpS (model prog w) A E s sortRuns' Q st:=by
 refine Ab (wpS_get ?_);dsimp only;have G0:a6 κ Ok f st [] (arrOf st).toList:=⟨hk,hf,rfl,by rw[hp];trivial,ok⟩;obtain⟨N,eN⟩:∃N,N=(arrOf st).size:=⟨_,rfl⟩;rw[<-eN];generalize hmr:(sortPriv% PySem.Builtin.minRun) N N 0=mr;refine Ab (AS (AH (I:=fun x c st'=>∃j3 rest lo,c=(none,lo)/\a6 κ Ok f st' j3 rest/\lo=j3.flatten.length/\(j3.flatten++rest).Perm (arrOf st).toList/\x≤lo)
  (Q:=fun c st'=>∃j3 lo,c=(none,lo)/\a6 κ Ok f st' j3 []/\j3.flatten.Perm (arrOf st).toList) ?_ ?_ ⟨[],(arrOf st).toList,0,rfl,G0,rfl,BN _,Al _⟩) ?_)
 ·rintro x c st' _ hx ⟨j3,rest,lo,rfl,G,elo,pm,hxl⟩;dsimp only;have lt:j3.flatten.length+rest.length=N:=by have h1:=pm.length_eq;have h2:(arrOf st).toList.length=(arrOf st).size:=AL;rw[Ac] at h1;lia
  by_cases c:lo≥N
  ·rw[AA c];have:rest=[]:=Dd (by lia);subst this;exact Ad ⟨j3,lo,rfl,G,by simpa using pm⟩
  rw[Ay c];subst elo;have er:N - j3.flatten.length=rest.length:=by lia
  rw[er];have T:Tl κ Ok st' j3.flatten rest:=⟨G.kind,G.arr,fun x hx=>G.ok x (by rw[G.arr];exact Af _ hx)⟩;have nd:(rest.map f).Nodup:=by have h2:=(pm.map f).nodup_iff.mpr inj;rw[AC,Aq] at h2;exact h2.2.1
  have inj':∀i j (_:i<j) (_:j<rest.length),f (rest[i]'(by exact lF))≠f rest[j]:=fun i j hij hj e=>by have h2:=B1.mp nd i j (by simp;exact lF) (by simpa using hj) hij;simp at h2;exact h2 e
  refine Ab (ac6 O T (by lia) inj' fun n R1 arr1 g1 g2 pR1 eA1 U1=>?_);dsimp only;have T1:=T.same pR1 eA1;have G1:=G.set pR1 eA1;have l1:R1.length=rest.length:=pR1.length_eq;by_cases cm:n<mr
  case' pos=>
   rw[AA cm];refine Ab (wpS_lift (Bv ⟨rfl,?_⟩));refine Ab (akf O T1 (by lia) g1 (by lia) U1 fun R2 arr2 pR2 eA2 U2=>?_);rw[Ay (by simp)];have G2:=G1.set pR2 eA2;obtain⟨n2,en2⟩:∃n2,n2=min rest.length mr:=⟨_,rfl⟩;rw[<-en2] at U2 ⊢;have p2:R2.Perm rest:=pR2.trans pR1;have k1:1≤n2:=by lia
   have k2:n2≤rest.length:=by lia
   obtain⟨st2,es2⟩:∃st2,st2=setArr (setArr st' arr1) arr2:=⟨_,rfl⟩;rw[<-es2] at G2 ⊢
  case' neg=>
   rw[Ay cm];have G2:=G1;obtain⟨n2,en2⟩:∃n2,n2=n:=⟨_,rfl⟩;obtain⟨R2,eR2⟩:∃R2,R2=R1:=⟨_,rfl⟩;rw[<-en2] at U1 ⊢;rw[<-eR2] at G2;have U2:Up f R2 n2:=by rw[eR2];exact U1
   have p2:R2.Perm rest:=by rw[eR2];exact pR1
   have k1:1≤n2:=by lia
   have k2:n2≤rest.length:=by lia
   obtain⟨st2,es2⟩:∃st2,st2=setArr st' arr1:=⟨_,rfl⟩;rw[<-es2] at G2 ⊢
  all_goals
   have l2:R2.length=rest.length:=p2.length_eq;have js:∀(st3:SortSt) (segs3:List (List Keyed)),a6 κ Ok f st3 segs3 R2->segs3.flatten.Perm j3.flatten->∃segs' rest' lo',((none,j3.flatten.length+n2):Option Unit×Nat)=(none,lo')/\a6 κ Ok f (setPending st3 ((pendingOf st3).push (j3.flatten.length,n2,0))) segs' rest'/\lo'=segs'.flatten.length/\(segs'.flatten++rest').Perm (arrOf st).toList/\x+1≤lo':=fun st3 segs3 G3 p3=>by
    have G4:=G3.push (by lia) k1 U2;rw[p3.length_eq] at G4;refine⟨_,_,_,rfl,G4,?_,?_,by exact ap3⟩
    ·rw[CC,Ac,p3.length_eq];simp;lia
    ·have:(segs3++[R2.take n2]).flatten++R2.drop n2=segs3.flatten++R2:=by simp
     rw[this];exact((Bj R2).mpr p3).trans (((Bu _).mpr p2).trans pm)
   refine Ab (wpS_get ?_);split
   ·refine Ab (AS (AH (I:=fun y c st3=>c=(none,())/\∃segs3,a6 κ Ok f st3 segs3 R2/\segs3.flatten.Perm j3.flatten)
     (Q:=fun c st3=>c=(none,())/\∃segs3,a6 κ Ok f st3 segs3 R2/\segs3.flatten.Perm j3.flatten) ?_ ?_ ⟨rfl,j3,G2,BN _⟩) ?_)
    ·rintro y c st3 _ hy ⟨rfl,segs3,G3,p3⟩;have pl:=G3.pend.len.1;have pl2:(pendingOf st3).size=segs3.length:=by rw[<-pl,AL]
     refine Ab (wpS_get ?_);by_cases cs:(pendingOf st3).size > 1
     ·rw[AA cs];split
      ·split
       ·exact Ad ⟨rfl,segs3,G3,p3⟩
       ·refine Ab (rq O G3 (by show(pendingOf st3).size - 2+1<segs3.length;lia) fun st4 segs4 G4 p4 l4=>?_);rw[Ay (by simp)];exact Ad ⟨rfl,segs4,G4,p4.trans p3⟩
      ·exact Ad ⟨rfl,segs3,G3,p3⟩
     ·rw[Ay cs];exact Ad ⟨rfl,segs3,G3,p3⟩
    ·rintro c st3 h;exact h
    ·rintro c st3 ⟨rfl,segs3,G3,p3⟩;dsimp only;refine Ab (wpS_modify (Ab (wpS_modify (Ad ?_))));exact js _ segs3 G3.repow p3
   ·exact Ab (wpS_modify (Ad (js st2 j3 G2 (BN _))))
 ·rintro c st' ⟨j3,rest,lo,rfl,G,elo,pm,hxl⟩;have lt:j3.flatten.length+rest.length=N:=by have h1:=pm.length_eq;have h2:(arrOf st).toList.length=(arrOf st).size:=AL;rw[Ac] at h1;lia
  have:rest=[]:=Dd (by lia);subst this;exact⟨j3,lo,rfl,G,by simpa using pm⟩
 ·rintro c st' ⟨j3,lo,rfl,G,pm⟩;dsimp only;have ls:j3.length≤N:=by have h1:=G.pend.len.2;have h3:=pm.length_eq;have h2:(arrOf st).toList.length=(arrOf st).size:=AL;lia
  refine Ab (AS (AH (I:=fun y c st3=>c=(none,())/\∃segs3,a6 κ Ok f st3 segs3 []/\segs3.flatten.Perm (arrOf st).toList/\segs3.length+y≤N)
   (Q:=fun c st3=>c=(none,())/\∃segs3,a6 κ Ok f st3 segs3 []/\segs3.flatten.Perm (arrOf st).toList/\segs3.length≤1) ?_ ?_ ⟨rfl,j3,G,pm,by omega⟩) ?_)
  ·rintro y c st3 _ hy ⟨rfl,segs3,G3,p3,h3⟩;have pl:=G3.pend.len.1;have pl2:(pendingOf st3).size=segs3.length:=by rw[<-pl,AL]
   refine Ab (wpS_get ?_);by_cases cs:(pendingOf st3).size≤1
   ·rw[AA cs];exact Ad ⟨rfl,segs3,G3,p3,by lia⟩
   ·rw[Ay cs];refine Ab (rq O G3 ?_ fun st4 segs4 G4 p4 l4=>?_)
    ·have gen:∀b:Bool,(if b=true then(pendingOf st3).size - 2 - 1 else(pendingOf st3).size - 2)+1<segs3.length:=fun b=>by cases b with|true=>rw[AA rfl];omega|false=>rw[Ay (by simp)];lia
     exact gen _
    ·rw[Ay (by simp)];exact Ad ⟨rfl,segs4,G4,p4.trans p3,by lia⟩
  ·rintro c st3 ⟨rfl,segs3,G3,p3,h3⟩;exact⟨rfl,segs3,G3,p3,by lia⟩
  ·rintro c st3 ⟨rfl,segs3,G3,p3,h3⟩;refine Ad (q st3 G3.failed ?_ ?_)
   ·rw[G3.arr,AV];exact p3
   ·rw[G3.arr,AV]
    match segs3,h3,G3.pend with
    |[],_,_=>simp
    |[l],_,h=>
     rw[Cp,List.flatten_nil,AV];cases hps:(pendingOf st3).toList with
     |nil=>rw[hps] at h;exact h.elim
     |cons p ps=>
      rw[hps] at h;obtain⟨p1,p2,p3⟩:=p;exact h.2.2.2.1
end
open PySem PyProof.Rows PySem.W
def alf(h:Heap)(B:Int)(x:Keyed):Prop:=∃a o n r p t u,x.1=.ref a/\h.get? a=some o/\o.data=.seq #[.int r t,.int p u] n/\0≤p/\p<B
noncomputable def wJ(h:Heap)(B:Int)(x:Keyed):Int:=match x.1 with
 |.ref a=>match h.get? a with
  |some o=>match o.data with
   |.seq xs _=>match xs.toList with
    |[.int r _,.int p _]=>r*B+p
    |_=>0
   |_=>0
  |none=>0
 |_=>0
theorem t9{x:Keyed}{a:Addr}{o:Obj}{r p:Int}{t u:Tok}(e1:x.1=.ref a)(e2:h.get? a=some o)(e3:o.data=.seq #[.int r t,.int p u] n):wJ h B x=r*B+p:=by unfold wJ;simp[e1,e2,e3]
theorem yh{w:World} :vY prog w A s (tuples' true) (alf s.heap B) (wJ s.heap B):=by
 constructor;rintro x y ⟨a1,o1,n1,r1,p1,t1,u1,e1,g1,d1,b1,c1⟩ ⟨a2,o2,n2,r2,p2,t2,u2,e2,g2,d2,b2,c2⟩ E Q h;rw[t9 e1 g1 d1,t9 e2 g2 d2] at h;rw[e1,e2];refine kat_lt g1 d1 g2 d2 ?_;show KatLex prog w A true _ Q [(.int r1 t1,.int r2 t2),(.int p1 u1,.int p2 u2)] 0 s;refine kat_cons (wpAny_eqBool_int ?_);by_cases c:r1=r2
 ·subst c;rw[beq_self_eq_true];refine kat_yes (kat_cons (wpAny_eqBool_int ?_));by_cases c':p1=p2
  ·subst c';rw[beq_self_eq_true];refine kat_yes (kat_nil ?_);have e:decide (r1*B+p1<r1*B+p1)=false:=Az (by lia);rw[e] at h;exact h
  ·rw[DM c'];refine kat_no (kat_one _ _ (PyProof.Rows.lt_int ?_));have e:decide (r1*B+p1<r1*B+p2)=decide (p1<p2):=by
    by_cases z:p1<p2
    ·rw[AG z];exact AG (by lia)
    ·rw[Az z];exact Az (by lia)
   rw[e] at h;exact h
 ·rw[DM c];refine kat_no (oneLt_int ?_);have e:decide (r1*B+p1<r2*B+p2)=decide (r1<r2):=by
   by_cases z:r1<r2
   ·rw[AG z];have h5:(r1+1)*B≤r2*B:=C6 (by assumption) (by lia);rw[Int.add_mul,Int.one_mul] at h5;exact AG (by omega)
   ·rw[Az z];have h5:(r2+1)*B≤r1*B:=C6 (by lia) (by lia);rw[Int.add_mul,Int.one_mul] at h5;exact Az (by lia)
  rw[e] at h;exact h
section
variable {w:World} 
def xV(h:Heap)(B:Int)(v:Value):Prop:=∃a o n r p t u,v=.ref a/\h.get? a=some o/\o.cls=.type "tuple" /\ o.data=.seq #[.int r t,.int p u] n/\0≤p/\p<B
theorem xV.pair{x:Keyed}(k:xV h B x.1):alf h B x:=by obtain⟨a,o,n,r,p,t,u,e1,e2,_,e3,e4,e5⟩:=k;exact⟨a,o,n,r,p,t,u,e1,e2,e3,e4,e5⟩
theorem tups{h:Heap}{B:Int}:∀{ks:List Value},(∀v∈ks,xV h B v)->∃fs,KatTups h ks fs/\fs.length=ks.length/\∀v∈fs,∃r t,v=Value.int r t
 |[],_=>⟨[],trivial,rfl,fun v hv=>by simp at hv⟩
 |k::ks,hk=>by
  obtain⟨fs,h1,h2,h3⟩:=tups (ks:=ks) fun v hv=>hk v (Ag _ hv);obtain⟨a,o,n,r,p,t,u,rfl,e2,e3,e4,_,_⟩:=hk k (An ..);refine⟨.int r t::fs,KatTups.cons e2 e3 e4 rfl h1,by simp[h2],fun v hv=>?_⟩;rcases Au.mp hv with rfl | hv
  ·exact⟨r,t,rfl⟩
  ·exact h3 v hv
theorem ahj{ks:List Value}{Q:SortKind->Shared->Prop}(hk:∀v∈ks,xV s.heap B v)(h0:0<ks.length)(q:Q (tuples' true) s):wpAny (model prog w) A (keyKind' ks.toArray) Q E s:=by
 obtain⟨fs,h1,h2,h3⟩:=tups hk;refine kat_kind (T:=.type "int") h1 (by lia) (fun v hv=>?_) (by decide) ?_
 ·obtain⟨r,t,rfl⟩:=h3 v hv;exact .now
 ·exact q
theorem pI{R:α->α->Prop}:∀{l:List α},l.length<2->l.Pairwise R
 |[],_=>List.Pairwise.nil
 |[_],_=>List.pairwise_singleton _ _
 |_::_::_,h=>absurd h (by simp)
theorem akc{a kS:Addr}{ks:List Value}{e e1:Nat}{P:PySem.Fin->Shared->Prop}(hkS:s.heap.get? kS=some (seqObj "list" ks.toArray e))(ha:s.heap.get? a=some (seqObj "list" #[] e1))(hka:kS≠a)(hl:ks.length=vs.length)(hz:vs.length≤sizeLine)
 (hk:∀v∈ks,xV s.heap B v) (inj:((ks.zip vs).map (wJ s.heap B)).Nodup)
 (h:∀h' tk (xs:List Keyed) c,(∀b,b≠kS->b≠a->h'.get? b=s.heap.get? b)->h'.get? a=some (seqObj "list" (List.toArray (xs.map (·.2))) c)->xs.Perm (ks.zip vs)->(xs.Pairwise fun x y=>wJ s.heap B x≤wJ s.heap B y)->P (.done (.ret .none)) { s with heap:=h',toks:=tk }):
 wpAny (model prog w) A (ksk_end a false vs.toArray e1 (.ref kS) ks.toArray) P E s:=by
 have zl:(ks.toArray.zip vs.toArray).toList=ks.zip vs:=by simp
 have tail:∀st:SortSt,failedOf st=none->(arrOf st).toList.Perm (ks.zip vs)->((arrOf st).toList.Pairwise fun x y=>wJ s.heap B x≤wJ s.heap B y)->wpAny (model prog w) A (ksk_tail a false e1 (.ref kS) st) P E s:=by
  intro st hf hp hs;have s1:=Heap.SameBut.update s.heap kS (Obj.mapSeq fun _=>(#[]:Array Value));have na1:(s.heap.update kS (Obj.mapSeq fun _=>(#[]:Array Value))).get? a=some (seqObj "list" #[] e1):=(s1.2 a hka.symm).trans ha;have s2:=Heap.SameBut.update (s.heap.update kS (Obj.mapSeq fun _=>(#[]:Array Value))) a (Obj.mapSeq fun _=>(arrOf st).map (·.2));have len:((arrOf st).map (·.2)).size≤sizeLine:=by have:=hp.length_eq;rw[CK,AL] at this;rw[Array.size_map];lia
  unfold ksk_tail
  try dsimp only
  refine Aa (listUpdate_at hkS rfl ?_ (by rw[Am];lia) (Bm _));refine Aa (wpAny_letGo ?_);refine Aa (seqEpoch_at na1 rfl ?_);refine Aa (listUpdate_at na1 rfl ?_ (Bm _) (by simp only[BW,if_false];exact B6 len));rw[hf];simp only[bne_self_eq_false,BW,if_false];obtain⟨c2,hc2⟩:∃c2,((s.heap.update kS (Obj.mapSeq fun _=>(#[]:Array Value))).update a (Obj.mapSeq fun _=>(arrOf st).map (·.2))).get? a=some (seqObj "list" ((arrOf st).map (·.2)) c2):=⟨_,get?_update_seq na1 fun _=>(arrOf st).map (·.2)⟩;refine Ai (h _ _ (arrOf st).toList c2 (fun b hb1 hb2=>?_) ?_ hp hs)
  ·exact(s2.2 b hb2).trans (s1.2 b hb1)
  ·have em:(arrOf st).map (·.2)=List.toArray ((arrOf st).toList.map (·.2)):=by apply Array.toList_inj.mp;rw[Array.toList_map]
   rw[em] at hc2 ⊢;exact hc2
 unfold ksk_end;simp only[BW,if_false];by_cases h2:vs.toArray.size<2
 ·rw[AA h2,AA h2];refine Aa (Ai ?_);rw[StateT.run_pure];refine Aa (Ai ?_);refine tail _ rfl (by show(ks.toArray.zip vs.toArray).toList.Perm _;rw[zl]) ?_;show(ks.toArray.zip vs.toArray).toList.Pairwise _;rw[zl];rw[Am] at h2;have:(ks.zip vs).length<2:=by rw[CK];lia
  exact pI this
 ·rw[Ay h2,Ay h2];rw[Am] at h2;refine Aa (ahj hk (by omega) ?_);refine Aa (A2 (abp (E:=E) (yh (B:=B)) (st:=SortSt.mk' (tuples' true) (ks.toArray.zip vs.toArray) #[] 7 none)
   (Q:=fun _ st'=>failedOf st'=none/\(arrOf st').toList.Perm (ks.zip vs)/\((arrOf st').toList.Pairwise fun x y=>wJ s.heap B x≤wJ s.heap B y)) rfl rfl rfl (fun x hx=>?_) ?_ fun st' b1 b2 b3=>⟨b1,?_,b3⟩) ?_ fun _ _ e=>e)
  ·have hx:x∈(ks.toArray.zip vs.toArray).toList:=hx;rw[zl] at hx;exact xV.pair (hk _ (Df (a:=x.1) (b:=x.2) hx).1)
  ·show((ks.toArray.zip vs.toArray).toList.map _).Nodup;rw[zl];exact inj
  ·have b2:(arrOf st').toList.Perm (ks.toArray.zip vs.toArray).toList:=b2;rw[zl] at b2;exact b2
  ·rintro⟨⟨⟩,st'⟩ s' ⟨rfl,b1,b2,b3⟩;exact tail st' b1 b2 b3
end
section
variable {w:World} 
theorem mem_self_zip{x:Keyed}(h:x∈vs.zip vs):x.1∈vs/\x.1=x.2:=by
 induction vs with
 |nil=>simp at h
 |cons v r ih=>
  rw[Dq] at h;rcases Au.mp h with rfl | h
  ·exact⟨An ..,rfl⟩
  ·exact⟨Ag _ (ih h).1,(ih h).2⟩
end
end TS
namespace L2
open PySem PySem.Spec PyProof.Rows
theorem qM{α β:Type}{f:α->β}:∀{l:List α},(∀x∈l,∀y∈l,f x=f y->x=y)->l.Nodup->(l.map f).Nodup
 |[],_,_=>BX
 |a::r,h,n=>by obtain⟨n1,n2⟩:=Ax.mp n;rw[AO];refine Ax.mpr ⟨fun z=>?_,qM (fun x hx y hy=>h x (Ag _ hx) y (Ag _ hy)) n2⟩;obtain⟨y,hy,e⟩:=AY.mp z;have:=h y (Ag _ hy) a (An ..) e;exact n1 (this▸hy)
section
end
end L2
namespace L3
open PySem L2
theorem um:bootBuiltins "sorted" = some (.builtin "sorted"):=by decide +kernel
open PySem L2 Words
def aV:Wd->Y
 |.leaf t n=>.tup [.str (kL t),.str n]
 |.node e l r=>.tup [.str (kN e),aV l,aV r]
def dg:Y:=(.tup [(.str "plain"),(.str "turned")])
def cM:Y:=(.cd [("plain", "turned"),("turned", "plain"),("both", "either"),("either", "both")])
theorem qo{Q:α->ql->Prop}{o:Option α}{v:α}(e:o=some v)(h:Q v L):sd L Q o:=by rw[e];exact h
abbrev jr(i:Int):x5:=yC (.int i)
abbrev cQ(x:Str):x5:=yC (.str x)
abbrev ju(i:Nat)(n:Int):x5:=zj cH (qc i) (yC (.int n))
abbrev cD(i:Nat):x5:=iO l9 (qe (qc i) z9)
abbrev gg(a b:x5):iY:=yB (zj (pN false) a b)
abbrev rdN(a b:x5):iY:=yB (zj (pN true) a b)
abbrev rdT(a b:x5):x5:=kn (qe a (qe b z9))
abbrev vk(a:x5):eU:=qe a z9
abbrev aD(a b:x5):eU:=qe a (qe b z9)
def uu:kg:=(jc (zj (lM false) (ju 0 0) (yC dg)))
def kX:Bool->Bool->Str
 |true,t=>kL t
 |false,e=>kN e
def we:ja:=fun ys L Q=>∃lf b rest,ys=[.tup (.str (kX lf b)::rest)]/\Q (.bl lf) L
theorem vI(t:Bool):sn (.str (kL t)) [.str "plain",.str "turned"]=true:=by cases t<;>decide +kernel
theorem wI(t:Bool):sn (.str (kN t)) [.str "plain",.str "turned"]=false:=by cases t<;>decide +kernel
theorem sv:∀ys L Q,we ys L Q->jx uu 1 ys L Q:=by
 rintro ys L Q ⟨lf,b,rest,rfl,q⟩;have e0:fv (Y.str (kX lf b)::rest) 0=some (Y.str (kX lf b)):=vh (xs:=Y.str (kX lf b)::rest) (j:=0) rfl;walk_at "w";rw[e0];refine⟨rfl,rfl,js ?_⟩;cases lf with
 |true=>
  rw[show nb false (sn (eI (.str (kX true b))) ([Y.str "plain",.str "turned"].map eI))=true from vI b];exact q
 |false=>
  rw[show nb false (sn (eI (.str (kX false b))) ([Y.str "plain",.str "turned"].map eI))=false from wI b];exact q
def aa5(p0 p1:ja):kg:=(qw (zw (zj cH (yC cM) (ju 0 0)) (qh 1))
 (qw (v0 (yB (qp p0 (vk (qc 0)))) (jc (rdT (qc 1) (ju 0 1))) jw)
 (jc (kn (qe (qc 1) (qe (qp p1 (vk (ju 0 1))) (qe (qp p1 (vk (ju 0 2))) z9)))))))
def aP(n:Nat):ja:=fun ys L Q=>∃wd,ys=[aV wd]/\wd.depth≤n/\Q (aV wd.turn) L
theorem m6(t:Bool):List.lookup (kL t) [(("plain" : Str),("turned" : Str)),("turned", "plain"),("both", "either"),("either", "both")]=some (kL (!t)):=by cases t<;>decide +kernel
theorem mU(t:Bool):List.lookup (kN t) [(("plain" : Str),("turned" : Str)),("turned", "plain"),("both", "either"),("either", "both")]=some (kN (!t)):=by cases t<;>decide +kernel
theorem vO(n:Nat):∀ys L Q,aP (n+1) ys L Q->jx (aa5 we (aP n)) 2 ys L Q:=by
 rintro ys L Q ⟨wd,rfl,hd,q⟩;cases wd with
 |leaf t nm=>
  exact qo (m6 t) ⟨true,t,_,rfl,js q⟩
 |node e l r=>
  have hd':max l.depth r.depth+1≤n+1:=hd;refine qo (mU e) ⟨false,e,_,rfl,l,rfl,by lia,r,rfl,by lia,?_⟩;exact js q
theorem jf.str(x:Str):jf L n (.str x) (.s (.str x)):=by cases n with|zero=>exact⟨rfl,rfl⟩|succ n=>exact .inl ⟨rfl,rfl⟩
abbrev EL:=@jf.str
theorem jf.int(x:Int):jf L n (.int x) (.s (.int x)):=by cases n with|zero=>exact⟨rfl,rfl⟩|succ n=>exact .inl ⟨rfl,rfl⟩
abbrev EO:=@jf.int
theorem e9{L:ql}:∀{wd:Wd} {n:Nat},wd.depth≤n->jf L n (aV wd) (jI wd)
 |.leaf t nm,n+1,_=>.inr (.inl ⟨_,_,rfl,rfl,.cons (EL _) (.cons (EL _) .nil)⟩)
 |.node e l r,n+1,h=>by have h':max l.depth r.depth+1≤n+1:=h;exact .inr (.inl ⟨_,_,rfl,rfl,.cons (EL _) (.cons (e9 (by lia)) (.cons (e9 (by lia)) .nil))⟩)
theorem dM{a:Addr}(e:L a=some (.lst ys))(p:Paired (jf L n) ys ds):jf L (n+1) (.ref a) (.lst ds):=.inr (.inr ⟨ys,ds,rfl,rfl,wm e,p⟩)
theorem bB(p:Paired (jf L n) ys ds):jf L (n+1) (.tup ys) (.tup ds):=.inr (.inl ⟨ys,ds,rfl,rfl,p⟩)
theorem kO{neg:Bool}{u v:Wd}{Q:YK}(hu:u.depth≤128)(q:Q (.bl (nb neg (Da.eq (jI u) (jI v)))) L):pN neg (aV u) (aV v) L Q:=by
 have hr:∀w:Wd,wK (aV w)=true:=fun w=>by cases w<;>rfl
 have:wK (aV u)=true/\wK (aV v)=true/\∃n m d e,n≤128/\jf L n (aV u) d/\jf L m (aV v) e/\Q (.bl (nb neg (Da.eq d e))) L:=
  ⟨hr u,hr v,u.depth,v.depth,jI u,jI v,hu,e9 (Al _),e9 (Al _),q⟩
 cases u<;>cases v<;>exact this
theorem aU{neg:Bool}{a b:Addr}{zs:List Y}{es:List Da}{Q:YK}(hn:n<128)(ea:L a=some (.lst ys))(eb:L b=some (.lst zs))(pa:Paired (jf L n) ys ds)(pb:Paired (jf L m) zs es)(q:Q (.bl (nb neg (Da.eqs ds es))) L):
 pN neg (.ref a) (.ref b) L Q:=⟨rfl,rfl,n+1,m+1,_,_,hn,dM ea pa,dM eb pb,q⟩
theorem wN:∀ys L Q,¬aP 0 ys L Q:=fun ys L Q ⟨wd,_,hd,_⟩=>by cases wd<;>simp[Wd.depth] at hd
def nY(hs:List Nat):List Y:=hs.map fun n:Nat=>.int (n:Int)
theorem vt(hs:List Nat):(nY hs).length=hs.length:=by unfold nY;rw[Ae]
theorem jj{a p:Addr}{o:LO}(h:qf L a o p=none):L p=none:=by
 by_cases c:p=a
 ·subst c;rw[q9] at h;cases h
 ·rw[qa c] at h;exact h
theorem xu{l:List α}{x:α}(h:l[i]?=some x):i<l.length:=(A1.mp h).1
def ss:kg:=(jc (zj bC (zj w6 (zj sM (zj w5 (zj w5 (zj sM (zj w6 (qc 0) (jr 1000003)) (jr 7)) (zj sM (qc 1) (qc 1))) (jr 1)) (qc 2)) (jr 2147483647)) (jr 16)))
def l5(p0:ja):kg:=(qw (v0 (gg (cD 0) (jr 2)) (jc (jr 1)) jw)
 (jc (zj w5 (zj w5 (jr 1) (qp p0 (vk (ju 0 1)))) (qp p0 (vk (ju 0 2))))))
def pM(p0:ja):kg:=(qw (zw (zj cH (qc 0) (qc 1)) (qh 2))
 (qw (v0 (gg (cD 2) (jr 2)) (jc (qc 2)) jw)
 (jc (kn (qe (ju 2 0) (qe (qp p0 (aD (qc 0) (ju 2 1))) (qe (qp p0 (aD (qc 0) (ju 2 2))) z9)))))))
def wY(p0 p1:ja):kg:=(qw (zw (zj cH (qc 0) (qc 1)) (qh 2))
 (qw (v0 (yB (qp p0 (vk (qc 2)))) (jc (qc 2)) jw)
 (jc (kn (qe (ju 2 0) (qe (qp p1 (aD (qc 0) (ju 2 1))) (qe (qp p1 (aD (qc 0) (ju 2 2))) z9)))))))
def oq:ja:=fun ys L Q=>∃c k f:Int,ys=[.int c,.int k,.int f]/\0≤k/\k<1000000/\0<f/\f<1000000/\∀v,0≤v->v<134217728->Q (.int v) L
theorem aj0:∀ys L Q,oq ys L Q->jx ss 3 ys L Q:=by
 rintro ys L Q ⟨c,k,f,rfl,h0,h1,h2,h3,q⟩;refine⟨(by decide:(0:Int)<1000003),.inr ⟨by decide,by decide⟩,.inl ⟨by lia,by lia⟩,.inr ⟨by lia,by lia⟩,(by decide:(0:Int)<2147483647),⟨by decide,by decide⟩,js (q _ ?_ ?_)⟩
 all_goals
  generalize ((c % 1000003*7+k*k+1)*f)=z;lia
theorem aan(cs:List Nat):(Txt.join "" (cs.map fun c=>(⟨#[c]⟩:Str))).cps.toList=cs:=by
 rw[oO]
 induction cs with|nil=>rfl|cons c r ih=>rw[AO,AW,ih];rfl
def aw(n:Nat):ja:=fun ys L Q=>∃wd,ys=[aV wd]/\wd.depth≤n/\Q (.int wd.size) L
theorem jG:∀ys L Q,¬aw 0 ys L Q:=fun ys L Q ⟨wd,_,hd,_⟩=>by cases wd<;>simp[Wd.depth] at hd
theorem xR(n:Nat):∀ys L Q,aw (n+1) ys L Q->jx (l5 (aw n)) 1 ys L Q:=by
 rintro ys L Q ⟨wd,rfl,hd,q⟩;cases wd with
 |leaf t n=>exact js q
 |node e l r=>
  have hd':max l.depth r.depth+1≤n+1:=hd;refine⟨l,rfl,by lia,r,rfl,by lia,js ?_⟩;have e:(1+(l.size:Int)+(r.size:Int))=(((Wd.node e l r).size:Nat):Int):=by show _=((1+l.size+r.size:Nat):Int);rfl
  rw[e];exact q
theorem aeg{xs:List Y}{keep:ql->Prop}{tb:kg}(W:Nat->jk->ql->Prop)(h0:W 0 τ L)(hk:∀i τ L',W i τ L'->keep L')
 (hs:∀i x y τ L,xs[i]?=some x->ys[i]?=some y->W i τ L->g (.tup [x,y]) τ L fun τ2 L2=>tb { D with nx:=cR (W (i+1)),ct:=cR (W (i+1)),bk:=D.nx } τ2 L2) (hd:∀τ L,W (min xs.length ys.length) τ L->D.nx τ L):
 rM (sR xs ys) keep g tb D τ L:=kj ⟨W,h0,hk,fun i y τ L e w=>by obtain⟨a,b,ea,eb,rfl⟩:=u3 e;exact hs i a b τ L ea eb w,fun τ L w=>hd τ L (by rw[jR] at w;exact w)⟩
def KW(ks:List Y):Nat->Wd->Prop
 |p,.leaf t n=>ks[p]?=some (.tup [.str (kL t),.str n])
 |p,.node e l r=>∃i j:Nat,ks[p]?=some (.tup [.str (kN e),.int i,.int j])/\KW ks i l/\KW ks j r
theorem KW.more{ks:List Y}(ms:List Y):∀{wd:Wd} {p:Nat},KW ks p wd->KW (ks++ms) p wd
 |.leaf _ _,p,h=>by have h':ks[p]?=some _:=h;show(ks++ms)[p]?=some _;rw[AE (A1.mp h').1];exact h'
 |.node _ _ _,p,⟨i,j,h,a,b⟩=>⟨i,j,by rw[AE (A1.mp h).1];exact h,KW.more ms a,KW.more ms b⟩
def xh(n:Nat):ja:=fun ys L Q=>∃k ks p wd,ys=[.ref k,.int ((p:Nat):Int)]/\L k=some (.lst ks)/\KW ks p wd/\wd.depth≤n/\Q (aV wd) L
theorem lW:∀ys L Q,¬xh 0 ys L Q:=fun ys L Q ⟨k,ks,p,wd,_,_,_,hd,_⟩=>by cases wd<;>simp[Wd.depth] at hd
theorem o9:∀ys L Q,¬xh 0 ys L Q:=lW
theorem tz(n:Nat):∀ys L Q,xh (n+1) ys L Q->jx (wY we (xh n)) 3 ys L Q:=by
 rintro ys L Q ⟨k,ks,p,wd,rfl,hk,h,hd,q⟩;cases wd with
 |leaf t nm=>exact qd hk (qo (vh h) ⟨true,t,_,rfl,js q⟩)
 |node e l r=>
  obtain⟨i,j,h,hl,hr⟩:=h;have hd':max l.depth r.depth+1≤n+1:=hd;exact qd hk (qo (vh h) ⟨false,e,_,rfl,k,ks,i,l,rfl,hk,hl,by lia,k,ks,j,r,rfl,hk,hr,by lia,js q⟩)
theorem qS(n:Nat):∀ys L Q,xh (n+1) ys L Q->jx (pM (xh n)) 3 ys L Q:=by
 rintro ys L Q ⟨k,ks,p,wd,rfl,hk,h,hd,q⟩;cases wd with
 |leaf t nm=>exact qd hk (qo (vh h) (js q))
 |node e l r=>
  obtain⟨i,j,h,hl,hr⟩:=h;have hd':max l.depth r.depth+1≤n+1:=hd;exact qd hk (qo (vh h) ⟨k,ks,i,l,rfl,hk,hl,by lia,k,ks,j,r,rfl,hk,hr,by lia,js q⟩)
def mkS(l:List Nat):Str:=⟨l.toArray⟩
theorem uj(x:Str):mkS x.cps.toList=x:=by cases x;rfl
def acl(p0:ja):kg:=(qw (zw (afy [("plain", "turned"),("turned", "plain"),("both", "either"),("either", "both")]) (qh 1))
 (qw (v0 (gg (cD 0) (jr 2)) (jc (kn (qe (zj cH (qc 1) (ju 0 0)) (vk (ju 0 1))))) jw)
 (jc (kn (qe (zj cH (qc 1) (ju 0 0)) (qe (qp p0 (vk (ju 0 1))) (qe (qp p0 (vk (ju 0 2))) z9)))))))
def yc(p0:ja)(p1:ja):kg:=(qw (v0 (gg (cD 1) (jr 2)) (qw (jb (aq j8 (qc 0) (qe (qp p0 (vk (qc 1))) z9)))
 (qw (jb (aq j8 (qc 0) (vk (qc 1))))
 (jc (xw (qe (kn (qe (cQ "link") (qe (zj iR (cD 0) (jr 2)) (qe (zj iR (cD 0) (jr 1)) z9)))) (qe (zj iR (cD 0) (jr 2)) (qe (zj iR (cD 0) (jr 1)) z9))))))) jw)
 (qw (zw (qp p1 (aD (qc 0) (ju 1 1))) (qh 2))
 (qw (zw (qp p1 (aD (qc 0) (ju 1 2))) (qh 3))
 (qw (jb (aq j8 (qc 0) (qe (kn (qe (zj cH (qp p0 (vk (qc 1))) (jr 0)) (aD (ju 2 1) (ju 3 1)))) z9)))
 (qw (jb (aq j8 (qc 0) (qe (kn (qe (ju 1 0) (aD (ju 2 2) (ju 3 2)))) z9)))
 (qw (aj8 4 5 (qe (zj iR (cD 0) (jr 2)) (qe (zj iR (cD 0) (jr 1)) z9)))
 (qw (zw (yIf (gg (ju 1 0) (cQ "either")) (qc 4) (qc 5)) (qh 6))
 (qw (zw (yIf (gg (ju 1 0) (cQ "either")) (qc 5) (qc 4)) (qh 7))
 (jc (xw (qe (kn (qe (cQ "either") (qe (qc 7) (qe (kn (qe (cQ "both") (qe (qc 6) (aD (ju 2 0) (ju 3 0))))) z9)))) (aD (qc 4) (qc 5)))))))))))))
inductive Kn where
 |lf (t:Bool) (n:Str) | nd (e:Bool) (i j:Nat)
def jB:Kn->Y
 |.lf t n=>.tup [.str (kL t),.str n]
 |.nd e i j=>.tup [.str (kN e),.int ((i:Nat):Int),.int ((j:Nat):Int)]
inductive Ru where
 |link (p q:Nat) | ei (r:Nat) (A:Ru) | bo (r:Nat) (A B:Ru) | cu (p q:Nat) (A B:Ru)
def qm:Ru->Y
 |.link p q=>.tup [.str "link",.int ((p:Nat):Int),.int ((q:Nat):Int)]
 |.ei r A=>.tup [.str "either",.int ((r:Nat):Int),qm A]
 |.bo r A B=>.tup [.str "both",.int ((r:Nat):Int),qm A,qm B]
 |.cu p q A B=>.tup [.str "cut",.int ((p:Nat):Int),.int ((q:Nat):Int),qm A,qm B]
def qk:Ru->List Nat
 |.link p q=>[p,q]
 |.ei r A=>r::qk A
 |.bo r A B=>r::(qk A++qk B)
 |.cu _ _ A B=>qk A++qk B
abbrev zu(ks:List Kn):List Y:=ks.map jB
def bZ(ks:List Kn)(p:Nat)(w:Wd):Prop:=KW (zu ks) p w
theorem bZ.more{ks:List Kn}{p:Nat}{w:Wd}(h:bZ ks p w)(ms:List Kn):bZ (ks++ms) p w:=by unfold bZ zu;rw[AC];exact KW.more _ h
def bU(ks:List Kn):Prop:=∀(p:Nat) (k:Kn),ks[p]?=some k->match k with
 |.lf _ n=>dG n
 |.nd _ i j=>i<p/\j<p
theorem bU.snoc{ks:List Kn}{k:Kn}(h:bU ks)(hk:match k with | .lf _ n=>dG n | .nd _ i j=>i<ks.length/\j<ks.length):bU (ks++[k]):=by
 intro p k' e;by_cases c:p<ks.length
 ·rw[AE c] at e;exact h p k' e
 ·rw[Ar (by exact zL)] at e;have c2:p=ks.length:=by
   by_cases c3:p - ks.length=0
   ·omega
   ·rw[BK (by simp;exact aba)] at e;cases e
  subst c2;rw[Cy] at e;cases e;exact hk
theorem cg(l:List α)(x:α)(r:List α):(l++x::r)[l.length]?=some x:=by rw[Ar (Al _),Cy];rfl
theorem kR{l r:List α}{p:Nat}{x:α}(h:l[p]?=some x):(l++r)[p]?=some x:=by rw[AE (A1.mp h).1];exact h
inductive SR(ks:List Kn):Ru->List Nat->Prop
 |link {p q:Nat} {t:Bool} {n:Str} {E:List Nat}:p<q->ks[p]?=some (.lf t n)->ks[q]?=some (.lf (!t) n)->(∀x,x∈E↔x=p\/x=q)->E.Nodup->SR ks (.link p q) E
 |ei {r i j:Nat} {A:Ru} {EA E:List Nat}:ks[r]?=some (.nd true i j)->SR ks A EA->i∈EA->j∈EA->i≠j->(∀x,x∈E↔(x∈EA/\x≠i/\x≠j)\/x=r)->E.Nodup->SR ks (.ei r A) E
 |bo {r i j:Nat} {A B:Ru} {EA EB E:List Nat}:ks[r]?=some (.nd false i j)->SR ks A EA->SR ks B EB->i∈EA->j∈EB->(∀x,x∈E↔(x∈EA/\x≠i)\/(x∈EB/\x≠j)\/x=r)->E.Nodup->SR ks (.bo r A B) E
 |cu {p q:Nat} {A B:Ru} {EA EB E:List Nat} {w:Wd}:SR ks A EA->SR ks B EB->p∈EA->q∈EB->bZ ks p w->bZ ks q w.turn->(∀x,x∈E↔(x∈EA/\x≠p)\/(x∈EB/\x≠q))->E.Nodup->SR ks (.cu p q A B) E
theorem SR.more{ks:List Kn}{R:Ru}{E:List Nat}(h:SR ks R E)(ms:List Kn):SR (ks++ms) R E:=by induction h with|link h1 h2 h3 h4 h5=>exact .link h1 (kR h2) (kR h3) h4 h5|ei h1 _ h3 h4 h5 h6 h7 ih=>exact .ei (kR h1) ih h3 h4 h5 h6 h7|bo h1 _ _ h4 h5 h6 h7 ih1 ih2=>exact .bo (kR h1) ih1 ih2 h4 h5 h6 h7|cu _ _ h3 h4 h5 h6 h7 h8 ih1 ih2=>exact .cu ih1 ih2 h3 h4 (h5.more ms) (h6.more ms) h7 h8
theorem SR.sub{ks:List Kn}{R:Ru}{E:List Nat}(h:SR ks R E):∀x∈E,x∈qk R:=by
 induction h with
 |link _ _ _ h4 _=>intro x hx;rcases (h4 x).mp hx with rfl | rfl<;>simp[qk]
 |ei _ _ _ _ _ h6 _ ih=>intro x hx;rcases (h6 x).mp hx with⟨h,_⟩ | rfl;exact Ag _ (ih x h);exact An ..
 |bo _ _ _ _ _ h6 _ ih1 ih2=>
  intro x hx;rcases (h6 x).mp hx with⟨h,_⟩ | ⟨h,_⟩ | rfl
  ·exact Ag _ (Av _ (ih1 x h))
  ·exact Ag _ (Af _ (ih2 x h))
  ·exact An ..
 |cu _ _ _ _ _ _ h7 _ ih1 ih2=>
  intro x hx;rcases (h7 x).mp hx with⟨h,_⟩ | ⟨h,_⟩
  ·exact Av _ (ih1 x h)
  ·exact Af _ (ih2 x h)
def av(n:Nat):ja:=fun ys L Q=>∃wd,ys=[aV wd]/\wd.depth≤n/\Q (aV wd.turn) L
theorem yV:∀ys L Q,¬av 0 ys L Q:=fun ys L Q ⟨wd,_,hd,_⟩=>by cases wd<;>simp[Wd.depth] at hd
theorem uE(t:Bool):v3 ([(("plain" : Str),("turned" : Str)),("turned", "plain"),("both", "either"),("either", "both")].map fun p=>((Sum.inr p.1:zq),Y.str p.2)) (Sum.inr (kL t))=some (.str (kL (!t))):=hG (m6 t)
theorem tj(t:Bool):v3 ([(("plain" : Str),("turned" : Str)),("turned", "plain"),("both", "either"),("either", "both")].map fun p=>((Sum.inr p.1:zq),Y.str p.2)) (Sum.inr (kN t))=some (.str (kN (!t))):=hG (mU t)
theorem zZ(n:Nat):∀ys L Q,av (n+1) ys L Q->jx (acl (av n)) 2 ys L Q:=by
 rintro ys L Q ⟨wd,rfl,hd,q⟩;intro p hp;cases wd with
 |leaf t nm=>
  refine jl q9 (qo (uE t) ?_);exact bK (By hp) q
 |node e l r=>
  have hd':max l.depth r.depth+1≤n+1:=hd;refine jl q9 (qo (tj e) ?_);refine⟨l,rfl,by lia,r,rfl,by lia,?_⟩;exact bK (By hp) q
structure Mir(ks:List Kn)(w:Wd)(ms:List Kn)(R:Ru)(tp sp:Nat):Prop where
 len:ms.length=2*w.size
 sr:SR (ks++ms) R [tp,sp]
 wt:bZ (ks++ms) tp w.turn
 ws:bZ (ks++ms) sp w
 tm:∀x,x∈qk R↔ks.length≤x/\x<ks.length+ms.length
 nd:(qk R).Nodup
 ok:bU (ks++ms)
theorem bZ.leaf{ks:List Kn}{p:Nat}{n:Str}(h:ks[p]?=some (.lf t n)):bZ ks p (.leaf t n):=by show(zu ks)[p]?=_;rw[Ap,h];rfl
theorem bZ.node{ks:List Kn}{p:Nat}{e:Bool}{l r:Wd}(h:ks[p]?=some (.nd e i j))(hl:bZ ks i l)(hr:bZ ks j r):bZ ks p (.node e l r):=by refine⟨i,j,?_,hl,hr⟩;rw[Ap,h];rfl
abbrev ES:=@bZ.node
theorem rQ{ks:List Kn}(hk:bU ks){n:Str}(hn:dG n):Mir ks (.leaf t n) [.lf (!t) n,.lf t n] (.link ks.length (ks.length+1)) ks.length (ks.length+1):=by
 have e1:(ks++[Kn.lf (!t) n,.lf t n])[ks.length]?=some (.lf (!t) n):=cg _ _ _;have e2:(ks++[Kn.lf (!t) n,.lf t n])[ks.length+1]?=some (.lf t n):=by have:=cg (ks++[Kn.lf (!t) n]) (Kn.lf t n) [];rw[Ac,AD] at this;exact this
 refine⟨rfl,.link (t:=!t) (n:=n) (by exact BL _) e1 (by rw[Bool.not_not];exact e2) (by simp) (by simp),bZ.leaf e1,bZ.leaf e2,fun x=>?_,by simp[qk],?_⟩
 ·show x∈[ks.length,ks.length+1]↔ks.length≤x/\x<ks.length+2;simp;lia
 ·have:=(hk.snoc (k:=.lf (!t) n) hn).snoc (k:=.lf t n) hn;rw[AD] at this;exact this
theorem SR.nod{ks:List Kn}{R:Ru}{E:List Nat}(h:SR ks R E):E.Nodup:=by cases h<;>assumption
theorem ao4{x h lo a r N:Nat}(hh:(h=N/\lo=N+1)\/(h=N+1/\lo=N))(hN:N=a+m+r):x=h\/x=lo\/(a≤x/\x<a+m)\/a+m≤x/\x<a+m+r↔a≤x/\x<N+2:=by subst hN;rcases hh with⟨rfl,rfl⟩ | ⟨rfl,rfl⟩<;>lia
theorem amr{x a b c N:Nat}(h:a≠b)(k:c≠d):x∈[b,d,N]↔(x∈[a,b]/\x≠a)\/(x∈[c,d]/\x≠c)\/x=N:=by simp only[Au,Bw,or_false];lia
theorem anj{x a b c N:Nat}(h:a≠b)(k:c≠d):x∈[a,c,N]↔(x∈[a,b]/\x≠b)\/(x∈[c,d]/\x≠d)\/x=N:=by simp only[Au,Bw,or_false];lia
theorem anu{x a b N M:Nat}(h:a<N)(k:b<N):x∈[N,M]↔(x∈[a,b,N]/\x≠a/\x≠b)\/x=M:=by simp only[Au,Bw,or_false];lia
theorem amm{x a b N M:Nat}(h:a<N)(k:b<N):x∈[M,N]↔(x∈[a,b,N]/\x≠a/\x≠b)\/x=M:=by simp only[Au,Bw,or_false];lia
theorem akh{a b N:Nat}(h:a<N)(k:b<N)(d:a≠b):[a,b,N].Nodup:=by rw[Ax,Ax];simp;lia
theorem an3{a r N t s u v:Nat}(a1:a≤t/\t<a+m)(a2:a≤s/\s<a+m)(b1:a+m≤u/\u<a+m+r)(b2:a+m≤v/\v<a+m+r)(hN:N=a+m+r):t<N/\s<N/\u<N/\v<N/\t≠u/\s≠v:=by lia
theorem al4{h lo a r N:Nat}(hh:(h=N/\lo=N+1)\/(h=N+1/\lo=N))(hN:N=a+m+r):¬(h=lo\/(a≤h/\h<a+m)\/a+m≤h/\h<a+m+r)/\¬((a≤lo/\lo<a+m)\/a+m≤lo/\lo<a+m+r):=by lia
theorem an9{x y a r:Nat}(h1:a≤x/\x<a+m)(h2:a+m≤y/\y<a+m+r)(e:x=y):False:=by lia
theorem ab8{ks ml mr:List Kn}{e:Bool}{l r:Wd}{A B:Ru}{tl sl tr sr:Nat}(hl:Mir ks l ml A tl sl)(hr:Mir (ks++ml) r mr B tr sr){N:Nat}(hN:N=ks.length+(ml++mr).length):
 Mir ks (.node e l r) (ml++mr++[.nd (!e) tl tr,.nd e sl sr]) (.ei (if e=true then N+1 else N) (.bo (if e=true then N else N+1) A B)) N (N+1):=by
 have hA:∀x∈[tl,sl],ks.length≤x/\x<ks.length+ml.length:=fun x hx=>(hl.tm x).mp (hl.sr.sub x hx);have hB:∀x∈[tr,sr],ks.length+ml.length≤x/\x<ks.length+ml.length+mr.length:=fun x hx=>by have:=(hr.tm x).mp (hr.sr.sub x hx);rw[Ac] at this;exact this
 have a1:=hA tl (by simp);have a2:=hA sl (by simp);have b1:=hB tr (by simp);have b2:=hB sr (by simp);have nA:tl≠sl:=by have:=hl.sr.nod;simpa using this
 have nB:tr≠sr:=by have:=hr.sr.nod;simpa using this
 have hN':N=ks.length+ml.length+mr.length:=by rw[hN,Ac];simp +arith only
 obtain⟨d1,d2,d3,d4,d5,d6⟩:=an3 a1 a2 b1 b2 hN';generalize eK:ks++(ml++mr++[Kn.nd (!e) tl tr,.nd e sl sr])=K;have k1:K=(ks++ml)++(mr++[Kn.nd (!e) tl tr,.nd e sl sr]):=by rw[<-eK];simp
 have k2:K=((ks++ml)++mr)++[Kn.nd (!e) tl tr,.nd e sl sr]:=by rw[<-eK];simp
 have k3:K=(((ks++ml)++mr)++[Kn.nd (!e) tl tr])++[.nd e sl sr]:=by rw[<-eK];simp
 have l2:((ks++ml)++mr).length=N:=by rw[Ac,Ac];lia
 have g1:K[N]?=some (.nd (!e) tl tr):=by rw[k2,<-l2];exact cg _ _ _
 have g2:K[N+1]?=some (.nd e sl sr):=by
  have l3:(((ks++ml)++mr)++[Kn.nd (!e) tl tr]).length=N+1:=by rw[Ac,l2];rfl
  rw[k3,<-l3];exact cg _ _ _
 have sA:SR K A [tl,sl]:=by rw[k1];exact hl.sr.more _
 have sB:SR K B [tr,sr]:=by rw[k2];exact hr.sr.more _
 have okK:bU K:=by have o1:=hr.ok.snoc (k:=.nd (!e) tl tr) (by show tl<((ks++ml)++mr).length/\tr<((ks++ml)++mr).length;rw[l2];exact⟨d1,d3⟩);have o2:=o1.snoc (k:=.nd e sl sr) (by show sl<_/\sr<_;rw[Ac,l2];exact⟨B8 d2,B8 d4⟩);rw[k3];exact o2
 have tA:=hl.tm;have tB:=hr.tm;rw[Ac] at tB;have wt:bZ K N (Wd.node e l r).turn:=ES g1 (by rw[k1];exact hl.wt.more _) (by rw[k2];exact hr.wt.more _);have wsp:bZ K (N+1) (Wd.node e l r):=ES g2 (by rw[k1];exact hl.ws.more _) (by rw[k2];exact hr.ws.more _);have lenm:(ml++mr++[Kn.nd (!e) tl tr,.nd e sl sr]).length=2*(Wd.node e l r).size:=by have h1:=hl.len;have h2:=hr.len;show _=2*(1+l.size+r.size);rw[Ac,Ac];simp;lia
 have lt:ks.length+(ml++mr++[Kn.nd (!e) tl tr,.nd e sl sr]).length=N+2:=by rw[Ac];simp[hN];rfl
 have tt:∀h lo:Nat,(h=N/\lo=N+1)\/(h=N+1/\lo=N)->(∀x,x∈qk (.ei h (.bo lo A B))↔ks.length≤x/\x<ks.length+(ml++mr++[Kn.nd (!e) tl tr,.nd e sl sr]).length)/\(qk (.ei h (.bo lo A B))).Nodup:=by
  intro h lo hh;constructor
  ·intro x;rw[lt];show x∈h::lo::(qk A++qk B)↔_;rw[Au,Au,Ak,tA,tB];exact ao4 hh hN'
  ·show(h::lo::(qk A++qk B)).Nodup;rw[Ax,Ax,Aq];refine⟨?_,?_,hl.nd,hr.nd,fun x hx y hy e=>?_⟩
   ·rw[Au,Ak,tA,tB];exact(al4 hh hN').1
   ·rw[Ak,tA,tB];exact(al4 hh hN').2
   ·exact an9 ((tA x).mp hx) ((tB y).mp hy) e
 cases e with
 |true=>
  have s1:SR K (.bo N A B) [sl,sr,N]:=by exact .bo g1 sA sB (by simp) (by simp) (fun x=>amr nA nB) (akh d2 d4 d6)
  have s2:SR K (.ei (N+1) (.bo N A B)) [N,N+1]:=by exact .ei g2 s1 (by simp) (by simp) d6 (fun x=>anu d2 d4) (by simp)
  obtain⟨t1,t2⟩:=tt (N+1) N (.inr ⟨rfl,rfl⟩);exact⟨lenm,by rw[eK];exact s2,by rw[eK];exact wt,by rw[eK];exact wsp,t1,t2,by rw[eK];exact okK⟩
 |false=>
  have s1:SR K (.bo (N+1) A B) [tl,tr,N+1]:=by exact .bo g2 sA sB (by simp) (by simp) (fun x=>anj nA nB) (akh (B8 d1) (B8 d3) d5)
  have s2:SR K (.ei N (.bo (N+1) A B)) [N,N+1]:=by exact .ei g1 s1 (by simp) (by simp) d5 (fun x=>amm (B8 d1) (B8 d3)) (by simp)
  obtain⟨t1,t2⟩:=tt N (N+1) (.inl ⟨rfl,rfl⟩);exact⟨lenm,by rw[eK];exact s2,by rw[eK];exact wt,by rw[eK];exact wsp,t1,t2,by rw[eK];exact okK⟩
def bJ(n:Nat):ja:=fun ys L Q=>∃a,∃ks:List Kn,∃w:Wd,ys=[.ref a,aV w]/\L a=some (.lst (zu ks))/\w.depth≤n/\n≤120/\w.ok/\bU ks/\ks.length+2*w.size≤10000/\
 ∀ms R tp sp p,L p=none->Mir ks w ms R tp sp->Q (.ref p) (qf (qf L a (.lst (zu (ks++ms)))) p (.lst [qm R,.int ((tp:Nat):Int),.int ((sp:Nat):Int)]))
theorem vE:∀ys L Q,¬bJ 0 ys L Q:=fun ys L Q ⟨a,ks,wd,_,_,hd,_⟩=>by cases wd<;>simp[Wd.depth] at hd
theorem bg_:∀m:Nat,m≤20000->m<sizeLine:=fun m h=>BV h (by decide)
theorem xK(n:Nat):∀ys L Q,bJ (n+1) ys L Q->jx (yc (av 120) (bJ n)) 8 ys L Q:=by
 rintro ys L Q ⟨a,ks,w,rfl,ha,hd,hn,hok,hk,hb,q⟩;have big:=bg_;cases w with
 |leaf t nm=>
  have hb:ks.length+2*1≤10000:=hb;refine qd ha ⟨.leaf t nm,rfl,by exact Cv _,qy ha ⟨big _ (by rw[Ae];lia),?_⟩⟩;refine qd q9 (qy q9 ⟨big _ (by rw[Ac,Ae];simp;lia),?_⟩);rw[xr];have e1:(zu ks++[aV (Wd.leaf t nm).turn])++[aV (.leaf t nm)]=zu (ks++[.lf (!t) nm,.lf t nm]):=by unfold zu;rw[AC,AD];rfl
  have e2:(zu (ks++[Kn.lf (!t) nm,.lf t nm])).length=ks.length+2:=by rw[Ae,Ac];rfl
  have i1:((((zu (ks++[Kn.lf (!t) nm,.lf t nm])).length:Nat):Int) - 2)=((ks.length:Nat):Int):=by rw[e2];lia
  have i2:((((zu (ks++[Kn.lf (!t) nm,.lf t nm])).length:Nat):Int) - 1)=((ks.length+1:Nat):Int):=by rw[e2];lia
  have e1':(zu ks++[aV (Wd.leaf t nm).turn])++[.tup [.str (kL t),.str nm]]=zu (ks++[.lf (!t) nm,.lf t nm]):=e1
  first | rw[e1] | rw[e1']
  refine qd q9 (qd q9 (qd q9 (qd q9 fun p hp=>?_)));have np:L p=none:=by
   have:p≠a:=fun e=>by rw[e,q9] at hp;cases hp
   rw[qa this] at hp;exact hp
  have:=q _ _ _ _ p np (rQ hk hok);have key:[qm (.link ks.length (ks.length+1)),Y.int ((ks.length:Nat):Int),Y.int ((ks.length+1:Nat):Int)]=[.tup [.str "link",.int ((((zu (ks++[Kn.lf (!t) nm,.lf t nm])).length:Nat):Int) - 2),.int ((((zu (ks++[Kn.lf (!t) nm,.lf t nm])).length:Nat):Int) - 1)],.int ((((zu (ks++[Kn.lf (!t) nm,.lf t nm])).length:Nat):Int) - 2),.int ((((zu (ks++[Kn.lf (!t) nm,.lf t nm])).length:Nat):Int) - 1)]:=by rw[i1,i2];rfl
  rw[key] at this;exact js this
 |node e l r=>
  have hd':max l.depth r.depth+1≤n+1:=hd;have hb:ks.length+2*(1+l.size+r.size)≤10000:=hb;refine⟨a,ks,l,rfl,ha,by lia,by exact fF,hok.1,hk,by lia,fun ml A tl sl p1 hp1 ML=>?_⟩;have na1:a≠p1:=ke ha hp1;have hl1:=ML.len;refine⟨a,ks++ml,r,rfl,by rw[qa na1,q9],by lia,by exact fF,hok.2,ML.ok,by rw[Ac];lia,fun mr B tr sr p2 hp2 MR=>?_⟩;have hl2:=MR.len;have np1:p1≠p2:=ke q9 hp2;have na2:a≠p2:=ke (by rw[qa na1];exact q9) hp2;have ha2:qf (qf (qf (qf L a (.lst (zu (ks++ml)))) p1 (.lst [qm A,.int ((tl:Nat):Int),.int ((sl:Nat):Int)])) a (.lst (zu ((ks++ml)++mr)))) p2 (.lst [qm B,.int ((tr:Nat):Int),.int ((sr:Nat):Int)]) a=some (.lst (zu ((ks++ml)++mr))):=by rw[qa na2];exact q9
  have h1:qf (qf (qf (qf L a (.lst (zu (ks++ml)))) p1 (.lst [qm A,.int ((tl:Nat):Int),.int ((sl:Nat):Int)])) a (.lst (zu ((ks++ml)++mr)))) p2 (.lst [qm B,.int ((tr:Nat):Int),.int ((sr:Nat):Int)]) p1=some (.lst [qm A,.int ((tl:Nat):Int),.int ((sl:Nat):Int)]):=by rw[qa np1,qa (AK na1)];exact q9
  have h2:qf (qf (qf (qf L a (.lst (zu (ks++ml)))) p1 (.lst [qm A,.int ((tl:Nat):Int),.int ((sl:Nat):Int)])) a (.lst (zu ((ks++ml)++mr)))) p2 (.lst [qm B,.int ((tr:Nat):Int),.int ((sr:Nat):Int)]) p2=some (.lst [qm B,.int ((tr:Nat):Int),.int ((sr:Nat):Int)]):=q9;have old:∀b o,b≠a->L b=some o->qf (qf (qf (qf L a (.lst (zu (ks++ml)))) p1 (.lst [qm A,.int ((tl:Nat):Int),.int ((sl:Nat):Int)])) a (.lst (zu ((ks++ml)++mr)))) p2 (.lst [qm B,.int ((tr:Nat):Int),.int ((sr:Nat):Int)]) b=some o:=fun b o nb e=>by
   have n1:b≠p1:=ke e hp1;have e2:qf (qf L a (.lst (zu (ks++ml)))) p1 (.lst [qm A,.int ((tl:Nat):Int),.int ((sl:Nat):Int)]) b=some o:=by rw[qa n1,qa nb];exact e
   have n2:b≠p2:=ke e2 hp2;rw[qa n2,qa nb];exact e2
  generalize qf (qf (qf (qf L a (.lst (zu (ks++ml)))) p1 (.lst [qm A,.int ((tl:Nat):Int),.int ((sl:Nat):Int)])) a (.lst (zu ((ks++ml)++mr)))) p2 (.lst [qm B,.int ((tr:Nat):Int),.int ((sr:Nat):Int)])=L2 at ha2 h1 h2 old;have lks:(zu ((ks++ml)++mr)).length=ks.length+ml.length+mr.length:=by rw[Ae,Ac,Ac]
  refine qd ha2 ⟨.node e l r,rfl,by show max l.depth r.depth+1≤120;exact wG,qd h1 (qd h2 (qy ha2 ⟨big _ (by lia),?_⟩))⟩;have h1':∀o,qf L2 a o p1=some (.lst [qm A,.int ((tl:Nat):Int),.int ((sl:Nat):Int)]):=fun o=>by rw[qa (AK na1)];exact h1
  have h2':∀o,qf L2 a o p2=some (.lst [qm B,.int ((tr:Nat):Int),.int ((sr:Nat):Int)]):=fun o=>by rw[qa (AK na2)];exact h2
  refine qd q9 (qd (h1' _) (qd (h2' _) (qy q9 ⟨big _ (by rw[Ac];simp;lia),?_⟩)));rw[xr];obtain⟨N,hN⟩:∃N,N=ks.length+(ml++mr).length:=⟨_,rfl⟩;have e1:(zu ((ks++ml)++mr)++[.tup [.str (kN (!e)),.int ((tl:Nat):Int),.int ((tr:Nat):Int)]])++[.tup [.str (kN e),.int ((sl:Nat):Int),.int ((sr:Nat):Int)]]=zu (ks++(ml++mr++[.nd (!e) tl tr,.nd e sl sr])):=by unfold zu;simp[jB]
  rw[e1];have lN:(zu (ks++(ml++mr++[Kn.nd (!e) tl tr,.nd e sl sr]))).length=N+2:=by rw[Ae,Ac,Ac,hN];simp;rfl
  have i1:((((zu (ks++(ml++mr++[Kn.nd (!e) tl tr,.nd e sl sr]))).length:Nat):Int) - 2)=((N:Nat):Int):=by rw[lN];lia
  have i2:((((zu (ks++(ml++mr++[Kn.nd (!e) tl tr,.nd e sl sr]))).length:Nat):Int) - 1)=((N+1:Nat):Int):=by rw[lN];lia
  refine qd q9 (qd q9 ?_);have M:=ab8 (e:=e) ML MR hN;have done:∀p,qf L2 a (.lst (zu (ks++(ml++mr++[Kn.nd (!e) tl tr,.nd e sl sr])))) p=none->∀R,Mir ks (.node e l r) (ml++mr++[Kn.nd (!e) tl tr,.nd e sl sr]) R N (N+1)->
   eJ Q (.ref p) (qf (qf L2 a (.lst (zu (ks++(ml++mr++[Kn.nd (!e) tl tr,.nd e sl sr]))))) p (.lst [qm R,.int ((N:Nat):Int),.int ((N+1:Nat):Int)])):=fun p hp R MM=>by
   have npa:p≠a:=fun z=>by rw[z,q9] at hp;cases hp
   rw[qa npa] at hp;have np:L p=none:=by cases z:L p with|none=>rfl|some o=>rw[old p o npa z] at hp;cases hp
   refine bK ?_ (q _ _ _ _ p np MM);intro b o z;by_cases c1:b=p
   ·subst c1;rw[q9] at z ⊢;exact z
   ·rw[qa c1] at z ⊢;by_cases c2:b=a
    ·subst c2;rw[q9] at z ⊢;exact z
    ·rw[qa c2] at z ⊢;exact old b o c2 z
  cases e with
  |true=>
   have key:[qm (.ei (if true=true then N+1 else N) (.bo (if true=true then N else N+1) A B)),Y.int ((N:Nat):Int),Y.int ((N+1:Nat):Int)]=[.tup [.str "either",.int ((((zu (ks++(ml++mr++[Kn.nd (!true) tl tr,.nd true sl sr]))).length:Nat):Int) - 1),.tup [.str "both",.int ((((zu (ks++(ml++mr++[Kn.nd (!true) tl tr,.nd true sl sr]))).length:Nat):Int) - 2),qm A,qm B]],.int ((((zu (ks++(ml++mr++[Kn.nd (!true) tl tr,.nd true sl sr]))).length:Nat):Int) - 2),.int ((((zu (ks++(ml++mr++[Kn.nd (!true) tl tr,.nd true sl sr]))).length:Nat):Int) - 1)]:=by rw[i1,i2];rfl
   walk_at "w";refine qd (h1' _) (qd (h2' _) fun p hp=>?_);have:=done p hp _ M;rw[key] at this;exact this
  |false=>
   have key:[qm (.ei (if false=true then N+1 else N) (.bo (if false=true then N else N+1) A B)),Y.int ((N:Nat):Int),Y.int ((N+1:Nat):Int)]=[.tup [.str "either",.int ((((zu (ks++(ml++mr++[Kn.nd (!false) tl tr,.nd false sl sr]))).length:Nat):Int) - 2),.tup [.str "both",.int ((((zu (ks++(ml++mr++[Kn.nd (!false) tl tr,.nd false sl sr]))).length:Nat):Int) - 1),qm A,qm B]],.int ((((zu (ks++(ml++mr++[Kn.nd (!false) tl tr,.nd false sl sr]))).length:Nat):Int) - 2),.int ((((zu (ks++(ml++mr++[Kn.nd (!false) tl tr,.nd false sl sr]))).length:Nat):Int) - 1)]:=by rw[i1,i2];rfl
   walk_at "w";refine qd (h1' _) (qd (h2' _) fun p hp=>?_);have:=done p hp _ M;rw[key] at this;exact this
end L3
variable {R:L3.Ru}{ks ks':List L3.Kn}{out wd:List (Option L3.Kn)}
namespace L3
open PySem L2 Words
def tW(p0:ja):kg:=(qw (v0 (yOr (yB (da false (qc 0))) (yB (qp p0 (vk (qc 0))))) (jc (xw z9)) jw)
 (jc (xw (aD (ju 0 1) (ju 0 2)))))
def lH:kg:=(jc (ow 2 (nU (qc 0)) (cO 2 (jd (qh 1) (jd (qh 2) ae))) (yB (da true (qc 2))) (qc 1)))
def mC:Option Kn->Y
 |none=>.non
 |some k=>jB k
abbrev kz(ks:List (Option Kn)):List Y:=ks.map mC
def j5:Option Kn->List Nat
 |some (.nd _ i j)=>[i,j]
 |_=>[]
def cr:ja:=fun ys L Q=>∃k:Option Kn,ys=[mC k]/\∀p,L p=none->Q (.ref p) (qf L p (.lst (nY (j5 k))))
theorem abz:∀ys L Q,cr ys L Q->jx (tW we) 1 ys L Q:=by
 rintro ys L Q ⟨k,rfl,q⟩;cases k with
 |none=>exact fun p hp=>js (q p hp)
 |some k=>
  cases k with|lf t n=>exact⟨true,t,_,rfl,fun p hp=>js (q p hp)⟩|nd e i j=>exact⟨false,e,_,rfl,fun p hp=>js (q p hp)⟩
def yM(f:Option Kn->Bool)(ks:List (Option Kn))(i:Nat):List Nat:=(List.range i).filter fun p=>match ks[p]? with
 |some k=>f k
 |none=>false
theorem qV{f:Option Kn->Bool}{ks:List (Option Kn)}{k:Option Kn}(h:ks[i]?=some k):yM f ks (i+1)=yM f ks i++if f k=true then [i] else []:=by unfold yM;rw[DN,CM];congr 1;rw[C7];simp only[h,Dh]
theorem acz{f:Option Kn->Bool}{ks:List (Option Kn)}{p:Nat}(h:p∈yM f ks i):p<i/\∃k,ks[p]?=some k/\f k=true:=by
 unfold yM at h;obtain⟨h1,h2⟩:=AX.mp h;refine⟨Bc.mp h1,?_⟩;split at h2
 ·rename_i k e;exact⟨k,e,h2⟩
 ·cases h2
theorem uP(f:Option Kn->Bool)(ks:List (Option Kn))(i:Nat):(yM f ks i).length≤i:=by unfold yM;exact AU (List.length_filter_le _ _) (by rw[BO];simp +arith only)
def aY:Option Kn->Bool
 |some _=>true
 |none=>false
abbrev wq(ks:List (Option Kn)):List Nat:=yM aY ks ks.length
theorem gH(a b:List Nat):nY (a++b)=nY a++nY b:=by unfold nY;rw[AC]
theorem cX{hs:List Nat}(h:(nY hs)[i]?=some y):∃n,hs[i]?=some n/\y=.int (n:Int):=by unfold nY at h;rw[Ap] at h;obtain⟨n,e1,e2⟩:=Aw.mp h;exact⟨n,e1,e2.symm⟩
theorem aat{f:Option Kn->Bool}{ks:List (Option Kn)}{keep:ql->Prop}{Q:YK}(hz:ks.length≤1000)(hk:keep L)
 (turn:∀(i:Nat) (k:Option Kn) (R:List Y->ql->Prop) zs,ks[i]?=some k->(f k=true->R (zs++[.int (i:Int)]) L)->(f k=false->R zs L)->g (.tup [.int (i:Nat),mC k]) (τ++List.replicate 2 none) L fun τ2 L2=>tc τ2 L2 fun b L3=>ko b (te τ2 L3 fun z L4=>R (zs++[z]) L4) (R zs L3))
 (hq:∀p,L p=none->Q (.ref p) (qf L p (.lst (nY (yM f ks ks.length))))):lcK (im (kz ks)) keep 2 g tc te τ L Q:=by
 refine aj (fun i zs=>zs=nY (yM f ks i)) (by rw[gU,Ae];exact BV hz (by decide)) hk rfl ?_ ?_
 ·rintro i y zs ey rfl;obtain⟨z,ez,rfl⟩:=jN ey;rw[Ap] at ez;obtain⟨k,ek,rfl⟩:=Aw.mp ez;refine turn i k _ _ ek (fun h=>⟨L,DX _,rfl,?_⟩) (fun h=>⟨L,DX _,rfl,?_⟩)
  ·rw[qV ek,AA h,gH];rfl
  ·rw[qV ek,Ay (by rw[h];exact AB),AV]
 ·rintro zs rfl;rw[gU,Ae];exact hq
def lE:ja:=fun ys L Q=>∃a,∃ks:List (Option Kn),ys=[.ref a]/\L a=some (.lst (kz ks))/\ks.length≤1000/\∀p,L p=none->Q (.ref p) (qf L p (.lst (nY (wq ks))))
theorem y8:∀ys L Q,lE ys L Q->jx lH 1 ys L Q:=by
 rintro ys L Q ⟨a,ks,rfl,ha,hz,q⟩;refine x0 ha fun keep kp=>aat (f:=aY) hz (kp L rfl) (fun i k R zs ek h1 h2=>?_) fun p hp=>js (q p hp);cases k with
 |none=>exact h2 rfl
 |some k=>cases k<;>exact h1 rfl
theorem anb(a b:Nat):min (a:Int) (b:Int)=((min a b:Nat):Int):=by omega
theorem ana(a b:Nat):max (a:Int) (b:Int)=((max a b:Nat):Int):=by omega
def prN(p:Nat×Nat):Y:=.tup [.int ((p.1:Nat):Int),.int ((p.2:Nat):Int)]
abbrev iM(l:List (Nat×Nat)):List Y:=l.map prN
theorem mz(k:Option Kn):(j5 k).length≤2:=by unfold j5;split<;>simp
end L3
namespace TS
open PySem PyProof.Rows PySem.W PySem.Calls
section
variable {w:World} 
abbrev keyBody(kx px:Str)(p1 p2 p3 p4 p5:Pos)(n:Nat):Expr:=.Tuple [.Subscript (.Name kx p1) (.Name px p2) p3,.Name px p4] n p5
structure ig(h:Heap)(f:Addr)(kx px:Str)(scope:Scope)(kvs:List Value):Prop where
 ex:∃(name qual:Str) (params:Arguments) (p1 p2 p3 p4 p5:Pos) (n:Nat) (pm ctv:Value) (c' cell k:Addr),h.get? f=some (kla_obj name qual params (keyBody kx px p1 p2 p3 p4 p5 n) scope [(kx,cell)] pm c' ctv)/\h.CodeRec (.ref c') qual/\
  h.IsCell cell (some (.ref k))/\h.IsList k kvs.toArray/\∀v:Value,bindArgs (kla_fn name qual params (keyBody kx px p1 p2 p3 p4 p5 n) scope [(kx,cell)] pm (.ref c') ctv) ⟨[v],[]⟩=pure [(px,v)]
 lim:h.NoLimit
structure KeySc(scope:Scope)(kx px:Str):Prop where
 kind:scope.kind=.function
 co:scope.isCoroutine=false
 gen:scope.isGenerator=false
 nc:∀x∈scope.names,x.2≠.cell
 lp:scope.names.lookup px=some .local
 lk:scope.names.lookup kx=some .free
 d1:(kx==("__debug__" : Str))=false
 d2:(px==("__debug__" : Str))=false
 d3:(kx==("__classdict__" : Str))=false
theorem ig.keeps{kvs:List Value}(k:ig h f kx px scope kvs)(hk:∀b o,h.get? b=some o->h'.get? b=some o):ig h' f kx px scope kvs:=by
 obtain⟨name,qual,params,p1,p2,p3,p4,p5,n,pm,ctv,c',cell,kk,g1,g2,g3,g4,g5⟩:=k.ex;refine⟨⟨name,qual,params,p1,p2,p3,p4,p5,n,pm,ctv,c',cell,kk,hk _ _ g1,?_,?_,?_,g5⟩,k.lim.keeps hk⟩
 ·obtain⟨c,oc,vs,tq,e1,e2,e3⟩:=g2;exact⟨c,oc,vs,tq,e1,hk _ _ e2,e3⟩
 ·obtain⟨o,e1,e2⟩:=g3;exact⟨o,hk _ _ e1,e2⟩
 ·obtain⟨o,e1,e2⟩:=g4;exact⟨o,hk _ _ e1,e2⟩
theorem ali{kvs:List Value}{u t:Tok}{r:Int}(K:ig s.heap f kx px scope kvs)(S:KeySc scope kx px)(hroom:A.depth<recursionLimit)(hi:kvs[i]?=some (.int r t))(hi2:i<2 ^ 40)
 (h:∀h' tk a,(∀b o,s.heap.get? b=some o->h'.get? b=some o)->h'.get? a=some { cls:=.type "tuple",data:=.seq #[.int r t,.int (i:Int) u] }->Q (.ref a) { s with heap:=h',toks:=tk }):
 wpAny (model prog w) A (call (.ref f) [.int (i:Int) u]) Q E s:=by
 obtain⟨name,qual,params,p1,p2,p3,p4,p5,n,pm,ctv,c',cell,kk,g1,g2,g3,g4,g5⟩:=K.ex;refine wpAny_call (kla_callFunE hroom g1 rfl S.co S.gen rfl g2 ?_);rw[g5];refine Ai (wpAny_newFunctionEnv S.nc (fun x hx=>by rw[Ao.mp hx];exact S.lp) (fun h₁ hns hsb=>⟨K.lim.fresh _ hsb,?_⟩) S.kind);have k1:∀b o,s.heap.get? b=some o->h₁.get? b=some o:=fun b o e=>hsb.extBut b o (A9 (Heap.lt_size e)) (Heap.get?_push_of_some _ e);show codeAny _ _ (.expr _ (envX qual scope s.heap.objs.size f (.ref c') [(kx,cell)])) _ _;refine kla_codeExpr ?_;have look:(([(px,Value.int (i:Int) u)]:List (Str×Value)).reverse.lookup px)=some (.int (i:Int) u):=by simp
 have kf:(envX qual scope s.heap.objs.size f (.ref c') [(kx,cell)]).kindOf kx=some .free:=S.lk;have kp:(envX qual scope s.heap.objs.size f (.ref c') [(kx,cell)]).kindOf px=some .local:=S.lp;have cl:(envX qual scope s.heap.objs.size f (.ref c') [(kx,cell)]).cells.lookup kx=some cell:=by show([(kx,cell)]:List (Str×Addr)).lookup kx=_;simp
 have ic:h₁.IsCell cell (some (.ref kk)):=by obtain⟨o,e1,e2⟩:=g3;exact⟨o,k1 _ _ e1,e2⟩
 have il:h₁.IsList kk kvs.toArray:=by obtain⟨o,e1,e2⟩:=g4;exact⟨o,k1 _ _ e1,e2⟩
 refine wpAny_Tuple_spliced (Calls.spliced_cons (Subscript_ (wpAny_Name (wpAny_loadName_free S.kind kf cl ic (wpAny_Name (wpAny_loadName_local S.kind kp hns look ?_) S.d2) S.d3) S.d1)));refine item_listL il (by exact Bf _) (by omega) (by rw[show((i:Nat):Int).toNat=i from rfl];exact hi) ?_;refine Calls.spliced_cons (wpAny_Name (wpAny_loadName_local S.kind kp hns look ?_) S.d2);refine Calls.spliced_nil ⟨by show 2≤sizeLine;decide,?_⟩;exact h _ _ _ (fun b o e=>Heap.get?_push_of_some _ (k1 b o e)) (Heap.get?_push_size _ rfl)
end
theorem zH(f:α->β):∀{l m:List β},l.Perm m->∀{T:List α},T.map f=m->∃T':List α,T'.Perm T/\T'.map f=l:=by
 intro l m p
 induction p with
 |nil=>intro T e;exact⟨T,BN _,e⟩
 |cons x _ ih=>
  intro T e;cases T with
  |nil=>cases e
  |cons t r=>
   rw[AO] at e;obtain⟨e1,e2⟩:=DU e;obtain⟨T',p',e'⟩:=ih e2;exact⟨t::T',p'.cons t,by rw[AO,e',e1]⟩
 |swap x y l=>
  intro T e
  match T,e with
  |t::u::r,e=>
   rw[AO,AO] at e;obtain⟨e1,e2⟩:=DU e;obtain⟨e3,e4⟩:=DU e2;exact⟨u::t::r,List.Perm.swap t u r,by rw[AO,AO,e1,e3,e4]⟩
 |trans _ _ ih1 ih2=>
  intro T e;obtain⟨T1,p1,e1⟩:=ih2 e;obtain⟨T2,p2,e2⟩:=ih1 e1;exact⟨T2,p2.trans p1,e2⟩
def itV(x:Nat×Tok):Value:=.int (x.1:Int) x.2
def agd(h:Heap)(kS:Addr)(rk:Nat->Int)(k:Value)(x:Nat×Tok):Prop:=∃a t u,k=.ref a/\a≠kS/\h.get? a=some { cls:=.type "tuple",data:=.seq #[.int (rk x.1) t,.int (x.1:Int) u] }
def hU(h:Heap)(kS:Addr)(rk:Nat->Int):List Value->List (Nat×Tok)->Prop
 |[],[]=>True
 |k::ks,x::xs=>agd h kS rk k x/\hU h kS rk ks xs
 |_,_=>False
theorem hU.len{h:Heap}{kS:Addr}{rk:Nat->Int}:∀{ks:List Value} {xs:List (Nat×Tok)},hU h kS rk ks xs->ks.length=xs.length
 |[],[],_=>rfl
 |_::_,_::_,⟨_,b⟩=>by rw[AJ,AJ,hU.len b]
 |[],_::_,z=>z.elim
 |_::_,[],z=>z.elim
theorem hU.mem{h:Heap}{kS:Addr}{rk:Nat->Int}:∀{ks:List Value} {xs:List (Nat×Tok)},hU h kS rk ks xs->∀t∈ks.zip xs,agd h kS rk t.1 t.2
 |[],[],_,t,ht=>by cases ht
 |_::_,_::_,⟨a,b⟩,t,ht=>by
  rw[Dq] at ht;rcases Au.mp ht with rfl | ht
  ·exact a
  ·exact hU.mem b t ht
 |[],_::_,z,_,_=>z.elim
 |_::_,[],z,_,_=>z.elim
section
variable {w:World} 
theorem aaf{g:Heap}{f:Addr}{kx px:Str}{scope:Scope}{kvs:List Value}{kS:Addr}{rk:Nat->Int}{body:Value->PUnit->Sem (ForInStep PUnit)}(K:ig g f kx px scope kvs)(S:KeySc scope kx px)(hroom:A.depth<recursionLimit)(hn:g.get? kS=none)
 (hb:∀(x:Value) (s:Shared) (Q':ForInStep PUnit->Shared->Prop),wpAny (model prog w) A (call (.ref f) [x]) (fun k s'=>wpAny (model prog w) A (Builtin.List.listUpdate (.ref kS) (·.push k)) (fun _ s''=>Q' (.yield ⟨⟩) s'') E s') (fun _ _=>False) s->wpAny (model prog w) A (body x ⟨⟩) Q' E s):
 ∀(ps:List (Nat×Tok)) (ks:List Value) (e:Nat) (s:Shared) (Q:PUnit->Shared->Prop),(∀b o,g.get? b=some o->s.heap.get? b=some o)->s.heap.get? kS=some (seqObj "list" ks.toArray e)->ks.length+ps.length≤100000->
  (∀x∈ps,x.1<2 ^ 40/\∃t,kvs[x.1]?=some (.int (rk x.1) t))->
  (∀h' tk ks2 e',(∀b o,b≠kS->s.heap.get? b=some o->h'.get? b=some o)->h'.get? kS=some (seqObj "list" (ks++ks2).toArray e')->hU h' kS rk ks2 ps->Q ⟨⟩ { s with heap:=h',toks:=tk })->
  wpAny (model prog w) A (forIn (ps.map itV) PUnit.unit body) Q E s
 |[],ks,e,s,Q,hg,hk,hz,hp,q=>by rw[CT,DP];exact Ai (q s.heap s.toks [] e (fun _ _ _ h=>h) (by rw[AV];exact hk) trivial)
 |x::r,ks,e,s,Q,hg,hk,hz,hp,q=>by
  rw[AO,CH];rw[AJ] at hz;obtain⟨x40,t,ht⟩:=hp x (An ..);have big:(100000:Nat)+1≤sizeLine:=by rw[sizeLine_eq];exact CI _ _
  refine Aa (hb (itV x) s _ (ali (K.keeps hg) S hroom ht x40 fun h1 tk1 a k1 ha=>?_));have hkS1:h1.get? kS=some (seqObj "list" ks.toArray e):=k1 _ _ hk;have s1:=Heap.SameBut.update h1 kS (Obj.mapSeq (·.push (.ref a)));have ea:ks.toArray.push (.ref a)=List.toArray (ks++[.ref a]):=by simp
  obtain⟨c2,hc2⟩:∃c2,(h1.update kS (Obj.mapSeq (·.push (.ref a)))).get? kS=some (seqObj "list" (List.toArray (ks++[.ref a])) c2):=⟨_,by rw[<-ea];exact get?_update_seq hkS1 (·.push (.ref a))⟩;have nak:a≠kS:=fun z=>by
   rw[z,hkS1] at ha;have:=BM (fun o:Option Obj=>o.map (·.cls)) ha;have z2:some (Value.type "list")=some (Value.type "tuple"):=this;injection z2 with z3
   injection z3 with z4
   exact absurd z4 (by decide)
  refine listUpdate_at (s:={ s with heap:=h1,toks:=tk1 }) hkS1 rfl ?_ (by rw[Am];lia) (AU (Nat.le_of_eq (Bk ..)) (by rw[Am];lia));refine aaf K S hroom hn hb r (ks++[.ref a]) c2 { s with heap:=h1.update kS (Obj.mapSeq (·.push (.ref a))),toks:=tk1 } Q (fun b o e=>?_) hc2 (by rw[Ac,C2];lia) (fun y hy=>hp y (Ag _ hy)) fun h' tk ks2 e' kk hk' vs=>?_
  ·have nb:b≠kS:=fun z=>by rw[z,hn] at e;cases e
   exact(s1.2 b nb).trans (k1 b o (hg b o e))
  ·have keep1:∀b o,b≠kS->h1.get? b=some o->h'.get? b=some o:=fun b o nb e=>kk b o nb ((s1.2 b nb).trans e);refine q h' tk (.ref a::ks2) e' (fun b o nb e=>keep1 b o nb (k1 b o e)) (by rw[hk',AD];rfl) ⟨⟨a,t,x.2,rfl,nak,keep1 a _ nak ha⟩,vs⟩
end
theorem pG{α β γ:Type}{F:α->β}{G:α->γ}:∀{l:List α},(∀x∈l,∀y∈l,F x=F y->G x=G y)->(l.map G).Nodup->(l.map F).Nodup
 |[],_,_=>BX
 |a::r,h,n=>by rw[AO] at n ⊢;obtain⟨n1,n2⟩:=Ax.mp n;refine Ax.mpr ⟨fun z=>?_,pG (fun x hx y hy=>h x (Ag _ hx) y (Ag _ hy)) n2⟩;obtain⟨y,hy,e⟩:=AY.mp z;have:=h y (Ag _ hy) a (An ..) e;exact n1 (this▸CD hy)
theorem ab2{r1 r2 p1 p2:Int}(h1:0≤p1)(h2:p1<B)(h3:0≤p2)(h4:p2<B)(e:r1*B+p1=r2*B+p2):p1=p2:=by
 have hB:B≠0:=by lia
 have a1:(r1*B+p1) % B=p1:=by rw[Int.add_comm,Dl];exact Int.emod_eq_of_lt h1 h2
 have a2:(r2*B+p2) % B=p2:=by rw[Int.add_comm,Dl];exact Int.emod_eq_of_lt h3 h4
 rw[<-a1,e,a2]
section
variable {w:World} 
theorem agq{g:Heap}{kvs:List Value}{kS a:Addr}{rk:Nat->Int}{ps:List (Nat×Tok)}{e1 e0:Nat}{P:PySem.Fin->Shared->Prop}(K:ig g f kx px scope kvs)(S:KeySc scope kx px)(hroom:A.depth<recursionLimit)(hn:g.get? kS=none)
 (hg:∀b o,g.get? b=some o->s.heap.get? b=some o) (hk:s.heap.get? kS=some (seqObj "list" #[] e0)) (ha:s.heap.get? a=some (seqObj "list" #[] e1)) (hka:kS≠a) (hz:ps.length≤100000)
 (hp:∀x∈ps,x.1<2 ^ 40/\∃t,kvs[x.1]?=some (.int (rk x.1) t)) (hB:∀x∈ps,((x.1:Nat):Int)<B) (nd:(ps.map (·.1)).Nodup)
 (h:∀h' tk (qs:List (Nat×Tok)) c,(∀b o,b≠kS->b≠a->s.heap.get? b=some o->h'.get? b=some o)->h'.get? a=some (seqObj "list" (qs.map itV).toArray c)->qs.Perm ps->(qs.Pairwise fun x y=>rk x.1*B+(x.1:Int)≤rk y.1*B+(y.1:Int))->P (.done (.ret .none)) { s with heap:=h',toks:=tk }):
 wpAny (model prog w) A (ksk_rest a (.ref f) false (ps.map itV).toArray e1 (.ref kS)) P E s:=by
 have big:(100000:Nat)+1≤sizeLine:=by rw[sizeLine_eq];exact CI _ _
 unfold ksk_rest;refine Aa (Bv ?_);rw[List.forIn_toArray];refine Aa (aaf (rk:=rk) K S hroom hn (fun x s' Q' hx=>?_) ps [] e0 s _ hg hk (by simpa using hz) hp fun h' tk ks e' keep hk' kv=>?_)
 ·refine Aa (wpAny_attempt (A2 hx (fun k s'' hk=>?_) fun _ _ hF=>hF.elim))
  try dsimp only
  exact Aa (A2 hk (fun _ s3 q=>Ai q) fun _ _ e=>e)
 ·try dsimp only
  rw[Ci] at hk';refine Aa (listItems_at (s:={ s with heap:=h',toks:=tk }) hk' rfl ?_);have ha':h'.get? a=some (seqObj "list" #[] e1):=keep _ _ (AK hka) ha;have len:ks.length=ps.length:=kv.len;obtain⟨T,eT⟩:∃T,T=ks.zip ps:=⟨_,rfl⟩;have kT:∀t∈T,agd h' kS rk t.1 t.2:=fun t ht=>kv.mem t (eT▸ht);have e2:T.map (·.2)=ps:=by rw[eT];exact List.map_snd_zip (by lia)
  have ez:ks.zip (ps.map itV)=T.map fun t=>(t.1,itV t.2):=by rw[eT,List.zip_map_right];rfl
  have mp:∀t∈T,t.2∈ps:=fun t ht=>by rw[<-e2];exact CD ht
  have nT:∀t∈T,wJ h' B (t.1,itV t.2)=rk t.2.1*B+(t.2.1:Int):=fun t ht=>by obtain⟨b,tt,u,x1,x2,x3⟩:=kT t ht;exact t9 x1 x3 rfl
  have hB0:∀x∈ps,(0:Int)≤((x.1:Nat):Int):=fun _ _=>by exact Bf _
  have inj:((ks.zip (ps.map itV)).map (wJ h' B)).Nodup:=by
   rw[ez,BC];have e4:T.map (wJ h' B∘fun t=>(t.1,itV t.2))=(T.map (·.2)).map fun x:Nat×Tok=>rk x.1*B+(x.1:Int):=by rw[BC];exact List.map_congr_left fun t ht=>nT t ht
   rw[e4,e2];refine pG (G:=fun x:Nat×Tok=>x.1) (fun x hx y hy e=>?_) nd;have:=ab2 (hB0 x hx) (hB x hx) (hB0 y hy) (hB y hy) e;lia
  refine akc (s:={ s with heap:=h',toks:=tk }) (vs:=ps.map itV) (ks:=ks) (B:=B) hk' ha' hka (by rw[Ae];exact len) (by rw[Ae];exact vQ) (fun v hv=>?_) inj fun h2 tk2 xs c keep2 hc pm pw=>?_
  ·obtain⟨j,hj⟩:=De hv;have hjl:j<ps.length:=by rw[<-len];exact(A1.mp hj).1
   have hm:(v,ps[j])∈T:=by rw[eT];refine List.mem_iff_getElem?.mpr ⟨j,?_⟩;rw[Ds];exact⟨hj,Aj hjl⟩
   obtain⟨b,tt,u,x1,x2,x3⟩:=kT _ hm;have x1:v=.ref b:=x1;exact⟨b,_,_,_,_,tt,u,x1,x3,rfl,rfl,by exact Bf _,hB _ (mp _ hm)⟩
  ·rw[ez] at pm;obtain⟨T',pT,eT'⟩:=zH _ pm rfl;subst eT';have mT:∀t,t∈T'->t∈T:=fun t=>pT.mem_iff.mp;refine h h2 tk2 (T'.map (·.2)) c (fun b o n1 n2 e=>?_) ?_ ?_ ?_
   ·rw[keep2 b n1 n2];exact keep b o n1 e
   ·rw[hc,BC,BC];rfl
   ·rw[<-e2];exact pT.map _
   ·refine Cq.mpr (List.Pairwise.imp_of_mem (fun {x y} hx hy z=>?_) (Cq.mp pw));rw[nT x (mT x hx),nT y (mT y hy)] at z;exact z
theorem w_sortedK{kvs:List Value}{rk:Nat->Int}{ps:List (Nat×Tok)}(K:ig s.heap f kx px scope kvs)(S:KeySc scope kx px)(hroom:A.in1.in1.depth<recursionLimit)
 (hl:s.heap.IsList l (ps.map itV).toArray) (hz:ps.length≤100000)
 (hp:∀x∈ps,x.1<2 ^ 40/\∃t,kvs[x.1]?=some (.int (rk x.1) t)) (hB:∀x∈ps,((x.1:Nat):Int)<B) (nd:(ps.map (·.1)).Nodup)
 (h:∀h' tk (qs:List (Nat×Tok)) D c,s.heap.objs.size≤D->(∀b o,s.heap.get? b=some o->h'.get? b=some o)->h'.get? D=some (seqObj "list" (qs.map itV).toArray c)->qs.Perm ps->(qs.Pairwise fun x y=>rk x.1*B+(x.1:Int)≤rk y.1*B+(y.1:Int))->Q (.ref D) { s with heap:=h',toks:=tk }):
 wpAny (model prog w) A (call (.builtin "sorted") [.ref l] [(Str.ofString "key",.ref f)]) Q E s:=by
 have big:(100000:Nat)+1≤sizeLine:=by rw[sizeLine_eq];lia
 have hlen:(ps.map itV).length≤100000:=by rw[Ae];exact hz
 refine call_function_entry_kw kind_sorted plain_sorted entry_sorted (ksk_s1 _ _) ?_;unfold Builtin.«sorted»;refine Aa (m:=checkCount "sorted" 1 1 _) (Ai ?_);refine Aa (collect_list hl ?_ (by exact vQ));refine Aa (wpAny_newList ?_ (by lia));obtain⟨g1,eg⟩:∃g1,g1=(s.heap.push (seqObj "list" #[] 0)).update s.heap.objs.size (Obj.mapSeq (· ++ (ps.map itV).toArray)):=⟨_,rfl⟩;have gs:g1.objs.size=s.heap.objs.size+1:=by rw[eg,Heap.size_update,size_push']
 have gk:∀b o,s.heap.get? b=some o->g1.get? b=some o:=fun b o q=>by have hlt:b<s.heap.objs.size:=Heap.lt_size q;rw[eg,Heap.get?_update_ne _ _ _ _ (A9 hlt)];exact Heap.get?_push_of_some _ q
 show wpAny _ _ _ _ _ { s with heap:=((s.heap.push (seqObj "list" #[] 0)).update s.heap.objs.size (Obj.mapSeq (· ++ (ps.map itV).toArray))).push (seqObj "list" (ps.map itV).toArray 0) };rw[<-eg];have hoD:(g1.push (seqObj "list" (ps.map itV).toArray 0)).get? g1.objs.size=some (seqObj "list" (ps.map itV).toArray 0):=Heap.get?_push_size _ rfl;have keep:∀b o,s.heap.get? b=some o->(g1.push (seqObj "list" (ps.map itV).toArray 0)).get? b=some o:=fun b o q=>Heap.get?_push_of_some _ (gk b o q);refine Aa (Bg (wpAny_call_entry_kw slot_list_sort ⟨_,hoD,rfl⟩ entry_list_sort ?body (ksk_l1 _ _)))
 case body=>
  obtain⟨D,eD⟩:∃D,D=g1.objs.size:=⟨_,rfl⟩;rw[<-eD] at hoD ⊢;show wpAny (model prog w) A.in1.in1 (Builtin.«list.sort» ⟨[.ref D],[(Str.ofString "key",.ref f)]⟩) _ _ _;rw[ksk_t1];obtain⟨g2,eg2⟩:∃g2,g2=g1.push (seqObj "list" (ps.map itV).toArray 0):=⟨_,rfl⟩;rw[<-eg2] at hoD keep ⊢;have s1:=Heap.SameBut.update g2 D (Obj.mapSeq fun _=>(#[]:Array Value));obtain⟨e1,ho1⟩:∃e1,(g2.update D (Obj.mapSeq fun _=>(#[]:Array Value))).get? D=some (seqObj "list" #[] e1):=⟨_,get?_update_seq hoD fun _=>#[]⟩;have nD:∀b o,s.heap.get? b=some o->b≠D:=fun b o q z=>by have hlt:b<s.heap.objs.size:=Heap.lt_size q;rw[z,eD,gs] at hlt;exact Nat.not_succ_lt_self hlt
  unfold ksk_tree;refine Aa (listItems_at (s:={ s with heap:=g2 }) hoD rfl ?_);refine Aa (listUpdate_at (s:={ s with heap:=g2 }) hoD rfl ?_ (by rw[Am];exact vQ) (Bm _));refine Aa (seqEpoch_at ho1 rfl ?_);refine Aa (wpAny_newTuple ?_ (by show(ps.map itV).length≤_;lia));refine Aa (wpAny_newList ?_ (Bm _));refine Bg ?_;obtain⟨g3,eg3⟩:∃g3,g3=(g2.update D (Obj.mapSeq fun _=>(#[]:Array Value))).push (seqObj "tuple" (ps.map itV).toArray 0):=⟨_,rfl⟩;have k3:∀b o,s.heap.get? b=some o->g3.get? b=some o:=fun b o q=>by rw[eg3];exact Heap.get?_push_of_some _ ((s1.2 b (nD b o q)).trans (keep b o q))
  have d3:g3.get? D=some (seqObj "list" #[] e1):=by rw[eg3];exact Heap.get?_push_of_some _ ho1
  show wpAny (model prog w) A.in1.in1 (ksk_rest D (.ref f) false (ps.map itV).toArray _ (.ref ((g2.update D (Obj.mapSeq fun _=>(#[]:Array Value))).push (seqObj "tuple" (ps.map itV).toArray 0)).objs.size)) _ _ { s with heap:=((g2.update D (Obj.mapSeq fun _=>(#[]:Array Value))).push (seqObj "tuple" (ps.map itV).toArray 0)).push (seqObj "list" #[] 0) };rw[<-eg3];have hkS:(g3.push (seqObj "list" #[] 0)).get? g3.objs.size=some (seqObj "list" #[] 0):=Heap.get?_push_size _ rfl;refine agq (s:={ s with heap:=g3.push (seqObj "list" #[] 0) }) (g:=s.heap) (kS:=g3.objs.size) (a:=D) (rk:=rk) (B:=B) K S hroom (Heap.get?_none_of_le ?_) (fun b o q=>Heap.get?_push_of_some _ (k3 b o q)) hkS (Heap.get?_push_of_some _ d3) ?_ hz hp hB nd fun h' tk qs c kp hD pm pw=>?_
  ·have l1:g3.objs.size=g1.objs.size+2:=by rw[eg3,size_push',Heap.size_update,eg2,size_push']
   rw[l1,gs];exact AU (BS _) (A4 _ 2)
  ·exact(A9 (Heap.lt_size d3)).symm
  ·refine⟨_,rfl,Ai ⟨_,rfl,h h' tk qs D c (by rw[eD,gs];exact BS _) (fun b o q=>?_) hD pm pw⟩⟩;exact kp b o (A9 (Heap.lt_size (k3 b o q))) (nD b o q) (Heap.get?_push_of_some _ (k3 b o q))
end
end TS
namespace L2
open PySem PySem.Spec PyProof.Rows
theorem oF{i j:Int}{t u:Tok}{c:Value}(l:List Value)(h:TriplesOk l):TriplesOk (l++[.int i t,.int j u,c]):=by
 fun_induction TriplesOk l with
 |case1=>trivial
 |case2 _ _ _ _ _ rest ih=>exact ih h
 |case3=>exact h.elim
theorem sj{i j:Int}{t u:Tok}{c cv:Value}(l:List Value)(h:TriplesOk l)(e:codeAmong pos (l++[.int i t,.int j u,c])=some cv):codeAmong pos l=some cv\/cv=c:=by
 fun_induction TriplesOk l with
 |case1=>
  right;have e:(if i==pos.line&&j==pos.col then some c else none)=some cv:=e;split at e
  ·cases e;rfl
  ·cases e
 |case2 a _ b _ d rest ih=>
  have e:(if a==pos.line&&b==pos.col then some d else codeAmong pos (rest++[.int i t,.int j u,c]))=some cv:=e;show(if a==pos.line&&b==pos.col then some d else codeAmong pos rest)=some cv\/cv=c;split at e
  ·rename_i z;rw[AA z];exact .inl e
  ·rename_i z;rw[Ay z];exact ih h e
 |case3=>exact h.elim
structure wX(K:Ah)(cdv:Value)(P:Addr):Prop where
 ex:∃c oc,cdv=.ref c/\K.lookup c=some oc/\∀h:Heap,h.get? c=some oc->PySem.W.CodeHd h c P
 bm:∃bm ob,PySem.W.nsIn K mainGlobals "__builtins__" = some (some (.ref bm))/\bm≠builtinsNs/\bm≠mainGlobals/\K.lookup bm=some ob/\ob.cls=.type "module" /\ ob.dict=some builtinsNs/\ob.data=.plain
theorem qN:∀{l:List Nat} {us:List Value},ze (l.map fun i:Nat=>V.int (0+(i:Int))) us->∃ps:List (Nat×Tok),us=ps.map TS.itV/\ps.map (·.1)=l
 |[],_,.nil=>⟨[],rfl,rfl⟩
 |i::r,_,.cons (b:=u) h t=>by obtain⟨ps,e1,e2⟩:=qN (l:=r) t;obtain⟨tk,e3⟩:=(show ∃tk,u=Value.int (0+(i:Int)) tk from h);refine⟨(i,tk)::ps,?_,by rw[AO,e2]⟩;rw[AO,e1,e3];show _=Value.int (i:Int) tk::_;rw[CA]
theorem rL:∀ps:List (Nat×Tok),ze (ps.map fun x=>V.int ((x.1:Nat):Int)) (ps.map TS.itV)
 |[]=>.nil
 |x::r=>.cons ⟨x.2,rfl⟩ (rL r)
def aga(P:Addr)(q:Str)(ik:Nat)(te:TE):TE:=fun σ H Q=>te σ H fun v H1=>∃l kk,∃n:Nat,∃rks:List Int,v=.ref l/\H1 l=some (.lst ((List.range n).map fun i:Nat=>V.int (0+(i:Int))))/\σ[ik]?=some (some (.ref kk))/\H1 kk=some (.lst (rks.map V.int))/\rks.length=n/\n≤1000/\oo H1 P q/\
 ∀H2 D (qs:List Nat),(∀b u,b≠P->H1 b=some u->H2 b=some u)->oo H2 P q->H1 D=none->D≠P->H2 D=some (.lst (qs.map fun i:Nat=>V.int (i:Int)))->qs.Perm (List.range n)->(qs.Pairwise fun i j=>rks.getD i 0*1000000+(i:Int)≤rks.getD j 0*1000000+(j:Int))->Q (.ref D) H2
section
theorem wC{kk cell c':Addr}{params:Arguments}{ctv:Value}{Q:VK}(I:z0 X pins σ H s)(S:TS.KeySc lscope kx px)(hr:X.A.depth+3<recursionLimit)
 (hf:s.heap.get? f=some (PySem.W.kla_obj name qual params (TS.keyBody kx px p1 p2 p3 p4 p5 x1) lscope [(kx,cell)] pm c' ctv)) (hcd:s.heap.CodeRec (.ref c') qual) (hcell:s.heap.IsCell cell (some (.ref kk)))
 (hb:∀v:Value,bindArgs (PySem.W.kla_fn name qual params (TS.keyBody kx px p1 p2 p3 p4 p5 x1) lscope [(kx,cell)] pm (.ref c') ctv) ⟨[v],[]⟩=pure [(px,v)])
 (hl:H l=some (.lst ((List.range n).map fun i:Nat=>V.int (0+(i:Int))))) (hk:H kk=some (.lst (rks.map V.int))) (hn:rks.length=n) (hz:n≤1000)
 (q:∀D (qs:List Nat),H D=none->qs.Perm (List.range n)->(qs.Pairwise fun i j=>rks.getD i 0*1000000+(i:Int)≤rks.getD j 0*1000000+(j:Int))->Q (.ref D) (upd H D (.lst (qs.map fun i:Nat=>V.int (i:Int))))):
 wpAny (model X.prog X.w) X.A (call (.builtin "sorted") [.ref l] [(Str.ofString "key",.ref f)]) (EP X pins σ Q) X.xe s:=by
 obtain⟨its,rv,pl,_⟩:=I.list (ET hl);obtain⟨kits,rk,pk,_⟩:=I.list (ET hk);obtain⟨ps,rfl,eps⟩:=qN rv;have lk:kits.length=n:=by rw[<-rk.length,Ae,hn]
 have lp:ps.length=n:=by have:=BM List.length eps;rwa[Ae,BO] at this
 have big:(100000:Nat)≤sizeLine:=by decide
 refine jm I.tk (TS.w_sortedK (rk:=fun i=>rks.getD i 0) (B:=1000000) (kvs:=kits) ⟨⟨name,qual,params,p1,p2,p3,p4,p5,x1,pm,ctv,c',cell,kk,hf,hcd,hcell,pk.isList,hb⟩,I.nolimit⟩ S ?_ pl.isList (by lia) (fun x hx=>?_) (fun x hx=>?_) ?_ fun h' tk qs D c hD keep hg pm' pw ht=>?_)
 ·show X.A.depth<recursionLimit;lia
 ·have hx1:x.1∈List.range n:=by rw[<-eps];exact CD hx
  have hx2:=Bc.mp hx1;refine⟨by lia,?_⟩;have e1:(rks.map V.int)[x.1]?=some (V.int (rks.getD x.1 0)):=by rw[Ap,Aj (by lia),Bi,Aj (by lia)];rfl
  obtain⟨u,e2,r2⟩:=Words.Paired.getP rk e1;obtain⟨t,rfl⟩:=(show ∃t,u=Value.int (rks.getD x.1 0) t from r2);exact⟨t,e2⟩
 ·have hx1:x.1∈List.range n:=by rw[<-eps];exact CD hx
  have hx2:=Bc.mp hx1;omega
 ·rw[eps];exact BU
 ·have hfr:H D=none:=I.hok.fresh hD;refine⟨.ref D,_,I.laid (t':=tk) (o:=.lst ((qs.map (·.1)).map fun i:Nat=>V.int (i:Int))) keep hD ?_,rfl,q D (qs.map (·.1)) hfr ?_ ?_⟩
  ·refine⟨?_,qs.map TS.itV,c,?_,hg⟩
   ·rw[Ae,Ae,pm'.length_eq];lia
   ·rw[BC];exact rL qs
  ·rw[<-eps];exact pm'.map _
  ·exact Cq.mpr pw
end
section
theorem z0.tabbed{P c':Addr}{ps more:Array Value}{oc fo:Obj}{tk:Nat}(I:z0 X pins σ H s)(hP:H P=some (.tbl ps))(hx:Heap.ExtBut P s.heap h')(htb:h'.get? P=some (PySem.W.tabObj (ps++more)))
 (hc:s.heap.objs.size≤c') (hoc:h'.get? c'=some oc) (ht:0<tk):z0 X pins σ (upd (upd H P (.tbl (ps++more))) c' (.frz oc (.own 0))) { s with heap:=h'.push fo,toks:=tk }:=by
 have nc:H c'=none:=I.hok.fresh hc;have nP:∀b,H b=none->b≠P:=fun b e z=>by rw[z,hP] at e;cases e
 have nC:∀b u,H b=some u->b≠c':=fun b u e z=>by rw[z,nc] at e;cases e
 have oldC:∀b o,s.heap.get? b=some o->b≠c':=fun b o e=>A9 (AM (Heap.lt_size e) hc);have kp:∀b o,b≠P->s.heap.get? b=some o->(h'.push fo).get? b=some o:=fun b o n e=>Heap.get?_push_of_some _ (hx b o n e);have nPt:∀b u,H b=some u->(∀ps,u≠.tbl ps)->b≠P:=fun b u e d z=>by rw[z,hP] at e;cases e;exact d _ rfl
 refine I.step (ch:=[]) (g':=s.gens) (d':=s.drawn) (t':=tk) (fun _ z=>nomatch z) (fun b o _ _ _ e n=>kp b o (nP b n) e) (fun b o _ _ _ e n=>⟨o.slots,kp b o (nP b n) e⟩) (fun b o _ e n=>?_) (fun b o _ e=>?_) (fun b xs e=>?_) (fun b o u e=>?_) (fun b qs e=>?_) (fun m hm=>?_) (fun b u e=>?_) I.bare ht
 ·rw[qu (oldC b o e),qu (nP b n)];exact n
 ·by_cases c:b=P
  ·subst c;exact⟨_,Heap.get?_push_of_some _ htb⟩
  ·exact⟨o,kp b o c e⟩
 ·rw[qu (nC b _ e),qu (nPt b _ e fun _ z=>by cases z)];exact e
 ·rw[qu (nC b _ e),qu (nPt b _ e fun _ z=>by cases z)];exact e
 ·rw[qu (nC b _ e)];by_cases c:b=P
  ·subst c;rw[hP] at e;cases e;exact⟨more,zv⟩
  ·rw[qu c];exact⟨#[],by rw[e];simp⟩
 ·exact(hm.extBut hx (nP _ I.free)).push _
 ·by_cases c:b=c'
  ·subst c;rw[zv] at e;cases e;exact⟨Heap.get?_push_of_some _ hoc,_,Heap.get?_push_of_some _ hoc⟩
  ·rw[qu c] at e;by_cases d:b=P
   ·subst d;rw[zv] at e;cases e;exact Heap.get?_push_of_some _ htb
   ·rw[qu d] at e;refine(I.hok b u e).stay (fun a v ha r=>kp a v ?_ r) (fun a r=>?_) (fun a xs r=>?_)
    ·rcases ha with rfl | ha
     ·exact d
     ·exact nPt a _ ha fun _ z=>by cases z
    ·rw[qu (nC a _ r),qu (nPt a _ r fun _ z=>by cases z)];exact r
    ·rw[qu (nC a _ r),qu (nPt a _ r fun _ z=>by cases z)];exact r
theorem yk{te:TE}{params:Arguments}{lpos:Pos}{ik:Nat}{P:Addr}(hg:Gl X "sorted")(hm:X.mg "sorted" = none)(he:PE X e te)(S:TS.KeySc lscope kx px)(C:wX X.K X.env.code P)(hr:X.A.depth+3<recursionLimit)
 (hq:X.env.qual ++ "<lambda>" = q) (hix:X.N[ik]?=some kx) (hck:X.env.scope.names.lookup kx=some .cell) (hclo:∃cell,X.env.cells.lookup kx=some cell/\closureFor lscope X.env=pure [(kx,cell)])
 (hdef:defaultsOf params X.env=([],[])) (hb:∀(name qual:Str) (cl:List (Str×Addr)) (pm cd ct v:Value),bindArgs (PySem.W.kla_fn name qual params (TS.keyBody kx px p1 p2 p3 p4 p5 x1) lscope cl pm cd ct) ⟨[v],[]⟩=pure [(px,v)])
 (h1:starEach [e] X.env=(false,eval e X.env)::starEach [] X.env:=by rfl) (h2:(backTo pos (starEach [e] X.env)).any (·.1)=false:=by rfl)
 (h3:backTo pos (starEach [e] X.env)=(false,eval e X.env)::backTo pos (starEach [] X.env):=by rfl):
 PE X (.Call (.Name "sorted" p) [e] [⟨some "key",.Lambda params (TS.keyBody kx px p1 p2 p3 p4 p5 x1) lscope lpos,kpos⟩] pos) (aga P q ik te):=by
 intro pins s σ H Q I h;refine wpAny_Call_Name_kw (bR I hg hm (by decide +kernel:bootBuiltins "sorted" = some (.builtin "sorted")) ?_ (by decide) (by decide));refine PyProof.Rows.callWith_kw ?_ h3 h2;rw[h3];refine Calls.spliced_cons (xj (he pins s σ H _ I h) fun v s1 ⟨x,H1,I1,rx,l,kk,n,rks,ev,hl,hs,hk,hn,hz,T,qq⟩=>?_);refine Calls.spliced_nil ?_;subst ev;cases (show v=Value.ref l from rx);show wpAny _ _ (evalAll ((do let v <-eval (.Lambda params (TS.keyBody kx px p1 p2 p3 p4 p5 x1) lscope lpos) X.env;standAt pos;pure v)::[])) _ _ s1;refine wpAny_evalAll_cons (Aa ?_);obtain⟨cell,ecell,eclo⟩:=hclo;obtain⟨c,oc0,ecd,lc,hC⟩:=C.ex;obtain⟨bm,ob,b1,b2,b3,b4,b5,b6,b7⟩:=C.bm;obtain⟨tps,tP,tok,tall⟩:=T;have hgs:s1.heap.Ns mainGlobals X.mg:=I1.ok.mod.glob.keeps I1.bk;have hPo:s1.heap.get? P=some (PySem.W.tabObj tps):=I1.hok P _ tP;have Chd:PySem.W.CodeHd s1.heap c P:=hC _ (I1.kIn c oc0 lc);have baseNe:∀b o,X.base.get? b=some o->b≠P:=fun b o e z=>by have:=(I1.bs b o e).2;rw[z,tP] at this;cases this
 have hbmB:=I1.ok.mod.kin bm ob b4;have hB:s1.heap.BuiltinsAt X.mg P:=⟨bm,ob,Ck I1.ok.mod.kin I1.ok.mod.glob b1,b2,b3,baseNe _ _ hbmB,(I1.bs _ _ hbmB).1,b5,b6,b7⟩;have hgP:mainGlobals≠P:=by obtain⟨o,es,ep,e,hd,_⟩:=I1.ok.mod.glob;exact baseNe _ _ e
 have hcell:s1.heap.IsCell cell (some (.ref kk)):=by
  obtain⟨m,_,hl'⟩:=I1.loc;obtain⟨u,ru,lk⟩:=hl' ik kx _ hix hs (.inr (.inl hck));cases (show u=Value.ref kk from ru);rcases lk with⟨k1,_⟩ | ⟨_,c2,e2,hc2⟩
  ·have k1:X.env.scope.names.lookup kx=some .local:=k1;rw[hck] at k1;cases k1
  ·rw[ecell] at e2;cases e2;exact hc2
 refine PySem.W.kla_eval hdef ?_;rw[hq];have js:∀(s2:Shared) (H2:Hp) (f c':Addr) (ctv pm:Value),z0 X pins σ H2 s2->s2.heap.get? f=some (PySem.W.kla_obj "<lambda>" q params (TS.keyBody kx px p1 p2 p3 p4 p5 x1) lscope [(kx,cell)] pm c' ctv)->s2.heap.CodeRec (.ref c') q->s2.heap.IsCell cell (some (.ref kk))->
  (∀b u,b≠P->H1 b=some u->H2 b=some u)->oo H2 P q->(∀b,H2 b=none->H1 b=none)->
  wpAny (model X.prog X.w) X.A (do standAt pos;pure (Value.ref f)) (fun v s'=>wpAny (model X.prog X.w) X.A (evalAll []) (fun vs s''=>wpAny (model X.prog X.w) X.A (call (.builtin "sorted") [.ref l] ([Str.ofString "key"].zip (v::vs))) (EP X pins σ Q) X.xe s'') X.xe s') X.xe s2:=by
  intro s2 H2 f c' ctv pm I2 g1 g2 g3 g4 g5 g6;refine Aa (wpAny_standAt (Ai (wpAny_evalAll_nil ?_)));have lP:l≠P:=fun z=>by rw[z,tP] at hl;cases hl
  have kP:kk≠P:=fun z=>by rw[z,tP] at hk;cases hk
  refine wC (n:=n) (rks:=rks) I2 S hr g1 g2 g3 (fun v=>hb _ _ _ _ _ _ v) (g4 _ _ lP hl) (g4 _ _ kP hk) hn hz fun D qs hD pm' pw=>?_;have nDP:D≠P:=fun z=>by obtain⟨ps2,e2,_⟩:=g5;rw[z,e2] at hD;cases hD
  refine qq _ D qs (fun b u n e=>?_) ?_ (g6 D hD) nDP zv pm' pw
  ·rw[qu (zp (g4 b u n e) hD)];exact g4 b u n e
  ·exact g5.keep (qu (AK nDP)) fun b o u e=>by rw[qu (zp e hD)];exact e
 cases hf:codeAmong lpos tps.toList with
 |some cv=>
  obtain⟨c',oc,vs,t,ecv,f1,f2,f3⟩:=tall lpos cv hf;subst ecv;refine jm I1.tk (PySem.W.kla_makeFunctionHit (mg:=X.mg) eclo I1.ok.glob hgs ecd Chd hPo tok hf hB fun ctv h' tk hk' hsz ht=>?_);have I2:z0 X pins σ H1 { s1 with heap:=h'.push { cls:=.type "function",data:=.func (PySem.W.kla_fn "<lambda>" q params (TS.keyBody kx px p1 p2 p3 p4 p5 x1) lscope [(kx,cell)] ((X.mg "__name__").getD .none) (.ref c') ctv) },toks:=tk }:=I1.kept (t':=tk) fun b o e=>Heap.get?_push_of_some _ (hk' b o e);obtain⟨hoc,_⟩:=I2.hok c' _ f1;refine js _ H1 _ c' ctv _ I2 (Heap.get?_push_size _ rfl) ⟨c',oc,vs,t,rfl,hoc,f2,f3⟩ ?_ (fun b u _ e=>e) ⟨tps,tP,tok,tall⟩ (fun b e=>e);obtain⟨o,e1,e2⟩:=hcell;exact⟨o,Heap.get?_push_of_some _ (hk' _ _ e1),e2⟩
 |none=>
  refine jm I1.tk (PySem.W.kla_makeFunction (mg:=X.mg) eclo I1.ok.glob hgs ecd Chd hPo tok hf hgP hB fun c' ctv h' tk hx hge hlt hrec htb ht=>?_);obtain⟨c2,oc,vs,t,e2,hoc,f2,f3⟩:=hrec;cases e2;have I2:=I1.tabbed (fo:=PySem.W.kla_obj "<lambda>" q params (TS.keyBody kx px p1 p2 p3 p4 p5 x1) lscope [(kx,cell)] ((X.mg "__name__").getD .none) c' ctv) tP hx htb hge hoc ht;have nc:H1 c'=none:=I1.hok.fresh hge;have cP:c'≠P:=fun z=>by rw[z,tP] at nc;cases nc
  refine js _ _ _ c' ctv _ I2 (Heap.get?_push_size _ rfl) ⟨c',oc,vs,t,rfl,Heap.get?_push_of_some _ hoc,f2,f3⟩ ?_ (fun b u n e=>?_) ?_ (fun b e=>?_)
  ·obtain⟨o,e1,e2⟩:=hcell;have nP:cell≠P:=fun z=>by have:=I1.freeC kx cell ecell;rw[z,tP] at this;cases this
   exact⟨o,Heap.get?_push_of_some _ (hx _ _ nP e1),e2⟩
  ·rw[qu (zp e nc),qu n];exact e
  ·refine⟨tps++#[rawInt lpos.line,rawInt lpos.col,.ref c'],by rw[qu (AK cP),zv],?_,fun pos' cv z=>?_⟩
   ·rw[A7];exact oF _ tok
   ·rw[A7] at z;rcases sj _ tok z with z | z
    ·obtain⟨d',od,vs',t',k1,k2,k3⟩:=tall pos' cv z;have nP:d'≠P:=fun z=>by rw[z,tP] at k2;cases k2
     exact⟨d',od,vs',t',k1,by rw[qu (zp k2 nc),qu nP];exact k2,k3⟩
    ·exact⟨c',oc,vs,t,z,zv,f2,f3⟩
  ·by_cases d:b=c'
   ·subst d;exact nc
   ·rw[qu d] at e;by_cases d2:b=P
    ·subst d2;rw[zv] at e;cases e
    ·rw[qu d2] at e;exact e
end
end L2
namespace L3
open PySem L2
def zA(Pt:Addr)(q:Str)(ik:Nat)(te:x5)(τ:jk)(L:ql)(Q:YK):Prop:=te τ L fun y L1=>match y with
 |.ref l=>bP L1 l fun ys=>∃(n:Nat) (rks:List Int) (kk:Addr),ys=aC 0 n/\wS τ ik=some (.ref kk)/\L1 kk=some (.lst (rks.map Y.int))/\rks.length=n/\n≤1000/\L1 Pt=some (.tb q)/\
  ∀(D:Addr) (qs:List Nat),L1 D=none->qs.Perm (List.range n)->(qs.Pairwise fun i j=>rks.getD i 0*1000000+(i:Int)≤rks.getD j 0*1000000+(j:Int))->Q (.ref D) (qf L1 D (.lst (qs.map fun i:Nat=>Y.int (i:Int))))
 |_=>False
theorem mR{G:G3}{H:Hp}:∀{l:List Nat} {xs:List V},x4 G H (l.map fun i:Nat=>Y.int (0+(i:Int))) xs->xs=l.map fun i:Nat=>V.int (0+(i:Int))
 |[],_,h=>h
 |_::_,_,⟨x,xs',e,r,s⟩=>by subst e;cases r;rw[mR s];rfl
theorem fJ{G:G3}{H:Hp}:∀{l:List Int} {xs:List V},x4 G H (l.map Y.int) xs->xs=l.map V.int
 |[],_,h=>h
 |_::_,_,⟨x,xs',e,r,s⟩=>by subst e;cases r;rw[fJ s];rfl
theorem sC{G:G3}{H:Hp}:∀qs:List Nat,x4 G H (qs.map fun i:Nat=>Y.int (i:Int)) (qs.map fun i:Nat=>V.int (i:Int))
 |[]=>rfl
 |_::r=>⟨_,_,rfl,rfl,sC r⟩
theorem zI{params:Arguments}{lpos:Pos}{ik:Nat}(hg:Gl X "sorted")(hm:X.mg "sorted" = none)(he:QE X e te)(S:TS.KeySc lscope kx px)(C:wX X.K X.env.code Pt)(hr:X.A.depth+3<recursionLimit)
 (hq:X.env.qual ++ "<lambda>" = q) (hix:X.N[ik]?=some kx) (hck:X.env.scope.names.lookup kx=some .cell) (hclo:∃cell,X.env.cells.lookup kx=some cell/\closureFor lscope X.env=pure [(kx,cell)])
 (hdef:defaultsOf params X.env=([],[])) (hb:∀(name qual:Str) (cl:List (Str×Addr)) (pm cd ct v:Value),bindArgs (PySem.W.kla_fn name qual params (TS.keyBody kx px p1 p2 p3 p4 p5 x1) lscope cl pm cd ct) ⟨[v],[]⟩=pure [(px,v)])
 (h1:starEach [e] X.env=(false,eval e X.env)::starEach [] X.env:=by rfl) (h2:(backTo pos (starEach [e] X.env)).any (·.1)=false:=by rfl)
 (h3:backTo pos (starEach [e] X.env)=(false,eval e X.env)::backTo pos (starEach [] X.env):=by rfl):
 QE X (.Call (.Name "sorted" p) [e] [⟨some "key",.Lambda params (TS.keyBody kx px p1 p2 p3 p4 p5 x1) lscope lpos,kpos⟩] pos) (zA Pt q ik te):=
 DZ (yk hg hm he S C hr hq hix hck hclo hdef hb h1 h2 h3) fun σ H Q ⟨τ,L,Q3,rs,rl,z,k⟩=>by
  refine⟨τ,L,_,rs,rl,z,fun v H1 y L1 t1 rl1 rv z=>?_⟩;cases y with
  |ref l=>
   obtain⟨ys,e1,n,rks,kk,rfl,e2,e3,hn,hz,eP,qq⟩:=jy z;cases rv;obtain⟨xs,h1,r1⟩:=rl1 l _ e1;obtain⟨xk,h2,r2⟩:=rl1 kk _ e3;have T:oo H1 Pt q:=rl1 Pt _ eP;cases mR r1;cases fJ r2;obtain⟨v,hv,rv⟩:=rs.get ik _ (nN _ _ e2);cases rv;refine⟨l,kk,n,rks,rfl,h1,hv,h2,hn,hz,T,fun H2 D qs kp T2 hD nDP hD2 pm pw=>?_⟩;have tb:∃ps,H1 Pt=some (.tbl ps):=let ⟨ps,e,_⟩:=T;⟨ps,e⟩;have t2:j4 H1 H2:=fun a u i h=>kp a u (fun c=>by obtain⟨ps,e⟩:=tb;rw[c,e] at h;cases h;cases i) h
   refine k _ _ _ _ (t1.trans t2) (fun a u e=>?_) (by rfl) (qq D qs (rl1.none hD) pm pw);by_cases c:a=D
   ·subst c;rw[q9] at e;cases e;exact⟨_,hD2,sC qs⟩
   ·rw[qa c] at e;by_cases d:a=Pt
    ·subst d;rw[eP] at e;cases e;exact T2
    ·obtain⟨x,hx⟩:=(rl1 a u e).ex;exact(rl1 a u e).keep t2 (by rw[hx];exact kp a x d hx)
  |_=>exact z.elim
structure ahz(K:Ah)(x qual:Str)(st:Stmt)(f:Addr)(fd:FuncData)(Pt:Addr):Prop where
 ex:∃(oc:Value) (od:Option Addr) (kV doc pm:Value) (an:Option Addr) (cdv ct:Value) (osl:Array (Option Value)),
  fd=PySem.W.fnOf x qual (xq st) (jh st) (qx st) .none kV doc pm an cdv ct/\K.lookup f=some ⟨oc,od,.func fd,osl⟩/\PySem.W.codeIn K cdv qual=true/\wX K cdv Pt
 kp:PySem.W.keepIn K (.ref f)=true
theorem anp{P:Program}{w:World}{K:Ah}{N:List Str}{k:Nat}{sp:ja}(F:ahz K x qual st f fd Pt)(S:aI N ps (qx st))(len:∀ys L Q,sp ys L Q->ys.length=ps.length)
 (hbody:∀(cdv:Value) (A:Around) (outer:List Env) (s:Shared) (H:Hp) (E:XK),wX K cdv Pt->wy k (A.deeper (PyProof.Rows.envOfC qual (qx st) s.heap.objs.size f cdv))->
  ∃t,sI (iL CX0 P w K mg base N qual (qx st) f cdv A outer s H E).nox (jh st) t/\∀ys L Q,sp ys L Q->t { nx:=fun _ L'=>eJ Q .non L',rt:=eJ Q } (gM N ys) L):Fn3 P w K mg base (k+1) f fd ps sp:=by
 obtain⟨oc,od,kV,doc,pm,an,cdv,ct,osl,rfl,lk,hcd,C⟩:=F.ex;have F0:Fun K x qual st f _:=⟨⟨oc,od,kV,doc,pm,an,cdv,ct,osl,rfl,lk,hcd⟩,F.kp⟩;refine afa lk hcd S (fun vs H Q E ⟨ys,L,Q3,rv,rl,z,_⟩=>by rw[<-rv.length];exact len ys L Q3 z) fun A outer s H vs Q E hr ⟨ys,L,Q3,rv,rl,z,k⟩=>?_;obtain⟨t,ht,q⟩:=hbody cdv A outer s H E C hr;refine⟨_,mD.nox ht,gM N ys,L,_,mx rv,rl,q ys L Q3 z,?_⟩;exact⟨fun σ H' τ L' t' rs' rl' ⟨L2,s2,q2⟩=>k .non H' .non L2 t' (rl'.sub s2) (by rfl) q2,fun v H' y L' t' rl' rv' ⟨L2,s2,q2⟩=>k v H' y L2 t' (rl'.sub s2) rv' q2,fun _ _ _ _ _ _ _ z=>z.elim,fun _ _ _ _ _ _ _ z=>z.elim⟩
def oh(Pt:Addr)(q:Str):ja:=fun ys L Q=>∃ns:List Int,ys=[.sq (ns.map Y.int)]/\ns.length≤63/\L=qf (fun _=>none) Pt (.tb q)/\∀L',Q (.bl true) L'
def spTopT(q:Str)(K:Ah)(Pt:Addr):Sp:=fun vs H Q _=>∃(a:Addr) (ns:List Int),vs=[.ref a]/\SqF K H a (ns.map V.int)/\ns.length≤63/\H Pt=some (.tbl #[])/\∀H',Q (.bl true) H'
theorem adv{vs:List V}{Q:VK}{E:XK}(h:spTopT q G.K Pt vs H Q E):dn G (oh Pt q) vs H Q E:=by
 obtain⟨a,ns,rfl,hs,hl,hP,z⟩:=h;refine⟨[.sq (ns.map Y.int)],qf (fun _=>none) Pt (.tb q),fun y _=>y=.bl true,x4.one ⟨a,_,rfl,hs,rK ns⟩,(fun b u e=>?_),⟨ns,rfl,hl,rfl,fun _=>rfl⟩,?_⟩
 ·by_cases c:b=Pt
  ·subst c;rw[q9] at e;cases e;exact⟨#[],hP,trivial,fun pos cv z=>by cases z⟩
  ·rw[qa c] at e;cases e
 ·rintro v H' y L' _ _ rv rfl;cases rv;exact z H'
end L3
namespace L2
open PySem PySem.Spec PyProof.Rows
def lessK(Pt:Addr):Ah->Ah
 |[]=>[]
 |(a,o)::r=>if a==Pt then lessK Pt r else(a,o)::lessK Pt r
theorem vo{Pt a:Addr}(h:a≠Pt):∀K:Ah,(lessK Pt K).lookup a=K.lookup a
 |[]=>rfl
 |(b,o)::r=>by
  unfold lessK;by_cases c:(b==Pt)=true
  ·rw[AA c,vo h r,Bs];have:(a==b)=false:=by have hb:=eq_of_beq c;subst hb;exact DM h
   rw[this]
  ·rw[Ay c,Bs,Bs,vo h r]
theorem wf{Pt:Addr}:∀K:Ah,(lessK Pt K).lookup Pt=none
 |[]=>rfl
 |(b,o)::r=>by
  unfold lessK;by_cases c:(b==Pt)=true
  ·rw[AA c];exact wf r
  ·rw[Ay c,Bs];have:(Pt==b)=false:=by cases d:Pt==b with|false=>rfl|true=>exact absurd (beq_iff_eq.mpr (eq_of_beq d).symm) c
   rw[this];exact wf r
theorem iw{a:Addr}{K:Ah}{o:Obj}(e:(lessK Pt K).lookup a=some o):a≠Pt/\K.lookup a=some o:=by
 by_cases c:a=Pt
 ·subst c;rw[wf] at e;cases e
 ·rw[vo c] at e;exact⟨c,e⟩
theorem lessK_in{K:Ah}(X:K.In h):(lessK Pt K).In h:=fun a o e=>X a o (iw e).2
structure afk(K:Ah)(Pt:Addr):Prop where
 tab:K.lookup Pt=some (PySem.W.tabObj #[])
 hd:∃c,∀h:Heap,K.In h->PySem.W.CodeHd h c Pt
 st:Pt≠cStatics
section
variable {K:Ah}(T:K.lookup Pt=some (PySem.W.tabObj #[]))
include T
theorem ns_dn{a:Addr}{r:Option (Option Value)}(e:PySem.W.nsIn K a x=r):PySem.W.nsIn (lessK Pt K) a x=r:=by
 rw[<-e];unfold PySem.W.nsIn;by_cases c:a=Pt
 ·subst c;rw[wf,T]
 ·rw[vo c]
theorem lk_dn{a:Addr}{o:Obj}(e:K.lookup a=some o)(n:o.cls≠.none):(lessK Pt K).lookup a=some o:=by
 rw[vo ?_]
 ·exact e
 ·rintro rfl;rw[T] at e;cases e;exact n rfl
theorem code_dn{cd:Value}(e:PySem.W.codeIn K cd q=true):PySem.W.codeIn (lessK Pt K) cd q=true:=by
 unfold PySem.W.codeIn at e ⊢;split at e
 ·rename_i c;by_cases d:c=Pt
  ·subst d;rw[T] at e;simp at e
  ·rw[vo d];exact e
 ·cases e
theorem agi{v:Value}:PySem.W.ownIn (lessK Pt K) x v=PySem.W.ownIn K x v:=by
 unfold PySem.W.ownIn;split
 ·rfl
 ·rename_i a;by_cases d:a=Pt
  ·subst d;rw[wf,T]
  ·rw[vo d];split
   ·exact ns_dn T rfl
   ·rfl
 ·rfl
theorem qT{x:Str}:∀l:List Value,PySem.W.alongIn (lessK Pt K) x l=PySem.W.alongIn K x l
 |[]=>rfl
 |c::r=>by unfold PySem.W.alongIn;rw[agi T,qT r]
theorem acn{v:Value}:PySem.W.findIn (lessK Pt K) v x=PySem.W.findIn K v x:=by
 unfold PySem.W.findIn;split
 ·rfl
 ·rename_i a;by_cases d:a=Pt
  ·subst d;rw[wf,T]
  ·rw[vo d];split
   ·exact qT T _
   ·rfl
 ·rfl
theorem t0{a:Addr}(n:a≠Pt):PySem.W.specialIn (lessK Pt K) (.ref a) x=PySem.W.specialIn K (.ref a) x:=by unfold PySem.W.specialIn PySem.W.typeIn;dsimp only;rw[vo n];congr 1;funext t;exact acn T
theorem keep_dn{f:Value}(e:PySem.W.keepIn K f=true):PySem.W.keepIn (lessK Pt K) f=true:=by
 unfold PySem.W.keepIn at e ⊢;split at e
 ·rename_i a;by_cases d:a=Pt
  ·subst d;rw[T] at e;simp at e
  ·rw[vo d,t0 T d];exact e
 ·cases e
end
theorem wL{P:Program}{w:World}{K:Ah}{mb:Str->Option Value}{CX:vV}{k:Nat}{a:Addr}{s₁:Shared}{ns:List Int}
 (KX:K.In s₁.heap) (TI:afk K Pt) (hns:s₁.heap.Ns mainGlobals mg) (hb:s₁.heap.Ns builtinsNs mb) (hbb:∀x:Str,x ≠ "__name__" -> mb x=bootBuiltins x) (hlim:s₁.heap.NoLimit) (hg:s₁.gens=#[]) (htk:0<s₁.toks)
 (ha:s₁.heap.get? a=some { cls:=.type "list",data:=.seq vs.toArray }) (hi:IntsAre vs ns) (hl:ns.length≤sizeLine) (hr:wy k callerA)
 (F:∀base:Heap,(lessK Pt K).In base->base.Ns mainGlobals mg->az P w (lessK Pt K) mg base CX k fa fd [x] sp) (hbind:∀(s:Shared) (u:Value),BindsTo s fd ⟨[u],[]⟩ [(x,u)])
 (hsp:∀H:Hp,H Pt=some (.tbl #[])->(H a=none\/∃o xs,H a=some (.frz o (.lst xs)))->w4 (lessK Pt K) H a (ns.map V.int)->sp [.ref a] H (fun v _=>v=.bl true) fun _ _ _=>False)
 (hCX:∀H e s',CX [] H s₁ (fun _ _ _=>False) e s'->False):
 codeAny (model P w) callerA (.call (.ref fa) ⟨[.ref a],[]⟩) (fun r s'=>r=.ok (.ret (.bool true))/\OldK s₁.heap s'.heap/\s'.os=s₁.os/\AllBare s'.gens) s₁:=by
 have rv:=mn hi;have lenV:=hi.length;have hP:s₁.heap.get? Pt=some (PySem.W.tabObj #[]):=KX Pt _ TI.tab;have naP:a≠Pt:=fun z=>by rw[z,hP] at ha;cases ha
 have core:∀H:Hp,H Pt=some (.tbl #[])->(∀b,b≠a->b≠Pt->H b=none)->(H a=none\/∃o xs,H a=some (.frz o (.lst xs)))->w4 (lessK Pt K) H a (ns.map V.int)->(∀u,H a=some u->xa P w H s₁.heap a u)->(H a≠none->K.lookup a=none)->
  codeAny (model P w) callerA (.call (.ref fa) ⟨[.ref a],[]⟩) (fun r s'=>r=.ok (.ret (.bool true))/\OldK s₁.heap s'.heap/\s'.os=s₁.os/\AllBare s'.gens) s₁:=by
  intro H HP Hn HO HS hoka hka;have hok:dq P w H s₁.heap:=fun b u e=>by
   by_cases c:b=a
   ·subst c;exact hoka u e
   ·by_cases d:b=Pt
    ·subst d;rw[HP] at e;cases e;exact hP
    ·rw[Hn b c d] at e;cases e
  have base_of:∀{b:Addr} {o:Obj},s₁.heap.get? b=some o->H b=none->(oT s₁.heap H).get? b=some o:=fun e n=>zU e n;have noA:∀{b:Addr} {o:Obj} {es:Array DictEntry} {ep:Nat},s₁.heap.get? b=some o->o.data=.dict es ep->H b=none:=fun {b o es ep} e d=>by
   refine Hn b (fun z=>?_) fun z=>?_
   ·subst z;rw[ha] at e;cases e;have d':Data.seq vs.toArray _=Data.dict es ep:=d;cases d'
   ·subst z;rw[hP] at e;cases e;have d':Data.fields _=Data.dict es ep:=d;cases d'
  have nsK:∀{b:Addr} {m:Str->Option Value},s₁.heap.Ns b m->(oT s₁.heap H).Ns b m:=fun {b m} ⟨o,es,ep,e,d,r⟩=>⟨o,es,ep,base_of e (noA e d),d,r⟩;have hKb:(lessK Pt K).In (oT s₁.heap H):=fun b o e=>by
   obtain⟨n,e⟩:=iw e;refine base_of (KX b o e) ?_;by_cases c:b=a
   ·subst c;cases q:H b with|none=>rfl|some u=>rw[hka (by rw[q];simp)] at e;cases e
   ·exact Hn b c n
  have hM:Mod (lessK Pt K) mg (oT s₁.heap H):=⟨hKb,nsK hns,⟨mb,nsK hb,hbb⟩,let ⟨mc,h1,h2⟩:=hlim;⟨mc,nsK h1,h2⟩⟩;have e0:ae0 P w (lessK Pt K) mg (oT s₁.heap H) callerA [] s₁ H:=⟨rfl,hM,fun b o e=>aes e,Nat.le_of_eq (yK _ _),trivial,fun b hb=>absurd (show b∈([]:List Addr) from hb) (by simp),hok,.of_eq hg,htk⟩;refine codeAny_mono ((F _ hKb (nsK hns)).run callerA [] s₁ H ⟨[.ref a],[]⟩ [.ref a] [.ref a] _ _ hr e0 (hbind s₁ (.ref a)) (.cons rfl .nil) (hsp H HP HO HS)) fun r s' h=>?_;cases r with
  |error e=>exact(hCX H e s' h).elim
  |ok fl=>
   cases fl with
   |next=>exact False.elim h
   |brk=>exact False.elim h
   |cont=>exact False.elim h
   |ret u=>
    obtain⟨v,H',os,bare,un,hok',r',q,_⟩:=h;have q':v=.bl true:=q;subst q';obtain rfl:u=Value.bool true:=r';obtain⟨more,em⟩:=un.tbls Pt _ HP;have gP:s'.heap.get? Pt=some (PySem.W.tabObj (#[]++more)):=hok' Pt _ em;have kp:∀b o,b≠Pt->s₁.heap.get? b=some o->s'.heap.get? b=some o:=fun b o n e=>by
     have un1:H b=none->s'.heap.get? b=some o:=fun z=>un.keep b o e z (by intro z;exact absurd (show b∈([]:List Addr) from z) (by simp)) (by simp);by_cases c:b=a
     ·subst c;rcases HO with z | ⟨ob,xs,z⟩
      ·exact un1 z
      ·have z2:=un.frzs _ _ _ z;obtain⟨e1,_⟩:=hok _ _ z;obtain⟨e2,_⟩:=hok' _ _ z2;rw[e] at e1;cases e1;exact e2
     ·exact un1 (Hn b c n)
    obtain⟨c,hc⟩:=TI.hd;refine⟨rfl,⟨fun b o e=>?_,fun b o e=>?_⟩,os,bare⟩
    ·by_cases n:b=Pt
     ·subst n;rw[hP] at e;cases e;exact .inr (.inl ⟨((hc _ KX).tab hP).isCodeTable,rfl,#[],more,rfl,gP⟩)
     ·exact .inl (kp b o n e)
    ·by_cases n:b=Pt
     ·subst n;exact⟨_,gP⟩
     ·exact⟨o,kp b o n e⟩
 cases hk:K.lookup a with
 |some o=>
  have e:=KX a o hk;rw[ha] at e;cases e;refine core (fun b=>if b=Pt then some (.tbl #[]) else none) (AA rfl) (fun b _ n=>Ay n) (.inl (Ay naP)) (.inr ⟨_,vs.toArray,_,(vo naP K).trans hk,rfl,rfl,rfl,by rw[Am,lenV];exact hl,by simpa using rv⟩) (fun u z=>by have z':=(Ay naP).symm.trans z;cases z') fun z=>absurd (Ay naP) z
 |none=>
  refine core (fun b=>if b=a then some (.frz { cls:=.type "list",data:=.seq vs.toArray } (.lst (ns.map V.int))) else if b=Pt then some (.tbl #[]) else none) ((Ay (AK naP)).trans (AA rfl)) (fun b n1 n2=>(Ay n1).trans (Ay n2)) (.inr ⟨_,_,AA rfl⟩) (.inl (.inr ⟨_,AA rfl⟩)) (fun u z=>?_) fun _=>hk;have z':=(AA rfl).symm.trans z;cases z';exact⟨ha,by rw[Ae];exact hl,vs,_,rv,ha⟩
theorem walk_ofZT{l:PySem.W.OpenLaw}{k:Nat}{q:Program}{loose:List Str}{XP:(Str->Option Value)->Heap->Prop}{as0:List Addr}{N t:Nat}{d:DefRec}{K:Params->Ah}{CX:vV}{sp:Ah->Addr->Sp}
 (hn:l.most=some n) (hn2:n≤sizeLine) (hdf:d.params.defaults=[]) (hr:wy k callerA) (ek:∀P,as0=(K P).map (·.1)) (htk:0<t)
 (F:∀(w:World) (mg:Str->Option Value) (fa:Addr) (h:Heap),(K w.params).In h->h.Ns mainGlobals mg->mg d.name=some (.ref fa)->
  ∃Pt:Addr,afk (K w.params) Pt/\∃fd:FuncData,(∀(s:Shared) (u:Value),BindsTo s fd ⟨[u],[]⟩ [(x,u)])/\
   ∀base:Heap,(lessK Pt (K w.params)).In base->base.Ns mainGlobals mg->az l.prog w (lessK Pt (K w.params)) mg base CX k fa fd [x] (sp (lessK Pt (K w.params)) Pt))
 (hsp:∀(K:Ah) (Pt:Addr) (H:Hp) (a:Addr) (ns:List Int),ns.length≤n->H Pt=some (.tbl #[])->(H a=none\/∃o xs,H a=some (.frz o (.lst xs)))->w4 K H a (ns.map V.int)->sp K Pt [.ref a] H (fun v _=>v=.bl true) fun _ _ _=>False)
 (hCX:∀(H:Hp) (s:Shared) (e:Value) (s':Shared),CX [] H s (fun _ _ _=>False) e s'->False):
 PySem.W.WalkX q loose XP (PySem.W.X.obsZ as0) (PySem.W.X.valZ K N t) l.row.toRowW d [] (fun f vs=>PySem.call f vs):=by
 refine Att.attach_callZ hn hdf ek htk fun w s₀ s₁ mg mb fa o pm cd doc a vs ns G KX tk ho hd hcd hmg hobj hints hlen hg=>?_;obtain⟨Pt,TI,fd,hb,hF⟩:=F w mg fa _ KX G.T.g hmg;exact wL KX TI G.T.g G.T.b G.T.builtins G.T.nolimit hg tk hobj hints (AU hlen hn2) hr hF hb (fun H hP hO hS=>hsp _ Pt H a ns hlen hP hO hS) fun H e s'=>hCX H s₁ e s'
end L2
namespace L3
open PySem L2
theorem top_startT :∀(K:Ah) (Pt:Addr) (H:Hp) (a:Addr) (ns:List Int),ns.length≤63->H Pt=some (.tbl #[])->(H a=none\/∃o xs,H a=some (.frz o (.lst xs)))->w4 K H a (ns.map V.int)->spTopT q K Pt [.ref a] H (fun v _=>v=.bl true) fun _ _ _=>False:=by
 intro K Pt H a ns hl hP hO hS;refine⟨a,ns,rfl,?_,hl,hP,fun _=>rfl⟩;rcases hS with(h | ⟨o,h⟩) | h
 ·rcases hO with z | ⟨o,xs,z⟩<;>rw[h] at z<;>cases z
 ·exact .inl ⟨o,h⟩
 ·exact .inr h
structure DefInT(K:Ah)(x:Str)(st:Stmt)(Pt:Addr):Prop where
 ex:∃(f:Addr) (kV doc pm:Value) (an:Option Addr) (cdv ct:Value),PySem.W.nsIn K mainGlobals x=some (some (.ref f))/\ahz K x x st f (PySem.W.fnOf x x (xq st) (jh st) (qx st) .none kV doc pm an cdv ct) Pt
theorem DefInT.use{K:Ah}(D:DefInT K x st Pt)(X:K.In h)(G:h.Ns mainGlobals mg)
 (hb:∀(kV doc pm:Value) (an:Option Addr) (cdv ct:Value) (us:List Value),us.length=ps.length->bindArgs (PySem.W.fnOf x x (xq st) (jh st) (qx st) .none kV doc pm an cdv ct) ⟨us,[]⟩=pure (ps.zip us)):
 ∃f fd,ahz K x x st f fd Pt/\eV K fd ps []/\mg x=some (.ref f):=by
 obtain⟨f,kV,doc,pm,an,cdv,ct,a,F⟩:=D.ex;exact⟨f,_,F,.all (hb kV doc pm an cdv ct),Ck X G a⟩
end L3
namespace L2
open PySem PySem.Spec PyProof.Rows
section
variable {σ':St} 
theorem z0.ren(M:List Str)(I:z0 X pins σ H s)(hl:M.length=X.N.length)(hs:σ'.length=σ.length)(h:∀(j:Nat) v,σ'[j]?=some (some v)->σ[j]?=some (some v)/\X.N[j]?=M[j]?):z0 { X with N:=M } pins σ' H s:=by obtain⟨m,hm,l⟩:=I.loc;have o:=I.ok;exact { ok:=⟨o.mod,o.kind,o.glob,o.blt,o.above,o.inj,o.has,o.cab,o.hd,o.frames,o.stk,o.exf,o.bs,o.bsz,o.noex,o.exfs,o.funs,o.frf⟩,os:=I.os,bare:=I.bare,base:=I.base,cell:=I.cell,free:=I.free,freeC:=I.freeC,pin:=I.pin,hok:=I.hok,tk:=I.tk,len:=(by rw[hs,I.len];exact hl.symm),loc:=⟨m,hm,fun i x v e1 e2 e3=>by obtain⟨a,b⟩:=h i v e2;exact l i x v (b.trans e1) a e3⟩ }
theorem rN(h:(σ.set i none)[j]?=some (some v)):j≠i/\σ[j]?=some (some v):=by
 by_cases c:i=j
 ·subst c;rw[DE] at h;cases e:σ[i]? with|none=>rw[e] at h;cases h|some o=>rw[e] at h;cases h
 ·rw[Bl c] at h;exact⟨AK c,h⟩
def akl(i:Nat)(t:TS):TS:=fun D σ H=>t { nx:=fun σ' H'=>D.nx (σ'.set i none) H',rt:=D.rt,bk:=fun σ' H'=>D.bk (σ'.set i none) H',ct:=fun σ' H'=>D.ct (σ'.set i none) H' } (σ.set i none) H
theorem ack{t:TS}(h:PS { X with N:=X.N.set i x } st t):PS X st (akl i t):=by
 intro pins s σ H D I z;have I':z0 { X with N:=X.N.set i x } pins (σ.set i none) H s:=I.ren _ (by rw[B4]) (by rw[B4]) fun j v e=>by obtain⟨a,b⟩:=rN e;exact⟨b,by rw[Bl (AK a)]⟩
 refine xj (h pins s _ H _ I' z) fun f s' q=>?_;have back:∀{σ':St} {H':Hp},z0 { X with N:=X.N.set i x } pins σ' H' s'->z0 X pins (σ'.set i none) H' s':=fun {σ' H'} J=>
  z0.ren (X:={ X with N:=X.N.set i x }) X.N J (by show X.N.length=(X.N.set i x).length;rw[B4]) (by rw[B4]) fun j v e=>by obtain⟨a,b⟩:=rN e;exact⟨b,by show(X.N.set i x)[j]?=_;rw[Bl (AK a)]⟩
 cases f with
 |next=>obtain⟨σ',H',J,q⟩:=q;exact⟨_,H',back J,q⟩
 |brk=>obtain⟨σ',H',J,q⟩:=q;exact⟨_,H',back J,q⟩
 |cont=>obtain⟨σ',H',J,q⟩:=q;exact⟨_,H',back J,q⟩
 |ret u=>obtain⟨v,σ',H',J,r,q⟩:=q;exact⟨v,_,H',back J,r,q⟩
end
end L2
namespace L3
open PySem L2
def f8:jk->Nat->jk
 |[],_=>[]
 |_::r,0=>none::r
 |o::r,i+1=>o::f8 r i
theorem rT:∀(τ:jk) (i:Nat),f8 τ i=τ.set i none
 |[],_=>rfl
 |_::_,0=>rfl
 |o::r,i+1=>by unfold f8;rw[rT r i];rfl
def afr(i:Nat)(t:kg)(D:v9)(τ:jk)(L:ql):Prop:=t { nx:=fun τ' L'=>D.nx (f8 τ' i) L',rt:=D.rt,bk:=fun τ' L'=>D.bk (f8 τ' i) L',ct:=fun τ' L'=>D.ct (f8 τ' i) L' } (f8 τ i) L
theorem kc.forget(h:kc G H σ τ)(i:Nat):kc G H (σ.set i none) (f8 τ i):=by
 rw[rT];refine⟨by rw[B4,B4];exact h.len,fun j y e=>?_⟩;by_cases c:i=j
 ·subst c;rw[DE] at e;cases e2:τ[i]? with|none=>rw[e2] at e;cases e|some o=>rw[e2] at e;cases e
 ·rw[Bl c] at e ⊢;exact h.get j y e
theorem acj(x:Str){t:kg}(h:QS { X with N:=X.N.set i x } st t):QS X st (afr i t):=
 EG (ack h) fun D σ H ⟨τ,L,D3,rs,rl,z,k⟩=>⟨f8 τ i,L,_,rs.forget i,rl,z,
  ⟨fun σ' H' τ' L' t' rs' rl' q=>k.nx _ H' _ L' t' (rs'.forget i) rl' q,k.rt,fun σ' H' τ' L' t' rs' rl' q=>k.bk _ H' _ L' t' (rs'.forget i) rl' q,fun σ' H' τ' L' t' rs' rl' q=>k.ct _ H' _ L' t' (rs'.forget i) rl' q⟩⟩
theorem ai9:bootBuiltins "min" = some (.builtin "min"):=by decide +kernel
def xU(x:Y)(lo hi:Option Int)(L:ql)(Q:YK):Prop:=match x with
 |.tup ys=>¬(HT.sIx ys.length 0 lo=0/\HT.sIx ys.length ys.length hi=ys.length)/\Q (.tup (ld ys lo hi)) L
 |_=>False
theorem qL(K:Ah)(P:Program)(w:World)(hK:X.K=K:=by rfl)(hP:X.prog=P:=by rfl)(hw:X.w=w:=by rfl):ox X (adj ⟨K,P,w⟩ xU):=by
 subst hK hP hw;refine ox.imp aif fun x lo hi H Q ⟨y,L,Q3,rv,rl,z,k⟩=>?_;cases y with
 |tup ys=>
  obtain⟨a,xs,e,sq,r⟩:=rv;obtain⟨z1,z2⟩:=z;exact⟨a,xs,e,sq,by rw[<-r.length];exact z1,fun p hp=>k _ _ (.tup (ld ys lo hi)) L (DY hp) (rl.skip hp) ⟨p,_,rfl,.inl (.inl zv),(o5 r lo hi).ts (DY hp)⟩ z2⟩
 |_=>exact z.elim
theorem tZ{a:Addr}{keep:ql->Prop}(h:∀H L,j4 H₀ H->jg G H L->keep L->∃xs,cJ G.K H a xs/\x4 G H ys xs):gc G H₀ (Itt G.K a) ys keep where
 go:=fun i H L t rl kp hi=>by
  obtain⟨xs,sq,r⟩:=h H L t rl kp;have:i<xs.length:=by rw[<-r.length];exact hi
  exact⟨xs,xs[i],sq,Aj this⟩
 yld:=fun i H L x H' y t rl kp hy ⟨e,f⟩=>by subst e;obtain⟨xs,sq,r⟩:=h _ L t rl kp;obtain⟨x',e',rv⟩:=r.get hy;have:=f xs sq;rw[e'] at this;cases this;exact⟨DW _,rl,rv⟩
 stop:=fun H L t rl kp=>by obtain⟨xs,sq,r⟩:=h H L t rl kp;exact⟨xs,sq,by rw[r.length];exact Al _⟩
theorem yx(h:QE X e te):QI X tg e (yS te):=PI.imp (ain h) fun σ H R ⟨τ,L,R3,rs,rl,z,k⟩=>by
 refine⟨τ,L,_,rs,rl,z,fun v H1 y L1 t1 rl1 rv1 z1=>?_⟩;cases y with
 |tup ys=>
  obtain⟨a,xs,e,sq,r⟩:=rv1;exact⟨a,e,⟨xs,sq⟩,k _ H1 ys (fun _=>True) L1 t1 rl1 (tZ fun H L t _ _=>⟨xs,cJ.ts sq t,r.ts t⟩) z1⟩
 |_=>exact z1.elim
theorem dp3{k:Nat}(hr:wy k A):A.depth+3<recursionLimit:=by have:=hr.dp;omega
abbrev lamQ:Str:="_law_order.<locals>.<lambda>"
open PySem L2 Words
def OkO(ks:List (Option Kn)):Prop:=∀(p:Nat) (e:Bool) (i j:Nat),ks[p]?=some (some (.nd e i j))->i<p/\j<p
def xQ(ks:List (Option Kn))(rks:List Int):Prop:=∀(p:Nat) (e:Bool) (i j:Nat),p<rks.length->ks[p]?=some (some (.nd e i j))->rks.getD i 0<rks.getD p 0/\rks.getD j 0<rks.getD p 0
theorem jH{r:Int}(h:i<rks.length):(rks++[r]).getD i 0=rks.getD i 0:=by rw[Bi,Bi,AE h]
theorem zS{r:Int}:(rks++[r]).getD rks.length 0=r:=by rw[Bi,Ar (Al _),Cy];rfl
theorem xQ.snoc{ks:List (Option Kn)}{r:Int}{k:Option Kn}(ok:OkO ks)(h:xQ ks rks)(hk:ks[rks.length]?=some k)(hr:∀e i j,k=some (.nd e i j)->rks.getD i 0<r/\rks.getD j 0<r):xQ ks (rks++[r]):=by
 intro p e i j hp ep;obtain⟨l1,l2⟩:=ok p e i j ep;rw[Ac] at hp;have hp:p<rks.length+1:=hp;rw[jH (show i<rks.length by lia),jH (show j<rks.length by lia)];by_cases c:p<rks.length
 ·rw[jH c];exact h p e i j c ep
 ·have:p=rks.length:=by lia
  subst this;rw[zS];exact hr e i j (Ba (hk.symm.trans ep))
def bV(ks:List (Option Kn))(qs:List Nat):Prop:=qs.Pairwise fun x y=>∀e i j,ks[x]?=some (some (.nd e i j))->y≠i/\y≠j
theorem zE{ks:List (Option Kn)}{qs:List Nat}(ok:OkO ks)(h:xQ ks rks)(hl:rks.length=ks.length)(hw:qs.Pairwise fun i j=>rks.getD i 0*1000000+(i:Int)≤rks.getD j 0*1000000+(j:Int)):bV ks qs:=by refine hw.imp fun {x y} z e i j ex=>?_;obtain⟨l1,l2⟩:=ok x e i j ex;obtain⟨r1,r2⟩:=h x e i j (by rw[hl];exact xu ex) ex;exact⟨fun c=>by subst c;lia,fun c=>by subst c;lia⟩
theorem rD(h:i<rks.length):(rks.map Y.int)[i]?=some (.int (rks.getD i 0)):=by rw[Ap,Bi,Aj h];rfl
def zP:kg:=(qw (zw (cQ "abcdefghijklmnopqrstuvwxyz") (qh 2))
 (qw (zw (zj w5 (jr 1) (zj w6 (qc 0) (jr 8))) (qh 3))
 (qw (zw (zj w6 (zj bC (qc 0) (jr 8)) (qc 3)) (qh 4))
 (qw (zw (yBS ud (cQ "") (qe (ow 1 (gK (vk (jr 8))) (qh 7) nV (zj cH (qc 2) (zj w6 (zj w5 (zj bC (qc 0) (jr 64)) (zj sM (jr 3) (qc 7))) (jr 26)))) z9)) (qh 5))
 (qw (v0 (gg (zj w6 (zj bC (qc 0) (jr 64)) (jr 3)) (jr 1)) (jc (ySl ab9 (qc 5) ai (cL (zj w5 (jr 1) (zj w6 (zj w5 (qc 1) (qc 0)) (jr 3)))))) jw)
 (qw (zw (zj cH (qc 2) (zj w6 (zj w5 (zj w5 (zj bC (qc 0) (jr 64)) (zj sM (jr 3) (qc 4))) (qc 1)) (jr 26))) (qh 6))
 (jc (zj w5 (zj w5 (ySl ab9 (qc 5) ai (cL (qc 4))) (qc 6)) (ySl ab9 (qc 5) (cL (zj w5 (qc 4) (jr 1))) (cL (qc 3)))))))))))
def dH(i:Int):Nat:=97+(i % 26).toNat
theorem u6(i:Int):fv ("abcdefghijklmnopqrstuvwxyz" : Str).cps.toList (i % 26)=some (dH i):=by
 obtain⟨n,hn⟩:∃n:Nat,i % 26=n:=⟨(i % 26).toNat,by lia⟩;have h:n<26:=by lia
 unfold dH;rw[hn];have key:∀n,n<26->("abcdefghijklmnopqrstuvwxyz" : Str).cps.toList[n]?=some (97+n):=by decide +kernel
 exact vh (key n h)
theorem uf(i:Int):97≤dH i/\dH i≤122:=by unfold dH;lia
def cI(s:Int):List Nat:=(List.range 8).map fun k:Nat=>dH (s / 64+3*(k:Int))
theorem kI(s:Int):(cI s).length=8:=by unfold cI;simp
theorem kU(s:Int):∀c∈cI s,97≤c/\c≤122:=fun c hc=>by obtain⟨k,_,rfl⟩:=AY.mp hc;exact uf _
def mG(s:Int):Nat:=(s / 8 % (1+s % 8)).toNat
def szN(s:Int):Nat:=(1+s % 8).toNat
theorem afp(s:Int):mG s<szN s/\szN s≤8/\s / 8 % (1+s % 8)=(mG s:Int)/\1+s % 8=(szN s:Int):=by
 have h0:0<1+s % 8:=by lia
 have h1:0≤s / 8 % (1+s % 8):=DO _ (by lia);have h2:s / 8 % (1+s % 8)<1+s % 8:=Int.emod_lt_of_pos _ h0;unfold mG szN;lia
def wx(s w:Int):List Nat:=
 if s / 64 % 3=1 then(cI s).take (1+(w+s) % 3).toNat
 else((cI s).take (mG s)++[dH (s / 64+3*(mG s:Int)+w)])++((cI s).drop (mG s+1)).take (szN s - (mG s+1))
theorem pL(s w:Int):dG (mkS (wx s w)):=by
 have hl:(mkS (wx s w)).length=(wx s w).length:=by rw[<-Txs.len_list];show(wx s w).toArray.toList.length=_;simp
 have hc:(mkS (wx s w)).cps.toList=wx s w:=by show(wx s w).toArray.toList=_;simp
 have hb:=kI s;obtain⟨p1,p2,_,_⟩:=afp s;refine⟨?_,?_,?_⟩
 ·rw[hl];unfold wx;split
  ·rw[AN];omega
  ·rw[Ac,Ac];simp;simp +arith only
 ·rw[hl];unfold wx;split
  ·rw[AN];omega
  ·rw[Ac,Ac,AN,AN,Br];simp;lia
 ·rw[hc];intro c h;unfold wx at h;split at h
  ·exact kU s c (BB h)
  ·rcases Ak.mp h with h | h
   ·rcases Ak.mp h with h | h
    ·exact kU s c (BB h)
    ·rw[Ao.mp h];exact uf _
   ·exact kU s c (Cs (BB h))
def io:ja:=fun ys L Q=>∃s w:Int,ys=[.int s,.int w]/\Q (.str (mkS (wx s w))) L
theorem xS(h:m≤n)(h2:n≤x.length):(Txt.slice x (some (m:Int)) (some (n:Int))).cps.toList=(x.cps.toList.drop m).take (n - m):=by have e:=m4 x (some (m:Int)) (some (n:Int));rw[HT.sIx_nat,HT.sIx_nat,Cj h2,Cj (AU h h2)] at e;exact e
theorem mS(h:n≤x.length):(Txt.slice x none (some (n:Int))).cps.toList=x.cps.toList.take n:=by have e:=m4 x none (some (n:Int));rw[HT.sIx_nat,HT.sIx_none,DQ,Nat.sub_zero,Cj h] at e;exact e
theorem aaa:∀ys L Q,io ys L Q->jx zP 7 ys L Q:=by
 rintro ys L Q ⟨s,w,rfl,q⟩;have hsz:0<1+s % 8:=by lia
 refine⟨(by decide:(0:Int)<8),⟨by decide,by decide⟩,hsz,⟨by decide,by decide⟩,?_⟩;show lcK (aC 0 8) _ _ _ _ _ _ _ _;refine oB (m:=8) (fun i zs=>zs=((List.range i).map fun k:Nat=>Y.str ⟨#[dH (s / 64+3*(k:Int))]⟩)) (by decide) rfl ?_ ?_
 ·rintro i _ hi rfl;have hat:=u6 (s / 64+3*(0+(i:Int)));refine⟨⟨by decide,by decide⟩,.inl ⟨by decide,by decide⟩,(by decide:(0:Int)<26),by decide +kernel,?_⟩;walk_at "w";rw[hat];refine⟨_,DX _,rfl,?_⟩;rw[DN,AC,show(0:Int)+(i:Int)=(i:Int) by simp +arith only];rfl
 ·rintro _ rfl p hp;have e0:((List.range 8).map fun k:Nat=>Y.str ⟨#[dH (s / 64+3*(k:Int))]⟩)=((cI s).map fun c=>(⟨#[c]⟩:Str)).map Y.str:=by unfold cI;rw[BC,BC];rfl
  rw[e0];refine qy q9 ⟨(cI s).map fun c=>(⟨#[c]⟩:Str),rfl,?_,?_⟩
  ·have e1:∀cs:List Nat,((cs.map fun c=>(⟨#[c]⟩:Str)).map (·.length)).sum=cs.length:=fun cs=>by induction cs with|nil=>rfl|cons c r ih=>rw[AO,AO,List.sum_cons,ih,AJ];show 1+r.length=_;exact Nat.add_comm _ _
   rw[e1,kI];show 8+_*0≤_;rw[Nat.mul_zero];decide
  ·have hb:=aan (cI s);have hbl:(Txt.join "" ((cI s).map fun c=>(⟨#[c]⟩:Str))).length=8:=by rw[<-Txs.len_list,hb,kI]
   generalize Txt.join "" ((cI s).map fun c=>(⟨#[c]⟩:Str))=base at hbl hb;obtain⟨p1,p2,hn,hk⟩:=afp s;refine⟨⟨by decide,by decide⟩,(by decide:(0:Int)<3),?_⟩;refine xc (fun c=>?_) fun c=>?_
   ·have e:1+(w+s) % 3=((1+(w+s) % 3).toNat:Int):=by lia
    refine⟨(by decide:(0:Int)<3),small (by lia),bK (By hp) ?_⟩;have es:=mS (x:=base) (n:=(1+(w+s) % 3).toNat) (by lia);have eq:Txt.slice base none (some (1+(w+s) % 3))=mkS (wx s w):=by rw[e];refine(uj _).symm.trans ?_;rw[es,hb];unfold wx;rw[AA c]
    rw[<-eq] at q;exact q
   ·have hat:=u6 (s / 64+3*(s / 8 % (1+s % 8))+w);refine⟨⟨by decide,by decide⟩,.inl ⟨by decide,by decide⟩,(by decide:(0:Int)<26),by decide +kernel,?_⟩;walk_at "w";rw[hat];have s1:=mS (x:=base) (n:=mG s) (by lia);have s2:=xS (x:=base) (m:=mG s+1) (n:=szN s) (by assumption) (by lia);have l1:(Txt.slice base none (some (mG s:Int))).length=mG s:=by rw[<-Txs.len_list,s1,AN,Txs.len_list];lia
    have l2:(Txt.slice base (some ((mG s+1:Nat):Int)) (some (szN s:Int))).length≤8:=by rw[<-Txs.len_list,s2,AN];lia
    refine⟨small (by lia),?_⟩;refine⟨small (by rw[hn,l1];show mG s+1≤1000;lia),?_⟩;refine⟨small (by lia),?_⟩;have e1:((mG s:Int)+1)=((mG s+1:Nat):Int):=by rfl
    have l3:(Txt.slice base none (some (mG s:Int))++(⟨#[dH (s / 64+3*(s / 8 % (1+s % 8))+w)]⟩:Str)).length=mG s+1:=by rw[PySem.Str.length_append,l1];rfl
    refine⟨small ?_,bK (By hp) ?_⟩
    ·rw[hn] at l3 ⊢;rw[l3,e1,hk];lia
    ·have eq:(Txt.slice base none (some (mG s:Int))++(⟨#[dH (s / 64+3*(mG s:Int)+w)]⟩:Str))++Txt.slice base (some ((mG s+1:Nat):Int)) (some (szN s:Int))=mkS (wx s w):=by
      refine(uj _).symm.trans ?_;have ca:∀a b:Str,(a++b).cps.toList=a.cps.toList++b.cps.toList:=fun a b=>by show(a.cps++b.cps).toList=_;simp
      rw[ca,ca,s1,s2,hb];unfold wx;rw[Ay c]
     rw[hn,e1,hk,eq];exact q
theorem acg(t t':Bool)(n n':Str):Da.eq (jI (.leaf t n)) (jI (.leaf t' n'))=(decide (t=t')&&decide (n=n')):=by
 by_cases h:n=n'
 ·subst h;cases t<;>cases t'<;>simp[jI,Da.eq,Da.eqs,fi,kL]<;>decide +kernel
 ·cases t<;>cases t'<;>simp[jI,Da.eq,Da.eqs,fi,kL,h]<;>decide +kernel
theorem gS{α β:Type}(f:α->β):∀(l:List α) (n:Nat),(l.map f).eraseIdx n=(l.eraseIdx n).map f
 |[],n=>by simp
 |_::_,0=>rfl
 |x::r,n+1=>by rw[AO,Cd,Cd,AO,gS f r n]
theorem wg(a:zq)(b:Y)(r:List (zq×Y))(k:zq):v3 ((a,b)::r) k=if a=k then some b else v3 r k:=by
 unfold v3;rw[Bp];by_cases h:a=k
 ·rw[AA h,show decide ((a,b).1=k)=true from AG h];rfl
 ·rw[Ay h,show decide ((a,b).1=k)=false from Az h]
theorem qE(k k':zq)(y:Y):∀kvs:List (zq×Y),v3 (kvs.map fun kv=>if kv.1=k then(kv.1,y) else kv) k'=if k'=k then(v3 kvs k').map (fun _=>y) else v3 kvs k'
 |[]=>by rw[CT];split<;>rfl
 |(a,b)::r=>by
  have ih:=qE k k' y r;rw[AO,wg];by_cases h:a=k
  ·rw[AA (show(a,b).1=k from h),wg,ih];by_cases h2:k'=k
   ·rw[AA h2,AA h2,AA (h.trans h2.symm),AA (h.trans h2.symm)];rfl
   ·rw[Ay h2,Ay h2,Ay (fun z=>h2 (z.symm.trans h)),Ay (fun z=>h2 (z.symm.trans h))]
  ·rw[Ay (show ¬(a,b).1=k from h),wg,ih];by_cases h2:k'=k
   ·rw[AA h2,AA h2,Ay (fun z=>h (z.trans h2)),Ay (fun z=>h (z.trans h2))]
   ·rw[Ay h2,Ay h2]
theorem rX(k k':zq)(y:Y):∀kvs:List (zq×Y),v3 (kvs++[(k,y)]) k'=(v3 kvs k').or (if k=k' then some y else none)
 |[]=>by rw[Ci,wg];have:v3 [] k'=none:=rfl;rw[this];split<;>rfl
 |(a,b)::r=>by rw[List.cons_append,wg,wg,rX k k' y r];split<;>rfl
theorem lV(k:zq):∀kvs:List (zq×Y),(kvs.any fun kv=>decide (kv.1=k))=(v3 kvs k).isSome
 |[]=>rfl
 |(a,b)::r=>by
  rw[B9,wg,lV k r];by_cases h:a=k
  ·rw[AA h,show decide ((a,b).1=k)=true from AG h];rfl
  ·rw[Ay h,show decide ((a,b).1=k)=false from Az h];rfl
theorem ij(kvs:List (zq×Y))(k k':zq)(y:Y):v3 (fT kvs k y) k'=if k'=k then some y else v3 kvs k':=by
 unfold fT;rw[lV];cases e:v3 kvs k with
 |some v=>
  rw[AA (show(some v).isSome=true from rfl),qE];by_cases h:k'=k
  ·rw[AA h,AA h,h,e];rfl
  ·rw[Ay h,Ay h]
 |none=>
  rw[Ay (by simp),rX];by_cases h:k'=k
  ·rw[AA h,h,e,AA rfl];rfl
  ·rw[Ay h,Ay (fun z=>h z.symm)];cases v3 kvs k'<;>rfl
theorem sD(kvs:List (zq×Y))(k:zq)(y:Y):(fT kvs k y).length≤kvs.length+1:=by
 unfold fT;split
 ·rw[Ae];omega
 ·rw[Ac];simp
def gW(f:Nat->Nat):Option Kn->Option Kn
 |some (.nd e i j)=>some (.nd e (f i) (f j))
 |k=>k
theorem tH{f g:Nat->Nat}:∀{k:Option Kn},(∀e i j,k=some (.nd e i j)->f i=g i/\f j=g j)->gW f k=gW g k
 |none,_=>rfl
 |some (.lf _ _),_=>rfl
 |some (.nd e i j),h=>by obtain⟨a,b⟩:=h e i j rfl;show some (Kn.nd e (f i) (f j))=some (Kn.nd e (g i) (g j));rw[a,b]
structure Gap(ks:List (Option Kn))(ps:List Nat)(f:Nat->Nat)(wd:List (Option Kn)):Prop where
 at_:∀p∈ps,∀k,ks[p]?=some k->wd[f p]?=some (gW f k)
 inj:∀p∈ps,∀q∈ps,f p=f q->p=q
 only:∀x k,wd[x]?=some (some k)->∃p∈ps,x=f p
 ok:OkO wd
theorem Gap.nil(ks:List (Option Kn))(f:Nat->Nat):Gap ks [] f []:=⟨fun p hp=>(Bw hp).elim,fun p hp=>(Bw hp).elim,fun x k h=>(by simp at h),fun p e i j h=>(by simp at h)⟩
theorem Gap.lt{ks:List (Option Kn)}{ps:List Nat}{f:Nat->Nat}(h:Gap ks ps f wd){p:Nat}(hp:p∈ps)(hk:p<ks.length):f p<wd.length:=xu (h.at_ p hp _ (Aj hk))
theorem Gap.step{ks:List (Option Kn)}{ps:List Nat}{f:Nat->Nat}(h:Gap ks ps f wd)(hb:∀p∈ps,p<ks.length){p:Nat}{k:Option Kn}(hp:p∉ps)(hk:ks[p]?=some k)(hpart:∀x∈ps,∀e i j,ks[x]?=some (some (.nd e i j))->i∈ps/\j∈ps)(hparts:∀e i j,k=some (.nd e i j)->i∈ps/\j∈ps):
 Gap ks (ps++[p]) (fun x=>if x=p then wd.length else f x) (wd++[gW f k]):=by
 have old:∀x∈ps,(if x=p then wd.length else f x)=f x:=fun x hx=>Ay fun(c:x=p)=>hp (c▸hx);have ren:∀k',(∀e i j,k'=some (.nd e i j)->i∈ps/\j∈ps)->gW (fun x=>if x=p then wd.length else f x) k'=gW f k':=fun k' hk'=>tH fun e i j z=>by obtain⟨a,b⟩:=hk' e i j z;exact⟨old i a,old j b⟩
 refine⟨fun x hx k' hk'=>?_,fun x hx y hy e=>?_,fun x k' hx=>?_,fun x e i j hx=>?_⟩
 ·rcases Ak.mp hx with hx | hx
  ·show(wd++[gW f k])[if x=p then wd.length else f x]?=_;rw[old x hx,ren k' fun e i j z=>hpart x hx e i j (by rw[hk',z])];exact kR (h.at_ x hx k' hk')
  ·have hx:=Ao.mp hx;subst hx;rw[hk] at hk';cases hk';show(wd++[gW f k])[if x=x then wd.length else f x]?=_;rw[AA rfl,ren k hparts];exact cg wd _ []
 ·have e:(if x=p then wd.length else f x)=if y=p then wd.length else f y:=e
  rcases Ak.mp hx with hx | hx<;>rcases Ak.mp hy with hy | hy
  ·rw[old x hx,old y hy] at e;exact h.inj x hx y hy e
  ·cases Ao.mp hy;rw[old x hx,AA rfl] at e;have:=h.lt hx (hb x hx);lia
  ·cases Ao.mp hx;rw[old y hy,AA rfl] at e;have:=h.lt hy (hb y hy);lia
  ·rw[Ao.mp hx,Ao.mp hy]
 ·by_cases c:x<wd.length
  ·rw[AE c] at hx;obtain⟨q,hq,e⟩:=h.only x k' hx;exact⟨q,Av _ hq,by rw[e];exact(old q hq).symm⟩
  ·refine⟨p,Af _ (Ao.mpr rfl),?_⟩;have:=xu hx;rw[Ac] at this;have:x<wd.length+1:=this;show x=if p=p then wd.length else f p
   rw[AA rfl];lia
 ·by_cases c:x<wd.length
  ·rw[AE c] at hx;exact h.ok x e i j hx
  ·have:=xu hx;rw[Ac] at this;have:x<wd.length+1:=this;have:x=wd.length:=by lia
   subst this;rw[Ar (Al _),Cy] at hx;have hx:gW f k=some (.nd e i j):=Ba hx;cases k with
   |none=>cases hx
   |some k=>
    cases k with
    |lf=>cases hx
    |nd e' i' j'=>
     obtain⟨a,b⟩:=hparts e' i' j' rfl;cases hx;exact⟨h.lt a (hb _ a),h.lt b (hb _ b)⟩
theorem jZ{ks:List (Option Kn)}{qs:List Nat}(ok:OkO ks)(pm:qs.Perm (List.range ks.length))(pf:bV ks qs){p:Nat}(hp:qs[n]?=some p){e:Bool}(h:ks[p]?=some (some (.nd e i j))):i∈qs.take n/\j∈qs.take n:=by
 obtain⟨l1,l2⟩:=ok p e i j h;have hl:=xu h;have hn:=xu hp;have ind:∀x,x<ks.length->x≠p->(∀y∈qs.drop (n+1),y≠x)->x∈qs.take n:=fun x hx ne hno=>by
  have hm:x∈qs:=pm.mem_iff.mpr (Bc.mpr hx);have e2:qs=qs.take n++p::qs.drop (n+1):=by rw[Aj hn] at hp;rw[<-Ba hp,Cg,Bb]
  rw[e2] at hm;rcases Ak.mp hm with hm | hm
  ·exact hm
  ·rcases Au.mp hm with hm | hm
   ·exact absurd hm ne
   ·exact absurd rfl (hno x hm)
 have pw:∀y∈qs.drop (n+1),y≠i/\y≠j:=fun y hy=>by
  have e2:qs=qs.take n++p::qs.drop (n+1):=by rw[Aj hn] at hp;rw[<-Ba hp,Cg,Bb]
  unfold bV at pf;rw[e2] at pf;have:=(AQ.mp pf).2.1;exact(List.pairwise_cons.mp this).1 y hy e i j h
 exact⟨ind i (by exact lF) (by exact ald) fun y hy=>(pw y hy).1,ind j (by exact lF) (by exact ald) fun y hy=>(pw y hy).2⟩
def agr:kg:=(qw (zw (aq cG (qc 1) (qe (zj w6 (qc 3) (cD 1)) z9)) (qh 4))
 (qw (zw (aq cG (qc 1) (qe (zj w6 (qc 2) (cD 1)) z9)) (qh 5))
 (qw (zw (zj cH (ju 4 1) (zj w6 (zj bC (qc 3) (jr 64)) (iO l9 (vk (ju 4 1))))) (qh 6))
 (qw (zw (zj cH (ju 5 1) (zj w6 (zj bC (qc 2) (jr 64)) (iO l9 (vk (ju 5 1))))) (qh 7))
 (qw (jb (aq j8 (qc 0) (qe (kn (qe (cQ "both") (aD (qc 6) (qc 7)))) z9)))
 (qw (zw (ow 1 (vq (zj w5 (ju 4 1) (ju 5 1))) (qh 9) (yB (zj (lM true) (qc 9) (rdT (qc 6) (qc 7)))) (qc 9)) (qh 8))
 (jb (aq j8 (qc 1) (qe (xw (qe (kn (qe (cQ "both") (qe (zj iR (cD 0) (jr 1)) (aD (ju 4 0) (ju 5 0))))) (qe (zj w5 (qc 8) (xw (qe (zj iR (cD 0) (jr 1)) z9))) z9))) z9)))))))))
def adg:kg:=(qw (v0 (yB (zj yLt (iO l9 (vk (ju 1 1))) (jr 2))) aav jw)
 (qw (zw (aq cG (ju 1 1) (qe (zj w6 (qc 3) (iO l9 (vk (ju 1 1)))) z9)) (qh 4))
 (qw (zw (aq cG (ju 1 1) (qe (zj w6 (qc 2) (iO l9 (vk (ju 1 1)))) z9)) (qh 5))
 (qw (jb (aq j8 (qc 0) (qe (kn (qe (cQ "either") (aD (qc 4) (qc 5)))) z9)))
 (qw (afe (qc 1) (jr 0) (kn (qe (cQ "either") (qe (zj iR (cD 0) (jr 1)) (vk (ju 1 0))))))
 (jb (aq j8 (ju 1 1) (qe (zj iR (cD 0) (jr 1)) z9))))))))
theorem bE{ks:List Kn}:∀{w v:Wd} {p:Nat},bZ ks p w->bZ ks p v->w=v
 |.leaf t n,.leaf t' n',p,h,k=>by
  have h:(zu ks)[p]?=some (.tup [.str (kL t),.str n]):=h;have k:(zu ks)[p]?=some (.tup [.str (kL t'),.str n']):=k;rw[h] at k;injection k with k;injection k with k;injection k with k1 k2;injection k2 with k2 _
  injection k1 with k1;injection k2 with k2
  have:t=t':=by cases t<;>cases t'<;>first | rfl | (exfalso;revert k1;decide +kernel)
  rw[this,k2]
 |.leaf t n,.node e l r,p,h,k=>by obtain⟨i,j,k,_⟩:=k;have h:(zu ks)[p]?=some (.tup [.str (kL t),.str n]):=h;rw[h] at k;injection k with k;injection k with k;injection k with _ k;injection k with _ k;cases k
 |.node e l r,.leaf t n,p,h,k=>by obtain⟨i,j,h,_⟩:=h;have k:(zu ks)[p]?=some (.tup [.str (kL t),.str n]):=k;rw[h] at k;injection k with k;injection k with k;injection k with _ k;injection k with _ k;cases k
 |.node e l r,.node e' l' r',p,⟨i,j,h,hl,hr⟩,⟨i',j',k,kl,kr⟩=>by
  rw[h] at k;injection k with k;injection k with k;injection k with k1 k2;injection k2 with k2 k3;injection k3 with k3 _
  injection k1 with k1;injection k2 with k2;injection k3 with k3
  have e1:i=i':=by lia
  have e2:j=j':=by lia
  subst e1 e2;have:e=e':=by cases e<;>cases e'<;>first | rfl | (exfalso;revert k1;decide +kernel)
  rw[this,bE (ks:=ks) hl kl,bE (ks:=ks) hr kr]
theorem lO{ks:List Kn}(hk:bU ks):∀(m p:Nat),p<m->p<ks.length->∃w,bZ ks p w/\w.depth≤p+1/\w.ok
 |0,p,h,_=>absurd h (by lia)
 |m+1,p,h,hp=>by
  obtain⟨k,ek⟩:∃k,ks[p]?=some k:=⟨_,Aj hp⟩;have ho:=hk p k ek;cases k with
  |lf t n=>exact⟨.leaf t n,bZ.leaf ek,by show 1≤p+1;exact Cv _,ho⟩
  |nd e i j=>
   have ho:i<p/\j<p:=ho;obtain⟨l,a1,a2,a3⟩:=lO hk m i (by lia) (by omega);obtain⟨r,b1,b2,b3⟩:=lO hk m j (by lia) (by lia);exact⟨.node e l r,ES ek a1 b1,by show max l.depth r.depth+1≤p+1;lia,a3,b3⟩
def TV(v:Str->Bool):Wd->Bool
 |.leaf t n=>if t=true then !v n else v n
 |.node e l r=>if e=true then TV v l||TV v r else TV v l&&TV v r
theorem i5(v:Str->Bool):∀w:Wd,TV v w.turn=!TV v w
 |.leaf t n=>by cases t<;>simp[Wd.turn,TV]
 |.node e l r=>by cases e<;>simp[Wd.turn,TV,i5 v l,i5 v r]
theorem SR.lt{E:List Nat}(h:SR ks R E):∀x∈qk R,x<ks.length:=by
 have lt:∀{p:Nat} {k:Kn},ks[p]?=some k->p<ks.length:=fun h=>(A1.mp h).1
 induction h with
 |link _ h2 h3 _ _=>intro x hx;simp[qk] at hx;rcases hx with rfl | rfl;exact lt h2;exact lt h3
 |ei h1 _ _ _ _ _ _ ih=>intro x hx;rcases Au.mp hx with rfl | hx;exact lt h1;exact ih x hx
 |bo h1 _ _ _ _ _ _ ih1 ih2=>
  intro x hx;rcases Au.mp hx with rfl | hx
  ·exact lt h1
  ·rcases Ak.mp hx with hx | hx
   ·exact ih1 x hx
   ·exact ih2 x hx
 |cu _ _ _ _ _ _ _ _ ih1 ih2=>
  intro x hx;rcases Ak.mp hx with hx | hx
  ·exact ih1 x hx
  ·exact ih2 x hx
theorem SR.tv(hk:bU ks)(v:Str->Bool){E:List Nat}(h:SR ks R E):∃x∈E,∃w,bZ ks x w/\TV v w=true:=by
 have ex:∀{R':Ru} {E':List Nat},SR ks R' E'->∀x∈E',∃w,bZ ks x w:=fun s x hx=>by obtain⟨w,hw,_⟩:=lO hk (x+1) x (by exact BL _) (s.lt x (s.sub x hx));exact⟨w,hw⟩
 induction h with
 |@link p q t n E _ h2 h3 h4 _=>
  cases ht:TV v (.leaf t n) with
  |true=>exact⟨p,(h4 p).mpr (.inl rfl),_,bZ.leaf h2,ht⟩
  |false=>
   refine⟨q,(h4 q).mpr (.inr rfl),_,bZ.leaf h3,?_⟩;have:=i5 v (.leaf t n);rw[ht] at this;exact this
 |@ei r i j A EA E h1 hA hi hj _ h6 _ ih=>
  obtain⟨x,hx,w,hw,tv⟩:=ih;obtain⟨wi,wi'⟩:=ex hA i hi;obtain⟨wj,wj'⟩:=ex hA j hj;by_cases c1:x=i
  ·subst c1;rw[bE hw wi'] at tv;exact⟨r,(h6 r).mpr (.inr rfl),_,ES h1 wi' wj',by simp[TV,tv]⟩
  ·by_cases c2:x=j
   ·subst c2;rw[bE hw wj'] at tv;exact⟨r,(h6 r).mpr (.inr rfl),_,ES h1 wi' wj',by simp[TV,tv]⟩
   ·exact⟨x,(h6 x).mpr (.inl ⟨hx,c1,c2⟩),w,hw,tv⟩
 |@bo r i j A B EA EB E h1 hA hB hi hj h6 _ ih1 ih2=>
  obtain⟨x,hx,w,hw,tv⟩:=ih1;obtain⟨y,hy,u,hu,tu⟩:=ih2;by_cases c1:x=i
  ·by_cases c2:y=j
   ·subst c1 c2;exact⟨r,(h6 r).mpr (.inr (.inr rfl)),_,ES h1 hw hu,by simp[TV,tv,tu]⟩
   ·exact⟨y,(h6 y).mpr (.inr (.inl ⟨hy,c2⟩)),u,hu,tu⟩
  ·exact⟨x,(h6 x).mpr (.inl ⟨hx,c1⟩),w,hw,tv⟩
 |@cu p q A B EA EB E w0 hA hB hp hq hwp hwq h7 _ ih1 ih2=>
  obtain⟨x,hx,w,hw,tv⟩:=ih1;obtain⟨y,hy,u,hu,tu⟩:=ih2;by_cases c1:x=p
  ·by_cases c2:y=q
   ·subst c1 c2;rw[bE hw hwp] at tv;rw[bE hu hwq,i5,tv] at tu;cases tu
   ·exact⟨y,(h7 y).mpr (.inr ⟨hy,c2⟩),u,hu,tu⟩
  ·exact⟨x,(h7 x).mpr (.inl ⟨hx,c1⟩),w,hw,tv⟩
theorem SR.ends(hk:bU ks){E:List Nat}(h:SR ks R E):0<E.length:=by obtain⟨x,hx,_⟩:=h.tv hk fun _=>true;exact List.length_pos_of_mem hx
structure Tr where
 a:Addr
 b:Addr
 R:Ru
 E:List Nat
abbrev za(E:List Nat):List Y:=E.map fun n:Nat=>Y.int (n:Int)
def Tr.ads(t:Tr):List Addr:=[t.a,t.b]
structure ar(L0 L:ql)(ka fa:Addr)(ks:List Kn)(fo:List Tr):Prop where
 hk:L ka=some (.lst (zu ks))
 ht:∀t∈fo,L t.a=some (.lst [qm t.R,.ref t.b])/\L t.b=some (.lst (za t.E))
 sr:∀t∈fo,SR ks t.R t.E
 nd:(fo.flatMap fun t=>qk t.R).Nodup
 tm:∀x,x∈(fo.flatMap fun t=>qk t.R)↔x<ks.length
 ad:(ka::fa::fo.flatMap Tr.ads).Nodup
 ok:bU ks
 sub:qi L0 L
 fr:∀x∈ka::fa::fo.flatMap Tr.ads,L0 x=none
def zc(fo:List Tr):List Y:=fo.map fun t=>Y.ref t.a
structure mE(L0 L:ql)(ka fa:Addr)(ks:List Kn)(fo:List Tr):Prop where
 b:ar L0 L ka fa ks fo
 hf:L fa=some (.lst (zc fo))
theorem ar.perm{fo fo':List Tr}(h:ar L0 L ka fa ks fo)(p:fo.Perm fo'):ar L0 L ka fa ks fo':=by have p1:(fo.flatMap fun t=>qk t.R).Perm (fo'.flatMap fun t=>qk t.R):=p.flatMap_right _;have p2:(fo.flatMap Tr.ads).Perm (fo'.flatMap Tr.ads):=p.flatMap_right _;refine⟨h.hk,fun t ht=>h.ht t (p.mem_iff.mpr ht),fun t ht=>h.sr t (p.mem_iff.mpr ht),p1.nodup_iff.mp h.nd,fun x=>by rw[<-p1.mem_iff];exact h.tm x,((p2.cons _).cons _).nodup_iff.mp h.ad,h.ok,h.sub,fun x hx=>h.fr x (((p2.cons _).cons _).mem_iff.mpr hx)⟩
end L3
variable {fo rest:List L3.Tr}
namespace L3
open PySem L2 Words
theorem jo{α:Type}:∀{l:List α} {j:Nat} {x:α},l[j]?=some x->l.Perm (x::l.eraseIdx j)
 |[],_,_,h=>by simp at h
 |y::r,0,x,h=>by
  have:y=x:=by simpa using h
  subst this;exact .refl _
 |y::r,j+1,x,h=>by have ih:=jo (l:=r) (j:=j) (x:=x) (by simpa using h);rw[Cd];exact(ih.cons y).trans (.swap _ _ _)
theorem ix(fo:List Tr)(j:Nat):(zc fo).eraseIdx j=zc (fo.eraseIdx j):=gS _ fo j
theorem ar.step{ms:List Kn}{old:List Tr}{t':Tr}(h:ar L0 L ka fa ks (old++rest))(hk:L' ka=some (.lst (zu (ks++ms))))(ht:L' t'.a=some (.lst [qm t'.R,.ref t'.b])/\L' t'.b=some (.lst (za t'.E)))
 (keep:∀t∈rest,L' t.a=L t.a/\L' t.b=L t.b) (sub:qi L0 L') (ad:(ka::fa::(rest++[t']).flatMap Tr.ads).Nodup) (fr:∀x∈t'.ads,L0 x=none) (ok:bU (ks++ms)) (sr:SR (ks++ms) t'.R t'.E)
 (tp:(qk t'.R).Perm (List.range' ks.length ms.length++old.flatMap fun t=>qk t.R)):ar L0 L' ka fa (ks++ms) (rest++[t']):=by
 have hnd:=h.nd;have htm:=h.tm;rw[AF] at hnd;have e1:((rest++[t']).flatMap fun t=>qk t.R)=(rest.flatMap fun t=>qk t.R)++qk t'.R:=by rw[AF];simp
 have mem:∀x,x∈qk t'.R↔(ks.length≤x/\x<ks.length+ms.length)\/x∈(old.flatMap fun t=>qk t.R):=fun x=>by rw[tp.mem_iff,Ak,CY]
 refine⟨hk,fun t h'=>?_,fun t h'=>?_,?_,fun x=>?_,ad,ok,sub,fun x hx=>?_⟩
 ·rcases Ak.mp h' with h' | h'
  ·obtain⟨k1,k2⟩:=keep t h';rw[k1,k2];exact h.ht t (Af _ h')
  ·rw[Ao.mp h'];exact ht
 ·rcases Ak.mp h' with h' | h'
  ·exact(h.sr t (Af _ h')).more _
  ·rw[Ao.mp h'];exact sr
 ·rw[e1,Aq];rw[Aq] at hnd;refine⟨hnd.2.1,tp.nodup_iff.mpr ?_,fun x hx y hy e=>?_⟩
  ·rw[Aq];refine⟨Dw,hnd.1,fun x hx y hy e=>?_⟩;have hx:=CY.mp hx;have hy:=(htm y).mp (by rw[AF];exact Av _ hy);lia
  ·subst e;rcases (mem x).mp hy with hy | hy
   ·have:=(htm x).mp (by rw[AF];exact Af _ hx);lia
   ·exact hnd.2.2 x hy x hx rfl
 ·rw[e1,Ak,mem,Ac];have h1:=htm x;rw[AF,Ak] at h1;constructor
  ·rintro(h2 | h2 | h2)
   ·have:=h1.mp (.inr h2);exact ako
   ·lia
   ·have:=h1.mp (.inl h2);lia
  ·intro h2;by_cases c:x<ks.length
   ·rcases h1.mpr c with h3 | h3
    ·exact .inr (.inr h3)
    ·exact .inl h3
   ·exact .inr (.inl (by lia))
 ·rcases Au.mp hx with rfl | hx
  ·exact h.fr _ (An ..)
  ·rcases Au.mp hx with rfl | hx
   ·exact h.fr _ (Ag _ (An ..))
   ·rw[AF] at hx;rcases Ak.mp hx with hx | hx
    ·exact h.fr _ (Ag _ (Ag _ (by rw[AF];exact Af _ hx)))
    ·exact fr x (by simpa using hx)
def oW:ja:=fun ys L Q=>∃L0 ka fa ks fo,∃one two:Int,ys=[.ref ka,.ref fa,.int one,.int two]/\mE L0 L ka fa ks fo/\2≤fo.length/\fo.length≤200/\ks.length≤200/\
 ∀L' ks' fo',mE L0 L' ka fa ks' fo'->ks'.length=ks.length+1->fo'.length+1=fo.length->Q .non L'
theorem kK{l:List α}(h:0<l.length)(k:Int):∃(j:Nat) (x:α),k % (l.length:Int)=(j:Int)/\j<l.length/\l[j]?=some x:=by have h0:0≤k % (l.length:Int):=DO _ (by lia);have h1:k % (l.length:Int)<(l.length:Int):=Int.emod_lt_of_pos _ (by omega);refine⟨(k % (l.length:Int)).toNat,l[(k % (l.length:Int)).toNat]'(by lia),by lia,by lia,Aj (by lia)⟩
theorem af:∀(n:Nat) (l:List Nat),l.Nodup->(∀x∈l,x<n)->l.length≤n
 |0,l,_,h=>by cases l with|nil=>exact Al _|cons x r=>exact absurd (h x (An ..)) (by lia)
 |n+1,l,nd,h=>by
  by_cases c:n∈l
  ·have p:=List.perm_cons_erase c;have ih:=af n (l.erase n) (nd.erase n) fun x hx=>by have:=(List.Nodup.mem_erase_iff nd).mp hx;have:=h x this.2;lia
   rw[p.length_eq,AJ];exact ai0
  ·exact B6 (af n l nd fun x hx=>by have:=h x hx;have:x≠n:=fun e=>c (e▸hx);lia)
theorem aW(h:ar L0 L ka fa ks fo){t:Tr}(ht:t∈fo):0<t.E.length/\t.E.length≤ks.length:=by have s:=h.sr t ht;exact⟨s.ends h.ok,af _ _ s.nod fun x hx=>s.lt x (s.sub x hx)⟩
theorem adr(x l r:Nat):sn (eI (.int (x:Int))) (([.int (l:Int),.int (r:Int)]:List Y).map eI)=decide (x=l\/x=r):=by
 show(fi (.int (l:Int)) (.int (x:Int))||(fi (.int (r:Int)) (.int (x:Int))||false))=_;have e:∀a b:Nat,fi (.int (a:Int)) (.int (b:Int))=decide (b=a):=fun a b=>by
  show decide ((a:Int)=(b:Int))=decide (b=a);by_cases c:b=a
  ·subst c;simp
  ·rw[Az c];apply Az;lia
 rw[e,e];by_cases h1:x=l<;>by_cases h2:x=r<;>simp[h1,h2]
theorem oS{E:List Nat}(h:0<E.length)(k:Int):∃x,x∈E/\fv (za E) (k % ((za E).length:Int))=some (.int ((x:Nat):Int)):=by obtain⟨j,x,ej,lj,ex⟩:=kK h k;refine⟨x,AI ex,?_⟩;rw[Ae,ej];exact vh (by rw[Ap,ex];rfl)
def jv(E1 E2:List Nat)(l r:Nat):List Nat:=(E1++E2).filter fun x=>!decide (x=l\/x=r)
theorem zR{pp:Addr}{E:List Nat}{l r k:Nat}{Q:YK}(hp:L pp=some (.lst (za E)))(hlen:E.length≤1000)
 (ht:∀y (Q':Bool->ql->Prop),lM true y (.tup [.int (l:Int),.int (r:Int)]) L (fun x L'=>match x with | .bl c=>Q' c L' | _=>False)->tc (df (τ++List.replicate 1 none) k y) L Q')
 (hv:∀y,wS (df (τ++List.replicate 1 none) k y) k=some y)
 (hq:∀p,L p=none->Q (.ref p) (qf L p (.lst (za (E.filter fun x=>!decide (x=l\/x=r)))))):
 pD L pp fun ys keep L2=>lcK ys keep 1 (qh k) tc (qc k) τ L2 Q:=by
 refine x0 hp fun keep kp=>aj (fun j zs=>zs=za ((E.take j).filter fun x=>!decide (x=l\/x=r))) (by rw[Ae];exact m9 hlen) (kp L rfl) rfl ?_ ?_
 ·rintro j y _ ey rfl;obtain⟨x,ex,rfl⟩:∃x:Nat,E[j]?=some x/\y=Y.int (x:Int):=by rw[Ap] at ey;obtain⟨x,e1,e2⟩:=Aw.mp ey;exact⟨x,e1,e2.symm⟩
  refine ht _ _ ⟨rfl,rfl,?_⟩;rw[adr];show ko (!decide (x=l\/x=r)) _ _;have et:(E.take (j+1)).filter (fun x=>!decide (x=l\/x=r))=(E.take j).filter (fun x=>!decide (x=l\/x=r))++[x].filter (fun x=>!decide (x=l\/x=r)):=by rw[Bh,ex,CM];rfl
  by_cases c:x=l\/x=r
  ·refine al (by rw[AG c];rfl) ?_;refine frg ⟨rfl,?_⟩;rw[et,List.filter_cons_of_neg (by simp[c]),Dh,AV]
  ·refine ak (by rw[Az c];rfl) ?_;unfold qc;rw[hv];refine frg ⟨rfl,?_⟩;rw[et,List.filter_cons_of_pos (by simp[c]),Dh];unfold za;rw[AC];rfl
 ·rintro _ rfl p hp';rw[Ae,Bt];exact hq p hp'
theorem sT{k:Int}(hf:L fa=some (.lst (zc fo)))(h:0<fo.length):∃(j:Nat) (t:Tr),fo[j]?=some t/\0≤k % ((zc fo).length:Int)/\k % ((zc fo).length:Int)<((zc fo).length:Int)/\
 (zc fo)[(k % ((zc fo).length:Int)).toNat]?=some (.ref t.a)/\qf L fa (.lst ((zc fo).eraseIdx (k % ((zc fo).length:Int)).toNat)) fa=some (.lst (zc (fo.eraseIdx j))):=by
 obtain⟨j,t,ej,lj,et⟩:=kK h k;have e:(zc fo).length=fo.length:=Ae ..;rw[e,ej];refine⟨j,t,et,by exact Bf _,by lia,?_,?_⟩
 ·show(zc fo)[j]?=_;unfold zc;rw[Ap,et];rfl
 ·rw[q9];show some (LO.lst ((zc fo).eraseIdx j))=_;rw[ix]
theorem ar.two{t1 t2:Tr}(h:ar L0 L ka fa ks (t1::t2::rest)):∀x,x∈qk t1.R->x∈qk t2.R->False:=by intro x h1 h2;have nd:=h.nd;rw[AW,AW,Aq] at nd;exact nd.2.2 x h1 x (Av _ h2) rfl
theorem oZ{E1 E2:List Nat}{l r:Nat}(hl:l∉E2)(hr:r∉E1)(x:Nat):x∈jv E1 E2 l r↔(x∈E1/\x≠l)\/(x∈E2/\x≠r):=by
 unfold jv;rw[AX,Ak];constructor
 ·rintro⟨h,c⟩;have c:¬(x=l\/x=r):=by simpa using c
  rcases h with h | h
  ·exact .inl ⟨h,fun e=>c (.inl e)⟩
  ·exact .inr ⟨h,fun e=>c (.inr e)⟩
 ·rintro(⟨h,c⟩ | ⟨h,c⟩)
  ·refine⟨.inl h,?_⟩;have:x≠r:=fun e=>hr (e▸h);simp[c,this]
  ·refine⟨.inr h,?_⟩;have:x≠l:=fun e=>hl (e▸h);simp[c,this]
theorem nZ{E1 E2:List Nat}{l r:Nat}(h1:E1.Nodup)(h2:E2.Nodup)(d:∀x,x∈E1->x∈E2->False):(jv E1 E2 l r).Nodup:=by
 unfold jv;have h:(E1++E2).Nodup:=by rw[Aq];exact⟨h1,h2,fun x hx y hy e=>d x hx (e▸hy)⟩
 exact List.Pairwise.filter _ h
theorem ae3:∀ys L Q,oW ys L Q->jx agr 9 ys L Q:=by
 rintro ys L Q ⟨L0,ka,fa,ks,fo,one,two,rfl,F,h2,h200,hk200,q⟩;have big:=bg_;have lenR:∀fo:List Tr,(zc fo).length=fo.length:=fun fo=>Ae ..;obtain⟨j1,t1,at1,a1,a2,a3,hf1⟩:=sT (k:=two) F.hf (by exact fF);have l1:(fo.eraseIdx j1).length+1=fo.length:=by have:=(jo at1).length_eq;rw[AJ] at this;lia
 refine qd F.hf (qd F.hf ⟨(by show(0:Int)<((zc fo).length:Int);rw[lenR];lia),qy F.hf ⟨a1,a2,qo a3 ?_⟩⟩);have old1:∀b o,b≠fa->L b=some o->qf L fa (.lst ((zc fo).eraseIdx (two % ((zc fo).length:Int)).toNat)) b=some o:=fun b o nb e=>by rw[qa nb];exact e
 generalize qf L fa (.lst ((zc fo).eraseIdx (two % ((zc fo).length:Int)).toNat))=L1 at hf1 old1;obtain⟨j2,t2,at2,b1,b2,b3,hf2⟩:=sT (k:=one) hf1 (by lia);have l2:((fo.eraseIdx j1).eraseIdx j2).length+1=(fo.eraseIdx j1).length:=by have:=(jo at2).length_eq;rw[AJ] at this;lia
 refine qd hf1 (qd hf1 ⟨(by show(0:Int)<((zc (fo.eraseIdx j1)).length:Int);rw[lenR];lia),qy hf1 ⟨b1,b2,qo b3 ?_⟩⟩);have old2:∀b o,b≠fa->L b=some o->qf L1 fa (.lst ((zc (fo.eraseIdx j1)).eraseIdx (one % ((zc (fo.eraseIdx j1)).length:Int)).toNat)) b=some o:=fun b o nb e=>by rw[qa nb];exact old1 b o nb e
 generalize qf L1 fa (.lst ((zc (fo.eraseIdx j1)).eraseIdx (one % ((zc (fo.eraseIdx j1)).length:Int)).toNat))=L2 at hf2 old2;have B:ar L0 L ka fa ks (t1::t2::(fo.eraseIdx j1).eraseIdx j2):=F.b.perm ((jo at1).trans ((jo at2).cons _));generalize (fo.eraseIdx j1).eraseIdx j2=rest at l2 hf2 B;clear hf1 old1 a1 a2 a3 b1 b2 b3;have m1:t1∈t1::t2::rest:=by simp
 have m2:t2∈t1::t2::rest:=by simp
 have ad:=B.ad;have nk:∀t∈t1::t2::rest,t.a≠fa/\t.b≠fa/\t.a≠ka/\t.b≠ka:=fun t ht=>by rw[Ax,Ax] at ad;have ma:t.a∈(t1::t2::rest).flatMap Tr.ads:=A6.mpr ⟨t,ht,by simp[Tr.ads]⟩;have mb:t.b∈(t1::t2::rest).flatMap Tr.ads:=A6.mpr ⟨t,ht,by simp[Tr.ads]⟩;exact⟨fun e=>ad.2.1 (e▸ma),fun e=>ad.2.1 (e▸mb),fun e=>ad.1 (Ag _ (e▸ma)),fun e=>ad.1 (Ag _ (e▸mb))⟩
 have nkf:ka≠fa:=by rw[Ax] at ad;exact fun e=>ad.1 (e▸An ..)
 have hk2:L2 ka=some (.lst (zu ks)):=old2 ka _ nkf B.hk;have ta1:=old2 t1.a _ (nk t1 m1).1 (B.ht t1 m1).1;have tb1:=old2 t1.b _ (nk t1 m1).2.1 (B.ht t1 m1).2;have ta2:=old2 t2.a _ (nk t2 m2).1 (B.ht t2 m2).1;have tb2:=old2 t2.b _ (nk t2 m2).2.1 (B.ht t2 m2).2;have le1:=aW B m1;have le2:=aW B m2;obtain⟨x,hx,ex⟩:=oS le1.1 (two / 64);obtain⟨y,hy,ey⟩:=oS le2.1 (one / 64);refine qd ta1 ⟨⟨by decide,by decide⟩,qd ta1 (qd tb1 ⟨(by show(0:Int)<((za t1.E).length:Int);rw[Ae];omega),qd tb1 (qo ex ?_)⟩)⟩;refine qd ta2 ⟨⟨by decide,by decide⟩,qd ta2 (qd tb2 ⟨(by show(0:Int)<((za t2.E).length:Int);rw[Ae];omega),qd tb2 (qo ey ?_)⟩)⟩;refine qd hk2 (qy hk2 ⟨big _ (by rw[Ae];exact vQ),?_⟩);have ek:zu ks++[.tup [.str "both",.int ((x:Nat):Int),.int ((y:Nat):Int)]]=zu (ks++[.nd false x y]):=by unfold zu;rw[AC];rfl
 rw[ek];have hk3:qf L2 ka (.lst (zu (ks++[.nd false x y]))) ka=some (.lst (zu (ks++[.nd false x y]))):=q9;have old3:∀b o,b≠ka->L2 b=some o->qf L2 ka (.lst (zu (ks++[.nd false x y]))) b=some o:=fun b o nb e=>by rw[qa nb];exact e
 generalize qf L2 ka (.lst (zu (ks++[.nd false x y])))=L3 at hk3 old3;have ta1:=old3 _ _ (nk t1 m1).2.2.1 ta1;have tb1:=old3 _ _ (nk t1 m1).2.2.2 tb1;have ta2:=old3 _ _ (nk t2 m2).2.2.1 ta2;have tb2:=old3 _ _ (nk t2 m2).2.2.2 tb2;have hf3:=old3 _ _ (AK nkf) hf2;refine qd ta1 (qd ta2 ⟨_,_,tb1,tb2,small (by rw[Ae,Ae];lia),fun pp hpp=>?_⟩);have en:za t1.E++za t2.E=za (t1.E++t2.E):=by unfold za;rw[AC]
 rw[en];refine zR (E:=t1.E++t2.E) (l:=x) (r:=y) (k:=9) q9 (by rw[Ac];lia) (fun y' Q' h=>h) (fun _=>rfl) fun pe hpe=>?_;have s4:qi L3 (qf (qf L3 pp (.lst (za (t1.E++t2.E)))) pe (.lst (za ((t1.E++t2.E).filter fun z=>!decide (z=x\/z=y))))):=(By hpp).trans (By hpe);have he4:qf (qf L3 pp (.lst (za (t1.E++t2.E)))) pe (.lst (za ((t1.E++t2.E).filter fun z=>!decide (z=x\/z=y)))) pe=some (.lst (za (jv t1.E t2.E x y))):=q9;generalize qf (qf L3 pp (.lst (za (t1.E++t2.E)))) pe (.lst (za ((t1.E++t2.E).filter fun z=>!decide (z=x\/z=y))))=L4 at s4 he4;have hk4:=s4 _ _ hk3;have hf4:=s4 _ _ hf3;have nn:(((zu (ks++[.nd false x y])).length:Nat):Int) - 1=((ks.length:Nat):Int):=by rw[Ae,Ac];simp
 refine qd hf4 (qd hk4 (qd (s4 _ _ ta1) (qd (s4 _ _ ta2) (qd hk4 fun pn hpn=>?_))));refine⟨_,_,By hpn _ _ he4,q9,small (by have:=nZ (l:=x) (r:=y) (B.sr t1 m1).nod (B.sr t2 m2).nod (fun z h1 h2=>B.two z ((B.sr t1 m1).sub z h1) ((B.sr t2 m2).sub z h2));have:=List.length_filter_le (fun z=>!decide (z=x\/z=y)) (t1.E++t2.E);rw[Ac] at this;rw[Ae];unfold jv;show _+1≤1000;lia),fun pb hpb pa hpa=>?_⟩;have s7:=(By (o:=.lst [.int ((((zu (ks++[.nd false x y])).length:Nat):Int) - 1)]) hpn).trans ((By (o:=.lst (za (jv t1.E t2.E x y)++[.int ((((zu (ks++[.nd false x y])).length:Nat):Int) - 1)])) hpb).trans (By (o:=.lst [.tup [.str "both",.int ((((zu (ks++[.nd false x y])).length:Nat):Int) - 1),qm t1.R,qm t2.R],.ref pb]) hpa));refine qy (s7 _ _ hf4) ⟨big _ (by rw[lenR];lia),?_⟩;have nab:pb≠pa:=ke q9 hpa;have hpa7:∀L6:ql,qf L6 pa (.lst [.tup [.str "both",.int ((((zu (ks++[.nd false x y])).length:Nat):Int) - 1),qm t1.R,qm t2.R],.ref pb]) pa=some (.lst [qm (.bo ks.length t1.R t2.R),.ref pb]):=fun L6=>by rw[q9,nn];rfl
 have hpb7:∀L5 o,qf (qf L5 pb (.lst (za (jv t1.E t2.E x y)++[.int ((((zu (ks++[.nd false x y])).length:Nat):Int) - 1)]))) pa o pb=some (.lst (za (jv t1.E t2.E x y++[ks.length]))):=fun L5 o=>by rw[qa nab,q9,nn];unfold za;rw[AC];rfl
 have ea:=hpa7 (qf (qf L4 pn (.lst [.int ((((zu (ks++[.nd false x y])).length:Nat):Int) - 1)])) pb (.lst (za (jv t1.E t2.E x y)++[.int ((((zu (ks++[.nd false x y])).length:Nat):Int) - 1)])));have eb:=hpb7 (qf L4 pn (.lst [.int ((((zu (ks++[.nd false x y])).length:Nat):Int) - 1)])) (.lst [.tup [.str "both",.int ((((zu (ks++[.nd false x y])).length:Nat):Int) - 1),qm t1.R,qm t2.R],.ref pb]);have na4:L4 pa=none:=by cases z:L4 pa with|none=>rfl|some o=>rw[((By hpn).trans (By hpb)) _ _ z] at hpa;cases hpa
 have nb4:L4 pb=none:=by cases z:L4 pb with|none=>rfl|some o=>rw[(By hpn) _ _ z] at hpb;cases hpb
 generalize qf (qf (qf L4 pn (.lst [.int ((((zu (ks++[.nd false x y])).length:Nat):Int) - 1)])) pb (.lst (za (jv t1.E t2.E x y)++[.int ((((zu (ks++[.nd false x y])).length:Nat):Int) - 1)]))) pa (.lst [.tup [.str "both",.int ((((zu (ks++[.nd false x y])).length:Nat):Int) - 1),qm t1.R,qm t2.R],.ref pb])=L7 at s7 ea eb;clear hpn hpb hpa hpa7 hpb7 he4;have up:∀b o,b≠fa->b≠ka->L b=some o->L4 b=some o:=fun b o n1 n2 e=>s4 _ _ (old3 _ _ n2 (old2 _ _ n1 e));have hf7:=s7 _ _ hf4;have npa:pa≠fa:=fun e=>by rw[e,hf4] at na4;cases na4
 have npb:pb≠fa:=fun e=>by rw[e,hf4] at nb4;cases nb4
 have s1:=B.sr t1 m1;have s2:=B.sr t2 m2;have dis:∀z,z∈t1.E->z∈t2.E->False:=fun z h1 h2=>B.two z (s1.sub z h1) (s2.sub z h2);refine js (q _ (ks++[.nd false x y]) (rest++[⟨pa,pb,.bo ks.length t1.R t2.R,jv t1.E t2.E x y++[ks.length]⟩]) ⟨?_,?_⟩ (by rw[Ac];rfl) (by rw[Ac];simp;lia))
 ·refine ar.step (old:=[t1,t2]) (t':=⟨pa,pb,.bo ks.length t1.R t2.R,jv t1.E t2.E x y++[ks.length]⟩) B ?_ ⟨?_,?_⟩ (fun t ht=>?_) (fun b o e=>?_) ?_ (fun z hz=>?_) ?_ ?_ ?_
  ·rw[qa nkf];exact s7 _ _ hk4
  ·rw[qa npa];exact ea
  ·rw[qa npb];exact eb
  ·have mt:t∈t1::t2::rest:=Ag _ (Ag _ ht);obtain⟨n1,n2,n3,n4⟩:=nk t mt;obtain⟨h1,h2⟩:=B.ht t mt;rw[h1,h2,qa n1,qa n2];exact⟨s7 _ _ (up _ _ n1 n3 h1),s7 _ _ (up _ _ n2 n4 h2)⟩
  ·have n1:b≠ka:=fun z=>by rw[z,B.fr ka (by simp)] at e;cases e
   have n2:b≠fa:=fun z=>by rw[z,B.fr fa (by simp)] at e;cases e
   rw[qa n2];exact s7 _ _ (up _ _ n2 n1 (B.sub _ _ e))
  ·rw[Ax,Ax] at ad;obtain⟨d1,d2,d3⟩:=ad;have d3':(rest.flatMap Tr.ads).Nodup:=by rw[AW,AW,Aq,Aq] at d3;exact d3.2.1.2.1
   have inn:∀z∈rest.flatMap Tr.ads,z∈(t1::t2::rest).flatMap Tr.ads:=fun z hz=>by rw[AW,AW];exact Af _ (Af _ hz)
   have ex4:∀z∈rest.flatMap Tr.ads,∃o,L4 z=some o:=fun z hz=>by
    obtain⟨t,ht,hz⟩:=A6.mp hz;have mt:t∈t1::t2::rest:=Ag _ (Ag _ ht);obtain⟨n1,n2,n3,n4⟩:=nk t mt;obtain⟨h1,h2⟩:=B.ht t mt;have hz:z=t.a\/z=t.b:=by simpa[Tr.ads] using hz
    rcases hz with rfl | rfl
    ·exact⟨_,up _ _ n1 n3 h1⟩
    ·exact⟨_,up _ _ n2 n4 h2⟩
   have npk:pa≠ka:=fun e=>by rw[e,hk4] at na4;cases na4
   have nbk:pb≠ka:=fun e=>by rw[e,hk4] at nb4;cases nb4
   have nra:pa∉rest.flatMap Tr.ads:=fun hz=>by obtain⟨o,e⟩:=ex4 _ hz;rw[na4] at e;cases e
   have nrb:pb∉rest.flatMap Tr.ads:=fun hz=>by obtain⟨o,e⟩:=ex4 _ hz;rw[nb4] at e;cases e
   rw[AF];rw[Ax,Ax,Aq];refine⟨?_,?_,d3',?_,?_⟩
   ·intro z;rcases Au.mp z with z | z
    ·exact nkf z
    ·rcases Ak.mp z with z | z
     ·exact d1 (Ag _ (inn _ z))
     ·simp[Tr.ads] at z;rcases z with z | z;exact npk z.symm;exact nbk z.symm
   ·intro z;rcases Ak.mp z with z | z
    ·exact d2 (inn _ z)
    ·simp[Tr.ads] at z;rcases z with z | z;exact npa z.symm;exact npb z.symm
   ·simp[Tr.ads];exact AK nab
   ·intro u hu v hv e;simp[Tr.ads] at hv;subst e;rcases hv with rfl | rfl
    ·exact nra hu
    ·exact nrb hu
  ·have hz:z=pa\/z=pb:=by simpa[Tr.ads] using hz
   cases w:L0 z with
   |none=>rfl
   |some o=>
    have n1:z≠ka:=fun e=>by rw[e,B.fr ka (by simp)] at w;cases w
    have n2:z≠fa:=fun e=>by rw[e,B.fr fa (by simp)] at w;cases w
    have:=up _ _ n2 n1 (B.sub _ _ w);rcases hz with rfl | rfl
    ·rw[na4] at this;cases this
    ·rw[nb4] at this;cases this
  ·exact B.ok.snoc ⟨s1.lt x (s1.sub x hx),s2.lt y (s2.sub y hy)⟩
  ·refine .bo (cg _ _ _) (s1.more _) (s2.more _) hx hy (fun z=>?_) ?_
   ·rw[Ak,oZ (fun h=>dis x hx h) (fun h=>dis y h hy),Ao];constructor
    ·rintro((h | h) | h)
     ·exact .inl h
     ·exact .inr (.inl h)
     ·exact .inr (.inr h)
    ·rintro(h | h | h)
     ·exact .inl (.inl h)
     ·exact .inl (.inr h)
     ·exact .inr h
   ·rw[Aq];refine⟨nZ s1.nod s2.nod dis,by simp,fun u hu v hv e=>?_⟩;rw[Ao.mp hv] at e;have:=(oZ (fun h=>dis x hx h) (fun h=>dis y h hy) u).mp hu;rcases this with⟨h,_⟩ | ⟨h,_⟩
    ·have:=s1.lt u (s1.sub u h);lia
    ·have:=s2.lt u (s2.sub u h);lia
  ·show(ks.length::(qk t1.R++qk t2.R)).Perm (List.range' ks.length 1++([t1,t2].flatMap fun t=>qk t.R));simp[DD]
 ·rw[q9];unfold zc;rw[AC];rfl
theorem oz{E:List Nat}{k:Int}(h:0<E.length):∃(j x:Nat),E[j]?=some x/\0≤k % ((za E).length:Int)/\k % ((za E).length:Int)<((za E).length:Int)/\
 (za E)[(k % ((za E).length:Int)).toNat]?=some (.int ((x:Nat):Int))/\(za E).eraseIdx (k % ((za E).length:Int)).toNat=za (E.eraseIdx j):=by
 obtain⟨j,x,ej,lj,et⟩:=kK h k;have e:(za E).length=E.length:=Ae ..;rw[e,ej];refine⟨j,x,et,by exact Bf _,by lia,?_,?_⟩
 ·show(za E)[j]?=_;rw[Ap,et];rfl
 ·exact gS _ E j
def jV:ja:=fun ys L Q=>∃L0 ka fa ks,∃pre post:List Tr,∃t:Tr,∃one two:Int,ys=[.ref ka,.ref t.a,.int one,.int two]/\mE L0 L ka fa ks (pre++t::post)/\ks.length≤200/\
 ∀L' ks' fo',mE L0 L' ka fa ks' fo'->ks'.length≤ks.length+1->fo'.length=(pre++t::post).length->Q .non L'
theorem aad:∀ys L Q,jV ys L Q->jx adg 6 ys L Q:=by
 rintro ys L Q ⟨L0,ka,fa,ks,pre,post,t,one,two,rfl,F,hk200,q⟩;have big:=bg_;have mt:t∈pre++t::post:=by simp
 have B:=F.b;obtain⟨ta,tb⟩:=B.ht t mt;have le:=aW B mt;have s:=B.sr t mt;have lenE:∀E:List Nat,(za E).length=E.length:=fun E=>Ae ..;refine qd ta (qd tb ?_);refine xc (fun c=>?_) fun c=>?_
 ·exact js (q L ks _ F (BS _) rfl)
 have c:¬(((za t.E).length:Int)<2):=c;rw[lenE] at c;have ad:=B.ad;have nkf:ka≠fa:=by rw[Ax] at ad;exact fun e=>ad.1 (e▸An ..)
 have nk:∀u∈pre++t::post,u.a≠fa/\u.b≠fa/\u.a≠ka/\u.b≠ka:=fun u hu=>by rw[Ax,Ax] at ad;have ma:u.a∈(pre++t::post).flatMap Tr.ads:=A6.mpr ⟨u,hu,by simp[Tr.ads]⟩;have mb:u.b∈(pre++t::post).flatMap Tr.ads:=A6.mpr ⟨u,hu,by simp[Tr.ads]⟩;exact⟨fun e=>ad.2.1 (e▸ma),fun e=>ad.2.1 (e▸mb),fun e=>ad.1 (Ag _ (e▸ma)),fun e=>ad.1 (Ag _ (e▸mb))⟩
 have nab:t.a≠t.b:=by rw[Ax,Ax,AF,AW,Aq,Aq] at ad;have:=ad.2.2.2.1.1;simpa[Tr.ads] using this
 obtain⟨j1,x,e1,a1,a2,a3,a4⟩:=oz (k:=two) le.1;refine qd ta (qd tb (qd ta (qd tb ⟨(by show(0:Int)<((za t.E).length:Int);rw[lenE];omega),qy tb ⟨a1,a2,qo a3 ?_⟩⟩)));rw[a4];have lE1:(t.E.eraseIdx j1).length+1=t.E.length:=by have:=(jo e1).length_eq;rw[AJ] at this;lia
 have ta1:qf L t.b (.lst (za (t.E.eraseIdx j1))) t.a=some (.lst [qm t.R,.ref t.b]):=by rw[qa nab];exact ta
 obtain⟨j2,y,e2,b1,b2,b3,b4⟩:=oz (E:=t.E.eraseIdx j1) (k:=one) (by lia);refine qd ta1 (qd q9 (qd ta1 (qd q9 ⟨(by show(0:Int)<((za (t.E.eraseIdx j1)).length:Int);rw[lenE];omega),qy q9 ⟨b1,b2,qo b3 ?_⟩⟩)));rw[b4,xr];have lE2:((t.E.eraseIdx j1).eraseIdx j2).length+1=(t.E.eraseIdx j1).length:=by have:=(jo e2).length_eq;rw[AJ] at this;lia
 have pE:t.E.Perm (x::y::(t.E.eraseIdx j1).eraseIdx j2):=(jo e1).trans ((jo e2).cons _);generalize (t.E.eraseIdx j1).eraseIdx j2=E2 at lE2 pE;have hk1:qf L t.b (.lst (za E2)) ka=some (.lst (zu ks)):=by rw[qa (AK (nk t mt).2.2.2)];exact B.hk
 refine qd hk1 (qy hk1 ⟨big _ (by rw[Ae];exact vQ),?_⟩);have ek:zu ks++[.tup [.str "either",.int ((x:Nat):Int),.int ((y:Nat):Int)]]=zu (ks++[.nd true x y]):=by unfold zu;rw[AC];rfl
 rw[ek];have nn:(((zu (ks++[.nd true x y])).length:Nat):Int) - 1=((ks.length:Nat):Int):=by rw[Ae,Ac];simp
 have ta2:qf (qf L t.b (.lst (za E2))) ka (.lst (zu (ks++[.nd true x y]))) t.a=some (.lst [qm t.R,.ref t.b]):=by rw[qa (nk t mt).2.2.1,qa nab];exact ta
 refine qd q9 (qd ta2 ?_);refine qy ta2 (qo (v:=0) rfl ?_);have ha3:qf (qf (qf L t.b (.lst (za E2))) ka (.lst (zu (ks++[.nd true x y])))) t.a (.lst ([qm t.R,.ref t.b].set 0 (.tup [.str "either",.int ((((zu (ks++[.nd true x y])).length:Nat):Int) - 1),qm t.R]))) t.a=some (.lst [qm (.ei ks.length t.R),.ref t.b]):=by rw[q9,nn];rfl
 have hk3:∀o,qf (qf (qf L t.b (.lst (za E2))) ka (.lst (zu (ks++[.nd true x y])))) t.a o ka=some (.lst (zu (ks++[.nd true x y]))):=fun o=>by rw[qa (AK (nk t mt).2.2.1)];exact q9
 have tb3:∀o,qf (qf (qf L t.b (.lst (za E2))) ka (.lst (zu (ks++[.nd true x y])))) t.a o t.b=some (.lst (za E2)):=fun o=>by rw[qa (AK nab),qa (nk t mt).2.2.2];exact q9
 have old3:∀o b u,b≠t.a->b≠t.b->b≠ka->L b=some u->qf (qf (qf L t.b (.lst (za E2))) ka (.lst (zu (ks++[.nd true x y])))) t.a o b=some u:=fun o b u n1 n2 n3 e=>by rw[qa n1,qa n3,qa n2];exact e
 have hk3:=hk3 (.lst ([qm t.R,.ref t.b].set 0 (.tup [.str "either",.int ((((zu (ks++[.nd true x y])).length:Nat):Int) - 1),qm t.R])));have tb3:=tb3 (.lst ([qm t.R,.ref t.b].set 0 (.tup [.str "either",.int ((((zu (ks++[.nd true x y])).length:Nat):Int) - 1),qm t.R])));have old3:=old3 (.lst ([qm t.R,.ref t.b].set 0 (.tup [.str "either",.int ((((zu (ks++[.nd true x y])).length:Nat):Int) - 1),qm t.R])));generalize qf (qf (qf L t.b (.lst (za E2))) ka (.lst (zu (ks++[.nd true x y])))) t.a (.lst ([qm t.R,.ref t.b].set 0 (.tup [.str "either",.int ((((zu (ks++[.nd true x y])).length:Nat):Int) - 1),qm t.R])))=L3 at ha3 hk3 tb3 old3;refine qd ha3 (qd tb3 (qd hk3 (qy tb3 ⟨big _ (by rw[lenE];lia),?_⟩)));have en:za E2++[.int ((((zu (ks++[.nd true x y])).length:Nat):Int) - 1)]=za (E2++[ks.length]):=by rw[nn];unfold za;rw[AC];rfl
 have nxy:=pE.nodup_iff.mp s.nod;rw[Ax,Ax] at nxy;have hx:x∈t.E:=pE.mem_iff.mpr (by simp);have hy:y∈t.E:=pE.mem_iff.mpr (by simp);have adT:∀u∈pre++post,u.a≠t.a/\u.a≠t.b/\u.b≠t.a/\u.b≠t.b:=fun u hu=>by have p:(pre++t::post).Perm (t::(pre++post)):=Cz;have ad2:=(p.flatMap_right Tr.ads).nodup_iff.mp (by rw[Ax,Ax] at ad;exact ad.2.2);rw[AW,Aq] at ad2;have k:=ad2.2.2;have ma:u.a∈(pre++post).flatMap Tr.ads:=A6.mpr ⟨u,hu,by simp[Tr.ads]⟩;have mb:u.b∈(pre++post).flatMap Tr.ads:=A6.mpr ⟨u,hu,by simp[Tr.ads]⟩;exact⟨fun e=>k t.a (by simp[Tr.ads]) u.a ma e.symm,fun e=>k t.b (by simp[Tr.ads]) u.a ma e.symm,fun e=>k t.a (by simp[Tr.ads]) u.b mb e.symm,fun e=>k t.b (by simp[Tr.ads]) u.b mb e.symm⟩
 refine js (q _ (ks++[.nd true x y]) (pre++⟨t.a,t.b,.ei ks.length t.R,E2++[ks.length]⟩::post) ⟨?_,?_⟩ (by rw[Ac];exact Al _) (by simp))
 ·have B':=B.perm (fo':=[t]++(pre++post)) Cz;have st:=ar.step (old:=[t]) (rest:=pre++post) (t':=⟨t.a,t.b,.ei ks.length t.R,E2++[ks.length]⟩) (ms:=[.nd true x y]) (L':=qf L3 t.b (.lst (za E2++[.int ((((zu (ks++[.nd true x y])).length:Nat):Int) - 1)]))) B' ?_ ⟨?_,?_⟩ (fun u hu=>?_) (fun b o e=>?_) ?_ (fun z hz=>?_) ?_ ?_ ?_
  ·exact st.perm (by have p1:((pre++post)++[(⟨t.a,t.b,.ei ks.length t.R,E2++[ks.length]⟩:Tr)]).Perm ((⟨t.a,t.b,.ei ks.length t.R,E2++[ks.length]⟩:Tr)::(pre++post)):=BY _ _;exact p1.trans Cz.symm)
  ·rw[qa (AK (nk t mt).2.2.2)];exact hk3
  ·rw[qa nab];exact ha3
  ·rw[q9,en]
  ·have hu':u∈pre++t::post:=by rcases Ak.mp hu with h | h;exact Av _ h;exact Af _ (Ag _ h)
   obtain⟨n1,n2,n3,n4⟩:=adT u hu;obtain⟨k1,k2,k3,k4⟩:=nk u hu';obtain⟨h1,h2⟩:=B.ht u hu';rw[h1,h2,qa n2,qa n4];exact⟨old3 _ _ n1 n2 k3 h1,old3 _ _ n3 n4 k4 h2⟩
  ·have fr:=B.fr;have n0:∀z,L0 z=none->b≠z:=fun z hz w=>by rw[w,hz] at e;cases e
   have n1:=n0 ka (fr ka (by simp));have n2:=n0 t.a (fr t.a (by simp[Tr.ads]));have n3:=n0 t.b (fr t.b (by simp[Tr.ads]));rw[qa n3];exact old3 _ _ n2 n3 n1 (B.sub _ _ e)
  ·have p:(pre++t::post).Perm ((pre++post)++[t]):=Cz.trans (BY _ _).symm;have e:((pre++post)++[(⟨t.a,t.b,.ei ks.length t.R,E2++[ks.length]⟩:Tr)]).flatMap Tr.ads=((pre++post)++[t]).flatMap Tr.ads:=by simp[AF,Tr.ads]
   rw[e];exact(((p.flatMap_right Tr.ads).cons _).cons _).nodup_iff.mp ad
  ·have hz:z=t.a\/z=t.b:=by simpa[Tr.ads] using hz
   rcases hz with rfl | rfl
   ·exact B.fr _ (by simp[Tr.ads])
   ·exact B.fr _ (by simp[Tr.ads])
  ·exact B.ok.snoc ⟨s.lt x (s.sub x hx),s.lt y (s.sub y hy)⟩
  ·refine .ei (cg _ _ _) (s.more _) hx hy (fun e=>nxy.1 (by rw[e];exact An ..)) (fun z=>?_) ?_
   ·rw[Ak,Ao];have hm:=pE.mem_iff (a:=z);rw[Au,Au] at hm;have h1:z∈E2->z≠x/\z≠y:=fun h=>⟨fun e=>nxy.1 (by rw[<-e];exact Ag _ h),fun e=>nxy.2.1 (e▸h)⟩;constructor
    ·rintro(h | h)
     ·exact .inl ⟨hm.mpr (.inr (.inr h)),h1 h⟩
     ·exact .inr h
    ·rintro(⟨h,c1,c2⟩ | h)
     ·rcases hm.mp h with e | e | e
      ·exact absurd e c1
      ·exact absurd e c2
      ·exact .inl e
     ·exact .inr h
   ·rw[Aq];refine⟨nxy.2.2,by simp,fun u hu v hv e=>?_⟩;rw[Ao.mp hv] at e;have:u∈t.E:=pE.mem_iff.mpr (Ag _ (Ag _ hu));have:=s.lt u (s.sub u this);lia
  ·show(ks.length::qk t.R).Perm (List.range' ks.length 1++([t].flatMap fun t=>qk t.R));simp[DD]
 ·have nf:=nk t mt;rw[qa (AK nf.2.1)];have:=old3 fa _ (AK nf.1) (AK nf.2.1) (AK nkf) F.hf;rw[this];unfold zc;rw[AC,AC];rfl
def ah6(p0:ja)(p1:ja)(p2:ja)(p3:ja):kg:=(qw (zw (aq cG (qc 1) (qe (zj w6 (qc 3) (cD 1)) z9)) (qh 4))
 (qw (zw (zj cH (ju 4 1) (zj w6 (zj bC (qc 3) (jr 64)) (iO l9 (vk (ju 4 1))))) (qh 5))
 (qw (zw (qp p0 (aD (qc 0) (qc 5))) (qh 6))
 (qw (zw (rdT (yC .non) (yC .non)) (cO 2 (jd (qh 7) (jd (qh 8) ae))))
 (qw (gR (gK (vk (cD 1))) (qh 9) (gR (vq (zj cH (zj cH (qc 1) (qc 9)) (jr 1))) (qh 10) (v0 (rJ (yB (da false (qc 7))) (gg (qp p0 (aD (qc 0) (qc 10))) (qp p1 (vk (qc 6))))) (zw (kn (qe (zj cH (qc 1) (qc 9)) (vk (qc 10)))) (cO 2 (jd (qh 7) (jd (qh 8) ae)))) jw)))
 (qw (v0 (rJ (yB (da false (qc 7))) (yB (zj yGt (qp p2 (vk (qc 6))) (jr 5)))) (qw (jb (aq j8 (qc 1) (vk (qc 4))))
 aav) jw)
 (mK (v0 (yB (da false (qc 7))) (qw (zw (qp p3 (aD (qc 0) (qc 6))) (afv 3 (jd (qh 11) (jd (qh 8) (jd (qh 12) ae)))))
 (zw (xw (qe (qc 11) (qe (xw (aD (qc 8) (qc 12))) z9))) (qh 7))) (jb (aq i7 (qc 1) (vk (qc 7)))))
 (qw (zw (ow 1 (vq (zj w5 (ju 4 1) (ju 7 1))) (qh 14) (yB (zj (lM true) (qc 14) (rdT (qc 5) (qc 8)))) (qc 14)) (qh 13))
 (v0 (gg (zj w6 (qc 2) (jr 2)) (jr 0)) (jb (aq j8 (qc 1) (qe (xw (qe (kn (qe (cQ "cut") (qe (qc 5) (qe (qc 8) (aD (ju 4 0) (ju 7 0)))))) (vk (qc 13)))) z9))) (jb (aq j8 (qc 1) (qe (xw (qe (kn (qe (cQ "cut") (qe (qc 8) (qe (qc 5) (aD (ju 7 0) (ju 4 0)))))) (vk (qc 13)))) z9))))))))))))
theorem nH:∀a b:List Da,Da.eqs a b=true->a.length=b.length
 |[],[],_=>rfl
 |[],_::_,h=>by cases h
 |_::_,[],h=>by cases h
 |x::r,y::q,h=>by have h:(Da.eq x y&&Da.eqs r q)=true:=h;rw[A8] at h;rw[AJ,AJ,nH r q h.2]
theorem aeh(u:Wd):∀v:Wd,Da.eq (jI u) (jI v)=true->u=v:=by
 induction u with
 |leaf t n=>
  intro v h;cases v with
  |leaf t' n'=>
   rw[acg,A8] at h;rw[of_decide_eq_true h.1,of_decide_eq_true h.2]
  |node e l r=>exact absurd (nH _ _ h) (by intro z;cases z)
 |node e l r il ir=>
  intro v h;cases v with
  |leaf t n=>exact absurd (nH _ _ h) (by intro z;cases z)
  |node e' l' r'=>
   have h:(fi (.str (kN e)) (.str (kN e'))&&(Da.eq (jI l) (jI l')&&(Da.eq (jI r) (jI r')&&true)))=true:=h;rw[A8,A8,A8] at h;obtain⟨h1,h2,h3,_⟩:=h;have:e=e':=by cases e<;>cases e'<;>first | rfl | (exfalso;revert h1;decide +kernel)
   rw[this,il l' h2,ir r' h3]
def jp:Ru->Nat
 |.link _ _=>1
 |.ei _ A=>jp A+1
 |.bo _ A B=>max (jp A) (jp B)+1
 |.cu _ _ A B=>max (jp A) (jp B)+1
theorem x6:∀R:Ru,jp R+1≤(qk R).length
 |.link _ _=>Al _
 |.ei _ A=>by have:=x6 A;simp[jp,qk];lia
 |.bo _ A B=>by have:=x6 A;have:=x6 B;simp[jp,qk];lia
 |.cu _ _ A B=>by have:=x6 A;have:=x6 B;simp[jp,qk];lia
def a8:Ru->Da
 |.link p q=>.tup [.s (.str "link"),.s (.int (p:Int)),.s (.int (q:Int))]
 |.ei r A=>.tup [.s (.str "either"),.s (.int (r:Int)),a8 A]
 |.bo r A B=>.tup [.s (.str "both"),.s (.int (r:Int)),a8 A,a8 B]
 |.cu p q A B=>.tup [.s (.str "cut"),.s (.int (p:Int)),.s (.int (q:Int)),a8 A,a8 B]
theorem bW{L:ql}:∀{R:Ru} {n:Nat},jp R≤n->jf L n (qm R) (a8 R)
 |.link p q,n+1,_=>bB (.cons (EL _) (.cons (EO _) (.cons (EO _) .nil)))
 |.ei r A,n+1,h=>bB (.cons (EL _) (.cons (EO _) (.cons (bW (by simp[jp] at h;lia)) .nil)))
 |.bo r A B,n+1,h=>bB (.cons (EL _) (.cons (EO _) (.cons (bW (by simp[jp] at h;lia)) (.cons (bW (by simp[jp] at h;lia)) .nil))))
 |.cu p q A B,n+1,h=>bB (.cons (EL _) (.cons (EO _) (.cons (EO _) (.cons (bW (by simp[jp] at h;lia)) (.cons (bW (by simp[jp] at h;lia)) .nil)))))
 |.link _ _,0,h=>by simp[jp] at h
 |.ei _ _,0,h=>by simp[jp] at h
 |.bo _ _ _,0,h=>by simp[jp] at h
 |.cu _ _ _ _,0,h=>by simp[jp] at h
theorem aO:∀R:Ru,Da.eq (a8 R) (a8 R)=true
 |.link p q=>by simp[a8,Da.eq,Da.eqs,fi]
 |.ei r A=>by simp[a8,Da.eq,Da.eqs,fi,aO A]
 |.bo r A B=>by simp[a8,Da.eq,Da.eqs,fi,aO A,aO B]
 |.cu p q A B=>by simp[a8,Da.eq,Da.eqs,fi,aO A,aO B]
def gN(E:List Nat):List Da:=E.map fun n:Nat=>Da.s (.int (n:Int))
theorem u8{L:ql}{n:Nat}:∀E:List Nat,Paired (jf L n) (za E) (gN E)
 |[]=>.nil
 |_::r=>.cons (EO _) (u8 r)
theorem i0:∀E E':List Nat,Da.eqs (gN E) (gN E')=true↔E=E'
 |[],[]=>by simp[gN,Da.eqs]
 |[],_::_=>by simp[gN,Da.eqs]
 |_::_,[]=>by simp[gN,Da.eqs]
 |x::r,y::r'=>by
  have ih:=i0 r r';show(Da.eq (.s (.int (x:Int))) (.s (.int (y:Int)))&&Da.eqs (gN r) (gN r'))=true↔_;rw[A8,ih];have:Da.eq (.s (.int (x:Int))) (.s (.int (y:Int)))=true↔x=y:=by show decide ((x:Int)=(y:Int))=true↔_;rw[decide_eq_true_iff];lia
  rw[this];constructor
  ·rintro⟨rfl,rfl⟩;rfl
  ·intro e;injection e with e1 e2;exact⟨e1,e2⟩
def dc(t:Tr):Da:=.lst [a8 t.R,.lst (gN t.E)]
theorem o7{t:Tr}(ha:L t.a=some (.lst [qm t.R,.ref t.b]))(hb:L t.b=some (.lst (za t.E)))(h:jp t.R≤n+1):jf L (n+2) (.ref t.a) (dc t):=
 dM ha (.cons (bW h) (.cons (dM hb (u8 _)) .nil))
theorem ae1{t u:Tr}:Da.eq (dc t) (dc u)=true->t.E=u.E:=by intro h;have h:(Da.eq (a8 t.R) (a8 u.R)&&(Da.eqs (gN t.E) (gN u.E)&&true))=true:=h;rw[A8,A8] at h;exact(i0 _ _).mp h.2.1
theorem ur(t:Tr):Da.eq (dc t) (dc t)=true:=by show(Da.eq (a8 t.R) (a8 t.R)&&(Da.eqs (gN t.E) (gN t.E)&&true))=true;rw[aO,(i0 _ _).mpr rfl];rfl
theorem ar.rd(h:ar L0 L ka fa ks fo){t:Tr}(ht:t∈fo):jp t.R≤ks.length:=by
 have h1:=x6 t.R;have nd:(qk t.R).Nodup:=by obtain⟨a,b,rfl⟩:=BZ ht;have:=h.nd;rw[AF,AW,Aq,Aq] at this;exact this.2.1.1
 have:=af _ _ nd fun x hx=>(h.sr t ht).lt x hx;exact aiq
theorem ar.one(h:ar L0 L ka fa ks fo){t u:Tr}(hi:fo[i]?=some t)(hj:fo[j]?=some u)(e:t.E=u.E):i=j:=by
 by_cases c:i=j
 ·exact c
 ·exfalso;have s:=h.sr t (AI hi);have l:=s.ends h.ok;obtain⟨x,hx⟩:∃x,x∈t.E:=by cases he:t.E with | nil=>rw[he] at l;simp at l | cons x r=>exact⟨x,An ..⟩
  have s':=h.sr u (AI hj);have p1:=jo hi;have p2:(u::(fo.eraseIdx i))=_:=rfl;have mu:u∈fo.eraseIdx i:=by have:fo[j]?=some u:=hj;rw[List.mem_eraseIdx_iff_getElem?];exact⟨j,fun z=>c z.symm,hj⟩
  obtain⟨a,b,ab⟩:=BZ mu;have nd:=(p1.flatMap_right fun t:Tr=>qk t.R).nodup_iff.mp h.nd;rw[AW,Aq] at nd;exact nd.2.2 x (s.sub x hx) x (A6.mpr ⟨u,mu,s'.sub x (e▸hx)⟩) rfl
theorem qi.none(s:qi L L'){p:Addr}(h:L' p=none):L p=none:=by cases z:L p with|none=>rfl|some o=>rw[s _ _ z] at h;cases h
theorem ar.nkf(h:ar L0 L ka fa ks fo):ka≠fa:=by have ad:=h.ad;rw[Ax] at ad;exact fun e=>ad.1 (e▸An ..)
theorem ar.nk(h:ar L0 L ka fa ks fo):∀t∈fo,t.a≠fa/\t.b≠fa/\t.a≠ka/\t.b≠ka:=fun t ht=>by have ad:=h.ad;rw[Ax,Ax] at ad;have ma:t.a∈fo.flatMap Tr.ads:=A6.mpr ⟨t,ht,by simp[Tr.ads]⟩;have mb:t.b∈fo.flatMap Tr.ads:=A6.mpr ⟨t,ht,by simp[Tr.ads]⟩;exact⟨fun e=>ad.2.1 (e▸ma),fun e=>ad.2.1 (e▸mb),fun e=>ad.1 (Ag _ (e▸ma)),fun e=>ad.1 (Ag _ (e▸mb))⟩
theorem ar.setF(h:ar L0 L ka fa ks fo)(o:LO):ar L0 (qf L fa o) ka fa ks fo:=by
 refine⟨by rw[qa h.nkf];exact h.hk,fun t ht=>?_,h.sr,h.nd,h.tm,h.ad,h.ok,fun b u e=>?_,h.fr⟩
 ·obtain⟨n1,n2,_,_⟩:=h.nk t ht;rw[qa n1,qa n2];exact h.ht t ht
 ·have:b≠fa:=fun z=>by rw[z,h.fr fa (by simp)] at e;cases e
  rw[qa this];exact h.sub _ _ e
theorem ar.mono(h:ar L0 L ka fa ks fo)(s:qi L L'):ar L0 L' ka fa ks fo:=
 ⟨s _ _ h.hk,fun t ht=>⟨s _ _ (h.ht t ht).1,s _ _ (h.ht t ht).2⟩,h.sr,h.nd,h.tm,h.ad,h.ok,h.sub.trans s,h.fr⟩
theorem ar.exs(h:ar L0 L ka fa ks fo):∀z∈fo.flatMap Tr.ads,∃o,L z=some o:=fun z hz=>by
 obtain⟨t,ht,hz⟩:=A6.mp hz;obtain⟨h1,h2⟩:=h.ht t ht;have hz:z=t.a\/z=t.b:=by simpa[Tr.ads] using hz
 rcases hz with rfl | rfl
 ·exact⟨_,h1⟩
 ·exact⟨_,h2⟩
theorem sL{l:List Addr}{pb:Addr}(nd:l.Nodup)(ex:∀z∈l,∃o,L z=some o)(ha:L pa=none)(hb:L pb=none)(ne:pa≠pb):(l++[pa,pb]).Nodup:=by
 rw[Aq];refine⟨nd,by simp[ne],fun u hu v hv e=>?_⟩;subst e;obtain⟨o,eo⟩:=ex u hu;simp at hv;rcases hv with rfl | rfl
 ·rw[ha] at eo;cases eo
 ·rw[hb] at eo;cases eo
theorem kZ:∀w:Wd,w.turn.turn=w
 |.leaf t n=>by simp[Wd.turn]
 |.node e l r=>by simp[Wd.turn,kZ l,kZ r]
theorem bX:∀w:Wd,w.turn.depth=w.depth
 |.leaf t n=>rfl
 |.node e l r=>by simp[Wd.turn,Wd.depth,bX l,bX r]
def Fd(ks:List Kn)(w:Wd)(rest:List Tr)(v7 v8:Y):Prop:=(v7=.non/\v8=.non)\/∃(j:Nat) (u:Tr) (q:Nat),rest[j]?=some u/\q∈u.E/\bZ ks q w.turn/\v7=.ref u.a/\v8=.int (q:Int)
theorem zK{Lp L4:ql}{t1 u:Tr}{x q:Nat}{w:Wd}(B:ar L0 Lp ka fa ks (t1::u::rest)){fs:LO}(hf:Lp fa=some fs)(hx:x∈t1.E)(hq:q∈u.E)(hwx:bZ ks x w)(hwq:bZ ks q w.turn){pe:Addr}(s:qi Lp L4)(hpe:Lp pe=none)
 (he:L4 pe=some (.lst (za (jv t1.E u.E x q)))) (hpa:L4 pa=none) (hR:R=.cu x q t1.R u.R\/R=.cu q x u.R t1.R):ar L0 (qf L4 pa (.lst [qm R,.ref pe])) ka fa ks (rest++[⟨pa,pe,R,jv t1.E u.E x q⟩]):=by
 have nap:pe≠pa:=ke he hpa;have hpa':Lp pa=none:=s.none hpa;have s':qi Lp (qf L4 pa (.lst [qm R,.ref pe])):=s.trans (By hpa);have s1:=B.sr t1 (by simp);have s2:=B.sr u (by simp);have dis:∀z,z∈t1.E->z∈u.E->False:=fun z h1 h2=>B.two z (s1.sub z h1) (s2.sub z h2);have k0:ks++[]=ks:=AV ks;have bm:=oZ (E1:=t1.E) (E2:=u.E) (fun h=>dis x hx h) (fun h=>dis q h hq);have nod:=nZ (l:=x) (r:=q) s1.nod s2.nod dis;have st:=ar.step (L':=qf L4 pa (.lst [qm R,.ref pe])) (old:=[t1,u]) (rest:=rest) (ms:=[]) (t':=⟨pa,pe,R,jv t1.E u.E x q⟩) B (by rw[k0];exact s' _ _ B.hk) ⟨q9,by rw[qa nap];exact he⟩ (fun t ht=>?_) (B.sub.trans s') ?_ (fun z hz=>?_) (by rw[k0];exact B.ok) ?_ ?_
 ·rw[k0] at st;exact st
 ·obtain⟨h1,h2⟩:=B.ht t (Ag _ (Ag _ ht));rw[h1,h2];exact⟨s' _ _ h1,s' _ _ h2⟩
 ·have nd:(ka::fa::rest.flatMap Tr.ads).Nodup:=by
   have:=B.ad;rw[AW,AW,Ax,Ax,Aq,Aq] at this;rw[Ax,Ax];obtain⟨d1,d2,_,⟨_,d3,_⟩,_⟩:=this;refine⟨fun z=>d1 ?_,fun z=>d2 (Af _ (Af _ z)),d3⟩;rcases Au.mp z with z | z
   ·rw[z];exact An ..
   ·exact Ag _ (Af _ (Af _ z))
  have:=sL (L:=Lp) nd (fun z hz=>?_) hpa' hpe (AK nap)
  ·rw[AF];simpa[Tr.ads] using this
  ·rcases Au.mp hz with rfl | hz
   ·exact⟨_,B.hk⟩
   ·rcases Au.mp hz with rfl | hz
    ·exact⟨_,hf⟩
    ·exact B.exs z (by rw[AW,AW];exact Af _ (Af _ hz))
 ·have hz:z=pa\/z=pe:=by simpa[Tr.ads] using hz
  rcases hz with rfl | rfl
  ·exact B.sub.none hpa'
  ·exact B.sub.none hpe
 ·rw[k0];rcases hR with rfl | rfl
  ·exact .cu s1 s2 hx hq hwx hwq bm nod
  ·exact .cu (w:=w.turn) s2 s1 hq hx hwq (by rw[kZ];exact hwx) (fun z=>by rw[bm];exact Or.comm) nod
 ·rcases hR with rfl | rfl
  ·show(qk t1.R++qk u.R).Perm _;simp
  ·show(qk u.R++qk t1.R).Perm _;simpa using BE
def CJ(L0:ql)(ka fa:Addr)(ks:List Kn)(one two:Int)(t1:Tr)(x:Nat)(w:Wd)(n:Nat)(τ:jk)(L:ql):Prop:=∃ms u q rest c9 fA c11 c12,τ=[some (.ref ka),some (.ref fa),some (.int one),some (.int two),some (.ref t1.a),some (.int (x:Int)),some (aV w),some (.ref u.a),some (.int ((q:Nat):Int)),c9,fA,c11,c12,none]/\
 ar L0 L ka fa (ks++ms) (t1::u::rest)/\L fa=some (.lst (zc rest))/\q∈u.E/\bZ (ks++ms) q w.turn/\ms.length≤10/\rest.length≤n
def nR:ja:=fun ys L Q=>∃L0 ka fa ks fo,∃one two:Int,ys=[.ref ka,.ref fa,.int one,.int two]/\mE L0 L ka fa ks fo/\1≤fo.length/\fo.length≤110/\ks.length≤110/\
 ∀L' ks' fo',mE L0 L' ka fa ks' fo'->ks'.length≤ks.length+10->1≤fo'.length->fo'.length≤fo.length->Q .non L'
theorem adw:∀ys L Q,nR ys L Q->jx (ah6 (xh 120) (av 120) (aw 120) (bJ 5)) 14 ys L Q:=by
 rintro ys L Q ⟨L0,ka,fa,ks,fo,one,two,rfl,F,h1,h110,hk110,q⟩;have big:=bg_;have lenR:∀fo:List Tr,(zc fo).length=fo.length:=fun fo=>Ae ..;obtain⟨j1,t1,at1,a1,a2,a3,hf1⟩:=sT (k:=two) F.hf (by assumption);have l1:(fo.eraseIdx j1).length+1=fo.length:=by have:=(jo at1).length_eq;rw[AJ] at this;lia
 refine qd F.hf (qd F.hf ⟨(by show(0:Int)<((zc fo).length:Int);rw[lenR];lia),qy F.hf ⟨a1,a2,qo a3 ?_⟩⟩);have B:ar L0 (qf L fa (.lst ((zc fo).eraseIdx (two % ((zc fo).length:Int)).toNat))) ka fa ks (t1::fo.eraseIdx j1):=(F.b.perm (jo at1)).setF _;generalize qf L fa (.lst ((zc fo).eraseIdx (two % ((zc fo).length:Int)).toNat))=L1 at hf1 B;generalize fo.eraseIdx j1=rest at l1 hf1 B;clear a1 a2 a3;have m1:t1∈t1::rest:=by simp
 obtain⟨ta1,tb1⟩:=B.ht t1 m1;have le1:=aW B m1;have s1:=B.sr t1 m1;obtain⟨x,hx,ex⟩:=oS le1.1 (two / 64);refine qd ta1 ⟨⟨by decide,by decide⟩,qd ta1 (qd tb1 ⟨(by show(0:Int)<((za t1.E).length:Int);rw[Ae];omega),qd tb1 (qo ex ?_)⟩)⟩;obtain⟨w,hw,hwd,hwok⟩:=lO B.ok (x+1) x (by exact BL _) (s1.lt x (s1.sub x hx));have hxl:=s1.lt x (s1.sub x hx);refine⟨ka,zu ks,x,w,rfl,B.hk,hw,by lia,?_⟩;have wtd:w.turn.depth=w.depth:=bX w;refine qd hf1 ⟨⟨by show _≤(((zc rest).length:Nat):Int);exact Bf _,by show(((zc rest).length:Nat):Int)<_;rw[lenR];omega⟩,?_⟩;refine adt (fun i τ L'=>∃v7 v8 c9 fA,τ=[some (.ref ka),some (.ref fa),some (.int one),some (.int two),some (.ref t1.a),some (.int (x:Int)),some (aV w),some v7,some v8,c9,fA,none,none,none]/\L'=L1/\Fd ks w rest v7 v8) ⟨_,_,_,_,rfl,rfl,.inl ⟨rfl,rfl⟩⟩ ?_ ?_
 ·rintro i τ L' hi ⟨v7,v8,c9,fA,rfl,rfl,fd⟩;have hi:i<rest.length:=by have:i<(((zc rest).length:Nat):Int).toNat:=hi;rw[lenR] at this;assumption
  obtain⟨u,hu⟩:∃u,rest[i]?=some u:=⟨_,Aj hi⟩;have mu:u∈t1::rest:=Ag _ (AI hu);obtain⟨ua,ub⟩:=B.ht u mu;have ei:(zc rest)[i]?=some (.ref u.a):=by unfold zc;rw[Ap,hu];rfl
  have e0:(0:Int)+(i:Int)=((i:Nat):Int):=by simp +arith only
  rw[e0];have ate:fv (zc rest) ((i:Nat):Int)=some (.ref u.a):=vh ei;have le:=aW B mu;have su:=B.sr u mu;refine qd hf1 (qo ate (qd ua ?_));refine acf (ys:=za u.E) (wm ub) (fun k τ L''=>∃v7 v8 fA,τ=[some (.ref ka),some (.ref fa),some (.int one),some (.int two),some (.ref t1.a),some (.int (x:Int)),some (aV w),some v7,some v8,some (.int ((i:Nat):Int)),fA,none,none,none]/\L''=L'/\Fd ks w rest v7 v8) ⟨_,_,_,rfl,rfl,fd⟩ ?_ ?_ ?_
  ·rintro k τ _ ⟨_,_,_,_,rfl,_⟩;rfl
  ·rintro k y τ L'' ey ⟨v7,v8,fA,rfl,rfl,fd⟩;obtain⟨z,ez,rfl⟩:∃z:Nat,u.E[k]?=some z/\y=Y.int (z:Int):=by rw[Ap] at ey;obtain⟨z,e1,e2⟩:=Aw.mp ey;exact⟨z,e1,e2.symm⟩
   have hz:z∈u.E:=AI ez;rcases fd with⟨rfl,rfl⟩ | ⟨j,t,q0,h1,h2,h3,rfl,rfl⟩
   ·have hzl:=su.lt z (su.sub z hz);obtain⟨v,hv,hvd,hvok⟩:=lO B.ok (z+1) z (by exact BL _) hzl;refine⟨ka,zu ks,z,v,rfl,B.hk,hv,by lia,w,rfl,by lia,?_⟩;refine kO (u:=v) (v:=w.turn) (by lia) ?_;show ko (Da.eq (jI v) (jI w.turn)) _ _;refine acq (fun c=>?_) fun c=>?_
    ·have hh:=aeh _ _ c;refine qd hf1 (qo ate ?_);refine⟨_,DX _,?_⟩;exact⟨_,_,_,rfl,rfl,.inr ⟨i,u,z,hu,hz,hh▸hv,rfl,rfl⟩⟩
    ·refine⟨_,DX _,?_⟩;exact⟨_,_,_,rfl,rfl,.inl ⟨rfl,rfl⟩⟩
   ·refine⟨_,DX _,?_⟩;exact⟨_,_,_,rfl,rfl,.inr ⟨j,t,q0,h1,h2,h3,rfl,rfl⟩⟩
  ·rintro τ L'' ⟨v7,v8,fA,rfl,rfl,fd⟩;refine⟨_,DX _,?_⟩;exact⟨_,_,_,_,rfl,rfl,fd⟩
 ·rintro τ L' ⟨v7,v8,c9,fA,rfl,rfl,fd⟩;rcases fd with⟨rfl,rfl⟩ | ⟨j,u,q0,hj,hq0,hwq,rfl,rfl⟩
  case' inl=>
   refine⟨w,rfl,by lia,?_⟩;show ko (decide ((w.size:Int) > 5)) _ _;refine xc (fun c=>?_) fun c=>?_
   case' refine_1=>
    refine qd hf1 (qy hf1 ⟨big _ (by rw[lenR];lia),?_⟩);have er:zc rest++[.ref t1.a]=zc (rest++[t1]):=by unfold zc;rw[AC];rfl
    rw[er];exact js (q _ ks (rest++[t1]) ⟨(B.perm (BY _ _).symm).setF _,q9⟩ (by exact A4 _ _) (by simp) (by rw[Ac];simp;exact pO))
   case' refine_2=>
    refine⟨CJ L0 ka fa ks one two t1 x w rest.length,?_,?_⟩
    ·refine⟨ka,ks,w,rfl,B.hk,(by have h1:=w.depth_le;have h2:=w.size_eq;lia),(by decide),hwok,B.ok,by lia,fun ms R tp sp p hp mir=>?_⟩;refine qy q9 ?_;intro pb hpb pa hpa;have npk:ka≠p:=ke B.hk hp;have hp2:qf L' ka (.lst (zu (ks++ms))) p=none:=by rw[qa (AK npk)];exact hp
     have sA:qi (qf L' ka (.lst (zu (ks++ms)))) _:=((By hp2).trans (By hpb)).trans (By (o:=.lst [qm R,.ref pb]) hpa);have nab:pb≠pa:=ke q9 hpa;have nb2:qf L' ka (.lst (zu (ks++ms))) pb=none:=(By hp2).none hpb;have na2:qf L' ka (.lst (zu (ks++ms))) pa=none:=((By hp2).trans (By hpb)).none hpa;have ea:qf (qf (qf (qf L' ka (.lst (zu (ks++ms)))) p (.lst [qm R,.int (tp:Int),.int (sp:Int)])) pb (.lst [.int (tp:Int),.int (sp:Int)])) pa (.lst [qm R,.ref pb]) pa=some (.lst [qm R,.ref pb]):=q9;have eb:qf (qf (qf (qf L' ka (.lst (zu (ks++ms)))) p (.lst [qm R,.int (tp:Int),.int (sp:Int)])) pb (.lst [.int (tp:Int),.int (sp:Int)])) pa (.lst [qm R,.ref pb]) pb=some (.lst (za [tp,sp])):=by rw[qa nab];exact q9
     refine⟨ms,⟨pa,pb,R,[tp,sp]⟩,tp,rest,_,_,_,_,rfl,?_,sA _ _ (by rw[qa (AK B.nkf)];exact hf1),An ..,mir.wt,by have:=mir.len;lia,Al _⟩;generalize qf (qf (qf (qf L' ka (.lst (zu (ks++ms)))) p (.lst [qm R,.int (tp:Int),.int (sp:Int)])) pb (.lst [.int (tp:Int),.int (sp:Int)])) pa (.lst [qm R,.ref pb])=LF at sA ea eb;have keep:∀z o,z≠ka->L' z=some o->LF z=some o:=fun z o n e=>sA _ _ (by rw[qa n];exact e);have st:=ar.step (L':=LF) (old:=[]) (rest:=t1::rest) (ms:=ms) (t':=⟨pa,pb,R,[tp,sp]⟩) B (sA _ _ q9) ⟨ea,eb⟩ (fun t ht=>?_) (fun z o e=>?_) ?_ (fun z hz=>?_) mir.ok mir.sr ?_
     ·exact st.perm ((BY _ _).trans (List.Perm.swap _ _ _))
     ·obtain⟨n1,n2,n3,n4⟩:=B.nk t ht;obtain⟨h1,h2⟩:=B.ht t ht;rw[h1,h2];exact⟨keep _ _ n3 h1,keep _ _ n4 h2⟩
     ·exact keep _ _ (fun z=>by rw[z,B.fr ka (by simp)] at e;cases e) (B.sub _ _ e)
     ·have:=sL (L:=qf L' ka (.lst (zu (ks++ms)))) B.ad (fun z hz=>?_) na2 nb2 (AK nab)
      ·rw[AF];simpa[Tr.ads] using this
      ·by_cases c:z=ka
       ·rw[c];exact⟨_,q9⟩
       ·rw[qa c];rcases Au.mp hz with rfl | hz
        ·exact absurd rfl c
        ·rcases Au.mp hz with rfl | hz
         ·exact⟨_,hf1⟩
         ·exact B.exs z hz
     ·have hz:z=pa\/z=pb:=by simpa[Tr.ads] using hz
      cases e:L0 z with
      |none=>rfl
      |some o=>
       have n:z≠ka:=fun z'=>by rw[z',B.fr ka (by simp)] at e;cases e
       have:=B.sub _ _ e;have e2:qf L' ka (.lst (zu (ks++ms))) z=some o:=by rw[qa n];exact this
       rcases hz with rfl | rfl
       ·rw[na2] at e2;cases e2
       ·rw[nb2] at e2;cases e2
     ·rw[C8,AV];exact(AR mir.nd Dw).mpr fun z=>by rw[mir.tm,CY]
  case' inr=>
   refine⟨CJ L0 ka fa ks one two t1 x w rest.length,?_,?_⟩
   ·refine qd hf1 (qy hf1 ⟨rest.map dc,dc u,120,120,j,by decide,?_,?_,?_,⟨dc u,?_,ur u⟩,fun k d hk ek=>?_,?_⟩)
    ·have dd:∀l:List Tr,(∀t∈l,t∈t1::rest)->Paired (jf L' 120) (zc l) (l.map dc):=fun l=>by
      induction l with
      |nil=>intro _;exact .nil
      |cons t r ih=>
       intro h;have mt:=h t (An ..);obtain⟨h1,h2⟩:=B.ht t mt;have:=B.rd mt;exact .cons (o7 (n:=118) h1 h2 (by lia)) (ih fun t ht=>h t (Ag _ ht))
     exact dd rest fun t ht=>Ag _ ht
    ·have mt:u∈t1::rest:=Ag _ (AI hj);obtain⟨h1,h2⟩:=B.ht u mt;have:=B.rd mt;exact o7 (n:=118) h1 h2 (by omega)
    ·rw[Ae];exact(A1.mp hj).1
    ·rw[Ap,hj];rfl
    ·rw[Ap] at ek;obtain⟨v,ev,rfl⟩:=Aw.mp ek;cases c:Da.eq (dc v) (dc u) with
     |false=>rfl
     |true=>
      have:=B.one (i:=k+1) (j:=j+1) (by simpa using ev) (by simpa using hj) (ae1 c);lia
    ·rw[ix];have B2:=(B.perm ((jo hj).cons _)).setF (.lst (zc (rest.eraseIdx j)));exact⟨[],u,q0,rest.eraseIdx j,_,_,_,_,rfl,(AV ks).symm▸B2,q9,hq0,(AV ks).symm▸hwq,Bm _,CO ..⟩
  all_goals
   rintro τ' L' ⟨ms,u,q0,rest',c9,fA,c11,c12,rfl,B',hf,hq0,hwq,hms,hrl⟩;have m1:t1∈t1::u::rest':=by simp
   have m2:u∈t1::u::rest':=by simp
   obtain⟨ta1,tb1⟩:=B'.ht t1 m1;obtain⟨ta2,tb2⟩:=B'.ht u m2;have le1:=aW B' m1;have le2:=aW B' m2;rw[Ac] at le1 le2;refine qd ta1 (qd ta2 ⟨_,_,tb1,tb2,small (by rw[Ae,Ae];omega),fun pp hpp=>?_⟩);have en:za t1.E++za u.E=za (t1.E++u.E):=by unfold za;rw[AC]
   rw[en];refine zR (E:=t1.E++u.E) (l:=x) (r:=q0) (k:=14) q9 (by rw[Ac];omega) (fun y' Q' h=>h) (fun _=>rfl) fun pe hpe=>?_;have s4:qi L' (qf (qf L' pp (.lst (za (t1.E++u.E)))) pe (.lst (za ((t1.E++u.E).filter fun z=>!decide (z=x\/z=q0))))):=(By hpp).trans (By hpe);have he4:qf (qf L' pp (.lst (za (t1.E++u.E)))) pe (.lst (za ((t1.E++u.E).filter fun z=>!decide (z=x\/z=q0)))) pe=some (.lst (za (jv t1.E u.E x q0))):=q9;have hpe':L' pe=none:=(By hpp).none hpe;generalize qf (qf L' pp (.lst (za (t1.E++u.E)))) pe (.lst (za ((t1.E++u.E).filter fun z=>!decide (z=x\/z=q0))))=L4 at s4 he4;have done:∀(R:Ru) pa,L4 pa=none->(R=.cu x q0 t1.R u.R\/R=.cu q0 x u.R t1.R)->Q .non (qf (qf L4 pa (.lst [qm R,.ref pe])) fa (.lst (zc rest'++[.ref pa]))):=fun R pa hpa hR=>by
    have er:zc rest'++[.ref pa]=zc (rest'++[⟨pa,pe,R,jv t1.E u.E x q0⟩]):=by unfold zc;rw[AC];rfl
    rw[er];exact q _ (ks++ms) (rest'++[⟨pa,pe,R,jv t1.E u.E x q0⟩]) ⟨(zK B' hf hx hq0 (hw.more ms) hwq s4 hpe' he4 hpa hR).setF _,q9⟩ (by rw[Ac];omega) (by simp) (by rw[Ac];simp;omega)
   refine⟨(by show(0:Int)<2;decide),?_⟩;show ko (decide (one % 2=0)) _ _;refine xc (fun c=>?_) fun c=>?_
   ·refine qd (s4 _ _ hf) (qd (s4 _ _ ta1) (qd (s4 _ _ ta2) fun pa hpa=>?_));refine qy (By hpa _ _ (s4 _ _ hf)) ⟨big _ (by rw[lenR];omega),?_⟩;exact js (done _ pa hpa (.inl rfl))
   ·refine qd (s4 _ _ hf) (qd (s4 _ _ ta2) (qd (s4 _ _ ta1) fun pa hpa=>?_));refine qy (By hpa _ _ (s4 _ _ hf)) ⟨big _ (by rw[lenR];omega),?_⟩;exact js (done _ pa hpa (.inr rfl))
theorem mE.mono(h:mE L0 L ka fa ks fo)(s:qi L L'):mE L0 L' ka fa ks fo:=⟨h.b.mono s,s _ _ h.hf⟩
theorem ar.plus{LF:ql}{ms:List Kn}{t':Tr}{fs:LO}(B:ar L0 L ka fa ks rest)(hf:L fa=some fs)(sA:qi (qf L ka (.lst (zu (ks++ms)))) LF)(ea:LF t'.a=some (.lst [qm t'.R,.ref t'.b]))(eb:LF t'.b=some (.lst (za t'.E)))
 (na2:qf L ka (.lst (zu (ks++ms))) t'.a=none) (nb2:qf L ka (.lst (zu (ks++ms))) t'.b=none) (nab:t'.a≠t'.b) (ok:bU (ks++ms)) (sr:SR (ks++ms) t'.R t'.E) (tm:∀x,x∈qk t'.R↔ks.length≤x/\x<ks.length+ms.length) (nd:(qk t'.R).Nodup):
 ar L0 LF ka fa (ks++ms) (rest++[t']):=by
 have keep:∀z o,z≠ka->L z=some o->LF z=some o:=fun z o n e=>sA _ _ (by rw[qa n];exact e);refine ar.step (old:=[]) (rest:=rest) (ms:=ms) (t':=t') B (sA _ _ q9) ⟨ea,eb⟩ (fun t ht=>?_) (fun z o e=>?_) ?_ (fun z hz=>?_) ok sr ?_
 ·obtain⟨n1,n2,n3,n4⟩:=B.nk t ht;obtain⟨h1,h2⟩:=B.ht t ht;rw[h1,h2];exact⟨keep _ _ n3 h1,keep _ _ n4 h2⟩
 ·exact keep _ _ (fun z=>by rw[z,B.fr ka (by simp)] at e;cases e) (B.sub _ _ e)
 ·have:=sL (L:=qf L ka (.lst (zu (ks++ms)))) B.ad (fun z hz=>?_) na2 nb2 nab
  ·rw[AF];simpa[Tr.ads] using this
  ·by_cases c:z=ka
   ·rw[c];exact⟨_,q9⟩
   ·rw[qa c];rcases Au.mp hz with rfl | hz
    ·exact absurd rfl c
    ·rcases Au.mp hz with rfl | hz
     ·exact⟨_,hf⟩
     ·exact B.exs z hz
 ·have hz:z=t'.a\/z=t'.b:=by simpa[Tr.ads] using hz
  cases e:L0 z with
  |none=>rfl
  |some o=>
   have n:z≠ka:=fun z'=>by rw[z',B.fr ka (by simp)] at e;cases e
   have:=B.sub _ _ e;have e2:qf L ka (.lst (zu (ks++ms))) z=some o:=by rw[qa n];exact this
   rcases hz with rfl | rfl
   ·rw[na2] at e2;cases e2
   ·rw[nb2] at e2;cases e2
 ·rw[C8,AV];exact(AR nd Dw).mpr fun z=>by rw[tm,CY]
theorem mE.link(F:mE L0 L ka fa ks fo){nm:Str}(hn:dG nm)(b:Bool){pb:Addr}(hb:qf L ka (.lst (zu (ks++[.lf b nm,.lf (!b) nm]))) pb=none)
 (ha:qf (qf L ka (.lst (zu (ks++[.lf b nm,.lf (!b) nm])))) pb (.lst (za [ks.length,ks.length+1])) pa=none) {fs:List Y} (hfs:fs=zc fo++[.ref pa]):
 mE L0 (qf (qf (qf (qf L ka (.lst (zu (ks++[.lf b nm,.lf (!b) nm])))) pb (.lst (za [ks.length,ks.length+1]))) pa (.lst [qm (.link ks.length (ks.length+1)),.ref pb])) fa (.lst fs)) ka fa (ks++[.lf b nm,.lf (!b) nm]) (fo++[⟨pa,pb,.link ks.length (ks.length+1),[ks.length,ks.length+1]⟩]):=by
 have nab:pb≠pa:=ke q9 ha;have M:=rQ F.b.ok (t:=!b) hn;rw[Bool.not_not] at M;refine⟨(ar.plus F.b F.hf ((By hb).trans (By ha)) q9 (by rw[qa nab];exact q9) ((By hb).none ha) hb (AK nab) M.ok M.sr M.tm M.nd).setF _,?_⟩;rw[q9,hfs];unfold zc;rw[AC];rfl
theorem ar.dats(h:ar L0 L ka fa ks fo)(hl:ks.length≤120):Paired (jf L 124) (zc fo) (fo.map dc):=by
 have dd:∀l:List Tr,(∀t∈l,t∈fo)->Paired (jf L 124) (zc l) (l.map dc):=fun l=>by
  induction l with
  |nil=>intro _;exact .nil
  |cons t r ih=>
   intro k;have mt:=k t (An ..);obtain⟨h1,h2⟩:=h.ht t mt;have:=h.rd mt;exact .cons (o7 (n:=122) h1 h2 (by lia)) (ih fun t ht=>k t (Ag _ ht))
 exact dd fo fun t ht=>ht
theorem uX(fo:List Tr):Da.eqs (fo.map dc) []=decide (fo=[]):=by cases fo<;>rfl
def TW(L0:ql)(ka fa:Addr)(s:Int)(room:Nat)(τ:jk)(L:ql):Prop:=∃c0 c5 c6 c7 c8 c9 fA ks fo,τ=[c0,some (.int s),some (.int (room:Int)),some (.ref ka),some (.ref fa),c5,c6,c7,c8,c9,fA]/\mE L0 L ka fa ks fo/\ks.length+fo.length≤room
theorem TW.of{s:Int}{room:Nat}{c0 c5 c6 c7 c8 c9 fA:Option Y}(F:mE L0 L ka fa ks fo)(h:ks.length+fo.length≤room):TW L0 ka fa s room [c0,some (.int s),some (.int (room:Int)),some (.ref ka),some (.ref fa),c5,c6,c7,c8,c9,fA] L:=⟨_,_,_,_,_,_,_,ks,fo,rfl,F,h⟩
structure aj4(L0:ql)(ks:List (Option Kn))(qs:List Nat)(d w D:Addr)(i ex:Nat)(f:Nat->Nat)(wd:List (Option Kn))(kvs:List (zq×Y))(L:ql):Prop where
 sub:qi L0 L
 hd:L d=some (.dct kvs)
 hw:L w=some (.lst (kz wd))
 hD:L D=some (.lst (nY qs))
 len:kvs.length≤i
 val:∀p:Nat,v3 kvs (.inl (p:Int))=if p∈qs.take i then some (.int ((f p:Nat):Int)) else none
 gap:Gap ks (qs.take i) f wd
 wlen:wd.length≤2*i+ex
structure Ren(f:Nat->Nat)(ks wd:List (Option Kn)):Prop where
 gap:Gap ks (List.range ks.length) f wd
 len:wd.length≤2*ks.length+1
theorem qW(wd:List (Option Kn))(k:Option Kn):kz wd++[mC k]=kz (wd++[k]):=by unfold kz;rw[AC];rfl
theorem dP(wd:List (Option Kn)):(kz wd).length=wd.length:=Ae ..
def vf:Ru->List (Nat×Nat)
 |.link p q=>[(p,q)]
 |.ei _ A=>vf A
 |.bo _ A B=>vf A++vf B
 |.cu _ _ A B=>vf A++vf B
def jt:Ru->List (Nat×Nat)
 |.link _ _=>[]
 |.ei _ A=>jt A
 |.bo _ A B=>jt A++jt B
 |.cu p q A B=>(p,q)::(jt A++jt B)
def a7:Ru->Nat
 |.link _ _=>1
 |.ei _ A=>a7 A+1
 |.bo _ A B=>a7 A+a7 B+1
 |.cu _ _ A B=>a7 A+a7 B+1
def zd:Ru->List Ru
 |.link _ _=>[]
 |.ei _ A=>[A]
 |.bo _ A B=>[A,B]
 |.cu _ _ A B=>[A,B]
def qY:Ru->List (Nat×Nat)
 |.link p q=>[(p,q)]
 |_=>[]
def rB:Ru->List (Nat×Nat)
 |.cu p q _ _=>[(p,q)]
 |_=>[]
theorem tD(A:Ru):vf A=qY A++(zd A).flatMap vf:=by cases A<;>simp[vf,qY,zd]
theorem wQ(A:Ru):jt A=rB A++(zd A).flatMap jt:=by cases A<;>simp[jt,rB,zd]
theorem lI(A:Ru):((zd A).map a7).sum+1=a7 A:=by cases A<;>simp[a7,zd]
theorem uG(A:Ru):0<a7 A:=by cases A<;>simp[a7]
theorem wn{A B:Ru}(h:B∈zd A):jp B<jp A:=by cases A<;>simp[zd] at h<;>(try rcases h with rfl | rfl)<;>(try subst h)<;>simp[jp]<;>omega
structure gm(R:Ru)(lk ct:List (Nat×Nat))(st:List Ru):Prop where
 pl:(lk++st.flatMap vf).Perm (vf R)
 pc:(ct++st.flatMap jt).Perm (jt R)
 sz:(st.map a7).sum≤a7 R
 dp:∀A∈st,jp A≤jp R
theorem gm.start(R:Ru):gm R [] [] [R]:=⟨by simp,by simp,by simp,fun A hA=>by simp at hA;subst hA;exact Al _⟩
theorem gm.step{A:Ru}{lk:List (Nat×Nat)}{st:List Ru}(h:gm R lk ct (st++[A])):gm R (lk++qY A) (ct++rB A) (st++zd A):=by
 have pm:∀{X U V W:List (Nat×Nat)},(X++U++(V++W)).Perm (X++(V++(U++W))):=fun {X U V W}=>by rw[AD];refine List.Perm.append_left X ?_;rw[<-AD,<-AD];exact List.Perm.append_right W BE
 refine⟨?_,?_,?_,fun B hB=>?_⟩
 ·refine List.Perm.trans ?_ h.pl;rw[AF,AF];have:[A].flatMap vf=qY A++(zd A).flatMap vf:=by rw[<-tD];simp
  rw[this];exact pm
 ·refine List.Perm.trans ?_ h.pc;rw[AF,AF];have:[A].flatMap jt=rB A++(zd A).flatMap jt:=by rw[<-wQ];simp
  rw[this];exact pm
 ·have:=h.sz;have:=lI A;simp at *;lia
 ·rcases Ak.mp hB with hB | hB
  ·exact h.dp B (Av _ hB)
  ·have:=wn hB;have:=h.dp A (Af _ (Ao.mpr rfl));exact aiq
theorem mM(l:List (Nat×Nat))(p:Nat×Nat):iM l++[prN p]=iM (l++[p]):=by unfold iM;rw[AC];rfl
theorem kW(st:List Ru):Da.eqs (st.map a8) []=decide (st=[]):=by cases st<;>rfl
theorem bS{L:ql}{n:Nat}:∀{st:List Ru},(∀A∈st,jp A≤n)->Paired (jf L n) (st.map qm) (st.map a8)
 |[],_=>.nil
 |A::r,h=>.cons (bW (h A (An ..))) (bS fun B hB=>h B (Ag _ hB))
theorem aet(a b:Nat):decide ((a:Int)=(b:Int))=decide (a=b):=by
 by_cases c:a=b
 ·rw[AG c];exact AG (by lia)
 ·rw[Az c];exact Az (by lia)
def kh(lk:List (Nat×Nat)):List Nat:=lk.flatMap fun x=>[x.1,x.2]
theorem bM(a b:List (Nat×Nat)):kh (a++b)=kh a++kh b:=by unfold kh;rw[AF]
theorem eX(x:Nat×Nat):kh [x]=[x.1,x.2]:=by simp[kh]
theorem rC(lk:List (Nat×Nat)):(kh lk).length=2*lk.length:=by
 induction lk with
 |nil=>rfl
 |cons x r ih=>
  have:=bM [x] r;rw[C4] at this;rw[this,Ac,ih,eX,AJ];simp;exact Nat.add_comm _ _
theorem ahu{f:Option Kn->Bool}{ks:List (Option Kn)}{p:Nat}{k:Option Kn}(h:ks[p]?=some k)(hf:f k=true)(hi:p<i):p∈yM f ks i:=by unfold yM;refine AX.mpr ⟨Bc.mpr hi,?_⟩;simp only[h];exact hf
theorem hV{α β:Type}{R:α->β->Prop}:∀{xs:List α} {ys:List β} {x:α} {y:β},Paired R xs ys->R x y->Paired R (xs++[x]) (ys++[y])
 |_,_,_,_,.nil,r=>.cons r .nil
 |_,_,_,_,.cons a t,r=>.cons a (hV t r)
theorem iX(m:Nat)(l:List Nat):sn (eI (.int (m:Int))) ((nY l).map eI)=decide (m∈l):=by
 induction l with
 |nil=>rfl
 |cons n r ih=>
  have e:sn (eI (.int (m:Int))) ((nY (n::r)).map eI)=(fi (eI (.int (n:Int))) (eI (.int (m:Int)))||sn (eI (.int (m:Int))) ((nY r).map eI)):=rfl;rw[e,ih];have e2:fi (eI (.int (n:Int))) (eI (.int (m:Int)))=decide (n=m):=aet n m;rw[e2];by_cases c:n=m
  ·subst c;simp
  ·by_cases d:m∈r
   ·simp[d]
   ·simp[c,d,AK c]
theorem iT(l:List Nat):(nY l).all gx=true:=by rw[Cw];intro y hy;obtain⟨n,_,rfl⟩:=AY.mp hy;rfl
theorem abg{c:Nat×Nat}(h:c∈ct):c.1∈kh ct/\c.2∈kh ct:=by
 induction ct with
 |nil=>cases h
 |cons d r ih=>
  have e:kh (d::r)=[d.1,d.2]++kh r:=by rw[<-eX,<-bM];rfl
  rw[e];rcases Au.mp h with rfl | h
  ·simp
  ·obtain⟨a,b⟩:=ih h;exact⟨Af _ a,Af _ b⟩
theorem wo(c:Nat×Nat)(r:List (Nat×Nat)):kh (c::r)=c.1::c.2::kh r:=by
 have e:kh (c::r)=[c.1,c.2]++kh r:=by rw[<-eX,<-bM];rfl
 rw[e];rfl
theorem mH{l m:List (Nat×Nat)}(h:l.Perm m):(kh l).Perm (kh m):=by
 induction h with
 |nil=>exact .nil
 |cons x _ ih=>rw[wo,wo];exact(ih.cons _).cons _
 |swap x y l=>
  rw[wo,wo,wo,wo];exact(BE (l₁:=[y.1,y.2]) (l₂:=[x.1,x.2])).append_right (kh l)
 |trans _ _ h1 h2=>exact h1.trans h2
theorem kq:∀R:Ru,a7 R+1≤(qk R).length
 |.link _ _=>Al _
 |.ei r A=>by have:=kq A;show a7 A+1+1≤(r::qk A).length;rw[AJ];exact ai0
 |.bo r A B=>by have:=kq A;have:=kq B;show a7 A+a7 B+1+1≤(r::(qk A++qk B)).length;rw[AJ,Ac];lia
 |.cu _ _ A B=>by have:=kq A;have:=kq B;show a7 A+a7 B+1+1≤(qk A++qk B).length;rw[Ac];lia
theorem aal(ok:bU ks):OkO (ks.map some):=by intro p e i j h;rw[Ap] at h;obtain⟨k,ek,e1⟩:=Aw.mp h;cases e1;exact ok p _ ek
theorem vv(ks:List Kn):kz (ks.map some)=zu ks:=by show(ks.map some).map mC=ks.map jB;rw[BC];rfl
theorem KW.lf{p:Nat}{n:Str}(h:wd[p]?=some (some (.lf t n))):KW (kz wd) p (.leaf t n):=by show(kz wd)[p]?=_;rw[Ap,h];rfl
theorem KW.nd{p:Nat}{e:Bool}{l r:Wd}(h:wd[p]?=some (some (.nd e i j)))(hl:KW (kz wd) i l)(hr:KW (kz wd) j r):KW (kz wd) p (.node e l r):=
 ⟨i,j,by rw[Ap,h];rfl,hl,hr⟩
theorem vH{k:Kn}{n:Str}(h:jB k=.tup [.str (kL t),.str n]):k=.lf t n:=by
 cases k with
 |lf u m=>
  have h1:kL u=kL t:=by injection h with h;injection h with h _;injection h
  have h2:m=n:=by injection h with h;injection h with _ h;injection h with h _;injection h
  subst h2;cases u<;>cases t<;>first | rfl | (exfalso;revert h1;decide)
 |nd e i j=>injection h with h;injection h with _ h;injection h with _ h;cases h
theorem vA{k:Kn}{e:Bool}(h:jB k=.tup [.str (kN e),.int (i:Int),.int (j:Int)]):k=.nd e i j:=by
 cases k with
 |lf u m=>injection h with h;injection h with _ h;injection h with _ h;cases h
 |nd b i' j'=>
  have h1:kN b=kN e:=by injection h with h;injection h with h _;injection h
  have h2:((i':Nat):Int)=i:=by injection h with h;injection h with _ h;injection h with h _;injection h
  have h3:((j':Nat):Int)=j:=by injection h with h;injection h with _ h;injection h with _ h;injection h with h _;injection h
  have h2:=CF.mp h2;have h3:=CF.mp h3;subst h2 h3;cases b<;>cases e<;>first | rfl | (exfalso;revert h1;decide)
theorem yT{p:Nat}(h:(kz wd)[p]?=some y):∃o,wd[p]?=some o/\mC o=y:=by rw[Ap] at h;obtain⟨o,a,b⟩:=Aw.mp h;exact⟨o,a,b⟩
theorem KW.inv_lf{p:Nat}{n:Str}(h:KW (kz wd) p (.leaf t n)):wd[p]?=some (some (.lf t n)):=by
 obtain⟨o,a,b⟩:=yT (show(kz wd)[p]?=some (.tup [.str (kL t),.str n]) from h);cases o with
 |none=>cases b
 |some k=>rw[a,vH b]
theorem KW.inv_nd{p:Nat}{e:Bool}{l r:Wd}(h:KW (kz wd) p (.node e l r)):∃i j,wd[p]?=some (some (.nd e i j))/\KW (kz wd) i l/\KW (kz wd) j r:=by
 obtain⟨i,j,h1,h2,h3⟩:=h;obtain⟨o,a,b⟩:=yT h1;cases o with
 |none=>cases b
 |some k=>exact⟨i,j,by rw[a,vA b],h2,h3⟩
theorem KW.dep{wd:List (Option Kn)}(ok:OkO wd):∀{w:Wd} {p:Nat},KW (kz wd) p w->w.depth≤p+1
 |.leaf t n,p,_=>by show 1≤p+1;exact Cv _
 |.node e l r,p,h=>by obtain⟨i,j,a,hl,hr⟩:=h.inv_nd;have:=ok p e i j a;have:=KW.dep ok hl;have:=KW.dep ok hr;show max l.depth r.depth+1≤p+1;lia
def ak9(wd:List (Option Kn)):Prop:=∀(p:Nat) (e:Bool) (i j:Nat),wd[p]?=some (some (.nd e i j))->(∃k,wd[i]?=some (some k))/\∃k,wd[j]?=some (some k)
theorem Ren.inv{f:Nat->Nat}(r:Ren f out wd){x:Nat}{k:Kn}(h:wd[x]?=some (some k)):∃p,p<out.length/\x=f p/\∃o,out[p]?=some o/\gW f o=some k:=by obtain⟨p,hp,e⟩:=r.gap.only x k h;have hp:=Bc.mp hp;have:=r.gap.at_ p (Bc.mpr hp) _ (Aj hp);rw[<-e,h] at this;exact⟨p,hp,e,_,Aj hp,(Ba this).symm⟩
theorem Ren.word{f:Nat->Nat}(r:Ren f out wd):∀{w:Wd} {p:Nat},KW (kz out) p w->KW (kz wd) (f p) w
 |.leaf t n,p,h=>by have e:=h.inv_lf;exact KW.lf (r.gap.at_ p (Bc.mpr (xu e)) _ e)
 |.node b l rr,p,h=>by obtain⟨i,j,e,hl,hr⟩:=h.inv_nd;exact KW.nd (r.gap.at_ p (Bc.mpr (xu e)) _ e) (r.word hl) (r.word hr)
def sP(p0:ja):kg:=(qw (zw (xw z9) (qh 1))
 (qw (gR (vq (qc 0)) (qh 2) (jb (aq a9 (qc 1) (qe (qp p0 (vk (qc 2))) z9))))
 (jc (qc 1))))
def xf(wd:List (Option Kn)):List Nat:=wd.flatMap j5
theorem eL(wd:List (Option Kn))(k:Option Kn):xf (wd++[k])=xf wd++j5 k:=by unfold xf;rw[AF,AW,C8,AV]
theorem kH(k:Option Kn):(j5 k).length≤2:=by cases k with|none=>exact Bm _|some k=>cases k with|lf t n=>exact Bm _|nd e i j=>exact Al _
theorem dW(wd:List (Option Kn)):(xf wd).length≤2*wd.length:=by
 induction wd with
 |nil=>exact Al _
 |cons k r ih=>
  have e:xf (k::r)=j5 k++xf r:=AW ..;have:=kH k;rw[e,Ac,AJ];lia
def iU:ja:=fun ys L Q=>∃a,∃wd:List (Option Kn),ys=[.ref a]/\L a=some (.lst (kz wd))/\wd.length≤1000/\∀p,L p=none->Q (.ref p) (qf L p (.lst (nY (xf wd))))
theorem ach:∀ys L Q,iU ys L Q->jx (sP cr) 3 ys L Q:=by
 rintro ys L Q ⟨a,wd,rfl,ha,hz,q⟩;have big:=bg_;intro p hp;have s0:qi L (qf L p (.lst [])):=By hp;refine x0 (s0 _ _ ha) fun keep kp=>kj ⟨fun i τ L'=>∃c2,τ=[some (Y.ref a),some (Y.ref p),c2]/\qi L L'/\L' p=some (.lst (nY (xf (wd.take i)))),⟨_,rfl,s0,q9⟩,?_,?_,?_⟩
 ·rintro i τ L' ⟨c2,rfl,s,_⟩;exact kp L' (by rw[s _ _ ha,s0 _ _ ha])
 ·rintro i y τ L' hy ⟨c2,rfl,s,g⟩;rw[Ap] at hy;obtain⟨k,ek,rfl⟩:=Aw.mp hy;have et:wd.take (i+1)=wd.take i++[k]:=by rw[Bh,ek];rfl
  have pl:=dW (wd.take i);have pk:=kH k;rw[AN] at pl;refine qd g ⟨k,rfl,fun d hd=>?_⟩;have n1:p≠d:=ke g hd;refine qy ((qa n1).trans g) (qy q9 ⟨?_,?_⟩)
  ·rw[vt,vt];exact Bz (big _ (by lia))
  ·refine⟨_,DX _,_,rfl,(s.trans (By hd)).upd hp,?_⟩;rw[q9,et,eL,gH]
 ·rintro τ L' ⟨c2,rfl,s,g⟩;rw[Ae,Bt] at g;refine⟨qf L p (.lst (nY (xf wd))),fun b o e=>?_,q p hp⟩;by_cases cc:b=p
  ·subst cc;rw[q9] at e;rw[<-e];exact g
  ·rw[qa cc] at e;exact s _ _ e
def ff(wd:List (Option Kn))(p:Nat):Bool:=match wd[p]? with
 |some (some _)=>true
 |_=>false
def iE(wd:List (Option Kn))(us:List Nat)(p:Nat):Bool:=ff wd p&&!(decide (p∈us))
def w9(wd:List (Option Kn))(us:List Nat)(i:Nat):List Nat:=(List.range i).filter (iE wd us)
theorem ie(wd:List (Option Kn))(us:List Nat)(i:Nat):w9 wd us (i+1)=w9 wd us i++if iE wd us i=true then [i] else []:=by unfold w9;rw[DN,CM];congr 1;rw[C7,Dh]
def ww(wd:List (Option Kn))(ct:List (Nat×Nat)):List Nat:=xf wd++kh ct
def lZ(ks:List Kn)(l:List Nat):List Nat:=l.flatMap fun p=>j5 ks[p]?
theorem fg(ks:List Kn)(a b:List Nat):lZ ks (a++b)=lZ ks a++lZ ks b:=by unfold lZ;rw[AF]
theorem ax(ks:List Kn)(x:Nat)(l:List Nat):lZ ks (x::l)=j5 ks[x]?++lZ ks l:=AW ..
theorem bO{E:List Nat}(h:E.Nodup)(hi:i∈E):E.Perm ([i]++E.filter fun x=>!decide (x=i)):=by
 refine(AR h ?_).mpr fun x=>?_
 ·refine Ax.mpr ⟨fun z=>?_,h.filter _⟩;have:=(AX.mp z).2;simp at this
 ·rw[Ak,Ao,AX];constructor
  ·intro hx;by_cases c:x=i
   ·exact .inl c
   ·exact .inr ⟨hx,by simp[c]⟩
  ·rintro(rfl | hx)
   ·exact hi
   ·exact hx.1
theorem SR.part{E:List Nat}(h:SR ks R E):(qk R).Nodup->(lZ ks (qk R)++(kh (jt R)++E)).Perm (qk R):=by
 induction h with
 |@link p q t n E' h1 h2 h3 h4 h5=>
  intro _;have e:lZ ks [p,q]=[]:=by rw[ax,ax,h2,h3];rfl
  show(lZ ks [p,q]++([]++E')).Perm [p,q];rw[e,Ci,Ci];refine(AR h5 (by simp;lia)).mpr fun x=>?_;rw[h4 x];simp
 |@ei r i j A EA E' h1 hA h3 h4 h5 h6 h7 ih=>
  intro nd;obtain⟨n1,n2⟩:=Ax.mp nd;have ih:=ih n2;have nA:EA.Nodup:=(Aq.mp (Aq.mp (ih.nodup_iff.mpr n2)).2.1).2.1;have p1:=bO nA h3;have p2:(EA.filter fun x=>!decide (x=i)).Perm _:=bO (nA.filter _) (i:=j) (AX.mpr ⟨h4,by simp;exact AK h5⟩);have p3:E'.Perm ([r]++(EA.filter fun x=>!decide (x=i)).filter fun x=>!decide (x=j)):=by
   refine(AR h7 (Ax.mpr ⟨fun z=>n1 (hA.sub _ (AX.mp (AX.mp z).1).1),(nA.filter _).filter _⟩)).mpr fun x=>?_;rw[h6 x,Au,AX,AX];simp only[Dx,decide_eq_false_iff_not];constructor
   ·rintro(⟨a,b,c⟩ | rfl)
    ·exact .inr ⟨⟨a,b⟩,c⟩
    ·exact .inl rfl
   ·rintro(rfl | ⟨⟨a,b⟩,c⟩)
    ·exact .inr rfl
    ·exact .inl ⟨a,b,c⟩
  show(lZ ks (r::qk A)++(kh (jt A)++E')).Perm ([r]++qk A);rw[ax,h1];show((([i]++[j])++lZ ks (qk A))++(kh (jt A)++E')).Perm _;refine Cb.mpr fun a=>?_;have c1:=p1.count_eq a;have c2:=p2.count_eq a;have c3:=p3.count_eq a;have c4:=ih.count_eq a;simp only[Cr] at c1 c2 c3 c4 ⊢;lia
 |@bo r i j A B EA EB E' h1 hA hB h4 h5 h6 h7 ih1 ih2=>
  intro nd;obtain⟨n1,n2⟩:=Ax.mp nd;obtain⟨m1,m2,m3⟩:=Aq.mp n2;have ih1:=ih1 m1;have ih2:=ih2 m2;have nA:EA.Nodup:=(Aq.mp (Aq.mp (ih1.nodup_iff.mpr m1)).2.1).2.1;have nB:EB.Nodup:=(Aq.mp (Aq.mp (ih2.nodup_iff.mpr m2)).2.1).2.1;have p1:=bO nA h4;have p2:=bO nB h5;have p3:E'.Perm ([r]++((EA.filter fun x=>!decide (x=i))++EB.filter fun x=>!decide (x=j))):=by
   refine(AR h7 (Ax.mpr ⟨fun z=>n1 ?_,Aq.mpr ⟨nA.filter _,nB.filter _,fun a ha b hb=>m3 a (hA.sub _ (AX.mp ha).1) b (hB.sub _ (AX.mp hb).1)⟩⟩)).mpr fun x=>?_
   ·rcases Ak.mp z with z | z
    ·exact Av _ (hA.sub _ (AX.mp z).1)
    ·exact Af _ (hB.sub _ (AX.mp z).1)
   ·rw[h6 x,Au,Ak,AX,AX];simp only[Dx,decide_eq_false_iff_not];constructor
    ·rintro(a | a | rfl)
     ·exact .inr (.inl a)
     ·exact .inr (.inr a)
     ·exact .inl rfl
    ·rintro(rfl | a | a)
     ·exact .inr (.inr rfl)
     ·exact .inl a
     ·exact .inr (.inl a)
  show(lZ ks (r::(qk A++qk B))++(kh (jt A++jt B)++E')).Perm ([r]++(qk A++qk B));rw[ax,h1,fg,bM];show((([i]++[j])++(lZ ks (qk A)++lZ ks (qk B)))++((kh (jt A)++kh (jt B))++E')).Perm _;refine Cb.mpr fun a=>?_;have c1:=p1.count_eq a;have c2:=p2.count_eq a;have c3:=p3.count_eq a;have c4:=ih1.count_eq a;have c5:=ih2.count_eq a;simp only[Cr] at c1 c2 c3 c4 c5 ⊢;lia
 |@cu p q A B EA EB E' w hA hB h3 h4 h5 h6 h7 h8 ih1 ih2=>
  intro n2;obtain⟨m1,m2,m3⟩:=Aq.mp (show(qk A++qk B).Nodup from n2);have ih1:=ih1 m1;have ih2:=ih2 m2;have nA:EA.Nodup:=(Aq.mp (Aq.mp (ih1.nodup_iff.mpr m1)).2.1).2.1;have nB:EB.Nodup:=(Aq.mp (Aq.mp (ih2.nodup_iff.mpr m2)).2.1).2.1;have p1:=bO nA h3;have p2:=bO nB h4;have p3:E'.Perm ((EA.filter fun x=>!decide (x=p))++EB.filter fun x=>!decide (x=q)):=by refine(AR h8 (Aq.mpr ⟨nA.filter _,nB.filter _,fun a ha b hb=>m3 a (hA.sub _ (AX.mp ha).1) b (hB.sub _ (AX.mp hb).1)⟩)).mpr fun x=>?_;rw[h7 x,Ak,AX,AX];simp only[Dx,decide_eq_false_iff_not]
  show(lZ ks (qk A++qk B)++(kh ((p,q)::(jt A++jt B))++E')).Perm (qk A++qk B);rw[fg,wo,bM];show((lZ ks (qk A)++lZ ks (qk B))++(([p]++[q]++(kh (jt A)++kh (jt B)))++E')).Perm _;refine Cb.mpr fun a=>?_;have c1:=p1.count_eq a;have c2:=p2.count_eq a;have c3:=p3.count_eq a;have c4:=ih1.count_eq a;have c5:=ih2.count_eq a;simp only[Cr] at c1 c2 c3 c4 c5 ⊢;lia
structure rP(wd:List (Option Kn)):Prop where
 ne:∀(p:Nat) (e:Bool) (i j:Nat),wd[p]?=some (some (.nd e i j))->i≠j
 un:∀(p q:Nat) (k l:Kn) (x:Nat),wd[p]?=some (some k)->wd[q]?=some (some l)->x∈j5 (some k)->x∈j5 (some l)->p=q
theorem mJ{x:Nat}(h:x∈xf wd):∃(p:Nat) (k:Kn),wd[p]?=some (some k)/\x∈j5 (some k):=by
 obtain⟨o,ho,hx⟩:=A6.mp h;obtain⟨p,e⟩:=De ho;cases o with
 |none=>cases hx
 |some k=>exact⟨p,k,e,hx⟩
theorem vF{x p:Nat}{k:Kn}(h:wd[p]?=some (some k))(hx:x∈j5 (some k)):x∈xf wd:=A6.mpr ⟨_,AI h,hx⟩
theorem rP.nodup:∀{wd:List (Option Kn)},rP wd->(xf wd).Nodup
 |[],_=>BX
 |k::r,U=>by
  have e:xf (k::r)=j5 k++xf r:=AW ..;rw[e];refine Aq.mpr ⟨?_,rP.nodup ⟨fun p e i j h=>U.ne (p+1) e i j h,fun p q k l x h1 h2 h3 h4=>Nat.succ.inj (U.un (p+1) (q+1) k l x h1 h2 h3 h4)⟩,fun a ha b hb z=>?_⟩
  ·cases k with
   |none=>exact BX
   |some k=>
    cases k with
    |lf t n=>exact BX
    |nd b i j=>
     have:=U.ne 0 b i j rfl;show [i,j].Nodup;simp[this]
  ·subst z;obtain⟨p,l,h1,h2⟩:=mJ hb;cases k with
   |none=>cases ha
   |some k=>exact absurd (U.un 0 (p+1) k l a rfl h1 ha h2) (Nat.succ_ne_zero p).symm
theorem Ren.inj{f:Nat->Nat}(r:Ren f out wd){a b:Nat}(ha:a<out.length)(hb:b<out.length)(e:f a=f b):a=b:=r.gap.inj a (Bc.mpr ha) b (Bc.mpr hb) e
def lfB:Option Kn->Bool
 |some (.lf _ _)=>true
 |_=>false
theorem gd{f:Nat->Nat}:∀{l:List Nat},l.Nodup->(∀a∈l,∀b∈l,f a=f b->a=b)->(l.map f).Nodup
 |[],_,_=>BX
 |a::r,h,g=>by obtain⟨h1,h2⟩:=Ax.mp h;rw[AO,Ax];refine⟨fun z=>?_,gd h2 fun x hx y hy=>g x (Ag _ hx) y (Ag _ hy)⟩;obtain⟨b,hb,e⟩:=AY.mp z;exact h1 (g b (Ag _ hb) a (An ..) e▸hb)
def md(f:Nat->Nat):Ru->Ru
 |.link p q=>.link (min (f p) (f q)) (max (f p) (f q))
 |.ei r A=>.ei (f r) (md f A)
 |.bo r A B=>.bo (f r) (md f A) (md f B)
 |.cu p q A B=>.cu (f p) (f q) (md f A) (md f B)
theorem bT(f:Nat->Nat):∀R:Ru,(qk (md f R)).Perm ((qk R).map f)
 |.link p q=>by
  show [min (f p) (f q),max (f p) (f q)].Perm [f p,f q];by_cases h:f p≤f q
  ·rw[Cj h,C5 h]
  ·rw[Nat.min_eq_right (by lia),Dg (by lia)];exact List.Perm.swap _ _ _
 |.ei r A=>(bT f A).cons _
 |.bo r A B=>by show(f r::(qk (md f A)++qk (md f B))).Perm (f r::(qk A++qk B).map f);rw[AC];exact((bT f A).append (bT f B)).cons _
 |.cu p q A B=>by show(qk (md f A)++qk (md f B)).Perm ((qk A++qk B).map f);rw[AC];exact(bT f A).append (bT f B)
theorem fb{x:Nat}{k:Kn}(h:(ks.map some)[x]?=some (some k)):ks[x]?=some k:=by rw[Ap] at h;obtain⟨k',e,z⟩:=Aw.mp h;cases z;exact e
theorem SR.ren{f:Nat->Nat}(r:Ren f (ks.map some) (ks'.map some)){E:List Nat}(h:SR ks R E):SR ks' (md f R) (E.map f):=by
 have inj:∀{a b:Nat},a<ks.length->b<ks.length->f a=f b->a=b:=fun ha hb e=>r.inj (by rw[Ae];exact ha) (by rw[Ae];exact hb) e;have at_:∀{p:Nat} {k:Kn},ks[p]?=some k->(ks'.map some)[f p]?=some (gW f (some k)):=fun {p k} e=>r.gap.at_ p (Bc.mpr (by rw[Ae];exact xu e)) _ (by rw[Ap,e];rfl)
 have lf:∀{p:Nat} {t:Bool} {n:Str},ks[p]?=some (.lf t n)->ks'[f p]?=some (.lf t n):=fun e=>fb (at_ e);have nd:∀{p i j:Nat} {e:Bool},ks[p]?=some (.nd e i j)->ks'[f p]?=some (.nd e (f i) (f j)):=fun e=>fb (at_ e);have el:∀{A:Ru} {EA:List Nat},SR ks A EA->∀x∈EA,x<ks.length:=fun s x hx=>s.lt x (s.sub x hx);have nod:∀{A:Ru} {EA:List Nat},SR ks A EA->(EA.map f).Nodup:=fun s=>gd s.nod fun a ha b hb=>inj (el s a ha) (el s b hb);have wd:∀{p:Nat} {w:Wd},bZ ks p w->bZ ks' (f p) w:=fun {p w} hw=>by have:=r.word (w:=w) (p:=p) (by rw[vv];exact hw);rw[vv] at this;exact this
 have rm:∀{A:Ru} {EA:List Nat} {i y:Nat},SR ks A EA->i∈EA->y∈EA->y≠i->f y≠f i:=fun s hi hy ne z=>ne (inj (el s _ hy) (el s _ hi) z)
 induction h with
 |@link p q t n E h1 h2 h3 h4 h5=>
  have s:SR ks (.link p q) E:=.link h1 h2 h3 h4 h5;have ne:f p≠f q:=fun z=>by have:=inj (xu h2) (xu h3) z;lia
  have me:∀x,x∈E.map f↔x=f p\/x=f q:=fun x=>by
   rw[AY];constructor
   ·rintro⟨y,hy,rfl⟩;rcases (h4 y).mp hy with rfl | rfl
    ·exact .inl rfl
    ·exact .inr rfl
   ·rintro(rfl | rfl)
    ·exact⟨p,(h4 p).mpr (.inl rfl),rfl⟩
    ·exact⟨q,(h4 q).mpr (.inr rfl),rfl⟩
  show SR ks' (.link (min (f p) (f q)) (max (f p) (f q))) _;by_cases c:f p≤f q
  ·rw[Cj c,C5 c];exact .link (by lia) (lf h2) (lf h3) me (nod s)
  ·rw[Nat.min_eq_right (by lia),Dg (by lia)];exact .link (by lia) (lf h3) (by rw[Bool.not_not];exact lf h2) (fun x=>(me x).trans Or.comm) (nod s)
 |@ei r i j A EA E h1 hA h3 h4 h5 h6 h7 ih=>
  have s:SR ks (.ei r A) E:=.ei h1 hA h3 h4 h5 h6 h7;refine .ei (nd h1) ih (AY.mpr ⟨i,h3,rfl⟩) (AY.mpr ⟨j,h4,rfl⟩) (rm hA h4 h3 h5) (fun x=>?_) (nod s);rw[AY];constructor
  ·rintro⟨y,hy,rfl⟩;rcases (h6 y).mp hy with⟨a,b,c⟩ | rfl
   ·exact .inl ⟨AY.mpr ⟨y,a,rfl⟩,rm hA h3 a b,rm hA h4 a c⟩
   ·exact .inr rfl
  ·rintro(⟨hx,b,c⟩ | rfl)
   ·obtain⟨y,a,rfl⟩:=AY.mp hx;exact⟨y,(h6 y).mpr (.inl ⟨a,fun z=>b (by rw[z]),fun z=>c (by rw[z])⟩),rfl⟩
   ·exact⟨r,(h6 r).mpr (.inr rfl),rfl⟩
 |@bo r i j A B EA EB E h1 hA hB h4 h5 h6 h7 ih1 ih2=>
  have s:SR ks (.bo r A B) E:=.bo h1 hA hB h4 h5 h6 h7;refine .bo (nd h1) ih1 ih2 (AY.mpr ⟨i,h4,rfl⟩) (AY.mpr ⟨j,h5,rfl⟩) (fun x=>?_) (nod s);rw[AY];constructor
  ·rintro⟨y,hy,rfl⟩;rcases (h6 y).mp hy with⟨a,b⟩ | ⟨a,b⟩ | rfl
   ·exact .inl ⟨AY.mpr ⟨y,a,rfl⟩,rm hA h4 a b⟩
   ·exact .inr (.inl ⟨AY.mpr ⟨y,a,rfl⟩,rm hB h5 a b⟩)
   ·exact .inr (.inr rfl)
  ·rintro(⟨hx,b⟩ | ⟨hx,b⟩ | rfl)
   ·obtain⟨y,a,rfl⟩:=AY.mp hx;exact⟨y,(h6 y).mpr (.inl ⟨a,fun z=>b (by rw[z])⟩),rfl⟩
   ·obtain⟨y,a,rfl⟩:=AY.mp hx;exact⟨y,(h6 y).mpr (.inr (.inl ⟨a,fun z=>b (by rw[z])⟩)),rfl⟩
   ·exact⟨r,(h6 r).mpr (.inr (.inr rfl)),rfl⟩
 |@cu p q A B EA EB E w hA hB h3 h4 h5 h6 h7 h8 ih1 ih2=>
  have s:SR ks (.cu p q A B) E:=.cu hA hB h3 h4 h5 h6 h7 h8;refine .cu ih1 ih2 (AY.mpr ⟨p,h3,rfl⟩) (AY.mpr ⟨q,h4,rfl⟩) (wd h5) (wd h6) (fun x=>?_) (nod s);rw[AY];constructor
  ·rintro⟨y,hy,rfl⟩;rcases (h7 y).mp hy with⟨a,b⟩ | ⟨a,b⟩
   ·exact .inl ⟨AY.mpr ⟨y,a,rfl⟩,rm hA h3 a b⟩
   ·exact .inr ⟨AY.mpr ⟨y,a,rfl⟩,rm hB h4 a b⟩
  ·rintro(⟨hx,b⟩ | ⟨hx,b⟩)
   ·obtain⟨y,a,rfl⟩:=AY.mp hx;exact⟨y,(h7 y).mpr (.inl ⟨a,fun z=>b (by rw[z])⟩),rfl⟩
   ·obtain⟨y,a,rfl⟩:=AY.mp hx;exact⟨y,(h7 y).mpr (.inr ⟨a,fun z=>b (by rw[z])⟩),rfl⟩
theorem ah1{f:Nat->Nat}(ok:bU ks)(r:Ren f (ks.map some) (ks'.map some)):bU ks':=fun p k e=>by
 have e':(ks'.map some)[p]?=some (some k):=by rw[Ap,e];rfl
 obtain⟨y,hy,rfl,o,eo,ek⟩:=r.inv e';cases k with
 |nd b i j=>exact r.gap.ok _ b i j e'
 |lf t n=>
  cases o with
  |none=>cases ek
  |some o=>
   cases o with
   |nd b i j=>cases ek
   |lf t' n'=>
    cases ek;exact ok y _ (fb eo)
structure dm(ks:List Kn)(R:Ru)(E:List Nat):Prop where
 ok:bU ks
 sr:SR ks R E
 nd:(qk R).Nodup
 len:ks.length≤96
theorem dm.ren{f:Nat->Nat}{E:List Nat}(ok:bU ks)(sr:SR ks R E)(tp:(qk R).Perm (List.range ks.length))(hl:ks.length≤96)(r:Ren f (ks.map some) (ks'.map some))(l:ks'.length=ks.length):dm ks' (md f R) (E.map f)/\(qk (md f R)).Perm (List.range ks'.length):=by have S:=sr.ren r;have nd:(qk (md f R)).Nodup:=(bT f R).nodup_iff.mpr (gd (tp.nodup_iff.mpr BU) fun a ha b hb e=>r.inj (by rw[Ae];exact sr.lt a ha) (by rw[Ae];exact sr.lt b hb) e);refine⟨⟨ah1 ok r,S,nd,by lia⟩,(AR nd BU).mpr fun x=>⟨fun h=>Bc.mpr (S.lt x h),fun h=>?_⟩⟩;have h:=Bc.mp h;obtain⟨y,hy,e⟩:=r.gap.only x ks'[x] (by rw[Ap,Aj h];rfl);rw[Ae] at hy;exact(bT f R).mem_iff.mpr (AY.mpr ⟨y,tp.mem_iff.mpr hy,e.symm⟩)
def ki:Ru->List Nat
 |.link p q=>[p,q]
 |.ei r _=>[r]
 |.bo r _ _=>[r]
 |.cu _ _ _ _=>[]
theorem g0(A:Ru):qk A=ki A++(zd A).flatMap qk:=by cases A<;>simp[qk,ki,zd]
def vj:Ru->List Ru
 |.link p q=>[.link p q]
 |.ei r A=>.ei r A::vj A
 |.bo r A B=>.bo r A B::(vj A++vj B)
 |.cu p q A B=>.cu p q A B::(vj A++vj B)
theorem fC(A:Ru):vj A=A::(zd A).flatMap vj:=by cases A<;>simp[vj,zd]
theorem aa:∀A:Ru,(vj A).length=a7 A
 |.link _ _=>rfl
 |.ei _ A=>by show(vj A).length+1=_;rw[aa A];rfl
 |.bo _ A B=>by show(vj A++vj B).length+1=_;rw[Ac,aa A,aa B];rfl
 |.cu _ _ A B=>by show(vj A++vj B).length+1=_;rw[Ac,aa A,aa B];rfl
def ip(ks:List Kn):Ru->List (List Nat)
 |.link _ _=>[]
 |.ei r _=>[j5 ks[r]?]
 |.bo r _ _=>(j5 ks[r]?).map fun x=>[x]
 |.cu p q _ _=>[[p],[q]]
def je(x:List Nat×List Nat):List Nat:=x.1.filter fun y=>!decide (y∈x.2)
def xi(ks:List Kn):Ru->List Nat
 |.link p q=>[p,q]
 |.ei r A=>[r]++([xi ks A].zip [j5 ks[r]?]).flatMap je
 |.bo r A B=>[r]++([xi ks A,xi ks B].zip ((j5 ks[r]?).map fun x=>[x])).flatMap je
 |.cu p q A B=>[]++([xi ks A,xi ks B].zip [[p],[q]]).flatMap je
theorem xN(ks:List Kn)(A:Ru):xi ks A=ki A++(((zd A).map (xi ks)).zip (ip ks A)).flatMap je:=by cases A<;>rfl
def ajv(ks:List Kn)(B:Ru)(t:List Nat):Prop:=∃EB,SR ks B EB/\∀x∈t,x∈EB
theorem SR.arms{E:List Nat}(h:SR ks R E):Paired (ajv ks) (zd R) (ip ks R):=by
 cases h with
 |link=>exact .nil
 |@ei r i j A EA _ h1 hA h3 h4=>
  show Paired _ [A] [j5 ks[r]?];rw[h1];refine .cons ⟨EA,hA,fun x hx=>?_⟩ .nil;have hx:x∈[i,j]:=hx;rcases Au.mp hx with rfl | hx
  ·exact h3
  ·rw[Ao.mp hx];exact h4
 |@bo r i j A B EA EB _ h1 hA hB h4 h5=>
  show Paired _ [A,B] ((j5 ks[r]?).map fun x=>[x]);rw[h1];exact .cons ⟨EA,hA,fun x hx=>by rw[Ao.mp hx];exact h4⟩ (.cons ⟨EB,hB,fun x hx=>by rw[Ao.mp hx];exact h5⟩ .nil)
 |@cu p q A B EA EB _ w hA hB h3 h4=>
  exact .cons ⟨EA,hA,fun x hx=>by rw[Ao.mp hx];exact h3⟩ (.cons ⟨EB,hB,fun x hx=>by rw[Ao.mp hx];exact h4⟩ .nil)
theorem dF{t:List Nat}{x:Nat}:x∈je (F,t)↔x∈F/\x∉t:=by unfold je;rw[AX];simp
theorem fO{t:List Nat}(h:F.Nodup):(je (F,t)).Nodup:=h.filter _
theorem oE{E:List Nat}(h:SR ks R E):(qk R).Nodup->(xi ks R).Perm E:=by
 induction h with
 |@link p q t n E h1 h2 h3 h4 h5=>
  intro nd;exact(AR nd h5).mpr fun x=>by rw[h4];show x∈[p,q]↔_;simp
 |@ei r i j A EA E h1 hA h3 h4 h5 h6 h7 ih=>
  intro nd;obtain⟨n1,n2⟩:=Ax.mp nd;have P:=ih n2;have e:xi ks (.ei r A)=r::je (xi ks A,[i,j]):=by show [r]++([xi ks A].zip [j5 ks[r]?]).flatMap je=_;rw[h1];show r::(je (xi ks A,[i,j])++[])=_;rw[AV]
  rw[e];have m:∀x,x∈je (xi ks A,[i,j])↔x∈EA/\x≠i/\x≠j:=fun x=>by rw[dF,P.mem_iff];simp
  refine(AR (Ax.mpr ⟨fun z=>n1 (hA.sub r ((m r).mp z).1),fO (P.nodup_iff.mpr hA.nod)⟩) h7).mpr fun x=>?_;rw[Au,m,h6,Or.comm]
 |@bo r i j A B EA EB E h1 hA hB h4 h5 h6 h7 ih1 ih2=>
  intro nd;obtain⟨n1,n2⟩:=Ax.mp nd;obtain⟨m1,m2,m3⟩:=Aq.mp n2;have P:=ih1 m1;have Q:=ih2 m2;have e:xi ks (.bo r A B)=r::(je (xi ks A,[i])++je (xi ks B,[j])):=by show [r]++([xi ks A,xi ks B].zip ((j5 ks[r]?).map fun x=>[x])).flatMap je=_;rw[h1];show r::(je (xi ks A,[i])++(je (xi ks B,[j])++[]))=_;rw[AV]
  rw[e];have a:∀x,x∈je (xi ks A,[i])↔x∈EA/\x≠i:=fun x=>by rw[dF,P.mem_iff];simp
  have b:∀x,x∈je (xi ks B,[j])↔x∈EB/\x≠j:=fun x=>by rw[dF,Q.mem_iff];simp
  refine(AR (Ax.mpr ⟨fun z=>n1 ?_,Aq.mpr ⟨fO (P.nodup_iff.mpr hA.nod),fO (Q.nodup_iff.mpr hB.nod),fun x hx y hy=>m3 x (hA.sub x ((a x).mp hx).1) y (hB.sub y ((b y).mp hy).1)⟩⟩) h7).mpr fun x=>?_
  ·rcases Ak.mp z with z | z
   ·exact Av _ (hA.sub r ((a r).mp z).1)
   ·exact Af _ (hB.sub r ((b r).mp z).1)
  ·rw[Au,Ak,a,b,h6,Or.comm,or_assoc]
 |@cu p q A B EA EB E w hA hB h3 h4 h5 h6 h7 h8 ih1 ih2=>
  intro n2;obtain⟨m1,m2,m3⟩:=Aq.mp (show(qk A++qk B).Nodup from n2);have P:=ih1 m1;have Q:=ih2 m2;have e:xi ks (.cu p q A B)=je (xi ks A,[p])++je (xi ks B,[q]):=by show []++(je (xi ks A,[p])++(je (xi ks B,[q])++[]))=_;rw[AV,Ci]
  rw[e];have a:∀x,x∈je (xi ks A,[p])↔x∈EA/\x≠p:=fun x=>by rw[dF,P.mem_iff];simp
  have b:∀x,x∈je (xi ks B,[q])↔x∈EB/\x≠q:=fun x=>by rw[dF,Q.mem_iff];simp
  refine(AR (Aq.mpr ⟨fO (P.nodup_iff.mpr hA.nod),fO (Q.nodup_iff.mpr hB.nod),fun x hx y hy=>m3 x (hA.sub x ((a x).mp hx).1) y (hB.sub y ((b y).mp hy).1)⟩) h8).mpr fun x=>?_;rw[Ak,a,b,h7]
end L3
namespace TS
open PySem PyProof.Rows PySem.W
section
variable {w:World} 
def IntV(v:Value):Prop:=∃i t,v=.int i t
noncomputable def nmI(x:Keyed):Int:=match x.1 with
 |.int i _=>i
 |_=>0
theorem af1:vY prog w A s oneType' (fun x=>IntV x.1) nmI:=by
 constructor;rintro x y ⟨i,t,e1⟩ ⟨j,u,e2⟩ E Q h;have h1:nmI x=i:=by unfold nmI;rw[e1]
 have h2:nmI y=j:=by unfold nmI;rw[e2]
 rw[h1,h2] at h;rw[e1,e2];exact kat_lt_int h
theorem pq:∀{vs:List Value},(∀v∈vs,IntV v)->∃ns,IntsAre vs ns
 |[],_=>⟨[],.nil⟩
 |v::r,h=>by obtain⟨i,t,rfl⟩:=h v (An ..);obtain⟨ns,k⟩:=pq (vs:=r) fun u hu=>h u (Ag _ hu);exact⟨_,.cons i t k⟩
theorem wP(h:∀v∈vs,IntV v)(h2:¬vs.length<2):keyKind' vs.toArray=pure oneType':=by
 obtain⟨ns,k⟩:=pq h
 match vs,k,h2 with
 |[],_,h2=>exact absurd (Nat.zero_lt_succ 1) h2
 |[_],_,h2=>exact absurd (BL 1) h2
 |_::_::_,k,_=>exact keyKind_ints k
theorem aa4{a:Addr}{P:PySem.Fin->Shared->Prop}(ho:s.heap.get? a=some (seqObj "list" vs.toArray n))(hz:vs.length≤100000)(hk:∀v∈vs,IntV v)(inj:((vs.zip vs).map nmI).Nodup)
 (h:∀h' tk (xs:List Keyed) c,(∀b o,b≠a->s.heap.get? b=some o->h'.get? b=some o)->h'.get? a=some (seqObj "list" (List.toArray (xs.map (·.2))) c)->xs.Perm (vs.zip vs)->(xs.Pairwise fun x y=>nmI x≤nmI y)->P (.done (.ret .none)) { s with heap:=h',toks:=tk }):
 wpAny (model prog w) A (Builtin.«list.sort» ⟨[.ref a],[]⟩) P E s:=by
 have big:(100000:Nat)+1≤sizeLine:=by rw[sizeLine_eq];exact CI _ _
 have zl:(vs.toArray.zip vs.toArray).toList=vs.zip vs:=by simp
 have s1:=Heap.SameBut.update s.heap a (Obj.mapSeq fun _=>(#[]:Array Value));obtain⟨e1,ho1⟩:∃e1,(s.heap.update a (Obj.mapSeq fun _=>(#[]:Array Value))).get? a=some (seqObj "list" #[] e1):=⟨_,get?_update_seq ho fun _=>#[]⟩;obtain⟨hp3,ehp3⟩:∃g,g=((s.heap.update a (Obj.mapSeq fun _=>(#[]:Array Value))).push (seqObj "tuple" vs.toArray 0)).push (seqObj "list" #[] 0):=⟨_,rfl⟩;have k3:∀b o,b≠a->s.heap.get? b=some o->hp3.get? b=some o:=fun b o hb e=>by rw[ehp3];exact Heap.get?_push_of_some _ (Heap.get?_push_of_some _ ((s1.2 b hb).trans e))
 have ha3:hp3.get? a=some (seqObj "list" #[] e1):=by rw[ehp3];exact Heap.get?_push_of_some _ (Heap.get?_push_of_some _ ho1)
 have tail:∀st:SortSt,(arrOf st).toList.Perm (vs.zip vs)->((arrOf st).toList.Pairwise fun x y=>nmI x≤nmI y)->
  ∀tk,P (.done (.ret .none)) { s with heap:=hp3.update a (Obj.mapSeq fun _=>(arrOf st).map (·.2)),toks:=tk }:=by
  intro st hp hs tk;have s2:=Heap.SameBut.update hp3 a (Obj.mapSeq fun _=>(arrOf st).map (·.2));obtain⟨c2,hc2⟩:∃c2,(hp3.update a (Obj.mapSeq fun _=>(arrOf st).map (·.2))).get? a=some (seqObj "list" ((arrOf st).map (·.2)) c2):=⟨_,get?_update_seq ha3 fun _=>(arrOf st).map (·.2)⟩;have em:(arrOf st).map (·.2)=List.toArray ((arrOf st).toList.map (·.2)):=by apply Array.toList_inj.mp;rw[Array.toList_map]
  refine h _ tk (arrOf st).toList c2 (fun b o hb e=>(s2.2 b hb).trans (k3 b o hb e)) ?_ hp hs;rw[em] at hc2 ⊢;exact hc2
 have len:∀st:SortSt,(arrOf st).toList.Perm (vs.zip vs)->((arrOf st).map (·.2)).size≤sizeLine+1:=fun st hp=>by have:=hp.length_eq;rw[CK,AL] at this;rw[Array.size_map];lia
 rw[list_sort_plain];refine Aa (listItems_at ho rfl ?_);refine Aa (listUpdate_at ho rfl ?_ (by rw[Am];exact vQ) (Bm _));refine Aa (seqEpoch_at ho1 rfl ?_);refine Aa (wpAny_newTuple ?_ (by show vs.length≤_;lia));refine Aa (wpAny_newList ?_ (Bm _));refine Bg ?_;show wpAny (model prog w) A _ P E { s with heap:=((s.heap.update a (Obj.mapSeq fun _=>(#[]:Array Value))).push (seqObj "tuple" vs.toArray 0)).push (seqObj "list" #[] 0) };rw[<-ehp3];dsimp only;by_cases h2:vs.toArray.size<2
 ·rw[AA h2,AA h2];refine Aa (Ai ?_);rw[StateT.run_pure];refine Aa (Ai ?_);dsimp only;refine Aa (seqEpoch_at ha3 rfl ?_);have pz:(arrOf (SortSt.mk' oneType' (vs.toArray.zip vs.toArray) #[] 7 none)).toList.Perm (vs.zip vs):=by show(vs.toArray.zip vs.toArray).toList.Perm _;rw[zl]
  refine Aa (listUpdate_at ha3 rfl ?_ (Bm _) (len _ pz));simp only[bne_self_eq_false,BW,if_false];refine Ai (tail (SortSt.mk' oneType' (vs.toArray.zip vs.toArray) #[] 7 none) pz ?_ _);show(vs.toArray.zip vs.toArray).toList.Pairwise _;rw[zl];rw[Am] at h2;have:(vs.zip vs).length<2:=by rw[CK];lia
  exact pI this
 ·rw[Ay h2,Ay h2];rw[Am] at h2;rw[wP hk h2];refine Aa (Ai ?_);refine Aa (A2 (abp (E:=E) (af1 (s:={ s with heap:=hp3 })) (st:=SortSt.mk' oneType' (vs.toArray.zip vs.toArray) #[] 7 none)
   (Q:=fun _ st'=>failedOf st'=none/\(arrOf st').toList.Perm (vs.zip vs)/\((arrOf st').toList.Pairwise fun x y=>nmI x≤nmI y)) rfl rfl rfl (fun x hx=>?_) ?_ fun st' b1 b2 b3=>⟨b1,?_,b3⟩) ?_ fun _ _ e=>e)
  ·have hx:x∈(vs.toArray.zip vs.toArray).toList:=hx;rw[zl] at hx;exact hk _ (mem_self_zip hx).1
  ·show((vs.toArray.zip vs.toArray).toList.map _).Nodup;rw[zl];exact inj
  ·have b2:(arrOf st').toList.Perm (vs.toArray.zip vs.toArray).toList:=b2;rw[zl] at b2;exact b2
  ·rintro⟨⟨⟩,st'⟩ s' ⟨rfl,b1,b2,b3⟩;dsimp only;refine Aa (seqEpoch_at ha3 rfl ?_);refine Aa (listUpdate_at ha3 rfl ?_ (Bm _) (len _ b2));rw[b1];simp only[bne_self_eq_false,BW,if_false];exact Ai (tail st' b2 b3 _)
theorem w_sortedI(hl:s.heap.IsList l vs.toArray)(hz:vs.length≤100000)(hk:∀v∈vs,IntV v)(inj:((vs.zip vs).map nmI).Nodup)
 (h:∀h' tk (xs:List Keyed) D c,s.heap.objs.size≤D->(∀b o,s.heap.get? b=some o->h'.get? b=some o)->h'.get? D=some (seqObj "list" (List.toArray (xs.map (·.2))) c)->xs.Perm (vs.zip vs)->(xs.Pairwise fun x y=>nmI x≤nmI y)->Q (.ref D) { s with heap:=h',toks:=tk }):
 wpAny (model prog w) A (call (.builtin "sorted") [.ref l]) Q E s:=by
 have big:(100000:Nat)+1≤sizeLine:=by rw[sizeLine_eq];lia
 refine Calls.call_function_entry kind_sorted plain_sorted entry_sorted (args_sorted1 _) ?_;unfold Builtin.«sorted»;refine Aa (m:=checkCount "sorted" 1 1 _) (Ai ?_);refine Aa (collect_list hl ?_ (by lia));refine Aa (wpAny_newList ?_ (by lia));obtain⟨g,eg⟩:∃g,g=(s.heap.push (seqObj "list" #[] 0)).update s.heap.objs.size (Obj.mapSeq (· ++ vs.toArray)):=⟨_,rfl⟩;have gs:g.objs.size=s.heap.objs.size+1:=by rw[eg,Heap.size_update,size_push']
 have gk:∀b o,s.heap.get? b=some o->g.get? b=some o:=fun b o q=>by have hlt:b<s.heap.objs.size:=Heap.lt_size q;rw[eg,Heap.get?_update_ne _ _ _ _ (A9 hlt)];exact Heap.get?_push_of_some _ q
 show wpAny _ _ _ _ _ { s with heap:=((s.heap.push (seqObj "list" #[] 0)).update s.heap.objs.size (Obj.mapSeq (· ++ vs.toArray))).push (seqObj "list" vs.toArray 0) };rw[<-eg];have hoD:(g.push (seqObj "list" vs.toArray 0)).get? g.objs.size=some (seqObj "list" vs.toArray 0):=Heap.get?_push_size _ rfl;have keep:∀b o,s.heap.get? b=some o->(g.push (seqObj "list" vs.toArray 0)).get? b=some o:=fun b o q=>Heap.get?_push_of_some _ (gk b o q);refine Aa (Bg (wpAny_call_entry slot_list_sort ⟨_,hoD,rfl⟩ entry_list_sort ?body (args_list_sort _)))
 case body=>
  refine aa4 (s:={ s with heap:=g.push (seqObj "list" vs.toArray 0) }) hoD hz hk inj fun h' tk xs c k1 hD pm pw=>?_;refine⟨_,rfl,Ai ⟨_,rfl,h h' tk xs g.objs.size c (by rw[gs];exact BS _) (fun b o q=>k1 b o ?_ (keep b o q)) hD pm pw⟩⟩;have hlt:b<s.heap.objs.size:=Heap.lt_size q;intro z;rw[z,gs] at hlt;exact Nat.not_succ_lt_self hlt
end
end TS
namespace L2
open PySem PySem.Spec PyProof.Rows
theorem eM:∀{ns:List Int} {vs:List Value},ze (ns.map V.int) vs->IntsAre vs ns
 |[],_,.nil=>.nil
 |n::_,_,.cons ⟨t,e⟩ p=>by subst e;exact .cons n t (eM p)
theorem jT:∀{vs:List Value} {ns:List Int},IntsAre vs ns->(vs.zip vs).map TS.nmI=ns
 |_,_,.nil=>rfl
 |_,_,.cons n t h=>by rw[Dq,AO,jT h];rfl
theorem jQ:∀{vs:List Value} {ns:List Int},IntsAre vs ns->∀v∈vs,TS.IntV v
 |_,_,.nil,_,h=>by cases h
 |_,_,.cons n t k,v,h=>by
  rcases Au.mp h with rfl | h
  ·exact⟨n,t,rfl⟩
  ·exact jQ k v h
theorem qJ:∀{xs:List PyProof.Rows.Keyed},(∀x∈xs,TS.IntV x.1/\x.1=x.2)->ze ((xs.map TS.nmI).map V.int) (xs.map (·.2))
 |[],_=>.nil
 |x::r,h=>by obtain⟨⟨i,t,e⟩,e2⟩:=h x (An ..);refine .cons ⟨t,?_⟩ (qJ fun y hy=>h y (Ag _ hy));show x.2=Value.int (TS.nmI x) t;rw[<-e2,e];unfold TS.nmI;rw[e]
section
def ag7(X:Cx):List V->Hp->VK->Prop:=fun xs H Q=>∃(l:Addr) (ns:List Int),xs=[.ref l]/\w4 X.K H l (ns.map V.int)/\ns.Nodup/\ns.length≤100000/\
 ∀(D:Addr) (ms:List Int),H D=none->ms.Perm ns->ms.Pairwise (fun a b:Int=>a≤b)->Q (.ref D) (upd H D (.lst (ms.map V.int)))
theorem sm:ji X (.builtin "sorted") (ag7 X):=by
 intro pins s σ H xs us Q I r h;obtain⟨l,ns,rfl,hl,hnd,hlen,q⟩:=h;obtain⟨u,rfl,ru⟩:=r.one;cases (show u=Value.ref l from ru);obtain⟨its,rv,pl,hz⟩:=I.list hl;have ia:=eM rv;have l1:ns.length=its.length:=by have:=rv.length;rw[Ae] at this;exact this
 refine jm I.tk (TS.w_sortedI pl.isList (by rw[<-l1];exact hlen) (jQ ia) (by rw[jT ia];exact hnd) fun h' tk ks D c hD hk hg pm pw ht=>?_);have mk:∀x∈ks,TS.IntV x.1/\x.1=x.2:=fun x hx=>by obtain⟨m1,m2⟩:=TS.mem_self_zip (pm.mem_iff.mp hx);exact⟨jQ ia _ m1,m2⟩
 have pn:(ks.map TS.nmI).Perm ns:=by rw[<-jT ia];exact pm.map _
 refine⟨.ref D,_,I.laid (t':=tk) (o:=.lst ((ks.map TS.nmI).map V.int)) hk hD ⟨?_,ks.map (·.2),c,qJ mk,hg⟩,rfl,q D _ (I.hok.fresh hD) pn (Cq.mpr pw)⟩;rw[Ae,pn.length_eq,<-Ae (f:=V.int)];exact hz
def rj(ns:List Int):Nat:=(firstMet (fun i=>ns.getD i 0) ns.length).length
def aen(X:Cx)(te:TE):TE:=fun σ H Q=>te σ H fun x H1=>∃(a:Addr) (ns:List Int),x=.ref a/\w4 X.K H1 a (ns.map V.int)/\ns.length≤4000/\Q (.int (rj ns:Nat)) H1
theorem ahv:bootBuiltins "set" = some (.type "set"):=by decide +kernel
theorem wV{te:TE}{ps:Pos}(hc:X.calm=true)(hgl:Gl X "len")(hml:X.mg "len" = none)(hgs:Gl X "set")(hms:X.mg "set" = none)(he:PE X e te)(h1:starEach [e] X.env=(false,eval e X.env)::starEach [] X.env:=by rfl):
 PE X (.Call (.Name "len" p1) [.Call (.Name "set" p2) [e] [] ps] [] pos) (aen X te):=by
 intro pins s σ H Q I h;refine wpAny_Call_Name_kw (bR I hgl hml tU ?_);refine callWith_builtin1 ?_ rfl rfl;show wpAny _ _ (spliced ((false,eval (.Call (.Name "set" p2) [e] [] ps) X.env)::[])) _ _ s;refine Calls.spliced_cons ?_;refine wpAny_Call_Name_kw (bR I hgs hms ahv ?_);refine callWith_type1 ?_ h1 rfl;rw[h1];show wpAny _ _ (spliced ((false,eval e X.env)::[])) _ _ s;refine Calls.spliced_cons (xj (he pins s σ H _ I h) fun u s1 ⟨x,H1,I1,r1,q1⟩=>?_);obtain⟨a,ns,rfl,hq,hz,q⟩:=q1;cases (show u=Value.ref a from r1);obtain⟨its,rv,pl,_⟩:=I1.list hq;have ia:=eM rv;have l1:ns.length=its.length:=by have:=rv.length;rw[Ae] at this;exact this
 have sb:(4001:Nat)<scanBound:=by decide
 refine Calls.spliced_nil ?_;refine jm I1.tk (call_set_list (I1.ok.hd hc) pl.isList (ns:=ns) (by simpa using ia) (by rw[Am];lia) fun h' tk hS hk ht=>?_);have sz:its.toArray.size=ns.length:=by rw[Am,l1]
 rw[sz] at hS;obtain⟨o,ho,hex,es,ep,t,hd,_,_,hn,hf⟩:=hS.objOf;have I2:z0 X pins σ H1 { s1 with heap:=h',toks:=tk }:=I1.kept (fun b o e=>hk b o (Heap.lt_size e) e) ht;have le:rj ns≤ns.length:=firstMet_length_le _ _;have hn:es.size=rj ns:=hn;refine Calls.spliced_nil (call_len_set (s:={ s1 with heap:=h',toks:=tk }) ho hex hd hf (by rw[hn];lia) ?_);rw[hn];exact⟨.int (rj ns:Nat),H1,I2.kept (fun _ _ e=>e) (Cv _),⟨_,rfl⟩,q⟩
end
end L2
namespace L3
open PySem L2
def sw(xs:List Y)(L:ql)(Q:YK):Prop:=match xs with
 |[.ref a]=>bP L a fun ys=>∃ns:List Int,ys=ns.map Y.int/\ns.Nodup/\ns.length≤100000/\∀(D:Addr) (ms:List Int),L D=none->ms.Perm ns->ms.Pairwise (fun a b:Int=>a≤b)->Q (.ref D) (qf L D (.lst (ms.map Y.int)))
 |_=>False
theorem ot{G:G3}{H:Hp}:∀{ns:List Int} {xs:List V},x4 G H (ns.map Y.int) xs->xs=ns.map V.int
 |[],_,h=>h
 |n::r,_,⟨x,xs',e,rx,s⟩=>by subst e;cases (show x=V.int n from rx);rw[ot s];rfl
theorem u4{G:G3}{H:Hp}:∀ns:List Int,x4 G H (ns.map Y.int) (ns.map V.int)
 |[]=>rfl
 |n::r=>⟨_,_,rfl,rfl,u4 r⟩
theorem ad1 :ji X (.builtin "sorted") (yW X.g3 sw):=EN sm fun xs H Q ⟨ys,L,Q3,rv,rl,z,k⟩=>by
 unfold sw at z;split at z
 ·rename_i a;obtain⟨zs,e,ns,rfl,hnd,hlen,z⟩:=jy z;obtain⟨vs,e2,r⟩:=rl a _ e;obtain⟨u,rfl,ru⟩:=rv.inv1;cases (show u=V.ref a from ru);cases ot r;exact⟨a,ns,rfl,ET e2,hnd,hlen,fun D ms hD pm pw=>k _ _ _ _ (DY hD) (rl.newL hD (u4 ms)) (by rfl) (z D ms (rl.none hD) pm pw)⟩
 ·exact z.elim
def uU(ta:x5)(τ:jk)(L:ql)(Q:YK):Prop:=ta τ L fun x L1=>match x with
 |.ref a=>bP L1 a fun ys=>∃ns:List Int,ys=ns.map Y.int/\ns.length≤4000/\Q (.int (rj ns:Nat)) L1
 |_=>False
theorem yF{ps:Pos}(hc:X.calm=true)(hgl:Gl X "len")(hml:X.mg "len" = none)(hgs:Gl X "set")(hms:X.mg "set" = none)(he:QE X e te)(h1:starEach [e] X.env=(false,eval e X.env)::starEach [] X.env:=by rfl):
 QE X (.Call (.Name "len" p1) [.Call (.Name "set" p2) [e] [] ps] [] pos) (uU te):=DZ (wV hc hgl hml hgs hms he h1) fun σ H Q ⟨τ,L,Q3,rs,rl,z,k⟩=>
 ⟨τ,L,_,rs,rl,z,fun v H1 y L1 t1 rl1 rv1 z1=>by
  cases y with
  |ref a=>
   obtain⟨zs,e,ns,rfl,hz,z⟩:=jy z1;obtain⟨vs,e2,r⟩:=rl1 a _ e;cases ot r;exact⟨a,ns,rv1,ET e2,hz,k _ H1 _ L1 t1 rl1 (by rfl) z⟩
  |_=>exact z1.elim⟩
theorem yL{ns:List Int}(h:ns.Nodup):rj ns=ns.length:=by
 have key:∀i,i≤ns.length->PyProof.Rows.firstMet (fun i=>ns.getD i 0) i=ns.take i:=by
  intro i
  induction i with
  |zero=>intro _;rfl
  |succ i ih=>
   intro hi;rw[PyProof.Rows.firstMet_succ,ih (Nat.le_of_succ_le hi)];have e:ns[i]?=some ns[i]:=Aj hi;have e1:ns.getD i 0=ns[i]:=by rw[Bi,e];rfl
   rw[e1,Bh,e,Option.toList_some];unfold PyProof.Rows.step_dedup;rw[Ay];intro hm;have hm:ns[i]∈ns.take i:=by simpa using hm
   obtain⟨j,hj,e2⟩:=A3 hm;rw[AN] at hj;rw[Bn] at e2;have:=(List.getElem_inj h).mp e2;lia
 unfold rj;rw[key _ (Al _),Bt]
open PySem L2 Words
def oP(p0:ja):kg:=(jc (cZ (da true (qc 0)) (qp p0 (vk (qc 0)))))
def qU:kg:=(jc (zj (pN false) (uU (qc 0)) (cD 0)))
def sF(p0:ja)(p1:ja):kg:=(qw (zw (qp p0 (qe (zj cH (qc 0) (qc 1)) z9)) (qh 2))
 (qw (zw (iO xD (qe (ow 1 (vq (qc 2)) (qh 4) nV (cZ (gY (jr 0) (jC yLe (qc 4) (mF yLt (qc 1)))) (da true (zj cH (qc 0) (qc 4))))) z9)) (qh 3))
 (jc (cZ (qc 3) (qp p1 (vk (qc 2)))))))
def qR(p0:ja):kg:=(qw (zw (iO xD (qe (ow 1 (gK (vk (cD 0))) (qh 2) nV (qp p0 (aD (qc 0) (qc 2)))) z9)) (qh 1))
 (jc (cZ (qc 1) (iO ah4 (qe (ow 1 (vq (qc 0)) (qh 2) nV (da true (qc 2))) z9)))))
def vB(p0:ja)(p1:ja):kg:=(qw (v0 (uD (yB (gY (jr 0) (jC yLe (qc 1) (jC yLt (qc 2) (mF yLt (cD 0))))))) (jc (yC (.bl false))) jw)
 (jc (cZ (qp p1 (qe (zj cH (qc 0) (qc 1)) z9)) (zj (pN false) (zj cH (qc 0) (qc 2)) (qp p0 (qe (zj cH (qc 0) (qc 1)) z9))))))
def oD(p0:ja):kg:=(jc (cZ (gY (jr 0) (jC yLe (qc 1) (mF yLt (cD 0)))) (cZ (da true (zj cH (qc 0) (qc 1))) (zj (lM true) (qc 1) (qp p0 (vk (qc 0)))))))
def yg(p0:ja)(p1:ja)(p2:ja):kg:=(qw (v0 (uD (rJ (yB (qp p0 (aD (qc 0) (qc 1)))) (yB (qp p0 (aD (qc 0) (qc 2)))))) (jc (yC (.bl false))) jw)
 (jc (zj (pN false) (qp p1 (aD (qc 0) (qc 2))) (qp p2 (qe (qp p1 (aD (qc 0) (qc 1))) z9)))))
def ab1:kg:=(v0 (uD (yB (qc 0))) aa9 jw)
theorem fY(l:List Nat):nY l=(l.map fun n:Nat=>(n:Int)).map Y.int:=by unfold nY;rw[BC];rfl
theorem kC{l:List Nat}(h:l.Nodup):(l.map fun n:Nat=>(n:Int)).Nodup:=qM (fun _ _ _ _ e=>CF.mp e) h
def i9:ja:=fun ys L Q=>∃a,∃l:List Nat,ys=[.ref a]/\L a=some (.lst (nY l))/\l.length≤1000/\l.Nodup/\Q (.bl true) L
theorem af5:∀ys L Q,i9 ys L Q->jx qU 1 ys L Q:=by rintro ys L Q ⟨a,l,rfl,ha,hz,hn,q⟩;refine qy ha ⟨_,fY l,by rw[Ae];lia,qd ha ?_⟩;show eJ Q (.bl (nb false (decide (((rj (l.map fun n:Nat=>(n:Int)):Nat):Int)=((nY l).length:Int))))) L;rw[yL (kC hn),Ae,vt,AG rfl];exact js q
def kY:ja:=fun ys L Q=>∃k:Option Kn,ys=[mC k]/\Q (.bl (lfB k)) L
theorem aax:∀ys L Q,kY ys L Q->jx (oP we) 1 ys L Q:=by
 rintro ys L Q ⟨k,rfl,q⟩;cases k with
 |none=>exact js q
 |some k=>
  cases k with|lf t n=>exact⟨true,t,_,rfl,js q⟩|nd e i j=>exact⟨false,e,_,rfl,js q⟩
theorem fQ(n:Nat):(List.replicate n true).all id=true:=by induction n with|zero=>rfl|succ n ih=>rw[List.replicate_succ];exact ih
theorem oX(n:Nat):(List.replicate n true).map Y.bl++[.bl true]=(List.replicate (n+1) true).map Y.bl:=by rw[List.replicate_succ',AC];rfl
structure KnS(wd:List (Option Kn)):Prop where
 ok:OkO wd
 there:ak9 wd
 pu:rP wd
theorem KnS.at_(S:KnS wd){p:Nat}{k:Option Kn}(h:wd[p]?=some k)(hm:m∈j5 k):m<p/\∃k',wd[m]?=some (some k'):=by
 cases k with
 |none=>cases hm
 |some k=>
  cases k with
  |lf t n=>cases hm
  |nd e i j=>
   obtain⟨a,b⟩:=S.ok p e i j h;obtain⟨c,d⟩:=S.there p e i j h;have hm:m∈[i,j]:=hm;rcases Au.mp hm with rfl | hm
   ·exact⟨a,c⟩
   ·rw[Ao.mp hm];exact⟨b,d⟩
theorem KnS.nd(S:KnS wd){p:Nat}{k:Option Kn}(h:wd[p]?=some k):(j5 k).Nodup:=by
 cases k with
 |none=>exact BX
 |some k=>
  cases k with
  |lf t n=>exact BX
  |nd e i j=>
   have:=S.pu.ne p e i j h;show [i,j].Nodup;simp[this]
def nJ:ja:=fun ys L Q=>∃a,∃wd:List (Option Kn),∃p:Nat,∃pi:Int,ys=[.ref a,.int pi]/\pi=(p:Int)/\L a=some (.lst (kz wd))/\p<wd.length/\KnS wd/\Q (.bl true) L
theorem af4:∀ys L Q,nJ ys L Q->jx (sF cr i9) 4 ys L Q:=by
 rintro ys L Q ⟨a,wd,p,pi,rfl,rfl,ha,hp,S,q⟩;have ek:wd[p]?=some wd[p]:=Aj hp;generalize wd[p]=k at ek;refine qd ha (qo (vi ek) ⟨k,rfl,fun p1 h1=>?_⟩);have s1:=By (o:=.lst (nY (j5 k))) h1;have pl:=mz k;refine x0 q9 fun keep kp=>aj (fun i zs=>zs=(List.replicate i true).map Y.bl) (by rw[vt];exact BV pl (by decide)) (kp _ rfl) rfl ?_ ?_
 ·rintro i y zs hy rfl;obtain⟨m,em,rfl⟩:=cX hy;obtain⟨h2,k',h3⟩:=S.at_ ek (AI em);refine ak (AG (DK.mpr h2)) (qd (s1 _ _ ha) (qo (vi h3) ?_));have z:cR (fun zs L'=>L'=qf L p1 (.lst (nY (j5 k)))/\zs=(List.replicate (i+1) true).map Y.bl) ((List.replicate i true).map Y.bl++[.bl true]) (qf L p1 (.lst (nY (j5 k)))):=⟨_,DX _,rfl,oX i⟩;cases k'<;>exact z
 rintro zs rfl p2 h2;have s2:=By (o:=.lst ((List.replicate (nY (j5 k)).length true).map Y.bl)) h2;refine⟨rfl,qd q9 (qo (cU _) ?_)⟩;rw[fQ];exact⟨p1,j5 k,rfl,s2 _ _ q9,by lia,S.nd ek,bK (s1.trans s2) q⟩
def gF:ja:=fun ys L Q=>∃a,∃wd:List (Option Kn),ys=[.ref a]/\L a=some (.lst (kz wd))/\wd.length≤1000/\KnS wd/\(∃(x:Nat) (k:Kn),wd[x]?=some (some k))/\Q (.bl true) L
theorem wA:∀ys L Q,gF ys L Q->jx (qR nJ) 2 ys L Q:=by
 rintro ys L Q ⟨a,wd,rfl,ha,hz,S,⟨x,kx,ex⟩,q⟩;have big:=bg_;refine qd ha ⟨⟨Bf _,by rw[dP];lia⟩,?_⟩;rw[dP,BD];refine oB (fun i zs=>zs=(List.replicate i true).map Y.bl) (big _ (by lia)) rfl ?_ ?_
 ·rintro i zs hi rfl;exact⟨a,wd,i,_,rfl,CA _,ha,hi,S,_,DX _,rfl,oX i⟩
 rintro zs rfl p1 h1;have s1:=By (o:=.lst ((List.replicate wd.length true).map Y.bl)) h1;refine⟨rfl,qd q9 (qo (cU _) ?_)⟩;rw[fQ];refine x0 (s1 _ _ ha) fun keep kp=>aj (fun i zs=>zs=((wd.take i).map aY).map Y.bl) (by rw[dP];exact big _ (by lia)) (kp _ rfl) rfl ?_ ?_
 ·rintro i y zs hy rfl;rw[Ap] at hy;obtain⟨k,ek,rfl⟩:=Aw.mp hy;have z:cR (fun zs L'=>L'=qf L p1 (.lst ((List.replicate wd.length true).map Y.bl))/\zs=((wd.take (i+1)).map aY).map Y.bl) (((wd.take i).map aY).map Y.bl++[.bl (aY k)]) (qf L p1 (.lst ((List.replicate wd.length true).map Y.bl))):=⟨_,DX _,rfl,by rw[Bh,ek,AC,AC];rfl⟩;cases k with
  |none=>exact z
  |some k=>cases k<;>exact z
 rintro zs rfl p2 h2;rw[dP,Bt];have s2:=By (o:=.lst ((wd.map aY).map Y.bl)) h2;refine⟨rfl,qd q9 (qo (cU _) ?_)⟩;have e:(wd.map aY).any id=true:=List.any_eq_true.mpr ⟨true,AY.mpr ⟨_,AI ex,rfl⟩,rfl⟩;show eJ Q (.bl ((wd.map aY).any id)) _;rw[e];exact bK (s1.trans s2) q
def fz:ja:=fun ys L Q=>∃a,∃wd:List (Option Kn),∃p r:Nat,∃t:Bool,∃n:Str,ys=[.ref a,.int (p:Int),.int (r:Int)]/\L a=some (.lst (kz wd))/\p<r/\wd[p]?=some (some (.lf t n))/\wd[r]?=some (some (.lf (!t) n))/\Q (.bl true) L
theorem uv:∀ys L Q,fz ys L Q->jx (vB (aP 120) kY) 3 ys L Q:=by rintro ys L Q ⟨a,wd,p,r,t,n,rfl,ha,hlt,h1,h2,q⟩;have hr:=xu h2;refine ak (AG (DK.mpr hlt)) (qd ha ?_);refine al (by show(!decide ((r:Int)<((kz wd).length:Int)))=false;rw[dP,AG (DK.mpr hr)];rfl) ?_;refine qd ha (qo (vi h1) ⟨some (.lf t n),rfl,?_⟩);refine qd ha (qo (vi h2) (qd ha (qo (vi h1) ⟨.leaf t n,rfl,(show 1≤120 by decide),?_⟩)));refine kO (u:=.leaf (!t) n) (v:=.leaf (!t) n) (show 1≤128 by decide) ?_;show eJ Q (.bl (Da.eq _ _)) L;rw[eY];exact js q
theorem gb{L:ql}:∀xs:List Int,Paired (jf L 0) (xs.map Y.int) (xs.map fun x=>Da.s (.int x))
 |[]=>.nil
 |_::r=>.cons ⟨rfl,rfl⟩ (gb r)
theorem zC(l:List Nat):Da.eqs ((l.map fun n:Nat=>(n:Int)).map fun x=>Da.s (.int x)) ((l.map fun n:Nat=>(n:Int)).map fun x=>Da.s (.int x))=true:=by rw[BC];exact(i0 l l).mpr rfl
def tO:ja:=fun ys L Q=>∃a,∃wd:List (Option Kn),∃p:Nat,∃k:Kn,ys=[.ref a,.int (p:Int)]/\L a=some (.lst (kz wd))/\wd.length≤1000/\wd[p]?=some (some k)/\p∉xf wd/\Q (.bl true) L
theorem ahw:∀ys L Q,tO ys L Q->jx (oD iU) 2 ys L Q:=by
 rintro ys L Q ⟨a,wd,p,k,rfl,ha,hz,ek,hn,q⟩;refine qd ha (ak (by show decide ((p:Int)<((kz wd).length:Int))=true;rw[dP];exact AG (DK.mpr (xu ek))) ?_);refine qd ha (qo (vi ek) ?_);have key:∀p1,L p1=none->eJ Q (.bl (nb true (sn (eI (.int (p:Int))) ((nY (xf wd)).map eI)))) (qf L p1 (.lst (nY (xf wd)))):=fun p1 h1=>by rw[iX,Az hn];exact bK (By h1) q
 cases k<;>exact⟨a,wd,rfl,ha,hz,fun p1 h1=>qd q9 ⟨rfl,iT _,key p1 h1⟩⟩
theorem KW.ex{p:Nat}{w:Wd}(h:KW (kz wd) p w):∃k,wd[p]?=some (some k):=by cases w with|leaf t n=>exact⟨_,h.inv_lf⟩|node e l r=>obtain⟨i,j,a,_⟩:=h.inv_nd;exact⟨_,a⟩
def iy:ja:=fun ys L Q=>∃a,∃wd:List (Option Kn),∃p r:Nat,∃w:Wd,ys=[.ref a,.int (p:Int),.int (r:Int)]/\L a=some (.lst (kz wd))/\wd.length≤1000/\KW (kz wd) p w/\KW (kz wd) r w.turn/\w.depth≤120/\p∉xf wd/\r∉xf wd/\Q (.bl true) L
theorem ab3:∀ys L Q,iy ys L Q->jx (yg tO (xh 120) (aP 120)) 3 ys L Q:=by rintro ys L Q ⟨a,wd,p,r,w,rfl,ha,hz,h1,h2,hd,n1,n2,q⟩;obtain⟨k1,e1⟩:=h1.ex;obtain⟨k2,e2⟩:=h2.ex;have dt:w.turn.depth=w.depth:=bX w;refine⟨a,wd,p,k1,rfl,ha,hz,e1,n1,?_⟩;refine⟨a,wd,r,k2,rfl,ha,hz,e2,n2,?_⟩;refine⟨a,kz wd,r,w.turn,rfl,ha,h2,by lia,?_⟩;refine⟨a,kz wd,p,w,rfl,ha,h1,hd,⟨w,rfl,hd,?_⟩⟩;refine kO (u:=w.turn) (v:=w.turn) (by lia) ?_;show eJ Q (.bl (Da.eq _ _)) L;rw[eY];exact js q
def aR:ja:=fun ys L Q=>∃s:Str,ys=[.bl true,.str s]/\Q .non L
theorem yD:∀ys L Q,aR ys L Q->jx ab1 2 ys L Q:=by rintro ys L Q ⟨s,rfl,q⟩;exact js q
def wv(ks:List Kn)(T:List Nat):List (Option Kn):=(List.range ks.length).map fun p=>if p∈T then ks[p]? else none
theorem v4(ks:List Kn)(T:List Nat):(wv ks T).length=ks.length:=by unfold wv;rw[Ae,BO]
theorem kA{T:List Nat}{p:Nat}(hp:p<ks.length):(wv ks T)[p]?=some (if p∈T then ks[p]? else none):=by unfold wv;rw[Ap,Dk hp];rfl
theorem aZ{T:List Nat}{p:Nat}{k:Kn}(hp:p∈T)(hk:ks[p]?=some k):(wv ks T)[p]?=some (some k):=by rw[kA (xu hk),AA hp,hk]
theorem fK{T:List Nat}{p:Nat}{k:Kn}(h:(wv ks T)[p]?=some (some k)):p∈T/\ks[p]?=some k:=by
 have hp:p<ks.length:=by rw[<-v4 ks T];exact xu h
 rw[kA hp] at h;by_cases c:p∈T
 ·rw[AA c] at h;exact⟨c,Ba h⟩
 ·rw[Ay c] at h;cases h
theorem aex{T:List Nat}(h:∀p,p<ks.length->p∈T):wv ks T=ks.map some:=by
 refine Dv fun p=>?_;by_cases c:p<ks.length
 ·rw[kA c,AA (h p c),Ap,Aj c];rfl
 ·rw[BK (by rw[v4];lia),BK (by rw[Ae];lia)]
theorem zX{l:List Nat}(at_:∀{p:Nat} {k:Kn},wd[p]?=some (some k)->p∈l/\ks[p]?=some k)(h:(lZ ks l).Nodup):rP wd:=by
 constructor
 ·intro p e i j hp;obtain⟨h2,h1⟩:=at_ hp;obtain⟨a,b,rfl⟩:=BZ h2;rw[fg,ax,h1] at h;have:=(Aq.mp (Aq.mp h).2.1).1;have:[i,j].Nodup:=this;simpa using this
 ·intro p q k m x hp hq hx hy;obtain⟨h2,h1⟩:=at_ hp;obtain⟨h4,h3⟩:=at_ hq;by_cases c:p=q
  ·exact c
  ·exfalso;obtain⟨a,b,rfl⟩:=BZ h2;have hm:q∈a++b:=by
    rcases Ak.mp h4 with z | z
    ·exact Av _ z
    ·rcases Au.mp z with z | z
     ·exact absurd z.symm c
     ·exact Af _ z
   have pm:(lZ ks (a++p::b)).Perm (j5 (some k)++lZ ks (a++b)):=by rw[fg,ax,h1,fg];refine Cb.mpr fun z=>?_;simp only[Cr];lia
   have n:=pm.nodup_iff.mp h;have hy':x∈lZ ks (a++b):=A6.mpr ⟨q,hm,by rw[h3];exact hy⟩;exact(Aq.mp n).2.2 x hx x hy' rfl
section
variable {E:List Nat}
theorem dm.clos(T:dm ks R E){p:Nat}{e:Bool}(hp:p∈qk R)(hk:ks[p]?=some (.nd e i j)):i∈qk R/\j∈qk R:=by have m:∀x∈[i,j],x∈qk R:=fun x hx=>(T.sr.part T.nd).mem_iff.mp (Av _ (A6.mpr ⟨p,hp,by rw[hk];exact hx⟩));exact⟨m i (An ..),m j (Ag _ (An ..))⟩
theorem dm.ex(T:dm ks R E){p:Nat}(hp:p∈qk R):∃k,(wv ks (qk R))[p]?=some (some k):=⟨_,aZ hp (Aj (T.sr.lt p hp))⟩
theorem dm.knS(T:dm ks R E):KnS (wv ks (qk R)):=by
 refine⟨fun p e i j h=>?_,fun p e i j h=>?_,zX fK (Aq.mp ((T.sr.part T.nd).nodup_iff.mpr T.nd)).1⟩
 ·exact T.ok p _ (fK h).2
 ·obtain⟨h1,h2⟩:=fK h;obtain⟨a,b⟩:=T.clos h1 h2;exact⟨T.ex a,T.ex b⟩
theorem dm.prts(T:dm ks R E){x:Nat}:x∈xf (wv ks (qk R))↔x∈lZ ks (qk R):=by
 constructor
 ·intro h;obtain⟨p,k,h1,h2⟩:=mJ h;obtain⟨a,b⟩:=fK h1;exact A6.mpr ⟨p,a,by rw[b];exact h2⟩
 ·intro h;obtain⟨p,hp,hx⟩:=A6.mp h;have e:=Aj (T.sr.lt p hp);rw[e] at hx;exact vF (aZ hp e) hx
theorem dm.ends(T:dm ks R E)(x:Nat):x∈E↔x∈qk R/\x∉xf (wv ks (qk R))/\x∉kh (jt R):=by
 have P:=T.sr.part T.nd;have N:=P.nodup_iff.mpr T.nd;obtain⟨N1,N2,N3⟩:=Aq.mp N;obtain⟨N4,N5,N6⟩:=Aq.mp N2;rw[T.prts];constructor
 ·intro h;exact⟨T.sr.sub x h,fun z=>N3 x z x (Af _ h) rfl,fun z=>N6 x z x h rfl⟩
 ·rintro⟨a,b,c⟩;rcases Ak.mp (P.mem_iff.mpr a) with z | z
  ·exact absurd z b
  ·rcases Ak.mp z with z | z
   ·exact absurd z c
   ·exact z
theorem dm.cut(T:dm ks R E){x:Nat}(h:x∈kh (jt R)):x∉xf (wv ks (qk R)):=fun z=>by have N:=(T.sr.part T.nd).nodup_iff.mpr T.nd;exact(Aq.mp N).2.2 x (T.prts.mp z) x (Av _ h) rfl
theorem dm.word(T:dm ks R E):∀{w:Wd} {p:Nat},p∈qk R->bZ ks p w->KW (kz (wv ks (qk R))) p w
 |.leaf t n,p,hp,h=>by
  have h:KW (kz (ks.map some)) p (.leaf t n):=by rw[vv];exact h
  exact KW.lf (aZ hp (fb h.inv_lf))
 |.node e l r,p,hp,h=>by
  have h:KW (kz (ks.map some)) p (.node e l r):=by rw[vv];exact h
  obtain⟨i,j,a,b,c⟩:=h.inv_nd;have a:=fb a;obtain⟨hi,hj⟩:=T.clos hp a;rw[vv] at b c;exact KW.nd (aZ hp a) (T.word hi b) (T.word hj c)
theorem dm.wdep(T:dm ks R E){w:Wd}{p:Nat}(h:KW (kz (wv ks (qk R))) p w):w.depth≤96:=by have:=KW.dep T.knS.ok h;obtain⟨k,e⟩:=h.ex;have:=xu e;rw[v4] at this;have:=T.len;lia
theorem SR.rls(h:SR ks R E):∀B∈vj R,(∃EB,SR ks B EB)/\(∀x∈qk B,x∈qk R)/\(qk B).Sublist (qk R)/\jp B≤jp R/\(∀c∈jt B,c∈jt R):=by
 induction h with
 |link h1 h2 h3 h4 h5=>
  intro B hB;cases Ao.mp hB;exact⟨⟨_,.link h1 h2 h3 h4 h5⟩,fun _ h=>h,CZ _,Al _,fun _ h=>h⟩
 |@ei r i j A EA E h1 hA h3 h4 h5 h6 h7 ih=>
  intro B hB;rcases Au.mp hB with rfl | hB
  ·exact⟨⟨_,.ei h1 hA h3 h4 h5 h6 h7⟩,fun _ h=>h,CZ _,Al _,fun _ h=>h⟩
  ·obtain⟨a,b,c,d,e⟩:=ih B hB;exact⟨a,fun x h=>Ag _ (b x h),c.cons _,B6 d,e⟩
 |@bo r i j A B EA EB E h1 hA hB h4 h5 h6 h7 ih1 ih2=>
  intro C hC;rcases Au.mp hC with rfl | hC
  ·exact⟨⟨_,.bo h1 hA hB h4 h5 h6 h7⟩,fun _ h=>h,CZ _,Al _,fun _ h=>h⟩
  ·rcases Ak.mp hC with hC | hC
   ·obtain⟨a,b,c,d,e⟩:=ih1 C hC;exact⟨a,fun x h=>Ag _ (Av _ (b x h)),(c.trans (CG ..)).cons _,by show _≤max (jp A) (jp B)+1;lia,fun x h=>Av _ (e x h)⟩
   ·obtain⟨a,b,c,d,e⟩:=ih2 C hC;exact⟨a,fun x h=>Ag _ (Af _ (b x h)),(c.trans (B3 ..)).cons _,by show _≤max (jp A) (jp B)+1;lia,fun x h=>Af _ (e x h)⟩
 |@cu p q A B EA EB E w hA hB h3 h4 h5 h6 h7 h8 ih1 ih2=>
  intro C hC;rcases Au.mp hC with rfl | hC
  ·exact⟨⟨_,.cu hA hB h3 h4 h5 h6 h7 h8⟩,fun _ h=>h,CZ _,Al _,fun _ h=>h⟩
  ·rcases Ak.mp hC with hC | hC
   ·obtain⟨a,b,c,d,e⟩:=ih1 C hC;exact⟨a,fun x h=>Av _ (b x h),c.trans (CG ..),by show _≤max (jp A) (jp B)+1;lia,fun x h=>Ag _ (Av _ (e x h))⟩
   ·obtain⟨a,b,c,d,e⟩:=ih2 C hC;exact⟨a,fun x h=>Af _ (b x h),c.trans (B3 ..),by show _≤max (jp A) (jp B)+1;lia,fun x h=>Ag _ (Af _ (e x h))⟩
theorem dm.inner(T:dm ks R E){B:Ru}(h:B∈vj R):∃EB,dm ks B EB:=by obtain⟨⟨EB,s⟩,_,sub,_⟩:=T.sr.rls B h;exact⟨EB,T.ok,s,sub.nodup T.nd,T.len⟩
theorem wb:∀{R A B:Ru},A∈vj R->B∈vj A->B∈vj R
 |.link p q,A,B,h1,h2=>by cases Ao.mp h1;exact h2
 |.ei r C,A,B,h1,h2=>by
  rcases Au.mp h1 with rfl | h1
  ·exact h2
  ·exact Ag _ (wb h1 h2)
 |.bo r C D,A,B,h1,h2=>by
  rcases Au.mp h1 with rfl | h1
  ·exact h2
  ·rcases Ak.mp h1 with h1 | h1
   ·exact Ag _ (Av _ (wb h1 h2))
   ·exact Ag _ (Af _ (wb h1 h2))
 |.cu p q C D,A,B,h1,h2=>by
  rcases Au.mp h1 with rfl | h1
  ·exact h2
  ·rcases Ak.mp h1 with h1 | h1
   ·exact Ag _ (Av _ (wb h1 h2))
   ·exact Ag _ (Af _ (wb h1 h2))
theorem dJ(A:Ru):A∈vj A:=by rw[fC];exact An ..
theorem uH{A B:Ru}(h:B∈zd A):B∈vj A:=by rw[fC];exact Ag _ (A6.mpr ⟨B,h,dJ B⟩)
end
open PySem L2 PyProof.Rows
def ahe(neg:Bool)(x y:Y)(L:ql)(Q:YK):Prop:=match x,y with
 |.bl c,.bl d=>Q (.bl (nb neg (c==d))) L
 |_,_=>False
theorem aev :vm X (compareOp .IsNot) (fun x y H Q=>∃c d,x=.bl c/\y=.bl d/\Q (.bl (!(c==d))) H):=by intro pins s σ H x y v u Q I rx ry h;obtain⟨c,d,rfl,rfl,q⟩:=h;cases rx;cases ry;exact isnot_bool (j9 I q rfl)
theorem aih :vm X (compareOp .IsNot) (dZ X.g3 (ahe true)):=ER aev fun x y H Q ⟨x3,y3,L,Q3,rx,ry,rl,z,k⟩=>by
 unfold ahe at z;split at z
 ·exact⟨_,_,rx,ry,k _ H _ L (DW _) rl (by rfl) z⟩
 ·exact z.elim
end L3
namespace L2
open PySem PySem.Spec PyProof.Rows
section
theorem zQ(neg:Bool)(hu:X.A.units+128<cLine):vm X (compareOp (if neg then .NotIn else .In)) (fun x y H Q=>∃a kvs k,y=.ref a/\H a=some (.dK kvs)/\x=kV k/\Q (.bl (if neg then !(aJ kvs k).isSome else(aJ kvs k).isSome)) H):=by intro pins s σ H x y v u Q I rx ry ⟨a,kvs,k,ey,e,ex,q⟩;subst ex ey;cases (show u=Value.ref a from ry);cases neg with|false=>exact amv (by omega) I (oM.k e) rx fun s' I'=>⟨.bl _,H,I',rfl,q⟩|true=>exact ae8 (by omega) I (oM.k e) rx fun s' I'=>⟨.bl _,H,I',rfl,q⟩
theorem ph:ji X (.builtin "len") (fun xs H Q=>∃a kvs,xs=[.ref a]/\H a=some (.dK kvs)/\Q (.int kvs.length) H):=by intro pins s σ H xs us Q I r ⟨a,kvs,ex,e,q⟩;subst ex;obtain⟨u,rfl,rx⟩:=gq r;cases rx;exact akj I (.inl e) fun t s' I'=>⟨.int _,H,I',⟨t,rfl⟩,q⟩
def acw(w:World)(r:Str×Tok×Int×Tok):DictEntry:=⟨hashStr w r.1,.str r.1 r.2.1,.int r.2.2.1 r.2.2.2⟩
theorem agv{K:Ah}{P:Program}{w:World}{c:Addr}{ep:Nat}(rows:List (Str×Tok×Int×Tok))(l:K.lookup c=some ⟨.type "dict",none,.dict (rows.map (acw w)).toArray ep,#[]⟩)(hs:(c==sysModules)=false)(hz:rows.length≤1000)(nd:(rows.map fun r=>(Sum.inr r.1:zq)).Nodup):
 KD K P w c (rows.map fun r=>(Sum.inr r.1,.int r.2.2.1)):=by
 refine⟨hs,by rw[Ae];exact small hz,fun h X=>⟨rows.map fun r=>(Sum.inr r.1,.int r.2.2.1 r.2.2.2),?_,_,_,ep,X c _ l,⟨rfl,rfl,rfl⟩,rfl,?_,?_,?_⟩⟩
 ·unfold KV;clear l hz nd
  induction rows with|nil=>exact .nil|cons r t ih=>exact .cons ⟨rfl,_,rfl⟩ ih
 ·intro e he;have he':e∈rows.map (acw w):=by simpa using he
  obtain⟨r,_,rfl⟩:=AY.mp he';exact⟨Sum.inr r.1,bG r.1 r.2.1,rfl⟩
 ·show Pairs _ (rows.map (acw w)).toArray.toList _;rw[Dj];clear l hz nd
  induction rows with|nil=>exact .nil|cons r t ih=>exact .cons (bG r.1 r.2.1) rfl ih
 ·rw[BC];exact nd
end
end L2
namespace L3
open PySem L2
theorem xB{xs:List (zq×V)}(p:Paired (fun(p:zq×Y) (q:zq×V)=>p.1=q.1/\RV G H p.2 q.2) kvs xs)(k:zq):(aJ xs k).isSome=(v3 kvs k).isSome:=by
 unfold aJ v3;rw[Cn,Cn]
 induction p with
 |nil=>rfl
 |@cons a b _ _ r t ih=>
  rw[Bp,Bp,r.1];cases decide (b.1=k) with|true=>rfl|false=>exact ih
def tM(neg:Bool)(x y:Y)(L:ql)(Q:YK):Prop:=match y,ac4 x with
 |.ref a,some k=>l8 L a fun kvs=>Q (.bl (nb neg (v3 kvs k).isSome)) L
 |_,_=>False
theorem zO(neg:Bool)(hu:X.A.units+128<cLine):vm X (compareOp (if neg then .NotIn else .In)) (dZ X.g3 (tM neg)):=ER (zQ neg hu) fun x y H Q ⟨x3,y3,L,Q3,rx,ry,rl,z,k⟩=>by
 unfold tM at z;split at z
 ·rename_i a kk ek;obtain⟨kvs,e,z⟩:=cz z;obtain⟨xs,e2,pr⟩:=rl a _ e;refine⟨a,xs,kk,ry,e2,lT ek rx,?_⟩;have:(if neg=true then !(aJ xs kk).isSome else(aJ xs kk).isSome)=nb neg (v3 kvs kk).isSome:=by rw[xB pr];cases neg<;>simp[nb]
  rw[this];exact k _ H _ L (DW _) rl (by rfl) z
 ·exact z.elim
theorem aju(hu:X.A.units+128<cLine):vm X (compareOp .In) (dZ X.g3 (tM false)):=zO false hu
theorem yY(hu:X.A.units+128<cLine):vm X (compareOp .NotIn) (dZ X.g3 (tM true)):=zO true hu
def abx(xs:List Y)(L:ql)(Q:YK):Prop:=match xs with
 |[.ref a]=>l8 L a fun kvs=>Q (.int kvs.length) L
 |_=>False
theorem aiw :ji X (.builtin "len") (yW X.g3 abx):=EN ph fun xs H Q ⟨ys,L,Q3,rv,rl,z,k⟩=>by
 unfold abx at z;split at z
 ·rename_i a;obtain⟨u,rfl,ru⟩:=rv.inv1;obtain⟨kvs,e,z⟩:=cz z;obtain⟨us,e2,pr⟩:=rl a _ e;cases (show u=V.ref a from ru);refine⟨a,us,rfl,e2,?_⟩;rw[<-eW pr];exact k _ H _ L (DW _) rl (by rfl) z
 ·exact z.elim
def uB(xs:List Y)(L:ql)(Q:YK):Prop:=match xs with
 |[.ref a]=>bP L a fun ys=>Q (.tup ys) L
 |_=>False
theorem adq :ji X (.type "tuple") (yW X.g3 uB):=EN lh fun xs H Q ⟨ys,L,Q3,rv,rl,z,k⟩=>by
 unfold uB at z;split at z
 ·rename_i a;obtain⟨u,rfl,ru⟩:=rv.inv1;obtain⟨zs,e,z⟩:=jy z;obtain⟨us,e2,r⟩:=rl a _ e;cases (show u=V.ref a from ru);exact⟨a,us,rfl,.inl ⟨.inl (.inl e2),fun l hl=>k _ _ (.tup zs) L (DY hl) (rl.skip hl) ⟨l,us,rfl,.inl (.inl zv),r.ts (DY hl)⟩ z⟩⟩
 ·exact z.elim
structure akv(G:G3)(mg:Str->Option Value)(x:Str)(kvs:List (Str×Int)):Prop where
 ex:∃a,mg x=some (.ref a)/\KD G.K G.P G.w a (kvs.map fun p=>(Sum.inr p.1,V.int p.2))
theorem pU{kvs:List (Str×Int)}{k:Str}{x:Int}(h:kvs.lookup k=some x):aJ (kvs.map fun p=>((Sum.inr p.1:zq),V.int p.2)) (Sum.inr k)=some (V.int x):=by
 induction kvs with
 |nil=>simp at h
 |cons p r ih=>
  obtain⟨a,b⟩:=p;unfold aJ;rw[AO,Bp];rw[Bs] at h;by_cases c:k=a
  ·subst c;simp at h;simp[h]
  ·have c1:(k==a)=false:=by simpa using c
   rw[c1] at h;have c2:decide ((Sum.inr a:zq)=Sum.inr k)=false:=Az fun z=>c (Sum.inr.inj z).symm;simp only[c2];exact ih h
def tf(kvs:List (Str×Int))(ti:x5)(τ:jk)(L:ql)(Q:YK):Prop:=ti τ L fun y L1=>match y with
 |.str k=>sd L1 (fun i L=>Q (.int i) L) (kvs.lookup k)
 |_=>False
theorem qB{kvs:List (Str×Int)}{i:Expr}(t:akv X.g3 X.mg x kvs)(hg:Gl X x)(hi:QE X i ti)(hp:i6 i)(hd:Ed x:=by decide):QE X (.Subscript (.Name x p) i pos) (tf kvs ti):=by
 obtain⟨a,hm,kd⟩:=t.ex;refine DZ (af6 alk (u7 hg hm (show zf (.ref a) (.ref a) from rfl) hd) hi hp) fun σ H Q ⟨τ,L,Q3,rs,rl,z,k⟩=>?_;refine⟨τ,L,_,rs,rl,z,fun v H1 y L1 t1 rl1 rv1 z1=>?_⟩;split at z1
 ·rename_i kk;obtain⟨j,ej,q⟩:=fS z1;cases (show v=V.str kk from rv1);exact⟨_,_,.inr kd,pU ej,k _ H1 _ L1 t1 rl1 (by rfl) q⟩
 ·exact z1.elim
open PySem L2 Words
def aA:List (Str×Int):=[("link",2),("either",1),("both",1),("cut",2)]
def rV:kg:=(jc (iO dN (qe (ySl xU (qc 0) (cL (jr 1)) (cL (zj w5 (jr 1) (tf aA (ju 0 0))))) z9)))
def ut:kg:=(jc (iO dN (qe (ySl xU (qc 0) (cL (zj w5 (jr 1) (tf aA (ju 0 0)))) ai) z9)))
def sg(p0:ja)(p1:ja):kg:=(qw (zw (xw (vk (qc 0))) (qh 1))
 (qw (gR (vq (qp p0 (vk (qc 0)))) (qh 2) (jb (aq a9 (qc 1) (qe (qp p1 (vk (qc 2))) z9))))
 (jc (qc 1))))
def uq(p0:ja):kg:=(jc (yIf (gg (ju 0 0) (cQ "cut")) (xw z9) (qp p0 (vk (qc 0)))))
def tV(p0:ja):kg:=(qw (v0 (gg (ju 1 0) (cQ "link")) (jc (xw z9)) jw)
 (qw (v0 (gg (ju 1 0) (cQ "cut")) (jc (xw (qe (xw (vk (ju 1 1))) (qe (xw (vk (ju 1 2))) z9)))) jw)
 (qw (zw (qp p0 (qe (zj cH (qc 0) (ju 1 1)) z9)) (qh 2))
 (qw (v0 (gg (ju 1 0) (cQ "either")) (jc (xw (vk (qc 2)))) jw)
 (jc (ow 1 (vq (qc 2)) (qh 3) nV (xw (vk (qc 3)))))))))
def yE(p0:ja)(p1:ja)(p2:ja)(p3:ja)(p4:ja):kg:=(qw (zw (qp p0 (vk (qc 1))) (qh 2))
 (qw (gR (afx (qe (qp p2 (vk (qc 1))) (qe (qp p1 (aD (qc 0) (qc 1))) z9))) (cO 2 (jd (qh 3) (jd (qh 4) ae))) (qw (zw (qp p3 (aD (qc 0) (qc 3))) (qh 5))
 (qw (jb (qp p4 (qe (iO xD (qe (ow 1 (vq (qc 4)) (qh 6) nV (zj (lM false) (qc 6) (qc 5))) z9)) (vk (cQ "a rule takes what is no end of its arm")))))
 (jb (aq a9 (qc 2) (qe (ow 1 (vq (qc 5)) (qh 6) (yB (zj (lM true) (qc 6) (qc 4))) (qc 6)) z9))))))
 (jc (qc 2))))
def eO(p0:ja)(p1:ja)(p2:ja)(p3:ja):kg:=(qw (zw (qp p0 (vk (qc 0))) (qh 2))
 (qw (zw qC (qh 3))
 (qw (zw (xw (vk (qc 1))) (qh 4))
 (qw (lK (rdN (qc 4) (xw z9)) (qw (zw (aq yA (qc 4) z9) (qh 5))
 (qw (gR (vq (qp p1 (vk (qc 5)))) (qh 6) (qw (jb (qp p2 (qe (cZ (zj (lM false) (qc 6) (qc 2)) (zj (tM true) (qc 6) (qc 3))) (vk (cQ "a place is told twice, or is gone or out of range")))))
 (dh (qc 3) (qc 6) (yC (.bl true)))))
 (jb (aq a9 (qc 4) (qe (qp p3 (vk (qc 5))) z9))))))
 (jb (qp p2 (qe (zj (pN false) (iO abx (vk (qc 3))) (cD 2)) (vk (cQ "a place is told by no rule")))))))))
def agz(p0:ja)(p1:ja):kg:=(qw (v0 (gg (ju 1 0) (cQ "link")) (jc (qp p0 (qe (qc 0) (aD (ju 1 1) (ju 1 2))))) jw)
 (qw (v0 (gg (ju 1 0) (cQ "cut")) (jc (qp p1 (qe (qc 0) (aD (ju 1 1) (ju 1 2))))) jw)
 (jc (zj (pN false) (zj cH (zj cH (qc 0) (ju 1 1)) (jr 0)) (ju 1 0)))))
def iq(p0:ja)(p1:ja)(p2:ja)(p3:ja)(p4:ja)(p5:ja)(p6:ja)(p7:ja):kg:=(qw (zw (ju 0 0) (qh 1))
 (qw (zw (ju 0 1) (qh 2))
 (qw (jb (qp p0 (qe (qp p1 (vk (qc 1))) (vk (cQ "the knots are not sound, or all of them are gone")))))
 (qw (jb (qp p0 (qe (qp p2 (qe (qp p3 (vk (qc 1))) z9)) (vk (cQ "a place is a part of two knots")))))
 (qw (jb (qp p4 (aD (qc 1) (qc 2))))
 (qw (jb (qp p0 (qe (iO xD (qe (ow 1 (vq (qp p5 (vk (qc 2)))) (qh 3) nV (qp p6 (aD (qc 1) (qc 3)))) z9)) (vk (cQ "a rule does not fit its knots")))))
 (qw (jb (qp p7 (aD (qc 1) (qc 2))))
 (jc (yC (.bl true))))))))))
def r6(p0:ja):kg:=(jc (iO sw (qe (qp p0 (aD (ju 0 0) (ju 0 1))) z9)))
def plR:Ru->List Nat
 |.link p q=>[p,q]
 |.ei r _=>[r]
 |.bo r _ _=>[r]
 |.cu p q _ _=>[p,q]
def nW:ja:=fun ys L Q=>∃A:Ru,ys=[qm A]/\∀p,L p=none->Q (.ref p) (qf L p (.lst (nY (plR A))))
theorem ael:∀ys L Q,nW ys L Q->jx rV 1 ys L Q:=by
 rintro ys L Q ⟨A,rfl,q⟩;cases A with
 |link a b=>exact⟨fun z=>absurd z.1 (by show ¬1=0;decide),fun p hp=>js (q p hp)⟩
 |ei r A=>exact⟨fun z=>absurd z.1 (by show ¬1=0;decide),fun p hp=>js (q p hp)⟩
 |bo r A B=>exact⟨fun z=>absurd z.1 (by show ¬1=0;decide),fun p hp=>js (q p hp)⟩
 |cu a b A B=>exact⟨fun z=>absurd z.1 (by show ¬1=0;decide),fun p hp=>js (q p hp)⟩
def aQ:ja:=fun ys L Q=>∃A:Ru,ys=[qm A]/\∀p,L p=none->Q (.ref p) (qf L p (.lst ((zd A).map qm)))
theorem wT:∀ys L Q,aQ ys L Q->jx ut 1 ys L Q:=by
 rintro ys L Q ⟨A,rfl,q⟩;cases A with
 |link a b=>exact⟨fun z=>absurd z.1 (by show ¬3=0;decide),fun p hp=>js (q p hp)⟩
 |ei r A=>exact⟨fun z=>absurd z.1 (by show ¬2=0;decide),fun p hp=>js (q p hp)⟩
 |bo r A B=>exact⟨fun z=>absurd z.1 (by show ¬2=0;decide),fun p hp=>js (q p hp)⟩
 |cu a b A B=>exact⟨fun z=>absurd z.1 (by show ¬3=0;decide),fun p hp=>js (q p hp)⟩
def dQ:ja:=fun ys L Q=>∃A:Ru,ys=[qm A]/\∀p,L p=none->Q (.ref p) (qf L p (.lst (nY (ki A))))
theorem wZ:∀ys L Q,dQ ys L Q->jx (uq nW) 1 ys L Q:=by
 rintro ys L Q ⟨A,rfl,q⟩;cases A with
 |link a b=>exact⟨_,rfl,fun p hp=>js (q p hp)⟩
 |ei r A=>exact⟨_,rfl,fun p hp=>js (q p hp)⟩
 |bo r A B=>exact⟨_,rfl,fun p hp=>js (q p hp)⟩
 |cu a b A B=>exact fun p hp=>js (q p hp)
def aT(n:Nat):ja:=fun ys L Q=>∃A:Ru,ys=[qm A]/\jp A≤n/\a7 A≤1000/\∀p,L p=none->Q (.ref p) (qf L p (.lst ((vj A).map qm)))
theorem kB(A:Ru):0<jp A:=by cases A<;>simp[jp]
theorem aap:∀ys L Q,¬aT 0 ys L Q:=by rintro ys L Q ⟨A,_,h,_⟩;have:=kB A;lia
theorem adu{A B:Ru}(h:B∈zd A):a7 B<a7 A:=by
 cases A with
 |link p q=>cases h
 |ei r C=>cases Ao.mp h;exact BL _
 |bo r C D=>
  have:a7 (.bo r C D)=a7 C+a7 D+1:=rfl;rcases Au.mp h with rfl | h
  ·lia
  ·cases Ao.mp h;lia
 |cu p q C D=>
  have:a7 (.cu p q C D)=a7 C+a7 D+1:=rfl;rcases Au.mp h with rfl | h
  ·lia
  ·cases Ao.mp h;lia
theorem uA(n:Nat):∀ys L Q,aT (n+1) ys L Q->jx (sg aQ (aT n)) 3 ys L Q:=by
 rintro ys L Q ⟨A,rfl,hd,hz,q⟩;have big:=bg_;intro l hl;refine⟨A,rfl,fun pa hpa=>?_⟩;have nlp:l≠pa:=ke q9 hpa;have hpa0:L pa=none:=jj hpa;have s0:qi L (qf (qf L l (.lst [qm A])) pa (.lst ((zd A).map qm))):=(By hl).trans (By hpa);have sz:∀i,(((zd A).take i).flatMap vj).length≤1000:=fun i=>by
  have e:=BM List.length (fC A);rw[aa] at e;have h2:(((zd A).take i).flatMap vj).length+(((zd A).drop i).flatMap vj).length=((zd A).flatMap vj).length:=by rw[<-Ac,<-AF,Bb]
  simp only[AJ] at e;lia
 refine x0 q9 fun keep kp=>kj ⟨fun i τ L'=>∃c2,τ=[some (qm A),some (.ref l),c2]/\qi L L'/\L' l=some (.lst ((A::((zd A).take i).flatMap vj).map qm))/\L' pa=some (.lst ((zd A).map qm)),⟨_,rfl,s0,(qa nlp).trans q9,q9⟩,?_,?_,?_⟩
 ·rintro i τ L' ⟨c2,rfl,s,g,g2⟩;exact kp L' (by rw[g2,q9])
 ·rintro i y τ L' hy ⟨c2,rfl,s,g,g2⟩;rw[Ap] at hy;obtain⟨B,eB,rfl⟩:=Aw.mp hy;have mB:=AI eB;have et:(zd A).take (i+1)=(zd A).take i++[B]:=by rw[Bh,eB];rfl
  have zB:=adu mB;have dB:=wn mB;have zi:=sz i;refine qd g ⟨B,rfl,by lia,by lia,fun p hp=>?_⟩;have np:l≠p:=ke g hp;have npa:pa≠p:=ke g2 hp;refine qy ((qa np).trans g) (qy q9 ⟨?_,?_⟩)
  ·rw[Ae,Ae,AJ,aa];exact Bz (big _ (by lia))
  ·refine⟨_,DX _,_,rfl,(s.trans (By hp)).upd hl,?_,(qa (AK nlp)).trans ((qa npa).trans g2)⟩;rw[q9,et,AF,C0,<-AC];rfl
 ·rintro τ L' ⟨c2,rfl,s,g,_⟩;rw[Ae,Bt,<-fC] at g;exact bK (qi.put s g) (q l hl)
def Agr(ks:List Kn)(wd:List (Option Kn))(A:Ru):Prop:=∀x∈qk A,∀k,ks[x]?=some k->wd[x]?=some (some k)
theorem Agr.arm{A B:Ru}(h:Agr ks wd A)(hB:B∈zd A):Agr ks wd B:=fun x hx=>h x (by rw[g0];exact Af _ (A6.mpr ⟨B,hB,hx⟩))
def oK:ja:=fun ys L Q=>∃a,∃wd:List (Option Kn),∃ks:List Kn,∃A:Ru,∃E:List Nat,ys=[.ref a,qm A]/\L a=some (.lst (kz wd))/\SR ks A E/\Agr ks wd A/\
 ∀p rs L',qi L L'->L p=none->L' p=some (.lst (rs.map Y.ref))->Paired (fun r t=>L r=none/\L' r=some (.lst (nY t))) rs (ip ks A)->Q (.ref p) L'
theorem ae2:∀ys L Q,oK ys L Q->jx (tV cr) 3 ys L Q:=by
 rintro ys L Q ⟨a,wd,ks,A,E,rfl,ha,sr,ag,q⟩;cases sr with
 |link=>exact fun p hp=>js (q p [] _ (By hp) hp q9 .nil)
 |@cu u v A B EA EB _ w hA hB h3 h4=>
  intro p1 h1 p2 h2 p3 h3;have n12:p1≠p2:=ke q9 h2;have n13:p1≠p3:=ke ((qa n12).trans q9) h3;have n23:p2≠p3:=ke q9 h3;exact js (q p3 [p1,p2] _ (((By h1).trans (By h2)).trans (By h3)) (jj (jj h3)) q9 (.cons ⟨h1,(qa n13).trans ((qa n12).trans q9)⟩ (.cons ⟨jj h2,(qa n23).trans q9⟩ .nil)))
 |@ei r i j A EA _ h1=>
  refine qd ha (qo (vi (ag r (An ..) _ h1)) ⟨some (.nd true i j),rfl,fun p1 g1=>?_⟩);intro p2 g2;have n12:p1≠p2:=ke q9 g2;refine js (q p2 [p1] _ ((By g1).trans (By g2)) (jj g2) q9 ?_);show Paired _ [p1] [j5 ks[r]?];rw[h1];exact .cons ⟨g1,(qa n12).trans q9⟩ .nil
 |@bo r i j A B EA EB _ h1=>
  refine qd ha (qo (vi (ag r (An ..) _ h1)) ⟨some (.nd false i j),rfl,fun p1 g1=>?_⟩);have s1:qi L (qf L p1 (.lst (nY [i,j]))):=By g1;refine x0 q9 fun keep kp=>zT ⟨show 2<sizeLine by decide,fun m zs L'=>∃rs,zs=rs.map Y.ref/\qi (qf L p1 (.lst (nY [i,j]))) L'/\Paired (fun r t=>L r=none/\L' r=some (.lst (nY t))) rs (([i,j].map fun x=>[x]).take m),⟨[],rfl,DX _,.nil⟩,?_,?_,?_⟩
  ·rintro m zs L' ⟨rs,_,s,_⟩;exact kp L' (by rw[q9];exact s _ _ q9)
  ·rintro m y zs L' hy ⟨rs,rfl,s,pr⟩;obtain⟨x,ex,rfl⟩:=cX hy;have ex:[i,j][m]?=some x:=ex;intro p2 g2;refine⟨_,DX _,rs++[p2],by rw[AC];rfl,s.trans (By g2),?_⟩;have et:([i,j].map fun x=>[x]).take (m+1)=([i,j].map fun x=>[x]).take m++[[x]]:=by rw[Bh,Ap,ex];rfl
   rw[et];exact hV (EE pr fun b t hb=>⟨hb.1,(qa (ke hb.2 g2)).trans hb.2⟩) ⟨s1.none (s.none g2),q9⟩
  ·rintro zs L' ⟨rs,rfl,s,pr⟩ p3 g3;refine js (q p3 rs _ ((s1.trans s).trans (By g3)) (s1.none (s.none g3)) q9 ?_);show Paired _ rs ((j5 ks[r]?).map fun x=>[x]);rw[h1];exact EE pr fun b t hb=>⟨hb.1,(qa (ke hb.2 g3)).trans hb.2⟩
theorem vN{A:Ru}:∀t∈ip ks A,t.length≤2:=by
 intro t ht;cases A with
 |link p q=>cases ht
 |ei r A=>rw[Ao.mp ht];exact mz _
 |bo r A B=>obtain⟨x,_,rfl⟩:=AY.mp ht;exact BS 1
 |cu p q A B=>
  rcases Au.mp ht with rfl | ht
  ·exact BS 1
  ·rw[Ao.mp ht];exact BS 1
theorem jP{A:Ru}{E:List Nat}(sr:SR ks A E)(nd:(qk A).Nodup):(xi ks A).length≤(qk A).length:=by have:=(sr.part nd).length_eq;rw[Ac,Ac] at this;rw[(oE sr nd).length_eq];lia
theorem yo{A B:Ru}(h:B∈zd A):(qk B).Sublist (qk A):=by rw[g0 A];refine List.Sublist.trans ?_ (B3 ..);obtain⟨a,b,e⟩:=BZ h;rw[e,AF,AW];exact(CG ..).trans (B3 ..)
def Kp(l:Addr)(L L':ql):Prop:=∀b o,b≠l->L b=some o->L' b=some o
theorem Kp.new{p:Addr}{o:LO}(h:Kp l L L')(hp:L' p=none):Kp l L (qf L' p o):=fun b u hb e=>(qa (ke (h b u hb e) hp)).trans (h b u hb e)
theorem Kp.upd{o:LO}(h:Kp l L L'):Kp l L (qf L' l o):=fun b u hb e=>(qa hb).trans (h b u hb e)
def aS(n:Nat):ja:=fun ys L Q=>∃a,∃wd:List (Option Kn),∃ks:List Kn,∃A:Ru,∃E:List Nat,ys=[.ref a,qm A]/\L a=some (.lst (kz wd))/\SR ks A E/\Agr ks wd A/\(qk A).Nodup/\(qk A).length≤1000/\jp A≤n/\
 ∀p,L p=none->Q (.ref p) (qf L p (.lst (nY (xi ks A))))
theorem vW:∀ys L Q,¬aS 0 ys L Q:=by rintro ys L Q ⟨a,wd,ks,A,E,_,_,_,_,_,_,h,_⟩;have:=kB A;lia
theorem wR(n:Nat):∀ys L Q,aS (n+1) ys L Q->jx (yE dQ oK aQ (aS n) aR) 6 ys L Q:=by
 rintro ys L Q ⟨a,wd,ks,A,E,rfl,ha,sr,ag,nd,tl,hd,q⟩;have big:=bg_;refine⟨A,rfl,fun l hl=>⟨A,rfl,fun pa hpa=>?_⟩⟩;have nlp:pa≠l:=AK (ke q9 hpa);have nal:a≠l:=ke ha hl;have sa:qi L (qf (qf L l (.lst (nY (ki A)))) pa (.lst ((zd A).map qm))):=(By hl).trans (By hpa);refine⟨a,wd,ks,A,E,rfl,sa _ _ ha,sr,ag,fun pt rs L1 s1 hpt gt pr=>?_⟩;have gl:L1 l=some (.lst (nY (ki A))):=s1 _ _ ((qa (AK nlp)).trans q9);have gp:L1 pa=some (.lst ((zd A).map qm)):=s1 _ _ q9;have ga:L1 a=some (.lst (kz wd)):=s1 _ _ (sa _ _ ha);have ntl:pt≠l:=fun z=>by rw[z] at hpt;rw[(qa (AK nlp)).trans q9] at hpt;cases hpt
 obtain⟨Z,eZ⟩:∃Z,Z=((zd A).map (xi ks)).zip (ip ks A):=⟨_,rfl⟩;have eF:xi ks A=ki A++Z.flatMap je:=by rw[eZ];exact xN ks A
 have zl:∀i,(ki A++(Z.take i).flatMap je).length≤1000:=fun i=>by
  have h1:=jP sr nd;have h2:((Z.take i).flatMap je).length+((Z.drop i).flatMap je).length=(Z.flatMap je).length:=by rw[<-Ac,<-AF,Bb]
  rw[eF,Ac] at h1;rw[Ac];lia
 refine qd gp (qd gt (aeg (fun i τ L'=>∃c3 c4 c5,τ=[some (.ref a),some (qm A),some (.ref l),c3,c4,c5]/\Kp l L1 L'/\L' l=some (.lst (nY (ki A++(Z.take i).flatMap je)))) ⟨_,_,_,rfl,fun _ _ _ h=>h,by rw[DR,C8,AV];exact gl⟩ (fun i τ L' ⟨_,_,_,_,k,_⟩=>⟨by show L' pa=_;rw[k _ _ nlp gp,gp],by show L' pt=_;rw[k _ _ ntl gt,gt]⟩) ?_ ?_))
 ·rintro i x y τ L' ex ey ⟨c3,c4,c5,rfl,k,g⟩;rw[Ap] at ex ey;obtain⟨B,eB,rfl⟩:=Aw.mp ex;obtain⟨r,er,rfl⟩:=Aw.mp ey;obtain⟨t,et,hr0,gr⟩:=Paired.getP pr er;obtain⟨EB,sB,sub⟩:=EH sr.arms eB et;have mB:=AI eB;have tB:=yo mB;have nB:=tB.nodup nd;have lB:=tB.length_le;have dB:=wn mB;have nrl:r≠l:=fun z=>by rw[z,(qa (AK nlp)).trans q9] at hr0;cases hr0
  have FB:=oE sB nB;have FL:=jP sB nB;have tl2:=vN t (AI et);have ei:Z.take (i+1)=Z.take i++[(xi ks B,t)]:=by
   have:Z[i]?=some (xi ks B,t):=by rw[eZ,Ds];exact⟨by rw[Ap,eB];rfl,et⟩
   rw[Bh,this];rfl
  have zi:=zl i;have zi1:=zl (i+1);refine⟨a,wd,ks,B,EB,rfl,k _ _ nal ga,sB,ag.arm mB,nB,by lia,by lia,fun p5 h5=>?_⟩;have k5:Kp l L1 (qf L' p5 (.lst (nY (xi ks B)))):=k.new h5;have g5:qf L' p5 (.lst (nY (xi ks B))) l=some (.lst (nY (ki A++(Z.take i).flatMap je))):=(qa (ke g h5)).trans g;have e5:qf L' p5 (.lst (nY (xi ks B))) p5=some (.lst (nY (xi ks B))):=q9;generalize qf L' p5 (.lst (nY (xi ks B)))=L5 at k5 g5 e5 ⊢;refine x0 (k5 _ _ nrl gr) fun keep kp=>aj (fun i zs=>zs=(List.replicate i true).map Y.bl) (by rw[vt];exact big _ (by lia)) (kp _ rfl) rfl ?_ ?_
  ·rintro j y zs hy rfl;obtain⟨m,em,rfl⟩:=cX hy;refine qd e5 ⟨rfl,iT _,?_⟩;rw[iX,AG (FB.mem_iff.mpr (sub m (AI em)))];exact⟨_,DX _,rfl,oX j⟩
  rintro zs rfl p6 h6;refine⟨rfl,qd q9 (qo (cU _) ?_)⟩;rw[fQ];refine⟨_,rfl,?_⟩;have k6:=k5.new (o:=.lst ((List.replicate (nY t).length true).map Y.bl)) h6;have g6:=(qa (o:=.lst ((List.replicate (nY t).length true).map Y.bl)) (ke g5 h6)).trans g5;have e6:=(qa (o:=.lst ((List.replicate (nY t).length true).map Y.bl)) (ke e5 h6)).trans e5;generalize qf L5 p6 (.lst ((List.replicate (nY t).length true).map Y.bl))=L6 at k6 g6 e6 ⊢;refine qd g6 (x0 e6 fun keep kp=>aj (fun i zs=>zs=nY (je ((xi ks B).take i,t))) (by rw[vt];exact big _ (by lia)) (kp _ rfl) rfl ?_ ?_)
  ·rintro j y zs hy rfl;obtain⟨m,em,rfl⟩:=cX hy;have e2:je ((xi ks B).take (j+1),t)=je ((xi ks B).take j,t)++je ([m],t):=by unfold je;rw[Bh,em,<-CM];rfl
   refine qd (k6 _ _ nrl gr) ⟨rfl,iT _,?_⟩;rw[iX];by_cases c:m∈t
   ·refine al (by rw[AG c];rfl) ⟨_,DX _,rfl,?_⟩;have e3:je ([m],t)=[]:=by unfold je;rw[C7,Ay (by rw[AG c];decide)];rfl
    rw[e2,e3,AV]
   ·refine ak (by rw[Az c];rfl) ⟨_,DX _,rfl,?_⟩;have e3:je ([m],t)=[m]:=by unfold je;rw[C7,AA (by rw[Az c];rfl)];rfl
    rw[e2,e3,gH];rfl
  rintro zs rfl p7 h7;rw[vt,Bt];refine qy ((qa (ke g6 h7)).trans g6) (qy q9 ⟨?_,?_⟩)
  ·rw[ei,AF,<-AD,Ac,C0] at zi1;rw[vt,vt];exact Bz (big _ (by lia))
  ·refine⟨_,DX _,_,_,_,rfl,(k6.new h7).upd,?_⟩;rw[q9,ei,AF,C0,<-AD,gH (ki A++_)]
 ·rintro τ L' ⟨c3,c4,c5,rfl,k,g⟩;have lz:Z.take (min ((zd A).map qm).length (rs.map Y.ref).length)=Z:=by refine AZ ?_;have h1:=eW pr;have h2:=eW sr.arms;rw[eZ,CK,Ae,Ae,Ae];lia
  rw[lz,<-eF] at g;refine bK (qi.put (fun b o e=>?_) g) (q l hl);exact k b o (ke e hl) (s1 _ _ (sa _ _ e))
theorem qO{T:List Nat}(hT:∀x∈T,x<ks.length){x:Nat}:x∈wq (wv ks T)↔x∈T:=by
 constructor
 ·intro h;obtain⟨_,k,e,hb⟩:=acz h;cases k with
  |none=>cases hb
  |some k=>exact(fK e).1
 ·intro h;have hl:=hT x h;exact ahu (aZ h (Aj hl)) rfl (by rw[v4];exact hl)
theorem fq{E:List Nat}(T:dm ks R E):(wq (wv ks (qk R))).length=(qk R).length:=by refine((AR ?_ T.nd).mpr fun x=>qO fun x hx=>T.sr.lt x hx).length_eq;unfold wq yM;exact BU.filter _
theorem aa7{k:zq}(h:(v3 kvs k).isSome=false):fT kvs k y=kvs++[(k,y)]:=by unfold fT;rw[lV,h,Ay AB]
structure TkI(tk:List Nat)(kvs:List (zq×Y)):Prop where
 val:∀x:Nat,(v3 kvs (.inl (x:Int))).isSome=decide (x∈tk)
 len:kvs.length=tk.length
theorem TkI.put(h:TkI tk kvs){x:Nat}(hx:x∉tk)(y:Y):TkI (tk++[x]) (fT kvs (.inl (x:Int)) y):=by
 refine⟨fun z=>?_,?_⟩
 ·rw[ij];by_cases e:z=x
  ·subst e;rw[AA rfl,AG (Af _ (Ao.mpr rfl))];rfl
  ·rw[Ay (fun q=>e (CF.mp (Sum.inl.inj q))),h.val];refine DF.mpr ⟨fun q=>Av _ q,fun q=>?_⟩;rcases Ak.mp q with q | q
   ·exact q
   ·exact absurd (Ao.mp q) e
 ·rw[aa7 (by rw[h.val,Az hx]),Ac,h.len,Ac];rfl
structure u5(A:Ru)(tk:List Nat)(st:List Ru):Prop where
 pt:(tk++st.flatMap qk).Perm (qk A)
 sz:(st.map a7).sum≤a7 A
 dp:∀B∈st,jp B≤jp A
theorem u5.start(A:Ru):u5 A [] [A]:=⟨by simp,by simp,fun B hB=>by rw[Ao.mp hB];exact Al _⟩
theorem u5.step{A B:Ru}{st:List Ru}(h:u5 A tk (st++[B])):u5 A (tk++ki B) (st++zd B):=by
 refine⟨?_,?_,fun C hC=>?_⟩
 ·refine List.Perm.trans ?_ h.pt;rw[AF,AF];have:[B].flatMap qk=ki B++(zd B).flatMap qk:=by rw[<-g0];simp
  rw[this];refine Cb.mpr fun z=>?_;simp only[Cr];lia
 ·have:=h.sz;have:=lI B;simp at *;lia
 ·rcases Ak.mp hC with hC | hC
  ·exact h.dp C (Av _ hC)
  ·have:=wn hC;have:=h.dp B (Af _ (Ao.mpr rfl));lia
theorem u5.lt{A B:Ru}{tk:List Nat}{st:List Ru}:((st.map a7).sum+((zd B).map a7).sum)<((st++[B]).map a7).sum:=by have:=lI B;simp;lia
theorem dem{b:Bool}{t:Str}{Q:YK}(h:b=true)(q:Q .non L):aR [.bl b,.str t] L Q:=⟨t,by rw[h],q⟩
def sV:ja:=fun ys L Q=>∃a,∃ks:List Kn,∃A:Ru,∃E:List Nat,ys=[.ref a,qm A]/\L a=some (.lst (kz (wv ks (qk A))))/\dm ks A E/\Q .non L
theorem aie:∀ys L Q,sV ys L Q->jx (eO lE dQ aR aQ) 7 ys L Q:=by
 rintro ys L Q ⟨a,ks,A,E,rfl,ha,T,q⟩;have big:=bg_;have kl:=T.len;have rd:=x6 A;have rz:=kq A;have tlen:(qk A).length≤96:=by
  have:=fq T;have h2:=uP aY (wv ks (qk A)) (wv ks (qk A)).length;rw[v4] at h2;have:(wq (wv ks (qk A))).length≤ks.length:=by unfold wq;rw[v4];exact h2
  lia
 refine⟨a,_,rfl,ha,by rw[v4];lia,fun p2 h2=>?_⟩;intro d hd u hu;have ndu:d≠u:=ke q9 hu;have s2:qi L (qf L p2 (.lst (nY (wq (wv ks (qk A)))))):=By h2;have e2:qf L p2 (.lst (nY (wq (wv ks (qk A))))) p2=some (.lst (nY (wq (wv ks (qk A))))):=q9;have hu0:=jj hu;generalize qf L p2 (.lst (nY (wq (wv ks (qk A)))))=L2 at hd hu s2 e2 hu0 ⊢;have S0:qi L2 (qf (qf L2 d (.dct [])) u (.lst [qm A])):=(By hd).trans (By hu);refine⟨fun m τ L'=>∃kvs tk st c5 c6,τ=[some (.ref a),some (qm A),some (.ref p2),some (.ref d),some (.ref u),c5,c6]/\qi L2 L'/\L' d=some (.dct kvs)/\L' u=some (.lst (st.map qm))/\TkI tk kvs/\u5 A tk st/\m=(st.map a7).sum,⟨_,[],[],[A],_,_,rfl,S0,(qa ndu).trans q9,q9,⟨fun _=>rfl,rfl⟩,u5.start A,rfl⟩,?_⟩;rintro m τ L' ⟨kvs,tk,st,c5,c6,rfl,s,g1,g3,K,I,rfl⟩;intro p hp;refine aU (n:=120) (m:=0) (by decide) (By hp _ _ g3) q9 (bS fun B hB=>AU (I.dp B hB) (by lia)) (.nil:Paired (jf _ 0) _ []) ?_;have s':qi L2 (qf L' p (.lst [])):=s.trans (By hp);replace g1:=(qa (o:=.lst []) (ke g1 hp)).trans g1;replace g3:=(qa (o:=.lst []) (ke g3 hp)).trans g3;generalize qf L' p (.lst [])=L3 at s' g1 g3 ⊢;show ko (!(Da.eqs (st.map a8) [])) _ _;rw[kW];have pl:=I.pt.length_eq;rw[Ac] at pl;rcases List.eq_nil_or_concat st with rfl | ⟨gL,B,rfl⟩
 ·refine al rfl ?_;have e:kvs.length=(nY (wq (wv ks (qk A)))).length:=by rw[K.len,vt,fq T];exact pl
  exact jl g1 (qd (s' _ _ e2) (dem (AG (by rw[e])) (bK (s2.trans s') q)))
 ·rw[List.concat_eq_append] at *;rw[Az (by simp)];refine ak rfl ⟨fun τ' L'=>∃m',m'<((gL++[B]).map a7).sum/\∃kvs tk st c5 c6,τ'=[some (.ref a),some (qm A),some (.ref p2),some (.ref d),some (.ref u),c5,c6]/\qi L2 L'/\L' d=some (.dct kvs)/\L' u=some (.lst (st.map qm))/\TkI tk kvs/\u5 A tk st/\m'=(st.map a7).sum,fun τ' L' h=>h,?_⟩;rw[AC] at g3;refine abo g3 ⟨B,rfl,fun p5 h5=>?_⟩;have I1:=I.step;have nd1:(tk++ki B++(gL++zd B).flatMap qk).Nodup:=I1.pt.nodup_iff.mpr T.nd;have tb:∀x∈ki B,x∈qk A:=fun x hx=>I1.pt.mem_iff.mp (Av _ (Af _ hx));have s5:qi L2 (qf (qf L3 u (.lst (gL.map qm))) p5 (.lst (nY (ki B)))):=(s'.upd hu0).trans (By h5);have f1:qf (qf L3 u (.lst (gL.map qm))) p5 (.lst (nY (ki B))) d=some (.dct kvs):=(qa (ke ((qa ndu).trans g1) h5)).trans ((qa ndu).trans g1);have f3:qf (qf L3 u (.lst (gL.map qm))) p5 (.lst (nY (ki B))) u=some (.lst (gL.map qm)):=(qa (ke q9 h5)).trans q9;have f5:qf (qf L3 u (.lst (gL.map qm))) p5 (.lst (nY (ki B))) p5=some (.lst (nY (ki B))):=q9;have nd5:p5≠d:=AK (ke ((qa ndu).trans g1) h5);generalize qf (qf L3 u (.lst (gL.map qm))) p5 (.lst (nY (ki B)))=L5 at s5 f1 f3 f5 ⊢;refine x0 f5 fun keep kp=>kj ⟨fun i τ L'=>∃kvs c6,τ=[some (.ref a),some (qm A),some (.ref p2),some (.ref d),some (.ref u),some (qm B),c6]/\Kp d L5 L'/\L' d=some (.dct kvs)/\TkI (tk++(ki B).take i) kvs,⟨kvs,_,rfl,fun _ _ _ h=>h,f1,by rw[DR,AV];exact K⟩,?_,?_,?_⟩
  ·rintro i τ L' ⟨kvs,c6,rfl,k,_⟩;exact kp L' (by rw[k _ _ nd5 f5,f5])
  ·rintro i y τ L' hy ⟨kvs,c6,rfl,k,g,K⟩;obtain⟨x,ex,rfl⟩:=cX hy;have xm:=AI ex;have eo:(ki B).take (i+1)=(ki B).take i++[x]:=by rw[Bh,ex];rfl
   have xn:x∉tk++(ki B).take i:=fun z=>by
    have e3:ki B=(ki B).take i++x::(ki B).drop (i+1):=by have hi:=xu ex;rw[Aj hi] at ex;rw[<-Ba ex,Cg,Bb]
    have n1:=(Aq.mp nd1).1;rw[e3,<-AD] at n1;exact(Aq.mp n1).2.2 x z x (An ..) rfl
   have np2d:p2≠d:=ke e2 hd;refine qd (k _ _ np2d (s5 _ _ e2)) ⟨rfl,iT _,?_⟩;rw[iX,AG ((qO fun x hx=>T.sr.lt x hx).mpr (tb x xm))];refine jl g ⟨_,BM (fun b=>[Y.bl b,Y.str _]) (?_:nb true (v3 kvs (.inl (x:Int))).isSome=true),?_⟩
   ·rw[K.val,Az xn];rfl
   ·have K1:=K.put xn (.bl true);have:kvs.length≤96:=by have e:=K.len;have l1:=I1.pt.length_eq;simp only[Ac,AN] at e l1;lia
    refine jl g ⟨big _ (by lia),?_⟩;refine⟨_,DX _,_,_,rfl,k.upd,q9,?_⟩;rw[eo,<-AD];exact K1
  ·rintro τ L' ⟨kvs,c6,rfl,k,g,K⟩;rw[vt,Bt] at K;have gu:=k _ _ (AK ndu) f3;refine qd gu ⟨B,rfl,fun p8 h8=>?_⟩;have npu:u≠p8:=ke gu h8;refine qy ((qa npu).trans gu) (qy q9 ⟨?_,?_⟩)
   ·have h1:=I1.sz;have len:∀l:List Ru,l.length≤(l.map a7).sum:=fun l=>by induction l with|nil=>exact Al _|cons x r ih=>have:=uG x;simp;lia
    have h3:=len (gL++zd B);rw[Ac] at h3;rw[Ae,Ae];exact Bz (big _ (by lia))
   ·refine⟨_,DX _,_,u5.lt (tk:=tk) (A:=A),kvs,tk++ki B,gL++zd B,_,_,rfl,fun b o e=>?_,?_,?_,K,I1,by rw[AC,List.sum_append]⟩
    ·have nb:b≠u:=ke e hu0;have nd:b≠d:=ke e hd;exact(qa nb).trans ((qa (ke (k _ _ nd (s5 _ _ e)) h8)).trans (k _ _ nd (s5 _ _ e)))
    ·exact(qa ndu).trans ((qa (ke g h8)).trans g)
    ·rw[q9,AC]
def nS:ja:=fun ys L Q=>∃a,∃ks:List Kn,∃A B:Ru,∃E:List Nat,ys=[.ref a,qm B]/\L a=some (.lst (kz (wv ks (qk A))))/\dm ks A E/\B∈vj A/\Q (.bl true) L
theorem acs:∀ys L Q,nS ys L Q->jx (agz fz iy) 2 ys L Q:=by
 rintro ys L Q ⟨a,ks,A,B,E,rfl,ha,T,hB,q⟩;obtain⟨⟨EB,sB⟩,tB,_,_,cB⟩:=T.sr.rls B hB;cases sB with
 |@link p r t n _ h1 h2 h3=>exact⟨a,_,p,r,t,n,rfl,ha,h1,aZ (tB _ (An ..)) h2,aZ (tB _ (Ag _ (An ..))) h3,js q⟩
 |@cu p r C D EC ED _ w hC hD h3 h4 h5 h6=>
  have m1:=tB p (Av _ (hC.sub p h3));have m2:=tB r (Af _ (hD.sub r h4));have w1:=T.word m1 h5;have w2:=T.word m2 h6;have hc:=abg (cB (p,r) (An ..));have:=T.wdep w1;have:=T.len;exact⟨a,_,p,r,w,rfl,ha,by rw[v4];lia,w1,w2,by lia,T.cut hc.1,T.cut hc.2,js q⟩
 |@ei r i j C EC _ h1=>exact qd ha (qo (vi (aZ (tB r (An ..)) h1)) (js q))
 |@bo r i j C D EC ED _ h1=>exact qd ha (qo (vi (aZ (tB r (An ..)) h1)) (js q))
theorem abc(ks:List Kn)(A:Ru):Agr ks (wv ks (qk A)) A:=fun _ hx _ hk=>aZ hx hk
theorem dm.small{A:Ru}{E:List Nat}(T:dm ks A E):(qk A).length≤96:=by
 have:=fq T;have h2:=uP aY (wv ks (qk A)) (wv ks (qk A)).length;rw[v4] at h2;have:(wq (wv ks (qk A))).length≤ks.length:=by unfold wq;rw[v4];exact h2
 have:=T.len;lia
def nI:ja:=fun ys L Q=>∃a,∃ks:List Kn,∃A:Ru,∃E:List Nat,ys=[.tup [.ref a,qm A]]/\L a=some (.lst (kz (wv ks (qk A))))/\dm ks A E/\Q (.bl true) L
theorem adn:∀ys L Q,nI ys L Q->jx (iq aR gF i9 iU sV (aT 120) nS (aS 120)) 3 ys L Q:=by
 rintro ys L Q ⟨a,ks,A,E,rfl,ha,T,q⟩;have big:=bg_;have tl:=T.small;have rd:=x6 A;have rz:=kq A;have kl:=T.len;have S:=T.knS;have pl:=dW (wv ks (qk A));rw[v4] at pl;have wl:(wv ks (qk A)).length≤1000:=by rw[v4];lia
 obtain⟨x,hx⟩:∃x,x∈qk A:=List.exists_mem_of_length_pos (by lia);obtain⟨k,ek⟩:=T.ex hx;refine⟨a,_,rfl,ha,wl,S,⟨x,k,ek⟩,⟨_,rfl,?_⟩⟩;refine⟨a,_,rfl,ha,wl,fun p1 h1=>?_⟩;have s1:=By (o:=.lst (nY (xf (wv ks (qk A))))) h1;refine⟨p1,_,rfl,q9,by lia,S.pu.nodup,⟨_,rfl,?_⟩⟩;generalize qf L p1 (.lst (nY (xf (wv ks (qk A)))))=L1 at s1 ⊢;refine⟨a,ks,A,E,rfl,s1 _ _ ha,T,?_⟩;refine⟨A,rfl,by lia,by lia,fun p2 h2=>?_⟩;have s2:=s1.trans (By (o:=.lst ((vj A).map qm)) h2);refine x0 q9 fun keep kp=>aj (fun i zs=>zs=(List.replicate i true).map Y.bl) (by rw[Ae,aa];exact big _ (by lia)) (kp _ rfl) rfl ?_ ?_
 ·rintro i y zs hy rfl;rw[Ap] at hy;obtain⟨B,eB,rfl⟩:=Aw.mp hy;exact⟨a,ks,A,B,E,rfl,s2 _ _ ha,T,AI eB,_,DX _,rfl,oX i⟩
 rintro zs rfl p3 h3;have s3:=s2.trans (By (o:=.lst ((List.replicate ((vj A).map qm).length true).map Y.bl)) h3);refine⟨rfl,qd q9 (qo (cU _) ?_)⟩;rw[fQ];refine⟨_,rfl,?_⟩;refine⟨a,_,ks,A,E,rfl,s3 _ _ ha,T.sr,abc ks A,T.nd,by lia,by lia,fun p4 h4=>?_⟩;exact bK (s3.trans (By h4)) q
def jU:ja:=fun ys L Q=>∃a,∃ks:List Kn,∃A:Ru,∃E:List Nat,ys=[.tup [.ref a,qm A]]/\L a=some (.lst (kz (wv ks (qk A))))/\dm ks A E/\∀D F,L D=none->F.Perm E->F.Pairwise (fun a b:Nat=>a<b)->Q (.ref D) (qf L D (.lst (nY F)))
theorem act{ms:List Int}{l:List Nat}(h:ms.Perm (l.map fun n:Nat=>(n:Int))):∃F:List Nat,F.Perm l/\ms=F.map fun n:Nat=>(n:Int):=by
 refine⟨ms.map Int.toNat,?_,?_⟩
 ·have:=h.map Int.toNat;rw[BC] at this;have e:(l.map (Int.toNat∘fun n:Nat=>(n:Int)))=l:=by rw[show(Int.toNat∘fun n:Nat=>(n:Int))=id from funext fun n=>BD n,List.map_id]
  rw[e] at this;exact this
 ·rw[BC];refine(List.map_id ms).symm.trans (List.map_congr_left fun x hx=>?_);obtain⟨n,_,rfl⟩:=AY.mp (h.mem_iff.mp hx);show((n:Nat):Int)=((((n:Nat):Int).toNat:Nat):Int);rw[BD]
theorem y9:∀ys L Q,jU ys L Q->jx (r6 (aS 120)) 1 ys L Q:=by rintro ys L Q ⟨a,ks,A,E,rfl,ha,T,q⟩;have tl:=T.small;have rd:=x6 A;have P:=oE T.sr T.nd;have fl:=jP T.sr T.nd;refine⟨a,_,ks,A,E,rfl,ha,T.sr,abc ks A,T.nd,by lia,by lia,fun p4 h4=>?_⟩;refine qy q9 ⟨_,fY _,kC (P.nodup_iff.mpr T.sr.nod),by rw[Ae];lia,fun D ms hD pm pw=>?_⟩;obtain⟨F,pF,rfl⟩:=act pm;have nF:F.Nodup:=(pF.trans P).nodup_iff.mpr T.sr.nod;rw[<-fY];have hD0:=jj hD;refine bK (qi.put ((By h4).trans (By hD)) q9) (q D F hD0 (pF.trans P) ?_);have pw:F.Pairwise fun a b:Nat=>a≤b:=(Cq.mp pw).imp fun h=>Int.ofNat_le.mp h;exact(pw.and nF).imp fun h=>Nat.lt_of_le_of_ne h.1 h.2
def sE:kg:=(qw (v0 (gg (ju 0 0) (cQ "cut")) (jc (xw (aD (ju 0 3) (ju 0 4)))) jw)
 (qw (v0 (gg (ju 0 0) (cQ "link")) (jc (xw z9)) jw)
 (jc (iO dN (qe (ySl xU (qc 0) (cL (jr 2)) ai) z9)))))
def iQ(p0:ja):kg:=(qw (zw (kn (qe (xw z9) (qe (xw z9) (qe qC (qe (xw (vk (qc 0))) z9))))) (cO 4 (jd (qh 1) (jd (qh 2) (jd (qh 3) (jd (qh 4) ae))))))
 (qw (lK (rdN (qc 4) (xw z9)) (qw (zw (aq yA (qc 4) z9) (qh 5))
 (mK (v0 (gg (ju 5 0) (cQ "link")) (qw (jb (aq j8 (qc 1) (qe (rdT (ju 5 1) (ju 5 2)) z9)))
 (qw (dh (qc 3) (ju 5 1) (yC (.bl true)))
 (dh (qc 3) (ju 5 2) (yC (.bl true))))) (v0 (gg (ju 5 0) (cQ "cut")) (jb (aq j8 (qc 2) (qe (rdT (ju 5 1) (ju 5 2)) z9))) (dh (qc 3) (ju 5 1) (yC (.bl true)))))
 (jb (aq a9 (qc 4) (qe (qp p0 (vk (qc 5))) z9))))))
 (jc (kn (qe (qc 1) (aD (qc 2) (qc 3)))))))
def rO:kg:=(qw (zw qC (qh 2))
 (qw (gR (vq (qc 0)) (qh 3) (v0 (rJ (yB (da true (qc 3))) (gg (cD 3) (jr 3))) (qw (dh (qc 2) (ju 3 1) (yC (.bl true)))
 (dh (qc 2) (ju 3 2) (yC (.bl true)))) jw))
 (qw (gR (vq (qc 1)) (cO 2 (jd (qh 4) (jd (qh 5) ae))) (qw (dh (qc 2) (qc 4) (yC (.bl true)))
 (dh (qc 2) (qc 5) (yC (.bl true)))))
 (afr 4 (jc (ow 1 (gK (vk (cD 0))) (qh 6) (rJ (yB (da true (zj cH (qc 0) (qc 6)))) (yB (zj (tM true) (qc 6) (qc 2)))) (qc 6)))))))
def lu:kg:=(qw (v0 (uD (yB (mL .list (qc 0)))) (jc (yC (.bl false))) jw)
 (qw (gR (vq (qc 0)) (qh 1) (v0 (yOr (uD (yB (mL .int (qc 1)))) (yB (mL .bool (qc 1)))) (jc (yC (.bl false))) jw))
 (jc (yC (.bl true)))))
def ln(p0:ja):kg:=(qw (lK (rJ (rdN (qp p0 (vk (qc 0))) (xw z9)) (yB (zj yGt (zj w6 (qc 1) (jr 5)) (jr 0)))) (qw (zw (qp p0 (vk (qc 0))) (qh 2))
 (qw (zw (zj cH (qc 2) (zj w6 (zj bC (qc 1) (jr 5)) (cD 2))) (qh 0))
 (zw (zj w6 (zj sM (qc 1) (jr 48271)) (jr 2147483647)) (qh 1)))))
 (jc (qc 0)))
def nX(p0:ja)(p1:ja)(p2:ja)(p3:ja)(p4:ja):kg:=(qw (zw (iO dN (vk (qc 0))) (qh 2))
 (qw (v0 (yB (zj (ahe true) (qp p0 (qe (rdT (qc 2) (qc 1)) z9)) (yC (.bl true)))) (jc (yC (.bl false))) jw)
 (qw (zw (qp p1 (qe (rdT (qc 2) (qc 1)) z9)) (qh 3))
 (jc (cZ (qp p4 (vk (qc 3))) (cZ (zj (pN false) (qc 3) (qp p2 (qe (qc 0) (qe (zj cH (qp p3 (vk (qc 1))) (jr 1)) z9)))) (zj (pN false) (qc 2) (qc 0))))))))
def fN:ja:=aQ
theorem abt:∀ys L Q,fN ys L Q->jx sE 1 ys L Q:=by
 rintro ys L Q ⟨A,rfl,q⟩;cases A with
 |link a b=>exact fun p hp=>js (q p hp)
 |ei r A=>exact⟨fun z=>absurd z.1 (by show ¬2=0;decide),fun p hp=>js (q p hp)⟩
 |bo r A B=>exact⟨fun z=>absurd z.1 (by show ¬2=0;decide),fun p hp=>js (q p hp)⟩
 |cu a b A B=>exact fun p hp=>js (q p hp)
structure tQ(us:List Nat)(kvs:List (zq×Y)):Prop where
 val:∀x:Nat,(v3 kvs (.inl (x:Int))).isSome=decide (x∈us)
 len:kvs.length≤us.length
theorem tQ.nil:tQ [] []:=⟨fun _=>rfl,Al _⟩
theorem tQ.put{us:List Nat}(h:tQ us kvs)(x:Nat)(y:Y):tQ (us++[x]) (fT kvs (.inl (x:Int)) y):=by
 refine⟨fun z=>?_,?_⟩
 ·rw[ij];by_cases e:z=x
  ·subst e;rw[AA rfl,AG (Af _ (Ao.mpr rfl))];rfl
  ·rw[Ay (fun q=>e (CF.mp (Sum.inl.inj q))),h.val];refine DF.mpr ⟨fun q=>Av _ q,fun q=>?_⟩;rcases Ak.mp q with q | q
   ·exact q
   ·exact absurd (Ao.mp q) e
 ·have:=sD kvs (.inl (x:Int)) y;have:=h.len;rw[Ac];show _≤us.length+1;lia
def i3:ja:=fun ys L Q=>∃R:Ru,ys=[qm R]/\(qk R).length≤96/\
 ∀la ca ta lk ct kvs L',qi L L'->L la=none->L ca=none->L ta=none->L' la=some (.lst (iM lk))->L' ca=some (.lst (iM ct))->L' ta=some (.dct kvs)->lk.Perm (vf R)->ct.Perm (jt R)->(∀x:Nat,(v3 kvs (.inl (x:Int))).isSome=decide (x∈qk R))->Q (.tup [.ref la,.ref ca,.ref ta]) L'
theorem wc:∀R:Ru,(vf R).length+(jt R).length≤a7 R
 |.link _ _=>Al _
 |.ei _ A=>B6 (wc A)
 |.bo _ A B=>by have:=wc A;have:=wc B;show(vf A++vf B).length+(jt A++jt B).length≤a7 A+a7 B+1;rw[Ac,Ac];lia
 |.cu _ _ A B=>by have:=wc A;have:=wc B;show(vf A++vf B).length+((jt A++jt B).length+1)≤a7 A+a7 B+1;rw[Ac,Ac];lia
theorem ada:∀ys L Q,i3 ys L Q->jx (iQ fN) 6 ys L Q:=by
 rintro ys L Q ⟨R,rfl,tl,q⟩;have big:=bg_;have rd:=x6 R;have rz:=kq R;have rp:=wc R;intro la hla ca hca ta hta sa hsa;have nlc:la≠ca:=ke q9 hca;have nct:ca≠ta:=ke q9 hta;have nlt:la≠ta:=ke ((qa nlc).trans q9) hta;have nts:ta≠sa:=ke q9 hsa;have ncs:ca≠sa:=ke ((qa nct).trans q9) hsa;have nls:la≠sa:=ke ((qa nlt).trans ((qa nlc).trans q9)) hsa;have hca0:L ca=none:=jj hca;have hta0:L ta=none:=jj (jj hta);have hsa0:L sa=none:=jj (jj (jj hsa));have S0:qi L (qf (qf (qf (qf L la (.lst [])) ca (.lst [])) ta (.dct [])) sa (.lst [qm R])):=(((By hla).trans (By hca)).trans (By hta)).trans (By hsa);refine⟨fun m τ L'=>∃lk ct kvs us st c5,τ=[some (qm R),some (.ref la),some (.ref ca),some (.ref ta),some (.ref sa),c5]/\qi L L'/\L' la=some (.lst (iM lk))/\L' ca=some (.lst (iM ct))/\L' ta=some (.dct kvs)/\L' sa=some (.lst (st.map qm))/\gm R lk ct st/\tQ us kvs/\u5 R us st/\m=(st.map a7).sum,⟨_,[],[],[],[],[R],_,rfl,S0,(qa nls).trans ((qa nlt).trans ((qa nlc).trans q9)),(qa ncs).trans ((qa nct).trans q9),(qa nts).trans q9,q9,gm.start R,tQ.nil,u5.start R,rfl⟩,?_⟩;rintro m τ L' ⟨lk,ct,kvs,us,st,c5,rfl,s,h1,h2,h3,h4,T,U,I,rfl⟩;intro p hp;refine aU (n:=120) (m:=0) (by decide) (By hp _ _ h4) q9 (bS fun A hA=>AU (T.dp A hA) (by lia)) (.nil:Paired (jf _ 0) _ []) ?_;have s2:qi L (qf L' p (.lst [])):=s.trans (By hp);replace h1:=(qa (o:=.lst []) (ke h1 hp)).trans h1;replace h2:=(qa (o:=.lst []) (ke h2 hp)).trans h2;replace h3:=(qa (o:=.lst []) (ke h3 hp)).trans h3;replace h4:=(qa (o:=.lst []) (ke h4 hp)).trans h4;generalize qf L' p (.lst [])=L2 at s2 h1 h2 h3 h4 ⊢;show ko (!(Da.eqs (st.map a8) [])) _ _;rw[kW];have kl:=U.len;have pl:=I.pt.length_eq;have l1:=T.pl.length_eq;have l2:=T.pc.length_eq;rw[Ac] at pl l1 l2;rcases List.eq_nil_or_concat st with rfl | ⟨gL,A,rfl⟩
 ·refine al rfl ?_;refine js (q la ca ta lk ct kvs L2 s2 hla hca0 hta0 h1 h2 h3 (by have:=T.pl;simpa using this) (by have:=T.pc;simpa using this) fun x=>?_);rw[U.val];exact DF.mpr (by have:=I.pt.mem_iff (a:=x);simpa using this)
 ·rw[List.concat_eq_append] at *;rw[Az (by simp)];refine ak rfl ⟨fun τ' L'=>∃m',m'<((gL++[A]).map a7).sum/\∃lk ct kvs us st c5,τ'=[some (qm R),some (.ref la),some (.ref ca),some (.ref ta),some (.ref sa),c5]/\qi L L'/\L' la=some (.lst (iM lk))/\L' ca=some (.lst (iM ct))/\L' ta=some (.dct kvs)/\L' sa=some (.lst (st.map qm))/\gm R lk ct st/\tQ us kvs/\u5 R us st/\m'=(st.map a7).sum,fun τ' L' h=>h,?_⟩;rw[AC] at h4;refine abo h4 ?_;have s3:qi L (qf L2 sa (.lst (gL.map qm))):=s2.upd hsa0;replace h1:=(qa (o:=.lst (gL.map qm)) nls).trans h1;replace h2:=(qa (o:=.lst (gL.map qm)) ncs).trans h2;replace h3:=(qa (o:=.lst (gL.map qm)) nts).trans h3;clear h4;have h4:qf L2 sa (.lst (gL.map qm)) sa=some (.lst (gL.map qm)):=q9;generalize qf L2 sa (.lst (gL.map qm))=L3 at s3 h1 h2 h3 h4 ⊢;refine⟨fun τ' L3=>∃kvs,τ'=[some (qm R),some (.ref la),some (.ref ca),some (.ref ta),some (.ref sa),some (qm A)]/\qi L L3/\L3 la=some (.lst (iM (lk++qY A)))/\L3 ca=some (.lst (iM (ct++rB A)))/\L3 ta=some (.dct kvs)/\L3 sa=some (.lst (gL.map qm))/\tQ (us++ki A) kvs,?_,?_⟩
  ·cases A with
   |link p0 q0=>
    refine qd h1 (qy h1 ⟨by rw[Ae];exact big _ (by lia),?_⟩);refine jl ((qa (AK nlt)).trans h3) ⟨big _ (by lia),?_⟩;have U1:=U.put p0 (.bl true);have k1:=U1.len;rw[Ac] at k1;refine jl q9 ⟨big _ (by simp at k1;lia),?_⟩;have U2:=U1.put q0 (.bl true);rw[xr];refine⟨_,rfl,(s3.upd hla).upd hta0,?_,?_,q9,?_,by rw[AD] at U2;exact U2⟩
    ·rw[qa nlt,q9];exact BM (fun l=>some (LO.lst l)) (mM lk (p0,q0))
    ·rw[qa nct,qa (AK nlc),h2];simp[rB]
    ·rw[qa (AK nts),qa (AK nls)];exact h4
   |ei r0 A0=>
    refine jl h3 ⟨big _ (by lia),?_⟩;exact⟨_,rfl,s3.upd hta0,by rw[qa nlt,h1];simp[qY],by rw[qa nct,h2];simp[rB],q9,by rw[qa (AK nts)];exact h4,U.put r0 (.bl true)⟩
   |bo r0 A0 B0=>
    refine jl h3 ⟨big _ (by lia),?_⟩;exact⟨_,rfl,s3.upd hta0,by rw[qa nlt,h1];simp[qY],by rw[qa nct,h2];simp[rB],q9,by rw[qa (AK nts)];exact h4,U.put r0 (.bl true)⟩
   |cu p0 q0 A0 B0=>
    refine qd h2 (qy h2 ⟨by rw[Ae];exact big _ (by lia),?_⟩);exact⟨kvs,rfl,s3.upd hca0,by rw[qa nlc,h1];simp[qY],by rw[q9];exact BM (fun l=>some (LO.lst l)) (mM ct (p0,q0)),by rw[qa (AK nct)];exact h3,by rw[qa (AK ncs)];exact h4,by rw[show ki (.cu p0 q0 A0 B0)=[] from rfl,AV];exact U⟩
  ·rintro τ' L4 ⟨kvs',rfl,s4,g1,g2,g3,g4,U'⟩;refine qd g4 ⟨A,rfl,fun p8 h8=>?_⟩;refine qy ((qa (ke g4 h8)).trans g4) (qy q9 ⟨?_,?_⟩)
   ·have h1:=I.step.sz;have len:∀l:List Ru,l.length≤(l.map a7).sum:=fun l=>by induction l with|nil=>exact Al _|cons x r ih=>have:=uG x;simp;lia
    have h3:=len (gL++zd A);rw[Ac] at h3;rw[Ae,Ae];exact Bz (big _ (by lia))
   ·exact⟨_,DX _,_,u5.lt (tk:=us) (A:=R),_,_,kvs',us++ki A,gL++zd A,_,rfl,(s4.trans (By h8)).upd hsa0,(qa nls).trans ((qa (ke g1 h8)).trans g1),(qa ncs).trans ((qa (ke g2 h8)).trans g2),(qa nts).trans ((qa (ke g3 h8)).trans g3),by rw[q9,AC],T.step,U',I.step,by rw[AC,List.sum_append]⟩
theorem abf{k:Option Kn}(h:wd[i]?=some k):fv (kz wd) (0+(i:Int))=some (mC k):=by rw[CA];exact vi h
def oQ:ja:=fun ys L Q=>∃a c,∃wd:List (Option Kn),∃ct:List (Nat×Nat),ys=[.ref a,.ref c]/\L a=some (.lst (kz wd))/\L c=some (.lst (iM ct))/\wd.length≤1000/\ct.length≤1000/\∀p,L p=none->Q (.ref p) (qf L p (.lst (nY (w9 wd (ww wd ct) wd.length))))
theorem ae5:∀ys L Q,oQ ys L Q->jx rO 6 ys L Q:=by
 rintro ys L Q ⟨wa,ca,wd,ct,rfl,e1,e3,wl,cl,q⟩;have big:=bg_;intro us hus;have s2:qi L (qf L us (.dct [])):=By hus;refine x0 (s2 _ _ e1) fun keep kp=>kj ⟨fun i τ L'=>∃kvs c3 c4 c5,τ=[some (.ref wa),some (.ref ca),some (.ref us),c3,c4,c5]/\qi L L'/\L' us=some (.dct kvs)/\tQ (xf (wd.take i)) kvs,⟨[],_,_,_,rfl,s2,q9,tQ.nil⟩,?_,?_,?_⟩
 ·rintro i τ L' ⟨kvs,c3,c4,c5,rfl,s,_⟩;exact kp L' (by rw[s _ _ e1,s2 _ _ e1])
 ·rintro i y τ L' hy ⟨kvs,c3,c4,c5,rfl,s,g,U⟩;rw[Ap] at hy;obtain⟨k,ek,rfl⟩:=Aw.mp hy;have et:wd.take (i+1)=wd.take i++[k]:=by rw[Bh,ek];rfl
  have pl:=dW (wd.take i);rw[AN] at pl;have ul:=U.len;have stay:j5 k=[]->tQ (xf (wd.take (i+1))) kvs:=fun h=>by rw[et,eL,h,AV];exact U
  cases k with
  |none=>exact⟨_,DX _,_,_,_,_,rfl,s,g,stay rfl⟩
  |some k=>
   cases k with
   |lf t n=>exact⟨_,DX _,_,_,_,_,rfl,s,g,stay rfl⟩
   |nd e i' j'=>
    refine jl g ⟨big _ (by lia),?_⟩;have U1:=U.put i' (.bl true);have k1:=U1.len;rw[Ac] at k1;refine jl q9 ⟨big _ (by simp at k1;lia),?_⟩;have U2:=U1.put j' (.bl true);rw[xr];exact⟨_,DX _,_,_,_,_,rfl,s.upd hus,q9,by rw[et,eL];rw[AD] at U2;exact U2⟩
 rintro τ L2 ⟨kvs,c3,c4,c5,rfl,s3,g,U⟩;rw[Ae,Bt] at U;have pl:=dW wd;have pcl:=rC ct;refine x0 (s3 _ _ e3) fun keep kp=>kj ⟨fun i τ L'=>∃kvs c4 c5,τ=[some (.ref wa),some (.ref ca),some (.ref us),c3,c4,c5]/\qi L L'/\L' us=some (.dct kvs)/\tQ (xf wd++kh (ct.take i)) kvs,⟨_,_,_,rfl,s3,g,by show tQ (xf wd++[]) _;rw[AV];exact U⟩,?_,?_,?_⟩
 ·rintro i τ L' ⟨kvs,c4,c5,rfl,s,_⟩;exact kp L' (by rw[s _ _ e3,s3 _ _ e3])
 ·rintro i y τ L' hy ⟨kvs,c4,c5,rfl,s,g,U⟩;rw[Ap] at hy;obtain⟨pr,ep,rfl⟩:=Aw.mp hy;have et:ct.take (i+1)=ct.take i++[pr]:=by rw[Bh,ep];rfl
  have pt:=rC (ct.take i);rw[AN] at pt;have ul:=U.len;rw[Ac] at ul;refine jl g ⟨big _ (by lia),?_⟩;have U1:=U.put pr.1 (.bl true);have k1:=U1.len;rw[Ac,Ac] at k1;refine jl q9 ⟨big _ (by simp at k1;lia),?_⟩;have U2:=U1.put pr.2 (.bl true);rw[xr];exact⟨_,DX _,_,_,_,rfl,s.upd hus,q9,by rw[et,bM,eX,<-AD];rw[AD (_++_)] at U2;exact U2⟩
 rintro τ L3 ⟨kvs,c4',c5',rfl,s4,g,U⟩;rw[Ae,Bt] at U;have U:tQ (ww wd ct) kvs:=U;have k1:=s4 _ _ e1;have lw:(kz wd).length=wd.length:=Ae ..;refine qd k1 ⟨⟨Bf _,by rw[lw];omega⟩,?_⟩;rw[lw,BD];refine oB (fun i zs=>zs=nY (w9 wd (ww wd ct) i)) (big _ (by lia)) rfl ?_ ?_
 ·rintro i zs hi rfl;obtain⟨k,ek⟩:∃k,wd[i]?=some k:=⟨_,Aj hi⟩;have no:iE wd (ww wd ct) i=false->cR (fun zs L'=>L'=L3/\zs=nY (w9 wd (ww wd ct) (i+1))) (nY (w9 wd (ww wd ct) i)) L3:=fun h=>⟨L3,DX _,rfl,by rw[ie,Ay (by rw[h];exact AB),AV]⟩;have yes:iE wd (ww wd ct) i=true->cR (fun zs L'=>L'=L3/\zs=nY (w9 wd (ww wd ct) (i+1))) (nY (w9 wd (ww wd ct) i)++[.int (0+(i:Int))]) L3:=fun h=>⟨L3,DX _,rfl,by rw[ie,AA h,gH,CA];rfl⟩;refine qd k1 (qo (abf ek) ?_);cases k with
  |none=>exact no (by unfold iE ff;rw[ek];rfl)
  |some k=>
   have key:l8 L3 us fun kvs=>ko (nb true (v3 kvs (.inl (0+(i:Int)))).isSome) (cR (fun zs L'=>L'=L3/\zs=nY (w9 wd (ww wd ct) (i+1))) (nY (w9 wd (ww wd ct) i)++[.int (0+(i:Int))]) L3) (cR (fun zs L'=>L'=L3/\zs=nY (w9 wd (ww wd ct) (i+1))) (nY (w9 wd (ww wd ct) i)) L3):=by
    refine jl g ?_;rw[show(Sum.inl (0+(i:Int)):zq)=.inl (i:Int) by rw[CA],U.val];by_cases cu:i∈ww wd ct
    ·exact al (by rw[AG cu];rfl) (no (by unfold iE ff;rw[ek,AG cu];rfl))
    ·exact ak (by rw[Az cu];rfl) (yes (by unfold iE ff;rw[ek,Az cu];rfl))
   cases k with|lf t n=>exact key|nd e i' j'=>exact key
 ·rintro zs rfl p hp;exact bK (qi.put (s4.trans (By hp)) q9) (q p (s4.none hp))
def gZ:ja:=fun ys L Q=>∃a,∃F:List Nat,ys=[.ref a]/\L a=some (.lst (nY F))/\Q (.bl true) L
theorem xC:∀ys L Q,gZ ys L Q->jx lu 2 ys L Q:=by
 rintro ys L Q ⟨a,F,rfl,ha,q⟩;refine acy ha ?_;refine x0 ha fun keep kp=>kj ⟨fun i τ L'=>∃c,τ=[some (.ref a),c]/\L'=L,⟨_,rfl,rfl⟩,?_,?_,?_⟩
 ·rintro i τ L' ⟨c,rfl,rfl⟩;exact kp _ rfl
 ·rintro i y τ L' hy ⟨c,rfl,rfl⟩;obtain⟨m,em,rfl⟩:=cX hy;exact⟨_,DX _,_,rfl,rfl⟩
 ·rintro τ L' ⟨c,rfl,rfl⟩;exact js q
def gB:ja:=fun ys L Q=>∃R:Ru,∃n:Int,ys=[qm R,.int n]/\(qk R).length≤96/\∀B∈vj R,Q (qm B) L
theorem uw:∀ys L Q,gB ys L Q->jx (ln fN) 3 ys L Q:=by
 rintro ys L Q ⟨R,n,rfl,tl,q⟩;have rd:=x6 R;refine⟨fun m τ L'=>∃B n c2,τ=[some (qm B),some (.int n),c2]/\qi L L'/\B∈vj R/\jp B≤jp R/\m=jp B,⟨_,R,n,_,rfl,DX _,dJ R,Al _,rfl⟩,?_⟩;rintro m τ L' ⟨B,n,c2,rfl,s,hB,dB,rfl⟩;refine⟨B,rfl,fun p1 h1=>?_⟩;intro p2 h2;have s2:qi L (qf (qf L' p1 (.lst ((zd B).map qm))) p2 (.lst [])):=(s.trans (By h1)).trans (By h2);refine aU (n:=120) (m:=0) (by decide) (By h2 _ _ q9) q9 (bS fun A hA=>by have:=wn hA;lia) (.nil:Paired (jf _ 0) _ []) ?_;generalize qf (qf L' p1 (.lst ((zd B).map qm))) p2 (.lst [])=L2 at s2 ⊢;show ko (!(Da.eqs ((zd B).map a8) [])) _ _;rw[kW];by_cases c:zd B=[]
 ·refine al (by rw[AG c];rfl) ?_;exact al rfl (bK s2 (q B hB))
 ·refine ak (by rw[Az c];rfl) ⟨(show(0:Int)<5 by decide),?_⟩;refine xc (fun c5=>?_) fun c5=>bK s2 (q B hB);refine⟨fun τ' L'=>∃m',m'<jp B/\∃B n c2,τ'=[some (qm B),some (.int n),c2]/\qi L L'/\B∈vj R/\jp B≤jp R/\m'=jp B,fun _ _ h=>h,?_⟩;refine⟨B,rfl,fun p3 h3=>?_⟩;have hl:0<(zd B).length:=List.length_pos_iff.mpr c;obtain⟨j,A,ej,lj,eA⟩:=kK hl (n / 5);have mA:=AI eA;have dA:=wn mA;have lm:((zd B).map qm).length=(zd B).length:=Ae ..;refine⟨⟨by decide,by decide⟩,qd q9 ⟨(by show(0:Int)<(((zd B).map qm).length:Int);rw[lm];lia),qd q9 (qo (v:=qm A) (by show fv ((zd B).map qm) (n / 5 % (((zd B).map qm).length:Int))=_;rw[lm,ej];exact vi eA) ?_)⟩⟩;exact⟨.inr ⟨by decide,by decide⟩,(show(0:Int)<2147483647 by decide),_,DX _,jp A,dA,A,_,_,rfl,s2.trans (By h3),wb hB (uH mA),by lia,rfl⟩
def abq(Pt:Addr)(p0:ja):kg:=(qw (zw (xw z9) (qh 2))
 (qw (gR (nU (qc 0)) (cO 2 (jd (qh 3) (jd (qh 4) ae))) (qw (zw (zj w6 (qp p0 (qe (qc 1) (aD (qc 3) (jr 39373)))) (jr 40)) (qh 5))
 (mK (v0 (gg (cD 4) (jr 3)) (zw (zj w5 (zj w5 (qc 5) (jr 1)) (iO ad7 (qe (zj cH (qc 2) (ju 4 1)) (qe (zj cH (qc 2) (ju 4 2)) z9)))) (qh 5)) jw)
 (jb (aq j8 (qc 2) (vk (qc 5)))))))
 (jc (zA Pt lamQ 2 (re (cD 0))))))
def oY(p0:ja):kg:=(qw (v0 (gg (ju 0 0) (cQ "link")) (jc (kn (qe (cQ "link") (qe (iO ahm (qe (hW (qc 1) (ju 0 1)) (qe (hW (qc 1) (ju 0 2)) z9))) (qe (iO ad7 (qe (hW (qc 1) (ju 0 1)) (qe (hW (qc 1) (ju 0 2)) z9))) z9))))) jw)
 (qw (zw (ow 1 (yS (ySl xU (qc 0) (cL (jr 1)) ai)) (qh 3) (yB (mL .int (qc 3))) (hW (qc 1) (qc 3))) (qh 2))
 (jc (iO uB (qe (zj w5 (zj w5 (xw (vk (ju 0 0))) (qc 2)) (ow 1 (yS (ySl xU (qc 0) (cL (jr 1)) ai)) (qh 3) (yB (mL .tuple (qc 3))) (qp p0 (aD (qc 3) (qc 1))))) z9)))))
def jS(p0:ja)(p1:ja):kg:=(qw (zw qC (qh 3))
 (qw (zw (xw z9) (qh 4))
 (qw (gR (vq (qp p0 (aD (qc 0) (qc 2)))) (qh 5) (qw (dh (qc 3) (qc 5) (cD 4))
 (qw (zw (zj cH (qc 0) (qc 5)) (qh 6))
 (jb (aq j8 (qc 4) (qe (yIf (gg (cD 6) (jr 2)) (qc 6) (kn (qe (ju 6 0) (qe (hW (qc 3) (ju 6 1)) (qe (hW (qc 3) (ju 6 2)) z9))))) z9))))))
 (jc (kn (qe (qc 4) (qe (qp p1 (aD (qc 1) (qc 3))) z9)))))))
def fj(Pt:Addr):ja:=fun ys L Q=>∃a,∃ks:List Kn,∃s:Int,ys=[.ref a,.int s]/\L a=some (.lst (zu ks))/\OkO (ks.map some)/\ks.length≤1000/\L Pt=some (.tb lamQ)/\
 ∀D qs,L D=none->qs.Perm (List.range (ks.map some).length)->bV (ks.map some) qs->Q (.ref D) (qf L D (.lst (nY qs)))
theorem xW :∀ys L Q,fj Pt ys L Q->jx (abq Pt oq) 6 ys L Q:=by
 rintro ys L Q ⟨a,ks0,s,rfl,ha,ok,hz,hP,q⟩;obtain⟨ks,eks⟩:∃ks,ks=ks0.map some:=⟨_,rfl⟩;rw[<-vv,<-eks] at ha;rw[<-eks] at ok q;have hz:ks.length≤1000:=by rw[eks,Ae];exact hz
 have all:∀i,ks[i]?≠some none:=fun i e=>by rw[eks,Ap] at e;obtain⟨_,_,z⟩:=Aw.mp e;cases z
 have big:=bg_;intro kk hkk;have s0:qi L (qf L kk (.lst [])):=By hkk;have nak:a≠kk:=ke ha hkk;refine x0 (s0 _ _ ha) fun keep kp=>kj ⟨fun i τ L'=>∃rks:List Int,∃c3 c4 c5,τ=[some (Y.ref a),some (.int s),some (Y.ref kk),c3,c4,c5]/\L'=qf L kk (.lst (rks.map Y.int))/\rks.length=i/\xQ ks rks,⟨[],_,_,_,rfl,rfl,rfl,fun p _ _ _ hp=>by cases hp⟩,?_,?_,?_⟩
 ·rintro i τ L' ⟨rks,c3,c4,c5,rfl,rfl,_⟩;exact kp _ (by rw[qa nak,qa nak])
 ·rintro i y τ L' hy ⟨rks,c3,c4,c5,rfl,rfl,hl,hrk⟩;obtain⟨z,ez,rfl⟩:=jN hy;rw[Ap] at ez;obtain⟨k,ek,rfl⟩:=Aw.mp ez;have hi:=xu ek;refine⟨s,i,39373,rfl,by exact Bf _,by omega,by decide,by decide,fun v h0 h1=>?_⟩;have m0:(0:Int)≤v % 40:=DO _ (by decide);have lens:(rks.map Y.int).length=i:=by rw[Ae];exact hl
  refine⟨show(0:Int)<40 by decide,fun τ' L'=>∃r:Int,τ'=[some (Y.ref a),some (.int s),some (Y.ref kk),some (.int (i:Nat)),some (mC k),some (.int r)]/\L'=qf L kk (.lst (rks.map Y.int))/\∀e i j,k=some (.nd e i j)->rks.getD i 0<r/\rks.getD j 0<r,?_,?_⟩
  ·cases k with
   |none=>exact absurd ek (all i)
   |some k=>
    cases k with
    |lf t n=>exact⟨v % 40,rfl,rfl,fun e i j z=>by cases z⟩
    |nd e p1 p2=>
     obtain⟨l1,l2⟩:=ok _ _ _ _ ek;have g1:=vh (rD (rks:=rks) (i:=p1) (by lia));have g2:=vh (rD (rks:=rks) (i:=p2) (by lia));refine qd q9 (qo g1 ?_);refine qd q9 (qo g2 ?_);refine⟨v % 40+1+max (rks.getD p1 0) (rks.getD p2 0),rfl,rfl,fun e' i' j' z=>?_⟩;cases z;have a1:rks.getD p1 0≤max (rks.getD p1 0) (rks.getD p2 0):=Int.le_max_left ..;have a2:rks.getD p2 0≤max (rks.getD p1 0) (rks.getD p2 0):=Int.le_max_right ..;constructor<;>lia
  ·rintro τ' L' ⟨r,rfl,rfl,hr⟩;refine qd q9 (qy q9 ⟨by rw[lens];exact big _ (by lia),?_⟩);refine⟨_,DX _,rks++[r],_,_,_,rfl,?_,by rw[Ac,hl];rfl,xQ.snoc ok hrk (by rw[hl];exact ek) hr⟩;rw[xr,AC];rfl
 ·rintro τ L' ⟨rks,c3,c4,c5,rfl,rfl,hl,hrk⟩;rw[gU,Ae] at hl;have s1:qi L (qf L kk (.lst (rks.map Y.int))):=By hkk;refine qd (s1 _ _ ha) ?_;have lo:(kz ks).length=ks.length:=Ae ..;refine⟨⟨Bf _,by rw[lo];lia⟩,fun p hp=>qy q9 ?_⟩;have npk:kk≠p:=ke q9 hp;have npP:Pt≠p:=ke (s1 _ _ hP) hp;have nkP:Pt≠kk:=ke hP hkk;refine⟨ks.length,rks,kk,by rw[BD,lo],rfl,(qa npk).trans q9,hl,hz,(qa npP).trans ((qa nkP).trans hP),fun D qs hD pm pw=>?_⟩;have hD1:=jj hD;have hD2:=jj hD1;refine⟨qf L D (.lst (nY qs)),fun b o e=>?_,q D qs hD2 pm (zE ok hrk hl pw)⟩;by_cases c:b=D
  ·subst c;rw[q9] at e ⊢;exact e
  ·rw[qa c] at e ⊢;rw[qa (fun z=>by subst z;rw[jj hp] at e;cases e),qa (fun z=>by subst z;rw[hkk] at e;cases e)];exact e
theorem pX(y:Y)(l:List Y):ld (y::l) (some 1) none=l:=by
 unfold ld;have e:HT.sIx (y::l).length 0 (some 1)=1:=by show min 1 (l.length+1)=1;lia
 rw[e];show(l.take (l.length+1 - 1))=l;rw[Nat.add_sub_cancel,Bt]
theorem uY(y:Y)(l:List Y):¬(HT.sIx (y::l).length 0 (some 1)=0/\HT.sIx (y::l).length (y::l).length none=(y::l).length):=fun z=>by
 have e:HT.sIx (y::l).length 0 (some 1)=1:=by show min 1 (l.length+1)=1;lia
 rw[e] at z;exact absurd z.1 (by decide)
def kdR:Ru->Str
 |.link _ _ => "link"
 |.ei _ _ => "either"
 |.bo _ _ _ => "both"
 |.cu _ _ _ _ => "cut"
theorem oV(A:Ru):qm A=.tup (.str (kdR A)::(nY (plR A)++(zd A).map qm)):=by cases A<;>rfl
def au(n:Nat):ja:=fun ys L Q=>∃R:Ru,∃d,∃kvs:List (zq×Y),∃f:Nat->Nat,ys=[qm R,.ref d]/\L d=some (.dct kvs)/\(∀B∈vj R,∀x∈plR B,v3 kvs (.inl (x:Int))=some (.int ((f x:Nat):Int)))/\jp R≤n/\Q (qm (md f R)) L
theorem aaj:∀ys L Q,¬au 0 ys L Q:=by rintro ys L Q ⟨A,_,_,_,_,_,_,h,_⟩;have:=kB A;lia
theorem uZ{P:List Nat}{As:List Ru}(h:(nY P++As.map qm)[i]?=some y):(i<P.length/\∃x,P[i]?=some x/\y=.int (x:Int))\/(P.length≤i/\∃B,As[i - P.length]?=some B/\y=qm B):=by
 by_cases c:i<P.length
 ·rw[AE (by rw[vt];exact c)] at h;exact .inl ⟨c,cX h⟩
 ·rw[Ar (by rw[vt];lia),vt,Ap] at h;obtain⟨B,e,z⟩:=Aw.mp h;exact .inr ⟨by lia,B,e,z.symm⟩
theorem zV(n:Nat):∀ys L Q,au (n+1) ys L Q->jx (oY (au n)) 3 ys L Q:=by
 rintro ys L Q ⟨R,d,kvs,f,rfl,hd,hv,hr,q⟩;have big:=bg_;by_cases hlk:∃a b,R=.link a b
 ·obtain⟨a,b,rfl⟩:=hlk;have v1:=hv _ (dJ _) a (An ..);have v2:=hv _ (dJ _) b (Ag _ (An ..));refine jl hd (qo v1 ?_);refine jl hd (qo v2 ?_);refine jl hd (qo v1 ?_);refine jl hd (qo v2 ?_);refine js ?_;have e1:min ((f a:Nat):Int) ((f b:Nat):Int)=((min (f a) (f b):Nat):Int):=anb _ _;have e2:max ((f a:Nat):Int) ((f b:Nat):Int)=((max (f a) (f b):Nat):Int):=ana _ _;have q:Q (.tup [.str "link",.int ((min (f a) (f b):Nat):Int),.int ((max (f a) (f b):Nat):Int)]) L:=q;rw[<-e1,<-e2] at q;exact q
 have hk:kdR R ≠ "link" := by cases R with|link a b=>exact absurd ⟨a,b,rfl⟩ hlk|ei r A=>show(Str.ofString "either") ≠ "link";decide +kernel|bo r A B=>show(Str.ofString "both") ≠ "link";decide +kernel|cu p s A B=>show(Str.ofString "cut") ≠ "link";decide +kernel
 have q2:Q (.tup ([.str (kdR R)]++nY ((plR R).map f)++(zd R).map fun B=>qm (md f B))) L:=by cases R with|link a b=>exact absurd ⟨a,b,rfl⟩ hlk|ei r A=>exact q|bo r A B=>exact q|cu p s A B=>exact q
 have vp:∀x∈plR R,v3 kvs (.inl (x:Int))=some (.int ((f x:Nat):Int)):=hv R (dJ R);have va:∀B∈zd R,jp B≤n/\∀C∈vj B,∀x∈plR C,v3 kvs (.inl (x:Int))=some (.int ((f x:Nat):Int)):=fun B hB=>⟨by have:=wn hB;lia,fun C hC=>hv C (wb (uH hB) hC)⟩;have lp:(plR R).length≤2:=by cases R<;>simp[plR]
 have lA:(zd R).length≤2:=by cases R<;>simp[zd]
 rw[oV R];generalize plR R=P at vp q2 lp;generalize zd R=As at va q2 lA;generalize kdR R=kd at hk q2;clear q hv hlk hr;have e0:fv (Y.str kd::(nY P++As.map qm)) 0=some (Y.str kd):=vh (xs:=Y.str kd::(nY P++As.map qm)) (j:=0) rfl;have ll:(nY P++As.map qm).length=P.length+As.length:=by rw[Ac,vt,Ae]
 walk_at "w";rw[e0];refine al (Az hk) ?_;refine⟨uY _ _,?_⟩;rw[pX];refine aj (fun i zs=>zs=nY ((P.take i).map f)) (by rw[ll];exact big _ (by lia)) trivial rfl ?_ ?_
 ·rintro i y zs hy rfl;rcases uZ hy with⟨c,x,ex,rfl⟩ | ⟨c,B,eB,rfl⟩
  ·refine jl hd (qo (vp x (AI ex)) ⟨_,DX _,rfl,?_⟩);rw[Bh,ex,AC,gH];rfl
  ·have e1:P.take (i+1)=P.take i:=by rw[AZ (by lia),AZ c]
   have z:cR (fun zs L'=>L'=L/\zs=nY ((P.take (i+1)).map f)) (nY ((P.take i).map f)) L:=⟨_,DX _,rfl,by rw[e1]⟩;rw[oV B];exact z
 rintro zs rfl p1 h1;rw[ll,AZ (by lia)];walk_at "w";rw[e0];intro p2 h2;have s1:=By (o:=.lst (nY (P.map f))) h1;have s2:=s1.trans (By (o:=.lst [Y.str kd]) h2);refine⟨_,_,q9,By h2 _ _ q9,?_,fun p3 h3=>?_⟩
 ·rw[vt,Ae];exact Bz (big _ (by show 1+P.length≤20000;lia))
 have s3:=s2.trans (By (o:=.lst ([Y.str kd]++nY (P.map f))) h3);have g3:∀{o},qf (qf (qf L p1 (.lst (nY (P.map f)))) p2 (.lst [Y.str kd])) p3 o p3=some o:=q9;refine⟨uY _ _,?_⟩;rw[pX];have g3:=g3 (o:=.lst ([Y.str kd]++nY (P.map f)));generalize qf (qf (qf L p1 (.lst (nY (P.map f)))) p2 (.lst [Y.str kd])) p3 (.lst ([Y.str kd]++nY (P.map f)))=L3 at s3 g3 ⊢;refine aj (fun i zs=>zs=(As.take (i - P.length)).map fun B=>qm (md f B)) (by rw[ll];exact big _ (by lia)) trivial (by rw[Nat.zero_sub];rfl) ?_ ?_
 ·rintro i y zs hy rfl;rcases uZ hy with⟨c,x,ex,rfl⟩ | ⟨c,B,eB,rfl⟩
  ·exact⟨_,DX _,rfl,by rw[Nat.sub_eq_zero_of_le c,Nat.sub_eq_zero_of_le (Bz c)]⟩
  ·obtain⟨h1,h2⟩:=va B (AI eB);have z:au n [qm B,.ref d] L3 fun z L4=>cR (fun zs L'=>L'=L3/\zs=(As.take (i+1 - P.length)).map fun B=>qm (md f B)) (((As.take (i - P.length)).map fun B=>qm (md f B))++[z]) L4:=by refine⟨B,d,kvs,f,rfl,s3 _ _ hd,h2,h1,_,DX _,rfl,?_⟩;rw[Nat.succ_sub c,Bh,eB,AC];rfl
   rw[oV B] at z ⊢;exact z
 rintro zs rfl p4 h4;rw[ll,BP,Bt];refine⟨_,_,(qa (ke g3 h4)).trans g3,q9,?_,fun p5 h5=>?_⟩
 ·rw[Ac,vt,Ae,Ae];exact Bz (big _ (by show 1+P.length+As.length≤20000;lia))
 exact qy q9 (bK ((s3.trans (By h4)).trans (By h5)) q2)
theorem SR.pl{E:List Nat}(h:SR ks R E):∀B∈vj R,∀x∈plR B,x<ks.length:=fun B hB x hx=>by
 obtain⟨⟨EB,s⟩,_⟩:=h.rls B hB;have l:=s.lt;cases s with
 |link=>exact l x hx
 |ei=>rw[Ao.mp hx];exact l _ (An ..)
 |bo=>rw[Ao.mp hx];exact l _ (An ..)
 |cu hA hC h3 h4=>
  rcases Au.mp hx with rfl | hx
  ·exact l _ (Av _ (hA.sub _ h3))
  ·rw[Ao.mp hx];exact l _ (Af _ (hC.sub _ h4))
def aca(f:Nat->Nat):Kn->Kn
 |.lf t n=>.lf t n
 |.nd e i j=>.nd e (f i) (f j)
theorem uz(f:Nat->Nat)(k:Kn):gW f (some k)=some (aca f k):=by cases k<;>rfl
def eG(Pt:Addr):ja:=fun ys L Q=>∃a,∃ks:List Kn,∃R:Ru,∃E:List Nat,∃s:Int,ys=[.ref a,qm R,.int s]/\L a=some (.lst (zu ks))/\bU ks/\SR ks R E/\(qk R).Perm (List.range ks.length)/\ks.length≤96/\L Pt=some (.tb lamQ)/\
 ∀w f ks',L w=none->ks'.length=ks.length->Ren f (ks.map some) (ks'.map some)->Q (.tup [.ref w,qm (md f R)]) (qf L w (.lst (zu ks')))
theorem si :∀ys L Q,eG Pt ys L Q->jx (jS (fj Pt) (au 120)) 7 ys L Q:=by
 rintro ys L Q ⟨a,ks0,R,E,s,rfl,ha,kok,sr,tp,hz,hP,q⟩;have big:=bg_;obtain⟨ks,eks⟩:∃ks,ks=ks0.map some:=⟨_,rfl⟩;have lks:ks.length=ks0.length:=by rw[eks,Ae]
 have ok:OkO ks:=by rw[eks];exact aal kok
 have ha':L a=some (.lst (kz ks)):=by rw[eks,vv];exact ha
 intro d hd w hw;have hw0:L w=none:=jj hw;have ndw:d≠w:=ke q9 hw;have s0:qi L (qf (qf L d (.dct [])) w (.lst [])):=(By hd).trans (By hw);refine⟨a,ks0,s,rfl,s0 _ _ ha,by rw[<-eks];exact ok,by lia,s0 _ _ hP,fun D qs hD pm pf=>?_⟩;rw[<-eks] at pm pf;have hD0:L D=none:=jj (jj hD);have nwD:w≠D:=ke q9 hD;have ndD:d≠D:=ke ((qa ndw).trans q9) hD;have lq:qs.length=ks.length:=by rw[pm.length_eq,BO]
 have ndq:qs.Nodup:=pm.nodup_iff.mpr BU;have mq:∀p∈qs,p<ks.length:=fun p hp=>Bc.mp (pm.mem_iff.mp hp);have G0:aj4 L ks qs d w D 0 0 (fun _=>0) (([]:List Kn).map some) [] (qf (qf (qf L d (.dct [])) w (.lst [])) D (.lst (nY qs))):=
  ⟨s0.trans (By hD),(qa ndD).trans ((qa ndw).trans q9),(qa nwD).trans q9,q9,Al _,fun p=>rfl,Gap.nil _ _,Al _⟩
 refine x0 q9 fun keep kp=>kj ⟨fun i τ L'=>∃f,∃ms:List Kn,∃kvs c5 c6,τ=[some (.ref a),some (qm R),some (.int s),some (.ref d),some (.ref w),c5,c6]/\aj4 L ks qs d w D i 0 f (ms.map some) kvs L'/\ms.length=i,⟨_,[],_,_,_,rfl,G0,rfl⟩,?_,?_,?_⟩
 ·rintro i τ L' ⟨f,ms,kvs,c5,c6,rfl,G,_⟩;exact kp L' (by rw[G.hD,q9])
 ·rintro i y τ L' hy ⟨f,ms,kvs,c5,c6,rfl,G,lm⟩;obtain⟨p,ep,rfl⟩:=cX hy;have hi:=xu ep;have hp:p<ks.length:=mq p (AI ep);obtain⟨k,hk⟩:∃k,ks0[p]?=some k:=⟨_,Aj (by lia)⟩;have hk':ks[p]?=some (some k):=by rw[eks,Ap,hk];rfl
  have pn:p∉qs.take i:=fun hm=>by
   have e2:qs=qs.take i++p::qs.drop (i+1):=by rw[Aj hi] at ep;rw[<-Ba ep,Cg,Bb]
   have nd:=ndq;rw[e2] at nd;exact(Aq.mp nd).2.2 p hm p (An ..) rfl
  have et:qs.take (i+1)=qs.take i++[p]:=by rw[Bh,ep];rfl
  have hpar:∀e i' j',some k=some (.nd e i' j')->i'∈qs.take i/\j'∈qs.take i:=fun e i' j' z=>jZ ok pm pf ep (by rw[hk',z]);have hpar2:∀x∈qs.take i,∀e i' j',ks[x]?=some (some (.nd e i' j'))->i'∈qs.take i/\j'∈qs.take i:=fun x hx e i' j' z=>by
   obtain⟨n,hn⟩:=De hx;have hn2:=xu hn;rw[AN] at hn2;rw[Dy (by lia)] at hn;obtain⟨h1,h2⟩:=jZ ok pm pf hn z;have sb:∀y,y∈qs.take n->y∈qs.take i:=fun y hy=>by
    have:qs.take n=(qs.take i).take n:=by rw[List.take_take,Cj (by lia)]
    rw[this] at hy;exact BB hy
   exact⟨sb _ h1,sb _ h2⟩
  have hwk:L' w=some (.lst (zu ms)):=by rw[G.hw,vv]
  have vp:∀y:Nat,v3 (fT kvs (.inl (p:Int)) (.int ((ms.length:Nat):Int))) (.inl (y:Int))=if y∈qs.take i++[p] then some (.int (((if y=p then ms.length else f y):Nat):Int)) else none:=fun y=>by
   rw[ij];by_cases e:y=p
   ·subst e;rw[AA rfl,AA rfl,AA (Af _ (Ao.mpr rfl))]
   ·rw[Ay (fun z=>e (CF.mp (Sum.inl.inj z))),Ay e,G.val];by_cases h:y∈qs.take i
    ·rw[AA h,AA (Av _ h)]
    ·rw[Ay h,Ay fun z=>(Ak.mp z).elim h fun z=>e (Ao.mp z)]
  have kl:=G.len;have lenM:(zu ms).length=ms.length:=Ae ..;refine qd hwk ?_;rw[lenM];refine jl G.hd ⟨big _ (by lia),?_⟩;have nad:a≠d:=ke ha hd;refine qd ((qa nad).trans (G.sub _ _ ha)) (qo (vi hk) ?_);have hw2:qf L' d (.dct (fT kvs (.inl (p:Int)) (.int ((ms.length:Nat):Int)))) w=some (.lst (zu ms)):=(qa (AK ndw)).trans hwk;have hb:∀x∈qs.take i,x<ks.length:=fun x hx=>mq x (BB hx);have em:(ms++[aca f k]).map some=ms.map some++[gW f (some k)]:=by rw[uz,AC];rfl
  have done:cR (fun τ L'=>∃f,∃ms:List Kn,∃kvs c5 c6,τ=[some (.ref a),some (qm R),some (.int s),some (.ref d),some (.ref w),c5,c6]/\aj4 L ks qs d w D (i+1) 0 f (ms.map some) kvs L'/\ms.length=i+1) [some (.ref a),some (qm R),some (.int s),some (.ref d),some (.ref w),some (.int (p:Int)),some (jB k)] (qf (qf L' d (.dct (fT kvs (.inl (p:Int)) (.int ((ms.length:Nat):Int))))) w (.lst (zu ms++[jB (aca f k)]))):=by
   refine⟨_,DX _,fun x=>if x=p then ms.length else f x,ms++[aca f k],_,_,_,rfl,⟨(G.sub.upd hd).upd hw0,(qa ndw).trans q9,?_,(qa (AK nwD)).trans ((qa (AK ndD)).trans G.hD),?_,fun y=>?_,?_,?_⟩,by rw[Ac,lm];rfl⟩
   ·rw[q9,vv];unfold zu;rw[AC];rfl
   ·have:=sD kvs (.inl (p:Int)) (.int ((ms.length:Nat):Int));lia
   ·rw[et];exact vp y
   ·rw[et,em];have:=G.gap.step hb pn hk' hpar2 hpar;rw[Ae] at this;exact this
   ·rw[Ae,Ac,lm];show i+1≤_;lia
  refine qd hw2 ?_;cases k with
  |lf t n=>exact qy hw2 ⟨by rw[lenM];exact big _ (by lia),done⟩
  |nd e p1 p2=>
   obtain⟨m1,m2⟩:=hpar e p1 p2 rfl;have v1:=vp p1;have v2:=vp p2;rw[AA (Av _ m1),Ay fun(z:p1=p)=>pn (z▸m1)] at v1;rw[AA (Av _ m2),Ay fun(z:p2=p)=>pn (z▸m2)] at v2;refine jl ((q9:qf L' d _ d=some _)) (qo v1 ?_);refine jl ((q9:qf L' d _ d=some _)) (qo v2 ?_);exact qy hw2 ⟨by rw[lenM];exact big _ (by lia),done⟩
 ·rintro τ L' ⟨f,ms,kvs,c5,c6,rfl,G,lm⟩;have eq:(nY qs).length=qs.length:=Ae ..;rw[eq] at G lm;have et:qs.take qs.length=qs:=Bt;have val:∀p,p<ks.length->v3 kvs (.inl (p:Int))=some (.int ((f p:Nat):Int)):=fun p hp=>by rw[G.val,et,AA (pm.mem_iff.mpr (Bc.mpr hp))]
  have gap:Gap ks (List.range ks.length) f (ms.map some):=by have g:=G.gap;rw[et] at g;exact⟨fun p hp=>g.at_ p (pm.mem_iff.mpr hp),fun p hp r hr=>g.inj p (pm.mem_iff.mpr hp) r (pm.mem_iff.mpr hr),fun x k hx=>let ⟨r,hr,e⟩:=g.only x k hx;⟨r,pm.mem_iff.mp hr,e⟩,g.ok⟩
  have rd:=x6 R;have tl:=tp.length_eq;rw[BO] at tl;refine⟨R,d,kvs,f,rfl,G.hd,fun B hB x hx=>val x (by rw[lks];exact sr.pl B hB x hx),by lia,?_⟩;refine bK (qi.put G.sub (by rw[G.hw,vv])) (q w f ms hw0 (by lia) ⟨by rw[<-eks];exact gap,by rw[Ae,Ae];lia⟩)
def aej(p0:ja)(p1:ja)(p2:ja)(p3:ja)(p4:ja)(p5:ja):kg:=(qw (zw (xw z9) (qh 3))
 (qw (zw (xw z9) (qh 4))
 (qw (gR (nU (qc 0)) (cO 2 (jd (qh 5) (jd (qh 6) ae))) (qw (aj8 7 8 (qe (qp p0 (qe (qc 6) (aD (qc 5) (jr 48271)))) (qe (qp p0 (qe (qc 6) (aD (qc 5) (jr 69621)))) z9)))
 (qw (v0 (yB (zj yGt (zj w5 (zj w5 (cD 3) (cD 4)) (jr 12)) (qc 2))) afq jw)
 (qw (zw (zj w6 (qc 7) (jr 9)) (qh 9))
 (qw (zw (zj bC (qc 7) (jr 9)) (qh 7))
 (v0 (yOr (yB (zj yLt (qc 9) (jr 3))) (gg (qc 4) (xw z9))) (qw (jb (aq j8 (qc 3) (qe (kn (qe (cQ "plain") (qe (qp p1 (qe (qc 1) (qe (zj w6 (qc 8) (jr 3)) z9))) z9))) z9)))
 (qw (jb (aq j8 (qc 3) (qe (kn (qe (cQ "turned") (qe (qp p1 (qe (qc 1) (qe (zj w6 (qc 8) (jr 3)) z9))) z9))) z9)))
 (mK (v0 (gg (zj w6 (qc 7) (jr 2)) (jr 1)) (jb (aq j8 (qc 3) (qe (aq cG (qc 3) (qe (zj iR (cD 3) (jr 2)) z9)) z9))) jw)
 (qw (zw (zj iR (cD 3) (jr 2)) (qh 10))
 (jb (aq j8 (qc 4) (qe (xw (qe (kn (qe (cQ "link") (qe (qc 10) (qe (zj w5 (qc 10) (jr 1)) z9)))) (qe (xw (qe (qc 10) (qe (zj w5 (qc 10) (jr 1)) z9))) z9))) z9))))))) (v0 (yB (zj yLt (qc 9) (jr 6))) (jb (qp p2 (qe (qc 3) (qe (zj cH (qc 4) (zj w6 (qc 8) (cD 4))) (qe (qc 7) (qe (zj bC (qc 8) (jr 64)) z9)))))) (v0 (rJ (yB (zj yLt (qc 9) (jr 8))) (yB (zj yGt (cD 4) (jr 1)))) (jb (qp p3 (qe (qc 3) (qe (qc 4) (aD (qc 7) (qc 8)))))) (jb (qp p4 (qe (qc 3) (qe (qc 4) (aD (qc 7) (qc 8))))))))))))))
 (mK (v0 (gg (qc 4) (xw z9)) (qw (jb (aq j8 (qc 3) (qe (kn (qe (cQ "turned") (qe (qp p1 (aD (qc 1) (jr 0))) z9))) z9)))
 (qw (jb (aq j8 (qc 3) (qe (kn (qe (cQ "plain") (qe (qp p1 (aD (qc 1) (jr 0))) z9))) z9)))
 (jb (aq j8 (qc 4) (qe (xw (qe (kn (qe (cQ "link") (aD (jr 0) (jr 1)))) (qe (xw (aD (jr 0) (jr 1))) z9))) z9))))) jw)
 (qw (lK (yB (zj yGt (cD 4) (jr 1))) (jb (qp p3 (qe (qc 3) (qe (qc 4) (qe (zj w5 (zj bC (qc 1) (jr 7)) (cD 4)) (qe (zj bC (qc 1) (jr 3)) z9)))))))
 (jc (qp p5 (qe (qc 3) (qe (zj cH (ju 4 0) (jr 0)) (vk (qc 1)))))))))))
def jX(Pt:Addr):ja:=fun ys L Q=>∃cy,∃ns:List Int,∃s:Int,∃room:Nat,ys=[.ref cy,.int s,.int (room:Int)]/\L cy=some (.lst (ns.map Y.int))/\ns.length≤1000/\room≤96/\L Pt=some (.tb lamQ)/\
 ∀w ks R E,L w=none->dm ks R E->(qk R).Perm (List.range ks.length)->Q (.tup [.ref w,qm R]) (qf L w (.lst (zu ks)))
theorem yy :∀ys L Q,jX Pt ys L Q->jx (aej oq io jV oW nR (eG Pt)) 11 ys L Q:=by
 rintro ys L Q ⟨cy,ns,s,room,rfl,hcy,hns,hroom,hP,q⟩;have big:=bg_;have lenR:∀fo:List Tr,(zc fo).length=fo.length:=fun fo=>Ae ..;have lenK:∀ks:List Kn,(zu ks).length=ks.length:=fun ks=>Ae ..;intro ka hka fa hfa;have nkf:ka≠fa:=ke q9 hfa;have hfa':L fa=none:=(By hka).none hfa;have F0:mE L (qf (qf L ka (.lst [])) fa (.lst [])) ka fa [] []:=by
  refine⟨⟨by rw[qa nkf];exact q9,fun t ht=>by simp at ht,fun t ht=>by simp at ht,by simp,by simp,by simp[nkf],fun p k e=>by simp at e,(By hka).trans (By hfa),fun x hx=>?_⟩,q9⟩;rcases Au.mp hx with rfl | hx
  ·exact hka
  ·rw[Ao.mp hx];exact hfa'
 generalize qf (qf L ka (.lst [])) fa (.lst [])=L1 at F0;refine x0 (F0.b.sub _ _ hcy) fun keep kp=>kj ⟨fun _ τ L'=>TW L ka fa s room τ L',?_,?_,?_,?_⟩
 ·exact TW.of F0 (Bm _)
 ·rintro i τ L' ⟨c0,c5,c6,c7,c8,c9,fA,ks,fo,rfl,F,hb⟩;exact kp L' (by rw[F.b.sub _ _ hcy,F0.b.sub _ _ hcy])
 ·rintro i y τ L' ey ⟨c0,c5,c6,c7,c8,c9,fA,ks,fo,rfl,F,hb⟩;obtain⟨z,ez,rfl⟩:=jN ey;obtain⟨cell,ec,rfl⟩:∃cell:Int,ns[i]?=some cell/\z=Y.int cell:=by rw[Ap] at ez;obtain⟨z,e1,e2⟩:=Aw.mp ez;exact⟨z,e1,e2.symm⟩
  have hi:=(A1.mp ec).1;refine⟨cell,((i:Nat):Int),48271,rfl,by exact Bf _,by omega,by decide,by decide,fun one h1 h1'=>⟨cell,((i:Nat):Int),69621,rfl,by exact Bf _,by omega,by decide,by decide,fun two h2 h2'=>?_⟩⟩;refine qd F.b.hk (qd F.hf ?_);refine xc (fun c=>?_) fun c=>?_
  ·exact⟨_,DX _,TW.of F hb⟩
  have c:¬((((zu ks).length:Nat):Int)+(((zc fo).length:Nat):Int)+12 > (room:Int)):=c;rw[lenK,lenR] at c;refine⟨(by decide:(0:Int)<9),⟨by decide,by decide⟩,?_⟩;refine xc (fun c3=>?_) fun c3=>?_
  case' refine_1=>
   obtain⟨L2,eL2⟩:∃L2,L2=L':=⟨_,rfl⟩;rw[<-eL2];have F':mE L L2 ka fa ks fo:=by rw[eL2];exact F
  case' refine_2=>
   intro p hp;refine aU (by decide) (By hp _ _ F.hf) q9 ((F.b.mono (By hp)).dats (by lia)) (.nil:Paired (jf _ 0) _ []) ?_;show ko (Da.eqs (fo.map dc) []) _ _;rw[uX];have F':mE L (qf L' p (.lst [])) ka fa ks fo:=F.mono (By hp);generalize qf L' p (.lst [])=L2 at F';refine xc (fun c0=>?_) fun c0=>?_
  case' refine_2.refine_2=>
   have hfo:0<fo.length:=by cases fo with | nil=>exact absurd rfl c0 | cons _ _=>simp
   have F:=F';refine xc (fun c6=>?_) fun c6=>?_
   ·obtain⟨j,t,ej,lj,et⟩:=kK hfo two;refine qd F.hf ⟨(by show(0:Int)<((zc fo).length:Int);rw[lenR];lia),qd F.hf (qo (v:=.ref t.a) (by show fv (zc fo) (two % ((zc fo).length:Int))=_;rw[lenR,ej];exact vh (by unfold zc;rw[Ap,et];rfl)) ?_)⟩;obtain⟨pre,post,ep⟩:=BZ (AI et);rw[ep] at F hb;refine⟨⟨by decide,by decide⟩,L,ka,fa,ks,pre,post,t,one / 9,two / 64,rfl,F,by lia,fun L3 ks' fo' F3 h1 h2=>?_⟩;refine⟨_,DX _,?_⟩;exact TW.of F3 (by rw[ep] at c;lia)
   refine xc (fun c8=>?_) fun c8=>?_
   ·refine qd F.hf ?_;refine xc (fun c1=>?_) fun c1=>?_
    ·have c1:(((zc fo).length:Nat):Int) > 1:=c1;rw[lenR] at c1;refine⟨L,ka,fa,ks,fo,one / 9,two,rfl,F,by lia,by lia,by lia,fun L3 ks' fo' F3 h1 h2=>?_⟩;refine⟨_,DX _,?_⟩;exact TW.of F3 (by lia)
    ·refine⟨L,ka,fa,ks,fo,one / 9,two,rfl,F,by assumption,by lia,by lia,fun L3 ks' fo' F3 h1 h2 h3=>?_⟩;refine⟨_,DX _,?_⟩;exact TW.of F3 (by lia)
   ·refine⟨L,ka,fa,ks,fo,one / 9,two,rfl,F,by lia,by lia,by lia,fun L3 ks' fo' F3 h1 h2 h3=>?_⟩;refine⟨_,DX _,?_⟩;exact TW.of F3 (by lia)
  all_goals
   obtain⟨nm,enm⟩:∃nm,nm=mkS (wx s (two % 3)):=⟨_,rfl⟩;have hnm:dG nm:=by rw[enm];exact pL _ _
   refine qd F'.b.hk ⟨(by decide:(0:Int)<3),s,two % 3,rfl,qy F'.b.hk ⟨big _ (by rw[lenK];omega),?_⟩⟩;refine qd q9 ⟨(by decide:(0:Int)<3),s,two % 3,rfl,qy q9 ⟨big _ (by rw[Ac,lenK];simp;omega),?_⟩⟩;rw[<-enm,xr];have e1:(zu ks++[.tup [.str "plain",.str nm]])++[.tup [.str "turned",.str nm]]=zu (ks++[.lf false nm,.lf true nm]):=by unfold zu;rw[AC,AD];rfl
   rw[e1];refine⟨fun τ L3=>∃(b:Bool) (d0 d10:Option Y),τ=[d0,some (.int s),some (.int (room:Int)),some (.ref ka),some (.ref fa),some (.int ((i:Nat):Int)),some (.int cell),some (.int (one / 9)),some (.int two),some (.int (one % 9)),d10]/\L3=qf L2 ka (.lst (zu (ks++[.lf b nm,.lf (!b) nm]))),?_,?_⟩
   ·refine⟨(by decide:(0:Int)<2),?_⟩;show ko (decide (one / 9 % 2=1)) _ _;refine xc (fun c2=>?_) fun c2=>?_
    ·have l2:(zu (ks++[Kn.lf false nm,.lf true nm])).length=ks.length+2:=by rw[lenK,Ac];rfl
     have t2:((((zu (ks++[Kn.lf false nm,.lf true nm])).length:Nat):Int) - 2).toNat=ks.length:=by rw[l2];omega
     refine qd q9 (qd q9 (qd q9 (qy q9 ⟨?_,?_,qo (v:=jB (.lf false nm)) ?_ ?_⟩)))
     ·show(0:Int)≤(((zu (ks++[Kn.lf false nm,.lf true nm])).length:Nat):Int) - 2;rw[l2];omega
     ·show(((zu (ks++[Kn.lf false nm,.lf true nm])).length:Nat):Int) - 2<_;omega
     ·show(zu (ks++[Kn.lf false nm,.lf true nm]))[((((zu (ks++[Kn.lf false nm,.lf true nm])).length:Nat):Int) - 2).toNat]?=_;rw[t2];unfold zu;rw[Ap,cg];rfl
     ·rw[xr];refine qy q9 ⟨big _ ?_,?_⟩
      ·refine AU (CO ..) ?_;show(zu (ks++[Kn.lf false nm,.lf true nm])).length≤20000;rw[l2];omega
      ·refine⟨true,_,_,rfl,?_⟩;rw[xr];have e3:(zu (ks++[Kn.lf false nm,.lf true nm])).eraseIdx ((((zu (ks++[Kn.lf false nm,.lf true nm])).length:Nat):Int) - 2).toNat++[jB (.lf false nm)]=zu (ks++[.lf true nm,.lf false nm]):=by rw[t2];unfold zu;rw[AC,CQ (by simp),Ae,Cy,AC,AD];rfl
       rw[e3];rfl
    ·exact⟨false,_,_,rfl,rfl⟩
   ·rintro τ3 L3 ⟨b,d0,d10,rfl,rfl⟩;have l2:(zu (ks++[Kn.lf b nm,.lf (!b) nm])).length=ks.length+2:=by rw[lenK,Ac];rfl
    have nn:(((zu (ks++[Kn.lf b nm,.lf (!b) nm])).length:Nat):Int) - 2=((ks.length:Nat):Int):=by rw[l2];omega
    have hf3:qf L2 ka (.lst (zu (ks++[.lf b nm,.lf (!b) nm]))) fa=some (.lst (zc fo)):=by rw[qa (AK nkf)];exact F'.hf
    have en:∀z:Int,z=((ks.length:Nat):Int)->za [ks.length,ks.length+1]=[.int z,.int (z+1)]:=fun z e=>by rw[e];rfl
    have er:∀z:Int,z=((ks.length:Nat):Int)->qm (.link ks.length (ks.length+1))=.tup [.str "link",.int z,.int (z+1)]:=fun z e=>by rw[e];rfl
    have en:=en _ nn;have er:=er _ nn;refine qd q9 (qd hf3 fun pb hpb pa hpa=>?_);have H:=F'.link hnm b (pb:=pb) (pa:=pa) hpb (by rw[en];exact hpa) rfl;refine qy (((By hpb).trans (By hpa)) _ _ hf3) ⟨big _ (by rw[lenR];omega),?_⟩;rw[en,er] at H;refine⟨_,DX _,?_⟩;exact TW.of H (by rw[Ac,Ac];simp;omega)
 ·rintro τ L' ⟨c0,c5,c6,c7,c8,c9,fA,ks,fo,rfl,F,hb⟩;refine⟨fun τ L3=>∃c0 c5 c6 c7 c8 c9 fA ks fo,τ=[c0,some (.int s),some (.int (room:Int)),some (.ref ka),some (.ref fa),c5,c6,c7,c8,c9,fA]/\mE L L3 ka fa ks fo/\1≤fo.length/\ks.length+fo.length≤max room 3,?_,?_⟩
  ·intro p hp;refine aU (by decide) (By hp _ _ F.hf) q9 ((F.b.mono (By hp)).dats (by lia)) (.nil:Paired (jf _ 0) _ []) ?_;show ko (Da.eqs (fo.map dc) []) _ _;rw[uX];have F':mE L (qf L' p (.lst [])) ka fa ks fo:=F.mono (By hp);generalize qf L' p (.lst [])=L2 at F';refine xc (fun c0=>?_) fun c0=>?_
   ·subst c0;have k0:ks=[]:=by cases ks with|nil=>rfl|cons k r=>exact absurd ((F.b.tm 0).mpr (by simp)) (by simp)
    subst k0;obtain⟨nm,enm⟩:∃nm,nm=mkS (wx s 0):=⟨_,rfl⟩;have hnm:dG nm:=by rw[enm];exact pL _ _
    refine qd F'.b.hk ⟨s,0,rfl,qy F'.b.hk ⟨big _ (by decide),?_⟩⟩;refine qd q9 ⟨s,0,rfl,qy q9 ⟨big _ (by show 1≤20000;decide),?_⟩⟩;rw[<-enm,xr];have hf3:∀o,qf L2 ka o fa=some (.lst (zc [])):=fun o=>by rw[qa (AK nkf)];exact F'.hf
    refine qd (hf3 _) fun pb hpb pa hpa=>?_;have H:=F'.link hnm true (pb:=pb) (pa:=pa) hpb hpa rfl;refine qy (((By hpb).trans (By hpa)) _ _ (hf3 _)) ⟨big _ (by show 0≤20000;decide),?_⟩;exact⟨_,_,_,_,_,_,_,_,_,rfl,H,by simp,by simp;lia⟩
   ·exact⟨_,_,_,_,_,_,_,ks,fo,rfl,F',(by cases fo with | nil=>exact absurd rfl c0 | cons _ _=>simp),by lia⟩
  ·rintro τ L' ⟨c0,c5,c6,c7,c8,c9,fA,ks,fo,rfl,F,h1,hb⟩;refine⟨fun m τ L3=>∃c0 c5 c6 c7 c8 c9 fA ks fo,τ=[c0,some (.int s),some (.int (room:Int)),some (.ref ka),some (.ref fa),c5,c6,c7,c8,c9,fA]/\mE L L3 ka fa ks fo/\1≤fo.length/\fo.length=m/\ks.length+fo.length≤max room 3,⟨_,_,_,_,_,_,_,_,_,_,rfl,F,h1,rfl,hb⟩,?_⟩;rintro m τ L' ⟨c0,c5,c6,c7,c8,c9,fA,ks,fo,rfl,F,h1,hm,hb⟩;refine qd F.hf ?_;refine xc (fun c1=>?_) fun c1=>?_
   ·have c1:(((zc fo).length:Nat):Int) > 1:=c1;rw[lenR] at c1;refine⟨fun τ L3=>∃c0 c5 c6 c7 c8 c9 fA ks fo,τ=[c0,some (.int s),some (.int (room:Int)),some (.ref ka),some (.ref fa),c5,c6,c7,c8,c9,fA]/\mE L L3 ka fa ks fo/\1≤fo.length/\fo.length+1=m/\ks.length+fo.length≤max room 3,?_,?_⟩
    ·rintro τ L3 ⟨d0,d5,d6,d7,d8,d9,d10,ks',fo',rfl,F3,g1,g2,g3⟩;exact⟨m - 1,by lia,_,_,_,_,_,_,_,_,_,rfl,F3,g1,by lia,g3⟩
    ·refine⟨⟨by decide,by decide⟩,qd F.hf ⟨⟨by decide,by decide⟩,L,ka,fa,ks,fo,_,_,rfl,F,by lia,by lia,by lia,fun L3 ks' fo' F3 g1 g2=>?_⟩⟩;exact⟨_,DX _,_,_,_,_,_,_,_,ks',fo',rfl,F3,by lia,by lia,by lia⟩
   ·have c1:¬((((zc fo).length:Nat):Int) > 1):=c1;rw[lenR] at c1;obtain⟨t,rfl⟩:∃t,fo=[t]:=by
     match fo,h1,c1 with
     |[t],_,_=>exact⟨t,rfl⟩
     |t::u::r,_,c=>exact absurd (show(((t::u::r).length:Nat):Int) > 1 by simp;lia) c
    have ta:=(F.b.ht t (An ..)).1;refine qd F.hf (qd ta ?_);have tp:(qk t.R).Perm (List.range ks.length):=by have nd:=F.b.nd;have tm:=F.b.tm;simp at nd tm;exact(AR nd BU).mpr fun x=>by rw[tm,Bc]
    have sr:=F.b.sr t (An ..);have hk:ks.length≤96:=by simp at hb;lia
    refine⟨ka,ks,t.R,t.E,s,rfl,F.b.hk,F.b.ok,sr,tp,hk,F.b.sub _ _ hP,fun w f ks' hw' lk rn=>?_⟩;obtain⟨T,tp'⟩:=dm.ren F.b.ok sr tp hk rn lk;exact bK (qi.put (F.b.sub.trans (By hw')) q9) (q w ks' _ _ (F.b.sub.none hw') T tp')
def ad0(p0:ja)(p1:ja)(p2:ja)(p3:ja):kg:=(qw (zw (zj w6 (zj cH (zj afg (qc 0) (xw (vk (jr 0)))) (jr 0)) (zj anr (jr 10) (jr 9))) (qh 1))
 (qw (zw (qp p0 (qe (ySl ab9 (qc 0) (cL (jr 1)) ai) (aD (qc 1) (jr 96)))) (cO 2 (jd (qh 2) (jd (qh 3) ae))))
 (qw (v0 (uD (yB (qp p1 (aD (qc 2) (qc 3))))) (jc (yC (.bl false))) jw)
 (qw (zw (qp p2 (qe (qc 3) (qe (zj w6 (zj sM (qc 1) (jr 69621)) (jr 2147483647)) z9))) (qh 4))
 (qw (zw (zj cH (qp p3 (vk (qc 4))) (jr 2)) (qh 5))
 (qw (zw (ow 1 (gK (vk (cD 2))) (qh 7) nV (yIf (yB (zj (tM false) (qc 7) (qc 5))) (zj cH (qc 2) (qc 7)) (yC .non))) (qh 6))
 (jc (qp p1 (aD (qc 6) (qc 4))))))))))
def sk:Option Kn->Da
 |none=>.s .non
 |some (.lf t n)=>.tup [.s (.str (kL t)),.s (.str n)]
 |some (.nd e i j)=>.tup [.s (.str (kN e)),.s (.int ((i:Nat):Int)),.s (.int ((j:Nat):Int))]
theorem adk :∀k:Option Kn,jf L 1 (mC k) (sk k)
 |none=>.inl ⟨rfl,rfl⟩
 |some (.lf t n)=>bB (.cons (EL _) (.cons (EL _) .nil))
 |some (.nd e i j)=>bB (.cons (EL _) (.cons (EO _) (.cons (EO _) .nil)))
theorem oU{L:ql}:∀wd:List (Option Kn),Paired (jf L 1) (kz wd) (wd.map sk)
 |[]=>.nil
 |k::r=>.cons (adk k) (oU r)
theorem yf:∀wd:List (Option Kn),Da.eqs (wd.map sk) (wd.map sk)=true
 |[]=>rfl
 |k::r=>by
  have:Da.eq (sk k) (sk k)=true:=by cases k with|none=>rfl|some k=>cases k<;>simp[sk,Da.eq,Da.eqs,fi]
  rw[AO,Da.eqs,this,yf r];rfl
theorem ac8{A:Ru}{E:List Nat}(T:dm ks A E)(pc:ct.Perm (jt A))(pF:F.Perm E)(wF:F.Pairwise fun a b:Nat=>a<b):F=w9 (wv ks (qk A)) (ww (wv ks (qk A)) ct) (wv ks (qk A)).length:=by
 have r2:(w9 (wv ks (qk A)) (ww (wv ks (qk A)) ct) (wv ks (qk A)).length).Pairwise fun a b:Nat=>a<b:=by unfold w9;exact List.Pairwise.filter _ List.pairwise_lt_range
 refine List.Perm.eq_of_pairwise (le:=fun a b:Nat=>a<b) (fun a b _ _ h1 h2=>absurd h1 (Nat.lt_asymm h2)) wF r2 ?_;refine(AR (pF.nodup_iff.mpr T.sr.nod) (by unfold w9;exact BU.filter _)).mpr fun x=>?_;rw[pF.mem_iff,T.ends x];unfold w9 iE ff ww;rw[AX,Bc,v4];constructor
 ·rintro⟨a,b,c⟩;have hl:=T.sr.lt x a;have c2:x∉kh ct:=fun z=>c ((mH pc).mem_iff.mp z);refine⟨hl,?_⟩;rw[aZ a (Aj hl),Az (fun z=>(Ak.mp z).elim b c2)];rfl
 ·rintro⟨a,b⟩;rw[kA a] at b;by_cases c:x∈qk A
  ·refine⟨c,fun z=>?_,fun z=>?_⟩
   ·rw[AG (Av _ z),Bool.not_true,CU] at b;cases b
   ·rw[AG (Af _ ((mH pc).mem_iff.mpr z)),Bool.not_true,CU] at b;cases b
  ·rw[Ay c] at b;cases b
def lC:ja:=fun ys L Q=>∃a,∃ks:List Kn,∃A:Ru,∃E:List Nat,ys=[.ref a,qm A]/\L a=some (.lst (kz (wv ks (qk A))))/\dm ks A E/\Q (.bl true) L
theorem abk:∀ys L Q,lC ys L Q->jx (nX nI jU oQ i3 gZ) 4 ys L Q:=by rintro ys L Q ⟨a,ks,A,E,rfl,ha,T,q⟩;have tl:=T.small;have kl:=T.len;have rz:=kq A;have rp:=wc A;refine qd ha fun h hh=>?_;have s1:qi L (qf L h (.lst (kz (wv ks (qk A))))):=By hh;have gh:qf L h (.lst (kz (wv ks (qk A)))) h=some (.lst (kz (wv ks (qk A)))):=q9;generalize qf L h (.lst (kz (wv ks (qk A))))=L1 at s1 gh ⊢;refine⟨h,ks,A,E,rfl,gh,T,?_⟩;refine⟨h,ks,A,E,rfl,gh,T,fun D F hD pF wF=>?_⟩;have s2:=s1.trans (By (o:=.lst (nY F)) hD);have gD:qf L1 D (.lst (nY F)) D=some (.lst (nY F)):=q9;have gh:=(qa (o:=.lst (nY F)) (ke gh hD)).trans gh;generalize qf L1 D (.lst (nY F))=L2 at s2 gD gh ⊢;refine⟨D,F,rfl,gD,?_⟩;refine⟨A,rfl,tl,fun la ca ta lk ct kvs L3 s3 _ _ _ _ g2 _ _ pc _=>?_⟩;have cl:=pc.length_eq;refine⟨a,ca,_,ct,rfl,s3 _ _ (s2 _ _ ha),g2,by rw[v4];lia,by lia,fun p hp=>?_⟩;rw[<-ac8 T pc pF wF];have s4:=(s2.trans s3).trans (By (o:=.lst (nY F)) hp);refine aU (n:=0) (m:=0) (by decide) (By hp _ _ (s3 _ _ gD)) q9 (by rw[fY];exact gb _) (by rw[fY];exact gb _) ?_;rw[zC];refine aU (n:=1) (m:=1) (by decide) (By hp _ _ (s3 _ _ gh)) (s4 _ _ ha) (oU _) (oU _) ?_;show eJ Q (.bl (nb false (Da.eqs _ _))) _;rw[yf];exact bK s4 q
theorem yz(ns:List Int)(lo hi:Option Int):∃ms:List Int,ld (ns.map Y.int) lo hi=ms.map Y.int/\ms.length≤ns.length:=by unfold ld;refine⟨(ns.drop (HT.sIx (ns.map Y.int).length 0 lo)).take (HT.sIx (ns.map Y.int).length (ns.map Y.int).length hi - HT.sIx (ns.map Y.int).length 0 lo),by rw[List.map_take,List.map_drop],?_⟩;rw[AN,Br];lia
theorem aa8 :∀ys L Q,oh Pt lamQ ys L Q->jx (ad0 (jX Pt) lC gB i3) 7 ys L Q:=by
 rintro ys L Q ⟨ns,rfl,h63,hL,q⟩;have hP:L Pt=some (.tb lamQ):=by rw[hL];exact q9
 clear hL;have big:=bg_;intro p0 hp0;refine qd q9 ⟨rfl,rfl,small (by rw[Ae];show ns.length+1≤1000;lia),fun p hp=>?_⟩;obtain⟨c,ec⟩:∃c:Int,fv (ns.map Y.int++[Y.int 0]) 0=some (Y.int c):=by cases ns with|nil=>exact⟨0,rfl⟩|cons a r=>exact⟨a,vh (j:=0) rfl⟩
 refine qd q9 (qo ec ⟨⟨by decide,by decide,by decide⟩,(by decide:(0:Int)<10 ^ (9:Int).toNat),?_⟩);show qh 1 (Y.int (c % (10:Int) ^ (9:Int).toNat)) _ _ _;have hP1:=((By (o:=.lst [Y.int 0]) hp0).trans (By (o:=.lst (ns.map Y.int++[Y.int 0])) hp)) _ _ hP;generalize c % (10:Int) ^ (9:Int).toNat=s;generalize qf (qf _ p0 _) p _=L1 at hP1 ⊢;clear hp hp0 ec hP;obtain⟨ms,ems,hms⟩:=yz ns (some 1) none;intro pm hpm;rw[ems];refine⟨pm,ms,s,96,rfl,q9,by lia,by decide,By hpm _ _ hP1,fun w ks R E hw T tp=>?_⟩;have eall:wv ks (qk R)=ks.map some:=aex fun p hp=>tp.mem_iff.mpr (Bc.mpr hp);have gw:qf (qf L1 pm (.lst (ms.map Y.int))) w (.lst (zu ks)) w=some (.lst (zu ks)):=q9;generalize qf (qf L1 pm (.lst (ms.map Y.int))) w (.lst (zu ks))=L2 at gw ⊢;clear hw hpm;refine⟨w,ks,R,E,rfl,by rw[eall,vv];exact gw,T,?_⟩;refine⟨.inr ⟨by decide,by decide⟩,(show(0:Int)<2147483647 by decide),R,_,rfl,T.small,fun B hB=>?_⟩;obtain⟨EB,TB⟩:=T.inner hB;refine⟨B,rfl,TB.small,fun la ca ta lk ct kvs L3 s3 _ _ _ _ _ g3 _ _ hv=>?_⟩;have gw3:=s3 _ _ gw;have kl:=T.len;have lk':(zu ks).length=ks.length:=Ae ..;refine qd gw3 ⟨⟨Bf _,by rw[lk'];lia⟩,?_⟩;rw[lk',BD];refine oB (fun i zs=>zs=kz ((wv ks (qk B)).take i)) (big _ (by lia)) rfl ?_ ?_
 ·rintro i zs hi rfl;have e1:(wv ks (qk B)).take (i+1)=(wv ks (qk B)).take i++[if i∈qk B then ks[i]? else none]:=by rw[Bh,kA hi];rfl
  refine jl g3 ?_;rw[show(Sum.inl (0+(i:Int)):zq)=.inl (i:Int) by rw[CA],hv];by_cases c:i∈qk B
  ·refine ak (AG c) (qd gw3 (qo (v:=jB ks[i]) (by rw[CA];exact vi (Aj hi)) ⟨_,DX _,rfl,?_⟩));rw[e1,AA c,Aj hi,<-qW];rfl
  ·refine al (Az c) ⟨_,DX _,rfl,?_⟩;rw[e1,Ay c,<-qW];rfl
 rintro zs rfl p7 h7;have:(wv ks (qk B)).take ks.length=wv ks (qk B):=AZ (by rw[v4];exact Al _);rw[this];exact⟨p7,ks,B,EB,rfl,q9,TB,js (q _)⟩
end L3
end
set_option maxRecDepth 100000
set_option maxHeartbeats 8000000
namespace K21
open PySem L2 L3 Words
abbrev ng:Str:="_law_knots"
abbrev nh:Str:="_law_rule"
abbrev ni:Str:="_law_word_here"
abbrev nj:Str:="_law_seed"
abbrev nl:Str:="_law_one"
abbrev nq:Str:="_law_p"
abbrev nr:Str:="_law_two"
abbrev nt:Str:="_law_forest"
abbrev nu:Str:="_law_script"
abbrev nv:Str:="_law_gathered"
abbrev nw:Str:="_law_at"
abbrev ny:Str:="_law_knot"
abbrev nE:Str:="_law_renamed"
def top(i:Nat):Stmt:=PySem.Challenge.pw_oncewise_k21_ends.main.body.getD i (.Pass ⟨0,0,0,0⟩)
theorem aou:∀{us:List Value},us.length=1->∃a0,us=[a0]
 |[a0],_=>⟨a0,rfl⟩
theorem an1:∀{us:List Value},us.length=2->∃a0 a1,us=[a0,a1]
 |[a0,a1],_=>⟨a0,a1,rfl⟩
theorem anm:∀{us:List Value},us.length=3->∃a0 a1 a2,us=[a0,a1,a2]
 |[a0,a1,a2],_=>⟨a0,a1,a2,rfl⟩
theorem ama:∀{us:List Value},us.length=4->∃a0 a1 a2 a3,us=[a0,a1,a2,a3]
 |[a0,a1,a2,a3],_=>⟨a0,a1,a2,a3,rfl⟩
abbrev mo:Stmt:=top 6
abbrev qK:Stmt:=top 7
abbrev m7:Stmt:=top 9
abbrev fU:Stmt:=top 10
abbrev cW:Stmt:=top 11
abbrev kG:Stmt:=top 12
abbrev jY:Stmt:=top 13
abbrev gi:Stmt:=top 14
abbrev iD:Stmt:=top 15
abbrev iG:Stmt:=top 16
abbrev mN:Stmt:=top 17
abbrev fG:Stmt:=top 18
abbrev pQ:Stmt:=top 19
abbrev hJ:Stmt:=top 22
abbrev mP:Stmt:=top 23
abbrev jM:Stmt:=top 24
abbrev mO:Stmt:=top 25
abbrev jD:Stmt:=top 26
abbrev rh:Stmt:=top 27
abbrev m5:Stmt:=top 28
abbrev aX:Stmt:=top 29
abbrev abw:Stmt:=top 30
abbrev cx:Stmt:=top 31
abbrev iC:Stmt:=top 32
abbrev jW:Stmt:=top 34
abbrev iB:Stmt:=top 35
abbrev iF:Stmt:=top 36
abbrev gf:Stmt:=top 37
abbrev dy:Stmt:=top 38
abbrev dz:Stmt:=top 39
abbrev hX:Stmt:=top 40
abbrev hZ:Stmt:=top 41
abbrev jF:Stmt:=top 42
abbrev s__law_order:Stmt:=top 43
abbrev fI:Stmt:=top 44
abbrev dC:Stmt:=top 45
abbrev iJ:Stmt:=top 46
abbrev gj:Stmt:=top 47
abbrev cN:Stmt:=top 48
abbrev iA:Stmt:=top 49
abbrev dk:Stmt:=top 50
abbrev du:Stmt:=top 51
abbrev f9:Stmt:=top 52
abbrev rf:Stmt:=top 53
structure V_ where
 (P:Program) (w:World) (K:Ah) (mg:Str->Option Value) (base:Heap) (Pt:Addr)
structure B_(V:V_):Prop where
 hp:∃h:Heap,V.K.In h/\h.Ns mainGlobals V.mg
 bh:V.mg "enumerate" = none
 ba:V.mg "len" = none
 bq:V.mg "set" = none
 bg:V.mg "all" = none
 be:V.mg "range" = none
 bu:V.mg "any" = none
 bb:V.mg "list" = none
 bv:V.mg "zip" = none
 bj:V.mg "sorted" = none
 bi:V.mg "max" = none
 br:V.mg "min" = none
 bf:V.mg "isinstance" = none
 bn:V.mg "int" = none
 bp:V.mg "tuple" = none
 bw:V.mg "bool" = none
 D0:qr V.K "is_leaf" mo
 D1:qr V.K "turned" qK
 D2:qr V.K "word_at" m7
 D3:qr V.K "holds_leaf" fU
 D4:qr V.K "places_there" cW
 D5:qr V.K "parts_of" kG
 D6:qr V.K "parts_in" jY
 D7:qr V.K "each_once" gi
 D8:qr V.K "parts_fit" iD
 D9:qr V.K "are_knots" iG
 D10:qr V.K "is_link" mN
 D11:qr V.K "can_be_cut" fG
 D12:qr V.K "is_cut" pQ
 D13:qr V.K "places_of" hJ
 D14:qr V.K "arms_of" mP
 D15:qr V.K "rules_in" jM
 D16:qr V.K "told_by" mO
 D17:qr V.K "taken_by" jD
 D18:qr V.K "demand" rh
 D19:qr V.K "ends_by" m5
 D20:qr V.K "demand_told_once" aX
 D21:qr V.K "fits" abw
 D22:qr V.K "checked_tree" cx
 D23:qr V.K "tree_ends" iC
 D24:qr V.K "_law_mix" jW
 D25:qr V.K "_law_name" iB
 D26:qr V.K "_law_word" iF
 D27:qr V.K "_law_flip" gf
 D28:qr V.K "_law_weight" dy
 D29:qr V.K "_law_mirror" dz
 D30:qr V.K "_law_join" hX
 D31:qr V.K "_law_fold" hZ
 D32:qr V.K "_law_cut" jF
 D33:DefInT V.K "_law_order" s__law_order V.Pt
 D34:qr V.K "_law_moved" fI
 D35:qr V.K nE dC
 D36:qr V.K "_law_tree" iJ
 D37:qr V.K "_law_arms" gj
 D38:qr V.K nv cN
 D39:qr V.K "_law_free" iA
 D40:qr V.K "_law_wholes" dk
 D41:qr V.K "_law_within" du
 D42:qr V.K "_law_asked" f9
 k_LEAF_KINDS:ais ⟨V.K,V.P,V.w⟩ V.mg "LEAF_KINDS" dg
 k_TURNED_KINDS:ais ⟨V.K,V.P,V.w⟩ V.mg "TURNED_KINDS" cM
 i_PLACE_COUNTS:akv ⟨V.K,V.P,V.w⟩ V.mg "PLACE_COUNTS" aA
abbrev Q_(V:V_)(k:Nat)(x:Str)(ps:List Str)(sp:ja):Prop:=aix V.P V.w V.K V.mg V.base k x ps sp
abbrev c0(_:V_):Prop:=True
local macro_rules | `(tactic| walk_at "s")=>`(tactic| exact⟨rfl,rfl,rfl,by decide +kernel,rfl,by decide +kernel,by decide +kernel⟩)
local macro_rules | `(tactic| walk_at "l")=>`(tactic| first | exact fun _ _ _ ⟨_,e,_⟩=>by rw[e];rfl | exact fun _ _ _ ⟨_,_,e,_⟩=>by rw[e];rfl | exact fun _ _ _ ⟨_,_,_,e,_⟩=>by rw[e];rfl | exact fun _ _ _ ⟨_,_,_,_,e,_⟩=>by rw[e];rfl | exact fun _ _ _ ⟨_,_,_,_,_,e,_⟩=>by rw[e];rfl | exact fun _ _ _ ⟨_,_,_,_,_,_,e,_⟩=>by rw[e];rfl | exact fun _ _ _ ⟨_,_,_,_,_,_,_,e,_⟩=>by rw[e];rfl | exact fun _ _ _ ⟨_,_,_,_,_,_,_,_,_,e,_⟩=>by rw[e];rfl)
local macro_rules | `(tactic| walk_at "x")=>`(tactic| first | exact fun _ _ _ _ ⟨_,e,_⟩=>by rw[e];rfl | exact fun _ _ _ _ ⟨_,_,e,_⟩=>by rw[e];rfl | exact fun _ _ _ _ ⟨_,_,_,e,_⟩=>by rw[e];rfl | exact fun _ _ _ _ ⟨_,_,_,_,e,_⟩=>by rw[e];rfl | exact fun _ _ _ _ ⟨_,_,_,_,_,e,_⟩=>by rw[e];rfl | exact fun _ _ _ _ ⟨_,_,_,_,_,_,e,_⟩=>by rw[e];rfl | exact fun _ _ _ _ ⟨_,_,_,_,_,_,_,e,_⟩=>by rw[e];rfl | exact fun _ _ _ _ ⟨_,_,_,_,_,_,_,_,_,e,_⟩=>by rw[e];rfl)
local macro_rules | `(tactic| walk_at "b")=>`(tactic| (intro _ _ _ _ _ _ us hl;first | (obtain⟨_,e⟩:=aou hl;rw[e];rfl) | (obtain⟨_,_,e⟩:=an1 hl;rw[e];rfl) | (obtain⟨_,_,_,e⟩:=anm hl;rw[e];rfl) | (obtain⟨_,_,_,_,e⟩:=ama hl;rw[e];rfl)))
section
variable {f:Addr}{fd:FuncData}{x q:Str}{st:Stmt}{ps:List Str}(V:V_)(k:Nat)(N:List Str)
theorem W_{sp:ja}{t:kg}(F:Fun V.K x q st f fd)(vc:∀ys L Q,sp ys L Q->jx t N.length ys L Q)(h:∀(cdv:Value) (A:Around) (outer:List Env) (s:Shared) (H:Hp) (E:XK),wy k (A.deeper (PyProof.Rows.envOfC q (qx st) s.heap.objs.size f cdv))->N.Nodup->(A.deeper (PyProof.Rows.envOfC q (qx st) s.heap.objs.size f cdv)).units+128<cLine->sI (iL CX0 V.P V.w V.K V.mg V.base N q (qx st) f cdv A outer s H E).nox (jh st) t)(sc:aI N ps (qx st):=by walk_at "s")(len:∀ys L Q,sp ys L Q->ys.length=ps.length:=by walk_at "l"):Fn3 V.P V.w V.K V.mg V.base (k+1) f fd ps sp:=
 ok3 F sc len fun cdv A outer s H E hr=>⟨t,h cdv A outer s H E hr sc.nd (huK hr),vc⟩
theorem M_{sp:ja}{t:kg}(hp:∃h:Heap,V.K.In h/\h.Ns mainGlobals V.mg)(D:qr V.K x st)(vc:∀ys L Q,sp ys L Q->jx t N.length ys L Q)(h:∀f,∀(cdv:Value) (A:Around) (outer:List Env) (s:Shared) (H:Hp) (E:XK),wy k (A.deeper (PyProof.Rows.envOfC x (qx st) s.heap.objs.size f cdv))->N.Nodup->(A.deeper (PyProof.Rows.envOfC x (qx st) s.heap.objs.size f cdv)).units+128<cLine->sI (iL CX0 V.P V.w V.K V.mg V.base N x (qx st) f cdv A outer s H E).nox (jh st) t)(sc:aI N ps (qx st):=by walk_at "s")(len:∀ys L Q,sp ys L Q->ys.length=ps.length:=by walk_at "l")(hb:∀(kV doc pm:Value) (an:Option Addr) (cdv ct:Value) (us:List Value),us.length=ps.length->bindArgs (PySem.W.fnOf x x (xq st) (jh st) (qx st) .none kV doc pm an cdv ct) ⟨us,[]⟩=pure (ps.zip us):=by walk_at "b"):Q_ V (k+1) x ps sp:=by obtain⟨_,X,G⟩:=hp;obtain⟨f,fd,F,b,m⟩:=D.use X G hb;exact yO.of (W_ V k N F vc (h f) sc len) b F.kp m
theorem R_{sp:Nat->ja}{t:Nat->kg}(hp:∃h:Heap,V.K.In h/\h.Ns mainGlobals V.mg)(D:qr V.K x st)(no:∀ys L Q,¬sp 0 ys L Q)(vc:∀n ys L Q,sp (n+1) ys L Q->jx (t n) N.length ys L Q)(h:∀n f,Q_ V (n+k) x ps (sp n)->∀(cdv:Value) (A:Around) (outer:List Env) (s:Shared) (H:Hp) (E:XK),wy (n+k) (A.deeper (PyProof.Rows.envOfC x (qx st) s.heap.objs.size f cdv))->N.Nodup->(A.deeper (PyProof.Rows.envOfC x (qx st) s.heap.objs.size f cdv)).units+128<cLine->sI (iL CX0 V.P V.w V.K V.mg V.base N x (qx st) f cdv A outer s H E).nox (jh st) (t n))(n:Nat)(sc:aI N ps (qx st):=by walk_at "s")(len:∀n ys L Q,sp n ys L Q->ys.length=ps.length:=by walk_at "x")(hb:∀(kV doc pm:Value) (an:Option Addr) (cdv ct:Value) (us:List Value),us.length=ps.length->bindArgs (PySem.W.fnOf x x (xq st) (jh st) (qx st) .none kV doc pm an cdv ct) ⟨us,[]⟩=pure (ps.zip us):=by walk_at "b"):Q_ V (n+k) x ps (sp n):=by
 obtain⟨_,X,G⟩:=hp;obtain⟨f,fd,F,b,m⟩:=D.use X G hb
 induction n with|zero=>exact yO.of (Fn3.never no) b F.kp m|succ n ih=>rw[Nat.add_right_comm];exact yO.of (W_ V (n+k) N F (vc n) (h n f ih) sc (len _)) b F.kp m
theorem T_{sp:ja}{t:kg}(hp:∃h:Heap,V.K.In h/\h.Ns mainGlobals V.mg)(D:DefInT V.K x st V.Pt)(vc:∀ys L Q,sp ys L Q->jx t N.length ys L Q)(h:∀f,∀(cdv:Value) (A:Around) (outer:List Env) (s:Shared) (H:Hp) (E:XK),wX V.K cdv V.Pt->wy k (A.deeper (PyProof.Rows.envOfC x (qx st) s.heap.objs.size f cdv))->N.Nodup->(A.deeper (PyProof.Rows.envOfC x (qx st) s.heap.objs.size f cdv)).units+128<cLine->sI (iL CX0 V.P V.w V.K V.mg V.base N x (qx st) f cdv A outer s H E).nox (jh st) t)(sc:aI N ps (qx st):=by walk_at "s")(len:∀ys L Q,sp ys L Q->ys.length=ps.length:=by walk_at "l")(hb:∀(kV doc pm:Value) (an:Option Addr) (cdv ct:Value) (us:List Value),us.length=ps.length->bindArgs (PySem.W.fnOf x x (xq st) (jh st) (qx st) .none kV doc pm an cdv ct) ⟨us,[]⟩=pure (ps.zip us):=by walk_at "b"):Q_ V (k+1) x ps sp:=by obtain⟨_,X,G⟩:=hp;obtain⟨f,fd,F,b,m⟩:=D.use X G hb;exact yO.of (anp F sc len fun cdv A outer s H E C hr=>⟨t,h f cdv A outer s H E C hr sc.nd (huK hr),vc⟩) b F.kp m
end
theorem I_{X:Cx}{a b:Expr}{ta tb:x5}{pos:Pos}(ha:QE X a ta)(hb:QE X b tb)(hp:i6 b:=by exact fun _ _=>rfl):QE X (.Subscript a b pos) (zj cH ta tb):=ak0 (ak8 X.K X.prog X.w) ha hb hp
theorem jq{X:Cx}{e:Expr}{t:x5}(h:QE X e t)(s:starEach [e] X.env=[(false,eval e X.env)]:=by rfl):QA X [e] (qe t z9):=vg h k8 s
theorem vn{X:Cx}{e f:Expr}{t u:x5}(h:QE X e t)(g:QE X f u)(s:starEach [e,f] X.env=[(false,eval e X.env),(false,eval f X.env)]:=by rfl)(r:starEach [f] X.env=[(false,eval f X.env)]:=by rfl):QA X [e,f] (qe t (qe u z9)):=vg h (jq g r) (by show _=_;rw[s,r])
theorem dU{X:Cx}{e f d:Expr}{t u v:x5}(h:QE X e t)(g:QE X f u)(i:QE X d v)(s:starEach [e,f,d] X.env=[(false,eval e X.env),(false,eval f X.env),(false,eval d X.env)]:=by rfl)(r:starEach [f,d] X.env=[(false,eval f X.env),(false,eval d X.env)]:=by rfl)(q:starEach [d] X.env=[(false,eval d X.env)]:=by rfl):QA X [e,f,d] (qe t (qe u (qe v z9))):=vg h (vn g i r q) (by show _=_;rw[s,r])
theorem E_{X:Cx}{a b:Expr}{ta tb:x5}{pos:Pos}(hu:X.A.units+128<cLine)(ha:QE X a ta)(hb:QE X b tb):QT X (.Compare a [.Eq] [b] pos) (yB (zj (pN false) ta tb)):=x9 (gv X.K X.prog X.w hu) ha hb (xz _)
theorem N_{X:Cx}{a b:Expr}{ta tb:x5}{pos:Pos}(hu:X.A.units+128<cLine)(ha:QE X a ta)(hb:QE X b tb):QT X (.Compare a [.NotEq] [b] pos) (yB (zj (pN true) ta tb)):=x9 (ajx X.K X.prog X.w hu) ha hb (xz _)
theorem S_{X:Cx}{x:Str}{e:Expr}{te:x5}{pos pos':Pos}(i:Nat)(hN:X.N.Nodup)(h:QE X e te)(hix:X.N[i]?=some x:=by rfl)(hx:ym X.env.scope x:=by exact Or.inl rfl)(hsw:swapsWith e (some (.Name x pos')) pos.line X.env=pure false:=by rfl)(hfn:X.fn x=true\/X.env.scope.names.lookup x=some .local:=by first | exact .inl rfl | exact .inr rfl | assumption):QS X (.Assign [.Name x pos'] e pos) (zw te (qh i)):=ap (i:=i) hN hix hx h hsw hfn
theorem G_{X:Cx}{x:Str}{pos:Pos}(i:Nat)(hN:X.N.Nodup)(hix:X.N[i]?=some x:=by rfl)(hx:ym X.env.scope x:=by exact Or.inl rfl)(hfn:X.fn x=true\/X.env.scope.names.lookup x=some .local:=by first | exact .inl rfl | exact .inr rfl | assumption):QG X (.Name x pos) (qh i):=dS (i:=i) hN hix hx hfn
theorem C_{X:Cx}{e:Expr}{es:List Expr}{tr:eU}{pos p:Pos}{j k:Nat}{x:Str}{ps:List Str}{sp:ja}(c:aix X.prog X.w X.K X.mg X.base j x ps sp)(hr:wy k X.A)(ha:QA X (e::es) tr)(hj:j≤k:=by first | decide | exact Al _ | exact AU (by decide) (CI _ _))(hg:Gl X x:=by rfl)(hdb:Ed x:=by decide)(he:Eb e es X:=by rfl)(hpl:Ec pos es X:=by rfl):QE X (.Call (.Name x p) (e::es) [] pos) (qp sp tr):=am9 (yO.mono c hj) hr hg ha hdb he hpl
theorem J_{X:Cx}{x:Str}{n:Int}{k:Nat}{p q pos:Pos}(i:Nat)(hN:X.N[i]?=some x:=by rfl)(hv:Vis X.env.scope x:=by first | exact Or.inl rfl | exact Or.inr (Or.inl rfl) | exact Or.inr (Or.inr rfl))(hd:Ed x:=by decide)(hc:Ee x:=by decide):QE X (.Subscript (.Name x p) (.Constant (.int n) k q) pos) (zj cH (qc i) (yC (.int n))):=I_ (qv i hN hv hd hc) qj (fun _ _=>rfl)
theorem L_{X:Cx}{e:Expr}{t:x5}{p pos:Pos}(hm:X.mg "len" = none)(h:QE X e t)(s:starEach [e] X.env=[(false,eval e X.env)]:=by rfl)(hg:Gl X "len" := by rfl):QE X (.Call (.Name "len" p) [e] [] pos) (iO l9 (qe t z9)):=k7 (agt X.K X.prog X.w) hg hm tU (jq h s) (hs:=s)
theorem sS{l:List Str}(h:decide l.Nodup=true:=by kernel_rfl):l.Nodup:=of_decide_eq_true h
abbrev c1(V:V_):Prop:=c0 V/\Q_ V 1 "is_leaf" ["word"] (we)
theorem d1(V:V_)(B:B_ V)(c:c0 V):c1 V:=⟨c,M_ V 0 ["word"] B.hp B.D0 sv fun _ _ _ _ _ _ _ hr hN hu=>(qg (qz (km (zF _ _ _) (J_ 0) (ab5 B.k_LEAF_KINDS rfl) (by with_unfolding_all rfl))))⟩
abbrev c2(V:V_):Prop:=c1 V/\Q_ V 122 "turned" ["word"] (aP 120)
theorem d2(V:V_)(B:B_ V)(c:c1 V):c2 V:=⟨c,R_ V 2 ["word", "kind"] B.hp B.D1 wN vO (fun _ _ c_turned _ _ _ _ _ _ hr hN hu=>(qb (S_ 1 hN (I_ (ab5 B.k_TURNED_KINDS rfl) (J_ 0))) (qb (jn (aB (C_ c.2 hr (jq (qv 0)))) (qg (qz (zr (vn (qv 1) (J_ 0))))) zm) (qg (qz (zr (dU (qv 1) (C_ c_turned hr (jq (J_ 0))) (C_ c_turned hr (jq (J_ 0)))))))))) 120⟩
abbrev c3(V:V_):Prop:=c2 V/\Q_ V 122 "word_at" ["knots", "place"] (xh 120)
theorem d3(V:V_)(B:B_ V)(c:c2 V):c3 V:=⟨c,R_ V 2 ["knots", "place", "knot"] B.hp B.D2 lW tz (fun _ _ c_word_at _ _ _ _ _ _ hr hN hu=>(qb (S_ 2 hN (I_ (qv 0) (qv 1))) (qb (jn (aB (C_ c.1.2 hr (jq (qv 2)))) (qg (qz (qv 2))) zm) (qg (qz (zr (dU (J_ 2) (C_ c_word_at hr (vn (qv 0) (J_ 2))) (C_ c_word_at hr (vn (qv 0) (J_ 2)))))))))) 120⟩
abbrev c4(V:V_):Prop:=c3 V/\Q_ V 2 "holds_leaf" ["knot"] (kY)
theorem d4(V:V_)(B:B_ V)(c:c3 V):c4 V:=⟨c,M_ V 1 ["knot"] B.hp B.D3 aax fun _ _ _ _ _ _ _ hr hN hu=>(qg (qz (am (iV (qv 0)) (cY (C_ c.1.1.2 hr (jq (qv 0)))))))⟩
abbrev c5(V:V_):Prop:=c4 V/\Q_ V 1 "places_there" ["knots"] (lE)
theorem d5(V:V_)(B:B_ V)(c:c4 V):c5 V:=⟨c,M_ V 0 ["knots"] B.hp B.D4 y8 fun _ _ _ _ _ _ _ hr hN hu=>(qg (qz (cT ["place", "knot" ] (EI (by rfl)) rfl (nL rfl B.bh (qv 0)) (aep rfl sS (fun _ _ _ _=>rfl) (fun _ _ _ _=>rfl)) (fun _ _ _ _=>eS (oG (qv 2))) (fun _ _ _ _=>(qv 1)))))⟩
abbrev c6(V:V_):Prop:=c5 V/\Q_ V 2 "parts_of" ["knot"] (cr)
theorem d6(V:V_)(B:B_ V)(c:c5 V):c6 V:=⟨c,M_ V 1 ["knot"] B.hp B.D5 abz fun _ _ _ _ _ _ _ hr hN hu=>(qb (jn (dw (aaw (oC (qv 0)) (tI (aB (C_ c.1.1.1.1.2 hr (jq (qv 0))))))) (qg (qz (zh k8))) zm) (qg (qz (zh (vn (J_ 0) (J_ 0))))))⟩
abbrev c7(V:V_):Prop:=c6 V/\Q_ V 3 "parts_in" ["knots"] (iU)
theorem d7(V:V_)(B:B_ V)(c:c6 V):c7 V:=⟨c,M_ V 2 ["knots", "parts", "knot"] B.hp B.D6 ach fun _ _ _ _ _ _ _ hr hN hu=>(qb (S_ 1 hN (zh k8)) (qb (wz PassesOwn.never rfl (xp (qv 0)) (G_ 2 hN) (qg (zb (bH (qv 1) (jq (C_ c.2 hr (jq (qv 2)))))))) (qg (qz (qv 1)))))⟩
abbrev c8(V:V_):Prop:=c7 V/\Q_ V 1 "each_once" ["places"] (i9)
theorem d8(V:V_)(B:B_ V)(c:c7 V):c8 V:=⟨c,M_ V 0 ["places"] B.hp B.D7 af5 fun _ _ _ _ _ _ _ hr hN hu=>(qg (qz (km (gv _ _ _ hu) (yF rfl rfl B.ba rfl B.bq (qv 0)) (L_ B.ba (qv 0)) (xz _))))⟩
abbrev c9(V:V_):Prop:=c8 V/\Q_ V 3 "parts_fit" ["knots", "place"] (nJ)
theorem d9(V:V_)(B:B_ V)(c:c8 V):c9 V:=⟨c,M_ V 2 ["knots", "place", "parts", "fit"] B.hp B.D8 af4 fun _ _ _ _ _ _ _ hr hN hu=>(qb (S_ 2 hN (C_ c.1.1.2 hr (jq (I_ (qv 0) (qv 1))))) (qb (S_ 3 hN (k7 uO rfl B.bg o4 (jq (cT ["part"] (EI (by rfl)) rfl (xp (qv 2)) (xb sS (fun _ _ _ _=>Or.inl rfl) (fun _ _ _ _=>rfl)) (fun _ _ _ _=>dE) (fun _ _ _ _=>(am (pH qj (rg ah7 (qv 4) (rU rG (qv 1)))) (cY (iV (I_ (qv 0) (qv 4)))))))))) (qg (qz (am (qv 3) (cY (C_ c.2 hr (jq (qv 2)))))))))⟩
abbrev fA(V:V_):Prop:=c9 V/\Q_ V 4 "are_knots" ["knots"] (gF)
theorem d10(V:V_)(B:B_ V)(c:c9 V):fA V:=⟨c,M_ V 3 ["knots", "fit"] B.hp B.D9 wA fun _ _ _ _ _ _ _ hr hN hu=>(qb (S_ 1 hN (k7 uO rfl B.bg o4 (jq (cT ["place"] (EI (by rfl)) rfl (bN rfl B.be (jq (L_ B.ba (qv 0)))) (xb sS (fun _ _ _ _=>Or.inl rfl) (fun _ _ _ _=>rfl)) (fun _ _ _ _=>dE) (fun _ _ _ _=>(C_ c.2 hr (vn (qv 0) (qv 2)))))))) (qg (qz (am (qv 1) (cY (k7 akb rfl B.bu ahy (jq (cT ["knot"] (EI (by rfl)) rfl (xp (qv 0)) (xb sS (fun _ _ _ _=>Or.inl rfl) (fun _ _ _ _=>rfl)) (fun _ _ _ _=>dE) (fun _ _ _ _=>(iV (qv 2)))))))))))⟩
abbrev c11(V:V_):Prop:=fA V/\Q_ V 123 "is_link" ["knots", "p", "q"] (fz)
theorem d11(V:V_)(B:B_ V)(c:fA V):c11 V:=⟨c,M_ V 122 ["knots", "p", "q"] B.hp B.D10 uv fun _ _ _ _ _ _ _ hr hN hu=>(qb (jn (gJ (abe qj (mh ah7 (qv 1) (mh rG (qv 2) (wM rG (L_ B.ba (qv 0))))))) (qg (qz wu)) zm) (qg (qz (am (C_ c.1.1.1.1.1.1.2 hr (jq (I_ (qv 0) (qv 1)))) (cY (km (gv _ _ _ hu) (I_ (qv 0) (qv 2)) (C_ c.1.1.1.1.1.1.1.1.2 hr (jq (I_ (qv 0) (qv 1)))) (xz _)))))))⟩
abbrev c12(V:V_):Prop:=c11 V/\Q_ V 4 "can_be_cut" ["knots", "place"] (tO)
theorem d12(V:V_)(B:B_ V)(c:c11 V):c12 V:=⟨c,M_ V 3 ["knots", "place"] B.hp B.D11 ahw fun _ _ _ _ _ _ _ hr hN hu=>(qg (qz (am (pH qj (rg ah7 (qv 1) (rU rG (L_ B.ba (qv 0))))) (am (iV (I_ (qv 0) (qv 1))) (cY (km (nO _ _ _) (qv 1) (C_ c.1.1.1.1.2 hr (jq (qv 0))) (by with_unfolding_all rfl)))))))⟩
abbrev c13(V:V_):Prop:=c12 V/\Q_ V 123 "is_cut" ["knots", "p", "q"] (iy)
theorem d13(V:V_)(B:B_ V)(c:c12 V):c13 V:=⟨c,M_ V 122 ["knots", "p", "q"] B.hp B.D12 ab3 fun _ _ _ _ _ _ _ hr hN hu=>(qb (jn (gJ (dw (eQ (aB (C_ c.2 hr (vn (qv 0) (qv 1)))) (bx (aB (C_ c.2 hr (vn (qv 0) (qv 2)))))))) (qg (qz wu)) zm) (qg (qz (km (gv _ _ _ hu) (C_ c.1.1.1.1.1.1.1.1.1.2 hr (vn (qv 0) (qv 2))) (C_ c.1.1.1.1.1.1.1.1.1.1.2 hr (jq (C_ c.1.1.1.1.1.1.1.1.1.2 hr (vn (qv 0) (qv 1))))) (xz _)))))⟩
abbrev c14(V:V_):Prop:=c13 V/\Q_ V 1 "places_of" ["rule"] (nW)
theorem d14(V:V_)(B:B_ V)(c:c13 V):c14 V:=⟨c,M_ V 0 ["rule"] B.hp B.D13 ael fun _ _ _ _ _ _ _ hr hN hu=>(qg (qz (cw fE rfl B.bb dR (jq (ky (qL _ _ _) (qv 0) (kw qj) (kw (qt xt qj (qB B.i_PLACE_COUNTS rfl (J_ 0) (fun _ _=>rfl)))))))))⟩
abbrev c15(V:V_):Prop:=c14 V/\Q_ V 1 "arms_of" ["rule"] (aQ)
theorem d15(V:V_)(B:B_ V)(c:c14 V):c15 V:=⟨c,M_ V 0 ["rule"] B.hp B.D14 wT fun _ _ _ _ _ _ _ hr hN hu=>(qg (qz (cw fE rfl B.bb dR (jq (ky (qL _ _ _) (qv 0) (kw (qt xt qj (qB B.i_PLACE_COUNTS rfl (J_ 0) (fun _ _=>rfl)))) bQ)))))⟩
abbrev c16(V:V_):Prop:=c15 V/\Q_ V 122 "rules_in" ["rule"] (aT 120)
theorem d16(V:V_)(B:B_ V)(c:c15 V):c16 V:=⟨c,R_ V 2 ["rule", "rules", "arm"] B.hp B.D15 aap uA (fun _ _ c_rules_in _ _ _ _ _ _ hr hN hu=>(qb (S_ 1 hN (zh (jq (qv 0)))) (qb (wz PassesOwn.never rfl (xp (C_ c.2 hr (jq (qv 0)))) (G_ 2 hN) (qg (zb (bH (qv 1) (jq (C_ c_rules_in hr (jq (qv 2)))))))) (qg (qz (qv 1)))))) 120⟩
abbrev c17(V:V_):Prop:=c16 V/\Q_ V 2 "told_by" ["rule"] (dQ)
theorem d17(V:V_)(B:B_ V)(c:c16 V):c17 V:=⟨c,M_ V 1 ["rule"] B.hp B.D16 wZ fun _ _ _ _ _ _ _ hr hN hu=>(qg (qz (dI (E_ hu (J_ 0) zn) (zh k8) (C_ c.1.1.2 hr (jq (qv 0))))))⟩
abbrev c18(V:V_):Prop:=c17 V/\Q_ V 3 "taken_by" ["knots", "rule"] (oK)
theorem d18(V:V_)(B:B_ V)(c:c17 V):c18 V:=⟨c,M_ V 2 ["knots", "rule", "parts"] B.hp B.D17 ae2 fun _ _ _ _ _ _ _ hr hN hu=>(qb (jn (E_ hu (J_ 1) zn) (qg (qz (zh k8))) zm) (qb (jn (E_ hu (J_ 1) zn) (qg (qz (zh (vn (zh (jq (J_ 1))) (zh (jq (J_ 1))))))) zm) (qb (S_ 2 hN (C_ c.1.1.1.1.1.1.1.1.1.1.1.2 hr (jq (I_ (qv 0) (J_ 1))))) (qb (jn (E_ hu (J_ 1) zn) (qg (qz (zh (jq (qv 2))))) zm) (qg (qz (cT ["part"] (EI (by rfl)) rfl (xp (qv 2)) (xb sS (fun _ _ _ _=>Or.inl rfl) (fun _ _ _ _=>rfl)) (fun _ _ _ _=>dE) (fun _ _ _ _=>(zh (jq (qv 3)))))))))))⟩
abbrev c19(V:V_):Prop:=c18 V/\Q_ V 1 "demand" ["holds", "words"] (aR)
theorem d19(V:V_)(B:B_ V)(c:c18 V):c19 V:=⟨c,M_ V 0 ["holds", "words"] B.hp B.D18 yD fun _ _ _ _ _ _ _ hr hN hu=>(qg (jn (gJ (aB (qv 0))) (qg abv) zm))⟩
abbrev c20(V:V_):Prop:=c19 V/\Q_ V 124 "ends_by" ["knots", "rule"] (aS 120)
theorem d20(V:V_)(B:B_ V)(c:c19 V):c20 V:=⟨c,R_ V 4 ["knots", "rule", "ends", "arm", "taken", "arm_ends"] B.hp B.D19 vW wR (fun _ _ c_ends_by _ _ _ _ _ _ hr hN hu=>(qb (S_ 2 hN (C_ c.1.1.2 hr (jq (qv 1)))) (qb (wz PassesOwn.never rfl (ahn rfl B.bv (vn (C_ c.1.1.1.1.2 hr (jq (qv 1))) (C_ c.1.2 hr (vn (qv 0) (qv 1))))) (dD rfl (j7 (G_ 3 hN) (j7 (dS (i:=4) hN rfl (Or.inr rfl)) aF))) (qb (ap (i:=5) hN rfl (Or.inr rfl) (C_ c_ends_by hr (vn (qv 0) (qv 3)))) (qb (zb (C_ c.2 hr (vn (k7 uO rfl B.bg o4 (jq (cT ["place"] (EI (by rfl)) rfl (xp (qv 4)) (xb sS (fun _ _ _ _=>Or.inl rfl) (fun _ _ _ _=>rfl)) (fun _ _ _ _=>dE) (fun _ _ _ _=>(km (zF _ _ _) (qv 6) (qv 5) (by with_unfolding_all rfl)))))) zn))) (qg (zb (bH (qv 2) (jq (cT ["place"] (EI (by rfl)) rfl (xp (qv 5)) (xb sS (fun _ _ _ _=>Or.inl rfl) (fun _ _ _ _=>rfl)) (fun _ _ _ _=>eS (x9 (nO _ _ _) (qv 6) (qv 4) (by with_unfolding_all rfl))) (fun _ _ _ _=>(qv 6)))))))))) (qg (qz (qv 2)))))) 120⟩
abbrev c21(V:V_):Prop:=c20 V/\Q_ V 3 "demand_told_once" ["knots", "rule"] (sV)
theorem d21(V:V_)(B:B_ V)(c:c20 V):c21 V:=⟨c,M_ V 2 ["knots", "rule", "there", "told", "due", "here", "place"] B.hp B.D20 aie fun _ _ _ _ _ _ _ hr hN hu=>(qb (S_ 2 hN (C_ c.1.1.1.1.1.1.1.1.1.1.1.1.1.1.1.2 hr (jq (qv 0)))) (qb (S_ 3 hN iS) (qb (S_ 4 hN (zh (jq (qv 1)))) (qb (fV PassesOwn.never (N_ hu (qv 4) (zh k8)) (qb (S_ 5 hN (yw (qv 4))) (qb (wz PassesOwn.never rfl (xp (C_ c.1.1.1.2 hr (jq (qv 5)))) (G_ 6 hN) (qb (zb (C_ c.1.2 hr (vn (am (km (zF _ _ _) (qv 6) (qv 2) (by with_unfolding_all rfl)) (cY (km (yY hu) (qv 6) (qv 3) (by with_unfolding_all rfl)))) zn))) (qg (aK hu (qv 3) (qv 6) wu)))) (qg (zb (bH (qv 4) (jq (C_ c.1.1.1.1.1.2 hr (jq (qv 5)))))))))) (qg (zb (C_ c.1.2 hr (vn (km (gv _ _ _ hu) (k7 aiw rfl B.ba tU (jq (qv 3))) (L_ B.ba (qv 2)) (xz _)) zn))))))))⟩
abbrev c22(V:V_):Prop:=c21 V/\Q_ V 124 "fits" ["knots", "rule"] (nS)
theorem d22(V:V_)(B:B_ V)(c:c21 V):c22 V:=⟨c,M_ V 123 ["knots", "rule"] B.hp B.D21 acs fun _ _ _ _ _ _ _ hr hN hu=>(qb (jn (E_ hu (J_ 1) zn) (qg (qz (C_ c.1.1.1.1.1.1.1.1.1.1.2 hr (dU (qv 0) (J_ 1) (J_ 1))))) zm) (qb (jn (E_ hu (J_ 1) zn) (qg (qz (C_ c.1.1.1.1.1.1.1.1.2 hr (dU (qv 0) (J_ 1) (J_ 1))))) zm) (qg (qz (km (gv _ _ _ hu) (I_ (I_ (qv 0) (J_ 1)) qj) (J_ 1) (xz _))))))⟩
abbrev c23(V:V_):Prop:=c22 V/\Q_ V 125 "checked_tree" ["tree"] (nI)
theorem d23(V:V_)(B:B_ V)(c:c22 V):c23 V:=⟨c,M_ V 124 ["tree", "knots", "rule"] B.hp B.D22 adn fun _ _ _ _ _ _ _ hr hN hu=>(qb (ap (i:=1) hN rfl (Or.inr rfl) (J_ 0)) (qb (S_ 2 hN (J_ 0)) (qb (zb (C_ c.1.1.1.2 hr (vn (C_ c.1.1.1.1.1.1.1.1.1.1.1.1.2 hr (jq (qv 1))) zn))) (qb (zb (C_ c.1.1.1.2 hr (vn (C_ c.1.1.1.1.1.1.1.1.1.1.1.1.1.1.2 hr (jq (C_ c.1.1.1.1.1.1.1.1.1.1.1.1.1.1.1.2 hr (jq (qv 1))))) zn))) (qb (zb (C_ c.1.2 hr (vn (qv 1) (qv 2)))) (qb (zb (C_ c.1.1.1.2 hr (vn (k7 uO rfl B.bg o4 (jq (cT ["inner"] (EI (by rfl)) rfl (xp (C_ c.1.1.1.1.1.1.2 hr (jq (qv 2)))) (xb sS (fun _ _ _ _=>Or.inl rfl) (fun _ _ _ _=>rfl)) (fun _ _ _ _=>dE) (fun _ _ _ _=>(C_ c.2 hr (vn (qv 1) (qv 3))))))) zn))) (qb (zb (C_ c.1.1.2 hr (vn (qv 1) (qv 2)))) (qg (qz wu)))))))))⟩
abbrev c24(V:V_):Prop:=c23 V/\Q_ V 125 "tree_ends" ["tree"] (jU)
theorem d24(V:V_)(B:B_ V)(c:c23 V):c24 V:=⟨c,M_ V 124 ["tree"] B.hp B.D23 y9 fun _ _ _ _ _ _ _ hr hN hu=>(qg (qz (k7 ad1 rfl B.bj um (jq (C_ c.1.1.1.2 hr (vn (J_ 0) (J_ 0)))))))⟩
abbrev c25(V:V_):Prop:=c24 V/\Q_ V 1 "_law_mix" ["_law_cell", "_law_k", "_law_factor"] (oq)
theorem d25(V:V_)(B:B_ V)(c:c24 V):c25 V:=⟨c,M_ V 0 ["_law_cell", "_law_k", "_law_factor"] B.hp B.D24 aj0 fun _ _ _ _ _ _ _ hr hN hu=>(qg (qz (qt wr (qt xo (qt lD (qt xt (qt xt (qt lD (qt xo (qv 0) qj) qj) (qt lD (qv 1) (qv 1))) qj) (qv 2)) qj) qj)))⟩
abbrev c26(V:V_):Prop:=c25 V/\Q_ V 1 "_law_name" [nj, "_law_which"] (io)
theorem d26(V:V_)(B:B_ V)(c:c25 V):c26 V:=⟨c,M_ V 0 [nj, "_law_which", "_law_letters", "_law_size", "_law_place", "_law_base", "_law_sign"] B.hp B.D25 aaa fun _ _ _ _ _ _ _ hr hN hu=>(qb (ap (i:=2) hN rfl (Or.inr rfl) zn) (qb (S_ 3 hN (qt xt qj (qt xo (qv 0) qj))) (qb (S_ 4 hN (qt xo (qt wr (qv 0) qj) (qv 3))) (qb (S_ 5 hN (acb zn (jq (cT ["_law_k"] (EI (by rfl)) rfl (bN rfl B.be (jq qj)) (xb sS (fun _ _ _ _=>Or.inl rfl) (fun _ _ _ _=>rfl)) (fun _ _ _ _=>dE) (fun _ _ _ _=>(I_ (qv 2) (qt xo (qt xt (qt wr (qv 0) qj) (qt lD qj (qv 7))) qj))))))) (qb (jn (E_ hu (qt xo (qt wr (qv 0) qj) qj) qj) (qg (qz (ky (uF _ _ _) (qv 5) bQ (kw (qt xt qj (qt xo (qt xt (qv 1) (qv 0)) qj)))))) zm) (qb (S_ 6 hN (I_ (qv 2) (qt xo (qt xt (qt xt (qt wr (qv 0) qj) (qt lD qj (qv 4))) (qv 1)) qj))) (qg (qz (qt xt (qt xt (ky (uF _ _ _) (qv 5) bQ (kw (qv 4))) (qv 6)) (ky (uF _ _ _) (qv 5) (kw (qt xt (qv 4) qj)) (kw (qv 3))))))))))))⟩
abbrev c27(V:V_):Prop:=c26 V/\Q_ V 121 "_law_word" [ng, nq] (xh 120)
theorem d27(V:V_)(B:B_ V)(c:c26 V):c27 V:=⟨c,R_ V 1 [ng, nq, ny] B.hp B.D26 o9 qS (fun _ _ c__law_word _ _ _ _ _ _ hr hN hu=>(qb (S_ 2 hN (I_ (qv 0) (qv 1))) (qb (jn (E_ hu (L_ B.ba (qv 2)) qj) (qg (qz (qv 2))) zm) (qg (qz (zr (dU (J_ 2) (C_ c__law_word hr (vn (qv 0) (J_ 2))) (C_ c__law_word hr (vn (qv 0) (J_ 2)))))))))) 120⟩
abbrev c28(V:V_):Prop:=c27 V/\Q_ V 121 "_law_flip" [ni] (av 120)
theorem d28(V:V_)(B:B_ V)(c:c27 V):c28 V:=⟨c,R_ V 1 [ni, "_law_sides"] B.hp B.D27 yV zZ (fun _ _ c__law_flip _ _ _ _ _ _ hr hN hu=>(qb (S_ 1 hN (adx [ ("plain" , "turned") ,("turned" , "plain") ,("both" , "either") ,("either" , "both") ] (fB bY bY (fB bY bY (fB bY bY (fB bY bY aer)))) rfl rfl (List.cons_ne_nil _ _) (C3 rfl))) (qb (jn (E_ hu (L_ B.ba (qv 0)) qj) (qg (qz (zr (vn (I_ (qv 1) (J_ 0)) (J_ 0))))) zm) (qg (qz (zr (dU (I_ (qv 1) (J_ 0)) (C_ c__law_flip hr (jq (J_ 0))) (C_ c__law_flip hr (jq (J_ 0)))))))))) 120⟩
abbrev c29(V:V_):Prop:=c28 V/\Q_ V 121 "_law_weight" [ni] (aw 120)
theorem d29(V:V_)(B:B_ V)(c:c28 V):c29 V:=⟨c,R_ V 1 [ni] B.hp B.D28 jG xR (fun _ _ c__law_weight _ _ _ _ _ _ hr hN hu=>(qb (jn (E_ hu (L_ B.ba (qv 0)) qj) (qg (qz qj)) zm) (qg (qz (qt xt (qt xt qj (C_ c__law_weight hr (jq (J_ 0)))) (C_ c__law_weight hr (jq (J_ 0)))))))) 120⟩
abbrev c30(V:V_):Prop:=c29 V/\Q_ V 127 "_law_mirror" [ng, ni] (bJ 5)
theorem d30(V:V_)(B:B_ V)(c:c29 V):c30 V:=⟨c,R_ V 122 [ng, ni, "_law_left", "_law_right", "_law_turn", "_law_same", "_law_low", "_law_high"] B.hp B.D29 vE xK (fun _ _ c__law_mirror _ _ _ _ _ _ hr hN hu=>(qb (jn (E_ hu (L_ B.ba (qv 1)) qj) (qb (zb (zk (qv 0) (jq (C_ c.1.2 hr (jq (qv 1)))))) (qb (zb (zk (qv 0) (jq (qv 1)))) (qg (qz (zh (dU (zr (dU zn (qt cK (L_ B.ba (qv 0)) qj) (qt cK (L_ B.ba (qv 0)) qj))) (qt cK (L_ B.ba (qv 0)) qj) (qt cK (L_ B.ba (qv 0)) qj))))))) zm) (qb (S_ 2 hN (C_ c__law_mirror hr (vn (qv 0) (J_ 1)))) (qb (S_ 3 hN (C_ c__law_mirror hr (vn (qv 0) (J_ 1)))) (qb (zb (zk (qv 0) (jq (zr (dU (I_ (C_ c.1.2 hr (jq (qv 1))) qj) (J_ 2) (J_ 3)))))) (qb (zb (zk (qv 0) (jq (zr (dU (J_ 1) (J_ 2) (J_ 3)))))) (qb (abd (i:=4) (j:=5) rfl hN rfl rfl (by decide) rfl rfl (vn (qt cK (L_ B.ba (qv 0)) qj) (qt cK (L_ B.ba (qv 0)) qj)) rfl) (qb (S_ 6 hN (dI (E_ hu (J_ 1) zn) (qv 4) (qv 5))) (qb (S_ 7 hN (dI (E_ hu (J_ 1) zn) (qv 5) (qv 4))) (qg (qz (zh (dU (zr (dU zn (qv 7) (zr (vg zn (dU (qv 6) (J_ 2) (J_ 3)))))) (qv 4) (qv 5)))))))))))))) 5⟩
abbrev c31(V:V_):Prop:=c30 V/\Q_ V 1 "_law_join" [ng, nt, nl, nr] (oW)
theorem d31(V:V_)(B:B_ V)(c:c30 V):c31 V:=⟨c,M_ V 0 [ng, nt, nl, nr, "_law_first", "_law_second", "_law_left", "_law_right", "_law_ends"] B.hp B.D30 ae3 fun _ _ _ _ _ _ _ hr hN hu=>(qb (S_ 4 hN (bL (qv 1) (jq (qt xo (qv 3) (L_ B.ba (qv 1)))))) (qb (S_ 5 hN (bL (qv 1) (jq (qt xo (qv 2) (L_ B.ba (qv 1)))))) (qb (ap (i:=6) hN rfl (Or.inr rfl) (I_ (J_ 4) (qt xo (qt wr (qv 3) qj) (L_ B.ba (J_ 4))))) (qb (ap (i:=7) hN rfl (Or.inr rfl) (I_ (J_ 5) (qt xo (qt wr (qv 2) qj) (L_ B.ba (J_ 5))))) (qb (zb (zk (qv 0) (jq (zr (dU zn (qv 6) (qv 7)))))) (qb (fH [nq] (i:=8) hN rfl (Or.inl rfl) (EI (by rfl)) rfl (xp (qt xt (J_ 4) (J_ 5))) (xb sS (fun _ _ _ _=>Or.inl rfl) (fun _ _ _ _=>rfl)) (fun _ _ _ _=>eS (x9 (nO _ _ _) (qv 9) (zr (vn (qv 6) (qv 7))) (by with_unfolding_all rfl))) (fun _ _ _ _=>(qv 9))) (qg (zb (zk (qv 1) (jq (zh (vn (zr (vg zn (dU (qt cK (L_ B.ba (qv 0)) qj) (J_ 4) (J_ 5)))) (qt xt (qv 8) (zh (jq (qt cK (L_ B.ba (qv 0)) qj))))))))))))))))⟩
abbrev c32(V:V_):Prop:=c31 V/\Q_ V 1 "_law_fold" [ng, "_law_tree_here", nl, nr] (jV)
theorem d32(V:V_)(B:B_ V)(c:c31 V):c32 V:=⟨c,M_ V 0 [ng, "_law_tree_here", nl, nr, "_law_left", "_law_right"] B.hp B.D31 aad fun _ _ _ _ _ _ _ hr hN hu=>(qb (jn (x9 rG (L_ B.ba (J_ 1)) qj (xz _)) (qg uW) zm) (qb (S_ 4 hN (bL (J_ 1) (jq (qt xo (qv 3) (L_ B.ba (J_ 1)))))) (qb (S_ 5 hN (bL (J_ 1) (jq (qt xo (qv 2) (L_ B.ba (J_ 1)))))) (qb (zb (zk (qv 0) (jq (zr (dU zn (qv 4) (qv 5)))))) (qb (aeq (qv 1) qj (zr (dU zn (qt cK (L_ B.ba (qv 0)) qj) (J_ 1)))) (qg (zb (zk (J_ 1) (jq (qt cK (L_ B.ba (qv 0)) qj))))))))))⟩
abbrev c33(V:V_):Prop:=c32 V/\Q_ V 128 "_law_cut" [ng, nt, nl, nr] (nR)
theorem d33(V:V_)(B:B_ V)(c:c32 V):c33 V:=⟨c,M_ V 127 [ng, nt, nl, nr, "_law_first", nq, ni, "_law_second", "_law_q", nw, "_law_end", nh, "_law_same", "_law_ends"] B.hp B.D32 adw fun _ _ _ _ _ _ _ hr hN hu=>(qb (S_ 4 hN (bL (qv 1) (jq (qt xo (qv 3) (L_ B.ba (qv 1)))))) (qb (ap (i:=5) hN rfl (Or.inr rfl) (I_ (J_ 4) (qt xo (qt wr (qv 3) qj) (L_ B.ba (J_ 4))))) (qb (S_ 6 hN (C_ c.1.1.1.1.1.2 hr (vn (qv 0) (qv 5)))) (qb (lJ (zr (vn tN tN)) (dD rfl (j7 (G_ 7 hN) (j7 (dS (i:=8) hN rfl (Or.inr rfl)) aF)))) (qb (wz PassesOwn.never rfl (bN rfl B.be (jq (L_ B.ba (qv 1)))) (G_ 9 hN) (qg (wz PassesOwn.never rfl (xp (I_ (I_ (qv 1) (qv 9)) qj)) (G_ 10 hN) (qg (jn (dw (eQ (oC (qv 7)) (bx (E_ hu (C_ c.1.1.1.1.1.2 hr (vn (qv 0) (qv 10))) (C_ c.1.1.1.1.2 hr (jq (qv 6))))))) (qg (lJ (zr (vn (I_ (qv 1) (qv 9)) (qv 10))) (dD rfl (j7 (G_ 7 hN) (j7 (dS (i:=8) hN rfl (Or.inr rfl)) aF))))) zm))))) (qb (jn (dw (eQ (oC (qv 7)) (bx (x9 yR (C_ c.1.1.1.2 hr (jq (qv 6))) qj (xz _))))) (qb (zb (zk (qv 1) (jq (qv 4)))) (qg uW)) zm) (bF (jn (oC (qv 7)) (qb (lJ (C_ c.1.1.2 hr (vn (qv 0) (qv 6))) (ahs rfl (j7 (G_ 11 hN) (j7 (dS (i:=8) hN rfl (Or.inr rfl)) (j7 (G_ 12 hN) aF))))) (qg (S_ 7 hN (zh (vn (qv 11) (zh (vn (qv 8) (qv 12)))))))) (qg (zb (wD hu (qv 1) (jq (qv 7)))))) (qb (fH ["_law_x"] (i:=13) hN rfl (Or.inl rfl) (EI (by rfl)) rfl (xp (qt xt (J_ 4) (J_ 7))) (xb sS (fun _ _ _ _=>Or.inl rfl) (fun _ _ _ _=>rfl)) (fun _ _ _ _=>eS (x9 (nO _ _ _) (qv 14) (zr (vn (qv 5) (qv 8))) (by with_unfolding_all rfl))) (fun _ _ _ _=>(qv 14))) (qg (jn (E_ hu (qt xo (qv 2) qj) qj) (qg (zb (zk (qv 1) (jq (zh (vn (zr (vg zn (vg (qv 5) (dU (qv 8) (J_ 4) (J_ 7))))) (qv 13))))))) (qg (zb (zk (qv 1) (jq (zh (vn (zr (vg zn (vg (qv 8) (dU (qv 5) (J_ 7) (J_ 4))))) (qv 13)))))))))))))))))⟩
abbrev c34(V:V_):Prop:=c33 V/\Q_ V 2 "_law_order" [ng, nj] (fj V.Pt)
theorem d34(V:V_)(B:B_ V)(c:c33 V):c34 V:=⟨c,T_ V 1 [ng, nj, "_law_ranks", nq, ny, "_law_rank"] B.hp B.D33 xW fun _ _ _ _ _ _ _ C hr hN hu=>(qb (ap (i:=2) hN rfl (Or.inr rfl) (zh k8)) (qb (wz PassesOwn.never rfl (nL rfl B.bh (qv 0)) (dD rfl (j7 (G_ 3 hN) (j7 (G_ 4 hN) aF))) (qb (S_ 5 hN (qt xo (C_ c.1.1.1.1.1.1.1.1.2 hr (dU (qv 1) (qv 3) qj)) qj)) (bF (jn (E_ hu (L_ B.ba (qv 4)) qj) (qg (S_ 5 hN (qt xt (qt xt (qv 5) qj) (k7 afd rfl B.bi abu (vn (I_ (qv 2) (J_ 4)) (I_ (qv 2) (J_ 4))))))) zm) (qg (zb (zk (qv 2) (jq (qv 5)))))))) (qg (qz (zI rfl B.bj (t8 rfl rfl B.bb rfl B.be (L_ B.ba (qv 0))) ⟨rfl,rfl,rfl,by decide +kernel,rfl,rfl,by decide,by decide,by decide⟩ C (dp3 hr) rfl rfl rfl ⟨_,rfl,rfl⟩ rfl (fun _ _ _ _ _ _ _=>rfl))))))⟩
abbrev c35(V:V_):Prop:=c34 V/\Q_ V 121 "_law_moved" [nh, nw] (au 120)
theorem d35(V:V_)(B:B_ V)(c:c34 V):c35 V:=⟨c,R_ V 1 [nh, nw, "_law_places"] B.hp B.D34 aaj zV (fun _ _ c__law_moved _ _ _ _ _ _ hr hN hu=>(qb (jn (E_ hu (J_ 0) zn) (qg (qz (zr (dU zn (k7 alb rfl B.br ai9 (vn (bz hu (qv 1) (J_ 0) (fun _ _=>rfl)) (bz hu (qv 1) (J_ 0) (fun _ _=>rfl)))) (k7 afd rfl B.bi abu (vn (bz hu (qv 1) (J_ 0) (fun _ _=>rfl)) (bz hu (qv 1) (J_ 0) (fun _ _=>rfl)))))))) zm) (qb (fH ["_law_x"] (i:=2) hN rfl (Or.inl rfl) (EI (by rfl)) rfl (yx (ky (qL _ _ _) (qv 0) (kw qj) bQ)) (xb sS (fun _ _ _ _=>Or.inl rfl) (fun _ _ _ _=>rfl)) (fun _ _ _ _=>eS (aB (fD .int rfl B.bf rfl B.bn yq (qv 3)))) (fun _ _ _ _=>(bz hu (qv 1) (qv 3) (fun _ _=>rfl)))) (qg (qz (cw adq rfl B.bp rE (jq (qt xt (qt xt (zh (jq (J_ 0))) (qv 2)) (cT ["_law_x"] (EI (by rfl)) rfl (yx (ky (qL _ _ _) (qv 0) (kw qj) bQ)) (xb sS (fun _ _ _ _=>Or.inl rfl) (fun _ _ _ _=>rfl)) (fun _ _ _ _=>eS (aB (fD .tuple rfl B.bf rfl B.bp rE (qv 3)))) (fun _ _ _ _=>(C_ c__law_moved hr (vn (qv 3) (qv 1))))))))))))) 120⟩
abbrev c36(V:V_):Prop:=c35 V/\Q_ V 122 nE [ng, nh, nj] (eG V.Pt)
theorem d36(V:V_)(B:B_ V)(c:c35 V):c36 V:=⟨c,M_ V 121 [ng, nh, nj, nw, "_law_made", nq, ny] B.hp B.D35 si fun _ _ _ _ _ _ _ hr hN hu=>(qb (S_ 3 hN iS) (qb (S_ 4 hN (zh k8)) (qb (wz PassesOwn.never rfl (xp (C_ c.1.2 hr (vn (qv 0) (qv 2)))) (G_ 5 hN) (qb (aK hu (qv 3) (qv 5) (L_ B.ba (qv 4))) (qb (S_ 6 hN (I_ (qv 0) (qv 5))) (qg (zb (zk (qv 4) (jq (dI (E_ hu (L_ B.ba (qv 6)) qj) (qv 6) (zr (dU (J_ 6) (bz hu (qv 3) (J_ 6) (fun _ _=>rfl)) (bz hu (qv 3) (J_ 6) (fun _ _=>rfl)))))))))))) (qg (qz (zr (vn (qv 4) (C_ c.2 hr (vn (qv 1) (qv 3))))))))))⟩
abbrev c37(V:V_):Prop:=c36 V/\Q_ V 129 "_law_tree" ["_law_cells", nj, "_law_room"] (jX V.Pt)
theorem d37(V:V_)(B:B_ V)(c:c36 V):c37 V:=⟨c,M_ V 128 ["_law_cells", nj, "_law_room", ng, nt, "_law_k", "_law_cell", nl, nr, "_law_deed", nw] B.hp B.D36 yy fun _ _ _ _ _ _ _ hr hN hu=>(qb (S_ 3 hN (zh k8)) (qb (S_ 4 hN (zh k8)) (qb (wz PassesOwn.never rfl (nL rfl B.bh (qv 0)) (dD rfl (j7 (G_ 5 hN) (j7 (G_ 6 hN) aF))) (qb (abd (i:=7) (j:=8) rfl hN rfl rfl (by decide) rfl rfl (vn (C_ c.1.1.1.1.1.1.1.1.1.1.1.2 hr (dU (qv 6) (qv 5) qj)) (C_ c.1.1.1.1.1.1.1.1.1.1.1.2 hr (dU (qv 6) (qv 5) qj))) rfl) (qb (jn (x9 yR (qt xt (qt xt (L_ B.ba (qv 3)) (L_ B.ba (qv 4))) qj) (qv 2) (xz _)) (qg qA) zm) (qb (S_ 9 hN (qt xo (qv 7) qj)) (qb (S_ 7 hN (qt wr (qv 7) qj)) (qg (jn (dw (aaw (x9 rG (qv 9) qj (xz _)) (tI (E_ hu (qv 4) (zh k8))))) (qb (zb (zk (qv 3) (jq (zr (vn zn (C_ c.1.1.1.1.1.1.1.1.1.1.2 hr (vn (qv 1) (qt xo (qv 8) qj)))))))) (qb (zb (zk (qv 3) (jq (zr (vn zn (C_ c.1.1.1.1.1.1.1.1.1.1.2 hr (vn (qv 1) (qt xo (qv 8) qj)))))))) (bF (jn (E_ hu (qt xo (qv 7) qj) qj) (qg (zb (zk (qv 3) (jq (bL (qv 3) (jq (qt cK (L_ B.ba (qv 3)) qj))))))) zm) (qb (S_ 10 hN (qt cK (L_ B.ba (qv 3)) qj)) (qg (zb (zk (qv 4) (jq (zh (vn (zr (dU zn (qv 10) (qt xt (qv 10) qj))) (zh (vn (qv 10) (qt xt (qv 10) qj))))))))))))) (qg (jn (x9 rG (qv 9) qj (xz _)) (qg (zb (C_ c.1.1.1.1.2 hr (vg (qv 3) (dU (I_ (qv 4) (qt xo (qv 8) (L_ B.ba (qv 4)))) (qv 7) (qt wr (qv 8) qj)))))) (qg (jn (dw (eQ (x9 rG (qv 9) qj (xz _)) (bx (x9 yR (L_ B.ba (qv 4)) qj (xz _))))) (qg (zb (C_ c.1.1.1.1.1.2 hr (vg (qv 3) (dU (qv 4) (qv 7) (qv 8)))))) (qg (zb (C_ c.1.1.1.2 hr (vg (qv 3) (dU (qv 4) (qv 7) (qv 8))))))))))))))))) (bF (jn (E_ hu (qv 4) (zh k8)) (qb (zb (zk (qv 3) (jq (zr (vn zn (C_ c.1.1.1.1.1.1.1.1.1.1.2 hr (vn (qv 1) qj))))))) (qb (zb (zk (qv 3) (jq (zr (vn zn (C_ c.1.1.1.1.1.1.1.1.1.1.2 hr (vn (qv 1) qj))))))) (qg (zb (zk (qv 4) (jq (zh (vn (zr (dU zn qj qj)) (zh (vn qj qj)))))))))) zm) (qb (fV PassesOwn.never (x9 yR (L_ B.ba (qv 4)) qj (xz _)) (qg (zb (C_ c.1.1.1.1.1.2 hr (vg (qv 3) (dU (qv 4) (qt xt (qt wr (qv 1) qj) (L_ B.ba (qv 4))) (qt wr (qv 1) qj))))))) (qg (qz (C_ c.2 hr (dU (qv 3) (I_ (J_ 4) qj) (qv 1))))))))))⟩
abbrev c38(V:V_):Prop:=c37 V/\Q_ V 1 "_law_arms" [nh] (fN)
theorem d38(V:V_)(B:B_ V)(c:c37 V):c38 V:=⟨c,M_ V 0 [nh] B.hp B.D37 abt fun _ _ _ _ _ _ _ hr hN hu=>(qb (jn (E_ hu (J_ 0) zn) (qg (qz (zh (vn (J_ 0) (J_ 0))))) zm) (qb (jn (E_ hu (J_ 0) zn) (qg (qz (zh k8))) zm) (qg (qz (cw fE rfl B.bb dR (jq (ky (qL _ _ _) (qv 0) (kw qj) bQ)))))))⟩
abbrev c39(V:V_):Prop:=c38 V/\Q_ V 2 nv [nh] (i3)
theorem d39(V:V_)(B:B_ V)(c:c38 V):c39 V:=⟨c,M_ V 1 [nh, "_law_links", "_law_cuts", "_law_told", "_law_stack", nl] B.hp B.D38 ada fun _ _ _ _ _ _ _ hr hN hu=>(qb (lJ (zr (vg (zh k8) (dU (zh k8) iS (zh (jq (qv 0)))))) (dD rfl (j7 (G_ 1 hN) (j7 (G_ 2 hN) (j7 (G_ 3 hN) (j7 (G_ 4 hN) aF)))))) (qb (fV PassesOwn.never (N_ hu (qv 4) (zh k8)) (qb (S_ 5 hN (yw (qv 4))) (bF (jn (E_ hu (J_ 5) zn) (qb (zb (zk (qv 1) (jq (zr (vn (J_ 5) (J_ 5)))))) (qb (aK hu (qv 3) (J_ 5) wu) (qg (aK hu (qv 3) (J_ 5) wu)))) (qg (jn (E_ hu (J_ 5) zn) (qg (zb (zk (qv 2) (jq (zr (vn (J_ 5) (J_ 5))))))) (qg (aK hu (qv 3) (J_ 5) wu))))) (qg (zb (bH (qv 4) (jq (C_ c.2 hr (jq (qv 5)))))))))) (qg (qz (zr (dU (qv 1) (qv 2) (qv 3)))))))⟩
abbrev c40(V:V_):Prop:=c39 V/\Q_ V 1 "_law_free" [ng, "_law_cuts"] (oQ)
theorem d40(V:V_)(B:B_ V)(c:c39 V):c40 V:=⟨c,M_ V 0 [ng, "_law_cuts", "_law_used", ny, nq, "_law_q"] B.hp B.D39 ae5 fun _ _ _ _ _ _ _ hr hN hu=>(qb (ap (i:=2) hN rfl (Or.inr rfl) iS) (qb (wz PassesOwn.never rfl (xp (qv 0)) (G_ 3 hN) (qg (jn (dw (eQ (oG (qv 3)) (bx (E_ hu (L_ B.ba (qv 3)) qj)))) (qb (aK hu (qv 2) (J_ 3) wu) (qg (aK hu (qv 2) (J_ 3) wu))) zm))) (qb (wz PassesOwn.never rfl (xp (qv 1)) (dD rfl (j7 (G_ 4 hN) (j7 (G_ 5 hN) aF))) (qb (aK hu (qv 2) (qv 4) wu) (qg (aK hu (qv 2) (qv 5) wu)))) (qg (acj "_law_p'" (qz (cT [nq] (EI (by rfl)) rfl (bN rfl B.be (jq (L_ B.ba (qv 0)))) (xb sS (fun _ _ _ _=>Or.inl rfl) (fun _ _ _ _=>rfl)) (fun _ _ _ _=>eS (dw (eQ (oG (I_ (qv 0) (qv 6))) (bx (x9 (yY hu) (qv 6) (qv 2) (by with_unfolding_all rfl)))))) (fun _ _ _ _=>(qv 6)))))))))⟩
abbrev c41(V:V_):Prop:=c40 V/\Q_ V 1 "_law_wholes" ["_law_found"] (gZ)
theorem d41(V:V_)(B:B_ V)(c:c40 V):c41 V:=⟨c,M_ V 0 ["_law_found", "_law_x"] B.hp B.D40 xC fun _ _ _ _ _ _ _ hr hN hu=>(qb (jn (gJ (aB (fD .list rfl B.bf rfl B.bb dR (qv 0)))) (qg (qz wu)) zm) (qb (wz PassesOwn.never rfl (xp (qv 0)) (G_ 1 hN) (qg (jn (dw (aaw (gJ (aB (fD .int rfl B.bf rfl B.bn yq (qv 1)))) (tI (aB (fD .bool rfl B.bf rfl B.bw adf (qv 1)))))) (qg (qz wu)) zm))) (qg (qz wu))))⟩
abbrev c42(V:V_):Prop:=c41 V/\Q_ V 2 "_law_within" [nh, "_law_number"] (gB)
theorem d42(V:V_)(B:B_ V)(c:c41 V):c42 V:=⟨c,M_ V 1 [nh, "_law_number", "_law_arms_here"] B.hp B.D41 uw fun _ _ _ _ _ _ _ hr hN hu=>(qb (fV PassesOwn.never (dw (eQ (N_ hu (C_ c.1.1.1.2 hr (jq (qv 0))) (zh k8)) (bx (x9 yR (qt xo (qv 1) qj) qj (xz _))))) (qb (S_ 2 hN (C_ c.1.1.1.2 hr (jq (qv 0)))) (qb (S_ 0 hN (I_ (qv 2) (qt xo (qt wr (qv 1) qj) (L_ B.ba (qv 2))))) (qg (S_ 1 hN (qt xo (qt lD (qv 1) qj) qj)))))) (qg (qz (qv 0))))⟩
abbrev c43(V:V_):Prop:=c42 V/\Q_ V 126 "_law_asked" [ng, nh] (lC)
theorem d43(V:V_)(B:B_ V)(c:c42 V):c43 V:=⟨c,M_ V 125 [ng, nh, "_law_handed", "_law_found"] B.hp B.D42 abk fun _ _ _ _ _ _ _ hr hN hu=>(qb (S_ 2 hN (cw fE rfl B.bb dR (jq (qv 0)))) (qb (jn (x9 aih (C_ c.1.1.1.1.1.1.1.1.1.1.1.1.1.1.1.1.1.1.1.2 hr (jq (zr (vn (qv 2) (qv 1))))) wu (xz _)) (qg (qz wu)) zm) (qb (S_ 3 hN (C_ c.1.1.1.1.1.1.1.1.1.1.1.1.1.1.1.1.1.1.2 hr (jq (zr (vn (qv 2) (qv 1)))))) (qg (qz (am (C_ c.1.2 hr (jq (qv 3))) (am (km (gv _ _ _ hu) (qv 3) (C_ c.1.1.2 hr (vn (qv 0) (I_ (C_ c.1.1.1.2 hr (jq (qv 1))) qj))) (xz _)) (cY (km (gv _ _ _ hu) (qv 2) (qv 0) (xz _))))))))))⟩
theorem dL(V:V_)(B:B_ V)(c:c43 V){f:Addr}{fd:FuncData}(F:Fun V.K "law" "law" rf f fd):Fn3 V.P V.w V.K V.mg V.base 130 f fd [nu] (oh V.Pt lamQ):=
 W_ V 129 [nu, nj, ng, nh, "_law_inner", "_law_told", "_law_rest"] F aa8 fun _ _ _ _ _ _ hr hN hu=>(qb (S_ 1 hN (qt xo (I_ (qt (ai3 _ _ _) (qv 0) (zh (jq qj))) qj) (qt akx qj qj))) (qb (lJ (C_ c.1.1.1.1.1.1.2 hr (dU (ky (uF _ _ _) (qv 0) (kw qj) bQ) (qv 1) qj)) (dD rfl (j7 (dS (i:=2) hN rfl (Or.inr rfl)) (j7 (G_ 3 hN) aF)))) (qb (jn (gJ (aB (C_ c.2 hr (vn (qv 2) (qv 3))))) (qg (qz wu)) zm) (qb (S_ 4 hN (C_ c.1.2 hr (vn (qv 3) (qt xo (qt lD (qv 1) qj) qj)))) (qb (ap (i:=5) hN rfl (Or.inr rfl) (I_ (C_ c.1.1.1.1.2 hr (jq (qv 4))) qj)) (qb (fH [nq] (i:=6) hN rfl (Or.inl rfl) (EI (by rfl)) rfl (bN rfl B.be (jq (L_ B.ba (qv 2)))) (xb sS (fun _ _ _ _=>Or.inl rfl) (fun _ _ _ _=>rfl)) (fun _ _ _ _=>dE) (fun _ _ _ _=>(dI (x9 (aju hu) (qv 7) (qv 5) (by with_unfolding_all rfl)) (I_ (qv 2) (qv 7)) tN))) (qg (qz (C_ c.2 hr (vn (qv 6) (qv 4)))))))))))
theorem all_mk{l:PySem.W.OpenLaw}{w:World}{K:Ah}{h:Heap}{mg:Str->Option Value}{fa:Addr}{a_LEAF_KINDS:Addr}{o_LEAF_KINDS:Option Addr}{n_LEAF_KINDS:Nat}{l_LEAF_KINDS:Array (Option Value)}{t_LEAF_KINDS0 t_LEAF_KINDS1:Tok}{a_TURNED_KINDS:Addr}{e_TURNED_KINDS:Nat}{t_TURNED_KINDS0 t_TURNED_KINDS1 t_TURNED_KINDS2 t_TURNED_KINDS3 u_TURNED_KINDS0 u_TURNED_KINDS1 u_TURNED_KINDS2 u_TURNED_KINDS3:Tok}{a_PLACE_COUNTS:Addr}{e_PLACE_COUNTS:Nat}{t_PLACE_COUNTS0 t_PLACE_COUNTS1 t_PLACE_COUNTS2 t_PLACE_COUNTS3 u_PLACE_COUNTS0 u_PLACE_COUNTS1 u_PLACE_COUNTS2 u_PLACE_COUNTS3:Tok}{Pt:Addr}(X:K.In h)(G:h.Ns mainGlobals mg)(hfa:mg "law" = some (.ref fa))
 (D0:qr K "is_leaf" mo)
 (D1:qr K "turned" qK)
 (D2:qr K "word_at" m7)
 (D3:qr K "holds_leaf" fU)
 (D4:qr K "places_there" cW)
 (D5:qr K "parts_of" kG)
 (D6:qr K "parts_in" jY)
 (D7:qr K "each_once" gi)
 (D8:qr K "parts_fit" iD)
 (D9:qr K "are_knots" iG)
 (D10:qr K "is_link" mN)
 (D11:qr K "can_be_cut" fG)
 (D12:qr K "is_cut" pQ)
 (D13:qr K "places_of" hJ)
 (D14:qr K "arms_of" mP)
 (D15:qr K "rules_in" jM)
 (D16:qr K "told_by" mO)
 (D17:qr K "taken_by" jD)
 (D18:qr K "demand" rh)
 (D19:qr K "ends_by" m5)
 (D20:qr K "demand_told_once" aX)
 (D21:qr K "fits" abw)
 (D22:qr K "checked_tree" cx)
 (D23:qr K "tree_ends" iC)
 (D24:qr K "_law_mix" jW)
 (D25:qr K "_law_name" iB)
 (D26:qr K "_law_word" iF)
 (D27:qr K "_law_flip" gf)
 (D28:qr K "_law_weight" dy)
 (D29:qr K "_law_mirror" dz)
 (D30:qr K "_law_join" hX)
 (D31:qr K "_law_fold" hZ)
 (D32:qr K "_law_cut" jF)
 (D33:DefInT K "_law_order" s__law_order Pt)
 (D34:qr K "_law_moved" fI)
 (D35:qr K nE dC)
 (D36:qr K "_law_tree" iJ)
 (D37:qr K "_law_arms" gj)
 (D38:qr K nv cN)
 (D39:qr K "_law_free" iA)
 (D40:qr K "_law_wholes" dk)
 (D41:qr K "_law_within" du)
 (D42:qr K "_law_asked" f9)
 (D43:qr K "law" rf)
 (aLEAF_KINDS:PySem.W.nsIn K mainGlobals "LEAF_KINDS" = some (some (.ref a_LEAF_KINDS)))
 (lLEAF_KINDS:K.lookup a_LEAF_KINDS=some ⟨.type "tuple",o_LEAF_KINDS,.seq #[.str "plain" t_LEAF_KINDS0,.str "turned" t_LEAF_KINDS1] n_LEAF_KINDS,l_LEAF_KINDS⟩)
 (aTURNED_KINDS:PySem.W.nsIn K mainGlobals "TURNED_KINDS" = some (some (.ref a_TURNED_KINDS)))
 (lTURNED_KINDS:K.lookup a_TURNED_KINDS=some ⟨.type "dict",none,.dict ((([("plain",t_TURNED_KINDS0, "turned",u_TURNED_KINDS0),("turned",t_TURNED_KINDS1, "plain",u_TURNED_KINDS1),("both",t_TURNED_KINDS2, "either",u_TURNED_KINDS2),("either",t_TURNED_KINDS3, "both",u_TURNED_KINDS3)]:List (Str×Tok×Str×Tok)).map (uc w)).toArray) e_TURNED_KINDS,#[]⟩)
 (hTURNED_KINDS:(a_TURNED_KINDS==sysModules)=false)
 (aPLACE_COUNTS:PySem.W.nsIn K mainGlobals "PLACE_COUNTS" = some (some (.ref a_PLACE_COUNTS)))
 (lPLACE_COUNTS:K.lookup a_PLACE_COUNTS=some ⟨.type "dict",none,.dict ((([("link",t_PLACE_COUNTS0,2,u_PLACE_COUNTS0),("either",t_PLACE_COUNTS1,1,u_PLACE_COUNTS1),("both",t_PLACE_COUNTS2,1,u_PLACE_COUNTS2),("cut",t_PLACE_COUNTS3,2,u_PLACE_COUNTS3)]:List (Str×Tok×Int×Tok)).map (acw w)).toArray) e_PLACE_COUNTS,#[]⟩)
 (hPLACE_COUNTS:(a_PLACE_COUNTS==sysModules)=false)
 (zenumerate:PySem.W.nsIn K mainGlobals "enumerate" = some none)
 (zlen:PySem.W.nsIn K mainGlobals "len" = some none)
 (zset:PySem.W.nsIn K mainGlobals "set" = some none)
 (zall:PySem.W.nsIn K mainGlobals "all" = some none)
 (zrange:PySem.W.nsIn K mainGlobals "range" = some none)
 (zany:PySem.W.nsIn K mainGlobals "any" = some none)
 (zlist:PySem.W.nsIn K mainGlobals "list" = some none)
 (zzip:PySem.W.nsIn K mainGlobals "zip" = some none)
 (zsorted:PySem.W.nsIn K mainGlobals "sorted" = some none)
 (zmax:PySem.W.nsIn K mainGlobals "max" = some none)
 (zmin:PySem.W.nsIn K mainGlobals "min" = some none)
 (zisinstance:PySem.W.nsIn K mainGlobals "isinstance" = some none)
 (zint:PySem.W.nsIn K mainGlobals "int" = some none)
 (ztuple:PySem.W.nsIn K mainGlobals "tuple" = some none)
 (zbool:PySem.W.nsIn K mainGlobals "bool" = some none):
 ∃fd:FuncData,(∀(s:Shared) (v:Value),BindsTo s fd ⟨[v],[]⟩ [(nu,v)])/\∀base:Heap,K.In base->base.Ns mainGlobals mg->az l.prog w K mg base CX0 130 fa fd [nu] (spTopT lamQ K Pt):=by
 obtain⟨fL,kV,doc,pm,an,cdv,ct,aL,FL⟩:=D43.ex;have e:=hfa.symm.trans (Ck X G aL);cases e;refine⟨PySem.W.fnOf "law" "law" (xq rf) (jh rf) (qx rf) .none kV doc pm an cdv ct,fun s v=>.of_eq rfl,fun base _ _=>?_⟩;have B:B_ ⟨l.prog,w,K,mg,base,Pt⟩:=⟨⟨h,X,G⟩,Bd X G zenumerate,Bd X G zlen,Bd X G zset,Bd X G zall,Bd X G zrange,Bd X G zany,Bd X G zlist,Bd X G zzip,Bd X G zsorted,Bd X G zmax,Bd X G zmin,Bd X G zisinstance,Bd X G zint,Bd X G ztuple,Bd X G zbool,D0,D1,D2,D3,D4,D5,D6,D7,D8,D9,D10,D11,D12,D13,D14,D15,D16,D17,D18,D19,D20,D21,D22,D23,D24,D25,D26,D27,D28,D29,D30,D31,D32,D33,D34,D35,D36,D37,D38,D39,D40,D41,D42,⟨a_LEAF_KINDS,Ck X G aLEAF_KINDS,fun H=>⟨a_LEAF_KINDS,[V.str "plain",V.str "turned"],rfl,.inr ⟨_,_,_,lLEAF_KINDS,rfl,rfl,by show 2≤sizeLine;decide,.cons ⟨_,rfl⟩ (.cons ⟨_,rfl⟩ (.nil))⟩,⟨_,_,rfl,rfl,⟨_,_,rfl,rfl,rfl⟩⟩⟩⟩,⟨a_TURNED_KINDS,Ck X G aTURNED_KINDS,fun H=>⟨a_TURNED_KINDS,rfl,ak7 _ lTURNED_KINDS hTURNED_KINDS (by show 4≤1000;decide) (by show List.Nodup ([Sum.inr "plain",Sum.inr "turned",Sum.inr "both",Sum.inr "either"]:List zq);decide +kernel)⟩⟩,⟨a_PLACE_COUNTS,Ck X G aPLACE_COUNTS,agv _ lPLACE_COUNTS hPLACE_COUNTS (by show 4≤1000;decide) (by show List.Nodup ([Sum.inr "link",Sum.inr "either",Sum.inr "both",Sum.inr "cut"]:List zq);decide +kernel)⟩⟩;exact az.imp (dL _ B (d43 _ B (d42 _ B (d41 _ B (d40 _ B (d39 _ B (d38 _ B (d37 _ B (d36 _ B (d35 _ B (d34 _ B (d33 _ B (d32 _ B (d31 _ B (d30 _ B (d29 _ B (d28 _ B (d27 _ B (d26 _ B (d25 _ B (d24 _ B (d23 _ B (d22 _ B (d21 _ B (d20 _ B (d19 _ B (d18 _ B (d17 _ B (d16 _ B (d15 _ B (d14 _ B (d13 _ B (d12 _ B (d11 _ B (d10 _ B (d9 _ B (d8 _ B (d7 _ B (d6 _ B (d5 _ B (d4 _ B (d3 _ B (d2 _ B (d1 _ B trivial))))))))))))))))))))))))))))))))))))))))))) FL) fun vs H Q E q=>adv q
theorem def_inT{K:Ah}{x:Str}{st:Stmt}{f Pt:Addr}{oc:Value}{od an:Option Addr}{osl:Array (Option Value)}{kV doc pm cdv ct:Value}(a:PySem.W.nsIn K mainGlobals x=some (some (.ref f)))
 (l:K.lookup f=some ⟨oc,od,.func (PySem.W.fnOf x x (xq st) (jh st) (qx st) .none kV doc pm an cdv ct),osl⟩) (c:PySem.W.codeIn K cdv x=true) (k:PySem.W.keepIn K (.ref f)=true) (C:wX K cdv Pt):DefInT K x st Pt:=
 ⟨f,kV,doc,pm,an,cdv,ct,a,⟨⟨oc,od,kV,doc,pm,an,cdv,ct,osl,rfl,l,c,C⟩,k⟩⟩
end K21
namespace H21
noncomputable section
open PySem PySem.W PySem.W.X L2 L3 PyProof.Rows
abbrev rr:=PySem.Challenge.rw_oncewise_k21_ends
abbrev p:Program:=PySem.Challenge.pw_oncewise_k21_ends
abbrev top:=K21.top
abbrev s(x:String):Str:=Str.ofString x
noncomputable abbrev S (x:String) (t:Tok):Value:=.str (Str.ofString x) t
noncomputable abbrev I (i:Int) (t:Tok):Value:=.int i t
noncomputable abbrev R (a:Addr):Value:=.ref a
abbrev E(P:Params)(k:String)(t:Tok)(v:Value):DictEntry:=⟨PyData.keyHash P (Str.ofString k),.str (Str.ofString k) t,v⟩
noncomputable abbrev O (c:Value) (d:Data):Obj:=⟨c,none,d,#[]⟩
abbrev FN(n q:String)(st:Stmt)(dV kV doc pm:Value)(an:Option Addr)(cd ct:Value):FuncData:=fnOf (Str.ofString n) (Str.ofString q) (xq st) (jh st) (qx st) dV kV doc pm an cd ct
abbrev FG(n q:String)(st:Stmt):FuncData:={ fnOf (Str.ofString n) (Str.ofString q) (xq st) (jh st) (qx st) .none .none .none .none none .none .none with globals:=0 }
abbrev tu(l:Array Value):Obj:=O (.type "tuple") (.seq l 0)
abbrev fo(f:FuncData):Obj:=O (.type "function") (.func f)
abbrev go(f:FuncData):Obj:=O .none (.func f)
abbrev co(n q:String)(t l a b c fl v:Nat)(o:Bool)(m k:Nat)(x y z u:Value)(d:Nat):Obj:=O (.type "code") (.fields #[S n t,S q (t+1),S "/claim/cut.py" (t+2),I l 0,I a 0,I b 0,I c 0,I fl 0,R v,.bool o,I m 0,R k,x,y,z,u,I d 0,I l 0,S "/claim/cut.py" (d+1)])
abbrev m8:Value:=S "law_oncewise_k21_ends" 440
abbrev m1_:Value:=S "oncewise.webs" 256
abbrev yr:Value:=S "oncewise.trees" 341
abbrev m3_:Value:=S "oncewise.words" 223
abbrev fX(n:String)(i:Nat)(m:Value)(r:Nat):Obj:=fo (FN n n (top i) .none .none .none m none (R r) .none)
abbrev gX(n:String)(i:Nat):Obj:=go (FG n n (top i))
abbrev cF(n:String)(t l a v d:Nat):Obj:=co n n t l a 0 0 3 v true 181 (v+1) .none (R (v+2)) (R (v+3)) (R (v+4)) d
abbrev cC(n:String)(t l v d:Nat):Obj:=co n n t l 0 0 0 0 v false 181 (v+1) .none .none .none .none d
abbrev cS(n:String)(a ns k t v:Nat):Obj:=⟨.type "type",none,.cls (ClassData.mk (s n) [R 24] [R a,R 24,.type "ValueError",.type "Exception",.type "BaseException",.type "object"] ns (s n) true [] [] false none false),#[some (R k),none,some (S n t),some (S n v),some (.builtin "ValueError.__new__"),some (.bool true)]⟩
abbrev dA(P:Params)(a b:Nat)(l:Int)(c d r e:Nat):Obj:=O (.type "dict") (.dict #[E P "__module__" a (S "oncewise.errors" 187),E P "__firstlineno__" b (I l c),E P "__static_attributes__" d (R r),E P "__doc__" e .none] 2)
abbrev dB(P:Params)(a q:Nat)(n:String)(q2 b:Nat)(l:Int)(c d r:Nat):Obj:=O (.type "dict") (.dict #[E P "__module__" a (S "oncewise.errors" 187),E P "__qualname__" q (S n q2),E P "__firstlineno__" b (I l c),E P "__static_attributes__" d (R r)] 4)
abbrev fR(a b:Nat):Obj:=⟨.type "frame",none,.plain,#[some (R a),some (R 3),some (R b),none,some (S "oncewise.errors" 187),none,some (R 0)]⟩
abbrev bI(a:Nat):Obj:=O (.type "builtin_function_or_method") (.fields #[.builtin "object.__init_subclass__",R a])
abbrev sU(a:Nat):Obj:=O (.type "super") (.fields #[R a,R a,R a])
abbrev Ob:=Params->Obj
def ev{α:Type}:Bool->List α->List α
 |_,[]=>[]
 |true,x::r=>x::ev false r
 |false,_::r=>ev true r
def bt:Nat->List Obj->BT
 |0,_=>.nil
 |_,[]=>.nil
 |n+1,x::r=>.node x (bt n (ev true r)) (bt n (ev false r))
def env0:Env:={ scope:=p.main.scope,locals:=mainNs,globals:=mainNs,cells:=[],code:=.ref 13,frame:=some 14 }
abbrev cE:Code:=.body (behindTheImports p) env0
abbrev q0:Pos:=⟨0,0,0,0⟩
abbrev an:Option Value:=some (.ref 6)
abbrev Pc(n:Nat)(S S':World->OsState->SharedT)(l:List Stmt)(q q':Pos)(w:World):Prop:=(fun os=>segRunT treeTable p w 11 an 1 n (S w os) (piecesOf l env0 cE q [topFrame q0]))=fun os=>some (Flow.next,S' w os,cE,q')
abbrev b0:=PySem.W.boot_o_0
abbrev b1:=PySem.W.boot_o_1
abbrev b2:=PySem.W.boot_o_2
abbrev b3:=PySem.W.boot_o_3
abbrev b4:=PySem.W.boot_o_4
abbrev b5:=PySem.W.boot_o_5
abbrev b6:=PySem.W.boot_o_6
abbrev b7:=PySem.W.boot_o_7
abbrev b8:=PySem.W.boot_o_8
abbrev b9:=PySem.W.boot_o_9
abbrev b10:=PySem.W.boot_o_10
def xx:Ob:=fun _=>tu #[]
def aH:Ob:=fun _=>O .none (.fields #[])
def xac:Ob:=fun _=>cC "<module>" 182 1 11 185
def xad:Ob:=fun _=>⟨(.type "frame"),none,.plain,#[(some (R 13)),(some (R 3)),(some (R 3)),none,(some (S "__main__" 164)),none,(some (R 0))]⟩
def xag:Ob:=fun P=>O (.type "dict") (.dict #[(E P "__module__" 196 (S "oncewise.errors" 187)),(E P "__firstlineno__" 200 (I 2 199)),(E P "__static_attributes__" 201 (R 22)),(E P "__weakref__" 203 (R 25)),(E P "__doc__" 204 .none)] 3)
def xaj:Ob:=fun _=>O (.type "getset_descriptor") (.fields #[S "__weakref__" 202,R 24,(.builtin "ExceptionGroup.__weakref__"),.none])
def xal:Ob:=fun _=>O (.type "builtin_function_or_method") (.fields #[(.builtin "type.__prepare__"),(.type "type")])
def xar:Ob:=fun _=>cF "is_leaf" 241 9 1 42 245
def xat:Ob:=fun _=>fX "turned" 7 m3_ 54
def xaw:Ob:=fun P=>O (.type "dict") (.dict #[(E P "plain" 228 (S "turned" 229)),(E P "turned" 230 (S "plain" 231)),(E P "both" 232 (S "either" 233)),(E P "either" 234 (S "both" 235))] 4)
def xax:Ob:=fun _=>cS "BadTree" 37 36 28 207 215
def xaz:Ob:=fun _=>fX "is_leaf" 6 m3_ 47
def xa0:Ob:=fun _=>⟨(.type "type"),none,(.cls (ClassData.mk (s "OnceError") [(.type "ValueError")] [R 24,(.type "ValueError"),(.type "Exception"),(.type "BaseException"),(.type "object")] 23 (s "OnceError") true [] [R 37] false none false)),#[(some (R 15)),none,(some (S "OnceError" 189)),(some (S "OnceError" 197)),(some (.builtin "ValueError.__new__")),(some (.bool true))]⟩
def xa1:Ob:=fun _=>tu #[S "plain" 225,S "turned" 226]
def xa3:Ob:=fun P=>dA P 214 218 4 217 219 35 220
def xa8:Ob:=fun _=>cF "turned" 248 11 1 49 253
def xbc:Ob:=fun P=>O (.type "dict") (.dict #[(E P "link" 343 (I 2 344)),(E P "either" 345 (I 1 346)),(E P "both" 347 (I 1 348)),(E P "cut" 349 (I 2 350))] 4)
def xbd:Ob:=fun _=>fX "each_once" 14 m1_ 94
def xbf:Ob:=fun _=>cF "is_link" 315 44 3 106 321
def xbh:Ob:=fun _=>cF "parts_in" 287 30 1 82 293
def xbi:Ob:=fun _=>fX "can_be_cut" 18 m1_ 118
def xbk:Ob:=fun _=>co "parts_fit" "parts_fit" 303 37 2 0 0 3 96 true 181 97 .none .none .none (R 98) 306
def xbo:Ob:=fun _=>fX "parts_of" 12 m1_ 80
def xbp:Ob:=fun _=>co "places_there" "places_there" 274 24 1 0 0 3 70 true 181 71 .none .none .none (R 72) 277
def xbq:Ob:=fun _=>fX "are_knots" 16 m1_ 104
def xbr:Ob:=fun _=>fX "holds_leaf" 10 m1_ 68
def xbu:Ob:=fun _=>cF "word_at" 258 17 2 56 264
def xbw:Ob:=fun _=>cF "is_cut" 332 50 3 120 338
def xbx:Ob:=fun _=>cF "parts_of" 280 26 1 75 284
def xby:Ob:=fun _=>fX "is_link" 17 m1_ 111
def xb0:Ob:=fun _=>co "are_knots" "are_knots" 309 41 1 0 0 3 101 true 181 102 .none .none .none (R 103) 312
def xb1:Ob:=fun _=>fX "parts_in" 13 m1_ 87
def xb3:Ob:=fun _=>cF "holds_leaf" 267 22 1 63 271
def xb4:Ob:=fun _=>fX "parts_fit" 15 m1_ 99
def xca:Ob:=fun _=>fX "places_there" 11 m1_ 73
def xce:Ob:=fun _=>cF "can_be_cut" 324 48 2 113 329
def xcg:Ob:=fun _=>fX "word_at" 9 m1_ 61
def xch:Ob:=fun _=>cF "each_once" 296 35 1 89 300
def xci:Ob:=fun _=>fX "is_cut" 19 m1_ 125
def xck:Ob:=fun _=>fX "checked_tree" 31 yr 190
def xcl:Ob:=fun _=>co "taken_by" "taken_by" 386 67 2 0 0 3 156 true 181 157 .none .none .none (R 158) 389
def xcn:Ob:=fun _=>fX "demand" 27 yr 166
def xcq:Ob:=fun _=>cF "rules_in" 370 60 1 142 376
def xcr:Ob:=fun _=>fX "demand_told_once" 29 yr 178
def xcu:Ob:=fun _=>co "ends_by" "ends_by" 400 79 2 0 0 3 168 true 181 169 .none .none .none (R 170) 403
def xcv:Ob:=fun _=>fX "told_by" 25 yr 154
def xcw:Ob:=fun _=>co "_law_name" "_law_name" 451 117 2 0 0 3 206 true 181 207 .none .none .none (R 208) 454
def xc1:Ob:=fun _=>cF "fits" 419 97 2 180 424
def xc2:Ob:=fun _=>cF "places_of" 356 56 1 128 360
def xc3:Ob:=fun _=>cF "tree_ends" 433 112 1 192 437
def xc5:Ob:=fun _=>fX "arms_of" 23 yr 140
def xc6:Ob:=fun _=>fX "_law_mix" 34 m8 204
def xc8:Ob:=fun _=>fX "taken_by" 26 yr 159
def xdf:Ob:=fun _=>fX "rules_in" 24 yr 147
def xdg:Ob:=fun _=>cF "arms_of" 363 58 1 135 367
def xdh:Ob:=fun _=>cF "_law_mix" 442 115 3 199 448
def xdi:Ob:=fun _=>fX "ends_by" 28 yr 171
def xdm:Ob:=fun _=>fX "_law_name" 35 m8 209
def xdn:Ob:=fun _=>cF "demand_told_once" 406 86 2 173 416
def xdp:Ob:=fun _=>cF "told_by" 379 65 1 149 383
def xdq:Ob:=fun _=>fX "fits" 30 yr 185
def xdr:Ob:=fun _=>fX "places_of" 22 yr 133
def xds:Ob:=fun _=>fX "tree_ends" 32 yr 197
def xdt:Ob:=fun _=>cF "demand" 392 76 2 161 397
def xdw:Ob:=fun _=>co "checked_tree" "checked_tree" 427 103 1 0 0 3 187 true 181 188 .none .none .none (R 189) 430
def xdy:Ob:=fun _=>fX "_law_cut" 42 m8 254
def xdz:Ob:=fun _=>cF "_law_arms" 567 241 1 282 571
def xd0:Ob:=fun _=>cF "_law_flip" 466 131 1 218 471
def xd1:Ob:=fun _=>fX "_law_weight" 38 m8 230
def xd6:Ob:=fun _=>fX "_law_join" 40 m8 242
def xd7:Ob:=fun _=>fX "_law_moved" 44 m8 266
def xd8:Ob:=fun _=>cF "_law_renamed" 537 204 3 268 547
def xeb:Ob:=fun _=>fX "_law_tree" 46 m8 280
def xec:Ob:=fun _=>fX "_law_word" 36 m8 216
def xed:Ob:=fun _=>cF "_law_fold" 501 161 4 244 510
def xee:Ob:=fun _=>cF "_law_order" 519 191 2 256 528
def xei:Ob:=fun _=>cF "_law_mirror" 481 140 2 232 492
def xek:Ob:=fun _=>fX "_law_arms" 47 m8 287
def xel:Ob:=fun _=>fX "_law_flip" 37 m8 223
def xen:Ob:=fun _=>cF "_law_tree" 550 212 3 275 564
def xeo:Ob:=fun _=>cF "_law_word" 457 126 2 211 463
def xew:Ob:=fun _=>fX "_law_renamed" 45 m8 273
def xex:Ob:=fun _=>co "_law_join" "_law_join" 495 153 4 0 0 3 239 true 181 240 .none .none .none (R 241) 498
def xey:Ob:=fun _=>co "_law_moved" "_law_moved" 531 199 2 0 0 3 263 true 181 264 .none .none .none (R 265) 534
def xe0:Ob:=fun _=>fX "_law_fold" 41 m8 249
def xe1:Ob:=fun _=>fX "_law_order" 43 m8 261
def xe2:Ob:=fun _=>cF "_law_weight" 474 136 1 225 478
def xe5:Ob:=fun _=>fX "_law_mirror" 39 m8 237
def xe8:Ob:=fun _=>co "_law_cut" "_law_cut" 513 169 4 0 0 3 251 true 181 252 .none .none .none (R 253) 516
def xe9:Ob:=fun P=>O (.type "dict") (.dict #[(E P "__name__" 165 (S "law_oncewise_k21_ends" 440)),(E P "__doc__" 166 .none),(E P "__package__" 167 .none),(E P "__loader__" 168 (.builtin "__main__.__loader__#opaque")),(E P "__spec__" 169 .none),(E P "__annotations__" 170 (R 6)),(E P "__builtins__" 171 (R 4)),(E P "__file__" 173 (S "/claim/cut.py" 172)),(E P "__cached__" 174 .none),(E P "OnceError" 206 (R 24)),(E P "BadTree" 222 (R 37)),(E P "LEAF_KINDS" 227 (R 40)),(E P "TURNED_KINDS" 240 (R 41)),(E P "is_leaf" 247 (R 48)),(E P "turned" 255 (R 55)),(E P "word_at" 266 (R 62)),(E P "holds_leaf" 273 (R 69)),(E P "places_there" 279 (R 74)),(E P "parts_of" 286 (R 81)),(E P "parts_in" 295 (R 88)),(E P "each_once" 302 (R 95)),(E P "parts_fit" 308 (R 100)),(E P "are_knots" 314 (R 105)),(E P "is_link" 323 (R 112)),(E P "can_be_cut" 331 (R 119)),(E P "is_cut" 340 (R 126)),(E P "PLACE_COUNTS" 355 (R 127)),(E P "places_of" 362 (R 134)),(E P "arms_of" 369 (R 141)),(E P "rules_in" 378 (R 148)),(E P "told_by" 385 (R 155)),(E P "taken_by" 391 (R 160)),(E P "demand" 399 (R 167)),(E P "ends_by" 405 (R 172)),(E P "demand_told_once" 418 (R 179)),(E P "fits" 426 (R 186)),(E P "checked_tree" 432 (R 191)),(E P "tree_ends" 439 (R 198)),(E P "_law_mix" 450 (R 205)),(E P "_law_name" 456 (R 210)),(E P "_law_word" 465 (R 217)),(E P "_law_flip" 473 (R 224)),(E P "_law_weight" 480 (R 231)),(E P "_law_mirror" 494 (R 238)),(E P "_law_join" 500 (R 243)),(E P "_law_fold" 512 (R 250)),(E P "_law_cut" 518 (R 255)),(E P "_law_order" 530 (R 262)),(E P "_law_moved" 536 (R 267)),(E P "_law_renamed" 549 (R 274)),(E P "_law_tree" 566 (R 281)),(E P "_law_arms" 573 (R 288)),(E P "_law_gathered" 585 (R 295)),(E P "_law_free" 591 (R 300)),(E P "_law_wholes" 599 (R 307)),(E P "_law_within" 608 (R 314)),(E P "_law_asked" 618 (R 321)),(E P "law" 624 (R 326))] 58)
def xfc:Ob:=fun _=>fX "_law_gathered" 48 m8 294
def xfe:Ob:=fun _=>fX "_law_wholes" 50 m8 306
def xff:Ob:=fun _=>co "_law_free" "_law_free" 586 261 2 0 0 3 296 true 181 297 .none .none .none (R 298) 589
def xfg:Ob:=fun _=>fX "_law_asked" 52 m8 320
def xfi:Ob:=fun _=>cF "_law_within" 600 278 2 308 606
def xfj:Ob:=fun _=>co "law" "law" 619 290 1 0 0 3 322 true 181 323 .none .none .none (R 324) 622
def xfm:Ob:=fun _=>cF "_law_asked" 609 284 2 315 616
def xfq:Ob:=fun _=>fX "_law_free" 49 m8 299
def xfr:Ob:=fun _=>cF "_law_wholes" 592 271 1 301 597
def xft:Ob:=fun _=>fX "_law_within" 51 m8 313
def xfu:Ob:=fun _=>fX "law" 53 m8 325
def xfv:Ob:=fun _=>cF "_law_gathered" 574 247 1 289 583
def ams:List Ob:=[b0,b1,b2,b3,b4,b5,b6,b7,b8,b9,b10,xx,aH,xac,xad]
def ajw:List Ob:=[b0,b1,b2,xe9,b4,b5,b6,b7,b8,b9,b10,xx,fun _=>O .none (.fields #[I 2 0,I 0 0,R 20,I 4 0,I 0 0,R 33,I 9 0,I 0 0,R 47,I 11 0,I 0 0,R 54,I 17 0,I 0 0,R 61,I 22 0,I 0 0,R 68,I 24 0,I 0 0,R 73,I 26 0,I 0 0,R 80,I 30 0,I 0 0,R 87,I 35 0,I 0 0,R 94,I 37 0,I 0 0,R 99,I 41 0,I 0 0,R 104,I 44 0,I 0 0,R 111,I 48 0,I 0 0,R 118,I 50 0,I 0 0,R 125,I 56 0,I 0 0,R 133,I 58 0,I 0 0,R 140,I 60 0,I 0 0,R 147,I 65 0,I 0 0,R 154,I 67 0,I 0 0,R 159,I 76 0,I 0 0,R 166,I 79 0,I 0 0,R 171,I 86 0,I 0 0,R 178,I 97 0,I 0 0,R 185,I 103 0,I 0 0,R 190,I 112 0,I 0 0,R 197,I 115 0,I 0 0,R 204,I 117 0,I 0 0,R 209,I 126 0,I 0 0,R 216,I 131 0,I 0 0,R 223,I 136 0,I 0 0,R 230,I 140 0,I 0 0,R 237,I 153 0,I 0 0,R 242,I 161 0,I 0 0,R 249,I 169 0,I 0 0,R 254,I 191 0,I 0 0,R 261,I 199 0,I 0 0,R 266,I 204 0,I 0 0,R 273,I 212 0,I 0 0,R 280,I 241 0,I 0 0,R 287,I 247 0,I 0 0,R 294,I 261 0,I 0 0,R 299,I 271 0,I 0 0,R 306,I 278 0,I 0 0,R 313,I 284 0,I 0 0,R 320,I 290 0,I 0 0,R 325]),xac,xad,fun _=>tu #[(.type "ValueError")],xal,fun P=>dB P 196 198 "OnceError" 197 200 2 199 201 22,xx,aH,fun _=>cC "OnceError" 191 2 18 194,fun _=>fR 20 17,xx,xag,xa0,xaj,fun _=>sU 24,fun _=>bI 24,fun _=>tu #[R 24],xal,fun P=>dB P 214 216 "BadTree" 215 218 4 217 219 35,xx,aH,fun _=>cC "BadTree" 209 4 31 212,fun _=>fR 33 30,xx,xa3,xax,fun _=>sU 37,fun _=>bI 37,xa1,xaw,xx,aH,fun _=>tu #[S "word" 244],xx,fun _=>gX "is_leaf" 6,xar,xaz,xx,aH,fun _=>tu #[S "word" 251,S "kind" 252],xx,fun _=>gX "turned" 7,xa8,xat,xx,aH,fun _=>tu #[S "knots" 261,S "place" 262,S "knot" 263],xx,fun _=>gX "word_at" 9,xbu,xcg,xx,aH,fun _=>tu #[S "knot" 270],xx,fun _=>gX "holds_leaf" 10,xb3,xbr,xx,aH,fun _=>gX "places_there" 11,xbp,xca,xx,aH,fun _=>tu #[S "knot" 283],xx,fun _=>gX "parts_of" 12,xbx,xbo,xx,aH,fun _=>tu #[S "knots" 290,S "parts" 291,S "knot" 292],xx,fun _=>gX "parts_in" 13,xbh,xb1,xx,aH,fun _=>tu #[S "places" 299],xx,fun _=>gX "each_once" 14,xch,xbd,xx,aH,fun _=>gX "parts_fit" 15,xbk,xb4,xx,aH,fun _=>gX "are_knots" 16,xb0,xbq,xx,aH,fun _=>tu #[S "knots" 318,S "p" 319,S "q" 320],xx,fun _=>gX "is_link" 17,xbf,xby,xx,aH,fun _=>tu #[S "knots" 327,S "place" 328],xx,fun _=>gX "can_be_cut" 18,xce,xbi,xx,aH,fun _=>tu #[S "knots" 335,S "p" 336,S "q" 337],xx,fun _=>gX "is_cut" 19,xbw,xci,xbc,xx,aH,fun _=>tu #[S "rule" 359],xx,fun _=>gX "places_of" 22,xc2,xdr,xx,aH,fun _=>tu #[S "rule" 366],xx,fun _=>gX "arms_of" 23,xdg,xc5,xx,aH,fun _=>tu #[S "rule" 373,S "rules" 374,S "arm" 375],xx,fun _=>gX "rules_in" 24,xcq,xdf,xx,aH,fun _=>tu #[S "rule" 382],xx,fun _=>gX "told_by" 25,xdp,xcv,xx,aH,fun _=>gX "taken_by" 26,xcl,xc8,xx,aH,fun _=>tu #[S "holds" 395,S "words" 396],xx,fun _=>gX "demand" 27,xdt,xcn,xx,aH,fun _=>gX "ends_by" 28,xcu,xdi,xx,aH,fun _=>tu #[S "knots" 409,S "rule" 410,S "there" 411,S "told" 412,S "due" 413,S "here" 414,S "place" 415],xx,fun _=>gX "demand_told_once" 29,xdn,xcr,xx,aH,fun _=>tu #[S "knots" 422,S "rule" 423],xx,fun _=>gX "fits" 30,xc1,xdq,xx,aH,fun _=>gX "checked_tree" 31,xdw,xck,xx,aH,fun _=>tu #[S "tree" 436],xx,fun _=>gX "tree_ends" 32,xc3,xds,xx,aH,fun _=>tu #[S "_law_cell" 445,S "_law_k" 446,S "_law_factor" 447],xx,fun _=>gX "_law_mix" 34,xdh,xc6,xx,aH,fun _=>gX "_law_name" 35,xcw,xdm,xx,aH,fun _=>tu #[S "_law_knots" 460,S "_law_p" 461,S "_law_knot" 462],xx,fun _=>gX "_law_word" 36,xeo,xec,xx,aH,fun _=>tu #[S "_law_word_here" 469,S "_law_sides" 470],xx,fun _=>gX "_law_flip" 37,xd0,xel,xx,aH,fun _=>tu #[S "_law_word_here" 477],xx,fun _=>gX "_law_weight" 38,xe2,xd1,xx,aH,fun _=>tu #[S "_law_knots" 484,S "_law_word_here" 485,S "_law_left" 486,S "_law_right" 487,S "_law_turn" 488,S "_law_same" 489,S "_law_low" 490,S "_law_high" 491],xx,fun _=>gX "_law_mirror" 39,xei,xe5,xx,aH,fun _=>gX "_law_join" 40,xex,xd6,xx,aH,fun _=>tu #[S "_law_knots" 504,S "_law_tree_here" 505,S "_law_one" 506,S "_law_two" 507,S "_law_left" 508,S "_law_right" 509],xx,fun _=>gX "_law_fold" 41,xed,xe0,xx,aH,fun _=>gX "_law_cut" 42,xe8,xdy,xx,aH,fun _=>tu #[S "_law_knots" 522,S "_law_seed" 523,S "_law_p" 524,S "_law_knot" 525,S "_law_rank" 526],fun _=>tu #[S "_law_ranks" 527],fun _=>gX "_law_order" 43,xee,xe1,xx,aH,fun _=>gX "_law_moved" 44,xey,xd7,xx,aH,fun _=>tu #[S "_law_knots" 540,S "_law_rule" 541,S "_law_seed" 542,S "_law_at" 543,S "_law_made" 544,S "_law_p" 545,S "_law_knot" 546],xx,fun _=>gX "_law_renamed" 45,xd8,xew,xx,aH,fun _=>tu #[S "_law_cells" 553,S "_law_seed" 554,S "_law_room" 555,S "_law_knots" 556,S "_law_forest" 557,S "_law_k" 558,S "_law_cell" 559,S "_law_one" 560,S "_law_two" 561,S "_law_deed" 562,S "_law_at" 563],xx,fun _=>gX "_law_tree" 46,xen,xeb,xx,aH,fun _=>tu #[S "_law_rule" 570],xx,fun _=>gX "_law_arms" 47,xdz,xek,xx,aH,fun _=>tu #[S "_law_rule" 577,S "_law_links" 578,S "_law_cuts" 579,S "_law_told" 580,S "_law_stack" 581,S "_law_one" 582],xx,fun _=>gX "_law_gathered" 48,xfv,xfc,xx,aH,fun _=>gX "_law_free" 49,xff,xfq,xx,aH,fun _=>tu #[S "_law_found" 595,S "_law_x" 596],xx,fun _=>gX "_law_wholes" 50,xfr,xfe,xx,aH,fun _=>tu #[S "_law_rule" 603,S "_law_number" 604,S "_law_arms_here" 605],xx,fun _=>gX "_law_within" 51,xfi,xft,xx,aH,fun _=>tu #[S "_law_knots" 612,S "_law_rule" 613,S "_law_handed" 614,S "_law_found" 615],xx,fun _=>gX "_law_asked" 52,xfm,xfg,xx,aH,fun _=>gX "law" 53,xfj,xfu]
def aos:List Ob:=[b0,b1,b2,b3,b4,b5,b6,b7,b8,b9,b10,xx,aH,xac,xad]
def ami:List Ob:=ajw
def hpA(P:Params):Heap:=⟨⟨ams.map (· P)⟩,{}⟩
def hpZ(P:Params):Heap:=⟨⟨ajw.map (· P)⟩,{}⟩
def tr0(P:Params):BT:=bt 20 (aos.map (· P))
def tr6(P:Params):BT:=bt 20 (ami.map (· P))
def sA(w:World)(os:OsState):Shared:=⟨hpA w.params,#[],{},187,os⟩
def sZ(w:World)(os:OsState):Shared:=⟨hpZ w.params,#[],{},625,os⟩
def gL(w:World)(os:OsState):SharedT:=⟨tr0 w.params,15,{},#[],{},187,os⟩
def st6(w:World)(os:OsState):SharedT:=⟨tr6 w.params,327,{},#[],{},625,os⟩
def zG:List Stmt:=((behindTheImports p).drop 0).take 54
theorem ao9(w:World):(fun os=>topGo treeTable p w 11 an 12 ⟨boot_heap w.params,#[],boot_drawn,boot_toks,os⟩ (topStub p))=fun os=>some (sA w os,⟨denote treeTable cE,cE,⟨0,0,0,0⟩,[topFrame q0]⟩):=by kernel_rfl
theorem aox(w:World):(fun os=>segRun treeTable p w 11 an 1 1 (sA w os) (blockOf (behindTheImports p) env0 cE ⟨0,0,0,0⟩ [topFrame q0]))=fun os=>some (.next,(gL w os).abs,cE,⟨0,0,0,0⟩):=by kernel_rfl
theorem ap4(w:World):Pc 1911 gL st6 zG ⟨0,0,0,0⟩ ⟨290,0,298,44⟩ (w.withFollow "special-get-raises" false):=by kernel_rfl
theorem amx(w:World):Pc 1911 gL st6 zG ⟨0,0,0,0⟩ ⟨290,0,298,44⟩ (w.withFollow "special-get-raises" true):=by kernel_rfl
theorem pc1:∀w,Pc 1911 gL st6 zG ⟨0,0,0,0⟩ ⟨290,0,298,44⟩ w:=byRow2 "special-get-raises" ap4 amx
theorem aoq(w:World):(fun os=>topRun treeTable p w 11 an 2 (st6 w os).abs ⟨doneF .next,cE,⟨290,0,298,44⟩,[topFrame q0]⟩)=fun os=>some (sZ w os):=by kernel_rfl
theorem al0:zG++([])=behindTheImports p:=by kernel_rfl
theorem ao6(w:World)(os:OsState):topRun treeTable p w 11 an (12+(1+(1911+(2)))) ⟨boot_heap w.params,#[],boot_drawn,boot_toks,os⟩ (topStub p)=some (sZ w os):=by have h:=(piece_app (l:=zG) (rest:=[]) (segRun_of (DG (pc1 w) os)) (piece_nil (env:=env0) (DG (aoq w) os)));rw[al0] at h;exact go_top (DG (ao9 w) os) (piece_block (DG (aox w) os) h)
def as0:List Nat:=[0,1,2,3,4,5,6,7,8,9,10,13,23,24,25,36,37,40,41,47,48,54,55,61,62,68,69,73,74,80,81,87,88,94,95,99,100,104,105,111,112,118,119,125,126,127,133,134,140,141,147,148,154,155,159,160,166,167,171,172,178,179,185,186,190,191,197,198,204,205,209,210,216,217,223,224,230,231,237,238,242,243,249,250,254,255,257,261,262,266,267,273,274,280,281,287,288,294,295,299,300,306,307,313,314,320,321,325,326]
def vw:Program:={ p with main:={ p.main with body:=[top 1,top 2,top 4,top 5,top 6,top 7,top 9,top 10,top 11,top 12,top 13,top 14,top 15,top 16,top 17,top 18,top 19,top 21,top 22,top 23,top 24,top 25,top 26,top 27,top 28,top 29,top 30,top 31,top 32,top 34,top 35,top 36,top 37,top 38,top 39,top 40,top 41,top 42,top 43,top 44,top 45,top 46,top 47,top 48,top 49,top 50,top 51,top 52,top 53] } }
def K0:Params->Frag:=fun P=>(nat_lit 0,b0 P)::(nat_lit 1,b1 P)::(nat_lit 2,b2 P)::(nat_lit 3,xe9 P)::(nat_lit 4,b4 P)::(nat_lit 5,b5 P)::(nat_lit 6,b6 P)::(nat_lit 7,b7 P)::(nat_lit 8,b8 P)::(nat_lit 9,b9 P)::(nat_lit 10,b10 P)::(nat_lit 13,xac P)::(nat_lit 23,xag P)::(nat_lit 24,xa0 P)::(nat_lit 25,xaj P)::(nat_lit 36,xa3 P)::(nat_lit 37,xax P)::(nat_lit 40,xa1 P)::(nat_lit 41,xaw P)::(nat_lit 47,xar P)::(nat_lit 48,xaz P)::(nat_lit 54,xa8 P)::(nat_lit 55,xat P)::(nat_lit 61,xbu P)::(nat_lit 62,xcg P)::(nat_lit 68,xb3 P)::(nat_lit 69,xbr P)::(nat_lit 73,xbp P)::(nat_lit 74,xca P)::(nat_lit 80,xbx P)::(nat_lit 81,xbo P)::(nat_lit 87,xbh P)::(nat_lit 88,xb1 P)::(nat_lit 94,xch P)::(nat_lit 95,xbd P)::(nat_lit 99,xbk P)::(nat_lit 100,xb4 P)::(nat_lit 104,xb0 P)::(nat_lit 105,xbq P)::(nat_lit 111,xbf P)::(nat_lit 112,xby P)::(nat_lit 118,xce P)::(nat_lit 119,xbi P)::(nat_lit 125,xbw P)::(nat_lit 126,xci P)::(nat_lit 127,xbc P)::(nat_lit 133,xc2 P)::(nat_lit 134,xdr P)::(nat_lit 140,xdg P)::(nat_lit 141,xc5 P)::(nat_lit 147,xcq P)::(nat_lit 148,xdf P)::(nat_lit 154,xdp P)::(nat_lit 155,xcv P)::(nat_lit 159,xcl P)::(nat_lit 160,xc8 P)::(nat_lit 166,xdt P)::(nat_lit 167,xcn P)::(nat_lit 171,xcu P)::(nat_lit 172,xdi P)::(nat_lit 178,xdn P)::(nat_lit 179,xcr P)::(nat_lit 185,xc1 P)::(nat_lit 186,xdq P)::(nat_lit 190,xdw P)::(nat_lit 191,xck P)::(nat_lit 197,xc3 P)::(nat_lit 198,xds P)::(nat_lit 204,xdh P)::(nat_lit 205,xc6 P)::(nat_lit 209,xcw P)::(nat_lit 210,xdm P)::(nat_lit 216,xeo P)::(nat_lit 217,xec P)::(nat_lit 223,xd0 P)::(nat_lit 224,xel P)::(nat_lit 230,xe2 P)::(nat_lit 231,xd1 P)::(nat_lit 237,xei P)::(nat_lit 238,xe5 P)::(nat_lit 242,xex P)::(nat_lit 243,xd6 P)::(nat_lit 249,xed P)::(nat_lit 250,xe0 P)::(nat_lit 254,xe8 P)::(nat_lit 255,xdy P)::(nat_lit 257,aH P)::(nat_lit 261,xee P)::(nat_lit 262,xe1 P)::(nat_lit 266,xey P)::(nat_lit 267,xd7 P)::(nat_lit 273,xd8 P)::(nat_lit 274,xew P)::(nat_lit 280,xen P)::(nat_lit 281,xeb P)::(nat_lit 287,xdz P)::(nat_lit 288,xek P)::(nat_lit 294,xfv P)::(nat_lit 295,xfc P)::(nat_lit 299,xff P)::(nat_lit 300,xfq P)::(nat_lit 306,xfr P)::(nat_lit 307,xfe P)::(nat_lit 313,xfi P)::(nat_lit 314,xft P)::(nat_lit 320,xfm P)::(nat_lit 321,xfg P)::(nat_lit 325,xfj P)::(nat_lit 326,xfu P)::[]
abbrev lamC:Nat:=261
abbrev lamT:Nat:=257
abbrev lamO:Ob:=xee
abbrev ls:List Str:=[Str.ofString "TURNED_KINDS",Str.ofString "PLACE_COUNTS"]
abbrev Xt:Shared->Bool:=fun s=>xlAt vw [] s&&recOk (RowW.records rr.row.toRowW) s
theorem ake(w:World):((boot_heap w.params).isNs mainGlobals&&(#[]:Array GenState).size==0,(boot_heap w.params).objs.size,(boot_heap w.params).nsMap mainGlobals "__annotations__")=(true,11,an):=by kernel_rfl
theorem ano:opening p=plainProg p.main.scope.names:=by kernel_rfl
theorem amy(s:Shared):fenceModules? p s=some s:=by kernel_rfl
theorem lk1(w:World):(fun os=>(staticsOk (importedModules p.main.body) (boot_heap w.params) (hpZ w.params)&&namesBound p (hpZ w.params)&&gensDone (sZ w os)&&laidKept (boot_heap w.params) (hpZ w.params)))=fun _=>true:=by kernel_rfl
theorem lk2(w:World):(fun os=>openSeen vw ls (importedModules p.main.body) Xt true (sZ w os))=fun _=>openGood vw ls:=by kernel_rfl
theorem lk3(w:World):(fun os=>obsZ as0 (sZ w os))=fun _=>valZ K0 327 625 w:=by kernel_rfl
theorem left_:LeftO p vw ls Xt (obsZ as0) (valZ K0 327 625) 3936:=LeftO.of_pieces (boot_open ano rfl amy) ake ao6 rfl fun w=>funext fun os=>looks_pair (DG (lk1 w) os) (looks_pair (DG (lk2 w) os) (DG (lk3 w) os))
end
end H21
open PySem PySem.W PyProof.Rows
set_option maxRecDepth 100000 in
set_option maxHeartbeats 0 in
theorem PySem.Challenge.cw_oncewise_k21_ends_holds : PySem.Challenge.rw_oncewise_k21_ends.Holds := by
 w_on;refine holds_law (by unfold OpenLaw.wellSaid OpenRow.wellSaid OpenRow.partSaid looksOpen;walk_at "y";walk_at "y";walk_at "y";walk_at "y";walk_at "y";walk_at "y";all_goals decide +kernel) fun said=>?_
 refine holds_openX (q:=H21.vw) (loose:=H21.ls) (Xt:=H21.Xt) (XP:=XL H21.vw []) (Yf:=PySem.W.X.obsZ H21.as0) (Ya:=PySem.W.X.valZ H21.K0 327 625) (N:=3936) H21.left_ (fun s e=>xl_of s (Bool.and_eq_true_iff.mp e).1)
  XL.keeps (by rfl) (by rfl) (by rfl) (fun s e=>recFacts_of (Bool.and_eq_true_iff.mp e).2)
  (by rfl) (by decide +kernel) (by decide +kernel) ⟨rfl,rfl,rfl,rfl,rfl,by decide +kernel⟩ ?hw ?hc
 case hw=>w_witness2
 k_fill
 refine L2.walk_ofZT (l:=PySem.Challenge.rw_oncewise_k21_ends) (n:=63) (k:=130) (x:="_law_script") (CX:=L2.CX0) (sp:=L3.spTopT L3.lamQ) rfl (by decide) rfl ⟨rfl,by decide,by decide⟩ (fun _=>rfl) (by decide) ?F ?S ?C
 case F=>
  intro w mg fa h KX G hmg;have T:(H21.K0 w.params).lookup H21.lamT=some (PySem.W.tabObj #[]):=by k_is
  have hc:(H21.K0 w.params).lookup H21.lamC=some (H21.lamO w.params):=by k_is
  have hd:∀h:Heap,h.get? H21.lamC=some (H21.lamO w.params)->PySem.W.CodeHd h H21.lamC H21.lamT:=fun h e=>⟨_,_,_,_,_,_,_,_,_,e,rfl,rfl,rfl,rfl,rfl,rfl,rfl,rfl,by decide⟩;have hb:(H21.K0 w.params).lookup 4=some (PySem.W.boot_o_4 w.params):=by k_is
  have DT:L3.DefInT (L2.lessK H21.lamT (H21.K0 w.params)) "_law_order" K21.s__law_order H21.lamT:=by
   refine' K21.def_inT (L2.ns_dn T ?a) (L2.lk_dn T ?l ?n) (L2.code_dn T ?c) (L2.keep_dn T ?k) ?LC
   (case a=>k_is);(case l=>k_is);(case n=>(intro e;cases e));(case c=>k_is);(case k=>k_is)
   refine'⟨⟨H21.lamC,_,rfl,L2.lk_dn T hc ?m,hd⟩,⟨4,_,L2.ns_dn T ?b,by decide,by decide,L2.lk_dn T hb ?p,rfl,rfl,rfl⟩⟩
   (case m=>(intro e;cases e));(case b=>k_is);(case p=>(intro e;cases e))
  refine⟨H21.lamT,⟨T,⟨H21.lamC,fun h X=>hd h (X _ _ hc)⟩,by decide⟩,?_⟩;refine' K21.all_mk (K:=L2.lessK H21.lamT (H21.K0 w.params)) (L2.lessK_in KX) G hmg ?D0 ?D1 ?D2 ?D3 ?D4 ?D5 ?D6 ?D7 ?D8 ?D9 ?D10 ?D11 ?D12 ?D13 ?D14 ?D15 ?D16 ?D17 ?D18 ?D19 ?D20 ?D21 ?D22 ?D23 ?D24 ?D25 ?D26 ?D27 ?D28 ?D29 ?D30 ?D31 ?D32 ?D33 ?D34 ?D35 ?D36 ?D37 ?D38 ?D39 ?D40 ?D41 ?D42 ?D43 ?aLEAF_KINDS ?lLEAF_KINDS ?aTURNED_KINDS ?lTURNED_KINDS ?hTURNED_KINDS ?aPLACE_COUNTS ?lPLACE_COUNTS ?hPLACE_COUNTS ?zenumerate ?zlen ?zset ?zall ?zrange ?zany ?zlist ?zzip ?zsorted ?zmax ?zmin ?zisinstance ?zint ?ztuple ?zbool
  (case D0 | D1 | D2 | D3 | D4 | D5 | D6 | D7 | D8 | D9 | D10 | D11 | D12 | D13 | D14 | D15 | D16 | D17 | D18 | D19 | D20 | D21 | D22 | D23 | D24 | D25 | D26 | D27 | D28 | D29 | D30 | D31 | D32 | D34 | D35 | D36 | D37 | D38 | D39 | D40 | D41 | D42 | D43=>refine' L2.def_in (L2.ns_dn T ?a) (L2.lk_dn T ?l ?n) (L2.code_dn T ?c) (L2.keep_dn T ?k);(case a=>k_is);(case l=>k_is);(case n=>(intro e;cases e));(case c=>k_is);(case k=>k_is))
  (case D33=>exact DT)
  (case aLEAF_KINDS=>(refine' L2.ns_dn T ?_;k_is))
  (case lLEAF_KINDS=>(refine' L2.lk_dn T ?x ?n;(case x=>k_is);(case n=>(intro e;cases e))))
  (case aTURNED_KINDS=>(refine' L2.ns_dn T ?_;k_is))
  (case lTURNED_KINDS=>(refine' L2.lk_dn T ?x ?n;(case x=>k_is);(case n=>(intro e;cases e))))
  (case hTURNED_KINDS=>rfl)
  (case aPLACE_COUNTS=>(refine' L2.ns_dn T ?_;k_is))
  (case lPLACE_COUNTS=>(refine' L2.lk_dn T ?x ?n;(case x=>k_is);(case n=>(intro e;cases e))))
  (case hPLACE_COUNTS=>rfl)
  (case zenumerate | zlen | zset | zall | zrange | zany | zlist | zzip | zsorted | zmax | zmin | zisinstance | zint | ztuple | zbool=>(refine' L2.ns_dn T ?_;k_is))
 case S=>exact L3.top_startT
 case C=>exact fun _ _ _ _ z=>z
#print axioms PySem.Challenge.cw_oncewise_k21_ends_holds
