import PyProof.Rows.All
import Wide.All
import OpenK.AllK
import Wide.FinOn
import Lean
import PyProof.EqAt
import PyProof.EqKinds
import PyProof.TupleCall
import PyProof.NeKinds
import PySem.Challenge.RW_oncewise_k34_trees_webs_right
import OpenK.ZGo
set_option genSizeOf false
set_option bootstrap.genMatcherCode false
set_option compiler.extract_closed false
set_option hygiene false
local macro_rules | `(tactic| walk_at "t")=>`(tactic| (first | assumption | exact Nat.succ_pos _ | exact qw.tk (by assumption) | exact Nat.lt_of_lt_of_le (qw.tk (by assumption)) (Nat.le_add_right _ _) | exact Nat.lt_of_lt_of_le (qw.tk (by assumption)) (by assumption)))
set_option hygiene true
local macro_rules | `(tactic| walk_at "w")=>`(tactic| conv=>whnf)
local macro_rules | `(tactic| walk_at "y")=>`(tactic| ((refine PySem.W.look_both ?_ ?_);(refine PySem.W.look_both ?_ ?_);(refine PySem.W.look_both ?_ ?_);(refine PySem.W.look_both ?_ ?_);(refine PySem.W.look_both ?_ ?_);(refine PySem.W.look_both ?_ ?_)))
set_option Elab.async false
set_option linter.all false
set_option maxRecDepth 100000
abbrev Aa:=@PySem.wpAny_bind
abbrev Ab:=@PyProof.Rows.wpS_bind
abbrev Ac:=@List.length_append
abbrev Ad:=@PyProof.Rows.wpS_pure
abbrev Ae:=@List.length_map
abbrev Af:=@PySem.W.Frag
abbrev Ag:=@List.mem_append_right
abbrev Ah:=@List.mem_cons_of_mem
abbrev Ai:=@PySem.wpAny_pure
abbrev Aj:=@List.getElem?_eq_getElem
abbrev Ak:=@List.mem_append
abbrev Al:=@List.getElem?_append_right
abbrev Am:=@Nat.le_refl
abbrev An:=@List.mem_cons_self
abbrev Ao:=@List.size_toArray
abbrev Ap:=@List.mem_append_left
abbrev Aq:=@if_neg
abbrev Ar:=@List.mem_cons
abbrev As:=@if_pos
abbrev Au:=@List.mem_singleton
abbrev Av:=@List.getElem?_map
abbrev Aw:=@List.nodup_cons
abbrev Ax:=@List.append_assoc
abbrev Ay:=@List.getElem?_append_left
abbrev Az:=@Bool.false_ne_true
abbrev AA:=@decide_eq_false
abbrev AB:=@decide_eq_true
abbrev AC:=@List.map_append
abbrev AD:=@List.length_cons
abbrev AE:=@Option.map_eq_some_iff
abbrev AF:=@List.mem_range
abbrev AG:=@List.map_cons
abbrev AH:=@Ne.symm
abbrev AI:=@List.mem_of_getElem?
abbrev AJ:=@PyProof.Rows.wpS_forRange
abbrev AK:=@List.nodup_append
abbrev AL:=@Nat.le_trans
abbrev AM:=@Array.length_toList
abbrev AN:=@List.flatMap_append
abbrev AO:=@Nat.lt_of_lt_of_le
abbrev AQ:=@List.pairwise_append
abbrev AR:=@Bool.and_eq_true
abbrev AS:=@PyProof.Rows.wpS_mono
abbrev AU:=@List.flatMap_cons
abbrev AV:=@Option.some.inj
abbrev AW:=@List.length_take
abbrev AX:=@List.length_range
abbrev AY:=@List.getElem?_eq_some_iff
abbrev AZ:=@List.append_nil
abbrev A1:=@PySem.wpAny_mono
abbrev A2:=@Int.natCast_nonneg
abbrev A3:=@Nat.ne_of_lt
abbrev A4:=@Nat.le_add_right
abbrev A5:=@Array.getElem?_toList
abbrev A6:=@Array.toList_append
abbrev A7:=@List.getElem_of_mem
abbrev A8:=@PySem.wpAny_field
abbrev A9:=@List.lookup_cons
abbrev Ba:=@List.mem_flatMap
abbrev Bb:=@PySem.W.mg_none_of
abbrev Bc:=@PySem.wpAny_holding
abbrev Bd:=@List.length_set
abbrev Be:=@List.getElem?_set_ne
abbrev Bf:=@Nat.lt_of_le_of_lt
abbrev Bg:=@List.take_of_length_le
abbrev Bh:=@List.countP_cons
abbrev Bi:=@List.perm_append_right_iff
abbrev Bj:=@List.take_append_drop
abbrev Bk:=@PySem.wpAny_newObj_type
abbrev Bl:=@Nat.zero_le
abbrev Bm:=@Array.size_push
abbrev Bn:=@List.take_length
abbrev Bo:=@List.take_succ
abbrev Bp:=@List.length_singleton
abbrev Bq:=@List.mem_map
abbrev Br:=@List.mem_filter
abbrev Bs:=@PySem.W.kia_one
abbrev Bt:=@PySem.wpAny_rule
abbrev Bu:=@Nat.lt_succ_self
abbrev Bv:=@List.getD_eq_getElem?_getD
abbrev Bw:=@List.nodup_range
abbrev Bx:=@List.getElem_take
abbrev Bz:=@List.mem_of_mem_take
abbrev BA:=@List.perm_append_left_iff
abbrev BB:=@List.length_drop
abbrev BC:=@List.not_mem_nil
abbrev BD:=@PySem.mem_of_lookup
abbrev BE:=@List.perm_append_comm
abbrev BF:=@PySem.wpAny_seqItems
abbrev BG:=@congrArg
abbrev BH:=@Bool.eq_iff_iff
abbrev BI:=@List.find?_cons
abbrev BJ:=@Int.le_trans
abbrev BK:=@decide_eq_true_iff
abbrev BL:=@Array.size_append
abbrev BM:=@Int.le_of_lt
abbrev BN:=@List.Perm.refl
abbrev BO:=@List.map_map
abbrev BP:=@List.drop_eq_getElem_cons
abbrev BQ:=@List.length_replicate
abbrev BR:=@List.countP_congr
abbrev BS:=@PySem.W.kia_tup
abbrev BU:=@Nat.le_of_lt
abbrev BV:=@List.getElem?_set_self
abbrev BW:=@PyProof.Rows.callWith_type1
abbrev BX:=@List.perm_middle
abbrev BY:=@Bool.false_eq_true
abbrev BZ:=@List.perm_append_singleton
abbrev B1:=@List.perm_ext_iff_of_nodup
abbrev B3:=@List.pairwise_iff_getElem
abbrev B4:=@PySem.W.look_both
abbrev B5:=@Int.toNat_natCast
abbrev B6:=@List.getElem_drop
abbrev B7:=@List.pairwise_map
abbrev B8:=@Nat.lt_succ_of_lt
abbrev B9:=@List.any_cons
abbrev Cb:=@List.Pairwise.imp_of_mem
abbrev Cc:=@PyProof.Rows.slot_tuple_getitem
abbrev Cd:=@List.getElem?_range
abbrev Ce:=@List.map_congr_left
abbrev Cf:=@List.mem_map_of_mem
abbrev Cg:=@List.getElem?_replicate
abbrev Ci:=@List.eraseIdx_cons_succ
abbrev Cj:=@Nat.add_sub_cancel_left
abbrev Ck:=@List.getElem_mem
abbrev Cm:=@Int.mul_le_mul_of_nonneg_right
abbrev Cn:=@Nat.le_succ
abbrev Co:=@List.take_append_of_le_length
abbrev Cp:=@Nat.sub_self
abbrev Cq:=@List.filter_append
abbrev Cr:=@Nat.min_eq_left
abbrev Cs:=@List.countP_eq_length_filter
abbrev Ct:=@Nat.lt_irrefl
abbrev Cu:=@List.getElem?_eq_none
abbrev Cv:=@List.singleton_append
abbrev Cw:=@List.countP_eq_length
abbrev Cy:=@PySem.W.kitx_list
abbrev Cz:=@Array.toList_push
abbrev CA:=@List.flatten_cons
abbrev CB:=@List.mem_of_mem_drop
abbrev CC:=@Array.toList_reverse
abbrev CD:=@Nat.le_sub_one_of_lt
abbrev CF:=@List.all_eq_true
abbrev CG:=@List.filter_cons
abbrev CH:=@List.filterMap_cons
abbrev CI:=@List.reverse_append
abbrev CK:=@List.flatten_append
abbrev CL:=@PySem.W.mg_of
abbrev CM:=@List.cons.inj
abbrev CN:=@List.forIn_cons
abbrev CO:=@Bool.or_eq_true
abbrev CP:=@Nat.le_add_left
abbrev CQ:=@Array.size_extract
abbrev CS:=@List.countP_append
abbrev CU:=@List.getElem?_cons_succ
abbrev CV:=@List.length_eraseIdx_le
abbrev CW:=@Int.le_refl
abbrev CY:=@List.eraseIdx_append_of_length_le
abbrev CZ:=@Nat.succ_pos
abbrev C0:=@Nat.ne_of_gt
abbrev C1:=@List.map_nil
abbrev C2:=@Nat.lt_trans
abbrev C3:=@Nat.le_succ_of_le
abbrev C4:=@Nat.zero_add
abbrev C5:=@List.drop_drop
abbrev C6:=@List.drop_left
abbrev C7:=@List.nodup_nil
abbrev C8:=@List.getElem_cons_drop
abbrev C9:=@List.mem_range'_1
abbrev Dc:=@List.Perm.append_right
abbrev Dd:=@List.eraseIdxIfInBounds_toArray
abbrev De:=@Nat.le_of_ble_eq_true
abbrev Df:=@List.Perm.append_left
abbrev Dg:=@Nat.max_eq_right
abbrev Dh:=@List.flatMap_nil
abbrev Di:=@List.drop_append_of_le_length
abbrev Dj:=@List.eq_nil_of_length_eq_zero
abbrev Dk:=@Bool.and_eq_true_iff
abbrev Dl:=@List.of_mem_zip
abbrev Dm:=@Nat.max_eq_left
abbrev Dn:=@List.length_zip
abbrev Do:=@PySem.W.plainGet_of
abbrev Dp:=@Int.add_mul_emod_self_right
abbrev Dq:=@PySem.W.kitx_tuple
abbrev Dr:=@PySem.W.callWith_K
abbrev Ds:=@Nat.lt_or_eq_of_le
abbrev Dt:=@List.getElem?_take
abbrev Du:=@List.getElem?_drop
abbrev Dv:=@List.append_of_mem
abbrev Dw:=@PySem.F.slot_dict_getitem
abbrev Dx:=@PySem.W.kitx_dict
abbrev Dy:=@List.take_sublist
abbrev Dz:=@List.ext_getElem?
abbrev DA:=@List.nodup_range'
abbrev DB:=@List.set_comm
abbrev DC:=@List.getElem?_take_of_lt
abbrev DD:=@List.all_cons
abbrev DE:=@Bool.true_and
abbrev DF:=@List.getElem_append_left
abbrev DG:=@Int.ofNat_inj
abbrev DH:=@PySem.F.plainAttrs_list
abbrev DI:=@List.zipIdx_cons
abbrev DJ:=@List.range'_succ
abbrev DK:=@List.getElem?_set_self'
abbrev DL:=@congrFun
abbrev DM:=@Nat.le_of_eq
abbrev DN:=@PySem.W.cellsFrom_some
abbrev DO:=@Nat.lt_or_ge
abbrev DP:=@List.nil_append
abbrev DQ:=@beq_false_of_ne
abbrev DR:=@Nat.not_lt_zero
abbrev DS:=@List.range_succ
abbrev DU:=@List.filter_nil
abbrev DV:=@Int.emod_nonneg
abbrev DW:=@Bool.and_false
abbrev DX:=@List.forIn_nil
abbrev DY:=@List.drop_zero
abbrev DZ:=@Bool.and_true
abbrev Eb:=@Nat.add_assoc
abbrev Ec:=@Nat.sub_le
noncomputable section
namespace L2
open PySem PyProof.Rows
theorem gy{M:Model}{Γ:Ctx}{p:Pos}{t:Sem Fin}{fs:List Frame}{s s':Shared}{e:End}(h:Runs M Γ p t fs s e s'):s.toks≤s'.toks:=by induction h with|fresh _ ih=>exact AL (Cn _) ih|call _ _ ih1 ih2=>exact AL ih1 ih2|resumeFresh _ _ _ _ ih1 ih2=>exact AL ih1 ih2|resumeSuspended _ _ _ _ ih1 ih2=>exact AL ih1 ih2|segRet _ _ ih1 ih2=>exact AL ih1 ih2|segGen _ _ ih1 ih2=>exact AL ih1 ih2|segSuspGen _ _ _ _ ih1 ih2=>exact AL ih1 ih2|_=>first | exact Am _ | assumption
theorem uA{M:Model}{Γ:Ctx}{p:Pos}{g:Nat}{r:Resume}{s s':Shared}{res:GenResult}(h:Wakes M Γ p g r s res s'):s.toks≤s'.toks:=by
 unfold Wakes at h;split at h
 ·exact h.elim
 ·split at h
  ·obtain⟨e,s1,hr,_,_,rfl⟩:=h;have q:=gy hr;exact q
  ·obtain⟨_,rfl⟩:=h;exact Am _
  ·obtain⟨_,rfl⟩:=h;exact Am _
 ·obtain⟨e,s1,hr,_,_,rfl⟩:=h;have q:=gy hr;exact q
 ·obtain⟨_,rfl⟩:=h;exact Am _
 ·obtain⟨_,rfl⟩:=h;exact Am _
theorem ae6{α:Type}{M:Model}{Γ:Ctx}(t:Sem α):∀{Q:α->Pos->Shared->Prop} {E:Value->Pos->Shared->Prop} {p:Pos} {s:Shared} (n:Nat),n≤s.toks->Sem.wp M Γ t Q E p s->Sem.wp M Γ t (fun a p' s'=>Q a p' s'/\n≤s'.toks) (fun e p' s'=>E e p' s'/\n≤s'.toks) p s:=by induction t with|pure a=>intro Q E p s n hn h;exact⟨h,hn⟩|raise e=>intro Q E p s n hn h;exact⟨h,hn⟩|load a part k ih=>intro Q E p s n hn ⟨o,h1,h2⟩;exact⟨o,h1,ih o n hn h2⟩|update a part f k ih=>intro Q E p s n hn ⟨h1,h2⟩;exact⟨h1,ih () n hn h2⟩|fresh k ih=>intro Q E p s n hn h;exact ih s.toks n (AL hn (Cn _)) h|choose src m k ih=>intro Q E p s n hn ⟨h1,h2⟩;exact⟨h1,ih _ n hn h2⟩|call c hd g l k ih=>intro Q E p s n hn ⟨r,s',h1,h2⟩;exact⟨r,s',h1,ih r n (AL hn (gy h1)) h2⟩|genState g k ih=>intro Q E p s n hn ⟨st,h1,h2⟩;exact⟨st,h1,ih _ n hn h2⟩|resume g r l k ih=>intro Q E p s n hn ⟨res,s',h1,h2⟩;exact⟨res,s',h1,ih _ n (AL hn (uA h1)) h2⟩|rule tag k ih=>intro Q E p s n hn h;exact ih () n hn h|«at» pos k ih=>intro Q E p s n hn h;exact ih () n hn h|alloc o k ih=>intro Q E p s n hn h;exact ih _ n hn h|loadIfAlive a k ih=>intro Q E p s n hn h;exact ih _ n hn h|point l k ih=>intro Q E p s n hn h;exact ih _ n hn h|ask k ih=>intro Q E p s n hn h;exact ih _ n hn h|os q l k ih=>intro Q E p s n hn h;exact ih _ n hn h|handled own k ih=>intro Q E p s n hn h;exact ih _ n hn h|newGen c k ih=>intro Q E p s n hn h;exact ih _ n hn h|stack k ih=>intro Q E p s n hn h;exact ih _ n hn h|thread k ih=>intro Q E p s n hn h;exact ih _ n hn h|unsupported w=>intro Q E p s n hn h;exact h.elim|finish e=>intro Q E p s n hn h;exact h.elim|register a k ih=>intro Q E p s n hn h;exact h.elim|yield v g l k ih=>intro Q E p s n hn h;exact h.elim|fork c k ih=>intro Q E p s n hn h;exact h.elim|await a f d l k ih=>intro Q E p s n hn h;exact h.elim
theorem tL{α:Type}{M:Model}{A:Around}{t:Sem α}{Q:α->Shared->Prop}{E:Value->Shared->Prop}{s:Shared}(h:wpAny M A t Q E s):wpAny M A t (fun a s'=>Q a s'/\s.toks≤s'.toks) (fun e s'=>E e s'/\s.toks≤s'.toks) s:=
 fun Γ p hΓ=>ae6 t s.toks (Am _) (h Γ p hΓ)
theorem jw{α:Type}{M:Model}{A:Around}{t:Sem α}{Q:α->Shared->Prop}{E:Value->Shared->Prop}{s:Shared}(hp:0<s.toks)(h:wpAny M A t (fun a s'=>0<s'.toks->Q a s') (fun e s'=>0<s'.toks->E e s') s):wpAny M A t Q E s:=
 A1 (tL h) (fun _ _ z=>z.1 (AO hp z.2)) fun _ _ z=>z.1 (AO hp z.2)
end L2
variable {M:PySem.Model}{apos cpos kpos p p1 p2 p3 p4 p5 pos pos' py tp:PySem.Pos}{t t1 t2:Bool}{s s':PySem.Shared}{c e elt o target tg value:PySem.Expr}{α β κ:Type}{A:PySem.Around}{E Q:PySem.Value->PySem.Shared->Prop}{its us vs:List PySem.Value}{cdv doc oc pm u:PySem.Value}{base h h':PySem.Heap}{d i j kt m n na t' x1:Nat}{ch fp:List PySem.Addr}{C Pt dx f fa hp it ka l l1 l2 pa:PySem.Addr}{kx name px q qual x:PySem.Str}{pins:List (PySem.Addr×PySem.Obj)}{st:PySem.Stmt}{elts es ifs:List PySem.Expr}{body:List PySem.Stmt}{R:Nat->Nat->Prop}{B lo:Int}{mA mg:PySem.Str->Option PySem.Value}{kw:List (PySem.Str×PySem.Value)}{prog:PySem.Program}{env:PySem.Env}{fd:PySem.FuncData}{ps:List PySem.Str}{lscope scope:PySem.Scope}{ct lk:List (Nat×Nat)}{an od:Option PySem.Addr}{osl:Array (Option PySem.Value)}{hs hs' qs:List Nat}{rk:Nat->Nat}{rks:List Int}
namespace L2
open PySem PySem.Spec PyProof.Rows
abbrev jg:=Sum Int Str
def lL:jg->Value->Bool
 |.inl k,v=>Value.isInt k v
 |.inr x,v=>Value.isStrOf x v
def aqg(w:World):jg->Int
 |.inl k=>hashInt k
 |.inr x=>hashStr w x
theorem xn:∀{k:jg} {v:Value},lL k v=true->(∃i t,k=Sum.inl i/\v=Value.int i t)\/(∃x t,k=Sum.inr x/\v=Value.str x t)
 |.inl i,v,h=>by obtain⟨t,e⟩:=Value.isInt_shape (k:=i) (v:=v) h;exact .inl ⟨i,t,rfl,e⟩
 |.inr x,v,h=>by obtain⟨t,e⟩:=Value.isStrOf_shape (x:=x) (v:=v) h;exact .inr ⟨x,t,rfl,e⟩
theorem yh(i:Int)(t:Tok):lL (.inl i) (.int i t)=true:=by simp[lL,Value.isInt]
theorem y4(x:Str)(t:Tok):lL (.inr x) (.str x t)=true:=by simp[lL,Value.isStrOf]
theorem ahg(a b:Int):decide ((Sum.inl a:jg)=Sum.inl b)=(a==b):=by
 by_cases e:a=b
 ·subst e;simp
 ·have h:¬(Sum.inl a:jg)=Sum.inl b:=fun q=>e (Sum.inl.inj q);rw[AA h];exact(beq_eq_false_iff_ne.mpr e).symm
theorem aid(a b:Str):decide ((Sum.inr a:jg)=Sum.inr b)=decide (a=b):=by
 by_cases e:a=b
 ·subst e;simp
 ·have h:¬(Sum.inr a:jg)=Sum.inr b:=fun q=>e (Sum.inr.inj q);rw[AA h,AA e]
theorem aii(a:Int)(b:Str):decide ((Sum.inl a:jg)=Sum.inr b)=false:=AA (fun q=>nomatch q)
theorem akk(a:Str)(b:Int):decide ((Sum.inr a:jg)=Sum.inl b)=false:=AA (fun q=>nomatch q)
def xm(prog:Program)(w:World):PySem.KeyKind prog w jg where
 is:=lL
 hash:=aqg w
 inj:=fun v a b ha hb=>by
  rcases xn ha with⟨i,t,rfl,rfl⟩ | ⟨x,t,rfl,rfl⟩
  ·rcases xn hb with⟨j,u,rfl,e⟩ | ⟨y,u,rfl,e⟩
   ·injection e with e1 _;rw[e1]
   ·exact nomatch e
  ·rcases xn hb with⟨j,u,rfl,e⟩ | ⟨y,u,rfl,e⟩
   ·exact nomatch e
   ·injection e with e1 _;rw[e1]
 byValue:=fun k v h=>by rcases xn h with⟨i,t,rfl,rfl⟩ | ⟨x,t,rfl,rfl⟩<;>rfl
 pyHash:=fun hv h=>by
  rcases xn hv with⟨i,t,rfl,rfl⟩ | ⟨x,t,rfl,rfl⟩
  ·exact wpAny_pyHash_int h
  ·exact wpAny_pyHash_str h
 eqBool:=fun hu hv h=>by
  rcases xn hu with⟨i,t,rfl,rfl⟩ | ⟨x,t,rfl,rfl⟩
  ·rcases xn hv with⟨j,u,rfl,rfl⟩ | ⟨y,u,rfl,rfl⟩
   ·rw[ahg] at h;exact wpAny_eqBool_int h
   ·rw[aii] at h;exact SeqAt.EqAt.int_str i t y u _ _ _ _ h
  ·rcases xn hv with⟨j,u,rfl,rfl⟩ | ⟨y,u,rfl,rfl⟩
   ·rw[akk] at h;exact SeqAt.EqAt.str_int x t j u _ _ _ _ h
   ·rw[aid] at h;exact wpAny_eqBool_str h
 «strs» := fun k x t v h=>by
  rcases xn h with⟨i,u,rfl,e⟩ | ⟨y,u,rfl,e⟩
  ·exact nomatch e
  ·injection e with e1 _
   subst e1;cases v<;>rfl
theorem sm(prog:Program)(w:World)(i:Int)(t:Tok):(xm prog w).is (.inl i) (.int i t)=true:=yh i t
theorem rX(prog:Program)(w:World)(x:Str)(t:Tok):(xm prog w).is (.inr x) (.str x t)=true:=y4 x t
inductive V where
 |non | bl (b:Bool) | int (i:Int) | str (x:Str) | byt (b:Array UInt8) | flt (b:UInt64) | ref (a:Addr) | ty (n:String)
 deriving DecidableEq
def zo:V->Value->Prop
 |.non,u=>u=Value.none
 |.bl b,u=>u=Value.bool b
 |.int i,u=>∃t,u=Value.int i t
 |.str x,u=>∃t,u=Value.str x t
 |.byt b,u=>∃t,u=Value.bytes b t
 |.flt b,u=>∃t,u=Value.float b t
 |.ref a,u=>u=Value.ref a
 |.ty n,u=>u=Value.type n
abbrev zk:List V->List Value->Prop:=Paired zo
theorem zk.length{xs:List V}(r:zk xs us):xs.length=us.length:=Paired.length r
theorem zk.get:∀{xs:List V} {us:List Value} {i:Nat} {x:V},zk xs us->xs[i]?=some x->∃u,us[i]?=some u/\zo x u
 |_,_,_,_,.nil,e=>by simp at e
 |_,_,0,_,.cons r _,e=>by simp at e;subst e;exact⟨_,rfl,r⟩
 |_,_,i+1,x,.cons _ t,e=>by obtain⟨u,h1,h2⟩:=zk.get (i:=i) (x:=x) t (by simpa using e);exact⟨u,by simpa using h1,h2⟩
theorem zk.set{x:V}{u:Value}(r:zo x u):∀{xs:List V} {us:List Value} (i:Nat),zk xs us->zk (xs.set i x) (us.set i u)
 |_,_,_,.nil=>.nil
 |_,_,0,.cons _ t=>.cons r t
 |_,_,i+1,.cons q t=>.cons q (zk.set r i t)
theorem zk.append:∀{xs ys:List V} {us ws:List Value},zk xs us->zk ys ws->zk (xs++ys) (us++ws)
 |_,_,_,_,.nil,s=>s
 |_,_,_,_,.cons r t,s=>.cons r (zk.append t s)
theorem zk.take:∀{xs:List V} {us:List Value} (n:Nat),zk xs us->zk (xs.take n) (us.take n)
 |_,_,0,_=>.nil
 |_,_,_+1,.nil=>.nil
 |_,_,n+1,.cons r t=>.cons r (zk.take n t)
theorem zk.drop:∀{xs:List V} {us:List Value} (n:Nat),zk xs us->zk (xs.drop n) (us.drop n)
 |_,_,0,r=>r
 |_,_,_+1,.nil=>.nil
 |_,_,n+1,.cons _ t=>zk.drop n t
def cN:Option V->Option Value->Prop
 |some v,some u=>zo v u
 |none,none=>True
 |_,_=>False
def KV :List (κ×V)->List (κ×Value)->Prop:=Paired fun(p:κ×V) (q:κ×Value)=>p.1=q.1/\zo p.2 q.2
def kV:jg->V
 |.inl i=>.int i
 |.inr x=>.str x
inductive HO where
 |lst (xs:List V)
 |tup (xs:List V)
 |dK (kvs:List (jg×V)) | dT (kvs:List (List jg×V))
 |set (S:Int->Bool) (n:Nat)
 |ins (C dx:Addr) (fs:List (Str×V))
 |own (x:Addr)
 |xd (fs:List (Str×V))
 |met (f x:Addr)
 |rng (lo hi:Int)
 |frz (o:Obj) (u:HO)
 |tbl (ps:Array Value)
 |ext (φ:Heap->Prop)
abbrev Hp:=Addr->Option HO
def upd(H:Hp)(a:Addr)(o:HO):Hp:=fun b=>if b=a then some o else H b
theorem zv{H:Hp}{a:Addr}{o:HO}:upd H a o a=some o:=by unfold upd;rw[As rfl]
theorem qo{H:Hp}{a b:Addr}{o:HO}(h:b≠a):upd H a o b=H b:=by unfold upd;rw[Aq h]
theorem afc{H:Hp}{a:Addr}{o u:HO}:upd (upd H a o) a u=upd H a u:=by funext b;unfold upd;split<;>rfl
theorem amc{H:Hp}{a b:Addr}{o u:HO}(h:H a=some o)(h':H b=some u)(d:o≠u):a≠b:=by intro e;subst e;rw[h] at h';exact d (AV h')
theorem j5{H:Hp}{a b:Addr}{o:HO}(h:H a=some o)(h':H b=none):a≠b:=by intro e;subst e;rw[h] at h';cases h'
section
variable (P:Program)(w:World)
def xg(H:Hp)(h:Heap)(a:Addr):HO->Prop
 |.lst xs=>xs.length≤sizeLine/\∃(its:List Value) (n:Nat),zk xs its/\h.get? a=some { cls:=.type "list",data:=.seq its.toArray n }
 |.tup xs=>xs.length≤sizeLine/\∃its:List Value,zk xs its/\IsTup h a its.toArray
 |.dK kvs=>kvs.length≤sizeLine/\(a==sysModules)=false/\∃vs,KV kvs vs/\h.DictOf (xm P w) a vs
 |.dT kvs=>kvs.length≤sizeLine/\(a==sysModules)=false/\∃xs:List (List jg×Addr×Value),
  Paired (fun(p:List jg×V) (q:List jg×Addr×Value)=>p.1=q.1/\H q.2.1=some (.tup (p.1.map kV))/\zo p.2 q.2.2) kvs xs/\
  ∃o es ep,h.get? a=some o/\o.ExactDict/\o.data=.dict es ep/\es.toList=xs.map (entryOfKey (tupleKind (xm P w)))/\(xs.map (·.1)).Nodup
 |.set S n=>h.SetOf (intKind P w) a S n
 |.ins C dx fs=>H dx=some (.own a)/\fs.length≤1000/\dx≠a/\h.get? a=some (PySem.W.instObj C dx)/\
  ∃mA,h.Ns1 dx mA/\(∀f,cN (fs.lookup f) (mA f))/\PySem.Within mA (fs.map (·.1))
 |.own _=>∃o,h.get? a=some o
 |.xd fs=>∃mA,h.Ns1 a mA/\∀f,cN (fs.lookup f) (mA f)
 |.rng lo hi=>∃t u v,h.get? a=some { cls:=.type "range",data:=.fields #[.int lo t,.int hi u,.int 1 v] }
 |.frz o u=>h.get? a=some o/\xg H h a u
 |.tbl ps=>h.get? a=some { cls:=.none,data:=.fields ps }
 |.met f x=>h.get? a=some (PySem.W.methodObj (.ref f) (.ref x))
 |.ext φ=>φ h/\(∃o,h.get? a=some o)/\∀h1 h2:Heap,φ h1->(∀o,h1.get? a=some o->h2.get? a=some o)->φ h2
def eB(H:Hp)(h:Heap):Prop:=∀a o,H a=some o->xg P w H h a o
end
section
variable {P:Program}{w:World}{H H':Hp}{a:Addr}{o:HO}
theorem xg.lt(x:xg P w H h a o):a<h.objs.size:=by
 cases o with
 |lst xs=>obtain⟨_,_,_,_,e⟩:=x;exact Heap.lt_size e
 |tup xs=>obtain⟨_,_,_,p⟩:=x;exact p.lt
 |dK kvs=>obtain⟨_,_,_,_,o,_,_,e,_⟩:=x;exact Heap.lt_size e
 |dT kvs=>obtain⟨_,_,_,_,o,_,_,e,_⟩:=x;exact Heap.lt_size e
 |set S n=>obtain⟨o,_,_,_,e,_⟩:=x;exact Heap.lt_size e
 |ins C dx fs=>obtain⟨_,_,_,e,_⟩:=x;exact Heap.lt_size e
 |own y=>obtain⟨_,e⟩:=x;exact Heap.lt_size e
 |xd fs=>obtain⟨_,⟨_,_,_,e,_⟩,_⟩:=x;exact Heap.lt_size e
 |rng lo hi=>obtain⟨_,_,_,e⟩:=x;exact Heap.lt_size e
 |frz ob u=>obtain⟨e,_⟩:=x;exact Heap.lt_size e
 |tbl ps=>exact Heap.lt_size (show h.get? a=some _ from x)
 |met f y=>exact Heap.lt_size (show h.get? a=some _ from x)
 |ext φ=>obtain⟨_,⟨_,e⟩,_⟩:=x;exact Heap.lt_size e
theorem Paired.mapP{α β:Type}{F G:α->β->Prop}:∀{l₁:List α} {l₂:List β},Paired F l₁ l₂->(∀a b,F a b->G a b)->Paired G l₁ l₂
 |_,_,.nil,_=>.nil
 |_,_,.cons r t,f=>.cons (f _ _ r) (Paired.mapP t f)
abbrev EH:=@Paired.mapP
theorem xg.stay(x:xg P w H h a o)(k:∀b u,(b=a\/H b=some (.own a))->h.get? b=some u->h'.get? b=some u)
 (ho:∀b,H b=some (.own a)->H' b=some (.own a)) (ht:∀b xs,H b=some (.tup xs)->H' b=some (.tup xs)):xg P w H' h' a o:=by
 induction o with
 |lst xs=>obtain⟨z,its,n,r,e⟩:=x;exact⟨z,its,n,r,k _ _ (.inl rfl) e⟩
 |tup xs=>obtain⟨z,its,r,ob,e,c⟩:=x;exact⟨z,its,r,ob,k _ _ (.inl rfl) e,c⟩
 |dK kvs=>obtain⟨z,y,vs,r,ob,es,ep,e,c⟩:=x;exact⟨z,y,vs,r,ob,es,ep,k _ _ (.inl rfl) e,c⟩
 |dT kvs=>
  obtain⟨z,y,xs,r,ob,es,ep,e,c⟩:=x;exact⟨z,y,xs,EH r fun p q z=>⟨z.1,ht _ _ z.2.1,z.2.2⟩,ob,es,ep,k _ _ (.inl rfl) e,c⟩
 |set S n=>obtain⟨ob,es,ep,t,e,c⟩:=x;exact⟨ob,es,ep,t,k _ _ (.inl rfl) e,c⟩
 |ins C dx fs=>
  obtain⟨d,z,ne,e,mA,⟨od,es,ep,e2,c⟩,r⟩:=x;exact⟨ho _ d,z,ne,k _ _ (.inl rfl) e,mA,⟨od,es,ep,k _ _ (.inr d) e2,c⟩,r⟩
 |own y=>obtain⟨ob,e⟩:=x;exact⟨ob,k _ _ (.inl rfl) e⟩
 |xd fs=>obtain⟨mA,⟨od,es,ep,e,c⟩,r⟩:=x;exact⟨mA,⟨od,es,ep,k _ _ (.inl rfl) e,c⟩,r⟩
 |rng lo hi=>obtain⟨t,u,v,e⟩:=x;exact⟨t,u,v,k _ _ (.inl rfl) e⟩
 |frz ob u ih=>obtain⟨e,q⟩:=x;exact⟨k _ _ (.inl rfl) e,ih q⟩
 |tbl ps=>
  have e:h.get? a=some { cls:=.none,data:=.fields ps }:=x;show h'.get? a=some { cls:=.none,data:=.fields ps };exact k a _ (.inl rfl) e
 |met f y=>
  have e:h.get? a=some (PySem.W.methodObj (.ref f) (.ref y)):=x;show h'.get? a=some (PySem.W.methodObj (.ref f) (.ref y));exact k a _ (.inl rfl) e
 |ext φ=>obtain⟨p,⟨o,e⟩,st⟩:=x;exact⟨st _ _ p fun o q=>k _ _ (.inl rfl) q,⟨o,k _ _ (.inl rfl) e⟩,st⟩
theorem eB.lt(x:eB P w H h)(e:H a=some o):a<h.objs.size:=(x a o e).lt
theorem eB.fresh(x:eB P w H h)(e:h.objs.size≤a):H a=none:=by cases q:H a with|none=>rfl|some u=>exact absurd (AO (x.lt q) e) (Ct _)
theorem eB.kept(x:eB P w H h)(k:∀b u,h.get? b=some u->h'.get? b=some u):eB P w H h':=fun a o e=>
 (x a o e).stay (fun b u _ q=>k b u q) (fun _ q=>q) fun _ _ q=>q
theorem eB.laid(x:eB P w H h)(k:∀b u,h.get? b=some u->h'.get? b=some u)(hp:h.objs.size≤a)(new:xg P w (upd H a o) h' a o):eB P w (upd H a o) h':=fun b u e=>by
 have hn:=x.fresh hp;by_cases hb:b=a
 ·subst hb;rw[zv] at e;cases e;exact new
 ·rw[qo hb] at e;exact(x b u e).stay (fun c v _ q=>k c v q) (fun c q=>by rw[qo (j5 q hn)];exact q) fun c xs q=>by rw[qo (j5 q hn)];exact q
end
def Rd(H:Hp)(a:Addr)(u:HO):Prop:=H a=some u\/∃o,H a=some (.frz o u)
theorem Rd.ok{P:Program}{w:World}{H:Hp}{a:Addr}{u:HO}(r:Rd H a u)(x:eB P w H h):xg P w H h a u:=by
 rcases r with r | ⟨o,r⟩
 ·exact x a u r
 ·obtain⟨_,q⟩:=x a _ r;exact q
def Mut:Option HO->Prop
 |some (.lst _)=>True
 |some (.dK _)=>True
 |some (.dT _)=>True
 |some (.set _ _)=>True
 |some (.ins _ _ _)=>True
 |some (.ext _)=>True
 |_=>False
section
variable {P:Program}{w:World}{H:Hp}{x e:Addr}{o':HO}
theorem eB.write(ok:eB P w H h)(mu:Mut (H x))(he:e=x\/H e=some (.own x))(k:∀b u,b≠e->h.get? b=some u->h'.get? b=some u)(heo:∃u,h'.get? e=some u)
 (new:xg P w (upd H x o') h' x o'):eB P w (upd H x o') h':=fun b u q=>by
 have nown:∀c y,H c=some (.own y)->c≠x:=fun c y r z=>by subst z;rw[r] at mu;exact mu
 have ntup:∀c xs,H c=some (.tup xs)->c≠x:=fun c xs r z=>by subst z;rw[r] at mu;exact mu
 by_cases hb:b=x
 ·subst hb;rw[zv] at q;cases q;exact new
 ·rw[qo hb] at q;by_cases hbe:b=e
  ·have q':H b=some (.own x):=by
    rcases he with z | z
    ·exact absurd (hbe.trans z) hb
    ·rw[hbe];exact z
   rw[q] at q';cases q';obtain⟨v,hv⟩:=heo;exact⟨v,by rw[hbe];exact hv⟩
  ·refine(ok b u q).stay (fun c v hc r=>k c v ?_ r) (fun c r=>by rw[qo (nown c b r)];exact r) fun c xs r=>by rw[qo (ntup c xs r)];exact r
   rcases hc with rfl | hc
   ·exact hbe
   ·rintro rfl;rcases he with z | z
    ·exact nown c b hc z
    ·rw[hc] at z;cases z;exact hb rfl
end
structure Un(fs ex:List Addr)(H H':Hp)(h h':Heap):Prop where
 keep:∀b o,h.get? b=some o->H b=none->b∉fs->b∉ex->h'.get? b=some o
 slot:∀b o,h.get? b=some o->H b=none->b∈fs->b∉ex->∃sl,h'.get? b=some { o with slots:=sl }
 free:∀b o,h.get? b=some o->H b=none->b∉ex->H' b=none
 there:∀b o,h.get? b=some o->b∉ex->∃o',h'.get? b=some o'
 tups:∀b xs,H b=some (.tup xs)->H' b=some (.tup xs)
 frzs:∀b o u,H b=some (.frz o u)->H' b=some (.frz o u)
 tbls:∀b ps,H b=some (.tbl ps)->∃more,H' b=some (.tbl (ps++more))
section
variable {fs fs' ex ex':List Addr}{H H1 H2:Hp}{h1 h2:Heap}{a x e:Addr}{o:HO}
theorem Un.any(u:Un fs ex H H1 h h1){b:Addr}{ob:Obj}(q:h.get? b=some ob)(n:H b=none)(hx:b∉ex):∃sl,h1.get? b=some { ob with slots:=sl }:=by
 by_cases hb:b∈fs
 ·exact u.slot b ob q n hb hx
 ·exact⟨ob.slots,u.keep b ob q n hb hx⟩
theorem Un.kept(k:∀b u,h.get? b=some u->h'.get? b=some u):Un fs ex H H h h':=
 ⟨fun b ob q _ _ _=>k b ob q,fun b ob q _ _ _=>⟨ob.slots,k b ob q⟩,fun _ _ _ n _=>n,fun b ob q _=>⟨ob,k b ob q⟩,fun _ _ q=>q,fun _ _ _ q=>q,fun _ ps q=>⟨#[],by rw[q];simp⟩⟩
theorem Un.refl:Un fs ex H H h h:=Un.kept fun _ _ q=>q
theorem Un.laid(k:∀b u,h.get? b=some u->h'.get? b=some u)(hp:h.objs.size≤a)(hn:H a=none):Un fs ex H (upd H a o) h h' where
 keep:=fun b u q _ _ _=>k b u q
 slot:=fun b u q _ _ _=>⟨u.slots,k b u q⟩
 free:=fun b u q n _=>by rw[qo (A3 (AO (Heap.lt_size q) hp))];exact n
 there:=fun b u q _=>⟨u,k b u q⟩
 tups:=fun b xs q=>by rw[qo (j5 q hn)];exact q
 frzs:=fun b u xs q=>by rw[qo (j5 q hn)];exact q
 tbls:=fun b ps q=>⟨#[],by rw[qo (j5 q hn),q];simp⟩
theorem Un.write(mu:Mut (H x))(he:e=x\/H e=some (.own x))(k:∀b u,b≠e->h.get? b=some u->h'.get? b=some u)(heo:∃u,h'.get? e=some u):Un fs ex H (upd H x o) h h':=by
 have hx:∀b,H b=none->b≠x:=fun b n z=>by subst z;rw[n] at mu;exact mu
 have hb:∀b,H b=none->b≠e:=fun b n z=>by
  subst z;rcases he with r | r
  ·exact hx b n r
  ·rw[n] at r;cases r
 have hm:∀b u,H b=some u->¬Mut (some u)->b≠x:=fun b u q nm z=>by subst z;rw[q] at mu;exact nm mu
 refine⟨fun b u q n _ _=>k b u (hb b n) q,fun b u q n _ _=>⟨u.slots,k b u (hb b n) q⟩,fun b u q n _=>by rw[qo (hx b n)];exact n,fun b u q _=>?_,
  fun b xs q=>by rw[qo (hm b _ q fun z=>z)];exact q,fun b u xs q=>by rw[qo (hm b _ q fun z=>z)];exact q,fun b ps q=>⟨#[],by rw[qo (hm b _ q fun z=>z),q];simp⟩⟩
 by_cases hbe:b=e
 ·subst hbe;exact heo
 ·exact⟨u,k b u hbe q⟩
end
def trk(h:Heap)(H:Hp):List Addr:=(List.range h.objs.size).filter fun a=>(H a).isSome
def oI(h:Heap)(H:Hp):Heap:=PySem.W.hideAll h (trk h H)
theorem yQ(h:Heap)(H:Hp):(oI h H).objs.size=h.objs.size:=PySem.W.hideAll_size _ _
theorem aao{H:Hp}{b:Addr}{o:Obj}(e:h.get? b=some o)(n:H b=none):(oI h H).get? b=some o:=
 PySem.W.hideAll_get _ e fun hm=>by have q:(H b).isSome=true:=(Br.mp hm).2;rw[n] at q;simp at q
theorem aeu{H:Hp}{b:Addr}{o:Obj}(e:(oI h H).get? b=some o):h.get? b=some o/\H b=none:=by
 have e':h.get? b=some o:=PySem.W.of_hideAll (trk h H) e;refine⟨e',?_⟩;cases q:H b with
 |none=>rfl
 |some x=>
  have hm:b∈trk h H:=Br.mpr ⟨AF.mpr (Heap.lt_size e'),by simp[q]⟩;have z:(oI h H).get? b=none:=PySem.W.hideAll_none (trk h H) hm;rw[z] at e;cases e
end L2
variable {xs zs:List L2.V}{H H' H₀:L2.Hp}{v:L2.V}{kvs:List (List L2.jg×L2.V)}
namespace L2
open PySem PySem.Spec PyProof.Rows
structure Mod(K:Af)(mg:Str->Option Value)(base:Heap):Prop where
 kin:K.In base
 glob:base.Ns mainGlobals mg
 blt:∃mb,base.Ns builtinsNs mb/\∀x:Str,x ≠ "__name__" -> mb x=bootBuiltins x
 nolimit:base.NoLimit
structure Cx where
 prog:Program
 w:World
 K:Af
 mg:Str->Option Value
 base:Heap
 A:Around
 N:List Str
 s₀:Shared
 H₀:Hp
 env:Env
 outer:List Env
 stack:List Env
 ex:List Addr
 fn:Str->Bool
 calm:Bool
 pn:List (Addr×Obj)
 xe:Value->Shared->Prop
def yG(l:List Env):List Addr:=l.filterMap (·.frame)
abbrev Cx.fs(X:Cx):List Addr:=yG X.outer
def Vis(sc:Scope)(x:Str):Prop:=sc.names.lookup x=some .local\/sc.names.lookup x=some .cell\/sc.names.lookup x=some .free
def Loc(sc:Scope)(x:Str):Prop:=sc.names.lookup x=some .local\/sc.names.lookup x=some .cell
def ao6(env:Env)(h:Heap)(m:Str->Option Value)(x:Str)(u:Value):Prop:=
 (env.kindOf x=some .local/\m x=some u)\/((env.kindOf x=some .cell\/env.kindOf x=some .free)/\∃c,env.cells.lookup x=some c/\h.IsCell c (some u))
structure Cx.Ok(X:Cx):Prop where
 mod:Mod X.K X.mg X.base
 kind:X.env.scope.kind=.function
 glob:X.env.globals=mainGlobals
 blt:X.env.builtins=builtinsNs
 above:X.s₀.heap.objs.size≤X.env.locals
 inj:∀x y c,X.env.cells.lookup x=some c->X.env.cells.lookup y=some c->x=y
 has:∀x,(X.env.kindOf x=some .cell\/X.env.kindOf x=some .free)->∃c,X.env.cells.lookup x=some c
 cab:∀x c,X.fn x=true->X.env.cells.lookup x=some c->X.s₀.heap.objs.size≤c
 hd:X.calm=true->X.A.handled=none
 frames:X.A.frames=some X.stack
 stk:X.stack=X.outer\/(X.stack=X.env::X.outer/\X.env.frame=some X.env.locals)
 exf:∀b∈X.ex,b≠X.env.locals/\∀x c,X.env.cells.lookup x=some c->c≠b
 bs:∀b o,X.base.get? b=some o->X.s₀.heap.get? b=some o/\X.H₀ b=none
 bsz:X.base.objs.size≤X.s₀.heap.objs.size
 noex:∀b o,X.base.get? b=some o->b∉X.ex
 exfs:∀b∈X.ex,b∉X.fs
 funs:X.s₀.heap.FunFrames X.base X.outer
 frf:∀b∈X.fs,X.H₀ b=none
structure qw(X:Cx)(pins:List (Addr×Obj))(σ:List (Option V))(H:Hp)(s:Shared):Prop where
 ok:X.Ok
 os:s.os=X.s₀.os
 bare:AllBare s.gens
 base:Un X.fs X.ex X.H₀ H X.s₀.heap s.heap
 loc:∃m,s.heap.Ns X.env.locals m/\∀(i:Nat) (x:Str) (v:V),X.N[i]?=some x->σ[i]?=some (some v)->Vis X.env.scope x->∃u,zo v u/\ao6 X.env s.heap m x u
 cell:∀x c,X.env.cells.lookup x=some c->∃v,s.heap.IsCell c v
 free:H X.env.locals=none
 freeC:∀x c,X.env.cells.lookup x=some c->H c=none
 pin:∀p∈X.pn++pins,s.heap.get? p.1=some p.2/\H p.1=none/\p.1≠X.env.locals/\p.1∉X.fs/\∀v,p.2.data≠.cell v
 hok:eB X.prog X.w H s.heap
 len:σ.length=X.N.length
 tk:0<s.toks
section
variable {X:Cx}{σ:List (Option V)} 
theorem Cx.Ok.nofr(ok:X.Ok){b:Addr}{o:Obj}(e:X.base.get? b=some o):b∉X.fs:=fun hb=>by have:=(ok.funs.mem hb).1;rw[e] at this;cases this
theorem qw.bs(I:qw X pins σ H s):∀b o,X.base.get? b=some o->s.heap.get? b=some o/\H b=none:=fun b o e=>
 ⟨I.base.keep b o (I.ok.bs b o e).1 (I.ok.bs b o e).2 (I.ok.nofr e) (I.ok.noex b o e),I.base.free b o (I.ok.bs b o e).1 (I.ok.bs b o e).2 (I.ok.noex b o e)⟩
theorem qw.bk(I:qw X pins σ H s):∀b o,X.base.get? b=some o->s.heap.get? b=some o:=fun b o e=>(I.bs b o e).1
theorem qw.mod(I:qw X pins σ H s):Mod X.K X.mg X.base:=I.ok.mod
theorem qw.kIn(I:qw X pins σ H s):X.K.In s.heap:=I.ok.mod.kin.keeps I.bk
theorem qw.nolimit(I:qw X pins σ H s):s.heap.NoLimit:=I.ok.mod.nolimit.keeps I.bk
theorem qw.lt(I:qw X pins σ H s):X.env.locals<s.heap.objs.size:=let ⟨_,hn,_⟩:=I.loc;hn.lt
theorem qw.sz(I:qw X pins σ H s):X.s₀.heap.objs.size≤s.heap.objs.size:=AL I.ok.above (BU I.lt)
theorem qw.nofs(I:qw X pins σ H s){a:Addr}(h:s.heap.objs.size≤a):a∉X.fs:=fun hb=>by obtain⟨_,o,ho,_⟩:=I.ok.funs.mem hb;exact absurd (AO (Heap.lt_size ho) (AL I.sz h)) (Ct _)
theorem qw.cne(I:qw X pins σ H s):∀x c,X.env.cells.lookup x=some c->c≠X.env.locals:=fun x c e z=>by obtain⟨v,o,ho,hd⟩:=I.cell x c e;obtain⟨m,⟨o',es,ep,ho',hd',_⟩,_⟩:=I.loc;rw[z,ho'] at ho;cases ho;rw[hd'] at hd;cases hd
theorem qw.funs(I:qw X pins σ H s):s.heap.FunFrames X.base X.outer:=by
 have all:∀(l:List Env),(∀b∈yG l,b∈X.fs)->X.s₀.heap.FunFrames X.base l->s.heap.FunFrames X.base l:=by
  intro l
  induction l with
  |nil=>intro _ _;trivial
  |cons env r ih=>
   intro hs hl;obtain⟨hk,⟨L,o,hf,hn,ho,hd⟩,hr⟩:=hl;have hL:L∈X.fs:=hs L (by unfold yG;rw[CH,hf];exact An);obtain⟨sl,e⟩:=I.base.slot L o ho (I.ok.frf L hL) hL fun z=>I.ok.exfs L z hL;exact⟨hk,⟨L,_,hf,hn,e,hd⟩,ih (fun b hb=>hs b (by unfold yG;rw[CH,hf];exact Ah _ hb)) hr⟩
 exact all X.outer (fun _ hb=>hb) I.ok.funs
theorem qw.stack(I:qw X pins σ H s):s.heap.FunFrames X.base X.stack:=by
 rcases I.ok.stk with e | ⟨e,hf⟩
 ·rw[e];exact I.funs
 ·rw[e];obtain⟨m,hn,_⟩:=I.loc;refine .cons (by rw[I.ok.kind];decide) hf hn ?_ I.funs;exact Heap.get?_none_of_le (AL I.ok.bsz I.ok.above)
theorem qw.stkSub(I:qw X pins σ H s):∀b∈yG X.stack,b∈X.env.locals::X.fs:=fun b hb=>by
 rcases I.ok.stk with e | ⟨e,hf⟩
 ·rw[e] at hb;exact Ah _ hb
 ·rw[e] at hb;unfold yG at hb;rw[CH,hf] at hb;exact hb
theorem qw.stkFree(I:qw X pins σ H s):∀b∈yG X.stack,H b=none:=fun b hb=>by
 rcases Ar.mp (I.stkSub b hb) with e | hb
 ·rw[e];exact I.free
 ·obtain⟨_,o,ho,_⟩:=I.ok.funs.mem hb;exact I.base.free b o ho (I.ok.frf b hb) fun z=>I.ok.exfs b z hb
theorem qw.step{g':Array GenState}{d':Drawn}(I:qw X pins σ H s)
 (hch:∀b∈ch,(b∈X.ex\/X.s₀.heap.objs.size≤b)/\b≠X.env.locals/\(∀x c,X.env.cells.lookup x=some c->c≠b)/\∀p∈X.pn++pins,p.1≠b)
 (keep:∀b o,b≠X.env.locals->b∉X.fs->b∉ch->s.heap.get? b=some o->H b=none->h'.get? b=some o)
 (slot:∀b o,b≠X.env.locals->b∈X.fs->b∉ch->s.heap.get? b=some o->H b=none->∃sl,h'.get? b=some { o with slots:=sl }) (free:∀b o,b∉ch->s.heap.get? b=some o->H b=none->H' b=none)
 (there:∀b o,b∉ch->s.heap.get? b=some o->∃o',h'.get? b=some o')
 (tups:∀b xs,H b=some (.tup xs)->H' b=some (.tup xs)) (frzs:∀b o u,H b=some (.frz o u)->H' b=some (.frz o u)) (tbls:∀b ps,H b=some (.tbl ps)->∃more,H' b=some (.tbl (ps++more)))
 (ns:∀m,s.heap.Ns X.env.locals m->h'.Ns X.env.locals m) (hok:eB X.prog X.w H' h') (hg:AllBare g') (ht:0<t':=by walk_at "t"):
 qw X pins σ H' { s with heap:=h',gens:=g',drawn:=d',toks:=t' }:=by
 have xo:∀b o,X.s₀.heap.get? b=some o->b≠X.env.locals:=fun b o e=>A3 (AO (Heap.lt_size e) I.ok.above);have neC:∀b o,X.s₀.heap.get? b=some o->b∉X.ex->b∉ch:=fun b o e hx hb=>by
  rcases (hch b hb).1 with z | z
  ·exact hx z
  ·exact absurd (AO (Heap.lt_size e) z) (Ct _)
 have cellK:∀x c,X.env.cells.lookup x=some c->∀v,s.heap.IsCell c v->h'.IsCell c v:=fun x c e v ⟨o,ho,hd⟩=>by
  have nch:c∉ch:=fun z=>(hch c z).2.2.1 x c e rfl;by_cases hc:c∈X.fs
  ·obtain⟨sl,q⟩:=slot c o (I.cne x c e) hc nch ho (I.freeC x c e);exact⟨_,q,hd⟩
  ·exact⟨o,keep c o (I.cne x c e) hc nch ho (I.freeC x c e),hd⟩
 refine⟨I.ok,I.os,hg,⟨fun b o e n hb hx=>?_,fun b o e n hb hx=>?_,fun b o e n hx=>?_,fun b o e hx=>?_,fun b xs e=>tups b xs (I.base.tups b xs e),fun b o xs e=>frzs b o xs (I.base.frzs b o xs e),fun b ps e=>?_⟩,?_,fun x c e=>?_,?_,fun x c e=>?_,fun p hp=>?_,hok,I.len,ht⟩
 ·exact keep b o (xo b o e) hb (neC b o e hx) (I.base.keep b o e n hb hx) (I.base.free b o e n hx)
 ·obtain⟨sl,e1⟩:=I.base.slot b o e n hb hx;obtain⟨sl',e2⟩:=slot b _ (xo b o e) hb (neC b o e hx) e1 (I.base.free b o e n hx);exact⟨sl',e2⟩
 ·obtain⟨o',e1⟩:=I.base.there b o e hx;exact free b o' (neC b o e hx) e1 (I.base.free b o e n hx)
 ·obtain⟨o',e1⟩:=I.base.there b o e hx;exact there b o' (neC b o e hx) e1
 ·obtain⟨m1,e1⟩:=I.base.tbls b ps e;obtain⟨m2,e2⟩:=tbls b _ e1;exact⟨m1++m2,by rw[e2,Array.append_assoc]⟩
 ·obtain⟨m,hn,hl⟩:=I.loc;refine⟨m,ns m hn,fun i x v e1 e2 e3=>?_⟩;obtain⟨u,r,l⟩:=hl i x v e1 e2 e3;refine⟨u,r,?_⟩;rcases l with l | ⟨k,c,e,z⟩
  ·exact .inl l
  ·exact .inr ⟨k,c,e,cellK x c e _ z⟩
 ·obtain⟨v,z⟩:=I.cell x c e;exact⟨v,cellK x c e v z⟩
 ·obtain⟨m,⟨o,_,_,ho,_⟩,_⟩:=I.loc;exact free _ o (fun z=>(hch _ z).2.1 rfl) ho I.free
 ·obtain⟨v,o,ho,hd⟩:=I.cell x c e;exact free c o (fun z=>(hch c z).2.2.1 x c e rfl) ho (I.freeC x c e)
 ·obtain⟨e,n,ne,nf,d⟩:=I.pin p hp;have nch:p.1∉ch:=fun z=>(hch p.1 z).2.2.2 p hp rfl;exact⟨keep p.1 p.2 ne nf nch e n,free p.1 p.2 nch e n,ne,nf,d⟩
theorem qw.un(I:qw X pins σ H s)(u:Un X.fs [] H H' s.heap h')(hok:eB X.prog X.w H' h')(ht:0<t':=by walk_at "t"):qw X pins σ H' { s with heap:=h',toks:=t' }:=by obtain⟨m,⟨o,es,ep,ho,r⟩,_⟩:=id I.loc;obtain⟨sl,hL⟩:=u.any ho I.free (by simp);exact I.step (g':=s.gens) (d':=s.drawn) (ch:=[]) (fun _ z=>nomatch z) (fun b o _ hb _ e n=>u.keep b o e n hb (by simp)) (fun b o _ hb _ e n=>u.slot b o e n hb (by simp)) (fun b o _ e n=>u.free b o e n (by simp)) (fun b o _ e=>u.there b o e (by simp)) u.tups u.frzs u.tbls (fun m' hm=>by obtain⟨o',es',ep',ho',r'⟩:=hm;rw[ho] at ho';cases ho';exact⟨_,es',ep',hL,r'⟩) hok I.bare
theorem qw.call{g':Array GenState}{d':Drawn}(I:qw X pins σ H s)(u:Un (yG X.stack) ch H H' s.heap h')(hok:eB X.prog X.w H' h')(hg:AllBare g')
 (hch:∀b∈ch,(b∈X.ex\/X.s₀.heap.objs.size≤b)/\b≠X.env.locals/\(∀x c,X.env.cells.lookup x=some c->c≠b)/\∀p∈X.pn++pins,p.1≠b) (ht:0<t':=by walk_at "t"):
 qw X pins σ H' { s with heap:=h',gens:=g',drawn:=d',toks:=t' }:=by
 obtain⟨m,⟨o,es,ep,ho,r⟩,_⟩:=id I.loc;obtain⟨sl,hL⟩:=u.any ho I.free fun z=>(hch _ z).2.1 rfl;exact I.step (ch:=ch) hch (fun b o hL hb hc e n=>u.keep b o e n (fun z=>(Ar.mp (I.stkSub b z)).elim hL hb) hc) (fun b o _ _ hc e n=>u.any e n hc) (fun b o hc e n=>u.free b o e n hc) (fun b o hc e=>u.there b o e hc) u.tups u.frzs u.tbls (fun m' hm=>by obtain⟨o',es',ep',ho',r'⟩:=hm;rw[ho] at ho';cases ho';exact⟨_,es',ep',hL,r'⟩) hok hg
theorem qw.turned(I:qw X pins σ H s)(k:∀b o,b≠it->s.heap.get? b=some o->h'.get? b=some o)(hn:H it=none)(hL:it≠X.env.locals)
 (h1:it∈X.ex\/X.s₀.heap.objs.size≤it) (h2:∀x c,X.env.cells.lookup x=some c->c≠it) (h3:∀p∈X.pn++pins,p.1≠it) (ht:0<t':=by walk_at "t"):qw X pins σ H { s with heap:=h',toks:=t' }:=by
 have nit:∀b u,H b=some u->b≠it:=fun b u e z=>by rw[z,hn] at e;cases e
 refine I.step (g':=s.gens) (d':=s.drawn) (ch:=[it]) (fun b hb=>?_) (fun b o _ _ hc e _=>k b o (fun z=>hc (by simp[z])) e) (fun b o _ _ hc e _=>⟨o.slots,k b o (fun z=>hc (by simp[z])) e⟩) (fun _ _ _ _ n=>n)
  (fun b o hc e=>⟨o,k b o (fun z=>hc (by simp[z])) e⟩) (fun _ _ e=>e) (fun _ _ _ e=>e) (fun b ps e=>⟨#[],by rw[e];simp⟩) (fun m hm=>?_) (fun b u e=>?_) I.bare
 ·have e:b=it:=by simpa using hb
  subst e;exact⟨h1,hL,h2,h3⟩
 ·obtain⟨o,es,ep,ho,r⟩:=hm;exact⟨o,es,ep,k _ o (AH hL) ho,r⟩
 ·refine(I.hok b u e).stay (fun c v hc q=>k c v ?_ q) (fun _ q=>q) fun _ _ q=>q;rcases hc with z | z
  ·rw[z];exact nit b u e
  ·exact nit c _ z
theorem qw.tok(I:qw X pins σ H s)(t:Nat)(ht:0<t:=by walk_at "t"):qw X pins σ H { s with toks:=t }:=I.un (h':=s.heap) (t':=t) Un.refl I.hok
theorem qw.kept(I:qw X pins σ H s)(k:∀b u,s.heap.get? b=some u->h'.get? b=some u)(ht:0<t':=by walk_at "t"):qw X pins σ H { s with heap:=h',toks:=t' }:=I.un (Un.kept k) (I.hok.kept k)
theorem qw.laid{a:Addr}{o:HO}(I:qw X pins σ H s)(k:∀b u,s.heap.get? b=some u->h'.get? b=some u)(hp:s.heap.objs.size≤a)(new:xg X.prog X.w (upd H a o) h' a o)(ht:0<t':=by walk_at "t"):
 qw X pins σ (upd H a o) { s with heap:=h',toks:=t' }:=I.un (Un.laid k hp (I.hok.fresh hp)) (I.hok.laid k hp new)
theorem qw.write{x e:Addr}{o:HO}(I:qw X pins σ H s)(mu:Mut (H x))(he:e=x\/H e=some (.own x))(k:∀b u,b≠e->s.heap.get? b=some u->h'.get? b=some u)(heo:∃u,h'.get? e=some u)
 (new:xg X.prog X.w (upd H x o) h' x o) (ht:0<t':=by walk_at "t"):qw X pins σ (upd H x o) { s with heap:=h',toks:=t' }:=I.un (Un.write mu he k heo) (I.hok.write mu he k heo new)
theorem qw.weak{σ':List (Option V)}(I:qw X pins σ H s)(hl:σ'.length=σ.length)(w:∀(i:Nat) v,σ'[i]?=some (some v)->σ[i]?=some (some v)):qw X pins σ' H s:=
 ⟨I.ok,I.os,I.bare,I.base,let ⟨m,hn,hl'⟩:=I.loc;⟨m,hn,fun i x v e1 e2 e3=>hl' i x v e1 (w i v e2) e3⟩,I.cell,I.free,I.freeC,I.pin,I.hok,hl.trans I.len,I.tk⟩
theorem qw.pins_of{pins':List (Addr×Obj)}(I:qw X pins σ H s)(h:∀p∈pins',s.heap.get? p.1=some p.2/\H p.1=none/\p.1≠X.env.locals/\p.1∉X.fs/\∀v,p.2.data≠.cell v):qw X pins' σ H s:=
 ⟨I.ok,I.os,I.bare,I.base,I.loc,I.cell,I.free,I.freeC,fun p hp=>(Ak.mp hp).elim (fun z=>I.pin p (Ap _ z)) (h p),I.hok,I.len,I.tk⟩
theorem qQ{N:List Str}(hN:N.Nodup)(a:N[i]?=some x)(b:N[j]?=some x):i=j:=by obtain⟨h1,e1⟩:=AY.mp a;obtain⟨h2,e2⟩:=AY.mp b;exact(List.getElem_inj hN).mp (e1.trans e2.symm)
theorem mm{Q:Unit->Shared->Prop}(I:qw X pins σ H s)(hN:X.N.Nodup)(hi:X.N[i]?=some x)(hx:Loc X.env.scope x)(r:zo v u)
 (h:∀s',qw X pins (σ.set i (some v)) H s'->(∃a,Heap.SameBut a s.heap s'.heap/\(a=X.env.locals\/X.env.cells.lookup x=some a))->(X.env.kindOf x=some .local->∃m',s'.heap.Ns X.env.locals m'/\m' x=some u)->Q () s') (hf:X.fn x=true\/X.env.scope.names.lookup x=some .local:=by first | exact .inl rfl | exact .inr rfl | assumption):wpAny M A (storeName X.env x u) Q E s:=by
 obtain⟨m,hn,hl⟩:=id I.loc;have hcls:(X.env.scope.kind==.class||(X.env.scope.kind==.module&&X.env.locals != X.env.globals))=false:=by rw[I.ok.kind];rfl
 have hiσ:i<σ.length:=by rw[I.len];exact(AY.mp hi).1
 have cne:=I.cne;have tracked:∀{a:Addr} {h':Heap},(∃o,s.heap.get? a=some o/\H a=none)->Heap.SameBut a s.heap h'->eB X.prog X.w H h':=fun {a h'} ha hs b ob e=>by
  obtain⟨_,_,hfree⟩:=ha;refine(I.hok b ob e).stay (fun c w' hc q=>(hs.2 c ?_).trans q) (fun _ q=>q) fun _ _ q=>q;rintro rfl;rcases hc with rfl | hc
  ·rw[hfree] at e;cases e
  ·rw[hfree] at hc;cases hc
 rcases hx with hk | hk
 ·refine wpAny_storeName_local hk hn (fun h' hn' hs=>?_) hcls;obtain⟨oL,_,_,hoL,_⟩:=id hn;refine h _ ⟨I.ok,I.os,I.bare,⟨fun b o e n hb hx=>?_,fun b o e n hb hx=>?_,I.base.free,fun b o e hx=>?_,I.base.tups,I.base.frzs,I.base.tbls⟩,⟨_,hn',fun j y v' e1 e2 e3=>?_⟩,fun y c e=>?_,I.free,I.freeC,fun p hp=>?_,tracked ⟨oL,hoL,I.free⟩ hs,by simpa using I.len,by first | exact I.tk | exact CZ _⟩ ⟨_,hs,.inl rfl⟩ (fun _=>⟨_,hn',by simp⟩)
  ·exact(hs.2 b (A3 (AO (Heap.lt_size e) I.ok.above))).trans (I.base.keep b o e n hb hx)
  ·obtain⟨sl,e1⟩:=I.base.slot b o e n hb hx;exact⟨sl,(hs.2 b (A3 (AO (Heap.lt_size e) I.ok.above))).trans e1⟩
  ·obtain⟨o',e1⟩:=I.base.there b o e hx;exact⟨o',(hs.2 b (A3 (AO (Heap.lt_size e) I.ok.above))).trans e1⟩
  ·by_cases hj:j=i
   ·subst hj;rw[hi] at e1;cases e1;rw[BV hiσ] at e2;cases e2;exact⟨u,r,.inl ⟨hk,by simp⟩⟩
   ·rw[Be (AH hj)] at e2;obtain⟨u',r',q⟩:=hl j y v' e1 e2 e3;refine⟨u',r',?_⟩;rcases q with⟨k,e⟩ | ⟨k,c,e,z⟩
    ·refine .inl ⟨k,?_⟩;have:y≠x:=fun e=>hj (qQ hN e1 (e▸hi));simp[this,e]
    ·exact .inr ⟨k,c,e,z.sameBut hs (cne y c e)⟩
  ·obtain⟨w',z⟩:=I.cell y c e;exact⟨w',z.sameBut hs (cne y c e)⟩
  ·obtain⟨e,n,ne,nf,d⟩:=I.pin p hp;exact⟨(hs.2 p.1 ne).trans e,n,ne,nf,d⟩
 ·have hfn:X.fn x=true:=by
   rcases hf with z | z
   ·exact z
   ·rw[z] at hk;cases hk
  obtain⟨c,hc⟩:=I.ok.has x (.inl hk);obtain⟨w',z⟩:=I.cell x c hc;refine wpAny_storeName_cell I.ok.kind hk hc z (fun h' hc' hs=>?_);obtain⟨oc,hoc,hocd⟩:=id z;refine h { s with heap:=h' } ⟨I.ok,I.os,I.bare,⟨fun b o e n hb hx=>?_,fun b o e n hb hx=>?_,I.base.free,fun b o e hx=>?_,I.base.tups,I.base.frzs,I.base.tbls⟩,⟨m,hn.sameBut hs (AH (cne x c hc)),fun j y v' e1 e2 e3=>?_⟩,fun y c' e=>?_,I.free,I.freeC,fun p hp=>?_,tracked ⟨oc,hoc,I.freeC x c hc⟩ hs,by simpa using I.len,I.tk⟩ ⟨c,hs,.inr hc⟩ (fun z=>by have e:=(show X.env.kindOf x=some .cell from hk).symm.trans z;cases e)
  ·exact(hs.2 b (A3 (AO (Heap.lt_size e) (I.ok.cab x c hfn hc)))).trans (I.base.keep b o e n hb hx)
  ·obtain⟨sl,e1⟩:=I.base.slot b o e n hb hx;exact⟨sl,(hs.2 b (A3 (AO (Heap.lt_size e) (I.ok.cab x c hfn hc)))).trans e1⟩
  ·obtain⟨o',e1⟩:=I.base.there b o e hx;exact⟨o',(hs.2 b (A3 (AO (Heap.lt_size e) (I.ok.cab x c hfn hc)))).trans e1⟩
  ·by_cases hj:j=i
   ·subst hj;rw[hi] at e1;cases e1;rw[BV hiσ] at e2;cases e2;exact⟨u,r,.inr ⟨.inl hk,c,hc,hc'⟩⟩
   ·rw[Be (AH hj)] at e2;obtain⟨u',r',q⟩:=hl j y v' e1 e2 e3;refine⟨u',r',?_⟩;rcases q with q | ⟨k,c',e,z'⟩
    ·exact .inl q
    ·refine .inr ⟨k,c',e,z'.sameBut hs ?_⟩;rintro rfl;exact hj (qQ hN e1 (I.ok.inj _ _ _ e hc▸hi))
  ·by_cases hcc:c'=c
   ·subst hcc;exact⟨_,hc'⟩
   ·obtain⟨w2,z2⟩:=I.cell y c' e;exact⟨w2,z2.sameBut hs hcc⟩
  ·obtain⟨e,n,ne,nf,d⟩:=I.pin p hp;refine⟨(hs.2 p.1 ?_).trans e,n,ne,nf,d⟩;intro q;rw[q,hoc] at e;have q':oc=p.2:=AV e;exact d w' (by rw[<-q'];exact hocd)
theorem aV{Q:Unit->Shared->Prop}(I:qw X pins σ H s)(hN:X.N.Nodup)(hi:X.N[i]?=some x)(hx:Loc X.env.scope x)(r:zo v u)
 (h:∀s',qw X pins (σ.set i (some v)) H s'->Q () s') (hf:X.fn x=true\/X.env.scope.names.lookup x=some .local:=by first | exact .inl rfl | exact .inr rfl | assumption):wpAny M A (storeName X.env x u) Q E s:=
 mm I hN hi hx r (fun s' I' _ _=>h s' I') hf
theorem qw.call'(I:qw X pins σ H s)(ho:s'.os=s.os)(u:Un (yG X.stack) ch H H' s.heap s'.heap)(hok:eB X.prog X.w H' s'.heap)(hg:AllBare s'.gens)
 (hch:∀b∈ch,(b∈X.ex\/X.s₀.heap.objs.size≤b)/\b≠X.env.locals/\(∀x c,X.env.cells.lookup x=some c->c≠b)/\∀p∈X.pn++pins,p.1≠b) (ht:0<s'.toks:=by walk_at "t"):qw X pins σ H' s':=by
 obtain⟨h',g',d',t',o'⟩:=s';have e:o'=s.os:=ho;subst e;exact I.call (g':=g') (t':=t') (d':=d') u hok hg hch ht
end
abbrev XK:=Value->Option Addr->Hp->Prop
abbrev St:=List (Option V)
abbrev VK:=V->Hp->Prop
abbrev TE:=St->Hp->VK->Prop
abbrev TT:=St->Hp->(Bool->Hp->Prop)->Prop
abbrev TA:=St->Hp->(List V->Hp->Prop)->Prop
structure uD where
 nx:St->Hp->Prop
 rt:VK
 bk:St->Hp->Prop:=fun _ _=>False
 ct:St->Hp->Prop:=fun _ _=>False
abbrev TS:=uD->St->Hp->Prop
def EP(X:Cx)(pins:List (Addr×Obj))(σ:St)(Q:VK)(u:Value)(s':Shared):Prop:=∃v H',qw X pins σ H' s'/\zo v u/\Q v H'
def TP(X:Cx)(pins:List (Addr×Obj))(σ:St)(Q:Bool->Hp->Prop)(b:Bool)(s':Shared):Prop:=∃H',qw X pins σ H' s'/\Q b H'
def AP(X:Cx)(pins:List (Addr×Obj))(σ:St)(Q:List V->Hp->Prop)(us:List Value)(s':Shared):Prop:=∃vs H',qw X pins σ H' s'/\zk vs us/\Q vs H'
def SP(X:Cx)(pins:List (Addr×Obj))(D:uD)(f:Flow)(s':Shared):Prop:=
 match f with
 |.next=>∃σ' H',qw X pins σ' H' s'/\D.nx σ' H'
 |.brk=>∃σ' H',qw X pins σ' H' s'/\D.bk σ' H'
 |.cont=>∃σ' H',qw X pins σ' H' s'/\D.ct σ' H'
 |.ret u=>∃v σ' H',qw X pins σ' H' s'/\zo v u/\D.rt v H'
def PE(X:Cx)(e:Expr)(t:TE):Prop:=
 ∀(pins:List (Addr×Obj)) (s:Shared) (σ:St) (H:Hp) (Q:VK),qw X pins σ H s->t σ H Q->wpAny (model X.prog X.w) X.A (eval e X.env) (EP X pins σ Q) X.xe s
def PT(X:Cx)(e:Expr)(t:TT):Prop:=
 ∀(pins:List (Addr×Obj)) (s:Shared) (σ:St) (H:Hp) (Q:Bool->Hp->Prop),qw X pins σ H s->t σ H Q->wpAny (model X.prog X.w) X.A (isTrue e X.env (eval e X.env)) (TP X pins σ Q) X.xe s
def PW(X:Cx)(e:Expr)(t:TT):Prop:=
 ∀(whole:Sem Value) (pins:List (Addr×Obj)) (s:Shared) (σ:St) (H:Hp) (Q:Bool->Hp->Prop),qw X pins σ H s->t σ H Q->wpAny (model X.prog X.w) X.A (isTrue e X.env whole) (TP X pins σ Q) X.xe s
theorem PW.pt{X:Cx}{t:TT}(h:PW X e t):PT X e t:=h _
def PA(X:Cx)(es:List Expr)(t:TA):Prop:=
 ∀(pos:Pos) (pins:List (Addr×Obj)) (s:Shared) (σ:St) (H:Hp) (Q:List V->Hp->Prop),qw X pins σ H s->t σ H Q->wpAny (model X.prog X.w) X.A (spliced (backTo pos (starEach es X.env))) (AP X pins σ Q) X.xe s
def PS(X:Cx)(st:Stmt)(t:TS):Prop:=
 ∀(pins:List (Addr×Obj)) (s:Shared) (σ:St) (H:Hp) (D:uD),qw X pins σ H s->t D σ H->wpAny (model X.prog X.w) X.A (exec st X.env) (SP X pins D) X.xe s
def jP(X:Cx)(st:List Stmt)(t:TS):Prop:=
 ∀(pins:List (Addr×Obj)) (s:Shared) (σ:St) (H:Hp) (D:uD),qw X pins σ H s->t D σ H->wpAny (model X.prog X.w) X.A (execs st X.env) (SP X pins D) X.xe s
theorem xt{t:Sem α}{Q Q':α->Shared->Prop}(h:wpAny M A t Q E s)(hQ:∀a s,Q a s->Q' a s):wpAny M A t Q' E s:=A1 h hQ fun _ _ x=>x
end L2
variable {r:L2.V->Option Int->Option Int->L2.Hp->L2.VK->Prop}{X:L2.Cx}{σ:L2.St}
namespace L2
open PySem PySem.Spec PyProof.Rows
section
def ahi(i:Nat):TE:=fun σ H Q=>∃v,σ[i]?=some (some v)/\Q v H
def tC(v:V):TE:=fun _ H Q=>Q v H
abbrev Ef(x:Str):Prop:=(x==("__debug__":Str))=false
abbrev Eg(x:Str):Prop:=(x==("__classdict__":Str))=false
theorem ajs(hN:X.N[i]?=some x)(hv:Vis X.env.scope x)(hd:Ef x:=by decide)(hcd:Eg x:=by decide):PE X (.Name x pos) (ahi i):=by
 intro pins s σ H Q I h;obtain⟨v,e,h⟩:=h;obtain⟨m,hn,hl⟩:=I.loc;obtain⟨u,r,l⟩:=hl i x v hN e hv;have xu:EP X pins σ Q u s:=⟨v,H,I,r,h⟩;rcases l with⟨hk,hm⟩ | ⟨hk,c,hc,hcell⟩
 ·exact wpAny_Name (wpAny_loadName_local I.ok.kind hk hn hm xu) hd
 ·rcases hk with hk | hk
  ·exact wpAny_Name (wpAny_loadName_cell I.ok.kind hk hc hcell xu) hd
  ·exact wpAny_Name (wpAny_loadName_free I.ok.kind hk hc hcell xu hcd) hd
theorem ak7{i j pos}:PE X (.Constant (.int i) j pos) (tC (.int i)):=fun _ _ _ H _ I h=>wpAny_Constant_int ⟨.int i,H,I.tok _,⟨_,rfl⟩,h⟩
theorem amw{b j pos}:PE X (.Constant (.bool b) j pos) (tC (.bl b)):=fun _ _ _ H _ I h=>Constant_bool ⟨.bl b,H,I,rfl,h⟩
theorem aiv{j pos}:PE X (.Constant .none j pos) (tC .non):=fun _ _ _ H _ I h=>Constant_none ⟨.non,H,I,rfl,h⟩
theorem bW{x j pos}:PE X (.Constant (.str x) j pos) (tC (.str x)):=fun _ _ _ H _ I h=>Calls.Constant_str ⟨.str x,H,I.tok _,⟨_,rfl⟩,h⟩
def Gl(X:Cx)(x:Str):Prop:=X.env.kindOf x=some .globalImplicit
theorem oh(I:qw X pins σ H s)(hg:Gl X x)(hm:X.mg x=some u)(h:Q u s)
 (hd:Ef x:=by decide):wpAny (model X.prog X.w) X.A (eval (.Name x pos) X.env) Q E s:=
 Calls.Name_function_global I.ok.kind hg (Calls.loadGlobal_global (by rw[I.ok.glob];exact I.mod.glob.keeps I.bk) hm h) hd
theorem fG(I:qw X pins σ H s)(hg:Gl X x)(hm:X.mg x=none)(hv:bootBuiltins x=some u)(h:Q u s)
 (hn:x ≠ "__name__" := by decide) (hd:Ef x:=by decide):wpAny (model X.prog X.w) X.A (eval (.Name x pos) X.env) Q E s:=by
 obtain⟨mb,h1,h2⟩:=I.mod.blt;exact Calls.Name_function_global I.ok.kind hg (Calls.loadGlobal_builtin (by rw[I.ok.glob];exact I.mod.glob.keeps I.bk) hm (by rw[I.ok.blt];exact h1.keeps I.bk) ((h2 x hn).trans hv) h) hd
theorem af1(hg:Gl X x)(hm:X.mg x=some u)(r:zo v u)(hd:Ef x:=by decide):PE X (.Name x pos) (tC v):=
 fun _ _ _ H _ I h=>oh I hg hm ⟨v,H,I,r,h⟩ hd
theorem ag7(hg:Gl X x)(hm:X.mg x=none)(hv:bootBuiltins x=some u)(r:zo v u)(hn:x ≠ "__name__" := by decide)(hd:Ef x:=by decide):PE X (.Name x pos) (tC v):=
 fun _ _ _ H _ I h=>fG I hg hm hv ⟨v,H,I,r,h⟩ hn hd
variable {a b:Expr}{ta tb:TE} 
def PC(X:Cx)(op:CmpOp)(a b:Expr)(t:TE):Prop:=
 ∀(pins:List (Addr×Obj)) (s:Shared) (σ:St) (H:Hp) (Q:VK),qw X pins σ H s->t σ H Q->
  wpAny (model X.prog X.w) X.A (eval a X.env) (fun v s₁=>wpAny (model X.prog X.w) X.A (eval b X.env) (fun u s₂=>wpAny (model X.prog X.w) X.A (compareOp op v u) (EP X pins σ Q) X.xe s₂) X.xe s₁) X.xe s
theorem sn(b:Expr){op:CmpOp}(h:op≠.In)(h2:op≠.NotIn):behindInMarks op b=false:=by
 have e1:(op==CmpOp.In)=false:=by cases op<;>first | rfl | exact absurd rfl h
 have e2:(op==CmpOp.NotIn)=false:=by cases op<;>first | rfl | exact absurd rfl h2
 cases b<;>simp[behindInMarks,e1,e2]
def am8(ta:TE):TE:=fun σ H Q=>ta σ H fun x H1=>Q (.bl (decide (x=.non))) H1
def agi(ta:TE):TE:=fun σ H Q=>ta σ H fun x H1=>Q (.bl (!decide (x=.non))) H1
theorem zo.none_iff{x:V}{v:Value}(r:zo x v):(v==Value.none)=decide (x=.non):=by
 cases x with
 |non=>cases r;rfl
 |bl _=>cases r;rfl
 |int _=>obtain⟨t,rfl⟩:=r;rfl
 |str _=>obtain⟨t,rfl⟩:=r;rfl
 |byt _=>obtain⟨t,rfl⟩:=r;rfl
 |flt _=>obtain⟨t,rfl⟩:=r;rfl
 |ref _=>cases r;rfl
 |ty _=>cases r;rfl
theorem ac0{j pos'}(ha:PE X a ta):PC X .Is a (.Constant .none j pos') (am8 ta):=by intro pins s σ H Q I h;refine xt (ha pins s σ H _ I h) fun v s1 ⟨x,H1,I1,r1,q1⟩=>?_;exact Constant_none (is_none_gen ⟨.bl _,H1,I1,by rw[r1.none_iff];rfl,q1⟩)
theorem aep{j pos'}(ha:PE X a ta):PC X .IsNot a (.Constant .none j pos') (agi ta):=by intro pins s σ H Q I h;refine xt (ha pins s σ H _ I h) fun v s1 ⟨x,H1,I1,r1,q1⟩=>?_;exact Constant_none (isnot_none_gen ⟨.bl _,H1,I1,by rw[r1.none_iff];rfl,q1⟩)
def tB(t:TE):TT:=fun σ H Q=>t σ H fun x H1=>∃c,x=.bl c/\Q c H1
theorem ajm{op:CmpOp}{t:TE}(h:PC X op a b t)(h1:behindInMarks op b=false:=by first | exact sn _ (by decide) (by decide) | rfl):PE X (.Compare a [op] [b] pos) t:=fun pins s σ H Q I hw=>wpAny_Compare1 (h pins s σ H Q I hw) h1
theorem acj{op:CmpOp}{t:TE}(h:PC X op a b t)(h1:behindInMarks op b=false:=by first | exact sn _ (by decide) (by decide) | rfl):PT X (.Compare a [op] [b] pos) (tB t):=by intro pins s σ H Q I hw;refine wpAny_isTrue_Compare1 (xt (h pins s σ H _ I hw) fun v s1 h1=>xt h1 fun u s2 h2=>xt h2 fun c s3 ⟨x,H1,I1,r1,q1⟩=>?_) h1;obtain⟨d,rfl,q⟩:=q1;cases r1;exact wpAny_truthy_bool ⟨H1,I1,q⟩
theorem aik{t:TE}(h:PE X e t)(he:∀whole,isTrue e X.env whole=(do let v <-whole;standAt e.pos;holding [v] (truthy v)):=by intro _;rfl):PT X e (tB t):=by intro pins s σ H Q I hw;refine isTrue_plain (xt (h pins s σ H _ I hw) fun v s1 ⟨x,H1,I1,r1,q1⟩=>?_) (he _);obtain⟨d,rfl,q⟩:=q1;cases r1;exact wpAny_truthy_bool ⟨H1,I1,q⟩
variable {tA tB':TT}{rest:List Expr}
def aom(t u:TT):TT:=fun σ H Q=>t σ H fun c H1=>if c=true then u σ H1 Q else Q false H1
def tOr(t u:TT):TT:=fun σ H Q=>t σ H fun c H1=>if c=true then Q true H1 else u σ H1 Q
def aqo(t:TT):TT:=fun σ H Q=>t σ H fun c H1=>Q (!c) H1
theorem adn(ha:PT X a tA):PW X (.BoolOp .And [a] pos) tA:=by intro wh pins s σ H Q I h;refine isTrue_and (xt (ha pins s σ H Q I h) fun c s1 e=>?_);cases c with|true=>exact isTrue_and_nil e|false=>exact e
theorem akj(ha:PT X a tA):PW X (.BoolOp .Or [a] pos) tA:=by intro wh pins s σ H Q I h;refine isTrue_or (xt (ha pins s σ H Q I h) fun c s1 e=>?_);cases c with|false=>exact isTrue_or_nil e|true=>exact e
theorem aia(ha:PT X a tA)(hb:PW X (.BoolOp .And (b::rest) pos) tB'):PW X (.BoolOp .And (a::b::rest) pos) (aom tA tB'):=by intro wh pins s σ H Q I h;refine isTrue_and (xt (ha pins s σ H _ I h) fun c s1 ⟨H1,I1,q1⟩=>?_);cases c with|true=>exact hb wh pins s1 σ H1 Q I1 q1|false=>exact⟨H1,I1,q1⟩
theorem alv(ha:PT X a tA)(hb:PW X (.BoolOp .Or (b::rest) pos) tB'):PW X (.BoolOp .Or (a::b::rest) pos) (tOr tA tB'):=by intro wh pins s σ H Q I h;refine isTrue_or (xt (ha pins s σ H _ I h) fun c s1 ⟨H1,I1,q1⟩=>?_);cases c with|true=>exact⟨H1,I1,q1⟩|false=>exact hb wh pins s1 σ H1 Q I1 q1
theorem aij(ha:PT X a tA):PT X (.UnaryOp .Not a pos) (aqo tA):=by intro pins s σ H Q I h;exact isTrue_not (ha pins s σ H (fun c H1=>Q (!c) H1) I h)
def al4(ta tb:TE):TE:=fun σ H Q=>ta σ H fun x H1=>∃c,x=.bl c/\if c=true then tb σ H1 Q else Q (.bl false) H1
theorem aih{op}{t:TE}(h:PE X a t):PE X (.BoolOp op [a] pos) t:=fun pins s σ H Q I hw=>BoolOp_one (h pins s σ H Q I hw)
theorem aiu(ha:PE X a ta)(hb:PE X (.BoolOp .And (b::rest) pos) tb):PE X (.BoolOp .And (a::b::rest) pos) (al4 ta tb):=by
 intro pins s σ H Q I h;refine BoolOp_and (xt (ha pins s σ H _ I h) fun v s1 ⟨x,H1,I1,r1,q1⟩=>?_);obtain⟨c,rfl,q1⟩:=q1;cases r1;refine wpAny_truthy_bool ?_;cases c with
 |true=>exact hb pins s1 σ H1 Q I1 q1
 |false=>exact⟨.bl false,H1,I1,rfl,q1⟩
def tIf(t:TT)(ta tb:TE):TE:=fun σ H Q=>t σ H fun c H1=>if c=true then ta σ H1 Q else tb σ H1 Q
theorem acz(hc:PT X c tA)(ha:PE X a ta)(hb:PE X b tb):PE X (.IfExp c a b pos) (tIf tA ta tb):=by intro pins s σ H Q I h;refine wpAny_IfExp (xt (hc pins s σ H _ I h) fun d s1 ⟨H1,I1,q1⟩=>?_);cases d with|true=>exact ha pins s1 σ H1 Q I1 q1|false=>exact hb pins s1 σ H1 Q I1 q1
end
def wu(K:Af)(H:Hp)(a:Addr)(xs:List V):Prop:=
 Rd H a (.lst xs)\/
  ∃(o:Obj) (its:Array Value) (n:Nat),K.lookup a=some o/\o.cls=.type "list" /\ o.dict=none/\o.data=.seq its n/\its.size≤sizeLine/\zk xs its.toList
def cL(K:Af)(H:Hp)(a:Addr)(xs:List V):Prop:=
 Rd H a (.tup xs)\/
  ∃(o:Obj) (its:Array Value) (n:Nat),K.lookup a=some o/\o.cls=.type "tuple" /\ o.data=.seq its n/\its.size≤sizeLine/\zk xs its.toList
def ao3:Value->Option V
 |.none=>some .non
 |.bool b=>some (.bl b)
 |.int i _=>some (.int i)
 |.str x _=>some (.str x)
 |.bytes b _=>some (.byt b)
 |.float b _=>some (.flt b)
 |.ref a=>some (.ref a)
 |.type n=>some (.ty n)
 |_=>none
theorem zo.abs{x:V}(r:zo x u):ao3 u=some x:=by
 cases x with
 |non=>cases r;rfl
 |bl _=>cases r;rfl
 |int _=>obtain⟨t,rfl⟩:=r;rfl
 |str _=>obtain⟨t,rfl⟩:=r;rfl
 |byt _=>obtain⟨t,rfl⟩:=r;rfl
 |flt _=>obtain⟨t,rfl⟩:=r;rfl
 |ref _=>cases r;rfl
 |ty _=>cases r;rfl
theorem zo.inj{x y:V}(r:zo x u)(q:zo y u):x=y:=AV (r.abs.symm.trans q.abs)
theorem zk.inj:∀{xs ys:List V} {us:List Value},zk xs us->zk ys us->xs=ys
 |_,_,_,.nil,.nil=>rfl
 |_,_,_,.cons r t,.cons r' t'=>by rw[r.inj r',zk.inj t t']
section
variable {a:Addr}{ys:List V}
theorem wu.of{K:Af}(h:H a=some (.lst xs)):wu K H a xs:=.inl (.inl h)
abbrev ER:=@wu.of
theorem cL.of{K:Af}(h:H a=some (.tup xs)):cL K H a xs:=.inl (.inl h)
theorem qw.list(I:qw X pins σ H s)(h:wu X.K H a xs):∃its:List Value,zk xs its/\PlainL s.heap a its.toArray/\xs.length≤sizeLine:=by
 rcases h with h | ⟨o,its,n,hk,hc,hd,hs,hz,r⟩
 ·obtain⟨z,its,n,r,e⟩:=h.ok I.hok;exact⟨its,r,⟨_,n,e,rfl,rfl,rfl⟩,z⟩
 ·refine⟨its.toList,r,⟨o,n,I.kIn a o hk,hc,hd,by simpa using hs⟩,?_⟩;have e:=r.length;simp only[AM] at e;omega
theorem qw.tuple(I:qw X pins σ H s)(h:cL X.K H a xs):∃its:List Value,zk xs its/\IsTup s.heap a its.toArray/\xs.length≤sizeLine:=by
 rcases h with h | ⟨o,its,n,hk,hc,hs,hz,r⟩
 ·obtain⟨z,its,r,p⟩:=h.ok I.hok;exact⟨its,r,p,z⟩
 ·refine⟨its.toList,r,⟨o,I.kIn a o hk,hc,n,by simpa using hs⟩,?_⟩;have e:=r.length;simp only[AM] at e;omega
theorem qw.list_inj(I:qw X pins σ H s)(h:wu X.K H a xs)(h':wu X.K H a ys):xs=ys:=by
 obtain⟨its,r,⟨o,n,e,_,_,d⟩,_⟩:=I.list h;obtain⟨its',r',⟨o',n',e',_,_,d'⟩,_⟩:=I.list h';rw[e] at e';cases e';rw[d] at d';injection d' with d1 _
 have:its=its':=by simpa using BG Array.toList d1
 subst this;exact r.inj r'
theorem qw.tuple_inj(I:qw X pins σ H s)(h:cL X.K H a xs)(h':cL X.K H a ys):xs=ys:=by
 obtain⟨its,r,⟨o,e,_,n,d⟩,_⟩:=I.tuple h;obtain⟨its',r',⟨o',e',_,n',d'⟩,_⟩:=I.tuple h';rw[e] at e';cases e';rw[d] at d';injection d' with d1 _
 have:its=its':=by simpa using BG Array.toList d1
 subst this;exact r.inj r'
end
abbrev Cx.wish(X:Cx)(E:Value->Shared->Prop):Cx:={ X with xe:=E }
abbrev Cx.nox(X:Cx):Cx:=X.wish fun _ _=>False
theorem Cx.Ok.wish(ok:X.Ok)(E:Value->Shared->Prop):(X.wish E).Ok:=
 ⟨ok.mod,ok.kind,ok.glob,ok.blt,ok.above,ok.inj,ok.has,ok.cab,ok.hd,ok.frames,ok.stk,ok.exf,ok.bs,ok.bsz,ok.noex,ok.exfs,ok.funs,ok.frf⟩
theorem Cx.Ok.unwish(ok:(X.wish E).Ok):X.Ok:=
 ⟨ok.mod,ok.kind,ok.glob,ok.blt,ok.above,ok.inj,ok.has,ok.cab,ok.hd,ok.frames,ok.stk,ok.exf,ok.bs,ok.bsz,ok.noex,ok.exfs,ok.funs,ok.frf⟩
section
theorem qw.wish(I:qw X pins σ H s)(E:Value->Shared->Prop):qw (X.wish E) pins σ H s:=⟨I.ok.wish E,I.os,I.bare,I.base,I.loc,I.cell,I.free,I.freeC,I.pin,I.hok,I.len,I.tk⟩
theorem qw.unwish(I:qw (X.wish E) pins σ H s):qw X pins σ H s:=⟨I.ok.unwish,I.os,I.bare,I.base,I.loc,I.cell,I.free,I.freeC,I.pin,I.hok,I.len,I.tk⟩
theorem SP.unwish{D:uD}{f:Flow}(h:SP (X.wish E) pins D f s'):SP X pins D f s':=by
 cases f with
 |next=>obtain⟨σ',H',I,q⟩:=h;exact⟨σ',H',I.unwish,q⟩
 |brk=>obtain⟨σ',H',I,q⟩:=h;exact⟨σ',H',I.unwish,q⟩
 |cont=>obtain⟨σ',H',I,q⟩:=h;exact⟨σ',H',I.unwish,q⟩
 |ret u=>obtain⟨v,σ',H',I,r,q⟩:=h;exact⟨v,σ',H',I.unwish,r,q⟩
theorem jP.nox{st:List Stmt}{t:TS}(h:jP X.nox st t):jP X st t:=fun pins s σ H D I hw=>
 A1 (h pins s σ H D (I.wish _) hw) (fun _ _ q=>q.unwish) fun _ _ z=>False.elim z
end
section
variable {rest:List Stmt}{t u:TS}{te:TE} 
def ame:TS:=fun D σ H=>D.nx σ H
def ap8(t u:TS):TS:=fun D σ H=>t { D with nx:=u D } σ H
theorem ade:jP X [] ame:=fun _ _ σ H _ I h=>wpAny_execs_nil ⟨σ,H,I,h⟩
theorem rE(h1:PS X st t)(h2:jP X rest u):jP X (st::rest) (ap8 t u):=by
 intro pins s σ H D I h;refine wpAny_execs_cons (xt (h1 pins s σ H { D with nx:=u D } I h) fun f s1 q=>?_);cases f with
 |next=>
  obtain⟨σ',H',I',q⟩:=q;exact h2 pins s1 σ' H' D I' q
 |ret v=>exact q
 |brk=>exact q
 |cont=>exact q
theorem afx(h1:PS X st t):jP X [st] t:=by intro pins s σ H D I h;refine wpAny_execs_cons (xt (h1 pins s σ H D I h) fun f s1 q=>?_);cases f with|next=>exact wpAny_execs_nil q|ret v=>exact q|brk=>exact q|cont=>exact q
def ala:TS:=fun D σ H=>D.ct σ H
theorem rO:PS X (.Continue pos) ala:=fun _ _ σ H _ I h=>wpAny_Continue ⟨σ,H,I,h⟩
theorem qw.quiet(I:qw X pins σ H s):interactive X.env=false:=by simp[interactive,I.ok.kind]
def anc(te:TE):TS:=fun D σ H=>te σ H fun _ H1=>D.nx σ H1
theorem adh(he:PE X e te)(hs:swapsWith e none pos.line X.env=pure false:=by rfl):PS X (.Expr e pos) (anc te):=by intro pins s σ H D I h;exact wpAny_Expr_any (xt (he pins s σ H _ I h) fun v s1 ⟨x,H1,I1,r1,q1⟩=>⟨σ,H1,I1,q1⟩) I.quiet hs
def aos(te:TE):TS:=fun D σ H=>te σ H D.rt
theorem ak0(he:PE X e te):PS X (.Return (some e) pos) (aos te):=by intro pins s σ H D I h;exact wpAny_Return_some (xt (he pins s σ H _ I h) fun v s1 ⟨x,H1,I1,r1,q1⟩=>⟨x,σ,H1,I1,r1,q1⟩)
def anb:TS:=fun D _ H=>D.rt .non H
theorem adj:PS X (.Return none pos) anb:=fun _ _ σ H _ I h=>wpAny_Return_none ⟨.non,σ,H,I,rfl,h⟩
def an3(c:TT)(t u:TS):TS:=fun D σ H=>c σ H fun b H1=>if b=true then t D σ H1 else u D σ H1
theorem ali{a b:List Stmt}{tc:TT}(hc:PT X c tc)(ha:jP X a t)(hb:jP X b u):PS X (.If c a b pos) (an3 tc t u):=by intro pins s σ H D I h;refine wpAny_If (xt (hc pins s σ H _ I h) fun d s1 ⟨H1,I1,q1⟩=>?_);cases d with|true=>exact ha pins s1 σ H1 D I1 q1|false=>exact hb pins s1 σ H1 D I1 q1
end
abbrev TG:=V->St->Hp->(St->Hp->Prop)->Prop
abbrev zR:=List V->St->Hp->(St->Hp->Prop)->Prop
def PG(X:Cx)(target:Expr)(t:TG):Prop:=
 ∀(pins:List (Addr×Obj)) (s:Shared) (σ:St) (H:Hp) (v:V) (u:Value) (Q:St->Hp->Prop),qw X pins σ H s->zo v u->t v σ H Q->
  wpAny (model X.prog X.w) X.A (assign target X.env u) (fun _ s'=>∃σ' H',qw X pins σ' H' s'/\Q σ' H') X.xe s
def PGs(X:Cx)(ts:List Expr)(t:zR):Prop:=
 ∀(pins:List (Addr×Obj)) (s:Shared) (σ:St) (H:Hp) (vs:List V) (us:List Value) (Q:St->Hp->Prop),qw X pins σ H s->zk vs us->t vs σ H Q->
  wpAny (model X.prog X.w) X.A (assignInOrder ((assignEach ts X.env).map (·.2)) us) (fun _ s'=>∃σ' H',qw X pins σ' H' s'/\Q σ' H') X.xe s
abbrev aki:=V->V->V->Hp->(Hp->Prop)->Prop
def amv(X:Cx)(t:aki):Prop:=
 ∀(pins:List (Addr×Obj)) (s:Shared) (σ:St) (H:Hp) (o i v:V) (ov iv u:Value) (Q:Hp->Prop),qw X pins σ H s->zo o ov->zo i iv->zo v u->t o i v H Q->
  wpAny (model X.prog X.w) X.A (setItem ov iv u) (fun _ s'=>∃H',qw X pins σ H' s'/\Q H') X.xe s
section
def cT(i:Nat):TG:=fun v σ H Q=>Q (σ.set i (some v)) H
theorem ix(hN:X.N.Nodup)(hi:X.N[i]?=some x)(hx:Loc X.env.scope x)(hf:X.fn x=true\/X.env.scope.names.lookup x=some .local:=by first | exact .inl rfl | exact .inr rfl | assumption):PG X (.Name x pos) (cT i):=by intro pins s σ H v u Q I r h;exact wpAny_assign_Name (aV I hN hi hx r (fun s' I'=>⟨_,H,I',h⟩) hf)
def aiw:zR:=fun vs σ H Q=>vs=[]/\Q σ H
def sO(t:TG)(u:zR):zR:=fun vs σ H Q=>∃v r,vs=v::r/\t v σ H fun σ' H'=>u r σ' H' Q
theorem vF:PGs X [] aiw:=by intro pins s σ H vs us Q I r h;obtain⟨e,h⟩:=h;subst e;cases r;exact assignInOrder_nil ⟨σ,H,I,h⟩
theorem lh{t:TG}{u:zR}(h1:PG X e t)(h2:PGs X es u)
 (hs:(assignEach (e::es) X.env).map (·.2)=assign e X.env::(assignEach es X.env).map (·.2):=by rfl):PGs X (e::es) (sO t u):=by
 intro pins s σ H vs us Q I r h;obtain⟨v,vr,e1,h⟩:=h;subst e1;cases r with
 |cons r rr=>
  rw[hs];refine assignInOrder_cons (xt (h1 pins s σ H _ _ _ I r h) fun _ s1 ⟨σ1,H1,I1,q1⟩=>?_);exact h2 pins s1 σ1 H1 _ _ Q I1 rr q1
def ajg(K:Af)(n:Nat)(t:zR):TG:=fun v σ H Q=>∃a xs,v=.ref a/\cL K H a xs/\xs.length=n/\t xs σ H Q
theorem zK{k:Nat}{t:zR}(hc:X.calm=true)(h:PGs X es t)
 (hn:(assignEach es X.env).length=n:=by rfl) (hst:(assignEach es X.env).findIdx? (·.1)=none:=by rfl):PG X (.Tuple es k pos) (ajg X.K n t):=by
 intro pins s σ H v u Q I r hw;obtain⟨a,xs,e1,hq,hl,hw⟩:=hw;subst e1;cases r;obtain⟨its,rv,ht,hz⟩:=I.tuple hq;refine assign_Tuple_tuple (I.ok.hd hc) ht (by simp[hn,<-hl,rv.length]) hst fun h' hx=>?_;have I1:qw X pins σ H { s with heap:=h' }:=I.kept (t':=s.toks) fun b o e=>hx b o (A3 (Heap.lt_size e)) e;exact h pins _ σ H xs _ Q I1 (by simpa using rv) hw
def aqa(to ti:TE)(t:aki):TG:=fun v σ H Q=>to σ H fun o H1=>ti σ H1 fun i H2=>t o i v H2 fun H3=>Q σ H3
theorem ahx{i:Expr}{to ti:TE}{t:aki}(ho:PE X o to)(hi:PE X i ti)(hs:amv X t)
 (ha:∀v,assign (.Subscript o i pos) X.env v=(do
  let ov <-holding [v] (eval o X.env)
  let iv <-holding [v,ov] (eval i X.env)
  standAt pos
  holding [v,ov,iv] (setItem ov iv v)
  release [v,ov,iv] []):=by intro _;rfl):PG X (.Subscript o i pos) (aqa to ti t):=by
 intro pins s σ H v u Q I r h;rw[ha];refine Aa (Bc (xt (ho pins s σ H _ I h) fun ov s1 ⟨x,H1,I1,r1,q1⟩=>?_));refine Aa (Bc (xt (hi pins s1 σ H1 _ I1 q1) fun iv s2 ⟨y,H2,I2,r2,q2⟩=>?_));refine Aa (wpAny_standAt (Aa (Bc (xt (hs pins s2 σ H2 x y v ov iv u _ I2 r1 r2 r q2) fun _ s3 ⟨H3,I3,q3⟩=>?_))));exact wpAny_release ⟨σ,H3,I3,q3⟩
def ail(te:TE)(g:TG):TS:=fun D σ H=>te σ H fun x H1=>g x σ H1 D.nx
theorem ac4{te:TE}{g:TG}(he:PE X e te)(hg:PG X tg g)(hs:swapsWithSole [tg] e pos.line X.env=pure false:=by rfl)(hw:swappedStores [tg] e X.env=pure none:=by rfl)
 (h1:(assignEach [tg] X.env).map (·.2)=[assign tg X.env]:=by rfl):PS X (.Assign [tg] e pos) (ail te g):=by
 intro pins s σ H D I h;refine wpAny_Assign_stores (xt (he pins s σ H _ I h) fun v s1 ⟨x,H1,I1,r1,q1⟩=>?_) hs hw;rw[h1];exact xt (hg pins s1 σ H1 x v _ I1 r1 q1) fun _ s2 q=>q
theorem ajt{te:TE}(hN:X.N.Nodup)(hi:X.N[i]?=some x)(hx:Loc X.env.scope x)(he:PE X e te)(hs:swapsWith e (some (.Name x pos')) pos.line X.env=pure false:=by rfl)(hf:X.fn x=true\/X.env.scope.names.lookup x=some .local:=by first | exact .inl rfl | exact .inr rfl | assumption):
 PS X (.Assign [.Name x pos'] e pos) (ail te (cT i)):=by
 intro pins s σ H D I h;refine wpAny_Assign_Name (xt (he pins s σ H _ I h) fun v s1 ⟨y,H1,I1,r1,q1⟩=>?_) hs;exact aV I1 hN hi hx r1 (fun s2 I2=>⟨_,H1,I2,q1⟩) hf
def apd(i j:Nat)(ta:TA):TS:=fun D σ H=>ta σ H fun vs H1=>∃v w,vs=[v,w]/\D.nx ((σ.set i (some v)).set j (some w)) H1
theorem ak6{y:Str}{a b:Expr}{ta:TA}{px pt:Pos}{kt k2 pt2}(hc:X.calm=true)(hN:X.N.Nodup)(hi:X.N[i]?=some x)(hj:X.N[j]?=some y)(hij:i≠j)
 (hx:X.env.scope.names.lookup x=some .local) (hy:X.env.scope.names.lookup y=some .local) (ha:PA X [a,b] ta)
 (hw:swappedStores [.Tuple [.Name x px,.Name y py] kt pt] (.Tuple [a,b] k2 pt2) X.env=pure (some [x,y]))
 (hs:swapsWithSole [.Tuple [.Name x px,.Name y py] kt pt] (.Tuple [a,b] k2 pt2) pos.line X.env=pure false:=by rfl):
 PS X (.Assign [.Tuple [.Name x px,.Name y py] kt pt] (.Tuple [a,b] k2 pt2) pos) (apd i j ta):=by
 intro pins s σ H D I h;rw[exec_Assign_arm];refine Aa (wpAny_standAt ?_);rw[hs];refine Aa (Ai ?_);rw[Aq (by decide)];refine Aa (Tuple_ (xt (ha _ pins s σ H _ I h) fun us s1 ⟨vs,H1,I1,r1,q1⟩=>?_));obtain⟨v,w,e1,q1⟩:=q1;subst e1;obtain⟨u1,u2,rfl,rv,rw'⟩:∃u1 u2,us=[u1,u2]/\zo v u1/\zo w u2:=by
  cases r1 with
  |cons p q=>
   cases q with
   |cons p' q'=>
    cases q';exact⟨_,_,rfl,p,p'⟩
 refine Bk ?_ (by show 2≤sizeLine;decide);have I2:qw X pins σ H1 { s1 with heap:=s1.heap.push { cls:=.type "tuple",data:=.seq [u1,u2].toArray } }:=I1.kept (t':=s1.toks) fun b o e=>Heap.get?_push_of_some _ e;rw[hw];refine Aa (Ai ?_);show wpAny (model X.prog X.w) X.A (do rule "assign.swapped-stores";let items <-unpackItems (.ref s1.heap.objs.size) 2 none;assignInOrder [fun v=>bindName X.env y v,fun v=>bindName X.env x v] items.reverse;pure Flow.next) _ _ _;refine Aa (Bt (Aa (unpackItems_tuple (items:=#[u1,u2]) (I.ok.hd hc) (IsTup.new s1.heap _) fun h' hx'=>?_)));have I3:=I2.kept (h':=h') (t':=s1.toks) fun b o e=>hx' b o (A3 (Heap.lt_size e)) e;show wpAny _ _ (assignInOrder [fun v=>bindName X.env y v,fun v=>bindName X.env x v] [u2,u1] >>= fun _=>pure Flow.next) _ _ _;refine Aa (assignInOrder_cons (wpAny_bindName (aV I3 hN hj (.inl hy) rw' (fun s2 I4=>?_) (.inr hy))));refine assignInOrder_cons (wpAny_bindName (aV I4 hN hi (.inl hx) rv (fun s3 I5=>assignInOrder_nil (Ai ?_)) (.inr hx)));rw[DB _ _ (AH hij)] at I5;exact⟨_,H1,I5,q1⟩
end
section
def aha(c:TT)(tb:TS):TS:=fun D σ H=>∃W:Nat->St->Hp->Prop,(∃m,W m σ H)/\∀m σ H,W m σ H->
 c σ H fun b H1=>if b=true then ∃N:St->Hp->Prop,(∀σ' H',N σ' H'->∃m',m'<m/\W m' σ' H')/\tb { D with nx:=N,ct:=N,bk:=D.nx } σ H1 else D.nx σ H1
theorem acu{tc:TT}{tb:TS}(hp:PassesOwn (model X.prog X.w) X.A X.env X.xe)(hc:PT X c tc)(hb:jP X body tb):PS X (.While c body [] pos) (aha tc tb):=by
 intro pins s σ H D I h;obtain⟨W,⟨m0,w0⟩,turn⟩:=h;refine wpAny_While (codeAny_whileLoop (fun n s'=>∃σ' H',qw X pins σ' H' s'/\W n σ' H') ?_ m0 ⟨σ,H,I,w0⟩);rintro n s1 ⟨σ1,H1,I1,w1⟩;refine wpAny_passesOwn hp (xt (hc pins s1 σ1 H1 _ I1 (turn n σ1 H1 w1)) fun b s2 ⟨H2,I2,q2⟩=>?_);cases b with
 |true=>
  obtain⟨N,hN,q2⟩:=q2;rw[As rfl];refine wpAny_passesOwn hp (xt (hb pins s2 σ1 H2 _ I2 q2) fun f s3 q3=>?_);cases f with
  |next=>
   obtain⟨σ3,H3,I3,n3⟩:=q3;obtain⟨m',hm,w3⟩:=hN σ3 H3 n3;exact⟨m',hm,σ3,H3,I3,w3⟩
  |cont=>
   obtain⟨σ3,H3,I3,n3⟩:=q3;obtain⟨m',hm,w3⟩:=hN σ3 H3 n3;exact⟨m',hm,σ3,H3,I3,w3⟩
  |brk=>exact q3
  |ret v=>exact q3
 |false=>
  rw[Aq Az];exact wpAny_execs_nil ⟨σ1,H2,I2,q2⟩
end
structure It where
 go:Nat->Hp->Prop
 yld:Nat->Hp->V->Hp->Prop
 stop:Nat->Hp->Prop
def mO(X:Cx)(pins:List (Addr×Obj))(H:Hp)(b:Addr):Prop:=
 H b=none/\b≠X.env.locals/\b∉X.fs/\(b∈X.ex\/X.s₀.heap.objs.size≤b)/\(∀x c,X.env.cells.lookup x=some c->c≠b)/\∀p∈X.pn++pins,p.1≠b
theorem qw.fpOk{b:Addr}(I:qw X pins σ H s)(hb:s.heap.objs.size≤b)(hn:H' b=none):mO X pins H' b:=by
 refine⟨hn,C0 (AO I.lt hb),I.nofs hb,.inr (AL I.sz hb),fun x c e z=>?_,fun p hp z=>?_⟩
 ·obtain⟨v,q⟩:=I.cell x c e;exact absurd (AO q.lt (by rw[z];exact hb)) (Ct _)
 ·exact absurd (AO (Heap.lt_size (I.pin p hp).1) (by rw[z];exact hb)) (Ct _)
structure xG(P:Program)(w:World)(K:Af)(tg:Expr)(J:It)(fp:List Addr)(it:Addr)(tn:Nat->Heap->Prop):Prop where
 mem:it∈fp
 obj:∀i h,tn i h->∀b∈fp,∃o,h.get? b=some o/\∀v,o.data≠.cell v
 keep:∀i h h',tn i h->(∀b∈fp,∀o,h.get? b=some o->h'.get? b=some o)->tn i h'
 item:∀(X:Cx),X.prog=P->X.w=w->X.K=K->X.calm=true->∀(i:Nat) (pins:List (Addr×Obj)) (s:Shared) (σ:St) (H:Hp) (E:Value->Shared->Prop),qw X pins σ H s->(∀b∈fp,mO X pins H b)->tn i s.heap->J.go i H->
  wpAny (model P w) X.A (pyNext (.ref it)) (fun r s1=>∃u,r=some u/\
   wpAny (model P w) X.A (letOwnedTupleGo tg (.ref it) u) (fun _ s2=>∃x H',qw X pins σ H' s2/\zo x u/\J.yld i H x H'/\tn (i+1) s2.heap/\∀b∈fp,H' b=none) E s1) E s
 done:∀(X:Cx),X.prog=P->X.w=w->X.K=K->X.calm=true->∀(i:Nat) (pins:List (Addr×Obj)) (s:Shared) (σ:St) (H:Hp) (E:Value->Shared->Prop),qw X pins σ H s->(∀b∈fp,mO X pins H b)->tn i s.heap->J.stop i H->
  wpAny (model P w) X.A (pyNext (.ref it)) (fun r s1=>r=none/\qw X pins σ H s1) E s
 self:∀(A:Around) (i:Nat) (s:Shared) (Q:Value->Shared->Prop) (E:Value->Shared->Prop),tn i s.heap->Q (.ref it) s->wpAny (model P w) A (pyIter (.ref it)) Q E s
abbrev TI:=St->Hp->(It->Hp->Prop)->Prop
def PIE(X:Cx)(pins:List (Addr×Obj))(σ:St)(tg:Expr)(R:It->Hp->Prop)(itv:Value)(s2:Shared):Prop:=
 ∃(it:Addr) (fp:List Addr) (tn:Nat->Heap->Prop) (J:It) (H':Hp),itv=.ref it/\qw X pins σ H' s2/\xG X.prog X.w X.K tg J fp it tn/\tn 0 s2.heap/\(∀b∈fp,mO X pins H' b)/\R J H'
def PI(X:Cx)(tg iter:Expr)(wi:TI):Prop:=
 ∀(pins:List (Addr×Obj)) (s:Shared) (σ:St) (H:Hp) (R:It->Hp->Prop),qw X pins σ H s->wi σ H R->
  wpAny (model X.prog X.w) X.A (eval iter X.env) (fun v s1=>wpAny (model X.prog X.w) X.A (pyIter v) (PIE X pins σ tg R) X.xe s1) X.xe s
theorem zL{o:Obj}{n:String}{vs:Array Value}{Q:Unit->Shared->Prop}(ho:s.heap.get? it=some o)(hc:o.cls=.type n)(hd:o.data=.fields vs)
 (hn:["enumerate", "zip", "dict_itemiterator", "dict_reverseitemiterator", "odict_iterator", "itertools.zip_longest", "itertools.pairwise"].contains n=false) (hQ:Q () s):wpAny M A (letOwnedTupleGo tg (.ref it) u) Q E s:=by
 unfold letOwnedTupleGo;cases tg<;>first
  |exact Ai hQ
  |(cases u<;>first
   |exact Ai hQ
   |(refine Aa (wpAny_load ho ?_)
     rw[hc,hd];show wpAny M A (if (["enumerate", "zip", "dict_itemiterator", "dict_reverseitemiterator", "odict_iterator", "itertools.zip_longest", "itertools.pairwise"].contains n&&vs[0]?==some (rawInt _))=true then _ else _) Q E s;rw[Aq (by intro h;rw[hn,Bool.false_and] at h;cases h)];exact Ai hQ))
def Itl(K:Af)(a:Addr):It:=
 ⟨fun i H=>∃xs x,wu K H a xs/\xs[i]?=some x,fun i H x H'=>H'=H/\∀xs,wu K H a xs->xs[i]?=some x,fun i H=>∃xs,wu K H a xs/\xs.length≤i⟩
def Itt(K:Af)(a:Addr):It:=
 ⟨fun i H=>∃xs x,cL K H a xs/\xs[i]?=some x,fun i H x H'=>H'=H/\∀xs,cL K H a xs->xs[i]?=some x,fun i H=>∃xs,cL K H a xs/\xs.length≤i⟩
def Itr(lo:Int)(n:Nat):It:=⟨fun i _=>i<n,fun i H x H'=>H'=H/\x=.int (lo+i),fun i _=>n≤i⟩
theorem yP{P:Program}{w:World}{K:Af}(a it:Addr):xG P w K tg (Itl K a) [it] it (fun i h=>h.IsListIter it a i) where
 mem:=by simp
 obj:=fun i h st b hb=>by
  have e:b=it:=by simpa using hb
  subst e;obtain⟨o,e,c,d⟩:=st;exact⟨o,e,fun v z=>by rw[d] at z;cases z⟩
 keep:=fun i h h' st k=>st.at fun o e=>k it (by simp) o e
 item:=by intro X hP hw hK hc i pins s σ H E I hf st hg;subst hP hw hK;obtain⟨xs,x,hq,hx⟩:=hg;obtain⟨its,rv,p,hz⟩:=I.list hq;obtain⟨u,hu,ru⟩:=rv.get hx;obtain⟨f0,f1,f2,f3,f4,f5⟩:=hf it (by simp);refine wpAny_pyNext_list_item st p.isList (x:=u) (by simpa using hu) fun h' st' sb=>?_;have I1:qw X pins σ H { s with heap:=h' }:=I.turned (t':=s.toks) (fun b o hb e=>(sb.2 b hb).trans e) f0 f1 f3 f4 f5;obtain⟨o,e,c,d⟩:=id st';exact⟨u,rfl,zL (s:={ s with heap:=h' }) e c d (by decide) ⟨x,H,I1,ru,⟨rfl,fun ys hy=>by rw[I.list_inj hy hq];exact hx⟩,st',fun b hb=>(hf b hb).1⟩⟩
 done:=by intro X hP hw hK hc i pins s σ H E I hf st hg;subst hP hw hK;obtain⟨xs,hq,hx⟩:=hg;obtain⟨its,rv,p,hz⟩:=I.list hq;obtain⟨f0,f1,f2,f3,f4,f5⟩:=hf it (by simp);have hl:=rv.length;exact wpAny_pyNext_list_end (I.ok.hd hc) st p.isList (by simp;omega) fun h' eb=>⟨rfl,I.turned (t':=s.toks) (fun b o hb e=>eb b o hb e) f0 f1 f3 f4 f5⟩
 self:=fun _ _ _ _ _ st h=>wpAny_pyIter_listiter st h
theorem u7{P:Program}{w:World}{K:Af}(a it:Addr):xG P w K tg (Itt K a) [it] it (fun i h=>h.IsTupleIter it a i) where
 mem:=by simp
 obj:=fun i h st b hb=>by
  have e:b=it:=by simpa using hb
  subst e;obtain⟨o,e,c,d⟩:=st;exact⟨o,e,fun v z=>by rw[d] at z;cases z⟩
 keep:=fun i h h' st k=>st.at fun o e=>k it (by simp) o e
 item:=by intro X hP hw hK hc i pins s σ H E I hf st hg;subst hP hw hK;obtain⟨xs,x,hq,hx⟩:=hg;obtain⟨its,rv,p,hz⟩:=I.tuple hq;obtain⟨u,hu,ru⟩:=rv.get hx;obtain⟨f0,f1,f2,f3,f4,f5⟩:=hf it (by simp);refine wpAny_pyNext_tuple_item st (show s.heap.IsTuple a its.toArray from p) (x:=u) (by simpa using hu) fun h' st' sb=>?_;have I1:qw X pins σ H { s with heap:=h' }:=I.turned (t':=s.toks) (fun b o hb e=>(sb.2 b hb).trans e) f0 f1 f3 f4 f5;obtain⟨o,e,c,d⟩:=id st';exact⟨u,rfl,zL (s:={ s with heap:=h' }) e c d (by decide) ⟨x,H,I1,ru,⟨rfl,fun ys hy=>by rw[I.tuple_inj hy hq];exact hx⟩,st',fun b hb=>(hf b hb).1⟩⟩
 done:=by intro X hP hw hK hc i pins s σ H E I hf st hg;subst hP hw hK;obtain⟨xs,hq,hx⟩:=hg;obtain⟨its,rv,p,hz⟩:=I.tuple hq;obtain⟨f0,f1,f2,f3,f4,f5⟩:=hf it (by simp);have hl:=rv.length;exact wpAny_pyNext_tuple_end (I.ok.hd hc) st (show s.heap.IsTuple a its.toArray from p) (by simp;omega) fun h' eb=>⟨rfl,I.turned (t':=s.toks) (fun b o hb e=>eb b o hb e) f0 f1 f3 f4 f5⟩
 self:=fun _ _ _ _ _ st h=>wpAny_pyIter_tupleiter st h
theorem uE{P:Program}{w:World}{K:Af}(it:Addr)(lo:Int)(n:Nat):xG P w K tg (Itr lo n) [it] it (fun i h=>IsRangeIter h it (lo+(i:Nat)*1) ((n:Int) - (i:Nat)) 1) where
 mem:=by simp
 obj:=fun i h st b hb=>by
  have e:b=it:=by simpa using hb
  subst e;exact⟨_,st,fun v z=>by have z':Data.fields _=Data.cell v:=z;cases z'⟩
 keep:=fun i h h' st k=>k it (by simp) _ st
 item:=by intro X hP hw hK hc i pins s σ H E I hf st hg;subst hP hw hK;obtain⟨f0,f1,f2,f3,f4,f5⟩:=hf it (by simp);have W:=Walks.range (prog:=X.prog) (w:=X.w) (I.ok.hd hc) it lo 1 n;refine jw I.tk (W.item i s _ _ hg st fun v h' tk hv st' kk ht=>?_);obtain⟨t,rfl⟩:=hv;have I1:qw X pins σ H { s with heap:=h',toks:=tk }:=I.turned (fun b o hb e=>kk b o (by simpa using hb) e) f0 f1 f3 f4 f5;refine⟨_,rfl,zL (s:={ s with heap:=h',toks:=tk }) (n:="range_iterator") st' rfl rfl (by decide) ⟨.int (lo+i),H,I1,⟨t,?_⟩,⟨rfl,rfl⟩,st',fun b hb=>(hf b hb).1⟩⟩;rw[Int.mul_one]
 done:=by intro X hP hw hK hc i pins s σ H E I hf st hg;subst hP hw hK;obtain⟨f0,f1,f2,f3,f4,f5⟩:=hf it (by simp);exact wpAny_pyNext_range_end (I.ok.hd hc) st (by have:n≤i:=hg;omega) fun h' eb=>⟨rfl,I.turned (t':=s.toks) (fun b o hb e=>eb b o hb e) f0 f1 f3 f4 f5⟩
 self:=fun _ _ _ _ _ st h=>wpAny_pyIter_rangeiter st h
end L2
variable {wi:L2.TI}
namespace L2
open PySem PySem.Spec PyProof.Rows
section
def am0(K:Af)(tl:TE):TI:=fun σ H R=>tl σ H fun x H1=>∃a,x=.ref a/\(∃xs,wu K H1 a xs)/\R (Itl K a) H1
def apt(K:Af)(tl:TE):TI:=fun σ H R=>tl σ H fun x H1=>∃a,x=.ref a/\(∃xs,cL K H1 a xs)/\R (Itt K a) H1
theorem aec{l:Expr}{tl:TE}(hl:PE X l tl):PI X tg l (am0 X.K tl):=by
 intro pins s σ H R I h;refine xt (hl pins s σ H _ I h) fun v s1 ⟨x,H1,I1,r1,q1⟩=>?_;obtain⟨a,e,⟨xs,hq⟩,q⟩:=q1;subst e;cases r1;obtain⟨its,rv,p,hz⟩:=I1.list hq;refine wpAny_pyIter_list p.isList ?_;refine⟨s1.heap.objs.size,[s1.heap.objs.size],_,_,H1,rfl,I1.kept (t':=s1.toks) fun b o e=>Heap.get?_push_of_some _ e,yP a _,⟨_,Heap.get?_push_size _ rfl,rfl,rfl⟩,fun b hb=>?_,q⟩;have e:b=s1.heap.objs.size:=by simpa using hb
 subst e;exact I1.fpOk (Am _) (I1.hok.fresh (Am _))
theorem ahq{l:Expr}{tl:TE}(hl:PE X l tl):PI X tg l (apt X.K tl):=by
 intro pins s σ H R I h;refine xt (hl pins s σ H _ I h) fun v s1 ⟨x,H1,I1,r1,q1⟩=>?_;obtain⟨a,e,⟨xs,hq⟩,q⟩:=q1;subst e;cases r1;obtain⟨its,rv,p,hz⟩:=I1.tuple hq;refine wpAny_pyIter_tuple (show s1.heap.IsTuple a its.toArray from p) ?_;refine⟨s1.heap.objs.size,[s1.heap.objs.size],_,_,H1,rfl,I1.kept (t':=s1.toks) fun b o e=>Heap.get?_push_of_some _ e,u7 a _,⟨_,Heap.get?_push_size _ rfl,rfl,rfl⟩,fun b hb=>?_,q⟩;have e:b=s1.heap.objs.size:=by simpa using hb
 subst e;exact I1.fpOk (Am _) (I1.hok.fresh (Am _))
theorem zG{R:It->Hp->Prop}{hi:Int}{t u v:Tok}{tk:Nat}(I:qw X pins σ H s)(h1 : -(2 ^ 62)≤lo)(h2:lo<2 ^ 62)(h3 : -(2 ^ 62)≤hi)(h4:hi<2 ^ 62)
 (q:R (Itr lo (hi - lo).toNat) H) (ht:0<tk:=by walk_at "t"):wpAny (model X.prog X.w) X.A (pyIter (.ref s.heap.objs.size)) (PIE X pins σ tg R) E { s with heap:=s.heap.push { cls:=.type "range",data:=.fields #[.int lo t,.int hi u,.int 1 v] },toks:=tk }:=by
 refine wpAny_pyIter_range (IsRange.new ..) (small_one h1 h2 h3 h4) ?_;have I1:qw X pins σ H { s with heap:=s.heap.push { cls:=.type "range",data:=.fields #[.int lo t,.int hi u,.int 1 v] },toks:=tk }:=I.kept fun b o e=>Heap.get?_push_of_some _ e;refine⟨(s.heap.push { cls:=.type "range",data:=.fields #[.int lo t,.int hi u,.int 1 v] }).objs.size,[(s.heap.push { cls:=.type "range",data:=.fields #[.int lo t,.int hi u,.int 1 v] }).objs.size],_,_,H,rfl,
  I1.kept (t':=tk) fun b o e=>Heap.get?_push_of_some _ e,uE _ lo (hi - lo).toNat,?_,fun b hb=>?_,q⟩
 ·have e1:lo+((0:Nat):Int)*1=lo:=by simp
  have e2:(((hi - lo).toNat:Nat):Int) - ((0:Nat):Int)=Builtin.Range.rangeSize lo hi 1:=by rw[rangeSize_one];split<;>omega
  show IsRangeIter _ _ (lo+((0:Nat):Int)*1) ((((hi - lo).toNat:Nat):Int) - ((0:Nat):Int)) 1;rw[e1,e2];exact Heap.get?_push_size _ rfl
 ·have e:b=(s.heap.push { cls:=.type "range",data:=.fields #[.int lo t,.int hi u,.int 1 v] }).objs.size:=by simpa using hb
  subst e;exact I1.fpOk (Am _) (I1.hok.fresh (Am _))
def ama(ta:TA):TI:=fun σ H R=>ta σ H fun vs H1=>∃j:Int,vs=[.int j] /\ -(2 ^ 62)≤j/\j<2 ^ 62/\R (Itr 0 j.toNat) H1
theorem xX{a:Expr}{ta:TA}(hg:Gl X "range")(hm:X.mg "range" = none)(ha:PA X [a] ta)(hs:starEach [a] X.env=[(false,eval a X.env)]:=by rfl):PI X tg (.Call (.Name "range" p) [a] [] pos) (ama ta):=by
 intro pins s σ H R I h;refine Call_ (fG I hg hm boot_range (BW (xt (ha pos pins s σ H _ I h) fun us s1 ⟨vs,H1,I1,r1,q1⟩=>?_) hs rfl));obtain⟨j,e,q1,q2,q⟩:=q1;subst e;cases r1 with
 |cons r rr=>
  cases rr;obtain⟨t,rfl⟩:=r;exact call_range_1 (zG I1 (by omega) (by omega) q1 q2 (by simpa using q))
def aq8(wi:TI)(g:TG)(tb:TS):TS:=fun D σ H=>wi σ H fun J H1=>∃W:Nat->Nat->St->Hp->Prop,(∃m,W 0 m σ H1)/\∀i m σ H,W i m σ H->
 (J.stop i H/\D.nx σ H)\/(J.go i H/\∃N:St->Hp->Prop,(∀σ' H',N σ' H'->∃m',m'<m/\W (i+1) m' σ' H')/\∀x H',J.yld i H x H'->g x σ H' fun σ2 H2=>tb { D with nx:=N,ct:=N,bk:=D.nx } σ2 H2)
def kE(fp:List Addr)(h:Heap):List (Addr×Obj):=fp.filterMap fun b=>(h.get? b).map fun o=>(b,o)
theorem bU{b:Addr}{o:Obj}(hb:b∈fp)(e:h.get? b=some o):(b,o)∈kE fp h:=List.mem_filterMap.mpr ⟨b,hb,by rw[e];rfl⟩
theorem yU{p:Addr×Obj}(hp:p∈kE fp h):p.1∈fp/\h.get? p.1=some p.2:=by
 obtain⟨b,hb,e⟩:=List.mem_filterMap.mp hp;cases q:h.get? b with
 |none=>rw[q] at e;cases e
 |some o=>
  rw[q] at e;have e':(b,o)=p:=AV e;subst e';exact⟨hb,q⟩
theorem qw.pinned(I:qw X pins σ H s)(hf:∀b∈fp,mO X pins H b)(ho:∀b∈fp,∃o,s.heap.get? b=some o/\∀v,o.data≠.cell v):qw X (pins++kE fp s.heap) σ H s:=
 I.pins_of fun p hp=>(Ak.mp hp).elim (fun z=>I.pin p (Ag _ z)) fun z=>by obtain⟨hb,e⟩:=yU z;obtain⟨f0,f1,f2,_⟩:=hf p.1 hb;obtain⟨o,e',d⟩:=ho p.1 hb;rw[e] at e';cases e';exact⟨e,f0,f1,f2,d⟩
theorem qw.unpinned{pl:List (Addr×Obj)}(I:qw X (pins++pl) σ H s):qw X pins σ H s:=I.pins_of fun p hp=>I.pin p (Ag _ (Ap _ hp))
theorem ai9{iter:Expr}{g:TG}{tb:TS}(hp:PassesOwn (model X.prog X.w) X.A X.env X.xe)(hc:X.calm=true)(hi:PI X tg iter wi)(hg:PG X tg g)(hb:jP X body tb)
 (hs:∀x,foldedSetIterable iter X.env x=pure x:=by intro _;rfl):PS X (.For tg iter body [] pos) (aq8 wi g tb):=by
 intro pins s σ H D I h;refine wpAny_For (xt (hi pins s σ H _ I h) fun v s1 h1=>xt h1 fun itv s2 h2=>?_) hs;obtain⟨it,fp,tn,J,H2,e,I2,T,st2,f2,W,⟨m0,w0⟩,turn⟩:=h2;subst e;have stat:∀{H':Hp},(∀b∈fp,H' b=none)->∀b∈fp,mO X pins H' b:=fun hn b hb=>⟨hn b hb,(f2 b hb).2⟩;refine codeAny_forLoop_any (fun n s'=>∃i σ' H',qw X pins σ' H' s'/\tn i s'.heap/\(∀b∈fp,H' b=none)/\W i n σ' H') ?_ m0 ⟨0,σ,H2,I2,st2,fun b hb=>(f2 b hb).1,w0⟩;rintro n s3 ⟨i,σ3,H3,I3,st3,fr3,w3⟩;rcases turn i n σ3 H3 w3 with⟨stop,qn⟩ | ⟨go,N,hN,step⟩
 ·refine wpAny_passesOwn hp (xt (T.done X rfl rfl rfl hc i pins s3 σ3 H3 X.xe I3 (stat fr3) st3 stop) fun r s4 ⟨hr,I4⟩=>?_);subst hr;exact wpAny_execs_nil ⟨σ3,H3,I4,qn⟩
 ·refine wpAny_passesOwn hp (xt (T.item X rfl rfl rfl hc i pins s3 σ3 H3 X.xe I3 (stat fr3) st3 go) fun r s4 ⟨u,hr,h4⟩=>?_);subst hr;refine wpAny_passesOwn hp (xt h4 fun _ s5 ⟨x,H5,I5,r5,y5,st5,fr5⟩=>?_);have I5':=I5.pinned (stat fr5) (T.obj _ _ st5);refine wpAny_passesOwn hp (xt (hg _ s5 σ3 H5 x u _ I5' r5 (step x H5 y5)) fun _ s6 ⟨σ6,H6,I6,q6⟩=>?_);refine wpAny_passesOwn hp (xt (hb _ s6 σ6 H6 _ I6 q6) fun f s7 q7=>?_);have again:∀{σ7:St} {H7:Hp},qw X (pins++kE fp s5.heap) σ7 H7 s7->N σ7 H7->∃m,m<n/\∃i σ' H',qw X pins σ' H' s7/\tn i s7.heap/\(∀b∈fp,H' b=none)/\W i m σ' H':=fun {σ7 H7} I7 n7=>by obtain⟨m',hm,w7⟩:=hN σ7 H7 n7;refine⟨m',hm,i+1,σ7,H7,I7.unpinned,T.keep _ _ _ st5 fun b hb o e=>(I7.pin (b,o) (Ag _ (Ag _ (bU hb e)))).1,fun b hb=>?_,w7⟩;obtain⟨o,e,d⟩:=T.obj _ _ st5 b hb;exact(I7.pin (b,o) (Ag _ (Ag _ (bU hb e)))).2.1
  cases f with
  |next=>obtain⟨σ7,H7,I7,n7⟩:=q7;exact again I7 n7
  |cont=>obtain⟨σ7,H7,I7,n7⟩:=q7;exact again I7 n7
  |brk=>obtain⟨σ7,H7,I7,q7⟩:=q7;exact⟨σ7,H7,I7.unpinned,q7⟩
  |ret v=>obtain⟨x7,σ7,H7,I7,r7,q7⟩:=q7;exact⟨x7,σ7,H7,I7.unpinned,r7,q7⟩
end
abbrev R2:=V->V->Hp->VK->Prop
def wn(X:Cx)(f:Value->Value->Sem Value)(r:R2):Prop:=
 ∀(pins:List (Addr×Obj)) (s:Shared) (σ:St) (H:Hp) (x y:V) (v u:Value) (Q:VK),qw X pins σ H s->zo x v->zo y u->r x y H Q->
  wpAny (model X.prog X.w) X.A (f v u) (EP X pins σ Q) X.xe s
def UnR(X:Cx)(f:Value->Sem Value)(r:V->Hp->VK->Prop):Prop:=
 ∀(pins:List (Addr×Obj)) (s:Shared) (σ:St) (H:Hp) (x:V) (v:Value) (Q:VK),qw X pins σ H s->zo x v->r x H Q->
  wpAny (model X.prog X.w) X.A (f v) (EP X pins σ Q) X.xe s
def x4(X:Cx)(f:Value)(r:List V->Hp->VK->Prop):Prop:=
 ∀(pins:List (Addr×Obj)) (s:Shared) (σ:St) (H:Hp) (xs:List V) (us:List Value) (Q:VK),qw X pins σ H s->zk xs us->r xs H Q->
  wpAny (model X.prog X.w) X.A (call f us) (EP X pins σ Q) X.xe s
def tOp(r:R2)(ta tb:TE):TE:=fun σ H Q=>ta σ H fun x H1=>tb σ H1 fun y H2=>r x y H2 Q
def tUn(r:V->Hp->VK->Prop)(ta:TE):TE:=fun σ H Q=>ta σ H fun x H1=>r x H1 Q
def rI(C:Int->Int->Prop)(g:Int->Int->V):R2:=fun x y H Q=>∃i j,x=.int i/\y=.int j/\C i j/\Q (g i j) H
def rI0(g:Int->Int->V):R2:=fun x y H Q=>∃i j,x=.int i/\y=.int j/\Q (g i j) H
def rU(g:Int->V):V->Hp->VK->Prop:=fun x H Q=>∃i,x=.int i/\Q (g i) H
section
variable {a b:Expr}{ta tb tc:TE} 
theorem ai3(ha:PE X a ta)(hb:PE X b tb){R:V->V->Hp->Prop}(I:qw X pins σ H s)
 (h:ta σ H fun x H1=>tb σ H1 fun y H2=>R x y H2) {f:Value->Value->Sem Value}
 (hf:∀v u s2 x y H2,qw X pins σ H2 s2->zo x v->zo y u->R x y H2->wpAny (model X.prog X.w) X.A (f v u) Q X.xe s2):
 wpAny (model X.prog X.w) X.A (eval a X.env) (fun v s₁=>wpAny (model X.prog X.w) X.A (eval b X.env) (fun u s₂=>wpAny (model X.prog X.w) X.A (f v u) Q X.xe s₂) X.xe s₁) X.xe s:=by
 refine xt (ha pins s σ H _ I h) fun v s1 ⟨x,H1,I1,r1,q1⟩=>?_;refine xt (hb pins s1 σ H1 _ I1 q1) fun u s2 ⟨y,H2,I2,r2,q2⟩=>?_;exact hf v u s2 x y H2 I2 r1 r2 q2
theorem alg{op:Operator}{r:R2}(ho:wn X (binaryOp op) r)(ha:PE X a ta)(hb:PE X b tb):PE X (.BinOp a op b pos) (tOp r ta tb):=by intro pins s σ H Q I h;exact wpAny_BinOp (ai3 ha hb I h fun v u s2 x y H2 I2 rx ry q=>ho pins s2 σ H2 x y v u Q I2 rx ry q)
theorem amh{op:UnaryOp}{r:V->Hp->VK->Prop}(ho:UnR X (unaryOp op) r)(ha:PE X a ta):PE X (.UnaryOp op a pos) (tUn r ta):=by intro pins s σ H Q I h;exact UnaryOp_ (xt (ha pins s σ H _ I h) fun v s1 ⟨x,H1,I1,r1,q1⟩=>ho pins s1 σ H1 x v Q I1 r1 q1)
theorem opI{f:Value->Value->Sem Value}{C:Int->Int->Prop}{g:Int->Int->Int}
 (rule:∀(i j:Int) (t u:Tok) (s:Shared) (Q:Value->Shared->Prop) (E:Value->Shared->Prop),C i j->Q (.int (g i j) s.toks) { s with toks:=s.toks+1 }->wpAny (model X.prog X.w) X.A (f (.int i t) (.int j u)) Q E s):
 wn X f (rI C fun i j=>.int (g i j)):=by
 intro pins s σ H x y v u Q I rx ry h;obtain⟨i,j,rfl,rfl,hc,q⟩:=h;obtain⟨t,rfl⟩:=rx;obtain⟨t',rfl⟩:=ry;exact rule i j t t' s _ _ hc ⟨.int (g i j),H,I.tok _,⟨_,rfl⟩,q⟩
theorem alu{f:Value->Value->Sem Value}{g:Int->Int->Int}
 (rule:∀(i j:Int) (t u:Tok) (s:Shared) (Q:Value->Shared->Prop) (E:Value->Shared->Prop),Q (.int (g i j) s.toks) { s with toks:=s.toks+1 }->wpAny (model X.prog X.w) X.A (f (.int i t) (.int j u)) Q E s):
 wn X f (rI0 fun i j=>.int (g i j)):=by
 intro pins s σ H x y v u Q I rx ry h;obtain⟨i,j,rfl,rfl,q⟩:=h;obtain⟨t,rfl⟩:=rx;obtain⟨t',rfl⟩:=ry;exact rule i j t t' s _ _ ⟨.int (g i j),H,I.tok _,⟨_,rfl⟩,q⟩
theorem al0{f:Value->Value->Sem Value}{g:Int->Int->Bool}
 (rule:∀(i j:Int) (t u:Tok) (s:Shared) (Q:Value->Shared->Prop) (E:Value->Shared->Prop),Q (.bool (g i j)) s->wpAny (model X.prog X.w) X.A (f (.int i t) (.int j u)) Q E s):
 wn X f (rI0 fun i j=>.bl (g i j)):=by
 intro pins s σ H x y v u Q I rx ry h;obtain⟨i,j,rfl,rfl,q⟩:=h;obtain⟨t,rfl⟩:=rx;obtain⟨t',rfl⟩:=ry;exact rule i j t t' s _ _ ⟨.bl (g i j),H,I,rfl,q⟩
def ajd(i j:Int):Prop:=0<j/\j<1073741824
def ak9(i j:Int):Prop:=0≤j/\j≤1000000/\i.natAbs<2 ^ 64
def ab3(i j:Int):Prop:=(-(2 ^ 64)<i/\i<2 ^ 64)\/(-(2 ^ 64)<j/\j<2 ^ 64)
theorem ab3.ok{i j:Int}(h:ab3 i j):IntMulOk i j:=by
 rcases h with⟨h1,h2⟩ | ⟨h1,h2⟩
 ·exact .of_left (intBits_le_64 h1 h2)
 ·exact .of_right (intBits_le_64 h1 h2)
theorem ai5:wn X (binaryOp .Add) (rI0 fun i j=>.int (i+j)):=alu fun _ _ _ _ _ _ _ q=>add_int q
theorem ajp:wn X (binaryOp .Sub) (rI0 fun i j=>.int (i - j)):=alu fun _ _ _ _ _ _ _ q=>sub_int q
theorem ai0:wn X (binaryOp .Mult) (rI ab3 fun i j=>.int (i*j)):=opI fun _ _ _ _ _ _ _ hc q=>mul_int q hc.ok
theorem adc:wn X (binaryOp .FloorDiv) (rI ajd fun i j=>.int (i / j)):=opI fun i j _ _ _ _ _ hc q=>by have h1:(0:Int)<j:=hc.1;have h2:j<1073741824:=hc.2;exact floordiv_int (by omega) (by rw[Int.fdiv_eq_ediv_of_nonneg i (by omega)];exact q) (.inl (PyProof.noPylong_small (by omega)))
theorem ah9:wn X (binaryOp .Mod) (rI (fun _ j=>0<j) fun i j=>.int (i % j)):=opI fun i j _ _ _ _ _ hc q=>by have h1:(0:Int)<j:=hc;exact mod_int' (by omega) (by rw[Int.fmod_eq_emod_of_nonneg i (by omega)];exact q)
theorem ahu:wn X (binaryOp .Pow) (rI ak9 fun i j=>.int (i ^ j.toNat)):=opI fun _ _ _ _ _ _ _ hc q=>pow_int_small hc.1 hc.2.1 hc.2.2 q
theorem unI{f:Value->Sem Value}{g:Int->Int}
 (rule:∀(i:Int) (t:Tok) (s:Shared) (Q:Value->Shared->Prop) (E:Value->Shared->Prop),Q (.int (g i) s.toks) { s with toks:=s.toks+1 }->wpAny (model X.prog X.w) X.A (f (.int i t)) Q E s):
 UnR X f (rU fun i=>.int (g i)):=by
 intro pins s σ H x v Q I rx h;obtain⟨i,rfl,q⟩:=h;obtain⟨t,rfl⟩:=rx;exact rule i t s _ _ ⟨.int (g i),H,I.tok _,⟨_,rfl⟩,q⟩
theorem akh:UnR X (unaryOp .USub) (rU fun i=>.int (-i)):=unI fun _ _ _ _ _ q=>neg_int q
end
def afy:V->V->Bool
 |.non,.non=>true | .non,.int _=>true | .int _,.non=>true | .non,.bl _=>true | .bl _,.non=>true | .non,.str _=>true | .str _,.non=>true
 |.int _,.int _=>true | .bl _,.bl _=>true | .str _,.str _=>true | .byt _,.byt _=>true
 |.int _,.str _=>true | .str _,.int _=>true | .bl _,.str _=>true | .str _,.bl _=>true
 |_,_=>false
def rEq:R2:=fun x y H Q=>afy x y=true/\Q (.bl (decide (x=y))) H
def rNe:R2:=fun x y H Q=>afy x y=true/\Q (.bl (!decide (x=y))) H
theorem wH{i j:Int}:decide (V.int i=V.int j)=(i==j):=by rw[BH];simp
theorem zM{i j:Bool}:decide (V.bl i=V.bl j)=(i==j):=by rw[BH];simp
theorem vT{i j:Str}:decide (V.str i=V.str j)=(i==j):=by rw[BH];simp
theorem wB{i j:Array UInt8}:decide (V.byt i=V.byt j)=(i.toList==j.toList):=by rw[BH];cases i;cases j;simp
section
variable {a b:Expr}{ta tb tc:TE} 
theorem jh{Q:VK}{k k':Bool}(I:qw X pins σ H s)(q:Q (.bl k) H)(e:k=k'):EP X pins σ Q (.bool k') s:=by subst e;exact⟨.bl k,H,I,rfl,q⟩
theorem agc:wn X (compareOp .Eq) rEq:=by
 intro pins s σ H x y v u Q I rx ry h;obtain⟨hs,q⟩:=h;cases x with
 |non=>
  cases rx;cases y with
  |non=>cases ry;exact PySem.EqNone.eq_none_none (jh I q (by simp))
  |bl j=>cases ry;exact PySem.EqNone.eq_none_bool (jh I q (by simp))
  |int j=>obtain⟨t',rfl⟩:=ry;exact PySem.EqNone.eq_none_int (jh I q (by simp))
  |str j=>obtain⟨t',rfl⟩:=ry;exact PySem.EqNone.eq_none_str (jh I q (by simp))
  |_=>exact absurd (show false=true from hs) Az
 |bl i=>
  cases rx;cases y with
  |non=>cases ry;exact PySem.EqNone.eq_bool_none (jh I q (by simp))
  |bl j=>cases ry;exact eq_bool (jh I q zM)
  |str j=>obtain⟨t',rfl⟩:=ry;exact PySem.EqMixed.eq_bool_str (jh I q (by simp))
  |_=>exact absurd (show false=true from hs) Az
 |int i=>
  obtain⟨t,rfl⟩:=rx;cases y with
  |non=>cases ry;exact PySem.EqNone.eq_int_none (jh I q (by simp))
  |int j=>obtain⟨t',rfl⟩:=ry;exact eq_int (jh I q wH)
  |str j=>obtain⟨t',rfl⟩:=ry;exact PySem.EqMixed.eq_int_str (jh I q (by simp))
  |_=>exact absurd (show false=true from hs) Az
 |str i=>
  obtain⟨t,rfl⟩:=rx;cases y with
  |non=>cases ry;exact PySem.EqNone.eq_str_none (jh I q (by simp))
  |bl j=>cases ry;exact PySem.EqMixed.eq_str_bool (jh I q (by simp))
  |int j=>obtain⟨t',rfl⟩:=ry;exact PySem.EqMixed.eq_str_int (jh I q (by simp))
  |str j=>obtain⟨t',rfl⟩:=ry;exact eq_str (jh I q vT)
  |_=>exact absurd (show false=true from hs) Az
 |byt i=>
  obtain⟨t,rfl⟩:=rx;cases y with
  |byt j=>obtain⟨t',rfl⟩:=ry;exact PySem.W.eq_bytes (jh I q wB)
  |_=>exact absurd (show false=true from hs) Az
 |_=>cases y<;>exact absurd (show false=true from hs) Az
theorem agr:wn X (compareOp .NotEq) rNe:=by
 intro pins s σ H x y v u Q I rx ry h;obtain⟨hs,q⟩:=h;cases x with
 |non=>
  cases rx;cases y with
  |non=>cases ry;exact PySem.EqNone.ne_none_none (jh I q (by simp))
  |bl j=>cases ry;exact PySem.EqNone.ne_none_bool (jh I q (by simp))
  |int j=>obtain⟨t',rfl⟩:=ry;exact PySem.EqNone.ne_none_int (jh I q (by simp))
  |str j=>obtain⟨t',rfl⟩:=ry;exact PySem.EqNone.ne_none_str (jh I q (by simp))
  |_=>exact absurd (show false=true from hs) Az
 |bl i=>
  cases rx;cases y with
  |non=>cases ry;exact PySem.EqNone.ne_bool_none (jh I q (by simp))
  |bl j=>cases ry;exact ne_bool (jh I q (BG not zM))
  |str j=>obtain⟨t',rfl⟩:=ry;exact PySem.EqMixed.ne_bool_str (jh I q (by simp))
  |_=>exact absurd (show false=true from hs) Az
 |int i=>
  obtain⟨t,rfl⟩:=rx;cases y with
  |non=>cases ry;exact PySem.EqNone.ne_int_none (jh I q (by simp))
  |int j=>obtain⟨t',rfl⟩:=ry;exact ne_int (jh I q (BG not wH))
  |str j=>obtain⟨t',rfl⟩:=ry;exact PySem.EqMixed.ne_int_str (jh I q (by simp))
  |_=>exact absurd (show false=true from hs) Az
 |str i=>
  obtain⟨t,rfl⟩:=rx;cases y with
  |non=>cases ry;exact PySem.EqNone.ne_str_none (jh I q (by simp))
  |bl j=>cases ry;exact PySem.EqMixed.ne_str_bool (jh I q (by simp))
  |int j=>obtain⟨t',rfl⟩:=ry;exact PySem.EqMixed.ne_str_int (jh I q (by simp))
  |str j=>obtain⟨t',rfl⟩:=ry;exact ne_str (jh I q (BG not vT))
  |_=>exact absurd (show false=true from hs) Az
 |byt i=>
  obtain⟨t,rfl⟩:=rx;cases y with
  |byt j=>obtain⟨t',rfl⟩:=ry;exact PySem.W.ne_bytes (jh I q (BG not wB))
  |_=>exact absurd (show false=true from hs) Az
 |_=>cases y<;>exact absurd (show false=true from hs) Az
theorem alt:wn X (compareOp .Lt) (rI0 fun i j=>.bl (decide (i<j))):=al0 fun _ _ _ _ _ _ _ q=>lt_int q
theorem am3:wn X (compareOp .Gt) (rI0 fun i j=>.bl (decide (j<i))):=al0 fun _ _ _ _ _ _ _ q=>gt_int q
theorem xh(b:Expr){op:CmpOp}(h:op≠.In:=by decide)(h2:op≠.NotIn:=by decide):behindInMarks op b=false:=by
 have e1:(op==CmpOp.In)=false:=by cases op<;>first | rfl | exact absurd rfl h
 have e2:(op==CmpOp.NotIn)=false:=by cases op<;>first | rfl | exact absurd rfl h2
 cases b<;>simp[behindInMarks,e1,e2]
theorem adr{op:CmpOp}{r:R2}(ho:wn X (compareOp op) r)(ha:PE X a ta)(hb:PE X b tb)(hm:behindInMarks op b=false):PE X (.Compare a [op] [b] pos) (tOp r ta tb):=by intro pins s σ H Q I h;exact wpAny_Compare1 (ai3 ha hb I h fun v u s2 x y H2 I2 rx ry q=>ho pins s2 σ H2 x y v u Q I2 rx ry q) hm
def agj(t:TE):TT:=fun σ H Q=>t σ H fun x H'=>∃k,x=.bl k/\Q k H'
theorem aez{op:CmpOp}{r:R2}(ho:wn X (compareOp op) r)(ha:PE X a ta)(hb:PE X b tb)(hm:behindInMarks op b=false):PT X (.Compare a [op] [b] pos) (agj (tOp r ta tb)):=by
 intro pins s σ H Q I h;refine wpAny_isTrue_Compare1 (xt (ha pins s σ H _ I h) fun v s1 ⟨x,H1,I1,r1,q1⟩=>xt (hb pins s1 σ H1 _ I1 q1) fun u s2 ⟨y,H2,I2,r2,q2⟩=>
  xt (ho pins s2 σ H2 x y v u _ I2 r1 r2 q2) fun c s3 ⟨z,H3,I3,r3,k,e,q3⟩=>?_) hm
 subst e;cases r3;exact wpAny_truthy_bool ⟨H3,I3,q3⟩
theorem gM:(sizeLine:Nat)<2 ^ 63:=by rw[sizeLine_eq];decide
theorem uR:wn X (binaryOp .Add) (fun x y H Q=>∃i j,x=.str i/\y=.str j/\i.length+j.length≤sizeLine/\Q (.str (i++j)) H):=by intro pins s σ H x y v u Q I rx ry h;obtain⟨i,j,rfl,rfl,hz,q⟩:=h;obtain⟨t,rfl⟩:=rx;obtain⟨t',rfl⟩:=ry;exact jw I.tk (add_str (fun t' tk ht=>⟨.str (i++j),H,I.tok _,⟨_,rfl⟩,q⟩) hz)
theorem qY{x:V}(r:zk [x] us):∃u,us=[u]/\zo x u:=by cases r with|cons r1 r2=>cases r2;exact⟨_,rfl,r1⟩
theorem agm{x y:V}(r:zk [x,y] us):∃u w',us=[u,w']/\zo x u/\zo y w':=by
 cases r with
 |cons r1 r2=>
  cases r2 with|cons r3 r4=>cases r4;exact⟨_,_,rfl,r1,r3⟩
theorem yY(hc:X.calm=true):x4 X (.builtin "max") (fun xs H Q=>∃i j,xs=[.int i,.int j]/\Q (.int (if j > i then j else i)) H):=by
 intro pins s σ H xs us Q I r h;obtain⟨i,j,rfl,q⟩:=h;obtain⟨u,w',rfl,⟨t,rfl⟩,⟨t',rfl⟩⟩:=agm r;refine jw I.tk (max_two_ints (I.ok.hd hc) fun h' tk k ht=>⟨_,H,I.kept k,?_,q⟩);by_cases hj:j > i
 ·rw[As hj,As hj];exact⟨_,rfl⟩
 ·rw[Aq hj,Aq hj];exact⟨_,rfl⟩
theorem wQ(hc:X.calm=true):x4 X (.builtin "min") (fun xs H Q=>∃i j,xs=[.int i,.int j]/\Q (.int (if j<i then j else i)) H):=by
 intro pins s σ H xs us Q I r h;obtain⟨i,j,rfl,q⟩:=h;obtain⟨u,w',rfl,⟨t,rfl⟩,⟨t',rfl⟩⟩:=agm r;refine jw I.tk (min_two_ints (I.ok.hd hc) fun h' tk k ht=>⟨_,H,I.kept k,?_,q⟩);by_cases hj:j<i
 ·rw[As hj,As hj];exact⟨_,rfl⟩
 ·rw[Aq hj,Aq hj];exact⟨_,rfl⟩
end
structure tT(h:Heap)(x dx C:Addr)(mA:Str->Option Value):Prop where
 obj:h.get? x=some (PySem.W.instObj C dx)
 ns:h.Ns1 dx mA
 ne:dx≠x
theorem yE(n:h.Ns1 dx mA):∃od,h.get? dx=some od/\∀name,PySem.W.lookIn name od=some (mA name):=by
 obtain⟨o,es,ep,ho,hd,hk,_,hm⟩:=n;refine⟨o,ho,fun name=>?_⟩;have e:=hm name;unfold nsFind findBy at e;rw[<-Array.find?_toList] at e;unfold PySem.W.lookIn;rw[hd];dsimp only;split
 ·rename_i y q;rw[q] at e;exact BG some e
 ·rename_i q;rw[q] at e;have a:es.toList.any (·.refKey)=false:=by rw[List.any_eq_false];intro y hy;obtain⟨z,t,hkey⟩:=hk y (Array.mem_toList_iff.mp hy);simp[DictEntry.refKey,hkey]
  have a':¬es.toList.any (·.refKey)=true:=by rw[a];exact Az
  rw[Aq a'];exact BG some e
theorem tT.look{x:Addr}(I:tT h x dx C mA):∃od,PySem.W.InstAt h x (PySem.W.instObj C dx) C (some od)/\∀name,PySem.W.lookIn name od=some (mA name):=
 let ⟨od,ho,hl⟩:=yE I.ns
 ⟨od,⟨I.obj,rfl,rfl,ho⟩,hl⟩
section
variable {w:World}{K:Af}{x:Addr}{v:Value}
theorem afh{expr:Bool}(X:K.In s.heap)(I:tT s.heap x dx C mA)(hg:PySem.W.plainGet K C name=true)(hh:PySem.W.hasDictIn K C=true)
 (ha:PySem.W.findIn K (.ref C) name=some none) (hv:mA name=some v) (hv':PySem.W.handedIn v=true) (h:Q v { s with toks:=s.toks+1 }):
 wpAny (model prog w) A (getAttr (.ref x) name expr) Q E s:=by
 obtain⟨od,J,hl⟩:=I.look;exact PySem.W.get_value X J (Do hg).1 (PySem.W.findObj_own hh ha rfl (by rw[hl,hv])) hv' h
theorem zP{pl:Sem Bool}{Q:Value×List Value->Shared->Prop}(X:K.In s.heap)(I:tT s.heap x dx C mA)(hg:PySem.W.plainGet K C name=true)
 (hf:PySem.W.findIn K (.ref C) name=some (some (.ref f))) (ht:PySem.W.isFn K (.ref f)=true) (hv:mA name=none) (h:Q (.ref f,[.ref x]) s):
 wpAny (model prog w) A (getMethod (.ref x) name pl) Q E s:=by
 obtain⟨od,J,hl⟩:=I.look;exact PySem.W.method_fn X J (Do hg).1 (Do hg).2 hf (beq_iff_eq.mp ht) (by show(PySem.W.lookIn name od).map (·.isSome)=some false;rw[hl,hv];rfl) h
theorem afj{ns:List Str}{Q:Unit->Shared->Prop}(X:K.In s.heap)(I:tT s.heap x dx C mA)
 (hs:PySem.W.findIn K (.ref C) "__setattr__" = some (some (.builtin "object.__setattr__"))) (hp:PySem.W.plainOver K C=true) (ht:PySem.W.takerIn K C name=some none) (hh:PySem.W.hasDictIn K C=true)
 (hw:PySem.Within mA ns) (hsz:ns.length≤sizeLine)
 (h:∀h',tT h' x dx C (fun y=>if y=name then some v else mA y)->Heap.SameBut dx s.heap h'->Q () { s with heap:=h',toks:=s.toks+2 }):
 wpAny (model prog w) A (setAttr (.ref x) name v) Q E s:=by
 obtain⟨od,J,hl⟩:=I.look;refine PySem.W.set_plain X J hs (PySem.W.osa_open (s:={ s with toks:=s.toks+1 }) (r:=none) X J hp ht fun b=>?_);obtain⟨cd,hc,hd'⟩:=PySem.W.any_some hh;have hx:s.heap.get? x=some ⟨.ref C,some dx,.plain,#[]⟩:=I.obj;refine Aa (Ai (Aa (Aa (wpAny_loadPart hx (Aa (PySem.W.Looks.here (s:={ s with toks:=s.toks+1 }) (PySem.W.looks_clsIn X hc) ?_))))));rw[hd'];refine Ai (a:=some dx) (Aa (Ai (Aa ?_)));refine wpAny_nsSet1 (s:={ s with toks:=s.toks+1 }) I.ns fun h' hn2 hs2=>?_;obtain⟨oD,esD,epD,hoD,hdD,hcD⟩:=hn2.count (PySem.Within.cons name v hw);refine Aa (wpAny_lookBehind hoD (by rw[hdD];exact pastItsLine_dict (AL hcD (by rw[AD];omega))) ?_);exact Ai (h _ ⟨(hs2.2 _ (AH I.ne)).trans I.obj,hn2,I.ne⟩ hs2)
theorem aaa{R:Result->Shared->Prop}(X:K.In s.heap)(hm:PySem.W.makesIn K C=true)
 (hi:PySem.W.findIn K (.ref C) "__init__" = some (some (.ref f))) (hf:PySem.W.typeIn K (.ref f)=some (.type "function"))
 (h:codeAny (model prog w) (A.under (.builtin "type.__call__" ⟨.ref C::vs,kw⟩)) (.call (.ref f) ⟨.ref (s.heap.objs.size+1)::vs,kw⟩) (PySem.W.InitBack (s.heap.objs.size+1) R)
  { s with heap:=(s.heap.push PySem.W.emptyDict).push (PySem.W.instObj C s.heap.objs.size) }):
 codeAny (model prog w) A (.call (.ref C) ⟨vs,kw⟩) R s:=by
 obtain⟨hh,g,d,t,os⟩:=s;exact PySem.W.make_core (PySem.W.makes_of X hm) (PySem.W.looks_findIn X hi) (fun self=>PySem.W.bind_fn X self hf) (.inl rfl) h
end
def cG(f:Str)(v:V):List (Str×V)->List (Str×V)
 |[]=>[(f,v)]
 |(g,x)::r=>if g=f then(g,v)::r else(g,x)::cG f v r
theorem iN(f g:Str)(v:V):∀fs:List (Str×V),(cG f v fs).lookup g=if g=f then some v else fs.lookup g
 |[]=>by
  show List.lookup g [(f,v)]=_;by_cases h:g=f
  ·have hb:(g==f)=true:=beq_iff_eq.mpr h;simp only[List.lookup,hb,As h]
  ·have hb:(g==f)=false:=beq_eq_false_iff_ne.mpr h;simp only[List.lookup,hb,Aq h]
 |(k,x)::r=>by
  have ih:=iN f g v r;rw[show cG f v ((k,x)::r)=(if k=f then(k,v)::r else(k,x)::cG f v r) from rfl];by_cases hk:k=f
  ·rw[As hk];by_cases h:g=k
   ·have hb:(g==k)=true:=beq_iff_eq.mpr h;simp only[List.lookup,hb,As (h.trans hk)]
   ·have hb:(g==k)=false:=beq_eq_false_iff_ne.mpr h;simp only[List.lookup,hb,Aq (fun e:g=f=>h (e.trans hk.symm))]
  ·rw[Aq hk];by_cases h:g=k
   ·have hb:(g==k)=true:=beq_iff_eq.mpr h;simp only[List.lookup,hb,Aq (fun e:g=f=>hk (h.symm.trans e))]
   ·have hb:(g==k)=false:=beq_eq_false_iff_ne.mpr h;simp only[List.lookup,hb];exact ih
theorem hV(f:Str)(v:V):∀fs:List (Str×V),f∈(cG f v fs).map (·.1)/\∀g,g∈fs.map (·.1)->g∈(cG f v fs).map (·.1)
 |[]=>⟨by simp[cG],fun g h=>by simp at h⟩
 |(k,x)::r=>by
  obtain⟨i1,i2⟩:=hV f v r;rw[show cG f v ((k,x)::r)=(if k=f then(k,v)::r else(k,x)::cG f v r) from rfl];by_cases hk:k=f
  ·rw[As hk];subst hk;exact⟨by simp,fun g h=>by simpa using h⟩
  ·rw[Aq hk];refine⟨?_,fun g h=>?_⟩
   ·rw[AG];exact Ah _ i1
   ·rw[AG] at h ⊢;rcases Ar.mp h with e | e
    ·exact Ar.mpr (.inl e)
    ·exact Ah _ (i2 g e)
theorem iG(f:Str)(v:V):∀fs:List (Str×V),(cG f v fs).length≤fs.length+1
 |[]=>by simp[cG]
 |(k,x)::r=>by
  have ih:=iG f v r;rw[show cG f v ((k,x)::r)=(if k=f then(k,v)::r else(k,x)::cG f v r) from rfl];by_cases hk:k=f
  ·rw[As hk,AD,AD];omega
  ·rw[Aq hk,AD,AD];omega
theorem cN.some_of{o:Option Value}(r:cN (some v) o):∃u,o=some u/\zo v u:=by cases o with|none=>exact(show False from r).elim|some u=>exact⟨u,rfl,r⟩
abbrev EL:=@cN.some_of
theorem cN.none_of{o:Option Value}(r:cN none o):o=none:=by cases o with|none=>rfl|some u=>exact(show False from r).elim
theorem xW(r:zo v u):PySem.W.handedIn u=true:=by
 cases v with
 |non=>cases (show u=Value.none from r);rfl
 |bl b=>cases (show u=Value.bool b from r);rfl
 |int i=>obtain⟨t,e⟩:=(show ∃t,u=Value.int i t from r);cases e;rfl
 |str x=>obtain⟨t,e⟩:=(show ∃t,u=Value.str x t from r);cases e;rfl
 |byt b=>obtain⟨t,e⟩:=(show ∃t,u=Value.bytes b t from r);cases e;rfl
 |flt b=>obtain⟨t,e⟩:=(show ∃t,u=Value.float b t from r);cases e;rfl
 |ref a=>cases (show u=Value.ref a from r);rfl
 |ty n=>cases (show u=Value.type n from r);rfl
section
variable {P:Program}{w:World}{a:Addr}{fs fs':List (Str×V)}
theorem ip(hok:eB P w H h)(e:H a=some (.ins C dx fs)):∃mA,tT h a dx C mA/\(∀f,cN (fs.lookup f) (mA f))/\PySem.Within mA (fs.map (·.1))/\fs.length≤1000/\H dx=some (.own a):=by obtain⟨d,z,ne,ob,mA,n,r,q⟩:=(show xg P w H h a (.ins C dx fs) from hok a _ e);exact⟨mA,⟨ob,n,ne⟩,r,q,z,d⟩
end
structure Cls(K:Af)(C:Addr):Prop where
 pg:PySem.W.plainGet K C Str.empty=true
 hd:PySem.W.hasDictIn K C=true
 po:PySem.W.plainOver K C=true
 sa:PySem.W.findIn K (.ref C) "__setattr__" = some (some (.builtin "object.__setattr__"))
theorem Cls.get{K:Af}(c:Cls K C)(f:Str):PySem.W.plainGet K C f=true:=c.pg
def NoAttr(K:Af)(C:Addr)(f:Str):Prop:=PySem.W.findIn K (.ref C) f=some none
theorem NoAttr.taker{K:Af}{f:Str}(n:NoAttr K C f):PySem.W.takerIn K C f=some none:=by unfold PySem.W.takerIn;rw[show PySem.W.findIn K (.ref C) f=some none from n];rfl
structure acl(K:Af)(C:Addr)(m:Str)(f:Addr):Prop where
 at_:PySem.W.findIn K (.ref C) m=some (some (.ref f))
 fn:PySem.W.isFn K (.ref f)=true
 kp:PySem.W.keepIn K (.ref f)=true
section
variable {a:Addr}{fs:List (Str×V)}{f:Str} 
theorem tM{b:Bool}(I:qw X pins σ H s)(e:H a=some (.ins C dx fs))(c:Cls X.K C)(n:NoAttr X.K C f)(l:fs.lookup f=some v)
 (h:∀u s',qw X pins σ H s'->zo v u->Q u s'):wpAny (model X.prog X.w) A (getAttr (.ref a) f b) Q E s:=by
 obtain⟨mA,O,r,_,_,_⟩:=ip I.hok e;obtain⟨u,hu,ru⟩:=EL (v:=v) (o:=mA f) (by rw[<-l];exact r f);exact afh I.kIn O (c.get f) c.hd n hu (xW ru) (h u _ (I.tok _) ru)
theorem tV{m:Str}{g:Addr}{pl:Sem Bool}{Q:Value×List Value->Shared->Prop}(I:qw X pins σ H s)(e:H a=some (.ins C dx fs))(c:Cls X.K C)(k:acl X.K C m g)(l:fs.lookup m=none)
 (h:Q (.ref g,[.ref a]) s):wpAny (model X.prog X.w) A (getMethod (.ref a) m pl) Q E s:=by
 obtain⟨mA,O,r,_,_,_⟩:=ip I.hok e;have hn:mA m=none:=cN.none_of (by rw[<-l];exact r m);exact zP I.kIn O (c.get m) k.at_ k.fn hn h
theorem tR{y:V}{Q:Unit->Shared->Prop}(I:qw X pins σ H s)(e:H a=some (.ins C dx fs))(c:Cls X.K C)(n:NoAttr X.K C f)(hl:fs.length<1000)(ry:zo y u)
 (h:∀s',qw X pins σ (upd H a (.ins C dx (cG f y fs))) s'->Q () s'):wpAny (model X.prog X.w) A (setAttr (.ref a) f u) Q E s:=by
 obtain⟨mA,O,r,wi,_,ho⟩:=ip I.hok e;have hz:(fs.map (·.1)).length≤sizeLine:=by rw[Ae,sizeLine_eq];omega
 refine afj I.kIn O c.sa c.po n.taker c.hd wi hz fun h' O' sb=>h _ ?_;have hd:∃o,h'.get? dx=some o:=let ⟨o,_,_,e',_⟩:=O'.ns;⟨o,e'⟩;refine I.write (x:=a) (e:=dx) (by rw[e];exact True.intro) (.inr ho) (fun b q hb z=>(sb.2 b hb).trans z) hd ?_;refine⟨by rw[qo O.ne];exact ho,?_,O.ne,O'.obj,_,O'.ns,fun g=>?_,fun g hg=>?_⟩
 ·have:=iG f y fs;omega
 ·show cN ((cG f y fs).lookup g) (if g=f then some u else mA g);rw[iN];by_cases q:g=f
  ·rw[As q,As q];exact ry
  ·rw[Aq q,Aq q];exact r g
 ·by_cases q:g=f
  ·rw[q];exact(hV f y fs).1
  ·refine(hV f y fs).2 g (wi g fun z=>hg ?_);show(if g=f then some u else mA g)=none;rw[Aq q];exact z
theorem qw.made(I:qw X pins σ H s):qw X pins σ (upd (upd H s.heap.objs.size (.own (s.heap.objs.size+1))) (s.heap.objs.size+1) (.ins C s.heap.objs.size []))
 { s with heap:=(s.heap.push PySem.W.emptyDict).push (PySem.W.instObj C s.heap.objs.size) }:=by
 have e1:(s.heap.push PySem.W.emptyDict).get? s.heap.objs.size=some PySem.W.emptyDict:=Heap.get?_push_size s.heap rfl;have e2:((s.heap.push PySem.W.emptyDict).push (PySem.W.instObj C s.heap.objs.size)).get? (s.heap.objs.size+1)=some (PySem.W.instObj C s.heap.objs.size):=by have:=Heap.get?_push_size (s.heap.push PySem.W.emptyDict) (o:=PySem.W.instObj C s.heap.objs.size) rfl;rwa[Heap.size_push] at this
 have e3:(s.heap.push PySem.W.emptyDict).Ns s.heap.objs.size (fun _=>none):=⟨PySem.W.emptyDict,#[],_,e1,rfl,(fun e he=>absurd he (by simp)),fun _=>rfl⟩;have I1:=I.laid (a:=s.heap.objs.size) (o:=.own (s.heap.objs.size+1)) (h':=s.heap.push PySem.W.emptyDict) (t':=s.toks) (fun b u q=>Heap.get?_push_of_some _ q) (Am _) ⟨_,e1⟩;refine I1.laid (a:=s.heap.objs.size+1) (o:=.ins C s.heap.objs.size []) (t':=s.toks) (fun b u q=>Heap.get?_push_of_some _ q) (DM (Heap.size_push _ _)) ?_;have ne:s.heap.objs.size≠s.heap.objs.size+1:=A3 (Bu _);refine⟨by rw[qo ne,zv],Bl _,ne,e2,fun _=>none,(Heap.Ns1.of_empty e3).at fun o q=>Heap.get?_push_of_some _ q,fun _=>True.intro,fun y hy=>absurd rfl hy⟩
theorem aee{w:World}{f:Str}(hb:attributeBase e f env (eval e env)=eval e env)
 (h:wpAny (model prog w) A (eval e env) (fun o s₁=>wpAny (model prog w) A (getAttr o f true) Q E s₁) E s):wpAny (model prog w) A (eval (.Attribute e f pos) env) Q E s:=
 Attribute_any_ h (by rw[arm_eval_Attribute,hb])
end
def apa(K:Af)(ta:TE)(f:Str):TE:=fun σ H Q=>ta σ H fun x H1=>∃a C dx fs v,x=.ref a/\H1 a=some (.ins C dx fs)/\Cls K C/\NoAttr K C f/\fs.lookup f=some v/\Q v H1
def ao7(K:Af)(ta tv:TE)(f:Str):TS:=fun D σ H=>tv σ H fun y H1=>ta σ H1 fun x H2=>∃a C dx fs,x=.ref a/\H2 a=some (.ins C dx fs)/\Cls K C/\NoAttr K C f/\fs.length<1000/\
 D.nx σ (upd H2 a (.ins C dx (cG f y fs)))
section
variable {f:Str}{tpos:Pos}{ta tv:TE}
theorem ajr(he:PE X e ta)(hb:attributeBase e f X.env (eval e X.env)=eval e X.env):PE X (.Attribute e f pos) (apa X.K ta f):=by intro pins s σ H Q I h;refine aee hb (xt (he pins s σ H _ I h) fun u s1 ⟨x,H1,I1,rx,a,C,dx,fs,v,ex,ea,c,n,l,q⟩=>?_);subst ex;obtain rfl:u=Value.ref a:=rx;exact tM I1 ea c n l fun u' s2 I2 ru=>⟨v,H1,I2,ru,q⟩
theorem aiz(ha:PE X o ta)(hv:PE X value tv)(hs:swapsWith value (some (.Attribute o f pos')) pos.line X.env=pure false):PS X (.Assign [.Attribute o f pos'] value pos) (ao7 X.K ta tv f):=by intro pins s σ H D I h;refine plainObj_wpAny_Assign_Attribute (xt (hv pins s σ H _ I h) fun u s1 ⟨y,H1,I1,ry,q⟩=>xt (ha pins s1 σ H1 _ I1 q) fun ov s2 ⟨x,H2,I2,rx,a,C,dx,fs,ex,ea,c,n,l,q2⟩=>?_) hs;subst ex;obtain rfl:ov=Value.ref a:=rx;exact tR I2 ea c n l ry fun s3 I3=>⟨σ,_,I3,q2⟩
end
section
variable {c:Value}{b:Bool}
inductive i4(K:Af)(H:Hp):V->Value->Prop where
 |non:i4 K H .non (.type "NoneType")
 |bl (x:Bool):i4 K H (.bl x) (.type "bool")
 |int (i:Int):i4 K H (.int i) (.type "int")
 |str (x:Str):i4 K H (.str x) (.type "str")
 |flt (x:UInt64):i4 K H (.flt x) (.type "float")
 |lst {a:Addr} {xs:List V} (e:H a=some (.lst xs)):i4 K H (.ref a) (.type "list")
 |frz {a:Addr} {o:Obj} {xs:List V} (e:H a=some (.frz o (.lst xs))):i4 K H (.ref a) (.type "list")
 |tup {a:Addr} {xs:List V} (e:H a=some (.tup xs)):i4 K H (.ref a) (.type "tuple")
 |dK {a:Addr} {kvs:List (jg×V)} (e:H a=some (.dK kvs)):i4 K H (.ref a) (.type "dict")
 |dT {a:Addr} {kvs:List (List jg×V)} (e:H a=some (.dT kvs)):i4 K H (.ref a) (.type "dict")
 |ins {a C dx:Addr} {fs:List (Str×V)} (e:H a=some (.ins C dx fs)) (cl:Cls K C) (ha:PySem.W.findIn K (.ref C) "__class__" = some (some (.builtin "object.__class__")))
  (hn:PySem.W.specialIn K (.builtin "object.__class__") "__get__" = some (some (.builtin "getset_descriptor.__get__"))) (htk:PySem.W.takesIn K (.builtin "object.__class__")=some true)
  (hm:PySem.W.mroIn K C (.type "object")=some true):i4 K H (.ref a) (.ref C)
theorem aQ{x:V}{t:Value}(I:qw X pins σ H s)(rx:zo x u)(ty:i4 X.K H x t)(e:PySem.W.kitOne X.K t c=some b)(h:∀tk,Q (.bool b) { s with toks:=tk }):
 wpAny (model X.prog X.w) A (call (.builtin "isinstance") [u,c]) Q E s:=by
 cases ty with
 |non=>cases (show u=Value.none from rx);exact Bs PySem.W.kitx_none I.kIn True.intro e (fun z=>nomatch z) h
 |bl y=>cases (show u=Value.bool y from rx);exact Bs PySem.W.kitx_bool I.kIn True.intro e (fun z=>nomatch z) h
 |int i=>obtain⟨t,q⟩:=(show ∃t,u=Value.int i t from rx);cases q;exact Bs PySem.W.kitx_int I.kIn True.intro e (fun z=>nomatch z) h
 |str y=>obtain⟨t,q⟩:=(show ∃t,u=Value.str y t from rx);cases q;exact Bs PySem.W.kitx_str I.kIn True.intro e (fun z=>nomatch z) h
 |flt y=>obtain⟨t,q⟩:=(show ∃t,u=Value.float y t from rx);cases q;exact Bs PySem.W.kitx_float I.kIn True.intro e (fun z=>nomatch z) h
 |@lst a xs ea=>
  cases (show u=Value.ref a from rx);obtain⟨_,_,n,_,h1⟩:=(show xg X.prog X.w H s.heap a (.lst xs) from I.hok a _ ea);exact Bs Cy I.kIn ⟨_,h1,rfl⟩ e (fun z=>nomatch z) h
 |@frz a ob xs ea=>
  cases (show u=Value.ref a from rx);obtain⟨_,_,_,n,_,h1⟩:=(show xg X.prog X.w H s.heap a (.frz ob (.lst xs)) from I.hok a _ ea);exact Bs Cy I.kIn ⟨_,h1,rfl⟩ e (fun z=>nomatch z) h
 |@tup a xs ea=>
  cases (show u=Value.ref a from rx);obtain⟨_,_,_,p⟩:=(show xg X.prog X.w H s.heap a (.tup xs) from I.hok a _ ea);obtain⟨o,h1,h2,_⟩:=p;exact Bs Dq I.kIn ⟨o,h1,h2⟩ e (fun z=>nomatch z) h
 |@dK a kvs ea=>
  cases (show u=Value.ref a from rx);obtain⟨_,_,vs,_,p⟩:=(show xg X.prog X.w H s.heap a (.dK kvs) from I.hok a _ ea);obtain⟨o,es,ep,h1,h2,_⟩:=p;exact Bs Dx I.kIn ⟨o,h1,h2.1⟩ e (fun z=>nomatch z) h
 |@dT a kvs ea=>
  cases (show u=Value.ref a from rx);obtain⟨_,_,xs,_,o,es,ep,h1,h2,_⟩:=(show xg X.prog X.w H s.heap a (.dT kvs) from I.hok a _ ea);exact Bs Dx I.kIn ⟨o,h1,h2.1⟩ e (fun z=>nomatch z) h
 |@ins a C dx fs ea cl ha hn htk hm=>
  cases (show u=Value.ref a from rx);obtain⟨mA,O,_⟩:=ip I.hok ea;obtain⟨od,J,_⟩:=O.look;exact Bs (PySem.W.kitx_own (cl.get _) cl.hd ha hn htk hm) I.kIn J e (fun z=>nomatch z) h
end
structure vm(k:Nat)(A:Around):Prop where
 hd:A.handled=none
 dp:A.depth+3*k+5<recursionLimit
 un:A.units+16*k+200<cLine
theorem vm.mono{k:Nat}(r:vm k A)(h:j≤k):vm j A:=⟨r.hd,by have:=r.dp;omega,by have:=r.un;omega⟩
theorem vm.deeper{k:Nat}(r:vm (k+1) A)(env:Env):vm k (A.deeper env):=
 ⟨r.hd,by have:=r.dp;show A.depth+1+3*k+5<_;omega,by have:=r.un;show A.units+3+16*k+200<_;omega⟩
theorem t8 :(A.under (.builtin "type.__call__" ⟨.ref C::us,kw⟩)).depth=A.depth+1:=by first | rfl | simp[Around.under,Code.weight,Code.isCreation,Code.isGuard,Code.isCaller,Code.frames,Code.isFrame,guardIds]
theorem uM :(A.under (.builtin "type.__call__" ⟨.ref C::us,kw⟩)).units=A.units+1:=by first | rfl | simp[Around.under,Code.cUnits,Code.frames,Code.isFrame]
theorem vm.make{k:Nat}(r:vm (k+1) A)(C:Addr)(us:List Value)(kw:List (Str×Value)):vm k (A.under (.builtin "type.__call__" ⟨.ref C::us,kw⟩)):=
 ⟨r.hd,by have:=r.dp;rw[t8];omega,by have:=r.un;rw[uM];omega⟩
theorem vm.depth{k:Nat}(r:vm k A):A.depth<recursionLimit:=by have:=r.dp;omega
def apb:TA:=fun _ H Q=>Q [] H
def am1(ta:TE)(tr:TA):TA:=fun σ H Q=>ta σ H fun x H1=>tr σ H1 fun xs H2=>Q (x::xs) H2
section
variable {te:TE}{t:TA} 
theorem fE:PA X [] apb:=fun _ _ _ _ H Q I h=>Calls.spliced_nil ⟨[],H,I,.nil,h⟩
abbrev Ed(e:Expr)(es:List Expr)(X:Cx):Prop:=starEach (e::es) X.env=(false,eval e X.env)::starEach es X.env
theorem aB(ha:PE X e te)(hr:PA X es t)(hs:Ed e es X:=by rfl):PA X (e::es) (am1 te t):=by intro pos pins s σ H Q I h;rw[hs];show wpAny _ _ (spliced ((false,eval e X.env)::backTo pos (starEach es X.env))) _ _ s;refine Calls.spliced_cons (xt (ha pins s σ H _ I h) fun u s1 ⟨x,H1,I1,r1,q1⟩=>?_);exact xt (hr pos pins s1 σ H1 _ I1 q1) fun us s2 ⟨xs,H2,I2,r2,q2⟩=>⟨x::xs,H2,I2,.cons r1 r2,q2⟩
def aqe(t:TA):TE:=fun σ H Q=>t σ H fun xs H1=>xs.length≤sizeLine/\∀p,H1 p=none->Q (.ref p) (upd H1 p (.tup xs))
def aq9(t:TA):TE:=fun σ H Q=>t σ H fun xs H1=>xs.length≤sizeLine/\∀p,H1 p=none->Q (.ref p) (upd H1 p (.lst xs))
theorem abb{x1}(h:PA X es t):PE X (.Tuple es x1 pos) (aqe t):=by intro pins s σ H Q I hq;refine wpAny_Tuple_spliced (xt (h pos pins s σ H _ I hq) fun us s1 ⟨xs,H1,I1,r,z,q⟩=>⟨by rw[<-r.length];exact z,?_⟩);have hf:H1 s1.heap.objs.size=none:=I1.hok.fresh (Am _);refine⟨.ref s1.heap.objs.size,upd H1 s1.heap.objs.size (.tup xs),I1.laid (t':=s1.toks) (fun b u e=>Heap.get?_push_of_some _ e) (Am _) ?_,rfl,q _ hf⟩;exact⟨z,us,r,⟨_,Heap.get?_push_size _ rfl,rfl,_,rfl⟩⟩
theorem ajn(h:PA X es t):PE X (.List es pos) (aq9 t):=by intro pins s σ H Q I hq;refine wpAny_List_spliced (xt (h pos pins s σ H _ I hq) fun us s1 ⟨xs,H1,I1,r,z,q⟩=>⟨by rw[<-r.length];exact z,?_⟩);have hf:H1 s1.heap.objs.size=none:=I1.hok.fresh (Am _);refine⟨.ref s1.heap.objs.size,upd H1 s1.heap.objs.size (.lst xs),I1.laid (t':=s1.toks) (fun b u e=>Heap.get?_push_of_some _ e) (Am _) ?_,rfl,q _ hf⟩;exact⟨z,us,0,r,Heap.get?_push_size _ rfl⟩
end
abbrev Sp:=List V->Hp->VK->XK->Prop
abbrev yb:=List Env->Hp->Shared->XK->Value->Shared->Prop
structure u0(P:Program)(w:World)(K:Af)(mg:Str->Option Value)(base:Heap)(A:Around)(outer:List Env)(s:Shared)(H:Hp):Prop where
 frames:A.frames=some outer
 mod:Mod K mg base
 bs:∀b o,base.get? b=some o->s.heap.get? b=some o/\H b=none
 bsz:base.objs.size≤s.heap.objs.size
 funs:s.heap.FunFrames base outer
 frf:∀b∈yG outer,H b=none
 hok:eB P w H s.heap
 bare:AllBare s.gens
 tk:0<s.toks
def CE(outer:List Env)(P:Program)(w:World)(H:Hp)(s:Shared)(Q:VK)(u:Value)(s':Shared):Prop:=
 ∃v H',s'.os=s.os/\AllBare s'.gens/\Un (yG outer) [] H H' s.heap s'.heap/\eB P w H' s'.heap/\zo v u/\Q v H'/\0<s'.toks
def CR(CX:yb)(outer:List Env)(P:Program)(w:World)(H:Hp)(s:Shared)(Q:VK)(E:XK)(r:Result)(s':Shared):Prop:=
 match r with
 |.ok (.ret u)=>CE outer P w H s Q u s'
 |.ok _=>False
 |.error e=>CX outer H s E e s'
structure a6(P:Program)(w:World)(K:Af)(mg:Str->Option Value)(base:Heap)(CX:yb)(k:Nat)(f:Addr)(fd:FuncData)(ps:List Str)(sp:Sp):Prop where
 len:∀vs H Q E,sp vs H Q E->vs.length=ps.length
 run:∀(A:Around) (outer:List Env) (s:Shared) (H:Hp) (args:Args) (us:List Value) (vs:List V) (Q:VK) (E:XK),vm k A->u0 P w K mg base A outer s H->BindsTo s fd args (ps.zip us)->zk vs us->sp vs H Q E->
  codeAny (model P w) A (.call (.ref f) args) (CR CX outer P w H s Q E) s
theorem a6.mono{P:Program}{w:World}{K:Af}{CX:yb}{k:Nat}{sp:Sp}(F:a6 P w K mg base CX j f fd ps sp)(h:j≤k):
 a6 P w K mg base CX k f fd ps sp:=⟨F.len,fun A outer s H args us vs Q E hr=>F.run A outer s H args us vs Q E (hr.mono h)⟩
theorem a6.imp{P:Program}{w:World}{K:Af}{CX:yb}{k:Nat}{sp sp':Sp}(F:a6 P w K mg base CX k f fd ps sp)
 (h:∀vs H Q E,sp' vs H Q E->sp vs H Q E):a6 P w K mg base CX k f fd ps sp':=
 ⟨fun vs H Q E q=>F.len vs H Q E (h _ _ _ _ q),fun A outer s H args us vs Q E hr he hb hv hs=>F.run A outer s H args us vs Q E hr he hb hv (h _ _ _ _ hs)⟩
theorem u0.make{P:Program}{w:World}{K:Af}{outer:List Env}(e:u0 P w K mg base A outer s H)(C:Addr)(us:List Value)(kw:List (Str×Value)):
 u0 P w K mg base (A.under (.builtin "type.__call__" ⟨.ref C::us,kw⟩)) outer s H:=⟨by first | exact e.frames | (simpa[Around.under,Code.envs,Code.isFrame,pushEnvs] using e.frames),e.mod,e.bs,e.bsz,e.funs,e.frf,e.hok,e.bare,e.tk⟩
section
theorem qw.env0(I:qw X pins σ H s):u0 X.prog X.w X.K X.mg X.base X.A X.stack s H:=
 ⟨I.ok.frames,I.ok.mod,I.bs,AL I.ok.bsz I.sz,I.stack,I.stkFree,I.hok,I.bare,I.tk⟩
theorem qw.after{Q:VK}(I:qw X pins σ H s)(h:CE X.stack X.prog X.w H s Q u s'):EP X pins σ Q u s':=by obtain⟨v,H',os,bare,un,hok,r,q,ht⟩:=h;obtain⟨hh,g,d,t,os'⟩:=s';obtain rfl:os'=s.os:=os;exact⟨v,H',I.call (h':=hh) (g':=g) (d':=d) (t':=t) (ch:=[]) un hok bare (fun b z=>absurd z (by simp)),r,q⟩
end
def agu(sp:Sp)(dvs:List V)(E:XK)(t:TA):TE:=fun σ H Q=>t σ H fun vs H1=>sp (vs++dvs) H1 Q E
def akv(C:Addr)(m:Str)(sp:Sp)(dvs:List V)(E:XK)(ta:TE)(t:TA):TE:=fun σ H Q=>ta σ H fun x H1=>∃a dx fs,x=.ref a/\H1 a=some (.ins C dx fs)/\fs.lookup m=none/\
 t σ H1 fun vs H2=>sp (x::(vs++dvs)) H2 Q E
def akx(C:Addr)(sp:Sp)(dvs:List V)(E:XK)(t:TA):TE:=fun σ H Q=>t σ H fun vs H1=>∀x dx,H1 x=none->H1 dx=none->dx≠x->
 sp (.ref x::(vs++dvs)) (upd (upd H1 dx (.own x)) x (.ins C dx [])) (fun v H2=>v=.non/\Q (.ref x) H2) E
def wg(K:Af)(fd:FuncData)(ps:List Str)(ds:List Value):Prop:=
 ∀(s:Shared) (us:List Value),K.In s.heap->(us++ds).length=ps.length->BindsTo s fd ⟨us,[]⟩ (ps.zip (us++ds))
theorem wg.all{K:Af}(h:∀us:List Value,us.length=ps.length->bindArgs fd ⟨us,[]⟩=pure (ps.zip us)):wg K fd ps []:=fun s us _ hl=>by rw[AZ] at hl ⊢;exact .of_eq (h us hl)
def gc(CX:yb)(X:Cx)(E:XK):Prop:=∀(pins:List (Addr×Obj)) (σ:St) (H:Hp) (s:Shared) (e:Value) (s':Shared),qw X pins σ H s->CX X.stack H s E e s'->X.xe e s'
section
variable {CX:yb}{k:Nat}{sp:Sp}{dvs:List V}{ds:List Value}{E:XK}{m:Str}{ta:TE}{t:TA}
theorem aad{Q:VK}{vs:List V}(F:a6 X.prog X.w X.K X.mg X.base CX k f fd ps sp)(hr:vm k X.A)(hb:wg X.K fd ps ds)(hd:zk dvs ds)(hx:gc CX X E)
 (I:qw X pins σ H s) (r:zk vs us) (h:sp (vs++dvs) H Q E):wpAny (model X.prog X.w) X.A (call (.ref f) us) (EP X pins σ Q) X.xe s:=by
 have r2:zk (vs++dvs) (us++ds):=r.append hd;have hl:(us++ds).length=ps.length:=by rw[<-r2.length];exact F.len _ _ _ _ h
 refine wpAny_call (codeAny_mono (F.run X.A X.stack s H ⟨us,[]⟩ (us++ds) (vs++dvs) Q E hr I.env0 (hb s us I.kIn hl) r2 h) fun r s' hq=>?_);cases r with
 |error e=>exact hx pins σ H s e s' I hq
 |ok fl=>
  cases fl with|ret u=>exact I.after hq|next=>exact False.elim hq|brk=>exact False.elim hq|cont=>exact False.elim hq
abbrev Ee(p:Pos)(es:List Expr)(X:Cx):Prop:=(backTo p (starEach es X.env)).any (·.1)=false
theorem aej(F:a6 X.prog X.w X.K X.mg X.base CX k f fd ps sp)(hr:vm k X.A)(hg:Gl X x)(hm:X.mg x=some (.ref f))(hk:PySem.W.keepIn X.K (.ref f)=true)(hb:wg X.K fd ps ds)(hd:zk dvs ds)(hx:gc CX X E)
 (ha:PA X (e::es) t) (hdb:Ef x:=by decide) (he:Ed e es X:=by rfl) (hpl:Ee pos es X:=by rfl):
 PE X (.Call (.Name x p) (e::es) [] pos) (agu sp dvs E t):=by
 intro pins s σ H Q I h;refine wpAny_Call_Name_kw (oh I hg hm ?_ hdb);refine Dr (h₀:=X.base) I.ok.mod.kin hk (xt (ha pos pins s σ H _ I h) fun us s1 ⟨vs,H1,I1,r,q⟩=>⟨I1.kIn,?_⟩) he hpl;exact aad F hr hb hd hx I1 r q
theorem adl{pl:Sem Bool}(he:PE X o ta)(c:Cls X.K C)(hm:acl X.K C m f)(F:a6 X.prog X.w X.K X.mg X.base CX k f fd ps sp)(hr:vm k X.A)(hb:wg X.K fd ps ds)(hd:zk dvs ds)(hx:gc CX X E)(ha:PA X (e::es) t)
 (hst:Ed e es X:=by rfl) (hpl:Ee pos es X:=by rfl)
 (ht:eval (.Call (.Attribute o m apos) (e::es) [] pos) X.env=(do
  let ov <-eval o X.env
  standAt apos.atName
  let (f,first) <-holding [ov] (getMethod ov m pl)
  callWith pos f first (backTo pos (starEach (e::es) X.env)) (backToKw pos (keywordEach [] X.env))):=by rfl):
 PE X (.Call (.Attribute o m apos) (e::es) [] pos) (akv C m sp dvs E ta t):=by
 intro pins s σ H Q I h;refine PySem.W.methodCall_KW (pl:=pl) (xt (he pins s σ H _ I h) fun u s1 ⟨x,H1,I1,rx,a,dx,fs,ex,ea,l,q⟩=>?_) ht;subst ex;obtain rfl:u=Value.ref a:=rx;refine tV I1 ea c hm l ?_;refine Dr (first:=[.ref a]) (h₀:=X.base) I.ok.mod.kin hm.kp (xt (ha pos pins s1 σ H1 _ I1 q) fun us s2 ⟨vs,H2,I2,r,q2⟩=>⟨I2.kIn,?_⟩) hst hpl;exact aad (us:=.ref a::us) (vs:=.ref a::vs) F hr hb hd hx I2 (.cons rfl r) q2
structure Mk(K:Af)(C f:Addr):Prop where
 makes:PySem.W.makesIn K C=true
 init:PySem.W.findIn K (.ref C) "__init__" = some (some (.ref f))
 fn:PySem.W.isFn K (.ref f)=true
 kp:PySem.W.keepIn K (.ref C)=true
theorem abm{Q:VK}{vs:List V}(M:Mk X.K C f)(F:a6 X.prog X.w X.K X.mg X.base CX k f fd ps sp)(hr:vm (k+1) X.A)(hb:wg X.K fd ps ds)(hd:zk dvs ds)
 (hx:gc CX X E) (I:qw X pins σ H s) (r:zk vs us)
 (h:∀x dx,H x=none->H dx=none->dx≠x->sp (.ref x::(vs++dvs)) (upd (upd H dx (.own x)) x (.ins C dx [])) (fun v H2=>v=.non/\Q (.ref x) H2) E):
 wpAny (model X.prog X.w) X.A (call (.ref C) us) (EP X pins σ Q) X.xe s:=by
 have hq:=h (s.heap.objs.size+1) s.heap.objs.size (I.hok.fresh (Cn _)) (I.hok.fresh (Am _)) (A3 (Bu _));have I2:=qw.made (C:=C) I;have r2:zk (V.ref (s.heap.objs.size+1)::(vs++dvs)) (Value.ref (s.heap.objs.size+1)::(us++ds)):=.cons rfl (r.append hd);have hl:(Value.ref (s.heap.objs.size+1)::us++ds).length=ps.length:=by have e:=r2.length;rw[F.len _ _ _ _ hq] at e;exact e.symm
 refine wpAny_call (aaa (f:=f) I.kIn M.makes M.init (beq_iff_eq.mp M.fn) (codeAny_mono (F.run _ X.stack _ _ ⟨Value.ref (s.heap.objs.size+1)::us,[]⟩ (Value.ref (s.heap.objs.size+1)::(us++ds)) _ _ E (hr.make C us [])
  (I2.env0.make C us []) (hb _ (Value.ref (s.heap.objs.size+1)::us) I2.kIn hl) r2 hq) fun r s' hq'=>?_))
 cases r with
 |error e=>exact hx pins σ _ _ e s' I2 hq'
 |ok fl=>
  cases fl with
  |ret u=>
   obtain⟨v,H',I3,rv,ev,q3⟩:=I2.after hq';subst ev;exact⟨rv,⟨V.ref (s.heap.objs.size+1),H',I3,rfl,q3⟩⟩
  |next=>exact False.elim hq'
  |brk=>exact False.elim hq'
  |cont=>exact False.elim hq'
theorem aeo(M:Mk X.K C f)(F:a6 X.prog X.w X.K X.mg X.base CX k f fd ps sp)(hr:vm (k+1) X.A)(hg:Gl X x)(hm:X.mg x=some (.ref C))(hb:wg X.K fd ps ds)(hd:zk dvs ds)(hx:gc CX X E)
 (ha:PA X (e::es) t) (hdb:Ef x:=by decide) (he:Ed e es X:=by rfl) (hpl:Ee pos es X:=by rfl):
 PE X (.Call (.Name x p) (e::es) [] pos) (akx C sp dvs E t):=by
 intro pins s σ H Q I h;refine wpAny_Call_Name_kw (oh I hg hm ?_ hdb);refine Dr (h₀:=X.base) I.ok.mod.kin M.kp (xt (ha pos pins s σ H _ I h) fun us s1 ⟨vs,H1,I1,r,q⟩=>⟨I1.kIn,?_⟩) he hpl;exact abm M F hr hb hd hx I1 r q
end
section
variable {CX:yb}{k:Nat}{ks:List Str}{sp:Sp}{E:XK}{m:Str}{kws:List Keyword}{te ta:TE}{t tk:TA}{nm:Option Str}
variable {g:List Value->List Value->List Value}{gV:List V->List V->List V}
end
structure aN(N P:List Str)(sc:Scope):Prop where
 kind:sc.kind=.function
 co:sc.isCoroutine=false
 gen:sc.isGenerator=false
 nd:N.Nodup
 pre:N.take P.length=P
 par:∀x∈P,sc.names.lookup x=some .local\/sc.names.lookup x=some .cell
 nofree:∀y∈sc.names,y.2≠.free
theorem mn{kindOf:Str->Option NameKind}{x:Str}:∀{binds:List (Str×Value)} {m:Str->Option Value},(∀v,(x,v)∉binds)->bindL kindOf binds m x=m x
 |[],_,_=>rfl
 |(n,v)::r,m,h=>by
  unfold bindL;rw[mn fun w hw=>h w (Ah _ hw)];split
  ·have:x≠n:=by rintro rfl;exact h v An
   simp[this]
  ·rfl
theorem my{kindOf:Str->Option NameKind}{x:Str}:∀{binds:List (Str×Value)} {m:Str->Option Value},(∀v,(x,v)∉binds)->bindC kindOf binds m x=m x
 |[],_,_=>rfl
 |(n,v)::r,m,h=>by
  unfold bindC;rw[my fun w hw=>h w (Ah _ hw)];split
  ·rfl
  ·have:x≠n:=by rintro rfl;exact h v An
   simp[this]
theorem m4{kindOf:Str->Option NameKind}{x:Str}{v:Value}:∀{P:List Str} {vs:List Value} {i:Nat} {m:Str->Option Value},P.Nodup->P[i]?=some x->vs[i]?=some v->kindOf x=some .local->
 bindL kindOf (P.zip vs) m x=some v
 |[],_,_,_,_,h,_,_=>by simp at h
 |_::_,[],_,_,_,_,h,_=>by simp at h
 |p::P,w::vs,0,m,nd,h1,h2,hk=>by simp at h1 h2;subst h1;subst h2;show bindL kindOf ((p,w)::P.zip vs) m p=_;unfold bindL;rw[mn fun v hv=>(Aw.mp nd).1 (Dl hv).1,As hk];simp
 |p::P,w::vs,i+1,m,nd,h1,h2,hk=>by show bindL kindOf ((p,w)::P.zip vs) m x=_;unfold bindL;exact m4 (i:=i) (Aw.mp nd).2 (by simpa using h1) (by simpa using h2) hk
theorem nQ{kindOf:Str->Option NameKind}{x:Str}{v:Value}:∀{P:List Str} {vs:List Value} {i:Nat} {m:Str->Option Value},P.Nodup->P[i]?=some x->vs[i]?=some v->kindOf x≠some .local->
 bindC kindOf (P.zip vs) m x=some v
 |[],_,_,_,_,h,_,_=>by simp at h
 |_::_,[],_,_,_,_,h,_=>by simp at h
 |p::P,w::vs,0,m,nd,h1,h2,hk=>by simp at h1 h2;subst h1;subst h2;show bindC kindOf ((p,w)::P.zip vs) m p=_;unfold bindC;rw[my fun v hv=>(Aw.mp nd).1 (Dl hv).1,Aq hk];simp
 |p::P,w::vs,i+1,m,nd,h1,h2,hk=>by show bindC kindOf ((p,w)::P.zip vs) m x=_;unfold bindC;exact nQ (i:=i) (Aw.mp nd).2 (by simpa using h1) (by simpa using h2) hk
def start(N:List Str)(vs:List V):St:=vs.map some++List.replicate (N.length - vs.length) none
def iZ(CX:yb)(P:Program)(w:World)(K:Af)(mg:Str->Option Value)(base:Heap)(N:List Str)(qual:Str)(scope:Scope)(f:Addr)(cd:Value)(A:Around)(outer:List Env)(s:Shared)(H:Hp)(E:XK):Cx where
 prog:=P
 w:=w
 K:=K
 mg:=mg
 base:=base
 A:=A.deeper (envOfC qual scope s.heap.objs.size f cd)
 N:=N
 s₀:=s
 H₀:=H
 env:=envOfC qual scope s.heap.objs.size f cd
 outer:=outer
 stack:=envOfC qual scope s.heap.objs.size f cd::outer
 ex:=[]
 calm:=true
 fn:=fun _=>true
 pn:=[]
 xe:=fun e s'=>wpAny (model P w) (A.deeper (envOfC qual scope s.heap.objs.size f cd)) (leaving (envOfC qual scope s.heap.objs.size f cd) e) (fun _ s''=>CX outer H s E e s'') (fun e' s''=>CX outer H s E e' s'') s'
theorem rc{sc:Scope}(h:sc.names.lookup x=some .cell):∃c,(cellsFrom n sc.names []).lookup x=some c:=by have q:=DN sc.names n [] (.inl h);exact Option.isSome_iff_exists.mp q
theorem xB{CX:yb}{P:Program}{w:World}{K:Af}{N:List Str}{cd:Value}{outer:List Env}{s1:Shared}{E:XK}{vs:List V}
 (S:aN N ps scope) (hd:A.handled=none) (e0:u0 P w K mg base A outer s H) (hl:vs.length=ps.length) (r:zk vs us)
 (x:InCallC s s.heap.objs.size (bindL (envOfC qual scope s.heap.objs.size f cd).kindOf (ps.zip us) fun _=>none) (cellsFrom (s.heap.objs.size+1) scope.names []) (bindC (envOfC qual scope s.heap.objs.size f cd).kindOf (ps.zip us) fun _=>none) s1) (ht:0<s1.toks):
 qw (iZ CX P w K mg base N qual scope f cd A outer s H E) [] (start N vs) H s1:=by
 have hpl:ps.length≤N.length:=by have:=BG List.length S.pre;rw[AW] at this;omega
 obtain⟨h1,tk,rfl,hk⟩:=x.done;have noA:∀b:Addr,b∉(iZ CX P w K mg base N qual scope f cd A outer s H E).ex:=fun b z=>absurd (show b∈([]:List Addr) from z) (by simp);refine⟨⟨e0.mod,S.kind,rfl,rfl,Am _,fun y z c h1 h2=>?_,fun y hy=>?_,fun y c _ h=>?_,fun _=>hd,Around.frames_deeper e0.frames,.inr ⟨rfl,rfl⟩,fun b z=>absurd z (noA b),e0.bs,e0.bsz,fun b _ _=>noA b,fun b z=>absurd z (noA b),e0.funs,e0.frf⟩,
  rfl,e0.bare,Un.kept hk,⟨_,x.toInCall.ns,fun i y v h1 h2 h3=>?_⟩,fun y c h=>⟨_,x.cell y c h⟩,e0.hok.fresh (Am _),fun y c h=>?_,fun p hp=>absurd (show p∈([]:List (Addr×Obj)) from hp) (by simp),e0.hok.kept hk,?_,ht⟩
 ·exact name_of_addr x.apart (BD h1) (BD h2)
 ·have hy:scope.names.lookup y=some .cell\/scope.names.lookup y=some .free:=hy;rcases hy with hy | hy
  ·exact rc hy
  ·exact absurd rfl (S.nofree _ (BD hy))
 ·exact BU (x.above y c (BD h))
 ·have hi:i<vs.length:=by
   unfold start at h2;by_cases hi:i<vs.length
   ·exact hi
   ·rw[Al (by simpa using hi)] at h2;rw[Cg] at h2;split at h2<;>cases h2
  have ha:vs[i]?=some v:=by unfold start at h2;rw[Ay (by simpa using hi),Av] at h2;cases e:vs[i]? with|none=>rw[e] at h2;cases h2|some a=>rw[e] at h2;cases h2;rfl
  obtain⟨u,hu,rv⟩:=r.get ha;have hp:ps[i]?=some y:=by rw[<-S.pre,DC (by omega)];exact h1
  have ndP:ps.Nodup:=by rw[<-S.pre];exact S.nd.sublist (Dy _ _)
  refine⟨u,rv,?_⟩;rcases S.par y (AI hp) with k | k
  ·exact .inl ⟨k,m4 ndP hp hu k⟩
  ·obtain⟨c,e⟩:=rc (n:=s.heap.objs.size+1) k;refine .inr ⟨.inl k,c,e,?_⟩;have q:=x.cell y c e;rw[nQ ndP hp hu (by show scope.names.lookup y≠_;rw[k];decide)] at q;exact q
 ·exact e0.hok.fresh (BU (x.above y c (BD h)))
 ·unfold start;show _=N.length;rw[Ac,Ae,BQ];omega
theorem agf{CX:yb}{P:Program}{w:World}{K:Af}{k:Nat}{params:Arguments}{dV kV ct:Value}
 {N:List Str} {sp:Sp} (lk:K.lookup f=some ⟨oc,od,.func (PySem.W.fnOf name qual params body scope dV kV doc pm an cdv ct),osl⟩) (hcd:PySem.W.codeIn K cdv qual=true) (S:aN N ps scope)
 (len:∀vs H Q E,sp vs H Q E->vs.length=ps.length)
 (hbody:∀(A:Around) (outer:List Env) (s:Shared) (H:Hp) (vs:List V) (Q:VK) (E:XK),vm k (A.deeper (envOfC qual scope s.heap.objs.size f cdv))->sp vs H Q E->
  ∃t,jP (iZ CX P w K mg base N qual scope f cdv A outer s H E) body t/\t { nx:=fun _ H'=>Q .non H',rt:=Q } (start N vs) H):
 a6 P w K mg base CX (k+1) f (PySem.W.fnOf name qual params body scope dV kV doc pm an cdv ct) ps sp:=by
 refine⟨len,fun A outer s H args us vs Q E hr e0 hb r hsp=>?_⟩;have hl:=len _ _ _ _ hsp;have KX:K.In s.heap:=e0.mod.kin.keeps fun b o e=>(e0.bs b o e).1;have lim:s.heap.NoLimit:=e0.mod.nolimit.keeps fun b o e=>(e0.bs b o e).1;have hkind:∀y∈ps.zip us,scope.names.lookup y.1=some .local\/(scope.names.lookup y.1=some .cell/\((cellsFrom (s.heap.objs.size+1) scope.names []).lookup y.1).isSome=true):=fun⟨n,v⟩ hy=>by
  rcases S.par n (Dl hy).1 with q | q
  ·exact .inl q
  ·exact .inr ⟨q,DN _ _ _ (.inl q)⟩
 refine codeAny_call_function hr.depth (KX _ _ lk) rfl S.co S.gen rfl (PySem.W.codeRec_of KX hcd) (hb _ _ _ _ ?_);refine jw e0.tk (wpAny_newFunctionEnv_cells S.kind hkind fun env he s1 x htk=>?_);subst he;refine⟨lim.keeps x.toInCall.keep,codeAny_func ?_⟩;obtain⟨t,ht,hq⟩:=hbody A outer s H vs Q E (hr.deeper _) hsp;have I:qw (iZ CX P w K mg base N qual scope f cdv A outer s H E) [] (start N vs) H s1:=xB S hr.hd e0 hl r x htk;refine A1 (ht [] s1 (start N vs) H _ I hq) (fun fl s' hs=>?_) fun e s' hs=>hs;have xu:∀{σ':St} {H':Hp} {v:V} {u:Value},qw (iZ CX P w K mg base N qual scope f cdv A outer s H E) [] σ' H' s'->zo v u->Q v H'->CE outer P w H s Q u s':=
  fun {σ' H' v u} J rv q=>⟨v,H',J.os,J.bare,J.base,J.hok,rv,q,J.tk⟩
 cases fl with
 |ret u=>
  obtain⟨v,σ',H',J,rv,q⟩:=hs;exact xu J rv q
 |next=>
  obtain⟨σ',H',J,q⟩:=hs;exact xu (v:=V.non) (u:=Value.none) J rfl q
 |brk=>
  obtain⟨_,_,_,q⟩:=hs;exact False.elim q
 |cont=>
  obtain⟨_,_,_,q⟩:=hs;exact False.elim q
section
variable {t:TA}{id T:String}{r:List V->Hp->VK->Prop}
def tCB(r:List V->Hp->VK->Prop)(t:TA):TE:=fun σ H Q=>t σ H fun vs H1=>r vs H1 Q
theorem l5(hc:x4 X (.builtin id) r)(hg:Gl X x)(hm:X.mg x=none)(hv:bootBuiltins x=some (.builtin id))(ha:PA X (e::es) t)(hn:x ≠ "__name__" := by decide)(hdb:Ef x:=by decide)
 (he:Ed e es X:=by rfl) (hpl:Ee pos es X:=by rfl):PE X (.Call (.Name x p) (e::es) [] pos) (tCB r t):=by
 intro pins s σ H Q I h;refine wpAny_Call_Name_kw (fG I hg hm hv ?_ hn hdb);exact PyProof.Rows.callWith_builtin1 (xt (ha pos pins s σ H _ I h) fun us s1 ⟨vs,H1,I1,r1,q1⟩=>hc pins s1 σ H1 vs us Q I1 r1 q1) he hpl
theorem gN(hc:x4 X (.type T) r)(hg:Gl X x)(hm:X.mg x=none)(hv:bootBuiltins x=some (.type T))(ha:PA X (e::es) t)(hn:x ≠ "__name__" := by decide)(hdb:Ef x:=by decide)
 (he:Ed e es X:=by rfl) (hpl:Ee pos es X:=by rfl):PE X (.Call (.Name x p) (e::es) [] pos) (tCB r t):=by
 intro pins s σ H Q I h;refine wpAny_Call_Name_kw (fG I hg hm hv ?_ hn hdb);exact BW (xt (ha pos pins s σ H _ I h) fun us s1 ⟨vs,H1,I1,r1,q1⟩=>hc pins s1 σ H1 vs us Q I1 r1 q1) he hpl
end
section
variable [DecidableEq κ]
def eO(kvs:List (κ×V))(k:κ):Option V:=(kvs.find? fun kv=>decide (kv.1=k)).map (·.2)
def dM(kvs:List (κ×V))(k:κ)(v:V):List (κ×V):=
 if (kvs.any fun kv=>decide (kv.1=k))=true then kvs.map (fun kv=>if kv.1=k then(kv.1,v) else kv) else kvs++[(k,v)]
theorem jY{p:κ×V}{r:List (κ×V)}{k:κ}(e:p.1=k):eO (p::r) k=some p.2:=by simp[eO,BI,e]
theorem kD{p:κ×V}{r:List (κ×V)}{k:κ}(e:¬p.1=k):eO (p::r) k=eO r k:=by simp[eO,BI,e]
theorem sN(k:κ):∀kvs:List (κ×V),(kvs.any fun kv=>decide (kv.1=k))=(eO kvs k).isSome
 |[]=>rfl
 |p::r=>by
  rw[B9];by_cases e:p.1=k
  ·simp only[jY e,AB e,Bool.true_or,Option.isSome_some]
  ·rw[kD e,AA e,Bool.false_or];exact sN k r
theorem cj(kvs:List (κ×V))(k:κ)(v:V):(dM kvs k v).length≤kvs.length+1:=by
 unfold dM;split
 ·rw[Ae];omega
 ·rw[Ac,AD,List.length_nil];omega
theorem cN.isSome_eq{o:Option V}{u:Option Value}(r:cN o u):o.isSome=u.isSome:=by
 cases o with
 |none=>cases u with|none=>rfl|some _=>exact(show False from r).elim
 |some _=>cases u with|none=>exact(show False from r).elim|some _=>rfl
theorem KV.val{kvs:List (κ×V)}{vs:List (κ×Value)}(r:KV kvs vs)(k:κ):cN (eO kvs k) (valueAt vs k):=by
 unfold KV at r
 induction r with
 |nil=>exact True.intro
 |@cons p q ps qs h t ih=>
  obtain⟨h1,h2⟩:=h;by_cases e:p.1=k
  ·have e':q.1=k:=h1.symm.trans e;have b:valueAt (q::qs) k=some q.2:=by simp[valueAt,BI,e']
   rw[jY e,b];exact h2
  ·have e':¬q.1=k:=fun z=>e (h1.trans z);have b:valueAt (q::qs) k=valueAt qs k:=by simp[valueAt,BI,e']
   rw[kD e,b];exact ih
theorem KV.any{kvs:List (κ×V)}{vs:List (κ×Value)}(r:KV kvs vs)(k:κ):(kvs.any fun kv=>decide (kv.1=k))=vs.any fun kv=>decide (kv.1=k):=by
 unfold KV at r
 induction r with|nil=>rfl|cons h t ih=>rw[B9,B9,ih,h.1]
theorem KV.repl{kvs:List (κ×V)}{vs:List (κ×Value)}(r:KV kvs vs)(k:κ){y:V}(ry:zo y u):
 KV (kvs.map fun kv=>if kv.1=k then(kv.1,y) else kv) (vs.map fun kv=>if kv.1=k then(kv.1,u) else kv):=by
 unfold KV at r ⊢
 induction r with
 |nil=>exact .nil
 |@cons p q ps qs h t ih=>
  rw[AG,AG];refine .cons ?_ ih;obtain⟨h1,h2⟩:=h;by_cases e:p.1=k
  ·rw[As e,As (h1.symm.trans e)];exact⟨h1,ry⟩
  ·rw[Aq e,Aq (fun z=>e (h1.trans z))];exact⟨h1,h2⟩
theorem KV.put{kvs:List (κ×V)}{vs:List (κ×Value)}(r:KV kvs vs)(k:κ){y:V}(ry:zo y u):KV (dM kvs k y) (stored vs k u):=by
 unfold dM stored;rw[r.any k];by_cases e:(vs.any fun kv=>decide (kv.1=k))=true
 ·rw[As e,As e];exact r.repl k ry
 ·rw[Aq e,Aq e];exact Paired.snoc r ⟨rfl,ry⟩
theorem KV.length{kvs:List (κ×V)}{vs:List (κ×Value)}(r:KV kvs vs):kvs.length=vs.length:=Paired.length r
end
theorem m7{P:Program}{w:World}{k:jg}(r:zo (kV k) u):(xm P w).is k u=true:=by
 cases k with
 |inl i=>obtain⟨t,e⟩:=(show ∃t,u=Value.int i t from r);subst e;exact sm P w i t
 |inr x=>obtain⟨t,e⟩:=(show ∃t,u=Value.str x t from r);subst e;exact rX P w x t
theorem nU{P:Program}{w:World}:∀{ks:List jg} {us:List Value},zk (ks.map kV) us->ItemsAre (xm P w) ks us
 |[],_,r=>by rw[C1] at r;cases r;exact .nil
 |k::ks,_,r=>by rw[AG] at r;cases r with|cons h t=>exact .cons (m7 h) (nU t)
abbrev KT(H:Hp):List (List jg×V)->List (List jg×Addr×Value)->Prop:=Paired fun p q=>p.1=q.1/\H q.2.1=some (.tup (p.1.map kV))/\zo p.2 q.2.2
theorem KT.val{xs:List (List jg×Addr×Value)}(r:KT H kvs xs)(k:List jg):cN (eO kvs k) ((atKey xs k).map (·.2)):=by
 induction r with
 |nil=>exact True.intro
 |@cons p q ps qs h t ih=>
  obtain⟨h1,_,h2⟩:=h;by_cases e:p.1=k
  ·have e':q.1=k:=h1.symm.trans e;have b:atKey (q::qs) k=some q.2:=by simp[atKey,BI,e']
   rw[jY e,b];exact h2
  ·have e':¬q.1=k:=fun z=>e (h1.trans z);have b:atKey (q::qs) k=atKey qs k:=by simp[atKey,BI,e']
   rw[kD e,b];exact ih
theorem KT.repl{xs:List (List jg×Addr×Value)}(r:KT H kvs xs)(k:List jg){y:V}(ry:zo y u):
 KT H (kvs.map fun kv=>if kv.1=k then(kv.1,y) else kv) (xs.map (putAt k u)):=by
 induction r with
 |nil=>exact .nil
 |@cons p q ps qs h t ih=>
  rw[AG,AG];refine .cons ?_ ih;obtain⟨h1,h2,h3⟩:=h;unfold putAt;by_cases e:p.1=k
  ·rw[As e,As (h1.symm.trans e)];exact⟨h1,h2,ry⟩
  ·rw[Aq e,Aq (fun z=>e (h1.trans z))];exact⟨h1,h2,h3⟩
theorem KT.put{xs:List (List jg×Addr×Value)}(r:KT H kvs xs)(k:List jg){b:Addr}{y:V}(hb:H b=some (.tup (k.map kV)))(ry:zo y u):
 KT H (dM kvs k y) (storedH xs k b u):=by
 have e:(kvs.any fun kv=>decide (kv.1=k))=(atKey xs k).isSome:=by rw[sN,(r.val k).isSome_eq,Option.isSome_map]
 unfold dM storedH;rw[e];by_cases q:(atKey xs k).isSome=true
 ·rw[As q,As q];exact r.repl k ry
 ·rw[Aq q,Aq q];exact Paired.snoc r ⟨rfl,hb,ry⟩
theorem KT.keeps{xs:List (List jg×Addr×Value)}(r:KT H kvs xs)(ht:∀b ys,H b=some (.tup ys)->H' b=some (.tup ys)):KT H' kvs xs:=
 EH r fun _ _ z=>⟨z.1,ht _ _ z.2.1,z.2.2⟩
section
variable {P:Program}{w:World}{a:Addr}
theorem agt{u:HO}(ok:eB P w H h)(e:Rd H a u):xg P w H h a u:=e.ok ok
theorem uw{kvs:List (jg×V)}(ok:eB P w H h)(e:Rd H a (.dK kvs)):kvs.length≤sizeLine/\(a==sysModules)=false/\∃vs,KV kvs vs/\h.DictOf (xm P w) a vs:=
 show xg P w H h a (.dK kvs) from agt ok e
theorem agx{kvs:List (jg×V)}(ok:eB P w H h)(e:H a=some (.dK kvs)):kvs.length≤sizeLine/\(a==sysModules)=false/\∃vs,KV kvs vs/\h.DictOf (xm P w) a vs:=uw ok (.inl e)
theorem tH{ks:List jg}(ok:eB P w H h)(e:H a=some (.tup (ks.map kV))):(tupleKind (xm P w)).is h ks a:=by obtain⟨_,its,r,o,h1,h2,n,h3⟩:=(show xg P w H h a (.tup (ks.map kV)) from ok a _ e);exact⟨o,its.toArray,n,h1,h2,h3,by simpa using nU r⟩
theorem abj(ok:eB P w H h)(e:Rd H a (.dT kvs)):kvs.length≤sizeLine/\(a==sysModules)=false/\
 ∃xs,KT H kvs xs/\h.DictOfH (tupleKind (xm P w)) a xs:=by
 obtain⟨z,y,xs,r,o,es,ep,h1,h2,h3,h4,h5⟩:=(show xg P w H h a (.dT kvs) from agt ok e);refine⟨z,y,xs,r,o,es,ep,h1,h2,h3,h4,fun x hx=>?_,h5⟩;have all:∀{l:List (List jg×V)} {m:List (List jg×Addr×Value)},KT H l m->∀x∈m,(tupleKind (xm P w)).is h x.1 x.2.1:=by
  intro l m q
  induction q with
  |nil=>intro x hx;exact nomatch hx
  |@cons p q ps qs hq t ih=>
   intro x hx;rcases Ar.mp hx with e | hx
   ·subst e;exact tH ok (by rw[<-hq.1];exact hq.2.1)
   ·exact ih x hx
 exact all r x hx
theorem alw(ok:eB P w H h)(e:H a=some (.dT kvs)):kvs.length≤sizeLine/\(a==sysModules)=false/\
 ∃xs,KT H kvs xs/\h.DictOfH (tupleKind (xm P w)) a xs:=abj ok (.inl e)
end
def ai1(H:Hp)(a:Addr)(y:V)(r:Option V):Prop:=
 (∃kvs k,Rd H a (.dK kvs)/\y=kV k/\r=eO kvs k)\/∃kvs k b,Rd H a (.dT kvs)/\y=.ref b/\H b=some (.tup (k.map kV))/\r=eO kvs k
def aln(H:Hp)(a:Addr)(y v:V)(H':Hp):Prop:=
 (∃kvs k,H a=some (.dK kvs)/\y=kV k/\kvs.length<sizeLine/\H'=upd H a (.dK (dM kvs k v)))\/
 ∃kvs k b,H a=some (.dT kvs)/\y=.ref b/\H b=some (.tup (k.map kV))/\kvs.length<sizeLine/\H'=upd H a (.dT (dM kvs k v))
section
variable {a:Addr}{y:V}{r:Value}{o:Option V} 
theorem qw.big(I:qw X pins σ H s):sysModules<s.heap.objs.size:=by have h:mainGlobals<s.heap.objs.size:=(I.mod.glob.keeps I.bk).lt;exact C2 (by decide) h
theorem wN(hu:A.units+1<cLine)(I:qw X pins σ H s)(g:ai1 H a y (some v))(ry:zo y u)(h:∀w' s',qw X pins σ H s'->zo v w'->Q w' s'):
 wpAny (model X.prog X.w) A (getItem (.ref a) u) Q E s:=by
 rcases g with⟨kvs,k,e,ey,l⟩ | ⟨kvs,k,b,e,ey,eb,l⟩
 ·subst ey;obtain⟨z,hd,vs,rel,dd⟩:=uw I.hok e;obtain⟨w',hw,rw'⟩:=EL (v:=v) (o:=valueAt vs k) (by rw[l];exact rel.val k);exact wpAny_getItem_of (m7 ry) dd.mapOf hw (h w' _ (I.tok _) rw')
 ·subst ey;cases (show u=Value.ref b from ry);obtain⟨z,hd,xs,rel,dd⟩:=abj I.hok e;obtain⟨w',hw,rw'⟩:=EL (v:=v) (o:=(atKey xs k).map (·.2)) (by rw[l];exact rel.val k);obtain⟨p,hp,hp2⟩:=AE.mp hw;refine wpAny_getItem_heap (tupleKind_room_in1 hu) (tH I.hok eb) dd hp ?_;rw[hp2];exact h w' _ (I.tok _) rw'
theorem o5{ob:HO}(I:qw X pins σ H s)(mu:Mut (H a))(hs:Heap.SameBut a s.heap h')(he:∃q,h'.get? a=some q)(new:xg X.prog X.w (upd H a ob) h' a ob)(ht:0<t':=by walk_at "t"):
 qw X pins σ (upd H a ob) { s with heap:=h',toks:=t' }:=
 I.write (x:=a) (e:=a) mu (.inl rfl) (fun b q hb z=>(hs.2 b hb).trans z) he new
theorem ab1{P:Program}{w:World}{kvs:List (jg×V)}{vs:List (jg×Value)}(z:kvs.length≤sizeLine)(hd:(a==sysModules)=false)(rel:KV kvs vs)(dd:h'.DictOf (xm P w) a vs):
 xg P w H' h' a (.dK kvs):=⟨z,hd,vs,rel,dd⟩
theorem yf{Q:Unit->Shared->Prop}(hu:A.units+1<cLine)(I:qw X pins σ H s)(g:aln H a y v H')(ry:zo y u)(rv:zo v r)(h:∀s',qw X pins σ H' s'->Q () s'):
 wpAny (model X.prog X.w) A (setItem (.ref a) u r) Q E s:=by
 rcases g with⟨kvs,k,e,ey,l,eH⟩ | ⟨kvs,k,b,e,ey,eb,l,eH⟩
 ·subst ey eH;obtain⟨z,hd,vs,rel,dd⟩:=agx I.hok e;have hz:vs.length≤sizeLine:=by rw[<-rel.length];exact z
  have hl:(dM kvs k v).length≤sizeLine:=by have:=cj kvs k v;omega
  refine wpAny_setItem_pairs (hsz:=hz) (m7 ry) dd fun h' dd' hs=>h _ ?_;have he:∃q,h'.get? a=some q:=let ⟨q,_,_,hq,_⟩:=dd';⟨q,hq⟩;exact o5 I (by rw[e];exact True.intro) hs he (ab1 hl hd (rel.put k rv) dd')
 ·subst ey eH;cases (show u=Value.ref b from ry);obtain⟨z,hd,xs,rel,dd⟩:=alw I.hok e;have hz:xs.length≤sizeLine:=by rw[<-Paired.length rel];exact z
  have hl:(dM kvs k v).length≤sizeLine:=by have:=cj kvs k v;omega
  refine wpAny_setItem_heap (hsz:=hz) (tupleKind_room_in1 hu) (tH I.hok eb) dd fun h' dd' hs=>h _ ?_;obtain⟨q,es,ep,hq,h2,h3,h4,_,h5⟩:=dd';refine o5 I (by rw[e];exact True.intro) hs ⟨q,hq⟩ ⟨hl,hd,_,(rel.put k eb rv).keeps fun c ys ec=>?_,q,es,ep,hq,h2,h3,h4,h5⟩;rw[qo (amc ec e (fun z=>nomatch z))];exact ec
end
section
variable {a:Addr}{kvs:List (jg×V)}{k:jg} 
end
def ahz(i:Expr):Prop:=∀ov iv,subscripted i false ov iv=operate [ov,iv] (getItem ov iv)
theorem aeg{w:World}{slice:Expr}{T id:String}
 (hl:typeLookup (.type T) "__getitem__" = pure (some (.builtin id))) (hs:ahz slice)
 (h:wpAny (model prog w) A (eval value env) (fun o s₁=>wpAny (model prog w) A (eval slice env) (fun i s₂=>s₂.TypeIs o T/\wpAny (model prog w) A (getItem o i) Q E s₂) E s₁) E s):
 wpAny (model prog w) A (eval (.Subscript value slice pos) env) Q E s:=by
 refine Subscript_ (A1 h (fun o s₁ h₁=>A1 h₁ (fun i s₂ h₂=>?_) fun _ _ x=>x) fun _ _ x=>x);obtain⟨hT,h₂⟩:=h₂;unfold subscriptTail;refine Aa ?_;rw[getitemInPython_of_ne hT.not_modules];refine Aa (wpAny_specialOf hT hl ?_);have xu:wpAny (model prog w) A (subscripted slice false o i) (fun r s₃=>wpAny (model prog w) A (letTemporaryGo value o r >>= fun _=>pure r) Q E s₃) E s₂:=by rw[hs o i];exact wpAny_operating (A1 h₂ (fun r s₃ h₃=>Aa (wpAny_letTemporaryGo (Ai h₃))) fun _ _ x=>x)
 first
  |exact Ai (Aa xu)
  |exact Aa (Ai (Aa xu))
  |exact Aa xu
theorem sG{a:Addr}{y:V}{o:Option V}(I:qw X pins σ H s)(g:ai1 H a y o):s.TypeIs (.ref a) "dict" := by
 rcases g with⟨kvs,k,e,_,_⟩ | ⟨kvs,k,b,e,_,_,_⟩
 ·obtain⟨_,_,vs,_,dd⟩:=uw I.hok e;exact dd.typeIs
 ·obtain⟨_,_,xs,_,dd⟩:=abj I.hok e;exact dd.typeIs
def amk(td ty:TE):TE:=fun σ H Q=>td σ H fun x H1=>ty σ H1 fun y H2=>∃a v,x=.ref a/\ai1 H2 a y (some v)/\Q v H2
def alf(td ty tv:TE):TS:=fun D σ H=>tv σ H fun v H1=>td σ H1 fun x H2=>ty σ H2 fun y H3=>∃a H4,x=.ref a/\aln H3 a y v H4/\D.nx σ H4
section
variable {i:Expr}{tpos:Pos}{td ty tv:TE}
theorem afl(hu:X.A.units+1<cLine)(ho:PE X o td)(hi:PE X i ty)(hs:ahz i):PE X (.Subscript o i pos) (amk td ty):=by intro pins s σ H Q I h;refine aeg Dw.lookup hs (xt (ho pins s σ H _ I h) fun u s1 ⟨x,H1,I1,rx,q1⟩=>xt (hi pins s1 σ H1 _ I1 q1) fun iv s2 ⟨y,H2,I2,ry,a,v,ex,g,q2⟩=>?_);subst ex;obtain rfl:u=Value.ref a:=rx;exact⟨sG I2 g,wN hu I2 g ry fun w' s3 I3 rw'=>⟨v,H2,I3,rw',q2⟩⟩
theorem afd(hu:X.A.units+1<cLine)(ho:PE X o td)(hi:PE X i ty)(hv:PE X value tv)(hs:swapsWith value (some (.Subscript o i pos')) pos.line X.env=pure false):
 PS X (.Assign [.Subscript o i pos'] value pos) (alf td ty tv):=by
 intro pins s σ H D I h;refine wpAny_Assign_Subscript (xt (hv pins s σ H _ I h) fun r s1 ⟨v,H1,I1,rv,q1⟩=>xt (ho pins s1 σ H1 _ I1 q1) fun u s2 ⟨x,H2,I2,rx,q2⟩=>xt (hi pins s2 σ H2 _ I2 q2) fun iv s3 ⟨y,H3,I3,ry,a,H4,ex,g,q3⟩=>?_) hs;subst ex;obtain rfl:u=Value.ref a:=rx;exact yf hu I3 g ry rv fun s4 I4=>⟨σ,H4,I4,q3⟩
end
theorem rT{P:Program}{w:World}(h:Heap)(hb:sysModules<h.objs.size):xg P w H (h.push { cls:=.type "dict",data:=.dict #[] }) h.objs.size (.dK []):=
 ⟨Bl _,beq_eq_false_iff_ne.mpr (AH (A3 hb)),[],.nil,Heap.DictOf.new h⟩
def ahn:TE:=fun _ H Q=>∀p,H p=none->Q (.ref p) (upd H p (.dK []))
section
theorem zQ:PE X (.Dict [] [] pos) ahn:=fun pins s σ H Q I h=>
 wpAny_Dict_empty ⟨.ref s.heap.objs.size,_,I.laid (a:=s.heap.objs.size) (o:=.dK []) (t':=s.toks) (fun _ _ q=>Heap.get?_push_of_some _ q) (Am _) (rT s.heap I.big),rfl,h _ (I.hok.fresh (Am _))⟩
end
def pL:List (TE×TE)->St->Hp->(List (V×V)->Hp->Prop)->Prop
 |[],_,H,Q=>Q [] H
 |(tk,tv)::r,σ,H,Q=>tk σ H fun x H1=>tv σ H1 fun y H2=>pL r σ H2 fun ps H3=>Q ((x,y)::ps) H3
abbrev VV:List (V×V)->List (Value×Value)->Prop:=Paired fun p q=>zo p.1 q.1/\zo p.2 q.2
def PPs(X:Cx)(pos:Pos)(keys:List (Option Expr))(values:List Expr)(trs:List (TE×TE)):Prop:=
 ∀(pins:List (Addr×Obj)) (s:Shared) (σ:St) (H:Hp) (Q:List (V×V)->Hp->Prop),qw X pins σ H s->pL trs σ H Q->
  wpAny (model X.prog X.w) X.A (evalPairs (pairTrees keys values X.env pos)) (fun vs s'=>∃ps H',qw X pins σ H' s'/\VV ps vs/\Q ps H') X.xe s
theorem ag8 :PPs X pos [] [] []:=fun pins s σ H Q I h=>pairTrees_nil_walk ⟨[],H,I,.nil,h⟩
theorem gE{k v:Expr}{ks:List (Option Expr)}{vs:List Expr}{tk tv:TE}{trs:List (TE×TE)}(hk:PE X k tk)(hv:PE X v tv)(hr:PPs X pos ks vs trs):
 PPs X pos (some k::ks) (v::vs) ((tk,tv)::trs):=fun pins s σ H Q I h=>
 pairTrees_cons_walk (xt (hk pins s σ H _ I h) fun u s1 ⟨x,H1,I1,rx,q1⟩=>xt (hv pins s1 σ H1 _ I1 q1) fun w2 s2 ⟨y,H2,I2,ry,q2⟩=>
  xt (hr pins s2 σ H2 _ I2 q2) fun ws s3 ⟨ps,H3,I3,rel,q3⟩=>⟨(x,y)::ps,H3,I3,.cons ⟨rx,ry⟩ rel,q3⟩)
def gu(kvs more:List (jg×V)):List (jg×V):=more.foldl (fun acc kv=>dM acc kv.1 kv.2) kvs
theorem KV.merge:∀{more:List (jg×V)} {rs:List (jg×Value)} {kvs:List (jg×V)} {vs:List (jg×Value)},KV more rs->KV kvs vs->KV (gu kvs more) (merged vs rs):=by
 intro more rs kvs vs r;unfold KV at r
 induction r generalizing kvs vs with
 |nil=>intro q;exact q
 |@cons p q ps qs h t ih=>
  intro r0;have e:KV (dM kvs p.1 p.2) (stored vs q.1 q.2):=by have:=r0.put p.1 h.2;rw[<-h.1];exact this
  exact ih e
theorem eE:∀(more kvs:List (jg×V)),(gu kvs more).length≤kvs.length+more.length
 |[],kvs=>by show kvs.length≤kvs.length+0;omega
 |p::r,kvs=>by have h1:=eE r (dM kvs p.1 p.2);have h2:=cj kvs p.1 p.2;show(gu (dM kvs p.1 p.2) r).length≤_;rw[AD];omega
theorem lF{P:Program}{w:World}:∀{kvs:List (jg×V)} {ws:List (Value×Value)},VV (kvs.map fun kv=>(kV kv.1,kv.2)) ws->∃rs,Carries (xm P w) ws rs/\KV kvs rs
 |[],_,r=>by rw[C1] at r;cases r;exact⟨[],True.intro,.nil⟩
 |p::kvs,_,r=>by
  rw[AG] at r;cases r with
  |@cons a b as bs h t=>
   obtain⟨rs,c,q⟩:=lF (P:=P) (w:=w) t;obtain⟨b1,b2⟩:=b;exact⟨(p.1,b2)::rs,⟨m7 h.1,rfl,c⟩,.cons ⟨rfl,h.2⟩ q⟩
def alk(trs:List (TE×TE)):TE:=fun σ H Q=>∀p,H p=none->pL trs σ (upd H p (.dK [])) fun ps H2=>H2 p=some (.dK [])/\∃kvs:List (jg×V),ps=kvs.map (fun kv=>(kV kv.1,kv.2))/\kvs.length≤15/\Q (.ref p) (upd H2 p (.dK (gu [] kvs)))
theorem ae1{keys:List (Option Expr)}{values:List Expr}{trs:List (TE×TE)}(h:PPs X pos keys values trs)(hall:keys.all (·.isSome)=true)(hl:keys.length=values.length)(h0:keys≠[])
 (h15:keys.length≤15):PE X (.Dict keys values pos) (alk trs):=by
 intro pins s σ H Q I q;have hn:=I.hok.fresh (Am s.heap.objs.size);have I1:=I.laid (a:=s.heap.objs.size) (o:=.dK []) (h':=s.heap.push { cls:=.type "dict",data:=.dict #[] }) (t':=s.toks) (fun _ _ q=>Heap.get?_push_of_some _ q) (Am _) (rT s.heap I.big);refine wpAny_Dict_walk (knd:=xm X.prog X.w) hall hl h0 h15 (xt (h pins _ σ _ _ I1 (q _ hn)) fun ws s2 ⟨ps,H2,I2,rel,e,kvs,ep,lk,q2⟩=>?_);subst ep;obtain⟨rs,c,rk⟩:=lF (P:=X.prog) (w:=X.w) rel;obtain⟨z,hd,vs0,r0,dd⟩:=agx I2.hok e;cases r0;refine⟨rs,c,dd,fun h' dd' hs=>⟨.ref s.heap.objs.size,_,?_,rfl,q2⟩⟩;have hz:(gu [] kvs).length≤sizeLine:=by have h1:=eE kvs [];rw[List.length_nil] at h1;rw[sizeLine_eq];omega
 have he:∃q,h'.get? s.heap.objs.size=some q:=let ⟨q,_,_,hq,_⟩:=dd';⟨q,hq⟩;exact o5 I2 (by rw[e];exact True.intro) hs he (ab1 hz hd (rk.merge .nil) dd')
section
variable {a:Addr}{y d:V}{r:Value}{o:Option V} 
end
section
variable {f:Expr}{td ty tx:TE}
end
section
variable {a:Addr}{kvs:List (jg×V)} 
end
section
variable {a:Addr}{y:V} 
end
end L2
namespace HT
open PySem PyProof.Rows
section
open PySem.SeqAt
open PySem.AutoSeq1 (wpAny_loadPart')
open PySem.MeetsSeq PySem.MeetsSeq2 PySem.MeetsSeq3
end
section
variable {w:World} 
def sIx(n d:Nat):Option Int->Nat
 |none=>d
 |some v=>if v<0 then(v+(n:Int)).toNat else min v.toNat n
theorem sIx_none(n d:Nat):sIx n d none=d:=rfl
theorem sIx_nat(n d k:Nat):sIx n d (some (k:Int))=min k n:=by show(if (k:Int)<0 then((k:Int)+(n:Int)).toNat else min (k:Int).toNat n)=min k n;rw[Aq (by omega),B5]
theorem sIx_le(n d:Nat)(hd:d≤n)(o:Option Int):sIx n d o≤n:=by
 cases o with
 |none=>exact hd
 |some v=>
  show(if v<0 then(v+(n:Int)).toNat else min v.toNat n)≤n;by_cases hv:v<0
  ·rw[As hv];omega
  ·rw[Aq hv];exact Nat.min_le_right _ _
theorem wF(v:Int)(n d:Nat):(if v<0 then max (v+(n:Int)) 0 else min v (n:Int))=((sIx n d (some v):Nat):Int):=by
 show(if v<0 then max (v+(n:Int)) 0 else min v (n:Int))=(((if v<0 then(v+(n:Int)).toNat else min v.toNat n):Nat):Int);by_cases hv:v<0
 ·simp only[As hv];omega
 ·simp only[Aq hv];omega
theorem uL(lo hi:Option Int)(n:Nat):Builtin.Slice.sliceAdjust lo hi 1 (n:Int)=(((sIx n 0 lo:Nat):Int),((sIx n n hi:Nat):Int)):=by
 have h1:¬((1:Int)<0):=by omega
 unfold Builtin.Slice.sliceAdjust;simp only[h1,if_false];refine Prod.ext ?_ ?_
 ·cases lo with|none=>rfl|some v=>exact wF v n 0
 ·cases hi with|none=>rfl|some v=>exact wF v n n
theorem tf(i j:Nat):Builtin.Slice.slicePlaces (i:Int) (j:Int) 1=j - i:=by
 unfold Builtin.Slice.slicePlaces;have h1:(1:Int) > 0:=by omega
 simp only[h1,if_true,Int.ediv_one];split<;>omega
theorem mD{v:Value}{o:Option Int}{Q:Option Int->Shared->Prop}(p:IsPart v o)(h:Q o s):wpAny (model prog w) A (Builtin.Slice.slicePartIndex v) Q E s:=by cases p with|none=>exact slicePart_none h|int i t=>exact slicePart_int h
theorem iA{sl:Addr}{vl vu:Value}{lo hi:Option Int}{Q:Int×Int×Nat->Shared->Prop}(hs:s.heap.IsSliceOf sl vl vu .none)(pl:IsPart vl lo)(pu:IsPart vu hi)
 (h:Q (((sIx n 0 lo:Nat):Int),1,sIx n n hi - sIx n 0 lo) s):wpAny (model prog w) A (Builtin.Slice.sliceApplied (.ref sl) (pure (n:Int))) Q E s:=by
 obtain⟨os,hos,hcs,hds⟩:=id hs;unfold Builtin.Slice.sliceApplied Builtin.Slice.sliceFields;refine Aa (Aa (A8 hos hds (x:=vl) rfl (Aa (A8 hos hds (x:=vu) rfl (Aa (A8 hos hds (x:=.none) rfl (Ai ?_)))))));refine Aa (slicePart_none ?_);show wpAny _ _ (if ((1:Int)==0)=true then _ else _) _ _ s;rw[Aq (by decide)];refine Aa (mD pl (Aa (mD pu (Aa (Ai ?_)))));show wpAny _ _ (match Builtin.Slice.sliceAdjust lo hi 1 (n:Int) with | (lo,hi)=>pure (lo,(1:Int),Builtin.Slice.slicePlaces lo hi 1)) _ _ s;rw[uL lo hi n];show wpAny _ _ (pure (((sIx n 0 lo:Nat):Int),(1:Int),Builtin.Slice.slicePlaces ((sIx n 0 lo:Nat):Int) ((sIx n n hi:Nat):Int) 1)) _ _ s;rw[tf];exact Ai h
theorem ad0(xs:Array Value)(i k:Nat):((List.range k).filterMap fun(m:Nat)=>xs[((i:Int)+(m:Int)*1).toNat]?).toArray=((xs.toList.drop i).take k).toArray:=by
 have e:(fun(m:Nat)=>xs[((i:Int)+(m:Int)*1).toNat]?)=fun m=>xs[i+m]?:=by
  funext m;have:((i:Int)+(m:Int)*1).toNat=i+m:=by omega
  rw[this]
 rw[e];have:=pick_run xs i k;rw[List.filterMap_map] at this;have e2:((fun x=>xs[x]?)∘fun x=>i+x)=fun m=>xs[i+m]?:=rfl;rw[e2] at this;rw[this]
theorem getItem_tuple_cut{t sl:Addr}{items:Array Value}{vl vu:Value}{lo hi:Option Int}(ht:IsTup s.heap t items)(hs:s.heap.IsSliceOf sl vl vu .none)(pl:IsPart vl lo)(pu:IsPart vu hi)
 (hw:¬(sIx items.size 0 lo=0/\sIx items.size items.size hi=items.size))
 (h:Q (.ref s.heap.objs.size) { s with heap:=s.heap.push { cls:=.type "tuple",data:=.seq ((items.toList.drop (sIx items.size 0 lo)).take (sIx items.size items.size hi - sIx items.size 0 lo)).toArray } })
 (hsz:items.size≤sizeLine):wpAny (model prog w) A (getItem (.ref t) (.ref sl)) Q E s:=by
 have htake:sizeOk (.seq ((items.toList.drop (sIx items.size 0 lo)).take (sIx items.size items.size hi - sIx items.size 0 lo)).toArray):=by show((items.toList.drop (sIx items.size 0 lo)).take (sIx items.size items.size hi - sIx items.size 0 lo)).toArray.size≤sizeLine;rw[Ao,AW,BB,AM];omega
 have hj:sIx items.size items.size hi≤items.size:=sIx_le _ _ (Am _) hi;obtain⟨os,hos,hcs,hds⟩:=id hs;have hTs:s.TypeIs (.ref sl) "slice" := ⟨os,hos,hcs⟩;unfold getItem
 try with_reducible refine Bc ?_
 first | refine Aa (Ai ?_) | skip
 refine Aa (wpAny_sequenceKey ht.typeIs (by decide) ?_);refine Aa (wpAny_callSpecial?_slot (name:=Str.ofString "__getitem__") ht.typeIs Cc
  (wpAny_call_entry Cc ht.typeIs entry_tuple_getitem ?_ (args_tuple_getitem _ _)))
 show wpAny _ _ (Builtin.Tuple.tupleItemsOf (.ref t) >>= _) _ _ s;refine Aa (tupleItemsOf_ ht ?_);refine Aa (wpAny_typeOf hTs ?_);rw[As (by decide)];refine Aa (iA hs pl pu ?_);have hno:¬((((sIx items.size 0 lo:Nat):Int)==0&&(1:Int)==1&&(sIx items.size items.size hi - sIx items.size 0 lo)==items.size)=true):=by intro q;rw[AR,AR] at q;have q1:((sIx items.size 0 lo:Nat):Int)=0:=eq_of_beq q.1.1;have q2:sIx items.size items.size hi - sIx items.size 0 lo=items.size:=eq_of_beq q.2;exact hw ⟨by omega,by omega⟩
 show wpAny _ _ (if (((sIx items.size 0 lo:Nat):Int)==0&&(1:Int)==1&&(sIx items.size items.size hi - sIx items.size 0 lo)==items.size)=true then _ else _) _ _ s;rw[Aq hno,ad0]
 first
  |exact Aa (m:=Builtin.Tuple.tupleExact _) (Bk (Ai ⟨_,rfl,Ai h⟩) htake)
  |exact Aa (m:=Builtin.Tuple.tupleExact _) (Bk (Aa (Ai (Ai ⟨_,rfl,Ai h⟩))) htake)
  |exact Aa (Aa (m:=Builtin.Tuple.tupleExact _) (Bk (Ai (Ai ⟨_,rfl,Ai h⟩)) htake))
  |exact Aa (Aa (m:=Builtin.Tuple.tupleExact _) (Bk (Ai ⟨_,rfl,Ai h⟩) htake))
end
end HT
namespace L2
open PySem PySem.Spec PyProof.Rows
abbrev TO:=St->Hp->(Option Int->Hp->Prop)->Prop
def PO(X:Cx)(e:Option Expr)(t:TO):Prop:=
 ∀(pins:List (Addr×Obj)) (s:Shared) (σ:St) (H:Hp) (Q:Option Int->Hp->Prop),qw X pins σ H s->t σ H Q->
  wpAny (model X.prog X.w) X.A (evalPart e X.env) (fun u s'=>∃o H',qw X pins σ H' s'/\IsPart u o/\Q o H') X.xe s
def ael:TO:=fun _ H Q=>Q none H
def amo(t:TE):TO:=fun σ H Q=>t σ H fun x H1=>∃i,x=.int i/\Q (some i) H1
section
variable {te:TE}{lo hi:Option Expr}{tl th:TO} 
theorem afp:PO X none ael:=by intro pins s σ H Q I h;rw[evalPart_none];exact Ai ⟨none,H,I,.none,h⟩
theorem ada(h:PE X e te):PO X (some e) (amo te):=by intro pins s σ H Q I hw;rw[evalPart_some];refine xt (h pins s σ H _ I hw) fun u s1 ⟨x,H1,I1,r1,q1⟩=>?_;obtain⟨i,rfl,q⟩:=q1;obtain⟨t,rfl⟩:=r1;exact⟨some i,H1,I1,.int i t,q⟩
def ph(X:Cx)(r:V->Option Int->Option Int->Hp->VK->Prop):Prop:=
 ∀(pins:List (Addr×Obj)) (s:Shared) (σ:St) (H:Hp) (x:V) (v vl vu:Value) (lo hi:Option Int) (sl:Addr) (Q:VK),qw X pins σ H s->zo x v->s.heap.IsSliceOf sl vl vu .none->IsPart vl lo->IsPart vu hi->r x lo hi H Q->
  ∃T id,typeLookup (.type T) "__getitem__" = pure (some (.builtin id))/\s.TypeIs v T/\wpAny (model X.prog X.w) X.A (getItem v (.ref sl)) (EP X pins σ Q) X.xe s
theorem ph.or{r':V->Option Int->Option Int->Hp->VK->Prop}(h:ph X r)(h':ph X r'):ph X (fun x lo hi H Q=>r x lo hi H Q\/r' x lo hi H Q):=by
 intro pins s σ H x v vl vu lo hi sl Q I rx hs pl pu q;rcases q with q | q
 ·exact h pins s σ H x v vl vu lo hi sl Q I rx hs pl pu q
 ·exact h' pins s σ H x v vl vu lo hi sl Q I rx hs pl pu q
def tSl(r:V->Option Int->Option Int->Hp->VK->Prop)(te:TE)(tl th:TO):TE:=fun σ H Q=>te σ H fun x H1=>tl σ H1 fun l H2=>th σ H2 fun u H3=>r x l u H3 Q
theorem aas(hr:ph X r)(he:PE X e te)(hl:PO X lo tl)(hu:PO X hi th):PE X (.Subscript e (.Slice lo hi none p2) pos) (tSl r te tl th):=by intro pins s σ H Q I h;refine Subscript_ (xt (he pins s σ H _ I h) fun v s1 ⟨x,H1,I1,r1,q1⟩=>?_);refine wpAny_Slice (xt (hl pins s1 σ H1 _ I1 q1) fun vl s2 ⟨l,H2,I2,pl,q2⟩=>xt (hu pins s2 σ H2 _ I2 q2) fun vu s3 ⟨u,H3,I3,pu,q3⟩=>?_);rw[evalPart_none];refine Ai ?_;have I4:qw X pins σ H3 { s3 with heap:=s3.heap.push { cls:=.type "slice",data:=.fields #[vl,vu,.none] } }:=I3.kept (t':=s3.toks) fun b ob q=>Heap.get?_push_of_some _ q;obtain⟨T,id,hT,ht,hg⟩:=hr pins { s3 with heap:=s3.heap.push { cls:=.type "slice",data:=.fields #[vl,vu,.none] } } σ H3 x v vl vu l u s3.heap.objs.size Q I4 r1 (Heap.IsSliceOf.new ..) pl pu q3;show wpAny (model X.prog X.w) X.A (subscriptTail e (.Slice lo hi none p2) v (.ref s3.heap.objs.size)) (EP X pins σ Q) X.xe { s3 with heap:=s3.heap.push { cls:=.type "slice",data:=.fields #[vl,vu,.none] } };exact tail_any (ops:=[.ref s3.heap.objs.size,v]) ht hT hg (by with_unfolding_all rfl)
def qP(xs:List V)(lo hi:Option Int):List V:=(xs.drop (HT.sIx xs.length 0 lo)).take (HT.sIx xs.length xs.length hi - HT.sIx xs.length 0 lo)
theorem iH(xs:List V)(lo hi:Option Int):(qP xs lo hi).length≤xs.length:=by unfold qP;rw[AW,BB];omega
def apy(K:Af):V->Option Int->Option Int->Hp->VK->Prop:=fun x lo hi H Q=>∃a xs,x=.ref a/\cL K H a xs/\
 ¬(HT.sIx xs.length 0 lo=0/\HT.sIx xs.length xs.length hi=xs.length)/\∀p,H p=none->Q (.ref p) (upd H p (.tup (qP xs lo hi)))
theorem aka:ph X (apy X.K):=by
 intro pins s σ H x v vl vu lo hi sl Q I rx hs pl pu h;obtain⟨a,xs,rfl,hx,hw,q⟩:=h;cases rx;obtain⟨its,r,ht,hz⟩:=I.tuple hx;have hlen:its.toArray.size=xs.length:=by rw[Ao];exact r.length.symm
 refine⟨"tuple",_,Cc.lookup,ht.typeIs,?_⟩;refine HT.getItem_tuple_cut ht hs pl pu (by rw[hlen];exact hw) ?_ (by rw[hlen];exact hz);rw[hlen];refine⟨.ref s.heap.objs.size,_,I.laid (t':=s.toks) (o:=.tup (qP xs lo hi)) (fun b ob q=>Heap.get?_push_of_some _ q) (Am _) ?_,rfl,q _ (I.hok.fresh (Am _))⟩;exact⟨AL (iH xs lo hi) hz,_,(r.drop (HT.sIx xs.length 0 lo)).take (HT.sIx xs.length xs.length hi - HT.sIx xs.length 0 lo),IsTup.new _ _⟩
end
def ixN(n:Nat)(i:Int):Option Nat:=if 0≤i then(if i<n then some i.toNat else none) else if -(n:Int)≤i then some (i+n).toNat else none
def dg(xs:List α)(i:Int):Option α:=(ixN xs.length i).bind fun j=>xs[j]?
theorem wC{i:Int}(h:ixN n i=some j):seqIndex? i n=some j/\j<n /\ -(n:Int)≤i/\i<n:=by
 unfold ixN at h;by_cases h0:0≤i
 ·rw[As h0] at h;by_cases h1:i<n
  ·rw[As h1] at h;have e:i.toNat=j:=AV h;exact⟨by rw[seqIndex_of h0 h1,e],by omega,by omega,h1⟩
  ·rw[Aq h1] at h;cases h
 ·rw[Aq h0] at h;by_cases h1 : -(n:Int)≤i
  ·rw[As h1] at h;have e:(i+n).toNat=j:=AV h;exact⟨by rw[seqIndex_neg (by omega) h1,e],by omega,h1,by omega⟩
  ·rw[Aq h1] at h;cases h
theorem oK{xs:List α}{i:Int}{v:α}(h:dg xs i=some v):∃j,seqIndex? i xs.length=some j/\xs[j]?=some v/\j<xs.length /\ -(xs.length:Int)≤i/\i<xs.length:=by
 unfold dg at h;cases e:ixN xs.length i with
 |none=>rw[e] at h;cases h
 |some j=>
  rw[e] at h;obtain⟨h1,h2,h3,h4⟩:=wC e;exact⟨j,h1,h,h2,h3,h4⟩
theorem ve{xs:List α}{v:α}(h:xs[j]?=some v):dg xs (j:Int)=some v:=by
 have hj:j<xs.length:=(AY.mp h).1;have e:ixN xs.length (j:Int)=some j:=by unfold ixN;rw[As (by omega),As (by omega)];simp
 unfold dg;rw[e];exact h
def oJ(b:Expr):Prop:=∀o i,subscripted b false o i=operate [o,i] (getItem o i)
def zI(X:Cx)(r:R2):Prop:=
 ∀(value slice:Expr) (pins:List (Addr×Obj)) (s:Shared) (σ:St) (H:Hp) (x y:V) (v u:Value) (Q:VK),qw X pins σ H s->zo x v->zo y u->r x y H Q->
  subscripted slice false v u=operate [v,u] (getItem v u)->wpAny (model X.prog X.w) X.A (subscriptTail value slice v u) (EP X pins σ Q) X.xe s
def MtR(X:Cx)(id:String)(r:V->List V->Hp->VK->Prop):Prop:=
 ∀(pins:List (Addr×Obj)) (s:Shared) (σ:St) (H:Hp) (x:V) (xs:List V) (v:Value) (us:List Value) (Q:VK),qw X pins σ H s->zo x v->zk xs us->r x xs H Q->
  wpAny (model X.prog X.w) X.A (call (.builtin id) (v::us)) (EP X pins σ Q) X.xe s
section
variable {a b:Expr}{ta tb:TE} 
theorem al8{r:R2}(hr:zI X r)(ha:PE X a ta)(hb:PE X b tb)(hs:oJ b):PE X (.Subscript a b pos) (tOp r ta tb):=by intro pins s σ H Q I h;exact Subscript_ (ai3 ha hb I h fun v u s2 x y H2 I2 rx ry q=>hr a b pins s2 σ H2 x y v u Q I2 rx ry q (hs _ _))
def aoq(K:Af):R2:=fun x y H Q=>∃p xs i v,x=.ref p/\y=.int i/\wu K H p xs/\dg xs i=some v/\Q v H
def aqf(K:Af):R2:=fun x y H Q=>∃p xs i v,x=.ref p/\y=.int i/\cL K H p xs/\dg xs i=some v/\Q v H
def ao8:R2:=fun x y H Q=>∃z i c,x=.str z/\y=.int i/\z.length≤sizeLine/\dg z.cps.toList i=some c/\Q (.str ⟨#[c]⟩) H
theorem af3:zI X (aoq X.K):=by
 intro value slice pins s σ H x y v u Q I rx ry h hs;obtain⟨p,xs,i,z,rfl,rfl,hq,he,q⟩:=h;cases rx;obtain⟨t,rfl⟩:=ry;obtain⟨its,r,pl,hz⟩:=I.list hq;obtain⟨j,h1,h2,h3,h4,h5⟩:=oK he;obtain⟨w,ew,rw'⟩:=r.get h2;have hl:=r.length;have hn:=gM;have xu:EP X pins σ Q w s:=⟨z,H,I,rw',q⟩;by_cases h0:0≤i
 ·have hj:i.toNat=j:=by rw[seqIndex_of h0 h5] at h1;exact AV h1
  exact item_listR pl.isList h0 (by omega) (by rw[hj];simpa using ew) xu hs
 ·have hj:(i+(its.toArray.size:Int)).toNat=j:=by rw[seqIndex_neg (by omega) h4] at h1;rw[Ao,<-hl];exact AV h1
  exact subscriptTail_builtinR (x:=w) pl.isList.typeIs slot_list_getitem.lookup
   (wpAny_getItem_list_neg (Q:=fun r s'=>r=w/\EP X pins σ Q r s') pl.isList (by omega) (by rw[Ao]<;>omega) (by omega) (by rw[hj];simpa using ew) ⟨rfl,xu⟩) hs
theorem ah6:zI X (aqf X.K):=by
 intro value slice pins s σ H x y v u Q I rx ry h hs;obtain⟨p,xs,i,z,rfl,rfl,hq,he,q⟩:=h;cases rx;obtain⟨t,rfl⟩:=ry;obtain⟨its,r,pl,hz⟩:=I.tuple hq;obtain⟨j,h1,h2,h3,h4,h5⟩:=oK he;obtain⟨w,ew,rw'⟩:=r.get h2;have hl:=r.length;have hn:=gM;have xu:EP X pins σ Q w s:=⟨z,H,I,rw',q⟩;exact subscriptTail_builtinR (x:=w) pl.typeIs slot_tuple_getitem.lookup
  (getItem_tuple (j:=j) (Q:=fun r s'=>r=w/\EP X pins σ Q r s') pl (by omega) (by omega) (by rw[Ao,<-hl];exact h1) (by simpa using ew) ⟨rfl,xu⟩) hs
theorem aic:zI X ao8:=by
 intro value slice pins s σ H x y v u Q I rx ry h hs;obtain⟨z,i,c,rfl,rfl,hz,he,q⟩:=h;obtain⟨t,rfl⟩:=rx;obtain⟨t',rfl⟩:=ry;obtain⟨j,h1,h2,h3,h4,h5⟩:=oK he;have hl:z.cps.toList.length=z.length:=by simp[Str.length]
 rw[hl] at h1 h4 h5;have hn:=gM;exact tail_any (typeIs_str s z t) slot_str_getitem.lookup (getItem_str (c:=c) (by have e1:decide (i < -(2 ^ 63:Int))=false:=AA (by omega);have e2:decide (i≥2 ^ 63)=false:=AA (by omega);rw[e1,e2,Bool.or_false]) (by rw[h1];simpa using h2) ⟨.str ⟨#[c]⟩,H,I.tok _,⟨_,rfl⟩,q⟩) hs
theorem uT(its:List Value)(n j:Nat)(u:Value):Obj.mapSeq (·.setIfInBounds j u) { cls:=.type "list",data:=.seq its.toArray n }={ cls:=.type "list",data:=.seq (its.set j u).toArray n }:=by simp[Obj.mapSeq]
theorem qw.lst{p:Addr}(I:qw X pins σ H s)(h:H p=some (.lst xs)):
 ∃(its:List Value) (n:Nat),zk xs its/\s.heap.get? p=some { cls:=.type "list",data:=.seq its.toArray n }/\xs.length≤sizeLine:=by
 obtain⟨z,its,n,r,e⟩:=I.hok p _ h;exact⟨its,n,r,e,z⟩
theorem qw.lstUpd{p:Addr}{ys:List V}{its':List Value}{n':Nat}{f:Obj->Obj}(I:qw X pins σ H s)(h:H p=some (.lst xs))
 (ho:s.heap.get? p=some { cls:=.type "list",data:=.seq its.toArray n }) (hf:f { cls:=.type "list",data:=.seq its.toArray n }={ cls:=.type "list",data:=.seq its'.toArray n' }) (r:zk ys its') (hz:ys.length≤sizeLine) (t:Nat) (ht:0<t:=by walk_at "t"):
 qw X pins σ (upd H p (.lst ys)) { s with heap:=s.heap.update p f,toks:=t }:=by
 have e:(s.heap.update p f).get? p=some { cls:=.type "list",data:=.seq its'.toArray n' }:=by rw[Heap.get?_update_self f ho (by rw[hf]<;>rfl),hf]
 refine I.write (x:=p) (e:=p) (by rw[h];trivial) (.inl rfl) (fun b u hb q=>(Heap.get?_update_other _ _ (AH hb)).trans q) ⟨_,e⟩ ?_;exact⟨hz,its',n',r,e⟩
def an8:V->V->V->Hp->(Hp->Prop)->Prop:=fun o i v H Q=>∃p xs k j,o=.ref p/\i=.int k/\H p=some (.lst xs)/\ixN xs.length k=some j/\Q (upd H p (.lst (xs.set j v)))
theorem acv:amv X an8:=by
 intro pins s σ H o i v ov iv u Q I ro ri rv h;obtain⟨p,xs,k,j,rfl,rfl,hp,hj,q⟩:=h;cases ro;obtain⟨t,rfl⟩:=ri;obtain⟨its,n,r,ho,hz⟩:=I.lst hp;obtain⟨h1,h2,h3,h4⟩:=wC hj;have hl:=r.length;have hn:=gM;have I':qw X pins σ (upd H p (.lst (xs.set j v))) { s with heap:=s.heap.update p (Obj.mapSeq (·.setIfInBounds j u)) }:=
  I.lstUpd hp ho (uT its n j u) (r.set rv j) (by rw[Bd];exact hz) s.toks
 by_cases h0:0≤k
 ·have hk:k.toNat=j:=by rw[seqIndex_of h0 h4] at h1;exact AV h1
  exact PySem.W.ki_setAt ho h0 (by omega) (by rw[Ao,<-hl];exact h4) (by rw[hk];exact⟨_,I',q⟩)
 ·have hk:(k+(its.toArray.size:Int)).toNat=j:=by rw[seqIndex_neg (by omega) h3] at h1;rw[Ao,<-hl];exact AV h1
  exact PySem.W.ki_setBack ho (by omega) (by rw[Ao,<-hl];exact h3) (by omega) (by rw[hk];exact⟨_,I',q⟩)
theorem ot(lo hi:Option Int)(n:Nat):(sliceBounds lo hi none n).1=((HT.sIx n 0 lo:Nat):Int)/\(sliceBounds lo hi none n).2.1=((HT.sIx n n hi:Nat):Int)/\(sliceBounds lo hi none n).2.2=1:=by
 refine⟨?_,?_,rfl⟩
 ·cases lo with
  |none=>simp[sliceBounds,HT.sIx]
  |some i=>
   simp only[sliceBounds,HT.sIx,Option.getD_none,show(1:Int) > 0 by decide,if_true];by_cases h:i<0
   ·simp only[h,if_true]<;>omega
   ·simp only[h,if_false]<;>omega
 ·cases hi with
  |none=>simp[sliceBounds,HT.sIx]
  |some i=>
   simp only[sliceBounds,HT.sIx,Option.getD_none,show(1:Int) > 0 by decide,if_true];by_cases h:i<0
   ·simp only[h,if_true]<;>omega
   ·simp only[h,if_false]<;>omega
theorem mH(its:List Value)(lo hi:Option Int):slicePick its.toArray lo hi none=((its.drop (HT.sIx its.length 0 lo)).take (HT.sIx its.length its.length hi - HT.sIx its.length 0 lo)).toArray:=by obtain⟨h1,h2,h3⟩:=ot lo hi its.toArray.size;unfold slicePick;rw[h1,h2,h3];simp only[sliceRange_one,pick_run,Ao]<;>rfl
def ap4(K:Af):V->Option Int->Option Int->Hp->VK->Prop:=fun x lo hi H Q=>∃a xs,x=.ref a/\wu K H a xs/\∀p,H p=none->Q (.ref p) (upd H p (.lst (qP xs lo hi)))
theorem adw:ph X (ap4 X.K):=by intro pins s σ H x v vl vu lo hi sl Q I rx hs pl pu h;obtain⟨a,xs,rfl,hx,q⟩:=h;cases rx;obtain⟨its,r,ht,hz⟩:=I.list hx;have hlen:=r.length;refine⟨"list",_,slot_list_getitem.lookup,ht.isList.typeIs,?_⟩;refine wpAny_getItem_list_slice ht.isList hs pl pu .none (by simp) ?_ (by rw[Ao]<;>omega);rw[mH,<-hlen];refine⟨.ref s.heap.objs.size,_,I.laid (t':=s.toks) (o:=.lst (qP xs lo hi)) (fun b ob q=>Heap.get?_push_of_some _ q) (Am _) ?_,rfl,q _ (I.hok.fresh (Am _))⟩;exact⟨AL (iH xs lo hi) hz,_,0,(r.drop (HT.sIx xs.length 0 lo)).take (HT.sIx xs.length xs.length hi - HT.sIx xs.length 0 lo),Heap.get?_push_size _ rfl⟩
def aI:V->Bool
 |.non=>true
 |.bl _=>true
 |.int _=>true
 |.str _=>true
 |_=>false
def lU:V->V->Bool
 |.non,.non=>true
 |.bl a,.bl b=>a==b
 |.bl a,.int b=>(if a then 1 else 0)==b
 |.int a,.bl b=>a==(if b then 1 else 0)
 |.int a,.int b=>a==b
 |.str a,.str b=>a==b
 |_,_=>false
theorem lg{y x:V}{v:Value}(ry:zo y u)(rx:zo x v)(fy:aI y=true)(fx:aI x=true):SeqAt.EqAt A s u v (lU y x):=by
 cases y with
 |non=>
  cases ry;cases x with
  |non=>cases rx;exact SeqAt.EqAt.same _
  |bl b=>cases rx;exact SeqAt.EqAt.none_bool b
  |int b=>obtain⟨t,rfl⟩:=rx;exact SeqAt.EqAt.none_int b t
  |str b=>obtain⟨t,rfl⟩:=rx;exact SeqAt.EqAt.none_str b t
  |_=>exact absurd (show false=true from fx) Az
 |bl a=>
  cases ry;cases x with
  |non=>cases rx;exact SeqAt.EqAt.bool_none a
  |bl b=>cases rx;exact SeqAt.EqAt.bool_bool a b
  |int b=>obtain⟨t,rfl⟩:=rx;exact SeqAt.EqAt.bool_int a b t
  |str b=>obtain⟨t,rfl⟩:=rx;exact SeqAt.EqAt.bool_str a b t
  |_=>exact absurd (show false=true from fx) Az
 |int a=>
  obtain⟨t',rfl⟩:=ry;cases x with
  |non=>cases rx;exact SeqAt.EqAt.int_none a t'
  |bl b=>cases rx;exact SeqAt.EqAt.int_bool a t' b
  |int b=>obtain⟨t,rfl⟩:=rx;exact SeqAt.EqAt.int_int a t' b t
  |str b=>obtain⟨t,rfl⟩:=rx;exact SeqAt.EqAt.int_str a t' b t
  |_=>exact absurd (show false=true from fx) Az
 |str a=>
  obtain⟨t',rfl⟩:=ry;cases x with
  |non=>cases rx;exact SeqAt.EqAt.str_none a t'
  |bl b=>cases rx;exact SeqAt.EqAt.str_bool a t' b
  |int b=>obtain⟨t,rfl⟩:=rx;exact SeqAt.EqAt.str_int a t' b t
  |str b=>obtain⟨t,rfl⟩:=rx;exact SeqAt.EqAt.str_str a t' b t
  |_=>exact absurd (show false=true from fx) Az
 |_=>exact absurd (show false=true from fy) Az
def uc(x:V)(u:Value):Bool:=match u with
 |.none=>lU .non x
 |.bool b=>lU (.bl b) x
 |.int i _=>lU (.int i) x
 |.str z _=>lU (.str z) x
 |_=>false
theorem aam{x y:V}(r:zo y u)(f:aI y=true):uc x u=lU y x:=by
 cases y with
 |non=>cases r;rfl
 |bl b=>cases r;rfl
 |int i=>obtain⟨t,rfl⟩:=r;rfl
 |str z=>obtain⟨t,rfl⟩:=r;rfl
 |_=>exact absurd (show false=true from f) Az
theorem fI{x:V}:∀{xs:List V} {us:List Value},zk xs us->xs.all aI=true->us.any (uc x)=xs.any fun y=>lU y x
 |_,_,.nil,_=>rfl
 |y::xs,u::us,.cons r t,f=>by rw[DD,AR] at f;rw[B9,B9,aam r f.1,fI t f.2]
theorem dF{A:Around}{s:Shared}{x:V}{v:Value}(rx:zo x v)(fx:aI x=true):∀{xs:List V} {us:List Value},zk xs us->xs.all aI=true->∀u∈us,SeqAt.EqAt A s u v (uc x u)
 |_,_,.nil,_=>fun u hu=>by cases hu
 |y::xs,u::us,.cons r t,f=>fun u' hu=>by
  rw[DD,AR] at f;rcases Ar.mp hu with rfl | hu
  ·rw[aam r f.1];exact lg r rx f.1 fx
  ·exact dF rx fx t f.2 u' hu
def yz(x:V)(xs:List V):Bool:=xs.any fun y=>lU y x
def rIn(K:Af)(neg:Bool):R2:=fun x y H Q=>∃p xs,y=.ref p/\(wu K H p xs\/cL K H p xs)/\aI x=true/\xs.all aI=true/\Q (.bl (if neg then !yz x xs else yz x xs)) H
theorem wT:wn X (compareOp .In) (rIn X.K false):=by
 intro pins s σ H x y v u Q I rx ry h;obtain⟨p,xs,rfl,hq,fx,fs,q⟩:=h;cases ry;rcases hq with hq | hq
 ·obtain⟨its,r,pl,hz⟩:=I.list hq;refine SeqAt.in_listAt (uc x) pl.isList (fun w hw=>dF rx fx r fs w (by simpa using hw)) ⟨.bl _,H,I,rfl,?_⟩;rw[show its.toArray.any (uc x)=its.any (uc x) by simp,fI r fs];exact q
 ·obtain⟨its,r,pl,hz⟩:=I.tuple hq;refine SeqAt.in_tupleAt (uc x) pl (fun w hw=>dF rx fx r fs w (by simpa using hw)) ⟨.bl _,H,I,rfl,?_⟩;rw[show its.toArray.any (uc x)=its.any (uc x) by simp,fI r fs];exact q
theorem pU:wn X (compareOp .NotIn) (rIn X.K true):=by
 intro pins s σ H x y v u Q I rx ry h;obtain⟨p,xs,rfl,hq,fx,fs,q⟩:=h;cases ry;rcases hq with hq | hq
 ·obtain⟨its,r,pl,hz⟩:=I.list hq;refine SeqAt.notIn_listAt (uc x) pl.isList (fun w hw=>dF rx fx r fs w (by simpa using hw)) ⟨.bl _,H,I,rfl,?_⟩;rw[show its.toArray.any (uc x)=its.any (uc x) by simp,fI r fs];exact q
 ·obtain⟨its,r,pl,hz⟩:=I.tuple hq;refine SeqAt.notIn_tupleAt (uc x) pl (fun w hw=>dF rx fx r fs w (by simpa using hw)) ⟨.bl _,H,I,rfl,?_⟩;rw[show its.toArray.any (uc x)=its.any (uc x) by simp,fI r fs];exact q
theorem oG:x4 X (.builtin "len") (fun xs H Q=>∃p ys,xs=[.ref p]/\(wu X.K H p ys\/cL X.K H p ys)/\Q (.int ys.length) H):=by
 intro pins s σ H xs us Q I r h;obtain⟨p,ys,rfl,hq,q⟩:=h;obtain⟨u,rfl,rx⟩:=qY r;cases rx;have hn:=gM;rcases hq with hq | hq
 ·obtain⟨its,r',pl,hz⟩:=I.list hq;have hlen:=r'.length;exact Calls.call_len_list pl.isList (by simp only[Ao]<;>omega) ⟨.int ys.length,H,I.tok _,⟨s.toks+1,by rw[Ao,hlen]⟩,q⟩
 ·obtain⟨its,r',pl,hz⟩:=I.tuple hq;have hlen:=r'.length;exact len_tuple pl (by simp only[Ao]<;>omega) ⟨.int ys.length,H,I.tok _,⟨s.toks+1,by rw[Ao,hlen]⟩,q⟩
theorem oH:x4 X (.builtin "len") (fun xs H Q=>∃z,xs=[.str z]/\z.length≤sizeLine/\Q (.int z.length) H):=by intro pins s σ H xs us Q I r h;obtain⟨z,rfl,hz,q⟩:=h;obtain⟨u,rfl,t,rfl⟩:=qY r;have hn:=gM;exact len_str (by omega) ⟨.int z.length,H,I.tok _,⟨_,rfl⟩,q⟩
theorem pW:x4 X (.type "list") (fun xs H Q=>∃p ys,xs=[.ref p]/\(wu X.K H p ys\/cL X.K H p ys)/\∀l,H l=none->Q (.ref l) (upd H l (.lst ys))):=by
 intro pins s σ H xs us Q I r h;obtain⟨p,ys,rfl,hq,q⟩:=h;obtain⟨u,rfl,rx⟩:=qY r;cases rx;have xu:∀(its:List Value),zk ys its->ys.length≤sizeLine->∀(h':Heap) (c':Nat),(∀b o',s.heap.get? b=some o'->h'.get? b=some o')->
  h'.get? s.heap.objs.size=some { cls:=.type "list",dict:=none,data:=.seq its.toArray c',slots:=#[] }->EP X pins σ Q (.ref s.heap.objs.size) { s with heap:=h' }:=fun its r' hz h' c' kp e=>
  ⟨.ref s.heap.objs.size,_,I.laid (t':=s.toks) kp (Am _) (show xg X.prog X.w _ h' _ (.lst ys) from⟨hz,its,c',r',e⟩),rfl,q _ (I.hok.fresh (Am _))⟩
 rcases hq with hq | hq
 ·obtain⟨its,r',pl,hz⟩:=I.list hq;have hlen:=r'.length;obtain⟨o,ho,hc,n,hd⟩:=pl.isList;exact call_list_seq p (.inl rfl) ho hc hd (fun h' c' kp e=>xu its r' hz h' c' kp e) (by simp only[Ao]<;>omega)
 ·obtain⟨its,r',pl,hz⟩:=I.tuple hq;have hlen:=r'.length;obtain⟨o,ho,hc,n,hd⟩:=pl;exact call_list_seq p (.inr rfl) ho hc hd (fun h' c' kp e=>xu its r' hz h' c' kp e) (by simp only[Ao]<;>omega)
def tyV(K:Af)(T:String)(x:V)(H:Hp):Prop:=match x with
 |.str _=>T = "str"
 |.int _=>T = "int"
 |.ref p=>(T = "list" /\ ∃xs,wu K H p xs)\/(T = "tuple" /\ ∃o,K.lookup p=some o/\o.cls=.type "tuple" /\ o.dict=none)\/
  (T = "dict" /\ ((∃kvs,H p=some (.dK kvs))\/∃kvs,H p=some (.dT kvs)))\/(T = "set" /\ ∃S n,H p=some (.set S n))
 |_=>False
theorem zF{T:String}{x:V}{v:Value}(I:qw X pins σ H s)(r:zo x v)(ty:tyV X.K T x H):
 s.TypeIs v T/\∀a,v=.ref a->∃ob,s.heap.get? a=some ob/\ob.dict=none:=by
 cases x with
 |str z=>
  obtain⟨t,rfl⟩:=r;cases (show T = "str" from ty);exact⟨typeIs_str s z t,fun _ e=>nomatch e⟩
 |int i=>
  obtain⟨t,rfl⟩:=r;cases (show T = "int" from ty);exact⟨typeIs_int s i t,fun _ e=>nomatch e⟩
 |ref p=>
  cases r;rcases ty with⟨rfl,xs,hq⟩ | ⟨rfl,o,hk,hc,hd⟩ | ⟨rfl,hk⟩ | ⟨rfl,S,n,hk⟩
  ·obtain⟨its,_,pl,_⟩:=I.list hq;refine⟨pl.isList.typeIs,fun a e=>?_⟩;cases e;obtain⟨o,n,e,c,hd,_⟩:=pl;exact⟨o,e,hd⟩
  ·refine⟨⟨o,I.kIn p o hk,hc⟩,fun a e=>?_⟩;cases e;exact⟨o,I.kIn _ o hk,hd⟩
  ·have z:∃o,s.heap.get? p=some o/\o.ExactDict:=by
    rcases hk with⟨kvs,hk⟩ | ⟨kvs,hk⟩
    ·obtain⟨_,_,_,_,o,_,_,e,ex,_⟩:=I.hok p _ hk;exact⟨o,e,ex⟩
    ·obtain⟨_,_,_,_,o,_,_,e,ex,_⟩:=I.hok p _ hk;exact⟨o,e,ex⟩
   obtain⟨o,e,ex⟩:=z;refine⟨⟨o,e,ex.1⟩,fun a e2=>?_⟩;cases e2;exact⟨o,e,ex.2.1⟩
  ·obtain⟨o,_,_,_,e,ex,_⟩:=I.hok p _ hk;refine⟨⟨o,e,ex.1⟩,fun a e2=>?_⟩;cases e2;exact⟨o,e,ex.2.1⟩
 |_=>exact False.elim ty
def apl(K:Af)(T:String)(r:V->List V->Hp->VK->Prop)(to:TE):TE:=fun σ H Q=>to σ H fun x H1=>tyV K T x H1/\r x [] H1 Q
def tBM(K:Af)(T:String)(r:V->List V->Hp->VK->Prop)(to:TE)(t:TA):TE:=fun σ H Q=>to σ H fun x H1=>tyV K T x H1/\t σ H1 fun xs H2=>r x xs H2 Q
variable {to:TE}{t:TA}{T id:String}{r:V->List V->Hp->VK->Prop}
theorem ajk(pa:PlainAttrs T)(slot:Slot T name id)(hty:typeOf (.builtin id)=pure (.type "method_descriptor"))(hm:MtR X id r)(ho:PE X o to)
 (hbase:attributeBase o name X.env (eval o X.env)=eval o X.env:=by rfl) (hline:(apos.endLine==cpos.line)=true:=by rfl):PE X (.Call (.Attribute o name apos) [] [] cpos) (apl X.K T r to):=by
 intro pins s σ H Q I h;refine wpAny_Call_method0_late hbase hline (xt (ho pins s σ H _ I h) fun v s1 ⟨x,H1,I1,r1,ty,q1⟩=>?_);obtain⟨h1,h2⟩:=zF I1 r1 ty;exact⟨T,id,pa,slot,hty,h1,h2,Calls.callWith_builtin rfl (PySem.evalArgs_none (hm pins s1 σ H1 x [] v [] Q I1 r1 .nil q1))⟩
theorem aga(pa:PlainAttrs T)(slot:Slot T name id)(hty:typeOf (.builtin id)=pure (.type "method_descriptor"))(hm:MtR X id r)(ho:PE X o to)(ha:PA X (e::es) t)
 (hbase:attributeBase o name X.env (eval o X.env)=eval o X.env:=by rfl)
 (hfew:((backTo cpos (starEach (e::es) X.env)).all (fun x=>!x.1)&&(backToKw cpos (keywordEach [] X.env)).all (fun x=>x.1.isSome)
  && decide ((e::es).length+([]:List Keyword).length+(if ([]:List Keyword).isEmpty then 0 else 1)<30))=true:=by rfl)
 (hline:(apos.endLine==cpos.line)=true:=by rfl) (hs:Ed e es X:=by rfl) (hplain:Ee cpos es X:=by rfl):
 PE X (.Call (.Attribute o name apos) (e::es) [] cpos) (tBM X.K T r to t):=by
 intro pins s σ H Q I h;refine wpAny_Call_method_late hbase hfew hline rfl (xt (ho pins s σ H _ I h) fun v s1 ⟨x,H1,I1,r1,ty,q1⟩=>?_);obtain⟨h1,h2⟩:=zF I1 r1 ty;refine⟨T,id,pa,slot,hty,h1,h2,?_⟩;have hA:=ha cpos pins s1 σ H1 _ I1 q1;rw[hs] at hA ⊢;refine Calls.callWith_builtin (by show(false||(backTo cpos (starEach es X.env)).any (·.1))=false;rw[hplain]<;>rfl) (Calls.evalArgs_plain ?_);exact xt hA fun us s2 ⟨vs,H2,I2,r2,q2⟩=>hm pins s2 σ H2 x vs v us Q I2 r1 r2 q2
end
def lH(X:Cx)(id:String)(r:V->List V->Hp->VK->Prop):Prop:=
 ∀(pins:List (Addr×Obj)) (s:Shared) (σ:St) (H:Hp) (x:V) (xs:List V) (v:Value) (us:List Value) (Q:VK),qw X pins σ H s->zo x v->zk xs us->r x xs H Q->
  wpAny (model X.prog X.w) X.A (call (.builtin id) (v::us)) (EP X pins σ Q) X.xe s
theorem zk.one:∀{x:V} {us:List Value},zk [x] us->∃u,us=[u]/\zo x u
 |_,_,.cons r .nil=>⟨_,rfl,r⟩
theorem zk.two:∀{x y:V} {us:List Value},zk [x,y] us->∃u v,us=[u,v]/\zo x u/\zo y v
 |_,_,_,.cons r (.cons q .nil)=>⟨_,_,rfl,r,q⟩
theorem zk.zero:∀{us:List Value},zk [] us->us=[]
 |_,.nil=>rfl
theorem zk.dropLast(h:zk xs us):zk xs.dropLast us.dropLast:=by
 induction h with
 |nil=>exact .nil
 |cons r t ih=>
  cases t with|nil=>exact .nil|cons q t'=>exact .cons r ih
theorem zk.eraseIdx:∀{xs:List V} {us:List Value} (i:Nat),zk xs us->zk (xs.eraseIdx i) (us.eraseIdx i)
 |_,_,_,.nil=>.nil
 |_,_,0,.cons _ t=>t
 |_,_,i+1,.cons r t=>.cons r (zk.eraseIdx i t)
theorem u9(l:List α):l.eraseIdx (l.length - 1)=l.dropLast:=by
 induction l with
 |nil=>rfl
 |cons a r ih=>
  cases r with
  |nil=>rfl
  |cons b r=>
   have e:(a::b::r).length - 1=((b::r).length - 1)+1:=by have h1:(a::b::r).length=r.length+2:=rfl;have h2:(b::r).length=r.length+1:=rfl;omega
   rw[e,Ci,ih]
   all_goals rfl
theorem nR{α:Type}:∀(l:List α) (i:Nat),(l.eraseIdx i).length≤l.length
 |[],_=>Am _
 |_::_,0=>Cn _
 |_::r,i+1=>Nat.succ_le_succ (nR r i)
section
variable {b:Addr}{ys:List V}
theorem qw.lset{its':List Value}{f:Array Value->Array Value}(I:qw X pins σ H s)(hH:H l=some (.lst xs))
 (e:s.heap.get? l=some { cls:=.type "list",data:=.seq its.toArray n }) (hf:f its.toArray=its'.toArray) (hv:zk ys its') (hz:ys.length≤sizeLine) (ht:0<t':=by walk_at "t"):
 qw X pins σ (upd H l (.lst ys)) { s with heap:=s.heap.update l (Obj.mapSeq f),toks:=t' }:=by
 have q:=PySem.IsL.update e f;rw[hf] at q;refine I.write (x:=l) (e:=l) (by rw[hH];exact trivial) (.inl rfl) (fun b' u hb hu=>(Heap.get?_update_other s.heap (Obj.mapSeq f) (AH hb)).trans hu) ⟨_,q⟩ ?_;exact⟨hz,its',_,hv,q⟩
theorem qw.lnew(I:qw X pins σ H s)(hv:zk ys its)(hz:ys.length≤sizeLine)(ht:0<t':=by walk_at "t"):
 qw X pins σ (upd H s.heap.objs.size (.lst ys)) { s with heap:=s.heap.push { cls:=.type "list",data:=.seq its.toArray },toks:=t' }:=
 I.laid (fun _ _ q=>Heap.get?_push_of_some _ q) (Am _) ⟨hz,its,0,hv,Heap.get?_push_size _ rfl⟩
theorem qw.fresh(I:qw X pins σ H s):H s.heap.objs.size=none:=I.hok.fresh (Am _)
theorem qw.lstM(I:qw X pins σ H s)(hH:H l=some (.lst xs)):xs.length≤sizeLine/\∃(its:List Value) (n:Nat),zk xs its/\xs.length=its.length/\s.heap.get? l=some { cls:=.type "list",data:=.seq its.toArray n }:=by obtain⟨z,its,n,r,e⟩:=I.hok l _ hH;exact⟨z,its,n,r,r.length,e⟩
theorem abe(h:n≤sizeLine):Builtin.List.listTooLong n=false:=by unfold Builtin.List.listTooLong;exact AA (by omega)
end
section
def af7:V->List V->Hp->VK->Prop:=fun x vs H Q=>∃l xs y,x=.ref l/\vs=[y]/\H l=some (.lst xs)/\xs.length<sizeLine/\Q .non (upd H l (.lst (xs++[y])))
theorem yN:lH X "list.append" af7:=by intro pins s σ H x vs v us Q I rx rv h;obtain⟨l,xs,y,rfl,rfl,hH,hz,q⟩:=h;cases rx;obtain⟨u,rfl,ru⟩:=rv.one;obtain⟨z,its,n,r,hl,e⟩:=I.lstM hH;refine call_meets F.slot_list_append ⟨_,e,rfl⟩ F.entry_list_append (F.args_list_append_2 _ _) (PySem.list_append l its.toArray n u (by rw[Ao];omega)) ⟨e,?_⟩;refine⟨.non,_,I.lset (its':=its++[u]) hH e (by simp) (r.append (.cons ru .nil)) ?_,rfl,q⟩;rw[Ac,Bp];omega
def aft:V->List V->Hp->VK->Prop:=fun x vs H Q=>∃l b xs zs,x=.ref l/\vs=[.ref b]/\H l=some (.lst xs)/\H b=some (.lst zs)/\xs.length+zs.length≤sizeLine/\Q .non (upd H l (.lst (xs++zs)))
theorem yA:lH X "list.extend" aft:=by
 intro pins s σ H x vs v us Q I rx rv h;obtain⟨l,b,xs,zs,rfl,rfl,hH,hB,hz,q⟩:=h;cases rx;obtain⟨u,rfl,ru⟩:=rv.one;cases ru;obtain⟨z,its,n,r,hl,e⟩:=I.lstM hH;obtain⟨z2,its2,n2,r2,hl2,e2⟩:=I.lstM hB;have hsz:its.toArray.size+its2.toArray.size≤sizeLine:=by rw[Ao,Ao];omega
 have hlong:¬(!its.toArray.isEmpty&&Builtin.List.listTooLong (its.toArray.size+its2.toArray.size))=true:=by rw[abe hsz,DW];exact Az
 refine call_meets F.slot_list_extend ⟨_,e,rfl⟩ F.entry_list_extend (F.args_list_extend_2 _ _)
  (AutoSeq1.list_extend_list_list_0 l its.toArray n b its2.toArray n2 hlong (by rw[Ao];omega) (by omega)) ⟨e,e2,?_⟩
 refine⟨.non,_,I.lset (its':=its++its2) hH e (by simp) (r.append r2) ?_,rfl,q⟩;rw[Ac];omega
def aoj:V->List V->Hp->VK->Prop:=fun x vs H Q=>∃l xs y,x=.ref l/\vs=[]/\H l=some (.lst xs)/\xs[xs.length - 1]?=some y/\Q y (upd H l (.lst xs.dropLast))
theorem aho:lH X "list.pop" aoj:=by
 intro pins s σ H x vs v us Q I rx rv h;obtain⟨l,xs,y,rfl,rfl,hH,hy,q⟩:=h;cases rx;have hus:=rv.zero;subst hus;obtain⟨z,its,n,r,hl,e⟩:=I.lstM hH;obtain⟨u,hu,ru⟩:=r.get hy;have hy':its.toArray[its.toArray.size - 1]?=some u:=by show its.toArray[its.length - 1]?=some u;rw[<-A5,<-hl];exact hu
 refine call_meets F.slot_list_pop ⟨_,e,rfl⟩ F.entry_list_pop (F.args_list_pop_1 _) (MeetsSeq.list_pop_last l its.toArray n u hy' (by rw[Ao];omega)) ⟨e,?_⟩;refine⟨y,_,I.lset (its':=its.dropLast) hH e ?_ r.dropLast ?_,ru,q⟩
 ·show its.toArray.eraseIdxIfInBounds (its.toArray.size - 1)=its.dropLast.toArray;rw[Ao,Dd,u9]
 ·rw[List.length_dropLast];omega
def ajl:V->List V->Hp->VK->Prop:=fun x vs H Q=>∃l xs i k y,x=.ref l/\vs=[.int i]/\H l=some (.lst xs) /\ -(2 ^ 63)≤i/\i<2 ^ 63/\seqIndex? i xs.length=some k/\xs[k]?=some y/\Q y (upd H l (.lst (xs.eraseIdx k)))
theorem abv:lH X "list.pop" ajl:=by
 intro pins s σ H x vs v us Q I rx rv h;obtain⟨l,xs,i,k,y,rfl,rfl,hH,h1,h2,hk,hy,q⟩:=h;cases rx;obtain⟨u,rfl,ru⟩:=rv.one;obtain⟨t,rfl⟩:=ru;obtain⟨z,its,n,r,hl,e⟩:=I.lstM hH;obtain⟨w,hw,rw'⟩:=r.get hy;refine call_meets F.slot_list_pop ⟨_,e,rfl⟩ F.entry_list_pop (F.args_list_pop_2 _ _)
  (MeetsSeq.list_pop_at l its.toArray n i t k w (fitsIndex_both h1 h2) (by rw[Ao,<-hl];exact hk) (by rw[<-A5];exact hw) (by rw[Ao];omega)) ⟨e,?_⟩
 refine⟨y,_,I.lset (its':=its.eraseIdx k) hH e ?_ (r.eraseIdx k) ?_,rw',q⟩
 ·show its.toArray.eraseIdxIfInBounds k=(its.eraseIdx k).toArray;rw[Dd]
 ·have:=nR xs k;omega
def apv:R2:=fun x y H Q=>∃l b xs zs,x=.ref l/\y=.ref b/\H l=some (.lst xs)/\H b=some (.lst zs)/\xs.length+zs.length≤sizeLine/\∀p,H p=none->Q (.ref p) (upd H p (.lst (xs++zs)))
theorem aig:wn X (binaryOp .Add) apv:=by
 intro pins s σ H x y v u Q I rx ry h;obtain⟨l,b,xs,zs,rfl,rfl,hH,hB,hz,q⟩:=h;cases rx;cases ry;obtain⟨z,its,n,r,hl,e⟩:=I.lstM hH;obtain⟨z2,its2,n2,r2,hl2,e2⟩:=I.lstM hB;refine PySem.P.add_list e e2 ?_ (by rw[Ao,Ao];omega);have ea:its.toArray++its2.toArray=(its++its2).toArray:=by simp
 rw[ea];exact⟨.ref _,_,I.lnew (t':=s.toks) (r.append r2) (by rw[Ac];omega),rfl,q _ I.fresh⟩
end
section
variable {w:World} 
set_option maxRecDepth 100000 in
end
section
end
end L2
namespace Att
open PySem PySem.W PySem.Calls PyProof.Rows
theorem i5{P:Params} :∀(ns:List Int) (vs:List Value),WellAll P h vs (ns.map WData.int)->IntsAre vs ns:=by
 intro ns
 induction ns with
 |nil=>
  intro vs w;rw[C1] at w;cases w;exact .nil
 |cons n ns ih=>
  intro vs w;rw[AG] at w;cases w with
  |cons a b=>
   cases a;exact .cons _ _ (ih _ b)
theorem yT{l:OpenLaw}(hn:l.most=some n){P:Params}{args:List WData}{vals:List Value}
 (hpre:l.row.toRowW.claim.pre args=true) (hwl:WellAll P h vals args):
 ∃a vs ns,vals=[Value.ref a]/\args=[WData.list (ns.map WData.int)]/\h.get? a=some { cls:=.type "list",data:=.seq vs.toArray }/\IntsAre vs ns/\ns.length≤n:=by
 have hsh:WShape.hasAll [] args [.list .int]=true:=(pre_splitW hpre).1;have hc:l.pre.holds [] { args:=args }=true:=(pre_splitW hpre).2;obtain⟨d,r,rfl,h1,h2⟩:=hasAllW_cons hsh;obtain rfl:=hasAllW_nil h2;obtain⟨xs,rfl,h3⟩:=hasW_list h1;obtain⟨ns,rfl⟩:=items_int h3;have hlen:ns.length≤n:=by
  unfold OpenLaw.pre at hc;have h4:(WTm.not (.lt (.lit (.int (n:Int))) (.len (.arg 0)))).holds [] { args:=[.list (ns.map .int)] }=true:=by have h4:=(holds_andW hc).1;rw[hn] at h4;exact h4
  have h5:=condW_of h4 (w_not (w_lt w_lit (w_len_list (w_arg rfl))));rw[Ae] at h5;refine Nat.le_of_not_lt fun q=>?_;have q':(n:Int)<((ns.length:Nat):Int):=by omega
  first
   |(rw[AB q'] at h5;exact absurd h5 (by decide))
   |(simp at h5;omega)
 cases hwl with
 |cons w1 w2=>
  cases w2;cases w1 with|list ho hall=>exact⟨_,_,ns,rfl,rfl,ho,i5 ns _ hall,hlen⟩
theorem y7(l:OpenLaw)(args:List WData):l.row.toRowW.claim.post args (.bool true) args=true:=
 postW_of (r:=l.row.toRowW) (X:=(true==true))
  (show WShape.has [] (.bool true) .bool=true by first | rfl | decide | simp[WShape.has,WShape.arms,WShape.armsAll])
  (show(WTm.eq .res (.lit (.bool true))).value [] { args:=args,res:=some (.bool true),after:=args }=some (.bool (true==true)) from w_eq_bool (w_res rfl) w_lit) rfl
theorem attach_callZ{l:OpenLaw}{q:Program}{loose:List Str}{XP:(Str->Option Value)->Heap->Prop}{as0:List Addr}{N t:Nat}{K:Params->Frag}{d:DefRec}
 (hn:l.most=some n) (hdf:d.params.defaults=[]) (ek:∀P,as0=(K P).map (·.1)) (htk:0<t)
 (call:∀(w:World) (s₀ s₁:Shared) (mg mb:Str->Option Value) (fa:Addr) (o:Obj) (pm cd doc:Value) (a:Addr) (vs:List Value) (ns:List Int),
  Ground q loose [] XP w s₀ mg mb s₁.heap->(K w.params).In s₁.heap->0<s₁.toks->
  s₁.heap.get? fa=some o->o.data=.func (docDef d.name d.params d.body d.scope pm cd doc)->s₁.heap.CodeRec cd d.name->mg d.name=some (.ref fa)->
  s₁.heap.get? a=some { cls:=.type "list",data:=.seq vs.toArray }->IntsAre vs ns->ns.length≤n->s₁.gens=#[]->
  codeAny (model l.prog w) callerA (.call (.ref fa) ⟨[.ref a],[]⟩) (fun r s'=>r=.ok (.ret (.bool true))/\OldK s₁.heap s'.heap/\s'.os=s₁.os/\AllBare s'.gens) s₁):
 WalkX q loose XP (PySem.W.X.obsZ as0) (PySem.W.X.valZ K N t) l.row.toRowW d [] (fun f vs=>PySem.call f vs):=by
 intro w s₀ s₁ mg mb G Y fa o pm cd doc dV kV ho hd hcd hD hmg hg args vals as L hpre hlay hrd hwl hlo;obtain rfl:dV=.none:=Dflts.none hD hdf;obtain rfl:kV=.none:=Dflts.noKw hD;obtain⟨a,vs,ns,rfl,rfl,hobj,hints,hlen⟩:=yT hn hpre hwl;obtain⟨_,zi,_,zt⟩:=X.z_facts ek Y;have eP:∀ns:List Int,ofPy (PyData.list (ns.map PyData.int))=WData.list (ns.map WData.int):=fun ns=>by
  simp only[ofPy];congr 1
  induction ns with|nil=>simp[ofPys]|cons n r ih=>simp only[AG,ofPys,ofPy,ih]
 rw[<-eP] at L;have KX:=InK.keeps w s₀.heap s₁.heap zi L.keeps;have tk1:0<s₁.toks:=AO htk (X.script_toks L zt);refine enter_call (codeAny_mono (call w s₀ s₁ mg mb fa o pm cd doc a vs ns G KX tk1 ho (fd_plain hd) hcd hmg hobj hints hlen hg) fun r s' hq=>?_);obtain⟨rfl,h2,h3,h4⟩:=hq;exact⟨.inl ⟨.bool true,.bool true,[],rfl,fun _=>rfl,.bool true,y7 l _,fun _=>⟨List.Pairwise.nil,fun _ hm=>(nomatch hm)⟩⟩,h2,h3,h4⟩
section
variable {w:World}{K:Frag}
end
end Att
namespace L2
open PySem PySem.Spec PyProof.Rows
theorem mX:∀{vs:List Value} {ns:List Int},IntsAre vs ns->zk (ns.map V.int) vs
 |_,_,.nil=>.nil
 |_,_,.cons n t h=>.cons ⟨t,rfl⟩ (mX h)
def x9(s:Stmt):Arguments:=match s with
 |.FunctionDef _ a _ _ _ _ _ _ _ _=>a
 |_=>{ posonlyargs:=[],args:=[],vararg:=none,kwonlyargs:=[],kw_defaults:=[],kwarg:=none,defaults:=[] }
def je(s:Stmt):List Stmt:=match s with
 |.FunctionDef _ _ b _ _ _ _ _ _ _=>b
 |_=>[]
def qr(s:Stmt):Scope:=match s with
 |.FunctionDef _ _ _ _ _ _ sc _ _ _=>sc
 |_=>{ kind:=.function,names:=[],isGenerator:=false,isCoroutine:=false }
abbrev CX0:yb:=fun _ _ _ _ _ _=>False
abbrev E0:XK:=fun _ _ _=>False
theorem zV :gc CX0 X E0:=fun _ _ _ _ _ _ _ h=>h.elim
structure zE(K:Af)(x qual:Str)(st:Stmt)(f:Addr)(fd:FuncData):Prop where
 ex:∃(oc:Value) (od:Option Addr) (kV doc pm:Value) (an:Option Addr) (cdv ct:Value) (osl:Array (Option Value)),
  fd=PySem.W.fnOf x qual (x9 st) (je st) (qr st) .none kV doc pm an cdv ct/\K.lookup f=some ⟨oc,od,.func fd,osl⟩/\PySem.W.codeIn K cdv qual=true
 kp:PySem.W.keepIn K (.ref f)=true
section
variable {P:Program}{w:World}{K:Af} 
theorem zE.ok{N:List Str}{k:Nat}{sp:Sp}(F:zE K x qual st f fd)(S:aN N ps (qr st))(len:∀vs H Q E,sp vs H Q E->vs.length=ps.length)
 (hbody:∀(cdv:Value) (A:Around) (outer:List Env) (s:Shared) (H:Hp) (vs:List V) (Q:VK) (E:XK),vm k (A.deeper (envOfC qual (qr st) s.heap.objs.size f cdv))->sp vs H Q E->
  ∃t,jP (iZ CX0 P w K mg base N qual (qr st) f cdv A outer s H E).nox (je st) t/\t { nx:=fun _ H'=>Q .non H',rt:=Q } (start N vs) H):a6 P w K mg base CX0 (k+1) f fd ps sp:=by
 obtain⟨oc,od,kV,doc,pm,an,cdv,ct,osl,rfl,lk,hcd⟩:=F.ex;refine agf lk hcd S len fun A outer s H vs Q E hr hsp=>?_;obtain⟨t,h,q⟩:=hbody cdv A outer s H vs Q E hr hsp;exact⟨t,h.nox,q⟩
theorem abo{kV ct:Value}(l:K.lookup f=some ⟨oc,od,.func (PySem.W.fnOf x qual (x9 st) (je st) (qr st) .none kV doc pm an cdv ct),osl⟩)
 (c:PySem.W.codeIn K cdv qual=true) (k:PySem.W.keepIn K (.ref f)=true):zE K x qual st f (PySem.W.fnOf x qual (x9 st) (je st) (qr st) .none kV doc pm an cdv ct):=⟨⟨oc,od,kV,doc,pm,an,cdv,ct,osl,rfl,l,c⟩,k⟩
end
theorem mY(h:n≤1000):n<sizeLine:=Bf h (by decide)
section
theorem pv(i:Nat)(hN:X.N[i]?=some x:=by rfl)(hv:Vis X.env.scope x:=by first | exact Or.inl rfl | exact Or.inr (Or.inl rfl) | exact Or.inr (Or.inr rfl))(hd:Ef x:=by decide)
 (hcd:Eg x:=by decide):PE X (.Name x pos) (ahi i):=ajs hN hv hd hcd
end
section
variable [DecidableEq κ]
end
end L2
set_option maxHeartbeats 8000000
theorem xC{a b c:Nat}(h:a<b:=by assumption)(k:b≤c:=by assumption):a<c:=AO h k
theorem hX{a b c:Nat}(h:a≤b:=by assumption)(k:b<c:=by assumption):a<c:=Bf h k
theorem aix{a b c:Nat}(h:a≤b:=by assumption)(k:b≤c:=by assumption):a≤c:=AL h k
theorem hG{a b c:Nat}(h:a<b:=by assumption)(k:b<c:=by assumption):a<c:=C2 h k
theorem i0{a b c:Nat}(h:a≤b:=by assumption)(k:b≤c:=by decide):a≤c:=AL h k
theorem uH{a b:Nat}(h:a≤b:=by assumption):a<b+1:=Nat.lt_succ_of_le h
theorem adf{a b:Nat}(h:a≤b:=by assumption):a≤b+1:=C3 h
theorem gB{a b:Nat}(h:a<b:=by assumption):a≤b:=BU h
theorem alo{a b:Nat}(h:a<b:=by assumption):a≠b:=A3 h
theorem ai8{a b:Nat}(h:b<a:=by assumption):a≠b:=C0 h
theorem aaj{a:Nat}(h:a≠0:=by assumption):0<a:=Nat.pos_of_ne_zero h
theorem ahy{a b c:Nat}(h:a<b:=by assumption)(k:b≤c:=by assumption):a≤c:=AL (BU h) k
theorem am6{a b c:Nat}(h:a<b:=by assumption):a<b+c:=AO h (A4 _ _)
theorem o8{a b:Nat}(h:a=b:=by assumption):a≤b:=DM h
theorem yr{a b:Nat}(h:¬a<b:=by assumption):b≤a:=Nat.le_of_not_lt h
theorem akz{a b:Nat}(h:¬b≤a:=by assumption):a<b:=Nat.lt_of_not_le h
theorem am2{a b:Nat}(h:a<b+1:=by assumption):a≤b:=Nat.le_of_lt_succ h
theorem alj{a b c:Nat}(h:a≤b:=by assumption)(k:c≤d:=by assumption):a+c≤b+d:=Nat.add_le_add h k
theorem pS{a b:Nat}(h:0<a:=by assumption)(k:0<b:=by decide):a - b<a:=Nat.sub_lt h k
theorem amy{a b c:Nat}(h:a≤c:=by assumption):a - b≤c:=AL (Ec _ _) h
theorem mJ{a b c:Nat}(h:a<c:=by assumption):a - b<c:=Bf (Ec _ _) h
theorem xQ{a b:Nat}(h:a≤b:=by assumption)(k:a≠b:=by assumption):a<b:=Nat.lt_of_le_of_ne h k
namespace L2
open PySem PySem.Spec PyProof.Rows
section
def ao1:R2:=fun x y H Q=>match x,y with
 |.int i,.int j=>Q (.int (i+j)) H
 |.str a,.str b=>a.length+b.length≤sizeLine/\Q (.str (a++b)) H
 |.ref l,.ref b=>∃xs zs,H l=some (.lst xs)/\H b=some (.lst zs)/\xs.length+zs.length≤sizeLine/\∀p,H p=none->Q (.ref p) (upd H p (.lst (xs++zs)))
 |_,_=>False
theorem afa:wn X (binaryOp .Add) ao1:=by
 intro pins s σ H x y v u Q I rx ry h;cases x<;>cases y<;>first
  |exact False.elim h
  |exact ai5 pins s σ H _ _ v u Q I rx ry ⟨_,_,rfl,rfl,h⟩
  |exact uR pins s σ H _ _ v u Q I rx ry ⟨_,_,rfl,rfl,h.1,h.2⟩
  |(obtain⟨xs,zs,h1,h2,h3,h4⟩:=h;exact aig pins s σ H _ _ v u Q I rx ry ⟨_,_,xs,zs,rfl,rfl,h1,h2,h3,h4⟩)
def KD(K:Af)(P:Program)(w:World)(a:Addr)(kvs:List (jg×V)):Prop:=
 (a==sysModules)=false/\kvs.length≤sizeLine/\∀h:Heap,K.In h->∃vs,KV kvs vs/\h.DictOf (xm P w) a vs
def uIx(K:Af)(P:Program)(w:World):R2:=fun x y H Q=>match x,y with
 |.str z,.int i=>z.length≤sizeLine/\∃c,dg z.cps.toList i=some c/\Q (.str ⟨#[c]⟩) H
 |.ref p,.int i=>∃xs v,(wu K H p xs\/cL K H p xs)/\dg xs i=some v/\Q v H
 |.ref p,.str k=>∃kvs v,(Rd H p (.dK kvs)\/KD K P w p kvs)/\eO kvs (Sum.inr k)=some v/\Q v H
 |_,_=>False
theorem aac{slice:Expr}{a:Addr}{vs:List (jg×Value)}{k:jg}{w':Value}{Q:VK}(I:qw X pins σ H s)(dd:s.heap.DictOf (xm X.prog X.w) a vs)(hk:lL k u=true)
 (hw:valueAt vs k=some w') (r:zo v w') (q:Q v H) (hs:subscripted slice false (.ref a) u=operate [.ref a,u] (getItem (.ref a) u)):wpAny (model X.prog X.w) X.A (subscriptTail value slice (.ref a) u) (EP X pins σ Q) X.xe s:=
 tail_any dd.typeIs Dw.lookup (wpAny_getItem_of hk dd.mapOf hw ⟨v,H,I.tok _,r,q⟩) hs
theorem aoz:zI X (uIx X.K X.prog X.w):=by
 intro value slice pins s σ H x y v u Q I rx ry q hs;cases x with
 |str z=>
  cases y with
  |int i=>
   obtain⟨h1,c,h2,h3⟩:=q;exact aic value slice pins s σ H _ _ v u Q I rx ry ⟨z,i,c,rfl,rfl,h1,h2,h3⟩ hs
  |_=>exact q.elim
 |ref p=>
  cases y with
  |int i=>
   obtain⟨xs,w',h1,h2,h3⟩:=q;rcases h1 with h1 | h1
   ·exact af3 value slice pins s σ H _ _ v u Q I rx ry ⟨p,xs,i,w',rfl,rfl,h1,h2,h3⟩ hs
   ·exact ah6 value slice pins s σ H _ _ v u Q I rx ry ⟨p,xs,i,w',rfl,rfl,h1,h2,h3⟩ hs
  |str k=>
   obtain⟨kvs,w',h1,h2,h3⟩:=q;have ry':zo (kV (Sum.inr k)) u:=ry;cases (show v=Value.ref p from rx);rcases h1 with h1 | h1
   ·obtain⟨z,hd,vs,rel,dd⟩:=uw I.hok h1;obtain⟨w2,hw,rw'⟩:=EL (v:=w') (o:=valueAt vs (Sum.inr k)) (by rw[<-h2];exact rel.val _);exact aac I dd (m7 (P:=X.prog) (w:=X.w) ry') hw rw' h3 hs
   ·obtain⟨hd,z,dd⟩:=h1;obtain⟨vs,rel,dd⟩:=dd s.heap I.kIn;obtain⟨w2,hw,rw'⟩:=EL (v:=w') (o:=valueAt vs (Sum.inr k)) (by rw[<-h2];exact rel.val _);exact aac I dd (m7 (P:=X.prog) (w:=X.w) ry') hw rw' h3 hs
  |_=>exact q.elim
 |_=>cases y<;>exact q.elim
def aof(K:Af):List V->Hp->VK->Prop:=fun xs H Q=>match xs with
 |[.str z]=>z.length≤sizeLine/\Q (.int z.length) H
 |[.ref p]=>∃ys,(wu K H p ys\/cL K H p ys)/\Q (.int ys.length) H
 |_=>False
theorem xZ:x4 X (.builtin "len") (aof X.K):=by
 intro pins s σ H xs us Q I r h
 match xs,h with
 |[.str z],h=>exact oH pins s σ H _ us Q I r ⟨z,rfl,h.1,h.2⟩
 |[.ref p],h=>
  obtain⟨ys,h1,h2⟩:=h;exact oG pins s σ H _ us Q I r ⟨p,ys,rfl,h1,h2⟩
inductive Da where
 |s (v:V)
 |tup (xs:List Da)
 |lst (xs:List Da)
mutual
def Da.eq:Da->Da->Bool
 |.s v,.s w=>lU v w
 |.tup xs,.tup ys=>Da.eqs xs ys
 |.lst xs,.lst ys=>Da.eqs xs ys
 |_,_=>false
def Da.eqs:List Da->List Da->Bool
 |[],[]=>true
 |x::xs,y::ys=>Da.eq x y&&Da.eqs xs ys
 |_,_=>false
end
def vk(K:Af)(H:Hp):Nat->V->Da->Prop
 |0,v,d=>d=.s v/\aI v=true
 |n+1,v,d=>(d=.s v/\aI v=true)\/(∃a xs ds,v=.ref a/\d=.tup ds/\cL K H a xs/\Paired (vk K H n) xs ds)\/(∃a xs ds,v=.ref a/\d=.lst ds/\wu K H a xs/\Paired (vk K H n) xs ds)
theorem Da.eqs_range:∀(ds es:List Da),((List.range (min ds.length es.length)).all (fun j=>Da.eq (ds.getD j (.s .non)) (es.getD j (.s .non)))&&ds.length==es.length)=Da.eqs ds es
 |[],[]=>by simp[Da.eqs]
 |[],e::es=>by simp[Da.eqs]
 |d::ds,[]=>by simp[Da.eqs]
 |d::ds,e::es=>by
  have ih:=Da.eqs_range ds es;rw[Da.eqs,<-ih];have:min (d::ds).length (e::es).length=min ds.length es.length+1:=by simp only[AD];lia
  rw[this,List.range_succ_eq_map,DD,List.all_map];have h2:((d::ds).length==(e::es).length)=(ds.length==es.length):=by simp
  rw[h2,Bool.and_assoc];rfl
abbrev EG:=@Da.eqs_range
theorem Paired.at{α β:Type}{F:α->β->Prop}:∀{xs:List α} {ys:List β} {j:Nat} {x:α} {y:β},Paired F xs ys->xs[j]?=some x->ys[j]?=some y->F x y
 |_,_,_,_,_,.nil,h,_=>by simp at h
 |_,_,0,_,_,.cons r _,h1,h2=>by simp at h1 h2;subst h1 h2;exact r
 |_,_,j+1,_,_,.cons _ t,h1,h2=>Paired.at (j:=j) t (by simpa using h1) (by simpa using h2)
abbrev EJ:=@Paired.at
theorem fu:∀{v:V},aI v=true->lU v v=true
 |.non,_=>rfl
 |.bl _,_=>by simp[lU]
 |.int _,_=>by simp[lU]
 |.str _,_=>by simp[lU]
section
theorem j6{a:Addr}(h:aI (.ref a)=true):False:=by simp[aI] at h
theorem qw.notBoth(I:qw X pins σ H s){a:Addr}{ys:List V}(h:cL X.K H a xs)(h':wu X.K H a ys):False:=by
 obtain⟨its,_,⟨o,e,c,_⟩,_⟩:=I.tuple h;obtain⟨its',_,⟨o',n',e',c',_⟩,_⟩:=I.list h';rw[e] at e';cases e';rw[c] at c';injection c' with c'
 exact absurd c' (by decide)
theorem pH(I:qw X pins σ H s):∀(n:Nat) {m:Nat} {x:V} {d e:Da},vk X.K H n x d->vk X.K H m x e->Da.eq d e=true
 |0,m,x,d,e,h1,h2=>by
  obtain⟨rfl,f⟩:=h1;cases m with
  |zero=>obtain⟨rfl,_⟩:=h2;exact fu f
  |succ m=>
   rcases h2 with⟨rfl,_⟩ | ⟨a,xs,ds,rfl,_⟩ | ⟨a,xs,ds,rfl,_⟩
   ·exact fu f
   ·exact(j6 f).elim
   ·exact(j6 f).elim
 |n+1,m,x,d,e,h1,h2=>by
  have both:∀{xs:List V} {ds es:List Da} {m:Nat},Paired (vk X.K H n) xs ds->Paired (vk X.K H m) xs es->Da.eqs ds es=true:=by
   intro xs ds es m p
   induction p generalizing es with
   |nil=>intro q;cases q;rfl
   |cons r t ih=>
    intro q;cases q with|cons r' t'=>rw[Da.eqs,pH I n r r',ih t'];rfl
  rcases h1 with⟨rfl,f⟩ | ⟨a,xs,ds,rfl,rfl,hs,hp⟩ | ⟨a,xs,ds,rfl,rfl,hs,hp⟩
  ·cases m with
   |zero=>obtain⟨rfl,_⟩:=h2;exact fu f
   |succ m=>
    rcases h2 with⟨rfl,_⟩ | ⟨a,xs,ds,rfl,_⟩ | ⟨a,xs,ds,rfl,_⟩
    ·exact fu f
    ·exact(j6 f).elim
    ·exact(j6 f).elim
  ·cases m with
   |zero=>exact(j6 h2.2).elim
   |succ m=>
    rcases h2 with⟨_,f⟩ | ⟨a',ys,es,e1,rfl,hs',hp'⟩ | ⟨a',ys,es,e1,rfl,hs',hp'⟩
    ·exact(j6 f).elim
    ·cases e1;cases I.tuple_inj hs hs';exact both hp hp'
    ·cases e1;exact(I.notBoth hs hs').elim
  ·cases m with
   |zero=>exact(j6 h2.2).elim
   |succ m=>
    rcases h2 with⟨_,f⟩ | ⟨a',ys,es,e1,rfl,hs',hp'⟩ | ⟨a',ys,es,e1,rfl,hs',hp'⟩
    ·exact(j6 f).elim
    ·cases e1;exact(I.notBoth hs' hs).elim
    ·cases e1;cases I.list_inj hs hs';exact both hp hp'
theorem j9{a:Addr}{its:Array Value}(p:PlainL h a its):h.IsList a its:=let ⟨o,n,e,c,_,d⟩:=p;⟨o,e,c,n,d⟩
theorem fY{ys:List V}{ds es:List Da}(px:Paired (vk X.K H n) xs ds)(py:Paired (vk X.K H m) ys es)(vx:zk xs us)(vy:zk ys vs)
 (ih:∀{x y:V} {d e:Da} {u v:Value},vk X.K H n x d->vk X.K H m y e->zo x u->zo y v->SeqAt.EqAt A.in1 s u v (Da.eq d e)):
 ∀j (h1:j<us.toArray.size) (h2:j<vs.toArray.size),SeqAt.EqAt A.in1 s us.toArray[j] vs.toArray[j] (Da.eq (ds.getD j (.s .non)) (es.getD j (.s .non))):=by
 intro j h1 h2;have l1:=px.length;have l2:=py.length;have l3:=vx.length;have l4:=vy.length;rw[Ao] at h1 h2;have q1:xs[j]?=some xs[j]:=Aj (by lia);have q2:ys[j]?=some ys[j]:=Aj (by lia);have q3:ds[j]?=some ds[j]:=Aj (by lia);have q4:es[j]?=some es[j]:=Aj (by lia);have q5:us[j]?=some us[j]:=Aj (by lia);have q6:vs[j]?=some vs[j]:=Aj (by lia);rw[Bv,Bv,q3,q4];exact ih (EJ px q1 q3) (EJ py q2 q4) (EJ vx q1 q5) (EJ vy q2 q6)
theorem nW{a b:Addr}{ys:List V}{ds es:List Da}(I:qw X pins σ H s)(hu:A.units<cLine)(sx:cL X.K H a xs)(sy:cL X.K H b ys)(px:Paired (vk X.K H n) xs ds)(py:Paired (vk X.K H m) ys es)
 (ih:∀{x y:V} {d e:Da} {u v:Value},vk X.K H n x d->vk X.K H m y e->zo x u->zo y v->SeqAt.EqAt A.in1 s u v (Da.eq d e)):SeqAt.RcAt A s (.ref a) (.ref b) (Da.eqs ds es):=by
 obtain⟨us,vx,tx,_⟩:=I.tuple sx;obtain⟨vs,vy,ty,_⟩:=I.tuple sy;have q:=SeqAt.RcAt.tuples tx ty hu (fY px py vx vy ih);rw[Ao,Ao,<-vx.length,<-vy.length,px.length,py.length,EG] at q;exact q
theorem sJ{a b:Addr}{ys:List V}{ds es:List Da}(I:qw X pins σ H s)(hu:A.units<cLine)(sx:wu X.K H a xs)(sy:wu X.K H b ys)(px:Paired (vk X.K H n) xs ds)(py:Paired (vk X.K H m) ys es)
 (ih:∀{x y:V} {d e:Da} {u v:Value},vk X.K H n x d->vk X.K H m y e->zo x u->zo y v->SeqAt.EqAt A.in1 s u v (Da.eq d e)):SeqAt.RcAt A s (.ref a) (.ref b) (Da.eqs ds es):=by
 obtain⟨us,vx,tx,_⟩:=I.list sx;obtain⟨vs,vy,ty,_⟩:=I.list sy;by_cases hz:us.toArray.size=vs.toArray.size
 ·have q:=SeqAt.RcAt.lists (j9 tx) (j9 ty) hz hu (fY px py vx vy ih);have hz':ds.length=es.length:=by rw[<-px.length,<-py.length,vx.length,vy.length];simpa using hz
  have e:=EG ds es;rw[hz',Nat.min_self] at e;rw[<-hz'] at e;rw[Ao,<-vx.length,px.length] at q;simp only[beq_self_eq_true,DZ] at e;rw[e] at q;exact q
 ·have q:=SeqAt.RcAt.lists_lengths (j9 tx) (j9 ty) (by simpa using hz) hu;have hz':ds.length≠es.length:=by rw[<-px.length,<-py.length,vx.length,vy.length];intro z;exact hz (by simpa using z)
  have e:=EG ds es;have f:(ds.length==es.length)=false:=by simpa using hz'
  rw[f,DW] at e;rw[<-e];exact q
theorem kY(I:qw X pins σ H s):∀(n:Nat) {m:Nat} {A:Around} {x y:V} {d e:Da} {u v:Value},A.units+n<cLine->vk X.K H n x d->vk X.K H m y e->zo x u->zo y v->SeqAt.EqAt A s u v (Da.eq d e):=by
 have flatRef:∀{A:Around} {x:V} {u:Value} {b:Addr} {ys:List V},A.units<cLine->aI x=true->zo x u->(cL X.K H b ys\/wu X.K H b ys)->SeqAt.EqAt A s u (.ref b) false/\SeqAt.EqAt A s (.ref b) u false:=by
  intro A x u b ys hu f r h;have h':(∃its,s.heap.IsTuple b its)\/∃its,s.heap.IsList b its:=by
   rcases h with h | h
   ·obtain⟨its,_,t,_⟩:=I.tuple h;exact .inl ⟨_,t⟩
   ·obtain⟨its,_,t,_⟩:=I.list h;exact .inr ⟨_,j9 t⟩
  cases x with
  |non=>cases r;rcases h' with⟨_,t⟩ | ⟨_,t⟩;exact⟨.none_tuple t hu,.tuple_none t hu⟩;exact⟨.none_list t hu,.list_none t hu⟩
  |bl k=>cases r;rcases h' with⟨_,t⟩ | ⟨_,t⟩;exact⟨.bool_tuple k t hu,.tuple_bool k t hu⟩;exact⟨.bool_list k t hu,.list_bool k t hu⟩
  |int k=>obtain⟨tk,rfl⟩:=r;rcases h' with⟨_,t⟩ | ⟨_,t⟩;exact⟨.int_tuple k tk t hu,.tuple_int k tk t hu⟩;exact⟨.int_list k tk t hu,.list_int k tk t hu⟩
  |str k=>obtain⟨tk,rfl⟩:=r;rcases h' with⟨_,t⟩ | ⟨_,t⟩;exact⟨.str_tuple k tk t hu,.tuple_str k tk t hu⟩;exact⟨.str_list k tk t hu,.list_str k tk t hu⟩
  |_=>simp[aI] at f
 intro n
 induction n with
 |zero=>
  intro m A x y d e u v hu h1 h2 rx ry;obtain⟨rfl,f⟩:=h1;cases m with
  |zero=>obtain⟨rfl,f'⟩:=h2;exact lg rx ry f f'
  |succ m=>
   rcases h2 with⟨rfl,f'⟩ | ⟨b,ys,es,rfl,rfl,sy,py⟩ | ⟨b,ys,es,rfl,rfl,sy,py⟩
   ·exact lg rx ry f f'
   ·cases ry;exact(flatRef (by lia) f rx (.inl sy)).1
   ·cases ry;exact(flatRef (by lia) f rx (.inr sy)).1
 |succ n ih=>
  intro m A x y d e u v hu h1 h2 rx ry;have hin:A.in1.units+n<cLine:=by show A.units+1+n<cLine;lia
  rcases h1 with⟨rfl,f⟩ | ⟨a,xs,ds,rfl,rfl,sx,px⟩ | ⟨a,xs,ds,rfl,rfl,sx,px⟩
  ·cases m with
   |zero=>obtain⟨rfl,f'⟩:=h2;exact lg rx ry f f'
   |succ m=>
    rcases h2 with⟨rfl,f'⟩ | ⟨b,ys,es,rfl,rfl,sy,py⟩ | ⟨b,ys,es,rfl,rfl,sy,py⟩
    ·exact lg rx ry f f'
    ·cases ry;exact(flatRef (by lia) f rx (.inl sy)).1
    ·cases ry;exact(flatRef (by lia) f rx (.inr sy)).1
  ·cases rx;cases m with
   |zero=>obtain⟨rfl,f'⟩:=h2;exact(flatRef (by lia) f' ry (.inl sx)).2
   |succ m=>
    rcases h2 with⟨rfl,f'⟩ | ⟨b,ys,es,rfl,rfl,sy,py⟩ | ⟨b,ys,es,rfl,rfl,sy,py⟩
    ·exact(flatRef (by lia) f' ry (.inl sx)).2
    ·cases ry;by_cases hab:a=b
     ·subst hab;cases I.tuple_inj sx sy;have e:Da.eq (.tup ds) (.tup es)=true:=pH I (n+1) (m:=m+1) (x:=.ref a) (.inr (.inl ⟨a,xs,ds,rfl,rfl,sx,px⟩)) (.inr (.inl ⟨a,xs,es,rfl,rfl,sy,py⟩));rw[e];exact .same _
     ·exact .of_refs hab (nW I (by lia) sx sy px py fun h1 h2 r1 r2=>ih hin h1 h2 r1 r2)
    ·cases ry;obtain⟨us,vx,tx,_⟩:=I.tuple sx;obtain⟨vs,vy,ty,_⟩:=I.list sy;exact .tuple_list tx (j9 ty) (by lia)
  ·cases rx;cases m with
   |zero=>obtain⟨rfl,f'⟩:=h2;exact(flatRef (by lia) f' ry (.inr sx)).2
   |succ m=>
    rcases h2 with⟨rfl,f'⟩ | ⟨b,ys,es,rfl,rfl,sy,py⟩ | ⟨b,ys,es,rfl,rfl,sy,py⟩
    ·exact(flatRef (by lia) f' ry (.inr sx)).2
    ·cases ry;obtain⟨us,vx,tx,_⟩:=I.list sx;obtain⟨vs,vy,ty,_⟩:=I.tuple sy;exact .list_tuple (j9 tx) ty (by lia)
    ·cases ry;by_cases hab:a=b
     ·subst hab;cases I.list_inj sx sy;have e:Da.eq (.lst ds) (.lst es)=true:=pH I (n+1) (m:=m+1) (x:=.ref a) (.inr (.inr ⟨a,xs,ds,rfl,rfl,sx,px⟩)) (.inr (.inr ⟨a,xs,es,rfl,rfl,sy,py⟩));rw[e];exact .same _
     ·exact .of_refs hab (sJ I (by lia) sx sy px py fun h1 h2 r1 r2=>ih hin h1 h2 r1 r2)
end
def uEq(K:Af)(k:Nat):R2:=fun x y H Q=>match x,y with
 |.ref a,.ref b=>∃n m d e,n≤k/\vk K H n (.ref a) d/\vk K H m (.ref b) e/\Q (.bl (Da.eq d e)) H
 |x,y=>afy x y=true/\Q (.bl (decide (x=y))) H
theorem ak8{k:Nat}(hu:X.A.units+k<cLine):wn X (compareOp .Eq) (uEq X.K k):=by
 intro pins s σ H x y v u Q I rx ry h;cases x with
 |ref a=>
  cases y with
  |ref b=>
   obtain⟨n,m,d,e,hn,h1,h2,q⟩:=h;cases rx;cases ry;have xu:∀{k:Bool},k=Da.eq d e->SeqAt.RcAt X.A s (.ref a) (.ref b) k->wpAny (model X.prog X.w) X.A (compareOp .Eq (.ref a) (.ref b)) (EP X pins σ Q) X.xe s:=fun {k} e' r=>
    r X.prog X.w X.xe (EP X pins σ Q) (by rw[e'];exact⟨.bl _,H,I,rfl,q⟩)
   cases n with
   |zero=>exact(j6 h1.2).elim
   |succ n=>
    cases m with
    |zero=>exact(j6 h2.2).elim
    |succ m=>
     have hin:X.A.in1.units+n<cLine:=by show X.A.units+1+n<cLine;lia
     rcases h1 with⟨_,f⟩ | ⟨a',xs,ds,e1,rfl,sx,px⟩ | ⟨a',xs,ds,e1,rfl,sx,px⟩
     ·exact(j6 f).elim
     ·cases e1;rcases h2 with⟨_,f⟩ | ⟨b',ys,es,e2,rfl,sy,py⟩ | ⟨b',ys,es,e2,rfl,sy,py⟩
      ·exact(j6 f).elim
      ·cases e2;exact xu rfl (nW I (by lia) sx sy px py fun h1 h2 r1 r2=>kY I n hin h1 h2 r1 r2)
      ·cases e2;obtain⟨us,vx,tx,_⟩:=I.tuple sx;obtain⟨vs,vy,ty,_⟩:=I.list sy;exact xu rfl (.tuple_list tx (j9 ty) (by lia))
     ·cases e1;rcases h2 with⟨_,f⟩ | ⟨b',ys,es,e2,rfl,sy,py⟩ | ⟨b',ys,es,e2,rfl,sy,py⟩
      ·exact(j6 f).elim
      ·cases e2;obtain⟨us,vx,tx,_⟩:=I.list sx;obtain⟨vs,vy,ty,_⟩:=I.tuple sy;exact xu rfl (.list_tuple (j9 tx) ty (by lia))
      ·cases e2;exact xu rfl (sJ I (by lia) sx sy px py fun h1 h2 r1 r2=>kY I n hin h1 h2 r1 r2)
  |_=>exact agc pins s σ H _ _ v u Q I rx ry h
 |_=>cases y<;>exact agc pins s σ H _ _ v u Q I rx ry h
end
theorem an2{c:Addr}(hg:Gl X x)(hm:X.mg x=some (.ref c))(hd:Ef x:=by decide):PE X (.Name x pos) (tC (.ref c)):=af1 hg hm (v:=.ref c) rfl hd
theorem aa7{T:String}(hg:Gl X x)(hm:X.mg x=none)(hv:bootBuiltins x=some (.type T))(hn:x ≠ "__name__" := by decide)(hd:Ef x:=by decide):PE X (.Name x pos) (tC (.ty T)):=ag7 hg hm hv (v:=.ty T) rfl hn hd
structure zA(P:Program)(w:World)(K:Af)(mg:Str->Option Value)(base:Heap)(k:Nat)(x:Str)(ps:List Str)(sp:Sp):Prop where
 ex:∃f fd,a6 P w K mg base CX0 k f fd ps sp/\wg K fd ps []/\PySem.W.keepIn K (.ref f)=true/\mg x=some (.ref f)
theorem aok{k:Nat}{sp:Sp}{t:TA}(c:zA X.prog X.w X.K X.mg X.base k x ps sp)(hr:vm k X.A)(hg:Gl X x)(ha:PA X (e::es) t)(hdb:Ef x:=by decide)
 (he:Ed e es X:=by rfl) (hpl:Ee pos es X:=by rfl):PE X (.Call (.Name x p) (e::es) [] pos) (agu sp [] E0 t):=by
 obtain⟨f,fd,F,b,kp,m⟩:=c.ex;exact aej F hr hg m kp b .nil zV ha hdb he hpl
theorem zA.mono{P:Program}{w:World}{K:Af}{k:Nat}{sp:Sp}(c:zA P w K mg base j x ps sp)(h:j≤k):zA P w K mg base k x ps sp:=by obtain⟨f,fd,F,b,kp,m⟩:=c.ex;exact⟨f,fd,F.mono h,b,kp,m⟩
end L2
variable {ds:List L2.Da}
namespace L2
open PySem PySem.Spec PyProof.Rows
def jS(env:Env):List (Str×NameKind)->List (Str×Addr)->List (Str×Addr)
 |[],cs=>cs
 |(n,k)::r,cs=>jS env r (if k==.free then(n,(env.cells.lookup n).getD 0)::cs else cs)
def df(scope:Scope)(env:Env):List (Str×Addr):=jS env scope.names []
theorem qS{env:Env}:∀{names:List (Str×NameKind)} {cs:List (Str×Addr)} {p:Str×Addr},p∈jS env names cs->p∈cs\/((p.1,NameKind.free)∈names/\p.2=(env.cells.lookup p.1).getD 0)
 |[],_,_,h=>.inl h
 |(n,k)::r,cs,p,h=>by
  rcases qS (names:=r) h with q | ⟨q,e⟩
  ·by_cases hk:(k==NameKind.free)=true
   ·rw[As hk] at q;rcases Ar.mp q with rfl | q
    ·have:k=.free:=by simpa using hk
     exact .inr ⟨by rw[this];exact An,rfl⟩
    ·exact .inl q
   ·rw[Aq hk] at q;exact .inl q
  ·exact .inr ⟨Ah _ q,e⟩
theorem r9{env:Env}{x:Str}:∀{names:List (Str×NameKind)} {cs:List (Str×Addr)},((∃c,(x,c)∈cs)\/(x,NameKind.free)∈names)->∃c,(x,c)∈jS env names cs
 |[],_,.inl h=>h
 |[],_,.inr h=>by simp at h
 |(n,k)::r,cs,h=>by
  refine r9 (names:=r) ?_;rcases h with⟨c,h⟩ | h
  ·left;by_cases hk:(k==NameKind.free)=true
   ·rw[As hk];exact⟨c,Ah _ h⟩
   ·rw[Aq hk];exact⟨c,h⟩
  ·rcases Ar.mp h with e | h
   ·left;injection e with e1 e2
    subst e1;subst e2;exact⟨_,An⟩
   ·exact .inr h
theorem eM{x:Str}:∀{l:List (Str×Addr)} {c:Addr},(x,c)∈l->∃c',l.lookup x=some c'
 |(n,d)::r,c,h=>by
  rw[A9];cases hx:x==n with
  |true=>exact⟨d,rfl⟩
  |false=>
   rcases Ar.mp h with e | h
   ·injection e with e1 _;subst e1;simp at hx
   ·exact eM h
theorem i6(h:∀n,(n,NameKind.free)∈scope.names->∃c,env.cells.lookup n=some c):closureFor scope env=pure (df scope env):=by
 unfold closureFor df;have key:∀(names:List (Str×NameKind)) (cs:List (Str×Addr)),(∀n,(n,NameKind.free)∈names->∃c,env.cells.lookup n=some c)->
  (forIn names cs fun x (r:List (Str×Addr))=>(match x with | (name,kind)=>if kind==NameKind.free then do let a <-cellOf env name;pure (ForInStep.yield ((name,a)::r)) else pure (ForInStep.yield r):Sem (ForInStep (List (Str×Addr)))))=pure (jS env names cs):=by
  intro names
  induction names with
  |nil=>intro cs _;rfl
  |cons p r ih=>
   intro cs hf;obtain⟨n,k⟩:=p;rw[CN];cases hk:k==NameKind.free with
   |true=>
    have hk':k=.free:=by simpa using hk
    subst hk';obtain⟨c,hc⟩:=hf n An;have e:cellOf env n=pure c:=by unfold cellOf;rw[hc]
    simp only[beq_self_eq_true,if_true,e];have e2:jS env ((n,NameKind.free)::r) cs=jS env r ((n,c)::cs):=by show jS env r _=_;rw[hc];rfl
    rw[e2];exact ih ((n,c)::cs) fun m hm=>hf m (Ah _ hm)
   |false=>
    simp only[hk,BY,if_false];have e2:jS env ((n,k)::r) cs=jS env r cs:=by show jS env r (if (k==NameKind.free)=true then _ else _)=_;rw[hk];rfl
    rw[e2];exact ih cs fun m hm=>hf m (Ah _ hm)
 exact(BG (· >>= pure) (key scope.names [] h))
theorem wc{env:Env}{x:Str}:∀{names:List (Str×NameKind)},
 (names.map fun(n,k)=>if (k==NameKind.free&&env.scope.kind==.function&&env.kindOf n==some .cell) then(n,NameKind.cell) else(n,k)).lookup x
  = (names.lookup x).map fun k=>if (k==NameKind.free&&env.scope.kind==.function&&env.kindOf x==some .cell) then NameKind.cell else k
 |[]=>rfl
 |(n,k)::r=>by
  have ih:=@wc env x r;show List.lookup x ((if (k==NameKind.free&&env.scope.kind==.function&&env.kindOf n==some .cell)=true then(n,NameKind.cell) else(n,k))::_)=_;cases hx:x==n with
  |true=>
   have hx':x=n:=by simpa using hx
   subst hx';by_cases hc:(k==NameKind.free&&env.scope.kind==.function&&env.kindOf x==some .cell)=true
   ·rw[As hc];simp only[A9,beq_self_eq_true,Option.map_some];rw[As hc]
   ·rw[Aq hc];simp only[A9,beq_self_eq_true,Option.map_some];rw[Aq hc]
  |false=>
   by_cases hc:(k==NameKind.free&&env.scope.kind==.function&&env.kindOf n==some .cell)=true
   ·rw[As hc];simp only[A9,hx];exact ih
   ·rw[Aq hc];simp only[A9,hx];exact ih
def Cx.comp(X:Cx)(scope:Scope)(T:List Str)(C:Addr)(fp:List Addr)(s₀:Shared)(H₀:Hp):Cx:=
 { X with N:=X.N++T,s₀:=s₀,H₀:=H₀,env:=compEnvC scope (df scope X.env) C X.env,outer:=X.stack,ex:=fp,fn:=fun _=>false,xe:=fun _ _=>False }
structure jf(X:Cx)(scope:Scope):Prop where
 kind:scope.kind=.function
 nocell:∀y∈scope.names,y.2≠.cell
 names:∀y∈scope.names,y.2=.local->scope.names.lookup y.1=some .local
 free:∀n,scope.names.lookup n=some .free->X.env.kindOf n=some .cell\/X.env.kindOf n=some .free
 freeM:∀n,(n,NameKind.free)∈scope.names->X.env.kindOf n=some .cell\/X.env.kindOf n=some .free
 apart:∀x∈X.N,scope.names.lookup x≠some .local
section
theorem jf.clo(S:jf X scope)(I:qw X pins σ H s):closureFor scope X.env=pure (df scope X.env):=
 i6 fun n h=>I.ok.has n (S.freeM n h)
theorem jf.cl_old(S:jf X scope)(I:qw X pins σ H s){c:Addr}(h:(df scope X.env).lookup x=some c):X.env.cells.lookup x=some c:=by
 rcases qS (BD h) with q | ⟨q,e⟩
 ·simp at q
 ·obtain⟨d,hd⟩:=I.ok.has x (S.freeM x q);have e':c=(X.env.cells.lookup x).getD 0:=e;rw[hd] at e' ⊢;rw[e'];rfl
theorem jf.cl_has(_:jf X scope)(h:scope.names.lookup x=some .free):∃c,(df scope X.env).lookup x=some c:=by obtain⟨c,hc⟩:=r9 (env:=X.env) (names:=scope.names) (cs:=[]) (x:=x) (.inr (BD h));exact eM hc
theorem jf.kindOf(S:jf X scope)(h:(compEnvC scope (df scope X.env) C X.env).kindOf x=some .cell\/(compEnvC scope (df scope X.env) C X.env).kindOf x=some .free):scope.names.lookup x=some .free:=by
 have e:(compEnvC scope (df scope X.env) C X.env).kindOf x=(scope.names.lookup x).map fun k=>if (k==NameKind.free&&X.env.scope.kind==.function&&X.env.kindOf x==some .cell) then NameKind.cell else k:=wc
 rw[e] at h;cases hl:scope.names.lookup x with
 |none=>rw[hl] at h;rcases h with h | h<;>cases h
 |some k=>
  rw[hl] at h;cases k with|free=>rfl|cell=>exact absurd rfl (S.nocell _ (BD hl))|_=>rcases h with h | h<;>cases h
theorem jf.vis(S:jf X scope)(hx:x∈X.N)(h:Vis (compEnvC scope (df scope X.env) C X.env).scope x):scope.names.lookup x=some .free:=by
 rcases h with h | h | h
 ·exfalso;have e:(compEnvC scope (df scope X.env) C X.env).kindOf x=(scope.names.lookup x).map fun k=>if (k==NameKind.free&&X.env.scope.kind==.function&&X.env.kindOf x==some .cell) then NameKind.cell else k:=wc
  have h':(compEnvC scope (df scope X.env) C X.env).kindOf x=some .local:=h;rw[e] at h';cases hl:scope.names.lookup x with
  |none=>rw[hl] at h';cases h'
  |some k=>
   rw[hl] at h';have h':(if (k==NameKind.free&&X.env.scope.kind==.function&&X.env.kindOf x==some .cell)=true then NameKind.cell else k)=.local:=AV h';split at h'
   ·cases h'
   ·subst h';exact S.apart x hx hl
 ·exact S.kindOf (C:=C) (.inl h)
 ·exact S.kindOf (C:=C) (.inr h)
theorem jf.back(S:jf X scope)(h:scope.names.lookup x=some .free):(compEnvC scope (df scope X.env) C X.env).kindOf x=some .cell\/(compEnvC scope (df scope X.env) C X.env).kindOf x=some .free:=by
 have e:(compEnvC scope (df scope X.env) C X.env).kindOf x=(scope.names.lookup x).map fun k=>if (k==NameKind.free&&X.env.scope.kind==.function&&X.env.kindOf x==some .cell) then NameKind.cell else k:=wc
 rw[e,h];show some (if _ then _ else _)=_\/some (if _ then _ else _)=_;split
 ·exact .inl rfl
 ·exact .inr rfl
end
def PF(X:Cx)(ifs:List Expr)(t:TT):Prop:=
 ∀(pins:List (Addr×Obj)) (s:Shared) (σ:St) (H:Hp) (Q:Bool->Hp->Prop),qw X pins σ H s->t σ H Q->
  wpAny (model X.prog X.w) X.A (forIn ifs true fun c r=>if r=true then do let ok <-isTrue c X.env (eval c X.env);pure (ForInStep.yield ok) else pure (ForInStep.yield r)) (TP X pins σ Q) X.xe s
def aop:TT:=fun _ H Q=>Q true H
theorem ahw :PF X [] aop:=fun _ _ _ H _ I h=>Ai ⟨H,I,h⟩
theorem ahe{t:TT}(hc:PT X c t):PF X [c] t:=by intro pins s σ H Q I h;rw[CN];simp only[if_true];refine Aa (Aa (xt (hc pins s σ H Q I h) fun b s1 q=>Ai ?_));exact Ai q
theorem dh{w:World}{R:Result->Shared->Prop}{iter:Expr}{it acc:Value}(I:Nat->Shared->Prop)
 (turn:∀n s,I n s->wpAny (model prog w) A (pyNext it) (fun r s₁=>match r with
  |none=>R (.ok .next) s₁
  |some v=>wpAny (model prog w) A (letOwnedTupleGo target it v) (fun _ s₁=>wpAny (model prog w) A (assign target env v) (fun _ s₂=>
   wpAny (model prog w) A (forIn ifs true fun c r=>if r=true then do let ok <-isTrue c env (eval c env);pure (ForInStep.yield ok) else pure (ForInStep.yield r)) (fun ok s₃=>
    if ok=true then wpAny (model prog w) A (eval elt env) (fun x s₄=>
     wpAny (model prog w) A (call (.builtin "list.append") [acc,x]) (fun _ s₅=>∃m,m<n/\I m s₅) (fun _ _=>False) s₄) (fun _ _=>False) s₃
    else ∃m,m<n/\I m s₃) (fun _ _=>False) s₂) (fun _ _=>False) s₁) (fun _ _=>False) s₁) (fun _ _=>False) s)
 (n:Nat) (h:I n s):
 codeAny (model prog w) A (.compLoop (.ListComp elt [⟨target,iter,ifs,0⟩] scope pos) 0 it acc env) R s:=by
 refine codeAny_loop rfl I (fun n s hI=>?_) n h;show wpAny _ A ((compTurn (.ListComp elt [⟨target,iter,ifs,0⟩] scope pos) 0 it acc env).onRaise (fun x=>do noteFrame x env;theTreesLotGoes x)) _ _ s;refine wpAny_noted ?_;rw[compTurn_list];refine Aa (wpAny_standAt (Aa (A1 (turn n s hI) (fun r s₁ h₁=>?_) fun _ _ h'=>h'.elim)));cases r with
 |none=>exact Ai h₁
 |some v=>
  refine Aa (A1 h₁ (fun _ s₁ h₁=>?_) fun _ _ h'=>h'.elim);refine Aa (A1 h₁ (fun _ s₂ h₂=>Aa (A1 h₂ (fun ok s₃ h₃=>?_) fun _ _ h'=>h'.elim)) fun _ _ h'=>h'.elim);cases ok with
  |false=>exact Ai ⟨rfl,h₃⟩
  |true=>
   exact Aa (Aa (A1 h₃ (fun x s₄ h₄=>Aa (A1 h₄ (fun _ s₅ h₅=>Ai (Ai ⟨rfl,h₅⟩)) fun _ _ h'=>h'.elim)) fun _ _ h'=>h'.elim))
def tLC(n:Nat)(wi:TI)(g:TG)(tc:TT)(te:TE):TE:=fun σ H Q=>wi σ H fun J H1=>∃W:Nat->Nat->List V->Hp->Prop,(∃m,W 0 m [] H1)/\∀i m ys H,W i m ys H->
 (J.stop i H/\ys.length≤sizeLine/\∀D,H D=none->Q (.ref D) (upd H D (.lst ys)))\/
 (J.go i H/\ys.length<sizeLine/\∀x H',J.yld i H x H'->g x (σ++List.replicate n none) H' fun σ2 H2=>tc σ2 H2 fun b H3=>
  if b=true then te σ2 H3 fun y H4=>∃m',m'<m/\W (i+1) m' (ys++[y]) H4 else ∃m',m'<m/\W (i+1) m' ys H3)
def mS(g:TG)(n k:Nat):Prop:=∀(σ:St),σ.length=n->∀x H Q,g x (σ++List.replicate k none) H Q->
 g x (σ++List.replicate k none) H fun σ2 H2=>((σ2.length=n+k/\∀(i:Nat) v,(σ++List.replicate k none)[i]?=some (some v)->σ2[i]?=some (some v))/\Q σ2 H2)
section
variable {T:List Str}{iter:Expr}{g:TG}{tc:TT}{te:TE}
theorem ltN{b:Addr}{o:Obj}(e:h.get? b=some o):@LT.lt Nat instLTNat b h.objs.size:=Heap.lt_size e
theorem sv{a b:Addr}(h:@Ne Nat a b):a≠b:=h
theorem leN{a b:Addr}(h:@LE.le Nat instLENat a b):a≤b:=h
theorem ac6(its:List Value)(n:Nat)(u:Value):∃n',Obj.mapSeq (·.push u) { cls:=.type "list",data:=.seq its.toArray n }=({ cls:=.type "list",data:=.seq (its++[u]).toArray n' }:Obj):=
 ⟨_,by simp[Obj.mapSeq];rfl⟩
theorem uZ{w:World}{D:Addr}(hD:s.heap.get? D=some { cls:=.type "list",data:=.seq its.toArray n })
 (hz:its.length≤sizeLine) (h:∀h' n',Heap.SameBut D s.heap h'->h'.get? D=some { cls:=.type "list",data:=.seq (its++[u]).toArray n' }->Q .none { s with heap:=h' }):
 wpAny (model prog w) A (call (.builtin "list.append") [.ref D,u]) Q E s:=by
 have hl:s.heap.IsList D its.toArray:=⟨_,hD,rfl,n,rfl⟩;refine wpAny_call_entry slot_list_append hl.typeIs entry_list_append ?_ (args_list_append _ _);show wpAny _ _ (updateSeq D (·.push u) >>= fun _=>ret .none) _ _ s;refine Aa ?_;obtain⟨n',e'⟩:=ac6 its n u;refine wpAny_updateSeq (f:=(·.push u)) hD rfl (Ai ⟨.none,rfl,h _ n' (Heap.SameBut.update ..) ?_⟩) (by rw[Ao];exact hz) (by rw[Bm,Ao];exact Nat.succ_le_succ hz);rw[<-e'];exact Heap.get?_update_self _ hD (by rw[e'];rfl)
theorem l6{Q:VK}{itv:Value}{s₂:Shared}{RR:Value->Addr->Result->Shared->Prop}
 (S:jf X scope) (hc:X.calm=true)
 (hg:∀C fp s₀ H₀,PG (X.comp scope T C fp s₀ H₀) target g) (hgo:mS g X.N.length T.length) (hf:∀C fp s₀ H₀,PF (X.comp scope T C fp s₀ H₀) ifs tc) (he:∀C fp s₀ H₀,PE (X.comp scope T C fp s₀ H₀) elt te)
 (h:PIE X pins σ target (fun J H1=>∃W:Nat->Nat->List V->Hp->Prop,(∃m,W 0 m [] H1)/\∀i m ys H,W i m ys H->
  (J.stop i H/\ys.length≤sizeLine/\∀D,H D=none->Q (.ref D) (upd H D (.lst ys)))\/
  (J.go i H/\ys.length<sizeLine/\∀x H',J.yld i H x H'->g x (σ++List.replicate T.length none) H' fun σ2 H2=>tc σ2 H2 fun b H3=>
   if b=true then te σ2 H3 fun y H4=>∃m',m'<m/\W (i+1) m' (ys++[y]) H4 else ∃m',m'<m/\W (i+1) m' ys H3)) itv s₂)
 (hRR:∀D C s' H' m',qw X pins σ H' s'->mO X pins H' C->s'.heap.Ns C m'->Q (.ref D) H'->RR (.ref D) C (.ok .next) s'):
 wpAny (model X.prog X.w) X.A (newList []) (fun acc s₃=>wpAny (model X.prog X.w) X.A (newFunctionEnv scope X.env.globals (df scope X.env) [] X.env.qual none .none (some X.env)) (fun cenv s₄=>
  codeAny (model X.prog X.w) X.A (.compStart (.ListComp elt [⟨target,iter,ifs,0⟩] scope pos) 0 itv acc { cenv with scope:=relabel scope X.env }) (RR acc cenv.locals) s₄) E s₃) E s₂:=by
 obtain⟨it,fp,tn,J,H2,rfl,I2,Tn,st2,f2,W,⟨m0,w0⟩,turn⟩:=h;refine Bk (wpAny_newFunctionEnv S.nocell (by intro y hy;simp at hy) (fun h₁ hns₁ hsb₁=>?_) S.kind);dsimp only at hns₁ hsb₁ ⊢;generalize hH2:s₂.heap.push { cls:=.type "list",dict:=none,data:=.seq ([]:List Value).toArray }=G at hns₁ hsb₁ ⊢;have hC:G.objs.size=s₂.heap.objs.size+1:=by rw[<-hH2,Heap.size_push]
 obtain⟨D,eD⟩:∃D,s₂.heap.objs.size=D:=⟨_,rfl⟩;obtain⟨C,eC⟩:∃C,G.objs.size=C:=⟨_,rfl⟩;rw[eD] at hC ⊢;rw[eC] at hC hns₁ hsb₁ ⊢;have hDC:D≠C:=by lia
 have old:∀b o,s₂.heap.get? b=some o->h₁.get? b=some o:=fun b o e=>by have hb:=ltN e;exact hsb₁.extBut b o (sv (by lia)) (Heap.get?_push_of_some _ (hH2▸Heap.get?_push_of_some _ e))
 have hacc:h₁.get? D=some { cls:=.type "list",data:=.seq ([]:List Value).toArray 0 }:=by refine hsb₁.extBut _ _ hDC (Heap.get?_push_of_some _ ?_);rw[<-hH2,<-eD];exact Heap.get?_push_size _ rfl
 have fpo:∀b∈fp,@LT.lt Nat instLTNat b s₂.heap.objs.size:=fun b hb=>by obtain⟨o,e,_⟩:=Tn.obj _ _ st2 b hb;exact ltN e
 have ilt:@LT.lt Nat instLTNat X.env.locals s₂.heap.objs.size:=I2.lt;have isz:X.s₀.heap.objs.size≤s₂.heap.objs.size:=I2.sz;have HD:H2 D=none:=I2.hok.fresh (leN (by exact o8));have HC:H2 C=none:=I2.hok.fresh (leN (by lia));have nfs:∀b:Addr,@LE.le Nat instLENat s₂.heap.objs.size b->b∉yG X.stack:=fun b hb z=>by
  have q:=I2.stkSub b z;rcases Ar.mp q with q | q
  ·rw[<-q] at ilt;exact absurd ilt (Nat.not_lt.mpr hb)
  ·exact I2.nofs hb q
 have cellLt:∀x c,X.env.cells.lookup x=some c->@LT.lt Nat instLTNat c s₂.heap.objs.size:=fun x c e=>by obtain⟨v,q⟩:=I2.cell x c e;exact q.lt
 let X':Cx:=X.comp scope T C fp s₂ H2
 have ok':X'.Ok:={
  mod:=I2.ok.mod,kind:=S.kind,glob:=I2.ok.glob,blt:=I2.ok.blt
  above:=leN (by show @LE.le Nat instLENat s₂.heap.objs.size C;lia)
  inj:=fun x y c h1 h2=>I2.ok.inj x y c (S.cl_old I2 h1) (S.cl_old I2 h2)
  has:=fun x hx=>S.cl_has (S.kindOf hx)
  cab:=fun x c hx=>absurd (show false=true from hx) (by simp)
  hd:=I2.ok.hd,frames:=I2.ok.frames,stk:=.inl rfl
  exf:=fun b hb=>⟨sv (by have:=fpo b hb;show @Ne Nat b C;lia),fun x c e=>(f2 b hb).2.2.2.2.1 x c (S.cl_old I2 e)⟩
  bs:=I2.bs,bsz:=AL I2.ok.bsz I2.sz
  noex:=fun b o e hb=>by
   obtain⟨e0,n0⟩:=I2.ok.bs b o e;rcases (f2 b hb).2.2.2.1 with q | q
   ·exact I2.ok.noex b o e q
   ·have q':@LE.le Nat instLENat X.s₀.heap.objs.size b:=q;have:=ltN e0;lia
  exfs:=fun b hb z=>by
   rcases Ar.mp (I2.stkSub b z) with q | q
   ·exact(f2 b hb).2.1 q
   ·exact(f2 b hb).2.2.1 q
  funs:=I2.stack,frf:=I2.stkFree }
 have I4:∀tk,0<tk->qw X' pins (σ++List.replicate T.length none) H2 { s₂ with heap:=h₁,toks:=tk }:=fun tk htk=>{
  tk:=htk,ok:=ok',os:=rfl,bare:=I2.bare,base:=Un.kept old
  loc:=⟨_,hns₁,fun i x v e1 e2 e3=>by
   have hi:i<σ.length:=by
    by_cases hi:i<σ.length
    ·exact hi
    ·rw[Al (by exact yr),Cg] at e2;split at e2<;>cases e2
   rw[Ay hi] at e2;have hi':i<X.N.length:=by rw[<-I2.len];exact hi
   have e1':X.N[i]?=some x:=by have:(X.N++T)[i]?=some x:=e1;rw[Ay hi'] at this;exact this
   have hfr:=S.vis (AI e1') e3;obtain⟨m,hn,hl⟩:=I2.loc;have hk:=S.free x hfr;obtain⟨u,r,l⟩:=hl i x v e1' e2 (.inr hk);refine⟨u,r,.inr ⟨S.back hfr,?_⟩⟩;rcases l with⟨l,_⟩ | ⟨_,c,e,z⟩
   ·rw[l] at hk;rcases hk with q | q<;>cases q
   ·obtain⟨c',e'⟩:=S.cl_has hfr;have e'':=S.cl_old I2 e';rw[e] at e'';cases e'';exact⟨c,e',z.keeps old⟩⟩
  cell:=fun x c e=>by obtain⟨v,z⟩:=I2.cell x c (S.cl_old I2 e);exact⟨v,z.keeps old⟩
  free:=HC,freeC:=fun x c e=>I2.freeC x c (S.cl_old I2 e)
  pin:=fun p hp=>by
   obtain⟨a,b,c,d,e⟩:=I2.pin p hp;have hlt:=ltN a;refine⟨old _ _ a,b,sv (by show @Ne Nat p.1 C;lia),fun z=>?_,e⟩;rcases Ar.mp (I2.stkSub _ z) with q | q
   ·exact c q
   ·exact d q
  hok:=I2.hok.kept old
  len:=by show(σ++_).length=(X.N++T).length;rw[Ac,Ac,BQ,I2.len] }
 have fpk:∀(pins':List (Addr×Obj)) (H':Hp),(∀p∈pins',p∈pins\/p.1=D)->(∀b∈fp,H' b=none)->∀b∈fp,mO X' pins' H' b:=fun pins' H' hp hn b hb=>by
  obtain⟨_,q1,q2,q3,q4,q5⟩:=f2 b hb;have hlt:=fpo b hb;refine⟨hn b hb,sv (by show @Ne Nat b C;lia),ok'.exfs b hb,.inl hb,(ok'.exf b hb).2,fun p hpp=>?_⟩;rcases Ak.mp hpp with z | z
  ·exact q5 p (Ap _ z)
  ·rcases hp p z with z | z
   ·exact q5 p (Ag _ z)
   ·rw[z];exact sv (by lia)
 have stay:Tn.keep=Tn.keep:=rfl;have loop:∀s₃:Shared,s₃={ s₂ with heap:=h₁,toks:=s₂.toks+([]:List (Str×Value)).length }->
  codeAny (model X.prog X.w) X.A (.compLoop (.ListComp elt [⟨target,iter,ifs,0⟩] scope pos) 0 (.ref it) (.ref D) X'.env) (RR (.ref D) C) s₃:=by
  rintro s₃ rfl;refine dh (fun n s'=>∃i σ' H' ys its k,qw X' pins σ' H' s'/\(σ'.length=X.N.length+T.length/\∀(i:Nat) v,(σ++List.replicate T.length none)[i]?=some (some v)->σ'[i]?=some (some v))/\
   s'.heap.get? D=some { cls:=.type "list",data:=.seq (its:List Value).toArray k }/\zk ys its/\H' D=none/\tn i s'.heap/\(∀b∈fp,H' b=none)/\W i n ys H') ?_ m0
   ⟨0,_,H2,[],[],0,I4 _ I2.tk,⟨by rw[Ac,BQ,I2.len],fun _ _ e=>e⟩,hacc,.nil,HD,Tn.keep _ _ _ st2 fun b _ o e=>old b o e,fun b hb=>(f2 b hb).1,w0⟩
  rintro n s3 ⟨i,σ3,H3,ys,its,k,I3,⟨hl3,hs3⟩,hD3,hv3,hH3,st3,fr3,w3⟩;have hlen:its.length=ys.length:=hv3.length.symm;have D_fs:D∉X'.fs:=nfs D (by exact o8);have DC':D≠X'.env.locals:=hDC;have I3p:qw X' (pins++[(D,{ cls:=.type "list",data:=.seq its.toArray k })]) (σ++List.replicate T.length none) H3 s3:=
   (I3.weak (by rw[hl3,Ac,BQ,I2.len]) hs3).pins_of fun p hp=>by
    rcases Ak.mp hp with z | z
    ·exact I3.pin p (Ag _ z)
    ·have e:=Au.mp z;subst e;exact⟨hD3,hH3,DC',D_fs,fun v z=>by cases z⟩
  have pinsD:∀p∈pins++[(D,({ cls:=.type "list",data:=.seq its.toArray k }:Obj))],p∈pins\/p.1=D:=fun p hp=>by
   rcases Ak.mp hp with z | z
   ·exact .inl z
   ·exact .inr (by rw[Au.mp z])
  rcases turn i n ys H3 w3 with⟨stop,hz,qn⟩ | ⟨go,hz,step⟩
  ·refine xt (Tn.done X' rfl rfl rfl hc i _ s3 _ H3 _ I3p (fpk _ H3 pinsD fr3) st3 stop) fun r s4 ⟨hr,I4'⟩=>?_;subst hr;obtain⟨hD4,hH4,_⟩:=I4'.pin (D,_) (Ag _ (Ag _ An));obtain⟨m',hn',_⟩:=I4'.loc;have un:Un (yG X.stack) fp H2 (upd H3 D (.lst ys)) s₂.heap s4.heap:={
    keep:=I4'.base.keep,slot:=I4'.base.slot
    free:=fun b o e n hx=>by have:=ltN e;rw[qo (sv (by lia))];exact I4'.base.free b o e n hx
    there:=I4'.base.there
    tups:=fun b xs e=>by rw[qo (fun z=>by rw[z,HD] at e;cases e)];exact I4'.base.tups b xs e
    frzs:=fun b o u e=>by rw[qo (fun z=>by rw[z,HD] at e;cases e)];exact I4'.base.frzs b o u e
    tbls:=fun b ps e=>by rw[qo (fun z=>by rw[z,HD] at e;cases e)];exact I4'.base.tbls b ps e }
   have hok:eB X.prog X.w (upd H3 D (.lst ys)) s4.heap:=fun b u e=>by
    by_cases hb:b=D
    ·subst hb;rw[zv] at e;cases e;exact⟨hz,its,k,hv3,hD4⟩
    ·rw[qo hb] at e;refine(I4'.hok b u e).stay (fun _ _ _ q=>q) (fun c q=>?_) fun c xs q=>?_
     ·rw[qo (j5 q hH3)];exact q
     ·rw[qo (j5 q hH3)];exact q
   have I5:qw X pins σ (upd H3 D (.lst ys)) s4:=I2.call' (ch:=fp) I4'.os un hok I4'.bare fun b hb=>⟨(f2 b hb).2.2.2.1,(f2 b hb).2.1,(f2 b hb).2.2.2.2.1,(f2 b hb).2.2.2.2.2⟩;refine hRR D C s4 _ m' I5 ?_ hn' (qn D hH3);refine⟨by rw[qo (AH hDC)];exact I4'.free,?_,?_,.inr ?_,fun x c e=>?_,fun p hp=>?_⟩
   ·exact sv (by lia)
   ·exact I2.nofs (leN (by lia))
   ·exact leN (by lia)
   ·exact sv (by have:=cellLt x c e;lia)
   ·exact sv (by have:=ltN (I2.pin p hp).1;lia)
  ·refine xt (Tn.item X' rfl rfl rfl hc i _ s3 _ H3 _ I3p (fpk _ H3 pinsD fr3) st3 go) fun r s4 ⟨u,hr,h4⟩=>?_;subst hr;refine xt h4 fun _ s5 ⟨x,H5,I5,r5,y5,st5,fr5⟩=>?_;have I5':=I5.pinned (fpk _ H5 pinsD fr5) (Tn.obj _ _ st5);refine A1 ((hg C fp s₂ H2) _ s5 _ H5 x u _ I5' r5 (hgo σ I2.len x H5 _ (step x H5 y5))) (fun _ s6 ⟨σ6,H6,I6,⟨hl6,hs6⟩,q6⟩=>?_) fun _ _ z=>z;refine A1 ((hf C fp s₂ H2) _ s6 σ6 H6 _ I6 q6) (fun b s7 ⟨H7,I7,q7⟩=>?_) fun _ _ z=>z;have xu:∀{s8:Shared} {H8:Hp} (I8:qw X' ((pins++[(D,{ cls:=.type "list",data:=.seq its.toArray k })])++kE fp s5.heap) σ6 H8 s8),tn (i+1) s8.heap/\(∀b∈fp,H8 b=none)/\s8.heap.get? D=some { cls:=.type "list",data:=.seq its.toArray k }/\H8 D=none/\qw X' pins σ6 H8 s8:=fun {s8 H8} I8=>by
    refine⟨Tn.keep _ _ _ st5 fun b hb o e=>(I8.pin (b,o) (Ag _ (Ag _ (bU hb e)))).1,fun b hb=>?_,?_,?_,I8.unpinned.unpinned⟩
    ·obtain⟨o,e,d⟩:=Tn.obj _ _ st5 b hb;exact(I8.pin (b,o) (Ag _ (Ag _ (bU hb e)))).2.1
    ·exact(I8.pin (D,_) (Ag _ (Ap _ (Ag _ An)))).1
    ·exact(I8.pin (D,_) (Ag _ (Ap _ (Ag _ An)))).2.1
   cases b with
   |false=>
    rw[Aq Az] at q7 ⊢;obtain⟨m',hm,w7⟩:=q7;obtain⟨a1,a2,a3,a4,a5⟩:=xu I7;exact⟨m',hm,i+1,σ6,H7,ys,its,k,a5,⟨hl6,hs6⟩,a3,hv3,a4,a1,a2,w7⟩
   |true=>
    rw[As rfl] at q7 ⊢;refine A1 ((he C fp s₂ H2) _ s7 σ6 H7 _ I7 q7) (fun v s8 ⟨y,H8,I8,r8,m',hm,w8⟩=>?_) fun _ _ z=>z;obtain⟨a1,a2,a3,a4,a5⟩:=xu I8;refine uZ a3 (by lia) fun h9 k9 hs9 hD9=>?_;have nD:∀b∈fp,b≠D:=fun b hb=>sv (by have:=fpo b hb;lia);refine⟨m',hm,i+1,σ6,H8,ys++[y],its++[v],k9,?_,⟨hl6,hs6⟩,hD9,hv3.append (.cons r8 .nil),a4,Tn.keep _ _ _ a1 fun b hb o e=>(hs9.2 b (nD b hb)).trans e,a2,w8⟩;exact a5.turned (t':=s8.toks) (it:=D) (fun b o hb e=>(hs9.2 b hb).trans e) a4 DC' (.inr (leN (by show @LE.le Nat instLENat s₂.heap.objs.size D;exact o8))) (fun x c e=>sv (by have:=cellLt x c (S.cl_old I2 e);lia)) fun p hp=>sv (by have:=ltN (I2.pin p hp).1;lia)
 exact codeAny_compStart_list (loop _ rfl) (Tn.self _ _ _ _ _ (Tn.keep _ _ _ st2 fun b _ o e=>old b o e) (loop _ rfl))
end
section
variable {T:List Str}{iter:Expr}{g:TG}{tc:TT}{te:TE}
theorem al1(T:List Str)(S:jf X scope)(hc:X.calm=true)(hi:PI X target iter wi)(hg:∀C fp s₀ H₀,PG (X.comp scope T C fp s₀ H₀) target g)(hgo:mS g X.N.length T.length)
 (hf:∀C fp s₀ H₀,PF (X.comp scope T C fp s₀ H₀) ifs tc) (he:∀C fp s₀ H₀,PE (X.comp scope T C fp s₀ H₀) elt te)
 (hs:∀x,foldedSetIterable iter X.env x=pure x:=by intro _;rfl):PE X (.ListComp elt [⟨target,iter,ifs,0⟩] scope pos) (tLC T.length wi g tc te):=by
 intro pins s σ H Q I h;rw[eval_ListComp];refine wpAny_comprehension_free (use:=none) rfl hs (S.clo I) S.kind S.names (xt (hi pins s σ H _ I h) fun v s1 h1=>xt h1 fun itv s2 h2=>?_);refine l6 (RR:=fun acc C=>compPost (model X.prog X.w) X.A X.xe none (EP X pins σ Q) acc C) S hc hg hgo hf he h2 ?_;intro D C s' H' m' I' f' hn q;exact⟨m',hn,fun h' hs'=>⟨.ref D,H',I'.turned (t':=s'.toks) (it:=C) (fun b o hb e=>(hs'.2 b hb).trans e) f'.1 (AH (AH f'.2.1)) f'.2.2.2.1 f'.2.2.2.2.1 f'.2.2.2.2.2,rfl,q⟩⟩
theorem aap(T:List Str){px lp:Pos}(hN:X.N.Nodup)(hix:X.N[i]?=some x)(hx:Loc X.env.scope x)(S:jf X scope)(hc:X.calm=true)(hi:PI X target iter wi)
 (hg:∀C fp s₀ H₀,PG (X.comp scope T C fp s₀ H₀) target g) (hgo:mS g X.N.length T.length)
 (hf:∀C fp s₀ H₀,PF (X.comp scope T C fp s₀ H₀) ifs tc) (he:∀C fp s₀ H₀,PE (X.comp scope T C fp s₀ H₀) elt te)
 (hsw:swapsWith (.ListComp elt [⟨target,iter,ifs,0⟩] scope lp) (some (.Name x px)) pos.line X.env=pure true:=by rfl)
 (hfn:X.fn x=true\/X.env.scope.names.lookup x=some .local:=by first | exact .inl rfl | exact .inr rfl | assumption)
 (hs:∀x,foldedSetIterable iter X.env x=pure x:=by intro _;rfl):PS X (.Assign [.Name x px] (.ListComp elt [⟨target,iter,ifs,0⟩] scope lp) pos) (ail (tLC T.length wi g tc te) (cT i)):=by
 intro pins s σ H D I h;rw[exec_Assign_Name_used _ _ _ _ hsw];refine Aa (wpAny_standAt (Aa ?_));show wpAny _ X.A (do let _ <-comprehension (.ListComp elt [⟨target,iter,ifs,0⟩] scope lp) scope X.env _ (newList []) false (eval iter X.env) (some (assign (.Name x px) X.env))) _ _ s;refine Aa (A1 (wpAny_comprehension_free (use:=some (assign (.Name x px) X.env)) (Q:=fun _ s'=>SP X pins D .next s') rfl hs (S.clo I) S.kind S.names
  (xt (hi pins s σ H _ I h) fun v s1 h1=>xt h1 fun itv s2 h2=>?_)) (fun _ s' hq=>Ai (Ai hq)) fun _ _ e=>e)
 refine l6 (RR:=fun acc C=>compPost (model X.prog X.w) X.A X.xe (some (assign (.Name x px) X.env)) (fun _ s'=>SP X pins D .next s') acc C) (pins:=pins) (σ:=σ) (Q:=fun x H1=>cT i x σ H1 D.nx) S hc hg hgo hf he h2 ?_;intro A C s' H' m' I' f' hn q;show wpAny _ X.A (assign (.Name x px) X.env (.ref A)) _ _ s';refine wpAny_assign_Name (mm I' hN hix hx (v:=.ref A) rfl (fun s'' I'' ⟨a,hs,ha⟩ _=>?_) hfn);have hCa:C≠a:=by
  rcases ha with z | z
  ·rw[z];exact f'.2.1
  ·exact fun e=>f'.2.2.2.2.1 x a z e.symm
 exact⟨m',hn.sameBut hs hCa,fun h' hs'=>⟨_,H',I''.turned (t':=s''.toks) (it:=C) (fun b o hb e=>(hs'.2 b hb).trans e) f'.1 f'.2.1 f'.2.2.2.1 f'.2.2.2.2.1 f'.2.2.2.2.2,q⟩⟩
end
def vg(outer:Scope)(N:List Str)(sc:Scope):Bool:=
 decide (sc.kind=.function)&&sc.names.all (fun p=>decide (p.2≠.cell)&&(decide (p.2≠.local)||decide (sc.names.lookup p.1=some .local))&&(decide (p.2≠.free)||(decide (outer.names.lookup p.1=some .cell)||decide (outer.names.lookup p.1=some .free))))
  && N.all (fun x=>decide (sc.names.lookup x≠some .local))
theorem vg.mk{sc:Scope}(h:vg X.env.scope X.N sc=true):jf X sc:=by
 unfold vg at h;rw[AR,AR,CF,CF] at h;obtain⟨⟨h1,h2⟩,h3⟩:=h;have fm:∀n,(n,NameKind.free)∈sc.names->X.env.kindOf n=some .cell\/X.env.kindOf n=some .free:=fun n hn=>by
  have q:=h2 _ hn;simp only[AR,CO,decide_eq_true_eq] at q;rcases q.2 with z | z
  ·exact absurd rfl z
  ·exact z
 refine⟨of_decide_eq_true h1,fun y hy=>?_,fun y hy e=>?_,fun n hn=>fm n (BD hn),fm,fun x hx=>of_decide_eq_true (h3 x hx)⟩
 ·have q:=h2 _ hy;simp only[AR,CO,decide_eq_true_eq] at q;exact q.1.1
 ·have q:=h2 _ hy;simp only[AR,CO,decide_eq_true_eq] at q;rcases q.1.2 with z | z
  ·exact absurd e z
  ·exact z
abbrev EK:=@vg.mk
theorem uB(n:Nat):mS (cT n) n 1:=by
 intro σ hl x H Q h;refine⟨⟨by simp[hl],fun i v e=>?_⟩,h⟩;by_cases hi:i=n
 ·subst hi;rw[Al (by exact o8)] at e;simp[hl] at e
 ·rw[Be (AH hi)];exact e
theorem dq:bootBuiltins "isinstance" = some (.builtin "isinstance"):=by decide +kernel
theorem fT:bootBuiltins "tuple" = some (.type "tuple"):=by decide +kernel
theorem ad3:bootBuiltins "str" = some (.type "str"):=by decide +kernel
theorem tN:bootBuiltins "int" = some (.type "int"):=by decide +kernel
theorem cI:bootBuiltins "list" = some (.type "list"):=by decide +kernel
theorem ajq:bootBuiltins "len" = some (.builtin "len"):=by decide +kernel
theorem huK{k:Nat}(hr:vm k A):A.units+128<cLine:=by have:=hr.un;lia
theorem dr(h:n≤1000):n≤sizeLine:=BU (mY h)
theorem zA.of{P:Program}{w:World}{K:Af}{k:Nat}{sp:Sp}(F:a6 P w K mg base CX0 k f fd ps sp)(b:wg K fd ps [])(kp:PySem.W.keepIn K (.ref f)=true)(m:mg x=some (.ref f)):
 zA P w K mg base k x ps sp:=⟨f,fd,F,b,kp,m⟩
theorem a6.never{P:Program}{w:World}{K:Af}{k:Nat}{sp:Sp}(no:∀vs H Q E,¬sp vs H Q E):a6 P w K mg base CX0 k f fd ps sp:=
 ⟨fun vs H Q E h=>absurd h (no vs H Q E),fun A outer s H args us vs Q E _ _ _ _ h=>absurd h (no vs H Q E)⟩
section
variable (K:Af)(P:Program)(w:World)
end
structure z0(K:Af)(x:Str)(st:Stmt):Prop where
 ex:∃(f:Addr) (kV doc pm:Value) (an:Option Addr) (cdv ct:Value),PySem.W.nsIn K mainGlobals x=some (some (.ref f))/\zE K x x st f (PySem.W.fnOf x x (x9 st) (je st) (qr st) .none kV doc pm an cdv ct)
theorem def_in{K:Af}{kV ct:Value}(a:PySem.W.nsIn K mainGlobals x=some (some (.ref f)))
 (l:K.lookup f=some ⟨oc,od,.func (PySem.W.fnOf x x (x9 st) (je st) (qr st) .none kV doc pm an cdv ct),osl⟩) (c:PySem.W.codeIn K cdv x=true) (k:PySem.W.keepIn K (.ref f)=true):z0 K x st:=
 ⟨f,kV,doc,pm,an,cdv,ct,a,abo (st:=st) l c k⟩
theorem z0.use{K:Af}(D:z0 K x st)(X:K.In h)(G:h.Ns mainGlobals mg)
 (hb:∀(kV doc pm:Value) (an:Option Addr) (cdv ct:Value) (us:List Value),us.length=ps.length->bindArgs (PySem.W.fnOf x x (x9 st) (je st) (qr st) .none kV doc pm an cdv ct) ⟨us,[]⟩=pure (ps.zip us)):
 ∃f fd,zE K x x st f fd/\wg K fd ps []/\mg x=some (.ref f):=by
 obtain⟨f,kV,doc,pm,an,cdv,ct,a,F⟩:=D.ex;exact⟨f,_,F,wg.all (hb kV doc pm an cdv ct),CL X G a⟩
end L2
namespace Words
open PySem L2
inductive Wd where
 |leaf (t:Bool) (n:Str)
 |node (e:Bool) (l r:Wd)
def kL:Bool->Str
 |false => "plain"
 |true => "turned"
def kN:Bool->Str
 |false => "both"
 |true => "either"
def Wd.turn:Wd->Wd
 |.leaf t n=>.leaf (!t) n
 |.node e l r=>.node (!e) l.turn r.turn
def Wd.depth:Wd->Nat
 |.leaf _ _=>1
 |.node _ l r=>max l.depth r.depth+1
def Wd.leaves:Wd->Nat
 |.leaf _ _=>1
 |.node _ l r=>l.leaves+r.leaves
theorem Wd.leaves_pos:∀w:Wd,1≤w.leaves
 |.leaf _ _=>Am _
 |.node _ l r=>by have:=Wd.leaves_pos l;show 1≤l.leaves+r.leaves;exact am6
abbrev EM:=@Wd.leaves_pos
theorem Wd.depth_le:∀w:Wd,w.depth≤w.leaves
 |.leaf _ _=>Am _
 |.node _ l r=>by have:=Wd.depth_le l;have:=Wd.depth_le r;have:=EM l;have:=EM r;show max l.depth r.depth+1≤l.leaves+r.leaves;lia
def o9:Wd->Da
 |.leaf t n=>.tup [.s (.str (kL t)),.s (.str n)]
 |.node e l r=>.tup [.s (.str (kN e)),o9 l,o9 r]
def cw(x:Str):Prop:=1≤x.length/\x.length≤8/\∀c∈x.cps.toList,97≤c/\c≤122
def Wd.ok:Wd->Prop
 |.leaf _ n=>cw n
 |.node _ l r=>l.ok/\r.ok
theorem Paired.getP{α β:Type}{F:α->β->Prop}:∀{xs:List α} {ys:List β} {i:Nat} {x:α},Paired F xs ys->xs[i]?=some x->∃y,ys[i]?=some y/\F x y
 |_,_,_,_,.nil,h=>by simp at h
 |_,_,0,_,.cons (b:=y) r _,h=>by simp at h;subst h;exact⟨y,rfl,r⟩
 |_,_,i+1,_,.cons _ t,h=>by obtain⟨y,e,q⟩:=Paired.getP (i:=i) t (by simpa using h);exact⟨y,by simpa using e,q⟩
end Words
namespace L2
open PySem PySem.Spec PyProof.Rows
section
theorem yt{a b:Addr}{ys:List V}{es:List Da}(I:qw X pins σ H s)(hu:A.units<cLine)(sx:cL X.K H a xs)(sy:cL X.K H b ys)(px:Paired (vk X.K H n) xs ds)(py:Paired (vk X.K H m) ys es)
 (ih:∀{x y:V} {d e:Da} {u v:Value},vk X.K H n x d->vk X.K H m y e->zo x u->zo y v->SeqAt.EqAt A.in1 s u v (Da.eq d e)):SeqAt.RcNeAt A s (.ref a) (.ref b) (!Da.eqs ds es):=by
 obtain⟨us,vx,tx,_⟩:=I.tuple sx;obtain⟨vs,vy,ty,_⟩:=I.tuple sy;have q:=SeqAt.RcNeAt.tuples tx ty hu (fY px py vx vy ih);rw[Ao,Ao,<-vx.length,<-vy.length,px.length,py.length,EG] at q;exact q
theorem aco{a b:Addr}{ys:List V}{es:List Da}(I:qw X pins σ H s)(hu:A.units<cLine)(sx:wu X.K H a xs)(sy:wu X.K H b ys)(px:Paired (vk X.K H n) xs ds)(py:Paired (vk X.K H m) ys es)
 (ih:∀{x y:V} {d e:Da} {u v:Value},vk X.K H n x d->vk X.K H m y e->zo x u->zo y v->SeqAt.EqAt A.in1 s u v (Da.eq d e)):SeqAt.RcNeAt A s (.ref a) (.ref b) (!Da.eqs ds es):=by
 obtain⟨us,vx,tx,_⟩:=I.list sx;obtain⟨vs,vy,ty,_⟩:=I.list sy;by_cases hz:us.toArray.size=vs.toArray.size
 ·have q:=SeqAt.RcNeAt.lists (j9 tx) (j9 ty) hz hu (fY px py vx vy ih);have hz':ds.length=es.length:=by rw[<-px.length,<-py.length,vx.length,vy.length];simpa using hz
  have e:=EG ds es;rw[hz',Nat.min_self] at e;rw[<-hz'] at e;rw[Ao,<-vx.length,px.length] at q;simp only[beq_self_eq_true,DZ] at e;rw[e] at q;exact q
 ·have q:=SeqAt.RcNeAt.lists_lengths (j9 tx) (j9 ty) (by simpa using hz) hu;have hz':ds.length≠es.length:=by rw[<-px.length,<-py.length,vx.length,vy.length];intro z;exact hz (by simpa using z)
  have e:=EG ds es;have f:(ds.length==es.length)=false:=by simpa using hz'
  rw[f,DW] at e;rw[<-e];exact q
end
section
def uNe(K:Af)(k:Nat):R2:=fun x y H Q=>match x,y with
 |.ref a,.ref b=>∃n m d e,n≤k/\vk K H n (.ref a) d/\vk K H m (.ref b) e/\Q (.bl (!Da.eq d e)) H
 |x,y=>afy x y=true/\Q (.bl (!decide (x=y))) H
theorem aj3{k:Nat}(hu:X.A.units+k<cLine):wn X (compareOp .NotEq) (uNe X.K k):=by
 intro pins s σ H x y v u Q I rx ry h;cases x with
 |ref a=>
  cases y with
  |ref b=>
   obtain⟨n,m,d,e,hn,h1,h2,q⟩:=h;cases rx;cases ry;have xu:∀{k:Bool},k=(!Da.eq d e)->SeqAt.RcNeAt X.A s (.ref a) (.ref b) k->wpAny (model X.prog X.w) X.A (compareOp .NotEq (.ref a) (.ref b)) (EP X pins σ Q) X.xe s:=fun {k} e' r=>
    r X.prog X.w X.xe (EP X pins σ Q) (by rw[e'];exact⟨.bl _,H,I,rfl,q⟩)
   cases n with
   |zero=>exact(j6 h1.2).elim
   |succ n=>
    cases m with
    |zero=>exact(j6 h2.2).elim
    |succ m=>
     have hin:X.A.in1.units+n<cLine:=by show X.A.units+1+n<cLine;lia
     rcases h1 with⟨_,f⟩ | ⟨a',xs,ds,e1,rfl,sx,px⟩ | ⟨a',xs,ds,e1,rfl,sx,px⟩
     ·exact(j6 f).elim
     ·cases e1;rcases h2 with⟨_,f⟩ | ⟨b',ys,es,e2,rfl,sy,py⟩ | ⟨b',ys,es,e2,rfl,sy,py⟩
      ·exact(j6 f).elim
      ·cases e2;exact xu rfl (yt I (by lia) sx sy px py fun h1 h2 r1 r2=>kY I n hin h1 h2 r1 r2)
      ·cases e2;obtain⟨us,vx,tx,_⟩:=I.tuple sx;obtain⟨vs,vy,ty,_⟩:=I.list sy;exact xu rfl (.tuple_list tx (j9 ty) (by lia))
     ·cases e1;rcases h2 with⟨_,f⟩ | ⟨b',ys,es,e2,rfl,sy,py⟩ | ⟨b',ys,es,e2,rfl,sy,py⟩
      ·exact(j6 f).elim
      ·cases e2;obtain⟨us,vx,tx,_⟩:=I.list sx;obtain⟨vs,vy,ty,_⟩:=I.tuple sy;exact xu rfl (.list_tuple (j9 tx) ty (by lia))
      ·cases e2;exact xu rfl (aco I (by lia) sx sy px py fun h1 h2 r1 r2=>kY I n hin h1 h2 r1 r2)
  |_=>exact agr pins s σ H _ _ v u Q I rx ry h
 |_=>cases y<;>exact agr pins s σ H _ _ v u Q I rx ry h
end
theorem aaq:bootBuiltins "max" = some (.builtin "max"):=by decide +kernel
theorem ie:bootBuiltins "bool" = some (.type "bool"):=by decide +kernel
end L2
namespace Words
open PySem L2
def Wd.size:Wd->Nat
 |.leaf _ _=>1
 |.node _ l r=>1+l.size+r.size
theorem Wd.size_eq:∀w:Wd,w.size+1=2*w.leaves
 |.leaf _ _=>rfl
 |.node _ l r=>by have:=Wd.size_eq l;have:=Wd.size_eq r;show 1+l.size+r.size+1=2*(l.leaves+r.leaves);lia
end Words
namespace L2
open PySem PySem.Spec PyProof.Rows
section
variable {a:Addr}{tr:Option Addr}
end
section
variable {a b T:Addr}{tr:Option Addr}{E1:X1}
end
section
variable {k:Nat}{sp:Sp}{E1:X1}{t:TA}
end
section
variable {a T:Addr}{tr:Option Addr} 
end
section
variable {a T:Addr}
end
open PySem PySem.Spec PyProof.Rows PySem.W
open Builtin.ObjectAttr in
section
variable {w:World}{K:Frag}{a:Addr}
open Builtin Builtin.ObjectAttr Builtin.Getset_descriptor in
end
def an7(K:Af)(H:Hp)(a C:Addr):Prop:=∃oe,H a=some (.frz oe (.own 0))/\oe.cls=.ref C
def o7(H:Hp)(P:Addr)(q:Str):Prop:=∃ps,H P=some (.tbl ps)/\TriplesOk ps.toList/\∀pos cv,codeAmong pos ps.toList=some cv->∃c' oc vs t,cv=.ref c'/\H c'=some (.frz oc (.own 0))/\oc.data=.fields vs/\vs[1]?=some (.str q t)
theorem o7.keep{P:Addr}(h:o7 H P q)(e:H' P=H P)(t:∀b o u,H b=some (.frz o u)->H' b=some (.frz o u)):o7 H' P q:=by obtain⟨ps,h1,h2,h3⟩:=h;refine⟨ps,e.trans h1,h2,fun pos cv z=>?_⟩;obtain⟨c',oc,vs,tt,e1,e2,e3⟩:=h3 pos cv z;exact⟨c',oc,vs,tt,e1,t _ _ _ e2,e3⟩
end L2
namespace L3
open PySem L2
inductive Y where
 |non | bl (b:Bool) | int (i:Int) | str (x:Str) | ref (a:Addr) | ty (n:String) | cd (kvs:List (Str×Str)) | tup (ys:List Y) | sq (ys:List Y)
inductive LO where
 |lst (ys:List Y) | dct (kvs:List (jg×Y)) | ins (C:Addr) (fs:List (Str×Y)) | exc (C:Addr) | tb (q:Str)
abbrev ql:=Addr->Option LO
def qd(L:ql)(a:Addr)(o:LO):ql:=fun b=>if b=a then some o else L b
theorem q9{L:ql}{a:Addr}{o:LO}:qd L a o a=some o:=by unfold qd;rw[As rfl]
theorem qa{L:ql}{a b:Addr}{o:LO}(h:b≠a):qd L a o b=L b:=by unfold qd;rw[Aq h]
theorem jc{L:ql}{a:Addr}{o u:LO}:qd (qd L a o) a u=qd L a u:=by funext b;unfold qd;split<;>rfl
theorem xo{L:ql}{a b:Addr}{o:LO}(h:L a=some o)(h':L b=none):a≠b:=by intro e;subst e;rw[h] at h';cases h'
theorem acw{L:ql}{a b:Addr}{o u:LO}(h:L a=some o)(h':L b=some u)(d:o≠u):a≠b:=by intro e;subst e;rw[h] at h';exact d (AV h')
structure G3 where
 K:Af
 P:Program
 w:World
abbrev _root_.L2.Cx.g3(X:Cx):G3:=⟨X.K,X.prog,X.w⟩
def SqF(K:Af)(H:Hp)(a:Addr)(xs:List V):Prop:=(∃o,H a=some (.frz o (.lst xs)))\/
 ∃(o:Obj) (its:Array Value) (n:Nat),K.lookup a=some o/\o.cls=.type "list" /\ o.dict=none/\o.data=.seq its n/\its.size≤sizeLine/\zk xs its.toList
theorem SqF.sq{K:Af}{a:Addr}(h:SqF K H a xs):wu K H a xs:=by
 rcases h with⟨o,h⟩ | h
 ·exact .inl (.inr ⟨o,h⟩)
 ·exact .inr h
mutual
def RV(G:G3)(H:Hp):Y->V->Prop
 |.non,v=>v=.non
 |.bl b,v=>v=.bl b
 |.int i,v=>v=.int i
 |.str x,v=>v=.str x
 |.ref a,v=>v=.ref a
 |.ty n,v=>v=.ty n
 |.cd kvs,v=>∃a,v=.ref a/\KD G.K G.P G.w a (kvs.map fun p=>(Sum.inr p.1,V.str p.2))
 |.tup ys,v=>∃a xs,v=.ref a/\cL G.K H a xs/\xi G H ys xs
 |.sq ys,v=>∃a xs,v=.ref a/\SqF G.K H a xs/\xi G H ys xs
def xi(G:G3)(H:Hp):List Y->List V->Prop
 |[],xs=>xs=[]
 |y::ys,xs=>∃x xs',xs=x::xs'/\RV G H y x/\xi G H ys xs'
end
def Imm:HO->Bool
 |.tup _=>true
 |.frz _ _=>true
 |_=>false
def j7(H H':Hp):Prop:=∀a u,Imm u=true->H a=some u->H' a=some u
theorem j7.refl(H:Hp):j7 H H:=fun _ _ _ h=>h
abbrev EC:=@j7.refl
theorem j7.trans{H1 H2:Hp}(a:j7 H H1)(b:j7 H1 H2):j7 H H2:=fun c u i h=>b c u i (a c u i h)
theorem j7.new{p:Addr}{o:HO}(h:H p=none):j7 H (upd H p o):=fun _ _ _ q=>by rw[qo (j5 q h)];exact q
abbrev EE:=@j7.new
theorem j7.lst{p:Addr}{o:HO}(h:H p=some (.lst zs)):j7 H (upd H p o):=fun a u i q=>by rw[qo ?_];exact q;rintro rfl;rw[h] at q;cases q;cases i
abbrev EN:=@j7.lst
theorem cL.ts{K:Af}{a:Addr}(h:cL K H a xs)(t:j7 H H'):cL K H' a xs:=by
 rcases h with(h | ⟨o,h⟩) | h
 ·exact .inl (.inl (t _ _ rfl h))
 ·exact .inl (.inr ⟨o,t _ _ rfl h⟩)
 ·exact .inr h
theorem SqF.ts{K:Af}{a:Addr}(h:SqF K H a xs)(t:j7 H H'):SqF K H' a xs:=by
 rcases h with⟨o,h⟩ | h
 ·exact .inl ⟨o,t _ _ rfl h⟩
 ·exact .inr h
mutual
theorem RV.ts{G:G3}{H H':Hp}(t:j7 H H'):∀{y:Y} {v:V},RV G H y v->RV G H' y v
 |.non,_,h=>h
 |.bl _,_,h=>h
 |.int _,_,h=>h
 |.str _,_,h=>h
 |.ref _,_,h=>h
 |.ty _,_,h=>h
 |.cd _,_,h=>h
 |.tup _,_,⟨a,xs,e,s,r⟩=>⟨a,xs,e,cL.ts s t,xi.ts t r⟩
 |.sq _,_,⟨a,xs,e,s,r⟩=>⟨a,xs,e,s.ts t,xi.ts t r⟩
theorem xi.ts{G:G3}{H H':Hp}(t:j7 H H'):∀{ys:List Y} {xs:List V},xi G H ys xs->xi G H' ys xs
 |[],_,h=>h
 |_::_,_,⟨x,xs',e,r,s⟩=>⟨x,xs',e,RV.ts t r,xi.ts t s⟩
end
theorem xi.length{G:G3}{H:Hp}:∀{ys:List Y} {xs:List V},xi G H ys xs->ys.length=xs.length
 |[],_,h=>by cases h;rfl
 |_::_,_,⟨x,xs',e,_,s⟩=>by subst e;simp[xi.length s]
theorem xi.get{G:G3}{H:Hp}:∀{ys:List Y} {xs:List V} {i:Nat} {y:Y},xi G H ys xs->ys[i]?=some y->∃x,xs[i]?=some x/\RV G H y x
 |[],_,_,_,_,h=>by simp at h
 |_::_,_,0,_,⟨x,xs',e,r,_⟩,h=>by subst e;simp at h;subst h;exact⟨x,rfl,r⟩
 |_::_,_,i+1,_,⟨x,xs',e,_,s⟩,h=>by subst e;obtain⟨x',q,r⟩:=xi.get (i:=i) s (by simpa using h);exact⟨x',by simpa using q,r⟩
theorem xi.app{G:G3}{H:Hp}:∀{ys zs:List Y} {xs us:List V},xi G H ys xs->xi G H zs us->xi G H (ys++zs) (xs++us)
 |[],_,_,_,h,q=>by cases h;exact q
 |_::_,_,_,_,⟨x,xs',e,r,s⟩,q=>by subst e;exact⟨x,xs'++_,rfl,r,xi.app s q⟩
theorem xi.one{G:G3}{y:Y}{x:V}(r:RV G H y x):xi G H [y] [x]:=⟨x,[],rfl,r,rfl⟩
theorem xi.take{G:G3}{H:Hp}:∀{ys:List Y} {xs:List V} (n:Nat),xi G H ys xs->xi G H (ys.take n) (xs.take n)
 |[],_,n,h=>by cases h;simp[xi]
 |_::_,_,0,_=>by simp[xi]
 |_::_,_,n+1,⟨x,xs',e,r,s⟩=>by subst e;exact⟨x,xs'.take n,rfl,r,xi.take n s⟩
theorem xi.drop{G:G3}{H:Hp}:∀{ys:List Y} {xs:List V} (n:Nat),xi G H ys xs->xi G H (ys.drop n) (xs.drop n)
 |[],_,n,h=>by cases h;simp[xi]
 |_::_,_,0,h=>h
 |_::_,_,n+1,⟨x,xs',e,r,s⟩=>by subst e;exact xi.drop n s
theorem xi.setY{G:G3}{H:Hp}{y:Y}{x:V}(r:RV G H y x):∀{ys:List Y} {xs:List V} (i:Nat),xi G H ys xs->xi G H (ys.set i y) (xs.set i x)
 |[],_,_,h=>by cases h;simp[xi]
 |_::_,_,0,⟨x',xs',e,_,s⟩=>by subst e;exact⟨x,xs',rfl,r,s⟩
 |_::_,_,i+1,⟨x',xs',e,q,s⟩=>by subst e;exact⟨x',xs'.set i x,rfl,q,xi.setY r i s⟩
theorem xi.dropLast{G:G3}{ys:List Y}(h:xi G H ys xs):xi G H ys.dropLast xs.dropLast:=by rw[List.dropLast_eq_take,List.dropLast_eq_take,h.length];exact h.take _
theorem xi.eraseIdx{G:G3}{H:Hp}:∀{ys:List Y} {xs:List V} (n:Nat),xi G H ys xs->xi G H (ys.eraseIdx n) (xs.eraseIdx n)
 |[],_,n,h=>by cases h;simp[xi]
 |_::_,_,0,⟨x,xs',e,r,s⟩=>by subst e;exact s
 |_::_,_,n+1,⟨x,xs',e,r,s⟩=>by subst e;exact⟨x,xs'.eraseIdx n,rfl,r,xi.eraseIdx n s⟩
def RO(G:G3)(H:Hp)(a:Addr):LO->Prop
 |.lst ys=>∃xs,H a=some (.lst xs)/\xi G H ys xs
 |.dct kvs=>∃xs,H a=some (.dK xs)/\Paired (fun(p:jg×Y) (q:jg×V)=>p.1=q.1/\RV G H p.2 q.2) kvs xs
 |.ins C fs=>∃dx xs,H a=some (.ins C dx xs)/\Paired (fun(p:Str×Y) (q:Str×V)=>p.1=q.1/\RV G H p.2 q.2) fs xs
 |.exc C=>an7 G.K H a C
 |.tb q=>o7 H a q
def jk(G:G3)(H:Hp)(L:ql):Prop:=∀a o,L a=some o->RO G H a o
theorem RO.ex{G:G3}{a:Addr}:∀{o:LO},RO G H a o->∃u,H a=some u
 |.lst _,⟨_,h,_⟩=>⟨_,h⟩
 |.dct _,⟨_,h,_⟩=>⟨_,h⟩
 |.ins _ _,⟨_,_,h,_⟩=>⟨_,h⟩
 |.exc _,⟨_,h,_⟩=>⟨_,h⟩
 |.tb _,⟨_,h,_⟩=>⟨_,h⟩
theorem jk.none{G:G3}{L:ql}(h:jk G H L){p:Addr}(hp:H p=none):L p=none:=by cases e:L p with|none=>rfl|some o=>obtain⟨u,q⟩:=(h p o e).ex;rw[hp] at q;cases q
theorem RO.keep{G:G3}(t:j7 H H'){a:Addr}(e:H' a=H a):∀{o:LO},RO G H a o->RO G H' a o
 |.lst _,⟨xs,h,r⟩=>⟨xs,e.trans h,r.ts t⟩
 |.dct _,⟨xs,h,r⟩=>⟨xs,e.trans h,EH r fun _ _ ⟨a,b⟩=>⟨a,b.ts t⟩⟩
 |.ins _ _,⟨dx,xs,h,r⟩=>⟨dx,xs,e.trans h,EH r fun _ _ ⟨a,b⟩=>⟨a,b.ts t⟩⟩
 |.exc _,⟨o,h,c⟩=>⟨o,e.trans h,c⟩
 |.tb _,h=>o7.keep h e fun b o u z=>t b _ rfl z
theorem jk.skip{G:G3}{L:ql}(h:jk G H L){p:Addr}{o:HO}(hp:H p=.none):jk G (upd H p o) L:=fun a u e=>by obtain⟨x,q⟩:=(h a u e).ex;exact(h a u e).keep (EE hp) (qo (j5 q hp))
theorem jk.newL{G:G3}{L:ql}(h:jk G H L){p:Addr}{ys:List Y}(hp:H p=.none)(r:xi G H ys xs):jk G (upd H p (.lst xs)) (qd L p (.lst ys)):=fun a u e=>by
 by_cases c:a=p
 ·subst c;rw[q9] at e;cases e;exact⟨xs,zv,r.ts (EE hp)⟩
 ·rw[qa c] at e;exact(h a u e).keep (EE hp) (qo c)
theorem jk.setL{G:G3}{L:ql}(h:jk G H L){p:Addr}{ys:List Y}(hp:H p=some (.lst zs))(r:xi G H ys xs):jk G (upd H p (.lst xs)) (qd L p (.lst ys)):=fun a u e=>by
 by_cases c:a=p
 ·subst c;rw[q9] at e;cases e;exact⟨xs,zv,r.ts (EN hp)⟩
 ·rw[qa c] at e;exact(h a u e).keep (EN hp) (qo c)
def qk(L L':ql):Prop:=∀a o,L a=some o->L' a=some o
theorem qk.refl(L:ql):qk L L:=fun _ _ h=>h
abbrev ED:=@qk.refl
theorem qk.trans{L L1 L2:ql}(a:qk L L1)(b:qk L1 L2):qk L L2:=fun c o h=>b c o (a c o h)
theorem qk.new{L:ql}{p:Addr}{o:LO}(h:L p=none):qk L (qd L p o):=fun a u e=>by rw[qa (xo e h)];exact e
abbrev By:=@qk.new
theorem jk.sub{G:G3}{L L':ql}(h:jk G H L')(s:qk L L'):jk G H L:=fun a o e=>h a o (s a o e)
abbrev ji:=List (Option Y)
structure vz(G:G3)(H:Hp)(σ:St)(τ:ji):Prop where
 len:σ.length=τ.length
 get:∀(i:Nat) y,τ[i]?=some (some y)->∃v,σ[i]?=some (some v)/\RV G H y v
theorem vz.ts{G:G3}{τ:ji}(h:vz G H σ τ)(t:j7 H H'):vz G H' σ τ:=
 ⟨h.len,fun i y e=>let ⟨v,a,b⟩:=h.get i y e;⟨v,a,b.ts t⟩⟩
theorem vz.set{G:G3}{τ:ji}(h:vz G H σ τ){y:Y}(r:RV G H y v):vz G H (σ.set i (some v)) (τ.set i (some y)):=by
 refine⟨by simp[h.len],fun j z e=>?_⟩;by_cases c:i=j
 ·subst c;have hi:i<τ.length:=by
   by_cases q:i<τ.length
   ·exact q
   ·rw[Cu (by simp;omega)] at e;cases e
  rw[BV hi] at e;cases e;exact⟨v,BV (by rw[h.len];exact hi),r⟩
 ·rw[Be c] at e ⊢;exact h.get j z e
theorem vz.more{G:G3}{τ:ji}(h:vz G H σ τ)(n:Nat):vz G H (σ++List.replicate n none) (τ++List.replicate n none):=by
 refine⟨by simp[h.len],fun j z e=>?_⟩;by_cases c:j<τ.length
 ·rw[Ay c] at e;rw[Ay (by rw[h.len];exact c)];exact h.get j z e
 ·rw[Al (by omega),Cg] at e;split at e<;>cases e
def tG:ji->Nat->Option Y
 |[],_=>none
 |o::_,0=>o
 |_::r,i+1=>tG r i
theorem pD:∀(τ:ji) (i:Nat) {y:Y},tG τ i=some y->τ[i]?=some (some y)
 |[],_,_,h=>by cases h
 |o::_,0,_,h=>by simp[tG] at h;simp[h]
 |_::r,i+1,_,h=>by simp only[CU];exact pD r i h
abbrev YK:=Y->ql->Prop
abbrev xw:=ji->ql->YK->Prop
abbrev gL:=ji->ql->(Bool->ql->Prop)->Prop
abbrev dU:=ji->ql->(List Y->ql->Prop)->Prop
structure xr where
 nx:ji->ql->Prop
 rt:YK
 bk:ji->ql->Prop:=fun _ _=>False
 ct:ji->ql->Prop:=fun _ _=>False
abbrev kn:=xr->ji->ql->Prop
abbrev iE:=Y->ji->ql->(ji->ql->Prop)->Prop
abbrev sC:=List Y->ji->ql->(ji->ql->Prop)->Prop
abbrev TI3:=ji->ql->(List Y->(ql->Prop)->ql->Prop)->Prop
abbrev uI:=Y->Y->ql->YK->Prop
def yg(G:G3)(H:Hp)(Q3:YK)(Q:VK):Prop:=∀v H' y L',j7 H H'->jk G H' L'->RV G H' y v->Q3 y L'->Q v H'
def ady(G:G3)(H:Hp)(Q3:Bool->ql->Prop)(Q:Bool->Hp->Prop):Prop:=∀b H' L',j7 H H'->jk G H' L'->Q3 b L'->Q b H'
def api(G:G3)(H:Hp)(Q3:List Y->ql->Prop)(Q:List V->Hp->Prop):Prop:=∀vs H' ys L',j7 H H'->jk G H' L'->xi G H' ys vs->Q3 ys L'->Q vs H'
def mR(G:G3)(H:Hp)(Q3:ji->ql->Prop)(Q:St->Hp->Prop):Prop:=∀σ H' τ L',j7 H H'->vz G H' σ τ->jk G H' L'->Q3 τ L'->Q σ H'
theorem yg.ts{G:G3}{Q3:YK}{Q:VK}(h:yg G H Q3 Q)(t:j7 H H'):yg G H' Q3 Q:=fun v H2 y L' t2=>h v H2 y L' (t.trans t2)
theorem ady.ts{G:G3}{Q3:Bool->ql->Prop}{Q:Bool->Hp->Prop}(h:ady G H Q3 Q)(t:j7 H H'):ady G H' Q3 Q:=fun v H2 L' t2=>h v H2 L' (t.trans t2)
theorem mR.ts{G:G3}{Q3:ji->ql->Prop}{Q:St->Hp->Prop}(h:mR G H Q3 Q)(t:j7 H H'):mR G H' Q3 Q:=fun v H2 y L' t2=>h v H2 y L' (t.trans t2)
structure ae2(G:G3)(H:Hp)(D3:xr)(D:uD):Prop where
 nx:mR G H D3.nx D.nx
 rt:yg G H D3.rt D.rt
 bk:mR G H D3.bk D.bk
 ct:mR G H D3.ct D.ct
theorem ae2.ts{G:G3}{D3:xr}{D:uD}(h:ae2 G H D3 D)(t:j7 H H'):ae2 G H' D3 D:=⟨h.nx.ts t,h.rt.ts t,h.bk.ts t,h.ct.ts t⟩
def wD(G:G3)(t:xw):TE:=fun σ H Q=>∃τ L Q3,vz G H σ τ/\jk G H L/\t τ L Q3/\yg G H Q3 Q
def upT(G:G3)(t:gL):TT:=fun σ H Q=>∃τ L Q3,vz G H σ τ/\jk G H L/\t τ L Q3/\ady G H Q3 Q
def upA(G:G3)(t:dU):TA:=fun σ H Q=>∃τ L Q3,vz G H σ τ/\jk G H L/\t τ L Q3/\api G H Q3 Q
def upS(G:G3)(t:kn):L2.TS:=fun D σ H=>∃τ L D3,vz G H σ τ/\jk G H L/\t D3 τ L/\ae2 G H D3 D
def upG(G:G3)(g:iE):TG:=fun v σ H Q=>∃y τ L Q3,RV G H y v/\vz G H σ τ/\jk G H L/\g y τ L Q3/\mR G H Q3 Q
def ao2(G:G3)(g:sC):zR:=fun vs σ H Q=>∃ys τ L Q3,xi G H ys vs/\vz G H σ τ/\jk G H L/\g ys τ L Q3/\mR G H Q3 Q
structure gq(G:G3)(H₀:Hp)(J:It)(ys:List Y)(keep:ql->Prop):Prop where
 go:∀i H L,j7 H₀ H->jk G H L->keep L->i<ys.length->J.go i H
 yld:∀i H L x H' y,j7 H₀ H->jk G H L->keep L->ys[i]?=some y->J.yld i H x H'->j7 H H'/\jk G H' L/\RV G H' y x
 stop:∀H L,j7 H₀ H->jk G H L->keep L->J.stop ys.length H
def upI(G:G3)(wi:TI3):TI:=fun σ H R=>∃τ L R3,vz G H σ τ/\jk G H L/\wi τ L R3/\∀J H' ys keep L',j7 H H'->jk G H' L'->gq G H' J ys keep->R3 ys keep L'->R J H'
def mG(G:G3)(r3:uI):R2:=fun x y H Q=>∃x3 y3 L Q3,RV G H x3 x/\RV G H y3 y/\jk G H L/\r3 x3 y3 L Q3/\yg G H Q3 Q
def upL(G:G3)(r3:List Y->ql->YK->Prop):List V->Hp->VK->Prop:=fun xs H Q=>∃ys L Q3,xi G H ys xs/\jk G H L/\r3 ys L Q3/\yg G H Q3 Q
def upU(G:G3)(r3:Y->ql->YK->Prop):V->Hp->VK->Prop:=fun x H Q=>∃y L Q3,RV G H y x/\jk G H L/\r3 y L Q3/\yg G H Q3 Q
theorem PE.imp{t u:TE}(h:PE X e t)(q:∀σ H Q,u σ H Q->t σ H Q):PE X e u:=fun pins s σ H Q I z=>h pins s σ H Q I (q σ H Q z)
abbrev EF:=@PE.imp
theorem PT.imp{t u:TT}(h:PT X e t)(q:∀σ H Q,u σ H Q->t σ H Q):PT X e u:=fun pins s σ H Q I z=>h pins s σ H Q I (q σ H Q z)
theorem PW.imp{t u:TT}(h:PW X e t)(q:∀σ H Q,u σ H Q->t σ H Q):PW X e u:=fun wh pins s σ H Q I z=>h wh pins s σ H Q I (q σ H Q z)
theorem PA.imp{e:List Expr}{t u:TA}(h:PA X e t)(q:∀σ H Q,u σ H Q->t σ H Q):PA X e u:=fun pos pins s σ H Q I z=>h pos pins s σ H Q I (q σ H Q z)
theorem PS.imp{e:Stmt}{t u:L2.TS}(h:PS X e t)(q:∀D σ H,u D σ H->t D σ H):PS X e u:=fun pins s σ H Q I z=>h pins s σ H Q I (q _ σ H z)
abbrev EI:=@PS.imp
theorem jP.imp{e:List Stmt}{t u:L2.TS}(h:jP X e t)(q:∀D σ H,u D σ H->t D σ H):jP X e u:=fun pins s σ H Q I z=>h pins s σ H Q I (q _ σ H z)
theorem PF.imp{e:List Expr}{t u:TT}(h:PF X e t)(q:∀σ H Q,u σ H Q->t σ H Q):PF X e u:=fun pins s σ H Q I z=>h pins s σ H Q I (q σ H Q z)
end L3
variable {g:L3.iE}{y:L3.Y}{D:L3.xr}{tA tc:L3.gL}{ta tb te to:L3.xw}{ys:List L3.Y}{L L' L0 L1:L3.ql}{G:L3.G3}{τ:L3.ji}{gs:L3.sC}{tr:L3.dU}
namespace L3
open PySem L2
def ke(b:Bool)(A B:Prop):Prop:=match b with
 |true=>A
 |false=>B
theorem afs{b:Bool}{A B:Prop}(h:b=true->A)(k:b=false->B):ke b A B:=by cases b with|true=>exact h rfl|false=>exact k rfl
theorem lW{b:Bool}{A B:Prop}(e:b=true)(h:A):ke b A B:=by rw[e];exact h
theorem bT{b:Bool}{A B:Prop}(e:b=false)(h:B):ke b A B:=by rw[e];exact h
theorem ju{p:Prop} [Decidable p]{A B:Prop}(h:p->A)(k:¬p->B):ke (decide p) A B:=by
 by_cases c:p
 ·rw[AB c];exact h c
 ·rw[AA c];exact k c
def nb(neg b:Bool):Bool:=match neg with
 |true=>!b
 |false=>b
def qb(i:Nat)(τ:ji)(L:ql)(Q:YK):Prop:=match tG τ i with
 |some y=>Q y L
 |none=>False
def yC(y:Y)(_:ji)(L:ql)(Q:YK):Prop:=Q y L
def zr(r:uI)(ta tb:xw)(τ:ji)(L:ql)(Q:YK):Prop:=ta τ L fun x L1=>tb τ L1 fun y L2=>r x y L2 Q
def yUn(r:Y->ql->YK->Prop)(ta:xw)(τ:ji)(L:ql)(Q:YK):Prop:=ta τ L fun x L1=>r x L1 Q
def yI(C:Int->Int->Prop)(g:Int->Int->Y)(x y:Y)(L:ql)(Q:YK):Prop:=match x,y with
 |.int i,.int j=>C i j/\Q (g i j) L
 |_,_=>False
def yI0(g:Int->Int->Y)(x y:Y)(L:ql)(Q:YK):Prop:=match x,y with
 |.int i,.int j=>Q (g i j) L
 |_,_=>False
def an9(x:Y)(L:ql)(Q:YK):Prop:=match x with
 |.int i=>Q (.int (-i)) L
 |_=>False
def bK(L:ql):Y->Option (List Y)
 |.tup ys=>some ys
 |.sq ys=>some ys
 |.ref a=>match L a with
  |some (.lst ys)=>some ys
  |_=>none
 |_=>none
@[irreducible] def dO (L:ql) (a:Addr) (k:List Y->Prop):Prop:=match L a with
 |some (.lst ys)=>k ys
 |_=>False
theorem v9{a:Addr}{k:List Y->Prop}(h:dO L a k):∃ys,L a=some (.lst ys)/\k ys:=by
 unfold dO at h;split at h
 ·rename_i ys e;exact⟨ys,e,h⟩
 ·exact h.elim
theorem qu{a:Addr}{k:List Y->Prop}(e:L a=some (.lst ys))(h:k ys):dO L a k:=by unfold dO;rw[e];exact h
def gW(L:ql)(x:Y)(k:List Y->Prop):Prop:=match x with
 |.tup ys=>k ys
 |.sq ys=>k ys
 |.ref a=>dO L a k
 |_=>False
theorem vi{a:Addr}(h:L a=some (.lst ys)):bK L (.ref a)=some ys:=by show(match L a with | some (.lst ys)=>some ys | _=>none)=some ys;rw[h]
theorem w9{x:Y}{k:List Y->Prop}(h:gW L x k):∃ys,bK L x=some ys/\k ys:=by
 cases x with
 |tup ys=>exact⟨ys,rfl,h⟩
 |sq ys=>exact⟨ys,rfl,h⟩
 |ref a=>obtain⟨ys,e,q⟩:=v9 h;exact⟨ys,vi e,q⟩
 |_=>exact h.elim
theorem gR{a:Addr}(h:bK L (.ref a)=some ys):L a=some (.lst ys):=by
 have h':(match L a with | some (.lst ys)=>some ys | _=>none)=some ys:=h;split at h'
 ·rename_i e;cases h';exact e
 ·cases h'
theorem af9{x:Y}{k:List Y->Prop}(e:bK L x=some ys)(h:k ys):gW L x k:=by cases x with|tup zs=>cases e;exact h|sq zs=>cases e;exact h|ref a=>exact qu (gR e) h|_=>cases e
theorem qe{a:Addr}{k:List Y->Prop}(e:L a=some (.lst ys))(h:k ys):gW L (.ref a) k:=af9 (vi e) h
def vn(x y:Y)(L:ql)(Q:YK):Prop:=match x,y with
 |.int i,.int j=>Q (.int (i+j)) L
 |.str a,.str b=>a.length+b.length≤sizeLine/\Q (.str (a++b)) L
 |.ref a,.ref b=>∃ys zs,L a=some (.lst ys)/\L b=some (.lst zs)/\ys.length+zs.length≤sizeLine/\∀p,L p=none->Q (.ref p) (qd L p (.lst (ys++zs)))
 |_,_=>False
def wG(L:ql)(Q:α->ql->Prop):Option α->Prop
 |some v=>Q v L
 |none=>False
def wz(kvs:List (jg×Y))(k:jg):Option Y:=(kvs.find? fun p=>decide (p.1=k)).map (·.2)
@[irreducible] def tJ (L:ql) (a:Addr) (k:List (jg×Y)->Prop):Prop:=match L a with
 |some (.dct kvs)=>k kvs
 |_=>False
theorem kM{a:Addr}{k:List (jg×Y)->Prop}(h:tJ L a k):∃kvs,L a=some (.dct kvs)/\k kvs:=by
 unfold tJ at h;split at h
 ·rename_i ys e;exact⟨ys,e,h⟩
 ·exact h.elim
theorem kc{a:Addr}{k:List (jg×Y)->Prop}{kvs:List (jg×Y)}(e:L a=some (.dct kvs))(h:k kvs):tJ L a k:=by unfold tJ;rw[e];exact h
def bz(x y:Y)(L:ql)(Q:YK):Prop:=match x,y with
 |.str z,.int i=>z.length≤sizeLine/\wG L (fun c L=>Q (.str ⟨#[c]⟩) L) (dg z.cps.toList i)
 |.cd kvs,.str k=>wG L (fun s L=>Q (.str s) L) (kvs.lookup k)
 |.ref a,.str k=>tJ L a fun kvs=>wG L Q (wz kvs (.inr k))
 |x,.int i=>gW L x fun ys=>wG L Q (dg ys i)
 |_,_=>False
def ft(xs:List Y)(L:ql)(Q:YK):Prop:=match xs with
 |[.str z]=>z.length≤sizeLine/\Q (.int z.length) L
 |[x]=>gW L x fun ys=>Q (.int ys.length) L
 |_=>False
def adb(xs:List Y)(L:ql)(Q:YK):Prop:=match xs with
 |[.int i,.int j]=>Q (.int (max i j)) L
 |_=>False
def ahh(xs:List Y)(L:ql)(Q:YK):Prop:=match xs with
 |[.int i,.int j]=>Q (.int (min i j)) L
 |_=>False
inductive iF where
 |non | bool | int | str | tuple | list | dict
def iF.nm:iF->String
 |.non => "NoneType"
 |.bool => "bool"
 |.int => "int"
 |.str => "str"
 |.tuple => "tuple"
 |.list => "list"
 |.dict => "dict"
def tyY(L:ql):Y->Option iF
 |.non=>some .non
 |.bl _=>some .bool
 |.int _=>some .int
 |.str _=>some .str
 |.tup _=>some .tuple
 |.sq _=>some .list
 |.ref a=>match L a with
  |some (.lst _)=>some .list
  |some (.dct _)=>some .dict
  |_=>none
 |_=>none
theorem tyL{a:Addr}(h:L a=some (.lst ys)):tyY L (.ref a)=some .list:=by show(match L a with | some (.lst _)=>some iF.list | some (.dct _)=>some .dict | _=>none)=some .list;rw[h]
def bJ:iF->iF->Bool
 |.bool,.int=>true
 |.bool,.bool=>true
 |.int,.int=>true
 |.str,.str=>true
 |.tuple,.tuple=>true
 |.list,.list=>true
 |.dict,.dict=>true
 |.non,.non=>true
 |_,_=>false
@[irreducible] def tyK (L:ql) (a:Addr) (k:iF->Prop):Prop:=match tyY L (.ref a) with
 |some T=>k T
 |none=>False
theorem aex{a:Addr}{k:iF->Prop}(h:tyK L a k):∃T,tyY L (.ref a)=some T/\k T:=by
 unfold tyK at h;split at h
 ·rename_i T e;exact⟨T,e,h⟩
 ·exact h.elim
theorem cJ{a:Addr}{k:iF->Prop}(e:L a=some (.lst ys))(h:k .list):tyK L a k:=by unfold tyK;rw[tyL e];exact h
def aiq(L:ql)(x:Y)(k:iF->Prop):Prop:=match x with
 |.non=>k .non
 |.bl _=>k .bool
 |.int _=>k .int
 |.str _=>k .str
 |.tup _=>k .tuple
 |.sq _=>k .list
 |.ref a=>tyK L a k
 |_=>False
theorem rm{x:Y}{k:iF->Prop}(h:aiq L x k):∃T,tyY L x=some T/\k T:=by cases x with|ref a=>exact aex h|ty n=>exact h.elim|cd k=>exact h.elim|_=>exact⟨_,rfl,h⟩
def aX(S:iF)(te:xw)(τ:ji)(L:ql)(Q:YK):Prop:=te τ L fun x L1=>aiq L1 x fun T=>Q (.bl (bJ T S)) L1
def rN(S S':iF)(te:xw)(τ:ji)(L:ql)(Q:YK):Prop:=te τ L fun x L1=>aiq L1 x fun T=>Q (.bl (bJ T S||bJ T S')) L1
def fw:Y->Bool
 |.non=>true
 |.bl _=>true
 |.int _=>true
 |.str _=>true
 |_=>false
def mQ:Y->V
 |.non=>.non
 |.bl b=>.bl b
 |.int i=>.int i
 |.str x=>.str x
 |_=>.ty "?"
theorem RV.flat :∀{y:Y} {v:V},fw y=true->RV G H y v->v=mQ y
 |.non,_,_,h=>h
 |.bl _,_,_,h=>h
 |.int _,_,_,h=>h
 |.str _,_,_,h=>h
theorem fJ:∀{y:Y},fw y=true->aI (mQ y)=true
 |.non,_=>rfl
 |.bl _,_=>rfl
 |.int _,_=>rfl
 |.str _,_=>rfl
theorem xi.flat :∀{ys:List Y} {xs:List V},ys.all fw=true->xi G H ys xs->xs=ys.map mQ
 |[],_,_,h=>h
 |y::ys,_,f,⟨x,xs',e,r,s⟩=>by rw[DD,AR] at f;rw[e,r.flat f.1,s.flat f.2];rfl
def abf:Y->Bool
 |.ref _=>true
 |.sq _=>true
 |_=>false
def x5(L:ql):Nat->Y->Da->Prop
 |0,y,d=>fw y=true/\d=.s (mQ y)
 |n+1,y,d=>(fw y=true/\d=.s (mQ y))\/(∃ys ds,y=.tup ys/\d=.tup ds/\Paired (x5 L n) ys ds)\/(∃ys ds,abf y=true/\d=.lst ds/\bK L y=some ys/\Paired (x5 L n) ys ds)
def xR:Y->Bool
 |.ref _=>true
 |.tup _=>true
 |.sq _=>true
 |_=>false
def nX(neg:Bool)(x y:Y)(L:ql)(Q:YK):Prop:=match x,y with
 |.int i,.int j=>Q (.bl (nb neg (decide (i=j)))) L
 |.str i,.str j=>Q (.bl (nb neg (decide (i=j)))) L
 |.bl i,.bl j=>Q (.bl (nb neg (decide (i=j)))) L
 |x,y=>xR x=true/\xR y=true/\∃n m d e,n≤128/\x5 L n x d/\x5 L m y e/\Q (.bl (nb neg (Da.eq d e))) L
def dI(neg:Bool)(ta:xw)(τ:ji)(L:ql)(Q:YK):Prop:=ta τ L fun x L1=>match x with
 |.non=>Q (.bl (!neg)) L1
 |_=>Q (.bl neg) L1
def yB(t:xw)(τ:ji)(L:ql)(Q:Bool->ql->Prop):Prop:=t τ L fun x L1=>match x with
 |.bl c=>Q c L1
 |_=>False
def o4(t u:gL)(τ:ji)(L:ql)(Q:Bool->ql->Prop):Prop:=t τ L fun c L1=>ke c (u τ L1 Q) (Q false L1)
def yOr(t u:gL)(τ:ji)(L:ql)(Q:Bool->ql->Prop):Prop:=t τ L fun c L1=>ke c (Q true L1) (u τ L1 Q)
def ae5(t:gL)(τ:ji)(L:ql)(Q:Bool->ql->Prop):Prop:=t τ L fun c L1=>Q (!c) L1
def jV(ta tb:xw)(τ:ji)(L:ql)(Q:YK):Prop:=ta τ L fun x L1=>match x with
 |.bl c=>ke c (tb τ L1 Q) (Q (.bl false) L1)
 |_=>False
def yIf(t:gL)(ta tb:xw)(τ:ji)(L:ql)(Q:YK):Prop:=t τ L fun c L1=>ke c (ta τ L1 Q) (tb τ L1 Q)
def qx(_:ji)(L:ql)(Q:List Y->ql->Prop):Prop:=Q [] L
def qf(ta:xw)(tr:dU)(τ:ji)(L:ql)(Q:List Y->ql->Prop):Prop:=ta τ L fun x L1=>tr τ L1 fun xs L2=>Q (x::xs) L2
def k6(t:dU)(τ:ji)(L:ql)(Q:YK):Prop:=t τ L fun ys L1=>match Nat.ble ys.length 1000 with
 |true=>Q (.tup ys) L1
 |false=>False
def w5(t:dU)(τ:ji)(L:ql)(Q:YK):Prop:=t τ L fun ys L1=>match Nat.ble ys.length 1000 with
 |true=>∀p,L1 p=none->Q (.ref p) (qd L1 p (.lst ys))
 |false=>False
def gm(r:List Y->ql->YK->Prop)(t:dU)(τ:ji)(L:ql)(Q:YK):Prop:=t τ L fun vs L1=>r vs L1 Q
abbrev TO3:=ji->ql->(Option Int->ql->Prop)->Prop
def gD(_:ji)(L:ql)(Q:Option Int->ql->Prop):Prop:=Q none L
def kK(t:xw)(τ:ji)(L:ql)(Q:Option Int->ql->Prop):Prop:=t τ L fun x L1=>match x with
 |.int i=>Q (some i) L1
 |_=>False
def r6(xs:List Y)(lo hi:Option Int):List Y:=(xs.drop (HT.sIx xs.length 0 lo)).take (HT.sIx xs.length xs.length hi - HT.sIx xs.length 0 lo)
def am4(x:Y)(lo hi:Option Int)(L:ql)(Q:YK):Prop:=match x with
 |.ref a=>dO L a fun ys=>∀p,L p=none->Q (.ref p) (qd L p (.lst (r6 ys lo hi)))
 |.sq ys=>∀p,L p=none->Q (.ref p) (qd L p (.lst (r6 ys lo hi)))
 |_=>False
def ySl(r:Y->Option Int->Option Int->ql->YK->Prop)(te:xw)(tl th:TO3)(τ:ji)(L:ql)(Q:YK):Prop:=te τ L fun x L1=>tl τ L1 fun l L2=>th τ L2 fun u L3=>r x l u L3 Q
def qt(t u:kn)(D:xr)(τ:ji)(L:ql):Prop:=t { D with nx:=u D } τ L
def x0(D:xr)(τ:ji)(L:ql):Prop:=D.nx τ L
def agd(D:xr)(τ:ji)(L:ql):Prop:=D.ct τ L
def jm(te:xw)(D:xr)(τ:ji)(L:ql):Prop:=te τ L fun _ L1=>D.nx τ L1
def jy(te:xw)(D:xr)(τ:ji)(L:ql):Prop:=te τ L D.rt
def ab5(D:xr)(_:ji)(L:ql):Prop:=D.rt .non L
def va(c:gL)(t u:kn)(D:xr)(τ:ji)(L:ql):Prop:=c τ L fun b L1=>ke b (t D τ L1) (u D τ L1)
def zw(te:xw)(g:iE)(D:xr)(τ:ji)(L:ql):Prop:=te τ L fun x L1=>g x τ L1 D.nx
def aa:ji->Nat->Y->ji
 |[],_,_=>[]
 |_::r,0,y=>some y::r
 |o::r,i+1,y=>o::aa r i y
theorem km:∀(τ:ji) (i:Nat) (y:Y),aa τ i y=τ.set i (some y)
 |[],_,_=>rfl
 |_::_,0,_=>rfl
 |o::r,i+1,y=>by rw[aa,km r i y];rfl
def qg(i:Nat)(y:Y)(τ:ji)(L:ql)(Q:ji->ql->Prop):Prop:=Q (aa τ i y) L
def w4(ys:List Y)(τ:ji)(L:ql)(Q:ji->ql->Prop):Prop:=match ys with
 |[]=>Q τ L
 |_=>False
def zu(t:iE)(u:sC)(ys:List Y)(τ:ji)(L:ql)(Q:ji->ql->Prop):Prop:=match ys with
 |[]=>False
 |y::r=>t y τ L fun τ' L'=>u r τ' L' Q
def wm(n:Nat)(t:sC)(y:Y)(τ:ji)(L:ql)(Q:ji->ql->Prop):Prop:=match y with
 |.tup ys=>match ys.length==n with
  |true=>t ys τ L Q
  |false=>False
 |_=>False
def aje(i j:Nat)(ta:dU)(D:xr)(τ:ji)(L:ql):Prop:=ta τ L fun vs L1=>match vs with
 |[v,w]=>D.nx (aa (aa τ i v) j w) L1
 |_=>False
def dy(W:α->ql->Prop)(x:α)(L:ql):Prop:=∃L',qk L' L/\W x L'
theorem frg{W:α->ql->Prop}{x:α}(h:W x L):dy W x L:=⟨L,ED L,h⟩
def ld(c:gL)(tb:kn)(D:xr)(τ:ji)(L:ql):Prop:=∃W:Nat->ji->ql->Prop,(∃m,W m τ L)/\∀m τ L,W m τ L->
 c τ L fun b L1=>ke b (∃N:ji->ql->Prop,(∀τ' L',N τ' L'->∃m',m'<m/\W m' τ' L')/\tb { D with nx:=dy N,ct:=dy N,bk:=D.nx } τ L1) (D.nx τ L1)
@[irreducible] def si (ys:List Y) (keep:ql->Prop) (g:iE) (tb:kn) (D:xr) (τ:ji) (L1:ql):Prop:=∃W:Nat->ji->ql->Prop,W 0 τ L1/\(∀i τ L,W i τ L->keep L)/\
 (∀i y τ L,ys[i]?=some y->W i τ L->g y τ L fun τ2 L2=>tb { D with nx:=dy (W (i+1)),ct:=dy (W (i+1)),bk:=D.nx } τ2 L2)/\∀τ L,W ys.length τ L->D.nx τ L
theorem af{keep:ql->Prop}{tb:kn}(h:∃W:Nat->ji->ql->Prop,W 0 τ L1/\(∀i τ L,W i τ L->keep L)/\
 (∀i y τ L,ys[i]?=some y->W i τ L->g y τ L fun τ2 L2=>tb { D with nx:=dy (W (i+1)),ct:=dy (W (i+1)),bk:=D.nx } τ2 L2)/\∀τ L,W ys.length τ L->D.nx τ L):si ys keep g tb D τ L1:=by unfold si;exact h
theorem aay{keep:ql->Prop}{tb:kn}(h:si ys keep g tb D τ L1):∃W:Nat->ji->ql->Prop,W 0 τ L1/\(∀i τ L,W i τ L->keep L)/\
 (∀i y τ L,ys[i]?=some y->W i τ L->g y τ L fun τ2 L2=>tb { D with nx:=dy (W (i+1)),ct:=dy (W (i+1)),bk:=D.nx } τ2 L2)/\∀τ L,W ys.length τ L->D.nx τ L:=by unfold si at h;exact h
def fD(wi:TI3)(g:iE)(tb:kn)(D:xr)(τ:ji)(L:ql):Prop:=wi τ L fun ys keep L1=>si ys keep g tb D τ L1
@[irreducible] def re (L:ql) (a:Addr) (R:List Y->(ql->Prop)->ql->Prop):Prop:=match L a with
 |some (.lst ys)=>R ys (fun L=>L a=some (.lst ys)) L
 |_=>False
theorem xz{a:Addr}{R:List Y->(ql->Prop)->ql->Prop}(h:L a=some (.lst ys))(q:∀keep:ql->Prop,(∀L',L' a=L a->keep L')->R ys keep L):re L a R:=by unfold re;rw[h];exact q _ fun L' e'=>e'.trans h
theorem qI{a:Addr}{R:List Y->(ql->Prop)->ql->Prop}(h:re L a R):∃ys keep,bK L (.ref a)=some ys/\keep L/\(∀L',keep L'->bK L' (.ref a)=some ys)/\R ys keep L:=by
 unfold re at h;split at h
 ·rename_i ys e;exact⟨ys,_,vi e,e,fun L' e'=>vi e',h⟩
 ·exact h.elim
def vq(tl:xw)(τ:ji)(L:ql)(R:List Y->(ql->Prop)->ql->Prop):Prop:=tl τ L fun x L1=>match x with
 |.ref a=>re L1 a R
 |.sq ys=>R ys (fun _=>True) L1
 |_=>False
def agn(tl:xw)(τ:ji)(L:ql)(R:List Y->(ql->Prop)->ql->Prop):Prop:=tl τ L fun x L1=>match x with
 |.tup ys=>R ys (fun _=>True) L1
 |_=>False
def wo(lo:Int)(n:Nat):List Y:=(List.range n).map fun k=>.int (lo+(k:Nat))
def hU(ta:dU)(τ:ji)(L:ql)(R:List Y->(ql->Prop)->ql->Prop):Prop:=ta τ L fun vs L1=>match vs with
 |[.int j]=>(-(2 ^ 62)≤j/\j<2 ^ 62)/\R (wo 0 j.toNat) (fun _=>True) L1
 |_=>False
def oy(_:ji)(L:ql)(Q:Bool->ql->Prop):Prop:=Q true L
@[irreducible] def yw (ys:List Y) (keep:ql->Prop) (n:Nat) (g:iE) (tc:gL) (te:xw) (τ:ji) (L1:ql) (Q:YK):Prop:=ys.length<sizeLine/\∃W:Nat->List Y->ql->Prop,W 0 [] L1/\(∀i zs L,W i zs L->keep L)/\
 (∀i y zs L,ys[i]?=some y->W i zs L->g y (τ++List.replicate n none) L fun τ2 L2=>tc τ2 L2 fun b L3=>ke b (te τ2 L3 fun z L4=>dy (W (i+1)) (zs++[z]) L4) (dy (W (i+1)) zs L3))/\
 ∀zs L,W ys.length zs L->∀p,L p=none->Q (.ref p) (qd L p (.lst zs))
theorem oE{keep:ql->Prop}{Q:YK}(h:ys.length<sizeLine/\∃W:Nat->List Y->ql->Prop,W 0 [] L1/\(∀i zs L,W i zs L->keep L)/\
 (∀i y zs L,ys[i]?=some y->W i zs L->g y (τ++List.replicate n none) L fun τ2 L2=>tc τ2 L2 fun b L3=>ke b (te τ2 L3 fun z L4=>dy (W (i+1)) (zs++[z]) L4) (dy (W (i+1)) zs L3))/\
 ∀zs L,W ys.length zs L->∀p,L p=none->Q (.ref p) (qd L p (.lst zs))):yw ys keep n g tc te τ L1 Q:=by unfold yw;exact h
theorem ae4{keep:ql->Prop}{Q:YK}(h:yw ys keep n g tc te τ L1 Q):ys.length<sizeLine/\∃W:Nat->List Y->ql->Prop,W 0 [] L1/\(∀i zs L,W i zs L->keep L)/\
 (∀i y zs L,ys[i]?=some y->W i zs L->g y (τ++List.replicate n none) L fun τ2 L2=>tc τ2 L2 fun b L3=>ke b (te τ2 L3 fun z L4=>dy (W (i+1)) (zs++[z]) L4) (dy (W (i+1)) zs L3))/\
 ∀zs L,W ys.length zs L->∀p,L p=none->Q (.ref p) (qd L p (.lst zs)):=by unfold yw at h;exact h
def pY(n:Nat)(wi:TI3)(g:iE)(tc:gL)(te:xw)(τ:ji)(L:ql)(Q:YK):Prop:=wi τ L fun ys keep L1=>yw ys keep n g tc te τ L1 Q
abbrev jj:=List Y->ql->YK->Prop
def zg(sp:jj)(t:dU)(τ:ji)(L:ql)(Q:YK):Prop:=t τ L fun ys L1=>sp ys L1 Q
def zq(x:Y)(vs:List Y)(L:ql)(Q:YK):Prop:=match x,vs with
 |.ref a,[v]=>dO L a fun ys=>ys.length<sizeLine/\Q .non (qd L a (.lst (ys++[v])))
 |_,_=>False
def fK(x:Y)(vs:List Y)(L:ql)(Q:YK):Prop:=match x,vs with
 |.ref a,[.ref b]=>dO L a fun ys=>dO L b fun zs=>ys.length+zs.length≤sizeLine/\Q .non (qd L a (.lst (ys++zs)))
 |_,_=>False
def ac9(x:Y)(vs:List Y)(L:ql)(Q:YK):Prop:=match x,vs with
 |.ref a,[]=>dO L a fun ys=>wG L (fun v L=>Q v (qd L a (.lst ys.dropLast))) (ys[ys.length - 1]?)
 |_,_=>False
end L3
variable {sp:L3.jj}
namespace L3
open PySem L2
section
theorem wn.imp{f:Value->Value->Sem Value}{r r':R2}(h:wn X f r)(q:∀x y H Q,r' x y H Q->r x y H Q):wn X f r':=fun pins s σ H x y v u Q I rx ry z=>h pins s σ H x y v u Q I rx ry (q x y H Q z)
abbrev ES:=@wn.imp
theorem UnR.imp{f:Value->Sem Value}{r r':V->Hp->VK->Prop}(h:UnR X f r)(q:∀x H Q,r' x H Q->r x H Q):UnR X f r':=fun pins s σ H x v Q I rx z=>h pins s σ H x v Q I rx (q x H Q z)
theorem x4.imp{f:Value}{r r':List V->Hp->VK->Prop}(h:x4 X f r)(q:∀x H Q,r' x H Q->r x H Q):x4 X f r':=fun pins s σ H x v Q I rx z=>h pins s σ H x v Q I rx (q x H Q z)
abbrev ET:=@x4.imp
theorem zI.imp{r r':R2}(h:zI X r)(q:∀x y H Q,r' x y H Q->r x y H Q):zI X r':=fun value slice pins s σ H x y v u Q I rx ry z=>h value slice pins s σ H x y v u Q I rx ry (q x y H Q z)
theorem lH.imp{id:String}{r r':V->List V->Hp->VK->Prop}(h:lH X id r)(q:∀x xs H Q,r' x xs H Q->r x xs H Q):lH X id r':=fun pins s σ H x xs v us Q I rx ry z=>h pins s σ H x xs v us Q I rx ry (q x xs H Q z)
theorem oj(rl:jk G H L)(r:RV G H y v)(h:bK L y=some ys):∃p xs,v=.ref p/\(wu G.K H p xs\/cL G.K H p xs)/\xi G H ys xs:=by
 cases y with
 |tup zs=>
  obtain⟨a,xs,e,s,q⟩:=r;cases h;exact⟨a,xs,e,.inr s,q⟩
 |sq zs=>
  obtain⟨a,xs,e,s,q⟩:=r;cases h;exact⟨a,xs,e,.inl s.sq,q⟩
 |ref a=>
  cases (show v=.ref a from r);have h':(match L a with | some (.lst ys)=>some ys | _=>none)=some ys:=h;split at h'
  ·rename_i zs e;cases h';obtain⟨xs,e2,q⟩:=rl a _ e;exact⟨a,xs,rfl,.inl (ER e2),q⟩
  ·cases h'
 |_=>cases h
theorem aj9{i:Int}(s:xi G H ys xs)(h:dg ys i=some y):∃x,dg xs i=some x/\RV G H y x:=by
 unfold dg at h ⊢;rw[<-s.length];cases e:ixN ys.length i with
 |none=>rw[e] at h;cases h
 |some j=>
  rw[e] at h;exact s.get (i:=j) h
end
section
variable {a b:Expr}{tc:xw} 
abbrev QE(X:Cx)(e:Expr)(t:xw):Prop:=PE X e (wD X.g3 t)
abbrev QT(X:Cx)(e:Expr)(t:gL):Prop:=PT X e (upT X.g3 t)
abbrev QW(X:Cx)(e:Expr)(t:gL):Prop:=PW X e (upT X.g3 t)
abbrev QA(X:Cx)(es:List Expr)(t:dU):Prop:=PA X es (upA X.g3 t)
abbrev QS(X:Cx)(st:Stmt)(t:kn):Prop:=PS X st (upS X.g3 t)
abbrev pZ(X:Cx)(st:List Stmt)(t:kn):Prop:=jP X st (upS X.g3 t)
abbrev QG(X:Cx)(e:Expr)(g:iE):Prop:=PG X e (upG X.g3 g)
abbrev QGs(X:Cx)(es:List Expr)(g:sC):Prop:=PGs X es (ao2 X.g3 g)
abbrev QI(X:Cx)(tg it:Expr)(w:TI3):Prop:=PI X tg it (upI X.g3 w)
abbrev QF(X:Cx)(es:List Expr)(t:gL):Prop:=PF X es (upT X.g3 t)
theorem QE.of_var(h:PE X e (ahi i)):QE X e (qb i):=EF h fun σ H Q ⟨τ,L,Q3,rs,rl,z,k⟩=>by
 unfold qb at z;split at z
 ·rename_i y ey;obtain⟨v,ev,rv⟩:=rs.get i y (pD _ _ ey);exact⟨v,ev,k v H y L (EC _) rl rv z⟩
 ·exact z.elim
theorem QE.of_c(h:PE X e (tC v))(q:∀H,RV X.g3 H y v):QE X e (yC y):=EF h fun σ H Q ⟨τ,L,Q3,rs,rl,z,k⟩=>k v H y L (EC _) rl (q H) z
theorem qv(i:Nat)(hN:X.N[i]?=some x:=by rfl)(hv:Vis X.env.scope x:=by first | exact Or.inl rfl | exact Or.inr (Or.inl rfl) | exact Or.inr (Or.inr rfl))(hd:Ef x:=by decide)
 (hcd:Eg x:=by decide):QE X (.Name x pos) (qb i):=QE.of_var (pv i hN hv hd hcd)
theorem gQ :QE X (.Constant .none j pos) (yC .non):=QE.of_c aiv fun _=>rfl
theorem kG{b:Bool} :QE X (.Constant (.bool b) j pos) (yC (.bl b)):=QE.of_c amw fun _=>rfl
theorem qj{i:Int} :QE X (.Constant (.int i) j pos) (yC (.int i)):=QE.of_c ak7 fun _=>rfl
theorem jp :QE X (.Constant (.str x) j pos) (yC (.str x)):=QE.of_c bW fun _=>rfl
theorem amz{c:Addr}(hg:Gl X x)(hm:X.mg x=some (.ref c))(q:∀H,RV X.g3 H y (.ref c))(hd:Ef x:=by decide):QE X (.Name x pos) (yC y):=QE.of_c (an2 hg hm hd) q
theorem vI{r:uI}(σ:St)(H:Hp)(Q:VK):wD G (zr r ta tb) σ H Q->tOp (mG G r) (wD G ta) (wD G tb) σ H Q:=fun⟨τ,L,Q3,rs,rl,z,k⟩=>
 ⟨τ,L,_,rs,rl,z,fun v H1 y L1 t1 rl1 rv1 z1=>⟨τ,L1,_,rs.ts t1,rl1,z1,fun v2 H2 y2 L2 t2 rl2 rv2 z2=>⟨y,y2,L2,Q3,rv1.ts t2,rv2,rl2,z2,k.ts (t1.trans t2)⟩⟩⟩
theorem qp{op:Operator}{r:uI}(h:wn X (binaryOp op) (mG X.g3 r))(ha:QE X a ta)(hb:QE X b tb):QE X (.BinOp a op b pos) (zr r ta tb):=EF (alg h ha hb) vI
theorem ane{r:uI}(h:zI X (mG X.g3 r))(ha:QE X a ta)(hb:QE X b tb)(hp:oJ b):QE X (.Subscript a b pos) (zr r ta tb):=EF (al8 h ha hb hp) vI
theorem w6{op:CmpOp}{r:uI}(h:wn X (compareOp op) (mG X.g3 r))(ha:QE X a ta)(hb:QE X b tb)(hm:behindInMarks op b=false):QE X (.Compare a [op] [b] pos) (zr r ta tb):=EF (adr h ha hb hm) vI
theorem an6{t:xw}(σ:St)(H:Hp)(Q:Bool->Hp->Prop):upT G (yB t) σ H Q->agj (wD G t) σ H Q:=fun⟨τ,L,Q3,rs,rl,z,k⟩=>
 ⟨τ,L,_,rs,rl,z,fun v H1 y L1 t1 rl1 rv1 z1=>by cases y with|bl b=>exact⟨b,rv1,k b H1 L1 t1 rl1 z1⟩|_=>exact z1.elim⟩
theorem agz{t:xw}(σ:St)(H:Hp)(Q:Bool->Hp->Prop):upT G (yB t) σ H Q->L2.tB (wD G t) σ H Q:=an6 σ H Q
theorem vd{op:CmpOp}{r:uI}(h:wn X (compareOp op) (mG X.g3 r))(ha:QE X a ta)(hb:QE X b tb)(hm:behindInMarks op b=false):QT X (.Compare a [op] [b] pos) (yB (zr r ta tb)):=
 PT.imp (aez h ha hb hm) fun σ H Q q=>by have q':=an6 σ H Q q;obtain⟨τ,L,Q3,rs,rl,z,k⟩:=q';exact vI σ H _ ⟨τ,L,Q3,rs,rl,z,k⟩
theorem kg(h:QE X e te)(he:∀whole,isTrue e X.env whole=(do let v <-whole;standAt e.pos;holding [v] (truthy v)):=by intro _;rfl):QT X e (yB te):=PT.imp (aik h he) agz
theorem OpI{f:Value->Value->Sem Value}{C:Int->Int->Prop}{g:Int->Int->V}{g3:Int->Int->Y}(h:wn X f (rI C g))(e:∀i j H,RV X.g3 H (g3 i j) (g i j)):wn X f (mG X.g3 (yI C g3)):=ES h fun x y H Q ⟨x3,y3,L,Q3,rx,ry,rl,z,k⟩=>by
 cases x3 with
 |int i=>
  cases y3 with|int j=>exact⟨i,j,rx,ry,z.1,k _ H _ L (EC _) rl (e i j H) z.2⟩|_=>exact z.elim
 |_=>cases y3<;>exact z.elim
theorem aja{f:Value->Value->Sem Value}{g:Int->Int->V}{g3:Int->Int->Y}(h:wn X f (rI0 g))(e:∀i j H,RV X.g3 H (g3 i j) (g i j)):wn X f (mG X.g3 (yI0 g3)):=ES h fun x y H Q ⟨x3,y3,L,Q3,rx,ry,rl,z,k⟩=>by
 cases x3 with
 |int i=>
  cases y3 with|int j=>exact⟨i,j,rx,ry,k _ H _ L (EC _) rl (e i j H) z⟩|_=>exact z.elim
 |_=>cases y3<;>exact z.elim
theorem bD:wn X (binaryOp .Sub) (mG X.g3 (yI0 fun i j=>.int (i - j))):=aja ajp fun _ _ _=>rfl
theorem qW:wn X (binaryOp .Mult) (mG X.g3 (yI ab3 fun i j=>.int (i*j))):=OpI ai0 fun _ _ _=>rfl
theorem aA:wn X (binaryOp .FloorDiv) (mG X.g3 (yI ajd fun i j=>.int (i / j))):=OpI adc fun _ _ _=>rfl
theorem v4:wn X (binaryOp .Mod) (mG X.g3 (yI (fun _ j=>0<j) fun i j=>.int (i % j))):=OpI ah9 fun _ _ _=>rfl
theorem an4:wn X (binaryOp .Pow) (mG X.g3 (yI ak9 fun i j=>.int (i ^ j.toNat))):=OpI ahu fun _ _ _=>rfl
theorem wX:wn X (compareOp .Lt) (mG X.g3 (yI0 fun i j=>.bl (decide (i<j)))):=aja alt fun _ _ _=>rfl
theorem aet:wn X (compareOp .Gt) (mG X.g3 (yI0 fun i j=>.bl (decide (j<i)))):=aja am3 fun _ _ _=>rfl
theorem jz:wn X (binaryOp .Add) (mG X.g3 vn):=ES afa fun x y H Q ⟨x3,y3,L,Q3,rx,ry,rl,z,k⟩=>by
 cases x3 with
 |int i=>
  cases y3 with|int j=>cases rx;cases ry;exact k _ H _ L (EC _) rl (by rfl) z|_=>exact z.elim
 |str i=>
  cases y3 with|str j=>cases rx;cases ry;exact⟨z.1,k _ H _ L (EC _) rl (by rfl) z.2⟩|_=>exact z.elim
 |ref a=>
  cases y3 with
  |ref b=>
   cases rx;cases ry;obtain⟨ys,zs,e1,e2,hz,q⟩:=z;obtain⟨xs,h1,r1⟩:=rl a _ e1;obtain⟨us,h2,r2⟩:=rl b _ e2;refine⟨xs,us,h1,h2,by rw[<-r1.length,<-r2.length];exact hz,fun p hp=>?_⟩;exact k _ _ _ _ (EE hp) (rl.newL hp (r1.app r2)) (by rfl) (q p (rl.none hp))
  |_=>exact z.elim
 |_=>cases y3<;>exact z.elim
theorem qL{kvs:List (Str×Str)}{k:Str}(h:kvs.lookup k=some x):eO (kvs.map fun p=>((Sum.inr p.1:jg),V.str p.2)) (Sum.inr k)=some (V.str x):=by
 induction kvs with
 |nil=>simp at h
 |cons p r ih=>
  obtain⟨a,b⟩:=p;unfold eO;rw[AG,BI];rw[A9] at h;by_cases c:k=a
  ·subst c;simp at h;simp[h]
  ·have c1:(k==a)=false:=by simpa using c
   rw[c1] at h;have c2:decide ((Sum.inr a:jg)=Sum.inr k)=false:=AA fun z=>c (Sum.inr.inj z).symm;simp only[c2];exact ih h
theorem nS{kvs:List (jg×Y)}{xs:List (jg×V)}{k:jg}(p:Paired (fun(p:jg×Y) (q:jg×V)=>p.1=q.1/\RV G H p.2 q.2) kvs xs)(h:wz kvs k=some y):∃x,eO xs k=some x/\RV G H y x:=by
 induction p with
 |nil=>cases h
 |@cons a b _ _ r t ih=>
  obtain⟨ka,ya⟩:=a;obtain⟨kb,vb⟩:=b;obtain⟨e,r⟩:=r;cases (show ka=kb from e);unfold wz at h;unfold eO;rw[BI] at h ⊢;by_cases c:ka=k
  ·have c':decide (ka=k)=true:=AB c;simp only[c'] at h ⊢;cases h;exact⟨vb,rfl,r⟩
  ·have c':decide (ka=k)=false:=AA c;simp only[c'] at h ⊢;exact ih h
theorem amx(K:Af)(P:Program)(w:World)(hK:X.K=K:=by rfl)(hP:X.prog=P:=by rfl)(hw:X.w=w:=by rfl):zI X (mG ⟨K,P,w⟩ bz):=by
 subst hK hP hw;refine zI.imp aoz fun x y H Q ⟨x3,y3,L,Q3,rx,ry,rl,z,k⟩=>?_;have seq:∀{i:Int} {x3:Y},RV X.g3 H x3 x->y=.int i->(gW L x3 fun ys=>wG L Q3 (dg ys i))->uIx X.K X.prog X.w x y H Q:=by
  intro i x3 rx ey z;subst ey;obtain⟨ys,es,z⟩:=w9 z;obtain⟨p,xs,e,sq,rv⟩:=oj rl rx es;subst e;cases ea:dg ys i with
  |none=>rw[ea] at z;exact z.elim
  |some y=>
   rw[ea] at z;obtain⟨x,ex,rvx⟩:=aj9 rv ea;exact⟨xs,x,sq,ex,k _ H _ L (EC _) rl rvx z⟩
 cases x3 with
 |str s=>
  cases y3 with
  |int i=>
   cases rx;cases ry;obtain⟨z1,z2⟩:=z;cases ea:dg s.cps.toList i with
   |none=>rw[ea] at z2;exact z2.elim
   |some c=>rw[ea] at z2;exact⟨z1,c,ea,k _ H _ L (EC _) rl (by rfl) z2⟩
  |_=>exact z.elim
 |cd kvs=>
  cases y3 with
  |str s=>
   obtain⟨a,ea,kd⟩:=rx;cases ea;cases ry;have z':wG L (fun s L=>Q3 (.str s) L) (kvs.lookup s):=z;cases el:kvs.lookup s with
   |none=>rw[el] at z';exact z'.elim
   |some t=>rw[el] at z';exact⟨_,_,.inr kd,qL el,k _ H _ L (EC _) rl (by rfl) z'⟩
  |int i=>exact z.elim
  |_=>exact z.elim
 |ref a=>
  cases y3 with
  |int i=>exact seq (x3:=.ref a) rx ry z
  |str s=>
   cases rx;cases ry;obtain⟨kvs,e,z'⟩:=kM z;obtain⟨xs,e2,pr⟩:=rl a _ e;cases ev:wz kvs (Sum.inr s) with
   |none=>rw[ev] at z';exact z'.elim
   |some y=>
    rw[ev] at z';obtain⟨x,ex,rx⟩:=nS pr ev;exact⟨xs,x,.inl (.inl e2),ex,k _ H _ L (EC _) rl rx z'⟩
  |_=>exact z.elim
 |tup ys=>
  cases y3 with|int i=>exact seq (x3:=.tup ys) rx ry z|_=>exact z.elim
 |sq ys=>
  cases y3 with|int i=>exact seq (x3:=.sq ys) rx ry z|_=>exact z.elim
 |_=>cases y3<;>exact z.elim
theorem xi.inv1(h:xi G H [y] xs):∃x,xs=[x]/\RV G H y x:=by obtain⟨x,xs',e,r,s⟩:=h;cases (show xs'=[] from s);exact⟨x,e,r⟩
theorem xi.inv2{y':Y}(h:xi G H [y,y'] xs):∃x x',xs=[x,x']/\RV G H y x/\RV G H y' x':=by obtain⟨x,xs',e,r,s⟩:=h;obtain⟨x',e',r'⟩:=s.inv1;exact⟨x,x',by rw[e,e'],r,r'⟩
theorem ais(K:Af)(P:Program)(w:World)(hK:X.K=K:=by rfl)(hP:X.prog=P:=by rfl)(hw:X.w=w:=by rfl):x4 X (.builtin "len") (upL ⟨K,P,w⟩ ft):=by
 subst hK hP hw;refine ET xZ fun xs H Q ⟨ys,L,Q3,rv,rl,z,k⟩=>?_;unfold ft at z;split at z
 ·obtain⟨x,rfl,r⟩:=rv.inv1;cases r;exact⟨z.1,k _ H _ L (EC _) rl (by rfl) z.2⟩
 ·rename_i y _;obtain⟨x,rfl,r⟩:=rv.inv1;obtain⟨ys,es,z⟩:=w9 z;obtain⟨p,us,e,sq,rw'⟩:=oj rl r es;subst e;refine⟨us,sq,?_⟩;rw[<-rw'.length];exact k _ H _ L (EC _) rl (by rfl) z
 ·exact z.elim
theorem ak1(i j:Int):(if j > i then j else i)=max i j:=by split<;>lia
theorem ai2(i j:Int):(if j<i then j else i)=min i j:=by split<;>lia
theorem ah1(hc:X.calm=true:=by rfl):x4 X (.builtin "max") (upL X.g3 adb):=ET (yY hc) fun xs H Q ⟨ys,L,Q3,rv,rl,z,k⟩=>by
 unfold adb at z;split at z
 ·rename_i i j;obtain⟨x,x',rfl,r1,r2⟩:=rv.inv2;cases r1;cases r2;refine⟨i,j,rfl,?_⟩;rw[ak1];exact k _ H _ L (EC _) rl (by rfl) z
 ·exact z.elim
theorem als(hc:X.calm=true:=by rfl):x4 X (.builtin "min") (upL X.g3 ahh):=ET (wQ hc) fun xs H Q ⟨ys,L,Q3,rv,rl,z,k⟩=>by
 unfold ahh at z;split at z
 ·rename_i i j;obtain⟨x,x',rfl,r1,r2⟩:=rv.inv2;cases r1;cases r2;refine⟨i,j,rfl,?_⟩;rw[ai2];exact k _ H _ L (EC _) rl (by rfl) z
 ·exact z.elim
theorem alh:UnR X (unaryOp .USub) (upU X.g3 an9):=UnR.imp akh fun x H Q ⟨y,L,Q3,rv,rl,z,k⟩=>by cases y with|int i=>exact⟨i,rv,k _ H _ L (EC _) rl (by rfl) z⟩|_=>exact z.elim
theorem aky{op:UnaryOp}{r:Y->ql->YK->Prop}(h:UnR X (unaryOp op) (upU X.g3 r))(ha:QE X a ta):QE X (.UnaryOp op a pos) (yUn r ta):=EF (amh h ha) fun σ H Q ⟨τ,L,Q3,rs,rl,z,k⟩=>
 ⟨τ,L,_,rs,rl,z,fun v H1 y L1 t1 rl1 rv1 z1=>⟨y,L1,Q3,rv1,rl1,z1,k.ts t1⟩⟩
end
section
variable {a b:Expr}{tc:xw} 
theorem dJ{a:Addr}(rl:jk G H L)(h:bK L (.ref a)=some ys):∃xs,wu G.K H a xs/\xi G H ys xs:=by
 have h':(match L a with | some (.lst ys)=>some ys | _=>none)=some ys:=h;split at h'
 ·rename_i e;cases h';obtain⟨xs,e2,q⟩:=rl a _ e;exact⟨xs,ER e2,q⟩
 ·cases h'
theorem mU(rl:jk G H L)(r:RV G H y v)(hy:abf y=true)(h:bK L y=some ys):∃a xs,v=.ref a/\wu G.K H a xs/\xi G H ys xs:=by
 cases y with
 |ref a=>obtain⟨xs,s,q⟩:=dJ rl h;exact⟨a,xs,r,s,q⟩
 |sq zs=>obtain⟨a,xs,e,s,q⟩:=r;cases h;exact⟨a,xs,e,s.sq,q⟩
 |_=>cases hy
theorem yK{G:G3}{T:iF}{σ:L2.St}(I:qw X pins σ H s)(rl:jk X.g3 H L)(r:RV X.g3 H y v)(ru:zo v u)(h:tyY L y=some T)
 {c:Value} {b:Bool} (e:PySem.W.kitOne X.K (.type T.nm) c=some b) (hq:∀tk,Q (.bool b) { s with toks:=tk }):
 wpAny (model X.prog X.w) A (call (.builtin "isinstance") [u,c]) Q E s:=by
 cases y with
 |non=>cases h;cases r;exact aQ I ru .non e hq
 |bl b=>cases h;cases r;exact aQ I ru (.bl _) e hq
 |int i=>cases h;cases r;exact aQ I ru (.int _) e hq
 |str x=>cases h;cases r;exact aQ I ru (.str _) e hq
 |tup ys=>
  cases h;obtain⟨a,xs,rfl,sq,_⟩:=r;cases (show u=Value.ref a from ru);obtain⟨its,_,⟨o,h1,h2,_⟩,_⟩:=I.tuple sq;exact Bs Dq I.kIn ⟨o,h1,h2⟩ e (fun z=>nomatch z) hq
 |sq ys=>
  cases h;obtain⟨a,xs,rfl,sq,_⟩:=r;cases (show u=Value.ref a from ru);obtain⟨its,_,⟨o,n,h1,h2,_⟩,_⟩:=I.list sq.sq;exact Bs Cy I.kIn ⟨o,h1,h2⟩ e (fun z=>nomatch z) hq
 |ref a=>
  cases (show v=.ref a from r);have h':(match L a with | some (.lst _)=>some iF.list | some (.dct _)=>some .dict | _=>none)=some T:=h;split at h'
  ·rename_i ys el;cases h';obtain⟨xs,e2,_⟩:=rl a _ el;exact aQ I ru (.lst e2) e hq
  ·rename_i kvs el;cases h';obtain⟨xs,e2,_⟩:=rl a _ el;exact aQ I ru (.dK e2) e hq
  ·cases h'
 |_=>cases h
theorem oz(K:Af):∀T S:iF,PySem.W.kitOne K (.type T.nm) (.type S.nm)=some (bJ T S):=by intro T S;cases T<;>cases S<;>rfl
def air(G:G3)(S:iF):List V->Hp->VK->Prop:=fun xs H Q=>∃y v L Q3 T,xs=[v,.ty S.nm]/\RV G H y v/\jk G H L/\tyY L y=some T/\Q3 (.bl (bJ T S)) L/\yg G H Q3 Q
theorem aib(S:iF):x4 X (.builtin "isinstance") (air X.g3 S):=by intro pins s σ H xs us Q I r h;obtain⟨y,v,L,Q3,T,rfl,rv,rl,ty,q,k⟩:=h;obtain⟨u,c,rfl,r1,r2⟩:=zk.two r;cases (show c=Value.type S.nm from r2);exact jw I.tk (yK (G:=X.g3) I rl rv r1 ty (oz _ T S) fun tk ht=>⟨.bl _,H,I.tok _,rfl,k _ H _ L (EC _) rl (by rfl) q⟩)
theorem k8{xT:Str}(S:iF)(hg:Gl X "isinstance")(hm:X.mg "isinstance" = none)(hgT:Gl X xT)(hmT:X.mg xT=none)(hvT:bootBuiltins xT=some (.type S.nm))(ha:QE X a ta)
 (hn:xT ≠ "__name__" := by decide) (hd:(xT==("__debug__" : Str))=false:=by decide)
 (hs:starEach [a,.Name xT p1] X.env=(false,eval a X.env)::starEach [.Name xT p1] X.env:=by rfl) (hs2:starEach [.Name xT p1] X.env=(false,eval (.Name xT p1) X.env)::starEach [] X.env:=by rfl)
 (hp:(backTo pos (starEach [.Name xT p1] X.env)).any (·.1)=false:=by rfl):
 QE X (.Call (.Name "isinstance" p) [a,.Name xT p1] [] pos) (aX S ta):=by
 refine EF (l5 (aib S) hg hm dq (aB ha (aB (aa7 hgT hmT hvT hn hd) fE hs2) hs) (by decide) (by decide) hs hp) ?_;rintro σ H Q ⟨τ,L,Q3,rs,rl,z,k⟩;refine⟨τ,L,_,rs,rl,z,fun v H1 y L1 t1 rl1 rv1 z1=>?_⟩;obtain⟨T,et,z1⟩:=rm z1;exact⟨y,v,L1,Q3,T,rfl,rv1,rl1,et,z1,k.ts t1⟩
def qT(neg:Bool)(x y:Y)(L:ql)(Q:YK):Prop:=gW L y fun ys=>fw x=true/\ys.all fw=true/\Q (.bl (nb neg (yz (mQ x) (ys.map mQ)))) L
theorem al7(neg:Bool){op:CmpOp}(h:wn X (compareOp op) (rIn X.K neg)):wn X (compareOp op) (mG X.g3 (qT neg)):=ES h fun x y H Q ⟨x3,y3,L,Q3,rx,ry,rl,z,k⟩=>by
 obtain⟨ys,es,f1,f2,q⟩:=w9 z;obtain⟨p,xs,e,sq,rv⟩:=oj rl ry es;rw[rx.flat f1];rw[rv.flat f2] at sq;refine⟨p,_,e,sq,fJ f1,?_,?_⟩
 ·rw[List.all_map,CF];intro y hy;exact fJ (CF.mp f2 y hy)
 ·have:(if neg=true then !yz (mQ x3) (ys.map mQ) else yz (mQ x3) (ys.map mQ))=(nb neg (yz (mQ x3) (ys.map mQ))):=by cases neg<;>simp[nb]
  rw[this];exact k _ H _ L (EC _) rl (by rfl) q
theorem agy(K:Af)(P:Program)(w:World)(hK:X.K=K:=by rfl)(hP:X.prog=P:=by rfl)(hw:X.w=w:=by rfl):wn X (compareOp .In) (mG ⟨K,P,w⟩ (qT false)):=by subst hK hP hw;exact al7 false wT
theorem ab2(K:Af)(P:Program)(w:World)(hK:X.K=K:=by rfl)(hP:X.prog=P:=by rfl)(hw:X.w=w:=by rfl):wn X (compareOp .NotIn) (mG ⟨K,P,w⟩ (qT true)):=by subst hK hP hw;exact al7 true pU
theorem x5.rep{G:G3}{H:Hp}{L:ql}(rl:jk G H L):∀{n:Nat} {y:Y} {d:Da} {v:V},x5 L n y d->RV G H y v->vk G.K H n v d
 |0,y,d,v,⟨f,e⟩,r=>by rw[r.flat f];exact⟨e,fJ f⟩
 |n+1,y,d,v,h,r=>by
  have both:∀{ys:List Y} {ds:List Da} {xs:List V},Paired (x5 L n) ys ds->xi G H ys xs->Paired (vk G.K H n) xs ds:=by
   intro ys ds xs p
   induction p generalizing xs with
   |nil=>intro r;cases (show xs=[] from r);exact .nil
   |cons q t ih=>
    rintro⟨x,xs',rfl,r1,r2⟩;exact .cons (x5.rep rl q r1) (ih r2)
  rcases h with⟨f,e⟩ | ⟨ys,ds,rfl,rfl,p⟩ | ⟨ys,ds,hy,rfl,es,p⟩
  ·rw[r.flat f];exact .inl ⟨e,fJ f⟩
  ·obtain⟨a,xs,rfl,sq,rv⟩:=r;exact .inr (.inl ⟨a,xs,ds,rfl,rfl,sq,both p rv⟩)
  ·obtain⟨a,xs,rfl,sq,rv⟩:=mU rl r hy es;exact .inr (.inr ⟨a,xs,ds,rfl,rfl,sq,both p rv⟩)
theorem jE(h:xR y=true)(r:RV G H y v):∃a,v=.ref a:=by
 cases y with
 |ref a=>exact⟨a,r⟩
 |tup ys=>obtain⟨a,xs,e,_⟩:=r;exact⟨a,e⟩
 |sq ys=>obtain⟨a,xs,e,_⟩:=r;exact⟨a,e⟩
 |_=>cases h
theorem iO(K:Af)(P:Program)(w:World)(hu:X.A.units+128<cLine)(hK:X.K=K:=by rfl)(hP:X.prog=P:=by rfl)(hw:X.w=w:=by rfl):wn X (compareOp .Eq) (mG ⟨K,P,w⟩ (nX false)):=by
 subst hK hP hw;refine ES (ak8 hu) fun x y H Q ⟨x3,y3,L,Q3,rx,ry,rl,z,k⟩=>?_;unfold nX at z;split at z
 ·rename_i i j;cases rx;cases ry;refine⟨rfl,?_⟩;have:decide (V.int i=V.int j)=nb false (decide (i=j)):=by rw[BH];simp[nb]
  rw[this];exact k _ H _ L (EC _) rl (by rfl) z
 ·rename_i i j;cases rx;cases ry;refine⟨rfl,?_⟩;have:decide (V.str i=V.str j)=nb false (decide (i=j)):=by rw[BH];simp[nb]
  rw[this];exact k _ H _ L (EC _) rl (by rfl) z
 ·rename_i i j;cases rx;cases ry;refine⟨rfl,?_⟩;have:decide (V.bl i=V.bl j)=nb false (decide (i=j)):=by rw[BH];simp[nb]
  rw[this];exact k _ H _ L (EC _) rl (by rfl) z
 ·obtain⟨f1,f2,n,m,d,e,hn,h1,h2,q⟩:=z;obtain⟨a,rfl⟩:=jE f1 rx;obtain⟨b,rfl⟩:=jE f2 ry;have q:Q3 (.bl (Da.eq d e)) L:=q;exact⟨n,m,d,e,hn,h1.rep rl rx,h2.rep rl ry,k _ H _ L (EC _) rl (by rfl) q⟩
theorem aa0(K:Af)(P:Program)(w:World)(hu:X.A.units+128<cLine)(hK:X.K=K:=by rfl)(hP:X.prog=P:=by rfl)(hw:X.w=w:=by rfl):wn X (compareOp .NotEq) (mG ⟨K,P,w⟩ (nX true)):=by
 subst hK hP hw;refine ES (aj3 hu) fun x y H Q ⟨x3,y3,L,Q3,rx,ry,rl,z,k⟩=>?_;unfold nX at z;split at z
 ·rename_i i j;cases rx;cases ry;refine⟨rfl,?_⟩;have:(!decide (V.int i=V.int j))=nb true (decide (i=j)):=by show _=!_;congr 1;rw[BH];simp
  rw[this];exact k _ H _ L (EC _) rl (by rfl) z
 ·rename_i i j;cases rx;cases ry;refine⟨rfl,?_⟩;have:(!decide (V.str i=V.str j))=nb true (decide (i=j)):=by show _=!_;congr 1;rw[BH];simp
  rw[this];exact k _ H _ L (EC _) rl (by rfl) z
 ·rename_i i j;cases rx;cases ry;refine⟨rfl,?_⟩;have:(!decide (V.bl i=V.bl j))=nb true (decide (i=j)):=by show _=!_;congr 1;rw[BH];simp
  rw[this];exact k _ H _ L (EC _) rl (by rfl) z
 ·obtain⟨f1,f2,n,m,d,e,hn,h1,h2,q⟩:=z;obtain⟨a,rfl⟩:=jE f1 rx;obtain⟨b,rfl⟩:=jE f2 ry;have q:Q3 (.bl (!Da.eq d e)) L:=q;exact⟨n,m,d,e,hn,h1.rep rl rx,h2.rep rl ry,k _ H _ L (EC _) rl (by rfl) q⟩
theorem RV.non_iff(r:RV G H y v):decide (v=.non)=(match y with | .non=>true | _=>false):=by
 cases y with
 |non=>cases r;rfl
 |cd kvs=>obtain⟨a,rfl,_⟩:=r;rfl
 |tup ys=>obtain⟨a,xs,rfl,_⟩:=r;rfl
 |sq ys=>obtain⟨a,xs,rfl,_⟩:=r;rfl
 |_=>cases r;rfl
theorem aa3(σ:L2.St)(H:Hp)(Q:VK):wD G (dI false ta) σ H Q->am8 (wD G ta) σ H Q:=fun⟨τ,L,Q3,rs,rl,z,k⟩=>
 ⟨τ,L,_,rs,rl,z,fun v H1 y L1 t1 rl1 rv1 z1=>by dsimp only;rw[rv1.non_iff];cases y<;>exact k _ H1 _ L1 t1 rl1 (by rfl) z1⟩
theorem aer(σ:L2.St)(H:Hp)(Q:VK):wD G (dI true ta) σ H Q->agi (wD G ta) σ H Q:=fun⟨τ,L,Q3,rs,rl,z,k⟩=>
 ⟨τ,L,_,rs,rl,z,fun v H1 y L1 t1 rl1 rv1 z1=>by dsimp only;rw[rv1.non_iff];cases y<;>exact k _ H1 _ L1 t1 rl1 (by rfl) z1⟩
theorem ai7(h:QE X a ta):QE X (.Compare a [.Is] [.Constant .none j pos'] pos) (dI false ta):=EF (ajm (ac0 h)) aa3
theorem ah4{t:TE}(h:∀σ H Q,wD G te σ H Q->t σ H Q)(σ:L2.St)(H:Hp)(Q:Bool->Hp->Prop):upT G (yB te) σ H Q->L2.tB t σ H Q:=fun q=>h σ H _ (agz σ H Q q)
theorem oZ(h:QE X a ta):QT X (.Compare a [.Is] [.Constant .none j pos'] pos) (yB (dI false ta)):=PT.imp (acj (ac0 h)) (ah4 aa3)
theorem bQ(h:QE X a ta):QT X (.Compare a [.IsNot] [.Constant .none j pos'] pos) (yB (dI true ta)):=PT.imp (acj (aep h)) (ah4 aer)
end
section
variable {a b:Expr}{rest:List Expr}{tc:xw}{tB:gL} 
theorem ae(h:QT X a tA):QW X (.BoolOp .And [a] pos) tA:=adn h
theorem gr(h:QT X a tA):QW X (.BoolOp .Or [a] pos) tA:=akj h
theorem dD(h:QT X a tA)(k:QW X (.BoolOp .And (b::rest) pos) tB):QW X (.BoolOp .And (a::b::rest) pos) (o4 tA tB):=PW.imp (aia h k) fun σ H Q ⟨τ,L,Q3,rs,rl,z,k⟩=>
 ⟨τ,L,_,rs,rl,z,fun c H1 L1 t1 rl1 z1=>by cases c with|true=>rw[As rfl];exact⟨τ,L1,Q3,rs.ts t1,rl1,z1,k.ts t1⟩|false=>rw[Aq Az];exact k _ H1 L1 t1 rl1 z1⟩
theorem mv(h:QT X a tA)(k:QW X (.BoolOp .Or (b::rest) pos) tB):QW X (.BoolOp .Or (a::b::rest) pos) (yOr tA tB):=PW.imp (alv h k) fun σ H Q ⟨τ,L,Q3,rs,rl,z,k⟩=>
 ⟨τ,L,_,rs,rl,z,fun c H1 L1 t1 rl1 z1=>by cases c with|true=>rw[As rfl];exact k _ H1 L1 t1 rl1 z1|false=>rw[Aq Az];exact⟨τ,L1,Q3,rs.ts t1,rl1,z1,k.ts t1⟩⟩
theorem ag(h:QW X a tA):QT X a tA:=PW.pt h
theorem u5(h:QT X a tA):QT X (.UnaryOp .Not a pos) (ae5 tA):=PT.imp (aij h) fun σ H Q ⟨τ,L,Q3,rs,rl,z,k⟩=>
 ⟨τ,L,_,rs,rl,z,fun c H1 L1 t1 rl1 z1=>k _ H1 L1 t1 rl1 z1⟩
theorem jU{op:BoolOp}(h:QE X a ta):QE X (.BoolOp op [a] pos) ta:=aih h
theorem gS(h:QE X a ta)(k:QE X (.BoolOp .And (b::rest) pos) tb):QE X (.BoolOp .And (a::b::rest) pos) (jV ta tb):=EF (aiu h k) fun σ H Q ⟨τ,L,Q3,rs,rl,z,k⟩=>
 ⟨τ,L,_,rs,rl,z,fun v H1 y L1 t1 rl1 rv1 z1=>by
  cases y with
  |bl c=>
   refine⟨c,rv1,?_⟩;have z2:ke c (tb τ L1 Q3) (Q3 (.bl false) L1):=z1;cases c with|true=>rw[As rfl];exact⟨τ,L1,Q3,rs.ts t1,rl1,z2,k.ts t1⟩|false=>rw[Aq Az];exact k _ H1 _ L1 t1 rl1 (by rfl) z2
  |_=>exact z1.elim⟩
theorem cV(h:QT X c tA)(ha:QE X a ta)(hb:QE X b tb):QE X (.IfExp c a b pos) (yIf tA ta tb):=EF (acz h ha hb) fun σ H Q ⟨τ,L,Q3,rs,rl,z,k⟩=>
 ⟨τ,L,_,rs,rl,z,fun c H1 L1 t1 rl1 z1=>by cases c with|true=>rw[As rfl];exact⟨τ,L1,Q3,rs.ts t1,rl1,z1,k.ts t1⟩|false=>rw[Aq Az];exact⟨τ,L1,Q3,rs.ts t1,rl1,z1,k.ts t1⟩⟩
theorem ku:QA X [] qx:=PA.imp fE fun σ H Q ⟨τ,L,Q3,rs,rl,z,k⟩=>k _ H _ L (EC _) rl (by rfl) z
theorem vf(h:QE X e te)(ht:QA X es tr)(hs:Ed e es X:=by rfl):QA X (e::es) (qf te tr):=PA.imp (aB h ht hs) fun σ H Q ⟨τ,L,Q3,rs,rl,z,k⟩=>
 ⟨τ,L,_,rs,rl,z,fun v H1 y L1 t1 rl1 rv1 z1=>⟨τ,L1,_,rs.ts t1,rl1,z1,fun vs H2 ys L2 t2 rl2 rv2 z2=>k (v::vs) H2 (y::ys) L2 (t1.trans t2) rl2 ⟨v,vs,rfl,rv1.ts t2,rv2⟩ z2⟩⟩
theorem zn(h:QA X es tr):QE X (.Tuple es x1 pos) (k6 tr):=EF (abb h) fun σ H Q ⟨τ,L,Q3,rs,rl,z,k⟩=>
 ⟨τ,L,_,rs,rl,z,fun vs H1 ys L1 t1 rl1 rv1 z1=>by
  cases e:Nat.ble ys.length 1000 with
  |false=>rw[e] at z1;exact z1.elim
  |true=>
   rw[e] at z1;have:=De e;refine⟨dr (by rw[<-rv1.length];exact this),fun p hp=>?_⟩;exact k _ _ (.tup ys) L1 (t1.trans (EE hp)) (rl1.skip hp) ⟨p,vs,rfl,cL.of zv,rv1.ts (EE hp)⟩ z1⟩
theorem jq(h:QA X es tr):QE X (.List es pos) (w5 tr):=EF (ajn h) fun σ H Q ⟨τ,L,Q3,rs,rl,z,k⟩=>
 ⟨τ,L,_,rs,rl,z,fun vs H1 ys L1 t1 rl1 rv1 z1=>by
  cases e:Nat.ble ys.length 1000 with
  |false=>rw[e] at z1;exact z1.elim
  |true=>
   rw[e] at z1;have:=De e;refine⟨dr (by rw[<-rv1.length];exact this),fun p hp=>?_⟩;exact k _ _ _ _ (t1.trans (EE hp)) (rl1.newL hp rv1) (by rfl) (z1 p (rl1.none hp))⟩
theorem we{id:String}{r:List Y->ql->YK->Prop}(hc:x4 X (.builtin id) (upL X.g3 r))(hg:Gl X x)(hm:X.mg x=none)(hv:bootBuiltins x=some (.builtin id))(h:QA X (e::es) tr)
 (hn:x ≠ "__name__" := by decide) (hd:Ef x:=by decide) (hs:Ed e es X:=by rfl) (hp:Ee pos es X:=by rfl):
 QE X (.Call (.Name x p) (e::es) [] pos) (gm r tr):=EF (l5 hc hg hm hv h hn hd hs hp) fun σ H Q ⟨τ,L,Q3,rs,rl,z,k⟩=>
 ⟨τ,L,_,rs,rl,z,fun vs H1 ys L1 t1 rl1 rv1 z1=>⟨ys,L1,Q3,rv1,rl1,z1,k.ts t1⟩⟩
def upO(G:G3)(t:TO3):TO:=fun σ H Q=>∃τ L Q3,vz G H σ τ/\jk G H L/\t τ L Q3/\∀(o:Option Int) H' L',j7 H H'->jk G H' L'->Q3 o L'->Q o H'
abbrev QO(X:Cx)(e:Option Expr)(t:TO3):Prop:=PO X e (upO X.g3 t)
theorem PO.imp{e:Option Expr}{t u:TO}(h:PO X e t)(q:∀σ H Q,u σ H Q->t σ H Q):PO X e u:=fun pins s σ H Q I z=>h pins s σ H Q I (q σ H Q z)
theorem ph.imp{r':V->Option Int->Option Int->Hp->VK->Prop}(h:ph X r)(q:∀x lo hi H Q,r' x lo hi H Q->r x lo hi H Q):ph X r':=by intro pins s σ H x v vl vu lo hi sl Q I rx hs pl pu z;exact h pins s σ H x v vl vu lo hi sl Q I rx hs pl pu (q _ _ _ _ _ z)
theorem jC:QO X none gD:=PO.imp afp fun σ H Q ⟨τ,L,Q3,rs,rl,z,k⟩=>k _ H L (EC _) rl z
theorem dZ(h:QE X e te):QO X (some e) (kK te):=PO.imp (ada h) fun σ H Q ⟨τ,L,Q3,rs,rl,z,k⟩=>
 ⟨τ,L,_,rs,rl,z,fun v H1 y L1 t1 rl1 rv1 z1=>by cases y with|int i=>exact⟨i,rv1,k _ H1 L1 t1 rl1 z1⟩|_=>exact z1.elim⟩
def aea(G:G3)(r:Y->Option Int->Option Int->ql->YK->Prop):V->Option Int->Option Int->Hp->VK->Prop:=fun x lo hi H Q=>∃y L Q3,RV G H y x/\jk G H L/\r y lo hi L Q3/\yg G H Q3 Q
theorem dE{lo hi:Option Expr}{tl th:TO3}{r:Y->Option Int->Option Int->ql->YK->Prop}(h:ph X (aea X.g3 r))(ha:QE X a ta)(hl:QO X lo tl)(hh:QO X hi th):QE X (.Subscript a (.Slice lo hi none p2) pos) (ySl r ta tl th):=
 EF (aas h ha hl hh) fun σ H Q ⟨τ,L,Q3,rs,rl,z,k⟩=>
 ⟨τ,L,_,rs,rl,z,fun v H1 y L1 t1 rl1 rv1 z1=>⟨τ,L1,_,rs.ts t1,rl1,z1,fun o H2 L2 t2 rl2 z2=>⟨τ,L2,_,rs.ts (t1.trans t2),rl2,z2,fun o' H3 L3 t3 rl3 z3=>⟨y,L3,Q3,rv1.ts (t2.trans t3),rl3,z3,k.ts (t1.trans (t2.trans t3))⟩⟩⟩⟩
theorem pF(r:xi G H ys xs)(lo hi:Option Int):xi G H (r6 ys lo hi) (qP xs lo hi):=by unfold r6 qP;rw[r.length];exact(r.drop _).take _
theorem alr(K:Af)(P:Program)(w:World)(hK:X.K=K:=by rfl)(hP:X.prog=P:=by rfl)(hw:X.w=w:=by rfl):ph X (aea ⟨K,P,w⟩ am4):=by
 subst hK hP hw;refine ph.imp adw fun x lo hi H Q ⟨y,L,Q3,rv,rl,z,k⟩=>?_;cases y with
 |ref a=>
  obtain⟨ys,es,z'⟩:=v9 z;obtain⟨xs,sq,r⟩:=dJ rl (vi es);exact⟨a,xs,rv,sq,fun p hp=>k _ _ _ _ (EE hp) (rl.newL hp (pF r lo hi)) (by rfl) (z' p (rl.none hp))⟩
 |sq ys=>
  obtain⟨a,xs,e,sf,r⟩:=rv;exact⟨a,xs,e,sf.sq,fun p hp=>k _ _ _ _ (EE hp) (rl.newL hp (pF r lo hi)) (by rfl) (z p (rl.none hp))⟩
 |_=>exact z.elim
end
section
variable {a b iter:Expr}{tc:xw}{tB:gL}{rest orelse:List Stmt}{t u:kn}
theorem zp:pZ X [] x0:=jP.imp ade fun D σ H ⟨τ,L,D3,rs,rl,z,k⟩=>k.nx _ H _ L (EC _) rs rl z
theorem qh(h:QS X st t):pZ X [st] t:=afx h
theorem qc(h:QS X st t)(k:pZ X rest u):pZ X (st::rest) (qt t u):=jP.imp (rE h k) fun D σ H ⟨τ,L,D3,rs,rl,z,k⟩=>
 ⟨τ,L,{ D3 with nx:=u D3 },rs,rl,z,fun σ1 H1 τ1 L1 t1 rs1 rl1 z1=>⟨τ1,L1,D3,rs1,rl1,z1,k.ts t1⟩,k.rt,k.bk,k.ct⟩
theorem sE:QS X (.Continue pos) agd:=EI rO fun D σ H ⟨τ,L,D3,rs,rl,z,k⟩=>k.ct _ H _ L (EC _) rs rl z
theorem zj(h:QE X e te)(hs:swapsWith e none pos.line X.env=pure false:=by rfl):QS X (.Expr e pos) (jm te):=EI (adh h hs) fun D σ H ⟨τ,L,D3,rs,rl,z,k⟩=>
 ⟨τ,L,_,rs,rl,z,fun v H1 y L1 t1 rl1 rv1 z1=>k.nx _ H1 _ L1 t1 (rs.ts t1) rl1 z1⟩
theorem ze(h:QE X e te):QS X (.Return (some e) pos) (jy te):=EI (ak0 h) fun D σ H ⟨τ,L,D3,rs,rl,z,k⟩=>⟨τ,L,_,rs,rl,z,k.rt⟩
theorem vJ:QS X (.Return none pos) ab5:=EI adj fun D σ H ⟨τ,L,D3,rs,rl,z,k⟩=>k.rt _ H _ L (EC _) rl (by rfl) z
theorem js(h:QT X c tA)(ha:pZ X body t)(hb:pZ X orelse u):QS X (.If c body orelse pos) (va tA t u):=EI (ali h ha hb) fun D σ H ⟨τ,L,D3,rs,rl,z,k⟩=>
 ⟨τ,L,_,rs,rl,z,fun c H1 L1 t1 rl1 z1=>by cases c with|true=>rw[As rfl];exact⟨τ,L1,D3,rs.ts t1,rl1,z1,k.ts t1⟩|false=>rw[Aq Az];exact⟨τ,L1,D3,rs.ts t1,rl1,z1,k.ts t1⟩⟩
theorem a7(hN:X.N.Nodup)(hix:X.N[i]?=some x)(hx:Loc X.env.scope x)(h:QE X e te)(hsw:swapsWith e (some (.Name x pos')) pos.line X.env=pure false:=by rfl)
 (hfn:X.fn x=true\/X.env.scope.names.lookup x=some .local:=by first | exact .inl rfl | exact .inr rfl | assumption):QS X (.Assign [.Name x pos'] e pos) (zw te (qg i)):=EI (ajt hN hix hx h hsw hfn) fun D σ H ⟨τ,L,D3,rs,rl,z,k⟩=>
 ⟨τ,L,_,rs,rl,z,fun v H1 y L1 t1 rl1 rv1 z1=>k.nx _ H1 _ L1 t1 (show vz _ _ _ (aa τ i y) by rw[km];exact(rs.ts t1).set rv1) rl1 z1⟩
theorem lC(h:QE X e te)(hg:QG X tg g)(h1:swapsWithSole [tg] e pos.line X.env=pure false:=by rfl)(h2:swappedStores [tg] e X.env=pure none:=by rfl)
 (h3:(assignEach [tg] X.env).map (·.2)=[assign tg X.env]:=by rfl):QS X (.Assign [tg] e pos) (zw te g):=EI (ac4 h hg h1 h2 h3) fun D σ H ⟨τ,L,D3,rs,rl,z,k⟩=>
 ⟨τ,L,_,rs,rl,z,fun v H1 y L1 t1 rl1 rv1 z1=>⟨y,τ,L1,_,rv1,rs.ts t1,rl1,z1,k.nx.ts t1⟩⟩
theorem PG.imp{t u:TG}(h:PG X e t)(q:∀v σ H Q,u v σ H Q->t v σ H Q):PG X e u:=fun pins s σ H x v Q I r z=>h pins s σ H x v Q I r (q _ _ _ _ z)
theorem PGs.imp{e:List Expr}{t u:zR}(h:PGs X e t)(q:∀v σ H Q,u v σ H Q->t v σ H Q):PGs X e u:=fun pins s σ H x v Q I r z=>h pins s σ H x v Q I r (q _ _ _ _ z)
theorem fS(hN:X.N.Nodup)(hix:X.N[i]?=some x)(hx:Loc X.env.scope x)(hfn:X.fn x=true\/X.env.scope.names.lookup x=some .local:=by first | exact .inl rfl | exact .inr rfl | assumption):QG X (.Name x pos) (qg i):=
 PG.imp (ix hN hix hx hfn) fun v σ H Q ⟨y,τ,L,Q3,rv,rs,rl,z,k⟩=>k _ H _ L (EC _) (show vz _ _ _ (aa τ i y) by rw[km];exact rs.set rv) rl z
theorem ko:QGs X [] w4:=PGs.imp vF fun vs σ H Q ⟨ys,τ,L,Q3,rv,rs,rl,z,k⟩=>by cases ys with|nil=>exact⟨rv,k _ H _ L (EC _) rs rl z⟩|cons y r=>exact z.elim
theorem j4(h:QG X e g)(hs:QGs X es gs)(he:(assignEach (e::es) X.env).map (·.2)=assign e X.env::(assignEach es X.env).map (·.2):=by rfl):QGs X (e::es) (zu g gs):=
 PGs.imp (lh h hs he) fun vs σ H Q ⟨ys,τ,L,Q3,rv,rs,rl,z,k⟩=>by
 cases ys with
 |nil=>exact z.elim
 |cons y r=>
  obtain⟨x,xs,rfl,r1,r2⟩:=rv;exact⟨x,xs,rfl,y,τ,L,_,r1,rs,rl,z,fun σ1 H1 τ1 L1 t1 rs1 rl1 z1=>⟨r,τ1,L1,Q3,r2.ts t1,rs1,rl1,z1,k.ts t1⟩⟩
theorem aY{kk:Nat}(hc:X.calm=true)(h:QGs X es gs)(h1:(assignEach es X.env).length=n:=by rfl)(h2:(assignEach es X.env).findIdx? (·.1)=none:=by rfl):QG X (.Tuple es kk pos) (wm n gs):=
 PG.imp (zK hc h h1 h2) fun v σ H Q ⟨y,τ,L,Q3,rv,rs,rl,z,k⟩=>by
 cases y with
 |tup ys=>
  obtain⟨a,xs,rfl,sq,r⟩:=rv;have z':(match ys.length==n with | true=>gs ys τ L Q3 | false=>False):=z;split at z'
  ·rename_i e;exact⟨a,xs,rfl,sq,by rw[<-r.length];exact beq_iff_eq.mp e,ys,τ,L,Q3,r,rs,rl,z',k⟩
  ·exact z'.elim
 |_=>exact z.elim
theorem aa1{y:Str}{px pt:Pos}{k2:Nat}{pt2:Pos}(hc:X.calm=true)(hN:X.N.Nodup)(hi:X.N[i]?=some x)(hj:X.N[j]?=some y)(hij:i≠j)(lx:X.env.scope.names.lookup x=some .local)(ly:X.env.scope.names.lookup y=some .local)
 (h:QA X [a,b] tr) (h1:swappedStores [.Tuple [.Name x px,.Name y py] kt pt] (.Tuple [a,b] k2 pt2) X.env=pure (some [x,y])) (h2:swapsWithSole [.Tuple [.Name x px,.Name y py] kt pt] (.Tuple [a,b] k2 pt2) pos.line X.env=pure false:=by rfl):
 QS X (.Assign [.Tuple [.Name x px,.Name y py] kt pt] (.Tuple [a,b] k2 pt2) pos) (aje i j tr):=EI (ak6 hc hN hi hj hij lx ly h h1 h2) fun D σ H ⟨τ,L,D3,rs,rl,z,k⟩=>
 ⟨τ,L,_,rs,rl,z,fun vs H1 ys L1 t1 rl1 rv1 z1=>by
  split at z1
  ·rename_i v w;obtain⟨x',y',rfl,r1,r2⟩:=rv1.inv2;exact⟨x',y',rfl,k.nx _ H1 _ L1 t1 (show vz _ _ _ (aa (aa τ i v) j w) by rw[km,km];exact((rs.ts t1).set r1).set r2) rl1 z1⟩
  ·exact z1.elim⟩
theorem fz(hp:PassesOwn (model X.prog X.w) X.A X.env X.xe)(h:QT X c tA)(hb:pZ X body t):QS X (.While c body [] pos) (ld tA t):=EI (acu hp h hb) fun D σ H ⟨τ,L,D3,rs,rl,⟨W,⟨m0,w0⟩,turn⟩,k⟩=>by
 refine⟨fun m σ1 H1=>∃τ1 L1,j7 H H1/\vz X.g3 H1 σ1 τ1/\jk X.g3 H1 L1/\W m τ1 L1,⟨m0,τ,L,EC _,rs,rl,w0⟩,?_⟩;rintro m σ1 H1 ⟨τ1,L1,t1,rs1,rl1,w1⟩;refine⟨τ1,L1,_,rs1,rl1,turn m τ1 L1 w1,fun b H2 L2 t2 rl2 z2=>?_⟩;cases b with
 |false=>rw[Aq Az];exact k.nx _ H2 _ L2 (t1.trans t2) (rs1.ts t2) rl2 z2
 |true=>
  rw[As rfl];obtain⟨N,hN,z2⟩:=z2;refine⟨fun σ' H'=>∃τ' L',j7 H H'/\vz X.g3 H' σ' τ'/\jk X.g3 H' L'/\N τ' L',?_,?_⟩
  ·rintro σ' H' ⟨τ',L',t',rs',rl',n'⟩;obtain⟨m',hm,w'⟩:=hN τ' L' n';exact⟨m',hm,τ',L',t',rs',rl',w'⟩
  ·have nx:mR X.g3 H2 (dy N) (fun σ' H'=>∃τ' L',j7 H H'/\vz X.g3 H' σ' τ'/\jk X.g3 H' L'/\N τ' L'):=fun σ' H' τ' L' t' rs' rl' ⟨L5,s5,n'⟩=>⟨τ',L5,(t1.trans t2).trans t',rs',rl'.sub s5,n'⟩;have k2:=k.ts (t1.trans t2);exact⟨τ1,L2,_,rs1.ts t2,rl2,z2,nx,k2.rt,k2.nx,nx⟩
theorem wb{wi:TI3}(hp:PassesOwn (model X.prog X.w) X.A X.env X.xe)(hc:X.calm=true)(hi:QI X tg iter wi)(hg:QG X tg g)(hb:pZ X body t)(hs:∀x,foldedSetIterable iter X.env x=pure x:=by intro _;rfl):
 QS X (.For tg iter body [] pos) (fD wi g t):=EI (ai9 hp hc hi hg hb hs) fun D σ H ⟨τ,L,D3,rs,rl,z,k⟩=>by
 refine⟨τ,L,_,rs,rl,z,fun J H1 ys keep L1 t1 rl1 yl zz=>?_⟩;obtain⟨W,w0,wk,turn,xu⟩:=aay zz;refine⟨fun i m σ' H'=>∃τ' L',i+m=ys.length/\j7 H1 H'/\vz X.g3 H' σ' τ'/\jk X.g3 H' L'/\W i τ' L',⟨ys.length,τ,L1,by omega,EC _,rs.ts t1,rl1,w0⟩,?_⟩;rintro i m σ2 H2 ⟨τ2,L2,him,t2,rs2,rl2,w2⟩;by_cases hlt:i<ys.length
 ·refine .inr ⟨yl.go i H2 L2 t2 rl2 (wk i τ2 L2 w2) hlt,fun σ' H'=>∃τ' L',j7 H1 H'/\vz X.g3 H' σ' τ'/\jk X.g3 H' L'/\W (i+1) τ' L',?_,?_⟩
  ·rintro σ' H' ⟨τ',L',t',rs',rl',w'⟩;exact⟨m - 1,by omega,τ',L',by omega,t',rs',rl',w'⟩
  ·intro x H3 y3;have ey:ys[i]?=some ys[i]:=Aj hlt;obtain⟨t3,rl3,rv3⟩:=yl.yld i H2 L2 x H3 _ t2 rl2 (wk i τ2 L2 w2) ey y3;refine⟨ys[i],τ2,L2,_,rv3,rs2.ts t3,rl3,turn i _ τ2 L2 ey w2,fun σ4 H4 τ4 L4 t4 rs4 rl4 z4=>?_⟩;have nx:mR X.g3 H4 (dy (W (i+1))) (fun σ' H'=>∃τ' L',j7 H1 H'/\vz X.g3 H' σ' τ'/\jk X.g3 H' L'/\W (i+1) τ' L'):=fun σ' H' τ' L' t' rs' rl' ⟨L5,s5,n'⟩=>⟨τ',L5,((t2.trans t3).trans t4).trans t',rs',rl'.sub s5,n'⟩;have k2:=k.ts (t1.trans ((t2.trans t3).trans t4));exact⟨τ4,L4,_,rs4,rl4,z4,nx,k2.rt,k2.nx,nx⟩
 ·have e:i=ys.length:=by omega
  subst e;exact .inl ⟨yl.stop H2 L2 t2 rl2 (wk _ τ2 L2 w2),k.nx _ H2 _ L2 (t1.trans t2) rs2 rl2 (xu τ2 L2 w2)⟩
theorem PI.imp{t u:TI}(h:PI X tg e t)(q:∀σ H Q,u σ H Q->t σ H Q):PI X tg e u:=fun pins s σ H Q I z=>h pins s σ H Q I (q σ H Q z)
theorem iW{a:Addr}{keep:ql->Prop}(h:∀H L,j7 H₀ H->jk G H L->keep L->∃xs,wu G.K H a xs/\xi G H ys xs):gq G H₀ (Itl G.K a) ys keep where
 go:=fun i H L t rl kp hi=>by
  obtain⟨xs,sq,r⟩:=h H L t rl kp;have:i<xs.length:=by rw[<-r.length];exact hi
  exact⟨xs,xs[i],sq,Aj this⟩
 yld:=fun i H L x H' y t rl kp hy ⟨e,f⟩=>by subst e;obtain⟨xs,sq,r⟩:=h _ L t rl kp;obtain⟨x',e',rv⟩:=r.get hy;have:=f xs sq;rw[e'] at this;cases this;exact⟨EC _,rl,rv⟩
 stop:=fun H L t rl kp=>by obtain⟨xs,sq,r⟩:=h H L t rl kp;exact⟨xs,sq,by rw[r.length];exact Am _⟩
theorem v0(h:QE X e te):QI X tg e (vq te):=PI.imp (aec h) fun σ H R ⟨τ,L,R3,rs,rl,z,k⟩=>by
 refine⟨τ,L,_,rs,rl,z,fun v H1 y L1 t1 rl1 rv1 z1=>?_⟩;cases y with
 |ref a=>
  obtain⟨ys,keep,es,kp,hk,z2⟩:=qI z1;have hy:∀H L,j7 H1 H->jk X.g3 H L->keep L->∃xs,wu X.K H a xs/\xi X.g3 H ys xs:=fun H L _ rl e=>dJ rl (hk L e);obtain⟨xs,sq,_⟩:=hy H1 L1 (EC _) rl1 kp;exact⟨a,rv1,⟨xs,sq⟩,k _ H1 ys _ L1 t1 rl1 (iW hy) z2⟩
 |sq ys=>
  obtain⟨a,xs,e,sf,r⟩:=rv1;exact⟨a,e,⟨xs,sf.sq⟩,k _ H1 ys (fun _=>True) L1 t1 rl1 (iW fun H L t _ _=>⟨xs,(sf.ts t).sq,r.ts t⟩) z1⟩
 |_=>exact z1.elim
theorem sH(lo:Int)(n:Nat):gq G H₀ (Itr lo n) (wo lo n) (fun _=>True) where
 go:=fun i H L t rl kp hi=>show i<n by simpa[wo] using hi
 yld:=fun i H L x H' y t rl kp hy ⟨e,f⟩=>by
  subst e f;refine⟨EC _,rl,?_⟩;unfold wo at hy;rw[Av] at hy;obtain⟨z,ez,e⟩:=AE.mp hy;have:=Cd (i:=i) (n:=n) (by
   by_cases c:i<n
   ·exact c
   ·rw[Cu (by simp;omega)] at ez;cases ez)
  rw[this] at ez;cases ez;subst e;rfl
 stop:=fun H L t rl kp=>by simp[wo,Itr]
theorem au(hg:Gl X "range")(hm:X.mg "range" = none)(h:QA X [a] tr)(hs:starEach [a] X.env=[(false,eval a X.env)]:=by rfl):QI X tg (.Call (.Name "range" p) [a] [] pos) (hU tr):=
 PI.imp (xX hg hm h hs) fun σ H R ⟨τ,L,R3,rs,rl,z,k⟩=>by
 refine⟨τ,L,_,rs,rl,z,fun vs H1 ys L1 t1 rl1 rv1 z1=>?_⟩;split at z1
 ·rename_i j;obtain⟨x,rfl,r⟩:=rv1.inv1;cases r;exact⟨j,rfl,z1.1.1,z1.1.2,k _ H1 _ _ L1 t1 rl1 (sH 0 _) z1.2⟩
 ·exact z1.elim
end
section
variable {T:List Str}{iter:Expr}{wi:TI3} 
theorem dG:QF X [] oy:=PF.imp ahw fun σ H Q ⟨τ,L,Q3,rs,rl,z,k⟩=>k _ H L (EC _) rl z
theorem dP(h:QT X c tA):QF X [c] tA:=ahe h
theorem ah2{g2:TG}(hg2:∀v σ H Q,upG G g v σ H Q->g2 v σ H Q)(σ:L2.St)(H:Hp)(Q:VK):wD G (pY n wi g tA te) σ H Q->tLC n (upI G wi) g2 (upT G tA) (wD G te) σ H Q:=fun⟨τ,L,Q3,rs,rl,z,k⟩=>by
 refine⟨τ,L,_,rs,rl,z,fun J H1 ys keep L1 t1 rl1 yl zz=>?_⟩;obtain⟨hz,W,w0,wk,turn,xu⟩:=ae4 zz;refine⟨fun i m vs H'=>∃zs L',i+m=ys.length/\zs.length≤i/\j7 H1 H'/\xi G H' zs vs/\jk G H' L'/\W i zs L',⟨ys.length,[],L1,by exact Nat.add_comm _ _,Am _,EC _,rfl,rl1,w0⟩,?_⟩;rintro i m vs H2 ⟨zs,L2,him,hzi,t2,rv2,rl2,w2⟩;by_cases hlt:i<ys.length
 ·refine .inr ⟨yl.go i H2 L2 t2 rl2 (wk i zs L2 w2) hlt,by rw[<-rv2.length];lia,?_⟩;intro x H3 y3;have ey:ys[i]?=some ys[i]:=Aj hlt;obtain⟨t3,rl3,rv3⟩:=yl.yld i H2 L2 x H3 _ t2 rl2 (wk i zs L2 w2) ey y3;refine hg2 _ _ _ _ ⟨ys[i],_,L2,_,rv3,(rs.ts ((t1.trans t2).trans t3)).more n,rl3,turn i _ zs L2 ey w2,fun σ4 H4 τ4 L4 t4 rs4 rl4 z4=>?_⟩;refine⟨τ4,L4,_,rs4,rl4,z4,fun b H5 L5 t5 rl5 z5=>?_⟩;cases b with
  |true=>
   rw[As rfl];refine⟨τ4,L5,_,rs4.ts t5,rl5,z5,fun v6 H6 y6 L6 t6 rl6 rv6 ⟨L7,s7,z6⟩=>?_⟩;have tt:=((t3.trans t4).trans t5).trans t6;exact⟨m - 1,by omega,zs++[y6],L7,by lia,by rw[Ac,Bp];exact uH,t2.trans tt,(rv2.ts tt).app (xi.one rv6),rl6.sub s7,z6⟩
  |false=>
   rw[Aq Az];have tt:=(t3.trans t4).trans t5;obtain⟨L7,s7,z6⟩:=z5;exact⟨m - 1,by lia,zs,L7,by lia,by exact adf,t2.trans tt,rv2.ts tt,rl5.sub s7,z6⟩
 ·have ei:i=ys.length:=by lia
  subst ei;refine .inl ⟨yl.stop H2 L2 t2 rl2 (wk _ zs L2 w2),by rw[<-rv2.length];lia,fun D hD=>?_⟩;exact k _ _ _ _ ((t1.trans t2).trans (EE hD)) (rl2.newL hD rv2) (by rfl) (xu zs L2 w2 D (rl2.none hD))
structure TGx(X:Cx)(scope:Scope)(T:List Str)(target:Expr)(g:iE):Prop where
 ex:∃g2:TG,(∀C fp s₀ H₀,PG (X.comp scope T C fp s₀ H₀) target g2)/\mS g2 X.N.length T.length/\∀v σ H Q,upG X.g3 g v σ H Q->g2 v σ H Q
theorem aei(i:Nat)(v:V)(σ:L2.St)(H:Hp)(Q:L2.St->Hp->Prop):upG G (qg i) v σ H Q->cT i v σ H Q:=fun⟨y,τ,L,Q3,rv,rs,rl,z,k⟩=>
 k _ H _ L (EC _) (show vz _ _ _ (aa τ i y) by rw[km];exact rs.set rv) rl z
theorem vh(hN:(X.N++[x]).Nodup)(hl:∀C fp s₀ H₀,Loc (X.comp scope [x] C fp s₀ H₀).env.scope x)(hfn:∀C fp s₀ H₀,(X.comp scope [x] C fp s₀ H₀).env.scope.names.lookup x=some .local):TGx X scope [x] (.Name x p) (qg X.N.length):=
 ⟨cT X.N.length,fun C fp s₀ H₀=>ix (X:=X.comp scope [x] C fp s₀ H₀) hN (by show(X.N++[x])[X.N.length]?=some x;simp) (hl C fp s₀ H₀) (.inr (hfn C fp s₀ H₀)),uB _,aei _⟩
theorem yc{K:Af}(n:Nat):mS (ajg K 2 (sO (cT n) (sO (cT (n+1)) aiw))) n 2:=by
 rintro σ hl x H Q ⟨a,xs,e,sq,len,v,r,e1,w,r',e2,e3,q⟩;refine⟨a,xs,e,sq,len,v,r,e1,w,r',e2,e3,⟨by simp[hl],fun i u ei=>?_⟩,q⟩;have hi:i<n:=by
  by_cases c:i<n
  ·exact c
  ·rw[Al (by lia),Cg] at ei;split at ei<;>cases ei
 rw[Be (by lia),Be (by exact ai8)];exact ei
theorem akf(i j:Nat)(v:V)(σ:L2.St)(H:Hp)(Q:L2.St->Hp->Prop):upG G (wm 2 (zu (qg i) (zu (qg j) w4))) v σ H Q->ajg G.K 2 (sO (cT i) (sO (cT j) aiw)) v σ H Q:=fun⟨y,τ,L,Q3,rv,rs,rl,z,k⟩=>by
 cases y with
 |tup ys=>
  obtain⟨a,xs,rfl,sq,r⟩:=rv;have z':(match ys.length==2 with | true=>zu (qg i) (zu (qg j) w4) ys τ L Q3 | false=>False):=z;split at z'
  ·rename_i e;have hl:ys.length=2:=beq_iff_eq.mp e
   match ys,hl with
   |[y1,y2],_=>
    obtain⟨x1,x2,rfl,r1,r2⟩:=r.inv2;have z2:Q3 (aa (aa τ i y1) j y2) L:=z';exact⟨a,_,rfl,sq,rfl,x1,[x2],rfl,x2,[],rfl,rfl,k _ H _ L (EC _) (by rw[km,km];exact(rs.set r1).set r2) rl z2⟩
  ·exact z'.elim
 |_=>exact z.elim
theorem jB{y:Str}{p' pt:Pos}(hc:X.calm=true)(hN:(X.N++[x,y]).Nodup)(hl:∀C fp s₀ H₀,(X.comp scope [x,y] C fp s₀ H₀).env.scope.names.lookup x=some .local)(hl2:∀C fp s₀ H₀,(X.comp scope [x,y] C fp s₀ H₀).env.scope.names.lookup y=some .local)
 (h1:∀env,(assignEach [.Name x p,.Name y p'] env).length=2:=by intro _;rfl) (h2:∀env,(assignEach [.Name x p,.Name y p'] env).findIdx? (·.1)=none:=by intro _;rfl)
 (h3:∀env,(assignEach [.Name x p,.Name y p'] env).map (·.2)=assign (.Name x p) env::(assignEach [.Name y p'] env).map (·.2):=by intro _;rfl) (h4:∀env,(assignEach [.Name y p'] env).map (·.2)=assign (.Name y p') env::(assignEach [] env).map (·.2):=by intro _;rfl):
 TGx X scope [x,y] (.Tuple [.Name x p,.Name y p'] kt pt) (wm 2 (zu (qg X.N.length) (zu (qg (X.N.length+1)) w4))):=
 ⟨_,fun C fp s₀ H₀=>zK (X:=X.comp scope [x,y] C fp s₀ H₀) hc (lh (ix hN (by show(X.N++[x,y])[X.N.length]?=some x;simp) (.inl (hl C fp s₀ H₀)) (.inr (hl C fp s₀ H₀))) (lh (ix hN (by show(X.N++[x,y])[X.N.length+1]?=some y;simp) (.inl (hl2 C fp s₀ H₀)) (.inr (hl2 C fp s₀ H₀))) vF (h4 _)) (h3 _)) (h1 _) (h2 _),yc _,akf _ _⟩
theorem cM(T:List Str)(S:jf X scope)(hc:X.calm=true)(hi:QI X target iter wi)(hg:TGx X scope T target g)
 (hf:∀C fp s₀ H₀,QF (X.comp scope T C fp s₀ H₀) ifs tA) (he:∀C fp s₀ H₀,QE (X.comp scope T C fp s₀ H₀) elt te)
 (hs:∀x,foldedSetIterable iter X.env x=pure x:=by intro _;rfl):QE X (.ListComp elt [⟨target,iter,ifs,0⟩] scope pos) (pY T.length wi g tA te):=by
 obtain⟨g2,h1,h2,h3⟩:=hg.ex;exact EF (al1 T S hc hi h1 h2 hf he hs) (ah2 h3)
theorem f6(T:List Str){px lp:Pos}(hN:X.N.Nodup)(hix:X.N[i]?=some x)(hx:Loc X.env.scope x)(S:jf X scope)(hc:X.calm=true)(hi:QI X target iter wi)
 (hg:TGx X scope T target g) (hf:∀C fp s₀ H₀,QF (X.comp scope T C fp s₀ H₀) ifs tA) (he:∀C fp s₀ H₀,QE (X.comp scope T C fp s₀ H₀) elt te)
 (hsw:swapsWith (.ListComp elt [⟨target,iter,ifs,0⟩] scope lp) (some (.Name x px)) pos.line X.env=pure true:=by rfl)
 (hfn:X.fn x=true\/X.env.scope.names.lookup x=some .local:=by first | exact .inl rfl | exact .inr rfl | assumption)
 (hs:∀x,foldedSetIterable iter X.env x=pure x:=by intro _;rfl):QS X (.Assign [.Name x px] (.ListComp elt [⟨target,iter,ifs,0⟩] scope lp) pos) (zw (pY T.length wi g tA te) (qg i)):=by
 obtain⟨g2,h1,h2,h3⟩:=hg.ex;refine EI (aap (tc:=upT X.g3 tA) (te:=wD X.g3 te) T hN hix hx S hc hi h1 h2 hf he hsw hfn hs) fun D σ H ⟨τ,L,D3,rs,rl,z,k⟩=>?_;refine ah2 h3 σ H _ ⟨τ,L,_,rs,rl,z,fun v H1 y L1 t1 rl1 rv1 z1=>?_⟩;exact k.nx _ H1 _ L1 t1 (show vz _ _ _ (aa τ i y) by rw[km];exact(rs.ts t1).set rv1) rl1 z1
def dn(G:G3)(sp:jj):Sp:=fun vs H Q _=>∃ys L Q3,xi G H ys vs/\jk G H L/\sp ys L Q3/\yg G H Q3 Q
abbrev ait(P:Program)(w:World)(K:Af)(mg:Str->Option Value)(base:Heap)(k:Nat)(x:Str)(ps:List Str)(sp:jj):Prop:=zA P w K mg base k x ps (dn ⟨K,P,w⟩ sp)
abbrev Fn3(P:Program)(w:World)(K:Af)(mg:Str->Option Value)(base:Heap)(k:Nat)(f:Addr)(fd:FuncData)(ps:List Str)(sp:jj):Prop:=a6 P w K mg base CX0 k f fd ps (dn ⟨K,P,w⟩ sp)
theorem aoo{k:Nat}(c:ait X.prog X.w X.K X.mg X.base k x ps sp)(hr:vm k X.A)(hg:Gl X x)(ha:QA X (e::es) tr)(hdb:Ef x:=by decide)
 (he:Ed e es X:=by rfl) (hpl:Ee pos es X:=by rfl):QE X (.Call (.Name x p) (e::es) [] pos) (zg sp tr):=
 EF (aok c hr hg ha hdb he hpl) fun σ H Q ⟨τ,L,Q3,rs,rl,z,k⟩=>
 ⟨τ,L,_,rs,rl,z,fun vs H1 ys L1 t1 rl1 rv1 z1=>⟨ys,L1,Q3,by rw[AZ];exact rv1,rl1,z1,k.ts t1⟩⟩
def iY(Q:YK):YK:=fun y L=>∃L2,qk L2 L/\Q y L2
def gj(N:List Str)(ys:List Y):ji:=ys.map some++List.replicate (N.length - ys.length) none
theorem mh{N:List Str}{vs:List V}(r:xi G H ys vs):vz G H (L2.start N vs) (gj N ys):=by unfold L2.start gj;rw[<-r.length];refine vz.more ⟨by simp[r.length],fun i y e=>?_⟩ _;rw[Av] at e;obtain⟨y',e1,e2⟩:=AE.mp e;cases e2;obtain⟨x,ex,rx⟩:=r.get e1;exact⟨x,by rw[Av,ex];rfl,rx⟩
theorem ok3{P:Program}{w:World}{K:Af}{N:List Str}{k:Nat}(F:zE K x qual st f fd)(S:aN N ps (qr st))(len:∀ys L Q,sp ys L Q->ys.length=ps.length)
 (hbody:∀(cdv:Value) (A:Around) (outer:List Env) (s:Shared) (H:Hp) (E:XK),vm k (A.deeper (PyProof.Rows.envOfC qual (qr st) s.heap.objs.size f cdv))->
  ∃t,pZ (iZ CX0 P w K mg base N qual (qr st) f cdv A outer s H E).nox (je st) t/\∀ys L Q,sp ys L Q->t { nx:=fun _ L'=>iY Q .non L',rt:=iY Q } (gj N ys) L):Fn3 P w K mg base (k+1) f fd ps sp:=by
 refine F.ok S (fun vs H Q E ⟨ys,L,Q3,rv,rl,z,_⟩=>by rw[<-rv.length];exact len ys L Q3 z) fun cdv A outer s H vs Q E hr ⟨ys,L,Q3,rv,rl,z,k⟩=>?_;obtain⟨t,ht,q⟩:=hbody cdv A outer s H E hr;refine⟨_,ht,gj N ys,L,_,mh rv,rl,q ys L Q3 z,?_⟩;refine⟨fun σ H' τ L' t' rs' rl' ⟨L2,s2,q2⟩=>k .non H' .non L2 t' (rl'.sub s2) (by rfl) q2,fun v H' y L' t' rl' rv' ⟨L2,s2,q2⟩=>k v H' y L2 t' (rl'.sub s2) rv' q2,fun _ _ _ _ _ _ _ z=>z.elim,fun _ _ _ _ _ _ _ z=>z.elim⟩
def upM(G:G3)(r:Y->List Y->ql->YK->Prop):V->List V->Hp->VK->Prop:=fun x xs H Q=>∃y ys L Q3,RV G H y x/\xi G H ys xs/\jk G H L/\r y ys L Q3/\yg G H Q3 Q
theorem acx:lH X "list.append" (upM X.g3 zq):=lH.imp yN fun x xs H Q ⟨y,ys,L,Q3,r1,r2,rl,z,k⟩=>by
 unfold zq at z;split at z
 ·rename_i a v;obtain⟨zs,e,z⟩:=v9 z;obtain⟨us,e2,r⟩:=rl a _ e;obtain⟨v',rfl,rv⟩:=r2.inv1;exact⟨a,us,v',r1,rfl,e2,by rw[<-r.length];exact z.1,k _ _ _ _ (EN e2) (rl.setL e2 (r.app (xi.one rv))) (by rfl) z.2⟩
 ·exact z.elim
theorem abn:lH X "list.extend" (upM X.g3 fK):=lH.imp yA fun x xs H Q ⟨y,ys,L,Q3,r1,r2,rl,z,k⟩=>by
 unfold fK at z;split at z
 ·rename_i a b;obtain⟨zs,e,z⟩:=v9 z;obtain⟨us,e',z⟩:=v9 z;obtain⟨vs,e2,r⟩:=rl a _ e;obtain⟨ws,e3,r'⟩:=rl b _ e';obtain⟨v',rfl,rv⟩:=r2.inv1;cases rv;exact⟨a,b,vs,ws,r1,rfl,e2,e3,by rw[<-r.length,<-r'.length];exact z.1,k _ _ _ _ (EN e2) (rl.setL e2 (r.app r')) (by rfl) z.2⟩
 ·exact z.elim
theorem amt:lH X "list.pop" (upM X.g3 ac9):=lH.imp aho fun x xs H Q ⟨y,ys,L,Q3,r1,r2,rl,z,k⟩=>by
 unfold ac9 at z;split at z
 ·rename_i a;obtain⟨zs,e,z⟩:=v9 z;obtain⟨us,e2,r⟩:=rl a _ e;cases (show xs=[] from r2);cases el:zs[zs.length - 1]? with
  |none=>rw[el] at z;exact z.elim
  |some v=>
   rw[el] at z;obtain⟨u,eu,ru⟩:=r.get el;rw[r.length] at eu;exact⟨a,us,u,r1,rfl,e2,eu,k _ _ _ _ (EN e2) (rl.setL e2 r.dropLast) (ru.ts (EN e2)) z⟩
 ·exact z.elim
theorem vH{a:Addr}(rl:jk G H L)(h:bK L (.ref a)=some ys):tyV G.K "list" (.ref a) H:=by obtain⟨xs,sq,_⟩:=dJ rl h;exact .inl ⟨rfl,xs,sq⟩
def aZ(r:Y->List Y->ql->YK->Prop)(to:xw)(t:dU)(τ:ji)(L:ql)(Q:YK):Prop:=to τ L fun x L1=>match x with
 |.ref a=>gW L1 (.ref a) fun _=>t τ L1 fun xs L2=>r (.ref a) xs L2 Q
 |_=>False
theorem pV{id:String}{r:Y->List Y->ql->YK->Prop}(h2:Slot "list" name id)(h3:typeOf (.builtin id)=pure (.type "method_descriptor"))(hm:lH X id (upM X.g3 r))(ho:QE X o to)(ha:QA X (e::es) tr)
 (h4:attributeBase o name X.env (eval o X.env)=eval o X.env:=by rfl)
 (h5:((backTo cpos (starEach (e::es) X.env)).all (fun x=>!x.1)&&(backToKw cpos (keywordEach [] X.env)).all (fun x=>x.1.isSome)&&decide ((e::es).length+([]:List Keyword).length+(if ([]:List Keyword).isEmpty=true then 0 else 1)<30))=true:=by rfl)
 (h6:(apos.endLine==cpos.line)=true:=by rfl) (h7:Ed e es X:=by rfl) (h8:Ee cpos es X:=by rfl):
 QE X (.Call (.Attribute o name apos) (e::es) [] cpos) (aZ r to tr):=EF (aga DH h2 h3 hm ho ha h4 h5 h6 h7 h8) fun σ H Q ⟨τ,L,Q3,rs,rl,z,k⟩=>
 ⟨τ,L,_,rs,rl,z,fun v H1 y L1 t1 rl1 rv1 z1=>by
  split at z1
  ·rename_i a;obtain⟨ys,es,z1⟩:=w9 z1;exact⟨by cases rv1;exact vH rl1 es,τ,L1,_,rs.ts t1,rl1,z1,fun vs H2 ys L2 t2 rl2 rv2 z2=>⟨.ref a,ys,L2,Q3,rv1.ts t2,rv2,rl2,z2,k.ts (t1.trans t2)⟩⟩
  ·exact z1.elim⟩
theorem aji{id:String}{r:Y->List Y->ql->YK->Prop}(h2:Slot "list" name id)(h3:typeOf (.builtin id)=pure (.type "method_descriptor"))(hm:lH X id (upM X.g3 r))(ho:QE X o to)
 (h4:attributeBase o name X.env (eval o X.env)=eval o X.env:=by rfl) (h6:(apos.endLine==cpos.line)=true:=by rfl):
 QE X (.Call (.Attribute o name apos) [] [] cpos) (aZ r to qx):=EF (ajk DH h2 h3 hm ho h4 h6) fun σ H Q ⟨τ,L,Q3,rs,rl,z,k⟩=>
 ⟨τ,L,_,rs,rl,z,fun v H1 y L1 t1 rl1 rv1 z1=>by
  split at z1
  ·rename_i a;obtain⟨ys,es,z1⟩:=w9 z1;exact⟨by cases rv1;exact vH rl1 es,.ref a,[],L1,Q3,rv1,rfl,rl1,z1,k.ts t1⟩
  ·exact z1.elim⟩
theorem zd(ho:QE X o to)(ha:QA X (e::es) tr)(h4:attributeBase o "append" X.env (eval o X.env)=eval o X.env:=by rfl)
 (h5:((backTo cpos (starEach (e::es) X.env)).all (fun x=>!x.1)&&(backToKw cpos (keywordEach [] X.env)).all (fun x=>x.1.isSome)&&decide ((e::es).length+([]:List Keyword).length+(if ([]:List Keyword).isEmpty=true then 0 else 1)<30))=true:=by rfl)
 (h6:(apos.endLine==cpos.line)=true:=by rfl) (h7:Ed e es X:=by rfl) (h8:Ee cpos es X:=by rfl):
 QE X (.Call (.Attribute o "append" apos) (e::es) [] cpos) (aZ zq to tr):=pV PySem.F.slot_list_append PySem.F.type_list_append acx ho ha h4 h5 h6 h7 h8
theorem nO(ho:QE X o to)(ha:QA X (e::es) tr)(h4:attributeBase o "extend" X.env (eval o X.env)=eval o X.env:=by rfl)
 (h5:((backTo cpos (starEach (e::es) X.env)).all (fun x=>!x.1)&&(backToKw cpos (keywordEach [] X.env)).all (fun x=>x.1.isSome)&&decide ((e::es).length+([]:List Keyword).length+(if ([]:List Keyword).isEmpty=true then 0 else 1)<30))=true:=by rfl)
 (h6:(apos.endLine==cpos.line)=true:=by rfl) (h7:Ed e es X:=by rfl) (h8:Ee cpos es X:=by rfl):
 QE X (.Call (.Attribute o "extend" apos) (e::es) [] cpos) (aZ fK to tr):=pV PySem.F.slot_list_extend PySem.F.type_list_extend abn ho ha h4 h5 h6 h7 h8
theorem aht(ho:QE X o to)(h4:attributeBase o "pop" X.env (eval o X.env)=eval o X.env:=by rfl)(h6:(apos.endLine==cpos.line)=true:=by rfl):
 QE X (.Call (.Attribute o "pop" apos) [] [] cpos) (aZ ac9 to qx):=aji PySem.F.slot_list_pop PySem.F.type_list_pop amt ho h4 h6
end
abbrev ga:uI:=yI0 fun i j=>.int (i - j)
abbrev aa5:uI:=yI ab3 fun i j=>.int (i*j)
abbrev bB:uI:=yI ajd fun i j=>.int (i / j)
abbrev wq:uI:=yI (fun _ j=>0<j) fun i j=>.int (i % j)
abbrev ap6:uI:=yI ak9 fun i j=>.int (i ^ j.toNat)
abbrev yLt:uI:=yI0 fun i j=>.bl (decide (i<j))
abbrev yGt:uI:=yI0 fun i j=>.bl (decide (j<i))
structure amj(G:G3)(mg:Str->Option Value)(x:Str)(y:Y):Prop where
 ex:∃c,mg x=some (.ref c)/\∀H,RV G H y (.ref c)
theorem ah5(t:amj X.g3 X.mg x y)(hg:Gl X x)(hd:Ef x:=by decide):QE X (.Name x pos) (yC y):=by obtain⟨c,hm,q⟩:=t.ex;exact amz hg hm q hd
def agk(kvs:List (Str×Str)):LO:=.dct (kvs.map fun p=>(Sum.inr p.1,Y.str p.2))
def agg(kvs:List (Str×Str))(_:ji)(L:ql)(Q:YK):Prop:=∀p,L p=none->Q (.ref p) (qd L p (agk kvs))
def kvV(kvs:List (Str×Str)):List (jg×V):=kvs.map fun p=>(Sum.inr p.1,V.str p.2)
theorem qR{σ:L2.St}{H:Hp}{Q:List (V×V)->Hp->Prop}:∀{kvs:List (Str×Str)},Q (kvs.map fun p=>(V.str p.1,V.str p.2)) H->pL (kvs.map fun p=>(tC (.str p.1),tC (.str p.2))) σ H Q
 |[],h=>h
 |_::r,h=>qR (kvs:=r) h
theorem vQ{G:G3}{H:Hp}:∀kvs:List (Str×Str),Paired (fun(p:jg×Y) (q:jg×V)=>p.1=q.1/\RV G H p.2 q.2) (kvs.map fun p=>(Sum.inr p.1,Y.str p.2)) (kvV kvs)
 |[]=>.nil
 |_::r=>.cons ⟨rfl,rfl⟩ (vQ r)
theorem adt{keys:List (Option Expr)}{values:List Expr}(kvs:List (Str×Str))(h:PPs X pos keys values (kvs.map fun p=>(tC (.str p.1),tC (.str p.2))))(h1:(keys.all fun x=>x.isSome)=true)(h2:keys.length=values.length)(h3:keys≠[])(h4:keys.length≤15)
 (h5:kvs.length≤15:=by decide) (nd:gu [] (kvV kvs)=kvV kvs:=by decide +kernel):QE X (.Dict keys values pos) (agg kvs):=EF (ae1 h h1 h2 h3 h4) fun σ H Q ⟨τ,L,Q3,rs,rl,z,k⟩=>by
 intro p hp;refine qR ⟨zv,kvV kvs,by simp[kvV,kV],by simpa[kvV] using h5,?_⟩;rw[nd,afc];refine k _ _ _ (qd L p (agk kvs)) (EE hp) ?_ (by rfl) (z p (rl.none hp));intro a u e;by_cases c:a=p
 ·subst c;rw[q9] at e;cases e;exact⟨kvV kvs,zv,vQ kvs⟩
 ·rw[qa c] at e;exact(rl a u e).keep (EE hp) (qo c)
theorem iu{Q:α->ql->Prop}{o:Option α}(h:wG L Q o):∃v,o=some v/\Q v L:=by cases o with|none=>exact h.elim|some v=>exact⟨v,rfl,h⟩
theorem iR{kvs:List (Str×Str)}{k:Str}(h:kvs.lookup k=some x):wz (kvs.map fun p=>((Sum.inr p.1:jg),Y.str p.2)) (Sum.inr k)=some (Y.str x):=by
 induction kvs with
 |nil=>simp at h
 |cons p r ih=>
  obtain⟨a,b⟩:=p;unfold wz;rw[AG,BI];rw[A9] at h;by_cases c:k=a
  ·subst c;simp at h;simp[h]
  ·have c1:(k==a)=false:=by simpa using c
   rw[c1] at h;have c2:decide ((Sum.inr a:jg)=Sum.inr k)=false:=AA fun z=>c (Sum.inr.inj z).symm;simp only[c2];exact ih h
theorem vP(h:(wo lo n)[i]?=some y):i<n/\y=.int (lo+i):=by
 unfold wo at h;rw[Av] at h;obtain⟨z,ez,e⟩:=AE.mp h;have hi:i<n:=by
  by_cases c:i<n
  ·exact c
  ·rw[Cu (by simp;exact yr)] at ez;cases ez
 rw[Cd hi] at ez;cases ez;exact⟨hi,e.symm⟩
theorem lD(lo:Int)(n:Nat):(wo lo n).length=n:=by simp[wo]
theorem vY{tb:kn}(W:Nat->ji->ql->Prop)(h0:W 0 τ L)
 (hs:∀i τ L,i<n->W i τ L->g (.int (lo+i)) τ L fun τ2 L2=>tb { D with nx:=dy (W (i+1)),ct:=dy (W (i+1)),bk:=D.nx } τ2 L2) (hd:∀τ L,W n τ L->D.nx τ L):si (wo lo n) (fun _=>True) g tb D τ L:=by
 refine af ⟨W,h0,fun _ _ _ _=>trivial,fun i y τ L e w=>?_,fun τ L w=>hd τ L (by rw[lD] at w;exact w)⟩;obtain⟨hi,rfl⟩:=vP e;exact hs i τ L hi w
theorem ahs{a:Addr}{v:Y}{Q:YK}(e:L a=some (.lst (ys++[v])))(q:Q v (qd L a (.lst ys))):gW L (.ref a) (fun _=>qx τ L fun xs L2=>ac9 (.ref a) xs L2 Q):=by
 refine qe e (qu e ?_);have:(ys++[v])[(ys++[v]).length - 1]?=some v:=by simp
 rw[this,List.dropLast_concat];exact q
theorem iq{tb:kn}{a:Addr}(h:bK L (.ref a)=some ys)(W:Nat->ji->ql->Prop)(h0:W 0 τ L)(hk:∀i τ L',W i τ L'->L' a=L a)
 (hs:∀i y τ L,ys[i]?=some y->W i τ L->g y τ L fun τ2 L2=>tb { D with nx:=dy (W (i+1)),ct:=dy (W (i+1)),bk:=D.nx } τ2 L2) (hd:∀τ L,W ys.length τ L->D.nx τ L):
 re L a fun ys keep L1=>si ys keep g tb D τ L1:=xz (gR h) fun keep kp=>af ⟨W,h0,fun i τ L' w=>kp L' (hk i τ L' w),hs,hd⟩
theorem cq{keep:ql->Prop}{Q:YK}(I:Nat->List Y->Prop)(hz:ys.length<sizeLine)(hk:keep L)(h0:I 0 [])
 (turn:∀(i:Nat) y zs,ys[i]?=some y->I i zs->g y (τ++List.replicate n none) L fun τ2 L2=>tc τ2 L2 fun b L3=>ke b (te τ2 L3 fun z L4=>dy (fun zs L'=>L'=L/\I (i+1) zs) (zs++[z]) L4) (dy (fun zs L'=>L'=L/\I (i+1) zs) zs L3))
 (hq:∀zs,I ys.length zs->∀p,L p=none->Q (.ref p) (qd L p (.lst zs))):yw ys keep n g tc te τ L Q:=by
 refine oE ⟨hz,fun i zs L'=>L'=L/\I i zs,⟨rfl,h0⟩,?_,?_,?_⟩
 ·rintro i zs L' ⟨rfl,_⟩;exact hk
 ·rintro i y zs L' ey ⟨rfl,hI⟩;exact turn i y zs ey hI
 ·rintro zs L' ⟨rfl,hI⟩ p hp;exact hq zs hI p hp
theorem ud{Q:YK}(I:Nat->List Y->Prop)(hz:m<sizeLine)(h0:I 0 [])
 (turn:∀(i:Nat) zs,i<m->I i zs->g (.int (lo+i)) (τ++List.replicate n none) L fun τ2 L2=>tc τ2 L2 fun b L3=>ke b (te τ2 L3 fun z L4=>dy (fun zs L'=>L'=L/\I (i+1) zs) (zs++[z]) L4) (dy (fun zs L'=>L'=L/\I (i+1) zs) zs L3))
 (hq:∀zs,I m zs->∀p,L p=none->Q (.ref p) (qd L p (.lst zs))):yw (wo lo m) (fun _=>True) n g tc te τ L Q:=by
 refine cq (keep:=fun _=>True) I (by rw[lD];exact hz) trivial h0 (fun i y zs e hI=>?_) fun zs hI=>hq zs (by rw[lD] at hI;exact hI);obtain⟨hi,rfl⟩:=vP e;exact turn i zs hi hI
theorem ig{ws:List α}{f:α->Y}{w:α}(h:ws[i]?=some w):dg (ws.map f) (i:Int)=some (f w):=ve (by rw[Av,h];rfl)
theorem aek{keep:ql->Prop}{Q:YK}(f:Y->Option Y)(hz:ys.length<sizeLine)(hk:keep L)
 (turn:∀(i:Nat) y (W:List Y->ql->Prop) zs,ys[i]?=some y->W (zs++(f y).toList) L->g y (τ++List.replicate n none) L fun τ2 L2=>tc τ2 L2 fun b L3=>ke b (te τ2 L3 fun z L4=>dy W (zs++[z]) L4) (dy W zs L3))
 (hq:∀p,L p=none->Q (.ref p) (qd L p (.lst (ys.filterMap f)))):yw ys keep n g tc te τ L Q:=by
 refine oE ⟨hz,fun i zs L'=>L'=L/\zs=(ys.take i).filterMap f,⟨rfl,by simp⟩,?_,?_,?_⟩
 ·rintro i zs L' ⟨rfl,_⟩;exact hk
 ·rintro i y zs L' ey ⟨rfl,rfl⟩;refine turn i y _ _ ey ⟨rfl,?_⟩;rw[Bo,ey,List.filterMap_append];congr 1
 ·rintro zs L' ⟨rfl,rfl⟩ p hp;rw[Bn];exact hq p hp
def xq(t:kn)(n:Nat)(ys:List Y)(L:ql)(Q:YK):Prop:=t { nx:=fun _ L'=>iY Q .non L',rt:=iY Q } (ys.map some++List.replicate (n - ys.length) none) L
theorem xu{Q:YK}(h:Q y L):iY Q y L:=⟨L,ED L,h⟩
theorem eY{Q:YK}(s:qk L L')(h:Q y L):iY Q y L':=⟨L,s,h⟩
theorem Fn3.never{P:Program}{w:World}{K:Af}{k:Nat}(no:∀ys L Q,¬sp ys L Q):Fn3 P w K mg base k f fd ps sp:=
 a6.never fun vs H Q E ⟨ys,L,Q3,_,_,z,_⟩=>no ys L Q3 z
theorem qk.upd{a:Addr}{o:LO}(s:qk L L')(h:L a=none):qk L (qd L' a o):=fun b u e=>by rw[qa (xo e h)];exact s b u e
theorem qk.put{a:Addr}{o:LO}(s:qk L L')(h:L' a=some o):qk (qd L a o) L':=fun b u e=>by
 by_cases c:b=a
 ·subst c;rw[q9] at e;cases e;exact h
 ·rw[qa c] at e;exact s b u e
theorem rW{G:G3}{H:Hp}:∀ns:List Int,xi G H (ns.map Y.int) (ns.map V.int)
 |[]=>rfl
 |_::r=>⟨_,_,rfl,rfl,rW r⟩
end L3
namespace L2
open PySem PySem.Spec PyProof.Rows
section
variable {σ:L2.St} 
theorem lB(I:qw X pins σ H s)(hf:∀b∈fp,H b=none)(k:∀b o,b∉fp->s.heap.get? b=some o->h'.get? b=some o):eB X.prog X.w H h':=fun b u e=>by
 refine(I.hok b u e).stay (fun c v hc q=>k c v (fun z=>?_) q) (fun _ q=>q) fun _ _ q=>q;have hn:=hf c z;rcases hc with w | w
 ·rw[w,e] at hn;cases hn
 ·rw[w] at hn;cases hn
theorem y8{fs:List Addr}(k:∀b o,b∉fp->h.get? b=some o->h'.get? b=some o):Un fs fp H H h h':=
 ⟨fun b o q _ _ x=>k b o x q,fun b o q _ _ x=>⟨o.slots,k b o x q⟩,fun _ _ _ n _=>n,fun b o q x=>⟨o,k b o x q⟩,fun _ _ q=>q,fun _ _ _ q=>q,fun b ps q=>⟨#[],by rw[q];simp⟩⟩
theorem qw.turnedL(I:qw X pins σ H s)(k:∀b o,b∉fp->s.heap.get? b=some o->h'.get? b=some o)(hf:∀b∈fp,mO X pins H b)(ht:0<t':=by walk_at "t"):qw X pins σ H { s with heap:=h',toks:=t' }:=
 I.call' (s':={ s with heap:=h',toks:=t' }) (ch:=fp) rfl (y8 k) (lB I (fun b hb=>(hf b hb).1) k) I.bare fun b hb=>⟨(hf b hb).2.2.2.1,(hf b hb).2.1,(hf b hb).2.2.2.2.1,(hf b hb).2.2.2.2.2⟩
theorem qw.turnedN{a:Addr}{o:HO}(I:qw X pins σ H s)(k:∀b o,b∉fp->s.heap.get? b=some o->h'.get? b=some o)(hf:∀b∈fp,mO X pins H b)(ha:s.heap.objs.size≤a)
 (new:xg X.prog X.w (upd H a o) h' a o) (ht:0<t':=by walk_at "t"):qw X pins σ (upd H a o) { s with heap:=h',toks:=t' }:=by
 have hn:H a=none:=I.hok.fresh ha;have lt:∀b ob,s.heap.get? b=some ob->b≠a:=fun b ob q=>A3 (AO (Heap.lt_size q) ha);refine I.call' (s':={ s with heap:=h',toks:=t' }) (ch:=fp) rfl ?_ ?_ I.bare fun b hb=>⟨(hf b hb).2.2.2.1,(hf b hb).2.1,(hf b hb).2.2.2.2.1,(hf b hb).2.2.2.2.2⟩
 ·exact⟨fun b ob q _ _ x=>k b ob x q,fun b ob q _ _ x=>⟨ob.slots,k b ob x q⟩,fun b ob q n _=>by rw[qo (lt b ob q)];exact n,fun b ob q x=>⟨ob,k b ob x q⟩,
   fun b xs q=>by rw[qo (j5 q hn)];exact q,fun b ob u q=>by rw[qo (j5 q hn)];exact q,fun b ps q=>⟨#[],by rw[qo (j5 q hn),q];simp⟩⟩
 ·intro b u e;by_cases hb:b=a
  ·subst hb;rw[zv] at e;cases e;exact new
  ·rw[qo hb] at e;have ok:=lB I (h':=h') (fun b hb=>(hf b hb).1) k b u e;exact ok.stay (fun _ _ _ q=>q) (fun c q=>by rw[qo (j5 q hn)];exact q) fun c xs q=>by rw[qo (j5 q hn)];exact q
end
def Ite(K:Af)(a:Addr):It:=
 ⟨fun i H=>∃xs x,wu K H a xs/\xs[i]?=some x,fun i H v H'=>∃p x,H p=none/\v=.ref p/\H'=upd H p (.tup [.int i,x])/\∀xs,wu K H a xs->xs[i]?=some x,fun i H=>∃xs,wu K H a xs/\xs.length≤i⟩
theorem xN{P:Program}{w:World}{K:Af}(a e it:Addr)(hne:e≠it):xG P w K (.Tuple elts x1 tp) (Ite K a) [e,it] e (fun i h=>(∃old,IsEnum h e it i old)/\h.IsListIter it a i) where
 mem:=by simp
 obj:=fun i h ⟨⟨old,he⟩,hi⟩ b hb=>by
  rcases Ar.mp hb with rfl | hb
  ·exact⟨_,he,fun v z=>by cases z⟩
  ·cases Au.mp hb;obtain⟨o,ho,hc,hd⟩:=hi;exact⟨o,ho,fun v z=>by rw[hd] at z;cases z⟩
 keep:=fun i h h' ⟨⟨old,he⟩,hi⟩ k=>⟨⟨old,k e (by simp) _ he⟩,hi.at fun o q=>k it (by simp) o q⟩
 item:=by
  intro X hP hw hK hc i pins s σ H E I hf ⟨⟨old,he⟩,hi⟩ hg;subst hP hw hK;obtain⟨xs,x,hq,hx⟩:=hg;obtain⟨its,rv,p,hz⟩:=I.list hq;obtain⟨u,hu,ru⟩:=rv.get hx;refine wpAny_pyNext_enum_item he hi p.isList (x:=u) (by simpa using hu) hne fun h1 heo hi1 ht hz1 hk=>⟨.ref s.heap.objs.size,rfl,wpAny_letOwnedTupleGo_enum heo fun h2 he2 hs2=>?_⟩;have el:e<s.heap.objs.size:=Heap.lt_size he;have il:it<s.heap.objs.size:=by obtain⟨o,ho,_⟩:=hi;exact Heap.lt_size ho
  have kk:∀b o,b∉[e,it]->s.heap.get? b=some o->h2.get? b=some o:=fun b o nb q=>by have n1:b≠e:=fun z=>nb (by simp[z]);have n2:b≠it:=fun z=>nb (by simp[z]);exact hs2.extBut b o n1 (hk b o n1 n2 q)
  have tg:h2.get? s.heap.objs.size=some { cls:=.type "tuple",data:=.seq #[.int i s.toks,u] }:=hs2.extBut _ _ (C0 el) ht;refine⟨.ref s.heap.objs.size,upd H s.heap.objs.size (.tup [.int i,x]),?_,rfl,⟨_,x,I.hok.fresh (Am _),rfl,rfl,fun ys hy=>by rw[I.list_inj hy hq];exact hx⟩,⟨⟨_,he2⟩,hi1.at fun o q=>hs2.extBut _ _ (AH hne) q⟩,fun b hb=>?_⟩
  ·exact I.turnedN (t':=s.toks+1) kk hf (Am _) ⟨by show 2≤sizeLine;decide,[.int i s.toks,u],.cons ⟨_,rfl⟩ (.cons ru .nil),⟨_,tg,rfl,_,rfl⟩⟩
  ·have hb':b<s.heap.objs.size:=by rcases Ar.mp hb with rfl | hb;exact el;cases Au.mp hb;exact il
   rw[qo (A3 hb')];exact(hf b hb).1
 done:=by intro X hP hw hK hc i pins s σ H E I hf ⟨⟨old,he⟩,hi⟩ hg;subst hP hw hK;obtain⟨xs,hq,hx⟩:=hg;obtain⟨its,rv,p,hz⟩:=I.list hq;have hl:=rv.length;exact wpAny_pyNext_enum_end (I.ok.hd hc) he hi p.isList (by simp;omega) fun h1 eb=>⟨rfl,I.turnedL (t':=s.toks) (fp:=[e,it]) (fun b o nb q=>eb b o (fun z=>nb (by simp[z])) q) hf⟩
 self:=fun _ _ _ _ _ ⟨⟨_,he⟩,_⟩ h=>wpAny_pyIter_enum he h
def ams(K:Af)(ta:TA):TI:=fun σ H R=>ta σ H fun vs H1=>∃a,vs=[.ref a]/\(∃xs,wu K H1 a xs)/\R (Ite K a) H1
theorem ou:bootBuiltins "enumerate" = some (.type "enumerate"):=by decide +kernel
theorem aef{a:Expr}{ta:TA}(hg:Gl X "enumerate")(hm:X.mg "enumerate" = none)(ha:PA X [a] ta)(hs:starEach [a] X.env=[(false,eval a X.env)]:=by rfl):
 PI X (.Tuple elts x1 tp) (.Call (.Name "enumerate" p) [a] [] pos) (ams X.K ta):=by
 intro pins s σ H R I h;refine Call_ (fG I hg hm ou (BW (xt (ha pos pins s σ H _ I h) fun us s1 ⟨vs,H1,I1,r1,q1⟩=>?_) hs rfl));obtain⟨l,e,⟨xs,hq⟩,q⟩:=q1;subst e;obtain⟨u,rfl,ru⟩:=qY r1;cases ru;obtain⟨its,rv,pl,hz⟩:=I1.list hq;refine call_enumerate_list pl.isList fun h1 he hi hsz hk=>?_;have I2:qw X pins σ H1 { s1 with heap:=h1 }:=I1.kept (t':=s1.toks) hk;refine wpAny_pyIter_enum (s:={ s1 with heap:=h1 }) he ?_;refine⟨s1.heap.objs.size+1,[s1.heap.objs.size+1,s1.heap.objs.size],_,_,H1,rfl,I2,xN l _ _ (Nat.succ_ne_self _),⟨⟨_,he⟩,hi⟩,fun b hb=>?_,q⟩;have hb':s1.heap.objs.size≤b:=by rcases Ar.mp hb with rfl | hb;exact Cn _;cases Au.mp hb;exact Am _
 exact I1.fpOk hb' (I1.hok.fresh hb')
end L2
namespace L3
open PySem L2
theorem iJ{a:Addr}{keep:ql->Prop}(h:∀H L,j7 H₀ H->jk G H L->keep L->∃xs,wu G.K H a xs/\xi G H ys xs):gq G H₀ (Ite G.K a) (ys.zipIdx.map fun p=>Y.tup [.int (p.2:Nat),p.1]) keep where
 go:=fun i H L t rl kp hi=>by
  obtain⟨xs,sq,r⟩:=h H L t rl kp;have:i<xs.length:=by rw[<-r.length];simpa using hi
  exact⟨xs,xs[i],sq,Aj this⟩
 yld:=fun i H L x H' y t rl kp hy ⟨p,z,hp,e1,e2,f⟩=>by subst e1 e2;obtain⟨xs,sq,r⟩:=h H L t rl kp;rw[Av,List.getElem?_zipIdx] at hy;obtain⟨⟨y',j⟩,ey,e3⟩:=AE.mp hy;obtain⟨y'',ey',e4⟩:=AE.mp ey;cases e4;subst e3;obtain⟨x',e',rv⟩:=r.get ey';have:=f xs sq;rw[e'] at this;cases this;refine⟨EE hp,rl.skip hp,p,_,rfl,cL.of zv,⟨_,_,rfl,?_,_,_,rfl,rv.ts (EE hp),rfl⟩⟩;show V.int _=V.int _;congr 1;simp
 stop:=fun H L t rl kp=>by obtain⟨xs,sq,r⟩:=h H L t rl kp;exact⟨xs,sq,by rw[Ae,List.length_zipIdx,r.length];exact Am _⟩
def lZ(ys:List Y):List Y:=ys.zipIdx.map fun p=>Y.tup [.int (p.2:Nat),p.1]
theorem ff(h:(lZ ys)[i]?=some y):∃z,ys[i]?=some z/\y=.tup [.int i,z]:=by unfold lZ at h;rw[Av,List.getElem?_zipIdx] at h;obtain⟨⟨y',j⟩,ey,e3⟩:=AE.mp h;obtain⟨y'',ey',e4⟩:=AE.mp ey;cases e4;exact⟨y',ey',by rw[<-e3];simp⟩
theorem dX(ys:List Y):(lZ ys).length=ys.length:=by simp[lZ]
def eX(tl:xw)(τ:ji)(L:ql)(R:List Y->(ql->Prop)->ql->Prop):Prop:=tl τ L fun x L1=>match x with
 |.ref a=>re L1 a fun ys keep L=>R (lZ ys) keep L
 |.sq ys=>R (lZ ys) (fun _=>True) L1
 |_=>False
theorem da{a:Expr}(hg:Gl X "enumerate")(hm:X.mg "enumerate" = none)(ha:QE X a te)(hs:starEach [a] X.env=[(false,eval a X.env)]:=by rfl)
 (hs2:starEach [a] X.env=(false,eval a X.env)::starEach [] X.env:=by rfl):QI X (.Tuple elts x1 tp) (.Call (.Name "enumerate" p) [a] [] pos) (eX te):=PI.imp (aef hg hm (aB ha fE hs2) hs) fun σ H R ⟨τ,L,R3,rs,rl,z,k⟩=>by
 refine⟨τ,L,_,rs,rl,z,fun v H1 y L1 t1 rl1 rv1 z1=>?_⟩;cases y with
 |ref a=>
  obtain⟨ys,keep,es,kp,hk,z2⟩:=qI z1;have hy:∀H L,j7 H1 H->jk X.g3 H L->keep L->∃xs,wu X.K H a xs/\xi X.g3 H ys xs:=fun H L _ rl e=>dJ rl (hk L e);obtain⟨xs,sq,_⟩:=hy H1 L1 (EC _) rl1 kp;cases rv1;exact⟨a,rfl,⟨xs,sq⟩,k _ H1 _ _ L1 t1 rl1 (iJ hy) z2⟩
 |sq ys=>
  obtain⟨a,xs,e,sf,r⟩:=rv1;subst e;exact⟨a,rfl,⟨xs,sf.sq⟩,k _ H1 _ (fun _=>True) L1 t1 rl1 (iJ fun H L t _ _=>⟨xs,(sf.ts t).sq,r.ts t⟩) z1⟩
 |_=>exact z1.elim
end L3
namespace L2
open PySem PySem.Spec PyProof.Rows
def gK(t:Bool)(h:Heap)(it l:Addr)(k:Nat):Prop:=match t with
 |false=>h.IsListIter it l k
 |true=>h.IsTupleIter it l k
def m6(t:Bool)(h:Heap)(l:Addr)(xs:Array Value):Prop:=match t with
 |false=>h.IsList l xs
 |true=>h.IsTuple l xs
theorem gK.on{k:Nat}(x:gK t h it l k)(e:∀o,h.get? it=some o->h'.get? it=some o):gK t h' it l k:=by cases t with|false=>exact Heap.IsListIter.at x e|true=>exact Heap.IsTupleIter.at x e
theorem m6.on{xs:Array Value}(x:m6 t h l xs)(e:∀o,h.get? l=some o->h'.get? l=some o):m6 t h' l xs:=by cases t with|false=>exact Heap.IsList.at x e|true=>exact Heap.IsTuple.at x e
theorem gK.ob{k:Nat}(x:gK t h it l k):∃o,h.get? it=some o/\∀v,o.data≠.cell v:=by
 cases t with
 |false=>obtain⟨o,e,c,d⟩:=x;exact⟨o,e,fun v z=>by rw[d] at z;cases z⟩
 |true=>obtain⟨o,e,c,d⟩:=x;exact⟨o,e,fun v z=>by rw[d] at z;cases z⟩
theorem wA(l:Addr):¬((Value.ref l==Value.none)=true):=Az
section
variable {w:World} 
theorem uO{xs:Array Value}{x:Value}(hi:s.heap.IsTupleIter it l i)(hl:s.heap.IsTuple l xs)(hx:xs[i]?=some x)
 (q:∀h',h'.IsTupleIter it l (i+1)->Heap.SameBut it s.heap h'->Q x { s with heap:=h' }):wpAny (model prog w) A (Builtin.SmallTypes.nextOf (.ref it)) Q E s:=by
 obtain⟨o,oi,ci,di⟩:=id hi;obtain⟨u,ul,_,n,dl⟩:=hl;unfold Builtin.SmallTypes.nextOf;refine Aa (wpAny_callSpecial?_slot (name:="__next__") hi.typeIs F.slot_tuple_iterator_next (wpAny_call_entry F.slot_tuple_iterator_next hi.typeIs F.entry_tuple_iterator_next ?_ (F.args_tuple_iterator_next_1 _)));refine Aa (m:=field (.ref it) 0) (A8 oi di (x:=.ref l) rfl ?_);rw[Aq (wA l)];refine Aa (m:=field (.ref it) 1) (A8 oi di (x:=.int i 0) rfl (Aa (m:=seqItems? (.ref l)) (BF ul dl ?_)));simp only[B5,hx];refine Aa (wpAny_setField oi di (by simp) (Ai ⟨x,rfl,Ai (q _ ⟨_,Heap.get?_update_self _ oi (Obj.isFreed_of_fields (Obj.data_mapFields di _)),(Obj.cls_mapFields ..).trans ci,?_⟩ (Heap.SameBut.update ..))⟩));rw[Obj.data_mapFields di];simp[rawInt]
theorem xS{xs:Array Value}(hh:A.handled=none)(hi:s.heap.IsTupleIter it l i)(hl:s.heap.IsTuple l xs)(hx:xs[i]?=none)
 (q:∀h' e,Heap.ExtBut it s.heap h'->(∃o,h'.get? e=some o/\o.cls=.type "StopIteration")->E (.ref e) { s with heap:=h' }):wpAny (model prog w) A (Builtin.SmallTypes.nextOf (.ref it)) Q E s:=by
 obtain⟨o,oi,ci,di⟩:=id hi;obtain⟨u,ul,_,n,dl⟩:=hl;unfold Builtin.SmallTypes.nextOf;refine Aa (wpAny_callSpecial?_slot (name:="__next__") hi.typeIs F.slot_tuple_iterator_next (wpAny_call_entry F.slot_tuple_iterator_next hi.typeIs F.entry_tuple_iterator_next ?_ (F.args_tuple_iterator_next_1 _)));refine Aa (m:=field (.ref it) 0) (A8 oi di (x:=.ref l) rfl ?_);rw[Aq (wA l)];refine Aa (m:=field (.ref it) 1) (A8 oi di (x:=.int i 0) rfl (Aa (m:=seqItems? (.ref l)) (BF ul dl ?_)));simp only[B5,hx];refine Aa (Bt (Aa (wpAny_setField oi di (by simp) ?_)));refine Aa (m:=newExc (.type "StopIteration") []) ?_;simp only[newExc,newTuple];refine Aa (Bk (Aa (m:=firstArgMember _ _) (wpAny_of_eq (a:=Value.none) (by first | rfl | (simp only[firstArgMember];rfl)) (Bk ?_ (by size_fits)))) (by size_fits));simp only[raiseNew];refine Aa (wpAny_handled ?_)
 first | rw[show A.in1.handled=none from hh] | rw[hh]
 exact Aa (Ai (wpAny_throw (q _ _ (((Heap.SameBut.update ..).extBut.push _).push _) ⟨_,Heap.get?_push_size _ rfl,rfl⟩)))
theorem gK.next{xs:Array Value}{x:Value}(hi:gK t s.heap it l i)(hl:m6 t s.heap l xs)(hx:xs[i]?=some x)
 (q:∀h',gK t h' it l (i+1)->Heap.SameBut it s.heap h'->Q x { s with heap:=h' }):wpAny (model prog w) A (Builtin.SmallTypes.nextOf (.ref it)) Q E s:=by
 cases t with|false=>exact wpAny_nextOf_list_item hi hl hx q|true=>exact uO hi hl hx q
theorem gK.stop{xs:Array Value}(hh:A.handled=none)(hi:gK t s.heap it l i)(hl:m6 t s.heap l xs)(hx:xs[i]?=none)
 (q:∀h' e,Heap.ExtBut it s.heap h'->(∃o,h'.get? e=some o/\o.cls=.type "StopIteration")->E (.ref e) { s with heap:=h' }):wpAny (model prog w) A (Builtin.SmallTypes.nextOf (.ref it)) Q E s:=by
 cases t with|false=>exact wpAny_nextOf_list_end hh hi hl hx q|true=>exact xS hh hi hl hx q
structure ZAp(z TI TO i1 i2 l1 l2:Addr):Prop where
 n1:TI≠z
 n2:TO≠z
 n3:i1≠z
 n4:i2≠z
 n5:TO≠i1
 n6:TO≠i2
 n7:i1≠i2
 n8:l1≠z
 n9:l1≠TO
 n10:l1≠i1
 n11:l1≠i2
 n12:l2≠z
 n13:l2≠TO
 n14:l2≠i1
 n15:l2≠i2
theorem acs{z TI TO i1 i2:Addr}{k:Nat}{xs ys:Array Value}{x y a b:Value}(D:ZAp z TI TO i1 i2 l1 l2)(hz:IsZip s.heap z TI TO .none)(hI:IsPair s.heap TI (.ref i1) (.ref i2))(hO:IsPair s.heap TO a b)
 (h1:gK t1 s.heap i1 l1 k) (h2:gK t2 s.heap i2 l2 k) (q1:m6 t1 s.heap l1 xs) (q2:m6 t2 s.heap l2 ys) (hx:xs[k]?=some x) (hy:ys[k]?=some y)
 (q:∀h',IsZip h' z TI TO (rawInt s.heap.objs.size)->IsPair h' TO x y->gK t1 h' i1 l1 (k+1)->gK t2 h' i2 l2 (k+1)->IsPair h' s.heap.objs.size x y->
  (∀c o,c≠z->c≠TO->c≠i1->c≠i2->s.heap.get? c=some o->h'.get? c=some o)->Q (.ref s.heap.objs.size) { s with heap:=h' }):
 wpAny (model prog w) A (Builtin.«zip.__next__» ⟨[.ref z],[]⟩) (fun xu s'=>∃v,xu=.done (.ret v)/\Q v s') E s:=by
 refine Aa (m:=field (.ref z) 2) (A8 hz rfl (x:=.bool false) rfl (Aa (m:=field (.ref z) 3) (A8 hz rfl (x:=.ref TI) rfl (Aa (BF hI rfl ?_)))));refine Aa (m:=Builtin.SmallTypes.ownedTupleIsFree (.ref z)) ?_;unfold Builtin.SmallTypes.ownedTupleIsFree;refine Aa (A8 hz rfl (x:=.none) rfl (Ai ?_));simp only[if_true];refine Aa (Bt (Aa (A8 hz rfl (x:=.ref TO) rfl (Aa (wpAny_setField_rec hz (by simp) fun g1 z1 e1=>?_)))));have z1':IsZip g1 z TI TO .ellipsis:=z1;refine Aa ?_;simp only[DI,List.zipIdx_nil,CN,DX];refine Aa (Aa (wpAny_onRaise (Aa (m:=Builtin.SmallTypes.nextOf (.ref i1)) ((h1.on fun o e=>e1.extBut _ _ D.n3 e).next (q1.on fun o e=>e1.extBut _ _ D.n8 e) hx fun g2 h12 e2=>Ai ?_))));have O2:IsPair g2 TO a b:=e2.extBut _ _ D.n5 (e1.extBut _ _ D.n2 hO);refine Aa (BF O2 rfl (Aa (wpAny_updateSeq_pair O2 fun g3 O3 e3=>Aa (wpAny_letGo (Ai ?_)))));have O3':IsPair g3 TO x b:=O3;refine Aa (Aa (wpAny_onRaise (Aa (m:=Builtin.SmallTypes.nextOf (.ref i2)) (gK.next (l:=l2) (i:=k) (xs:=ys) (x:=y) (t:=t2) (h2.on fun o e=>e3.extBut _ _ (AH D.n6) (e2.extBut _ _ (AH D.n7) (e1.extBut _ _ D.n4 e)))
  (q2.on fun o e=>e3.extBut _ _ D.n13 (e2.extBut _ _ D.n14 (e1.extBut _ _ D.n12 e))) hy fun g4 h24 e4=>Ai ?_))))
 have O4:IsPair g4 TO x b:=e4.extBut _ _ D.n6 O3';refine Aa (BF O4 rfl (Aa (wpAny_updateSeq_pair O4 fun g5 O5 e5=>Aa (wpAny_letGo (Ai (Ai ?_))))));have O5':IsPair g5 TO x y:=O5;refine Aa (BF O5' rfl (Aa (wpAny_newTuple ?_)));have sz:g5.objs.size=s.heap.objs.size:=by rw[e5.1,e4.1,e3.1,e2.1,e1.1]
 have z5:IsZip g5 z TI TO .ellipsis:=e5.extBut _ _ (AH D.n2) (e4.extBut _ _ (AH D.n4) (e3.extBut _ _ (AH D.n2) (e2.extBut _ _ (AH D.n3) z1')));have k5:∀c o,c≠z->c≠TO->c≠i1->c≠i2->s.heap.get? c=some o->g5.get? c=some o:=fun c o a1 a2 a3 a4 e=>e5.extBut _ _ a2 (e4.extBut _ _ a4 (e3.extBut _ _ a2 (e2.extBut _ _ a3 (e1.extBut _ _ a1 e))));have zl:z<g5.objs.size:=Heap.lt_size z5;refine Aa (m:=Builtin.SmallTypes.ownedTupleHandOut (.ref z) (.ref g5.objs.size)) ?_;unfold Builtin.SmallTypes.ownedTupleHandOut;refine Aa (wpAny_setField_rec (show IsZip (g5.push { cls:=.type "tuple",data:=.seq #[x,y] }) z TI TO .ellipsis from Heap.get?_push_of_some _ z5) (by simp) fun g7 z7 e7=>?_);have z7':IsZip g7 z TI TO (rawInt g5.objs.size):=z7;refine wpAny_setField_rec z7' (by simp) fun g8 z8 e8=>Ai ⟨_,rfl,?_⟩;have z8':IsZip g8 z TI TO (rawInt g5.objs.size):=z8;have up:∀c o,c≠z->g5.get? c=some o->g8.get? c=some o:=fun c o a1 e=>e8.extBut _ _ a1 (e7.extBut _ _ a1 (Heap.get?_push_of_some _ e));have T8:IsPair g8 g5.objs.size x y:=e8.extBut _ _ (C0 zl) (e7.extBut _ _ (C0 zl) (Heap.get?_push_size _ rfl));have xu:=q g8 (by rw[<-sz];exact z8') (up _ _ D.n2 O5') (h12.on fun o e=>up _ o D.n3 (e5.extBut _ _ (AH D.n5) (e4.extBut _ _ D.n7 (e3.extBut _ _ (AH D.n5) e)))) (h24.on fun o e=>up _ o D.n4 (e5.extBut _ _ (AH D.n6) e))
  (by rw[<-sz];exact T8) fun c o a1 a2 a3 a4 e=>up c o a1 (k5 c o a1 a2 a3 a4 e)
 show Q (.ref g5.objs.size) _;rw[sz];exact xu
theorem abl{z TI TO i1 i2:Addr}{k:Nat}{xs ys:Array Value}{a b:Value}{Q:Fin->Shared->Prop}(hh:A.handled=none)(D:ZAp z TI TO i1 i2 l1 l2)(hz:IsZip s.heap z TI TO .none)(hI:IsPair s.heap TI (.ref i1) (.ref i2))(hO:IsPair s.heap TO a b)
 (h1:gK t1 s.heap i1 l1 k) (h2:gK t2 s.heap i2 l2 k) (q1:m6 t1 s.heap l1 xs) (q2:m6 t2 s.heap l2 ys) (hend:xs[k]?=none\/ys[k]?=none)
 (q:∀h' e,(∀c o,c≠z->c≠TO->c≠i1->c≠i2->s.heap.get? c=some o->h'.get? c=some o)->(∃o,h'.get? e=some o/\o.cls=.type "StopIteration")->E (.ref e) { s with heap:=h' }):
 wpAny (model prog w) A (Builtin.«zip.__next__» ⟨[.ref z],[]⟩) Q E s:=by
 refine Aa (m:=field (.ref z) 2) (A8 hz rfl (x:=.bool false) rfl (Aa (m:=field (.ref z) 3) (A8 hz rfl (x:=.ref TI) rfl (Aa (BF hI rfl ?_)))));refine Aa (m:=Builtin.SmallTypes.ownedTupleIsFree (.ref z)) ?_;unfold Builtin.SmallTypes.ownedTupleIsFree;refine Aa (A8 hz rfl (x:=.none) rfl (Ai ?_));simp only[if_true];refine Aa (Bt (Aa (A8 hz rfl (x:=.ref TO) rfl (Aa (wpAny_setField_rec hz (by simp) fun g1 z1 e1=>?_)))));have z1':IsZip g1 z TI TO .ellipsis:=z1;refine Aa ?_;simp only[DI,List.zipIdx_nil,CN,DX];refine Aa (Aa (wpAny_onRaise (Aa (m:=Builtin.SmallTypes.nextOf (.ref i1)) ?_)));have h1':=h1.on fun o e=>e1.extBut _ _ D.n3 e;have q1':=q1.on fun o e=>e1.extBut _ _ D.n8 e;cases hx:xs[k]? with
 |none=>
  refine gK.stop hh h1' q1' hx fun g2 e s2 he=>?_;obtain⟨oe,ge,ce⟩:=he;have z2:IsZip g2 z TI TO .ellipsis:=s2 _ _ (AH D.n3) z1';have nz:e≠z:=fun w=>by subst w;rw[z2] at ge;cases ge;simp at ce
  exact wpAny_setField_rec z2 (by simp) fun g3 _ s3=>q g3 e (fun c o a1 _ a3 _ w=>s3.extBut _ _ a1 (s2 _ _ a3 (e1.extBut _ _ a1 w))) ⟨oe,s3.extBut _ _ nz ge,ce⟩
 |some x=>
  have hy:ys[k]?=none:=by rcases hend with h | h;rw[hx] at h;cases h;exact h
  refine gK.next h1' q1' hx fun g2 h12 e2=>Ai ?_;have O2:IsPair g2 TO a b:=e2.extBut _ _ D.n5 (e1.extBut _ _ D.n2 hO);refine Aa (BF O2 rfl (Aa (wpAny_updateSeq_pair O2 fun g3 O3 e3=>Aa (wpAny_letGo (Ai ?_)))));refine Aa (Aa (wpAny_onRaise (Aa (m:=Builtin.SmallTypes.nextOf (.ref i2)) (gK.stop (t:=t2) (l:=l2) (i:=k) (xs:=ys) hh (h2.on fun o e=>e3.extBut _ _ (AH D.n6) (e2.extBut _ _ (AH D.n7) (e1.extBut _ _ D.n4 e)))
   (q2.on fun o e=>e3.extBut _ _ D.n13 (e2.extBut _ _ D.n14 (e1.extBut _ _ D.n12 e))) hy fun g4 e s4 he=>?_))))
  obtain⟨oe,ge,ce⟩:=he;have z4:IsZip g4 z TI TO .ellipsis:=s4 _ _ (AH D.n4) (e3.extBut _ _ (AH D.n2) (e2.extBut _ _ (AH D.n3) z1'));have nz:e≠z:=fun w=>by subst w;rw[z4] at ge;cases ge;simp at ce
  exact wpAny_setField_rec z4 (by simp) fun g5 _ s5=>q g5 e (fun c o a1 a2 a3 a4 w=>s5.extBut _ _ a1 (s4 _ _ a4 (e3.extBut _ _ a2 (e2.extBut _ _ a3 (e1.extBut _ _ a1 w))))) ⟨oe,s5.extBut _ _ nz ge,ce⟩
end
def abp(t:Bool):String:=if t then "tuple_iterator" else "list_iterator"
section
variable {w:World} 
theorem m6.iter{xs:Array Value}(hl:m6 t s.heap l xs)(q:Q (.ref s.heap.objs.size) { s with heap:=s.heap.push { cls:=.type (abp t),data:=.fields #[.ref l,.int 0 0] } }):wpAny (model prog w) A (pyIter (.ref l)) Q E s:=by cases t with|false=>exact wpAny_pyIter_list hl q|true=>exact wpAny_pyIter_tuple hl q
end
theorem gK.new(e:h.get? it=some { cls:=.type (abp t),data:=.fields #[.ref l,.int 0 0] }):gK t h it l 0:=by cases t with|false=>exact⟨_,e,rfl,rfl⟩|true=>exact⟨_,e,rfl,rfl⟩
abbrev zh1(t1:Bool)(h:Heap)(l1:Addr):Heap:=h.push { cls:=.type (abp t1),data:=.fields #[.ref l1,.int 0 0] }
abbrev zh2(t1 t2:Bool)(h:Heap)(l1 l2:Addr):Heap:=(zh1 t1 h l1).push { cls:=.type (abp t2),data:=.fields #[.ref l2,.int 0 0] }
abbrev zh3(t1 t2:Bool)(h:Heap)(l1 l2:Addr):Heap:=(zh2 t1 t2 h l1 l2).push { cls:=.type "tuple",data:=.seq #[.ref h.objs.size,.ref (zh1 t1 h l1).objs.size] }
abbrev zh4(t1 t2:Bool)(h:Heap)(l1 l2:Addr):Heap:=(zh3 t1 t2 h l1 l2).push { cls:=.type "tuple",data:=.seq #[.none,.none] }
abbrev zh5(t1 t2:Bool)(h:Heap)(l1 l2:Addr):Heap:=(zh4 t1 t2 h l1 l2).push { cls:=.type "zip",data:=.fields #[.none,.bool false,.bool false,.ref (zh2 t1 t2 h l1 l2).objs.size,.ref (zh3 t1 t2 h l1 l2).objs.size] }
theorem uk(t1 t2:Bool)(l1 l2:Addr)(xs ys:Array Value):Meets (Builtin.«zip.__new__» ⟨[.type "zip",.ref l1,.ref l2],[]⟩) (fun _ R s=>m6 t1 s.heap l1 xs/\m6 t2 s.heap l2 ys/\R (.ok (.ret (.ref (zh4 t1 t2 s.heap l1 l2).objs.size))) { s with heap:=zh5 t1 t2 s.heap l1 l2 }):=
 .of_wp fun prog w A R s h=>by
  obtain⟨hp,g,d,tk,os⟩:=s;obtain⟨q1,q2,h⟩:=h;have hsub:=sub_zip;have a1:m6 t1 (Shared.heap ⟨hp,g,d,tk,os⟩) l1 xs:=q1;have a2:m6 t2 (Shared.heap ⟨hp.push { cls:=.type (abp t1),data:=.fields #[.ref l1,.int 0 0] },g,d,tk,os⟩) l2 ys:=q2.on fun o e=>Heap.get?_push_of_some _ e
  wp_walk using m6.iter a1,m6.iter a2
  exact⟨_,rfl,h⟩
theorem xO{w:World}{xs ys:Array Value}(q1:m6 t1 s.heap l1 xs)(q2:m6 t2 s.heap l2 ys)
 (q:∀h',IsZip h' (s.heap.objs.size+4) (s.heap.objs.size+2) (s.heap.objs.size+3) .none->IsPair h' (s.heap.objs.size+2) (.ref s.heap.objs.size) (.ref (s.heap.objs.size+1))->IsPair h' (s.heap.objs.size+3) .none .none->
  gK t1 h' s.heap.objs.size l1 0->gK t2 h' (s.heap.objs.size+1) l2 0->(∀c o,s.heap.get? c=some o->h'.get? c=some o)->Q (.ref (s.heap.objs.size+4)) { s with heap:=h' }):
 wpAny (model prog w) A (call (.type "zip") [.ref l1,.ref l2]) Q E s:=by
 refine callType_new F.called_zip (by decide) (F.typeCall_zip_2 _ _) (F.newCall_zip_2 _ _) (fun obj=>F.args_object_init_3 obj _ _) F.entry_zip_new (uk t1 t2 l1 l2 xs ys) ⟨q1,q2,?_⟩;have s1:(zh1 t1 s.heap l1).objs.size=s.heap.objs.size+1:=Heap.size_push ..;have s2:(zh2 t1 t2 s.heap l1 l2).objs.size=s.heap.objs.size+2:=by rw[Heap.size_push,s1]
 have s3:(zh3 t1 t2 s.heap l1 l2).objs.size=s.heap.objs.size+3:=by rw[Heap.size_push,s2]
 have s4:(zh4 t1 t2 s.heap l1 l2).objs.size=s.heap.objs.size+4:=by rw[Heap.size_push,s3]
 have g5:(zh5 t1 t2 s.heap l1 l2).get? (zh4 t1 t2 s.heap l1 l2).objs.size=some _:=Heap.get?_push_size _ rfl;have g4:(zh5 t1 t2 s.heap l1 l2).get? (zh3 t1 t2 s.heap l1 l2).objs.size=some _:=Heap.get?_push_of_some _ (Heap.get?_push_size _ rfl);have g3:(zh5 t1 t2 s.heap l1 l2).get? (zh2 t1 t2 s.heap l1 l2).objs.size=some _:=Heap.get?_push_of_some _ (Heap.get?_push_of_some _ (Heap.get?_push_size _ rfl));have g2:(zh5 t1 t2 s.heap l1 l2).get? (zh1 t1 s.heap l1).objs.size=some _:=Heap.get?_push_of_some _ (Heap.get?_push_of_some _ (Heap.get?_push_of_some _ (Heap.get?_push_size _ rfl)));have g1:(zh5 t1 t2 s.heap l1 l2).get? s.heap.objs.size=some _:=Heap.get?_push_of_some _ (Heap.get?_push_of_some _ (Heap.get?_push_of_some _ (Heap.get?_push_of_some _ (Heap.get?_push_size _ rfl))));show _/\_;rw[s2,s3,s4] at g5;rw[s1,s2] at g3;rw[s3] at g4;rw[s1] at g2;rw[s4];exact⟨⟨_,g5,rfl⟩,q _ g5 g3 g4 (gK.new g1) (gK.new g2) fun c o e=>Heap.get?_push_of_some _ (Heap.get?_push_of_some _ (Heap.get?_push_of_some _ (Heap.get?_push_of_some _ (Heap.get?_push_of_some _ e))))⟩
def Sq(t:Bool)(K:Af)(H:Hp)(a:Addr)(xs:List V):Prop:=match t with
 |false=>wu K H a xs
 |true=>cL K H a xs
section
variable {σ:L2.St} 
theorem qw.seq{a:Addr}(I:qw X pins σ H s)(h:Sq t X.K H a xs):∃its:List Value,zk xs its/\m6 t s.heap a its.toArray/\xs.length≤sizeLine:=by
 cases t with
 |false=>obtain⟨its,v,p,z⟩:=I.list h;exact⟨its,v,p.isList,z⟩
 |true=>obtain⟨its,v,p,z⟩:=I.tuple h;exact⟨its,v,p,z⟩
theorem qw.seq_inj{a:Addr}{ys:List V}(I:qw X pins σ H s)(h:Sq t X.K H a xs)(h':Sq t X.K H a ys):xs=ys:=by cases t with|false=>exact I.list_inj h h'|true=>exact I.tuple_inj h h'
end
def Itz(t1 t2:Bool)(K:Af)(a b:Addr):It:=
 ⟨fun i H=>∃xs ys x y,Sq t1 K H a xs/\Sq t2 K H b ys/\xs[i]?=some x/\ys[i]?=some y,
  fun i H v H'=>∃p x y,H p=none/\v=.ref p/\H'=upd H p (.tup [x,y])/\(∀xs,Sq t1 K H a xs->xs[i]?=some x)/\∀ys,Sq t2 K H b ys->ys[i]?=some y,
  fun i H=>∃xs ys,Sq t1 K H a xs/\Sq t2 K H b ys/\(xs.length≤i\/ys.length≤i)⟩
theorem ab7{P:Program}{w:World}{K:Af}(a b z TI TO i1 i2:Addr)(D:ZAp z TI TO i1 i2 a b)(d1:TI≠TO)(d2:TI≠i1)(d3:TI≠i2):
 xG P w K (.Tuple elts x1 tp) (Itz t1 t2 K a b) [z,TI,TO,i1,i2] z (fun i h=>IsZip h z TI TO .none/\IsPair h TI (.ref i1) (.ref i2)/\(∃u v,IsPair h TO u v)/\gK t1 h i1 a i/\gK t2 h i2 b i) where
 mem:=by simp
 obj:=fun i h ⟨hz,hI,⟨u,v,hO⟩,h1,h2⟩ c hc=>by
  simp only[Ar,BC,or_false] at hc;rcases hc with rfl | rfl | rfl | rfl | rfl
  ·exact⟨_,hz,fun v z=>by cases z⟩
  ·exact⟨_,hI,fun v z=>by cases z⟩
  ·exact⟨_,hO,fun v z=>by cases z⟩
  ·exact h1.ob
  ·exact h2.ob
 keep:=fun i h h' ⟨hz,hI,⟨u,v,hO⟩,h1,h2⟩ k=>⟨k z (by simp) _ hz,k TI (by simp) _ hI,⟨u,v,k TO (by simp) _ hO⟩,h1.on fun o q=>k i1 (by simp) o q,h2.on fun o q=>k i2 (by simp) o q⟩
 item:=by
  intro X hP hw hK hc i pins s σ H E I hf ⟨hz,hI,⟨u,v,hO⟩,h1,h2⟩ hg;subst hP hw hK;obtain⟨xs,ys,x,y,q1,q2,hx,hy⟩:=hg;obtain⟨is1,rv1,p1,_⟩:=I.seq q1;obtain⟨is2,rv2,p2,_⟩:=I.seq q2;obtain⟨ux,hux,rux⟩:=rv1.get hx;obtain⟨uy,huy,ruy⟩:=rv2.get hy;have hT:s.TypeIs (.ref z) "zip" := ⟨_,hz,rfl⟩;unfold pyNext;refine Aa (wpAny_attempt (wpAny_callSpecial?_slot (name:="__next__") hT F.slot_zip_next (wpAny_call_entry F.slot_zip_next hT F.entry_zip_next
   (acs D hz hI hO h1 h2 p1 p2 (x:=ux) (y:=uy) (by simpa using hux) (by simpa using huy) fun g1 gz gO gi1 gi2 gT gk=>Ai ⟨.ref s.heap.objs.size,rfl,wpAny_letOwnedTupleGo_zip gz fun g2 gz2 gs2=>?_⟩) (F.args_zip_next_1 _))))
  have lz:z<s.heap.objs.size:=Heap.lt_size hz;have lts:∀c∈[z,TI,TO,i1,i2],c<s.heap.objs.size:=fun c hc=>by
   simp only[Ar,BC,or_false] at hc;rcases hc with rfl | rfl | rfl | rfl | rfl
   ·exact lz
   ·exact Heap.lt_size hI
   ·exact Heap.lt_size hO
   ·obtain⟨o,e,_⟩:=h1.ob;exact Heap.lt_size e
   ·obtain⟨o,e,_⟩:=h2.ob;exact Heap.lt_size e
  have kk:∀c o,c∉[z,TI,TO,i1,i2]->s.heap.get? c=some o->g2.get? c=some o:=fun c o nc q=>by simp only[Ar,BC,or_false,not_or] at nc;exact gs2.extBut c o nc.1 (gk c o nc.1 nc.2.2.1 nc.2.2.2.1 nc.2.2.2.2 q)
  have tg:g2.get? s.heap.objs.size=some { cls:=.type "tuple",data:=.seq #[ux,uy] }:=gs2.extBut _ _ (C0 lz) gT;refine⟨.ref s.heap.objs.size,upd H s.heap.objs.size (.tup [x,y]),?_,rfl,⟨_,x,y,I.hok.fresh (Am _),rfl,rfl,fun zs hq=>by rw[I.seq_inj hq q1];exact hx,fun zs hq=>by rw[I.seq_inj hq q2];exact hy⟩,?_,fun c hc=>?_⟩
  ·exact I.turnedN (t':=s.toks) kk hf (Am _) ⟨by show 2≤sizeLine;decide,[ux,uy],.cons rux (.cons ruy .nil),⟨_,tg,rfl,_,rfl⟩⟩
  ·exact⟨gz2,gs2.extBut _ _ D.n1 (gk _ _ D.n1 d1 d2 d3 hI),⟨_,_,gs2.extBut _ _ D.n2 gO⟩,gi1.on fun o q=>gs2.extBut _ _ D.n3 q,gi2.on fun o q=>gs2.extBut _ _ D.n4 q⟩
  ·rw[qo (A3 (lts c hc))];exact(hf c hc).1
 done:=by
  intro X hP hw hK hc i pins s σ H E I hf ⟨hz,hI,⟨u,v,hO⟩,h1,h2⟩ hg;subst hP hw hK;obtain⟨xs,ys,q1,q2,hl⟩:=hg;obtain⟨is1,rv1,p1,_⟩:=I.seq q1;obtain⟨is2,rv2,p2,_⟩:=I.seq q2;have l1:=rv1.length;have l2:=rv2.length;have hT:s.TypeIs (.ref z) "zip" := ⟨_,hz,rfl⟩;unfold pyNext;refine Aa (wpAny_attempt (wpAny_callSpecial?_slot (name:="__next__") hT F.slot_zip_next (wpAny_call_entry F.slot_zip_next hT F.entry_zip_next
   (abl (I.ok.hd hc) D hz hI hO h1 h2 p1 p2 (by rcases hl with h | h;exact .inl (by simp;lia);exact .inr (by simp;lia)) fun g1 e gk he=>?_) (F.args_zip_next_1 _))))
  obtain⟨o,ho,hc'⟩:=he;refine Aa (wpAny_isInstance (T:="StopIteration") (b:=true) ⟨o,ho,hc'⟩ isSubtype_stop (Ai ⟨rfl,?_⟩));exact I.turnedL (t':=s.toks) (fp:=[z,TI,TO,i1,i2]) (fun c o nc q=>by simp only[Ar,BC,or_false,not_or] at nc;exact gk c o nc.1 nc.2.2.1 nc.2.2.2.1 nc.2.2.2.2 q) hf
 self:=fun _ _ _ _ _ ⟨hz,_⟩ h=>wpAny_pyIter_zip hz h
def ap3(K:Af)(ta:TA):TI:=fun σ H R=>ta σ H fun vs H1=>∃t1 t2 a b,vs=[.ref a,.ref b]/\(∃xs,Sq t1 K H1 a xs)/\(∃xs,Sq t2 K H1 b xs)/\R (Itz t1 t2 K a b) H1
theorem ahd:bootBuiltins "zip" = some (.type "zip"):=by decide +kernel
theorem ajx{a b:Expr}{ta:TA}(hg:Gl X "zip")(hm:X.mg "zip" = none)(ha:PA X [a,b] ta)(hs:starEach [a,b] X.env=[(false,eval a X.env),(false,eval b X.env)]:=by rfl)
 (hs2:starEach [b] X.env=[(false,eval b X.env)]:=by rfl):PI X (.Tuple elts x1 tp) (.Call (.Name "zip" p) [a,b] [] pos) (ap3 X.K ta):=by
 intro pins s σ H R I h;refine Call_ (fG I hg hm ahd (BW (xt (ha pos pins s σ H _ I h) fun us s1 ⟨vs,H1,I1,r1,q1⟩=>?_) (by rw[hs,hs2]) (by rw[hs2];rfl)));obtain⟨t1,t2,l1,l2,e,⟨xs,hx⟩,⟨ys,hy⟩,q⟩:=q1;subst e;obtain⟨u1,u2,rfl,ru1,ru2⟩:=zk.two r1;cases ru1;cases ru2;obtain⟨is1,_,p1,_⟩:=I1.seq hx;obtain⟨is2,_,p2,_⟩:=I1.seq hy;have lt1:l1<s1.heap.objs.size:=by
  cases t1 with
  |false=>obtain⟨o,e,_⟩:=p1;exact Heap.lt_size e
  |true=>obtain⟨o,e,_⟩:=p1;exact Heap.lt_size e
 have lt2:l2<s1.heap.objs.size:=by
  cases t2 with
  |false=>obtain⟨o,e,_⟩:=p2;exact Heap.lt_size e
  |true=>obtain⟨o,e,_⟩:=p2;exact Heap.lt_size e
 refine xO p1 p2 fun g1 gz gI gO g1' g2' gk=>?_;have I2:qw X pins σ H1 { s1 with heap:=g1 }:=I1.kept (t':=s1.toks) gk;refine wpAny_pyIter_zip (s:={ s1 with heap:=g1 }) gz ?_;refine⟨_,[_,s1.heap.objs.size+2,s1.heap.objs.size+3,s1.heap.objs.size,s1.heap.objs.size+1],_,_,H1,rfl,I2,ab7 l1 l2 _ _ _ _ _ ?_ (sv (by lia)) (sv (by lia)) (sv (by lia)),⟨gz,gI,⟨_,_,gO⟩,g1',g2'⟩,fun c hc=>?_,q⟩
 ·have lt1':@LT.lt Nat instLTNat l1 s1.heap.objs.size:=lt1;have lt2':@LT.lt Nat instLTNat l2 s1.heap.objs.size:=lt2;constructor<;>exact sv (by lia)
 ·have hc':s1.heap.objs.size≤c:=by simp only[Ar,BC,or_false] at hc;rcases hc with rfl | rfl | rfl | rfl | rfl<;>exact leN (by simp +arith only)
  exact I1.fpOk hc' (I1.hok.fresh hc')
end L2
namespace L3
open PySem L2
def oT(L₀:ql):Y->ql->Prop
 |.ref a,L=>L a=L₀ a
 |_,_=>True
theorem iQ(L:ql):∀y:Y,oT L y L
 |.ref _=>rfl
 |.non=>trivial
 |.bl _=>trivial
 |.int _=>trivial
 |.str _=>trivial
 |.ty _=>trivial
 |.cd _=>trivial
 |.tup _=>trivial
 |.sq _=>trivial
theorem vZ{H1:Hp}(r:RV G H1 y v)(h:bK L1 y=some ys):∃t p,v=.ref p/\∀H L,j7 H1 H->jk G H L->oT L1 y L->∃xs,Sq t G.K H p xs/\xi G H ys xs:=by
 cases y with
 |tup zs=>
  obtain⟨a,xs,e,s,q⟩:=r;cases h;exact⟨true,a,e,fun H L t _ _=>⟨xs,cL.ts s t,q.ts t⟩⟩
 |sq zs=>
  obtain⟨a,xs,e,s,q⟩:=r;cases h;exact⟨false,a,e,fun H L t _ _=>⟨xs,(s.ts t).sq,q.ts t⟩⟩
 |ref a=>
  have e:=gR h;exact⟨false,a,r,fun H L _ rl kp=>let ⟨xs,e2,q⟩:=rl a _ (kp.trans e);⟨xs,ER e2,q⟩⟩
 |_=>cases h
def uU(xs ys:List Y):List Y:=List.zipWith (fun a b=>Y.tup [a,b]) xs ys
theorem vR{xs:List Y}(h:(uU xs ys)[i]?=some y):∃a b,xs[i]?=some a/\ys[i]?=some b/\y=.tup [a,b]:=by
 unfold uU at h;rw[List.getElem?_zipWith] at h;cases e1:xs[i]? with
 |none=>rw[e1] at h;simp at h
 |some a=>
  cases e2:ys[i]? with|none=>rw[e1,e2] at h;simp at h|some b=>rw[e1,e2] at h;simp at h;exact⟨a,b,rfl,rfl,h.symm⟩
theorem kF(xs ys:List Y):(uU xs ys).length=min xs.length ys.length:=by simp[uU]
theorem uh{a b:Addr}{xs:List Y}{keep:ql->Prop}(h1:∀H L,j7 H₀ H->jk G H L->keep L->∃us,Sq t1 G.K H a us/\xi G H xs us)(h2:∀H L,j7 H₀ H->jk G H L->keep L->∃us,Sq t2 G.K H b us/\xi G H ys us):
 gq G H₀ (Itz t1 t2 G.K a b) (uU xs ys) keep where
 go:=fun i H L t rl kp hi=>by obtain⟨us,s1,r1⟩:=h1 H L t rl kp;obtain⟨vs,s2,r2⟩:=h2 H L t rl kp;rw[kF] at hi;have l1:=r1.length;have l2:=r2.length;exact⟨us,vs,us[i]'(by lia),vs[i]'(by lia),s1,s2,Aj _,Aj _⟩
 yld:=fun i H L x H' y t rl kp hy ⟨p,u,v,hp,e1,e2,f1,f2⟩=>by subst e1 e2;obtain⟨us,s1,r1⟩:=h1 H L t rl kp;obtain⟨vs,s2,r2⟩:=h2 H L t rl kp;obtain⟨c,d,ec,ed,rfl⟩:=vR hy;obtain⟨u',eu,ru⟩:=r1.get ec;obtain⟨v',ev,rv⟩:=r2.get ed;have z1:=f1 us s1;rw[eu] at z1;cases z1;have z2:=f2 vs s2;rw[ev] at z2;cases z2;exact⟨EE hp,rl.skip hp,p,_,rfl,cL.of zv,⟨_,_,rfl,ru.ts (EE hp),_,_,rfl,rv.ts (EE hp),rfl⟩⟩
 stop:=fun H L t rl kp=>by obtain⟨us,s1,r1⟩:=h1 H L t rl kp;obtain⟨vs,s2,r2⟩:=h2 H L t rl kp;have l1:=r1.length;have l2:=r2.length;exact⟨us,vs,s1,s2,by rw[kF];lia⟩
def ab6(ta:dU)(τ:ji)(L:ql)(R:List Y->(ql->Prop)->ql->Prop):Prop:=ta τ L fun vs L1=>match vs with
 |[x,y]=>gW L1 x fun xs=>gW L1 y fun ys=>R (uU xs ys) (fun L=>oT L1 x L/\oT L1 y L) L1
 |_=>False
theorem ab8{a b:Expr}(hg:Gl X "zip")(hm:X.mg "zip" = none)(ha:QA X [a,b] tr)(hs:starEach [a,b] X.env=[(false,eval a X.env),(false,eval b X.env)]:=by rfl)
 (hs2:starEach [b] X.env=[(false,eval b X.env)]:=by rfl):QI X (.Tuple elts x1 tp) (.Call (.Name "zip" p) [a,b] [] pos) (ab6 tr):=PI.imp (ajx hg hm ha hs hs2) fun σ H R ⟨τ,L,R3,rs,rl,z,k⟩=>by
 refine⟨τ,L,_,rs,rl,z,fun vs H1 ys L1 t1 rl1 rv1 z1=>?_⟩;split at z1
 ·rename_i x y;obtain⟨u,v,rfl,ru,rv⟩:=rv1.inv2;obtain⟨xs,ex,z1⟩:=w9 z1;obtain⟨zs,ez,z1⟩:=w9 z1;obtain⟨t1',p1,rfl,k1⟩:=vZ ru ex;obtain⟨t2',p2,rfl,k2⟩:=vZ rv ez;obtain⟨us,s1,_⟩:=k1 H1 L1 (EC _) rl1 (iQ _ _);obtain⟨ws,s2,_⟩:=k2 H1 L1 (EC _) rl1 (iQ _ _);exact⟨t1',t2',p1,p2,rfl,⟨us,s1⟩,⟨ws,s2⟩,k _ H1 _ _ L1 t1 rl1 (uh (fun H L t rl kp=>k1 H L t rl kp.1) fun H L t rl kp=>k2 H L t rl kp.2) z1⟩
 ·exact z1.elim
def gA(xs:List Y)(L:ql)(Q:YK):Prop:=match xs with
 |[x]=>gW L x fun ys=>∀p,L p=none->Q (.ref p) (qd L p (.lst ys))
 |_=>False
theorem jN :x4 X (.type "list") (upL X.g3 gA):=ET pW fun xs H Q ⟨ys,L,Q3,rv,rl,z,k⟩=>by
 unfold gA at z;split at z
 ·rename_i x;obtain⟨u,rfl,ru⟩:=rv.inv1;obtain⟨zs,ez,z⟩:=w9 z;obtain⟨p,us,e,sq,r⟩:=oj rl ru ez;subst e;exact⟨p,us,rfl,sq,fun l hl=>k _ _ _ _ (EE hl) (rl.newL hl r) (by rfl) (z l (rl.none hl))⟩
 ·exact z.elim
theorem fe{T:String}{r:List Y->ql->YK->Prop}(hc:x4 X (.type T) (upL X.g3 r))(hg:Gl X x)(hm:X.mg x=none)(hv:bootBuiltins x=some (.type T))(h:QA X (e::es) tr)
 (hn:x ≠ "__name__" := by decide) (hd:Ef x:=by decide) (hs:Ed e es X:=by rfl) (hp:Ee pos es X:=by rfl):
 QE X (.Call (.Name x p) (e::es) [] pos) (gm r tr):=EF (gN hc hg hm hv h hn hd hs hp) fun σ H Q ⟨τ,L,Q3,rs,rl,z,k⟩=>
 ⟨τ,L,_,rs,rl,z,fun vs H1 ys L1 t1 rl1 rv1 z1=>⟨ys,L1,Q3,rv1,rl1,z1,k.ts t1⟩⟩
def bV(x:Y)(vs:List Y)(L:ql)(Q:YK):Prop:=match x,vs with
 |.ref a,[.int i]=>dO L a fun ys=>0≤i/\i<ys.length/\wG L (fun v L=>Q v (qd L a (.lst (ys.eraseIdx i.toNat)))) (ys[i.toNat]?)
 |_,_=>False
theorem afq :lH X "list.pop" (upM X.g3 bV):=fun pins s σ H x xs v us Q I rx ry ⟨y,ys,L,Q3,r1,r2,rl,z,k⟩=>by
 unfold bV at z;split at z
 ·rename_i a i;obtain⟨zs,e,h0,h1,z⟩:=v9 z;obtain⟨ws,e2,r⟩:=rl a _ e;obtain⟨i',rfl,ri⟩:=r2.inv1;cases ri;cases el:zs[i.toNat]? with
  |none=>rw[el] at z;exact z.elim
  |some w=>
   rw[el] at z;obtain⟨u,eu,ru⟩:=r.get el;obtain⟨_,_,_,hz⟩:=I.list (ER e2);have hl:=r.length;have hs:sizeLine<2 ^ 62:=by decide
   refine abv pins s σ H x _ v us Q I rx ry ⟨a,ws,i,i.toNat,u,r1,rfl,e2,by lia,by lia,?_,eu,k _ _ _ _ (EN e2) (rl.setL e2 (r.eraseIdx _)) (ru.ts (EN e2)) z⟩;unfold seqIndex?;rw[Aq (show ¬i<0 by lia),As (by simp;lia)]
 ·exact z.elim
theorem bM(ho:QE X o to)(ha:QA X (e::es) tr)(h4:attributeBase o "pop" X.env (eval o X.env)=eval o X.env:=by rfl)
 (h5:((backTo cpos (starEach (e::es) X.env)).all (fun x=>!x.1)&&(backToKw cpos (keywordEach [] X.env)).all (fun x=>x.1.isSome)&&decide ((e::es).length+([]:List Keyword).length+(if ([]:List Keyword).isEmpty=true then 0 else 1)<30))=true:=by rfl)
 (h6:(apos.endLine==cpos.line)=true:=by rfl) (h7:Ed e es X:=by rfl) (h8:Ee cpos es X:=by rfl):
 QE X (.Call (.Attribute o "pop" apos) (e::es) [] cpos) (aZ bV to tr):=pV PySem.F.slot_list_pop PySem.F.type_list_pop afq ho ha h4 h5 h6 h7 h8
end L3
namespace L2
open PySem PySem.Spec PyProof.Rows
section
theorem vE(i:Int)(n d:Nat):max 0 (min (if i<0 then i+(n:Int) else i) n)=((HT.sIx n d (some i):Nat):Int):=by
 simp only[HT.sIx];by_cases h:i<0
 ·simp only[h,if_true]<;>lia
 ·simp only[h,if_false]<;>lia
theorem wW(l u:Option Int)(n:Nat):Builtin.Str.strSliceIndices l u 1 n=(List.range (HT.sIx n n u - HT.sIx n 0 l)).map (HT.sIx n 0 l+·):=by
 have z:(0:Int)=((HT.sIx n 0 none:Nat):Int):=rfl;have y:(n:Int)=((HT.sIx n n none:Nat):Int):=rfl;unfold Builtin.Str.strSliceIndices;cases l with
 |none=>
  cases u with
  |none=>exact sliceRange_one 0 n
  |some j=>
   show sliceRange 0 (max 0 (min (if j<0 then j+(n:Int) else j) n)) 1=_;rw[vE j n n];exact sliceRange_one 0 _
 |some i=>
  cases u with
  |none=>
   show sliceRange (max 0 (min (if i<0 then i+(n:Int) else i) n)) n 1=_;rw[vE i n 0];exact sliceRange_one _ n
  |some j=>
   show sliceRange (max 0 (min (if i<0 then i+(n:Int) else i) n)) (max 0 (min (if j<0 then j+(n:Int) else j) n)) 1=_;rw[vE i n 0,vE j n n];exact sliceRange_one _ _
theorem mW(x:Str)(l u:Option Int):(Txt.slice x l u).cps.toList=(x.cps.toList.drop (HT.sIx x.length 0 l)).take (HT.sIx x.length x.length u - HT.sIx x.length 0 l):=by
 have hn:x.length=x.cps.toList.length:=by simp[Str.length]
 have pick:=pick_run x.cps (HT.sIx x.length 0 l) (HT.sIx x.length x.length u - HT.sIx x.length 0 l);unfold Txt.slice;rw[wW];split
 ·rename_i h;simp only[beq_self_eq_true,DE,Ae,AX,beq_iff_eq] at h;have h1:=HT.sIx_le x.length 0 (Bl _) l;have h2:=HT.sIx_le x.length x.length (Am _) u;have a0:HT.sIx x.length 0 l=0:=by lia
  rw[h,a0,DY,Bg (by exact o8)]
 ·show(List.filterMap (fun i=>x.cps[i]?) _).toArray.toList=_;rw[List.toList_toArray];exact pick
def aot:V->Option Int->Option Int->Hp->VK->Prop:=fun x lo hi H Q=>∃z,x=.str z/\z.length≤sizeLine/\Q (.str (Txt.slice z lo hi)) H
theorem ajb:ph X aot:=by
 intro pins s σ H x v vl vu lo hi sl Q I rx hs pl pu h;obtain⟨z,rfl,hz,q⟩:=h;obtain⟨t,rfl⟩:=rx;obtain⟨l,rfl,hl⟩:∃l:Option (Int×Tok),vl=partValue l/\l.map (·.1)=lo:=by cases pl with|none=>exact⟨none,rfl,rfl⟩|int i t=>exact⟨some (i,t),rfl,rfl⟩
 obtain⟨u,rfl,hu⟩:∃u:Option (Int×Tok),vu=partValue u/\u.map (·.1)=hi:=by cases pu with|none=>exact⟨none,rfl,rfl⟩|int i t=>exact⟨some (i,t),rfl,rfl⟩
 subst hl hu;refine⟨"str",_,F.slot_str_getitem.lookup,typeIs_str _ _ _,jw I.tk (wpAny_getItem_str_slice (l:=l) (u:=u) (st:=none) hs rfl ?_)⟩;exact post_val_or_str ⟨AL (Txt.slice_le z _ _) hz,fun t' k ht=>⟨.str _,H,I.tok _,⟨t',rfl⟩,q⟩⟩
theorem um{zs:List Str}:∀{us:List Value},zk (zs.map V.str) us->StrsAre us zs:=by
 induction zs with
 |nil=>intro us r;rw[C1] at r;cases r;exact .nil
 |cons z zs ih=>
  intro us r;rw[AG] at r;cases r with
  |cons r1 r2=>
   obtain⟨t,e⟩:=r1;subst e;exact .cons z t (ih r2)
def an1(K:Af):V->List V->Hp->VK->Prop:=fun x vs H Q=>∃z a zs,x=.str z/\vs=[.ref a]/\wu K H a ((zs:List Str).map V.str)/\(zs.map (·.length)).sum+zs.length*z.length≤16777216/\Q (.str (Txt.join z zs)) H
theorem af5:lH X "str.join" (an1 X.K):=by intro pins s σ H x vs v us Q I rx rv h;obtain⟨z,a,zs,rfl,rfl,hq,hz,q⟩:=h;obtain⟨t,rfl⟩:=rx;obtain⟨u,rfl,ru⟩:=rv.one;cases ru;obtain⟨its,r,p,_⟩:=I.list hq;exact jw I.tk (PyProof.Rows.join_list p.isList (by simpa using um r) hz fun t' k ht=>⟨.str _,H,I.tok _,⟨t',rfl⟩,q⟩)
end
end L2
namespace L3
open PySem L2
def ac7(x:Y)(lo hi:Option Int)(L:ql)(Q:YK):Prop:=match x with
 |.str z=>z.length≤sizeLine/\Q (.str (Txt.slice z lo hi)) L
 |x=>am4 x lo hi L Q
theorem ur(K:Af)(P:Program)(w:World)(hK:X.K=K:=by rfl)(hP:X.prog=P:=by rfl)(hw:X.w=w:=by rfl):ph X (aea ⟨K,P,w⟩ ac7):=by refine ph.imp (ajb.or (alr K P w hK hP hw)) fun x lo hi H Q ⟨y,L,Q3,rv,rl,z,k⟩=>?_;cases y with|str s=>exact .inl ⟨s,rv,z.1,k _ H _ L (EC _) rl (by rfl) z.2⟩|_=>exact .inr ⟨_,L,Q3,rv,rl,z,k⟩
def yBS(r:Y->List Y->ql->YK->Prop)(to:xw)(t:dU)(τ:ji)(L:ql)(Q:YK):Prop:=to τ L fun x L1=>match x with
 |.str z=>t τ L1 fun xs L2=>r (.str z) xs L2 Q
 |_=>False
theorem ak4{id:String}{r:Y->List Y->ql->YK->Prop}(h2:Slot "str" name id)(h3:typeOf (.builtin id)=pure (.type "method_descriptor"))(hm:lH X id (upM X.g3 r))(ho:QE X o to)(ha:QA X (e::es) tr)
 (h4:attributeBase o name X.env (eval o X.env)=eval o X.env:=by rfl)
 (h5:((backTo cpos (starEach (e::es) X.env)).all (fun x=>!x.1)&&(backToKw cpos (keywordEach [] X.env)).all (fun x=>x.1.isSome)&&decide ((e::es).length+([]:List Keyword).length+(if ([]:List Keyword).isEmpty=true then 0 else 1)<30))=true:=by rfl)
 (h6:(apos.endLine==cpos.line)=true:=by rfl) (h7:Ed e es X:=by rfl) (h8:Ee cpos es X:=by rfl):
 QE X (.Call (.Attribute o name apos) (e::es) [] cpos) (yBS r to tr):=EF (aga PySem.F.plainAttrs_str h2 h3 hm ho ha h4 h5 h6 h7 h8) fun σ H Q ⟨τ,L,Q3,rs,rl,z,k⟩=>
 ⟨τ,L,_,rs,rl,z,fun v H1 y L1 t1 rl1 rv1 z1=>by
  split at z1
  ·rename_i s;cases rv1;exact⟨rfl,τ,L1,_,rs.ts t1,rl1,z1,fun vs H2 ys L2 t2 rl2 rv2 z2=>⟨.str s,ys,L2,Q3,rfl,rv2,rl2,z2,k.ts (t1.trans t2)⟩⟩
  ·exact z1.elim⟩
theorem qV{G:G3}{H:Hp}:∀{zs:List Str} {xs:List V},xi G H (zs.map Y.str) xs->xs=zs.map V.str
 |[],_,h=>h
 |z::r,_,⟨x,xs',e,q,s⟩=>by rw[e,show x=V.str z from q,qV s];rfl
def uz(x:Y)(vs:List Y)(L:ql)(Q:YK):Prop:=match x,vs with
 |.str z,[.ref a]=>dO L a fun ys=>∃zs,ys=zs.map Y.str/\(zs.map (·.length)).sum+zs.length*z.length≤16777216/\Q (.str (Txt.join z zs)) L
 |_,_=>False
theorem ake :lH X "str.join" (upM X.g3 uz):=lH.imp af5 fun x xs H Q ⟨y,ys,L,Q3,r1,r2,rl,z,k⟩=>by
 unfold uz at z;split at z
 ·rename_i s a;obtain⟨us,e,zs,rfl,hz,z⟩:=v9 z;obtain⟨ws,e2,r⟩:=rl a _ e;obtain⟨u,rfl,ru⟩:=r2.inv1;cases ru;rw[qV r] at e2;exact⟨s,a,zs,r1,rfl,ER e2,hz,k _ H _ L (EC _) rl (by rfl) z⟩
 ·exact z.elim
theorem adp(ho:QE X o to)(ha:QA X (e::es) tr)(h4:attributeBase o "join" X.env (eval o X.env)=eval o X.env:=by rfl)
 (h5:((backTo cpos (starEach (e::es) X.env)).all (fun x=>!x.1)&&(backToKw cpos (keywordEach [] X.env)).all (fun x=>x.1.isSome)&&decide ((e::es).length+([]:List Keyword).length+(if ([]:List Keyword).isEmpty=true then 0 else 1)<30))=true:=by rfl)
 (h6:(apos.endLine==cpos.line)=true:=by rfl) (h7:Ed e es X:=by rfl) (h8:Ee cpos es X:=by rfl):
 QE X (.Call (.Attribute o "join" apos) (e::es) [] cpos) (yBS uz to tr):=ak4 PySem.F.slot_str_join PySem.F.type_str_join ake ho ha h4 h5 h6 h7 h8
theorem og(zs:List Str):(Txt.join "" zs).cps.toList=zs.flatMap fun z=>z.cps.toList:=by
 have e:∀zs:List Str,(Str.join "" zs).cps.toList=zs.flatMap fun z=>z.cps.toList:=by
  intro zs
  induction zs with
  |nil=>rfl
  |cons z r ih=>
   cases r with
   |nil=>simp[Str.join]
   |cons y r=>
    show(z ++ "" ++ Str.join "" (y::r)).cps.toList=_;have:(z ++ "" ++ Str.join "" (y::r)).cps=z.cps++#[]++(Str.join "" (y::r)).cps:=rfl;rw[this];simp only[A6,ih,AU,Array.append_empty]
 exact(BG (fun x:Str=>x.cps.toList) (StrLaws.glued_eq_join "" zs)).trans (e zs)
theorem afw(K:Af)(T S S':iF):PySem.W.kitAny K (.type T.nm) [.type S.nm,.type S'.nm]=some (bJ T S||bJ T S'):=by show(match PySem.W.kitOne K (.type T.nm) (.type S.nm) with | some true=>some true | some false=>(match PySem.W.kitOne K (.type T.nm) (.type S'.nm) with | some true=>some true | some false=>some false | none=>none) | none=>none)=_;rw[oz,oz];cases bJ T S<;>cases bJ T S'<;>rfl
theorem yR{T S S':iF}{a:Addr}{σ:L2.St}(I:qw X pins σ H s)(rl:jk X.g3 H L)(r:RV X.g3 H y v)(ru:zo v u)(h:tyY L y=some T)(ha:H a=some (.tup [.ty S.nm,.ty S'.nm]))
 (hq:∀tk,Q (.bool (bJ T S||bJ T S')) { s with toks:=tk }):wpAny (model X.prog X.w) A (call (.builtin "isinstance") [u,.ref a]) Q E s:=by
 obtain⟨_,its,vs,⟨⟨oc,od,dt,sl⟩,h1,h2,n,h3⟩⟩:=(show xg X.prog X.w H s.heap a (.tup [.ty S.nm,.ty S'.nm]) from I.hok a _ ha);obtain⟨u1,u2,rfl,r1,r2⟩:=zk.two vs;cases (show u1=Value.type S.nm from r1);cases (show u2=Value.type S'.nm from r2);cases (show oc=_ from h2);cases (show dt=_ from h3);have e:=afw X.K T S S';cases y with
 |non=>cases h;cases r;cases (show u=Value.none from ru);exact BS PySem.W.kitx_none I.kIn True.intro h1 e (fun z=>nomatch z) hq
 |bl b=>cases h;cases r;cases (show u=Value.bool b from ru);exact BS PySem.W.kitx_bool I.kIn True.intro h1 e (fun z=>nomatch z) hq
 |int i=>cases h;cases r;obtain⟨t,q⟩:=(show ∃t,u=Value.int i t from ru);cases q;exact BS PySem.W.kitx_int I.kIn True.intro h1 e (fun z=>nomatch z) hq
 |str x=>cases h;cases r;obtain⟨t,q⟩:=(show ∃t,u=Value.str x t from ru);cases q;exact BS PySem.W.kitx_str I.kIn True.intro h1 e (fun z=>nomatch z) hq
 |tup ys=>
  cases h;obtain⟨b,xs,rfl,sq,_⟩:=r;cases (show u=Value.ref b from ru);obtain⟨_,_,⟨o,g1,g2,_⟩,_⟩:=I.tuple sq;exact BS Dq I.kIn ⟨o,g1,g2⟩ h1 e (fun z=>nomatch z) hq
 |sq ys=>
  cases h;obtain⟨b,xs,rfl,sq,_⟩:=r;cases (show u=Value.ref b from ru);obtain⟨_,_,⟨o,_,g1,g2,_⟩,_⟩:=I.list sq.sq;exact BS Cy I.kIn ⟨o,g1,g2⟩ h1 e (fun z=>nomatch z) hq
 |ref b=>
  cases (show v=.ref b from r);cases (show u=Value.ref b from ru);have h':(match L b with | some (.lst _)=>some iF.list | some (.dct _)=>some .dict | _=>none)=some T:=h;split at h'
  ·rename_i ys el;cases h';obtain⟨xs,e2,_⟩:=rl b _ el;obtain⟨_,_,⟨o,_,g1,g2,_⟩,_⟩:=I.list (ER e2);exact BS Cy I.kIn ⟨o,g1,g2⟩ h1 e (fun z=>nomatch z) hq
  ·rename_i kvs el;cases h';obtain⟨xs,e2,_⟩:=rl b _ el;obtain⟨_,_,ws,_,p⟩:=(show xg X.prog X.w H s.heap b (.dK xs) from I.hok b _ e2);obtain⟨o,es,ep,g1,g2,_⟩:=p;exact BS Dx I.kIn ⟨o,g1,g2.1⟩ h1 e (fun z=>nomatch z) hq
  ·cases h'
 |_=>cases h
def yO(G:G3)(S S':iF):List V->Hp->VK->Prop:=fun xs H Q=>∃y v L Q3 T a,xs=[v,.ref a]/\H a=some (.tup [.ty S.nm,.ty S'.nm])/\RV G H y v/\jk G H L/\tyY L y=some T/\Q3 (.bl (bJ T S||bJ T S')) L/\yg G H Q3 Q
theorem wY(S S':iF):x4 X (.builtin "isinstance") (yO X.g3 S S'):=by intro pins s σ H xs us Q I r h;obtain⟨y,v,L,Q3,T,a,rfl,ha,rv,rl,ty,q,k⟩:=h;obtain⟨u,c,rfl,r1,r2⟩:=zk.two r;cases (show c=Value.ref a from r2);exact jw I.tk (yR I rl rv r1 ty ha fun tk ht=>⟨.bl _,H,I.tok _,rfl,k _ H _ L (EC _) rl (by rfl) q⟩)
theorem tU{a:Expr}{pt:Pos}{xT xT':Str}(S S':iF)(hg:Gl X "isinstance")(hm:X.mg "isinstance" = none)(hgT:Gl X xT)(hmT:X.mg xT=none)(hvT:bootBuiltins xT=some (.type S.nm))(hgT':Gl X xT')(hmT':X.mg xT'=none)(hvT':bootBuiltins xT'=some (.type S'.nm))(ha:QE X a ta)
 (hn:xT ≠ "__name__" := by decide) (hd:(xT==("__debug__" : Str))=false:=by decide) (hn':xT' ≠ "__name__" := by decide) (hd':(xT'==("__debug__" : Str))=false:=by decide)
 (hs:starEach [a,.Tuple [.Name xT p1,.Name xT' p2] kt pt] X.env=(false,eval a X.env)::starEach [.Tuple [.Name xT p1,.Name xT' p2] kt pt] X.env:=by rfl)
 (hs2:starEach [.Tuple [.Name xT p1,.Name xT' p2] kt pt] X.env=(false,eval (.Tuple [.Name xT p1,.Name xT' p2] kt pt) X.env)::starEach [] X.env:=by rfl)
 (hs3:starEach [.Name xT p1,.Name xT' p2] X.env=(false,eval (.Name xT p1) X.env)::starEach [.Name xT' p2] X.env:=by rfl) (hs4:starEach [.Name xT' p2] X.env=(false,eval (.Name xT' p2) X.env)::starEach [] X.env:=by rfl)
 (hp:(backTo pos (starEach [.Tuple [.Name xT p1,.Name xT' p2] kt pt] X.env)).any (·.1)=false:=by rfl):
 QE X (.Call (.Name "isinstance" p) [a,.Tuple [.Name xT p1,.Name xT' p2] kt pt] [] pos) (rN S S' ta):=by
 refine EF (l5 (wY S S') hg hm dq (aB ha (aB (abb (aB (aa7 hgT hmT hvT hn hd) (aB (aa7 hgT' hmT' hvT' hn' hd') fE hs4) hs3)) fE hs2) hs) (by decide) (by decide) hs hp) ?_;rintro σ H Q ⟨τ,L,Q3,rs,rl,z,k⟩;refine⟨τ,L,_,rs,rl,z,fun v H1 y L1 t1 rl1 rv1 z1=>?_⟩;obtain⟨T,et,z1⟩:=rm z1;refine⟨by show 2≤sizeLine;decide,fun q hq=>?_⟩;exact⟨y,v,L1,Q3,T,q,rfl,zv,rv1.ts (EE hq),rl1.skip hq,et,z1,k.ts (t1.trans (EE hq))⟩
def dw(t u:kn)(D:xr)(τ:ji)(L:ql):Prop:=∃J:ji->ql->Prop,t { D with nx:=J } τ L/\∀τ' L',J τ' L'->u D τ' L'
theorem k7{rest:List Stmt}{t u:kn}(h:QS X st t)(k:pZ X rest u):pZ X (st::rest) (dw t u):=jP.imp (rE h k) fun D σ H ⟨τ,L,D3,rs,rl,⟨J,z,q⟩,k⟩=>
 ⟨τ,L,{ D3 with nx:=J },rs,rl,z,fun σ1 H1 τ1 L1 t1 rs1 rl1 z1=>⟨τ1,L1,D3,rs1,rl1,q τ1 L1 z1,k.ts t1⟩,k.rt,k.bk,k.ct⟩
theorem gg{a b:Addr}{o u:LO}(h:a≠b):qd (qd L a o) b u=qd (qd L b u) a o:=by
 funext c;by_cases h1:c=a
 ·subst h1;rw[qa h,q9,q9]
 ·by_cases h2:c=b
  ·subst h2;rw[q9,qa h1,q9]
  ·rw[qa h2,qa h1,qa h1,qa h2]
section
variable {E3:X3}
end
section
variable {cp:Pos}
end
section
variable {a:Expr}{pt:Pos}{vs:List V}
end
def tS(_:xr)(_:ji)(_:ql):Prop:=False
theorem sP :QS X st tS:=fun _ _ _ _ _ _ ⟨_,_,_,_,_,z,_⟩=>z.elim
open PySem L2 PySem.W
section
variable {K:Frag}{D:Addr}{t c:Value}{b:Bool}
end
end L3
namespace L2
open PySem PySem.Spec PyProof.Rows
section
variable {a b:Expr}{ta tb:TE}{op op':CmpOp}{ops:List CmpOp}{r:R2}{u:V->TE} 
end
end L2
namespace L3
open PySem L2
section
variable {a b:Expr}{op op':CmpOp}{ops:List CmpOp}{r:uI}{u:Y->xw} 
end
end L3
namespace L2
open PySem PySem.Spec PyProof.Rows
theorem uu:∀{bs:List Bool} {us:List Value},zk (bs.map V.bl) us->us=bs.map Value.bool
 |[],_,.nil=>rfl
 |b::bs,_,.cons r t=>by cases (show _=Value.bool b from r);rw[uu t];rfl
section
theorem ac5(hc:X.calm=true:=by rfl):x4 X (.builtin "all") (fun xs H Q=>∃(a:Addr) (bs:List Bool),xs=[.ref a]/\wu X.K H a (bs.map V.bl)/\Q (.bl (bs.all id)) H):=by
 intro pins s σ H xs us Q I r h;obtain⟨a,bs,rfl,sq,q⟩:=h;obtain⟨u,rfl,ru⟩:=qY r;cases ru;obtain⟨its,rv,pl,_⟩:=I.list sq;cases uu rv;have hl:=j9 pl;have hlt:a<s.heap.objs.size:=by obtain⟨_,e,_⟩:=hl;exact Heap.lt_size e
 refine jw I.tk (call_all_walk (wpAny_pyIter_list hl ?_));refine⟨s.heap.objs.size,[s.heap.objs.size,a],[s.heap.objs.size],(bs.map Value.bool).toArray.size,_,_,fun i=>(bs[i]?).getD true,rfl,Walks.list (A:=X.A.in1) (I.ok.hd hc) _ a (A3 hlt) (bs.map Value.bool).toArray,
  ⟨⟨_,Heap.get?_push_size _ rfl,rfl,rfl⟩,hl.push _⟩,fun i v s' Q' E' hP hQ=>?_,fun h' tk hk ht=>?_⟩
 ·have hP:(bs.map Value.bool).toArray[i]?=some v:=hP;rw[List.getElem?_toArray,Av] at hP;obtain⟨b,e,rfl⟩:=AE.mp hP;have hQ:Q' ((bs[i]?).getD true) s':=hQ;rw[e] at hQ;exact wpAny_truthy_bool hQ
 ·have e:((List.range (bs.map Value.bool).toArray.size).all fun i=>(bs[i]?).getD true)=bs.all id:=by rw[Ao,Ae];exact PyProof.Rows.LSm.range_all bs
  rw[e];exact⟨.bl _,H,I.kept (h':=h') (t':=tk) (PyProof.Rows.LSm.kept_iter hk),rfl,q⟩
end
end L2
namespace L3
open PySem L2
def wJ:List Y->Option (List Bool)
 |[]=>some []
 |.bl b::r=>(wJ r).map (b::·)
 |_::_=>none
theorem acd(bs:List Bool):wJ (bs.map Y.bl)=some bs:=by induction bs with|nil=>rfl|cons b r ih=>show(wJ (r.map Y.bl)).map (b::·)=_;rw[ih];rfl
theorem sg{G:G3}{H:Hp}:∀{ys:List Y} {xs:List V} {bs:List Bool},wJ ys=some bs->xi G H ys xs->xs=bs.map V.bl
 |[],_,_,h,r=>by cases h;exact r
 |y::ys,_,bs,h,⟨x,xs',e,r1,r2⟩=>by
  cases y with
  |bl b=>
   have h':(wJ ys).map (b::·)=some bs:=h;obtain⟨cs,e1,rfl⟩:=AE.mp h';cases (show x=V.bl b from r1);rw[e,sg e1 r2];rfl
  |_=>cases h
def ahk(xs:List Y)(L:ql)(Q:YK):Prop:=match xs with
 |[y]=>abf y=true/\gW L y fun ys=>wG L (fun bs L=>Q (.bl (List.all bs id)) L) (wJ ys)
 |_=>False
theorem alq(hc:X.calm=true:=by rfl):x4 X (.builtin "all") (upL X.g3 ahk):=ET (ac5 hc) fun xs H Q ⟨ys,L,Q3,rv,rl,z,k⟩=>by
 unfold ahk at z;split at z
 ·rename_i y;obtain⟨x,rfl,r⟩:=rv.inv1;obtain⟨hy,z⟩:=z;obtain⟨zs,es,z⟩:=w9 z;obtain⟨bs,eb,z⟩:=iu z;obtain⟨a,us,rfl,sq,rr⟩:=mU rl r hy es;cases sg eb rr;exact⟨a,bs,rfl,sq,k _ H _ L (EC _) rl (by rfl) z⟩
 ·exact z.elim
theorem aj6:bootBuiltins "all" = some (.builtin "all"):=by decide +kernel
def ajo:Y->Option jg
 |.int i=>some (.inl i)
 |.str x=>some (.inr x)
 |_=>none
theorem rR{k:jg}(h:ajo y=some k)(r:RV G H y v):v=kV k:=by cases y with|int i=>cases h;exact r|str x=>cases h;exact r|_=>cases h
def mI(kvs:List (jg×Y))(k:jg)(y:Y):List (jg×Y):=
 if (kvs.any fun kv=>decide (kv.1=k))=true then kvs.map (fun kv=>if kv.1=k then(kv.1,y) else kv) else kvs++[(k,y)]
theorem j7.dct{p:Addr}{zs:List (jg×V)}{o:HO}(h:H p=some (.dK zs)):j7 H (upd H p o):=fun a u i q=>by rw[qo ?_];exact q;rintro rfl;rw[h] at q;cases q;cases i
theorem zJ{kvs:List (jg×Y)}{xs:List (jg×V)}(p:Paired (fun(p:jg×Y) (q:jg×V)=>p.1=q.1/\RV G H p.2 q.2) kvs xs)(k:jg):(kvs.any fun kv=>decide (kv.1=k))=xs.any fun kv=>decide (kv.1=k):=by induction p with|nil=>rfl|cons r t ih=>rw[B9,B9,ih,r.1]
theorem aby{kvs:List (jg×Y)}{xs:List (jg×V)}(p:Paired (fun(p:jg×Y) (q:jg×V)=>p.1=q.1/\RV G H p.2 q.2) kvs xs)(k:jg)(r:RV G H y v):
 Paired (fun(p:jg×Y) (q:jg×V)=>p.1=q.1/\RV G H p.2 q.2) (kvs.map fun kv=>if kv.1=k then(kv.1,y) else kv) (xs.map fun kv=>if kv.1=k then(kv.1,v) else kv):=by
 induction p with
 |nil=>exact .nil
 |@cons a b _ _ r' t ih=>
  refine .cons ?_ ih;obtain⟨e,q⟩:=r';dsimp only;by_cases c:a.1=k
  ·rw[As c,As (e▸c)];exact⟨e,r⟩
  ·rw[Aq c,Aq (fun z=>c (e.trans z))];exact⟨e,q⟩
theorem xV{kvs:List (jg×Y)}{xs:List (jg×V)}(p:Paired (fun(p:jg×Y) (q:jg×V)=>p.1=q.1/\RV G H p.2 q.2) kvs xs)(k:jg)(r:RV G H y v):
 Paired (fun(p:jg×Y) (q:jg×V)=>p.1=q.1/\RV G H p.2 q.2) (kvs++[(k,y)]) (xs++[(k,v)]):=by
 induction p with|nil=>exact .cons ⟨rfl,r⟩ .nil|cons r' t ih=>exact .cons r' ih
theorem aae{kvs:List (jg×Y)}{xs:List (jg×V)}(p:Paired (fun(p:jg×Y) (q:jg×V)=>p.1=q.1/\RV G H p.2 q.2) kvs xs)(k:jg)(r:RV G H y v):
 Paired (fun(p:jg×Y) (q:jg×V)=>p.1=q.1/\RV G H p.2 q.2) (mI kvs k y) (dM xs k v):=by
 unfold mI dM;rw[zJ p k];by_cases c:(xs.any fun kv=>decide (kv.1=k))=true
 ·rw[As c,As c];exact aby p k r
 ·rw[Aq c,Aq c];exact xV p k r
theorem rY{R:α->β->Prop}{l:List α}{m:List β}(p:Paired R l m):l.length=m.length:=by induction p with|nil=>rfl|cons _ _ ih=>rw[AD,AD,ih]
def aa2(_:ji)(L:ql)(Q:YK):Prop:=∀p,L p=none->Q (.ref p) (qd L p (.dct []))
def eL(td ti:xw)(τ:ji)(L:ql)(Q:YK):Prop:=td τ L fun x L1=>ti τ L1 fun y L2=>match x,ajo y with
 |.ref a,some k=>tJ L2 a fun kvs=>wG L2 Q (wz kvs k)
 |_,_=>False
def acp(td ti tv:xw)(D:xr)(τ:ji)(L:ql):Prop:=tv τ L fun v L1=>td τ L1 fun x L2=>ti τ L2 fun y L3=>match x,ajo y with
 |.ref a,some k=>tJ L3 a fun kvs=>kvs.length<sizeLine/\D.nx τ (qd L3 a (.dct (mI kvs k v)))
 |_,_=>False
section
variable {i:Expr}{td ti tv:xw} 
theorem vM:QE X (.Dict [] [] pos) aa2:=EF zQ fun σ H Q ⟨τ,L,Q3,rs,rl,z,k⟩=>fun p hp=>by
 refine k _ _ _ (qd L p (.dct [])) (EE hp) (fun a u e=>?_) (by rfl) (z p (rl.none hp));by_cases c:a=p
 ·subst c;rw[q9] at e;cases e;exact⟨[],zv,.nil⟩
 ·rw[qa c] at e;exact(rl a u e).keep (EE hp) (qo c)
theorem aO(hu:X.A.units+128<cLine)(ho:QE X o td)(hi:QE X i ti)(hs:ahz i):QE X (.Subscript o i pos) (eL td ti):=EF (afl (by omega) ho hi hs) fun σ H Q ⟨τ,L,Q3,rs,rl,z,k⟩=>
 ⟨τ,L,_,rs,rl,z,fun v H1 x L1 t1 rl1 rv1 z1=>⟨τ,L1,_,rs.ts t1,rl1,z1,fun w H2 y L2 t2 rl2 rv2 z2=>by
  split at z2
  ·rename_i a kk ek;obtain⟨kvs,e,z3⟩:=kM z2;obtain⟨yv,ev,q⟩:=iu z3;obtain⟨xs,e2,pr⟩:=rl2 a _ e;obtain⟨xv,ex,rx⟩:=nS pr ev;exact⟨a,xv,rv1,.inl ⟨xs,kk,.inl e2,rR ek rv2,ex.symm⟩,k _ H2 _ L2 (t1.trans t2) rl2 rx q⟩
  ·exact z2.elim⟩⟩
theorem vB(hu:X.A.units+128<cLine)(ho:QE X o td)(hi:QE X i ti)(hv:QE X value tv)(hs:swapsWith value (some (.Subscript o i pos')) pos.line X.env=pure false:=by rfl):QS X (.Assign [.Subscript o i pos'] value pos) (acp td ti tv):=
 EI (afd (by omega) ho hi hv hs) fun D σ H ⟨τ,L,D3,rs,rl,z,k⟩=>
 ⟨τ,L,_,rs,rl,z,fun v H1 vy L1 t1 rl1 rv1 z1=>⟨τ,L1,_,rs.ts t1,rl1,z1,fun x H2 xy L2 t2 rl2 rv2 z2=>⟨τ,L2,_,rs.ts (t1.trans t2),rl2,z2,fun w H3 y L3 t3 rl3 rv3 z3=>by
  split at z3
  ·rename_i a kk ek;obtain⟨kvs,e,hl,q⟩:=kM z3;obtain⟨xs,e2,pr⟩:=rl3 a _ e;have tt:j7 H3 (upd H3 a (.dK (dM xs kk v))):=j7.dct e2;cases (show x=V.ref a from rv2);refine⟨a,_,rfl,.inl ⟨xs,kk,e2,rR ek rv3,by rw[<-rY pr];exact hl,rfl⟩,?_⟩;refine k.nx _ _ _ _ (((t1.trans t2).trans t3).trans tt) (rs.ts (((t1.trans t2).trans t3).trans tt)) (fun b u eb=>?_) q;by_cases c:b=a
   ·subst c;rw[q9] at eb;cases eb;exact⟨_,zv,EH (aae pr kk (rv1.ts (t2.trans t3))) fun _ _ ⟨h1,h2⟩=>⟨h1,h2.ts tt⟩⟩
   ·rw[qa c] at eb;exact(rl3 b u eb).keep tt (qo c)
  ·exact z3.elim⟩⟩⟩
end
def vA(to ti tv:xw)(D:xr)(τ:ji)(L:ql):Prop:=tv τ L fun v L1=>to τ L1 fun x L2=>ti τ L2 fun y L3=>match x,y with
 |.ref a,.int i=>dO L3 a fun ys=>wG L3 (fun j L=>D.nx τ (qd L a (.lst (ys.set j v)))) (ixN ys.length i)
 |_,_=>False
section
variable {i:Expr}{ti tv:xw} 
theorem oC(ho:QE X o to)(hi:QE X i ti)(hv:QE X value tv)
 (ha:∀v,assign (.Subscript o i pos') X.env v=(do
  let ov <-holding [v] (eval o X.env)
  let iv <-holding [v,ov] (eval i X.env)
  standAt pos'
  holding [v,ov,iv] (setItem ov iv v)
  release [v,ov,iv] []):=by intro _;rfl)
 (h1:swapsWithSole [.Subscript o i pos'] value pos.line X.env=pure false:=by rfl) (h2:swappedStores [.Subscript o i pos'] value X.env=pure none:=by rfl)
 (h3:(assignEach [.Subscript o i pos'] X.env).map (·.2)=[assign (.Subscript o i pos') X.env]:=by rfl):QS X (.Assign [.Subscript o i pos'] value pos) (vA to ti tv):=
 EI (ac4 hv (ahx ho hi acv ha) h1 h2 h3) fun D σ H ⟨τ,L,D3,rs,rl,z,k⟩=>
 ⟨τ,L,_,rs,rl,z,fun v H1 vy L1 t1 rl1 rv1 z1=>⟨τ,L1,_,rs.ts t1,rl1,z1,fun x H2 xy L2 t2 rl2 rv2 z2=>⟨τ,L2,_,rs.ts (t1.trans t2),rl2,z2,fun w H3 y L3 t3 rl3 rv3 z3=>by
  split at z3
  ·rename_i a ii;obtain⟨ys,e,z4⟩:=v9 z3;obtain⟨j,ej,q⟩:=iu z4;obtain⟨xs,e2,r⟩:=rl3 a _ e;cases (show x=V.ref a from rv2);cases (show w=V.int ii from rv3);have tt:j7 H3 (upd H3 a (.lst (xs.set j v))):=EN e2;exact⟨a,xs,ii,j,rfl,rfl,e2,by rw[<-r.length];exact ej,k.nx _ _ _ _ (((t1.trans t2).trans t3).trans tt) (rs.ts (((t1.trans t2).trans t3).trans tt)) (rl3.setL e2 (xi.setY (rv1.ts (t2.trans t3)) j r)) q⟩
  ·exact z3.elim⟩⟩⟩
end
end L3
namespace L2
open PySem PySem.Spec PyProof.Rows
section
variable {v₁ v₂:Expr}{te:TE}{u:Str->TE} 
end
end L2
namespace L3
open PySem L2
section
variable {v₁ v₂:Expr}{u:Str->xw} 
end
@[irreducible] def tF (L:ql) (a:Addr) (k:Addr->List (Str×Y)->Prop):Prop:=match L a with
 |some (.ins C fs)=>k C fs
 |_=>False
theorem xx{a:Addr}{fs:List (Str×Y)}{k:Addr->List (Str×Y)->Prop}(e:L a=some (.ins C fs))(h:k C fs):tF L a k:=by unfold tF;rw[e];exact h
theorem kZ{a:Addr}{k:Addr->List (Str×Y)->Prop}(h:tF L a k):∃C fs,L a=some (.ins C fs)/\k C fs:=by
 unfold tF at h;split at h
 ·rename_i C fs e;exact⟨C,fs,e,h⟩
 ·exact h.elim
abbrev PrF(G:G3)(H:Hp):List (Str×Y)->List (Str×V)->Prop:=Paired fun(p:Str×Y) (q:Str×V)=>p.1=q.1/\RV G H p.2 q.2
theorem afb{fs:List (Str×Y)}{xs:List (Str×V)}(p:PrF G H fs xs){f:Str}(h:fs.lookup f=some y):∃v,xs.lookup f=some v/\RV G H y v:=by
 induction p with
 |nil=>cases h
 |@cons a b _ _ r t ih=>
  obtain⟨ka,ya⟩:=a;obtain⟨kb,vb⟩:=b;obtain⟨e,r⟩:=r;cases (show ka=kb from e);rw[A9] at h ⊢;cases c:(f==ka) with
  |true=>rw[c] at h;cases h;exact⟨vb,rfl,r⟩
  |false=>rw[c] at h;exact ih h
theorem zT{fs:List (Str×Y)}{xs:List (Str×V)}(p:PrF G H fs xs){f:Str}(h:fs.lookup f=none):xs.lookup f=none:=by
 induction p with
 |nil=>rfl
 |@cons a b _ _ r t ih=>
  obtain⟨ka,ya⟩:=a;obtain⟨kb,vb⟩:=b;obtain⟨e,r⟩:=r;cases (show ka=kb from e);rw[A9] at h ⊢;cases c:(f==ka) with
  |true=>rw[c] at h;cases h
  |false=>rw[c] at h;exact ih h
def vL(f:Str)(y:Y):List (Str×Y)->List (Str×Y)
 |[]=>[(f,y)]
 |(g,x)::r=>if g=f then(g,y)::r else(g,x)::vL f y r
theorem aed{fs:List (Str×Y)}{xs:List (Str×V)}(p:PrF G H fs xs)(f:Str)(r:RV G H y v):PrF G H (vL f y fs) (cG f v xs):=by
 induction p with
 |nil=>exact .cons ⟨rfl,r⟩ .nil
 |@cons a b _ _ r' t ih=>
  obtain⟨ka,ya⟩:=a;obtain⟨kb,vb⟩:=b;obtain⟨e,q⟩:=r';cases (show ka=kb from e);unfold vL cG;by_cases c:ka=f
  ·rw[As c,As c];exact .cons ⟨rfl,r⟩ t
  ·rw[Aq c,Aq c];exact .cons ⟨rfl,q⟩ ih
theorem j7.ins{p:Addr}{zs:List (Str×V)}{o:HO}(h:H p=some (.ins C dx zs)):j7 H (upd H p o):=fun a u i q=>by rw[qo ?_];exact q;rintro rfl;rw[h] at q;cases q;cases i
def u4(K:Af)(f:Str)(te:xw)(τ:ji)(L:ql)(Q:YK):Prop:=te τ L fun x L1=>match x with
 |.ref a=>tF L1 a fun C fs=>Cls K C/\NoAttr K C f/\wG L1 Q (fs.lookup f)
 |_=>False
def ags(K:Af)(f:Str)(to tv:xw)(D:xr)(τ:ji)(L:ql):Prop:=tv τ L fun v L1=>to τ L1 fun x L2=>match x with
 |.ref a=>tF L2 a fun C fs=>Cls K C/\NoAttr K C f/\fs.length<1000/\D.nx τ (qd L2 a (.ins C (vL f v fs)))
 |_=>False
def vD(C:Addr)(sp:jj)(t:dU)(τ:ji)(L:ql)(Q:YK):Prop:=t τ L fun ys L1=>∀x,L1 x=none->sp (.ref x::ys) (qd L1 x (.ins C [])) fun v L2=>v=.non/\Q (.ref x) L2
section
variable {tv:xw}{f m:Str}{g:Addr}
theorem gl(h:QE X e te)(hb:attributeBase e f X.env (eval e X.env)=eval e X.env:=by rfl):QE X (.Attribute e f pos) (u4 X.K f te):=EF (ajr h hb) fun σ H Q ⟨τ,L,Q3,rs,rl,z,k⟩=>
 ⟨τ,L,_,rs,rl,z,fun v H1 y L1 t1 rl1 rv1 z1=>by
  split at z1
  ·rename_i a;obtain⟨C,fs,e,c,n,z2⟩:=kZ z1;obtain⟨y,ey,q⟩:=iu z2;obtain⟨dx,xs,e2,pr⟩:=rl1 a _ e;obtain⟨w,ew,rw'⟩:=afb pr ey;exact⟨a,C,dx,xs,w,rv1,e2,c,n,ew,k _ H1 _ L1 t1 rl1 rw' q⟩
  ·exact z1.elim⟩
theorem aes(ho:QE X o to)(hv:QE X value tv)(hs:swapsWith value (some (.Attribute o f pos')) pos.line X.env=pure false:=by rfl):QS X (.Assign [.Attribute o f pos'] value pos) (ags X.K f to tv):=EI (aiz ho hv hs) fun D σ H ⟨τ,L,D3,rs,rl,z,k⟩=>
 ⟨τ,L,_,rs,rl,z,fun v H1 vy L1 t1 rl1 rv1 z1=>⟨τ,L1,_,rs.ts t1,rl1,z1,fun w H2 y L2 t2 rl2 rv2 z2=>by
  split at z2
  ·rename_i a;obtain⟨C,fs,e,c,n,hl,q⟩:=kZ z2;obtain⟨dx,xs,e2,pr⟩:=rl2 a _ e;have tt:j7 H2 (upd H2 a (.ins C dx (cG f v xs))):=j7.ins e2;refine⟨a,C,dx,xs,rv2,e2,c,n,by rw[<-rY pr];exact hl,k.nx _ _ _ _ ((t1.trans t2).trans tt) (rs.ts ((t1.trans t2).trans tt)) (fun b u eb=>?_) q⟩;by_cases cc:b=a
   ·subst cc;rw[q9] at eb;cases eb;exact⟨dx,_,zv,EH (aed pr f (rv1.ts t2)) fun _ _ ⟨h1,h2⟩=>⟨h1,h2.ts tt⟩⟩
   ·rw[qa cc] at eb;exact(rl2 b u eb).keep tt (qo cc)
  ·exact z2.elim⟩⟩
theorem ag2{k:Nat}(M:Mk X.K C g)(F:Fn3 X.prog X.w X.K X.mg X.base k g fd ps sp)(hr:vm (k+1) X.A)(hg:Gl X x)(hm:X.mg x=some (.ref C))(hb:wg X.K fd ps [])(ha:QA X (e::es) tr)
 (hdb:Ef x:=by decide) (he:Ed e es X:=by rfl) (hpl:Ee pos es X:=by rfl):
 QE X (.Call (.Name x p) (e::es) [] pos) (vD C sp tr):=EF (aeo M F hr hg hm hb .nil zV ha hdb he hpl) fun σ H Q ⟨τ,L,Q3,rs,rl,z,k⟩=>
 ⟨τ,L,_,rs,rl,z,fun vs H1 ys L1 t1 rl1 rv1 z1=>fun x dx hx hdx ne=>by
  have ta:j7 H1 (upd H1 dx (.own x)):=EE hdx;have hx':upd H1 dx (.own x) x=none:=by rw[qo (AH ne)];exact hx
  have tt:j7 H1 (upd (upd H1 dx (.own x)) x (.ins C dx [])):=ta.trans (EE hx');refine⟨.ref x::ys,qd L1 x (.ins C []),_,⟨.ref x,vs++[],by simp,rfl,by rw[AZ];exact rv1.ts tt⟩,fun b u eb=>?_,z1 x (rl1.none hx),fun v H2 y L2 t2 rl2 rv2 ⟨ev,q⟩=>?_⟩
  ·by_cases cc:b=x
   ·subst cc;rw[q9] at eb;cases eb;exact⟨dx,[],zv,.nil⟩
   ·rw[qa cc] at eb;have nd:b≠dx:=fun z=>by obtain⟨w,ew⟩:=(rl1 b u eb).ex;rw[z,hdx] at ew;cases ew
    exact(rl1 b u eb).keep tt (by rw[qo cc,qo nd])
  ·subst ev;exact⟨rv2,k _ H2 _ L2 (t1.trans (tt.trans t2)) rl2 (by rfl) q⟩⟩
end
open PySem.AutoSeq1 (wpAny_loadPart')
open MeetsSeq MeetsSeq2 MeetsSeq3 SeqRoads2
end L3
namespace L2
open PySem PySem.Spec PyProof.Rows
end L2
namespace Txs
open PySem PySem.Builtin.Str
theorem len_list(x:Str):x.cps.toList.length=x.length:=by simp[Str.length]
end Txs
namespace L2
open PySem PySem.Spec PyProof.Rows
section
variable {isp imk c j1 j2:Nat}{sp mk:Str}{u:Tok}{m:Str->Option Value}{p6 p7 p8 p9 p10:Pos}{Q:Flow->Shared->Prop}
end
end L2
namespace L3
open PySem L2
end L3
namespace L2
open PySem PySem.Spec PyProof.Rows
section
end
end L2
namespace L3
open PySem L2
def iw(s:Stmt):List Stmt:=match s with
 |.ClassDef _ _ _ b _ _ _ _ _ _ _=>b
 |_=>[]
structure xE(P:Program)(w:World)(K:Af)(mg:Str->Option Value)(base:Heap)(k:Nat)(C:Addr)(m:Str)(ps:List Str)(sp:jj):Prop where
 ex:∃g fd,acl K C m g/\Fn3 P w K mg base k g fd ps sp/\wg K fd ps []
structure acq(P:Program)(w:World)(K:Af)(mg:Str->Option Value)(base:Heap)(k:Nat)(C:Addr)(ps:List Str)(sp:jj):Prop where
 ex:∃g fd,Mk K C g/\(∃j,k=j+1/\Fn3 P w K mg base j g fd ps sp)/\wg K fd ps []
theorem xE.mono{P:Program}{w:World}{K:Af}{k:Nat}{m:Str}(c:xE P w K mg base j C m ps sp)(h:j≤k):xE P w K mg base k C m ps sp:=by obtain⟨g,fd,M,F,b⟩:=c.ex;exact⟨g,fd,M,F.mono h,b⟩
theorem acq.mono{P:Program}{w:World}{K:Af}{k:Nat}(c:acq P w K mg base j C ps sp)(h:j≤k):acq P w K mg base k C ps sp:=by obtain⟨g,fd,M,⟨i,e,F⟩,b⟩:=c.ex;subst e;exact⟨g,fd,M,⟨k - 1,by omega,F.mono (by omega)⟩,b⟩
section
variable {m:Str}{k:Nat} 
theorem agl(ci:acq X.prog X.w X.K X.mg X.base k C ps sp)(hr:vm k X.A)(hg:Gl X x)(hm:X.mg x=some (.ref C))(ha:QA X (e::es) tr)
 (hdb:Ef x:=by decide) (he:Ed e es X:=by rfl) (hpl:Ee pos es X:=by rfl):
 QE X (.Call (.Name x p) (e::es) [] pos) (vD C sp tr):=by
 obtain⟨g,fd,M,⟨j,ej,F⟩,b⟩:=ci.ex;subst ej;exact ag2 M F hr hg hm b ha hdb he hpl
end
structure cH(K:Af)(C:Addr)(x qual:Str)(st:Stmt):Prop where
 ex:∃(f:Addr) (kV doc pm:Value) (an:Option Addr) (cdv ct:Value),PySem.W.findIn K (.ref C) x=some (some (.ref f))/\PySem.W.isFn K (.ref f)=true/\zE K x qual st f (PySem.W.fnOf x qual (x9 st) (je st) (qr st) .none kV doc pm an cdv ct)
theorem meth_in{K:Af}{kV ct:Value}(a:PySem.W.findIn K (.ref C) x=some (some (.ref f)))
 (l:K.lookup f=some ⟨oc,od,.func (PySem.W.fnOf x qual (x9 st) (je st) (qr st) .none kV doc pm an cdv ct),osl⟩) (c:PySem.W.codeIn K cdv qual=true) (k:PySem.W.keepIn K (.ref f)=true) (i:PySem.W.isFn K (.ref f)=true):cH K C x qual st:=
 ⟨f,kV,doc,pm,an,cdv,ct,a,i,abo (st:=st) l c k⟩
theorem cH.use{K:Af}(D:cH K C x qual st)
 (hb:∀(kV doc pm:Value) (an:Option Addr) (cdv ct:Value) (us:List Value),us.length=ps.length->bindArgs (PySem.W.fnOf x qual (x9 st) (je st) (qr st) .none kV doc pm an cdv ct) ⟨us,[]⟩=pure (ps.zip us)):
 ∃f fd,zE K x qual st f fd/\wg K fd ps []/\acl K C x f:=by
 obtain⟨f,kV,doc,pm,an,cdv,ct,a,i,F⟩:=D.ex;exact⟨f,_,F,wg.all (hb kV doc pm an cdv ct),⟨a,i,F.kp⟩⟩
end L3
namespace L2
open PySem PySem.Spec PyProof.Rows
end L2
namespace L3
open PySem L2
end L3
namespace L2
open PySem PySem.Spec PyProof.Rows
section
variable {te:TE} 
end
end L2
namespace L3
open PySem L2
section
end
end L3
namespace L2
open PySem PySem.Spec PyProof.Rows
end L2
namespace L3
open PySem L2 PySem.Spec PyProof.Rows
end L3
namespace L2
open PySem PySem.Spec PyProof.Rows
section
variable {a T:Addr}{tr:Option Addr}
end
section
variable {T:List Str}{iter:Expr}{g:TG}{tc:TT}{te:TE}
end
section
variable {a b T:Addr}{tr:Option Addr}{E1:X1}
end
section
variable {k:Nat}{sp:Sp}{E1:X1}{t:TA}
end
end L2
namespace L3
open PySem L2
section
variable {T:List Str}{iter:Expr}{wi:TI3}{E3:X3}{Ea:Addr->ql->Prop}
end
end L3
namespace L2
open PySem PySem.Spec PyProof.Rows
section
end
end L2
namespace L3
open PySem L2
end L3
namespace L2
open PySem PySem.Spec PyProof.Rows
section
variable {w:World} 
theorem sF{it t:Addr}{its:Array Value}(hne:t≠it):∀(n i:Nat) (s:Shared) (Q:List Value->Shared->Prop),s.heap.IsListIter it t i->s.heap.IsList t its->i+n≤its.size->
 (∀h',h'.IsListIter it t (i+n)->Heap.SameBut it s.heap h'->Q ((its.toList.drop i).take n) { s with heap:=h' })->wpAny (model prog w) A (draw (.ref it) n) Q E s
 |0,i,s,Q,hit,_,_,hQ=>by unfold draw;exact Ai (by simpa using hQ s.heap hit (Heap.SameBut.refl ..))
 |n+1,i,s,Q,hit,ht,hle,hQ=>by
  have hlt:i<its.size:=by omega
  unfold draw;refine Aa (wpAny_pyNext_list_item hit ht (x:=its[i]) (by simp[hlt]) fun g1 it1 sb1=>?_);refine Aa (Bc (sF hne n (i+1) _ _ it1 (ht.extBut sb1.extBut hne) (by lia) fun g2 it2 sb2=>Ai ?_));have e:its.toList.drop i=its[i]::its.toList.drop (i+1):=by simp[BP,hlt]
  have q:=hQ g2 (by rw[show i+(n+1)=i+1+n by simp +arith only];exact it2)
   (sb1.trans sb2)
  rw[e,List.take_succ_cons] at q;exact q
theorem afr{t:Addr}{its:Array Value}{Q:Unit->Shared->Prop}(hh:A.handled=none)(ht:s.heap.IsList t its)(hn:(assignEach elts env).length=its.size)(hst:(assignEach elts env).findIdx? (·.1)=none)
 (h:∀g,Heap.ExtBut s.heap.objs.size s.heap g->wpAny (model prog w) A (assignInOrder ((assignEach elts env).map (·.2)) its.toList) Q E { s with heap:=g }):wpAny (model prog w) A (assign (.Tuple elts x1 pos) env (.ref t)) Q E s:=by
 have hlt:t≠s.heap.objs.size:=by obtain⟨o,ho,_⟩:=ht;exact A3 (Heap.lt_size ho)
 rw[arm_assign_Tuple];refine Aa (wpAny_standAt ?_);unfold unpack;rw[hn,hst];refine Aa (Bc ?_);unfold unpackItems notIterableAtAll;refine Aa (Aa (wpAny_specialOf ht.typeIs slot_list_iter.lookup ?_));refine Ai ?_;rw[Aq (by simp)];refine Aa (Bc (wpAny_pyIter_list ht ?_));refine Aa (Bc (sF hlt its.size 0 _ _ ⟨_,Heap.get?_push_size _ rfl,rfl,rfl⟩ (ht.push _) (by simp +arith only) fun g1 it1 sb1=>?_));have all:List.take its.size (List.drop 0 its.toList)=its.toList:=by rw[DY];exact Bg (by simp)
 rw[all,Aq (by simp)];have ht1:g1.IsList t its:=(ht.push _).extBut sb1.extBut hlt;refine Aa (Bc (wpAny_pyNext_list_end hh it1 ht1 (by simp) fun g2 eb2=>?_));rw[Aq (by simp)];exact Ai (h g2 fun b o hb e=>eb2 b o hb (sb1.extBut b o hb (Heap.get?_push_of_some _ e)))
end
section
def ap5(K:Af)(n:Nat)(t:zR):TG:=fun v σ H Q=>∃a xs,v=.ref a/\wu K H a xs/\xs.length=n/\t xs σ H Q
theorem ajf{k:Nat}{t:zR}(hc:X.calm=true)(h:PGs X es t)
 (hn:(assignEach es X.env).length=n:=by rfl) (hst:(assignEach es X.env).findIdx? (·.1)=none:=by rfl):PG X (.Tuple es k pos) (ap5 X.K n t):=by
 intro pins s σ H v u Q I r hw;obtain⟨a,xs,e1,hq,hl,hw⟩:=hw;subst e1;cases r;obtain⟨its,rv,pl,hz⟩:=I.list hq;have ht:=j9 pl;refine afr (I.ok.hd hc) ht (by simp[hn,<-hl,rv.length]) hst fun h' hx=>?_;have I1:qw X pins σ H { s with heap:=h' }:=I.kept (t':=s.toks) fun b o e=>hx b o (A3 (Heap.lt_size e)) e;exact h pins _ σ H xs _ Q I1 (by simpa using rv) hw
end
section
theorem af4(l:Addr)(its:Array Value)(n:Nat)(x:Value)(b:Nat->Bool)(j:Nat)(hj:j<its.size)(hit:b j=true)(hz:its.size≤sizeLine):∀(k i:Nat),j - i=k->i≤j->(∀m,i≤m->m<j->b m=false)->
 Meets (Builtin.«list.remove.loop» ⟨[.ref l,x,rawInt i],[]⟩) (fun A R s=>s.heap.get? l=some { cls:=.type "list",dict:=none,data:=.seq its n,slots:=#[] }/\(∀m (hm:m<its.size),SeqAt.EqAt A.in1 s its[m] x (b m))/\R (.ok (.ret .none)) { s with heap:=s.heap.update l (Obj.mapSeq fun xs=>xs.eraseIdxIfInBounds j) }):=by
 intro k
 induction k with
 |zero=>
  intro i hk hij hno prog w A R s h;obtain⟨hp,g,d,tk,os⟩:=s;obtain⟨hl,eq,h⟩:=h;have e:i=j:=by lia
  subst e
  (wp_walk using wpAny_loadPart' hl)
  have hi:its[((i:Nat):Int).toNat]?=some its[i]:=by simp[hj]
  rw[hi];refine Aa (eq i hj prog w _ _ ?_);rw[hit];have hz':(its.eraseIdxIfInBounds i).size≤sizeLine+1:=AL (MeetsSeq.size_erased its _) (C3 hz)
  (wp_walk using (wpAny_updateSeq hl rfl (hz:=hz) (_hz':=hz')),wpAny_loadPart' hl)
  simpa using h
 |succ k ih=>
  intro i hk hij hno prog w A R s h;obtain⟨hp,g,d,tk,os⟩:=s;obtain⟨hl,eq,h⟩:=h;have hlt:i<its.size:=by exact hX
  (wp_walk using wpAny_loadPart' hl)
  have hi:its[((i:Nat):Int).toNat]?=some its[i]:=by simp[hlt]
  have hc:((i:Int)+1)=((i+1:Nat):Int):=by rfl
  rw[hi];refine Aa (eq i hlt prog w _ _ ?_);rw[hno i (Am _) (by omega)]
  wp_walk
  rw[hc];refine⟨plainId_quiet MeetsSeq.plain_remove_loop _,codeAny_builtin MeetsSeq.entry_remove_loop ?_⟩;rw[Around.under_plainId MeetsSeq.plain_remove_loop _];exact ih (i+1) (by omega) (by omega) (fun m h1 h2=>hno m (by exact gB) h2) prog w A R _ ⟨hl,eq,h⟩
theorem ac8(l:Addr)(its:Array Value)(n:Nat)(x:Value)(b:Nat->Bool)(j:Nat)(hj:j<its.size)(hit:b j=true)(hz:its.size≤sizeLine)(hno:∀m,m<j->b m=false):
 Meets (Builtin.«list.remove» ⟨[.ref l,x],[]⟩) (fun A R s=>s.heap.get? l=some { cls:=.type "list",dict:=none,data:=.seq its n,slots:=#[] }/\(∀m (hm:m<its.size),SeqAt.EqAt A.in1 s its[m] x (b m))/\R (.ok (.ret .none)) { s with heap:=s.heap.update l (Obj.mapSeq fun xs=>xs.eraseIdxIfInBounds j) }):=by
 intro prog w A R s h;obtain⟨hp,g,d,tk,os⟩:=s;obtain⟨hl,eq,h⟩:=h
 (wp_walk using wpAny_loadPart' hl)
 refine⟨plainId_quiet MeetsSeq.plain_remove_loop _,codeAny_builtin MeetsSeq.entry_remove_loop ?_⟩;rw[Around.under_plainId MeetsSeq.plain_remove_loop _];exact af4 l its n x b j hj hit hz _ 0 rfl (Bl _) (fun m _ h2=>hno m h2) prog w A R _ ⟨hl,eq,h⟩
end
theorem zk.eraseN:∀{xs:List V} {us:List Value} (n:Nat),zk xs us->zk (xs.eraseIdx n) (us.eraseIdx n)
 |[],_,n,.nil=>by simp;exact .nil
 |_::_,_,0,.cons _ t=>t
 |_::_,_,n+1,.cons r t=>.cons r (zk.eraseN n t)
section
def adu(X:Cx):V->List V->Hp->VK->Prop:=fun x vs H Q=>∃l xs y ds e,∃n m j:Nat,x=.ref l/\vs=[y]/\H l=some (.lst xs)/\n≤126/\Paired (vk X.K H n) xs ds/\vk X.K H m y e/\j<ds.length/\(∃d,ds[j]?=some d/\Da.eq d e=true)/\
 (∀(k:Nat) d,k<j->ds[k]?=some d->Da.eq d e=false)/\Q .non (upd H l (.lst (xs.eraseIdx j)))
theorem wR(hu:X.A.units+128<cLine):lH X "list.remove" (adu X):=by
 intro pins s σ H x vs v us Q I rx rv h;obtain⟨l,xs,y,ds,e,n,m,j,rfl,rfl,hH,hn,pd,ry,hj,⟨dj,edj,hdj⟩,hno,q⟩:=h;cases rx;obtain⟨u,rfl,ru⟩:=rv.one;obtain⟨z,its,nn,r,hl,eo⟩:=I.lstM hH;have l1:xs.length=ds.length:=pd.length;have l2:its.length=xs.length:=r.length.symm;obtain⟨arr,harr⟩:∃arr:Array Value,arr=its.toArray:=⟨_,rfl⟩;have hsz:arr.size=its.length:=by rw[harr,Ao]
 have b:Nat->Bool:=fun _=>true;have hzz:arr.size≤sizeLine:=by rw[hsz];lia
 have M:=ac8 l arr nn u (fun k=>((ds[k]?).map fun d=>Da.eq d e).getD false) j (by lia) (by show((ds[j]?).map fun d=>Da.eq d e).getD false=true;rw[edj];exact hdj) hzz (fun k hk=>by show((ds[k]?).map fun d=>Da.eq d e).getD false=false;cases ek:ds[k]? with|none=>rfl|some d=>exact hno k d hk ek)
 rw[harr] at M;refine call_meets F.slot_list_remove ⟨_,eo,rfl⟩ F.entry_list_remove (F.args_list_remove_2 _ _) M ⟨eo,fun k hk=>?_,?_⟩
 ·have hk':k<its.length:=by rw[Ao] at hk;exact hk
  obtain⟨d,ed,rd⟩:=Words.Paired.getP pd (Aj (by lia:k<xs.length));show SeqAt.EqAt _ s _ u (((ds[k]?).map fun d=>Da.eq d e).getD false);rw[ed];obtain⟨u',eu',ru'⟩:=Words.Paired.getP r (Aj (by lia:k<xs.length));have eg:its.toArray[k]=u':=by have:=(AY.mp eu').2;simpa using this
  rw[eg];exact kY I n (by show X.A.units+1+n<cLine;lia) rd ry ru' ru
 ·refine⟨.non,_,I.lset (its':=its.eraseIdx j) hH eo ?_ (r.eraseN j) ?_,rfl,q⟩
  ·have:j<its.length:=by lia
   simp[Array.eraseIdxIfInBounds,this]
  ·have:=CV xs j;exact aix
end
end L2
namespace L3
open PySem L2
def agh(n:Nat)(t:sC)(y:Y)(τ:ji)(L:ql)(Q:ji->ql->Prop):Prop:=match y with
 |.ref a=>dO L a fun ys=>match ys.length==n with
  |true=>t ys τ L Q
  |false=>False
 |_=>False
theorem ak3{kk:Nat}(hc:X.calm=true)(h:QGs X es gs)(h1:(assignEach es X.env).length=n:=by rfl)(h2:(assignEach es X.env).findIdx? (·.1)=none:=by rfl):QG X (.Tuple es kk pos) (agh n gs):=
 PG.imp (ajf hc h h1 h2) fun v σ H Q ⟨y,τ,L,Q3,rv,rs,rl,z,k⟩=>by
 cases y with
 |ref a=>
  cases (show v=.ref a from rv);obtain⟨ys,e,z'⟩:=v9 z;obtain⟨xs,e2,r⟩:=rl a _ e;split at z'
  ·rename_i ee;exact⟨a,xs,rfl,ER e2,by rw[<-r.length];exact beq_iff_eq.mp ee,ys,τ,L,Q3,r,rs,rl,z',k⟩
  ·exact z'.elim
 |_=>exact z.elim
def iz(x:Y)(vs:List Y)(L:ql)(Q:YK):Prop:=match x,vs with
 |.ref a,[v]=>dO L a fun ys=>∃ds e,∃n m j:Nat,n≤126/\Paired (x5 L n) ys ds/\x5 L m v e/\j<ds.length/\(∃d,ds[j]?=some d/\Da.eq d e=true)/\(∀(k:Nat) d,k<j->ds[k]?=some d->Da.eq d e=false)/\Q .non (qd L a (.lst (ys.eraseIdx j)))
 |_,_=>False
theorem aau(hu:X.A.units+128<cLine):lH X "list.remove" (upM X.g3 iz):=lH.imp (wR hu) fun x xs H Q ⟨y,ys,L,Q3,r1,r2,rl,z,k⟩=>by
 unfold iz at z;split at z
 ·rename_i a v;obtain⟨zs,e,ds,de,n,m,j,hn,pd,dv,hj,hit,hno,z⟩:=v9 z;obtain⟨us,e2,r⟩:=rl a _ e;obtain⟨v',rfl,rv⟩:=r2.inv1;have both:∀{ys:List Y} {ds:List Da} {xs:List V},Paired (x5 L n) ys ds->xi X.g3 H ys xs->Paired (vk X.K H n) xs ds:=by
   intro ys ds xs p
   induction p generalizing xs with
   |nil=>intro q;cases (show xs=[] from q);exact .nil
   |cons h t ih=>
    rintro⟨x,xs',rfl,q1,q2⟩;exact .cons (x5.rep rl h q1) (ih q2)
  exact⟨a,us,v',ds,de,n,m,j,r1,rfl,e2,hn,both pd r,x5.rep rl dv rv,hj,hit,hno,k _ _ _ _ (EN e2) (rl.setL e2 (r.eraseIdx j)) (by rfl) z⟩
 ·exact z.elim
theorem y9(hu:X.A.units+128<cLine)(ho:QE X o to)(ha:QA X (e::es) tr)(h4:attributeBase o "remove" X.env (eval o X.env)=eval o X.env:=by rfl)
 (h5:((backTo cpos (starEach (e::es) X.env)).all (fun x=>!x.1)&&(backToKw cpos (keywordEach [] X.env)).all (fun x=>x.1.isSome)&&decide ((e::es).length+([]:List Keyword).length+(if ([]:List Keyword).isEmpty=true then 0 else 1)<30))=true:=by rfl)
 (h6:(apos.endLine==cpos.line)=true:=by rfl) (h7:Ed e es X:=by rfl) (h8:Ee cpos es X:=by rfl):
 QE X (.Call (.Attribute o "remove" apos) (e::es) [] cpos) (aZ iz to tr):=pV PySem.F.slot_list_remove PySem.F.type_list_remove (aau hu) ho ha h4 h5 h6 h7 h8
end L3
namespace L2
open PySem PySem.Spec PyProof.Rows
section
end
section
end
end L2
namespace L3
open PySem L2
end L3
namespace L2
open PySem PySem.Spec PyProof.Rows
section
def aq2:List V->Hp->VK->Prop:=fun xs H Q=>∃n:Int,xs=[.int n]/\∀p,H p=none->Q (.ref p) (upd H p (.rng 0 n))
theorem abc:x4 X (.type "range") aq2:=by intro pins s σ H xs us Q I r h;obtain⟨n,rfl,q⟩:=h;obtain⟨u,rfl,ru⟩:=r.one;obtain⟨t,rfl⟩:=(show ∃t,u=Value.int n t from ru);refine call_range_1 ?_;refine⟨.ref s.heap.objs.size,_,I.laid (t':=s.toks+1+1) (o:=.rng 0 n) (fun b ob q=>Heap.get?_push_of_some _ q) (Am _) ?_,rfl,q _ (I.hok.fresh (Am _))⟩;exact⟨s.toks,t,s.toks+1,Heap.get?_push_size _ rfl⟩
theorem tW{acc:Array Value}(h:ItemsOf (fun i v=>∃t,v=.int (0+(i:Int)*1) t) acc n):zk ((List.range n).map fun i:Nat=>V.int (0+(i:Int))) acc.toList:=by
 have len:acc.toList.length=n:=by rw[AM];exact h.1
 have key:∀(l:List Value) (k:Nat),(∀(j:Nat) v,l[j]?=some v->∃t,v=Value.int (0+((k+j:Nat):Int)*1) t)->zk ((List.range' k l.length).map fun i:Nat=>V.int (0+(i:Int))) l:=by
  intro l
  induction l with
  |nil=>intro k _;exact .nil
  |cons v r ih=>
   intro k hk;rw[AD,DJ,AG];obtain⟨t,e⟩:=hk 0 v rfl;refine .cons ?_ (ih (k+1) fun j v' hj=>?_)
   ·exact⟨t,by rw[e];simp⟩
   ·have:=hk (j+1) v' hj;rw[show k+1+j=k+(j+1) by simp +arith only];exact this
 have:=key acc.toList 0 fun j v hj=>by rw[C4];exact h.2 j v (by simpa using hj)
 rw[len,<-List.range_eq_range'] at this;exact this
def am5:List V->Hp->VK->Prop:=fun xs H Q=>∃a,∃n:Nat,xs=[.ref a]/\H a=some (.rng 0 n)/\n≤100000/\∀p,H p=none->Q (.ref p) (upd H p (.lst ((List.range n).map fun i:Nat=>V.int (0+(i:Int)))))
theorem xL(hc:X.calm=true):x4 X (.type "list") am5:=by
 intro pins s σ H xs us Q I r h;obtain⟨a,n,rfl,ha,hn,q⟩:=h;obtain⟨u,rfl,ru⟩:=r.one;cases (show u=Value.ref a from ru);obtain⟨t,u,v,e⟩:=I.hok a _ ha;have hb:(100000:Nat)≤sizeLine:=by decide
 have rs:Builtin.Range.rangeSize 0 (n:Int) 1=((n:Nat):Int):=by rw[rangeSize_one];split<;>lia
 refine jw I.tk (call_list_range (I.ok.hd hc) (show IsRange s.heap a 0 (n:Int) 1 t u v from e) (small_one (by decide) (by decide) (by exact A2 _) (by omega)) rs (AL hn (by decide)) fun h' tk acc c hk hS hacc ht=>?_);refine⟨.ref s.heap.objs.size,_,I.laid (t':=tk) (o:=.lst ((List.range n).map fun i:Nat=>V.int (0+(i:Int)))) hk (Am _) ?_,rfl,q _ (I.hok.fresh (Am _))⟩;refine⟨by rw[Ae,AX];exact aix,acc.toList,c,tW hacc,?_⟩;rw[hS]
def al9:List V->Hp->VK->Prop:=fun xs H Q=>∃b:Bool,xs=[.bl b]/\Q (.int (if b=true then 1 else 0)) H
theorem xJ:x4 X (.type "int") al9:=by intro pins s σ H xs us Q I r h;obtain⟨b,rfl,q⟩:=h;obtain⟨u,rfl,ru⟩:=r.one;cases (show u=Value.bool b from ru);exact call_int_bool ⟨.int _,_,I.tok (s.toks+1),⟨_,rfl⟩,q⟩
end
end L2
namespace L3
open PySem L2
theorem ain:bootBuiltins "range" = some (.type "range"):=by decide +kernel
def kI(te:xw)(τ:ji)(L:ql)(Q:YK):Prop:=te τ L fun y L1=>match y with
 |.int n=>(0≤n/\n≤100000)/\∀p,L1 p=none->Q (.ref p) (qd L1 p (.lst (wo 0 n.toNat)))
 |_=>False
theorem aev(n:Nat):xi G H (wo 0 n) ((List.range n).map fun i:Nat=>V.int (0+(i:Int))):=by
 unfold wo;generalize List.range n=l
 induction l with|nil=>rfl|cons k r ih=>exact⟨_,_,rfl,rfl,ih⟩
theorem jG{pos2:Pos}(hc:X.calm=true)(hg:Gl X "list")(hm:X.mg "list" = none)(hg2:Gl X "range")(hm2:X.mg "range" = none)(h:QE X e te)
 (h1:starEach [.Call (.Name "range" p2) [e] [] pos2] X.env=(false,eval (.Call (.Name "range" p2) [e] [] pos2) X.env)::starEach [] X.env:=by rfl) (h2:(backTo pos (starEach [] X.env)).any (·.1)=false:=by rfl)
 (h3:starEach [e] X.env=(false,eval e X.env)::starEach [] X.env:=by rfl) (h4:(backTo pos2 (starEach [] X.env)).any (·.1)=false:=by rfl):
 QE X (.Call (.Name "list" p) [.Call (.Name "range" p2) [e] [] pos2] [] pos) (kI te):=
 EF (gN (xL hc) hg hm cI (aB (gN abc hg2 hm2 ain (aB h fE h3) (by decide) (by decide) h3 h4) fE h1) (by decide) (by decide) h1 h2) fun σ H Q ⟨τ,L,Q3,rs,rl,z,k⟩=>
 ⟨τ,L,_,rs,rl,z,fun v H1 y L1 t1 rl1 rv1 z1=>by
  cases y with
  |int n=>
   obtain⟨⟨h0,h5⟩,z1⟩:=z1;cases (show v=V.int n from rv1);obtain⟨m,rfl⟩:∃m:Nat,n=(m:Int):=⟨n.toNat,by lia⟩;refine⟨_,rfl,fun q hq=>⟨q,m,rfl,zv,by lia,fun p hp=>?_⟩⟩;have hp1:H1 p=none:=by
    by_cases c:p=q
    ·subst c;exact hq
    ·rw[qo c] at hp;exact hp
   exact k _ _ _ _ (t1.trans ((EE hq).trans (EE hp))) ((rl1.skip hq).newL hp (aev m)) (by rfl) (z1 p (rl1.none hp1))
  |_=>exact z1.elim⟩
def abq(xs:List Y)(L:ql)(Q:YK):Prop:=match xs with
 |[.bl b]=>Q (.int (if b=true then 1 else 0)) L
 |_=>False
theorem aj4 :x4 X (.type "int") (upL X.g3 abq):=ET xJ fun xs H Q ⟨ys,L,Q3,rv,rl,z,k⟩=>by
 unfold abq at z;split at z
 ·rename_i b;obtain⟨u,rfl,ru⟩:=rv.inv1;cases (show u=V.bl b from ru);exact⟨b,rfl,k _ _ _ _ (EC _) rl (by rfl) z⟩
 ·exact z.elim
def cR(C:Addr)(m:Str)(sp:jj)(to:xw)(t:dU)(τ:ji)(L:ql)(Q:YK):Prop:=to τ L fun x L1=>match x with
 |.ref a=>tF L1 a fun C' fs=>C'=C/\fs.lookup m=none/\t τ L1 fun ys L2=>sp (.ref a::ys) L2 Q
 |_=>False
section
variable {m:Str}{g:Addr}
theorem afg{pl:Sem Bool}{k:Nat}(ho:QE X o to)(c:Cls X.K C)(hm:acl X.K C m g)(F:Fn3 X.prog X.w X.K X.mg X.base k g fd ps sp)(hr:vm k X.A)(hb:wg X.K fd ps [])(ha:QA X (e::es) tr)
 (hst:Ed e es X:=by rfl) (hpl:Ee pos es X:=by rfl)
 (ht:eval (.Call (.Attribute o m apos) (e::es) [] pos) X.env=(do
  let ov <-eval o X.env
  standAt apos.atName
  let (f,first) <-holding [ov] (getMethod ov m pl)
  callWith pos f first (backTo pos (starEach (e::es) X.env)) (backToKw pos (keywordEach [] X.env))):=by rfl):
 QE X (.Call (.Attribute o m apos) (e::es) [] pos) (cR C m sp to tr):=EF (adl (pl:=pl) ho c hm F hr hb .nil zV ha hst hpl ht) fun σ H Q ⟨τ,L,Q3,rs,rl,z,k⟩=>
 ⟨τ,L,_,rs,rl,z,fun v H1 y L1 t1 rl1 rv1 z1=>by
  split at z1
  ·rename_i a;obtain⟨C',fs,e,ec,n,q⟩:=kZ z1;subst ec;obtain⟨dx,xs,e2,pr⟩:=rl1 a _ e;cases (show v=V.ref a from rv1);exact⟨a,dx,xs,rfl,e2,zT pr n,τ,L1,_,rs.ts t1,rl1,q,fun vs H2 ys L2 t2 rl2 rv2 z2=>⟨.ref a::ys,L2,Q3,⟨.ref a,vs++[],rfl,rfl,by rw[AZ];exact rv2⟩,rl2,z2,k.ts (t1.trans t2)⟩⟩
  ·exact z1.elim⟩
theorem pP{pl:Sem Bool}{k:Nat}(cm:xE X.prog X.w X.K X.mg X.base k C m ps sp)(hr:vm k X.A)(c:Cls X.K C)(ho:QE X o to)(ha:QA X (e::es) tr)
 (hst:Ed e es X:=by rfl) (hpl:Ee pos es X:=by rfl)
 (ht:eval (.Call (.Attribute o m apos) (e::es) [] pos) X.env=(do
  let ov <-eval o X.env
  standAt apos.atName
  let (f,first) <-holding [ov] (getMethod ov m pl)
  callWith pos f first (backTo pos (starEach (e::es) X.env)) (backToKw pos (keywordEach [] X.env))):=by rfl):
 QE X (.Call (.Attribute o m apos) (e::es) [] pos) (cR C m sp to tr):=by
 obtain⟨g,fd,M,F,b⟩:=cm.ex;exact afg (pl:=pl) ho c M F hr b ha hst hpl ht
end
end L3
namespace TS
open PySem PyProof.Rows
def ad9:Bool->Keyed->Array Keyed->Nat->Nat->Nat->StateT SortSt Sem (Option Nat):=sortPriv% PySem.Builtin.gallop
section
variable {w:World} 
structure zB(prog:Program)(w:World)(A:Around)(s:Shared)(κ:SortKind)(Ok:Keyed->Prop)(f:Keyed->Int):Prop where
 lt:∀x y,Ok x->Ok y->∀{E:Value->Shared->Prop} {Q:Bool->Shared->Prop},Q (decide (f x<f y)) s->wpAny (model prog w) A (keyLt' κ x.1 y.1) Q E s
variable {κ:SortKind}{Ok:Keyed->Prop}{f:Keyed->Int}
theorem w_lt(O:zB prog w A s κ Ok f){st:SortSt}{x y:Keyed}{Q:Option Bool->SortSt->Prop}(hk:kindOf st=κ)(hx:Ok x)(hy:Ok y)(h:Q (some (decide (f x<f y))) st):wpS (model prog w) A E s (lt' x y) Q st:=by rw[lt'_eq];refine Ab (wpS_get ?_);rw[hk];refine Ab (wpS_lift (wpAny_attempt (O.lt x y hx hy ⟨rfl,?_⟩)));exact Ad h
theorem xb{arr:Array Keyed}{x:Keyed}{st:SortSt}{Q:Keyed->SortSt->Prop}(h:arr[i]?=some x)(q:Q x st):wpS (model prog w) A E s (elem' arr i) Q st:=by rw[elem'_eq,h];exact Ad q
def bey(left:Bool)(key:Keyed)(arr:Array Keyed)(i:Nat):StateT SortSt Sem (Option Bool):=elem' arr i >>= fun x=>if left=true then lt' x key else lt' key x >>= fun r=>pure (r.map fun b=>!b)
theorem ami(O:zB prog w A s κ Ok f){left:Bool}{key x:Keyed}{arr:Array Keyed}{st:SortSt}{Q:Option Bool->SortSt->Prop}(hk:kindOf st=κ)(hkey:Ok key)(hx:Ok x)(hi:arr[i]?=some x)
 (q:Q (some (if left=true then decide (f x<f key) else !decide (f key<f x))) st):wpS (model prog w) A E s (bey left key arr i) Q st:=by
 refine Ab (xb hi ?_);cases left with|true=>exact w_lt O hk hx hkey q|false=>exact Ab (w_lt O hk hkey hx (Ad q))
theorem az(O:zB prog w A s κ Ok f){left:Bool}{key:Keyed}{arr:Array Keyed}{base hint:Nat}{st:SortSt}{Q:Option Nat->SortSt->Prop}(hk:kindOf st=κ)(hkey:Ok key)(hh:hint<n)
 (it:Nat->Keyed) (hit:∀i,i<n->arr[base+i]?=some (it i)/\Ok (it i)) (bd:Nat->Bool) (hbd:∀i,i<n->bd i=if left=true then decide (f (it i)<f key) else !decide (f key<f (it i)))
 (mono:∀i j,i≤j->j<n->bd j=true->bd i=true)
 (q:∀k,k≤n->(∀i,i<k->bd i=true)->(∀i,k≤i->i<n->bd i=false)->Q (some k) st):wpS (model prog w) A E s (ad9 left key arr base n hint) Q st:=by
 have go:∀i,i<n->∀Q':Option Bool->SortSt->Prop,Q' (some (bd i)) st->wpS (model prog w) A E s (bey left key arr (base+i)) Q' st:=fun i hi Q' h=>ami O hk hkey (hit i hi).2 (hit i hi).1 (by rw[<-hbd i hi];exact h);refine Ab (go hint hh _ ?_);dsimp only;cases hb:bd hint with
 |true=>
  rw[As rfl];refine Ab (AS (AJ (I:=fun x c st'=>st'=st/\∃la ofs,c=(none,la,ofs)/\la<ofs/\la<n - hint/\bd (hint+la)=true/\x+1≤ofs)
   (Q:=fun c st'=>st'=st/\∃la ofs,c=(none,la,ofs)/\la<ofs/\la<n - hint/\bd (hint+la)=true/\(n - hint≤ofs\/bd (hint+ofs)=false)) ?_ ?_ ⟨rfl,0,1,rfl,by exact Bu _,by omega,hb,by exact Bu _⟩) ?_)
  ·rintro x c st' _ hx ⟨rfl,la,ofs,rfl,h1,h2,h3,h4⟩;dsimp only;by_cases c:ofs≥n - hint
   ·rw[As c];exact Ad ⟨rfl,la,ofs,rfl,h1,h2,h3,.inl c⟩
   ·rw[Aq c];refine Ab (go (hint+ofs) (by lia) _ ?_);dsimp only;cases hm:bd (hint+ofs) with
    |true=>
     rw[Aq (by simp)];exact Ad ⟨rfl,ofs,2*ofs+1,rfl,by simp +arith only,by exact akz,hm,by lia⟩
    |false=>
     rw[As (by simp)];exact Ad ⟨rfl,la,ofs,rfl,h1,h2,h3,.inr hm⟩
  ·rintro c st' ⟨rfl,la,ofs,rfl,h1,h2,h3,h4⟩;exact⟨rfl,la,ofs,rfl,h1,h2,h3,.inl (by lia)⟩
  ·rintro c st' ⟨rfl,la,ofs,rfl,h1,h2,h3,h4⟩;dsimp only;obtain⟨lo,elo⟩:∃lo,lo=hint+la+1:=⟨_,rfl⟩;obtain⟨hi,ehi⟩:∃hi,hi=hint+min ofs (n - hint):=⟨_,rfl⟩;rw[<-elo,<-ehi];have g1:lo≤hi:=by omega
   have g2:hi≤n:=by lia
   have g3:∀i,i<lo->bd i=true:=fun i hi=>mono i (hint+la) (by lia) (by lia) h3;have g4:∀i,hi≤i->i<n->bd i=false:=fun i h5 h6=>by
    rcases h4 with h4 | h4
    ·omega
    ·cases e:bd i with
     |false=>rfl
     |true=>
      by_cases c:ofs<n - hint
      ·rw[mono (hint+ofs) i (by omega) h6 e] at h4;cases h4
      ·omega
   refine Ab (AS (AJ (I:=fun x c sx=>sx=st'/\∃lo hi,c=(none,lo,hi)/\lo≤hi/\hi≤n/\(∀i,i<lo->bd i=true)/\(∀i,hi≤i->i<n->bd i=false)/\hi - lo+x≤n)
    (Q:=fun c sx=>sx=st'/\∃hi,c=(none,hi,hi)/\hi≤n/\(∀i,i<hi->bd i=true)/\(∀i,hi≤i->i<n->bd i=false)) ?_ ?_ ⟨rfl,lo,hi,rfl,g1,g2,g3,g4,by exact amy⟩) ?_)
   ·rintro x c st'' _ hx ⟨rfl,lo,hi,rfl,k1,k2,k3,k4,k5⟩;dsimp only;by_cases c:lo≥hi
    ·rw[As c];have:lo=hi:=by lia
     subst this;exact Ad ⟨rfl,lo,rfl,k2,k3,k4⟩
    ·rw[Aq c];refine Ab (go (lo+(hi - lo) / 2) (by lia) _ ?_);dsimp only;cases hm:bd (lo+(hi - lo) / 2) with
     |true=>
      rw[As rfl];exact Ad ⟨rfl,lo+(hi - lo) / 2+1,hi,rfl,by lia,k2,fun i h5=>mono i _ (by exact am2) (by lia) hm,k4,by lia⟩
     |false=>
      rw[Aq (by simp)];refine Ad ⟨rfl,lo,lo+(hi - lo) / 2,rfl,by exact A4 _ _,by lia,k3,fun i h5 h6=>?_,by omega⟩;cases e:bd i with|false=>rfl|true=>rw[mono _ i h5 h6 e] at hm;cases hm
   ·rintro c st'' ⟨rfl,lo,hi,rfl,k1,k2,k3,k4,k5⟩;have:lo=hi:=by lia
    subst this;exact⟨rfl,lo,rfl,k2,k3,k4⟩
   ·rintro c st'' ⟨rfl,hi,rfl,k2,k3,k4⟩;exact Ad (q hi k2 k3 k4)
 |false=>
  rw[Aq (by simp)];refine Ab (AS (AJ (I:=fun x c st'=>st'=st/\∃la ofs,c=(none,la,ofs)/\la<ofs/\la<hint+1/\bd (hint - la)=false/\x+1≤ofs)
   (Q:=fun c st'=>st'=st/\∃la ofs,c=(none,la,ofs)/\la<ofs/\la<hint+1/\bd (hint - la)=false/\(hint+1≤ofs\/bd (hint - ofs)=true)) ?_ ?_ ⟨rfl,0,1,rfl,by lia,by exact CZ _,hb,by lia⟩) ?_)
  ·rintro x c st' _ hx ⟨rfl,la,ofs,rfl,h1,h2,h3,h4⟩;dsimp only;by_cases c:ofs≥hint+1
   ·rw[As c];exact Ad ⟨rfl,la,ofs,rfl,h1,h2,h3,.inl c⟩
   ·rw[Aq c];refine Ab (go (hint - ofs) (by exact mJ) _ ?_);dsimp only;cases hm:bd (hint - ofs) with
    |true=>
     rw[As rfl];exact Ad ⟨rfl,la,ofs,rfl,h1,h2,h3,.inr hm⟩
    |false=>
     rw[Aq (by simp)];exact Ad ⟨rfl,ofs,2*ofs+1,rfl,by lia,by exact akz,hm,by lia⟩
  ·rintro c st' ⟨rfl,la,ofs,rfl,h1,h2,h3,h4⟩;exact⟨rfl,la,ofs,rfl,h1,h2,h3,.inl (by exact hG)⟩
  ·rintro c st' ⟨rfl,la,ofs,rfl,h1,h2,h3,h4⟩;dsimp only;obtain⟨lo,elo⟩:∃lo,lo=hint+1 - min ofs (hint+1):=⟨_,rfl⟩;obtain⟨hi,ehi⟩:∃hi,hi=hint - la:=⟨_,rfl⟩;rw[<-elo,<-ehi];have g1:lo≤hi:=by omega
   have g2:hi≤n:=by omega
   have g3:∀i,i<lo->bd i=true:=fun i h5=>by
    rcases h4 with h4 | h4
    ·omega
    ·exact mono i (hint - ofs) (by omega) (by exact mJ) h4
   have g4:∀i,hi≤i->i<n->bd i=false:=fun i h5 h6=>by cases e:bd i with|false=>rfl|true=>rw[mono (hint - la) i (by lia) h6 e] at h3;cases h3
   refine Ab (AS (AJ (I:=fun x c sx=>sx=st'/\∃lo hi,c=(none,lo,hi)/\lo≤hi/\hi≤n/\(∀i,i<lo->bd i=true)/\(∀i,hi≤i->i<n->bd i=false)/\hi - lo+x≤n)
    (Q:=fun c sx=>sx=st'/\∃hi,c=(none,hi,hi)/\hi≤n/\(∀i,i<hi->bd i=true)/\(∀i,hi≤i->i<n->bd i=false)) ?_ ?_ ⟨rfl,lo,hi,rfl,g1,g2,g3,g4,by exact amy⟩) ?_)
   ·rintro x c st'' _ hx ⟨rfl,lo,hi,rfl,k1,k2,k3,k4,k5⟩;dsimp only;by_cases c:lo≥hi
    ·rw[As c];have:lo=hi:=by lia
     subst this;exact Ad ⟨rfl,lo,rfl,k2,k3,k4⟩
    ·rw[Aq c];refine Ab (go (lo+(hi - lo) / 2) (by lia) _ ?_);dsimp only;cases hm:bd (lo+(hi - lo) / 2) with
     |true=>
      rw[As rfl];exact Ad ⟨rfl,lo+(hi - lo) / 2+1,hi,rfl,by lia,k2,fun i h5=>mono i _ (by lia) (by lia) hm,k4,by lia⟩
     |false=>
      rw[Aq (by simp)];refine Ad ⟨rfl,lo,lo+(hi - lo) / 2,rfl,by lia,by lia,k3,fun i h5 h6=>?_,by lia⟩;cases e:bd i with|false=>rfl|true=>rw[mono _ i h5 h6 e] at hm;cases hm
   ·rintro c st'' ⟨rfl,lo,hi,rfl,k1,k2,k3,k4,k5⟩;have:lo=hi:=by lia
    subst this;exact⟨rfl,lo,rfl,k2,k3,k4⟩
   ·rintro c st'' ⟨rfl,hi,rfl,k2,k3,k4⟩;exact Ad (q hi k2 k3 k4)
end
def aaz:Array Keyed->Array Keyed->StateT SortSt Sem (Array Keyed):=sortPriv% PySem.Builtin.mergeLo
def zY:Array Keyed->Array Keyed->StateT SortSt Sem (Array Keyed):=sortPriv% PySem.Builtin.mergeHi
structure MI(f:Keyed->Int)(la lb out ra rb:List Keyed):Prop where
 perm:(out++(ra++rb)).Perm (la++lb)
 so:out.Pairwise fun x y=>f x≤f y
 sa:ra.Pairwise fun x y=>f x≤f y
 sb:rb.Pairwise fun x y=>f x≤f y
 oa:∀x∈out,∀y∈ra,f x≤f y
 ob:∀x∈out,∀y∈rb,f x≤f y
theorem MI.a{f:Keyed->Int}{la lb out seg ra rb:List Keyed}(h:MI f la lb out (seg++ra) rb)(hs:∀x∈seg,∀y∈rb,f x≤f y):MI f la lb (out++seg) ra rb:=by
 have sa:=AQ.mp h.sa;refine⟨?_,AQ.mpr ⟨h.so,sa.1,fun x hx y hy=>h.oa x hx y (Ap _ hy)⟩,sa.2.1,h.sb,fun x hx y hy=>?_,fun x hx y hy=>?_⟩
 ·have:=h.perm;rw[Ax] at this ⊢;exact this
 ·rcases Ak.mp hx with hx | hx
  ·exact h.oa x hx y (Ag _ hy)
  ·exact sa.2.2 x hx y hy
 ·rcases Ak.mp hx with hx | hx
  ·exact h.ob x hx y hy
  ·exact hs x hx y hy
theorem MI.b{f:Keyed->Int}{la lb out seg ra rb:List Keyed}(h:MI f la lb out ra (seg++rb))(hs:∀x∈seg,∀y∈ra,f x≤f y):MI f la lb (out++seg) ra rb:=by
 have sb:=AQ.mp h.sb;refine⟨?_,AQ.mpr ⟨h.so,sb.1,fun x hx y hy=>h.ob x hx y (Ap _ hy)⟩,h.sa,sb.2.1,fun x hx y hy=>?_,fun x hx y hy=>?_⟩
 ·refine List.Perm.trans ?_ h.perm;rw[Ax];exact(BA out).mpr (by rw[<-Ax,<-Ax];exact(Bi rb).mpr BE)
 ·rcases Ak.mp hx with hx | hx
  ·exact h.oa x hx y hy
  ·exact hs x hx y hy
 ·rcases Ak.mp hx with hx | hx
  ·exact h.ob x hx y (Ag _ hy)
  ·exact sb.2.2 x hx y hy
def vt(f:Keyed->Int)(la lb r:List Keyed):Prop:=r.Perm (la++lb)/\r.Pairwise fun x y=>f x≤f y
theorem MI.ea{f:Keyed->Int}{la lb out ra:List Keyed}(h:MI f la lb out ra []):vt f la lb (out++ra):=⟨by have:=h.perm;rwa[AZ] at this,AQ.mpr ⟨h.so,h.sa,h.oa⟩⟩
theorem MI.eb{f:Keyed->Int}{la lb out ra rb:List Keyed}(h:MI f la lb out ra rb)(hs:∀x∈rb,∀y∈ra,f x≤f y):vt f la lb (out++rb++ra):=by
 refine⟨List.Perm.trans ?_ h.perm,?_⟩
 ·rw[Ax];exact(BA out).mpr BE
 ·rw[Ax];refine AQ.mpr ⟨h.so,AQ.mpr ⟨h.sb,h.sa,hs⟩,fun x hx y hy=>?_⟩;rcases Ak.mp hy with hy | hy
  ·exact h.ob x hx y hy
  ·exact h.oa x hx y hy
structure MP(f:Keyed->Int)(a b out:Array Keyed)(ia ib:Nat):Prop where
 mi:MI f a.toList b.toList out.toList (a.toList.drop ia) (b.toList.drop ib)
 sz:out.size=ia+ib
 la:ia≤a.size
 lb:ib≤b.size
theorem agb(a:Array Keyed)(h:i<a.size):a.toList.drop i=a[i]::a.toList.drop (i+1):=by rw[BP (by simpa using h)];simp
theorem fq(a:Array Keyed)(i j:Nat):(a.extract i j).toList=(a.toList.drop i).take (j - i):=by rw[Array.toList_extract,List.extract_eq_drop_take]
theorem jb(l:List Keyed)(i k:Nat):(l.drop i).take k++l.drop (i+k)=l.drop i:=by rw[<-C5,Bj]
theorem om{a:Array Keyed}{k:Nat}{x:Keyed}(h:x∈(a.toList.drop i).take k):∃j,∃hj:i+j<a.size,j<k/\a[i+j]=x:=by
 obtain⟨j,hj,e⟩:=A7 h;rw[AW,BB] at hj;have h1:i+j<a.size:=by have:a.toList.length=a.size:=AM;omega
 refine⟨j,h1,by omega,?_⟩;rw[<-e];simp
theorem fU{a:Array Keyed}{x:Keyed}(h:x∈a.toList.drop i):∃j,∃hj:j<a.size,i≤j/\a[j]=x:=by
 obtain⟨j,hj,e⟩:=A7 h;rw[BB] at hj;have h1:i+j<a.size:=by have:a.toList.length=a.size:=AM;omega
 refine⟨i+j,h1,by exact A4 _ _,?_⟩;rw[<-e];simp
theorem zC{f:Keyed->Int}{a:Array Keyed}(s:a.toList.Pairwise fun x y=>f x≤f y)(hij:i≤j)(hj:j<a.size):f (a[i]'(by exact hX))≤f a[j]:=by
 rcases Ds hij with h | h
 ·have:=B3.mp s i j (by simpa using (by exact hX:i<a.size)) (by simpa using hj) h;simpa using this
 ·subst h;exact CW _
section
variable {f:Keyed->Int}{a b out:Array Keyed}{ia ib:Nat}
theorem MP.segA(M:MP f a b out ia ib){k:Nat}(hk:ia+k≤a.size)(h:∀i (hi:ia+i<a.size),i<k->∀j (hj:j<b.size),ib≤j->f a[ia+i]≤f b[j]):MP f a b (out++a.extract ia (ia+k)) (ia+k) ib:=by
 refine⟨?_,?_,hk,M.lb⟩
 ·rw[A6,fq,show ia+k - ia=k by omega];refine MI.a (by rw[jb];exact M.mi) fun x hx y hy=>?_;obtain⟨i,hi,h1,rfl⟩:=om hx;obtain⟨j,hj,h2,rfl⟩:=fU hy;exact h i hi h1 j hj h2
 ·rw[BL,CQ,M.sz];lia
theorem MP.segB(M:MP f a b out ia ib){k:Nat}(hk:ib+k≤b.size)(h:∀i (hi:ib+i<b.size),i<k->∀j (hj:j<a.size),ia≤j->f b[ib+i]≤f a[j]):MP f a b (out++b.extract ib (ib+k)) ia (ib+k):=by
 refine⟨?_,?_,M.la,hk⟩
 ·rw[A6,fq,show ib+k - ib=k by lia];refine MI.b (by rw[jb];exact M.mi) fun x hx y hy=>?_;obtain⟨i,hi,h1,rfl⟩:=om hx;obtain⟨j,hj,h2,rfl⟩:=fU hy;exact h i hi h1 j hj h2
 ·rw[BL,CQ,M.sz];lia
theorem MP.oneA(M:MP f a b out ia ib)(hi:ia<a.size)(h:∀j (hj:j<b.size),ib≤j->f a[ia]≤f b[j]):MP f a b (out.push a[ia]) (ia+1) ib:=by refine⟨?_,by rw[Bm,M.sz];simp +arith only,hi,M.lb⟩;rw[Cz];refine MI.a (seg:=[a[ia]]) (by rw[Cv,<-agb a hi];exact M.mi) fun x hx y hy=>?_;obtain⟨j,hj,h2,rfl⟩:=fU hy;rw[Au.mp hx];exact h j hj h2
theorem MP.oneB(M:MP f a b out ia ib)(hi:ib<b.size)(h:∀j (hj:j<a.size),ia≤j->f b[ib]≤f a[j]):MP f a b (out.push b[ib]) ia (ib+1):=by refine⟨?_,by rw[Bm,M.sz];exact Eb _ _ _,M.la,hi⟩;rw[Cz];refine MI.b (seg:=[b[ib]]) (by rw[Cv,<-agb b hi];exact M.mi) fun x hx y hy=>?_;obtain⟨j,hj,h2,rfl⟩:=fU hy;rw[Au.mp hx];exact h j hj h2
theorem MP.done(M:MP f a b out ia ib)(h:ib=b.size):vt f a.toList b.toList (out++a.extract ia++b.extract ib).toList:=by have e:b.toList.drop ib=[]:=List.drop_eq_nil_of_le (by rw[AM];lia);have m:=M.mi;rw[e] at m;have:=m.ea;rw[A6,A6,fq,fq,e,List.take_nil,AZ,Bg (by simp)];exact this
theorem MP.last(M:MP f a b out ia ib)(h:ia+1=a.size)(hl:∀x∈b.toList,f x<f (a[a.size - 1]'(by omega))):vt f a.toList b.toList (out++b.extract ib++a.extract ia).toList:=by
 have:=M.mi.eb fun x hx y hy=>by
  obtain⟨j,hj,h2,rfl⟩:=fU hy;have e:j=a.size - 1:=by omega
  subst e;exact BM (hl x (CB hx))
 rw[A6,A6,fq,fq,Bg (by simp),Bg (by simp)];exact this
end
section
variable {w:World}{κ:SortKind}{Ok:Keyed->Prop}{f:Keyed->Int}
abbrev gF(st:SortSt)(g:Nat):SortSt:=SortSt.mk' (kindOf st) (arrOf st) (pendingOf st) g (failedOf st)
theorem rD{c:Prop}{_:Decidable c}{K:β->StateT SortSt Sem α}{y:β}{Q:α->SortSt->Prop}{st:SortSt}(key:∀z,wpS (model prog w) A E s (K z) Q st):∀x,wpS (model prog w) A E s (if c then K x else K y) Q st:=fun x=>by
 by_cases h:c
 ·rw[As h];exact key x
 ·rw[Aq h];exact key y
theorem i7{γ:Type}{c:Prop}{_:Decidable c}{K T:β->γ->StateT SortSt Sem α}{P:β->γ->Prop}{x:β}{i:γ}{Q:α->SortSt->Prop}{st:SortSt}(key:∀o j,P o j->wpS (model prog w) A E s (K o j) Q st)(hn:¬c->P x i)
 (hp:c->(∀o j,P o j->wpS (model prog w) A E s (K o j) Q st)->wpS (model prog w) A E s (T x i) Q st):∀o,x=o->∀j,i=j->wpS (model prog w) A E s (if c then T o j else K o j) Q st:=by
 rintro _ rfl _ rfl;by_cases h:c
 ·rw[As h];exact hp h key
 ·rw[Aq h];exact key x i (hn h)
theorem yd(O:zB prog w A s κ Ok f){a b:Array Keyed}{st:SortSt}{Q:Array Keyed->SortSt->Prop}(hk:kindOf st=κ)(oka:∀x∈a.toList,Ok x)(okb:∀x∈b.toList,Ok x)
 (sa:a.toList.Pairwise fun x y=>f x≤f y) (sb:b.toList.Pairwise fun x y=>f x≤f y) (ha:0<a.size) (hb:0<b.size) (h0:∀x∈a.toList,f b[0]<f x) (hl:∀x∈b.toList,f x<f a[a.size - 1])
 (q:∀r g,vt f a.toList b.toList r.toList->Q r (gF st g)):wpS (model prog w) A E s (aaz a b) Q st:=by
 refine Ab (wpS_lift (Bt ⟨rfl,?_⟩));refine Ab (xb (x:=b[0]) (by simp[hb]) ?_);dsimp only;have M0:MP f a b #[b[0]] 0 1:=by have M:MP f a b #[] 0 0:=⟨⟨by simp,by simp,by simpa using sa,by simpa using sb,by simp,by simp⟩,rfl,Bl _,Bl _⟩;have:=M.oneB hb fun j hj _=>BM (h0 a[j] (by simp));simpa using this
 by_cases c1:(1==b.size)=true
 ·rw[As c1];exact Ad (q _ (gallopOf st) (M0.done (by simpa using c1)))
 rw[Aq c1];by_cases c2:(0+1==a.size)=true
 ·rw[As c2];exact Ad (q _ (gallopOf st) (M0.last (by simpa using c2) hl))
 rw[Aq c2];have c1:¬1=b.size:=by simpa using c1
 have c2:¬1=a.size:=by simpa using c2
 refine Ab (wpS_get ?_);have okA:∀i (hi:i<a.size),Ok a[i]:=fun i hi=>oka _ (by simp);have okB:∀i (hi:i<b.size),Ok b[i]:=fun i hi=>okb _ (by simp);have atA:∀i (hi:i<a.size),a[i]?=some a[i]:=fun i hi=>by simp[hi]
 have atB:∀i (hi:i<b.size),b[i]?=some b[i]:=fun i hi=>by simp[hi]
 obtain⟨tA,tA0⟩:∃t:Nat->Keyed,t=fun i=>(a[i]?).getD b[0]:=⟨_,rfl⟩;have tA2:∀i (hi:i<a.size),tA i=a[i]:=fun i hi=>by rw[tA0];simp[hi]
 have tA1:∀i (hi:i<a.size),a[i]?=some (tA i):=fun i hi=>by rw[tA2 i hi];exact atA i hi
 have tA3:∀i (hi:i<a.size),Ok (tA i):=fun i hi=>by rw[tA2 i hi];exact okA i hi
 have tA4:∀{i j},i≤j->j<a.size->f (tA i)≤f (tA j):=fun {i j} hij hj=>by rw[tA2 i (by exact hX),tA2 j hj];exact zC sa hij hj
 obtain⟨tB,tB0⟩:∃t:Nat->Keyed,t=fun i=>(b[i]?).getD b[0]:=⟨_,rfl⟩;have tB2:∀i (hi:i<b.size),tB i=b[i]:=fun i hi=>by rw[tB0];simp[hi]
 have tB1:∀i (hi:i<b.size),b[i]?=some (tB i):=fun i hi=>by rw[tB2 i hi];exact atB i hi
 have tB3:∀i (hi:i<b.size),Ok (tB i):=fun i hi=>by rw[tB2 i hi];exact okB i hi
 have tB4:∀{i j},i≤j->j<b.size->f (tB i)≤f (tB j):=fun {i j} hij hj=>by rw[tB2 i (by exact hX),tB2 j hj];exact zC sb hij hj
 refine Ab (AS (AJ (I:=fun x c st'=>(∃g,st'=gF st g)/\∃out ia ib mg,c=(none,out,ia,ib,mg)/\MP f a b out ia ib/\ia+1<a.size/\ib<b.size/\x+1≤out.size)
  (Q:=fun c st'=>(∃g,st'=gF st g)/\∃r,c.1=some r/\vt f a.toList b.toList r.toList) ?_ ?_ ⟨⟨gallopOf st,rfl⟩,_,_,_,_,rfl,M0,by exact xQ,by exact xQ,by simp⟩) ?_)
 ·rintro x c st' _ hx ⟨⟨g,rfl⟩,out,ia,ib,mg,rfl,M,ha',hb',hs⟩;dsimp only;refine Ab (AS (AJ (I:=fun y c st'=>st'=gF st g/\∃out' ia ib ac bc,c=(none,out',ia,ib,ac,bc)/\MP f a b out' ia ib/\ia+1<a.size/\ib<b.size/\out.size+y≤out'.size)
   (Q:=fun c st'=>st'=gF st g/\((∃r,c.1=some r/\vt f a.toList b.toList r.toList)\/∃out' ia ib ac bc,c=(none,out',ia,ib,ac,bc)/\MP f a b out' ia ib/\ia+1<a.size/\ib<b.size/\out.size+1≤out'.size)) ?_ ?_ ⟨rfl,_,_,_,_,_,rfl,M,ha',hb',Am _⟩) ?_)
  ·rintro y c st' _ hy ⟨rfl,out',ia,ib,ac,bc,rfl,M,ha',hb',hs'⟩;have pA1:ia<a.size:=by exact gB
   dsimp only;refine Ab (xb (atB ib hb') ?_);refine Ab (xb (atA ia pA1) ?_);refine Ab (w_lt O hk (okB ib hb') (okA ia pA1) ?_);dsimp only;by_cases c:f b[ib]<f a[ia]
   ·rw[AB c,As rfl];refine Ab (xb (atB ib hb') ?_);have M':=M.oneB hb' fun j hj hij=>BM (Int.lt_of_lt_of_le c (zC sa hij hj));have s2:(out'.push b[ib]).size=out'.size+1:=Bm _;by_cases e1:(ib+1==b.size)=true
    ·rw[As e1];exact Ad ⟨rfl,.inl ⟨_,rfl,M'.done (by simpa using e1)⟩⟩
    ·rw[Aq e1];have e1:¬ib+1=b.size:=by simpa using e1
     split
     ·exact Ad ⟨rfl,.inr ⟨_,_,_,_,_,rfl,M',ha',by exact xQ,by lia⟩⟩
     ·exact Ad ⟨rfl,_,_,_,_,_,rfl,M',ha',by lia,by lia⟩
   ·rw[AA c,Aq (by simp)];refine Ab (xb (atA ia pA1) ?_);have M':=M.oneA (by lia) fun j hj hij=>BJ (by omega) (zC sb hij hj);have s2:(out'.push a[ia]).size=out'.size+1:=Bm _;by_cases e1:(ia+1+1==a.size)=true
    ·rw[As e1];exact Ad ⟨rfl,.inl ⟨_,rfl,M'.last (by simpa using e1) hl⟩⟩
    ·rw[Aq e1];have e1:¬ia+1+1=a.size:=by simpa using e1
     split
     ·exact Ad ⟨rfl,.inr ⟨_,_,_,_,_,rfl,M',by exact xQ,hb',by lia⟩⟩
     ·exact Ad ⟨rfl,_,_,_,_,_,rfl,M',by lia,hb',by lia⟩
  ·rintro c st' ⟨rfl,out',ia,ib,ac,bc,rfl,M,ha',hb',hs'⟩;have:=M.sz;omega
  ·rintro c st' ⟨rfl,h⟩;rcases h with⟨r,er,hr⟩ | ⟨out1,ia,ib,ac,bc,rfl,M,ha',hb',hs'⟩
   ·obtain⟨c1,c2⟩:=c;cases er;exact Ad ⟨⟨g,rfl⟩,r,rfl,hr⟩
   ·dsimp only;refine Ab (wpS_lift (Bt ⟨rfl,?_⟩));refine Ab (AS (AJ (I:=fun y c st'=>(∃g,st'=gF st g)/\∃out' ia ib mg ac bc,c=(none,out',ia,ib,mg,ac,bc)/\MP f a b out' ia ib/\ia+1<a.size/\ib<b.size/\out1.size+y≤out'.size)
     (Q:=fun c st'=>(∃g,st'=gF st g)/\((∃r,c.1=some r/\vt f a.toList b.toList r.toList)\/∃out' ia ib mg ac bc,c=(none,out',ia,ib,mg,ac,bc)/\MP f a b out' ia ib/\ia+1<a.size/\ib<b.size/\out1.size≤out'.size)) ?_ ?_ ⟨⟨g,rfl⟩,_,_,_,_,_,_,rfl,M,ha',hb',Am _⟩) ?_)
    ·rintro y c st' _ hy ⟨⟨g',rfl⟩,out',ia,ib,mg',ac,bc,rfl,M,ha',hb',hs''⟩;have pA1:ia<a.size:=by exact gB
     dsimp only;generalize mg' - 1=mgx;revert mgx;refine rD (y:=mg') fun mg2=>?_
     all_goals
      refine Ab (wpS_modify ?_);refine Ab (xb (atB ib hb') ?_);refine Ab (az O hk (okB ib hb') (by lia) (fun i=>tA (ia+i)) (fun i hi=>⟨tA1 _ (by lia),tA3 _ (by lia)⟩) (fun i=>!decide (f b[ib]<f (tA (ia+i)))) (fun i hi=>by rw[Aq (by simp)]) (fun i j hij hj h=>?_) fun k hk1 hlo hhi=>?_)
      ·have:=tA4 (i:=ia+i) (j:=ia+j) (by lia) (by lia);simp at h ⊢;lia
      have hlo:∀i,i<k->f (tA (ia+i))≤f b[ib]:=fun i hi=>by have:=hlo i hi;simpa using this
      have hhi:∀i,k≤i->i<a.size - ia->f b[ib]<f (tA (ia+i)):=fun i hi hj=>by have:=hhi i hi hj;simpa using this
      have kl:k<a.size - ia:=by
       rcases Ds hk1 with h | h
       ·exact h
       ·exfalso;have h1:=hlo (a.size - 1 - ia) (by lia);have h2:=hl b[ib] (by simp);rw[show ia+(a.size - 1 - ia)=a.size - 1 by lia,tA2 _ (by exact pS)] at h1;omega
      have M1:MP f a b (out'++a.extract ia (ia+k)) (ia+k) ib:=M.segA (by lia) fun i hi hik j hj hij=>by have h1:=hlo i hik;rw[tA2 _ hi] at h1;exact BJ h1 (zC sb hij hj)
      have pB:∀j (hj:j<a.size),ia+k≤j->f b[ib]≤f a[j]:=fun j hj hij=>by have h1:=hhi (j - ia) (by lia) (by lia);rw[show ia+(j - ia)=j by lia,tA2 _ hj] at h1;lia
      dsimp only;generalize eo0:out'=o0;generalize ej0:ia=j0;revert j0;revert o0;refine i7 (P:=fun(o:Array Keyed) (j:Nat)=>MP f a b o j ib/\out'.size≤o.size/\j+1<a.size/\∀j' (hj:j'<a.size),j≤j'->f b[ib]≤f a[j']) (x:=out') (i:=ia) (fun out3 ia3 hP=>?tail) (fun ck=>?hN) (fun ck key=>?hY)
      case hN=>
       obtain rfl:k=0:=by lia
       exact⟨M,Am _,ha',fun j hj hij=>pB j hj (by lia)⟩
      case hY=>
       by_cases e1:(ia+k+1==a.size)=true
       ·rw[As e1];exact Ad ⟨⟨_,rfl⟩,.inl ⟨_,rfl,M1.last (by simpa using e1) hl⟩⟩
       ·rw[Aq e1,Aq (show ¬(ia+k==a.size)=true by simp;lia)];have e1:¬ia+k+1=a.size:=by simpa using e1
        exact key _ _ ⟨M1,by rw[BL];exact A4 _ _,by lia,pB⟩
      clear pB M1 hlo hhi;obtain⟨M1,h3,l3,pB⟩:=hP;have pA3:ia3<a.size:=by exact gB
      all_goals
       refine Ab (xb (atB ib hb') ?_);have M2:=M1.oneB hb' pB;have s2:(out3.push b[ib]).size=out3.size+1:=Bm _;by_cases e2:(ib+1==b.size)=true
       case' pos=>
        rw[As e2];exact Ad ⟨⟨_,rfl⟩,.inl ⟨_,rfl,M2.done (by simpa using e2)⟩⟩
       case' neg=>
        rw[Aq e2];have e2:¬ib+1=b.size:=by simpa using e2
        refine Ab (xb (atA ia3 pA3) ?_);refine Ab (az O hk (okA ia3 pA3) (by lia) (fun i=>tB (ib+1+i)) (fun i hi=>⟨tB1 _ (by omega),tB3 _ (by lia)⟩) (fun i=>decide (f (tB (ib+1+i))<f a[ia3])) (fun i hi=>by rw[As rfl]) (fun i j hij hj h=>?_) fun k2 hk2 hlo2 hhi2=>?_)
        ·have:=tB4 (i:=ib+1+i) (j:=ib+1+j) (by lia) (by omega);simp at h ⊢;lia
        have hlo2:∀i,i<k2->f (tB (ib+1+i))<f a[ia3]:=fun i hi=>by have:=hlo2 i hi;simpa using this
        have hhi2:∀i,k2≤i->i<b.size - (ib+1)->f a[ia3]≤f (tB (ib+1+i)):=fun i hi hj=>by have:=hhi2 i hi hj;simpa using this
        have M3:MP f a b (out3.push b[ib]++b.extract (ib+1) (ib+1+k2)) ia3 (ib+1+k2):=M2.segB (by omega) fun i hi hik j hj hij=>by have h1:=hlo2 i hik;rw[tB2 _ hi] at h1;exact BJ (BM h1) (zC sa hij hj)
        have pA:∀j (hj:j<b.size),ib+1+k2≤j->f a[ia3]≤f b[j]:=fun j hj hij=>by have h1:=hhi2 (j - (ib+1)) (by lia) (by omega);rw[show ib+1+(j - (ib+1))=j by lia,tB2 _ hj] at h1;exact h1
        dsimp only;obtain⟨o3,eo3⟩:∃o,o=out3.push b[ib]:=⟨_,rfl⟩;obtain⟨ib3,ei3⟩:∃i,i=ib+1:=⟨_,rfl⟩;rw[<-eo3] at s2;rw[<-eo3,<-ei3] at M2 M3 ⊢;rw[<-ei3] at pA hk2;generalize eo0:o3=o0;generalize ej0:ib3=j0;revert j0;revert o0;refine i7 (P:=fun(o:Array Keyed) (j:Nat)=>MP f a b o ia3 j/\out3.size+1≤o.size/\j<b.size/\∀j' (hj:j'<b.size),j≤j'->f a[ia3]≤f b[j']) (x:=o3) (i:=ib3) (fun out4 ib4 hP=>?tail2) (fun ck=>?hN) (fun ck key=>?hY)
        case hN=>
         obtain rfl:k2=0:=by lia
         exact⟨M2,by lia,by lia,fun j hj hij=>pA j hj (by lia)⟩
        case hY=>
         by_cases e3:(ib3+k2==b.size)=true
         ·rw[As e3];exact Ad ⟨⟨_,rfl⟩,.inl ⟨_,rfl,M3.done (by simpa using e3)⟩⟩
         ·rw[Aq e3];have e3:¬ib3+k2=b.size:=by simpa using e3
          exact key _ _ ⟨M3,by rw[BL];lia,by lia,pA⟩
        clear pA M3 hlo2 hhi2;obtain⟨M3,h4,l4,pA⟩:=hP
        all_goals
         refine Ab (xb (atA ia3 pA3) ?_);have M4:=M3.oneA (by lia) pA;have s4:(out4.push a[ia3]).size=out4.size+1:=Bm _;by_cases e4:(ia3+1+1==a.size)=true
         ·rw[As e4];exact Ad ⟨⟨_,rfl⟩,.inl ⟨_,rfl,M4.last (by simpa using e4) hl⟩⟩
         ·rw[Aq e4];have e4:¬ia3+1+1=a.size:=by simpa using e4
          split
          ·exact Ad ⟨⟨_,rfl⟩,.inr ⟨_,_,_,_,_,_,rfl,M4,by exact xQ,l4,by lia⟩⟩
          ·exact Ad ⟨⟨_,rfl⟩,_,_,_,_,_,_,rfl,M4,by lia,l4,by lia⟩
    ·rintro c st' ⟨⟨g',rfl⟩,out',ia,ib,mg',ac,bc,rfl,M,ha',hb',hs''⟩;have:=M.sz;omega
    ·rintro c st' ⟨⟨g',rfl⟩,h⟩;rcases h with⟨r,er,hr⟩ | ⟨out2,ia,ib,mg2,ac,bc,rfl,M,ha',hb',hs''⟩
     ·obtain⟨c1,c2⟩:=c;cases er;exact Ad ⟨⟨g',rfl⟩,r,rfl,hr⟩
     ·dsimp only;refine Ab (wpS_modify ?_);exact Ad ⟨⟨_,rfl⟩,_,_,_,_,rfl,M,ha',hb',by lia⟩
 ·rintro c st' ⟨⟨g,rfl⟩,out,ia,ib,mg,rfl,M,ha',hb',hs⟩;have:=M.sz;lia
 ·rintro c st' ⟨⟨g,rfl⟩,r,er,hr⟩;obtain⟨c1,c2⟩:=c;cases er;exact Ad (q r g hr)
end
structure MH(f:Keyed->Int)(la lb ra rb o:List Keyed):Prop where
 perm:(ra++rb++o).Perm (la++lb)
 so:o.Pairwise fun x y=>f x≤f y
 sa:ra.Pairwise fun x y=>f x≤f y
 sb:rb.Pairwise fun x y=>f x≤f y
 oa:∀x∈ra,∀y∈o,f x≤f y
 ob:∀x∈rb,∀y∈o,f x≤f y
theorem MH.a{f:Keyed->Int}{la lb o seg ra rb:List Keyed}(h:MH f la lb (ra++seg) rb o)(hs:∀x∈rb,∀y∈seg,f x≤f y):MH f la lb ra rb (seg++o):=by
 have sa:=AQ.mp h.sa;refine⟨List.Perm.trans ?_ h.perm,AQ.mpr ⟨sa.2.1,h.so,fun x hx y hy=>h.oa x (Ag _ hx) y hy⟩,sa.1,h.sb,fun x hx y hy=>?_,fun x hx y hy=>?_⟩
 ·rw[<-Ax];refine(Bi o).mpr ?_;rw[Ax,Ax];exact(BA ra).mpr BE
 ·rcases Ak.mp hy with hy | hy
  ·exact sa.2.2 x hx y hy
  ·exact h.oa x (Ap _ hx) y hy
 ·rcases Ak.mp hy with hy | hy
  ·exact hs x hx y hy
  ·exact h.ob x hx y hy
theorem MH.b{f:Keyed->Int}{la lb o seg ra rb:List Keyed}(h:MH f la lb ra (rb++seg) o)(hs:∀x∈ra,∀y∈seg,f x≤f y):MH f la lb ra rb (seg++o):=by
 have sb:=AQ.mp h.sb;refine⟨?_,AQ.mpr ⟨sb.2.1,h.so,fun x hx y hy=>h.ob x (Ag _ hx) y hy⟩,h.sa,sb.1,fun x hx y hy=>?_,fun x hx y hy=>?_⟩
 ·have:=h.perm;rw[<-Ax,Ax ra rb seg];exact this
 ·rcases Ak.mp hy with hy | hy
  ·exact hs x hx y hy
  ·exact h.oa x hx y hy
 ·rcases Ak.mp hy with hy | hy
  ·exact sb.2.2 x hx y hy
  ·exact h.ob x (Ap _ hx) y hy
theorem MH.ea{f:Keyed->Int}{la lb o rb:List Keyed}(h:MH f la lb [] rb o):vt f la lb (rb++o):=⟨by have:=h.perm;rwa[DP] at this,AQ.mpr ⟨h.sb,h.so,h.ob⟩⟩
theorem MH.eb{f:Keyed->Int}{la lb o ra rb:List Keyed}(h:MH f la lb ra rb o)(hs:∀x∈rb,∀y∈ra,f x≤f y):vt f la lb (rb++ra++o):=by
 refine⟨List.Perm.trans ?_ h.perm,?_⟩
 ·exact(Bi o).mpr BE
 ·refine AQ.mpr ⟨AQ.mpr ⟨h.sb,h.sa,hs⟩,h.so,fun x hx y hy=>?_⟩;rcases Ak.mp hx with hx | hx
  ·exact h.ob x hx y hy
  ·exact h.oa x hx y hy
structure HP(f:Keyed->Int)(a b out:Array Keyed)(na nb:Nat):Prop where
 mi:MH f a.toList b.toList (a.toList.take na) (b.toList.take nb) out.toList.reverse
 sz:out.size+na+nb=a.size+b.size
 la:na≤a.size
 lb:nb≤b.size
theorem agp(a:Array Keyed)(h:i<a.size):a.toList.take (i+1)=a.toList.take i++[a[i]]:=by rw[Bo];simp[h]
theorem f8{a:Array Keyed}{x:Keyed}(h:x∈a.toList.take i):∃j,∃hj:j<a.size,j<i/\a[j]=x:=by
 obtain⟨j,hj,e⟩:=A7 h;rw[AW] at hj;have h1:j<a.size:=by have:a.toList.length=a.size:=AM;omega
 refine⟨j,h1,by omega,?_⟩;rw[<-e];simp
theorem ae3(l:List Keyed){k:Nat}(h:i≤k):l.take i++(l.drop i).take (k - i)=l.take k:=by have:=List.take_add (l:=l) (i:=i) (j:=k - i);rw[show i+(k - i)=k by omega] at this;exact this.symm
section
variable {f:Keyed->Int}{a b out:Array Keyed}{nb:Nat}
theorem HP.segA(M:HP f a b out na nb){k:Nat}(hk:k≤na)(h:∀i (hi:i<a.size),k≤i->i<na->∀j (hj:j<b.size),j<nb->f b[j]≤f a[i]):HP f a b (out++(a.extract k na).reverse) k nb:=by
 have hl:=M.la;refine⟨?_,?_,by exact aix,M.lb⟩
 ·rw[A6,CI,CC,List.reverse_reverse,fq];refine MH.a (by rw[ae3 _ hk];exact M.mi) fun x hx y hy=>?_;obtain⟨j,hj,h2,rfl⟩:=f8 hx;obtain⟨i,hi,h1,rfl⟩:=om hy;exact h (k+i) hi (by exact A4 _ _) (by lia) j hj h2
 ·have:=M.sz;rw[BL,Array.size_reverse,CQ];lia
theorem HP.segB(M:HP f a b out na nb){k:Nat}(hk:k≤nb)(h:∀i (hi:i<b.size),k≤i->i<nb->∀j (hj:j<a.size),j<na->f a[j]≤f b[i]):HP f a b (out++(b.extract k nb).reverse) na k:=by
 have hl:=M.lb;refine⟨?_,?_,M.la,by lia⟩
 ·rw[A6,CI,CC,List.reverse_reverse,fq];refine MH.b (by rw[ae3 _ hk];exact M.mi) fun x hx y hy=>?_;obtain⟨j,hj,h2,rfl⟩:=f8 hx;obtain⟨i,hi,h1,rfl⟩:=om hy;exact h (k+i) hi (by lia) (by lia) j hj h2
 ·have:=M.sz;rw[BL,Array.size_reverse,CQ];lia
theorem HP.oneA(M:HP f a b out (na+1) nb)(hi:na<a.size)(h:∀j (hj:j<b.size),j<nb->f b[j]≤f a[na]):HP f a b (out.push a[na]) na nb:=by refine⟨?_,by have:=M.sz;rw[Bm];lia,by exact gB,M.lb⟩;rw[Cz,CI];refine MH.a (seg:=[a[na]]) (by rw[<-agp a hi];exact M.mi) fun x hx y hy=>?_;obtain⟨j,hj,h2,rfl⟩:=f8 hx;rw[Au.mp hy];exact h j hj h2
theorem HP.oneB(M:HP f a b out na (nb+1))(hi:nb<b.size)(h:∀j (hj:j<a.size),j<na->f a[j]≤f b[nb]):HP f a b (out.push b[nb]) na nb:=by refine⟨?_,by have:=M.sz;rw[Bm];lia,M.la,by lia⟩;rw[Cz,CI];refine MH.b (seg:=[b[nb]]) (by rw[<-agp b hi];exact M.mi) fun x hx y hy=>?_;obtain⟨j,hj,h2,rfl⟩:=f8 hx;rw[Au.mp hy];exact h j hj h2
theorem HP.done(M:HP f a b out na nb)(h:na=0):vt f a.toList b.toList (a.extract 0 na++b.extract 0 nb++out.reverse).toList:=by subst h;have:=M.mi;rw[List.take_zero] at this;have:=this.ea;rw[A6,A6,fq,fq,CC];simpa using this
theorem HP.last(M:HP f a b out na nb)(h:nb=1)(hb:0<b.size)(h0:∀x∈a.toList,f b[0]<f x):vt f a.toList b.toList (b.extract 0 nb++a.extract 0 na++out.reverse).toList:=by
 have:=M.mi.eb fun x hx y hy=>by
  obtain⟨j,hj,h2,rfl⟩:=f8 hx;have e:j=0:=by lia
  subst e;exact BM (h0 y (Bz hy))
 rw[A6,A6,fq,fq,CC];simpa using this
end
theorem HP.preA{f:Keyed->Int}{a b out:Array Keyed}{nb:Nat}(M:HP f a b out na nb)(h0:0<na)(h:∀j (hj:j<b.size),j<nb->f b[j]≤f (a[na - 1]'(by have:=M.la;omega))):HP f a b (out.push (a[na - 1]'(by have:=M.la;omega))) (na - 1) nb:=by obtain⟨n,rfl⟩:∃n,na=n+1:=⟨na - 1,by lia⟩;have hl:=M.la;exact HP.oneA M (by assumption) h
theorem HP.preB{f:Keyed->Int}{a b out:Array Keyed}{nb:Nat}(M:HP f a b out na nb)(h0:0<nb)(h:∀j (hj:j<a.size),j<na->f a[j]≤f (b[nb - 1]'(by have:=M.lb;omega))):HP f a b (out.push (b[nb - 1]'(by have:=M.lb;lia))) na (nb - 1):=by obtain⟨n,rfl⟩:∃n,nb=n+1:=⟨nb - 1,by lia⟩;have hl:=M.lb;exact HP.oneB M (by lia) h
section
variable {w:World}{κ:SortKind}{Ok:Keyed->Prop}{f:Keyed->Int}
theorem ai{c:Prop} [Decidable c]{x y:StateT SortSt Sem α}{Q:α->SortSt->Prop}{st:SortSt}(h:c)(k:wpS M A E s x Q st):wpS M A E s (if c then x else y) Q st:=by rw[As h];exact k
theorem aM{c:Prop} [Decidable c]{x y:StateT SortSt Sem α}{Q:α->SortSt->Prop}{st:SortSt}(h:¬c)(k:wpS M A E s y Q st):wpS M A E s (if c then x else y) Q st:=by rw[Aq h];exact k
theorem yy(O:zB prog w A s κ Ok f){a b:Array Keyed}{st:SortSt}{Q:Array Keyed->SortSt->Prop}(hk:kindOf st=κ)(oka:∀x∈a.toList,Ok x)(okb:∀x∈b.toList,Ok x)
 (sa:a.toList.Pairwise fun x y=>f x≤f y) (sb:b.toList.Pairwise fun x y=>f x≤f y) (ha:0<a.size) (hb:0<b.size) (h0:∀x∈a.toList,f b[0]<f x) (hl:∀x∈b.toList,f x<f a[a.size - 1])
 (q:∀r g,vt f a.toList b.toList r.toList->Q r (gF st g)):wpS (model prog w) A E s (zY a b) Q st:=by
 have okA:∀i (hi:i<a.size),Ok a[i]:=fun i hi=>oka _ (by simp);have okB:∀i (hi:i<b.size),Ok b[i]:=fun i hi=>okb _ (by simp);have atA:∀i (hi:i<a.size),a[i]?=some a[i]:=fun i hi=>by simp[hi]
 have atB:∀i (hi:i<b.size),b[i]?=some b[i]:=fun i hi=>by simp[hi]
 obtain⟨tA,tA0⟩:∃t:Nat->Keyed,t=fun i=>(a[i]?).getD b[0]:=⟨_,rfl⟩;have tA2:∀i (hi:i<a.size),tA i=a[i]:=fun i hi=>by rw[tA0];simp[hi]
 have tA1:∀i (hi:i<a.size),a[0+i]?=some (tA i):=fun i hi=>by rw[tA2 i hi,C4];exact atA i hi
 have tA3:∀i (hi:i<a.size),Ok (tA i):=fun i hi=>by rw[tA2 i hi];exact okA i hi
 have tA4:∀{i j},i≤j->j<a.size->f (tA i)≤f (tA j):=fun {i j} hij hj=>by rw[tA2 i (by exact hX),tA2 j hj];exact zC sa hij hj
 obtain⟨tB,tB0⟩:∃t:Nat->Keyed,t=fun i=>(b[i]?).getD b[0]:=⟨_,rfl⟩;have tB2:∀i (hi:i<b.size),tB i=b[i]:=fun i hi=>by rw[tB0];simp[hi]
 have tB1:∀i (hi:i<b.size),b[0+i]?=some (tB i):=fun i hi=>by rw[tB2 i hi,C4];exact atB i hi
 have tB3:∀i (hi:i<b.size),Ok (tB i):=fun i hi=>by rw[tB2 i hi];exact okB i hi
 have tB4:∀{i j},i≤j->j<b.size->f (tB i)≤f (tB j):=fun {i j} hij hj=>by rw[tB2 i (by exact hX),tB2 j hj];exact zC sb hij hj
 refine Ab (wpS_lift (Bt ⟨rfl,?_⟩));refine Ab (xb (x:=a[a.size - 1]) (atA _ (by exact pS)) ?_);dsimp only;obtain⟨n0,hn0⟩:∃n,a.size=n+1:=⟨a.size - 1,by lia⟩;have M0:HP f a b #[a[a.size - 1]] (a.size - 1) b.size:=by
  have M:HP f a b #[] (a.size - 1+1) b.size:=by
   refine⟨⟨?_,by simp,?_,?_,by simp,by simp⟩,by simp;lia,by exact pS,Am _⟩
   ·rw[Bg (by simp;lia),Bg (by simp)];simp
   ·rw[Bg (by simp;lia)];exact sa
   ·rw[Bg (by simp)];exact sb
  have:=M.oneA (by lia) fun j hj _=>BM (hl b[j] (by simp));simpa using this
 by_cases c1:(a.size - 1==0)=true
 ·refine ai c1 ?_;exact Ad (q _ (gallopOf st) (M0.done (by simpa using c1)))
 refine aM c1 ?_;by_cases c2:(b.size==1)=true
 ·refine ai c2 ?_;exact Ad (q _ (gallopOf st) (M0.last (by simpa using c2) hb h0))
 refine aM c2 ?_;have c1:¬a.size - 1=0:=by simpa using c1
 have c2:¬b.size=1:=by simpa using c2
 refine Ab (wpS_get ?_);refine Ab (AS (AJ (I:=fun x c st'=>(∃g,st'=gF st g)/\∃na nb out mg,c=(none,na,nb,out,mg)/\HP f a b out na nb/\0<na/\1<nb/\x+1≤out.size)
  (Q:=fun c st'=>(∃g,st'=gF st g)/\∃r,c.1=some r/\vt f a.toList b.toList r.toList) ?_ ?_ ⟨⟨gallopOf st,rfl⟩,_,_,_,_,rfl,M0,by exact aaj,by lia,by simp⟩) ?_)
 ·rintro x c st' _ hx ⟨⟨g,rfl⟩,na,nb,out,mg,rfl,M,ha',hb',hs⟩;dsimp only;refine Ab (AS (AJ (I:=fun y c st'=>st'=gF st g/\∃na nb out' ac bc,c=(none,na,nb,out',ac,bc)/\HP f a b out' na nb/\0<na/\1<nb/\out.size+y≤out'.size)
   (Q:=fun c st'=>st'=gF st g/\((∃r,c.1=some r/\vt f a.toList b.toList r.toList)\/∃na nb out' ac bc,c=(none,na,nb,out',ac,bc)/\HP f a b out' na nb/\0<na/\1<nb/\out.size+1≤out'.size)) ?_ ?_ ⟨rfl,_,_,_,_,_,rfl,M,ha',hb',Am _⟩) ?_)
  ·rintro y c st' _ hy ⟨rfl,na,nb,out',ac,bc,rfl,M,ha',hb',hs'⟩;have hla:=M.la;have hlb:=M.lb;have pB1:nb - 1<b.size:=by omega
   have pA1:na - 1<a.size:=by lia
   dsimp only;refine Ab (xb (atB (nb - 1) pB1) ?_);refine Ab (xb (atA (na - 1) pA1) ?_);refine Ab (w_lt O hk (okB (nb - 1) pB1) (okA (na - 1) pA1) ?_);dsimp only;by_cases c:f b[nb - 1]<f a[na - 1]
   ·rw[AB c,As rfl];refine Ab (xb (atA (na - 1) pA1) ?_);have M':=M.preA ha' fun j hj hij=>BM (Int.lt_of_le_of_lt (zC sb (i:=j) (j:=nb - 1) (CD hij) pB1) c);have s2:(out'.push a[na - 1]).size=out'.size+1:=Bm _;by_cases e1:(na - 1==0)=true
    ·refine ai e1 ?_;exact Ad ⟨rfl,.inl ⟨_,rfl,M'.done (by simpa using e1)⟩⟩
    ·refine aM e1 ?_;have e1:¬na - 1=0:=by simpa using e1
     split
     ·exact Ad ⟨rfl,.inr ⟨_,_,_,_,_,rfl,M',by exact aaj,hb',by lia⟩⟩
     ·exact Ad ⟨rfl,_,_,_,_,_,rfl,M',by lia,hb',by lia⟩
   ·rw[AA c,Aq (by simp)];refine Ab (xb (atB (nb - 1) pB1) ?_);have M':=M.preB (by exact gB) fun j hj hij=>BJ (zC sa (i:=j) (j:=na - 1) (CD hij) pA1) (by omega);have s2:(out'.push b[nb - 1]).size=out'.size+1:=Bm _;by_cases e1:(nb - 1==1)=true
    ·refine ai e1 ?_;exact Ad ⟨rfl,.inl ⟨_,rfl,M'.last (by simpa using e1) hb h0⟩⟩
    ·refine aM e1 ?_;have e1:¬nb - 1=1:=by simpa using e1
     split
     ·exact Ad ⟨rfl,.inr ⟨_,_,_,_,_,rfl,M',ha',by lia,by lia⟩⟩
     ·exact Ad ⟨rfl,_,_,_,_,_,rfl,M',ha',by lia,by lia⟩
  ·rintro c st' ⟨rfl,na,nb,out',ac,bc,rfl,M,ha',hb',hs'⟩;have:=M.sz;omega
  ·rintro c st' ⟨rfl,h⟩;rcases h with⟨r,er,hr⟩ | ⟨na,nb,out1,ac,bc,rfl,M,ha',hb',hs'⟩
   ·obtain⟨c1,c2⟩:=c;cases er;exact Ad ⟨⟨g,rfl⟩,r,rfl,hr⟩
   ·dsimp only;refine Ab (wpS_lift (Bt ⟨rfl,?_⟩));refine Ab (AS (AJ (I:=fun y c st'=>(∃g,st'=gF st g)/\∃na nb out' mg ac bc,c=(none,na,nb,out',mg,ac,bc)/\HP f a b out' na nb/\0<na/\1<nb/\out1.size+y≤out'.size)
     (Q:=fun c st'=>(∃g,st'=gF st g)/\((∃r,c.1=some r/\vt f a.toList b.toList r.toList)\/∃na nb out' mg ac bc,c=(none,na,nb,out',mg,ac,bc)/\HP f a b out' na nb/\0<na/\1<nb/\out1.size≤out'.size)) ?_ ?_ ⟨⟨g,rfl⟩,_,_,_,_,_,_,rfl,M,ha',hb',Am _⟩) ?_)
    ·rintro y c st' _ hy ⟨⟨g',rfl⟩,na,nb,out',mg',ac,bc,rfl,M,ha',hb',hs''⟩;have hla:=M.la;have hlb:=M.lb;have pB1:nb - 1<b.size:=by omega
     have pA1:na - 1<a.size:=by lia
     dsimp only;generalize mg' - 1=mgx;revert mgx;refine rD (y:=mg') fun mg2=>?_
     all_goals
      refine Ab (wpS_modify ?_);refine Ab (xb (atB (nb - 1) pB1) ?_);refine Ab (az O hk (okB (nb - 1) pB1) (by exact pS) tA (fun i hi=>⟨tA1 _ (by exact xC),tA3 _ (by lia)⟩) (fun i=>!decide (f b[nb - 1]<f (tA i))) (fun i hi=>by rw[Aq (by simp)]) (fun i j hij hj h=>?_) fun k hk1 hlo hhi=>?_)
      ·have:=tA4 (i:=i) (j:=j) (by lia) (by exact xC);simp at h ⊢;lia
      have hlo:∀i,i<k->f (tA i)≤f b[nb - 1]:=fun i hi=>by have:=hlo i hi;simpa using this
      have hhi:∀i,k≤i->i<na->f b[nb - 1]<f (tA i):=fun i hi hj=>by have:=hhi i hi hj;simpa using this
      have M1:HP f a b (out'++(a.extract k na).reverse) k nb:=M.segA hk1 fun i hi h1 h2 j hj hij=>by have h3:=hhi i h1 h2;rw[tA2 _ hi] at h3;exact BJ (zC sb (i:=j) (j:=nb - 1) (CD hij) pB1) (BM h3)
      have pB:∀j (hj:j<a.size),j<k->f a[j]≤f b[nb - 1]:=fun j hj hij=>by have h1:=hlo j hij;rw[tA2 _ hj] at h1;exact h1
      dsimp only;generalize ec0:na - k=cn;generalize eo0:out'=o0;generalize ej0:na=j0;revert j0;revert o0;refine i7 (P:=fun(o:Array Keyed) (j:Nat)=>HP f a b o j nb/\out'.size≤o.size/\0<j/\∀j' (hj:j'<a.size),j'<j->f a[j']≤f b[nb - 1]) (x:=out') (i:=na) (fun out3 na3 hP=>?tail) (fun ck=>?hN) (fun ck key=>?hY)
      case hN=>
       obtain rfl:k=na:=by lia
       exact⟨M,Am _,by lia,pB⟩
      case hY=>
       by_cases e1:(k==0)=true
       ·refine ai e1 ?_;exact Ad ⟨⟨_,rfl⟩,.inl ⟨_,rfl,M1.done (by simpa using e1)⟩⟩
       ·refine aM e1 ?_;have e1:¬k=0:=by simpa using e1
        exact key _ _ ⟨M1,by rw[BL];exact A4 _ _,by exact aaj,pB⟩
      clear pB M1 hlo hhi;obtain⟨M1,h3,l3,pB⟩:=hP
      all_goals
       have hla3:=M1.la;have pA3:na3 - 1<a.size:=by lia
       refine Ab (xb (atB (nb - 1) pB1) ?_);have M2:=M1.preB (by exact gB) pB;have s2:(out3.push b[nb - 1]).size=out3.size+1:=Bm _;by_cases e2:(nb - 1==1)=true
       case' pos=>
        refine ai e2 ?_;exact Ad ⟨⟨_,rfl⟩,.inl ⟨_,rfl,M2.last (by simpa using e2) hb h0⟩⟩
       case' neg=>
        refine aM e2 ?_;have e2:¬nb - 1=1:=by simpa using e2
        refine Ab (xb (atA (na3 - 1) pA3) ?_);refine Ab (az O hk (okA (na3 - 1) pA3) (by lia) tB (fun i hi=>⟨tB1 _ (by exact hG),tB3 _ (by lia)⟩) (fun i=>decide (f (tB i)<f a[na3 - 1])) (fun i hi=>by rw[As rfl]) (fun i j hij hj h=>?_) fun k2 hk2 hlo2 hhi2=>?_)
        ·have:=tB4 (i:=i) (j:=j) (by lia) (by exact hG);simp at h ⊢;lia
        have hlo2:∀i,i<k2->f (tB i)<f a[na3 - 1]:=fun i hi=>by have:=hlo2 i hi;simpa using this
        have hhi2:∀i,k2≤i->i<nb - 1->f a[na3 - 1]≤f (tB i):=fun i hi hj=>by have:=hhi2 i hi hj;simpa using this
        have k1:0<k2:=by
         rcases Nat.eq_zero_or_pos k2 with h | h
         ·exfalso;have h5:=hhi2 0 (by exact o8) (by lia);rw[tB2 _ hb] at h5;have h6:=h0 a[na3 - 1] (by simp);lia
         ·exact h
        have M3:HP f a b (out3.push b[nb - 1]++(b.extract k2 (nb - 1)).reverse) na3 k2:=M2.segB hk2 fun i hi h1 h2 j hj hij=>by have h5:=hhi2 i h1 h2;rw[tB2 _ hi] at h5;exact BJ (zC sa (i:=j) (j:=na3 - 1) (CD hij) pA3) h5
        have pA:∀j (hj:j<b.size),j<k2->f b[j]≤f a[na3 - 1]:=fun j hj hij=>by have h5:=hlo2 j hij;rw[tB2 _ hj] at h5;exact BM h5
        dsimp only;generalize ec2:nb - 1 - k2=cn2;obtain⟨o3,eo3⟩:∃o,o=out3.push b[nb - 1]:=⟨_,rfl⟩;obtain⟨nb3,ei3⟩:∃i,i=nb - 1:=⟨_,rfl⟩;have eb:b[nb - 1]=b[nb3]'(by lia):=by subst ei3;rfl
        rw[<-eo3] at s2 M2 M3 ⊢;rw[<-ei3] at M2 M3 ec2 hk2 ⊢;generalize eo0:o3=o0;generalize ej0:nb3=j0;revert j0;revert o0;refine i7 (P:=fun(o:Array Keyed) (j:Nat)=>HP f a b o na3 j/\out3.size+1≤o.size/\1<j/\∀j' (hj:j'<b.size),j'<j->f b[j']≤f a[na3 - 1]) (x:=o3) (i:=nb3) (fun out4 nb4 hP=>?tail2) (fun ck=>?hN) (fun ck key=>?hY)
        case hN=>
         obtain rfl:k2=nb3:=by lia
         exact⟨M2,by lia,by lia,pA⟩
        case hY=>
         by_cases e3:(k2==1)=true
         ·refine ai e3 ?_;exact Ad ⟨⟨_,rfl⟩,.inl ⟨_,rfl,M3.last (by simpa using e3) hb h0⟩⟩
         ·refine aM e3 (aM (show ¬(k2==0)=true by simp;exact ai8) ?_);have e3:¬k2=1:=by simpa using e3
          exact key _ _ ⟨M3,by rw[BL];lia,by lia,pA⟩
        clear pA M3 hlo2 hhi2;obtain⟨M3,h4,l4,pA⟩:=hP
        all_goals
         refine Ab (xb (atA (na3 - 1) pA3) ?_);have M4:=M3.preA l3 pA;have s4:(out4.push a[na3 - 1]).size=out4.size+1:=Bm _;by_cases e4:(na3 - 1==0)=true
         ·refine ai e4 ?_;exact Ad ⟨⟨_,rfl⟩,.inl ⟨_,rfl,M4.done (by simpa using e4)⟩⟩
         ·refine aM e4 ?_;have e4:¬na3 - 1=0:=by simpa using e4
          split
          ·exact Ad ⟨⟨_,rfl⟩,.inr ⟨_,_,_,_,_,_,rfl,M4,by exact aaj,l4,by lia⟩⟩
          ·exact Ad ⟨⟨_,rfl⟩,_,_,_,_,_,_,rfl,M4,by lia,l4,by lia⟩
    ·rintro c st' ⟨⟨g',rfl⟩,na,nb,out',mg',ac,bc,rfl,M,ha',hb',hs''⟩;have:=M.sz;omega
    ·rintro c st' ⟨⟨g',rfl⟩,h⟩;rcases h with⟨r,er,hr⟩ | ⟨na,nb,out2,mg2,ac,bc,rfl,M,ha',hb',hs''⟩
     ·obtain⟨c1,c2⟩:=c;cases er;exact Ad ⟨⟨g',rfl⟩,r,rfl,hr⟩
     ·dsimp only;refine Ab (wpS_modify ?_);exact Ad ⟨⟨_,rfl⟩,_,_,_,_,rfl,M,ha',hb',by lia⟩
 ·rintro c st' ⟨⟨g,rfl⟩,na,nb,out,mg,rfl,M,ha',hb',hs⟩;have:=M.sz;lia
 ·rintro c st' ⟨⟨g,rfl⟩,r,er,hr⟩;obtain⟨c1,c2⟩:=c;cases er;exact Ad (q r g hr)
end
def al(f:Keyed->Int):List (Nat×Nat×Nat)->List (List Keyed)->Nat->Prop
 |[],[],_=>True
 |(st,n,_)::ps,l::ls,s=>st=s/\n=l.length/\0<l.length/\(l.Pairwise fun x y=>f x≤f y)/\al f ps ls (s+l.length)
 |_,_,_=>False
theorem al.split{f:Keyed->Int}:∀{ps:List (Nat×Nat×Nat)} {pre:List (List Keyed)} {A B:List Keyed} {post:List (List Keyed)} {s:Nat},al f ps (pre++A::B::post) s->
 ∃P1 P2 w1 w2,ps=P1++(s+pre.flatten.length,A.length,w1)::(s+pre.flatten.length+A.length,B.length,w2)::P2/\P1.length=pre.length/\0<A.length/\0<B.length/\(A.Pairwise fun x y=>f x≤f y)/\(B.Pairwise fun x y=>f x≤f y)/\
  ∀C w,C.length=A.length+B.length->(C.Pairwise fun x y=>f x≤f y)->al f (P1++(s+pre.flatten.length,A.length+B.length,w)::P2) (pre++C::post) s
 |[],[],A,B,post,s,h=>by exact h.elim
 |[_],[],A,B,post,s,h=>by exact h.2.2.2.2.elim
 |(a1,a2,a3)::(b1,b2,b3)::ps,[],A,B,post,s,h=>by
  obtain⟨h1,h2,h3,h4,k1,k2,k3,k4,k5⟩:=h;refine⟨[],ps,a3,b3,?_,rfl,h3,k3,h4,k4,fun C w hC hs=>⟨rfl,hC.symm,by lia,hs,?_⟩⟩
  ·simp[h1,h2,k1,k2]
  ·rw[hC];have:=k5;rw[Eb] at this;exact this
 |[],_::_,A,B,post,s,h=>by exact h.elim
 |(a1,a2,a3)::ps,l::pre,A,B,post,s,h=>by
  obtain⟨h1,h2,h3,h4,k⟩:=h;obtain⟨P1,P2,w1,w2,e,e1,e2,e3,e4,e5,e6⟩:=al.split k;have en:s+(l::pre).flatten.length=s+l.length+pre.flatten.length:=by simp;simp +arith only
  refine⟨(a1,a2,a3)::P1,P2,w1,w2,?_,by simp[e1],e2,e3,e4,e5,fun C w hC hs=>⟨h1,h2,h3,h4,?_⟩⟩
  ·rw[en,e];rfl
  ·rw[en];exact e6 C w hC hs
theorem ae8{σ:Type}{st st':σ}{Q:PUnit->σ->Prop}(h:Q ⟨⟩ st'):wpS M A E s (set st':StateT σ Sem PUnit) Q st:=by unfold wpS;rw[StateT.run_set];exact Ai ⟨rfl,h⟩
theorem kW{α:Type}:∀(m:List α) (arr:Array α) (i k:Nat),i+k+m.length≤arr.size->((m.zipIdx k).foldl (fun(a:Array α) (pj:α×Nat)=>a.setIfInBounds (i+pj.2) pj.1) arr).toList=arr.toList.take (i+k)++(m++arr.toList.drop (i+k+m.length))
 |[],arr,i,k,h=>by simp
 |x::m,arr,i,k,h=>by
  rw[DI,List.foldl_cons];simp only[AD] at h;rw[kW m _ i (k+1) (by simp;lia)];have e:(arr.setIfInBounds (i+k) x).toList=arr.toList.set (i+k) x:=by simp
  have l:arr.toList.length=arr.size:=AM;rw[e,List.drop_set,As (by exact A4 _ _),<-Eb,Bo,BV (by lia),List.take_set_of_le (by simp +arith only),AD];simp;congr 1;simp +arith only
structure a8(κ:SortKind)(Ok:Keyed->Prop)(f:Keyed->Int)(st:SortSt)(jb:List (List Keyed))(rest:List Keyed):Prop where
 kind:kindOf st=κ
 failed:failedOf st=none
 arr:(arrOf st).toList=jb.flatten++rest
 pend:al f (pendingOf st).toList jb 0
 ok:∀x∈(arrOf st).toList,Ok x
section
variable {w:World}{κ:SortKind}{Ok:Keyed->Prop}{f:Keyed->Int}
theorem rA{l:List Keyed}(s:l.Pairwise fun x y=>f x≤f y)(hij:i≤j)(hj:j<l.length):f (l[i]'(by exact hX))≤f l[j]:=by
 rcases Ds hij with h | h
 ·exact B3.mp s i j (by exact hX) hj h
 ·subst h;exact CW _
theorem zS{p:Array α}{P1 P2:List α}{u v z:α}(h:p.toList=P1++u::v::P2):((p.setIfInBounds P1.length z).eraseIdxIfInBounds (P1.length+1)).toList=P1++z::P2:=by
 have hs:p.size=P1.length+(P2.length+2):=by rw[<-AM,h];simp
 have h2:P1.length+1<(p.setIfInBounds P1.length z).size:=by rw[Array.size_setIfInBounds];lia
 rw[Array.eraseIdxIfInBounds,dif_pos h2,Array.toList_eraseIdx,Array.toList_setIfInBounds,h,List.set_append_right _ _ (Am _),Cp,List.set_cons_zero,CY (by exact A4 _ _),Cj];rfl
theorem yi(O:zB prog w A s κ Ok f){st:SortSt}{pre post:List (List Keyed)}{X Y rest:List Keyed}{Q:Bool->SortSt->Prop}(G:a8 κ Ok f st (pre++X::Y::post) rest)
 (q:∀st' C,a8 κ Ok f st' (pre++C::post) rest->C.Perm (X++Y)->Q true st'):wpS (model prog w) A E s (mergeAt' pre.length) Q st:=by
 obtain⟨P1,P2,w1,w2,ep,e1,lX,lY,sX,sY,done⟩:=G.pend.split;simp only[C4] at ep done;have a1:(pendingOf st)[pre.length]?=some (pre.flatten.length,X.length,w1):=by rw[<-A5,ep,<-e1,Al (Am _),Cp];rfl
 have a2:(pendingOf st)[pre.length+1]?=some (pre.flatten.length+X.length,Y.length,w2):=by rw[<-A5,ep,<-e1,Al (by exact A4 _ _),Cj];rfl
 refine Ab (wpS_get ?_);rw[show(sortPriv% PySem.Builtin.SortState.pending) st=pendingOf st from rfl,a1,a2];dsimp only;refine Ab (ae8 ?_);have ea:(arrOf st).toList=pre.flatten++(X++(Y++(post.flatten++rest))):=by rw[G.arr];simp
 have atX:∀i (hi:i<X.length),(arrOf st)[pre.flatten.length+i]?=some X[i]:=fun i hi=>by rw[<-A5,ea,Al (by exact A4 _ _),Cj,Ay hi];simp
 have atY:∀i (hi:i<Y.length),(arrOf st)[pre.flatten.length+X.length+i]?=some Y[i]:=fun i hi=>by rw[<-A5,ea,Al (by simp +arith only),Al (by omega),Ay (by omega)];rw[show pre.flatten.length+X.length+i - pre.flatten.length - X.length=i by omega];simp
 have okX:∀x∈X,Ok x:=fun x hx=>G.ok x (by rw[ea];simp[hx]);have okY:∀x∈Y,Ok x:=fun x hx=>G.ok x (by rw[ea];simp[hx]);have pz:=zS (z:=(pre.flatten.length,X.length+Y.length,w1)) ep;rw[e1] at pz;have good:∀(st':SortSt) (C:List Keyed),kindOf st'=kindOf st->failedOf st'=failedOf st->pendingOf st'=((pendingOf st).setIfInBounds pre.length (pre.flatten.length,X.length+Y.length,w1)).eraseIdxIfInBounds (pre.length+1)->
  (arrOf st').toList=pre.flatten++(C++(post.flatten++rest))->C.Perm (X++Y)->(C.Pairwise fun x y=>f x≤f y)->a8 κ Ok f st' (pre++C::post) rest:=fun st' C g1 g2 g3 g4 g5 g6=>by
  refine⟨g1.trans G.kind,g2.trans G.failed,by rw[g4];simp,?_,fun x hx=>?_⟩
  ·rw[g3,pz];exact done C w1 (by rw[g5.length_eq,Ac]) g6
  ·rw[g4] at hx;rcases Ak.mp hx with h | h
   ·exact G.ok x (by rw[ea];exact Ap _ h)
   ·rcases Ak.mp h with h | h
    ·rcases Ak.mp (g5.mem_iff.mp h) with h | h
     ·exact okX x h
     ·exact okY x h
    ·exact G.ok x (by rw[ea];exact Ag _ (Ag _ (Ag _ h)))
 obtain⟨tX,tX0⟩:∃t:Nat->Keyed,t=fun i=>(X[i]?).getD X[0]:=⟨_,rfl⟩;have tX2:∀i (hi:i<X.length),tX i=X[i]:=fun i hi=>by rw[tX0];simp[hi]
 obtain⟨tY,tY0⟩:∃t:Nat->Keyed,t=fun i=>(Y[i]?).getD X[0]:=⟨_,rfl⟩;have tY2:∀i (hi:i<Y.length),tY i=Y[i]:=fun i hi=>by rw[tY0];simp[hi]
 refine Ab (xb (x:=Y[0]) (by have:=atY 0 lY;simpa using this) ?_);refine Ab (az O G.kind (okY _ (Ck _)) lX tX (fun i hi=>⟨by rw[tX2 i hi];exact atX i hi,by rw[tX2 i hi];exact okX _ (Ck _)⟩) (fun i=>!decide (f Y[0]<f (tX i))) (fun i hi=>by rw[Aq (by simp)]) (fun i j hij hj h=>?_) fun k hk1 hlo hhi=>?_)
 ·have:=rA sX hij hj;rw[tX2 j hj] at h;rw[tX2 i (by exact hX)];simp at h ⊢;omega
 have hlo:∀i (hi:i<k),f (X[i]'(by exact xC))≤f Y[0]:=fun i hi=>by have:=hlo i hi;rw[tX2 i (by lia)] at this;simpa using this
 have hhi:∀i (hj:i<X.length),k≤i->f Y[0]<f X[i]:=fun i hj hi=>by have:=hhi i hi hj;rw[tX2 i hj] at this;simpa using this
 dsimp only;by_cases c:(X.length - k==0)=true
 ·rw[As c];have c:X.length≤k:=by
   have:X.length - k=0:=by simpa using c
   omega
  refine Ad (q _ (X++Y) (good _ _ rfl rfl rfl (by rw[Ax];exact ea) (BN _) (AQ.mpr ⟨sX,sY,fun x hx y hy=>?_⟩)) (BN _));obtain⟨i,hi,rfl⟩:=A7 hx;obtain⟨j,hj,rfl⟩:=A7 hy;exact BJ (hlo i (by exact xC)) (rA sY (Bl _) hj)
 rw[Aq c];have c:k<X.length:=by
  have:¬X.length - k=0:=by simpa using c
  lia
 refine Ab (xb (x:=X[X.length - 1]) (by have:=atX (X.length - 1) (by lia);rw[show pre.flatten.length+k+(X.length - k) - 1=pre.flatten.length+(X.length - 1) by lia];exact this) ?_);refine Ab (az O G.kind (okX _ (Ck _)) (by exact pS) tY (fun i hi=>⟨by rw[tY2 i hi];exact atY i hi,by rw[tY2 i hi];exact okY _ (Ck _)⟩) (fun i=>decide (f (tY i)<f X[X.length - 1])) (fun i hi=>by rw[As rfl]) (fun i j hij hj h=>?_) fun m hm1 hlo2 hhi2=>?_)
 ·have:=rA sY hij hj;rw[tY2 j hj] at h;rw[tY2 i (by exact hX)];simp at h ⊢;omega
 have hlo2:∀i (hi:i<m),f (Y[i]'(by exact xC))<f X[X.length - 1]:=fun i hi=>by have:=hlo2 i hi;rw[tY2 i (by lia)] at this;simpa using this
 have hhi2:∀i (hj:i<Y.length),m≤i->f X[X.length - 1]≤f Y[i]:=fun i hj hi=>by have:=hhi2 i hi hj;rw[tY2 i hj] at this;simpa using this
 have m0:0<m:=by
  rcases Nat.eq_zero_or_pos m with h | h
  ·exfalso;have h5:=hhi2 0 lY (by exact o8);have h6:=hhi (X.length - 1) (by exact pS) (by omega);omega
  ·exact h
 dsimp only;rw[Aq (show ¬(m==0)=true by simp;exact ai8)];have lsz:(arrOf st).size=pre.flatten.length+(X.length+(Y.length+(post.flatten++rest).length)):=by rw[<-AM,ea];simp
 have ex:((arrOf st).extract (pre.flatten.length+k) (pre.flatten.length+X.length)).toList=X.drop k:=by rw[fq,ea,<-C5,C6,Di (by lia),Co (by simp;lia),Bg (by simp;lia)]
 have ey:((arrOf st).extract (pre.flatten.length+X.length) (pre.flatten.length+X.length+m)).toList=Y.take m:=by rw[fq,ea,<-C5,C6,C6,show pre.flatten.length+X.length+m - (pre.flatten.length+X.length)=m by lia,Co (by lia)]
 have zx:((arrOf st).extract (pre.flatten.length+k) (pre.flatten.length+X.length)).size=X.length - k:=by rw[<-AM,ex];simp
 have zy:((arrOf st).extract (pre.flatten.length+X.length) (pre.flatten.length+X.length+m)).size=m:=by rw[<-AM,ey];simp;lia
 have q1:∀x∈((arrOf st).extract (pre.flatten.length+k) (pre.flatten.length+X.length)).toList,Ok x:=fun x hx=>okX x (CB (by rw[ex] at hx;exact hx));have q2:∀x∈((arrOf st).extract (pre.flatten.length+X.length) (pre.flatten.length+X.length+m)).toList,Ok x:=fun x hx=>okY x (Bz (by rw[ey] at hx;exact hx));have q3:((arrOf st).extract (pre.flatten.length+k) (pre.flatten.length+X.length)).toList.Pairwise fun x y=>f x≤f y:=by rw[ex];exact sX.sublist (List.drop_sublist _ _)
 have q4:((arrOf st).extract (pre.flatten.length+X.length) (pre.flatten.length+X.length+m)).toList.Pairwise fun x y=>f x≤f y:=by rw[ey];exact sY.sublist (Dy _ _)
 have q5:0<((arrOf st).extract (pre.flatten.length+k) (pre.flatten.length+X.length)).size:=by lia
 have q6:0<((arrOf st).extract (pre.flatten.length+X.length) (pre.flatten.length+X.length+m)).size:=by omega
 have y0:((arrOf st).extract (pre.flatten.length+X.length) (pre.flatten.length+X.length+m))[0]=Y[0]:=by
  have:((arrOf st).extract (pre.flatten.length+X.length) (pre.flatten.length+X.length+m)).toList[0]'(by rw[ey,AW];lia)=Y[0]:=by simp only[ey];simp
  rw[<-this];simp
 have xl:((arrOf st).extract (pre.flatten.length+k) (pre.flatten.length+X.length))[((arrOf st).extract (pre.flatten.length+k) (pre.flatten.length+X.length)).size - 1]=X[X.length - 1]:=by
  have:((arrOf st).extract (pre.flatten.length+k) (pre.flatten.length+X.length)).toList[((arrOf st).extract (pre.flatten.length+k) (pre.flatten.length+X.length)).size - 1]'(by rw[ex,zx,BB];lia)=X[X.length - 1]:=by simp only[ex,zx];rw[B6];congr 1;lia
  rw[<-this];simp
 have q7:∀x∈((arrOf st).extract (pre.flatten.length+k) (pre.flatten.length+X.length)).toList,f ((arrOf st).extract (pre.flatten.length+X.length) (pre.flatten.length+X.length+m))[0]<f x:=fun x hx=>by rw[y0];rw[ex] at hx;obtain⟨i,hi,rfl⟩:=A7 hx;rw[B6];rw[BB] at hi;exact hhi _ (by lia) (by exact A4 _ _)
 have q8:∀x∈((arrOf st).extract (pre.flatten.length+X.length) (pre.flatten.length+X.length+m)).toList,f x<f ((arrOf st).extract (pre.flatten.length+k) (pre.flatten.length+X.length))[((arrOf st).extract (pre.flatten.length+k) (pre.flatten.length+X.length)).size - 1]:=fun x hx=>by rw[xl];rw[ey] at hx;obtain⟨i,hi,rfl⟩:=A7 hx;rw[Bx];rw[AW] at hi;exact hlo2 _ (by lia)
 have xu:∀(r:Array Keyed) (g:Nat),vt f (X.drop k) (Y.take m) r.toList->Q (failedOf st).isNone (SortSt.mk' (kindOf st) (r.toList.zipIdx.foldl (fun a x=>a.setIfInBounds (pre.flatten.length+k+x.2) x.1) (arrOf st)) (((pendingOf st).setIfInBounds pre.length (pre.flatten.length,X.length+Y.length,w1)).eraseIdxIfInBounds (pre.length+1)) g (failedOf st)):=by
  rintro r g ⟨hm,hs⟩;have lr:r.toList.length=X.length - k+m:=by rw[hm.length_eq];simp;lia
  have ef:(failedOf st).isNone=true:=by rw[G.failed];rfl
  have pm:(X.take k++(r.toList++Y.drop m)).Perm (X++Y):=by
   have h1:(r.toList++Y.drop m).Perm (X.drop k++Y):=by refine((Bi (Y.drop m)).mpr hm).trans ?_;rw[Ax,Bj]
   refine((BA (X.take k)).mpr h1).trans ?_;rw[<-Ax,Bj]
  have so:(X.take k++(r.toList++Y.drop m)).Pairwise fun x y=>f x≤f y:=by
   refine AQ.mpr ⟨sX.sublist (Dy _ _),AQ.mpr ⟨hs,sY.sublist (List.drop_sublist _ _),fun x hx y hy=>?_⟩,fun x hx y hy=>?_⟩
   ·obtain⟨j,hj,rfl⟩:=A7 hy;rw[B6];rw[BB] at hj;rcases Ak.mp (hm.mem_iff.mp hx) with h | h
    ·obtain⟨i,hi,rfl⟩:=A7 h;rw[B6];rw[BB] at hi;exact BJ (rA sX (by lia) (by exact pS)) (hhi2 _ (by lia) (by exact A4 _ _))
    ·obtain⟨i,hi,rfl⟩:=A7 h;rw[Bx];rw[AW] at hi;exact rA sY (by lia) (by lia)
   ·obtain⟨i,hi,rfl⟩:=A7 hx;rw[Bx];rw[AW] at hi;have low:∀z∈Y,f (X[i]'(by lia))≤f z:=fun z hz=>by obtain⟨j,hj,rfl⟩:=A7 hz;exact BJ (hlo i (by lia)) (rA sY (Bl _) hj)
    rcases Ak.mp hy with h | h
    ·rcases Ak.mp (hm.mem_iff.mp h) with h | h
     ·obtain⟨j,hj,rfl⟩:=A7 h;rw[B6];rw[BB] at hj;exact rA sX (by lia) (by lia)
     ·exact low y (Bz h)
    ·exact low y (CB h)
  have pt:=kW r.toList (arrOf st) (pre.flatten.length+k) 0 (by rw[lsz,lr,Ac];lia);have et:(arrOf st).toList.take (pre.flatten.length+k+0)++(r.toList++(arrOf st).toList.drop (pre.flatten.length+k+0+r.toList.length))=pre.flatten++((X.take k++(r.toList++Y.drop m))++(post.flatten++rest)):=by
   have h1:(arrOf st).toList.take (pre.flatten.length+k+0)=pre.flatten++X.take k:=by rw[ea,Nat.add_zero,List.take_length_add_append,Co (by lia)]
   have h2:(arrOf st).toList.drop (pre.flatten.length+k+0+r.toList.length)=Y.drop m++(post.flatten++rest):=by rw[ea,lr,show pre.flatten.length+k+0+(X.length - k+m)=pre.flatten.length+(X.length+m) by lia,<-C5,C6,<-C5,C6,Di (by lia)]
   rw[h1,h2];simp
  rw[ef];exact q _ _ (good _ _ rfl rfl rfl (pt.trans et) pm so) pm
 split
 ·exact Ab (yd O G.kind q1 q2 q3 q4 q5 q6 q7 q8 fun r g h=>Ab (wpS_modify (Ab (wpS_get (Ad (xu r g (by rw[ex,ey] at h;exact h)))))))
 ·exact Ab (yy O G.kind q1 q2 q3 q4 q5 q6 q7 q8 fun r g h=>Ab (wpS_modify (Ab (wpS_get (Ad (xu r g (by rw[ex,ey] at h;exact h)))))))
end
theorem rV{arr:Array α}{P R:List α}(h:arr.toList=P++R)(hn:n≤R.length):(mirror arr P.length (P.length+n) ((P.length+n - P.length) / 2)).toList=P++((R.take n).reverse++R.drop n):=by
 have hs:arr.size=P.length+R.length:=by rw[<-AM,h];simp
 refine Dz fun k=>?_;rw[A5,getElem?_mirror_all (by lia)];by_cases c:P.length≤k/\k<P.length+n
 ·rw[As c,<-A5,h,Al (by omega),Al (by lia),Ay (by simp;omega),List.getElem?_reverse (by simp;omega),Dt,AW,As (by omega)];congr 1;lia
 ·rw[Aq c,<-A5,h];by_cases c2:k<P.length
  ·rw[Ay c2,Ay c2]
  ·rw[Al (by exact yr),Al (by omega),Al (by simp;lia),Du];congr 1;simp;lia
theorem sI{arr:Array α}{P R:List α}{k l:Nat}(h:arr.toList=P++R)(hk:k<R.length)(hl:l≤k):(bubble arr (P.length+k) (P.length+k - (P.length+l))).toList=P++(R.take l++R[k]::((R.drop l).take (k - l)++R.drop (k+1))):=by
 have hs:arr.size=P.length+R.length:=by rw[<-AM,h];simp
 refine Dz fun i=>?_;rw[A5,getElem?_bubble (by lia) _ (by exact Ec _ _),show P.length+k - (P.length+k - (P.length+l))=P.length+l by omega];by_cases c1:i=P.length+l
 ·rw[As c1,<-A5,h,c1,Al (by exact A4 _ _),Al (by exact A4 _ _),Al (by simp;lia)];rw[show P.length+l - P.length - (R.take l).length=0 by simp;lia,show P.length+k - P.length=k by lia,List.getElem?_cons_zero];simp[hk]
 ·rw[Aq c1];by_cases c2:P.length+l<i/\i≤P.length+k
  ·rw[As c2,<-A5,h,Al (by omega),Al (by lia),Al (by simp;lia)];obtain⟨d,hd⟩:∃d,i=P.length+l+d+1:=⟨i - P.length - l - 1,by omega⟩;rw[show i - P.length - (R.take l).length=d+1 by simp;lia,CU,Ay (by simp;omega),Dt,As (by omega),Du];congr 1;omega
  ·rw[Aq c2,<-A5,h];by_cases c3:i<P.length
   ·rw[Ay c3,Ay c3]
   ·rw[Al (by exact yr),Al (by omega)];by_cases c4:i<P.length+l
    ·rw[Ay (by simp;lia),Dt,As (by omega)]
    ·obtain⟨d,hd⟩:∃d,i=P.length+k+d+1:=⟨i - P.length - k - 1,by omega⟩;rw[Al (by simp;lia),show i - P.length - (R.take l).length=(k - l)+d+1 by simp;lia,CU,Al (by simp;omega),Du];congr 1;simp;lia
section
variable {w:World}{κ:SortKind}{Ok:Keyed->Prop}{f:Keyed->Int}
structure Tl(κ:SortKind)(Ok:Keyed->Prop)(st:SortSt)(P R:List Keyed):Prop where
 kind:kindOf st=κ
 arr:(arrOf st).toList=P++R
 ok:∀x∈R,Ok x
theorem gt(O:zB prog w A s κ Ok f){st:SortSt}{P R:List Keyed}(T:Tl κ Ok st P R)(hi:i<R.length)(hj:j<R.length){a b:Nat}(ea:a=P.length+i)(eb:b=P.length+j){Q:Option Bool->SortSt->Prop}(q:Q (some (decide (f R[i]<f R[j]))) st):wpS (model prog w) A E s (ltAt' a b) Q st:=by
 have at_:∀i (hi:i<R.length),(arrOf st)[P.length+i]?=some R[i]:=fun i hi=>by rw[<-A5,T.arr,Al (by exact A4 _ _),Cj];simp
 subst ea eb;rw[ltAt'_eq];refine Ab (wpS_get ?_);refine Ab (xb (at_ i hi) (Ab (xb (at_ j hj) ?_)));exact w_lt O T.kind (T.ok _ (Ck _)) (T.ok _ (Ck _)) q
def Up(f:Keyed->Int)(R:List Keyed)(n:Nat):Prop:=∀i j (_:i≤j) (_:j<R.length),j<n->f (R[i]'(by exact hX))≤f R[j]
theorem Up.snoc{R:List Keyed}(h:Up f R n)(h1:1≤n)(hn:n<R.length)(hs:f (R[n - 1]'(by exact mJ))≤f R[n]):Up f R (n+1):=fun i j hij hj hjn=>by
 rcases DO j n with c | c
 ·exact h i j hij hj c
 ·have e:j=n:=by lia
  subst e;rcases DO i j with c2 | c2
  ·exact BJ (h i (j - 1) (by omega) (by exact mJ) (by exact pS)) hs
  ·have e:i=j:=by lia
   subst e;exact CW _
theorem Up.pair{R:List Keyed}(h:Up f R n)(hn:n≤R.length):(R.take n).Pairwise fun x y=>f x≤f y:=by rw[B3];intro i j hi hj hij;rw[AW] at hi hj;rw[Bx,Bx];exact h i j (by exact gB) (by lia) (by lia)
end
section
variable {w:World}{κ:SortKind}{Ok:Keyed->Prop}{f:Keyed->Int}
theorem Tl.same{st:SortSt}{P R R':List Keyed}(T:Tl κ Ok st P R)(p:R'.Perm R){arr:Array Keyed}(h:arr.toList=P++R'):Tl κ Ok (setArr st arr) P R':=⟨T.kind,h,fun x hx=>T.ok x (p.mem_iff.mp hx)⟩
theorem Up.one{R:List Keyed}:Up f R 1:=fun i j hij hj h=>by
 have:i=j:=by lia
 subst this;exact CW _
theorem af8(O:zB prog w A s κ Ok f){st:SortSt}{P R:List Keyed}(T:Tl κ Ok st P R)(h1:1≤R.length)(inj:∀i j (_:i<j) (_:j<R.length),f (R[i]'(by exact hG))≠f R[j]){Q:Option Nat->SortSt->Prop}
 (q:∀n R' arr,1≤n->n≤R.length->R'.Perm R->arr.toList=P++R'->Up f R' n->Q (some n) (setArr st arr)):wpS (model prog w) A E s (countRun' P.length R.length) Q st:=by
 have hst:setArr st (arrOf st)=st:=rfl;refine Ab (AS (AJ (I:=fun x c st'=>st'=st/\c=(none,x)/\Up f R x)
  (Q:=fun c st'=>st'=st/\∃n,c=(none,n)/\1≤n/\n≤R.length/\Up f R n/\(n=R.length\/∃h:n<R.length,f R[n]<f (R[n - 1]'(by exact mJ)))) ?_ ?_ ⟨rfl,rfl,Up.one⟩) ?_)
 ·rintro x c st' hx1 hx ⟨rfl,rfl,U⟩;dsimp only;refine Ab (gt O T (i:=x) (j:=x - 1) hx (by exact mJ) rfl (by lia) ?_);dsimp only;by_cases c:f R[x]<f (R[x - 1]'(by omega))
  ·rw[AB c,As rfl];exact Ad ⟨rfl,x,rfl,hx1,by exact gB,U,.inr ⟨hx,c⟩⟩
  ·rw[AA c,Aq (by simp)];exact Ad ⟨rfl,rfl,U.snoc hx1 hx (by omega)⟩
 ·rintro c st' ⟨rfl,rfl,U⟩;exact⟨rfl,_,rfl,by lia,by lia,by rw[Dg h1] at *;exact U,.inl (by lia)⟩
 ·rintro c st' ⟨rfl,n,rfl,hn1,hn2,U,hend⟩;dsimp only;by_cases c1:(n==R.length)=true
  ·rw[As c1];exact Ad (q n R (arrOf st') hn1 hn2 (BN _) T.arr U)
  rw[Aq c1];have c1:¬n=R.length:=by simpa using c1
  have hnl:n<R.length:=by exact xQ
  by_cases c2:n > 1
  ·rw[As c2];refine Ab (gt O T (i:=0) (j:=n - 1) (by assumption) (by exact mJ) rfl (by omega) ?_);have:f R[0]<f (R[n - 1]'(by omega)):=by have h3:=U 0 (n - 1) (by exact CP _ _) (by omega) (by exact pS);have h4:=inj 0 (n - 1) (by omega) (by exact mJ);omega
   dsimp only;rw[AB this,As rfl];exact Ad (q n R (arrOf st') hn1 hn2 (BN _) T.arr U)
  rw[Aq c2];obtain rfl:n=1:=by lia
  refine Ab (wpS_lift (Bt ⟨rfl,?_⟩));have hd:f R[1]<f R[0]:=by
   rcases hend with h | ⟨h,h'⟩
   ·omega
   ·exact h'
  refine Ab (AS (AJ (I:=fun x c st''=>st''=st'/\c=(none,x,0)/\∀i j (_:i≤j) (_:j<R.length),j<x->f R[j]≤f (R[i]'(by exact hX)))
   (Q:=fun c st''=>st''=st'/\∃n,c=(none,n,0)/\2≤n/\n≤R.length/\∀i j (_:i≤j) (_:j<R.length),j<n->f R[j]≤f (R[i]'(by omega))) ?_ ?_ ⟨rfl,rfl,?_⟩) ?_)
  ·rintro x c st'' hx1 hx ⟨rfl,rfl,D⟩;dsimp only;refine Ab (gt O T (i:=x) (j:=x - 1) hx (by exact mJ) rfl (by lia) ?_);dsimp only;by_cases c:f R[x]<f (R[x - 1]'(by omega))
   ·rw[AB c,As rfl,Aq (by simp)];refine Ad ⟨rfl,rfl,fun i j hij hj hjx=>?_⟩;rcases DO j x with h | h
    ·exact D i j hij hj h
    ·have e:j=x:=by lia
     subst e;rcases DO i j with h2 | h2
     ·exact BJ (BM c) (D i (j - 1) (by omega) (by exact mJ) (by omega))
     ·have e:i=j:=by lia
      subst e;exact CW _
   ·rw[AA c,Aq (by simp)];refine Ab (gt O T (i:=x - 1) (j:=x) (by omega) hx (by lia) rfl ?_);have h4:=inj (x - 1) x (by omega) hx;have:f (R[x - 1]'(by omega))<f R[x]:=by lia
    dsimp only;rw[AB this,As rfl];exact Ad ⟨rfl,x,rfl,by omega,by exact gB,D⟩
  ·rintro c st'' ⟨rfl,rfl,D⟩;exact⟨rfl,_,rfl,by lia,by lia,D⟩
  ·intro i j hij hj hjx;have:j=0\/j=1:=by lia
   rcases this with rfl | rfl
   ·have:i=0:=by lia
    subst this;exact CW _
   ·have:i=0\/i=1:=by lia
    rcases this with rfl | rfl
    ·exact BM hd
    ·exact CW _
  ·rintro c st'' ⟨rfl,n,rfl,g1,g2,D⟩;dsimp only;rw[Aq (by simp)];have T':=T.same (R':=(R.take n).reverse++R.drop n) (((Bi _).mpr (List.reverse_perm _)).trans (by rw[Bj])) (rV T.arr g2);obtain⟨R',eR⟩:∃R',R'=(R.take n).reverse++R.drop n:=⟨_,rfl⟩;have pR:R'.Perm R:=by rw[eR];exact((Bi _).mpr (List.reverse_perm _)).trans (by rw[Bj])
   have lR:R'.length=R.length:=pR.length_eq;have U':Up f R' n:=fun i j hij hj hjn=>by
    subst eR;rw[DF (by simp;lia),DF (by simp;lia),List.getElem_reverse,List.getElem_reverse,Bx,Bx];refine D _ _ ?_ (by simp;omega) ?_
    ·simp;omega
    ·simp;omega
   rw[<-eR] at T';refine Ab (wpS_modify ?_);refine Ab (AS (AJ (I:=fun x c sx=>sx=setArr st'' (mirror (arrOf st'') P.length (P.length+n) ((P.length+n - P.length) / 2))/\c=(none,x)/\Up f R' x)
    (Q:=fun c sx=>sx=setArr st'' (mirror (arrOf st'') P.length (P.length+n) ((P.length+n - P.length) / 2))/\∃n,c=(none,n)/\1≤n/\n≤R.length/\Up f R' n) ?_ ?_ ⟨rfl,rfl,U'⟩) ?_)
   ·rintro x c sx hx1 hx ⟨rfl,rfl,U⟩;dsimp only;refine Ab (gt O T' (i:=x) (j:=x - 1) (by lia) (by omega) rfl (by lia) ?_);dsimp only;by_cases c:f (R'[x]'(by omega))<f (R'[x - 1]'(by omega))
    ·rw[AB c,As rfl];exact Ad ⟨rfl,x,rfl,by exact ahy,by exact gB,U⟩
    ·rw[AA c,Aq (by simp)];exact Ad ⟨rfl,rfl,U.snoc (by omega) (by lia) (by omega)⟩
   ·rintro c sx ⟨rfl,rfl,U⟩;exact⟨rfl,_,rfl,by lia,by lia,U⟩
   ·rintro c sx ⟨rfl,n,rfl,k1,k2,U⟩;exact Ad (q n R' _ k1 k2 pR T'.arr U)
end
section
variable {w:World}{κ:SortKind}{Ok:Keyed->Prop}{f:Keyed->Int}
theorem Up.of{R:List Keyed}(h:(R.take n).Pairwise fun x y=>f x≤f y):Up f R n:=fun i j hij hj hjn=>by have:=rA h (i:=i) (j:=j) hij (by simp;lia);rw[Bx,Bx] at this;exact this
theorem aaf{R:List Keyed}{k l:Nat}(hk:k<R.length)(hl:l≤k):(R.take l++R[k]::((R.drop l).take (k - l)++R.drop (k+1))).Perm R:=by
 have e:R=R.take l++((R.drop l).take (k - l)++(R[k]::R.drop (k+1))):=by rw[<-Ax,ae3 _ hl,<-BP hk,Bj]
 refine List.Perm.trans ?_ (List.Perm.of_eq e.symm);exact(BA _).mpr BX.symm
theorem ahb{R:List Keyed}{k l:Nat}(hk:k<R.length)(hl:l≤k)(U:Up f R k)(lo:∀i (_:i<l),f (R[i]'(by lia))≤f R[k])(hi:∀i (_:i<k),l≤i->f R[k]≤f (R[i]'(by exact hG))):
 Up f (R.take l++R[k]::((R.drop l).take (k - l)++R.drop (k+1))) (k+1):=by
 apply Up.of;have e:R.take l++R[k]::((R.drop l).take (k - l)++R.drop (k+1))=(R.take l++R[k]::(R.drop l).take (k - l))++R.drop (k+1):=by simp
 rw[e,List.take_left' (by simp;lia)];have ab:=U.pair (BU hk);rw[<-ae3 R hl] at ab;have ab:=AQ.mp ab;have hB:∀y∈(R.drop l).take (k - l),f R[k]≤f y:=fun y hy=>by obtain⟨j,hj,rfl⟩:=A7 hy;rw[AW,BB] at hj;rw[Bx,B6];exact hi (l+j) (by lia) (by exact A4 _ _)
 have hA:∀x∈R.take l,f x≤f R[k]:=fun x hx=>by obtain⟨j,hj,rfl⟩:=A7 hx;rw[AW] at hj;rw[Bx];exact lo j (by lia)
 refine AQ.mpr ⟨ab.1,List.pairwise_cons.mpr ⟨hB,ab.2.1⟩,fun x hx y hy=>?_⟩;rcases Ar.mp hy with rfl | hy
 ·exact hA x hx
 ·exact ab.2.2 x hx y hy
theorem am9(O:zB prog w A s κ Ok f){st:SortSt}{P R:List Keyed}(T:Tl κ Ok st P R){ok:Nat}(hn:n≤R.length)(h1:1≤ok)(ho:ok≤n)(U:Up f R ok){Q:Bool->SortSt->Prop}
 (q:∀R' arr,R'.Perm R->arr.toList=P++R'->Up f R' n->Q true (setArr st arr)):wpS (model prog w) A E s (binarySort' P.length n ok) Q st:=by
 have hst:setArr st (arrOf st)=st:=rfl;refine Ab (AS (AJ (I:=fun x c st'=>c=(none,())/\∃R' arr,st'=setArr st arr/\R'.Perm R/\arr.toList=P++R'/\Up f R' x)
  (Q:=fun c st'=>c=(none,())/\∃R' arr,st'=setArr st arr/\R'.Perm R/\arr.toList=P++R'/\Up f R' n) ?_ ?_ ⟨rfl,R,arrOf st,rfl,BN _,T.arr,by rw[Dm h1];exact U⟩) ?_)
 ·rintro x c st' hx1 hx ⟨rfl,R',arr,rfl,pR,eA,U'⟩;have T':=T.same pR eA;have lR:R'.length=R.length:=pR.length_eq;have hxl:x<R'.length:=by lia
  dsimp only;refine Ab (AS (AJ (I:=fun y c st'=>st'=setArr st arr/\∃l r,c=(none,l,r)/\l≤r/\r≤x/\r - l+y≤x/\(∀i (_:i<l) (_:i<R'.length),f R'[i]≤f R'[x])/\(∀i (_:i<x),r≤i->f R'[x]≤f (R'[i]'(by exact hG))))
   (Q:=fun c st'=>st'=setArr st arr/\∃l,c=(none,l,l)/\l≤x/\(∀i (_:i<l) (_:i<R'.length),f R'[i]≤f R'[x])/\(∀i (_:i<x),l≤i->f R'[x]≤f (R'[i]'(by lia)))) ?_ ?_ ⟨rfl,0,x,rfl,Bl _,Am _,by exact Ec _ _,fun i h=>by lia,fun i h h'=>by omega⟩) ?_)
  ·rintro y c st' _ hy ⟨rfl,l,r,rfl,g1,g2,g3,g4,g5⟩;dsimp only;by_cases c:l≥r
   ·rw[As c];obtain rfl:l=r:=by lia
    exact Ad ⟨rfl,l,rfl,g2,g4,g5⟩
   ·rw[Aq c];refine Ab (gt O T' (i:=x) (j:=(l+r) / 2) hxl (by lia) rfl rfl ?_);dsimp only;by_cases e:f R'[x]<f (R'[(l+r) / 2]'(by lia))
    ·rw[AB e,As rfl];refine Ad ⟨rfl,l,(l+r) / 2,rfl,by lia,by lia,by omega,g4,fun i h h'=>?_⟩;exact BJ (BM e) (U' _ _ h' (by exact hG) h)
    ·rw[AA e,Aq (by simp)];refine Ad ⟨rfl,(l+r) / 2+1,r,rfl,by lia,g2,by omega,fun i h h'=>?_,g5⟩;exact BJ (U' i ((l+r) / 2) (by exact am2) (by lia) (by lia)) (by omega)
  ·rintro c st' ⟨rfl,l,r,rfl,g1,g2,g3,g4,g5⟩;obtain rfl:l=r:=by lia
   exact⟨rfl,l,rfl,g2,g4,g5⟩
  ·rintro c st' ⟨rfl,l,rfl,g2,g4,g5⟩;dsimp only;refine Ab (wpS_modify ?_);exact Ad ⟨rfl,_,_,rfl,(aaf hxl g2).trans pR,sI eA hxl g2,ahb hxl g2 U' (fun i h=>g4 i h (by lia)) g5⟩
 ·rintro c st' ⟨rfl,R',arr,rfl,pR,eA,U'⟩;exact⟨rfl,R',arr,rfl,pR,eA,by rw[Dm h1,Dg ho] at U';exact U'⟩
 ·rintro c st' ⟨rfl,R',arr,rfl,pR,eA,U'⟩;exact Ad (q R' arr pR eA U')
end
section
variable {w:World}{κ:SortKind}{Ok:Keyed->Prop}{f:Keyed->Int}
theorem al.len:∀{ps:List (Nat×Nat×Nat)} {jb:List (List Keyed)} {s:Nat},al f ps jb s->ps.length=jb.length/\jb.length≤jb.flatten.length
 |[],[],_,_=>⟨rfl,Am _⟩
 |_::_,[],_,h=>h.elim
 |[],_::_,_,h=>h.elim
 |(_,_,_)::ps,l::ls,s,h=>by obtain⟨_,_,h3,_,k⟩:=h;have:=al.len k;rw[AD,AD,CA,Ac];lia
theorem al.repow{w:Nat}:∀{ps:List (Nat×Nat×Nat)} {jb:List (List Keyed)} {s:Nat} (i:Nat),al f ps jb s->al f (ps.modify i fun p=>(p.1,p.2.1,w)) jb s
 |[],[],_,i,_=>by simp[al]
 |_::_,[],_,_,h=>h.elim
 |[],_::_,_,_,h=>h.elim
 |(_,_,_)::ps,l::ls,s,0,h=>h
 |(_,_,_)::ps,l::ls,s,i+1,h=>by obtain⟨h1,h2,h3,h4,k⟩:=h;exact⟨h1,h2,h3,h4,al.repow i k⟩
theorem al.snoc{l:List Keyed}(hl:0<l.length)(hs:l.Pairwise fun x y=>f x≤f y):∀{ps:List (Nat×Nat×Nat)} {jb:List (List Keyed)} {s:Nat},al f ps jb s->∀{m:Nat},m=s+jb.flatten.length->al f (ps++[(m,l.length,0)]) (jb++[l]) s
 |[],[],_,_,m,e=>⟨by simpa using e,rfl,hl,hs,trivial⟩
 |_::_,[],_,h,_,_=>h.elim
 |[],_::_,_,h,_,_=>h.elim
 |(_,_,_)::ps,l'::ls,s,h,m,e=>by obtain⟨h1,h2,h3,h4,k⟩:=h;exact⟨h1,h2,h3,h4,al.snoc hl hs k (by rw[e];simp;simp +arith only)⟩
theorem ahm{l:List α}(h:i+1<l.length):l=l.take i++l[i]::l[i+1]::l.drop (i+2):=by rw[<-BP h,<-BP (by omega),Bj]
theorem qN(O:zB prog w A s κ Ok f){st:SortSt}{jb:List (List Keyed)}{rest:List Keyed}{Q:Bool->SortSt->Prop}(G:a8 κ Ok f st jb rest)(hi:i+1<jb.length)
 (q:∀st' segs',a8 κ Ok f st' segs' rest->segs'.flatten.Perm jb.flatten->segs'.length+1=jb.length->Q true st'):wpS (model prog w) A E s (mergeAt' i) Q st:=by
 have e:=ahm hi;have li:(jb.take i).length=i:=by simp;lia
 rw[e] at G;have pf:∀C:List Keyed,C.Perm (jb[i]++jb[i+1])->(jb.take i++C::jb.drop (i+2)).flatten.Perm jb.flatten:=fun C pC=>by have e2:jb.flatten=(jb.take i++jb[i]::jb[i+1]::jb.drop (i+2)).flatten:=BG List.flatten e;rw[e2,CK,CK,CA,CA,CA];refine(BA _).mpr ?_;rw[<-Ax];exact(Bi _).mpr pC
 have:=yi O (E:=E) (Q:=Q) G fun st' C G' pC=>q st' _ G' (pf C pC) (by simp;lia);rw[li] at this;exact this
theorem a8.push{st:SortSt}{jb:List (List Keyed)}{rest:List Keyed}(G:a8 κ Ok f st jb rest)(hn:n≤rest.length)(h1:1≤n)(U:Up f rest n):a8 κ Ok f (setPending st ((pendingOf st).push (jb.flatten.length,n,0))) (jb++[rest.take n]) (rest.drop n):=by
 refine⟨G.kind,G.failed,?_,?_,G.ok⟩
 ·have:=G.arr;show(arrOf st).toList=_;rw[this,CK,Ax];simp
 ·show al f ((pendingOf st).push _).toList _ 0;rw[Cz];have:=al.snoc (l:=rest.take n) (by simp;lia) (U.pair hn) G.pend (m:=jb.flatten.length) (by simp +arith only);rw[show(rest.take n).length=n by simp;lia] at this;exact this
theorem a8.repow{st:SortSt}{jb:List (List Keyed)}{rest:List Keyed}{w:Nat}(G:a8 κ Ok f st jb rest):a8 κ Ok f (setPending st ((pendingOf st).modify i fun p=>(p.1,p.2.1,w))) jb rest:=by refine⟨G.kind,G.failed,G.arr,?_,G.ok⟩;show al f ((pendingOf st).modify i fun p=>(p.1,p.2.1,w)).toList _ 0;rw[Array.toList_modify];exact G.pend.repow i
theorem a8.set{st:SortSt}{jb:List (List Keyed)}{rest R:List Keyed}{arr:Array Keyed}(G:a8 κ Ok f st jb rest)(p:R.Perm rest)(e:arr.toList=jb.flatten++R):a8 κ Ok f (setArr st arr) jb R:=
 ⟨G.kind,G.failed,e,G.pend,fun x hx=>G.ok x (by
  have hx:x∈arr.toList:=hx;rw[e] at hx;rw[G.arr];rcases Ak.mp hx with h | h
  ·exact Ap _ h
  ·exact Ag _ (p.mem_iff.mp h))⟩
theorem aab(O:zB prog w A s κ Ok f){st:SortSt}{Q:Unit->SortSt->Prop}(hk:kindOf st=κ)(hp:pendingOf st=#[])(hf:failedOf st=none)(ok:∀x∈(arrOf st).toList,Ok x)(inj:((arrOf st).toList.map f).Nodup)
 (q:∀st',failedOf st'=none->(arrOf st').toList.Perm (arrOf st).toList->((arrOf st').toList.Pairwise fun x y=>f x≤f y)->Q () st'):wpS (model prog w) A E s sortRuns' Q st:=by
 refine Ab (wpS_get ?_);dsimp only;have G0:a8 κ Ok f st [] (arrOf st).toList:=⟨hk,hf,rfl,by rw[hp];trivial,ok⟩;obtain⟨N,eN⟩:∃N,N=(arrOf st).size:=⟨_,rfl⟩;rw[<-eN];generalize hmr:(sortPriv% PySem.Builtin.minRun) N N 0=mr;refine Ab (AS (AJ (I:=fun x c st'=>∃jb rest lo,c=(none,lo)/\a8 κ Ok f st' jb rest/\lo=jb.flatten.length/\(jb.flatten++rest).Perm (arrOf st).toList/\x≤lo)
  (Q:=fun c st'=>∃jb lo,c=(none,lo)/\a8 κ Ok f st' jb []/\jb.flatten.Perm (arrOf st).toList) ?_ ?_ ⟨[],(arrOf st).toList,0,rfl,G0,rfl,BN _,Am _⟩) ?_)
 ·rintro x c st' _ hx ⟨jb,rest,lo,rfl,G,elo,pm,hxl⟩;dsimp only;have lt:jb.flatten.length+rest.length=N:=by have h1:=pm.length_eq;have h2:(arrOf st).toList.length=(arrOf st).size:=AM;rw[Ac] at h1;lia
  by_cases c:lo≥N
  ·rw[As c];have:rest=[]:=Dj (by lia);subst this;exact Ad ⟨jb,lo,rfl,G,by simpa using pm⟩
  rw[Aq c];subst elo;have er:N - jb.flatten.length=rest.length:=by lia
  rw[er];have T:Tl κ Ok st' jb.flatten rest:=⟨G.kind,G.arr,fun x hx=>G.ok x (by rw[G.arr];exact Ag _ hx)⟩;have nd:(rest.map f).Nodup:=by have h2:=(pm.map f).nodup_iff.mpr inj;rw[AC,AK] at h2;exact h2.2.1
  have inj':∀i j (_:i<j) (_:j<rest.length),f (rest[i]'(by exact hG))≠f rest[j]:=fun i j hij hj e=>by have h2:=B3.mp nd i j (by simp;exact hG) (by simpa using hj) hij;simp at h2;exact h2 e
  refine Ab (af8 O T (by lia) inj' fun n R1 arr1 g1 g2 pR1 eA1 U1=>?_);dsimp only;have T1:=T.same pR1 eA1;have G1:=G.set pR1 eA1;have l1:R1.length=rest.length:=pR1.length_eq;by_cases cm:n<mr
  case' pos=>
   rw[As cm];refine Ab (wpS_lift (Bt ⟨rfl,?_⟩));refine Ab (am9 O T1 (by lia) g1 (by lia) U1 fun R2 arr2 pR2 eA2 U2=>?_);rw[Aq (by simp)];have G2:=G1.set pR2 eA2;obtain⟨n2,en2⟩:∃n2,n2=min rest.length mr:=⟨_,rfl⟩;rw[<-en2] at U2 ⊢;have p2:R2.Perm rest:=pR2.trans pR1;have k1:1≤n2:=by lia
   have k2:n2≤rest.length:=by lia
   obtain⟨st2,es2⟩:∃st2,st2=setArr (setArr st' arr1) arr2:=⟨_,rfl⟩;rw[<-es2] at G2 ⊢
  case' neg=>
   rw[Aq cm];have G2:=G1;obtain⟨n2,en2⟩:∃n2,n2=n:=⟨_,rfl⟩;obtain⟨R2,eR2⟩:∃R2,R2=R1:=⟨_,rfl⟩;rw[<-en2] at U1 ⊢;rw[<-eR2] at G2;have U2:Up f R2 n2:=by rw[eR2];exact U1
   have p2:R2.Perm rest:=by rw[eR2];exact pR1
   have k1:1≤n2:=by lia
   have k2:n2≤rest.length:=by lia
   obtain⟨st2,es2⟩:∃st2,st2=setArr st' arr1:=⟨_,rfl⟩;rw[<-es2] at G2 ⊢
  all_goals
   have l2:R2.length=rest.length:=p2.length_eq;have xu:∀(st3:SortSt) (segs3:List (List Keyed)),a8 κ Ok f st3 segs3 R2->segs3.flatten.Perm jb.flatten->∃segs' rest' lo',((none,jb.flatten.length+n2):Option Unit×Nat)=(none,lo')/\a8 κ Ok f (setPending st3 ((pendingOf st3).push (jb.flatten.length,n2,0))) segs' rest'/\lo'=segs'.flatten.length/\(segs'.flatten++rest').Perm (arrOf st).toList/\x+1≤lo':=fun st3 segs3 G3 p3=>by
    have G4:=G3.push (by lia) k1 U2;rw[p3.length_eq] at G4;refine⟨_,_,_,rfl,G4,?_,?_,by exact alj⟩
    ·rw[CK,Ac,p3.length_eq];simp;lia
    ·have:(segs3++[R2.take n2]).flatten++R2.drop n2=segs3.flatten++R2:=by simp
     rw[this];exact((Bi R2).mpr p3).trans (((BA _).mpr p2).trans pm)
   refine Ab (wpS_get ?_);split
   ·refine Ab (AS (AJ (I:=fun y c st3=>c=(none,())/\∃segs3,a8 κ Ok f st3 segs3 R2/\segs3.flatten.Perm jb.flatten)
     (Q:=fun c st3=>c=(none,())/\∃segs3,a8 κ Ok f st3 segs3 R2/\segs3.flatten.Perm jb.flatten) ?_ ?_ ⟨rfl,jb,G2,BN _⟩) ?_)
    ·rintro y c st3 _ hy ⟨rfl,segs3,G3,p3⟩;have pl:=G3.pend.len.1;have pl2:(pendingOf st3).size=segs3.length:=by rw[<-pl,AM]
     refine Ab (wpS_get ?_);by_cases cs:(pendingOf st3).size > 1
     ·rw[As cs];split
      ·split
       ·exact Ad ⟨rfl,segs3,G3,p3⟩
       ·refine Ab (qN O G3 (by show(pendingOf st3).size - 2+1<segs3.length;lia) fun st4 segs4 G4 p4 l4=>?_);rw[Aq (by simp)];exact Ad ⟨rfl,segs4,G4,p4.trans p3⟩
      ·exact Ad ⟨rfl,segs3,G3,p3⟩
     ·rw[Aq cs];exact Ad ⟨rfl,segs3,G3,p3⟩
    ·rintro c st3 h;exact h
    ·rintro c st3 ⟨rfl,segs3,G3,p3⟩;dsimp only;refine Ab (wpS_modify (Ab (wpS_modify (Ad ?_))));exact xu _ segs3 G3.repow p3
   ·exact Ab (wpS_modify (Ad (xu st2 jb G2 (BN _))))
 ·rintro c st' ⟨jb,rest,lo,rfl,G,elo,pm,hxl⟩;have lt:jb.flatten.length+rest.length=N:=by have h1:=pm.length_eq;have h2:(arrOf st).toList.length=(arrOf st).size:=AM;rw[Ac] at h1;lia
  have:rest=[]:=Dj (by lia);subst this;exact⟨jb,lo,rfl,G,by simpa using pm⟩
 ·rintro c st' ⟨jb,lo,rfl,G,pm⟩;dsimp only;have ls:jb.length≤N:=by have h1:=G.pend.len.2;have h3:=pm.length_eq;have h2:(arrOf st).toList.length=(arrOf st).size:=AM;lia
  refine Ab (AS (AJ (I:=fun y c st3=>c=(none,())/\∃segs3,a8 κ Ok f st3 segs3 []/\segs3.flatten.Perm (arrOf st).toList/\segs3.length+y≤N)
   (Q:=fun c st3=>c=(none,())/\∃segs3,a8 κ Ok f st3 segs3 []/\segs3.flatten.Perm (arrOf st).toList/\segs3.length≤1) ?_ ?_ ⟨rfl,jb,G,pm,by omega⟩) ?_)
  ·rintro y c st3 _ hy ⟨rfl,segs3,G3,p3,h3⟩;have pl:=G3.pend.len.1;have pl2:(pendingOf st3).size=segs3.length:=by rw[<-pl,AM]
   refine Ab (wpS_get ?_);by_cases cs:(pendingOf st3).size≤1
   ·rw[As cs];exact Ad ⟨rfl,segs3,G3,p3,by lia⟩
   ·rw[Aq cs];refine Ab (qN O G3 ?_ fun st4 segs4 G4 p4 l4=>?_)
    ·have gen:∀b:Bool,(if b=true then(pendingOf st3).size - 2 - 1 else(pendingOf st3).size - 2)+1<segs3.length:=fun b=>by cases b with|true=>rw[As rfl];omega|false=>rw[Aq (by simp)];lia
     exact gen _
    ·rw[Aq (by simp)];exact Ad ⟨rfl,segs4,G4,p4.trans p3,by lia⟩
  ·rintro c st3 ⟨rfl,segs3,G3,p3,h3⟩;exact⟨rfl,segs3,G3,p3,by lia⟩
  ·rintro c st3 ⟨rfl,segs3,G3,p3,h3⟩;refine Ad (q st3 G3.failed ?_ ?_)
   ·rw[G3.arr,AZ];exact p3
   ·rw[G3.arr,AZ]
    match segs3,h3,G3.pend with
    |[],_,_=>simp
    |[l],_,h=>
     rw[CA,List.flatten_nil,AZ];cases hps:(pendingOf st3).toList with
     |nil=>rw[hps] at h;exact h.elim
     |cons p ps=>
      rw[hps] at h;obtain⟨p1,p2,p3⟩:=p;exact h.2.2.2.1
end
open PySem PyProof.Rows PySem.W
def an0(h:Heap)(B:Int)(x:Keyed):Prop:=∃a o n r p t u,x.1=.ref a/\h.get? a=some o/\o.data=.seq #[.int r t,.int p u] n/\0≤p/\p<B
noncomputable def num(h:Heap)(B:Int)(x:Keyed):Int:=match x.1 with
 |.ref a=>match h.get? a with
  |some o=>match o.data with
   |.seq xs _=>match xs.toList with
    |[.int r _,.int p _]=>r*B+p
    |_=>0
   |_=>0
  |none=>0
 |_=>0
theorem num_of{x:Keyed}{a:Addr}{o:Obj}{r p:Int}{t u:Tok}(e1:x.1=.ref a)(e2:h.get? a=some o)(e3:o.data=.seq #[.int r t,.int p u] n):num h B x=r*B+p:=by unfold num;simp[e1,e2,e3]
theorem rG{w:World} :zB prog w A s (tuples' true) (an0 s.heap B) (num s.heap B):=by
 constructor;rintro x y ⟨a1,o1,n1,r1,p1,t1,u1,e1,g1,d1,b1,c1⟩ ⟨a2,o2,n2,r2,p2,t2,u2,e2,g2,d2,b2,c2⟩ E Q h;rw[num_of e1 g1 d1,num_of e2 g2 d2] at h;rw[e1,e2];refine kat_lt g1 d1 g2 d2 ?_;show KatLex prog w A true _ Q [(.int r1 t1,.int r2 t2),(.int p1 u1,.int p2 u2)] 0 s;refine kat_cons (wpAny_eqBool_int ?_);by_cases c:r1=r2
 ·subst c;rw[beq_self_eq_true];refine kat_yes (kat_cons (wpAny_eqBool_int ?_));by_cases c':p1=p2
  ·subst c';rw[beq_self_eq_true];refine kat_yes (kat_nil ?_);have e:decide (r1*B+p1<r1*B+p1)=false:=AA (by lia);rw[e] at h;exact h
  ·rw[DQ c'];refine kat_no (kat_one _ _ (PyProof.Rows.lt_int ?_));have e:decide (r1*B+p1<r1*B+p2)=decide (p1<p2):=by
    by_cases z:p1<p2
    ·rw[AB z];exact AB (by lia)
    ·rw[AA z];exact AA (by lia)
   rw[e] at h;exact h
 ·rw[DQ c];refine kat_no (oneLt_int ?_);have e:decide (r1*B+p1<r2*B+p2)=decide (r1<r2):=by
   by_cases z:r1<r2
   ·rw[AB z];have h5:(r1+1)*B≤r2*B:=Cm (by assumption) (by lia);rw[Int.add_mul,Int.one_mul] at h5;exact AB (by omega)
   ·rw[AA z];have h5:(r2+1)*B≤r1*B:=Cm (by lia) (by lia);rw[Int.add_mul,Int.one_mul] at h5;exact AA (by lia)
  rw[e] at h;exact h
section
variable {w:World} 
def cz(h:Heap)(B:Int)(v:Value):Prop:=∃a o n r p t u,v=.ref a/\h.get? a=some o/\o.cls=.type "tuple" /\ o.data=.seq #[.int r t,.int p u] n/\0≤p/\p<B
theorem cz.pair{x:Keyed}(k:cz h B x.1):an0 h B x:=by obtain⟨a,o,n,r,p,t,u,e1,e2,_,e3,e4,e5⟩:=k;exact⟨a,o,n,r,p,t,u,e1,e2,e3,e4,e5⟩
theorem tups{h:Heap}{B:Int}:∀{ks:List Value},(∀v∈ks,cz h B v)->∃fs,KatTups h ks fs/\fs.length=ks.length/\∀v∈fs,∃r t,v=Value.int r t
 |[],_=>⟨[],trivial,rfl,fun v hv=>by simp at hv⟩
 |k::ks,hk=>by
  obtain⟨fs,h1,h2,h3⟩:=tups (ks:=ks) fun v hv=>hk v (Ah _ hv);obtain⟨a,o,n,r,p,t,u,rfl,e2,e3,e4,_,_⟩:=hk k (An ..);refine⟨.int r t::fs,KatTups.cons e2 e3 e4 rfl h1,by simp[h2],fun v hv=>?_⟩;rcases Ar.mp hv with rfl | hv
  ·exact⟨r,t,rfl⟩
  ·exact h3 v hv
theorem zO{ks:List Value}{Q:SortKind->Shared->Prop}(hk:∀v∈ks,cz s.heap B v)(h0:0<ks.length)(q:Q (tuples' true) s):wpAny (model prog w) A (keyKind' ks.toArray) Q E s:=by
 obtain⟨fs,h1,h2,h3⟩:=tups hk;refine kat_kind (T:=.type "int") h1 (by lia) (fun v hv=>?_) (by decide) ?_
 ·obtain⟨r,t,rfl⟩:=h3 v hv;exact .now
 ·exact q
theorem rg{R:α->α->Prop}:∀{l:List α},l.length<2->l.Pairwise R
 |[],_=>List.Pairwise.nil
 |[_],_=>List.pairwise_singleton _ _
 |_::_::_,h=>absurd h (by simp)
theorem alm{a kS:Addr}{ks:List Value}{e e1:Nat}{P:PySem.Fin->Shared->Prop}(hkS:s.heap.get? kS=some (seqObj "list" ks.toArray e))(ha:s.heap.get? a=some (seqObj "list" #[] e1))(hka:kS≠a)(hl:ks.length=vs.length)(hz:vs.length≤sizeLine)
 (hk:∀v∈ks,cz s.heap B v) (inj:((ks.zip vs).map (num s.heap B)).Nodup)
 (h:∀h' tk (xs:List Keyed) c,(∀b,b≠kS->b≠a->h'.get? b=s.heap.get? b)->h'.get? a=some (seqObj "list" (List.toArray (xs.map (·.2))) c)->xs.Perm (ks.zip vs)->(xs.Pairwise fun x y=>num s.heap B x≤num s.heap B y)->P (.done (.ret .none)) { s with heap:=h',toks:=tk }):
 wpAny (model prog w) A (ksk_end a false vs.toArray e1 (.ref kS) ks.toArray) P E s:=by
 have zl:(ks.toArray.zip vs.toArray).toList=ks.zip vs:=by simp
 have tail:∀st:SortSt,failedOf st=none->(arrOf st).toList.Perm (ks.zip vs)->((arrOf st).toList.Pairwise fun x y=>num s.heap B x≤num s.heap B y)->wpAny (model prog w) A (ksk_tail a false e1 (.ref kS) st) P E s:=by
  intro st hf hp hs;have s1:=Heap.SameBut.update s.heap kS (Obj.mapSeq fun _=>(#[]:Array Value));have na1:(s.heap.update kS (Obj.mapSeq fun _=>(#[]:Array Value))).get? a=some (seqObj "list" #[] e1):=(s1.2 a hka.symm).trans ha;have s2:=Heap.SameBut.update (s.heap.update kS (Obj.mapSeq fun _=>(#[]:Array Value))) a (Obj.mapSeq fun _=>(arrOf st).map (·.2));have len:((arrOf st).map (·.2)).size≤sizeLine:=by have:=hp.length_eq;rw[Dn,AM] at this;rw[Array.size_map];lia
  unfold ksk_tail
  try dsimp only
  refine Aa (listUpdate_at hkS rfl ?_ (by rw[Ao];lia) (Bl _));refine Aa (wpAny_letGo ?_);refine Aa (seqEpoch_at na1 rfl ?_);refine Aa (listUpdate_at na1 rfl ?_ (Bl _) (by simp only[BY,if_false];exact C3 len));rw[hf];simp only[bne_self_eq_false,BY,if_false];obtain⟨c2,hc2⟩:∃c2,((s.heap.update kS (Obj.mapSeq fun _=>(#[]:Array Value))).update a (Obj.mapSeq fun _=>(arrOf st).map (·.2))).get? a=some (seqObj "list" ((arrOf st).map (·.2)) c2):=⟨_,get?_update_seq na1 fun _=>(arrOf st).map (·.2)⟩;refine Ai (h _ _ (arrOf st).toList c2 (fun b hb1 hb2=>?_) ?_ hp hs)
  ·exact(s2.2 b hb2).trans (s1.2 b hb1)
  ·have em:(arrOf st).map (·.2)=List.toArray ((arrOf st).toList.map (·.2)):=by apply Array.toList_inj.mp;rw[Array.toList_map]
   rw[em] at hc2 ⊢;exact hc2
 unfold ksk_end;simp only[BY,if_false];by_cases h2:vs.toArray.size<2
 ·rw[As h2,As h2];refine Aa (Ai ?_);rw[StateT.run_pure];refine Aa (Ai ?_);refine tail _ rfl (by show(ks.toArray.zip vs.toArray).toList.Perm _;rw[zl]) ?_;show(ks.toArray.zip vs.toArray).toList.Pairwise _;rw[zl];rw[Ao] at h2;have:(ks.zip vs).length<2:=by rw[Dn];lia
  exact rg this
 ·rw[Aq h2,Aq h2];rw[Ao] at h2;refine Aa (zO hk (by omega) ?_);refine Aa (A1 (aab (E:=E) (rG (B:=B)) (st:=SortSt.mk' (tuples' true) (ks.toArray.zip vs.toArray) #[] 7 none)
   (Q:=fun _ st'=>failedOf st'=none/\(arrOf st').toList.Perm (ks.zip vs)/\((arrOf st').toList.Pairwise fun x y=>num s.heap B x≤num s.heap B y)) rfl rfl rfl (fun x hx=>?_) ?_ fun st' b1 b2 b3=>⟨b1,?_,b3⟩) ?_ fun _ _ e=>e)
  ·have hx:x∈(ks.toArray.zip vs.toArray).toList:=hx;rw[zl] at hx;exact cz.pair (hk _ (Dl (a:=x.1) (b:=x.2) hx).1)
  ·show((ks.toArray.zip vs.toArray).toList.map _).Nodup;rw[zl];exact inj
  ·have b2:(arrOf st').toList.Perm (ks.toArray.zip vs.toArray).toList:=b2;rw[zl] at b2;exact b2
  ·rintro⟨⟨⟩,st'⟩ s' ⟨rfl,b1,b2,b3⟩;exact tail st' b1 b2 b3
end
section
variable {w:World} 
theorem cz.ne{v:Value}{a b:Addr}{xs:Array Value}(k:cz h B v)(e:v=.ref a)(hb:h.get? b=some (seqObj "list" xs n)):a≠b:=by
 obtain⟨a',o,m,r,p,t,u,e1,e2,e3,_⟩:=k;rw[e] at e1;cases e1;rintro rfl;rw[hb] at e2;cases e2;have e3:Value.type "list" = Value.type "tuple" := e3;injection e3 with e
 exact absurd e (by decide)
theorem cz.keeps{v:Value}{b:Addr}{xs:Array Value}(k:cz h B v)(hb:h.get? b=some (seqObj "list" xs n))(hk:∀c o,c≠b->h.get? c=some o->h'.get? c=some o):cz h' B v:=by have k0:=k;obtain⟨a,o,m,r,p,t,u,e1,e2,e3,e4,e5,e6⟩:=k;exact⟨a,o,m,r,p,t,u,e1,hk a o (k0.ne e1 hb) e2,e3,e4,e5,e6⟩
theorem yq{x:Keyed}{b:Addr}{xs:Array Value}(k:cz h B x.1)(hb:h.get? b=some (seqObj "list" xs n))(hk:∀c o,c≠b->h.get? c=some o->h'.get? c=some o):num h' B x=num h B x:=by have k0:=k;obtain⟨a,o,m,r,p,t,u,e1,e2,e3,e4,e5,e6⟩:=k;rw[num_of e1 e2 e4,num_of e1 (hk a o (k0.ne e1 hb) e2) e4]
theorem bx{x:Keyed}(h:x∈vs.zip vs):x.1∈vs/\x.1=x.2:=by
 induction vs with
 |nil=>simp at h
 |cons v r ih=>
  rw[List.zip_cons_cons] at h;rcases Ar.mp h with rfl | h
  ·exact⟨An ..,rfl⟩
  ·exact⟨Ah _ (ih h).1,(ih h).2⟩
theorem ag6{a:Addr}{P:PySem.Fin->Shared->Prop}(ho:s.heap.get? a=some (seqObj "list" vs.toArray n))(hz:vs.length≤100000)(hk:∀v∈vs,cz s.heap B v)(inj:((vs.zip vs).map (num s.heap B)).Nodup)
 (h:∀h' tk (xs:List Keyed) c,(∀b o,b≠a->s.heap.get? b=some o->h'.get? b=some o)->h'.get? a=some (seqObj "list" (List.toArray (xs.map (·.2))) c)->xs.Perm (vs.zip vs)->(xs.Pairwise fun x y=>num s.heap B x≤num s.heap B y)->P (.done (.ret .none)) { s with heap:=h',toks:=tk }):
 wpAny (model prog w) A (Builtin.«list.sort» ⟨[.ref a],[]⟩) P E s:=by
 have big:(100000:Nat)+1≤sizeLine:=by rw[sizeLine_eq];exact CP _ _
 have zl:(vs.toArray.zip vs.toArray).toList=vs.zip vs:=by simp
 have s1:=Heap.SameBut.update s.heap a (Obj.mapSeq fun _=>(#[]:Array Value));obtain⟨e1,ho1⟩:∃e1,(s.heap.update a (Obj.mapSeq fun _=>(#[]:Array Value))).get? a=some (seqObj "list" #[] e1):=⟨_,get?_update_seq ho fun _=>#[]⟩;obtain⟨hp3,ehp3⟩:∃g,g=((s.heap.update a (Obj.mapSeq fun _=>(#[]:Array Value))).push (seqObj "tuple" vs.toArray 0)).push (seqObj "list" #[] 0):=⟨_,rfl⟩;have k3:∀b o,b≠a->s.heap.get? b=some o->hp3.get? b=some o:=fun b o hb e=>by rw[ehp3];exact Heap.get?_push_of_some _ (Heap.get?_push_of_some _ ((s1.2 b hb).trans e))
 have ha3:hp3.get? a=some (seqObj "list" #[] e1):=by rw[ehp3];exact Heap.get?_push_of_some _ (Heap.get?_push_of_some _ ho1)
 have hk3:∀v∈vs,cz hp3 B v:=fun v hv=>(hk v hv).keeps ho k3;have nk:∀x∈vs.zip vs,num hp3 B x=num s.heap B x:=fun x hx=>yq (hk _ (bx hx).1) ho k3;have inj3:((vs.zip vs).map (num hp3 B)).Nodup:=by rw[Ce nk];exact inj
 have tail:∀st:SortSt,failedOf st=none->(arrOf st).toList.Perm (vs.zip vs)->((arrOf st).toList.Pairwise fun x y=>num hp3 B x≤num hp3 B y)->
  ∀tk,P (.done (.ret .none)) { s with heap:=hp3.update a (Obj.mapSeq fun _=>(arrOf st).map (·.2)),toks:=tk }:=by
  intro st hf hp hs tk;have s2:=Heap.SameBut.update hp3 a (Obj.mapSeq fun _=>(arrOf st).map (·.2));obtain⟨c2,hc2⟩:∃c2,(hp3.update a (Obj.mapSeq fun _=>(arrOf st).map (·.2))).get? a=some (seqObj "list" ((arrOf st).map (·.2)) c2):=⟨_,get?_update_seq ha3 fun _=>(arrOf st).map (·.2)⟩;have em:(arrOf st).map (·.2)=List.toArray ((arrOf st).toList.map (·.2)):=by apply Array.toList_inj.mp;rw[Array.toList_map]
  refine h _ tk (arrOf st).toList c2 (fun b o hb e=>(s2.2 b hb).trans (k3 b o hb e)) ?_ hp ?_
  ·rw[em] at hc2 ⊢;exact hc2
  ·refine Cb (fun {x y} hx hy z=>?_) hs;rw[nk x (hp.mem_iff.mp hx),nk y (hp.mem_iff.mp hy)] at z;exact z
 have len:∀st:SortSt,(arrOf st).toList.Perm (vs.zip vs)->((arrOf st).map (·.2)).size≤sizeLine+1:=fun st hp=>by have:=hp.length_eq;rw[Dn,AM] at this;rw[Array.size_map];lia
 rw[list_sort_plain];refine Aa (listItems_at ho rfl ?_);refine Aa (listUpdate_at ho rfl ?_ (by rw[Ao];exact i0) (Bl _));refine Aa (seqEpoch_at ho1 rfl ?_);refine Aa (wpAny_newTuple ?_ (by show vs.length≤_;lia));refine Aa (wpAny_newList ?_ (Bl _));refine Bc ?_;show wpAny (model prog w) A _ P E { s with heap:=((s.heap.update a (Obj.mapSeq fun _=>(#[]:Array Value))).push (seqObj "tuple" vs.toArray 0)).push (seqObj "list" #[] 0) };rw[<-ehp3];dsimp only;by_cases h2:vs.toArray.size<2
 ·rw[As h2,As h2];refine Aa (Ai ?_);rw[StateT.run_pure];refine Aa (Ai ?_);dsimp only;refine Aa (seqEpoch_at ha3 rfl ?_);have pz:(arrOf (SortSt.mk' (tuples' true) (vs.toArray.zip vs.toArray) #[] 7 none)).toList.Perm (vs.zip vs):=by show(vs.toArray.zip vs.toArray).toList.Perm _;rw[zl]
  refine Aa (listUpdate_at ha3 rfl ?_ (Bl _) (len _ pz));simp only[bne_self_eq_false,BY,if_false];refine Ai (tail (SortSt.mk' (tuples' true) (vs.toArray.zip vs.toArray) #[] 7 none) rfl pz ?_ _);show(vs.toArray.zip vs.toArray).toList.Pairwise _;rw[zl];rw[Ao] at h2;have:(vs.zip vs).length<2:=by rw[Dn];lia
  exact rg this
 ·rw[Aq h2,Aq h2];rw[Ao] at h2;refine Aa (zO (s:={ s with heap:=hp3 }) hk3 (by lia) ?_);refine Aa (A1 (aab (E:=E) (rG (s:={ s with heap:=hp3 }) (B:=B)) (st:=SortSt.mk' (tuples' true) (vs.toArray.zip vs.toArray) #[] 7 none)
   (Q:=fun _ st'=>failedOf st'=none/\(arrOf st').toList.Perm (vs.zip vs)/\((arrOf st').toList.Pairwise fun x y=>num hp3 B x≤num hp3 B y)) rfl rfl rfl (fun x hx=>?_) ?_ fun st' b1 b2 b3=>⟨b1,?_,b3⟩) ?_ fun _ _ e=>e)
  ·have hx:x∈(vs.toArray.zip vs.toArray).toList:=hx;rw[zl] at hx;exact cz.pair (hk3 _ (bx hx).1)
  ·show((vs.toArray.zip vs.toArray).toList.map _).Nodup;rw[zl];exact inj3
  ·have b2:(arrOf st').toList.Perm (vs.toArray.zip vs.toArray).toList:=b2;rw[zl] at b2;exact b2
  ·rintro⟨⟨⟩,st'⟩ s' ⟨rfl,b1,b2,b3⟩;dsimp only;refine Aa (seqEpoch_at ha3 rfl ?_);refine Aa (listUpdate_at ha3 rfl ?_ (Bl _) (len _ b2));rw[b1];simp only[bne_self_eq_false,BY,if_false];exact Ai (tail st' b1 b2 b3 _)
theorem w_sorted(hl:s.heap.IsList l vs.toArray)(hz:vs.length≤100000)(hk:∀v∈vs,cz s.heap B v)(inj:((vs.zip vs).map (num s.heap B)).Nodup)
 (h:∀h' tk (xs:List Keyed) D c,s.heap.objs.size≤D->(∀b o,s.heap.get? b=some o->h'.get? b=some o)->h'.get? D=some (seqObj "list" (List.toArray (xs.map (·.2))) c)->xs.Perm (vs.zip vs)->(xs.Pairwise fun x y=>num s.heap B x≤num s.heap B y)->Q (.ref D) { s with heap:=h',toks:=tk }):
 wpAny (model prog w) A (call (.builtin "sorted") [.ref l]) Q E s:=by
 have big:(100000:Nat)+1≤sizeLine:=by rw[sizeLine_eq];lia
 refine Calls.call_function_entry kind_sorted plain_sorted entry_sorted (args_sorted1 _) ?_;unfold Builtin.«sorted»;refine Aa (m:=checkCount "sorted" 1 1 _) (Ai ?_);refine Aa (collect_list hl ?_ (by lia));refine Aa (wpAny_newList ?_ (by lia));obtain⟨g,eg⟩:∃g,g=(s.heap.push (seqObj "list" #[] 0)).update s.heap.objs.size (Obj.mapSeq (· ++ vs.toArray)):=⟨_,rfl⟩;have gs:g.objs.size=s.heap.objs.size+1:=by rw[eg,Heap.size_update,size_push']
 have gk:∀b o,s.heap.get? b=some o->g.get? b=some o:=fun b o q=>by have hlt:b<s.heap.objs.size:=Heap.lt_size q;rw[eg,Heap.get?_update_ne _ _ _ _ (A3 hlt)];exact Heap.get?_push_of_some _ q
 show wpAny _ _ _ _ _ { s with heap:=((s.heap.push (seqObj "list" #[] 0)).update s.heap.objs.size (Obj.mapSeq (· ++ vs.toArray))).push (seqObj "list" vs.toArray 0) };rw[<-eg];have hoD:(g.push (seqObj "list" vs.toArray 0)).get? g.objs.size=some (seqObj "list" vs.toArray 0):=Heap.get?_push_size _ rfl;have keep:∀b o,s.heap.get? b=some o->(g.push (seqObj "list" vs.toArray 0)).get? b=some o:=fun b o q=>Heap.get?_push_of_some _ (gk b o q);have kT:∀v∈vs,cz (g.push (seqObj "list" vs.toArray 0)) B v:=fun v hv=>by obtain⟨a,o,m,r,p,t,u,e1,e2,r'⟩:=hk v hv;exact⟨a,o,m,r,p,t,u,e1,keep _ _ e2,r'⟩
 have nk:∀x∈vs.zip vs,num (g.push (seqObj "list" vs.toArray 0)) B x=num s.heap B x:=fun x hx=>by obtain⟨a,o,m,r,p,t,u,e1,e2,e3,e4,_⟩:=hk _ (bx hx).1;rw[num_of e1 e2 e4,num_of e1 (keep _ _ e2) e4]
 refine Aa (Bc (wpAny_call_entry slot_list_sort ⟨_,hoD,rfl⟩ entry_list_sort ?body (args_list_sort _)))
 case body=>
  refine ag6 (s:={ s with heap:=g.push (seqObj "list" vs.toArray 0) }) hoD hz kT (by rw[Ce nk];exact inj) fun h' tk xs c k1 hD pm pw=>?_;refine⟨_,rfl,Ai ⟨_,rfl,h h' tk xs g.objs.size c (by rw[gs];exact Cn _) (fun b o q=>k1 b o ?_ (keep b o q)) hD pm ?_⟩⟩
  ·have hlt:b<s.heap.objs.size:=Heap.lt_size q;intro z;rw[z,gs] at hlt;exact Nat.not_succ_lt_self hlt
  ·refine Cb (fun {x y} hx hy z=>?_) pw;rw[nk x (pm.mem_iff.mp hx),nk y (pm.mem_iff.mp hy)] at z;exact z
end
end TS
namespace L2
open PySem PySem.Spec PyProof.Rows
theorem m5(f:α->β):∀{l m:List β},l.Perm m->∀{T:List α},T.map f=m->∃T':List α,T'.Perm T/\T'.map f=l:=by
 intro l m p
 induction p with
 |nil=>intro T e;exact⟨T,BN _,e⟩
 |cons x _ ih=>
  intro T e;cases T with
  |nil=>cases e
  |cons t r=>
   rw[AG] at e;obtain⟨e1,e2⟩:=CM e;obtain⟨T',p',e'⟩:=ih e2;exact⟨t::T',p'.cons t,by rw[AG,e',e1]⟩
 |swap x y l=>
  intro T e
  match T,e with
  |t::u::r,e=>
   rw[AG,AG] at e;obtain⟨e1,e2⟩:=CM e;obtain⟨e3,e4⟩:=CM e2;exact⟨u::t::r,List.Perm.swap t u r,by rw[AG,AG,e1,e3,e4]⟩
 |trans _ _ ih1 ih2=>
  intro T e;obtain⟨T1,p1,e1⟩:=ih2 e;obtain⟨T2,p2,e2⟩:=ih1 e1;exact⟨T2,p2.trans p1,e2⟩
theorem eU{α β γ:Type}{R:β->γ->Prop}{g:α->β}{h:α->γ}:∀{T:List α},(∀t∈T,R (g t) (h t))->Paired R (T.map g) (T.map h)
 |[],_=>.nil
 |t::_,k=>.cons (k t (An ..)) (eU fun u hu=>k u (Ah _ hu))
theorem fi{α β γ:Type}{R:α->β->Prop}{S:α->γ->Prop}:∀{xs:List α} {ys:List β} {zs:List γ},Paired R xs ys->Paired S xs zs->∃T:List (α×β×γ),T.map (·.1)=xs/\T.map (fun t=>t.2.1)=ys/\T.map (fun t=>t.2.2)=zs/\∀t∈T,R t.1 t.2.1/\S t.1 t.2.2
 |_,_,_,.nil,.nil=>⟨[],rfl,rfl,rfl,fun t ht=>by cases ht⟩
 |_,_,_,.cons (a:=x) (b:=y) r p,.cons (b:=z) q p'=>by
  obtain⟨T,e1,e2,e3,k⟩:=fi p p';refine⟨(x,y,z)::T,by rw[AG,e1],by rw[AG,e2],by rw[AG,e3],fun t ht=>?_⟩;rcases Ar.mp ht with rfl | ht
  ·exact⟨r,q⟩
  ·exact k t ht
theorem dN{α β:Type}{f:α->β}:∀{l:List α},(∀x∈l,∀y∈l,f x=f y->x=y)->l.Nodup->(l.map f).Nodup
 |[],_,_=>C7
 |a::r,h,n=>by obtain⟨n1,n2⟩:=Aw.mp n;rw[AG];refine Aw.mpr ⟨fun z=>?_,dN (fun x hx y hy=>h x (Ah _ hx) y (Ah _ hy)) n2⟩;obtain⟨y,hy,e⟩:=Bq.mp z;have:=h y (Ah _ hy) a (An ..) e;exact n1 (this▸hy)
def sW(p q:Int×Int):Prop:=p.1<q.1\/(p.1=q.1/\p.2≤q.2)
abbrev uq(K:Af)(H:Hp)(v:V)(p:Int×Int):Prop:=∃a,v=.ref a/\cL K H a [.int p.1,.int p.2]
theorem uj{p q:Int×Int}(hp:0≤p.2/\p.2<B)(hq:0≤q.2/\q.2<B)(h:p.1*B+p.2≤q.1*B+q.2):sW p q:=by
 unfold sW;by_cases c:p.1<q.1
 ·exact .inl c
 ·right;by_cases d:q.1<p.1
  ·have h5:(q.1+1)*B≤p.1*B:=Cm (by assumption) (by lia);rw[Int.add_mul,Int.one_mul] at h5;omega
  ·have e:p.1=q.1:=by lia
   rw[e] at h;exact⟨e,by lia⟩
theorem ae0{p q:Int×Int}(hp:0≤p.2/\p.2<B)(hq:0≤q.2/\q.2<B)(h:p.1*B+p.2=q.1*B+q.2):p=q:=by
 have h1:=uj hp hq (by omega);have h2:=uj hq hp (by omega);unfold sW at h1 h2;have e1:p.1=q.1:=by lia
 have e2:p.2=q.2:=by lia
 exact Prod.ext e1 e2
section
def ahl(X:Cx):List V->Hp->VK->Prop:=fun xs H Q=>∃l ys ps,xs=[.ref l]/\wu X.K H l ys/\Paired (uq X.K H) ys ps/\(∀p∈ps,0≤p.2/\p.2<1000000)/\ps.Nodup/\ys.length≤100000/\
 ∀D zs qs,H D=none->Paired (uq X.K H) zs qs->qs.Perm ps->qs.Pairwise sW->Q (.ref D) (upd H D (.lst zs))
theorem u6:x4 X (.builtin "sorted") (ahl X):=by
 intro pins s σ H xs us Q I r h;obtain⟨l,ys,ps,rfl,hl,pr,hb,hnd,hlen,q⟩:=h;obtain⟨u,rfl,ru⟩:=r.one;cases (show u=Value.ref l from ru);obtain⟨its,rv,pl,hz⟩:=I.list hl;have l1:ys.length=its.length:=rv.length;obtain⟨T,e1,e2,e3,kT⟩:=fi rv pr;have kT2:∀t∈T,(∃a o n t1 t2,t.2.1=Value.ref a/\s.heap.get? a=some o/\o.cls=.type "tuple" /\ o.data=.seq #[.int t.2.2.1 t1,.int t.2.2.2 t2] n)/\0≤t.2.2.2/\t.2.2.2<1000000:=fun t ht=>by obtain⟨r1,a,ea,hs⟩:=kT t ht;obtain⟨its2,rv2,⟨o,g1,g2,n,g3⟩,_⟩:=I.tuple hs;obtain⟨w1,w2,rfl,x1,x2⟩:=rv2.two;obtain⟨t1,rfl⟩:=(show ∃t1,w1=Value.int t.2.2.1 t1 from x1);obtain⟨t2,rfl⟩:=(show ∃t2,w2=Value.int t.2.2.2 t2 from x2);rw[ea] at r1;refine⟨⟨a,o,n,t1,t2,r1,g1,g2,g3⟩,?_⟩;exact hb _ (by rw[<-e3];exact Cf (f:=fun t:V×Value×(Int×Int)=>t.2.2) ht)
 have nT:∀t∈T,TS.num s.heap 1000000 (t.2.1,t.2.1)=t.2.2.1*1000000+t.2.2.2:=fun t ht=>by obtain⟨⟨a,o,n,t1,t2,g0,g1,g2,g3⟩,_⟩:=kT2 t ht;exact TS.num_of g0 g1 g3
 have ez:its.zip its=T.map fun t=>(t.2.1,t.2.1):=by rw[<-e2,List.zip_map']
 have inj:((its.zip its).map (TS.num s.heap 1000000)).Nodup:=by
  rw[ez,BO];have e4:T.map (TS.num s.heap 1000000∘fun t=>(t.2.1,t.2.1))=(T.map fun t=>t.2.2).map fun p:Int×Int=>p.1*1000000+p.2:=by rw[BO];exact Ce fun t ht=>nT t ht
  rw[e4,e3];exact dN (fun x hx y hy e=>ae0 (hb x hx) (hb y hy) e) hnd
 refine jw I.tk (TS.w_sorted (B:=1000000) pl.isList (by rw[<-l1];exact hlen) (fun v hv=>?_) inj fun h' tk ks D c hD hk hg pm pw ht=>?_)
 ·rw[<-e2] at hv;obtain⟨t,ht,rfl⟩:=Bq.mp hv;obtain⟨⟨a,o,n,t1,t2,g0,g1,g2,g3⟩,b1,b2⟩:=kT2 t ht;exact⟨a,o,n,_,_,t1,t2,g0,g1,g2,g3,b1,b2⟩
 ·rw[ez] at pm;obtain⟨T',pT,eT⟩:=m5 _ pm rfl;subst eT;have mT:∀t,t∈T'->t∈T:=fun t=>pT.mem_iff.mp;have pw':=B7.mp pw;refine⟨.ref D,_,I.laid (t':=tk) (o:=.lst (T'.map (·.1))) hk hD ?_,rfl,q D (T'.map (·.1)) (T'.map fun t=>t.2.2) (I.hok.fresh hD) (eU fun t ht=>(kT t (mT t ht)).2) ?_ ?_⟩
  ·refine⟨?_,T'.map (fun t=>t.2.1),c,eU fun t ht=>(kT t (mT t ht)).1,?_⟩
   ·rw[Ae,pT.length_eq];have:T.length=ys.length:=by rw[<-e1,Ae]
    rw[this];exact hz
   ·rw[hg,BO];rfl
  ·rw[<-e3];exact pT.map _
  ·refine B7.mpr (Cb (fun {x y} hx hy z=>?_) pw');rw[nT x (mT x hx),nT y (mT y hy)] at z;exact uj (kT2 x (mT x hx)).2 (kT2 y (mT y hy)).2 z
end
end L2
namespace L3
open PySem L2
def prY(p:Int×Int):Y:=.tup [.int p.1,.int p.2]
theorem qH{G:G3}{H:Hp}:∀{ps:List (Int×Int)} {xs:List V},xi G H (ps.map prY) xs->Paired (uq G.K H) xs ps
 |[],_,h=>by cases (show _=[] from h);exact .nil
 |p::r,_,⟨x,xs',e,⟨a,zs,ea,hs,z1,zs1,e1,rz1,z2,zs2,e2,rz2,e3⟩,s⟩=>by subst e ea e1 e2 e3;cases (show z1=V.int p.1 from rz1);cases (show z2=V.int p.2 from rz2);exact .cons ⟨a,rfl,hs⟩ (qH s)
theorem rS{G:G3}{H:Hp}:∀{ps:List (Int×Int)} {xs:List V},Paired (uq G.K H) xs ps->xi G H (ps.map prY) xs
 |_,_,.nil=>rfl
 |_,_,.cons ⟨a,ea,hs⟩ t=>by subst ea;exact⟨_,_,rfl,⟨a,_,rfl,hs,_,_,rfl,rfl,_,_,rfl,rfl,rfl⟩,rS t⟩
def eQ(xs:List Y)(L:ql)(Q:YK):Prop:=match xs with
 |[.ref a]=>dO L a fun ys=>∃ps:List (Int×Int),ys=ps.map prY/\(∀p∈ps,0≤p.2/\p.2<1000000)/\ps.Nodup/\ps.length≤100000/\∀(D:Addr) (qs:List (Int×Int)),L D=none->qs.Perm ps->qs.Pairwise sW->Q (.ref D) (qd L D (.lst (qs.map prY)))
 |_=>False
theorem dY:bootBuiltins "sorted" = some (.builtin "sorted"):=by decide +kernel
theorem jD :x4 X (.builtin "sorted") (upL X.g3 eQ):=ET u6 fun xs H Q ⟨ys,L,Q3,rv,rl,z,k⟩=>by
 unfold eQ at z;split at z
 ·rename_i a;obtain⟨zs,e,ps,rfl,hb,hnd,hlen,z⟩:=v9 z;obtain⟨vs,e2,r⟩:=rl a _ e;obtain⟨u,rfl,ru⟩:=rv.inv1;cases (show u=V.ref a from ru);have pr:=qH r;exact⟨a,vs,ps,rfl,ER e2,pr,hb,hnd,by rw[<-r.length,Ae];exact hlen,fun D zs qs hD pz pm pw=>k _ _ _ _ (EE hD) (rl.newL hD (rS pz)) (by rfl) (z D qs (rl.none hD) pm pw)⟩
 ·exact z.elim
open PySem L2 Words
def am:Wd->Y
 |.leaf t n=>.tup [.str (kL t),.str n]
 |.node e l r=>.tup [.str (kN e),am l,am r]
def dz:Y:=(.tup [(.str "plain"),(.str "turned")])
theorem qm{Q:α->ql->Prop}{o:Option α}{v:α}(e:o=some v)(h:Q v L):wG L Q o:=by rw[e];exact h
abbrev jx(i:Int):xw:=yC (.int i)
abbrev fg(x:Str):xw:=yC (.str x)
abbrev xj(i:Nat)(n:Int):xw:=zr bz (qb i) (yC (.int n))
abbrev bO(i:Nat):xw:=gm ft (qf (qb i) qx)
abbrev i8(a b:xw):gL:=yB (zr (nX false) a b)
abbrev rdN(a b:xw):gL:=yB (zr (nX true) a b)
abbrev zD(a b:xw):xw:=k6 (qf a (qf b qx))
abbrev ki(a:xw):dU:=qf a qx
abbrev aK(a b:xw):dU:=qf a (qf b qx)
def yJ:kn:=(jy (zr (qT false) (xj 0 0) (yC dz)))
def kX:Bool->Bool->Str
 |true,t=>kL t
 |false,e=>kN e
def eS:jj:=fun ys L Q=>∃lf b rest,ys=[.tup (.str (kX lf b)::rest)]/\Q (.bl lf) L
theorem xI(t:Bool):yz (.str (kL t)) [.str "plain",.str "turned"]=true:=by cases t<;>decide +kernel
theorem xP(t:Bool):yz (.str (kN t)) [.str "plain",.str "turned"]=false:=by cases t<;>decide +kernel
theorem tD:∀ys L Q,eS ys L Q->xq yJ 1 ys L Q:=by
 rintro ys L Q ⟨lf,b,rest,rfl,q⟩;have e0:dg (Y.str (kX lf b)::rest) 0=some (Y.str (kX lf b)):=ve (xs:=Y.str (kX lf b)::rest) (j:=0) rfl;walk_at "w";rw[e0];refine⟨rfl,rfl,xu ?_⟩;cases lf with
 |true=>
  rw[show nb false (yz (mQ (.str (kX true b))) ([Y.str "plain",.str "turned"].map mQ))=true from xI b];exact q
 |false=>
  rw[show nb false (yz (mQ (.str (kX false b))) ([Y.str "plain",.str "turned"].map mQ))=false from xP b];exact q
theorem yD(t:Bool):List.lookup (kL t) [(("plain" : Str),("turned" : Str)),("turned", "plain"),("both", "either"),("either", "both")]=some (kL (!t)):=by cases t<;>decide +kernel
theorem yF(t:Bool):List.lookup (kN t) [(("plain" : Str),("turned" : Str)),("turned", "plain"),("both", "either"),("either", "both")]=some (kN (!t)):=by cases t<;>decide +kernel
theorem aq(s:qk L L'){p:Addr}(h:L' p=none):L p=none:=by cases e:L p with|none=>rfl|some o=>rw[s _ _ e] at h;cases h
theorem x5.str(x:Str):x5 L n (.str x) (.s (.str x)):=by cases n with|zero=>exact⟨rfl,rfl⟩|succ n=>exact .inl ⟨rfl,rfl⟩
abbrev EU:=@x5.str
theorem x5.int(x:Int):x5 L n (.int x) (.s (.int x)):=by cases n with|zero=>exact⟨rfl,rfl⟩|succ n=>exact .inl ⟨rfl,rfl⟩
abbrev EV:=@x5.int
theorem fv{L:ql}:∀{wd:Wd} {n:Nat},wd.depth≤n->x5 L n (am wd) (o9 wd)
 |.leaf t nm,n+1,_=>.inr (.inl ⟨_,_,rfl,rfl,.cons (EU _) (.cons (EU _) .nil)⟩)
 |.node e l r,n+1,h=>by have h':max l.depth r.depth+1≤n+1:=h;exact .inr (.inl ⟨_,_,rfl,rfl,.cons (EU _) (.cons (fv (by lia)) (.cons (fv (by lia)) .nil))⟩)
theorem aS{a:Addr}(e:L a=some (.lst ys))(p:Paired (x5 L n) ys ds):x5 L (n+1) (.ref a) (.lst ds):=.inr (.inr ⟨ys,ds,rfl,rfl,vi e,p⟩)
theorem fN(p:Paired (x5 L n) ys ds):x5 L (n+1) (.tup ys) (.tup ds):=.inr (.inl ⟨ys,ds,rfl,rfl,p⟩)
theorem aca{neg:Bool}{u v:Wd}{Q:YK}(hu:u.depth≤128)(q:Q (.bl (nb neg (Da.eq (o9 u) (o9 v)))) L):nX neg (am u) (am v) L Q:=by
 have hr:∀w:Wd,xR (am w)=true:=fun w=>by cases w<;>rfl
 have:xR (am u)=true/\xR (am v)=true/\∃n m d e,n≤128/\x5 L n (am u) d/\x5 L m (am v) e/\Q (.bl (nb neg (Da.eq d e))) L:=
  ⟨hr u,hr v,u.depth,v.depth,o9 u,o9 v,hu,fv (Am _),fv (Am _),q⟩
 cases u<;>cases v<;>exact this
theorem lA{neg:Bool}{a b:Addr}{zs:List Y}{es:List Da}{Q:YK}(hn:n<128)(ea:L a=some (.lst ys))(eb:L b=some (.lst zs))(pa:Paired (x5 L n) ys ds)(pb:Paired (x5 L m) zs es)(q:Q (.bl (nb neg (Da.eqs ds es))) L):
 nX neg (.ref a) (.ref b) L Q:=⟨rfl,rfl,n+1,m+1,_,_,hn,aS ea pa,aS eb pb,q⟩
def mN(K:Af):kn:=(ags K "heads" (qb 0) (kI (qb 1)))
def gY(K:Af):kn:=(qt (zw (qb 1) (qg 2))
 (qt (ld (rdN (zr bz (u4 K "heads" (qb 0)) (qb 2)) (qb 2)) (qt (vA (u4 K "heads" (qb 0)) (qb 2) (zr bz (u4 K "heads" (qb 0)) (zr bz (u4 K "heads" (qb 0)) (qb 2))))
 (zw (zr bz (u4 K "heads" (qb 0)) (qb 2)) (qg 2))))
 (jy (qb 2))))
def jR(K:Af)(Ca:Addr)(p0:jj):kn:=(qt (zw (cR Ca "head_of" p0 (qb 0) (ki (qb 1))) (qg 3))
 (qt (zw (cR Ca "head_of" p0 (qb 0) (ki (qb 2))) (qg 4))
 (qt (vA (u4 K "heads" (qb 0)) (qb 3) (qb 4))
 (jy (zr (nX true) (qb 3) (qb 4))))))
structure XFP(K:Af)(C:Addr):Prop where
 cl:Cls K C
 na:NoAttr K C "heads"
def nY(hs:List Nat):List Y:=hs.map fun n:Nat=>.int (n:Int)
def eW(hp:Addr):List (Str×Y):=[("heads",.ref hp)]
theorem ar :(eW hp).lookup ("heads" : Str)=some (.ref hp):=by unfold eW;rw[A9,show((("heads" : Str)==("heads" : Str)))=true by decide +kernel]
theorem aP :(eW hp).lookup ("head_of" : Str)=none:=by unfold eW;rw[A9,show((("head_of" : Str)==("heads" : Str)))=false by decide +kernel];rfl
theorem eZ :(eW hp).lookup ("unite" : Str)=none:=by unfold eW;rw[A9,show((("unite" : Str)==("heads" : Str)))=false by decide +kernel];rfl
theorem afu(n:Nat):wo 0 n=nY (List.range n):=by unfold wo nY;exact Ce fun k _=>by rw[Int.zero_add]
theorem kq(hs:List Nat):(nY hs).length=hs.length:=by unfold nY;rw[Ae]
theorem sL{h:Nat}(e:hs[i]?=some h):dg (nY hs) (i:Int)=some (.int (h:Int)):=ve (by unfold nY;rw[Av,e];rfl)
theorem aal(hs:List Nat)(i g:Nat):(nY hs).set i (.int (g:Int))=nY (hs.set i g):=by unfold nY;rw[List.map_set]
theorem vW(h:j<n):ixN n (j:Int)=some j:=by unfold ixN;rw[As (by exact A2 _),As (by omega)];rfl
theorem j8{a p:Addr}{o:LO}(h:qd L a o p=none):L p=none:=by
 by_cases c:p=a
 ·subst c;rw[q9] at h;cases h
 ·rw[qa c] at h;exact h
theorem aR{a:Addr}{o:LO}(h:L a=some o):qd L a o=L:=by
 funext b;unfold qd;split
 ·rename_i e;rw[e,h]
 ·rfl
def eG(rk:Nat->Nat)(hs:List Nat):Prop:=∀i h,hs[i]?=some h->h<hs.length/\(h≠i->rk h<rk i)
inductive kj(hs:List Nat):Nat->Nat->Prop
 |root {r:Nat}:hs[r]?=some r->kj hs r r
 |step {i h r:Nat}:hs[i]?=some h->h≠i->kj hs h r->kj hs i r
theorem kj.top{r:Nat}(h:kj hs i r):hs[r]?=some r:=by induction h with|root e=>exact e|step _ _ _ ih=>exact ih
theorem kj.uniq{r s:Nat}(h:kj hs i r)(k:kj hs i s):r=s:=by
 induction h generalizing s with
 |root e=>
  cases k with|root _=>rfl|step e' ne _=>rw[e] at e';exact absurd (AV e').symm ne
 |step e ne t ih=>
  cases k with|root e'=>rw[e] at e';exact absurd (AV e') ne|step e' _ t'=>rw[e] at e';cases e';exact ih t'
theorem kj.of_top{r:Nat}(h:kj hs i r)(e:hs[i]?=some i):r=i:=h.uniq (.root e)
theorem eG.rep{rk:Nat->Nat}{hs:List Nat}(hr:eG rk hs):∀(n i:Nat),rk i<n->i<hs.length->∃r,kj hs i r
 |0,_,h,_=>absurd h (DR _)
 |n+1,i,h,hi=>by
  have e:hs[i]?=some hs[i]:=Aj hi;by_cases c:hs[i]=i
  ·exact⟨i,.root (by rw[e,c])⟩
  ·obtain⟨h1,h2⟩:=hr i _ e;obtain⟨r,t⟩:=eG.rep hr n hs[i] (by have:=h2 c;omega) h1;exact⟨r,.step e c t⟩
theorem eG.rep'(hr:eG rk hs)(hi:i<hs.length):∃r,kj hs i r:=hr.rep (rk i+1) i (Bu _) hi
theorem zm{l:List α}{x:α}(h:l[i]?=some x):i<l.length:=(AY.mp h).1
theorem vv{l:List α}{x:α}(h:i<l.length):(l.set i x)[i]?=some x:=by rw[List.getElem?_set];simp[h]
theorem v5{l:List α}{x:α}(h:i≠j):(l.set i x)[j]?=l[j]?:=by rw[List.getElem?_set,Aq h]
theorem eG.halve(hr:eG rk hs){h g:Nat}(ei:hs[i]?=some h)(ne:h≠i)(eh:hs[h]?=some g):eG rk (hs.set i g)/\rk g<rk i:=by
 have hg:rk g<rk i:=by
  have h1:=(hr i h ei).2 ne;by_cases c:g=h
  ·rw[c];exact h1
  ·have:=(hr h g eh).2 c;exact hG
 refine⟨fun j x e=>?_,hg⟩;rw[Bd];by_cases c:i=j
 ·subst c;rw[vv (zm ei)] at e;cases e;exact⟨(hr h _ eh).1,fun _=>hg⟩
 ·rw[v5 c] at e;exact hr j x e
theorem gd{rk:Nat->Nat}{hs:List Nat}(hr:eG rk hs){i h g:Nat}(ei:hs[i]?=some h)(ne:h≠i)(eh:hs[h]?=some g):∀(n j r:Nat),rk j<n->kj hs j r->kj (hs.set i g) j r
 |0,_,_,h,_=>absurd h (DR _)
 |n+1,j,r,hn,t=>by
  have ih:=gd hr ei ne eh n;have hg:=(hr.halve ei ne eh).2;cases t with
  |root e=>
   have c:i≠j:=fun c=>by subst c;rw[ei] at e;exact ne (AV e)
   exact .root (by rw[v5 c];exact e)
  |step e ne' t=>
   rename_i h';have lt:=(hr j h' e).2 ne';by_cases c:i=j
   ·subst c;rw[ei] at e;cases e;by_cases d:g=h
    ·subst d;exact .step (vv (zm ei)) ne' (ih _ r (by lia) t)
    ·cases t with
     |root e2=>rw[eh] at e2;exact absurd (AV e2) d
     |step e2 ne2 t2=>
      rw[eh] at e2;cases e2;refine .step (vv (zm ei)) (fun z=>?_) (ih _ r (by lia) t2);rw[z] at hg;exact Ct _ hg
   ·exact .step (by rw[v5 c];exact e) ne' (ih _ r (by lia) t)
def cQ(hs:List Nat):Nat:=(List.range hs.length).countP fun i=>decide (hs[i]?=some i)
theorem yu(hr:eG rk hs){h g:Nat}(ei:hs[i]?=some h)(ne:h≠i)(eh:hs[h]?=some g):cQ (hs.set i g)=cQ hs:=by
 unfold cQ;rw[Bd];refine BR fun j hj=>?_;have hg:=(hr.halve ei ne eh).2;by_cases c:i=j
 ·subst c;rw[vv (zm ei),ei];have d:g≠i:=fun z=>by rw[z] at hg;exact Ct _ hg
  simp[d,ne]
 ·rw[v5 c]
theorem bZ{p:Nat->Bool}{a:Nat}(ha:p a=true):∀{l:List Nat},l.Nodup->a∈l->l.countP (fun j=>p j&&!decide (j=a))+1=l.countP p
 |[],_,h=>by cases h
 |x::r,hn,h=>by
  obtain⟨n1,n2⟩:=Aw.mp hn;rw[Bh,Bh];by_cases c:x=a
  ·subst c;have e:r.countP (fun j=>p j&&!decide (j=x))=r.countP p:=by refine BR fun j hj=>?_;have:j≠x:=fun z=>n1 (z▸hj);simp[this]
   rw[e];simp[ha]
  ·have hm:a∈r:=by
    rcases Ar.mp h with z | z
    ·exact absurd z.symm c
    ·exact z
   have ih:=bZ ha n2 hm;simp only[AA c,Bool.not_false,DZ];lia
theorem eG.join(hr:eG rk hs){a b:Nat}(ea:hs[a]?=some a)(eb:hs[b]?=some b):∃rk',eG rk' (hs.set a b):=by
 by_cases c:a=b
 ·subst c;refine⟨rk,fun i h e=>?_⟩;rw[Bd];by_cases d:a=i
  ·subst d;rw[vv (zm ea)] at e;cases e;exact hr _ _ ea
  ·rw[v5 d] at e;exact hr i h e
 ·refine⟨fun x=>if x=b then 0 else rk x+1,fun i h e=>?_⟩;rw[Bd];by_cases d:a=i
  ·subst d;rw[vv (zm ea)] at e;cases e;refine⟨zm eb,fun _=>?_⟩;show(if b=b then 0 else rk b+1)<if a=b then 0 else rk a+1
   rw[As rfl,Aq c];exact CZ _
  ·rw[v5 d] at e;refine⟨(hr i h e).1,fun ne=>?_⟩;have nb:i≠b:=fun z=>by subst z;rw[eb] at e;exact ne (AV e).symm
   show(if h=b then 0 else rk h+1)<if i=b then 0 else rk i+1
   rw[Aq nb];have:=(hr i h e).2 ne;split<;>lia
theorem ab4{a b:Nat}(ea:hs[a]?=some a)(eb:hs[b]?=some b){r:Nat}(t:kj hs i r):kj (hs.set a b) i (if r=a then b else r):=by
 induction t with
 |root e=>
  rename_i r;by_cases c:r=a
  ·subst c;rw[As rfl];by_cases d:r=b
   ·subst d;exact .root (vv (zm ea))
   ·exact .step (vv (zm ea)) (fun z=>d z.symm) (.root (by rw[v5 d];exact eb))
  ·rw[Aq c];exact .root (by rw[v5 (fun z=>c z.symm)];exact e)
 |step e ne t ih=>
  rename_i i h r;have c:a≠i:=fun z=>by subst z;rw[ea] at e;exact ne (AV e).symm
  exact .step (by rw[v5 c];exact e) ne ih
theorem ac1{a b:Nat}(ea:hs[a]?=some a)(eb:hs[b]?=some b)(ne:a≠b):cQ (hs.set a b)+1=cQ hs:=by
 unfold cQ;rw[Bd];have e:=bZ (p:=fun i=>decide (hs[i]?=some i)) (a:=a) (AB ea) (l:=List.range hs.length) Bw (AF.mpr (zm ea));rw[<-e];congr 1;refine BR fun j hj=>?_;by_cases c:a=j
 ·subst c;rw[vv (zm ea)];simp[AH ne]
 ·rw[v5 c];simp[AH c]
def fc(C:Addr):jj:=fun ys L Q=>∃o,∃n:Nat,∃ni:Int,ys=[.ref o,.int ni]/\ni=(n:Int)/\L o=some (.ins C [])/\n≤1000/\∀hp,L hp=none->Q .non (qd (qd L hp (.lst (nY (List.range n)))) o (.ins C (eW hp)))
theorem zW{K:Af}(xf:XFP K C):∀ys L Q,fc C ys L Q->xq (mN K) 2 ys L Q:=by rintro ys L Q ⟨o,n,ni,rfl,rfl,ho,hn,q⟩;refine⟨⟨by exact A2 _,by lia⟩,fun hp hhp=>?_⟩;refine xx ((qa (xo ho hhp)).trans ho) ⟨xf.cl,xf.na,by decide,?_⟩;rw[show((n:Nat):Int).toNat=n from rfl,afu];exact xu (q hp hhp)
def f9(C:Addr):jj:=fun ys L Q=>∃o hp,∃hs:List Nat,∃p:Nat,∃pi:Int,∃rk,ys=[.ref o,.int pi]/\pi=(p:Int)/\L o=some (.ins C (eW hp))/\L hp=some (.lst (nY hs))/\eG rk hs/\p<hs.length/\
 ∀(r:Nat) hs',hs'.length=hs.length->eG rk hs'->kj hs p r->(∀i s,kj hs i s->kj hs' i s)->cQ hs'=cQ hs->Q (.int (r:Int)) (qd L hp (.lst (nY hs')))
theorem ag4{K:Af}(xf:XFP K C):∀ys L Q,f9 C ys L Q->xq (gY K) 3 ys L Q:=by
 rintro ys L Q ⟨o,hp,hs,p,pi,rk,rfl,rfl,ho,hhp,hr,hlt,q⟩;obtain⟨r0,t0⟩:=hr.rep' hlt;have hop:o≠hp:=acw ho hhp (fun e=>by cases e);refine⟨fun m τ L'=>∃(hs':List Nat) (here:Nat),τ=[some (.ref o),some (.int (p:Int)),some (.int (here:Int))]/\L'=qd L hp (.lst (nY hs'))/\hs'.length=hs.length/\eG rk hs'/\here<hs.length/\kj hs' here r0/\(∀i s,kj hs i s->kj hs' i s)/\cQ hs'=cQ hs/\m=rk here,⟨_,hs,p,rfl,(aR hhp).symm,rfl,hr,hlt,t0,fun _ _ h=>h,rfl,rfl⟩,?_⟩;rintro m τ L' ⟨hs',here,rfl,rfl,hl,hr',hh,t,hall,hrt,rfl⟩;have ho':∀z,(qd L hp (.lst z)) o=some (.ins C (eW hp)):=fun z=>(qa hop).trans ho;obtain⟨h,eh⟩:∃h,hs'[here]?=some h:=⟨_,Aj (by lia)⟩;refine xx (ho' _) ⟨xf.cl,xf.na,qm ar (qe q9 (qm (sL eh) ?_))⟩;by_cases c:h=here
 ·subst c;refine bT (by show(!decide (((h:Nat):Int)=(h:Int)))=false;rw[AB rfl];rfl) ?_;have e:=t.of_top eh;subst e;exact xu (q _ hs' hl hr' t0 hall hrt)
 ·refine lW (by show(!decide (((h:Nat):Int)=(here:Int)))=true;rw[AA (by lia)];rfl) ?_;refine⟨_,fun _ _ h=>h,?_⟩;obtain⟨g,eg⟩:∃g,hs'[h]?=some g:=⟨_,Aj (hr' here h eh).1⟩;refine xx (ho' _) ⟨xf.cl,xf.na,qm ar (xx (ho' _) ⟨xf.cl,xf.na,qm ar (qe q9 (qm (sL eh) (qe q9 (qm (sL eg) ?_))))⟩)⟩;refine xx (ho' _) ⟨xf.cl,xf.na,qm ar (qu q9 (qm (v:=here) ?_ ?_))⟩
  ·exact vW (by rw[kq];lia)
  rw[jc,aal];have es:(hs'.set here g)[here]?=some g:=vv (by lia);refine xx (ho' _) ⟨xf.cl,xf.na,qm ar (qe q9 (qm (sL es) ?_))⟩;obtain⟨hv1,hv2⟩:=hr'.halve eh c eg;refine⟨_,ED _,rk g,hv2,hs'.set here g,g,rfl,rfl,by rw[Bd];exact hl,hv1,?_,?_,fun i s z=>gd hr' eh c eg (rk i+1) i s (Bu _) (hall i s z),by rw[yu hr' eh c eg];exact hrt,rfl⟩
  ·rw[<-hl];exact(hr' h g eg).1
  ·have t2:=gd hr' eh c eg (rk here+1) here r0 (Bu _) t;cases t2 with|root e2=>rw[es] at e2;cases e2;exact .root es|step e2 ne2 t3=>rw[es] at e2;cases e2;exact t3
def cf(C:Addr):jj:=fun ys L Q=>∃o hp,∃hs:List Nat,∃p q a b:Nat,∃pi qi:Int,ys=[.ref o,.int pi,.int qi]/\pi=(p:Int)/\qi=(q:Int)/\L o=some (.ins C (eW hp))/\L hp=some (.lst (nY hs))/\(∃rk,eG rk hs)/\kj hs p a/\kj hs q b/\p<hs.length/\q<hs.length/\
 ∀hs',hs'.length=hs.length->(∃rk,eG rk hs')->(∀i s,kj hs i s->kj hs' i (if s=a then b else s))->(a=b->cQ hs'=cQ hs)->(a≠b->cQ hs'+1=cQ hs)->Q (.bl (!decide (a=b))) (qd L hp (.lst (nY hs')))
theorem aav{K:Af}(xf:XFP K C):∀ys L Q,cf C ys L Q->xq (jR K C (f9 C)) 5 ys L Q:=by
 rintro ys L Q ⟨o,hp,hs,p,q,a,b,pi,qi,rfl,rfl,rfl,ho,hhp,⟨rk,hr⟩,ta,tb,hp1,hq1,k⟩;have hop:o≠hp:=acw ho hhp (fun e=>by cases e);have ho':∀z,(qd L hp (.lst z)) o=some (.ins C (eW hp)):=fun z=>(qa hop).trans ho;refine xx ho ⟨rfl,aP,o,hp,hs,p,_,rk,rfl,rfl,ho,hhp,hr,hp1,fun r1 hs1 l1 k1 t1 a1 n1=>?_⟩;cases t1.uniq ta;refine xx (ho' _) ⟨rfl,aP,o,hp,hs1,q,_,rk,rfl,rfl,ho' _,q9,k1,by lia,fun r2 hs2 l2 k2 t2 a2 n2=>?_⟩;cases t2.uniq (a1 _ _ tb);rw[jc];have ea:hs2[a]?=some a:=(a2 _ _ (a1 _ _ ta)).top;have eb:hs2[b]?=some b:=(a2 _ _ (a1 _ _ tb)).top;refine xx (ho' _) ⟨xf.cl,xf.na,qm ar (qu q9 (qm (v:=a) (vW (by rw[kq];exact zm ea)) ?_))⟩;rw[jc,aal];have e0:(decide ((a:Int)=(b:Int)))=decide (a=b):=by
  by_cases c:a=b
  ·rw[AB c];exact AB (by lia)
  ·rw[AA c];exact AA (by lia)
 show iY Q (.bl (!decide ((a:Int)=(b:Int)))) _;rw[e0];refine xu (k (hs2.set a b) (by rw[Bd];lia) (k2.join ea eb) (fun i s z=>ab4 ea eb (a2 _ _ (a1 _ _ z))) (fun e=>?_) (fun ne=>?_))
 ·subst e;have:hs2.set a a=hs2:=by
   apply Dz;intro j;by_cases c:a=j
   ·subst c;rw[vv (zm ea),ea]
   ·rw[v5 c]
  rw[this,n2,n1]
 ·have:=ac1 ea eb ne;lia
def jW:kn:=(qt (va (yB (zr yLt (qb 1) (bO 0))) (jy (zr bz (qb 0) (qb 1))) x0)
 (jy (jx 0)))
def uC:kn:=(jy (zr bB (zr wq (zr aa5 (zr vn (zr vn (zr aa5 (zr wq (qb 0) (jx 1000003)) (jx 7)) (zr aa5 (qb 1) (qb 1))) (jx 1)) (qb 2)) (jx 2147483647)) (jx 16)))
def mM(p0:jj):kn:=(qt (va (i8 (bO 0) (jx 2)) (jy (jx 1)) x0)
 (jy (zr vn (zr vn (jx 1) (zg p0 (ki (xj 0 1)))) (zg p0 (ki (xj 0 2))))))
def sd(p0:jj):kn:=(qt (va (yOr (yB (aX .bool (qb 0))) (yB (aX .bool (qb 1)))) (jy (jV (aX .bool (qb 0)) (jV (aX .bool (qb 1)) (zr (nX false) (qb 0) (qb 1))))) x0)
 (qt (va (yB (rN .list .tuple (qb 1))) (qt (va (yOr (rdN (aX .list (qb 0)) (aX .list (qb 1))) (rdN (aX .tuple (qb 0)) (aX .tuple (qb 1)))) (jy (yC (.bl false))) x0)
 (qt (va (rdN (bO 0) (bO 1)) (jy (yC (.bl false))) x0)
 (qt (fD (ab6 (aK (qb 0) (qb 1))) (wm 2 (zu (qg 2) (zu (qg 3) w4))) (va (ae5 (yB (zg p0 (aK (qb 2) (qb 3))))) (jy (yC (.bl false))) x0))
 (jy (yC (.bl true)))))) x0)
 (qt (va (yB (aX .int (qb 1))) (jy (jV (aX .int (qb 0)) (zr (nX false) (qb 0) (qb 1)))) x0)
 (qt (va (yB (aX .str (qb 1))) (jy (jV (aX .str (qb 0)) (zr (nX false) (qb 0) (qb 1)))) x0)
 (jy (dI false (qb 0)))))))
def rQ(p0:jj):kn:=(qt (zw (zr bz (qb 0) (qb 1)) (qg 2))
 (qt (va (i8 (bO 2) (jx 2)) (jy (qb 2)) x0)
 (jy (k6 (qf (xj 2 0) (qf (zg p0 (aK (qb 0) (xj 2 1))) (qf (zg p0 (aK (qb 0) (xj 2 2))) qx)))))))
def cA:jj:=fun ys L Q=>∃ns:List Int,∃k:Int,ys=[.sq (ns.map Y.int),.int k]/\0≤k/\∀v,Q (.int v) L
theorem tI:∀ys L Q,cA ys L Q->xq jW 2 ys L Q:=by rintro ys L Q ⟨ns,k,rfl,h0,q⟩;refine ju (fun c=>?_) fun c=>xu (q 0);have c':k<((ns.map Y.int).length:Int):=c;rw[Ae] at c';obtain⟨j,rfl⟩:∃j:Nat,k=(j:Int):=⟨k.toNat,by lia⟩;have e:dg (ns.map Y.int) (j:Int)=some (Y.int (ns[j]'(by omega))):=ig (Aj _);walk_at "w";rw[e];exact xu (q _)
def fC:jj:=fun ys L Q=>∃c k f:Int,ys=[.int c,.int k,.int f]/\0≤k/\k<1000000/\0<f/\f<1000000/\∀v,0≤v->v<134217728->Q (.int v) L
theorem aj5:∀ys L Q,fC ys L Q->xq uC 3 ys L Q:=by
 rintro ys L Q ⟨c,k,f,rfl,h0,h1,h2,h3,q⟩;refine⟨(by decide:(0:Int)<1000003),.inr ⟨by decide,by decide⟩,.inl ⟨by lia,by lia⟩,.inr ⟨by lia,by lia⟩,(by decide:(0:Int)<2147483647),⟨by decide,by decide⟩,xu (q _ ?_ ?_)⟩
 all_goals
  generalize ((c % 1000003*7+k*k+1)*f)=z;lia
theorem aax(cs:List Nat):(Txt.join "" (cs.map fun c=>(⟨#[c]⟩:Str))).cps.toList=cs:=by
 rw[og]
 induction cs with|nil=>rfl|cons c r ih=>rw[AG,AU,ih];rfl
def ay(n:Nat):jj:=fun ys L Q=>∃wd,ys=[am wd]/\wd.depth≤n/\Q (.int wd.size) L
theorem mF:∀ys L Q,¬ay 0 ys L Q:=fun ys L Q ⟨wd,_,hd,_⟩=>by cases wd<;>simp[Wd.depth] at hd
theorem wU(n:Nat):∀ys L Q,ay (n+1) ys L Q->xq (mM (ay n)) 1 ys L Q:=by
 rintro ys L Q ⟨wd,rfl,hd,q⟩;cases wd with
 |leaf t n=>exact xu q
 |node e l r=>
  have hd':max l.depth r.depth+1≤n+1:=hd;refine⟨l,rfl,by lia,r,rfl,by lia,xu ?_⟩;have e:(1+(l.size:Int)+(r.size:Int))=(((Wd.node e l r).size:Nat):Int):=by show _=((1+l.size+r.size:Nat):Int);rfl
  rw[e];exact q
def cX(L:ql):Nat->Y->Y->Prop
 |0,_,_=>False
 |n+1,x,y=>(fw x=true/\y=x)\/(∃xs ys,x=.tup xs/\y=.tup ys/\Paired (cX L n) xs ys)\/(∃a b xs ys,x=.ref a/\y=.ref b/\L a=some (.lst xs)/\L b=some (.lst ys)/\Paired (cX L n) xs ys)
theorem cX.flat{x:Y}(h:fw x=true):cX L (n+1) x x:=.inl ⟨h,rfl⟩
def fO(n:Nat):jj:=fun ys L Q=>∃x y,ys=[x,y]/\cX L n x y/\Q (.bl true) L
theorem pN:∀ys L Q,¬fO 0 ys L Q:=fun ys L Q ⟨x,y,_,h,_⟩=>h
theorem oM{xs:List Y}{keep:ql->Prop}{tb:kn}(W:Nat->ji->ql->Prop)(h0:W 0 τ L)(hk:∀i τ L',W i τ L'->keep L')
 (hs:∀i x y τ L,xs[i]?=some x->ys[i]?=some y->W i τ L->g (.tup [x,y]) τ L fun τ2 L2=>tb { D with nx:=dy (W (i+1)),ct:=dy (W (i+1)),bk:=D.nx } τ2 L2) (hd:∀τ L,W (min xs.length ys.length) τ L->D.nx τ L):
 si (uU xs ys) keep g tb D τ L:=af ⟨W,h0,hk,fun i y τ L e w=>by obtain⟨a,b,ea,eb,rfl⟩:=vR e;exact hs i a b τ L ea eb w,fun τ L w=>hd τ L (by rw[kF] at w;exact w)⟩
theorem afe(n:Nat):∀ys L Q,fO (n+1) ys L Q->xq (sd (fO n)) 4 ys L Q:=by
 rintro ys L Q ⟨x,y,rfl,h,q⟩;rcases h with⟨f,rfl⟩ | ⟨xs,ys,rfl,rfl,p⟩ | ⟨a,b,xs,ys,rfl,rfl,h1,h2,p⟩
 ·cases y with
  |non=>exact xu q
  |bl b=>
   refine xu ?_;show Q (.bl (nb false (decide (b=b)))) L;rw[AB rfl];exact q
  |int i=>
   refine xu ?_;show Q (.bl (nb false (decide (i=i)))) L;rw[AB rfl];exact q
  |str i=>
   refine xu ?_;show Q (.bl (nb false (decide (i=i)))) L;rw[AB rfl];exact q
  |_=>cases f
 ·have hl:=p.length;walk_at "w";refine bT (b:=nb true (decide ((xs.length:Int)=ys.length))) (by rw[hl,AB rfl];rfl) ?_;refine oM (fun i τ L'=>L'=L/\∃c d,τ=[some (.tup xs),some (.tup ys),c,d]) ⟨rfl,_,_,rfl⟩ (fun i τ L' w=>⟨trivial,trivial⟩) ?_ ?_
  ·rintro i u v τ L' eu ev ⟨rfl,c,d,rfl⟩;exact⟨u,v,rfl,EJ p eu ev,_,ED _,rfl,_,_,rfl⟩
  ·rintro τ L' ⟨rfl,c,d,rfl⟩;exact xu q
 ·have hl:=p.length;refine cJ h1 (cJ h2 ?_);walk_at "w";refine cJ h2 ?_;walk_at "w";refine cJ h1 (cJ h2 ?_);walk_at "w";refine cJ h1 (cJ h2 ?_);walk_at "w";refine qe h1 (qe h2 (bT (by rw[hl,AB rfl];rfl) ?_));walk_at "w";refine qu h1 (qu h2 ?_);refine oM (fun i τ L'=>L'=L/\∃c d,τ=[some (.ref a),some (.ref b),c,d]) ⟨rfl,_,_,rfl⟩ (fun i τ L' ⟨e,_⟩=>by subst e;exact⟨rfl,rfl⟩) ?_ ?_
  ·rintro i u v τ L' eu ev ⟨rfl,c,d,rfl⟩;exact⟨u,v,rfl,EJ p eu ev,_,ED _,rfl,_,_,rfl⟩
  ·rintro τ L' ⟨rfl,c,d,rfl⟩;exact xu q
def KW(ks:List Y):Nat->Wd->Prop
 |p,.leaf t n=>ks[p]?=some (.tup [.str (kL t),.str n])
 |p,.node e l r=>∃i j:Nat,ks[p]?=some (.tup [.str (kN e),.int i,.int j])/\KW ks i l/\KW ks j r
theorem KW.more{ks:List Y}(ms:List Y):∀{wd:Wd} {p:Nat},KW ks p wd->KW (ks++ms) p wd
 |.leaf _ _,p,h=>by have h':ks[p]?=some _:=h;show(ks++ms)[p]?=some _;rw[Ay (AY.mp h').1];exact h'
 |.node _ _ _,p,⟨i,j,h,a,b⟩=>⟨i,j,by rw[Ay (AY.mp h).1];exact h,KW.more ms a,KW.more ms b⟩
def ww(n:Nat):jj:=fun ys L Q=>∃k ks p wd,ys=[.ref k,.int ((p:Nat):Int)]/\L k=some (.lst ks)/\KW ks p wd/\wd.depth≤n/\Q (am wd) L
theorem t9:∀ys L Q,¬ww 0 ys L Q:=fun ys L Q ⟨k,ks,p,wd,_,_,_,hd,_⟩=>by cases wd<;>simp[Wd.depth] at hd
theorem oo:∀ys L Q,¬ww 0 ys L Q:=t9
theorem rB(n:Nat):∀ys L Q,ww (n+1) ys L Q->xq (rQ (ww n)) 3 ys L Q:=by
 rintro ys L Q ⟨k,ks,p,wd,rfl,hk,h,hd,q⟩;cases wd with
 |leaf t nm=>exact qe hk (qm (ve h) (xu q))
 |node e l r=>
  obtain⟨i,j,h,hl,hr⟩:=h;have hd':max l.depth r.depth+1≤n+1:=hd;exact qe hk (qm (ve h) ⟨k,ks,i,l,rfl,hk,hl,by lia,k,ks,j,r,rfl,hk,hr,by lia,xu q⟩)
def mkS(l:List Nat):Str:=⟨l.toArray⟩
theorem vO(x:Str):mkS x.cps.toList=x:=by cases x;rfl
def adx(p0:jj):kn:=(qt (zw (agg [("plain", "turned"),("turned", "plain"),("both", "either"),("either", "both")]) (qg 1))
 (qt (va (i8 (bO 0) (jx 2)) (jy (k6 (qf (zr bz (qb 1) (xj 0 0)) (ki (xj 0 1))))) x0)
 (jy (k6 (qf (zr bz (qb 1) (xj 0 0)) (qf (zg p0 (ki (xj 0 1))) (qf (zg p0 (ki (xj 0 2))) qx)))))))
def acm(p0:jj)(p1:jj):kn:=(qt (va (i8 (bO 1) (jx 2)) (qt (jm (aZ zq (qb 0) (qf (zg p0 (ki (qb 1))) qx)))
 (qt (jm (aZ zq (qb 0) (ki (qb 1))))
 (jy (w5 (qf (k6 (qf (fg "link") (qf (zr ga (bO 0) (jx 2)) (qf (zr ga (bO 0) (jx 1)) qx)))) (qf (zr ga (bO 0) (jx 2)) (qf (zr ga (bO 0) (jx 1)) qx))))))) x0)
 (qt (zw (zg p1 (aK (qb 0) (xj 1 1))) (qg 2))
 (qt (zw (zg p1 (aK (qb 0) (xj 1 2))) (qg 3))
 (qt (jm (aZ zq (qb 0) (qf (k6 (qf (zr bz (zg p0 (ki (qb 1))) (jx 0)) (aK (xj 2 1) (xj 3 1)))) qx)))
 (qt (jm (aZ zq (qb 0) (qf (k6 (qf (xj 1 0) (aK (xj 2 2) (xj 3 2)))) qx)))
 (qt (aje 4 5 (qf (zr ga (bO 0) (jx 2)) (qf (zr ga (bO 0) (jx 1)) qx)))
 (qt (zw (yIf (i8 (xj 1 0) (fg "either")) (qb 4) (qb 5)) (qg 6))
 (qt (zw (yIf (i8 (xj 1 0) (fg "either")) (qb 5) (qb 4)) (qg 7))
 (jy (w5 (qf (k6 (qf (fg "either") (qf (qb 7) (qf (k6 (qf (fg "both") (qf (qb 6) (aK (xj 2 0) (xj 3 0))))) qx)))) (aK (qb 4) (qb 5)))))))))))))
inductive Kn where
 |lf (t:Bool) (n:Str) | nd (e:Bool) (i j:Nat)
def wI:Kn->Y
 |.lf t n=>.tup [.str (kL t),.str n]
 |.nd e i j=>.tup [.str (kN e),.int ((i:Nat):Int),.int ((j:Nat):Int)]
inductive Ru where
 |link (p q:Nat) | ei (r:Nat) (A:Ru) | bo (r:Nat) (A B:Ru) | cu (p q:Nat) (A B:Ru)
def zf:Ru->Y
 |.link p q=>.tup [.str "link",.int ((p:Nat):Int),.int ((q:Nat):Int)]
 |.ei r A=>.tup [.str "either",.int ((r:Nat):Int),zf A]
 |.bo r A B=>.tup [.str "both",.int ((r:Nat):Int),zf A,zf B]
 |.cu p q A B=>.tup [.str "cut",.int ((p:Nat):Int),.int ((q:Nat):Int),zf A,zf B]
def z9:Ru->List Nat
 |.link p q=>[p,q]
 |.ei r A=>r::z9 A
 |.bo r A B=>r::(z9 A++z9 B)
 |.cu _ _ A B=>z9 A++z9 B
abbrev ja(ks:List Kn):List Y:=ks.map wI
def cO(ks:List Kn)(p:Nat)(w:Wd):Prop:=KW (ja ks) p w
theorem cO.more{ks:List Kn}{p:Nat}{w:Wd}(h:cO ks p w)(ms:List Kn):cO (ks++ms) p w:=by unfold cO ja;rw[AC];exact KW.more _ h
def dk(ks:List Kn):Prop:=∀(p:Nat) (k:Kn),ks[p]?=some k->match k with
 |.lf _ n=>cw n
 |.nd _ i j=>i<p/\j<p
theorem dk.snoc{ks:List Kn}{k:Kn}(h:dk ks)(hk:match k with | .lf _ n=>cw n | .nd _ i j=>i<ks.length/\j<ks.length):dk (ks++[k]):=by
 intro p k' e;by_cases c:p<ks.length
 ·rw[Ay c] at e;exact h p k' e
 ·rw[Al (by exact yr)] at e;have c2:p=ks.length:=by
   by_cases c3:p - ks.length=0
   ·omega
   ·rw[Cu (by simp;exact aaj)] at e;cases e
  subst c2;rw[Cp] at e;cases e;exact hk
theorem dQ(l:List α)(x:α)(r:List α):(l++x::r)[l.length]?=some x:=by rw[Al (Am _),Cp];rfl
theorem gv{l r:List α}{p:Nat}{x:α}(h:l[p]?=some x):(l++r)[p]?=some x:=by rw[Ay (AY.mp h).1];exact h
inductive SR(ks:List Kn):Ru->List Nat->Prop
 |link {p q:Nat} {t:Bool} {n:Str} {E:List Nat}:p<q->ks[p]?=some (.lf t n)->ks[q]?=some (.lf (!t) n)->(∀x,x∈E↔x=p\/x=q)->E.Nodup->SR ks (.link p q) E
 |ei {r i j:Nat} {A:Ru} {EA E:List Nat}:ks[r]?=some (.nd true i j)->SR ks A EA->i∈EA->j∈EA->i≠j->(∀x,x∈E↔(x∈EA/\x≠i/\x≠j)\/x=r)->E.Nodup->SR ks (.ei r A) E
 |bo {r i j:Nat} {A B:Ru} {EA EB E:List Nat}:ks[r]?=some (.nd false i j)->SR ks A EA->SR ks B EB->i∈EA->j∈EB->(∀x,x∈E↔(x∈EA/\x≠i)\/(x∈EB/\x≠j)\/x=r)->E.Nodup->SR ks (.bo r A B) E
 |cu {p q:Nat} {A B:Ru} {EA EB E:List Nat} {w:Wd}:SR ks A EA->SR ks B EB->p∈EA->q∈EB->cO ks p w->cO ks q w.turn->(∀x,x∈E↔(x∈EA/\x≠p)\/(x∈EB/\x≠q))->E.Nodup->SR ks (.cu p q A B) E
theorem SR.more{ks:List Kn}{R:Ru}{E:List Nat}(h:SR ks R E)(ms:List Kn):SR (ks++ms) R E:=by induction h with|link h1 h2 h3 h4 h5=>exact .link h1 (gv h2) (gv h3) h4 h5|ei h1 _ h3 h4 h5 h6 h7 ih=>exact .ei (gv h1) ih h3 h4 h5 h6 h7|bo h1 _ _ h4 h5 h6 h7 ih1 ih2=>exact .bo (gv h1) ih1 ih2 h4 h5 h6 h7|cu _ _ h3 h4 h5 h6 h7 h8 ih1 ih2=>exact .cu ih1 ih2 h3 h4 (h5.more ms) (h6.more ms) h7 h8
theorem SR.sub{ks:List Kn}{R:Ru}{E:List Nat}(h:SR ks R E):∀x∈E,x∈z9 R:=by
 induction h with
 |link _ _ _ h4 _=>intro x hx;rcases (h4 x).mp hx with rfl | rfl<;>simp[z9]
 |ei _ _ _ _ _ h6 _ ih=>intro x hx;rcases (h6 x).mp hx with⟨h,_⟩ | rfl;exact Ah _ (ih x h);exact An ..
 |bo _ _ _ _ _ h6 _ ih1 ih2=>
  intro x hx;rcases (h6 x).mp hx with⟨h,_⟩ | ⟨h,_⟩ | rfl
  ·exact Ah _ (Ap _ (ih1 x h))
  ·exact Ah _ (Ag _ (ih2 x h))
  ·exact An ..
 |cu _ _ _ _ _ _ h7 _ ih1 ih2=>
  intro x hx;rcases (h7 x).mp hx with⟨h,_⟩ | ⟨h,_⟩
  ·exact Ap _ (ih1 x h)
  ·exact Ag _ (ih2 x h)
def aw(n:Nat):jj:=fun ys L Q=>∃wd,ys=[am wd]/\wd.depth≤n/\Q (am wd.turn) L
theorem abi:∀ys L Q,¬aw 0 ys L Q:=fun ys L Q ⟨wd,_,hd,_⟩=>by cases wd<;>simp[Wd.depth] at hd
theorem uY(t:Bool):wz ([(("plain" : Str),("turned" : Str)),("turned", "plain"),("both", "either"),("either", "both")].map fun p=>((Sum.inr p.1:jg),Y.str p.2)) (Sum.inr (kL t))=some (.str (kL (!t))):=iR (yD t)
theorem uJ(t:Bool):wz ([(("plain" : Str),("turned" : Str)),("turned", "plain"),("both", "either"),("either", "both")].map fun p=>((Sum.inr p.1:jg),Y.str p.2)) (Sum.inr (kN t))=some (.str (kN (!t))):=iR (yF t)
theorem ach(n:Nat):∀ys L Q,aw (n+1) ys L Q->xq (adx (aw n)) 2 ys L Q:=by
 rintro ys L Q ⟨wd,rfl,hd,q⟩;intro p hp;cases wd with
 |leaf t nm=>
  refine kc q9 (qm (uY t) ?_);exact eY (By hp) q
 |node e l r=>
  have hd':max l.depth r.depth+1≤n+1:=hd;refine kc q9 (qm (uJ e) ?_);refine⟨l,rfl,by lia,r,rfl,by lia,?_⟩;exact eY (By hp) q
structure Mir(ks:List Kn)(w:Wd)(ms:List Kn)(R:Ru)(tp sp:Nat):Prop where
 len:ms.length=2*w.size
 sr:SR (ks++ms) R [tp,sp]
 wt:cO (ks++ms) tp w.turn
 ws:cO (ks++ms) sp w
 tm:∀x,x∈z9 R↔ks.length≤x/\x<ks.length+ms.length
 nd:(z9 R).Nodup
 ok:dk (ks++ms)
theorem cO.leaf{ks:List Kn}{p:Nat}{n:Str}(h:ks[p]?=some (.lf t n)):cO ks p (.leaf t n):=by show(ja ks)[p]?=_;rw[Av,h];rfl
theorem cO.node{ks:List Kn}{p:Nat}{e:Bool}{l r:Wd}(h:ks[p]?=some (.nd e i j))(hl:cO ks i l)(hr:cO ks j r):cO ks p (.node e l r):=by refine⟨i,j,?_,hl,hr⟩;rw[Av,h];rfl
abbrev EO:=@cO.node
theorem sK{ks:List Kn}(hk:dk ks){n:Str}(hn:cw n):Mir ks (.leaf t n) [.lf (!t) n,.lf t n] (.link ks.length (ks.length+1)) ks.length (ks.length+1):=by
 have e1:(ks++[Kn.lf (!t) n,.lf t n])[ks.length]?=some (.lf (!t) n):=dQ _ _ _;have e2:(ks++[Kn.lf (!t) n,.lf t n])[ks.length+1]?=some (.lf t n):=by have:=dQ (ks++[Kn.lf (!t) n]) (Kn.lf t n) [];rw[Ac,Ax] at this;exact this
 refine⟨rfl,.link (t:=!t) (n:=n) (by exact Bu _) e1 (by rw[Bool.not_not];exact e2) (by simp) (by simp),cO.leaf e1,cO.leaf e2,fun x=>?_,by simp[z9],?_⟩
 ·show x∈[ks.length,ks.length+1]↔ks.length≤x/\x<ks.length+2;simp;lia
 ·have:=(hk.snoc (k:=.lf (!t) n) hn).snoc (k:=.lf t n) hn;rw[Ax] at this;exact this
theorem SR.nod{ks:List Kn}{R:Ru}{E:List Nat}(h:SR ks R E):E.Nodup:=by cases h<;>assumption
theorem apo{x h lo a r N:Nat}(hh:(h=N/\lo=N+1)\/(h=N+1/\lo=N))(hN:N=a+m+r):x=h\/x=lo\/(a≤x/\x<a+m)\/a+m≤x/\x<a+m+r↔a≤x/\x<N+2:=by subst hN;rcases hh with⟨rfl,rfl⟩ | ⟨rfl,rfl⟩<;>lia
theorem apn{x a b c N:Nat}(h:a≠b)(k:c≠d):x∈[b,d,N]↔(x∈[a,b]/\x≠a)\/(x∈[c,d]/\x≠c)\/x=N:=by simp only[Ar,BC,or_false];lia
theorem ao0{x a b c N:Nat}(h:a≠b)(k:c≠d):x∈[a,c,N]↔(x∈[a,b]/\x≠b)\/(x∈[c,d]/\x≠d)\/x=N:=by simp only[Ar,BC,or_false];lia
theorem ao9{x a b N M:Nat}(h:a<N)(k:b<N):x∈[N,M]↔(x∈[a,b,N]/\x≠a/\x≠b)\/x=M:=by simp only[Ar,BC,or_false];lia
theorem anx{x a b N M:Nat}(h:a<N)(k:b<N):x∈[M,N]↔(x∈[a,b,N]/\x≠a/\x≠b)\/x=M:=by simp only[Ar,BC,or_false];lia
theorem amn{a b N:Nat}(h:a<N)(k:b<N)(d:a≠b):[a,b,N].Nodup:=by rw[Aw,Aw];simp;lia
theorem aqj{a r N t s u v:Nat}(a1:a≤t/\t<a+m)(a2:a≤s/\s<a+m)(b1:a+m≤u/\u<a+m+r)(b2:a+m≤v/\v<a+m+r)(hN:N=a+m+r):t<N/\s<N/\u<N/\v<N/\t≠u/\s≠v:=by lia
theorem al3{h lo a r N:Nat}(hh:(h=N/\lo=N+1)\/(h=N+1/\lo=N))(hN:N=a+m+r):¬(h=lo\/(a≤h/\h<a+m)\/a+m≤h/\h<a+m+r)/\¬((a≤lo/\lo<a+m)\/a+m≤lo/\lo<a+m+r):=by lia
theorem aqk{x y a r:Nat}(h1:a≤x/\x<a+m)(h2:a+m≤y/\y<a+m+r)(e:x=y):False:=by lia
theorem abw{ks ml mr:List Kn}{e:Bool}{l r:Wd}{A B:Ru}{tl sl tr sr:Nat}(hl:Mir ks l ml A tl sl)(hr:Mir (ks++ml) r mr B tr sr){N:Nat}(hN:N=ks.length+(ml++mr).length):
 Mir ks (.node e l r) (ml++mr++[.nd (!e) tl tr,.nd e sl sr]) (.ei (if e=true then N+1 else N) (.bo (if e=true then N else N+1) A B)) N (N+1):=by
 have hA:∀x∈[tl,sl],ks.length≤x/\x<ks.length+ml.length:=fun x hx=>(hl.tm x).mp (hl.sr.sub x hx);have hB:∀x∈[tr,sr],ks.length+ml.length≤x/\x<ks.length+ml.length+mr.length:=fun x hx=>by have:=(hr.tm x).mp (hr.sr.sub x hx);rw[Ac] at this;exact this
 have a1:=hA tl (by simp);have a2:=hA sl (by simp);have b1:=hB tr (by simp);have b2:=hB sr (by simp);have nA:tl≠sl:=by have:=hl.sr.nod;simpa using this
 have nB:tr≠sr:=by have:=hr.sr.nod;simpa using this
 have hN':N=ks.length+ml.length+mr.length:=by rw[hN,Ac];simp +arith only
 obtain⟨d1,d2,d3,d4,d5,d6⟩:=aqj a1 a2 b1 b2 hN';generalize eK:ks++(ml++mr++[Kn.nd (!e) tl tr,.nd e sl sr])=K;have k1:K=(ks++ml)++(mr++[Kn.nd (!e) tl tr,.nd e sl sr]):=by rw[<-eK];simp
 have k2:K=((ks++ml)++mr)++[Kn.nd (!e) tl tr,.nd e sl sr]:=by rw[<-eK];simp
 have k3:K=(((ks++ml)++mr)++[Kn.nd (!e) tl tr])++[.nd e sl sr]:=by rw[<-eK];simp
 have l2:((ks++ml)++mr).length=N:=by rw[Ac,Ac];lia
 have g1:K[N]?=some (.nd (!e) tl tr):=by rw[k2,<-l2];exact dQ _ _ _
 have g2:K[N+1]?=some (.nd e sl sr):=by
  have l3:(((ks++ml)++mr)++[Kn.nd (!e) tl tr]).length=N+1:=by rw[Ac,l2];rfl
  rw[k3,<-l3];exact dQ _ _ _
 have sA:SR K A [tl,sl]:=by rw[k1];exact hl.sr.more _
 have sB:SR K B [tr,sr]:=by rw[k2];exact hr.sr.more _
 have okK:dk K:=by have o1:=hr.ok.snoc (k:=.nd (!e) tl tr) (by show tl<((ks++ml)++mr).length/\tr<((ks++ml)++mr).length;rw[l2];exact⟨d1,d3⟩);have o2:=o1.snoc (k:=.nd e sl sr) (by show sl<_/\sr<_;rw[Ac,l2];exact⟨B8 d2,B8 d4⟩);rw[k3];exact o2
 have tA:=hl.tm;have tB:=hr.tm;rw[Ac] at tB;have wt:cO K N (Wd.node e l r).turn:=EO g1 (by rw[k1];exact hl.wt.more _) (by rw[k2];exact hr.wt.more _);have wsp:cO K (N+1) (Wd.node e l r):=EO g2 (by rw[k1];exact hl.ws.more _) (by rw[k2];exact hr.ws.more _);have lenm:(ml++mr++[Kn.nd (!e) tl tr,.nd e sl sr]).length=2*(Wd.node e l r).size:=by have h1:=hl.len;have h2:=hr.len;show _=2*(1+l.size+r.size);rw[Ac,Ac];simp;lia
 have lt:ks.length+(ml++mr++[Kn.nd (!e) tl tr,.nd e sl sr]).length=N+2:=by rw[Ac];simp[hN];rfl
 have tt:∀h lo:Nat,(h=N/\lo=N+1)\/(h=N+1/\lo=N)->(∀x,x∈z9 (.ei h (.bo lo A B))↔ks.length≤x/\x<ks.length+(ml++mr++[Kn.nd (!e) tl tr,.nd e sl sr]).length)/\(z9 (.ei h (.bo lo A B))).Nodup:=by
  intro h lo hh;constructor
  ·intro x;rw[lt];show x∈h::lo::(z9 A++z9 B)↔_;rw[Ar,Ar,Ak,tA,tB];exact apo hh hN'
  ·show(h::lo::(z9 A++z9 B)).Nodup;rw[Aw,Aw,AK];refine⟨?_,?_,hl.nd,hr.nd,fun x hx y hy e=>?_⟩
   ·rw[Ar,Ak,tA,tB];exact(al3 hh hN').1
   ·rw[Ak,tA,tB];exact(al3 hh hN').2
   ·exact aqk ((tA x).mp hx) ((tB y).mp hy) e
 cases e with
 |true=>
  have s1:SR K (.bo N A B) [sl,sr,N]:=by exact .bo g1 sA sB (by simp) (by simp) (fun x=>apn nA nB) (amn d2 d4 d6)
  have s2:SR K (.ei (N+1) (.bo N A B)) [N,N+1]:=by exact .ei g2 s1 (by simp) (by simp) d6 (fun x=>ao9 d2 d4) (by simp)
  obtain⟨t1,t2⟩:=tt (N+1) N (.inr ⟨rfl,rfl⟩);exact⟨lenm,by rw[eK];exact s2,by rw[eK];exact wt,by rw[eK];exact wsp,t1,t2,by rw[eK];exact okK⟩
 |false=>
  have s1:SR K (.bo (N+1) A B) [tl,tr,N+1]:=by exact .bo g2 sA sB (by simp) (by simp) (fun x=>ao0 nA nB) (amn (B8 d1) (B8 d3) d5)
  have s2:SR K (.ei N (.bo (N+1) A B)) [N,N+1]:=by exact .ei g1 s1 (by simp) (by simp) d5 (fun x=>anx (B8 d1) (B8 d3)) (by simp)
  obtain⟨t1,t2⟩:=tt N (N+1) (.inl ⟨rfl,rfl⟩);exact⟨lenm,by rw[eK];exact s2,by rw[eK];exact wt,by rw[eK];exact wsp,t1,t2,by rw[eK];exact okK⟩
def bG(n:Nat):jj:=fun ys L Q=>∃a,∃ks:List Kn,∃w:Wd,ys=[.ref a,am w]/\L a=some (.lst (ja ks))/\w.depth≤n/\n≤120/\w.ok/\dk ks/\ks.length+2*w.size≤10000/\
 ∀ms R tp sp p,L p=none->Mir ks w ms R tp sp->Q (.ref p) (qd (qd L a (.lst (ja (ks++ms)))) p (.lst [zf R,.int ((tp:Nat):Int),.int ((sp:Nat):Int)]))
theorem yx:∀ys L Q,¬bG 0 ys L Q:=fun ys L Q ⟨a,ks,wd,_,_,hd,_⟩=>by cases wd<;>simp[Wd.depth] at hd
theorem bg_:∀m:Nat,m≤20000->m<sizeLine:=fun m h=>Bf h (by decide)
theorem wO(n:Nat):∀ys L Q,bG (n+1) ys L Q->xq (acm (aw 120) (bG n)) 8 ys L Q:=by
 rintro ys L Q ⟨a,ks,w,rfl,ha,hd,hn,hok,hk,hb,q⟩;have big:=bg_;cases w with
 |leaf t nm=>
  have hb:ks.length+2*1≤10000:=hb;refine qe ha ⟨.leaf t nm,rfl,by exact CZ _,qu ha ⟨big _ (by rw[Ae];lia),?_⟩⟩;refine qe q9 (qu q9 ⟨big _ (by rw[Ac,Ae];simp;lia),?_⟩);rw[jc];have e1:(ja ks++[am (Wd.leaf t nm).turn])++[am (.leaf t nm)]=ja (ks++[.lf (!t) nm,.lf t nm]):=by unfold ja;rw[AC,Ax];rfl
  have e2:(ja (ks++[Kn.lf (!t) nm,.lf t nm])).length=ks.length+2:=by rw[Ae,Ac];rfl
  have i1:((((ja (ks++[Kn.lf (!t) nm,.lf t nm])).length:Nat):Int) - 2)=((ks.length:Nat):Int):=by rw[e2];lia
  have i2:((((ja (ks++[Kn.lf (!t) nm,.lf t nm])).length:Nat):Int) - 1)=((ks.length+1:Nat):Int):=by rw[e2];lia
  have e1':(ja ks++[am (Wd.leaf t nm).turn])++[.tup [.str (kL t),.str nm]]=ja (ks++[.lf (!t) nm,.lf t nm]):=e1
  first | rw[e1] | rw[e1']
  refine qe q9 (qe q9 (qe q9 (qe q9 fun p hp=>?_)));have np:L p=none:=by
   have:p≠a:=fun e=>by rw[e,q9] at hp;cases hp
   rw[qa this] at hp;exact hp
  have:=q _ _ _ _ p np (sK hk hok);have key:[zf (.link ks.length (ks.length+1)),Y.int ((ks.length:Nat):Int),Y.int ((ks.length+1:Nat):Int)]=[.tup [.str "link",.int ((((ja (ks++[Kn.lf (!t) nm,.lf t nm])).length:Nat):Int) - 2),.int ((((ja (ks++[Kn.lf (!t) nm,.lf t nm])).length:Nat):Int) - 1)],.int ((((ja (ks++[Kn.lf (!t) nm,.lf t nm])).length:Nat):Int) - 2),.int ((((ja (ks++[Kn.lf (!t) nm,.lf t nm])).length:Nat):Int) - 1)]:=by rw[i1,i2];rfl
  rw[key] at this;exact xu this
 |node e l r=>
  have hd':max l.depth r.depth+1≤n+1:=hd;have hb:ks.length+2*(1+l.size+r.size)≤10000:=hb;refine⟨a,ks,l,rfl,ha,by lia,by exact gB,hok.1,hk,by lia,fun ml A tl sl p1 hp1 ML=>?_⟩;have na1:a≠p1:=xo ha hp1;have hl1:=ML.len;refine⟨a,ks++ml,r,rfl,by rw[qa na1,q9],by lia,by exact gB,hok.2,ML.ok,by rw[Ac];lia,fun mr B tr sr p2 hp2 MR=>?_⟩;have hl2:=MR.len;have np1:p1≠p2:=xo q9 hp2;have na2:a≠p2:=xo (by rw[qa na1];exact q9) hp2;have ha2:qd (qd (qd (qd L a (.lst (ja (ks++ml)))) p1 (.lst [zf A,.int ((tl:Nat):Int),.int ((sl:Nat):Int)])) a (.lst (ja ((ks++ml)++mr)))) p2 (.lst [zf B,.int ((tr:Nat):Int),.int ((sr:Nat):Int)]) a=some (.lst (ja ((ks++ml)++mr))):=by rw[qa na2];exact q9
  have h1:qd (qd (qd (qd L a (.lst (ja (ks++ml)))) p1 (.lst [zf A,.int ((tl:Nat):Int),.int ((sl:Nat):Int)])) a (.lst (ja ((ks++ml)++mr)))) p2 (.lst [zf B,.int ((tr:Nat):Int),.int ((sr:Nat):Int)]) p1=some (.lst [zf A,.int ((tl:Nat):Int),.int ((sl:Nat):Int)]):=by rw[qa np1,qa (AH na1)];exact q9
  have h2:qd (qd (qd (qd L a (.lst (ja (ks++ml)))) p1 (.lst [zf A,.int ((tl:Nat):Int),.int ((sl:Nat):Int)])) a (.lst (ja ((ks++ml)++mr)))) p2 (.lst [zf B,.int ((tr:Nat):Int),.int ((sr:Nat):Int)]) p2=some (.lst [zf B,.int ((tr:Nat):Int),.int ((sr:Nat):Int)]):=q9;have old:∀b o,b≠a->L b=some o->qd (qd (qd (qd L a (.lst (ja (ks++ml)))) p1 (.lst [zf A,.int ((tl:Nat):Int),.int ((sl:Nat):Int)])) a (.lst (ja ((ks++ml)++mr)))) p2 (.lst [zf B,.int ((tr:Nat):Int),.int ((sr:Nat):Int)]) b=some o:=fun b o nb e=>by
   have n1:b≠p1:=xo e hp1;have e2:qd (qd L a (.lst (ja (ks++ml)))) p1 (.lst [zf A,.int ((tl:Nat):Int),.int ((sl:Nat):Int)]) b=some o:=by rw[qa n1,qa nb];exact e
   have n2:b≠p2:=xo e2 hp2;rw[qa n2,qa nb];exact e2
  generalize qd (qd (qd (qd L a (.lst (ja (ks++ml)))) p1 (.lst [zf A,.int ((tl:Nat):Int),.int ((sl:Nat):Int)])) a (.lst (ja ((ks++ml)++mr)))) p2 (.lst [zf B,.int ((tr:Nat):Int),.int ((sr:Nat):Int)])=L2 at ha2 h1 h2 old;have lks:(ja ((ks++ml)++mr)).length=ks.length+ml.length+mr.length:=by rw[Ae,Ac,Ac]
  refine qe ha2 ⟨.node e l r,rfl,by show max l.depth r.depth+1≤120;exact xC,qe h1 (qe h2 (qu ha2 ⟨big _ (by lia),?_⟩))⟩;have h1':∀o,qd L2 a o p1=some (.lst [zf A,.int ((tl:Nat):Int),.int ((sl:Nat):Int)]):=fun o=>by rw[qa (AH na1)];exact h1
  have h2':∀o,qd L2 a o p2=some (.lst [zf B,.int ((tr:Nat):Int),.int ((sr:Nat):Int)]):=fun o=>by rw[qa (AH na2)];exact h2
  refine qe q9 (qe (h1' _) (qe (h2' _) (qu q9 ⟨big _ (by rw[Ac];simp;lia),?_⟩)));rw[jc];obtain⟨N,hN⟩:∃N,N=ks.length+(ml++mr).length:=⟨_,rfl⟩;have e1:(ja ((ks++ml)++mr)++[.tup [.str (kN (!e)),.int ((tl:Nat):Int),.int ((tr:Nat):Int)]])++[.tup [.str (kN e),.int ((sl:Nat):Int),.int ((sr:Nat):Int)]]=ja (ks++(ml++mr++[.nd (!e) tl tr,.nd e sl sr])):=by unfold ja;simp[wI]
  rw[e1];have lN:(ja (ks++(ml++mr++[Kn.nd (!e) tl tr,.nd e sl sr]))).length=N+2:=by rw[Ae,Ac,Ac,hN];simp;rfl
  have i1:((((ja (ks++(ml++mr++[Kn.nd (!e) tl tr,.nd e sl sr]))).length:Nat):Int) - 2)=((N:Nat):Int):=by rw[lN];lia
  have i2:((((ja (ks++(ml++mr++[Kn.nd (!e) tl tr,.nd e sl sr]))).length:Nat):Int) - 1)=((N+1:Nat):Int):=by rw[lN];lia
  refine qe q9 (qe q9 ?_);have M:=abw (e:=e) ML MR hN;have done:∀p,qd L2 a (.lst (ja (ks++(ml++mr++[Kn.nd (!e) tl tr,.nd e sl sr])))) p=none->∀R,Mir ks (.node e l r) (ml++mr++[Kn.nd (!e) tl tr,.nd e sl sr]) R N (N+1)->
   iY Q (.ref p) (qd (qd L2 a (.lst (ja (ks++(ml++mr++[Kn.nd (!e) tl tr,.nd e sl sr]))))) p (.lst [zf R,.int ((N:Nat):Int),.int ((N+1:Nat):Int)])):=fun p hp R MM=>by
   have npa:p≠a:=fun z=>by rw[z,q9] at hp;cases hp
   rw[qa npa] at hp;have np:L p=none:=by cases z:L p with|none=>rfl|some o=>rw[old p o npa z] at hp;cases hp
   refine eY ?_ (q _ _ _ _ p np MM);intro b o z;by_cases c1:b=p
   ·subst c1;rw[q9] at z ⊢;exact z
   ·rw[qa c1] at z ⊢;by_cases c2:b=a
    ·subst c2;rw[q9] at z ⊢;exact z
    ·rw[qa c2] at z ⊢;exact old b o c2 z
  cases e with
  |true=>
   have key:[zf (.ei (if true=true then N+1 else N) (.bo (if true=true then N else N+1) A B)),Y.int ((N:Nat):Int),Y.int ((N+1:Nat):Int)]=[.tup [.str "either",.int ((((ja (ks++(ml++mr++[Kn.nd (!true) tl tr,.nd true sl sr]))).length:Nat):Int) - 1),.tup [.str "both",.int ((((ja (ks++(ml++mr++[Kn.nd (!true) tl tr,.nd true sl sr]))).length:Nat):Int) - 2),zf A,zf B]],.int ((((ja (ks++(ml++mr++[Kn.nd (!true) tl tr,.nd true sl sr]))).length:Nat):Int) - 2),.int ((((ja (ks++(ml++mr++[Kn.nd (!true) tl tr,.nd true sl sr]))).length:Nat):Int) - 1)]:=by rw[i1,i2];rfl
   walk_at "w";refine qe (h1' _) (qe (h2' _) fun p hp=>?_);have:=done p hp _ M;rw[key] at this;exact this
  |false=>
   have key:[zf (.ei (if false=true then N+1 else N) (.bo (if false=true then N else N+1) A B)),Y.int ((N:Nat):Int),Y.int ((N+1:Nat):Int)]=[.tup [.str "either",.int ((((ja (ks++(ml++mr++[Kn.nd (!false) tl tr,.nd false sl sr]))).length:Nat):Int) - 2),.tup [.str "both",.int ((((ja (ks++(ml++mr++[Kn.nd (!false) tl tr,.nd false sl sr]))).length:Nat):Int) - 1),zf A,zf B]],.int ((((ja (ks++(ml++mr++[Kn.nd (!false) tl tr,.nd false sl sr]))).length:Nat):Int) - 2),.int ((((ja (ks++(ml++mr++[Kn.nd (!false) tl tr,.nd false sl sr]))).length:Nat):Int) - 1)]:=by rw[i1,i2];rfl
   walk_at "w";refine qe (h1' _) (qe (h2' _) fun p hp=>?_);have:=done p hp _ M;rw[key] at this;exact this
end L3
variable {ks wd:List (Option L3.Kn)}
namespace L3
open PySem L2 Words
def uf(p0:jj):kn:=(qt (va (yOr (yB (dI false (qb 0))) (yB (zg p0 (ki (qb 0))))) (jy (w5 qx)) x0)
 (jy (w5 (aK (xj 0 1) (xj 0 2)))))
def kJ:kn:=(jy (pY 2 (eX (qb 0)) (wm 2 (zu (qg 1) (zu (qg 2) w4))) (yB (dI true (qb 2))) (qb 1)))
def oW:kn:=(jy (pY 2 (eX (xj 0 0)) (wm 2 (zu (qg 1) (zu (qg 2) w4))) (o4 (yB (dI true (qb 2))) (i8 (xj 2 0) (fg "either"))) (qb 1)))
def uG(p0:jj):kn:=(jy (pY 1 (vq (zg p0 (ki (xj 0 0)))) (qg 1) (i8 (zr bz (zr bz (xj 0 0) (qb 1)) (jx 0)) (fg "both")) (qb 1)))
def pG(p0:jj):kn:=(qt (zw (w5 qx) (qg 2))
 (qt (fD (vq (qb 1)) (qg 3) (jm (aZ fK (qb 2) (qf (pY 1 (vq (zg p0 (qf (zr bz (qb 0) (qb 3)) qx))) (qg 4) oy (zD (qb 3) (qb 4))) qx))))
 (jy (qb 2))))
def uN(p0:jj)(p1:jj):kn:=(jy (zr vn (zr vn (xj 0 1) (xj 0 2)) (zg p0 (qf (xj 0 0) (qf (zg p1 (ki (qb 0))) qx)))))
def fB:Option Kn->Y
 |none=>.non
 |some k=>wI k
abbrev ak(ks:List (Option Kn)):List Y:=ks.map fB
def aG:Option Kn->List Nat
 |some (.nd _ i j)=>[i,j]
 |_=>[]
def gC:jj:=fun ys L Q=>∃k:Option Kn,ys=[fB k]/\∀p,L p=none->Q (.ref p) (qd L p (.lst (nY (aG k))))
theorem acf:∀ys L Q,gC ys L Q->xq (uf eS) 1 ys L Q:=by
 rintro ys L Q ⟨k,rfl,q⟩;cases k with
 |none=>exact fun p hp=>xu (q p hp)
 |some k=>
  cases k with|lf t n=>exact⟨true,t,_,rfl,fun p hp=>xu (q p hp)⟩|nd e i j=>exact⟨false,e,_,rfl,fun p hp=>xu (q p hp)⟩
def bE(f:Option Kn->Bool)(ks:List (Option Kn))(i:Nat):List Nat:=(List.range i).filter fun p=>match ks[p]? with
 |some k=>f k
 |none=>false
theorem aF{f:Option Kn->Bool}{k:Option Kn}(h:ks[i]?=some k):bE f ks (i+1)=bE f ks i++if f k=true then [i] else []:=by unfold bE;rw[DS,Cq];congr 1;rw[CG];simp only[h,DU]
theorem cD{f:Option Kn->Bool}{p:Nat}(h:p∈bE f ks i):p<i/\∃k,ks[p]?=some k/\f k=true:=by
 unfold bE at h;obtain⟨h1,h2⟩:=Br.mp h;refine⟨AF.mp h1,?_⟩;split at h2
 ·rename_i k e;exact⟨k,e,h2⟩
 ·cases h2
theorem bR(f:Option Kn->Bool)(ks:List (Option Kn))(i:Nat):(bE f ks i).length≤i:=by unfold bE;exact AL (List.length_filter_le _ _) (by rw[AX];simp +arith only)
def fA:Option Kn->Bool
 |some _=>true
 |none=>false
def jo(e:Bool):Option Kn->Bool
 |some (.nd e' _ _)=>decide (e'=e)
 |_=>false
abbrev zb(ks:List (Option Kn)):List Nat:=bE fA ks ks.length
abbrev jt(e:Bool)(ks:List (Option Kn)):List Nat:=bE (jo e) ks ks.length
theorem aai(a b:List Nat):nY (a++b)=nY a++nY b:=by unfold nY;rw[AC]
theorem bP(h:(nY hs)[i]?=some y):∃n,hs[i]?=some n/\y=.int (n:Int):=by unfold nY at h;rw[Av] at h;obtain⟨n,e1,e2⟩:=AE.mp h;exact⟨n,e1,e2.symm⟩
theorem qF{f:Option Kn->Bool}{keep:ql->Prop}{Q:YK}(hz:ks.length≤1000)(hk:keep L)
 (turn:∀(i:Nat) (k:Option Kn) (R:List Y->ql->Prop) zs,ks[i]?=some k->(f k=true->R (zs++[.int (i:Int)]) L)->(f k=false->R zs L)->g (.tup [.int (i:Nat),fB k]) (τ++List.replicate 2 none) L fun τ2 L2=>tc τ2 L2 fun b L3=>ke b (te τ2 L3 fun z L4=>R (zs++[z]) L4) (R zs L3))
 (hq:∀p,L p=none->Q (.ref p) (qd L p (.lst (nY (bE f ks ks.length))))):yw (lZ (ak ks)) keep 2 g tc te τ L Q:=by
 refine cq (fun i zs=>zs=nY (bE f ks i)) (by rw[dX,Ae];exact Bf hz (by decide)) hk rfl ?_ ?_
 ·rintro i y zs ey rfl;obtain⟨z,ez,rfl⟩:=ff ey;rw[Av] at ez;obtain⟨k,ek,rfl⟩:=AE.mp ez;refine turn i k _ _ ek (fun h=>⟨L,ED _,rfl,?_⟩) (fun h=>⟨L,ED _,rfl,?_⟩)
  ·rw[aF ek,As h,aai];rfl
  ·rw[aF ek,Aq (by rw[h];exact Az),AZ]
 ·rintro zs rfl;rw[dX,Ae];exact hq
def bC:jj:=fun ys L Q=>∃a,∃ks:List (Option Kn),ys=[.ref a]/\L a=some (.lst (ak ks))/\ks.length≤1000/\∀p,L p=none->Q (.ref p) (qd L p (.lst (nY (zb ks))))
theorem acb:∀ys L Q,bC ys L Q->xq kJ 1 ys L Q:=by
 rintro ys L Q ⟨a,ks,rfl,ha,hz,q⟩;refine xz ha fun keep kp=>qF (f:=fA) hz (kp L rfl) (fun i k R zs ek h1 h2=>?_) fun p hp=>xu (q p hp);cases k with
 |none=>exact h2 rfl
 |some k=>cases k<;>exact h1 rfl
abbrev cW(a l c:Addr):Y:=.tup [.ref a,.ref l,.ref c]
def cg:jj:=fun ys L Q=>∃a l c,∃ks:List (Option Kn),ys=[cW a l c]/\L a=some (.lst (ak ks))/\ks.length≤1000/\∀p,L p=none->Q (.ref p) (qd L p (.lst (nY (jt true ks))))
theorem aar:∀ys L Q,cg ys L Q->xq oW 1 ys L Q:=by
 rintro ys L Q ⟨a,l,c,ks,rfl,ha,hz,q⟩;refine xz ha fun keep kp=>qF (f:=jo true) hz (kp L rfl) (fun i k R zs ek h1 h2=>?_) fun p hp=>xu (q p hp);cases k with
 |none=>exact h2 rfl
 |some k=>
  cases k with
  |lf t n=>cases t<;>exact h2 rfl
  |nd e i j=>
   cases e with|true=>exact h1 rfl|false=>exact h2 rfl
def lu:jj:=fun ys L Q=>∃a l c,∃ks:List (Option Kn),ys=[cW a l c]/\L a=some (.lst (ak ks))/\ks.length≤1000/\∀p,L p=none->Q (.ref p) (qd L p (.lst (nY (jt false ks))))
theorem ado(f g:Option Kn->Bool)(ks:List (Option Kn))(i:Nat):((bE f ks i).filter fun p=>match ks[p]? with | some k=>g k | none=>false)=bE (fun k=>f k&&g k) ks i:=by unfold bE;rw[List.filter_filter];refine List.filter_congr fun p _=>?_;cases ks[p]? with|none=>rfl|some k=>exact Bool.and_comm _ _
theorem u8(e:Bool)(ks:List (Option Kn))(i:Nat):bE (fun k=>fA k&&jo e k) ks i=bE (jo e) ks i:=by unfold bE;refine List.filter_congr fun p _=>?_;cases ks[p]? with|none=>rfl|some k=>cases k<;>rfl
theorem aat:∀ys L Q,lu ys L Q->xq (uG bC) 1 ys L Q:=by
 rintro ys L Q ⟨a,l,c,ks,rfl,ha,hz,q⟩;refine⟨a,ks,rfl,ha,hz,fun p hp=>?_⟩;have ha1:=By (o:=.lst (nY (zb ks))) hp _ _ ha;refine xz q9 fun keep kp=>cq (fun i zs=>zs=nY (((zb ks).take i).filter fun p=>match ks[p]? with | some k=>jo false k | none=>false)) (by rw[kq];exact Bf (AL (bR _ _ _) hz) (by decide)) (kp _ rfl) rfl ?_ ?_
 ·rintro i y zs ey rfl;obtain⟨n,en,rfl⟩:=bP ey;obtain⟨hn,k,ek,hk⟩:=cD (AI en);have et:(zb ks).take (i+1)=(zb ks).take i++[n]:=by rw[Bo,en];rfl
  have a1:dg (ak ks) (n:Int)=some (fB k):=ve (by rw[Av,ek];rfl);refine qe ha1 (qm a1 ?_);cases k with
  |none=>cases hk
  |some k=>
   cases k with
   |lf t nm=>
    have z:dy (fun zs L'=>L'=qd L p (.lst (nY (zb ks)))/\zs=nY (((zb ks).take (i+1)).filter fun p=>match ks[p]? with | some k=>jo false k | none=>false)) (nY (((zb ks).take i).filter fun p=>match ks[p]? with | some k=>jo false k | none=>false)) (qd L p (.lst (nY (zb ks)))):=by refine⟨_,ED _,rfl,?_⟩;rw[et,Cq,CG];simp[ek,jo]
    cases t<;>exact z
   |nd e i' j'=>
    cases e with
    |true=>
     refine⟨_,ED _,rfl,?_⟩;rw[et,Cq,CG];simp[ek,jo]
    |false=>
     refine⟨_,ED _,rfl,?_⟩;rw[et,Cq,CG];simp[ek,jo,nY]
 ·rintro zs rfl p2 hp2;rw[kq,Bn,ado,u8];have hp3:L p2=none:=aq (By hp) hp2;refine eY (L:=qd L p2 (.lst (nY (jt false ks)))) ?_ (q p2 hp3);exact qk.put ((By (o:=.lst (nY (zb ks))) hp).upd hp3) q9
theorem apc(a b:Nat):min (a:Int) (b:Int)=((min a b:Nat):Int):=by omega
theorem ap2(a b:Nat):max (a:Int) (b:Int)=((max a b:Nat):Int):=by omega
def prN(p:Nat×Nat):Y:=.tup [.int ((p.1:Nat):Int),.int ((p.2:Nat):Int)]
abbrev za(l:List (Nat×Nat)):List Y:=l.map prN
def x6(ks:List (Option Kn))(pl:List Nat):List (Nat×Nat):=pl.flatMap fun p=>match ks[p]? with
 |some k=>(aG k).map fun q=>(p,q)
 |none=>[]
theorem gZ(ks:List (Option Kn))(a b:List Nat):x6 ks (a++b)=x6 ks a++x6 ks b:=by unfold x6;rw[AN]
theorem gU{p:Nat}{k:Option Kn}(h:ks[p]?=some k):x6 ks [p]=(aG k).map fun q=>(p,q):=by unfold x6;simp[h]
theorem gb(k:Option Kn):(aG k).length≤2:=by unfold aG;split<;>simp
theorem dW(ks:List (Option Kn)):∀pl:List Nat,(x6 ks pl).length≤2*pl.length
 |[]=>by simp[x6]
 |p::r=>by
  have ih:=dW ks r;have e:=gZ ks [p] r;rw[Cv] at e;rw[e,Ac,AD];cases h:ks[p]? with
  |none=>
   have:x6 ks [p]=[]:=by unfold x6;simp[h]
   rw[this];simp;lia
  |some k=>
   rw[gU h,Ae];have:=gb k;lia
def gh:jj:=fun ys L Q=>∃a b,∃ks:List (Option Kn),∃pl:List Nat,ys=[.ref a,.ref b]/\L a=some (.lst (ak ks))/\L b=some (.lst (nY pl))/\pl.length≤1000/\(∀p∈pl,p<ks.length)/\∀p,L p=none->Q (.ref p) (qd L p (.lst (za (x6 ks pl))))
theorem wK:∀ys L Q,gh ys L Q->xq (pG gC) 4 ys L Q:=by
 rintro ys L Q ⟨a,b,ks,pl,rfl,ha,hb,hz,hlt,q⟩;intro p hp;have hap:a≠p:=xo ha hp;have hbp:b≠p:=xo hb hp;refine iq (ys:=nY pl) (vi ((qa hbp).trans hb)) (fun i τ L'=>∃c,τ=[some (.ref a),some (.ref b),some (.ref p),c]/\L'=qd L p (.lst (za (x6 ks (pl.take i))))) ⟨_,rfl,rfl⟩ ?_ ?_ ?_
 ·rintro i τ L' ⟨c,rfl,rfl⟩;rw[qa hbp,qa hbp]
 ·rintro i y τ L' hy ⟨c,rfl,rfl⟩;obtain⟨n,en,rfl⟩:=bP hy;have hn:=hlt n (AI en);obtain⟨k,ek⟩:∃k,ks[n]?=some k:=⟨_,Aj hn⟩;have a1:dg (ak ks) (n:Int)=some (fB k):=ve (by rw[Av,ek];rfl);have et:pl.take (i+1)=pl.take i++[n]:=by rw[Bo,en];rfl
  refine qe q9 (qe ((qa hap).trans ha) (qm a1 ⟨k,rfl,fun p2 hp2=>?_⟩));refine xz q9 fun keep kp=>cq (fun j zs=>zs=za (((aG k).take j).map fun q=>(n,q))) (by rw[kq];exact Bf (gb k) (by decide)) (kp _ rfl) rfl ?_ ?_
  ·rintro j y zs ey rfl;obtain⟨m,em,rfl⟩:=bP ey;refine⟨_,ED _,rfl,?_⟩;rw[Bo,em,AC];unfold za;rw[AC];rfl
  ·rintro zs rfl p3 hp3;rw[kq,Bn];have hp32:p≠p3:=xo ((qa (xo q9 hp2)).trans q9) hp3;refine qu ((qa hp32).trans ((qa (xo q9 hp2)).trans q9)) (qu q9 ⟨?_,?_⟩)
   ·rw[Ae,Ae,Ae];have h1:=dW ks (pl.take i);have h2:=gb k;have h3:(pl.take i).length≤1000:=by rw[AW];lia
    have hb:(3000:Nat)≤sizeLine:=by decide
    lia
   ·refine⟨qd L p (.lst (za (x6 ks (pl.take (i+1))))),?_,_,rfl,rfl⟩;have e:za (x6 ks (pl.take i))++za ((aG k).map fun q=>(n,q))=za (x6 ks (pl.take (i+1))):=by rw[et,gZ,gU ek];unfold za;rw[AC]
    rw[e];have n2:L p2=none:=aq (By hp) hp2;have n3:L p3=none:=aq ((By hp).trans (By hp2)) hp3;exact qk.put ((((By hp).trans (By hp2)).trans (By hp3)).upd hp) q9
 ·rintro τ L' ⟨c,rfl,rfl⟩;rw[kq,Bn];exact xu (q p hp)
def aH(ks:List (Option Kn))(lk ct:List (Nat×Nat)):List (Nat×Nat):=(lk++ct)++x6 ks (jt false ks)
def fQ:jj:=fun ys L Q=>∃a l c,∃ks:List (Option Kn),∃lk ct:List (Nat×Nat),ys=[cW a l c]/\L a=some (.lst (ak ks))/\L l=some (.lst (za lk))/\L c=some (.lst (za ct))/\ks.length≤1000/\lk.length≤1000/\ct.length≤1000/\∀p,L p=none->Q (.ref p) (qd L p (.lst (za (aH ks lk ct))))
theorem aba:∀ys L Q,fQ ys L Q->xq (uN gh lu) 1 ys L Q:=by
 rintro ys L Q ⟨a,l,c,ks,lk,ct,rfl,ha,hl,hc,hz,hz1,hz2,q⟩;have hb:(10000:Nat)<sizeLine:=by decide
 refine⟨_,_,hl,hc,by rw[Ae,Ae];lia,fun p1 hp1=>?_⟩;have ha1:=By (o:=.lst (za lk++za ct)) hp1 _ _ ha;refine⟨a,l,c,ks,rfl,ha1,hz,fun p2 hp2=>?_⟩;have ha2:=By (o:=.lst (nY (jt false ks))) hp2 _ _ ha1;refine⟨a,p2,ks,jt false ks,rfl,ha2,q9,AL (bR _ _ _) hz,fun p hp=>(cD hp).1,fun p3 hp3=>?_⟩;have e1:=By (o:=.lst (za (x6 ks (jt false ks)))) hp3 _ _ (By (o:=.lst (nY (jt false ks))) hp2 _ _ (q9 (L:=L) (a:=p1) (o:=.lst (za lk++za ct))));refine⟨_,_,e1,q9,?_,fun p4 hp4=>?_⟩
 ·have:=dW ks (jt false ks);have:(jt false ks).length≤ks.length:=bR (jo false) ks ks.length;rw[Ac,Ae,Ae,Ae];lia
 ·have n1:qk L (qd (qd (qd L p1 (.lst (za lk++za ct))) p2 (.lst (nY (jt false ks)))) p3 (.lst (za (x6 ks (jt false ks))))):=((By hp1).trans (By hp2)).trans (By hp3);have n4:L p4=none:=aq n1 hp4;refine eY (L:=qd L p4 (.lst (za (aH ks lk ct)))) ?_ (q p4 n4);have e:za lk++za ct++za (x6 ks (jt false ks))=za (aH ks lk ct):=by unfold za aH;rw[AC,AC]
  rw[e];exact qk.put (n1.upd n4) q9
end L3
namespace TS
open PySem PyProof.Rows PySem.W PySem.Calls
section
variable {w:World} 
abbrev keyBody(kx px:Str)(p1 p2 p3 p4 p5:Pos)(n:Nat):Expr:=.Tuple [.Subscript (.Name kx p1) (.Name px p2) p3,.Name px p4] n p5
structure lM(h:Heap)(f:Addr)(kx px:Str)(scope:Scope)(kvs:List Value):Prop where
 ex:∃(name qual:Str) (params:Arguments) (p1 p2 p3 p4 p5:Pos) (n:Nat) (pm ctv:Value) (c' cell k:Addr),h.get? f=some (kla_obj name qual params (keyBody kx px p1 p2 p3 p4 p5 n) scope [(kx,cell)] pm c' ctv)/\h.CodeRec (.ref c') qual/\
  h.IsCell cell (some (.ref k))/\h.IsList k kvs.toArray/\∀v:Value,bindArgs (kla_fn name qual params (keyBody kx px p1 p2 p3 p4 p5 n) scope [(kx,cell)] pm (.ref c') ctv) ⟨[v],[]⟩=pure [(px,v)]
 lim:h.NoLimit
structure KeySc(scope:Scope)(kx px:Str):Prop where
 kind:scope.kind=.function
 co:scope.isCoroutine=false
 gen:scope.isGenerator=false
 nc:∀x∈scope.names,x.2≠.cell
 lp:scope.names.lookup px=some .local
 lk:scope.names.lookup kx=some .free
 d1:(kx==("__debug__" : Str))=false
 d2:(px==("__debug__" : Str))=false
 d3:(kx==("__classdict__" : Str))=false
theorem lM.keeps{kvs:List Value}(k:lM h f kx px scope kvs)(hk:∀b o,h.get? b=some o->h'.get? b=some o):lM h' f kx px scope kvs:=by
 obtain⟨name,qual,params,p1,p2,p3,p4,p5,n,pm,ctv,c',cell,kk,g1,g2,g3,g4,g5⟩:=k.ex;refine⟨⟨name,qual,params,p1,p2,p3,p4,p5,n,pm,ctv,c',cell,kk,hk _ _ g1,?_,?_,?_,g5⟩,k.lim.keeps hk⟩
 ·obtain⟨c,oc,vs,tq,e1,e2,e3⟩:=g2;exact⟨c,oc,vs,tq,e1,hk _ _ e2,e3⟩
 ·obtain⟨o,e1,e2⟩:=g3;exact⟨o,hk _ _ e1,e2⟩
 ·obtain⟨o,e1,e2⟩:=g4;exact⟨o,hk _ _ e1,e2⟩
theorem al5{kvs:List Value}{u t:Tok}{r:Int}(K:lM s.heap f kx px scope kvs)(S:KeySc scope kx px)(hroom:A.depth<recursionLimit)(hi:kvs[i]?=some (.int r t))(hi2:i<2 ^ 40)
 (h:∀h' tk a,(∀b o,s.heap.get? b=some o->h'.get? b=some o)->h'.get? a=some { cls:=.type "tuple",data:=.seq #[.int r t,.int (i:Int) u] }->Q (.ref a) { s with heap:=h',toks:=tk }):
 wpAny (model prog w) A (call (.ref f) [.int (i:Int) u]) Q E s:=by
 obtain⟨name,qual,params,p1,p2,p3,p4,p5,n,pm,ctv,c',cell,kk,g1,g2,g3,g4,g5⟩:=K.ex;refine wpAny_call (kla_callFunE hroom g1 rfl S.co S.gen rfl g2 ?_);rw[g5];refine Ai (wpAny_newFunctionEnv S.nc (fun x hx=>by rw[Au.mp hx];exact S.lp) (fun h₁ hns hsb=>⟨K.lim.fresh _ hsb,?_⟩) S.kind);have k1:∀b o,s.heap.get? b=some o->h₁.get? b=some o:=fun b o e=>hsb.extBut b o (A3 (Heap.lt_size e)) (Heap.get?_push_of_some _ e);show codeAny _ _ (.expr _ (envX qual scope s.heap.objs.size f (.ref c') [(kx,cell)])) _ _;refine kla_codeExpr ?_;have look:(([(px,Value.int (i:Int) u)]:List (Str×Value)).reverse.lookup px)=some (.int (i:Int) u):=by simp
 have kf:(envX qual scope s.heap.objs.size f (.ref c') [(kx,cell)]).kindOf kx=some .free:=S.lk;have kp:(envX qual scope s.heap.objs.size f (.ref c') [(kx,cell)]).kindOf px=some .local:=S.lp;have cl:(envX qual scope s.heap.objs.size f (.ref c') [(kx,cell)]).cells.lookup kx=some cell:=by show([(kx,cell)]:List (Str×Addr)).lookup kx=_;simp
 have ic:h₁.IsCell cell (some (.ref kk)):=by obtain⟨o,e1,e2⟩:=g3;exact⟨o,k1 _ _ e1,e2⟩
 have il:h₁.IsList kk kvs.toArray:=by obtain⟨o,e1,e2⟩:=g4;exact⟨o,k1 _ _ e1,e2⟩
 refine wpAny_Tuple_spliced (Calls.spliced_cons (Subscript_ (wpAny_Name (wpAny_loadName_free S.kind kf cl ic (wpAny_Name (wpAny_loadName_local S.kind kp hns look ?_) S.d2) S.d3) S.d1)));refine item_listL il (by exact A2 _) (by omega) (by rw[show((i:Nat):Int).toNat=i from rfl];exact hi) ?_;refine Calls.spliced_cons (wpAny_Name (wpAny_loadName_local S.kind kp hns look ?_) S.d2);refine Calls.spliced_nil ⟨by show 2≤sizeLine;decide,?_⟩;exact h _ _ _ (fun b o e=>Heap.get?_push_of_some _ (k1 b o e)) (Heap.get?_push_size _ rfl)
end
theorem abx(f:α->β):∀{l m:List β},l.Perm m->∀{T:List α},T.map f=m->∃T':List α,T'.Perm T/\T'.map f=l:=by
 intro l m p
 induction p with
 |nil=>intro T e;exact⟨T,BN _,e⟩
 |cons x _ ih=>
  intro T e;cases T with
  |nil=>cases e
  |cons t r=>
   rw[AG] at e;obtain⟨e1,e2⟩:=CM e;obtain⟨T',p',e'⟩:=ih e2;exact⟨t::T',p'.cons t,by rw[AG,e',e1]⟩
 |swap x y l=>
  intro T e
  match T,e with
  |t::u::r,e=>
   rw[AG,AG] at e;obtain⟨e1,e2⟩:=CM e;obtain⟨e3,e4⟩:=CM e2;exact⟨u::t::r,List.Perm.swap t u r,by rw[AG,AG,e1,e3,e4]⟩
 |trans _ _ ih1 ih2=>
  intro T e;obtain⟨T1,p1,e1⟩:=ih2 e;obtain⟨T2,p2,e2⟩:=ih1 e1;exact⟨T2,p2.trans p1,e2⟩
def itV(x:Nat×Tok):Value:=.int (x.1:Int) x.2
def aim(h:Heap)(kS:Addr)(rk:Nat->Int)(k:Value)(x:Nat×Tok):Prop:=∃a t u,k=.ref a/\a≠kS/\h.get? a=some { cls:=.type "tuple",data:=.seq #[.int (rk x.1) t,.int (x.1:Int) u] }
def iD(h:Heap)(kS:Addr)(rk:Nat->Int):List Value->List (Nat×Tok)->Prop
 |[],[]=>True
 |k::ks,x::xs=>aim h kS rk k x/\iD h kS rk ks xs
 |_,_=>False
theorem iD.len{h:Heap}{kS:Addr}{rk:Nat->Int}:∀{ks:List Value} {xs:List (Nat×Tok)},iD h kS rk ks xs->ks.length=xs.length
 |[],[],_=>rfl
 |_::_,_::_,⟨_,b⟩=>by rw[AD,AD,iD.len b]
 |[],_::_,z=>z.elim
 |_::_,[],z=>z.elim
theorem iD.mem{h:Heap}{kS:Addr}{rk:Nat->Int}:∀{ks:List Value} {xs:List (Nat×Tok)},iD h kS rk ks xs->∀t∈ks.zip xs,aim h kS rk t.1 t.2
 |[],[],_,t,ht=>by cases ht
 |_::_,_::_,⟨a,b⟩,t,ht=>by
  rw[List.zip_cons_cons] at ht;rcases Ar.mp ht with rfl | ht
  ·exact a
  ·exact iD.mem b t ht
 |[],_::_,z,_,_=>z.elim
 |_::_,[],z,_,_=>z.elim
section
variable {w:World} 
theorem abr{g:Heap}{f:Addr}{kx px:Str}{scope:Scope}{kvs:List Value}{kS:Addr}{rk:Nat->Int}{body:Value->PUnit->Sem (ForInStep PUnit)}(K:lM g f kx px scope kvs)(S:KeySc scope kx px)(hroom:A.depth<recursionLimit)(hn:g.get? kS=none)
 (hb:∀(x:Value) (s:Shared) (Q':ForInStep PUnit->Shared->Prop),wpAny (model prog w) A (call (.ref f) [x]) (fun k s'=>wpAny (model prog w) A (Builtin.List.listUpdate (.ref kS) (·.push k)) (fun _ s''=>Q' (.yield ⟨⟩) s'') E s') (fun _ _=>False) s->wpAny (model prog w) A (body x ⟨⟩) Q' E s):
 ∀(ps:List (Nat×Tok)) (ks:List Value) (e:Nat) (s:Shared) (Q:PUnit->Shared->Prop),(∀b o,g.get? b=some o->s.heap.get? b=some o)->s.heap.get? kS=some (seqObj "list" ks.toArray e)->ks.length+ps.length≤100000->
  (∀x∈ps,x.1<2 ^ 40/\∃t,kvs[x.1]?=some (.int (rk x.1) t))->
  (∀h' tk ks2 e',(∀b o,b≠kS->s.heap.get? b=some o->h'.get? b=some o)->h'.get? kS=some (seqObj "list" (ks++ks2).toArray e')->iD h' kS rk ks2 ps->Q ⟨⟩ { s with heap:=h',toks:=tk })->
  wpAny (model prog w) A (forIn (ps.map itV) PUnit.unit body) Q E s
 |[],ks,e,s,Q,hg,hk,hz,hp,q=>by rw[C1,DX];exact Ai (q s.heap s.toks [] e (fun _ _ _ h=>h) (by rw[AZ];exact hk) trivial)
 |x::r,ks,e,s,Q,hg,hk,hz,hp,q=>by
  rw[AG,CN];rw[AD] at hz;obtain⟨x40,t,ht⟩:=hp x (An ..);have big:(100000:Nat)+1≤sizeLine:=by rw[sizeLine_eq];exact CP _ _
  refine Aa (hb (itV x) s _ (al5 (K.keeps hg) S hroom ht x40 fun h1 tk1 a k1 ha=>?_));have hkS1:h1.get? kS=some (seqObj "list" ks.toArray e):=k1 _ _ hk;have s1:=Heap.SameBut.update h1 kS (Obj.mapSeq (·.push (.ref a)));have ea:ks.toArray.push (.ref a)=List.toArray (ks++[.ref a]):=by simp
  obtain⟨c2,hc2⟩:∃c2,(h1.update kS (Obj.mapSeq (·.push (.ref a)))).get? kS=some (seqObj "list" (List.toArray (ks++[.ref a])) c2):=⟨_,by rw[<-ea];exact get?_update_seq hkS1 (·.push (.ref a))⟩;have nak:a≠kS:=fun z=>by
   rw[z,hkS1] at ha;have:=BG (fun o:Option Obj=>o.map (·.cls)) ha;have z2:some (Value.type "list")=some (Value.type "tuple"):=this;injection z2 with z3
   injection z3 with z4
   exact absurd z4 (by decide)
  refine listUpdate_at (s:={ s with heap:=h1,toks:=tk1 }) hkS1 rfl ?_ (by rw[Ao];lia) (AL (DM (Bm ..)) (by rw[Ao];lia));refine abr K S hroom hn hb r (ks++[.ref a]) c2 { s with heap:=h1.update kS (Obj.mapSeq (·.push (.ref a))),toks:=tk1 } Q (fun b o e=>?_) hc2 (by rw[Ac,Bp];lia) (fun y hy=>hp y (Ah _ hy)) fun h' tk ks2 e' kk hk' vs=>?_
  ·have nb:b≠kS:=fun z=>by rw[z,hn] at e;cases e
   exact(s1.2 b nb).trans (k1 b o (hg b o e))
  ·have keep1:∀b o,b≠kS->h1.get? b=some o->h'.get? b=some o:=fun b o nb e=>kk b o nb ((s1.2 b nb).trans e);refine q h' tk (.ref a::ks2) e' (fun b o nb e=>keep1 b o nb (k1 b o e)) (by rw[hk',Ax];rfl) ⟨⟨a,t,x.2,rfl,nak,keep1 a _ nak ha⟩,vs⟩
end
theorem se{α β γ:Type}{F:α->β}{G:α->γ}:∀{l:List α},(∀x∈l,∀y∈l,F x=F y->G x=G y)->(l.map G).Nodup->(l.map F).Nodup
 |[],_,_=>C7
 |a::r,h,n=>by rw[AG] at n ⊢;obtain⟨n1,n2⟩:=Aw.mp n;refine Aw.mpr ⟨fun z=>?_,se (fun x hx y hy=>h x (Ah _ hx) y (Ah _ hy)) n2⟩;obtain⟨y,hy,e⟩:=Bq.mp z;have:=h y (Ah _ hy) a (An ..) e;exact n1 (this▸Cf hy)
theorem abd{r1 r2 p1 p2:Int}(h1:0≤p1)(h2:p1<B)(h3:0≤p2)(h4:p2<B)(e:r1*B+p1=r2*B+p2):p1=p2:=by
 have hB:B≠0:=by lia
 have a1:(r1*B+p1) % B=p1:=by rw[Int.add_comm,Dp];exact Int.emod_eq_of_lt h1 h2
 have a2:(r2*B+p2) % B=p2:=by rw[Int.add_comm,Dp];exact Int.emod_eq_of_lt h3 h4
 rw[<-a1,e,a2]
section
variable {w:World} 
theorem ahf{g:Heap}{kvs:List Value}{kS a:Addr}{rk:Nat->Int}{ps:List (Nat×Tok)}{e1 e0:Nat}{P:PySem.Fin->Shared->Prop}(K:lM g f kx px scope kvs)(S:KeySc scope kx px)(hroom:A.depth<recursionLimit)(hn:g.get? kS=none)
 (hg:∀b o,g.get? b=some o->s.heap.get? b=some o) (hk:s.heap.get? kS=some (seqObj "list" #[] e0)) (ha:s.heap.get? a=some (seqObj "list" #[] e1)) (hka:kS≠a) (hz:ps.length≤100000)
 (hp:∀x∈ps,x.1<2 ^ 40/\∃t,kvs[x.1]?=some (.int (rk x.1) t)) (hB:∀x∈ps,((x.1:Nat):Int)<B) (nd:(ps.map (·.1)).Nodup)
 (h:∀h' tk (qs:List (Nat×Tok)) c,(∀b o,b≠kS->b≠a->s.heap.get? b=some o->h'.get? b=some o)->h'.get? a=some (seqObj "list" (qs.map itV).toArray c)->qs.Perm ps->(qs.Pairwise fun x y=>rk x.1*B+(x.1:Int)≤rk y.1*B+(y.1:Int))->P (.done (.ret .none)) { s with heap:=h',toks:=tk }):
 wpAny (model prog w) A (ksk_rest a (.ref f) false (ps.map itV).toArray e1 (.ref kS)) P E s:=by
 have big:(100000:Nat)+1≤sizeLine:=by rw[sizeLine_eq];exact CP _ _
 unfold ksk_rest;refine Aa (Bt ?_);rw[List.forIn_toArray];refine Aa (abr (rk:=rk) K S hroom hn (fun x s' Q' hx=>?_) ps [] e0 s _ hg hk (by simpa using hz) hp fun h' tk ks e' keep hk' kv=>?_)
 ·refine Aa (wpAny_attempt (A1 hx (fun k s'' hk=>?_) fun _ _ hF=>hF.elim))
  try dsimp only
  exact Aa (A1 hk (fun _ s3 q=>Ai q) fun _ _ e=>e)
 ·try dsimp only
  rw[DP] at hk';refine Aa (listItems_at (s:={ s with heap:=h',toks:=tk }) hk' rfl ?_);have ha':h'.get? a=some (seqObj "list" #[] e1):=keep _ _ (AH hka) ha;have len:ks.length=ps.length:=kv.len;obtain⟨T,eT⟩:∃T,T=ks.zip ps:=⟨_,rfl⟩;have kT:∀t∈T,aim h' kS rk t.1 t.2:=fun t ht=>kv.mem t (eT▸ht);have e2:T.map (·.2)=ps:=by rw[eT];exact List.map_snd_zip (by lia)
  have ez:ks.zip (ps.map itV)=T.map fun t=>(t.1,itV t.2):=by rw[eT,List.zip_map_right];rfl
  have mp:∀t∈T,t.2∈ps:=fun t ht=>by rw[<-e2];exact Cf ht
  have nT:∀t∈T,num h' B (t.1,itV t.2)=rk t.2.1*B+(t.2.1:Int):=fun t ht=>by obtain⟨b,tt,u,x1,x2,x3⟩:=kT t ht;exact num_of x1 x3 rfl
  have hB0:∀x∈ps,(0:Int)≤((x.1:Nat):Int):=fun _ _=>by exact A2 _
  have inj:((ks.zip (ps.map itV)).map (num h' B)).Nodup:=by
   rw[ez,BO];have e4:T.map (num h' B∘fun t=>(t.1,itV t.2))=(T.map (·.2)).map fun x:Nat×Tok=>rk x.1*B+(x.1:Int):=by rw[BO];exact Ce fun t ht=>nT t ht
   rw[e4,e2];refine se (G:=fun x:Nat×Tok=>x.1) (fun x hx y hy e=>?_) nd;have:=abd (hB0 x hx) (hB x hx) (hB0 y hy) (hB y hy) e;lia
  refine alm (s:={ s with heap:=h',toks:=tk }) (vs:=ps.map itV) (ks:=ks) (B:=B) hk' ha' hka (by rw[Ae];exact len) (by rw[Ae];exact i0) (fun v hv=>?_) inj fun h2 tk2 xs c keep2 hc pm pw=>?_
  ·obtain⟨j,hj⟩:=List.getElem?_of_mem hv;have hjl:j<ps.length:=by rw[<-len];exact(AY.mp hj).1
   have hm:(v,ps[j])∈T:=by rw[eT];refine List.mem_iff_getElem?.mpr ⟨j,?_⟩;rw[List.getElem?_zip_eq_some];exact⟨hj,Aj hjl⟩
   obtain⟨b,tt,u,x1,x2,x3⟩:=kT _ hm;have x1:v=.ref b:=x1;exact⟨b,_,_,_,_,tt,u,x1,x3,rfl,rfl,by exact A2 _,hB _ (mp _ hm)⟩
  ·rw[ez] at pm;obtain⟨T',pT,eT'⟩:=abx _ pm rfl;subst eT';have mT:∀t,t∈T'->t∈T:=fun t=>pT.mem_iff.mp;refine h h2 tk2 (T'.map (·.2)) c (fun b o n1 n2 e=>?_) ?_ ?_ ?_
   ·rw[keep2 b n1 n2];exact keep b o n1 e
   ·rw[hc,BO,BO];rfl
   ·rw[<-e2];exact pT.map _
   ·refine B7.mpr (Cb (fun {x y} hx hy z=>?_) (B7.mp pw));rw[nT x (mT x hx),nT y (mT y hy)] at z;exact z
theorem w_sortedK{kvs:List Value}{rk:Nat->Int}{ps:List (Nat×Tok)}(K:lM s.heap f kx px scope kvs)(S:KeySc scope kx px)(hroom:A.in1.in1.depth<recursionLimit)
 (hl:s.heap.IsList l (ps.map itV).toArray) (hz:ps.length≤100000)
 (hp:∀x∈ps,x.1<2 ^ 40/\∃t,kvs[x.1]?=some (.int (rk x.1) t)) (hB:∀x∈ps,((x.1:Nat):Int)<B) (nd:(ps.map (·.1)).Nodup)
 (h:∀h' tk (qs:List (Nat×Tok)) D c,s.heap.objs.size≤D->(∀b o,s.heap.get? b=some o->h'.get? b=some o)->h'.get? D=some (seqObj "list" (qs.map itV).toArray c)->qs.Perm ps->(qs.Pairwise fun x y=>rk x.1*B+(x.1:Int)≤rk y.1*B+(y.1:Int))->Q (.ref D) { s with heap:=h',toks:=tk }):
 wpAny (model prog w) A (call (.builtin "sorted") [.ref l] [(Str.ofString "key",.ref f)]) Q E s:=by
 have big:(100000:Nat)+1≤sizeLine:=by rw[sizeLine_eq];lia
 have hlen:(ps.map itV).length≤100000:=by rw[Ae];exact hz
 refine call_function_entry_kw kind_sorted plain_sorted entry_sorted (ksk_s1 _ _) ?_;unfold Builtin.«sorted»;refine Aa (m:=checkCount "sorted" 1 1 _) (Ai ?_);refine Aa (collect_list hl ?_ (by exact i0));refine Aa (wpAny_newList ?_ (by lia));obtain⟨g1,eg⟩:∃g1,g1=(s.heap.push (seqObj "list" #[] 0)).update s.heap.objs.size (Obj.mapSeq (· ++ (ps.map itV).toArray)):=⟨_,rfl⟩;have gs:g1.objs.size=s.heap.objs.size+1:=by rw[eg,Heap.size_update,size_push']
 have gk:∀b o,s.heap.get? b=some o->g1.get? b=some o:=fun b o q=>by have hlt:b<s.heap.objs.size:=Heap.lt_size q;rw[eg,Heap.get?_update_ne _ _ _ _ (A3 hlt)];exact Heap.get?_push_of_some _ q
 show wpAny _ _ _ _ _ { s with heap:=((s.heap.push (seqObj "list" #[] 0)).update s.heap.objs.size (Obj.mapSeq (· ++ (ps.map itV).toArray))).push (seqObj "list" (ps.map itV).toArray 0) };rw[<-eg];have hoD:(g1.push (seqObj "list" (ps.map itV).toArray 0)).get? g1.objs.size=some (seqObj "list" (ps.map itV).toArray 0):=Heap.get?_push_size _ rfl;have keep:∀b o,s.heap.get? b=some o->(g1.push (seqObj "list" (ps.map itV).toArray 0)).get? b=some o:=fun b o q=>Heap.get?_push_of_some _ (gk b o q);refine Aa (Bc (wpAny_call_entry_kw slot_list_sort ⟨_,hoD,rfl⟩ entry_list_sort ?body (ksk_l1 _ _)))
 case body=>
  obtain⟨D,eD⟩:∃D,D=g1.objs.size:=⟨_,rfl⟩;rw[<-eD] at hoD ⊢;show wpAny (model prog w) A.in1.in1 (Builtin.«list.sort» ⟨[.ref D],[(Str.ofString "key",.ref f)]⟩) _ _ _;rw[ksk_t1];obtain⟨g2,eg2⟩:∃g2,g2=g1.push (seqObj "list" (ps.map itV).toArray 0):=⟨_,rfl⟩;rw[<-eg2] at hoD keep ⊢;have s1:=Heap.SameBut.update g2 D (Obj.mapSeq fun _=>(#[]:Array Value));obtain⟨e1,ho1⟩:∃e1,(g2.update D (Obj.mapSeq fun _=>(#[]:Array Value))).get? D=some (seqObj "list" #[] e1):=⟨_,get?_update_seq hoD fun _=>#[]⟩;have nD:∀b o,s.heap.get? b=some o->b≠D:=fun b o q z=>by have hlt:b<s.heap.objs.size:=Heap.lt_size q;rw[z,eD,gs] at hlt;exact Nat.not_succ_lt_self hlt
  unfold ksk_tree;refine Aa (listItems_at (s:={ s with heap:=g2 }) hoD rfl ?_);refine Aa (listUpdate_at (s:={ s with heap:=g2 }) hoD rfl ?_ (by rw[Ao];exact i0) (Bl _));refine Aa (seqEpoch_at ho1 rfl ?_);refine Aa (wpAny_newTuple ?_ (by show(ps.map itV).length≤_;lia));refine Aa (wpAny_newList ?_ (Bl _));refine Bc ?_;obtain⟨g3,eg3⟩:∃g3,g3=(g2.update D (Obj.mapSeq fun _=>(#[]:Array Value))).push (seqObj "tuple" (ps.map itV).toArray 0):=⟨_,rfl⟩;have k3:∀b o,s.heap.get? b=some o->g3.get? b=some o:=fun b o q=>by rw[eg3];exact Heap.get?_push_of_some _ ((s1.2 b (nD b o q)).trans (keep b o q))
  have d3:g3.get? D=some (seqObj "list" #[] e1):=by rw[eg3];exact Heap.get?_push_of_some _ ho1
  show wpAny (model prog w) A.in1.in1 (ksk_rest D (.ref f) false (ps.map itV).toArray _ (.ref ((g2.update D (Obj.mapSeq fun _=>(#[]:Array Value))).push (seqObj "tuple" (ps.map itV).toArray 0)).objs.size)) _ _ { s with heap:=((g2.update D (Obj.mapSeq fun _=>(#[]:Array Value))).push (seqObj "tuple" (ps.map itV).toArray 0)).push (seqObj "list" #[] 0) };rw[<-eg3];have hkS:(g3.push (seqObj "list" #[] 0)).get? g3.objs.size=some (seqObj "list" #[] 0):=Heap.get?_push_size _ rfl;refine ahf (s:={ s with heap:=g3.push (seqObj "list" #[] 0) }) (g:=s.heap) (kS:=g3.objs.size) (a:=D) (rk:=rk) (B:=B) K S hroom (Heap.get?_none_of_le ?_) (fun b o q=>Heap.get?_push_of_some _ (k3 b o q)) hkS (Heap.get?_push_of_some _ d3) ?_ hz hp hB nd fun h' tk qs c kp hD pm pw=>?_
  ·have l1:g3.objs.size=g1.objs.size+2:=by rw[eg3,size_push',Heap.size_update,eg2,size_push']
   rw[l1,gs];exact AL (Cn _) (A4 _ 2)
  ·exact(A3 (Heap.lt_size d3)).symm
  ·refine⟨_,rfl,Ai ⟨_,rfl,h h' tk qs D c (by rw[eD,gs];exact Cn _) (fun b o q=>?_) hD pm pw⟩⟩;exact kp b o (A3 (Heap.lt_size (k3 b o q))) (nD b o q) (Heap.get?_push_of_some _ (k3 b o q))
end
end TS
namespace L2
open PySem PySem.Spec PyProof.Rows
theorem oS{i j:Int}{t u:Tok}{c:Value}(l:List Value)(h:TriplesOk l):TriplesOk (l++[.int i t,.int j u,c]):=by
 fun_induction TriplesOk l with
 |case1=>trivial
 |case2 _ _ _ _ _ rest ih=>exact ih h
 |case3=>exact h.elim
theorem uS{i j:Int}{t u:Tok}{c cv:Value}(l:List Value)(h:TriplesOk l)(e:codeAmong pos (l++[.int i t,.int j u,c])=some cv):codeAmong pos l=some cv\/cv=c:=by
 fun_induction TriplesOk l with
 |case1=>
  right;have e:(if i==pos.line&&j==pos.col then some c else none)=some cv:=e;split at e
  ·cases e;rfl
  ·cases e
 |case2 a _ b _ d rest ih=>
  have e:(if a==pos.line&&b==pos.col then some d else codeAmong pos (rest++[.int i t,.int j u,c]))=some cv:=e;show(if a==pos.line&&b==pos.col then some d else codeAmong pos rest)=some cv\/cv=c;split at e
  ·rename_i z;rw[As z];exact .inl e
  ·rename_i z;rw[Aq z];exact ih h e
 |case3=>exact h.elim
structure ym(K:Af)(cdv:Value)(P:Addr):Prop where
 ex:∃c oc,cdv=.ref c/\K.lookup c=some oc/\∀h:Heap,h.get? c=some oc->PySem.W.CodeHd h c P
 bm:∃bm ob,PySem.W.nsIn K mainGlobals "__builtins__" = some (some (.ref bm))/\bm≠builtinsNs/\bm≠mainGlobals/\K.lookup bm=some ob/\ob.cls=.type "module" /\ ob.dict=some builtinsNs/\ob.data=.plain
theorem sQ:∀{l:List Nat} {us:List Value},zk (l.map fun i:Nat=>V.int (0+(i:Int))) us->∃ps:List (Nat×Tok),us=ps.map TS.itV/\ps.map (·.1)=l
 |[],_,.nil=>⟨[],rfl,rfl⟩
 |i::r,_,.cons (b:=u) h t=>by obtain⟨ps,e1,e2⟩:=sQ (l:=r) t;obtain⟨tk,e3⟩:=(show ∃tk,u=Value.int (0+(i:Int)) tk from h);refine⟨(i,tk)::ps,?_,by rw[AG,e2]⟩;rw[AG,e1,e3];show _=Value.int (i:Int) tk::_;rw[Int.zero_add]
theorem sV:∀ps:List (Nat×Tok),zk (ps.map fun x=>V.int ((x.1:Nat):Int)) (ps.map TS.itV)
 |[]=>.nil
 |x::r=>.cons ⟨x.2,rfl⟩ (sV r)
def ai6(P:Addr)(q:Str)(ik:Nat)(te:TE):TE:=fun σ H Q=>te σ H fun v H1=>∃l kk,∃n:Nat,∃rks:List Int,v=.ref l/\H1 l=some (.lst ((List.range n).map fun i:Nat=>V.int (0+(i:Int))))/\σ[ik]?=some (some (.ref kk))/\H1 kk=some (.lst (rks.map V.int))/\rks.length=n/\n≤1000/\o7 H1 P q/\
 ∀H2 D (qs:List Nat),(∀b u,b≠P->H1 b=some u->H2 b=some u)->o7 H2 P q->H1 D=none->D≠P->H2 D=some (.lst (qs.map fun i:Nat=>V.int (i:Int)))->qs.Perm (List.range n)->(qs.Pairwise fun i j=>rks.getD i 0*1000000+(i:Int)≤rks.getD j 0*1000000+(j:Int))->Q (.ref D) H2
section
theorem ye{kk cell c':Addr}{params:Arguments}{ctv:Value}{Q:VK}(I:qw X pins σ H s)(S:TS.KeySc lscope kx px)(hr:X.A.depth+3<recursionLimit)
 (hf:s.heap.get? f=some (PySem.W.kla_obj name qual params (TS.keyBody kx px p1 p2 p3 p4 p5 x1) lscope [(kx,cell)] pm c' ctv)) (hcd:s.heap.CodeRec (.ref c') qual) (hcell:s.heap.IsCell cell (some (.ref kk)))
 (hb:∀v:Value,bindArgs (PySem.W.kla_fn name qual params (TS.keyBody kx px p1 p2 p3 p4 p5 x1) lscope [(kx,cell)] pm (.ref c') ctv) ⟨[v],[]⟩=pure [(px,v)])
 (hl:H l=some (.lst ((List.range n).map fun i:Nat=>V.int (0+(i:Int))))) (hk:H kk=some (.lst (rks.map V.int))) (hn:rks.length=n) (hz:n≤1000)
 (q:∀D (qs:List Nat),H D=none->qs.Perm (List.range n)->(qs.Pairwise fun i j=>rks.getD i 0*1000000+(i:Int)≤rks.getD j 0*1000000+(j:Int))->Q (.ref D) (upd H D (.lst (qs.map fun i:Nat=>V.int (i:Int))))):
 wpAny (model X.prog X.w) X.A (call (.builtin "sorted") [.ref l] [(Str.ofString "key",.ref f)]) (EP X pins σ Q) X.xe s:=by
 obtain⟨its,rv,pl,_⟩:=I.list (ER hl);obtain⟨kits,rk,pk,_⟩:=I.list (ER hk);obtain⟨ps,rfl,eps⟩:=sQ rv;have lk:kits.length=n:=by rw[<-rk.length,Ae,hn]
 have lp:ps.length=n:=by have:=BG List.length eps;rwa[Ae,AX] at this
 have big:(100000:Nat)≤sizeLine:=by decide
 refine jw I.tk (TS.w_sortedK (rk:=fun i=>rks.getD i 0) (B:=1000000) (kvs:=kits) ⟨⟨name,qual,params,p1,p2,p3,p4,p5,x1,pm,ctv,c',cell,kk,hf,hcd,hcell,pk.isList,hb⟩,I.nolimit⟩ S ?_ pl.isList (by lia) (fun x hx=>?_) (fun x hx=>?_) ?_ fun h' tk qs D c hD keep hg pm' pw ht=>?_)
 ·show X.A.depth<recursionLimit;lia
 ·have hx1:x.1∈List.range n:=by rw[<-eps];exact Cf hx
  have hx2:=AF.mp hx1;refine⟨by lia,?_⟩;have e1:(rks.map V.int)[x.1]?=some (V.int (rks.getD x.1 0)):=by rw[Av,Aj (by lia),Bv,Aj (by lia)];rfl
  obtain⟨u,e2,r2⟩:=Words.Paired.getP rk e1;obtain⟨t,rfl⟩:=(show ∃t,u=Value.int (rks.getD x.1 0) t from r2);exact⟨t,e2⟩
 ·have hx1:x.1∈List.range n:=by rw[<-eps];exact Cf hx
  have hx2:=AF.mp hx1;omega
 ·rw[eps];exact Bw
 ·have hfr:H D=none:=I.hok.fresh hD;refine⟨.ref D,_,I.laid (t':=tk) (o:=.lst ((qs.map (·.1)).map fun i:Nat=>V.int (i:Int))) keep hD ?_,rfl,q D (qs.map (·.1)) hfr ?_ ?_⟩
  ·refine⟨?_,qs.map TS.itV,c,?_,hg⟩
   ·rw[Ae,Ae,pm'.length_eq];lia
   ·rw[BO];exact sV qs
  ·rw[<-eps];exact pm'.map _
  ·exact B7.mpr pw
end
section
theorem qw.tabbed{P c':Addr}{ps more:Array Value}{oc fo:Obj}{tk:Nat}(I:qw X pins σ H s)(hP:H P=some (.tbl ps))(hx:Heap.ExtBut P s.heap h')(htb:h'.get? P=some (PySem.W.tabObj (ps++more)))
 (hc:s.heap.objs.size≤c') (hoc:h'.get? c'=some oc) (ht:0<tk):qw X pins σ (upd (upd H P (.tbl (ps++more))) c' (.frz oc (.own 0))) { s with heap:=h'.push fo,toks:=tk }:=by
 have nc:H c'=none:=I.hok.fresh hc;have nP:∀b,H b=none->b≠P:=fun b e z=>by rw[z,hP] at e;cases e
 have nC:∀b u,H b=some u->b≠c':=fun b u e z=>by rw[z,nc] at e;cases e
 have oldC:∀b o,s.heap.get? b=some o->b≠c':=fun b o e=>A3 (AO (Heap.lt_size e) hc);have kp:∀b o,b≠P->s.heap.get? b=some o->(h'.push fo).get? b=some o:=fun b o n e=>Heap.get?_push_of_some _ (hx b o n e);have nPt:∀b u,H b=some u->(∀ps,u≠.tbl ps)->b≠P:=fun b u e d z=>by rw[z,hP] at e;cases e;exact d _ rfl
 refine I.step (ch:=[]) (g':=s.gens) (d':=s.drawn) (t':=tk) (fun _ z=>nomatch z) (fun b o _ _ _ e n=>kp b o (nP b n) e) (fun b o _ _ _ e n=>⟨o.slots,kp b o (nP b n) e⟩) (fun b o _ e n=>?_) (fun b o _ e=>?_) (fun b xs e=>?_) (fun b o u e=>?_) (fun b qs e=>?_) (fun m hm=>?_) (fun b u e=>?_) I.bare ht
 ·rw[qo (oldC b o e),qo (nP b n)];exact n
 ·by_cases c:b=P
  ·subst c;exact⟨_,Heap.get?_push_of_some _ htb⟩
  ·exact⟨o,kp b o c e⟩
 ·rw[qo (nC b _ e),qo (nPt b _ e fun _ z=>by cases z)];exact e
 ·rw[qo (nC b _ e),qo (nPt b _ e fun _ z=>by cases z)];exact e
 ·rw[qo (nC b _ e)];by_cases c:b=P
  ·subst c;rw[hP] at e;cases e;exact⟨more,zv⟩
  ·rw[qo c];exact⟨#[],by rw[e];simp⟩
 ·exact(hm.extBut hx (nP _ I.free)).push _
 ·by_cases c:b=c'
  ·subst c;rw[zv] at e;cases e;exact⟨Heap.get?_push_of_some _ hoc,_,Heap.get?_push_of_some _ hoc⟩
  ·rw[qo c] at e;by_cases d:b=P
   ·subst d;rw[zv] at e;cases e;exact Heap.get?_push_of_some _ htb
   ·rw[qo d] at e;refine(I.hok b u e).stay (fun a v ha r=>kp a v ?_ r) (fun a r=>?_) (fun a xs r=>?_)
    ·rcases ha with rfl | ha
     ·exact d
     ·exact nPt a _ ha fun _ z=>by cases z
    ·rw[qo (nC a _ r),qo (nPt a _ r fun _ z=>by cases z)];exact r
    ·rw[qo (nC a _ r),qo (nPt a _ r fun _ z=>by cases z)];exact r
theorem ab9{te:TE}{params:Arguments}{lpos:Pos}{ik:Nat}{P:Addr}(hg:Gl X "sorted")(hm:X.mg "sorted" = none)(he:PE X e te)(S:TS.KeySc lscope kx px)(C:ym X.K X.env.code P)(hr:X.A.depth+3<recursionLimit)
 (hq:X.env.qual ++ "<lambda>" = q) (hix:X.N[ik]?=some kx) (hck:X.env.scope.names.lookup kx=some .cell) (hclo:∃cell,X.env.cells.lookup kx=some cell/\closureFor lscope X.env=pure [(kx,cell)])
 (hdef:defaultsOf params X.env=([],[])) (hb:∀(name qual:Str) (cl:List (Str×Addr)) (pm cd ct v:Value),bindArgs (PySem.W.kla_fn name qual params (TS.keyBody kx px p1 p2 p3 p4 p5 x1) lscope cl pm cd ct) ⟨[v],[]⟩=pure [(px,v)])
 (h1:starEach [e] X.env=(false,eval e X.env)::starEach [] X.env:=by rfl) (h2:(backTo pos (starEach [e] X.env)).any (·.1)=false:=by rfl)
 (h3:backTo pos (starEach [e] X.env)=(false,eval e X.env)::backTo pos (starEach [] X.env):=by rfl):
 PE X (.Call (.Name "sorted" p) [e] [⟨some "key",.Lambda params (TS.keyBody kx px p1 p2 p3 p4 p5 x1) lscope lpos,kpos⟩] pos) (ai6 P q ik te):=by
 intro pins s σ H Q I h;refine wpAny_Call_Name_kw (fG I hg hm (by decide +kernel:bootBuiltins "sorted" = some (.builtin "sorted")) ?_ (by decide) (by decide));refine PyProof.Rows.callWith_kw ?_ h3 h2;rw[h3];refine Calls.spliced_cons (xt (he pins s σ H _ I h) fun v s1 ⟨x,H1,I1,rx,l,kk,n,rks,ev,hl,hs,hk,hn,hz,T,qq⟩=>?_);refine Calls.spliced_nil ?_;subst ev;cases (show v=Value.ref l from rx);show wpAny _ _ (evalAll ((do let v <-eval (.Lambda params (TS.keyBody kx px p1 p2 p3 p4 p5 x1) lscope lpos) X.env;standAt pos;pure v)::[])) _ _ s1;refine wpAny_evalAll_cons (Aa ?_);obtain⟨cell,ecell,eclo⟩:=hclo;obtain⟨c,oc0,ecd,lc,hC⟩:=C.ex;obtain⟨bm,ob,b1,b2,b3,b4,b5,b6,b7⟩:=C.bm;obtain⟨tps,tP,tok,tall⟩:=T;have hgs:s1.heap.Ns mainGlobals X.mg:=I1.ok.mod.glob.keeps I1.bk;have hPo:s1.heap.get? P=some (PySem.W.tabObj tps):=I1.hok P _ tP;have Chd:PySem.W.CodeHd s1.heap c P:=hC _ (I1.kIn c oc0 lc);have baseNe:∀b o,X.base.get? b=some o->b≠P:=fun b o e z=>by have:=(I1.bs b o e).2;rw[z,tP] at this;cases this
 have hbmB:=I1.ok.mod.kin bm ob b4;have hB:s1.heap.BuiltinsAt X.mg P:=⟨bm,ob,CL I1.ok.mod.kin I1.ok.mod.glob b1,b2,b3,baseNe _ _ hbmB,(I1.bs _ _ hbmB).1,b5,b6,b7⟩;have hgP:mainGlobals≠P:=by obtain⟨o,es,ep,e,hd,_⟩:=I1.ok.mod.glob;exact baseNe _ _ e
 have hcell:s1.heap.IsCell cell (some (.ref kk)):=by
  obtain⟨m,_,hl'⟩:=I1.loc;obtain⟨u,ru,lk⟩:=hl' ik kx _ hix hs (.inr (.inl hck));cases (show u=Value.ref kk from ru);rcases lk with⟨k1,_⟩ | ⟨_,c2,e2,hc2⟩
  ·have k1:X.env.scope.names.lookup kx=some .local:=k1;rw[hck] at k1;cases k1
  ·rw[ecell] at e2;cases e2;exact hc2
 refine PySem.W.kla_eval hdef ?_;rw[hq];have xu:∀(s2:Shared) (H2:Hp) (f c':Addr) (ctv pm:Value),qw X pins σ H2 s2->s2.heap.get? f=some (PySem.W.kla_obj "<lambda>" q params (TS.keyBody kx px p1 p2 p3 p4 p5 x1) lscope [(kx,cell)] pm c' ctv)->s2.heap.CodeRec (.ref c') q->s2.heap.IsCell cell (some (.ref kk))->
  (∀b u,b≠P->H1 b=some u->H2 b=some u)->o7 H2 P q->(∀b,H2 b=none->H1 b=none)->
  wpAny (model X.prog X.w) X.A (do standAt pos;pure (Value.ref f)) (fun v s'=>wpAny (model X.prog X.w) X.A (evalAll []) (fun vs s''=>wpAny (model X.prog X.w) X.A (call (.builtin "sorted") [.ref l] ([Str.ofString "key"].zip (v::vs))) (EP X pins σ Q) X.xe s'') X.xe s') X.xe s2:=by
  intro s2 H2 f c' ctv pm I2 g1 g2 g3 g4 g5 g6;refine Aa (wpAny_standAt (Ai (wpAny_evalAll_nil ?_)));have lP:l≠P:=fun z=>by rw[z,tP] at hl;cases hl
  have kP:kk≠P:=fun z=>by rw[z,tP] at hk;cases hk
  refine ye (n:=n) (rks:=rks) I2 S hr g1 g2 g3 (fun v=>hb _ _ _ _ _ _ v) (g4 _ _ lP hl) (g4 _ _ kP hk) hn hz fun D qs hD pm' pw=>?_;have nDP:D≠P:=fun z=>by obtain⟨ps2,e2,_⟩:=g5;rw[z,e2] at hD;cases hD
  refine qq _ D qs (fun b u n e=>?_) ?_ (g6 D hD) nDP zv pm' pw
  ·rw[qo (j5 (g4 b u n e) hD)];exact g4 b u n e
  ·exact g5.keep (qo (AH nDP)) fun b o u e=>by rw[qo (j5 e hD)];exact e
 cases hf:codeAmong lpos tps.toList with
 |some cv=>
  obtain⟨c',oc,vs,t,ecv,f1,f2,f3⟩:=tall lpos cv hf;subst ecv;refine jw I1.tk (PySem.W.kla_makeFunctionHit (mg:=X.mg) eclo I1.ok.glob hgs ecd Chd hPo tok hf hB fun ctv h' tk hk' hsz ht=>?_);have I2:qw X pins σ H1 { s1 with heap:=h'.push { cls:=.type "function",data:=.func (PySem.W.kla_fn "<lambda>" q params (TS.keyBody kx px p1 p2 p3 p4 p5 x1) lscope [(kx,cell)] ((X.mg "__name__").getD .none) (.ref c') ctv) },toks:=tk }:=I1.kept (t':=tk) fun b o e=>Heap.get?_push_of_some _ (hk' b o e);obtain⟨hoc,_⟩:=I2.hok c' _ f1;refine xu _ H1 _ c' ctv _ I2 (Heap.get?_push_size _ rfl) ⟨c',oc,vs,t,rfl,hoc,f2,f3⟩ ?_ (fun b u _ e=>e) ⟨tps,tP,tok,tall⟩ (fun b e=>e);obtain⟨o,e1,e2⟩:=hcell;exact⟨o,Heap.get?_push_of_some _ (hk' _ _ e1),e2⟩
 |none=>
  refine jw I1.tk (PySem.W.kla_makeFunction (mg:=X.mg) eclo I1.ok.glob hgs ecd Chd hPo tok hf hgP hB fun c' ctv h' tk hx hge hlt hrec htb ht=>?_);obtain⟨c2,oc,vs,t,e2,hoc,f2,f3⟩:=hrec;cases e2;have I2:=I1.tabbed (fo:=PySem.W.kla_obj "<lambda>" q params (TS.keyBody kx px p1 p2 p3 p4 p5 x1) lscope [(kx,cell)] ((X.mg "__name__").getD .none) c' ctv) tP hx htb hge hoc ht;have nc:H1 c'=none:=I1.hok.fresh hge;have cP:c'≠P:=fun z=>by rw[z,tP] at nc;cases nc
  refine xu _ _ _ c' ctv _ I2 (Heap.get?_push_size _ rfl) ⟨c',oc,vs,t,rfl,Heap.get?_push_of_some _ hoc,f2,f3⟩ ?_ (fun b u n e=>?_) ?_ (fun b e=>?_)
  ·obtain⟨o,e1,e2⟩:=hcell;have nP:cell≠P:=fun z=>by have:=I1.freeC kx cell ecell;rw[z,tP] at this;cases this
   exact⟨o,Heap.get?_push_of_some _ (hx _ _ nP e1),e2⟩
  ·rw[qo (j5 e nc),qo n];exact e
  ·refine⟨tps++#[rawInt lpos.line,rawInt lpos.col,.ref c'],by rw[qo (AH cP),zv],?_,fun pos' cv z=>?_⟩
   ·rw[A6];exact oS _ tok
   ·rw[A6] at z;rcases uS _ tok z with z | z
    ·obtain⟨d',od,vs',t',k1,k2,k3⟩:=tall pos' cv z;have nP:d'≠P:=fun z=>by rw[z,tP] at k2;cases k2
     exact⟨d',od,vs',t',k1,by rw[qo (j5 k2 nc),qo nP];exact k2,k3⟩
    ·exact⟨c',oc,vs,t,z,zv,f2,f3⟩
  ·by_cases d:b=c'
   ·subst d;exact nc
   ·rw[qo d] at e;by_cases d2:b=P
    ·subst d2;rw[zv] at e;cases e
    ·rw[qo d2] at e;exact e
end
end L2
namespace L3
open PySem L2
def aan(Pt:Addr)(q:Str)(ik:Nat)(te:xw)(τ:ji)(L:ql)(Q:YK):Prop:=te τ L fun y L1=>match y with
 |.ref l=>dO L1 l fun ys=>∃(n:Nat) (rks:List Int) (kk:Addr),ys=wo 0 n/\tG τ ik=some (.ref kk)/\L1 kk=some (.lst (rks.map Y.int))/\rks.length=n/\n≤1000/\L1 Pt=some (.tb q)/\
  ∀(D:Addr) (qs:List Nat),L1 D=none->qs.Perm (List.range n)->(qs.Pairwise fun i j=>rks.getD i 0*1000000+(i:Int)≤rks.getD j 0*1000000+(j:Int))->Q (.ref D) (qd L1 D (.lst (qs.map fun i:Nat=>Y.int (i:Int))))
 |_=>False
theorem mw{G:G3}{H:Hp}:∀{l:List Nat} {xs:List V},xi G H (l.map fun i:Nat=>Y.int (0+(i:Int))) xs->xs=l.map fun i:Nat=>V.int (0+(i:Int))
 |[],_,h=>h
 |_::_,_,⟨x,xs',e,r,s⟩=>by subst e;cases r;rw[mw s];rfl
theorem gJ{G:G3}{H:Hp}:∀{l:List Int} {xs:List V},xi G H (l.map Y.int) xs->xs=l.map V.int
 |[],_,h=>h
 |_::_,_,⟨x,xs',e,r,s⟩=>by subst e;cases r;rw[gJ s];rfl
theorem rZ{G:G3}{H:Hp}:∀qs:List Nat,xi G H (qs.map fun i:Nat=>Y.int (i:Int)) (qs.map fun i:Nat=>V.int (i:Int))
 |[]=>rfl
 |_::r=>⟨_,_,rfl,rfl,rZ r⟩
theorem abu{params:Arguments}{lpos:Pos}{ik:Nat}(hg:Gl X "sorted")(hm:X.mg "sorted" = none)(he:QE X e te)(S:TS.KeySc lscope kx px)(C:ym X.K X.env.code Pt)(hr:X.A.depth+3<recursionLimit)
 (hq:X.env.qual ++ "<lambda>" = q) (hix:X.N[ik]?=some kx) (hck:X.env.scope.names.lookup kx=some .cell) (hclo:∃cell,X.env.cells.lookup kx=some cell/\closureFor lscope X.env=pure [(kx,cell)])
 (hdef:defaultsOf params X.env=([],[])) (hb:∀(name qual:Str) (cl:List (Str×Addr)) (pm cd ct v:Value),bindArgs (PySem.W.kla_fn name qual params (TS.keyBody kx px p1 p2 p3 p4 p5 x1) lscope cl pm cd ct) ⟨[v],[]⟩=pure [(px,v)])
 (h1:starEach [e] X.env=(false,eval e X.env)::starEach [] X.env:=by rfl) (h2:(backTo pos (starEach [e] X.env)).any (·.1)=false:=by rfl)
 (h3:backTo pos (starEach [e] X.env)=(false,eval e X.env)::backTo pos (starEach [] X.env):=by rfl):
 QE X (.Call (.Name "sorted" p) [e] [⟨some "key",.Lambda params (TS.keyBody kx px p1 p2 p3 p4 p5 x1) lscope lpos,kpos⟩] pos) (aan Pt q ik te):=
 EF (ab9 hg hm he S C hr hq hix hck hclo hdef hb h1 h2 h3) fun σ H Q ⟨τ,L,Q3,rs,rl,z,k⟩=>by
  refine⟨τ,L,_,rs,rl,z,fun v H1 y L1 t1 rl1 rv z=>?_⟩;cases y with
  |ref l=>
   obtain⟨ys,e1,n,rks,kk,rfl,e2,e3,hn,hz,eP,qq⟩:=v9 z;cases rv;obtain⟨xs,h1,r1⟩:=rl1 l _ e1;obtain⟨xk,h2,r2⟩:=rl1 kk _ e3;have T:o7 H1 Pt q:=rl1 Pt _ eP;cases mw r1;cases gJ r2;obtain⟨v,hv,rv⟩:=rs.get ik _ (pD _ _ e2);cases rv;refine⟨l,kk,n,rks,rfl,h1,hv,h2,hn,hz,T,fun H2 D qs kp T2 hD nDP hD2 pm pw=>?_⟩;have tb:∃ps,H1 Pt=some (.tbl ps):=let ⟨ps,e,_⟩:=T;⟨ps,e⟩;have t2:j7 H1 H2:=fun a u i h=>kp a u (fun c=>by obtain⟨ps,e⟩:=tb;rw[c,e] at h;cases h;cases i) h
   refine k _ _ _ _ (t1.trans t2) (fun a u e=>?_) (by rfl) (qq D qs (rl1.none hD) pm pw);by_cases c:a=D
   ·subst c;rw[q9] at e;cases e;exact⟨_,hD2,rZ qs⟩
   ·rw[qa c] at e;by_cases d:a=Pt
    ·subst d;rw[eP] at e;cases e;exact T2
    ·obtain⟨x,hx⟩:=(rl1 a u e).ex;exact(rl1 a u e).keep t2 (by rw[hx];exact kp a x d hx)
  |_=>exact z.elim
structure ajy(K:Af)(x qual:Str)(st:Stmt)(f:Addr)(fd:FuncData)(Pt:Addr):Prop where
 ex:∃(oc:Value) (od:Option Addr) (kV doc pm:Value) (an:Option Addr) (cdv ct:Value) (osl:Array (Option Value)),
  fd=PySem.W.fnOf x qual (x9 st) (je st) (qr st) .none kV doc pm an cdv ct/\K.lookup f=some ⟨oc,od,.func fd,osl⟩/\PySem.W.codeIn K cdv qual=true/\ym K cdv Pt
 kp:PySem.W.keepIn K (.ref f)=true
theorem anz{P:Program}{w:World}{K:Af}{N:List Str}{k:Nat}(F:ajy K x qual st f fd Pt)(S:aN N ps (qr st))(len:∀ys L Q,sp ys L Q->ys.length=ps.length)
 (hbody:∀(cdv:Value) (A:Around) (outer:List Env) (s:Shared) (H:Hp) (E:XK),ym K cdv Pt->vm k (A.deeper (PyProof.Rows.envOfC qual (qr st) s.heap.objs.size f cdv))->
  ∃t,pZ (iZ CX0 P w K mg base N qual (qr st) f cdv A outer s H E).nox (je st) t/\∀ys L Q,sp ys L Q->t { nx:=fun _ L'=>iY Q .non L',rt:=iY Q } (gj N ys) L):Fn3 P w K mg base (k+1) f fd ps sp:=by
 obtain⟨oc,od,kV,doc,pm,an,cdv,ct,osl,rfl,lk,hcd,C⟩:=F.ex;have F0:zE K x qual st f _:=⟨⟨oc,od,kV,doc,pm,an,cdv,ct,osl,rfl,lk,hcd⟩,F.kp⟩;refine agf lk hcd S (fun vs H Q E ⟨ys,L,Q3,rv,rl,z,_⟩=>by rw[<-rv.length];exact len ys L Q3 z) fun A outer s H vs Q E hr ⟨ys,L,Q3,rv,rl,z,k⟩=>?_;obtain⟨t,ht,q⟩:=hbody cdv A outer s H E C hr;refine⟨_,jP.nox ht,gj N ys,L,_,mh rv,rl,q ys L Q3 z,?_⟩;exact⟨fun σ H' τ L' t' rs' rl' ⟨L2,s2,q2⟩=>k .non H' .non L2 t' (rl'.sub s2) (by rfl) q2,fun v H' y L' t' rl' rv' ⟨L2,s2,q2⟩=>k v H' y L2 t' (rl'.sub s2) rv' q2,fun _ _ _ _ _ _ _ z=>z.elim,fun _ _ _ _ _ _ _ z=>z.elim⟩
def ow(Pt:Addr)(q:Str):jj:=fun ys L Q=>∃ns:List Int,ys=[.sq (ns.map Y.int)]/\ns.length≤63/\L=qd (fun _=>none) Pt (.tb q)/\∀L',Q (.bl true) L'
def spTopT(q:Str)(K:Af)(Pt:Addr):Sp:=fun vs H Q _=>∃(a:Addr) (ns:List Int),vs=[.ref a]/\SqF K H a (ns.map V.int)/\ns.length≤63/\H Pt=some (.tbl #[])/\∀H',Q (.bl true) H'
theorem af6{vs:List V}{Q:VK}{E:XK}(h:spTopT q G.K Pt vs H Q E):dn G (ow Pt q) vs H Q E:=by
 obtain⟨a,ns,rfl,hs,hl,hP,z⟩:=h;refine⟨[.sq (ns.map Y.int)],qd (fun _=>none) Pt (.tb q),fun y _=>y=.bl true,xi.one ⟨a,_,rfl,hs,rW ns⟩,(fun b u e=>?_),⟨ns,rfl,hl,rfl,fun _=>rfl⟩,?_⟩
 ·by_cases c:b=Pt
  ·subst c;rw[q9] at e;cases e;exact⟨#[],hP,trivial,fun pos cv z=>by cases z⟩
  ·rw[qa c] at e;cases e
 ·rintro v H' y L' _ _ rv rfl;cases rv;exact z H'
end L3
namespace L2
open PySem PySem.Spec PyProof.Rows
def lessK(Pt:Addr):Af->Af
 |[]=>[]
 |(a,o)::r=>if a==Pt then lessK Pt r else(a,o)::lessK Pt r
theorem xa{Pt a:Addr}(h:a≠Pt):∀K:Af,(lessK Pt K).lookup a=K.lookup a
 |[]=>rfl
 |(b,o)::r=>by
  unfold lessK;by_cases c:(b==Pt)=true
  ·rw[As c,xa h r,A9];have:(a==b)=false:=by have hb:=eq_of_beq c;subst hb;exact DQ h
   rw[this]
  ·rw[Aq c,A9,A9,xa h r]
theorem ky{Pt:Addr}:∀K:Af,(lessK Pt K).lookup Pt=none
 |[]=>rfl
 |(b,o)::r=>by
  unfold lessK;by_cases c:(b==Pt)=true
  ·rw[As c];exact ky r
  ·rw[Aq c,A9];have:(Pt==b)=false:=by cases d:Pt==b with|false=>rfl|true=>exact absurd (beq_iff_eq.mpr (eq_of_beq d).symm) c
   rw[this];exact ky r
theorem lG{a:Addr}{K:Af}{o:Obj}(e:(lessK Pt K).lookup a=some o):a≠Pt/\K.lookup a=some o:=by
 by_cases c:a=Pt
 ·subst c;rw[ky] at e;cases e
 ·rw[xa c] at e;exact⟨c,e⟩
theorem lessK_in{K:Af}(X:K.In h):(lessK Pt K).In h:=fun a o e=>X a o (lG e).2
structure agw(K:Af)(Pt:Addr):Prop where
 tab:K.lookup Pt=some (PySem.W.tabObj #[])
 hd:∃c,∀h:Heap,K.In h->PySem.W.CodeHd h c Pt
 st:Pt≠cStatics
section
variable {K:Af}(T:K.lookup Pt=some (PySem.W.tabObj #[]))
include T
theorem ns_dn{a:Addr}{r:Option (Option Value)}(e:PySem.W.nsIn K a x=r):PySem.W.nsIn (lessK Pt K) a x=r:=by
 rw[<-e];unfold PySem.W.nsIn;by_cases c:a=Pt
 ·subst c;rw[ky,T]
 ·rw[xa c]
theorem lk_dn{a:Addr}{o:Obj}(e:K.lookup a=some o)(n:o.cls≠.none):(lessK Pt K).lookup a=some o:=by
 rw[xa ?_]
 ·exact e
 ·rintro rfl;rw[T] at e;cases e;exact n rfl
theorem code_dn{cd:Value}(e:PySem.W.codeIn K cd q=true):PySem.W.codeIn (lessK Pt K) cd q=true:=by
 unfold PySem.W.codeIn at e ⊢;split at e
 ·rename_i c;by_cases d:c=Pt
  ·subst d;rw[T] at e;simp at e
  ·rw[xa d];exact e
 ·cases e
theorem aie{v:Value}:PySem.W.ownIn (lessK Pt K) x v=PySem.W.ownIn K x v:=by
 unfold PySem.W.ownIn;split
 ·rfl
 ·rename_i a;by_cases d:a=Pt
  ·subst d;rw[ky,T]
  ·rw[xa d];split
   ·exact ns_dn T rfl
   ·rfl
 ·rfl
theorem rF{x:Str}:∀l:List Value,PySem.W.alongIn (lessK Pt K) x l=PySem.W.alongIn K x l
 |[]=>rfl
 |c::r=>by unfold PySem.W.alongIn;rw[aie T,rF r]
theorem find_dn{v:Value}:PySem.W.findIn (lessK Pt K) v x=PySem.W.findIn K v x:=by
 unfold PySem.W.findIn;split
 ·rfl
 ·rename_i a;by_cases d:a=Pt
  ·subst d;rw[ky,T]
  ·rw[xa d];split
   ·exact rF T _
   ·rfl
 ·rfl
theorem lO{a:Addr}(n:a≠Pt):PySem.W.specialIn (lessK Pt K) (.ref a) x=PySem.W.specialIn K (.ref a) x:=by unfold PySem.W.specialIn PySem.W.typeIn;dsimp only;rw[xa n];congr 1;funext t;exact find_dn T
theorem keep_dn{f:Value}(e:PySem.W.keepIn K f=true):PySem.W.keepIn (lessK Pt K) f=true:=by
 unfold PySem.W.keepIn at e ⊢;split at e
 ·rename_i a;by_cases d:a=Pt
  ·subst d;rw[T] at e;simp at e
  ·rw[xa d,lO T d];exact e
 ·cases e
end
theorem yS{P:Program}{w:World}{K:Af}{mb:Str->Option Value}{CX:yb}{k:Nat}{a:Addr}{sp:Sp}{s₁:Shared}{ns:List Int}
 (KX:K.In s₁.heap) (TI:agw K Pt) (hns:s₁.heap.Ns mainGlobals mg) (hb:s₁.heap.Ns builtinsNs mb) (hbb:∀x:Str,x ≠ "__name__" -> mb x=bootBuiltins x) (hlim:s₁.heap.NoLimit) (hg:s₁.gens=#[]) (htk:0<s₁.toks)
 (ha:s₁.heap.get? a=some { cls:=.type "list",data:=.seq vs.toArray }) (hi:IntsAre vs ns) (hl:ns.length≤sizeLine) (hr:vm k callerA)
 (F:∀base:Heap,(lessK Pt K).In base->base.Ns mainGlobals mg->a6 P w (lessK Pt K) mg base CX k fa fd [x] sp) (hbind:∀(s:Shared) (u:Value),BindsTo s fd ⟨[u],[]⟩ [(x,u)])
 (hsp:∀H:Hp,H Pt=some (.tbl #[])->(H a=none\/∃o xs,H a=some (.frz o (.lst xs)))->wu (lessK Pt K) H a (ns.map V.int)->sp [.ref a] H (fun v _=>v=.bl true) fun _ _ _=>False)
 (hCX:∀H e s',CX [] H s₁ (fun _ _ _=>False) e s'->False):
 codeAny (model P w) callerA (.call (.ref fa) ⟨[.ref a],[]⟩) (fun r s'=>r=.ok (.ret (.bool true))/\OldK s₁.heap s'.heap/\s'.os=s₁.os/\AllBare s'.gens) s₁:=by
 have rv:=mX hi;have lenV:=hi.length;have hP:s₁.heap.get? Pt=some (PySem.W.tabObj #[]):=KX Pt _ TI.tab;have naP:a≠Pt:=fun z=>by rw[z,hP] at ha;cases ha
 have core:∀H:Hp,H Pt=some (.tbl #[])->(∀b,b≠a->b≠Pt->H b=none)->(H a=none\/∃o xs,H a=some (.frz o (.lst xs)))->wu (lessK Pt K) H a (ns.map V.int)->(∀u,H a=some u->xg P w H s₁.heap a u)->(H a≠none->K.lookup a=none)->
  codeAny (model P w) callerA (.call (.ref fa) ⟨[.ref a],[]⟩) (fun r s'=>r=.ok (.ret (.bool true))/\OldK s₁.heap s'.heap/\s'.os=s₁.os/\AllBare s'.gens) s₁:=by
  intro H HP Hn HO HS hoka hka;have hok:eB P w H s₁.heap:=fun b u e=>by
   by_cases c:b=a
   ·subst c;exact hoka u e
   ·by_cases d:b=Pt
    ·subst d;rw[HP] at e;cases e;exact hP
    ·rw[Hn b c d] at e;cases e
  have base_of:∀{b:Addr} {o:Obj},s₁.heap.get? b=some o->H b=none->(oI s₁.heap H).get? b=some o:=fun e n=>aao e n;have noA:∀{b:Addr} {o:Obj} {es:Array DictEntry} {ep:Nat},s₁.heap.get? b=some o->o.data=.dict es ep->H b=none:=fun {b o es ep} e d=>by
   refine Hn b (fun z=>?_) fun z=>?_
   ·subst z;rw[ha] at e;cases e;have d':Data.seq vs.toArray _=Data.dict es ep:=d;cases d'
   ·subst z;rw[hP] at e;cases e;have d':Data.fields _=Data.dict es ep:=d;cases d'
  have nsK:∀{b:Addr} {m:Str->Option Value},s₁.heap.Ns b m->(oI s₁.heap H).Ns b m:=fun {b m} ⟨o,es,ep,e,d,r⟩=>⟨o,es,ep,base_of e (noA e d),d,r⟩;have hKb:(lessK Pt K).In (oI s₁.heap H):=fun b o e=>by
   obtain⟨n,e⟩:=lG e;refine base_of (KX b o e) ?_;by_cases c:b=a
   ·subst c;cases q:H b with|none=>rfl|some u=>rw[hka (by rw[q];simp)] at e;cases e
   ·exact Hn b c n
  have hM:Mod (lessK Pt K) mg (oI s₁.heap H):=⟨hKb,nsK hns,⟨mb,nsK hb,hbb⟩,let ⟨mc,h1,h2⟩:=hlim;⟨mc,nsK h1,h2⟩⟩;have e0:u0 P w (lessK Pt K) mg (oI s₁.heap H) callerA [] s₁ H:=⟨rfl,hM,fun b o e=>aeu e,DM (yQ _ _),trivial,fun b hb=>absurd (show b∈([]:List Addr) from hb) (by simp),hok,.of_eq hg,htk⟩;refine codeAny_mono ((F _ hKb (nsK hns)).run callerA [] s₁ H ⟨[.ref a],[]⟩ [.ref a] [.ref a] _ _ hr e0 (hbind s₁ (.ref a)) (.cons rfl .nil) (hsp H HP HO HS)) fun r s' h=>?_;cases r with
  |error e=>exact(hCX H e s' h).elim
  |ok fl=>
   cases fl with
   |next=>exact False.elim h
   |brk=>exact False.elim h
   |cont=>exact False.elim h
   |ret u=>
    obtain⟨v,H',os,bare,un,hok',r',q,_⟩:=h;have q':v=.bl true:=q;subst q';obtain rfl:u=Value.bool true:=r';obtain⟨more,em⟩:=un.tbls Pt _ HP;have gP:s'.heap.get? Pt=some (PySem.W.tabObj (#[]++more)):=hok' Pt _ em;have kp:∀b o,b≠Pt->s₁.heap.get? b=some o->s'.heap.get? b=some o:=fun b o n e=>by
     have un1:H b=none->s'.heap.get? b=some o:=fun z=>un.keep b o e z (by intro z;exact absurd (show b∈([]:List Addr) from z) (by simp)) (by simp);by_cases c:b=a
     ·subst c;rcases HO with z | ⟨ob,xs,z⟩
      ·exact un1 z
      ·have z2:=un.frzs _ _ _ z;obtain⟨e1,_⟩:=hok _ _ z;obtain⟨e2,_⟩:=hok' _ _ z2;rw[e] at e1;cases e1;exact e2
     ·exact un1 (Hn b c n)
    obtain⟨c,hc⟩:=TI.hd;refine⟨rfl,⟨fun b o e=>?_,fun b o e=>?_⟩,os,bare⟩
    ·by_cases n:b=Pt
     ·subst n;rw[hP] at e;cases e;exact .inr (.inl ⟨((hc _ KX).tab hP).isCodeTable,rfl,#[],more,rfl,gP⟩)
     ·exact .inl (kp b o n e)
    ·by_cases n:b=Pt
     ·subst n;exact⟨_,gP⟩
     ·exact⟨o,kp b o n e⟩
 cases hk:K.lookup a with
 |some o=>
  have e:=KX a o hk;rw[ha] at e;cases e;refine core (fun b=>if b=Pt then some (.tbl #[]) else none) (As rfl) (fun b _ n=>Aq n) (.inl (Aq naP)) (.inr ⟨_,vs.toArray,_,(xa naP K).trans hk,rfl,rfl,rfl,by rw[Ao,lenV];exact hl,by simpa using rv⟩) (fun u z=>by have z':=(Aq naP).symm.trans z;cases z') fun z=>absurd (Aq naP) z
 |none=>
  refine core (fun b=>if b=a then some (.frz { cls:=.type "list",data:=.seq vs.toArray } (.lst (ns.map V.int))) else if b=Pt then some (.tbl #[]) else none) ((Aq (AH naP)).trans (As rfl)) (fun b n1 n2=>(Aq n1).trans (Aq n2)) (.inr ⟨_,_,As rfl⟩) (.inl (.inr ⟨_,As rfl⟩)) (fun u z=>?_) fun _=>hk;have z':=(As rfl).symm.trans z;cases z';exact⟨ha,by rw[Ae];exact hl,vs,_,rv,ha⟩
theorem walk_ofZT{l:PySem.W.OpenLaw}{k:Nat}{q:Program}{loose:List Str}{XP:(Str->Option Value)->Heap->Prop}{as0:List Addr}{N t:Nat}{d:DefRec}{K:Params->Af}{CX:yb}{sp:Af->Addr->Sp}
 (hn:l.most=some n) (hn2:n≤sizeLine) (hdf:d.params.defaults=[]) (hr:vm k callerA) (ek:∀P,as0=(K P).map (·.1)) (htk:0<t)
 (F:∀(w:World) (mg:Str->Option Value) (fa:Addr) (h:Heap),(K w.params).In h->h.Ns mainGlobals mg->mg d.name=some (.ref fa)->
  ∃Pt:Addr,agw (K w.params) Pt/\∃fd:FuncData,(∀(s:Shared) (u:Value),BindsTo s fd ⟨[u],[]⟩ [(x,u)])/\
   ∀base:Heap,(lessK Pt (K w.params)).In base->base.Ns mainGlobals mg->a6 l.prog w (lessK Pt (K w.params)) mg base CX k fa fd [x] (sp (lessK Pt (K w.params)) Pt))
 (hsp:∀(K:Af) (Pt:Addr) (H:Hp) (a:Addr) (ns:List Int),ns.length≤n->H Pt=some (.tbl #[])->(H a=none\/∃o xs,H a=some (.frz o (.lst xs)))->wu K H a (ns.map V.int)->sp K Pt [.ref a] H (fun v _=>v=.bl true) fun _ _ _=>False)
 (hCX:∀(H:Hp) (s:Shared) (e:Value) (s':Shared),CX [] H s (fun _ _ _=>False) e s'->False):
 PySem.W.WalkX q loose XP (PySem.W.X.obsZ as0) (PySem.W.X.valZ K N t) l.row.toRowW d [] (fun f vs=>PySem.call f vs):=by
 refine Att.attach_callZ hn hdf ek htk fun w s₀ s₁ mg mb fa o pm cd doc a vs ns G KX tk ho hd hcd hmg hobj hints hlen hg=>?_;obtain⟨Pt,TI,fd,hb,hF⟩:=F w mg fa _ KX G.T.g hmg;exact yS KX TI G.T.g G.T.b G.T.builtins G.T.nolimit hg tk hobj hints (AL hlen hn2) hr hF hb (fun H hP hO hS=>hsp _ Pt H a ns hlen hP hO hS) fun H e s'=>hCX H s₁ e s'
end L2
namespace L3
open PySem L2
theorem top_startT :∀(K:Af) (Pt:Addr) (H:Hp) (a:Addr) (ns:List Int),ns.length≤63->H Pt=some (.tbl #[])->(H a=none\/∃o xs,H a=some (.frz o (.lst xs)))->wu K H a (ns.map V.int)->spTopT q K Pt [.ref a] H (fun v _=>v=.bl true) fun _ _ _=>False:=by
 intro K Pt H a ns hl hP hO hS;refine⟨a,ns,rfl,?_,hl,hP,fun _=>rfl⟩;rcases hS with(h | ⟨o,h⟩) | h
 ·rcases hO with z | ⟨o,xs,z⟩<;>rw[h] at z<;>cases z
 ·exact .inl ⟨o,h⟩
 ·exact .inr h
structure DefInT(K:Af)(x:Str)(st:Stmt)(Pt:Addr):Prop where
 ex:∃(f:Addr) (kV doc pm:Value) (an:Option Addr) (cdv ct:Value),PySem.W.nsIn K mainGlobals x=some (some (.ref f))/\ajy K x x st f (PySem.W.fnOf x x (x9 st) (je st) (qr st) .none kV doc pm an cdv ct) Pt
theorem DefInT.use{K:Af}(D:DefInT K x st Pt)(X:K.In h)(G:h.Ns mainGlobals mg)
 (hb:∀(kV doc pm:Value) (an:Option Addr) (cdv ct:Value) (us:List Value),us.length=ps.length->bindArgs (PySem.W.fnOf x x (x9 st) (je st) (qr st) .none kV doc pm an cdv ct) ⟨us,[]⟩=pure (ps.zip us)):
 ∃f fd,ajy K x x st f fd Pt/\wg K fd ps []/\mg x=some (.ref f):=by
 obtain⟨f,kV,doc,pm,an,cdv,ct,a,F⟩:=D.ex;exact⟨f,_,F,.all (hb kV doc pm an cdv ct),CL X G a⟩
end L3
namespace L2
open PySem PySem.Spec PyProof.Rows
section
variable {σ':St} 
theorem qw.ren(M:List Str)(I:qw X pins σ H s)(hl:M.length=X.N.length)(hs:σ'.length=σ.length)(h:∀(j:Nat) v,σ'[j]?=some (some v)->σ[j]?=some (some v)/\X.N[j]?=M[j]?):qw { X with N:=M } pins σ' H s:=by obtain⟨m,hm,l⟩:=I.loc;have o:=I.ok;exact { ok:=⟨o.mod,o.kind,o.glob,o.blt,o.above,o.inj,o.has,o.cab,o.hd,o.frames,o.stk,o.exf,o.bs,o.bsz,o.noex,o.exfs,o.funs,o.frf⟩,os:=I.os,bare:=I.bare,base:=I.base,cell:=I.cell,free:=I.free,freeC:=I.freeC,pin:=I.pin,hok:=I.hok,tk:=I.tk,len:=(by rw[hs,I.len];exact hl.symm),loc:=⟨m,hm,fun i x v e1 e2 e3=>by obtain⟨a,b⟩:=h i v e2;exact l i x v (b.trans e1) a e3⟩ }
theorem gG(h:(σ.set i none)[j]?=some (some v)):j≠i/\σ[j]?=some (some v):=by
 by_cases c:i=j
 ·subst c;rw[DK] at h;cases e:σ[i]? with|none=>rw[e] at h;cases h|some o=>rw[e] at h;cases h
 ·rw[Be c] at h;exact⟨AH c,h⟩
def ana(i:Nat)(t:TS):TS:=fun D σ H=>t { nx:=fun σ' H'=>D.nx (σ'.set i none) H',rt:=D.rt,bk:=fun σ' H'=>D.bk (σ'.set i none) H',ct:=fun σ' H'=>D.ct (σ'.set i none) H' } (σ.set i none) H
theorem aeh{t:TS}(h:PS { X with N:=X.N.set i x } st t):PS X st (ana i t):=by
 intro pins s σ H D I z;have I':qw { X with N:=X.N.set i x } pins (σ.set i none) H s:=I.ren _ (by rw[Bd]) (by rw[Bd]) fun j v e=>by obtain⟨a,b⟩:=gG e;exact⟨b,by rw[Be (AH a)]⟩
 refine xt (h pins s _ H _ I' z) fun f s' q=>?_;have back:∀{σ':St} {H':Hp},qw { X with N:=X.N.set i x } pins σ' H' s'->qw X pins (σ'.set i none) H' s':=fun {σ' H'} J=>
  qw.ren (X:={ X with N:=X.N.set i x }) X.N J (by show X.N.length=(X.N.set i x).length;rw[Bd]) (by rw[Bd]) fun j v e=>by obtain⟨a,b⟩:=gG e;exact⟨b,by show(X.N.set i x)[j]?=_;rw[Be (AH a)]⟩
 cases f with
 |next=>obtain⟨σ',H',J,q⟩:=q;exact⟨_,H',back J,q⟩
 |brk=>obtain⟨σ',H',J,q⟩:=q;exact⟨_,H',back J,q⟩
 |cont=>obtain⟨σ',H',J,q⟩:=q;exact⟨_,H',back J,q⟩
 |ret u=>obtain⟨v,σ',H',J,r,q⟩:=q;exact⟨v,_,H',back J,r,q⟩
def amp(i j k:Nat)(ta:TA):TS:=fun D σ H=>ta σ H fun vs H1=>∃u v w,vs=[u,v,w]/\D.nx (((σ.set i (some u)).set j (some v)).set k (some w)) H1
theorem aff{k:Nat}{y z:Str}{a b:Expr}{ta:TA}{px pz pt:Pos}{kt k2 pt2}(hc:X.calm=true)(hN:X.N.Nodup)(hi:X.N[i]?=some x)(hj:X.N[j]?=some y)(hk:X.N[k]?=some z)(hij:i≠j)(hik:i≠k)(hjk:j≠k)
 (hx:X.env.scope.names.lookup x=some .local) (hy:X.env.scope.names.lookup y=some .local) (hz:X.env.scope.names.lookup z=some .local) (ha:PA X [a,b,c] ta)
 (hw:swappedStores [.Tuple [.Name x px,.Name y py,.Name z pz] kt pt] (.Tuple [a,b,c] k2 pt2) X.env=pure (some [x,y,z]))
 (hs:swapsWithSole [.Tuple [.Name x px,.Name y py,.Name z pz] kt pt] (.Tuple [a,b,c] k2 pt2) pos.line X.env=pure false:=by rfl):
 PS X (.Assign [.Tuple [.Name x px,.Name y py,.Name z pz] kt pt] (.Tuple [a,b,c] k2 pt2) pos) (amp i j k ta):=by
 intro pins s σ H D I h;rw[exec_Assign_arm];refine Aa (wpAny_standAt ?_);rw[hs];refine Aa (Ai ?_);rw[Aq (by decide)];refine Aa (Tuple_ (xt (ha _ pins s σ H _ I h) fun us s1 ⟨vs,H1,I1,r1,q1⟩=>?_));obtain⟨v,w,v3,e1,q1⟩:=q1;subst e1;obtain⟨u1,u2,u3,rfl,rv,rw',r3⟩:∃u1 u2 u3,us=[u1,u2,u3]/\zo v u1/\zo w u2/\zo v3 u3:=by
  cases r1 with
  |cons p q=>
   cases q with
   |cons p' q'=>
    cases q' with
    |cons p'' q''=>
     cases q'';exact⟨_,_,_,rfl,p,p',p''⟩
 refine Bk ?_ (by show 3≤sizeLine;decide);have I2:qw X pins σ H1 { s1 with heap:=s1.heap.push { cls:=.type "tuple",data:=.seq [u1,u2,u3].toArray } }:=I1.kept (t':=s1.toks) fun b o e=>Heap.get?_push_of_some _ e;rw[hw];refine Aa (Ai ?_);show wpAny (model X.prog X.w) X.A (do rule "assign.swapped-stores";let items <-unpackItems (.ref s1.heap.objs.size) 3 none;assignInOrder [fun v=>bindName X.env z v,fun v=>bindName X.env y v,fun v=>bindName X.env x v] items.reverse;pure Flow.next) _ _ _;refine Aa (Bt (Aa (unpackItems_tuple (items:=#[u1,u2,u3]) (I.ok.hd hc) (IsTup.new s1.heap _) fun h' hx'=>?_)));have I3:=I2.kept (h':=h') (t':=s1.toks) fun b o e=>hx' b o (A3 (Heap.lt_size e)) e;show wpAny _ _ (assignInOrder [fun v=>bindName X.env z v,fun v=>bindName X.env y v,fun v=>bindName X.env x v] [u3,u2,u1] >>= fun _=>pure Flow.next) _ _ _;refine Aa (assignInOrder_cons (wpAny_bindName (aV I3 hN hk (.inl hz) r3 (fun s2 I4=>?_) (.inr hz))));refine assignInOrder_cons (wpAny_bindName (aV I4 hN hj (.inl hy) rw' (fun s3 I5=>?_) (.inr hy)));refine assignInOrder_cons (wpAny_bindName (aV I5 hN hi (.inl hx) rv (fun s4 I6=>assignInOrder_nil (Ai ?_)) (.inr hx)));rw[DB _ _ (AH hij),DB _ _ (AH hik),DB _ _ (AH hjk)] at I6;exact⟨_,H1,I6,q1⟩
end
end L2
namespace L3
open PySem L2
def bF:ji->Nat->ji
 |[],_=>[]
 |_::r,0=>none::r
 |o::r,i+1=>o::bF r i
theorem sk:∀(τ:ji) (i:Nat),bF τ i=τ.set i none
 |[],_=>rfl
 |_::_,0=>rfl
 |o::r,i+1=>by unfold bF;rw[sk r i];rfl
def ad5(i:Nat)(t:kn)(D:xr)(τ:ji)(L:ql):Prop:=t { nx:=fun τ' L'=>D.nx (bF τ' i) L',rt:=D.rt,bk:=fun τ' L'=>D.bk (bF τ' i) L',ct:=fun τ' L'=>D.ct (bF τ' i) L' } (bF τ i) L
theorem vz.forget(h:vz G H σ τ)(i:Nat):vz G H (σ.set i none) (bF τ i):=by
 rw[sk];refine⟨by rw[Bd,Bd];exact h.len,fun j y e=>?_⟩;by_cases c:i=j
 ·subst c;rw[DK] at e;cases e2:τ[i]? with|none=>rw[e2] at e;cases e|some o=>rw[e2] at e;cases e
 ·rw[Be c] at e ⊢;exact h.get j y e
theorem uv(x:Str){t:kn}(h:QS { X with N:=X.N.set i x } st t):QS X st (ad5 i t):=
 EI (aeh h) fun D σ H ⟨τ,L,D3,rs,rl,z,k⟩=>⟨bF τ i,L,_,rs.forget i,rl,z,
  ⟨fun σ' H' τ' L' t' rs' rl' q=>k.nx _ H' _ L' t' (rs'.forget i) rl' q,k.rt,fun σ' H' τ' L' t' rs' rl' q=>k.bk _ H' _ L' t' (rs'.forget i) rl' q,fun σ' H' τ' L' t' rs' rl' q=>k.ct _ H' _ L' t' (rs'.forget i) rl' q⟩⟩
def ag9(i j k:Nat)(ta:dU)(D:xr)(τ:ji)(L:ql):Prop:=ta τ L fun ys L'=>match ys with
 |[u,v,w]=>D.nx (aa (aa (aa τ i u) j v) k w) L'
 |_=>False
theorem adv{k:Nat}{y z:Str}{a b:Expr}{px pz pt:Pos}{k2:Nat}{pt2:Pos}(hc:X.calm=true)(hN:X.N.Nodup)(hi:X.N[i]?=some x)(hj:X.N[j]?=some y)(hk:X.N[k]?=some z)(hij:i≠j)(hik:i≠k)(hjk:j≠k)
 (lx:X.env.scope.names.lookup x=some .local) (ly:X.env.scope.names.lookup y=some .local) (lz:X.env.scope.names.lookup z=some .local) (h:QA X [a,b,c] tr)
 (h1:swappedStores [.Tuple [.Name x px,.Name y py,.Name z pz] kt pt] (.Tuple [a,b,c] k2 pt2) X.env=pure (some [x,y,z])) (h2:swapsWithSole [.Tuple [.Name x px,.Name y py,.Name z pz] kt pt] (.Tuple [a,b,c] k2 pt2) pos.line X.env=pure false:=by rfl):
 QS X (.Assign [.Tuple [.Name x px,.Name y py,.Name z pz] kt pt] (.Tuple [a,b,c] k2 pt2) pos) (ag9 i j k tr):=EI (aff hc hN hi hj hk hij hik hjk lx ly lz h h1 h2) fun D σ H ⟨τ,L,D3,rs,rl,z,kk⟩=>
 ⟨τ,L,_,rs,rl,z,fun vs H1 ys L1 t1 rl1 rv1 z1=>by
  split at z1
  ·rename_i u v w;obtain⟨x1,xs1,rfl,r1,x2,xs2,rfl,r2,x3,xs3,rfl,r3,e3⟩:=rv1;cases (show xs3=[] from e3);exact⟨x1,x2,x3,rfl,kk.nx _ H1 _ L1 t1 (show vz _ _ _ (aa (aa (aa τ i u) j v) k w) by rw[km,km,km];exact(((rs.ts t1).set r1).set r2).set r3) rl1 z1⟩
  ·exact z1.elim⟩
theorem ajv:bootBuiltins "min" = some (.builtin "min"):=by decide +kernel
def amd(x:Y)(lo hi:Option Int)(L:ql)(Q:YK):Prop:=match x with
 |.tup ys=>¬(HT.sIx ys.length 0 lo=0/\HT.sIx ys.length ys.length hi=ys.length)/\Q (.tup (r6 ys lo hi)) L
 |_=>False
theorem al6(K:Af)(P:Program)(w:World)(hK:X.K=K:=by rfl)(hP:X.prog=P:=by rfl)(hw:X.w=w:=by rfl):ph X (aea ⟨K,P,w⟩ amd):=by
 subst hK hP hw;refine ph.imp aka fun x lo hi H Q ⟨y,L,Q3,rv,rl,z,k⟩=>?_;cases y with
 |tup ys=>
  obtain⟨a,xs,e,sq,r⟩:=rv;obtain⟨z1,z2⟩:=z;exact⟨a,xs,e,sq,by rw[<-r.length];exact z1,fun p hp=>k _ _ (.tup (r6 ys lo hi)) L (EE hp) (rl.skip hp) ⟨p,_,rfl,.inl (.inl zv),(pF r lo hi).ts (EE hp)⟩ z2⟩
 |_=>exact z.elim
theorem uW{a:Addr}{keep:ql->Prop}(h:∀H L,j7 H₀ H->jk G H L->keep L->∃xs,cL G.K H a xs/\xi G H ys xs):gq G H₀ (Itt G.K a) ys keep where
 go:=fun i H L t rl kp hi=>by
  obtain⟨xs,sq,r⟩:=h H L t rl kp;have:i<xs.length:=by rw[<-r.length];exact hi
  exact⟨xs,xs[i],sq,Aj this⟩
 yld:=fun i H L x H' y t rl kp hy ⟨e,f⟩=>by subst e;obtain⟨xs,sq,r⟩:=h _ L t rl kp;obtain⟨x',e',rv⟩:=r.get hy;have:=f xs sq;rw[e'] at this;cases this;exact⟨EC _,rl,rv⟩
 stop:=fun H L t rl kp=>by obtain⟨xs,sq,r⟩:=h H L t rl kp;exact⟨xs,sq,by rw[r.length];exact Am _⟩
theorem ak2(h:QE X e te):QI X tg e (agn te):=PI.imp (ahq h) fun σ H R ⟨τ,L,R3,rs,rl,z,k⟩=>by
 refine⟨τ,L,_,rs,rl,z,fun v H1 y L1 t1 rl1 rv1 z1=>?_⟩;cases y with
 |tup ys=>
  obtain⟨a,xs,e,sq,r⟩:=rv1;exact⟨a,e,⟨xs,sq⟩,k _ H1 ys (fun _=>True) L1 t1 rl1 (uW fun H L t _ _=>⟨xs,cL.ts sq t,r.ts t⟩) z1⟩
 |_=>exact z1.elim
theorem dp3{k:Nat}(hr:vm k A):A.depth+3<recursionLimit:=by have:=hr.dp;omega
abbrev lamQ:Str:="_law_order.<locals>.<lambda>"
open PySem L2 Words
def ox(Pt:Addr)(p0:jj):kn:=(qt (zw (w5 qx) (qg 2))
 (qt (fD (eX (qb 0)) (wm 2 (zu (qg 3) (zu (qg 4) w4))) (qt (zw (zr wq (zg p0 (qf (qb 1) (aK (qb 3) (jx 39373)))) (jx 40)) (qg 5))
 (dw (va (o4 (yB (dI true (qb 4))) (i8 (bO 4) (jx 3))) (zw (zr vn (zr vn (qb 5) (jx 1)) (gm adb (qf (zr bz (qb 2) (xj 4 1)) (qf (zr bz (qb 2) (xj 4 2)) qx)))) (qg 5)) x0)
 (jm (aZ zq (qb 2) (ki (qb 5)))))))
 (jy (aan Pt lamQ 2 (kI (bO 0))))))
def OkO(ks:List (Option Kn)):Prop:=∀(p:Nat) (e:Bool) (i j:Nat),ks[p]?=some (some (.nd e i j))->i<p/\j<p
def xD(ks:List (Option Kn))(rks:List Int):Prop:=∀(p:Nat) (e:Bool) (i j:Nat),p<rks.length->ks[p]?=some (some (.nd e i j))->rks.getD i 0<rks.getD p 0/\rks.getD j 0<rks.getD p 0
theorem kH{r:Int}(h:i<rks.length):(rks++[r]).getD i 0=rks.getD i 0:=by rw[Bv,Bv,Ay h]
theorem abk{r:Int}:(rks++[r]).getD rks.length 0=r:=by rw[Bv,Al (Am _),Cp];rfl
theorem xD.snoc{r:Int}{k:Option Kn}(ok:OkO ks)(h:xD ks rks)(hk:ks[rks.length]?=some k)(hr:∀e i j,k=some (.nd e i j)->rks.getD i 0<r/\rks.getD j 0<r):xD ks (rks++[r]):=by
 intro p e i j hp ep;obtain⟨l1,l2⟩:=ok p e i j ep;rw[Ac] at hp;have hp:p<rks.length+1:=hp;rw[kH (show i<rks.length by lia),kH (show j<rks.length by lia)];by_cases c:p<rks.length
 ·rw[kH c];exact h p e i j c ep
 ·have:p=rks.length:=by lia
  subst this;rw[abk];exact hr e i j (AV (hk.symm.trans ep))
def bY(ks:List (Option Kn))(qs:List Nat):Prop:=qs.Pairwise fun x y=>∀e i j,ks[x]?=some (some (.nd e i j))->y≠i/\y≠j
theorem zZ(ok:OkO ks)(h:xD ks rks)(hl:rks.length=ks.length)(hw:qs.Pairwise fun i j=>rks.getD i 0*1000000+(i:Int)≤rks.getD j 0*1000000+(j:Int)):bY ks qs:=by refine hw.imp fun {x y} z e i j ex=>?_;obtain⟨l1,l2⟩:=ok x e i j ex;obtain⟨r1,r2⟩:=h x e i j (by rw[hl];exact zm ex) ex;exact⟨fun c=>by subst c;lia,fun c=>by subst c;lia⟩
def mC(Pt:Addr):jj:=fun ys L Q=>∃a,∃ks:List (Option Kn),∃s:Int,ys=[.ref a,.int s]/\L a=some (.lst (ak ks))/\OkO ks/\ks.length≤1000/\L Pt=some (.tb lamQ)/\
 ∀D qs,L D=none->qs.Perm (List.range ks.length)->bY ks qs->Q (.ref D) (qd L D (.lst (nY qs)))
theorem rP(h:i<rks.length):(rks.map Y.int)[i]?=some (.int (rks.getD i 0)):=by rw[Av,Bv,Aj h];rfl
theorem aaw :∀ys L Q,mC Pt ys L Q->xq (ox Pt fC) 6 ys L Q:=by
 rintro ys L Q ⟨a,ks,s,rfl,ha,ok,hz,hP,q⟩;have big:=bg_;intro kk hkk;have s0:qk L (qd L kk (.lst [])):=By hkk;have nak:a≠kk:=xo ha hkk;refine xz (s0 _ _ ha) fun keep kp=>af ⟨fun i τ L'=>∃rks:List Int,∃c3 c4 c5,τ=[some (Y.ref a),some (.int s),some (Y.ref kk),c3,c4,c5]/\L'=qd L kk (.lst (rks.map Y.int))/\rks.length=i/\xD ks rks,⟨[],_,_,_,rfl,rfl,rfl,fun p _ _ _ hp=>by cases hp⟩,?_,?_,?_⟩
 ·rintro i τ L' ⟨rks,c3,c4,c5,rfl,rfl,_⟩;exact kp _ (by rw[qa nak,qa nak])
 ·rintro i y τ L' hy ⟨rks,c3,c4,c5,rfl,rfl,hl,hrk⟩;obtain⟨z,ez,rfl⟩:=ff hy;rw[Av] at ez;obtain⟨k,ek,rfl⟩:=AE.mp ez;have hi:=zm ek;refine⟨s,i,39373,rfl,by exact A2 _,by omega,by decide,by decide,fun v h0 h1=>?_⟩;have m0:(0:Int)≤v % 40:=DV _ (by decide);have lens:(rks.map Y.int).length=i:=by rw[Ae];exact hl
  refine⟨show(0:Int)<40 by decide,fun τ' L'=>∃r:Int,τ'=[some (Y.ref a),some (.int s),some (Y.ref kk),some (.int (i:Nat)),some (fB k),some (.int r)]/\L'=qd L kk (.lst (rks.map Y.int))/\∀e i j,k=some (.nd e i j)->rks.getD i 0<r/\rks.getD j 0<r,?_,?_⟩
  ·cases k with
   |none=>exact⟨v % 40,rfl,rfl,fun e i j z=>by cases z⟩
   |some k=>
    cases k with
    |lf t n=>exact⟨v % 40,rfl,rfl,fun e i j z=>by cases z⟩
    |nd e p1 p2=>
     obtain⟨l1,l2⟩:=ok _ _ _ _ ek;have g1:=ve (rP (rks:=rks) (i:=p1) (by lia));have g2:=ve (rP (rks:=rks) (i:=p2) (by lia));refine qe q9 (qm g1 ?_);refine qe q9 (qm g2 ?_);refine⟨v % 40+1+max (rks.getD p1 0) (rks.getD p2 0),rfl,rfl,fun e' i' j' z=>?_⟩;cases z;have a1:rks.getD p1 0≤max (rks.getD p1 0) (rks.getD p2 0):=Int.le_max_left ..;have a2:rks.getD p2 0≤max (rks.getD p1 0) (rks.getD p2 0):=Int.le_max_right ..;constructor<;>lia
  ·rintro τ' L' ⟨r,rfl,rfl,hr⟩;refine qe q9 (qu q9 ⟨by rw[lens];exact big _ (by lia),?_⟩);refine⟨_,ED _,rks++[r],_,_,_,rfl,?_,by rw[Ac,hl];rfl,xD.snoc ok hrk (by rw[hl];exact ek) hr⟩;rw[jc,AC];rfl
 ·rintro τ L' ⟨rks,c3,c4,c5,rfl,rfl,hl,hrk⟩;rw[dX,Ae] at hl;have s1:qk L (qd L kk (.lst (rks.map Y.int))):=By hkk;refine qe (s1 _ _ ha) ?_;have lo:(ak ks).length=ks.length:=Ae ..;refine⟨⟨A2 _,by rw[lo];lia⟩,fun p hp=>qu q9 ?_⟩;have npk:kk≠p:=xo q9 hp;have npP:Pt≠p:=xo (s1 _ _ hP) hp;have nkP:Pt≠kk:=xo hP hkk;refine⟨ks.length,rks,kk,by rw[B5,lo],rfl,(qa npk).trans q9,hl,hz,(qa npP).trans ((qa nkP).trans hP),fun D qs hD pm pw=>?_⟩;have hD1:=j8 hD;have hD2:=j8 hD1;refine⟨qd L D (.lst (nY qs)),fun b o e=>?_,q D qs hD2 pm (zZ ok hrk hl pw)⟩;by_cases c:b=D
  ·subst c;rw[q9] at e ⊢;exact e
  ·rw[qa c] at e ⊢;rw[qa (fun z=>by subst z;rw[j8 hp] at e;cases e),qa (fun z=>by subst z;rw[hkk] at e;cases e)];exact e
def aci:kn:=(qt (zw (fg "abcdefghijklmnopqrstuvwxyz") (qg 2))
 (qt (zw (zr vn (jx 1) (zr wq (qb 0) (jx 8))) (qg 3))
 (qt (zw (zr wq (zr bB (qb 0) (jx 8)) (qb 3)) (qg 4))
 (qt (zw (yBS uz (fg "") (qf (pY 1 (hU (ki (jx 8))) (qg 7) oy (zr bz (qb 2) (zr wq (zr vn (zr bB (qb 0) (jx 64)) (zr aa5 (jx 3) (qb 7))) (jx 26)))) qx)) (qg 5))
 (qt (va (i8 (zr wq (zr bB (qb 0) (jx 64)) (jx 3)) (jx 1)) (jy (ySl ac7 (qb 5) gD (kK (zr vn (jx 1) (zr wq (zr vn (qb 1) (qb 0)) (jx 3)))))) x0)
 (qt (zw (zr bz (qb 2) (zr wq (zr vn (zr vn (zr bB (qb 0) (jx 64)) (zr aa5 (jx 3) (qb 4))) (qb 1)) (jx 26))) (qg 6))
 (jy (zr vn (zr vn (ySl ac7 (qb 5) gD (kK (qb 4))) (qb 6)) (ySl ac7 (qb 5) (kK (zr vn (qb 4) (jx 1))) (kK (qb 3)))))))))))
def dR(i:Int):Nat:=97+(i % 26).toNat
theorem vX(i:Int):dg ("abcdefghijklmnopqrstuvwxyz" : Str).cps.toList (i % 26)=some (dR i):=by
 obtain⟨n,hn⟩:∃n:Nat,i % 26=n:=⟨(i % 26).toNat,by lia⟩;have h:n<26:=by lia
 unfold dR;rw[hn];have key:∀n,n<26->("abcdefghijklmnopqrstuvwxyz" : Str).cps.toList[n]?=some (97+n):=by decide +kernel
 exact ve (key n h)
theorem ut(i:Int):97≤dR i/\dR i≤122:=by unfold dR;lia
def cK(s:Int):List Nat:=(List.range 8).map fun k:Nat=>dR (s / 64+3*(k:Int))
theorem lJ(s:Int):(cK s).length=8:=by unfold cK;simp
theorem kB(s:Int):∀c∈cK s,97≤c/\c≤122:=fun c hc=>by obtain⟨k,_,rfl⟩:=Bq.mp hc;exact ut _
def mV(s:Int):Nat:=(s / 8 % (1+s % 8)).toNat
def szN(s:Int):Nat:=(1+s % 8).toNat
theorem age(s:Int):mV s<szN s/\szN s≤8/\s / 8 % (1+s % 8)=(mV s:Int)/\1+s % 8=(szN s:Int):=by
 have h0:0<1+s % 8:=by lia
 have h1:0≤s / 8 % (1+s % 8):=DV _ (by lia);have h2:s / 8 % (1+s % 8)<1+s % 8:=Int.emod_lt_of_pos _ h0;unfold mV szN;lia
def aC(s w:Int):List Nat:=
 if s / 64 % 3=1 then(cK s).take (1+(w+s) % 3).toNat
 else((cK s).take (mV s)++[dR (s / 64+3*(mV s:Int)+w)])++((cK s).drop (mV s+1)).take (szN s - (mV s+1))
theorem qJ(s w:Int):cw (mkS (aC s w)):=by
 have hl:(mkS (aC s w)).length=(aC s w).length:=by rw[<-Txs.len_list];show(aC s w).toArray.toList.length=_;simp
 have hc:(mkS (aC s w)).cps.toList=aC s w:=by show(aC s w).toArray.toList=_;simp
 have hb:=lJ s;obtain⟨p1,p2,_,_⟩:=age s;refine⟨?_,?_,?_⟩
 ·rw[hl];unfold aC;split
  ·rw[AW];omega
  ·rw[Ac,Ac];simp;simp +arith only
 ·rw[hl];unfold aC;split
  ·rw[AW];omega
  ·rw[Ac,Ac,AW,AW,BB];simp;lia
 ·rw[hc];intro c h;unfold aC at h;split at h
  ·exact kB s c (Bz h)
  ·rcases Ak.mp h with h | h
   ·rcases Ak.mp h with h | h
    ·exact kB s c (Bz h)
    ·rw[Au.mp h];exact ut _
   ·exact kB s c (CB (Bz h))
def l7:jj:=fun ys L Q=>∃s w:Int,ys=[.int s,.int w]/\Q (.str (mkS (aC s w))) L
theorem wV(h:m≤n)(h2:n≤x.length):(Txt.slice x (some (m:Int)) (some (n:Int))).cps.toList=(x.cps.toList.drop m).take (n - m):=by have e:=mW x (some (m:Int)) (some (n:Int));rw[HT.sIx_nat,HT.sIx_nat,Cr h2,Cr (AL h h2)] at e;exact e
theorem mf(h:n≤x.length):(Txt.slice x none (some (n:Int))).cps.toList=x.cps.toList.take n:=by have e:=mW x none (some (n:Int));rw[HT.sIx_nat,HT.sIx_none,DY,Nat.sub_zero,Cr h] at e;exact e
theorem ad4:∀ys L Q,l7 ys L Q->xq aci 7 ys L Q:=by
 rintro ys L Q ⟨s,w,rfl,q⟩;have hsz:0<1+s % 8:=by lia
 refine⟨(by decide:(0:Int)<8),⟨by decide,by decide⟩,hsz,⟨by decide,by decide⟩,?_⟩;show yw (wo 0 8) _ _ _ _ _ _ _ _;refine ud (m:=8) (fun i zs=>zs=((List.range i).map fun k:Nat=>Y.str ⟨#[dR (s / 64+3*(k:Int))]⟩)) (by decide) rfl ?_ ?_
 ·rintro i _ hi rfl;have hat:=vX (s / 64+3*(0+(i:Int)));refine⟨⟨by decide,by decide⟩,.inl ⟨by decide,by decide⟩,(by decide:(0:Int)<26),by decide +kernel,?_⟩;walk_at "w";rw[hat];refine⟨_,ED _,rfl,?_⟩;rw[DS,AC,show(0:Int)+(i:Int)=(i:Int) by simp +arith only];rfl
 ·rintro _ rfl p hp;have e0:((List.range 8).map fun k:Nat=>Y.str ⟨#[dR (s / 64+3*(k:Int))]⟩)=((cK s).map fun c=>(⟨#[c]⟩:Str)).map Y.str:=by unfold cK;rw[BO,BO];rfl
  rw[e0];refine qu q9 ⟨(cK s).map fun c=>(⟨#[c]⟩:Str),rfl,?_,?_⟩
  ·have e1:∀cs:List Nat,((cs.map fun c=>(⟨#[c]⟩:Str)).map (·.length)).sum=cs.length:=fun cs=>by induction cs with|nil=>rfl|cons c r ih=>rw[AG,AG,List.sum_cons,ih,AD];show 1+r.length=_;exact Nat.add_comm _ _
   rw[e1,lJ];show 8+_*0≤_;rw[Nat.mul_zero];decide
  ·have hb:=aax (cK s);have hbl:(Txt.join "" ((cK s).map fun c=>(⟨#[c]⟩:Str))).length=8:=by rw[<-Txs.len_list,hb,lJ]
   generalize Txt.join "" ((cK s).map fun c=>(⟨#[c]⟩:Str))=base at hbl hb;obtain⟨p1,p2,hn,hk⟩:=age s;refine⟨⟨by decide,by decide⟩,(by decide:(0:Int)<3),?_⟩;refine ju (fun c=>?_) fun c=>?_
   ·have e:1+(w+s) % 3=((1+(w+s) % 3).toNat:Int):=by lia
    refine⟨(by decide:(0:Int)<3),dr (by lia),eY (By hp) ?_⟩;have es:=mf (x:=base) (n:=(1+(w+s) % 3).toNat) (by lia);have eq:Txt.slice base none (some (1+(w+s) % 3))=mkS (aC s w):=by rw[e];refine(vO _).symm.trans ?_;rw[es,hb];unfold aC;rw[As c]
    rw[<-eq] at q;exact q
   ·have hat:=vX (s / 64+3*(s / 8 % (1+s % 8))+w);refine⟨⟨by decide,by decide⟩,.inl ⟨by decide,by decide⟩,(by decide:(0:Int)<26),by decide +kernel,?_⟩;walk_at "w";rw[hat];have s1:=mf (x:=base) (n:=mV s) (by lia);have s2:=wV (x:=base) (m:=mV s+1) (n:=szN s) (by assumption) (by lia);have l1:(Txt.slice base none (some (mV s:Int))).length=mV s:=by rw[<-Txs.len_list,s1,AW,Txs.len_list];lia
    have l2:(Txt.slice base (some ((mV s+1:Nat):Int)) (some (szN s:Int))).length≤8:=by rw[<-Txs.len_list,s2,AW];lia
    refine⟨dr (by lia),?_⟩;refine⟨dr (by rw[hn,l1];show mV s+1≤1000;lia),?_⟩;refine⟨dr (by lia),?_⟩;have e1:((mV s:Int)+1)=((mV s+1:Nat):Int):=by rfl
    have l3:(Txt.slice base none (some (mV s:Int))++(⟨#[dR (s / 64+3*(s / 8 % (1+s % 8))+w)]⟩:Str)).length=mV s+1:=by rw[PySem.Str.length_append,l1];rfl
    refine⟨dr ?_,eY (By hp) ?_⟩
    ·rw[hn] at l3 ⊢;rw[l3,e1,hk];lia
    ·have eq:(Txt.slice base none (some (mV s:Int))++(⟨#[dR (s / 64+3*(mV s:Int)+w)]⟩:Str))++Txt.slice base (some ((mV s+1:Nat):Int)) (some (szN s:Int))=mkS (aC s w):=by
      refine(vO _).symm.trans ?_;have ca:∀a b:Str,(a++b).cps.toList=a.cps.toList++b.cps.toList:=fun a b=>by show(a.cps++b.cps).toList=_;simp
      rw[ca,ca,s1,s2,hb];unfold aC;rw[Aq c]
     rw[hn,e1,hk,eq];exact q
theorem aey(t t':Bool)(n n':Str):Da.eq (o9 (.leaf t n)) (o9 (.leaf t' n'))=(decide (t=t')&&decide (n=n')):=by
 by_cases h:n=n'
 ·subst h;cases t<;>cases t'<;>simp[o9,Da.eq,Da.eqs,lU,kL]<;>decide +kernel
 ·cases t<;>cases t'<;>simp[o9,Da.eq,Da.eqs,lU,kL,h]<;>decide +kernel
theorem hZ{α β:Type}(f:α->β):∀(l:List α) (n:Nat),(l.map f).eraseIdx n=(l.eraseIdx n).map f
 |[],n=>by simp
 |_::_,0=>rfl
 |x::r,n+1=>by rw[AG,Ci,Ci,AG,hZ f r n]
theorem wy(a:jg)(b:Y)(r:List (jg×Y))(k:jg):wz ((a,b)::r) k=if a=k then some b else wz r k:=by
 unfold wz;rw[BI];by_cases h:a=k
 ·rw[As h,show decide ((a,b).1=k)=true from AB h];rfl
 ·rw[Aq h,show decide ((a,b).1=k)=false from AA h]
theorem qZ(k k':jg)(y:Y):∀kvs:List (jg×Y),wz (kvs.map fun kv=>if kv.1=k then(kv.1,y) else kv) k'=if k'=k then(wz kvs k').map (fun _=>y) else wz kvs k'
 |[]=>by rw[C1];split<;>rfl
 |(a,b)::r=>by
  have ih:=qZ k k' y r;rw[AG,wy];by_cases h:a=k
  ·rw[As (show(a,b).1=k from h),wy,ih];by_cases h2:k'=k
   ·rw[As h2,As h2,As (h.trans h2.symm),As (h.trans h2.symm)];rfl
   ·rw[Aq h2,Aq h2,Aq (fun z=>h2 (z.symm.trans h)),Aq (fun z=>h2 (z.symm.trans h))]
  ·rw[Aq (show ¬(a,b).1=k from h),wy,ih];by_cases h2:k'=k
   ·rw[As h2,As h2,Aq (fun z=>h (z.trans h2)),Aq (fun z=>h (z.trans h2))]
   ·rw[Aq h2,Aq h2]
theorem sM(k k':jg)(y:Y):∀kvs:List (jg×Y),wz (kvs++[(k,y)]) k'=(wz kvs k').or (if k=k' then some y else none)
 |[]=>by rw[DP,wy];have:wz [] k'=none:=rfl;rw[this];split<;>rfl
 |(a,b)::r=>by rw[List.cons_append,wy,wy,sM k k' y r];split<;>rfl
theorem s9(k:jg):∀kvs:List (jg×Y),(kvs.any fun kv=>decide (kv.1=k))=(wz kvs k).isSome
 |[]=>rfl
 |(a,b)::r=>by
  rw[B9,wy,s9 k r];by_cases h:a=k
  ·rw[As h,show decide ((a,b).1=k)=true from AB h];rfl
  ·rw[Aq h,show decide ((a,b).1=k)=false from AA h];rfl
theorem sj(kvs:List (jg×Y))(k k':jg)(y:Y):wz (mI kvs k y) k'=if k'=k then some y else wz kvs k':=by
 unfold mI;rw[s9];cases e:wz kvs k with
 |some v=>
  rw[As (show(some v).isSome=true from rfl),qZ];by_cases h:k'=k
  ·rw[As h,As h,h,e];rfl
  ·rw[Aq h,Aq h]
 |none=>
  rw[Aq (by simp),sM];by_cases h:k'=k
  ·rw[As h,h,e,As rfl];rfl
  ·rw[Aq h,Aq (fun z=>h z.symm)];cases wz kvs k'<;>rfl
theorem rH(kvs:List (jg×Y))(k:jg)(y:Y):(mI kvs k y).length≤kvs.length+1:=by
 unfold mI;split
 ·rw[Ae];omega
 ·rw[Ac];simp
def mL(p0:jj)(p1:jj):kn:=(qt (zw aa2 (qg 5))
 (qt (zw (w5 qx) (qg 6))
 (qt (fD (vq (zg p0 (aK (qb 0) (qb 3)))) (qg 7) (dw (va (o4 (yB (qb 4)) (i8 (zr wq (zg p1 (qf (qb 3) (aK (qb 7) (jx 40692)))) (jx 3)) (jx 0))) (jm (aZ zq (qb 6) (ki (yC .non)))) x0)
 (qt (acp (qb 5) (qb 7) (bO 6))
 (qt (zw (zr bz (qb 0) (qb 7)) (qg 8))
 (dw (va (o4 (yB (dI true (qb 8))) (i8 (bO 8) (jx 3))) (zw (k6 (qf (xj 8 0) (qf (eL (qb 5) (xj 8 1)) (qf (eL (qb 5) (xj 8 2)) qx)))) (qg 8)) x0)
 (jm (aZ zq (qb 6) (ki (qb 8)))))))))
 (qt (ad5 7 (zw (gm eQ (qf (pY 2 (vq (qb 1)) (wm 2 (zu (qg 9) (zu (qg 10) w4))) oy (k6 (qf (gm ahh (qf (eL (qb 5) (qb 9)) (qf (eL (qb 5) (qb 10)) qx))) (qf (gm adb (qf (eL (qb 5) (qb 9)) (qf (eL (qb 5) (qb 10)) qx))) qx)))) qx)) (qg 1)))
 (qt (ad5 7 (zw (gm eQ (qf (pY 2 (vq (qb 2)) (wm 2 (zu (qg 9) (zu (qg 10) w4))) oy (k6 (qf (eL (qb 5) (qb 9)) (qf (eL (qb 5) (qb 10)) qx)))) qx)) (qg 2)))
 (jy (k6 (qf (zr vn (qb 6) (pY 1 (hU (qf (gm abq (ki (qb 4))) qx)) (qg 9) oy (yC .non))) (aK (qb 1) (qb 2))))))))))
def e9(f:Nat->Nat):Option Kn->Option Kn
 |some (.nd e i j)=>some (.nd e (f i) (f j))
 |k=>k
theorem uP{f g:Nat->Nat}:∀{k:Option Kn},(∀e i j,k=some (.nd e i j)->f i=g i/\f j=g j)->e9 f k=e9 g k
 |none,_=>rfl
 |some (.lf _ _),_=>rfl
 |some (.nd e i j),h=>by obtain⟨a,b⟩:=h e i j rfl;show some (Kn.nd e (f i) (f j))=some (Kn.nd e (g i) (g j));rw[a,b]
structure qB(ks:List (Option Kn))(ps:List Nat)(f:Nat->Nat)(wd:List (Option Kn)):Prop where
 at_:∀p∈ps,∀k,ks[p]?=some k->wd[f p]?=some (e9 f k)
 inj:∀p∈ps,∀q∈ps,f p=f q->p=q
 only:∀x k,wd[x]?=some (some k)->∃p∈ps,x=f p
 ok:OkO wd
theorem qB.nil(ks:List (Option Kn))(f:Nat->Nat):qB ks [] f []:=⟨fun p hp=>(BC hp).elim,fun p hp=>(BC hp).elim,fun x k h=>(by simp at h),fun p e i j h=>(by simp at h)⟩
theorem OkO.gap(h:OkO wd):OkO (wd++[none]):=by
 intro p e i j hp;by_cases c:p<wd.length
 ·rw[Ay c] at hp;exact h p e i j hp
 ·rw[Al (by exact yr)] at hp;cases hq:p - wd.length with|zero=>rw[hq] at hp;cases hp|succ m=>rw[hq] at hp;cases hp
theorem qB.gap{ps:List Nat}{f:Nat->Nat}(h:qB ks ps f wd):qB ks ps f (wd++[none]):=by
 refine⟨fun p hp k hk=>gv (h.at_ p hp k hk),h.inj,fun x k hx=>?_,h.ok.gap⟩;by_cases c:x<wd.length
 ·rw[Ay c] at hx;exact h.only x k hx
 ·rw[Al (by lia)] at hx;cases hq:x - wd.length with|zero=>rw[hq] at hx;cases hx|succ m=>rw[hq] at hx;cases hx
theorem qB.lt{ps:List Nat}{f:Nat->Nat}(h:qB ks ps f wd){p:Nat}(hp:p∈ps)(hk:p<ks.length):f p<wd.length:=zm (h.at_ p hp _ (Aj hk))
theorem qB.step{ps:List Nat}{f:Nat->Nat}(h:qB ks ps f wd)(hb:∀p∈ps,p<ks.length){p:Nat}{k:Option Kn}(hp:p∉ps)(hk:ks[p]?=some k)(hpart:∀x∈ps,∀e i j,ks[x]?=some (some (.nd e i j))->i∈ps/\j∈ps)(hparts:∀e i j,k=some (.nd e i j)->i∈ps/\j∈ps):
 qB ks (ps++[p]) (fun x=>if x=p then wd.length else f x) (wd++[e9 f k]):=by
 have old:∀x∈ps,(if x=p then wd.length else f x)=f x:=fun x hx=>Aq fun(c:x=p)=>hp (c▸hx);have ren:∀k',(∀e i j,k'=some (.nd e i j)->i∈ps/\j∈ps)->e9 (fun x=>if x=p then wd.length else f x) k'=e9 f k':=fun k' hk'=>uP fun e i j z=>by obtain⟨a,b⟩:=hk' e i j z;exact⟨old i a,old j b⟩
 refine⟨fun x hx k' hk'=>?_,fun x hx y hy e=>?_,fun x k' hx=>?_,fun x e i j hx=>?_⟩
 ·rcases Ak.mp hx with hx | hx
  ·show(wd++[e9 f k])[if x=p then wd.length else f x]?=_;rw[old x hx,ren k' fun e i j z=>hpart x hx e i j (by rw[hk',z])];exact gv (h.at_ x hx k' hk')
  ·have hx:=Au.mp hx;subst hx;rw[hk] at hk';cases hk';show(wd++[e9 f k])[if x=x then wd.length else f x]?=_;rw[As rfl,ren k hparts];exact dQ wd _ []
 ·have e:(if x=p then wd.length else f x)=if y=p then wd.length else f y:=e
  rcases Ak.mp hx with hx | hx<;>rcases Ak.mp hy with hy | hy
  ·rw[old x hx,old y hy] at e;exact h.inj x hx y hy e
  ·cases Au.mp hy;rw[old x hx,As rfl] at e;have:=h.lt hx (hb x hx);lia
  ·cases Au.mp hx;rw[old y hy,As rfl] at e;have:=h.lt hy (hb y hy);lia
  ·rw[Au.mp hx,Au.mp hy]
 ·by_cases c:x<wd.length
  ·rw[Ay c] at hx;obtain⟨q,hq,e⟩:=h.only x k' hx;exact⟨q,Ap _ hq,by rw[e];exact(old q hq).symm⟩
  ·refine⟨p,Ag _ (Au.mpr rfl),?_⟩;have:=zm hx;rw[Ac] at this;have:x<wd.length+1:=this;show x=if p=p then wd.length else f p
   rw[As rfl];lia
 ·by_cases c:x<wd.length
  ·rw[Ay c] at hx;exact h.ok x e i j hx
  ·have:=zm hx;rw[Ac] at this;have:x<wd.length+1:=this;have:x=wd.length:=by lia
   subst this;rw[Al (Am _),Cp] at hx;have hx:e9 f k=some (.nd e i j):=AV hx;cases k with
   |none=>cases hx
   |some k=>
    cases k with
    |lf=>cases hx
    |nd e' i' j'=>
     obtain⟨a,b⟩:=hparts e' i' j' rfl;cases hx;exact⟨h.lt a (hb _ a),h.lt b (hb _ b)⟩
theorem jZ(ok:OkO ks)(pm:qs.Perm (List.range ks.length))(pf:bY ks qs){p:Nat}(hp:qs[n]?=some p){e:Bool}(h:ks[p]?=some (some (.nd e i j))):i∈qs.take n/\j∈qs.take n:=by
 obtain⟨l1,l2⟩:=ok p e i j h;have hl:=zm h;have hn:=zm hp;have ind:∀x,x<ks.length->x≠p->(∀y∈qs.drop (n+1),y≠x)->x∈qs.take n:=fun x hx ne hno=>by
  have hm:x∈qs:=pm.mem_iff.mpr (AF.mpr hx);have e2:qs=qs.take n++p::qs.drop (n+1):=by rw[Aj hn] at hp;rw[<-AV hp,C8,Bj]
  rw[e2] at hm;rcases Ak.mp hm with hm | hm
  ·exact hm
  ·rcases Ar.mp hm with hm | hm
   ·exact absurd hm ne
   ·exact absurd rfl (hno x hm)
 have pw:∀y∈qs.drop (n+1),y≠i/\y≠j:=fun y hy=>by
  have e2:qs=qs.take n++p::qs.drop (n+1):=by rw[Aj hn] at hp;rw[<-AV hp,C8,Bj]
  unfold bY at pf;rw[e2] at pf;have:=(AQ.mp pf).2.1;exact(List.pairwise_cons.mp this).1 y hy e i j h
 exact⟨ind i (by exact hG) (by exact alo) fun y hy=>(pw y hy).1,ind j (by exact hG) (by exact alo) fun y hy=>(pw y hy).2⟩
def aj2:kn:=(qt (zw (aZ bV (qb 1) (qf (zr wq (qb 3) (bO 1)) qx)) (qg 4))
 (qt (zw (aZ bV (qb 1) (qf (zr wq (qb 2) (bO 1)) qx)) (qg 5))
 (qt (zw (zr bz (xj 4 1) (zr wq (zr bB (qb 3) (jx 64)) (gm ft (ki (xj 4 1))))) (qg 6))
 (qt (zw (zr bz (xj 5 1) (zr wq (zr bB (qb 2) (jx 64)) (gm ft (ki (xj 5 1))))) (qg 7))
 (qt (jm (aZ zq (qb 0) (qf (k6 (qf (fg "both") (aK (qb 6) (qb 7)))) qx)))
 (qt (zw (pY 1 (vq (zr vn (xj 4 1) (xj 5 1))) (qg 9) (yB (zr (qT true) (qb 9) (zD (qb 6) (qb 7)))) (qb 9)) (qg 8))
 (jm (aZ zq (qb 1) (qf (w5 (qf (k6 (qf (fg "both") (qf (zr ga (bO 0) (jx 1)) (aK (xj 4 0) (xj 5 0))))) (qf (zr vn (qb 8) (w5 (qf (zr ga (bO 0) (jx 1)) qx))) qx))) qx)))))))))
def afk:kn:=(qt (va (yB (zr yLt (gm ft (ki (xj 1 1))) (jx 2))) ab5 x0)
 (qt (zw (aZ bV (xj 1 1) (qf (zr wq (qb 3) (gm ft (ki (xj 1 1)))) qx)) (qg 4))
 (qt (zw (aZ bV (xj 1 1) (qf (zr wq (qb 2) (gm ft (ki (xj 1 1)))) qx)) (qg 5))
 (qt (jm (aZ zq (qb 0) (qf (k6 (qf (fg "either") (aK (qb 4) (qb 5)))) qx)))
 (qt (vA (qb 1) (jx 0) (k6 (qf (fg "either") (qf (zr ga (bO 0) (jx 1)) (ki (xj 1 0))))))
 (jm (aZ zq (xj 1 1) (qf (zr ga (bO 0) (jx 1)) qx))))))))
theorem bH{ks:List Kn}:∀{w v:Wd} {p:Nat},cO ks p w->cO ks p v->w=v
 |.leaf t n,.leaf t' n',p,h,k=>by
  have h:(ja ks)[p]?=some (.tup [.str (kL t),.str n]):=h;have k:(ja ks)[p]?=some (.tup [.str (kL t'),.str n']):=k;rw[h] at k;injection k with k;injection k with k;injection k with k1 k2;injection k2 with k2 _
  injection k1 with k1;injection k2 with k2
  have:t=t':=by cases t<;>cases t'<;>first | rfl | (exfalso;revert k1;decide +kernel)
  rw[this,k2]
 |.leaf t n,.node e l r,p,h,k=>by obtain⟨i,j,k,_⟩:=k;have h:(ja ks)[p]?=some (.tup [.str (kL t),.str n]):=h;rw[h] at k;injection k with k;injection k with k;injection k with _ k;injection k with _ k;cases k
 |.node e l r,.leaf t n,p,h,k=>by obtain⟨i,j,h,_⟩:=h;have k:(ja ks)[p]?=some (.tup [.str (kL t),.str n]):=k;rw[h] at k;injection k with k;injection k with k;injection k with _ k;injection k with _ k;cases k
 |.node e l r,.node e' l' r',p,⟨i,j,h,hl,hr⟩,⟨i',j',k,kl,kr⟩=>by
  rw[h] at k;injection k with k;injection k with k;injection k with k1 k2;injection k2 with k2 k3;injection k3 with k3 _
  injection k1 with k1;injection k2 with k2;injection k3 with k3
  have e1:i=i':=by lia
  have e2:j=j':=by lia
  subst e1 e2;have:e=e':=by cases e<;>cases e'<;>first | rfl | (exfalso;revert k1;decide +kernel)
  rw[this,bH (ks:=ks) hl kl,bH (ks:=ks) hr kr]
theorem lT{ks:List Kn}(hk:dk ks):∀(m p:Nat),p<m->p<ks.length->∃w,cO ks p w/\w.depth≤p+1/\w.ok
 |0,p,h,_=>absurd h (by lia)
 |m+1,p,h,hp=>by
  obtain⟨k,ek⟩:∃k,ks[p]?=some k:=⟨_,Aj hp⟩;have ho:=hk p k ek;cases k with
  |lf t n=>exact⟨.leaf t n,cO.leaf ek,by show 1≤p+1;exact CZ _,ho⟩
  |nd e i j=>
   have ho:i<p/\j<p:=ho;obtain⟨l,a1,a2,a3⟩:=lT hk m i (by lia) (by omega);obtain⟨r,b1,b2,b3⟩:=lT hk m j (by lia) (by lia);exact⟨.node e l r,EO ek a1 b1,by show max l.depth r.depth+1≤p+1;lia,a3,b3⟩
def TV(v:Str->Bool):Wd->Bool
 |.leaf t n=>if t=true then !v n else v n
 |.node e l r=>if e=true then TV v l||TV v r else TV v l&&TV v r
theorem iy(v:Str->Bool):∀w:Wd,TV v w.turn=!TV v w
 |.leaf t n=>by cases t<;>simp[Wd.turn,TV]
 |.node e l r=>by cases e<;>simp[Wd.turn,TV,iy v l,iy v r]
theorem SR.lt{ks:List Kn}{R:Ru}{E:List Nat}(h:SR ks R E):∀x∈z9 R,x<ks.length:=by
 have lt:∀{p:Nat} {k:Kn},ks[p]?=some k->p<ks.length:=fun h=>(AY.mp h).1
 induction h with
 |link _ h2 h3 _ _=>intro x hx;simp[z9] at hx;rcases hx with rfl | rfl;exact lt h2;exact lt h3
 |ei h1 _ _ _ _ _ _ ih=>intro x hx;rcases Ar.mp hx with rfl | hx;exact lt h1;exact ih x hx
 |bo h1 _ _ _ _ _ _ ih1 ih2=>
  intro x hx;rcases Ar.mp hx with rfl | hx
  ·exact lt h1
  ·rcases Ak.mp hx with hx | hx
   ·exact ih1 x hx
   ·exact ih2 x hx
 |cu _ _ _ _ _ _ _ _ ih1 ih2=>
  intro x hx;rcases Ak.mp hx with hx | hx
  ·exact ih1 x hx
  ·exact ih2 x hx
theorem SR.tv{ks:List Kn}(hk:dk ks)(v:Str->Bool){R:Ru}{E:List Nat}(h:SR ks R E):∃x∈E,∃w,cO ks x w/\TV v w=true:=by
 have ex:∀{R':Ru} {E':List Nat},SR ks R' E'->∀x∈E',∃w,cO ks x w:=fun s x hx=>by obtain⟨w,hw,_⟩:=lT hk (x+1) x (by exact Bu _) (s.lt x (s.sub x hx));exact⟨w,hw⟩
 induction h with
 |@link p q t n E _ h2 h3 h4 _=>
  cases ht:TV v (.leaf t n) with
  |true=>exact⟨p,(h4 p).mpr (.inl rfl),_,cO.leaf h2,ht⟩
  |false=>
   refine⟨q,(h4 q).mpr (.inr rfl),_,cO.leaf h3,?_⟩;have:=iy v (.leaf t n);rw[ht] at this;exact this
 |@ei r i j A EA E h1 hA hi hj _ h6 _ ih=>
  obtain⟨x,hx,w,hw,tv⟩:=ih;obtain⟨wi,wi'⟩:=ex hA i hi;obtain⟨wj,wj'⟩:=ex hA j hj;by_cases c1:x=i
  ·subst c1;rw[bH hw wi'] at tv;exact⟨r,(h6 r).mpr (.inr rfl),_,EO h1 wi' wj',by simp[TV,tv]⟩
  ·by_cases c2:x=j
   ·subst c2;rw[bH hw wj'] at tv;exact⟨r,(h6 r).mpr (.inr rfl),_,EO h1 wi' wj',by simp[TV,tv]⟩
   ·exact⟨x,(h6 x).mpr (.inl ⟨hx,c1,c2⟩),w,hw,tv⟩
 |@bo r i j A B EA EB E h1 hA hB hi hj h6 _ ih1 ih2=>
  obtain⟨x,hx,w,hw,tv⟩:=ih1;obtain⟨y,hy,u,hu,tu⟩:=ih2;by_cases c1:x=i
  ·by_cases c2:y=j
   ·subst c1 c2;exact⟨r,(h6 r).mpr (.inr (.inr rfl)),_,EO h1 hw hu,by simp[TV,tv,tu]⟩
   ·exact⟨y,(h6 y).mpr (.inr (.inl ⟨hy,c2⟩)),u,hu,tu⟩
  ·exact⟨x,(h6 x).mpr (.inl ⟨hx,c1⟩),w,hw,tv⟩
 |@cu p q A B EA EB E w0 hA hB hp hq hwp hwq h7 _ ih1 ih2=>
  obtain⟨x,hx,w,hw,tv⟩:=ih1;obtain⟨y,hy,u,hu,tu⟩:=ih2;by_cases c1:x=p
  ·by_cases c2:y=q
   ·subst c1 c2;rw[bH hw hwp] at tv;rw[bH hu hwq,iy,tv] at tu;cases tu
   ·exact⟨y,(h7 y).mpr (.inr ⟨hy,c2⟩),u,hu,tu⟩
  ·exact⟨x,(h7 x).mpr (.inl ⟨hx,c1⟩),w,hw,tv⟩
theorem SR.ends{ks:List Kn}(hk:dk ks){R:Ru}{E:List Nat}(h:SR ks R E):0<E.length:=by obtain⟨x,hx,_⟩:=h.tv hk fun _=>true;exact List.length_pos_of_mem hx
structure Tr where
 a:Addr
 b:Addr
 R:Ru
 E:List Nat
abbrev qz(E:List Nat):List Y:=E.map fun n:Nat=>Y.int (n:Int)
def Tr.ads(t:Tr):List Addr:=[t.a,t.b]
structure ao(L0 L:ql)(ka fa:Addr)(ks:List Kn)(fo:List Tr):Prop where
 hk:L ka=some (.lst (ja ks))
 ht:∀t∈fo,L t.a=some (.lst [zf t.R,.ref t.b])/\L t.b=some (.lst (qz t.E))
 sr:∀t∈fo,SR ks t.R t.E
 nd:(fo.flatMap fun t=>z9 t.R).Nodup
 tm:∀x,x∈(fo.flatMap fun t=>z9 t.R)↔x<ks.length
 ad:(ka::fa::fo.flatMap Tr.ads).Nodup
 ok:dk ks
 sub:qk L0 L
 fr:∀x∈ka::fa::fo.flatMap Tr.ads,L0 x=none
def zh(fo:List Tr):List Y:=fo.map fun t=>Y.ref t.a
structure mP(L0 L:ql)(ka fa:Addr)(ks:List Kn)(fo:List Tr):Prop where
 b:ao L0 L ka fa ks fo
 hf:L fa=some (.lst (zh fo))
theorem ao.perm{ks:List Kn}{fo fo':List Tr}(h:ao L0 L ka fa ks fo)(p:fo.Perm fo'):ao L0 L ka fa ks fo':=by have p1:(fo.flatMap fun t=>z9 t.R).Perm (fo'.flatMap fun t=>z9 t.R):=p.flatMap_right _;have p2:(fo.flatMap Tr.ads).Perm (fo'.flatMap Tr.ads):=p.flatMap_right _;refine⟨h.hk,fun t ht=>h.ht t (p.mem_iff.mpr ht),fun t ht=>h.sr t (p.mem_iff.mpr ht),p1.nodup_iff.mp h.nd,fun x=>by rw[<-p1.mem_iff];exact h.tm x,((p2.cons _).cons _).nodup_iff.mp h.ad,h.ok,h.sub,fun x hx=>h.fr x (((p2.cons _).cons _).mem_iff.mpr hx)⟩
end L3
variable {fo rest:List L3.Tr}
namespace L3
open PySem L2 Words
theorem jv{α:Type}:∀{l:List α} {j:Nat} {x:α},l[j]?=some x->l.Perm (x::l.eraseIdx j)
 |[],_,_,h=>by simp at h
 |y::r,0,x,h=>by
  have:y=x:=by simpa using h
  subst this;exact .refl _
 |y::r,j+1,x,h=>by have ih:=jv (l:=r) (j:=j) (x:=x) (by simpa using h);rw[Ci];exact(ih.cons y).trans (.swap _ _ _)
theorem lE(fo:List Tr)(j:Nat):(zh fo).eraseIdx j=zh (fo.eraseIdx j):=hZ _ fo j
theorem ao.step{ks ms:List Kn}{old:List Tr}{t':Tr}(h:ao L0 L ka fa ks (old++rest))(hk:L' ka=some (.lst (ja (ks++ms))))(ht:L' t'.a=some (.lst [zf t'.R,.ref t'.b])/\L' t'.b=some (.lst (qz t'.E)))
 (keep:∀t∈rest,L' t.a=L t.a/\L' t.b=L t.b) (sub:qk L0 L') (ad:(ka::fa::(rest++[t']).flatMap Tr.ads).Nodup) (fr:∀x∈t'.ads,L0 x=none) (ok:dk (ks++ms)) (sr:SR (ks++ms) t'.R t'.E)
 (tp:(z9 t'.R).Perm (List.range' ks.length ms.length++old.flatMap fun t=>z9 t.R)):ao L0 L' ka fa (ks++ms) (rest++[t']):=by
 have hnd:=h.nd;have htm:=h.tm;rw[AN] at hnd;have e1:((rest++[t']).flatMap fun t=>z9 t.R)=(rest.flatMap fun t=>z9 t.R)++z9 t'.R:=by rw[AN];simp
 have mem:∀x,x∈z9 t'.R↔(ks.length≤x/\x<ks.length+ms.length)\/x∈(old.flatMap fun t=>z9 t.R):=fun x=>by rw[tp.mem_iff,Ak,C9]
 refine⟨hk,fun t h'=>?_,fun t h'=>?_,?_,fun x=>?_,ad,ok,sub,fun x hx=>?_⟩
 ·rcases Ak.mp h' with h' | h'
  ·obtain⟨k1,k2⟩:=keep t h';rw[k1,k2];exact h.ht t (Ag _ h')
  ·rw[Au.mp h'];exact ht
 ·rcases Ak.mp h' with h' | h'
  ·exact(h.sr t (Ag _ h')).more _
  ·rw[Au.mp h'];exact sr
 ·rw[e1,AK];rw[AK] at hnd;refine⟨hnd.2.1,tp.nodup_iff.mpr ?_,fun x hx y hy e=>?_⟩
  ·rw[AK];refine⟨DA,hnd.1,fun x hx y hy e=>?_⟩;have hx:=C9.mp hx;have hy:=(htm y).mp (by rw[AN];exact Ap _ hy);lia
  ·subst e;rcases (mem x).mp hy with hy | hy
   ·have:=(htm x).mp (by rw[AN];exact Ag _ hx);lia
   ·exact hnd.2.2 x hy x hx rfl
 ·rw[e1,Ak,mem,Ac];have h1:=htm x;rw[AN,Ak] at h1;constructor
  ·rintro(h2 | h2 | h2)
   ·have:=h1.mp (.inr h2);exact am6
   ·lia
   ·have:=h1.mp (.inl h2);lia
  ·intro h2;by_cases c:x<ks.length
   ·rcases h1.mpr c with h3 | h3
    ·exact .inr (.inr h3)
    ·exact .inl h3
   ·exact .inr (.inl (by lia))
 ·rcases Ar.mp hx with rfl | hx
  ·exact h.fr _ (An ..)
  ·rcases Ar.mp hx with rfl | hx
   ·exact h.fr _ (Ah _ (An ..))
   ·rw[AN] at hx;rcases Ak.mp hx with hx | hx
    ·exact h.fr _ (Ah _ (Ah _ (by rw[AN];exact Ag _ hx)))
    ·exact fr x (by simpa using hx)
def pI:jj:=fun ys L Q=>∃L0 ka fa ks fo,∃one two:Int,ys=[.ref ka,.ref fa,.int one,.int two]/\mP L0 L ka fa ks fo/\2≤fo.length/\fo.length≤200/\ks.length≤200/\
 ∀L' ks' fo',mP L0 L' ka fa ks' fo'->ks'.length=ks.length+1->fo'.length+1=fo.length->Q .non L'
theorem oU{l:List α}(h:0<l.length)(k:Int):∃(j:Nat) (x:α),k % (l.length:Int)=(j:Int)/\j<l.length/\l[j]?=some x:=by have h0:0≤k % (l.length:Int):=DV _ (by lia);have h1:k % (l.length:Int)<(l.length:Int):=Int.emod_lt_of_pos _ (by omega);refine⟨(k % (l.length:Int)).toNat,l[(k % (l.length:Int)).toNat]'(by lia),by lia,by lia,Aj (by lia)⟩
theorem aj:∀(n:Nat) (l:List Nat),l.Nodup->(∀x∈l,x<n)->l.length≤n
 |0,l,_,h=>by cases l with|nil=>exact Am _|cons x r=>exact absurd (h x (An ..)) (by lia)
 |n+1,l,nd,h=>by
  by_cases c:n∈l
  ·have p:=List.perm_cons_erase c;have ih:=aj n (l.erase n) (nd.erase n) fun x hx=>by have:=(List.Nodup.mem_erase_iff nd).mp hx;have:=h x this.2;lia
   rw[p.length_eq,AD];exact uH
  ·exact C3 (aj n l nd fun x hx=>by have:=h x hx;have:x≠n:=fun e=>c (e▸hx);lia)
theorem aW{ks:List Kn}(h:ao L0 L ka fa ks fo){t:Tr}(ht:t∈fo):0<t.E.length/\t.E.length≤ks.length:=by have s:=h.sr t ht;exact⟨s.ends h.ok,aj _ _ s.nod fun x hx=>s.lt x (s.sub x hx)⟩
theorem aeb(x l r:Nat):yz (mQ (.int (x:Int))) (([.int (l:Int),.int (r:Int)]:List Y).map mQ)=decide (x=l\/x=r):=by
 show(lU (.int (l:Int)) (.int (x:Int))||(lU (.int (r:Int)) (.int (x:Int))||false))=_;have e:∀a b:Nat,lU (.int (a:Int)) (.int (b:Int))=decide (b=a):=fun a b=>by
  show decide ((a:Int)=(b:Int))=decide (b=a);by_cases c:b=a
  ·subst c;simp
  ·rw[AA c];apply AA;lia
 rw[e,e];by_cases h1:x=l<;>by_cases h2:x=r<;>simp[h1,h2]
theorem oP{E:List Nat}(h:0<E.length)(k:Int):∃x,x∈E/\dg (qz E) (k % ((qz E).length:Int))=some (.int ((x:Nat):Int)):=by obtain⟨j,x,ej,lj,ex⟩:=oU h k;refine⟨x,AI ex,?_⟩;rw[Ae,ej];exact ve (by rw[Av,ex];rfl)
def x8(E1 E2:List Nat)(l r:Nat):List Nat:=(E1++E2).filter fun x=>!decide (x=l\/x=r)
theorem aa8{pp:Addr}{E:List Nat}{l r k:Nat}{Q:YK}(hp:L pp=some (.lst (qz E)))(hlen:E.length≤1000)
 (ht:∀y (Q':Bool->ql->Prop),qT true y (.tup [.int (l:Int),.int (r:Int)]) L (fun x L'=>match x with | .bl c=>Q' c L' | _=>False)->tc (aa (τ++List.replicate 1 none) k y) L Q')
 (hv:∀y,tG (aa (τ++List.replicate 1 none) k y) k=some y)
 (hq:∀p,L p=none->Q (.ref p) (qd L p (.lst (qz (E.filter fun x=>!decide (x=l\/x=r)))))):
 re L pp fun ys keep L2=>yw ys keep 1 (qg k) tc (qb k) τ L2 Q:=by
 refine xz hp fun keep kp=>cq (fun j zs=>zs=qz ((E.take j).filter fun x=>!decide (x=l\/x=r))) (by rw[Ae];exact mY hlen) (kp L rfl) rfl ?_ ?_
 ·rintro j y _ ey rfl;obtain⟨x,ex,rfl⟩:∃x:Nat,E[j]?=some x/\y=Y.int (x:Int):=by rw[Av] at ey;obtain⟨x,e1,e2⟩:=AE.mp ey;exact⟨x,e1,e2.symm⟩
  refine ht _ _ ⟨rfl,rfl,?_⟩;rw[aeb];show ke (!decide (x=l\/x=r)) _ _;have et:(E.take (j+1)).filter (fun x=>!decide (x=l\/x=r))=(E.take j).filter (fun x=>!decide (x=l\/x=r))++[x].filter (fun x=>!decide (x=l\/x=r)):=by rw[Bo,ex,Cq];rfl
  by_cases c:x=l\/x=r
  ·refine bT (by rw[AB c];rfl) ?_;refine frg ⟨rfl,?_⟩;rw[et,List.filter_cons_of_neg (by simp[c]),DU,AZ]
  ·refine lW (by rw[AA c];rfl) ?_;unfold qb;rw[hv];refine frg ⟨rfl,?_⟩;rw[et,List.filter_cons_of_pos (by simp[c]),DU];unfold qz;rw[AC];rfl
 ·rintro _ rfl p hp';rw[Ae,Bn];exact hq p hp'
theorem uF{k:Int}(hf:L fa=some (.lst (zh fo)))(h:0<fo.length):∃(j:Nat) (t:Tr),fo[j]?=some t/\0≤k % ((zh fo).length:Int)/\k % ((zh fo).length:Int)<((zh fo).length:Int)/\
 (zh fo)[(k % ((zh fo).length:Int)).toNat]?=some (.ref t.a)/\qd L fa (.lst ((zh fo).eraseIdx (k % ((zh fo).length:Int)).toNat)) fa=some (.lst (zh (fo.eraseIdx j))):=by
 obtain⟨j,t,ej,lj,et⟩:=oU h k;have e:(zh fo).length=fo.length:=Ae ..;rw[e,ej];refine⟨j,t,et,by exact A2 _,by lia,?_,?_⟩
 ·show(zh fo)[j]?=_;unfold zh;rw[Av,et];rfl
 ·rw[q9];show some (LO.lst ((zh fo).eraseIdx j))=_;rw[lE]
theorem ao.two{ks:List Kn}{t1 t2:Tr}(h:ao L0 L ka fa ks (t1::t2::rest)):∀x,x∈z9 t1.R->x∈z9 t2.R->False:=by intro x h1 h2;have nd:=h.nd;rw[AU,AU,AK] at nd;exact nd.2.2 x h1 x (Ap _ h2) rfl
theorem oN{E1 E2:List Nat}{l r:Nat}(hl:l∉E2)(hr:r∉E1)(x:Nat):x∈x8 E1 E2 l r↔(x∈E1/\x≠l)\/(x∈E2/\x≠r):=by
 unfold x8;rw[Br,Ak];constructor
 ·rintro⟨h,c⟩;have c:¬(x=l\/x=r):=by simpa using c
  rcases h with h | h
  ·exact .inl ⟨h,fun e=>c (.inl e)⟩
  ·exact .inr ⟨h,fun e=>c (.inr e)⟩
 ·rintro(⟨h,c⟩ | ⟨h,c⟩)
  ·refine⟨.inl h,?_⟩;have:x≠r:=fun e=>hr (e▸h);simp[c,this]
  ·refine⟨.inr h,?_⟩;have:x≠l:=fun e=>hl (e▸h);simp[c,this]
theorem oV{E1 E2:List Nat}{l r:Nat}(h1:E1.Nodup)(h2:E2.Nodup)(d:∀x,x∈E1->x∈E2->False):(x8 E1 E2 l r).Nodup:=by
 unfold x8;have h:(E1++E2).Nodup:=by rw[AK];exact⟨h1,h2,fun x hx y hy e=>d x hx (e▸hy)⟩
 exact List.Pairwise.filter _ h
theorem adk:∀ys L Q,pI ys L Q->xq aj2 9 ys L Q:=by
 rintro ys L Q ⟨L0,ka,fa,ks,fo,one,two,rfl,F,h2,h200,hk200,q⟩;have big:=bg_;have lenR:∀fo:List Tr,(zh fo).length=fo.length:=fun fo=>Ae ..;obtain⟨j1,t1,at1,a1,a2,a3,hf1⟩:=uF (k:=two) F.hf (by exact gB);have l1:(fo.eraseIdx j1).length+1=fo.length:=by have:=(jv at1).length_eq;rw[AD] at this;lia
 refine qe F.hf (qe F.hf ⟨(by show(0:Int)<((zh fo).length:Int);rw[lenR];lia),qu F.hf ⟨a1,a2,qm a3 ?_⟩⟩);have old1:∀b o,b≠fa->L b=some o->qd L fa (.lst ((zh fo).eraseIdx (two % ((zh fo).length:Int)).toNat)) b=some o:=fun b o nb e=>by rw[qa nb];exact e
 generalize qd L fa (.lst ((zh fo).eraseIdx (two % ((zh fo).length:Int)).toNat))=L1 at hf1 old1;obtain⟨j2,t2,at2,b1,b2,b3,hf2⟩:=uF (k:=one) hf1 (by lia);have l2:((fo.eraseIdx j1).eraseIdx j2).length+1=(fo.eraseIdx j1).length:=by have:=(jv at2).length_eq;rw[AD] at this;lia
 refine qe hf1 (qe hf1 ⟨(by show(0:Int)<((zh (fo.eraseIdx j1)).length:Int);rw[lenR];lia),qu hf1 ⟨b1,b2,qm b3 ?_⟩⟩);have old2:∀b o,b≠fa->L b=some o->qd L1 fa (.lst ((zh (fo.eraseIdx j1)).eraseIdx (one % ((zh (fo.eraseIdx j1)).length:Int)).toNat)) b=some o:=fun b o nb e=>by rw[qa nb];exact old1 b o nb e
 generalize qd L1 fa (.lst ((zh (fo.eraseIdx j1)).eraseIdx (one % ((zh (fo.eraseIdx j1)).length:Int)).toNat))=L2 at hf2 old2;have B:ao L0 L ka fa ks (t1::t2::(fo.eraseIdx j1).eraseIdx j2):=F.b.perm ((jv at1).trans ((jv at2).cons _));generalize (fo.eraseIdx j1).eraseIdx j2=rest at l2 hf2 B;clear hf1 old1 a1 a2 a3 b1 b2 b3;have m1:t1∈t1::t2::rest:=by simp
 have m2:t2∈t1::t2::rest:=by simp
 have ad:=B.ad;have nk:∀t∈t1::t2::rest,t.a≠fa/\t.b≠fa/\t.a≠ka/\t.b≠ka:=fun t ht=>by rw[Aw,Aw] at ad;have ma:t.a∈(t1::t2::rest).flatMap Tr.ads:=Ba.mpr ⟨t,ht,by simp[Tr.ads]⟩;have mb:t.b∈(t1::t2::rest).flatMap Tr.ads:=Ba.mpr ⟨t,ht,by simp[Tr.ads]⟩;exact⟨fun e=>ad.2.1 (e▸ma),fun e=>ad.2.1 (e▸mb),fun e=>ad.1 (Ah _ (e▸ma)),fun e=>ad.1 (Ah _ (e▸mb))⟩
 have nkf:ka≠fa:=by rw[Aw] at ad;exact fun e=>ad.1 (e▸An ..)
 have hk2:L2 ka=some (.lst (ja ks)):=old2 ka _ nkf B.hk;have ta1:=old2 t1.a _ (nk t1 m1).1 (B.ht t1 m1).1;have tb1:=old2 t1.b _ (nk t1 m1).2.1 (B.ht t1 m1).2;have ta2:=old2 t2.a _ (nk t2 m2).1 (B.ht t2 m2).1;have tb2:=old2 t2.b _ (nk t2 m2).2.1 (B.ht t2 m2).2;have le1:=aW B m1;have le2:=aW B m2;obtain⟨x,hx,ex⟩:=oP le1.1 (two / 64);obtain⟨y,hy,ey⟩:=oP le2.1 (one / 64);refine qe ta1 ⟨⟨by decide,by decide⟩,qe ta1 (qe tb1 ⟨(by show(0:Int)<((qz t1.E).length:Int);rw[Ae];omega),qe tb1 (qm ex ?_)⟩)⟩;refine qe ta2 ⟨⟨by decide,by decide⟩,qe ta2 (qe tb2 ⟨(by show(0:Int)<((qz t2.E).length:Int);rw[Ae];omega),qe tb2 (qm ey ?_)⟩)⟩;refine qe hk2 (qu hk2 ⟨big _ (by rw[Ae];exact i0),?_⟩);have ek:ja ks++[.tup [.str "both",.int ((x:Nat):Int),.int ((y:Nat):Int)]]=ja (ks++[.nd false x y]):=by unfold ja;rw[AC];rfl
 rw[ek];have hk3:qd L2 ka (.lst (ja (ks++[.nd false x y]))) ka=some (.lst (ja (ks++[.nd false x y]))):=q9;have old3:∀b o,b≠ka->L2 b=some o->qd L2 ka (.lst (ja (ks++[.nd false x y]))) b=some o:=fun b o nb e=>by rw[qa nb];exact e
 generalize qd L2 ka (.lst (ja (ks++[.nd false x y])))=L3 at hk3 old3;have ta1:=old3 _ _ (nk t1 m1).2.2.1 ta1;have tb1:=old3 _ _ (nk t1 m1).2.2.2 tb1;have ta2:=old3 _ _ (nk t2 m2).2.2.1 ta2;have tb2:=old3 _ _ (nk t2 m2).2.2.2 tb2;have hf3:=old3 _ _ (AH nkf) hf2;refine qe ta1 (qe ta2 ⟨_,_,tb1,tb2,dr (by rw[Ae,Ae];lia),fun pp hpp=>?_⟩);have en:qz t1.E++qz t2.E=qz (t1.E++t2.E):=by unfold qz;rw[AC]
 rw[en];refine aa8 (E:=t1.E++t2.E) (l:=x) (r:=y) (k:=9) q9 (by rw[Ac];lia) (fun y' Q' h=>h) (fun _=>rfl) fun pe hpe=>?_;have s4:qk L3 (qd (qd L3 pp (.lst (qz (t1.E++t2.E)))) pe (.lst (qz ((t1.E++t2.E).filter fun z=>!decide (z=x\/z=y))))):=(By hpp).trans (By hpe);have he4:qd (qd L3 pp (.lst (qz (t1.E++t2.E)))) pe (.lst (qz ((t1.E++t2.E).filter fun z=>!decide (z=x\/z=y)))) pe=some (.lst (qz (x8 t1.E t2.E x y))):=q9;generalize qd (qd L3 pp (.lst (qz (t1.E++t2.E)))) pe (.lst (qz ((t1.E++t2.E).filter fun z=>!decide (z=x\/z=y))))=L4 at s4 he4;have hk4:=s4 _ _ hk3;have hf4:=s4 _ _ hf3;have nn:(((ja (ks++[.nd false x y])).length:Nat):Int) - 1=((ks.length:Nat):Int):=by rw[Ae,Ac];simp
 refine qe hf4 (qe hk4 (qe (s4 _ _ ta1) (qe (s4 _ _ ta2) (qe hk4 fun pn hpn=>?_))));refine⟨_,_,By hpn _ _ he4,q9,dr (by have:=oV (l:=x) (r:=y) (B.sr t1 m1).nod (B.sr t2 m2).nod (fun z h1 h2=>B.two z ((B.sr t1 m1).sub z h1) ((B.sr t2 m2).sub z h2));have:=List.length_filter_le (fun z=>!decide (z=x\/z=y)) (t1.E++t2.E);rw[Ac] at this;rw[Ae];unfold x8;show _+1≤1000;lia),fun pb hpb pa hpa=>?_⟩;have s7:=(By (o:=.lst [.int ((((ja (ks++[.nd false x y])).length:Nat):Int) - 1)]) hpn).trans ((By (o:=.lst (qz (x8 t1.E t2.E x y)++[.int ((((ja (ks++[.nd false x y])).length:Nat):Int) - 1)])) hpb).trans (By (o:=.lst [.tup [.str "both",.int ((((ja (ks++[.nd false x y])).length:Nat):Int) - 1),zf t1.R,zf t2.R],.ref pb]) hpa));refine qu (s7 _ _ hf4) ⟨big _ (by rw[lenR];lia),?_⟩;have nab:pb≠pa:=xo q9 hpa;have hpa7:∀L6:ql,qd L6 pa (.lst [.tup [.str "both",.int ((((ja (ks++[.nd false x y])).length:Nat):Int) - 1),zf t1.R,zf t2.R],.ref pb]) pa=some (.lst [zf (.bo ks.length t1.R t2.R),.ref pb]):=fun L6=>by rw[q9,nn];rfl
 have hpb7:∀L5 o,qd (qd L5 pb (.lst (qz (x8 t1.E t2.E x y)++[.int ((((ja (ks++[.nd false x y])).length:Nat):Int) - 1)]))) pa o pb=some (.lst (qz (x8 t1.E t2.E x y++[ks.length]))):=fun L5 o=>by rw[qa nab,q9,nn];unfold qz;rw[AC];rfl
 have ea:=hpa7 (qd (qd L4 pn (.lst [.int ((((ja (ks++[.nd false x y])).length:Nat):Int) - 1)])) pb (.lst (qz (x8 t1.E t2.E x y)++[.int ((((ja (ks++[.nd false x y])).length:Nat):Int) - 1)])));have eb:=hpb7 (qd L4 pn (.lst [.int ((((ja (ks++[.nd false x y])).length:Nat):Int) - 1)])) (.lst [.tup [.str "both",.int ((((ja (ks++[.nd false x y])).length:Nat):Int) - 1),zf t1.R,zf t2.R],.ref pb]);have na4:L4 pa=none:=by cases z:L4 pa with|none=>rfl|some o=>rw[((By hpn).trans (By hpb)) _ _ z] at hpa;cases hpa
 have nb4:L4 pb=none:=by cases z:L4 pb with|none=>rfl|some o=>rw[(By hpn) _ _ z] at hpb;cases hpb
 generalize qd (qd (qd L4 pn (.lst [.int ((((ja (ks++[.nd false x y])).length:Nat):Int) - 1)])) pb (.lst (qz (x8 t1.E t2.E x y)++[.int ((((ja (ks++[.nd false x y])).length:Nat):Int) - 1)]))) pa (.lst [.tup [.str "both",.int ((((ja (ks++[.nd false x y])).length:Nat):Int) - 1),zf t1.R,zf t2.R],.ref pb])=L7 at s7 ea eb;clear hpn hpb hpa hpa7 hpb7 he4;have up:∀b o,b≠fa->b≠ka->L b=some o->L4 b=some o:=fun b o n1 n2 e=>s4 _ _ (old3 _ _ n2 (old2 _ _ n1 e));have hf7:=s7 _ _ hf4;have npa:pa≠fa:=fun e=>by rw[e,hf4] at na4;cases na4
 have npb:pb≠fa:=fun e=>by rw[e,hf4] at nb4;cases nb4
 have s1:=B.sr t1 m1;have s2:=B.sr t2 m2;have dis:∀z,z∈t1.E->z∈t2.E->False:=fun z h1 h2=>B.two z (s1.sub z h1) (s2.sub z h2);refine xu (q _ (ks++[.nd false x y]) (rest++[⟨pa,pb,.bo ks.length t1.R t2.R,x8 t1.E t2.E x y++[ks.length]⟩]) ⟨?_,?_⟩ (by rw[Ac];rfl) (by rw[Ac];simp;lia))
 ·refine ao.step (old:=[t1,t2]) (t':=⟨pa,pb,.bo ks.length t1.R t2.R,x8 t1.E t2.E x y++[ks.length]⟩) B ?_ ⟨?_,?_⟩ (fun t ht=>?_) (fun b o e=>?_) ?_ (fun z hz=>?_) ?_ ?_ ?_
  ·rw[qa nkf];exact s7 _ _ hk4
  ·rw[qa npa];exact ea
  ·rw[qa npb];exact eb
  ·have mt:t∈t1::t2::rest:=Ah _ (Ah _ ht);obtain⟨n1,n2,n3,n4⟩:=nk t mt;obtain⟨h1,h2⟩:=B.ht t mt;rw[h1,h2,qa n1,qa n2];exact⟨s7 _ _ (up _ _ n1 n3 h1),s7 _ _ (up _ _ n2 n4 h2)⟩
  ·have n1:b≠ka:=fun z=>by rw[z,B.fr ka (by simp)] at e;cases e
   have n2:b≠fa:=fun z=>by rw[z,B.fr fa (by simp)] at e;cases e
   rw[qa n2];exact s7 _ _ (up _ _ n2 n1 (B.sub _ _ e))
  ·rw[Aw,Aw] at ad;obtain⟨d1,d2,d3⟩:=ad;have d3':(rest.flatMap Tr.ads).Nodup:=by rw[AU,AU,AK,AK] at d3;exact d3.2.1.2.1
   have inn:∀z∈rest.flatMap Tr.ads,z∈(t1::t2::rest).flatMap Tr.ads:=fun z hz=>by rw[AU,AU];exact Ag _ (Ag _ hz)
   have ex4:∀z∈rest.flatMap Tr.ads,∃o,L4 z=some o:=fun z hz=>by
    obtain⟨t,ht,hz⟩:=Ba.mp hz;have mt:t∈t1::t2::rest:=Ah _ (Ah _ ht);obtain⟨n1,n2,n3,n4⟩:=nk t mt;obtain⟨h1,h2⟩:=B.ht t mt;have hz:z=t.a\/z=t.b:=by simpa[Tr.ads] using hz
    rcases hz with rfl | rfl
    ·exact⟨_,up _ _ n1 n3 h1⟩
    ·exact⟨_,up _ _ n2 n4 h2⟩
   have npk:pa≠ka:=fun e=>by rw[e,hk4] at na4;cases na4
   have nbk:pb≠ka:=fun e=>by rw[e,hk4] at nb4;cases nb4
   have nra:pa∉rest.flatMap Tr.ads:=fun hz=>by obtain⟨o,e⟩:=ex4 _ hz;rw[na4] at e;cases e
   have nrb:pb∉rest.flatMap Tr.ads:=fun hz=>by obtain⟨o,e⟩:=ex4 _ hz;rw[nb4] at e;cases e
   rw[AN];rw[Aw,Aw,AK];refine⟨?_,?_,d3',?_,?_⟩
   ·intro z;rcases Ar.mp z with z | z
    ·exact nkf z
    ·rcases Ak.mp z with z | z
     ·exact d1 (Ah _ (inn _ z))
     ·simp[Tr.ads] at z;rcases z with z | z;exact npk z.symm;exact nbk z.symm
   ·intro z;rcases Ak.mp z with z | z
    ·exact d2 (inn _ z)
    ·simp[Tr.ads] at z;rcases z with z | z;exact npa z.symm;exact npb z.symm
   ·simp[Tr.ads];exact AH nab
   ·intro u hu v hv e;simp[Tr.ads] at hv;subst e;rcases hv with rfl | rfl
    ·exact nra hu
    ·exact nrb hu
  ·have hz:z=pa\/z=pb:=by simpa[Tr.ads] using hz
   cases w:L0 z with
   |none=>rfl
   |some o=>
    have n1:z≠ka:=fun e=>by rw[e,B.fr ka (by simp)] at w;cases w
    have n2:z≠fa:=fun e=>by rw[e,B.fr fa (by simp)] at w;cases w
    have:=up _ _ n2 n1 (B.sub _ _ w);rcases hz with rfl | rfl
    ·rw[na4] at this;cases this
    ·rw[nb4] at this;cases this
  ·exact B.ok.snoc ⟨s1.lt x (s1.sub x hx),s2.lt y (s2.sub y hy)⟩
  ·refine .bo (dQ _ _ _) (s1.more _) (s2.more _) hx hy (fun z=>?_) ?_
   ·rw[Ak,oN (fun h=>dis x hx h) (fun h=>dis y h hy),Au];constructor
    ·rintro((h | h) | h)
     ·exact .inl h
     ·exact .inr (.inl h)
     ·exact .inr (.inr h)
    ·rintro(h | h | h)
     ·exact .inl (.inl h)
     ·exact .inl (.inr h)
     ·exact .inr h
   ·rw[AK];refine⟨oV s1.nod s2.nod dis,by simp,fun u hu v hv e=>?_⟩;rw[Au.mp hv] at e;have:=(oN (fun h=>dis x hx h) (fun h=>dis y h hy) u).mp hu;rcases this with⟨h,_⟩ | ⟨h,_⟩
    ·have:=s1.lt u (s1.sub u h);lia
    ·have:=s2.lt u (s2.sub u h);lia
  ·show(ks.length::(z9 t1.R++z9 t2.R)).Perm (List.range' ks.length 1++([t1,t2].flatMap fun t=>z9 t.R));simp[DJ]
 ·rw[q9];unfold zh;rw[AC];rfl
theorem rh{E:List Nat}{k:Int}(h:0<E.length):∃(j x:Nat),E[j]?=some x/\0≤k % ((qz E).length:Int)/\k % ((qz E).length:Int)<((qz E).length:Int)/\
 (qz E)[(k % ((qz E).length:Int)).toNat]?=some (.int ((x:Nat):Int))/\(qz E).eraseIdx (k % ((qz E).length:Int)).toNat=qz (E.eraseIdx j):=by
 obtain⟨j,x,ej,lj,et⟩:=oU h k;have e:(qz E).length=E.length:=Ae ..;rw[e,ej];refine⟨j,x,et,by exact A2 _,by lia,?_,?_⟩
 ·show(qz E)[j]?=_;rw[Av,et];rfl
 ·exact hZ _ E j
def kA:jj:=fun ys L Q=>∃L0 ka fa ks,∃pre post:List Tr,∃t:Tr,∃one two:Int,ys=[.ref ka,.ref t.a,.int one,.int two]/\mP L0 L ka fa ks (pre++t::post)/\ks.length≤200/\
 ∀L' ks' fo',mP L0 L' ka fa ks' fo'->ks'.length≤ks.length+1->fo'.length=(pre++t::post).length->Q .non L'
theorem zH:∀ys L Q,kA ys L Q->xq afk 6 ys L Q:=by
 rintro ys L Q ⟨L0,ka,fa,ks,pre,post,t,one,two,rfl,F,hk200,q⟩;have big:=bg_;have mt:t∈pre++t::post:=by simp
 have B:=F.b;obtain⟨ta,tb⟩:=B.ht t mt;have le:=aW B mt;have s:=B.sr t mt;have lenE:∀E:List Nat,(qz E).length=E.length:=fun E=>Ae ..;refine qe ta (qe tb ?_);refine ju (fun c=>?_) fun c=>?_
 ·exact xu (q L ks _ F (Cn _) rfl)
 have c:¬(((qz t.E).length:Int)<2):=c;rw[lenE] at c;have ad:=B.ad;have nkf:ka≠fa:=by rw[Aw] at ad;exact fun e=>ad.1 (e▸An ..)
 have nk:∀u∈pre++t::post,u.a≠fa/\u.b≠fa/\u.a≠ka/\u.b≠ka:=fun u hu=>by rw[Aw,Aw] at ad;have ma:u.a∈(pre++t::post).flatMap Tr.ads:=Ba.mpr ⟨u,hu,by simp[Tr.ads]⟩;have mb:u.b∈(pre++t::post).flatMap Tr.ads:=Ba.mpr ⟨u,hu,by simp[Tr.ads]⟩;exact⟨fun e=>ad.2.1 (e▸ma),fun e=>ad.2.1 (e▸mb),fun e=>ad.1 (Ah _ (e▸ma)),fun e=>ad.1 (Ah _ (e▸mb))⟩
 have nab:t.a≠t.b:=by rw[Aw,Aw,AN,AU,AK,AK] at ad;have:=ad.2.2.2.1.1;simpa[Tr.ads] using this
 obtain⟨j1,x,e1,a1,a2,a3,a4⟩:=rh (k:=two) le.1;refine qe ta (qe tb (qe ta (qe tb ⟨(by show(0:Int)<((qz t.E).length:Int);rw[lenE];omega),qu tb ⟨a1,a2,qm a3 ?_⟩⟩)));rw[a4];have lE1:(t.E.eraseIdx j1).length+1=t.E.length:=by have:=(jv e1).length_eq;rw[AD] at this;lia
 have ta1:qd L t.b (.lst (qz (t.E.eraseIdx j1))) t.a=some (.lst [zf t.R,.ref t.b]):=by rw[qa nab];exact ta
 obtain⟨j2,y,e2,b1,b2,b3,b4⟩:=rh (E:=t.E.eraseIdx j1) (k:=one) (by lia);refine qe ta1 (qe q9 (qe ta1 (qe q9 ⟨(by show(0:Int)<((qz (t.E.eraseIdx j1)).length:Int);rw[lenE];omega),qu q9 ⟨b1,b2,qm b3 ?_⟩⟩)));rw[b4,jc];have lE2:((t.E.eraseIdx j1).eraseIdx j2).length+1=(t.E.eraseIdx j1).length:=by have:=(jv e2).length_eq;rw[AD] at this;lia
 have pE:t.E.Perm (x::y::(t.E.eraseIdx j1).eraseIdx j2):=(jv e1).trans ((jv e2).cons _);generalize (t.E.eraseIdx j1).eraseIdx j2=E2 at lE2 pE;have hk1:qd L t.b (.lst (qz E2)) ka=some (.lst (ja ks)):=by rw[qa (AH (nk t mt).2.2.2)];exact B.hk
 refine qe hk1 (qu hk1 ⟨big _ (by rw[Ae];exact i0),?_⟩);have ek:ja ks++[.tup [.str "either",.int ((x:Nat):Int),.int ((y:Nat):Int)]]=ja (ks++[.nd true x y]):=by unfold ja;rw[AC];rfl
 rw[ek];have nn:(((ja (ks++[.nd true x y])).length:Nat):Int) - 1=((ks.length:Nat):Int):=by rw[Ae,Ac];simp
 have ta2:qd (qd L t.b (.lst (qz E2))) ka (.lst (ja (ks++[.nd true x y]))) t.a=some (.lst [zf t.R,.ref t.b]):=by rw[qa (nk t mt).2.2.1,qa nab];exact ta
 refine qe q9 (qe ta2 ?_);refine qu ta2 (qm (v:=0) rfl ?_);have ha3:qd (qd (qd L t.b (.lst (qz E2))) ka (.lst (ja (ks++[.nd true x y])))) t.a (.lst ([zf t.R,.ref t.b].set 0 (.tup [.str "either",.int ((((ja (ks++[.nd true x y])).length:Nat):Int) - 1),zf t.R]))) t.a=some (.lst [zf (.ei ks.length t.R),.ref t.b]):=by rw[q9,nn];rfl
 have hk3:∀o,qd (qd (qd L t.b (.lst (qz E2))) ka (.lst (ja (ks++[.nd true x y])))) t.a o ka=some (.lst (ja (ks++[.nd true x y]))):=fun o=>by rw[qa (AH (nk t mt).2.2.1)];exact q9
 have tb3:∀o,qd (qd (qd L t.b (.lst (qz E2))) ka (.lst (ja (ks++[.nd true x y])))) t.a o t.b=some (.lst (qz E2)):=fun o=>by rw[qa (AH nab),qa (nk t mt).2.2.2];exact q9
 have old3:∀o b u,b≠t.a->b≠t.b->b≠ka->L b=some u->qd (qd (qd L t.b (.lst (qz E2))) ka (.lst (ja (ks++[.nd true x y])))) t.a o b=some u:=fun o b u n1 n2 n3 e=>by rw[qa n1,qa n3,qa n2];exact e
 have hk3:=hk3 (.lst ([zf t.R,.ref t.b].set 0 (.tup [.str "either",.int ((((ja (ks++[.nd true x y])).length:Nat):Int) - 1),zf t.R])));have tb3:=tb3 (.lst ([zf t.R,.ref t.b].set 0 (.tup [.str "either",.int ((((ja (ks++[.nd true x y])).length:Nat):Int) - 1),zf t.R])));have old3:=old3 (.lst ([zf t.R,.ref t.b].set 0 (.tup [.str "either",.int ((((ja (ks++[.nd true x y])).length:Nat):Int) - 1),zf t.R])));generalize qd (qd (qd L t.b (.lst (qz E2))) ka (.lst (ja (ks++[.nd true x y])))) t.a (.lst ([zf t.R,.ref t.b].set 0 (.tup [.str "either",.int ((((ja (ks++[.nd true x y])).length:Nat):Int) - 1),zf t.R])))=L3 at ha3 hk3 tb3 old3;refine qe ha3 (qe tb3 (qe hk3 (qu tb3 ⟨big _ (by rw[lenE];lia),?_⟩)));have en:qz E2++[.int ((((ja (ks++[.nd true x y])).length:Nat):Int) - 1)]=qz (E2++[ks.length]):=by rw[nn];unfold qz;rw[AC];rfl
 have nxy:=pE.nodup_iff.mp s.nod;rw[Aw,Aw] at nxy;have hx:x∈t.E:=pE.mem_iff.mpr (by simp);have hy:y∈t.E:=pE.mem_iff.mpr (by simp);have adT:∀u∈pre++post,u.a≠t.a/\u.a≠t.b/\u.b≠t.a/\u.b≠t.b:=fun u hu=>by have p:(pre++t::post).Perm (t::(pre++post)):=BX;have ad2:=(p.flatMap_right Tr.ads).nodup_iff.mp (by rw[Aw,Aw] at ad;exact ad.2.2);rw[AU,AK] at ad2;have k:=ad2.2.2;have ma:u.a∈(pre++post).flatMap Tr.ads:=Ba.mpr ⟨u,hu,by simp[Tr.ads]⟩;have mb:u.b∈(pre++post).flatMap Tr.ads:=Ba.mpr ⟨u,hu,by simp[Tr.ads]⟩;exact⟨fun e=>k t.a (by simp[Tr.ads]) u.a ma e.symm,fun e=>k t.b (by simp[Tr.ads]) u.a ma e.symm,fun e=>k t.a (by simp[Tr.ads]) u.b mb e.symm,fun e=>k t.b (by simp[Tr.ads]) u.b mb e.symm⟩
 refine xu (q _ (ks++[.nd true x y]) (pre++⟨t.a,t.b,.ei ks.length t.R,E2++[ks.length]⟩::post) ⟨?_,?_⟩ (by rw[Ac];exact Am _) (by simp))
 ·have B':=B.perm (fo':=[t]++(pre++post)) BX;have st:=ao.step (old:=[t]) (rest:=pre++post) (t':=⟨t.a,t.b,.ei ks.length t.R,E2++[ks.length]⟩) (ms:=[.nd true x y]) (L':=qd L3 t.b (.lst (qz E2++[.int ((((ja (ks++[.nd true x y])).length:Nat):Int) - 1)]))) B' ?_ ⟨?_,?_⟩ (fun u hu=>?_) (fun b o e=>?_) ?_ (fun z hz=>?_) ?_ ?_ ?_
  ·exact st.perm (by have p1:((pre++post)++[(⟨t.a,t.b,.ei ks.length t.R,E2++[ks.length]⟩:Tr)]).Perm ((⟨t.a,t.b,.ei ks.length t.R,E2++[ks.length]⟩:Tr)::(pre++post)):=BZ _ _;exact p1.trans BX.symm)
  ·rw[qa (AH (nk t mt).2.2.2)];exact hk3
  ·rw[qa nab];exact ha3
  ·rw[q9,en]
  ·have hu':u∈pre++t::post:=by rcases Ak.mp hu with h | h;exact Ap _ h;exact Ag _ (Ah _ h)
   obtain⟨n1,n2,n3,n4⟩:=adT u hu;obtain⟨k1,k2,k3,k4⟩:=nk u hu';obtain⟨h1,h2⟩:=B.ht u hu';rw[h1,h2,qa n2,qa n4];exact⟨old3 _ _ n1 n2 k3 h1,old3 _ _ n3 n4 k4 h2⟩
  ·have fr:=B.fr;have n0:∀z,L0 z=none->b≠z:=fun z hz w=>by rw[w,hz] at e;cases e
   have n1:=n0 ka (fr ka (by simp));have n2:=n0 t.a (fr t.a (by simp[Tr.ads]));have n3:=n0 t.b (fr t.b (by simp[Tr.ads]));rw[qa n3];exact old3 _ _ n2 n3 n1 (B.sub _ _ e)
  ·have p:(pre++t::post).Perm ((pre++post)++[t]):=BX.trans (BZ _ _).symm;have e:((pre++post)++[(⟨t.a,t.b,.ei ks.length t.R,E2++[ks.length]⟩:Tr)]).flatMap Tr.ads=((pre++post)++[t]).flatMap Tr.ads:=by simp[AN,Tr.ads]
   rw[e];exact(((p.flatMap_right Tr.ads).cons _).cons _).nodup_iff.mp ad
  ·have hz:z=t.a\/z=t.b:=by simpa[Tr.ads] using hz
   rcases hz with rfl | rfl
   ·exact B.fr _ (by simp[Tr.ads])
   ·exact B.fr _ (by simp[Tr.ads])
  ·exact B.ok.snoc ⟨s.lt x (s.sub x hx),s.lt y (s.sub y hy)⟩
  ·refine .ei (dQ _ _ _) (s.more _) hx hy (fun e=>nxy.1 (by rw[e];exact An ..)) (fun z=>?_) ?_
   ·rw[Ak,Au];have hm:=pE.mem_iff (a:=z);rw[Ar,Ar] at hm;have h1:z∈E2->z≠x/\z≠y:=fun h=>⟨fun e=>nxy.1 (by rw[<-e];exact Ah _ h),fun e=>nxy.2.1 (e▸h)⟩;constructor
    ·rintro(h | h)
     ·exact .inl ⟨hm.mpr (.inr (.inr h)),h1 h⟩
     ·exact .inr h
    ·rintro(⟨h,c1,c2⟩ | h)
     ·rcases hm.mp h with e | e | e
      ·exact absurd e c1
      ·exact absurd e c2
      ·exact .inl e
     ·exact .inr h
   ·rw[AK];refine⟨nxy.2.2,by simp,fun u hu v hv e=>?_⟩;rw[Au.mp hv] at e;have:u∈t.E:=pE.mem_iff.mpr (Ah _ (Ah _ hu));have:=s.lt u (s.sub u this);lia
  ·show(ks.length::z9 t.R).Perm (List.range' ks.length 1++([t].flatMap fun t=>z9 t.R));simp[DJ]
 ·have nf:=nk t mt;rw[qa (AH nf.2.1)];have:=old3 fa _ (AH nf.1) (AH nf.2.1) (AH nkf) F.hf;rw[this];unfold zh;rw[AC,AC];rfl
def aj7(p0:jj)(p1:jj)(p2:jj)(p3:jj):kn:=(qt (zw (aZ bV (qb 1) (qf (zr wq (qb 3) (bO 1)) qx)) (qg 4))
 (qt (zw (zr bz (xj 4 1) (zr wq (zr bB (qb 3) (jx 64)) (gm ft (ki (xj 4 1))))) (qg 5))
 (qt (zw (zg p0 (aK (qb 0) (qb 5))) (qg 6))
 (qt (zw (zD (yC .non) (yC .non)) (wm 2 (zu (qg 7) (zu (qg 8) w4))))
 (qt (fD (hU (ki (bO 1))) (qg 9) (fD (vq (zr bz (zr bz (qb 1) (qb 9)) (jx 1))) (qg 10) (va (o4 (yB (dI false (qb 7))) (i8 (zg p0 (aK (qb 0) (qb 10))) (zg p1 (ki (qb 6))))) (zw (k6 (qf (zr bz (qb 1) (qb 9)) (ki (qb 10)))) (wm 2 (zu (qg 7) (zu (qg 8) w4)))) x0)))
 (qt (va (o4 (yB (dI false (qb 7))) (yB (zr yGt (zg p2 (ki (qb 6))) (jx 5)))) (qt (jm (aZ zq (qb 1) (ki (qb 4))))
 ab5) x0)
 (dw (va (yB (dI false (qb 7))) (qt (zw (zg p3 (aK (qb 0) (qb 6))) (agh 3 (zu (qg 11) (zu (qg 8) (zu (qg 12) w4)))))
 (zw (w5 (qf (qb 11) (qf (w5 (aK (qb 8) (qb 12))) qx))) (qg 7))) (jm (aZ iz (qb 1) (ki (qb 7)))))
 (qt (zw (pY 1 (vq (zr vn (xj 4 1) (xj 7 1))) (qg 14) (yB (zr (qT true) (qb 14) (zD (qb 5) (qb 8)))) (qb 14)) (qg 13))
 (va (i8 (zr wq (qb 2) (jx 2)) (jx 0)) (jm (aZ zq (qb 1) (qf (w5 (qf (k6 (qf (fg "cut") (qf (qb 5) (qf (qb 8) (aK (xj 4 0) (xj 7 0)))))) (ki (qb 13)))) qx))) (jm (aZ zq (qb 1) (qf (w5 (qf (k6 (qf (fg "cut") (qf (qb 8) (qf (qb 5) (aK (xj 7 0) (xj 4 0)))))) (ki (qb 13)))) qx))))))))))))
theorem pM:∀a b:List Da,Da.eqs a b=true->a.length=b.length
 |[],[],_=>rfl
 |[],_::_,h=>by cases h
 |_::_,[],h=>by cases h
 |x::r,y::q,h=>by have h:(Da.eq x y&&Da.eqs r q)=true:=h;rw[AR] at h;rw[AD,AD,pM r q h.2]
theorem ag5(u:Wd):∀v:Wd,Da.eq (o9 u) (o9 v)=true->u=v:=by
 induction u with
 |leaf t n=>
  intro v h;cases v with
  |leaf t' n'=>
   rw[aey,AR] at h;rw[of_decide_eq_true h.1,of_decide_eq_true h.2]
  |node e l r=>exact absurd (pM _ _ h) (by intro z;cases z)
 |node e l r il ir=>
  intro v h;cases v with
  |leaf t n=>exact absurd (pM _ _ h) (by intro z;cases z)
  |node e' l' r'=>
   have h:(lU (.str (kN e)) (.str (kN e'))&&(Da.eq (o9 l) (o9 l')&&(Da.eq (o9 r) (o9 r')&&true)))=true:=h;rw[AR,AR,AR] at h;obtain⟨h1,h2,h3,_⟩:=h;have:e=e':=by cases e<;>cases e'<;>first | rfl | (exfalso;revert h1;decide +kernel)
   rw[this,il l' h2,ir r' h3]
def wf:Ru->Nat
 |.link _ _=>1
 |.ei _ A=>wf A+1
 |.bo _ A B=>max (wf A) (wf B)+1
 |.cu _ _ A B=>max (wf A) (wf B)+1
theorem wr:∀R:Ru,wf R+1≤(z9 R).length
 |.link _ _=>Am _
 |.ei _ A=>by have:=wr A;simp[wf,z9];lia
 |.bo _ A B=>by have:=wr A;have:=wr B;simp[wf,z9];lia
 |.cu _ _ A B=>by have:=wr A;have:=wr B;simp[wf,z9];lia
def ax:Ru->Da
 |.link p q=>.tup [.s (.str "link"),.s (.int (p:Int)),.s (.int (q:Int))]
 |.ei r A=>.tup [.s (.str "either"),.s (.int (r:Int)),ax A]
 |.bo r A B=>.tup [.s (.str "both"),.s (.int (r:Int)),ax A,ax B]
 |.cu p q A B=>.tup [.s (.str "cut"),.s (.int (p:Int)),.s (.int (q:Int)),ax A,ax B]
theorem bX{L:ql}:∀{R:Ru} {n:Nat},wf R≤n->x5 L n (zf R) (ax R)
 |.link p q,n+1,_=>fN (.cons (EU _) (.cons (EV _) (.cons (EV _) .nil)))
 |.ei r A,n+1,h=>fN (.cons (EU _) (.cons (EV _) (.cons (bX (by simp[wf] at h;lia)) .nil)))
 |.bo r A B,n+1,h=>fN (.cons (EU _) (.cons (EV _) (.cons (bX (by simp[wf] at h;lia)) (.cons (bX (by simp[wf] at h;lia)) .nil))))
 |.cu p q A B,n+1,h=>fN (.cons (EU _) (.cons (EV _) (.cons (EV _) (.cons (bX (by simp[wf] at h;lia)) (.cons (bX (by simp[wf] at h;lia)) .nil)))))
 |.link _ _,0,h=>by simp[wf] at h
 |.ei _ _,0,h=>by simp[wf] at h
 |.bo _ _ _,0,h=>by simp[wf] at h
 |.cu _ _ _ _,0,h=>by simp[wf] at h
theorem aT:∀R:Ru,Da.eq (ax R) (ax R)=true
 |.link p q=>by simp[ax,Da.eq,Da.eqs,lU]
 |.ei r A=>by simp[ax,Da.eq,Da.eqs,lU,aT A]
 |.bo r A B=>by simp[ax,Da.eq,Da.eqs,lU,aT A,aT B]
 |.cu p q A B=>by simp[ax,Da.eq,Da.eqs,lU,aT A,aT B]
def gn(E:List Nat):List Da:=E.map fun n:Nat=>Da.s (.int (n:Int))
theorem wE{L:ql}{n:Nat}:∀E:List Nat,Paired (x5 L n) (qz E) (gn E)
 |[]=>.nil
 |_::r=>.cons (EV _) (wE r)
theorem jA:∀E E':List Nat,Da.eqs (gn E) (gn E')=true↔E=E'
 |[],[]=>by simp[gn,Da.eqs]
 |[],_::_=>by simp[gn,Da.eqs]
 |_::_,[]=>by simp[gn,Da.eqs]
 |x::r,y::r'=>by
  have ih:=jA r r';show(Da.eq (.s (.int (x:Int))) (.s (.int (y:Int)))&&Da.eqs (gn r) (gn r'))=true↔_;rw[AR,ih];have:Da.eq (.s (.int (x:Int))) (.s (.int (y:Int)))=true↔x=y:=by show decide ((x:Int)=(y:Int))=true↔_;rw[BK];lia
  rw[this];constructor
  ·rintro⟨rfl,rfl⟩;rfl
  ·intro e;injection e with e1 e2;exact⟨e1,e2⟩
def dc(t:Tr):Da:=.lst [ax t.R,.lst (gn t.E)]
theorem pK{t:Tr}(ha:L t.a=some (.lst [zf t.R,.ref t.b]))(hb:L t.b=some (.lst (qz t.E)))(h:wf t.R≤n+1):x5 L (n+2) (.ref t.a) (dc t):=
 aS ha (.cons (bX h) (.cons (aS hb (wE _)) .nil))
theorem afi{t u:Tr}:Da.eq (dc t) (dc u)=true->t.E=u.E:=by intro h;have h:(Da.eq (ax t.R) (ax u.R)&&(Da.eqs (gn t.E) (gn u.E)&&true))=true:=h;rw[AR,AR] at h;exact(jA _ _).mp h.2.1
theorem yL(t:Tr):Da.eq (dc t) (dc t)=true:=by show(Da.eq (ax t.R) (ax t.R)&&(Da.eqs (gn t.E) (gn t.E)&&true))=true;rw[aT,(jA _ _).mpr rfl];rfl
theorem ao.rd{ks:List Kn}(h:ao L0 L ka fa ks fo){t:Tr}(ht:t∈fo):wf t.R≤ks.length:=by
 have h1:=wr t.R;have nd:(z9 t.R).Nodup:=by obtain⟨a,b,rfl⟩:=Dv ht;have:=h.nd;rw[AN,AU,AK,AK] at this;exact this.2.1.1
 have:=aj _ _ nd fun x hx=>(h.sr t ht).lt x hx;exact ahy
theorem ao.one{ks:List Kn}(h:ao L0 L ka fa ks fo){t u:Tr}(hi:fo[i]?=some t)(hj:fo[j]?=some u)(e:t.E=u.E):i=j:=by
 by_cases c:i=j
 ·exact c
 ·exfalso;have s:=h.sr t (AI hi);have l:=s.ends h.ok;obtain⟨x,hx⟩:∃x,x∈t.E:=by cases he:t.E with | nil=>rw[he] at l;simp at l | cons x r=>exact⟨x,An ..⟩
  have s':=h.sr u (AI hj);have p1:=jv hi;have p2:(u::(fo.eraseIdx i))=_:=rfl;have mu:u∈fo.eraseIdx i:=by have:fo[j]?=some u:=hj;rw[List.mem_eraseIdx_iff_getElem?];exact⟨j,fun z=>c z.symm,hj⟩
  obtain⟨a,b,ab⟩:=Dv mu;have nd:=(p1.flatMap_right fun t:Tr=>z9 t.R).nodup_iff.mp h.nd;rw[AU,AK] at nd;exact nd.2.2 x (s.sub x hx) x (Ba.mpr ⟨u,mu,s'.sub x (e▸hx)⟩) rfl
theorem qk.none(s:qk L L'){p:Addr}(h:L' p=none):L p=none:=by cases z:L p with|none=>rfl|some o=>rw[s _ _ z] at h;cases h
theorem ao.nkf{ks:List Kn}(h:ao L0 L ka fa ks fo):ka≠fa:=by have ad:=h.ad;rw[Aw] at ad;exact fun e=>ad.1 (e▸An ..)
theorem ao.nk{ks:List Kn}(h:ao L0 L ka fa ks fo):∀t∈fo,t.a≠fa/\t.b≠fa/\t.a≠ka/\t.b≠ka:=fun t ht=>by have ad:=h.ad;rw[Aw,Aw] at ad;have ma:t.a∈fo.flatMap Tr.ads:=Ba.mpr ⟨t,ht,by simp[Tr.ads]⟩;have mb:t.b∈fo.flatMap Tr.ads:=Ba.mpr ⟨t,ht,by simp[Tr.ads]⟩;exact⟨fun e=>ad.2.1 (e▸ma),fun e=>ad.2.1 (e▸mb),fun e=>ad.1 (Ah _ (e▸ma)),fun e=>ad.1 (Ah _ (e▸mb))⟩
theorem ao.setF{ks:List Kn}(h:ao L0 L ka fa ks fo)(o:LO):ao L0 (qd L fa o) ka fa ks fo:=by
 refine⟨by rw[qa h.nkf];exact h.hk,fun t ht=>?_,h.sr,h.nd,h.tm,h.ad,h.ok,fun b u e=>?_,h.fr⟩
 ·obtain⟨n1,n2,_,_⟩:=h.nk t ht;rw[qa n1,qa n2];exact h.ht t ht
 ·have:b≠fa:=fun z=>by rw[z,h.fr fa (by simp)] at e;cases e
  rw[qa this];exact h.sub _ _ e
theorem ao.mono{ks:List Kn}(h:ao L0 L ka fa ks fo)(s:qk L L'):ao L0 L' ka fa ks fo:=
 ⟨s _ _ h.hk,fun t ht=>⟨s _ _ (h.ht t ht).1,s _ _ (h.ht t ht).2⟩,h.sr,h.nd,h.tm,h.ad,h.ok,h.sub.trans s,h.fr⟩
theorem ao.exs{ks:List Kn}(h:ao L0 L ka fa ks fo):∀z∈fo.flatMap Tr.ads,∃o,L z=some o:=fun z hz=>by
 obtain⟨t,ht,hz⟩:=Ba.mp hz;obtain⟨h1,h2⟩:=h.ht t ht;have hz:z=t.a\/z=t.b:=by simpa[Tr.ads] using hz
 rcases hz with rfl | rfl
 ·exact⟨_,h1⟩
 ·exact⟨_,h2⟩
theorem tO{l:List Addr}{pb:Addr}(nd:l.Nodup)(ex:∀z∈l,∃o,L z=some o)(ha:L pa=none)(hb:L pb=none)(ne:pa≠pb):(l++[pa,pb]).Nodup:=by
 rw[AK];refine⟨nd,by simp[ne],fun u hu v hv e=>?_⟩;subst e;obtain⟨o,eo⟩:=ex u hu;simp at hv;rcases hv with rfl | rfl
 ·rw[ha] at eo;cases eo
 ·rw[hb] at eo;cases eo
theorem jF:∀w:Wd,w.turn.turn=w
 |.leaf t n=>by simp[Wd.turn]
 |.node e l r=>by simp[Wd.turn,jF l,jF r]
theorem fF:∀w:Wd,w.turn.depth=w.depth
 |.leaf t n=>rfl
 |.node e l r=>by simp[Wd.turn,Wd.depth,fF l,fF r]
def Fd(ks:List Kn)(w:Wd)(rest:List Tr)(v7 v8:Y):Prop:=(v7=.non/\v8=.non)\/∃(j:Nat) (u:Tr) (q:Nat),rest[j]?=some u/\q∈u.E/\cO ks q w.turn/\v7=.ref u.a/\v8=.int (q:Int)
theorem ac2{Lp L4:ql}{ks:List Kn}{t1 u:Tr}{x q:Nat}{w:Wd}(B:ao L0 Lp ka fa ks (t1::u::rest)){fs:LO}(hf:Lp fa=some fs)(hx:x∈t1.E)(hq:q∈u.E)(hwx:cO ks x w)(hwq:cO ks q w.turn){pe:Addr}(s:qk Lp L4)(hpe:Lp pe=none)
 (he:L4 pe=some (.lst (qz (x8 t1.E u.E x q)))) (hpa:L4 pa=none) {R:Ru} (hR:R=.cu x q t1.R u.R\/R=.cu q x u.R t1.R):ao L0 (qd L4 pa (.lst [zf R,.ref pe])) ka fa ks (rest++[⟨pa,pe,R,x8 t1.E u.E x q⟩]):=by
 have nap:pe≠pa:=xo he hpa;have hpa':Lp pa=none:=s.none hpa;have s':qk Lp (qd L4 pa (.lst [zf R,.ref pe])):=s.trans (By hpa);have s1:=B.sr t1 (by simp);have s2:=B.sr u (by simp);have dis:∀z,z∈t1.E->z∈u.E->False:=fun z h1 h2=>B.two z (s1.sub z h1) (s2.sub z h2);have k0:ks++[]=ks:=AZ ks;have bm:=oN (E1:=t1.E) (E2:=u.E) (fun h=>dis x hx h) (fun h=>dis q h hq);have nod:=oV (l:=x) (r:=q) s1.nod s2.nod dis;have st:=ao.step (L':=qd L4 pa (.lst [zf R,.ref pe])) (old:=[t1,u]) (rest:=rest) (ms:=[]) (t':=⟨pa,pe,R,x8 t1.E u.E x q⟩) B (by rw[k0];exact s' _ _ B.hk) ⟨q9,by rw[qa nap];exact he⟩ (fun t ht=>?_) (B.sub.trans s') ?_ (fun z hz=>?_) (by rw[k0];exact B.ok) ?_ ?_
 ·rw[k0] at st;exact st
 ·obtain⟨h1,h2⟩:=B.ht t (Ah _ (Ah _ ht));rw[h1,h2];exact⟨s' _ _ h1,s' _ _ h2⟩
 ·have nd:(ka::fa::rest.flatMap Tr.ads).Nodup:=by
   have:=B.ad;rw[AU,AU,Aw,Aw,AK,AK] at this;rw[Aw,Aw];obtain⟨d1,d2,_,⟨_,d3,_⟩,_⟩:=this;refine⟨fun z=>d1 ?_,fun z=>d2 (Ag _ (Ag _ z)),d3⟩;rcases Ar.mp z with z | z
   ·rw[z];exact An ..
   ·exact Ah _ (Ag _ (Ag _ z))
  have:=tO (L:=Lp) nd (fun z hz=>?_) hpa' hpe (AH nap)
  ·rw[AN];simpa[Tr.ads] using this
  ·rcases Ar.mp hz with rfl | hz
   ·exact⟨_,B.hk⟩
   ·rcases Ar.mp hz with rfl | hz
    ·exact⟨_,hf⟩
    ·exact B.exs z (by rw[AU,AU];exact Ag _ (Ag _ hz))
 ·have hz:z=pa\/z=pe:=by simpa[Tr.ads] using hz
  rcases hz with rfl | rfl
  ·exact B.sub.none hpa'
  ·exact B.sub.none hpe
 ·rw[k0];rcases hR with rfl | rfl
  ·exact .cu s1 s2 hx hq hwx hwq bm nod
  ·exact .cu (w:=w.turn) s2 s1 hq hx hwq (by rw[jF];exact hwx) (fun z=>by rw[bm];exact Or.comm) nod
 ·rcases hR with rfl | rfl
  ·show(z9 t1.R++z9 u.R).Perm _;simp
  ·show(z9 u.R++z9 t1.R).Perm _;simpa using BE
def CJ(L0:ql)(ka fa:Addr)(ks:List Kn)(one two:Int)(t1:Tr)(x:Nat)(w:Wd)(n:Nat)(τ:ji)(L:ql):Prop:=∃ms u q rest c9 fH c11 c12,τ=[some (.ref ka),some (.ref fa),some (.int one),some (.int two),some (.ref t1.a),some (.int (x:Int)),some (am w),some (.ref u.a),some (.int ((q:Nat):Int)),c9,fH,c11,c12,none]/\
 ao L0 L ka fa (ks++ms) (t1::u::rest)/\L fa=some (.lst (zh rest))/\q∈u.E/\cO (ks++ms) q w.turn/\ms.length≤10/\rest.length≤n
def nZ:jj:=fun ys L Q=>∃L0 ka fa ks fo,∃one two:Int,ys=[.ref ka,.ref fa,.int one,.int two]/\mP L0 L ka fa ks fo/\1≤fo.length/\fo.length≤110/\ks.length≤110/\
 ∀L' ks' fo',mP L0 L' ka fa ks' fo'->ks'.length≤ks.length+10->1≤fo'.length->fo'.length≤fo.length->Q .non L'
theorem ag1:∀ys L Q,nZ ys L Q->xq (aj7 (ww 120) (aw 120) (ay 120) (bG 5)) 14 ys L Q:=by
 rintro ys L Q ⟨L0,ka,fa,ks,fo,one,two,rfl,F,h1,h110,hk110,q⟩;have big:=bg_;have lenR:∀fo:List Tr,(zh fo).length=fo.length:=fun fo=>Ae ..;obtain⟨j1,t1,at1,a1,a2,a3,hf1⟩:=uF (k:=two) F.hf (by assumption);have l1:(fo.eraseIdx j1).length+1=fo.length:=by have:=(jv at1).length_eq;rw[AD] at this;lia
 refine qe F.hf (qe F.hf ⟨(by show(0:Int)<((zh fo).length:Int);rw[lenR];lia),qu F.hf ⟨a1,a2,qm a3 ?_⟩⟩);have B:ao L0 (qd L fa (.lst ((zh fo).eraseIdx (two % ((zh fo).length:Int)).toNat))) ka fa ks (t1::fo.eraseIdx j1):=(F.b.perm (jv at1)).setF _;generalize qd L fa (.lst ((zh fo).eraseIdx (two % ((zh fo).length:Int)).toNat))=L1 at hf1 B;generalize fo.eraseIdx j1=rest at l1 hf1 B;clear a1 a2 a3;have m1:t1∈t1::rest:=by simp
 obtain⟨ta1,tb1⟩:=B.ht t1 m1;have le1:=aW B m1;have s1:=B.sr t1 m1;obtain⟨x,hx,ex⟩:=oP le1.1 (two / 64);refine qe ta1 ⟨⟨by decide,by decide⟩,qe ta1 (qe tb1 ⟨(by show(0:Int)<((qz t1.E).length:Int);rw[Ae];omega),qe tb1 (qm ex ?_)⟩)⟩;obtain⟨w,hw,hwd,hwok⟩:=lT B.ok (x+1) x (by exact Bu _) (s1.lt x (s1.sub x hx));have hxl:=s1.lt x (s1.sub x hx);refine⟨ka,ja ks,x,w,rfl,B.hk,hw,by lia,?_⟩;have wtd:w.turn.depth=w.depth:=fF w;refine qe hf1 ⟨⟨by show _≤(((zh rest).length:Nat):Int);exact A2 _,by show(((zh rest).length:Nat):Int)<_;rw[lenR];omega⟩,?_⟩;refine vY (fun i τ L'=>∃v7 v8 c9 fH,τ=[some (.ref ka),some (.ref fa),some (.int one),some (.int two),some (.ref t1.a),some (.int (x:Int)),some (am w),some v7,some v8,c9,fH,none,none,none]/\L'=L1/\Fd ks w rest v7 v8) ⟨_,_,_,_,rfl,rfl,.inl ⟨rfl,rfl⟩⟩ ?_ ?_
 ·rintro i τ L' hi ⟨v7,v8,c9,fH,rfl,rfl,fd⟩;have hi:i<rest.length:=by have:i<(((zh rest).length:Nat):Int).toNat:=hi;rw[lenR] at this;assumption
  obtain⟨u,hu⟩:∃u,rest[i]?=some u:=⟨_,Aj hi⟩;have mu:u∈t1::rest:=Ah _ (AI hu);obtain⟨ua,ub⟩:=B.ht u mu;have ei:(zh rest)[i]?=some (.ref u.a):=by unfold zh;rw[Av,hu];rfl
  have e0:(0:Int)+(i:Int)=((i:Nat):Int):=by simp +arith only
  rw[e0];have ate:dg (zh rest) ((i:Nat):Int)=some (.ref u.a):=ve ei;have le:=aW B mu;have su:=B.sr u mu;refine qe hf1 (qm ate (qe ua ?_));refine iq (ys:=qz u.E) (vi ub) (fun k τ L''=>∃v7 v8 fH,τ=[some (.ref ka),some (.ref fa),some (.int one),some (.int two),some (.ref t1.a),some (.int (x:Int)),some (am w),some v7,some v8,some (.int ((i:Nat):Int)),fH,none,none,none]/\L''=L'/\Fd ks w rest v7 v8) ⟨_,_,_,rfl,rfl,fd⟩ ?_ ?_ ?_
  ·rintro k τ _ ⟨_,_,_,_,rfl,_⟩;rfl
  ·rintro k y τ L'' ey ⟨v7,v8,fH,rfl,rfl,fd⟩;obtain⟨z,ez,rfl⟩:∃z:Nat,u.E[k]?=some z/\y=Y.int (z:Int):=by rw[Av] at ey;obtain⟨z,e1,e2⟩:=AE.mp ey;exact⟨z,e1,e2.symm⟩
   have hz:z∈u.E:=AI ez;rcases fd with⟨rfl,rfl⟩ | ⟨j,t,q0,h1,h2,h3,rfl,rfl⟩
   ·have hzl:=su.lt z (su.sub z hz);obtain⟨v,hv,hvd,hvok⟩:=lT B.ok (z+1) z (by exact Bu _) hzl;refine⟨ka,ja ks,z,v,rfl,B.hk,hv,by lia,w,rfl,by lia,?_⟩;refine aca (u:=v) (v:=w.turn) (by lia) ?_;show ke (Da.eq (o9 v) (o9 w.turn)) _ _;refine afs (fun c=>?_) fun c=>?_
    ·have hh:=ag5 _ _ c;refine qe hf1 (qm ate ?_);refine⟨_,ED _,?_⟩;exact⟨_,_,_,rfl,rfl,.inr ⟨i,u,z,hu,hz,hh▸hv,rfl,rfl⟩⟩
    ·refine⟨_,ED _,?_⟩;exact⟨_,_,_,rfl,rfl,.inl ⟨rfl,rfl⟩⟩
   ·refine⟨_,ED _,?_⟩;exact⟨_,_,_,rfl,rfl,.inr ⟨j,t,q0,h1,h2,h3,rfl,rfl⟩⟩
  ·rintro τ L'' ⟨v7,v8,fH,rfl,rfl,fd⟩;refine⟨_,ED _,?_⟩;exact⟨_,_,_,_,rfl,rfl,fd⟩
 ·rintro τ L' ⟨v7,v8,c9,fH,rfl,rfl,fd⟩;rcases fd with⟨rfl,rfl⟩ | ⟨j,u,q0,hj,hq0,hwq,rfl,rfl⟩
  case' inl=>
   refine⟨w,rfl,by lia,?_⟩;show ke (decide ((w.size:Int) > 5)) _ _;refine ju (fun c=>?_) fun c=>?_
   case' refine_1=>
    refine qe hf1 (qu hf1 ⟨big _ (by rw[lenR];lia),?_⟩);have er:zh rest++[.ref t1.a]=zh (rest++[t1]):=by unfold zh;rw[AC];rfl
    rw[er];exact xu (q _ ks (rest++[t1]) ⟨(B.perm (BZ _ _).symm).setF _,q9⟩ (by exact A4 _ _) (by simp) (by rw[Ac];simp;exact o8))
   case' refine_2=>
    refine⟨CJ L0 ka fa ks one two t1 x w rest.length,?_,?_⟩
    ·refine⟨ka,ks,w,rfl,B.hk,(by have h1:=w.depth_le;have h2:=w.size_eq;lia),(by decide),hwok,B.ok,by lia,fun ms R tp sp p hp mir=>?_⟩;refine qu q9 ?_;intro pb hpb pa hpa;have npk:ka≠p:=xo B.hk hp;have hp2:qd L' ka (.lst (ja (ks++ms))) p=none:=by rw[qa (AH npk)];exact hp
     have sA:qk (qd L' ka (.lst (ja (ks++ms)))) _:=((By hp2).trans (By hpb)).trans (By (o:=.lst [zf R,.ref pb]) hpa);have nab:pb≠pa:=xo q9 hpa;have nb2:qd L' ka (.lst (ja (ks++ms))) pb=none:=(By hp2).none hpb;have na2:qd L' ka (.lst (ja (ks++ms))) pa=none:=((By hp2).trans (By hpb)).none hpa;have ea:qd (qd (qd (qd L' ka (.lst (ja (ks++ms)))) p (.lst [zf R,.int (tp:Int),.int (sp:Int)])) pb (.lst [.int (tp:Int),.int (sp:Int)])) pa (.lst [zf R,.ref pb]) pa=some (.lst [zf R,.ref pb]):=q9;have eb:qd (qd (qd (qd L' ka (.lst (ja (ks++ms)))) p (.lst [zf R,.int (tp:Int),.int (sp:Int)])) pb (.lst [.int (tp:Int),.int (sp:Int)])) pa (.lst [zf R,.ref pb]) pb=some (.lst (qz [tp,sp])):=by rw[qa nab];exact q9
     refine⟨ms,⟨pa,pb,R,[tp,sp]⟩,tp,rest,_,_,_,_,rfl,?_,sA _ _ (by rw[qa (AH B.nkf)];exact hf1),An ..,mir.wt,by have:=mir.len;lia,Am _⟩;generalize qd (qd (qd (qd L' ka (.lst (ja (ks++ms)))) p (.lst [zf R,.int (tp:Int),.int (sp:Int)])) pb (.lst [.int (tp:Int),.int (sp:Int)])) pa (.lst [zf R,.ref pb])=LF at sA ea eb;have keep:∀z o,z≠ka->L' z=some o->LF z=some o:=fun z o n e=>sA _ _ (by rw[qa n];exact e);have st:=ao.step (L':=LF) (old:=[]) (rest:=t1::rest) (ms:=ms) (t':=⟨pa,pb,R,[tp,sp]⟩) B (sA _ _ q9) ⟨ea,eb⟩ (fun t ht=>?_) (fun z o e=>?_) ?_ (fun z hz=>?_) mir.ok mir.sr ?_
     ·exact st.perm ((BZ _ _).trans (List.Perm.swap _ _ _))
     ·obtain⟨n1,n2,n3,n4⟩:=B.nk t ht;obtain⟨h1,h2⟩:=B.ht t ht;rw[h1,h2];exact⟨keep _ _ n3 h1,keep _ _ n4 h2⟩
     ·exact keep _ _ (fun z=>by rw[z,B.fr ka (by simp)] at e;cases e) (B.sub _ _ e)
     ·have:=tO (L:=qd L' ka (.lst (ja (ks++ms)))) B.ad (fun z hz=>?_) na2 nb2 (AH nab)
      ·rw[AN];simpa[Tr.ads] using this
      ·by_cases c:z=ka
       ·rw[c];exact⟨_,q9⟩
       ·rw[qa c];rcases Ar.mp hz with rfl | hz
        ·exact absurd rfl c
        ·rcases Ar.mp hz with rfl | hz
         ·exact⟨_,hf1⟩
         ·exact B.exs z hz
     ·have hz:z=pa\/z=pb:=by simpa[Tr.ads] using hz
      cases e:L0 z with
      |none=>rfl
      |some o=>
       have n:z≠ka:=fun z'=>by rw[z',B.fr ka (by simp)] at e;cases e
       have:=B.sub _ _ e;have e2:qd L' ka (.lst (ja (ks++ms))) z=some o:=by rw[qa n];exact this
       rcases hz with rfl | rfl
       ·rw[na2] at e2;cases e2
       ·rw[nb2] at e2;cases e2
     ·rw[Dh,AZ];exact(B1 mir.nd DA).mpr fun z=>by rw[mir.tm,C9]
  case' inr=>
   refine⟨CJ L0 ka fa ks one two t1 x w rest.length,?_,?_⟩
   ·refine qe hf1 (qu hf1 ⟨rest.map dc,dc u,120,120,j,by decide,?_,?_,?_,⟨dc u,?_,yL u⟩,fun k d hk ek=>?_,?_⟩)
    ·have dd:∀l:List Tr,(∀t∈l,t∈t1::rest)->Paired (x5 L' 120) (zh l) (l.map dc):=fun l=>by
      induction l with
      |nil=>intro _;exact .nil
      |cons t r ih=>
       intro h;have mt:=h t (An ..);obtain⟨h1,h2⟩:=B.ht t mt;have:=B.rd mt;exact .cons (pK (n:=118) h1 h2 (by lia)) (ih fun t ht=>h t (Ah _ ht))
     exact dd rest fun t ht=>Ah _ ht
    ·have mt:u∈t1::rest:=Ah _ (AI hj);obtain⟨h1,h2⟩:=B.ht u mt;have:=B.rd mt;exact pK (n:=118) h1 h2 (by omega)
    ·rw[Ae];exact(AY.mp hj).1
    ·rw[Av,hj];rfl
    ·rw[Av] at ek;obtain⟨v,ev,rfl⟩:=AE.mp ek;cases c:Da.eq (dc v) (dc u) with
     |false=>rfl
     |true=>
      have:=B.one (i:=k+1) (j:=j+1) (by simpa using ev) (by simpa using hj) (afi c);lia
    ·rw[lE];have B2:=(B.perm ((jv hj).cons _)).setF (.lst (zh (rest.eraseIdx j)));exact⟨[],u,q0,rest.eraseIdx j,_,_,_,_,rfl,(AZ ks).symm▸B2,q9,hq0,(AZ ks).symm▸hwq,Bl _,CV ..⟩
  all_goals
   rintro τ' L' ⟨ms,u,q0,rest',c9,fH,c11,c12,rfl,B',hf,hq0,hwq,hms,hrl⟩;have m1:t1∈t1::u::rest':=by simp
   have m2:u∈t1::u::rest':=by simp
   obtain⟨ta1,tb1⟩:=B'.ht t1 m1;obtain⟨ta2,tb2⟩:=B'.ht u m2;have le1:=aW B' m1;have le2:=aW B' m2;rw[Ac] at le1 le2;refine qe ta1 (qe ta2 ⟨_,_,tb1,tb2,dr (by rw[Ae,Ae];omega),fun pp hpp=>?_⟩);have en:qz t1.E++qz u.E=qz (t1.E++u.E):=by unfold qz;rw[AC]
   rw[en];refine aa8 (E:=t1.E++u.E) (l:=x) (r:=q0) (k:=14) q9 (by rw[Ac];omega) (fun y' Q' h=>h) (fun _=>rfl) fun pe hpe=>?_;have s4:qk L' (qd (qd L' pp (.lst (qz (t1.E++u.E)))) pe (.lst (qz ((t1.E++u.E).filter fun z=>!decide (z=x\/z=q0))))):=(By hpp).trans (By hpe);have he4:qd (qd L' pp (.lst (qz (t1.E++u.E)))) pe (.lst (qz ((t1.E++u.E).filter fun z=>!decide (z=x\/z=q0)))) pe=some (.lst (qz (x8 t1.E u.E x q0))):=q9;have hpe':L' pe=none:=(By hpp).none hpe;generalize qd (qd L' pp (.lst (qz (t1.E++u.E)))) pe (.lst (qz ((t1.E++u.E).filter fun z=>!decide (z=x\/z=q0))))=L4 at s4 he4;have done:∀(R:Ru) pa,L4 pa=none->(R=.cu x q0 t1.R u.R\/R=.cu q0 x u.R t1.R)->Q .non (qd (qd L4 pa (.lst [zf R,.ref pe])) fa (.lst (zh rest'++[.ref pa]))):=fun R pa hpa hR=>by
    have er:zh rest'++[.ref pa]=zh (rest'++[⟨pa,pe,R,x8 t1.E u.E x q0⟩]):=by unfold zh;rw[AC];rfl
    rw[er];exact q _ (ks++ms) (rest'++[⟨pa,pe,R,x8 t1.E u.E x q0⟩]) ⟨(ac2 B' hf hx hq0 (hw.more ms) hwq s4 hpe' he4 hpa hR).setF _,q9⟩ (by rw[Ac];omega) (by simp) (by rw[Ac];simp;omega)
   refine⟨(by show(0:Int)<2;decide),?_⟩;show ke (decide (one % 2=0)) _ _;refine ju (fun c=>?_) fun c=>?_
   ·refine qe (s4 _ _ hf) (qe (s4 _ _ ta1) (qe (s4 _ _ ta2) fun pa hpa=>?_));refine qu (By hpa _ _ (s4 _ _ hf)) ⟨big _ (by rw[lenR];omega),?_⟩;exact xu (done _ pa hpa (.inl rfl))
   ·refine qe (s4 _ _ hf) (qe (s4 _ _ ta2) (qe (s4 _ _ ta1) fun pa hpa=>?_));refine qu (By hpa _ _ (s4 _ _ hf)) ⟨big _ (by rw[lenR];omega),?_⟩;exact xu (done _ pa hpa (.inr rfl))
def ai4(p0:jj)(p1:jj)(p2:jj)(p3:jj)(p4:jj):kn:=(qt (zw (w5 qx) (qg 3))
 (qt (zw (w5 qx) (qg 4))
 (qt (fD (eX (qb 0)) (wm 2 (zu (qg 5) (zu (qg 6) w4))) (qt (aje 7 8 (qf (zg p0 (qf (qb 6) (aK (qb 5) (jx 48271)))) (qf (zg p0 (qf (qb 6) (aK (qb 5) (jx 69621)))) qx)))
 (qt (va (yB (zr yGt (zr vn (zr vn (bO 3) (bO 4)) (jx 12)) (qb 2))) agd x0)
 (qt (zw (zr wq (qb 7) (jx 9)) (qg 9))
 (qt (zw (zr bB (qb 7) (jx 9)) (qg 7))
 (va (yOr (yB (zr yLt (qb 9) (jx 3))) (i8 (qb 4) (w5 qx))) (qt (jm (aZ zq (qb 3) (qf (k6 (qf (fg "plain") (qf (zg p1 (qf (qb 1) (qf (zr wq (qb 8) (jx 3)) qx))) qx))) qx)))
 (qt (jm (aZ zq (qb 3) (qf (k6 (qf (fg "turned") (qf (zg p1 (qf (qb 1) (qf (zr wq (qb 8) (jx 3)) qx))) qx))) qx)))
 (dw (va (i8 (zr wq (qb 7) (jx 2)) (jx 1)) (jm (aZ zq (qb 3) (qf (aZ bV (qb 3) (qf (zr ga (bO 3) (jx 2)) qx)) qx))) x0)
 (qt (zw (zr ga (bO 3) (jx 2)) (qg 10))
 (jm (aZ zq (qb 4) (qf (w5 (qf (k6 (qf (fg "link") (qf (qb 10) (qf (zr vn (qb 10) (jx 1)) qx)))) (qf (w5 (qf (qb 10) (qf (zr vn (qb 10) (jx 1)) qx))) qx))) qx))))))) (va (yB (zr yLt (qb 9) (jx 6))) (jm (zg p2 (qf (qb 3) (qf (zr bz (qb 4) (zr wq (qb 8) (bO 4))) (qf (qb 7) (qf (zr bB (qb 8) (jx 64)) qx)))))) (va (o4 (yB (zr yLt (qb 9) (jx 8))) (yB (zr yGt (bO 4) (jx 1)))) (jm (zg p3 (qf (qb 3) (qf (qb 4) (aK (qb 7) (qb 8)))))) (jm (zg p4 (qf (qb 3) (qf (qb 4) (aK (qb 7) (qb 8))))))))))))))
 (dw (va (i8 (qb 4) (w5 qx)) (qt (jm (aZ zq (qb 3) (qf (k6 (qf (fg "turned") (qf (zg p1 (aK (qb 1) (jx 0))) qx))) qx)))
 (qt (jm (aZ zq (qb 3) (qf (k6 (qf (fg "plain") (qf (zg p1 (aK (qb 1) (jx 0))) qx))) qx)))
 (jm (aZ zq (qb 4) (qf (w5 (qf (k6 (qf (fg "link") (aK (jx 0) (jx 1)))) (qf (w5 (aK (jx 0) (jx 1))) qx))) qx))))) x0)
 (qt (ld (yB (zr yGt (bO 4) (jx 1))) (jm (zg p3 (qf (qb 3) (qf (qb 4) (qf (zr vn (zr bB (qb 1) (jx 7)) (bO 4)) (qf (zr bB (qb 1) (jx 3)) qx)))))))
 (jy (k6 (qf (qb 3) (qf (zr bz (xj 4 0) (jx 0)) qx)))))))))
theorem mP.mono{ks:List Kn}(h:mP L0 L ka fa ks fo)(s:qk L L'):mP L0 L' ka fa ks fo:=⟨h.b.mono s,s _ _ h.hf⟩
theorem ao.plus{LF:ql}{ks ms:List Kn}{t':Tr}{fs:LO}(B:ao L0 L ka fa ks rest)(hf:L fa=some fs)(sA:qk (qd L ka (.lst (ja (ks++ms)))) LF)(ea:LF t'.a=some (.lst [zf t'.R,.ref t'.b]))(eb:LF t'.b=some (.lst (qz t'.E)))
 (na2:qd L ka (.lst (ja (ks++ms))) t'.a=none) (nb2:qd L ka (.lst (ja (ks++ms))) t'.b=none) (nab:t'.a≠t'.b) (ok:dk (ks++ms)) (sr:SR (ks++ms) t'.R t'.E) (tm:∀x,x∈z9 t'.R↔ks.length≤x/\x<ks.length+ms.length) (nd:(z9 t'.R).Nodup):
 ao L0 LF ka fa (ks++ms) (rest++[t']):=by
 have keep:∀z o,z≠ka->L z=some o->LF z=some o:=fun z o n e=>sA _ _ (by rw[qa n];exact e);refine ao.step (old:=[]) (rest:=rest) (ms:=ms) (t':=t') B (sA _ _ q9) ⟨ea,eb⟩ (fun t ht=>?_) (fun z o e=>?_) ?_ (fun z hz=>?_) ok sr ?_
 ·obtain⟨n1,n2,n3,n4⟩:=B.nk t ht;obtain⟨h1,h2⟩:=B.ht t ht;rw[h1,h2];exact⟨keep _ _ n3 h1,keep _ _ n4 h2⟩
 ·exact keep _ _ (fun z=>by rw[z,B.fr ka (by simp)] at e;cases e) (B.sub _ _ e)
 ·have:=tO (L:=qd L ka (.lst (ja (ks++ms)))) B.ad (fun z hz=>?_) na2 nb2 nab
  ·rw[AN];simpa[Tr.ads] using this
  ·by_cases c:z=ka
   ·rw[c];exact⟨_,q9⟩
   ·rw[qa c];rcases Ar.mp hz with rfl | hz
    ·exact absurd rfl c
    ·rcases Ar.mp hz with rfl | hz
     ·exact⟨_,hf⟩
     ·exact B.exs z hz
 ·have hz:z=t'.a\/z=t'.b:=by simpa[Tr.ads] using hz
  cases e:L0 z with
  |none=>rfl
  |some o=>
   have n:z≠ka:=fun z'=>by rw[z',B.fr ka (by simp)] at e;cases e
   have:=B.sub _ _ e;have e2:qd L ka (.lst (ja (ks++ms))) z=some o:=by rw[qa n];exact this
   rcases hz with rfl | rfl
   ·rw[na2] at e2;cases e2
   ·rw[nb2] at e2;cases e2
 ·rw[Dh,AZ];exact(B1 nd DA).mpr fun z=>by rw[tm,C9]
theorem mP.link{ks:List Kn}(F:mP L0 L ka fa ks fo){nm:Str}(hn:cw nm)(b:Bool){pb:Addr}(hb:qd L ka (.lst (ja (ks++[.lf b nm,.lf (!b) nm]))) pb=none)
 (ha:qd (qd L ka (.lst (ja (ks++[.lf b nm,.lf (!b) nm])))) pb (.lst (qz [ks.length,ks.length+1])) pa=none) {fs:List Y} (hfs:fs=zh fo++[.ref pa]):
 mP L0 (qd (qd (qd (qd L ka (.lst (ja (ks++[.lf b nm,.lf (!b) nm])))) pb (.lst (qz [ks.length,ks.length+1]))) pa (.lst [zf (.link ks.length (ks.length+1)),.ref pb])) fa (.lst fs)) ka fa (ks++[.lf b nm,.lf (!b) nm]) (fo++[⟨pa,pb,.link ks.length (ks.length+1),[ks.length,ks.length+1]⟩]):=by
 have nab:pb≠pa:=xo q9 ha;have M:=sK F.b.ok (t:=!b) hn;rw[Bool.not_not] at M;refine⟨(ao.plus F.b F.hf ((By hb).trans (By ha)) q9 (by rw[qa nab];exact q9) ((By hb).none ha) hb (AH nab) M.ok M.sr M.tm M.nd).setF _,?_⟩;rw[q9,hfs];unfold zh;rw[AC];rfl
theorem ao.dats{ks:List Kn}(h:ao L0 L ka fa ks fo)(hl:ks.length≤120):Paired (x5 L 124) (zh fo) (fo.map dc):=by
 have dd:∀l:List Tr,(∀t∈l,t∈fo)->Paired (x5 L 124) (zh l) (l.map dc):=fun l=>by
  induction l with
  |nil=>intro _;exact .nil
  |cons t r ih=>
   intro k;have mt:=k t (An ..);obtain⟨h1,h2⟩:=h.ht t mt;have:=h.rd mt;exact .cons (pK (n:=122) h1 h2 (by lia)) (ih fun t ht=>k t (Ah _ ht))
 exact dd fo fun t ht=>ht
theorem uo(fo:List Tr):Da.eqs (fo.map dc) []=decide (fo=[]):=by cases fo<;>rfl
def pQ:jj:=fun ys L Q=>∃cy,∃ns:List Int,∃s:Int,∃room:Nat,ys=[cy,.int s,.int (room:Int)]/\cy=.sq (ns.map Y.int)/\ns.length≤1000/\room≤120/\
 ∀ka ks R E,L ka=none->dk ks->SR ks R E->(z9 R).Perm (List.range ks.length)->ks.length≤max room 2->Q (.tup [.ref ka,zf R]) (qd L ka (.lst (ja ks)))
def TW(L0:ql)(ka fa:Addr)(s:Int)(room:Nat)(τ:ji)(L:ql):Prop:=∃c0 c5 c6 c7 c8 c9 fH ks fo,τ=[c0,some (.int s),some (.int (room:Int)),some (.ref ka),some (.ref fa),c5,c6,c7,c8,c9,fH]/\mP L0 L ka fa ks fo/\ks.length+fo.length≤room
theorem TW.of{s:Int}{room:Nat}{ks:List Kn}{c0 c5 c6 c7 c8 c9 fH:Option Y}(F:mP L0 L ka fa ks fo)(h:ks.length+fo.length≤room):TW L0 ka fa s room [c0,some (.int s),some (.int (room:Int)),some (.ref ka),some (.ref fa),c5,c6,c7,c8,c9,fH] L:=⟨_,_,_,_,_,_,_,ks,fo,rfl,F,h⟩
theorem adg:∀ys L Q,pQ ys L Q->xq (ai4 fC l7 kA pI nZ) 11 ys L Q:=by
 rintro ys L Q ⟨cy,ns,s,room,rfl,hcy,hns,hroom,q⟩;have big:=bg_;have lenR:∀fo:List Tr,(zh fo).length=fo.length:=fun fo=>Ae ..;have lenK:∀ks:List Kn,(ja ks).length=ks.length:=fun ks=>Ae ..;intro ka hka fa hfa;have nkf:ka≠fa:=xo q9 hfa;have hfa':L fa=none:=(By hka).none hfa;have F0:mP L (qd (qd L ka (.lst [])) fa (.lst [])) ka fa [] []:=by
  refine⟨⟨by rw[qa nkf];exact q9,fun t ht=>by simp at ht,fun t ht=>by simp at ht,by simp,by simp,by simp[nkf],fun p k e=>by simp at e,(By hka).trans (By hfa),fun x hx=>?_⟩,q9⟩;rcases Ar.mp hx with rfl | hx
  ·exact hka
  ·rw[Au.mp hx];exact hfa'
 generalize qd (qd L ka (.lst [])) fa (.lst [])=L1 at F0;subst hcy
 all_goals
  refine af ⟨fun _ τ L'=>TW L ka fa s room τ L',?_,?_,?_,?_⟩
  ·exact TW.of F0 (Bl _)
  ·rintro i τ L' ⟨c0,c5,c6,c7,c8,c9,fH,ks,fo,rfl,F,hb⟩;exact True.intro
  ·rintro i y τ L' ey ⟨c0,c5,c6,c7,c8,c9,fH,ks,fo,rfl,F,hb⟩;obtain⟨z,ez,rfl⟩:=ff ey;obtain⟨cell,ec,rfl⟩:∃cell:Int,ns[i]?=some cell/\z=Y.int cell:=by rw[Av] at ez;obtain⟨z,e1,e2⟩:=AE.mp ez;exact⟨z,e1,e2.symm⟩
   have hi:=(AY.mp ec).1;refine⟨cell,((i:Nat):Int),48271,rfl,by exact A2 _,by omega,by decide,by decide,fun one h1 h1'=>⟨cell,((i:Nat):Int),69621,rfl,by exact A2 _,by omega,by decide,by decide,fun two h2 h2'=>?_⟩⟩;refine qe F.b.hk (qe F.hf ?_);refine ju (fun c=>?_) fun c=>?_
   ·exact⟨_,ED _,TW.of F hb⟩
   have c:¬((((ja ks).length:Nat):Int)+(((zh fo).length:Nat):Int)+12 > (room:Int)):=c;rw[lenK,lenR] at c;refine⟨(by decide:(0:Int)<9),⟨by decide,by decide⟩,?_⟩;refine ju (fun c3=>?_) fun c3=>?_
   case' refine_1=>
    obtain⟨L2,eL2⟩:∃L2,L2=L':=⟨_,rfl⟩;rw[<-eL2];have F':mP L L2 ka fa ks fo:=by rw[eL2];exact F
   case' refine_2=>
    intro p hp;refine lA (by decide) (By hp _ _ F.hf) q9 ((F.b.mono (By hp)).dats (by lia)) (.nil:Paired (x5 _ 0) _ []) ?_;show ke (Da.eqs (fo.map dc) []) _ _;rw[uo];have F':mP L (qd L' p (.lst [])) ka fa ks fo:=F.mono (By hp);generalize qd L' p (.lst [])=L2 at F';refine ju (fun c0=>?_) fun c0=>?_
   case' refine_2.refine_2=>
    have hfo:0<fo.length:=by cases fo with | nil=>exact absurd rfl c0 | cons _ _=>simp
    have F:=F';refine ju (fun c6=>?_) fun c6=>?_
    ·obtain⟨j,t,ej,lj,et⟩:=oU hfo two;refine qe F.hf ⟨(by show(0:Int)<((zh fo).length:Int);rw[lenR];lia),qe F.hf (qm (v:=.ref t.a) (by show dg (zh fo) (two % ((zh fo).length:Int))=_;rw[lenR,ej];exact ve (by unfold zh;rw[Av,et];rfl)) ?_)⟩;obtain⟨pre,post,ep⟩:=Dv (AI et);rw[ep] at F hb;refine⟨⟨by decide,by decide⟩,L,ka,fa,ks,pre,post,t,one / 9,two / 64,rfl,F,by lia,fun L3 ks' fo' F3 h1 h2=>?_⟩;refine⟨_,ED _,?_⟩;exact TW.of F3 (by rw[ep] at c;lia)
    refine ju (fun c8=>?_) fun c8=>?_
    ·refine qe F.hf ?_;refine ju (fun c1=>?_) fun c1=>?_
     ·have c1:(((zh fo).length:Nat):Int) > 1:=c1;rw[lenR] at c1;refine⟨L,ka,fa,ks,fo,one / 9,two,rfl,F,by lia,by lia,by lia,fun L3 ks' fo' F3 h1 h2=>?_⟩;refine⟨_,ED _,?_⟩;exact TW.of F3 (by lia)
     ·refine⟨L,ka,fa,ks,fo,one / 9,two,rfl,F,by assumption,by lia,by lia,fun L3 ks' fo' F3 h1 h2 h3=>?_⟩;refine⟨_,ED _,?_⟩;exact TW.of F3 (by lia)
    ·refine⟨L,ka,fa,ks,fo,one / 9,two,rfl,F,by lia,by lia,by lia,fun L3 ks' fo' F3 h1 h2 h3=>?_⟩;refine⟨_,ED _,?_⟩;exact TW.of F3 (by lia)
   all_goals
    obtain⟨nm,enm⟩:∃nm,nm=mkS (aC s (two % 3)):=⟨_,rfl⟩;have hnm:cw nm:=by rw[enm];exact qJ _ _
    refine qe F'.b.hk ⟨(by decide:(0:Int)<3),s,two % 3,rfl,qu F'.b.hk ⟨big _ (by rw[lenK];omega),?_⟩⟩;refine qe q9 ⟨(by decide:(0:Int)<3),s,two % 3,rfl,qu q9 ⟨big _ (by rw[Ac,lenK];simp;omega),?_⟩⟩;rw[<-enm,jc];have e1:(ja ks++[.tup [.str "plain",.str nm]])++[.tup [.str "turned",.str nm]]=ja (ks++[.lf false nm,.lf true nm]):=by unfold ja;rw[AC,Ax];rfl
    rw[e1];refine⟨fun τ L3=>∃(b:Bool) (d0 d10:Option Y),τ=[d0,some (.int s),some (.int (room:Int)),some (.ref ka),some (.ref fa),some (.int ((i:Nat):Int)),some (.int cell),some (.int (one / 9)),some (.int two),some (.int (one % 9)),d10]/\L3=qd L2 ka (.lst (ja (ks++[.lf b nm,.lf (!b) nm]))),?_,?_⟩
    ·refine⟨(by decide:(0:Int)<2),?_⟩;show ke (decide (one / 9 % 2=1)) _ _;refine ju (fun c2=>?_) fun c2=>?_
     ·have l2:(ja (ks++[Kn.lf false nm,.lf true nm])).length=ks.length+2:=by rw[lenK,Ac];rfl
      have t2:((((ja (ks++[Kn.lf false nm,.lf true nm])).length:Nat):Int) - 2).toNat=ks.length:=by rw[l2];omega
      refine qe q9 (qe q9 (qe q9 (qu q9 ⟨?_,?_,qm (v:=wI (.lf false nm)) ?_ ?_⟩)))
      ·show(0:Int)≤(((ja (ks++[Kn.lf false nm,.lf true nm])).length:Nat):Int) - 2;rw[l2];omega
      ·show(((ja (ks++[Kn.lf false nm,.lf true nm])).length:Nat):Int) - 2<_;omega
      ·show(ja (ks++[Kn.lf false nm,.lf true nm]))[((((ja (ks++[Kn.lf false nm,.lf true nm])).length:Nat):Int) - 2).toNat]?=_;rw[t2];unfold ja;rw[Av,dQ];rfl
      ·rw[jc];refine qu q9 ⟨big _ ?_,?_⟩
       ·refine AL (CV ..) ?_;show(ja (ks++[Kn.lf false nm,.lf true nm])).length≤20000;rw[l2];omega
       ·refine⟨true,_,_,rfl,?_⟩;rw[jc];have e3:(ja (ks++[Kn.lf false nm,.lf true nm])).eraseIdx ((((ja (ks++[Kn.lf false nm,.lf true nm])).length:Nat):Int) - 2).toNat++[wI (.lf false nm)]=ja (ks++[.lf true nm,.lf false nm]):=by rw[t2];unfold ja;rw[AC,CY (by simp),Ae,Cp,AC,Ax];rfl
        rw[e3];rfl
     ·exact⟨false,_,_,rfl,rfl⟩
    ·rintro τ3 L3 ⟨b,d0,d10,rfl,rfl⟩;have l2:(ja (ks++[Kn.lf b nm,.lf (!b) nm])).length=ks.length+2:=by rw[lenK,Ac];rfl
     have nn:(((ja (ks++[Kn.lf b nm,.lf (!b) nm])).length:Nat):Int) - 2=((ks.length:Nat):Int):=by rw[l2];omega
     have hf3:qd L2 ka (.lst (ja (ks++[.lf b nm,.lf (!b) nm]))) fa=some (.lst (zh fo)):=by rw[qa (AH nkf)];exact F'.hf
     have en:∀z:Int,z=((ks.length:Nat):Int)->qz [ks.length,ks.length+1]=[.int z,.int (z+1)]:=fun z e=>by rw[e];rfl
     have er:∀z:Int,z=((ks.length:Nat):Int)->zf (.link ks.length (ks.length+1))=.tup [.str "link",.int z,.int (z+1)]:=fun z e=>by rw[e];rfl
     have en:=en _ nn;have er:=er _ nn;refine qe q9 (qe hf3 fun pb hpb pa hpa=>?_);have H:=F'.link hnm b (pb:=pb) (pa:=pa) hpb (by rw[en];exact hpa) rfl;refine qu (((By hpb).trans (By hpa)) _ _ hf3) ⟨big _ (by rw[lenR];omega),?_⟩;rw[en,er] at H;refine⟨_,ED _,?_⟩;exact TW.of H (by rw[Ac,Ac];simp;omega)
  ·rintro τ L' ⟨c0,c5,c6,c7,c8,c9,fH,ks,fo,rfl,F,hb⟩;refine⟨fun τ L3=>∃c0 c5 c6 c7 c8 c9 fH ks fo,τ=[c0,some (.int s),some (.int (room:Int)),some (.ref ka),some (.ref fa),c5,c6,c7,c8,c9,fH]/\mP L L3 ka fa ks fo/\1≤fo.length/\ks.length+fo.length≤max room 3,?_,?_⟩
   ·intro p hp;refine lA (by decide) (By hp _ _ F.hf) q9 ((F.b.mono (By hp)).dats (by lia)) (.nil:Paired (x5 _ 0) _ []) ?_;show ke (Da.eqs (fo.map dc) []) _ _;rw[uo];have F':mP L (qd L' p (.lst [])) ka fa ks fo:=F.mono (By hp);generalize qd L' p (.lst [])=L2 at F';refine ju (fun c0=>?_) fun c0=>?_
    ·subst c0;have k0:ks=[]:=by cases ks with|nil=>rfl|cons k r=>exact absurd ((F.b.tm 0).mpr (by simp)) (by simp)
     subst k0;obtain⟨nm,enm⟩:∃nm,nm=mkS (aC s 0):=⟨_,rfl⟩;have hnm:cw nm:=by rw[enm];exact qJ _ _
     refine qe F'.b.hk ⟨s,0,rfl,qu F'.b.hk ⟨big _ (by decide),?_⟩⟩;refine qe q9 ⟨s,0,rfl,qu q9 ⟨big _ (by show 1≤20000;decide),?_⟩⟩;rw[<-enm,jc];have hf3:∀o,qd L2 ka o fa=some (.lst (zh [])):=fun o=>by rw[qa (AH nkf)];exact F'.hf
     refine qe (hf3 _) fun pb hpb pa hpa=>?_;have H:=F'.link hnm true (pb:=pb) (pa:=pa) hpb hpa rfl;refine qu (((By hpb).trans (By hpa)) _ _ (hf3 _)) ⟨big _ (by show 0≤20000;decide),?_⟩;exact⟨_,_,_,_,_,_,_,_,_,rfl,H,by simp,by simp;lia⟩
    ·exact⟨_,_,_,_,_,_,_,ks,fo,rfl,F',(by cases fo with | nil=>exact absurd rfl c0 | cons _ _=>simp),by lia⟩
   ·rintro τ L' ⟨c0,c5,c6,c7,c8,c9,fH,ks,fo,rfl,F,h1,hb⟩;refine⟨fun m τ L3=>∃c0 c5 c6 c7 c8 c9 fH ks fo,τ=[c0,some (.int s),some (.int (room:Int)),some (.ref ka),some (.ref fa),c5,c6,c7,c8,c9,fH]/\mP L L3 ka fa ks fo/\1≤fo.length/\fo.length=m/\ks.length+fo.length≤max room 3,⟨_,_,_,_,_,_,_,_,_,_,rfl,F,h1,rfl,hb⟩,?_⟩;rintro m τ L' ⟨c0,c5,c6,c7,c8,c9,fH,ks,fo,rfl,F,h1,hm,hb⟩;refine qe F.hf ?_;refine ju (fun c1=>?_) fun c1=>?_
    ·have c1:(((zh fo).length:Nat):Int) > 1:=c1;rw[lenR] at c1;refine⟨fun τ L3=>∃c0 c5 c6 c7 c8 c9 fH ks fo,τ=[c0,some (.int s),some (.int (room:Int)),some (.ref ka),some (.ref fa),c5,c6,c7,c8,c9,fH]/\mP L L3 ka fa ks fo/\1≤fo.length/\fo.length+1=m/\ks.length+fo.length≤max room 3,?_,?_⟩
     ·rintro τ L3 ⟨d0,d5,d6,d7,d8,d9,d10,ks',fo',rfl,F3,g1,g2,g3⟩;exact⟨m - 1,by lia,_,_,_,_,_,_,_,_,_,rfl,F3,g1,by lia,g3⟩
     ·refine⟨⟨by decide,by decide⟩,qe F.hf ⟨⟨by decide,by decide⟩,L,ka,fa,ks,fo,_,_,rfl,F,by lia,by lia,by lia,fun L3 ks' fo' F3 g1 g2=>?_⟩⟩;exact⟨_,ED _,_,_,_,_,_,_,_,ks',fo',rfl,F3,by lia,by lia,by lia⟩
    ·have c1:¬((((zh fo).length:Nat):Int) > 1):=c1;rw[lenR] at c1;obtain⟨t,rfl⟩:∃t,fo=[t]:=by
      match fo,h1,c1 with
      |[t],_,_=>exact⟨t,rfl⟩
      |t::u::r,_,c=>exact absurd (show(((t::u::r).length:Nat):Int) > 1 by simp;lia) c
     have ta:=(F.b.ht t (An ..)).1;refine qe F.hf (qe ta ?_);refine eY (qk.put F.b.sub F.b.hk) (q ka ks t.R t.E hka F.b.ok (F.b.sr t (An ..)) ?_ ?_)
     ·have nd:=F.b.nd;have tm:=F.b.tm;simp at nd tm;exact(B1 nd Bw).mpr fun x=>by rw[tm,AF]
     ·simp at hb;lia
def wS(p q:Nat×Nat):Prop:=p.1<q.1\/(p.1=q.1/\p.2≤q.2)
def ss(p:Nat×Nat):Int×Int:=((p.1:Int),(p.2:Int))
theorem yX{p q:Nat×Nat}(h:ss p=ss q):p=q:=by obtain⟨a,b⟩:=p;obtain⟨c,d⟩:=q;have h1:(a:Int)=c:=BG Prod.fst h;have h2:(b:Int)=d:=BG Prod.snd h;rw[DG.mp h1,DG.mp h2]
theorem rC(ps:List (Nat×Nat)):za ps=(ps.map ss).map prY:=by rw[BO];rfl
theorem vG{a:Addr}{ps:List (Nat×Nat)}{Q:YK}(ha:L a=some (.lst (za ps)))(hb:∀p∈ps,p.2<1000000)(nd:ps.Nodup)(hl:ps.length≤100000)
 (q:∀D qs,L D=none->qs.Perm ps->qs.Pairwise wS->Q (.ref D) (qd L D (.lst (za qs)))):eQ [.ref a] L Q:=by
 refine qu ha ⟨ps.map ss,rC ps,fun p hp=>?_,?_,by rw[Ae];exact hl,fun D qs hD pm pw=>?_⟩
 ·obtain⟨r,hr,rfl⟩:=Bq.mp hp;have:=hb r hr;exact⟨A2 _,by show((r.2:Nat):Int)<1000000;omega⟩
 ·exact dN (fun x _ y _ e=>yX e) nd
 ·obtain⟨T,pT,rfl⟩:=m5 ss pm rfl;rw[<-rC];refine q D T hD pT ((B7.mp pw).imp fun {x y} z=>?_);unfold wS;rcases z with z | ⟨z1,z2⟩
  ·left;have z:((x.1:Nat):Int)<y.1:=z;lia
  ·right;have z1:((x.1:Nat):Int)=y.1:=z1;have z2:((x.2:Nat):Int)≤y.2:=z2;exact⟨by lia,by lia⟩
theorem rJ{m:Nat×Nat->Nat×Nat}{keep:ql->Prop}{Q:YK}(hz:lk.length≤1000)(hk:keep L)
 (turn:∀(i:Nat) (pr:Nat×Nat) (R:List Y->ql->Prop) zs,lk[i]?=some pr->R (zs++[prN (m pr)]) L->g (prN pr) (τ++List.replicate 2 none) L fun τ2 L2=>tc τ2 L2 fun b L3=>ke b (te τ2 L3 fun z L4=>R (zs++[z]) L4) (R zs L3))
 (hq:∀p,L p=none->Q (.ref p) (qd L p (.lst (za (lk.map m))))):yw (za lk) keep 2 g tc te τ L Q:=by
 refine cq (fun i zs=>zs=za ((lk.take i).map m)) (by rw[Ae];exact Bf hz (by decide)) hk rfl ?_ ?_
 ·rintro i y zs ey rfl;rw[Av] at ey;obtain⟨pr,ek,rfl⟩:=AE.mp ey;refine turn i pr _ _ ek ⟨L,ED _,rfl,?_⟩;rw[Bo,ek,AC];show _=(_++_:List (Nat×Nat)).map prN;rw[AC];rfl
 ·rintro zs rfl p hp;rw[Ae,Bn];exact hq p hp
structure ue(L0:ql)(ks:List (Option Kn))(qs:List Nat)(d w D:Addr)(i ex:Nat)(f:Nat->Nat)(wd:List (Option Kn))(kvs:List (jg×Y))(L:ql):Prop where
 sub:qk L0 L
 hd:L d=some (.dct kvs)
 hw:L w=some (.lst (ak wd))
 hD:L D=some (.lst (nY qs))
 len:kvs.length≤i
 val:∀p:Nat,wz kvs (.inl (p:Int))=if p∈qs.take i then some (.int ((f p:Nat):Int)) else none
 gap:qB ks (qs.take i) f wd
 wlen:wd.length≤2*i+ex
def mmP(f:Nat->Nat)(p:Nat×Nat):Nat×Nat:=(min (f p.1) (f p.2),max (f p.1) (f p.2))
def ppP(f:Nat->Nat)(p:Nat×Nat):Nat×Nat:=(f p.1,f p.2)
structure Ren(f:Nat->Nat)(ks wd:List (Option Kn)):Prop where
 gap:qB ks (List.range ks.length) f wd
 len:wd.length≤2*ks.length+1
def gx(Pt:Addr):jj:=fun ys L Q=>∃a l c,∃ks:List (Option Kn),∃lk ct:List (Nat×Nat),∃s:Int,∃b:Bool,ys=[.ref a,.ref l,.ref c,.int s,.bl b]/\L a=some (.lst (ak ks))/\L l=some (.lst (za lk))/\L c=some (.lst (za ct))/\OkO ks/\ks.length≤400/\L Pt=some (.tb lamQ)/\
 lk.Nodup/\(∀p∈lk,p.1<p.2/\p.2<ks.length)/\lk.length≤1000/\ct.Nodup/\(∀p∈ct,p.1<ks.length/\p.2<ks.length)/\ct.length≤1000/\
 ∀f wd lk' ct' wa la ca L',Ren f ks wd->lk'.Perm (lk.map (mmP f))->lk'.Pairwise wS->ct'.Perm (ct.map (ppP f))->ct'.Pairwise wS->qk L L'->L wa=none->L la=none->L ca=none->wa≠la->wa≠ca->la≠ca->L' wa=some (.lst (ak wd))->L' la=some (.lst (za lk'))->L' ca=some (.lst (za ct'))->Q (cW wa la ca) L'
theorem l0(wd:List (Option Kn))(k:Option Kn):ak wd++[fB k]=ak (wd++[k]):=by unfold ak;rw[AC];rfl
theorem bS(wd:List (Option Kn)):(ak wd).length=wd.length:=Ae ..
theorem ue.wide{d w D:Addr}{ex ex':Nat}{f:Nat->Nat}{wd':List (Option Kn)}{kvs:List (jg×Y)}(G:ue L0 ks qs d w D i ex f wd kvs L)(h0:L0 w=none)(ndw:d≠w)(nwD:w≠D)(g:qB ks (qs.take i) f wd')(h:wd'.length≤2*i+ex'):
 ue L0 ks qs d w D i ex' f wd' kvs (qd L w (.lst (ak wd'))):=
 ⟨G.sub.upd h0,(qa ndw).trans G.hd,q9,(qa (AH nwD)).trans G.hD,G.len,G.val,g,h⟩
theorem qB.gaps{ps:List Nat}{f:Nat->Nat}(h:qB ks ps f wd):∀n,qB ks ps f (wd++List.replicate n none)
 |0=>by rw[List.replicate_zero,AZ];exact h
 |n+1=>by rw[List.replicate_succ',<-Ax];exact(h.gaps n).gap
theorem aml{a b c:Nat}(h1:min a b=min c d)(h2:max a b=max c d):(a=c/\b=d)\/(a=d/\b=c):=by lia
theorem xK :∀ys L Q,gx Pt ys L Q->xq (mL (mC Pt) fC) 9 ys L Q:=by
 rintro ys L Q ⟨a,l,c,ks,lk,ct,s,b,rfl,ha,hl,hc,ok,hz,hP,nd1,hlk,hz1,nd2,hct,hz2,q⟩;have big:=bg_;intro d hd w hw;have hw0:L w=none:=j8 hw;have ndw:d≠w:=xo q9 hw;have s0:qk L (qd (qd L d (.dct [])) w (.lst [])):=(By hd).trans (By hw);refine⟨a,ks,s,rfl,s0 _ _ ha,ok,by exact i0,s0 _ _ hP,fun D qs hD pm pf=>?_⟩;have hD0:L D=none:=j8 (j8 hD);have nwD:w≠D:=xo q9 hD;have ndD:d≠D:=xo ((qa ndw).trans q9) hD;have lq:qs.length=ks.length:=by rw[pm.length_eq,AX]
 have ndq:qs.Nodup:=pm.nodup_iff.mpr Bw;have mq:∀p∈qs,p<ks.length:=fun p hp=>AF.mp (pm.mem_iff.mp hp);have G0:ue L ks qs d w D 0 0 (fun _=>0) [] [] (qd (qd (qd L d (.dct [])) w (.lst [])) D (.lst (nY qs))):=
  ⟨s0.trans (By hD),(qa ndD).trans ((qa ndw).trans q9),(qa nwD).trans q9,q9,Am _,fun p=>rfl,qB.nil _ _,Am _⟩
 refine xz q9 fun keep kp=>af ⟨fun i τ L'=>∃f wd kvs c7 c8,τ=[some (Y.ref a),some (Y.ref l),some (Y.ref c),some (.int s),some (.bl b),some (Y.ref d),some (Y.ref w),c7,c8]/\ue L ks qs d w D i 0 f wd kvs L',⟨_,_,_,_,_,rfl,G0⟩,?_,?_,?_⟩
 ·rintro i τ L' ⟨f,wd,kvs,c7,c8,rfl,G⟩;exact kp L' (by rw[G.hD,q9])
 ·rintro i y τ L' hy ⟨f,wd,kvs,c7,c8,rfl,G⟩;obtain⟨p,ep,rfl⟩:=bP hy;have hi:=zm ep;have hp:p<ks.length:=mq p (AI ep);obtain⟨k,hk⟩:∃k,ks[p]?=some k:=⟨_,Aj hp⟩;have pn:p∉qs.take i:=fun hm=>by
   have e2:qs=qs.take i++p::qs.drop (i+1):=by rw[Aj hi] at ep;rw[<-AV ep,C8,Bj]
   have nd:=ndq;rw[e2] at nd;exact(AK.mp nd).2.2 p hm p (An ..) rfl
  have et:qs.take (i+1)=qs.take i++[p]:=by rw[Bo,ep];rfl
  refine⟨fun τ' L1=>∃wd',τ'=[some (Y.ref a),some (Y.ref l),some (Y.ref c),some (.int s),some (.bl b),some (Y.ref d),some (Y.ref w),some (.int (p:Nat)),c8]/\ue L ks qs d w D i 1 f wd' kvs L1,?_,?_⟩
  ·have plain:ue L ks qs d w D i 1 f wd kvs L':=⟨G.sub,G.hd,G.hw,G.hD,G.len,G.val,G.gap,by have:=G.wlen;exact adf⟩;cases b with
   |false=>exact⟨wd,rfl,plain⟩
   |true=>
    refine⟨s,(p:Nat),40692,rfl,by exact A2 _,by omega,by decide,by decide,fun v h0 h1=>?_⟩;refine⟨show(0:Int)<3 by decide,?_⟩;refine ju (fun g=>?_) fun g=>⟨wd,rfl,plain⟩;refine qe G.hw (qu G.hw ⟨by rw[bS];have:=G.wlen;exact big _ (by lia),?_⟩);refine⟨wd++[none],rfl,?_⟩;have:=G.wide (wd':=wd++[none]) (ex':=1) hw0 ndw nwD G.gap.gap (by rw[Ac];have:=G.wlen;show wd.length+1≤_;exact uH);rw[<-l0] at this;exact this
  ·rintro τ' L1 ⟨wd',rfl,G1⟩;have hpar:∀e i' j',k=some (.nd e i' j')->i'∈qs.take i/\j'∈qs.take i:=fun e i' j' z=>jZ ok pm pf ep (by rw[hk,z]);have hpar2:∀x∈qs.take i,∀e i' j',ks[x]?=some (some (.nd e i' j'))->i'∈qs.take i/\j'∈qs.take i:=fun x hx e i' j' z=>by
    obtain⟨n,hn⟩:=List.getElem?_of_mem hx;have hn2:=zm hn;rw[AW] at hn2;rw[DC (by lia)] at hn;obtain⟨h1,h2⟩:=jZ ok pm pf hn z;have sb:∀y,y∈qs.take n->y∈qs.take i:=fun y hy=>by
     have:qs.take n=(qs.take i).take n:=by rw[List.take_take,Cr (by lia)]
     rw[this] at hy;exact Bz hy
    exact⟨sb _ h1,sb _ h2⟩
   have vp:∀y:Nat,wz (mI kvs (.inl (p:Int)) (.int ((wd'.length:Nat):Int))) (.inl (y:Int))=if y∈qs.take i++[p] then some (.int (((if y=p then wd'.length else f y):Nat):Int)) else none:=fun y=>by
    rw[sj];by_cases e:y=p
    ·subst e;rw[As rfl,As rfl,As (Ag _ (Au.mpr rfl))]
    ·rw[Aq (fun z=>e (DG.mp (Sum.inl.inj z))),Aq e,G1.val];by_cases h:y∈qs.take i
     ·rw[As h,As (Ap _ h)]
     ·rw[Aq h,Aq fun z=>(Ak.mp z).elim h fun z=>e (Au.mp z)]
   have wl:=G1.wlen;have kl:=G1.len;refine qe G1.hw ?_;rw[bS];refine kc G1.hd ⟨big _ (by lia),?_⟩;have nad:a≠d:=xo ha hd;refine qe ((qa nad).trans (G1.sub _ _ ha)) (qm (ig hk) ?_);have hd2:∀{o},qd L1 d o d=some o:=q9;refine⟨fun τ' L2=>τ'=[some (Y.ref a),some (Y.ref l),some (Y.ref c),some (.int s),some (.bl b),some (Y.ref d),some (Y.ref w),some (.int (p:Nat)),some (fB (e9 f k))]/\L2=qd L1 d (.dct (mI kvs (.inl (p:Int)) (.int ((wd'.length:Nat):Int)))),?_,?_⟩
   ·cases k with
    |none=>exact⟨rfl,rfl⟩
    |some k=>
     cases k with
     |lf t n=>exact⟨rfl,rfl⟩
     |nd e p1 p2=>
      obtain⟨m1,m2⟩:=hpar e p1 p2 rfl;have v1:=vp p1;have v2:=vp p2;rw[As (Ap _ m1),Aq fun(z:p1=p)=>pn (z▸m1)] at v1;rw[As (Ap _ m2),Aq fun(z:p2=p)=>pn (z▸m2)] at v2;refine kc q9 (qm v1 ?_);refine kc q9 (qm v2 ?_);exact⟨rfl,rfl⟩
   ·rintro τ' L2 ⟨rfl,rfl⟩;have hw2:qd L1 d (.dct (mI kvs (.inl (p:Int)) (.int ((wd'.length:Nat):Int)))) w=some (.lst (ak wd')):=(qa (AH ndw)).trans G1.hw;refine qe hw2 (qu hw2 ⟨by rw[bS];exact big _ (by lia),?_⟩);rw[l0];have hb:∀x∈qs.take i,x<ks.length:=fun x hx=>mq x (Bz hx);refine⟨_,ED _,fun x=>if x=p then wd'.length else f x,wd'++[e9 f k],_,_,_,rfl,(G1.sub.upd hd).upd hw0,(qa ndw).trans q9,q9,(qa (AH nwD)).trans ((qa (AH ndD)).trans G1.hD),?_,fun y=>?_,?_,?_⟩
    ·have:=rH kvs (.inl (p:Int)) (.int ((wd'.length:Nat):Int));lia
    ·rw[et];exact vp y
    ·rw[et];exact G1.gap.step hb pn hk hpar2 hpar
    ·rw[Ac];show wd'.length+1≤_;exact uH
 ·rintro τ L' ⟨f,wd,kvs,c7,c8,rfl,G⟩;have eq:(nY qs).length=qs.length:=Ae ..;rw[eq] at G;have et:qs.take qs.length=qs:=Bn;have val:∀p,p<ks.length->wz kvs (.inl (p:Int))=some (.int ((f p:Nat):Int)):=fun p hp=>by rw[G.val,et,As (pm.mem_iff.mpr (AF.mpr hp))]
  have gap:qB ks (List.range ks.length) f wd:=by have g:=G.gap;rw[et] at g;exact⟨fun p hp=>g.at_ p (pm.mem_iff.mpr hp),fun p hp r hr=>g.inj p (pm.mem_iff.mpr hp) r (pm.mem_iff.mpr hr),fun x k hx=>let ⟨r,hr,e⟩:=g.only x k hx;⟨r,pm.mem_iff.mp hr,e⟩,g.ok⟩
  have flt:∀p,p<ks.length->f p<wd.length:=fun p hp=>gap.lt (AF.mpr hp) hp;have inj:∀p r,p<ks.length->r<ks.length->f p=f r->p=r:=fun p r hp hr e=>gap.inj p (AF.mpr hp) r (AF.mpr hr) e;have wl:wd.length≤2*ks.length:=by have:=G.wlen;rw[lq] at this;lia
  refine xz (G.sub _ _ hl) fun keep kp=>rJ (m:=mmP f) hz1 (kp _ rfl) (fun i pr R zs epr hR=>?_) fun p1 hp1=>?_
  ·obtain⟨l1,l2⟩:=hlk pr (AI epr);have v1:=val pr.1 (by exact hG);have v2:=val pr.2 l2;refine kc G.hd (qm v1 ?_);refine kc G.hd (qm v2 ?_);refine kc G.hd (qm v1 ?_);refine kc G.hd (qm v2 ?_);have e1:min ((f pr.1:Nat):Int) ((f pr.2:Nat):Int)=((min (f pr.1) (f pr.2):Nat):Int):=apc _ _;have e2:max ((f pr.1:Nat):Int) ((f pr.2:Nat):Int)=((max (f pr.1) (f pr.2):Nat):Int):=ap2 _ _;have hR':R (zs++[.tup [.int (min ((f pr.1:Nat):Int) ((f pr.2:Nat):Int)),.int (max ((f pr.1:Nat):Int) ((f pr.2:Nat):Int))]]) L':=by rw[e1,e2];exact hR
   exact hR'
  have b1:∀p∈lk.map (mmP f),p.2<1000000:=fun p hp=>by obtain⟨r,hr,rfl⟩:=Bq.mp hp;obtain⟨h1,h2⟩:=hlk r hr;have:=flt r.1 (by lia);have:=flt r.2 h2;exact Nat.max_lt.mpr ⟨by lia,by lia⟩
  have n1:(lk.map (mmP f)).Nodup:=dN (fun x hx y hy e=>by
   obtain⟨x1,x2⟩:=hlk x hx;obtain⟨y1,y2⟩:=hlk y hy;have m1:min (f x.1) (f x.2)=min (f y.1) (f y.2):=BG Prod.fst e;have m2:max (f x.1) (f x.2)=max (f y.1) (f y.2):=BG Prod.snd e;have a1:x.1=y.1/\x.2=y.2:=by
    rcases aml m1 m2 with⟨c1,c2⟩ | ⟨c1,c2⟩
    ·exact⟨inj x.1 y.1 (C2 x1 x2) (C2 y1 y2) c1,inj x.2 y.2 x2 y2 c2⟩
    ·have e3:=inj x.1 y.2 (C2 x1 x2) y2 c1;have e4:=inj x.2 y.1 x2 (C2 y1 y2) c2;rw[e3,e4] at x1;exact absurd x1 (Nat.lt_asymm y1)
   exact Prod.ext a1.1 a1.2) nd1
  dsimp only[qx];refine vG (ps:=lk.map (mmP f)) q9 b1 n1 (by rw[Ae];exact i0) fun D1 lk' hD1 pm1 pw1=>?_;have hp1':L p1=none:=G.sub.none hp1;have hD1a:=j8 hD1;have hD1':L D1=none:=G.sub.none hD1a;have S1:qk L' (qd (qd L' p1 (.lst (za (lk.map (mmP f))))) D1 (.lst (za lk'))):=(By hp1).trans (By hD1);refine xz (S1 _ _ (G.sub _ _ hc)) fun keep kp=>rJ (m:=ppP f) hz2 (kp _ rfl) (fun i pr R zs epr hR=>?_) fun p2 hp2=>?_
  ·obtain⟨l1,l2⟩:=hct pr (AI epr);refine kc (S1 _ _ G.hd) (qm (val pr.1 l1) ?_);refine kc (S1 _ _ G.hd) (qm (val pr.2 l2) ?_);exact hR
  have b2:∀p∈ct.map (ppP f),p.2<1000000:=fun p hp=>by obtain⟨r,hr,rfl⟩:=Bq.mp hp;obtain⟨h1,h2⟩:=hct r hr;have:=flt r.2 h2;show f r.2<1000000;lia
  have n2:(ct.map (ppP f)).Nodup:=dN (fun x hx y hy e=>by obtain⟨x1,x2⟩:=hct x hx;obtain⟨y1,y2⟩:=hct y hy;exact Prod.ext (inj _ _ x1 y1 (BG Prod.fst e)) (inj _ _ x2 y2 (BG Prod.snd e))) nd2
  dsimp only[qx];refine vG (ps:=ct.map (ppP f)) q9 b2 n2 (by rw[Ae];exact i0) fun D2 ct' hD2 pm2 pw2=>?_;have hD2a:=j8 hD2;have S2:=S1.trans ((By hp2).trans (By (o:=.lst (za ct')) hD2));have hD2':L D2=none:=G.sub.none (S1.none hD2a);have n12:D1≠D2:=xo q9 hD2a;obtain⟨m,hm,hm1⟩:∃m:Nat,(if b=true then(1:Int) else 0)=(m:Int)/\m≤1:=by cases b;exact⟨0,rfl,by exact Bl _⟩;exact⟨1,rfl,by exact Bu _⟩
  walk_at "w";rw[hm];refine⟨⟨by exact A2 _,by omega⟩,?_⟩;rw[B5];refine ud (fun i zs=>zs=ak (List.replicate i none)) (big _ (by exact i0)) rfl ?_ ?_
  ·rintro i zs hi rfl;refine⟨_,ED _,rfl,?_⟩;rw[List.replicate_succ'];exact l0 _ none
  rintro zs rfl p3 hp3;have S3:=S2.trans (By (o:=.lst (ak (List.replicate m none))) hp3);refine⟨_,_,S3 _ _ G.hw,q9,?_,fun p4 hp4=>?_⟩
  ·rw[bS,bS,BQ];exact BU (big _ (by lia))
  have h4:=j8 hp4;have h4':L p4=none:=G.sub.none (S2.none h4);have n43:D2≠p4:=xo q9 h4;have n42:D1≠p4:=xo ((qa n12).trans ((qa (xo q9 hp2)).trans q9)) h4;have hp3b:=j8 hp3;have n31:D1≠p3:=xo ((qa n12).trans ((qa (xo q9 hp2)).trans q9)) hp3;have n32:D2≠p3:=xo q9 hp3;have eo:ak wd++ak (List.replicate m none)=ak (wd++List.replicate m none):=by unfold ak;rw[AC]
  rw[eo];refine xu (q f (wd++List.replicate m none) lk' ct' p4 D1 D2 _ ⟨gap.gaps m,?_⟩ pm1 pw1 pm2 pw2 ((G.sub.trans S3).trans (By hp4)) h4' hD1' hD2' (AH n42) (AH n43) n12 q9 ?_ ?_)
  ·rw[Ac,BQ];exact alj
  ·rw[qa n42,qa n31,qa n12,qa (xo q9 hp2),q9]
  ·rw[qa n43,qa n32,q9]
def qX:kn:=(qt (ag9 1 2 3 (qf (w5 qx) (qf (w5 qx) (qf (w5 (ki (qb 0))) qx))))
 (qt (ld (rdN (qb 3) (w5 qx)) (qt (zw (aZ ac9 (qb 3) qx) (qg 4))
 (dw (va (i8 (xj 4 0) (fg "link")) (jm (aZ zq (qb 1) (qf (zD (xj 4 1) (xj 4 2)) qx))) x0)
 (dw (va (i8 (xj 4 0) (fg "cut")) (jm (aZ zq (qb 2) (qf (zD (xj 4 1) (xj 4 2)) qx))) x0)
 (jm (aZ fK (qb 3) (qf (pY 1 (agn (ySl amd (qb 4) (kK (jx 2)) gD)) (qg 5) (yB (aX .tuple (qb 5))) (qb 5)) qx)))))))
 (jy (k6 (qf (gm eQ (ki (qb 1))) (qf (gm eQ (ki (qb 2))) qx))))))
def jd:Ru->List (Nat×Nat)
 |.link p q=>[(p,q)]
 |.ei _ A=>jd A
 |.bo _ A B=>jd A++jd B
 |.cu _ _ A B=>jd A++jd B
def jr:Ru->List (Nat×Nat)
 |.link _ _=>[]
 |.ei _ A=>jr A
 |.bo _ A B=>jr A++jr B
 |.cu p q A B=>(p,q)::(jr A++jr B)
def i9:Ru->Nat
 |.link _ _=>1
 |.ei _ A=>i9 A+1
 |.bo _ A B=>i9 A+i9 B+1
 |.cu _ _ A B=>i9 A+i9 B+1
def aD:Ru->List Ru
 |.link _ _=>[]
 |.ei _ A=>[A]
 |.bo _ A B=>[A,B]
 |.cu _ _ A B=>[A,B]
def mK:Ru->List (Nat×Nat)
 |.link p q=>[(p,q)]
 |_=>[]
def oq:Ru->List (Nat×Nat)
 |.cu p q _ _=>[(p,q)]
 |_=>[]
theorem tw(A:Ru):jd A=mK A++(aD A).flatMap jd:=by cases A<;>simp[jd,mK,aD]
theorem yH(A:Ru):jr A=oq A++(aD A).flatMap jr:=by cases A<;>simp[jr,oq,aD]
theorem sD(A:Ru):((aD A).map i9).sum+1=i9 A:=by cases A<;>simp[i9,aD]
theorem ae9(A:Ru):0<i9 A:=by cases A<;>simp[i9]
theorem yn{A B:Ru}(h:B∈aD A):wf B<wf A:=by cases A<;>simp[aD] at h<;>(try rcases h with rfl | rfl)<;>(try subst h)<;>simp[wf]<;>omega
def lw:Ru->List Y
 |.link _ q=>[.int ((q:Nat):Int)]
 |.ei _ A=>[zf A]
 |.bo _ A B=>[zf A,zf B]
 |.cu _ q A B=>[.int ((q:Nat):Int),zf A,zf B]
def ag3:Y->Option Y
 |.tup ys=>some (.tup ys)
 |_=>none
theorem vV(A:Ru):ag3 (zf A)=some (zf A):=by cases A<;>rfl
theorem vC(i:Int):ag3 (.int i)=none:=rfl
theorem xM(A:Ru):(lw A).filterMap ag3=(aD A).map zf:=by cases A<;>simp[lw,aD,CH,vV,vC]
theorem abh{A:Ru}(h:y∈lw A):(∃q:Nat,y=.int (q:Int))\/∃B,y=zf B:=by
 cases A<;>simp[lw] at h
 ·exact .inl ⟨_,h⟩
 ·exact .inr ⟨_,h⟩
 ·rcases h with h | h<;>exact .inr ⟨_,h⟩
 ·rcases h with h | h | h
  ·exact .inl ⟨_,h⟩
  ·exact .inr ⟨_,h⟩
  ·exact .inr ⟨_,h⟩
structure iT(R:Ru)(lk ct:List (Nat×Nat))(st:List Ru):Prop where
 pl:(lk++st.flatMap jd).Perm (jd R)
 pc:(ct++st.flatMap jr).Perm (jr R)
 sz:(st.map i9).sum≤i9 R
 dp:∀A∈st,wf A≤wf R
theorem iT.start(R:Ru):iT R [] [] [R]:=⟨by simp,by simp,by simp,fun A hA=>by simp at hA;subst hA;exact Am _⟩
theorem iT.step{R A:Ru}{st:List Ru}(h:iT R lk ct (st++[A])):iT R (lk++mK A) (ct++oq A) (st++aD A):=by
 have pm:∀{X U V W:List (Nat×Nat)},(X++U++(V++W)).Perm (X++(V++(U++W))):=fun {X U V W}=>by rw[Ax];refine Df X ?_;rw[<-Ax,<-Ax];exact Dc W BE
 refine⟨?_,?_,?_,fun B hB=>?_⟩
 ·refine List.Perm.trans ?_ h.pl;rw[AN,AN];have:[A].flatMap jd=mK A++(aD A).flatMap jd:=by rw[<-tw];simp
  rw[this];exact pm
 ·refine List.Perm.trans ?_ h.pc;rw[AN,AN];have:[A].flatMap jr=oq A++(aD A).flatMap jr:=by rw[<-yH];simp
  rw[this];exact pm
 ·have:=h.sz;have:=sD A;simp at *;lia
 ·rcases Ak.mp hB with hB | hB
  ·exact h.dp B (Ap _ hB)
  ·have:=yn hB;have:=h.dp A (Ag _ (Au.mpr rfl));exact ahy
def pO:jj:=fun ys L Q=>∃R:Ru,ys=[zf R]/\wf R≤120/\i9 R≤1000/\(jd R).Nodup/\(jr R).Nodup/\(∀p∈jd R,p.2<1000000)/\(∀p∈jr R,p.2<1000000)/\(jd R).length≤1000/\(jr R).length≤1000/\
 ∀la ca lk ct,L la=none->L ca=none->la≠ca->lk.Perm (jd R)->lk.Pairwise wS->ct.Perm (jr R)->ct.Pairwise wS->Q (.tup [.ref la,.ref ca]) (qd (qd L la (.lst (za lk))) ca (.lst (za ct)))
theorem m8(l:List (Nat×Nat))(p:Nat×Nat):za l++[prN p]=za (l++[p]):=by unfold za;rw[AC];rfl
theorem acy(st:List Ru):Da.eqs (st.map ax) []=decide (st=[]):=by cases st<;>rfl
theorem kC{L:ql}{n:Nat}:∀{st:List Ru},(∀A∈st,wf A≤n)->Paired (x5 L n) (st.map zf) (st.map ax)
 |[],_=>.nil
 |A::r,h=>.cons (bX (h A (An ..))) (kC fun B hB=>h B (Ah _ hB))
theorem adi:∀ys L Q,pO ys L Q->xq qX 5 ys L Q:=by
 rintro ys L Q ⟨R,rfl,hd,hz,nd1,nd2,b1,b2,z1,z2,q⟩;have big:=bg_;intro la hla ca hca ta hta;have nlc:la≠ca:=xo q9 hca;have nct:ca≠ta:=xo q9 hta;have nlt:la≠ta:=xo ((qa nlc).trans q9) hta;have hca0:L ca=none:=j8 hca;have hta0:L ta=none:=j8 (j8 hta);have S0:qk L (qd (qd (qd L la (.lst [])) ca (.lst [])) ta (.lst [zf R])):=((By hla).trans (By hca)).trans (By hta);refine⟨fun m τ L'=>∃lk ct st c4,τ=[some (zf R),some (Y.ref la),some (Y.ref ca),some (Y.ref ta),c4]/\qk L L'/\L' la=some (.lst (za lk))/\L' ca=some (.lst (za ct))/\L' ta=some (.lst (st.map zf))/\iT R lk ct st/\m=(st.map i9).sum,⟨_,[],[],[R],_,rfl,S0,(qa nlt).trans ((qa nlc).trans q9),(qa nct).trans q9,q9,iT.start R,rfl⟩,?_⟩;rintro m τ L' ⟨lk,ct,st,c4,rfl,s,h1,h2,h3,T,rfl⟩;intro p hp;refine lA (n:=120) (m:=0) (by decide) (By hp _ _ h3) q9 (kC fun A hA=>AL (T.dp A hA) hd) (.nil:Paired (x5 _ 0) _ []) ?_;have npl:la≠p:=xo h1 hp;have npc:ca≠p:=xo h2 hp;have npt:ta≠p:=xo h3 hp;have s2:qk L (qd L' p (.lst [])):=s.trans (By hp);replace h1:=(qa (o:=.lst []) npl).trans h1;replace h2:=(qa (o:=.lst []) npc).trans h2;replace h3:=(qa (o:=.lst []) npt).trans h3;generalize qd L' p (.lst [])=L2 at s2 h1 h2 h3 ⊢;show ke (!(Da.eqs (st.map ax) [])) _ _;rw[acy];rcases List.eq_nil_or_concat st with rfl | ⟨sw,A,rfl⟩
 ·refine bT rfl ?_;have pl:lk.Perm (jd R):=by have:=T.pl;simpa using this
  have pc:ct.Perm (jr R):=by have:=T.pc;simpa using this
  dsimp only[jy,k6,gm,qf,ki,aK,zD,qb,tG,qx];refine vG h1 (fun x hx=>b1 x (pl.mem_iff.mp hx)) (pl.nodup_iff.mpr nd1) (by rw[pl.length_eq];exact i0) fun D1 lk' hD1 pm1 pw1=>?_;have n1:ca≠D1:=xo h2 hD1;refine vG ((qa n1).trans h2) (fun x hx=>b2 x (pc.mem_iff.mp hx)) (pc.nodup_iff.mpr nd2) (by rw[pc.length_eq];exact i0) fun D2 ct' hD2 pm2 pw2=>?_;have n12:D1≠D2:=xo q9 hD2;have hD1':=s2.none hD1;have hD2':=s2.none (j8 hD2);refine⟨_,fun z o e=>?_,q D1 D2 lk' ct' hD1' hD2' n12 (pm1.trans pl) pw1 (pm2.trans pc) pw2⟩;by_cases c1:z=D2
  ·subst c1;rw[q9] at e ⊢;exact e
  ·rw[qa c1] at e ⊢;by_cases c2:z=D1
   ·subst c2;rw[q9] at e ⊢;exact e
   ·rw[qa c2] at e ⊢;exact s2 _ _ e
 ·rw[List.concat_eq_append] at *;have T1:=T.step;have ne:sw++[A]≠[]:=by simp
  rw[AA ne];refine lW rfl ⟨fun τ' L'=>∃m',m'<((sw++[A]).map i9).sum/\∃lk ct st c4,τ'=[some (zf R),some (Y.ref la),some (Y.ref ca),some (Y.ref ta),c4]/\qk L L'/\L' la=some (.lst (za lk))/\L' ca=some (.lst (za ct))/\L' ta=some (.lst (st.map zf))/\iT R lk ct st/\m'=(st.map i9).sum,fun τ' L' h=>h,?_⟩;rw[AC] at h3;refine ahs h3 ?_;refine⟨fun τ' L3=>τ'=[some (zf R),some (Y.ref la),some (Y.ref ca),some (Y.ref ta),some (zf A)]/\qk L L3/\L3 la=some (.lst (za (lk++mK A)))/\L3 ca=some (.lst (za ct))/\L3 ta=some (.lst (sw.map zf)),?_,?_⟩
  ·have s3:qk L (qd L2 ta (.lst (sw.map zf))):=s2.upd hta0;have g1:qd L2 ta (.lst (sw.map zf)) la=some (.lst (za lk)):=(qa nlt).trans h1;have g2:qd L2 ta (.lst (sw.map zf)) ca=some (.lst (za ct)):=(qa nct).trans h2;have g3:qd L2 ta (.lst (sw.map zf)) ta=some (.lst (sw.map zf)):=q9;generalize qd L2 ta (.lst (sw.map zf))=L3 at s3 g1 g2 g3 ⊢;cases A with
   |link p0 q0=>
    refine qe g1 (qu g1 ⟨?_,?_⟩)
    ·have:=T.pl.length_eq;rw[Ac] at this;rw[Ae];exact big _ (by lia)
    ·exact⟨rfl,s3.upd hla,by rw[q9];exact BG (fun l=>some (LO.lst l)) (m8 lk (p0,q0)),(qa (AH nlc)).trans g2,(qa (AH nlt)).trans g3⟩
   |ei r0 A0=>exact⟨rfl,s3,by rw[g1];simp[mK],g2,g3⟩
   |bo r0 A0 B0=>exact⟨rfl,s3,by rw[g1];simp[mK],g2,g3⟩
   |cu p0 q0 A0 B0=>exact⟨rfl,s3,by rw[g1];simp[mK],g2,g3⟩
  ·rintro τ' L3 ⟨rfl,s3,g1,g2,g3⟩;refine⟨fun τ' L3=>τ'=[some (zf R),some (Y.ref la),some (Y.ref ca),some (Y.ref ta),some (zf A)]/\qk L L3/\L3 la=some (.lst (za (lk++mK A)))/\L3 ca=some (.lst (za (ct++oq A)))/\L3 ta=some (.lst (sw.map zf)),?_,?_⟩
   ·cases A with
    |cu p0 q0 A0 B0=>
     refine qe g2 (qu g2 ⟨?_,?_⟩)
     ·have:=T.pc.length_eq;rw[Ac] at this;rw[Ae];exact big _ (by lia)
     ·exact⟨rfl,s3.upd hca0,(qa nlc).trans g1,by rw[q9];exact BG (fun l=>some (LO.lst l)) (m8 ct (p0,q0)),(qa (AH nct)).trans g3⟩
    |ei r0 A0=>exact⟨rfl,s3,g1,by rw[g2];simp[oq],g3⟩
    |bo r0 A0 B0=>exact⟨rfl,s3,g1,by rw[g2];simp[oq],g3⟩
    |link p0 q0=>exact⟨rfl,s3,g1,by rw[g2];simp[oq],g3⟩
   ·rintro τ' L3 ⟨rfl,s3,g1,g2,g3⟩;obtain⟨ys,e,esl⟩:∃ys,zf A=.tup ys/\r6 ys (some 2) none=lw A:=by cases A<;>exact⟨_,rfl,rfl⟩
    rw[e];have key:∀(zs:List Y) (keep:ql->Prop) (Q':YK),zs=lw A->keep L3->(∀p,L3 p=none->Q' (.ref p) (qd L3 p (.lst ((aD A).map zf))))->yw zs keep 1 (qg 5) (yB (aX iF.tuple (qb 5))) (qb 5) [some (zf R),some (Y.ref la),some (Y.ref ca),some (Y.ref ta),some (.tup ys)] L3 Q':=by
     rintro zs keep Q' rfl hk hq;refine aek ag3 ?_ hk (fun i y W us ey hW=>?_) (by rw[xM];exact hq)
     ·cases A<;>exact big _ (by simp[lw])
     ·rcases abh (AI ey) with⟨n,rfl⟩ | ⟨B,rfl⟩
      ·rw[vC] at hW;refine⟨_,ED _,?_⟩;simpa using hW
      ·rw[vV] at hW;cases B<;>exact⟨_,ED _,hW⟩
    refine qe g3 ?_;walk_at "w";refine⟨by cases A<;>(cases e;first | exact fun h=>absurd (show HT.sIx 3 0 (some 2)=0 from h.1) (by decide) | exact fun h=>absurd (show HT.sIx 4 0 (some 2)=0 from h.1) (by decide) | exact fun h=>absurd (show HT.sIx 5 0 (some 2)=0 from h.1) (by decide)),?_⟩;walk_at "w";refine key (r6 ys (some 2) none) (fun _=>True) _ esl trivial fun p hp=>?_;have ntp:ta≠p:=xo g3 hp;have nlp:la≠p:=xo g1 hp;have ncp:ca≠p:=xo g2 hp;have szs:=T.sz;have szA:=sD A;have sz1:=T1.sz;have lens:∀l:List Ru,l.length≤(l.map i9).sum:=fun l=>by induction l with|nil=>exact Am _|cons B r ih=>have:=ae9 B;simp;lia
    have l1:=lens (sw++aD A);refine qu ((qa ntp).trans g3) (qu q9 ⟨?_,?_⟩)
    ·rw[Ae,Ae];rw[Ac] at l1;exact BU (big _ (by lia))
    refine⟨_,ED _,((sw++aD A).map i9).sum,?_,lk++mK A,ct++oq A,sw++aD A,_,rfl,(s3.trans (By hp)).upd hta0,(qa nlt).trans ((qa nlp).trans g1),(qa nct).trans ((qa ncp).trans g2),?_,T1,rfl⟩
    ·simp;exact o8
    ·rw[q9,AC]
def oR(Ca:Addr)(p0:jj):kn:=(qt (zw (w5 qx) (qg 2))
 (qt (fD (vq (qb 1)) (wm 2 (zu (qg 3) (zu (qg 4) w4))) (va (yB (cR Ca "unite" p0 (qb 0) (aK (qb 3) (qb 4)))) (jm (aZ zq (qb 2) (qf (k6 (qf (fg "join") (aK (qb 3) (qb 4)))) qx))) x0))
 (jy (qb 2))))
def uX(Ca:Addr)(p0:jj)(p1:jj):kn:=(qt (zw (pY 1 (vq (zg p0 (qf (zr bz (qb 1) (qb 2)) qx))) (qg 4) oy (cR Ca "head_of" p1 (qb 0) (ki (qb 4)))) (qg 3))
 (jy (jV (zr (nX false) (xj 3 0) (xj 3 1)) (zr (nX true) (xj 3 0) (cR Ca "head_of" p1 (qb 0) (ki (qb 2)))))))
def oQ(Ca:Addr)(p0:jj)(p1:jj):kn:=(qt (zw (w5 qx) (qg 3))
 (qt (zw (yUn an9 (jx 1)) (qg 4))
 (qt (ld (yB (zr yLt (qb 4) (bO 3))) (qt (zw (bO 3) (qg 4))
 (fD (vq (qb 2)) (qg 5) (va (yB (zg p0 (qf (qb 0) (aK (qb 1) (qb 5))))) (qt (jm (cR Ca "unite" p1 (qb 0) (qf (qb 5) (qf (zr bz (zr bz (qb 1) (qb 5)) (jx 1)) qx))))
 (jm (aZ zq (qb 3) (qf (zD (fg "fold") (qb 5)) qx)))) x0))))
 (jy (qb 3)))))
def ug(Ca:Addr)(p0:jj)(p1:jj)(p2:jj):kn:=(qt (zw (vD Ca p0 (ki (bO 0))) (qg 3))
 (jy (zr vn (zg p1 (aK (qb 3) (qb 1))) (zg p2 (qf (qb 3) (aK (qb 0) (qb 2)))))))
def db(p0:jj)(p1:jj):kn:=(qt (zw (zr ga (gm ft (qf (zg p0 (ki (qb 0))) qx)) (jx 1)) (qg 3))
 (jy (jV (zr (nX false) (zr vn (bO 1) (bO 2)) (qb 3)) (zr (nX false) (gm ft (qf (zg p1 (qf (qb 0) (aK (qb 1) (qb 2)))) qx)) (qb 3)))))
def rK(p0:jj)(p1:jj)(p2:jj):kn:=(jy (zg p0 (qf (xj 0 0) (qf (zg p2 (ki (qb 0))) (qf (zg p1 (ki (qb 0))) qx)))))
def qO(p0:jj)(p1:jj)(p2:jj)(p3:jj):kn:=(qt (va (yB (zg p0 (ki (qb 0)))) (jy (yC .non)) x0)
 (qt (zw (xj 0 0) (qg 1))
 (qt (zw (zg p1 (ki (qb 0))) (qg 2))
 (qt (zw (zg p2 (ki (qb 0))) (qg 3))
 (qt (zw (w5 qx) (qg 4))
 (qt (fD (eX (qb 3)) (wm 2 (zu (qg 5) (zu (qg 6) w4))) (qt (zw (k6 (qf (qb 6) (qf (zr bz (zr bz (qb 1) (qb 6)) (jx 1)) qx))) (qg 7))
 (qt (zw (yIf (yB (zg p3 (qf (qb 1) (qf (zr vn (qb 2) (w5 (ki (qb 7)))) (qf (ySl ac7 (qb 3) (kK (zr vn (qb 5) (jx 1))) gD) qx))))) (jx 1) (jx 0)) (qg 8))
 (qt (jm (aZ zq (qb 4) (ki (qb 8))))
 (jm (aZ zq (qb 2) (qf (k6 (qf (qb 6) (qf (zr bz (zr bz (qb 1) (qb 6)) (zr vn (jx 1) (qb 8))) qx))) qx)))))))
 (jy (qb 4))))))))
def qA(hs:List Nat)(a b:Nat):Prop:=∃r,kj hs a r/\kj hs b r
def Mon(hs hs':List Nat):Prop:=∀a b,qA hs a b->qA hs' a b
theorem Mon.trans{a b c:List Nat}(h:Mon a b)(k:Mon b c):Mon a c:=fun x y z=>k x y (h x y z)
theorem jT(h:∀x s,kj hs x s->kj hs' x s):Mon hs hs':=fun _ _ ⟨r,p,q⟩=>⟨r,h _ _ p,h _ _ q⟩
theorem jQ{a b:Nat}(h:∀i s,kj hs i s->kj hs' i (if s=a then b else s)):Mon hs hs':=fun _ _ ⟨_,p,q⟩=>⟨_,h _ _ p,h _ _ q⟩
theorem ab0{a b p q:Nat}(h:∀i s,kj hs i s->kj hs' i (if s=a then b else s))(ta:kj hs p a)(tb:kj hs q b):qA hs' p q:=by
 have h1:=h _ _ ta;have h2:=h _ _ tb;rw[As rfl] at h1;refine⟨b,h1,?_⟩;by_cases c:b=a
 ·rw[As c] at h2;exact h2
 ·rw[Aq c] at h2;exact h2
theorem sS{a b ra rb:Nat}(h:∀x s,kj hs x s->kj hs' x s)(ta:kj hs a ra)(tb:kj hs b rb):qA hs' a b->qA hs a b:=fun⟨r,p,q⟩=>by have e1:=(h _ _ ta).uniq p;have e2:=(h _ _ tb).uniq q;exact⟨r,e1▸ta,e2▸tb⟩
def adq(ks:List (Option Kn))(hs es:List Nat):Prop:=∀p∈es,∀e i j,ks[p]?=some (some (.nd e i j))->qA hs i j->qA hs p i
structure Eqv(R:Nat->Nat->Prop):Prop where
 r:∀a,R a a
 s:∀{a b},R a b->R b a
 t:∀{a b c},R a b->R b c->R a c
def oX(R:Nat->Nat->Prop)(hs:List Nat):Prop:=∀a b,qA hs a b->R a b
theorem kj.lt{r:Nat}(h:kj hs i r):i<hs.length:=by cases h with|root e=>exact zm e|step e _ _=>exact zm e
theorem nV(hr:eG rk hs)(hl:hs'.length=hs.length)(h:∀x s,kj hs x s->kj hs' x s)(F:oX R hs):oX R hs':=fun x y ⟨r,p,q⟩=>by obtain⟨rx,tx⟩:=hr.rep' (i:=x) (by have:=p.lt;lia);obtain⟨ry,ty⟩:=hr.rep' (i:=y) (by have:=q.lt;lia);exact F x y (sS h tx ty ⟨r,p,q⟩)
theorem m9{a b p q:Nat}(hr:eG rk hs)(hl:hs'.length=hs.length)(h:∀i s,kj hs i s->kj hs' i (if s=a then b else s))(ta:kj hs p a)(tb:kj hs q b)(E:Eqv R)(hpq:R p q)(F:oX R hs):oX R hs':=fun x y ⟨r,px,qy⟩=>by
 obtain⟨rx,tx⟩:=hr.rep' (i:=x) (by have:=px.lt;lia);obtain⟨ry,ty⟩:=hr.rep' (i:=y) (by have:=qy.lt;lia);have e:=((h _ _ tx).uniq px).trans ((h _ _ ty).uniq qy).symm;have xp:rx=a->R x p:=fun z=>F x p ⟨a,z▸tx,ta⟩;have yp:ry=a->R y p:=fun z=>F y p ⟨a,z▸ty,ta⟩;by_cases c:rx=a
 ·by_cases d:ry=a
  ·exact E.t (xp c) (E.s (yp d))
  ·rw[As c,Aq d] at e;exact E.t (E.t (xp c) hpq) (F q y ⟨b,tb,e▸ty⟩)
 ·by_cases d:ry=a
  ·rw[Aq c,As d] at e;exact E.t (F x q ⟨b,e▸tx,tb⟩) (E.s (E.t (yp d) hpq))
  ·rw[Aq c,Aq d] at e;exact F x y ⟨rx,tx,e▸ty⟩
theorem lQ(E:Eqv R)(n:Nat):oX R (List.range n):=fun x y ⟨r,p,q⟩=>by have h:∀{i r:Nat},kj (List.range n) i r->r=i:=fun {i r} t=>t.of_top (Cd (by have:=t.lt;rwa[AX] at this));have e1:=h p;have e2:=h q;subst e1;rw[e2];exact E.r _
def JnR(hs hs':List Nat)(ps:List (Nat×Nat)):Prop:=Mon hs hs'/\(∀x∈ps,qA hs' x.1 x.2)/\∀R,Eqv R->(∀x∈ps,R x.1 x.2)->oX R hs->oX R hs'
def FoC(ks:List (Option Kn))(es:List Nat)(R:Nat->Nat->Prop):Prop:=∀p∈es,∀e i j,ks[p]?=some (some (.nd e i j))->R i j->R p i
def FoR(ks:List (Option Kn))(hs hs' es:List Nat):Prop:=Mon hs hs'/\∀R,Eqv R->FoC ks es R->oX R hs->oX R hs'
theorem JnR.snoc{hs2:List Nat}{ps:List (Nat×Nat)}{a b p q:Nat}(j:JnR hs hs' ps)(hr:eG rk hs')(hl:hs2.length=hs'.length)(h:∀i s,kj hs' i s->kj hs2 i (if s=a then b else s))(ta:kj hs' p a)(tb:kj hs' q b):JnR hs hs2 (ps++[(p,q)]):=by
 refine⟨j.1.trans (jQ h),fun x hx=>?_,fun R E c F=>m9 hr hl h ta tb E (c (p,q) (Ag _ (Au.mpr rfl))) (j.2.2 R E (fun x hx=>c x (Ap _ hx)) F)⟩;rcases Ak.mp hx with hx | hx
 ·exact jQ h _ _ (j.2.1 x hx)
 ·rw[Au.mp hx];exact ab0 h ta tb
def Gd(hs hs':List Nat):Prop:=hs'.length=hs.length/\∃rk,eG rk hs'
theorem aov:(100000:Nat)≤sizeLine:=by decide
def gf(C:Addr):jj:=fun ys L Q=>∃o hp j,∃hs:List Nat,∃ps:List (Nat×Nat),ys=[.ref o,.ref j]/\L o=some (.ins C (eW hp))/\L hp=some (.lst (nY hs))/\L j=some (.lst (za ps))/\j≠hp/\(∃rk,eG rk hs)/\(∀x∈ps,x.1<hs.length/\x.2<hs.length)/\ps.length≤10000/\
 ∀s zs hs',L s=none->Gd hs hs'->zs.length≤ps.length->zs.length+cQ hs'=cQ hs->JnR hs hs' ps->Q (.ref s) (qd (qd L hp (.lst (nY hs'))) s (.lst zs))
theorem wL :∀ys L Q,gf C ys L Q->xq (oR C (cf C)) 5 ys L Q:=by
 rintro ys L Q ⟨o,hp,j,hs,ps,rfl,ho,hhp,hj,hjp,hrk,hlt,hz,q⟩;intro s hs0;have hop:o≠hp:=acw ho hhp (fun e=>by cases e);have hos:o≠s:=xo ho hs0;have hps:hp≠s:=xo hhp hs0;have hjs:j≠s:=xo hj hs0;have fo:∀A Z,(qd (qd L hp A) s Z) o=some (.ins C (eW hp)):=fun A Z=>(qa hos).trans ((qa hop).trans ho);have fh:∀A Z,(qd (qd L hp A) s Z) hp=some A:=fun A Z=>(qa hps).trans q9;have fj:∀A Z,(qd (qd L hp A) s Z) j=some (.lst (za ps)):=fun A Z=>(qa hjs).trans ((qa hjp).trans hj);have e0:qd L s (.lst [])=qd (qd L hp (.lst (nY hs))) s (.lst []):=by rw[aR hhp]
 refine iq (ys:=za ps) (vi ((qa hjs).trans hj)) (fun i τ L'=>∃hs' zs c3 c4,τ=[some (.ref o),some (.ref j),some (.ref s),c3,c4]/\L'=qd (qd L hp (.lst (nY hs'))) s (.lst zs)/\Gd hs hs'/\zs.length≤i/\zs.length+cQ hs'=cQ hs/\JnR hs hs' (ps.take i)) ⟨hs,[],_,_,rfl,e0,⟨rfl,hrk⟩,Am _,C4 _,fun _ _ z=>z,(fun x hx=>by cases hx),fun _ _ _ F=>F⟩ ?_ ?_ ?_
 ·rintro i τ L' ⟨hs',zs,c3,c4,rfl,rfl,_⟩;rw[fj,qa hjs,hj]
 ·rintro i y τ L' hy ⟨hs',zs,c3,c4,rfl,rfl,⟨g1,rk,g2⟩,hzi,hrt,jn⟩;rw[Av] at hy;obtain⟨⟨p,q'⟩,ex,rfl⟩:=AE.mp hy;obtain⟨h1,h2⟩:=hlt _ (AI ex);have h1:p<hs.length:=h1;have h2:q'<hs.length:=h2;have hi:=zm ex;obtain⟨a,ta⟩:=g2.rep' (i:=p) (by lia);obtain⟨b,tb⟩:=g2.rep' (i:=q') (by lia);refine xx (fo _ _) ⟨rfl,eZ,o,hp,hs',p,q',a,b,_,_,rfl,rfl,rfl,fo _ _,fh _ _,⟨rk,g2⟩,ta,tb,by lia,by lia,fun hs2 l2 k2 r2 e1 e2=>?_⟩;rw[gg (AH hps),jc];have nw:JnR hs hs2 (ps.take (i+1)):=by
   have et:ps.take (i+1)=ps.take i++[(p,q')]:=by rw[Bo,ex];rfl
   rw[et];exact jn.snoc g2 l2 r2 ta tb
  by_cases c:a=b
  ·refine bT (by rw[AB c];rfl) ⟨_,ED _,hs2,zs,_,_,rfl,rfl,⟨by lia,k2⟩,by exact adf,by rw[e1 c];exact hrt,nw⟩
  ·refine lW (by rw[AA c];rfl) ?_;have:=e2 c;refine qe q9 (qu q9 ⟨Bf (by lia:zs.length≤10000) (by decide),_,ED _,hs2,zs++[_],_,_,rfl,jc,⟨by lia,k2⟩,?_,?_,nw⟩)
   ·rw[Ac,Bp];exact uH
   ·rw[Ac,Bp];lia
 ·rintro τ L' ⟨hs',zs,c3,c4,rfl,rfl,g,hzi,hrt,jn⟩;rw[Ae] at hzi jn;rw[Bn] at jn;exact xu (q s zs hs' hs0 g hzi hrt jn)
def lv(C:Addr):jj:=fun ys L Q=>∃o hp a,∃hs:List Nat,∃ks:List (Option Kn),∃p i j:Nat,∃e:Bool,∃pi:Int,ys=[.ref o,.ref a,.int pi]/\pi=(p:Int)/\L o=some (.ins C (eW hp))/\L hp=some (.lst (nY hs))/\L a=some (.lst (ak ks))/\a≠hp/\(∃rk,eG rk hs)/\
 ks[p]?=some (some (.nd e i j))/\p<hs.length/\i<hs.length/\j<hs.length/\
 ∀ri rj rp hs',kj hs i ri->kj hs j rj->kj hs p rp->Gd hs hs'->(∀x s,kj hs x s->kj hs' x s)->cQ hs'=cQ hs->Q (.bl (decide (ri=rj)&&!decide (ri=rp))) (qd L hp (.lst (nY hs')))
theorem vK(a b:Nat):decide ((a:Int)=(b:Int))=decide (a=b):=by
 by_cases c:a=b
 ·rw[AB c];exact AB (by lia)
 ·rw[AA c];exact AA (by lia)
theorem aa9 :∀ys L Q,lv C ys L Q->xq (uX C gC (f9 C)) 4 ys L Q:=by
 rintro ys L Q ⟨o,hp,a,hs,ks,p,i,j,e,pi,rfl,rfl,ho,hhp,ha,hap,⟨rk,hr⟩,ek,hp1,hi1,hj1,q⟩;have a1:dg (ak ks) (p:Int)=some (fB (some (.nd e i j))):=ve (by rw[Av,ek];rfl);obtain⟨ri,ti⟩:=hr.rep' hi1;obtain⟨rj,tj⟩:=hr.rep' hj1;obtain⟨rp,tp⟩:=hr.rep' hp1;refine qe ha (qm a1 ⟨some (.nd e i j),rfl,fun p2 hp2=>?_⟩);have hop:o≠hp:=acw ho hhp (fun e=>by cases e);have ho2:o≠p2:=xo ho hp2;have hh2:hp≠p2:=xo hhp hp2;have fo:∀A Z,(qd (qd L p2 Z) hp A) o=some (.ins C (eW hp)):=fun A Z=>(qa hop).trans ((qa ho2).trans ho);refine xz q9 fun keep kp=>oE ⟨by show 2<sizeLine;decide,fun k zs L'=>∃hs',L'=qd (qd L p2 (.lst (nY [i,j]))) hp (.lst (nY hs'))/\hs'.length=hs.length/\eG rk hs'/\(∀x s,kj hs x s->kj hs' x s)/\cQ hs'=cQ hs/\zs=nY ([ri,rj].take k),⟨hs,?_,rfl,hr,fun _ _ h=>h,rfl,rfl⟩,?_,?_,?_⟩
 ·exact(aR ((qa hh2).trans hhp)).symm
 ·rintro k zs L' ⟨hs',rfl,_⟩;exact kp _ (by rw[qa (AH hh2)];rfl)
 ·rintro k y zs L' hy ⟨hs',rfl,l1,k1,t1,n1,rfl⟩;obtain⟨n,en,rfl⟩:=bP hy;have hn:n<hs.length/\∃rn,kj hs n rn/\nY ([ri,rj].take k)++[.int (rn:Int)]=nY ([ri,rj].take (k+1)):=by
   match k,en with
   |0,en=>cases en;exact⟨hi1,ri,ti,rfl⟩
   |1,en=>cases en;exact⟨hj1,rj,tj,rfl⟩
  obtain⟨hn,rn,tn,ezs⟩:=hn;refine xx (fo _ _) ⟨rfl,aP,o,hp,hs',n,_,rk,rfl,rfl,fo _ _,q9,k1,by lia,fun r hs2 l2 k2 t2 a2 n2=>?_⟩;cases t2.uniq (t1 _ _ tn);exact⟨_,ED _,hs2,jc,by lia,k2,fun x s z=>a2 x s (t1 x s z),by lia,ezs⟩
 ·rintro zs L' ⟨hs',rfl,l1,k1,t1,n1,rfl⟩ p3 hp3;have hp3':L p3=none:=aq (By hp2) (j8 hp3);have ne3:hp≠p3:=xo q9 hp3;have f0:dg (nY ([ri,rj].take (nY (aG (some (Kn.nd e i j)))).length)) 0=some (.int (ri:Int)):=rfl;have f1:dg (nY ([ri,rj].take (nY (aG (some (Kn.nd e i j)))).length)) 1=some (.int (rj:Int)):=rfl;refine qe q9 (qm f0 (qe q9 (qm f1 ?_)));have fo3:∀Z,(qd (qd (qd L p2 (.lst (nY [i,j]))) hp (.lst (nY hs'))) p3 Z) o=some (.ins C (eW hp)):=fun Z=>(qa (xo (fo _ _) hp3)).trans (fo _ _);have sub:∀(hs2:List Nat) Z,qk (qd L hp (.lst (nY hs2))) (qd (qd (qd (qd L p2 (.lst (nY [i,j]))) hp (.lst (nY hs'))) p3 Z) hp (.lst (nY hs2))):=fun hs2 Z b u e=>by
   by_cases c:b=hp
   ·subst c;rw[q9] at e ⊢;exact e
   ·rw[qa c] at e;rw[qa c,qa (xo e hp3'),qa c,qa (xo e hp2)];exact e
  show ke (decide ((ri:Int)=(rj:Int))) _ _;rw[vK];refine ju (fun c=>?_) (fun c=>?_)
  ·refine qe q9 (qm f0 ?_);refine xx (fo3 _) ⟨rfl,aP,o,hp,hs',p,_,rk,rfl,rfl,fo3 _,(qa ne3).trans q9,k1,by lia,fun r hs2 l2 k2 t2 a2 n2=>?_⟩;cases t2.uniq (t1 _ _ tp);show iY Q (.bl (!decide ((ri:Int)=(rp:Int)))) _;rw[vK];have:=q ri rj rp hs2 ti tj tp ⟨by lia,rk,k2⟩ (fun x s z=>a2 x s (t1 x s z)) (by lia);rw[AB c,DE] at this;exact eY (sub hs2 _) this
  ·have:=q ri rj rp hs' ti tj tp ⟨by lia,rk,k1⟩ t1 n1;rw[AA c,Bool.false_and] at this;refine eY (L:=qd L hp (.lst (nY hs'))) (fun b u eb=>?_) this;have z:=sub hs' (.lst (nY ([ri,rj].take (nY (aG (some (Kn.nd e i j)))).length))) b u;have e2:qd (qd (qd (qd L p2 (.lst (nY [i,j]))) hp (.lst (nY hs'))) p3 (.lst (nY ([ri,rj].take (nY (aG (some (Kn.nd e i j)))).length)))) hp (.lst (nY hs'))=qd (qd (qd L p2 (.lst (nY [i,j]))) hp (.lst (nY hs'))) p3 (.lst (nY ([ri,rj].take (nY (aG (some (Kn.nd e i j)))).length))):=aR ((qa ne3).trans q9);rw[e2] at z;exact z eb
def amm(ks:List (Option Kn))(n p:Nat):Prop:=∃e i j,ks[p]?=some (some (.nd e i j))/\p<n/\i<n/\j<n
def hJ(C:Addr):jj:=fun ys L Q=>∃o hp a b,∃hs:List Nat,∃ks:List (Option Kn),∃es:List Nat,ys=[.ref o,.ref a,.ref b]/\L o=some (.ins C (eW hp))/\L hp=some (.lst (nY hs))/\L a=some (.lst (ak ks))/\L b=some (.lst (nY es))/\a≠hp/\b≠hp/\(∃rk,eG rk hs)/\(∀p∈es,amm ks hs.length p)/\hs.length≤1000/\
 ∀s zs hs',L s=none->Gd hs hs'->zs.length+cQ hs'=cQ hs->(FoR ks hs hs' es/\adq ks hs' es)->Q (.ref s) (qd (qd L hp (.lst (nY hs'))) s (.lst zs))
theorem abg(hs:List Nat):cQ hs≤hs.length:=by unfold cQ;exact AL (List.countP_le_length) (by rw[AX];simp +arith only)
theorem yV :∀ys L Q,hJ C ys L Q->xq (oQ C (lv C) (cf C)) 6 ys L Q:=by
 rintro ys L Q ⟨o,hp,a,b,hs,ks,es,rfl,ho,hhp,ha,hb,hap,hbp,hrk,hes,hlen,q⟩;intro s hs0;have hop:o≠hp:=acw ho hhp (fun e=>by cases e);have hos:o≠s:=xo ho hs0;have hps:hp≠s:=xo hhp hs0;have fo:∀A Z,(qd (qd L hp A) s Z) o=some (.ins C (eW hp)):=fun A Z=>(qa hos).trans ((qa hop).trans ho);have fh:∀A Z,(qd (qd L hp A) s Z) hp=some A:=fun A Z=>(qa hps).trans q9;have fa:∀A Z,(qd (qd L hp A) s Z) a=some (.lst (ak ks)):=fun A Z=>(qa (xo ha hs0)).trans ((qa hap).trans ha);have fb:∀A Z,(qd (qd L hp A) s Z) b=some (.lst (nY es)):=fun A Z=>(qa (xo hb hs0)).trans ((qa hbp).trans hb);have e0:qd L s (.lst [])=qd (qd L hp (.lst (nY hs))) s (.lst []):=by rw[aR hhp]
 refine⟨fun m τ L'=>∃hs' zs,∃bf:Int,∃c5,τ=[some (.ref o),some (.ref a),some (.ref b),some (.ref s),some (.int bf),c5]/\L'=qd (qd L hp (.lst (nY hs'))) s (.lst zs)/\Gd hs hs'/\zs.length+cQ hs'=cQ hs/\(FoR ks hs hs' es/\(bf<(zs.length:Int)\/adq ks hs' es))/\m=2*cQ hs'+(if bf<(zs.length:Int) then 1 else 0),⟨_,hs,[],-1,_,rfl,e0,⟨rfl,hrk⟩,C4 _,⟨⟨fun _ _ z=>z,fun _ _ _ F=>F⟩,.inl (by decide)⟩,rfl⟩,?_⟩;rintro m τ L' ⟨hs',zs,bf,c5,rfl,rfl,g,hrt,⟨mo,sh⟩,rfl⟩;refine qe q9 ?_;show ke (decide (bf<(zs.length:Int))) _ _;refine ju (fun c=>?_) (fun c=>xu (q s zs hs' hs0 g hrt ⟨mo,sh.resolve_left c⟩));refine⟨_,fun _ _ h=>h,qe q9 ?_⟩;refine iq (ys:=nY es) (vi (fb _ _)) (fun i τ L'=>∃hs2 zs2 c5,τ=[some (.ref o),some (.ref a),some (.ref b),some (.ref s),some (.int (zs.length:Int)),c5]/\L'=qd (qd L hp (.lst (nY hs2))) s (.lst zs2)/\Gd hs hs2/\zs2.length+cQ hs2=cQ hs/\zs.length≤zs2.length/\(FoR ks hs hs2 es/\(zs.length<zs2.length\/adq ks hs2 (es.take i)))) ⟨hs',zs,_,rfl,rfl,g,hrt,Am _,mo,.inr fun p hp=>by cases hp⟩ ?_ ?_ ?_
 ·rintro i τ L' ⟨hs2,zs2,c5,rfl,rfl,_⟩;rw[fb,fb]
 ·rintro i y τ L' hy ⟨hs2,zs2,c5,rfl,rfl,⟨g1,rk,g2⟩,hrt2,hzz,mo2,sh2⟩;obtain⟨p,ep,rfl⟩:=bP hy;obtain⟨e,i',j',ek,h1,h2,h3⟩:=hes p (AI ep);have a1:dg (ak ks) (p:Int)=some (fB (some (.nd e i' j'))):=ve (by rw[Av,ek];rfl);refine⟨o,hp,a,hs2,ks,p,i',j',e,_,rfl,rfl,fo _ _,fh _ _,fa _ _,hap,⟨rk,g2⟩,ek,by lia,by lia,by lia,fun ri rj rp hs3 ti tj tp ⟨l3,k3⟩ t3 n3=>?_⟩;rw[gg (AH hps),jc];cases cc:(decide (ri=rj)&&!decide (ri=rp)) with
  |false=>
   refine⟨_,ED _,hs3,zs2,_,rfl,rfl,⟨by lia,k3⟩,by lia,hzz,⟨mo2.1.trans (jT t3),fun R E c F=>nV g2 l3 t3 (mo2.2 R E c F)⟩,sh2.imp id fun sh=>?_⟩;have et:es.take (i+1)=es.take i++[p]:=by rw[Bo,ep];rfl
   rw[et];intro x hx f u v ex cx;rcases Ak.mp hx with hx | hx
   ·obtain⟨f',u',v',ex',_,hu,hv⟩:=hes x (Bz hx);rw[ex] at ex';cases ex';obtain⟨ru,tu⟩:=g2.rep' (i:=u) (by lia);obtain⟨rv,tv⟩:=g2.rep' (i:=v) (by lia);exact jT t3 _ _ (sh x hx f u v ex (sS t3 tu tv cx))
   ·rw[Au.mp hx] at ex ⊢;rw[ek] at ex;cases ex;obtain⟨r,c3,c4⟩:=cx;have e5:=(t3 _ _ ti).uniq c3;have e6:=(t3 _ _ tj).uniq c4;rw[AB (e5.trans e6.symm),DE] at cc;by_cases e7:ri=rp
    ·exact⟨ri,e7▸t3 _ _ tp,t3 _ _ ti⟩
    ·rw[AA e7] at cc;cases cc
  |true=>
   have c2:ri≠rp:=by have:=(AR _ _▸cc).2;intro z;rw[AB z] at this;cases this
   refine xx (fo _ _) ⟨rfl,eZ,qe (fa _ _) (qm a1 ⟨o,hp,hs3,p,i',rp,ri,_,_,rfl,rfl,rfl,fo _ _,fh _ _,k3,t3 _ _ tp,t3 _ _ ti,by lia,by lia,fun hs4 l4 k4 r4 e1 e2=>?_⟩)⟩;rw[gg (AH hps),jc];have e3:=e2 (AH c2);have hb2:=abg hs;refine qe q9 (qu q9 ⟨Bf (by lia:zs2.length≤1000) (by decide),_,ED _,hs4,zs2++[_],_,rfl,jc,⟨by lia,k4⟩,?_,?_,⟨(mo2.1.trans (jT t3)).trans (jQ r4),fun R E c F=>?_⟩,.inl (by rw[Ac,Bp];exact uH)⟩)
   ·rw[Ac,Bp];lia
   ·rw[Ac,Bp];exact adf
   ·obtain⟨rk3,k3'⟩:=k3;have F3:=nV g2 l3 t3 (mo2.2 R E c F);have c1:ri=rj:=of_decide_eq_true (AR _ _▸cc).1;exact m9 k3' l4 r4 (t3 _ _ tp) (t3 _ _ ti) E (c p (AI ep) e i' j' ek (F3 _ _ ⟨ri,t3 _ _ ti,c1▸t3 _ _ tj⟩)) F3
 ·rintro τ L' ⟨hs2,zs2,c5,rfl,rfl,g2,hrt2,hzz,mo2,sh2⟩;rw[kq,Bn] at sh2;refine⟨_,ED _,2*cQ hs2+(if ((zs.length:Nat):Int)<(zs2.length:Int) then 1 else 0),?_,hs2,zs2,_,_,rfl,rfl,g2,hrt2,⟨mo2,sh2.imp (fun z=>by lia) id⟩,rfl⟩;rw[As c];split<;>lia
theorem xH{b:Bool}{A B:Prop}(h1:A)(h2:B):ke b A B:=by cases b<;>assumption
theorem sT(n:Nat):eG (fun _=>0) (List.range n):=fun i h e=>by
 have hi:i<n:=by have:=zm e;rwa[AX] at this
 rw[Cd hi] at e;cases e;exact⟨by rw[AX];exact hi,fun z=>absurd rfl z⟩
theorem xA(n:Nat):cQ (List.range n)=n:=by unfold cQ;rw[AX];refine Eq.trans (Cw.mpr fun i hi=>?_) AX;exact AB (Cd (AF.mp hi))
theorem xU :(aH ks lk ct).length≤lk.length+ct.length+2*ks.length:=by unfold aH;rw[Ac,Ac];have h1:=dW ks (jt false ks);have h2:(jt false ks).length≤ks.length:=bR (jo false) ks ks.length;lia
def qC:Ru->Nat
 |.link _ _=>0
 |.ei _ A=>qC A
 |.bo _ A B=>qC A+qC B+1
 |.cu _ _ A B=>qC A+qC B
def qE:Ru->Nat
 |.link _ _=>0
 |.ei _ A=>qE A+1
 |.bo _ A B=>qE A+qE B
 |.cu _ _ A B=>qE A+qE B
theorem vo:∀R:Ru,(jd R).length+(jr R).length+2*qC R+qE R+1=(z9 R).length
 |.link p q=>rfl
 |.ei r A=>by have:=vo A;show(jd A).length+(jr A).length+2*qC A+(qE A+1)+1=(z9 A).length+1;lia
 |.bo r A B=>by have:=vo A;have:=vo B;show(jd A++jd B).length+(jr A++jr B).length+2*(qC A+qC B+1)+(qE A+qE B)+1=(r::(z9 A++z9 B)).length;rw[Ac,Ac,AD,Ac];lia
 |.cu p q A B=>by have:=vo A;have:=vo B;show(jd A++jd B).length+((p,q)::(jr A++jr B)).length+2*(qC A+qC B)+(qE A+qE B)+1=(z9 A++z9 B).length;rw[Ac,AD,Ac,Ac];lia
def amq(b:Bool):Option Kn->Bool
 |some (.nd e _ _)=>decide (e=b)
 |_=>false
theorem SR.kinds{ks:List Kn}{R:Ru}{E:List Nat}(h:SR ks R E):(z9 R).countP (fun p=>amq false ks[p]?)=qC R/\(z9 R).countP (fun p=>amq true ks[p]?)=qE R:=by
 induction h with
 |@link p q t n E' _ h2 h3 _ _=>
  constructor<;>(show List.countP _ [p,q]=0;rw[Bh,Bh,List.countP_nil];simp only[h2,h3];rfl)
 |@ei r i j A EA E' h1 _ _ _ _ _ _ ih=>
  constructor
  ·show List.countP _ (r::z9 A)=qC A;rw[Bh,ih.1];simp only[h1];rfl
  ·show List.countP _ (r::z9 A)=qE A+1;rw[Bh,ih.2];simp only[h1];rfl
 |@bo r i j A B EA EB E' h1 _ _ _ _ _ _ ih1 ih2=>
  constructor
  ·show List.countP _ (r::(z9 A++z9 B))=qC A+qC B+1;rw[Bh,CS,ih1.1,ih2.1];simp only[h1];rfl
  ·show List.countP _ (r::(z9 A++z9 B))=qE A+qE B;rw[Bh,CS,ih1.2,ih2.2];simp only[h1];rfl
 |@cu p q A B EA EB E' w _ _ _ _ _ _ _ _ ih1 ih2=>
  constructor
  ·show List.countP _ (z9 A++z9 B)=qC A+qC B;rw[CS,ih1.1,ih2.1]
  ·show List.countP _ (z9 A++z9 B)=qE A+qE B;rw[CS,ih1.2,ih2.2]
theorem SR.one{ks:List Kn}{R:Ru}{E:List Nat}(h:SR ks R E){T:Nat->Nat->Prop}(sy:∀a b,T a b->T b a)(tr:∀a b c,T a b->T b c->T a c)(rf:∀a,T a a)
 (hl:∀x∈jd R,T x.1 x.2) (hc:∀x∈jr R,T x.1 x.2) (hb:∀r∈z9 R,∀i j,ks[r]?=some (.nd false i j)->T r i/\T r j)
 (he:∀r∈z9 R,∀i j,ks[r]?=some (.nd true i j)->T i j->T r i\/T r j):∀a∈z9 R,∀b∈z9 R,T a b:=by
 have star:∀{l:List Nat} {c:Nat},(∀x∈l,T c x)->∀a∈l,∀b∈l,T a b:=fun h a ha b hb=>tr _ _ _ (sy _ _ (h a ha)) (h b hb)
 induction h with
 |@link p q t n E' _ _ _ _ _=>
  have e:T p q:=hl (p,q) (Au.mpr rfl);refine star (c:=p) fun x hx=>?_;rcases Ar.mp hx with rfl | hx
  ·exact rf _
  ·rw[Au.mp hx];exact e
 |@ei r i j A EA E' h1 hA h3 h4 _ _ _ ih=>
  have one:=ih hl hc (fun r hr=>hb r (Ah _ hr)) (fun r hr=>he r (Ah _ hr));have mi:=hA.sub i h3;have mj:=hA.sub j h4;have ij:=one i mi j mj;have ri:T r i:=(he r (An ..) i j h1 ij).elim id fun h=>tr _ _ _ h (sy _ _ ij);refine star (c:=r) fun x hx=>?_;rcases Ar.mp hx with rfl | hx
  ·exact rf _
  ·exact tr _ _ _ ri (one i mi x hx)
 |@bo r i j A B EA EB E' h1 hA hB h4 h5 _ _ ih1 ih2=>
  have mA:∀{x},x∈z9 A->x∈z9 (.bo r A B):=fun h=>Ah _ (Ap _ h);have mB:∀{x},x∈z9 B->x∈z9 (.bo r A B):=fun h=>Ah _ (Ag _ h);have oA:=ih1 (fun x hx=>hl x (Ap _ hx)) (fun x hx=>hc x (Ap _ hx)) (fun r hr=>hb r (mA hr)) (fun r hr=>he r (mA hr));have oB:=ih2 (fun x hx=>hl x (Ag _ hx)) (fun x hx=>hc x (Ag _ hx)) (fun r hr=>hb r (mB hr)) (fun r hr=>he r (mB hr));obtain⟨ri,rj⟩:=hb r (An ..) i j h1;refine star (c:=r) fun x hx=>?_;rcases Ar.mp hx with rfl | hx
  ·exact rf _
  ·rcases Ak.mp hx with hx | hx
   ·exact tr _ _ _ ri (oA i (hA.sub i h4) x hx)
   ·exact tr _ _ _ rj (oB j (hB.sub j h5) x hx)
 |@cu p q A B EA EB E' w hA hB h3 h4 _ _ _ _ ih1 ih2=>
  have mA:∀{x},x∈z9 A->x∈z9 (.cu p q A B):=fun h=>Ap _ h;have mB:∀{x},x∈z9 B->x∈z9 (.cu p q A B):=fun h=>Ag _ h;have oA:=ih1 (fun x hx=>hl x (Ap _ hx)) (fun x hx=>hc x (Ah _ (Ap _ hx))) (fun r hr=>hb r (mA hr)) (fun r hr=>he r (mA hr));have oB:=ih2 (fun x hx=>hl x (Ag _ hx)) (fun x hx=>hc x (Ah _ (Ag _ hx))) (fun r hr=>hb r (mB hr)) (fun r hr=>he r (mB hr));have pq:T p q:=hc (p,q) (An ..);have mp:=hA.sub p h3;have mq:=hB.sub q h4;refine star (c:=p) fun x hx=>?_;rcases Ak.mp hx with hx | hx
  ·exact oA p mp x hx
  ·exact tr _ _ _ pq (oB q mq x hx)
def rq(m:Nat->Nat)(e:Nat×Nat):Nat->Nat:=fun x=>if m x=m e.1 then m e.2 else m x
def f7(es:List (Nat×Nat))(m:Nat->Nat):Nat->Nat:=es.foldl rq m
def fM(n:Nat)(m:Nat->Nat):Nat:=(List.range n).countP fun x=>decide (m x=x)
def Mk(n:Nat)(m:Nat->Nat):Prop:=∀x,x<n->m x<n/\m (m x)=m x
theorem Mk.step{m:Nat->Nat}{e:Nat×Nat}(h:Mk n m)(h1:e.1<n)(h2:e.2<n):Mk n (rq m e):=fun x hx=>by
 obtain⟨a1,a2⟩:=h _ h2;obtain⟨b1,b2⟩:=h _ hx;unfold rq;by_cases c:m x=m e.1
 ·rw[As c];refine⟨a1,?_⟩;rw[a2,ite_self]
 ·rw[Aq c];refine⟨b1,?_⟩;rw[b2,Aq c]
theorem aju{m:Nat->Nat}{e:Nat×Nat}{x y:Nat}(h:m x=m y):rq m e x=rq m e y:=by unfold rq;rw[h]
theorem alz(m:Nat->Nat)(e:Nat×Nat):rq m e e.1=rq m e e.2:=by
 unfold rq;rw[As rfl];by_cases c:m e.2=m e.1
 ·rw[As c]
 ·rw[Aq c]
theorem zU:∀(es:List (Nat×Nat)) {m:Nat->Nat} {x y:Nat},m x=m y->f7 es m x=f7 es m y
 |[],_,_,_,h=>h
 |e::r,m,_,_,h=>zU r (m:=rq m e) (aju h)
theorem ol:∀(es:List (Nat×Nat)) (m:Nat->Nat),∀e∈es,f7 es m e.1=f7 es m e.2
 |[],_,e,h=>by cases h
 |d::r,m,e,h=>by
  rcases Ar.mp h with rfl | h
  ·exact zU r (alz m e)
  ·exact ol r (rq m d) e h
theorem ac3{m:Nat->Nat}{e:Nat×Nat}(c:m e.1=m e.2):fM n (rq m e)=fM n m:=by
 have:rq m e=m:=funext fun x=>by
  unfold rq;by_cases d:m x=m e.1
  ·rw[As d,d,c]
  ·rw[Aq d]
 rw[this]
theorem ack{m:Nat->Nat}{e:Nat×Nat}(h:Mk n m)(h1:e.1<n)(h2:e.2<n)(c:m e.1≠m e.2):fM n (rq m e)+1=fM n m:=by
 obtain⟨a1,a2⟩:=h _ h1;have b:=bZ (p:=fun x=>decide (m x=x)) (a:=m e.1) (AB a2) (l:=List.range n) Bw (AF.mpr a1);unfold fM;rw[<-b];congr 1;refine BR fun x hx=>?_;have hx:=AF.mp hx;rw[AR,BK,BK,Bool.not_eq_true',decide_eq_false_iff_not];unfold rq;constructor
 ·intro z;by_cases d:m x=m e.1
  ·rw[As d] at z;rw[<-z,(h _ h2).2] at d;exact absurd d.symm c
  ·rw[Aq d] at z;exact⟨z,fun y=>d (by rw[y,a2])⟩
 ·rintro⟨z,y⟩;rw[Aq fun d=>y (z.symm.trans d)];exact z
theorem qK:∀(es:List (Nat×Nat)) {n:Nat} {m:Nat->Nat},Mk n m->(∀e∈es,e.1<n/\e.2<n)->fM n m≤fM n (f7 es m)+es.length/\(fM n (f7 es m)+es.length≤fM n m->∀i e,es[i]?=some e->f7 (es.take i) m e.1≠f7 (es.take i) m e.2)
 |[],n,m,_,_=>⟨Am _,fun _ i e h=>by simp at h⟩
 |d::r,n,m,h,hb=>by
  obtain⟨d1,d2⟩:=hb d (An ..);obtain⟨i1,i2⟩:=qK r (h.step d1 d2) fun e he=>hb e (Ah _ he);have eq:f7 (d::r) m=f7 r (rq m d):=rfl;rw[eq,AD];by_cases c:m d.1=m d.2
  ·have s:=ac3 (n:=n) c;exact⟨by lia,fun z=>by lia⟩
  ·have s:=ack h d1 d2 c;refine⟨by lia,fun z i e he=>?_⟩;cases i with|zero=>cases he;exact c|succ i=>exact i2 (by lia) i e he
theorem amf(n:Nat):Mk n id:=fun _ h=>⟨h,rfl⟩
theorem ah8(n:Nat):fM n id=n:=by unfold fM;refine Eq.trans (Cw.mpr fun i _=>AB rfl) AX
theorem af0{es:List (Nat×Nat)}{th:Nat->Bool}(hb:∀e∈es,e.1<n/\e.2<n)
 (one:∀T:Nat->Nat->Prop,(∀a,T a a)->(∀a b,T a b->T b a)->(∀a b c,T a b->T b c->T a c)->(∀e∈es,T e.1 e.2)->∀a b,a<n->b<n->th a=true->th b=true->T a b)
 (cnt:es.length+1=(List.range n).countP th):∀i e,es[i]?=some e->f7 (es.take i) id e.1≠f7 (es.take i) id e.2:=by
 refine(qK es (amf n) hb).2 ?_;rw[ah8];have all:=one (fun a b=>f7 es id a=f7 es id b) (fun _=>rfl) (fun _ _ h=>h.symm) (fun _ _ _ h k=>h.trans k) (ol es id);have split:fM n (f7 es id)≤(List.range n).countP (fun x=>!th x)+1:=by
  have e:fM n (f7 es id)=(List.range n).countP (fun x=>decide (f7 es id x=x)&&th x)+(List.range n).countP (fun x=>decide (f7 es id x=x)&&!th x):=by unfold fM;exact(List.range n).rec rfl fun x r ih=>by rw[Bh,Bh,Bh,ih];cases th x<;>cases decide (f7 es id x=x)<;>simp<;>lia
  have l1:(List.range n).countP (fun x=>decide (f7 es id x=x)&&!th x)≤(List.range n).countP (fun x=>!th x):=List.countP_mono_left fun x _ h=>(Dk.mp h).2;have l2:(List.range n).countP (fun x=>decide (f7 es id x=x)&&th x)≤1:=by
   rw[Cs];have nd:((List.range n).filter fun x=>decide (f7 es id x=x)&&th x).Nodup:=Bw.filter _;have same:∀a∈(List.range n).filter (fun x=>decide (f7 es id x=x)&&th x),∀b∈(List.range n).filter (fun x=>decide (f7 es id x=x)&&th x),a=b:=fun a ha b hb=>by obtain⟨a1,a2⟩:=Br.mp ha;obtain⟨b1,b2⟩:=Br.mp hb;rw[AR,BK] at a2 b2;rw[<-a2.1,<-b2.1];exact all a b (AF.mp a1) (AF.mp b1) a2.2 b2.2
   generalize (List.range n).filter (fun x=>decide (f7 es id x=x)&&th x)=l at nd same
   match l,nd,same with
   |[],_,_=>exact Bl _
   |[_],_,_=>exact Am _
   |a::b::_,nd,same=>exact absurd (same a (An ..) b (Ah _ (An ..))) fun e=>(Aw.mp nd).1 (e▸An ..)
  lia
 have tot:(List.range n).countP th+(List.range n).countP (fun x=>!th x)=n:=by
  have:=List.length_eq_countP_add_countP th (l:=List.range n);rw[AX] at this;have e:(fun x=>!th x)=fun a=>decide ¬th a=true:=funext fun x=>by cases th x<;>rfl
  rw[e];exact this.symm
 lia
def wx(lk:List (Nat×Nat)):List Nat:=lk.flatMap fun x=>[x.1,x.2]
theorem bL(a b:List (Nat×Nat)):wx (a++b)=wx a++wx b:=by unfold wx;rw[AN]
theorem sR(x:Nat×Nat):wx [x]=[x.1,x.2]:=by simp[wx]
theorem uQ{f:Option Kn->Bool}{p:Nat}{k:Option Kn}(h:ks[p]?=some k)(hf:f k=true)(hi:p<i):p∈bE f ks i:=by unfold bE;refine Br.mpr ⟨AF.mpr hi,?_⟩;simp only[h];exact hf
theorem dH{c:Nat×Nat}(h:c∈ct):c.1∈wx ct/\c.2∈wx ct:=by
 induction ct with
 |nil=>cases h
 |cons d r ih=>
  have e:wx (d::r)=[d.1,d.2]++wx r:=by rw[<-sR,<-bL];rfl
  rw[e];rcases Ar.mp h with rfl | h
  ·simp
  ·obtain⟨a,b⟩:=ih h;exact⟨Ag _ a,Ag _ b⟩
theorem ad1(f:Option Kn->Bool)(wd:List (Option Kn))(n:Nat):(bE f wd n).Nodup:=by unfold bE;exact Bw.filter _
theorem lV{f:Nat->Nat}:∀{l:List Nat},l.Nodup->(∀a∈l,∀b∈l,f a=f b->a=b)->(l.map f).Nodup
 |[],_,_=>C7
 |a::r,h,g=>by obtain⟨h1,h2⟩:=Aw.mp h;rw[AG,Aw];refine⟨fun z=>?_,lV h2 fun x hx y hy=>g x (Ah _ hx) y (Ah _ hy)⟩;obtain⟨b,hb,e⟩:=Bq.mp z;exact h1 (g b (Ah _ hb) a (An ..) e▸hb)
structure cr(wd:List (Option Kn))(lk ct:List (Nat×Nat)):Prop where
 ex:∃(ks:List Kn) (R:Ru) (E:List Nat) (f:Nat->Nat),dk ks/\SR ks R E/\(z9 R).Perm (List.range ks.length)/\ks.length≤120/\Ren f (ks.map some) wd/\lk.Perm ((jd R).map (mmP f))/\ct.Perm ((jr R).map (ppP f))
theorem oO{ks:List Kn}{p:Nat}{k:Kn}(h:ks[p]?=some k):(ks.map some)[p]?=some (some k):=by rw[Av,h];rfl
theorem tZ{p:Nat}:p∈zb wd↔∃k,wd[p]?=some (some k):=by
 constructor
 ·intro h;obtain⟨_,k,e,hb⟩:=cD h;cases k with
  |none=>cases hb
  |some k=>exact⟨k,e⟩
 ·rintro⟨k,e⟩;exact uQ e rfl (zm e)
theorem cr.one(W:cr wd lk ct){T:Nat->Nat->Prop}(rf:∀a,T a a)(sy:∀a b,T a b->T b a)(tr:∀a b c,T a b->T b c->T a c)
 (hl:∀x∈lk,T x.1 x.2) (hc:∀x∈ct,T x.1 x.2) (hb:∀r i j,wd[r]?=some (some (.nd false i j))->T r i/\T r j)
 (he:∀r i j,wd[r]?=some (some (.nd true i j))->T i j->T r i\/T r j):∀a∈zb wd,∀b∈zb wd,T a b:=by
 obtain⟨ks,R,E,f,ok,SRh,tp,hk,rn,pl,pc⟩:=W.ex;have kt:∀{r k},ks[r]?=some k->wd[f r]?=some (e9 f (some k)):=fun {r k} h=>rn.gap.at_ r (AF.mpr (by rw[Ae];exact zm h)) _ (oO h);have all:=SRh.one (T:=fun a b=>T (f a) (f b)) (fun _ _ h=>sy _ _ h) (fun _ _ _ h k=>tr _ _ _ h k) (fun _=>rf _) (fun x hx=>?_) (fun x hx=>?_) (fun r _ i j h=>?_) (fun r _ i j h=>?_)
 ·intro a ha b hb;have im:∀{a},a∈zb wd->∃p∈z9 R,a=f p:=fun {a} ha=>by obtain⟨k,e⟩:=tZ.mp ha;obtain⟨p,hp,rfl⟩:=rn.gap.only a k e;rw[Ae] at hp;exact⟨p,tp.mem_iff.mpr hp,rfl⟩
  obtain⟨p,hp,rfl⟩:=im ha;obtain⟨q,hq,rfl⟩:=im hb;exact all p hp q hq
 ·have:=hl _ (pl.mem_iff.mpr (Bq.mpr ⟨x,hx,rfl⟩));have this:T (min (f x.1) (f x.2)) (max (f x.1) (f x.2)):=this;by_cases c:f x.1≤f x.2
  ·rw[Cr c,Dg c] at this;exact this
  ·rw[Nat.min_eq_right (by lia),Dm (by lia)] at this;exact sy _ _ this
 ·exact hc _ (pc.mem_iff.mpr (Bq.mpr ⟨x,hx,rfl⟩))
 ·exact hb _ _ _ (kt h)
 ·exact he _ _ _ (kt h)
theorem cr.count(W:cr wd lk ct):lk.length+ct.length+2*(jt false wd).length+(jt true wd).length+1=(zb wd).length:=by
 obtain⟨ks,R,E,f,ok,SRh,tp,hk,rn,pl,pc⟩:=W.ex;have kt:∀{r k},ks[r]?=some k->wd[f r]?=some (e9 f (some k)):=fun {r k} h=>rn.gap.at_ r (AF.mpr (by rw[Ae];exact zm h)) _ (oO h);have inj:∀p q,p<ks.length->q<ks.length->f p=f q->p=q:=fun p q hp hq e=>rn.gap.inj p (AF.mpr (by rw[Ae];exact hp)) q (AF.mpr (by rw[Ae];exact hq)) e;have only:∀x k,wd[x]?=some (some k)->∃p,p<ks.length/\x=f p:=fun x k h=>by obtain⟨p,hp,e⟩:=rn.gap.only x k h;rw[Ae] at hp;exact⟨p,AF.mp hp,e⟩
 have cnt:∀(g:Option Kn->Bool),g none=false->(∀k:Kn,g (e9 f (some k))=g (some k))->(bE g wd wd.length).length=(List.range ks.length).countP (fun p=>g ks[p]?):=fun g g0 g1=>by
  rw[Cs];have e:(bE g wd wd.length).Perm (((List.range ks.length).filter fun p=>g ks[p]?).map f):=by
   refine(B1 (ad1 g wd wd.length) ?_).mpr fun x=>?_
   ·exact lV (Bw.filter _) fun a ha b hb=>inj a b (AF.mp (Br.mp ha).1) (AF.mp (Br.mp hb).1)
   ·rw[Bq];constructor
    ·intro h;obtain⟨_,k,e,hb⟩:=cD h;cases k with
     |none=>rw[g0] at hb;cases hb
     |some k=>
      obtain⟨p,hp,rfl⟩:=only x k e;refine⟨p,Br.mpr ⟨AF.mpr hp,?_⟩,rfl⟩;have h2:=kt (Aj hp);rw[e] at h2;rw[Aj hp,<-g1,<-AV h2];exact hb
    ·rintro⟨p,hp,rfl⟩;obtain⟨h1,h2⟩:=Br.mp hp;have hp:=AF.mp h1;rw[Aj hp,<-g1] at h2;exact uQ (kt (Aj hp)) h2 (zm (kt (Aj hp)))
  rw[e.length_eq,Ae]
 have kd:=SRh.kinds;have tc:=vo R;have e0:=cnt fA rfl (fun k=>by cases k<;>rfl);have e1:=cnt (jo false) rfl (fun k=>by cases k<;>rfl);have e2:=cnt (jo true) rfl (fun k=>by cases k<;>rfl);have t0:(List.range ks.length).countP (fun p=>fA ks[p]?)=ks.length:=by refine Eq.trans (Cw.mpr fun p hp=>?_) AX;rw[Aj (AF.mp hp)];rfl
 have tl:(z9 R).length=ks.length:=by rw[tp.length_eq,AX]
 have k1:(List.range ks.length).countP (fun p=>jo false ks[p]?)=qC R:=by rw[<-kd.1,<-tp.countP_eq];exact BR fun p _=>by cases ks[p]? with | none=>rfl | some k=>cases k<;>rfl
 have k2:(List.range ks.length).countP (fun p=>jo true ks[p]?)=qE R:=by rw[<-kd.2,<-tp.countP_eq];exact BR fun p _=>by cases ks[p]? with | none=>rfl | some k=>cases k<;>rfl
 have l1:=pl.length_eq;have l2:=pc.length_eq;rw[Ae] at l1 l2;have e0:(zb wd).length=_:=e0;have e1:(jt false wd).length=_:=e1;have e2:(jt true wd).length=_:=e2;lia
theorem lS(p th:Nat->Bool)(l:List Nat):l.countP p=l.countP (fun x=>p x&&th x)+l.countP (fun x=>p x&&!th x):=by
 induction l with
 |nil=>rfl
 |cons x r ih=>
  rw[Bh,Bh,Bh,ih];cases th x<;>cases p x<;>simp<;>lia
theorem wM{th:Nat->Bool}(hl:hs.length=n)(hr:eG rk hs)(sep:∀a b,qA hs a b->a=b\/(th a=true/\th b=true))
 (all:∀a b,a<n->b<n->th a=true->th b=true->qA hs a b) {z:Nat} (hz:z<n) (tz:th z=true):cQ hs=(List.range n).countP (fun x=>!th x)+1:=by
 unfold cQ;rw[hl,lS _ th,Nat.add_comm];congr 1
 ·refine BR fun x hx=>?_;have hx:=AF.mp hx;rw[AR,BK];refine⟨fun h=>h.2,fun h=>⟨?_,h⟩⟩;obtain⟨r,t⟩:=hr.rep' (i:=x) (by lia);rcases sep x r ⟨r,t,.root t.top⟩ with e | ⟨e,_⟩
  ·rw[e];exact t.top
  ·rw[e] at h;cases h
 ·obtain⟨r,t⟩:=hr.rep' (i:=z) (by lia);have rt:=t.top;have rl:=zm rt;have tr:th r=true:=(sep z r ⟨r,t,.root rt⟩).elim (fun e=>e▸tz) fun h=>h.2;have e:=bZ (p:=fun i=>decide (hs[i]?=some i)&&th i) (a:=r) (by rw[AB rt,tr];rfl) (l:=List.range n) Bw (AF.mpr (by lia));rw[<-e];have zero:(List.range n).countP (fun j=>(decide (hs[j]?=some j)&&th j)&&!decide (j=r))=0:=List.countP_eq_zero.mpr fun j hj h=>by rw[AR,AR,BK] at h;obtain⟨⟨j1,j2⟩,j3⟩:=h;obtain⟨s,p,q⟩:=all j r (AF.mp hj) (by lia) j2 tr;have:j=r:=(p.of_top j1).symm.trans (q.of_top rt);rw[AB this] at j3;cases j3
  rw[zero]
structure LkI(ks:List Kn)(lk:List (Nat×Nat)):Prop where
 nd:(wx lk).Nodup
 lt:∀p∈lk,p.1<p.2
 at_:∀p∈lk,∃t n,ks[p.1]?=some (.lf t n)/\ks[p.2]?=some (.lf (!t) n)
theorem me(c:Nat×Nat)(r:List (Nat×Nat)):wx (c::r)=c.1::c.2::wx r:=by
 have e:wx (c::r)=[c.1,c.2]++wx r:=by rw[<-sR,<-bL];rfl
 rw[e];rfl
theorem aU:∀{l:List (Nat×Nat)},(wx l).Nodup->l.Nodup
 |[],_=>C7
 |c::r,h=>by rw[me] at h;have h1:=Aw.mp h;have h2:=Aw.mp h1.2;exact Aw.mpr ⟨fun hc=>h1.1 (Ah _ (dH hc).1),aU h2.2⟩
theorem bA:∀R:Ru,i9 R+1≤(z9 R).length
 |.link _ _=>Am _
 |.ei r A=>by have:=bA A;show i9 A+1+1≤(r::z9 A).length;rw[AD];exact uH
 |.bo r A B=>by have:=bA A;have:=bA B;show i9 A+i9 B+1+1≤(r::(z9 A++z9 B)).length;rw[AD,Ac];lia
 |.cu _ _ A B=>by have:=bA A;have:=bA B;show i9 A+i9 B+1+1≤(z9 A++z9 B).length;rw[Ac];lia
theorem wv:∀R:Ru,∃rest,(wx (jd R)++rest).Perm (z9 R)
 |.link p q=>⟨[],.refl _⟩
 |.ei r A=>by obtain⟨u,h⟩:=wv A;exact⟨r::u,BX.trans (h.cons r)⟩
 |.bo r A B=>by obtain⟨u,h⟩:=wv A;obtain⟨v,k⟩:=wv B;refine⟨r::(u++v),?_⟩;show(wx (jd A++jd B)++r::(u++v)).Perm (r::(z9 A++z9 B));rw[bL];refine BX.trans (List.Perm.cons r ?_);refine List.Perm.trans ?_ (h.append k);rw[Ax,Ax];refine Df _ ?_;rw[<-Ax,<-Ax];exact Dc _ BE
 |.cu p q A B=>by obtain⟨u,h⟩:=wv A;obtain⟨v,k⟩:=wv B;refine⟨u++v,?_⟩;show(wx (jd A++jd B)++(u++v)).Perm (z9 A++z9 B);rw[bL];refine List.Perm.trans ?_ (h.append k);rw[Ax,Ax];refine Df _ ?_;rw[<-Ax,<-Ax];exact Dc _ BE
theorem SR.links{ks:List Kn}{R:Ru}{E:List Nat}(h:SR ks R E):∀p∈jd R,p.1<p.2/\∃t n,ks[p.1]?=some (.lf t n)/\ks[p.2]?=some (.lf (!t) n):=by induction h with|@link p q t n E h1 h2 h3 h4 h5=>intro x hx;rw[Au.mp hx];exact⟨h1,t,n,h2,h3⟩|ei _ _ _ _ _ _ _ ih=>exact ih|bo _ _ _ _ _ _ _ ih1 ih2=>intro x hx;exact(Ak.mp hx).elim (ih1 x) (ih2 x)|cu _ _ _ _ _ _ _ _ ih1 ih2=>intro x hx;exact(Ak.mp hx).elim (ih1 x) (ih2 x)
theorem SR.lkI{ks:List Kn}{R:Ru}{E:List Nat}(h:SR ks R E)(nd:(z9 R).Nodup):LkI ks (jd R):=by obtain⟨u,hu⟩:=wv R;exact⟨(AK.mp (hu.nodup_iff.mpr nd)).1,fun p hp=>(h.links p hp).1,fun p hp=>(h.links p hp).2⟩
theorem SR.cuts{ks:List Kn}{R:Ru}{E:List Nat}(h:SR ks R E):(z9 R).Nodup->(wx (jr R)).Nodup/\(∀x∈wx (jr R),x∉E/\x∈z9 R):=by
 induction h with
 |link _ _ _ _ _=>exact fun _=>⟨C7,fun x hx=>by cases hx⟩
 |@ei r i j A EA E h1 h2 h3 h4 h5 h6 h7 ih=>
  intro nd;obtain⟨n1,n2⟩:=Aw.mp (show(r::z9 A).Nodup from nd);obtain⟨a,b⟩:=ih n2;refine⟨a,fun x hx=>⟨fun hE=>?_,Ah _ (b x hx).2⟩⟩;rcases (h6 x).mp hE with⟨z,_⟩ | rfl
  ·exact(b x hx).1 z
  ·exact n1 (b x hx).2
 |@bo r i j A B EA EB E h1 h2 h3 h4 h5 h6 h7 ih1 ih2=>
  intro nd;obtain⟨n1,n2⟩:=Aw.mp (show(r::(z9 A++z9 B)).Nodup from nd);obtain⟨m1,m2,m3⟩:=AK.mp n2;obtain⟨a1,b1⟩:=ih1 m1;obtain⟨a2,b2⟩:=ih2 m2;have sA:=h2.sub;have sB:=h3.sub;show(wx (jr A++jr B)).Nodup/\∀x∈wx (jr A++jr B),x∉E/\x∈r::(z9 A++z9 B);rw[bL];refine⟨AK.mpr ⟨a1,a2,fun x hx y hy=>m3 x (b1 x hx).2 y (b2 y hy).2⟩,fun x hx=>?_⟩;rcases Ak.mp hx with hx | hx
  ·refine⟨fun hE=>?_,Ah _ (Ap _ (b1 x hx).2)⟩;rcases (h6 x).mp hE with⟨z,_⟩ | ⟨z,_⟩ | rfl
   ·exact(b1 x hx).1 z
   ·exact m3 x (b1 x hx).2 x (sB x z) rfl
   ·exact n1 (Ap _ (b1 _ hx).2)
  ·refine⟨fun hE=>?_,Ah _ (Ag _ (b2 x hx).2)⟩;rcases (h6 x).mp hE with⟨z,_⟩ | ⟨z,_⟩ | rfl
   ·exact m3 x (sA x z) x (b2 x hx).2 rfl
   ·exact(b2 x hx).1 z
   ·exact n1 (Ag _ (b2 _ hx).2)
 |@cu p q A B EA EB E w h1 h2 h3 h4 h5 h6 h7 h8 ih1 ih2=>
  intro nd;obtain⟨m1,m2,m3⟩:=AK.mp (show(z9 A++z9 B).Nodup from nd);obtain⟨a1,b1⟩:=ih1 m1;obtain⟨a2,b2⟩:=ih2 m2;have sA:=h1.sub;have sB:=h2.sub;show(wx ((p,q)::(jr A++jr B))).Nodup/\∀x∈wx ((p,q)::(jr A++jr B)),x∉E/\x∈z9 A++z9 B;rw[me,bL];have tp:=sA p h3;have tq:=sB q h4;have npq:p≠q:=fun e=>m3 p tp q tq e;have out:∀x,x∈wx (jr A)++wx (jr B)->x≠p/\x≠q:=fun x hx=>by
   rcases Ak.mp hx with hx | hx
   ·exact⟨fun e=>(b1 x hx).1 (e▸h3),fun e=>m3 x (b1 x hx).2 q tq e⟩
   ·exact⟨fun e=>m3 p tp x (b2 x hx).2 e.symm,fun e=>(b2 x hx).1 (e▸h4)⟩
  refine⟨Aw.mpr ⟨fun h=>?_,Aw.mpr ⟨fun h=>(out q h).2 rfl,AK.mpr ⟨a1,a2,fun x hx y hy=>m3 x (b1 x hx).2 y (b2 y hy).2⟩⟩⟩,fun x hx=>?_⟩
  ·rcases Ar.mp h with h | h
   ·exact npq h
   ·exact(out p h).1 rfl
  ·have inE:x∈E->(x∈EA/\x≠p)\/(x∈EB/\x≠q):=(h7 x).mp;rcases Ar.mp hx with rfl | hx
   ·exact⟨fun hE=>(inE hE).elim (fun z=>z.2 rfl) fun z=>m3 x tp x (sB x z.1) rfl,Ap _ tp⟩
   ·rcases Ar.mp hx with rfl | hx
    ·exact⟨fun hE=>(inE hE).elim (fun z=>m3 x (sA x z.1) x tq rfl) fun z=>z.2 rfl,Ag _ tq⟩
    ·rcases Ak.mp hx with hx | hx
     ·exact⟨fun hE=>(inE hE).elim (fun z=>(b1 x hx).1 z.1) fun z=>m3 x (b1 x hx).2 x (sB x z.1) rfl,Ap _ (b1 x hx).2⟩
     ·exact⟨fun hE=>(inE hE).elim (fun z=>m3 x (sA x z.1) x (b2 x hx).2 rfl) fun z=>(b2 x hx).1 z.1,Ag _ (b2 x hx).2⟩
theorem zX{ks:List Kn}(ok:dk ks):OkO (ks.map some):=by intro p e i j h;rw[Av] at h;obtain⟨k,ek,e1⟩:=AE.mp h;cases e1;exact ok p _ ek
theorem aak(ks:List Kn):ak (ks.map some)=ja ks:=by show(ks.map some).map fB=ks.map wI;rw[BO];rfl
def dm(ks:List (Option Kn))(p:Nat):Bool:=match ks[p]? with
 |some k=>fA k
 |none=>false
theorem oY{p:Nat}{k:Kn}(h:ks[p]?=some (some k)):dm ks p=true:=by unfold dm;rw[h];rfl
theorem kz{p:Nat}(h:dm ks p=true):p<ks.length:=by
 unfold dm at h;split at h
 ·rename_i k e;exact zm e
 ·cases h
theorem mZ(ks:List (Option Kn)):(zb ks).length=(List.range ks.length).countP (dm ks):=by rw[Cs];rfl
theorem cB{p:Nat}:dm ks p=true↔p∈zb ks:=by
 constructor
 ·intro h;exact Br.mpr ⟨AF.mpr (kz h),h⟩
 ·intro h;exact(Br.mp h).2
def abz(ks:List (Option Kn))(ps:List (Nat×Nat)):Prop:=∀x∈ps,dm ks x.1=true/\dm ks x.2=true
structure CT(ks:List (Option Kn))(ps:List (Nat×Nat))(es:List Nat):Prop where
 inp:abz ks ps
 nds:∀p∈es,∃e i j,ks[p]?=some (some (Kn.nd e i j))/\dm ks i=true/\dm ks j=true
 one:∀R:Nat->Nat->Prop,(∀a,R a a)->(∀a b,R a b->R b a)->(∀a b c,R a b->R b c->R a c)->(∀x∈ps,R x.1 x.2)->
  (∀p∈es,∀e i j,ks[p]?=some (some (Kn.nd e i j))->R i j->R p i)->∀a b,dm ks a=true->dm ks b=true->R a b
 ex:∃z,dm ks z=true
theorem CT.ndAt{ps:List (Nat×Nat)}{es:List Nat}(H:CT ks ps es):∀p∈es,amm ks ks.length p:=fun p hp=>by obtain⟨e,i,j,h1,h2,h3⟩:=H.nds p hp;exact⟨e,i,j,h1,zm h1,kz h2,kz h3⟩
theorem ahr(ks:List (Option Kn)):Eqv fun a b=>a=b\/(dm ks a=true/\dm ks b=true):=⟨fun a=>.inl rfl,fun h=>h.elim (fun e=>.inl e.symm) fun h=>.inr ⟨h.2,h.1⟩,fun {a b c} h k=>by
 rcases h with rfl | h
 ·exact k
 ·rcases k with rfl | k
  ·exact .inr h
  ·exact .inr ⟨h.1,k.2⟩⟩
theorem vN(hs:List Nat):Eqv fun a b=>a=b\/qA hs a b:=⟨fun a=>.inl rfl,fun h=>h.elim (fun e=>.inl e.symm) fun⟨r,p,q⟩=>.inr ⟨r,q,p⟩,fun {a b c} h k=>by
 rcases h with rfl | ⟨r,p,q⟩
 ·exact k
 ·rcases k with rfl | ⟨s,p2,q2⟩
  ·exact .inr ⟨r,p,q⟩
  ·exact .inr ⟨r,p,by rw[q.uniq p2];exact q2⟩⟩
theorem jX(hr:eG rk hs){a b:Nat}(ha:a<hs.length)(h:a=b\/qA hs a b):qA hs a b:=by
 rcases h with rfl | h
 ·obtain⟨r,t⟩:=hr.rep' ha;exact⟨r,t,t⟩
 ·exact h
theorem CT.all{ps:List (Nat×Nat)}{es:List Nat}(H:CT ks ps es)(hl:hs.length=ks.length)(hr:eG rk hs)(h1:∀x∈ps,qA hs x.1 x.2)(h2:adq ks hs es):∀a b,a<ks.length->b<ks.length->dm ks a=true->dm ks b=true->qA hs a b:=fun a b ha _ ta tb=>by have E:=vN hs;refine jX hr (by rw[hl];exact ha) (H.one (fun a b=>a=b\/qA hs a b) E.r (fun _ _=>E.s) (fun _ _ _=>E.t) (fun x hx=>.inr (h1 x hx)) (fun p hp e i j ek h=>?_) a b ta tb);obtain⟨e',i',j',ek',hi,_⟩:=H.nds p hp;rw[ek] at ek';cases ek';exact .inr (h2 p hp e i j ek (jX hr (by rw[hl];exact kz hi) h))
def gw(C:Addr):jj:=fun ys L Q=>∃a j b,∃ks:List (Option Kn),∃ps:List (Nat×Nat),∃es:List Nat,ys=[.ref a,.ref j,.ref b]/\L a=some (.lst (ak ks))/\L j=some (.lst (za ps))/\L b=some (.lst (nY es))/\ks.length≤1000/\ps.length≤10000/\CT ks ps es/\
 ∀zs p,L p=none->zs.length+1=(zb ks).length->Q (.ref p) (qd L p (.lst zs))
theorem yZ :∀ys L Q,gw C ys L Q->xq (ug C (fc C) (gf C) (hJ C)) 4 ys L Q:=by
 rintro ys L Q ⟨a,j,b,ks,ps,es,rfl,ha,hj,hb,hz,hpl,H,q⟩;refine qe ha fun x hx=>⟨x,ks.length,_,rfl,by rw[Ae],q9,hz,fun hp hhp=>⟨rfl,?_⟩⟩;have hxp:x≠hp:=xo q9 hhp;have nhp:L hp=none:=j8 hhp;have hx2:(qd (qd (qd L x (.ins C [])) hp (.lst (nY (List.range ks.length)))) x (.ins C (eW hp))) x=some (.ins C (eW hp)):=q9;have hh2:(qd (qd (qd L x (.ins C [])) hp (.lst (nY (List.range ks.length)))) x (.ins C (eW hp))) hp=some (.lst (nY (List.range ks.length))):=(qa (AH hxp)).trans q9;have sub:qk L (qd (qd (qd L x (.ins C [])) hp (.lst (nY (List.range ks.length)))) x (.ins C (eW hp))):=(((By hx).trans (By hhp)).upd hx);generalize qd (qd (qd L x (.ins C [])) hp (.lst (nY (List.range ks.length)))) x (.ins C (eW hp))=L2 at hx2 hh2 sub;have ln:(List.range ks.length).length=ks.length:=AX;refine⟨x,hp,j,List.range ks.length,ps,rfl,hx2,hh2,sub _ _ hj,xo hj nhp,⟨_,sT _⟩,fun y hy=>by rw[ln];exact⟨kz (H.inp y hy).1,kz (H.inp y hy).2⟩,hpl,fun s1 zs1 hs1 n1 g1 z1 r1 m1=>?_⟩;have hs1p:hp≠s1:=xo hh2 n1;refine⟨x,hp,a,b,hs1,ks,es,rfl,(qa (xo hx2 n1)).trans ((qa hxp).trans hx2),(qa hs1p).trans q9,(qa (xo (sub _ _ ha) n1)).trans ((qa (xo ha nhp)).trans (sub _ _ ha)),(qa (xo (sub _ _ hb) n1)).trans ((qa (xo hb nhp)).trans (sub _ _ hb)),xo ha nhp,xo hb nhp,g1.2,fun p hp=>by rw[g1.1,ln];exact H.ndAt p hp,by rw[g1.1,ln];exact hz,fun s2 zs2 hs2 n2 g2 r2 m2=>?_⟩;have e1:(qd (qd (qd (qd L2 hp (.lst (nY hs1))) s1 (.lst zs1)) hp (.lst (nY hs2))) s2 (.lst zs2)) s1=some (.lst zs1):=(qa (xo q9 n2)).trans ((qa (AH hs1p)).trans q9);have l1:=abg (List.range ks.length);rw[ln] at l1;have hb5:=aov;refine⟨_,_,e1,q9,by lia,fun p4 hp4=>?_⟩;have np4:L2 p4=none:=j8 (j8 (j8 (j8 hp4)));have np4':L p4=none:=aq sub np4;refine eY (L:=qd L p4 (.lst (zs1++zs2))) (fun y u e=>?_) (q _ p4 np4' ?_)
 rotate_left
 ·obtain⟨l2,rk2,k2⟩:=g2;have hl2:hs2.length=ks.length:=by rw[l2,g1.1,ln]
  rw[xA] at r1;rw[Ac,mZ];obtain⟨z,tz⟩:=H.ex;have E:=ahr ks;have F:=m2.1.2 _ E (fun p hp e i j ek _=>.inr ⟨oY ek,by obtain⟨e',i',j',ek',hi,_⟩:=H.nds p hp;rw[ek] at ek';cases ek';exact hi⟩) (m1.2.2 _ E (fun x hx=>.inr (H.inp x hx)) (lQ E _));have rt:=wM hl2 k2 F (H.all hl2 k2 (fun x hx=>m2.1.1 _ _ (m1.2.1 x hx)) m2.2) (kz tz) tz;have tot:=lS (fun _=>true) (dm ks) (List.range ks.length);rw[Cw.mpr (fun _ _=>rfl),AX] at tot;simp only[DE] at tot;lia
 by_cases c:y=p4
 ·subst c;rw[q9] at e ⊢;exact e
 ·rw[qa c] at e;have e2:=sub _ _ e;have ns2:L2 s2=none:=j8 (j8 n2);rw[qa c,qa (xo e2 ns2),qa (xo e nhp),qa (xo e2 n1),qa (xo e nhp)];exact e2
def io:jj:=fun ys L Q=>∃a j b,∃ks:List (Option Kn),∃ps:List (Nat×Nat),∃es:List Nat,ys=[.ref a,.ref j,.ref b]/\L a=some (.lst (ak ks))/\L j=some (.lst (za ps))/\L b=some (.lst (nY es))/\ks.length≤1000/\ps.length≤10000/\CT ks ps es/\ps.length+es.length+1=(zb ks).length/\Q (.bl true) L
theorem ae7 :∀ys L Q,io ys L Q->xq (db bC (gw C)) 4 ys L Q:=by rintro ys L Q ⟨a,j,b,ks,ps,es,rfl,ha,hj,hb,hz,hpl,H,hc,q⟩;refine⟨a,ks,rfl,ha,hz,fun p1 hp1=>qe q9 ?_⟩;have s1:qk L (qd L p1 (.lst (nY (zb ks)))):=By hp1;refine qe (s1 _ _ hj) (qe (s1 _ _ hb) ?_);show ke (decide (((za ps).length:Int)+((nY es).length:Int)=((nY (zb ks)).length:Int) - 1)) _ _;rw[kq,kq,Ae];refine ju (fun c=>?_) (fun c=>absurd (by lia) c);refine⟨a,j,b,ks,ps,es,rfl,s1 _ _ ha,s1 _ _ hj,s1 _ _ hb,hz,hpl,H,fun zs p2 hp2 hq=>qe q9 ?_⟩;show iY Q (.bl (decide ((zs.length:Int)=((zb ks).length:Int) - 1))) _;rw[AB (by lia)];exact eY (s1.trans (By hp2)) q
structure aif(L:ql)(a l c:Addr)(ks:List (Option Kn))(lk ct:List (Nat×Nat)):Prop where
 ha:L a=some (.lst (ak ks))
 hl:L l=some (.lst (za lk))
 hc:L c=some (.lst (za ct))
 z1:ks.length≤1000
 z2:lk.length≤1000
 z3:ct.length≤1000
 come:CT ks (aH ks lk ct) (jt true ks)
 cnt:(aH ks lk ct).length+(jt true ks).length+1=(zb ks).length
def dS:jj:=fun ys L Q=>∃a l c ks lk ct,ys=[cW a l c]/\aif L a l c ks lk ct/\Q (.bl true) L
theorem yW:∀ys L Q,dS ys L Q->xq (rK io cg fQ) 1 ys L Q:=by rintro ys L Q ⟨a,l,c,ks,lk,ct,rfl,W,q⟩;refine⟨a,l,c,ks,lk,ct,rfl,W.ha,W.hl,W.hc,W.z1,W.z2,W.z3,fun p1 hp1=>?_⟩;have s1:qk L (qd L p1 (.lst (za (aH ks lk ct)))):=By hp1;refine⟨a,l,c,ks,rfl,s1 _ _ W.ha,W.z1,fun p2 hp2=>?_⟩;have s2:=s1.trans (By (o:=.lst (nY (jt true ks))) hp2);have jl:=xU (ks:=ks) (lk:=lk) (ct:=ct);have:=W.z1;have:=W.z2;have:=W.z3;exact⟨a,p1,p2,ks,_,_,rfl,s2 _ _ W.ha,By hp2 _ _ q9,q9,W.z1,by lia,W.come,W.cnt,eY s2 q⟩
def kO:jj:=fun ys L Q=>∃a l c ks lk ct,ys=[cW a l c]/\aif L a l c ks lk ct/\Q .non L
theorem acn:∀ys L Q,kO ys L Q->xq (qO dS fQ cg io) 9 ys L Q:=by rintro ys L Q ⟨a,l,c,ks,lk,ct,rfl,W,q⟩;exact⟨a,l,c,ks,lk,ct,rfl,W,xu q⟩
theorem mz{ks:List (Option Kn)}:∀{pl:List Nat},(∀p∈pl,∃e i j,ks[p]?=some (some (Kn.nd e i j)))->(x6 ks pl).length=2*pl.length
 |[],_=>rfl
 |p::r,h=>by have ih:=mz (pl:=r) fun q hq=>h q (Ah _ hq);obtain⟨e,i,j,ek⟩:=h p (An ..);have e1:=gZ ks [p] r;rw[Cv] at e1;rw[e1,Ac,AD,gU ek,ih];show 2+2*r.length=2*(r.length+1);lia
theorem cr.in_(W:cr wd lk ct):abz wd lk/\abz wd ct/\(∀(p:Nat) (e:Bool) (i j:Nat),wd[p]?=some (some (Kn.nd e i j))->dm wd i=true/\dm wd j=true)/\wd.length≤241/\lk.length≤120/\ct.length≤120/\∃z,dm wd z=true:=by
 have cn:=W.count;obtain⟨ks,R,E,f,ok,SRh,tp,hk,rn,pl,pc⟩:=W.ex;have tl:(z9 R).length=ks.length:=by rw[tp.length_eq,AX]
 have tn:(z9 R).Nodup:=tp.nodup_iff.mpr Bw;have tlt:∀x∈z9 R,x<ks.length:=fun x hx=>AF.mp (tp.mem_iff.mp hx);have kt:∀{r k},ks[r]?=some k->wd[f r]?=some (e9 f (some k)):=fun {r k} h=>rn.gap.at_ r (AF.mpr (by rw[Ae];exact zm h)) _ (oO h);have th:∀{r},r<ks.length->dm wd (f r)=true:=fun {r} h=>by have:=kt (Aj h);cases e:ks[r]<;>(rw[e] at this;exact oY this)
 obtain⟨_,cin⟩:=SRh.cuts tn;have tc:=vo R;have wl:=rn.len;rw[Ae] at wl;have l1:=pl.length_eq;have l2:=pc.length_eq;rw[Ae] at l1 l2;refine⟨fun x hx=>?_,fun x hx=>?_,fun p e i j hp=>?_,by lia,by lia,by lia,f 0,th (by lia)⟩
 ·obtain⟨y,hy,rfl⟩:=Bq.mp (pl.mem_iff.mp hx);obtain⟨_,t,n,h1,h2⟩:=SRh.links y hy;have t1:=th (zm h1);have t2:=th (zm h2);show dm wd (min (f y.1) (f y.2))=true/\dm wd (max (f y.1) (f y.2))=true;by_cases c:f y.1≤f y.2
  ·rw[Cr c,Dg c];exact⟨t1,t2⟩
  ·rw[Nat.min_eq_right (by lia),Dm (by lia)];exact⟨t2,t1⟩
 ·obtain⟨y,hy,rfl⟩:=Bq.mp (pc.mem_iff.mp hx);exact⟨th (tlt _ (cin _ (dH hy).1).2),th (tlt _ (cin _ (dH hy).2).2)⟩
 ·obtain⟨q,hq,rfl⟩:=rn.gap.only p _ hp;rw[Ae] at hq;have hq:=AF.mp hq;have e1:=Aj hq;have h2:=kt e1;rw[hp] at h2;have o:=ok q _ e1;cases e2:ks[q] with
  |lf t n=>rw[e2] at h2;cases h2
  |nd e' i' j'=>
   rw[e2] at h2 o;cases h2;have o:i'<q/\j'<q:=o;exact⟨th (by lia),th (by lia)⟩
theorem yo{p:Nat}{e:Bool}{pl:List Nat}(h:ks[p]?=some (some (.nd e i j)))(hp:p∈pl):(p,i)∈x6 ks pl/\(p,j)∈x6 ks pl:=by
 unfold x6;constructor<;>refine Ba.mpr ⟨p,hp,?_⟩<;>rw[h]
 ·exact An ..
 ·exact Ah _ (An ..)
theorem xF{x:Nat×Nat}{pl:List Nat}(h:x∈x6 ks pl):∃e i j,ks[x.1]?=some (some (.nd e i j))/\(x.2=i\/x.2=j):=by
 unfold x6 at h;obtain⟨p,hp,hx⟩:=Ba.mp h;split at hx
 ·rename_i k ek;obtain⟨q,hq,rfl⟩:=Bq.mp hx;cases k with
  |none=>cases hq
  |some k=>
   cases k with
   |lf t n=>cases hq
   |nd e i j=>
    have hq:q∈[i,j]:=hq;refine⟨e,i,j,ek,?_⟩;rcases Ar.mp hq with rfl | hq
    ·exact .inl rfl
    ·exact .inr (Au.mp hq)
 ·cases hx
theorem vU{e:Bool}{p:Nat}(h:p∈jt e ks):∃i j,ks[p]?=some (some (.nd e i j)):=by
 obtain⟨_,k,ek,hk⟩:=cD h;cases k with
 |none=>cases hk
 |some k=>
  cases k with
  |lf t n=>cases hk
  |nd e' i j=>
   have:e'=e:=of_decide_eq_true hk;subst this;exact⟨i,j,ek⟩
theorem vS{e:Bool}{p:Nat}(h:ks[p]?=some (some (.nd e i j))):p∈jt e ks:=uQ h (AB rfl) (zm h)
theorem cr.right(W:cr wd lk ct):CT wd (aH wd lk ct) (jt true wd)/\(aH wd lk ct).length+(jt true wd).length+1=(zb wd).length:=by
 obtain⟨i1,i2,i3,_,_,_,z⟩:=W.in_;refine⟨⟨fun x hx=>?_,fun p hp=>?_,fun T rf sy tr hj hf a b ta tb=>?_,z⟩,?_⟩
 ·rcases Ak.mp hx with hx | hx
  ·rcases Ak.mp hx with hx | hx
   ·exact i1 x hx
   ·exact i2 x hx
  ·obtain⟨e,i,j,h1,h2⟩:=xF hx;obtain⟨t1,t2⟩:=i3 _ _ _ _ h1;exact⟨oY h1,h2.elim (fun e=>e▸t1) fun e=>e▸t2⟩
 ·obtain⟨i,j,h⟩:=vU hp;exact⟨true,i,j,h,i3 _ _ _ _ h⟩
 ·refine W.one rf sy tr (fun x hx=>hj x (Ap _ (Ap _ hx))) (fun x hx=>hj x (Ap _ (Ag _ hx))) (fun r i j h=>?_) (fun r i j h k=>.inl (hf r (vS h) true i j h k)) a (cB.mp ta) b (cB.mp tb);obtain⟨m1,m2⟩:=yo h (vS h);exact⟨hj _ (Ag _ m1),hj _ (Ag _ m2)⟩
 ·have c:=W.count;have e2:=mz (ks:=wd) (pl:=jt false wd) fun p hp=>by obtain⟨i,j,h⟩:=vU hp;exact⟨false,i,j,h⟩
  unfold aH;rw[Ac,Ac,e2];lia
open PySem L2 PyProof.Rows
def ahc(neg:Bool)(x y:Y)(L:ql)(Q:YK):Prop:=match x,y with
 |.bl c,.bl d=>Q (.bl (nb neg (c==d))) L
 |_,_=>False
theorem adm :wn X (compareOp .IsNot) (fun x y H Q=>∃c d,x=.bl c/\y=.bl d/\Q (.bl (!(c==d))) H):=by intro pins s σ H x y v u Q I rx ry h;obtain⟨c,d,rfl,rfl,q⟩:=h;cases rx;cases ry;exact isnot_bool (jh I q rfl)
theorem aiy :wn X (compareOp .IsNot) (mG X.g3 (ahc true)):=ES adm fun x y H Q ⟨x3,y3,L,Q3,rx,ry,rl,z,k⟩=>by
 unfold ahc at z;split at z
 ·exact⟨_,_,rx,ry,k _ H _ L (EC _) rl (by rfl) z⟩
 ·exact z.elim
end L3
namespace L2
open PySem PySem.Spec PyProof.Rows
theorem ajw{a b:List Stmt}{tc:TT}{t u:TS}(hc:PT { X with N:=X.N.set i x } c tc)(ha:jP X a t)(hb:jP X b u):PS X (.If c a b pos) (fun D σ H=>an3 tc t u D (σ.set i none) H):=by
 intro pins s σ H D I h;have I':qw { X with N:=X.N.set i x } pins (σ.set i none) H s:=I.ren _ (by rw[Bd]) (by rw[Bd]) fun j v e=>by obtain⟨a,b⟩:=gG e;exact⟨b,by rw[Be (AH a)]⟩
 refine wpAny_If (xt (hc pins s (σ.set i none) H _ I' h) fun d s1 ⟨H1,I1,q1⟩=>?_);have I2:qw X pins (σ.set i none) H1 s1:=qw.ren (X:={ X with N:=X.N.set i x }) X.N I1 (by show X.N.length=(X.N.set i x).length;rw[Bd]) rfl fun j v e=>by obtain⟨a,b⟩:=gG e;exact⟨e,by show(X.N.set i x)[j]?=_;rw[Be (AH a)]⟩
 cases d with|true=>exact ha pins s1 _ H1 D I2 q1|false=>exact hb pins s1 _ H1 D I2 q1
end L2
namespace L3
open PySem L2
def ald(i:Nat)(tA:gL)(t u:kn)(D:xr)(τ:ji)(L:ql):Prop:=va tA t u D (bF τ i) L
theorem aip(x:Str){orelse:List Stmt}{t u:kn}(h:QT { X with N:=X.N.set i x } c tA)(ha:pZ X body t)(hb:pZ X orelse u):QS X (.If c body orelse pos) (ald i tA t u):=EI (ajw h ha hb) fun D σ H ⟨τ,L,D3,rs,rl,z,k⟩=>
 ⟨bF τ i,L,_,rs.forget i,rl,z,fun c H1 L1 t1 rl1 z1=>by cases c with|true=>rw[As rfl];exact⟨bF τ i,L1,D3,(rs.forget i).ts t1,rl1,z1,k.ts t1⟩|false=>rw[Aq Az];exact⟨bF τ i,L1,D3,(rs.forget i).ts t1,rl1,z1,k.ts t1⟩⟩
open PySem L2 Words
def oF(p0:jj):kn:=(qt (zw (zg p0 (ki (qb 0))) (qg 2))
 (qt (ald 5 (yOr (rdN (bO 1) (bO 2)) (ae5 (yB (gm ahk (qf (pY 1 (vq (qb 1)) (qg 6) oy (zr (qT false) (qb 6) (zD (jx 0) (jx 1)))) qx))))) tS x0)
 (qt (zw aa2 (qg 3))
 (qt (fD (ab6 (aK (qb 2) (qb 1))) (wm 2 (zu (qg 4) (zu (qg 5) w4))) (acp (qb 3) (qb 4) (zr bz (zr bz (xj 0 0) (qb 4)) (zr vn (jx 1) (qb 5)))))
 (jy (qb 3))))))
def tQ(p0:jj)(p1:jj):kn:=(qt (zw (zg p0 (aK (qb 0) (qb 1))) (qg 2))
 (qt (zw (zr vn (xj 0 1) (xj 0 2)) (qg 3))
 (qt (fD (vq (zg p1 (ki (xj 0 0)))) (qg 4) (qt (zw (zr bz (xj 0 0) (qb 4)) (qg 5))
 (dw (va (i8 (xj 5 0) (fg "both")) (qt (jm (aZ zq (qb 3) (qf (zD (qb 4) (xj 5 1)) qx)))
 (jm (aZ zq (qb 3) (qf (zD (qb 4) (xj 5 2)) qx)))) x0)
 (va (i8 (xj 5 0) (fg "either")) (jm (aZ zq (qb 3) (qf (k6 (qf (qb 4) (qf (eL (qb 2) (qb 4)) qx))) qx))) x0))))
 (jy (qb 3)))))
def tK(Ca:Addr)(p0:jj)(p1:jj)(p2:jj)(p3:jj)(p4:jj):kn:=(qt (zw (zg p0 (aK (qb 0) (qb 1))) (qg 2))
 (qt (zw (vD Ca p1 (qf (gm ft (ki (xj 0 0))) qx)) (qg 3))
 (qt (fD (eX (qb 2)) (wm 2 (zu (qg 4) (zu (qg 5) w4))) (va (ae5 (yB (cR Ca "unite" p2 (qb 3) (aK (xj 5 0) (xj 5 1))))) tS x0))
 (qt (zw (zg p3 (ki (xj 0 0))) (qg 6))
 (qt (zw (cR Ca "head_of" p4 (qb 3) (ki (xj 6 0))) (qg 7))
 (qt (zw (pY 1 (vq (qb 6)) (qg 9) (i8 (cR Ca "head_of" p4 (qb 3) (ki (qb 9))) (qb 7)) (qb 9)) (qg 8))
 (jy (yIf (i8 (qb 8) (qb 6)) (yC .non) (zD (fg "parts") (qb 8))))))))))
structure aj1(wd:List (Option Kn))(xs:List Int):Prop where
 len:xs.length=(jt true wd).length
 bit:∀x∈xs,x=0\/x=1
def ui(x:Int):Bool:=yz (mQ (.int x)) (([.int 0,.int 1]:List Y).map mQ)
theorem aag(x:Int):ui x=true↔x=0\/x=1:=by
 have e:ui x=(decide ((0:Int)=x)||(decide ((1:Int)=x)||false)):=rfl;rw[e,CO,CO,BK,BK];constructor
 ·rintro(h | h | h)
  ·exact .inl h.symm
  ·exact .inr h.symm
  ·cases h
 ·rintro(h | h)
  ·exact .inl h.symm
  ·exact .inr (.inl h.symm)
def ah(wd:List (Option Kn))(x:Int)(r:Nat):Nat:=match wd[r]? with
 |some (some (.nd _ i j))=>if x=1 then j else i
 |_=>0
theorem afn(f:Option Kn->Bool)(wd:List (Option Kn))(n:Nat):(bE f wd n).Nodup:=by unfold bE;exact Bw.filter _
theorem af2{k r:Nat}(h:(jt true wd)[k]?=some r):∃i j,wd[r]?=some (some (.nd true i j)):=by
 obtain⟨_,o,e,hb⟩:=cD (AI h);cases o with
 |none=>cases hb
 |some o=>
  cases o with
  |lf t n=>cases hb
  |nd e' i j=>
   have:e'=true:=by simpa[jo] using hb
   subst this;exact⟨i,j,e⟩
def amr(wd:List (Option Kn))(xs:List Int)(n:Nat)(kvs:List (jg×Y)):Prop:=∀k r x,k<n->(jt true wd)[k]?=some r->xs[k]?=some x->wz kvs (.inl (r:Int))=some (.int ((ah wd x r:Nat):Int))
def jI:jj:=fun ys L Q=>∃a l c h,∃wd:List (Option Kn),∃xs:List Int,ys=[cW a l c,.ref h]/\L a=some (.lst (ak wd))/\L h=some (.lst (xs.map Y.int))/\wd.length≤1000/\xs.length≤2000/\aj1 wd xs/\∀d kvs,L d=none->amr wd xs xs.length kvs->Q (.ref d) (qd L d (.dct kvs))
theorem acr:∀ys L Q,jI ys L Q->xq (oF cg) 6 ys L Q:=by
 rintro ys L Q ⟨a,l,c,h,wd,xs,rfl,ha,hh,hz,hx,ok,q⟩;have big:=bg_;refine⟨a,l,c,wd,rfl,ha,hz,fun p1 hp1=>?_⟩;have s1:qk L (qd L p1 (.lst (nY (jt true wd)))):=By hp1;have g1:qd L p1 (.lst (nY (jt true wd))) p1=some (.lst (nY (jt true wd))):=q9;generalize qd L p1 (.lst (nY (jt true wd)))=L1 at s1 g1 ⊢;have cl:=ok.len;refine qe (s1 _ _ hh) (qe g1 ?_);refine bT (by show(!decide (((xs.map Y.int).length:Int)=((nY (jt true wd)).length:Int)))=false;rw[Ae,kq,cl,AB rfl];rfl) ?_;refine xz (s1 _ _ hh) fun keep kp=>cq (fun i zs=>zs=((xs.take i).map ui).map Y.bl) (by rw[Ae];exact big _ (by omega)) (kp _ rfl) rfl ?_ ?_
 ·rintro i y zs hy rfl;rw[Av] at hy;obtain⟨x,ex',rfl⟩:=AE.mp hy;refine⟨rfl,rfl,_,ED _,rfl,?_⟩;rw[Bo,ex',AC,AC];rfl
 rintro zs rfl p2 hp2;rw[Ae,Bn];have s2:=By (o:=.lst ((xs.map ui).map Y.bl)) hp2;refine⟨rfl,qe q9 (qm (acd _) ?_)⟩;have cb:(xs.map ui).all id=true:=by rw[CF];intro b hb;obtain⟨x,hm,rfl⟩:=Bq.mp hb;exact(aag x).mpr (ok.bit x hm)
 refine bT (by rw[cb];rfl) ?_;replace s2:=s1.trans s2;have g1:=By (o:=.lst ((xs.map ui).map Y.bl)) hp2 _ _ g1;generalize qd L1 p2 (.lst ((xs.map ui).map Y.bl))=L2 at s2 g1 ⊢;clear s1;intro d hd;have s3:=By (o:=.dct []) hd;refine qe (s3 _ _ g1) (qe (s3 _ _ (s2 _ _ hh)) ?_);refine oM (fun i τ L'=>∃c4 c5 kvs,τ=[some (cW a l c),some (.ref h),some (.ref p1),some (.ref d),c4,c5]/\qk L2 L'/\L' d=some (.dct kvs)/\kvs.length≤i/\amr wd xs i kvs) ⟨_,_,_,rfl,s3,q9,Am _,fun k r x hk=>absurd hk (DR _)⟩ (fun i τ L' ⟨c4,c5,kvs,e,s,_⟩=>⟨by show L' p1=_;rw[s _ _ g1,s3 _ _ g1],by show L' h=_;rw[s _ _ (s2 _ _ hh),s3 _ _ (s2 _ _ hh)]⟩) ?_ ?_
 ·rintro i u v τ L' eu ev ⟨c4,c5,kvs,rfl,s,g,kl,kd⟩;obtain⟨r,er,rfl⟩:=bP eu;rw[Av] at ev;obtain⟨x,ex',rfl⟩:=AE.mp ev;obtain⟨i',j',ek⟩:=af2 er;have hi:=zm ex';have hb:=ok.bit x (AI ex');have ka:L' a=some (.lst (ak wd)):=s _ _ (s2 _ _ ha);refine qe ka (qm (ig ek) ?_);have av:dg [Y.str (kN true),.int (i':Int),.int (j':Int)] (1+x)=some (.int ((ah wd x r:Nat):Int)):=by unfold ah;rw[ek];rcases hb with rfl | rfl<;>rfl
  walk_at "w";rw[av];refine kc g ?_;refine⟨big _ (by omega),_,ED _,_,_,_,rfl,s.upd hd,q9,?_,?_⟩
  ·have:=rH kvs (.inl (r:Int)) (.int ((ah wd x r:Nat):Int));omega
  ·intro k r' x' hk er' ex2;rw[sj];by_cases e:k=i
   ·subst e;rw[er] at er';rw[ex'] at ex2;cases er';cases ex2;rw[As rfl]
   ·rw[Aq fun z=>e ((List.getElem?_inj (zm er') (afn _ wd _)).mp (by rw[er,er',DG.mp (Sum.inl.inj z)])),kd k r' x' (by omega) er' ex2]
 ·rintro τ L' ⟨c4,c5,kvs,rfl,s,g,kl,kd⟩;rw[kq,Ae,<-cl,Nat.min_self] at kd;exact⟨qd L d (.dct kvs),(s2.trans s).put g,q d kvs (s2.none hd) kd⟩
def aE(wd:List (Option Kn))(xs:List Int)(r:Nat):List (Nat×Nat):=match wd[r]? with
 |some (some (.nd false i j))=>[(r,i),(r,j)]
 |some (some (.nd true _ _))=>[(r,ah wd (xs[(bE (jo true) wd r).length]?.getD 0) r)]
 |_=>[]
def g9(wd:List (Option Kn))(xs:List Int)(n:Nat):List (Nat×Nat):=(List.range n).flatMap (aE wd xs)
theorem aah(wd:List (Option Kn))(xs:List Int)(r:Nat):(aE wd xs r).length≤2:=by unfold aE;split<;>simp
theorem ah7{f:Nat->List (Nat×Nat)}(h:∀r,(f r).length≤2)(l:List Nat):(l.flatMap f).length≤2*l.length:=by
 induction l with
 |nil=>exact Am _
 |cons x r ih=>
  have:=h x;rw[AU,Ac,AD];omega
theorem yj{f:Nat->List (Nat×Nat)}{p:Nat->Bool}(h:∀r,p r=false->f r=[])(l:List Nat):(l.filter p).flatMap f=l.flatMap f:=by
 induction l with
 |nil=>rfl
 |cons x r ih=>
  rw[CG,AU];by_cases c:p x=true
  ·rw[As c,AU,ih]
  ·rw[Aq c,ih,h x (Bool.eq_false_iff.mpr c)];rfl
theorem uV(wd:List (Option Kn))(xs:List Int):(zb wd).flatMap (aE wd xs)=g9 wd xs wd.length:=by unfold g9;refine yj (fun r h=>?_) _;unfold aE;split<;>rename_i e<;>first | rfl | (rw[e] at h;cases h)
theorem qM(a b:List (Nat×Nat)):za (a++b)=za a++za b:=by unfold za;rw[AC]
def rM(wd:List (Option Kn))(lk ct:List (Nat×Nat))(xs:List Int):List (Nat×Nat):=lk++ct++g9 wd xs wd.length
theorem afz{r:Nat}(h:wd[r]?=some (some (.nd true i j))):(jt true wd)[(bE (jo true) wd r).length]?=some r:=by
 have hr:=zm h;have e:∀n,r+1+n≤wd.length->∃z,bE (jo true) wd (r+1+n)=bE (jo true) wd r++r::z:=by
  intro n
  induction n with
  |zero=>intro _;exact⟨[],by rw[Nat.add_zero,aF h];rfl⟩
  |succ n ih=>
   intro hn;obtain⟨z,e⟩:=ih (by omega);have:=aF (f:=jo true) (Aj (show r+1+n<wd.length by omega));rw[e,Ax,List.cons_append] at this;exact⟨_,this⟩
 obtain⟨z,e⟩:=e (wd.length - (r+1)) (by omega);rw[show r+1+(wd.length - (r+1))=wd.length by omega] at e;show(bE (jo true) wd wd.length)[_]?=_;rw[e,Al (Am _),Cp];rfl
def gi:jj:=fun ys L Q=>∃a l c h,∃wd:List (Option Kn),∃lk ct:List (Nat×Nat),∃xs:List Int,ys=[cW a l c,.ref h]/\L a=some (.lst (ak wd))/\L l=some (.lst (za lk))/\L c=some (.lst (za ct))/\L h=some (.lst (xs.map Y.int))/\wd.length≤1000/\lk.length≤2000/\ct.length≤2000/\xs.length≤2000/\
 aj1 wd xs/\∀p,L p=none->Q (.ref p) (qd L p (.lst (za (rM wd lk ct xs))))
def tE(a l c h d e:Addr)(u v:Option Y):ji:=[some (cW a l c),some (.ref h),some (.ref d),some (.ref e),u,v]
theorem wP:∀ys L Q,gi ys L Q->xq (tQ jI bC) 6 ys L Q:=by
 rintro ys L Q ⟨a,l,c,h,wd,lk,ct,xs,rfl,ha,hl,hc,hh,hz,zl,zc,hx,ok,q⟩;have big:=bg_;refine⟨a,l,c,h,wd,xs,rfl,ha,hh,hz,hx,ok,fun d kvs hd kd=>?_⟩;have s1:qk L (qd L d (.dct kvs)):=By hd;have g1:qd L d (.dct kvs) d=some (.dct kvs):=q9;generalize qd L d (.dct kvs)=L1 at s1 g1 ⊢;refine⟨_,_,s1 _ _ hl,s1 _ _ hc,?_,fun e he=>?_⟩
 ·unfold za;rw[Ae,Ae];exact BU (big _ (by omega))
 have s2:qk L1 (qd L1 e (.lst (za lk++za ct))):=By he;rw[<-qM] at s2 ⊢;have g2:qd L1 e (.lst (za (lk++ct))) e=some (.lst (za (lk++ct))):=q9;generalize qd L1 e (.lst (za (lk++ct)))=L2 at s2 g2 ⊢;refine⟨a,wd,rfl,s2 _ _ (s1 _ _ ha),hz,fun p hp=>?_⟩;have s3:qk L1 (qd L2 p (.lst (nY (zb wd)))):=s2.trans (By hp);have ep:e≠p:=xo g2 hp;have g3:qd L2 p (.lst (nY (zb wd))) e=some (.lst (za (lk++ct))):=(qa ep).trans g2;have tl:(zb wd).length≤wd.length:=bR fA wd wd.length;refine xz q9 fun keep kp=>af ⟨fun i τ L'=>∃c4 c5,τ=tE a l c h d e c4 c5/\qk L1 L'/\L' p=some (.lst (nY (zb wd)))/\L' e=some (.lst (za (lk++ct++((zb wd).take i).flatMap (aE wd xs)))),⟨_,_,rfl,s3,q9,by show _=some (LO.lst (za (lk++ct++[])));rw[AZ];exact g3⟩,?_,?_,?_⟩
 ·rintro i τ L' ⟨c4,c5,rfl,s,g,_⟩;exact kp L' (by rw[g,q9])
 ·rintro i y τ L' hy ⟨c4,c5,rfl,s,gp,g⟩;obtain⟨r,er,rfl⟩:=bP hy;have hi:=zm er;obtain⟨hr,k,ek,hk⟩:=cD (AI er);have et:(zb wd).take (i+1)=(zb wd).take i++[r]:=by rw[Bo,er];rfl
  have fl:=ah7 (aah wd xs) ((zb wd).take i);rw[AW] at fl;have ka:L' a=some (.lst (ak wd)):=s _ _ (s1 _ _ ha);refine qe ka (qm (ig ek) ?_);have ge:za (lk++ct++((zb wd).take i++[r]).flatMap (aE wd xs))=za (lk++ct++((zb wd).take i).flatMap (aE wd xs))++za (aE wd xs r):=by rw[AN,AU,Dh,AZ,<-Ax,qM _ (aE wd xs r)]
  cases k with
  |none=>cases hk
  |some k=>
   cases k with
   |lf t n=>
    have z:aE wd xs r=[]:=by unfold aE;rw[ek]
    refine⟨fun τ2 L2=>τ2=tE a l c h d e (some (.int (r:Int))) (some (fB (some (.lf t n))))/\L2=L',?_,?_⟩
    ·cases t<;>exact⟨rfl,rfl⟩
    ·rintro τ2 L2 ⟨rfl,rfl⟩;have w:∃c4 c5,tE a l c h d e (some (.int (r:Int))) (some (fB (some (.lf t n))))=tE a l c h d e c4 c5/\qk L1 L2/\L2 p=some (.lst (nY (zb wd)))/\L2 e=some (.lst (za (lk++ct++((zb wd).take (i+1)).flatMap (aE wd xs)))):=⟨_,_,rfl,s,gp,by rw[et,ge,z];show _=some (LO.lst (_++[]));rw[AZ];exact g⟩;cases t<;>exact⟨_,ED _,w⟩
   |nd b i' j'=>
    cases b with
    |false=>
     have z:aE wd xs r=[(r,i'),(r,j')]:=by unfold aE;rw[ek]
     refine⟨fun τ2 L2=>τ2=tE a l c h d e (some (.int (r:Int))) (some (fB (some (.nd false i' j'))))/\L2=qd (qd L' e (.lst (za (lk++ct++((zb wd).take i).flatMap (aE wd xs))++[prN (r,i')]))) e (.lst (za (lk++ct++((zb wd).take i).flatMap (aE wd xs))++[prN (r,i')]++[prN (r,j')])),?_,?_⟩
     ·refine qe g (qu g ⟨?_,?_⟩)
      ·unfold za;rw[Ae,Ac,Ac];exact big _ (by omega)
      refine qe q9 (qu q9 ⟨?_,?_⟩)
      ·unfold za;rw[Ac,Ae,Ac,Ac];exact big _ (by simp only[Bp];omega)
      exact⟨rfl,rfl⟩
     ·rintro τ2 L2 ⟨rfl,rfl⟩;refine⟨_,ED _,_,_,rfl,(s.upd he).upd he,(qa (AH ep)).trans ((qa (AH ep)).trans gp),?_⟩;rw[q9,et,ge,z,Ax];rfl
    |true=>
     have hn:=afz ek;have hk':=zm hn;rw[<-ok.len] at hk';have ev:=kd _ r _ hk' hn (Aj hk');have z:aE wd xs r=[(r,ah wd (xs[(bE (jo true) wd r).length]'hk') r)]:=by unfold aE;rw[ek];show [(r,ah wd (xs[(bE (jo true) wd r).length]?.getD 0) r)]=_;rw[Aj hk'];rfl
     refine⟨fun τ2 L2=>τ2=tE a l c h d e (some (.int (r:Int))) (some (fB (some (.nd true i' j'))))/\L2=L',⟨rfl,rfl⟩,?_⟩;rintro τ2 L2 ⟨rfl,rfl⟩;refine qe g (kc (s _ _ g1) (qm ev (qu g ⟨?_,?_⟩)))
     ·unfold za;rw[Ae,Ac,Ac];exact big _ (by omega)
     refine⟨_,ED _,_,_,rfl,s.upd he,(qa (AH ep)).trans gp,?_⟩;rw[q9,et,ge,z];rfl
 ·rintro τ L' ⟨c4,c5,rfl,s,_,g⟩;rw[kq,Bn,uV] at g;exact⟨qd L e (.lst (za (rM wd lk ct xs))),(s1.trans s).put g,q e (s1.none he)⟩
def pJ:kn:=(jy (gm ft (qf (pY 1 (vq (xj 0 0)) (qg 2) (o4 (yB (dI true (qb 2))) (i8 (xj 2 0) (qb 1))) (qb 2)) qx)))
def l9(p0:jj)(p1:jj):kn:=(jy (pY 1 (hU (ki (qb 1))) (qg 3) oy (zr wq (zr bB (zg p0 (qf (zg p1 (aK (qb 0) (qb 3))) (qf (zr vn (qb 3) (qb 2)) (ki (jx 16807))))) (zr vn (qb 2) (jx 1))) (jx 2))))
def afm(p0:jj)(p1:jj)(p2:jj)(p3:jj)(p4:jj)(p5:jj)(p6:jj)(p7:jj)(p8:jj)(p9:jj)(p10:jj)(p11:jj):kn:=(qt (zw (zr wq (zg p0 (aK (qb 0) (jx 0))) (zr ap6 (jx 10) (jx 9))) (qg 1))
 (qt (zw (zr (nX false) (zr wq (zg p1 (qf (qb 1) (aK (jx 5) (jx 16807)))) (jx 4)) (jx 1)) (qg 2))
 (qt (zw (zg p2 (qf (qb 0) (qf (qb 1) (qf (yIf (yB (qb 2)) (jx 57) (jx 100)) qx)))) (wm 2 (zu (qg 3) (zu (qg 4) w4))))
 (qt (zw (zg p3 (ki (qb 4))) (wm 2 (zu (qg 5) (zu (qg 6) w4))))
 (qt (zw (zg p4 (qf (qb 3) (qf (qb 5) (qf (qb 6) (aK (qb 1) (qb 2)))))) (qg 7))
 (qt (zw (zg p5 (ki (qb 7))) (qg 8))
 (qt (fD (hU (ki (jx 2))) (qg 9) (va (yB (dI true (zg p6 (qf (qb 8) (qf (zg p7 (qf (qb 0) (qf (zg p8 (aK (qb 7) (fg "either"))) (ki (qb 9))))) qx))))) (jy (yC (.bl false))) x0))
 (qt (va (yOr (yB (zr (ahc true) (zg p10 (ki (qb 8))) (yC (.bl true)))) (yB (dI true (zg p9 (ki (qb 8)))))) (jy (yC (.bl false))) x0)
 (jy (zg p11 (aK (qb 8) (qb 7))))))))))))
def l8:jj:=fun ys L Q=>∃a l c,∃wd:List (Option Kn),ys=[cW a l c,.str "either"]/\L a=some (.lst (ak wd))/\wd.length≤1000/\Q (.int ((jt true wd).length:Int)) L
theorem aa4:∀ys L Q,l8 ys L Q->xq pJ 2 ys L Q:=by
 rintro ys L Q ⟨a,l,c,wd,rfl,ha,hz,q⟩;refine xz ha fun keep kp=>cq (fun i zs=>zs.length=(bE (jo true) wd i).length) (by rw[bS];exact Bf hz (by decide)) (kp _ rfl) rfl ?_ ?_
 ·rintro i y zs hy hz';rw[Av] at hy;obtain⟨k,ek,rfl⟩:=AE.mp hy;have no:jo true k=false->dy (fun zs L'=>L'=L/\zs.length=(bE (jo true) wd (i+1)).length) zs L:=fun h=>⟨L,ED _,rfl,by rw[aF ek,Aq (by rw[h];exact Az),AZ];exact hz'⟩;have yes:∀z,jo true k=true->dy (fun zs L'=>L'=L/\zs.length=(bE (jo true) wd (i+1)).length) (zs++[z]) L:=fun z h=>⟨L,ED _,rfl,by rw[aF ek,As h,Ac,Ac,hz'];rfl⟩;cases k with
  |none=>exact no rfl
  |some k=>
   cases k with
   |lf t n=>cases t<;>exact no rfl
   |nd e i' j'=>
    cases e with|true=>exact yes _ rfl|false=>exact no rfl
 ·intro zs hz' p hp;rw[bS] at hz';refine qe q9 (eY (By hp) ?_);rw[hz'];exact q
def t7:jj:=fun ys L Q=>∃ns:List Int,∃n:Nat,∃t:Int,ys=[.sq (ns.map Y.int),.int (n:Int),.int t]/\n≤1000/\0≤t/\t≤1000/\∀xs:List Int,xs.length=n->(∀x∈xs,x=0\/x=1)->∀p,L p=none->Q (.ref p) (qd L p (.lst (xs.map Y.int)))
theorem akg:∀ys L Q,t7 ys L Q->xq (l9 fC cA) 3 ys L Q:=by
 rintro ys L Q ⟨ns,n,t,rfl,hn,t0,ht,q⟩;refine⟨⟨A2 _,by omega⟩,?_⟩;rw[B5];refine ud (fun i zs=>∃xs:List Int,zs=xs.map Y.int/\xs.length=i/\∀x∈xs,x=0\/x=1) (Bf hn (by decide)) ⟨[],rfl,rfl,fun x h=>by cases h⟩ ?_ ?_
 ·rintro i zs hi ⟨xs,rfl,hl,hb⟩;refine⟨ns,_,rfl,by omega,fun v=>⟨v,_,_,rfl,by omega,by omega,by decide,by decide,fun r r0 r1=>?_⟩⟩;refine⟨⟨by omega,by omega⟩,(by decide:(0:Int)<2),_,ED _,rfl,xs++[r / (t+1) % 2],by rw[AC];rfl,by rw[Ac,hl];rfl,fun x hx=>?_⟩;rcases Ak.mp hx with hx | hx
  ·exact hb x hx
  ·rw[Au.mp hx];omega
 ·rintro zs ⟨xs,rfl,hl,hb⟩ p hp;exact xu (q xs hl hb p hp)
structure TF(wd:List (Option Kn))(es:List (Nat×Nat)):Prop where
 in_:abz wd es
 nr:∀(i:Nat) (e:Nat×Nat),es[i]?=some e->f7 (es.take i) id e.1≠f7 (es.take i) id e.2
 one:∀T:Nat->Nat->Prop,(∀a,T a a)->(∀a b,T a b->T b a)->(∀a b c,T a b->T b c->T a c)->(∀e∈es,T e.1 e.2)->∀a b,dm wd a=true->dm wd b=true->T a b
 ex:∃z,dm wd z=true
theorem xY(wd:List (Option Kn))(xs:List Int)(i:Nat):g9 wd xs (i+1)=g9 wd xs i++aE wd xs i:=by unfold g9;rw[DS,AN,AU,Dh,AZ]
theorem jJ(wd:List (Option Kn))(xs:List Int):∀n,n≤wd.length->(g9 wd xs n).length=2*(bE (jo false) wd n).length+(bE (jo true) wd n).length
 |0,_=>rfl
 |n+1,h=>by
  have ih:=jJ wd xs n (Nat.le_of_succ_le h);have ek:=Aj (Nat.lt_of_succ_le h);rw[xY,Ac,aF ek,aF ek,Ac,Ac,ih];unfold aE;rw[ek];generalize wd[n]=k;cases k with
  |none=>rfl
  |some k=>
   cases k with
   |lf t n=>rfl
   |nd e i j=>
    cases e with|false=>simp[jo];lia|true=>simp[jo];lia
theorem aew{xs:List Int}{x:Nat×Nat}(h:x∈g9 wd xs n):∃e i j,wd[x.1]?=some (some (.nd e i j))/\(x.2=i\/x.2=j):=by
 obtain⟨r,_,hx⟩:=Ba.mp h;unfold aE at hx;split at hx
 ·rename_i i j e;rcases Ar.mp hx with rfl | hx
  ·exact⟨_,_,_,e,.inl rfl⟩
  ·rw[Au.mp hx];exact⟨_,_,_,e,.inr rfl⟩
 ·rename_i i j e;rw[Au.mp hx];refine⟨_,_,_,e,?_⟩;show ah wd _ r=_\/ah wd _ r=_;unfold ah;rw[e];show(if _ then j else i)=i\/(if _ then j else i)=j;split
  ·exact .inr rfl
  ·exact .inl rfl
 ·cases hx
theorem wZ{xs:List Int}{r:Nat}(h:wd[r]?=some (some (.nd false i j))):(r,i)∈g9 wd xs wd.length/\(r,j)∈g9 wd xs wd.length:=by
 have e:aE wd xs r=[(r,i),(r,j)]:=by unfold aE;rw[h]
 constructor<;>refine Ba.mpr ⟨r,AF.mpr (zm h),?_⟩<;>rw[e]
 ·exact An ..
 ·exact Ah _ (An ..)
theorem yk{xs:List Int}{r:Nat}(h:wd[r]?=some (some (.nd true i j))):(r,i)∈g9 wd xs wd.length\/(r,j)∈g9 wd xs wd.length:=by
 have e:aE wd xs r=[(r,ah wd (xs[(bE (jo true) wd r).length]?.getD 0) r)]:=by unfold aE;rw[h]
 have m:(r,ah wd (xs[(bE (jo true) wd r).length]?.getD 0) r)∈g9 wd xs wd.length:=Ba.mpr ⟨r,AF.mpr (zm h),by rw[e];exact Au.mpr rfl⟩;have p:∀x,ah wd x r=if x=1 then j else i:=fun x=>by unfold ah;rw[h]
 rw[p] at m;split at m
 ·exact .inr m
 ·exact .inl m
theorem cr.edges(W:cr wd lk ct)(xs:List Int):TF wd (rM wd lk ct xs):=by
 obtain⟨i1,i2,i3,_,_,_,z⟩:=W.in_;have hin:abz wd (rM wd lk ct xs):=fun x hx=>by
  rcases Ak.mp hx with hx | hx
  ·rcases Ak.mp hx with hx | hx
   ·exact i1 x hx
   ·exact i2 x hx
  ·obtain⟨e,i,j,h1,h2⟩:=aew hx;obtain⟨t1,t2⟩:=i3 _ _ _ _ h1;exact⟨oY h1,h2.elim (fun e=>e▸t1) fun e=>e▸t2⟩
 have one:∀T:Nat->Nat->Prop,(∀a,T a a)->(∀a b,T a b->T b a)->(∀a b c,T a b->T b c->T a c)->(∀e∈rM wd lk ct xs,T e.1 e.2)->∀a b,dm wd a=true->dm wd b=true->T a b:=fun T rf sy tr hj a b ta tb=>by
  refine W.one rf sy tr (fun x hx=>hj x (Ap _ (Ap _ hx))) (fun x hx=>hj x (Ap _ (Ag _ hx))) (fun r i j h=>?_) (fun r i j h _=>?_) a (cB.mp ta) b (cB.mp tb)
  ·obtain⟨m1,m2⟩:=wZ (xs:=xs) h;exact⟨hj _ (Ag _ m1),hj _ (Ag _ m2)⟩
  ·exact(yk (xs:=xs) h).imp (fun m=>hj _ (Ag _ m)) fun m=>hj _ (Ag _ m)
 refine⟨hin,af0 (n:=wd.length) (th:=dm wd) (fun e he=>⟨kz (hin e he).1,kz (hin e he).2⟩) (fun T rf sy tr hj a b _ _ ta tb=>one T rf sy tr hj a b ta tb) ?_,one,z⟩;have c:=W.count;rw[<-mZ];unfold rM;rw[Ac,Ac,jJ wd xs _ (Am _)];have c:lk.length+ct.length+2*(bE (jo false) wd wd.length).length+(bE (jo true) wd wd.length).length+1=(zb wd).length:=c;lia
def kR:jj:=fun ys L Q=>∃a l c h,∃wd:List (Option Kn),∃lk ct:List (Nat×Nat),∃xs:List Int,ys=[cW a l c,.ref h]/\L a=some (.lst (ak wd))/\L l=some (.lst (za lk))/\L c=some (.lst (za ct))/\L h=some (.lst (xs.map Y.int))/\wd.length≤1000/\lk.length≤2000/\ct.length≤2000/\xs.length≤2000/\aj1 wd xs/\TF wd (rM wd lk ct xs)/\Q .non L
theorem lm{L:ql}:∀l:List Nat,Paired (x5 L 0) (nY l) (l.map fun n:Nat=>Da.s (.int (n:Int)))
 |[]=>.nil
 |_::r=>.cons ⟨rfl,rfl⟩ (lm r)
theorem adz(l:List Nat):Da.eqs (l.map fun n:Nat=>Da.s (.int (n:Int))) (l.map fun n:Nat=>Da.s (.int (n:Int)))=true:=(jA l l).mpr rfl
theorem acg :∀ys L Q,kR ys L Q->xq (tK C gi (fc C) (cf C) bC (f9 C)) 9 ys L Q:=by
 rintro ys L Q ⟨a,l,c,h,wd,lk,ct,xs,rfl,ha,hl,hc,hh,hz,zl,zc,zx,ok,F,q⟩;refine⟨a,l,c,h,wd,lk,ct,xs,rfl,ha,hl,hc,hh,hz,zl,zc,zx,ok,fun e he=>?_⟩;generalize rM wd lk ct xs=es at F ⊢;have s0:qk L (qd L e (.lst (za es))):=By he;have e0:qd L e (.lst (za es)) e=some (.lst (za es)):=q9;generalize qd L e (.lst (za es))=L1 at s0 e0 ⊢;refine qe (s0 _ _ ha) fun x hx=>⟨x,wd.length,_,rfl,by rw[Ae],q9,hz,fun hp hhp=>⟨rfl,?_⟩⟩;have hxp:x≠hp:=xo q9 hhp;have nhp:L1 hp=none:=j8 hhp;have hx2:(qd (qd (qd L1 x (.ins C [])) hp (.lst (nY (List.range wd.length)))) x (.ins C (eW hp))) x=some (.ins C (eW hp)):=q9;have hh2:(qd (qd (qd L1 x (.ins C [])) hp (.lst (nY (List.range wd.length)))) x (.ins C (eW hp))) hp=some (.lst (nY (List.range wd.length))):=(qa (AH hxp)).trans q9;have sub:qk L1 (qd (qd (qd L1 x (.ins C [])) hp (.lst (nY (List.range wd.length)))) x (.ins C (eW hp))):=(((By hx).trans (By hhp)).upd hx);generalize qd (qd (qd L1 x (.ins C [])) hp (.lst (nY (List.range wd.length)))) x (.ins C (eW hp))=L2 at hx2 hh2 sub;have e2:=sub _ _ e0;have nep:e≠hp:=xo e0 nhp;have fo:∀A,(qd L2 hp A) x=some (.ins C (eW hp)):=fun A=>(qa hxp).trans hx2;have ln:(List.range wd.length).length=wd.length:=AX;refine xz e2 fun keep kp=>af ⟨fun i τ L'=>∃hs' c4 c5,τ=[some (cW a l c),some (.ref h),some (.ref e),some (.ref x),c4,c5,none,none,none]/\L'=qd L2 hp (.lst (nY hs'))/\hs'.length=wd.length/\(∃rk,eG rk hs')/\JnR (List.range wd.length) hs' (es.take i),⟨List.range wd.length,_,_,rfl,(aR hh2).symm,ln,⟨_,sT _⟩,fun _ _ z=>z,(fun x hx=>by cases hx),fun _ _ _ F=>F⟩,?_,?_,?_⟩
 ·rintro i τ L' ⟨hs',c4,c5,rfl,rfl,_⟩;exact kp _ (qa nep)
 ·rintro i y τ L' hy ⟨hs',c4,c5,rfl,rfl,g1,⟨rk,g2⟩,jn⟩;obtain⟨z,ez,rfl⟩:=ff hy;rw[Av] at ez;obtain⟨⟨p,q'⟩,ex,rfl⟩:=AE.mp ez;obtain⟨h1,h2⟩:=F.in_ _ (AI ex);have h1:p<wd.length:=kz h1;have h2:q'<wd.length:=kz h2;obtain⟨a',ta⟩:=g2.rep' (i:=p) (by lia);obtain⟨b',tb⟩:=g2.rep' (i:=q') (by lia);have E:Eqv fun u v=>f7 (es.take i) id u=f7 (es.take i) id v:=⟨fun _=>rfl,fun h=>h.symm,fun h k=>h.trans k⟩;have ne:a'≠b':=fun z=>F.nr i _ ex (jn.2.2 _ E (ol _ _) (lQ E _) p q' ⟨a',ta,z▸tb⟩);have et:es.take (i+1)=es.take i++[(p,q')]:=by rw[Bo,ex];rfl
  refine xx (fo _) ⟨rfl,eZ,x,hp,hs',p,q',a',b',_,_,rfl,rfl,rfl,fo _,q9,⟨rk,g2⟩,ta,tb,by lia,by lia,fun hs2 l2 k2 r2 e1 e2=>?_⟩;rw[jc];refine bT (by rw[AA ne];rfl) ⟨_,ED _,hs2,_,_,rfl,rfl,by lia,k2,?_⟩;rw[et];exact jn.snoc g2 l2 r2 ta tb
 rintro τ L' ⟨hs',c4,c5,rfl,rfl,g1,⟨rk,g2⟩,jn⟩;rw[dX,Ae,Bn] at jn;have s3:qk L (qd L2 hp (.lst (nY hs'))):=(s0.trans sub).upd (s0.none nhp);obtain⟨z,tz⟩:=F.ex;obtain⟨t0,rest,et⟩:∃t0 rest,zb wd=t0::rest:=by have:=cB.mp tz;cases e:zb wd with|nil=>rw[e] at this;cases this|cons t r=>exact⟨t,r,rfl⟩
 have m0:dm wd t0=true:=cB.mpr (by rw[et];exact An ..);obtain⟨r0,tr0⟩:=g2.rep' (i:=t0) (by have:=kz m0;lia);have all:∀n,dm wd n=true->kj hs' n r0:=fun n hn=>by have E:=vN hs';obtain⟨r,u,v⟩:=jX g2 (by have:=kz hn;lia) (F.one (fun a b=>a=b\/qA hs' a b) E.r (fun _ _=>E.s) (fun _ _ _=>E.t) (fun e he=>.inr (jn.2.1 e he)) n t0 hn m0);rw[tr0.uniq v];exact u
 refine⟨a,wd,rfl,s3 _ _ ha,hz,fun t ht=>?_⟩;have hxt:x≠t:=xo (fo _) ht;have hpt:hp≠t:=xo q9 ht;have s4:qk L (qd (qd L2 hp (.lst (nY hs'))) t (.lst (nY (zb wd)))):=s3.trans (By ht);have x3:∀A,qd (qd (qd L2 hp (.lst (nY hs'))) t (.lst (nY (zb wd)))) hp A x=some (.ins C (eW hp)):=fun A=>(qa hxp).trans ((qa hxt).trans (fo _));have x3':qd (qd L2 hp (.lst (nY hs'))) t (.lst (nY (zb wd))) x=some (.ins C (eW hp)):=(qa hxt).trans (fo _);have p3:qd (qd L2 hp (.lst (nY hs'))) t (.lst (nY (zb wd))) hp=some (.lst (nY hs')):=(qa hpt).trans q9;have t3:qd (qd L2 hp (.lst (nY hs'))) t (.lst (nY (zb wd))) t=some (.lst (nY (zb wd))):=q9;have nL:L hp=none:=s0.none nhp;generalize qd (qd L2 hp (.lst (nY hs'))) t (.lst (nY (zb wd)))=L3 at s4 x3 x3' p3 t3 ⊢;have a0:dg (nY (zb wd)) 0=some (.int (t0:Int)):=sL (i:=0) (by rw[et];rfl);refine xx x3' ⟨rfl,aP,qe t3 (qm a0 ⟨x,hp,hs',t0,_,rk,rfl,rfl,x3',p3,g2,by have:=kz m0;lia,fun r hs2 l2 k2 t2 a2 n2=>?_⟩)⟩;cases t2.uniq tr0;have t4:∀A,qd L3 hp A t=some (.lst (nY (zb wd))):=fun A=>(qa (AH hpt)).trans t3;refine xz (t4 _) fun keep kp=>oE ⟨by rw[kq];exact Bf (AL (bR _ _ _) hz) (by decide),fun k zs L'=>∃hs3,L'=qd L3 hp (.lst (nY hs3))/\hs3.length=wd.length/\eG rk hs3/\(∀y s,kj hs' y s->kj hs3 y s)/\zs=nY ((zb wd).take k),⟨hs2,rfl,by lia,k2,a2,rfl⟩,?_,?_,?_⟩
 ·rintro k zs L' ⟨hs3,rfl,_⟩;exact kp _ ((t4 _).trans (t4 _).symm)
 ·rintro k y zs L' hy ⟨hs3,rfl,l3,k3,r3,rfl⟩;obtain⟨n,en,rfl⟩:=bP hy;have hn:=cB.mpr (AI en);refine xx (x3 _) ⟨rfl,aP,x,hp,hs3,n,_,rk,rfl,rfl,x3 _,q9,k3,by have:=kz hn;lia,fun r hs4 l4 k4 t4 a4 n4=>?_⟩;cases t4.uniq (r3 _ _ (all n hn));refine lW (AB rfl) ⟨_,ED _,hs4,jc,by lia,k4,fun y s z=>a4 y s (r3 y s z),?_⟩;rw[Bo,en,Option.toList_some,aai];rfl
 ·rintro zs L' ⟨hs3,rfl,l3,k3,r3,rfl⟩ p5 hp5;rw[kq,Bn];have s5:=By (o:=.lst (nY (zb wd))) hp5;refine⟨rfl,rfl,1,1,_,_,by decide,aS q9 (lm _),aS (s5 _ _ (t4 _)) (lm _),?_⟩;show ke (Da.eqs _ _) _ _;rw[adz];exact eY ((s4.upd nL).trans s5) q
def rL:kn:=(jy (k6 (qf (gm gA (ki (xj 0 0))) (qf (gm gA (ki (xj 0 1))) (qf (gm gA (ki (xj 0 2))) qx)))))
def o6:jj:=fun ys L Q=>∃a l c,∃xs zs us:List Y,ys=[cW a l c]/\L a=some (.lst xs)/\L l=some (.lst zs)/\L c=some (.lst us)/\∀a' l' c' L',qk L L'->L a'=none->L l'=none->L c'=none->a'≠l'->a'≠c'->l'≠c'->L' a'=some (.lst xs)->L' l'=some (.lst zs)->L' c'=some (.lst us)->Q (cW a' l' c') L'
theorem afv:∀ys L Q,o6 ys L Q->xq rL 1 ys L Q:=by rintro ys L Q ⟨a,l,c,xs,zs,us,rfl,ha,hl,hc,q⟩;refine qe ha fun p1 h1=>?_;have s1:=By (o:=.lst xs) h1;refine qe (s1 _ _ hl) fun p2 h2=>?_;have s2:=s1.trans (By (o:=.lst zs) h2);refine qe (s2 _ _ hc) fun p3 h3=>?_;have n12:p1≠p2:=xo q9 h2;have n23:p2≠p3:=xo q9 h3;have n13:p1≠p3:=xo ((qa n12).trans q9) h3;exact xu (q p1 p2 p3 _ (s2.trans (By h3)) h1 (s1.none h2) (s2.none h3) n12 n13 n23 ((qa n13).trans ((qa n12).trans q9)) ((qa n23).trans q9) q9)
theorem jL{xs:List Y}(h:∀x∈xs,cX L n x x):Paired (cX L n) xs xs:=by induction xs with|nil=>exact .nil|cons x r ih=>exact .cons (h x (An ..)) (ih fun y hy=>h y (Ah _ hy))
theorem qU(l:List (Nat×Nat)):Paired (cX L (n+2)) (za l) (za l):=jL fun x hx=>by obtain⟨m,_,rfl⟩:=Bq.mp hx;exact .inr (.inl ⟨_,_,rfl,rfl,.cons (.flat rfl) (.cons (.flat rfl) .nil)⟩)
theorem afo(l:List (Option Kn)):Paired (cX L (n+2)) (ak l) (ak l):=jL fun x hx=>by
 obtain⟨m,_,rfl⟩:=Bq.mp hx;cases m with
 |none=>exact .flat rfl
 |some k=>
  cases k with|lf t n=>exact .inr (.inl ⟨_,_,rfl,rfl,.cons (.flat rfl) (.cons (.flat rfl) .nil)⟩)|nd e i j=>exact .inr (.inl ⟨_,_,rfl,rfl,.cons (.flat rfl) (.cons (.flat rfl) (.cons (.flat rfl) .nil))⟩)
theorem eV{a b:Addr}{xs:List Y}(ha:L a=some (.lst xs))(hb:L b=some (.lst xs))(p:Paired (cX L n) xs xs):cX L (n+1) (.ref a) (.ref b):=.inr (.inr ⟨a,b,xs,xs,rfl,rfl,ha,hb,p⟩)
end L3
namespace L2
open PySem PySem.W
section
variable {K:Af}(T:K.lookup Pt=some (PySem.W.tabObj #[]))
include T
theorem uK :clsIn (lessK Pt K) C=clsIn K C:=by
 unfold clsIn;by_cases d:C=Pt
 ·subst d;rw[ky,T]
 ·rw[xa d]
theorem ahp{b:Value}:mroIn (lessK Pt K) C b=mroIn K C b:=by unfold mroIn;rw[uK T]
theorem akc{t b:Value}:subIn (lessK Pt K) t b=subIn K t b:=by
 unfold subIn;split
 ·rfl
 ·exact ahp T
 ·rfl
end
section
variable {K:Af}(T:K.lookup Pt=some (PySem.W.tabObj #[]))
include T
theorem isFn_dn{a:Addr}(e:isFn K (.ref a)=true):isFn (lessK Pt K) (.ref a)=true:=by
 unfold isFn at e ⊢;by_cases d:a=Pt
 ·subst d;have h:typeIn K (.ref a)=some Value.none:=by show(List.lookup a K).map _=_;rw[T];rfl
  rw[h] at e;cases e
 ·have h:typeIn (lessK Pt K) (.ref a)=typeIn K (.ref a):=by show(List.lookup a (lessK Pt K)).map _=(List.lookup a K).map _;rw[xa d]
  rw[h];exact e
theorem Cls.dn(c:Cls K C):Cls (lessK Pt K) C:=by
 obtain⟨pg,hd,po,sa⟩:=c;unfold plainGet at pg;unfold hasDictIn at hd;unfold plainOver at po;refine⟨?_,?_,?_,(find_dn T).trans sa⟩
 ·unfold plainGet;rw[find_dn T,find_dn T];exact pg
 ·unfold hasDictIn;rw[uK T];exact hd
 ·unfold plainOver;rw[uK T];exact po
theorem makes_dn(e:makesIn K C=true):makesIn (lessK Pt K) C=true:=by
 unfold makesIn at e ⊢;by_cases d:C=Pt
 ·subst d;rw[T] at e;cases e
 ·have h:typeIn (lessK Pt K) (.ref C)=typeIn K (.ref C):=by show(List.lookup C (lessK Pt K)).map _=(List.lookup C K).map _;rw[xa d]
  have s:∀b,subIn (lessK Pt K) b (.type "type")=subIn K b (.type "type"):=fun b=>akc T;unfold instIn at e ⊢;simp only[xa d,lO T d,h,s];exact e
end
end L2
namespace L3
open PySem L2
theorem XFP.dn{K:Af}(T:K.lookup Pt=some (PySem.W.tabObj #[]))(x:XFP K C):XFP (lessK Pt K) C:=⟨Cls.dn T x.cl,(find_dn T).trans x.na⟩
open PySem L2 Words
theorem zN{b:Bool}{K:YK}(h:∀r:Nat,r≤120->yC (.int (r:Int)) τ L K):ke b (yC (.int 57) τ L K) (yC (.int 100) τ L K):=xH (h 57 (by decide)) (h 100 (by decide))
theorem ad6 :∀ys L Q,ow Pt lamQ ys L Q->xq (afm cA fC pQ pO (gx Pt) o6 kR t7 l8 kO dS (fO 124)) 10 ys L Q:=by
 rintro ys L Q ⟨ns,rfl,h63,hL,q⟩;have hP:L Pt=some (.tb lamQ):=by rw[hL];exact q9
 clear hL;refine⟨ns,0,rfl,by decide,fun v=>⟨⟨by decide,by decide,by decide⟩,(show(0:Int)<10 ^ (9:Int).toNat by decide),?_⟩⟩;refine⟨_,5,16807,rfl,by decide,by decide,by decide,by decide,fun v h0 h1=>⟨show(0:Int)<4 by decide,?_⟩⟩;show ke (nb false (decide (v % 4=1))) _ _;refine zN fun room hr=>?_;refine⟨_,ns,_,room,rfl,rfl,by lia,hr,fun ka ks R E hka ok SRh tp kl=>?_⟩;have hk120:ks.length≤120:=by lia
 have tl:(z9 R).length=ks.length:=by rw[tp.length_eq,AX]
 have tn:(z9 R).Nodup:=tp.nodup_iff.mpr Bw;have tlt:∀x∈z9 R,x<ks.length:=fun x hx=>AF.mp (tp.mem_iff.mp hx);have LI:=SRh.lkI tn;obtain⟨cn,cin⟩:=SRh.cuts tn;have tc:=vo R;have clt:∀x∈jr R,x.1<ks.length/\x.2<ks.length:=fun x hx=>⟨tlt _ (cin _ (dH hx).1).2,tlt _ (cin _ (dH hx).2).2⟩;have llt:∀x∈jd R,x.1<x.2/\x.2<ks.length:=fun x hx=>by obtain⟨h,t,n,a,b⟩:=SRh.links x hx;exact⟨h,zm b⟩
 have s1:qk L (qd L ka (.lst (ja ks))):=By hka;have rd:=wr R;have rz:=bA R;refine⟨R,rfl,by lia,by lia,aU LI.nd,aU cn,fun p hp=>by have:=(llt p hp).2;lia,fun p hp=>by have:=(clt p hp).2;lia,by lia,by lia,fun la ca lk ct hla hca nlc pl pw1 pc pw2=>?_⟩;have nka:ka≠la:=xo q9 hla;have nkc:ka≠ca:=xo q9 hca;have hca':(qd (qd L ka (.lst (ja ks))) la (.lst (za lk))) ca=none:=(qa (AH nlc)).trans hca;have s2:qk L (qd (qd (qd L ka (.lst (ja ks))) la (.lst (za lk))) ca (.lst (za ct))):=(s1.trans (By hla)).trans (By hca');have g1:qd (qd (qd L ka (.lst (ja ks))) la (.lst (za lk))) ca (.lst (za ct)) ka=some (.lst (ak (ks.map some))):=by rw[aak];exact(qa nkc).trans ((qa nka).trans q9)
 have g2:qd (qd (qd L ka (.lst (ja ks))) la (.lst (za lk))) ca (.lst (za ct)) la=some (.lst (za lk)):=(qa nlc).trans q9;have g3:qd (qd (qd L ka (.lst (ja ks))) la (.lst (za lk))) ca (.lst (za ct)) ca=some (.lst (za ct)):=q9;generalize qd (qd (qd L ka (.lst (ja ks))) la (.lst (za lk))) ca (.lst (za ct))=L1 at s2 g1 g2 g3 ⊢;have ll:=pl.length_eq;have lc:=pc.length_eq;have lo:(ks.map some).length=ks.length:=Ae ..;refine⟨ka,la,ca,ks.map some,lk,ct,_,_,rfl,g1,g2,g3,zX ok,by lia,s2 _ _ hP,pl.nodup_iff.mpr (aU LI.nd),fun p hp=>by rw[lo];exact llt p (pl.mem_iff.mp hp),by lia,pc.nodup_iff.mpr (aU cn),fun p hp=>by rw[lo];exact clt p (pc.mem_iff.mp hp),by lia,fun f wd lk' ct' wa la' ca' L4 rn pl' pwl pc' pwc sl nw nl nc n1 n2 n3 e1 e2 e3=>?_⟩;have W:cr wd lk' ct':=⟨ks,R,E,f,ok,SRh,tp,hk120,rn,pl'.trans (pl.map _),pc'.trans (pc.map _)⟩;obtain⟨_,_,_,w1,w2,w3,_⟩:=W.in_;obtain⟨r1,r2⟩:=W.right;have kl:(jt true wd).length≤wd.length:=bR (jo true) wd wd.length;refine⟨wa,la',ca',_,_,_,rfl,e1,e2,e3,fun a' l' c' L5 s5 _ _ _ _ _ _ h1 h2 h3=>?_⟩;have k1:=s5 _ _ e1;have k2:=s5 _ _ e2;have k3:=s5 _ _ e3;clear s5 e1 e2 e3 nw nl nc n1 n2 n3 sl g1 g2 g3 s2 s1 hca' nkc nka hla hca hka;refine⟨⟨by decide,by decide⟩,?_⟩;refine vY (fun i τ L2=>∃c1 c2 c9,τ=[some (.sq (ns.map Y.int)),c1,c2,some (.ref ka),some (zf R),some (.ref la),some (.ref ca),some (cW wa la' ca'),some (cW a' l' c'),c9]/\L2=L5) ⟨_,_,_,rfl,rfl⟩ ?_ ?_
 ·rintro i τ L2 hi ⟨c1,c2,c9,rfl,rfl⟩;refine⟨wa,la',ca',wd,rfl,k1,by lia,?_⟩;have hi:i<2:=hi;refine⟨ns,_,_,rfl,by lia,by lia,by lia,fun xs hxl hxb p hp=>?_⟩;have s6:=By (o:=.lst (xs.map Y.int)) hp;refine⟨a',l',c',p,wd,lk',ct',xs,rfl,s6 _ _ h1,s6 _ _ h2,s6 _ _ h3,q9,by lia,by lia,by lia,by lia,⟨hxl,hxb⟩,W.edges xs,?_⟩;exact⟨L2,s6,_,_,_,rfl,rfl⟩
 rintro τ L2 ⟨c1,c2,c9,rfl,rfl⟩;have T:aif L2 a' l' c' wd lk' ct':=⟨h1,h2,h3,by lia,by lia,by lia,r1,r2⟩;refine⟨a',l',c',wd,lk',ct',rfl,T,?_⟩;refine⟨a',l',c',wd,lk',ct',rfl,T,?_⟩;exact⟨_,_,rfl,.inr (.inl ⟨_,_,rfl,rfl,.cons (eV h1 k1 (afo (n:=120) wd)) (.cons (eV h2 k2 (qU (n:=120) lk')) (.cons (eV h3 k3 (qU (n:=120) ct')) .nil))⟩),xu (q _)⟩
end L3
end
set_option maxRecDepth 100000
set_option maxHeartbeats 8000000
namespace K34
open PySem L2 L3 Words
abbrev ng:Str:="_law_knots"
abbrev nh:Str:="_law_word_here"
abbrev nj:Str:="_law_script"
abbrev nq:Str:="_law_seed"
abbrev nt:Str:="_law_one"
abbrev nu:Str:="_law_two"
abbrev nv:Str:="_law_forest"
abbrev ny:Str:="_law_k"
abbrev nE:Str:="_law_p"
abbrev nF:Str:="_law_web"
abbrev nG:Str:="_law_links"
abbrev nH:Str:="_law_knot"
abbrev nI:Str:="_law_turn"
abbrev nJ:Str:="_law_rule"
abbrev nK:Str:="_law_cuts"
abbrev nM:Str:="_law_cell_at"
abbrev nN:Str:="_law_choices"
def top(i:Nat):Stmt:=PySem.Challenge.pw_oncewise_k34_trees_webs_right.main.body.getD i (.Pass ⟨0,0,0,0⟩)
theorem apx:∀{us:List Value},us.length=1->∃a0,us=[a0]
 |[a0],_=>⟨a0,rfl⟩
theorem anw:∀{us:List Value},us.length=2->∃a0 a1,us=[a0,a1]
 |[a0,a1],_=>⟨a0,a1,rfl⟩
theorem aol:∀{us:List Value},us.length=3->∃a0 a1 a2,us=[a0,a1,a2]
 |[a0,a1,a2],_=>⟨a0,a1,a2,rfl⟩
theorem apj:∀{us:List Value},us.length=4->∃a0 a1 a2 a3,us=[a0,a1,a2,a3]
 |[a0,a1,a2,a3],_=>⟨a0,a1,a2,a3,rfl⟩
theorem aqc:∀{us:List Value},us.length=5->∃a0 a1 a2 a3 a4,us=[a0,a1,a2,a3,a4]
 |[a0,a1,a2,a3,a4],_=>⟨a0,a1,a2,a3,a4,rfl⟩
abbrev mx:Stmt:=top 7
abbrev du:Stmt:=(iw (top 4)).getD 0 (.Pass ⟨0,0,0,0⟩)
abbrev ap:Stmt:=(iw (top 4)).getD 1 (.Pass ⟨0,0,0,0⟩)
abbrev cZ:Stmt:=(iw (top 4)).getD 2 (.Pass ⟨0,0,0,0⟩)
abbrev cY:Stmt:=top 9
abbrev jH:Stmt:=top 10
abbrev fZ:Stmt:=top 11
abbrev kU:Stmt:=top 19
abbrev fk:Stmt:=top 20
abbrev lK:Stmt:=top 21
abbrev fV:Stmt:=top 22
abbrev mE:Stmt:=top 23
abbrev gH:Stmt:=top 24
abbrev jO:Stmt:=top 25
abbrev aJ:Stmt:=top 26
abbrev iB:Stmt:=top 27
abbrev iM:Stmt:=top 28
abbrev fP:Stmt:=top 13
abbrev jM:Stmt:=top 14
abbrev jK:Stmt:=top 17
abbrev dC:Stmt:=top 30
abbrev iI:Stmt:=top 31
abbrev kQ:Stmt:=top 32
abbrev iK:Stmt:=top 33
abbrev iX:Stmt:=top 34
abbrev iV:Stmt:=top 35
abbrev eF:Stmt:=top 36
abbrev eI:Stmt:=top 37
abbrev iU:Stmt:=top 38
abbrev iC:Stmt:=top 39
abbrev lI:Stmt:=top 40
abbrev iS:Stmt:=top 41
abbrev iL:Stmt:=top 42
abbrev s__law_order:Stmt:=top 43
abbrev eJ:Stmt:=top 44
abbrev iP:Stmt:=top 45
abbrev fW:Stmt:=top 46
abbrev cU:Stmt:=top 47
abbrev qG:Stmt:=top 48
structure V_ where
 (P:Program) (w:World) (K:Af) (mg:Str->Option Value) (base:Heap) (Pt:Addr) (Ca:Addr)
structure B_(V:V_):Prop where
 hp:∃h:Heap,V.K.In h/\h.Ns mainGlobals V.mg
 be:V.mg "list" = none
 bg:V.mg "range" = none
 bh:V.mg "enumerate" = none
 ba:V.mg "len" = none
 bw:V.mg "all" = none
 bu:V.mg "zip" = none
 bb:V.mg "isinstance" = none
 bj:V.mg "bool" = none
 bn:V.mg "tuple" = none
 bp:V.mg "int" = none
 br:V.mg "str" = none
 bi:V.mg "sorted" = none
 bq:V.mg "max" = none
 bv:V.mg "min" = none
 D0:z0 V.K "is_leaf" mx
 D1:cH V.K V.Ca "__init__" "Pieces.__init__" du
 D2:cH V.K V.Ca "head_of" "Pieces.head_of" ap
 D3:cH V.K V.Ca "unite" "Pieces.unite" cZ
 D4:z0 V.K "places_there" cY
 D5:z0 V.K "parts_of" jH
 D6:z0 V.K "eithers_of" fZ
 D7:z0 V.K "boths_of" kU
 D8:z0 V.K "part_edges" fk
 D9:z0 V.K "joins_of" lK
 D10:z0 V.K "join_steps" fV
 D11:z0 V.K "can_fold" mE
 D12:z0 V.K "fold_steps" gH
 D13:z0 V.K "steps_by" jO
 D14:z0 V.K "all_come_together" aJ
 D15:z0 V.K "right_web" iB
 D16:z0 V.K "first_bad" iM
 D17:z0 V.K "kept_parts" fP
 D18:z0 V.K "edges_by" jM
 D19:z0 V.K "fault_by" jK
 D20:z0 V.K nM dC
 D21:z0 V.K "_law_same" iI
 D22:z0 V.K "_law_mix" kQ
 D23:z0 V.K "_law_name" iK
 D24:z0 V.K "_law_word" iX
 D25:z0 V.K "_law_flip" iV
 D26:z0 V.K "_law_weight" eF
 D27:z0 V.K "_law_mirror" eI
 D28:z0 V.K "_law_join" iU
 D29:z0 V.K "_law_fold" iC
 D30:z0 V.K "_law_cut" lI
 D31:z0 V.K "_law_tree" iS
 D32:z0 V.K "_law_told" iL
 D33:DefInT V.K "_law_order" s__law_order V.Pt
 D34:z0 V.K "_law_gapped" eJ
 D35:z0 V.K "_law_copy" iP
 D36:z0 V.K "_law_count" fW
 D37:z0 V.K nN cU
 k_LEAF_KINDS:amj ⟨V.K,V.P,V.w⟩ V.mg "LEAF_KINDS" dz
 md:V.mg "Pieces" = some (.ref V.Ca)
 cl_Pieces:Cls V.K V.Ca
 mAPieces:PySem.W.makesIn V.K V.Ca=true
 mKPieces:PySem.W.keepIn V.K (.ref V.Ca)=true
 xf:L3.XFP V.K V.Ca
abbrev Q_(V:V_)(k:Nat)(x:Str)(ps:List Str)(sp:jj):Prop:=ait V.P V.w V.K V.mg V.base k x ps sp
abbrev c0(_:V_):Prop:=True
local macro_rules | `(tactic| walk_at "s")=>`(tactic| exact⟨rfl,rfl,rfl,by decide +kernel,rfl,by decide +kernel,by decide +kernel⟩)
local macro_rules | `(tactic| walk_at "l")=>`(tactic| first | exact fun _ _ _ ⟨_,e,_⟩=>by rw[e];rfl | exact fun _ _ _ ⟨_,_,e,_⟩=>by rw[e];rfl | exact fun _ _ _ ⟨_,_,_,e,_⟩=>by rw[e];rfl | exact fun _ _ _ ⟨_,_,_,_,e,_⟩=>by rw[e];rfl | exact fun _ _ _ ⟨_,_,_,_,_,e,_⟩=>by rw[e];rfl | exact fun _ _ _ ⟨_,_,_,_,_,_,e,_⟩=>by rw[e];rfl | exact fun _ _ _ ⟨_,_,_,_,_,_,_,e,_⟩=>by rw[e];rfl | exact fun _ _ _ ⟨_,_,_,_,_,_,_,_,e,_⟩=>by rw[e];rfl | exact fun _ _ _ ⟨_,_,_,_,_,_,_,_,_,e,_⟩=>by rw[e];rfl | exact fun _ _ _ ⟨_,_,_,_,_,_,_,_,_,_,e,_⟩=>by rw[e];rfl)
local macro_rules | `(tactic| walk_at "x")=>`(tactic| first | exact fun _ _ _ _ ⟨_,e,_⟩=>by rw[e];rfl | exact fun _ _ _ _ ⟨_,_,e,_⟩=>by rw[e];rfl | exact fun _ _ _ _ ⟨_,_,_,e,_⟩=>by rw[e];rfl | exact fun _ _ _ _ ⟨_,_,_,_,e,_⟩=>by rw[e];rfl | exact fun _ _ _ _ ⟨_,_,_,_,_,e,_⟩=>by rw[e];rfl | exact fun _ _ _ _ ⟨_,_,_,_,_,_,e,_⟩=>by rw[e];rfl | exact fun _ _ _ _ ⟨_,_,_,_,_,_,_,e,_⟩=>by rw[e];rfl | exact fun _ _ _ _ ⟨_,_,_,_,_,_,_,_,e,_⟩=>by rw[e];rfl | exact fun _ _ _ _ ⟨_,_,_,_,_,_,_,_,_,e,_⟩=>by rw[e];rfl | exact fun _ _ _ _ ⟨_,_,_,_,_,_,_,_,_,_,e,_⟩=>by rw[e];rfl)
local macro_rules | `(tactic| walk_at "b")=>`(tactic| (intro _ _ _ _ _ _ us hl;first | (obtain⟨_,e⟩:=apx hl;rw[e];rfl) | (obtain⟨_,_,e⟩:=anw hl;rw[e];rfl) | (obtain⟨_,_,_,e⟩:=aol hl;rw[e];rfl) | (obtain⟨_,_,_,_,e⟩:=apj hl;rw[e];rfl) | (obtain⟨_,_,_,_,_,e⟩:=aqc hl;rw[e];rfl)))
section
variable {f:Addr}{fd:FuncData}{x q:Str}{st:Stmt}{ps:List Str}(V:V_)(k:Nat)(N:List Str)
theorem W_{sp:jj}{t:kn}(F:zE V.K x q st f fd)(vc:∀ys L Q,sp ys L Q->xq t N.length ys L Q)(h:∀(cdv:Value) (A:Around) (outer:List Env) (s:Shared) (H:Hp) (E:XK),vm k (A.deeper (PyProof.Rows.envOfC q (qr st) s.heap.objs.size f cdv))->N.Nodup->(A.deeper (PyProof.Rows.envOfC q (qr st) s.heap.objs.size f cdv)).units+128<cLine->pZ (iZ CX0 V.P V.w V.K V.mg V.base N q (qr st) f cdv A outer s H E).nox (je st) t)(sc:aN N ps (qr st):=by walk_at "s")(len:∀ys L Q,sp ys L Q->ys.length=ps.length:=by walk_at "l"):Fn3 V.P V.w V.K V.mg V.base (k+1) f fd ps sp:=
 ok3 F sc len fun cdv A outer s H E hr=>⟨t,h cdv A outer s H E hr sc.nd (huK hr),vc⟩
theorem M_{sp:jj}{t:kn}(hp:∃h:Heap,V.K.In h/\h.Ns mainGlobals V.mg)(D:z0 V.K x st)(vc:∀ys L Q,sp ys L Q->xq t N.length ys L Q)(h:∀f,∀(cdv:Value) (A:Around) (outer:List Env) (s:Shared) (H:Hp) (E:XK),vm k (A.deeper (PyProof.Rows.envOfC x (qr st) s.heap.objs.size f cdv))->N.Nodup->(A.deeper (PyProof.Rows.envOfC x (qr st) s.heap.objs.size f cdv)).units+128<cLine->pZ (iZ CX0 V.P V.w V.K V.mg V.base N x (qr st) f cdv A outer s H E).nox (je st) t)(sc:aN N ps (qr st):=by walk_at "s")(len:∀ys L Q,sp ys L Q->ys.length=ps.length:=by walk_at "l")(hb:∀(kV doc pm:Value) (an:Option Addr) (cdv ct:Value) (us:List Value),us.length=ps.length->bindArgs (PySem.W.fnOf x x (x9 st) (je st) (qr st) .none kV doc pm an cdv ct) ⟨us,[]⟩=pure (ps.zip us):=by walk_at "b"):Q_ V (k+1) x ps sp:=by obtain⟨_,X,G⟩:=hp;obtain⟨f,fd,F,b,m⟩:=D.use X G hb;exact zA.of (W_ V k N F vc (h f) sc len) b F.kp m
theorem R_{sp:Nat->jj}{t:Nat->kn}(hp:∃h:Heap,V.K.In h/\h.Ns mainGlobals V.mg)(D:z0 V.K x st)(no:∀ys L Q,¬sp 0 ys L Q)(vc:∀n ys L Q,sp (n+1) ys L Q->xq (t n) N.length ys L Q)(h:∀n f,Q_ V (n+k) x ps (sp n)->∀(cdv:Value) (A:Around) (outer:List Env) (s:Shared) (H:Hp) (E:XK),vm (n+k) (A.deeper (PyProof.Rows.envOfC x (qr st) s.heap.objs.size f cdv))->N.Nodup->(A.deeper (PyProof.Rows.envOfC x (qr st) s.heap.objs.size f cdv)).units+128<cLine->pZ (iZ CX0 V.P V.w V.K V.mg V.base N x (qr st) f cdv A outer s H E).nox (je st) (t n))(n:Nat)(sc:aN N ps (qr st):=by walk_at "s")(len:∀n ys L Q,sp n ys L Q->ys.length=ps.length:=by walk_at "x")(hb:∀(kV doc pm:Value) (an:Option Addr) (cdv ct:Value) (us:List Value),us.length=ps.length->bindArgs (PySem.W.fnOf x x (x9 st) (je st) (qr st) .none kV doc pm an cdv ct) ⟨us,[]⟩=pure (ps.zip us):=by walk_at "b"):Q_ V (n+k) x ps (sp n):=by
 obtain⟨_,X,G⟩:=hp;obtain⟨f,fd,F,b,m⟩:=D.use X G hb
 induction n with|zero=>exact zA.of (Fn3.never no) b F.kp m|succ n ih=>rw[Nat.add_right_comm];exact zA.of (W_ V (n+k) N F (vc n) (h n f ih) sc (len _)) b F.kp m
theorem T_{sp:jj}{t:kn}(hp:∃h:Heap,V.K.In h/\h.Ns mainGlobals V.mg)(D:DefInT V.K x st V.Pt)(vc:∀ys L Q,sp ys L Q->xq t N.length ys L Q)(h:∀f,∀(cdv:Value) (A:Around) (outer:List Env) (s:Shared) (H:Hp) (E:XK),ym V.K cdv V.Pt->vm k (A.deeper (PyProof.Rows.envOfC x (qr st) s.heap.objs.size f cdv))->N.Nodup->(A.deeper (PyProof.Rows.envOfC x (qr st) s.heap.objs.size f cdv)).units+128<cLine->pZ (iZ CX0 V.P V.w V.K V.mg V.base N x (qr st) f cdv A outer s H E).nox (je st) t)(sc:aN N ps (qr st):=by walk_at "s")(len:∀ys L Q,sp ys L Q->ys.length=ps.length:=by walk_at "l")(hb:∀(kV doc pm:Value) (an:Option Addr) (cdv ct:Value) (us:List Value),us.length=ps.length->bindArgs (PySem.W.fnOf x x (x9 st) (je st) (qr st) .none kV doc pm an cdv ct) ⟨us,[]⟩=pure (ps.zip us):=by walk_at "b"):Q_ V (k+1) x ps sp:=by obtain⟨_,X,G⟩:=hp;obtain⟨f,fd,F,b,m⟩:=D.use X G hb;exact zA.of (anz F sc len fun cdv A outer s H E C hr=>⟨t,h f cdv A outer s H E C hr sc.nd (huK hr),vc⟩) b F.kp m
end
theorem I_{X:Cx}{a b:Expr}{ta tb:xw}{pos:Pos}(ha:QE X a ta)(hb:QE X b tb)(hp:oJ b:=by exact fun _ _=>rfl):QE X (.Subscript a b pos) (zr bz ta tb):=ane (amx X.K X.prog X.w) ha hb hp
theorem xc{X:Cx}{e:Expr}{t:xw}(h:QE X e t)(s:starEach [e] X.env=[(false,eval e X.env)]:=by rfl):QA X [e] (qf t qx):=vf h ku s
theorem kh{X:Cx}{e f:Expr}{t u:xw}(h:QE X e t)(g:QE X f u)(s:starEach [e,f] X.env=[(false,eval e X.env),(false,eval f X.env)]:=by rfl)(r:starEach [f] X.env=[(false,eval f X.env)]:=by rfl):QA X [e,f] (qf t (qf u qx)):=vf h (xc g r) (by show _=_;rw[s,r])
theorem bN{X:Cx}{e f d:Expr}{t u v:xw}(h:QE X e t)(g:QE X f u)(i:QE X d v)(s:starEach [e,f,d] X.env=[(false,eval e X.env),(false,eval f X.env),(false,eval d X.env)]:=by rfl)(r:starEach [f,d] X.env=[(false,eval f X.env),(false,eval d X.env)]:=by rfl)(q:starEach [d] X.env=[(false,eval d X.env)]:=by rfl):QA X [e,f,d] (qf t (qf u (qf v qx))):=vf h (kh g i r q) (by show _=_;rw[s,r])
theorem E_{X:Cx}{a b:Expr}{ta tb:xw}{pos:Pos}(hu:X.A.units+128<cLine)(ha:QE X a ta)(hb:QE X b tb):QT X (.Compare a [.Eq] [b] pos) (yB (zr (nX false) ta tb)):=vd (iO X.K X.prog X.w hu) ha hb (xh _)
theorem N_{X:Cx}{a b:Expr}{ta tb:xw}{pos:Pos}(hu:X.A.units+128<cLine)(ha:QE X a ta)(hb:QE X b tb):QT X (.Compare a [.NotEq] [b] pos) (yB (zr (nX true) ta tb)):=vd (aa0 X.K X.prog X.w hu) ha hb (xh _)
theorem S_{X:Cx}{x:Str}{e:Expr}{te:xw}{pos pos':Pos}(i:Nat)(hN:X.N.Nodup)(h:QE X e te)(hix:X.N[i]?=some x:=by rfl)(hx:Loc X.env.scope x:=by exact Or.inl rfl)(hsw:swapsWith e (some (.Name x pos')) pos.line X.env=pure false:=by rfl)(hfn:X.fn x=true\/X.env.scope.names.lookup x=some .local:=by first | exact .inl rfl | exact .inr rfl | assumption):QS X (.Assign [.Name x pos'] e pos) (zw te (qg i)):=a7 (i:=i) hN hix hx h hsw hfn
theorem G_{X:Cx}{x:Str}{pos:Pos}(i:Nat)(hN:X.N.Nodup)(hix:X.N[i]?=some x:=by rfl)(hx:Loc X.env.scope x:=by exact Or.inl rfl)(hfn:X.fn x=true\/X.env.scope.names.lookup x=some .local:=by first | exact .inl rfl | exact .inr rfl | assumption):QG X (.Name x pos) (qg i):=fS (i:=i) hN hix hx hfn
theorem C_{X:Cx}{e:Expr}{es:List Expr}{tr:dU}{pos p:Pos}{j k:Nat}{x:Str}{ps:List Str}{sp:jj}(c:ait X.prog X.w X.K X.mg X.base j x ps sp)(hr:vm k X.A)(ha:QA X (e::es) tr)(hj:j≤k:=by first | decide | exact Am _ | exact AL (by decide) (CP _ _))(hg:Gl X x:=by rfl)(hdb:Ef x:=by decide)(he:Ed e es X:=by rfl)(hpl:Ee pos es X:=by rfl):QE X (.Call (.Name x p) (e::es) [] pos) (zg sp tr):=aoo (zA.mono c hj) hr hg ha hdb he hpl
theorem J_{X:Cx}{x:Str}{n:Int}{k:Nat}{p q pos:Pos}(i:Nat)(hN:X.N[i]?=some x:=by rfl)(hv:Vis X.env.scope x:=by first | exact Or.inl rfl | exact Or.inr (Or.inl rfl) | exact Or.inr (Or.inr rfl))(hd:Ef x:=by decide)(hc:Eg x:=by decide):QE X (.Subscript (.Name x p) (.Constant (.int n) k q) pos) (zr bz (qb i) (yC (.int n))):=I_ (qv i hN hv hd hc) qj (fun _ _=>rfl)
theorem L_{X:Cx}{e:Expr}{t:xw}{p pos:Pos}(hm:X.mg "len" = none)(h:QE X e t)(s:starEach [e] X.env=[(false,eval e X.env)]:=by rfl)(hg:Gl X "len" := by rfl):QE X (.Call (.Name "len" p) [e] [] pos) (gm ft (qf t qx)):=we (ais X.K X.prog X.w) hg hm ajq (xc h s) (hs:=s)
theorem qD{l:List Str}(h:decide l.Nodup=true:=by kernel_rfl):l.Nodup:=of_decide_eq_true h
abbrev c1(V:V_):Prop:=c0 V/\Q_ V 1 "is_leaf" ["word"] (eS)
theorem d1(V:V_)(B:B_ V)(c:c0 V):c1 V:=⟨c,M_ V 0 ["word"] B.hp B.D0 tD fun _ _ _ _ _ _ _ hr hN hu=>(qh (ze (w6 (agy _ _ _) (J_ 0) (ah5 B.k_LEAF_KINDS rfl) (by with_unfolding_all rfl))))⟩
abbrev c2(V:V_):Prop:=c1 V/\acq V.P V.w V.K V.mg V.base 2 V.Ca ["self", "count"] (fc V.Ca)
theorem d2(V:V_)(B:B_ V)(c:c1 V):c2 V:=⟨c,by obtain⟨f,fd,F,b,m⟩:=B.D1.use (ps:=["self", "count"]) fun _ _ _ _ _ _ us hl=>match us,hl with | [_,_],_=>rfl;exact⟨_,_,⟨B.mAPieces,m.at_,m.fn,B.mKPieces⟩,⟨_,rfl,W_ V 0 ["self", "count"] F (zW B.xf) fun _ _ _ _ _ _ hr hN hu=>(qh (aes (qv 0) (jG rfl rfl B.be rfl B.bg (qv 1))))⟩,b⟩⟩
abbrev c3(V:V_):Prop:=c2 V/\xE V.P V.w V.K V.mg V.base 1 V.Ca "head_of" ["self", "place"] (f9 V.Ca)
theorem d3(V:V_)(B:B_ V)(c:c2 V):c3 V:=⟨c,by obtain⟨f,fd,F,b,m⟩:=B.D2.use (ps:=["self", "place"]) fun _ _ _ _ _ _ us hl=>match us,hl with | [_,_],_=>rfl;exact⟨_,_,m,W_ V 0 ["self", "place", "here"] F (ag4 B.xf) fun _ _ _ _ _ _ hr hN hu=>(qc (S_ 2 hN (qv 1)) (qc (fz PassesOwn.never (N_ hu (I_ (gl (qv 0)) (qv 2)) (qv 2)) (qc (oC (gl (qv 0)) (qv 2) (I_ (gl (qv 0)) (I_ (gl (qv 0)) (qv 2)))) (qh (S_ 2 hN (I_ (gl (qv 0)) (qv 2)))))) (qh (ze (qv 2))))),b⟩⟩
abbrev c4(V:V_):Prop:=c3 V/\xE V.P V.w V.K V.mg V.base 2 V.Ca "unite" ["self", "p", "q"] (cf V.Ca)
theorem d4(V:V_)(B:B_ V)(c:c3 V):c4 V:=⟨c,by obtain⟨f,fd,F,b,m⟩:=B.D3.use (ps:=["self", "p", "q"]) fun _ _ _ _ _ _ us hl=>match us,hl with | [_,_,_],_=>rfl;exact⟨_,_,m,W_ V 1 ["self", "p", "q", "first", "second"] F (aav B.xf) fun _ _ _ _ _ _ hr hN hu=>(qc (S_ 3 hN (pP (c.2.mono (by decide)) hr B.cl_Pieces (qv 0) (xc (qv 1)))) (qc (S_ 4 hN (pP (c.2.mono (by decide)) hr B.cl_Pieces (qv 0) (xc (qv 2)))) (qc (oC (gl (qv 0)) (qv 3) (qv 4)) (qh (ze (w6 (aa0 _ _ _ hu) (qv 3) (qv 4) (xh _))))))),b⟩⟩
abbrev c5(V:V_):Prop:=c4 V/\Q_ V 1 "places_there" ["knots"] (bC)
theorem d5(V:V_)(B:B_ V)(c:c4 V):c5 V:=⟨c,M_ V 0 ["knots"] B.hp B.D4 acb fun _ _ _ _ _ _ _ hr hN hu=>(qh (ze (cM ["place", "knot" ] (EK (by rfl)) rfl (da rfl B.bh (qv 0)) (jB rfl qD (fun _ _ _ _=>rfl) (fun _ _ _ _=>rfl)) (fun _ _ _ _=>dP (bQ (qv 2))) (fun _ _ _ _=>(qv 1)))))⟩
abbrev c6(V:V_):Prop:=c5 V/\Q_ V 2 "parts_of" ["knot"] (gC)
theorem d6(V:V_)(B:B_ V)(c:c5 V):c6 V:=⟨c,M_ V 1 ["knot"] B.hp B.D5 acf fun _ _ _ _ _ _ _ hr hN hu=>(qc (js (ag (mv (oZ (qv 0)) (gr (kg (C_ c.1.1.1.1.2 hr (xc (qv 0))))))) (qh (ze (jq ku))) zp) (qh (ze (jq (kh (J_ 0) (J_ 0))))))⟩
abbrev c7(V:V_):Prop:=c6 V/\Q_ V 1 "eithers_of" ["web"] (cg)
theorem d7(V:V_)(B:B_ V)(c:c6 V):c7 V:=⟨c,M_ V 0 ["web"] B.hp B.D6 aar fun _ _ _ _ _ _ _ hr hN hu=>(qh (ze (cM ["place", "knot" ] (EK (by rfl)) rfl (da rfl B.bh (J_ 0)) (jB rfl qD (fun _ _ _ _=>rfl) (fun _ _ _ _=>rfl)) (fun _ _ _ _=>dP (ag (dD (bQ (qv 2)) (ae (E_ hu (J_ 2) jp))))) (fun _ _ _ _=>(qv 1)))))⟩
abbrev c8(V:V_):Prop:=c7 V/\Q_ V 2 "boths_of" ["web"] (lu)
theorem d8(V:V_)(B:B_ V)(c:c7 V):c8 V:=⟨c,M_ V 1 ["web"] B.hp B.D7 aat fun _ _ _ _ _ _ _ hr hN hu=>(qh (ze (cM ["place"] (EK (by rfl)) rfl (v0 (C_ c.1.1.2 hr (xc (J_ 0)))) (vh qD (fun _ _ _ _=>Or.inl rfl) (fun _ _ _ _=>rfl)) (fun _ _ _ _=>dP (E_ hu (I_ (I_ (J_ 0) (qv 1)) qj) jp)) (fun _ _ _ _=>(qv 1)))))⟩
abbrev c9(V:V_):Prop:=c8 V/\Q_ V 3 "part_edges" ["knots", "places"] (gh)
theorem d9(V:V_)(B:B_ V)(c:c8 V):c9 V:=⟨c,M_ V 2 ["knots", "places", "edges", "place"] B.hp B.D8 wK fun _ _ _ _ _ _ _ hr hN hu=>(qc (S_ 2 hN (jq ku)) (qc (wb PassesOwn.never rfl (v0 (qv 1)) (fS (i:=3) hN rfl (Or.inr rfl)) (qh (zj (nO (qv 2) (xc (cM ["part"] (EK (by rfl)) rfl (v0 (C_ c.1.1.2 hr (xc (I_ (qv 0) (qv 3))))) (vh qD (fun _ _ _ _=>Or.inl rfl) (fun _ _ _ _=>rfl)) (fun _ _ _ _=>dG) (fun _ _ _ _=>(zn (kh (qv 3) (qv 4)))))))))) (qh (ze (qv 2)))))⟩
abbrev fH(V:V_):Prop:=c9 V/\Q_ V 4 "joins_of" ["web"] (fQ)
theorem d10(V:V_)(B:B_ V)(c:c9 V):fH V:=⟨c,M_ V 3 ["web"] B.hp B.D9 aba fun _ _ _ _ _ _ _ hr hN hu=>(qh (ze (qp jz (qp jz (J_ 0) (J_ 0)) (C_ c.2 hr (kh (J_ 0) (C_ c.1.2 hr (xc (qv 0))))))))⟩
abbrev c11(V:V_):Prop:=fH V/\Q_ V 3 "join_steps" ["pieces", "joins"] (gf V.Ca)
theorem d11(V:V_)(B:B_ V)(c:fH V):c11 V:=⟨c,M_ V 2 ["pieces", "joins", "steps", "p", "q"] B.hp B.D10 wL fun _ _ _ _ _ _ _ hr hN hu=>(qc (S_ 2 hN (jq ku)) (qc (wb PassesOwn.never rfl (v0 (qv 1)) (aY rfl (j4 (G_ 3 hN) (j4 (G_ 4 hN) ko))) (qh (js (kg (pP (c.1.1.1.1.1.1.2.mono (by decide)) hr B.cl_Pieces (qv 0) (kh (qv 3) (qv 4)))) (qh (zj (zd (qv 2) (xc (zn (bN jp (qv 3) (qv 4))))))) zp))) (qh (ze (qv 2)))))⟩
abbrev c12(V:V_):Prop:=c11 V/\Q_ V 3 "can_fold" ["pieces", "knots", "place"] (lv V.Ca)
theorem d12(V:V_)(B:B_ V)(c:c11 V):c12 V:=⟨c,M_ V 2 ["pieces", "knots", "place", "heads"] B.hp B.D11 aa9 fun _ _ _ _ _ _ _ hr hN hu=>(qc (f6 ["part"] (i:=3) hN rfl (Or.inl rfl) (EK (by rfl)) rfl (v0 (C_ c.1.1.1.1.1.2 hr (xc (I_ (qv 1) (qv 2))))) (vh qD (fun _ _ _ _=>Or.inl rfl) (fun _ _ _ _=>rfl)) (fun _ _ _ _=>dG) (fun _ _ _ _=>(pP (c.1.1.1.1.1.1.1.1.2.mono (by decide)) hr B.cl_Pieces (qv 0) (xc (qv 4))))) (qh (ze (gS (w6 (iO _ _ _ hu) (J_ 3) (J_ 3) (xh _)) (jU (w6 (aa0 _ _ _ hu) (J_ 3) (pP (c.1.1.1.1.1.1.1.1.2.mono (by decide)) hr B.cl_Pieces (qv 0) (xc (qv 2))) (xh _)))))))⟩
abbrev c13(V:V_):Prop:=c12 V/\Q_ V 4 "fold_steps" ["pieces", "knots", "eithers"] (hJ V.Ca)
theorem d13(V:V_)(B:B_ V)(c:c12 V):c13 V:=⟨c,M_ V 3 ["pieces", "knots", "eithers", "steps", "before", "place"] B.hp B.D12 yV fun _ _ _ _ _ _ _ hr hN hu=>(qc (S_ 3 hN (jq ku)) (qc (S_ 4 hN (aky alh qj)) (qc (fz PassesOwn.never (vd wX (qv 4) (L_ B.ba (qv 3)) (xh _)) (qc (S_ 4 hN (L_ B.ba (qv 3))) (qh (wb PassesOwn.never rfl (v0 (qv 2)) (G_ 5 hN) (qh (js (kg (C_ c.2 hr (bN (qv 0) (qv 1) (qv 5)))) (qc (zj (pP (c.1.1.1.1.1.1.1.1.2.mono (by decide)) hr B.cl_Pieces (qv 0) (kh (qv 5) (I_ (I_ (qv 1) (qv 5)) qj)))) (qh (zj (zd (qv 3) (xc (zn (kh jp (qv 5)))))))) zp)))))) (qh (ze (qv 3))))))⟩
abbrev c14(V:V_):Prop:=c13 V/\Q_ V 5 "steps_by" ["knots", "joins", "eithers"] (gw V.Ca)
theorem d14(V:V_)(B:B_ V)(c:c13 V):c14 V:=⟨c,M_ V 4 ["knots", "joins", "eithers", "pieces"] B.hp B.D13 yZ fun _ _ _ _ _ _ _ hr hN hu=>(qc (S_ 3 hN (agl (c.1.1.1.1.1.1.1.1.1.1.1.2.mono (by decide)) hr rfl B.md (xc (L_ B.ba (qv 0))))) (qh (ze (qp jz (C_ c.1.1.2 hr (kh (qv 3) (qv 1))) (C_ c.2 hr (bN (qv 3) (qv 0) (qv 2)))))))⟩
abbrev c15(V:V_):Prop:=c14 V/\Q_ V 6 "all_come_together" ["knots", "joins", "eithers"] (io)
theorem d15(V:V_)(B:B_ V)(c:c14 V):c15 V:=⟨c,M_ V 5 ["knots", "joins", "eithers", "due"] B.hp B.D14 ae7 fun _ _ _ _ _ _ _ hr hN hu=>(qc (S_ 3 hN (qp bD (L_ B.ba (C_ c.1.1.1.1.1.1.1.1.1.2 hr (xc (qv 0)))) qj)) (qh (ze (gS (w6 (iO _ _ _ hu) (qp jz (L_ B.ba (qv 1)) (L_ B.ba (qv 2))) (qv 3) (xh _)) (jU (w6 (iO _ _ _ hu) (L_ B.ba (C_ c.2 hr (bN (qv 0) (qv 1) (qv 2)))) (qv 3) (xh _)))))))⟩
abbrev c16(V:V_):Prop:=c15 V/\Q_ V 7 "right_web" ["web"] (dS)
theorem d16(V:V_)(B:B_ V)(c:c15 V):c16 V:=⟨c,M_ V 6 ["web"] B.hp B.D15 yW fun _ _ _ _ _ _ _ hr hN hu=>(qh (ze (C_ c.2 hr (bN (J_ 0) (C_ c.1.1.1.1.1.2 hr (xc (qv 0))) (C_ c.1.1.1.1.1.1.1.1.2 hr (xc (qv 0)))))))⟩
abbrev c17(V:V_):Prop:=c16 V/\Q_ V 8 "first_bad" ["web"] (kO)
theorem d17(V:V_)(B:B_ V)(c:c16 V):c17 V:=⟨c,M_ V 7 ["web", "knots", "joins", "eithers", "choices", "number", "place", "left", "choice"] B.hp B.D16 acn fun _ _ _ _ _ _ _ hr hN hu=>(qc (js (kg (C_ c.2 hr (xc (qv 0)))) (qh (ze gQ)) zp) (qc (S_ 1 hN (J_ 0)) (qc (S_ 2 hN (C_ c.1.1.1.1.1.1.2 hr (xc (qv 0)))) (qc (S_ 3 hN (C_ c.1.1.1.1.1.1.1.1.1.2 hr (xc (qv 0)))) (qc (S_ 4 hN (jq ku)) (qc (wb PassesOwn.never rfl (da rfl B.bh (qv 3)) (aY rfl (j4 (G_ 5 hN) (j4 (G_ 6 hN) ko))) (qc (S_ 7 hN (zn (kh (qv 6) (I_ (I_ (qv 1) (qv 6)) qj)))) (qc (S_ 8 hN (cV (kg (C_ c.1.2 hr (bN (qv 1) (qp jz (qv 2) (jq (xc (qv 7)))) (dE (ur _ _ _) (qv 3) (dZ (qp jz (qv 5) qj)) jC)))) qj qj)) (qc (zj (zd (qv 4) (xc (qv 8)))) (qh (zj (zd (qv 2) (xc (zn (kh (qv 6) (I_ (I_ (qv 1) (qv 6)) (qp jz qj (qv 8))))))))))))) (qh (ze (qv 4)))))))))⟩
abbrev c18(V:V_):Prop:=c17 V/\Q_ V 2 "kept_parts" ["web", "choices"] (jI)
theorem d18(V:V_)(B:B_ V)(c:c17 V):c18 V:=⟨c,M_ V 1 ["web", "choices", "eithers", "kept", "place", "choice"] B.hp B.D17 acr fun _ _ _ _ _ _ _ hr hN hu=>(qc (S_ 2 hN (C_ c.1.1.1.1.1.1.1.1.1.1.2 hr (xc (qv 0)))) (qc (aip "choice'" (ag (mv (N_ hu (L_ B.ba (qv 1)) (L_ B.ba (qv 2))) (gr (u5 (kg (we alq rfl B.bw aj6 (xc (cM ["choice"] (EK (by rfl)) rfl (v0 (qv 1)) (vh qD (fun _ _ _ _=>Or.inl rfl) (fun _ _ _ _=>rfl)) (fun _ _ _ _=>dG) (fun _ _ _ _=>(w6 (agy _ _ _) (qv 6) (zn (kh qj qj)) (by with_unfolding_all rfl))))))))))) (qh sP) zp) (qc (S_ 3 hN vM) (qc (wb PassesOwn.never rfl (ab8 rfl B.bu (kh (qv 2) (qv 1))) (aY rfl (j4 (G_ 4 hN) (j4 (G_ 5 hN) ko))) (qh (vB hu (qv 3) (qv 4) (I_ (I_ (J_ 0) (qv 4)) (qp jz qj (qv 5)))))) (qh (ze (qv 3)))))))⟩
abbrev c19(V:V_):Prop:=c18 V/\Q_ V 3 "edges_by" ["web", "choices"] (gi)
theorem d19(V:V_)(B:B_ V)(c:c18 V):c19 V:=⟨c,M_ V 2 ["web", "choices", "kept", "edges", "place", "knot"] B.hp B.D18 wP fun _ _ _ _ _ _ _ hr hN hu=>(qc (S_ 2 hN (C_ c.2 hr (kh (qv 0) (qv 1)))) (qc (S_ 3 hN (qp jz (J_ 0) (J_ 0))) (qc (wb PassesOwn.never rfl (v0 (C_ c.1.1.1.1.1.1.1.1.1.1.1.1.1.2 hr (xc (J_ 0)))) (G_ 4 hN) (qc (S_ 5 hN (I_ (J_ 0) (qv 4))) (k7 (js (E_ hu (J_ 5) jp) (qc (zj (zd (qv 3) (xc (zn (kh (qv 4) (J_ 5)))))) (qh (zj (zd (qv 3) (xc (zn (kh (qv 4) (J_ 5)))))))) zp) (qh (js (E_ hu (J_ 5) jp) (qh (zj (zd (qv 3) (xc (zn (kh (qv 4) (aO hu (qv 2) (qv 4) (fun _ _=>rfl)))))))) zp))))) (qh (ze (qv 3))))))⟩
abbrev c20(V:V_):Prop:=c19 V/\Q_ V 4 "fault_by" ["web", "choices"] (kR)
theorem d20(V:V_)(B:B_ V)(c:c19 V):c20 V:=⟨c,M_ V 3 ["web", "choices", "edges", "pieces", "number", "edge", "there", "head", "piece"] B.hp B.D19 acg fun _ _ _ _ _ _ _ hr hN hu=>(qc (S_ 2 hN (C_ c.2 hr (kh (qv 0) (qv 1)))) (qc (a7 (i:=3) hN rfl (Or.inr rfl) (agl (c.1.1.1.1.1.1.1.1.1.1.1.1.1.1.1.1.1.2.mono (by decide)) hr rfl B.md (xc (L_ B.ba (J_ 0))))) (qc (wb PassesOwn.never rfl (da rfl B.bh (qv 2)) (aY rfl (j4 (G_ 4 hN) (j4 (G_ 5 hN) ko))) (qh (js (u5 (kg (pP (c.1.1.1.1.1.1.1.1.1.1.1.1.1.1.1.2.mono (by decide)) hr B.cl_Pieces (qv 3) (kh (J_ 5) (J_ 5))))) (qh sP) zp))) (qc (S_ 6 hN (C_ c.1.1.1.1.1.1.1.1.1.1.1.1.1.1.2 hr (xc (J_ 0)))) (qc (a7 (i:=7) hN rfl (Or.inr rfl) (pP (c.1.1.1.1.1.1.1.1.1.1.1.1.1.1.1.1.2.mono (by decide)) hr B.cl_Pieces (qv 3) (xc (J_ 6)))) (qc (f6 ["place"] (i:=8) hN rfl (Or.inl rfl) (EK (by rfl)) rfl (v0 (qv 6)) (vh qD (fun _ _ _ _=>Or.inl rfl) (fun _ _ _ _=>rfl)) (fun _ _ _ _=>dP (E_ hu (pP (c.1.1.1.1.1.1.1.1.1.1.1.1.1.1.1.1.2.mono (by decide)) hr B.cl_Pieces (qv 3) (xc (qv 9))) (qv 7))) (fun _ _ _ _=>(qv 9))) (qh (ze (cV (E_ hu (qv 8) (qv 6)) gQ (zn (kh jp (qv 8))))))))))))⟩
abbrev c21(V:V_):Prop:=c20 V/\Q_ V 1 nM [nj, ny] (cA)
theorem d21(V:V_)(B:B_ V)(c:c20 V):c21 V:=⟨c,M_ V 0 [nj, ny] B.hp B.D20 tI fun _ _ _ _ _ _ _ hr hN hu=>(qc (js (vd wX (qv 1) (L_ B.ba (qv 0)) (xh _)) (qh (ze (I_ (qv 0) (qv 1)))) zp) (qh (ze qj)))⟩
abbrev c22(V:V_):Prop:=c21 V/\Q_ V 125 "_law_same" ["_law_found", "_law_due"] (fO 124)
theorem d22(V:V_)(B:B_ V)(c:c21 V):c22 V:=⟨c,R_ V 1 ["_law_found", "_law_due", nt, "_law_other"] B.hp B.D21 pN afe (fun _ _ c__law_same _ _ _ _ _ _ hr hN hu=>(qc (js (ag (mv (kg (k8 .bool rfl B.bb rfl B.bj ie (qv 0))) (gr (kg (k8 .bool rfl B.bb rfl B.bj ie (qv 1)))))) (qh (ze (gS (k8 .bool rfl B.bb rfl B.bj ie (qv 0)) (gS (k8 .bool rfl B.bb rfl B.bj ie (qv 1)) (jU (w6 (iO _ _ _ hu) (qv 0) (qv 1) (xh _))))))) zp) (qc (js (kg (tU .list .tuple rfl B.bb rfl B.be cI rfl B.bn fT (qv 1))) (qc (js (ag (mv (N_ hu (k8 .list rfl B.bb rfl B.be cI (qv 0)) (k8 .list rfl B.bb rfl B.be cI (qv 1))) (gr (N_ hu (k8 .tuple rfl B.bb rfl B.bn fT (qv 0)) (k8 .tuple rfl B.bb rfl B.bn fT (qv 1)))))) (qh (ze kG)) zp) (qc (js (N_ hu (L_ B.ba (qv 0)) (L_ B.ba (qv 1))) (qh (ze kG)) zp) (qc (wb PassesOwn.never rfl (ab8 rfl B.bu (kh (qv 0) (qv 1))) (aY rfl (j4 (G_ 2 hN) (j4 (G_ 3 hN) ko))) (qh (js (u5 (kg (C_ c__law_same hr (kh (qv 2) (qv 3))))) (qh (ze kG)) zp))) (qh (ze kG))))) zp) (qc (js (kg (k8 .int rfl B.bb rfl B.bp tN (qv 1))) (qh (ze (gS (k8 .int rfl B.bb rfl B.bp tN (qv 0)) (jU (w6 (iO _ _ _ hu) (qv 0) (qv 1) (xh _)))))) zp) (qc (js (kg (k8 .str rfl B.bb rfl B.br ad3 (qv 1))) (qh (ze (gS (k8 .str rfl B.bb rfl B.br ad3 (qv 0)) (jU (w6 (iO _ _ _ hu) (qv 0) (qv 1) (xh _)))))) zp) (qh (ze (ai7 (qv 0))))))))) 124⟩
abbrev c23(V:V_):Prop:=c22 V/\Q_ V 1 "_law_mix" ["_law_cell", ny, "_law_factor"] (fC)
theorem d23(V:V_)(B:B_ V)(c:c22 V):c23 V:=⟨c,M_ V 0 ["_law_cell", ny, "_law_factor"] B.hp B.D22 aj5 fun _ _ _ _ _ _ _ hr hN hu=>(qh (ze (qp aA (qp v4 (qp qW (qp jz (qp jz (qp qW (qp v4 (qv 0) qj) qj) (qp qW (qv 1) (qv 1))) qj) (qv 2)) qj) qj)))⟩
abbrev c24(V:V_):Prop:=c23 V/\Q_ V 1 "_law_name" [nq, "_law_which"] (l7)
theorem d24(V:V_)(B:B_ V)(c:c23 V):c24 V:=⟨c,M_ V 0 [nq, "_law_which", "_law_letters", "_law_size", "_law_place", "_law_base", "_law_sign"] B.hp B.D23 ad4 fun _ _ _ _ _ _ _ hr hN hu=>(qc (a7 (i:=2) hN rfl (Or.inr rfl) jp) (qc (S_ 3 hN (qp jz qj (qp v4 (qv 0) qj))) (qc (S_ 4 hN (qp v4 (qp aA (qv 0) qj) (qv 3))) (qc (S_ 5 hN (adp jp (xc (cM [ny] (EK (by rfl)) rfl (au rfl B.bg (xc qj)) (vh qD (fun _ _ _ _=>Or.inl rfl) (fun _ _ _ _=>rfl)) (fun _ _ _ _=>dG) (fun _ _ _ _=>(I_ (qv 2) (qp v4 (qp jz (qp aA (qv 0) qj) (qp qW qj (qv 7))) qj))))))) (qc (js (E_ hu (qp v4 (qp aA (qv 0) qj) qj) qj) (qh (ze (dE (ur _ _ _) (qv 5) jC (dZ (qp jz qj (qp v4 (qp jz (qv 1) (qv 0)) qj)))))) zp) (qc (S_ 6 hN (I_ (qv 2) (qp v4 (qp jz (qp jz (qp aA (qv 0) qj) (qp qW qj (qv 4))) (qv 1)) qj))) (qh (ze (qp jz (qp jz (dE (ur _ _ _) (qv 5) jC (dZ (qv 4))) (qv 6)) (dE (ur _ _ _) (qv 5) (dZ (qp jz (qv 4) qj)) (dZ (qv 3))))))))))))⟩
abbrev c25(V:V_):Prop:=c24 V/\Q_ V 121 "_law_word" [ng, nE] (ww 120)
theorem d25(V:V_)(B:B_ V)(c:c24 V):c25 V:=⟨c,R_ V 1 [ng, nE, nH] B.hp B.D24 oo rB (fun _ _ c__law_word _ _ _ _ _ _ hr hN hu=>(qc (S_ 2 hN (I_ (qv 0) (qv 1))) (qc (js (E_ hu (L_ B.ba (qv 2)) qj) (qh (ze (qv 2))) zp) (qh (ze (zn (bN (J_ 2) (C_ c__law_word hr (kh (qv 0) (J_ 2))) (C_ c__law_word hr (kh (qv 0) (J_ 2)))))))))) 120⟩
abbrev c26(V:V_):Prop:=c25 V/\Q_ V 121 "_law_flip" [nh] (aw 120)
theorem d26(V:V_)(B:B_ V)(c:c25 V):c26 V:=⟨c,R_ V 1 [nh, "_law_sides"] B.hp B.D25 abi ach (fun _ _ c__law_flip _ _ _ _ _ _ hr hN hu=>(qc (S_ 1 hN (adt [ ("plain" , "turned") ,("turned" , "plain") ,("both" , "either") ,("either" , "both") ] (gE bW bW (gE bW bW (gE bW bW (gE bW bW ag8)))) rfl rfl (List.cons_ne_nil _ _) (De rfl))) (qc (js (E_ hu (L_ B.ba (qv 0)) qj) (qh (ze (zn (kh (I_ (qv 1) (J_ 0)) (J_ 0))))) zp) (qh (ze (zn (bN (I_ (qv 1) (J_ 0)) (C_ c__law_flip hr (xc (J_ 0))) (C_ c__law_flip hr (xc (J_ 0)))))))))) 120⟩
abbrev c27(V:V_):Prop:=c26 V/\Q_ V 121 "_law_weight" [nh] (ay 120)
theorem d27(V:V_)(B:B_ V)(c:c26 V):c27 V:=⟨c,R_ V 1 [nh] B.hp B.D26 mF wU (fun _ _ c__law_weight _ _ _ _ _ _ hr hN hu=>(qc (js (E_ hu (L_ B.ba (qv 0)) qj) (qh (ze qj)) zp) (qh (ze (qp jz (qp jz qj (C_ c__law_weight hr (xc (J_ 0)))) (C_ c__law_weight hr (xc (J_ 0)))))))) 120⟩
abbrev c28(V:V_):Prop:=c27 V/\Q_ V 127 "_law_mirror" [ng, nh] (bG 5)
theorem d28(V:V_)(B:B_ V)(c:c27 V):c28 V:=⟨c,R_ V 122 [ng, nh, "_law_left", "_law_right", nI, "_law_same_here", "_law_low", "_law_high"] B.hp B.D27 yx wO (fun _ _ c__law_mirror _ _ _ _ _ _ hr hN hu=>(qc (js (E_ hu (L_ B.ba (qv 1)) qj) (qc (zj (zd (qv 0) (xc (C_ c.1.2 hr (xc (qv 1)))))) (qc (zj (zd (qv 0) (xc (qv 1)))) (qh (ze (jq (bN (zn (bN jp (qp bD (L_ B.ba (qv 0)) qj) (qp bD (L_ B.ba (qv 0)) qj))) (qp bD (L_ B.ba (qv 0)) qj) (qp bD (L_ B.ba (qv 0)) qj))))))) zp) (qc (S_ 2 hN (C_ c__law_mirror hr (kh (qv 0) (J_ 1)))) (qc (S_ 3 hN (C_ c__law_mirror hr (kh (qv 0) (J_ 1)))) (qc (zj (zd (qv 0) (xc (zn (bN (I_ (C_ c.1.2 hr (xc (qv 1))) qj) (J_ 2) (J_ 3)))))) (qc (zj (zd (qv 0) (xc (zn (bN (J_ 1) (J_ 2) (J_ 3)))))) (qc (aa1 (i:=4) (j:=5) rfl hN rfl rfl (by decide) rfl rfl (kh (qp bD (L_ B.ba (qv 0)) qj) (qp bD (L_ B.ba (qv 0)) qj)) rfl) (qc (S_ 6 hN (cV (E_ hu (J_ 1) jp) (qv 4) (qv 5))) (qc (S_ 7 hN (cV (E_ hu (J_ 1) jp) (qv 5) (qv 4))) (qh (ze (jq (bN (zn (bN jp (qv 7) (zn (vf jp (bN (qv 6) (J_ 2) (J_ 3)))))) (qv 4) (qv 5)))))))))))))) 5⟩
abbrev c29(V:V_):Prop:=c28 V/\Q_ V 1 "_law_join" [ng, nv, nt, nu] (pI)
theorem d29(V:V_)(B:B_ V)(c:c28 V):c29 V:=⟨c,M_ V 0 [ng, nv, nt, nu, "_law_first", "_law_second", "_law_left", "_law_right", "_law_ends"] B.hp B.D28 adk fun _ _ _ _ _ _ _ hr hN hu=>(qc (S_ 4 hN (bM (qv 1) (xc (qp v4 (qv 3) (L_ B.ba (qv 1)))))) (qc (S_ 5 hN (bM (qv 1) (xc (qp v4 (qv 2) (L_ B.ba (qv 1)))))) (qc (a7 (i:=6) hN rfl (Or.inr rfl) (I_ (J_ 4) (qp v4 (qp aA (qv 3) qj) (L_ B.ba (J_ 4))))) (qc (a7 (i:=7) hN rfl (Or.inr rfl) (I_ (J_ 5) (qp v4 (qp aA (qv 2) qj) (L_ B.ba (J_ 5))))) (qc (zj (zd (qv 0) (xc (zn (bN jp (qv 6) (qv 7)))))) (qc (f6 [nE] (i:=8) hN rfl (Or.inl rfl) (EK (by rfl)) rfl (v0 (qp jz (J_ 4) (J_ 5))) (vh qD (fun _ _ _ _=>Or.inl rfl) (fun _ _ _ _=>rfl)) (fun _ _ _ _=>dP (vd (ab2 _ _ _) (qv 9) (zn (kh (qv 6) (qv 7))) (by with_unfolding_all rfl))) (fun _ _ _ _=>(qv 9))) (qh (zj (zd (qv 1) (xc (jq (kh (zn (vf jp (bN (qp bD (L_ B.ba (qv 0)) qj) (J_ 4) (J_ 5)))) (qp jz (qv 8) (jq (xc (qp bD (L_ B.ba (qv 0)) qj))))))))))))))))⟩
abbrev c30(V:V_):Prop:=c29 V/\Q_ V 1 "_law_fold" [ng, "_law_tree_here", nt, nu] (kA)
theorem d30(V:V_)(B:B_ V)(c:c29 V):c30 V:=⟨c,M_ V 0 [ng, "_law_tree_here", nt, nu, "_law_left", "_law_right"] B.hp B.D29 zH fun _ _ _ _ _ _ _ hr hN hu=>(qc (js (vd wX (L_ B.ba (J_ 1)) qj (xh _)) (qh vJ) zp) (qc (S_ 4 hN (bM (J_ 1) (xc (qp v4 (qv 3) (L_ B.ba (J_ 1)))))) (qc (S_ 5 hN (bM (J_ 1) (xc (qp v4 (qv 2) (L_ B.ba (J_ 1)))))) (qc (zj (zd (qv 0) (xc (zn (bN jp (qv 4) (qv 5)))))) (qc (oC (qv 1) qj (zn (bN jp (qp bD (L_ B.ba (qv 0)) qj) (J_ 1)))) (qh (zj (zd (J_ 1) (xc (qp bD (L_ B.ba (qv 0)) qj))))))))))⟩
abbrev c31(V:V_):Prop:=c30 V/\Q_ V 128 "_law_cut" [ng, nv, nt, nu] (nZ)
theorem d31(V:V_)(B:B_ V)(c:c30 V):c31 V:=⟨c,M_ V 127 [ng, nv, nt, nu, "_law_first", nE, nh, "_law_second", "_law_q", "_law_at", "_law_end", nJ, "_law_same_here", "_law_ends"] B.hp B.D30 ag1 fun _ _ _ _ _ _ _ hr hN hu=>(qc (S_ 4 hN (bM (qv 1) (xc (qp v4 (qv 3) (L_ B.ba (qv 1)))))) (qc (a7 (i:=5) hN rfl (Or.inr rfl) (I_ (J_ 4) (qp v4 (qp aA (qv 3) qj) (L_ B.ba (J_ 4))))) (qc (S_ 6 hN (C_ c.1.1.1.1.1.2 hr (kh (qv 0) (qv 5)))) (qc (lC (zn (kh gQ gQ)) (aY rfl (j4 (G_ 7 hN) (j4 (fS (i:=8) hN rfl (Or.inr rfl)) ko)))) (qc (wb PassesOwn.never rfl (au rfl B.bg (xc (L_ B.ba (qv 1)))) (G_ 9 hN) (qh (wb PassesOwn.never rfl (v0 (I_ (I_ (qv 1) (qv 9)) qj)) (G_ 10 hN) (qh (js (ag (dD (oZ (qv 7)) (ae (E_ hu (C_ c.1.1.1.1.1.2 hr (kh (qv 0) (qv 10))) (C_ c.1.1.1.1.2 hr (xc (qv 6))))))) (qh (lC (zn (kh (I_ (qv 1) (qv 9)) (qv 10))) (aY rfl (j4 (G_ 7 hN) (j4 (fS (i:=8) hN rfl (Or.inr rfl)) ko))))) zp))))) (qc (js (ag (dD (oZ (qv 7)) (ae (vd aet (C_ c.1.1.1.2 hr (xc (qv 6))) qj (xh _))))) (qc (zj (zd (qv 1) (xc (qv 4)))) (qh vJ)) zp) (k7 (js (oZ (qv 7)) (qc (lC (C_ c.1.1.2 hr (kh (qv 0) (qv 6))) (ak3 rfl (j4 (G_ 11 hN) (j4 (fS (i:=8) hN rfl (Or.inr rfl)) (j4 (G_ 12 hN) ko))))) (qh (S_ 7 hN (jq (kh (qv 11) (jq (kh (qv 8) (qv 12)))))))) (qh (zj (y9 hu (qv 1) (xc (qv 7)))))) (qc (f6 ["_law_x"] (i:=13) hN rfl (Or.inl rfl) (EK (by rfl)) rfl (v0 (qp jz (J_ 4) (J_ 7))) (vh qD (fun _ _ _ _=>Or.inl rfl) (fun _ _ _ _=>rfl)) (fun _ _ _ _=>dP (vd (ab2 _ _ _) (qv 14) (zn (kh (qv 5) (qv 8))) (by with_unfolding_all rfl))) (fun _ _ _ _=>(qv 14))) (qh (js (E_ hu (qp v4 (qv 2) qj) qj) (qh (zj (zd (qv 1) (xc (jq (kh (zn (vf jp (vf (qv 5) (bN (qv 8) (J_ 4) (J_ 7))))) (qv 13))))))) (qh (zj (zd (qv 1) (xc (jq (kh (zn (vf jp (vf (qv 8) (bN (qv 5) (J_ 7) (J_ 4))))) (qv 13)))))))))))))))))⟩
abbrev c32(V:V_):Prop:=c31 V/\Q_ V 129 "_law_tree" ["_law_cells", nq, "_law_room"] (pQ)
theorem d32(V:V_)(B:B_ V)(c:c31 V):c32 V:=⟨c,M_ V 128 ["_law_cells", nq, "_law_room", ng, nv, ny, "_law_cell", nt, nu, "_law_deed", "_law_at"] B.hp B.D31 adg fun _ _ _ _ _ _ _ hr hN hu=>(qc (S_ 3 hN (jq ku)) (qc (S_ 4 hN (jq ku)) (qc (wb PassesOwn.never rfl (da rfl B.bh (qv 0)) (aY rfl (j4 (G_ 5 hN) (j4 (G_ 6 hN) ko))) (qc (aa1 (i:=7) (j:=8) rfl hN rfl rfl (by decide) rfl rfl (kh (C_ c.1.1.1.1.1.1.1.1.2 hr (bN (qv 6) (qv 5) qj)) (C_ c.1.1.1.1.1.1.1.1.2 hr (bN (qv 6) (qv 5) qj))) rfl) (qc (js (vd aet (qp jz (qp jz (L_ B.ba (qv 3)) (L_ B.ba (qv 4))) qj) (qv 2) (xh _)) (qh sE) zp) (qc (S_ 9 hN (qp v4 (qv 7) qj)) (qc (S_ 7 hN (qp aA (qv 7) qj)) (qh (js (ag (mv (vd wX (qv 9) qj (xh _)) (gr (E_ hu (qv 4) (jq ku))))) (qc (zj (zd (qv 3) (xc (zn (kh jp (C_ c.1.1.1.1.1.1.1.2 hr (kh (qv 1) (qp v4 (qv 8) qj)))))))) (qc (zj (zd (qv 3) (xc (zn (kh jp (C_ c.1.1.1.1.1.1.1.2 hr (kh (qv 1) (qp v4 (qv 8) qj)))))))) (k7 (js (E_ hu (qp v4 (qv 7) qj) qj) (qh (zj (zd (qv 3) (xc (bM (qv 3) (xc (qp bD (L_ B.ba (qv 3)) qj))))))) zp) (qc (S_ 10 hN (qp bD (L_ B.ba (qv 3)) qj)) (qh (zj (zd (qv 4) (xc (jq (kh (zn (bN jp (qv 10) (qp jz (qv 10) qj))) (jq (kh (qv 10) (qp jz (qv 10) qj))))))))))))) (qh (js (vd wX (qv 9) qj (xh _)) (qh (zj (C_ c.1.2 hr (vf (qv 3) (bN (I_ (qv 4) (qp v4 (qv 8) (L_ B.ba (qv 4)))) (qv 7) (qp aA (qv 8) qj)))))) (qh (js (ag (dD (vd wX (qv 9) qj (xh _)) (ae (vd aet (L_ B.ba (qv 4)) qj (xh _))))) (qh (zj (C_ c.1.1.2 hr (vf (qv 3) (bN (qv 4) (qv 7) (qv 8)))))) (qh (zj (C_ c.2 hr (vf (qv 3) (bN (qv 4) (qv 7) (qv 8))))))))))))))))) (k7 (js (E_ hu (qv 4) (jq ku)) (qc (zj (zd (qv 3) (xc (zn (kh jp (C_ c.1.1.1.1.1.1.1.2 hr (kh (qv 1) qj))))))) (qc (zj (zd (qv 3) (xc (zn (kh jp (C_ c.1.1.1.1.1.1.1.2 hr (kh (qv 1) qj))))))) (qh (zj (zd (qv 4) (xc (jq (kh (zn (bN jp qj qj)) (jq (kh qj qj)))))))))) zp) (qc (fz PassesOwn.never (vd aet (L_ B.ba (qv 4)) qj (xh _)) (qh (zj (C_ c.1.1.2 hr (vf (qv 3) (bN (qv 4) (qp jz (qp aA (qv 1) qj) (L_ B.ba (qv 4))) (qp aA (qv 1) qj))))))) (qh (ze (zn (kh (qv 3) (I_ (J_ 4) qj))))))))))⟩
abbrev c33(V:V_):Prop:=c32 V/\Q_ V 1 "_law_told" [nJ] (pO)
theorem d33(V:V_)(B:B_ V)(c:c32 V):c33 V:=⟨c,M_ V 0 [nJ, nG, nK, "_law_todo", "_law_here"] B.hp B.D32 adi fun _ _ _ _ _ _ _ hr hN hu=>(qc (adv (i:=1) (j:=2) (k:=3) rfl hN rfl rfl rfl (by decide) (by decide) (by decide) rfl rfl rfl (bN (jq ku) (jq ku) (jq (xc (qv 0)))) rfl) (qc (fz PassesOwn.never (N_ hu (qv 3) (jq ku)) (qc (S_ 4 hN (aht (qv 3))) (k7 (js (E_ hu (J_ 4) jp) (qh (zj (zd (qv 1) (xc (zn (kh (J_ 4) (J_ 4))))))) zp) (k7 (js (E_ hu (J_ 4) jp) (qh (zj (zd (qv 2) (xc (zn (kh (J_ 4) (J_ 4))))))) zp) (qh (zj (nO (qv 3) (xc (cM ["_law_arm"] (EK (by rfl)) rfl (ak2 (dE (al6 _ _ _) (qv 4) (dZ qj) jC)) (vh qD (fun _ _ _ _=>Or.inl rfl) (fun _ _ _ _=>rfl)) (fun _ _ _ _=>dP (kg (k8 .tuple rfl B.bb rfl B.bn fT (qv 5)))) (fun _ _ _ _=>(qv 5))))))))))) (qh (ze (zn (kh (we jD rfl B.bi dY (xc (qv 1))) (we jD rfl B.bi dY (xc (qv 2)))))))))⟩
abbrev c34(V:V_):Prop:=c33 V/\Q_ V 2 "_law_order" [ng, nq] (mC V.Pt)
theorem d34(V:V_)(B:B_ V)(c:c33 V):c34 V:=⟨c,T_ V 1 [ng, nq, "_law_keys", nE, nH, "_law_rank"] B.hp B.D33 aaw fun _ _ _ _ _ _ _ C hr hN hu=>(qc (a7 (i:=2) hN rfl (Or.inr rfl) (jq ku)) (qc (wb PassesOwn.never rfl (da rfl B.bh (qv 0)) (aY rfl (j4 (G_ 3 hN) (j4 (G_ 4 hN) ko))) (qc (S_ 5 hN (qp v4 (C_ c.1.1.1.1.1.1.1.1.1.1.2 hr (bN (qv 1) (qv 3) qj)) qj)) (k7 (js (ag (dD (bQ (qv 4)) (ae (E_ hu (L_ B.ba (qv 4)) qj)))) (qh (S_ 5 hN (qp jz (qp jz (qv 5) qj) (we ah1 rfl B.bq aaq (kh (I_ (qv 2) (J_ 4)) (I_ (qv 2) (J_ 4))))))) zp) (qh (zj (zd (qv 2) (xc (qv 5)))))))) (qh (ze (abu rfl B.bi (jG rfl rfl B.be rfl B.bg (L_ B.ba (qv 0))) ⟨rfl,rfl,rfl,by decide +kernel,rfl,rfl,by decide,by decide,by decide⟩ C (dp3 hr) rfl rfl rfl ⟨_,rfl,rfl⟩ rfl (fun _ _ _ _ _ _ _=>rfl))))))⟩
abbrev c35(V:V_):Prop:=c34 V/\Q_ V 3 "_law_gapped" [ng, nG, nK, nq, "_law_gaps"] (gx V.Pt)
theorem d35(V:V_)(B:B_ V)(c:c34 V):c35 V:=⟨c,M_ V 2 [ng, nG, nK, nq, "_law_gaps", "_law_at", "_law_wide", nE, nH] B.hp B.D34 xK fun _ _ _ _ _ _ _ hr hN hu=>(qc (a7 (i:=5) hN rfl (Or.inr rfl) vM) (qc (S_ 6 hN (jq ku)) (qc (wb PassesOwn.never rfl (v0 (C_ c.2 hr (kh (qv 0) (qv 3)))) (G_ 7 hN) (k7 (js (ag (dD (kg (qv 4)) (ae (E_ hu (qp v4 (C_ c.1.1.1.1.1.1.1.1.1.1.1.2 hr (bN (qv 3) (qv 7) qj)) qj) qj)))) (qh (zj (zd (qv 6) (xc gQ)))) zp) (qc (vB hu (qv 5) (qv 7) (L_ B.ba (qv 6))) (qc (S_ 8 hN (I_ (qv 0) (qv 7))) (k7 (js (ag (dD (bQ (qv 8)) (ae (E_ hu (L_ B.ba (qv 8)) qj)))) (qh (S_ 8 hN (zn (bN (J_ 8) (aO hu (qv 5) (J_ 8) (fun _ _=>rfl)) (aO hu (qv 5) (J_ 8) (fun _ _=>rfl)))))) zp) (qh (zj (zd (qv 6) (xc (qv 8)))))))))) (qc (uv "_law_p'" (a7 (i:=1) qD rfl (Or.inl rfl) (we jD rfl B.bi dY (xc (cM [nE, "_law_q" ] (EK (by rfl)) rfl (v0 (qv 1)) (jB rfl qD (fun _ _ _ _=>rfl) (fun _ _ _ _=>rfl)) (fun _ _ _ _=>dG) (fun _ _ _ _=>(zn (kh (we als rfl B.bv ajv (kh (aO hu (qv 5) (qv 9) (fun _ _=>rfl)) (aO hu (qv 5) (qv 10) (fun _ _=>rfl)))) (we ah1 rfl B.bq aaq (kh (aO hu (qv 5) (qv 9) (fun _ _=>rfl)) (aO hu (qv 5) (qv 10) (fun _ _=>rfl)))))))))))) (qc (uv "_law_p'" (a7 (i:=2) qD rfl (Or.inl rfl) (we jD rfl B.bi dY (xc (cM [nE, "_law_q" ] (EK (by rfl)) rfl (v0 (qv 2)) (jB rfl qD (fun _ _ _ _=>rfl) (fun _ _ _ _=>rfl)) (fun _ _ _ _=>dG) (fun _ _ _ _=>(zn (kh (aO hu (qv 5) (qv 9) (fun _ _=>rfl)) (aO hu (qv 5) (qv 10) (fun _ _=>rfl)))))))))) (qh (ze (zn (bN (qp jz (qv 6) (cM [ny] (EK (by rfl)) rfl (au rfl B.bg (xc (fe aj4 rfl B.bp tN (xc (qv 4))))) (vh qD (fun _ _ _ _=>Or.inl rfl) (fun _ _ _ _=>rfl)) (fun _ _ _ _=>dG) (fun _ _ _ _=>gQ))) (qv 1) (qv 2))))))))))⟩
abbrev c36(V:V_):Prop:=c35 V/\Q_ V 1 "_law_copy" [nF] (o6)
theorem d36(V:V_)(B:B_ V)(c:c35 V):c36 V:=⟨c,M_ V 0 [nF] B.hp B.D35 afv fun _ _ _ _ _ _ _ hr hN hu=>(qh (ze (zn (bN (fe jN rfl B.be cI (xc (J_ 0))) (fe jN rfl B.be cI (xc (J_ 0))) (fe jN rfl B.be cI (xc (J_ 0)))))))⟩
abbrev c37(V:V_):Prop:=c36 V/\Q_ V 1 "_law_count" [nF, "_law_kind"] (l8)
theorem d37(V:V_)(B:B_ V)(c:c36 V):c37 V:=⟨c,M_ V 0 [nF, "_law_kind"] B.hp B.D36 aa4 fun _ _ _ _ _ _ _ hr hN hu=>(qh (ze (L_ B.ba (cM [nH] (EK (by rfl)) rfl (v0 (J_ 0)) (vh qD (fun _ _ _ _=>Or.inl rfl) (fun _ _ _ _=>rfl)) (fun _ _ _ _=>dP (ag (dD (bQ (qv 2)) (ae (E_ hu (J_ 2) (qv 1)))))) (fun _ _ _ _=>(qv 2))))))⟩
abbrev c38(V:V_):Prop:=c37 V/\Q_ V 2 nN [nj, "_law_count_here", nI] (t7)
theorem d38(V:V_)(B:B_ V)(c:c37 V):c38 V:=⟨c,M_ V 1 [nj, "_law_count_here", nI] B.hp B.D37 akg fun _ _ _ _ _ _ _ hr hN hu=>(qh (ze (cM [ny] (EK (by rfl)) rfl (au rfl B.bg (xc (qv 1))) (vh qD (fun _ _ _ _=>Or.inl rfl) (fun _ _ _ _=>rfl)) (fun _ _ _ _=>dG) (fun _ _ _ _=>(qp v4 (qp aA (C_ c.1.1.1.1.1.1.1.1.1.1.1.1.1.1.2 hr (bN (C_ c.1.1.1.1.1.1.1.1.1.1.1.1.1.1.1.1.2 hr (kh (qv 0) (qv 3))) (qp jz (qv 3) (qv 2)) qj)) (qp jz (qv 2) qj)) qj)))))⟩
theorem dL(V:V_)(B:B_ V)(c:c38 V){f:Addr}{fd:FuncData}(F:zE V.K "law" "law" qG f fd):Fn3 V.P V.w V.K V.mg V.base 130 f fd [nj] (ow V.Pt lamQ):=
 W_ V 129 [nj, nq, "_law_gaps", ng, nJ, nG, nK, nF, "_law_handed", nI] F ad6 fun _ _ _ _ _ _ hr hN hu=>(qc (S_ 1 hN (qp v4 (C_ c.1.1.1.1.1.1.1.1.1.1.1.1.1.1.1.1.1.2 hr (kh (qv 0) qj)) (qp an4 qj qj))) (qc (S_ 2 hN (w6 (iO _ _ _ hu) (qp v4 (C_ c.1.1.1.1.1.1.1.1.1.1.1.1.1.1.1.2 hr (bN (qv 1) qj qj)) qj) qj (xh _))) (qc (lC (C_ c.1.1.1.1.1.1.2 hr (bN (qv 0) (qv 1) (cV (kg (qv 2)) qj qj))) (aY rfl (j4 (G_ 3 hN) (j4 (G_ 4 hN) ko)))) (qc (lC (C_ c.1.1.1.1.1.2 hr (xc (qv 4))) (aY rfl (j4 (G_ 5 hN) (j4 (G_ 6 hN) ko)))) (qc (S_ 7 hN (C_ c.1.1.1.2 hr (vf (qv 3) (vf (qv 5) (bN (qv 6) (qv 1) (qv 2)))))) (qc (S_ 8 hN (C_ c.1.1.2 hr (xc (qv 7)))) (qc (wb PassesOwn.never rfl (au rfl B.bg (xc qj)) (G_ 9 hN) (qh (js (bQ (C_ c.1.1.1.1.1.1.1.1.1.1.1.1.1.1.1.1.1.1.2 hr (kh (qv 8) (C_ c.2 hr (bN (qv 0) (C_ c.1.2 hr (kh (qv 7) jp)) (qv 9)))))) (qh (ze kG)) zp))) (qc (js (ag (mv (vd aiy (C_ c.1.1.1.1.1.1.1.1.1.1.1.1.1.1.1.1.1.1.1.1.1.1.2 hr (xc (qv 8))) kG (xh _)) (gr (bQ (C_ c.1.1.1.1.1.1.1.1.1.1.1.1.1.1.1.1.1.1.1.1.1.2 hr (xc (qv 8))))))) (qh (ze kG)) zp) (qh (ze (C_ c.1.1.1.1.1.1.1.1.1.1.1.1.1.1.1.1.2 hr (kh (qv 8) (qv 7)))))))))))))
theorem all_mk{l:PySem.W.OpenLaw}{w:World}{K:Af}{h:Heap}{mg:Str->Option Value}{fa:Addr}{a_LEAF_KINDS:Addr}{o_LEAF_KINDS:Option Addr}{n_LEAF_KINDS:Nat}{l_LEAF_KINDS:Array (Option Value)}{t_LEAF_KINDS0 t_LEAF_KINDS1:Tok}{Ca:Addr}{Pt:Addr}(X:K.In h)(G:h.Ns mainGlobals mg)(hfa:mg "law" = some (.ref fa))
 (D0:z0 K "is_leaf" mx)
 (D1:cH K Ca "__init__" "Pieces.__init__" du)
 (D2:cH K Ca "head_of" "Pieces.head_of" ap)
 (D3:cH K Ca "unite" "Pieces.unite" cZ)
 (D4:z0 K "places_there" cY)
 (D5:z0 K "parts_of" jH)
 (D6:z0 K "eithers_of" fZ)
 (D7:z0 K "boths_of" kU)
 (D8:z0 K "part_edges" fk)
 (D9:z0 K "joins_of" lK)
 (D10:z0 K "join_steps" fV)
 (D11:z0 K "can_fold" mE)
 (D12:z0 K "fold_steps" gH)
 (D13:z0 K "steps_by" jO)
 (D14:z0 K "all_come_together" aJ)
 (D15:z0 K "right_web" iB)
 (D16:z0 K "first_bad" iM)
 (D17:z0 K "kept_parts" fP)
 (D18:z0 K "edges_by" jM)
 (D19:z0 K "fault_by" jK)
 (D20:z0 K nM dC)
 (D21:z0 K "_law_same" iI)
 (D22:z0 K "_law_mix" kQ)
 (D23:z0 K "_law_name" iK)
 (D24:z0 K "_law_word" iX)
 (D25:z0 K "_law_flip" iV)
 (D26:z0 K "_law_weight" eF)
 (D27:z0 K "_law_mirror" eI)
 (D28:z0 K "_law_join" iU)
 (D29:z0 K "_law_fold" iC)
 (D30:z0 K "_law_cut" lI)
 (D31:z0 K "_law_tree" iS)
 (D32:z0 K "_law_told" iL)
 (D33:DefInT K "_law_order" s__law_order Pt)
 (D34:z0 K "_law_gapped" eJ)
 (D35:z0 K "_law_copy" iP)
 (D36:z0 K "_law_count" fW)
 (D37:z0 K nN cU)
 (D38:z0 K "law" qG)
 (aLEAF_KINDS:PySem.W.nsIn K mainGlobals "LEAF_KINDS" = some (some (.ref a_LEAF_KINDS)))
 (lLEAF_KINDS:K.lookup a_LEAF_KINDS=some ⟨.type "tuple",o_LEAF_KINDS,.seq #[.str "plain" t_LEAF_KINDS0,.str "turned" t_LEAF_KINDS1] n_LEAF_KINDS,l_LEAF_KINDS⟩)
 (aCPieces:PySem.W.nsIn K mainGlobals "Pieces" = some (some (.ref Ca)))
 (clPieces:Cls K Ca)
 (mAPieces:PySem.W.makesIn K Ca=true)
 (mKPieces:PySem.W.keepIn K (.ref Ca)=true)
 (xf:L3.XFP K Ca)
 (zlist:PySem.W.nsIn K mainGlobals "list" = some none)
 (zrange:PySem.W.nsIn K mainGlobals "range" = some none)
 (zenumerate:PySem.W.nsIn K mainGlobals "enumerate" = some none)
 (zlen:PySem.W.nsIn K mainGlobals "len" = some none)
 (zall:PySem.W.nsIn K mainGlobals "all" = some none)
 (zzip:PySem.W.nsIn K mainGlobals "zip" = some none)
 (zisinstance:PySem.W.nsIn K mainGlobals "isinstance" = some none)
 (zbool:PySem.W.nsIn K mainGlobals "bool" = some none)
 (ztuple:PySem.W.nsIn K mainGlobals "tuple" = some none)
 (zint:PySem.W.nsIn K mainGlobals "int" = some none)
 (zstr:PySem.W.nsIn K mainGlobals "str" = some none)
 (zsorted:PySem.W.nsIn K mainGlobals "sorted" = some none)
 (zmax:PySem.W.nsIn K mainGlobals "max" = some none)
 (zmin:PySem.W.nsIn K mainGlobals "min" = some none):
 ∃fd:FuncData,(∀(s:Shared) (v:Value),BindsTo s fd ⟨[v],[]⟩ [(nj,v)])/\∀base:Heap,K.In base->base.Ns mainGlobals mg->a6 l.prog w K mg base CX0 130 fa fd [nj] (spTopT lamQ K Pt):=by
 obtain⟨fL,kV,doc,pm,an,cdv,ct,aL,FL⟩:=D38.ex;have e:=hfa.symm.trans (CL X G aL);cases e;refine⟨PySem.W.fnOf "law" "law" (x9 qG) (je qG) (qr qG) .none kV doc pm an cdv ct,fun s v=>.of_eq rfl,fun base _ _=>?_⟩;have B:B_ ⟨l.prog,w,K,mg,base,Pt,Ca⟩:=⟨⟨h,X,G⟩,Bb X G zlist,Bb X G zrange,Bb X G zenumerate,Bb X G zlen,Bb X G zall,Bb X G zzip,Bb X G zisinstance,Bb X G zbool,Bb X G ztuple,Bb X G zint,Bb X G zstr,Bb X G zsorted,Bb X G zmax,Bb X G zmin,D0,D1,D2,D3,D4,D5,D6,D7,D8,D9,D10,D11,D12,D13,D14,D15,D16,D17,D18,D19,D20,D21,D22,D23,D24,D25,D26,D27,D28,D29,D30,D31,D32,D33,D34,D35,D36,D37,⟨a_LEAF_KINDS,CL X G aLEAF_KINDS,fun H=>⟨a_LEAF_KINDS,[V.str "plain",V.str "turned"],rfl,.inr ⟨_,_,_,lLEAF_KINDS,rfl,rfl,by show 2≤sizeLine;decide,.cons ⟨_,rfl⟩ (.cons ⟨_,rfl⟩ (.nil))⟩,⟨_,_,rfl,rfl,⟨_,_,rfl,rfl,rfl⟩⟩⟩⟩,CL X G aCPieces,clPieces,mAPieces,mKPieces,xf⟩;exact a6.imp (dL _ B (d38 _ B (d37 _ B (d36 _ B (d35 _ B (d34 _ B (d33 _ B (d32 _ B (d31 _ B (d30 _ B (d29 _ B (d28 _ B (d27 _ B (d26 _ B (d25 _ B (d24 _ B (d23 _ B (d22 _ B (d21 _ B (d20 _ B (d19 _ B (d18 _ B (d17 _ B (d16 _ B (d15 _ B (d14 _ B (d13 _ B (d12 _ B (d11 _ B (d10 _ B (d9 _ B (d8 _ B (d7 _ B (d6 _ B (d5 _ B (d4 _ B (d3 _ B (d2 _ B (d1 _ B trivial)))))))))))))))))))))))))))))))))))))) FL) fun vs H Q E q=>af6 q
theorem def_inT{K:Af}{x:Str}{st:Stmt}{f Pt:Addr}{oc:Value}{od an:Option Addr}{osl:Array (Option Value)}{kV doc pm cdv ct:Value}(a:PySem.W.nsIn K mainGlobals x=some (some (.ref f)))
 (l:K.lookup f=some ⟨oc,od,.func (PySem.W.fnOf x x (x9 st) (je st) (qr st) .none kV doc pm an cdv ct),osl⟩) (c:PySem.W.codeIn K cdv x=true) (k:PySem.W.keepIn K (.ref f)=true) (C:ym K cdv Pt):DefInT K x st Pt:=
 ⟨f,kV,doc,pm,an,cdv,ct,a,⟨⟨oc,od,kV,doc,pm,an,cdv,ct,osl,rfl,l,c,C⟩,k⟩⟩
end K34
namespace H34
noncomputable section
open PySem PySem.W PySem.W.X L2 L3 PyProof.Rows
abbrev rr:=PySem.Challenge.rw_oncewise_k34_trees_webs_right
abbrev p:Program:=PySem.Challenge.pw_oncewise_k34_trees_webs_right
abbrev top:=K34.top
abbrev yM(i k:Nat):Stmt:=(iw (top i)).getD k (.Pass ⟨0,0,0,0⟩)
abbrev s(x:String):Str:=Str.ofString x
noncomputable abbrev S (x:String) (t:Tok):Value:=.str (Str.ofString x) t
noncomputable abbrev I (i:Int) (t:Tok):Value:=.int i t
noncomputable abbrev R (a:Addr):Value:=.ref a
abbrev E(P:Params)(k:String)(t:Tok)(v:Value):DictEntry:=⟨PyData.keyHash P (Str.ofString k),.str (Str.ofString k) t,v⟩
noncomputable abbrev O (c:Value) (d:Data):Obj:=⟨c,none,d,#[]⟩
abbrev FN(n q:String)(st:Stmt)(dV kV doc pm:Value)(an:Option Addr)(cd ct:Value):FuncData:=fnOf (Str.ofString n) (Str.ofString q) (x9 st) (je st) (qr st) dV kV doc pm an cd ct
abbrev FG(n q:String)(st:Stmt):FuncData:={ fnOf (Str.ofString n) (Str.ofString q) (x9 st) (je st) (qr st) .none .none .none .none none .none .none with globals:=0 }
abbrev tu(l:Array Value):Obj:=O (.type "tuple") (.seq l 0)
abbrev fo(f:FuncData):Obj:=O (.type "function") (.func f)
abbrev go(f:FuncData):Obj:=O .none (.func f)
abbrev co(n q:String)(t l a b c fl v:Nat)(o:Bool)(m k:Nat)(x y z u:Value)(d:Nat):Obj:=O (.type "code") (.fields #[S n t,S q (t+1),S "/claim/cut.py" (t+2),I l 0,I a 0,I b 0,I c 0,I fl 0,R v,.bool o,I m 0,R k,x,y,z,u,I d 0,I l 0,S "/claim/cut.py" (d+1)])
abbrev pX:Value:=S "law_oncewise_k34_trees_webs_right" 450
abbrev m1_:Value:=S "oncewise.shrinking" 358
abbrev m2_:Value:=S "oncewise.switching" 307
abbrev m3_:Value:=S "oncewise.webs" 286
abbrev fX(n:String)(i:Nat)(m:Value)(r:Nat):Obj:=fo (FN n n (top i) .none .none .none m none (R r) .none)
abbrev gX(n:String)(i:Nat):Obj:=go (FG n n (top i))
abbrev cF(n:String)(t l a v d:Nat):Obj:=co n n t l a 0 0 3 v true 181 (v+1) .none (R (v+2)) (R (v+3)) (R (v+4)) d
abbrev cC(n:String)(t l v d:Nat):Obj:=co n n t l 0 0 0 0 v false 181 (v+1) .none .none .none .none d
abbrev cS(n:String)(a ns k t v:Nat):Obj:=⟨.type "type",none,.cls (ClassData.mk (s n) [R 24] [R a,R 24,.type "ValueError",.type "Exception",.type "BaseException",.type "object"] ns (s n) true [] [] false none false),#[some (R k),none,some (S n t),some (S n v),some (.builtin "ValueError.__new__"),some (.bool true)]⟩
abbrev dA(P:Params)(a b:Nat)(l:Int)(c d r e:Nat):Obj:=O (.type "dict") (.dict #[E P "__module__" a (S "oncewise.errors" 187),E P "__firstlineno__" b (I l c),E P "__static_attributes__" d (R r),E P "__doc__" e .none] 2)
abbrev dB(P:Params)(a q:Nat)(n:String)(q2 b:Nat)(l:Int)(c d r:Nat):Obj:=O (.type "dict") (.dict #[E P "__module__" a (S "oncewise.errors" 187),E P "__qualname__" q (S n q2),E P "__firstlineno__" b (I l c),E P "__static_attributes__" d (R r)] 4)
abbrev fR(a b:Nat):Obj:=⟨.type "frame",none,.plain,#[some (R a),some (R 3),some (R b),none,some (S "oncewise.errors" 187),none,some (R 0)]⟩
abbrev bI(a:Nat):Obj:=O (.type "builtin_function_or_method") (.fields #[.builtin "object.__init_subclass__",R a])
abbrev sU(a:Nat):Obj:=O (.type "super") (.fields #[R a,R a,R a])
abbrev Ob:=Params->Obj
def ev{α:Type}:Bool->List α->List α
 |_,[]=>[]
 |true,x::r=>x::ev false r
 |false,_::r=>ev true r
def bt:Nat->List Obj->BT
 |0,_=>.nil
 |_,[]=>.nil
 |n+1,x::r=>.node x (bt n (ev true r)) (bt n (ev false r))
def env0:Env:={ scope:=p.main.scope,locals:=mainNs,globals:=mainNs,cells:=[],code:=.ref 13,frame:=some 14 }
abbrev cE:Code:=.body (behindTheImports p) env0
abbrev q0:Pos:=⟨0,0,0,0⟩
abbrev an:Option Value:=some (.ref 6)
abbrev Pc(n:Nat)(S S':World->OsState->SharedT)(l:List Stmt)(q q':Pos)(w:World):Prop:=(fun os=>segRunT treeTable p w 11 an 1 n (S w os) (piecesOf l env0 cE q [topFrame q0]))=fun os=>some (Flow.next,S' w os,cE,q')
abbrev b0:=PySem.W.boot_o_0
abbrev b1:=PySem.W.boot_o_1
abbrev b2:=PySem.W.boot_o_2
abbrev b3:=PySem.W.boot_o_3
abbrev b4:=PySem.W.boot_o_4
abbrev b5:=PySem.W.boot_o_5
abbrev b6:=PySem.W.boot_o_6
abbrev b7:=PySem.W.boot_o_7
abbrev b8:=PySem.W.boot_o_8
abbrev b9:=PySem.W.boot_o_9
abbrev b10:=PySem.W.boot_o_10
def vj:Ob:=fun _=>tu #[]
def a9:Ob:=fun _=>O .none (.fields #[])
def xac:Ob:=fun _=>cC "<module>" 182 1 11 185
def xad:Ob:=fun _=>⟨(.type "frame"),none,.plain,#[(some (R 13)),(some (R 3)),(some (R 3)),none,(some (S "__main__" 164)),none,(some (R 0))]⟩
def xag:Ob:=fun P=>O (.type "dict") (.dict #[(E P "__module__" 196 (S "oncewise.errors" 187)),(E P "__firstlineno__" 200 (I 2 199)),(E P "__static_attributes__" 201 (R 22)),(E P "__weakref__" 203 (R 25)),(E P "__doc__" 204 .none)] 3)
def xaj:Ob:=fun _=>O (.type "getset_descriptor") (.fields #[S "__weakref__" 202,R 24,(.builtin "ExceptionGroup.__weakref__"),.none])
def xal:Ob:=fun _=>O (.type "builtin_function_or_method") (.fields #[(.builtin "type.__prepare__"),(.type "type")])
def xat:Ob:=fun _=>cS "BadChoices" 37 36 28 207 215
def xau:Ob:=fun _=>⟨(.type "type"),none,(.cls (ClassData.mk (s "OnceError") [(.type "ValueError")] [R 24,(.type "ValueError"),(.type "Exception"),(.type "BaseException"),(.type "object")] 23 (s "OnceError") true [] [R 37] false none false)),#[(some (R 15)),none,(some (S "OnceError" 189)),(some (S "OnceError" 197)),(some (.builtin "ValueError.__new__")),(some (.bool true))]⟩
def xaw:Ob:=fun P=>dA P 214 218 4 217 219 35 220
def xa3:Ob:=fun _=>O (.type "getset_descriptor") (.fields #[S "__dict__" 267,R 70,(.builtin "function.__dict__"),(.builtin "function.__dict__#set")])
def xa4:Ob:=fun _=>fX "places_there" 9 m3_ 86
def xa5:Ob:=fun _=>fo (FN "unite" "Pieces.unite" (yM 4 2) .none .none .none (S "oncewise.pieces" 223) none (R 66) .none)
def xa7:Ob:=fun _=>tu #[S "plain" 276,S "turned" 277]
def xa8:Ob:=fun _=>co "head_of" "Pieces.head_of" 245 12 2 0 0 3 54 true 181 55 .none (R 56) (R 57) (R 58) 251
def xbb:Ob:=fun _=>cF "is_leaf" 279 26 1 76 283
def xbd:Ob:=fun P=>O (.type "dict") (.dict #[(E P "__module__" 232 (S "oncewise.pieces" 223)),(E P "__firstlineno__" 236 (I 7 235)),(E P "__init__" 244 (R 53)),(E P "head_of" 253 (R 60)),(E P "unite" 264 (R 67)),(E P "__static_attributes__" 266 (R 68)),(E P "__dict__" 268 (R 71)),(E P "__weakref__" 270 (R 72)),(E P "__doc__" 271 .none)] 4)
def xbe:Ob:=fun _=>fo (FN "__init__" "Pieces.__init__" (yM 4 0) .none .none .none (S "oncewise.pieces" 223) none (R 52) .none)
def xbi:Ob:=fun _=>O (.type "getset_descriptor") (.fields #[S "__weakref__" 269,R 70,(.builtin "ExceptionGroup.__weakref__"),.none])
def xbm:Ob:=fun _=>co "__init__" "Pieces.__init__" 237 9 2 0 0 3 47 true 181 48 .none (R 49) (R 50) (R 51) 242
def xbo:Ob:=fun _=>fo (FN "head_of" "Pieces.head_of" (yM 4 1) .none .none .none (S "oncewise.pieces" 223) none (R 59) .none)
def xbp:Ob:=fun _=>co "unite" "Pieces.unite" 254 19 3 0 0 3 61 true 181 62 .none (R 63) (R 64) (R 65) 262
def xbq:Ob:=fun _=>fo (FN "is_leaf" "is_leaf" (top 7) .none .none .none (S "oncewise.words" 274) none (R 81) .none)
def xbu:Ob:=fun _=>⟨(.type "type"),none,(.cls (ClassData.mk (s "Pieces") [(.type "object")] [R 70,(.type "object")] 69 (s "Pieces") true [] [] false none false)),#[none,none,(some (S "Pieces" 225)),(some (S "Pieces" 233)),(some (.builtin "object.__new__")),(some (.bool true))]⟩
def xbv:Ob:=fun _=>co "places_there" "places_there" 288 29 1 0 0 3 83 true 181 84 .none .none .none (R 85) 291
def xbz:Ob:=fun _=>fX "can_fold" 23 m1_ 158
def xb1:Ob:=fun _=>fX "edges_by" 14 m2_ 110
def xb2:Ob:=fun _=>fX "boths_of" 19 m1_ 134
def xb3:Ob:=fun _=>co "kept_parts" "kept_parts" 309 38 2 0 0 3 100 true 181 101 .none .none .none (R 102) 312
def xb4:Ob:=fun _=>fX "eithers_of" 11 m3_ 98
def xb5:Ob:=fun _=>fX "joins_of" 21 m1_ 146
def xb6:Ob:=fun _=>co "part_edges" "part_edges" 366 87 2 0 0 3 136 true 181 137 .none .none .none (R 138) 369
def xb9:Ob:=fun _=>co "fault_by" "fault_by" 352 74 2 0 0 3 126 true 181 127 .none .none .none (R 128) 355
def xcc:Ob:=fun _=>cF "join_steps" 379 94 2 148 387
def xcf:Ob:=fun _=>cF "neighbours_by" 327 57 1 112 334
def xch:Ob:=fun _=>cF "parts_of" 294 31 1 88 298
def xcj:Ob:=fun _=>fX "path_by" 16 m2_ 124
def xcl:Ob:=fun _=>fX "kept_parts" 13 m2_ 103
def xcp:Ob:=fun _=>fX "part_edges" 20 m1_ 139
def xcr:Ob:=fun _=>cF "path_by" 337 63 3 119 349
def xcs:Ob:=fun _=>fX "fault_by" 17 m2_ 129
def xct:Ob:=fun _=>co "eithers_of" "eithers_of" 301 35 1 0 0 3 95 true 181 96 .none .none .none (R 97) 304
def xcu:Ob:=fun _=>cF "joins_of" 372 92 1 141 376
def xcy:Ob:=fun _=>fX "join_steps" 22 m1_ 153
def xcz:Ob:=fun _=>co "boths_of" "boths_of" 360 85 1 0 0 3 131 true 181 132 .none .none .none (R 133) 363
def xc2:Ob:=fun _=>fX "neighbours_by" 15 m2_ 117
def xc3:Ob:=fun _=>cF "edges_by" 315 46 2 105 324
def xc4:Ob:=fun _=>fX "parts_of" 10 m3_ 93
def xc5:Ob:=fun _=>co "can_fold" "can_fold" 390 100 3 0 0 3 155 true 181 156 .none .none .none (R 157) 393
def xc8:Ob:=fun _=>cF "_law_same" 460 139 2 202 467
def xdb:Ob:=fun _=>fX "_law_mix" 32 pX 214
def xdd:Ob:=fun _=>fX "_law_word" 34 pX 226
def xdf:Ob:=fun _=>cF "all_come_together" 418 116 3 174 425
def xdh:Ob:=fun _=>co "_law_name" "_law_name" 479 158 2 0 0 3 216 true 181 217 .none .none .none (R 218) 482
def xdi:Ob:=fun _=>fX "right_web" 27 m1_ 186
def xdj:Ob:=fun _=>cF "first_bad" 435 121 1 188 447
def xdl:Ob:=fun _=>fX "_law_weight" 36 pX 240
def xdm:Ob:=fun _=>fX "_law_cell_at" 30 pX 200
def xdo:Ob:=fun _=>cF "_law_flip" 494 172 1 228 499
def xdr:Ob:=fun _=>cF "fold_steps" 396 103 3 160 405
def xdt:Ob:=fun _=>fX "steps_by" 25 m1_ 172
def xdw:Ob:=fun _=>fX "_law_same" 31 pX 207
def xdy:Ob:=fun _=>cF "_law_weight" 502 177 1 235 506
def xdz:Ob:=fun _=>cF "_law_cell_at" 452 135 2 195 457
def xd3:Ob:=fun _=>fX "all_come_together" 26 m1_ 179
def xd5:Ob:=fun _=>cF "steps_by" 408 113 3 167 415
def xd6:Ob:=fun _=>fX "_law_name" 33 pX 219
def xd7:Ob:=fun _=>fX "first_bad" 28 m1_ 193
def xd9:Ob:=fun _=>cF "_law_word" 485 167 2 221 491
def xeb:Ob:=fun _=>fX "_law_flip" 35 pX 233
def xed:Ob:=fun _=>cF "right_web" 428 119 1 181 432
def xee:Ob:=fun _=>fX "fold_steps" 24 m1_ 165
def xeg:Ob:=fun _=>cF "_law_mix" 470 156 3 209 476
def xej:Ob:=fun P=>O (.type "dict") (.dict #[(E P "__name__" 165 (S "law_oncewise_k34_trees_webs_right" 450)),(E P "__doc__" 166 .none),(E P "__package__" 167 .none),(E P "__loader__" 168 (.builtin "__main__.__loader__#opaque")),(E P "__spec__" 169 .none),(E P "__annotations__" 170 (R 6)),(E P "__builtins__" 171 (R 4)),(E P "__file__" 173 (S "/claim/cut.py" 172)),(E P "__cached__" 174 .none),(E P "OnceError" 206 (R 24)),(E P "BadChoices" 222 (R 37)),(E P "Pieces" 273 (R 70)),(E P "LEAF_KINDS" 278 (R 75)),(E P "is_leaf" 285 (R 82)),(E P "places_there" 293 (R 87)),(E P "parts_of" 300 (R 94)),(E P "eithers_of" 306 (R 99)),(E P "kept_parts" 314 (R 104)),(E P "edges_by" 326 (R 111)),(E P "neighbours_by" 336 (R 118)),(E P "path_by" 351 (R 125)),(E P "fault_by" 357 (R 130)),(E P "boths_of" 365 (R 135)),(E P "part_edges" 371 (R 140)),(E P "joins_of" 378 (R 147)),(E P "join_steps" 389 (R 154)),(E P "can_fold" 395 (R 159)),(E P "fold_steps" 407 (R 166)),(E P "steps_by" 417 (R 173)),(E P "all_come_together" 427 (R 180)),(E P "right_web" 434 (R 187)),(E P "first_bad" 449 (R 194)),(E P "_law_cell_at" 459 (R 201)),(E P "_law_same" 469 (R 208)),(E P "_law_mix" 478 (R 215)),(E P "_law_name" 484 (R 220)),(E P "_law_word" 493 (R 227)),(E P "_law_flip" 501 (R 234)),(E P "_law_weight" 508 (R 241)),(E P "_law_mirror" 522 (R 248)),(E P "_law_join" 528 (R 253)),(E P "_law_fold" 540 (R 260)),(E P "_law_cut" 546 (R 265)),(E P "_law_tree" 563 (R 272)),(E P "_law_told" 569 (R 277)),(E P "_law_order" 581 (R 284)),(E P "_law_gapped" 587 (R 289)),(E P "_law_copy" 594 (R 296)),(E P "_law_count" 600 (R 301)),(E P "_law_choices" 606 (R 306)),(E P "law" 622 (R 313))] 51)
def xel:Ob:=fun _=>cF "_law_tree" 547 232 3 266 561
def xen:Ob:=fun _=>cF "_law_copy" 588 293 1 290 592
def xep:Ob:=fun _=>cF "_law_mirror" 509 181 2 242 520
def xeq:Ob:=fun _=>cF "_law_fold" 529 202 4 254 538
def xet:Ob:=fun _=>cF "_law_order" 570 271 2 278 579
def xev:Ob:=fun _=>fX "_law_gapped" 44 pX 288
def xew:Ob:=fun _=>co "_law_choices" "_law_choices" 601 297 3 0 0 3 302 true 181 303 .none .none .none (R 304) 604
def xex:Ob:=fun _=>fX "_law_cut" 40 pX 264
def xez:Ob:=fun _=>fX "law" 48 pX 312
def xe0:Ob:=fun _=>fX "_law_told" 42 pX 276
def xe2:Ob:=fun _=>fX "_law_count" 46 pX 300
def xe3:Ob:=fun _=>fX "_law_join" 38 pX 252
def xe5:Ob:=fun _=>co "_law_gapped" "_law_gapped" 582 279 5 0 0 3 285 true 181 286 .none .none .none (R 287) 585
def xe6:Ob:=fun _=>fX "_law_tree" 41 pX 271
def xe8:Ob:=fun _=>co "_law_cut" "_law_cut" 541 210 4 0 0 3 261 true 181 262 .none .none .none (R 263) 544
def xe9:Ob:=fun _=>fX "_law_copy" 45 pX 295
def xfb:Ob:=fun _=>cF "law" 607 299 1 307 620
def xfc:Ob:=fun _=>fX "_law_mirror" 37 pX 247
def xfe:Ob:=fun _=>fX "_law_fold" 39 pX 259
def xfg:Ob:=fun _=>co "_law_told" "_law_told" 564 261 1 0 0 3 273 true 181 274 .none .none .none (R 275) 567
def xfj:Ob:=fun _=>co "_law_count" "_law_count" 595 295 2 0 0 3 297 true 181 298 .none .none .none (R 299) 598
def xfk:Ob:=fun _=>fX "_law_order" 43 pX 283
def xfl:Ob:=fun _=>co "_law_join" "_law_join" 523 194 4 0 0 3 249 true 181 250 .none .none .none (R 251) 526
def xfn:Ob:=fun _=>fX "_law_choices" 47 pX 305
def aph:List Ob:=[b0,b1,b2,b3,b4,b5,b6,b7,b8,b9,b10,vj,a9,xac,xad]
def alp:List Ob:=[b0,b1,b2,xej,b4,b5,b6,b7,b8,b9,b10,vj,fun _=>O .none (.fields #[I 2 0,I 0 0,R 20,I 4 0,I 0 0,R 33,I 7 0,I 0 0,R 45,I 26 0,I 0 0,R 81,I 29 0,I 0 0,R 86,I 31 0,I 0 0,R 93,I 35 0,I 0 0,R 98,I 38 0,I 0 0,R 103,I 46 0,I 0 0,R 110,I 57 0,I 0 0,R 117,I 63 0,I 0 0,R 124,I 74 0,I 0 0,R 129,I 85 0,I 0 0,R 134,I 87 0,I 0 0,R 139,I 92 0,I 0 0,R 146,I 94 0,I 0 0,R 153,I 100 0,I 0 0,R 158,I 103 0,I 0 0,R 165,I 113 0,I 0 0,R 172,I 116 0,I 0 0,R 179,I 119 0,I 0 0,R 186,I 121 0,I 0 0,R 193,I 135 0,I 0 0,R 200,I 139 0,I 0 0,R 207,I 156 0,I 0 0,R 214,I 158 0,I 0 0,R 219,I 167 0,I 0 0,R 226,I 172 0,I 0 0,R 233,I 177 0,I 0 0,R 240,I 181 0,I 0 0,R 247,I 194 0,I 0 0,R 252,I 202 0,I 0 0,R 259,I 210 0,I 0 0,R 264,I 232 0,I 0 0,R 271,I 261 0,I 0 0,R 276,I 271 0,I 0 0,R 283,I 279 0,I 0 0,R 288,I 293 0,I 0 0,R 295,I 295 0,I 0 0,R 300,I 297 0,I 0 0,R 305,I 299 0,I 0 0,R 312]),xac,xad,fun _=>tu #[(.type "ValueError")],xal,fun P=>dB P 196 198 "OnceError" 197 200 2 199 201 22,vj,a9,fun _=>cC "OnceError" 191 2 18 194,fun _=>fR 20 17,vj,xag,xau,xaj,fun _=>sU 24,fun _=>bI 24,fun _=>tu #[R 24],xal,fun P=>dB P 214 216 "BadChoices" 215 218 4 217 219 35,vj,a9,fun _=>cC "BadChoices" 209 4 31 212,fun _=>fR 33 30,vj,xaw,xat,fun _=>sU 37,fun _=>bI 37,vj,xal,fun P=>O (.type "dict") (.dict #[(E P "__module__" 232 (S "oncewise.pieces" 223)),(E P "__qualname__" 234 (S "Pieces" 233)),(E P "__firstlineno__" 236 (I 7 235)),(E P "__init__" 244 (R 53)),(E P "head_of" 253 (R 60)),(E P "unite" 264 (R 67)),(E P "__static_attributes__" 266 (R 68))] 7),vj,fun _=>O .none (.fields #[I 9 0,I 4 0,R 52,I 12 0,I 4 0,R 59,I 19 0,I 4 0,R 66]),fun _=>cC "Pieces" 227 7 43 230,fun _=>⟨(.type "frame"),none,.plain,#[(some (R 45)),(some (R 3)),(some (R 42)),none,(some (S "oncewise.pieces" 223)),none,(some (R 0))]⟩,vj,a9,fun _=>tu #[S "self" 240,S "count" 241],vj,fun _=>go (FG "__init__" "Pieces.__init__" (yM 4 0)),xbm,xbe,vj,a9,fun _=>tu #[S "self" 248,S "place" 249,S "here" 250],vj,fun _=>go (FG "head_of" "Pieces.head_of" (yM 4 1)),xa8,xbo,vj,a9,fun _=>tu #[S "self" 257,S "p" 258,S "q" 259,S "first" 260,S "second" 261],vj,fun _=>go (FG "unite" "Pieces.unite" (yM 4 2)),xbp,xa5,fun _=>tu #[S "heads" 265],xbd,xbu,xa3,xbi,fun _=>sU 70,fun _=>bI 70,xa7,vj,a9,fun _=>tu #[S "word" 282],vj,fun _=>gX "is_leaf" 7,xbb,xbq,vj,a9,fun _=>gX "places_there" 9,xbv,xa4,vj,a9,fun _=>tu #[S "knot" 297],vj,fun _=>gX "parts_of" 10,xch,xc4,vj,a9,fun _=>gX "eithers_of" 11,xct,xb4,vj,a9,fun _=>gX "kept_parts" 13,xb3,xcl,vj,a9,fun _=>tu #[S "web" 318,S "choices" 319,S "kept" 320,S "edges" 321,S "place" 322,S "knot" 323],vj,fun _=>gX "edges_by" 14,xc3,xb1,vj,a9,fun _=>tu #[S "edges" 330,S "near" 331,S "number" 332,S "edge" 333],vj,fun _=>gX "neighbours_by" 15,xcf,xc2,vj,a9,fun _=>tu #[S "edges" 340,S "start" 341,S "goal" 342,S "near" 343,S "paths" 344,S "due" 345,S "here" 346,S "number" 347,S "place" 348],vj,fun _=>gX "path_by" 16,xcr,xcj,vj,a9,fun _=>gX "fault_by" 17,xb9,xcs,vj,a9,fun _=>gX "boths_of" 19,xcz,xb2,vj,a9,fun _=>gX "part_edges" 20,xb6,xcp,vj,a9,fun _=>tu #[S "web" 375],vj,fun _=>gX "joins_of" 21,xcu,xb5,vj,a9,fun _=>tu #[S "pieces" 382,S "joins" 383,S "steps" 384,S "p" 385,S "q" 386],vj,fun _=>gX "join_steps" 22,xcc,xcy,vj,a9,fun _=>gX "can_fold" 23,xc5,xbz,vj,a9,fun _=>tu #[S "pieces" 399,S "knots" 400,S "eithers" 401,S "steps" 402,S "before" 403,S "place" 404],vj,fun _=>gX "fold_steps" 24,xdr,xee,vj,a9,fun _=>tu #[S "knots" 411,S "joins" 412,S "eithers" 413,S "pieces" 414],vj,fun _=>gX "steps_by" 25,xd5,xdt,vj,a9,fun _=>tu #[S "knots" 421,S "joins" 422,S "eithers" 423,S "due" 424],vj,fun _=>gX "all_come_together" 26,xdf,xd3,vj,a9,fun _=>tu #[S "web" 431],vj,fun _=>gX "right_web" 27,xed,xdi,vj,a9,fun _=>tu #[S "web" 438,S "knots" 439,S "joins" 440,S "eithers" 441,S "choices" 442,S "number" 443,S "place" 444,S "left" 445,S "choice" 446],vj,fun _=>gX "first_bad" 28,xdj,xd7,vj,a9,fun _=>tu #[S "_law_script" 455,S "_law_k" 456],vj,fun _=>gX "_law_cell_at" 30,xdz,xdm,vj,a9,fun _=>tu #[S "_law_found" 463,S "_law_due" 464,S "_law_one" 465,S "_law_other" 466],vj,fun _=>gX "_law_same" 31,xc8,xdw,vj,a9,fun _=>tu #[S "_law_cell" 473,S "_law_k" 474,S "_law_factor" 475],vj,fun _=>gX "_law_mix" 32,xeg,xdb,vj,a9,fun _=>gX "_law_name" 33,xdh,xd6,vj,a9,fun _=>tu #[S "_law_knots" 488,S "_law_p" 489,S "_law_knot" 490],vj,fun _=>gX "_law_word" 34,xd9,xdd,vj,a9,fun _=>tu #[S "_law_word_here" 497,S "_law_sides" 498],vj,fun _=>gX "_law_flip" 35,xdo,xeb,vj,a9,fun _=>tu #[S "_law_word_here" 505],vj,fun _=>gX "_law_weight" 36,xdy,xdl,vj,a9,fun _=>tu #[S "_law_knots" 512,S "_law_word_here" 513,S "_law_left" 514,S "_law_right" 515,S "_law_turn" 516,S "_law_same_here" 517,S "_law_low" 518,S "_law_high" 519],vj,fun _=>gX "_law_mirror" 37,xep,xfc,vj,a9,fun _=>gX "_law_join" 38,xfl,xe3,vj,a9,fun _=>tu #[S "_law_knots" 532,S "_law_tree_here" 533,S "_law_one" 534,S "_law_two" 535,S "_law_left" 536,S "_law_right" 537],vj,fun _=>gX "_law_fold" 39,xeq,xfe,vj,a9,fun _=>gX "_law_cut" 40,xe8,xex,vj,a9,fun _=>tu #[S "_law_cells" 550,S "_law_seed" 551,S "_law_room" 552,S "_law_knots" 553,S "_law_forest" 554,S "_law_k" 555,S "_law_cell" 556,S "_law_one" 557,S "_law_two" 558,S "_law_deed" 559,S "_law_at" 560],vj,fun _=>gX "_law_tree" 41,xel,xe6,vj,a9,fun _=>gX "_law_told" 42,xfg,xe0,vj,a9,fun _=>tu #[S "_law_knots" 573,S "_law_seed" 574,S "_law_p" 575,S "_law_knot" 576,S "_law_rank" 577],fun _=>tu #[S "_law_keys" 578],fun _=>gX "_law_order" 43,xet,xfk,vj,a9,fun _=>gX "_law_gapped" 44,xe5,xev,vj,a9,fun _=>tu #[S "_law_web" 591],vj,fun _=>gX "_law_copy" 45,xen,xe9,vj,a9,fun _=>gX "_law_count" 46,xfj,xe2,vj,a9,fun _=>gX "_law_choices" 47,xew,xfn,vj,a9,fun _=>tu #[S "_law_script" 610,S "_law_seed" 611,S "_law_gaps" 612,S "_law_knots" 613,S "_law_rule" 614,S "_law_links" 615,S "_law_cuts" 616,S "_law_web" 617,S "_law_handed" 618,S "_law_turn" 619],vj,fun _=>gX "law" 48,xfb,xez]
def apg:List Ob:=[b0,b1,b2,b3,b4,b5,b6,b7,b8,b9,b10,vj,a9,xac,xad]
def aq6:List Ob:=alp
def hpA(P:Params):Heap:=⟨⟨aph.map (· P)⟩,{}⟩
def hpZ(P:Params):Heap:=⟨⟨alp.map (· P)⟩,{}⟩
def tr0(P:Params):BT:=bt 20 (apg.map (· P))
def tr6(P:Params):BT:=bt 20 (aq6.map (· P))
def sA(w:World)(os:OsState):Shared:=⟨hpA w.params,#[],{},187,os⟩
def sZ(w:World)(os:OsState):Shared:=⟨hpZ w.params,#[],{},623,os⟩
def sw(w:World)(os:OsState):SharedT:=⟨tr0 w.params,15,{},#[],{},187,os⟩
def st6(w:World)(os:OsState):SharedT:=⟨tr6 w.params,314,{},#[],{},623,os⟩
def ahv:List Stmt:=((behindTheImports p).drop 0).take 49
theorem aoy(w:World):(fun os=>topGo treeTable p w 11 an 12 ⟨boot_heap w.params,#[],boot_drawn,boot_toks,os⟩ (topStub p))=fun os=>some (sA w os,⟨denote treeTable cE,cE,⟨0,0,0,0⟩,[topFrame q0]⟩):=by kernel_rfl
theorem aq5(w:World):(fun os=>segRun treeTable p w 11 an 1 1 (sA w os) (blockOf (behindTheImports p) env0 cE ⟨0,0,0,0⟩ [topFrame q0]))=fun os=>some (.next,(sw w os).abs,cE,⟨0,0,0,0⟩):=by kernel_rfl
theorem pc1:∀w,Pc 1914 sw st6 ahv ⟨0,0,0,0⟩ ⟨299,0,311,43⟩ w:=fun w=>by kernel_rfl
theorem aow(w:World):(fun os=>topRun treeTable p w 11 an 2 (st6 w os).abs ⟨doneF .next,cE,⟨299,0,311,43⟩,[topFrame q0]⟩)=fun os=>some (sZ w os):=by kernel_rfl
theorem akw:ahv++([])=behindTheImports p:=by kernel_rfl
theorem apw(w:World)(os:OsState):topRun treeTable p w 11 an (12+(1+(1914+(2)))) ⟨boot_heap w.params,#[],boot_drawn,boot_toks,os⟩ (topStub p)=some (sZ w os):=by have h:=(piece_app (l:=ahv) (rest:=[]) (segRun_of (DL (pc1 w) os)) (piece_nil (env:=env0) (DL (aow w) os)));rw[akw] at h;exact go_top (DL (aoy w) os) (piece_block (DL (aq5 w) os) h)
def as0:List Nat:=[0,1,2,3,4,5,6,7,8,9,10,13,23,24,25,36,37,52,53,59,60,66,67,69,70,71,72,75,81,82,86,87,93,94,98,99,103,104,110,111,117,118,124,125,129,130,134,135,139,140,146,147,153,154,158,159,165,166,172,173,179,180,186,187,193,194,200,201,207,208,214,215,219,220,226,227,233,234,240,241,247,248,252,253,259,260,264,265,271,272,276,277,279,283,284,288,289,295,296,300,301,305,306,312,313]
def vw:Program:={ p with main:={ p.main with body:=[top 1,top 2,top 4,top 6,top 7,top 9,top 10,top 11,top 13,top 14,top 15,top 16,top 17,top 19,top 20,top 21,top 22,top 23,top 24,top 25,top 26,top 27,top 28,top 30,top 31,top 32,top 33,top 34,top 35,top 36,top 37,top 38,top 39,top 40,top 41,top 42,top 43,top 44,top 45,top 46,top 47,top 48] } }
def K0:Params->Frag:=fun P=>(nat_lit 0,b0 P)::(nat_lit 1,b1 P)::(nat_lit 2,b2 P)::(nat_lit 3,xej P)::(nat_lit 4,b4 P)::(nat_lit 5,b5 P)::(nat_lit 6,b6 P)::(nat_lit 7,b7 P)::(nat_lit 8,b8 P)::(nat_lit 9,b9 P)::(nat_lit 10,b10 P)::(nat_lit 13,xac P)::(nat_lit 23,xag P)::(nat_lit 24,xau P)::(nat_lit 25,xaj P)::(nat_lit 36,xaw P)::(nat_lit 37,xat P)::(nat_lit 52,xbm P)::(nat_lit 53,xbe P)::(nat_lit 59,xa8 P)::(nat_lit 60,xbo P)::(nat_lit 66,xbp P)::(nat_lit 67,xa5 P)::(nat_lit 69,xbd P)::(nat_lit 70,xbu P)::(nat_lit 71,xa3 P)::(nat_lit 72,xbi P)::(nat_lit 75,xa7 P)::(nat_lit 81,xbb P)::(nat_lit 82,xbq P)::(nat_lit 86,xbv P)::(nat_lit 87,xa4 P)::(nat_lit 93,xch P)::(nat_lit 94,xc4 P)::(nat_lit 98,xct P)::(nat_lit 99,xb4 P)::(nat_lit 103,xb3 P)::(nat_lit 104,xcl P)::(nat_lit 110,xc3 P)::(nat_lit 111,xb1 P)::(nat_lit 117,xcf P)::(nat_lit 118,xc2 P)::(nat_lit 124,xcr P)::(nat_lit 125,xcj P)::(nat_lit 129,xb9 P)::(nat_lit 130,xcs P)::(nat_lit 134,xcz P)::(nat_lit 135,xb2 P)::(nat_lit 139,xb6 P)::(nat_lit 140,xcp P)::(nat_lit 146,xcu P)::(nat_lit 147,xb5 P)::(nat_lit 153,xcc P)::(nat_lit 154,xcy P)::(nat_lit 158,xc5 P)::(nat_lit 159,xbz P)::(nat_lit 165,xdr P)::(nat_lit 166,xee P)::(nat_lit 172,xd5 P)::(nat_lit 173,xdt P)::(nat_lit 179,xdf P)::(nat_lit 180,xd3 P)::(nat_lit 186,xed P)::(nat_lit 187,xdi P)::(nat_lit 193,xdj P)::(nat_lit 194,xd7 P)::(nat_lit 200,xdz P)::(nat_lit 201,xdm P)::(nat_lit 207,xc8 P)::(nat_lit 208,xdw P)::(nat_lit 214,xeg P)::(nat_lit 215,xdb P)::(nat_lit 219,xdh P)::(nat_lit 220,xd6 P)::(nat_lit 226,xd9 P)::(nat_lit 227,xdd P)::(nat_lit 233,xdo P)::(nat_lit 234,xeb P)::(nat_lit 240,xdy P)::(nat_lit 241,xdl P)::(nat_lit 247,xep P)::(nat_lit 248,xfc P)::(nat_lit 252,xfl P)::(nat_lit 253,xe3 P)::(nat_lit 259,xeq P)::(nat_lit 260,xfe P)::(nat_lit 264,xe8 P)::(nat_lit 265,xex P)::(nat_lit 271,xel P)::(nat_lit 272,xe6 P)::(nat_lit 276,xfg P)::(nat_lit 277,xe0 P)::(nat_lit 279,a9 P)::(nat_lit 283,xet P)::(nat_lit 284,xfk P)::(nat_lit 288,xe5 P)::(nat_lit 289,xev P)::(nat_lit 295,xen P)::(nat_lit 296,xe9 P)::(nat_lit 300,xfj P)::(nat_lit 301,xe2 P)::(nat_lit 305,xew P)::(nat_lit 306,xfn P)::(nat_lit 312,xfb P)::(nat_lit 313,xez P)::[]
abbrev lamC:Nat:=283
abbrev lamT:Nat:=279
abbrev lamO:Ob:=xet
abbrev ls:List Str:=[]
abbrev Xt:Shared->Bool:=fun s=>xlAt vw [] s&&recOk (RowW.records rr.row.toRowW) s
theorem alx(w:World):((boot_heap w.params).isNs mainGlobals&&(#[]:Array GenState).size==0,(boot_heap w.params).objs.size,(boot_heap w.params).nsMap mainGlobals "__annotations__")=(true,11,an):=by kernel_rfl
theorem aog:opening p=plainProg p.main.scope.names:=by kernel_rfl
theorem aqh(s:Shared):fenceModules? p s=some s:=by kernel_rfl
theorem lk1(w:World):(fun os=>(staticsOk (importedModules p.main.body) (boot_heap w.params) (hpZ w.params)&&namesBound p (hpZ w.params)&&gensDone (sZ w os)&&laidKept (boot_heap w.params) (hpZ w.params)))=fun _=>true:=by kernel_rfl
theorem lk2(w:World):(fun os=>openSeen vw ls (importedModules p.main.body) Xt true (sZ w os))=fun _=>openGood vw ls:=by kernel_rfl
theorem lk3(w:World):(fun os=>obsZ as0 (sZ w os))=fun _=>valZ K0 314 623 w:=by kernel_rfl
theorem left_:LeftO p vw ls Xt (obsZ as0) (valZ K0 314 623) 3942:=LeftO.of_pieces (boot_open aog rfl aqh) alx apw rfl fun w=>funext fun os=>looks_pair (DL (lk1 w) os) (looks_pair (DL (lk2 w) os) (DL (lk3 w) os))
end
end H34
open PySem PySem.W PyProof.Rows
set_option maxRecDepth 100000 in
set_option maxHeartbeats 0 in
theorem PySem.Challenge.cw_oncewise_k34_trees_webs_right_holds : PySem.Challenge.rw_oncewise_k34_trees_webs_right.Holds := by
 w_on;refine holds_law (by unfold OpenLaw.wellSaid OpenRow.wellSaid OpenRow.partSaid looksOpen;walk_at "y";walk_at "y";walk_at "y";walk_at "y";walk_at "y";walk_at "y";all_goals decide +kernel) fun said=>?_
 refine holds_openX (q:=H34.vw) (loose:=H34.ls) (Xt:=H34.Xt) (XP:=XL H34.vw []) (Yf:=PySem.W.X.obsZ H34.as0) (Ya:=PySem.W.X.valZ H34.K0 314 623) (N:=3942) H34.left_ (fun s e=>xl_of s (Dk.mp e).1)
  XL.keeps (by rfl) (by rfl) (by rfl) (fun s e=>recFacts_of (Dk.mp e).2)
  (by rfl) (by decide +kernel) (by decide +kernel) ⟨rfl,rfl,rfl,rfl,rfl,by decide +kernel⟩ ?hw ?hc
 case hw=>w_witness2
 k_fill
 refine L2.walk_ofZT (l:=PySem.Challenge.rw_oncewise_k34_trees_webs_right) (n:=63) (k:=130) (x:="_law_script") (CX:=L2.CX0) (sp:=L3.spTopT L3.lamQ) rfl (by decide) rfl ⟨rfl,by decide,by decide⟩ (fun _=>rfl) (by decide) ?F ?S ?C
 case F=>
  intro w mg fa h KX G hmg;have T:(H34.K0 w.params).lookup H34.lamT=some (PySem.W.tabObj #[]):=by k_is
  have hc:(H34.K0 w.params).lookup H34.lamC=some (H34.lamO w.params):=by k_is
  have hd:∀h:Heap,h.get? H34.lamC=some (H34.lamO w.params)->PySem.W.CodeHd h H34.lamC H34.lamT:=fun h e=>⟨_,_,_,_,_,_,_,_,_,e,rfl,rfl,rfl,rfl,rfl,rfl,rfl,rfl,by decide⟩;have hb:(H34.K0 w.params).lookup 4=some (PySem.W.boot_o_4 w.params):=by k_is
  have DT:L3.DefInT (L2.lessK H34.lamT (H34.K0 w.params)) "_law_order" K34.s__law_order H34.lamT:=by
   refine' K34.def_inT (L2.ns_dn T ?a) (L2.lk_dn T ?l ?n) (L2.code_dn T ?c) (L2.keep_dn T ?k) ?LC
   (case a=>k_is);(case l=>k_is);(case n=>(intro e;cases e));(case c=>k_is);(case k=>k_is)
   refine'⟨⟨H34.lamC,_,rfl,L2.lk_dn T hc ?m,hd⟩,⟨4,_,L2.ns_dn T ?b,by decide,by decide,L2.lk_dn T hb ?p,rfl,rfl,rfl⟩⟩
   (case m=>(intro e;cases e));(case b=>k_is);(case p=>(intro e;cases e))
  refine⟨H34.lamT,⟨T,⟨H34.lamC,fun h X=>hd h (X _ _ hc)⟩,by decide⟩,?_⟩;refine' K34.all_mk (K:=L2.lessK H34.lamT (H34.K0 w.params)) (L2.lessK_in KX) G hmg ?D0 ?D1 ?D2 ?D3 ?D4 ?D5 ?D6 ?D7 ?D8 ?D9 ?D10 ?D11 ?D12 ?D13 ?D14 ?D15 ?D16 ?D17 ?D18 ?D19 ?D20 ?D21 ?D22 ?D23 ?D24 ?D25 ?D26 ?D27 ?D28 ?D29 ?D30 ?D31 ?D32 ?D33 ?D34 ?D35 ?D36 ?D37 ?D38 ?aLEAF_KINDS ?lLEAF_KINDS ?aCPieces ?clPieces ?mAPieces ?mKPieces ?xf ?zlist ?zrange ?zenumerate ?zlen ?zall ?zzip ?zisinstance ?zbool ?ztuple ?zint ?zstr ?zsorted ?zmax ?zmin
  (case aCPieces=>(refine' L2.ns_dn T ?_;k_is))
  (case D0 | D4 | D5 | D6 | D7 | D8 | D9 | D10 | D11 | D12 | D13 | D14 | D15 | D16 | D17 | D18 | D19 | D20 | D21 | D22 | D23 | D24 | D25 | D26 | D27 | D28 | D29 | D30 | D31 | D32 | D34 | D35 | D36 | D37 | D38=>refine' L2.def_in (L2.ns_dn T ?a) (L2.lk_dn T ?l ?n) (L2.code_dn T ?c) (L2.keep_dn T ?k);(case a=>k_is);(case l=>k_is);(case n=>(intro e;cases e));(case c=>k_is);(case k=>k_is))
  (case D1 | D2 | D3=>refine' L3.meth_in ((L2.find_dn T).trans ?a) (L2.lk_dn T ?l ?n) (L2.code_dn T ?c) (L2.keep_dn T ?k) (L2.isFn_dn T ?i);(case a=>k_is);(case l=>k_is);(case n=>(intro e;cases e));(case c=>k_is);(case k=>k_is);(case i=>k_is))
  (case D33=>exact DT)
  (case aLEAF_KINDS=>(refine' L2.ns_dn T ?_;k_is))
  (case lLEAF_KINDS=>(refine' L2.lk_dn T ?x ?n;(case x=>k_is);(case n=>(intro e;cases e))))
  (case clPieces=>refine' L2.Cls.dn T ?_;refine' L2.Cls.mk ?pg ?hd ?po ?sa;(case pg=>k_is);(case hd=>k_is);(case po=>k_is);(case sa=>k_is))
  (case mAPieces=>(refine' L2.makes_dn T ?_;k_is))
  (case mKPieces=>(refine' L2.keep_dn T ?_;k_is))
  (case xf=>(refine' L3.XFP.dn T ?_;(refine' L3.XFP.mk ?cl ?na;(case cl=>(refine' L2.Cls.mk ?pg ?hd ?po ?sa;(case pg=>k_is);(case hd=>k_is);(case po=>k_is);(case sa=>k_is)));(case na=>(unfold L2.NoAttr;k_is)))))
  (case zlist | zrange | zenumerate | zlen | zall | zzip | zisinstance | zbool | ztuple | zint | zstr | zsorted | zmax | zmin=>(refine' L2.ns_dn T ?_;k_is))
 case S=>exact L3.top_startT
 case C=>exact fun _ _ _ _ z=>z
#print axioms PySem.Challenge.cw_oncewise_k34_trees_webs_right_holds
