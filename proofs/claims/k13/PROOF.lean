import PyProof.Rows.All
import Wide.All
import OpenK.AllK
import Wide.FinOn
import Lean
import PyProof.EqAt
import PyProof.EqKinds
import PyProof.TupleCall
import PyProof.NeKinds
import PySem.Challenge.RW_oncewise_k13_sound_webs
import OpenK.ZGo
set_option genSizeOf false
set_option bootstrap.genMatcherCode false
set_option compiler.extract_closed false
set_option hygiene false
local macro_rules | `(tactic| walk_at "t")=>`(tactic| (first | assumption | exact Nat.succ_pos _ | exact z9.tk (by assumption) | exact Nat.lt_of_lt_of_le (z9.tk (by assumption)) (Nat.le_add_right _ _) | exact Nat.lt_of_lt_of_le (z9.tk (by assumption)) (by assumption)))
set_option hygiene true
local macro_rules | `(tactic| walk_at "w")=>`(tactic| conv=>whnf)
local macro_rules | `(tactic| walk_at "y")=>`(tactic| ((refine PySem.W.look_both ?_ ?_);(refine PySem.W.look_both ?_ ?_);(refine PySem.W.look_both ?_ ?_);(refine PySem.W.look_both ?_ ?_);(refine PySem.W.look_both ?_ ?_);(refine PySem.W.look_both ?_ ?_)))
set_option Elab.async false
set_option linter.all false
set_option maxRecDepth 100000
abbrev Aa:=@PySem.wpAny_bind
abbrev Ab:=@PyProof.Rows.wpS_bind
abbrev Ac:=@PyProof.Rows.wpS_pure
abbrev Ad:=@List.length_append
abbrev Ae:=@List.length_map
abbrev Af:=@List.mem_append_right
abbrev Ag:=@PySem.wpAny_pure
abbrev Ah:=@List.mem_cons_of_mem
abbrev Ai:=@PySem.W.Frag
abbrev Aj:=@List.getElem?_eq_getElem
abbrev Ak:=@List.mem_append
abbrev Al:=@List.getElem?_map
abbrev Am:=@List.size_toArray
abbrev An:=@List.getElem?_append_right
abbrev Ao:=@Nat.le_refl
abbrev Ap:=@Option.map_eq_some_iff
abbrev Aq:=@List.nodup_append
abbrev Ar:=@List.mem_append_left
abbrev As:=@List.mem_cons_self
abbrev Au:=@List.nodup_cons
abbrev Av:=@List.mem_cons
abbrev Aw:=@List.mem_singleton
abbrev Ax:=@decide_eq_false
abbrev Ay:=@if_neg
abbrev Az:=@List.map_cons
abbrev AA:=@List.append_assoc
abbrev AB:=@List.getElem?_append_left
abbrev AC:=@decide_eq_true
abbrev AD:=@if_pos
abbrev AE:=@Bool.false_ne_true
abbrev AF:=@List.map_append
abbrev AG:=@List.length_cons
abbrev AH:=@List.mem_of_getElem?
abbrev AI:=@PyProof.Rows.wpS_forRange
abbrev AJ:=@Array.length_toList
abbrev AK:=@List.length_take
abbrev AL:=@List.mem_filter
abbrev AM:=@List.flatMap_append
abbrev AN:=@Ne.symm
abbrev AO:=@Nat.lt_of_lt_of_le
abbrev AQ:=@List.pairwise_append
abbrev AR:=@PyProof.Rows.wpS_mono
abbrev AS:=@Nat.le_trans
abbrev AU:=@List.flatMap_cons
abbrev AV:=@List.mem_range
abbrev AW:=@List.append_nil
abbrev AX:=@PySem.wpAny_mono
abbrev AY:=@Int.natCast_nonneg
abbrev AZ:=@List.getElem?_eq_some_iff
abbrev A1:=@Bool.and_eq_true
abbrev A2:=@List.getElem_of_mem
abbrev A3:=@Nat.ne_of_lt
abbrev A4:=@Nat.le_add_right
abbrev A5:=@Array.getElem?_toList
abbrev A6:=@PySem.W.mg_none_of
abbrev A7:=@PySem.wpAny_holding
abbrev A8:=@Array.toList_append
abbrev A9:=@List.perm_ext_iff_of_nodup
abbrev Ba:=@List.mem_flatMap
abbrev Bb:=@Nat.zero_le
abbrev Bc:=@PySem.wpAny_field
abbrev Bd:=@List.not_mem_nil
abbrev Be:=@Option.some.inj
abbrev Bf:=@List.perm_append_comm
abbrev Bg:=@List.take_of_length_le
abbrev Bh:=@List.getD_eq_getElem?_getD
abbrev Bi:=@List.perm_append_right_iff
abbrev Bj:=@List.take_append_drop
abbrev Bk:=@PySem.wpAny_newObj_type
abbrev Bl:=@Array.size_push
abbrev Bm:=@List.take_length
abbrev Bn:=@Nat.le_of_lt
abbrev Bo:=@List.getElem?_set_ne
abbrev Bp:=@List.mem_map
abbrev Bq:=@List.take_succ
abbrev Br:=@List.getElem_take
abbrev Bs:=@PySem.W.kia_one
abbrev Bt:=@PySem.wpAny_rule
abbrev Bu:=@List.perm_append_left_iff
abbrev Bv:=@Nat.lt_of_le_of_lt
abbrev Bw:=@List.length_drop
abbrev Bx:=@List.lookup_cons
abbrev Bz:=@Nat.lt_succ_self
abbrev BA:=@PySem.mem_of_lookup
abbrev BB:=@List.length_singleton
abbrev BC:=@List.map_map
abbrev BD:=@PySem.wpAny_seqItems
abbrev BE:=@List.mem_of_mem_take
abbrev BF:=@List.Perm.refl
abbrev BG:=@List.mem_erase_of_ne
abbrev BH:=@List.pairwise_map
abbrev BI:=@congrArg
abbrev BJ:=@Bool.eq_iff_iff
abbrev BK:=@List.find?_cons
abbrev BL:=@Int.le_trans
abbrev BM:=@Bool.false_eq_true
abbrev BN:=@Array.size_append
abbrev BO:=@Int.le_of_lt
abbrev BP:=@List.nodup_nil
abbrev BQ:=@List.drop_eq_getElem_cons
abbrev BR:=@List.length_replicate
abbrev BS:=@List.filter_append
abbrev BU:=@Int.toNat_natCast
abbrev BV:=@PySem.W.kia_tup
abbrev BW:=@Nat.min_eq_left
abbrev BX:=@List.getElem?_set_self
abbrev BY:=@PyProof.Rows.callWith_type1
abbrev BZ:=@List.perm_middle
abbrev B3:=@List.perm_append_singleton
abbrev B4:=@List.pairwise_iff_getElem
abbrev B5:=@List.length_set
abbrev B6:=@PySem.W.look_both
abbrev B7:=@List.length_range
abbrev B8:=@List.getElem_drop
abbrev B9:=@Nat.lt_succ_of_lt
abbrev Ca:=@List.any_cons
abbrev Cb:=@List.Pairwise.imp_of_mem
abbrev Cc:=@Int.ofNat_inj
abbrev Cd:=@PyProof.Rows.slot_tuple_getitem
abbrev Ce:=@List.mem_map_of_mem
abbrev Cf:=@List.getElem?_replicate
abbrev Cg:=@List.eraseIdx_cons_succ
abbrev Ci:=@Nat.add_sub_cancel_left
abbrev Cj:=@List.getElem_mem
abbrev Ck:=@Nat.max_eq_right
abbrev Cm:=@Int.mul_le_mul_of_nonneg_right
abbrev Cn:=@List.filter_cons
abbrev Co:=@List.nodup_range
abbrev Cp:=@Nat.le_succ
abbrev Cq:=@List.take_append_of_le_length
abbrev Cr:=@List.eq_nil_of_length_eq_zero
abbrev Cs:=@List.append_of_mem
abbrev Ct:=@Nat.le_add_left
abbrev Cu:=@Nat.max_eq_left
abbrev Cv:=@List.length_zip
abbrev Cw:=@List.filter_nil
abbrev Cy:=@Nat.not_lt_zero
abbrev Cz:=@List.getElem?_eq_none
abbrev CA:=@PySem.W.kitx_list
abbrev CB:=@Array.toList_push
abbrev CC:=@List.flatten_cons
abbrev CD:=@List.mem_of_mem_drop
abbrev CF:=@Array.toList_reverse
abbrev CG:=@Nat.le_sub_one_of_lt
abbrev CH:=@Nat.succ_pos
abbrev CI:=@List.all_eq_true
abbrev CK:=@Nat.sub_self
abbrev CL:=@List.filterMap_cons
abbrev CM:=@List.reverse_append
abbrev CN:=@List.flatten_append
abbrev CO:=@List.map_congr_left
abbrev CP:=@List.perm_iff_count
abbrev CQ:=@PySem.W.mg_of
abbrev CS:=@List.cons.inj
abbrev CT:=@congrFun
abbrev CU:=@List.forIn_cons
abbrev CV:=@List.nil_append
abbrev CW:=@Array.size_extract
abbrev CY:=@List.getElem?_cons_succ
abbrev CZ:=@List.length_eraseIdx_le
abbrev C0:=@Int.le_refl
abbrev C1:=@List.eraseIdx_append_of_length_le
abbrev C2:=@Nat.ne_of_gt
abbrev C3:=@List.map_nil
abbrev C4:=@Nat.lt_trans
abbrev C5:=@Bool.and_false
abbrev C6:=@Nat.le_succ_of_le
abbrev C7:=@List.drop_drop
abbrev C8:=@List.drop_left
abbrev C9:=@List.getElem_cons_drop
abbrev Dc:=@List.mem_range'_1
abbrev De:=@List.Perm.append_right
abbrev Df:=@Bool.not_eq_true'
abbrev Dg:=@List.count_append
abbrev Dh:=@List.eraseIdxIfInBounds_toArray
abbrev Di:=@Nat.le_of_ble_eq_true
abbrev Dj:=@List.singleton_append
abbrev Dk:=@List.length_filter_le
abbrev Dl:=@List.Perm.append_left
abbrev Dm:=@List.flatMap_nil
abbrev Dn:=@Nat.min_eq_right
abbrev Do:=@Nat.lt_irrefl
abbrev Dp:=@List.sum_cons
abbrev Dq:=@List.drop_append_of_le_length
abbrev Dr:=@Nat.not_succ_lt_self
abbrev Ds:=@List.getElem?_of_mem
abbrev Dt:=@List.replicate_succ'
abbrev Du:=@List.of_mem_zip
abbrev Dv:=@Int.emod_nonneg
abbrev Dw:=@List.length_pos_iff
abbrev Dx:=@Int.add_mul_emod_self_right
abbrev Dy:=@Int.zero_add
abbrev Dz:=@PySem.W.kitx_tuple
abbrev DA:=@PyProof.Rows.LSm.kept_iter
abbrev DB:=@Nat.lt_or_eq_of_le
abbrev DC:=@List.getElem?_take
abbrev DD:=@List.getElem?_drop
abbrev DE:=@List.zip_cons_cons
abbrev DF:=@Int.emod_lt_of_pos
abbrev DG:=@decide_eq_true_iff
abbrev DH:=@PySem.F.slot_dict_getitem
abbrev DI:=@PySem.W.kitx_dict
abbrev DJ:=@List.take_sublist
abbrev DK:=@List.nodup_range'
abbrev DL:=@List.set_comm
abbrev DM:=@List.getElem?_take_of_lt
abbrev DN:=@List.all_cons
abbrev DO:=@List.getElem_append_left
abbrev DP:=@List.Perm.eq_of_pairwise
abbrev DQ:=@Nat.succ_le_succ
abbrev DR:=@PySem.F.plainAttrs_list
abbrev DS:=@List.zipIdx_cons
abbrev DU:=@List.range'_succ
abbrev DV:=@Array.toList_inj
abbrev DW:=@Array.toList_map
abbrev DX:=@List.getElem?_set_self'
abbrev DY:=@List.filter_cons_of_neg
abbrev DZ:=@List.filter_cons_of_pos
abbrev Eb:=@PySem.W.cellsFrom_some
abbrev Ec:=@Nat.zero_add
abbrev Ed:=@Nat.lt_or_ge
abbrev Ee:=@List.length_pos_of_mem
abbrev Ef:=@Int.ofNat_lt
abbrev Eg:=@Bool.or_eq_true
abbrev Eh:=@beq_false_of_ne
abbrev Ei:=@List.range_succ
abbrev Ej:=@Prod.ext
abbrev Ek:=@List.forIn_nil
abbrev El:=@List.drop_zero
abbrev Em:=@Array.size_map
abbrev Eo:=@Bool.and_true
abbrev Ep:=@Nat.add_assoc
abbrev Er:=@Nat.sub_le
noncomputable section
namespace L2
open PySem PyProof.Rows
theorem gg{M:Model}{Γ:Ctx}{p:Pos}{t:Sem Fin}{fs:List Frame}{s s':Shared}{e:End}(h:Runs M Γ p t fs s e s'):s.toks≤s'.toks:=by induction h with|fresh _ ih=>exact AS (Cp _) ih|call _ _ ih1 ih2=>exact AS ih1 ih2|resumeFresh _ _ _ _ ih1 ih2=>exact AS ih1 ih2|resumeSuspended _ _ _ _ ih1 ih2=>exact AS ih1 ih2|segRet _ _ ih1 ih2=>exact AS ih1 ih2|segGen _ _ ih1 ih2=>exact AS ih1 ih2|segSuspGen _ _ _ _ ih1 ih2=>exact AS ih1 ih2|_=>first | exact Ao _ | assumption
theorem uj{M:Model}{Γ:Ctx}{p:Pos}{g:Nat}{r:Resume}{s s':Shared}{res:GenResult}(h:Wakes M Γ p g r s res s'):s.toks≤s'.toks:=by
 unfold Wakes at h;split at h
 ·exact h.elim
 ·split at h
  ·obtain⟨e,s1,hr,_,_,rfl⟩:=h;have q:=gg hr;exact q
  ·obtain⟨_,rfl⟩:=h;exact Ao _
  ·obtain⟨_,rfl⟩:=h;exact Ao _
 ·obtain⟨e,s1,hr,_,_,rfl⟩:=h;have q:=gg hr;exact q
 ·obtain⟨_,rfl⟩:=h;exact Ao _
 ·obtain⟨_,rfl⟩:=h;exact Ao _
theorem ae5{α:Type}{M:Model}{Γ:Ctx}(t:Sem α):∀{Q:α->Pos->Shared->Prop} {E:Value->Pos->Shared->Prop} {p:Pos} {s:Shared} (n:Nat),n≤s.toks->Sem.wp M Γ t Q E p s->Sem.wp M Γ t (fun a p' s'=>Q a p' s'/\n≤s'.toks) (fun e p' s'=>E e p' s'/\n≤s'.toks) p s:=by induction t with|pure a=>intro Q E p s n hn h;exact⟨h,hn⟩|raise e=>intro Q E p s n hn h;exact⟨h,hn⟩|load a part k ih=>intro Q E p s n hn ⟨o,h1,h2⟩;exact⟨o,h1,ih o n hn h2⟩|update a part f k ih=>intro Q E p s n hn ⟨h1,h2⟩;exact⟨h1,ih () n hn h2⟩|fresh k ih=>intro Q E p s n hn h;exact ih s.toks n (AS hn (Cp _)) h|choose src m k ih=>intro Q E p s n hn ⟨h1,h2⟩;exact⟨h1,ih _ n hn h2⟩|call c hd g l k ih=>intro Q E p s n hn ⟨r,s',h1,h2⟩;exact⟨r,s',h1,ih r n (AS hn (gg h1)) h2⟩|genState g k ih=>intro Q E p s n hn ⟨st,h1,h2⟩;exact⟨st,h1,ih _ n hn h2⟩|resume g r l k ih=>intro Q E p s n hn ⟨res,s',h1,h2⟩;exact⟨res,s',h1,ih _ n (AS hn (uj h1)) h2⟩|rule tag k ih=>intro Q E p s n hn h;exact ih () n hn h|«at» pos k ih=>intro Q E p s n hn h;exact ih () n hn h|alloc o k ih=>intro Q E p s n hn h;exact ih _ n hn h|loadIfAlive a k ih=>intro Q E p s n hn h;exact ih _ n hn h|point l k ih=>intro Q E p s n hn h;exact ih _ n hn h|ask k ih=>intro Q E p s n hn h;exact ih _ n hn h|os q l k ih=>intro Q E p s n hn h;exact ih _ n hn h|handled own k ih=>intro Q E p s n hn h;exact ih _ n hn h|newGen c k ih=>intro Q E p s n hn h;exact ih _ n hn h|stack k ih=>intro Q E p s n hn h;exact ih _ n hn h|thread k ih=>intro Q E p s n hn h;exact ih _ n hn h|unsupported w=>intro Q E p s n hn h;exact h.elim|finish e=>intro Q E p s n hn h;exact h.elim|register a k ih=>intro Q E p s n hn h;exact h.elim|yield v g l k ih=>intro Q E p s n hn h;exact h.elim|fork c k ih=>intro Q E p s n hn h;exact h.elim|await a f d l k ih=>intro Q E p s n hn h;exact h.elim
theorem uS{α:Type}{M:Model}{A:Around}{t:Sem α}{Q:α->Shared->Prop}{E:Value->Shared->Prop}{s:Shared}(h:wpAny M A t Q E s):wpAny M A t (fun a s'=>Q a s'/\s.toks≤s'.toks) (fun e s'=>E e s'/\s.toks≤s'.toks) s:=
 fun Γ p hΓ=>ae5 t s.toks (Ao _) (h Γ p hΓ)
theorem ji{α:Type}{M:Model}{A:Around}{t:Sem α}{Q:α->Shared->Prop}{E:Value->Shared->Prop}{s:Shared}(hp:0<s.toks)(h:wpAny M A t (fun a s'=>0<s'.toks->Q a s') (fun e s'=>0<s'.toks->E e s') s):wpAny M A t Q E s:=
 AX (uS h) (fun _ _ z=>z.1 (AO hp z.2)) fun _ _ z=>z.1 (AO hp z.2)
end L2
variable {M:PySem.Model}{apos cpos kpos p p1 p2 p3 p4 p5 pos pos' py tp:PySem.Pos}{t t1 t2:Bool}{s s':PySem.Shared}{c e elt o target tg value:PySem.Expr}{α β κ:Type}{A:PySem.Around}{E Q:PySem.Value->PySem.Shared->Prop}{its us vs:List PySem.Value}{cdv doc oc pm u:PySem.Value}{base h h':PySem.Heap}{d i j kt m n na t' x1:Nat}{ch fp:List PySem.Addr}{C Pt dx f fa it ka l l1 l2 pa:PySem.Addr}{kx name px q qual x:PySem.Str}{pins:List (PySem.Addr×PySem.Obj)}{st:PySem.Stmt}{elts es ifs:List PySem.Expr}{body:List PySem.Stmt}{B lo:Int}{mA mg:PySem.Str->Option PySem.Value}{fd:PySem.FuncData}{ps:List PySem.Str}{lscope scope:PySem.Scope}{ct lk:List (Nat×Nat)}{an od:Option PySem.Addr}{osl:Array (Option PySem.Value)}{prog:PySem.Program}{env:PySem.Env}{rks:List Int}{qs:List Nat}
namespace L2
open PySem PySem.Spec PyProof.Rows
abbrev jl:=Sum Int Str
def kD:jl->Value->Bool
 |.inl k,v=>Value.isInt k v
 |.inr x,v=>Value.isStrOf x v
def ar3(w:World):jl->Int
 |.inl k=>hashInt k
 |.inr x=>hashStr w x
theorem v4:∀{k:jl} {v:Value},kD k v=true->(∃i t,k=Sum.inl i/\v=Value.int i t)\/(∃x t,k=Sum.inr x/\v=Value.str x t)
 |.inl i,v,h=>by obtain⟨t,e⟩:=Value.isInt_shape (k:=i) (v:=v) h;exact .inl ⟨i,t,rfl,e⟩
 |.inr x,v,h=>by obtain⟨t,e⟩:=Value.isStrOf_shape (x:=x) (v:=v) h;exact .inr ⟨x,t,rfl,e⟩
theorem xY(i:Int)(t:Tok):kD (.inl i) (.int i t)=true:=by simp[kD,Value.isInt]
theorem iE(x:Str)(t:Tok):kD (.inr x) (.str x t)=true:=by simp[kD,Value.isStrOf]
theorem ahl(a b:Int):decide ((Sum.inl a:jl)=Sum.inl b)=(a==b):=by
 by_cases e:a=b
 ·subst e;simp
 ·have h:¬(Sum.inl a:jl)=Sum.inl b:=fun q=>e (Sum.inl.inj q);rw[Ax h];exact(beq_eq_false_iff_ne.mpr e).symm
theorem ak1(a b:Str):decide ((Sum.inr a:jl)=Sum.inr b)=decide (a=b):=by
 by_cases e:a=b
 ·subst e;simp
 ·have h:¬(Sum.inr a:jl)=Sum.inr b:=fun q=>e (Sum.inr.inj q);rw[Ax h,Ax e]
theorem akc(a:Int)(b:Str):decide ((Sum.inl a:jl)=Sum.inr b)=false:=Ax (fun q=>nomatch q)
theorem ajy(a:Str)(b:Int):decide ((Sum.inr a:jl)=Sum.inl b)=false:=Ax (fun q=>nomatch q)
def xw(prog:Program)(w:World):PySem.KeyKind prog w jl where
 is:=kD
 hash:=ar3 w
 inj:=fun v a b ha hb=>by
  rcases v4 ha with⟨i,t,rfl,rfl⟩ | ⟨x,t,rfl,rfl⟩
  ·rcases v4 hb with⟨j,u,rfl,e⟩ | ⟨y,u,rfl,e⟩
   ·injection e with e1 _;rw[e1]
   ·exact nomatch e
  ·rcases v4 hb with⟨j,u,rfl,e⟩ | ⟨y,u,rfl,e⟩
   ·exact nomatch e
   ·injection e with e1 _;rw[e1]
 byValue:=fun k v h=>by rcases v4 h with⟨i,t,rfl,rfl⟩ | ⟨x,t,rfl,rfl⟩<;>rfl
 pyHash:=fun hv h=>by
  rcases v4 hv with⟨i,t,rfl,rfl⟩ | ⟨x,t,rfl,rfl⟩
  ·exact wpAny_pyHash_int h
  ·exact wpAny_pyHash_str h
 eqBool:=fun hu hv h=>by
  rcases v4 hu with⟨i,t,rfl,rfl⟩ | ⟨x,t,rfl,rfl⟩
  ·rcases v4 hv with⟨j,u,rfl,rfl⟩ | ⟨y,u,rfl,rfl⟩
   ·rw[ahl] at h;exact wpAny_eqBool_int h
   ·rw[akc] at h;exact SeqAt.EqAt.int_str i t y u _ _ _ _ h
  ·rcases v4 hv with⟨j,u,rfl,rfl⟩ | ⟨y,u,rfl,rfl⟩
   ·rw[ajy] at h;exact SeqAt.EqAt.str_int x t j u _ _ _ _ h
   ·rw[ak1] at h;exact wpAny_eqBool_str h
 «strs» := fun k x t v h=>by
  rcases v4 h with⟨i,u,rfl,e⟩ | ⟨y,u,rfl,e⟩
  ·exact nomatch e
  ·injection e with e1 _
   subst e1;cases v<;>rfl
theorem rL(prog:Program)(w:World)(i:Int)(t:Tok):(xw prog w).is (.inl i) (.int i t)=true:=xY i t
theorem r9(prog:Program)(w:World)(x:Str)(t:Tok):(xw prog w).is (.inr x) (.str x t)=true:=iE x t
inductive V where
 |non | bl (b:Bool) | int (i:Int) | str (x:Str) | byt (b:Array UInt8) | flt (b:UInt64) | ref (a:Addr) | ty (n:String)
 deriving DecidableEq
def zw:V->Value->Prop
 |.non,u=>u=Value.none
 |.bl b,u=>u=Value.bool b
 |.int i,u=>∃t,u=Value.int i t
 |.str x,u=>∃t,u=Value.str x t
 |.byt b,u=>∃t,u=Value.bytes b t
 |.flt b,u=>∃t,u=Value.float b t
 |.ref a,u=>u=Value.ref a
 |.ty n,u=>u=Value.type n
abbrev zp:List V->List Value->Prop:=Paired zw
theorem zp.length{xs:List V}(r:zp xs us):xs.length=us.length:=Paired.length r
theorem zp.get:∀{xs:List V} {us:List Value} {i:Nat} {x:V},zp xs us->xs[i]?=some x->∃u,us[i]?=some u/\zw x u
 |_,_,_,_,.nil,e=>by simp at e
 |_,_,0,_,.cons r _,e=>by simp at e;subst e;exact⟨_,rfl,r⟩
 |_,_,i+1,x,.cons _ t,e=>by obtain⟨u,h1,h2⟩:=zp.get (i:=i) (x:=x) t (by simpa using e);exact⟨u,by simpa using h1,h2⟩
theorem zp.set{x:V}{u:Value}(r:zw x u):∀{xs:List V} {us:List Value} (i:Nat),zp xs us->zp (xs.set i x) (us.set i u)
 |_,_,_,.nil=>.nil
 |_,_,0,.cons _ t=>.cons r t
 |_,_,i+1,.cons q t=>.cons q (zp.set r i t)
theorem zp.append:∀{xs ys:List V} {us ws:List Value},zp xs us->zp ys ws->zp (xs++ys) (us++ws)
 |_,_,_,_,.nil,s=>s
 |_,_,_,_,.cons r t,s=>.cons r (zp.append t s)
theorem zp.take:∀{xs:List V} {us:List Value} (n:Nat),zp xs us->zp (xs.take n) (us.take n)
 |_,_,0,_=>.nil
 |_,_,_+1,.nil=>.nil
 |_,_,n+1,.cons r t=>.cons r (zp.take n t)
theorem zp.drop:∀{xs:List V} {us:List Value} (n:Nat),zp xs us->zp (xs.drop n) (us.drop n)
 |_,_,0,r=>r
 |_,_,_+1,.nil=>.nil
 |_,_,n+1,.cons _ t=>zp.drop n t
def iG:Option V->Option Value->Prop
 |some v,some u=>zw v u
 |none,none=>True
 |_,_=>False
def KV :List (κ×V)->List (κ×Value)->Prop:=Paired fun(p:κ×V) (q:κ×Value)=>p.1=q.1/\zw p.2 q.2
def kV:jl->V
 |.inl i=>.int i
 |.inr x=>.str x
inductive HO where
 |lst (xs:List V)
 |tup (xs:List V)
 |dK (kvs:List (jl×V)) | dT (kvs:List (List jl×V))
 |set (S:Int->Bool) (n:Nat)
 |ins (C dx:Addr) (fs:List (Str×V))
 |own (x:Addr)
 |xd (fs:List (Str×V))
 |met (f x:Addr)
 |rng (lo hi:Int)
 |frz (o:Obj) (u:HO)
 |tbl (ps:Array Value)
 |ext (φ:Heap->Prop)
abbrev Hp:=Addr->Option HO
def upd(H:Hp)(a:Addr)(o:HO):Hp:=fun b=>if b=a then some o else H b
theorem jd{H:Hp}{a:Addr}{o:HO}:upd H a o a=some o:=by unfold upd;rw[AD rfl]
theorem qu{H:Hp}{a b:Addr}{o:HO}(h:b≠a):upd H a o b=H b:=by unfold upd;rw[Ay h]
theorem afy{H:Hp}{a:Addr}{o u:HO}:upd (upd H a o) a u=upd H a u:=by funext b;unfold upd;split<;>rfl
theorem amg{H:Hp}{a b:Addr}{o u:HO}(h:H a=some o)(h':H b=some u)(d:o≠u):a≠b:=by intro e;subst e;rw[h] at h';exact d (Be h')
theorem j7{H:Hp}{a b:Addr}{o:HO}(h:H a=some o)(h':H b=none):a≠b:=by intro e;subst e;rw[h] at h';cases h'
section
variable (P:Program)(w:World)
def xq(H:Hp)(h:Heap)(a:Addr):HO->Prop
 |.lst xs=>xs.length≤sizeLine/\∃(its:List Value) (n:Nat),zp xs its/\h.get? a=some { cls:=.type "list",data:=.seq its.toArray n }
 |.tup xs=>xs.length≤sizeLine/\∃its:List Value,zp xs its/\IsTup h a its.toArray
 |.dK kvs=>kvs.length≤sizeLine/\(a==sysModules)=false/\∃vs,KV kvs vs/\h.DictOf (xw P w) a vs
 |.dT kvs=>kvs.length≤sizeLine/\(a==sysModules)=false/\∃xs:List (List jl×Addr×Value),
  Paired (fun(p:List jl×V) (q:List jl×Addr×Value)=>p.1=q.1/\H q.2.1=some (.tup (p.1.map kV))/\zw p.2 q.2.2) kvs xs/\
  ∃o es ep,h.get? a=some o/\o.ExactDict/\o.data=.dict es ep/\es.toList=xs.map (entryOfKey (tupleKind (xw P w)))/\(xs.map (·.1)).Nodup
 |.set S n=>h.SetOf (intKind P w) a S n
 |.ins C dx fs=>H dx=some (.own a)/\fs.length≤1000/\dx≠a/\h.get? a=some (PySem.W.instObj C dx)/\
  ∃mA,h.Ns1 dx mA/\(∀f,iG (fs.lookup f) (mA f))/\PySem.Within mA (fs.map (·.1))
 |.own _=>∃o,h.get? a=some o
 |.xd fs=>∃mA,h.Ns1 a mA/\∀f,iG (fs.lookup f) (mA f)
 |.rng lo hi=>∃t u v,h.get? a=some { cls:=.type "range",data:=.fields #[.int lo t,.int hi u,.int 1 v] }
 |.frz o u=>h.get? a=some o/\xq H h a u
 |.tbl ps=>h.get? a=some { cls:=.none,data:=.fields ps }
 |.met f x=>h.get? a=some (PySem.W.methodObj (.ref f) (.ref x))
 |.ext φ=>φ h/\(∃o,h.get? a=some o)/\∀h1 h2:Heap,φ h1->(∀o,h1.get? a=some o->h2.get? a=some o)->φ h2
def eV(H:Hp)(h:Heap):Prop:=∀a o,H a=some o->xq P w H h a o
end
section
variable {P:Program}{w:World}{H H':Hp}{a:Addr}{o:HO}
theorem xq.lt(x:xq P w H h a o):a<h.objs.size:=by
 cases o with
 |lst xs=>obtain⟨_,_,_,_,e⟩:=x;exact Heap.lt_size e
 |tup xs=>obtain⟨_,_,_,p⟩:=x;exact p.lt
 |dK kvs=>obtain⟨_,_,_,_,o,_,_,e,_⟩:=x;exact Heap.lt_size e
 |dT kvs=>obtain⟨_,_,_,_,o,_,_,e,_⟩:=x;exact Heap.lt_size e
 |set S n=>obtain⟨o,_,_,_,e,_⟩:=x;exact Heap.lt_size e
 |ins C dx fs=>obtain⟨_,_,_,e,_⟩:=x;exact Heap.lt_size e
 |own y=>obtain⟨_,e⟩:=x;exact Heap.lt_size e
 |xd fs=>obtain⟨_,⟨_,_,_,e,_⟩,_⟩:=x;exact Heap.lt_size e
 |rng lo hi=>obtain⟨_,_,_,e⟩:=x;exact Heap.lt_size e
 |frz ob u=>obtain⟨e,_⟩:=x;exact Heap.lt_size e
 |tbl ps=>exact Heap.lt_size (show h.get? a=some _ from x)
 |met f y=>exact Heap.lt_size (show h.get? a=some _ from x)
 |ext φ=>obtain⟨_,⟨_,e⟩,_⟩:=x;exact Heap.lt_size e
theorem Paired.mapP{α β:Type}{F G:α->β->Prop}:∀{l₁:List α} {l₂:List β},Paired F l₁ l₂->(∀a b,F a b->G a b)->Paired G l₁ l₂
 |_,_,.nil,_=>.nil
 |_,_,.cons r t,f=>.cons (f _ _ r) (Paired.mapP t f)
abbrev EI:=@Paired.mapP
theorem xq.stay(x:xq P w H h a o)(k:∀b u,(b=a\/H b=some (.own a))->h.get? b=some u->h'.get? b=some u)
 (ho:∀b,H b=some (.own a)->H' b=some (.own a)) (ht:∀b xs,H b=some (.tup xs)->H' b=some (.tup xs)):xq P w H' h' a o:=by
 induction o with
 |lst xs=>obtain⟨z,its,n,r,e⟩:=x;exact⟨z,its,n,r,k _ _ (.inl rfl) e⟩
 |tup xs=>obtain⟨z,its,r,ob,e,c⟩:=x;exact⟨z,its,r,ob,k _ _ (.inl rfl) e,c⟩
 |dK kvs=>obtain⟨z,y,vs,r,ob,es,ep,e,c⟩:=x;exact⟨z,y,vs,r,ob,es,ep,k _ _ (.inl rfl) e,c⟩
 |dT kvs=>
  obtain⟨z,y,xs,r,ob,es,ep,e,c⟩:=x;exact⟨z,y,xs,EI r fun p q z=>⟨z.1,ht _ _ z.2.1,z.2.2⟩,ob,es,ep,k _ _ (.inl rfl) e,c⟩
 |set S n=>obtain⟨ob,es,ep,t,e,c⟩:=x;exact⟨ob,es,ep,t,k _ _ (.inl rfl) e,c⟩
 |ins C dx fs=>
  obtain⟨d,z,ne,e,mA,⟨od,es,ep,e2,c⟩,r⟩:=x;exact⟨ho _ d,z,ne,k _ _ (.inl rfl) e,mA,⟨od,es,ep,k _ _ (.inr d) e2,c⟩,r⟩
 |own y=>obtain⟨ob,e⟩:=x;exact⟨ob,k _ _ (.inl rfl) e⟩
 |xd fs=>obtain⟨mA,⟨od,es,ep,e,c⟩,r⟩:=x;exact⟨mA,⟨od,es,ep,k _ _ (.inl rfl) e,c⟩,r⟩
 |rng lo hi=>obtain⟨t,u,v,e⟩:=x;exact⟨t,u,v,k _ _ (.inl rfl) e⟩
 |frz ob u ih=>obtain⟨e,q⟩:=x;exact⟨k _ _ (.inl rfl) e,ih q⟩
 |tbl ps=>
  have e:h.get? a=some { cls:=.none,data:=.fields ps }:=x;show h'.get? a=some { cls:=.none,data:=.fields ps };exact k a _ (.inl rfl) e
 |met f y=>
  have e:h.get? a=some (PySem.W.methodObj (.ref f) (.ref y)):=x;show h'.get? a=some (PySem.W.methodObj (.ref f) (.ref y));exact k a _ (.inl rfl) e
 |ext φ=>obtain⟨p,⟨o,e⟩,st⟩:=x;exact⟨st _ _ p fun o q=>k _ _ (.inl rfl) q,⟨o,k _ _ (.inl rfl) e⟩,st⟩
theorem eV.lt(x:eV P w H h)(e:H a=some o):a<h.objs.size:=(x a o e).lt
theorem eV.fresh(x:eV P w H h)(e:h.objs.size≤a):H a=none:=by cases q:H a with|none=>rfl|some u=>exact absurd (AO (x.lt q) e) (Do _)
theorem eV.kept(x:eV P w H h)(k:∀b u,h.get? b=some u->h'.get? b=some u):eV P w H h':=fun a o e=>
 (x a o e).stay (fun b u _ q=>k b u q) (fun _ q=>q) fun _ _ q=>q
theorem eV.laid(x:eV P w H h)(k:∀b u,h.get? b=some u->h'.get? b=some u)(hp:h.objs.size≤a)(new:xq P w (upd H a o) h' a o):eV P w (upd H a o) h':=fun b u e=>by
 have hn:=x.fresh hp;by_cases hb:b=a
 ·subst hb;rw[jd] at e;cases e;exact new
 ·rw[qu hb] at e;exact(x b u e).stay (fun c v _ q=>k c v q) (fun c q=>by rw[qu (j7 q hn)];exact q) fun c xs q=>by rw[qu (j7 q hn)];exact q
end
def Rd(H:Hp)(a:Addr)(u:HO):Prop:=H a=some u\/∃o,H a=some (.frz o u)
theorem Rd.ok{P:Program}{w:World}{H:Hp}{a:Addr}{u:HO}(r:Rd H a u)(x:eV P w H h):xq P w H h a u:=by
 rcases r with r | ⟨o,r⟩
 ·exact x a u r
 ·obtain⟨_,q⟩:=x a _ r;exact q
def Mut:Option HO->Prop
 |some (.lst _)=>True
 |some (.dK _)=>True
 |some (.dT _)=>True
 |some (.set _ _)=>True
 |some (.ins _ _ _)=>True
 |some (.ext _)=>True
 |_=>False
section
variable {P:Program}{w:World}{H:Hp}{x e:Addr}{o':HO}
theorem eV.write(ok:eV P w H h)(mu:Mut (H x))(he:e=x\/H e=some (.own x))(k:∀b u,b≠e->h.get? b=some u->h'.get? b=some u)(heo:∃u,h'.get? e=some u)
 (new:xq P w (upd H x o') h' x o'):eV P w (upd H x o') h':=fun b u q=>by
 have nown:∀c y,H c=some (.own y)->c≠x:=fun c y r z=>by subst z;rw[r] at mu;exact mu
 have ntup:∀c xs,H c=some (.tup xs)->c≠x:=fun c xs r z=>by subst z;rw[r] at mu;exact mu
 by_cases hb:b=x
 ·subst hb;rw[jd] at q;cases q;exact new
 ·rw[qu hb] at q;by_cases hbe:b=e
  ·have q':H b=some (.own x):=by
    rcases he with z | z
    ·exact absurd (hbe.trans z) hb
    ·rw[hbe];exact z
   rw[q] at q';cases q';obtain⟨v,hv⟩:=heo;exact⟨v,by rw[hbe];exact hv⟩
  ·refine(ok b u q).stay (fun c v hc r=>k c v ?_ r) (fun c r=>by rw[qu (nown c b r)];exact r) fun c xs r=>by rw[qu (ntup c xs r)];exact r
   rcases hc with rfl | hc
   ·exact hbe
   ·rintro rfl;rcases he with z | z
    ·exact nown c b hc z
    ·rw[hc] at z;cases z;exact hb rfl
end
structure Un(fs ex:List Addr)(H H':Hp)(h h':Heap):Prop where
 keep:∀b o,h.get? b=some o->H b=none->b∉fs->b∉ex->h'.get? b=some o
 slot:∀b o,h.get? b=some o->H b=none->b∈fs->b∉ex->∃sl,h'.get? b=some { o with slots:=sl }
 free:∀b o,h.get? b=some o->H b=none->b∉ex->H' b=none
 there:∀b o,h.get? b=some o->b∉ex->∃o',h'.get? b=some o'
 tups:∀b xs,H b=some (.tup xs)->H' b=some (.tup xs)
 frzs:∀b o u,H b=some (.frz o u)->H' b=some (.frz o u)
 tbls:∀b ps,H b=some (.tbl ps)->∃more,H' b=some (.tbl (ps++more))
section
variable {fs fs' ex ex':List Addr}{H H1 H2:Hp}{h1 h2:Heap}{a x e:Addr}{o:HO}
theorem Un.any(u:Un fs ex H H1 h h1){b:Addr}{ob:Obj}(q:h.get? b=some ob)(n:H b=none)(hx:b∉ex):∃sl,h1.get? b=some { ob with slots:=sl }:=by
 by_cases hb:b∈fs
 ·exact u.slot b ob q n hb hx
 ·exact⟨ob.slots,u.keep b ob q n hb hx⟩
theorem Un.kept(k:∀b u,h.get? b=some u->h'.get? b=some u):Un fs ex H H h h':=
 ⟨fun b ob q _ _ _=>k b ob q,fun b ob q _ _ _=>⟨ob.slots,k b ob q⟩,fun _ _ _ n _=>n,fun b ob q _=>⟨ob,k b ob q⟩,fun _ _ q=>q,fun _ _ _ q=>q,fun _ ps q=>⟨#[],by rw[q];simp⟩⟩
theorem Un.refl:Un fs ex H H h h:=Un.kept fun _ _ q=>q
theorem Un.laid(k:∀b u,h.get? b=some u->h'.get? b=some u)(hp:h.objs.size≤a)(hn:H a=none):Un fs ex H (upd H a o) h h' where
 keep:=fun b u q _ _ _=>k b u q
 slot:=fun b u q _ _ _=>⟨u.slots,k b u q⟩
 free:=fun b u q n _=>by rw[qu (A3 (AO (Heap.lt_size q) hp))];exact n
 there:=fun b u q _=>⟨u,k b u q⟩
 tups:=fun b xs q=>by rw[qu (j7 q hn)];exact q
 frzs:=fun b u xs q=>by rw[qu (j7 q hn)];exact q
 tbls:=fun b ps q=>⟨#[],by rw[qu (j7 q hn),q];simp⟩
theorem Un.write(mu:Mut (H x))(he:e=x\/H e=some (.own x))(k:∀b u,b≠e->h.get? b=some u->h'.get? b=some u)(heo:∃u,h'.get? e=some u):Un fs ex H (upd H x o) h h':=by
 have hx:∀b,H b=none->b≠x:=fun b n z=>by subst z;rw[n] at mu;exact mu
 have hb:∀b,H b=none->b≠e:=fun b n z=>by
  subst z;rcases he with r | r
  ·exact hx b n r
  ·rw[n] at r;cases r
 have hm:∀b u,H b=some u->¬Mut (some u)->b≠x:=fun b u q nm z=>by subst z;rw[q] at mu;exact nm mu
 refine⟨fun b u q n _ _=>k b u (hb b n) q,fun b u q n _ _=>⟨u.slots,k b u (hb b n) q⟩,fun b u q n _=>by rw[qu (hx b n)];exact n,fun b u q _=>?_,
  fun b xs q=>by rw[qu (hm b _ q fun z=>z)];exact q,fun b u xs q=>by rw[qu (hm b _ q fun z=>z)];exact q,fun b ps q=>⟨#[],by rw[qu (hm b _ q fun z=>z),q];simp⟩⟩
 by_cases hbe:b=e
 ·subst hbe;exact heo
 ·exact⟨u,k b u hbe q⟩
end
def trk(h:Heap)(H:Hp):List Addr:=(List.range h.objs.size).filter fun a=>(H a).isSome
def qH(h:Heap)(H:Hp):Heap:=PySem.W.hideAll h (trk h H)
theorem yy(h:Heap)(H:Hp):(qH h H).objs.size=h.objs.size:=PySem.W.hideAll_size _ _
theorem acl{H:Hp}{b:Addr}{o:Obj}(e:h.get? b=some o)(n:H b=none):(qH h H).get? b=some o:=
 PySem.W.hideAll_get _ e fun hm=>by have q:(H b).isSome=true:=(AL.mp hm).2;rw[n] at q;simp at q
theorem aeu{H:Hp}{b:Addr}{o:Obj}(e:(qH h H).get? b=some o):h.get? b=some o/\H b=none:=by
 have e':h.get? b=some o:=PySem.W.of_hideAll (trk h H) e;refine⟨e',?_⟩;cases q:H b with
 |none=>rfl
 |some x=>
  have hm:b∈trk h H:=AL.mpr ⟨AV.mpr (Heap.lt_size e'),by simp[q]⟩;have z:(qH h H).get? b=none:=PySem.W.hideAll_none (trk h H) hm;rw[z] at e;cases e
end L2
variable {xs zs:List L2.V}{H H' H₀:L2.Hp}{v:L2.V}{kvs:List (List L2.jl×L2.V)}
namespace L2
open PySem PySem.Spec PyProof.Rows
structure Mod(K:Ai)(mg:Str->Option Value)(base:Heap):Prop where
 kin:K.In base
 glob:base.Ns mainGlobals mg
 blt:∃mb,base.Ns builtinsNs mb/\∀x:Str,x ≠ "__name__" -> mb x=bootBuiltins x
 nolimit:base.NoLimit
structure Cx where
 prog:Program
 w:World
 K:Ai
 mg:Str->Option Value
 base:Heap
 A:Around
 N:List Str
 s₀:Shared
 H₀:Hp
 env:Env
 outer:List Env
 stack:List Env
 ex:List Addr
 fn:Str->Bool
 calm:Bool
 pn:List (Addr×Obj)
 xe:Value->Shared->Prop
def xM(l:List Env):List Addr:=l.filterMap (·.frame)
abbrev Cx.fs(X:Cx):List Addr:=xM X.outer
def Vis(sc:Scope)(x:Str):Prop:=sc.names.lookup x=some .local\/sc.names.lookup x=some .cell\/sc.names.lookup x=some .free
def Loc(sc:Scope)(x:Str):Prop:=sc.names.lookup x=some .local\/sc.names.lookup x=some .cell
def ass(env:Env)(h:Heap)(m:Str->Option Value)(x:Str)(u:Value):Prop:=
 (env.kindOf x=some .local/\m x=some u)\/((env.kindOf x=some .cell\/env.kindOf x=some .free)/\∃c,env.cells.lookup x=some c/\h.IsCell c (some u))
structure Cx.Ok(X:Cx):Prop where
 mod:Mod X.K X.mg X.base
 kind:X.env.scope.kind=.function
 glob:X.env.globals=mainGlobals
 blt:X.env.builtins=builtinsNs
 above:X.s₀.heap.objs.size≤X.env.locals
 inj:∀x y c,X.env.cells.lookup x=some c->X.env.cells.lookup y=some c->x=y
 has:∀x,(X.env.kindOf x=some .cell\/X.env.kindOf x=some .free)->∃c,X.env.cells.lookup x=some c
 cab:∀x c,X.fn x=true->X.env.cells.lookup x=some c->X.s₀.heap.objs.size≤c
 hd:X.calm=true->X.A.handled=none
 frames:X.A.frames=some X.stack
 stk:X.stack=X.outer\/(X.stack=X.env::X.outer/\X.env.frame=some X.env.locals)
 exf:∀b∈X.ex,b≠X.env.locals/\∀x c,X.env.cells.lookup x=some c->c≠b
 bs:∀b o,X.base.get? b=some o->X.s₀.heap.get? b=some o/\X.H₀ b=none
 bsz:X.base.objs.size≤X.s₀.heap.objs.size
 noex:∀b o,X.base.get? b=some o->b∉X.ex
 exfs:∀b∈X.ex,b∉X.fs
 funs:X.s₀.heap.FunFrames X.base X.outer
 frf:∀b∈X.fs,X.H₀ b=none
structure z9(X:Cx)(pins:List (Addr×Obj))(σ:List (Option V))(H:Hp)(s:Shared):Prop where
 ok:X.Ok
 os:s.os=X.s₀.os
 bare:AllBare s.gens
 base:Un X.fs X.ex X.H₀ H X.s₀.heap s.heap
 loc:∃m,s.heap.Ns X.env.locals m/\∀(i:Nat) (x:Str) (v:V),X.N[i]?=some x->σ[i]?=some (some v)->Vis X.env.scope x->∃u,zw v u/\ass X.env s.heap m x u
 cell:∀x c,X.env.cells.lookup x=some c->∃v,s.heap.IsCell c v
 free:H X.env.locals=none
 freeC:∀x c,X.env.cells.lookup x=some c->H c=none
 pin:∀p∈X.pn++pins,s.heap.get? p.1=some p.2/\H p.1=none/\p.1≠X.env.locals/\p.1∉X.fs/\∀v,p.2.data≠.cell v
 hok:eV X.prog X.w H s.heap
 len:σ.length=X.N.length
 tk:0<s.toks
section
variable {X:Cx}{σ:List (Option V)} 
theorem Cx.Ok.nofr(ok:X.Ok){b:Addr}{o:Obj}(e:X.base.get? b=some o):b∉X.fs:=fun hb=>by have:=(ok.funs.mem hb).1;rw[e] at this;cases this
theorem z9.bs(I:z9 X pins σ H s):∀b o,X.base.get? b=some o->s.heap.get? b=some o/\H b=none:=fun b o e=>
 ⟨I.base.keep b o (I.ok.bs b o e).1 (I.ok.bs b o e).2 (I.ok.nofr e) (I.ok.noex b o e),I.base.free b o (I.ok.bs b o e).1 (I.ok.bs b o e).2 (I.ok.noex b o e)⟩
theorem z9.bk(I:z9 X pins σ H s):∀b o,X.base.get? b=some o->s.heap.get? b=some o:=fun b o e=>(I.bs b o e).1
theorem z9.mod(I:z9 X pins σ H s):Mod X.K X.mg X.base:=I.ok.mod
theorem z9.kIn(I:z9 X pins σ H s):X.K.In s.heap:=I.ok.mod.kin.keeps I.bk
theorem z9.nolimit(I:z9 X pins σ H s):s.heap.NoLimit:=I.ok.mod.nolimit.keeps I.bk
theorem z9.lt(I:z9 X pins σ H s):X.env.locals<s.heap.objs.size:=let ⟨_,hn,_⟩:=I.loc;hn.lt
theorem z9.sz(I:z9 X pins σ H s):X.s₀.heap.objs.size≤s.heap.objs.size:=AS I.ok.above (Bn I.lt)
theorem z9.nofs(I:z9 X pins σ H s){a:Addr}(h:s.heap.objs.size≤a):a∉X.fs:=fun hb=>by obtain⟨_,o,ho,_⟩:=I.ok.funs.mem hb;exact absurd (AO (Heap.lt_size ho) (AS I.sz h)) (Do _)
theorem z9.cne(I:z9 X pins σ H s):∀x c,X.env.cells.lookup x=some c->c≠X.env.locals:=fun x c e z=>by obtain⟨v,o,ho,hd⟩:=I.cell x c e;obtain⟨m,⟨o',es,ep,ho',hd',_⟩,_⟩:=I.loc;rw[z,ho'] at ho;cases ho;rw[hd'] at hd;cases hd
theorem z9.funs(I:z9 X pins σ H s):s.heap.FunFrames X.base X.outer:=by
 have all:∀(l:List Env),(∀b∈xM l,b∈X.fs)->X.s₀.heap.FunFrames X.base l->s.heap.FunFrames X.base l:=by
  intro l
  induction l with
  |nil=>intro _ _;trivial
  |cons env r ih=>
   intro hs hl;obtain⟨hk,⟨L,o,hf,hn,ho,hd⟩,hr⟩:=hl;have hL:L∈X.fs:=hs L (by unfold xM;rw[CL,hf];exact As);obtain⟨sl,e⟩:=I.base.slot L o ho (I.ok.frf L hL) hL fun z=>I.ok.exfs L z hL;exact⟨hk,⟨L,_,hf,hn,e,hd⟩,ih (fun b hb=>hs b (by unfold xM;rw[CL,hf];exact Ah _ hb)) hr⟩
 exact all X.outer (fun _ hb=>hb) I.ok.funs
theorem z9.stack(I:z9 X pins σ H s):s.heap.FunFrames X.base X.stack:=by
 rcases I.ok.stk with e | ⟨e,hf⟩
 ·rw[e];exact I.funs
 ·rw[e];obtain⟨m,hn,_⟩:=I.loc;refine .cons (by rw[I.ok.kind];decide) hf hn ?_ I.funs;exact Heap.get?_none_of_le (AS I.ok.bsz I.ok.above)
theorem z9.stkSub(I:z9 X pins σ H s):∀b∈xM X.stack,b∈X.env.locals::X.fs:=fun b hb=>by
 rcases I.ok.stk with e | ⟨e,hf⟩
 ·rw[e] at hb;exact Ah _ hb
 ·rw[e] at hb;unfold xM at hb;rw[CL,hf] at hb;exact hb
theorem z9.stkFree(I:z9 X pins σ H s):∀b∈xM X.stack,H b=none:=fun b hb=>by
 rcases Av.mp (I.stkSub b hb) with e | hb
 ·rw[e];exact I.free
 ·obtain⟨_,o,ho,_⟩:=I.ok.funs.mem hb;exact I.base.free b o ho (I.ok.frf b hb) fun z=>I.ok.exfs b z hb
theorem z9.step{g':Array GenState}{d':Drawn}(I:z9 X pins σ H s)
 (hch:∀b∈ch,(b∈X.ex\/X.s₀.heap.objs.size≤b)/\b≠X.env.locals/\(∀x c,X.env.cells.lookup x=some c->c≠b)/\∀p∈X.pn++pins,p.1≠b)
 (keep:∀b o,b≠X.env.locals->b∉X.fs->b∉ch->s.heap.get? b=some o->H b=none->h'.get? b=some o)
 (slot:∀b o,b≠X.env.locals->b∈X.fs->b∉ch->s.heap.get? b=some o->H b=none->∃sl,h'.get? b=some { o with slots:=sl }) (free:∀b o,b∉ch->s.heap.get? b=some o->H b=none->H' b=none)
 (there:∀b o,b∉ch->s.heap.get? b=some o->∃o',h'.get? b=some o')
 (tups:∀b xs,H b=some (.tup xs)->H' b=some (.tup xs)) (frzs:∀b o u,H b=some (.frz o u)->H' b=some (.frz o u)) (tbls:∀b ps,H b=some (.tbl ps)->∃more,H' b=some (.tbl (ps++more)))
 (ns:∀m,s.heap.Ns X.env.locals m->h'.Ns X.env.locals m) (hok:eV X.prog X.w H' h') (hg:AllBare g') (ht:0<t':=by walk_at "t"):
 z9 X pins σ H' { s with heap:=h',gens:=g',drawn:=d',toks:=t' }:=by
 have w5:∀b o,X.s₀.heap.get? b=some o->b≠X.env.locals:=fun b o e=>A3 (AO (Heap.lt_size e) I.ok.above);have neC:∀b o,X.s₀.heap.get? b=some o->b∉X.ex->b∉ch:=fun b o e hx hb=>by
  rcases (hch b hb).1 with z | z
  ·exact hx z
  ·exact absurd (AO (Heap.lt_size e) z) (Do _)
 have cellK:∀x c,X.env.cells.lookup x=some c->∀v,s.heap.IsCell c v->h'.IsCell c v:=fun x c e v ⟨o,ho,hd⟩=>by
  have nch:c∉ch:=fun z=>(hch c z).2.2.1 x c e rfl;by_cases hc:c∈X.fs
  ·obtain⟨sl,q⟩:=slot c o (I.cne x c e) hc nch ho (I.freeC x c e);exact⟨_,q,hd⟩
  ·exact⟨o,keep c o (I.cne x c e) hc nch ho (I.freeC x c e),hd⟩
 refine⟨I.ok,I.os,hg,⟨fun b o e n hb hx=>?_,fun b o e n hb hx=>?_,fun b o e n hx=>?_,fun b o e hx=>?_,fun b xs e=>tups b xs (I.base.tups b xs e),fun b o xs e=>frzs b o xs (I.base.frzs b o xs e),fun b ps e=>?_⟩,?_,fun x c e=>?_,?_,fun x c e=>?_,fun p hp=>?_,hok,I.len,ht⟩
 ·exact keep b o (w5 b o e) hb (neC b o e hx) (I.base.keep b o e n hb hx) (I.base.free b o e n hx)
 ·obtain⟨sl,e1⟩:=I.base.slot b o e n hb hx;obtain⟨sl',e2⟩:=slot b _ (w5 b o e) hb (neC b o e hx) e1 (I.base.free b o e n hx);exact⟨sl',e2⟩
 ·obtain⟨o',e1⟩:=I.base.there b o e hx;exact free b o' (neC b o e hx) e1 (I.base.free b o e n hx)
 ·obtain⟨o',e1⟩:=I.base.there b o e hx;exact there b o' (neC b o e hx) e1
 ·obtain⟨m1,e1⟩:=I.base.tbls b ps e;obtain⟨m2,e2⟩:=tbls b _ e1;exact⟨m1++m2,by rw[e2,Array.append_assoc]⟩
 ·obtain⟨m,hn,hl⟩:=I.loc;refine⟨m,ns m hn,fun i x v e1 e2 e3=>?_⟩;obtain⟨u,r,l⟩:=hl i x v e1 e2 e3;refine⟨u,r,?_⟩;rcases l with l | ⟨k,c,e,z⟩
  ·exact .inl l
  ·exact .inr ⟨k,c,e,cellK x c e _ z⟩
 ·obtain⟨v,z⟩:=I.cell x c e;exact⟨v,cellK x c e v z⟩
 ·obtain⟨m,⟨o,_,_,ho,_⟩,_⟩:=I.loc;exact free _ o (fun z=>(hch _ z).2.1 rfl) ho I.free
 ·obtain⟨v,o,ho,hd⟩:=I.cell x c e;exact free c o (fun z=>(hch c z).2.2.1 x c e rfl) ho (I.freeC x c e)
 ·obtain⟨e,n,ne,nf,d⟩:=I.pin p hp;have nch:p.1∉ch:=fun z=>(hch p.1 z).2.2.2 p hp rfl;exact⟨keep p.1 p.2 ne nf nch e n,free p.1 p.2 nch e n,ne,nf,d⟩
theorem z9.un(I:z9 X pins σ H s)(u:Un X.fs [] H H' s.heap h')(hok:eV X.prog X.w H' h')(ht:0<t':=by walk_at "t"):z9 X pins σ H' { s with heap:=h',toks:=t' }:=by obtain⟨m,⟨o,es,ep,ho,r⟩,_⟩:=id I.loc;obtain⟨sl,hL⟩:=u.any ho I.free (by simp);exact I.step (g':=s.gens) (d':=s.drawn) (ch:=[]) (fun _ z=>nomatch z) (fun b o _ hb _ e n=>u.keep b o e n hb (by simp)) (fun b o _ hb _ e n=>u.slot b o e n hb (by simp)) (fun b o _ e n=>u.free b o e n (by simp)) (fun b o _ e=>u.there b o e (by simp)) u.tups u.frzs u.tbls (fun m' hm=>by obtain⟨o',es',ep',ho',r'⟩:=hm;rw[ho] at ho';cases ho';exact⟨_,es',ep',hL,r'⟩) hok I.bare
theorem z9.call{g':Array GenState}{d':Drawn}(I:z9 X pins σ H s)(u:Un (xM X.stack) ch H H' s.heap h')(hok:eV X.prog X.w H' h')(hg:AllBare g')
 (hch:∀b∈ch,(b∈X.ex\/X.s₀.heap.objs.size≤b)/\b≠X.env.locals/\(∀x c,X.env.cells.lookup x=some c->c≠b)/\∀p∈X.pn++pins,p.1≠b) (ht:0<t':=by walk_at "t"):
 z9 X pins σ H' { s with heap:=h',gens:=g',drawn:=d',toks:=t' }:=by
 obtain⟨m,⟨o,es,ep,ho,r⟩,_⟩:=id I.loc;obtain⟨sl,hL⟩:=u.any ho I.free fun z=>(hch _ z).2.1 rfl;exact I.step (ch:=ch) hch (fun b o hL hb hc e n=>u.keep b o e n (fun z=>(Av.mp (I.stkSub b z)).elim hL hb) hc) (fun b o _ _ hc e n=>u.any e n hc) (fun b o hc e n=>u.free b o e n hc) (fun b o hc e=>u.there b o e hc) u.tups u.frzs u.tbls (fun m' hm=>by obtain⟨o',es',ep',ho',r'⟩:=hm;rw[ho] at ho';cases ho';exact⟨_,es',ep',hL,r'⟩) hok hg
theorem z9.turned(I:z9 X pins σ H s)(k:∀b o,b≠it->s.heap.get? b=some o->h'.get? b=some o)(hn:H it=none)(hL:it≠X.env.locals)
 (h1:it∈X.ex\/X.s₀.heap.objs.size≤it) (h2:∀x c,X.env.cells.lookup x=some c->c≠it) (h3:∀p∈X.pn++pins,p.1≠it) (ht:0<t':=by walk_at "t"):z9 X pins σ H { s with heap:=h',toks:=t' }:=by
 have nit:∀b u,H b=some u->b≠it:=fun b u e z=>by rw[z,hn] at e;cases e
 refine I.step (g':=s.gens) (d':=s.drawn) (ch:=[it]) (fun b hb=>?_) (fun b o _ _ hc e _=>k b o (fun z=>hc (by simp[z])) e) (fun b o _ _ hc e _=>⟨o.slots,k b o (fun z=>hc (by simp[z])) e⟩) (fun _ _ _ _ n=>n)
  (fun b o hc e=>⟨o,k b o (fun z=>hc (by simp[z])) e⟩) (fun _ _ e=>e) (fun _ _ _ e=>e) (fun b ps e=>⟨#[],by rw[e];simp⟩) (fun m hm=>?_) (fun b u e=>?_) I.bare
 ·have e:b=it:=by simpa using hb
  subst e;exact⟨h1,hL,h2,h3⟩
 ·obtain⟨o,es,ep,ho,r⟩:=hm;exact⟨o,es,ep,k _ o (AN hL) ho,r⟩
 ·refine(I.hok b u e).stay (fun c v hc q=>k c v ?_ q) (fun _ q=>q) fun _ _ q=>q;rcases hc with z | z
  ·rw[z];exact nit b u e
  ·exact nit c _ z
theorem z9.tok(I:z9 X pins σ H s)(t:Nat)(ht:0<t:=by walk_at "t"):z9 X pins σ H { s with toks:=t }:=I.un (h':=s.heap) (t':=t) Un.refl I.hok
theorem z9.kept(I:z9 X pins σ H s)(k:∀b u,s.heap.get? b=some u->h'.get? b=some u)(ht:0<t':=by walk_at "t"):z9 X pins σ H { s with heap:=h',toks:=t' }:=I.un (Un.kept k) (I.hok.kept k)
theorem z9.laid{a:Addr}{o:HO}(I:z9 X pins σ H s)(k:∀b u,s.heap.get? b=some u->h'.get? b=some u)(hp:s.heap.objs.size≤a)(new:xq X.prog X.w (upd H a o) h' a o)(ht:0<t':=by walk_at "t"):
 z9 X pins σ (upd H a o) { s with heap:=h',toks:=t' }:=I.un (Un.laid k hp (I.hok.fresh hp)) (I.hok.laid k hp new)
theorem z9.write{x e:Addr}{o:HO}(I:z9 X pins σ H s)(mu:Mut (H x))(he:e=x\/H e=some (.own x))(k:∀b u,b≠e->s.heap.get? b=some u->h'.get? b=some u)(heo:∃u,h'.get? e=some u)
 (new:xq X.prog X.w (upd H x o) h' x o) (ht:0<t':=by walk_at "t"):z9 X pins σ (upd H x o) { s with heap:=h',toks:=t' }:=I.un (Un.write mu he k heo) (I.hok.write mu he k heo new)
theorem z9.weak{σ':List (Option V)}(I:z9 X pins σ H s)(hl:σ'.length=σ.length)(w:∀(i:Nat) v,σ'[i]?=some (some v)->σ[i]?=some (some v)):z9 X pins σ' H s:=
 ⟨I.ok,I.os,I.bare,I.base,let ⟨m,hn,hl'⟩:=I.loc;⟨m,hn,fun i x v e1 e2 e3=>hl' i x v e1 (w i v e2) e3⟩,I.cell,I.free,I.freeC,I.pin,I.hok,hl.trans I.len,I.tk⟩
theorem z9.pins_of{pins':List (Addr×Obj)}(I:z9 X pins σ H s)(h:∀p∈pins',s.heap.get? p.1=some p.2/\H p.1=none/\p.1≠X.env.locals/\p.1∉X.fs/\∀v,p.2.data≠.cell v):z9 X pins' σ H s:=
 ⟨I.ok,I.os,I.bare,I.base,I.loc,I.cell,I.free,I.freeC,fun p hp=>(Ak.mp hp).elim (fun z=>I.pin p (Ar _ z)) (h p),I.hok,I.len,I.tk⟩
theorem sn{N:List Str}(hN:N.Nodup)(a:N[i]?=some x)(b:N[j]?=some x):i=j:=by obtain⟨h1,e1⟩:=AZ.mp a;obtain⟨h2,e2⟩:=AZ.mp b;exact(List.getElem_inj hN).mp (e1.trans e2.symm)
theorem oU{Q:Unit->Shared->Prop}(I:z9 X pins σ H s)(hN:X.N.Nodup)(hi:X.N[i]?=some x)(hx:Loc X.env.scope x)(r:zw v u)
 (h:∀s',z9 X pins (σ.set i (some v)) H s'->(∃a,Heap.SameBut a s.heap s'.heap/\(a=X.env.locals\/X.env.cells.lookup x=some a))->(X.env.kindOf x=some .local->∃m',s'.heap.Ns X.env.locals m'/\m' x=some u)->Q () s') (hf:X.fn x=true\/X.env.scope.names.lookup x=some .local:=by first | exact .inl rfl | exact .inr rfl | assumption):wpAny M A (storeName X.env x u) Q E s:=by
 obtain⟨m,hn,hl⟩:=id I.loc;have hcls:(X.env.scope.kind==.class||(X.env.scope.kind==.module&&X.env.locals != X.env.globals))=false:=by rw[I.ok.kind];rfl
 have hiσ:i<σ.length:=by rw[I.len];exact(AZ.mp hi).1
 have cne:=I.cne;have tracked:∀{a:Addr} {h':Heap},(∃o,s.heap.get? a=some o/\H a=none)->Heap.SameBut a s.heap h'->eV X.prog X.w H h':=fun {a h'} ha hs b ob e=>by
  obtain⟨_,_,hfree⟩:=ha;refine(I.hok b ob e).stay (fun c w' hc q=>(hs.2 c ?_).trans q) (fun _ q=>q) fun _ _ q=>q;rintro rfl;rcases hc with rfl | hc
  ·rw[hfree] at e;cases e
  ·rw[hfree] at hc;cases hc
 rcases hx with hk | hk
 ·refine wpAny_storeName_local hk hn (fun h' hn' hs=>?_) hcls;obtain⟨oL,_,_,hoL,_⟩:=id hn;refine h _ ⟨I.ok,I.os,I.bare,⟨fun b o e n hb hx=>?_,fun b o e n hb hx=>?_,I.base.free,fun b o e hx=>?_,I.base.tups,I.base.frzs,I.base.tbls⟩,⟨_,hn',fun j y v' e1 e2 e3=>?_⟩,fun y c e=>?_,I.free,I.freeC,fun p hp=>?_,tracked ⟨oL,hoL,I.free⟩ hs,by simpa using I.len,by first | exact I.tk | exact CH _⟩ ⟨_,hs,.inl rfl⟩ (fun _=>⟨_,hn',by simp⟩)
  ·exact(hs.2 b (A3 (AO (Heap.lt_size e) I.ok.above))).trans (I.base.keep b o e n hb hx)
  ·obtain⟨sl,e1⟩:=I.base.slot b o e n hb hx;exact⟨sl,(hs.2 b (A3 (AO (Heap.lt_size e) I.ok.above))).trans e1⟩
  ·obtain⟨o',e1⟩:=I.base.there b o e hx;exact⟨o',(hs.2 b (A3 (AO (Heap.lt_size e) I.ok.above))).trans e1⟩
  ·by_cases hj:j=i
   ·subst hj;rw[hi] at e1;cases e1;rw[BX hiσ] at e2;cases e2;exact⟨u,r,.inl ⟨hk,by simp⟩⟩
   ·rw[Bo (AN hj)] at e2;obtain⟨u',r',q⟩:=hl j y v' e1 e2 e3;refine⟨u',r',?_⟩;rcases q with⟨k,e⟩ | ⟨k,c,e,z⟩
    ·refine .inl ⟨k,?_⟩;have:y≠x:=fun e=>hj (sn hN e1 (e▸hi));simp[this,e]
    ·exact .inr ⟨k,c,e,z.sameBut hs (cne y c e)⟩
  ·obtain⟨w',z⟩:=I.cell y c e;exact⟨w',z.sameBut hs (cne y c e)⟩
  ·obtain⟨e,n,ne,nf,d⟩:=I.pin p hp;exact⟨(hs.2 p.1 ne).trans e,n,ne,nf,d⟩
 ·have hfn:X.fn x=true:=by
   rcases hf with z | z
   ·exact z
   ·rw[z] at hk;cases hk
  obtain⟨c,hc⟩:=I.ok.has x (.inl hk);obtain⟨w',z⟩:=I.cell x c hc;refine wpAny_storeName_cell I.ok.kind hk hc z (fun h' hc' hs=>?_);obtain⟨oc,hoc,hocd⟩:=id z;refine h { s with heap:=h' } ⟨I.ok,I.os,I.bare,⟨fun b o e n hb hx=>?_,fun b o e n hb hx=>?_,I.base.free,fun b o e hx=>?_,I.base.tups,I.base.frzs,I.base.tbls⟩,⟨m,hn.sameBut hs (AN (cne x c hc)),fun j y v' e1 e2 e3=>?_⟩,fun y c' e=>?_,I.free,I.freeC,fun p hp=>?_,tracked ⟨oc,hoc,I.freeC x c hc⟩ hs,by simpa using I.len,I.tk⟩ ⟨c,hs,.inr hc⟩ (fun z=>by have e:=(show X.env.kindOf x=some .cell from hk).symm.trans z;cases e)
  ·exact(hs.2 b (A3 (AO (Heap.lt_size e) (I.ok.cab x c hfn hc)))).trans (I.base.keep b o e n hb hx)
  ·obtain⟨sl,e1⟩:=I.base.slot b o e n hb hx;exact⟨sl,(hs.2 b (A3 (AO (Heap.lt_size e) (I.ok.cab x c hfn hc)))).trans e1⟩
  ·obtain⟨o',e1⟩:=I.base.there b o e hx;exact⟨o',(hs.2 b (A3 (AO (Heap.lt_size e) (I.ok.cab x c hfn hc)))).trans e1⟩
  ·by_cases hj:j=i
   ·subst hj;rw[hi] at e1;cases e1;rw[BX hiσ] at e2;cases e2;exact⟨u,r,.inr ⟨.inl hk,c,hc,hc'⟩⟩
   ·rw[Bo (AN hj)] at e2;obtain⟨u',r',q⟩:=hl j y v' e1 e2 e3;refine⟨u',r',?_⟩;rcases q with q | ⟨k,c',e,z'⟩
    ·exact .inl q
    ·refine .inr ⟨k,c',e,z'.sameBut hs ?_⟩;rintro rfl;exact hj (sn hN e1 (I.ok.inj _ _ _ e hc▸hi))
  ·by_cases hcc:c'=c
   ·subst hcc;exact⟨_,hc'⟩
   ·obtain⟨w2,z2⟩:=I.cell y c' e;exact⟨w2,z2.sameBut hs hcc⟩
  ·obtain⟨e,n,ne,nf,d⟩:=I.pin p hp;refine⟨(hs.2 p.1 ?_).trans e,n,ne,nf,d⟩;intro q;rw[q,hoc] at e;have q':oc=p.2:=Be e;exact d w' (by rw[<-q'];exact hocd)
theorem ay{Q:Unit->Shared->Prop}(I:z9 X pins σ H s)(hN:X.N.Nodup)(hi:X.N[i]?=some x)(hx:Loc X.env.scope x)(r:zw v u)
 (h:∀s',z9 X pins (σ.set i (some v)) H s'->Q () s') (hf:X.fn x=true\/X.env.scope.names.lookup x=some .local:=by first | exact .inl rfl | exact .inr rfl | assumption):wpAny M A (storeName X.env x u) Q E s:=
 oU I hN hi hx r (fun s' I' _ _=>h s' I') hf
theorem z9.call'(I:z9 X pins σ H s)(ho:s'.os=s.os)(u:Un (xM X.stack) ch H H' s.heap s'.heap)(hok:eV X.prog X.w H' s'.heap)(hg:AllBare s'.gens)
 (hch:∀b∈ch,(b∈X.ex\/X.s₀.heap.objs.size≤b)/\b≠X.env.locals/\(∀x c,X.env.cells.lookup x=some c->c≠b)/\∀p∈X.pn++pins,p.1≠b) (ht:0<s'.toks:=by walk_at "t"):z9 X pins σ H' s':=by
 obtain⟨h',g',d',t',o'⟩:=s';have e:o'=s.os:=ho;subst e;exact I.call (g':=g') (t':=t') (d':=d') u hok hg hch ht
end
abbrev XK:=Value->Option Addr->Hp->Prop
abbrev St:=List (Option V)
abbrev VK:=V->Hp->Prop
abbrev TE:=St->Hp->VK->Prop
abbrev TT:=St->Hp->(Bool->Hp->Prop)->Prop
abbrev TA:=St->Hp->(List V->Hp->Prop)->Prop
structure ug where
 nx:St->Hp->Prop
 rt:VK
 bk:St->Hp->Prop:=fun _ _=>False
 ct:St->Hp->Prop:=fun _ _=>False
abbrev TS:=ug->St->Hp->Prop
def EP(X:Cx)(pins:List (Addr×Obj))(σ:St)(Q:VK)(u:Value)(s':Shared):Prop:=∃v H',z9 X pins σ H' s'/\zw v u/\Q v H'
def TP(X:Cx)(pins:List (Addr×Obj))(σ:St)(Q:Bool->Hp->Prop)(b:Bool)(s':Shared):Prop:=∃H',z9 X pins σ H' s'/\Q b H'
def AP(X:Cx)(pins:List (Addr×Obj))(σ:St)(Q:List V->Hp->Prop)(us:List Value)(s':Shared):Prop:=∃vs H',z9 X pins σ H' s'/\zp vs us/\Q vs H'
def SP(X:Cx)(pins:List (Addr×Obj))(D:ug)(f:Flow)(s':Shared):Prop:=
 match f with
 |.next=>∃σ' H',z9 X pins σ' H' s'/\D.nx σ' H'
 |.brk=>∃σ' H',z9 X pins σ' H' s'/\D.bk σ' H'
 |.cont=>∃σ' H',z9 X pins σ' H' s'/\D.ct σ' H'
 |.ret u=>∃v σ' H',z9 X pins σ' H' s'/\zw v u/\D.rt v H'
def PE(X:Cx)(e:Expr)(t:TE):Prop:=
 ∀(pins:List (Addr×Obj)) (s:Shared) (σ:St) (H:Hp) (Q:VK),z9 X pins σ H s->t σ H Q->wpAny (model X.prog X.w) X.A (eval e X.env) (EP X pins σ Q) X.xe s
def PT(X:Cx)(e:Expr)(t:TT):Prop:=
 ∀(pins:List (Addr×Obj)) (s:Shared) (σ:St) (H:Hp) (Q:Bool->Hp->Prop),z9 X pins σ H s->t σ H Q->wpAny (model X.prog X.w) X.A (isTrue e X.env (eval e X.env)) (TP X pins σ Q) X.xe s
def PW(X:Cx)(e:Expr)(t:TT):Prop:=
 ∀(whole:Sem Value) (pins:List (Addr×Obj)) (s:Shared) (σ:St) (H:Hp) (Q:Bool->Hp->Prop),z9 X pins σ H s->t σ H Q->wpAny (model X.prog X.w) X.A (isTrue e X.env whole) (TP X pins σ Q) X.xe s
theorem PW.pt{X:Cx}{t:TT}(h:PW X e t):PT X e t:=h _
def PA(X:Cx)(es:List Expr)(t:TA):Prop:=
 ∀(pos:Pos) (pins:List (Addr×Obj)) (s:Shared) (σ:St) (H:Hp) (Q:List V->Hp->Prop),z9 X pins σ H s->t σ H Q->wpAny (model X.prog X.w) X.A (spliced (backTo pos (starEach es X.env))) (AP X pins σ Q) X.xe s
def PS(X:Cx)(st:Stmt)(t:TS):Prop:=
 ∀(pins:List (Addr×Obj)) (s:Shared) (σ:St) (H:Hp) (D:ug),z9 X pins σ H s->t D σ H->wpAny (model X.prog X.w) X.A (exec st X.env) (SP X pins D) X.xe s
def m5(X:Cx)(st:List Stmt)(t:TS):Prop:=
 ∀(pins:List (Addr×Obj)) (s:Shared) (σ:St) (H:Hp) (D:ug),z9 X pins σ H s->t D σ H->wpAny (model X.prog X.w) X.A (execs st X.env) (SP X pins D) X.xe s
theorem va{t:Sem α}{Q Q':α->Shared->Prop}(h:wpAny M A t Q E s)(hQ:∀a s,Q a s->Q' a s):wpAny M A t Q' E s:=AX h hQ fun _ _ x=>x
end L2
variable {r:L2.V->Option Int->Option Int->L2.Hp->L2.VK->Prop}{X:L2.Cx}{σ:L2.St}
namespace L2
open PySem PySem.Spec PyProof.Rows
section
def aje(i:Nat):TE:=fun σ H Q=>∃v,σ[i]?=some (some v)/\Q v H
def tC(v:V):TE:=fun _ H Q=>Q v H
abbrev Eu(x:Str):Prop:=(x==("__debug__":Str))=false
abbrev Ew(x:Str):Prop:=(x==("__classdict__":Str))=false
theorem ais(hN:X.N[i]?=some x)(hv:Vis X.env.scope x)(hd:Eu x:=by decide)(hcd:Ew x:=by decide):PE X (.Name x pos) (aje i):=by
 intro pins s σ H Q I h;obtain⟨v,e,h⟩:=h;obtain⟨m,hn,hl⟩:=I.loc;obtain⟨u,r,l⟩:=hl i x v hN e hv;have xr:EP X pins σ Q u s:=⟨v,H,I,r,h⟩;rcases l with⟨hk,hm⟩ | ⟨hk,c,hc,hcell⟩
 ·exact wpAny_Name (wpAny_loadName_local I.ok.kind hk hn hm xr) hd
 ·rcases hk with hk | hk
  ·exact wpAny_Name (wpAny_loadName_cell I.ok.kind hk hc hcell xr) hd
  ·exact wpAny_Name (wpAny_loadName_free I.ok.kind hk hc hcell xr hcd) hd
theorem aja{i j pos}:PE X (.Constant (.int i) j pos) (tC (.int i)):=fun _ _ _ H _ I h=>wpAny_Constant_int ⟨.int i,H,I.tok _,⟨_,rfl⟩,h⟩
theorem alv{b j pos}:PE X (.Constant (.bool b) j pos) (tC (.bl b)):=fun _ _ _ H _ I h=>Constant_bool ⟨.bl b,H,I,rfl,h⟩
theorem ai5{j pos}:PE X (.Constant .none j pos) (tC .non):=fun _ _ _ H _ I h=>Constant_none ⟨.non,H,I,rfl,h⟩
theorem cU{x j pos}:PE X (.Constant (.str x) j pos) (tC (.str x)):=fun _ _ _ H _ I h=>Calls.Constant_str ⟨.str x,H,I.tok _,⟨_,rfl⟩,h⟩
def Gl(X:Cx)(x:Str):Prop:=X.env.kindOf x=some .globalImplicit
theorem vM(I:z9 X pins σ H s)(hg:Gl X x)(hm:X.mg x=some u)(h:Q u s)
 (hd:Eu x:=by decide):wpAny (model X.prog X.w) X.A (eval (.Name x pos) X.env) Q E s:=
 Calls.Name_function_global I.ok.kind hg (Calls.loadGlobal_global (by rw[I.ok.glob];exact I.mod.glob.keeps I.bk) hm h) hd
theorem cY(I:z9 X pins σ H s)(hg:Gl X x)(hm:X.mg x=none)(hv:bootBuiltins x=some u)(h:Q u s)
 (hn:x ≠ "__name__" := by decide) (hd:Eu x:=by decide):wpAny (model X.prog X.w) X.A (eval (.Name x pos) X.env) Q E s:=by
 obtain⟨mb,h1,h2⟩:=I.mod.blt;exact Calls.Name_function_global I.ok.kind hg (Calls.loadGlobal_builtin (by rw[I.ok.glob];exact I.mod.glob.keeps I.bk) hm (by rw[I.ok.blt];exact h1.keeps I.bk) ((h2 x hn).trans hv) h) hd
theorem afz(hg:Gl X x)(hm:X.mg x=some u)(r:zw v u)(hd:Eu x:=by decide):PE X (.Name x pos) (tC v):=
 fun _ _ _ H _ I h=>vM I hg hm ⟨v,H,I,r,h⟩ hd
theorem adi(hg:Gl X x)(hm:X.mg x=none)(hv:bootBuiltins x=some u)(r:zw v u)(hn:x ≠ "__name__" := by decide)(hd:Eu x:=by decide):PE X (.Name x pos) (tC v):=
 fun _ _ _ H _ I h=>cY I hg hm hv ⟨v,H,I,r,h⟩ hn hd
variable {a b:Expr}{ta tb:TE} 
def PC(X:Cx)(op:CmpOp)(a b:Expr)(t:TE):Prop:=
 ∀(pins:List (Addr×Obj)) (s:Shared) (σ:St) (H:Hp) (Q:VK),z9 X pins σ H s->t σ H Q->
  wpAny (model X.prog X.w) X.A (eval a X.env) (fun v s₁=>wpAny (model X.prog X.w) X.A (eval b X.env) (fun u s₂=>wpAny (model X.prog X.w) X.A (compareOp op v u) (EP X pins σ Q) X.xe s₂) X.xe s₁) X.xe s
theorem rC(b:Expr){op:CmpOp}(h:op≠.In)(h2:op≠.NotIn):behindInMarks op b=false:=by
 have e1:(op==CmpOp.In)=false:=by cases op<;>first | rfl | exact absurd rfl h
 have e2:(op==CmpOp.NotIn)=false:=by cases op<;>first | rfl | exact absurd rfl h2
 cases b<;>simp[behindInMarks,e1,e2]
def amy(ta:TE):TE:=fun σ H Q=>ta σ H fun x H1=>Q (.bl (decide (x=.non))) H1
def agu(ta:TE):TE:=fun σ H Q=>ta σ H fun x H1=>Q (.bl (!decide (x=.non))) H1
theorem zw.none_iff{x:V}{v:Value}(r:zw x v):(v==Value.none)=decide (x=.non):=by
 cases x with
 |non=>cases r;rfl
 |bl _=>cases r;rfl
 |int _=>obtain⟨t,rfl⟩:=r;rfl
 |str _=>obtain⟨t,rfl⟩:=r;rfl
 |byt _=>obtain⟨t,rfl⟩:=r;rfl
 |flt _=>obtain⟨t,rfl⟩:=r;rfl
 |ref _=>cases r;rfl
 |ty _=>cases r;rfl
theorem zX{j pos'}(ha:PE X a ta):PC X .Is a (.Constant .none j pos') (amy ta):=by intro pins s σ H Q I h;refine va (ha pins s σ H _ I h) fun v s1 ⟨x,H1,I1,r1,q1⟩=>?_;exact Constant_none (is_none_gen ⟨.bl _,H1,I1,by rw[r1.none_iff];rfl,q1⟩)
theorem wK{j pos'}(ha:PE X a ta):PC X .IsNot a (.Constant .none j pos') (agu ta):=by intro pins s σ H Q I h;refine va (ha pins s σ H _ I h) fun v s1 ⟨x,H1,I1,r1,q1⟩=>?_;exact Constant_none (isnot_none_gen ⟨.bl _,H1,I1,by rw[r1.none_iff];rfl,q1⟩)
def tB(t:TE):TT:=fun σ H Q=>t σ H fun x H1=>∃c,x=.bl c/\Q c H1
theorem ac6{op:CmpOp}{t:TE}(h:PC X op a b t)(h1:behindInMarks op b=false:=by first | exact rC _ (by decide) (by decide) | rfl):PE X (.Compare a [op] [b] pos) t:=fun pins s σ H Q I hw=>wpAny_Compare1 (h pins s σ H Q I hw) h1
theorem ad1{op:CmpOp}{t:TE}(h:PC X op a b t)(h1:behindInMarks op b=false:=by first | exact rC _ (by decide) (by decide) | rfl):PT X (.Compare a [op] [b] pos) (tB t):=by intro pins s σ H Q I hw;refine wpAny_isTrue_Compare1 (va (h pins s σ H _ I hw) fun v s1 h1=>va h1 fun u s2 h2=>va h2 fun c s3 ⟨x,H1,I1,r1,q1⟩=>?_) h1;obtain⟨d,rfl,q⟩:=q1;cases r1;exact wpAny_truthy_bool ⟨H1,I1,q⟩
theorem ajt{t:TE}(h:PE X e t)(he:∀whole,isTrue e X.env whole=(do let v <-whole;standAt e.pos;holding [v] (truthy v)):=by intro _;rfl):PT X e (tB t):=by intro pins s σ H Q I hw;refine isTrue_plain (va (h pins s σ H _ I hw) fun v s1 ⟨x,H1,I1,r1,q1⟩=>?_) (he _);obtain⟨d,rfl,q⟩:=q1;cases r1;exact wpAny_truthy_bool ⟨H1,I1,q⟩
variable {tA tB':TT}{rest:List Expr}
def apg(t u:TT):TT:=fun σ H Q=>t σ H fun c H1=>if c=true then u σ H1 Q else Q false H1
def tOr(t u:TT):TT:=fun σ H Q=>t σ H fun c H1=>if c=true then Q true H1 else u σ H1 Q
def asg(t:TT):TT:=fun σ H Q=>t σ H fun c H1=>Q (!c) H1
theorem ae3(ha:PT X a tA):PW X (.BoolOp .And [a] pos) tA:=by intro wh pins s σ H Q I h;refine isTrue_and (va (ha pins s σ H Q I h) fun c s1 e=>?_);cases c with|true=>exact isTrue_and_nil e|false=>exact e
theorem aki(ha:PT X a tA):PW X (.BoolOp .Or [a] pos) tA:=by intro wh pins s σ H Q I h;refine isTrue_or (va (ha pins s σ H Q I h) fun c s1 e=>?_);cases c with|false=>exact isTrue_or_nil e|true=>exact e
theorem akj(ha:PT X a tA)(hb:PW X (.BoolOp .And (b::rest) pos) tB'):PW X (.BoolOp .And (a::b::rest) pos) (apg tA tB'):=by intro wh pins s σ H Q I h;refine isTrue_and (va (ha pins s σ H _ I h) fun c s1 ⟨H1,I1,q1⟩=>?_);cases c with|true=>exact hb wh pins s1 σ H1 Q I1 q1|false=>exact⟨H1,I1,q1⟩
theorem am6(ha:PT X a tA)(hb:PW X (.BoolOp .Or (b::rest) pos) tB'):PW X (.BoolOp .Or (a::b::rest) pos) (tOr tA tB'):=by intro wh pins s σ H Q I h;refine isTrue_or (va (ha pins s σ H _ I h) fun c s1 ⟨H1,I1,q1⟩=>?_);cases c with|true=>exact⟨H1,I1,q1⟩|false=>exact hb wh pins s1 σ H1 Q I1 q1
theorem ak8(ha:PT X a tA):PT X (.UnaryOp .Not a pos) (asg tA):=by intro pins s σ H Q I h;exact isTrue_not (ha pins s σ H (fun c H1=>Q (!c) H1) I h)
def al9(ta tb:TE):TE:=fun σ H Q=>ta σ H fun x H1=>∃c,x=.bl c/\if c=true then tb σ H1 Q else Q (.bl false) H1
theorem aj2{op}{t:TE}(h:PE X a t):PE X (.BoolOp op [a] pos) t:=fun pins s σ H Q I hw=>BoolOp_one (h pins s σ H Q I hw)
theorem aka(ha:PE X a ta)(hb:PE X (.BoolOp .And (b::rest) pos) tb):PE X (.BoolOp .And (a::b::rest) pos) (al9 ta tb):=by
 intro pins s σ H Q I h;refine BoolOp_and (va (ha pins s σ H _ I h) fun v s1 ⟨x,H1,I1,r1,q1⟩=>?_);obtain⟨c,rfl,q1⟩:=q1;cases r1;refine wpAny_truthy_bool ?_;cases c with
 |true=>exact hb pins s1 σ H1 Q I1 q1
 |false=>exact⟨.bl false,H1,I1,rfl,q1⟩
def tIf(t:TT)(ta tb:TE):TE:=fun σ H Q=>t σ H fun c H1=>if c=true then ta σ H1 Q else tb σ H1 Q
theorem aci(hc:PT X c tA)(ha:PE X a ta)(hb:PE X b tb):PE X (.IfExp c a b pos) (tIf tA ta tb):=by intro pins s σ H Q I h;refine wpAny_IfExp (va (hc pins s σ H _ I h) fun d s1 ⟨H1,I1,q1⟩=>?_);cases d with|true=>exact ha pins s1 σ H1 Q I1 q1|false=>exact hb pins s1 σ H1 Q I1 q1
end
def aE(K:Ai)(H:Hp)(a:Addr)(xs:List V):Prop:=
 Rd H a (.lst xs)\/
  ∃(o:Obj) (its:Array Value) (n:Nat),K.lookup a=some o/\o.cls=.type "list" /\ o.dict=none/\o.data=.seq its n/\its.size≤sizeLine/\zp xs its.toList
def dF(K:Ai)(H:Hp)(a:Addr)(xs:List V):Prop:=
 Rd H a (.tup xs)\/
  ∃(o:Obj) (its:Array Value) (n:Nat),K.lookup a=some o/\o.cls=.type "tuple" /\ o.data=.seq its n/\its.size≤sizeLine/\zp xs its.toList
def apc:Value->Option V
 |.none=>some .non
 |.bool b=>some (.bl b)
 |.int i _=>some (.int i)
 |.str x _=>some (.str x)
 |.bytes b _=>some (.byt b)
 |.float b _=>some (.flt b)
 |.ref a=>some (.ref a)
 |.type n=>some (.ty n)
 |_=>none
theorem zw.abs{x:V}(r:zw x u):apc u=some x:=by
 cases x with
 |non=>cases r;rfl
 |bl _=>cases r;rfl
 |int _=>obtain⟨t,rfl⟩:=r;rfl
 |str _=>obtain⟨t,rfl⟩:=r;rfl
 |byt _=>obtain⟨t,rfl⟩:=r;rfl
 |flt _=>obtain⟨t,rfl⟩:=r;rfl
 |ref _=>cases r;rfl
 |ty _=>cases r;rfl
theorem zw.inj{x y:V}(r:zw x u)(q:zw y u):x=y:=Be (r.abs.symm.trans q.abs)
theorem zp.inj:∀{xs ys:List V} {us:List Value},zp xs us->zp ys us->xs=ys
 |_,_,_,.nil,.nil=>rfl
 |_,_,_,.cons r t,.cons r' t'=>by rw[r.inj r',zp.inj t t']
section
variable {a:Addr}{ys:List V}
theorem aE.of{K:Ai}(h:H a=some (.lst xs)):aE K H a xs:=.inl (.inl h)
abbrev ES:=@aE.of
theorem dF.of{K:Ai}(h:H a=some (.tup xs)):dF K H a xs:=.inl (.inl h)
theorem z9.list(I:z9 X pins σ H s)(h:aE X.K H a xs):∃its:List Value,zp xs its/\PlainL s.heap a its.toArray/\xs.length≤sizeLine:=by
 rcases h with h | ⟨o,its,n,hk,hc,hd,hs,hz,r⟩
 ·obtain⟨z,its,n,r,e⟩:=h.ok I.hok;exact⟨its,r,⟨_,n,e,rfl,rfl,rfl⟩,z⟩
 ·refine⟨its.toList,r,⟨o,n,I.kIn a o hk,hc,hd,by simpa using hs⟩,?_⟩;have e:=r.length;simp only[AJ] at e;omega
theorem z9.tuple(I:z9 X pins σ H s)(h:dF X.K H a xs):∃its:List Value,zp xs its/\IsTup s.heap a its.toArray/\xs.length≤sizeLine:=by
 rcases h with h | ⟨o,its,n,hk,hc,hs,hz,r⟩
 ·obtain⟨z,its,r,p⟩:=h.ok I.hok;exact⟨its,r,p,z⟩
 ·refine⟨its.toList,r,⟨o,I.kIn a o hk,hc,n,by simpa using hs⟩,?_⟩;have e:=r.length;simp only[AJ] at e;omega
theorem z9.list_inj(I:z9 X pins σ H s)(h:aE X.K H a xs)(h':aE X.K H a ys):xs=ys:=by
 obtain⟨its,r,⟨o,n,e,_,_,d⟩,_⟩:=I.list h;obtain⟨its',r',⟨o',n',e',_,_,d'⟩,_⟩:=I.list h';rw[e] at e';cases e';rw[d] at d';injection d' with d1 _
 have:its=its':=by simpa using BI Array.toList d1
 subst this;exact r.inj r'
theorem z9.tuple_inj(I:z9 X pins σ H s)(h:dF X.K H a xs)(h':dF X.K H a ys):xs=ys:=by
 obtain⟨its,r,⟨o,e,_,n,d⟩,_⟩:=I.tuple h;obtain⟨its',r',⟨o',e',_,n',d'⟩,_⟩:=I.tuple h';rw[e] at e';cases e';rw[d] at d';injection d' with d1 _
 have:its=its':=by simpa using BI Array.toList d1
 subst this;exact r.inj r'
end
abbrev Cx.wish(X:Cx)(E:Value->Shared->Prop):Cx:={ X with xe:=E }
abbrev Cx.nox(X:Cx):Cx:=X.wish fun _ _=>False
theorem Cx.Ok.wish(ok:X.Ok)(E:Value->Shared->Prop):(X.wish E).Ok:=
 ⟨ok.mod,ok.kind,ok.glob,ok.blt,ok.above,ok.inj,ok.has,ok.cab,ok.hd,ok.frames,ok.stk,ok.exf,ok.bs,ok.bsz,ok.noex,ok.exfs,ok.funs,ok.frf⟩
theorem Cx.Ok.unwish(ok:(X.wish E).Ok):X.Ok:=
 ⟨ok.mod,ok.kind,ok.glob,ok.blt,ok.above,ok.inj,ok.has,ok.cab,ok.hd,ok.frames,ok.stk,ok.exf,ok.bs,ok.bsz,ok.noex,ok.exfs,ok.funs,ok.frf⟩
section
theorem z9.wish(I:z9 X pins σ H s)(E:Value->Shared->Prop):z9 (X.wish E) pins σ H s:=⟨I.ok.wish E,I.os,I.bare,I.base,I.loc,I.cell,I.free,I.freeC,I.pin,I.hok,I.len,I.tk⟩
theorem z9.unwish(I:z9 (X.wish E) pins σ H s):z9 X pins σ H s:=⟨I.ok.unwish,I.os,I.bare,I.base,I.loc,I.cell,I.free,I.freeC,I.pin,I.hok,I.len,I.tk⟩
theorem SP.unwish{D:ug}{f:Flow}(h:SP (X.wish E) pins D f s'):SP X pins D f s':=by
 cases f with
 |next=>obtain⟨σ',H',I,q⟩:=h;exact⟨σ',H',I.unwish,q⟩
 |brk=>obtain⟨σ',H',I,q⟩:=h;exact⟨σ',H',I.unwish,q⟩
 |cont=>obtain⟨σ',H',I,q⟩:=h;exact⟨σ',H',I.unwish,q⟩
 |ret u=>obtain⟨v,σ',H',I,r,q⟩:=h;exact⟨v,σ',H',I.unwish,r,q⟩
theorem m5.nox{st:List Stmt}{t:TS}(h:m5 X.nox st t):m5 X st t:=fun pins s σ H D I hw=>
 AX (h pins s σ H D (I.wish _) hw) (fun _ _ q=>q.unwish) fun _ _ z=>False.elim z
end
section
variable {rest:List Stmt}{t u:TS}{te:TE} 
def alw:TS:=fun D σ H=>D.nx σ H
def asm(t u:TS):TS:=fun D σ H=>t { D with nx:=u D } σ H
theorem aeh:m5 X [] alw:=fun _ _ σ H _ I h=>wpAny_execs_nil ⟨σ,H,I,h⟩
theorem sF(h1:PS X st t)(h2:m5 X rest u):m5 X (st::rest) (asm t u):=by
 intro pins s σ H D I h;refine wpAny_execs_cons (va (h1 pins s σ H { D with nx:=u D } I h) fun f s1 q=>?_);cases f with
 |next=>
  obtain⟨σ',H',I',q⟩:=q;exact h2 pins s1 σ' H' D I' q
 |ret v=>exact q
 |brk=>exact q
 |cont=>exact q
theorem afq(h1:PS X st t):m5 X [st] t:=by intro pins s σ H D I h;refine wpAny_execs_cons (va (h1 pins s σ H D I h) fun f s1 q=>?_);cases f with|next=>exact wpAny_execs_nil q|ret v=>exact q|brk=>exact q|cont=>exact q
def am3:TS:=fun D σ H=>D.ct σ H
theorem sR:PS X (.Continue pos) am3:=fun _ _ σ H _ I h=>wpAny_Continue ⟨σ,H,I,h⟩
theorem z9.quiet(I:z9 X pins σ H s):interactive X.env=false:=by simp[interactive,I.ok.kind]
def amq(te:TE):TS:=fun D σ H=>te σ H fun _ H1=>D.nx σ H1
theorem aea(he:PE X e te)(hs:swapsWith e none pos.line X.env=pure false:=by rfl):PS X (.Expr e pos) (amq te):=by intro pins s σ H D I h;exact wpAny_Expr_any (va (he pins s σ H _ I h) fun v s1 ⟨x,H1,I1,r1,q1⟩=>⟨σ,H1,I1,q1⟩) I.quiet hs
def aqq(te:TE):TS:=fun D σ H=>te σ H D.rt
theorem aik(he:PE X e te):PS X (.Return (some e) pos) (aqq te):=by intro pins s σ H D I h;exact wpAny_Return_some (va (he pins s σ H _ I h) fun v s1 ⟨x,H1,I1,r1,q1⟩=>⟨x,σ,H1,I1,r1,q1⟩)
def al8:TS:=fun D _ H=>D.rt .non H
theorem af6:PS X (.Return none pos) al8:=fun _ _ σ H _ I h=>wpAny_Return_none ⟨.non,σ,H,I,rfl,h⟩
def aq3(c:TT)(t u:TS):TS:=fun D σ H=>c σ H fun b H1=>if b=true then t D σ H1 else u D σ H1
theorem am4{a b:List Stmt}{tc:TT}(hc:PT X c tc)(ha:m5 X a t)(hb:m5 X b u):PS X (.If c a b pos) (aq3 tc t u):=by intro pins s σ H D I h;refine wpAny_If (va (hc pins s σ H _ I h) fun d s1 ⟨H1,I1,q1⟩=>?_);cases d with|true=>exact ha pins s1 σ H1 D I1 q1|false=>exact hb pins s1 σ H1 D I1 q1
end
abbrev TG:=V->St->Hp->(St->Hp->Prop)->Prop
abbrev TGs:=List V->St->Hp->(St->Hp->Prop)->Prop
def PG(X:Cx)(target:Expr)(t:TG):Prop:=
 ∀(pins:List (Addr×Obj)) (s:Shared) (σ:St) (H:Hp) (v:V) (u:Value) (Q:St->Hp->Prop),z9 X pins σ H s->zw v u->t v σ H Q->
  wpAny (model X.prog X.w) X.A (assign target X.env u) (fun _ s'=>∃σ' H',z9 X pins σ' H' s'/\Q σ' H') X.xe s
def PGs(X:Cx)(ts:List Expr)(t:TGs):Prop:=
 ∀(pins:List (Addr×Obj)) (s:Shared) (σ:St) (H:Hp) (vs:List V) (us:List Value) (Q:St->Hp->Prop),z9 X pins σ H s->zp vs us->t vs σ H Q->
  wpAny (model X.prog X.w) X.A (assignInOrder ((assignEach ts X.env).map (·.2)) us) (fun _ s'=>∃σ' H',z9 X pins σ' H' s'/\Q σ' H') X.xe s
abbrev aj7:=V->V->V->Hp->(Hp->Prop)->Prop
def amn(X:Cx)(t:aj7):Prop:=
 ∀(pins:List (Addr×Obj)) (s:Shared) (σ:St) (H:Hp) (o i v:V) (ov iv u:Value) (Q:Hp->Prop),z9 X pins σ H s->zw o ov->zw i iv->zw v u->t o i v H Q->
  wpAny (model X.prog X.w) X.A (setItem ov iv u) (fun _ s'=>∃H',z9 X pins σ H' s'/\Q H') X.xe s
section
def dg(i:Nat):TG:=fun v σ H Q=>Q (σ.set i (some v)) H
theorem jH(hN:X.N.Nodup)(hi:X.N[i]?=some x)(hx:Loc X.env.scope x)(hf:X.fn x=true\/X.env.scope.names.lookup x=some .local:=by first | exact .inl rfl | exact .inr rfl | assumption):PG X (.Name x pos) (dg i):=by intro pins s σ H v u Q I r h;exact wpAny_assign_Name (ay I hN hi hx r (fun s' I'=>⟨_,H,I',h⟩) hf)
def aiw:TGs:=fun vs σ H Q=>vs=[]/\Q σ H
def rV(t:TG)(u:TGs):TGs:=fun vs σ H Q=>∃v r,vs=v::r/\t v σ H fun σ' H'=>u r σ' H' Q
theorem wV:PGs X [] aiw:=by intro pins s σ H vs us Q I r h;obtain⟨e,h⟩:=h;subst e;cases r;exact assignInOrder_nil ⟨σ,H,I,h⟩
theorem mO{t:TG}{u:TGs}(h1:PG X e t)(h2:PGs X es u)
 (hs:(assignEach (e::es) X.env).map (·.2)=assign e X.env::(assignEach es X.env).map (·.2):=by rfl):PGs X (e::es) (rV t u):=by
 intro pins s σ H vs us Q I r h;obtain⟨v,vr,e1,h⟩:=h;subst e1;cases r with
 |cons r rr=>
  rw[hs];refine assignInOrder_cons (va (h1 pins s σ H _ _ _ I r h) fun _ s1 ⟨σ1,H1,I1,q1⟩=>?_);exact h2 pins s1 σ1 H1 _ _ Q I1 rr q1
def akl(K:Ai)(n:Nat)(t:TGs):TG:=fun v σ H Q=>∃a xs,v=.ref a/\dF K H a xs/\xs.length=n/\t xs σ H Q
theorem ab5{k:Nat}{t:TGs}(hc:X.calm=true)(h:PGs X es t)
 (hn:(assignEach es X.env).length=n:=by rfl) (hst:(assignEach es X.env).findIdx? (·.1)=none:=by rfl):PG X (.Tuple es k pos) (akl X.K n t):=by
 intro pins s σ H v u Q I r hw;obtain⟨a,xs,e1,hq,hl,hw⟩:=hw;subst e1;cases r;obtain⟨its,rv,ht,hz⟩:=I.tuple hq;refine assign_Tuple_tuple (I.ok.hd hc) ht (by simp[hn,<-hl,rv.length]) hst fun h' hx=>?_;have I1:z9 X pins σ H { s with heap:=h' }:=I.kept (t':=s.toks) fun b o e=>hx b o (A3 (Heap.lt_size e)) e;exact h pins _ σ H xs _ Q I1 (by simpa using rv) hw
def asx(to ti:TE)(t:aj7):TG:=fun v σ H Q=>to σ H fun o H1=>ti σ H1 fun i H2=>t o i v H2 fun H3=>Q σ H3
theorem aiv{i:Expr}{to ti:TE}{t:aj7}(ho:PE X o to)(hi:PE X i ti)(hs:amn X t)
 (ha:∀v,assign (.Subscript o i pos) X.env v=(do
  let ov <-holding [v] (eval o X.env)
  let iv <-holding [v,ov] (eval i X.env)
  standAt pos
  holding [v,ov,iv] (setItem ov iv v)
  release [v,ov,iv] []):=by intro _;rfl):PG X (.Subscript o i pos) (asx to ti t):=by
 intro pins s σ H v u Q I r h;rw[ha];refine Aa (A7 (va (ho pins s σ H _ I h) fun ov s1 ⟨x,H1,I1,r1,q1⟩=>?_));refine Aa (A7 (va (hi pins s1 σ H1 _ I1 q1) fun iv s2 ⟨y,H2,I2,r2,q2⟩=>?_));refine Aa (wpAny_standAt (Aa (A7 (va (hs pins s2 σ H2 x y v ov iv u _ I2 r1 r2 r q2) fun _ s3 ⟨H3,I3,q3⟩=>?_))));exact wpAny_release ⟨σ,H3,I3,q3⟩
def ajz(te:TE)(g:TG):TS:=fun D σ H=>te σ H fun x H1=>g x σ H1 D.nx
theorem abv{te:TE}{g:TG}(he:PE X e te)(hg:PG X tg g)(hs:swapsWithSole [tg] e pos.line X.env=pure false:=by rfl)(hw:swappedStores [tg] e X.env=pure none:=by rfl)
 (h1:(assignEach [tg] X.env).map (·.2)=[assign tg X.env]:=by rfl):PS X (.Assign [tg] e pos) (ajz te g):=by
 intro pins s σ H D I h;refine wpAny_Assign_stores (va (he pins s σ H _ I h) fun v s1 ⟨x,H1,I1,r1,q1⟩=>?_) hs hw;rw[h1];exact va (hg pins s1 σ H1 x v _ I1 r1 q1) fun _ s2 q=>q
theorem ak9{te:TE}(hN:X.N.Nodup)(hi:X.N[i]?=some x)(hx:Loc X.env.scope x)(he:PE X e te)(hs:swapsWith e (some (.Name x pos')) pos.line X.env=pure false:=by rfl)(hf:X.fn x=true\/X.env.scope.names.lookup x=some .local:=by first | exact .inl rfl | exact .inr rfl | assumption):
 PS X (.Assign [.Name x pos'] e pos) (ajz te (dg i)):=by
 intro pins s σ H D I h;refine wpAny_Assign_Name (va (he pins s σ H _ I h) fun v s1 ⟨y,H1,I1,r1,q1⟩=>?_) hs;exact ay I1 hN hi hx r1 (fun s2 I2=>⟨_,H1,I2,q1⟩) hf
def aqe(i j:Nat)(ta:TA):TS:=fun D σ H=>ta σ H fun vs H1=>∃v w,vs=[v,w]/\D.nx ((σ.set i (some v)).set j (some w)) H1
theorem ak2{y:Str}{a b:Expr}{ta:TA}{px pt:Pos}{kt k2 pt2}(hc:X.calm=true)(hN:X.N.Nodup)(hi:X.N[i]?=some x)(hj:X.N[j]?=some y)(hij:i≠j)
 (hx:X.env.scope.names.lookup x=some .local) (hy:X.env.scope.names.lookup y=some .local) (ha:PA X [a,b] ta)
 (hw:swappedStores [.Tuple [.Name x px,.Name y py] kt pt] (.Tuple [a,b] k2 pt2) X.env=pure (some [x,y]))
 (hs:swapsWithSole [.Tuple [.Name x px,.Name y py] kt pt] (.Tuple [a,b] k2 pt2) pos.line X.env=pure false:=by rfl):
 PS X (.Assign [.Tuple [.Name x px,.Name y py] kt pt] (.Tuple [a,b] k2 pt2) pos) (aqe i j ta):=by
 intro pins s σ H D I h;rw[exec_Assign_arm];refine Aa (wpAny_standAt ?_);rw[hs];refine Aa (Ag ?_);rw[Ay (by decide)];refine Aa (Tuple_ (va (ha _ pins s σ H _ I h) fun us s1 ⟨vs,H1,I1,r1,q1⟩=>?_));obtain⟨v,w,e1,q1⟩:=q1;subst e1;obtain⟨u1,u2,rfl,rv,rw'⟩:∃u1 u2,us=[u1,u2]/\zw v u1/\zw w u2:=by
  cases r1 with
  |cons p q=>
   cases q with
   |cons p' q'=>
    cases q';exact⟨_,_,rfl,p,p'⟩
 refine Bk ?_ (by show 2≤sizeLine;decide);have I2:z9 X pins σ H1 { s1 with heap:=s1.heap.push { cls:=.type "tuple",data:=.seq [u1,u2].toArray } }:=I1.kept (t':=s1.toks) fun b o e=>Heap.get?_push_of_some _ e;rw[hw];refine Aa (Ag ?_);show wpAny (model X.prog X.w) X.A (do rule "assign.swapped-stores";let items <-unpackItems (.ref s1.heap.objs.size) 2 none;assignInOrder [fun v=>bindName X.env y v,fun v=>bindName X.env x v] items.reverse;pure Flow.next) _ _ _;refine Aa (Bt (Aa (unpackItems_tuple (items:=#[u1,u2]) (I.ok.hd hc) (IsTup.new s1.heap _) fun h' hx'=>?_)));have I3:=I2.kept (h':=h') (t':=s1.toks) fun b o e=>hx' b o (A3 (Heap.lt_size e)) e;show wpAny _ _ (assignInOrder [fun v=>bindName X.env y v,fun v=>bindName X.env x v] [u2,u1] >>= fun _=>pure Flow.next) _ _ _;refine Aa (assignInOrder_cons (wpAny_bindName (ay I3 hN hj (.inl hy) rw' (fun s2 I4=>?_) (.inr hy))));refine assignInOrder_cons (wpAny_bindName (ay I4 hN hi (.inl hx) rv (fun s3 I5=>assignInOrder_nil (Ag ?_)) (.inr hx)));rw[DL _ _ (AN hij)] at I5;exact⟨_,H1,I5,q1⟩
end
section
def ahw(c:TT)(tb:TS):TS:=fun D σ H=>∃W:Nat->St->Hp->Prop,(∃m,W m σ H)/\∀m σ H,W m σ H->
 c σ H fun b H1=>if b=true then ∃N:St->Hp->Prop,(∀σ' H',N σ' H'->∃m',m'<m/\W m' σ' H')/\tb { D with nx:=N,ct:=N,bk:=D.nx } σ H1 else D.nx σ H1
theorem abc{tc:TT}{tb:TS}(hp:PassesOwn (model X.prog X.w) X.A X.env X.xe)(hc:PT X c tc)(hb:m5 X body tb):PS X (.While c body [] pos) (ahw tc tb):=by
 intro pins s σ H D I h;obtain⟨W,⟨m0,w0⟩,turn⟩:=h;refine wpAny_While (codeAny_whileLoop (fun n s'=>∃σ' H',z9 X pins σ' H' s'/\W n σ' H') ?_ m0 ⟨σ,H,I,w0⟩);rintro n s1 ⟨σ1,H1,I1,w1⟩;refine wpAny_passesOwn hp (va (hc pins s1 σ1 H1 _ I1 (turn n σ1 H1 w1)) fun b s2 ⟨H2,I2,q2⟩=>?_);cases b with
 |true=>
  obtain⟨N,hN,q2⟩:=q2;rw[AD rfl];refine wpAny_passesOwn hp (va (hb pins s2 σ1 H2 _ I2 q2) fun f s3 q3=>?_);cases f with
  |next=>
   obtain⟨σ3,H3,I3,n3⟩:=q3;obtain⟨m',hm,w3⟩:=hN σ3 H3 n3;exact⟨m',hm,σ3,H3,I3,w3⟩
  |cont=>
   obtain⟨σ3,H3,I3,n3⟩:=q3;obtain⟨m',hm,w3⟩:=hN σ3 H3 n3;exact⟨m',hm,σ3,H3,I3,w3⟩
  |brk=>exact q3
  |ret v=>exact q3
 |false=>
  rw[Ay AE];exact wpAny_execs_nil ⟨σ1,H2,I2,q2⟩
end
structure It where
 go:Nat->Hp->Prop
 yld:Nat->Hp->V->Hp->Prop
 stop:Nat->Hp->Prop
def mR(X:Cx)(pins:List (Addr×Obj))(H:Hp)(b:Addr):Prop:=
 H b=none/\b≠X.env.locals/\b∉X.fs/\(b∈X.ex\/X.s₀.heap.objs.size≤b)/\(∀x c,X.env.cells.lookup x=some c->c≠b)/\∀p∈X.pn++pins,p.1≠b
theorem z9.fpOk{b:Addr}(I:z9 X pins σ H s)(hb:s.heap.objs.size≤b)(hn:H' b=none):mR X pins H' b:=by
 refine⟨hn,C2 (AO I.lt hb),I.nofs hb,.inr (AS I.sz hb),fun x c e z=>?_,fun p hp z=>?_⟩
 ·obtain⟨v,q⟩:=I.cell x c e;exact absurd (AO q.lt (by rw[z];exact hb)) (Do _)
 ·exact absurd (AO (Heap.lt_size (I.pin p hp).1) (by rw[z];exact hb)) (Do _)
structure yb(P:Program)(w:World)(K:Ai)(tg:Expr)(J:It)(fp:List Addr)(it:Addr)(tn:Nat->Heap->Prop):Prop where
 mem:it∈fp
 obj:∀i h,tn i h->∀b∈fp,∃o,h.get? b=some o/\∀v,o.data≠.cell v
 keep:∀i h h',tn i h->(∀b∈fp,∀o,h.get? b=some o->h'.get? b=some o)->tn i h'
 item:∀(X:Cx),X.prog=P->X.w=w->X.K=K->X.calm=true->∀(i:Nat) (pins:List (Addr×Obj)) (s:Shared) (σ:St) (H:Hp) (E:Value->Shared->Prop),z9 X pins σ H s->(∀b∈fp,mR X pins H b)->tn i s.heap->J.go i H->
  wpAny (model P w) X.A (pyNext (.ref it)) (fun r s1=>∃u,r=some u/\
   wpAny (model P w) X.A (letOwnedTupleGo tg (.ref it) u) (fun _ s2=>∃x H',z9 X pins σ H' s2/\zw x u/\J.yld i H x H'/\tn (i+1) s2.heap/\∀b∈fp,H' b=none) E s1) E s
 done:∀(X:Cx),X.prog=P->X.w=w->X.K=K->X.calm=true->∀(i:Nat) (pins:List (Addr×Obj)) (s:Shared) (σ:St) (H:Hp) (E:Value->Shared->Prop),z9 X pins σ H s->(∀b∈fp,mR X pins H b)->tn i s.heap->J.stop i H->
  wpAny (model P w) X.A (pyNext (.ref it)) (fun r s1=>r=none/\z9 X pins σ H s1) E s
 self:∀(A:Around) (i:Nat) (s:Shared) (Q:Value->Shared->Prop) (E:Value->Shared->Prop),tn i s.heap->Q (.ref it) s->wpAny (model P w) A (pyIter (.ref it)) Q E s
abbrev TI:=St->Hp->(It->Hp->Prop)->Prop
def PIE(X:Cx)(pins:List (Addr×Obj))(σ:St)(tg:Expr)(R:It->Hp->Prop)(itv:Value)(s2:Shared):Prop:=
 ∃(it:Addr) (fp:List Addr) (tn:Nat->Heap->Prop) (J:It) (H':Hp),itv=.ref it/\z9 X pins σ H' s2/\yb X.prog X.w X.K tg J fp it tn/\tn 0 s2.heap/\(∀b∈fp,mR X pins H' b)/\R J H'
def PI(X:Cx)(tg iter:Expr)(wi:TI):Prop:=
 ∀(pins:List (Addr×Obj)) (s:Shared) (σ:St) (H:Hp) (R:It->Hp->Prop),z9 X pins σ H s->wi σ H R->
  wpAny (model X.prog X.w) X.A (eval iter X.env) (fun v s1=>wpAny (model X.prog X.w) X.A (pyIter v) (PIE X pins σ tg R) X.xe s1) X.xe s
theorem acw{o:Obj}{n:String}{vs:Array Value}{Q:Unit->Shared->Prop}(ho:s.heap.get? it=some o)(hc:o.cls=.type n)(hd:o.data=.fields vs)
 (hn:["enumerate", "zip", "dict_itemiterator", "dict_reverseitemiterator", "odict_iterator", "itertools.zip_longest", "itertools.pairwise"].contains n=false) (hQ:Q () s):wpAny M A (letOwnedTupleGo tg (.ref it) u) Q E s:=by
 unfold letOwnedTupleGo;cases tg<;>first
  |exact Ag hQ
  |(cases u<;>first
   |exact Ag hQ
   |(refine Aa (wpAny_load ho ?_)
     rw[hc,hd];show wpAny M A (if (["enumerate", "zip", "dict_itemiterator", "dict_reverseitemiterator", "odict_iterator", "itertools.zip_longest", "itertools.pairwise"].contains n&&vs[0]?==some (rawInt _))=true then _ else _) Q E s;rw[Ay (by intro h;rw[hn,Bool.false_and] at h;cases h)];exact Ag hQ))
def Itl(K:Ai)(a:Addr):It:=
 ⟨fun i H=>∃xs x,aE K H a xs/\xs[i]?=some x,fun i H x H'=>H'=H/\∀xs,aE K H a xs->xs[i]?=some x,fun i H=>∃xs,aE K H a xs/\xs.length≤i⟩
def Itt(K:Ai)(a:Addr):It:=
 ⟨fun i H=>∃xs x,dF K H a xs/\xs[i]?=some x,fun i H x H'=>H'=H/\∀xs,dF K H a xs->xs[i]?=some x,fun i H=>∃xs,dF K H a xs/\xs.length≤i⟩
def Itr(lo:Int)(n:Nat):It:=⟨fun i _=>i<n,fun i H x H'=>H'=H/\x=.int (lo+i),fun i _=>n≤i⟩
theorem yT{P:Program}{w:World}{K:Ai}(a it:Addr):yb P w K tg (Itl K a) [it] it (fun i h=>h.IsListIter it a i) where
 mem:=by simp
 obj:=fun i h st b hb=>by
  have e:b=it:=by simpa using hb
  subst e;obtain⟨o,e,c,d⟩:=st;exact⟨o,e,fun v z=>by rw[d] at z;cases z⟩
 keep:=fun i h h' st k=>st.at fun o e=>k it (by simp) o e
 item:=by intro X hP hw hK hc i pins s σ H E I hf st hg;subst hP hw hK;obtain⟨xs,x,hq,hx⟩:=hg;obtain⟨its,rv,p,hz⟩:=I.list hq;obtain⟨u,hu,ru⟩:=rv.get hx;obtain⟨f0,f1,f2,f3,f4,f5⟩:=hf it (by simp);refine wpAny_pyNext_list_item st p.isList (x:=u) (by simpa using hu) fun h' st' sb=>?_;have I1:z9 X pins σ H { s with heap:=h' }:=I.turned (t':=s.toks) (fun b o hb e=>(sb.2 b hb).trans e) f0 f1 f3 f4 f5;obtain⟨o,e,c,d⟩:=id st';exact⟨u,rfl,acw (s:={ s with heap:=h' }) e c d (by decide) ⟨x,H,I1,ru,⟨rfl,fun ys hy=>by rw[I.list_inj hy hq];exact hx⟩,st',fun b hb=>(hf b hb).1⟩⟩
 done:=by intro X hP hw hK hc i pins s σ H E I hf st hg;subst hP hw hK;obtain⟨xs,hq,hx⟩:=hg;obtain⟨its,rv,p,hz⟩:=I.list hq;obtain⟨f0,f1,f2,f3,f4,f5⟩:=hf it (by simp);have hl:=rv.length;exact wpAny_pyNext_list_end (I.ok.hd hc) st p.isList (by simp;omega) fun h' eb=>⟨rfl,I.turned (t':=s.toks) (fun b o hb e=>eb b o hb e) f0 f1 f3 f4 f5⟩
 self:=fun _ _ _ _ _ st h=>wpAny_pyIter_listiter st h
theorem ue{P:Program}{w:World}{K:Ai}(a it:Addr):yb P w K tg (Itt K a) [it] it (fun i h=>h.IsTupleIter it a i) where
 mem:=by simp
 obj:=fun i h st b hb=>by
  have e:b=it:=by simpa using hb
  subst e;obtain⟨o,e,c,d⟩:=st;exact⟨o,e,fun v z=>by rw[d] at z;cases z⟩
 keep:=fun i h h' st k=>st.at fun o e=>k it (by simp) o e
 item:=by intro X hP hw hK hc i pins s σ H E I hf st hg;subst hP hw hK;obtain⟨xs,x,hq,hx⟩:=hg;obtain⟨its,rv,p,hz⟩:=I.tuple hq;obtain⟨u,hu,ru⟩:=rv.get hx;obtain⟨f0,f1,f2,f3,f4,f5⟩:=hf it (by simp);refine wpAny_pyNext_tuple_item st (show s.heap.IsTuple a its.toArray from p) (x:=u) (by simpa using hu) fun h' st' sb=>?_;have I1:z9 X pins σ H { s with heap:=h' }:=I.turned (t':=s.toks) (fun b o hb e=>(sb.2 b hb).trans e) f0 f1 f3 f4 f5;obtain⟨o,e,c,d⟩:=id st';exact⟨u,rfl,acw (s:={ s with heap:=h' }) e c d (by decide) ⟨x,H,I1,ru,⟨rfl,fun ys hy=>by rw[I.tuple_inj hy hq];exact hx⟩,st',fun b hb=>(hf b hb).1⟩⟩
 done:=by intro X hP hw hK hc i pins s σ H E I hf st hg;subst hP hw hK;obtain⟨xs,hq,hx⟩:=hg;obtain⟨its,rv,p,hz⟩:=I.tuple hq;obtain⟨f0,f1,f2,f3,f4,f5⟩:=hf it (by simp);have hl:=rv.length;exact wpAny_pyNext_tuple_end (I.ok.hd hc) st (show s.heap.IsTuple a its.toArray from p) (by simp;omega) fun h' eb=>⟨rfl,I.turned (t':=s.toks) (fun b o hb e=>eb b o hb e) f0 f1 f3 f4 f5⟩
 self:=fun _ _ _ _ _ st h=>wpAny_pyIter_tupleiter st h
theorem uE{P:Program}{w:World}{K:Ai}(it:Addr)(lo:Int)(n:Nat):yb P w K tg (Itr lo n) [it] it (fun i h=>IsRangeIter h it (lo+(i:Nat)*1) ((n:Int) - (i:Nat)) 1) where
 mem:=by simp
 obj:=fun i h st b hb=>by
  have e:b=it:=by simpa using hb
  subst e;exact⟨_,st,fun v z=>by have z':Data.fields _=Data.cell v:=z;cases z'⟩
 keep:=fun i h h' st k=>k it (by simp) _ st
 item:=by intro X hP hw hK hc i pins s σ H E I hf st hg;subst hP hw hK;obtain⟨f0,f1,f2,f3,f4,f5⟩:=hf it (by simp);have W:=Walks.range (prog:=X.prog) (w:=X.w) (I.ok.hd hc) it lo 1 n;refine ji I.tk (W.item i s _ _ hg st fun v h' tk hv st' kk ht=>?_);obtain⟨t,rfl⟩:=hv;have I1:z9 X pins σ H { s with heap:=h',toks:=tk }:=I.turned (fun b o hb e=>kk b o (by simpa using hb) e) f0 f1 f3 f4 f5;refine⟨_,rfl,acw (s:={ s with heap:=h',toks:=tk }) (n:="range_iterator") st' rfl rfl (by decide) ⟨.int (lo+i),H,I1,⟨t,?_⟩,⟨rfl,rfl⟩,st',fun b hb=>(hf b hb).1⟩⟩;rw[Int.mul_one]
 done:=by intro X hP hw hK hc i pins s σ H E I hf st hg;subst hP hw hK;obtain⟨f0,f1,f2,f3,f4,f5⟩:=hf it (by simp);exact wpAny_pyNext_range_end (I.ok.hd hc) st (by have:n≤i:=hg;omega) fun h' eb=>⟨rfl,I.turned (t':=s.toks) (fun b o hb e=>eb b o hb e) f0 f1 f3 f4 f5⟩
 self:=fun _ _ _ _ _ st h=>wpAny_pyIter_rangeiter st h
end L2
variable {wi:L2.TI}
namespace L2
open PySem PySem.Spec PyProof.Rows
section
def am2(K:Ai)(tl:TE):TI:=fun σ H R=>tl σ H fun x H1=>∃a,x=.ref a/\(∃xs,aE K H1 a xs)/\R (Itl K a) H1
def are(K:Ai)(tl:TE):TI:=fun σ H R=>tl σ H fun x H1=>∃a,x=.ref a/\(∃xs,dF K H1 a xs)/\R (Itt K a) H1
theorem adj{l:Expr}{tl:TE}(hl:PE X l tl):PI X tg l (am2 X.K tl):=by
 intro pins s σ H R I h;refine va (hl pins s σ H _ I h) fun v s1 ⟨x,H1,I1,r1,q1⟩=>?_;obtain⟨a,e,⟨xs,hq⟩,q⟩:=q1;subst e;cases r1;obtain⟨its,rv,p,hz⟩:=I1.list hq;refine wpAny_pyIter_list p.isList ?_;refine⟨s1.heap.objs.size,[s1.heap.objs.size],_,_,H1,rfl,I1.kept (t':=s1.toks) fun b o e=>Heap.get?_push_of_some _ e,yT a _,⟨_,Heap.get?_push_size _ rfl,rfl,rfl⟩,fun b hb=>?_,q⟩;have e:b=s1.heap.objs.size:=by simpa using hb
 subst e;exact I1.fpOk (Ao _) (I1.hok.fresh (Ao _))
theorem ai1{l:Expr}{tl:TE}(hl:PE X l tl):PI X tg l (are X.K tl):=by
 intro pins s σ H R I h;refine va (hl pins s σ H _ I h) fun v s1 ⟨x,H1,I1,r1,q1⟩=>?_;obtain⟨a,e,⟨xs,hq⟩,q⟩:=q1;subst e;cases r1;obtain⟨its,rv,p,hz⟩:=I1.tuple hq;refine wpAny_pyIter_tuple (show s1.heap.IsTuple a its.toArray from p) ?_;refine⟨s1.heap.objs.size,[s1.heap.objs.size],_,_,H1,rfl,I1.kept (t':=s1.toks) fun b o e=>Heap.get?_push_of_some _ e,ue a _,⟨_,Heap.get?_push_size _ rfl,rfl,rfl⟩,fun b hb=>?_,q⟩;have e:b=s1.heap.objs.size:=by simpa using hb
 subst e;exact I1.fpOk (Ao _) (I1.hok.fresh (Ao _))
theorem acg{R:It->Hp->Prop}{hi:Int}{t u v:Tok}{tk:Nat}(I:z9 X pins σ H s)(h1 : -(2 ^ 62)≤lo)(h2:lo<2 ^ 62)(h3 : -(2 ^ 62)≤hi)(h4:hi<2 ^ 62)
 (q:R (Itr lo (hi - lo).toNat) H) (ht:0<tk:=by walk_at "t"):wpAny (model X.prog X.w) X.A (pyIter (.ref s.heap.objs.size)) (PIE X pins σ tg R) E { s with heap:=s.heap.push { cls:=.type "range",data:=.fields #[.int lo t,.int hi u,.int 1 v] },toks:=tk }:=by
 refine wpAny_pyIter_range (IsRange.new ..) (small_one h1 h2 h3 h4) ?_;have I1:z9 X pins σ H { s with heap:=s.heap.push { cls:=.type "range",data:=.fields #[.int lo t,.int hi u,.int 1 v] },toks:=tk }:=I.kept fun b o e=>Heap.get?_push_of_some _ e;refine⟨(s.heap.push { cls:=.type "range",data:=.fields #[.int lo t,.int hi u,.int 1 v] }).objs.size,[(s.heap.push { cls:=.type "range",data:=.fields #[.int lo t,.int hi u,.int 1 v] }).objs.size],_,_,H,rfl,
  I1.kept (t':=tk) fun b o e=>Heap.get?_push_of_some _ e,uE _ lo (hi - lo).toNat,?_,fun b hb=>?_,q⟩
 ·have e1:lo+((0:Nat):Int)*1=lo:=by simp
  have e2:(((hi - lo).toNat:Nat):Int) - ((0:Nat):Int)=Builtin.Range.rangeSize lo hi 1:=by rw[rangeSize_one];split<;>omega
  show IsRangeIter _ _ (lo+((0:Nat):Int)*1) ((((hi - lo).toNat:Nat):Int) - ((0:Nat):Int)) 1;rw[e1,e2];exact Heap.get?_push_size _ rfl
 ·have e:b=(s.heap.push { cls:=.type "range",data:=.fields #[.int lo t,.int hi u,.int 1 v] }).objs.size:=by simpa using hb
  subst e;exact I1.fpOk (Ao _) (I1.hok.fresh (Ao _))
def aln(ta:TA):TI:=fun σ H R=>ta σ H fun vs H1=>∃j:Int,vs=[.int j] /\ -(2 ^ 62)≤j/\j<2 ^ 62/\R (Itr 0 j.toNat) H1
theorem zE{a:Expr}{ta:TA}(hg:Gl X "range")(hm:X.mg "range" = none)(ha:PA X [a] ta)(hs:starEach [a] X.env=[(false,eval a X.env)]:=by rfl):PI X tg (.Call (.Name "range" p) [a] [] pos) (aln ta):=by
 intro pins s σ H R I h;refine Call_ (cY I hg hm boot_range (BY (va (ha pos pins s σ H _ I h) fun us s1 ⟨vs,H1,I1,r1,q1⟩=>?_) hs rfl));obtain⟨j,e,q1,q2,q⟩:=q1;subst e;cases r1 with
 |cons r rr=>
  cases rr;obtain⟨t,rfl⟩:=r;exact call_range_1 (acg I1 (by omega) (by omega) q1 q2 (by simpa using q))
def aqa(wi:TI)(g:TG)(tb:TS):TS:=fun D σ H=>wi σ H fun J H1=>∃W:Nat->Nat->St->Hp->Prop,(∃m,W 0 m σ H1)/\∀i m σ H,W i m σ H->
 (J.stop i H/\D.nx σ H)\/(J.go i H/\∃N:St->Hp->Prop,(∀σ' H',N σ' H'->∃m',m'<m/\W (i+1) m' σ' H')/\∀x H',J.yld i H x H'->g x σ H' fun σ2 H2=>tb { D with nx:=N,ct:=N,bk:=D.nx } σ2 H2)
def lV(fp:List Addr)(h:Heap):List (Addr×Obj):=fp.filterMap fun b=>(h.get? b).map fun o=>(b,o)
theorem cf{b:Addr}{o:Obj}(hb:b∈fp)(e:h.get? b=some o):(b,o)∈lV fp h:=List.mem_filterMap.mpr ⟨b,hb,by rw[e];rfl⟩
theorem zK{p:Addr×Obj}(hp:p∈lV fp h):p.1∈fp/\h.get? p.1=some p.2:=by
 obtain⟨b,hb,e⟩:=List.mem_filterMap.mp hp;cases q:h.get? b with
 |none=>rw[q] at e;cases e
 |some o=>
  rw[q] at e;have e':(b,o)=p:=Be e;subst e';exact⟨hb,q⟩
theorem z9.pinned(I:z9 X pins σ H s)(hf:∀b∈fp,mR X pins H b)(ho:∀b∈fp,∃o,s.heap.get? b=some o/\∀v,o.data≠.cell v):z9 X (pins++lV fp s.heap) σ H s:=
 I.pins_of fun p hp=>(Ak.mp hp).elim (fun z=>I.pin p (Af _ z)) fun z=>by obtain⟨hb,e⟩:=zK z;obtain⟨f0,f1,f2,_⟩:=hf p.1 hb;obtain⟨o,e',d⟩:=ho p.1 hb;rw[e] at e';cases e';exact⟨e,f0,f1,f2,d⟩
theorem z9.unpinned{pl:List (Addr×Obj)}(I:z9 X (pins++pl) σ H s):z9 X pins σ H s:=I.pins_of fun p hp=>I.pin p (Af _ (Ar _ hp))
theorem aic{iter:Expr}{g:TG}{tb:TS}(hp:PassesOwn (model X.prog X.w) X.A X.env X.xe)(hc:X.calm=true)(hi:PI X tg iter wi)(hg:PG X tg g)(hb:m5 X body tb)
 (hs:∀x,foldedSetIterable iter X.env x=pure x:=by intro _;rfl):PS X (.For tg iter body [] pos) (aqa wi g tb):=by
 intro pins s σ H D I h;refine wpAny_For (va (hi pins s σ H _ I h) fun v s1 h1=>va h1 fun itv s2 h2=>?_) hs;obtain⟨it,fp,tn,J,H2,e,I2,T,tJ,f2,W,⟨m0,w0⟩,turn⟩:=h2;subst e;have stat:∀{H':Hp},(∀b∈fp,H' b=none)->∀b∈fp,mR X pins H' b:=fun hn b hb=>⟨hn b hb,(f2 b hb).2⟩;refine codeAny_forLoop_any (fun n s'=>∃i σ' H',z9 X pins σ' H' s'/\tn i s'.heap/\(∀b∈fp,H' b=none)/\W i n σ' H') ?_ m0 ⟨0,σ,H2,I2,tJ,fun b hb=>(f2 b hb).1,w0⟩;rintro n s3 ⟨i,σ3,H3,I3,dI,fr3,w3⟩;rcases turn i n σ3 H3 w3 with⟨stop,qn⟩ | ⟨go,N,hN,step⟩
 ·refine wpAny_passesOwn hp (va (T.done X rfl rfl rfl hc i pins s3 σ3 H3 X.xe I3 (stat fr3) dI stop) fun r s4 ⟨hr,I4⟩=>?_);subst hr;exact wpAny_execs_nil ⟨σ3,H3,I4,qn⟩
 ·refine wpAny_passesOwn hp (va (T.item X rfl rfl rfl hc i pins s3 σ3 H3 X.xe I3 (stat fr3) dI go) fun r s4 ⟨u,hr,h4⟩=>?_);subst hr;refine wpAny_passesOwn hp (va h4 fun _ s5 ⟨x,H5,I5,r5,y5,st5,fr5⟩=>?_);have I5':=I5.pinned (stat fr5) (T.obj _ _ st5);refine wpAny_passesOwn hp (va (hg _ s5 σ3 H5 x u _ I5' r5 (step x H5 y5)) fun _ s6 ⟨σ6,H6,I6,q6⟩=>?_);refine wpAny_passesOwn hp (va (hb _ s6 σ6 H6 _ I6 q6) fun f s7 q7=>?_);have again:∀{σ7:St} {H7:Hp},z9 X (pins++lV fp s5.heap) σ7 H7 s7->N σ7 H7->∃m,m<n/\∃i σ' H',z9 X pins σ' H' s7/\tn i s7.heap/\(∀b∈fp,H' b=none)/\W i m σ' H':=fun {σ7 H7} I7 n7=>by obtain⟨m',hm,w7⟩:=hN σ7 H7 n7;refine⟨m',hm,i+1,σ7,H7,I7.unpinned,T.keep _ _ _ st5 fun b hb o e=>(I7.pin (b,o) (Af _ (Af _ (cf hb e)))).1,fun b hb=>?_,w7⟩;obtain⟨o,e,d⟩:=T.obj _ _ st5 b hb;exact(I7.pin (b,o) (Af _ (Af _ (cf hb e)))).2.1
  cases f with
  |next=>obtain⟨σ7,H7,I7,n7⟩:=q7;exact again I7 n7
  |cont=>obtain⟨σ7,H7,I7,n7⟩:=q7;exact again I7 n7
  |brk=>obtain⟨σ7,H7,I7,q7⟩:=q7;exact⟨σ7,H7,I7.unpinned,q7⟩
  |ret v=>obtain⟨x7,σ7,H7,I7,r7,q7⟩:=q7;exact⟨x7,σ7,H7,I7.unpinned,r7,q7⟩
end
abbrev R2:=V->V->Hp->VK->Prop
def wb(X:Cx)(f:Value->Value->Sem Value)(r:R2):Prop:=
 ∀(pins:List (Addr×Obj)) (s:Shared) (σ:St) (H:Hp) (x y:V) (v u:Value) (Q:VK),z9 X pins σ H s->zw x v->zw y u->r x y H Q->
  wpAny (model X.prog X.w) X.A (f v u) (EP X pins σ Q) X.xe s
def jq(X:Cx)(f:Value)(r:List V->Hp->VK->Prop):Prop:=
 ∀(pins:List (Addr×Obj)) (s:Shared) (σ:St) (H:Hp) (xs:List V) (us:List Value) (Q:VK),z9 X pins σ H s->zp xs us->r xs H Q->
  wpAny (model X.prog X.w) X.A (call f us) (EP X pins σ Q) X.xe s
def tOp(r:R2)(ta tb:TE):TE:=fun σ H Q=>ta σ H fun x H1=>tb σ H1 fun y H2=>r x y H2 Q
def rI(C:Int->Int->Prop)(g:Int->Int->V):R2:=fun x y H Q=>∃i j,x=.int i/\y=.int j/\C i j/\Q (g i j) H
def rI0(g:Int->Int->V):R2:=fun x y H Q=>∃i j,x=.int i/\y=.int j/\Q (g i j) H
section
variable {a b:Expr}{ta tb tc:TE} 
theorem ahp(ha:PE X a ta)(hb:PE X b tb){R:V->V->Hp->Prop}(I:z9 X pins σ H s)
 (h:ta σ H fun x H1=>tb σ H1 fun y H2=>R x y H2) {f:Value->Value->Sem Value}
 (hf:∀v u s2 x y H2,z9 X pins σ H2 s2->zw x v->zw y u->R x y H2->wpAny (model X.prog X.w) X.A (f v u) Q X.xe s2):
 wpAny (model X.prog X.w) X.A (eval a X.env) (fun v s₁=>wpAny (model X.prog X.w) X.A (eval b X.env) (fun u s₂=>wpAny (model X.prog X.w) X.A (f v u) Q X.xe s₂) X.xe s₁) X.xe s:=by
 refine va (ha pins s σ H _ I h) fun v s1 ⟨x,H1,I1,r1,q1⟩=>?_;refine va (hb pins s1 σ H1 _ I1 q1) fun u s2 ⟨y,H2,I2,r2,q2⟩=>?_;exact hf v u s2 x y H2 I2 r1 r2 q2
theorem am0{op:Operator}{r:R2}(ho:wb X (binaryOp op) r)(ha:PE X a ta)(hb:PE X b tb):PE X (.BinOp a op b pos) (tOp r ta tb):=by intro pins s σ H Q I h;exact wpAny_BinOp (ahp ha hb I h fun v u s2 x y H2 I2 rx ry q=>ho pins s2 σ H2 x y v u Q I2 rx ry q)
theorem opI{f:Value->Value->Sem Value}{C:Int->Int->Prop}{g:Int->Int->Int}
 (rule:∀(i j:Int) (t u:Tok) (s:Shared) (Q:Value->Shared->Prop) (E:Value->Shared->Prop),C i j->Q (.int (g i j) s.toks) { s with toks:=s.toks+1 }->wpAny (model X.prog X.w) X.A (f (.int i t) (.int j u)) Q E s):
 wb X f (rI C fun i j=>.int (g i j)):=by
 intro pins s σ H x y v u Q I rx ry h;obtain⟨i,j,rfl,rfl,hc,q⟩:=h;obtain⟨t,rfl⟩:=rx;obtain⟨t',rfl⟩:=ry;exact rule i j t t' s _ _ hc ⟨.int (g i j),H,I.tok _,⟨_,rfl⟩,q⟩
theorem am1{f:Value->Value->Sem Value}{g:Int->Int->Int}
 (rule:∀(i j:Int) (t u:Tok) (s:Shared) (Q:Value->Shared->Prop) (E:Value->Shared->Prop),Q (.int (g i j) s.toks) { s with toks:=s.toks+1 }->wpAny (model X.prog X.w) X.A (f (.int i t) (.int j u)) Q E s):
 wb X f (rI0 fun i j=>.int (g i j)):=by
 intro pins s σ H x y v u Q I rx ry h;obtain⟨i,j,rfl,rfl,q⟩:=h;obtain⟨t,rfl⟩:=rx;obtain⟨t',rfl⟩:=ry;exact rule i j t t' s _ _ ⟨.int (g i j),H,I.tok _,⟨_,rfl⟩,q⟩
theorem ai3{f:Value->Value->Sem Value}{g:Int->Int->Bool}
 (rule:∀(i j:Int) (t u:Tok) (s:Shared) (Q:Value->Shared->Prop) (E:Value->Shared->Prop),Q (.bool (g i j)) s->wpAny (model X.prog X.w) X.A (f (.int i t) (.int j u)) Q E s):
 wb X f (rI0 fun i j=>.bl (g i j)):=by
 intro pins s σ H x y v u Q I rx ry h;obtain⟨i,j,rfl,rfl,q⟩:=h;obtain⟨t,rfl⟩:=rx;obtain⟨t',rfl⟩:=ry;exact rule i j t t' s _ _ ⟨.bl (g i j),H,I,rfl,q⟩
def aji(i j:Int):Prop:=0<j/\j<1073741824
def ahd(i j:Int):Prop:=0≤j/\j≤1000000/\i.natAbs<2 ^ 64
def acm(i j:Int):Prop:=(-(2 ^ 64)<i/\i<2 ^ 64)\/(-(2 ^ 64)<j/\j<2 ^ 64)
theorem acm.ok{i j:Int}(h:acm i j):IntMulOk i j:=by
 rcases h with⟨h1,h2⟩ | ⟨h1,h2⟩
 ·exact .of_left (intBits_le_64 h1 h2)
 ·exact .of_right (intBits_le_64 h1 h2)
theorem ahj:wb X (binaryOp .Add) (rI0 fun i j=>.int (i+j)):=am1 fun _ _ _ _ _ _ _ q=>add_int q
theorem ajk:wb X (binaryOp .Sub) (rI0 fun i j=>.int (i - j)):=am1 fun _ _ _ _ _ _ _ q=>sub_int q
theorem ak0:wb X (binaryOp .Mult) (rI acm fun i j=>.int (i*j)):=opI fun _ _ _ _ _ _ _ hc q=>mul_int q hc.ok
theorem ael:wb X (binaryOp .FloorDiv) (rI aji fun i j=>.int (i / j)):=opI fun i j _ _ _ _ _ hc q=>by have h1:(0:Int)<j:=hc.1;have h2:j<1073741824:=hc.2;exact floordiv_int (by omega) (by rw[Int.fdiv_eq_ediv_of_nonneg i (by omega)];exact q) (.inl (PyProof.noPylong_small (by omega)))
theorem akd:wb X (binaryOp .Mod) (rI (fun _ j=>0<j) fun i j=>.int (i % j)):=opI fun i j _ _ _ _ _ hc q=>by have h1:(0:Int)<j:=hc;exact mod_int' (by omega) (by rw[Int.fmod_eq_emod_of_nonneg i (by omega)];exact q)
theorem aj3:wb X (binaryOp .Pow) (rI ahd fun i j=>.int (i ^ j.toNat)):=opI fun _ _ _ _ _ _ _ hc q=>pow_int_small hc.1 hc.2.1 hc.2.2 q
end
def afo:V->V->Bool
 |.non,.non=>true | .non,.int _=>true | .int _,.non=>true | .non,.bl _=>true | .bl _,.non=>true | .non,.str _=>true | .str _,.non=>true
 |.int _,.int _=>true | .bl _,.bl _=>true | .str _,.str _=>true | .byt _,.byt _=>true
 |.int _,.str _=>true | .str _,.int _=>true | .bl _,.str _=>true | .str _,.bl _=>true
 |_,_=>false
def rEq:R2:=fun x y H Q=>afo x y=true/\Q (.bl (decide (x=y))) H
def rNe:R2:=fun x y H Q=>afo x y=true/\Q (.bl (!decide (x=y))) H
theorem wQ{i j:Int}:decide (V.int i=V.int j)=(i==j):=by rw[BJ];simp
theorem acy{i j:Bool}:decide (V.bl i=V.bl j)=(i==j):=by rw[BJ];simp
theorem wG{i j:Str}:decide (V.str i=V.str j)=(i==j):=by rw[BJ];simp
theorem vZ{i j:Array UInt8}:decide (V.byt i=V.byt j)=(i.toList==j.toList):=by rw[BJ];cases i;cases j;simp
section
variable {a b:Expr}{ta tb tc:TE} 
theorem jj{Q:VK}{k k':Bool}(I:z9 X pins σ H s)(q:Q (.bl k) H)(e:k=k'):EP X pins σ Q (.bool k') s:=by subst e;exact⟨.bl k,H,I,rfl,q⟩
theorem agq:wb X (compareOp .Eq) rEq:=by
 intro pins s σ H x y v u Q I rx ry h;obtain⟨hs,q⟩:=h;cases x with
 |non=>
  cases rx;cases y with
  |non=>cases ry;exact PySem.EqNone.eq_none_none (jj I q (by simp))
  |bl j=>cases ry;exact PySem.EqNone.eq_none_bool (jj I q (by simp))
  |int j=>obtain⟨t',rfl⟩:=ry;exact PySem.EqNone.eq_none_int (jj I q (by simp))
  |str j=>obtain⟨t',rfl⟩:=ry;exact PySem.EqNone.eq_none_str (jj I q (by simp))
  |_=>exact absurd (show false=true from hs) AE
 |bl i=>
  cases rx;cases y with
  |non=>cases ry;exact PySem.EqNone.eq_bool_none (jj I q (by simp))
  |bl j=>cases ry;exact eq_bool (jj I q acy)
  |str j=>obtain⟨t',rfl⟩:=ry;exact PySem.EqMixed.eq_bool_str (jj I q (by simp))
  |_=>exact absurd (show false=true from hs) AE
 |int i=>
  obtain⟨t,rfl⟩:=rx;cases y with
  |non=>cases ry;exact PySem.EqNone.eq_int_none (jj I q (by simp))
  |int j=>obtain⟨t',rfl⟩:=ry;exact eq_int (jj I q wQ)
  |str j=>obtain⟨t',rfl⟩:=ry;exact PySem.EqMixed.eq_int_str (jj I q (by simp))
  |_=>exact absurd (show false=true from hs) AE
 |str i=>
  obtain⟨t,rfl⟩:=rx;cases y with
  |non=>cases ry;exact PySem.EqNone.eq_str_none (jj I q (by simp))
  |bl j=>cases ry;exact PySem.EqMixed.eq_str_bool (jj I q (by simp))
  |int j=>obtain⟨t',rfl⟩:=ry;exact PySem.EqMixed.eq_str_int (jj I q (by simp))
  |str j=>obtain⟨t',rfl⟩:=ry;exact eq_str (jj I q wG)
  |_=>exact absurd (show false=true from hs) AE
 |byt i=>
  obtain⟨t,rfl⟩:=rx;cases y with
  |byt j=>obtain⟨t',rfl⟩:=ry;exact PySem.W.eq_bytes (jj I q vZ)
  |_=>exact absurd (show false=true from hs) AE
 |_=>cases y<;>exact absurd (show false=true from hs) AE
theorem agk:wb X (compareOp .NotEq) rNe:=by
 intro pins s σ H x y v u Q I rx ry h;obtain⟨hs,q⟩:=h;cases x with
 |non=>
  cases rx;cases y with
  |non=>cases ry;exact PySem.EqNone.ne_none_none (jj I q (by simp))
  |bl j=>cases ry;exact PySem.EqNone.ne_none_bool (jj I q (by simp))
  |int j=>obtain⟨t',rfl⟩:=ry;exact PySem.EqNone.ne_none_int (jj I q (by simp))
  |str j=>obtain⟨t',rfl⟩:=ry;exact PySem.EqNone.ne_none_str (jj I q (by simp))
  |_=>exact absurd (show false=true from hs) AE
 |bl i=>
  cases rx;cases y with
  |non=>cases ry;exact PySem.EqNone.ne_bool_none (jj I q (by simp))
  |bl j=>cases ry;exact ne_bool (jj I q (BI not acy))
  |str j=>obtain⟨t',rfl⟩:=ry;exact PySem.EqMixed.ne_bool_str (jj I q (by simp))
  |_=>exact absurd (show false=true from hs) AE
 |int i=>
  obtain⟨t,rfl⟩:=rx;cases y with
  |non=>cases ry;exact PySem.EqNone.ne_int_none (jj I q (by simp))
  |int j=>obtain⟨t',rfl⟩:=ry;exact ne_int (jj I q (BI not wQ))
  |str j=>obtain⟨t',rfl⟩:=ry;exact PySem.EqMixed.ne_int_str (jj I q (by simp))
  |_=>exact absurd (show false=true from hs) AE
 |str i=>
  obtain⟨t,rfl⟩:=rx;cases y with
  |non=>cases ry;exact PySem.EqNone.ne_str_none (jj I q (by simp))
  |bl j=>cases ry;exact PySem.EqMixed.ne_str_bool (jj I q (by simp))
  |int j=>obtain⟨t',rfl⟩:=ry;exact PySem.EqMixed.ne_str_int (jj I q (by simp))
  |str j=>obtain⟨t',rfl⟩:=ry;exact ne_str (jj I q (BI not wG))
  |_=>exact absurd (show false=true from hs) AE
 |byt i=>
  obtain⟨t,rfl⟩:=rx;cases y with
  |byt j=>obtain⟨t',rfl⟩:=ry;exact PySem.W.ne_bytes (jj I q (BI not vZ))
  |_=>exact absurd (show false=true from hs) AE
 |_=>cases y<;>exact absurd (show false=true from hs) AE
theorem aly:wb X (compareOp .Lt) (rI0 fun i j=>.bl (decide (i<j))):=ai3 fun _ _ _ _ _ _ _ q=>lt_int q
theorem al0:wb X (compareOp .LtE) (rI0 fun i j=>.bl (decide (i≤j))):=ai3 fun _ _ _ _ _ _ _ q=>le_int q
theorem ami:wb X (compareOp .Gt) (rI0 fun i j=>.bl (decide (j<i))):=ai3 fun _ _ _ _ _ _ _ q=>gt_int q
theorem x5(b:Expr){op:CmpOp}(h:op≠.In:=by decide)(h2:op≠.NotIn:=by decide):behindInMarks op b=false:=by
 have e1:(op==CmpOp.In)=false:=by cases op<;>first | rfl | exact absurd rfl h
 have e2:(op==CmpOp.NotIn)=false:=by cases op<;>first | rfl | exact absurd rfl h2
 cases b<;>simp[behindInMarks,e1,e2]
theorem aej{op:CmpOp}{r:R2}(ho:wb X (compareOp op) r)(ha:PE X a ta)(hb:PE X b tb)(hm:behindInMarks op b=false):PE X (.Compare a [op] [b] pos) (tOp r ta tb):=by intro pins s σ H Q I h;exact wpAny_Compare1 (ahp ha hb I h fun v u s2 x y H2 I2 rx ry q=>ho pins s2 σ H2 x y v u Q I2 rx ry q) hm
def aa3(t:TE):TT:=fun σ H Q=>t σ H fun x H'=>∃k,x=.bl k/\Q k H'
theorem afg{op:CmpOp}{r:R2}(ho:wb X (compareOp op) r)(ha:PE X a ta)(hb:PE X b tb)(hm:behindInMarks op b=false):PT X (.Compare a [op] [b] pos) (aa3 (tOp r ta tb)):=by
 intro pins s σ H Q I h;refine wpAny_isTrue_Compare1 (va (ha pins s σ H _ I h) fun v s1 ⟨x,H1,I1,r1,q1⟩=>va (hb pins s1 σ H1 _ I1 q1) fun u s2 ⟨y,H2,I2,r2,q2⟩=>
  va (ho pins s2 σ H2 x y v u _ I2 r1 r2 q2) fun c s3 ⟨z,H3,I3,r3,k,e,q3⟩=>?_) hm
 subst e;cases r3;exact wpAny_truthy_bool ⟨H3,I3,q3⟩
theorem gx:(sizeLine:Nat)<2 ^ 63:=by rw[sizeLine_eq];decide
theorem um:wb X (binaryOp .Add) (fun x y H Q=>∃i j,x=.str i/\y=.str j/\i.length+j.length≤sizeLine/\Q (.str (i++j)) H):=by intro pins s σ H x y v u Q I rx ry h;obtain⟨i,j,rfl,rfl,hz,q⟩:=h;obtain⟨t,rfl⟩:=rx;obtain⟨t',rfl⟩:=ry;exact ji I.tk (add_str (fun t' tk ht=>⟨.str (i++j),H,I.tok _,⟨_,rfl⟩,q⟩) hz)
theorem oW{x:V}(r:zp [x] us):∃u,us=[u]/\zw x u:=by cases r with|cons r1 r2=>cases r2;exact⟨_,rfl,r1⟩
theorem ah2{x y:V}(r:zp [x,y] us):∃u w',us=[u,w']/\zw x u/\zw y w':=by
 cases r with
 |cons r1 r2=>
  cases r2 with|cons r3 r4=>cases r4;exact⟨_,_,rfl,r1,r3⟩
theorem yM(hc:X.calm=true):jq X (.builtin "max") (fun xs H Q=>∃i j,xs=[.int i,.int j]/\Q (.int (if j > i then j else i)) H):=by
 intro pins s σ H xs us Q I r h;obtain⟨i,j,rfl,q⟩:=h;obtain⟨u,w',rfl,⟨t,rfl⟩,⟨t',rfl⟩⟩:=ah2 r;refine ji I.tk (max_two_ints (I.ok.hd hc) fun h' tk k ht=>⟨_,H,I.kept k,?_,q⟩);by_cases hj:j > i
 ·rw[AD hj,AD hj];exact⟨_,rfl⟩
 ·rw[Ay hj,Ay hj];exact⟨_,rfl⟩
theorem yg(hc:X.calm=true):jq X (.builtin "min") (fun xs H Q=>∃i j,xs=[.int i,.int j]/\Q (.int (if j<i then j else i)) H):=by
 intro pins s σ H xs us Q I r h;obtain⟨i,j,rfl,q⟩:=h;obtain⟨u,w',rfl,⟨t,rfl⟩,⟨t',rfl⟩⟩:=ah2 r;refine ji I.tk (min_two_ints (I.ok.hd hc) fun h' tk k ht=>⟨_,H,I.kept k,?_,q⟩);by_cases hj:j<i
 ·rw[AD hj,AD hj];exact⟨_,rfl⟩
 ·rw[Ay hj,Ay hj];exact⟨_,rfl⟩
end
structure ai6(h:Heap)(x dx C:Addr)(mA:Str->Option Value):Prop where
 obj:h.get? x=some (PySem.W.instObj C dx)
 ns:h.Ns1 dx mA
 ne:dx≠x
theorem yz(n:h.Ns1 dx mA):∃od,h.get? dx=some od/\∀name,PySem.W.lookIn name od=some (mA name):=by
 obtain⟨o,es,ep,ho,hd,hk,_,hm⟩:=n;refine⟨o,ho,fun name=>?_⟩;have e:=hm name;unfold nsFind findBy at e;rw[<-Array.find?_toList] at e;unfold PySem.W.lookIn;rw[hd];dsimp only;split
 ·rename_i y q;rw[q] at e;exact BI some e
 ·rename_i q;rw[q] at e;have a:es.toList.any (·.refKey)=false:=by rw[List.any_eq_false];intro y hy;obtain⟨z,t,hkey⟩:=hk y (Array.mem_toList_iff.mp hy);simp[DictEntry.refKey,hkey]
  have a':¬es.toList.any (·.refKey)=true:=by rw[a];exact AE
  rw[Ay a'];exact BI some e
theorem ai6.look{x:Addr}(I:ai6 h x dx C mA):∃od,PySem.W.InstAt h x (PySem.W.instObj C dx) C (some od)/\∀name,PySem.W.lookIn name od=some (mA name):=
 let ⟨od,ho,hl⟩:=yz I.ns
 ⟨od,⟨I.obj,rfl,rfl,ho⟩,hl⟩
section
variable {w:World}{K:Ai}{x:Addr}{v:Value}
end
theorem iG.some_of{o:Option Value}(r:iG (some v) o):∃u,o=some u/\zw v u:=by cases o with|none=>exact(show False from r).elim|some u=>exact⟨u,rfl,r⟩
abbrev EO:=@iG.some_of
section
variable {P:Program}{w:World}{a:Addr}{fs fs':List (Str×V)}
theorem adx(hok:eV P w H h)(e:H a=some (.ins C dx fs)):∃mA,ai6 h a dx C mA/\(∀f,iG (fs.lookup f) (mA f))/\PySem.Within mA (fs.map (·.1))/\fs.length≤1000/\H dx=some (.own a):=by obtain⟨d,z,ne,ob,mA,n,r,q⟩:=(show xq P w H h a (.ins C dx fs) from hok a _ e);exact⟨mA,⟨ob,n,ne⟩,r,q,z,d⟩
end
structure Cls(K:Ai)(C:Addr):Prop where
 pg:PySem.W.plainGet K C Str.empty=true
 hd:PySem.W.hasDictIn K C=true
 po:PySem.W.plainOver K C=true
 sa:PySem.W.findIn K (.ref C) "__setattr__" = some (some (.builtin "object.__setattr__"))
theorem Cls.get{K:Ai}(c:Cls K C)(f:Str):PySem.W.plainGet K C f=true:=c.pg
section
variable {a:Addr}{fs:List (Str×V)}{f:Str} 
end
section
variable {f:Str}{tpos:Pos}{ta tv:TE}
end
section
variable {c:Value}{b:Bool}
inductive jA(K:Ai)(H:Hp):V->Value->Prop where
 |non:jA K H .non (.type "NoneType")
 |bl (x:Bool):jA K H (.bl x) (.type "bool")
 |int (i:Int):jA K H (.int i) (.type "int")
 |str (x:Str):jA K H (.str x) (.type "str")
 |flt (x:UInt64):jA K H (.flt x) (.type "float")
 |lst {a:Addr} {xs:List V} (e:H a=some (.lst xs)):jA K H (.ref a) (.type "list")
 |frz {a:Addr} {o:Obj} {xs:List V} (e:H a=some (.frz o (.lst xs))):jA K H (.ref a) (.type "list")
 |tup {a:Addr} {xs:List V} (e:H a=some (.tup xs)):jA K H (.ref a) (.type "tuple")
 |dK {a:Addr} {kvs:List (jl×V)} (e:H a=some (.dK kvs)):jA K H (.ref a) (.type "dict")
 |dT {a:Addr} {kvs:List (List jl×V)} (e:H a=some (.dT kvs)):jA K H (.ref a) (.type "dict")
 |ins {a C dx:Addr} {fs:List (Str×V)} (e:H a=some (.ins C dx fs)) (cl:Cls K C) (ha:PySem.W.findIn K (.ref C) "__class__" = some (some (.builtin "object.__class__")))
  (hn:PySem.W.specialIn K (.builtin "object.__class__") "__get__" = some (some (.builtin "getset_descriptor.__get__"))) (htk:PySem.W.takesIn K (.builtin "object.__class__")=some true)
  (hm:PySem.W.mroIn K C (.type "object")=some true):jA K H (.ref a) (.ref C)
theorem ao{x:V}{t:Value}(I:z9 X pins σ H s)(rx:zw x u)(ty:jA X.K H x t)(e:PySem.W.kitOne X.K t c=some b)(h:∀tk,Q (.bool b) { s with toks:=tk }):
 wpAny (model X.prog X.w) A (call (.builtin "isinstance") [u,c]) Q E s:=by
 cases ty with
 |non=>cases (show u=Value.none from rx);exact Bs PySem.W.kitx_none I.kIn True.intro e (fun z=>nomatch z) h
 |bl y=>cases (show u=Value.bool y from rx);exact Bs PySem.W.kitx_bool I.kIn True.intro e (fun z=>nomatch z) h
 |int i=>obtain⟨t,q⟩:=(show ∃t,u=Value.int i t from rx);cases q;exact Bs PySem.W.kitx_int I.kIn True.intro e (fun z=>nomatch z) h
 |str y=>obtain⟨t,q⟩:=(show ∃t,u=Value.str y t from rx);cases q;exact Bs PySem.W.kitx_str I.kIn True.intro e (fun z=>nomatch z) h
 |flt y=>obtain⟨t,q⟩:=(show ∃t,u=Value.float y t from rx);cases q;exact Bs PySem.W.kitx_float I.kIn True.intro e (fun z=>nomatch z) h
 |@lst a xs ea=>
  cases (show u=Value.ref a from rx);obtain⟨_,_,n,_,h1⟩:=(show xq X.prog X.w H s.heap a (.lst xs) from I.hok a _ ea);exact Bs CA I.kIn ⟨_,h1,rfl⟩ e (fun z=>nomatch z) h
 |@frz a ob xs ea=>
  cases (show u=Value.ref a from rx);obtain⟨_,_,_,n,_,h1⟩:=(show xq X.prog X.w H s.heap a (.frz ob (.lst xs)) from I.hok a _ ea);exact Bs CA I.kIn ⟨_,h1,rfl⟩ e (fun z=>nomatch z) h
 |@tup a xs ea=>
  cases (show u=Value.ref a from rx);obtain⟨_,_,_,p⟩:=(show xq X.prog X.w H s.heap a (.tup xs) from I.hok a _ ea);obtain⟨o,h1,h2,_⟩:=p;exact Bs Dz I.kIn ⟨o,h1,h2⟩ e (fun z=>nomatch z) h
 |@dK a kvs ea=>
  cases (show u=Value.ref a from rx);obtain⟨_,_,vs,_,p⟩:=(show xq X.prog X.w H s.heap a (.dK kvs) from I.hok a _ ea);obtain⟨o,es,ep,h1,h2,_⟩:=p;exact Bs DI I.kIn ⟨o,h1,h2.1⟩ e (fun z=>nomatch z) h
 |@dT a kvs ea=>
  cases (show u=Value.ref a from rx);obtain⟨_,_,xs,_,o,es,ep,h1,h2,_⟩:=(show xq X.prog X.w H s.heap a (.dT kvs) from I.hok a _ ea);exact Bs DI I.kIn ⟨o,h1,h2.1⟩ e (fun z=>nomatch z) h
 |@ins a C dx fs ea cl ha hn htk hm=>
  cases (show u=Value.ref a from rx);obtain⟨mA,O,_⟩:=adx I.hok ea;obtain⟨od,J,_⟩:=O.look;exact Bs (PySem.W.kitx_own (cl.get _) cl.hd ha hn htk hm) I.kIn J e (fun z=>nomatch z) h
end
structure aZ(k:Nat)(A:Around):Prop where
 hd:A.handled=none
 dp:A.depth+3*k+5<recursionLimit
 un:A.units+16*k+200<cLine
theorem aZ.mono{k:Nat}(r:aZ k A)(h:j≤k):aZ j A:=⟨r.hd,by have:=r.dp;omega,by have:=r.un;omega⟩
theorem aZ.deeper{k:Nat}(r:aZ (k+1) A)(env:Env):aZ k (A.deeper env):=
 ⟨r.hd,by have:=r.dp;show A.depth+1+3*k+5<_;omega,by have:=r.un;show A.units+3+16*k+200<_;omega⟩
theorem aZ.depth{k:Nat}(r:aZ k A):A.depth<recursionLimit:=by have:=r.dp;omega
def ar5:TA:=fun _ H Q=>Q [] H
def anf(ta:TE)(tr:TA):TA:=fun σ H Q=>ta σ H fun x H1=>tr σ H1 fun xs H2=>Q (x::xs) H2
section
variable {te:TE}{t:TA} 
theorem fG:PA X [] ar5:=fun _ _ _ _ H Q I h=>Calls.spliced_nil ⟨[],H,I,.nil,h⟩
abbrev Es(e:Expr)(es:List Expr)(X:Cx):Prop:=starEach (e::es) X.env=(false,eval e X.env)::starEach es X.env
theorem aU(ha:PE X e te)(hr:PA X es t)(hs:Es e es X:=by rfl):PA X (e::es) (anf te t):=by intro pos pins s σ H Q I h;rw[hs];show wpAny _ _ (spliced ((false,eval e X.env)::backTo pos (starEach es X.env))) _ _ s;refine Calls.spliced_cons (va (ha pins s σ H _ I h) fun u s1 ⟨x,H1,I1,r1,q1⟩=>?_);exact va (hr pos pins s1 σ H1 _ I1 q1) fun us s2 ⟨xs,H2,I2,r2,q2⟩=>⟨x::xs,H2,I2,.cons r1 r2,q2⟩
def as2(t:TA):TE:=fun σ H Q=>t σ H fun xs H1=>xs.length≤sizeLine/\∀p,H1 p=none->Q (.ref p) (upd H1 p (.tup xs))
def ar9(t:TA):TE:=fun σ H Q=>t σ H fun xs H1=>xs.length≤sizeLine/\∀p,H1 p=none->Q (.ref p) (upd H1 p (.lst xs))
theorem aai{x1}(h:PA X es t):PE X (.Tuple es x1 pos) (as2 t):=by intro pins s σ H Q I hq;refine wpAny_Tuple_spliced (va (h pos pins s σ H _ I hq) fun us s1 ⟨xs,H1,I1,r,z,q⟩=>⟨by rw[<-r.length];exact z,?_⟩);have hf:H1 s1.heap.objs.size=none:=I1.hok.fresh (Ao _);refine⟨.ref s1.heap.objs.size,upd H1 s1.heap.objs.size (.tup xs),I1.laid (t':=s1.toks) (fun b u e=>Heap.get?_push_of_some _ e) (Ao _) ?_,rfl,q _ hf⟩;exact⟨z,us,r,⟨_,Heap.get?_push_size _ rfl,rfl,_,rfl⟩⟩
theorem aij(h:PA X es t):PE X (.List es pos) (ar9 t):=by intro pins s σ H Q I hq;refine wpAny_List_spliced (va (h pos pins s σ H _ I hq) fun us s1 ⟨xs,H1,I1,r,z,q⟩=>⟨by rw[<-r.length];exact z,?_⟩);have hf:H1 s1.heap.objs.size=none:=I1.hok.fresh (Ao _);refine⟨.ref s1.heap.objs.size,upd H1 s1.heap.objs.size (.lst xs),I1.laid (t':=s1.toks) (fun b u e=>Heap.get?_push_of_some _ e) (Ao _) ?_,rfl,q _ hf⟩;exact⟨z,us,0,r,Heap.get?_push_size _ rfl⟩
end
abbrev Sp:=List V->Hp->VK->XK->Prop
abbrev xL:=List Env->Hp->Shared->XK->Value->Shared->Prop
structure adz(P:Program)(w:World)(K:Ai)(mg:Str->Option Value)(base:Heap)(A:Around)(outer:List Env)(s:Shared)(H:Hp):Prop where
 frames:A.frames=some outer
 mod:Mod K mg base
 bs:∀b o,base.get? b=some o->s.heap.get? b=some o/\H b=none
 bsz:base.objs.size≤s.heap.objs.size
 funs:s.heap.FunFrames base outer
 frf:∀b∈xM outer,H b=none
 hok:eV P w H s.heap
 bare:AllBare s.gens
 tk:0<s.toks
def CE(outer:List Env)(P:Program)(w:World)(H:Hp)(s:Shared)(Q:VK)(u:Value)(s':Shared):Prop:=
 ∃v H',s'.os=s.os/\AllBare s'.gens/\Un (xM outer) [] H H' s.heap s'.heap/\eV P w H' s'.heap/\zw v u/\Q v H'/\0<s'.toks
def CR(CX:xL)(outer:List Env)(P:Program)(w:World)(H:Hp)(s:Shared)(Q:VK)(E:XK)(r:Result)(s':Shared):Prop:=
 match r with
 |.ok (.ret u)=>CE outer P w H s Q u s'
 |.ok _=>False
 |.error e=>CX outer H s E e s'
structure cO(P:Program)(w:World)(K:Ai)(mg:Str->Option Value)(base:Heap)(CX:xL)(k:Nat)(f:Addr)(fd:FuncData)(ps:List Str)(sp:Sp):Prop where
 len:∀vs H Q E,sp vs H Q E->vs.length=ps.length
 run:∀(A:Around) (outer:List Env) (s:Shared) (H:Hp) (args:Args) (us:List Value) (vs:List V) (Q:VK) (E:XK),aZ k A->adz P w K mg base A outer s H->BindsTo s fd args (ps.zip us)->zp vs us->sp vs H Q E->
  codeAny (model P w) A (.call (.ref f) args) (CR CX outer P w H s Q E) s
theorem cO.mono{P:Program}{w:World}{K:Ai}{CX:xL}{k:Nat}{sp:Sp}(F:cO P w K mg base CX j f fd ps sp)(h:j≤k):
 cO P w K mg base CX k f fd ps sp:=⟨F.len,fun A outer s H args us vs Q E hr=>F.run A outer s H args us vs Q E (hr.mono h)⟩
theorem cO.imp{P:Program}{w:World}{K:Ai}{CX:xL}{k:Nat}{sp sp':Sp}(F:cO P w K mg base CX k f fd ps sp)
 (h:∀vs H Q E,sp' vs H Q E->sp vs H Q E):cO P w K mg base CX k f fd ps sp':=
 ⟨fun vs H Q E q=>F.len vs H Q E (h _ _ _ _ q),fun A outer s H args us vs Q E hr he hb hv hs=>F.run A outer s H args us vs Q E hr he hb hv (h _ _ _ _ hs)⟩
section
theorem z9.env0(I:z9 X pins σ H s):adz X.prog X.w X.K X.mg X.base X.A X.stack s H:=
 ⟨I.ok.frames,I.ok.mod,I.bs,AS I.ok.bsz I.sz,I.stack,I.stkFree,I.hok,I.bare,I.tk⟩
theorem z9.after{Q:VK}(I:z9 X pins σ H s)(h:CE X.stack X.prog X.w H s Q u s'):EP X pins σ Q u s':=by obtain⟨v,H',os,bare,un,hok,r,q,ht⟩:=h;obtain⟨hh,g,d,t,os'⟩:=s';obtain rfl:os'=s.os:=os;exact⟨v,H',I.call (h':=hh) (g':=g) (d':=d) (t':=t) (ch:=[]) un hok bare (fun b z=>absurd z (by simp)),r,q⟩
end
def ah0(sp:Sp)(dvs:List V)(E:XK)(t:TA):TE:=fun σ H Q=>t σ H fun vs H1=>sp (vs++dvs) H1 Q E
def fk(K:Ai)(fd:FuncData)(ps:List Str)(ds:List Value):Prop:=
 ∀(s:Shared) (us:List Value),K.In s.heap->(us++ds).length=ps.length->BindsTo s fd ⟨us,[]⟩ (ps.zip (us++ds))
theorem fk.all{K:Ai}(h:∀us:List Value,us.length=ps.length->bindArgs fd ⟨us,[]⟩=pure (ps.zip us)):fk K fd ps []:=fun s us _ hl=>by rw[AW] at hl ⊢;exact .of_eq (h us hl)
def uF(CX:xL)(X:Cx)(E:XK):Prop:=∀(pins:List (Addr×Obj)) (σ:St) (H:Hp) (s:Shared) (e:Value) (s':Shared),z9 X pins σ H s->CX X.stack H s E e s'->X.xe e s'
section
variable {CX:xL}{k:Nat}{sp:Sp}{dvs:List V}{ds:List Value}{E:XK}{m:Str}{ta:TE}{t:TA}
theorem ajo{Q:VK}{vs:List V}(F:cO X.prog X.w X.K X.mg X.base CX k f fd ps sp)(hr:aZ k X.A)(hb:fk X.K fd ps ds)(hd:zp dvs ds)(hx:uF CX X E)
 (I:z9 X pins σ H s) (r:zp vs us) (h:sp (vs++dvs) H Q E):wpAny (model X.prog X.w) X.A (call (.ref f) us) (EP X pins σ Q) X.xe s:=by
 have r2:zp (vs++dvs) (us++ds):=r.append hd;have hl:(us++ds).length=ps.length:=by rw[<-r2.length];exact F.len _ _ _ _ h
 refine wpAny_call (codeAny_mono (F.run X.A X.stack s H ⟨us,[]⟩ (us++ds) (vs++dvs) Q E hr I.env0 (hb s us I.kIn hl) r2 h) fun r s' hq=>?_);cases r with
 |error e=>exact hx pins σ H s e s' I hq
 |ok fl=>
  cases fl with|ret u=>exact I.after hq|next=>exact False.elim hq|brk=>exact False.elim hq|cont=>exact False.elim hq
abbrev Et(p:Pos)(es:List Expr)(X:Cx):Prop:=(backTo p (starEach es X.env)).any (·.1)=false
theorem aec(F:cO X.prog X.w X.K X.mg X.base CX k f fd ps sp)(hr:aZ k X.A)(hg:Gl X x)(hm:X.mg x=some (.ref f))(hk:PySem.W.keepIn X.K (.ref f)=true)(hb:fk X.K fd ps ds)(hd:zp dvs ds)(hx:uF CX X E)
 (ha:PA X (e::es) t) (hdb:Eu x:=by decide) (he:Es e es X:=by rfl) (hpl:Et pos es X:=by rfl):
 PE X (.Call (.Name x p) (e::es) [] pos) (ah0 sp dvs E t):=by
 intro pins s σ H Q I h;refine wpAny_Call_Name_kw (vM I hg hm ?_ hdb);refine PySem.W.callWith_K (h₀:=X.base) I.ok.mod.kin hk (va (ha pos pins s σ H _ I h) fun us s1 ⟨vs,H1,I1,r,q⟩=>⟨I1.kIn,?_⟩) he hpl;exact ajo F hr hb hd hx I1 r q
end
section
variable {CX:xL}{k:Nat}{ks:List Str}{sp:Sp}{E:XK}{m:Str}{kws:List Keyword}{te ta:TE}{t tk:TA}{nm:Option Str}
variable {g:List Value->List Value->List Value}{gV:List V->List V->List V}
end
structure ah(N P:List Str)(sc:Scope):Prop where
 kind:sc.kind=.function
 co:sc.isCoroutine=false
 gen:sc.isGenerator=false
 nd:N.Nodup
 pre:N.take P.length=P
 par:∀x∈P,sc.names.lookup x=some .local\/sc.names.lookup x=some .cell
 nofree:∀y∈sc.names,y.2≠.free
theorem mj{kindOf:Str->Option NameKind}{x:Str}:∀{binds:List (Str×Value)} {m:Str->Option Value},(∀v,(x,v)∉binds)->bindL kindOf binds m x=m x
 |[],_,_=>rfl
 |(n,v)::r,m,h=>by
  unfold bindL;rw[mj fun w hw=>h w (Ah _ hw)];split
  ·have:x≠n:=by rintro rfl;exact h v As
   simp[this]
  ·rfl
theorem mh{kindOf:Str->Option NameKind}{x:Str}:∀{binds:List (Str×Value)} {m:Str->Option Value},(∀v,(x,v)∉binds)->bindC kindOf binds m x=m x
 |[],_,_=>rfl
 |(n,v)::r,m,h=>by
  unfold bindC;rw[mh fun w hw=>h w (Ah _ hw)];split
  ·rfl
  ·have:x≠n:=by rintro rfl;exact h v As
   simp[this]
theorem nU{kindOf:Str->Option NameKind}{x:Str}{v:Value}:∀{P:List Str} {vs:List Value} {i:Nat} {m:Str->Option Value},P.Nodup->P[i]?=some x->vs[i]?=some v->kindOf x=some .local->
 bindL kindOf (P.zip vs) m x=some v
 |[],_,_,_,_,h,_,_=>by simp at h
 |_::_,[],_,_,_,_,h,_=>by simp at h
 |p::P,w::vs,0,m,nd,h1,h2,hk=>by simp at h1 h2;subst h1;subst h2;show bindL kindOf ((p,w)::P.zip vs) m p=_;unfold bindL;rw[mj fun v hv=>(Au.mp nd).1 (Du hv).1,AD hk];simp
 |p::P,w::vs,i+1,m,nd,h1,h2,hk=>by show bindL kindOf ((p,w)::P.zip vs) m x=_;unfold bindL;exact nU (i:=i) (Au.mp nd).2 (by simpa using h1) (by simpa using h2) hk
theorem oM{kindOf:Str->Option NameKind}{x:Str}{v:Value}:∀{P:List Str} {vs:List Value} {i:Nat} {m:Str->Option Value},P.Nodup->P[i]?=some x->vs[i]?=some v->kindOf x≠some .local->
 bindC kindOf (P.zip vs) m x=some v
 |[],_,_,_,_,h,_,_=>by simp at h
 |_::_,[],_,_,_,_,h,_=>by simp at h
 |p::P,w::vs,0,m,nd,h1,h2,hk=>by simp at h1 h2;subst h1;subst h2;show bindC kindOf ((p,w)::P.zip vs) m p=_;unfold bindC;rw[mh fun v hv=>(Au.mp nd).1 (Du hv).1,Ay hk];simp
 |p::P,w::vs,i+1,m,nd,h1,h2,hk=>by show bindC kindOf ((p,w)::P.zip vs) m x=_;unfold bindC;exact oM (i:=i) (Au.mp nd).2 (by simpa using h1) (by simpa using h2) hk
def start(N:List Str)(vs:List V):St:=vs.map some++List.replicate (N.length - vs.length) none
def iz(CX:xL)(P:Program)(w:World)(K:Ai)(mg:Str->Option Value)(base:Heap)(N:List Str)(qual:Str)(scope:Scope)(f:Addr)(cd:Value)(A:Around)(outer:List Env)(s:Shared)(H:Hp)(E:XK):Cx where
 prog:=P
 w:=w
 K:=K
 mg:=mg
 base:=base
 A:=A.deeper (envOfC qual scope s.heap.objs.size f cd)
 N:=N
 s₀:=s
 H₀:=H
 env:=envOfC qual scope s.heap.objs.size f cd
 outer:=outer
 stack:=envOfC qual scope s.heap.objs.size f cd::outer
 ex:=[]
 calm:=true
 fn:=fun _=>true
 pn:=[]
 xe:=fun e s'=>wpAny (model P w) (A.deeper (envOfC qual scope s.heap.objs.size f cd)) (leaving (envOfC qual scope s.heap.objs.size f cd) e) (fun _ s''=>CX outer H s E e s'') (fun e' s''=>CX outer H s E e' s'') s'
theorem si{sc:Scope}(h:sc.names.lookup x=some .cell):∃c,(cellsFrom n sc.names []).lookup x=some c:=by have q:=Eb sc.names n [] (.inl h);exact Option.isSome_iff_exists.mp q
theorem yp{CX:xL}{P:Program}{w:World}{K:Ai}{N:List Str}{cd:Value}{outer:List Env}{s1:Shared}{E:XK}{vs:List V}
 (S:ah N ps scope) (hd:A.handled=none) (e0:adz P w K mg base A outer s H) (hl:vs.length=ps.length) (r:zp vs us)
 (x:InCallC s s.heap.objs.size (bindL (envOfC qual scope s.heap.objs.size f cd).kindOf (ps.zip us) fun _=>none) (cellsFrom (s.heap.objs.size+1) scope.names []) (bindC (envOfC qual scope s.heap.objs.size f cd).kindOf (ps.zip us) fun _=>none) s1) (ht:0<s1.toks):
 z9 (iz CX P w K mg base N qual scope f cd A outer s H E) [] (start N vs) H s1:=by
 have hpl:ps.length≤N.length:=by have:=BI List.length S.pre;rw[AK] at this;omega
 obtain⟨h1,tk,rfl,hk⟩:=x.done;have noA:∀b:Addr,b∉(iz CX P w K mg base N qual scope f cd A outer s H E).ex:=fun b z=>absurd (show b∈([]:List Addr) from z) (by simp);refine⟨⟨e0.mod,S.kind,rfl,rfl,Ao _,fun y z c h1 h2=>?_,fun y hy=>?_,fun y c _ h=>?_,fun _=>hd,Around.frames_deeper e0.frames,.inr ⟨rfl,rfl⟩,fun b z=>absurd z (noA b),e0.bs,e0.bsz,fun b _ _=>noA b,fun b z=>absurd z (noA b),e0.funs,e0.frf⟩,
  rfl,e0.bare,Un.kept hk,⟨_,x.toInCall.ns,fun i y v h1 h2 h3=>?_⟩,fun y c h=>⟨_,x.cell y c h⟩,e0.hok.fresh (Ao _),fun y c h=>?_,fun p hp=>absurd (show p∈([]:List (Addr×Obj)) from hp) (by simp),e0.hok.kept hk,?_,ht⟩
 ·exact name_of_addr x.apart (BA h1) (BA h2)
 ·have hy:scope.names.lookup y=some .cell\/scope.names.lookup y=some .free:=hy;rcases hy with hy | hy
  ·exact si hy
  ·exact absurd rfl (S.nofree _ (BA hy))
 ·exact Bn (x.above y c (BA h))
 ·have hi:i<vs.length:=by
   unfold start at h2;by_cases hi:i<vs.length
   ·exact hi
   ·rw[An (by simpa using hi)] at h2;rw[Cf] at h2;split at h2<;>cases h2
  have ha:vs[i]?=some v:=by unfold start at h2;rw[AB (by simpa using hi),Al] at h2;cases e:vs[i]? with|none=>rw[e] at h2;cases h2|some a=>rw[e] at h2;cases h2;rfl
  obtain⟨u,hu,rv⟩:=r.get ha;have hp:ps[i]?=some y:=by rw[<-S.pre,DM (by omega)];exact h1
  have ndP:ps.Nodup:=by rw[<-S.pre];exact S.nd.sublist (DJ _ _)
  refine⟨u,rv,?_⟩;rcases S.par y (AH hp) with k | k
  ·exact .inl ⟨k,nU ndP hp hu k⟩
  ·obtain⟨c,e⟩:=si (n:=s.heap.objs.size+1) k;refine .inr ⟨.inl k,c,e,?_⟩;have q:=x.cell y c e;rw[oM ndP hp hu (by show scope.names.lookup y≠_;rw[k];decide)] at q;exact q
 ·exact e0.hok.fresh (Bn (x.above y c (BA h)))
 ·unfold start;show _=N.length;rw[Ad,Ae,BR];omega
theorem agw{CX:xL}{P:Program}{w:World}{K:Ai}{k:Nat}{params:Arguments}{dV kV ct:Value}
 {N:List Str} {sp:Sp} (lk:K.lookup f=some ⟨oc,od,.func (PySem.W.fnOf name qual params body scope dV kV doc pm an cdv ct),osl⟩) (hcd:PySem.W.codeIn K cdv qual=true) (S:ah N ps scope)
 (len:∀vs H Q E,sp vs H Q E->vs.length=ps.length)
 (hbody:∀(A:Around) (outer:List Env) (s:Shared) (H:Hp) (vs:List V) (Q:VK) (E:XK),aZ k (A.deeper (envOfC qual scope s.heap.objs.size f cdv))->sp vs H Q E->
  ∃t,m5 (iz CX P w K mg base N qual scope f cdv A outer s H E) body t/\t { nx:=fun _ H'=>Q .non H',rt:=Q } (start N vs) H):
 cO P w K mg base CX (k+1) f (PySem.W.fnOf name qual params body scope dV kV doc pm an cdv ct) ps sp:=by
 refine⟨len,fun A outer s H args us vs Q E hr e0 hb r hsp=>?_⟩;have hl:=len _ _ _ _ hsp;have KX:K.In s.heap:=e0.mod.kin.keeps fun b o e=>(e0.bs b o e).1;have lim:s.heap.NoLimit:=e0.mod.nolimit.keeps fun b o e=>(e0.bs b o e).1;have hkind:∀y∈ps.zip us,scope.names.lookup y.1=some .local\/(scope.names.lookup y.1=some .cell/\((cellsFrom (s.heap.objs.size+1) scope.names []).lookup y.1).isSome=true):=fun⟨n,v⟩ hy=>by
  rcases S.par n (Du hy).1 with q | q
  ·exact .inl q
  ·exact .inr ⟨q,Eb _ _ _ (.inl q)⟩
 refine codeAny_call_function hr.depth (KX _ _ lk) rfl S.co S.gen rfl (PySem.W.codeRec_of KX hcd) (hb _ _ _ _ ?_);refine ji e0.tk (wpAny_newFunctionEnv_cells S.kind hkind fun env he s1 x htk=>?_);subst he;refine⟨lim.keeps x.toInCall.keep,codeAny_func ?_⟩;obtain⟨t,ht,hq⟩:=hbody A outer s H vs Q E (hr.deeper _) hsp;have I:z9 (iz CX P w K mg base N qual scope f cdv A outer s H E) [] (start N vs) H s1:=yp S hr.hd e0 hl r x htk;refine AX (ht [] s1 (start N vs) H _ I hq) (fun fl s' hs=>?_) fun e s' hs=>hs;have xr:∀{σ':St} {H':Hp} {v:V} {u:Value},z9 (iz CX P w K mg base N qual scope f cdv A outer s H E) [] σ' H' s'->zw v u->Q v H'->CE outer P w H s Q u s':=
  fun {σ' H' v u} J rv q=>⟨v,H',J.os,J.bare,J.base,J.hok,rv,q,J.tk⟩
 cases fl with
 |ret u=>
  obtain⟨v,σ',H',J,rv,q⟩:=hs;exact xr J rv q
 |next=>
  obtain⟨σ',H',J,q⟩:=hs;exact xr (v:=V.non) (u:=Value.none) J rfl q
 |brk=>
  obtain⟨_,_,_,q⟩:=hs;exact False.elim q
 |cont=>
  obtain⟨_,_,_,q⟩:=hs;exact False.elim q
end L2
variable {sp:L2.Sp}
namespace L2
open PySem PySem.Spec PyProof.Rows
section
variable {t:TA}{id T:String}{r:List V->Hp->VK->Prop}
def tCB(r:List V->Hp->VK->Prop)(t:TA):TE:=fun σ H Q=>t σ H fun vs H1=>r vs H1 Q
theorem lF(hc:jq X (.builtin id) r)(hg:Gl X x)(hm:X.mg x=none)(hv:bootBuiltins x=some (.builtin id))(ha:PA X (e::es) t)(hn:x ≠ "__name__" := by decide)(hdb:Eu x:=by decide)
 (he:Es e es X:=by rfl) (hpl:Et pos es X:=by rfl):PE X (.Call (.Name x p) (e::es) [] pos) (tCB r t):=by
 intro pins s σ H Q I h;refine wpAny_Call_Name_kw (cY I hg hm hv ?_ hn hdb);exact PyProof.Rows.callWith_builtin1 (va (ha pos pins s σ H _ I h) fun us s1 ⟨vs,H1,I1,r1,q1⟩=>hc pins s1 σ H1 vs us Q I1 r1 q1) he hpl
theorem gp(hc:jq X (.type T) r)(hg:Gl X x)(hm:X.mg x=none)(hv:bootBuiltins x=some (.type T))(ha:PA X (e::es) t)(hn:x ≠ "__name__" := by decide)(hdb:Eu x:=by decide)
 (he:Es e es X:=by rfl) (hpl:Et pos es X:=by rfl):PE X (.Call (.Name x p) (e::es) [] pos) (tCB r t):=by
 intro pins s σ H Q I h;refine wpAny_Call_Name_kw (cY I hg hm hv ?_ hn hdb);exact BY (va (ha pos pins s σ H _ I h) fun us s1 ⟨vs,H1,I1,r1,q1⟩=>hc pins s1 σ H1 vs us Q I1 r1 q1) he hpl
end
section
variable [DecidableEq κ]
def fS(kvs:List (κ×V))(k:κ):Option V:=(kvs.find? fun kv=>decide (kv.1=k)).map (·.2)
def dM(kvs:List (κ×V))(k:κ)(v:V):List (κ×V):=
 if (kvs.any fun kv=>decide (kv.1=k))=true then kvs.map (fun kv=>if kv.1=k then(kv.1,v) else kv) else kvs++[(k,v)]
theorem l7{p:κ×V}{r:List (κ×V)}{k:κ}(e:p.1=k):fS (p::r) k=some p.2:=by simp[fS,BK,e]
theorem mG{p:κ×V}{r:List (κ×V)}{k:κ}(e:¬p.1=k):fS (p::r) k=fS r k:=by simp[fS,BK,e]
theorem rP(k:κ):∀kvs:List (κ×V),(kvs.any fun kv=>decide (kv.1=k))=(fS kvs k).isSome
 |[]=>rfl
 |p::r=>by
  rw[Ca];by_cases e:p.1=k
  ·simp only[l7 e,AC e,Bool.true_or,Option.isSome_some]
  ·rw[mG e,Ax e,Bool.false_or];exact rP k r
theorem db(kvs:List (κ×V))(k:κ)(v:V):(dM kvs k v).length≤kvs.length+1:=by
 unfold dM;split
 ·rw[Ae];omega
 ·rw[Ad,AG,List.length_nil];omega
theorem iG.isSome_eq{o:Option V}{u:Option Value}(r:iG o u):o.isSome=u.isSome:=by
 cases o with
 |none=>cases u with|none=>rfl|some _=>exact(show False from r).elim
 |some _=>cases u with|none=>exact(show False from r).elim|some _=>rfl
theorem KV.val{kvs:List (κ×V)}{vs:List (κ×Value)}(r:KV kvs vs)(k:κ):iG (fS kvs k) (valueAt vs k):=by
 unfold KV at r
 induction r with
 |nil=>exact True.intro
 |@cons p q ps qs h t ih=>
  obtain⟨h1,h2⟩:=h;by_cases e:p.1=k
  ·have e':q.1=k:=h1.symm.trans e;have b:valueAt (q::qs) k=some q.2:=by simp[valueAt,BK,e']
   rw[l7 e,b];exact h2
  ·have e':¬q.1=k:=fun z=>e (h1.trans z);have b:valueAt (q::qs) k=valueAt qs k:=by simp[valueAt,BK,e']
   rw[mG e,b];exact ih
theorem KV.any{kvs:List (κ×V)}{vs:List (κ×Value)}(r:KV kvs vs)(k:κ):(kvs.any fun kv=>decide (kv.1=k))=vs.any fun kv=>decide (kv.1=k):=by
 unfold KV at r
 induction r with|nil=>rfl|cons h t ih=>rw[Ca,Ca,ih,h.1]
theorem KV.repl{kvs:List (κ×V)}{vs:List (κ×Value)}(r:KV kvs vs)(k:κ){y:V}(ry:zw y u):
 KV (kvs.map fun kv=>if kv.1=k then(kv.1,y) else kv) (vs.map fun kv=>if kv.1=k then(kv.1,u) else kv):=by
 unfold KV at r ⊢
 induction r with
 |nil=>exact .nil
 |@cons p q ps qs h t ih=>
  rw[Az,Az];refine .cons ?_ ih;obtain⟨h1,h2⟩:=h;by_cases e:p.1=k
  ·rw[AD e,AD (h1.symm.trans e)];exact⟨h1,ry⟩
  ·rw[Ay e,Ay (fun z=>e (h1.trans z))];exact⟨h1,h2⟩
theorem KV.put{kvs:List (κ×V)}{vs:List (κ×Value)}(r:KV kvs vs)(k:κ){y:V}(ry:zw y u):KV (dM kvs k y) (stored vs k u):=by
 unfold dM stored;rw[r.any k];by_cases e:(vs.any fun kv=>decide (kv.1=k))=true
 ·rw[AD e,AD e];exact r.repl k ry
 ·rw[Ay e,Ay e];exact Paired.snoc r ⟨rfl,ry⟩
theorem KV.length{kvs:List (κ×V)}{vs:List (κ×Value)}(r:KV kvs vs):kvs.length=vs.length:=Paired.length r
end
theorem nW{P:Program}{w:World}{k:jl}(r:zw (kV k) u):(xw P w).is k u=true:=by
 cases k with
 |inl i=>obtain⟨t,e⟩:=(show ∃t,u=Value.int i t from r);subst e;exact rL P w i t
 |inr x=>obtain⟨t,e⟩:=(show ∃t,u=Value.str x t from r);subst e;exact r9 P w x t
theorem oP{P:Program}{w:World}:∀{ks:List jl} {us:List Value},zp (ks.map kV) us->ItemsAre (xw P w) ks us
 |[],_,r=>by rw[C3] at r;cases r;exact .nil
 |k::ks,_,r=>by rw[Az] at r;cases r with|cons h t=>exact .cons (nW h) (oP t)
abbrev KT(H:Hp):List (List jl×V)->List (List jl×Addr×Value)->Prop:=Paired fun p q=>p.1=q.1/\H q.2.1=some (.tup (p.1.map kV))/\zw p.2 q.2.2
theorem KT.val{xs:List (List jl×Addr×Value)}(r:KT H kvs xs)(k:List jl):iG (fS kvs k) ((atKey xs k).map (·.2)):=by
 induction r with
 |nil=>exact True.intro
 |@cons p q ps qs h t ih=>
  obtain⟨h1,_,h2⟩:=h;by_cases e:p.1=k
  ·have e':q.1=k:=h1.symm.trans e;have b:atKey (q::qs) k=some q.2:=by simp[atKey,BK,e']
   rw[l7 e,b];exact h2
  ·have e':¬q.1=k:=fun z=>e (h1.trans z);have b:atKey (q::qs) k=atKey qs k:=by simp[atKey,BK,e']
   rw[mG e,b];exact ih
theorem KT.repl{xs:List (List jl×Addr×Value)}(r:KT H kvs xs)(k:List jl){y:V}(ry:zw y u):
 KT H (kvs.map fun kv=>if kv.1=k then(kv.1,y) else kv) (xs.map (putAt k u)):=by
 induction r with
 |nil=>exact .nil
 |@cons p q ps qs h t ih=>
  rw[Az,Az];refine .cons ?_ ih;obtain⟨h1,h2,h3⟩:=h;unfold putAt;by_cases e:p.1=k
  ·rw[AD e,AD (h1.symm.trans e)];exact⟨h1,h2,ry⟩
  ·rw[Ay e,Ay (fun z=>e (h1.trans z))];exact⟨h1,h2,h3⟩
theorem KT.put{xs:List (List jl×Addr×Value)}(r:KT H kvs xs)(k:List jl){b:Addr}{y:V}(hb:H b=some (.tup (k.map kV)))(ry:zw y u):
 KT H (dM kvs k y) (storedH xs k b u):=by
 have e:(kvs.any fun kv=>decide (kv.1=k))=(atKey xs k).isSome:=by rw[rP,(r.val k).isSome_eq,Option.isSome_map]
 unfold dM storedH;rw[e];by_cases q:(atKey xs k).isSome=true
 ·rw[AD q,AD q];exact r.repl k ry
 ·rw[Ay q,Ay q];exact Paired.snoc r ⟨rfl,hb,ry⟩
theorem KT.keeps{xs:List (List jl×Addr×Value)}(r:KT H kvs xs)(ht:∀b ys,H b=some (.tup ys)->H' b=some (.tup ys)):KT H' kvs xs:=
 EI r fun _ _ z=>⟨z.1,ht _ _ z.2.1,z.2.2⟩
section
variable {P:Program}{w:World}{a:Addr}
theorem ags{u:HO}(ok:eV P w H h)(e:Rd H a u):xq P w H h a u:=e.ok ok
theorem vY{kvs:List (jl×V)}(ok:eV P w H h)(e:Rd H a (.dK kvs)):kvs.length≤sizeLine/\(a==sysModules)=false/\∃vs,KV kvs vs/\h.DictOf (xw P w) a vs:=
 show xq P w H h a (.dK kvs) from ags ok e
theorem agn{kvs:List (jl×V)}(ok:eV P w H h)(e:H a=some (.dK kvs)):kvs.length≤sizeLine/\(a==sysModules)=false/\∃vs,KV kvs vs/\h.DictOf (xw P w) a vs:=vY ok (.inl e)
theorem vB{ks:List jl}(ok:eV P w H h)(e:H a=some (.tup (ks.map kV))):(tupleKind (xw P w)).is h ks a:=by obtain⟨_,its,r,o,h1,h2,n,h3⟩:=(show xq P w H h a (.tup (ks.map kV)) from ok a _ e);exact⟨o,its.toArray,n,h1,h2,h3,by simpa using oP r⟩
theorem abh(ok:eV P w H h)(e:Rd H a (.dT kvs)):kvs.length≤sizeLine/\(a==sysModules)=false/\
 ∃xs,KT H kvs xs/\h.DictOfH (tupleKind (xw P w)) a xs:=by
 obtain⟨z,y,xs,r,o,es,ep,h1,h2,h3,h4,h5⟩:=(show xq P w H h a (.dT kvs) from ags ok e);refine⟨z,y,xs,r,o,es,ep,h1,h2,h3,h4,fun x hx=>?_,h5⟩;have all:∀{l:List (List jl×V)} {m:List (List jl×Addr×Value)},KT H l m->∀x∈m,(tupleKind (xw P w)).is h x.1 x.2.1:=by
  intro l m q
  induction q with
  |nil=>intro x hx;exact nomatch hx
  |@cons p q ps qs hq t ih=>
   intro x hx;rcases Av.mp hx with e | hx
   ·subst e;exact vB ok (by rw[<-hq.1];exact hq.2.1)
   ·exact ih x hx
 exact all r x hx
theorem alt(ok:eV P w H h)(e:H a=some (.dT kvs)):kvs.length≤sizeLine/\(a==sysModules)=false/\
 ∃xs,KT H kvs xs/\h.DictOfH (tupleKind (xw P w)) a xs:=abh ok (.inl e)
end
def aif(H:Hp)(a:Addr)(y:V)(r:Option V):Prop:=
 (∃kvs k,Rd H a (.dK kvs)/\y=kV k/\r=fS kvs k)\/∃kvs k b,Rd H a (.dT kvs)/\y=.ref b/\H b=some (.tup (k.map kV))/\r=fS kvs k
def alg(H:Hp)(a:Addr)(y v:V)(H':Hp):Prop:=
 (∃kvs k,H a=some (.dK kvs)/\y=kV k/\kvs.length<sizeLine/\H'=upd H a (.dK (dM kvs k v)))\/
 ∃kvs k b,H a=some (.dT kvs)/\y=.ref b/\H b=some (.tup (k.map kV))/\kvs.length<sizeLine/\H'=upd H a (.dT (dM kvs k v))
section
variable {a:Addr}{y:V}{r:Value}{o:Option V} 
theorem z9.big(I:z9 X pins σ H s):sysModules<s.heap.objs.size:=by have h:mainGlobals<s.heap.objs.size:=(I.mod.glob.keeps I.bk).lt;exact C4 (by decide) h
theorem yx(hu:A.units+1<cLine)(I:z9 X pins σ H s)(g:aif H a y (some v))(ry:zw y u)(h:∀w' s',z9 X pins σ H s'->zw v w'->Q w' s'):
 wpAny (model X.prog X.w) A (getItem (.ref a) u) Q E s:=by
 rcases g with⟨kvs,k,e,ey,l⟩ | ⟨kvs,k,b,e,ey,eb,l⟩
 ·subst ey;obtain⟨z,hd,vs,rel,dd⟩:=vY I.hok e;obtain⟨w',hw,rw'⟩:=EO (v:=v) (o:=valueAt vs k) (by rw[l];exact rel.val k);exact wpAny_getItem_of (nW ry) dd.mapOf hw (h w' _ (I.tok _) rw')
 ·subst ey;cases (show u=Value.ref b from ry);obtain⟨z,hd,xs,rel,dd⟩:=abh I.hok e;obtain⟨w',hw,rw'⟩:=EO (v:=v) (o:=(atKey xs k).map (·.2)) (by rw[l];exact rel.val k);obtain⟨p,hp,hp2⟩:=Ap.mp hw;refine wpAny_getItem_heap (tupleKind_room_in1 hu) (vB I.hok eb) dd hp ?_;rw[hp2];exact h w' _ (I.tok _) rw'
theorem pJ{ob:HO}(I:z9 X pins σ H s)(mu:Mut (H a))(hs:Heap.SameBut a s.heap h')(he:∃q,h'.get? a=some q)(new:xq X.prog X.w (upd H a ob) h' a ob)(ht:0<t':=by walk_at "t"):
 z9 X pins σ (upd H a ob) { s with heap:=h',toks:=t' }:=
 I.write (x:=a) (e:=a) mu (.inl rfl) (fun b q hb z=>(hs.2 b hb).trans z) he new
theorem aca{P:Program}{w:World}{kvs:List (jl×V)}{vs:List (jl×Value)}(z:kvs.length≤sizeLine)(hd:(a==sysModules)=false)(rel:KV kvs vs)(dd:h'.DictOf (xw P w) a vs):
 xq P w H' h' a (.dK kvs):=⟨z,hd,vs,rel,dd⟩
theorem zD{Q:Unit->Shared->Prop}(hu:A.units+1<cLine)(I:z9 X pins σ H s)(g:alg H a y v H')(ry:zw y u)(rv:zw v r)(h:∀s',z9 X pins σ H' s'->Q () s'):
 wpAny (model X.prog X.w) A (setItem (.ref a) u r) Q E s:=by
 rcases g with⟨kvs,k,e,ey,l,eH⟩ | ⟨kvs,k,b,e,ey,eb,l,eH⟩
 ·subst ey eH;obtain⟨z,hd,vs,rel,dd⟩:=agn I.hok e;have hz:vs.length≤sizeLine:=by rw[<-rel.length];exact z
  have hl:(dM kvs k v).length≤sizeLine:=by have:=db kvs k v;omega
  refine wpAny_setItem_pairs (hsz:=hz) (nW ry) dd fun h' dd' hs=>h _ ?_;have he:∃q,h'.get? a=some q:=let ⟨q,_,_,hq,_⟩:=dd';⟨q,hq⟩;exact pJ I (by rw[e];exact True.intro) hs he (aca hl hd (rel.put k rv) dd')
 ·subst ey eH;cases (show u=Value.ref b from ry);obtain⟨z,hd,xs,rel,dd⟩:=alt I.hok e;have hz:xs.length≤sizeLine:=by rw[<-Paired.length rel];exact z
  have hl:(dM kvs k v).length≤sizeLine:=by have:=db kvs k v;omega
  refine wpAny_setItem_heap (hsz:=hz) (tupleKind_room_in1 hu) (vB I.hok eb) dd fun h' dd' hs=>h _ ?_;obtain⟨q,es,ep,hq,h2,h3,h4,_,h5⟩:=dd';refine pJ I (by rw[e];exact True.intro) hs ⟨q,hq⟩ ⟨hl,hd,_,(rel.put k eb rv).keeps fun c ys ec=>?_,q,es,ep,hq,h2,h3,h4,h5⟩;rw[qu (amg ec e (fun z=>nomatch z))];exact ec
end
section
variable {a:Addr}{kvs:List (jl×V)}{k:jl} 
end
def ail(i:Expr):Prop:=∀ov iv,subscripted i false ov iv=operate [ov,iv] (getItem ov iv)
theorem adm{w:World}{slice:Expr}{T id:String}
 (hl:typeLookup (.type T) "__getitem__" = pure (some (.builtin id))) (hs:ail slice)
 (h:wpAny (model prog w) A (eval value env) (fun o s₁=>wpAny (model prog w) A (eval slice env) (fun i s₂=>s₂.TypeIs o T/\wpAny (model prog w) A (getItem o i) Q E s₂) E s₁) E s):
 wpAny (model prog w) A (eval (.Subscript value slice pos) env) Q E s:=by
 refine Subscript_ (AX h (fun o s₁ h₁=>AX h₁ (fun i s₂ h₂=>?_) fun _ _ x=>x) fun _ _ x=>x);obtain⟨hT,h₂⟩:=h₂;unfold subscriptTail;refine Aa ?_;rw[getitemInPython_of_ne hT.not_modules];refine Aa (wpAny_specialOf hT hl ?_);have xr:wpAny (model prog w) A (subscripted slice false o i) (fun r s₃=>wpAny (model prog w) A (letTemporaryGo value o r >>= fun _=>pure r) Q E s₃) E s₂:=by rw[hs o i];exact wpAny_operating (AX h₂ (fun r s₃ h₃=>Aa (wpAny_letTemporaryGo (Ag h₃))) fun _ _ x=>x)
 first
  |exact Ag (Aa xr)
  |exact Aa (Ag (Aa xr))
  |exact Aa xr
theorem tK{a:Addr}{y:V}{o:Option V}(I:z9 X pins σ H s)(g:aif H a y o):s.TypeIs (.ref a) "dict" := by
 rcases g with⟨kvs,k,e,_,_⟩ | ⟨kvs,k,b,e,_,_,_⟩
 ·obtain⟨_,_,vs,_,dd⟩:=vY I.hok e;exact dd.typeIs
 ·obtain⟨_,_,xs,_,dd⟩:=abh I.hok e;exact dd.typeIs
def alr(td ty:TE):TE:=fun σ H Q=>td σ H fun x H1=>ty σ H1 fun y H2=>∃a v,x=.ref a/\aif H2 a y (some v)/\Q v H2
def an8(td ty tv:TE):TS:=fun D σ H=>tv σ H fun v H1=>td σ H1 fun x H2=>ty σ H2 fun y H3=>∃a H4,x=.ref a/\alg H3 a y v H4/\D.nx σ H4
section
variable {i:Expr}{tpos:Pos}{td ty tv:TE}
theorem adn(hu:X.A.units+1<cLine)(ho:PE X o td)(hi:PE X i ty)(hs:ail i):PE X (.Subscript o i pos) (alr td ty):=by intro pins s σ H Q I h;refine adm DH.lookup hs (va (ho pins s σ H _ I h) fun u s1 ⟨x,H1,I1,rx,q1⟩=>va (hi pins s1 σ H1 _ I1 q1) fun iv s2 ⟨y,H2,I2,ry,a,v,ex,g,q2⟩=>?_);subst ex;obtain rfl:u=Value.ref a:=rx;exact⟨tK I2 g,yx hu I2 g ry fun w' s3 I3 rw'=>⟨v,H2,I3,rw',q2⟩⟩
theorem aen(hu:X.A.units+1<cLine)(ho:PE X o td)(hi:PE X i ty)(hv:PE X value tv)(hs:swapsWith value (some (.Subscript o i pos')) pos.line X.env=pure false):
 PS X (.Assign [.Subscript o i pos'] value pos) (an8 td ty tv):=by
 intro pins s σ H D I h;refine wpAny_Assign_Subscript (va (hv pins s σ H _ I h) fun r s1 ⟨v,H1,I1,rv,q1⟩=>va (ho pins s1 σ H1 _ I1 q1) fun u s2 ⟨x,H2,I2,rx,q2⟩=>va (hi pins s2 σ H2 _ I2 q2) fun iv s3 ⟨y,H3,I3,ry,a,H4,ex,g,q3⟩=>?_) hs;subst ex;obtain rfl:u=Value.ref a:=rx;exact zD hu I3 g ry rv fun s4 I4=>⟨σ,H4,I4,q3⟩
end
theorem qV{P:Program}{w:World}(h:Heap)(hb:sysModules<h.objs.size):xq P w H (h.push { cls:=.type "dict",data:=.dict #[] }) h.objs.size (.dK []):=
 ⟨Bb _,beq_eq_false_iff_ne.mpr (AN (A3 hb)),[],.nil,Heap.DictOf.new h⟩
def ajx:TE:=fun _ H Q=>∀p,H p=none->Q (.ref p) (upd H p (.dK []))
section
theorem aan:PE X (.Dict [] [] pos) ajx:=fun pins s σ H Q I h=>
 wpAny_Dict_empty ⟨.ref s.heap.objs.size,_,I.laid (a:=s.heap.objs.size) (o:=.dK []) (t':=s.toks) (fun _ _ q=>Heap.get?_push_of_some _ q) (Ao _) (qV s.heap I.big),rfl,h _ (I.hok.fresh (Ao _))⟩
end
def ph:List (TE×TE)->St->Hp->(List (V×V)->Hp->Prop)->Prop
 |[],_,H,Q=>Q [] H
 |(tk,tv)::r,σ,H,Q=>tk σ H fun x H1=>tv σ H1 fun y H2=>ph r σ H2 fun ps H3=>Q ((x,y)::ps) H3
abbrev VV:List (V×V)->List (Value×Value)->Prop:=Paired fun p q=>zw p.1 q.1/\zw p.2 q.2
def PPs(X:Cx)(pos:Pos)(keys:List (Option Expr))(values:List Expr)(trs:List (TE×TE)):Prop:=
 ∀(pins:List (Addr×Obj)) (s:Shared) (σ:St) (H:Hp) (Q:List (V×V)->Hp->Prop),z9 X pins σ H s->ph trs σ H Q->
  wpAny (model X.prog X.w) X.A (evalPairs (pairTrees keys values X.env pos)) (fun vs s'=>∃ps H',z9 X pins σ H' s'/\VV ps vs/\Q ps H') X.xe s
theorem afi :PPs X pos [] [] []:=fun pins s σ H Q I h=>pairTrees_nil_walk ⟨[],H,I,.nil,h⟩
theorem gQ{k v:Expr}{ks:List (Option Expr)}{vs:List Expr}{tk tv:TE}{trs:List (TE×TE)}(hk:PE X k tk)(hv:PE X v tv)(hr:PPs X pos ks vs trs):
 PPs X pos (some k::ks) (v::vs) ((tk,tv)::trs):=fun pins s σ H Q I h=>
 pairTrees_cons_walk (va (hk pins s σ H _ I h) fun u s1 ⟨x,H1,I1,rx,q1⟩=>va (hv pins s1 σ H1 _ I1 q1) fun w2 s2 ⟨y,H2,I2,ry,q2⟩=>
  va (hr pins s2 σ H2 _ I2 q2) fun ws s3 ⟨ps,H3,I3,rel,q3⟩=>⟨(x,y)::ps,H3,I3,.cons ⟨rx,ry⟩ rel,q3⟩)
def gi(kvs more:List (jl×V)):List (jl×V):=more.foldl (fun acc kv=>dM acc kv.1 kv.2) kvs
theorem KV.merge:∀{more:List (jl×V)} {rs:List (jl×Value)} {kvs:List (jl×V)} {vs:List (jl×Value)},KV more rs->KV kvs vs->KV (gi kvs more) (merged vs rs):=by
 intro more rs kvs vs r;unfold KV at r
 induction r generalizing kvs vs with
 |nil=>intro q;exact q
 |@cons p q ps qs h t ih=>
  intro r0;have e:KV (dM kvs p.1 p.2) (stored vs q.1 q.2):=by have:=r0.put p.1 h.2;rw[<-h.1];exact this
  exact ih e
theorem eU:∀(more kvs:List (jl×V)),(gi kvs more).length≤kvs.length+more.length
 |[],kvs=>by show kvs.length≤kvs.length+0;omega
 |p::r,kvs=>by have h1:=eU r (dM kvs p.1 p.2);have h2:=db kvs p.1 p.2;show(gi (dM kvs p.1 p.2) r).length≤_;rw[AG];omega
theorem jZ{P:Program}{w:World}:∀{kvs:List (jl×V)} {ws:List (Value×Value)},VV (kvs.map fun kv=>(kV kv.1,kv.2)) ws->∃rs,Carries (xw P w) ws rs/\KV kvs rs
 |[],_,r=>by rw[C3] at r;cases r;exact⟨[],True.intro,.nil⟩
 |p::kvs,_,r=>by
  rw[Az] at r;cases r with
  |@cons a b as bs h t=>
   obtain⟨rs,c,q⟩:=jZ (P:=P) (w:=w) t;obtain⟨b1,b2⟩:=b;exact⟨(p.1,b2)::rs,⟨nW h.1,rfl,c⟩,.cons ⟨rfl,h.2⟩ q⟩
def an0(trs:List (TE×TE)):TE:=fun σ H Q=>∀p,H p=none->ph trs σ (upd H p (.dK [])) fun ps H2=>H2 p=some (.dK [])/\∃kvs:List (jl×V),ps=kvs.map (fun kv=>(kV kv.1,kv.2))/\kvs.length≤15/\Q (.ref p) (upd H2 p (.dK (gi [] kvs)))
theorem aei{keys:List (Option Expr)}{values:List Expr}{trs:List (TE×TE)}(h:PPs X pos keys values trs)(hall:keys.all (·.isSome)=true)(hl:keys.length=values.length)(h0:keys≠[])
 (h15:keys.length≤15):PE X (.Dict keys values pos) (an0 trs):=by
 intro pins s σ H Q I q;have hn:=I.hok.fresh (Ao s.heap.objs.size);have I1:=I.laid (a:=s.heap.objs.size) (o:=.dK []) (h':=s.heap.push { cls:=.type "dict",data:=.dict #[] }) (t':=s.toks) (fun _ _ q=>Heap.get?_push_of_some _ q) (Ao _) (qV s.heap I.big);refine wpAny_Dict_walk (knd:=xw X.prog X.w) hall hl h0 h15 (va (h pins _ σ _ _ I1 (q _ hn)) fun ws s2 ⟨ps,H2,I2,rel,e,kvs,ep,lk,q2⟩=>?_);subst ep;obtain⟨rs,c,rk⟩:=jZ (P:=X.prog) (w:=X.w) rel;obtain⟨z,hd,vs0,r0,dd⟩:=agn I2.hok e;cases r0;refine⟨rs,c,dd,fun h' dd' hs=>⟨.ref s.heap.objs.size,_,?_,rfl,q2⟩⟩;have hz:(gi [] kvs).length≤sizeLine:=by have h1:=eU kvs [];rw[List.length_nil] at h1;rw[sizeLine_eq];omega
 have he:∃q,h'.get? s.heap.objs.size=some q:=let ⟨q,_,_,hq,_⟩:=dd';⟨q,hq⟩;exact pJ I2 (by rw[e];exact True.intro) hs he (aca hz hd (rk.merge .nil) dd')
section
variable {a:Addr}{y d:V}{r:Value}{o:Option V} 
end
section
variable {f:Expr}{td ty tx:TE}
end
section
variable {a:Addr}{kvs:List (jl×V)} 
end
section
variable {a:Addr}{y:V} 
end
end L2
namespace HT
open PySem PyProof.Rows
section
open PySem.SeqAt
open PySem.AutoSeq1 (wpAny_loadPart')
open PySem.MeetsSeq PySem.MeetsSeq2 PySem.MeetsSeq3
end
section
variable {w:World} 
def sIx(n d:Nat):Option Int->Nat
 |none=>d
 |some v=>if v<0 then(v+(n:Int)).toNat else min v.toNat n
theorem sIx_none(n d:Nat):sIx n d none=d:=rfl
theorem sIx_nat(n d k:Nat):sIx n d (some (k:Int))=min k n:=by show(if (k:Int)<0 then((k:Int)+(n:Int)).toNat else min (k:Int).toNat n)=min k n;rw[Ay (by omega),BU]
theorem sIx_le(n d:Nat)(hd:d≤n)(o:Option Int):sIx n d o≤n:=by
 cases o with
 |none=>exact hd
 |some v=>
  show(if v<0 then(v+(n:Int)).toNat else min v.toNat n)≤n;by_cases hv:v<0
  ·rw[AD hv];omega
  ·rw[Ay hv];exact Nat.min_le_right _ _
theorem wE(v:Int)(n d:Nat):(if v<0 then max (v+(n:Int)) 0 else min v (n:Int))=((sIx n d (some v):Nat):Int):=by
 show(if v<0 then max (v+(n:Int)) 0 else min v (n:Int))=(((if v<0 then(v+(n:Int)).toNat else min v.toNat n):Nat):Int);by_cases hv:v<0
 ·simp only[AD hv];omega
 ·simp only[Ay hv];omega
theorem uh(lo hi:Option Int)(n:Nat):Builtin.Slice.sliceAdjust lo hi 1 (n:Int)=(((sIx n 0 lo:Nat):Int),((sIx n n hi:Nat):Int)):=by
 have h1:¬((1:Int)<0):=by omega
 unfold Builtin.Slice.sliceAdjust;simp only[h1,if_false];refine Ej ?_ ?_
 ·cases lo with|none=>rfl|some v=>exact wE v n 0
 ·cases hi with|none=>rfl|some v=>exact wE v n n
theorem uD(i j:Nat):Builtin.Slice.slicePlaces (i:Int) (j:Int) 1=j - i:=by
 unfold Builtin.Slice.slicePlaces;have h1:(1:Int) > 0:=by omega
 simp only[h1,if_true,Int.ediv_one];split<;>omega
theorem lH{v:Value}{o:Option Int}{Q:Option Int->Shared->Prop}(p:IsPart v o)(h:Q o s):wpAny (model prog w) A (Builtin.Slice.slicePartIndex v) Q E s:=by cases p with|none=>exact slicePart_none h|int i t=>exact slicePart_int h
theorem gy{sl:Addr}{vl vu:Value}{lo hi:Option Int}{Q:Int×Int×Nat->Shared->Prop}(hs:s.heap.IsSliceOf sl vl vu .none)(pl:IsPart vl lo)(pu:IsPart vu hi)
 (h:Q (((sIx n 0 lo:Nat):Int),1,sIx n n hi - sIx n 0 lo) s):wpAny (model prog w) A (Builtin.Slice.sliceApplied (.ref sl) (pure (n:Int))) Q E s:=by
 obtain⟨os,hos,hcs,hds⟩:=id hs;unfold Builtin.Slice.sliceApplied Builtin.Slice.sliceFields;refine Aa (Aa (Bc hos hds (x:=vl) rfl (Aa (Bc hos hds (x:=vu) rfl (Aa (Bc hos hds (x:=.none) rfl (Ag ?_)))))));refine Aa (slicePart_none ?_);show wpAny _ _ (if ((1:Int)==0)=true then _ else _) _ _ s;rw[Ay (by decide)];refine Aa (lH pl (Aa (lH pu (Aa (Ag ?_)))));show wpAny _ _ (match Builtin.Slice.sliceAdjust lo hi 1 (n:Int) with | (lo,hi)=>pure (lo,(1:Int),Builtin.Slice.slicePlaces lo hi 1)) _ _ s;rw[uh lo hi n];show wpAny _ _ (pure (((sIx n 0 lo:Nat):Int),(1:Int),Builtin.Slice.slicePlaces ((sIx n 0 lo:Nat):Int) ((sIx n n hi:Nat):Int) 1)) _ _ s;rw[uD];exact Ag h
theorem aae(xs:Array Value)(i k:Nat):((List.range k).filterMap fun(m:Nat)=>xs[((i:Int)+(m:Int)*1).toNat]?).toArray=((xs.toList.drop i).take k).toArray:=by
 have e:(fun(m:Nat)=>xs[((i:Int)+(m:Int)*1).toNat]?)=fun m=>xs[i+m]?:=by
  funext m;have:((i:Int)+(m:Int)*1).toNat=i+m:=by omega
  rw[this]
 rw[e];have:=pick_run xs i k;rw[List.filterMap_map] at this;have e2:((fun x=>xs[x]?)∘fun x=>i+x)=fun m=>xs[i+m]?:=rfl;rw[e2] at this;rw[this]
theorem getItem_tuple_cut{t sl:Addr}{items:Array Value}{vl vu:Value}{lo hi:Option Int}(ht:IsTup s.heap t items)(hs:s.heap.IsSliceOf sl vl vu .none)(pl:IsPart vl lo)(pu:IsPart vu hi)
 (hw:¬(sIx items.size 0 lo=0/\sIx items.size items.size hi=items.size))
 (h:Q (.ref s.heap.objs.size) { s with heap:=s.heap.push { cls:=.type "tuple",data:=.seq ((items.toList.drop (sIx items.size 0 lo)).take (sIx items.size items.size hi - sIx items.size 0 lo)).toArray } })
 (hsz:items.size≤sizeLine):wpAny (model prog w) A (getItem (.ref t) (.ref sl)) Q E s:=by
 have htake:sizeOk (.seq ((items.toList.drop (sIx items.size 0 lo)).take (sIx items.size items.size hi - sIx items.size 0 lo)).toArray):=by show((items.toList.drop (sIx items.size 0 lo)).take (sIx items.size items.size hi - sIx items.size 0 lo)).toArray.size≤sizeLine;rw[Am,AK,Bw,AJ];omega
 have hj:sIx items.size items.size hi≤items.size:=sIx_le _ _ (Ao _) hi;obtain⟨os,hos,hcs,hds⟩:=id hs;have hTs:s.TypeIs (.ref sl) "slice" := ⟨os,hos,hcs⟩;unfold getItem
 try with_reducible refine A7 ?_
 first | refine Aa (Ag ?_) | skip
 refine Aa (wpAny_sequenceKey ht.typeIs (by decide) ?_);refine Aa (wpAny_callSpecial?_slot (name:=Str.ofString "__getitem__") ht.typeIs Cd
  (wpAny_call_entry Cd ht.typeIs entry_tuple_getitem ?_ (args_tuple_getitem _ _)))
 show wpAny _ _ (Builtin.Tuple.tupleItemsOf (.ref t) >>= _) _ _ s;refine Aa (tupleItemsOf_ ht ?_);refine Aa (wpAny_typeOf hTs ?_);rw[AD (by decide)];refine Aa (gy hs pl pu ?_);have hno:¬((((sIx items.size 0 lo:Nat):Int)==0&&(1:Int)==1&&(sIx items.size items.size hi - sIx items.size 0 lo)==items.size)=true):=by intro q;rw[A1,A1] at q;have q1:((sIx items.size 0 lo:Nat):Int)=0:=eq_of_beq q.1.1;have q2:sIx items.size items.size hi - sIx items.size 0 lo=items.size:=eq_of_beq q.2;exact hw ⟨by omega,by omega⟩
 show wpAny _ _ (if (((sIx items.size 0 lo:Nat):Int)==0&&(1:Int)==1&&(sIx items.size items.size hi - sIx items.size 0 lo)==items.size)=true then _ else _) _ _ s;rw[Ay hno,aae]
 first
  |exact Aa (m:=Builtin.Tuple.tupleExact _) (Bk (Ag ⟨_,rfl,Ag h⟩) htake)
  |exact Aa (m:=Builtin.Tuple.tupleExact _) (Bk (Aa (Ag (Ag ⟨_,rfl,Ag h⟩))) htake)
  |exact Aa (Aa (m:=Builtin.Tuple.tupleExact _) (Bk (Ag (Ag ⟨_,rfl,Ag h⟩)) htake))
  |exact Aa (Aa (m:=Builtin.Tuple.tupleExact _) (Bk (Ag ⟨_,rfl,Ag h⟩) htake))
end
end HT
namespace L2
open PySem PySem.Spec PyProof.Rows
abbrev TO:=St->Hp->(Option Int->Hp->Prop)->Prop
def PO(X:Cx)(e:Option Expr)(t:TO):Prop:=
 ∀(pins:List (Addr×Obj)) (s:Shared) (σ:St) (H:Hp) (Q:Option Int->Hp->Prop),z9 X pins σ H s->t σ H Q->
  wpAny (model X.prog X.w) X.A (evalPart e X.env) (fun u s'=>∃o H',z9 X pins σ H' s'/\IsPart u o/\Q o H') X.xe s
def afv:TO:=fun _ H Q=>Q none H
def an5(t:TE):TO:=fun σ H Q=>t σ H fun x H1=>∃i,x=.int i/\Q (some i) H1
section
variable {te:TE}{lo hi:Option Expr}{tl th:TO} 
theorem ae2:PO X none afv:=by intro pins s σ H Q I h;rw[evalPart_none];exact Ag ⟨none,H,I,.none,h⟩
theorem af1(h:PE X e te):PO X (some e) (an5 te):=by intro pins s σ H Q I hw;rw[evalPart_some];refine va (h pins s σ H _ I hw) fun u s1 ⟨x,H1,I1,r1,q1⟩=>?_;obtain⟨i,rfl,q⟩:=q1;obtain⟨t,rfl⟩:=r1;exact⟨some i,H1,I1,.int i t,q⟩
def qT(X:Cx)(r:V->Option Int->Option Int->Hp->VK->Prop):Prop:=
 ∀(pins:List (Addr×Obj)) (s:Shared) (σ:St) (H:Hp) (x:V) (v vl vu:Value) (lo hi:Option Int) (sl:Addr) (Q:VK),z9 X pins σ H s->zw x v->s.heap.IsSliceOf sl vl vu .none->IsPart vl lo->IsPart vu hi->r x lo hi H Q->
  ∃T id,typeLookup (.type T) "__getitem__" = pure (some (.builtin id))/\s.TypeIs v T/\wpAny (model X.prog X.w) X.A (getItem v (.ref sl)) (EP X pins σ Q) X.xe s
theorem qT.or{r':V->Option Int->Option Int->Hp->VK->Prop}(h:qT X r)(h':qT X r'):qT X (fun x lo hi H Q=>r x lo hi H Q\/r' x lo hi H Q):=by
 intro pins s σ H x v vl vu lo hi sl Q I rx hs pl pu q;rcases q with q | q
 ·exact h pins s σ H x v vl vu lo hi sl Q I rx hs pl pu q
 ·exact h' pins s σ H x v vl vu lo hi sl Q I rx hs pl pu q
def tSl(r:V->Option Int->Option Int->Hp->VK->Prop)(te:TE)(tl th:TO):TE:=fun σ H Q=>te σ H fun x H1=>tl σ H1 fun l H2=>th σ H2 fun u H3=>r x l u H3 Q
theorem aar(hr:qT X r)(he:PE X e te)(hl:PO X lo tl)(hu:PO X hi th):PE X (.Subscript e (.Slice lo hi none p2) pos) (tSl r te tl th):=by intro pins s σ H Q I h;refine Subscript_ (va (he pins s σ H _ I h) fun v s1 ⟨x,H1,I1,r1,q1⟩=>?_);refine wpAny_Slice (va (hl pins s1 σ H1 _ I1 q1) fun vl s2 ⟨l,H2,I2,pl,q2⟩=>va (hu pins s2 σ H2 _ I2 q2) fun vu s3 ⟨u,H3,I3,pu,q3⟩=>?_);rw[evalPart_none];refine Ag ?_;have I4:z9 X pins σ H3 { s3 with heap:=s3.heap.push { cls:=.type "slice",data:=.fields #[vl,vu,.none] } }:=I3.kept (t':=s3.toks) fun b ob q=>Heap.get?_push_of_some _ q;obtain⟨T,id,hT,ht,hg⟩:=hr pins { s3 with heap:=s3.heap.push { cls:=.type "slice",data:=.fields #[vl,vu,.none] } } σ H3 x v vl vu l u s3.heap.objs.size Q I4 r1 (Heap.IsSliceOf.new ..) pl pu q3;show wpAny (model X.prog X.w) X.A (subscriptTail e (.Slice lo hi none p2) v (.ref s3.heap.objs.size)) (EP X pins σ Q) X.xe { s3 with heap:=s3.heap.push { cls:=.type "slice",data:=.fields #[vl,vu,.none] } };exact tail_any (ops:=[.ref s3.heap.objs.size,v]) ht hT hg (by with_unfolding_all rfl)
def sk(xs:List V)(lo hi:Option Int):List V:=(xs.drop (HT.sIx xs.length 0 lo)).take (HT.sIx xs.length xs.length hi - HT.sIx xs.length 0 lo)
theorem iM(xs:List V)(lo hi:Option Int):(sk xs lo hi).length≤xs.length:=by unfold sk;rw[AK,Bw];omega
def asn(K:Ai):V->Option Int->Option Int->Hp->VK->Prop:=fun x lo hi H Q=>∃a xs,x=.ref a/\dF K H a xs/\
 ¬(HT.sIx xs.length 0 lo=0/\HT.sIx xs.length xs.length hi=xs.length)/\∀p,H p=none->Q (.ref p) (upd H p (.tup (sk xs lo hi)))
theorem aho:qT X (asn X.K):=by
 intro pins s σ H x v vl vu lo hi sl Q I rx hs pl pu h;obtain⟨a,xs,rfl,hx,hw,q⟩:=h;cases rx;obtain⟨its,r,ht,hz⟩:=I.tuple hx;have hlen:its.toArray.size=xs.length:=by rw[Am];exact r.length.symm
 refine⟨"tuple",_,Cd.lookup,ht.typeIs,?_⟩;refine HT.getItem_tuple_cut ht hs pl pu (by rw[hlen];exact hw) ?_ (by rw[hlen];exact hz);rw[hlen];refine⟨.ref s.heap.objs.size,_,I.laid (t':=s.toks) (o:=.tup (sk xs lo hi)) (fun b ob q=>Heap.get?_push_of_some _ q) (Ao _) ?_,rfl,q _ (I.hok.fresh (Ao _))⟩;exact⟨AS (iM xs lo hi) hz,_,(r.drop (HT.sIx xs.length 0 lo)).take (HT.sIx xs.length xs.length hi - HT.sIx xs.length 0 lo),IsTup.new _ _⟩
end
def ixN(n:Nat)(i:Int):Option Nat:=if 0≤i then(if i<n then some i.toNat else none) else if -(n:Int)≤i then some (i+n).toNat else none
def g9(xs:List α)(i:Int):Option α:=(ixN xs.length i).bind fun j=>xs[j]?
theorem vW{i:Int}(h:ixN n i=some j):seqIndex? i n=some j/\j<n /\ -(n:Int)≤i/\i<n:=by
 unfold ixN at h;by_cases h0:0≤i
 ·rw[AD h0] at h;by_cases h1:i<n
  ·rw[AD h1] at h;have e:i.toNat=j:=Be h;exact⟨by rw[seqIndex_of h0 h1,e],by omega,by omega,h1⟩
  ·rw[Ay h1] at h;cases h
 ·rw[Ay h0] at h;by_cases h1 : -(n:Int)≤i
  ·rw[AD h1] at h;have e:(i+n).toNat=j:=Be h;exact⟨by rw[seqIndex_neg (by omega) h1,e],by omega,h1,by omega⟩
  ·rw[Ay h1] at h;cases h
theorem qI{xs:List α}{i:Int}{v:α}(h:g9 xs i=some v):∃j,seqIndex? i xs.length=some j/\xs[j]?=some v/\j<xs.length /\ -(xs.length:Int)≤i/\i<xs.length:=by
 unfold g9 at h;cases e:ixN xs.length i with
 |none=>rw[e] at h;cases h
 |some j=>
  rw[e] at h;obtain⟨h1,h2,h3,h4⟩:=vW e;exact⟨j,h1,h,h2,h3,h4⟩
theorem k7{xs:List α}{v:α}(h:xs[j]?=some v):g9 xs (j:Int)=some v:=by
 have hj:j<xs.length:=(AZ.mp h).1;have e:ixN xs.length (j:Int)=some j:=by unfold ixN;rw[AD (by omega),AD (by omega)];simp
 unfold g9;rw[e];exact h
def qK(b:Expr):Prop:=∀o i,subscripted b false o i=operate [o,i] (getItem o i)
def IxR(X:Cx)(r:R2):Prop:=
 ∀(value slice:Expr) (pins:List (Addr×Obj)) (s:Shared) (σ:St) (H:Hp) (x y:V) (v u:Value) (Q:VK),z9 X pins σ H s->zw x v->zw y u->r x y H Q->
  subscripted slice false v u=operate [v,u] (getItem v u)->wpAny (model X.prog X.w) X.A (subscriptTail value slice v u) (EP X pins σ Q) X.xe s
def MtR(X:Cx)(id:String)(r:V->List V->Hp->VK->Prop):Prop:=
 ∀(pins:List (Addr×Obj)) (s:Shared) (σ:St) (H:Hp) (x:V) (xs:List V) (v:Value) (us:List Value) (Q:VK),z9 X pins σ H s->zw x v->zp xs us->r x xs H Q->
  wpAny (model X.prog X.w) X.A (call (.builtin id) (v::us)) (EP X pins σ Q) X.xe s
section
variable {a b:Expr}{ta tb:TE} 
theorem amh{r:R2}(hr:IxR X r)(ha:PE X a ta)(hb:PE X b tb)(hs:qK b):PE X (.Subscript a b pos) (tOp r ta tb):=by intro pins s σ H Q I h;exact Subscript_ (ahp ha hb I h fun v u s2 x y H2 I2 rx ry q=>hr a b pins s2 σ H2 x y v u Q I2 rx ry q (hs _ _))
def arh(K:Ai):R2:=fun x y H Q=>∃p xs i v,x=.ref p/\y=.int i/\aE K H p xs/\g9 xs i=some v/\Q v H
def at0(K:Ai):R2:=fun x y H Q=>∃p xs i v,x=.ref p/\y=.int i/\dF K H p xs/\g9 xs i=some v/\Q v H
def aqk:R2:=fun x y H Q=>∃z i c,x=.str z/\y=.int i/\z.length≤sizeLine/\g9 z.cps.toList i=some c/\Q (.str ⟨#[c]⟩) H
theorem aey:IxR X (arh X.K):=by
 intro value slice pins s σ H x y v u Q I rx ry h hs;obtain⟨p,xs,i,z,rfl,rfl,hq,he,q⟩:=h;cases rx;obtain⟨t,rfl⟩:=ry;obtain⟨its,r,pl,hz⟩:=I.list hq;obtain⟨j,h1,h2,h3,h4,h5⟩:=qI he;obtain⟨w,ew,rw'⟩:=r.get h2;have hl:=r.length;have hn:=gx;have xr:EP X pins σ Q w s:=⟨z,H,I,rw',q⟩;by_cases h0:0≤i
 ·have hj:i.toNat=j:=by rw[seqIndex_of h0 h5] at h1;exact Be h1
  exact item_listR pl.isList h0 (by omega) (by rw[hj];simpa using ew) xr hs
 ·have hj:(i+(its.toArray.size:Int)).toNat=j:=by rw[seqIndex_neg (by omega) h4] at h1;rw[Am,<-hl];exact Be h1
  exact subscriptTail_builtinR (x:=w) pl.isList.typeIs slot_list_getitem.lookup
   (wpAny_getItem_list_neg (Q:=fun r s'=>r=w/\EP X pins σ Q r s') pl.isList (by omega) (by rw[Am]<;>omega) (by omega) (by rw[hj];simpa using ew) ⟨rfl,xr⟩) hs
theorem ahg:IxR X (at0 X.K):=by
 intro value slice pins s σ H x y v u Q I rx ry h hs;obtain⟨p,xs,i,z,rfl,rfl,hq,he,q⟩:=h;cases rx;obtain⟨t,rfl⟩:=ry;obtain⟨its,r,pl,hz⟩:=I.tuple hq;obtain⟨j,h1,h2,h3,h4,h5⟩:=qI he;obtain⟨w,ew,rw'⟩:=r.get h2;have hl:=r.length;have hn:=gx;have xr:EP X pins σ Q w s:=⟨z,H,I,rw',q⟩;exact subscriptTail_builtinR (x:=w) pl.typeIs slot_tuple_getitem.lookup
  (getItem_tuple (j:=j) (Q:=fun r s'=>r=w/\EP X pins σ Q r s') pl (by omega) (by omega) (by rw[Am,<-hl];exact h1) (by simpa using ew) ⟨rfl,xr⟩) hs
theorem ajn:IxR X aqk:=by
 intro value slice pins s σ H x y v u Q I rx ry h hs;obtain⟨z,i,c,rfl,rfl,hz,he,q⟩:=h;obtain⟨t,rfl⟩:=rx;obtain⟨t',rfl⟩:=ry;obtain⟨j,h1,h2,h3,h4,h5⟩:=qI he;have hl:z.cps.toList.length=z.length:=by simp[Str.length]
 rw[hl] at h1 h4 h5;have hn:=gx;exact tail_any (typeIs_str s z t) slot_str_getitem.lookup (getItem_str (c:=c) (by have e1:decide (i < -(2 ^ 63:Int))=false:=Ax (by omega);have e2:decide (i≥2 ^ 63)=false:=Ax (by omega);rw[e1,e2,Bool.or_false]) (by rw[h1];simpa using h2) ⟨.str ⟨#[c]⟩,H,I.tok _,⟨_,rfl⟩,q⟩) hs
theorem vC(its:List Value)(n j:Nat)(u:Value):Obj.mapSeq (·.setIfInBounds j u) { cls:=.type "list",data:=.seq its.toArray n }={ cls:=.type "list",data:=.seq (its.set j u).toArray n }:=by simp[Obj.mapSeq]
theorem z9.lst{p:Addr}(I:z9 X pins σ H s)(h:H p=some (.lst xs)):
 ∃(its:List Value) (n:Nat),zp xs its/\s.heap.get? p=some { cls:=.type "list",data:=.seq its.toArray n }/\xs.length≤sizeLine:=by
 obtain⟨z,its,n,r,e⟩:=I.hok p _ h;exact⟨its,n,r,e,z⟩
theorem z9.lstUpd{p:Addr}{ys:List V}{its':List Value}{n':Nat}{f:Obj->Obj}(I:z9 X pins σ H s)(h:H p=some (.lst xs))
 (ho:s.heap.get? p=some { cls:=.type "list",data:=.seq its.toArray n }) (hf:f { cls:=.type "list",data:=.seq its.toArray n }={ cls:=.type "list",data:=.seq its'.toArray n' }) (r:zp ys its') (hz:ys.length≤sizeLine) (t:Nat) (ht:0<t:=by walk_at "t"):
 z9 X pins σ (upd H p (.lst ys)) { s with heap:=s.heap.update p f,toks:=t }:=by
 have e:(s.heap.update p f).get? p=some { cls:=.type "list",data:=.seq its'.toArray n' }:=by rw[Heap.get?_update_self f ho (by rw[hf]<;>rfl),hf]
 refine I.write (x:=p) (e:=p) (by rw[h];trivial) (.inl rfl) (fun b u hb q=>(Heap.get?_update_other _ _ (AN hb)).trans q) ⟨_,e⟩ ?_;exact⟨hz,its',n',r,e⟩
def amd:V->V->V->Hp->(Hp->Prop)->Prop:=fun o i v H Q=>∃p xs k j,o=.ref p/\i=.int k/\H p=some (.lst xs)/\ixN xs.length k=some j/\Q (upd H p (.lst (xs.set j v)))
theorem aaf:amn X amd:=by
 intro pins s σ H o i v ov iv u Q I ro ri rv h;obtain⟨p,xs,k,j,rfl,rfl,hp,hj,q⟩:=h;cases ro;obtain⟨t,rfl⟩:=ri;obtain⟨its,n,r,ho,hz⟩:=I.lst hp;obtain⟨h1,h2,h3,h4⟩:=vW hj;have hl:=r.length;have hn:=gx;have I':z9 X pins σ (upd H p (.lst (xs.set j v))) { s with heap:=s.heap.update p (Obj.mapSeq (·.setIfInBounds j u)) }:=
  I.lstUpd hp ho (vC its n j u) (r.set rv j) (by rw[B5];exact hz) s.toks
 by_cases h0:0≤k
 ·have hk:k.toNat=j:=by rw[seqIndex_of h0 h4] at h1;exact Be h1
  exact PySem.W.ki_setAt ho h0 (by omega) (by rw[Am,<-hl];exact h4) (by rw[hk];exact⟨_,I',q⟩)
 ·have hk:(k+(its.toArray.size:Int)).toNat=j:=by rw[seqIndex_neg (by omega) h3] at h1;rw[Am,<-hl];exact Be h1
  exact PySem.W.ki_setBack ho (by omega) (by rw[Am,<-hl];exact h3) (by omega) (by rw[hk];exact⟨_,I',q⟩)
theorem qL(lo hi:Option Int)(n:Nat):(sliceBounds lo hi none n).1=((HT.sIx n 0 lo:Nat):Int)/\(sliceBounds lo hi none n).2.1=((HT.sIx n n hi:Nat):Int)/\(sliceBounds lo hi none n).2.2=1:=by
 refine⟨?_,?_,rfl⟩
 ·cases lo with
  |none=>simp[sliceBounds,HT.sIx]
  |some i=>
   simp only[sliceBounds,HT.sIx,Option.getD_none,show(1:Int) > 0 by decide,if_true];by_cases h:i<0
   ·simp only[h,if_true]<;>omega
   ·simp only[h,if_false]<;>omega
 ·cases hi with
  |none=>simp[sliceBounds,HT.sIx]
  |some i=>
   simp only[sliceBounds,HT.sIx,Option.getD_none,show(1:Int) > 0 by decide,if_true];by_cases h:i<0
   ·simp only[h,if_true]<;>omega
   ·simp only[h,if_false]<;>omega
theorem mX(its:List Value)(lo hi:Option Int):slicePick its.toArray lo hi none=((its.drop (HT.sIx its.length 0 lo)).take (HT.sIx its.length its.length hi - HT.sIx its.length 0 lo)).toArray:=by obtain⟨h1,h2,h3⟩:=qL lo hi its.toArray.size;unfold slicePick;rw[h1,h2,h3];simp only[sliceRange_one,pick_run,Am]<;>rfl
def ars(K:Ai):V->Option Int->Option Int->Hp->VK->Prop:=fun x lo hi H Q=>∃a xs,x=.ref a/\aE K H a xs/\∀p,H p=none->Q (.ref p) (upd H p (.lst (sk xs lo hi)))
theorem aeo:qT X (ars X.K):=by intro pins s σ H x v vl vu lo hi sl Q I rx hs pl pu h;obtain⟨a,xs,rfl,hx,q⟩:=h;cases rx;obtain⟨its,r,ht,hz⟩:=I.list hx;have hlen:=r.length;refine⟨"list",_,slot_list_getitem.lookup,ht.isList.typeIs,?_⟩;refine wpAny_getItem_list_slice ht.isList hs pl pu .none (by simp) ?_ (by rw[Am]<;>omega);rw[mX,<-hlen];refine⟨.ref s.heap.objs.size,_,I.laid (t':=s.toks) (o:=.lst (sk xs lo hi)) (fun b ob q=>Heap.get?_push_of_some _ q) (Ao _) ?_,rfl,q _ (I.hok.fresh (Ao _))⟩;exact⟨AS (iM xs lo hi) hz,_,0,(r.drop (HT.sIx xs.length 0 lo)).take (HT.sIx xs.length xs.length hi - HT.sIx xs.length 0 lo),Heap.get?_push_size _ rfl⟩
def af:V->Bool
 |.non=>true
 |.bl _=>true
 |.int _=>true
 |.str _=>true
 |_=>false
def gj:V->V->Bool
 |.non,.non=>true
 |.bl a,.bl b=>a==b
 |.bl a,.int b=>(if a then 1 else 0)==b
 |.int a,.bl b=>a==(if b then 1 else 0)
 |.int a,.int b=>a==b
 |.str a,.str b=>a==b
 |_,_=>false
theorem ln{y x:V}{v:Value}(ry:zw y u)(rx:zw x v)(fy:af y=true)(fx:af x=true):SeqAt.EqAt A s u v (gj y x):=by
 cases y with
 |non=>
  cases ry;cases x with
  |non=>cases rx;exact SeqAt.EqAt.same _
  |bl b=>cases rx;exact SeqAt.EqAt.none_bool b
  |int b=>obtain⟨t,rfl⟩:=rx;exact SeqAt.EqAt.none_int b t
  |str b=>obtain⟨t,rfl⟩:=rx;exact SeqAt.EqAt.none_str b t
  |_=>exact absurd (show false=true from fx) AE
 |bl a=>
  cases ry;cases x with
  |non=>cases rx;exact SeqAt.EqAt.bool_none a
  |bl b=>cases rx;exact SeqAt.EqAt.bool_bool a b
  |int b=>obtain⟨t,rfl⟩:=rx;exact SeqAt.EqAt.bool_int a b t
  |str b=>obtain⟨t,rfl⟩:=rx;exact SeqAt.EqAt.bool_str a b t
  |_=>exact absurd (show false=true from fx) AE
 |int a=>
  obtain⟨t',rfl⟩:=ry;cases x with
  |non=>cases rx;exact SeqAt.EqAt.int_none a t'
  |bl b=>cases rx;exact SeqAt.EqAt.int_bool a t' b
  |int b=>obtain⟨t,rfl⟩:=rx;exact SeqAt.EqAt.int_int a t' b t
  |str b=>obtain⟨t,rfl⟩:=rx;exact SeqAt.EqAt.int_str a t' b t
  |_=>exact absurd (show false=true from fx) AE
 |str a=>
  obtain⟨t',rfl⟩:=ry;cases x with
  |non=>cases rx;exact SeqAt.EqAt.str_none a t'
  |bl b=>cases rx;exact SeqAt.EqAt.str_bool a t' b
  |int b=>obtain⟨t,rfl⟩:=rx;exact SeqAt.EqAt.str_int a t' b t
  |str b=>obtain⟨t,rfl⟩:=rx;exact SeqAt.EqAt.str_str a t' b t
  |_=>exact absurd (show false=true from fx) AE
 |_=>exact absurd (show false=true from fy) AE
def u6(x:V)(u:Value):Bool:=match u with
 |.none=>gj .non x
 |.bool b=>gj (.bl b) x
 |.int i _=>gj (.int i) x
 |.str z _=>gj (.str z) x
 |_=>false
theorem aa1{x y:V}(r:zw y u)(f:af y=true):u6 x u=gj y x:=by
 cases y with
 |non=>cases r;rfl
 |bl b=>cases r;rfl
 |int i=>obtain⟨t,rfl⟩:=r;rfl
 |str z=>obtain⟨t,rfl⟩:=r;rfl
 |_=>exact absurd (show false=true from f) AE
theorem gB{x:V}:∀{xs:List V} {us:List Value},zp xs us->xs.all af=true->us.any (u6 x)=xs.any fun y=>gj y x
 |_,_,.nil,_=>rfl
 |y::xs,u::us,.cons r t,f=>by rw[DN,A1] at f;rw[Ca,Ca,aa1 r f.1,gB t f.2]
theorem dz{A:Around}{s:Shared}{x:V}{v:Value}(rx:zw x v)(fx:af x=true):∀{xs:List V} {us:List Value},zp xs us->xs.all af=true->∀u∈us,SeqAt.EqAt A s u v (u6 x u)
 |_,_,.nil,_=>fun u hu=>by cases hu
 |y::xs,u::us,.cons r t,f=>fun u' hu=>by
  rw[DN,A1] at f;rcases Av.mp hu with rfl | hu
  ·rw[aa1 r f.1];exact ln r rx f.1 fx
  ·exact dz rx fx t f.2 u' hu
def tV(x:V)(xs:List V):Bool:=xs.any fun y=>gj y x
def rIn(K:Ai)(neg:Bool):R2:=fun x y H Q=>∃p xs,y=.ref p/\(aE K H p xs\/dF K H p xs)/\af x=true/\xs.all af=true/\Q (.bl (if neg then !tV x xs else tV x xs)) H
theorem zF:wb X (compareOp .In) (rIn X.K false):=by
 intro pins s σ H x y v u Q I rx ry h;obtain⟨p,xs,rfl,hq,fx,fs,q⟩:=h;cases ry;rcases hq with hq | hq
 ·obtain⟨its,r,pl,hz⟩:=I.list hq;refine SeqAt.in_listAt (u6 x) pl.isList (fun w hw=>dz rx fx r fs w (by simpa using hw)) ⟨.bl _,H,I,rfl,?_⟩;rw[show its.toArray.any (u6 x)=its.any (u6 x) by simp,gB r fs];exact q
 ·obtain⟨its,r,pl,hz⟩:=I.tuple hq;refine SeqAt.in_tupleAt (u6 x) pl (fun w hw=>dz rx fx r fs w (by simpa using hw)) ⟨.bl _,H,I,rfl,?_⟩;rw[show its.toArray.any (u6 x)=its.any (u6 x) by simp,gB r fs];exact q
theorem o6:wb X (compareOp .NotIn) (rIn X.K true):=by
 intro pins s σ H x y v u Q I rx ry h;obtain⟨p,xs,rfl,hq,fx,fs,q⟩:=h;cases ry;rcases hq with hq | hq
 ·obtain⟨its,r,pl,hz⟩:=I.list hq;refine SeqAt.notIn_listAt (u6 x) pl.isList (fun w hw=>dz rx fx r fs w (by simpa using hw)) ⟨.bl _,H,I,rfl,?_⟩;rw[show its.toArray.any (u6 x)=its.any (u6 x) by simp,gB r fs];exact q
 ·obtain⟨its,r,pl,hz⟩:=I.tuple hq;refine SeqAt.notIn_tupleAt (u6 x) pl (fun w hw=>dz rx fx r fs w (by simpa using hw)) ⟨.bl _,H,I,rfl,?_⟩;rw[show its.toArray.any (u6 x)=its.any (u6 x) by simp,gB r fs];exact q
theorem pO:jq X (.builtin "len") (fun xs H Q=>∃p ys,xs=[.ref p]/\(aE X.K H p ys\/dF X.K H p ys)/\Q (.int ys.length) H):=by
 intro pins s σ H xs us Q I r h;obtain⟨p,ys,rfl,hq,q⟩:=h;obtain⟨u,rfl,rx⟩:=oW r;cases rx;have hn:=gx;rcases hq with hq | hq
 ·obtain⟨its,r',pl,hz⟩:=I.list hq;have hlen:=r'.length;exact Calls.call_len_list pl.isList (by simp only[Am]<;>omega) ⟨.int ys.length,H,I.tok _,⟨s.toks+1,by rw[Am,hlen]⟩,q⟩
 ·obtain⟨its,r',pl,hz⟩:=I.tuple hq;have hlen:=r'.length;exact len_tuple pl (by simp only[Am]<;>omega) ⟨.int ys.length,H,I.tok _,⟨s.toks+1,by rw[Am,hlen]⟩,q⟩
theorem oq:jq X (.builtin "len") (fun xs H Q=>∃z,xs=[.str z]/\z.length≤sizeLine/\Q (.int z.length) H):=by intro pins s σ H xs us Q I r h;obtain⟨z,rfl,hz,q⟩:=h;obtain⟨u,rfl,t,rfl⟩:=oW r;have hn:=gx;exact len_str (by omega) ⟨.int z.length,H,I.tok _,⟨_,rfl⟩,q⟩
theorem pL:jq X (.type "list") (fun xs H Q=>∃p ys,xs=[.ref p]/\(aE X.K H p ys\/dF X.K H p ys)/\∀l,H l=none->Q (.ref l) (upd H l (.lst ys))):=by
 intro pins s σ H xs us Q I r h;obtain⟨p,ys,rfl,hq,q⟩:=h;obtain⟨u,rfl,rx⟩:=oW r;cases rx;have xr:∀(its:List Value),zp ys its->ys.length≤sizeLine->∀(h':Heap) (c':Nat),(∀b o',s.heap.get? b=some o'->h'.get? b=some o')->
  h'.get? s.heap.objs.size=some { cls:=.type "list",dict:=none,data:=.seq its.toArray c',slots:=#[] }->EP X pins σ Q (.ref s.heap.objs.size) { s with heap:=h' }:=fun its r' hz h' c' kp e=>
  ⟨.ref s.heap.objs.size,_,I.laid (t':=s.toks) kp (Ao _) (show xq X.prog X.w _ h' _ (.lst ys) from⟨hz,its,c',r',e⟩),rfl,q _ (I.hok.fresh (Ao _))⟩
 rcases hq with hq | hq
 ·obtain⟨its,r',pl,hz⟩:=I.list hq;have hlen:=r'.length;obtain⟨o,ho,hc,n,hd⟩:=pl.isList;exact call_list_seq p (.inl rfl) ho hc hd (fun h' c' kp e=>xr its r' hz h' c' kp e) (by simp only[Am]<;>omega)
 ·obtain⟨its,r',pl,hz⟩:=I.tuple hq;have hlen:=r'.length;obtain⟨o,ho,hc,n,hd⟩:=pl;exact call_list_seq p (.inr rfl) ho hc hd (fun h' c' kp e=>xr its r' hz h' c' kp e) (by simp only[Am]<;>omega)
def tyV(K:Ai)(T:String)(x:V)(H:Hp):Prop:=match x with
 |.str _=>T = "str"
 |.int _=>T = "int"
 |.ref p=>(T = "list" /\ ∃xs,aE K H p xs)\/(T = "tuple" /\ ∃o,K.lookup p=some o/\o.cls=.type "tuple" /\ o.dict=none)\/
  (T = "dict" /\ ((∃kvs,H p=some (.dK kvs))\/∃kvs,H p=some (.dT kvs)))\/(T = "set" /\ ∃S n,H p=some (.set S n))
 |_=>False
theorem aa6{T:String}{x:V}{v:Value}(I:z9 X pins σ H s)(r:zw x v)(ty:tyV X.K T x H):
 s.TypeIs v T/\∀a,v=.ref a->∃ob,s.heap.get? a=some ob/\ob.dict=none:=by
 cases x with
 |str z=>
  obtain⟨t,rfl⟩:=r;cases (show T = "str" from ty);exact⟨typeIs_str s z t,fun _ e=>nomatch e⟩
 |int i=>
  obtain⟨t,rfl⟩:=r;cases (show T = "int" from ty);exact⟨typeIs_int s i t,fun _ e=>nomatch e⟩
 |ref p=>
  cases r;rcases ty with⟨rfl,xs,hq⟩ | ⟨rfl,o,hk,hc,hd⟩ | ⟨rfl,hk⟩ | ⟨rfl,S,n,hk⟩
  ·obtain⟨its,_,pl,_⟩:=I.list hq;refine⟨pl.isList.typeIs,fun a e=>?_⟩;cases e;obtain⟨o,n,e,c,hd,_⟩:=pl;exact⟨o,e,hd⟩
  ·refine⟨⟨o,I.kIn p o hk,hc⟩,fun a e=>?_⟩;cases e;exact⟨o,I.kIn _ o hk,hd⟩
  ·have z:∃o,s.heap.get? p=some o/\o.ExactDict:=by
    rcases hk with⟨kvs,hk⟩ | ⟨kvs,hk⟩
    ·obtain⟨_,_,_,_,o,_,_,e,ex,_⟩:=I.hok p _ hk;exact⟨o,e,ex⟩
    ·obtain⟨_,_,_,_,o,_,_,e,ex,_⟩:=I.hok p _ hk;exact⟨o,e,ex⟩
   obtain⟨o,e,ex⟩:=z;refine⟨⟨o,e,ex.1⟩,fun a e2=>?_⟩;cases e2;exact⟨o,e,ex.2.1⟩
  ·obtain⟨o,_,_,_,e,ex,_⟩:=I.hok p _ hk;refine⟨⟨o,e,ex.1⟩,fun a e2=>?_⟩;cases e2;exact⟨o,e,ex.2.1⟩
 |_=>exact False.elim ty
def as1(K:Ai)(T:String)(r:V->List V->Hp->VK->Prop)(to:TE):TE:=fun σ H Q=>to σ H fun x H1=>tyV K T x H1/\r x [] H1 Q
def tBM(K:Ai)(T:String)(r:V->List V->Hp->VK->Prop)(to:TE)(t:TA):TE:=fun σ H Q=>to σ H fun x H1=>tyV K T x H1/\t σ H1 fun xs H2=>r x xs H2 Q
variable {to:TE}{t:TA}{T id:String}{r:V->List V->Hp->VK->Prop}
theorem aj6(pa:PlainAttrs T)(slot:Slot T name id)(hty:typeOf (.builtin id)=pure (.type "method_descriptor"))(hm:MtR X id r)(ho:PE X o to)
 (hbase:attributeBase o name X.env (eval o X.env)=eval o X.env:=by rfl) (hline:(apos.endLine==cpos.line)=true:=by rfl):PE X (.Call (.Attribute o name apos) [] [] cpos) (as1 X.K T r to):=by
 intro pins s σ H Q I h;refine wpAny_Call_method0_late hbase hline (va (ho pins s σ H _ I h) fun v s1 ⟨x,H1,I1,r1,ty,q1⟩=>?_);obtain⟨h1,h2⟩:=aa6 I1 r1 ty;exact⟨T,id,pa,slot,hty,h1,h2,Calls.callWith_builtin rfl (PySem.evalArgs_none (hm pins s1 σ H1 x [] v [] Q I1 r1 .nil q1))⟩
theorem agv(pa:PlainAttrs T)(slot:Slot T name id)(hty:typeOf (.builtin id)=pure (.type "method_descriptor"))(hm:MtR X id r)(ho:PE X o to)(ha:PA X (e::es) t)
 (hbase:attributeBase o name X.env (eval o X.env)=eval o X.env:=by rfl)
 (hfew:((backTo cpos (starEach (e::es) X.env)).all (fun x=>!x.1)&&(backToKw cpos (keywordEach [] X.env)).all (fun x=>x.1.isSome)
  && decide ((e::es).length+([]:List Keyword).length+(if ([]:List Keyword).isEmpty then 0 else 1)<30))=true:=by rfl)
 (hline:(apos.endLine==cpos.line)=true:=by rfl) (hs:Es e es X:=by rfl) (hplain:Et cpos es X:=by rfl):
 PE X (.Call (.Attribute o name apos) (e::es) [] cpos) (tBM X.K T r to t):=by
 intro pins s σ H Q I h;refine wpAny_Call_method_late hbase hfew hline rfl (va (ho pins s σ H _ I h) fun v s1 ⟨x,H1,I1,r1,ty,q1⟩=>?_);obtain⟨h1,h2⟩:=aa6 I1 r1 ty;refine⟨T,id,pa,slot,hty,h1,h2,?_⟩;have hA:=ha cpos pins s1 σ H1 _ I1 q1;rw[hs] at hA ⊢;refine Calls.callWith_builtin (by show(false||(backTo cpos (starEach es X.env)).any (·.1))=false;rw[hplain]<;>rfl) (Calls.evalArgs_plain ?_);exact va hA fun us s2 ⟨vs,H2,I2,r2,q2⟩=>hm pins s2 σ H2 x vs v us Q I2 r1 r2 q2
end
def lG(X:Cx)(id:String)(r:V->List V->Hp->VK->Prop):Prop:=
 ∀(pins:List (Addr×Obj)) (s:Shared) (σ:St) (H:Hp) (x:V) (xs:List V) (v:Value) (us:List Value) (Q:VK),z9 X pins σ H s->zw x v->zp xs us->r x xs H Q->
  wpAny (model X.prog X.w) X.A (call (.builtin id) (v::us)) (EP X pins σ Q) X.xe s
theorem zp.one:∀{x:V} {us:List Value},zp [x] us->∃u,us=[u]/\zw x u
 |_,_,.cons r .nil=>⟨_,rfl,r⟩
theorem zp.two:∀{x y:V} {us:List Value},zp [x,y] us->∃u v,us=[u,v]/\zw x u/\zw y v
 |_,_,_,.cons r (.cons q .nil)=>⟨_,_,rfl,r,q⟩
theorem zp.zero:∀{us:List Value},zp [] us->us=[]
 |_,.nil=>rfl
theorem zp.dropLast(h:zp xs us):zp xs.dropLast us.dropLast:=by
 induction h with
 |nil=>exact .nil
 |cons r t ih=>
  cases t with|nil=>exact .nil|cons q t'=>exact .cons r ih
theorem zp.eraseIdx:∀{xs:List V} {us:List Value} (i:Nat),zp xs us->zp (xs.eraseIdx i) (us.eraseIdx i)
 |_,_,_,.nil=>.nil
 |_,_,0,.cons _ t=>t
 |_,_,i+1,.cons r t=>.cons r (zp.eraseIdx i t)
theorem uN(l:List α):l.eraseIdx (l.length - 1)=l.dropLast:=by
 induction l with
 |nil=>rfl
 |cons a r ih=>
  cases r with
  |nil=>rfl
  |cons b r=>
   have e:(a::b::r).length - 1=((b::r).length - 1)+1:=by have h1:(a::b::r).length=r.length+2:=rfl;have h2:(b::r).length=r.length+1:=rfl;omega
   rw[e,Cg,ih]
   all_goals rfl
theorem mm{α:Type}:∀(l:List α) (i:Nat),(l.eraseIdx i).length≤l.length
 |[],_=>Ao _
 |_::_,0=>Cp _
 |_::r,i+1=>DQ (mm r i)
section
variable {b:Addr}{ys:List V}
theorem z9.lset{its':List Value}{f:Array Value->Array Value}(I:z9 X pins σ H s)(hH:H l=some (.lst xs))
 (e:s.heap.get? l=some { cls:=.type "list",data:=.seq its.toArray n }) (hf:f its.toArray=its'.toArray) (hv:zp ys its') (hz:ys.length≤sizeLine) (ht:0<t':=by walk_at "t"):
 z9 X pins σ (upd H l (.lst ys)) { s with heap:=s.heap.update l (Obj.mapSeq f),toks:=t' }:=by
 have q:=PySem.IsL.update e f;rw[hf] at q;refine I.write (x:=l) (e:=l) (by rw[hH];exact trivial) (.inl rfl) (fun b' u hb hu=>(Heap.get?_update_other s.heap (Obj.mapSeq f) (AN hb)).trans hu) ⟨_,q⟩ ?_;exact⟨hz,its',_,hv,q⟩
theorem z9.lnew(I:z9 X pins σ H s)(hv:zp ys its)(hz:ys.length≤sizeLine)(ht:0<t':=by walk_at "t"):
 z9 X pins σ (upd H s.heap.objs.size (.lst ys)) { s with heap:=s.heap.push { cls:=.type "list",data:=.seq its.toArray },toks:=t' }:=
 I.laid (fun _ _ q=>Heap.get?_push_of_some _ q) (Ao _) ⟨hz,its,0,hv,Heap.get?_push_size _ rfl⟩
theorem z9.fresh(I:z9 X pins σ H s):H s.heap.objs.size=none:=I.hok.fresh (Ao _)
theorem z9.lstM(I:z9 X pins σ H s)(hH:H l=some (.lst xs)):xs.length≤sizeLine/\∃(its:List Value) (n:Nat),zp xs its/\xs.length=its.length/\s.heap.get? l=some { cls:=.type "list",data:=.seq its.toArray n }:=by obtain⟨z,its,n,r,e⟩:=I.hok l _ hH;exact⟨z,its,n,r,r.length,e⟩
theorem aaw(h:n≤sizeLine):Builtin.List.listTooLong n=false:=by unfold Builtin.List.listTooLong;exact Ax (by omega)
end
section
def aes:V->List V->Hp->VK->Prop:=fun x vs H Q=>∃l xs y,x=.ref l/\vs=[y]/\H l=some (.lst xs)/\xs.length<sizeLine/\Q .non (upd H l (.lst (xs++[y])))
theorem zC:lG X "list.append" aes:=by intro pins s σ H x vs v us Q I rx rv h;obtain⟨l,xs,y,rfl,rfl,hH,hz,q⟩:=h;cases rx;obtain⟨u,rfl,ru⟩:=rv.one;obtain⟨z,its,n,r,hl,e⟩:=I.lstM hH;refine call_meets F.slot_list_append ⟨_,e,rfl⟩ F.entry_list_append (F.args_list_append_2 _ _) (PySem.list_append l its.toArray n u (by rw[Am];omega)) ⟨e,?_⟩;refine⟨.non,_,I.lset (its':=its++[u]) hH e (by simp) (r.append (.cons ru .nil)) ?_,rfl,q⟩;rw[Ad,BB];omega
def ae6:V->List V->Hp->VK->Prop:=fun x vs H Q=>∃l b xs zs,x=.ref l/\vs=[.ref b]/\H l=some (.lst xs)/\H b=some (.lst zs)/\xs.length+zs.length≤sizeLine/\Q .non (upd H l (.lst (xs++zs)))
theorem yr:lG X "list.extend" ae6:=by
 intro pins s σ H x vs v us Q I rx rv h;obtain⟨l,b,xs,zs,rfl,rfl,hH,hB,hz,q⟩:=h;cases rx;obtain⟨u,rfl,ru⟩:=rv.one;cases ru;obtain⟨z,its,n,r,hl,e⟩:=I.lstM hH;obtain⟨z2,its2,n2,r2,hl2,e2⟩:=I.lstM hB;have hsz:its.toArray.size+its2.toArray.size≤sizeLine:=by rw[Am,Am];omega
 have hlong:¬(!its.toArray.isEmpty&&Builtin.List.listTooLong (its.toArray.size+its2.toArray.size))=true:=by rw[aaw hsz,C5];exact AE
 refine call_meets F.slot_list_extend ⟨_,e,rfl⟩ F.entry_list_extend (F.args_list_extend_2 _ _)
  (AutoSeq1.list_extend_list_list_0 l its.toArray n b its2.toArray n2 hlong (by rw[Am];omega) (by omega)) ⟨e,e2,?_⟩
 refine⟨.non,_,I.lset (its':=its++its2) hH e (by simp) (r.append r2) ?_,rfl,q⟩;rw[Ad];omega
def ar1:V->List V->Hp->VK->Prop:=fun x vs H Q=>∃l xs y,x=.ref l/\vs=[]/\H l=some (.lst xs)/\xs[xs.length - 1]?=some y/\Q y (upd H l (.lst xs.dropLast))
theorem ahz:lG X "list.pop" ar1:=by
 intro pins s σ H x vs v us Q I rx rv h;obtain⟨l,xs,y,rfl,rfl,hH,hy,q⟩:=h;cases rx;have hus:=rv.zero;subst hus;obtain⟨z,its,n,r,hl,e⟩:=I.lstM hH;obtain⟨u,hu,ru⟩:=r.get hy;have hy':its.toArray[its.toArray.size - 1]?=some u:=by show its.toArray[its.length - 1]?=some u;rw[<-A5,<-hl];exact hu
 refine call_meets F.slot_list_pop ⟨_,e,rfl⟩ F.entry_list_pop (F.args_list_pop_1 _) (MeetsSeq.list_pop_last l its.toArray n u hy' (by rw[Am];omega)) ⟨e,?_⟩;refine⟨y,_,I.lset (its':=its.dropLast) hH e ?_ r.dropLast ?_,ru,q⟩
 ·show its.toArray.eraseIdxIfInBounds (its.toArray.size - 1)=its.dropLast.toArray;rw[Am,Dh,uN]
 ·rw[List.length_dropLast];omega
def ahq:V->List V->Hp->VK->Prop:=fun x vs H Q=>∃l xs i k y,x=.ref l/\vs=[.int i]/\H l=some (.lst xs) /\ -(2 ^ 63)≤i/\i<2 ^ 63/\seqIndex? i xs.length=some k/\xs[k]?=some y/\Q y (upd H l (.lst (xs.eraseIdx k)))
theorem abk:lG X "list.pop" ahq:=by
 intro pins s σ H x vs v us Q I rx rv h;obtain⟨l,xs,i,k,y,rfl,rfl,hH,h1,h2,hk,hy,q⟩:=h;cases rx;obtain⟨u,rfl,ru⟩:=rv.one;obtain⟨t,rfl⟩:=ru;obtain⟨z,its,n,r,hl,e⟩:=I.lstM hH;obtain⟨w,hw,rw'⟩:=r.get hy;refine call_meets F.slot_list_pop ⟨_,e,rfl⟩ F.entry_list_pop (F.args_list_pop_2 _ _)
  (MeetsSeq.list_pop_at l its.toArray n i t k w (fitsIndex_both h1 h2) (by rw[Am,<-hl];exact hk) (by rw[<-A5];exact hw) (by rw[Am];omega)) ⟨e,?_⟩
 refine⟨y,_,I.lset (its':=its.eraseIdx k) hH e ?_ (r.eraseIdx k) ?_,rw',q⟩
 ·show its.toArray.eraseIdxIfInBounds k=(its.eraseIdx k).toArray;rw[Dh]
 ·have:=mm xs k;omega
def apr:R2:=fun x y H Q=>∃l b xs zs,x=.ref l/\y=.ref b/\H l=some (.lst xs)/\H b=some (.lst zs)/\xs.length+zs.length≤sizeLine/\∀p,H p=none->Q (.ref p) (upd H p (.lst (xs++zs)))
theorem akb:wb X (binaryOp .Add) apr:=by
 intro pins s σ H x y v u Q I rx ry h;obtain⟨l,b,xs,zs,rfl,rfl,hH,hB,hz,q⟩:=h;cases rx;cases ry;obtain⟨z,its,n,r,hl,e⟩:=I.lstM hH;obtain⟨z2,its2,n2,r2,hl2,e2⟩:=I.lstM hB;refine PySem.P.add_list e e2 ?_ (by rw[Am,Am];omega);have ea:its.toArray++its2.toArray=(its++its2).toArray:=by simp
 rw[ea];exact⟨.ref _,_,I.lnew (t':=s.toks) (r.append r2) (by rw[Ad];omega),rfl,q _ I.fresh⟩
end
section
variable {w:World} 
set_option maxRecDepth 100000 in
end
section
end
end L2
namespace Att
open PySem PySem.W PySem.Calls PyProof.Rows
theorem iw{P:Params} :∀(ns:List Int) (vs:List Value),WellAll P h vs (ns.map WData.int)->IntsAre vs ns:=by
 intro ns
 induction ns with
 |nil=>
  intro vs w;rw[C3] at w;cases w;exact .nil
 |cons n ns ih=>
  intro vs w;rw[Az] at w;cases w with
  |cons a b=>
   cases a;exact .cons _ _ (ih _ b)
theorem yj{l:OpenLaw}(hn:l.most=some n){P:Params}{args:List WData}{vals:List Value}
 (hpre:l.row.toRowW.claim.pre args=true) (hwl:WellAll P h vals args):
 ∃a vs ns,vals=[Value.ref a]/\args=[WData.list (ns.map WData.int)]/\h.get? a=some { cls:=.type "list",data:=.seq vs.toArray }/\IntsAre vs ns/\ns.length≤n:=by
 have hsh:WShape.hasAll [] args [.list .int]=true:=(pre_splitW hpre).1;have hc:l.pre.holds [] { args:=args }=true:=(pre_splitW hpre).2;obtain⟨d,r,rfl,h1,h2⟩:=hasAllW_cons hsh;obtain rfl:=hasAllW_nil h2;obtain⟨xs,rfl,h3⟩:=hasW_list h1;obtain⟨ns,rfl⟩:=items_int h3;have hlen:ns.length≤n:=by
  unfold OpenLaw.pre at hc;have h4:(WTm.not (.lt (.lit (.int (n:Int))) (.len (.arg 0)))).holds [] { args:=[.list (ns.map .int)] }=true:=by have h4:=(holds_andW hc).1;rw[hn] at h4;exact h4
  have h5:=condW_of h4 (w_not (w_lt w_lit (w_len_list (w_arg rfl))));rw[Ae] at h5;refine Nat.le_of_not_lt fun q=>?_;have q':(n:Int)<((ns.length:Nat):Int):=by omega
  first
   |(rw[AC q'] at h5;exact absurd h5 (by decide))
   |(simp at h5;omega)
 cases hwl with
 |cons w1 w2=>
  cases w2;cases w1 with|list ho hall=>exact⟨_,_,ns,rfl,rfl,ho,iw ns _ hall,hlen⟩
theorem zR(l:OpenLaw)(args:List WData):l.row.toRowW.claim.post args (.bool true) args=true:=
 postW_of (r:=l.row.toRowW) (X:=(true==true))
  (show WShape.has [] (.bool true) .bool=true by first | rfl | decide | simp[WShape.has,WShape.arms,WShape.armsAll])
  (show(WTm.eq .res (.lit (.bool true))).value [] { args:=args,res:=some (.bool true),after:=args }=some (.bool (true==true)) from w_eq_bool (w_res rfl) w_lit) rfl
theorem attach_callZ{l:OpenLaw}{q:Program}{loose:List Str}{XP:(Str->Option Value)->Heap->Prop}{as0:List Addr}{N t:Nat}{K:Params->Frag}{d:DefRec}
 (hn:l.most=some n) (hdf:d.params.defaults=[]) (ek:∀P,as0=(K P).map (·.1)) (htk:0<t)
 (call:∀(w:World) (s₀ s₁:Shared) (mg mb:Str->Option Value) (fa:Addr) (o:Obj) (pm cd doc:Value) (a:Addr) (vs:List Value) (ns:List Int),
  Ground q loose [] XP w s₀ mg mb s₁.heap->(K w.params).In s₁.heap->0<s₁.toks->
  s₁.heap.get? fa=some o->o.data=.func (docDef d.name d.params d.body d.scope pm cd doc)->s₁.heap.CodeRec cd d.name->mg d.name=some (.ref fa)->
  s₁.heap.get? a=some { cls:=.type "list",data:=.seq vs.toArray }->IntsAre vs ns->ns.length≤n->s₁.gens=#[]->
  codeAny (model l.prog w) callerA (.call (.ref fa) ⟨[.ref a],[]⟩) (fun r s'=>r=.ok (.ret (.bool true))/\OldK s₁.heap s'.heap/\s'.os=s₁.os/\AllBare s'.gens) s₁):
 WalkX q loose XP (PySem.W.X.obsZ as0) (PySem.W.X.valZ K N t) l.row.toRowW d [] (fun f vs=>PySem.call f vs):=by
 intro w s₀ s₁ mg mb G Y fa o pm cd doc dV kV ho hd hcd hD hmg hg args vals as L hpre hlay hrd hwl hlo;obtain rfl:dV=.none:=Dflts.none hD hdf;obtain rfl:kV=.none:=Dflts.noKw hD;obtain⟨a,vs,ns,rfl,rfl,hobj,hints,hlen⟩:=yj hn hpre hwl;obtain⟨_,zi,_,zt⟩:=X.z_facts ek Y;have eP:∀ns:List Int,ofPy (PyData.list (ns.map PyData.int))=WData.list (ns.map WData.int):=fun ns=>by
  simp only[ofPy];congr 1
  induction ns with|nil=>simp[ofPys]|cons n r ih=>simp only[Az,ofPys,ofPy,ih]
 rw[<-eP] at L;have KX:=InK.keeps w s₀.heap s₁.heap zi L.keeps;have tk1:0<s₁.toks:=AO htk (X.script_toks L zt);refine enter_call (codeAny_mono (call w s₀ s₁ mg mb fa o pm cd doc a vs ns G KX tk1 ho (fd_plain hd) hcd hmg hobj hints hlen hg) fun r s' hq=>?_);obtain⟨rfl,h2,h3,h4⟩:=hq;exact⟨.inl ⟨.bool true,.bool true,[],rfl,fun _=>rfl,.bool true,zR l _,fun _=>⟨List.Pairwise.nil,fun _ hm=>(nomatch hm)⟩⟩,h2,h3,h4⟩
section
variable {w:World}{K:Frag}
end
end Att
namespace L2
open PySem PySem.Spec PyProof.Rows
theorem nV:∀{vs:List Value} {ns:List Int},IntsAre vs ns->zp (ns.map V.int) vs
 |_,_,.nil=>.nil
 |_,_,.cons n t h=>.cons ⟨t,rfl⟩ (nV h)
def vf(s:Stmt):Arguments:=match s with
 |.FunctionDef _ a _ _ _ _ _ _ _ _=>a
 |_=>{ posonlyargs:=[],args:=[],vararg:=none,kwonlyargs:=[],kw_defaults:=[],kwarg:=none,defaults:=[] }
def jt(s:Stmt):List Stmt:=match s with
 |.FunctionDef _ _ b _ _ _ _ _ _ _=>b
 |_=>[]
def qw(s:Stmt):Scope:=match s with
 |.FunctionDef _ _ _ _ _ _ sc _ _ _=>sc
 |_=>{ kind:=.function,names:=[],isGenerator:=false,isCoroutine:=false }
abbrev CX0:xL:=fun _ _ _ _ _ _=>False
abbrev E0:XK:=fun _ _ _=>False
theorem amb :uF CX0 X E0:=fun _ _ _ _ _ _ _ h=>h.elim
structure Fun(K:Ai)(x qual:Str)(st:Stmt)(f:Addr)(fd:FuncData):Prop where
 ex:∃(oc:Value) (od:Option Addr) (kV doc pm:Value) (an:Option Addr) (cdv ct:Value) (osl:Array (Option Value)),
  fd=PySem.W.fnOf x qual (vf st) (jt st) (qw st) .none kV doc pm an cdv ct/\K.lookup f=some ⟨oc,od,.func fd,osl⟩/\PySem.W.codeIn K cdv qual=true
 kp:PySem.W.keepIn K (.ref f)=true
section
variable {P:Program}{w:World}{K:Ai} 
theorem Fun.ok{N:List Str}{k:Nat}(F:Fun K x qual st f fd)(S:ah N ps (qw st))(len:∀vs H Q E,sp vs H Q E->vs.length=ps.length)
 (hbody:∀(cdv:Value) (A:Around) (outer:List Env) (s:Shared) (H:Hp) (vs:List V) (Q:VK) (E:XK),aZ k (A.deeper (envOfC qual (qw st) s.heap.objs.size f cdv))->sp vs H Q E->
  ∃t,m5 (iz CX0 P w K mg base N qual (qw st) f cdv A outer s H E).nox (jt st) t/\t { nx:=fun _ H'=>Q .non H',rt:=Q } (start N vs) H):cO P w K mg base CX0 (k+1) f fd ps sp:=by
 obtain⟨oc,od,kV,doc,pm,an,cdv,ct,osl,rfl,lk,hcd⟩:=F.ex;refine agw lk hcd S len fun A outer s H vs Q E hr hsp=>?_;obtain⟨t,h,q⟩:=hbody cdv A outer s H vs Q E hr hsp;exact⟨t,h.nox,q⟩
theorem ake{kV ct:Value}(l:K.lookup f=some ⟨oc,od,.func (PySem.W.fnOf x qual (vf st) (jt st) (qw st) .none kV doc pm an cdv ct),osl⟩)
 (c:PySem.W.codeIn K cdv qual=true) (k:PySem.W.keepIn K (.ref f)=true):Fun K x qual st f (PySem.W.fnOf x qual (vf st) (jt st) (qw st) .none kV doc pm an cdv ct):=⟨⟨oc,od,kV,doc,pm,an,cdv,ct,osl,rfl,l,c⟩,k⟩
end
theorem oX(h:n≤1000):n<sizeLine:=Bv h (by decide)
section
theorem pv(i:Nat)(hN:X.N[i]?=some x:=by rfl)(hv:Vis X.env.scope x:=by first | exact Or.inl rfl | exact Or.inr (Or.inl rfl) | exact Or.inr (Or.inr rfl))(hd:Eu x:=by decide)
 (hcd:Ew x:=by decide):PE X (.Name x pos) (aje i):=ais hN hv hd hcd
end
section
variable [DecidableEq κ]
end
end L2
set_option maxHeartbeats 8000000
theorem xU{a b c:Nat}(h:a<b:=by assumption)(k:b≤c:=by assumption):a<c:=AO h k
theorem gu{a b c:Nat}(h:a≤b:=by assumption)(k:b<c:=by assumption):a<c:=Bv h k
theorem ahm{a b c:Nat}(h:a≤b:=by assumption)(k:b≤c:=by assumption):a≤c:=AS h k
theorem iu{a b c:Nat}(h:a<b:=by assumption)(k:b<c:=by assumption):a<c:=C4 h k
theorem cV{a b c:Nat}(h:a≤b:=by assumption)(k:b≤c:=by decide):a≤c:=AS h k
theorem u0{a b:Nat}(h:a≤b:=by assumption):a<b+1:=Nat.lt_succ_of_le h
theorem aiu{a b:Nat}(h:a≤b:=by assumption):a≤b+1:=C6 h
theorem fI{a b:Nat}(h:a<b:=by assumption):a≤b:=Bn h
theorem an2{a b:Nat}(h:a<b:=by assumption):a≠b:=A3 h
theorem ai8{a b:Nat}(h:b<a:=by assumption):a≠b:=C2 h
theorem aco{a:Nat}(h:a≠0:=by assumption):0<a:=Nat.pos_of_ne_zero h
theorem ai9{a b c:Nat}(h:a<b:=by assumption)(k:b≤c:=by assumption):a≤c:=AS (Bn h) k
theorem ajq{a b c:Nat}(h:a<b:=by assumption):a<b+c:=AO h (A4 _ _)
theorem pS{a b:Nat}(h:a=b:=by assumption):a≤b:=Nat.le_of_eq h
theorem vD{a b:Nat}(h:¬a<b:=by assumption):b≤a:=Nat.le_of_not_lt h
theorem amk{a b:Nat}(h:¬b≤a:=by assumption):a<b:=Nat.lt_of_not_le h
theorem an4{a b:Nat}(h:a<b+1:=by assumption):a≤b:=Nat.le_of_lt_succ h
theorem anb{a b c:Nat}(h:a≤b:=by assumption)(k:c≤d:=by assumption):a+c≤b+d:=Nat.add_le_add h k
theorem ou{a b:Nat}(h:0<a:=by assumption)(k:0<b:=by decide):a - b<a:=Nat.sub_lt h k
theorem am9{a b c:Nat}(h:a≤c:=by assumption):a - b≤c:=AS (Er _ _) h
theorem mU{a b c:Nat}(h:a<c:=by assumption):a - b<c:=Bv (Er _ _) h
theorem yL{a b:Nat}(h:a≤b:=by assumption)(k:a≠b:=by assumption):a<b:=Nat.lt_of_le_of_ne h k
namespace L2
open PySem PySem.Spec PyProof.Rows
section
def apv:R2:=fun x y H Q=>match x,y with
 |.int i,.int j=>Q (.int (i+j)) H
 |.str a,.str b=>a.length+b.length≤sizeLine/\Q (.str (a++b)) H
 |.ref l,.ref b=>∃xs zs,H l=some (.lst xs)/\H b=some (.lst zs)/\xs.length+zs.length≤sizeLine/\∀p,H p=none->Q (.ref p) (upd H p (.lst (xs++zs)))
 |_,_=>False
theorem adg:wb X (binaryOp .Add) apv:=by
 intro pins s σ H x y v u Q I rx ry h;cases x<;>cases y<;>first
  |exact False.elim h
  |exact ahj pins s σ H _ _ v u Q I rx ry ⟨_,_,rfl,rfl,h⟩
  |exact um pins s σ H _ _ v u Q I rx ry ⟨_,_,rfl,rfl,h.1,h.2⟩
  |(obtain⟨xs,zs,h1,h2,h3,h4⟩:=h;exact akb pins s σ H _ _ v u Q I rx ry ⟨_,_,xs,zs,rfl,rfl,h1,h2,h3,h4⟩)
def KD(K:Ai)(P:Program)(w:World)(a:Addr)(kvs:List (jl×V)):Prop:=
 (a==sysModules)=false/\kvs.length≤sizeLine/\∀h:Heap,K.In h->∃vs,KV kvs vs/\h.DictOf (xw P w) a vs
def uIx(K:Ai)(P:Program)(w:World):R2:=fun x y H Q=>match x,y with
 |.str z,.int i=>z.length≤sizeLine/\∃c,g9 z.cps.toList i=some c/\Q (.str ⟨#[c]⟩) H
 |.ref p,.int i=>∃xs v,(aE K H p xs\/dF K H p xs)/\g9 xs i=some v/\Q v H
 |.ref p,.str k=>∃kvs v,(Rd H p (.dK kvs)\/KD K P w p kvs)/\fS kvs (Sum.inr k)=some v/\Q v H
 |_,_=>False
theorem ac4{slice:Expr}{a:Addr}{vs:List (jl×Value)}{k:jl}{w':Value}{Q:VK}(I:z9 X pins σ H s)(dd:s.heap.DictOf (xw X.prog X.w) a vs)(hk:kD k u=true)
 (hw:valueAt vs k=some w') (r:zw v w') (q:Q v H) (hs:subscripted slice false (.ref a) u=operate [.ref a,u] (getItem (.ref a) u)):wpAny (model X.prog X.w) X.A (subscriptTail value slice (.ref a) u) (EP X pins σ Q) X.xe s:=
 tail_any dd.typeIs DH.lookup (wpAny_getItem_of hk dd.mapOf hw ⟨v,H,I.tok _,r,q⟩) hs
theorem asi:IxR X (uIx X.K X.prog X.w):=by
 intro value slice pins s σ H x y v u Q I rx ry q hs;cases x with
 |str z=>
  cases y with
  |int i=>
   obtain⟨h1,c,h2,h3⟩:=q;exact ajn value slice pins s σ H _ _ v u Q I rx ry ⟨z,i,c,rfl,rfl,h1,h2,h3⟩ hs
  |_=>exact q.elim
 |ref p=>
  cases y with
  |int i=>
   obtain⟨xs,w',h1,h2,h3⟩:=q;rcases h1 with h1 | h1
   ·exact aey value slice pins s σ H _ _ v u Q I rx ry ⟨p,xs,i,w',rfl,rfl,h1,h2,h3⟩ hs
   ·exact ahg value slice pins s σ H _ _ v u Q I rx ry ⟨p,xs,i,w',rfl,rfl,h1,h2,h3⟩ hs
  |str k=>
   obtain⟨kvs,w',h1,h2,h3⟩:=q;have ry':zw (kV (Sum.inr k)) u:=ry;cases (show v=Value.ref p from rx);rcases h1 with h1 | h1
   ·obtain⟨z,hd,vs,rel,dd⟩:=vY I.hok h1;obtain⟨w2,hw,rw'⟩:=EO (v:=w') (o:=valueAt vs (Sum.inr k)) (by rw[<-h2];exact rel.val _);exact ac4 I dd (nW (P:=X.prog) (w:=X.w) ry') hw rw' h3 hs
   ·obtain⟨hd,z,dd⟩:=h1;obtain⟨vs,rel,dd⟩:=dd s.heap I.kIn;obtain⟨w2,hw,rw'⟩:=EO (v:=w') (o:=valueAt vs (Sum.inr k)) (by rw[<-h2];exact rel.val _);exact ac4 I dd (nW (P:=X.prog) (w:=X.w) ry') hw rw' h3 hs
  |_=>exact q.elim
 |_=>cases y<;>exact q.elim
def atc(K:Ai):List V->Hp->VK->Prop:=fun xs H Q=>match xs with
 |[.str z]=>z.length≤sizeLine/\Q (.int z.length) H
 |[.ref p]=>∃ys,(aE K H p ys\/dF K H p ys)/\Q (.int ys.length) H
 |_=>False
theorem y8:jq X (.builtin "len") (atc X.K):=by
 intro pins s σ H xs us Q I r h
 match xs,h with
 |[.str z],h=>exact oq pins s σ H _ us Q I r ⟨z,rfl,h.1,h.2⟩
 |[.ref p],h=>
  obtain⟨ys,h1,h2⟩:=h;exact pO pins s σ H _ us Q I r ⟨p,ys,rfl,h1,h2⟩
inductive Da where
 |s (v:V)
 |tup (xs:List Da)
 |lst (xs:List Da)
mutual
def Da.eq:Da->Da->Bool
 |.s v,.s w=>gj v w
 |.tup xs,.tup ys=>Da.eqs xs ys
 |.lst xs,.lst ys=>Da.eqs xs ys
 |_,_=>false
def Da.eqs:List Da->List Da->Bool
 |[],[]=>true
 |x::xs,y::ys=>Da.eq x y&&Da.eqs xs ys
 |_,_=>false
end
def vv(K:Ai)(H:Hp):Nat->V->Da->Prop
 |0,v,d=>d=.s v/\af v=true
 |n+1,v,d=>(d=.s v/\af v=true)\/(∃a xs ds,v=.ref a/\d=.tup ds/\dF K H a xs/\Paired (vv K H n) xs ds)\/(∃a xs ds,v=.ref a/\d=.lst ds/\aE K H a xs/\Paired (vv K H n) xs ds)
theorem Da.eqs_range:∀(ds es:List Da),((List.range (min ds.length es.length)).all (fun j=>Da.eq (ds.getD j (.s .non)) (es.getD j (.s .non)))&&ds.length==es.length)=Da.eqs ds es
 |[],[]=>by simp[Da.eqs]
 |[],e::es=>by simp[Da.eqs]
 |d::ds,[]=>by simp[Da.eqs]
 |d::ds,e::es=>by
  have ih:=Da.eqs_range ds es;rw[Da.eqs,<-ih];have:min (d::ds).length (e::es).length=min ds.length es.length+1:=by simp only[AG];lia
  rw[this,List.range_succ_eq_map,DN,List.all_map];have h2:((d::ds).length==(e::es).length)=(ds.length==es.length):=by simp
  rw[h2,Bool.and_assoc];rfl
abbrev EG:=@Da.eqs_range
theorem Paired.at{α β:Type}{F:α->β->Prop}:∀{xs:List α} {ys:List β} {j:Nat} {x:α} {y:β},Paired F xs ys->xs[j]?=some x->ys[j]?=some y->F x y
 |_,_,_,_,_,.nil,h,_=>by simp at h
 |_,_,0,_,_,.cons r _,h1,h2=>by simp at h1 h2;subst h1 h2;exact r
 |_,_,j+1,_,_,.cons _ t,h1,h2=>Paired.at (j:=j) t (by simpa using h1) (by simpa using h2)
abbrev EJ:=@Paired.at
theorem gK:∀{v:V},af v=true->gj v v=true
 |.non,_=>rfl
 |.bl _,_=>by simp[gj]
 |.int _,_=>by simp[gj]
 |.str _,_=>by simp[gj]
section
theorem j5{a:Addr}(h:af (.ref a)=true):False:=by simp[af] at h
theorem z9.notBoth(I:z9 X pins σ H s){a:Addr}{ys:List V}(h:dF X.K H a xs)(h':aE X.K H a ys):False:=by
 obtain⟨its,_,⟨o,e,c,_⟩,_⟩:=I.tuple h;obtain⟨its',_,⟨o',n',e',c',_⟩,_⟩:=I.list h';rw[e] at e';cases e';rw[c] at c';injection c' with c'
 exact absurd c' (by decide)
theorem oy(I:z9 X pins σ H s):∀(n:Nat) {m:Nat} {x:V} {d e:Da},vv X.K H n x d->vv X.K H m x e->Da.eq d e=true
 |0,m,x,d,e,h1,h2=>by
  obtain⟨rfl,f⟩:=h1;cases m with
  |zero=>obtain⟨rfl,_⟩:=h2;exact gK f
  |succ m=>
   rcases h2 with⟨rfl,_⟩ | ⟨a,xs,ds,rfl,_⟩ | ⟨a,xs,ds,rfl,_⟩
   ·exact gK f
   ·exact(j5 f).elim
   ·exact(j5 f).elim
 |n+1,m,x,d,e,h1,h2=>by
  have both:∀{xs:List V} {ds es:List Da} {m:Nat},Paired (vv X.K H n) xs ds->Paired (vv X.K H m) xs es->Da.eqs ds es=true:=by
   intro xs ds es m p
   induction p generalizing es with
   |nil=>intro q;cases q;rfl
   |cons r t ih=>
    intro q;cases q with|cons r' t'=>rw[Da.eqs,oy I n r r',ih t'];rfl
  rcases h1 with⟨rfl,f⟩ | ⟨a,xs,ds,rfl,rfl,hs,hp⟩ | ⟨a,xs,ds,rfl,rfl,hs,hp⟩
  ·cases m with
   |zero=>obtain⟨rfl,_⟩:=h2;exact gK f
   |succ m=>
    rcases h2 with⟨rfl,_⟩ | ⟨a,xs,ds,rfl,_⟩ | ⟨a,xs,ds,rfl,_⟩
    ·exact gK f
    ·exact(j5 f).elim
    ·exact(j5 f).elim
  ·cases m with
   |zero=>exact(j5 h2.2).elim
   |succ m=>
    rcases h2 with⟨_,f⟩ | ⟨a',ys,es,e1,rfl,hs',hp'⟩ | ⟨a',ys,es,e1,rfl,hs',hp'⟩
    ·exact(j5 f).elim
    ·cases e1;cases I.tuple_inj hs hs';exact both hp hp'
    ·cases e1;exact(I.notBoth hs hs').elim
  ·cases m with
   |zero=>exact(j5 h2.2).elim
   |succ m=>
    rcases h2 with⟨_,f⟩ | ⟨a',ys,es,e1,rfl,hs',hp'⟩ | ⟨a',ys,es,e1,rfl,hs',hp'⟩
    ·exact(j5 f).elim
    ·cases e1;exact(I.notBoth hs' hs).elim
    ·cases e1;cases I.list_inj hs hs';exact both hp hp'
theorem j6{a:Addr}{its:Array Value}(p:PlainL h a its):h.IsList a its:=let ⟨o,n,e,c,_,d⟩:=p;⟨o,e,c,n,d⟩
theorem f7{ys:List V}{ds es:List Da}(px:Paired (vv X.K H n) xs ds)(py:Paired (vv X.K H m) ys es)(vx:zp xs us)(vy:zp ys vs)
 (ih:∀{x y:V} {d e:Da} {u v:Value},vv X.K H n x d->vv X.K H m y e->zw x u->zw y v->SeqAt.EqAt A.in1 s u v (Da.eq d e)):
 ∀j (h1:j<us.toArray.size) (h2:j<vs.toArray.size),SeqAt.EqAt A.in1 s us.toArray[j] vs.toArray[j] (Da.eq (ds.getD j (.s .non)) (es.getD j (.s .non))):=by
 intro j h1 h2;have l1:=px.length;have l2:=py.length;have l3:=vx.length;have l4:=vy.length;rw[Am] at h1 h2;have q1:xs[j]?=some xs[j]:=Aj (by lia);have q2:ys[j]?=some ys[j]:=Aj (by lia);have q3:ds[j]?=some ds[j]:=Aj (by lia);have q4:es[j]?=some es[j]:=Aj (by lia);have q5:us[j]?=some us[j]:=Aj (by lia);have q6:vs[j]?=some vs[j]:=Aj (by lia);rw[Bh,Bh,q3,q4];exact ih (EJ px q1 q3) (EJ py q2 q4) (EJ vx q1 q5) (EJ vy q2 q6)
theorem nX{a b:Addr}{ys:List V}{ds es:List Da}(I:z9 X pins σ H s)(hu:A.units<cLine)(sx:dF X.K H a xs)(sy:dF X.K H b ys)(px:Paired (vv X.K H n) xs ds)(py:Paired (vv X.K H m) ys es)
 (ih:∀{x y:V} {d e:Da} {u v:Value},vv X.K H n x d->vv X.K H m y e->zw x u->zw y v->SeqAt.EqAt A.in1 s u v (Da.eq d e)):SeqAt.RcAt A s (.ref a) (.ref b) (Da.eqs ds es):=by
 obtain⟨us,vx,tx,_⟩:=I.tuple sx;obtain⟨vs,vy,ty,_⟩:=I.tuple sy;have q:=SeqAt.RcAt.tuples tx ty hu (f7 px py vx vy ih);rw[Am,Am,<-vx.length,<-vy.length,px.length,py.length,EG] at q;exact q
theorem tE{a b:Addr}{ys:List V}{ds es:List Da}(I:z9 X pins σ H s)(hu:A.units<cLine)(sx:aE X.K H a xs)(sy:aE X.K H b ys)(px:Paired (vv X.K H n) xs ds)(py:Paired (vv X.K H m) ys es)
 (ih:∀{x y:V} {d e:Da} {u v:Value},vv X.K H n x d->vv X.K H m y e->zw x u->zw y v->SeqAt.EqAt A.in1 s u v (Da.eq d e)):SeqAt.RcAt A s (.ref a) (.ref b) (Da.eqs ds es):=by
 obtain⟨us,vx,tx,_⟩:=I.list sx;obtain⟨vs,vy,ty,_⟩:=I.list sy;by_cases hz:us.toArray.size=vs.toArray.size
 ·have q:=SeqAt.RcAt.lists (j6 tx) (j6 ty) hz hu (f7 px py vx vy ih);have hz':ds.length=es.length:=by rw[<-px.length,<-py.length,vx.length,vy.length];simpa using hz
  have e:=EG ds es;rw[hz',Nat.min_self] at e;rw[<-hz'] at e;rw[Am,<-vx.length,px.length] at q;simp only[beq_self_eq_true,Eo] at e;rw[e] at q;exact q
 ·have q:=SeqAt.RcAt.lists_lengths (j6 tx) (j6 ty) (by simpa using hz) hu;have hz':ds.length≠es.length:=by rw[<-px.length,<-py.length,vx.length,vy.length];intro z;exact hz (by simpa using z)
  have e:=EG ds es;have f:(ds.length==es.length)=false:=by simpa using hz'
  rw[f,C5] at e;rw[<-e];exact q
theorem lD(I:z9 X pins σ H s):∀(n:Nat) {m:Nat} {A:Around} {x y:V} {d e:Da} {u v:Value},A.units+n<cLine->vv X.K H n x d->vv X.K H m y e->zw x u->zw y v->SeqAt.EqAt A s u v (Da.eq d e):=by
 have flatRef:∀{A:Around} {x:V} {u:Value} {b:Addr} {ys:List V},A.units<cLine->af x=true->zw x u->(dF X.K H b ys\/aE X.K H b ys)->SeqAt.EqAt A s u (.ref b) false/\SeqAt.EqAt A s (.ref b) u false:=by
  intro A x u b ys hu f r h;have h':(∃its,s.heap.IsTuple b its)\/∃its,s.heap.IsList b its:=by
   rcases h with h | h
   ·obtain⟨its,_,t,_⟩:=I.tuple h;exact .inl ⟨_,t⟩
   ·obtain⟨its,_,t,_⟩:=I.list h;exact .inr ⟨_,j6 t⟩
  cases x with
  |non=>cases r;rcases h' with⟨_,t⟩ | ⟨_,t⟩;exact⟨.none_tuple t hu,.tuple_none t hu⟩;exact⟨.none_list t hu,.list_none t hu⟩
  |bl k=>cases r;rcases h' with⟨_,t⟩ | ⟨_,t⟩;exact⟨.bool_tuple k t hu,.tuple_bool k t hu⟩;exact⟨.bool_list k t hu,.list_bool k t hu⟩
  |int k=>obtain⟨tk,rfl⟩:=r;rcases h' with⟨_,t⟩ | ⟨_,t⟩;exact⟨.int_tuple k tk t hu,.tuple_int k tk t hu⟩;exact⟨.int_list k tk t hu,.list_int k tk t hu⟩
  |str k=>obtain⟨tk,rfl⟩:=r;rcases h' with⟨_,t⟩ | ⟨_,t⟩;exact⟨.str_tuple k tk t hu,.tuple_str k tk t hu⟩;exact⟨.str_list k tk t hu,.list_str k tk t hu⟩
  |_=>simp[af] at f
 intro n
 induction n with
 |zero=>
  intro m A x y d e u v hu h1 h2 rx ry;obtain⟨rfl,f⟩:=h1;cases m with
  |zero=>obtain⟨rfl,f'⟩:=h2;exact ln rx ry f f'
  |succ m=>
   rcases h2 with⟨rfl,f'⟩ | ⟨b,ys,es,rfl,rfl,sy,py⟩ | ⟨b,ys,es,rfl,rfl,sy,py⟩
   ·exact ln rx ry f f'
   ·cases ry;exact(flatRef (by lia) f rx (.inl sy)).1
   ·cases ry;exact(flatRef (by lia) f rx (.inr sy)).1
 |succ n ih=>
  intro m A x y d e u v hu h1 h2 rx ry;have hin:A.in1.units+n<cLine:=by show A.units+1+n<cLine;lia
  rcases h1 with⟨rfl,f⟩ | ⟨a,xs,ds,rfl,rfl,sx,px⟩ | ⟨a,xs,ds,rfl,rfl,sx,px⟩
  ·cases m with
   |zero=>obtain⟨rfl,f'⟩:=h2;exact ln rx ry f f'
   |succ m=>
    rcases h2 with⟨rfl,f'⟩ | ⟨b,ys,es,rfl,rfl,sy,py⟩ | ⟨b,ys,es,rfl,rfl,sy,py⟩
    ·exact ln rx ry f f'
    ·cases ry;exact(flatRef (by lia) f rx (.inl sy)).1
    ·cases ry;exact(flatRef (by lia) f rx (.inr sy)).1
  ·cases rx;cases m with
   |zero=>obtain⟨rfl,f'⟩:=h2;exact(flatRef (by lia) f' ry (.inl sx)).2
   |succ m=>
    rcases h2 with⟨rfl,f'⟩ | ⟨b,ys,es,rfl,rfl,sy,py⟩ | ⟨b,ys,es,rfl,rfl,sy,py⟩
    ·exact(flatRef (by lia) f' ry (.inl sx)).2
    ·cases ry;by_cases hab:a=b
     ·subst hab;cases I.tuple_inj sx sy;have e:Da.eq (.tup ds) (.tup es)=true:=oy I (n+1) (m:=m+1) (x:=.ref a) (.inr (.inl ⟨a,xs,ds,rfl,rfl,sx,px⟩)) (.inr (.inl ⟨a,xs,es,rfl,rfl,sy,py⟩));rw[e];exact .same _
     ·exact .of_refs hab (nX I (by lia) sx sy px py fun h1 h2 r1 r2=>ih hin h1 h2 r1 r2)
    ·cases ry;obtain⟨us,vx,tx,_⟩:=I.tuple sx;obtain⟨vs,vy,ty,_⟩:=I.list sy;exact .tuple_list tx (j6 ty) (by lia)
  ·cases rx;cases m with
   |zero=>obtain⟨rfl,f'⟩:=h2;exact(flatRef (by lia) f' ry (.inr sx)).2
   |succ m=>
    rcases h2 with⟨rfl,f'⟩ | ⟨b,ys,es,rfl,rfl,sy,py⟩ | ⟨b,ys,es,rfl,rfl,sy,py⟩
    ·exact(flatRef (by lia) f' ry (.inr sx)).2
    ·cases ry;obtain⟨us,vx,tx,_⟩:=I.list sx;obtain⟨vs,vy,ty,_⟩:=I.tuple sy;exact .list_tuple (j6 tx) ty (by lia)
    ·cases ry;by_cases hab:a=b
     ·subst hab;cases I.list_inj sx sy;have e:Da.eq (.lst ds) (.lst es)=true:=oy I (n+1) (m:=m+1) (x:=.ref a) (.inr (.inr ⟨a,xs,ds,rfl,rfl,sx,px⟩)) (.inr (.inr ⟨a,xs,es,rfl,rfl,sy,py⟩));rw[e];exact .same _
     ·exact .of_refs hab (tE I (by lia) sx sy px py fun h1 h2 r1 r2=>ih hin h1 h2 r1 r2)
end
def uEq(K:Ai)(k:Nat):R2:=fun x y H Q=>match x,y with
 |.ref a,.ref b=>∃n m d e,n≤k/\vv K H n (.ref a) d/\vv K H m (.ref b) e/\Q (.bl (Da.eq d e)) H
 |x,y=>afo x y=true/\Q (.bl (decide (x=y))) H
theorem ajp{k:Nat}(hu:X.A.units+k<cLine):wb X (compareOp .Eq) (uEq X.K k):=by
 intro pins s σ H x y v u Q I rx ry h;cases x with
 |ref a=>
  cases y with
  |ref b=>
   obtain⟨n,m,d,e,hn,h1,h2,q⟩:=h;cases rx;cases ry;have xr:∀{k:Bool},k=Da.eq d e->SeqAt.RcAt X.A s (.ref a) (.ref b) k->wpAny (model X.prog X.w) X.A (compareOp .Eq (.ref a) (.ref b)) (EP X pins σ Q) X.xe s:=fun {k} e' r=>
    r X.prog X.w X.xe (EP X pins σ Q) (by rw[e'];exact⟨.bl _,H,I,rfl,q⟩)
   cases n with
   |zero=>exact(j5 h1.2).elim
   |succ n=>
    cases m with
    |zero=>exact(j5 h2.2).elim
    |succ m=>
     have hin:X.A.in1.units+n<cLine:=by show X.A.units+1+n<cLine;lia
     rcases h1 with⟨_,f⟩ | ⟨a',xs,ds,e1,rfl,sx,px⟩ | ⟨a',xs,ds,e1,rfl,sx,px⟩
     ·exact(j5 f).elim
     ·cases e1;rcases h2 with⟨_,f⟩ | ⟨b',ys,es,e2,rfl,sy,py⟩ | ⟨b',ys,es,e2,rfl,sy,py⟩
      ·exact(j5 f).elim
      ·cases e2;exact xr rfl (nX I (by lia) sx sy px py fun h1 h2 r1 r2=>lD I n hin h1 h2 r1 r2)
      ·cases e2;obtain⟨us,vx,tx,_⟩:=I.tuple sx;obtain⟨vs,vy,ty,_⟩:=I.list sy;exact xr rfl (.tuple_list tx (j6 ty) (by lia))
     ·cases e1;rcases h2 with⟨_,f⟩ | ⟨b',ys,es,e2,rfl,sy,py⟩ | ⟨b',ys,es,e2,rfl,sy,py⟩
      ·exact(j5 f).elim
      ·cases e2;obtain⟨us,vx,tx,_⟩:=I.list sx;obtain⟨vs,vy,ty,_⟩:=I.tuple sy;exact xr rfl (.list_tuple (j6 tx) ty (by lia))
      ·cases e2;exact xr rfl (tE I (by lia) sx sy px py fun h1 h2 r1 r2=>lD I n hin h1 h2 r1 r2)
  |_=>exact agq pins s σ H _ _ v u Q I rx ry h
 |_=>cases y<;>exact agq pins s σ H _ _ v u Q I rx ry h
end
theorem ald{c:Addr}(hg:Gl X x)(hm:X.mg x=some (.ref c))(hd:Eu x:=by decide):PE X (.Name x pos) (tC (.ref c)):=afz hg hm (v:=.ref c) rfl hd
theorem aao{T:String}(hg:Gl X x)(hm:X.mg x=none)(hv:bootBuiltins x=some (.type T))(hn:x ≠ "__name__" := by decide)(hd:Eu x:=by decide):PE X (.Name x pos) (tC (.ty T)):=adi hg hm hv (v:=.ty T) rfl hn hd
structure zW(P:Program)(w:World)(K:Ai)(mg:Str->Option Value)(base:Heap)(k:Nat)(x:Str)(ps:List Str)(sp:Sp):Prop where
 ex:∃f fd,cO P w K mg base CX0 k f fd ps sp/\fk K fd ps []/\PySem.W.keepIn K (.ref f)=true/\mg x=some (.ref f)
theorem apa{k:Nat}{t:TA}(c:zW X.prog X.w X.K X.mg X.base k x ps sp)(hr:aZ k X.A)(hg:Gl X x)(ha:PA X (e::es) t)(hdb:Eu x:=by decide)
 (he:Es e es X:=by rfl) (hpl:Et pos es X:=by rfl):PE X (.Call (.Name x p) (e::es) [] pos) (ah0 sp [] E0 t):=by
 obtain⟨f,fd,F,b,kp,m⟩:=c.ex;exact aec F hr hg m kp b .nil amb ha hdb he hpl
theorem zW.mono{P:Program}{w:World}{K:Ai}{k:Nat}(c:zW P w K mg base j x ps sp)(h:j≤k):zW P w K mg base k x ps sp:=by obtain⟨f,fd,F,b,kp,m⟩:=c.ex;exact⟨f,fd,F.mono h,b,kp,m⟩
end L2
variable {ds:List L2.Da}
namespace L2
open PySem PySem.Spec PyProof.Rows
def lC(env:Env):List (Str×NameKind)->List (Str×Addr)->List (Str×Addr)
 |[],cs=>cs
 |(n,k)::r,cs=>lC env r (if k==.free then(n,(env.cells.lookup n).getD 0)::cs else cs)
def eM(scope:Scope)(env:Env):List (Str×Addr):=lC env scope.names []
theorem sP{env:Env}:∀{names:List (Str×NameKind)} {cs:List (Str×Addr)} {p:Str×Addr},p∈lC env names cs->p∈cs\/((p.1,NameKind.free)∈names/\p.2=(env.cells.lookup p.1).getD 0)
 |[],_,_,h=>.inl h
 |(n,k)::r,cs,p,h=>by
  rcases sP (names:=r) h with q | ⟨q,e⟩
  ·by_cases hk:(k==NameKind.free)=true
   ·rw[AD hk] at q;rcases Av.mp q with rfl | q
    ·have:k=.free:=by simpa using hk
     exact .inr ⟨by rw[this];exact As,rfl⟩
    ·exact .inl q
   ·rw[Ay hk] at q;exact .inl q
  ·exact .inr ⟨Ah _ q,e⟩
theorem tD{env:Env}{x:Str}:∀{names:List (Str×NameKind)} {cs:List (Str×Addr)},((∃c,(x,c)∈cs)\/(x,NameKind.free)∈names)->∃c,(x,c)∈lC env names cs
 |[],_,.inl h=>h
 |[],_,.inr h=>by simp at h
 |(n,k)::r,cs,h=>by
  refine tD (names:=r) ?_;rcases h with⟨c,h⟩ | h
  ·left;by_cases hk:(k==NameKind.free)=true
   ·rw[AD hk];exact⟨c,Ah _ h⟩
   ·rw[Ay hk];exact⟨c,h⟩
  ·rcases Av.mp h with e | h
   ·left;injection e with e1 e2
    subst e1;subst e2;exact⟨_,As⟩
   ·exact .inr h
theorem fC{x:Str}:∀{l:List (Str×Addr)} {c:Addr},(x,c)∈l->∃c',l.lookup x=some c'
 |(n,d)::r,c,h=>by
  rw[Bx];cases hx:x==n with
  |true=>exact⟨d,rfl⟩
  |false=>
   rcases Av.mp h with e | h
   ·injection e with e1 _;subst e1;simp at hx
   ·exact fC h
theorem ix(h:∀n,(n,NameKind.free)∈scope.names->∃c,env.cells.lookup n=some c):closureFor scope env=pure (eM scope env):=by
 unfold closureFor eM;have key:∀(names:List (Str×NameKind)) (cs:List (Str×Addr)),(∀n,(n,NameKind.free)∈names->∃c,env.cells.lookup n=some c)->
  (forIn names cs fun x (r:List (Str×Addr))=>(match x with | (name,kind)=>if kind==NameKind.free then do let a <-cellOf env name;pure (ForInStep.yield ((name,a)::r)) else pure (ForInStep.yield r):Sem (ForInStep (List (Str×Addr)))))=pure (lC env names cs):=by
  intro names
  induction names with
  |nil=>intro cs _;rfl
  |cons p r ih=>
   intro cs hf;obtain⟨n,k⟩:=p;rw[CU];cases hk:k==NameKind.free with
   |true=>
    have hk':k=.free:=by simpa using hk
    subst hk';obtain⟨c,hc⟩:=hf n As;have e:cellOf env n=pure c:=by unfold cellOf;rw[hc]
    simp only[beq_self_eq_true,if_true,e];have e2:lC env ((n,NameKind.free)::r) cs=lC env r ((n,c)::cs):=by show lC env r _=_;rw[hc];rfl
    rw[e2];exact ih ((n,c)::cs) fun m hm=>hf m (Ah _ hm)
   |false=>
    simp only[hk,BM,if_false];have e2:lC env ((n,k)::r) cs=lC env r cs:=by show lC env r (if (k==NameKind.free)=true then _ else _)=_;rw[hk];rfl
    rw[e2];exact ih cs fun m hm=>hf m (Ah _ hm)
 exact(BI (· >>= pure) (key scope.names [] h))
theorem aI{env:Env}{x:Str}:∀{names:List (Str×NameKind)},
 (names.map fun(n,k)=>if (k==NameKind.free&&env.scope.kind==.function&&env.kindOf n==some .cell) then(n,NameKind.cell) else(n,k)).lookup x
  = (names.lookup x).map fun k=>if (k==NameKind.free&&env.scope.kind==.function&&env.kindOf x==some .cell) then NameKind.cell else k
 |[]=>rfl
 |(n,k)::r=>by
  have ih:=@aI env x r;show List.lookup x ((if (k==NameKind.free&&env.scope.kind==.function&&env.kindOf n==some .cell)=true then(n,NameKind.cell) else(n,k))::_)=_;cases hx:x==n with
  |true=>
   have hx':x=n:=by simpa using hx
   subst hx';by_cases hc:(k==NameKind.free&&env.scope.kind==.function&&env.kindOf x==some .cell)=true
   ·rw[AD hc];simp only[Bx,beq_self_eq_true,Option.map_some];rw[AD hc]
   ·rw[Ay hc];simp only[Bx,beq_self_eq_true,Option.map_some];rw[Ay hc]
  |false=>
   by_cases hc:(k==NameKind.free&&env.scope.kind==.function&&env.kindOf n==some .cell)=true
   ·rw[AD hc];simp only[Bx,hx];exact ih
   ·rw[Ay hc];simp only[Bx,hx];exact ih
def Cx.comp(X:Cx)(scope:Scope)(T:List Str)(C:Addr)(fp:List Addr)(s₀:Shared)(H₀:Hp):Cx:=
 { X with N:=X.N++T,s₀:=s₀,H₀:=H₀,env:=compEnvC scope (eM scope X.env) C X.env,outer:=X.stack,ex:=fp,fn:=fun _=>false,xe:=fun _ _=>False }
structure jh(X:Cx)(scope:Scope):Prop where
 kind:scope.kind=.function
 nocell:∀y∈scope.names,y.2≠.cell
 names:∀y∈scope.names,y.2=.local->scope.names.lookup y.1=some .local
 free:∀n,scope.names.lookup n=some .free->X.env.kindOf n=some .cell\/X.env.kindOf n=some .free
 freeM:∀n,(n,NameKind.free)∈scope.names->X.env.kindOf n=some .cell\/X.env.kindOf n=some .free
 apart:∀x∈X.N,scope.names.lookup x≠some .local
section
theorem jh.clo(S:jh X scope)(I:z9 X pins σ H s):closureFor scope X.env=pure (eM scope X.env):=
 ix fun n h=>I.ok.has n (S.freeM n h)
theorem jh.cl_old(S:jh X scope)(I:z9 X pins σ H s){c:Addr}(h:(eM scope X.env).lookup x=some c):X.env.cells.lookup x=some c:=by
 rcases sP (BA h) with q | ⟨q,e⟩
 ·simp at q
 ·obtain⟨d,hd⟩:=I.ok.has x (S.freeM x q);have e':c=(X.env.cells.lookup x).getD 0:=e;rw[hd] at e' ⊢;rw[e'];rfl
theorem jh.cl_has(_:jh X scope)(h:scope.names.lookup x=some .free):∃c,(eM scope X.env).lookup x=some c:=by obtain⟨c,hc⟩:=tD (env:=X.env) (names:=scope.names) (cs:=[]) (x:=x) (.inr (BA h));exact fC hc
theorem jh.kindOf(S:jh X scope)(h:(compEnvC scope (eM scope X.env) C X.env).kindOf x=some .cell\/(compEnvC scope (eM scope X.env) C X.env).kindOf x=some .free):scope.names.lookup x=some .free:=by
 have e:(compEnvC scope (eM scope X.env) C X.env).kindOf x=(scope.names.lookup x).map fun k=>if (k==NameKind.free&&X.env.scope.kind==.function&&X.env.kindOf x==some .cell) then NameKind.cell else k:=aI
 rw[e] at h;cases hl:scope.names.lookup x with
 |none=>rw[hl] at h;rcases h with h | h<;>cases h
 |some k=>
  rw[hl] at h;cases k with|free=>rfl|cell=>exact absurd rfl (S.nocell _ (BA hl))|_=>rcases h with h | h<;>cases h
theorem jh.vis(S:jh X scope)(hx:x∈X.N)(h:Vis (compEnvC scope (eM scope X.env) C X.env).scope x):scope.names.lookup x=some .free:=by
 rcases h with h | h | h
 ·exfalso;have e:(compEnvC scope (eM scope X.env) C X.env).kindOf x=(scope.names.lookup x).map fun k=>if (k==NameKind.free&&X.env.scope.kind==.function&&X.env.kindOf x==some .cell) then NameKind.cell else k:=aI
  have h':(compEnvC scope (eM scope X.env) C X.env).kindOf x=some .local:=h;rw[e] at h';cases hl:scope.names.lookup x with
  |none=>rw[hl] at h';cases h'
  |some k=>
   rw[hl] at h';have h':(if (k==NameKind.free&&X.env.scope.kind==.function&&X.env.kindOf x==some .cell)=true then NameKind.cell else k)=.local:=Be h';split at h'
   ·cases h'
   ·subst h';exact S.apart x hx hl
 ·exact S.kindOf (C:=C) (.inl h)
 ·exact S.kindOf (C:=C) (.inr h)
theorem jh.back(S:jh X scope)(h:scope.names.lookup x=some .free):(compEnvC scope (eM scope X.env) C X.env).kindOf x=some .cell\/(compEnvC scope (eM scope X.env) C X.env).kindOf x=some .free:=by
 have e:(compEnvC scope (eM scope X.env) C X.env).kindOf x=(scope.names.lookup x).map fun k=>if (k==NameKind.free&&X.env.scope.kind==.function&&X.env.kindOf x==some .cell) then NameKind.cell else k:=aI
 rw[e,h];show some (if _ then _ else _)=_\/some (if _ then _ else _)=_;split
 ·exact .inl rfl
 ·exact .inr rfl
end
def PF(X:Cx)(ifs:List Expr)(t:TT):Prop:=
 ∀(pins:List (Addr×Obj)) (s:Shared) (σ:St) (H:Hp) (Q:Bool->Hp->Prop),z9 X pins σ H s->t σ H Q->
  wpAny (model X.prog X.w) X.A (forIn ifs true fun c r=>if r=true then do let ok <-isTrue c X.env (eval c X.env);pure (ForInStep.yield ok) else pure (ForInStep.yield r)) (TP X pins σ Q) X.xe s
def as4:TT:=fun _ H Q=>Q true H
theorem aip :PF X [] as4:=fun _ _ _ H _ I h=>Ag ⟨H,I,h⟩
theorem ain{t:TT}(hc:PT X c t):PF X [c] t:=by intro pins s σ H Q I h;rw[CU];simp only[if_true];refine Aa (Aa (va (hc pins s σ H Q I h) fun b s1 q=>Ag ?_));exact Ag q
theorem eQ{w:World}{R:Result->Shared->Prop}{iter:Expr}{it acc:Value}(I:Nat->Shared->Prop)
 (turn:∀n s,I n s->wpAny (model prog w) A (pyNext it) (fun r s₁=>match r with
  |none=>R (.ok .next) s₁
  |some v=>wpAny (model prog w) A (letOwnedTupleGo target it v) (fun _ s₁=>wpAny (model prog w) A (assign target env v) (fun _ s₂=>
   wpAny (model prog w) A (forIn ifs true fun c r=>if r=true then do let ok <-isTrue c env (eval c env);pure (ForInStep.yield ok) else pure (ForInStep.yield r)) (fun ok s₃=>
    if ok=true then wpAny (model prog w) A (eval elt env) (fun x s₄=>
     wpAny (model prog w) A (call (.builtin "list.append") [acc,x]) (fun _ s₅=>∃m,m<n/\I m s₅) (fun _ _=>False) s₄) (fun _ _=>False) s₃
    else ∃m,m<n/\I m s₃) (fun _ _=>False) s₂) (fun _ _=>False) s₁) (fun _ _=>False) s₁) (fun _ _=>False) s)
 (n:Nat) (h:I n s):
 codeAny (model prog w) A (.compLoop (.ListComp elt [⟨target,iter,ifs,0⟩] scope pos) 0 it acc env) R s:=by
 refine codeAny_loop rfl I (fun n s hI=>?_) n h;show wpAny _ A ((compTurn (.ListComp elt [⟨target,iter,ifs,0⟩] scope pos) 0 it acc env).onRaise (fun x=>do noteFrame x env;theTreesLotGoes x)) _ _ s;refine wpAny_noted ?_;rw[compTurn_list];refine Aa (wpAny_standAt (Aa (AX (turn n s hI) (fun r s₁ h₁=>?_) fun _ _ h'=>h'.elim)));cases r with
 |none=>exact Ag h₁
 |some v=>
  refine Aa (AX h₁ (fun _ s₁ h₁=>?_) fun _ _ h'=>h'.elim);refine Aa (AX h₁ (fun _ s₂ h₂=>Aa (AX h₂ (fun ok s₃ h₃=>?_) fun _ _ h'=>h'.elim)) fun _ _ h'=>h'.elim);cases ok with
  |false=>exact Ag ⟨rfl,h₃⟩
  |true=>
   exact Aa (Aa (AX h₃ (fun x s₄ h₄=>Aa (AX h₄ (fun _ s₅ h₅=>Ag (Ag ⟨rfl,h₅⟩)) fun _ _ h'=>h'.elim)) fun _ _ h'=>h'.elim))
def tLC(n:Nat)(wi:TI)(g:TG)(tc:TT)(te:TE):TE:=fun σ H Q=>wi σ H fun J H1=>∃W:Nat->Nat->List V->Hp->Prop,(∃m,W 0 m [] H1)/\∀i m ys H,W i m ys H->
 (J.stop i H/\ys.length≤sizeLine/\∀D,H D=none->Q (.ref D) (upd H D (.lst ys)))\/
 (J.go i H/\ys.length<sizeLine/\∀x H',J.yld i H x H'->g x (σ++List.replicate n none) H' fun σ2 H2=>tc σ2 H2 fun b H3=>
  if b=true then te σ2 H3 fun y H4=>∃m',m'<m/\W (i+1) m' (ys++[y]) H4 else ∃m',m'<m/\W (i+1) m' ys H3)
def mz(g:TG)(n k:Nat):Prop:=∀(σ:St),σ.length=n->∀x H Q,g x (σ++List.replicate k none) H Q->
 g x (σ++List.replicate k none) H fun σ2 H2=>((σ2.length=n+k/\∀(i:Nat) v,(σ++List.replicate k none)[i]?=some (some v)->σ2[i]?=some (some v))/\Q σ2 H2)
section
variable {T:List Str}{iter:Expr}{g:TG}{tc:TT}{te:TE}
theorem ltN{b:Addr}{o:Obj}(e:h.get? b=some o):@LT.lt Nat instLTNat b h.objs.size:=Heap.lt_size e
theorem tZ{a b:Addr}(h:@Ne Nat a b):a≠b:=h
theorem leN{a b:Addr}(h:@LE.le Nat instLENat a b):a≤b:=h
theorem ab9(its:List Value)(n:Nat)(u:Value):∃n',Obj.mapSeq (·.push u) { cls:=.type "list",data:=.seq its.toArray n }=({ cls:=.type "list",data:=.seq (its++[u]).toArray n' }:Obj):=
 ⟨_,by simp[Obj.mapSeq];rfl⟩
theorem uU{w:World}{D:Addr}(hD:s.heap.get? D=some { cls:=.type "list",data:=.seq its.toArray n })
 (hz:its.length≤sizeLine) (h:∀h' n',Heap.SameBut D s.heap h'->h'.get? D=some { cls:=.type "list",data:=.seq (its++[u]).toArray n' }->Q .none { s with heap:=h' }):
 wpAny (model prog w) A (call (.builtin "list.append") [.ref D,u]) Q E s:=by
 have hl:s.heap.IsList D its.toArray:=⟨_,hD,rfl,n,rfl⟩;refine wpAny_call_entry slot_list_append hl.typeIs entry_list_append ?_ (args_list_append _ _);show wpAny _ _ (updateSeq D (·.push u) >>= fun _=>ret .none) _ _ s;refine Aa ?_;obtain⟨n',e'⟩:=ab9 its n u;refine wpAny_updateSeq (f:=(·.push u)) hD rfl (Ag ⟨.none,rfl,h _ n' (Heap.SameBut.update ..) ?_⟩) (by rw[Am];exact hz) (by rw[Bl,Am];exact DQ hz);rw[<-e'];exact Heap.get?_update_self _ hD (by rw[e'];rfl)
theorem kQ{Q:VK}{itv:Value}{s₂:Shared}{RR:Value->Addr->Result->Shared->Prop}
 (S:jh X scope) (hc:X.calm=true)
 (hg:∀C fp s₀ H₀,PG (X.comp scope T C fp s₀ H₀) target g) (hgo:mz g X.N.length T.length) (hf:∀C fp s₀ H₀,PF (X.comp scope T C fp s₀ H₀) ifs tc) (he:∀C fp s₀ H₀,PE (X.comp scope T C fp s₀ H₀) elt te)
 (h:PIE X pins σ target (fun J H1=>∃W:Nat->Nat->List V->Hp->Prop,(∃m,W 0 m [] H1)/\∀i m ys H,W i m ys H->
  (J.stop i H/\ys.length≤sizeLine/\∀D,H D=none->Q (.ref D) (upd H D (.lst ys)))\/
  (J.go i H/\ys.length<sizeLine/\∀x H',J.yld i H x H'->g x (σ++List.replicate T.length none) H' fun σ2 H2=>tc σ2 H2 fun b H3=>
   if b=true then te σ2 H3 fun y H4=>∃m',m'<m/\W (i+1) m' (ys++[y]) H4 else ∃m',m'<m/\W (i+1) m' ys H3)) itv s₂)
 (hRR:∀D C s' H' m',z9 X pins σ H' s'->mR X pins H' C->s'.heap.Ns C m'->Q (.ref D) H'->RR (.ref D) C (.ok .next) s'):
 wpAny (model X.prog X.w) X.A (newList []) (fun acc s₃=>wpAny (model X.prog X.w) X.A (newFunctionEnv scope X.env.globals (eM scope X.env) [] X.env.qual none .none (some X.env)) (fun cenv s₄=>
  codeAny (model X.prog X.w) X.A (.compStart (.ListComp elt [⟨target,iter,ifs,0⟩] scope pos) 0 itv acc { cenv with scope:=relabel scope X.env }) (RR acc cenv.locals) s₄) E s₃) E s₂:=by
 obtain⟨it,fp,tn,J,H2,rfl,I2,Tn,tJ,f2,W,⟨m0,w0⟩,turn⟩:=h;refine Bk (wpAny_newFunctionEnv S.nocell (by intro y hy;simp at hy) (fun h₁ hns₁ hsb₁=>?_) S.kind);dsimp only at hns₁ hsb₁ ⊢;generalize hH2:s₂.heap.push { cls:=.type "list",dict:=none,data:=.seq ([]:List Value).toArray }=G at hns₁ hsb₁ ⊢;have hC:G.objs.size=s₂.heap.objs.size+1:=by rw[<-hH2,Heap.size_push]
 obtain⟨D,eD⟩:∃D,s₂.heap.objs.size=D:=⟨_,rfl⟩;obtain⟨C,eC⟩:∃C,G.objs.size=C:=⟨_,rfl⟩;rw[eD] at hC ⊢;rw[eC] at hC hns₁ hsb₁ ⊢;have hDC:D≠C:=by lia
 have old:∀b o,s₂.heap.get? b=some o->h₁.get? b=some o:=fun b o e=>by have hb:=ltN e;exact hsb₁.extBut b o (tZ (by lia)) (Heap.get?_push_of_some _ (hH2▸Heap.get?_push_of_some _ e))
 have hacc:h₁.get? D=some { cls:=.type "list",data:=.seq ([]:List Value).toArray 0 }:=by refine hsb₁.extBut _ _ hDC (Heap.get?_push_of_some _ ?_);rw[<-hH2,<-eD];exact Heap.get?_push_size _ rfl
 have fpo:∀b∈fp,@LT.lt Nat instLTNat b s₂.heap.objs.size:=fun b hb=>by obtain⟨o,e,_⟩:=Tn.obj _ _ tJ b hb;exact ltN e
 have ilt:@LT.lt Nat instLTNat X.env.locals s₂.heap.objs.size:=I2.lt;have isz:X.s₀.heap.objs.size≤s₂.heap.objs.size:=I2.sz;have HD:H2 D=none:=I2.hok.fresh (leN (by exact pS));have HC:H2 C=none:=I2.hok.fresh (leN (by lia));have nfs:∀b:Addr,@LE.le Nat instLENat s₂.heap.objs.size b->b∉xM X.stack:=fun b hb z=>by
  have q:=I2.stkSub b z;rcases Av.mp q with q | q
  ·rw[<-q] at ilt;exact absurd ilt (Nat.not_lt.mpr hb)
  ·exact I2.nofs hb q
 have cellLt:∀x c,X.env.cells.lookup x=some c->@LT.lt Nat instLTNat c s₂.heap.objs.size:=fun x c e=>by obtain⟨v,q⟩:=I2.cell x c e;exact q.lt
 let X':Cx:=X.comp scope T C fp s₂ H2
 have ok':X'.Ok:={
  mod:=I2.ok.mod,kind:=S.kind,glob:=I2.ok.glob,blt:=I2.ok.blt
  above:=leN (by show @LE.le Nat instLENat s₂.heap.objs.size C;lia)
  inj:=fun x y c h1 h2=>I2.ok.inj x y c (S.cl_old I2 h1) (S.cl_old I2 h2)
  has:=fun x hx=>S.cl_has (S.kindOf hx)
  cab:=fun x c hx=>absurd (show false=true from hx) (by simp)
  hd:=I2.ok.hd,frames:=I2.ok.frames,stk:=.inl rfl
  exf:=fun b hb=>⟨tZ (by have:=fpo b hb;show @Ne Nat b C;lia),fun x c e=>(f2 b hb).2.2.2.2.1 x c (S.cl_old I2 e)⟩
  bs:=I2.bs,bsz:=AS I2.ok.bsz I2.sz
  noex:=fun b o e hb=>by
   obtain⟨e0,n0⟩:=I2.ok.bs b o e;rcases (f2 b hb).2.2.2.1 with q | q
   ·exact I2.ok.noex b o e q
   ·have q':@LE.le Nat instLENat X.s₀.heap.objs.size b:=q;have:=ltN e0;lia
  exfs:=fun b hb z=>by
   rcases Av.mp (I2.stkSub b z) with q | q
   ·exact(f2 b hb).2.1 q
   ·exact(f2 b hb).2.2.1 q
  funs:=I2.stack,frf:=I2.stkFree }
 have I4:∀tk,0<tk->z9 X' pins (σ++List.replicate T.length none) H2 { s₂ with heap:=h₁,toks:=tk }:=fun tk htk=>{
  tk:=htk,ok:=ok',os:=rfl,bare:=I2.bare,base:=Un.kept old
  loc:=⟨_,hns₁,fun i x v e1 e2 e3=>by
   have hi:i<σ.length:=by
    by_cases hi:i<σ.length
    ·exact hi
    ·rw[An (by exact vD),Cf] at e2;split at e2<;>cases e2
   rw[AB hi] at e2;have hi':i<X.N.length:=by rw[<-I2.len];exact hi
   have e1':X.N[i]?=some x:=by have:(X.N++T)[i]?=some x:=e1;rw[AB hi'] at this;exact this
   have hfr:=S.vis (AH e1') e3;obtain⟨m,hn,hl⟩:=I2.loc;have hk:=S.free x hfr;obtain⟨u,r,l⟩:=hl i x v e1' e2 (.inr hk);refine⟨u,r,.inr ⟨S.back hfr,?_⟩⟩;rcases l with⟨l,_⟩ | ⟨_,c,e,z⟩
   ·rw[l] at hk;rcases hk with q | q<;>cases q
   ·obtain⟨c',e'⟩:=S.cl_has hfr;have e'':=S.cl_old I2 e';rw[e] at e'';cases e'';exact⟨c,e',z.keeps old⟩⟩
  cell:=fun x c e=>by obtain⟨v,z⟩:=I2.cell x c (S.cl_old I2 e);exact⟨v,z.keeps old⟩
  free:=HC,freeC:=fun x c e=>I2.freeC x c (S.cl_old I2 e)
  pin:=fun p hp=>by
   obtain⟨a,b,c,d,e⟩:=I2.pin p hp;have hlt:=ltN a;refine⟨old _ _ a,b,tZ (by show @Ne Nat p.1 C;lia),fun z=>?_,e⟩;rcases Av.mp (I2.stkSub _ z) with q | q
   ·exact c q
   ·exact d q
  hok:=I2.hok.kept old
  len:=by show(σ++_).length=(X.N++T).length;rw[Ad,Ad,BR,I2.len] }
 have fpk:∀(pins':List (Addr×Obj)) (H':Hp),(∀p∈pins',p∈pins\/p.1=D)->(∀b∈fp,H' b=none)->∀b∈fp,mR X' pins' H' b:=fun pins' H' hp hn b hb=>by
  obtain⟨_,q1,q2,q3,q4,q5⟩:=f2 b hb;have hlt:=fpo b hb;refine⟨hn b hb,tZ (by show @Ne Nat b C;lia),ok'.exfs b hb,.inl hb,(ok'.exf b hb).2,fun p hpp=>?_⟩;rcases Ak.mp hpp with z | z
  ·exact q5 p (Ar _ z)
  ·rcases hp p z with z | z
   ·exact q5 p (Af _ z)
   ·rw[z];exact tZ (by lia)
 have stay:Tn.keep=Tn.keep:=rfl;have loop:∀s₃:Shared,s₃={ s₂ with heap:=h₁,toks:=s₂.toks+([]:List (Str×Value)).length }->
  codeAny (model X.prog X.w) X.A (.compLoop (.ListComp elt [⟨target,iter,ifs,0⟩] scope pos) 0 (.ref it) (.ref D) X'.env) (RR (.ref D) C) s₃:=by
  rintro s₃ rfl;refine eQ (fun n s'=>∃i σ' H' ys its k,z9 X' pins σ' H' s'/\(σ'.length=X.N.length+T.length/\∀(i:Nat) v,(σ++List.replicate T.length none)[i]?=some (some v)->σ'[i]?=some (some v))/\
   s'.heap.get? D=some { cls:=.type "list",data:=.seq (its:List Value).toArray k }/\zp ys its/\H' D=none/\tn i s'.heap/\(∀b∈fp,H' b=none)/\W i n ys H') ?_ m0
   ⟨0,_,H2,[],[],0,I4 _ I2.tk,⟨by rw[Ad,BR,I2.len],fun _ _ e=>e⟩,hacc,.nil,HD,Tn.keep _ _ _ tJ fun b _ o e=>old b o e,fun b hb=>(f2 b hb).1,w0⟩
  rintro n s3 ⟨i,σ3,H3,ys,its,k,I3,⟨hl3,hs3⟩,hD3,hv3,hH3,dI,fr3,w3⟩;have hlen:its.length=ys.length:=hv3.length.symm;have D_fs:D∉X'.fs:=nfs D (by exact pS);have DC':D≠X'.env.locals:=hDC;have I3p:z9 X' (pins++[(D,{ cls:=.type "list",data:=.seq its.toArray k })]) (σ++List.replicate T.length none) H3 s3:=
   (I3.weak (by rw[hl3,Ad,BR,I2.len]) hs3).pins_of fun p hp=>by
    rcases Ak.mp hp with z | z
    ·exact I3.pin p (Af _ z)
    ·have e:=Aw.mp z;subst e;exact⟨hD3,hH3,DC',D_fs,fun v z=>by cases z⟩
  have pinsD:∀p∈pins++[(D,({ cls:=.type "list",data:=.seq its.toArray k }:Obj))],p∈pins\/p.1=D:=fun p hp=>by
   rcases Ak.mp hp with z | z
   ·exact .inl z
   ·exact .inr (by rw[Aw.mp z])
  rcases turn i n ys H3 w3 with⟨stop,hz,qn⟩ | ⟨go,hz,step⟩
  ·refine va (Tn.done X' rfl rfl rfl hc i _ s3 _ H3 _ I3p (fpk _ H3 pinsD fr3) dI stop) fun r s4 ⟨hr,I4'⟩=>?_;subst hr;obtain⟨hD4,hH4,_⟩:=I4'.pin (D,_) (Af _ (Af _ As));obtain⟨m',hn',_⟩:=I4'.loc;have un:Un (xM X.stack) fp H2 (upd H3 D (.lst ys)) s₂.heap s4.heap:={
    keep:=I4'.base.keep,slot:=I4'.base.slot
    free:=fun b o e n hx=>by have:=ltN e;rw[qu (tZ (by lia))];exact I4'.base.free b o e n hx
    there:=I4'.base.there
    tups:=fun b xs e=>by rw[qu (fun z=>by rw[z,HD] at e;cases e)];exact I4'.base.tups b xs e
    frzs:=fun b o u e=>by rw[qu (fun z=>by rw[z,HD] at e;cases e)];exact I4'.base.frzs b o u e
    tbls:=fun b ps e=>by rw[qu (fun z=>by rw[z,HD] at e;cases e)];exact I4'.base.tbls b ps e }
   have hok:eV X.prog X.w (upd H3 D (.lst ys)) s4.heap:=fun b u e=>by
    by_cases hb:b=D
    ·subst hb;rw[jd] at e;cases e;exact⟨hz,its,k,hv3,hD4⟩
    ·rw[qu hb] at e;refine(I4'.hok b u e).stay (fun _ _ _ q=>q) (fun c q=>?_) fun c xs q=>?_
     ·rw[qu (j7 q hH3)];exact q
     ·rw[qu (j7 q hH3)];exact q
   have I5:z9 X pins σ (upd H3 D (.lst ys)) s4:=I2.call' (ch:=fp) I4'.os un hok I4'.bare fun b hb=>⟨(f2 b hb).2.2.2.1,(f2 b hb).2.1,(f2 b hb).2.2.2.2.1,(f2 b hb).2.2.2.2.2⟩;refine hRR D C s4 _ m' I5 ?_ hn' (qn D hH3);refine⟨by rw[qu (AN hDC)];exact I4'.free,?_,?_,.inr ?_,fun x c e=>?_,fun p hp=>?_⟩
   ·exact tZ (by lia)
   ·exact I2.nofs (leN (by lia))
   ·exact leN (by lia)
   ·exact tZ (by have:=cellLt x c e;lia)
   ·exact tZ (by have:=ltN (I2.pin p hp).1;lia)
  ·refine va (Tn.item X' rfl rfl rfl hc i _ s3 _ H3 _ I3p (fpk _ H3 pinsD fr3) dI go) fun r s4 ⟨u,hr,h4⟩=>?_;subst hr;refine va h4 fun _ s5 ⟨x,H5,I5,r5,y5,st5,fr5⟩=>?_;have I5':=I5.pinned (fpk _ H5 pinsD fr5) (Tn.obj _ _ st5);refine AX ((hg C fp s₂ H2) _ s5 _ H5 x u _ I5' r5 (hgo σ I2.len x H5 _ (step x H5 y5))) (fun _ s6 ⟨σ6,H6,I6,⟨hl6,hs6⟩,q6⟩=>?_) fun _ _ z=>z;refine AX ((hf C fp s₂ H2) _ s6 σ6 H6 _ I6 q6) (fun b s7 ⟨H7,I7,q7⟩=>?_) fun _ _ z=>z;have xr:∀{s8:Shared} {H8:Hp} (I8:z9 X' ((pins++[(D,{ cls:=.type "list",data:=.seq its.toArray k })])++lV fp s5.heap) σ6 H8 s8),tn (i+1) s8.heap/\(∀b∈fp,H8 b=none)/\s8.heap.get? D=some { cls:=.type "list",data:=.seq its.toArray k }/\H8 D=none/\z9 X' pins σ6 H8 s8:=fun {s8 H8} I8=>by
    refine⟨Tn.keep _ _ _ st5 fun b hb o e=>(I8.pin (b,o) (Af _ (Af _ (cf hb e)))).1,fun b hb=>?_,?_,?_,I8.unpinned.unpinned⟩
    ·obtain⟨o,e,d⟩:=Tn.obj _ _ st5 b hb;exact(I8.pin (b,o) (Af _ (Af _ (cf hb e)))).2.1
    ·exact(I8.pin (D,_) (Af _ (Ar _ (Af _ As)))).1
    ·exact(I8.pin (D,_) (Af _ (Ar _ (Af _ As)))).2.1
   cases b with
   |false=>
    rw[Ay AE] at q7 ⊢;obtain⟨m',hm,w7⟩:=q7;obtain⟨a1,a2,a3,a4,a5⟩:=xr I7;exact⟨m',hm,i+1,σ6,H7,ys,its,k,a5,⟨hl6,hs6⟩,a3,hv3,a4,a1,a2,w7⟩
   |true=>
    rw[AD rfl] at q7 ⊢;refine AX ((he C fp s₂ H2) _ s7 σ6 H7 _ I7 q7) (fun v s8 ⟨y,H8,I8,r8,m',hm,w8⟩=>?_) fun _ _ z=>z;obtain⟨a1,a2,a3,a4,a5⟩:=xr I8;refine uU a3 (by lia) fun h9 k9 hs9 hD9=>?_;have nD:∀b∈fp,b≠D:=fun b hb=>tZ (by have:=fpo b hb;lia);refine⟨m',hm,i+1,σ6,H8,ys++[y],its++[v],k9,?_,⟨hl6,hs6⟩,hD9,hv3.append (.cons r8 .nil),a4,Tn.keep _ _ _ a1 fun b hb o e=>(hs9.2 b (nD b hb)).trans e,a2,w8⟩;exact a5.turned (t':=s8.toks) (it:=D) (fun b o hb e=>(hs9.2 b hb).trans e) a4 DC' (.inr (leN (by show @LE.le Nat instLENat s₂.heap.objs.size D;exact pS))) (fun x c e=>tZ (by have:=cellLt x c (S.cl_old I2 e);lia)) fun p hp=>tZ (by have:=ltN (I2.pin p hp).1;lia)
 exact codeAny_compStart_list (loop _ rfl) (Tn.self _ _ _ _ _ (Tn.keep _ _ _ tJ fun b _ o e=>old b o e) (loop _ rfl))
end
section
variable {T:List Str}{iter:Expr}{g:TG}{tc:TT}{te:TE}
theorem aml(T:List Str)(S:jh X scope)(hc:X.calm=true)(hi:PI X target iter wi)(hg:∀C fp s₀ H₀,PG (X.comp scope T C fp s₀ H₀) target g)(hgo:mz g X.N.length T.length)
 (hf:∀C fp s₀ H₀,PF (X.comp scope T C fp s₀ H₀) ifs tc) (he:∀C fp s₀ H₀,PE (X.comp scope T C fp s₀ H₀) elt te)
 (hs:∀x,foldedSetIterable iter X.env x=pure x:=by intro _;rfl):PE X (.ListComp elt [⟨target,iter,ifs,0⟩] scope pos) (tLC T.length wi g tc te):=by
 intro pins s σ H Q I h;rw[eval_ListComp];refine wpAny_comprehension_free (use:=none) rfl hs (S.clo I) S.kind S.names (va (hi pins s σ H _ I h) fun v s1 h1=>va h1 fun itv s2 h2=>?_);refine kQ (RR:=fun acc C=>compPost (model X.prog X.w) X.A X.xe none (EP X pins σ Q) acc C) S hc hg hgo hf he h2 ?_;intro D C s' H' m' I' f' hn q;exact⟨m',hn,fun h' hs'=>⟨.ref D,H',I'.turned (t':=s'.toks) (it:=C) (fun b o hb e=>(hs'.2 b hb).trans e) f'.1 (AN (AN f'.2.1)) f'.2.2.2.1 f'.2.2.2.2.1 f'.2.2.2.2.2,rfl,q⟩⟩
theorem ac9(T:List Str){px lp:Pos}(hN:X.N.Nodup)(hix:X.N[i]?=some x)(hx:Loc X.env.scope x)(S:jh X scope)(hc:X.calm=true)(hi:PI X target iter wi)
 (hg:∀C fp s₀ H₀,PG (X.comp scope T C fp s₀ H₀) target g) (hgo:mz g X.N.length T.length)
 (hf:∀C fp s₀ H₀,PF (X.comp scope T C fp s₀ H₀) ifs tc) (he:∀C fp s₀ H₀,PE (X.comp scope T C fp s₀ H₀) elt te)
 (hsw:swapsWith (.ListComp elt [⟨target,iter,ifs,0⟩] scope lp) (some (.Name x px)) pos.line X.env=pure true:=by rfl)
 (hfn:X.fn x=true\/X.env.scope.names.lookup x=some .local:=by first | exact .inl rfl | exact .inr rfl | assumption)
 (hs:∀x,foldedSetIterable iter X.env x=pure x:=by intro _;rfl):PS X (.Assign [.Name x px] (.ListComp elt [⟨target,iter,ifs,0⟩] scope lp) pos) (ajz (tLC T.length wi g tc te) (dg i)):=by
 intro pins s σ H D I h;rw[exec_Assign_Name_used _ _ _ _ hsw];refine Aa (wpAny_standAt (Aa ?_));show wpAny _ X.A (do let _ <-comprehension (.ListComp elt [⟨target,iter,ifs,0⟩] scope lp) scope X.env _ (newList []) false (eval iter X.env) (some (assign (.Name x px) X.env))) _ _ s;refine Aa (AX (wpAny_comprehension_free (use:=some (assign (.Name x px) X.env)) (Q:=fun _ s'=>SP X pins D .next s') rfl hs (S.clo I) S.kind S.names
  (va (hi pins s σ H _ I h) fun v s1 h1=>va h1 fun itv s2 h2=>?_)) (fun _ s' hq=>Ag (Ag hq)) fun _ _ e=>e)
 refine kQ (RR:=fun acc C=>compPost (model X.prog X.w) X.A X.xe (some (assign (.Name x px) X.env)) (fun _ s'=>SP X pins D .next s') acc C) (pins:=pins) (σ:=σ) (Q:=fun x H1=>dg i x σ H1 D.nx) S hc hg hgo hf he h2 ?_;intro A C s' H' m' I' f' hn q;show wpAny _ X.A (assign (.Name x px) X.env (.ref A)) _ _ s';refine wpAny_assign_Name (oU I' hN hix hx (v:=.ref A) rfl (fun s'' I'' ⟨a,hs,ha⟩ _=>?_) hfn);have hCa:C≠a:=by
  rcases ha with z | z
  ·rw[z];exact f'.2.1
  ·exact fun e=>f'.2.2.2.2.1 x a z e.symm
 exact⟨m',hn.sameBut hs hCa,fun h' hs'=>⟨_,H',I''.turned (t':=s''.toks) (it:=C) (fun b o hb e=>(hs'.2 b hb).trans e) f'.1 f'.2.1 f'.2.2.2.1 f'.2.2.2.2.1 f'.2.2.2.2.2,q⟩⟩
end
def vi(outer:Scope)(N:List Str)(sc:Scope):Bool:=
 decide (sc.kind=.function)&&sc.names.all (fun p=>decide (p.2≠.cell)&&(decide (p.2≠.local)||decide (sc.names.lookup p.1=some .local))&&(decide (p.2≠.free)||(decide (outer.names.lookup p.1=some .cell)||decide (outer.names.lookup p.1=some .free))))
  && N.all (fun x=>decide (sc.names.lookup x≠some .local))
theorem vi.mk{sc:Scope}(h:vi X.env.scope X.N sc=true):jh X sc:=by
 unfold vi at h;rw[A1,A1,CI,CI] at h;obtain⟨⟨h1,h2⟩,h3⟩:=h;have fm:∀n,(n,NameKind.free)∈sc.names->X.env.kindOf n=some .cell\/X.env.kindOf n=some .free:=fun n hn=>by
  have q:=h2 _ hn;simp only[A1,Eg,decide_eq_true_eq] at q;rcases q.2 with z | z
  ·exact absurd rfl z
  ·exact z
 refine⟨of_decide_eq_true h1,fun y hy=>?_,fun y hy e=>?_,fun n hn=>fm n (BA hn),fm,fun x hx=>of_decide_eq_true (h3 x hx)⟩
 ·have q:=h2 _ hy;simp only[A1,Eg,decide_eq_true_eq] at q;exact q.1.1
 ·have q:=h2 _ hy;simp only[A1,Eg,decide_eq_true_eq] at q;rcases q.1.2 with z | z
  ·exact absurd e z
  ·exact z
abbrev EK:=@vi.mk
theorem uk(n:Nat):mz (dg n) n 1:=by
 intro σ hl x H Q h;refine⟨⟨by simp[hl],fun i v e=>?_⟩,h⟩;by_cases hi:i=n
 ·subst hi;rw[An (by exact pS)] at e;simp[hl] at e
 ·rw[Bo (AN hi)];exact e
theorem e9:bootBuiltins "isinstance" = some (.builtin "isinstance"):=by decide +kernel
theorem fY:bootBuiltins "tuple" = some (.type "tuple"):=by decide +kernel
theorem abb:bootBuiltins "str" = some (.type "str"):=by decide +kernel
theorem tw:bootBuiltins "int" = some (.type "int"):=by decide +kernel
theorem ak:bootBuiltins "list" = some (.type "list"):=by decide +kernel
theorem aap:bootBuiltins "len" = some (.builtin "len"):=by decide +kernel
theorem huK{k:Nat}(hr:aZ k A):A.units+128<cLine:=by have:=hr.un;lia
theorem dS(h:n≤1000):n≤sizeLine:=Bn (oX h)
theorem zW.of{P:Program}{w:World}{K:Ai}{k:Nat}(F:cO P w K mg base CX0 k f fd ps sp)(b:fk K fd ps [])(kp:PySem.W.keepIn K (.ref f)=true)(m:mg x=some (.ref f)):
 zW P w K mg base k x ps sp:=⟨f,fd,F,b,kp,m⟩
theorem cO.never{P:Program}{w:World}{K:Ai}{k:Nat}(no:∀vs H Q E,¬sp vs H Q E):cO P w K mg base CX0 k f fd ps sp:=
 ⟨fun vs H Q E h=>absurd h (no vs H Q E),fun A outer s H args us vs Q E _ _ _ _ h=>absurd h (no vs H Q E)⟩
section
variable (K:Ai)(P:Program)(w:World)
end
structure qx(K:Ai)(x:Str)(st:Stmt):Prop where
 ex:∃(f:Addr) (kV doc pm:Value) (an:Option Addr) (cdv ct:Value),PySem.W.nsIn K mainGlobals x=some (some (.ref f))/\Fun K x x st f (PySem.W.fnOf x x (vf st) (jt st) (qw st) .none kV doc pm an cdv ct)
theorem def_in{K:Ai}{kV ct:Value}(a:PySem.W.nsIn K mainGlobals x=some (some (.ref f)))
 (l:K.lookup f=some ⟨oc,od,.func (PySem.W.fnOf x x (vf st) (jt st) (qw st) .none kV doc pm an cdv ct),osl⟩) (c:PySem.W.codeIn K cdv x=true) (k:PySem.W.keepIn K (.ref f)=true):qx K x st:=
 ⟨f,kV,doc,pm,an,cdv,ct,a,ake (st:=st) l c k⟩
theorem qx.use{K:Ai}(D:qx K x st)(X:K.In h)(G:h.Ns mainGlobals mg)
 (hb:∀(kV doc pm:Value) (an:Option Addr) (cdv ct:Value) (us:List Value),us.length=ps.length->bindArgs (PySem.W.fnOf x x (vf st) (jt st) (qw st) .none kV doc pm an cdv ct) ⟨us,[]⟩=pure (ps.zip us)):
 ∃f fd,Fun K x x st f fd/\fk K fd ps []/\mg x=some (.ref f):=by
 obtain⟨f,kV,doc,pm,an,cdv,ct,a,F⟩:=D.ex;exact⟨f,_,F,fk.all (hb kV doc pm an cdv ct),CQ X G a⟩
def wU(w:World)(r:Str×Tok×Str×Tok):DictEntry:=⟨hashStr w r.1,.str r.1 r.2.1,.str r.2.2.1 r.2.2.2⟩
theorem akz{K:Ai}{P:Program}{w:World}{c:Addr}{ep:Nat}(rows:List (Str×Tok×Str×Tok))(l:K.lookup c=some ⟨.type "dict",none,.dict (rows.map (wU w)).toArray ep,#[]⟩)(hs:(c==sysModules)=false)(hz:rows.length≤1000)(nd:(rows.map fun r=>(Sum.inr r.1:jl)).Nodup):
 KD K P w c (rows.map fun r=>(Sum.inr r.1,.str r.2.2.1)):=by
 refine⟨hs,by rw[Ae];exact dS hz,fun h X=>⟨rows.map fun r=>(Sum.inr r.1,.str r.2.2.1 r.2.2.2),?_,_,_,ep,X c _ l,⟨rfl,rfl,rfl⟩,rfl,?_,?_,?_⟩⟩
 ·unfold KV;clear l hz nd
  induction rows with|nil=>exact .nil|cons r t ih=>exact .cons ⟨rfl,_,rfl⟩ ih
 ·intro e he;have he':e∈rows.map (wU w):=by simpa using he
  obtain⟨r,_,rfl⟩:=Bp.mp he';exact⟨Sum.inr r.1,iE r.1 r.2.1,rfl⟩
 ·show Pairs _ (rows.map (wU w)).toArray.toList _;rw[List.toList_toArray];clear l hz nd
  induction rows with|nil=>exact .nil|cons r t ih=>exact .cons (iE r.1 r.2.1) rfl ih
 ·rw[BC];exact nd
end L2
namespace Words
open PySem L2
inductive Wd where
 |leaf (t:Bool) (n:Str)
 |node (e:Bool) (l r:Wd)
def kL:Bool->Str
 |false => "plain"
 |true => "turned"
def kN:Bool->Str
 |false => "both"
 |true => "either"
def Wd.turn:Wd->Wd
 |.leaf t n=>.leaf (!t) n
 |.node e l r=>.node (!e) l.turn r.turn
def Wd.depth:Wd->Nat
 |.leaf _ _=>1
 |.node _ l r=>max l.depth r.depth+1
def Wd.leaves:Wd->Nat
 |.leaf _ _=>1
 |.node _ l r=>l.leaves+r.leaves
theorem Wd.leaves_pos:∀w:Wd,1≤w.leaves
 |.leaf _ _=>Ao _
 |.node _ l r=>by have:=Wd.leaves_pos l;show 1≤l.leaves+r.leaves;exact ajq
abbrev EM:=@Wd.leaves_pos
theorem Wd.depth_le:∀w:Wd,w.depth≤w.leaves
 |.leaf _ _=>Ao _
 |.node _ l r=>by have:=Wd.depth_le l;have:=Wd.depth_le r;have:=EM l;have:=EM r;show max l.depth r.depth+1≤l.leaves+r.leaves;lia
def gn:Wd->Da
 |.leaf t n=>.tup [.s (.str (kL t)),.s (.str n)]
 |.node e l r=>.tup [.s (.str (kN e)),gn l,gn r]
theorem gU:∀w:Wd,Da.eq (gn w) (gn w)=true
 |.leaf t n=>by simp[gn,Da.eq,Da.eqs,gj]
 |.node e l r=>by simp[gn,Da.eq,Da.eqs,gj,gU l,gU r]
def dr(x:Str):Prop:=1≤x.length/\x.length≤8/\∀c∈x.cps.toList,97≤c/\c≤122
def Wd.ok:Wd->Prop
 |.leaf _ n=>dr n
 |.node _ l r=>l.ok/\r.ok
theorem Paired.getP{α β:Type}{F:α->β->Prop}:∀{xs:List α} {ys:List β} {i:Nat} {x:α},Paired F xs ys->xs[i]?=some x->∃y,ys[i]?=some y/\F x y
 |_,_,_,_,.nil,h=>by simp at h
 |_,_,0,_,.cons (b:=y) r _,h=>by simp at h;subst h;exact⟨y,rfl,r⟩
 |_,_,i+1,_,.cons _ t,h=>by obtain⟨y,e,q⟩:=Paired.getP (i:=i) t (by simpa using h);exact⟨y,by simpa using e,q⟩
end Words
namespace L2
open PySem PySem.Spec PyProof.Rows
section
theorem xJ{a b:Addr}{ys:List V}{es:List Da}(I:z9 X pins σ H s)(hu:A.units<cLine)(sx:dF X.K H a xs)(sy:dF X.K H b ys)(px:Paired (vv X.K H n) xs ds)(py:Paired (vv X.K H m) ys es)
 (ih:∀{x y:V} {d e:Da} {u v:Value},vv X.K H n x d->vv X.K H m y e->zw x u->zw y v->SeqAt.EqAt A.in1 s u v (Da.eq d e)):SeqAt.RcNeAt A s (.ref a) (.ref b) (!Da.eqs ds es):=by
 obtain⟨us,vx,tx,_⟩:=I.tuple sx;obtain⟨vs,vy,ty,_⟩:=I.tuple sy;have q:=SeqAt.RcNeAt.tuples tx ty hu (f7 px py vx vy ih);rw[Am,Am,<-vx.length,<-vy.length,px.length,py.length,EG] at q;exact q
theorem act{a b:Addr}{ys:List V}{es:List Da}(I:z9 X pins σ H s)(hu:A.units<cLine)(sx:aE X.K H a xs)(sy:aE X.K H b ys)(px:Paired (vv X.K H n) xs ds)(py:Paired (vv X.K H m) ys es)
 (ih:∀{x y:V} {d e:Da} {u v:Value},vv X.K H n x d->vv X.K H m y e->zw x u->zw y v->SeqAt.EqAt A.in1 s u v (Da.eq d e)):SeqAt.RcNeAt A s (.ref a) (.ref b) (!Da.eqs ds es):=by
 obtain⟨us,vx,tx,_⟩:=I.list sx;obtain⟨vs,vy,ty,_⟩:=I.list sy;by_cases hz:us.toArray.size=vs.toArray.size
 ·have q:=SeqAt.RcNeAt.lists (j6 tx) (j6 ty) hz hu (f7 px py vx vy ih);have hz':ds.length=es.length:=by rw[<-px.length,<-py.length,vx.length,vy.length];simpa using hz
  have e:=EG ds es;rw[hz',Nat.min_self] at e;rw[<-hz'] at e;rw[Am,<-vx.length,px.length] at q;simp only[beq_self_eq_true,Eo] at e;rw[e] at q;exact q
 ·have q:=SeqAt.RcNeAt.lists_lengths (j6 tx) (j6 ty) (by simpa using hz) hu;have hz':ds.length≠es.length:=by rw[<-px.length,<-py.length,vx.length,vy.length];intro z;exact hz (by simpa using z)
  have e:=EG ds es;have f:(ds.length==es.length)=false:=by simpa using hz'
  rw[f,C5] at e;rw[<-e];exact q
end
section
def uNe(K:Ai)(k:Nat):R2:=fun x y H Q=>match x,y with
 |.ref a,.ref b=>∃n m d e,n≤k/\vv K H n (.ref a) d/\vv K H m (.ref b) e/\Q (.bl (!Da.eq d e)) H
 |x,y=>afo x y=true/\Q (.bl (!decide (x=y))) H
theorem aiq{k:Nat}(hu:X.A.units+k<cLine):wb X (compareOp .NotEq) (uNe X.K k):=by
 intro pins s σ H x y v u Q I rx ry h;cases x with
 |ref a=>
  cases y with
  |ref b=>
   obtain⟨n,m,d,e,hn,h1,h2,q⟩:=h;cases rx;cases ry;have xr:∀{k:Bool},k=(!Da.eq d e)->SeqAt.RcNeAt X.A s (.ref a) (.ref b) k->wpAny (model X.prog X.w) X.A (compareOp .NotEq (.ref a) (.ref b)) (EP X pins σ Q) X.xe s:=fun {k} e' r=>
    r X.prog X.w X.xe (EP X pins σ Q) (by rw[e'];exact⟨.bl _,H,I,rfl,q⟩)
   cases n with
   |zero=>exact(j5 h1.2).elim
   |succ n=>
    cases m with
    |zero=>exact(j5 h2.2).elim
    |succ m=>
     have hin:X.A.in1.units+n<cLine:=by show X.A.units+1+n<cLine;lia
     rcases h1 with⟨_,f⟩ | ⟨a',xs,ds,e1,rfl,sx,px⟩ | ⟨a',xs,ds,e1,rfl,sx,px⟩
     ·exact(j5 f).elim
     ·cases e1;rcases h2 with⟨_,f⟩ | ⟨b',ys,es,e2,rfl,sy,py⟩ | ⟨b',ys,es,e2,rfl,sy,py⟩
      ·exact(j5 f).elim
      ·cases e2;exact xr rfl (xJ I (by lia) sx sy px py fun h1 h2 r1 r2=>lD I n hin h1 h2 r1 r2)
      ·cases e2;obtain⟨us,vx,tx,_⟩:=I.tuple sx;obtain⟨vs,vy,ty,_⟩:=I.list sy;exact xr rfl (.tuple_list tx (j6 ty) (by lia))
     ·cases e1;rcases h2 with⟨_,f⟩ | ⟨b',ys,es,e2,rfl,sy,py⟩ | ⟨b',ys,es,e2,rfl,sy,py⟩
      ·exact(j5 f).elim
      ·cases e2;obtain⟨us,vx,tx,_⟩:=I.list sx;obtain⟨vs,vy,ty,_⟩:=I.tuple sy;exact xr rfl (.list_tuple (j6 tx) ty (by lia))
      ·cases e2;exact xr rfl (act I (by lia) sx sy px py fun h1 h2 r1 r2=>lD I n hin h1 h2 r1 r2)
  |_=>exact agk pins s σ H _ _ v u Q I rx ry h
 |_=>cases y<;>exact agk pins s σ H _ _ v u Q I rx ry h
end
theorem oh:bootBuiltins "max" = some (.builtin "max"):=by decide +kernel
theorem jX:bootBuiltins "bool" = some (.type "bool"):=by decide +kernel
end L2
namespace Words
open PySem L2
def Wd.size:Wd->Nat
 |.leaf _ _=>1
 |.node _ l r=>1+l.size+r.size
theorem Wd.size_eq:∀w:Wd,w.size+1=2*w.leaves
 |.leaf _ _=>rfl
 |.node _ l r=>by have:=Wd.size_eq l;have:=Wd.size_eq r;show 1+l.size+r.size+1=2*(l.leaves+r.leaves);lia
end Words
namespace L2
open PySem PySem.Spec PyProof.Rows
section
variable {a:Addr}{tr:Option Addr}
end
section
variable {a b T:Addr}{tr:Option Addr}{E1:X1}
end
section
variable {k:Nat}{E1:X1}{t:TA}
end
section
variable {a T:Addr}{tr:Option Addr} 
end
section
variable {a T:Addr}
end
open PySem PySem.Spec PyProof.Rows PySem.W
open Builtin.ObjectAttr in
section
variable {w:World}{K:Frag}{a:Addr}
open Builtin Builtin.ObjectAttr Builtin.Getset_descriptor in
end
def alc(K:Ai)(H:Hp)(a C:Addr):Prop:=∃oe,H a=some (.frz oe (.own 0))/\oe.cls=.ref C
def ow(H:Hp)(P:Addr)(q:Str):Prop:=∃ps,H P=some (.tbl ps)/\TriplesOk ps.toList/\∀pos cv,codeAmong pos ps.toList=some cv->∃c' oc vs t,cv=.ref c'/\H c'=some (.frz oc (.own 0))/\oc.data=.fields vs/\vs[1]?=some (.str q t)
theorem ow.keep{P:Addr}(h:ow H P q)(e:H' P=H P)(t:∀b o u,H b=some (.frz o u)->H' b=some (.frz o u)):ow H' P q:=by obtain⟨ps,h1,h2,h3⟩:=h;refine⟨ps,e.trans h1,h2,fun pos cv z=>?_⟩;obtain⟨c',oc,vs,tt,e1,e2,e3⟩:=h3 pos cv z;exact⟨c',oc,vs,tt,e1,t _ _ _ e2,e3⟩
end L2
namespace L3
open PySem L2
inductive Y where
 |non | bl (b:Bool) | int (i:Int) | str (x:Str) | ref (a:Addr) | ty (n:String) | cd (kvs:List (Str×Str)) | tup (ys:List Y) | sq (ys:List Y)
inductive LO where
 |lst (ys:List Y) | dct (kvs:List (jl×Y)) | ins (C:Addr) (fs:List (Str×Y)) | exc (C:Addr) | tb (q:Str)
abbrev qm:=Addr->Option LO
def qg(L:qm)(a:Addr)(o:LO):qm:=fun b=>if b=a then some o else L b
theorem q9{L:qm}{a:Addr}{o:LO}:qg L a o a=some o:=by unfold qg;rw[AD rfl]
theorem qd{L:qm}{a b:Addr}{o:LO}(h:b≠a):qg L a o b=L b:=by unfold qg;rw[Ay h]
theorem vt{L:qm}{a:Addr}{o u:LO}:qg (qg L a o) a u=qg L a u:=by funext b;unfold qg;split<;>rfl
theorem w5{L:qm}{a b:Addr}{o:LO}(h:L a=some o)(h':L b=none):a≠b:=by intro e;subst e;rw[h] at h';cases h'
structure G3 where
 K:Ai
 P:Program
 w:World
abbrev _root_.L2.Cx.g3(X:Cx):G3:=⟨X.K,X.prog,X.w⟩
def SqF(K:Ai)(H:Hp)(a:Addr)(xs:List V):Prop:=(∃o,H a=some (.frz o (.lst xs)))\/
 ∃(o:Obj) (its:Array Value) (n:Nat),K.lookup a=some o/\o.cls=.type "list" /\ o.dict=none/\o.data=.seq its n/\its.size≤sizeLine/\zp xs its.toList
theorem SqF.sq{K:Ai}{a:Addr}(h:SqF K H a xs):aE K H a xs:=by
 rcases h with⟨o,h⟩ | h
 ·exact .inl (.inr ⟨o,h⟩)
 ·exact .inr h
mutual
def RV(G:G3)(H:Hp):Y->V->Prop
 |.non,v=>v=.non
 |.bl b,v=>v=.bl b
 |.int i,v=>v=.int i
 |.str x,v=>v=.str x
 |.ref a,v=>v=.ref a
 |.ty n,v=>v=.ty n
 |.cd kvs,v=>∃a,v=.ref a/\KD G.K G.P G.w a (kvs.map fun p=>(Sum.inr p.1,V.str p.2))
 |.tup ys,v=>∃a xs,v=.ref a/\dF G.K H a xs/\xo G H ys xs
 |.sq ys,v=>∃a xs,v=.ref a/\SqF G.K H a xs/\xo G H ys xs
def xo(G:G3)(H:Hp):List Y->List V->Prop
 |[],xs=>xs=[]
 |y::ys,xs=>∃x xs',xs=x::xs'/\RV G H y x/\xo G H ys xs'
end
def Imm:HO->Bool
 |.tup _=>true
 |.frz _ _=>true
 |_=>false
def jf(H H':Hp):Prop:=∀a u,Imm u=true->H a=some u->H' a=some u
theorem jf.refl(H:Hp):jf H H:=fun _ _ _ h=>h
abbrev EC:=@jf.refl
theorem jf.trans{H1 H2:Hp}(a:jf H H1)(b:jf H1 H2):jf H H2:=fun c u i h=>b c u i (a c u i h)
theorem jf.new{p:Addr}{o:HO}(h:H p=none):jf H (upd H p o):=fun _ _ _ q=>by rw[qu (j7 q h)];exact q
abbrev EE:=@jf.new
theorem jf.lst{p:Addr}{o:HO}(h:H p=some (.lst zs)):jf H (upd H p o):=fun a u i q=>by rw[qu ?_];exact q;rintro rfl;rw[h] at q;cases q;cases i
abbrev EN:=@jf.lst
theorem dF.ts{K:Ai}{a:Addr}(h:dF K H a xs)(t:jf H H'):dF K H' a xs:=by
 rcases h with(h | ⟨o,h⟩) | h
 ·exact .inl (.inl (t _ _ rfl h))
 ·exact .inl (.inr ⟨o,t _ _ rfl h⟩)
 ·exact .inr h
theorem SqF.ts{K:Ai}{a:Addr}(h:SqF K H a xs)(t:jf H H'):SqF K H' a xs:=by
 rcases h with⟨o,h⟩ | h
 ·exact .inl ⟨o,t _ _ rfl h⟩
 ·exact .inr h
mutual
theorem RV.ts{G:G3}{H H':Hp}(t:jf H H'):∀{y:Y} {v:V},RV G H y v->RV G H' y v
 |.non,_,h=>h
 |.bl _,_,h=>h
 |.int _,_,h=>h
 |.str _,_,h=>h
 |.ref _,_,h=>h
 |.ty _,_,h=>h
 |.cd _,_,h=>h
 |.tup _,_,⟨a,xs,e,s,r⟩=>⟨a,xs,e,dF.ts s t,xo.ts t r⟩
 |.sq _,_,⟨a,xs,e,s,r⟩=>⟨a,xs,e,s.ts t,xo.ts t r⟩
theorem xo.ts{G:G3}{H H':Hp}(t:jf H H'):∀{ys:List Y} {xs:List V},xo G H ys xs->xo G H' ys xs
 |[],_,h=>h
 |_::_,_,⟨x,xs',e,r,s⟩=>⟨x,xs',e,RV.ts t r,xo.ts t s⟩
end
theorem xo.length{G:G3}{H:Hp}:∀{ys:List Y} {xs:List V},xo G H ys xs->ys.length=xs.length
 |[],_,h=>by cases h;rfl
 |_::_,_,⟨x,xs',e,_,s⟩=>by subst e;simp[xo.length s]
theorem xo.get{G:G3}{H:Hp}:∀{ys:List Y} {xs:List V} {i:Nat} {y:Y},xo G H ys xs->ys[i]?=some y->∃x,xs[i]?=some x/\RV G H y x
 |[],_,_,_,_,h=>by simp at h
 |_::_,_,0,_,⟨x,xs',e,r,_⟩,h=>by subst e;simp at h;subst h;exact⟨x,rfl,r⟩
 |_::_,_,i+1,_,⟨x,xs',e,_,s⟩,h=>by subst e;obtain⟨x',q,r⟩:=xo.get (i:=i) s (by simpa using h);exact⟨x',by simpa using q,r⟩
theorem xo.app{G:G3}{H:Hp}:∀{ys zs:List Y} {xs us:List V},xo G H ys xs->xo G H zs us->xo G H (ys++zs) (xs++us)
 |[],_,_,_,h,q=>by cases h;exact q
 |_::_,_,_,_,⟨x,xs',e,r,s⟩,q=>by subst e;exact⟨x,xs'++_,rfl,r,xo.app s q⟩
theorem xo.one{G:G3}{y:Y}{x:V}(r:RV G H y x):xo G H [y] [x]:=⟨x,[],rfl,r,rfl⟩
theorem xo.take{G:G3}{H:Hp}:∀{ys:List Y} {xs:List V} (n:Nat),xo G H ys xs->xo G H (ys.take n) (xs.take n)
 |[],_,n,h=>by cases h;simp[xo]
 |_::_,_,0,_=>by simp[xo]
 |_::_,_,n+1,⟨x,xs',e,r,s⟩=>by subst e;exact⟨x,xs'.take n,rfl,r,xo.take n s⟩
theorem xo.drop{G:G3}{H:Hp}:∀{ys:List Y} {xs:List V} (n:Nat),xo G H ys xs->xo G H (ys.drop n) (xs.drop n)
 |[],_,n,h=>by cases h;simp[xo]
 |_::_,_,0,h=>h
 |_::_,_,n+1,⟨x,xs',e,r,s⟩=>by subst e;exact xo.drop n s
theorem xo.setY{G:G3}{H:Hp}{y:Y}{x:V}(r:RV G H y x):∀{ys:List Y} {xs:List V} (i:Nat),xo G H ys xs->xo G H (ys.set i y) (xs.set i x)
 |[],_,_,h=>by cases h;simp[xo]
 |_::_,_,0,⟨x',xs',e,_,s⟩=>by subst e;exact⟨x,xs',rfl,r,s⟩
 |_::_,_,i+1,⟨x',xs',e,q,s⟩=>by subst e;exact⟨x',xs'.set i x,rfl,q,xo.setY r i s⟩
theorem xo.dropLast{G:G3}{ys:List Y}(h:xo G H ys xs):xo G H ys.dropLast xs.dropLast:=by rw[List.dropLast_eq_take,List.dropLast_eq_take,h.length];exact h.take _
theorem xo.eraseIdx{G:G3}{H:Hp}:∀{ys:List Y} {xs:List V} (n:Nat),xo G H ys xs->xo G H (ys.eraseIdx n) (xs.eraseIdx n)
 |[],_,n,h=>by cases h;simp[xo]
 |_::_,_,0,⟨x,xs',e,r,s⟩=>by subst e;exact s
 |_::_,_,n+1,⟨x,xs',e,r,s⟩=>by subst e;exact⟨x,xs'.eraseIdx n,rfl,r,xo.eraseIdx n s⟩
def RO(G:G3)(H:Hp)(a:Addr):LO->Prop
 |.lst ys=>∃xs,H a=some (.lst xs)/\xo G H ys xs
 |.dct kvs=>∃xs,H a=some (.dK xs)/\Paired (fun(p:jl×Y) (q:jl×V)=>p.1=q.1/\RV G H p.2 q.2) kvs xs
 |.ins C fs=>∃dx xs,H a=some (.ins C dx xs)/\Paired (fun(p:Str×Y) (q:Str×V)=>p.1=q.1/\RV G H p.2 q.2) fs xs
 |.exc C=>alc G.K H a C
 |.tb q=>ow H a q
def jo(G:G3)(H:Hp)(L:qm):Prop:=∀a o,L a=some o->RO G H a o
theorem RO.ex{G:G3}{a:Addr}:∀{o:LO},RO G H a o->∃u,H a=some u
 |.lst _,⟨_,h,_⟩=>⟨_,h⟩
 |.dct _,⟨_,h,_⟩=>⟨_,h⟩
 |.ins _ _,⟨_,_,h,_⟩=>⟨_,h⟩
 |.exc _,⟨_,h,_⟩=>⟨_,h⟩
 |.tb _,⟨_,h,_⟩=>⟨_,h⟩
theorem jo.none{G:G3}{L:qm}(h:jo G H L){p:Addr}(hp:H p=none):L p=none:=by cases e:L p with|none=>rfl|some o=>obtain⟨u,q⟩:=(h p o e).ex;rw[hp] at q;cases q
theorem RO.keep{G:G3}(t:jf H H'){a:Addr}(e:H' a=H a):∀{o:LO},RO G H a o->RO G H' a o
 |.lst _,⟨xs,h,r⟩=>⟨xs,e.trans h,r.ts t⟩
 |.dct _,⟨xs,h,r⟩=>⟨xs,e.trans h,EI r fun _ _ ⟨a,b⟩=>⟨a,b.ts t⟩⟩
 |.ins _ _,⟨dx,xs,h,r⟩=>⟨dx,xs,e.trans h,EI r fun _ _ ⟨a,b⟩=>⟨a,b.ts t⟩⟩
 |.exc _,⟨o,h,c⟩=>⟨o,e.trans h,c⟩
 |.tb _,h=>ow.keep h e fun b o u z=>t b _ rfl z
theorem jo.skip{G:G3}{L:qm}(h:jo G H L){p:Addr}{o:HO}(hp:H p=.none):jo G (upd H p o) L:=fun a u e=>by obtain⟨x,q⟩:=(h a u e).ex;exact(h a u e).keep (EE hp) (qu (j7 q hp))
theorem jo.newL{G:G3}{L:qm}(h:jo G H L){p:Addr}{ys:List Y}(hp:H p=.none)(r:xo G H ys xs):jo G (upd H p (.lst xs)) (qg L p (.lst ys)):=fun a u e=>by
 by_cases c:a=p
 ·subst c;rw[q9] at e;cases e;exact⟨xs,jd,r.ts (EE hp)⟩
 ·rw[qd c] at e;exact(h a u e).keep (EE hp) (qu c)
theorem jo.setL{G:G3}{L:qm}(h:jo G H L){p:Addr}{ys:List Y}(hp:H p=some (.lst zs))(r:xo G H ys xs):jo G (upd H p (.lst xs)) (qg L p (.lst ys)):=fun a u e=>by
 by_cases c:a=p
 ·subst c;rw[q9] at e;cases e;exact⟨xs,jd,r.ts (EN hp)⟩
 ·rw[qd c] at e;exact(h a u e).keep (EN hp) (qu c)
def qj(L L':qm):Prop:=∀a o,L a=some o->L' a=some o
theorem qj.refl(L:qm):qj L L:=fun _ _ h=>h
abbrev ED:=@qj.refl
theorem qj.trans{L L1 L2:qm}(a:qj L L1)(b:qj L1 L2):qj L L2:=fun c o h=>b c o (a c o h)
theorem qj.new{L:qm}{p:Addr}{o:LO}(h:L p=none):qj L (qg L p o):=fun a u e=>by rw[qd (w5 e h)];exact e
abbrev By:=@qj.new
theorem jo.sub{G:G3}{L L':qm}(h:jo G H L')(s:qj L L'):jo G H L:=fun a o e=>h a o (s a o e)
abbrev jp:=List (Option Y)
structure ke(G:G3)(H:Hp)(σ:St)(τ:jp):Prop where
 len:σ.length=τ.length
 get:∀(i:Nat) y,τ[i]?=some (some y)->∃v,σ[i]?=some (some v)/\RV G H y v
theorem ke.ts{G:G3}{τ:jp}(h:ke G H σ τ)(t:jf H H'):ke G H' σ τ:=
 ⟨h.len,fun i y e=>let ⟨v,a,b⟩:=h.get i y e;⟨v,a,b.ts t⟩⟩
theorem ke.set{G:G3}{τ:jp}(h:ke G H σ τ){y:Y}(r:RV G H y v):ke G H (σ.set i (some v)) (τ.set i (some y)):=by
 refine⟨by simp[h.len],fun j z e=>?_⟩;by_cases c:i=j
 ·subst c;have hi:i<τ.length:=by
   by_cases q:i<τ.length
   ·exact q
   ·rw[Cz (by simp;omega)] at e;cases e
  rw[BX hi] at e;cases e;exact⟨v,BX (by rw[h.len];exact hi),r⟩
 ·rw[Bo c] at e ⊢;exact h.get j z e
theorem ke.more{G:G3}{τ:jp}(h:ke G H σ τ)(n:Nat):ke G H (σ++List.replicate n none) (τ++List.replicate n none):=by
 refine⟨by simp[h.len],fun j z e=>?_⟩;by_cases c:j<τ.length
 ·rw[AB c] at e;rw[AB (by rw[h.len];exact c)];exact h.get j z e
 ·rw[An (by omega),Cf] at e;split at e<;>cases e
def u9:jp->Nat->Option Y
 |[],_=>none
 |o::_,0=>o
 |_::r,i+1=>u9 r i
theorem pD:∀(τ:jp) (i:Nat) {y:Y},u9 τ i=some y->τ[i]?=some (some y)
 |[],_,_,h=>by cases h
 |o::_,0,_,h=>by simp[u9] at h;simp[h]
 |_::r,i+1,_,h=>by simp only[CY];exact pD r i h
abbrev YK:=Y->qm->Prop
abbrev xp:=jp->qm->YK->Prop
abbrev iD:=jp->qm->(Bool->qm->Prop)->Prop
abbrev eX:=jp->qm->(List Y->qm->Prop)->Prop
structure vh where
 nx:jp->qm->Prop
 rt:YK
 bk:jp->qm->Prop:=fun _ _=>False
 ct:jp->qm->Prop:=fun _ _=>False
abbrev wv:=vh->jp->qm->Prop
abbrev iC:=Y->jp->qm->(jp->qm->Prop)->Prop
abbrev sM:=List Y->jp->qm->(jp->qm->Prop)->Prop
abbrev TI3:=jp->qm->(List Y->(qm->Prop)->qm->Prop)->Prop
abbrev oF:=Y->Y->qm->YK->Prop
def xB(G:G3)(H:Hp)(Q3:YK)(Q:VK):Prop:=∀v H' y L',jf H H'->jo G H' L'->RV G H' y v->Q3 y L'->Q v H'
def ady(G:G3)(H:Hp)(Q3:Bool->qm->Prop)(Q:Bool->Hp->Prop):Prop:=∀b H' L',jf H H'->jo G H' L'->Q3 b L'->Q b H'
def at8(G:G3)(H:Hp)(Q3:List Y->qm->Prop)(Q:List V->Hp->Prop):Prop:=∀vs H' ys L',jf H H'->jo G H' L'->xo G H' ys vs->Q3 ys L'->Q vs H'
def m8(G:G3)(H:Hp)(Q3:jp->qm->Prop)(Q:St->Hp->Prop):Prop:=∀σ H' τ L',jf H H'->ke G H' σ τ->jo G H' L'->Q3 τ L'->Q σ H'
theorem xB.ts{G:G3}{Q3:YK}{Q:VK}(h:xB G H Q3 Q)(t:jf H H'):xB G H' Q3 Q:=fun v H2 y L' t2=>h v H2 y L' (t.trans t2)
theorem ady.ts{G:G3}{Q3:Bool->qm->Prop}{Q:Bool->Hp->Prop}(h:ady G H Q3 Q)(t:jf H H'):ady G H' Q3 Q:=fun v H2 L' t2=>h v H2 L' (t.trans t2)
theorem m8.ts{G:G3}{Q3:jp->qm->Prop}{Q:St->Hp->Prop}(h:m8 G H Q3 Q)(t:jf H H'):m8 G H' Q3 Q:=fun v H2 y L' t2=>h v H2 y L' (t.trans t2)
structure adh(G:G3)(H:Hp)(D3:vh)(D:ug):Prop where
 nx:m8 G H D3.nx D.nx
 rt:xB G H D3.rt D.rt
 bk:m8 G H D3.bk D.bk
 ct:m8 G H D3.ct D.ct
theorem adh.ts{G:G3}{D3:vh}{D:ug}(h:adh G H D3 D)(t:jf H H'):adh G H' D3 D:=⟨h.nx.ts t,h.rt.ts t,h.bk.ts t,h.ct.ts t⟩
def qS(G:G3)(t:xp):TE:=fun σ H Q=>∃τ L Q3,ke G H σ τ/\jo G H L/\t τ L Q3/\xB G H Q3 Q
def upT(G:G3)(t:iD):TT:=fun σ H Q=>∃τ L Q3,ke G H σ τ/\jo G H L/\t τ L Q3/\ady G H Q3 Q
def upA(G:G3)(t:eX):TA:=fun σ H Q=>∃τ L Q3,ke G H σ τ/\jo G H L/\t τ L Q3/\at8 G H Q3 Q
def upS(G:G3)(t:wv):L2.TS:=fun D σ H=>∃τ L D3,ke G H σ τ/\jo G H L/\t D3 τ L/\adh G H D3 D
def upG(G:G3)(g:iC):TG:=fun v σ H Q=>∃y τ L Q3,RV G H y v/\ke G H σ τ/\jo G H L/\g y τ L Q3/\m8 G H Q3 Q
def apf(G:G3)(g:sM):TGs:=fun vs σ H Q=>∃ys τ L Q3,xo G H ys vs/\ke G H σ τ/\jo G H L/\g ys τ L Q3/\m8 G H Q3 Q
structure hX(G:G3)(H₀:Hp)(J:It)(ys:List Y)(keep:qm->Prop):Prop where
 go:∀i H L,jf H₀ H->jo G H L->keep L->i<ys.length->J.go i H
 yld:∀i H L x H' y,jf H₀ H->jo G H L->keep L->ys[i]?=some y->J.yld i H x H'->jf H H'/\jo G H' L/\RV G H' y x
 stop:∀H L,jf H₀ H->jo G H L->keep L->J.stop ys.length H
def upI(G:G3)(wi:TI3):TI:=fun σ H R=>∃τ L R3,ke G H σ τ/\jo G H L/\wi τ L R3/\∀J H' ys keep L',jf H H'->jo G H' L'->hX G H' J ys keep->R3 ys keep L'->R J H'
def fV(G:G3)(r3:oF):R2:=fun x y H Q=>∃x3 y3 L Q3,RV G H x3 x/\RV G H y3 y/\jo G H L/\r3 x3 y3 L Q3/\xB G H Q3 Q
def upL(G:G3)(r3:List Y->qm->YK->Prop):List V->Hp->VK->Prop:=fun xs H Q=>∃ys L Q3,xo G H ys xs/\jo G H L/\r3 ys L Q3/\xB G H Q3 Q
theorem PE.imp{t u:TE}(h:PE X e t)(q:∀σ H Q,u σ H Q->t σ H Q):PE X e u:=fun pins s σ H Q I z=>h pins s σ H Q I (q σ H Q z)
abbrev EF:=@PE.imp
theorem PT.imp{t u:TT}(h:PT X e t)(q:∀σ H Q,u σ H Q->t σ H Q):PT X e u:=fun pins s σ H Q I z=>h pins s σ H Q I (q σ H Q z)
theorem PW.imp{t u:TT}(h:PW X e t)(q:∀σ H Q,u σ H Q->t σ H Q):PW X e u:=fun wh pins s σ H Q I z=>h wh pins s σ H Q I (q σ H Q z)
theorem PA.imp{e:List Expr}{t u:TA}(h:PA X e t)(q:∀σ H Q,u σ H Q->t σ H Q):PA X e u:=fun pos pins s σ H Q I z=>h pos pins s σ H Q I (q σ H Q z)
theorem PS.imp{e:Stmt}{t u:L2.TS}(h:PS X e t)(q:∀D σ H,u D σ H->t D σ H):PS X e u:=fun pins s σ H Q I z=>h pins s σ H Q I (q _ σ H z)
abbrev EH:=@PS.imp
theorem m5.imp{e:List Stmt}{t u:L2.TS}(h:m5 X e t)(q:∀D σ H,u D σ H->t D σ H):m5 X e u:=fun pins s σ H Q I z=>h pins s σ H Q I (q _ σ H z)
theorem PF.imp{e:List Expr}{t u:TT}(h:PF X e t)(q:∀σ H Q,u σ H Q->t σ H Q):PF X e u:=fun pins s σ H Q I z=>h pins s σ H Q I (q σ H Q z)
end L3
variable {g:L3.iC}{y:L3.Y}{D:L3.vh}{tA tc:L3.iD}{ta tb te to:L3.xp}{ys:List L3.Y}{L L' L0 L1:L3.qm}{G:L3.G3}{τ:L3.jp}{gs:L3.sM}{tr:L3.eX}
namespace L3
open PySem L2
def kh(b:Bool)(A B:Prop):Prop:=match b with
 |true=>A
 |false=>B
theorem afb{b:Bool}{A B:Prop}(h:b=true->A)(k:b=false->B):kh b A B:=by cases b with|true=>exact h rfl|false=>exact k rfl
theorem wy{b:Bool}{A B:Prop}(e:b=true)(h:A):kh b A B:=by rw[e];exact h
theorem aG{b:Bool}{A B:Prop}(e:b=false)(h:B):kh b A B:=by rw[e];exact h
theorem j8{p:Prop} [Decidable p]{A B:Prop}(h:p->A)(k:¬p->B):kh (decide p) A B:=by
 by_cases c:p
 ·rw[AC c];exact h c
 ·rw[Ax c];exact k c
def nb(neg b:Bool):Bool:=match neg with
 |true=>!b
 |false=>b
def qa(i:Nat)(τ:jp)(L:qm)(Q:YK):Prop:=match u9 τ i with
 |some y=>Q y L
 |none=>False
def yC(y:Y)(_:jp)(L:qm)(Q:YK):Prop:=Q y L
def zn(r:oF)(ta tb:xp)(τ:jp)(L:qm)(Q:YK):Prop:=ta τ L fun x L1=>tb τ L1 fun y L2=>r x y L2 Q
def yI(C:Int->Int->Prop)(g:Int->Int->Y)(x y:Y)(L:qm)(Q:YK):Prop:=match x,y with
 |.int i,.int j=>C i j/\Q (g i j) L
 |_,_=>False
def yI0(g:Int->Int->Y)(x y:Y)(L:qm)(Q:YK):Prop:=match x,y with
 |.int i,.int j=>Q (g i j) L
 |_,_=>False
def cA(L:qm):Y->Option (List Y)
 |.tup ys=>some ys
 |.sq ys=>some ys
 |.ref a=>match L a with
  |some (.lst ys)=>some ys
  |_=>none
 |_=>none
@[irreducible] def cW (L:qm) (a:Addr) (k:List Y->Prop):Prop:=match L a with
 |some (.lst ys)=>k ys
 |_=>False
theorem xh{a:Addr}{k:List Y->Prop}(h:cW L a k):∃ys,L a=some (.lst ys)/\k ys:=by
 unfold cW at h;split at h
 ·rename_i ys e;exact⟨ys,e,h⟩
 ·exact h.elim
theorem qk{a:Addr}{k:List Y->Prop}(e:L a=some (.lst ys))(h:k ys):cW L a k:=by unfold cW;rw[e];exact h
def fO(L:qm)(x:Y)(k:List Y->Prop):Prop:=match x with
 |.tup ys=>k ys
 |.sq ys=>k ys
 |.ref a=>cW L a k
 |_=>False
theorem aD{a:Addr}(h:L a=some (.lst ys)):cA L (.ref a)=some ys:=by show(match L a with | some (.lst ys)=>some ys | _=>none)=some ys;rw[h]
theorem wr{x:Y}{k:List Y->Prop}(h:fO L x k):∃ys,cA L x=some ys/\k ys:=by
 cases x with
 |tup ys=>exact⟨ys,rfl,h⟩
 |sq ys=>exact⟨ys,rfl,h⟩
 |ref a=>obtain⟨ys,e,q⟩:=xh h;exact⟨ys,aD e,q⟩
 |_=>exact h.elim
theorem gf{a:Addr}(h:cA L (.ref a)=some ys):L a=some (.lst ys):=by
 have h':(match L a with | some (.lst ys)=>some ys | _=>none)=some ys:=h;split at h'
 ·rename_i e;cases h';exact e
 ·cases h'
theorem afc{x:Y}{k:List Y->Prop}(e:cA L x=some ys)(h:k ys):fO L x k:=by cases x with|tup zs=>cases e;exact h|sq zs=>cases e;exact h|ref a=>exact qk (gf e) h|_=>cases e
theorem qb{a:Addr}{k:List Y->Prop}(e:L a=some (.lst ys))(h:k ys):fO L (.ref a) k:=afc (aD e) h
def wz(x y:Y)(L:qm)(Q:YK):Prop:=match x,y with
 |.int i,.int j=>Q (.int (i+j)) L
 |.str a,.str b=>a.length+b.length≤sizeLine/\Q (.str (a++b)) L
 |.ref a,.ref b=>∃ys zs,L a=some (.lst ys)/\L b=some (.lst zs)/\ys.length+zs.length≤sizeLine/\∀p,L p=none->Q (.ref p) (qg L p (.lst (ys++zs)))
 |_,_=>False
def wO(L:qm)(Q:α->qm->Prop):Option α->Prop
 |some v=>Q v L
 |none=>False
def aX(kvs:List (jl×Y))(k:jl):Option Y:=(kvs.find? fun p=>decide (p.1=k)).map (·.2)
@[irreducible] def uH (L:qm) (a:Addr) (k:List (jl×Y)->Prop):Prop:=match L a with
 |some (.dct kvs)=>k kvs
 |_=>False
theorem kA{a:Addr}{k:List (jl×Y)->Prop}(h:uH L a k):∃kvs,L a=some (.dct kvs)/\k kvs:=by
 unfold uH at h;split at h
 ·rename_i ys e;exact⟨ys,e,h⟩
 ·exact h.elim
theorem aF{a:Addr}{k:List (jl×Y)->Prop}{kvs:List (jl×Y)}(e:L a=some (.dct kvs))(h:k kvs):uH L a k:=by unfold uH;rw[e];exact h
def ax(x y:Y)(L:qm)(Q:YK):Prop:=match x,y with
 |.str z,.int i=>z.length≤sizeLine/\wO L (fun c L=>Q (.str ⟨#[c]⟩) L) (g9 z.cps.toList i)
 |.cd kvs,.str k=>wO L (fun s L=>Q (.str s) L) (kvs.lookup k)
 |.ref a,.str k=>uH L a fun kvs=>wO L Q (aX kvs (.inr k))
 |x,.int i=>fO L x fun ys=>wO L Q (g9 ys i)
 |_,_=>False
def jC(xs:List Y)(L:qm)(Q:YK):Prop:=match xs with
 |[.str z]=>z.length≤sizeLine/\Q (.int z.length) L
 |[x]=>fO L x fun ys=>Q (.int ys.length) L
 |_=>False
def sv(xs:List Y)(L:qm)(Q:YK):Prop:=match xs with
 |[.int i,.int j]=>Q (.int (max i j)) L
 |_=>False
def rY(xs:List Y)(L:qm)(Q:YK):Prop:=match xs with
 |[.int i,.int j]=>Q (.int (min i j)) L
 |_=>False
inductive i7 where
 |non | bool | int | str | tuple | list | dict
def i7.nm:i7->String
 |.non => "NoneType"
 |.bool => "bool"
 |.int => "int"
 |.str => "str"
 |.tuple => "tuple"
 |.list => "list"
 |.dict => "dict"
def tyY(L:qm):Y->Option i7
 |.non=>some .non
 |.bl _=>some .bool
 |.int _=>some .int
 |.str _=>some .str
 |.tup _=>some .tuple
 |.sq _=>some .list
 |.ref a=>match L a with
  |some (.lst _)=>some .list
  |some (.dct _)=>some .dict
  |_=>none
 |_=>none
theorem tyL{a:Addr}(h:L a=some (.lst ys)):tyY L (.ref a)=some .list:=by show(match L a with | some (.lst _)=>some i7.list | some (.dct _)=>some .dict | _=>none)=some .list;rw[h]
def bV:i7->i7->Bool
 |.bool,.int=>true
 |.bool,.bool=>true
 |.int,.int=>true
 |.str,.str=>true
 |.tuple,.tuple=>true
 |.list,.list=>true
 |.dict,.dict=>true
 |.non,.non=>true
 |_,_=>false
@[irreducible] def tyK (L:qm) (a:Addr) (k:i7->Prop):Prop:=match tyY L (.ref a) with
 |some T=>k T
 |none=>False
theorem af3{a:Addr}{k:i7->Prop}(h:tyK L a k):∃T,tyY L (.ref a)=some T/\k T:=by
 unfold tyK at h;split at h
 ·rename_i T e;exact⟨T,e,h⟩
 ·exact h.elim
theorem cq{a:Addr}{k:i7->Prop}(e:L a=some (.lst ys))(h:k .list):tyK L a k:=by unfold tyK;rw[tyL e];exact h
def aj4(L:qm)(x:Y)(k:i7->Prop):Prop:=match x with
 |.non=>k .non
 |.bl _=>k .bool
 |.int _=>k .int
 |.str _=>k .str
 |.tup _=>k .tuple
 |.sq _=>k .list
 |.ref a=>tyK L a k
 |_=>False
theorem sK{x:Y}{k:i7->Prop}(h:aj4 L x k):∃T,tyY L x=some T/\k T:=by cases x with|ref a=>exact af3 h|ty n=>exact h.elim|cd k=>exact h.elim|_=>exact⟨_,rfl,h⟩
def bB(S:i7)(te:xp)(τ:jp)(L:qm)(Q:YK):Prop:=te τ L fun x L1=>aj4 L1 x fun T=>Q (.bl (bV T S)) L1
def tQ(S S':i7)(te:xp)(τ:jp)(L:qm)(Q:YK):Prop:=te τ L fun x L1=>aj4 L1 x fun T=>Q (.bl (bV T S||bV T S')) L1
def dG:Y->Bool
 |.non=>true
 |.bl _=>true
 |.int _=>true
 |.str _=>true
 |_=>false
def dm:Y->V
 |.non=>.non
 |.bl b=>.bl b
 |.int i=>.int i
 |.str x=>.str x
 |_=>.ty "?"
theorem RV.flat :∀{y:Y} {v:V},dG y=true->RV G H y v->v=dm y
 |.non,_,_,h=>h
 |.bl _,_,_,h=>h
 |.int _,_,_,h=>h
 |.str _,_,_,h=>h
theorem f6:∀{y:Y},dG y=true->af (dm y)=true
 |.non,_=>rfl
 |.bl _,_=>rfl
 |.int _,_=>rfl
 |.str _,_=>rfl
theorem xo.flat :∀{ys:List Y} {xs:List V},ys.all dG=true->xo G H ys xs->xs=ys.map dm
 |[],_,_,h=>h
 |y::ys,_,f,⟨x,xs',e,r,s⟩=>by rw[DN,A1] at f;rw[e,r.flat f.1,s.flat f.2];rfl
def wS:Y->Bool
 |.ref _=>true
 |.sq _=>true
 |_=>false
def ju(L:qm):Nat->Y->Da->Prop
 |0,y,d=>dG y=true/\d=.s (dm y)
 |n+1,y,d=>(dG y=true/\d=.s (dm y))\/(∃ys ds,y=.tup ys/\d=.tup ds/\Paired (ju L n) ys ds)\/(∃ys ds,wS y=true/\d=.lst ds/\cA L y=some ys/\Paired (ju L n) ys ds)
def xN:Y->Bool
 |.ref _=>true
 |.tup _=>true
 |.sq _=>true
 |_=>false
def mQ(neg:Bool)(x y:Y)(L:qm)(Q:YK):Prop:=match x,y with
 |.int i,.int j=>Q (.bl (nb neg (decide (i=j)))) L
 |.str i,.str j=>Q (.bl (nb neg (decide (i=j)))) L
 |.bl i,.bl j=>Q (.bl (nb neg (decide (i=j)))) L
 |x,y=>xN x=true/\xN y=true/\∃n m d e,n≤128/\ju L n x d/\ju L m y e/\Q (.bl (nb neg (Da.eq d e))) L
def cX(neg:Bool)(ta:xp)(τ:jp)(L:qm)(Q:YK):Prop:=ta τ L fun x L1=>match x with
 |.non=>Q (.bl (!neg)) L1
 |_=>Q (.bl neg) L1
def yB(t:xp)(τ:jp)(L:qm)(Q:Bool->qm->Prop):Prop:=t τ L fun x L1=>match x with
 |.bl c=>Q c L1
 |_=>False
def eL(t u:iD)(τ:jp)(L:qm)(Q:Bool->qm->Prop):Prop:=t τ L fun c L1=>kh c (u τ L1 Q) (Q false L1)
def yOr(t u:iD)(τ:jp)(L:qm)(Q:Bool->qm->Prop):Prop:=t τ L fun c L1=>kh c (Q true L1) (u τ L1 Q)
def y7(t:iD)(τ:jp)(L:qm)(Q:Bool->qm->Prop):Prop:=t τ L fun c L1=>Q (!c) L1
def a8(ta tb:xp)(τ:jp)(L:qm)(Q:YK):Prop:=ta τ L fun x L1=>match x with
 |.bl c=>kh c (tb τ L1 Q) (Q (.bl false) L1)
 |_=>False
def yIf(t:iD)(ta tb:xp)(τ:jp)(L:qm)(Q:YK):Prop:=t τ L fun c L1=>kh c (ta τ L1 Q) (tb τ L1 Q)
def qr(_:jp)(L:qm)(Q:List Y->qm->Prop):Prop:=Q [] L
def qe(ta:xp)(tr:eX)(τ:jp)(L:qm)(Q:List Y->qm->Prop):Prop:=ta τ L fun x L1=>tr τ L1 fun xs L2=>Q (x::xs) L2
def vk(t:eX)(τ:jp)(L:qm)(Q:YK):Prop:=t τ L fun ys L1=>match Nat.ble ys.length 1000 with
 |true=>Q (.tup ys) L1
 |false=>False
def ve(t:eX)(τ:jp)(L:qm)(Q:YK):Prop:=t τ L fun ys L1=>match Nat.ble ys.length 1000 with
 |true=>∀p,L1 p=none->Q (.ref p) (qg L1 p (.lst ys))
 |false=>False
def bJ(r:List Y->qm->YK->Prop)(t:eX)(τ:jp)(L:qm)(Q:YK):Prop:=t τ L fun vs L1=>r vs L1 Q
abbrev TO3:=jp->qm->(Option Int->qm->Prop)->Prop
def jJ(_:jp)(L:qm)(Q:Option Int->qm->Prop):Prop:=Q none L
def oA(t:xp)(τ:jp)(L:qm)(Q:Option Int->qm->Prop):Prop:=t τ L fun x L1=>match x with
 |.int i=>Q (some i) L1
 |_=>False
def rq(xs:List Y)(lo hi:Option Int):List Y:=(xs.drop (HT.sIx xs.length 0 lo)).take (HT.sIx xs.length xs.length hi - HT.sIx xs.length 0 lo)
def alb(x:Y)(lo hi:Option Int)(L:qm)(Q:YK):Prop:=match x with
 |.ref a=>cW L a fun ys=>∀p,L p=none->Q (.ref p) (qg L p (.lst (rq ys lo hi)))
 |.sq ys=>∀p,L p=none->Q (.ref p) (qg L p (.lst (rq ys lo hi)))
 |_=>False
def ySl(r:Y->Option Int->Option Int->qm->YK->Prop)(te:xp)(tl th:TO3)(τ:jp)(L:qm)(Q:YK):Prop:=te τ L fun x L1=>tl τ L1 fun l L2=>th τ L2 fun u L3=>r x l u L3 Q
def qp(t u:wv)(D:vh)(τ:jp)(L:qm):Prop:=t { D with nx:=u D } τ L
def js(D:vh)(τ:jp)(L:qm):Prop:=D.nx τ L
def agi(D:vh)(τ:jp)(L:qm):Prop:=D.ct τ L
def j9(te:xp)(D:vh)(τ:jp)(L:qm):Prop:=te τ L fun _ L1=>D.nx τ L1
def jr(te:xp)(D:vh)(τ:jp)(L:qm):Prop:=te τ L D.rt
def abi(D:vh)(_:jp)(L:qm):Prop:=D.rt .non L
def xc(c:iD)(t u:wv)(D:vh)(τ:jp)(L:qm):Prop:=c τ L fun b L1=>kh b (t D τ L1) (u D τ L1)
def zr(te:xp)(g:iC)(D:vh)(τ:jp)(L:qm):Prop:=te τ L fun x L1=>g x τ L1 D.nx
def bK:jp->Nat->Y->jp
 |[],_,_=>[]
 |_::r,0,y=>some y::r
 |o::r,i+1,y=>o::bK r i y
theorem wu:∀(τ:jp) (i:Nat) (y:Y),bK τ i y=τ.set i (some y)
 |[],_,_=>rfl
 |_::_,0,_=>rfl
 |o::r,i+1,y=>by rw[bK,wu r i y];rfl
def qf(i:Nat)(y:Y)(τ:jp)(L:qm)(Q:jp->qm->Prop):Prop:=Q (bK τ i y) L
def vz(ys:List Y)(τ:jp)(L:qm)(Q:jp->qm->Prop):Prop:=match ys with
 |[]=>Q τ L
 |_=>False
def zg(t:iC)(u:sM)(ys:List Y)(τ:jp)(L:qm)(Q:jp->qm->Prop):Prop:=match ys with
 |[]=>False
 |y::r=>t y τ L fun τ' L'=>u r τ' L' Q
def wo(n:Nat)(t:sM)(y:Y)(τ:jp)(L:qm)(Q:jp->qm->Prop):Prop:=match y with
 |.tup ys=>match ys.length==n with
  |true=>t ys τ L Q
  |false=>False
 |_=>False
def aio(i j:Nat)(ta:eX)(D:vh)(τ:jp)(L:qm):Prop:=ta τ L fun vs L1=>match vs with
 |[v,w]=>D.nx (bK (bK τ i v) j w) L1
 |_=>False
def cz(W:α->qm->Prop)(x:α)(L:qm):Prop:=∃L',qj L' L/\W x L'
theorem frg{W:α->qm->Prop}{x:α}(h:W x L):cz W x L:=⟨L,ED L,h⟩
def ot(c:iD)(tb:wv)(D:vh)(τ:jp)(L:qm):Prop:=∃W:Nat->jp->qm->Prop,(∃m,W m τ L)/\∀m τ L,W m τ L->
 c τ L fun b L1=>kh b (∃N:jp->qm->Prop,(∀τ' L',N τ' L'->∃m',m'<m/\W m' τ' L')/\tb { D with nx:=cz N,ct:=cz N,bk:=D.nx } τ L1) (D.nx τ L1)
@[irreducible] def rS (ys:List Y) (keep:qm->Prop) (g:iC) (tb:wv) (D:vh) (τ:jp) (L1:qm):Prop:=∃W:Nat->jp->qm->Prop,W 0 τ L1/\(∀i τ L,W i τ L->keep L)/\
 (∀i y τ L,ys[i]?=some y->W i τ L->g y τ L fun τ2 L2=>tb { D with nx:=cz (W (i+1)),ct:=cz (W (i+1)),bk:=D.nx } τ2 L2)/\∀τ L,W ys.length τ L->D.nx τ L
theorem wm{keep:qm->Prop}{tb:wv}(h:∃W:Nat->jp->qm->Prop,W 0 τ L1/\(∀i τ L,W i τ L->keep L)/\
 (∀i y τ L,ys[i]?=some y->W i τ L->g y τ L fun τ2 L2=>tb { D with nx:=cz (W (i+1)),ct:=cz (W (i+1)),bk:=D.nx } τ2 L2)/\∀τ L,W ys.length τ L->D.nx τ L):rS ys keep g tb D τ L1:=by unfold rS;exact h
theorem aad{keep:qm->Prop}{tb:wv}(h:rS ys keep g tb D τ L1):∃W:Nat->jp->qm->Prop,W 0 τ L1/\(∀i τ L,W i τ L->keep L)/\
 (∀i y τ L,ys[i]?=some y->W i τ L->g y τ L fun τ2 L2=>tb { D with nx:=cz (W (i+1)),ct:=cz (W (i+1)),bk:=D.nx } τ2 L2)/\∀τ L,W ys.length τ L->D.nx τ L:=by unfold rS at h;exact h
def eO(wi:TI3)(g:iC)(tb:wv)(D:vh)(τ:jp)(L:qm):Prop:=wi τ L fun ys keep L1=>rS ys keep g tb D τ L1
@[irreducible] def qZ (L:qm) (a:Addr) (R:List Y->(qm->Prop)->qm->Prop):Prop:=match L a with
 |some (.lst ys)=>R ys (fun L=>L a=some (.lst ys)) L
 |_=>False
theorem x4{a:Addr}{R:List Y->(qm->Prop)->qm->Prop}(h:L a=some (.lst ys))(q:∀keep:qm->Prop,(∀L',L' a=L a->keep L')->R ys keep L):qZ L a R:=by unfold qZ;rw[h];exact q _ fun L' e'=>e'.trans h
theorem s9{a:Addr}{R:List Y->(qm->Prop)->qm->Prop}(h:qZ L a R):∃ys keep,cA L (.ref a)=some ys/\keep L/\(∀L',keep L'->cA L' (.ref a)=some ys)/\R ys keep L:=by
 unfold qZ at h;split at h
 ·rename_i ys e;exact⟨ys,_,aD e,e,fun L' e'=>aD e',h⟩
 ·exact h.elim
def xt(tl:xp)(τ:jp)(L:qm)(R:List Y->(qm->Prop)->qm->Prop):Prop:=tl τ L fun x L1=>match x with
 |.ref a=>qZ L1 a R
 |.sq ys=>R ys (fun _=>True) L1
 |_=>False
def aha(tl:xp)(τ:jp)(L:qm)(R:List Y->(qm->Prop)->qm->Prop):Prop:=tl τ L fun x L1=>match x with
 |.tup ys=>R ys (fun _=>True) L1
 |_=>False
def ag(lo:Int)(n:Nat):List Y:=(List.range n).map fun k=>.int (lo+(k:Nat))
def fM(ta:eX)(τ:jp)(L:qm)(R:List Y->(qm->Prop)->qm->Prop):Prop:=ta τ L fun vs L1=>match vs with
 |[.int j]=>(-(2 ^ 62)≤j/\j<2 ^ 62)/\R (ag 0 j.toNat) (fun _=>True) L1
 |_=>False
def md(_:jp)(L:qm)(Q:Bool->qm->Prop):Prop:=Q true L
@[irreducible] def wC (ys:List Y) (keep:qm->Prop) (n:Nat) (g:iC) (tc:iD) (te:xp) (τ:jp) (L1:qm) (Q:YK):Prop:=ys.length<sizeLine/\∃W:Nat->List Y->qm->Prop,W 0 [] L1/\(∀i zs L,W i zs L->keep L)/\
 (∀i y zs L,ys[i]?=some y->W i zs L->g y (τ++List.replicate n none) L fun τ2 L2=>tc τ2 L2 fun b L3=>kh b (te τ2 L3 fun z L4=>cz (W (i+1)) (zs++[z]) L4) (cz (W (i+1)) zs L3))/\
 ∀zs L,W ys.length zs L->∀p,L p=none->Q (.ref p) (qg L p (.lst zs))
theorem aah{keep:qm->Prop}{Q:YK}(h:ys.length<sizeLine/\∃W:Nat->List Y->qm->Prop,W 0 [] L1/\(∀i zs L,W i zs L->keep L)/\
 (∀i y zs L,ys[i]?=some y->W i zs L->g y (τ++List.replicate n none) L fun τ2 L2=>tc τ2 L2 fun b L3=>kh b (te τ2 L3 fun z L4=>cz (W (i+1)) (zs++[z]) L4) (cz (W (i+1)) zs L3))/\
 ∀zs L,W ys.length zs L->∀p,L p=none->Q (.ref p) (qg L p (.lst zs))):wC ys keep n g tc te τ L1 Q:=by unfold wC;exact h
theorem aew{keep:qm->Prop}{Q:YK}(h:wC ys keep n g tc te τ L1 Q):ys.length<sizeLine/\∃W:Nat->List Y->qm->Prop,W 0 [] L1/\(∀i zs L,W i zs L->keep L)/\
 (∀i y zs L,ys[i]?=some y->W i zs L->g y (τ++List.replicate n none) L fun τ2 L2=>tc τ2 L2 fun b L3=>kh b (te τ2 L3 fun z L4=>cz (W (i+1)) (zs++[z]) L4) (cz (W (i+1)) zs L3))/\
 ∀zs L,W ys.length zs L->∀p,L p=none->Q (.ref p) (qg L p (.lst zs)):=by unfold wC at h;exact h
def mY(n:Nat)(wi:TI3)(g:iC)(tc:iD)(te:xp)(τ:jp)(L:qm)(Q:YK):Prop:=wi τ L fun ys keep L1=>wC ys keep n g tc te τ L1 Q
abbrev jw:=List Y->qm->YK->Prop
def qt(sp:jw)(t:eX)(τ:jp)(L:qm)(Q:YK):Prop:=t τ L fun ys L1=>sp ys L1 Q
def zu(x:Y)(vs:List Y)(L:qm)(Q:YK):Prop:=match x,vs with
 |.ref a,[v]=>cW L a fun ys=>ys.length<sizeLine/\Q .non (qg L a (.lst (ys++[v])))
 |_,_=>False
def aV(x:Y)(vs:List Y)(L:qm)(Q:YK):Prop:=match x,vs with
 |.ref a,[.ref b]=>cW L a fun ys=>cW L b fun zs=>ys.length+zs.length≤sizeLine/\Q .non (qg L a (.lst (ys++zs)))
 |_,_=>False
def zA(x:Y)(vs:List Y)(L:qm)(Q:YK):Prop:=match x,vs with
 |.ref a,[]=>cW L a fun ys=>wO L (fun v L=>Q v (qg L a (.lst ys.dropLast))) (ys[ys.length - 1]?)
 |_,_=>False
section
theorem wb.imp{f:Value->Value->Sem Value}{r r':R2}(h:wb X f r)(q:∀x y H Q,r' x y H Q->r x y H Q):wb X f r':=fun pins s σ H x y v u Q I rx ry z=>h pins s σ H x y v u Q I rx ry (q x y H Q z)
abbrev ET:=@wb.imp
theorem jq.imp{f:Value}{r r':List V->Hp->VK->Prop}(h:jq X f r)(q:∀x H Q,r' x H Q->r x H Q):jq X f r':=fun pins s σ H x v Q I rx z=>h pins s σ H x v Q I rx (q x H Q z)
abbrev ER:=@jq.imp
theorem IxR.imp{r r':R2}(h:IxR X r)(q:∀x y H Q,r' x y H Q->r x y H Q):IxR X r':=fun value slice pins s σ H x y v u Q I rx ry z=>h value slice pins s σ H x y v u Q I rx ry (q x y H Q z)
theorem lG.imp{id:String}{r r':V->List V->Hp->VK->Prop}(h:lG X id r)(q:∀x xs H Q,r' x xs H Q->r x xs H Q):lG X id r':=fun pins s σ H x xs v us Q I rx ry z=>h pins s σ H x xs v us Q I rx ry (q x xs H Q z)
theorem qO(rl:jo G H L)(r:RV G H y v)(h:cA L y=some ys):∃p xs,v=.ref p/\(aE G.K H p xs\/dF G.K H p xs)/\xo G H ys xs:=by
 cases y with
 |tup zs=>
  obtain⟨a,xs,e,s,q⟩:=r;cases h;exact⟨a,xs,e,.inr s,q⟩
 |sq zs=>
  obtain⟨a,xs,e,s,q⟩:=r;cases h;exact⟨a,xs,e,.inl s.sq,q⟩
 |ref a=>
  cases (show v=.ref a from r);have h':(match L a with | some (.lst ys)=>some ys | _=>none)=some ys:=h;split at h'
  ·rename_i zs e;cases h';obtain⟨xs,e2,q⟩:=rl a _ e;exact⟨a,xs,rfl,.inl (ES e2),q⟩
  ·cases h'
 |_=>cases h
theorem ajg{i:Int}(s:xo G H ys xs)(h:g9 ys i=some y):∃x,g9 xs i=some x/\RV G H y x:=by
 unfold g9 at h ⊢;rw[<-s.length];cases e:ixN ys.length i with
 |none=>rw[e] at h;cases h
 |some j=>
  rw[e] at h;exact s.get (i:=j) h
end
section
variable {a b:Expr}{tc:xp} 
abbrev QE(X:Cx)(e:Expr)(t:xp):Prop:=PE X e (qS X.g3 t)
abbrev QT(X:Cx)(e:Expr)(t:iD):Prop:=PT X e (upT X.g3 t)
abbrev QW(X:Cx)(e:Expr)(t:iD):Prop:=PW X e (upT X.g3 t)
abbrev QA(X:Cx)(es:List Expr)(t:eX):Prop:=PA X es (upA X.g3 t)
abbrev QS(X:Cx)(st:Stmt)(t:wv):Prop:=PS X st (upS X.g3 t)
abbrev tW(X:Cx)(st:List Stmt)(t:wv):Prop:=m5 X st (upS X.g3 t)
abbrev QG(X:Cx)(e:Expr)(g:iC):Prop:=PG X e (upG X.g3 g)
abbrev QGs(X:Cx)(es:List Expr)(g:sM):Prop:=PGs X es (apf X.g3 g)
abbrev QI(X:Cx)(tg it:Expr)(w:TI3):Prop:=PI X tg it (upI X.g3 w)
abbrev QF(X:Cx)(es:List Expr)(t:iD):Prop:=PF X es (upT X.g3 t)
theorem QE.of_var(h:PE X e (aje i)):QE X e (qa i):=EF h fun σ H Q ⟨τ,L,Q3,rs,rl,z,k⟩=>by
 unfold qa at z;split at z
 ·rename_i y ey;obtain⟨v,ev,rv⟩:=rs.get i y (pD _ _ ey);exact⟨v,ev,k v H y L (EC _) rl rv z⟩
 ·exact z.elim
theorem QE.of_c(h:PE X e (tC v))(q:∀H,RV X.g3 H y v):QE X e (yC y):=EF h fun σ H Q ⟨τ,L,Q3,rs,rl,z,k⟩=>k v H y L (EC _) rl (q H) z
theorem qv(i:Nat)(hN:X.N[i]?=some x:=by rfl)(hv:Vis X.env.scope x:=by first | exact Or.inl rfl | exact Or.inr (Or.inl rfl) | exact Or.inr (Or.inr rfl))(hd:Eu x:=by decide)
 (hcd:Ew x:=by decide):QE X (.Name x pos) (qa i):=QE.of_var (pv i hN hv hd hcd)
theorem lv :QE X (.Constant .none j pos) (yC .non):=QE.of_c ai5 fun _=>rfl
theorem eW{b:Bool} :QE X (.Constant (.bool b) j pos) (yC (.bl b)):=QE.of_c alv fun _=>rfl
theorem qi{i:Int} :QE X (.Constant (.int i) j pos) (yC (.int i)):=QE.of_c aja fun _=>rfl
theorem jm :QE X (.Constant (.str x) j pos) (yC (.str x)):=QE.of_c cU fun _=>rfl
theorem amf{c:Addr}(hg:Gl X x)(hm:X.mg x=some (.ref c))(q:∀H,RV X.g3 H y (.ref c))(hd:Eu x:=by decide):QE X (.Name x pos) (yC y):=QE.of_c (ald hg hm hd) q
theorem vX{r:oF}(σ:St)(H:Hp)(Q:VK):qS G (zn r ta tb) σ H Q->tOp (fV G r) (qS G ta) (qS G tb) σ H Q:=fun⟨τ,L,Q3,rs,rl,z,k⟩=>
 ⟨τ,L,_,rs,rl,z,fun v H1 y L1 t1 rl1 rv1 z1=>⟨τ,L1,_,rs.ts t1,rl1,z1,fun v2 H2 y2 L2 t2 rl2 rv2 z2=>⟨y,y2,L2,Q3,rv1.ts t2,rv2,rl2,z2,k.ts (t1.trans t2)⟩⟩⟩
theorem qo{op:Operator}{r:oF}(h:wb X (binaryOp op) (fV X.g3 r))(ha:QE X a ta)(hb:QE X b tb):QE X (.BinOp a op b pos) (zn r ta tb):=EF (am0 h ha hb) vX
theorem ana{r:oF}(h:IxR X (fV X.g3 r))(ha:QE X a ta)(hb:QE X b tb)(hp:qK b):QE X (.Subscript a b pos) (zn r ta tb):=EF (amh h ha hb hp) vX
theorem w6{op:CmpOp}{r:oF}(h:wb X (compareOp op) (fV X.g3 r))(ha:QE X a ta)(hb:QE X b tb)(hm:behindInMarks op b=false):QE X (.Compare a [op] [b] pos) (zn r ta tb):=EF (aej h ha hb hm) vX
theorem akg{t:xp}(σ:St)(H:Hp)(Q:Bool->Hp->Prop):upT G (yB t) σ H Q->aa3 (qS G t) σ H Q:=fun⟨τ,L,Q3,rs,rl,z,k⟩=>
 ⟨τ,L,_,rs,rl,z,fun v H1 y L1 t1 rl1 rv1 z1=>by cases y with|bl b=>exact⟨b,rv1,k b H1 L1 t1 rl1 z1⟩|_=>exact z1.elim⟩
theorem ah5{t:xp}(σ:St)(H:Hp)(Q:Bool->Hp->Prop):upT G (yB t) σ H Q->L2.tB (qS G t) σ H Q:=akg σ H Q
theorem x8{op:CmpOp}{r:oF}(h:wb X (compareOp op) (fV X.g3 r))(ha:QE X a ta)(hb:QE X b tb)(hm:behindInMarks op b=false):QT X (.Compare a [op] [b] pos) (yB (zn r ta tb)):=
 PT.imp (afg h ha hb hm) fun σ H Q q=>by have q':=akg σ H Q q;obtain⟨τ,L,Q3,rs,rl,z,k⟩:=q';exact vX σ H _ ⟨τ,L,Q3,rs,rl,z,k⟩
theorem w4(h:QE X e te)(he:∀whole,isTrue e X.env whole=(do let v <-whole;standAt e.pos;holding [v] (truthy v)):=by intro _;rfl):QT X e (yB te):=PT.imp (ajt h he) ah5
theorem OpI{f:Value->Value->Sem Value}{C:Int->Int->Prop}{g:Int->Int->V}{g3:Int->Int->Y}(h:wb X f (rI C g))(e:∀i j H,RV X.g3 H (g3 i j) (g i j)):wb X f (fV X.g3 (yI C g3)):=ET h fun x y H Q ⟨x3,y3,L,Q3,rx,ry,rl,z,k⟩=>by
 cases x3 with
 |int i=>
  cases y3 with|int j=>exact⟨i,j,rx,ry,z.1,k _ H _ L (EC _) rl (e i j H) z.2⟩|_=>exact z.elim
 |_=>cases y3<;>exact z.elim
theorem af7{f:Value->Value->Sem Value}{g:Int->Int->V}{g3:Int->Int->Y}(h:wb X f (rI0 g))(e:∀i j H,RV X.g3 H (g3 i j) (g i j)):wb X f (fV X.g3 (yI0 g3)):=ET h fun x y H Q ⟨x3,y3,L,Q3,rx,ry,rl,z,k⟩=>by
 cases x3 with
 |int i=>
  cases y3 with|int j=>exact⟨i,j,rx,ry,k _ H _ L (EC _) rl (e i j H) z⟩|_=>exact z.elim
 |_=>cases y3<;>exact z.elim
theorem cJ:wb X (binaryOp .Sub) (fV X.g3 (yI0 fun i j=>.int (i - j))):=af7 ajk fun _ _ _=>rfl
theorem tH:wb X (binaryOp .Mult) (fV X.g3 (yI acm fun i j=>.int (i*j))):=OpI ak0 fun _ _ _=>rfl
theorem aB:wb X (binaryOp .FloorDiv) (fV X.g3 (yI aji fun i j=>.int (i / j))):=OpI ael fun _ _ _=>rfl
theorem x9:wb X (binaryOp .Mod) (fV X.g3 (yI (fun _ j=>0<j) fun i j=>.int (i % j))):=OpI akd fun _ _ _=>rfl
theorem alh:wb X (binaryOp .Pow) (fV X.g3 (yI ahd fun i j=>.int (i ^ j.toNat))):=OpI aj3 fun _ _ _=>rfl
theorem jB:wb X (compareOp .Lt) (fV X.g3 (yI0 fun i j=>.bl (decide (i<j)))):=af7 aly fun _ _ _=>rfl
theorem ahy:wb X (compareOp .LtE) (fV X.g3 (yI0 fun i j=>.bl (decide (i≤j)))):=af7 al0 fun _ _ _=>rfl
theorem aeq:wb X (compareOp .Gt) (fV X.g3 (yI0 fun i j=>.bl (decide (j<i)))):=af7 ami fun _ _ _=>rfl
theorem v5:wb X (binaryOp .Add) (fV X.g3 wz):=ET adg fun x y H Q ⟨x3,y3,L,Q3,rx,ry,rl,z,k⟩=>by
 cases x3 with
 |int i=>
  cases y3 with|int j=>cases rx;cases ry;exact k _ H _ L (EC _) rl (by rfl) z|_=>exact z.elim
 |str i=>
  cases y3 with|str j=>cases rx;cases ry;exact⟨z.1,k _ H _ L (EC _) rl (by rfl) z.2⟩|_=>exact z.elim
 |ref a=>
  cases y3 with
  |ref b=>
   cases rx;cases ry;obtain⟨ys,zs,e1,e2,hz,q⟩:=z;obtain⟨xs,h1,r1⟩:=rl a _ e1;obtain⟨us,h2,r2⟩:=rl b _ e2;refine⟨xs,us,h1,h2,by rw[<-r1.length,<-r2.length];exact hz,fun p hp=>?_⟩;exact k _ _ _ _ (EE hp) (rl.newL hp (r1.app r2)) (by rfl) (q p (rl.none hp))
  |_=>exact z.elim
 |_=>cases y3<;>exact z.elim
theorem rH{kvs:List (Str×Str)}{k:Str}(h:kvs.lookup k=some x):fS (kvs.map fun p=>((Sum.inr p.1:jl),V.str p.2)) (Sum.inr k)=some (V.str x):=by
 induction kvs with
 |nil=>simp at h
 |cons p r ih=>
  obtain⟨a,b⟩:=p;unfold fS;rw[Az,BK];rw[Bx] at h;by_cases c:k=a
  ·subst c;simp at h;simp[h]
  ·have c1:(k==a)=false:=by simpa using c
   rw[c1] at h;have c2:decide ((Sum.inr a:jl)=Sum.inr k)=false:=Ax fun z=>c (Sum.inr.inj z).symm;simp only[c2];exact ih h
theorem oK{kvs:List (jl×Y)}{xs:List (jl×V)}{k:jl}(p:Paired (fun(p:jl×Y) (q:jl×V)=>p.1=q.1/\RV G H p.2 q.2) kvs xs)(h:aX kvs k=some y):∃x,fS xs k=some x/\RV G H y x:=by
 induction p with
 |nil=>cases h
 |@cons a b _ _ r t ih=>
  obtain⟨ka,ya⟩:=a;obtain⟨kb,vb⟩:=b;obtain⟨e,r⟩:=r;cases (show ka=kb from e);unfold aX at h;unfold fS;rw[BK] at h ⊢;by_cases c:ka=k
  ·have c':decide (ka=k)=true:=AC c;simp only[c'] at h ⊢;cases h;exact⟨vb,rfl,r⟩
  ·have c':decide (ka=k)=false:=Ax c;simp only[c'] at h ⊢;exact ih h
theorem an7(K:Ai)(P:Program)(w:World)(hK:X.K=K:=by rfl)(hP:X.prog=P:=by rfl)(hw:X.w=w:=by rfl):IxR X (fV ⟨K,P,w⟩ ax):=by
 subst hK hP hw;refine IxR.imp asi fun x y H Q ⟨x3,y3,L,Q3,rx,ry,rl,z,k⟩=>?_;have seq:∀{i:Int} {x3:Y},RV X.g3 H x3 x->y=.int i->(fO L x3 fun ys=>wO L Q3 (g9 ys i))->uIx X.K X.prog X.w x y H Q:=by
  intro i x3 rx ey z;subst ey;obtain⟨ys,es,z⟩:=wr z;obtain⟨p,xs,e,sq,rv⟩:=qO rl rx es;subst e;cases ea:g9 ys i with
  |none=>rw[ea] at z;exact z.elim
  |some y=>
   rw[ea] at z;obtain⟨x,ex,rvx⟩:=ajg rv ea;exact⟨xs,x,sq,ex,k _ H _ L (EC _) rl rvx z⟩
 cases x3 with
 |str s=>
  cases y3 with
  |int i=>
   cases rx;cases ry;obtain⟨z1,z2⟩:=z;cases ea:g9 s.cps.toList i with
   |none=>rw[ea] at z2;exact z2.elim
   |some c=>rw[ea] at z2;exact⟨z1,c,ea,k _ H _ L (EC _) rl (by rfl) z2⟩
  |_=>exact z.elim
 |cd kvs=>
  cases y3 with
  |str s=>
   obtain⟨a,ea,kd⟩:=rx;cases ea;cases ry;have z':wO L (fun s L=>Q3 (.str s) L) (kvs.lookup s):=z;cases el:kvs.lookup s with
   |none=>rw[el] at z';exact z'.elim
   |some t=>rw[el] at z';exact⟨_,_,.inr kd,rH el,k _ H _ L (EC _) rl (by rfl) z'⟩
  |int i=>exact z.elim
  |_=>exact z.elim
 |ref a=>
  cases y3 with
  |int i=>exact seq (x3:=.ref a) rx ry z
  |str s=>
   cases rx;cases ry;obtain⟨kvs,e,z'⟩:=kA z;obtain⟨xs,e2,pr⟩:=rl a _ e;cases ev:aX kvs (Sum.inr s) with
   |none=>rw[ev] at z';exact z'.elim
   |some y=>
    rw[ev] at z';obtain⟨x,ex,rx⟩:=oK pr ev;exact⟨xs,x,.inl (.inl e2),ex,k _ H _ L (EC _) rl rx z'⟩
  |_=>exact z.elim
 |tup ys=>
  cases y3 with|int i=>exact seq (x3:=.tup ys) rx ry z|_=>exact z.elim
 |sq ys=>
  cases y3 with|int i=>exact seq (x3:=.sq ys) rx ry z|_=>exact z.elim
 |_=>cases y3<;>exact z.elim
theorem xo.inv1(h:xo G H [y] xs):∃x,xs=[x]/\RV G H y x:=by obtain⟨x,xs',e,r,s⟩:=h;cases (show xs'=[] from s);exact⟨x,e,r⟩
theorem xo.inv2{y':Y}(h:xo G H [y,y'] xs):∃x x',xs=[x,x']/\RV G H y x/\RV G H y' x':=by obtain⟨x,xs',e,r,s⟩:=h;obtain⟨x',e',r'⟩:=s.inv1;exact⟨x,x',by rw[e,e'],r,r'⟩
theorem ajm(K:Ai)(P:Program)(w:World)(hK:X.K=K:=by rfl)(hP:X.prog=P:=by rfl)(hw:X.w=w:=by rfl):jq X (.builtin "len") (upL ⟨K,P,w⟩ jC):=by
 subst hK hP hw;refine ER y8 fun xs H Q ⟨ys,L,Q3,rv,rl,z,k⟩=>?_;unfold jC at z;split at z
 ·obtain⟨x,rfl,r⟩:=rv.inv1;cases r;exact⟨z.1,k _ H _ L (EC _) rl (by rfl) z.2⟩
 ·rename_i y _;obtain⟨x,rfl,r⟩:=rv.inv1;obtain⟨ys,es,z⟩:=wr z;obtain⟨p,us,e,sq,rw'⟩:=qO rl r es;subst e;refine⟨us,sq,?_⟩;rw[<-rw'.length];exact k _ H _ L (EC _) rl (by rfl) z
 ·exact z.elim
theorem aib(i j:Int):(if j > i then j else i)=max i j:=by split<;>lia
theorem ajh(i j:Int):(if j<i then j else i)=min i j:=by split<;>lia
theorem wF(hc:X.calm=true:=by rfl):jq X (.builtin "max") (upL X.g3 sv):=ER (yM hc) fun xs H Q ⟨ys,L,Q3,rv,rl,z,k⟩=>by
 unfold sv at z;split at z
 ·rename_i i j;obtain⟨x,x',rfl,r1,r2⟩:=rv.inv2;cases r1;cases r2;refine⟨i,j,rfl,?_⟩;rw[aib];exact k _ H _ L (EC _) rl (by rfl) z
 ·exact z.elim
theorem vF(hc:X.calm=true:=by rfl):jq X (.builtin "min") (upL X.g3 rY):=ER (yg hc) fun xs H Q ⟨ys,L,Q3,rv,rl,z,k⟩=>by
 unfold rY at z;split at z
 ·rename_i i j;obtain⟨x,x',rfl,r1,r2⟩:=rv.inv2;cases r1;cases r2;refine⟨i,j,rfl,?_⟩;rw[ajh];exact k _ H _ L (EC _) rl (by rfl) z
 ·exact z.elim
end
section
variable {a b:Expr}{tc:xp} 
theorem dP{a:Addr}(rl:jo G H L)(h:cA L (.ref a)=some ys):∃xs,aE G.K H a xs/\xo G H ys xs:=by
 have h':(match L a with | some (.lst ys)=>some ys | _=>none)=some ys:=h;split at h'
 ·rename_i e;cases h';obtain⟨xs,e2,q⟩:=rl a _ e;exact⟨xs,ES e2,q⟩
 ·cases h'
theorem gt(rl:jo G H L)(r:RV G H y v)(hy:wS y=true)(h:cA L y=some ys):∃a xs,v=.ref a/\aE G.K H a xs/\xo G H ys xs:=by
 cases y with
 |ref a=>obtain⟨xs,s,q⟩:=dP rl h;exact⟨a,xs,r,s,q⟩
 |sq zs=>obtain⟨a,xs,e,s,q⟩:=r;cases h;exact⟨a,xs,e,s.sq,q⟩
 |_=>cases hy
theorem yW{G:G3}{T:i7}{σ:L2.St}(I:z9 X pins σ H s)(rl:jo X.g3 H L)(r:RV X.g3 H y v)(ru:zw v u)(h:tyY L y=some T)
 {c:Value} {b:Bool} (e:PySem.W.kitOne X.K (.type T.nm) c=some b) (hq:∀tk,Q (.bool b) { s with toks:=tk }):
 wpAny (model X.prog X.w) A (call (.builtin "isinstance") [u,c]) Q E s:=by
 cases y with
 |non=>cases h;cases r;exact ao I ru .non e hq
 |bl b=>cases h;cases r;exact ao I ru (.bl _) e hq
 |int i=>cases h;cases r;exact ao I ru (.int _) e hq
 |str x=>cases h;cases r;exact ao I ru (.str _) e hq
 |tup ys=>
  cases h;obtain⟨a,xs,rfl,sq,_⟩:=r;cases (show u=Value.ref a from ru);obtain⟨its,_,⟨o,h1,h2,_⟩,_⟩:=I.tuple sq;exact Bs Dz I.kIn ⟨o,h1,h2⟩ e (fun z=>nomatch z) hq
 |sq ys=>
  cases h;obtain⟨a,xs,rfl,sq,_⟩:=r;cases (show u=Value.ref a from ru);obtain⟨its,_,⟨o,n,h1,h2,_⟩,_⟩:=I.list sq.sq;exact Bs CA I.kIn ⟨o,h1,h2⟩ e (fun z=>nomatch z) hq
 |ref a=>
  cases (show v=.ref a from r);have h':(match L a with | some (.lst _)=>some i7.list | some (.dct _)=>some .dict | _=>none)=some T:=h;split at h'
  ·rename_i ys el;cases h';obtain⟨xs,e2,_⟩:=rl a _ el;exact ao I ru (.lst e2) e hq
  ·rename_i kvs el;cases h';obtain⟨xs,e2,_⟩:=rl a _ el;exact ao I ru (.dK e2) e hq
  ·cases h'
 |_=>cases h
theorem pG(K:Ai):∀T S:i7,PySem.W.kitOne K (.type T.nm) (.type S.nm)=some (bV T S):=by intro T S;cases T<;>cases S<;>rfl
def aiz(G:G3)(S:i7):List V->Hp->VK->Prop:=fun xs H Q=>∃y v L Q3 T,xs=[v,.ty S.nm]/\RV G H y v/\jo G H L/\tyY L y=some T/\Q3 (.bl (bV T S)) L/\xB G H Q3 Q
theorem aim(S:i7):jq X (.builtin "isinstance") (aiz X.g3 S):=by intro pins s σ H xs us Q I r h;obtain⟨y,v,L,Q3,T,rfl,rv,rl,ty,q,k⟩:=h;obtain⟨u,c,rfl,r1,r2⟩:=zp.two r;cases (show c=Value.type S.nm from r2);exact ji I.tk (yW (G:=X.g3) I rl rv r1 ty (pG _ T S) fun tk ht=>⟨.bl _,H,I.tok _,rfl,k _ H _ L (EC _) rl (by rfl) q⟩)
theorem we{xT:Str}(S:i7)(hg:Gl X "isinstance")(hm:X.mg "isinstance" = none)(hgT:Gl X xT)(hmT:X.mg xT=none)(hvT:bootBuiltins xT=some (.type S.nm))(ha:QE X a ta)
 (hn:xT ≠ "__name__" := by decide) (hd:(xT==("__debug__" : Str))=false:=by decide)
 (hs:starEach [a,.Name xT p1] X.env=(false,eval a X.env)::starEach [.Name xT p1] X.env:=by rfl) (hs2:starEach [.Name xT p1] X.env=(false,eval (.Name xT p1) X.env)::starEach [] X.env:=by rfl)
 (hp:(backTo pos (starEach [.Name xT p1] X.env)).any (·.1)=false:=by rfl):
 QE X (.Call (.Name "isinstance" p) [a,.Name xT p1] [] pos) (bB S ta):=by
 refine EF (lF (aim S) hg hm e9 (aU ha (aU (aao hgT hmT hvT hn hd) fG hs2) hs) (by decide) (by decide) hs hp) ?_;rintro σ H Q ⟨τ,L,Q3,rs,rl,z,k⟩;refine⟨τ,L,_,rs,rl,z,fun v H1 y L1 t1 rl1 rv1 z1=>?_⟩;obtain⟨T,et,z1⟩:=sK z1;exact⟨y,v,L1,Q3,T,rfl,rv1,rl1,et,z1,k.ts t1⟩
def lh(neg:Bool)(x y:Y)(L:qm)(Q:YK):Prop:=fO L y fun ys=>dG x=true/\ys.all dG=true/\Q (.bl (nb neg (tV (dm x) (ys.map dm)))) L
theorem alj(neg:Bool){op:CmpOp}(h:wb X (compareOp op) (rIn X.K neg)):wb X (compareOp op) (fV X.g3 (lh neg)):=ET h fun x y H Q ⟨x3,y3,L,Q3,rx,ry,rl,z,k⟩=>by
 obtain⟨ys,es,f1,f2,q⟩:=wr z;obtain⟨p,xs,e,sq,rv⟩:=qO rl ry es;rw[rx.flat f1];rw[rv.flat f2] at sq;refine⟨p,_,e,sq,f6 f1,?_,?_⟩
 ·rw[List.all_map,CI];intro y hy;exact f6 (CI.mp f2 y hy)
 ·have:(if neg=true then !tV (dm x3) (ys.map dm) else tV (dm x3) (ys.map dm))=(nb neg (tV (dm x3) (ys.map dm))):=by cases neg<;>simp[nb]
  rw[this];exact k _ H _ L (EC _) rl (by rfl) q
theorem ahb(K:Ai)(P:Program)(w:World)(hK:X.K=K:=by rfl)(hP:X.prog=P:=by rfl)(hw:X.w=w:=by rfl):wb X (compareOp .In) (fV ⟨K,P,w⟩ (lh false)):=by subst hK hP hw;exact alj false zF
theorem lO(K:Ai)(P:Program)(w:World)(hK:X.K=K:=by rfl)(hP:X.prog=P:=by rfl)(hw:X.w=w:=by rfl):wb X (compareOp .NotIn) (fV ⟨K,P,w⟩ (lh true)):=by subst hK hP hw;exact alj true o6
theorem ju.rep{G:G3}{H:Hp}{L:qm}(rl:jo G H L):∀{n:Nat} {y:Y} {d:Da} {v:V},ju L n y d->RV G H y v->vv G.K H n v d
 |0,y,d,v,⟨f,e⟩,r=>by rw[r.flat f];exact⟨e,f6 f⟩
 |n+1,y,d,v,h,r=>by
  have both:∀{ys:List Y} {ds:List Da} {xs:List V},Paired (ju L n) ys ds->xo G H ys xs->Paired (vv G.K H n) xs ds:=by
   intro ys ds xs p
   induction p generalizing xs with
   |nil=>intro r;cases (show xs=[] from r);exact .nil
   |cons q t ih=>
    rintro⟨x,xs',rfl,r1,r2⟩;exact .cons (ju.rep rl q r1) (ih r2)
  rcases h with⟨f,e⟩ | ⟨ys,ds,rfl,rfl,p⟩ | ⟨ys,ds,hy,rfl,es,p⟩
  ·rw[r.flat f];exact .inl ⟨e,f6 f⟩
  ·obtain⟨a,xs,rfl,sq,rv⟩:=r;exact .inr (.inl ⟨a,xs,ds,rfl,rfl,sq,both p rv⟩)
  ·obtain⟨a,xs,rfl,sq,rv⟩:=gt rl r hy es;exact .inr (.inr ⟨a,xs,ds,rfl,rfl,sq,both p rv⟩)
theorem jI(h:xN y=true)(r:RV G H y v):∃a,v=.ref a:=by
 cases y with
 |ref a=>exact⟨a,r⟩
 |tup ys=>obtain⟨a,xs,e,_⟩:=r;exact⟨a,e⟩
 |sq ys=>obtain⟨a,xs,e,_⟩:=r;exact⟨a,e⟩
 |_=>cases h
theorem dX(K:Ai)(P:Program)(w:World)(hu:X.A.units+128<cLine)(hK:X.K=K:=by rfl)(hP:X.prog=P:=by rfl)(hw:X.w=w:=by rfl):wb X (compareOp .Eq) (fV ⟨K,P,w⟩ (mQ false)):=by
 subst hK hP hw;refine ET (ajp hu) fun x y H Q ⟨x3,y3,L,Q3,rx,ry,rl,z,k⟩=>?_;unfold mQ at z;split at z
 ·rename_i i j;cases rx;cases ry;refine⟨rfl,?_⟩;have:decide (V.int i=V.int j)=nb false (decide (i=j)):=by rw[BJ];simp[nb]
  rw[this];exact k _ H _ L (EC _) rl (by rfl) z
 ·rename_i i j;cases rx;cases ry;refine⟨rfl,?_⟩;have:decide (V.str i=V.str j)=nb false (decide (i=j)):=by rw[BJ];simp[nb]
  rw[this];exact k _ H _ L (EC _) rl (by rfl) z
 ·rename_i i j;cases rx;cases ry;refine⟨rfl,?_⟩;have:decide (V.bl i=V.bl j)=nb false (decide (i=j)):=by rw[BJ];simp[nb]
  rw[this];exact k _ H _ L (EC _) rl (by rfl) z
 ·obtain⟨f1,f2,n,m,d,e,hn,h1,h2,q⟩:=z;obtain⟨a,rfl⟩:=jI f1 rx;obtain⟨b,rfl⟩:=jI f2 ry;have q:Q3 (.bl (Da.eq d e)) L:=q;exact⟨n,m,d,e,hn,h1.rep rl rx,h2.rep rl ry,k _ H _ L (EC _) rl (by rfl) q⟩
theorem amx(K:Ai)(P:Program)(w:World)(hu:X.A.units+128<cLine)(hK:X.K=K:=by rfl)(hP:X.prog=P:=by rfl)(hw:X.w=w:=by rfl):wb X (compareOp .NotEq) (fV ⟨K,P,w⟩ (mQ true)):=by
 subst hK hP hw;refine ET (aiq hu) fun x y H Q ⟨x3,y3,L,Q3,rx,ry,rl,z,k⟩=>?_;unfold mQ at z;split at z
 ·rename_i i j;cases rx;cases ry;refine⟨rfl,?_⟩;have:(!decide (V.int i=V.int j))=nb true (decide (i=j)):=by show _=!_;congr 1;rw[BJ];simp
  rw[this];exact k _ H _ L (EC _) rl (by rfl) z
 ·rename_i i j;cases rx;cases ry;refine⟨rfl,?_⟩;have:(!decide (V.str i=V.str j))=nb true (decide (i=j)):=by show _=!_;congr 1;rw[BJ];simp
  rw[this];exact k _ H _ L (EC _) rl (by rfl) z
 ·rename_i i j;cases rx;cases ry;refine⟨rfl,?_⟩;have:(!decide (V.bl i=V.bl j))=nb true (decide (i=j)):=by show _=!_;congr 1;rw[BJ];simp
  rw[this];exact k _ H _ L (EC _) rl (by rfl) z
 ·obtain⟨f1,f2,n,m,d,e,hn,h1,h2,q⟩:=z;obtain⟨a,rfl⟩:=jI f1 rx;obtain⟨b,rfl⟩:=jI f2 ry;have q:Q3 (.bl (!Da.eq d e)) L:=q;exact⟨n,m,d,e,hn,h1.rep rl rx,h2.rep rl ry,k _ H _ L (EC _) rl (by rfl) q⟩
theorem RV.non_iff(r:RV G H y v):decide (v=.non)=(match y with | .non=>true | _=>false):=by
 cases y with
 |non=>cases r;rfl
 |cd kvs=>obtain⟨a,rfl,_⟩:=r;rfl
 |tup ys=>obtain⟨a,xs,rfl,_⟩:=r;rfl
 |sq ys=>obtain⟨a,xs,rfl,_⟩:=r;rfl
 |_=>cases r;rfl
theorem ad3(σ:L2.St)(H:Hp)(Q:VK):qS G (cX false ta) σ H Q->amy (qS G ta) σ H Q:=fun⟨τ,L,Q3,rs,rl,z,k⟩=>
 ⟨τ,L,_,rs,rl,z,fun v H1 y L1 t1 rl1 rv1 z1=>by dsimp only;rw[rv1.non_iff];cases y<;>exact k _ H1 _ L1 t1 rl1 (by rfl) z1⟩
theorem wN(σ:L2.St)(H:Hp)(Q:VK):qS G (cX true ta) σ H Q->agu (qS G ta) σ H Q:=fun⟨τ,L,Q3,rs,rl,z,k⟩=>
 ⟨τ,L,_,rs,rl,z,fun v H1 y L1 t1 rl1 rv1 z1=>by dsimp only;rw[rv1.non_iff];cases y<;>exact k _ H1 _ L1 t1 rl1 (by rfl) z1⟩
theorem ajv(h:QE X a ta):QE X (.Compare a [.Is] [.Constant .none j pos'] pos) (cX false ta):=EF (ac6 (zX h)) ad3
theorem jF(h:QE X a ta):QE X (.Compare a [.IsNot] [.Constant .none j pos'] pos) (cX true ta):=EF (ac6 (wK h)) wN
theorem ah3{t:TE}(h:∀σ H Q,qS G te σ H Q->t σ H Q)(σ:L2.St)(H:Hp)(Q:Bool->Hp->Prop):upT G (yB te) σ H Q->L2.tB t σ H Q:=fun q=>h σ H _ (ah5 σ H Q q)
theorem pX(h:QE X a ta):QT X (.Compare a [.Is] [.Constant .none j pos'] pos) (yB (cX false ta)):=PT.imp (ad1 (zX h)) (ah3 ad3)
theorem jD(h:QE X a ta):QT X (.Compare a [.IsNot] [.Constant .none j pos'] pos) (yB (cX true ta)):=PT.imp (ad1 (wK h)) (ah3 wN)
end
section
variable {a b:Expr}{rest:List Expr}{tc:xp}{tB:iD} 
theorem k6(h:QT X a tA):QW X (.BoolOp .And [a] pos) tA:=ae3 h
theorem iI(h:QT X a tA):QW X (.BoolOp .Or [a] pos) tA:=aki h
theorem aH(h:QT X a tA)(k:QW X (.BoolOp .And (b::rest) pos) tB):QW X (.BoolOp .And (a::b::rest) pos) (eL tA tB):=PW.imp (akj h k) fun σ H Q ⟨τ,L,Q3,rs,rl,z,k⟩=>
 ⟨τ,L,_,rs,rl,z,fun c H1 L1 t1 rl1 z1=>by cases c with|true=>rw[AD rfl];exact⟨τ,L1,Q3,rs.ts t1,rl1,z1,k.ts t1⟩|false=>rw[Ay AE];exact k _ H1 L1 t1 rl1 z1⟩
theorem oN(h:QT X a tA)(k:QW X (.BoolOp .Or (b::rest) pos) tB):QW X (.BoolOp .Or (a::b::rest) pos) (yOr tA tB):=PW.imp (am6 h k) fun σ H Q ⟨τ,L,Q3,rs,rl,z,k⟩=>
 ⟨τ,L,_,rs,rl,z,fun c H1 L1 t1 rl1 z1=>by cases c with|true=>rw[AD rfl];exact k _ H1 L1 t1 rl1 z1|false=>rw[Ay AE];exact⟨τ,L1,Q3,rs.ts t1,rl1,z1,k.ts t1⟩⟩
theorem aC(h:QW X a tA):QT X a tA:=PW.pt h
theorem kW(h:QT X a tA):QT X (.UnaryOp .Not a pos) (y7 tA):=PT.imp (ak8 h) fun σ H Q ⟨τ,L,Q3,rs,rl,z,k⟩=>
 ⟨τ,L,_,rs,rl,z,fun c H1 L1 t1 rl1 z1=>k _ H1 L1 t1 rl1 z1⟩
theorem aa{op:BoolOp}(h:QE X a ta):QE X (.BoolOp op [a] pos) ta:=aj2 h
theorem wq(h:QE X a ta)(k:QE X (.BoolOp .And (b::rest) pos) tb):QE X (.BoolOp .And (a::b::rest) pos) (a8 ta tb):=EF (aka h k) fun σ H Q ⟨τ,L,Q3,rs,rl,z,k⟩=>
 ⟨τ,L,_,rs,rl,z,fun v H1 y L1 t1 rl1 rv1 z1=>by
  cases y with
  |bl c=>
   refine⟨c,rv1,?_⟩;have z2:kh c (tb τ L1 Q3) (Q3 (.bl false) L1):=z1;cases c with|true=>rw[AD rfl];exact⟨τ,L1,Q3,rs.ts t1,rl1,z2,k.ts t1⟩|false=>rw[Ay AE];exact k _ H1 _ L1 t1 rl1 (by rfl) z2
  |_=>exact z1.elim⟩
theorem dc(h:QT X c tA)(ha:QE X a ta)(hb:QE X b tb):QE X (.IfExp c a b pos) (yIf tA ta tb):=EF (aci h ha hb) fun σ H Q ⟨τ,L,Q3,rs,rl,z,k⟩=>
 ⟨τ,L,_,rs,rl,z,fun c H1 L1 t1 rl1 z1=>by cases c with|true=>rw[AD rfl];exact⟨τ,L1,Q3,rs.ts t1,rl1,z1,k.ts t1⟩|false=>rw[Ay AE];exact⟨τ,L1,Q3,rs.ts t1,rl1,z1,k.ts t1⟩⟩
theorem vj:QA X [] qr:=PA.imp fG fun σ H Q ⟨τ,L,Q3,rs,rl,z,k⟩=>k _ H _ L (EC _) rl (by rfl) z
theorem xn(h:QE X e te)(ht:QA X es tr)(hs:Es e es X:=by rfl):QA X (e::es) (qe te tr):=PA.imp (aU h ht hs) fun σ H Q ⟨τ,L,Q3,rs,rl,z,k⟩=>
 ⟨τ,L,_,rs,rl,z,fun v H1 y L1 t1 rl1 rv1 z1=>⟨τ,L1,_,rs.ts t1,rl1,z1,fun vs H2 ys L2 t2 rl2 rv2 z2=>k (v::vs) H2 (y::ys) L2 (t1.trans t2) rl2 ⟨v,vs,rfl,rv1.ts t2,rv2⟩ z2⟩⟩
theorem zq(h:QA X es tr):QE X (.Tuple es x1 pos) (vk tr):=EF (aai h) fun σ H Q ⟨τ,L,Q3,rs,rl,z,k⟩=>
 ⟨τ,L,_,rs,rl,z,fun vs H1 ys L1 t1 rl1 rv1 z1=>by
  cases e:Nat.ble ys.length 1000 with
  |false=>rw[e] at z1;exact z1.elim
  |true=>
   rw[e] at z1;have:=Di e;refine⟨dS (by rw[<-rv1.length];exact this),fun p hp=>?_⟩;exact k _ _ (.tup ys) L1 (t1.trans (EE hp)) (rl1.skip hp) ⟨p,vs,rfl,dF.of jd,rv1.ts (EE hp)⟩ z1⟩
theorem j4(h:QA X es tr):QE X (.List es pos) (ve tr):=EF (aij h) fun σ H Q ⟨τ,L,Q3,rs,rl,z,k⟩=>
 ⟨τ,L,_,rs,rl,z,fun vs H1 ys L1 t1 rl1 rv1 z1=>by
  cases e:Nat.ble ys.length 1000 with
  |false=>rw[e] at z1;exact z1.elim
  |true=>
   rw[e] at z1;have:=Di e;refine⟨dS (by rw[<-rv1.length];exact this),fun p hp=>?_⟩;exact k _ _ _ _ (t1.trans (EE hp)) (rl1.newL hp rv1) (by rfl) (z1 p (rl1.none hp))⟩
theorem jb{id:String}{r:List Y->qm->YK->Prop}(hc:jq X (.builtin id) (upL X.g3 r))(hg:Gl X x)(hm:X.mg x=none)(hv:bootBuiltins x=some (.builtin id))(h:QA X (e::es) tr)
 (hn:x ≠ "__name__" := by decide) (hd:Eu x:=by decide) (hs:Es e es X:=by rfl) (hp:Et pos es X:=by rfl):
 QE X (.Call (.Name x p) (e::es) [] pos) (bJ r tr):=EF (lF hc hg hm hv h hn hd hs hp) fun σ H Q ⟨τ,L,Q3,rs,rl,z,k⟩=>
 ⟨τ,L,_,rs,rl,z,fun vs H1 ys L1 t1 rl1 rv1 z1=>⟨ys,L1,Q3,rv1,rl1,z1,k.ts t1⟩⟩
def upO(G:G3)(t:TO3):TO:=fun σ H Q=>∃τ L Q3,ke G H σ τ/\jo G H L/\t τ L Q3/\∀(o:Option Int) H' L',jf H H'->jo G H' L'->Q3 o L'->Q o H'
abbrev QO(X:Cx)(e:Option Expr)(t:TO3):Prop:=PO X e (upO X.g3 t)
theorem PO.imp{e:Option Expr}{t u:TO}(h:PO X e t)(q:∀σ H Q,u σ H Q->t σ H Q):PO X e u:=fun pins s σ H Q I z=>h pins s σ H Q I (q σ H Q z)
theorem qT.imp{r':V->Option Int->Option Int->Hp->VK->Prop}(h:qT X r)(q:∀x lo hi H Q,r' x lo hi H Q->r x lo hi H Q):qT X r':=by intro pins s σ H x v vl vu lo hi sl Q I rx hs pl pu z;exact h pins s σ H x v vl vu lo hi sl Q I rx hs pl pu (q _ _ _ _ _ z)
theorem oo:QO X none jJ:=PO.imp ae2 fun σ H Q ⟨τ,L,Q3,rs,rl,z,k⟩=>k _ H L (EC _) rl z
theorem gN(h:QE X e te):QO X (some e) (oA te):=PO.imp (af1 h) fun σ H Q ⟨τ,L,Q3,rs,rl,z,k⟩=>
 ⟨τ,L,_,rs,rl,z,fun v H1 y L1 t1 rl1 rv1 z1=>by cases y with|int i=>exact⟨i,rv1,k _ H1 L1 t1 rl1 z1⟩|_=>exact z1.elim⟩
def adr(G:G3)(r:Y->Option Int->Option Int->qm->YK->Prop):V->Option Int->Option Int->Hp->VK->Prop:=fun x lo hi H Q=>∃y L Q3,RV G H y x/\jo G H L/\r y lo hi L Q3/\xB G H Q3 Q
theorem f9{lo hi:Option Expr}{tl th:TO3}{r:Y->Option Int->Option Int->qm->YK->Prop}(h:qT X (adr X.g3 r))(ha:QE X a ta)(hl:QO X lo tl)(hh:QO X hi th):QE X (.Subscript a (.Slice lo hi none p2) pos) (ySl r ta tl th):=
 EF (aar h ha hl hh) fun σ H Q ⟨τ,L,Q3,rs,rl,z,k⟩=>
 ⟨τ,L,_,rs,rl,z,fun v H1 y L1 t1 rl1 rv1 z1=>⟨τ,L1,_,rs.ts t1,rl1,z1,fun o H2 L2 t2 rl2 z2=>⟨τ,L2,_,rs.ts (t1.trans t2),rl2,z2,fun o' H3 L3 t3 rl3 z3=>⟨y,L3,Q3,rv1.ts (t2.trans t3),rl3,z3,k.ts (t1.trans (t2.trans t3))⟩⟩⟩⟩
theorem qB(r:xo G H ys xs)(lo hi:Option Int):xo G H (rq ys lo hi) (sk xs lo hi):=by unfold rq sk;rw[r.length];exact(r.drop _).take _
theorem alo(K:Ai)(P:Program)(w:World)(hK:X.K=K:=by rfl)(hP:X.prog=P:=by rfl)(hw:X.w=w:=by rfl):qT X (adr ⟨K,P,w⟩ alb):=by
 subst hK hP hw;refine qT.imp aeo fun x lo hi H Q ⟨y,L,Q3,rv,rl,z,k⟩=>?_;cases y with
 |ref a=>
  obtain⟨ys,es,z'⟩:=xh z;obtain⟨xs,sq,r⟩:=dP rl (aD es);exact⟨a,xs,rv,sq,fun p hp=>k _ _ _ _ (EE hp) (rl.newL hp (qB r lo hi)) (by rfl) (z' p (rl.none hp))⟩
 |sq ys=>
  obtain⟨a,xs,e,sf,r⟩:=rv;exact⟨a,xs,e,sf.sq,fun p hp=>k _ _ _ _ (EE hp) (rl.newL hp (qB r lo hi)) (by rfl) (z p (rl.none hp))⟩
 |_=>exact z.elim
end
section
variable {a b iter:Expr}{tc:xp}{tB:iD}{rest orelse:List Stmt}{t u:wv}
theorem zj:tW X [] js:=m5.imp aeh fun D σ H ⟨τ,L,D3,rs,rl,z,k⟩=>k.nx _ H _ L (EC _) rs rl z
theorem qh(h:QS X st t):tW X [st] t:=afq h
theorem qc(h:QS X st t)(k:tW X rest u):tW X (st::rest) (qp t u):=m5.imp (sF h k) fun D σ H ⟨τ,L,D3,rs,rl,z,k⟩=>
 ⟨τ,L,{ D3 with nx:=u D3 },rs,rl,z,fun σ1 H1 τ1 L1 t1 rs1 rl1 z1=>⟨τ1,L1,D3,rs1,rl1,z1,k.ts t1⟩,k.rt,k.bk,k.ct⟩
theorem rZ:QS X (.Continue pos) agi:=EH sR fun D σ H ⟨τ,L,D3,rs,rl,z,k⟩=>k.ct _ H _ L (EC _) rs rl z
theorem qy(h:QE X e te)(hs:swapsWith e none pos.line X.env=pure false:=by rfl):QS X (.Expr e pos) (j9 te):=EH (aea h hs) fun D σ H ⟨τ,L,D3,rs,rl,z,k⟩=>
 ⟨τ,L,_,rs,rl,z,fun v H1 y L1 t1 rl1 rv1 z1=>k.nx _ H1 _ L1 t1 (rs.ts t1) rl1 z1⟩
theorem z0(h:QE X e te):QS X (.Return (some e) pos) (jr te):=EH (aik h) fun D σ H ⟨τ,L,D3,rs,rl,z,k⟩=>⟨τ,L,_,rs,rl,z,k.rt⟩
theorem vP:QS X (.Return none pos) abi:=EH af6 fun D σ H ⟨τ,L,D3,rs,rl,z,k⟩=>k.rt _ H _ L (EC _) rl (by rfl) z
theorem jc(h:QT X c tA)(ha:tW X body t)(hb:tW X orelse u):QS X (.If c body orelse pos) (xc tA t u):=EH (am4 h ha hb) fun D σ H ⟨τ,L,D3,rs,rl,z,k⟩=>
 ⟨τ,L,_,rs,rl,z,fun c H1 L1 t1 rl1 z1=>by cases c with|true=>rw[AD rfl];exact⟨τ,L1,D3,rs.ts t1,rl1,z1,k.ts t1⟩|false=>rw[Ay AE];exact⟨τ,L1,D3,rs.ts t1,rl1,z1,k.ts t1⟩⟩
theorem aP(hN:X.N.Nodup)(hix:X.N[i]?=some x)(hx:Loc X.env.scope x)(h:QE X e te)(hsw:swapsWith e (some (.Name x pos')) pos.line X.env=pure false:=by rfl)
 (hfn:X.fn x=true\/X.env.scope.names.lookup x=some .local:=by first | exact .inl rfl | exact .inr rfl | assumption):QS X (.Assign [.Name x pos'] e pos) (zr te (qf i)):=EH (ak9 hN hix hx h hsw hfn) fun D σ H ⟨τ,L,D3,rs,rl,z,k⟩=>
 ⟨τ,L,_,rs,rl,z,fun v H1 y L1 t1 rl1 rv1 z1=>k.nx _ H1 _ L1 t1 (show ke _ _ _ (bK τ i y) by rw[wu];exact(rs.ts t1).set rv1) rl1 z1⟩
theorem dQ(h:QE X e te)(hg:QG X tg g)(h1:swapsWithSole [tg] e pos.line X.env=pure false:=by rfl)(h2:swappedStores [tg] e X.env=pure none:=by rfl)
 (h3:(assignEach [tg] X.env).map (·.2)=[assign tg X.env]:=by rfl):QS X (.Assign [tg] e pos) (zr te g):=EH (abv h hg h1 h2 h3) fun D σ H ⟨τ,L,D3,rs,rl,z,k⟩=>
 ⟨τ,L,_,rs,rl,z,fun v H1 y L1 t1 rl1 rv1 z1=>⟨y,τ,L1,_,rv1,rs.ts t1,rl1,z1,k.nx.ts t1⟩⟩
theorem PG.imp{t u:TG}(h:PG X e t)(q:∀v σ H Q,u v σ H Q->t v σ H Q):PG X e u:=fun pins s σ H x v Q I r z=>h pins s σ H x v Q I r (q _ _ _ _ z)
theorem PGs.imp{e:List Expr}{t u:TGs}(h:PGs X e t)(q:∀v σ H Q,u v σ H Q->t v σ H Q):PGs X e u:=fun pins s σ H x v Q I r z=>h pins s σ H x v Q I r (q _ _ _ _ z)
theorem jS(hN:X.N.Nodup)(hix:X.N[i]?=some x)(hx:Loc X.env.scope x)(hfn:X.fn x=true\/X.env.scope.names.lookup x=some .local:=by first | exact .inl rfl | exact .inr rfl | assumption):QG X (.Name x pos) (qf i):=
 PG.imp (jH hN hix hx hfn) fun v σ H Q ⟨y,τ,L,Q3,rv,rs,rl,z,k⟩=>k _ H _ L (EC _) (show ke _ _ _ (bK τ i y) by rw[wu];exact rs.set rv) rl z
theorem vm:QGs X [] vz:=PGs.imp wV fun vs σ H Q ⟨ys,τ,L,Q3,rv,rs,rl,z,k⟩=>by cases ys with|nil=>exact⟨rv,k _ H _ L (EC _) rs rl z⟩|cons y r=>exact z.elim
theorem zh(h:QG X e g)(hs:QGs X es gs)(he:(assignEach (e::es) X.env).map (·.2)=assign e X.env::(assignEach es X.env).map (·.2):=by rfl):QGs X (e::es) (zg g gs):=
 PGs.imp (mO h hs he) fun vs σ H Q ⟨ys,τ,L,Q3,rv,rs,rl,z,k⟩=>by
 cases ys with
 |nil=>exact z.elim
 |cons y r=>
  obtain⟨x,xs,rfl,r1,r2⟩:=rv;exact⟨x,xs,rfl,y,τ,L,_,r1,rs,rl,z,fun σ1 H1 τ1 L1 t1 rs1 rl1 z1=>⟨r,τ1,L1,Q3,r2.ts t1,rs1,rl1,z1,k.ts t1⟩⟩
theorem aJ{kk:Nat}(hc:X.calm=true)(h:QGs X es gs)(h1:(assignEach es X.env).length=n:=by rfl)(h2:(assignEach es X.env).findIdx? (·.1)=none:=by rfl):QG X (.Tuple es kk pos) (wo n gs):=
 PG.imp (ab5 hc h h1 h2) fun v σ H Q ⟨y,τ,L,Q3,rv,rs,rl,z,k⟩=>by
 cases y with
 |tup ys=>
  obtain⟨a,xs,rfl,sq,r⟩:=rv;have z':(match ys.length==n with | true=>gs ys τ L Q3 | false=>False):=z;split at z'
  ·rename_i e;exact⟨a,xs,rfl,sq,by rw[<-r.length];exact beq_iff_eq.mp e,ys,τ,L,Q3,r,rs,rl,z',k⟩
  ·exact z'.elim
 |_=>exact z.elim
theorem acs{y:Str}{px pt:Pos}{k2:Nat}{pt2:Pos}(hc:X.calm=true)(hN:X.N.Nodup)(hi:X.N[i]?=some x)(hj:X.N[j]?=some y)(hij:i≠j)(lx:X.env.scope.names.lookup x=some .local)(ly:X.env.scope.names.lookup y=some .local)
 (h:QA X [a,b] tr) (h1:swappedStores [.Tuple [.Name x px,.Name y py] kt pt] (.Tuple [a,b] k2 pt2) X.env=pure (some [x,y])) (h2:swapsWithSole [.Tuple [.Name x px,.Name y py] kt pt] (.Tuple [a,b] k2 pt2) pos.line X.env=pure false:=by rfl):
 QS X (.Assign [.Tuple [.Name x px,.Name y py] kt pt] (.Tuple [a,b] k2 pt2) pos) (aio i j tr):=EH (ak2 hc hN hi hj hij lx ly h h1 h2) fun D σ H ⟨τ,L,D3,rs,rl,z,k⟩=>
 ⟨τ,L,_,rs,rl,z,fun vs H1 ys L1 t1 rl1 rv1 z1=>by
  split at z1
  ·rename_i v w;obtain⟨x',y',rfl,r1,r2⟩:=rv1.inv2;exact⟨x',y',rfl,k.nx _ H1 _ L1 t1 (show ke _ _ _ (bK (bK τ i v) j w) by rw[wu,wu];exact((rs.ts t1).set r1).set r2) rl1 z1⟩
  ·exact z1.elim⟩
theorem lE(hp:PassesOwn (model X.prog X.w) X.A X.env X.xe)(h:QT X c tA)(hb:tW X body t):QS X (.While c body [] pos) (ot tA t):=EH (abc hp h hb) fun D σ H ⟨τ,L,D3,rs,rl,⟨W,⟨m0,w0⟩,turn⟩,k⟩=>by
 refine⟨fun m σ1 H1=>∃τ1 L1,jf H H1/\ke X.g3 H1 σ1 τ1/\jo X.g3 H1 L1/\W m τ1 L1,⟨m0,τ,L,EC _,rs,rl,w0⟩,?_⟩;rintro m σ1 H1 ⟨τ1,L1,t1,rs1,rl1,w1⟩;refine⟨τ1,L1,_,rs1,rl1,turn m τ1 L1 w1,fun b H2 L2 t2 rl2 z2=>?_⟩;cases b with
 |false=>rw[Ay AE];exact k.nx _ H2 _ L2 (t1.trans t2) (rs1.ts t2) rl2 z2
 |true=>
  rw[AD rfl];obtain⟨N,hN,z2⟩:=z2;refine⟨fun σ' H'=>∃τ' L',jf H H'/\ke X.g3 H' σ' τ'/\jo X.g3 H' L'/\N τ' L',?_,?_⟩
  ·rintro σ' H' ⟨τ',L',t',rs',rl',n'⟩;obtain⟨m',hm,w'⟩:=hN τ' L' n';exact⟨m',hm,τ',L',t',rs',rl',w'⟩
  ·have nx:m8 X.g3 H2 (cz N) (fun σ' H'=>∃τ' L',jf H H'/\ke X.g3 H' σ' τ'/\jo X.g3 H' L'/\N τ' L'):=fun σ' H' τ' L' t' rs' rl' ⟨L5,s5,n'⟩=>⟨τ',L5,(t1.trans t2).trans t',rs',rl'.sub s5,n'⟩;have k2:=k.ts (t1.trans t2);exact⟨τ1,L2,_,rs1.ts t2,rl2,z2,nx,k2.rt,k2.nx,nx⟩
theorem aA{wi:TI3}(hp:PassesOwn (model X.prog X.w) X.A X.env X.xe)(hc:X.calm=true)(hi:QI X tg iter wi)(hg:QG X tg g)(hb:tW X body t)(hs:∀x,foldedSetIterable iter X.env x=pure x:=by intro _;rfl):
 QS X (.For tg iter body [] pos) (eO wi g t):=EH (aic hp hc hi hg hb hs) fun D σ H ⟨τ,L,D3,rs,rl,z,k⟩=>by
 refine⟨τ,L,_,rs,rl,z,fun J H1 ys keep L1 t1 rl1 yl zz=>?_⟩;obtain⟨W,w0,wk,turn,xr⟩:=aad zz;refine⟨fun i m σ' H'=>∃τ' L',i+m=ys.length/\jf H1 H'/\ke X.g3 H' σ' τ'/\jo X.g3 H' L'/\W i τ' L',⟨ys.length,τ,L1,by omega,EC _,rs.ts t1,rl1,w0⟩,?_⟩;rintro i m σ2 H2 ⟨τ2,L2,him,t2,rs2,rl2,w2⟩;by_cases hlt:i<ys.length
 ·refine .inr ⟨yl.go i H2 L2 t2 rl2 (wk i τ2 L2 w2) hlt,fun σ' H'=>∃τ' L',jf H1 H'/\ke X.g3 H' σ' τ'/\jo X.g3 H' L'/\W (i+1) τ' L',?_,?_⟩
  ·rintro σ' H' ⟨τ',L',t',rs',rl',w'⟩;exact⟨m - 1,by omega,τ',L',by omega,t',rs',rl',w'⟩
  ·intro x H3 y3;have ey:ys[i]?=some ys[i]:=Aj hlt;obtain⟨t3,rl3,rv3⟩:=yl.yld i H2 L2 x H3 _ t2 rl2 (wk i τ2 L2 w2) ey y3;refine⟨ys[i],τ2,L2,_,rv3,rs2.ts t3,rl3,turn i _ τ2 L2 ey w2,fun σ4 H4 τ4 L4 t4 rs4 rl4 z4=>?_⟩;have nx:m8 X.g3 H4 (cz (W (i+1))) (fun σ' H'=>∃τ' L',jf H1 H'/\ke X.g3 H' σ' τ'/\jo X.g3 H' L'/\W (i+1) τ' L'):=fun σ' H' τ' L' t' rs' rl' ⟨L5,s5,n'⟩=>⟨τ',L5,((t2.trans t3).trans t4).trans t',rs',rl'.sub s5,n'⟩;have k2:=k.ts (t1.trans ((t2.trans t3).trans t4));exact⟨τ4,L4,_,rs4,rl4,z4,nx,k2.rt,k2.nx,nx⟩
 ·have e:i=ys.length:=by omega
  subst e;exact .inl ⟨yl.stop H2 L2 t2 rl2 (wk _ τ2 L2 w2),k.nx _ H2 _ L2 (t1.trans t2) rs2 rl2 (xr τ2 L2 w2)⟩
theorem PI.imp{t u:TI}(h:PI X tg e t)(q:∀σ H Q,u σ H Q->t σ H Q):PI X tg e u:=fun pins s σ H Q I z=>h pins s σ H Q I (q σ H Q z)
theorem i4{a:Addr}{keep:qm->Prop}(h:∀H L,jf H₀ H->jo G H L->keep L->∃xs,aE G.K H a xs/\xo G H ys xs):hX G H₀ (Itl G.K a) ys keep where
 go:=fun i H L t rl kp hi=>by
  obtain⟨xs,sq,r⟩:=h H L t rl kp;have:i<xs.length:=by rw[<-r.length];exact hi
  exact⟨xs,xs[i],sq,Aj this⟩
 yld:=fun i H L x H' y t rl kp hy ⟨e,f⟩=>by subst e;obtain⟨xs,sq,r⟩:=h _ L t rl kp;obtain⟨x',e',rv⟩:=r.get hy;have:=f xs sq;rw[e'] at this;cases this;exact⟨EC _,rl,rv⟩
 stop:=fun H L t rl kp=>by obtain⟨xs,sq,r⟩:=h H L t rl kp;exact⟨xs,sq,by rw[r.length];exact Ao _⟩
theorem x6(h:QE X e te):QI X tg e (xt te):=PI.imp (adj h) fun σ H R ⟨τ,L,R3,rs,rl,z,k⟩=>by
 refine⟨τ,L,_,rs,rl,z,fun v H1 y L1 t1 rl1 rv1 z1=>?_⟩;cases y with
 |ref a=>
  obtain⟨ys,keep,es,kp,hk,z2⟩:=s9 z1;have hy:∀H L,jf H1 H->jo X.g3 H L->keep L->∃xs,aE X.K H a xs/\xo X.g3 H ys xs:=fun H L _ rl e=>dP rl (hk L e);obtain⟨xs,sq,_⟩:=hy H1 L1 (EC _) rl1 kp;exact⟨a,rv1,⟨xs,sq⟩,k _ H1 ys _ L1 t1 rl1 (i4 hy) z2⟩
 |sq ys=>
  obtain⟨a,xs,e,sf,r⟩:=rv1;exact⟨a,e,⟨xs,sf.sq⟩,k _ H1 ys (fun _=>True) L1 t1 rl1 (i4 fun H L t _ _=>⟨xs,(sf.ts t).sq,r.ts t⟩) z1⟩
 |_=>exact z1.elim
theorem sT(lo:Int)(n:Nat):hX G H₀ (Itr lo n) (ag lo n) (fun _=>True) where
 go:=fun i H L t rl kp hi=>show i<n by simpa[ag] using hi
 yld:=fun i H L x H' y t rl kp hy ⟨e,f⟩=>by
  subst e f;refine⟨EC _,rl,?_⟩;unfold ag at hy;rw[Al] at hy;obtain⟨z,ez,e⟩:=Ap.mp hy;have:=List.getElem?_range (i:=i) (n:=n) (by
   by_cases c:i<n
   ·exact c
   ·rw[Cz (by simp;omega)] at ez;cases ez)
  rw[this] at ez;cases ez;subst e;rfl
 stop:=fun H L t rl kp=>by simp[ag,Itr]
theorem ar(hg:Gl X "range")(hm:X.mg "range" = none)(h:QA X [a] tr)(hs:starEach [a] X.env=[(false,eval a X.env)]:=by rfl):QI X tg (.Call (.Name "range" p) [a] [] pos) (fM tr):=
 PI.imp (zE hg hm h hs) fun σ H R ⟨τ,L,R3,rs,rl,z,k⟩=>by
 refine⟨τ,L,_,rs,rl,z,fun vs H1 ys L1 t1 rl1 rv1 z1=>?_⟩;split at z1
 ·rename_i j;obtain⟨x,rfl,r⟩:=rv1.inv1;cases r;exact⟨j,rfl,z1.1.1,z1.1.2,k _ H1 _ _ L1 t1 rl1 (sT 0 _) z1.2⟩
 ·exact z1.elim
end
section
variable {T:List Str}{iter:Expr}{wi:TI3} 
theorem cT:QF X [] md:=PF.imp aip fun σ H Q ⟨τ,L,Q3,rs,rl,z,k⟩=>k _ H L (EC _) rl z
theorem dk(h:QT X c tA):QF X [c] tA:=ain h
theorem agm{g2:TG}(hg2:∀v σ H Q,upG G g v σ H Q->g2 v σ H Q)(σ:L2.St)(H:Hp)(Q:VK):qS G (mY n wi g tA te) σ H Q->tLC n (upI G wi) g2 (upT G tA) (qS G te) σ H Q:=fun⟨τ,L,Q3,rs,rl,z,k⟩=>by
 refine⟨τ,L,_,rs,rl,z,fun J H1 ys keep L1 t1 rl1 yl zz=>?_⟩;obtain⟨hz,W,w0,wk,turn,xr⟩:=aew zz;refine⟨fun i m vs H'=>∃zs L',i+m=ys.length/\zs.length≤i/\jf H1 H'/\xo G H' zs vs/\jo G H' L'/\W i zs L',⟨ys.length,[],L1,by exact Nat.add_comm _ _,Ao _,EC _,rfl,rl1,w0⟩,?_⟩;rintro i m vs H2 ⟨zs,L2,him,hzi,t2,rv2,rl2,w2⟩;by_cases hlt:i<ys.length
 ·refine .inr ⟨yl.go i H2 L2 t2 rl2 (wk i zs L2 w2) hlt,by rw[<-rv2.length];lia,?_⟩;intro x H3 y3;have ey:ys[i]?=some ys[i]:=Aj hlt;obtain⟨t3,rl3,rv3⟩:=yl.yld i H2 L2 x H3 _ t2 rl2 (wk i zs L2 w2) ey y3;refine hg2 _ _ _ _ ⟨ys[i],_,L2,_,rv3,(rs.ts ((t1.trans t2).trans t3)).more n,rl3,turn i _ zs L2 ey w2,fun σ4 H4 τ4 L4 t4 rs4 rl4 z4=>?_⟩;refine⟨τ4,L4,_,rs4,rl4,z4,fun b H5 L5 t5 rl5 z5=>?_⟩;cases b with
  |true=>
   rw[AD rfl];refine⟨τ4,L5,_,rs4.ts t5,rl5,z5,fun v6 H6 y6 L6 t6 rl6 rv6 ⟨L7,s7,z6⟩=>?_⟩;have tt:=((t3.trans t4).trans t5).trans t6;exact⟨m - 1,by omega,zs++[y6],L7,by lia,by rw[Ad,BB];exact u0,t2.trans tt,(rv2.ts tt).app (xo.one rv6),rl6.sub s7,z6⟩
  |false=>
   rw[Ay AE];have tt:=(t3.trans t4).trans t5;obtain⟨L7,s7,z6⟩:=z5;exact⟨m - 1,by lia,zs,L7,by lia,by exact aiu,t2.trans tt,rv2.ts tt,rl5.sub s7,z6⟩
 ·have ei:i=ys.length:=by lia
  subst ei;refine .inl ⟨yl.stop H2 L2 t2 rl2 (wk _ zs L2 w2),by rw[<-rv2.length];lia,fun D hD=>?_⟩;exact k _ _ _ _ ((t1.trans t2).trans (EE hD)) (rl2.newL hD rv2) (by rfl) (xr zs L2 w2 D (rl2.none hD))
structure TGx(X:Cx)(scope:Scope)(T:List Str)(target:Expr)(g:iC):Prop where
 ex:∃g2:TG,(∀C fp s₀ H₀,PG (X.comp scope T C fp s₀ H₀) target g2)/\mz g2 X.N.length T.length/\∀v σ H Q,upG X.g3 g v σ H Q->g2 v σ H Q
theorem af0(i:Nat)(v:V)(σ:L2.St)(H:Hp)(Q:L2.St->Hp->Prop):upG G (qf i) v σ H Q->dg i v σ H Q:=fun⟨y,τ,L,Q3,rv,rs,rl,z,k⟩=>
 k _ H _ L (EC _) (show ke _ _ _ (bK τ i y) by rw[wu];exact rs.set rv) rl z
theorem vn(hN:(X.N++[x]).Nodup)(hl:∀C fp s₀ H₀,Loc (X.comp scope [x] C fp s₀ H₀).env.scope x)(hfn:∀C fp s₀ H₀,(X.comp scope [x] C fp s₀ H₀).env.scope.names.lookup x=some .local):TGx X scope [x] (.Name x p) (qf X.N.length):=
 ⟨dg X.N.length,fun C fp s₀ H₀=>jH (X:=X.comp scope [x] C fp s₀ H₀) hN (by show(X.N++[x])[X.N.length]?=some x;simp) (hl C fp s₀ H₀) (.inr (hfn C fp s₀ H₀)),uk _,af0 _⟩
theorem xQ{K:Ai}(n:Nat):mz (akl K 2 (rV (dg n) (rV (dg (n+1)) aiw))) n 2:=by
 rintro σ hl x H Q ⟨a,xs,e,sq,len,v,r,e1,w,r',e2,e3,q⟩;refine⟨a,xs,e,sq,len,v,r,e1,w,r',e2,e3,⟨by simp[hl],fun i u ei=>?_⟩,q⟩;have hi:i<n:=by
  by_cases c:i<n
  ·exact c
  ·rw[An (by lia),Cf] at ei;split at ei<;>cases ei
 rw[Bo (by lia),Bo (by exact ai8)];exact ei
theorem ahk(i j:Nat)(v:V)(σ:L2.St)(H:Hp)(Q:L2.St->Hp->Prop):upG G (wo 2 (zg (qf i) (zg (qf j) vz))) v σ H Q->akl G.K 2 (rV (dg i) (rV (dg j) aiw)) v σ H Q:=fun⟨y,τ,L,Q3,rv,rs,rl,z,k⟩=>by
 cases y with
 |tup ys=>
  obtain⟨a,xs,rfl,sq,r⟩:=rv;have z':(match ys.length==2 with | true=>zg (qf i) (zg (qf j) vz) ys τ L Q3 | false=>False):=z;split at z'
  ·rename_i e;have hl:ys.length=2:=beq_iff_eq.mp e
   match ys,hl with
   |[y1,y2],_=>
    obtain⟨x1,x2,rfl,r1,r2⟩:=r.inv2;have z2:Q3 (bK (bK τ i y1) j y2) L:=z';exact⟨a,_,rfl,sq,rfl,x1,[x2],rfl,x2,[],rfl,rfl,k _ H _ L (EC _) (by rw[wu,wu];exact(rs.set r1).set r2) rl z2⟩
  ·exact z'.elim
 |_=>exact z.elim
theorem fv{y:Str}{p' pt:Pos}(hc:X.calm=true)(hN:(X.N++[x,y]).Nodup)(hl:∀C fp s₀ H₀,(X.comp scope [x,y] C fp s₀ H₀).env.scope.names.lookup x=some .local)(hl2:∀C fp s₀ H₀,(X.comp scope [x,y] C fp s₀ H₀).env.scope.names.lookup y=some .local)
 (h1:∀env,(assignEach [.Name x p,.Name y p'] env).length=2:=by intro _;rfl) (h2:∀env,(assignEach [.Name x p,.Name y p'] env).findIdx? (·.1)=none:=by intro _;rfl)
 (h3:∀env,(assignEach [.Name x p,.Name y p'] env).map (·.2)=assign (.Name x p) env::(assignEach [.Name y p'] env).map (·.2):=by intro _;rfl) (h4:∀env,(assignEach [.Name y p'] env).map (·.2)=assign (.Name y p') env::(assignEach [] env).map (·.2):=by intro _;rfl):
 TGx X scope [x,y] (.Tuple [.Name x p,.Name y p'] kt pt) (wo 2 (zg (qf X.N.length) (zg (qf (X.N.length+1)) vz))):=
 ⟨_,fun C fp s₀ H₀=>ab5 (X:=X.comp scope [x,y] C fp s₀ H₀) hc (mO (jH hN (by show(X.N++[x,y])[X.N.length]?=some x;simp) (.inl (hl C fp s₀ H₀)) (.inr (hl C fp s₀ H₀))) (mO (jH hN (by show(X.N++[x,y])[X.N.length+1]?=some y;simp) (.inl (hl2 C fp s₀ H₀)) (.inr (hl2 C fp s₀ H₀))) wV (h4 _)) (h3 _)) (h1 _) (h2 _),xQ _,ahk _ _⟩
theorem dD(T:List Str)(S:jh X scope)(hc:X.calm=true)(hi:QI X target iter wi)(hg:TGx X scope T target g)
 (hf:∀C fp s₀ H₀,QF (X.comp scope T C fp s₀ H₀) ifs tA) (he:∀C fp s₀ H₀,QE (X.comp scope T C fp s₀ H₀) elt te)
 (hs:∀x,foldedSetIterable iter X.env x=pure x:=by intro _;rfl):QE X (.ListComp elt [⟨target,iter,ifs,0⟩] scope pos) (mY T.length wi g tA te):=by
 obtain⟨g2,h1,h2,h3⟩:=hg.ex;exact EF (aml T S hc hi h1 h2 hf he hs) (agm h3)
theorem dJ(T:List Str){px lp:Pos}(hN:X.N.Nodup)(hix:X.N[i]?=some x)(hx:Loc X.env.scope x)(S:jh X scope)(hc:X.calm=true)(hi:QI X target iter wi)
 (hg:TGx X scope T target g) (hf:∀C fp s₀ H₀,QF (X.comp scope T C fp s₀ H₀) ifs tA) (he:∀C fp s₀ H₀,QE (X.comp scope T C fp s₀ H₀) elt te)
 (hsw:swapsWith (.ListComp elt [⟨target,iter,ifs,0⟩] scope lp) (some (.Name x px)) pos.line X.env=pure true:=by rfl)
 (hfn:X.fn x=true\/X.env.scope.names.lookup x=some .local:=by first | exact .inl rfl | exact .inr rfl | assumption)
 (hs:∀x,foldedSetIterable iter X.env x=pure x:=by intro _;rfl):QS X (.Assign [.Name x px] (.ListComp elt [⟨target,iter,ifs,0⟩] scope lp) pos) (zr (mY T.length wi g tA te) (qf i)):=by
 obtain⟨g2,h1,h2,h3⟩:=hg.ex;refine EH (ac9 (tc:=upT X.g3 tA) (te:=qS X.g3 te) T hN hix hx S hc hi h1 h2 hf he hsw hfn hs) fun D σ H ⟨τ,L,D3,rs,rl,z,k⟩=>?_;refine agm h3 σ H _ ⟨τ,L,_,rs,rl,z,fun v H1 y L1 t1 rl1 rv1 z1=>?_⟩;exact k.nx _ H1 _ L1 t1 (show ke _ _ _ (bK τ i y) by rw[wu];exact(rs.ts t1).set rv1) rl1 z1
def dn(G:G3)(sp:jw):Sp:=fun vs H Q _=>∃ys L Q3,xo G H ys vs/\jo G H L/\sp ys L Q3/\xB G H Q3 Q
abbrev ahn(P:Program)(w:World)(K:Ai)(mg:Str->Option Value)(base:Heap)(k:Nat)(x:Str)(ps:List Str)(sp:jw):Prop:=zW P w K mg base k x ps (dn ⟨K,P,w⟩ sp)
abbrev Fn3(P:Program)(w:World)(K:Ai)(mg:Str->Option Value)(base:Heap)(k:Nat)(f:Addr)(fd:FuncData)(ps:List Str)(sp:jw):Prop:=cO P w K mg base CX0 k f fd ps (dn ⟨K,P,w⟩ sp)
theorem asq{k:Nat}{sp:jw}(c:ahn X.prog X.w X.K X.mg X.base k x ps sp)(hr:aZ k X.A)(hg:Gl X x)(ha:QA X (e::es) tr)(hdb:Eu x:=by decide)
 (he:Es e es X:=by rfl) (hpl:Et pos es X:=by rfl):QE X (.Call (.Name x p) (e::es) [] pos) (qt sp tr):=
 EF (apa c hr hg ha hdb he hpl) fun σ H Q ⟨τ,L,Q3,rs,rl,z,k⟩=>
 ⟨τ,L,_,rs,rl,z,fun vs H1 ys L1 t1 rl1 rv1 z1=>⟨ys,L1,Q3,by rw[AW];exact rv1,rl1,z1,k.ts t1⟩⟩
def fN(Q:YK):YK:=fun y L=>∃L2,qj L2 L/\Q y L2
def gv(N:List Str)(ys:List Y):jp:=ys.map some++List.replicate (N.length - ys.length) none
theorem oB{N:List Str}{vs:List V}(r:xo G H ys vs):ke G H (L2.start N vs) (gv N ys):=by unfold L2.start gv;rw[<-r.length];refine ke.more ⟨by simp[r.length],fun i y e=>?_⟩ _;rw[Al] at e;obtain⟨y',e1,e2⟩:=Ap.mp e;cases e2;obtain⟨x,ex,rx⟩:=r.get e1;exact⟨x,by rw[Al,ex];rfl,rx⟩
theorem ok3{P:Program}{w:World}{K:Ai}{N:List Str}{k:Nat}{sp:jw}(F:Fun K x qual st f fd)(S:ah N ps (qw st))(len:∀ys L Q,sp ys L Q->ys.length=ps.length)
 (hbody:∀(cdv:Value) (A:Around) (outer:List Env) (s:Shared) (H:Hp) (E:XK),aZ k (A.deeper (PyProof.Rows.envOfC qual (qw st) s.heap.objs.size f cdv))->
  ∃t,tW (iz CX0 P w K mg base N qual (qw st) f cdv A outer s H E).nox (jt st) t/\∀ys L Q,sp ys L Q->t { nx:=fun _ L'=>fN Q .non L',rt:=fN Q } (gv N ys) L):Fn3 P w K mg base (k+1) f fd ps sp:=by
 refine F.ok S (fun vs H Q E ⟨ys,L,Q3,rv,rl,z,_⟩=>by rw[<-rv.length];exact len ys L Q3 z) fun cdv A outer s H vs Q E hr ⟨ys,L,Q3,rv,rl,z,k⟩=>?_;obtain⟨t,ht,q⟩:=hbody cdv A outer s H E hr;refine⟨_,ht,gv N ys,L,_,oB rv,rl,q ys L Q3 z,?_⟩;refine⟨fun σ H' τ L' t' rs' rl' ⟨L2,s2,q2⟩=>k .non H' .non L2 t' (rl'.sub s2) (by rfl) q2,fun v H' y L' t' rl' rv' ⟨L2,s2,q2⟩=>k v H' y L2 t' (rl'.sub s2) rv' q2,fun _ _ _ _ _ _ _ z=>z.elim,fun _ _ _ _ _ _ _ z=>z.elim⟩
def upM(G:G3)(r:Y->List Y->qm->YK->Prop):V->List V->Hp->VK->Prop:=fun x xs H Q=>∃y ys L Q3,RV G H y x/\xo G H ys xs/\jo G H L/\r y ys L Q3/\xB G H Q3 Q
theorem abq:lG X "list.append" (upM X.g3 zu):=lG.imp zC fun x xs H Q ⟨y,ys,L,Q3,r1,r2,rl,z,k⟩=>by
 unfold zu at z;split at z
 ·rename_i a v;obtain⟨zs,e,z⟩:=xh z;obtain⟨us,e2,r⟩:=rl a _ e;obtain⟨v',rfl,rv⟩:=r2.inv1;exact⟨a,us,v',r1,rfl,e2,by rw[<-r.length];exact z.1,k _ _ _ _ (EN e2) (rl.setL e2 (r.app (xo.one rv))) (by rfl) z.2⟩
 ·exact z.elim
theorem ab7:lG X "list.extend" (upM X.g3 aV):=lG.imp yr fun x xs H Q ⟨y,ys,L,Q3,r1,r2,rl,z,k⟩=>by
 unfold aV at z;split at z
 ·rename_i a b;obtain⟨zs,e,z⟩:=xh z;obtain⟨us,e',z⟩:=xh z;obtain⟨vs,e2,r⟩:=rl a _ e;obtain⟨ws,e3,r'⟩:=rl b _ e';obtain⟨v',rfl,rv⟩:=r2.inv1;cases rv;exact⟨a,b,vs,ws,r1,rfl,e2,e3,by rw[<-r.length,<-r'.length];exact z.1,k _ _ _ _ (EN e2) (rl.setL e2 (r.app r')) (by rfl) z.2⟩
 ·exact z.elim
theorem amv:lG X "list.pop" (upM X.g3 zA):=lG.imp ahz fun x xs H Q ⟨y,ys,L,Q3,r1,r2,rl,z,k⟩=>by
 unfold zA at z;split at z
 ·rename_i a;obtain⟨zs,e,z⟩:=xh z;obtain⟨us,e2,r⟩:=rl a _ e;cases (show xs=[] from r2);cases el:zs[zs.length - 1]? with
  |none=>rw[el] at z;exact z.elim
  |some v=>
   rw[el] at z;obtain⟨u,eu,ru⟩:=r.get el;rw[r.length] at eu;exact⟨a,us,u,r1,rfl,e2,eu,k _ _ _ _ (EN e2) (rl.setL e2 r.dropLast) (ru.ts (EN e2)) z⟩
 ·exact z.elim
theorem vG{a:Addr}(rl:jo G H L)(h:cA L (.ref a)=some ys):tyV G.K "list" (.ref a) H:=by obtain⟨xs,sq,_⟩:=dP rl h;exact .inl ⟨rfl,xs,sq⟩
def aW(r:Y->List Y->qm->YK->Prop)(to:xp)(t:eX)(τ:jp)(L:qm)(Q:YK):Prop:=to τ L fun x L1=>match x with
 |.ref a=>fO L1 (.ref a) fun _=>t τ L1 fun xs L2=>r (.ref a) xs L2 Q
 |_=>False
theorem qQ{id:String}{r:Y->List Y->qm->YK->Prop}(h2:Slot "list" name id)(h3:typeOf (.builtin id)=pure (.type "method_descriptor"))(hm:lG X id (upM X.g3 r))(ho:QE X o to)(ha:QA X (e::es) tr)
 (h4:attributeBase o name X.env (eval o X.env)=eval o X.env:=by rfl)
 (h5:((backTo cpos (starEach (e::es) X.env)).all (fun x=>!x.1)&&(backToKw cpos (keywordEach [] X.env)).all (fun x=>x.1.isSome)&&decide ((e::es).length+([]:List Keyword).length+(if ([]:List Keyword).isEmpty=true then 0 else 1)<30))=true:=by rfl)
 (h6:(apos.endLine==cpos.line)=true:=by rfl) (h7:Es e es X:=by rfl) (h8:Et cpos es X:=by rfl):
 QE X (.Call (.Attribute o name apos) (e::es) [] cpos) (aW r to tr):=EF (agv DR h2 h3 hm ho ha h4 h5 h6 h7 h8) fun σ H Q ⟨τ,L,Q3,rs,rl,z,k⟩=>
 ⟨τ,L,_,rs,rl,z,fun v H1 y L1 t1 rl1 rv1 z1=>by
  split at z1
  ·rename_i a;obtain⟨ys,es,z1⟩:=wr z1;exact⟨by cases rv1;exact vG rl1 es,τ,L1,_,rs.ts t1,rl1,z1,fun vs H2 ys L2 t2 rl2 rv2 z2=>⟨.ref a,ys,L2,Q3,rv1.ts t2,rv2,rl2,z2,k.ts (t1.trans t2)⟩⟩
  ·exact z1.elim⟩
theorem ajl{id:String}{r:Y->List Y->qm->YK->Prop}(h2:Slot "list" name id)(h3:typeOf (.builtin id)=pure (.type "method_descriptor"))(hm:lG X id (upM X.g3 r))(ho:QE X o to)
 (h4:attributeBase o name X.env (eval o X.env)=eval o X.env:=by rfl) (h6:(apos.endLine==cpos.line)=true:=by rfl):
 QE X (.Call (.Attribute o name apos) [] [] cpos) (aW r to qr):=EF (aj6 DR h2 h3 hm ho h4 h6) fun σ H Q ⟨τ,L,Q3,rs,rl,z,k⟩=>
 ⟨τ,L,_,rs,rl,z,fun v H1 y L1 t1 rl1 rv1 z1=>by
  split at z1
  ·rename_i a;obtain⟨ys,es,z1⟩:=wr z1;exact⟨by cases rv1;exact vG rl1 es,.ref a,[],L1,Q3,rv1,rfl,rl1,z1,k.ts t1⟩
  ·exact z1.elim⟩
theorem zd(ho:QE X o to)(ha:QA X (e::es) tr)(h4:attributeBase o "append" X.env (eval o X.env)=eval o X.env:=by rfl)
 (h5:((backTo cpos (starEach (e::es) X.env)).all (fun x=>!x.1)&&(backToKw cpos (keywordEach [] X.env)).all (fun x=>x.1.isSome)&&decide ((e::es).length+([]:List Keyword).length+(if ([]:List Keyword).isEmpty=true then 0 else 1)<30))=true:=by rfl)
 (h6:(apos.endLine==cpos.line)=true:=by rfl) (h7:Es e es X:=by rfl) (h8:Et cpos es X:=by rfl):
 QE X (.Call (.Attribute o "append" apos) (e::es) [] cpos) (aW zu to tr):=qQ PySem.F.slot_list_append PySem.F.type_list_append abq ho ha h4 h5 h6 h7 h8
theorem aR(ho:QE X o to)(ha:QA X (e::es) tr)(h4:attributeBase o "extend" X.env (eval o X.env)=eval o X.env:=by rfl)
 (h5:((backTo cpos (starEach (e::es) X.env)).all (fun x=>!x.1)&&(backToKw cpos (keywordEach [] X.env)).all (fun x=>x.1.isSome)&&decide ((e::es).length+([]:List Keyword).length+(if ([]:List Keyword).isEmpty=true then 0 else 1)<30))=true:=by rfl)
 (h6:(apos.endLine==cpos.line)=true:=by rfl) (h7:Es e es X:=by rfl) (h8:Et cpos es X:=by rfl):
 QE X (.Call (.Attribute o "extend" apos) (e::es) [] cpos) (aW aV to tr):=qQ PySem.F.slot_list_extend PySem.F.type_list_extend ab7 ho ha h4 h5 h6 h7 h8
theorem zZ(ho:QE X o to)(h4:attributeBase o "pop" X.env (eval o X.env)=eval o X.env:=by rfl)(h6:(apos.endLine==cpos.line)=true:=by rfl):
 QE X (.Call (.Attribute o "pop" apos) [] [] cpos) (aW zA to qr):=ajl PySem.F.slot_list_pop PySem.F.type_list_pop amv ho h4 h6
end
abbrev hG:oF:=yI0 fun i j=>.int (i - j)
abbrev ac3:oF:=yI acm fun i j=>.int (i*j)
abbrev aw:oF:=yI aji fun i j=>.int (i / j)
abbrev w9:oF:=yI (fun _ j=>0<j) fun i j=>.int (i % j)
abbrev aqv:oF:=yI ahd fun i j=>.int (i ^ j.toNat)
abbrev zT:oF:=yI0 fun i j=>.bl (decide (i<j))
abbrev yLe:oF:=yI0 fun i j=>.bl (decide (i≤j))
abbrev yGt:oF:=yI0 fun i j=>.bl (decide (j<i))
structure ahv(G:G3)(mg:Str->Option Value)(x:Str)(y:Y):Prop where
 ex:∃c,mg x=some (.ref c)/\∀H,RV G H y (.ref c)
theorem acr(t:ahv X.g3 X.mg x y)(hg:Gl X x)(hd:Eu x:=by decide):QE X (.Name x pos) (yC y):=by obtain⟨c,hm,q⟩:=t.ex;exact amf hg hm q hd
def ah6(kvs:List (Str×Str)):LO:=.dct (kvs.map fun p=>(Sum.inr p.1,Y.str p.2))
def agy(kvs:List (Str×Str))(_:jp)(L:qm)(Q:YK):Prop:=∀p,L p=none->Q (.ref p) (qg L p (ah6 kvs))
def kvV(kvs:List (Str×Str)):List (jl×V):=kvs.map fun p=>(Sum.inr p.1,V.str p.2)
theorem re{σ:L2.St}{H:Hp}{Q:List (V×V)->Hp->Prop}:∀{kvs:List (Str×Str)},Q (kvs.map fun p=>(V.str p.1,V.str p.2)) H->ph (kvs.map fun p=>(tC (.str p.1),tC (.str p.2))) σ H Q
 |[],h=>h
 |_::r,h=>re (kvs:=r) h
theorem wX{G:G3}{H:Hp}:∀kvs:List (Str×Str),Paired (fun(p:jl×Y) (q:jl×V)=>p.1=q.1/\RV G H p.2 q.2) (kvs.map fun p=>(Sum.inr p.1,Y.str p.2)) (kvV kvs)
 |[]=>.nil
 |_::r=>.cons ⟨rfl,rfl⟩ (wX r)
theorem aex{keys:List (Option Expr)}{values:List Expr}(kvs:List (Str×Str))(h:PPs X pos keys values (kvs.map fun p=>(tC (.str p.1),tC (.str p.2))))(h1:(keys.all fun x=>x.isSome)=true)(h2:keys.length=values.length)(h3:keys≠[])(h4:keys.length≤15)
 (h5:kvs.length≤15:=by decide) (nd:gi [] (kvV kvs)=kvV kvs:=by decide +kernel):QE X (.Dict keys values pos) (agy kvs):=EF (aei h h1 h2 h3 h4) fun σ H Q ⟨τ,L,Q3,rs,rl,z,k⟩=>by
 intro p hp;refine re ⟨jd,kvV kvs,by simp[kvV,kV],by simpa[kvV] using h5,?_⟩;rw[nd,afy];refine k _ _ _ (qg L p (ah6 kvs)) (EE hp) ?_ (by rfl) (z p (rl.none hp));intro a u e;by_cases c:a=p
 ·subst c;rw[q9] at e;cases e;exact⟨kvV kvs,jd,wX kvs⟩
 ·rw[qd c] at e;exact(rl a u e).keep (EE hp) (qu c)
theorem jG{Q:α->qm->Prop}{o:Option α}(h:wO L Q o):∃v,o=some v/\Q v L:=by cases o with|none=>exact h.elim|some v=>exact⟨v,rfl,h⟩
theorem iL{kvs:List (Str×Str)}{k:Str}(h:kvs.lookup k=some x):aX (kvs.map fun p=>((Sum.inr p.1:jl),Y.str p.2)) (Sum.inr k)=some (Y.str x):=by
 induction kvs with
 |nil=>simp at h
 |cons p r ih=>
  obtain⟨a,b⟩:=p;unfold aX;rw[Az,BK];rw[Bx] at h;by_cases c:k=a
  ·subst c;simp at h;simp[h]
  ·have c1:(k==a)=false:=by simpa using c
   rw[c1] at h;have c2:decide ((Sum.inr a:jl)=Sum.inr k)=false:=Ax fun z=>c (Sum.inr.inj z).symm;simp only[c2];exact ih h
theorem vN(h:(ag lo n)[i]?=some y):i<n/\y=.int (lo+i):=by
 unfold ag at h;rw[Al] at h;obtain⟨z,ez,e⟩:=Ap.mp h;have hi:i<n:=by
  by_cases c:i<n
  ·exact c
  ·rw[Cz (by simp;exact vD)] at ez;cases ez
 rw[List.getElem?_range hi] at ez;cases ez;exact⟨hi,e.symm⟩
theorem kZ(lo:Int)(n:Nat):(ag lo n).length=n:=by simp[ag]
theorem xA{tb:wv}(W:Nat->jp->qm->Prop)(h0:W 0 τ L)
 (hs:∀i τ L,i<n->W i τ L->g (.int (lo+i)) τ L fun τ2 L2=>tb { D with nx:=cz (W (i+1)),ct:=cz (W (i+1)),bk:=D.nx } τ2 L2) (hd:∀τ L,W n τ L->D.nx τ L):rS (ag lo n) (fun _=>True) g tb D τ L:=by
 refine wm ⟨W,h0,fun _ _ _ _=>trivial,fun i y τ L e w=>?_,fun τ L w=>hd τ L (by rw[kZ] at w;exact w)⟩;obtain⟨hi,rfl⟩:=vN e;exact hs i τ L hi w
theorem abp{a:Addr}{v:Y}{Q:YK}(e:L a=some (.lst (ys++[v])))(q:Q v (qg L a (.lst ys))):fO L (.ref a) (fun _=>qr τ L fun xs L2=>zA (.ref a) xs L2 Q):=by
 refine qb e (qk e ?_);have:(ys++[v])[(ys++[v]).length - 1]?=some v:=by simp
 rw[this,List.dropLast_concat];exact q
theorem wY{tb:wv}{a:Addr}(h:cA L (.ref a)=some ys)(W:Nat->jp->qm->Prop)(h0:W 0 τ L)(hk:∀i τ L',W i τ L'->L' a=L a)
 (hs:∀i y τ L,ys[i]?=some y->W i τ L->g y τ L fun τ2 L2=>tb { D with nx:=cz (W (i+1)),ct:=cz (W (i+1)),bk:=D.nx } τ2 L2) (hd:∀τ L,W ys.length τ L->D.nx τ L):
 qZ L a fun ys keep L1=>rS ys keep g tb D τ L1:=x4 (gf h) fun keep kp=>wm ⟨W,h0,fun i τ L' w=>kp L' (hk i τ L' w),hs,hd⟩
theorem bR{keep:qm->Prop}{Q:YK}(I:Nat->List Y->Prop)(hz:ys.length<sizeLine)(hk:keep L)(h0:I 0 [])
 (turn:∀(i:Nat) y zs,ys[i]?=some y->I i zs->g y (τ++List.replicate n none) L fun τ2 L2=>tc τ2 L2 fun b L3=>kh b (te τ2 L3 fun z L4=>cz (fun zs L'=>L'=L/\I (i+1) zs) (zs++[z]) L4) (cz (fun zs L'=>L'=L/\I (i+1) zs) zs L3))
 (hq:∀zs,I ys.length zs->∀p,L p=none->Q (.ref p) (qg L p (.lst zs))):wC ys keep n g tc te τ L Q:=by
 refine aah ⟨hz,fun i zs L'=>L'=L/\I i zs,⟨rfl,h0⟩,?_,?_,?_⟩
 ·rintro i zs L' ⟨rfl,_⟩;exact hk
 ·rintro i y zs L' ey ⟨rfl,hI⟩;exact turn i y zs ey hI
 ·rintro zs L' ⟨rfl,hI⟩ p hp;exact hq zs hI p hp
theorem oY{Q:YK}(I:Nat->List Y->Prop)(hz:m<sizeLine)(h0:I 0 [])
 (turn:∀(i:Nat) zs,i<m->I i zs->g (.int (lo+i)) (τ++List.replicate n none) L fun τ2 L2=>tc τ2 L2 fun b L3=>kh b (te τ2 L3 fun z L4=>cz (fun zs L'=>L'=L/\I (i+1) zs) (zs++[z]) L4) (cz (fun zs L'=>L'=L/\I (i+1) zs) zs L3))
 (hq:∀zs,I m zs->∀p,L p=none->Q (.ref p) (qg L p (.lst zs))):wC (ag lo m) (fun _=>True) n g tc te τ L Q:=by
 refine bR (keep:=fun _=>True) I (by rw[kZ];exact hz) trivial h0 (fun i y zs e hI=>?_) fun zs hI=>hq zs (by rw[kZ] at hI;exact hI);obtain⟨hi,rfl⟩:=vN e;exact turn i zs hi hI
theorem v0{ws:List α}{f:α->Y}{w:α}(h:ws[i]?=some w):g9 (ws.map f) (i:Int)=some (f w):=k7 (by rw[Al,h];rfl)
theorem afn{keep:qm->Prop}{Q:YK}(f:Y->Option Y)(hz:ys.length<sizeLine)(hk:keep L)
 (turn:∀(i:Nat) y (W:List Y->qm->Prop) zs,ys[i]?=some y->W (zs++(f y).toList) L->g y (τ++List.replicate n none) L fun τ2 L2=>tc τ2 L2 fun b L3=>kh b (te τ2 L3 fun z L4=>cz W (zs++[z]) L4) (cz W zs L3))
 (hq:∀p,L p=none->Q (.ref p) (qg L p (.lst (ys.filterMap f)))):wC ys keep n g tc te τ L Q:=by
 refine aah ⟨hz,fun i zs L'=>L'=L/\zs=(ys.take i).filterMap f,⟨rfl,by simp⟩,?_,?_,?_⟩
 ·rintro i zs L' ⟨rfl,_⟩;exact hk
 ·rintro i y zs L' ey ⟨rfl,rfl⟩;refine turn i y _ _ ey ⟨rfl,?_⟩;rw[Bq,ey,List.filterMap_append];congr 1
 ·rintro zs L' ⟨rfl,rfl⟩ p hp;rw[Bm];exact hq p hp
def xx(t:wv)(n:Nat)(ys:List Y)(L:qm)(Q:YK):Prop:=t { nx:=fun _ L'=>fN Q .non L',rt:=fN Q } (ys.map some++List.replicate (n - ys.length) none) L
theorem xr{Q:YK}(h:Q y L):fN Q y L:=⟨L,ED L,h⟩
theorem iy{Q:YK}(s:qj L L')(h:Q y L):fN Q y L':=⟨L,s,h⟩
theorem Fn3.never{P:Program}{w:World}{K:Ai}{k:Nat}{sp:jw}(no:∀ys L Q,¬sp ys L Q):Fn3 P w K mg base k f fd ps sp:=
 cO.never fun vs H Q E ⟨ys,L,Q3,_,_,z,_⟩=>no ys L Q3 z
theorem qj.upd{a:Addr}{o:LO}(s:qj L L')(h:L a=none):qj L (qg L' a o):=fun b u e=>by rw[qd (w5 e h)];exact s b u e
theorem qj.put{a:Addr}{o:LO}(s:qj L L')(h:L' a=some o):qj (qg L a o) L':=fun b u e=>by
 by_cases c:b=a
 ·subst c;rw[q9] at e;cases e;exact h
 ·rw[qd c] at e;exact s b u e
theorem rM{G:G3}{H:Hp}:∀ns:List Int,xo G H (ns.map Y.int) (ns.map V.int)
 |[]=>rfl
 |_::r=>⟨_,_,rfl,rfl,rM r⟩
end L3
namespace L2
open PySem PySem.Spec PyProof.Rows
section
variable {σ:L2.St} 
theorem mM(I:z9 X pins σ H s)(hf:∀b∈fp,H b=none)(k:∀b o,b∉fp->s.heap.get? b=some o->h'.get? b=some o):eV X.prog X.w H h':=fun b u e=>by
 refine(I.hok b u e).stay (fun c v hc q=>k c v (fun z=>?_) q) (fun _ q=>q) fun _ _ q=>q;have hn:=hf c z;rcases hc with w | w
 ·rw[w,e] at hn;cases hn
 ·rw[w] at hn;cases hn
theorem xE{fs:List Addr}(k:∀b o,b∉fp->h.get? b=some o->h'.get? b=some o):Un fs fp H H h h':=
 ⟨fun b o q _ _ x=>k b o x q,fun b o q _ _ x=>⟨o.slots,k b o x q⟩,fun _ _ _ n _=>n,fun b o q x=>⟨o,k b o x q⟩,fun _ _ q=>q,fun _ _ _ q=>q,fun b ps q=>⟨#[],by rw[q];simp⟩⟩
theorem z9.turnedL(I:z9 X pins σ H s)(k:∀b o,b∉fp->s.heap.get? b=some o->h'.get? b=some o)(hf:∀b∈fp,mR X pins H b)(ht:0<t':=by walk_at "t"):z9 X pins σ H { s with heap:=h',toks:=t' }:=
 I.call' (s':={ s with heap:=h',toks:=t' }) (ch:=fp) rfl (xE k) (mM I (fun b hb=>(hf b hb).1) k) I.bare fun b hb=>⟨(hf b hb).2.2.2.1,(hf b hb).2.1,(hf b hb).2.2.2.2.1,(hf b hb).2.2.2.2.2⟩
theorem z9.turnedN{a:Addr}{o:HO}(I:z9 X pins σ H s)(k:∀b o,b∉fp->s.heap.get? b=some o->h'.get? b=some o)(hf:∀b∈fp,mR X pins H b)(ha:s.heap.objs.size≤a)
 (new:xq X.prog X.w (upd H a o) h' a o) (ht:0<t':=by walk_at "t"):z9 X pins σ (upd H a o) { s with heap:=h',toks:=t' }:=by
 have hn:H a=none:=I.hok.fresh ha;have lt:∀b ob,s.heap.get? b=some ob->b≠a:=fun b ob q=>A3 (AO (Heap.lt_size q) ha);refine I.call' (s':={ s with heap:=h',toks:=t' }) (ch:=fp) rfl ?_ ?_ I.bare fun b hb=>⟨(hf b hb).2.2.2.1,(hf b hb).2.1,(hf b hb).2.2.2.2.1,(hf b hb).2.2.2.2.2⟩
 ·exact⟨fun b ob q _ _ x=>k b ob x q,fun b ob q _ _ x=>⟨ob.slots,k b ob x q⟩,fun b ob q n _=>by rw[qu (lt b ob q)];exact n,fun b ob q x=>⟨ob,k b ob x q⟩,
   fun b xs q=>by rw[qu (j7 q hn)];exact q,fun b ob u q=>by rw[qu (j7 q hn)];exact q,fun b ps q=>⟨#[],by rw[qu (j7 q hn),q];simp⟩⟩
 ·intro b u e;by_cases hb:b=a
  ·subst hb;rw[jd] at e;cases e;exact new
  ·rw[qu hb] at e;have ok:=mM I (h':=h') (fun b hb=>(hf b hb).1) k b u e;exact ok.stay (fun _ _ _ q=>q) (fun c q=>by rw[qu (j7 q hn)];exact q) fun c xs q=>by rw[qu (j7 q hn)];exact q
end
def Ite(K:Ai)(a:Addr):It:=
 ⟨fun i H=>∃xs x,aE K H a xs/\xs[i]?=some x,fun i H v H'=>∃p x,H p=none/\v=.ref p/\H'=upd H p (.tup [.int i,x])/\∀xs,aE K H a xs->xs[i]?=some x,fun i H=>∃xs,aE K H a xs/\xs.length≤i⟩
theorem yO{P:Program}{w:World}{K:Ai}(a e it:Addr)(hne:e≠it):yb P w K (.Tuple elts x1 tp) (Ite K a) [e,it] e (fun i h=>(∃old,IsEnum h e it i old)/\h.IsListIter it a i) where
 mem:=by simp
 obj:=fun i h ⟨⟨old,he⟩,hi⟩ b hb=>by
  rcases Av.mp hb with rfl | hb
  ·exact⟨_,he,fun v z=>by cases z⟩
  ·cases Aw.mp hb;obtain⟨o,ho,hc,hd⟩:=hi;exact⟨o,ho,fun v z=>by rw[hd] at z;cases z⟩
 keep:=fun i h h' ⟨⟨old,he⟩,hi⟩ k=>⟨⟨old,k e (by simp) _ he⟩,hi.at fun o q=>k it (by simp) o q⟩
 item:=by
  intro X hP hw hK hc i pins s σ H E I hf ⟨⟨old,he⟩,hi⟩ hg;subst hP hw hK;obtain⟨xs,x,hq,hx⟩:=hg;obtain⟨its,rv,p,hz⟩:=I.list hq;obtain⟨u,hu,ru⟩:=rv.get hx;refine wpAny_pyNext_enum_item he hi p.isList (x:=u) (by simpa using hu) hne fun h1 heo hi1 ht hz1 hk=>⟨.ref s.heap.objs.size,rfl,wpAny_letOwnedTupleGo_enum heo fun h2 he2 hs2=>?_⟩;have el:e<s.heap.objs.size:=Heap.lt_size he;have il:it<s.heap.objs.size:=by obtain⟨o,ho,_⟩:=hi;exact Heap.lt_size ho
  have kk:∀b o,b∉[e,it]->s.heap.get? b=some o->h2.get? b=some o:=fun b o nb q=>by have n1:b≠e:=fun z=>nb (by simp[z]);have n2:b≠it:=fun z=>nb (by simp[z]);exact hs2.extBut b o n1 (hk b o n1 n2 q)
  have tg:h2.get? s.heap.objs.size=some { cls:=.type "tuple",data:=.seq #[.int i s.toks,u] }:=hs2.extBut _ _ (C2 el) ht;refine⟨.ref s.heap.objs.size,upd H s.heap.objs.size (.tup [.int i,x]),?_,rfl,⟨_,x,I.hok.fresh (Ao _),rfl,rfl,fun ys hy=>by rw[I.list_inj hy hq];exact hx⟩,⟨⟨_,he2⟩,hi1.at fun o q=>hs2.extBut _ _ (AN hne) q⟩,fun b hb=>?_⟩
  ·exact I.turnedN (t':=s.toks+1) kk hf (Ao _) ⟨by show 2≤sizeLine;decide,[.int i s.toks,u],.cons ⟨_,rfl⟩ (.cons ru .nil),⟨_,tg,rfl,_,rfl⟩⟩
  ·have hb':b<s.heap.objs.size:=by rcases Av.mp hb with rfl | hb;exact el;cases Aw.mp hb;exact il
   rw[qu (A3 hb')];exact(hf b hb).1
 done:=by intro X hP hw hK hc i pins s σ H E I hf ⟨⟨old,he⟩,hi⟩ hg;subst hP hw hK;obtain⟨xs,hq,hx⟩:=hg;obtain⟨its,rv,p,hz⟩:=I.list hq;have hl:=rv.length;exact wpAny_pyNext_enum_end (I.ok.hd hc) he hi p.isList (by simp;omega) fun h1 eb=>⟨rfl,I.turnedL (t':=s.toks) (fp:=[e,it]) (fun b o nb q=>eb b o (fun z=>nb (by simp[z])) q) hf⟩
 self:=fun _ _ _ _ _ ⟨⟨_,he⟩,_⟩ h=>wpAny_pyIter_enum he h
def am8(K:Ai)(ta:TA):TI:=fun σ H R=>ta σ H fun vs H1=>∃a,vs=[.ref a]/\(∃xs,aE K H1 a xs)/\R (Ite K a) H1
theorem qE:bootBuiltins "enumerate" = some (.type "enumerate"):=by decide +kernel
theorem aeb{a:Expr}{ta:TA}(hg:Gl X "enumerate")(hm:X.mg "enumerate" = none)(ha:PA X [a] ta)(hs:starEach [a] X.env=[(false,eval a X.env)]:=by rfl):
 PI X (.Tuple elts x1 tp) (.Call (.Name "enumerate" p) [a] [] pos) (am8 X.K ta):=by
 intro pins s σ H R I h;refine Call_ (cY I hg hm qE (BY (va (ha pos pins s σ H _ I h) fun us s1 ⟨vs,H1,I1,r1,q1⟩=>?_) hs rfl));obtain⟨l,e,⟨xs,hq⟩,q⟩:=q1;subst e;obtain⟨u,rfl,ru⟩:=oW r1;cases ru;obtain⟨its,rv,pl,hz⟩:=I1.list hq;refine call_enumerate_list pl.isList fun h1 he hi hsz hk=>?_;have I2:z9 X pins σ H1 { s1 with heap:=h1 }:=I1.kept (t':=s1.toks) hk;refine wpAny_pyIter_enum (s:={ s1 with heap:=h1 }) he ?_;refine⟨s1.heap.objs.size+1,[s1.heap.objs.size+1,s1.heap.objs.size],_,_,H1,rfl,I2,yO l _ _ (Nat.succ_ne_self _),⟨⟨_,he⟩,hi⟩,fun b hb=>?_,q⟩;have hb':s1.heap.objs.size≤b:=by rcases Av.mp hb with rfl | hb;exact Cp _;cases Aw.mp hb;exact Ao _
 exact I1.fpOk hb' (I1.hok.fresh hb')
end L2
namespace L3
open PySem L2
theorem i9{a:Addr}{keep:qm->Prop}(h:∀H L,jf H₀ H->jo G H L->keep L->∃xs,aE G.K H a xs/\xo G H ys xs):hX G H₀ (Ite G.K a) (ys.zipIdx.map fun p=>Y.tup [.int (p.2:Nat),p.1]) keep where
 go:=fun i H L t rl kp hi=>by
  obtain⟨xs,sq,r⟩:=h H L t rl kp;have:i<xs.length:=by rw[<-r.length];simpa using hi
  exact⟨xs,xs[i],sq,Aj this⟩
 yld:=fun i H L x H' y t rl kp hy ⟨p,z,hp,e1,e2,f⟩=>by subst e1 e2;obtain⟨xs,sq,r⟩:=h H L t rl kp;rw[Al,List.getElem?_zipIdx] at hy;obtain⟨⟨y',j⟩,ey,e3⟩:=Ap.mp hy;obtain⟨y'',ey',e4⟩:=Ap.mp ey;cases e4;subst e3;obtain⟨x',e',rv⟩:=r.get ey';have:=f xs sq;rw[e'] at this;cases this;refine⟨EE hp,rl.skip hp,p,_,rfl,dF.of jd,⟨_,_,rfl,?_,_,_,rfl,rv.ts (EE hp),rfl⟩⟩;show V.int _=V.int _;congr 1;simp
 stop:=fun H L t rl kp=>by obtain⟨xs,sq,r⟩:=h H L t rl kp;exact⟨xs,sq,by rw[Ae,List.length_zipIdx,r.length];exact Ao _⟩
def lg(ys:List Y):List Y:=ys.zipIdx.map fun p=>Y.tup [.int (p.2:Nat),p.1]
theorem gM(h:(lg ys)[i]?=some y):∃z,ys[i]?=some z/\y=.tup [.int i,z]:=by unfold lg at h;rw[Al,List.getElem?_zipIdx] at h;obtain⟨⟨y',j⟩,ey,e3⟩:=Ap.mp h;obtain⟨y'',ey',e4⟩:=Ap.mp ey;cases e4;exact⟨y',ey',by rw[<-e3];simp⟩
theorem eE(ys:List Y):(lg ys).length=ys.length:=by simp[lg]
def lZ(tl:xp)(τ:jp)(L:qm)(R:List Y->(qm->Prop)->qm->Prop):Prop:=tl τ L fun x L1=>match x with
 |.ref a=>qZ L1 a fun ys keep L=>R (lg ys) keep L
 |.sq ys=>R (lg ys) (fun _=>True) L1
 |_=>False
theorem jE{a:Expr}(hg:Gl X "enumerate")(hm:X.mg "enumerate" = none)(ha:QE X a te)(hs:starEach [a] X.env=[(false,eval a X.env)]:=by rfl)
 (hs2:starEach [a] X.env=(false,eval a X.env)::starEach [] X.env:=by rfl):QI X (.Tuple elts x1 tp) (.Call (.Name "enumerate" p) [a] [] pos) (lZ te):=PI.imp (aeb hg hm (aU ha fG hs2) hs) fun σ H R ⟨τ,L,R3,rs,rl,z,k⟩=>by
 refine⟨τ,L,_,rs,rl,z,fun v H1 y L1 t1 rl1 rv1 z1=>?_⟩;cases y with
 |ref a=>
  obtain⟨ys,keep,es,kp,hk,z2⟩:=s9 z1;have hy:∀H L,jf H1 H->jo X.g3 H L->keep L->∃xs,aE X.K H a xs/\xo X.g3 H ys xs:=fun H L _ rl e=>dP rl (hk L e);obtain⟨xs,sq,_⟩:=hy H1 L1 (EC _) rl1 kp;cases rv1;exact⟨a,rfl,⟨xs,sq⟩,k _ H1 _ _ L1 t1 rl1 (i9 hy) z2⟩
 |sq ys=>
  obtain⟨a,xs,e,sf,r⟩:=rv1;subst e;exact⟨a,rfl,⟨xs,sf.sq⟩,k _ H1 _ (fun _=>True) L1 t1 rl1 (i9 fun H L t _ _=>⟨xs,(sf.ts t).sq,r.ts t⟩) z1⟩
 |_=>exact z1.elim
end L3
namespace L2
open PySem PySem.Spec PyProof.Rows
def gZ(t:Bool)(h:Heap)(it l:Addr)(k:Nat):Prop:=match t with
 |false=>h.IsListIter it l k
 |true=>h.IsTupleIter it l k
def oC(t:Bool)(h:Heap)(l:Addr)(xs:Array Value):Prop:=match t with
 |false=>h.IsList l xs
 |true=>h.IsTuple l xs
theorem gZ.on{k:Nat}(x:gZ t h it l k)(e:∀o,h.get? it=some o->h'.get? it=some o):gZ t h' it l k:=by cases t with|false=>exact Heap.IsListIter.at x e|true=>exact Heap.IsTupleIter.at x e
theorem oC.on{xs:Array Value}(x:oC t h l xs)(e:∀o,h.get? l=some o->h'.get? l=some o):oC t h' l xs:=by cases t with|false=>exact Heap.IsList.at x e|true=>exact Heap.IsTuple.at x e
theorem gZ.ob{k:Nat}(x:gZ t h it l k):∃o,h.get? it=some o/\∀v,o.data≠.cell v:=by
 cases t with
 |false=>obtain⟨o,e,c,d⟩:=x;exact⟨o,e,fun v z=>by rw[d] at z;cases z⟩
 |true=>obtain⟨o,e,c,d⟩:=x;exact⟨o,e,fun v z=>by rw[d] at z;cases z⟩
theorem wI(l:Addr):¬((Value.ref l==Value.none)=true):=AE
section
variable {w:World} 
theorem u5{xs:Array Value}{x:Value}(hi:s.heap.IsTupleIter it l i)(hl:s.heap.IsTuple l xs)(hx:xs[i]?=some x)
 (q:∀h',h'.IsTupleIter it l (i+1)->Heap.SameBut it s.heap h'->Q x { s with heap:=h' }):wpAny (model prog w) A (Builtin.SmallTypes.nextOf (.ref it)) Q E s:=by
 obtain⟨o,oi,ci,di⟩:=id hi;obtain⟨u,ul,_,n,dl⟩:=hl;unfold Builtin.SmallTypes.nextOf;refine Aa (wpAny_callSpecial?_slot (name:="__next__") hi.typeIs F.slot_tuple_iterator_next (wpAny_call_entry F.slot_tuple_iterator_next hi.typeIs F.entry_tuple_iterator_next ?_ (F.args_tuple_iterator_next_1 _)));refine Aa (m:=field (.ref it) 0) (Bc oi di (x:=.ref l) rfl ?_);rw[Ay (wI l)];refine Aa (m:=field (.ref it) 1) (Bc oi di (x:=.int i 0) rfl (Aa (m:=seqItems? (.ref l)) (BD ul dl ?_)));simp only[BU,hx];refine Aa (wpAny_setField oi di (by simp) (Ag ⟨x,rfl,Ag (q _ ⟨_,Heap.get?_update_self _ oi (Obj.isFreed_of_fields (Obj.data_mapFields di _)),(Obj.cls_mapFields ..).trans ci,?_⟩ (Heap.SameBut.update ..))⟩));rw[Obj.data_mapFields di];simp[rawInt]
theorem yc{xs:Array Value}(hh:A.handled=none)(hi:s.heap.IsTupleIter it l i)(hl:s.heap.IsTuple l xs)(hx:xs[i]?=none)
 (q:∀h' e,Heap.ExtBut it s.heap h'->(∃o,h'.get? e=some o/\o.cls=.type "StopIteration")->E (.ref e) { s with heap:=h' }):wpAny (model prog w) A (Builtin.SmallTypes.nextOf (.ref it)) Q E s:=by
 obtain⟨o,oi,ci,di⟩:=id hi;obtain⟨u,ul,_,n,dl⟩:=hl;unfold Builtin.SmallTypes.nextOf;refine Aa (wpAny_callSpecial?_slot (name:="__next__") hi.typeIs F.slot_tuple_iterator_next (wpAny_call_entry F.slot_tuple_iterator_next hi.typeIs F.entry_tuple_iterator_next ?_ (F.args_tuple_iterator_next_1 _)));refine Aa (m:=field (.ref it) 0) (Bc oi di (x:=.ref l) rfl ?_);rw[Ay (wI l)];refine Aa (m:=field (.ref it) 1) (Bc oi di (x:=.int i 0) rfl (Aa (m:=seqItems? (.ref l)) (BD ul dl ?_)));simp only[BU,hx];refine Aa (Bt (Aa (wpAny_setField oi di (by simp) ?_)));refine Aa (m:=newExc (.type "StopIteration") []) ?_;simp only[newExc,newTuple];refine Aa (Bk (Aa (m:=firstArgMember _ _) (wpAny_of_eq (a:=Value.none) (by first | rfl | (simp only[firstArgMember];rfl)) (Bk ?_ (by size_fits)))) (by size_fits));simp only[raiseNew];refine Aa (wpAny_handled ?_)
 first | rw[show A.in1.handled=none from hh] | rw[hh]
 exact Aa (Ag (wpAny_throw (q _ _ (((Heap.SameBut.update ..).extBut.push _).push _) ⟨_,Heap.get?_push_size _ rfl,rfl⟩)))
theorem gZ.next{xs:Array Value}{x:Value}(hi:gZ t s.heap it l i)(hl:oC t s.heap l xs)(hx:xs[i]?=some x)
 (q:∀h',gZ t h' it l (i+1)->Heap.SameBut it s.heap h'->Q x { s with heap:=h' }):wpAny (model prog w) A (Builtin.SmallTypes.nextOf (.ref it)) Q E s:=by
 cases t with|false=>exact wpAny_nextOf_list_item hi hl hx q|true=>exact u5 hi hl hx q
theorem gZ.stop{xs:Array Value}(hh:A.handled=none)(hi:gZ t s.heap it l i)(hl:oC t s.heap l xs)(hx:xs[i]?=none)
 (q:∀h' e,Heap.ExtBut it s.heap h'->(∃o,h'.get? e=some o/\o.cls=.type "StopIteration")->E (.ref e) { s with heap:=h' }):wpAny (model prog w) A (Builtin.SmallTypes.nextOf (.ref it)) Q E s:=by
 cases t with|false=>exact wpAny_nextOf_list_end hh hi hl hx q|true=>exact yc hh hi hl hx q
structure ZAp(z TI TO i1 i2 l1 l2:Addr):Prop where
 n1:TI≠z
 n2:TO≠z
 n3:i1≠z
 n4:i2≠z
 n5:TO≠i1
 n6:TO≠i2
 n7:i1≠i2
 n8:l1≠z
 n9:l1≠TO
 n10:l1≠i1
 n11:l1≠i2
 n12:l2≠z
 n13:l2≠TO
 n14:l2≠i1
 n15:l2≠i2
theorem aam{z TI TO i1 i2:Addr}{k:Nat}{xs ys:Array Value}{x y a b:Value}(D:ZAp z TI TO i1 i2 l1 l2)(hz:IsZip s.heap z TI TO .none)(hI:IsPair s.heap TI (.ref i1) (.ref i2))(hO:IsPair s.heap TO a b)
 (h1:gZ t1 s.heap i1 l1 k) (h2:gZ t2 s.heap i2 l2 k) (q1:oC t1 s.heap l1 xs) (q2:oC t2 s.heap l2 ys) (hx:xs[k]?=some x) (hy:ys[k]?=some y)
 (q:∀h',IsZip h' z TI TO (rawInt s.heap.objs.size)->IsPair h' TO x y->gZ t1 h' i1 l1 (k+1)->gZ t2 h' i2 l2 (k+1)->IsPair h' s.heap.objs.size x y->
  (∀c o,c≠z->c≠TO->c≠i1->c≠i2->s.heap.get? c=some o->h'.get? c=some o)->Q (.ref s.heap.objs.size) { s with heap:=h' }):
 wpAny (model prog w) A (Builtin.«zip.__next__» ⟨[.ref z],[]⟩) (fun xr s'=>∃v,xr=.done (.ret v)/\Q v s') E s:=by
 refine Aa (m:=field (.ref z) 2) (Bc hz rfl (x:=.bool false) rfl (Aa (m:=field (.ref z) 3) (Bc hz rfl (x:=.ref TI) rfl (Aa (BD hI rfl ?_)))));refine Aa (m:=Builtin.SmallTypes.ownedTupleIsFree (.ref z)) ?_;unfold Builtin.SmallTypes.ownedTupleIsFree;refine Aa (Bc hz rfl (x:=.none) rfl (Ag ?_));simp only[if_true];refine Aa (Bt (Aa (Bc hz rfl (x:=.ref TO) rfl (Aa (wpAny_setField_rec hz (by simp) fun g1 z1 e1=>?_)))));have z1':IsZip g1 z TI TO .ellipsis:=z1;refine Aa ?_;simp only[DS,List.zipIdx_nil,CU,Ek];refine Aa (Aa (wpAny_onRaise (Aa (m:=Builtin.SmallTypes.nextOf (.ref i1)) ((h1.on fun o e=>e1.extBut _ _ D.n3 e).next (q1.on fun o e=>e1.extBut _ _ D.n8 e) hx fun g2 h12 e2=>Ag ?_))));have O2:IsPair g2 TO a b:=e2.extBut _ _ D.n5 (e1.extBut _ _ D.n2 hO);refine Aa (BD O2 rfl (Aa (wpAny_updateSeq_pair O2 fun g3 O3 e3=>Aa (wpAny_letGo (Ag ?_)))));have O3':IsPair g3 TO x b:=O3;refine Aa (Aa (wpAny_onRaise (Aa (m:=Builtin.SmallTypes.nextOf (.ref i2)) (gZ.next (l:=l2) (i:=k) (xs:=ys) (x:=y) (t:=t2) (h2.on fun o e=>e3.extBut _ _ (AN D.n6) (e2.extBut _ _ (AN D.n7) (e1.extBut _ _ D.n4 e)))
  (q2.on fun o e=>e3.extBut _ _ D.n13 (e2.extBut _ _ D.n14 (e1.extBut _ _ D.n12 e))) hy fun g4 h24 e4=>Ag ?_))))
 have O4:IsPair g4 TO x b:=e4.extBut _ _ D.n6 O3';refine Aa (BD O4 rfl (Aa (wpAny_updateSeq_pair O4 fun g5 O5 e5=>Aa (wpAny_letGo (Ag (Ag ?_))))));have O5':IsPair g5 TO x y:=O5;refine Aa (BD O5' rfl (Aa (wpAny_newTuple ?_)));have sz:g5.objs.size=s.heap.objs.size:=by rw[e5.1,e4.1,e3.1,e2.1,e1.1]
 have z5:IsZip g5 z TI TO .ellipsis:=e5.extBut _ _ (AN D.n2) (e4.extBut _ _ (AN D.n4) (e3.extBut _ _ (AN D.n2) (e2.extBut _ _ (AN D.n3) z1')));have k5:∀c o,c≠z->c≠TO->c≠i1->c≠i2->s.heap.get? c=some o->g5.get? c=some o:=fun c o a1 a2 a3 a4 e=>e5.extBut _ _ a2 (e4.extBut _ _ a4 (e3.extBut _ _ a2 (e2.extBut _ _ a3 (e1.extBut _ _ a1 e))));have zl:z<g5.objs.size:=Heap.lt_size z5;refine Aa (m:=Builtin.SmallTypes.ownedTupleHandOut (.ref z) (.ref g5.objs.size)) ?_;unfold Builtin.SmallTypes.ownedTupleHandOut;refine Aa (wpAny_setField_rec (show IsZip (g5.push { cls:=.type "tuple",data:=.seq #[x,y] }) z TI TO .ellipsis from Heap.get?_push_of_some _ z5) (by simp) fun g7 z7 e7=>?_);have z7':IsZip g7 z TI TO (rawInt g5.objs.size):=z7;refine wpAny_setField_rec z7' (by simp) fun g8 z8 e8=>Ag ⟨_,rfl,?_⟩;have z8':IsZip g8 z TI TO (rawInt g5.objs.size):=z8;have up:∀c o,c≠z->g5.get? c=some o->g8.get? c=some o:=fun c o a1 e=>e8.extBut _ _ a1 (e7.extBut _ _ a1 (Heap.get?_push_of_some _ e));have T8:IsPair g8 g5.objs.size x y:=e8.extBut _ _ (C2 zl) (e7.extBut _ _ (C2 zl) (Heap.get?_push_size _ rfl));have xr:=q g8 (by rw[<-sz];exact z8') (up _ _ D.n2 O5') (h12.on fun o e=>up _ o D.n3 (e5.extBut _ _ (AN D.n5) (e4.extBut _ _ D.n7 (e3.extBut _ _ (AN D.n5) e)))) (h24.on fun o e=>up _ o D.n4 (e5.extBut _ _ (AN D.n6) e))
  (by rw[<-sz];exact T8) fun c o a1 a2 a3 a4 e=>up c o a1 (k5 c o a1 a2 a3 a4 e)
 show Q (.ref g5.objs.size) _;rw[sz];exact xr
theorem aba{z TI TO i1 i2:Addr}{k:Nat}{xs ys:Array Value}{a b:Value}{Q:Fin->Shared->Prop}(hh:A.handled=none)(D:ZAp z TI TO i1 i2 l1 l2)(hz:IsZip s.heap z TI TO .none)(hI:IsPair s.heap TI (.ref i1) (.ref i2))(hO:IsPair s.heap TO a b)
 (h1:gZ t1 s.heap i1 l1 k) (h2:gZ t2 s.heap i2 l2 k) (q1:oC t1 s.heap l1 xs) (q2:oC t2 s.heap l2 ys) (hend:xs[k]?=none\/ys[k]?=none)
 (q:∀h' e,(∀c o,c≠z->c≠TO->c≠i1->c≠i2->s.heap.get? c=some o->h'.get? c=some o)->(∃o,h'.get? e=some o/\o.cls=.type "StopIteration")->E (.ref e) { s with heap:=h' }):
 wpAny (model prog w) A (Builtin.«zip.__next__» ⟨[.ref z],[]⟩) Q E s:=by
 refine Aa (m:=field (.ref z) 2) (Bc hz rfl (x:=.bool false) rfl (Aa (m:=field (.ref z) 3) (Bc hz rfl (x:=.ref TI) rfl (Aa (BD hI rfl ?_)))));refine Aa (m:=Builtin.SmallTypes.ownedTupleIsFree (.ref z)) ?_;unfold Builtin.SmallTypes.ownedTupleIsFree;refine Aa (Bc hz rfl (x:=.none) rfl (Ag ?_));simp only[if_true];refine Aa (Bt (Aa (Bc hz rfl (x:=.ref TO) rfl (Aa (wpAny_setField_rec hz (by simp) fun g1 z1 e1=>?_)))));have z1':IsZip g1 z TI TO .ellipsis:=z1;refine Aa ?_;simp only[DS,List.zipIdx_nil,CU,Ek];refine Aa (Aa (wpAny_onRaise (Aa (m:=Builtin.SmallTypes.nextOf (.ref i1)) ?_)));have h1':=h1.on fun o e=>e1.extBut _ _ D.n3 e;have q1':=q1.on fun o e=>e1.extBut _ _ D.n8 e;cases hx:xs[k]? with
 |none=>
  refine gZ.stop hh h1' q1' hx fun g2 e s2 he=>?_;obtain⟨oe,ge,ce⟩:=he;have z2:IsZip g2 z TI TO .ellipsis:=s2 _ _ (AN D.n3) z1';have nz:e≠z:=fun w=>by subst w;rw[z2] at ge;cases ge;simp at ce
  exact wpAny_setField_rec z2 (by simp) fun g3 _ s3=>q g3 e (fun c o a1 _ a3 _ w=>s3.extBut _ _ a1 (s2 _ _ a3 (e1.extBut _ _ a1 w))) ⟨oe,s3.extBut _ _ nz ge,ce⟩
 |some x=>
  have hy:ys[k]?=none:=by rcases hend with h | h;rw[hx] at h;cases h;exact h
  refine gZ.next h1' q1' hx fun g2 h12 e2=>Ag ?_;have O2:IsPair g2 TO a b:=e2.extBut _ _ D.n5 (e1.extBut _ _ D.n2 hO);refine Aa (BD O2 rfl (Aa (wpAny_updateSeq_pair O2 fun g3 O3 e3=>Aa (wpAny_letGo (Ag ?_)))));refine Aa (Aa (wpAny_onRaise (Aa (m:=Builtin.SmallTypes.nextOf (.ref i2)) (gZ.stop (t:=t2) (l:=l2) (i:=k) (xs:=ys) hh (h2.on fun o e=>e3.extBut _ _ (AN D.n6) (e2.extBut _ _ (AN D.n7) (e1.extBut _ _ D.n4 e)))
   (q2.on fun o e=>e3.extBut _ _ D.n13 (e2.extBut _ _ D.n14 (e1.extBut _ _ D.n12 e))) hy fun g4 e s4 he=>?_))))
  obtain⟨oe,ge,ce⟩:=he;have z4:IsZip g4 z TI TO .ellipsis:=s4 _ _ (AN D.n4) (e3.extBut _ _ (AN D.n2) (e2.extBut _ _ (AN D.n3) z1'));have nz:e≠z:=fun w=>by subst w;rw[z4] at ge;cases ge;simp at ce
  exact wpAny_setField_rec z4 (by simp) fun g5 _ s5=>q g5 e (fun c o a1 a2 a3 a4 w=>s5.extBut _ _ a1 (s4 _ _ a4 (e3.extBut _ _ a2 (e2.extBut _ _ a3 (e1.extBut _ _ a1 w))))) ⟨oe,s5.extBut _ _ nz ge,ce⟩
end
def ad4(t:Bool):String:=if t then "tuple_iterator" else "list_iterator"
section
variable {w:World} 
theorem oC.iter{xs:Array Value}(hl:oC t s.heap l xs)(q:Q (.ref s.heap.objs.size) { s with heap:=s.heap.push { cls:=.type (ad4 t),data:=.fields #[.ref l,.int 0 0] } }):wpAny (model prog w) A (pyIter (.ref l)) Q E s:=by cases t with|false=>exact wpAny_pyIter_list hl q|true=>exact wpAny_pyIter_tuple hl q
end
theorem gZ.new(e:h.get? it=some { cls:=.type (ad4 t),data:=.fields #[.ref l,.int 0 0] }):gZ t h it l 0:=by cases t with|false=>exact⟨_,e,rfl,rfl⟩|true=>exact⟨_,e,rfl,rfl⟩
abbrev zh1(t1:Bool)(h:Heap)(l1:Addr):Heap:=h.push { cls:=.type (ad4 t1),data:=.fields #[.ref l1,.int 0 0] }
abbrev zh2(t1 t2:Bool)(h:Heap)(l1 l2:Addr):Heap:=(zh1 t1 h l1).push { cls:=.type (ad4 t2),data:=.fields #[.ref l2,.int 0 0] }
abbrev zh3(t1 t2:Bool)(h:Heap)(l1 l2:Addr):Heap:=(zh2 t1 t2 h l1 l2).push { cls:=.type "tuple",data:=.seq #[.ref h.objs.size,.ref (zh1 t1 h l1).objs.size] }
abbrev zh4(t1 t2:Bool)(h:Heap)(l1 l2:Addr):Heap:=(zh3 t1 t2 h l1 l2).push { cls:=.type "tuple",data:=.seq #[.none,.none] }
abbrev zh5(t1 t2:Bool)(h:Heap)(l1 l2:Addr):Heap:=(zh4 t1 t2 h l1 l2).push { cls:=.type "zip",data:=.fields #[.none,.bool false,.bool false,.ref (zh2 t1 t2 h l1 l2).objs.size,.ref (zh3 t1 t2 h l1 l2).objs.size] }
theorem uv(t1 t2:Bool)(l1 l2:Addr)(xs ys:Array Value):Meets (Builtin.«zip.__new__» ⟨[.type "zip",.ref l1,.ref l2],[]⟩) (fun _ R s=>oC t1 s.heap l1 xs/\oC t2 s.heap l2 ys/\R (.ok (.ret (.ref (zh4 t1 t2 s.heap l1 l2).objs.size))) { s with heap:=zh5 t1 t2 s.heap l1 l2 }):=
 .of_wp fun prog w A R s h=>by
  obtain⟨hp,g,d,tk,os⟩:=s;obtain⟨q1,q2,h⟩:=h;have hsub:=sub_zip;have a1:oC t1 (Shared.heap ⟨hp,g,d,tk,os⟩) l1 xs:=q1;have a2:oC t2 (Shared.heap ⟨hp.push { cls:=.type (ad4 t1),data:=.fields #[.ref l1,.int 0 0] },g,d,tk,os⟩) l2 ys:=q2.on fun o e=>Heap.get?_push_of_some _ e
  wp_walk using oC.iter a1,oC.iter a2
  exact⟨_,rfl,h⟩
theorem zM{w:World}{xs ys:Array Value}(q1:oC t1 s.heap l1 xs)(q2:oC t2 s.heap l2 ys)
 (q:∀h',IsZip h' (s.heap.objs.size+4) (s.heap.objs.size+2) (s.heap.objs.size+3) .none->IsPair h' (s.heap.objs.size+2) (.ref s.heap.objs.size) (.ref (s.heap.objs.size+1))->IsPair h' (s.heap.objs.size+3) .none .none->
  gZ t1 h' s.heap.objs.size l1 0->gZ t2 h' (s.heap.objs.size+1) l2 0->(∀c o,s.heap.get? c=some o->h'.get? c=some o)->Q (.ref (s.heap.objs.size+4)) { s with heap:=h' }):
 wpAny (model prog w) A (call (.type "zip") [.ref l1,.ref l2]) Q E s:=by
 refine callType_new F.called_zip (by decide) (F.typeCall_zip_2 _ _) (F.newCall_zip_2 _ _) (fun obj=>F.args_object_init_3 obj _ _) F.entry_zip_new (uv t1 t2 l1 l2 xs ys) ⟨q1,q2,?_⟩;have s1:(zh1 t1 s.heap l1).objs.size=s.heap.objs.size+1:=Heap.size_push ..;have s2:(zh2 t1 t2 s.heap l1 l2).objs.size=s.heap.objs.size+2:=by rw[Heap.size_push,s1]
 have s3:(zh3 t1 t2 s.heap l1 l2).objs.size=s.heap.objs.size+3:=by rw[Heap.size_push,s2]
 have s4:(zh4 t1 t2 s.heap l1 l2).objs.size=s.heap.objs.size+4:=by rw[Heap.size_push,s3]
 have g5:(zh5 t1 t2 s.heap l1 l2).get? (zh4 t1 t2 s.heap l1 l2).objs.size=some _:=Heap.get?_push_size _ rfl;have g4:(zh5 t1 t2 s.heap l1 l2).get? (zh3 t1 t2 s.heap l1 l2).objs.size=some _:=Heap.get?_push_of_some _ (Heap.get?_push_size _ rfl);have g3:(zh5 t1 t2 s.heap l1 l2).get? (zh2 t1 t2 s.heap l1 l2).objs.size=some _:=Heap.get?_push_of_some _ (Heap.get?_push_of_some _ (Heap.get?_push_size _ rfl));have g2:(zh5 t1 t2 s.heap l1 l2).get? (zh1 t1 s.heap l1).objs.size=some _:=Heap.get?_push_of_some _ (Heap.get?_push_of_some _ (Heap.get?_push_of_some _ (Heap.get?_push_size _ rfl)));have g1:(zh5 t1 t2 s.heap l1 l2).get? s.heap.objs.size=some _:=Heap.get?_push_of_some _ (Heap.get?_push_of_some _ (Heap.get?_push_of_some _ (Heap.get?_push_of_some _ (Heap.get?_push_size _ rfl))));show _/\_;rw[s2,s3,s4] at g5;rw[s1,s2] at g3;rw[s3] at g4;rw[s1] at g2;rw[s4];exact⟨⟨_,g5,rfl⟩,q _ g5 g3 g4 (gZ.new g1) (gZ.new g2) fun c o e=>Heap.get?_push_of_some _ (Heap.get?_push_of_some _ (Heap.get?_push_of_some _ (Heap.get?_push_of_some _ (Heap.get?_push_of_some _ e))))⟩
def Sq(t:Bool)(K:Ai)(H:Hp)(a:Addr)(xs:List V):Prop:=match t with
 |false=>aE K H a xs
 |true=>dF K H a xs
section
variable {σ:L2.St} 
theorem z9.seq{a:Addr}(I:z9 X pins σ H s)(h:Sq t X.K H a xs):∃its:List Value,zp xs its/\oC t s.heap a its.toArray/\xs.length≤sizeLine:=by
 cases t with
 |false=>obtain⟨its,v,p,z⟩:=I.list h;exact⟨its,v,p.isList,z⟩
 |true=>obtain⟨its,v,p,z⟩:=I.tuple h;exact⟨its,v,p,z⟩
theorem z9.seq_inj{a:Addr}{ys:List V}(I:z9 X pins σ H s)(h:Sq t X.K H a xs)(h':Sq t X.K H a ys):xs=ys:=by cases t with|false=>exact I.list_inj h h'|true=>exact I.tuple_inj h h'
end
def Itz(t1 t2:Bool)(K:Ai)(a b:Addr):It:=
 ⟨fun i H=>∃xs ys x y,Sq t1 K H a xs/\Sq t2 K H b ys/\xs[i]?=some x/\ys[i]?=some y,
  fun i H v H'=>∃p x y,H p=none/\v=.ref p/\H'=upd H p (.tup [x,y])/\(∀xs,Sq t1 K H a xs->xs[i]?=some x)/\∀ys,Sq t2 K H b ys->ys[i]?=some y,
  fun i H=>∃xs ys,Sq t1 K H a xs/\Sq t2 K H b ys/\(xs.length≤i\/ys.length≤i)⟩
theorem ad7{P:Program}{w:World}{K:Ai}(a b z TI TO i1 i2:Addr)(D:ZAp z TI TO i1 i2 a b)(d1:TI≠TO)(d2:TI≠i1)(d3:TI≠i2):
 yb P w K (.Tuple elts x1 tp) (Itz t1 t2 K a b) [z,TI,TO,i1,i2] z (fun i h=>IsZip h z TI TO .none/\IsPair h TI (.ref i1) (.ref i2)/\(∃u v,IsPair h TO u v)/\gZ t1 h i1 a i/\gZ t2 h i2 b i) where
 mem:=by simp
 obj:=fun i h ⟨hz,hI,⟨u,v,hO⟩,h1,h2⟩ c hc=>by
  simp only[Av,Bd,or_false] at hc;rcases hc with rfl | rfl | rfl | rfl | rfl
  ·exact⟨_,hz,fun v z=>by cases z⟩
  ·exact⟨_,hI,fun v z=>by cases z⟩
  ·exact⟨_,hO,fun v z=>by cases z⟩
  ·exact h1.ob
  ·exact h2.ob
 keep:=fun i h h' ⟨hz,hI,⟨u,v,hO⟩,h1,h2⟩ k=>⟨k z (by simp) _ hz,k TI (by simp) _ hI,⟨u,v,k TO (by simp) _ hO⟩,h1.on fun o q=>k i1 (by simp) o q,h2.on fun o q=>k i2 (by simp) o q⟩
 item:=by
  intro X hP hw hK hc i pins s σ H E I hf ⟨hz,hI,⟨u,v,hO⟩,h1,h2⟩ hg;subst hP hw hK;obtain⟨xs,ys,x,y,q1,q2,hx,hy⟩:=hg;obtain⟨is1,rv1,p1,_⟩:=I.seq q1;obtain⟨is2,rv2,p2,_⟩:=I.seq q2;obtain⟨ux,hux,rux⟩:=rv1.get hx;obtain⟨uy,huy,ruy⟩:=rv2.get hy;have hT:s.TypeIs (.ref z) "zip" := ⟨_,hz,rfl⟩;unfold pyNext;refine Aa (wpAny_attempt (wpAny_callSpecial?_slot (name:="__next__") hT F.slot_zip_next (wpAny_call_entry F.slot_zip_next hT F.entry_zip_next
   (aam D hz hI hO h1 h2 p1 p2 (x:=ux) (y:=uy) (by simpa using hux) (by simpa using huy) fun g1 gz gO gi1 gi2 gT gk=>Ag ⟨.ref s.heap.objs.size,rfl,wpAny_letOwnedTupleGo_zip gz fun g2 gz2 gs2=>?_⟩) (F.args_zip_next_1 _))))
  have lz:z<s.heap.objs.size:=Heap.lt_size hz;have lts:∀c∈[z,TI,TO,i1,i2],c<s.heap.objs.size:=fun c hc=>by
   simp only[Av,Bd,or_false] at hc;rcases hc with rfl | rfl | rfl | rfl | rfl
   ·exact lz
   ·exact Heap.lt_size hI
   ·exact Heap.lt_size hO
   ·obtain⟨o,e,_⟩:=h1.ob;exact Heap.lt_size e
   ·obtain⟨o,e,_⟩:=h2.ob;exact Heap.lt_size e
  have kk:∀c o,c∉[z,TI,TO,i1,i2]->s.heap.get? c=some o->g2.get? c=some o:=fun c o nc q=>by simp only[Av,Bd,or_false,not_or] at nc;exact gs2.extBut c o nc.1 (gk c o nc.1 nc.2.2.1 nc.2.2.2.1 nc.2.2.2.2 q)
  have tg:g2.get? s.heap.objs.size=some { cls:=.type "tuple",data:=.seq #[ux,uy] }:=gs2.extBut _ _ (C2 lz) gT;refine⟨.ref s.heap.objs.size,upd H s.heap.objs.size (.tup [x,y]),?_,rfl,⟨_,x,y,I.hok.fresh (Ao _),rfl,rfl,fun zs hq=>by rw[I.seq_inj hq q1];exact hx,fun zs hq=>by rw[I.seq_inj hq q2];exact hy⟩,?_,fun c hc=>?_⟩
  ·exact I.turnedN (t':=s.toks) kk hf (Ao _) ⟨by show 2≤sizeLine;decide,[ux,uy],.cons rux (.cons ruy .nil),⟨_,tg,rfl,_,rfl⟩⟩
  ·exact⟨gz2,gs2.extBut _ _ D.n1 (gk _ _ D.n1 d1 d2 d3 hI),⟨_,_,gs2.extBut _ _ D.n2 gO⟩,gi1.on fun o q=>gs2.extBut _ _ D.n3 q,gi2.on fun o q=>gs2.extBut _ _ D.n4 q⟩
  ·rw[qu (A3 (lts c hc))];exact(hf c hc).1
 done:=by
  intro X hP hw hK hc i pins s σ H E I hf ⟨hz,hI,⟨u,v,hO⟩,h1,h2⟩ hg;subst hP hw hK;obtain⟨xs,ys,q1,q2,hl⟩:=hg;obtain⟨is1,rv1,p1,_⟩:=I.seq q1;obtain⟨is2,rv2,p2,_⟩:=I.seq q2;have l1:=rv1.length;have l2:=rv2.length;have hT:s.TypeIs (.ref z) "zip" := ⟨_,hz,rfl⟩;unfold pyNext;refine Aa (wpAny_attempt (wpAny_callSpecial?_slot (name:="__next__") hT F.slot_zip_next (wpAny_call_entry F.slot_zip_next hT F.entry_zip_next
   (aba (I.ok.hd hc) D hz hI hO h1 h2 p1 p2 (by rcases hl with h | h;exact .inl (by simp;lia);exact .inr (by simp;lia)) fun g1 e gk he=>?_) (F.args_zip_next_1 _))))
  obtain⟨o,ho,hc'⟩:=he;refine Aa (wpAny_isInstance (T:="StopIteration") (b:=true) ⟨o,ho,hc'⟩ isSubtype_stop (Ag ⟨rfl,?_⟩));exact I.turnedL (t':=s.toks) (fp:=[z,TI,TO,i1,i2]) (fun c o nc q=>by simp only[Av,Bd,or_false,not_or] at nc;exact gk c o nc.1 nc.2.2.1 nc.2.2.2.1 nc.2.2.2.2 q) hf
 self:=fun _ _ _ _ _ ⟨hz,_⟩ h=>wpAny_pyIter_zip hz h
def arp(K:Ai)(ta:TA):TI:=fun σ H R=>ta σ H fun vs H1=>∃t1 t2 a b,vs=[.ref a,.ref b]/\(∃xs,Sq t1 K H1 a xs)/\(∃xs,Sq t2 K H1 b xs)/\R (Itz t1 t2 K a b) H1
theorem ai0:bootBuiltins "zip" = some (.type "zip"):=by decide +kernel
theorem ajs{a b:Expr}{ta:TA}(hg:Gl X "zip")(hm:X.mg "zip" = none)(ha:PA X [a,b] ta)(hs:starEach [a,b] X.env=[(false,eval a X.env),(false,eval b X.env)]:=by rfl)
 (hs2:starEach [b] X.env=[(false,eval b X.env)]:=by rfl):PI X (.Tuple elts x1 tp) (.Call (.Name "zip" p) [a,b] [] pos) (arp X.K ta):=by
 intro pins s σ H R I h;refine Call_ (cY I hg hm ai0 (BY (va (ha pos pins s σ H _ I h) fun us s1 ⟨vs,H1,I1,r1,q1⟩=>?_) (by rw[hs,hs2]) (by rw[hs2];rfl)));obtain⟨t1,t2,l1,l2,e,⟨xs,hx⟩,⟨ys,hy⟩,q⟩:=q1;subst e;obtain⟨u1,u2,rfl,ru1,ru2⟩:=zp.two r1;cases ru1;cases ru2;obtain⟨is1,_,p1,_⟩:=I1.seq hx;obtain⟨is2,_,p2,_⟩:=I1.seq hy;have lt1:l1<s1.heap.objs.size:=by
  cases t1 with
  |false=>obtain⟨o,e,_⟩:=p1;exact Heap.lt_size e
  |true=>obtain⟨o,e,_⟩:=p1;exact Heap.lt_size e
 have lt2:l2<s1.heap.objs.size:=by
  cases t2 with
  |false=>obtain⟨o,e,_⟩:=p2;exact Heap.lt_size e
  |true=>obtain⟨o,e,_⟩:=p2;exact Heap.lt_size e
 refine zM p1 p2 fun g1 gz gI gO g1' g2' gk=>?_;have I2:z9 X pins σ H1 { s1 with heap:=g1 }:=I1.kept (t':=s1.toks) gk;refine wpAny_pyIter_zip (s:={ s1 with heap:=g1 }) gz ?_;refine⟨_,[_,s1.heap.objs.size+2,s1.heap.objs.size+3,s1.heap.objs.size,s1.heap.objs.size+1],_,_,H1,rfl,I2,ad7 l1 l2 _ _ _ _ _ ?_ (tZ (by lia)) (tZ (by lia)) (tZ (by lia)),⟨gz,gI,⟨_,_,gO⟩,g1',g2'⟩,fun c hc=>?_,q⟩
 ·have lt1':@LT.lt Nat instLTNat l1 s1.heap.objs.size:=lt1;have lt2':@LT.lt Nat instLTNat l2 s1.heap.objs.size:=lt2;constructor<;>exact tZ (by lia)
 ·have hc':s1.heap.objs.size≤c:=by simp only[Av,Bd,or_false] at hc;rcases hc with rfl | rfl | rfl | rfl | rfl<;>exact leN (by simp +arith only)
  exact I1.fpOk hc' (I1.hok.fresh hc')
end L2
namespace L3
open PySem L2
def oZ(L₀:qm):Y->qm->Prop
 |.ref a,L=>L a=L₀ a
 |_,_=>True
theorem iU(L:qm):∀y:Y,oZ L y L
 |.ref _=>rfl
 |.non=>trivial
 |.bl _=>trivial
 |.int _=>trivial
 |.str _=>trivial
 |.ty _=>trivial
 |.cd _=>trivial
 |.tup _=>trivial
 |.sq _=>trivial
theorem vH{H1:Hp}(r:RV G H1 y v)(h:cA L1 y=some ys):∃t p,v=.ref p/\∀H L,jf H1 H->jo G H L->oZ L1 y L->∃xs,Sq t G.K H p xs/\xo G H ys xs:=by
 cases y with
 |tup zs=>
  obtain⟨a,xs,e,s,q⟩:=r;cases h;exact⟨true,a,e,fun H L t _ _=>⟨xs,dF.ts s t,q.ts t⟩⟩
 |sq zs=>
  obtain⟨a,xs,e,s,q⟩:=r;cases h;exact⟨false,a,e,fun H L t _ _=>⟨xs,(s.ts t).sq,q.ts t⟩⟩
 |ref a=>
  have e:=gf h;exact⟨false,a,r,fun H L _ rl kp=>let ⟨xs,e2,q⟩:=rl a _ (kp.trans e);⟨xs,ES e2,q⟩⟩
 |_=>cases h
def uq(xs ys:List Y):List Y:=List.zipWith (fun a b=>Y.tup [a,b]) xs ys
theorem wB{xs:List Y}(h:(uq xs ys)[i]?=some y):∃a b,xs[i]?=some a/\ys[i]?=some b/\y=.tup [a,b]:=by
 unfold uq at h;rw[List.getElem?_zipWith] at h;cases e1:xs[i]? with
 |none=>rw[e1] at h;simp at h
 |some a=>
  cases e2:ys[i]? with|none=>rw[e1,e2] at h;simp at h|some b=>rw[e1,e2] at h;simp at h;exact⟨a,b,rfl,rfl,h.symm⟩
theorem lL(xs ys:List Y):(uq xs ys).length=min xs.length ys.length:=by simp[uq]
theorem uo{a b:Addr}{xs:List Y}{keep:qm->Prop}(h1:∀H L,jf H₀ H->jo G H L->keep L->∃us,Sq t1 G.K H a us/\xo G H xs us)(h2:∀H L,jf H₀ H->jo G H L->keep L->∃us,Sq t2 G.K H b us/\xo G H ys us):
 hX G H₀ (Itz t1 t2 G.K a b) (uq xs ys) keep where
 go:=fun i H L t rl kp hi=>by obtain⟨us,s1,r1⟩:=h1 H L t rl kp;obtain⟨vs,s2,r2⟩:=h2 H L t rl kp;rw[lL] at hi;have l1:=r1.length;have l2:=r2.length;exact⟨us,vs,us[i]'(by lia),vs[i]'(by lia),s1,s2,Aj _,Aj _⟩
 yld:=fun i H L x H' y t rl kp hy ⟨p,u,v,hp,e1,e2,f1,f2⟩=>by subst e1 e2;obtain⟨us,s1,r1⟩:=h1 H L t rl kp;obtain⟨vs,s2,r2⟩:=h2 H L t rl kp;obtain⟨c,d,ec,ed,rfl⟩:=wB hy;obtain⟨u',eu,ru⟩:=r1.get ec;obtain⟨v',ev,rv⟩:=r2.get ed;have z1:=f1 us s1;rw[eu] at z1;cases z1;have z2:=f2 vs s2;rw[ev] at z2;cases z2;exact⟨EE hp,rl.skip hp,p,_,rfl,dF.of jd,⟨_,_,rfl,ru.ts (EE hp),_,_,rfl,rv.ts (EE hp),rfl⟩⟩
 stop:=fun H L t rl kp=>by obtain⟨us,s1,r1⟩:=h1 H L t rl kp;obtain⟨vs,s2,r2⟩:=h2 H L t rl kp;have l1:=r1.length;have l2:=r2.length;exact⟨us,vs,s1,s2,by rw[lL];lia⟩
def agh(ta:eX)(τ:jp)(L:qm)(R:List Y->(qm->Prop)->qm->Prop):Prop:=ta τ L fun vs L1=>match vs with
 |[x,y]=>fO L1 x fun xs=>fO L1 y fun ys=>R (uq xs ys) (fun L=>oZ L1 x L/\oZ L1 y L) L1
 |_=>False
theorem aig{a b:Expr}(hg:Gl X "zip")(hm:X.mg "zip" = none)(ha:QA X [a,b] tr)(hs:starEach [a,b] X.env=[(false,eval a X.env),(false,eval b X.env)]:=by rfl)
 (hs2:starEach [b] X.env=[(false,eval b X.env)]:=by rfl):QI X (.Tuple elts x1 tp) (.Call (.Name "zip" p) [a,b] [] pos) (agh tr):=PI.imp (ajs hg hm ha hs hs2) fun σ H R ⟨τ,L,R3,rs,rl,z,k⟩=>by
 refine⟨τ,L,_,rs,rl,z,fun vs H1 ys L1 t1 rl1 rv1 z1=>?_⟩;split at z1
 ·rename_i x y;obtain⟨u,v,rfl,ru,rv⟩:=rv1.inv2;obtain⟨xs,ex,z1⟩:=wr z1;obtain⟨zs,ez,z1⟩:=wr z1;obtain⟨t1',p1,rfl,k1⟩:=vH ru ex;obtain⟨t2',p2,rfl,k2⟩:=vH rv ez;obtain⟨us,s1,_⟩:=k1 H1 L1 (EC _) rl1 (iU _ _);obtain⟨ws,s2,_⟩:=k2 H1 L1 (EC _) rl1 (iU _ _);exact⟨t1',t2',p1,p2,rfl,⟨us,s1⟩,⟨ws,s2⟩,k _ H1 _ _ L1 t1 rl1 (uo (fun H L t rl kp=>k1 H L t rl kp.1) fun H L t rl kp=>k2 H L t rl kp.2) z1⟩
 ·exact z1.elim
def cr(xs:List Y)(L:qm)(Q:YK):Prop:=match xs with
 |[x]=>fO L x fun ys=>∀p,L p=none->Q (.ref p) (qg L p (.lst ys))
 |_=>False
theorem dN :jq X (.type "list") (upL X.g3 cr):=ER pL fun xs H Q ⟨ys,L,Q3,rv,rl,z,k⟩=>by
 unfold cr at z;split at z
 ·rename_i x;obtain⟨u,rfl,ru⟩:=rv.inv1;obtain⟨zs,ez,z⟩:=wr z;obtain⟨p,us,e,sq,r⟩:=qO rl ru ez;subst e;exact⟨p,us,rfl,sq,fun l hl=>k _ _ _ _ (EE hl) (rl.newL hl r) (by rfl) (z l (rl.none hl))⟩
 ·exact z.elim
theorem cQ{T:String}{r:List Y->qm->YK->Prop}(hc:jq X (.type T) (upL X.g3 r))(hg:Gl X x)(hm:X.mg x=none)(hv:bootBuiltins x=some (.type T))(h:QA X (e::es) tr)
 (hn:x ≠ "__name__" := by decide) (hd:Eu x:=by decide) (hs:Es e es X:=by rfl) (hp:Et pos es X:=by rfl):
 QE X (.Call (.Name x p) (e::es) [] pos) (bJ r tr):=EF (gp hc hg hm hv h hn hd hs hp) fun σ H Q ⟨τ,L,Q3,rs,rl,z,k⟩=>
 ⟨τ,L,_,rs,rl,z,fun vs H1 ys L1 t1 rl1 rv1 z1=>⟨ys,L1,Q3,rv1,rl1,z1,k.ts t1⟩⟩
def cw(x:Y)(vs:List Y)(L:qm)(Q:YK):Prop:=match x,vs with
 |.ref a,[.int i]=>cW L a fun ys=>0≤i/\i<ys.length/\wO L (fun v L=>Q v (qg L a (.lst (ys.eraseIdx i.toNat)))) (ys[i.toNat]?)
 |_,_=>False
theorem aek :lG X "list.pop" (upM X.g3 cw):=fun pins s σ H x xs v us Q I rx ry ⟨y,ys,L,Q3,r1,r2,rl,z,k⟩=>by
 unfold cw at z;split at z
 ·rename_i a i;obtain⟨zs,e,h0,h1,z⟩:=xh z;obtain⟨ws,e2,r⟩:=rl a _ e;obtain⟨i',rfl,ri⟩:=r2.inv1;cases ri;cases el:zs[i.toNat]? with
  |none=>rw[el] at z;exact z.elim
  |some w=>
   rw[el] at z;obtain⟨u,eu,ru⟩:=r.get el;obtain⟨_,_,_,hz⟩:=I.list (ES e2);have hl:=r.length;have hs:sizeLine<2 ^ 62:=by decide
   refine abk pins s σ H x _ v us Q I rx ry ⟨a,ws,i,i.toNat,u,r1,rfl,e2,by lia,by lia,?_,eu,k _ _ _ _ (EN e2) (rl.setL e2 (r.eraseIdx _)) (ru.ts (EN e2)) z⟩;unfold seqIndex?;rw[Ay (show ¬i<0 by lia),AD (by simp;lia)]
 ·exact z.elim
theorem cK(ho:QE X o to)(ha:QA X (e::es) tr)(h4:attributeBase o "pop" X.env (eval o X.env)=eval o X.env:=by rfl)
 (h5:((backTo cpos (starEach (e::es) X.env)).all (fun x=>!x.1)&&(backToKw cpos (keywordEach [] X.env)).all (fun x=>x.1.isSome)&&decide ((e::es).length+([]:List Keyword).length+(if ([]:List Keyword).isEmpty=true then 0 else 1)<30))=true:=by rfl)
 (h6:(apos.endLine==cpos.line)=true:=by rfl) (h7:Es e es X:=by rfl) (h8:Et cpos es X:=by rfl):
 QE X (.Call (.Attribute o "pop" apos) (e::es) [] cpos) (aW cw to tr):=qQ PySem.F.slot_list_pop PySem.F.type_list_pop aek ho ha h4 h5 h6 h7 h8
end L3
namespace L2
open PySem PySem.Spec PyProof.Rows
section
theorem vS(i:Int)(n d:Nat):max 0 (min (if i<0 then i+(n:Int) else i) n)=((HT.sIx n d (some i):Nat):Int):=by
 simp only[HT.sIx];by_cases h:i<0
 ·simp only[h,if_true]<;>lia
 ·simp only[h,if_false]<;>lia
theorem zP(l u:Option Int)(n:Nat):Builtin.Str.strSliceIndices l u 1 n=(List.range (HT.sIx n n u - HT.sIx n 0 l)).map (HT.sIx n 0 l+·):=by
 have z:(0:Int)=((HT.sIx n 0 none:Nat):Int):=rfl;have y:(n:Int)=((HT.sIx n n none:Nat):Int):=rfl;unfold Builtin.Str.strSliceIndices;cases l with
 |none=>
  cases u with
  |none=>exact sliceRange_one 0 n
  |some j=>
   show sliceRange 0 (max 0 (min (if j<0 then j+(n:Int) else j) n)) 1=_;rw[vS j n n];exact sliceRange_one 0 _
 |some i=>
  cases u with
  |none=>
   show sliceRange (max 0 (min (if i<0 then i+(n:Int) else i) n)) n 1=_;rw[vS i n 0];exact sliceRange_one _ n
  |some j=>
   show sliceRange (max 0 (min (if i<0 then i+(n:Int) else i) n)) (max 0 (min (if j<0 then j+(n:Int) else j) n)) 1=_;rw[vS i n 0,vS j n n];exact sliceRange_one _ _
theorem oH(x:Str)(l u:Option Int):(Txt.slice x l u).cps.toList=(x.cps.toList.drop (HT.sIx x.length 0 l)).take (HT.sIx x.length x.length u - HT.sIx x.length 0 l):=by
 have hn:x.length=x.cps.toList.length:=by simp[Str.length]
 have pick:=pick_run x.cps (HT.sIx x.length 0 l) (HT.sIx x.length x.length u - HT.sIx x.length 0 l);unfold Txt.slice;rw[zP];split
 ·rename_i h;simp only[beq_self_eq_true,Bool.true_and,Ae,B7,beq_iff_eq] at h;have h1:=HT.sIx_le x.length 0 (Bb _) l;have h2:=HT.sIx_le x.length x.length (Ao _) u;have a0:HT.sIx x.length 0 l=0:=by lia
  rw[h,a0,El,Bg (by exact pS)]
 ·show(List.filterMap (fun i=>x.cps[i]?) _).toArray.toList=_;rw[List.toList_toArray];exact pick
def aqd:V->Option Int->Option Int->Hp->VK->Prop:=fun x lo hi H Q=>∃z,x=.str z/\z.length≤sizeLine/\Q (.str (Txt.slice z lo hi)) H
theorem ajj:qT X aqd:=by
 intro pins s σ H x v vl vu lo hi sl Q I rx hs pl pu h;obtain⟨z,rfl,hz,q⟩:=h;obtain⟨t,rfl⟩:=rx;obtain⟨l,rfl,hl⟩:∃l:Option (Int×Tok),vl=partValue l/\l.map (·.1)=lo:=by cases pl with|none=>exact⟨none,rfl,rfl⟩|int i t=>exact⟨some (i,t),rfl,rfl⟩
 obtain⟨u,rfl,hu⟩:∃u:Option (Int×Tok),vu=partValue u/\u.map (·.1)=hi:=by cases pu with|none=>exact⟨none,rfl,rfl⟩|int i t=>exact⟨some (i,t),rfl,rfl⟩
 subst hl hu;refine⟨"str",_,F.slot_str_getitem.lookup,typeIs_str _ _ _,ji I.tk (wpAny_getItem_str_slice (l:=l) (u:=u) (st:=none) hs rfl ?_)⟩;exact post_val_or_str ⟨AS (Txt.slice_le z _ _) hz,fun t' k ht=>⟨.str _,H,I.tok _,⟨t',rfl⟩,q⟩⟩
theorem uV{zs:List Str}:∀{us:List Value},zp (zs.map V.str) us->StrsAre us zs:=by
 induction zs with
 |nil=>intro us r;rw[C3] at r;cases r;exact .nil
 |cons z zs ih=>
  intro us r;rw[Az] at r;cases r with
  |cons r1 r2=>
   obtain⟨t,e⟩:=r1;subst e;exact .cons z t (ih r2)
def amo(K:Ai):V->List V->Hp->VK->Prop:=fun x vs H Q=>∃z a zs,x=.str z/\vs=[.ref a]/\aE K H a ((zs:List Str).map V.str)/\(zs.map (·.length)).sum+zs.length*z.length≤16777216/\Q (.str (Txt.join z zs)) H
theorem afx:lG X "str.join" (amo X.K):=by intro pins s σ H x vs v us Q I rx rv h;obtain⟨z,a,zs,rfl,rfl,hq,hz,q⟩:=h;obtain⟨t,rfl⟩:=rx;obtain⟨u,rfl,ru⟩:=rv.one;cases ru;obtain⟨its,r,p,_⟩:=I.list hq;exact ji I.tk (PyProof.Rows.join_list p.isList (by simpa using uV r) hz fun t' k ht=>⟨.str _,H,I.tok _,⟨t',rfl⟩,q⟩)
end
end L2
namespace L3
open PySem L2
def ag4(x:Y)(lo hi:Option Int)(L:qm)(Q:YK):Prop:=match x with
 |.str z=>z.length≤sizeLine/\Q (.str (Txt.slice z lo hi)) L
 |x=>alb x lo hi L Q
theorem aa9(K:Ai)(P:Program)(w:World)(hK:X.K=K:=by rfl)(hP:X.prog=P:=by rfl)(hw:X.w=w:=by rfl):qT X (adr ⟨K,P,w⟩ ag4):=by refine qT.imp (ajj.or (alo K P w hK hP hw)) fun x lo hi H Q ⟨y,L,Q3,rv,rl,z,k⟩=>?_;cases y with|str s=>exact .inl ⟨s,rv,z.1,k _ H _ L (EC _) rl (by rfl) z.2⟩|_=>exact .inr ⟨_,L,Q3,rv,rl,z,k⟩
def yBS(r:Y->List Y->qm->YK->Prop)(to:xp)(t:eX)(τ:jp)(L:qm)(Q:YK):Prop:=to τ L fun x L1=>match x with
 |.str z=>t τ L1 fun xs L2=>r (.str z) xs L2 Q
 |_=>False
theorem ak4{id:String}{r:Y->List Y->qm->YK->Prop}(h2:Slot "str" name id)(h3:typeOf (.builtin id)=pure (.type "method_descriptor"))(hm:lG X id (upM X.g3 r))(ho:QE X o to)(ha:QA X (e::es) tr)
 (h4:attributeBase o name X.env (eval o X.env)=eval o X.env:=by rfl)
 (h5:((backTo cpos (starEach (e::es) X.env)).all (fun x=>!x.1)&&(backToKw cpos (keywordEach [] X.env)).all (fun x=>x.1.isSome)&&decide ((e::es).length+([]:List Keyword).length+(if ([]:List Keyword).isEmpty=true then 0 else 1)<30))=true:=by rfl)
 (h6:(apos.endLine==cpos.line)=true:=by rfl) (h7:Es e es X:=by rfl) (h8:Et cpos es X:=by rfl):
 QE X (.Call (.Attribute o name apos) (e::es) [] cpos) (yBS r to tr):=EF (agv PySem.F.plainAttrs_str h2 h3 hm ho ha h4 h5 h6 h7 h8) fun σ H Q ⟨τ,L,Q3,rs,rl,z,k⟩=>
 ⟨τ,L,_,rs,rl,z,fun v H1 y L1 t1 rl1 rv1 z1=>by
  split at z1
  ·rename_i s;cases rv1;exact⟨rfl,τ,L1,_,rs.ts t1,rl1,z1,fun vs H2 ys L2 t2 rl2 rv2 z2=>⟨.str s,ys,L2,Q3,rfl,rv2,rl2,z2,k.ts (t1.trans t2)⟩⟩
  ·exact z1.elim⟩
theorem rE{G:G3}{H:Hp}:∀{zs:List Str} {xs:List V},xo G H (zs.map Y.str) xs->xs=zs.map V.str
 |[],_,h=>h
 |z::r,_,⟨x,xs',e,q,s⟩=>by rw[e,show x=V.str z from q,rE s];rfl
def wP(x:Y)(vs:List Y)(L:qm)(Q:YK):Prop:=match x,vs with
 |.str z,[.ref a]=>cW L a fun ys=>∃zs,ys=zs.map Y.str/\(zs.map (·.length)).sum+zs.length*z.length≤16777216/\Q (.str (Txt.join z zs)) L
 |_,_=>False
theorem aju :lG X "str.join" (upM X.g3 wP):=lG.imp afx fun x xs H Q ⟨y,ys,L,Q3,r1,r2,rl,z,k⟩=>by
 unfold wP at z;split at z
 ·rename_i s a;obtain⟨us,e,zs,rfl,hz,z⟩:=xh z;obtain⟨ws,e2,r⟩:=rl a _ e;obtain⟨u,rfl,ru⟩:=r2.inv1;cases ru;rw[rE r] at e2;exact⟨s,a,zs,r1,rfl,ES e2,hz,k _ H _ L (EC _) rl (by rfl) z⟩
 ·exact z.elim
theorem afe(ho:QE X o to)(ha:QA X (e::es) tr)(h4:attributeBase o "join" X.env (eval o X.env)=eval o X.env:=by rfl)
 (h5:((backTo cpos (starEach (e::es) X.env)).all (fun x=>!x.1)&&(backToKw cpos (keywordEach [] X.env)).all (fun x=>x.1.isSome)&&decide ((e::es).length+([]:List Keyword).length+(if ([]:List Keyword).isEmpty=true then 0 else 1)<30))=true:=by rfl)
 (h6:(apos.endLine==cpos.line)=true:=by rfl) (h7:Es e es X:=by rfl) (h8:Et cpos es X:=by rfl):
 QE X (.Call (.Attribute o "join" apos) (e::es) [] cpos) (yBS wP to tr):=ak4 PySem.F.slot_str_join PySem.F.type_str_join aju ho ha h4 h5 h6 h7 h8
theorem o4(zs:List Str):(Txt.join "" zs).cps.toList=zs.flatMap fun z=>z.cps.toList:=by
 have e:∀zs:List Str,(Str.join "" zs).cps.toList=zs.flatMap fun z=>z.cps.toList:=by
  intro zs
  induction zs with
  |nil=>rfl
  |cons z r ih=>
   cases r with
   |nil=>simp[Str.join]
   |cons y r=>
    show(z ++ "" ++ Str.join "" (y::r)).cps.toList=_;have:(z ++ "" ++ Str.join "" (y::r)).cps=z.cps++#[]++(Str.join "" (y::r)).cps:=rfl;rw[this];simp only[A8,ih,AU,Array.append_empty]
 exact(BI (fun x:Str=>x.cps.toList) (StrLaws.glued_eq_join "" zs)).trans (e zs)
theorem ae8(K:Ai)(T S S':i7):PySem.W.kitAny K (.type T.nm) [.type S.nm,.type S'.nm]=some (bV T S||bV T S'):=by show(match PySem.W.kitOne K (.type T.nm) (.type S.nm) with | some true=>some true | some false=>(match PySem.W.kitOne K (.type T.nm) (.type S'.nm) with | some true=>some true | some false=>some false | none=>none) | none=>none)=_;rw[pG,pG];cases bV T S<;>cases bV T S'<;>rfl
theorem zO{T S S':i7}{a:Addr}{σ:L2.St}(I:z9 X pins σ H s)(rl:jo X.g3 H L)(r:RV X.g3 H y v)(ru:zw v u)(h:tyY L y=some T)(ha:H a=some (.tup [.ty S.nm,.ty S'.nm]))
 (hq:∀tk,Q (.bool (bV T S||bV T S')) { s with toks:=tk }):wpAny (model X.prog X.w) A (call (.builtin "isinstance") [u,.ref a]) Q E s:=by
 obtain⟨_,its,vs,⟨⟨oc,od,dt,sl⟩,h1,h2,n,h3⟩⟩:=(show xq X.prog X.w H s.heap a (.tup [.ty S.nm,.ty S'.nm]) from I.hok a _ ha);obtain⟨u1,u2,rfl,r1,r2⟩:=zp.two vs;cases (show u1=Value.type S.nm from r1);cases (show u2=Value.type S'.nm from r2);cases (show oc=_ from h2);cases (show dt=_ from h3);have e:=ae8 X.K T S S';cases y with
 |non=>cases h;cases r;cases (show u=Value.none from ru);exact BV PySem.W.kitx_none I.kIn True.intro h1 e (fun z=>nomatch z) hq
 |bl b=>cases h;cases r;cases (show u=Value.bool b from ru);exact BV PySem.W.kitx_bool I.kIn True.intro h1 e (fun z=>nomatch z) hq
 |int i=>cases h;cases r;obtain⟨t,q⟩:=(show ∃t,u=Value.int i t from ru);cases q;exact BV PySem.W.kitx_int I.kIn True.intro h1 e (fun z=>nomatch z) hq
 |str x=>cases h;cases r;obtain⟨t,q⟩:=(show ∃t,u=Value.str x t from ru);cases q;exact BV PySem.W.kitx_str I.kIn True.intro h1 e (fun z=>nomatch z) hq
 |tup ys=>
  cases h;obtain⟨b,xs,rfl,sq,_⟩:=r;cases (show u=Value.ref b from ru);obtain⟨_,_,⟨o,g1,g2,_⟩,_⟩:=I.tuple sq;exact BV Dz I.kIn ⟨o,g1,g2⟩ h1 e (fun z=>nomatch z) hq
 |sq ys=>
  cases h;obtain⟨b,xs,rfl,sq,_⟩:=r;cases (show u=Value.ref b from ru);obtain⟨_,_,⟨o,_,g1,g2,_⟩,_⟩:=I.list sq.sq;exact BV CA I.kIn ⟨o,g1,g2⟩ h1 e (fun z=>nomatch z) hq
 |ref b=>
  cases (show v=.ref b from r);cases (show u=Value.ref b from ru);have h':(match L b with | some (.lst _)=>some i7.list | some (.dct _)=>some .dict | _=>none)=some T:=h;split at h'
  ·rename_i ys el;cases h';obtain⟨xs,e2,_⟩:=rl b _ el;obtain⟨_,_,⟨o,_,g1,g2,_⟩,_⟩:=I.list (ES e2);exact BV CA I.kIn ⟨o,g1,g2⟩ h1 e (fun z=>nomatch z) hq
  ·rename_i kvs el;cases h';obtain⟨xs,e2,_⟩:=rl b _ el;obtain⟨_,_,ws,_,p⟩:=(show xq X.prog X.w H s.heap b (.dK xs) from I.hok b _ e2);obtain⟨o,es,ep,g1,g2,_⟩:=p;exact BV DI I.kIn ⟨o,g1,g2.1⟩ h1 e (fun z=>nomatch z) hq
  ·cases h'
 |_=>cases h
def zL(G:G3)(S S':i7):List V->Hp->VK->Prop:=fun xs H Q=>∃y v L Q3 T a,xs=[v,.ref a]/\H a=some (.tup [.ty S.nm,.ty S'.nm])/\RV G H y v/\jo G H L/\tyY L y=some T/\Q3 (.bl (bV T S||bV T S')) L/\xB G H Q3 Q
theorem yE(S S':i7):jq X (.builtin "isinstance") (zL X.g3 S S'):=by intro pins s σ H xs us Q I r h;obtain⟨y,v,L,Q3,T,a,rfl,ha,rv,rl,ty,q,k⟩:=h;obtain⟨u,c,rfl,r1,r2⟩:=zp.two r;cases (show c=Value.ref a from r2);exact ji I.tk (zO I rl rv r1 ty ha fun tk ht=>⟨.bl _,H,I.tok _,rfl,k _ H _ L (EC _) rl (by rfl) q⟩)
theorem ud{a:Expr}{pt:Pos}{xT xT':Str}(S S':i7)(hg:Gl X "isinstance")(hm:X.mg "isinstance" = none)(hgT:Gl X xT)(hmT:X.mg xT=none)(hvT:bootBuiltins xT=some (.type S.nm))(hgT':Gl X xT')(hmT':X.mg xT'=none)(hvT':bootBuiltins xT'=some (.type S'.nm))(ha:QE X a ta)
 (hn:xT ≠ "__name__" := by decide) (hd:(xT==("__debug__" : Str))=false:=by decide) (hn':xT' ≠ "__name__" := by decide) (hd':(xT'==("__debug__" : Str))=false:=by decide)
 (hs:starEach [a,.Tuple [.Name xT p1,.Name xT' p2] kt pt] X.env=(false,eval a X.env)::starEach [.Tuple [.Name xT p1,.Name xT' p2] kt pt] X.env:=by rfl)
 (hs2:starEach [.Tuple [.Name xT p1,.Name xT' p2] kt pt] X.env=(false,eval (.Tuple [.Name xT p1,.Name xT' p2] kt pt) X.env)::starEach [] X.env:=by rfl)
 (hs3:starEach [.Name xT p1,.Name xT' p2] X.env=(false,eval (.Name xT p1) X.env)::starEach [.Name xT' p2] X.env:=by rfl) (hs4:starEach [.Name xT' p2] X.env=(false,eval (.Name xT' p2) X.env)::starEach [] X.env:=by rfl)
 (hp:(backTo pos (starEach [.Tuple [.Name xT p1,.Name xT' p2] kt pt] X.env)).any (·.1)=false:=by rfl):
 QE X (.Call (.Name "isinstance" p) [a,.Tuple [.Name xT p1,.Name xT' p2] kt pt] [] pos) (tQ S S' ta):=by
 refine EF (lF (yE S S') hg hm e9 (aU ha (aU (aai (aU (aao hgT hmT hvT hn hd) (aU (aao hgT' hmT' hvT' hn' hd') fG hs4) hs3)) fG hs2) hs) (by decide) (by decide) hs hp) ?_;rintro σ H Q ⟨τ,L,Q3,rs,rl,z,k⟩;refine⟨τ,L,_,rs,rl,z,fun v H1 y L1 t1 rl1 rv1 z1=>?_⟩;obtain⟨T,et,z1⟩:=sK z1;refine⟨by show 2≤sizeLine;decide,fun q hq=>?_⟩;exact⟨y,v,L1,Q3,T,q,rfl,jd,rv1.ts (EE hq),rl1.skip hq,et,z1,k.ts (t1.trans (EE hq))⟩
def da(t u:wv)(D:vh)(τ:jp)(L:qm):Prop:=∃J:jp->qm->Prop,t { D with nx:=J } τ L/\∀τ' L',J τ' L'->u D τ' L'
theorem vq{rest:List Stmt}{t u:wv}(h:QS X st t)(k:tW X rest u):tW X (st::rest) (da t u):=m5.imp (sF h k) fun D σ H ⟨τ,L,D3,rs,rl,⟨J,z,q⟩,k⟩=>
 ⟨τ,L,{ D3 with nx:=J },rs,rl,z,fun σ1 H1 τ1 L1 t1 rs1 rl1 z1=>⟨τ1,L1,D3,rs1,rl1,q τ1 L1 z1,k.ts t1⟩,k.rt,k.bk,k.ct⟩
section
variable {E3:X3}
end
section
variable {cp:Pos}
end
section
variable {a:Expr}{pt:Pos}{vs:List V}
end
def acp(_:vh)(_:jp)(_:qm):Prop:=False
theorem ac7 :QS X st acp:=fun _ _ _ _ _ _ ⟨_,_,_,_,_,z,_⟩=>z.elim
open PySem L2 PySem.W
section
variable {K:Frag}{D:Addr}{t c:Value}{b:Bool}
end
end L3
namespace L2
open PySem PySem.Spec PyProof.Rows
def xI(X:Cx)(ops:List CmpOp)(es:List Expr)(t:V->TE):Prop:=∀(pos:Pos) (pins:List (Addr×Obj)) (s:Shared) (σ:St) (H:Hp) (x:V) (v:Value) (Q:VK),z9 X pins σ H s->zw x v->t x σ H Q->wpAny (model X.prog X.w) X.A (compareChain pos v ops (evalEach es X.env)) (EP X pins σ Q) X.xe s
def gw(X:Cx)(ops:List CmpOp)(es:List Expr)(t:V->TE):Prop:=∀(pos:Pos) (pins:List (Addr×Obj)) (s:Shared) (σ:St) (H:Hp) (x:V) (v:Value) (Q:Bool->Hp->Prop),z9 X pins σ H s->zw x v->(t x σ H fun z H'=>∃k,z=.bl k/\Q k H')->wpAny (model X.prog X.w) X.A (testChain pos v ops (evalEach es X.env)) (TP X pins σ Q) X.xe s
def aa2(r:R2)(tb:TE):V->TE:=fun x σ H Q=>tb σ H fun y H1=>r x y H1 Q
def acq(r:R2)(tb:TE)(u:V->TE):V->TE:=fun x σ H Q=>tb σ H fun y H1=>r x y H1 fun z H2=>∃k,z=.bl k/\(if k=true then u y σ H2 Q else Q (.bl false) H2)
section
variable {a b:Expr}{ta tb:TE}{op op':CmpOp}{ops:List CmpOp}{r:R2}{u:V->TE} 
theorem aau(ho:wb X (compareOp op) r)(hb:PE X b tb):xI X [op] [b] (aa2 r tb):=by intro pos pins s σ H x v Q I rx h;exact chain_last (va (hb pins s σ H _ I h) fun w' s1 ⟨y,H1,I1,r1,q1⟩=>ho pins s1 σ H1 x y v w' Q I1 rx r1 q1)
theorem abd(ho:wb X (compareOp op) r)(hb:PE X b tb)(ht:xI X (op'::ops) (c::es) u):xI X (op::op'::ops) (b::c::es) (acq r tb u):=by intro pos pins s σ H x v Q I rx h;refine chain_link (va (hb pins s σ H _ I h) fun w' s1 ⟨y,H1,I1,r1,q1⟩=>va (ho pins s1 σ H1 x y v w' _ I1 rx r1 q1) fun d s2 ⟨z,H2,I2,r2,k,e,q2⟩=>?_);subst e;cases r2;refine wpAny_truthy_bool ?_;cases k with|false=>exact ite_ff ⟨.bl false,H2,I2,rfl,q2⟩|true=>exact ite_tt (ht pos pins s2 σ H2 y w' Q I2 r1 q2)
theorem y9(ha:PE X a ta)(h:xI X (op::op'::ops) (b::c::es) u)(hm:lastMarks (op::op'::ops) (b::c::es)=false):PE X (.Compare a (op::op'::ops) (b::c::es) pos) (fun σ H Q=>ta σ H fun x H1=>u x σ H1 Q):=by intro pins s σ H Q I hh;exact Compare_chain (va (ha pins s σ H _ I hh) fun v s1 ⟨x,H1,I1,r1,q1⟩=>h pos pins s1 σ H1 x v Q I1 r1 q1) hm
theorem xC(ho:wb X (compareOp op) r)(hb:PE X b tb):gw X [op] [b] (aa2 r tb):=by intro pos pins s σ H x v Q I rx h;refine test_last (va (hb pins s σ H _ I h) fun w' s1 ⟨y,H1,I1,r1,q1⟩=>va (ho pins s1 σ H1 x y v w' _ I1 rx r1 q1) fun d s2 ⟨z,H2,I2,r2,k,e,q2⟩=>?_);subst e;cases r2;exact wpAny_truthy_bool ⟨H2,I2,q2⟩
theorem xV(ho:wb X (compareOp op) r)(hb:PE X b tb)(ht:gw X (op'::ops) (c::es) u):gw X (op::op'::ops) (b::c::es) (acq r tb u):=by
 intro pos pins s σ H x v Q I rx h;refine test_link (va (hb pins s σ H _ I h) fun w' s1 ⟨y,H1,I1,r1,q1⟩=>va (ho pins s1 σ H1 x y v w' _ I1 rx r1 q1) fun d s2 ⟨z,H2,I2,r2,k,e,q2⟩=>?_);subst e;cases r2;refine wpAny_truthy_bool ?_;cases k with
 |false=>
  obtain⟨k',e',q'⟩:=q2;cases e';exact ite_ff ⟨H2,I2,q'⟩
 |true=>exact ite_tt (ht pos pins s2 σ H2 y w' Q I2 r1 q2)
theorem yD(ha:PE X a ta)(h:gw X (op::op'::ops) (b::c::es) u)(hm:lastMarks (op::op'::ops) (b::c::es)=false):PT X (.Compare a (op::op'::ops) (b::c::es) pos) (aa3 fun σ H Q=>ta σ H fun x H1=>u x σ H1 Q):=by intro pins s σ H Q I hh;exact isTrue_chain (va (ha pins s σ H _ I hh) fun v s1 ⟨x,H1,I1,r1,q1⟩=>h pos pins s1 σ H1 x v Q I1 r1 q1) hm
end
end L2
namespace L3
open PySem L2
def gc(ta:xp)(u:Y->xp)(τ:jp)(L:qm)(Q:YK):Prop:=ta τ L fun x L1=>u x τ L1 Q
def mw(r:oF)(tb:xp)(x:Y)(τ:jp)(L:qm)(Q:YK):Prop:=tb τ L fun y L1=>r x y L1 Q
def mF(r:oF)(tb:xp)(u:Y->xp)(x:Y)(τ:jp)(L:qm)(Q:YK):Prop:=tb τ L fun y L1=>r x y L1 fun z L2=>match z with
 |.bl k=>kh k (u y τ L2 Q) (Q (.bl false) L2)
 |_=>False
def zV(G:G3)(u:Y->xp):V->TE:=fun x σ H Q=>∃y τ L Q3,RV G H y x/\ke G H σ τ/\jo G H L/\u y τ L Q3/\xB G H Q3 Q
theorem xI.imp{ops:List CmpOp}{t u:V->TE}(h:xI X ops es t)(q:∀x σ H Q,u x σ H Q->t x σ H Q):xI X ops es u:=fun pos pins s σ H x v Q I r z=>h pos pins s σ H x v Q I r (q _ _ _ _ z)
theorem gw.imp{ops:List CmpOp}{t u:V->TE}(h:gw X ops es t)(q:∀x σ H Q,u x σ H Q->t x σ H Q):gw X ops es u:=fun pos pins s σ H x v Q I r z=>h pos pins s σ H x v Q I r (q _ _ _ _ z)
theorem wA{r:oF}(x:V)(σ:L2.St)(H:Hp)(Q:VK):zV G (mw r tb) x σ H Q->aa2 (fV G r) (qS G tb) x σ H Q:=fun⟨y,τ,L,Q3,rv,rs,rl,z,k⟩=>
 ⟨τ,L,_,rs,rl,z,fun v H1 y1 L1 t1 rl1 rv1 z1=>⟨y,y1,L1,Q3,rv.ts t1,rv1,rl1,z1,k.ts t1⟩⟩
theorem vU{r:oF}{u:Y->xp}(x:V)(σ:L2.St)(H:Hp)(Q:VK):zV G (mF r tb u) x σ H Q->acq (fV G r) (qS G tb) (zV G u) x σ H Q:=fun⟨y,τ,L,Q3,rv,rs,rl,z,k⟩=>
 ⟨τ,L,_,rs,rl,z,fun v H1 y1 L1 t1 rl1 rv1 z1=>⟨y,y1,L1,_,rv.ts t1,rv1,rl1,z1,fun v2 H2 y2 L2 t2 rl2 rv2 z2=>by
  cases y2 with
  |bl kk=>
   refine⟨kk,rv2,?_⟩;have z3:kh kk (u y1 τ L2 Q3) (Q3 (.bl false) L2):=z2;cases kk with|true=>rw[AD rfl];exact⟨y1,τ,L2,Q3,rv1.ts t2,rs.ts (t1.trans t2),rl2,z3,k.ts (t1.trans t2)⟩|false=>rw[Ay AE];exact k _ H2 _ L2 (t1.trans t2) rl2 (by rfl) z3
  |_=>exact z2.elim⟩⟩
section
variable {a b:Expr}{op op':CmpOp}{ops:List CmpOp}{r:oF}{u:Y->xp} 
theorem sO(ho:wb X (compareOp op) (fV X.g3 r))(hb:QE X b tb):xI X [op] [b] (zV X.g3 (mw r tb)):=xI.imp (aau ho hb) wA
theorem qY(ho:wb X (compareOp op) (fV X.g3 r))(hb:QE X b tb)(ht:xI X (op'::ops) (c::es) (zV X.g3 u)):xI X (op::op'::ops) (b::c::es) (zV X.g3 (mF r tb u)):=xI.imp (abd ho hb ht) vU
theorem yn(ho:wb X (compareOp op) (fV X.g3 r))(hb:QE X b tb):gw X [op] [b] (zV X.g3 (mw r tb)):=gw.imp (xC ho hb) wA
theorem oS(ho:wb X (compareOp op) (fV X.g3 r))(hb:QE X b tb)(ht:gw X (op'::ops) (c::es) (zV X.g3 u)):gw X (op::op'::ops) (b::c::es) (zV X.g3 (mF r tb u)):=gw.imp (xV ho hb ht) vU
theorem rK(σ:L2.St)(H:Hp)(Q:VK):qS G (gc ta u) σ H Q->(fun σ H Q=>qS G ta σ H fun x H1=>zV G u x σ H1 Q) σ H Q:=fun⟨τ,L,Q3,rs,rl,z,k⟩=>
 ⟨τ,L,_,rs,rl,z,fun v H1 y L1 t1 rl1 rv1 z1=>⟨y,τ,L1,Q3,rv1,rs.ts t1,rl1,z1,k.ts t1⟩⟩
theorem sg(ha:QE X a ta)(h:xI X (op::op'::ops) (b::c::es) (zV X.g3 u))(hm:lastMarks (op::op'::ops) (b::c::es)=false:=by with_unfolding_all rfl):QE X (.Compare a (op::op'::ops) (b::c::es) pos) (gc ta u):=EF (y9 ha h hm) rK
theorem aay(ha:QE X a ta)(h:gw X (op::op'::ops) (b::c::es) (zV X.g3 u))(hm:lastMarks (op::op'::ops) (b::c::es)=false:=by with_unfolding_all rfl):QT X (.Compare a (op::op'::ops) (b::c::es) pos) (yB (gc ta u)):=
 PT.imp (yD ha h hm) fun σ H Q q=>rK σ H _ (akg σ H Q q)
end
end L3
namespace L2
open PySem PySem.Spec PyProof.Rows
theorem qN:∀{bs:List Bool} {us:List Value},zp (bs.map V.bl) us->us=bs.map Value.bool
 |[],_,.nil=>rfl
 |b::bs,_,.cons r t=>by cases (show _=Value.bool b from r);rw[qN t];rfl
section
theorem aa8(hc:X.calm=true:=by rfl):jq X (.builtin "all") (fun xs H Q=>∃(a:Addr) (bs:List Bool),xs=[.ref a]/\aE X.K H a (bs.map V.bl)/\Q (.bl (bs.all id)) H):=by
 intro pins s σ H xs us Q I r h;obtain⟨a,bs,rfl,sq,q⟩:=h;obtain⟨u,rfl,ru⟩:=oW r;cases ru;obtain⟨its,rv,pl,_⟩:=I.list sq;cases qN rv;have hl:=j6 pl;have hlt:a<s.heap.objs.size:=by obtain⟨_,e,_⟩:=hl;exact Heap.lt_size e
 refine ji I.tk (call_all_walk (wpAny_pyIter_list hl ?_));refine⟨s.heap.objs.size,[s.heap.objs.size,a],[s.heap.objs.size],(bs.map Value.bool).toArray.size,_,_,fun i=>(bs[i]?).getD true,rfl,Walks.list (A:=X.A.in1) (I.ok.hd hc) _ a (A3 hlt) (bs.map Value.bool).toArray,
  ⟨⟨_,Heap.get?_push_size _ rfl,rfl,rfl⟩,hl.push _⟩,fun i v s' Q' E' hP hQ=>?_,fun h' tk hk ht=>?_⟩
 ·have hP:(bs.map Value.bool).toArray[i]?=some v:=hP;rw[List.getElem?_toArray,Al] at hP;obtain⟨b,e,rfl⟩:=Ap.mp hP;have hQ:Q' ((bs[i]?).getD true) s':=hQ;rw[e] at hQ;exact wpAny_truthy_bool hQ
 ·have e:((List.range (bs.map Value.bool).toArray.size).all fun i=>(bs[i]?).getD true)=bs.all id:=by rw[Am,Ae];exact PyProof.Rows.LSm.range_all bs
  rw[e];exact⟨.bl _,H,I.kept (h':=h') (t':=tk) (DA hk),rfl,q⟩
theorem aaz(hc:X.calm=true:=by rfl):jq X (.builtin "any") (fun xs H Q=>∃(a:Addr) (bs:List Bool),xs=[.ref a]/\aE X.K H a (bs.map V.bl)/\Q (.bl (bs.any id)) H):=by
 intro pins s σ H xs us Q I r h;obtain⟨a,bs,rfl,sq,q⟩:=h;obtain⟨u,rfl,ru⟩:=oW r;cases ru;obtain⟨its,rv,pl,_⟩:=I.list sq;cases qN rv;have hl:=j6 pl;have hlt:a<s.heap.objs.size:=by obtain⟨_,e,_⟩:=hl;exact Heap.lt_size e
 refine ji I.tk (call_any_walk (wpAny_pyIter_list hl ?_));refine⟨s.heap.objs.size,[s.heap.objs.size,a],[s.heap.objs.size],(bs.map Value.bool).toArray.size,_,_,fun i=>(bs[i]?).getD false,rfl,Walks.list (A:=X.A.in1) (I.ok.hd hc) _ a (A3 hlt) (bs.map Value.bool).toArray,
  ⟨⟨_,Heap.get?_push_size _ rfl,rfl,rfl⟩,hl.push _⟩,fun i v s' Q' E' hP hQ=>?_,fun h' tk hk ht=>?_⟩
 ·have hP:(bs.map Value.bool).toArray[i]?=some v:=hP;rw[List.getElem?_toArray,Al] at hP;obtain⟨b,e,rfl⟩:=Ap.mp hP;have hQ:Q' ((bs[i]?).getD false) s':=hQ;rw[e] at hQ;exact wpAny_truthy_bool hQ
 ·have e:((List.range (bs.map Value.bool).toArray.size).any fun i=>(bs[i]?).getD false)=bs.any id:=by rw[Am,Ae];exact PyProof.Rows.LSm.range_any bs
  rw[e];exact⟨.bl _,H,I.kept (h':=h') (t':=tk) (DA hk),rfl,q⟩
end
end L2
namespace L3
open PySem L2
def uu:List Y->Option (List Bool)
 |[]=>some []
 |.bl b::r=>(uu r).map (b::·)
 |_::_=>none
theorem dh(bs:List Bool):uu (bs.map Y.bl)=some bs:=by induction bs with|nil=>rfl|cons b r ih=>show(uu (r.map Y.bl)).map (b::·)=_;rw[ih];rfl
theorem kG{G:G3}{H:Hp}:∀{ys:List Y} {xs:List V} {bs:List Bool},uu ys=some bs->xo G H ys xs->xs=bs.map V.bl
 |[],_,_,h,r=>by cases h;exact r
 |y::ys,_,bs,h,⟨x,xs',e,r1,r2⟩=>by
  cases y with
  |bl b=>
   have h':(uu ys).map (b::·)=some bs:=h;obtain⟨cs,e1,rfl⟩:=Ap.mp h';cases (show x=V.bl b from r1);rw[e,kG e1 r2];rfl
  |_=>cases h
def ye(xs:List Y)(L:qm)(Q:YK):Prop:=match xs with
 |[y]=>wS y=true/\fO L y fun ys=>wO L (fun bs L=>Q (.bl (List.all bs id)) L) (uu ys)
 |_=>False
def aih(xs:List Y)(L:qm)(Q:YK):Prop:=match xs with
 |[y]=>wS y=true/\fO L y fun ys=>wO L (fun bs L=>Q (.bl (List.any bs id)) L) (uu ys)
 |_=>False
theorem wD(hc:X.calm=true:=by rfl):jq X (.builtin "all") (upL X.g3 ye):=ER (aa8 hc) fun xs H Q ⟨ys,L,Q3,rv,rl,z,k⟩=>by
 unfold ye at z;split at z
 ·rename_i y;obtain⟨x,rfl,r⟩:=rv.inv1;obtain⟨hy,z⟩:=z;obtain⟨zs,es,z⟩:=wr z;obtain⟨bs,eb,z⟩:=jG z;obtain⟨a,us,rfl,sq,rr⟩:=gt rl r hy es;cases kG eb rr;exact⟨a,bs,rfl,sq,k _ H _ L (EC _) rl (by rfl) z⟩
 ·exact z.elim
theorem ang(hc:X.calm=true:=by rfl):jq X (.builtin "any") (upL X.g3 aih):=ER (aaz hc) fun xs H Q ⟨ys,L,Q3,rv,rl,z,k⟩=>by
 unfold aih at z;split at z
 ·rename_i y;obtain⟨x,rfl,r⟩:=rv.inv1;obtain⟨hy,z⟩:=z;obtain⟨zs,es,z⟩:=wr z;obtain⟨bs,eb,z⟩:=jG z;obtain⟨a,us,rfl,sq,rr⟩:=gt rl r hy es;cases kG eb rr;exact⟨a,bs,rfl,sq,k _ H _ L (EC _) rl (by rfl) z⟩
 ·exact z.elim
theorem om:bootBuiltins "all" = some (.builtin "all"):=by decide +kernel
theorem aj1:bootBuiltins "any" = some (.builtin "any"):=by decide +kernel
def aix:Y->Option jl
 |.int i=>some (.inl i)
 |.str x=>some (.inr x)
 |_=>none
theorem sE{k:jl}(h:aix y=some k)(r:RV G H y v):v=kV k:=by cases y with|int i=>cases h;exact r|str x=>cases h;exact r|_=>cases h
def m7(kvs:List (jl×Y))(k:jl)(y:Y):List (jl×Y):=
 if (kvs.any fun kv=>decide (kv.1=k))=true then kvs.map (fun kv=>if kv.1=k then(kv.1,y) else kv) else kvs++[(k,y)]
theorem jf.dct{p:Addr}{zs:List (jl×V)}{o:HO}(h:H p=some (.dK zs)):jf H (upd H p o):=fun a u i q=>by rw[qu ?_];exact q;rintro rfl;rw[h] at q;cases q;cases i
theorem ada{kvs:List (jl×Y)}{xs:List (jl×V)}(p:Paired (fun(p:jl×Y) (q:jl×V)=>p.1=q.1/\RV G H p.2 q.2) kvs xs)(k:jl):(kvs.any fun kv=>decide (kv.1=k))=xs.any fun kv=>decide (kv.1=k):=by induction p with|nil=>rfl|cons r t ih=>rw[Ca,Ca,ih,r.1]
theorem acf{kvs:List (jl×Y)}{xs:List (jl×V)}(p:Paired (fun(p:jl×Y) (q:jl×V)=>p.1=q.1/\RV G H p.2 q.2) kvs xs)(k:jl)(r:RV G H y v):
 Paired (fun(p:jl×Y) (q:jl×V)=>p.1=q.1/\RV G H p.2 q.2) (kvs.map fun kv=>if kv.1=k then(kv.1,y) else kv) (xs.map fun kv=>if kv.1=k then(kv.1,v) else kv):=by
 induction p with
 |nil=>exact .nil
 |@cons a b _ _ r' t ih=>
  refine .cons ?_ ih;obtain⟨e,q⟩:=r';dsimp only;by_cases c:a.1=k
  ·rw[AD c,AD (e▸c)];exact⟨e,r⟩
  ·rw[Ay c,Ay (fun z=>c (e.trans z))];exact⟨e,q⟩
theorem yX{kvs:List (jl×Y)}{xs:List (jl×V)}(p:Paired (fun(p:jl×Y) (q:jl×V)=>p.1=q.1/\RV G H p.2 q.2) kvs xs)(k:jl)(r:RV G H y v):
 Paired (fun(p:jl×Y) (q:jl×V)=>p.1=q.1/\RV G H p.2 q.2) (kvs++[(k,y)]) (xs++[(k,v)]):=by
 induction p with|nil=>exact .cons ⟨rfl,r⟩ .nil|cons r' t ih=>exact .cons r' ih
theorem ac5{kvs:List (jl×Y)}{xs:List (jl×V)}(p:Paired (fun(p:jl×Y) (q:jl×V)=>p.1=q.1/\RV G H p.2 q.2) kvs xs)(k:jl)(r:RV G H y v):
 Paired (fun(p:jl×Y) (q:jl×V)=>p.1=q.1/\RV G H p.2 q.2) (m7 kvs k y) (dM xs k v):=by
 unfold m7 dM;rw[ada p k];by_cases c:(xs.any fun kv=>decide (kv.1=k))=true
 ·rw[AD c,AD c];exact acf p k r
 ·rw[Ay c,Ay c];exact yX p k r
theorem ach{R:α->β->Prop}{l:List α}{m:List β}(p:Paired R l m):l.length=m.length:=by induction p with|nil=>rfl|cons _ _ ih=>rw[AG,AG,ih]
def ago(_:jp)(L:qm)(Q:YK):Prop:=∀p,L p=none->Q (.ref p) (qg L p (.dct []))
def gF(td ti:xp)(τ:jp)(L:qm)(Q:YK):Prop:=td τ L fun x L1=>ti τ L1 fun y L2=>match x,aix y with
 |.ref a,some k=>uH L2 a fun kvs=>wO L2 Q (aX kvs k)
 |_,_=>False
def ah7(td ti tv:xp)(D:vh)(τ:jp)(L:qm):Prop:=tv τ L fun v L1=>td τ L1 fun x L2=>ti τ L2 fun y L3=>match x,aix y with
 |.ref a,some k=>uH L3 a fun kvs=>kvs.length<sizeLine/\D.nx τ (qg L3 a (.dct (m7 kvs k v)))
 |_,_=>False
section
variable {i:Expr}{td ti tv:xp} 
theorem aem:QE X (.Dict [] [] pos) ago:=EF aan fun σ H Q ⟨τ,L,Q3,rs,rl,z,k⟩=>fun p hp=>by
 refine k _ _ _ (qg L p (.dct [])) (EE hp) (fun a u e=>?_) (by rfl) (z p (rl.none hp));by_cases c:a=p
 ·subst c;rw[q9] at e;cases e;exact⟨[],jd,.nil⟩
 ·rw[qd c] at e;exact(rl a u e).keep (EE hp) (qu c)
theorem bN(hu:X.A.units+128<cLine)(ho:QE X o td)(hi:QE X i ti)(hs:ail i):QE X (.Subscript o i pos) (gF td ti):=EF (adn (by omega) ho hi hs) fun σ H Q ⟨τ,L,Q3,rs,rl,z,k⟩=>
 ⟨τ,L,_,rs,rl,z,fun v H1 x L1 t1 rl1 rv1 z1=>⟨τ,L1,_,rs.ts t1,rl1,z1,fun w H2 y L2 t2 rl2 rv2 z2=>by
  split at z2
  ·rename_i a kk ek;obtain⟨kvs,e,z3⟩:=kA z2;obtain⟨yv,ev,q⟩:=jG z3;obtain⟨xs,e2,pr⟩:=rl2 a _ e;obtain⟨xv,ex,rx⟩:=oK pr ev;exact⟨a,xv,rv1,.inl ⟨xs,kk,.inl e2,sE ek rv2,ex.symm⟩,k _ H2 _ L2 (t1.trans t2) rl2 rx q⟩
  ·exact z2.elim⟩⟩
theorem afw(hu:X.A.units+128<cLine)(ho:QE X o td)(hi:QE X i ti)(hv:QE X value tv)(hs:swapsWith value (some (.Subscript o i pos')) pos.line X.env=pure false:=by rfl):QS X (.Assign [.Subscript o i pos'] value pos) (ah7 td ti tv):=
 EH (aen (by omega) ho hi hv hs) fun D σ H ⟨τ,L,D3,rs,rl,z,k⟩=>
 ⟨τ,L,_,rs,rl,z,fun v H1 vy L1 t1 rl1 rv1 z1=>⟨τ,L1,_,rs.ts t1,rl1,z1,fun x H2 xy L2 t2 rl2 rv2 z2=>⟨τ,L2,_,rs.ts (t1.trans t2),rl2,z2,fun w H3 y L3 t3 rl3 rv3 z3=>by
  split at z3
  ·rename_i a kk ek;obtain⟨kvs,e,hl,q⟩:=kA z3;obtain⟨xs,e2,pr⟩:=rl3 a _ e;have tt:jf H3 (upd H3 a (.dK (dM xs kk v))):=jf.dct e2;cases (show x=V.ref a from rv2);refine⟨a,_,rfl,.inl ⟨xs,kk,e2,sE ek rv3,by rw[<-ach pr];exact hl,rfl⟩,?_⟩;refine k.nx _ _ _ _ (((t1.trans t2).trans t3).trans tt) (rs.ts (((t1.trans t2).trans t3).trans tt)) (fun b u eb=>?_) q;by_cases c:b=a
   ·subst c;rw[q9] at eb;cases eb;exact⟨_,jd,EI (ac5 pr kk (rv1.ts (t2.trans t3))) fun _ _ ⟨h1,h2⟩=>⟨h1,h2.ts tt⟩⟩
   ·rw[qd c] at eb;exact(rl3 b u eb).keep tt (qu c)
  ·exact z3.elim⟩⟩⟩
end
def agt(to ti tv:xp)(D:vh)(τ:jp)(L:qm):Prop:=tv τ L fun v L1=>to τ L1 fun x L2=>ti τ L2 fun y L3=>match x,y with
 |.ref a,.int i=>cW L3 a fun ys=>wO L3 (fun j L=>D.nx τ (qg L a (.lst (ys.set j v)))) (ixN ys.length i)
 |_,_=>False
section
variable {i:Expr}{ti tv:xp} 
theorem adk(ho:QE X o to)(hi:QE X i ti)(hv:QE X value tv)
 (ha:∀v,assign (.Subscript o i pos') X.env v=(do
  let ov <-holding [v] (eval o X.env)
  let iv <-holding [v,ov] (eval i X.env)
  standAt pos'
  holding [v,ov,iv] (setItem ov iv v)
  release [v,ov,iv] []):=by intro _;rfl)
 (h1:swapsWithSole [.Subscript o i pos'] value pos.line X.env=pure false:=by rfl) (h2:swappedStores [.Subscript o i pos'] value X.env=pure none:=by rfl)
 (h3:(assignEach [.Subscript o i pos'] X.env).map (·.2)=[assign (.Subscript o i pos') X.env]:=by rfl):QS X (.Assign [.Subscript o i pos'] value pos) (agt to ti tv):=
 EH (abv hv (aiv ho hi aaf ha) h1 h2 h3) fun D σ H ⟨τ,L,D3,rs,rl,z,k⟩=>
 ⟨τ,L,_,rs,rl,z,fun v H1 vy L1 t1 rl1 rv1 z1=>⟨τ,L1,_,rs.ts t1,rl1,z1,fun x H2 xy L2 t2 rl2 rv2 z2=>⟨τ,L2,_,rs.ts (t1.trans t2),rl2,z2,fun w H3 y L3 t3 rl3 rv3 z3=>by
  split at z3
  ·rename_i a ii;obtain⟨ys,e,z4⟩:=xh z3;obtain⟨j,ej,q⟩:=jG z4;obtain⟨xs,e2,r⟩:=rl3 a _ e;cases (show x=V.ref a from rv2);cases (show w=V.int ii from rv3);have tt:jf H3 (upd H3 a (.lst (xs.set j v))):=EN e2;exact⟨a,xs,ii,j,rfl,rfl,e2,by rw[<-r.length];exact ej,k.nx _ _ _ _ (((t1.trans t2).trans t3).trans tt) (rs.ts (((t1.trans t2).trans t3).trans tt)) (rl3.setL e2 (xo.setY (rv1.ts (t2.trans t3)) j r)) q⟩
  ·exact z3.elim⟩⟩⟩
end
end L3
namespace L2
open PySem PySem.Spec PyProof.Rows
section
variable {v₁ v₂:Expr}{te:TE}{u:Str->TE} 
end
end L2
namespace L3
open PySem L2
section
variable {v₁ v₂:Expr}{u:Str->xp} 
end
section
variable {tv:xp}{f m:Str}{g:Addr}
end
open PySem.AutoSeq1 (wpAny_loadPart')
open MeetsSeq MeetsSeq2 MeetsSeq3 SeqRoads2
end L3
namespace L2
open PySem PySem.Spec PyProof.Rows
end L2
namespace Txs
open PySem PySem.Builtin.Str
theorem len_list(x:Str):x.cps.toList.length=x.length:=by simp[Str.length]
end Txs
namespace L2
open PySem PySem.Spec PyProof.Rows
section
variable {isp imk c j1 j2:Nat}{sp mk:Str}{u:Tok}{m:Str->Option Value}{p6 p7 p8 p9 p10:Pos}{Q:Flow->Shared->Prop}
end
end L2
namespace L3
open PySem L2
end L3
namespace L2
open PySem PySem.Spec PyProof.Rows
section
end
end L2
namespace L3
open PySem L2
section
variable {m:Str}{k:Nat}{sp:jw}
end
end L3
namespace L2
open PySem PySem.Spec PyProof.Rows
end L2
namespace L3
open PySem L2
end L3
namespace L2
open PySem PySem.Spec PyProof.Rows
section
variable {te:TE} 
end
end L2
namespace L3
open PySem L2
section
end
end L3
namespace L2
open PySem PySem.Spec PyProof.Rows
end L2
namespace L3
open PySem L2 PySem.Spec PyProof.Rows
end L3
namespace L2
open PySem PySem.Spec PyProof.Rows
section
variable {a T:Addr}{tr:Option Addr}
end
section
variable {T:List Str}{iter:Expr}{g:TG}{tc:TT}{te:TE}
end
section
variable {a b T:Addr}{tr:Option Addr}{E1:X1}
end
section
variable {k:Nat}{E1:X1}{t:TA}
end
end L2
namespace L3
open PySem L2
section
variable {T:List Str}{iter:Expr}{wi:TI3}{E3:X3}{Ea:Addr->qm->Prop}
end
end L3
namespace L2
open PySem PySem.Spec PyProof.Rows
section
end
end L2
namespace L3
open PySem L2
end L3
namespace L2
open PySem PySem.Spec PyProof.Rows
section
variable {w:World} 
theorem tI{it t:Addr}{its:Array Value}(hne:t≠it):∀(n i:Nat) (s:Shared) (Q:List Value->Shared->Prop),s.heap.IsListIter it t i->s.heap.IsList t its->i+n≤its.size->
 (∀h',h'.IsListIter it t (i+n)->Heap.SameBut it s.heap h'->Q ((its.toList.drop i).take n) { s with heap:=h' })->wpAny (model prog w) A (draw (.ref it) n) Q E s
 |0,i,s,Q,hit,_,_,hQ=>by unfold draw;exact Ag (by simpa using hQ s.heap hit (Heap.SameBut.refl ..))
 |n+1,i,s,Q,hit,ht,hle,hQ=>by
  have hlt:i<its.size:=by omega
  unfold draw;refine Aa (wpAny_pyNext_list_item hit ht (x:=its[i]) (by simp[hlt]) fun g1 it1 sb1=>?_);refine Aa (A7 (tI hne n (i+1) _ _ it1 (ht.extBut sb1.extBut hne) (by lia) fun g2 it2 sb2=>Ag ?_));have e:its.toList.drop i=its[i]::its.toList.drop (i+1):=by simp[BQ,hlt]
  have q:=hQ g2 (by rw[show i+(n+1)=i+1+n by simp +arith only];exact it2)
   (sb1.trans sb2)
  rw[e,List.take_succ_cons] at q;exact q
theorem ado{t:Addr}{its:Array Value}{Q:Unit->Shared->Prop}(hh:A.handled=none)(ht:s.heap.IsList t its)(hn:(assignEach elts env).length=its.size)(hst:(assignEach elts env).findIdx? (·.1)=none)
 (h:∀g,Heap.ExtBut s.heap.objs.size s.heap g->wpAny (model prog w) A (assignInOrder ((assignEach elts env).map (·.2)) its.toList) Q E { s with heap:=g }):wpAny (model prog w) A (assign (.Tuple elts x1 pos) env (.ref t)) Q E s:=by
 have hlt:t≠s.heap.objs.size:=by obtain⟨o,ho,_⟩:=ht;exact A3 (Heap.lt_size ho)
 rw[arm_assign_Tuple];refine Aa (wpAny_standAt ?_);unfold unpack;rw[hn,hst];refine Aa (A7 ?_);unfold unpackItems notIterableAtAll;refine Aa (Aa (wpAny_specialOf ht.typeIs slot_list_iter.lookup ?_));refine Ag ?_;rw[Ay (by simp)];refine Aa (A7 (wpAny_pyIter_list ht ?_));refine Aa (A7 (tI hlt its.size 0 _ _ ⟨_,Heap.get?_push_size _ rfl,rfl,rfl⟩ (ht.push _) (by simp +arith only) fun g1 it1 sb1=>?_));have all:List.take its.size (List.drop 0 its.toList)=its.toList:=by rw[El];exact Bg (by simp)
 rw[all,Ay (by simp)];have ht1:g1.IsList t its:=(ht.push _).extBut sb1.extBut hlt;refine Aa (A7 (wpAny_pyNext_list_end hh it1 ht1 (by simp) fun g2 eb2=>?_));rw[Ay (by simp)];exact Ag (h g2 fun b o hb e=>eb2 b o hb (sb1.extBut b o hb (Heap.get?_push_of_some _ e)))
end
section
def aqf(K:Ai)(n:Nat)(t:TGs):TG:=fun v σ H Q=>∃a xs,v=.ref a/\aE K H a xs/\xs.length=n/\t xs σ H Q
theorem air{k:Nat}{t:TGs}(hc:X.calm=true)(h:PGs X es t)
 (hn:(assignEach es X.env).length=n:=by rfl) (hst:(assignEach es X.env).findIdx? (·.1)=none:=by rfl):PG X (.Tuple es k pos) (aqf X.K n t):=by
 intro pins s σ H v u Q I r hw;obtain⟨a,xs,e1,hq,hl,hw⟩:=hw;subst e1;cases r;obtain⟨its,rv,pl,hz⟩:=I.list hq;have ht:=j6 pl;refine ado (I.ok.hd hc) ht (by simp[hn,<-hl,rv.length]) hst fun h' hx=>?_;have I1:z9 X pins σ H { s with heap:=h' }:=I.kept (t':=s.toks) fun b o e=>hx b o (A3 (Heap.lt_size e)) e;exact h pins _ σ H xs _ Q I1 (by simpa using rv) hw
end
section
theorem afr(l:Addr)(its:Array Value)(n:Nat)(x:Value)(b:Nat->Bool)(j:Nat)(hj:j<its.size)(hit:b j=true)(hz:its.size≤sizeLine):∀(k i:Nat),j - i=k->i≤j->(∀m,i≤m->m<j->b m=false)->
 Meets (Builtin.«list.remove.loop» ⟨[.ref l,x,rawInt i],[]⟩) (fun A R s=>s.heap.get? l=some { cls:=.type "list",dict:=none,data:=.seq its n,slots:=#[] }/\(∀m (hm:m<its.size),SeqAt.EqAt A.in1 s its[m] x (b m))/\R (.ok (.ret .none)) { s with heap:=s.heap.update l (Obj.mapSeq fun xs=>xs.eraseIdxIfInBounds j) }):=by
 intro k
 induction k with
 |zero=>
  intro i hk hij hno prog w A R s h;obtain⟨hp,g,d,tk,os⟩:=s;obtain⟨hl,eq,h⟩:=h;have e:i=j:=by lia
  subst e
  (wp_walk using wpAny_loadPart' hl)
  have hi:its[((i:Nat):Int).toNat]?=some its[i]:=by simp[hj]
  rw[hi];refine Aa (eq i hj prog w _ _ ?_);rw[hit];have hz':(its.eraseIdxIfInBounds i).size≤sizeLine+1:=AS (MeetsSeq.size_erased its _) (C6 hz)
  (wp_walk using (wpAny_updateSeq hl rfl (hz:=hz) (_hz':=hz')),wpAny_loadPart' hl)
  simpa using h
 |succ k ih=>
  intro i hk hij hno prog w A R s h;obtain⟨hp,g,d,tk,os⟩:=s;obtain⟨hl,eq,h⟩:=h;have hlt:i<its.size:=by exact gu
  (wp_walk using wpAny_loadPart' hl)
  have hi:its[((i:Nat):Int).toNat]?=some its[i]:=by simp[hlt]
  have hc:((i:Int)+1)=((i+1:Nat):Int):=by rfl
  rw[hi];refine Aa (eq i hlt prog w _ _ ?_);rw[hno i (Ao _) (by omega)]
  wp_walk
  rw[hc];refine⟨plainId_quiet MeetsSeq.plain_remove_loop _,codeAny_builtin MeetsSeq.entry_remove_loop ?_⟩;rw[Around.under_plainId MeetsSeq.plain_remove_loop _];exact ih (i+1) (by omega) (by omega) (fun m h1 h2=>hno m (by exact fI) h2) prog w A R _ ⟨hl,eq,h⟩
theorem aal(l:Addr)(its:Array Value)(n:Nat)(x:Value)(b:Nat->Bool)(j:Nat)(hj:j<its.size)(hit:b j=true)(hz:its.size≤sizeLine)(hno:∀m,m<j->b m=false):
 Meets (Builtin.«list.remove» ⟨[.ref l,x],[]⟩) (fun A R s=>s.heap.get? l=some { cls:=.type "list",dict:=none,data:=.seq its n,slots:=#[] }/\(∀m (hm:m<its.size),SeqAt.EqAt A.in1 s its[m] x (b m))/\R (.ok (.ret .none)) { s with heap:=s.heap.update l (Obj.mapSeq fun xs=>xs.eraseIdxIfInBounds j) }):=by
 intro prog w A R s h;obtain⟨hp,g,d,tk,os⟩:=s;obtain⟨hl,eq,h⟩:=h
 (wp_walk using wpAny_loadPart' hl)
 refine⟨plainId_quiet MeetsSeq.plain_remove_loop _,codeAny_builtin MeetsSeq.entry_remove_loop ?_⟩;rw[Around.under_plainId MeetsSeq.plain_remove_loop _];exact afr l its n x b j hj hit hz _ 0 rfl (Bb _) (fun m _ h2=>hno m h2) prog w A R _ ⟨hl,eq,h⟩
end
theorem zp.eraseN:∀{xs:List V} {us:List Value} (n:Nat),zp xs us->zp (xs.eraseIdx n) (us.eraseIdx n)
 |[],_,n,.nil=>by simp;exact .nil
 |_::_,_,0,.cons _ t=>t
 |_::_,_,n+1,.cons r t=>.cons r (zp.eraseN n t)
section
def afd(X:Cx):V->List V->Hp->VK->Prop:=fun x vs H Q=>∃l xs y ds e,∃n m j:Nat,x=.ref l/\vs=[y]/\H l=some (.lst xs)/\n≤126/\Paired (vv X.K H n) xs ds/\vv X.K H m y e/\j<ds.length/\(∃d,ds[j]?=some d/\Da.eq d e=true)/\
 (∀(k:Nat) d,k<j->ds[k]?=some d->Da.eq d e=false)/\Q .non (upd H l (.lst (xs.eraseIdx j)))
theorem yN(hu:X.A.units+128<cLine):lG X "list.remove" (afd X):=by
 intro pins s σ H x vs v us Q I rx rv h;obtain⟨l,xs,y,ds,e,n,m,j,rfl,rfl,hH,hn,pd,ry,hj,⟨dj,edj,hdj⟩,hno,q⟩:=h;cases rx;obtain⟨u,rfl,ru⟩:=rv.one;obtain⟨z,its,nn,r,hl,eo⟩:=I.lstM hH;have l1:xs.length=ds.length:=pd.length;have l2:its.length=xs.length:=r.length.symm;obtain⟨arr,harr⟩:∃arr:Array Value,arr=its.toArray:=⟨_,rfl⟩;have hsz:arr.size=its.length:=by rw[harr,Am]
 have b:Nat->Bool:=fun _=>true;have hzz:arr.size≤sizeLine:=by rw[hsz];lia
 have M:=aal l arr nn u (fun k=>((ds[k]?).map fun d=>Da.eq d e).getD false) j (by lia) (by show((ds[j]?).map fun d=>Da.eq d e).getD false=true;rw[edj];exact hdj) hzz (fun k hk=>by show((ds[k]?).map fun d=>Da.eq d e).getD false=false;cases ek:ds[k]? with|none=>rfl|some d=>exact hno k d hk ek)
 rw[harr] at M;refine call_meets F.slot_list_remove ⟨_,eo,rfl⟩ F.entry_list_remove (F.args_list_remove_2 _ _) M ⟨eo,fun k hk=>?_,?_⟩
 ·have hk':k<its.length:=by rw[Am] at hk;exact hk
  obtain⟨d,ed,rd⟩:=Words.Paired.getP pd (Aj (by lia:k<xs.length));show SeqAt.EqAt _ s _ u (((ds[k]?).map fun d=>Da.eq d e).getD false);rw[ed];obtain⟨u',eu',ru'⟩:=Words.Paired.getP r (Aj (by lia:k<xs.length));have eg:its.toArray[k]=u':=by have:=(AZ.mp eu').2;simpa using this
  rw[eg];exact lD I n (by show X.A.units+1+n<cLine;lia) rd ry ru' ru
 ·refine⟨.non,_,I.lset (its':=its.eraseIdx j) hH eo ?_ (r.eraseN j) ?_,rfl,q⟩
  ·have:j<its.length:=by lia
   simp[Array.eraseIdxIfInBounds,this]
  ·have:=CZ xs j;exact ahm
end
end L2
namespace L3
open PySem L2
def agl(n:Nat)(t:sM)(y:Y)(τ:jp)(L:qm)(Q:jp->qm->Prop):Prop:=match y with
 |.ref a=>cW L a fun ys=>match ys.length==n with
  |true=>t ys τ L Q
  |false=>False
 |_=>False
theorem aj0{kk:Nat}(hc:X.calm=true)(h:QGs X es gs)(h1:(assignEach es X.env).length=n:=by rfl)(h2:(assignEach es X.env).findIdx? (·.1)=none:=by rfl):QG X (.Tuple es kk pos) (agl n gs):=
 PG.imp (air hc h h1 h2) fun v σ H Q ⟨y,τ,L,Q3,rv,rs,rl,z,k⟩=>by
 cases y with
 |ref a=>
  cases (show v=.ref a from rv);obtain⟨ys,e,z'⟩:=xh z;obtain⟨xs,e2,r⟩:=rl a _ e;split at z'
  ·rename_i ee;exact⟨a,xs,rfl,ES e2,by rw[<-r.length];exact beq_iff_eq.mp ee,ys,τ,L,Q3,r,rs,rl,z',k⟩
  ·exact z'.elim
 |_=>exact z.elim
def jR(x:Y)(vs:List Y)(L:qm)(Q:YK):Prop:=match x,vs with
 |.ref a,[v]=>cW L a fun ys=>∃ds e,∃n m j:Nat,n≤126/\Paired (ju L n) ys ds/\ju L m v e/\j<ds.length/\(∃d,ds[j]?=some d/\Da.eq d e=true)/\(∀(k:Nat) d,k<j->ds[k]?=some d->Da.eq d e=false)/\Q .non (qg L a (.lst (ys.eraseIdx j)))
 |_,_=>False
theorem ab1(hu:X.A.units+128<cLine):lG X "list.remove" (upM X.g3 jR):=lG.imp (yN hu) fun x xs H Q ⟨y,ys,L,Q3,r1,r2,rl,z,k⟩=>by
 unfold jR at z;split at z
 ·rename_i a v;obtain⟨zs,e,ds,de,n,m,j,hn,pd,dv,hj,hit,hno,z⟩:=xh z;obtain⟨us,e2,r⟩:=rl a _ e;obtain⟨v',rfl,rv⟩:=r2.inv1;have both:∀{ys:List Y} {ds:List Da} {xs:List V},Paired (ju L n) ys ds->xo X.g3 H ys xs->Paired (vv X.K H n) xs ds:=by
   intro ys ds xs p
   induction p generalizing xs with
   |nil=>intro q;cases (show xs=[] from q);exact .nil
   |cons h t ih=>
    rintro⟨x,xs',rfl,q1,q2⟩;exact .cons (ju.rep rl h q1) (ih q2)
  exact⟨a,us,v',ds,de,n,m,j,r1,rfl,e2,hn,both pd r,ju.rep rl dv rv,hj,hit,hno,k _ _ _ _ (EN e2) (rl.setL e2 (r.eraseIdx j)) (by rfl) z⟩
 ·exact z.elim
theorem yq(hu:X.A.units+128<cLine)(ho:QE X o to)(ha:QA X (e::es) tr)(h4:attributeBase o "remove" X.env (eval o X.env)=eval o X.env:=by rfl)
 (h5:((backTo cpos (starEach (e::es) X.env)).all (fun x=>!x.1)&&(backToKw cpos (keywordEach [] X.env)).all (fun x=>x.1.isSome)&&decide ((e::es).length+([]:List Keyword).length+(if ([]:List Keyword).isEmpty=true then 0 else 1)<30))=true:=by rfl)
 (h6:(apos.endLine==cpos.line)=true:=by rfl) (h7:Es e es X:=by rfl) (h8:Et cpos es X:=by rfl):
 QE X (.Call (.Attribute o "remove" apos) (e::es) [] cpos) (aW jR to tr):=qQ PySem.F.slot_list_remove PySem.F.type_list_remove (ab1 hu) ho ha h4 h5 h6 h7 h8
end L3
namespace L2
open PySem PySem.Spec PyProof.Rows
section
end
section
end
end L2
namespace L3
open PySem L2
end L3
namespace L2
open PySem PySem.Spec PyProof.Rows
section
def arm:List V->Hp->VK->Prop:=fun xs H Q=>∃n:Int,xs=[.int n]/\∀p,H p=none->Q (.ref p) (upd H p (.rng 0 n))
theorem abg:jq X (.type "range") arm:=by intro pins s σ H xs us Q I r h;obtain⟨n,rfl,q⟩:=h;obtain⟨u,rfl,ru⟩:=r.one;obtain⟨t,rfl⟩:=(show ∃t,u=Value.int n t from ru);refine call_range_1 ?_;refine⟨.ref s.heap.objs.size,_,I.laid (t':=s.toks+1+1) (o:=.rng 0 n) (fun b ob q=>Heap.get?_push_of_some _ q) (Ao _) ?_,rfl,q _ (I.hok.fresh (Ao _))⟩;exact⟨s.toks,t,s.toks+1,Heap.get?_push_size _ rfl⟩
theorem uZ{acc:Array Value}(h:ItemsOf (fun i v=>∃t,v=.int (0+(i:Int)*1) t) acc n):zp ((List.range n).map fun i:Nat=>V.int (0+(i:Int))) acc.toList:=by
 have len:acc.toList.length=n:=by rw[AJ];exact h.1
 have key:∀(l:List Value) (k:Nat),(∀(j:Nat) v,l[j]?=some v->∃t,v=Value.int (0+((k+j:Nat):Int)*1) t)->zp ((List.range' k l.length).map fun i:Nat=>V.int (0+(i:Int))) l:=by
  intro l
  induction l with
  |nil=>intro k _;exact .nil
  |cons v r ih=>
   intro k hk;rw[AG,DU,Az];obtain⟨t,e⟩:=hk 0 v rfl;refine .cons ?_ (ih (k+1) fun j v' hj=>?_)
   ·exact⟨t,by rw[e];simp⟩
   ·have:=hk (j+1) v' hj;rw[show k+1+j=k+(j+1) by simp +arith only];exact this
 have:=key acc.toList 0 fun j v hj=>by rw[Ec];exact h.2 j v (by simpa using hj)
 rw[len,<-List.range_eq_range'] at this;exact this
def an3:List V->Hp->VK->Prop:=fun xs H Q=>∃a,∃n:Nat,xs=[.ref a]/\H a=some (.rng 0 n)/\n≤100000/\∀p,H p=none->Q (.ref p) (upd H p (.lst ((List.range n).map fun i:Nat=>V.int (0+(i:Int)))))
theorem zH(hc:X.calm=true):jq X (.type "list") an3:=by
 intro pins s σ H xs us Q I r h;obtain⟨a,n,rfl,ha,hn,q⟩:=h;obtain⟨u,rfl,ru⟩:=r.one;cases (show u=Value.ref a from ru);obtain⟨t,u,v,e⟩:=I.hok a _ ha;have hb:(100000:Nat)≤sizeLine:=by decide
 have rs:Builtin.Range.rangeSize 0 (n:Int) 1=((n:Nat):Int):=by rw[rangeSize_one];split<;>lia
 refine ji I.tk (call_list_range (I.ok.hd hc) (show IsRange s.heap a 0 (n:Int) 1 t u v from e) (small_one (by decide) (by decide) (by exact AY _) (by omega)) rs (AS hn (by decide)) fun h' tk acc c hk hS hacc ht=>?_);refine⟨.ref s.heap.objs.size,_,I.laid (t':=tk) (o:=.lst ((List.range n).map fun i:Nat=>V.int (0+(i:Int)))) hk (Ao _) ?_,rfl,q _ (I.hok.fresh (Ao _))⟩;refine⟨by rw[Ae,B7];exact ahm,acc.toList,c,uZ hacc,?_⟩;rw[hS]
def ala:List V->Hp->VK->Prop:=fun xs H Q=>∃b:Bool,xs=[.bl b]/\Q (.int (if b=true then 1 else 0)) H
theorem yk:jq X (.type "int") ala:=by intro pins s σ H xs us Q I r h;obtain⟨b,rfl,q⟩:=h;obtain⟨u,rfl,ru⟩:=r.one;cases (show u=Value.bool b from ru);exact call_int_bool ⟨.int _,_,I.tok (s.toks+1),⟨_,rfl⟩,q⟩
end
end L2
namespace L3
open PySem L2
theorem ahc:bootBuiltins "range" = some (.type "range"):=by decide +kernel
def sw(te:xp)(τ:jp)(L:qm)(Q:YK):Prop:=te τ L fun y L1=>match y with
 |.int n=>(0≤n/\n≤100000)/\∀p,L1 p=none->Q (.ref p) (qg L1 p (.lst (ag 0 n.toNat)))
 |_=>False
theorem aet(n:Nat):xo G H (ag 0 n) ((List.range n).map fun i:Nat=>V.int (0+(i:Int))):=by
 unfold ag;generalize List.range n=l
 induction l with|nil=>rfl|cons k r ih=>exact⟨_,_,rfl,rfl,ih⟩
theorem tf{pos2:Pos}(hc:X.calm=true)(hg:Gl X "list")(hm:X.mg "list" = none)(hg2:Gl X "range")(hm2:X.mg "range" = none)(h:QE X e te)
 (h1:starEach [.Call (.Name "range" p2) [e] [] pos2] X.env=(false,eval (.Call (.Name "range" p2) [e] [] pos2) X.env)::starEach [] X.env:=by rfl) (h2:(backTo pos (starEach [] X.env)).any (·.1)=false:=by rfl)
 (h3:starEach [e] X.env=(false,eval e X.env)::starEach [] X.env:=by rfl) (h4:(backTo pos2 (starEach [] X.env)).any (·.1)=false:=by rfl):
 QE X (.Call (.Name "list" p) [.Call (.Name "range" p2) [e] [] pos2] [] pos) (sw te):=
 EF (gp (zH hc) hg hm ak (aU (gp abg hg2 hm2 ahc (aU h fG h3) (by decide) (by decide) h3 h4) fG h1) (by decide) (by decide) h1 h2) fun σ H Q ⟨τ,L,Q3,rs,rl,z,k⟩=>
 ⟨τ,L,_,rs,rl,z,fun v H1 y L1 t1 rl1 rv1 z1=>by
  cases y with
  |int n=>
   obtain⟨⟨h0,h5⟩,z1⟩:=z1;cases (show v=V.int n from rv1);obtain⟨m,rfl⟩:∃m:Nat,n=(m:Int):=⟨n.toNat,by lia⟩;refine⟨_,rfl,fun q hq=>⟨q,m,rfl,jd,by lia,fun p hp=>?_⟩⟩;have hp1:H1 p=none:=by
    by_cases c:p=q
    ·subst c;exact hq
    ·rw[qu c] at hp;exact hp
   exact k _ _ _ _ (t1.trans ((EE hq).trans (EE hp))) ((rl1.skip hq).newL hp (aet m)) (by rfl) (z1 p (rl1.none hp1))
  |_=>exact z1.elim⟩
def ab8(xs:List Y)(L:qm)(Q:YK):Prop:=match xs with
 |[.bl b]=>Q (.int (if b=true then 1 else 0)) L
 |_=>False
theorem ahs :jq X (.type "int") (upL X.g3 ab8):=ER yk fun xs H Q ⟨ys,L,Q3,rv,rl,z,k⟩=>by
 unfold ab8 at z;split at z
 ·rename_i b;obtain⟨u,rfl,ru⟩:=rv.inv1;cases (show u=V.bl b from ru);exact⟨b,rfl,k _ _ _ _ (EC _) rl (by rfl) z⟩
 ·exact z.elim
section
variable {m:Str}{g:Addr}
end
end L3
namespace TS
open PySem PyProof.Rows
def ag7:Bool->Keyed->Array Keyed->Nat->Nat->Nat->StateT SortSt Sem (Option Nat):=sortPriv% PySem.Builtin.gallop
section
variable {w:World} 
structure xR(prog:Program)(w:World)(A:Around)(s:Shared)(κ:SortKind)(Ok:Keyed->Prop)(f:Keyed->Int):Prop where
 lt:∀x y,Ok x->Ok y->∀{E:Value->Shared->Prop} {Q:Bool->Shared->Prop},Q (decide (f x<f y)) s->wpAny (model prog w) A (keyLt' κ x.1 y.1) Q E s
variable {κ:SortKind}{Ok:Keyed->Prop}{f:Keyed->Int}
theorem w_lt(O:xR prog w A s κ Ok f){st:SortSt}{x y:Keyed}{Q:Option Bool->SortSt->Prop}(hk:kindOf st=κ)(hx:Ok x)(hy:Ok y)(h:Q (some (decide (f x<f y))) st):wpS (model prog w) A E s (lt' x y) Q st:=by rw[lt'_eq];refine Ab (wpS_get ?_);rw[hk];refine Ab (wpS_lift (wpAny_attempt (O.lt x y hx hy ⟨rfl,?_⟩)));exact Ac h
theorem xi{arr:Array Keyed}{x:Keyed}{st:SortSt}{Q:Keyed->SortSt->Prop}(h:arr[i]?=some x)(q:Q x st):wpS (model prog w) A E s (elem' arr i) Q st:=by rw[elem'_eq,h];exact Ac q
def bey(left:Bool)(key:Keyed)(arr:Array Keyed)(i:Nat):StateT SortSt Sem (Option Bool):=elem' arr i >>= fun x=>if left=true then lt' x key else lt' key x >>= fun r=>pure (r.map fun b=>!b)
theorem al4(O:xR prog w A s κ Ok f){left:Bool}{key x:Keyed}{arr:Array Keyed}{st:SortSt}{Q:Option Bool->SortSt->Prop}(hk:kindOf st=κ)(hkey:Ok key)(hx:Ok x)(hi:arr[i]?=some x)
 (q:Q (some (if left=true then decide (f x<f key) else !decide (f key<f x))) st):wpS (model prog w) A E s (bey left key arr i) Q st:=by
 refine Ab (xi hi ?_);cases left with|true=>exact w_lt O hk hx hkey q|false=>exact Ab (w_lt O hk hkey hx (Ac q))
theorem cN(O:xR prog w A s κ Ok f){left:Bool}{key:Keyed}{arr:Array Keyed}{base hint:Nat}{st:SortSt}{Q:Option Nat->SortSt->Prop}(hk:kindOf st=κ)(hkey:Ok key)(hh:hint<n)
 (it:Nat->Keyed) (hit:∀i,i<n->arr[base+i]?=some (it i)/\Ok (it i)) (bd:Nat->Bool) (hbd:∀i,i<n->bd i=if left=true then decide (f (it i)<f key) else !decide (f key<f (it i)))
 (mono:∀i j,i≤j->j<n->bd j=true->bd i=true)
 (q:∀k,k≤n->(∀i,i<k->bd i=true)->(∀i,k≤i->i<n->bd i=false)->Q (some k) st):wpS (model prog w) A E s (ag7 left key arr base n hint) Q st:=by
 have go:∀i,i<n->∀Q':Option Bool->SortSt->Prop,Q' (some (bd i)) st->wpS (model prog w) A E s (bey left key arr (base+i)) Q' st:=fun i hi Q' h=>al4 O hk hkey (hit i hi).2 (hit i hi).1 (by rw[<-hbd i hi];exact h);refine Ab (go hint hh _ ?_);dsimp only;cases hb:bd hint with
 |true=>
  rw[AD rfl];refine Ab (AR (AI (I:=fun x c st'=>st'=st/\∃la ofs,c=(none,la,ofs)/\la<ofs/\la<n - hint/\bd (hint+la)=true/\x+1≤ofs)
   (Q:=fun c st'=>st'=st/\∃la ofs,c=(none,la,ofs)/\la<ofs/\la<n - hint/\bd (hint+la)=true/\(n - hint≤ofs\/bd (hint+ofs)=false)) ?_ ?_ ⟨rfl,0,1,rfl,by exact Bz _,by omega,hb,by exact Bz _⟩) ?_)
  ·rintro x c st' _ hx ⟨rfl,la,ofs,rfl,h1,h2,h3,h4⟩;dsimp only;by_cases c:ofs≥n - hint
   ·rw[AD c];exact Ac ⟨rfl,la,ofs,rfl,h1,h2,h3,.inl c⟩
   ·rw[Ay c];refine Ab (go (hint+ofs) (by lia) _ ?_);dsimp only;cases hm:bd (hint+ofs) with
    |true=>
     rw[Ay (by simp)];exact Ac ⟨rfl,ofs,2*ofs+1,rfl,by simp +arith only,by exact amk,hm,by lia⟩
    |false=>
     rw[AD (by simp)];exact Ac ⟨rfl,la,ofs,rfl,h1,h2,h3,.inr hm⟩
  ·rintro c st' ⟨rfl,la,ofs,rfl,h1,h2,h3,h4⟩;exact⟨rfl,la,ofs,rfl,h1,h2,h3,.inl (by lia)⟩
  ·rintro c st' ⟨rfl,la,ofs,rfl,h1,h2,h3,h4⟩;dsimp only;obtain⟨lo,elo⟩:∃lo,lo=hint+la+1:=⟨_,rfl⟩;obtain⟨hi,ehi⟩:∃hi,hi=hint+min ofs (n - hint):=⟨_,rfl⟩;rw[<-elo,<-ehi];have g1:lo≤hi:=by omega
   have g2:hi≤n:=by lia
   have g3:∀i,i<lo->bd i=true:=fun i hi=>mono i (hint+la) (by lia) (by lia) h3;have g4:∀i,hi≤i->i<n->bd i=false:=fun i h5 h6=>by
    rcases h4 with h4 | h4
    ·omega
    ·cases e:bd i with
     |false=>rfl
     |true=>
      by_cases c:ofs<n - hint
      ·rw[mono (hint+ofs) i (by omega) h6 e] at h4;cases h4
      ·omega
   refine Ab (AR (AI (I:=fun x c sx=>sx=st'/\∃lo hi,c=(none,lo,hi)/\lo≤hi/\hi≤n/\(∀i,i<lo->bd i=true)/\(∀i,hi≤i->i<n->bd i=false)/\hi - lo+x≤n)
    (Q:=fun c sx=>sx=st'/\∃hi,c=(none,hi,hi)/\hi≤n/\(∀i,i<hi->bd i=true)/\(∀i,hi≤i->i<n->bd i=false)) ?_ ?_ ⟨rfl,lo,hi,rfl,g1,g2,g3,g4,by exact am9⟩) ?_)
   ·rintro x c st'' _ hx ⟨rfl,lo,hi,rfl,k1,k2,k3,k4,k5⟩;dsimp only;by_cases c:lo≥hi
    ·rw[AD c];have:lo=hi:=by lia
     subst this;exact Ac ⟨rfl,lo,rfl,k2,k3,k4⟩
    ·rw[Ay c];refine Ab (go (lo+(hi - lo) / 2) (by lia) _ ?_);dsimp only;cases hm:bd (lo+(hi - lo) / 2) with
     |true=>
      rw[AD rfl];exact Ac ⟨rfl,lo+(hi - lo) / 2+1,hi,rfl,by lia,k2,fun i h5=>mono i _ (by exact an4) (by lia) hm,k4,by lia⟩
     |false=>
      rw[Ay (by simp)];refine Ac ⟨rfl,lo,lo+(hi - lo) / 2,rfl,by exact A4 _ _,by lia,k3,fun i h5 h6=>?_,by omega⟩;cases e:bd i with|false=>rfl|true=>rw[mono _ i h5 h6 e] at hm;cases hm
   ·rintro c st'' ⟨rfl,lo,hi,rfl,k1,k2,k3,k4,k5⟩;have:lo=hi:=by lia
    subst this;exact⟨rfl,lo,rfl,k2,k3,k4⟩
   ·rintro c st'' ⟨rfl,hi,rfl,k2,k3,k4⟩;exact Ac (q hi k2 k3 k4)
 |false=>
  rw[Ay (by simp)];refine Ab (AR (AI (I:=fun x c st'=>st'=st/\∃la ofs,c=(none,la,ofs)/\la<ofs/\la<hint+1/\bd (hint - la)=false/\x+1≤ofs)
   (Q:=fun c st'=>st'=st/\∃la ofs,c=(none,la,ofs)/\la<ofs/\la<hint+1/\bd (hint - la)=false/\(hint+1≤ofs\/bd (hint - ofs)=true)) ?_ ?_ ⟨rfl,0,1,rfl,by lia,by exact CH _,hb,by lia⟩) ?_)
  ·rintro x c st' _ hx ⟨rfl,la,ofs,rfl,h1,h2,h3,h4⟩;dsimp only;by_cases c:ofs≥hint+1
   ·rw[AD c];exact Ac ⟨rfl,la,ofs,rfl,h1,h2,h3,.inl c⟩
   ·rw[Ay c];refine Ab (go (hint - ofs) (by exact mU) _ ?_);dsimp only;cases hm:bd (hint - ofs) with
    |true=>
     rw[AD rfl];exact Ac ⟨rfl,la,ofs,rfl,h1,h2,h3,.inr hm⟩
    |false=>
     rw[Ay (by simp)];exact Ac ⟨rfl,ofs,2*ofs+1,rfl,by lia,by exact amk,hm,by lia⟩
  ·rintro c st' ⟨rfl,la,ofs,rfl,h1,h2,h3,h4⟩;exact⟨rfl,la,ofs,rfl,h1,h2,h3,.inl (by exact iu)⟩
  ·rintro c st' ⟨rfl,la,ofs,rfl,h1,h2,h3,h4⟩;dsimp only;obtain⟨lo,elo⟩:∃lo,lo=hint+1 - min ofs (hint+1):=⟨_,rfl⟩;obtain⟨hi,ehi⟩:∃hi,hi=hint - la:=⟨_,rfl⟩;rw[<-elo,<-ehi];have g1:lo≤hi:=by omega
   have g2:hi≤n:=by omega
   have g3:∀i,i<lo->bd i=true:=fun i h5=>by
    rcases h4 with h4 | h4
    ·omega
    ·exact mono i (hint - ofs) (by omega) (by exact mU) h4
   have g4:∀i,hi≤i->i<n->bd i=false:=fun i h5 h6=>by cases e:bd i with|false=>rfl|true=>rw[mono (hint - la) i (by lia) h6 e] at h3;cases h3
   refine Ab (AR (AI (I:=fun x c sx=>sx=st'/\∃lo hi,c=(none,lo,hi)/\lo≤hi/\hi≤n/\(∀i,i<lo->bd i=true)/\(∀i,hi≤i->i<n->bd i=false)/\hi - lo+x≤n)
    (Q:=fun c sx=>sx=st'/\∃hi,c=(none,hi,hi)/\hi≤n/\(∀i,i<hi->bd i=true)/\(∀i,hi≤i->i<n->bd i=false)) ?_ ?_ ⟨rfl,lo,hi,rfl,g1,g2,g3,g4,by exact am9⟩) ?_)
   ·rintro x c st'' _ hx ⟨rfl,lo,hi,rfl,k1,k2,k3,k4,k5⟩;dsimp only;by_cases c:lo≥hi
    ·rw[AD c];have:lo=hi:=by lia
     subst this;exact Ac ⟨rfl,lo,rfl,k2,k3,k4⟩
    ·rw[Ay c];refine Ab (go (lo+(hi - lo) / 2) (by lia) _ ?_);dsimp only;cases hm:bd (lo+(hi - lo) / 2) with
     |true=>
      rw[AD rfl];exact Ac ⟨rfl,lo+(hi - lo) / 2+1,hi,rfl,by lia,k2,fun i h5=>mono i _ (by lia) (by lia) hm,k4,by lia⟩
     |false=>
      rw[Ay (by simp)];refine Ac ⟨rfl,lo,lo+(hi - lo) / 2,rfl,by lia,by lia,k3,fun i h5 h6=>?_,by lia⟩;cases e:bd i with|false=>rfl|true=>rw[mono _ i h5 h6 e] at hm;cases hm
   ·rintro c st'' ⟨rfl,lo,hi,rfl,k1,k2,k3,k4,k5⟩;have:lo=hi:=by lia
    subst this;exact⟨rfl,lo,rfl,k2,k3,k4⟩
   ·rintro c st'' ⟨rfl,hi,rfl,k2,k3,k4⟩;exact Ac (q hi k2 k3 k4)
end
def aag:Array Keyed->Array Keyed->StateT SortSt Sem (Array Keyed):=sortPriv% PySem.Builtin.mergeLo
def ace:Array Keyed->Array Keyed->StateT SortSt Sem (Array Keyed):=sortPriv% PySem.Builtin.mergeHi
structure MI(f:Keyed->Int)(la lb out ra rb:List Keyed):Prop where
 perm:(out++(ra++rb)).Perm (la++lb)
 so:out.Pairwise fun x y=>f x≤f y
 sa:ra.Pairwise fun x y=>f x≤f y
 sb:rb.Pairwise fun x y=>f x≤f y
 oa:∀x∈out,∀y∈ra,f x≤f y
 ob:∀x∈out,∀y∈rb,f x≤f y
theorem MI.a{f:Keyed->Int}{la lb out seg ra rb:List Keyed}(h:MI f la lb out (seg++ra) rb)(hs:∀x∈seg,∀y∈rb,f x≤f y):MI f la lb (out++seg) ra rb:=by
 have sa:=AQ.mp h.sa;refine⟨?_,AQ.mpr ⟨h.so,sa.1,fun x hx y hy=>h.oa x hx y (Ar _ hy)⟩,sa.2.1,h.sb,fun x hx y hy=>?_,fun x hx y hy=>?_⟩
 ·have:=h.perm;rw[AA] at this ⊢;exact this
 ·rcases Ak.mp hx with hx | hx
  ·exact h.oa x hx y (Af _ hy)
  ·exact sa.2.2 x hx y hy
 ·rcases Ak.mp hx with hx | hx
  ·exact h.ob x hx y hy
  ·exact hs x hx y hy
theorem MI.b{f:Keyed->Int}{la lb out seg ra rb:List Keyed}(h:MI f la lb out ra (seg++rb))(hs:∀x∈seg,∀y∈ra,f x≤f y):MI f la lb (out++seg) ra rb:=by
 have sb:=AQ.mp h.sb;refine⟨?_,AQ.mpr ⟨h.so,sb.1,fun x hx y hy=>h.ob x hx y (Ar _ hy)⟩,h.sa,sb.2.1,fun x hx y hy=>?_,fun x hx y hy=>?_⟩
 ·refine List.Perm.trans ?_ h.perm;rw[AA];exact(Bu out).mpr (by rw[<-AA,<-AA];exact(Bi rb).mpr Bf)
 ·rcases Ak.mp hx with hx | hx
  ·exact h.oa x hx y hy
  ·exact hs x hx y hy
 ·rcases Ak.mp hx with hx | hx
  ·exact h.ob x hx y (Af _ hy)
  ·exact sb.2.2 x hx y hy
def ky(f:Keyed->Int)(la lb r:List Keyed):Prop:=r.Perm (la++lb)/\r.Pairwise fun x y=>f x≤f y
theorem MI.ea{f:Keyed->Int}{la lb out ra:List Keyed}(h:MI f la lb out ra []):ky f la lb (out++ra):=⟨by have:=h.perm;rwa[AW] at this,AQ.mpr ⟨h.so,h.sa,h.oa⟩⟩
theorem MI.eb{f:Keyed->Int}{la lb out ra rb:List Keyed}(h:MI f la lb out ra rb)(hs:∀x∈rb,∀y∈ra,f x≤f y):ky f la lb (out++rb++ra):=by
 refine⟨List.Perm.trans ?_ h.perm,?_⟩
 ·rw[AA];exact(Bu out).mpr Bf
 ·rw[AA];refine AQ.mpr ⟨h.so,AQ.mpr ⟨h.sb,h.sa,hs⟩,fun x hx y hy=>?_⟩;rcases Ak.mp hy with hy | hy
  ·exact h.ob x hx y hy
  ·exact h.oa x hx y hy
structure MP(f:Keyed->Int)(a b out:Array Keyed)(ia ib:Nat):Prop where
 mi:MI f a.toList b.toList out.toList (a.toList.drop ia) (b.toList.drop ib)
 sz:out.size=ia+ib
 la:ia≤a.size
 lb:ib≤b.size
theorem ah8(a:Array Keyed)(h:i<a.size):a.toList.drop i=a[i]::a.toList.drop (i+1):=by rw[BQ (by simpa using h)];simp
theorem gY(a:Array Keyed)(i j:Nat):(a.extract i j).toList=(a.toList.drop i).take (j - i):=by rw[Array.toList_extract,List.extract_eq_drop_take]
theorem je(l:List Keyed)(i k:Nat):(l.drop i).take k++l.drop (i+k)=l.drop i:=by rw[<-C7,Bj]
theorem qA{a:Array Keyed}{k:Nat}{x:Keyed}(h:x∈(a.toList.drop i).take k):∃j,∃hj:i+j<a.size,j<k/\a[i+j]=x:=by
 obtain⟨j,hj,e⟩:=A2 h;rw[AK,Bw] at hj;have h1:i+j<a.size:=by have:a.toList.length=a.size:=AJ;omega
 refine⟨j,h1,by omega,?_⟩;rw[<-e];simp
theorem fz{a:Array Keyed}{x:Keyed}(h:x∈a.toList.drop i):∃j,∃hj:j<a.size,i≤j/\a[j]=x:=by
 obtain⟨j,hj,e⟩:=A2 h;rw[Bw] at hj;have h1:i+j<a.size:=by have:a.toList.length=a.size:=AJ;omega
 refine⟨i+j,h1,by exact A4 _ _,?_⟩;rw[<-e];simp
theorem zU{f:Keyed->Int}{a:Array Keyed}(s:a.toList.Pairwise fun x y=>f x≤f y)(hij:i≤j)(hj:j<a.size):f (a[i]'(by exact gu))≤f a[j]:=by
 rcases DB hij with h | h
 ·have:=B4.mp s i j (by simpa using (by exact gu:i<a.size)) (by simpa using hj) h;simpa using this
 ·subst h;exact C0 _
section
variable {f:Keyed->Int}{a b out:Array Keyed}{ia ib:Nat}
theorem MP.segA(M:MP f a b out ia ib){k:Nat}(hk:ia+k≤a.size)(h:∀i (hi:ia+i<a.size),i<k->∀j (hj:j<b.size),ib≤j->f a[ia+i]≤f b[j]):MP f a b (out++a.extract ia (ia+k)) (ia+k) ib:=by
 refine⟨?_,?_,hk,M.lb⟩
 ·rw[A8,gY,show ia+k - ia=k by omega];refine MI.a (by rw[je];exact M.mi) fun x hx y hy=>?_;obtain⟨i,hi,h1,rfl⟩:=qA hx;obtain⟨j,hj,h2,rfl⟩:=fz hy;exact h i hi h1 j hj h2
 ·rw[BN,CW,M.sz];lia
theorem MP.segB(M:MP f a b out ia ib){k:Nat}(hk:ib+k≤b.size)(h:∀i (hi:ib+i<b.size),i<k->∀j (hj:j<a.size),ia≤j->f b[ib+i]≤f a[j]):MP f a b (out++b.extract ib (ib+k)) ia (ib+k):=by
 refine⟨?_,?_,M.la,hk⟩
 ·rw[A8,gY,show ib+k - ib=k by lia];refine MI.b (by rw[je];exact M.mi) fun x hx y hy=>?_;obtain⟨i,hi,h1,rfl⟩:=qA hx;obtain⟨j,hj,h2,rfl⟩:=fz hy;exact h i hi h1 j hj h2
 ·rw[BN,CW,M.sz];lia
theorem MP.oneA(M:MP f a b out ia ib)(hi:ia<a.size)(h:∀j (hj:j<b.size),ib≤j->f a[ia]≤f b[j]):MP f a b (out.push a[ia]) (ia+1) ib:=by refine⟨?_,by rw[Bl,M.sz];simp +arith only,hi,M.lb⟩;rw[CB];refine MI.a (seg:=[a[ia]]) (by rw[Dj,<-ah8 a hi];exact M.mi) fun x hx y hy=>?_;obtain⟨j,hj,h2,rfl⟩:=fz hy;rw[Aw.mp hx];exact h j hj h2
theorem MP.oneB(M:MP f a b out ia ib)(hi:ib<b.size)(h:∀j (hj:j<a.size),ia≤j->f b[ib]≤f a[j]):MP f a b (out.push b[ib]) ia (ib+1):=by refine⟨?_,by rw[Bl,M.sz];exact Ep _ _ _,M.la,hi⟩;rw[CB];refine MI.b (seg:=[b[ib]]) (by rw[Dj,<-ah8 b hi];exact M.mi) fun x hx y hy=>?_;obtain⟨j,hj,h2,rfl⟩:=fz hy;rw[Aw.mp hx];exact h j hj h2
theorem MP.done(M:MP f a b out ia ib)(h:ib=b.size):ky f a.toList b.toList (out++a.extract ia++b.extract ib).toList:=by have e:b.toList.drop ib=[]:=List.drop_eq_nil_of_le (by rw[AJ];lia);have m:=M.mi;rw[e] at m;have:=m.ea;rw[A8,A8,gY,gY,e,List.take_nil,AW,Bg (by simp)];exact this
theorem MP.last(M:MP f a b out ia ib)(h:ia+1=a.size)(hl:∀x∈b.toList,f x<f (a[a.size - 1]'(by omega))):ky f a.toList b.toList (out++b.extract ib++a.extract ia).toList:=by
 have:=M.mi.eb fun x hx y hy=>by
  obtain⟨j,hj,h2,rfl⟩:=fz hy;have e:j=a.size - 1:=by omega
  subst e;exact BO (hl x (CD hx))
 rw[A8,A8,gY,gY,Bg (by simp),Bg (by simp)];exact this
end
section
variable {w:World}{κ:SortKind}{Ok:Keyed->Prop}{f:Keyed->Int}
abbrev ff(st:SortSt)(g:Nat):SortSt:=SortSt.mk' (kindOf st) (arrOf st) (pendingOf st) g (failedOf st)
theorem sQ{c:Prop}{_:Decidable c}{K:β->StateT SortSt Sem α}{y:β}{Q:α->SortSt->Prop}{st:SortSt}(key:∀z,wpS (model prog w) A E s (K z) Q st):∀x,wpS (model prog w) A E s (if c then K x else K y) Q st:=fun x=>by
 by_cases h:c
 ·rw[AD h];exact key x
 ·rw[Ay h];exact key y
theorem jT{γ:Type}{c:Prop}{_:Decidable c}{K T:β->γ->StateT SortSt Sem α}{P:β->γ->Prop}{x:β}{i:γ}{Q:α->SortSt->Prop}{st:SortSt}(key:∀o j,P o j->wpS (model prog w) A E s (K o j) Q st)(hn:¬c->P x i)
 (hp:c->(∀o j,P o j->wpS (model prog w) A E s (K o j) Q st)->wpS (model prog w) A E s (T x i) Q st):∀o,x=o->∀j,i=j->wpS (model prog w) A E s (if c then T o j else K o j) Q st:=by
 rintro _ rfl _ rfl;by_cases h:c
 ·rw[AD h];exact hp h key
 ·rw[Ay h];exact key x i (hn h)
theorem yA(O:xR prog w A s κ Ok f){a b:Array Keyed}{st:SortSt}{Q:Array Keyed->SortSt->Prop}(hk:kindOf st=κ)(oka:∀x∈a.toList,Ok x)(okb:∀x∈b.toList,Ok x)
 (sa:a.toList.Pairwise fun x y=>f x≤f y) (sb:b.toList.Pairwise fun x y=>f x≤f y) (ha:0<a.size) (hb:0<b.size) (h0:∀x∈a.toList,f b[0]<f x) (hl:∀x∈b.toList,f x<f a[a.size - 1])
 (q:∀r g,ky f a.toList b.toList r.toList->Q r (ff st g)):wpS (model prog w) A E s (aag a b) Q st:=by
 refine Ab (wpS_lift (Bt ⟨rfl,?_⟩));refine Ab (xi (x:=b[0]) (by simp[hb]) ?_);dsimp only;have M0:MP f a b #[b[0]] 0 1:=by have M:MP f a b #[] 0 0:=⟨⟨by simp,by simp,by simpa using sa,by simpa using sb,by simp,by simp⟩,rfl,Bb _,Bb _⟩;have:=M.oneB hb fun j hj _=>BO (h0 a[j] (by simp));simpa using this
 by_cases c1:(1==b.size)=true
 ·rw[AD c1];exact Ac (q _ (gallopOf st) (M0.done (by simpa using c1)))
 rw[Ay c1];by_cases c2:(0+1==a.size)=true
 ·rw[AD c2];exact Ac (q _ (gallopOf st) (M0.last (by simpa using c2) hl))
 rw[Ay c2];have c1:¬1=b.size:=by simpa using c1
 have c2:¬1=a.size:=by simpa using c2
 refine Ab (wpS_get ?_);have okA:∀i (hi:i<a.size),Ok a[i]:=fun i hi=>oka _ (by simp);have okB:∀i (hi:i<b.size),Ok b[i]:=fun i hi=>okb _ (by simp);have atA:∀i (hi:i<a.size),a[i]?=some a[i]:=fun i hi=>by simp[hi]
 have atB:∀i (hi:i<b.size),b[i]?=some b[i]:=fun i hi=>by simp[hi]
 obtain⟨tA,tA0⟩:∃t:Nat->Keyed,t=fun i=>(a[i]?).getD b[0]:=⟨_,rfl⟩;have tA2:∀i (hi:i<a.size),tA i=a[i]:=fun i hi=>by rw[tA0];simp[hi]
 have tA1:∀i (hi:i<a.size),a[i]?=some (tA i):=fun i hi=>by rw[tA2 i hi];exact atA i hi
 have tA3:∀i (hi:i<a.size),Ok (tA i):=fun i hi=>by rw[tA2 i hi];exact okA i hi
 have tA4:∀{i j},i≤j->j<a.size->f (tA i)≤f (tA j):=fun {i j} hij hj=>by rw[tA2 i (by exact gu),tA2 j hj];exact zU sa hij hj
 obtain⟨tB,tB0⟩:∃t:Nat->Keyed,t=fun i=>(b[i]?).getD b[0]:=⟨_,rfl⟩;have tB2:∀i (hi:i<b.size),tB i=b[i]:=fun i hi=>by rw[tB0];simp[hi]
 have tB1:∀i (hi:i<b.size),b[i]?=some (tB i):=fun i hi=>by rw[tB2 i hi];exact atB i hi
 have tB3:∀i (hi:i<b.size),Ok (tB i):=fun i hi=>by rw[tB2 i hi];exact okB i hi
 have tB4:∀{i j},i≤j->j<b.size->f (tB i)≤f (tB j):=fun {i j} hij hj=>by rw[tB2 i (by exact gu),tB2 j hj];exact zU sb hij hj
 refine Ab (AR (AI (I:=fun x c st'=>(∃g,st'=ff st g)/\∃out ia ib mg,c=(none,out,ia,ib,mg)/\MP f a b out ia ib/\ia+1<a.size/\ib<b.size/\x+1≤out.size)
  (Q:=fun c st'=>(∃g,st'=ff st g)/\∃r,c.1=some r/\ky f a.toList b.toList r.toList) ?_ ?_ ⟨⟨gallopOf st,rfl⟩,_,_,_,_,rfl,M0,by exact yL,by exact yL,by simp⟩) ?_)
 ·rintro x c st' _ hx ⟨⟨g,rfl⟩,out,ia,ib,mg,rfl,M,ha',hb',hs⟩;dsimp only;refine Ab (AR (AI (I:=fun y c st'=>st'=ff st g/\∃out' ia ib ac bc,c=(none,out',ia,ib,ac,bc)/\MP f a b out' ia ib/\ia+1<a.size/\ib<b.size/\out.size+y≤out'.size)
   (Q:=fun c st'=>st'=ff st g/\((∃r,c.1=some r/\ky f a.toList b.toList r.toList)\/∃out' ia ib ac bc,c=(none,out',ia,ib,ac,bc)/\MP f a b out' ia ib/\ia+1<a.size/\ib<b.size/\out.size+1≤out'.size)) ?_ ?_ ⟨rfl,_,_,_,_,_,rfl,M,ha',hb',Ao _⟩) ?_)
  ·rintro y c st' _ hy ⟨rfl,out',ia,ib,ac,bc,rfl,M,ha',hb',hs'⟩;have pA1:ia<a.size:=by exact fI
   dsimp only;refine Ab (xi (atB ib hb') ?_);refine Ab (xi (atA ia pA1) ?_);refine Ab (w_lt O hk (okB ib hb') (okA ia pA1) ?_);dsimp only;by_cases c:f b[ib]<f a[ia]
   ·rw[AC c,AD rfl];refine Ab (xi (atB ib hb') ?_);have M':=M.oneB hb' fun j hj hij=>BO (Int.lt_of_lt_of_le c (zU sa hij hj));have s2:(out'.push b[ib]).size=out'.size+1:=Bl _;by_cases e1:(ib+1==b.size)=true
    ·rw[AD e1];exact Ac ⟨rfl,.inl ⟨_,rfl,M'.done (by simpa using e1)⟩⟩
    ·rw[Ay e1];have e1:¬ib+1=b.size:=by simpa using e1
     split
     ·exact Ac ⟨rfl,.inr ⟨_,_,_,_,_,rfl,M',ha',by exact yL,by lia⟩⟩
     ·exact Ac ⟨rfl,_,_,_,_,_,rfl,M',ha',by lia,by lia⟩
   ·rw[Ax c,Ay (by simp)];refine Ab (xi (atA ia pA1) ?_);have M':=M.oneA (by lia) fun j hj hij=>BL (by omega) (zU sb hij hj);have s2:(out'.push a[ia]).size=out'.size+1:=Bl _;by_cases e1:(ia+1+1==a.size)=true
    ·rw[AD e1];exact Ac ⟨rfl,.inl ⟨_,rfl,M'.last (by simpa using e1) hl⟩⟩
    ·rw[Ay e1];have e1:¬ia+1+1=a.size:=by simpa using e1
     split
     ·exact Ac ⟨rfl,.inr ⟨_,_,_,_,_,rfl,M',by exact yL,hb',by lia⟩⟩
     ·exact Ac ⟨rfl,_,_,_,_,_,rfl,M',by lia,hb',by lia⟩
  ·rintro c st' ⟨rfl,out',ia,ib,ac,bc,rfl,M,ha',hb',hs'⟩;have:=M.sz;omega
  ·rintro c st' ⟨rfl,h⟩;rcases h with⟨r,er,hr⟩ | ⟨out1,ia,ib,ac,bc,rfl,M,ha',hb',hs'⟩
   ·obtain⟨c1,c2⟩:=c;cases er;exact Ac ⟨⟨g,rfl⟩,r,rfl,hr⟩
   ·dsimp only;refine Ab (wpS_lift (Bt ⟨rfl,?_⟩));refine Ab (AR (AI (I:=fun y c st'=>(∃g,st'=ff st g)/\∃out' ia ib mg ac bc,c=(none,out',ia,ib,mg,ac,bc)/\MP f a b out' ia ib/\ia+1<a.size/\ib<b.size/\out1.size+y≤out'.size)
     (Q:=fun c st'=>(∃g,st'=ff st g)/\((∃r,c.1=some r/\ky f a.toList b.toList r.toList)\/∃out' ia ib mg ac bc,c=(none,out',ia,ib,mg,ac,bc)/\MP f a b out' ia ib/\ia+1<a.size/\ib<b.size/\out1.size≤out'.size)) ?_ ?_ ⟨⟨g,rfl⟩,_,_,_,_,_,_,rfl,M,ha',hb',Ao _⟩) ?_)
    ·rintro y c st' _ hy ⟨⟨g',rfl⟩,out',ia,ib,mg',ac,bc,rfl,M,ha',hb',hs''⟩;have pA1:ia<a.size:=by exact fI
     dsimp only;generalize mg' - 1=mgx;revert mgx;refine sQ (y:=mg') fun mg2=>?_
     all_goals
      refine Ab (wpS_modify ?_);refine Ab (xi (atB ib hb') ?_);refine Ab (cN O hk (okB ib hb') (by lia) (fun i=>tA (ia+i)) (fun i hi=>⟨tA1 _ (by lia),tA3 _ (by lia)⟩) (fun i=>!decide (f b[ib]<f (tA (ia+i)))) (fun i hi=>by rw[Ay (by simp)]) (fun i j hij hj h=>?_) fun k hk1 hlo hhi=>?_)
      ·have:=tA4 (i:=ia+i) (j:=ia+j) (by lia) (by lia);simp at h ⊢;lia
      have hlo:∀i,i<k->f (tA (ia+i))≤f b[ib]:=fun i hi=>by have:=hlo i hi;simpa using this
      have hhi:∀i,k≤i->i<a.size - ia->f b[ib]<f (tA (ia+i)):=fun i hi hj=>by have:=hhi i hi hj;simpa using this
      have kl:k<a.size - ia:=by
       rcases DB hk1 with h | h
       ·exact h
       ·exfalso;have h1:=hlo (a.size - 1 - ia) (by lia);have h2:=hl b[ib] (by simp);rw[show ia+(a.size - 1 - ia)=a.size - 1 by lia,tA2 _ (by exact ou)] at h1;omega
      have M1:MP f a b (out'++a.extract ia (ia+k)) (ia+k) ib:=M.segA (by lia) fun i hi hik j hj hij=>by have h1:=hlo i hik;rw[tA2 _ hi] at h1;exact BL h1 (zU sb hij hj)
      have pB:∀j (hj:j<a.size),ia+k≤j->f b[ib]≤f a[j]:=fun j hj hij=>by have h1:=hhi (j - ia) (by lia) (by lia);rw[show ia+(j - ia)=j by lia,tA2 _ hj] at h1;lia
      dsimp only;generalize eo0:out'=o0;generalize ej0:ia=j0;revert j0;revert o0;refine jT (P:=fun(o:Array Keyed) (j:Nat)=>MP f a b o j ib/\out'.size≤o.size/\j+1<a.size/\∀j' (hj:j'<a.size),j≤j'->f b[ib]≤f a[j']) (x:=out') (i:=ia) (fun out3 ia3 hP=>?tail) (fun ck=>?hN) (fun ck key=>?hY)
      case hN=>
       obtain rfl:k=0:=by lia
       exact⟨M,Ao _,ha',fun j hj hij=>pB j hj (by lia)⟩
      case hY=>
       by_cases e1:(ia+k+1==a.size)=true
       ·rw[AD e1];exact Ac ⟨⟨_,rfl⟩,.inl ⟨_,rfl,M1.last (by simpa using e1) hl⟩⟩
       ·rw[Ay e1,Ay (show ¬(ia+k==a.size)=true by simp;lia)];have e1:¬ia+k+1=a.size:=by simpa using e1
        exact key _ _ ⟨M1,by rw[BN];exact A4 _ _,by lia,pB⟩
      clear pB M1 hlo hhi;obtain⟨M1,h3,l3,pB⟩:=hP;have pA3:ia3<a.size:=by exact fI
      all_goals
       refine Ab (xi (atB ib hb') ?_);have M2:=M1.oneB hb' pB;have s2:(out3.push b[ib]).size=out3.size+1:=Bl _;by_cases e2:(ib+1==b.size)=true
       case' pos=>
        rw[AD e2];exact Ac ⟨⟨_,rfl⟩,.inl ⟨_,rfl,M2.done (by simpa using e2)⟩⟩
       case' neg=>
        rw[Ay e2];have e2:¬ib+1=b.size:=by simpa using e2
        refine Ab (xi (atA ia3 pA3) ?_);refine Ab (cN O hk (okA ia3 pA3) (by lia) (fun i=>tB (ib+1+i)) (fun i hi=>⟨tB1 _ (by omega),tB3 _ (by lia)⟩) (fun i=>decide (f (tB (ib+1+i))<f a[ia3])) (fun i hi=>by rw[AD rfl]) (fun i j hij hj h=>?_) fun k2 hk2 hlo2 hhi2=>?_)
        ·have:=tB4 (i:=ib+1+i) (j:=ib+1+j) (by lia) (by omega);simp at h ⊢;lia
        have hlo2:∀i,i<k2->f (tB (ib+1+i))<f a[ia3]:=fun i hi=>by have:=hlo2 i hi;simpa using this
        have hhi2:∀i,k2≤i->i<b.size - (ib+1)->f a[ia3]≤f (tB (ib+1+i)):=fun i hi hj=>by have:=hhi2 i hi hj;simpa using this
        have M3:MP f a b (out3.push b[ib]++b.extract (ib+1) (ib+1+k2)) ia3 (ib+1+k2):=M2.segB (by omega) fun i hi hik j hj hij=>by have h1:=hlo2 i hik;rw[tB2 _ hi] at h1;exact BL (BO h1) (zU sa hij hj)
        have pA:∀j (hj:j<b.size),ib+1+k2≤j->f a[ia3]≤f b[j]:=fun j hj hij=>by have h1:=hhi2 (j - (ib+1)) (by lia) (by omega);rw[show ib+1+(j - (ib+1))=j by lia,tB2 _ hj] at h1;exact h1
        dsimp only;obtain⟨o3,eo3⟩:∃o,o=out3.push b[ib]:=⟨_,rfl⟩;obtain⟨ib3,ei3⟩:∃i,i=ib+1:=⟨_,rfl⟩;rw[<-eo3] at s2;rw[<-eo3,<-ei3] at M2 M3 ⊢;rw[<-ei3] at pA hk2;generalize eo0:o3=o0;generalize ej0:ib3=j0;revert j0;revert o0;refine jT (P:=fun(o:Array Keyed) (j:Nat)=>MP f a b o ia3 j/\out3.size+1≤o.size/\j<b.size/\∀j' (hj:j'<b.size),j≤j'->f a[ia3]≤f b[j']) (x:=o3) (i:=ib3) (fun out4 ib4 hP=>?tail2) (fun ck=>?hN) (fun ck key=>?hY)
        case hN=>
         obtain rfl:k2=0:=by lia
         exact⟨M2,by lia,by lia,fun j hj hij=>pA j hj (by lia)⟩
        case hY=>
         by_cases e3:(ib3+k2==b.size)=true
         ·rw[AD e3];exact Ac ⟨⟨_,rfl⟩,.inl ⟨_,rfl,M3.done (by simpa using e3)⟩⟩
         ·rw[Ay e3];have e3:¬ib3+k2=b.size:=by simpa using e3
          exact key _ _ ⟨M3,by rw[BN];lia,by lia,pA⟩
        clear pA M3 hlo2 hhi2;obtain⟨M3,h4,l4,pA⟩:=hP
        all_goals
         refine Ab (xi (atA ia3 pA3) ?_);have M4:=M3.oneA (by lia) pA;have s4:(out4.push a[ia3]).size=out4.size+1:=Bl _;by_cases e4:(ia3+1+1==a.size)=true
         ·rw[AD e4];exact Ac ⟨⟨_,rfl⟩,.inl ⟨_,rfl,M4.last (by simpa using e4) hl⟩⟩
         ·rw[Ay e4];have e4:¬ia3+1+1=a.size:=by simpa using e4
          split
          ·exact Ac ⟨⟨_,rfl⟩,.inr ⟨_,_,_,_,_,_,rfl,M4,by exact yL,l4,by lia⟩⟩
          ·exact Ac ⟨⟨_,rfl⟩,_,_,_,_,_,_,rfl,M4,by lia,l4,by lia⟩
    ·rintro c st' ⟨⟨g',rfl⟩,out',ia,ib,mg',ac,bc,rfl,M,ha',hb',hs''⟩;have:=M.sz;omega
    ·rintro c st' ⟨⟨g',rfl⟩,h⟩;rcases h with⟨r,er,hr⟩ | ⟨out2,ia,ib,mg2,ac,bc,rfl,M,ha',hb',hs''⟩
     ·obtain⟨c1,c2⟩:=c;cases er;exact Ac ⟨⟨g',rfl⟩,r,rfl,hr⟩
     ·dsimp only;refine Ab (wpS_modify ?_);exact Ac ⟨⟨_,rfl⟩,_,_,_,_,rfl,M,ha',hb',by lia⟩
 ·rintro c st' ⟨⟨g,rfl⟩,out,ia,ib,mg,rfl,M,ha',hb',hs⟩;have:=M.sz;lia
 ·rintro c st' ⟨⟨g,rfl⟩,r,er,hr⟩;obtain⟨c1,c2⟩:=c;cases er;exact Ac (q r g hr)
end
structure MH(f:Keyed->Int)(la lb ra rb o:List Keyed):Prop where
 perm:(ra++rb++o).Perm (la++lb)
 so:o.Pairwise fun x y=>f x≤f y
 sa:ra.Pairwise fun x y=>f x≤f y
 sb:rb.Pairwise fun x y=>f x≤f y
 oa:∀x∈ra,∀y∈o,f x≤f y
 ob:∀x∈rb,∀y∈o,f x≤f y
theorem MH.a{f:Keyed->Int}{la lb o seg ra rb:List Keyed}(h:MH f la lb (ra++seg) rb o)(hs:∀x∈rb,∀y∈seg,f x≤f y):MH f la lb ra rb (seg++o):=by
 have sa:=AQ.mp h.sa;refine⟨List.Perm.trans ?_ h.perm,AQ.mpr ⟨sa.2.1,h.so,fun x hx y hy=>h.oa x (Af _ hx) y hy⟩,sa.1,h.sb,fun x hx y hy=>?_,fun x hx y hy=>?_⟩
 ·rw[<-AA];refine(Bi o).mpr ?_;rw[AA,AA];exact(Bu ra).mpr Bf
 ·rcases Ak.mp hy with hy | hy
  ·exact sa.2.2 x hx y hy
  ·exact h.oa x (Ar _ hx) y hy
 ·rcases Ak.mp hy with hy | hy
  ·exact hs x hx y hy
  ·exact h.ob x hx y hy
theorem MH.b{f:Keyed->Int}{la lb o seg ra rb:List Keyed}(h:MH f la lb ra (rb++seg) o)(hs:∀x∈ra,∀y∈seg,f x≤f y):MH f la lb ra rb (seg++o):=by
 have sb:=AQ.mp h.sb;refine⟨?_,AQ.mpr ⟨sb.2.1,h.so,fun x hx y hy=>h.ob x (Af _ hx) y hy⟩,h.sa,sb.1,fun x hx y hy=>?_,fun x hx y hy=>?_⟩
 ·have:=h.perm;rw[<-AA,AA ra rb seg];exact this
 ·rcases Ak.mp hy with hy | hy
  ·exact hs x hx y hy
  ·exact h.oa x hx y hy
 ·rcases Ak.mp hy with hy | hy
  ·exact sb.2.2 x hx y hy
  ·exact h.ob x (Ar _ hx) y hy
theorem MH.ea{f:Keyed->Int}{la lb o rb:List Keyed}(h:MH f la lb [] rb o):ky f la lb (rb++o):=⟨by have:=h.perm;rwa[CV] at this,AQ.mpr ⟨h.sb,h.so,h.ob⟩⟩
theorem MH.eb{f:Keyed->Int}{la lb o ra rb:List Keyed}(h:MH f la lb ra rb o)(hs:∀x∈rb,∀y∈ra,f x≤f y):ky f la lb (rb++ra++o):=by
 refine⟨List.Perm.trans ?_ h.perm,?_⟩
 ·exact(Bi o).mpr Bf
 ·refine AQ.mpr ⟨AQ.mpr ⟨h.sb,h.sa,hs⟩,h.so,fun x hx y hy=>?_⟩;rcases Ak.mp hx with hx | hx
  ·exact h.ob x hx y hy
  ·exact h.oa x hx y hy
structure HP(f:Keyed->Int)(a b out:Array Keyed)(na nb:Nat):Prop where
 mi:MH f a.toList b.toList (a.toList.take na) (b.toList.take nb) out.toList.reverse
 sz:out.size+na+nb=a.size+b.size
 la:na≤a.size
 lb:nb≤b.size
theorem ah4(a:Array Keyed)(h:i<a.size):a.toList.take (i+1)=a.toList.take i++[a[i]]:=by rw[Bq];simp[h]
theorem fg{a:Array Keyed}{x:Keyed}(h:x∈a.toList.take i):∃j,∃hj:j<a.size,j<i/\a[j]=x:=by
 obtain⟨j,hj,e⟩:=A2 h;rw[AK] at hj;have h1:j<a.size:=by have:a.toList.length=a.size:=AJ;omega
 refine⟨j,h1,by omega,?_⟩;rw[<-e];simp
theorem aft(l:List Keyed){k:Nat}(h:i≤k):l.take i++(l.drop i).take (k - i)=l.take k:=by have:=List.take_add (l:=l) (i:=i) (j:=k - i);rw[show i+(k - i)=k by omega] at this;exact this.symm
section
variable {f:Keyed->Int}{a b out:Array Keyed}{nb:Nat}
theorem HP.segA(M:HP f a b out na nb){k:Nat}(hk:k≤na)(h:∀i (hi:i<a.size),k≤i->i<na->∀j (hj:j<b.size),j<nb->f b[j]≤f a[i]):HP f a b (out++(a.extract k na).reverse) k nb:=by
 have hl:=M.la;refine⟨?_,?_,by exact ahm,M.lb⟩
 ·rw[A8,CM,CF,List.reverse_reverse,gY];refine MH.a (by rw[aft _ hk];exact M.mi) fun x hx y hy=>?_;obtain⟨j,hj,h2,rfl⟩:=fg hx;obtain⟨i,hi,h1,rfl⟩:=qA hy;exact h (k+i) hi (by exact A4 _ _) (by lia) j hj h2
 ·have:=M.sz;rw[BN,Array.size_reverse,CW];lia
theorem HP.segB(M:HP f a b out na nb){k:Nat}(hk:k≤nb)(h:∀i (hi:i<b.size),k≤i->i<nb->∀j (hj:j<a.size),j<na->f a[j]≤f b[i]):HP f a b (out++(b.extract k nb).reverse) na k:=by
 have hl:=M.lb;refine⟨?_,?_,M.la,by lia⟩
 ·rw[A8,CM,CF,List.reverse_reverse,gY];refine MH.b (by rw[aft _ hk];exact M.mi) fun x hx y hy=>?_;obtain⟨j,hj,h2,rfl⟩:=fg hx;obtain⟨i,hi,h1,rfl⟩:=qA hy;exact h (k+i) hi (by lia) (by lia) j hj h2
 ·have:=M.sz;rw[BN,Array.size_reverse,CW];lia
theorem HP.oneA(M:HP f a b out (na+1) nb)(hi:na<a.size)(h:∀j (hj:j<b.size),j<nb->f b[j]≤f a[na]):HP f a b (out.push a[na]) na nb:=by refine⟨?_,by have:=M.sz;rw[Bl];lia,by exact fI,M.lb⟩;rw[CB,CM];refine MH.a (seg:=[a[na]]) (by rw[<-ah4 a hi];exact M.mi) fun x hx y hy=>?_;obtain⟨j,hj,h2,rfl⟩:=fg hx;rw[Aw.mp hy];exact h j hj h2
theorem HP.oneB(M:HP f a b out na (nb+1))(hi:nb<b.size)(h:∀j (hj:j<a.size),j<na->f a[j]≤f b[nb]):HP f a b (out.push b[nb]) na nb:=by refine⟨?_,by have:=M.sz;rw[Bl];lia,M.la,by lia⟩;rw[CB,CM];refine MH.b (seg:=[b[nb]]) (by rw[<-ah4 b hi];exact M.mi) fun x hx y hy=>?_;obtain⟨j,hj,h2,rfl⟩:=fg hx;rw[Aw.mp hy];exact h j hj h2
theorem HP.done(M:HP f a b out na nb)(h:na=0):ky f a.toList b.toList (a.extract 0 na++b.extract 0 nb++out.reverse).toList:=by subst h;have:=M.mi;rw[List.take_zero] at this;have:=this.ea;rw[A8,A8,gY,gY,CF];simpa using this
theorem HP.last(M:HP f a b out na nb)(h:nb=1)(hb:0<b.size)(h0:∀x∈a.toList,f b[0]<f x):ky f a.toList b.toList (b.extract 0 nb++a.extract 0 na++out.reverse).toList:=by
 have:=M.mi.eb fun x hx y hy=>by
  obtain⟨j,hj,h2,rfl⟩:=fg hx;have e:j=0:=by lia
  subst e;exact BO (h0 y (BE hy))
 rw[A8,A8,gY,gY,CF];simpa using this
end
theorem HP.preA{f:Keyed->Int}{a b out:Array Keyed}{nb:Nat}(M:HP f a b out na nb)(h0:0<na)(h:∀j (hj:j<b.size),j<nb->f b[j]≤f (a[na - 1]'(by have:=M.la;omega))):HP f a b (out.push (a[na - 1]'(by have:=M.la;omega))) (na - 1) nb:=by obtain⟨n,rfl⟩:∃n,na=n+1:=⟨na - 1,by lia⟩;have hl:=M.la;exact HP.oneA M (by assumption) h
theorem HP.preB{f:Keyed->Int}{a b out:Array Keyed}{nb:Nat}(M:HP f a b out na nb)(h0:0<nb)(h:∀j (hj:j<a.size),j<na->f a[j]≤f (b[nb - 1]'(by have:=M.lb;omega))):HP f a b (out.push (b[nb - 1]'(by have:=M.lb;lia))) na (nb - 1):=by obtain⟨n,rfl⟩:∃n,nb=n+1:=⟨nb - 1,by lia⟩;have hl:=M.lb;exact HP.oneB M (by lia) h
section
variable {w:World}{κ:SortKind}{Ok:Keyed->Prop}{f:Keyed->Int}
theorem bO{c:Prop} [Decidable c]{x y:StateT SortSt Sem α}{Q:α->SortSt->Prop}{st:SortSt}(h:c)(k:wpS M A E s x Q st):wpS M A E s (if c then x else y) Q st:=by rw[AD h];exact k
theorem ai{c:Prop} [Decidable c]{x y:StateT SortSt Sem α}{Q:α->SortSt->Prop}{st:SortSt}(h:¬c)(k:wpS M A E s y Q st):wpS M A E s (if c then x else y) Q st:=by rw[Ay h];exact k
theorem yF(O:xR prog w A s κ Ok f){a b:Array Keyed}{st:SortSt}{Q:Array Keyed->SortSt->Prop}(hk:kindOf st=κ)(oka:∀x∈a.toList,Ok x)(okb:∀x∈b.toList,Ok x)
 (sa:a.toList.Pairwise fun x y=>f x≤f y) (sb:b.toList.Pairwise fun x y=>f x≤f y) (ha:0<a.size) (hb:0<b.size) (h0:∀x∈a.toList,f b[0]<f x) (hl:∀x∈b.toList,f x<f a[a.size - 1])
 (q:∀r g,ky f a.toList b.toList r.toList->Q r (ff st g)):wpS (model prog w) A E s (ace a b) Q st:=by
 have okA:∀i (hi:i<a.size),Ok a[i]:=fun i hi=>oka _ (by simp);have okB:∀i (hi:i<b.size),Ok b[i]:=fun i hi=>okb _ (by simp);have atA:∀i (hi:i<a.size),a[i]?=some a[i]:=fun i hi=>by simp[hi]
 have atB:∀i (hi:i<b.size),b[i]?=some b[i]:=fun i hi=>by simp[hi]
 obtain⟨tA,tA0⟩:∃t:Nat->Keyed,t=fun i=>(a[i]?).getD b[0]:=⟨_,rfl⟩;have tA2:∀i (hi:i<a.size),tA i=a[i]:=fun i hi=>by rw[tA0];simp[hi]
 have tA1:∀i (hi:i<a.size),a[0+i]?=some (tA i):=fun i hi=>by rw[tA2 i hi,Ec];exact atA i hi
 have tA3:∀i (hi:i<a.size),Ok (tA i):=fun i hi=>by rw[tA2 i hi];exact okA i hi
 have tA4:∀{i j},i≤j->j<a.size->f (tA i)≤f (tA j):=fun {i j} hij hj=>by rw[tA2 i (by exact gu),tA2 j hj];exact zU sa hij hj
 obtain⟨tB,tB0⟩:∃t:Nat->Keyed,t=fun i=>(b[i]?).getD b[0]:=⟨_,rfl⟩;have tB2:∀i (hi:i<b.size),tB i=b[i]:=fun i hi=>by rw[tB0];simp[hi]
 have tB1:∀i (hi:i<b.size),b[0+i]?=some (tB i):=fun i hi=>by rw[tB2 i hi,Ec];exact atB i hi
 have tB3:∀i (hi:i<b.size),Ok (tB i):=fun i hi=>by rw[tB2 i hi];exact okB i hi
 have tB4:∀{i j},i≤j->j<b.size->f (tB i)≤f (tB j):=fun {i j} hij hj=>by rw[tB2 i (by exact gu),tB2 j hj];exact zU sb hij hj
 refine Ab (wpS_lift (Bt ⟨rfl,?_⟩));refine Ab (xi (x:=a[a.size - 1]) (atA _ (by exact ou)) ?_);dsimp only;obtain⟨n0,hn0⟩:∃n,a.size=n+1:=⟨a.size - 1,by lia⟩;have M0:HP f a b #[a[a.size - 1]] (a.size - 1) b.size:=by
  have M:HP f a b #[] (a.size - 1+1) b.size:=by
   refine⟨⟨?_,by simp,?_,?_,by simp,by simp⟩,by simp;lia,by exact ou,Ao _⟩
   ·rw[Bg (by simp;lia),Bg (by simp)];simp
   ·rw[Bg (by simp;lia)];exact sa
   ·rw[Bg (by simp)];exact sb
  have:=M.oneA (by lia) fun j hj _=>BO (hl b[j] (by simp));simpa using this
 by_cases c1:(a.size - 1==0)=true
 ·refine bO c1 ?_;exact Ac (q _ (gallopOf st) (M0.done (by simpa using c1)))
 refine ai c1 ?_;by_cases c2:(b.size==1)=true
 ·refine bO c2 ?_;exact Ac (q _ (gallopOf st) (M0.last (by simpa using c2) hb h0))
 refine ai c2 ?_;have c1:¬a.size - 1=0:=by simpa using c1
 have c2:¬b.size=1:=by simpa using c2
 refine Ab (wpS_get ?_);refine Ab (AR (AI (I:=fun x c st'=>(∃g,st'=ff st g)/\∃na nb out mg,c=(none,na,nb,out,mg)/\HP f a b out na nb/\0<na/\1<nb/\x+1≤out.size)
  (Q:=fun c st'=>(∃g,st'=ff st g)/\∃r,c.1=some r/\ky f a.toList b.toList r.toList) ?_ ?_ ⟨⟨gallopOf st,rfl⟩,_,_,_,_,rfl,M0,by exact aco,by lia,by simp⟩) ?_)
 ·rintro x c st' _ hx ⟨⟨g,rfl⟩,na,nb,out,mg,rfl,M,ha',hb',hs⟩;dsimp only;refine Ab (AR (AI (I:=fun y c st'=>st'=ff st g/\∃na nb out' ac bc,c=(none,na,nb,out',ac,bc)/\HP f a b out' na nb/\0<na/\1<nb/\out.size+y≤out'.size)
   (Q:=fun c st'=>st'=ff st g/\((∃r,c.1=some r/\ky f a.toList b.toList r.toList)\/∃na nb out' ac bc,c=(none,na,nb,out',ac,bc)/\HP f a b out' na nb/\0<na/\1<nb/\out.size+1≤out'.size)) ?_ ?_ ⟨rfl,_,_,_,_,_,rfl,M,ha',hb',Ao _⟩) ?_)
  ·rintro y c st' _ hy ⟨rfl,na,nb,out',ac,bc,rfl,M,ha',hb',hs'⟩;have hla:=M.la;have hlb:=M.lb;have pB1:nb - 1<b.size:=by omega
   have pA1:na - 1<a.size:=by lia
   dsimp only;refine Ab (xi (atB (nb - 1) pB1) ?_);refine Ab (xi (atA (na - 1) pA1) ?_);refine Ab (w_lt O hk (okB (nb - 1) pB1) (okA (na - 1) pA1) ?_);dsimp only;by_cases c:f b[nb - 1]<f a[na - 1]
   ·rw[AC c,AD rfl];refine Ab (xi (atA (na - 1) pA1) ?_);have M':=M.preA ha' fun j hj hij=>BO (Int.lt_of_le_of_lt (zU sb (i:=j) (j:=nb - 1) (CG hij) pB1) c);have s2:(out'.push a[na - 1]).size=out'.size+1:=Bl _;by_cases e1:(na - 1==0)=true
    ·refine bO e1 ?_;exact Ac ⟨rfl,.inl ⟨_,rfl,M'.done (by simpa using e1)⟩⟩
    ·refine ai e1 ?_;have e1:¬na - 1=0:=by simpa using e1
     split
     ·exact Ac ⟨rfl,.inr ⟨_,_,_,_,_,rfl,M',by exact aco,hb',by lia⟩⟩
     ·exact Ac ⟨rfl,_,_,_,_,_,rfl,M',by lia,hb',by lia⟩
   ·rw[Ax c,Ay (by simp)];refine Ab (xi (atB (nb - 1) pB1) ?_);have M':=M.preB (by exact fI) fun j hj hij=>BL (zU sa (i:=j) (j:=na - 1) (CG hij) pA1) (by omega);have s2:(out'.push b[nb - 1]).size=out'.size+1:=Bl _;by_cases e1:(nb - 1==1)=true
    ·refine bO e1 ?_;exact Ac ⟨rfl,.inl ⟨_,rfl,M'.last (by simpa using e1) hb h0⟩⟩
    ·refine ai e1 ?_;have e1:¬nb - 1=1:=by simpa using e1
     split
     ·exact Ac ⟨rfl,.inr ⟨_,_,_,_,_,rfl,M',ha',by lia,by lia⟩⟩
     ·exact Ac ⟨rfl,_,_,_,_,_,rfl,M',ha',by lia,by lia⟩
  ·rintro c st' ⟨rfl,na,nb,out',ac,bc,rfl,M,ha',hb',hs'⟩;have:=M.sz;omega
  ·rintro c st' ⟨rfl,h⟩;rcases h with⟨r,er,hr⟩ | ⟨na,nb,out1,ac,bc,rfl,M,ha',hb',hs'⟩
   ·obtain⟨c1,c2⟩:=c;cases er;exact Ac ⟨⟨g,rfl⟩,r,rfl,hr⟩
   ·dsimp only;refine Ab (wpS_lift (Bt ⟨rfl,?_⟩));refine Ab (AR (AI (I:=fun y c st'=>(∃g,st'=ff st g)/\∃na nb out' mg ac bc,c=(none,na,nb,out',mg,ac,bc)/\HP f a b out' na nb/\0<na/\1<nb/\out1.size+y≤out'.size)
     (Q:=fun c st'=>(∃g,st'=ff st g)/\((∃r,c.1=some r/\ky f a.toList b.toList r.toList)\/∃na nb out' mg ac bc,c=(none,na,nb,out',mg,ac,bc)/\HP f a b out' na nb/\0<na/\1<nb/\out1.size≤out'.size)) ?_ ?_ ⟨⟨g,rfl⟩,_,_,_,_,_,_,rfl,M,ha',hb',Ao _⟩) ?_)
    ·rintro y c st' _ hy ⟨⟨g',rfl⟩,na,nb,out',mg',ac,bc,rfl,M,ha',hb',hs''⟩;have hla:=M.la;have hlb:=M.lb;have pB1:nb - 1<b.size:=by omega
     have pA1:na - 1<a.size:=by lia
     dsimp only;generalize mg' - 1=mgx;revert mgx;refine sQ (y:=mg') fun mg2=>?_
     all_goals
      refine Ab (wpS_modify ?_);refine Ab (xi (atB (nb - 1) pB1) ?_);refine Ab (cN O hk (okB (nb - 1) pB1) (by exact ou) tA (fun i hi=>⟨tA1 _ (by exact xU),tA3 _ (by lia)⟩) (fun i=>!decide (f b[nb - 1]<f (tA i))) (fun i hi=>by rw[Ay (by simp)]) (fun i j hij hj h=>?_) fun k hk1 hlo hhi=>?_)
      ·have:=tA4 (i:=i) (j:=j) (by lia) (by exact xU);simp at h ⊢;lia
      have hlo:∀i,i<k->f (tA i)≤f b[nb - 1]:=fun i hi=>by have:=hlo i hi;simpa using this
      have hhi:∀i,k≤i->i<na->f b[nb - 1]<f (tA i):=fun i hi hj=>by have:=hhi i hi hj;simpa using this
      have M1:HP f a b (out'++(a.extract k na).reverse) k nb:=M.segA hk1 fun i hi h1 h2 j hj hij=>by have h3:=hhi i h1 h2;rw[tA2 _ hi] at h3;exact BL (zU sb (i:=j) (j:=nb - 1) (CG hij) pB1) (BO h3)
      have pB:∀j (hj:j<a.size),j<k->f a[j]≤f b[nb - 1]:=fun j hj hij=>by have h1:=hlo j hij;rw[tA2 _ hj] at h1;exact h1
      dsimp only;generalize ec0:na - k=cn;generalize eo0:out'=o0;generalize ej0:na=j0;revert j0;revert o0;refine jT (P:=fun(o:Array Keyed) (j:Nat)=>HP f a b o j nb/\out'.size≤o.size/\0<j/\∀j' (hj:j'<a.size),j'<j->f a[j']≤f b[nb - 1]) (x:=out') (i:=na) (fun out3 na3 hP=>?tail) (fun ck=>?hN) (fun ck key=>?hY)
      case hN=>
       obtain rfl:k=na:=by lia
       exact⟨M,Ao _,by lia,pB⟩
      case hY=>
       by_cases e1:(k==0)=true
       ·refine bO e1 ?_;exact Ac ⟨⟨_,rfl⟩,.inl ⟨_,rfl,M1.done (by simpa using e1)⟩⟩
       ·refine ai e1 ?_;have e1:¬k=0:=by simpa using e1
        exact key _ _ ⟨M1,by rw[BN];exact A4 _ _,by exact aco,pB⟩
      clear pB M1 hlo hhi;obtain⟨M1,h3,l3,pB⟩:=hP
      all_goals
       have hla3:=M1.la;have pA3:na3 - 1<a.size:=by lia
       refine Ab (xi (atB (nb - 1) pB1) ?_);have M2:=M1.preB (by exact fI) pB;have s2:(out3.push b[nb - 1]).size=out3.size+1:=Bl _;by_cases e2:(nb - 1==1)=true
       case' pos=>
        refine bO e2 ?_;exact Ac ⟨⟨_,rfl⟩,.inl ⟨_,rfl,M2.last (by simpa using e2) hb h0⟩⟩
       case' neg=>
        refine ai e2 ?_;have e2:¬nb - 1=1:=by simpa using e2
        refine Ab (xi (atA (na3 - 1) pA3) ?_);refine Ab (cN O hk (okA (na3 - 1) pA3) (by lia) tB (fun i hi=>⟨tB1 _ (by exact iu),tB3 _ (by lia)⟩) (fun i=>decide (f (tB i)<f a[na3 - 1])) (fun i hi=>by rw[AD rfl]) (fun i j hij hj h=>?_) fun k2 hk2 hlo2 hhi2=>?_)
        ·have:=tB4 (i:=i) (j:=j) (by lia) (by exact iu);simp at h ⊢;lia
        have hlo2:∀i,i<k2->f (tB i)<f a[na3 - 1]:=fun i hi=>by have:=hlo2 i hi;simpa using this
        have hhi2:∀i,k2≤i->i<nb - 1->f a[na3 - 1]≤f (tB i):=fun i hi hj=>by have:=hhi2 i hi hj;simpa using this
        have k1:0<k2:=by
         rcases Nat.eq_zero_or_pos k2 with h | h
         ·exfalso;have h5:=hhi2 0 (by exact pS) (by lia);rw[tB2 _ hb] at h5;have h6:=h0 a[na3 - 1] (by simp);lia
         ·exact h
        have M3:HP f a b (out3.push b[nb - 1]++(b.extract k2 (nb - 1)).reverse) na3 k2:=M2.segB hk2 fun i hi h1 h2 j hj hij=>by have h5:=hhi2 i h1 h2;rw[tB2 _ hi] at h5;exact BL (zU sa (i:=j) (j:=na3 - 1) (CG hij) pA3) h5
        have pA:∀j (hj:j<b.size),j<k2->f b[j]≤f a[na3 - 1]:=fun j hj hij=>by have h5:=hlo2 j hij;rw[tB2 _ hj] at h5;exact BO h5
        dsimp only;generalize ec2:nb - 1 - k2=cn2;obtain⟨o3,eo3⟩:∃o,o=out3.push b[nb - 1]:=⟨_,rfl⟩;obtain⟨nb3,ei3⟩:∃i,i=nb - 1:=⟨_,rfl⟩;have eb:b[nb - 1]=b[nb3]'(by lia):=by subst ei3;rfl
        rw[<-eo3] at s2 M2 M3 ⊢;rw[<-ei3] at M2 M3 ec2 hk2 ⊢;generalize eo0:o3=o0;generalize ej0:nb3=j0;revert j0;revert o0;refine jT (P:=fun(o:Array Keyed) (j:Nat)=>HP f a b o na3 j/\out3.size+1≤o.size/\1<j/\∀j' (hj:j'<b.size),j'<j->f b[j']≤f a[na3 - 1]) (x:=o3) (i:=nb3) (fun out4 nb4 hP=>?tail2) (fun ck=>?hN) (fun ck key=>?hY)
        case hN=>
         obtain rfl:k2=nb3:=by lia
         exact⟨M2,by lia,by lia,pA⟩
        case hY=>
         by_cases e3:(k2==1)=true
         ·refine bO e3 ?_;exact Ac ⟨⟨_,rfl⟩,.inl ⟨_,rfl,M3.last (by simpa using e3) hb h0⟩⟩
         ·refine ai e3 (ai (show ¬(k2==0)=true by simp;exact ai8) ?_);have e3:¬k2=1:=by simpa using e3
          exact key _ _ ⟨M3,by rw[BN];lia,by lia,pA⟩
        clear pA M3 hlo2 hhi2;obtain⟨M3,h4,l4,pA⟩:=hP
        all_goals
         refine Ab (xi (atA (na3 - 1) pA3) ?_);have M4:=M3.preA l3 pA;have s4:(out4.push a[na3 - 1]).size=out4.size+1:=Bl _;by_cases e4:(na3 - 1==0)=true
         ·refine bO e4 ?_;exact Ac ⟨⟨_,rfl⟩,.inl ⟨_,rfl,M4.done (by simpa using e4)⟩⟩
         ·refine ai e4 ?_;have e4:¬na3 - 1=0:=by simpa using e4
          split
          ·exact Ac ⟨⟨_,rfl⟩,.inr ⟨_,_,_,_,_,_,rfl,M4,by exact aco,l4,by lia⟩⟩
          ·exact Ac ⟨⟨_,rfl⟩,_,_,_,_,_,_,rfl,M4,by lia,l4,by lia⟩
    ·rintro c st' ⟨⟨g',rfl⟩,na,nb,out',mg',ac,bc,rfl,M,ha',hb',hs''⟩;have:=M.sz;omega
    ·rintro c st' ⟨⟨g',rfl⟩,h⟩;rcases h with⟨r,er,hr⟩ | ⟨na,nb,out2,mg2,ac,bc,rfl,M,ha',hb',hs''⟩
     ·obtain⟨c1,c2⟩:=c;cases er;exact Ac ⟨⟨g',rfl⟩,r,rfl,hr⟩
     ·dsimp only;refine Ab (wpS_modify ?_);exact Ac ⟨⟨_,rfl⟩,_,_,_,_,rfl,M,ha',hb',by lia⟩
 ·rintro c st' ⟨⟨g,rfl⟩,na,nb,out,mg,rfl,M,ha',hb',hs⟩;have:=M.sz;lia
 ·rintro c st' ⟨⟨g,rfl⟩,r,er,hr⟩;obtain⟨c1,c2⟩:=c;cases er;exact Ac (q r g hr)
end
def bS(f:Keyed->Int):List (Nat×Nat×Nat)->List (List Keyed)->Nat->Prop
 |[],[],_=>True
 |(st,n,_)::ps,l::ls,s=>st=s/\n=l.length/\0<l.length/\(l.Pairwise fun x y=>f x≤f y)/\bS f ps ls (s+l.length)
 |_,_,_=>False
theorem bS.split{f:Keyed->Int}:∀{ps:List (Nat×Nat×Nat)} {pre:List (List Keyed)} {A B:List Keyed} {post:List (List Keyed)} {s:Nat},bS f ps (pre++A::B::post) s->
 ∃P1 P2 w1 w2,ps=P1++(s+pre.flatten.length,A.length,w1)::(s+pre.flatten.length+A.length,B.length,w2)::P2/\P1.length=pre.length/\0<A.length/\0<B.length/\(A.Pairwise fun x y=>f x≤f y)/\(B.Pairwise fun x y=>f x≤f y)/\
  ∀C w,C.length=A.length+B.length->(C.Pairwise fun x y=>f x≤f y)->bS f (P1++(s+pre.flatten.length,A.length+B.length,w)::P2) (pre++C::post) s
 |[],[],A,B,post,s,h=>by exact h.elim
 |[_],[],A,B,post,s,h=>by exact h.2.2.2.2.elim
 |(a1,a2,a3)::(b1,b2,b3)::ps,[],A,B,post,s,h=>by
  obtain⟨h1,h2,h3,h4,k1,k2,k3,k4,k5⟩:=h;refine⟨[],ps,a3,b3,?_,rfl,h3,k3,h4,k4,fun C w hC hs=>⟨rfl,hC.symm,by lia,hs,?_⟩⟩
  ·simp[h1,h2,k1,k2]
  ·rw[hC];have:=k5;rw[Ep] at this;exact this
 |[],_::_,A,B,post,s,h=>by exact h.elim
 |(a1,a2,a3)::ps,l::pre,A,B,post,s,h=>by
  obtain⟨h1,h2,h3,h4,k⟩:=h;obtain⟨P1,P2,w1,w2,e,e1,e2,e3,e4,e5,e6⟩:=bS.split k;have en:s+(l::pre).flatten.length=s+l.length+pre.flatten.length:=by simp;simp +arith only
  refine⟨(a1,a2,a3)::P1,P2,w1,w2,?_,by simp[e1],e2,e3,e4,e5,fun C w hC hs=>⟨h1,h2,h3,h4,?_⟩⟩
  ·rw[en,e];rfl
  ·rw[en];exact e6 C w hC hs
theorem ae1{σ:Type}{st st':σ}{Q:PUnit->σ->Prop}(h:Q ⟨⟩ st'):wpS M A E s (set st':StateT σ Sem PUnit) Q st:=by unfold wpS;rw[StateT.run_set];exact Ag ⟨rfl,h⟩
theorem lA{α:Type}:∀(m:List α) (arr:Array α) (i k:Nat),i+k+m.length≤arr.size->((m.zipIdx k).foldl (fun(a:Array α) (pj:α×Nat)=>a.setIfInBounds (i+pj.2) pj.1) arr).toList=arr.toList.take (i+k)++(m++arr.toList.drop (i+k+m.length))
 |[],arr,i,k,h=>by simp
 |x::m,arr,i,k,h=>by
  rw[DS,List.foldl_cons];simp only[AG] at h;rw[lA m _ i (k+1) (by simp;lia)];have e:(arr.setIfInBounds (i+k) x).toList=arr.toList.set (i+k) x:=by simp
  have l:arr.toList.length=arr.size:=AJ;rw[e,List.drop_set,AD (by exact A4 _ _),<-Ep,Bq,BX (by lia),List.take_set_of_le (by simp +arith only),AG];simp;congr 1;simp +arith only
structure bD(κ:SortKind)(Ok:Keyed->Prop)(f:Keyed->Int)(st:SortSt)(je:List (List Keyed))(rest:List Keyed):Prop where
 kind:kindOf st=κ
 failed:failedOf st=none
 arr:(arrOf st).toList=je.flatten++rest
 pend:bS f (pendingOf st).toList je 0
 ok:∀x∈(arrOf st).toList,Ok x
section
variable {w:World}{κ:SortKind}{Ok:Keyed->Prop}{f:Keyed->Int}
theorem tM{l:List Keyed}(s:l.Pairwise fun x y=>f x≤f y)(hij:i≤j)(hj:j<l.length):f (l[i]'(by exact gu))≤f l[j]:=by
 rcases DB hij with h | h
 ·exact B4.mp s i j (by exact gu) hj h
 ·subst h;exact C0 _
theorem abr{p:Array α}{P1 P2:List α}{u v z:α}(h:p.toList=P1++u::v::P2):((p.setIfInBounds P1.length z).eraseIdxIfInBounds (P1.length+1)).toList=P1++z::P2:=by
 have hs:p.size=P1.length+(P2.length+2):=by rw[<-AJ,h];simp
 have h2:P1.length+1<(p.setIfInBounds P1.length z).size:=by rw[Array.size_setIfInBounds];lia
 rw[Array.eraseIdxIfInBounds,dif_pos h2,Array.toList_eraseIdx,Array.toList_setIfInBounds,h,List.set_append_right _ _ (Ao _),CK,List.set_cons_zero,C1 (by exact A4 _ _),Ci];rfl
theorem xK(O:xR prog w A s κ Ok f){st:SortSt}{pre post:List (List Keyed)}{X Y rest:List Keyed}{Q:Bool->SortSt->Prop}(G:bD κ Ok f st (pre++X::Y::post) rest)
 (q:∀st' C,bD κ Ok f st' (pre++C::post) rest->C.Perm (X++Y)->Q true st'):wpS (model prog w) A E s (mergeAt' pre.length) Q st:=by
 obtain⟨P1,P2,w1,w2,ep,e1,lX,lY,sX,sY,done⟩:=G.pend.split;simp only[Ec] at ep done;have a1:(pendingOf st)[pre.length]?=some (pre.flatten.length,X.length,w1):=by rw[<-A5,ep,<-e1,An (Ao _),CK];rfl
 have a2:(pendingOf st)[pre.length+1]?=some (pre.flatten.length+X.length,Y.length,w2):=by rw[<-A5,ep,<-e1,An (by exact A4 _ _),Ci];rfl
 refine Ab (wpS_get ?_);rw[show(sortPriv% PySem.Builtin.SortState.pending) st=pendingOf st from rfl,a1,a2];dsimp only;refine Ab (ae1 ?_);have ea:(arrOf st).toList=pre.flatten++(X++(Y++(post.flatten++rest))):=by rw[G.arr];simp
 have atX:∀i (hi:i<X.length),(arrOf st)[pre.flatten.length+i]?=some X[i]:=fun i hi=>by rw[<-A5,ea,An (by exact A4 _ _),Ci,AB hi];simp
 have atY:∀i (hi:i<Y.length),(arrOf st)[pre.flatten.length+X.length+i]?=some Y[i]:=fun i hi=>by rw[<-A5,ea,An (by simp +arith only),An (by omega),AB (by omega)];rw[show pre.flatten.length+X.length+i - pre.flatten.length - X.length=i by omega];simp
 have okX:∀x∈X,Ok x:=fun x hx=>G.ok x (by rw[ea];simp[hx]);have okY:∀x∈Y,Ok x:=fun x hx=>G.ok x (by rw[ea];simp[hx]);have pz:=abr (z:=(pre.flatten.length,X.length+Y.length,w1)) ep;rw[e1] at pz;have good:∀(st':SortSt) (C:List Keyed),kindOf st'=kindOf st->failedOf st'=failedOf st->pendingOf st'=((pendingOf st).setIfInBounds pre.length (pre.flatten.length,X.length+Y.length,w1)).eraseIdxIfInBounds (pre.length+1)->
  (arrOf st').toList=pre.flatten++(C++(post.flatten++rest))->C.Perm (X++Y)->(C.Pairwise fun x y=>f x≤f y)->bD κ Ok f st' (pre++C::post) rest:=fun st' C g1 g2 g3 g4 g5 g6=>by
  refine⟨g1.trans G.kind,g2.trans G.failed,by rw[g4];simp,?_,fun x hx=>?_⟩
  ·rw[g3,pz];exact done C w1 (by rw[g5.length_eq,Ad]) g6
  ·rw[g4] at hx;rcases Ak.mp hx with h | h
   ·exact G.ok x (by rw[ea];exact Ar _ h)
   ·rcases Ak.mp h with h | h
    ·rcases Ak.mp (g5.mem_iff.mp h) with h | h
     ·exact okX x h
     ·exact okY x h
    ·exact G.ok x (by rw[ea];exact Af _ (Af _ (Af _ h)))
 obtain⟨tX,tX0⟩:∃t:Nat->Keyed,t=fun i=>(X[i]?).getD X[0]:=⟨_,rfl⟩;have tX2:∀i (hi:i<X.length),tX i=X[i]:=fun i hi=>by rw[tX0];simp[hi]
 obtain⟨tY,tY0⟩:∃t:Nat->Keyed,t=fun i=>(Y[i]?).getD X[0]:=⟨_,rfl⟩;have tY2:∀i (hi:i<Y.length),tY i=Y[i]:=fun i hi=>by rw[tY0];simp[hi]
 refine Ab (xi (x:=Y[0]) (by have:=atY 0 lY;simpa using this) ?_);refine Ab (cN O G.kind (okY _ (Cj _)) lX tX (fun i hi=>⟨by rw[tX2 i hi];exact atX i hi,by rw[tX2 i hi];exact okX _ (Cj _)⟩) (fun i=>!decide (f Y[0]<f (tX i))) (fun i hi=>by rw[Ay (by simp)]) (fun i j hij hj h=>?_) fun k hk1 hlo hhi=>?_)
 ·have:=tM sX hij hj;rw[tX2 j hj] at h;rw[tX2 i (by exact gu)];simp at h ⊢;omega
 have hlo:∀i (hi:i<k),f (X[i]'(by exact xU))≤f Y[0]:=fun i hi=>by have:=hlo i hi;rw[tX2 i (by lia)] at this;simpa using this
 have hhi:∀i (hj:i<X.length),k≤i->f Y[0]<f X[i]:=fun i hj hi=>by have:=hhi i hi hj;rw[tX2 i hj] at this;simpa using this
 dsimp only;by_cases c:(X.length - k==0)=true
 ·rw[AD c];have c:X.length≤k:=by
   have:X.length - k=0:=by simpa using c
   omega
  refine Ac (q _ (X++Y) (good _ _ rfl rfl rfl (by rw[AA];exact ea) (BF _) (AQ.mpr ⟨sX,sY,fun x hx y hy=>?_⟩)) (BF _));obtain⟨i,hi,rfl⟩:=A2 hx;obtain⟨j,hj,rfl⟩:=A2 hy;exact BL (hlo i (by exact xU)) (tM sY (Bb _) hj)
 rw[Ay c];have c:k<X.length:=by
  have:¬X.length - k=0:=by simpa using c
  lia
 refine Ab (xi (x:=X[X.length - 1]) (by have:=atX (X.length - 1) (by lia);rw[show pre.flatten.length+k+(X.length - k) - 1=pre.flatten.length+(X.length - 1) by lia];exact this) ?_);refine Ab (cN O G.kind (okX _ (Cj _)) (by exact ou) tY (fun i hi=>⟨by rw[tY2 i hi];exact atY i hi,by rw[tY2 i hi];exact okY _ (Cj _)⟩) (fun i=>decide (f (tY i)<f X[X.length - 1])) (fun i hi=>by rw[AD rfl]) (fun i j hij hj h=>?_) fun m hm1 hlo2 hhi2=>?_)
 ·have:=tM sY hij hj;rw[tY2 j hj] at h;rw[tY2 i (by exact gu)];simp at h ⊢;omega
 have hlo2:∀i (hi:i<m),f (Y[i]'(by exact xU))<f X[X.length - 1]:=fun i hi=>by have:=hlo2 i hi;rw[tY2 i (by lia)] at this;simpa using this
 have hhi2:∀i (hj:i<Y.length),m≤i->f X[X.length - 1]≤f Y[i]:=fun i hj hi=>by have:=hhi2 i hi hj;rw[tY2 i hj] at this;simpa using this
 have m0:0<m:=by
  rcases Nat.eq_zero_or_pos m with h | h
  ·exfalso;have h5:=hhi2 0 lY (by exact pS);have h6:=hhi (X.length - 1) (by exact ou) (by omega);omega
  ·exact h
 dsimp only;rw[Ay (show ¬(m==0)=true by simp;exact ai8)];have lsz:(arrOf st).size=pre.flatten.length+(X.length+(Y.length+(post.flatten++rest).length)):=by rw[<-AJ,ea];simp
 have ex:((arrOf st).extract (pre.flatten.length+k) (pre.flatten.length+X.length)).toList=X.drop k:=by rw[gY,ea,<-C7,C8,Dq (by lia),Cq (by simp;lia),Bg (by simp;lia)]
 have ey:((arrOf st).extract (pre.flatten.length+X.length) (pre.flatten.length+X.length+m)).toList=Y.take m:=by rw[gY,ea,<-C7,C8,C8,show pre.flatten.length+X.length+m - (pre.flatten.length+X.length)=m by lia,Cq (by lia)]
 have zx:((arrOf st).extract (pre.flatten.length+k) (pre.flatten.length+X.length)).size=X.length - k:=by rw[<-AJ,ex];simp
 have zy:((arrOf st).extract (pre.flatten.length+X.length) (pre.flatten.length+X.length+m)).size=m:=by rw[<-AJ,ey];simp;lia
 have q1:∀x∈((arrOf st).extract (pre.flatten.length+k) (pre.flatten.length+X.length)).toList,Ok x:=fun x hx=>okX x (CD (by rw[ex] at hx;exact hx));have q2:∀x∈((arrOf st).extract (pre.flatten.length+X.length) (pre.flatten.length+X.length+m)).toList,Ok x:=fun x hx=>okY x (BE (by rw[ey] at hx;exact hx));have q3:((arrOf st).extract (pre.flatten.length+k) (pre.flatten.length+X.length)).toList.Pairwise fun x y=>f x≤f y:=by rw[ex];exact sX.sublist (List.drop_sublist _ _)
 have q4:((arrOf st).extract (pre.flatten.length+X.length) (pre.flatten.length+X.length+m)).toList.Pairwise fun x y=>f x≤f y:=by rw[ey];exact sY.sublist (DJ _ _)
 have q5:0<((arrOf st).extract (pre.flatten.length+k) (pre.flatten.length+X.length)).size:=by lia
 have q6:0<((arrOf st).extract (pre.flatten.length+X.length) (pre.flatten.length+X.length+m)).size:=by omega
 have y0:((arrOf st).extract (pre.flatten.length+X.length) (pre.flatten.length+X.length+m))[0]=Y[0]:=by
  have:((arrOf st).extract (pre.flatten.length+X.length) (pre.flatten.length+X.length+m)).toList[0]'(by rw[ey,AK];lia)=Y[0]:=by simp only[ey];simp
  rw[<-this];simp
 have xl:((arrOf st).extract (pre.flatten.length+k) (pre.flatten.length+X.length))[((arrOf st).extract (pre.flatten.length+k) (pre.flatten.length+X.length)).size - 1]=X[X.length - 1]:=by
  have:((arrOf st).extract (pre.flatten.length+k) (pre.flatten.length+X.length)).toList[((arrOf st).extract (pre.flatten.length+k) (pre.flatten.length+X.length)).size - 1]'(by rw[ex,zx,Bw];lia)=X[X.length - 1]:=by simp only[ex,zx];rw[B8];congr 1;lia
  rw[<-this];simp
 have q7:∀x∈((arrOf st).extract (pre.flatten.length+k) (pre.flatten.length+X.length)).toList,f ((arrOf st).extract (pre.flatten.length+X.length) (pre.flatten.length+X.length+m))[0]<f x:=fun x hx=>by rw[y0];rw[ex] at hx;obtain⟨i,hi,rfl⟩:=A2 hx;rw[B8];rw[Bw] at hi;exact hhi _ (by lia) (by exact A4 _ _)
 have q8:∀x∈((arrOf st).extract (pre.flatten.length+X.length) (pre.flatten.length+X.length+m)).toList,f x<f ((arrOf st).extract (pre.flatten.length+k) (pre.flatten.length+X.length))[((arrOf st).extract (pre.flatten.length+k) (pre.flatten.length+X.length)).size - 1]:=fun x hx=>by rw[xl];rw[ey] at hx;obtain⟨i,hi,rfl⟩:=A2 hx;rw[Br];rw[AK] at hi;exact hlo2 _ (by lia)
 have xr:∀(r:Array Keyed) (g:Nat),ky f (X.drop k) (Y.take m) r.toList->Q (failedOf st).isNone (SortSt.mk' (kindOf st) (r.toList.zipIdx.foldl (fun a x=>a.setIfInBounds (pre.flatten.length+k+x.2) x.1) (arrOf st)) (((pendingOf st).setIfInBounds pre.length (pre.flatten.length,X.length+Y.length,w1)).eraseIdxIfInBounds (pre.length+1)) g (failedOf st)):=by
  rintro r g ⟨hm,hs⟩;have lr:r.toList.length=X.length - k+m:=by rw[hm.length_eq];simp;lia
  have ef:(failedOf st).isNone=true:=by rw[G.failed];rfl
  have pm:(X.take k++(r.toList++Y.drop m)).Perm (X++Y):=by
   have h1:(r.toList++Y.drop m).Perm (X.drop k++Y):=by refine((Bi (Y.drop m)).mpr hm).trans ?_;rw[AA,Bj]
   refine((Bu (X.take k)).mpr h1).trans ?_;rw[<-AA,Bj]
  have so:(X.take k++(r.toList++Y.drop m)).Pairwise fun x y=>f x≤f y:=by
   refine AQ.mpr ⟨sX.sublist (DJ _ _),AQ.mpr ⟨hs,sY.sublist (List.drop_sublist _ _),fun x hx y hy=>?_⟩,fun x hx y hy=>?_⟩
   ·obtain⟨j,hj,rfl⟩:=A2 hy;rw[B8];rw[Bw] at hj;rcases Ak.mp (hm.mem_iff.mp hx) with h | h
    ·obtain⟨i,hi,rfl⟩:=A2 h;rw[B8];rw[Bw] at hi;exact BL (tM sX (by lia) (by exact ou)) (hhi2 _ (by lia) (by exact A4 _ _))
    ·obtain⟨i,hi,rfl⟩:=A2 h;rw[Br];rw[AK] at hi;exact tM sY (by lia) (by lia)
   ·obtain⟨i,hi,rfl⟩:=A2 hx;rw[Br];rw[AK] at hi;have low:∀z∈Y,f (X[i]'(by lia))≤f z:=fun z hz=>by obtain⟨j,hj,rfl⟩:=A2 hz;exact BL (hlo i (by lia)) (tM sY (Bb _) hj)
    rcases Ak.mp hy with h | h
    ·rcases Ak.mp (hm.mem_iff.mp h) with h | h
     ·obtain⟨j,hj,rfl⟩:=A2 h;rw[B8];rw[Bw] at hj;exact tM sX (by lia) (by lia)
     ·exact low y (BE h)
    ·exact low y (CD h)
  have pt:=lA r.toList (arrOf st) (pre.flatten.length+k) 0 (by rw[lsz,lr,Ad];lia);have et:(arrOf st).toList.take (pre.flatten.length+k+0)++(r.toList++(arrOf st).toList.drop (pre.flatten.length+k+0+r.toList.length))=pre.flatten++((X.take k++(r.toList++Y.drop m))++(post.flatten++rest)):=by
   have h1:(arrOf st).toList.take (pre.flatten.length+k+0)=pre.flatten++X.take k:=by rw[ea,Nat.add_zero,List.take_length_add_append,Cq (by lia)]
   have h2:(arrOf st).toList.drop (pre.flatten.length+k+0+r.toList.length)=Y.drop m++(post.flatten++rest):=by rw[ea,lr,show pre.flatten.length+k+0+(X.length - k+m)=pre.flatten.length+(X.length+m) by lia,<-C7,C8,<-C7,C8,Dq (by lia)]
   rw[h1,h2];simp
  rw[ef];exact q _ _ (good _ _ rfl rfl rfl (pt.trans et) pm so) pm
 split
 ·exact Ab (yA O G.kind q1 q2 q3 q4 q5 q6 q7 q8 fun r g h=>Ab (wpS_modify (Ab (wpS_get (Ac (xr r g (by rw[ex,ey] at h;exact h)))))))
 ·exact Ab (yF O G.kind q1 q2 q3 q4 q5 q6 q7 q8 fun r g h=>Ab (wpS_modify (Ab (wpS_get (Ac (xr r g (by rw[ex,ey] at h;exact h)))))))
end
theorem sC{arr:Array α}{P R:List α}(h:arr.toList=P++R)(hn:n≤R.length):(mirror arr P.length (P.length+n) ((P.length+n - P.length) / 2)).toList=P++((R.take n).reverse++R.drop n):=by
 have hs:arr.size=P.length+R.length:=by rw[<-AJ,h];simp
 refine List.ext_getElem? fun k=>?_;rw[A5,getElem?_mirror_all (by lia)];by_cases c:P.length≤k/\k<P.length+n
 ·rw[AD c,<-A5,h,An (by omega),An (by lia),AB (by simp;omega),List.getElem?_reverse (by simp;omega),DC,AK,AD (by omega)];congr 1;lia
 ·rw[Ay c,<-A5,h];by_cases c2:k<P.length
  ·rw[AB c2,AB c2]
  ·rw[An (by exact vD),An (by omega),An (by simp;lia),DD];congr 1;simp;lia
theorem rB{arr:Array α}{P R:List α}{k l:Nat}(h:arr.toList=P++R)(hk:k<R.length)(hl:l≤k):(bubble arr (P.length+k) (P.length+k - (P.length+l))).toList=P++(R.take l++R[k]::((R.drop l).take (k - l)++R.drop (k+1))):=by
 have hs:arr.size=P.length+R.length:=by rw[<-AJ,h];simp
 refine List.ext_getElem? fun i=>?_;rw[A5,getElem?_bubble (by lia) _ (by exact Er _ _),show P.length+k - (P.length+k - (P.length+l))=P.length+l by omega];by_cases c1:i=P.length+l
 ·rw[AD c1,<-A5,h,c1,An (by exact A4 _ _),An (by exact A4 _ _),An (by simp;lia)];rw[show P.length+l - P.length - (R.take l).length=0 by simp;lia,show P.length+k - P.length=k by lia,List.getElem?_cons_zero];simp[hk]
 ·rw[Ay c1];by_cases c2:P.length+l<i/\i≤P.length+k
  ·rw[AD c2,<-A5,h,An (by omega),An (by lia),An (by simp;lia)];obtain⟨d,hd⟩:∃d,i=P.length+l+d+1:=⟨i - P.length - l - 1,by omega⟩;rw[show i - P.length - (R.take l).length=d+1 by simp;lia,CY,AB (by simp;omega),DC,AD (by omega),DD];congr 1;omega
  ·rw[Ay c2,<-A5,h];by_cases c3:i<P.length
   ·rw[AB c3,AB c3]
   ·rw[An (by exact vD),An (by omega)];by_cases c4:i<P.length+l
    ·rw[AB (by simp;lia),DC,AD (by omega)]
    ·obtain⟨d,hd⟩:∃d,i=P.length+k+d+1:=⟨i - P.length - k - 1,by omega⟩;rw[An (by simp;lia),show i - P.length - (R.take l).length=(k - l)+d+1 by simp;lia,CY,An (by simp;omega),DD];congr 1;simp;lia
section
variable {w:World}{κ:SortKind}{Ok:Keyed->Prop}{f:Keyed->Int}
structure Tl(κ:SortKind)(Ok:Keyed->Prop)(st:SortSt)(P R:List Keyed):Prop where
 kind:kindOf st=κ
 arr:(arrOf st).toList=P++R
 ok:∀x∈R,Ok x
theorem gl(O:xR prog w A s κ Ok f){st:SortSt}{P R:List Keyed}(T:Tl κ Ok st P R)(hi:i<R.length)(hj:j<R.length){a b:Nat}(ea:a=P.length+i)(eb:b=P.length+j){Q:Option Bool->SortSt->Prop}(q:Q (some (decide (f R[i]<f R[j]))) st):wpS (model prog w) A E s (ltAt' a b) Q st:=by
 have at_:∀i (hi:i<R.length),(arrOf st)[P.length+i]?=some R[i]:=fun i hi=>by rw[<-A5,T.arr,An (by exact A4 _ _),Ci];simp
 subst ea eb;rw[ltAt'_eq];refine Ab (wpS_get ?_);refine Ab (xi (at_ i hi) (Ab (xi (at_ j hj) ?_)));exact w_lt O T.kind (T.ok _ (Cj _)) (T.ok _ (Cj _)) q
def Up(f:Keyed->Int)(R:List Keyed)(n:Nat):Prop:=∀i j (_:i≤j) (_:j<R.length),j<n->f (R[i]'(by exact gu))≤f R[j]
theorem Up.snoc{R:List Keyed}(h:Up f R n)(h1:1≤n)(hn:n<R.length)(hs:f (R[n - 1]'(by exact mU))≤f R[n]):Up f R (n+1):=fun i j hij hj hjn=>by
 rcases Ed j n with c | c
 ·exact h i j hij hj c
 ·have e:j=n:=by lia
  subst e;rcases Ed i j with c2 | c2
  ·exact BL (h i (j - 1) (by omega) (by exact mU) (by exact ou)) hs
  ·have e:i=j:=by lia
   subst e;exact C0 _
theorem Up.pair{R:List Keyed}(h:Up f R n)(hn:n≤R.length):(R.take n).Pairwise fun x y=>f x≤f y:=by rw[B4];intro i j hi hj hij;rw[AK] at hi hj;rw[Br,Br];exact h i j (by exact fI) (by lia) (by lia)
end
section
variable {w:World}{κ:SortKind}{Ok:Keyed->Prop}{f:Keyed->Int}
theorem Tl.same{st:SortSt}{P R R':List Keyed}(T:Tl κ Ok st P R)(p:R'.Perm R){arr:Array Keyed}(h:arr.toList=P++R'):Tl κ Ok (setArr st arr) P R':=⟨T.kind,h,fun x hx=>T.ok x (p.mem_iff.mp hx)⟩
theorem Up.one{R:List Keyed}:Up f R 1:=fun i j hij hj h=>by
 have:i=j:=by lia
 subst this;exact C0 _
theorem afk(O:xR prog w A s κ Ok f){st:SortSt}{P R:List Keyed}(T:Tl κ Ok st P R)(h1:1≤R.length)(inj:∀i j (_:i<j) (_:j<R.length),f (R[i]'(by exact iu))≠f R[j]){Q:Option Nat->SortSt->Prop}
 (q:∀n R' arr,1≤n->n≤R.length->R'.Perm R->arr.toList=P++R'->Up f R' n->Q (some n) (setArr st arr)):wpS (model prog w) A E s (countRun' P.length R.length) Q st:=by
 have hst:setArr st (arrOf st)=st:=rfl;refine Ab (AR (AI (I:=fun x c st'=>st'=st/\c=(none,x)/\Up f R x)
  (Q:=fun c st'=>st'=st/\∃n,c=(none,n)/\1≤n/\n≤R.length/\Up f R n/\(n=R.length\/∃h:n<R.length,f R[n]<f (R[n - 1]'(by exact mU)))) ?_ ?_ ⟨rfl,rfl,Up.one⟩) ?_)
 ·rintro x c st' hx1 hx ⟨rfl,rfl,U⟩;dsimp only;refine Ab (gl O T (i:=x) (j:=x - 1) hx (by exact mU) rfl (by lia) ?_);dsimp only;by_cases c:f R[x]<f (R[x - 1]'(by omega))
  ·rw[AC c,AD rfl];exact Ac ⟨rfl,x,rfl,hx1,by exact fI,U,.inr ⟨hx,c⟩⟩
  ·rw[Ax c,Ay (by simp)];exact Ac ⟨rfl,rfl,U.snoc hx1 hx (by omega)⟩
 ·rintro c st' ⟨rfl,rfl,U⟩;exact⟨rfl,_,rfl,by lia,by lia,by rw[Ck h1] at *;exact U,.inl (by lia)⟩
 ·rintro c st' ⟨rfl,n,rfl,hn1,hn2,U,hend⟩;dsimp only;by_cases c1:(n==R.length)=true
  ·rw[AD c1];exact Ac (q n R (arrOf st') hn1 hn2 (BF _) T.arr U)
  rw[Ay c1];have c1:¬n=R.length:=by simpa using c1
  have hnl:n<R.length:=by exact yL
  by_cases c2:n > 1
  ·rw[AD c2];refine Ab (gl O T (i:=0) (j:=n - 1) (by assumption) (by exact mU) rfl (by omega) ?_);have:f R[0]<f (R[n - 1]'(by omega)):=by have h3:=U 0 (n - 1) (by exact Ct _ _) (by omega) (by exact ou);have h4:=inj 0 (n - 1) (by omega) (by exact mU);omega
   dsimp only;rw[AC this,AD rfl];exact Ac (q n R (arrOf st') hn1 hn2 (BF _) T.arr U)
  rw[Ay c2];obtain rfl:n=1:=by lia
  refine Ab (wpS_lift (Bt ⟨rfl,?_⟩));have hd:f R[1]<f R[0]:=by
   rcases hend with h | ⟨h,h'⟩
   ·omega
   ·exact h'
  refine Ab (AR (AI (I:=fun x c st''=>st''=st'/\c=(none,x,0)/\∀i j (_:i≤j) (_:j<R.length),j<x->f R[j]≤f (R[i]'(by exact gu)))
   (Q:=fun c st''=>st''=st'/\∃n,c=(none,n,0)/\2≤n/\n≤R.length/\∀i j (_:i≤j) (_:j<R.length),j<n->f R[j]≤f (R[i]'(by omega))) ?_ ?_ ⟨rfl,rfl,?_⟩) ?_)
  ·rintro x c st'' hx1 hx ⟨rfl,rfl,D⟩;dsimp only;refine Ab (gl O T (i:=x) (j:=x - 1) hx (by exact mU) rfl (by lia) ?_);dsimp only;by_cases c:f R[x]<f (R[x - 1]'(by omega))
   ·rw[AC c,AD rfl,Ay (by simp)];refine Ac ⟨rfl,rfl,fun i j hij hj hjx=>?_⟩;rcases Ed j x with h | h
    ·exact D i j hij hj h
    ·have e:j=x:=by lia
     subst e;rcases Ed i j with h2 | h2
     ·exact BL (BO c) (D i (j - 1) (by omega) (by exact mU) (by omega))
     ·have e:i=j:=by lia
      subst e;exact C0 _
   ·rw[Ax c,Ay (by simp)];refine Ab (gl O T (i:=x - 1) (j:=x) (by omega) hx (by lia) rfl ?_);have h4:=inj (x - 1) x (by omega) hx;have:f (R[x - 1]'(by omega))<f R[x]:=by lia
    dsimp only;rw[AC this,AD rfl];exact Ac ⟨rfl,x,rfl,by omega,by exact fI,D⟩
  ·rintro c st'' ⟨rfl,rfl,D⟩;exact⟨rfl,_,rfl,by lia,by lia,D⟩
  ·intro i j hij hj hjx;have:j=0\/j=1:=by lia
   rcases this with rfl | rfl
   ·have:i=0:=by lia
    subst this;exact C0 _
   ·have:i=0\/i=1:=by lia
    rcases this with rfl | rfl
    ·exact BO hd
    ·exact C0 _
  ·rintro c st'' ⟨rfl,n,rfl,g1,g2,D⟩;dsimp only;rw[Ay (by simp)];have T':=T.same (R':=(R.take n).reverse++R.drop n) (((Bi _).mpr (List.reverse_perm _)).trans (by rw[Bj])) (sC T.arr g2);obtain⟨R',eR⟩:∃R',R'=(R.take n).reverse++R.drop n:=⟨_,rfl⟩;have pR:R'.Perm R:=by rw[eR];exact((Bi _).mpr (List.reverse_perm _)).trans (by rw[Bj])
   have lR:R'.length=R.length:=pR.length_eq;have U':Up f R' n:=fun i j hij hj hjn=>by
    subst eR;rw[DO (by simp;lia),DO (by simp;lia),List.getElem_reverse,List.getElem_reverse,Br,Br];refine D _ _ ?_ (by simp;omega) ?_
    ·simp;omega
    ·simp;omega
   rw[<-eR] at T';refine Ab (wpS_modify ?_);refine Ab (AR (AI (I:=fun x c sx=>sx=setArr st'' (mirror (arrOf st'') P.length (P.length+n) ((P.length+n - P.length) / 2))/\c=(none,x)/\Up f R' x)
    (Q:=fun c sx=>sx=setArr st'' (mirror (arrOf st'') P.length (P.length+n) ((P.length+n - P.length) / 2))/\∃n,c=(none,n)/\1≤n/\n≤R.length/\Up f R' n) ?_ ?_ ⟨rfl,rfl,U'⟩) ?_)
   ·rintro x c sx hx1 hx ⟨rfl,rfl,U⟩;dsimp only;refine Ab (gl O T' (i:=x) (j:=x - 1) (by lia) (by omega) rfl (by lia) ?_);dsimp only;by_cases c:f (R'[x]'(by omega))<f (R'[x - 1]'(by omega))
    ·rw[AC c,AD rfl];exact Ac ⟨rfl,x,rfl,by exact ai9,by exact fI,U⟩
    ·rw[Ax c,Ay (by simp)];exact Ac ⟨rfl,rfl,U.snoc (by omega) (by lia) (by omega)⟩
   ·rintro c sx ⟨rfl,rfl,U⟩;exact⟨rfl,_,rfl,by lia,by lia,U⟩
   ·rintro c sx ⟨rfl,n,rfl,k1,k2,U⟩;exact Ac (q n R' _ k1 k2 pR T'.arr U)
end
section
variable {w:World}{κ:SortKind}{Ok:Keyed->Prop}{f:Keyed->Int}
theorem Up.of{R:List Keyed}(h:(R.take n).Pairwise fun x y=>f x≤f y):Up f R n:=fun i j hij hj hjn=>by have:=tM h (i:=i) (j:=j) hij (by simp;lia);rw[Br,Br] at this;exact this
theorem acj{R:List Keyed}{k l:Nat}(hk:k<R.length)(hl:l≤k):(R.take l++R[k]::((R.drop l).take (k - l)++R.drop (k+1))).Perm R:=by
 have e:R=R.take l++((R.drop l).take (k - l)++(R[k]::R.drop (k+1))):=by rw[<-AA,aft _ hl,<-BQ hk,Bj]
 refine List.Perm.trans ?_ (List.Perm.of_eq e.symm);exact(Bu _).mpr BZ.symm
theorem ajf{R:List Keyed}{k l:Nat}(hk:k<R.length)(hl:l≤k)(U:Up f R k)(lo:∀i (_:i<l),f (R[i]'(by lia))≤f R[k])(hi:∀i (_:i<k),l≤i->f R[k]≤f (R[i]'(by exact iu))):
 Up f (R.take l++R[k]::((R.drop l).take (k - l)++R.drop (k+1))) (k+1):=by
 apply Up.of;have e:R.take l++R[k]::((R.drop l).take (k - l)++R.drop (k+1))=(R.take l++R[k]::(R.drop l).take (k - l))++R.drop (k+1):=by simp
 rw[e,List.take_left' (by simp;lia)];have ab:=U.pair (Bn hk);rw[<-aft R hl] at ab;have ab:=AQ.mp ab;have hB:∀y∈(R.drop l).take (k - l),f R[k]≤f y:=fun y hy=>by obtain⟨j,hj,rfl⟩:=A2 hy;rw[AK,Bw] at hj;rw[Br,B8];exact hi (l+j) (by lia) (by exact A4 _ _)
 have hA:∀x∈R.take l,f x≤f R[k]:=fun x hx=>by obtain⟨j,hj,rfl⟩:=A2 hx;rw[AK] at hj;rw[Br];exact lo j (by lia)
 refine AQ.mpr ⟨ab.1,List.pairwise_cons.mpr ⟨hB,ab.2.1⟩,fun x hx y hy=>?_⟩;rcases Av.mp hy with rfl | hy
 ·exact hA x hx
 ·exact ab.2.2 x hx y hy
theorem alq(O:xR prog w A s κ Ok f){st:SortSt}{P R:List Keyed}(T:Tl κ Ok st P R){ok:Nat}(hn:n≤R.length)(h1:1≤ok)(ho:ok≤n)(U:Up f R ok){Q:Bool->SortSt->Prop}
 (q:∀R' arr,R'.Perm R->arr.toList=P++R'->Up f R' n->Q true (setArr st arr)):wpS (model prog w) A E s (binarySort' P.length n ok) Q st:=by
 have hst:setArr st (arrOf st)=st:=rfl;refine Ab (AR (AI (I:=fun x c st'=>c=(none,())/\∃R' arr,st'=setArr st arr/\R'.Perm R/\arr.toList=P++R'/\Up f R' x)
  (Q:=fun c st'=>c=(none,())/\∃R' arr,st'=setArr st arr/\R'.Perm R/\arr.toList=P++R'/\Up f R' n) ?_ ?_ ⟨rfl,R,arrOf st,rfl,BF _,T.arr,by rw[Cu h1];exact U⟩) ?_)
 ·rintro x c st' hx1 hx ⟨rfl,R',arr,rfl,pR,eA,U'⟩;have T':=T.same pR eA;have lR:R'.length=R.length:=pR.length_eq;have hxl:x<R'.length:=by lia
  dsimp only;refine Ab (AR (AI (I:=fun y c st'=>st'=setArr st arr/\∃l r,c=(none,l,r)/\l≤r/\r≤x/\r - l+y≤x/\(∀i (_:i<l) (_:i<R'.length),f R'[i]≤f R'[x])/\(∀i (_:i<x),r≤i->f R'[x]≤f (R'[i]'(by exact iu))))
   (Q:=fun c st'=>st'=setArr st arr/\∃l,c=(none,l,l)/\l≤x/\(∀i (_:i<l) (_:i<R'.length),f R'[i]≤f R'[x])/\(∀i (_:i<x),l≤i->f R'[x]≤f (R'[i]'(by lia)))) ?_ ?_ ⟨rfl,0,x,rfl,Bb _,Ao _,by exact Er _ _,fun i h=>by lia,fun i h h'=>by omega⟩) ?_)
  ·rintro y c st' _ hy ⟨rfl,l,r,rfl,g1,g2,g3,g4,g5⟩;dsimp only;by_cases c:l≥r
   ·rw[AD c];obtain rfl:l=r:=by lia
    exact Ac ⟨rfl,l,rfl,g2,g4,g5⟩
   ·rw[Ay c];refine Ab (gl O T' (i:=x) (j:=(l+r) / 2) hxl (by lia) rfl rfl ?_);dsimp only;by_cases e:f R'[x]<f (R'[(l+r) / 2]'(by lia))
    ·rw[AC e,AD rfl];refine Ac ⟨rfl,l,(l+r) / 2,rfl,by lia,by lia,by omega,g4,fun i h h'=>?_⟩;exact BL (BO e) (U' _ _ h' (by exact iu) h)
    ·rw[Ax e,Ay (by simp)];refine Ac ⟨rfl,(l+r) / 2+1,r,rfl,by lia,g2,by omega,fun i h h'=>?_,g5⟩;exact BL (U' i ((l+r) / 2) (by exact an4) (by lia) (by lia)) (by omega)
  ·rintro c st' ⟨rfl,l,r,rfl,g1,g2,g3,g4,g5⟩;obtain rfl:l=r:=by lia
   exact⟨rfl,l,rfl,g2,g4,g5⟩
  ·rintro c st' ⟨rfl,l,rfl,g2,g4,g5⟩;dsimp only;refine Ab (wpS_modify ?_);exact Ac ⟨rfl,_,_,rfl,(acj hxl g2).trans pR,rB eA hxl g2,ajf hxl g2 U' (fun i h=>g4 i h (by lia)) g5⟩
 ·rintro c st' ⟨rfl,R',arr,rfl,pR,eA,U'⟩;exact⟨rfl,R',arr,rfl,pR,eA,by rw[Cu h1,Ck ho] at U';exact U'⟩
 ·rintro c st' ⟨rfl,R',arr,rfl,pR,eA,U'⟩;exact Ac (q R' arr pR eA U')
end
section
variable {w:World}{κ:SortKind}{Ok:Keyed->Prop}{f:Keyed->Int}
theorem bS.len:∀{ps:List (Nat×Nat×Nat)} {je:List (List Keyed)} {s:Nat},bS f ps je s->ps.length=je.length/\je.length≤je.flatten.length
 |[],[],_,_=>⟨rfl,Ao _⟩
 |_::_,[],_,h=>h.elim
 |[],_::_,_,h=>h.elim
 |(_,_,_)::ps,l::ls,s,h=>by obtain⟨_,_,h3,_,k⟩:=h;have:=bS.len k;rw[AG,AG,CC,Ad];lia
theorem bS.repow{w:Nat}:∀{ps:List (Nat×Nat×Nat)} {je:List (List Keyed)} {s:Nat} (i:Nat),bS f ps je s->bS f (ps.modify i fun p=>(p.1,p.2.1,w)) je s
 |[],[],_,i,_=>by simp[bS]
 |_::_,[],_,_,h=>h.elim
 |[],_::_,_,_,h=>h.elim
 |(_,_,_)::ps,l::ls,s,0,h=>h
 |(_,_,_)::ps,l::ls,s,i+1,h=>by obtain⟨h1,h2,h3,h4,k⟩:=h;exact⟨h1,h2,h3,h4,bS.repow i k⟩
theorem bS.snoc{l:List Keyed}(hl:0<l.length)(hs:l.Pairwise fun x y=>f x≤f y):∀{ps:List (Nat×Nat×Nat)} {je:List (List Keyed)} {s:Nat},bS f ps je s->∀{m:Nat},m=s+je.flatten.length->bS f (ps++[(m,l.length,0)]) (je++[l]) s
 |[],[],_,_,m,e=>⟨by simpa using e,rfl,hl,hs,trivial⟩
 |_::_,[],_,h,_,_=>h.elim
 |[],_::_,_,h,_,_=>h.elim
 |(_,_,_)::ps,l'::ls,s,h,m,e=>by obtain⟨h1,h2,h3,h4,k⟩:=h;exact⟨h1,h2,h3,h4,bS.snoc hl hs k (by rw[e];simp;simp +arith only)⟩
theorem akk{l:List α}(h:i+1<l.length):l=l.take i++l[i]::l[i+1]::l.drop (i+2):=by rw[<-BQ h,<-BQ (by omega),Bj]
theorem tF(O:xR prog w A s κ Ok f){st:SortSt}{je:List (List Keyed)}{rest:List Keyed}{Q:Bool->SortSt->Prop}(G:bD κ Ok f st je rest)(hi:i+1<je.length)
 (q:∀st' segs',bD κ Ok f st' segs' rest->segs'.flatten.Perm je.flatten->segs'.length+1=je.length->Q true st'):wpS (model prog w) A E s (mergeAt' i) Q st:=by
 have e:=akk hi;have li:(je.take i).length=i:=by simp;lia
 rw[e] at G;have pf:∀C:List Keyed,C.Perm (je[i]++je[i+1])->(je.take i++C::je.drop (i+2)).flatten.Perm je.flatten:=fun C pC=>by have e2:je.flatten=(je.take i++je[i]::je[i+1]::je.drop (i+2)).flatten:=BI List.flatten e;rw[e2,CN,CN,CC,CC,CC];refine(Bu _).mpr ?_;rw[<-AA];exact(Bi _).mpr pC
 have:=xK O (E:=E) (Q:=Q) G fun st' C G' pC=>q st' _ G' (pf C pC) (by simp;lia);rw[li] at this;exact this
theorem bD.push{st:SortSt}{je:List (List Keyed)}{rest:List Keyed}(G:bD κ Ok f st je rest)(hn:n≤rest.length)(h1:1≤n)(U:Up f rest n):bD κ Ok f (setPending st ((pendingOf st).push (je.flatten.length,n,0))) (je++[rest.take n]) (rest.drop n):=by
 refine⟨G.kind,G.failed,?_,?_,G.ok⟩
 ·have:=G.arr;show(arrOf st).toList=_;rw[this,CN,AA];simp
 ·show bS f ((pendingOf st).push _).toList _ 0;rw[CB];have:=bS.snoc (l:=rest.take n) (by simp;lia) (U.pair hn) G.pend (m:=je.flatten.length) (by simp +arith only);rw[show(rest.take n).length=n by simp;lia] at this;exact this
theorem bD.repow{st:SortSt}{je:List (List Keyed)}{rest:List Keyed}{w:Nat}(G:bD κ Ok f st je rest):bD κ Ok f (setPending st ((pendingOf st).modify i fun p=>(p.1,p.2.1,w))) je rest:=by refine⟨G.kind,G.failed,G.arr,?_,G.ok⟩;show bS f ((pendingOf st).modify i fun p=>(p.1,p.2.1,w)).toList _ 0;rw[Array.toList_modify];exact G.pend.repow i
theorem bD.set{st:SortSt}{je:List (List Keyed)}{rest R:List Keyed}{arr:Array Keyed}(G:bD κ Ok f st je rest)(p:R.Perm rest)(e:arr.toList=je.flatten++R):bD κ Ok f (setArr st arr) je R:=
 ⟨G.kind,G.failed,e,G.pend,fun x hx=>G.ok x (by
  have hx:x∈arr.toList:=hx;rw[e] at hx;rw[G.arr];rcases Ak.mp hx with h | h
  ·exact Ar _ h
  ·exact Af _ (p.mem_iff.mp h))⟩
theorem uM(O:xR prog w A s κ Ok f){st:SortSt}{Q:Unit->SortSt->Prop}(hk:kindOf st=κ)(hp:pendingOf st=#[])(hf:failedOf st=none)(ok:∀x∈(arrOf st).toList,Ok x)(inj:((arrOf st).toList.map f).Nodup)
 (q:∀st',failedOf st'=none->(arrOf st').toList.Perm (arrOf st).toList->((arrOf st').toList.Pairwise fun x y=>f x≤f y)->Q () st'):wpS (model prog w) A E s sortRuns' Q st:=by
 refine Ab (wpS_get ?_);dsimp only;have G0:bD κ Ok f st [] (arrOf st).toList:=⟨hk,hf,rfl,by rw[hp];trivial,ok⟩;obtain⟨N,eN⟩:∃N,N=(arrOf st).size:=⟨_,rfl⟩;rw[<-eN];generalize hmr:(sortPriv% PySem.Builtin.minRun) N N 0=mr;refine Ab (AR (AI (I:=fun x c st'=>∃je rest lo,c=(none,lo)/\bD κ Ok f st' je rest/\lo=je.flatten.length/\(je.flatten++rest).Perm (arrOf st).toList/\x≤lo)
  (Q:=fun c st'=>∃je lo,c=(none,lo)/\bD κ Ok f st' je []/\je.flatten.Perm (arrOf st).toList) ?_ ?_ ⟨[],(arrOf st).toList,0,rfl,G0,rfl,BF _,Ao _⟩) ?_)
 ·rintro x c st' _ hx ⟨je,rest,lo,rfl,G,elo,pm,hxl⟩;dsimp only;have lt:je.flatten.length+rest.length=N:=by have h1:=pm.length_eq;have h2:(arrOf st).toList.length=(arrOf st).size:=AJ;rw[Ad] at h1;lia
  by_cases c:lo≥N
  ·rw[AD c];have:rest=[]:=Cr (by lia);subst this;exact Ac ⟨je,lo,rfl,G,by simpa using pm⟩
  rw[Ay c];subst elo;have er:N - je.flatten.length=rest.length:=by lia
  rw[er];have T:Tl κ Ok st' je.flatten rest:=⟨G.kind,G.arr,fun x hx=>G.ok x (by rw[G.arr];exact Af _ hx)⟩;have nd:(rest.map f).Nodup:=by have h2:=(pm.map f).nodup_iff.mpr inj;rw[AF,Aq] at h2;exact h2.2.1
  have inj':∀i j (_:i<j) (_:j<rest.length),f (rest[i]'(by exact iu))≠f rest[j]:=fun i j hij hj e=>by have h2:=B4.mp nd i j (by simp;exact iu) (by simpa using hj) hij;simp at h2;exact h2 e
  refine Ab (afk O T (by lia) inj' fun n R1 arr1 g1 g2 pR1 eA1 U1=>?_);dsimp only;have T1:=T.same pR1 eA1;have G1:=G.set pR1 eA1;have l1:R1.length=rest.length:=pR1.length_eq;by_cases cm:n<mr
  case' pos=>
   rw[AD cm];refine Ab (wpS_lift (Bt ⟨rfl,?_⟩));refine Ab (alq O T1 (by lia) g1 (by lia) U1 fun R2 arr2 pR2 eA2 U2=>?_);rw[Ay (by simp)];have G2:=G1.set pR2 eA2;obtain⟨n2,en2⟩:∃n2,n2=min rest.length mr:=⟨_,rfl⟩;rw[<-en2] at U2 ⊢;have p2:R2.Perm rest:=pR2.trans pR1;have k1:1≤n2:=by lia
   have k2:n2≤rest.length:=by lia
   obtain⟨tJ,es2⟩:∃tJ,tJ=setArr (setArr st' arr1) arr2:=⟨_,rfl⟩;rw[<-es2] at G2 ⊢
  case' neg=>
   rw[Ay cm];have G2:=G1;obtain⟨n2,en2⟩:∃n2,n2=n:=⟨_,rfl⟩;obtain⟨R2,eR2⟩:∃R2,R2=R1:=⟨_,rfl⟩;rw[<-en2] at U1 ⊢;rw[<-eR2] at G2;have U2:Up f R2 n2:=by rw[eR2];exact U1
   have p2:R2.Perm rest:=by rw[eR2];exact pR1
   have k1:1≤n2:=by lia
   have k2:n2≤rest.length:=by lia
   obtain⟨tJ,es2⟩:∃tJ,tJ=setArr st' arr1:=⟨_,rfl⟩;rw[<-es2] at G2 ⊢
  all_goals
   have l2:R2.length=rest.length:=p2.length_eq;have xr:∀(dI:SortSt) (segs3:List (List Keyed)),bD κ Ok f dI segs3 R2->segs3.flatten.Perm je.flatten->∃segs' rest' lo',((none,je.flatten.length+n2):Option Unit×Nat)=(none,lo')/\bD κ Ok f (setPending dI ((pendingOf dI).push (je.flatten.length,n2,0))) segs' rest'/\lo'=segs'.flatten.length/\(segs'.flatten++rest').Perm (arrOf st).toList/\x+1≤lo':=fun dI segs3 G3 p3=>by
    have G4:=G3.push (by lia) k1 U2;rw[p3.length_eq] at G4;refine⟨_,_,_,rfl,G4,?_,?_,by exact anb⟩
    ·rw[CN,Ad,p3.length_eq];simp;lia
    ·have:(segs3++[R2.take n2]).flatten++R2.drop n2=segs3.flatten++R2:=by simp
     rw[this];exact((Bi R2).mpr p3).trans (((Bu _).mpr p2).trans pm)
   refine Ab (wpS_get ?_);split
   ·refine Ab (AR (AI (I:=fun y c dI=>c=(none,())/\∃segs3,bD κ Ok f dI segs3 R2/\segs3.flatten.Perm je.flatten)
     (Q:=fun c dI=>c=(none,())/\∃segs3,bD κ Ok f dI segs3 R2/\segs3.flatten.Perm je.flatten) ?_ ?_ ⟨rfl,je,G2,BF _⟩) ?_)
    ·rintro y c dI _ hy ⟨rfl,segs3,G3,p3⟩;have pl:=G3.pend.len.1;have pl2:(pendingOf dI).size=segs3.length:=by rw[<-pl,AJ]
     refine Ab (wpS_get ?_);by_cases cs:(pendingOf dI).size > 1
     ·rw[AD cs];split
      ·split
       ·exact Ac ⟨rfl,segs3,G3,p3⟩
       ·refine Ab (tF O G3 (by show(pendingOf dI).size - 2+1<segs3.length;lia) fun st4 segs4 G4 p4 l4=>?_);rw[Ay (by simp)];exact Ac ⟨rfl,segs4,G4,p4.trans p3⟩
      ·exact Ac ⟨rfl,segs3,G3,p3⟩
     ·rw[Ay cs];exact Ac ⟨rfl,segs3,G3,p3⟩
    ·rintro c dI h;exact h
    ·rintro c dI ⟨rfl,segs3,G3,p3⟩;dsimp only;refine Ab (wpS_modify (Ab (wpS_modify (Ac ?_))));exact xr _ segs3 G3.repow p3
   ·exact Ab (wpS_modify (Ac (xr tJ je G2 (BF _))))
 ·rintro c st' ⟨je,rest,lo,rfl,G,elo,pm,hxl⟩;have lt:je.flatten.length+rest.length=N:=by have h1:=pm.length_eq;have h2:(arrOf st).toList.length=(arrOf st).size:=AJ;rw[Ad] at h1;lia
  have:rest=[]:=Cr (by lia);subst this;exact⟨je,lo,rfl,G,by simpa using pm⟩
 ·rintro c st' ⟨je,lo,rfl,G,pm⟩;dsimp only;have ls:je.length≤N:=by have h1:=G.pend.len.2;have h3:=pm.length_eq;have h2:(arrOf st).toList.length=(arrOf st).size:=AJ;lia
  refine Ab (AR (AI (I:=fun y c dI=>c=(none,())/\∃segs3,bD κ Ok f dI segs3 []/\segs3.flatten.Perm (arrOf st).toList/\segs3.length+y≤N)
   (Q:=fun c dI=>c=(none,())/\∃segs3,bD κ Ok f dI segs3 []/\segs3.flatten.Perm (arrOf st).toList/\segs3.length≤1) ?_ ?_ ⟨rfl,je,G,pm,by omega⟩) ?_)
  ·rintro y c dI _ hy ⟨rfl,segs3,G3,p3,h3⟩;have pl:=G3.pend.len.1;have pl2:(pendingOf dI).size=segs3.length:=by rw[<-pl,AJ]
   refine Ab (wpS_get ?_);by_cases cs:(pendingOf dI).size≤1
   ·rw[AD cs];exact Ac ⟨rfl,segs3,G3,p3,by lia⟩
   ·rw[Ay cs];refine Ab (tF O G3 ?_ fun st4 segs4 G4 p4 l4=>?_)
    ·have gen:∀b:Bool,(if b=true then(pendingOf dI).size - 2 - 1 else(pendingOf dI).size - 2)+1<segs3.length:=fun b=>by cases b with|true=>rw[AD rfl];omega|false=>rw[Ay (by simp)];lia
     exact gen _
    ·rw[Ay (by simp)];exact Ac ⟨rfl,segs4,G4,p4.trans p3,by lia⟩
  ·rintro c dI ⟨rfl,segs3,G3,p3,h3⟩;exact⟨rfl,segs3,G3,p3,by lia⟩
  ·rintro c dI ⟨rfl,segs3,G3,p3,h3⟩;refine Ac (q dI G3.failed ?_ ?_)
   ·rw[G3.arr,AW];exact p3
   ·rw[G3.arr,AW]
    match segs3,h3,G3.pend with
    |[],_,_=>simp
    |[l],_,h=>
     rw[CC,List.flatten_nil,AW];cases hps:(pendingOf dI).toList with
     |nil=>rw[hps] at h;exact h.elim
     |cons p ps=>
      rw[hps] at h;obtain⟨p1,p2,p3⟩:=p;exact h.2.2.2.1
end
open PySem PyProof.Rows PySem.W
def aky(h:Heap)(B:Int)(x:Keyed):Prop:=∃a o n r p t u,x.1=.ref a/\h.get? a=some o/\o.data=.seq #[.int r t,.int p u] n/\0≤p/\p<B
noncomputable def num(h:Heap)(B:Int)(x:Keyed):Int:=match x.1 with
 |.ref a=>match h.get? a with
  |some o=>match o.data with
   |.seq xs _=>match xs.toList with
    |[.int r _,.int p _]=>r*B+p
    |_=>0
   |_=>0
  |none=>0
 |_=>0
theorem num_of{x:Keyed}{a:Addr}{o:Obj}{r p:Int}{t u:Tok}(e1:x.1=.ref a)(e2:h.get? a=some o)(e3:o.data=.seq #[.int r t,.int p u] n):num h B x=r*B+p:=by unfold num;simp[e1,e2,e3]
theorem rG{w:World} :xR prog w A s (tuples' true) (aky s.heap B) (num s.heap B):=by
 constructor;rintro x y ⟨a1,o1,n1,r1,p1,t1,u1,e1,g1,d1,b1,c1⟩ ⟨a2,o2,n2,r2,p2,t2,u2,e2,g2,d2,b2,c2⟩ E Q h;rw[num_of e1 g1 d1,num_of e2 g2 d2] at h;rw[e1,e2];refine kat_lt g1 d1 g2 d2 ?_;show KatLex prog w A true _ Q [(.int r1 t1,.int r2 t2),(.int p1 u1,.int p2 u2)] 0 s;refine kat_cons (wpAny_eqBool_int ?_);by_cases c:r1=r2
 ·subst c;rw[beq_self_eq_true];refine kat_yes (kat_cons (wpAny_eqBool_int ?_));by_cases c':p1=p2
  ·subst c';rw[beq_self_eq_true];refine kat_yes (kat_nil ?_);have e:decide (r1*B+p1<r1*B+p1)=false:=Ax (by lia);rw[e] at h;exact h
  ·rw[Eh c'];refine kat_no (kat_one _ _ (PyProof.Rows.lt_int ?_));have e:decide (r1*B+p1<r1*B+p2)=decide (p1<p2):=by
    by_cases z:p1<p2
    ·rw[AC z];exact AC (by lia)
    ·rw[Ax z];exact Ax (by lia)
   rw[e] at h;exact h
 ·rw[Eh c];refine kat_no (oneLt_int ?_);have e:decide (r1*B+p1<r2*B+p2)=decide (r1<r2):=by
   by_cases z:r1<r2
   ·rw[AC z];have h5:(r1+1)*B≤r2*B:=Cm (by assumption) (by lia);rw[Int.add_mul,Int.one_mul] at h5;exact AC (by omega)
   ·rw[Ax z];have h5:(r2+1)*B≤r1*B:=Cm (by lia) (by lia);rw[Int.add_mul,Int.one_mul] at h5;exact Ax (by lia)
  rw[e] at h;exact h
section
variable {w:World} 
def dW(h:Heap)(B:Int)(v:Value):Prop:=∃a o n r p t u,v=.ref a/\h.get? a=some o/\o.cls=.type "tuple" /\ o.data=.seq #[.int r t,.int p u] n/\0≤p/\p<B
theorem dW.pair{x:Keyed}(k:dW h B x.1):aky h B x:=by obtain⟨a,o,n,r,p,t,u,e1,e2,_,e3,e4,e5⟩:=k;exact⟨a,o,n,r,p,t,u,e1,e2,e3,e4,e5⟩
theorem tups{h:Heap}{B:Int}:∀{ks:List Value},(∀v∈ks,dW h B v)->∃fs,KatTups h ks fs/\fs.length=ks.length/\∀v∈fs,∃r t,v=Value.int r t
 |[],_=>⟨[],trivial,rfl,fun v hv=>by simp at hv⟩
 |k::ks,hk=>by
  obtain⟨fs,h1,h2,h3⟩:=tups (ks:=ks) fun v hv=>hk v (Ah _ hv);obtain⟨a,o,n,r,p,t,u,rfl,e2,e3,e4,_,_⟩:=hk k (As ..);refine⟨.int r t::fs,KatTups.cons e2 e3 e4 rfl h1,by simp[h2],fun v hv=>?_⟩;rcases Av.mp hv with rfl | hv
  ·exact⟨r,t,rfl⟩
  ·exact h3 v hv
theorem ab2{ks:List Value}{Q:SortKind->Shared->Prop}(hk:∀v∈ks,dW s.heap B v)(h0:0<ks.length)(q:Q (tuples' true) s):wpAny (model prog w) A (keyKind' ks.toArray) Q E s:=by
 obtain⟨fs,h1,h2,h3⟩:=tups hk;refine kat_kind (T:=.type "int") h1 (by lia) (fun v hv=>?_) (by decide) ?_
 ·obtain⟨r,t,rfl⟩:=h3 v hv;exact .now
 ·exact q
theorem lu{R:α->α->Prop}:∀{l:List α},l.length<2->l.Pairwise R
 |[],_=>List.Pairwise.nil
 |[_],_=>List.pairwise_singleton _ _
 |_::_::_,h=>absurd h (by simp)
theorem alm{a kS:Addr}{ks:List Value}{e e1:Nat}{P:PySem.Fin->Shared->Prop}(hkS:s.heap.get? kS=some (seqObj "list" ks.toArray e))(ha:s.heap.get? a=some (seqObj "list" #[] e1))(hka:kS≠a)(hl:ks.length=vs.length)(hz:vs.length≤sizeLine)
 (hk:∀v∈ks,dW s.heap B v) (inj:((ks.zip vs).map (num s.heap B)).Nodup)
 (h:∀h' tk (xs:List Keyed) c,(∀b,b≠kS->b≠a->h'.get? b=s.heap.get? b)->h'.get? a=some (seqObj "list" (List.toArray (xs.map (·.2))) c)->xs.Perm (ks.zip vs)->(xs.Pairwise fun x y=>num s.heap B x≤num s.heap B y)->P (.done (.ret .none)) { s with heap:=h',toks:=tk }):
 wpAny (model prog w) A (ksk_end a false vs.toArray e1 (.ref kS) ks.toArray) P E s:=by
 have zl:(ks.toArray.zip vs.toArray).toList=ks.zip vs:=by simp
 have tail:∀st:SortSt,failedOf st=none->(arrOf st).toList.Perm (ks.zip vs)->((arrOf st).toList.Pairwise fun x y=>num s.heap B x≤num s.heap B y)->wpAny (model prog w) A (ksk_tail a false e1 (.ref kS) st) P E s:=by
  intro st hf hp hs;have s1:=Heap.SameBut.update s.heap kS (Obj.mapSeq fun _=>(#[]:Array Value));have na1:(s.heap.update kS (Obj.mapSeq fun _=>(#[]:Array Value))).get? a=some (seqObj "list" #[] e1):=(s1.2 a hka.symm).trans ha;have s2:=Heap.SameBut.update (s.heap.update kS (Obj.mapSeq fun _=>(#[]:Array Value))) a (Obj.mapSeq fun _=>(arrOf st).map (·.2));have len:((arrOf st).map (·.2)).size≤sizeLine:=by have:=hp.length_eq;rw[Cv,AJ] at this;rw[Em];lia
  unfold ksk_tail
  try dsimp only
  refine Aa (listUpdate_at hkS rfl ?_ (by rw[Am];lia) (Bb _));refine Aa (wpAny_letGo ?_);refine Aa (seqEpoch_at na1 rfl ?_);refine Aa (listUpdate_at na1 rfl ?_ (Bb _) (by simp only[BM,if_false];exact C6 len));rw[hf];simp only[bne_self_eq_false,BM,if_false];obtain⟨c2,hc2⟩:∃c2,((s.heap.update kS (Obj.mapSeq fun _=>(#[]:Array Value))).update a (Obj.mapSeq fun _=>(arrOf st).map (·.2))).get? a=some (seqObj "list" ((arrOf st).map (·.2)) c2):=⟨_,get?_update_seq na1 fun _=>(arrOf st).map (·.2)⟩;refine Ag (h _ _ (arrOf st).toList c2 (fun b hb1 hb2=>?_) ?_ hp hs)
  ·exact(s2.2 b hb2).trans (s1.2 b hb1)
  ·have em:(arrOf st).map (·.2)=List.toArray ((arrOf st).toList.map (·.2)):=by apply DV.mp;rw[DW]
   rw[em] at hc2 ⊢;exact hc2
 unfold ksk_end;simp only[BM,if_false];by_cases h2:vs.toArray.size<2
 ·rw[AD h2,AD h2];refine Aa (Ag ?_);rw[StateT.run_pure];refine Aa (Ag ?_);refine tail _ rfl (by show(ks.toArray.zip vs.toArray).toList.Perm _;rw[zl]) ?_;show(ks.toArray.zip vs.toArray).toList.Pairwise _;rw[zl];rw[Am] at h2;have:(ks.zip vs).length<2:=by rw[Cv];lia
  exact lu this
 ·rw[Ay h2,Ay h2];rw[Am] at h2;refine Aa (ab2 hk (by omega) ?_);refine Aa (AX (uM (E:=E) (rG (B:=B)) (st:=SortSt.mk' (tuples' true) (ks.toArray.zip vs.toArray) #[] 7 none)
   (Q:=fun _ st'=>failedOf st'=none/\(arrOf st').toList.Perm (ks.zip vs)/\((arrOf st').toList.Pairwise fun x y=>num s.heap B x≤num s.heap B y)) rfl rfl rfl (fun x hx=>?_) ?_ fun st' b1 b2 b3=>⟨b1,?_,b3⟩) ?_ fun _ _ e=>e)
  ·have hx:x∈(ks.toArray.zip vs.toArray).toList:=hx;rw[zl] at hx;exact dW.pair (hk _ (Du (a:=x.1) (b:=x.2) hx).1)
  ·show((ks.toArray.zip vs.toArray).toList.map _).Nodup;rw[zl];exact inj
  ·have b2:(arrOf st').toList.Perm (ks.toArray.zip vs.toArray).toList:=b2;rw[zl] at b2;exact b2
  ·rintro⟨⟨⟩,st'⟩ s' ⟨rfl,b1,b2,b3⟩;exact tail st' b1 b2 b3
end
section
variable {w:World} 
theorem dW.ne{v:Value}{a b:Addr}{xs:Array Value}(k:dW h B v)(e:v=.ref a)(hb:h.get? b=some (seqObj "list" xs n)):a≠b:=by
 obtain⟨a',o,m,r,p,t,u,e1,e2,e3,_⟩:=k;rw[e] at e1;cases e1;rintro rfl;rw[hb] at e2;cases e2;have e3:Value.type "list" = Value.type "tuple" := e3;injection e3 with e
 exact absurd e (by decide)
theorem dW.keeps{v:Value}{b:Addr}{xs:Array Value}(k:dW h B v)(hb:h.get? b=some (seqObj "list" xs n))(hk:∀c o,c≠b->h.get? c=some o->h'.get? c=some o):dW h' B v:=by have k0:=k;obtain⟨a,o,m,r,p,t,u,e1,e2,e3,e4,e5,e6⟩:=k;exact⟨a,o,m,r,p,t,u,e1,hk a o (k0.ne e1 hb) e2,e3,e4,e5,e6⟩
theorem yw{x:Keyed}{b:Addr}{xs:Array Value}(k:dW h B x.1)(hb:h.get? b=some (seqObj "list" xs n))(hk:∀c o,c≠b->h.get? c=some o->h'.get? c=some o):num h' B x=num h B x:=by have k0:=k;obtain⟨a,o,m,r,p,t,u,e1,e2,e3,e4,e5,e6⟩:=k;rw[num_of e1 e2 e4,num_of e1 (hk a o (k0.ne e1 hb) e2) e4]
theorem mem_self_zip{x:Keyed}(h:x∈vs.zip vs):x.1∈vs/\x.1=x.2:=by
 induction vs with
 |nil=>simp at h
 |cons v r ih=>
  rw[DE] at h;rcases Av.mp h with rfl | h
  ·exact⟨As ..,rfl⟩
  ·exact⟨Ah _ (ih h).1,(ih h).2⟩
theorem afp{a:Addr}{P:PySem.Fin->Shared->Prop}(ho:s.heap.get? a=some (seqObj "list" vs.toArray n))(hz:vs.length≤100000)(hk:∀v∈vs,dW s.heap B v)(inj:((vs.zip vs).map (num s.heap B)).Nodup)
 (h:∀h' tk (xs:List Keyed) c,(∀b o,b≠a->s.heap.get? b=some o->h'.get? b=some o)->h'.get? a=some (seqObj "list" (List.toArray (xs.map (·.2))) c)->xs.Perm (vs.zip vs)->(xs.Pairwise fun x y=>num s.heap B x≤num s.heap B y)->P (.done (.ret .none)) { s with heap:=h',toks:=tk }):
 wpAny (model prog w) A (Builtin.«list.sort» ⟨[.ref a],[]⟩) P E s:=by
 have big:(100000:Nat)+1≤sizeLine:=by rw[sizeLine_eq];exact Ct _ _
 have zl:(vs.toArray.zip vs.toArray).toList=vs.zip vs:=by simp
 have s1:=Heap.SameBut.update s.heap a (Obj.mapSeq fun _=>(#[]:Array Value));obtain⟨e1,ho1⟩:∃e1,(s.heap.update a (Obj.mapSeq fun _=>(#[]:Array Value))).get? a=some (seqObj "list" #[] e1):=⟨_,get?_update_seq ho fun _=>#[]⟩;obtain⟨hp3,ehp3⟩:∃g,g=((s.heap.update a (Obj.mapSeq fun _=>(#[]:Array Value))).push (seqObj "tuple" vs.toArray 0)).push (seqObj "list" #[] 0):=⟨_,rfl⟩;have k3:∀b o,b≠a->s.heap.get? b=some o->hp3.get? b=some o:=fun b o hb e=>by rw[ehp3];exact Heap.get?_push_of_some _ (Heap.get?_push_of_some _ ((s1.2 b hb).trans e))
 have ha3:hp3.get? a=some (seqObj "list" #[] e1):=by rw[ehp3];exact Heap.get?_push_of_some _ (Heap.get?_push_of_some _ ho1)
 have hk3:∀v∈vs,dW hp3 B v:=fun v hv=>(hk v hv).keeps ho k3;have nk:∀x∈vs.zip vs,num hp3 B x=num s.heap B x:=fun x hx=>yw (hk _ (mem_self_zip hx).1) ho k3;have inj3:((vs.zip vs).map (num hp3 B)).Nodup:=by rw[CO nk];exact inj
 have tail:∀st:SortSt,failedOf st=none->(arrOf st).toList.Perm (vs.zip vs)->((arrOf st).toList.Pairwise fun x y=>num hp3 B x≤num hp3 B y)->
  ∀tk,P (.done (.ret .none)) { s with heap:=hp3.update a (Obj.mapSeq fun _=>(arrOf st).map (·.2)),toks:=tk }:=by
  intro st hf hp hs tk;have s2:=Heap.SameBut.update hp3 a (Obj.mapSeq fun _=>(arrOf st).map (·.2));obtain⟨c2,hc2⟩:∃c2,(hp3.update a (Obj.mapSeq fun _=>(arrOf st).map (·.2))).get? a=some (seqObj "list" ((arrOf st).map (·.2)) c2):=⟨_,get?_update_seq ha3 fun _=>(arrOf st).map (·.2)⟩;have em:(arrOf st).map (·.2)=List.toArray ((arrOf st).toList.map (·.2)):=by apply DV.mp;rw[DW]
  refine h _ tk (arrOf st).toList c2 (fun b o hb e=>(s2.2 b hb).trans (k3 b o hb e)) ?_ hp ?_
  ·rw[em] at hc2 ⊢;exact hc2
  ·refine Cb (fun {x y} hx hy z=>?_) hs;rw[nk x (hp.mem_iff.mp hx),nk y (hp.mem_iff.mp hy)] at z;exact z
 have len:∀st:SortSt,(arrOf st).toList.Perm (vs.zip vs)->((arrOf st).map (·.2)).size≤sizeLine+1:=fun st hp=>by have:=hp.length_eq;rw[Cv,AJ] at this;rw[Em];lia
 rw[list_sort_plain];refine Aa (listItems_at ho rfl ?_);refine Aa (listUpdate_at ho rfl ?_ (by rw[Am];exact cV) (Bb _));refine Aa (seqEpoch_at ho1 rfl ?_);refine Aa (wpAny_newTuple ?_ (by show vs.length≤_;lia));refine Aa (wpAny_newList ?_ (Bb _));refine A7 ?_;show wpAny (model prog w) A _ P E { s with heap:=((s.heap.update a (Obj.mapSeq fun _=>(#[]:Array Value))).push (seqObj "tuple" vs.toArray 0)).push (seqObj "list" #[] 0) };rw[<-ehp3];dsimp only;by_cases h2:vs.toArray.size<2
 ·rw[AD h2,AD h2];refine Aa (Ag ?_);rw[StateT.run_pure];refine Aa (Ag ?_);dsimp only;refine Aa (seqEpoch_at ha3 rfl ?_);have pz:(arrOf (SortSt.mk' (tuples' true) (vs.toArray.zip vs.toArray) #[] 7 none)).toList.Perm (vs.zip vs):=by show(vs.toArray.zip vs.toArray).toList.Perm _;rw[zl]
  refine Aa (listUpdate_at ha3 rfl ?_ (Bb _) (len _ pz));simp only[bne_self_eq_false,BM,if_false];refine Ag (tail (SortSt.mk' (tuples' true) (vs.toArray.zip vs.toArray) #[] 7 none) rfl pz ?_ _);show(vs.toArray.zip vs.toArray).toList.Pairwise _;rw[zl];rw[Am] at h2;have:(vs.zip vs).length<2:=by rw[Cv];lia
  exact lu this
 ·rw[Ay h2,Ay h2];rw[Am] at h2;refine Aa (ab2 (s:={ s with heap:=hp3 }) hk3 (by lia) ?_);refine Aa (AX (uM (E:=E) (rG (s:={ s with heap:=hp3 }) (B:=B)) (st:=SortSt.mk' (tuples' true) (vs.toArray.zip vs.toArray) #[] 7 none)
   (Q:=fun _ st'=>failedOf st'=none/\(arrOf st').toList.Perm (vs.zip vs)/\((arrOf st').toList.Pairwise fun x y=>num hp3 B x≤num hp3 B y)) rfl rfl rfl (fun x hx=>?_) ?_ fun st' b1 b2 b3=>⟨b1,?_,b3⟩) ?_ fun _ _ e=>e)
  ·have hx:x∈(vs.toArray.zip vs.toArray).toList:=hx;rw[zl] at hx;exact dW.pair (hk3 _ (mem_self_zip hx).1)
  ·show((vs.toArray.zip vs.toArray).toList.map _).Nodup;rw[zl];exact inj3
  ·have b2:(arrOf st').toList.Perm (vs.toArray.zip vs.toArray).toList:=b2;rw[zl] at b2;exact b2
  ·rintro⟨⟨⟩,st'⟩ s' ⟨rfl,b1,b2,b3⟩;dsimp only;refine Aa (seqEpoch_at ha3 rfl ?_);refine Aa (listUpdate_at ha3 rfl ?_ (Bb _) (len _ b2));rw[b1];simp only[bne_self_eq_false,BM,if_false];exact Ag (tail st' b1 b2 b3 _)
theorem w_sorted(hl:s.heap.IsList l vs.toArray)(hz:vs.length≤100000)(hk:∀v∈vs,dW s.heap B v)(inj:((vs.zip vs).map (num s.heap B)).Nodup)
 (h:∀h' tk (xs:List Keyed) D c,s.heap.objs.size≤D->(∀b o,s.heap.get? b=some o->h'.get? b=some o)->h'.get? D=some (seqObj "list" (List.toArray (xs.map (·.2))) c)->xs.Perm (vs.zip vs)->(xs.Pairwise fun x y=>num s.heap B x≤num s.heap B y)->Q (.ref D) { s with heap:=h',toks:=tk }):
 wpAny (model prog w) A (call (.builtin "sorted") [.ref l]) Q E s:=by
 have big:(100000:Nat)+1≤sizeLine:=by rw[sizeLine_eq];lia
 refine Calls.call_function_entry kind_sorted plain_sorted entry_sorted (args_sorted1 _) ?_;unfold Builtin.«sorted»;refine Aa (m:=checkCount "sorted" 1 1 _) (Ag ?_);refine Aa (collect_list hl ?_ (by lia));refine Aa (wpAny_newList ?_ (by lia));obtain⟨g,eg⟩:∃g,g=(s.heap.push (seqObj "list" #[] 0)).update s.heap.objs.size (Obj.mapSeq (· ++ vs.toArray)):=⟨_,rfl⟩;have gs:g.objs.size=s.heap.objs.size+1:=by rw[eg,Heap.size_update,size_push']
 have gk:∀b o,s.heap.get? b=some o->g.get? b=some o:=fun b o q=>by have hlt:b<s.heap.objs.size:=Heap.lt_size q;rw[eg,Heap.get?_update_ne _ _ _ _ (A3 hlt)];exact Heap.get?_push_of_some _ q
 show wpAny _ _ _ _ _ { s with heap:=((s.heap.push (seqObj "list" #[] 0)).update s.heap.objs.size (Obj.mapSeq (· ++ vs.toArray))).push (seqObj "list" vs.toArray 0) };rw[<-eg];have hoD:(g.push (seqObj "list" vs.toArray 0)).get? g.objs.size=some (seqObj "list" vs.toArray 0):=Heap.get?_push_size _ rfl;have keep:∀b o,s.heap.get? b=some o->(g.push (seqObj "list" vs.toArray 0)).get? b=some o:=fun b o q=>Heap.get?_push_of_some _ (gk b o q);have kT:∀v∈vs,dW (g.push (seqObj "list" vs.toArray 0)) B v:=fun v hv=>by obtain⟨a,o,m,r,p,t,u,e1,e2,r'⟩:=hk v hv;exact⟨a,o,m,r,p,t,u,e1,keep _ _ e2,r'⟩
 have nk:∀x∈vs.zip vs,num (g.push (seqObj "list" vs.toArray 0)) B x=num s.heap B x:=fun x hx=>by obtain⟨a,o,m,r,p,t,u,e1,e2,e3,e4,_⟩:=hk _ (mem_self_zip hx).1;rw[num_of e1 e2 e4,num_of e1 (keep _ _ e2) e4]
 refine Aa (A7 (wpAny_call_entry slot_list_sort ⟨_,hoD,rfl⟩ entry_list_sort ?body (args_list_sort _)))
 case body=>
  refine afp (s:={ s with heap:=g.push (seqObj "list" vs.toArray 0) }) hoD hz kT (by rw[CO nk];exact inj) fun h' tk xs c k1 hD pm pw=>?_;refine⟨_,rfl,Ag ⟨_,rfl,h h' tk xs g.objs.size c (by rw[gs];exact Cp _) (fun b o q=>k1 b o ?_ (keep b o q)) hD pm ?_⟩⟩
  ·have hlt:b<s.heap.objs.size:=Heap.lt_size q;intro z;rw[z,gs] at hlt;exact Dr hlt
  ·refine Cb (fun {x y} hx hy z=>?_) pw;rw[nk x (pm.mem_iff.mp hx),nk y (pm.mem_iff.mp hy)] at z;exact z
end
end TS
namespace L2
open PySem PySem.Spec PyProof.Rows
theorem mo(f:α->β):∀{l m:List β},l.Perm m->∀{T:List α},T.map f=m->∃T':List α,T'.Perm T/\T'.map f=l:=by
 intro l m p
 induction p with
 |nil=>intro T e;exact⟨T,BF _,e⟩
 |cons x _ ih=>
  intro T e;cases T with
  |nil=>cases e
  |cons t r=>
   rw[Az] at e;obtain⟨e1,e2⟩:=CS e;obtain⟨T',p',e'⟩:=ih e2;exact⟨t::T',p'.cons t,by rw[Az,e',e1]⟩
 |swap x y l=>
  intro T e
  match T,e with
  |t::u::r,e=>
   rw[Az,Az] at e;obtain⟨e1,e2⟩:=CS e;obtain⟨e3,e4⟩:=CS e2;exact⟨u::t::r,List.Perm.swap t u r,by rw[Az,Az,e1,e3,e4]⟩
 |trans _ _ ih1 ih2=>
  intro T e;obtain⟨T1,p1,e1⟩:=ih2 e;obtain⟨T2,p2,e2⟩:=ih1 e1;exact⟨T2,p2.trans p1,e2⟩
theorem fP{α β γ:Type}{R:β->γ->Prop}{g:α->β}{h:α->γ}:∀{T:List α},(∀t∈T,R (g t) (h t))->Paired R (T.map g) (T.map h)
 |[],_=>.nil
 |t::_,k=>.cons (k t (As ..)) (fP fun u hu=>k u (Ah _ hu))
theorem gH{α β γ:Type}{R:α->β->Prop}{S:α->γ->Prop}:∀{xs:List α} {ys:List β} {zs:List γ},Paired R xs ys->Paired S xs zs->∃T:List (α×β×γ),T.map (·.1)=xs/\T.map (fun t=>t.2.1)=ys/\T.map (fun t=>t.2.2)=zs/\∀t∈T,R t.1 t.2.1/\S t.1 t.2.2
 |_,_,_,.nil,.nil=>⟨[],rfl,rfl,rfl,fun t ht=>by cases ht⟩
 |_,_,_,.cons (a:=x) (b:=y) r p,.cons (b:=z) q p'=>by
  obtain⟨T,e1,e2,e3,k⟩:=gH p p';refine⟨(x,y,z)::T,by rw[Az,e1],by rw[Az,e2],by rw[Az,e3],fun t ht=>?_⟩;rcases Av.mp ht with rfl | ht
  ·exact⟨r,q⟩
  ·exact k t ht
theorem bE{α β:Type}{f:α->β}:∀{l:List α},(∀x∈l,∀y∈l,f x=f y->x=y)->l.Nodup->(l.map f).Nodup
 |[],_,_=>BP
 |a::r,h,n=>by obtain⟨n1,n2⟩:=Au.mp n;rw[Az];refine Au.mpr ⟨fun z=>?_,bE (fun x hx y hy=>h x (Ah _ hx) y (Ah _ hy)) n2⟩;obtain⟨y,hy,e⟩:=Bp.mp z;have:=h y (Ah _ hy) a (As ..) e;exact n1 (this▸hy)
def iW(p q:Int×Int):Prop:=p.1<q.1\/(p.1=q.1/\p.2≤q.2)
abbrev wW(K:Ai)(H:Hp)(v:V)(p:Int×Int):Prop:=∃a,v=.ref a/\dF K H a [.int p.1,.int p.2]
theorem uW{p q:Int×Int}(hp:0≤p.2/\p.2<B)(hq:0≤q.2/\q.2<B)(h:p.1*B+p.2≤q.1*B+q.2):iW p q:=by
 unfold iW;by_cases c:p.1<q.1
 ·exact .inl c
 ·right;by_cases d:q.1<p.1
  ·have h5:(q.1+1)*B≤p.1*B:=Cm (by assumption) (by lia);rw[Int.add_mul,Int.one_mul] at h5;omega
  ·have e:p.1=q.1:=by lia
   rw[e] at h;exact⟨e,by lia⟩
theorem ag9{p q:Int×Int}(hp:0≤p.2/\p.2<B)(hq:0≤q.2/\q.2<B)(h:p.1*B+p.2=q.1*B+q.2):p=q:=by
 have h1:=uW hp hq (by omega);have h2:=uW hq hp (by omega);unfold iW at h1 h2;have e1:p.1=q.1:=by lia
 have e2:p.2=q.2:=by lia
 exact Ej e1 e2
section
def ahf(X:Cx):List V->Hp->VK->Prop:=fun xs H Q=>∃l ys ps,xs=[.ref l]/\aE X.K H l ys/\Paired (wW X.K H) ys ps/\(∀p∈ps,0≤p.2/\p.2<1000000)/\ps.Nodup/\ys.length≤100000/\
 ∀D zs qs,H D=none->Paired (wW X.K H) zs qs->qs.Perm ps->qs.Pairwise iW->Q (.ref D) (upd H D (.lst zs))
theorem t9:jq X (.builtin "sorted") (ahf X):=by
 intro pins s σ H xs us Q I r h;obtain⟨l,ys,ps,rfl,hl,pr,hb,hnd,hlen,q⟩:=h;obtain⟨u,rfl,ru⟩:=r.one;cases (show u=Value.ref l from ru);obtain⟨its,rv,pl,hz⟩:=I.list hl;have l1:ys.length=its.length:=rv.length;obtain⟨T,e1,e2,e3,kT⟩:=gH rv pr;have kT2:∀t∈T,(∃a o n t1 t2,t.2.1=Value.ref a/\s.heap.get? a=some o/\o.cls=.type "tuple" /\ o.data=.seq #[.int t.2.2.1 t1,.int t.2.2.2 t2] n)/\0≤t.2.2.2/\t.2.2.2<1000000:=fun t ht=>by obtain⟨r1,a,ea,hs⟩:=kT t ht;obtain⟨its2,rv2,⟨o,g1,g2,n,g3⟩,_⟩:=I.tuple hs;obtain⟨w1,w2,rfl,x1,x2⟩:=rv2.two;obtain⟨t1,rfl⟩:=(show ∃t1,w1=Value.int t.2.2.1 t1 from x1);obtain⟨t2,rfl⟩:=(show ∃t2,w2=Value.int t.2.2.2 t2 from x2);rw[ea] at r1;refine⟨⟨a,o,n,t1,t2,r1,g1,g2,g3⟩,?_⟩;exact hb _ (by rw[<-e3];exact Ce (f:=fun t:V×Value×(Int×Int)=>t.2.2) ht)
 have nT:∀t∈T,TS.num s.heap 1000000 (t.2.1,t.2.1)=t.2.2.1*1000000+t.2.2.2:=fun t ht=>by obtain⟨⟨a,o,n,t1,t2,g0,g1,g2,g3⟩,_⟩:=kT2 t ht;exact TS.num_of g0 g1 g3
 have ez:its.zip its=T.map fun t=>(t.2.1,t.2.1):=by rw[<-e2,List.zip_map']
 have inj:((its.zip its).map (TS.num s.heap 1000000)).Nodup:=by
  rw[ez,BC];have e4:T.map (TS.num s.heap 1000000∘fun t=>(t.2.1,t.2.1))=(T.map fun t=>t.2.2).map fun p:Int×Int=>p.1*1000000+p.2:=by rw[BC];exact CO fun t ht=>nT t ht
  rw[e4,e3];exact bE (fun x hx y hy e=>ag9 (hb x hx) (hb y hy) e) hnd
 refine ji I.tk (TS.w_sorted (B:=1000000) pl.isList (by rw[<-l1];exact hlen) (fun v hv=>?_) inj fun h' tk ks D c hD hk hg pm pw ht=>?_)
 ·rw[<-e2] at hv;obtain⟨t,ht,rfl⟩:=Bp.mp hv;obtain⟨⟨a,o,n,t1,t2,g0,g1,g2,g3⟩,b1,b2⟩:=kT2 t ht;exact⟨a,o,n,_,_,t1,t2,g0,g1,g2,g3,b1,b2⟩
 ·rw[ez] at pm;obtain⟨T',pT,eT⟩:=mo _ pm rfl;subst eT;have mT:∀t,t∈T'->t∈T:=fun t=>pT.mem_iff.mp;have pw':=BH.mp pw;refine⟨.ref D,_,I.laid (t':=tk) (o:=.lst (T'.map (·.1))) hk hD ?_,rfl,q D (T'.map (·.1)) (T'.map fun t=>t.2.2) (I.hok.fresh hD) (fP fun t ht=>(kT t (mT t ht)).2) ?_ ?_⟩
  ·refine⟨?_,T'.map (fun t=>t.2.1),c,fP fun t ht=>(kT t (mT t ht)).1,?_⟩
   ·rw[Ae,pT.length_eq];have:T.length=ys.length:=by rw[<-e1,Ae]
    rw[this];exact hz
   ·rw[hg,BC];rfl
  ·rw[<-e3];exact pT.map _
  ·refine BH.mpr (Cb (fun {x y} hx hy z=>?_) pw');rw[nT x (mT x hx),nT y (mT y hy)] at z;exact uW (kT2 x (mT x hx)).2 (kT2 y (mT y hy)).2 z
end
end L2
namespace L3
open PySem L2
def prY(p:Int×Int):Y:=.tup [.int p.1,.int p.2]
theorem tR{G:G3}{H:Hp}:∀{ps:List (Int×Int)} {xs:List V},xo G H (ps.map prY) xs->Paired (wW G.K H) xs ps
 |[],_,h=>by cases (show _=[] from h);exact .nil
 |p::r,_,⟨x,xs',e,⟨a,zs,ea,hs,z1,zs1,e1,rz1,z2,zs2,e2,rz2,e3⟩,s⟩=>by subst e ea e1 e2 e3;cases (show z1=V.int p.1 from rz1);cases (show z2=V.int p.2 from rz2);exact .cons ⟨a,rfl,hs⟩ (tR s)
theorem sd{G:G3}{H:Hp}:∀{ps:List (Int×Int)} {xs:List V},Paired (wW G.K H) xs ps->xo G H (ps.map prY) xs
 |_,_,.nil=>rfl
 |_,_,.cons ⟨a,ea,hs⟩ t=>by subst ea;exact⟨_,_,rfl,⟨a,_,rfl,hs,_,_,rfl,rfl,_,_,rfl,rfl,rfl⟩,sd t⟩
def aQ(xs:List Y)(L:qm)(Q:YK):Prop:=match xs with
 |[.ref a]=>cW L a fun ys=>∃ps:List (Int×Int),ys=ps.map prY/\(∀p∈ps,0≤p.2/\p.2<1000000)/\ps.Nodup/\ps.length≤100000/\∀(D:Addr) (qs:List (Int×Int)),L D=none->qs.Perm ps->qs.Pairwise iW->Q (.ref D) (qg L D (.lst (qs.map prY)))
 |_=>False
theorem wf:bootBuiltins "sorted" = some (.builtin "sorted"):=by decide +kernel
theorem bP :jq X (.builtin "sorted") (upL X.g3 aQ):=ER t9 fun xs H Q ⟨ys,L,Q3,rv,rl,z,k⟩=>by
 unfold aQ at z;split at z
 ·rename_i a;obtain⟨zs,e,ps,rfl,hb,hnd,hlen,z⟩:=xh z;obtain⟨vs,e2,r⟩:=rl a _ e;obtain⟨u,rfl,ru⟩:=rv.inv1;cases (show u=V.ref a from ru);have pr:=tR r;exact⟨a,vs,ps,rfl,ES e2,pr,hb,hnd,by rw[<-r.length,Ae];exact hlen,fun D zs qs hD pz pm pw=>k _ _ _ _ (EE hD) (rl.newL hD (sd pz)) (by rfl) (z D qs (rl.none hD) pm pw)⟩
 ·exact z.elim
open PySem L2 Words
def au:Wd->Y
 |.leaf t n=>.tup [.str (kL t),.str n]
 |.node e l r=>.tup [.str (kN e),au l,au r]
def eY:Y:=(.tup [(.str "plain"),(.str "turned")])
def dE:Y:=(.cd [("plain", "turned"),("turned", "plain"),("both", "either"),("either", "both")])
theorem ql{Q:α->qm->Prop}{o:Option α}{v:α}(e:o=some v)(h:Q v L):wO L Q o:=by rw[e];exact h
abbrev jk(i:Int):xp:=yC (.int i)
abbrev fE(x:Str):xp:=yC (.str x)
abbrev xu(i:Nat)(n:Int):xp:=zn ax (qa i) (yC (.int n))
abbrev bM(i:Nat):xp:=bJ jC (qe (qa i) qr)
abbrev fJ(a b:xp):iD:=yB (zn (mQ false) a b)
abbrev rdN(a b:xp):iD:=yB (zn (mQ true) a b)
abbrev rdT(a b:xp):xp:=vk (qe a (qe b qr))
abbrev kj(a:xp):eX:=qe a qr
abbrev k8(a b:xp):eX:=qe a (qe b qr)
def yK:wv:=(jr (zn (lh false) (xu 0 0) (yC eY)))
def kX:Bool->Bool->Str
 |true,t=>kL t
 |false,e=>kN e
def aO:jw:=fun ys L Q=>∃lf b rest,ys=[.tup (.str (kX lf b)::rest)]/\Q (.bl lf) L
theorem yZ(t:Bool):tV (.str (kL t)) [.str "plain",.str "turned"]=true:=by cases t<;>decide +kernel
theorem xF(t:Bool):tV (.str (kN t)) [.str "plain",.str "turned"]=false:=by cases t<;>decide +kernel
theorem ut:∀ys L Q,aO ys L Q->xx yK 1 ys L Q:=by
 rintro ys L Q ⟨lf,b,rest,rfl,q⟩;have e0:g9 (Y.str (kX lf b)::rest) 0=some (Y.str (kX lf b)):=k7 (xs:=Y.str (kX lf b)::rest) (j:=0) rfl;walk_at "w";rw[e0];refine⟨rfl,rfl,xr ?_⟩;cases lf with
 |true=>
  rw[show nb false (tV (dm (.str (kX true b))) ([Y.str "plain",.str "turned"].map dm))=true from yZ b];exact q
 |false=>
  rw[show nb false (tV (dm (.str (kX false b))) ([Y.str "plain",.str "turned"].map dm))=false from xF b];exact q
def ac1(p0 p1:jw):wv:=(qp (zr (zn ax (yC dE) (xu 0 0)) (qf 1))
 (qp (xc (yB (qt p0 (kj (qa 0)))) (jr (rdT (qa 1) (xu 0 1))) js)
 (jr (vk (qe (qa 1) (qe (qt p1 (kj (xu 0 1))) (qe (qt p1 (kj (xu 0 2))) qr)))))))
def ap(n:Nat):jw:=fun ys L Q=>∃wd,ys=[au wd]/\wd.depth≤n/\Q (au wd.turn) L
theorem oE(t:Bool):List.lookup (kL t) [(("plain" : Str),("turned" : Str)),("turned", "plain"),("both", "either"),("either", "both")]=some (kL (!t)):=by cases t<;>decide +kernel
theorem oQ(t:Bool):List.lookup (kN t) [(("plain" : Str),("turned" : Str)),("turned", "plain"),("both", "either"),("either", "both")]=some (kN (!t)):=by cases t<;>decide +kernel
theorem yQ(n:Nat):∀ys L Q,ap (n+1) ys L Q->xx (ac1 aO (ap n)) 2 ys L Q:=by
 rintro ys L Q ⟨wd,rfl,hd,q⟩;cases wd with
 |leaf t nm=>
  exact ql (oE t) ⟨true,t,_,rfl,xr q⟩
 |node e l r=>
  have hd':max l.depth r.depth+1≤n+1:=hd;refine ql (oQ e) ⟨false,e,_,rfl,l,rfl,by lia,r,rfl,by lia,?_⟩;exact xr q
theorem ju.str(x:Str):ju L n (.str x) (.s (.str x)):=by cases n with|zero=>exact⟨rfl,rfl⟩|succ n=>exact .inl ⟨rfl,rfl⟩
abbrev EV:=@ju.str
theorem ju.int(x:Int):ju L n (.int x) (.s (.int x)):=by cases n with|zero=>exact⟨rfl,rfl⟩|succ n=>exact .inl ⟨rfl,rfl⟩
abbrev EL:=@ju.int
theorem fc{L:qm}:∀{wd:Wd} {n:Nat},wd.depth≤n->ju L n (au wd) (gn wd)
 |.leaf t nm,n+1,_=>.inr (.inl ⟨_,_,rfl,rfl,.cons (EV _) (.cons (EV _) .nil)⟩)
 |.node e l r,n+1,h=>by have h':max l.depth r.depth+1≤n+1:=h;exact .inr (.inl ⟨_,_,rfl,rfl,.cons (EV _) (.cons (fc (by lia)) (.cons (fc (by lia)) .nil))⟩)
theorem al{a:Addr}(e:L a=some (.lst ys))(p:Paired (ju L n) ys ds):ju L (n+1) (.ref a) (.lst ds):=.inr (.inr ⟨ys,ds,rfl,rfl,aD e,p⟩)
theorem bY(p:Paired (ju L n) ys ds):ju L (n+1) (.tup ys) (.tup ds):=.inr (.inl ⟨ys,ds,rfl,rfl,p⟩)
theorem fi{neg:Bool}{u v:Wd}{Q:YK}(hu:u.depth≤128)(q:Q (.bl (nb neg (Da.eq (gn u) (gn v)))) L):mQ neg (au u) (au v) L Q:=by
 have hr:∀w:Wd,xN (au w)=true:=fun w=>by cases w<;>rfl
 have:xN (au u)=true/\xN (au v)=true/\∃n m d e,n≤128/\ju L n (au u) d/\ju L m (au v) e/\Q (.bl (nb neg (Da.eq d e))) L:=
  ⟨hr u,hr v,u.depth,v.depth,gn u,gn v,hu,fc (Ao _),fc (Ao _),q⟩
 cases u<;>cases v<;>exact this
theorem cD{neg:Bool}{a b:Addr}{zs:List Y}{es:List Da}{Q:YK}(hn:n<128)(ea:L a=some (.lst ys))(eb:L b=some (.lst zs))(pa:Paired (ju L n) ys ds)(pb:Paired (ju L m) zs es)(q:Q (.bl (nb neg (Da.eqs ds es))) L):
 mQ neg (.ref a) (.ref b) L Q:=⟨rfl,rfl,n+1,m+1,_,_,hn,al ea pa,al eb pb,q⟩
theorem yP:∀ys L Q,¬ap 0 ys L Q:=fun ys L Q ⟨wd,_,hd,_⟩=>by cases wd<;>simp[Wd.depth] at hd
def nY(hs:List Nat):List Y:=hs.map fun n:Nat=>.int (n:Int)
theorem ae(hs:List Nat):(nY hs).length=hs.length:=by unfold nY;rw[Ae]
theorem xz{a p:Addr}{o:LO}(h:qg L a o p=none):L p=none:=by
 by_cases c:p=a
 ·subst c;rw[q9] at h;cases h
 ·rw[qd c] at h;exact h
theorem zo{l:List α}{x:α}(h:l[i]?=some x):i<l.length:=(AZ.mp h).1
def ld:wv:=(qp (xc (yB (zn zT (qa 1) (bM 0))) (jr (zn ax (qa 0) (qa 1))) js)
 (jr (jk 0)))
def uI:wv:=(jr (zn aw (zn w9 (zn ac3 (zn wz (zn wz (zn ac3 (zn w9 (qa 0) (jk 1000003)) (jk 7)) (zn ac3 (qa 1) (qa 1))) (jk 1)) (qa 2)) (jk 2147483647)) (jk 16)))
def mZ(p0:jw):wv:=(qp (xc (fJ (bM 0) (jk 2)) (jr (jk 1)) js)
 (jr (zn wz (zn wz (jk 1) (qt p0 (kj (xu 0 1)))) (qt p0 (kj (xu 0 2))))))
def qX(p0:jw):wv:=(qp (xc (yOr (yB (bB .bool (qa 0))) (yB (bB .bool (qa 1)))) (jr (a8 (bB .bool (qa 0)) (a8 (bB .bool (qa 1)) (zn (mQ false) (qa 0) (qa 1))))) js)
 (qp (xc (yB (tQ .list .tuple (qa 1))) (qp (xc (yOr (rdN (bB .list (qa 0)) (bB .list (qa 1))) (rdN (bB .tuple (qa 0)) (bB .tuple (qa 1)))) (jr (yC (.bl false))) js)
 (qp (xc (rdN (bM 0) (bM 1)) (jr (yC (.bl false))) js)
 (qp (eO (agh (k8 (qa 0) (qa 1))) (wo 2 (zg (qf 2) (zg (qf 3) vz))) (xc (y7 (yB (qt p0 (k8 (qa 2) (qa 3))))) (jr (yC (.bl false))) js))
 (jr (yC (.bl true)))))) js)
 (qp (xc (yB (bB .int (qa 1))) (jr (a8 (bB .int (qa 0)) (zn (mQ false) (qa 0) (qa 1)))) js)
 (qp (xc (yB (bB .str (qa 1))) (jr (a8 (bB .str (qa 0)) (zn (mQ false) (qa 0) (qa 1)))) js)
 (jr (cX false (qa 0)))))))
def sj(p0:jw):wv:=(qp (zr (zn ax (qa 0) (qa 1)) (qf 2))
 (qp (xc (fJ (bM 2) (jk 2)) (jr (qa 2)) js)
 (jr (vk (qe (xu 2 0) (qe (qt p0 (k8 (qa 0) (xu 2 1))) (qe (qt p0 (k8 (qa 0) (xu 2 2))) qr)))))))
def xZ(p0 p1:jw):wv:=(qp (zr (zn ax (qa 0) (qa 1)) (qf 2))
 (qp (xc (yB (qt p0 (kj (qa 2)))) (jr (qa 2)) js)
 (jr (vk (qe (xu 2 0) (qe (qt p1 (k8 (qa 0) (xu 2 1))) (qe (qt p1 (k8 (qa 0) (xu 2 2))) qr)))))))
def fQ:jw:=fun ys L Q=>∃ns:List Int,∃k:Int,ys=[.sq (ns.map Y.int),.int k]/\0≤k/\∀v,Q (.int v) L
theorem uK:∀ys L Q,fQ ys L Q->xx ld 2 ys L Q:=by rintro ys L Q ⟨ns,k,rfl,h0,q⟩;refine j8 (fun c=>?_) fun c=>xr (q 0);have c':k<((ns.map Y.int).length:Int):=c;rw[Ae] at c';obtain⟨j,rfl⟩:∃j:Nat,k=(j:Int):=⟨k.toNat,by lia⟩;have e:g9 (ns.map Y.int) (j:Int)=some (Y.int (ns[j]'(by omega))):=v0 (Aj _);walk_at "w";rw[e];exact xr (q _)
def dy:jw:=fun ys L Q=>∃c k f:Int,ys=[.int c,.int k,.int f]/\0≤k/\k<1000000/\0<f/\f<1000000/\∀v,0≤v->v<134217728->Q (.int v) L
theorem ahr:∀ys L Q,dy ys L Q->xx uI 3 ys L Q:=by
 rintro ys L Q ⟨c,k,f,rfl,h0,h1,h2,h3,q⟩;refine⟨(by decide:(0:Int)<1000003),.inr ⟨by decide,by decide⟩,.inl ⟨by lia,by lia⟩,.inr ⟨by lia,by lia⟩,(by decide:(0:Int)<2147483647),⟨by decide,by decide⟩,xr (q _ ?_ ?_)⟩
 all_goals
  generalize ((c % 1000003*7+k*k+1)*f)=z;lia
theorem abl(cs:List Nat):(Txt.join "" (cs.map fun c=>(⟨#[c]⟩:Str))).cps.toList=cs:=by
 rw[o4]
 induction cs with|nil=>rfl|cons c r ih=>rw[Az,AU,ih];rfl
def cM(n:Nat):jw:=fun ys L Q=>∃wd,ys=[au wd]/\wd.depth≤n/\Q (.int wd.size) L
theorem mD:∀ys L Q,¬cM 0 ys L Q:=fun ys L Q ⟨wd,_,hd,_⟩=>by cases wd<;>simp[Wd.depth] at hd
theorem yt(n:Nat):∀ys L Q,cM (n+1) ys L Q->xx (mZ (cM n)) 1 ys L Q:=by
 rintro ys L Q ⟨wd,rfl,hd,q⟩;cases wd with
 |leaf t n=>exact xr q
 |node e l r=>
  have hd':max l.depth r.depth+1≤n+1:=hd;refine⟨l,rfl,by lia,r,rfl,by lia,xr ?_⟩;have e:(1+(l.size:Int)+(r.size:Int))=(((Wd.node e l r).size:Nat):Int):=by show _=((1+l.size+r.size:Nat):Int);rfl
  rw[e];exact q
def dY(L:qm):Nat->Y->Y->Prop
 |0,_,_=>False
 |n+1,x,y=>(dG x=true/\y=x)\/(∃xs ys,x=.tup xs/\y=.tup ys/\Paired (dY L n) xs ys)\/(∃a b xs ys,x=.ref a/\y=.ref b/\L a=some (.lst xs)/\L b=some (.lst ys)/\Paired (dY L n) xs ys)
theorem dY.flat{x:Y}(h:dG x=true):dY L (n+1) x x:=.inl ⟨h,rfl⟩
def gC(n:Nat):jw:=fun ys L Q=>∃x y,ys=[x,y]/\dY L n x y/\Q (.bl true) L
theorem qF:∀ys L Q,¬gC 0 ys L Q:=fun ys L Q ⟨x,y,_,h,_⟩=>h
theorem wM{xs:List Y}{keep:qm->Prop}{tb:wv}(W:Nat->jp->qm->Prop)(h0:W 0 τ L)(hk:∀i τ L',W i τ L'->keep L')
 (hs:∀i x y τ L,xs[i]?=some x->ys[i]?=some y->W i τ L->g (.tup [x,y]) τ L fun τ2 L2=>tb { D with nx:=cz (W (i+1)),ct:=cz (W (i+1)),bk:=D.nx } τ2 L2) (hd:∀τ L,W (min xs.length ys.length) τ L->D.nx τ L):
 rS (uq xs ys) keep g tb D τ L:=wm ⟨W,h0,hk,fun i y τ L e w=>by obtain⟨a,b,ea,eb,rfl⟩:=wB e;exact hs i a b τ L ea eb w,fun τ L w=>hd τ L (by rw[lL] at w;exact w)⟩
theorem afj(n:Nat):∀ys L Q,gC (n+1) ys L Q->xx (qX (gC n)) 4 ys L Q:=by
 rintro ys L Q ⟨x,y,rfl,h,q⟩;rcases h with⟨f,rfl⟩ | ⟨xs,ys,rfl,rfl,p⟩ | ⟨a,b,xs,ys,rfl,rfl,h1,h2,p⟩
 ·cases y with
  |non=>exact xr q
  |bl b=>
   refine xr ?_;show Q (.bl (nb false (decide (b=b)))) L;rw[AC rfl];exact q
  |int i=>
   refine xr ?_;show Q (.bl (nb false (decide (i=i)))) L;rw[AC rfl];exact q
  |str i=>
   refine xr ?_;show Q (.bl (nb false (decide (i=i)))) L;rw[AC rfl];exact q
  |_=>cases f
 ·have hl:=p.length;walk_at "w";refine aG (b:=nb true (decide ((xs.length:Int)=ys.length))) (by rw[hl,AC rfl];rfl) ?_;refine wM (fun i τ L'=>L'=L/\∃c d,τ=[some (.tup xs),some (.tup ys),c,d]) ⟨rfl,_,_,rfl⟩ (fun i τ L' w=>⟨trivial,trivial⟩) ?_ ?_
  ·rintro i u v τ L' eu ev ⟨rfl,c,d,rfl⟩;exact⟨u,v,rfl,EJ p eu ev,_,ED _,rfl,_,_,rfl⟩
  ·rintro τ L' ⟨rfl,c,d,rfl⟩;exact xr q
 ·have hl:=p.length;refine cq h1 (cq h2 ?_);walk_at "w";refine cq h2 ?_;walk_at "w";refine cq h1 (cq h2 ?_);walk_at "w";refine cq h1 (cq h2 ?_);walk_at "w";refine qb h1 (qb h2 (aG (by rw[hl,AC rfl];rfl) ?_));walk_at "w";refine qk h1 (qk h2 ?_);refine wM (fun i τ L'=>L'=L/\∃c d,τ=[some (.ref a),some (.ref b),c,d]) ⟨rfl,_,_,rfl⟩ (fun i τ L' ⟨e,_⟩=>by subst e;exact⟨rfl,rfl⟩) ?_ ?_
  ·rintro i u v τ L' eu ev ⟨rfl,c,d,rfl⟩;exact⟨u,v,rfl,EJ p eu ev,_,ED _,rfl,_,_,rfl⟩
  ·rintro τ L' ⟨rfl,c,d,rfl⟩;exact xr q
def KW(ks:List Y):Nat->Wd->Prop
 |p,.leaf t n=>ks[p]?=some (.tup [.str (kL t),.str n])
 |p,.node e l r=>∃i j:Nat,ks[p]?=some (.tup [.str (kN e),.int i,.int j])/\KW ks i l/\KW ks j r
theorem KW.more{ks:List Y}(ms:List Y):∀{wd:Wd} {p:Nat},KW ks p wd->KW (ks++ms) p wd
 |.leaf _ _,p,h=>by have h':ks[p]?=some _:=h;show(ks++ms)[p]?=some _;rw[AB (AZ.mp h').1];exact h'
 |.node _ _ _,p,⟨i,j,h,a,b⟩=>⟨i,j,by rw[AB (AZ.mp h).1];exact h,KW.more ms a,KW.more ms b⟩
def xj(n:Nat):jw:=fun ys L Q=>∃k ks p wd,ys=[.ref k,.int ((p:Nat):Int)]/\L k=some (.lst ks)/\KW ks p wd/\wd.depth≤n/\Q (au wd) L
theorem kM:∀ys L Q,¬xj 0 ys L Q:=fun ys L Q ⟨k,ks,p,wd,_,_,_,hd,_⟩=>by cases wd<;>simp[Wd.depth] at hd
theorem o7:∀ys L Q,¬xj 0 ys L Q:=kM
theorem vA(n:Nat):∀ys L Q,xj (n+1) ys L Q->xx (xZ aO (xj n)) 3 ys L Q:=by
 rintro ys L Q ⟨k,ks,p,wd,rfl,hk,h,hd,q⟩;cases wd with
 |leaf t nm=>exact qb hk (ql (k7 h) ⟨true,t,_,rfl,xr q⟩)
 |node e l r=>
  obtain⟨i,j,h,hl,hr⟩:=h;have hd':max l.depth r.depth+1≤n+1:=hd;exact qb hk (ql (k7 h) ⟨false,e,_,rfl,k,ks,i,l,rfl,hk,hl,by lia,k,ks,j,r,rfl,hk,hr,by lia,xr q⟩)
theorem rX(n:Nat):∀ys L Q,xj (n+1) ys L Q->xx (sj (xj n)) 3 ys L Q:=by
 rintro ys L Q ⟨k,ks,p,wd,rfl,hk,h,hd,q⟩;cases wd with
 |leaf t nm=>exact qb hk (ql (k7 h) (xr q))
 |node e l r=>
  obtain⟨i,j,h,hl,hr⟩:=h;have hd':max l.depth r.depth+1≤n+1:=hd;exact qb hk (ql (k7 h) ⟨k,ks,i,l,rfl,hk,hl,by lia,k,ks,j,r,rfl,hk,hr,by lia,xr q⟩)
def mkS(l:List Nat):Str:=⟨l.toArray⟩
theorem vI(x:Str):mkS x.cps.toList=x:=by cases x;rfl
def adt(p0:jw):wv:=(qp (zr (agy [("plain", "turned"),("turned", "plain"),("both", "either"),("either", "both")]) (qf 1))
 (qp (xc (fJ (bM 0) (jk 2)) (jr (vk (qe (zn ax (qa 1) (xu 0 0)) (kj (xu 0 1))))) js)
 (jr (vk (qe (zn ax (qa 1) (xu 0 0)) (qe (qt p0 (kj (xu 0 1))) (qe (qt p0 (kj (xu 0 2))) qr)))))))
def aa0(p0:jw)(p1:jw):wv:=(qp (xc (fJ (bM 1) (jk 2)) (qp (j9 (aW zu (qa 0) (qe (qt p0 (kj (qa 1))) qr)))
 (qp (j9 (aW zu (qa 0) (kj (qa 1))))
 (jr (ve (qe (vk (qe (fE "link") (qe (zn hG (bM 0) (jk 2)) (qe (zn hG (bM 0) (jk 1)) qr)))) (qe (zn hG (bM 0) (jk 2)) (qe (zn hG (bM 0) (jk 1)) qr))))))) js)
 (qp (zr (qt p1 (k8 (qa 0) (xu 1 1))) (qf 2))
 (qp (zr (qt p1 (k8 (qa 0) (xu 1 2))) (qf 3))
 (qp (j9 (aW zu (qa 0) (qe (vk (qe (zn ax (qt p0 (kj (qa 1))) (jk 0)) (k8 (xu 2 1) (xu 3 1)))) qr)))
 (qp (j9 (aW zu (qa 0) (qe (vk (qe (xu 1 0) (k8 (xu 2 2) (xu 3 2)))) qr)))
 (qp (aio 4 5 (qe (zn hG (bM 0) (jk 2)) (qe (zn hG (bM 0) (jk 1)) qr)))
 (qp (zr (yIf (fJ (xu 1 0) (fE "either")) (qa 4) (qa 5)) (qf 6))
 (qp (zr (yIf (fJ (xu 1 0) (fE "either")) (qa 5) (qa 4)) (qf 7))
 (jr (ve (qe (vk (qe (fE "either") (qe (qa 7) (qe (vk (qe (fE "both") (qe (qa 6) (k8 (xu 2 0) (xu 3 0))))) qr)))) (k8 (qa 4) (qa 5)))))))))))))
inductive Kn where
 |lf (t:Bool) (n:Str) | nd (e:Bool) (i j:Nat)
def pN:Kn->Y
 |.lf t n=>.tup [.str (kL t),.str n]
 |.nd e i j=>.tup [.str (kN e),.int ((i:Nat):Int),.int ((j:Nat):Int)]
inductive Ru where
 |link (p q:Nat) | ei (r:Nat) (A:Ru) | bo (r:Nat) (A B:Ru) | cu (p q:Nat) (A B:Ru)
def ze:Ru->Y
 |.link p q=>.tup [.str "link",.int ((p:Nat):Int),.int ((q:Nat):Int)]
 |.ei r A=>.tup [.str "either",.int ((r:Nat):Int),ze A]
 |.bo r A B=>.tup [.str "both",.int ((r:Nat):Int),ze A,ze B]
 |.cu p q A B=>.tup [.str "cut",.int ((p:Nat):Int),.int ((q:Nat):Int),ze A,ze B]
def qz:Ru->List Nat
 |.link p q=>[p,q]
 |.ei r A=>r::qz A
 |.bo r A B=>r::(qz A++qz B)
 |.cu _ _ A B=>qz A++qz B
abbrev ja(ks:List Kn):List Y:=ks.map pN
def cZ(ks:List Kn)(p:Nat)(w:Wd):Prop:=KW (ja ks) p w
theorem cZ.more{ks:List Kn}{p:Nat}{w:Wd}(h:cZ ks p w)(ms:List Kn):cZ (ks++ms) p w:=by unfold cZ ja;rw[AF];exact KW.more _ h
def a9(ks:List Kn):Prop:=∀(p:Nat) (k:Kn),ks[p]?=some k->match k with
 |.lf _ n=>dr n
 |.nd _ i j=>i<p/\j<p
theorem a9.snoc{ks:List Kn}{k:Kn}(h:a9 ks)(hk:match k with | .lf _ n=>dr n | .nd _ i j=>i<ks.length/\j<ks.length):a9 (ks++[k]):=by
 intro p k' e;by_cases c:p<ks.length
 ·rw[AB c] at e;exact h p k' e
 ·rw[An (by exact vD)] at e;have c2:p=ks.length:=by
   by_cases c3:p - ks.length=0
   ·omega
   ·rw[Cz (by simp;exact aco)] at e;cases e
  subst c2;rw[CK] at e;cases e;exact hk
theorem cg(l:List α)(x:α)(r:List α):(l++x::r)[l.length]?=some x:=by rw[An (Ao _),CK];rfl
theorem iH{l r:List α}{p:Nat}{x:α}(h:l[p]?=some x):(l++r)[p]?=some x:=by rw[AB (AZ.mp h).1];exact h
inductive SR(ks:List Kn):Ru->List Nat->Prop
 |link {p q:Nat} {t:Bool} {n:Str} {E:List Nat}:p<q->ks[p]?=some (.lf t n)->ks[q]?=some (.lf (!t) n)->(∀x,x∈E↔x=p\/x=q)->E.Nodup->SR ks (.link p q) E
 |ei {r i j:Nat} {A:Ru} {EA E:List Nat}:ks[r]?=some (.nd true i j)->SR ks A EA->i∈EA->j∈EA->i≠j->(∀x,x∈E↔(x∈EA/\x≠i/\x≠j)\/x=r)->E.Nodup->SR ks (.ei r A) E
 |bo {r i j:Nat} {A B:Ru} {EA EB E:List Nat}:ks[r]?=some (.nd false i j)->SR ks A EA->SR ks B EB->i∈EA->j∈EB->(∀x,x∈E↔(x∈EA/\x≠i)\/(x∈EB/\x≠j)\/x=r)->E.Nodup->SR ks (.bo r A B) E
 |cu {p q:Nat} {A B:Ru} {EA EB E:List Nat} {w:Wd}:SR ks A EA->SR ks B EB->p∈EA->q∈EB->cZ ks p w->cZ ks q w.turn->(∀x,x∈E↔(x∈EA/\x≠p)\/(x∈EB/\x≠q))->E.Nodup->SR ks (.cu p q A B) E
theorem SR.more{ks:List Kn}{R:Ru}{E:List Nat}(h:SR ks R E)(ms:List Kn):SR (ks++ms) R E:=by induction h with|link h1 h2 h3 h4 h5=>exact .link h1 (iH h2) (iH h3) h4 h5|ei h1 _ h3 h4 h5 h6 h7 ih=>exact .ei (iH h1) ih h3 h4 h5 h6 h7|bo h1 _ _ h4 h5 h6 h7 ih1 ih2=>exact .bo (iH h1) ih1 ih2 h4 h5 h6 h7|cu _ _ h3 h4 h5 h6 h7 h8 ih1 ih2=>exact .cu ih1 ih2 h3 h4 (h5.more ms) (h6.more ms) h7 h8
theorem SR.sub{ks:List Kn}{R:Ru}{E:List Nat}(h:SR ks R E):∀x∈E,x∈qz R:=by
 induction h with
 |link _ _ _ h4 _=>intro x hx;rcases (h4 x).mp hx with rfl | rfl<;>simp[qz]
 |ei _ _ _ _ _ h6 _ ih=>intro x hx;rcases (h6 x).mp hx with⟨h,_⟩ | rfl;exact Ah _ (ih x h);exact As ..
 |bo _ _ _ _ _ h6 _ ih1 ih2=>
  intro x hx;rcases (h6 x).mp hx with⟨h,_⟩ | ⟨h,_⟩ | rfl
  ·exact Ah _ (Ar _ (ih1 x h))
  ·exact Ah _ (Af _ (ih2 x h))
  ·exact As ..
 |cu _ _ _ _ _ _ h7 _ ih1 ih2=>
  intro x hx;rcases (h7 x).mp hx with⟨h,_⟩ | ⟨h,_⟩
  ·exact Ar _ (ih1 x h)
  ·exact Af _ (ih2 x h)
def av(n:Nat):jw:=fun ys L Q=>∃wd,ys=[au wd]/\wd.depth≤n/\Q (au wd.turn) L
theorem acx:∀ys L Q,¬av 0 ys L Q:=fun ys L Q ⟨wd,_,hd,_⟩=>by cases wd<;>simp[Wd.depth] at hd
theorem uz(t:Bool):aX ([(("plain" : Str),("turned" : Str)),("turned", "plain"),("both", "either"),("either", "both")].map fun p=>((Sum.inr p.1:jl),Y.str p.2)) (Sum.inr (kL t))=some (.str (kL (!t))):=iL (oE t)
theorem uT(t:Bool):aX ([(("plain" : Str),("turned" : Str)),("turned", "plain"),("both", "either"),("either", "both")].map fun p=>((Sum.inr p.1:jl),Y.str p.2)) (Sum.inr (kN t))=some (.str (kN (!t))):=iL (oQ t)
theorem ad9(n:Nat):∀ys L Q,av (n+1) ys L Q->xx (adt (av n)) 2 ys L Q:=by
 rintro ys L Q ⟨wd,rfl,hd,q⟩;intro p hp;cases wd with
 |leaf t nm=>
  refine aF q9 (ql (uz t) ?_);exact iy (By hp) q
 |node e l r=>
  have hd':max l.depth r.depth+1≤n+1:=hd;refine aF q9 (ql (uT e) ?_);refine⟨l,rfl,by lia,r,rfl,by lia,?_⟩;exact iy (By hp) q
structure Mir(ks:List Kn)(w:Wd)(ms:List Kn)(R:Ru)(tp sp:Nat):Prop where
 len:ms.length=2*w.size
 sr:SR (ks++ms) R [tp,sp]
 wt:cZ (ks++ms) tp w.turn
 ws:cZ (ks++ms) sp w
 tm:∀x,x∈qz R↔ks.length≤x/\x<ks.length+ms.length
 nd:(qz R).Nodup
 ok:a9 (ks++ms)
theorem cZ.leaf{ks:List Kn}{p:Nat}{n:Str}(h:ks[p]?=some (.lf t n)):cZ ks p (.leaf t n):=by show(ja ks)[p]?=_;rw[Al,h];rfl
theorem cZ.node{ks:List Kn}{p:Nat}{e:Bool}{l r:Wd}(h:ks[p]?=some (.nd e i j))(hl:cZ ks i l)(hr:cZ ks j r):cZ ks p (.node e l r):=by refine⟨i,j,?_,hl,hr⟩;rw[Al,h];rfl
abbrev EU:=@cZ.node
theorem tO{ks:List Kn}(hk:a9 ks){n:Str}(hn:dr n):Mir ks (.leaf t n) [.lf (!t) n,.lf t n] (.link ks.length (ks.length+1)) ks.length (ks.length+1):=by
 have e1:(ks++[Kn.lf (!t) n,.lf t n])[ks.length]?=some (.lf (!t) n):=cg _ _ _;have e2:(ks++[Kn.lf (!t) n,.lf t n])[ks.length+1]?=some (.lf t n):=by have:=cg (ks++[Kn.lf (!t) n]) (Kn.lf t n) [];rw[Ad,AA] at this;exact this
 refine⟨rfl,.link (t:=!t) (n:=n) (by exact Bz _) e1 (by rw[Bool.not_not];exact e2) (by simp) (by simp),cZ.leaf e1,cZ.leaf e2,fun x=>?_,by simp[qz],?_⟩
 ·show x∈[ks.length,ks.length+1]↔ks.length≤x/\x<ks.length+2;simp;lia
 ·have:=(hk.snoc (k:=.lf (!t) n) hn).snoc (k:=.lf t n) hn;rw[AA] at this;exact this
theorem SR.nod{ks:List Kn}{R:Ru}{E:List Nat}(h:SR ks R E):E.Nodup:=by cases h<;>assumption
theorem ap1{x h lo a r N:Nat}(hh:(h=N/\lo=N+1)\/(h=N+1/\lo=N))(hN:N=a+m+r):x=h\/x=lo\/(a≤x/\x<a+m)\/a+m≤x/\x<a+m+r↔a≤x/\x<N+2:=by subst hN;rcases hh with⟨rfl,rfl⟩ | ⟨rfl,rfl⟩<;>lia
theorem asj{x a b c N:Nat}(h:a≠b)(k:c≠d):x∈[b,d,N]↔(x∈[a,b]/\x≠a)\/(x∈[c,d]/\x≠c)\/x=N:=by simp only[Av,Bd,or_false];lia
theorem arw{x a b c N:Nat}(h:a≠b)(k:c≠d):x∈[a,c,N]↔(x∈[a,b]/\x≠b)\/(x∈[c,d]/\x≠d)\/x=N:=by simp only[Av,Bd,or_false];lia
theorem aqj{x a b N M:Nat}(h:a<N)(k:b<N):x∈[N,M]↔(x∈[a,b,N]/\x≠a/\x≠b)\/x=M:=by simp only[Av,Bd,or_false];lia
theorem ar8{x a b N M:Nat}(h:a<N)(k:b<N):x∈[M,N]↔(x∈[a,b,N]/\x≠a/\x≠b)\/x=M:=by simp only[Av,Bd,or_false];lia
theorem alx{a b N:Nat}(h:a<N)(k:b<N)(d:a≠b):[a,b,N].Nodup:=by rw[Au,Au];simp;lia
theorem atf{a r N t s u v:Nat}(a1:a≤t/\t<a+m)(a2:a≤s/\s<a+m)(b1:a+m≤u/\u<a+m+r)(b2:a+m≤v/\v<a+m+r)(hN:N=a+m+r):t<N/\s<N/\u<N/\v<N/\t≠u/\s≠v:=by lia
theorem ane{h lo a r N:Nat}(hh:(h=N/\lo=N+1)\/(h=N+1/\lo=N))(hN:N=a+m+r):¬(h=lo\/(a≤h/\h<a+m)\/a+m≤h/\h<a+m+r)/\¬((a≤lo/\lo<a+m)\/a+m≤lo/\lo<a+m+r):=by lia
theorem aqp{x y a r:Nat}(h1:a≤x/\x<a+m)(h2:a+m≤y/\y<a+m+r)(e:x=y):False:=by lia
theorem abx{ks ml mr:List Kn}{e:Bool}{l r:Wd}{A B:Ru}{tl sl tr sr:Nat}(hl:Mir ks l ml A tl sl)(hr:Mir (ks++ml) r mr B tr sr){N:Nat}(hN:N=ks.length+(ml++mr).length):
 Mir ks (.node e l r) (ml++mr++[.nd (!e) tl tr,.nd e sl sr]) (.ei (if e=true then N+1 else N) (.bo (if e=true then N else N+1) A B)) N (N+1):=by
 have hA:∀x∈[tl,sl],ks.length≤x/\x<ks.length+ml.length:=fun x hx=>(hl.tm x).mp (hl.sr.sub x hx);have hB:∀x∈[tr,sr],ks.length+ml.length≤x/\x<ks.length+ml.length+mr.length:=fun x hx=>by have:=(hr.tm x).mp (hr.sr.sub x hx);rw[Ad] at this;exact this
 have a1:=hA tl (by simp);have a2:=hA sl (by simp);have b1:=hB tr (by simp);have b2:=hB sr (by simp);have nA:tl≠sl:=by have:=hl.sr.nod;simpa using this
 have nB:tr≠sr:=by have:=hr.sr.nod;simpa using this
 have hN':N=ks.length+ml.length+mr.length:=by rw[hN,Ad];simp +arith only
 obtain⟨d1,d2,d3,d4,d5,d6⟩:=atf a1 a2 b1 b2 hN';generalize eK:ks++(ml++mr++[Kn.nd (!e) tl tr,.nd e sl sr])=K;have k1:K=(ks++ml)++(mr++[Kn.nd (!e) tl tr,.nd e sl sr]):=by rw[<-eK];simp
 have k2:K=((ks++ml)++mr)++[Kn.nd (!e) tl tr,.nd e sl sr]:=by rw[<-eK];simp
 have k3:K=(((ks++ml)++mr)++[Kn.nd (!e) tl tr])++[.nd e sl sr]:=by rw[<-eK];simp
 have l2:((ks++ml)++mr).length=N:=by rw[Ad,Ad];lia
 have g1:K[N]?=some (.nd (!e) tl tr):=by rw[k2,<-l2];exact cg _ _ _
 have g2:K[N+1]?=some (.nd e sl sr):=by
  have l3:(((ks++ml)++mr)++[Kn.nd (!e) tl tr]).length=N+1:=by rw[Ad,l2];rfl
  rw[k3,<-l3];exact cg _ _ _
 have sA:SR K A [tl,sl]:=by rw[k1];exact hl.sr.more _
 have sB:SR K B [tr,sr]:=by rw[k2];exact hr.sr.more _
 have okK:a9 K:=by have o1:=hr.ok.snoc (k:=.nd (!e) tl tr) (by show tl<((ks++ml)++mr).length/\tr<((ks++ml)++mr).length;rw[l2];exact⟨d1,d3⟩);have o2:=o1.snoc (k:=.nd e sl sr) (by show sl<_/\sr<_;rw[Ad,l2];exact⟨B9 d2,B9 d4⟩);rw[k3];exact o2
 have tA:=hl.tm;have tB:=hr.tm;rw[Ad] at tB;have wt:cZ K N (Wd.node e l r).turn:=EU g1 (by rw[k1];exact hl.wt.more _) (by rw[k2];exact hr.wt.more _);have wsp:cZ K (N+1) (Wd.node e l r):=EU g2 (by rw[k1];exact hl.ws.more _) (by rw[k2];exact hr.ws.more _);have lenm:(ml++mr++[Kn.nd (!e) tl tr,.nd e sl sr]).length=2*(Wd.node e l r).size:=by have h1:=hl.len;have h2:=hr.len;show _=2*(1+l.size+r.size);rw[Ad,Ad];simp;lia
 have lt:ks.length+(ml++mr++[Kn.nd (!e) tl tr,.nd e sl sr]).length=N+2:=by rw[Ad];simp[hN];rfl
 have tt:∀h lo:Nat,(h=N/\lo=N+1)\/(h=N+1/\lo=N)->(∀x,x∈qz (.ei h (.bo lo A B))↔ks.length≤x/\x<ks.length+(ml++mr++[Kn.nd (!e) tl tr,.nd e sl sr]).length)/\(qz (.ei h (.bo lo A B))).Nodup:=by
  intro h lo hh;constructor
  ·intro x;rw[lt];show x∈h::lo::(qz A++qz B)↔_;rw[Av,Av,Ak,tA,tB];exact ap1 hh hN'
  ·show(h::lo::(qz A++qz B)).Nodup;rw[Au,Au,Aq];refine⟨?_,?_,hl.nd,hr.nd,fun x hx y hy e=>?_⟩
   ·rw[Av,Ak,tA,tB];exact(ane hh hN').1
   ·rw[Ak,tA,tB];exact(ane hh hN').2
   ·exact aqp ((tA x).mp hx) ((tB y).mp hy) e
 cases e with
 |true=>
  have s1:SR K (.bo N A B) [sl,sr,N]:=by exact .bo g1 sA sB (by simp) (by simp) (fun x=>asj nA nB) (alx d2 d4 d6)
  have s2:SR K (.ei (N+1) (.bo N A B)) [N,N+1]:=by exact .ei g2 s1 (by simp) (by simp) d6 (fun x=>aqj d2 d4) (by simp)
  obtain⟨t1,t2⟩:=tt (N+1) N (.inr ⟨rfl,rfl⟩);exact⟨lenm,by rw[eK];exact s2,by rw[eK];exact wt,by rw[eK];exact wsp,t1,t2,by rw[eK];exact okK⟩
 |false=>
  have s1:SR K (.bo (N+1) A B) [tl,tr,N+1]:=by exact .bo g2 sA sB (by simp) (by simp) (fun x=>arw nA nB) (alx (B9 d1) (B9 d3) d5)
  have s2:SR K (.ei N (.bo (N+1) A B)) [N,N+1]:=by exact .ei g1 s1 (by simp) (by simp) d5 (fun x=>ar8 (B9 d1) (B9 d3)) (by simp)
  obtain⟨t1,t2⟩:=tt N (N+1) (.inl ⟨rfl,rfl⟩);exact⟨lenm,by rw[eK];exact s2,by rw[eK];exact wt,by rw[eK];exact wsp,t1,t2,by rw[eK];exact okK⟩
def cL(n:Nat):jw:=fun ys L Q=>∃a,∃ks:List Kn,∃w:Wd,ys=[.ref a,au w]/\L a=some (.lst (ja ks))/\w.depth≤n/\n≤120/\w.ok/\a9 ks/\ks.length+2*w.size≤10000/\
 ∀ms R tp sp p,L p=none->Mir ks w ms R tp sp->Q (.ref p) (qg (qg L a (.lst (ja (ks++ms)))) p (.lst [ze R,.int ((tp:Nat):Int),.int ((sp:Nat):Int)]))
theorem xG:∀ys L Q,¬cL 0 ys L Q:=fun ys L Q ⟨a,ks,wd,_,_,hd,_⟩=>by cases wd<;>simp[Wd.depth] at hd
theorem bg_:∀m:Nat,m≤20000->m<sizeLine:=fun m h=>Bv h (by decide)
theorem zS(n:Nat):∀ys L Q,cL (n+1) ys L Q->xx (aa0 (av 120) (cL n)) 8 ys L Q:=by
 rintro ys L Q ⟨a,ks,w,rfl,ha,hd,hn,hok,hk,hb,q⟩;have big:=bg_;cases w with
 |leaf t nm=>
  have hb:ks.length+2*1≤10000:=hb;refine qb ha ⟨.leaf t nm,rfl,by exact CH _,qk ha ⟨big _ (by rw[Ae];lia),?_⟩⟩;refine qb q9 (qk q9 ⟨big _ (by rw[Ad,Ae];simp;lia),?_⟩);rw[vt];have e1:(ja ks++[au (Wd.leaf t nm).turn])++[au (.leaf t nm)]=ja (ks++[.lf (!t) nm,.lf t nm]):=by unfold ja;rw[AF,AA];rfl
  have e2:(ja (ks++[Kn.lf (!t) nm,.lf t nm])).length=ks.length+2:=by rw[Ae,Ad];rfl
  have i1:((((ja (ks++[Kn.lf (!t) nm,.lf t nm])).length:Nat):Int) - 2)=((ks.length:Nat):Int):=by rw[e2];lia
  have i2:((((ja (ks++[Kn.lf (!t) nm,.lf t nm])).length:Nat):Int) - 1)=((ks.length+1:Nat):Int):=by rw[e2];lia
  have e1':(ja ks++[au (Wd.leaf t nm).turn])++[.tup [.str (kL t),.str nm]]=ja (ks++[.lf (!t) nm,.lf t nm]):=e1
  first | rw[e1] | rw[e1']
  refine qb q9 (qb q9 (qb q9 (qb q9 fun p hp=>?_)));have np:L p=none:=by
   have:p≠a:=fun e=>by rw[e,q9] at hp;cases hp
   rw[qd this] at hp;exact hp
  have:=q _ _ _ _ p np (tO hk hok);have key:[ze (.link ks.length (ks.length+1)),Y.int ((ks.length:Nat):Int),Y.int ((ks.length+1:Nat):Int)]=[.tup [.str "link",.int ((((ja (ks++[Kn.lf (!t) nm,.lf t nm])).length:Nat):Int) - 2),.int ((((ja (ks++[Kn.lf (!t) nm,.lf t nm])).length:Nat):Int) - 1)],.int ((((ja (ks++[Kn.lf (!t) nm,.lf t nm])).length:Nat):Int) - 2),.int ((((ja (ks++[Kn.lf (!t) nm,.lf t nm])).length:Nat):Int) - 1)]:=by rw[i1,i2];rfl
  rw[key] at this;exact xr this
 |node e l r=>
  have hd':max l.depth r.depth+1≤n+1:=hd;have hb:ks.length+2*(1+l.size+r.size)≤10000:=hb;refine⟨a,ks,l,rfl,ha,by lia,by exact fI,hok.1,hk,by lia,fun ml A tl sl p1 hp1 ML=>?_⟩;have na1:a≠p1:=w5 ha hp1;have hl1:=ML.len;refine⟨a,ks++ml,r,rfl,by rw[qd na1,q9],by lia,by exact fI,hok.2,ML.ok,by rw[Ad];lia,fun mr B tr sr p2 hp2 MR=>?_⟩;have hl2:=MR.len;have np1:p1≠p2:=w5 q9 hp2;have na2:a≠p2:=w5 (by rw[qd na1];exact q9) hp2;have ha2:qg (qg (qg (qg L a (.lst (ja (ks++ml)))) p1 (.lst [ze A,.int ((tl:Nat):Int),.int ((sl:Nat):Int)])) a (.lst (ja ((ks++ml)++mr)))) p2 (.lst [ze B,.int ((tr:Nat):Int),.int ((sr:Nat):Int)]) a=some (.lst (ja ((ks++ml)++mr))):=by rw[qd na2];exact q9
  have h1:qg (qg (qg (qg L a (.lst (ja (ks++ml)))) p1 (.lst [ze A,.int ((tl:Nat):Int),.int ((sl:Nat):Int)])) a (.lst (ja ((ks++ml)++mr)))) p2 (.lst [ze B,.int ((tr:Nat):Int),.int ((sr:Nat):Int)]) p1=some (.lst [ze A,.int ((tl:Nat):Int),.int ((sl:Nat):Int)]):=by rw[qd np1,qd (AN na1)];exact q9
  have h2:qg (qg (qg (qg L a (.lst (ja (ks++ml)))) p1 (.lst [ze A,.int ((tl:Nat):Int),.int ((sl:Nat):Int)])) a (.lst (ja ((ks++ml)++mr)))) p2 (.lst [ze B,.int ((tr:Nat):Int),.int ((sr:Nat):Int)]) p2=some (.lst [ze B,.int ((tr:Nat):Int),.int ((sr:Nat):Int)]):=q9;have old:∀b o,b≠a->L b=some o->qg (qg (qg (qg L a (.lst (ja (ks++ml)))) p1 (.lst [ze A,.int ((tl:Nat):Int),.int ((sl:Nat):Int)])) a (.lst (ja ((ks++ml)++mr)))) p2 (.lst [ze B,.int ((tr:Nat):Int),.int ((sr:Nat):Int)]) b=some o:=fun b o nb e=>by
   have n1:b≠p1:=w5 e hp1;have e2:qg (qg L a (.lst (ja (ks++ml)))) p1 (.lst [ze A,.int ((tl:Nat):Int),.int ((sl:Nat):Int)]) b=some o:=by rw[qd n1,qd nb];exact e
   have n2:b≠p2:=w5 e2 hp2;rw[qd n2,qd nb];exact e2
  generalize qg (qg (qg (qg L a (.lst (ja (ks++ml)))) p1 (.lst [ze A,.int ((tl:Nat):Int),.int ((sl:Nat):Int)])) a (.lst (ja ((ks++ml)++mr)))) p2 (.lst [ze B,.int ((tr:Nat):Int),.int ((sr:Nat):Int)])=L2 at ha2 h1 h2 old;have lks:(ja ((ks++ml)++mr)).length=ks.length+ml.length+mr.length:=by rw[Ae,Ad,Ad]
  refine qb ha2 ⟨.node e l r,rfl,by show max l.depth r.depth+1≤120;exact xU,qb h1 (qb h2 (qk ha2 ⟨big _ (by lia),?_⟩))⟩;have h1':∀o,qg L2 a o p1=some (.lst [ze A,.int ((tl:Nat):Int),.int ((sl:Nat):Int)]):=fun o=>by rw[qd (AN na1)];exact h1
  have h2':∀o,qg L2 a o p2=some (.lst [ze B,.int ((tr:Nat):Int),.int ((sr:Nat):Int)]):=fun o=>by rw[qd (AN na2)];exact h2
  refine qb q9 (qb (h1' _) (qb (h2' _) (qk q9 ⟨big _ (by rw[Ad];simp;lia),?_⟩)));rw[vt];obtain⟨N,hN⟩:∃N,N=ks.length+(ml++mr).length:=⟨_,rfl⟩;have e1:(ja ((ks++ml)++mr)++[.tup [.str (kN (!e)),.int ((tl:Nat):Int),.int ((tr:Nat):Int)]])++[.tup [.str (kN e),.int ((sl:Nat):Int),.int ((sr:Nat):Int)]]=ja (ks++(ml++mr++[.nd (!e) tl tr,.nd e sl sr])):=by unfold ja;simp[pN]
  rw[e1];have lN:(ja (ks++(ml++mr++[Kn.nd (!e) tl tr,.nd e sl sr]))).length=N+2:=by rw[Ae,Ad,Ad,hN];simp;rfl
  have i1:((((ja (ks++(ml++mr++[Kn.nd (!e) tl tr,.nd e sl sr]))).length:Nat):Int) - 2)=((N:Nat):Int):=by rw[lN];lia
  have i2:((((ja (ks++(ml++mr++[Kn.nd (!e) tl tr,.nd e sl sr]))).length:Nat):Int) - 1)=((N+1:Nat):Int):=by rw[lN];lia
  refine qb q9 (qb q9 ?_);have M:=abx (e:=e) ML MR hN;have done:∀p,qg L2 a (.lst (ja (ks++(ml++mr++[Kn.nd (!e) tl tr,.nd e sl sr])))) p=none->∀R,Mir ks (.node e l r) (ml++mr++[Kn.nd (!e) tl tr,.nd e sl sr]) R N (N+1)->
   fN Q (.ref p) (qg (qg L2 a (.lst (ja (ks++(ml++mr++[Kn.nd (!e) tl tr,.nd e sl sr]))))) p (.lst [ze R,.int ((N:Nat):Int),.int ((N+1:Nat):Int)])):=fun p hp R MM=>by
   have npa:p≠a:=fun z=>by rw[z,q9] at hp;cases hp
   rw[qd npa] at hp;have np:L p=none:=by cases z:L p with|none=>rfl|some o=>rw[old p o npa z] at hp;cases hp
   refine iy ?_ (q _ _ _ _ p np MM);intro b o z;by_cases c1:b=p
   ·subst c1;rw[q9] at z ⊢;exact z
   ·rw[qd c1] at z ⊢;by_cases c2:b=a
    ·subst c2;rw[q9] at z ⊢;exact z
    ·rw[qd c2] at z ⊢;exact old b o c2 z
  cases e with
  |true=>
   have key:[ze (.ei (if true=true then N+1 else N) (.bo (if true=true then N else N+1) A B)),Y.int ((N:Nat):Int),Y.int ((N+1:Nat):Int)]=[.tup [.str "either",.int ((((ja (ks++(ml++mr++[Kn.nd (!true) tl tr,.nd true sl sr]))).length:Nat):Int) - 1),.tup [.str "both",.int ((((ja (ks++(ml++mr++[Kn.nd (!true) tl tr,.nd true sl sr]))).length:Nat):Int) - 2),ze A,ze B]],.int ((((ja (ks++(ml++mr++[Kn.nd (!true) tl tr,.nd true sl sr]))).length:Nat):Int) - 2),.int ((((ja (ks++(ml++mr++[Kn.nd (!true) tl tr,.nd true sl sr]))).length:Nat):Int) - 1)]:=by rw[i1,i2];rfl
   walk_at "w";refine qb (h1' _) (qb (h2' _) fun p hp=>?_);have:=done p hp _ M;rw[key] at this;exact this
  |false=>
   have key:[ze (.ei (if false=true then N+1 else N) (.bo (if false=true then N else N+1) A B)),Y.int ((N:Nat):Int),Y.int ((N+1:Nat):Int)]=[.tup [.str "either",.int ((((ja (ks++(ml++mr++[Kn.nd (!false) tl tr,.nd false sl sr]))).length:Nat):Int) - 2),.tup [.str "both",.int ((((ja (ks++(ml++mr++[Kn.nd (!false) tl tr,.nd false sl sr]))).length:Nat):Int) - 1),ze A,ze B]],.int ((((ja (ks++(ml++mr++[Kn.nd (!false) tl tr,.nd false sl sr]))).length:Nat):Int) - 2),.int ((((ja (ks++(ml++mr++[Kn.nd (!false) tl tr,.nd false sl sr]))).length:Nat):Int) - 1)]:=by rw[i1,i2];rfl
   walk_at "w";refine qb (h1' _) (qb (h2' _) fun p hp=>?_);have:=done p hp _ M;rw[key] at this;exact this
end L3
variable {R:L3.Ru}{ks:List L3.Kn}{out wd:List (Option L3.Kn)}
namespace L3
open PySem L2 Words
def ur(p0:jw):wv:=(qp (xc (yOr (yB (cX false (qa 0))) (yB (qt p0 (kj (qa 0))))) (jr (ve qr)) js)
 (jr (ve (k8 (xu 0 1) (xu 0 2)))))
def se:wv:=(qp (zr (ve qr) (qf 1))
 (qp (eO (xt (qa 0)) (wo 2 (zg (qf 2) (zg (qf 3) vz))) (qp (j9 (aW zu (qa 1) (kj (qa 2))))
 (j9 (aW zu (qa 1) (kj (qa 3))))))
 (jr (qa 1))))
def mN:Option Kn->Y
 |none=>.non
 |some k=>pN k
abbrev v9(ks:List (Option Kn)):List Y:=ks.map mN
def jn:Option Kn->List Nat
 |some (.nd _ i j)=>[i,j]
 |_=>[]
def gR:jw:=fun ys L Q=>∃k:Option Kn,ys=[mN k]/\∀p,L p=none->Q (.ref p) (qg L p (.lst (nY (jn k))))
theorem acb:∀ys L Q,gR ys L Q->xx (ur aO) 1 ys L Q:=by
 rintro ys L Q ⟨k,rfl,q⟩;cases k with
 |none=>exact fun p hp=>xr (q p hp)
 |some k=>
  cases k with|lf t n=>exact⟨true,t,_,rfl,fun p hp=>xr (q p hp)⟩|nd e i j=>exact⟨false,e,_,rfl,fun p hp=>xr (q p hp)⟩
def mV(f:Option Kn->Bool)(ks:List (Option Kn))(i:Nat):List Nat:=(List.range i).filter fun p=>match ks[p]? with
 |some k=>f k
 |none=>false
theorem rU{f:Option Kn->Bool}{ks:List (Option Kn)}{k:Option Kn}(h:ks[i]?=some k):mV f ks (i+1)=mV f ks i++if f k=true then [i] else []:=by unfold mV;rw[Ei,BS];congr 1;rw[Cn];simp only[h,Cw]
theorem ag5{f:Option Kn->Bool}{ks:List (Option Kn)}{p:Nat}(h:p∈mV f ks i):p<i/\∃k,ks[p]?=some k/\f k=true:=by
 unfold mV at h;obtain⟨h1,h2⟩:=AL.mp h;refine⟨AV.mp h1,?_⟩;split at h2
 ·rename_i k e;exact⟨k,e,h2⟩
 ·cases h2
def fF:Option Kn->Bool
 |some _=>true
 |none=>false
theorem az(a b:List Nat):nY (a++b)=nY a++nY b:=by unfold nY;rw[AF]
theorem uC{hs:List Nat}(h:(nY hs)[i]?=some y):∃n,hs[i]?=some n/\y=.int (n:Int):=by unfold nY at h;rw[Al] at h;obtain⟨n,e1,e2⟩:=Ap.mp h;exact⟨n,e1,e2.symm⟩
theorem aa4{f:Option Kn->Bool}{ks:List (Option Kn)}{keep:qm->Prop}{Q:YK}(hz:ks.length≤1000)(hk:keep L)
 (turn:∀(i:Nat) (k:Option Kn) (R:List Y->qm->Prop) zs,ks[i]?=some k->(f k=true->R (zs++[.int (i:Int)]) L)->(f k=false->R zs L)->g (.tup [.int (i:Nat),mN k]) (τ++List.replicate 2 none) L fun τ2 L2=>tc τ2 L2 fun b L3=>kh b (te τ2 L3 fun z L4=>R (zs++[z]) L4) (R zs L3))
 (hq:∀p,L p=none->Q (.ref p) (qg L p (.lst (nY (mV f ks ks.length))))):wC (lg (v9 ks)) keep 2 g tc te τ L Q:=by
 refine bR (fun i zs=>zs=nY (mV f ks i)) (by rw[eE,Ae];exact Bv hz (by decide)) hk rfl ?_ ?_
 ·rintro i y zs ey rfl;obtain⟨z,ez,rfl⟩:=gM ey;rw[Al] at ez;obtain⟨k,ek,rfl⟩:=Ap.mp ez;refine turn i k _ _ ek (fun h=>⟨L,ED _,rfl,?_⟩) (fun h=>⟨L,ED _,rfl,?_⟩)
  ·rw[rU ek,AD h,az];rfl
  ·rw[rU ek,Ay (by rw[h];exact AE),AW]
 ·rintro zs rfl;rw[eE,Ae];exact hq
abbrev sJ(a l c:Addr):Y:=.tup [.ref a,.ref l,.ref c]
theorem ap6(a b:Nat):min (a:Int) (b:Int)=((min a b:Nat):Int):=by omega
theorem arn(a b:Nat):max (a:Int) (b:Int)=((max a b:Nat):Int):=by omega
def sm(p:Nat×Nat):Y:=.tup [.int ((p.1:Nat):Int),.int ((p.2:Nat):Int)]
abbrev zc(l:List (Nat×Nat)):List Y:=l.map sm
theorem yu(k:Option Kn):(jn k).length≤2:=by unfold jn;split<;>simp
end L3
namespace TS
open PySem PyProof.Rows PySem.W PySem.Calls
section
variable {w:World} 
abbrev keyBody(kx px:Str)(p1 p2 p3 p4 p5:Pos)(n:Nat):Expr:=.Tuple [.Subscript (.Name kx p1) (.Name px p2) p3,.Name px p4] n p5
structure kE(h:Heap)(f:Addr)(kx px:Str)(scope:Scope)(kvs:List Value):Prop where
 ex:∃(name qual:Str) (params:Arguments) (p1 p2 p3 p4 p5:Pos) (n:Nat) (pm ctv:Value) (c' cell k:Addr),h.get? f=some (kla_obj name qual params (keyBody kx px p1 p2 p3 p4 p5 n) scope [(kx,cell)] pm c' ctv)/\h.CodeRec (.ref c') qual/\
  h.IsCell cell (some (.ref k))/\h.IsList k kvs.toArray/\∀v:Value,bindArgs (kla_fn name qual params (keyBody kx px p1 p2 p3 p4 p5 n) scope [(kx,cell)] pm (.ref c') ctv) ⟨[v],[]⟩=pure [(px,v)]
 lim:h.NoLimit
structure KeySc(scope:Scope)(kx px:Str):Prop where
 kind:scope.kind=.function
 co:scope.isCoroutine=false
 gen:scope.isGenerator=false
 nc:∀x∈scope.names,x.2≠.cell
 lp:scope.names.lookup px=some .local
 lk:scope.names.lookup kx=some .free
 d1:(kx==("__debug__" : Str))=false
 d2:(px==("__debug__" : Str))=false
 d3:(kx==("__classdict__" : Str))=false
theorem kE.keeps{kvs:List Value}(k:kE h f kx px scope kvs)(hk:∀b o,h.get? b=some o->h'.get? b=some o):kE h' f kx px scope kvs:=by
 obtain⟨name,qual,params,p1,p2,p3,p4,p5,n,pm,ctv,c',cell,kk,g1,g2,g3,g4,g5⟩:=k.ex;refine⟨⟨name,qual,params,p1,p2,p3,p4,p5,n,pm,ctv,c',cell,kk,hk _ _ g1,?_,?_,?_,g5⟩,k.lim.keeps hk⟩
 ·obtain⟨c,oc,vs,tq,e1,e2,e3⟩:=g2;exact⟨c,oc,vs,tq,e1,hk _ _ e2,e3⟩
 ·obtain⟨o,e1,e2⟩:=g3;exact⟨o,hk _ _ e1,e2⟩
 ·obtain⟨o,e1,e2⟩:=g4;exact⟨o,hk _ _ e1,e2⟩
theorem amw{kvs:List Value}{u t:Tok}{r:Int}(K:kE s.heap f kx px scope kvs)(S:KeySc scope kx px)(hroom:A.depth<recursionLimit)(hi:kvs[i]?=some (.int r t))(hi2:i<2 ^ 40)
 (h:∀h' tk a,(∀b o,s.heap.get? b=some o->h'.get? b=some o)->h'.get? a=some { cls:=.type "tuple",data:=.seq #[.int r t,.int (i:Int) u] }->Q (.ref a) { s with heap:=h',toks:=tk }):
 wpAny (model prog w) A (call (.ref f) [.int (i:Int) u]) Q E s:=by
 obtain⟨name,qual,params,p1,p2,p3,p4,p5,n,pm,ctv,c',cell,kk,g1,g2,g3,g4,g5⟩:=K.ex;refine wpAny_call (kla_callFunE hroom g1 rfl S.co S.gen rfl g2 ?_);rw[g5];refine Ag (wpAny_newFunctionEnv S.nc (fun x hx=>by rw[Aw.mp hx];exact S.lp) (fun h₁ hns hsb=>⟨K.lim.fresh _ hsb,?_⟩) S.kind);have k1:∀b o,s.heap.get? b=some o->h₁.get? b=some o:=fun b o e=>hsb.extBut b o (A3 (Heap.lt_size e)) (Heap.get?_push_of_some _ e);show codeAny _ _ (.expr _ (envX qual scope s.heap.objs.size f (.ref c') [(kx,cell)])) _ _;refine kla_codeExpr ?_;have look:(([(px,Value.int (i:Int) u)]:List (Str×Value)).reverse.lookup px)=some (.int (i:Int) u):=by simp
 have kf:(envX qual scope s.heap.objs.size f (.ref c') [(kx,cell)]).kindOf kx=some .free:=S.lk;have kp:(envX qual scope s.heap.objs.size f (.ref c') [(kx,cell)]).kindOf px=some .local:=S.lp;have cl:(envX qual scope s.heap.objs.size f (.ref c') [(kx,cell)]).cells.lookup kx=some cell:=by show([(kx,cell)]:List (Str×Addr)).lookup kx=_;simp
 have ic:h₁.IsCell cell (some (.ref kk)):=by obtain⟨o,e1,e2⟩:=g3;exact⟨o,k1 _ _ e1,e2⟩
 have il:h₁.IsList kk kvs.toArray:=by obtain⟨o,e1,e2⟩:=g4;exact⟨o,k1 _ _ e1,e2⟩
 refine wpAny_Tuple_spliced (Calls.spliced_cons (Subscript_ (wpAny_Name (wpAny_loadName_free S.kind kf cl ic (wpAny_Name (wpAny_loadName_local S.kind kp hns look ?_) S.d2) S.d3) S.d1)));refine item_listL il (by exact AY _) (by omega) (by rw[show((i:Nat):Int).toNat=i from rfl];exact hi) ?_;refine Calls.spliced_cons (wpAny_Name (wpAny_loadName_local S.kind kp hns look ?_) S.d2);refine Calls.spliced_nil ⟨by show 2≤sizeLine;decide,?_⟩;exact h _ _ _ (fun b o e=>Heap.get?_push_of_some _ (k1 b o e)) (Heap.get?_push_size _ rfl)
end
theorem ad8(f:α->β):∀{l m:List β},l.Perm m->∀{T:List α},T.map f=m->∃T':List α,T'.Perm T/\T'.map f=l:=by
 intro l m p
 induction p with
 |nil=>intro T e;exact⟨T,BF _,e⟩
 |cons x _ ih=>
  intro T e;cases T with
  |nil=>cases e
  |cons t r=>
   rw[Az] at e;obtain⟨e1,e2⟩:=CS e;obtain⟨T',p',e'⟩:=ih e2;exact⟨t::T',p'.cons t,by rw[Az,e',e1]⟩
 |swap x y l=>
  intro T e
  match T,e with
  |t::u::r,e=>
   rw[Az,Az] at e;obtain⟨e1,e2⟩:=CS e;obtain⟨e3,e4⟩:=CS e2;exact⟨u::t::r,List.Perm.swap t u r,by rw[Az,Az,e1,e3,e4]⟩
 |trans _ _ ih1 ih2=>
  intro T e;obtain⟨T1,p1,e1⟩:=ih2 e;obtain⟨T2,p2,e2⟩:=ih1 e1;exact⟨T2,p2.trans p1,e2⟩
def itV(x:Nat×Tok):Value:=.int (x.1:Int) x.2
def ahe(h:Heap)(kS:Addr)(rk:Nat->Int)(k:Value)(x:Nat×Tok):Prop:=∃a t u,k=.ref a/\a≠kS/\h.get? a=some { cls:=.type "tuple",data:=.seq #[.int (rk x.1) t,.int (x.1:Int) u] }
def ie(h:Heap)(kS:Addr)(rk:Nat->Int):List Value->List (Nat×Tok)->Prop
 |[],[]=>True
 |k::ks,x::xs=>ahe h kS rk k x/\ie h kS rk ks xs
 |_,_=>False
theorem ie.len{h:Heap}{kS:Addr}{rk:Nat->Int}:∀{ks:List Value} {xs:List (Nat×Tok)},ie h kS rk ks xs->ks.length=xs.length
 |[],[],_=>rfl
 |_::_,_::_,⟨_,b⟩=>by rw[AG,AG,ie.len b]
 |[],_::_,z=>z.elim
 |_::_,[],z=>z.elim
theorem ie.mem{h:Heap}{kS:Addr}{rk:Nat->Int}:∀{ks:List Value} {xs:List (Nat×Tok)},ie h kS rk ks xs->∀t∈ks.zip xs,ahe h kS rk t.1 t.2
 |[],[],_,t,ht=>by cases ht
 |_::_,_::_,⟨a,b⟩,t,ht=>by
  rw[DE] at ht;rcases Av.mp ht with rfl | ht
  ·exact a
  ·exact ie.mem b t ht
 |[],_::_,z,_,_=>z.elim
 |_::_,[],z,_,_=>z.elim
section
variable {w:World} 
theorem aaj{g:Heap}{f:Addr}{kx px:Str}{scope:Scope}{kvs:List Value}{kS:Addr}{rk:Nat->Int}{body:Value->PUnit->Sem (ForInStep PUnit)}(K:kE g f kx px scope kvs)(S:KeySc scope kx px)(hroom:A.depth<recursionLimit)(hn:g.get? kS=none)
 (hb:∀(x:Value) (s:Shared) (Q':ForInStep PUnit->Shared->Prop),wpAny (model prog w) A (call (.ref f) [x]) (fun k s'=>wpAny (model prog w) A (Builtin.List.listUpdate (.ref kS) (·.push k)) (fun _ s''=>Q' (.yield ⟨⟩) s'') E s') (fun _ _=>False) s->wpAny (model prog w) A (body x ⟨⟩) Q' E s):
 ∀(ps:List (Nat×Tok)) (ks:List Value) (e:Nat) (s:Shared) (Q:PUnit->Shared->Prop),(∀b o,g.get? b=some o->s.heap.get? b=some o)->s.heap.get? kS=some (seqObj "list" ks.toArray e)->ks.length+ps.length≤100000->
  (∀x∈ps,x.1<2 ^ 40/\∃t,kvs[x.1]?=some (.int (rk x.1) t))->
  (∀h' tk ks2 e',(∀b o,b≠kS->s.heap.get? b=some o->h'.get? b=some o)->h'.get? kS=some (seqObj "list" (ks++ks2).toArray e')->ie h' kS rk ks2 ps->Q ⟨⟩ { s with heap:=h',toks:=tk })->
  wpAny (model prog w) A (forIn (ps.map itV) PUnit.unit body) Q E s
 |[],ks,e,s,Q,hg,hk,hz,hp,q=>by rw[C3,Ek];exact Ag (q s.heap s.toks [] e (fun _ _ _ h=>h) (by rw[AW];exact hk) trivial)
 |x::r,ks,e,s,Q,hg,hk,hz,hp,q=>by
  rw[Az,CU];rw[AG] at hz;obtain⟨x40,t,ht⟩:=hp x (As ..);have big:(100000:Nat)+1≤sizeLine:=by rw[sizeLine_eq];exact Ct _ _
  refine Aa (hb (itV x) s _ (amw (K.keeps hg) S hroom ht x40 fun h1 tk1 a k1 ha=>?_));have hkS1:h1.get? kS=some (seqObj "list" ks.toArray e):=k1 _ _ hk;have s1:=Heap.SameBut.update h1 kS (Obj.mapSeq (·.push (.ref a)));have ea:ks.toArray.push (.ref a)=List.toArray (ks++[.ref a]):=by simp
  obtain⟨c2,hc2⟩:∃c2,(h1.update kS (Obj.mapSeq (·.push (.ref a)))).get? kS=some (seqObj "list" (List.toArray (ks++[.ref a])) c2):=⟨_,by rw[<-ea];exact get?_update_seq hkS1 (·.push (.ref a))⟩;have nak:a≠kS:=fun z=>by
   rw[z,hkS1] at ha;have:=BI (fun o:Option Obj=>o.map (·.cls)) ha;have z2:some (Value.type "list")=some (Value.type "tuple"):=this;injection z2 with z3
   injection z3 with z4
   exact absurd z4 (by decide)
  refine listUpdate_at (s:={ s with heap:=h1,toks:=tk1 }) hkS1 rfl ?_ (by rw[Am];lia) (AS (Nat.le_of_eq (Bl ..)) (by rw[Am];lia));refine aaj K S hroom hn hb r (ks++[.ref a]) c2 { s with heap:=h1.update kS (Obj.mapSeq (·.push (.ref a))),toks:=tk1 } Q (fun b o e=>?_) hc2 (by rw[Ad,BB];lia) (fun y hy=>hp y (Ah _ hy)) fun h' tk ks2 e' kk hk' vs=>?_
  ·have nb:b≠kS:=fun z=>by rw[z,hn] at e;cases e
   exact(s1.2 b nb).trans (k1 b o (hg b o e))
  ·have keep1:∀b o,b≠kS->h1.get? b=some o->h'.get? b=some o:=fun b o nb e=>kk b o nb ((s1.2 b nb).trans e);refine q h' tk (.ref a::ks2) e' (fun b o nb e=>keep1 b o nb (k1 b o e)) (by rw[hk',AA];rfl) ⟨⟨a,t,x.2,rfl,nak,keep1 a _ nak ha⟩,vs⟩
end
theorem rg{α β γ:Type}{F:α->β}{G:α->γ}:∀{l:List α},(∀x∈l,∀y∈l,F x=F y->G x=G y)->(l.map G).Nodup->(l.map F).Nodup
 |[],_,_=>BP
 |a::r,h,n=>by rw[Az] at n ⊢;obtain⟨n1,n2⟩:=Au.mp n;refine Au.mpr ⟨fun z=>?_,rg (fun x hx y hy=>h x (Ah _ hx) y (Ah _ hy)) n2⟩;obtain⟨y,hy,e⟩:=Bp.mp z;have:=h y (Ah _ hy) a (As ..) e;exact n1 (this▸Ce hy)
theorem ack{r1 r2 p1 p2:Int}(h1:0≤p1)(h2:p1<B)(h3:0≤p2)(h4:p2<B)(e:r1*B+p1=r2*B+p2):p1=p2:=by
 have hB:B≠0:=by lia
 have a1:(r1*B+p1) % B=p1:=by rw[Int.add_comm,Dx];exact Int.emod_eq_of_lt h1 h2
 have a2:(r2*B+p2) % B=p2:=by rw[Int.add_comm,Dx];exact Int.emod_eq_of_lt h3 h4
 rw[<-a1,e,a2]
section
variable {w:World} 
theorem aj5{g:Heap}{kvs:List Value}{kS a:Addr}{rk:Nat->Int}{ps:List (Nat×Tok)}{e1 e0:Nat}{P:PySem.Fin->Shared->Prop}(K:kE g f kx px scope kvs)(S:KeySc scope kx px)(hroom:A.depth<recursionLimit)(hn:g.get? kS=none)
 (hg:∀b o,g.get? b=some o->s.heap.get? b=some o) (hk:s.heap.get? kS=some (seqObj "list" #[] e0)) (ha:s.heap.get? a=some (seqObj "list" #[] e1)) (hka:kS≠a) (hz:ps.length≤100000)
 (hp:∀x∈ps,x.1<2 ^ 40/\∃t,kvs[x.1]?=some (.int (rk x.1) t)) (hB:∀x∈ps,((x.1:Nat):Int)<B) (nd:(ps.map (·.1)).Nodup)
 (h:∀h' tk (qs:List (Nat×Tok)) c,(∀b o,b≠kS->b≠a->s.heap.get? b=some o->h'.get? b=some o)->h'.get? a=some (seqObj "list" (qs.map itV).toArray c)->qs.Perm ps->(qs.Pairwise fun x y=>rk x.1*B+(x.1:Int)≤rk y.1*B+(y.1:Int))->P (.done (.ret .none)) { s with heap:=h',toks:=tk }):
 wpAny (model prog w) A (ksk_rest a (.ref f) false (ps.map itV).toArray e1 (.ref kS)) P E s:=by
 have big:(100000:Nat)+1≤sizeLine:=by rw[sizeLine_eq];exact Ct _ _
 unfold ksk_rest;refine Aa (Bt ?_);rw[List.forIn_toArray];refine Aa (aaj (rk:=rk) K S hroom hn (fun x s' Q' hx=>?_) ps [] e0 s _ hg hk (by simpa using hz) hp fun h' tk ks e' keep hk' kv=>?_)
 ·refine Aa (wpAny_attempt (AX hx (fun k s'' hk=>?_) fun _ _ hF=>hF.elim))
  try dsimp only
  exact Aa (AX hk (fun _ s3 q=>Ag q) fun _ _ e=>e)
 ·try dsimp only
  rw[CV] at hk';refine Aa (listItems_at (s:={ s with heap:=h',toks:=tk }) hk' rfl ?_);have ha':h'.get? a=some (seqObj "list" #[] e1):=keep _ _ (AN hka) ha;have len:ks.length=ps.length:=kv.len;obtain⟨T,eT⟩:∃T,T=ks.zip ps:=⟨_,rfl⟩;have kT:∀t∈T,ahe h' kS rk t.1 t.2:=fun t ht=>kv.mem t (eT▸ht);have e2:T.map (·.2)=ps:=by rw[eT];exact List.map_snd_zip (by lia)
  have ez:ks.zip (ps.map itV)=T.map fun t=>(t.1,itV t.2):=by rw[eT,List.zip_map_right];rfl
  have mp:∀t∈T,t.2∈ps:=fun t ht=>by rw[<-e2];exact Ce ht
  have nT:∀t∈T,num h' B (t.1,itV t.2)=rk t.2.1*B+(t.2.1:Int):=fun t ht=>by obtain⟨b,tt,u,x1,x2,x3⟩:=kT t ht;exact num_of x1 x3 rfl
  have hB0:∀x∈ps,(0:Int)≤((x.1:Nat):Int):=fun _ _=>by exact AY _
  have inj:((ks.zip (ps.map itV)).map (num h' B)).Nodup:=by
   rw[ez,BC];have e4:T.map (num h' B∘fun t=>(t.1,itV t.2))=(T.map (·.2)).map fun x:Nat×Tok=>rk x.1*B+(x.1:Int):=by rw[BC];exact CO fun t ht=>nT t ht
   rw[e4,e2];refine rg (G:=fun x:Nat×Tok=>x.1) (fun x hx y hy e=>?_) nd;have:=ack (hB0 x hx) (hB x hx) (hB0 y hy) (hB y hy) e;lia
  refine alm (s:={ s with heap:=h',toks:=tk }) (vs:=ps.map itV) (ks:=ks) (B:=B) hk' ha' hka (by rw[Ae];exact len) (by rw[Ae];exact cV) (fun v hv=>?_) inj fun h2 tk2 xs c keep2 hc pm pw=>?_
  ·obtain⟨j,hj⟩:=Ds hv;have hjl:j<ps.length:=by rw[<-len];exact(AZ.mp hj).1
   have hm:(v,ps[j])∈T:=by rw[eT];refine List.mem_iff_getElem?.mpr ⟨j,?_⟩;rw[List.getElem?_zip_eq_some];exact⟨hj,Aj hjl⟩
   obtain⟨b,tt,u,x1,x2,x3⟩:=kT _ hm;have x1:v=.ref b:=x1;exact⟨b,_,_,_,_,tt,u,x1,x3,rfl,rfl,by exact AY _,hB _ (mp _ hm)⟩
  ·rw[ez] at pm;obtain⟨T',pT,eT'⟩:=ad8 _ pm rfl;subst eT';have mT:∀t,t∈T'->t∈T:=fun t=>pT.mem_iff.mp;refine h h2 tk2 (T'.map (·.2)) c (fun b o n1 n2 e=>?_) ?_ ?_ ?_
   ·rw[keep2 b n1 n2];exact keep b o n1 e
   ·rw[hc,BC,BC];rfl
   ·rw[<-e2];exact pT.map _
   ·refine BH.mpr (Cb (fun {x y} hx hy z=>?_) (BH.mp pw));rw[nT x (mT x hx),nT y (mT y hy)] at z;exact z
theorem w_sortedK{kvs:List Value}{rk:Nat->Int}{ps:List (Nat×Tok)}(K:kE s.heap f kx px scope kvs)(S:KeySc scope kx px)(hroom:A.in1.in1.depth<recursionLimit)
 (hl:s.heap.IsList l (ps.map itV).toArray) (hz:ps.length≤100000)
 (hp:∀x∈ps,x.1<2 ^ 40/\∃t,kvs[x.1]?=some (.int (rk x.1) t)) (hB:∀x∈ps,((x.1:Nat):Int)<B) (nd:(ps.map (·.1)).Nodup)
 (h:∀h' tk (qs:List (Nat×Tok)) D c,s.heap.objs.size≤D->(∀b o,s.heap.get? b=some o->h'.get? b=some o)->h'.get? D=some (seqObj "list" (qs.map itV).toArray c)->qs.Perm ps->(qs.Pairwise fun x y=>rk x.1*B+(x.1:Int)≤rk y.1*B+(y.1:Int))->Q (.ref D) { s with heap:=h',toks:=tk }):
 wpAny (model prog w) A (call (.builtin "sorted") [.ref l] [(Str.ofString "key",.ref f)]) Q E s:=by
 have big:(100000:Nat)+1≤sizeLine:=by rw[sizeLine_eq];lia
 have hlen:(ps.map itV).length≤100000:=by rw[Ae];exact hz
 refine call_function_entry_kw kind_sorted plain_sorted entry_sorted (ksk_s1 _ _) ?_;unfold Builtin.«sorted»;refine Aa (m:=checkCount "sorted" 1 1 _) (Ag ?_);refine Aa (collect_list hl ?_ (by exact cV));refine Aa (wpAny_newList ?_ (by lia));obtain⟨g1,eg⟩:∃g1,g1=(s.heap.push (seqObj "list" #[] 0)).update s.heap.objs.size (Obj.mapSeq (· ++ (ps.map itV).toArray)):=⟨_,rfl⟩;have gs:g1.objs.size=s.heap.objs.size+1:=by rw[eg,Heap.size_update,size_push']
 have gk:∀b o,s.heap.get? b=some o->g1.get? b=some o:=fun b o q=>by have hlt:b<s.heap.objs.size:=Heap.lt_size q;rw[eg,Heap.get?_update_ne _ _ _ _ (A3 hlt)];exact Heap.get?_push_of_some _ q
 show wpAny _ _ _ _ _ { s with heap:=((s.heap.push (seqObj "list" #[] 0)).update s.heap.objs.size (Obj.mapSeq (· ++ (ps.map itV).toArray))).push (seqObj "list" (ps.map itV).toArray 0) };rw[<-eg];have hoD:(g1.push (seqObj "list" (ps.map itV).toArray 0)).get? g1.objs.size=some (seqObj "list" (ps.map itV).toArray 0):=Heap.get?_push_size _ rfl;have keep:∀b o,s.heap.get? b=some o->(g1.push (seqObj "list" (ps.map itV).toArray 0)).get? b=some o:=fun b o q=>Heap.get?_push_of_some _ (gk b o q);refine Aa (A7 (wpAny_call_entry_kw slot_list_sort ⟨_,hoD,rfl⟩ entry_list_sort ?body (ksk_l1 _ _)))
 case body=>
  obtain⟨D,eD⟩:∃D,D=g1.objs.size:=⟨_,rfl⟩;rw[<-eD] at hoD ⊢;show wpAny (model prog w) A.in1.in1 (Builtin.«list.sort» ⟨[.ref D],[(Str.ofString "key",.ref f)]⟩) _ _ _;rw[ksk_t1];obtain⟨g2,eg2⟩:∃g2,g2=g1.push (seqObj "list" (ps.map itV).toArray 0):=⟨_,rfl⟩;rw[<-eg2] at hoD keep ⊢;have s1:=Heap.SameBut.update g2 D (Obj.mapSeq fun _=>(#[]:Array Value));obtain⟨e1,ho1⟩:∃e1,(g2.update D (Obj.mapSeq fun _=>(#[]:Array Value))).get? D=some (seqObj "list" #[] e1):=⟨_,get?_update_seq hoD fun _=>#[]⟩;have nD:∀b o,s.heap.get? b=some o->b≠D:=fun b o q z=>by have hlt:b<s.heap.objs.size:=Heap.lt_size q;rw[z,eD,gs] at hlt;exact Dr hlt
  unfold ksk_tree;refine Aa (listItems_at (s:={ s with heap:=g2 }) hoD rfl ?_);refine Aa (listUpdate_at (s:={ s with heap:=g2 }) hoD rfl ?_ (by rw[Am];exact cV) (Bb _));refine Aa (seqEpoch_at ho1 rfl ?_);refine Aa (wpAny_newTuple ?_ (by show(ps.map itV).length≤_;lia));refine Aa (wpAny_newList ?_ (Bb _));refine A7 ?_;obtain⟨g3,eg3⟩:∃g3,g3=(g2.update D (Obj.mapSeq fun _=>(#[]:Array Value))).push (seqObj "tuple" (ps.map itV).toArray 0):=⟨_,rfl⟩;have k3:∀b o,s.heap.get? b=some o->g3.get? b=some o:=fun b o q=>by rw[eg3];exact Heap.get?_push_of_some _ ((s1.2 b (nD b o q)).trans (keep b o q))
  have d3:g3.get? D=some (seqObj "list" #[] e1):=by rw[eg3];exact Heap.get?_push_of_some _ ho1
  show wpAny (model prog w) A.in1.in1 (ksk_rest D (.ref f) false (ps.map itV).toArray _ (.ref ((g2.update D (Obj.mapSeq fun _=>(#[]:Array Value))).push (seqObj "tuple" (ps.map itV).toArray 0)).objs.size)) _ _ { s with heap:=((g2.update D (Obj.mapSeq fun _=>(#[]:Array Value))).push (seqObj "tuple" (ps.map itV).toArray 0)).push (seqObj "list" #[] 0) };rw[<-eg3];have hkS:(g3.push (seqObj "list" #[] 0)).get? g3.objs.size=some (seqObj "list" #[] 0):=Heap.get?_push_size _ rfl;refine aj5 (s:={ s with heap:=g3.push (seqObj "list" #[] 0) }) (g:=s.heap) (kS:=g3.objs.size) (a:=D) (rk:=rk) (B:=B) K S hroom (Heap.get?_none_of_le ?_) (fun b o q=>Heap.get?_push_of_some _ (k3 b o q)) hkS (Heap.get?_push_of_some _ d3) ?_ hz hp hB nd fun h' tk qs c kp hD pm pw=>?_
  ·have l1:g3.objs.size=g1.objs.size+2:=by rw[eg3,size_push',Heap.size_update,eg2,size_push']
   rw[l1,gs];exact AS (Cp _) (A4 _ 2)
  ·exact(A3 (Heap.lt_size d3)).symm
  ·refine⟨_,rfl,Ag ⟨_,rfl,h h' tk qs D c (by rw[eD,gs];exact Cp _) (fun b o q=>?_) hD pm pw⟩⟩;exact kp b o (A3 (Heap.lt_size (k3 b o q))) (nD b o q) (Heap.get?_push_of_some _ (k3 b o q))
end
end TS
namespace L2
open PySem PySem.Spec PyProof.Rows
theorem pI{i j:Int}{t u:Tok}{c:Value}(l:List Value)(h:TriplesOk l):TriplesOk (l++[.int i t,.int j u,c]):=by
 fun_induction TriplesOk l with
 |case1=>trivial
 |case2 _ _ _ _ _ rest ih=>exact ih h
 |case3=>exact h.elim
theorem u8{i j:Int}{t u:Tok}{c cv:Value}(l:List Value)(h:TriplesOk l)(e:codeAmong pos (l++[.int i t,.int j u,c])=some cv):codeAmong pos l=some cv\/cv=c:=by
 fun_induction TriplesOk l with
 |case1=>
  right;have e:(if i==pos.line&&j==pos.col then some c else none)=some cv:=e;split at e
  ·cases e;rfl
  ·cases e
 |case2 a _ b _ d rest ih=>
  have e:(if a==pos.line&&b==pos.col then some d else codeAmong pos (rest++[.int i t,.int j u,c]))=some cv:=e;show(if a==pos.line&&b==pos.col then some d else codeAmong pos rest)=some cv\/cv=c;split at e
  ·rename_i z;rw[AD z];exact .inl e
  ·rename_i z;rw[Ay z];exact ih h e
 |case3=>exact h.elim
structure zI(K:Ai)(cdv:Value)(P:Addr):Prop where
 ex:∃c oc,cdv=.ref c/\K.lookup c=some oc/\∀h:Heap,h.get? c=some oc->PySem.W.CodeHd h c P
 bm:∃bm ob,PySem.W.nsIn K mainGlobals "__builtins__" = some (some (.ref bm))/\bm≠builtinsNs/\bm≠mainGlobals/\K.lookup bm=some ob/\ob.cls=.type "module" /\ ob.dict=some builtinsNs/\ob.data=.plain
theorem rc:∀{l:List Nat} {us:List Value},zp (l.map fun i:Nat=>V.int (0+(i:Int))) us->∃ps:List (Nat×Tok),us=ps.map TS.itV/\ps.map (·.1)=l
 |[],_,.nil=>⟨[],rfl,rfl⟩
 |i::r,_,.cons (b:=u) h t=>by obtain⟨ps,e1,e2⟩:=rc (l:=r) t;obtain⟨tk,e3⟩:=(show ∃tk,u=Value.int (0+(i:Int)) tk from h);refine⟨(i,tk)::ps,?_,by rw[Az,e2]⟩;rw[Az,e1,e3];show _=Value.int (i:Int) tk::_;rw[Dy]
theorem rF:∀ps:List (Nat×Tok),zp (ps.map fun x=>V.int ((x.1:Nat):Int)) (ps.map TS.itV)
 |[]=>.nil
 |x::r=>.cons ⟨x.2,rfl⟩ (rF r)
def aii(P:Addr)(q:Str)(ik:Nat)(te:TE):TE:=fun σ H Q=>te σ H fun v H1=>∃l kk,∃n:Nat,∃rks:List Int,v=.ref l/\H1 l=some (.lst ((List.range n).map fun i:Nat=>V.int (0+(i:Int))))/\σ[ik]?=some (some (.ref kk))/\H1 kk=some (.lst (rks.map V.int))/\rks.length=n/\n≤1000/\ow H1 P q/\
 ∀H2 D (qs:List Nat),(∀b u,b≠P->H1 b=some u->H2 b=some u)->ow H2 P q->H1 D=none->D≠P->H2 D=some (.lst (qs.map fun i:Nat=>V.int (i:Int)))->qs.Perm (List.range n)->(qs.Pairwise fun i j=>rks.getD i 0*1000000+(i:Int)≤rks.getD j 0*1000000+(j:Int))->Q (.ref D) H2
section
theorem xS{kk cell c':Addr}{params:Arguments}{ctv:Value}{Q:VK}(I:z9 X pins σ H s)(S:TS.KeySc lscope kx px)(hr:X.A.depth+3<recursionLimit)
 (hf:s.heap.get? f=some (PySem.W.kla_obj name qual params (TS.keyBody kx px p1 p2 p3 p4 p5 x1) lscope [(kx,cell)] pm c' ctv)) (hcd:s.heap.CodeRec (.ref c') qual) (hcell:s.heap.IsCell cell (some (.ref kk)))
 (hb:∀v:Value,bindArgs (PySem.W.kla_fn name qual params (TS.keyBody kx px p1 p2 p3 p4 p5 x1) lscope [(kx,cell)] pm (.ref c') ctv) ⟨[v],[]⟩=pure [(px,v)])
 (hl:H l=some (.lst ((List.range n).map fun i:Nat=>V.int (0+(i:Int))))) (hk:H kk=some (.lst (rks.map V.int))) (hn:rks.length=n) (hz:n≤1000)
 (q:∀D (qs:List Nat),H D=none->qs.Perm (List.range n)->(qs.Pairwise fun i j=>rks.getD i 0*1000000+(i:Int)≤rks.getD j 0*1000000+(j:Int))->Q (.ref D) (upd H D (.lst (qs.map fun i:Nat=>V.int (i:Int))))):
 wpAny (model X.prog X.w) X.A (call (.builtin "sorted") [.ref l] [(Str.ofString "key",.ref f)]) (EP X pins σ Q) X.xe s:=by
 obtain⟨its,rv,pl,_⟩:=I.list (ES hl);obtain⟨kits,rk,pk,_⟩:=I.list (ES hk);obtain⟨ps,rfl,eps⟩:=rc rv;have lk:kits.length=n:=by rw[<-rk.length,Ae,hn]
 have lp:ps.length=n:=by have:=BI List.length eps;rwa[Ae,B7] at this
 have big:(100000:Nat)≤sizeLine:=by decide
 refine ji I.tk (TS.w_sortedK (rk:=fun i=>rks.getD i 0) (B:=1000000) (kvs:=kits) ⟨⟨name,qual,params,p1,p2,p3,p4,p5,x1,pm,ctv,c',cell,kk,hf,hcd,hcell,pk.isList,hb⟩,I.nolimit⟩ S ?_ pl.isList (by lia) (fun x hx=>?_) (fun x hx=>?_) ?_ fun h' tk qs D c hD keep hg pm' pw ht=>?_)
 ·show X.A.depth<recursionLimit;lia
 ·have hx1:x.1∈List.range n:=by rw[<-eps];exact Ce hx
  have hx2:=AV.mp hx1;refine⟨by lia,?_⟩;have e1:(rks.map V.int)[x.1]?=some (V.int (rks.getD x.1 0)):=by rw[Al,Aj (by lia),Bh,Aj (by lia)];rfl
  obtain⟨u,e2,r2⟩:=Words.Paired.getP rk e1;obtain⟨t,rfl⟩:=(show ∃t,u=Value.int (rks.getD x.1 0) t from r2);exact⟨t,e2⟩
 ·have hx1:x.1∈List.range n:=by rw[<-eps];exact Ce hx
  have hx2:=AV.mp hx1;omega
 ·rw[eps];exact Co
 ·have hfr:H D=none:=I.hok.fresh hD;refine⟨.ref D,_,I.laid (t':=tk) (o:=.lst ((qs.map (·.1)).map fun i:Nat=>V.int (i:Int))) keep hD ?_,rfl,q D (qs.map (·.1)) hfr ?_ ?_⟩
  ·refine⟨?_,qs.map TS.itV,c,?_,hg⟩
   ·rw[Ae,Ae,pm'.length_eq];lia
   ·rw[BC];exact rF qs
  ·rw[<-eps];exact pm'.map _
  ·exact BH.mpr pw
end
section
theorem z9.tabbed{P c':Addr}{ps more:Array Value}{oc fo:Obj}{tk:Nat}(I:z9 X pins σ H s)(hP:H P=some (.tbl ps))(hx:Heap.ExtBut P s.heap h')(htb:h'.get? P=some (PySem.W.tabObj (ps++more)))
 (hc:s.heap.objs.size≤c') (hoc:h'.get? c'=some oc) (ht:0<tk):z9 X pins σ (upd (upd H P (.tbl (ps++more))) c' (.frz oc (.own 0))) { s with heap:=h'.push fo,toks:=tk }:=by
 have nc:H c'=none:=I.hok.fresh hc;have nP:∀b,H b=none->b≠P:=fun b e z=>by rw[z,hP] at e;cases e
 have nC:∀b u,H b=some u->b≠c':=fun b u e z=>by rw[z,nc] at e;cases e
 have oldC:∀b o,s.heap.get? b=some o->b≠c':=fun b o e=>A3 (AO (Heap.lt_size e) hc);have kp:∀b o,b≠P->s.heap.get? b=some o->(h'.push fo).get? b=some o:=fun b o n e=>Heap.get?_push_of_some _ (hx b o n e);have nPt:∀b u,H b=some u->(∀ps,u≠.tbl ps)->b≠P:=fun b u e d z=>by rw[z,hP] at e;cases e;exact d _ rfl
 refine I.step (ch:=[]) (g':=s.gens) (d':=s.drawn) (t':=tk) (fun _ z=>nomatch z) (fun b o _ _ _ e n=>kp b o (nP b n) e) (fun b o _ _ _ e n=>⟨o.slots,kp b o (nP b n) e⟩) (fun b o _ e n=>?_) (fun b o _ e=>?_) (fun b xs e=>?_) (fun b o u e=>?_) (fun b qs e=>?_) (fun m hm=>?_) (fun b u e=>?_) I.bare ht
 ·rw[qu (oldC b o e),qu (nP b n)];exact n
 ·by_cases c:b=P
  ·subst c;exact⟨_,Heap.get?_push_of_some _ htb⟩
  ·exact⟨o,kp b o c e⟩
 ·rw[qu (nC b _ e),qu (nPt b _ e fun _ z=>by cases z)];exact e
 ·rw[qu (nC b _ e),qu (nPt b _ e fun _ z=>by cases z)];exact e
 ·rw[qu (nC b _ e)];by_cases c:b=P
  ·subst c;rw[hP] at e;cases e;exact⟨more,jd⟩
  ·rw[qu c];exact⟨#[],by rw[e];simp⟩
 ·exact(hm.extBut hx (nP _ I.free)).push _
 ·by_cases c:b=c'
  ·subst c;rw[jd] at e;cases e;exact⟨Heap.get?_push_of_some _ hoc,_,Heap.get?_push_of_some _ hoc⟩
  ·rw[qu c] at e;by_cases d:b=P
   ·subst d;rw[jd] at e;cases e;exact Heap.get?_push_of_some _ htb
   ·rw[qu d] at e;refine(I.hok b u e).stay (fun a v ha r=>kp a v ?_ r) (fun a r=>?_) (fun a xs r=>?_)
    ·rcases ha with rfl | ha
     ·exact d
     ·exact nPt a _ ha fun _ z=>by cases z
    ·rw[qu (nC a _ r),qu (nPt a _ r fun _ z=>by cases z)];exact r
    ·rw[qu (nC a _ r),qu (nPt a _ r fun _ z=>by cases z)];exact r
theorem ac0{te:TE}{params:Arguments}{lpos:Pos}{ik:Nat}{P:Addr}(hg:Gl X "sorted")(hm:X.mg "sorted" = none)(he:PE X e te)(S:TS.KeySc lscope kx px)(C:zI X.K X.env.code P)(hr:X.A.depth+3<recursionLimit)
 (hq:X.env.qual ++ "<lambda>" = q) (hix:X.N[ik]?=some kx) (hck:X.env.scope.names.lookup kx=some .cell) (hclo:∃cell,X.env.cells.lookup kx=some cell/\closureFor lscope X.env=pure [(kx,cell)])
 (hdef:defaultsOf params X.env=([],[])) (hb:∀(name qual:Str) (cl:List (Str×Addr)) (pm cd ct v:Value),bindArgs (PySem.W.kla_fn name qual params (TS.keyBody kx px p1 p2 p3 p4 p5 x1) lscope cl pm cd ct) ⟨[v],[]⟩=pure [(px,v)])
 (h1:starEach [e] X.env=(false,eval e X.env)::starEach [] X.env:=by rfl) (h2:(backTo pos (starEach [e] X.env)).any (·.1)=false:=by rfl)
 (h3:backTo pos (starEach [e] X.env)=(false,eval e X.env)::backTo pos (starEach [] X.env):=by rfl):
 PE X (.Call (.Name "sorted" p) [e] [⟨some "key",.Lambda params (TS.keyBody kx px p1 p2 p3 p4 p5 x1) lscope lpos,kpos⟩] pos) (aii P q ik te):=by
 intro pins s σ H Q I h;refine wpAny_Call_Name_kw (cY I hg hm (by decide +kernel:bootBuiltins "sorted" = some (.builtin "sorted")) ?_ (by decide) (by decide));refine PyProof.Rows.callWith_kw ?_ h3 h2;rw[h3];refine Calls.spliced_cons (va (he pins s σ H _ I h) fun v s1 ⟨x,H1,I1,rx,l,kk,n,rks,ev,hl,hs,hk,hn,hz,T,qq⟩=>?_);refine Calls.spliced_nil ?_;subst ev;cases (show v=Value.ref l from rx);show wpAny _ _ (evalAll ((do let v <-eval (.Lambda params (TS.keyBody kx px p1 p2 p3 p4 p5 x1) lscope lpos) X.env;standAt pos;pure v)::[])) _ _ s1;refine wpAny_evalAll_cons (Aa ?_);obtain⟨cell,ecell,eclo⟩:=hclo;obtain⟨c,oc0,ecd,lc,hC⟩:=C.ex;obtain⟨bm,ob,b1,b2,b3,b4,b5,b6,b7⟩:=C.bm;obtain⟨tps,tP,tok,tall⟩:=T;have hgs:s1.heap.Ns mainGlobals X.mg:=I1.ok.mod.glob.keeps I1.bk;have hPo:s1.heap.get? P=some (PySem.W.tabObj tps):=I1.hok P _ tP;have Chd:PySem.W.CodeHd s1.heap c P:=hC _ (I1.kIn c oc0 lc);have baseNe:∀b o,X.base.get? b=some o->b≠P:=fun b o e z=>by have:=(I1.bs b o e).2;rw[z,tP] at this;cases this
 have hbmB:=I1.ok.mod.kin bm ob b4;have hB:s1.heap.BuiltinsAt X.mg P:=⟨bm,ob,CQ I1.ok.mod.kin I1.ok.mod.glob b1,b2,b3,baseNe _ _ hbmB,(I1.bs _ _ hbmB).1,b5,b6,b7⟩;have hgP:mainGlobals≠P:=by obtain⟨o,es,ep,e,hd,_⟩:=I1.ok.mod.glob;exact baseNe _ _ e
 have hcell:s1.heap.IsCell cell (some (.ref kk)):=by
  obtain⟨m,_,hl'⟩:=I1.loc;obtain⟨u,ru,lk⟩:=hl' ik kx _ hix hs (.inr (.inl hck));cases (show u=Value.ref kk from ru);rcases lk with⟨k1,_⟩ | ⟨_,c2,e2,hc2⟩
  ·have k1:X.env.scope.names.lookup kx=some .local:=k1;rw[hck] at k1;cases k1
  ·rw[ecell] at e2;cases e2;exact hc2
 refine PySem.W.kla_eval hdef ?_;rw[hq];have xr:∀(s2:Shared) (H2:Hp) (f c':Addr) (ctv pm:Value),z9 X pins σ H2 s2->s2.heap.get? f=some (PySem.W.kla_obj "<lambda>" q params (TS.keyBody kx px p1 p2 p3 p4 p5 x1) lscope [(kx,cell)] pm c' ctv)->s2.heap.CodeRec (.ref c') q->s2.heap.IsCell cell (some (.ref kk))->
  (∀b u,b≠P->H1 b=some u->H2 b=some u)->ow H2 P q->(∀b,H2 b=none->H1 b=none)->
  wpAny (model X.prog X.w) X.A (do standAt pos;pure (Value.ref f)) (fun v s'=>wpAny (model X.prog X.w) X.A (evalAll []) (fun vs s''=>wpAny (model X.prog X.w) X.A (call (.builtin "sorted") [.ref l] ([Str.ofString "key"].zip (v::vs))) (EP X pins σ Q) X.xe s'') X.xe s') X.xe s2:=by
  intro s2 H2 f c' ctv pm I2 g1 g2 g3 g4 g5 g6;refine Aa (wpAny_standAt (Ag (wpAny_evalAll_nil ?_)));have lP:l≠P:=fun z=>by rw[z,tP] at hl;cases hl
  have kP:kk≠P:=fun z=>by rw[z,tP] at hk;cases hk
  refine xS (n:=n) (rks:=rks) I2 S hr g1 g2 g3 (fun v=>hb _ _ _ _ _ _ v) (g4 _ _ lP hl) (g4 _ _ kP hk) hn hz fun D qs hD pm' pw=>?_;have nDP:D≠P:=fun z=>by obtain⟨ps2,e2,_⟩:=g5;rw[z,e2] at hD;cases hD
  refine qq _ D qs (fun b u n e=>?_) ?_ (g6 D hD) nDP jd pm' pw
  ·rw[qu (j7 (g4 b u n e) hD)];exact g4 b u n e
  ·exact g5.keep (qu (AN nDP)) fun b o u e=>by rw[qu (j7 e hD)];exact e
 cases hf:codeAmong lpos tps.toList with
 |some cv=>
  obtain⟨c',oc,vs,t,ecv,f1,f2,f3⟩:=tall lpos cv hf;subst ecv;refine ji I1.tk (PySem.W.kla_makeFunctionHit (mg:=X.mg) eclo I1.ok.glob hgs ecd Chd hPo tok hf hB fun ctv h' tk hk' hsz ht=>?_);have I2:z9 X pins σ H1 { s1 with heap:=h'.push { cls:=.type "function",data:=.func (PySem.W.kla_fn "<lambda>" q params (TS.keyBody kx px p1 p2 p3 p4 p5 x1) lscope [(kx,cell)] ((X.mg "__name__").getD .none) (.ref c') ctv) },toks:=tk }:=I1.kept (t':=tk) fun b o e=>Heap.get?_push_of_some _ (hk' b o e);obtain⟨hoc,_⟩:=I2.hok c' _ f1;refine xr _ H1 _ c' ctv _ I2 (Heap.get?_push_size _ rfl) ⟨c',oc,vs,t,rfl,hoc,f2,f3⟩ ?_ (fun b u _ e=>e) ⟨tps,tP,tok,tall⟩ (fun b e=>e);obtain⟨o,e1,e2⟩:=hcell;exact⟨o,Heap.get?_push_of_some _ (hk' _ _ e1),e2⟩
 |none=>
  refine ji I1.tk (PySem.W.kla_makeFunction (mg:=X.mg) eclo I1.ok.glob hgs ecd Chd hPo tok hf hgP hB fun c' ctv h' tk hx hge hlt hrec htb ht=>?_);obtain⟨c2,oc,vs,t,e2,hoc,f2,f3⟩:=hrec;cases e2;have I2:=I1.tabbed (fo:=PySem.W.kla_obj "<lambda>" q params (TS.keyBody kx px p1 p2 p3 p4 p5 x1) lscope [(kx,cell)] ((X.mg "__name__").getD .none) c' ctv) tP hx htb hge hoc ht;have nc:H1 c'=none:=I1.hok.fresh hge;have cP:c'≠P:=fun z=>by rw[z,tP] at nc;cases nc
  refine xr _ _ _ c' ctv _ I2 (Heap.get?_push_size _ rfl) ⟨c',oc,vs,t,rfl,Heap.get?_push_of_some _ hoc,f2,f3⟩ ?_ (fun b u n e=>?_) ?_ (fun b e=>?_)
  ·obtain⟨o,e1,e2⟩:=hcell;have nP:cell≠P:=fun z=>by have:=I1.freeC kx cell ecell;rw[z,tP] at this;cases this
   exact⟨o,Heap.get?_push_of_some _ (hx _ _ nP e1),e2⟩
  ·rw[qu (j7 e nc),qu n];exact e
  ·refine⟨tps++#[rawInt lpos.line,rawInt lpos.col,.ref c'],by rw[qu (AN cP),jd],?_,fun pos' cv z=>?_⟩
   ·rw[A8];exact pI _ tok
   ·rw[A8] at z;rcases u8 _ tok z with z | z
    ·obtain⟨d',od,vs',t',k1,k2,k3⟩:=tall pos' cv z;have nP:d'≠P:=fun z=>by rw[z,tP] at k2;cases k2
     exact⟨d',od,vs',t',k1,by rw[qu (j7 k2 nc),qu nP];exact k2,k3⟩
    ·exact⟨c',oc,vs,t,z,jd,f2,f3⟩
  ·by_cases d:b=c'
   ·subst d;exact nc
   ·rw[qu d] at e;by_cases d2:b=P
    ·subst d2;rw[jd] at e;cases e
    ·rw[qu d2] at e;exact e
end
end L2
namespace L3
open PySem L2
def aaa(Pt:Addr)(q:Str)(ik:Nat)(te:xp)(τ:jp)(L:qm)(Q:YK):Prop:=te τ L fun y L1=>match y with
 |.ref l=>cW L1 l fun ys=>∃(n:Nat) (rks:List Int) (kk:Addr),ys=ag 0 n/\u9 τ ik=some (.ref kk)/\L1 kk=some (.lst (rks.map Y.int))/\rks.length=n/\n≤1000/\L1 Pt=some (.tb q)/\
  ∀(D:Addr) (qs:List Nat),L1 D=none->qs.Perm (List.range n)->(qs.Pairwise fun i j=>rks.getD i 0*1000000+(i:Int)≤rks.getD j 0*1000000+(j:Int))->Q (.ref D) (qg L1 D (.lst (qs.map fun i:Nat=>Y.int (i:Int))))
 |_=>False
theorem oO{G:G3}{H:Hp}:∀{l:List Nat} {xs:List V},xo G H (l.map fun i:Nat=>Y.int (0+(i:Int))) xs->xs=l.map fun i:Nat=>V.int (0+(i:Int))
 |[],_,h=>h
 |_::_,_,⟨x,xs',e,r,s⟩=>by subst e;cases r;rw[oO s];rfl
theorem fq{G:G3}{H:Hp}:∀{l:List Int} {xs:List V},xo G H (l.map Y.int) xs->xs=l.map V.int
 |[],_,h=>h
 |_::_,_,⟨x,xs',e,r,s⟩=>by subst e;cases r;rw[fq s];rfl
theorem sD{G:G3}{H:Hp}:∀qs:List Nat,xo G H (qs.map fun i:Nat=>Y.int (i:Int)) (qs.map fun i:Nat=>V.int (i:Int))
 |[]=>rfl
 |_::r=>⟨_,_,rfl,rfl,sD r⟩
theorem acv{params:Arguments}{lpos:Pos}{ik:Nat}(hg:Gl X "sorted")(hm:X.mg "sorted" = none)(he:QE X e te)(S:TS.KeySc lscope kx px)(C:zI X.K X.env.code Pt)(hr:X.A.depth+3<recursionLimit)
 (hq:X.env.qual ++ "<lambda>" = q) (hix:X.N[ik]?=some kx) (hck:X.env.scope.names.lookup kx=some .cell) (hclo:∃cell,X.env.cells.lookup kx=some cell/\closureFor lscope X.env=pure [(kx,cell)])
 (hdef:defaultsOf params X.env=([],[])) (hb:∀(name qual:Str) (cl:List (Str×Addr)) (pm cd ct v:Value),bindArgs (PySem.W.kla_fn name qual params (TS.keyBody kx px p1 p2 p3 p4 p5 x1) lscope cl pm cd ct) ⟨[v],[]⟩=pure [(px,v)])
 (h1:starEach [e] X.env=(false,eval e X.env)::starEach [] X.env:=by rfl) (h2:(backTo pos (starEach [e] X.env)).any (·.1)=false:=by rfl)
 (h3:backTo pos (starEach [e] X.env)=(false,eval e X.env)::backTo pos (starEach [] X.env):=by rfl):
 QE X (.Call (.Name "sorted" p) [e] [⟨some "key",.Lambda params (TS.keyBody kx px p1 p2 p3 p4 p5 x1) lscope lpos,kpos⟩] pos) (aaa Pt q ik te):=
 EF (ac0 hg hm he S C hr hq hix hck hclo hdef hb h1 h2 h3) fun σ H Q ⟨τ,L,Q3,rs,rl,z,k⟩=>by
  refine⟨τ,L,_,rs,rl,z,fun v H1 y L1 t1 rl1 rv z=>?_⟩;cases y with
  |ref l=>
   obtain⟨ys,e1,n,rks,kk,rfl,e2,e3,hn,hz,eP,qq⟩:=xh z;cases rv;obtain⟨xs,h1,r1⟩:=rl1 l _ e1;obtain⟨xk,h2,r2⟩:=rl1 kk _ e3;have T:ow H1 Pt q:=rl1 Pt _ eP;cases oO r1;cases fq r2;obtain⟨v,hv,rv⟩:=rs.get ik _ (pD _ _ e2);cases rv;refine⟨l,kk,n,rks,rfl,h1,hv,h2,hn,hz,T,fun H2 D qs kp T2 hD nDP hD2 pm pw=>?_⟩;have tb:∃ps,H1 Pt=some (.tbl ps):=let ⟨ps,e,_⟩:=T;⟨ps,e⟩;have t2:jf H1 H2:=fun a u i h=>kp a u (fun c=>by obtain⟨ps,e⟩:=tb;rw[c,e] at h;cases h;cases i) h
   refine k _ _ _ _ (t1.trans t2) (fun a u e=>?_) (by rfl) (qq D qs (rl1.none hD) pm pw);by_cases c:a=D
   ·subst c;rw[q9] at e;cases e;exact⟨_,hD2,sD qs⟩
   ·rw[qd c] at e;by_cases d:a=Pt
    ·subst d;rw[eP] at e;cases e;exact T2
    ·obtain⟨x,hx⟩:=(rl1 a u e).ex;exact(rl1 a u e).keep t2 (by rw[hx];exact kp a x d hx)
  |_=>exact z.elim
structure ajd(K:Ai)(x qual:Str)(st:Stmt)(f:Addr)(fd:FuncData)(Pt:Addr):Prop where
 ex:∃(oc:Value) (od:Option Addr) (kV doc pm:Value) (an:Option Addr) (cdv ct:Value) (osl:Array (Option Value)),
  fd=PySem.W.fnOf x qual (vf st) (jt st) (qw st) .none kV doc pm an cdv ct/\K.lookup f=some ⟨oc,od,.func fd,osl⟩/\PySem.W.codeIn K cdv qual=true/\zI K cdv Pt
 kp:PySem.W.keepIn K (.ref f)=true
theorem aps{P:Program}{w:World}{K:Ai}{N:List Str}{k:Nat}{sp:jw}(F:ajd K x qual st f fd Pt)(S:ah N ps (qw st))(len:∀ys L Q,sp ys L Q->ys.length=ps.length)
 (hbody:∀(cdv:Value) (A:Around) (outer:List Env) (s:Shared) (H:Hp) (E:XK),zI K cdv Pt->aZ k (A.deeper (PyProof.Rows.envOfC qual (qw st) s.heap.objs.size f cdv))->
  ∃t,tW (iz CX0 P w K mg base N qual (qw st) f cdv A outer s H E).nox (jt st) t/\∀ys L Q,sp ys L Q->t { nx:=fun _ L'=>fN Q .non L',rt:=fN Q } (gv N ys) L):Fn3 P w K mg base (k+1) f fd ps sp:=by
 obtain⟨oc,od,kV,doc,pm,an,cdv,ct,osl,rfl,lk,hcd,C⟩:=F.ex;have F0:Fun K x qual st f _:=⟨⟨oc,od,kV,doc,pm,an,cdv,ct,osl,rfl,lk,hcd⟩,F.kp⟩;refine agw lk hcd S (fun vs H Q E ⟨ys,L,Q3,rv,rl,z,_⟩=>by rw[<-rv.length];exact len ys L Q3 z) fun A outer s H vs Q E hr ⟨ys,L,Q3,rv,rl,z,k⟩=>?_;obtain⟨t,ht,q⟩:=hbody cdv A outer s H E C hr;refine⟨_,m5.nox ht,gv N ys,L,_,oB rv,rl,q ys L Q3 z,?_⟩;exact⟨fun σ H' τ L' t' rs' rl' ⟨L2,s2,q2⟩=>k .non H' .non L2 t' (rl'.sub s2) (by rfl) q2,fun v H' y L' t' rl' rv' ⟨L2,s2,q2⟩=>k v H' y L2 t' (rl'.sub s2) rv' q2,fun _ _ _ _ _ _ _ z=>z.elim,fun _ _ _ _ _ _ _ z=>z.elim⟩
def qD(Pt:Addr)(q:Str):jw:=fun ys L Q=>∃ns:List Int,ys=[.sq (ns.map Y.int)]/\ns.length≤63/\L=qg (fun _=>none) Pt (.tb q)/\∀L',Q (.bl true) L'
def spTopT(q:Str)(K:Ai)(Pt:Addr):Sp:=fun vs H Q _=>∃(a:Addr) (ns:List Int),vs=[.ref a]/\SqF K H a (ns.map V.int)/\ns.length≤63/\H Pt=some (.tbl #[])/\∀H',Q (.bl true) H'
theorem afs{vs:List V}{Q:VK}{E:XK}(h:spTopT q G.K Pt vs H Q E):dn G (qD Pt q) vs H Q E:=by
 obtain⟨a,ns,rfl,hs,hl,hP,z⟩:=h;refine⟨[.sq (ns.map Y.int)],qg (fun _=>none) Pt (.tb q),fun y _=>y=.bl true,xo.one ⟨a,_,rfl,hs,rM ns⟩,(fun b u e=>?_),⟨ns,rfl,hl,rfl,fun _=>rfl⟩,?_⟩
 ·by_cases c:b=Pt
  ·subst c;rw[q9] at e;cases e;exact⟨#[],hP,trivial,fun pos cv z=>by cases z⟩
  ·rw[qd c] at e;cases e
 ·rintro v H' y L' _ _ rv rfl;cases rv;exact z H'
end L3
namespace L2
open PySem PySem.Spec PyProof.Rows
def lessK(Pt:Addr):Ai->Ai
 |[]=>[]
 |(a,o)::r=>if a==Pt then lessK Pt r else(a,o)::lessK Pt r
theorem kq{Pt a:Addr}(h:a≠Pt):∀K:Ai,(lessK Pt K).lookup a=K.lookup a
 |[]=>rfl
 |(b,o)::r=>by
  unfold lessK;by_cases c:(b==Pt)=true
  ·rw[AD c,kq h r,Bx];have:(a==b)=false:=by have hb:=eq_of_beq c;subst hb;exact Eh h
   rw[this]
  ·rw[Ay c,Bx,Bx,kq h r]
theorem aT{Pt:Addr}:∀K:Ai,(lessK Pt K).lookup Pt=none
 |[]=>rfl
 |(b,o)::r=>by
  unfold lessK;by_cases c:(b==Pt)=true
  ·rw[AD c];exact aT r
  ·rw[Ay c,Bx];have:(Pt==b)=false:=by cases d:Pt==b with|false=>rfl|true=>exact absurd (beq_iff_eq.mpr (eq_of_beq d).symm) c
   rw[this];exact aT r
theorem mJ{a:Addr}{K:Ai}{o:Obj}(e:(lessK Pt K).lookup a=some o):a≠Pt/\K.lookup a=some o:=by
 by_cases c:a=Pt
 ·subst c;rw[aT] at e;cases e
 ·rw[kq c] at e;exact⟨c,e⟩
theorem lessK_in{K:Ai}(X:K.In h):(lessK Pt K).In h:=fun a o e=>X a o (mJ e).2
structure agr(K:Ai)(Pt:Addr):Prop where
 tab:K.lookup Pt=some (PySem.W.tabObj #[])
 hd:∃c,∀h:Heap,K.In h->PySem.W.CodeHd h c Pt
 st:Pt≠cStatics
section
variable {K:Ai}(T:K.lookup Pt=some (PySem.W.tabObj #[]))
include T
theorem ns_dn{a:Addr}{r:Option (Option Value)}(e:PySem.W.nsIn K a x=r):PySem.W.nsIn (lessK Pt K) a x=r:=by
 rw[<-e];unfold PySem.W.nsIn;by_cases c:a=Pt
 ·subst c;rw[aT,T]
 ·rw[kq c]
theorem lk_dn{a:Addr}{o:Obj}(e:K.lookup a=some o)(n:o.cls≠.none):(lessK Pt K).lookup a=some o:=by
 rw[kq ?_]
 ·exact e
 ·rintro rfl;rw[T] at e;cases e;exact n rfl
theorem code_dn{cd:Value}(e:PySem.W.codeIn K cd q=true):PySem.W.codeIn (lessK Pt K) cd q=true:=by
 unfold PySem.W.codeIn at e ⊢;split at e
 ·rename_i c;by_cases d:c=Pt
  ·subst d;rw[T] at e;simp at e
  ·rw[kq d];exact e
 ·cases e
theorem ai7{v:Value}:PySem.W.ownIn (lessK Pt K) x v=PySem.W.ownIn K x v:=by
 unfold PySem.W.ownIn;split
 ·rfl
 ·rename_i a;by_cases d:a=Pt
  ·subst d;rw[aT,T]
  ·rw[kq d];split
   ·exact ns_dn T rfl
   ·rfl
 ·rfl
theorem rR{x:Str}:∀l:List Value,PySem.W.alongIn (lessK Pt K) x l=PySem.W.alongIn K x l
 |[]=>rfl
 |c::r=>by unfold PySem.W.alongIn;rw[ai7 T,rR r]
theorem ae4{v:Value}:PySem.W.findIn (lessK Pt K) v x=PySem.W.findIn K v x:=by
 unfold PySem.W.findIn;split
 ·rfl
 ·rename_i a;by_cases d:a=Pt
  ·subst d;rw[aT,T]
  ·rw[kq d];split
   ·exact rR T _
   ·rfl
 ·rfl
theorem uQ{a:Addr}(n:a≠Pt):PySem.W.specialIn (lessK Pt K) (.ref a) x=PySem.W.specialIn K (.ref a) x:=by unfold PySem.W.specialIn PySem.W.typeIn;dsimp only;rw[kq n];congr 1;funext t;exact ae4 T
theorem keep_dn{f:Value}(e:PySem.W.keepIn K f=true):PySem.W.keepIn (lessK Pt K) f=true:=by
 unfold PySem.W.keepIn at e ⊢;split at e
 ·rename_i a;by_cases d:a=Pt
  ·subst d;rw[T] at e;simp at e
  ·rw[kq d,uQ T d];exact e
 ·cases e
end
theorem xW{P:Program}{w:World}{K:Ai}{mb:Str->Option Value}{CX:xL}{k:Nat}{a:Addr}{s₁:Shared}{ns:List Int}
 (KX:K.In s₁.heap) (TI:agr K Pt) (hns:s₁.heap.Ns mainGlobals mg) (hb:s₁.heap.Ns builtinsNs mb) (hbb:∀x:Str,x ≠ "__name__" -> mb x=bootBuiltins x) (hlim:s₁.heap.NoLimit) (hg:s₁.gens=#[]) (htk:0<s₁.toks)
 (ha:s₁.heap.get? a=some { cls:=.type "list",data:=.seq vs.toArray }) (hi:IntsAre vs ns) (hl:ns.length≤sizeLine) (hr:aZ k callerA)
 (F:∀base:Heap,(lessK Pt K).In base->base.Ns mainGlobals mg->cO P w (lessK Pt K) mg base CX k fa fd [x] sp) (hbind:∀(s:Shared) (u:Value),BindsTo s fd ⟨[u],[]⟩ [(x,u)])
 (hsp:∀H:Hp,H Pt=some (.tbl #[])->(H a=none\/∃o xs,H a=some (.frz o (.lst xs)))->aE (lessK Pt K) H a (ns.map V.int)->sp [.ref a] H (fun v _=>v=.bl true) fun _ _ _=>False)
 (hCX:∀H e s',CX [] H s₁ (fun _ _ _=>False) e s'->False):
 codeAny (model P w) callerA (.call (.ref fa) ⟨[.ref a],[]⟩) (fun r s'=>r=.ok (.ret (.bool true))/\OldK s₁.heap s'.heap/\s'.os=s₁.os/\AllBare s'.gens) s₁:=by
 have rv:=nV hi;have lenV:=hi.length;have hP:s₁.heap.get? Pt=some (PySem.W.tabObj #[]):=KX Pt _ TI.tab;have naP:a≠Pt:=fun z=>by rw[z,hP] at ha;cases ha
 have core:∀H:Hp,H Pt=some (.tbl #[])->(∀b,b≠a->b≠Pt->H b=none)->(H a=none\/∃o xs,H a=some (.frz o (.lst xs)))->aE (lessK Pt K) H a (ns.map V.int)->(∀u,H a=some u->xq P w H s₁.heap a u)->(H a≠none->K.lookup a=none)->
  codeAny (model P w) callerA (.call (.ref fa) ⟨[.ref a],[]⟩) (fun r s'=>r=.ok (.ret (.bool true))/\OldK s₁.heap s'.heap/\s'.os=s₁.os/\AllBare s'.gens) s₁:=by
  intro H HP Hn HO HS hoka hka;have hok:eV P w H s₁.heap:=fun b u e=>by
   by_cases c:b=a
   ·subst c;exact hoka u e
   ·by_cases d:b=Pt
    ·subst d;rw[HP] at e;cases e;exact hP
    ·rw[Hn b c d] at e;cases e
  have base_of:∀{b:Addr} {o:Obj},s₁.heap.get? b=some o->H b=none->(qH s₁.heap H).get? b=some o:=fun e n=>acl e n;have noA:∀{b:Addr} {o:Obj} {es:Array DictEntry} {ep:Nat},s₁.heap.get? b=some o->o.data=.dict es ep->H b=none:=fun {b o es ep} e d=>by
   refine Hn b (fun z=>?_) fun z=>?_
   ·subst z;rw[ha] at e;cases e;have d':Data.seq vs.toArray _=Data.dict es ep:=d;cases d'
   ·subst z;rw[hP] at e;cases e;have d':Data.fields _=Data.dict es ep:=d;cases d'
  have nsK:∀{b:Addr} {m:Str->Option Value},s₁.heap.Ns b m->(qH s₁.heap H).Ns b m:=fun {b m} ⟨o,es,ep,e,d,r⟩=>⟨o,es,ep,base_of e (noA e d),d,r⟩;have hKb:(lessK Pt K).In (qH s₁.heap H):=fun b o e=>by
   obtain⟨n,e⟩:=mJ e;refine base_of (KX b o e) ?_;by_cases c:b=a
   ·subst c;cases q:H b with|none=>rfl|some u=>rw[hka (by rw[q];simp)] at e;cases e
   ·exact Hn b c n
  have hM:Mod (lessK Pt K) mg (qH s₁.heap H):=⟨hKb,nsK hns,⟨mb,nsK hb,hbb⟩,let ⟨mc,h1,h2⟩:=hlim;⟨mc,nsK h1,h2⟩⟩;have e0:adz P w (lessK Pt K) mg (qH s₁.heap H) callerA [] s₁ H:=⟨rfl,hM,fun b o e=>aeu e,Nat.le_of_eq (yy _ _),trivial,fun b hb=>absurd (show b∈([]:List Addr) from hb) (by simp),hok,.of_eq hg,htk⟩;refine codeAny_mono ((F _ hKb (nsK hns)).run callerA [] s₁ H ⟨[.ref a],[]⟩ [.ref a] [.ref a] _ _ hr e0 (hbind s₁ (.ref a)) (.cons rfl .nil) (hsp H HP HO HS)) fun r s' h=>?_;cases r with
  |error e=>exact(hCX H e s' h).elim
  |ok fl=>
   cases fl with
   |next=>exact False.elim h
   |brk=>exact False.elim h
   |cont=>exact False.elim h
   |ret u=>
    obtain⟨v,H',os,bare,un,hok',r',q,_⟩:=h;have q':v=.bl true:=q;subst q';obtain rfl:u=Value.bool true:=r';obtain⟨more,em⟩:=un.tbls Pt _ HP;have gP:s'.heap.get? Pt=some (PySem.W.tabObj (#[]++more)):=hok' Pt _ em;have kp:∀b o,b≠Pt->s₁.heap.get? b=some o->s'.heap.get? b=some o:=fun b o n e=>by
     have un1:H b=none->s'.heap.get? b=some o:=fun z=>un.keep b o e z (by intro z;exact absurd (show b∈([]:List Addr) from z) (by simp)) (by simp);by_cases c:b=a
     ·subst c;rcases HO with z | ⟨ob,xs,z⟩
      ·exact un1 z
      ·have z2:=un.frzs _ _ _ z;obtain⟨e1,_⟩:=hok _ _ z;obtain⟨e2,_⟩:=hok' _ _ z2;rw[e] at e1;cases e1;exact e2
     ·exact un1 (Hn b c n)
    obtain⟨c,hc⟩:=TI.hd;refine⟨rfl,⟨fun b o e=>?_,fun b o e=>?_⟩,os,bare⟩
    ·by_cases n:b=Pt
     ·subst n;rw[hP] at e;cases e;exact .inr (.inl ⟨((hc _ KX).tab hP).isCodeTable,rfl,#[],more,rfl,gP⟩)
     ·exact .inl (kp b o n e)
    ·by_cases n:b=Pt
     ·subst n;exact⟨_,gP⟩
     ·exact⟨o,kp b o n e⟩
 cases hk:K.lookup a with
 |some o=>
  have e:=KX a o hk;rw[ha] at e;cases e;refine core (fun b=>if b=Pt then some (.tbl #[]) else none) (AD rfl) (fun b _ n=>Ay n) (.inl (Ay naP)) (.inr ⟨_,vs.toArray,_,(kq naP K).trans hk,rfl,rfl,rfl,by rw[Am,lenV];exact hl,by simpa using rv⟩) (fun u z=>by have z':=(Ay naP).symm.trans z;cases z') fun z=>absurd (Ay naP) z
 |none=>
  refine core (fun b=>if b=a then some (.frz { cls:=.type "list",data:=.seq vs.toArray } (.lst (ns.map V.int))) else if b=Pt then some (.tbl #[]) else none) ((Ay (AN naP)).trans (AD rfl)) (fun b n1 n2=>(Ay n1).trans (Ay n2)) (.inr ⟨_,_,AD rfl⟩) (.inl (.inr ⟨_,AD rfl⟩)) (fun u z=>?_) fun _=>hk;have z':=(AD rfl).symm.trans z;cases z';exact⟨ha,by rw[Ae];exact hl,vs,_,rv,ha⟩
theorem walk_ofZT{l:PySem.W.OpenLaw}{k:Nat}{q:Program}{loose:List Str}{XP:(Str->Option Value)->Heap->Prop}{as0:List Addr}{N t:Nat}{d:DefRec}{K:Params->Ai}{CX:xL}{sp:Ai->Addr->Sp}
 (hn:l.most=some n) (hn2:n≤sizeLine) (hdf:d.params.defaults=[]) (hr:aZ k callerA) (ek:∀P,as0=(K P).map (·.1)) (htk:0<t)
 (F:∀(w:World) (mg:Str->Option Value) (fa:Addr) (h:Heap),(K w.params).In h->h.Ns mainGlobals mg->mg d.name=some (.ref fa)->
  ∃Pt:Addr,agr (K w.params) Pt/\∃fd:FuncData,(∀(s:Shared) (u:Value),BindsTo s fd ⟨[u],[]⟩ [(x,u)])/\
   ∀base:Heap,(lessK Pt (K w.params)).In base->base.Ns mainGlobals mg->cO l.prog w (lessK Pt (K w.params)) mg base CX k fa fd [x] (sp (lessK Pt (K w.params)) Pt))
 (hsp:∀(K:Ai) (Pt:Addr) (H:Hp) (a:Addr) (ns:List Int),ns.length≤n->H Pt=some (.tbl #[])->(H a=none\/∃o xs,H a=some (.frz o (.lst xs)))->aE K H a (ns.map V.int)->sp K Pt [.ref a] H (fun v _=>v=.bl true) fun _ _ _=>False)
 (hCX:∀(H:Hp) (s:Shared) (e:Value) (s':Shared),CX [] H s (fun _ _ _=>False) e s'->False):
 PySem.W.WalkX q loose XP (PySem.W.X.obsZ as0) (PySem.W.X.valZ K N t) l.row.toRowW d [] (fun f vs=>PySem.call f vs):=by
 refine Att.attach_callZ hn hdf ek htk fun w s₀ s₁ mg mb fa o pm cd doc a vs ns G KX tk ho hd hcd hmg hobj hints hlen hg=>?_;obtain⟨Pt,TI,fd,hb,hF⟩:=F w mg fa _ KX G.T.g hmg;exact xW KX TI G.T.g G.T.b G.T.builtins G.T.nolimit hg tk hobj hints (AS hlen hn2) hr hF hb (fun H hP hO hS=>hsp _ Pt H a ns hlen hP hO hS) fun H e s'=>hCX H s₁ e s'
end L2
namespace L3
open PySem L2
theorem top_startT :∀(K:Ai) (Pt:Addr) (H:Hp) (a:Addr) (ns:List Int),ns.length≤63->H Pt=some (.tbl #[])->(H a=none\/∃o xs,H a=some (.frz o (.lst xs)))->aE K H a (ns.map V.int)->spTopT q K Pt [.ref a] H (fun v _=>v=.bl true) fun _ _ _=>False:=by
 intro K Pt H a ns hl hP hO hS;refine⟨a,ns,rfl,?_,hl,hP,fun _=>rfl⟩;rcases hS with(h | ⟨o,h⟩) | h
 ·rcases hO with z | ⟨o,xs,z⟩<;>rw[h] at z<;>cases z
 ·exact .inl ⟨o,h⟩
 ·exact .inr h
structure DefInT(K:Ai)(x:Str)(st:Stmt)(Pt:Addr):Prop where
 ex:∃(f:Addr) (kV doc pm:Value) (an:Option Addr) (cdv ct:Value),PySem.W.nsIn K mainGlobals x=some (some (.ref f))/\ajd K x x st f (PySem.W.fnOf x x (vf st) (jt st) (qw st) .none kV doc pm an cdv ct) Pt
theorem DefInT.use{K:Ai}(D:DefInT K x st Pt)(X:K.In h)(G:h.Ns mainGlobals mg)
 (hb:∀(kV doc pm:Value) (an:Option Addr) (cdv ct:Value) (us:List Value),us.length=ps.length->bindArgs (PySem.W.fnOf x x (vf st) (jt st) (qw st) .none kV doc pm an cdv ct) ⟨us,[]⟩=pure (ps.zip us)):
 ∃f fd,ajd K x x st f fd Pt/\fk K fd ps []/\mg x=some (.ref f):=by
 obtain⟨f,kV,doc,pm,an,cdv,ct,a,F⟩:=D.ex;exact⟨f,_,F,.all (hb kV doc pm an cdv ct),CQ X G a⟩
end L3
namespace L2
open PySem PySem.Spec PyProof.Rows
section
variable {σ':St} 
theorem z9.ren(M:List Str)(I:z9 X pins σ H s)(hl:M.length=X.N.length)(hs:σ'.length=σ.length)(h:∀(j:Nat) v,σ'[j]?=some (some v)->σ[j]?=some (some v)/\X.N[j]?=M[j]?):z9 { X with N:=M } pins σ' H s:=by obtain⟨m,hm,l⟩:=I.loc;have o:=I.ok;exact { ok:=⟨o.mod,o.kind,o.glob,o.blt,o.above,o.inj,o.has,o.cab,o.hd,o.frames,o.stk,o.exf,o.bs,o.bsz,o.noex,o.exfs,o.funs,o.frf⟩,os:=I.os,bare:=I.bare,base:=I.base,cell:=I.cell,free:=I.free,freeC:=I.freeC,pin:=I.pin,hok:=I.hok,tk:=I.tk,len:=(by rw[hs,I.len];exact hl.symm),loc:=⟨m,hm,fun i x v e1 e2 e3=>by obtain⟨a,b⟩:=h i v e2;exact l i x v (b.trans e1) a e3⟩ }
theorem rj(h:(σ.set i none)[j]?=some (some v)):j≠i/\σ[j]?=some (some v):=by
 by_cases c:i=j
 ·subst c;rw[DX] at h;cases e:σ[i]? with|none=>rw[e] at h;cases h|some o=>rw[e] at h;cases h
 ·rw[Bo c] at h;exact⟨AN c,h⟩
def ame(i:Nat)(t:TS):TS:=fun D σ H=>t { nx:=fun σ' H'=>D.nx (σ'.set i none) H',rt:=D.rt,bk:=fun σ' H'=>D.bk (σ'.set i none) H',ct:=fun σ' H'=>D.ct (σ'.set i none) H' } (σ.set i none) H
theorem af4{t:TS}(h:PS { X with N:=X.N.set i x } st t):PS X st (ame i t):=by
 intro pins s σ H D I z;have I':z9 { X with N:=X.N.set i x } pins (σ.set i none) H s:=I.ren _ (by rw[B5]) (by rw[B5]) fun j v e=>by obtain⟨a,b⟩:=rj e;exact⟨b,by rw[Bo (AN a)]⟩
 refine va (h pins s _ H _ I' z) fun f s' q=>?_;have back:∀{σ':St} {H':Hp},z9 { X with N:=X.N.set i x } pins σ' H' s'->z9 X pins (σ'.set i none) H' s':=fun {σ' H'} J=>
  z9.ren (X:={ X with N:=X.N.set i x }) X.N J (by show X.N.length=(X.N.set i x).length;rw[B5]) (by rw[B5]) fun j v e=>by obtain⟨a,b⟩:=rj e;exact⟨b,by show(X.N.set i x)[j]?=_;rw[Bo (AN a)]⟩
 cases f with
 |next=>obtain⟨σ',H',J,q⟩:=q;exact⟨_,H',back J,q⟩
 |brk=>obtain⟨σ',H',J,q⟩:=q;exact⟨_,H',back J,q⟩
 |cont=>obtain⟨σ',H',J,q⟩:=q;exact⟨_,H',back J,q⟩
 |ret u=>obtain⟨v,σ',H',J,r,q⟩:=q;exact⟨v,_,H',back J,r,q⟩
def amj(i j k:Nat)(ta:TA):TS:=fun D σ H=>ta σ H fun vs H1=>∃u v w,vs=[u,v,w]/\D.nx (((σ.set i (some u)).set j (some v)).set k (some w)) H1
theorem adu{k:Nat}{y z:Str}{a b:Expr}{ta:TA}{px pz pt:Pos}{kt k2 pt2}(hc:X.calm=true)(hN:X.N.Nodup)(hi:X.N[i]?=some x)(hj:X.N[j]?=some y)(hk:X.N[k]?=some z)(hij:i≠j)(hik:i≠k)(hjk:j≠k)
 (hx:X.env.scope.names.lookup x=some .local) (hy:X.env.scope.names.lookup y=some .local) (hz:X.env.scope.names.lookup z=some .local) (ha:PA X [a,b,c] ta)
 (hw:swappedStores [.Tuple [.Name x px,.Name y py,.Name z pz] kt pt] (.Tuple [a,b,c] k2 pt2) X.env=pure (some [x,y,z]))
 (hs:swapsWithSole [.Tuple [.Name x px,.Name y py,.Name z pz] kt pt] (.Tuple [a,b,c] k2 pt2) pos.line X.env=pure false:=by rfl):
 PS X (.Assign [.Tuple [.Name x px,.Name y py,.Name z pz] kt pt] (.Tuple [a,b,c] k2 pt2) pos) (amj i j k ta):=by
 intro pins s σ H D I h;rw[exec_Assign_arm];refine Aa (wpAny_standAt ?_);rw[hs];refine Aa (Ag ?_);rw[Ay (by decide)];refine Aa (Tuple_ (va (ha _ pins s σ H _ I h) fun us s1 ⟨vs,H1,I1,r1,q1⟩=>?_));obtain⟨v,w,v3,e1,q1⟩:=q1;subst e1;obtain⟨u1,u2,u3,rfl,rv,rw',r3⟩:∃u1 u2 u3,us=[u1,u2,u3]/\zw v u1/\zw w u2/\zw v3 u3:=by
  cases r1 with
  |cons p q=>
   cases q with
   |cons p' q'=>
    cases q' with
    |cons p'' q''=>
     cases q'';exact⟨_,_,_,rfl,p,p',p''⟩
 refine Bk ?_ (by show 3≤sizeLine;decide);have I2:z9 X pins σ H1 { s1 with heap:=s1.heap.push { cls:=.type "tuple",data:=.seq [u1,u2,u3].toArray } }:=I1.kept (t':=s1.toks) fun b o e=>Heap.get?_push_of_some _ e;rw[hw];refine Aa (Ag ?_);show wpAny (model X.prog X.w) X.A (do rule "assign.swapped-stores";let items <-unpackItems (.ref s1.heap.objs.size) 3 none;assignInOrder [fun v=>bindName X.env z v,fun v=>bindName X.env y v,fun v=>bindName X.env x v] items.reverse;pure Flow.next) _ _ _;refine Aa (Bt (Aa (unpackItems_tuple (items:=#[u1,u2,u3]) (I.ok.hd hc) (IsTup.new s1.heap _) fun h' hx'=>?_)));have I3:=I2.kept (h':=h') (t':=s1.toks) fun b o e=>hx' b o (A3 (Heap.lt_size e)) e;show wpAny _ _ (assignInOrder [fun v=>bindName X.env z v,fun v=>bindName X.env y v,fun v=>bindName X.env x v] [u3,u2,u1] >>= fun _=>pure Flow.next) _ _ _;refine Aa (assignInOrder_cons (wpAny_bindName (ay I3 hN hk (.inl hz) r3 (fun s2 I4=>?_) (.inr hz))));refine assignInOrder_cons (wpAny_bindName (ay I4 hN hj (.inl hy) rw' (fun s3 I5=>?_) (.inr hy)));refine assignInOrder_cons (wpAny_bindName (ay I5 hN hi (.inl hx) rv (fun s4 I6=>assignInOrder_nil (Ag ?_)) (.inr hx)));rw[DL _ _ (AN hij),DL _ _ (AN hik),DL _ _ (AN hjk)] at I6;exact⟨_,H1,I6,q1⟩
end
end L2
namespace L3
open PySem L2
def fb:jp->Nat->jp
 |[],_=>[]
 |_::r,0=>none::r
 |o::r,i+1=>o::fb r i
theorem rp:∀(τ:jp) (i:Nat),fb τ i=τ.set i none
 |[],_=>rfl
 |_::_,0=>rfl
 |o::r,i+1=>by unfold fb;rw[rp r i];rfl
def sW(i:Nat)(t:wv)(D:vh)(τ:jp)(L:qm):Prop:=t { nx:=fun τ' L'=>D.nx (fb τ' i) L',rt:=D.rt,bk:=fun τ' L'=>D.bk (fb τ' i) L',ct:=fun τ' L'=>D.ct (fb τ' i) L' } (fb τ i) L
theorem ke.forget(h:ke G H σ τ)(i:Nat):ke G H (σ.set i none) (fb τ i):=by
 rw[rp];refine⟨by rw[B5,B5];exact h.len,fun j y e=>?_⟩;by_cases c:i=j
 ·subst c;rw[DX] at e;cases e2:τ[i]? with|none=>rw[e2] at e;cases e|some o=>rw[e2] at e;cases e
 ·rw[Bo c] at e ⊢;exact h.get j y e
theorem jN(x:Str){t:wv}(h:QS { X with N:=X.N.set i x } st t):QS X st (sW i t):=
 EH (af4 h) fun D σ H ⟨τ,L,D3,rs,rl,z,k⟩=>⟨fb τ i,L,_,rs.forget i,rl,z,
  ⟨fun σ' H' τ' L' t' rs' rl' q=>k.nx _ H' _ L' t' (rs'.forget i) rl' q,k.rt,fun σ' H' τ' L' t' rs' rl' q=>k.bk _ H' _ L' t' (rs'.forget i) rl' q,fun σ' H' τ' L' t' rs' rl' q=>k.ct _ H' _ L' t' (rs'.forget i) rl' q⟩⟩
def ah1(i j k:Nat)(ta:eX)(D:vh)(τ:jp)(L:qm):Prop:=ta τ L fun ys L'=>match ys with
 |[u,v,w]=>D.nx (bK (bK (bK τ i u) j v) k w) L'
 |_=>False
theorem aff{k:Nat}{y z:Str}{a b:Expr}{px pz pt:Pos}{k2:Nat}{pt2:Pos}(hc:X.calm=true)(hN:X.N.Nodup)(hi:X.N[i]?=some x)(hj:X.N[j]?=some y)(hk:X.N[k]?=some z)(hij:i≠j)(hik:i≠k)(hjk:j≠k)
 (lx:X.env.scope.names.lookup x=some .local) (ly:X.env.scope.names.lookup y=some .local) (lz:X.env.scope.names.lookup z=some .local) (h:QA X [a,b,c] tr)
 (h1:swappedStores [.Tuple [.Name x px,.Name y py,.Name z pz] kt pt] (.Tuple [a,b,c] k2 pt2) X.env=pure (some [x,y,z])) (h2:swapsWithSole [.Tuple [.Name x px,.Name y py,.Name z pz] kt pt] (.Tuple [a,b,c] k2 pt2) pos.line X.env=pure false:=by rfl):
 QS X (.Assign [.Tuple [.Name x px,.Name y py,.Name z pz] kt pt] (.Tuple [a,b,c] k2 pt2) pos) (ah1 i j k tr):=EH (adu hc hN hi hj hk hij hik hjk lx ly lz h h1 h2) fun D σ H ⟨τ,L,D3,rs,rl,z,kk⟩=>
 ⟨τ,L,_,rs,rl,z,fun vs H1 ys L1 t1 rl1 rv1 z1=>by
  split at z1
  ·rename_i u v w;obtain⟨x1,xs1,rfl,r1,x2,xs2,rfl,r2,x3,xs3,rfl,r3,e3⟩:=rv1;cases (show xs3=[] from e3);exact⟨x1,x2,x3,rfl,kk.nx _ H1 _ L1 t1 (show ke _ _ _ (bK (bK (bK τ i u) j v) k w) by rw[wu,wu,wu];exact(((rs.ts t1).set r1).set r2).set r3) rl1 z1⟩
  ·exact z1.elim⟩
theorem ox:bootBuiltins "min" = some (.builtin "min"):=by decide +kernel
def al5(x:Y)(lo hi:Option Int)(L:qm)(Q:YK):Prop:=match x with
 |.tup ys=>¬(HT.sIx ys.length 0 lo=0/\HT.sIx ys.length ys.length hi=ys.length)/\Q (.tup (rq ys lo hi)) L
 |_=>False
theorem als(K:Ai)(P:Program)(w:World)(hK:X.K=K:=by rfl)(hP:X.prog=P:=by rfl)(hw:X.w=w:=by rfl):qT X (adr ⟨K,P,w⟩ al5):=by
 subst hK hP hw;refine qT.imp aho fun x lo hi H Q ⟨y,L,Q3,rv,rl,z,k⟩=>?_;cases y with
 |tup ys=>
  obtain⟨a,xs,e,sq,r⟩:=rv;obtain⟨z1,z2⟩:=z;exact⟨a,xs,e,sq,by rw[<-r.length];exact z1,fun p hp=>k _ _ (.tup (rq ys lo hi)) L (EE hp) (rl.skip hp) ⟨p,_,rfl,.inl (.inl jd),(qB r lo hi).ts (EE hp)⟩ z2⟩
 |_=>exact z.elim
theorem t7{a:Addr}{keep:qm->Prop}(h:∀H L,jf H₀ H->jo G H L->keep L->∃xs,dF G.K H a xs/\xo G H ys xs):hX G H₀ (Itt G.K a) ys keep where
 go:=fun i H L t rl kp hi=>by
  obtain⟨xs,sq,r⟩:=h H L t rl kp;have:i<xs.length:=by rw[<-r.length];exact hi
  exact⟨xs,xs[i],sq,Aj this⟩
 yld:=fun i H L x H' y t rl kp hy ⟨e,f⟩=>by subst e;obtain⟨xs,sq,r⟩:=h _ L t rl kp;obtain⟨x',e',rv⟩:=r.get hy;have:=f xs sq;rw[e'] at this;cases this;exact⟨EC _,rl,rv⟩
 stop:=fun H L t rl kp=>by obtain⟨xs,sq,r⟩:=h H L t rl kp;exact⟨xs,sq,by rw[r.length];exact Ao _⟩
theorem aia(h:QE X e te):QI X tg e (aha te):=PI.imp (ai1 h) fun σ H R ⟨τ,L,R3,rs,rl,z,k⟩=>by
 refine⟨τ,L,_,rs,rl,z,fun v H1 y L1 t1 rl1 rv1 z1=>?_⟩;cases y with
 |tup ys=>
  obtain⟨a,xs,e,sq,r⟩:=rv1;exact⟨a,e,⟨xs,sq⟩,k _ H1 ys (fun _=>True) L1 t1 rl1 (t7 fun H L t _ _=>⟨xs,dF.ts sq t,r.ts t⟩) z1⟩
 |_=>exact z1.elim
theorem dp3{k:Nat}(hr:aZ k A):A.depth+3<recursionLimit:=by have:=hr.dp;omega
abbrev lamQ:Str:="_law_order.<locals>.<lambda>"
open PySem L2 Words
def og(Pt:Addr)(p0:jw):wv:=(qp (zr (ve qr) (qf 2))
 (qp (eO (lZ (qa 0)) (wo 2 (zg (qf 3) (zg (qf 4) vz))) (qp (zr (zn w9 (qt p0 (qe (qa 1) (k8 (qa 3) (jk 39373)))) (jk 40)) (qf 5))
 (da (xc (eL (yB (cX true (qa 4))) (fJ (bM 4) (jk 3))) (zr (zn wz (zn wz (qa 5) (jk 1)) (bJ sv (qe (zn ax (qa 2) (xu 4 1)) (qe (zn ax (qa 2) (xu 4 2)) qr)))) (qf 5)) js)
 (j9 (aW zu (qa 2) (kj (qa 5)))))))
 (jr (aaa Pt lamQ 2 (sw (bM 0))))))
def m9(ks:List (Option Kn)):Prop:=∀(p:Nat) (e:Bool) (i j:Nat),ks[p]?=some (some (.nd e i j))->i<p/\j<p
def yo(ks:List (Option Kn))(rks:List Int):Prop:=∀(p:Nat) (e:Bool) (i j:Nat),p<rks.length->ks[p]?=some (some (.nd e i j))->rks.getD i 0<rks.getD p 0/\rks.getD j 0<rks.getD p 0
theorem kO{r:Int}(h:i<rks.length):(rks++[r]).getD i 0=rks.getD i 0:=by rw[Bh,Bh,AB h]
theorem abo{r:Int}:(rks++[r]).getD rks.length 0=r:=by rw[Bh,An (Ao _),CK];rfl
theorem yo.snoc{ks:List (Option Kn)}{r:Int}{k:Option Kn}(ok:m9 ks)(h:yo ks rks)(hk:ks[rks.length]?=some k)(hr:∀e i j,k=some (.nd e i j)->rks.getD i 0<r/\rks.getD j 0<r):yo ks (rks++[r]):=by
 intro p e i j hp ep;obtain⟨l1,l2⟩:=ok p e i j ep;rw[Ad] at hp;have hp:p<rks.length+1:=hp;rw[kO (show i<rks.length by lia),kO (show j<rks.length by lia)];by_cases c:p<rks.length
 ·rw[kO c];exact h p e i j c ep
 ·have:p=rks.length:=by lia
  subst this;rw[abo];exact hr e i j (Be (hk.symm.trans ep))
def cj(ks:List (Option Kn))(qs:List Nat):Prop:=qs.Pairwise fun x y=>∀e i j,ks[x]?=some (some (.nd e i j))->y≠i/\y≠j
theorem aa5{ks:List (Option Kn)}(ok:m9 ks)(h:yo ks rks)(hl:rks.length=ks.length)(hw:qs.Pairwise fun i j=>rks.getD i 0*1000000+(i:Int)≤rks.getD j 0*1000000+(j:Int)):cj ks qs:=by refine hw.imp fun {x y} z e i j ex=>?_;obtain⟨l1,l2⟩:=ok x e i j ex;obtain⟨r1,r2⟩:=h x e i j (by rw[hl];exact zo ex) ex;exact⟨fun c=>by subst c;lia,fun c=>by subst c;lia⟩
def lW(Pt:Addr):jw:=fun ys L Q=>∃a,∃ks:List (Option Kn),∃s:Int,ys=[.ref a,.int s]/\L a=some (.lst (v9 ks))/\m9 ks/\ks.length≤1000/\L Pt=some (.tb lamQ)/\
 ∀D qs,L D=none->qs.Perm (List.range ks.length)->cj ks qs->Q (.ref D) (qg L D (.lst (nY qs)))
theorem tL(h:i<rks.length):(rks.map Y.int)[i]?=some (.int (rks.getD i 0)):=by rw[Al,Bh,Aj h];rfl
theorem abz :∀ys L Q,lW Pt ys L Q->xx (og Pt dy) 6 ys L Q:=by
 rintro ys L Q ⟨a,ks,s,rfl,ha,ok,hz,hP,q⟩;have big:=bg_;intro kk hkk;have s0:qj L (qg L kk (.lst [])):=By hkk;have nak:a≠kk:=w5 ha hkk;refine x4 (s0 _ _ ha) fun keep kp=>wm ⟨fun i τ L'=>∃rks:List Int,∃c3 c4 c5,τ=[some (Y.ref a),some (.int s),some (Y.ref kk),c3,c4,c5]/\L'=qg L kk (.lst (rks.map Y.int))/\rks.length=i/\yo ks rks,⟨[],_,_,_,rfl,rfl,rfl,fun p _ _ _ hp=>by cases hp⟩,?_,?_,?_⟩
 ·rintro i τ L' ⟨rks,c3,c4,c5,rfl,rfl,_⟩;exact kp _ (by rw[qd nak,qd nak])
 ·rintro i y τ L' hy ⟨rks,c3,c4,c5,rfl,rfl,hl,hrk⟩;obtain⟨z,ez,rfl⟩:=gM hy;rw[Al] at ez;obtain⟨k,ek,rfl⟩:=Ap.mp ez;have hi:=zo ek;refine⟨s,i,39373,rfl,by exact AY _,by omega,by decide,by decide,fun v h0 h1=>?_⟩;have m0:(0:Int)≤v % 40:=Dv _ (by decide);have lens:(rks.map Y.int).length=i:=by rw[Ae];exact hl
  refine⟨show(0:Int)<40 by decide,fun τ' L'=>∃r:Int,τ'=[some (Y.ref a),some (.int s),some (Y.ref kk),some (.int (i:Nat)),some (mN k),some (.int r)]/\L'=qg L kk (.lst (rks.map Y.int))/\∀e i j,k=some (.nd e i j)->rks.getD i 0<r/\rks.getD j 0<r,?_,?_⟩
  ·cases k with
   |none=>exact⟨v % 40,rfl,rfl,fun e i j z=>by cases z⟩
   |some k=>
    cases k with
    |lf t n=>exact⟨v % 40,rfl,rfl,fun e i j z=>by cases z⟩
    |nd e p1 p2=>
     obtain⟨l1,l2⟩:=ok _ _ _ _ ek;have g1:=k7 (tL (rks:=rks) (i:=p1) (by lia));have g2:=k7 (tL (rks:=rks) (i:=p2) (by lia));refine qb q9 (ql g1 ?_);refine qb q9 (ql g2 ?_);refine⟨v % 40+1+max (rks.getD p1 0) (rks.getD p2 0),rfl,rfl,fun e' i' j' z=>?_⟩;cases z;have a1:rks.getD p1 0≤max (rks.getD p1 0) (rks.getD p2 0):=Int.le_max_left ..;have a2:rks.getD p2 0≤max (rks.getD p1 0) (rks.getD p2 0):=Int.le_max_right ..;constructor<;>lia
  ·rintro τ' L' ⟨r,rfl,rfl,hr⟩;refine qb q9 (qk q9 ⟨by rw[lens];exact big _ (by lia),?_⟩);refine⟨_,ED _,rks++[r],_,_,_,rfl,?_,by rw[Ad,hl];rfl,yo.snoc ok hrk (by rw[hl];exact ek) hr⟩;rw[vt,AF];rfl
 ·rintro τ L' ⟨rks,c3,c4,c5,rfl,rfl,hl,hrk⟩;rw[eE,Ae] at hl;have s1:qj L (qg L kk (.lst (rks.map Y.int))):=By hkk;refine qb (s1 _ _ ha) ?_;have lo:(v9 ks).length=ks.length:=Ae ..;refine⟨⟨AY _,by rw[lo];lia⟩,fun p hp=>qk q9 ?_⟩;have npk:kk≠p:=w5 q9 hp;have npP:Pt≠p:=w5 (s1 _ _ hP) hp;have nkP:Pt≠kk:=w5 hP hkk;refine⟨ks.length,rks,kk,by rw[BU,lo],rfl,(qd npk).trans q9,hl,hz,(qd npP).trans ((qd nkP).trans hP),fun D qs hD pm pw=>?_⟩;have hD1:=xz hD;have hD2:=xz hD1;refine⟨qg L D (.lst (nY qs)),fun b o e=>?_,q D qs hD2 pm (aa5 ok hrk hl pw)⟩;by_cases c:b=D
  ·subst c;rw[q9] at e ⊢;exact e
  ·rw[qd c] at e ⊢;rw[qd (fun z=>by subst z;rw[xz hp] at e;cases e),qd (fun z=>by subst z;rw[hkk] at e;cases e)];exact e
def abe:wv:=(qp (zr (fE "abcdefghijklmnopqrstuvwxyz") (qf 2))
 (qp (zr (zn wz (jk 1) (zn w9 (qa 0) (jk 8))) (qf 3))
 (qp (zr (zn w9 (zn aw (qa 0) (jk 8)) (qa 3)) (qf 4))
 (qp (zr (yBS wP (fE "") (qe (mY 1 (fM (kj (jk 8))) (qf 7) md (zn ax (qa 2) (zn w9 (zn wz (zn aw (qa 0) (jk 64)) (zn ac3 (jk 3) (qa 7))) (jk 26)))) qr)) (qf 5))
 (qp (xc (fJ (zn w9 (zn aw (qa 0) (jk 64)) (jk 3)) (jk 1)) (jr (ySl ag4 (qa 5) jJ (oA (zn wz (jk 1) (zn w9 (zn wz (qa 1) (qa 0)) (jk 3)))))) js)
 (qp (zr (zn ax (qa 2) (zn w9 (zn wz (zn wz (zn aw (qa 0) (jk 64)) (zn ac3 (jk 3) (qa 4))) (qa 1)) (jk 26))) (qf 6))
 (jr (zn wz (zn wz (ySl ag4 (qa 5) jJ (oA (qa 4))) (qa 6)) (ySl ag4 (qa 5) (oA (zn wz (qa 4) (jk 1))) (oA (qa 3)))))))))))
def dU(i:Int):Nat:=97+(i % 26).toNat
theorem vO(i:Int):g9 ("abcdefghijklmnopqrstuvwxyz" : Str).cps.toList (i % 26)=some (dU i):=by
 obtain⟨n,hn⟩:∃n:Nat,i % 26=n:=⟨(i % 26).toNat,by lia⟩;have h:n<26:=by lia
 unfold dU;rw[hn];have key:∀n,n<26->("abcdefghijklmnopqrstuvwxyz" : Str).cps.toList[n]?=some (97+n):=by decide +kernel
 exact k7 (key n h)
theorem vK(i:Int):97≤dU i/\dU i≤122:=by unfold dU;lia
def dH(s:Int):List Nat:=(List.range 8).map fun k:Nat=>dU (s / 64+3*(k:Int))
theorem mC(s:Int):(dH s).length=8:=by unfold dH;simp
theorem kY(s:Int):∀c∈dH s,97≤c/\c≤122:=fun c hc=>by obtain⟨k,_,rfl⟩:=Bp.mp hc;exact vK _
def mf(s:Int):Nat:=(s / 8 % (1+s % 8)).toNat
def szN(s:Int):Nat:=(1+s % 8).toNat
theorem agz(s:Int):mf s<szN s/\szN s≤8/\s / 8 % (1+s % 8)=(mf s:Int)/\1+s % 8=(szN s:Int):=by
 have h0:0<1+s % 8:=by lia
 have h1:0≤s / 8 % (1+s % 8):=Dv _ (by lia);have h2:s / 8 % (1+s % 8)<1+s % 8:=DF _ h0;unfold mf szN;lia
def a7(s w:Int):List Nat:=
 if s / 64 % 3=1 then(dH s).take (1+(w+s) % 3).toNat
 else((dH s).take (mf s)++[dU (s / 64+3*(mf s:Int)+w)])++((dH s).drop (mf s+1)).take (szN s - (mf s+1))
theorem rJ(s w:Int):dr (mkS (a7 s w)):=by
 have hl:(mkS (a7 s w)).length=(a7 s w).length:=by rw[<-Txs.len_list];show(a7 s w).toArray.toList.length=_;simp
 have hc:(mkS (a7 s w)).cps.toList=a7 s w:=by show(a7 s w).toArray.toList=_;simp
 have hb:=mC s;obtain⟨p1,p2,_,_⟩:=agz s;refine⟨?_,?_,?_⟩
 ·rw[hl];unfold a7;split
  ·rw[AK];omega
  ·rw[Ad,Ad];simp;simp +arith only
 ·rw[hl];unfold a7;split
  ·rw[AK];omega
  ·rw[Ad,Ad,AK,AK,Bw];simp;lia
 ·rw[hc];intro c h;unfold a7 at h;split at h
  ·exact kY s c (BE h)
  ·rcases Ak.mp h with h | h
   ·rcases Ak.mp h with h | h
    ·exact kY s c (BE h)
    ·rw[Aw.mp h];exact vK _
   ·exact kY s c (CD (BE h))
def kI:jw:=fun ys L Q=>∃s w:Int,ys=[.int s,.int w]/\Q (.str (mkS (a7 s w))) L
theorem yG(h:m≤n)(h2:n≤x.length):(Txt.slice x (some (m:Int)) (some (n:Int))).cps.toList=(x.cps.toList.drop m).take (n - m):=by have e:=oH x (some (m:Int)) (some (n:Int));rw[HT.sIx_nat,HT.sIx_nat,BW h2,BW (AS h h2)] at e;exact e
theorem oV(h:n≤x.length):(Txt.slice x none (some (n:Int))).cps.toList=x.cps.toList.take n:=by have e:=oH x none (some (n:Int));rw[HT.sIx_nat,HT.sIx_none,El,Nat.sub_zero,BW h] at e;exact e
theorem aac:∀ys L Q,kI ys L Q->xx abe 7 ys L Q:=by
 rintro ys L Q ⟨s,w,rfl,q⟩;have hsz:0<1+s % 8:=by lia
 refine⟨(by decide:(0:Int)<8),⟨by decide,by decide⟩,hsz,⟨by decide,by decide⟩,?_⟩;show wC (ag 0 8) _ _ _ _ _ _ _ _;refine oY (m:=8) (fun i zs=>zs=((List.range i).map fun k:Nat=>Y.str ⟨#[dU (s / 64+3*(k:Int))]⟩)) (by decide) rfl ?_ ?_
 ·rintro i _ hi rfl;have hat:=vO (s / 64+3*(0+(i:Int)));refine⟨⟨by decide,by decide⟩,.inl ⟨by decide,by decide⟩,(by decide:(0:Int)<26),by decide +kernel,?_⟩;walk_at "w";rw[hat];refine⟨_,ED _,rfl,?_⟩;rw[Ei,AF,show(0:Int)+(i:Int)=(i:Int) by simp +arith only];rfl
 ·rintro _ rfl p hp;have e0:((List.range 8).map fun k:Nat=>Y.str ⟨#[dU (s / 64+3*(k:Int))]⟩)=((dH s).map fun c=>(⟨#[c]⟩:Str)).map Y.str:=by unfold dH;rw[BC,BC];rfl
  rw[e0];refine qk q9 ⟨(dH s).map fun c=>(⟨#[c]⟩:Str),rfl,?_,?_⟩
  ·have e1:∀cs:List Nat,((cs.map fun c=>(⟨#[c]⟩:Str)).map (·.length)).sum=cs.length:=fun cs=>by induction cs with|nil=>rfl|cons c r ih=>rw[Az,Az,Dp,ih,AG];show 1+r.length=_;exact Nat.add_comm _ _
   rw[e1,mC];show 8+_*0≤_;rw[Nat.mul_zero];decide
  ·have hb:=abl (dH s);have hbl:(Txt.join "" ((dH s).map fun c=>(⟨#[c]⟩:Str))).length=8:=by rw[<-Txs.len_list,hb,mC]
   generalize Txt.join "" ((dH s).map fun c=>(⟨#[c]⟩:Str))=base at hbl hb;obtain⟨p1,p2,hn,hk⟩:=agz s;refine⟨⟨by decide,by decide⟩,(by decide:(0:Int)<3),?_⟩;refine j8 (fun c=>?_) fun c=>?_
   ·have e:1+(w+s) % 3=((1+(w+s) % 3).toNat:Int):=by lia
    refine⟨(by decide:(0:Int)<3),dS (by lia),iy (By hp) ?_⟩;have es:=oV (x:=base) (n:=(1+(w+s) % 3).toNat) (by lia);have eq:Txt.slice base none (some (1+(w+s) % 3))=mkS (a7 s w):=by rw[e];refine(vI _).symm.trans ?_;rw[es,hb];unfold a7;rw[AD c]
    rw[<-eq] at q;exact q
   ·have hat:=vO (s / 64+3*(s / 8 % (1+s % 8))+w);refine⟨⟨by decide,by decide⟩,.inl ⟨by decide,by decide⟩,(by decide:(0:Int)<26),by decide +kernel,?_⟩;walk_at "w";rw[hat];have s1:=oV (x:=base) (n:=mf s) (by lia);have s2:=yG (x:=base) (m:=mf s+1) (n:=szN s) (by assumption) (by lia);have l1:(Txt.slice base none (some (mf s:Int))).length=mf s:=by rw[<-Txs.len_list,s1,AK,Txs.len_list];lia
    have l2:(Txt.slice base (some ((mf s+1:Nat):Int)) (some (szN s:Int))).length≤8:=by rw[<-Txs.len_list,s2,AK];lia
    refine⟨dS (by lia),?_⟩;refine⟨dS (by rw[hn,l1];show mf s+1≤1000;lia),?_⟩;refine⟨dS (by lia),?_⟩;have e1:((mf s:Int)+1)=((mf s+1:Nat):Int):=by rfl
    have l3:(Txt.slice base none (some (mf s:Int))++(⟨#[dU (s / 64+3*(s / 8 % (1+s % 8))+w)]⟩:Str)).length=mf s+1:=by rw[PySem.Str.length_append,l1];rfl
    refine⟨dS ?_,iy (By hp) ?_⟩
    ·rw[hn] at l3 ⊢;rw[l3,e1,hk];lia
    ·have eq:(Txt.slice base none (some (mf s:Int))++(⟨#[dU (s / 64+3*(mf s:Int)+w)]⟩:Str))++Txt.slice base (some ((mf s+1:Nat):Int)) (some (szN s:Int))=mkS (a7 s w):=by
      refine(vI _).symm.trans ?_;have ca:∀a b:Str,(a++b).cps.toList=a.cps.toList++b.cps.toList:=fun a b=>by show(a.cps++b.cps).toList=_;simp
      rw[ca,ca,s1,s2,hb];unfold a7;rw[Ay c]
     rw[hn,e1,hk,eq];exact q
theorem agc(t t':Bool)(n n':Str):Da.eq (gn (.leaf t n)) (gn (.leaf t' n'))=(decide (t=t')&&decide (n=n')):=by
 by_cases h:n=n'
 ·subst h;cases t<;>cases t'<;>simp[gn,Da.eq,Da.eqs,gj,kL]<;>decide +kernel
 ·cases t<;>cases t'<;>simp[gn,Da.eq,Da.eqs,gj,kL,h]<;>decide +kernel
theorem gh{α β:Type}(f:α->β):∀(l:List α) (n:Nat),(l.map f).eraseIdx n=(l.eraseIdx n).map f
 |[],n=>by simp
 |_::_,0=>rfl
 |x::r,n+1=>by rw[Az,Cg,Cg,Az,gh f r n]
theorem aM(a:jl)(b:Y)(r:List (jl×Y))(k:jl):aX ((a,b)::r) k=if a=k then some b else aX r k:=by
 unfold aX;rw[BK];by_cases h:a=k
 ·rw[AD h,show decide ((a,b).1=k)=true from AC h];rfl
 ·rw[Ay h,show decide ((a,b).1=k)=false from Ax h]
theorem sH(k k':jl)(y:Y):∀kvs:List (jl×Y),aX (kvs.map fun kv=>if kv.1=k then(kv.1,y) else kv) k'=if k'=k then(aX kvs k').map (fun _=>y) else aX kvs k'
 |[]=>by rw[C3];split<;>rfl
 |(a,b)::r=>by
  have ih:=sH k k' y r;rw[Az,aM];by_cases h:a=k
  ·rw[AD (show(a,b).1=k from h),aM,ih];by_cases h2:k'=k
   ·rw[AD h2,AD h2,AD (h.trans h2.symm),AD (h.trans h2.symm)];rfl
   ·rw[Ay h2,Ay h2,Ay (fun z=>h2 (z.symm.trans h)),Ay (fun z=>h2 (z.symm.trans h))]
  ·rw[Ay (show ¬(a,b).1=k from h),aM,ih];by_cases h2:k'=k
   ·rw[AD h2,AD h2,Ay (fun z=>h (z.trans h2)),Ay (fun z=>h (z.trans h2))]
   ·rw[Ay h2,Ay h2]
theorem rT(k k':jl)(y:Y):∀kvs:List (jl×Y),aX (kvs++[(k,y)]) k'=(aX kvs k').or (if k=k' then some y else none)
 |[]=>by rw[CV,aM];have:aX [] k'=none:=rfl;rw[this];split<;>rfl
 |(a,b)::r=>by rw[List.cons_append,aM,aM,rT k k' y r];split<;>rfl
theorem rD(k:jl):∀kvs:List (jl×Y),(kvs.any fun kv=>decide (kv.1=k))=(aX kvs k).isSome
 |[]=>rfl
 |(a,b)::r=>by
  rw[Ca,aM,rD k r];by_cases h:a=k
  ·rw[AD h,show decide ((a,b).1=k)=true from AC h];rfl
  ·rw[Ay h,show decide ((a,b).1=k)=false from Ax h];rfl
theorem ab4(kvs:List (jl×Y))(k k':jl)(y:Y):aX (m7 kvs k y) k'=if k'=k then some y else aX kvs k':=by
 unfold m7;rw[rD];cases e:aX kvs k with
 |some v=>
  rw[AD (show(some v).isSome=true from rfl),sH];by_cases h:k'=k
  ·rw[AD h,AD h,h,e];rfl
  ·rw[Ay h,Ay h]
 |none=>
  rw[Ay (by simp),rT];by_cases h:k'=k
  ·rw[AD h,h,e,AD rfl];rfl
  ·rw[Ay h,Ay (fun z=>h z.symm)];cases aX kvs k'<;>rfl
theorem ab6(kvs:List (jl×Y))(k:jl)(y:Y):(m7 kvs k y).length≤kvs.length+1:=by
 unfold m7;split
 ·rw[Ae];omega
 ·rw[Ad];simp
def m6(p0:jw)(p1:jw):wv:=(qp (zr ago (qf 5))
 (qp (zr (ve qr) (qf 6))
 (qp (eO (xt (qt p0 (k8 (qa 0) (qa 3)))) (qf 7) (da (xc (eL (yB (qa 4)) (fJ (zn w9 (qt p1 (qe (qa 3) (k8 (qa 7) (jk 40692)))) (jk 3)) (jk 0))) (j9 (aW zu (qa 6) (kj (yC .non)))) js)
 (qp (ah7 (qa 5) (qa 7) (bM 6))
 (qp (zr (zn ax (qa 0) (qa 7)) (qf 8))
 (da (xc (eL (yB (cX true (qa 8))) (fJ (bM 8) (jk 3))) (zr (vk (qe (xu 8 0) (qe (gF (qa 5) (xu 8 1)) (qe (gF (qa 5) (xu 8 2)) qr)))) (qf 8)) js)
 (j9 (aW zu (qa 6) (kj (qa 8)))))))))
 (qp (sW 7 (zr (bJ aQ (qe (mY 2 (xt (qa 1)) (wo 2 (zg (qf 9) (zg (qf 10) vz))) md (vk (qe (bJ rY (qe (gF (qa 5) (qa 9)) (qe (gF (qa 5) (qa 10)) qr))) (qe (bJ sv (qe (gF (qa 5) (qa 9)) (qe (gF (qa 5) (qa 10)) qr))) qr)))) qr)) (qf 1)))
 (qp (sW 7 (zr (bJ aQ (qe (mY 2 (xt (qa 2)) (wo 2 (zg (qf 9) (zg (qf 10) vz))) md (vk (qe (gF (qa 5) (qa 9)) (qe (gF (qa 5) (qa 10)) qr)))) qr)) (qf 2)))
 (jr (vk (qe (zn wz (qa 6) (mY 1 (fM (qe (bJ ab8 (kj (qa 4))) qr)) (qf 9) md (yC .non))) (k8 (qa 1) (qa 2))))))))))
def gq(f:Nat->Nat):Option Kn->Option Kn
 |some (.nd e i j)=>some (.nd e (f i) (f j))
 |k=>k
theorem uf{f g:Nat->Nat}:∀{k:Option Kn},(∀e i j,k=some (.nd e i j)->f i=g i/\f j=g j)->gq f k=gq g k
 |none,_=>rfl
 |some (.lf _ _),_=>rfl
 |some (.nd e i j),h=>by obtain⟨a,b⟩:=h e i j rfl;show some (Kn.nd e (f i) (f j))=some (Kn.nd e (g i) (g j));rw[a,b]
structure qU(ks:List (Option Kn))(ps:List Nat)(f:Nat->Nat)(wd:List (Option Kn)):Prop where
 at_:∀p∈ps,∀k,ks[p]?=some k->wd[f p]?=some (gq f k)
 inj:∀p∈ps,∀q∈ps,f p=f q->p=q
 only:∀x k,wd[x]?=some (some k)->∃p∈ps,x=f p
 ok:m9 wd
theorem qU.nil(ks:List (Option Kn))(f:Nat->Nat):qU ks [] f []:=⟨fun p hp=>(Bd hp).elim,fun p hp=>(Bd hp).elim,fun x k h=>(by simp at h),fun p e i j h=>(by simp at h)⟩
theorem m9.gap(h:m9 wd):m9 (wd++[none]):=by
 intro p e i j hp;by_cases c:p<wd.length
 ·rw[AB c] at hp;exact h p e i j hp
 ·rw[An (by exact vD)] at hp;cases hq:p - wd.length with|zero=>rw[hq] at hp;cases hp|succ m=>rw[hq] at hp;cases hp
theorem qU.gap{ks:List (Option Kn)}{ps:List Nat}{f:Nat->Nat}(h:qU ks ps f wd):qU ks ps f (wd++[none]):=by
 refine⟨fun p hp k hk=>iH (h.at_ p hp k hk),h.inj,fun x k hx=>?_,h.ok.gap⟩;by_cases c:x<wd.length
 ·rw[AB c] at hx;exact h.only x k hx
 ·rw[An (by lia)] at hx;cases hq:x - wd.length with|zero=>rw[hq] at hx;cases hx|succ m=>rw[hq] at hx;cases hx
theorem qU.lt{ks:List (Option Kn)}{ps:List Nat}{f:Nat->Nat}(h:qU ks ps f wd){p:Nat}(hp:p∈ps)(hk:p<ks.length):f p<wd.length:=zo (h.at_ p hp _ (Aj hk))
theorem qU.step{ks:List (Option Kn)}{ps:List Nat}{f:Nat->Nat}(h:qU ks ps f wd)(hb:∀p∈ps,p<ks.length){p:Nat}{k:Option Kn}(hp:p∉ps)(hk:ks[p]?=some k)(hpart:∀x∈ps,∀e i j,ks[x]?=some (some (.nd e i j))->i∈ps/\j∈ps)(hparts:∀e i j,k=some (.nd e i j)->i∈ps/\j∈ps):
 qU ks (ps++[p]) (fun x=>if x=p then wd.length else f x) (wd++[gq f k]):=by
 have old:∀x∈ps,(if x=p then wd.length else f x)=f x:=fun x hx=>Ay fun(c:x=p)=>hp (c▸hx);have ren:∀k',(∀e i j,k'=some (.nd e i j)->i∈ps/\j∈ps)->gq (fun x=>if x=p then wd.length else f x) k'=gq f k':=fun k' hk'=>uf fun e i j z=>by obtain⟨a,b⟩:=hk' e i j z;exact⟨old i a,old j b⟩
 refine⟨fun x hx k' hk'=>?_,fun x hx y hy e=>?_,fun x k' hx=>?_,fun x e i j hx=>?_⟩
 ·rcases Ak.mp hx with hx | hx
  ·show(wd++[gq f k])[if x=p then wd.length else f x]?=_;rw[old x hx,ren k' fun e i j z=>hpart x hx e i j (by rw[hk',z])];exact iH (h.at_ x hx k' hk')
  ·have hx:=Aw.mp hx;subst hx;rw[hk] at hk';cases hk';show(wd++[gq f k])[if x=x then wd.length else f x]?=_;rw[AD rfl,ren k hparts];exact cg wd _ []
 ·have e:(if x=p then wd.length else f x)=if y=p then wd.length else f y:=e
  rcases Ak.mp hx with hx | hx<;>rcases Ak.mp hy with hy | hy
  ·rw[old x hx,old y hy] at e;exact h.inj x hx y hy e
  ·cases Aw.mp hy;rw[old x hx,AD rfl] at e;have:=h.lt hx (hb x hx);lia
  ·cases Aw.mp hx;rw[old y hy,AD rfl] at e;have:=h.lt hy (hb y hy);lia
  ·rw[Aw.mp hx,Aw.mp hy]
 ·by_cases c:x<wd.length
  ·rw[AB c] at hx;obtain⟨q,hq,e⟩:=h.only x k' hx;exact⟨q,Ar _ hq,by rw[e];exact(old q hq).symm⟩
  ·refine⟨p,Af _ (Aw.mpr rfl),?_⟩;have:=zo hx;rw[Ad] at this;have:x<wd.length+1:=this;show x=if p=p then wd.length else f p
   rw[AD rfl];lia
 ·by_cases c:x<wd.length
  ·rw[AB c] at hx;exact h.ok x e i j hx
  ·have:=zo hx;rw[Ad] at this;have:x<wd.length+1:=this;have:x=wd.length:=by lia
   subst this;rw[An (Ao _),CK] at hx;have hx:gq f k=some (.nd e i j):=Be hx;cases k with
   |none=>cases hx
   |some k=>
    cases k with
    |lf=>cases hx
    |nd e' i' j'=>
     obtain⟨a,b⟩:=hparts e' i' j' rfl;cases hx;exact⟨h.lt a (hb _ a),h.lt b (hb _ b)⟩
theorem kB{ks:List (Option Kn)}(ok:m9 ks)(pm:qs.Perm (List.range ks.length))(pf:cj ks qs){p:Nat}(hp:qs[n]?=some p){e:Bool}(h:ks[p]?=some (some (.nd e i j))):i∈qs.take n/\j∈qs.take n:=by
 obtain⟨l1,l2⟩:=ok p e i j h;have hl:=zo h;have hn:=zo hp;have ind:∀x,x<ks.length->x≠p->(∀y∈qs.drop (n+1),y≠x)->x∈qs.take n:=fun x hx ne hno=>by
  have hm:x∈qs:=pm.mem_iff.mpr (AV.mpr hx);have e2:qs=qs.take n++p::qs.drop (n+1):=by rw[Aj hn] at hp;rw[<-Be hp,C9,Bj]
  rw[e2] at hm;rcases Ak.mp hm with hm | hm
  ·exact hm
  ·rcases Av.mp hm with hm | hm
   ·exact absurd hm ne
   ·exact absurd rfl (hno x hm)
 have pw:∀y∈qs.drop (n+1),y≠i/\y≠j:=fun y hy=>by
  have e2:qs=qs.take n++p::qs.drop (n+1):=by rw[Aj hn] at hp;rw[<-Be hp,C9,Bj]
  unfold cj at pf;rw[e2] at pf;have:=(AQ.mp pf).2.1;exact(List.pairwise_cons.mp this).1 y hy e i j h
 exact⟨ind i (by exact iu) (by exact an2) fun y hy=>(pw y hy).1,ind j (by exact iu) (by exact an2) fun y hy=>(pw y hy).2⟩
def ahu:wv:=(qp (zr (aW cw (qa 1) (qe (zn w9 (qa 3) (bM 1)) qr)) (qf 4))
 (qp (zr (aW cw (qa 1) (qe (zn w9 (qa 2) (bM 1)) qr)) (qf 5))
 (qp (zr (zn ax (xu 4 1) (zn w9 (zn aw (qa 3) (jk 64)) (bJ jC (kj (xu 4 1))))) (qf 6))
 (qp (zr (zn ax (xu 5 1) (zn w9 (zn aw (qa 2) (jk 64)) (bJ jC (kj (xu 5 1))))) (qf 7))
 (qp (j9 (aW zu (qa 0) (qe (vk (qe (fE "both") (k8 (qa 6) (qa 7)))) qr)))
 (qp (zr (mY 1 (xt (zn wz (xu 4 1) (xu 5 1))) (qf 9) (yB (zn (lh true) (qa 9) (rdT (qa 6) (qa 7)))) (qa 9)) (qf 8))
 (j9 (aW zu (qa 1) (qe (ve (qe (vk (qe (fE "both") (qe (zn hG (bM 0) (jk 1)) (k8 (xu 4 0) (xu 5 0))))) (qe (zn wz (qa 8) (ve (qe (zn hG (bM 0) (jk 1)) qr))) qr))) qr)))))))))
def agd:wv:=(qp (xc (yB (zn zT (bJ jC (kj (xu 1 1))) (jk 2))) abi js)
 (qp (zr (aW cw (xu 1 1) (qe (zn w9 (qa 3) (bJ jC (kj (xu 1 1)))) qr)) (qf 4))
 (qp (zr (aW cw (xu 1 1) (qe (zn w9 (qa 2) (bJ jC (kj (xu 1 1)))) qr)) (qf 5))
 (qp (j9 (aW zu (qa 0) (qe (vk (qe (fE "either") (k8 (qa 4) (qa 5)))) qr)))
 (qp (agt (qa 1) (jk 0) (vk (qe (fE "either") (qe (zn hG (bM 0) (jk 1)) (kj (xu 1 0))))))
 (j9 (aW zu (xu 1 1) (qe (zn hG (bM 0) (jk 1)) qr))))))))
theorem cH{ks:List Kn}:∀{w v:Wd} {p:Nat},cZ ks p w->cZ ks p v->w=v
 |.leaf t n,.leaf t' n',p,h,k=>by
  have h:(ja ks)[p]?=some (.tup [.str (kL t),.str n]):=h;have k:(ja ks)[p]?=some (.tup [.str (kL t'),.str n']):=k;rw[h] at k;injection k with k;injection k with k;injection k with k1 k2;injection k2 with k2 _
  injection k1 with k1;injection k2 with k2
  have:t=t':=by cases t<;>cases t'<;>first | rfl | (exfalso;revert k1;decide +kernel)
  rw[this,k2]
 |.leaf t n,.node e l r,p,h,k=>by obtain⟨i,j,k,_⟩:=k;have h:(ja ks)[p]?=some (.tup [.str (kL t),.str n]):=h;rw[h] at k;injection k with k;injection k with k;injection k with _ k;injection k with _ k;cases k
 |.node e l r,.leaf t n,p,h,k=>by obtain⟨i,j,h,_⟩:=h;have k:(ja ks)[p]?=some (.tup [.str (kL t),.str n]):=k;rw[h] at k;injection k with k;injection k with k;injection k with _ k;injection k with _ k;cases k
 |.node e l r,.node e' l' r',p,⟨i,j,h,hl,hr⟩,⟨i',j',k,kl,kr⟩=>by
  rw[h] at k;injection k with k;injection k with k;injection k with k1 k2;injection k2 with k2 k3;injection k3 with k3 _
  injection k1 with k1;injection k2 with k2;injection k3 with k3
  have e1:i=i':=by lia
  have e2:j=j':=by lia
  subst e1 e2;have:e=e':=by cases e<;>cases e'<;>first | rfl | (exfalso;revert k1;decide +kernel)
  rw[this,cH (ks:=ks) hl kl,cH (ks:=ks) hr kr]
theorem lI{ks:List Kn}(hk:a9 ks):∀(m p:Nat),p<m->p<ks.length->∃w,cZ ks p w/\w.depth≤p+1/\w.ok
 |0,p,h,_=>absurd h (by lia)
 |m+1,p,h,hp=>by
  obtain⟨k,ek⟩:∃k,ks[p]?=some k:=⟨_,Aj hp⟩;have ho:=hk p k ek;cases k with
  |lf t n=>exact⟨.leaf t n,cZ.leaf ek,by show 1≤p+1;exact CH _,ho⟩
  |nd e i j=>
   have ho:i<p/\j<p:=ho;obtain⟨l,a1,a2,a3⟩:=lI hk m i (by lia) (by omega);obtain⟨r,b1,b2,b3⟩:=lI hk m j (by lia) (by lia);exact⟨.node e l r,EU ek a1 b1,by show max l.depth r.depth+1≤p+1;lia,a3,b3⟩
def TV(v:Str->Bool):Wd->Bool
 |.leaf t n=>if t=true then !v n else v n
 |.node e l r=>if e=true then TV v l||TV v r else TV v l&&TV v r
theorem jK(v:Str->Bool):∀w:Wd,TV v w.turn=!TV v w
 |.leaf t n=>by cases t<;>simp[Wd.turn,TV]
 |.node e l r=>by cases e<;>simp[Wd.turn,TV,jK v l,jK v r]
theorem SR.lt{E:List Nat}(h:SR ks R E):∀x∈qz R,x<ks.length:=by
 have lt:∀{p:Nat} {k:Kn},ks[p]?=some k->p<ks.length:=fun h=>(AZ.mp h).1
 induction h with
 |link _ h2 h3 _ _=>intro x hx;simp[qz] at hx;rcases hx with rfl | rfl;exact lt h2;exact lt h3
 |ei h1 _ _ _ _ _ _ ih=>intro x hx;rcases Av.mp hx with rfl | hx;exact lt h1;exact ih x hx
 |bo h1 _ _ _ _ _ _ ih1 ih2=>
  intro x hx;rcases Av.mp hx with rfl | hx
  ·exact lt h1
  ·rcases Ak.mp hx with hx | hx
   ·exact ih1 x hx
   ·exact ih2 x hx
 |cu _ _ _ _ _ _ _ _ ih1 ih2=>
  intro x hx;rcases Ak.mp hx with hx | hx
  ·exact ih1 x hx
  ·exact ih2 x hx
theorem SR.tv(hk:a9 ks)(v:Str->Bool){E:List Nat}(h:SR ks R E):∃x∈E,∃w,cZ ks x w/\TV v w=true:=by
 have ex:∀{R':Ru} {E':List Nat},SR ks R' E'->∀x∈E',∃w,cZ ks x w:=fun s x hx=>by obtain⟨w,hw,_⟩:=lI hk (x+1) x (by exact Bz _) (s.lt x (s.sub x hx));exact⟨w,hw⟩
 induction h with
 |@link p q t n E _ h2 h3 h4 _=>
  cases ht:TV v (.leaf t n) with
  |true=>exact⟨p,(h4 p).mpr (.inl rfl),_,cZ.leaf h2,ht⟩
  |false=>
   refine⟨q,(h4 q).mpr (.inr rfl),_,cZ.leaf h3,?_⟩;have:=jK v (.leaf t n);rw[ht] at this;exact this
 |@ei r i j A EA E h1 hA hi hj _ h6 _ ih=>
  obtain⟨x,hx,w,hw,tv⟩:=ih;obtain⟨wi,wi'⟩:=ex hA i hi;obtain⟨wj,wj'⟩:=ex hA j hj;by_cases c1:x=i
  ·subst c1;rw[cH hw wi'] at tv;exact⟨r,(h6 r).mpr (.inr rfl),_,EU h1 wi' wj',by simp[TV,tv]⟩
  ·by_cases c2:x=j
   ·subst c2;rw[cH hw wj'] at tv;exact⟨r,(h6 r).mpr (.inr rfl),_,EU h1 wi' wj',by simp[TV,tv]⟩
   ·exact⟨x,(h6 x).mpr (.inl ⟨hx,c1,c2⟩),w,hw,tv⟩
 |@bo r i j A B EA EB E h1 hA hB hi hj h6 _ ih1 ih2=>
  obtain⟨x,hx,w,hw,tv⟩:=ih1;obtain⟨y,hy,u,hu,tu⟩:=ih2;by_cases c1:x=i
  ·by_cases c2:y=j
   ·subst c1 c2;exact⟨r,(h6 r).mpr (.inr (.inr rfl)),_,EU h1 hw hu,by simp[TV,tv,tu]⟩
   ·exact⟨y,(h6 y).mpr (.inr (.inl ⟨hy,c2⟩)),u,hu,tu⟩
  ·exact⟨x,(h6 x).mpr (.inl ⟨hx,c1⟩),w,hw,tv⟩
 |@cu p q A B EA EB E w0 hA hB hp hq hwp hwq h7 _ ih1 ih2=>
  obtain⟨x,hx,w,hw,tv⟩:=ih1;obtain⟨y,hy,u,hu,tu⟩:=ih2;by_cases c1:x=p
  ·by_cases c2:y=q
   ·subst c1 c2;rw[cH hw hwp] at tv;rw[cH hu hwq,jK,tv] at tu;cases tu
   ·exact⟨y,(h7 y).mpr (.inr ⟨hy,c2⟩),u,hu,tu⟩
  ·exact⟨x,(h7 x).mpr (.inl ⟨hx,c1⟩),w,hw,tv⟩
theorem SR.ends(hk:a9 ks){E:List Nat}(h:SR ks R E):0<E.length:=by obtain⟨x,hx,_⟩:=h.tv hk fun _=>true;exact Ee hx
structure Tr where
 a:Addr
 b:Addr
 R:Ru
 E:List Nat
abbrev za(E:List Nat):List Y:=E.map fun n:Nat=>Y.int (n:Int)
def Tr.ads(t:Tr):List Addr:=[t.a,t.b]
structure bU(L0 L:qm)(ka fa:Addr)(ks:List Kn)(fo:List Tr):Prop where
 hk:L ka=some (.lst (ja ks))
 ht:∀t∈fo,L t.a=some (.lst [ze t.R,.ref t.b])/\L t.b=some (.lst (za t.E))
 sr:∀t∈fo,SR ks t.R t.E
 nd:(fo.flatMap fun t=>qz t.R).Nodup
 tm:∀x,x∈(fo.flatMap fun t=>qz t.R)↔x<ks.length
 ad:(ka::fa::fo.flatMap Tr.ads).Nodup
 ok:a9 ks
 sub:qj L0 L
 fr:∀x∈ka::fa::fo.flatMap Tr.ads,L0 x=none
def zf(fo:List Tr):List Y:=fo.map fun t=>Y.ref t.a
structure m4(L0 L:qm)(ka fa:Addr)(ks:List Kn)(fo:List Tr):Prop where
 b:bU L0 L ka fa ks fo
 hf:L fa=some (.lst (zf fo))
theorem bU.perm{fo fo':List Tr}(h:bU L0 L ka fa ks fo)(p:fo.Perm fo'):bU L0 L ka fa ks fo':=by have p1:(fo.flatMap fun t=>qz t.R).Perm (fo'.flatMap fun t=>qz t.R):=p.flatMap_right _;have p2:(fo.flatMap Tr.ads).Perm (fo'.flatMap Tr.ads):=p.flatMap_right _;refine⟨h.hk,fun t ht=>h.ht t (p.mem_iff.mpr ht),fun t ht=>h.sr t (p.mem_iff.mpr ht),p1.nodup_iff.mp h.nd,fun x=>by rw[<-p1.mem_iff];exact h.tm x,((p2.cons _).cons _).nodup_iff.mp h.ad,h.ok,h.sub,fun x hx=>h.fr x (((p2.cons _).cons _).mem_iff.mpr hx)⟩
end L3
variable {fo rest:List L3.Tr}
namespace L3
open PySem L2 Words
theorem jy{α:Type}:∀{l:List α} {j:Nat} {x:α},l[j]?=some x->l.Perm (x::l.eraseIdx j)
 |[],_,_,h=>by simp at h
 |y::r,0,x,h=>by
  have:y=x:=by simpa using h
  subst this;exact .refl _
 |y::r,j+1,x,h=>by have ih:=jy (l:=r) (j:=j) (x:=x) (by simpa using h);rw[Cg];exact(ih.cons y).trans (.swap _ _ _)
theorem mH(fo:List Tr)(j:Nat):(zf fo).eraseIdx j=zf (fo.eraseIdx j):=gh _ fo j
theorem bU.step{ms:List Kn}{old:List Tr}{t':Tr}(h:bU L0 L ka fa ks (old++rest))(hk:L' ka=some (.lst (ja (ks++ms))))(ht:L' t'.a=some (.lst [ze t'.R,.ref t'.b])/\L' t'.b=some (.lst (za t'.E)))
 (keep:∀t∈rest,L' t.a=L t.a/\L' t.b=L t.b) (sub:qj L0 L') (ad:(ka::fa::(rest++[t']).flatMap Tr.ads).Nodup) (fr:∀x∈t'.ads,L0 x=none) (ok:a9 (ks++ms)) (sr:SR (ks++ms) t'.R t'.E)
 (tp:(qz t'.R).Perm (List.range' ks.length ms.length++old.flatMap fun t=>qz t.R)):bU L0 L' ka fa (ks++ms) (rest++[t']):=by
 have hnd:=h.nd;have htm:=h.tm;rw[AM] at hnd;have e1:((rest++[t']).flatMap fun t=>qz t.R)=(rest.flatMap fun t=>qz t.R)++qz t'.R:=by rw[AM];simp
 have mem:∀x,x∈qz t'.R↔(ks.length≤x/\x<ks.length+ms.length)\/x∈(old.flatMap fun t=>qz t.R):=fun x=>by rw[tp.mem_iff,Ak,Dc]
 refine⟨hk,fun t h'=>?_,fun t h'=>?_,?_,fun x=>?_,ad,ok,sub,fun x hx=>?_⟩
 ·rcases Ak.mp h' with h' | h'
  ·obtain⟨k1,k2⟩:=keep t h';rw[k1,k2];exact h.ht t (Af _ h')
  ·rw[Aw.mp h'];exact ht
 ·rcases Ak.mp h' with h' | h'
  ·exact(h.sr t (Af _ h')).more _
  ·rw[Aw.mp h'];exact sr
 ·rw[e1,Aq];rw[Aq] at hnd;refine⟨hnd.2.1,tp.nodup_iff.mpr ?_,fun x hx y hy e=>?_⟩
  ·rw[Aq];refine⟨DK,hnd.1,fun x hx y hy e=>?_⟩;have hx:=Dc.mp hx;have hy:=(htm y).mp (by rw[AM];exact Ar _ hy);lia
  ·subst e;rcases (mem x).mp hy with hy | hy
   ·have:=(htm x).mp (by rw[AM];exact Af _ hx);lia
   ·exact hnd.2.2 x hy x hx rfl
 ·rw[e1,Ak,mem,Ad];have h1:=htm x;rw[AM,Ak] at h1;constructor
  ·rintro(h2 | h2 | h2)
   ·have:=h1.mp (.inr h2);exact ajq
   ·lia
   ·have:=h1.mp (.inl h2);lia
  ·intro h2;by_cases c:x<ks.length
   ·rcases h1.mpr c with h3 | h3
    ·exact .inr (.inr h3)
    ·exact .inl h3
   ·exact .inr (.inl (by lia))
 ·rcases Av.mp hx with rfl | hx
  ·exact h.fr _ (As ..)
  ·rcases Av.mp hx with rfl | hx
   ·exact h.fr _ (Ah _ (As ..))
   ·rw[AM] at hx;rcases Ak.mp hx with hx | hx
    ·exact h.fr _ (Ah _ (Ah _ (by rw[AM];exact Af _ hx)))
    ·exact fr x (by simpa using hx)
def oj:jw:=fun ys L Q=>∃L0 ka fa ks fo,∃one two:Int,ys=[.ref ka,.ref fa,.int one,.int two]/\m4 L0 L ka fa ks fo/\2≤fo.length/\fo.length≤200/\ks.length≤200/\
 ∀L' ks' fo',m4 L0 L' ka fa ks' fo'->ks'.length=ks.length+1->fo'.length+1=fo.length->Q .non L'
theorem hU{l:List α}(h:0<l.length)(k:Int):∃(j:Nat) (x:α),k % (l.length:Int)=(j:Int)/\j<l.length/\l[j]?=some x:=by have h0:0≤k % (l.length:Int):=Dv _ (by lia);have h1:k % (l.length:Int)<(l.length:Int):=DF _ (by omega);refine⟨(k % (l.length:Int)).toNat,l[(k % (l.length:Int)).toNat]'(by lia),by lia,by lia,Aj (by lia)⟩
theorem bQ:∀(n:Nat) (l:List Nat),l.Nodup->(∀x∈l,x<n)->l.length≤n
 |0,l,_,h=>by cases l with|nil=>exact Ao _|cons x r=>exact absurd (h x (As ..)) (by lia)
 |n+1,l,nd,h=>by
  by_cases c:n∈l
  ·have p:=List.perm_cons_erase c;have ih:=bQ n (l.erase n) (nd.erase n) fun x hx=>by have:=(List.Nodup.mem_erase_iff nd).mp hx;have:=h x this.2;lia
   rw[p.length_eq,AG];exact u0
  ·exact C6 (bQ n l nd fun x hx=>by have:=h x hx;have:x≠n:=fun e=>c (e▸hx);lia)
theorem bA(h:bU L0 L ka fa ks fo){t:Tr}(ht:t∈fo):0<t.E.length/\t.E.length≤ks.length:=by have s:=h.sr t ht;exact⟨s.ends h.ok,bQ _ _ s.nod fun x hx=>s.lt x (s.sub x hx)⟩
theorem ag0(x l r:Nat):tV (dm (.int (x:Int))) (([.int (l:Int),.int (r:Int)]:List Y).map dm)=decide (x=l\/x=r):=by
 show(gj (.int (l:Int)) (.int (x:Int))||(gj (.int (r:Int)) (.int (x:Int))||false))=_;have e:∀a b:Nat,gj (.int (a:Int)) (.int (b:Int))=decide (b=a):=fun a b=>by
  show decide ((a:Int)=(b:Int))=decide (b=a);by_cases c:b=a
  ·subst c;simp
  ·rw[Ax c];apply Ax;lia
 rw[e,e];by_cases h1:x=l<;>by_cases h2:x=r<;>simp[h1,h2]
theorem jQ{E:List Nat}(h:0<E.length)(k:Int):∃x,x∈E/\g9 (za E) (k % ((za E).length:Int))=some (.int ((x:Nat):Int)):=by obtain⟨j,x,ej,lj,ex⟩:=hU h k;refine⟨x,AH ex,?_⟩;rw[Ae,ej];exact k7 (by rw[Al,ex];rfl)
def xb(E1 E2:List Nat)(l r:Nat):List Nat:=(E1++E2).filter fun x=>!decide (x=l\/x=r)
theorem abu{pp:Addr}{E:List Nat}{l r k:Nat}{Q:YK}(hp:L pp=some (.lst (za E)))(hlen:E.length≤1000)
 (ht:∀y (Q':Bool->qm->Prop),lh true y (.tup [.int (l:Int),.int (r:Int)]) L (fun x L'=>match x with | .bl c=>Q' c L' | _=>False)->tc (bK (τ++List.replicate 1 none) k y) L Q')
 (hv:∀y,u9 (bK (τ++List.replicate 1 none) k y) k=some y)
 (hq:∀p,L p=none->Q (.ref p) (qg L p (.lst (za (E.filter fun x=>!decide (x=l\/x=r)))))):
 qZ L pp fun ys keep L2=>wC ys keep 1 (qf k) tc (qa k) τ L2 Q:=by
 refine x4 hp fun keep kp=>bR (fun j zs=>zs=za ((E.take j).filter fun x=>!decide (x=l\/x=r))) (by rw[Ae];exact oX hlen) (kp L rfl) rfl ?_ ?_
 ·rintro j y _ ey rfl;obtain⟨x,ex,rfl⟩:∃x:Nat,E[j]?=some x/\y=Y.int (x:Int):=by rw[Al] at ey;obtain⟨x,e1,e2⟩:=Ap.mp ey;exact⟨x,e1,e2.symm⟩
  refine ht _ _ ⟨rfl,rfl,?_⟩;rw[ag0];show kh (!decide (x=l\/x=r)) _ _;have et:(E.take (j+1)).filter (fun x=>!decide (x=l\/x=r))=(E.take j).filter (fun x=>!decide (x=l\/x=r))++[x].filter (fun x=>!decide (x=l\/x=r)):=by rw[Bq,ex,BS];rfl
  by_cases c:x=l\/x=r
  ·refine aG (by rw[AC c];rfl) ?_;refine frg ⟨rfl,?_⟩;rw[et,DY (by simp[c]),Cw,AW]
  ·refine wy (by rw[Ax c];rfl) ?_;unfold qa;rw[hv];refine frg ⟨rfl,?_⟩;rw[et,DZ (by simp[c]),Cw];unfold za;rw[AF];rfl
 ·rintro _ rfl p hp';rw[Ae,Bm];exact hq p hp'
theorem uY{k:Int}(hf:L fa=some (.lst (zf fo)))(h:0<fo.length):∃(j:Nat) (t:Tr),fo[j]?=some t/\0≤k % ((zf fo).length:Int)/\k % ((zf fo).length:Int)<((zf fo).length:Int)/\
 (zf fo)[(k % ((zf fo).length:Int)).toNat]?=some (.ref t.a)/\qg L fa (.lst ((zf fo).eraseIdx (k % ((zf fo).length:Int)).toNat)) fa=some (.lst (zf (fo.eraseIdx j))):=by
 obtain⟨j,t,ej,lj,et⟩:=hU h k;have e:(zf fo).length=fo.length:=Ae ..;rw[e,ej];refine⟨j,t,et,by exact AY _,by lia,?_,?_⟩
 ·show(zf fo)[j]?=_;unfold zf;rw[Al,et];rfl
 ·rw[q9];show some (LO.lst ((zf fo).eraseIdx j))=_;rw[mH]
theorem bU.two{t1 t2:Tr}(h:bU L0 L ka fa ks (t1::t2::rest)):∀x,x∈qz t1.R->x∈qz t2.R->False:=by intro x h1 h2;have nd:=h.nd;rw[AU,AU,Aq] at nd;exact nd.2.2 x h1 x (Ar _ h2) rfl
theorem pM{E1 E2:List Nat}{l r:Nat}(hl:l∉E2)(hr:r∉E1)(x:Nat):x∈xb E1 E2 l r↔(x∈E1/\x≠l)\/(x∈E2/\x≠r):=by
 unfold xb;rw[AL,Ak];constructor
 ·rintro⟨h,c⟩;have c:¬(x=l\/x=r):=by simpa using c
  rcases h with h | h
  ·exact .inl ⟨h,fun e=>c (.inl e)⟩
  ·exact .inr ⟨h,fun e=>c (.inr e)⟩
 ·rintro(⟨h,c⟩ | ⟨h,c⟩)
  ·refine⟨.inl h,?_⟩;have:x≠r:=fun e=>hr (e▸h);simp[c,this]
  ·refine⟨.inr h,?_⟩;have:x≠l:=fun e=>hl (e▸h);simp[c,this]
theorem qJ{E1 E2:List Nat}{l r:Nat}(h1:E1.Nodup)(h2:E2.Nodup)(d:∀x,x∈E1->x∈E2->False):(xb E1 E2 l r).Nodup:=by
 unfold xb;have h:(E1++E2).Nodup:=by rw[Aq];exact⟨h1,h2,fun x hx y hy e=>d x hx (e▸hy)⟩
 exact List.Pairwise.filter _ h
theorem af2:∀ys L Q,oj ys L Q->xx ahu 9 ys L Q:=by
 rintro ys L Q ⟨L0,ka,fa,ks,fo,one,two,rfl,F,h2,h200,hk200,q⟩;have big:=bg_;have lenR:∀fo:List Tr,(zf fo).length=fo.length:=fun fo=>Ae ..;obtain⟨j1,t1,at1,a1,a2,a3,hf1⟩:=uY (k:=two) F.hf (by exact fI);have l1:(fo.eraseIdx j1).length+1=fo.length:=by have:=(jy at1).length_eq;rw[AG] at this;lia
 refine qb F.hf (qb F.hf ⟨(by show(0:Int)<((zf fo).length:Int);rw[lenR];lia),qk F.hf ⟨a1,a2,ql a3 ?_⟩⟩);have old1:∀b o,b≠fa->L b=some o->qg L fa (.lst ((zf fo).eraseIdx (two % ((zf fo).length:Int)).toNat)) b=some o:=fun b o nb e=>by rw[qd nb];exact e
 generalize qg L fa (.lst ((zf fo).eraseIdx (two % ((zf fo).length:Int)).toNat))=L1 at hf1 old1;obtain⟨j2,t2,at2,b1,b2,b3,hf2⟩:=uY (k:=one) hf1 (by lia);have l2:((fo.eraseIdx j1).eraseIdx j2).length+1=(fo.eraseIdx j1).length:=by have:=(jy at2).length_eq;rw[AG] at this;lia
 refine qb hf1 (qb hf1 ⟨(by show(0:Int)<((zf (fo.eraseIdx j1)).length:Int);rw[lenR];lia),qk hf1 ⟨b1,b2,ql b3 ?_⟩⟩);have old2:∀b o,b≠fa->L b=some o->qg L1 fa (.lst ((zf (fo.eraseIdx j1)).eraseIdx (one % ((zf (fo.eraseIdx j1)).length:Int)).toNat)) b=some o:=fun b o nb e=>by rw[qd nb];exact old1 b o nb e
 generalize qg L1 fa (.lst ((zf (fo.eraseIdx j1)).eraseIdx (one % ((zf (fo.eraseIdx j1)).length:Int)).toNat))=L2 at hf2 old2;have B:bU L0 L ka fa ks (t1::t2::(fo.eraseIdx j1).eraseIdx j2):=F.b.perm ((jy at1).trans ((jy at2).cons _));generalize (fo.eraseIdx j1).eraseIdx j2=rest at l2 hf2 B;clear hf1 old1 a1 a2 a3 b1 b2 b3;have m1:t1∈t1::t2::rest:=by simp
 have m2:t2∈t1::t2::rest:=by simp
 have ad:=B.ad;have nk:∀t∈t1::t2::rest,t.a≠fa/\t.b≠fa/\t.a≠ka/\t.b≠ka:=fun t ht=>by rw[Au,Au] at ad;have ma:t.a∈(t1::t2::rest).flatMap Tr.ads:=Ba.mpr ⟨t,ht,by simp[Tr.ads]⟩;have mb:t.b∈(t1::t2::rest).flatMap Tr.ads:=Ba.mpr ⟨t,ht,by simp[Tr.ads]⟩;exact⟨fun e=>ad.2.1 (e▸ma),fun e=>ad.2.1 (e▸mb),fun e=>ad.1 (Ah _ (e▸ma)),fun e=>ad.1 (Ah _ (e▸mb))⟩
 have nkf:ka≠fa:=by rw[Au] at ad;exact fun e=>ad.1 (e▸As ..)
 have hk2:L2 ka=some (.lst (ja ks)):=old2 ka _ nkf B.hk;have ta1:=old2 t1.a _ (nk t1 m1).1 (B.ht t1 m1).1;have tb1:=old2 t1.b _ (nk t1 m1).2.1 (B.ht t1 m1).2;have ta2:=old2 t2.a _ (nk t2 m2).1 (B.ht t2 m2).1;have tb2:=old2 t2.b _ (nk t2 m2).2.1 (B.ht t2 m2).2;have le1:=bA B m1;have le2:=bA B m2;obtain⟨x,hx,ex⟩:=jQ le1.1 (two / 64);obtain⟨y,hy,ey⟩:=jQ le2.1 (one / 64);refine qb ta1 ⟨⟨by decide,by decide⟩,qb ta1 (qb tb1 ⟨(by show(0:Int)<((za t1.E).length:Int);rw[Ae];omega),qb tb1 (ql ex ?_)⟩)⟩;refine qb ta2 ⟨⟨by decide,by decide⟩,qb ta2 (qb tb2 ⟨(by show(0:Int)<((za t2.E).length:Int);rw[Ae];omega),qb tb2 (ql ey ?_)⟩)⟩;refine qb hk2 (qk hk2 ⟨big _ (by rw[Ae];exact cV),?_⟩);have ek:ja ks++[.tup [.str "both",.int ((x:Nat):Int),.int ((y:Nat):Int)]]=ja (ks++[.nd false x y]):=by unfold ja;rw[AF];rfl
 rw[ek];have hk3:qg L2 ka (.lst (ja (ks++[.nd false x y]))) ka=some (.lst (ja (ks++[.nd false x y]))):=q9;have old3:∀b o,b≠ka->L2 b=some o->qg L2 ka (.lst (ja (ks++[.nd false x y]))) b=some o:=fun b o nb e=>by rw[qd nb];exact e
 generalize qg L2 ka (.lst (ja (ks++[.nd false x y])))=L3 at hk3 old3;have ta1:=old3 _ _ (nk t1 m1).2.2.1 ta1;have tb1:=old3 _ _ (nk t1 m1).2.2.2 tb1;have ta2:=old3 _ _ (nk t2 m2).2.2.1 ta2;have tb2:=old3 _ _ (nk t2 m2).2.2.2 tb2;have hf3:=old3 _ _ (AN nkf) hf2;refine qb ta1 (qb ta2 ⟨_,_,tb1,tb2,dS (by rw[Ae,Ae];lia),fun pp hpp=>?_⟩);have en:za t1.E++za t2.E=za (t1.E++t2.E):=by unfold za;rw[AF]
 rw[en];refine abu (E:=t1.E++t2.E) (l:=x) (r:=y) (k:=9) q9 (by rw[Ad];lia) (fun y' Q' h=>h) (fun _=>rfl) fun pe hpe=>?_;have s4:qj L3 (qg (qg L3 pp (.lst (za (t1.E++t2.E)))) pe (.lst (za ((t1.E++t2.E).filter fun z=>!decide (z=x\/z=y))))):=(By hpp).trans (By hpe);have he4:qg (qg L3 pp (.lst (za (t1.E++t2.E)))) pe (.lst (za ((t1.E++t2.E).filter fun z=>!decide (z=x\/z=y)))) pe=some (.lst (za (xb t1.E t2.E x y))):=q9;generalize qg (qg L3 pp (.lst (za (t1.E++t2.E)))) pe (.lst (za ((t1.E++t2.E).filter fun z=>!decide (z=x\/z=y))))=L4 at s4 he4;have hk4:=s4 _ _ hk3;have hf4:=s4 _ _ hf3;have nn:(((ja (ks++[.nd false x y])).length:Nat):Int) - 1=((ks.length:Nat):Int):=by rw[Ae,Ad];simp
 refine qb hf4 (qb hk4 (qb (s4 _ _ ta1) (qb (s4 _ _ ta2) (qb hk4 fun pn hpn=>?_))));refine⟨_,_,By hpn _ _ he4,q9,dS (by have:=qJ (l:=x) (r:=y) (B.sr t1 m1).nod (B.sr t2 m2).nod (fun z h1 h2=>B.two z ((B.sr t1 m1).sub z h1) ((B.sr t2 m2).sub z h2));have:=Dk (fun z=>!decide (z=x\/z=y)) (t1.E++t2.E);rw[Ad] at this;rw[Ae];unfold xb;show _+1≤1000;lia),fun pb hpb pa hpa=>?_⟩;have s7:=(By (o:=.lst [.int ((((ja (ks++[.nd false x y])).length:Nat):Int) - 1)]) hpn).trans ((By (o:=.lst (za (xb t1.E t2.E x y)++[.int ((((ja (ks++[.nd false x y])).length:Nat):Int) - 1)])) hpb).trans (By (o:=.lst [.tup [.str "both",.int ((((ja (ks++[.nd false x y])).length:Nat):Int) - 1),ze t1.R,ze t2.R],.ref pb]) hpa));refine qk (s7 _ _ hf4) ⟨big _ (by rw[lenR];lia),?_⟩;have nab:pb≠pa:=w5 q9 hpa;have hpa7:∀L6:qm,qg L6 pa (.lst [.tup [.str "both",.int ((((ja (ks++[.nd false x y])).length:Nat):Int) - 1),ze t1.R,ze t2.R],.ref pb]) pa=some (.lst [ze (.bo ks.length t1.R t2.R),.ref pb]):=fun L6=>by rw[q9,nn];rfl
 have hpb7:∀L5 o,qg (qg L5 pb (.lst (za (xb t1.E t2.E x y)++[.int ((((ja (ks++[.nd false x y])).length:Nat):Int) - 1)]))) pa o pb=some (.lst (za (xb t1.E t2.E x y++[ks.length]))):=fun L5 o=>by rw[qd nab,q9,nn];unfold za;rw[AF];rfl
 have ea:=hpa7 (qg (qg L4 pn (.lst [.int ((((ja (ks++[.nd false x y])).length:Nat):Int) - 1)])) pb (.lst (za (xb t1.E t2.E x y)++[.int ((((ja (ks++[.nd false x y])).length:Nat):Int) - 1)])));have eb:=hpb7 (qg L4 pn (.lst [.int ((((ja (ks++[.nd false x y])).length:Nat):Int) - 1)])) (.lst [.tup [.str "both",.int ((((ja (ks++[.nd false x y])).length:Nat):Int) - 1),ze t1.R,ze t2.R],.ref pb]);have na4:L4 pa=none:=by cases z:L4 pa with|none=>rfl|some o=>rw[((By hpn).trans (By hpb)) _ _ z] at hpa;cases hpa
 have nb4:L4 pb=none:=by cases z:L4 pb with|none=>rfl|some o=>rw[(By hpn) _ _ z] at hpb;cases hpb
 generalize qg (qg (qg L4 pn (.lst [.int ((((ja (ks++[.nd false x y])).length:Nat):Int) - 1)])) pb (.lst (za (xb t1.E t2.E x y)++[.int ((((ja (ks++[.nd false x y])).length:Nat):Int) - 1)]))) pa (.lst [.tup [.str "both",.int ((((ja (ks++[.nd false x y])).length:Nat):Int) - 1),ze t1.R,ze t2.R],.ref pb])=L7 at s7 ea eb;clear hpn hpb hpa hpa7 hpb7 he4;have up:∀b o,b≠fa->b≠ka->L b=some o->L4 b=some o:=fun b o n1 n2 e=>s4 _ _ (old3 _ _ n2 (old2 _ _ n1 e));have hf7:=s7 _ _ hf4;have npa:pa≠fa:=fun e=>by rw[e,hf4] at na4;cases na4
 have npb:pb≠fa:=fun e=>by rw[e,hf4] at nb4;cases nb4
 have s1:=B.sr t1 m1;have s2:=B.sr t2 m2;have dis:∀z,z∈t1.E->z∈t2.E->False:=fun z h1 h2=>B.two z (s1.sub z h1) (s2.sub z h2);refine xr (q _ (ks++[.nd false x y]) (rest++[⟨pa,pb,.bo ks.length t1.R t2.R,xb t1.E t2.E x y++[ks.length]⟩]) ⟨?_,?_⟩ (by rw[Ad];rfl) (by rw[Ad];simp;lia))
 ·refine bU.step (old:=[t1,t2]) (t':=⟨pa,pb,.bo ks.length t1.R t2.R,xb t1.E t2.E x y++[ks.length]⟩) B ?_ ⟨?_,?_⟩ (fun t ht=>?_) (fun b o e=>?_) ?_ (fun z hz=>?_) ?_ ?_ ?_
  ·rw[qd nkf];exact s7 _ _ hk4
  ·rw[qd npa];exact ea
  ·rw[qd npb];exact eb
  ·have mt:t∈t1::t2::rest:=Ah _ (Ah _ ht);obtain⟨n1,n2,n3,n4⟩:=nk t mt;obtain⟨h1,h2⟩:=B.ht t mt;rw[h1,h2,qd n1,qd n2];exact⟨s7 _ _ (up _ _ n1 n3 h1),s7 _ _ (up _ _ n2 n4 h2)⟩
  ·have n1:b≠ka:=fun z=>by rw[z,B.fr ka (by simp)] at e;cases e
   have n2:b≠fa:=fun z=>by rw[z,B.fr fa (by simp)] at e;cases e
   rw[qd n2];exact s7 _ _ (up _ _ n2 n1 (B.sub _ _ e))
  ·rw[Au,Au] at ad;obtain⟨d1,d2,d3⟩:=ad;have d3':(rest.flatMap Tr.ads).Nodup:=by rw[AU,AU,Aq,Aq] at d3;exact d3.2.1.2.1
   have inn:∀z∈rest.flatMap Tr.ads,z∈(t1::t2::rest).flatMap Tr.ads:=fun z hz=>by rw[AU,AU];exact Af _ (Af _ hz)
   have ex4:∀z∈rest.flatMap Tr.ads,∃o,L4 z=some o:=fun z hz=>by
    obtain⟨t,ht,hz⟩:=Ba.mp hz;have mt:t∈t1::t2::rest:=Ah _ (Ah _ ht);obtain⟨n1,n2,n3,n4⟩:=nk t mt;obtain⟨h1,h2⟩:=B.ht t mt;have hz:z=t.a\/z=t.b:=by simpa[Tr.ads] using hz
    rcases hz with rfl | rfl
    ·exact⟨_,up _ _ n1 n3 h1⟩
    ·exact⟨_,up _ _ n2 n4 h2⟩
   have npk:pa≠ka:=fun e=>by rw[e,hk4] at na4;cases na4
   have nbk:pb≠ka:=fun e=>by rw[e,hk4] at nb4;cases nb4
   have nra:pa∉rest.flatMap Tr.ads:=fun hz=>by obtain⟨o,e⟩:=ex4 _ hz;rw[na4] at e;cases e
   have nrb:pb∉rest.flatMap Tr.ads:=fun hz=>by obtain⟨o,e⟩:=ex4 _ hz;rw[nb4] at e;cases e
   rw[AM];rw[Au,Au,Aq];refine⟨?_,?_,d3',?_,?_⟩
   ·intro z;rcases Av.mp z with z | z
    ·exact nkf z
    ·rcases Ak.mp z with z | z
     ·exact d1 (Ah _ (inn _ z))
     ·simp[Tr.ads] at z;rcases z with z | z;exact npk z.symm;exact nbk z.symm
   ·intro z;rcases Ak.mp z with z | z
    ·exact d2 (inn _ z)
    ·simp[Tr.ads] at z;rcases z with z | z;exact npa z.symm;exact npb z.symm
   ·simp[Tr.ads];exact AN nab
   ·intro u hu v hv e;simp[Tr.ads] at hv;subst e;rcases hv with rfl | rfl
    ·exact nra hu
    ·exact nrb hu
  ·have hz:z=pa\/z=pb:=by simpa[Tr.ads] using hz
   cases w:L0 z with
   |none=>rfl
   |some o=>
    have n1:z≠ka:=fun e=>by rw[e,B.fr ka (by simp)] at w;cases w
    have n2:z≠fa:=fun e=>by rw[e,B.fr fa (by simp)] at w;cases w
    have:=up _ _ n2 n1 (B.sub _ _ w);rcases hz with rfl | rfl
    ·rw[na4] at this;cases this
    ·rw[nb4] at this;cases this
  ·exact B.ok.snoc ⟨s1.lt x (s1.sub x hx),s2.lt y (s2.sub y hy)⟩
  ·refine .bo (cg _ _ _) (s1.more _) (s2.more _) hx hy (fun z=>?_) ?_
   ·rw[Ak,pM (fun h=>dis x hx h) (fun h=>dis y h hy),Aw];constructor
    ·rintro((h | h) | h)
     ·exact .inl h
     ·exact .inr (.inl h)
     ·exact .inr (.inr h)
    ·rintro(h | h | h)
     ·exact .inl (.inl h)
     ·exact .inl (.inr h)
     ·exact .inr h
   ·rw[Aq];refine⟨qJ s1.nod s2.nod dis,by simp,fun u hu v hv e=>?_⟩;rw[Aw.mp hv] at e;have:=(pM (fun h=>dis x hx h) (fun h=>dis y h hy) u).mp hu;rcases this with⟨h,_⟩ | ⟨h,_⟩
    ·have:=s1.lt u (s1.sub u h);lia
    ·have:=s2.lt u (s2.sub u h);lia
  ·show(ks.length::(qz t1.R++qz t2.R)).Perm (List.range' ks.length 1++([t1,t2].flatMap fun t=>qz t.R));simp[DU]
 ·rw[q9];unfold zf;rw[AF];rfl
theorem rW{E:List Nat}{k:Int}(h:0<E.length):∃(j x:Nat),E[j]?=some x/\0≤k % ((za E).length:Int)/\k % ((za E).length:Int)<((za E).length:Int)/\
 (za E)[(k % ((za E).length:Int)).toNat]?=some (.int ((x:Nat):Int))/\(za E).eraseIdx (k % ((za E).length:Int)).toNat=za (E.eraseIdx j):=by
 obtain⟨j,x,ej,lj,et⟩:=hU h k;have e:(za E).length=E.length:=Ae ..;rw[e,ej];refine⟨j,x,et,by exact AY _,by lia,?_,?_⟩
 ·show(za E)[j]?=_;rw[Al,et];rfl
 ·exact gh _ E j
def lB:jw:=fun ys L Q=>∃L0 ka fa ks,∃pre post:List Tr,∃t:Tr,∃one two:Int,ys=[.ref ka,.ref t.a,.int one,.int two]/\m4 L0 L ka fa ks (pre++t::post)/\ks.length≤200/\
 ∀L' ks' fo',m4 L0 L' ka fa ks' fo'->ks'.length≤ks.length+1->fo'.length=(pre++t::post).length->Q .non L'
theorem abn:∀ys L Q,lB ys L Q->xx agd 6 ys L Q:=by
 rintro ys L Q ⟨L0,ka,fa,ks,pre,post,t,one,two,rfl,F,hk200,q⟩;have big:=bg_;have mt:t∈pre++t::post:=by simp
 have B:=F.b;obtain⟨ta,tb⟩:=B.ht t mt;have le:=bA B mt;have s:=B.sr t mt;have lenE:∀E:List Nat,(za E).length=E.length:=fun E=>Ae ..;refine qb ta (qb tb ?_);refine j8 (fun c=>?_) fun c=>?_
 ·exact xr (q L ks _ F (Cp _) rfl)
 have c:¬(((za t.E).length:Int)<2):=c;rw[lenE] at c;have ad:=B.ad;have nkf:ka≠fa:=by rw[Au] at ad;exact fun e=>ad.1 (e▸As ..)
 have nk:∀u∈pre++t::post,u.a≠fa/\u.b≠fa/\u.a≠ka/\u.b≠ka:=fun u hu=>by rw[Au,Au] at ad;have ma:u.a∈(pre++t::post).flatMap Tr.ads:=Ba.mpr ⟨u,hu,by simp[Tr.ads]⟩;have mb:u.b∈(pre++t::post).flatMap Tr.ads:=Ba.mpr ⟨u,hu,by simp[Tr.ads]⟩;exact⟨fun e=>ad.2.1 (e▸ma),fun e=>ad.2.1 (e▸mb),fun e=>ad.1 (Ah _ (e▸ma)),fun e=>ad.1 (Ah _ (e▸mb))⟩
 have nab:t.a≠t.b:=by rw[Au,Au,AM,AU,Aq,Aq] at ad;have:=ad.2.2.2.1.1;simpa[Tr.ads] using this
 obtain⟨j1,x,e1,a1,a2,a3,a4⟩:=rW (k:=two) le.1;refine qb ta (qb tb (qb ta (qb tb ⟨(by show(0:Int)<((za t.E).length:Int);rw[lenE];omega),qk tb ⟨a1,a2,ql a3 ?_⟩⟩)));rw[a4];have lE1:(t.E.eraseIdx j1).length+1=t.E.length:=by have:=(jy e1).length_eq;rw[AG] at this;lia
 have ta1:qg L t.b (.lst (za (t.E.eraseIdx j1))) t.a=some (.lst [ze t.R,.ref t.b]):=by rw[qd nab];exact ta
 obtain⟨j2,y,e2,b1,b2,b3,b4⟩:=rW (E:=t.E.eraseIdx j1) (k:=one) (by lia);refine qb ta1 (qb q9 (qb ta1 (qb q9 ⟨(by show(0:Int)<((za (t.E.eraseIdx j1)).length:Int);rw[lenE];omega),qk q9 ⟨b1,b2,ql b3 ?_⟩⟩)));rw[b4,vt];have lE2:((t.E.eraseIdx j1).eraseIdx j2).length+1=(t.E.eraseIdx j1).length:=by have:=(jy e2).length_eq;rw[AG] at this;lia
 have pE:t.E.Perm (x::y::(t.E.eraseIdx j1).eraseIdx j2):=(jy e1).trans ((jy e2).cons _);generalize (t.E.eraseIdx j1).eraseIdx j2=E2 at lE2 pE;have hk1:qg L t.b (.lst (za E2)) ka=some (.lst (ja ks)):=by rw[qd (AN (nk t mt).2.2.2)];exact B.hk
 refine qb hk1 (qk hk1 ⟨big _ (by rw[Ae];exact cV),?_⟩);have ek:ja ks++[.tup [.str "either",.int ((x:Nat):Int),.int ((y:Nat):Int)]]=ja (ks++[.nd true x y]):=by unfold ja;rw[AF];rfl
 rw[ek];have nn:(((ja (ks++[.nd true x y])).length:Nat):Int) - 1=((ks.length:Nat):Int):=by rw[Ae,Ad];simp
 have ta2:qg (qg L t.b (.lst (za E2))) ka (.lst (ja (ks++[.nd true x y]))) t.a=some (.lst [ze t.R,.ref t.b]):=by rw[qd (nk t mt).2.2.1,qd nab];exact ta
 refine qb q9 (qb ta2 ?_);refine qk ta2 (ql (v:=0) rfl ?_);have ha3:qg (qg (qg L t.b (.lst (za E2))) ka (.lst (ja (ks++[.nd true x y])))) t.a (.lst ([ze t.R,.ref t.b].set 0 (.tup [.str "either",.int ((((ja (ks++[.nd true x y])).length:Nat):Int) - 1),ze t.R]))) t.a=some (.lst [ze (.ei ks.length t.R),.ref t.b]):=by rw[q9,nn];rfl
 have hk3:∀o,qg (qg (qg L t.b (.lst (za E2))) ka (.lst (ja (ks++[.nd true x y])))) t.a o ka=some (.lst (ja (ks++[.nd true x y]))):=fun o=>by rw[qd (AN (nk t mt).2.2.1)];exact q9
 have tb3:∀o,qg (qg (qg L t.b (.lst (za E2))) ka (.lst (ja (ks++[.nd true x y])))) t.a o t.b=some (.lst (za E2)):=fun o=>by rw[qd (AN nab),qd (nk t mt).2.2.2];exact q9
 have old3:∀o b u,b≠t.a->b≠t.b->b≠ka->L b=some u->qg (qg (qg L t.b (.lst (za E2))) ka (.lst (ja (ks++[.nd true x y])))) t.a o b=some u:=fun o b u n1 n2 n3 e=>by rw[qd n1,qd n3,qd n2];exact e
 have hk3:=hk3 (.lst ([ze t.R,.ref t.b].set 0 (.tup [.str "either",.int ((((ja (ks++[.nd true x y])).length:Nat):Int) - 1),ze t.R])));have tb3:=tb3 (.lst ([ze t.R,.ref t.b].set 0 (.tup [.str "either",.int ((((ja (ks++[.nd true x y])).length:Nat):Int) - 1),ze t.R])));have old3:=old3 (.lst ([ze t.R,.ref t.b].set 0 (.tup [.str "either",.int ((((ja (ks++[.nd true x y])).length:Nat):Int) - 1),ze t.R])));generalize qg (qg (qg L t.b (.lst (za E2))) ka (.lst (ja (ks++[.nd true x y])))) t.a (.lst ([ze t.R,.ref t.b].set 0 (.tup [.str "either",.int ((((ja (ks++[.nd true x y])).length:Nat):Int) - 1),ze t.R])))=L3 at ha3 hk3 tb3 old3;refine qb ha3 (qb tb3 (qb hk3 (qk tb3 ⟨big _ (by rw[lenE];lia),?_⟩)));have en:za E2++[.int ((((ja (ks++[.nd true x y])).length:Nat):Int) - 1)]=za (E2++[ks.length]):=by rw[nn];unfold za;rw[AF];rfl
 have nxy:=pE.nodup_iff.mp s.nod;rw[Au,Au] at nxy;have hx:x∈t.E:=pE.mem_iff.mpr (by simp);have hy:y∈t.E:=pE.mem_iff.mpr (by simp);have adT:∀u∈pre++post,u.a≠t.a/\u.a≠t.b/\u.b≠t.a/\u.b≠t.b:=fun u hu=>by have p:(pre++t::post).Perm (t::(pre++post)):=BZ;have ad2:=(p.flatMap_right Tr.ads).nodup_iff.mp (by rw[Au,Au] at ad;exact ad.2.2);rw[AU,Aq] at ad2;have k:=ad2.2.2;have ma:u.a∈(pre++post).flatMap Tr.ads:=Ba.mpr ⟨u,hu,by simp[Tr.ads]⟩;have mb:u.b∈(pre++post).flatMap Tr.ads:=Ba.mpr ⟨u,hu,by simp[Tr.ads]⟩;exact⟨fun e=>k t.a (by simp[Tr.ads]) u.a ma e.symm,fun e=>k t.b (by simp[Tr.ads]) u.a ma e.symm,fun e=>k t.a (by simp[Tr.ads]) u.b mb e.symm,fun e=>k t.b (by simp[Tr.ads]) u.b mb e.symm⟩
 refine xr (q _ (ks++[.nd true x y]) (pre++⟨t.a,t.b,.ei ks.length t.R,E2++[ks.length]⟩::post) ⟨?_,?_⟩ (by rw[Ad];exact Ao _) (by simp))
 ·have B':=B.perm (fo':=[t]++(pre++post)) BZ;have st:=bU.step (old:=[t]) (rest:=pre++post) (t':=⟨t.a,t.b,.ei ks.length t.R,E2++[ks.length]⟩) (ms:=[.nd true x y]) (L':=qg L3 t.b (.lst (za E2++[.int ((((ja (ks++[.nd true x y])).length:Nat):Int) - 1)]))) B' ?_ ⟨?_,?_⟩ (fun u hu=>?_) (fun b o e=>?_) ?_ (fun z hz=>?_) ?_ ?_ ?_
  ·exact st.perm (by have p1:((pre++post)++[(⟨t.a,t.b,.ei ks.length t.R,E2++[ks.length]⟩:Tr)]).Perm ((⟨t.a,t.b,.ei ks.length t.R,E2++[ks.length]⟩:Tr)::(pre++post)):=B3 _ _;exact p1.trans BZ.symm)
  ·rw[qd (AN (nk t mt).2.2.2)];exact hk3
  ·rw[qd nab];exact ha3
  ·rw[q9,en]
  ·have hu':u∈pre++t::post:=by rcases Ak.mp hu with h | h;exact Ar _ h;exact Af _ (Ah _ h)
   obtain⟨n1,n2,n3,n4⟩:=adT u hu;obtain⟨k1,k2,k3,k4⟩:=nk u hu';obtain⟨h1,h2⟩:=B.ht u hu';rw[h1,h2,qd n2,qd n4];exact⟨old3 _ _ n1 n2 k3 h1,old3 _ _ n3 n4 k4 h2⟩
  ·have fr:=B.fr;have n0:∀z,L0 z=none->b≠z:=fun z hz w=>by rw[w,hz] at e;cases e
   have n1:=n0 ka (fr ka (by simp));have n2:=n0 t.a (fr t.a (by simp[Tr.ads]));have n3:=n0 t.b (fr t.b (by simp[Tr.ads]));rw[qd n3];exact old3 _ _ n2 n3 n1 (B.sub _ _ e)
  ·have p:(pre++t::post).Perm ((pre++post)++[t]):=BZ.trans (B3 _ _).symm;have e:((pre++post)++[(⟨t.a,t.b,.ei ks.length t.R,E2++[ks.length]⟩:Tr)]).flatMap Tr.ads=((pre++post)++[t]).flatMap Tr.ads:=by simp[AM,Tr.ads]
   rw[e];exact(((p.flatMap_right Tr.ads).cons _).cons _).nodup_iff.mp ad
  ·have hz:z=t.a\/z=t.b:=by simpa[Tr.ads] using hz
   rcases hz with rfl | rfl
   ·exact B.fr _ (by simp[Tr.ads])
   ·exact B.fr _ (by simp[Tr.ads])
  ·exact B.ok.snoc ⟨s.lt x (s.sub x hx),s.lt y (s.sub y hy)⟩
  ·refine .ei (cg _ _ _) (s.more _) hx hy (fun e=>nxy.1 (by rw[e];exact As ..)) (fun z=>?_) ?_
   ·rw[Ak,Aw];have hm:=pE.mem_iff (a:=z);rw[Av,Av] at hm;have h1:z∈E2->z≠x/\z≠y:=fun h=>⟨fun e=>nxy.1 (by rw[<-e];exact Ah _ h),fun e=>nxy.2.1 (e▸h)⟩;constructor
    ·rintro(h | h)
     ·exact .inl ⟨hm.mpr (.inr (.inr h)),h1 h⟩
     ·exact .inr h
    ·rintro(⟨h,c1,c2⟩ | h)
     ·rcases hm.mp h with e | e | e
      ·exact absurd e c1
      ·exact absurd e c2
      ·exact .inl e
     ·exact .inr h
   ·rw[Aq];refine⟨nxy.2.2,by simp,fun u hu v hv e=>?_⟩;rw[Aw.mp hv] at e;have:u∈t.E:=pE.mem_iff.mpr (Ah _ (Ah _ hu));have:=s.lt u (s.sub u this);lia
  ·show(ks.length::qz t.R).Perm (List.range' ks.length 1++([t].flatMap fun t=>qz t.R));simp[DU]
 ·have nf:=nk t mt;rw[qd (AN nf.2.1)];have:=old3 fa _ (AN nf.1) (AN nf.2.1) (AN nkf) F.hf;rw[this];unfold zf;rw[AF,AF];rfl
def ak6(p0:jw)(p1:jw)(p2:jw)(p3:jw):wv:=(qp (zr (aW cw (qa 1) (qe (zn w9 (qa 3) (bM 1)) qr)) (qf 4))
 (qp (zr (zn ax (xu 4 1) (zn w9 (zn aw (qa 3) (jk 64)) (bJ jC (kj (xu 4 1))))) (qf 5))
 (qp (zr (qt p0 (k8 (qa 0) (qa 5))) (qf 6))
 (qp (zr (rdT (yC .non) (yC .non)) (wo 2 (zg (qf 7) (zg (qf 8) vz))))
 (qp (eO (fM (kj (bM 1))) (qf 9) (eO (xt (zn ax (zn ax (qa 1) (qa 9)) (jk 1))) (qf 10) (xc (eL (yB (cX false (qa 7))) (fJ (qt p0 (k8 (qa 0) (qa 10))) (qt p1 (kj (qa 6))))) (zr (vk (qe (zn ax (qa 1) (qa 9)) (kj (qa 10)))) (wo 2 (zg (qf 7) (zg (qf 8) vz)))) js)))
 (qp (xc (eL (yB (cX false (qa 7))) (yB (zn yGt (qt p2 (kj (qa 6))) (jk 5)))) (qp (j9 (aW zu (qa 1) (kj (qa 4))))
 abi) js)
 (da (xc (yB (cX false (qa 7))) (qp (zr (qt p3 (k8 (qa 0) (qa 6))) (agl 3 (zg (qf 11) (zg (qf 8) (zg (qf 12) vz)))))
 (zr (ve (qe (qa 11) (qe (ve (k8 (qa 8) (qa 12))) qr))) (qf 7))) (j9 (aW jR (qa 1) (kj (qa 7)))))
 (qp (zr (mY 1 (xt (zn wz (xu 4 1) (xu 7 1))) (qf 14) (yB (zn (lh true) (qa 14) (rdT (qa 5) (qa 8)))) (qa 14)) (qf 13))
 (xc (fJ (zn w9 (qa 2) (jk 2)) (jk 0)) (j9 (aW zu (qa 1) (qe (ve (qe (vk (qe (fE "cut") (qe (qa 5) (qe (qa 8) (k8 (xu 4 0) (xu 7 0)))))) (kj (qa 13)))) qr))) (j9 (aW zu (qa 1) (qe (ve (qe (vk (qe (fE "cut") (qe (qa 8) (qe (qa 5) (k8 (xu 7 0) (xu 4 0)))))) (kj (qa 13)))) qr))))))))))))
theorem oz:∀a b:List Da,Da.eqs a b=true->a.length=b.length
 |[],[],_=>rfl
 |[],_::_,h=>by cases h
 |_::_,[],h=>by cases h
 |x::r,y::q,h=>by have h:(Da.eq x y&&Da.eqs r q)=true:=h;rw[A1] at h;rw[AG,AG,oz r q h.2]
theorem wL(u:Wd):∀v:Wd,Da.eq (gn u) (gn v)=true->u=v:=by
 induction u with
 |leaf t n=>
  intro v h;cases v with
  |leaf t' n'=>
   rw[agc,A1] at h;rw[of_decide_eq_true h.1,of_decide_eq_true h.2]
  |node e l r=>exact absurd (oz _ _ h) (by intro z;cases z)
 |node e l r il ir=>
  intro v h;cases v with
  |leaf t n=>exact absurd (oz _ _ h) (by intro z;cases z)
  |node e' l' r'=>
   have h:(gj (.str (kN e)) (.str (kN e'))&&(Da.eq (gn l) (gn l')&&(Da.eq (gn r) (gn r')&&true)))=true:=h;rw[A1,A1,A1] at h;obtain⟨h1,h2,h3,_⟩:=h;have:e=e':=by cases e<;>cases e'<;>first | rfl | (exfalso;revert h1;decide +kernel)
   rw[this,il l' h2,ir r' h3]
def aK:Ru->Nat
 |.link _ _=>1
 |.ei _ A=>aK A+1
 |.bo _ A B=>max (aK A) (aK B)+1
 |.cu _ _ A B=>max (aK A) (aK B)+1
theorem aS:∀R:Ru,aK R+1≤(qz R).length
 |.link _ _=>Ao _
 |.ei _ A=>by have:=aS A;simp[aK,qz];lia
 |.bo _ A B=>by have:=aS A;have:=aS B;simp[aK,qz];lia
 |.cu _ _ A B=>by have:=aS A;have:=aS B;simp[aK,qz];lia
def bZ:Ru->Da
 |.link p q=>.tup [.s (.str "link"),.s (.int (p:Int)),.s (.int (q:Int))]
 |.ei r A=>.tup [.s (.str "either"),.s (.int (r:Int)),bZ A]
 |.bo r A B=>.tup [.s (.str "both"),.s (.int (r:Int)),bZ A,bZ B]
 |.cu p q A B=>.tup [.s (.str "cut"),.s (.int (p:Int)),.s (.int (q:Int)),bZ A,bZ B]
theorem cR{L:qm}:∀{R:Ru} {n:Nat},aK R≤n->ju L n (ze R) (bZ R)
 |.link p q,n+1,_=>bY (.cons (EV _) (.cons (EL _) (.cons (EL _) .nil)))
 |.ei r A,n+1,h=>bY (.cons (EV _) (.cons (EL _) (.cons (cR (by simp[aK] at h;lia)) .nil)))
 |.bo r A B,n+1,h=>bY (.cons (EV _) (.cons (EL _) (.cons (cR (by simp[aK] at h;lia)) (.cons (cR (by simp[aK] at h;lia)) .nil))))
 |.cu p q A B,n+1,h=>bY (.cons (EV _) (.cons (EL _) (.cons (EL _) (.cons (cR (by simp[aK] at h;lia)) (.cons (cR (by simp[aK] at h;lia)) .nil)))))
 |.link _ _,0,h=>by simp[aK] at h
 |.ei _ _,0,h=>by simp[aK] at h
 |.bo _ _ _,0,h=>by simp[aK] at h
 |.cu _ _ _ _,0,h=>by simp[aK] at h
theorem am:∀R:Ru,Da.eq (bZ R) (bZ R)=true
 |.link p q=>by simp[bZ,Da.eq,Da.eqs,gj]
 |.ei r A=>by simp[bZ,Da.eq,Da.eqs,gj,am A]
 |.bo r A B=>by simp[bZ,Da.eq,Da.eqs,gj,am A,am B]
 |.cu p q A B=>by simp[bZ,Da.eq,Da.eqs,gj,am A,am B]
def fH(E:List Nat):List Da:=E.map fun n:Nat=>Da.s (.int (n:Int))
theorem pK{L:qm}{n:Nat}:∀E:List Nat,Paired (ju L n) (za E) (fH E)
 |[]=>.nil
 |_::r=>.cons (EL _) (pK r)
theorem jY:∀E E':List Nat,Da.eqs (fH E) (fH E')=true↔E=E'
 |[],[]=>by simp[fH,Da.eqs]
 |[],_::_=>by simp[fH,Da.eqs]
 |_::_,[]=>by simp[fH,Da.eqs]
 |x::r,y::r'=>by
  have ih:=jY r r';show(Da.eq (.s (.int (x:Int))) (.s (.int (y:Int)))&&Da.eqs (fH r) (fH r'))=true↔_;rw[A1,ih];have:Da.eq (.s (.int (x:Int))) (.s (.int (y:Int)))=true↔x=y:=by show decide ((x:Int)=(y:Int))=true↔_;rw[DG];lia
  rw[this];constructor
  ·rintro⟨rfl,rfl⟩;rfl
  ·intro e;injection e with e1 e2;exact⟨e1,e2⟩
def eJ(t:Tr):Da:=.lst [bZ t.R,.lst (fH t.E)]
theorem qP{t:Tr}(ha:L t.a=some (.lst [ze t.R,.ref t.b]))(hb:L t.b=some (.lst (za t.E)))(h:aK t.R≤n+1):ju L (n+2) (.ref t.a) (eJ t):=
 al ha (.cons (cR h) (.cons (al hb (pK _)) .nil))
theorem aep{t u:Tr}:Da.eq (eJ t) (eJ u)=true->t.E=u.E:=by intro h;have h:(Da.eq (bZ t.R) (bZ u.R)&&(Da.eqs (fH t.E) (fH u.E)&&true))=true:=h;rw[A1,A1] at h;exact(jY _ _).mp h.2.1
theorem yH(t:Tr):Da.eq (eJ t) (eJ t)=true:=by show(Da.eq (bZ t.R) (bZ t.R)&&(Da.eqs (fH t.E) (fH t.E)&&true))=true;rw[am,(jY _ _).mpr rfl];rfl
theorem bU.rd(h:bU L0 L ka fa ks fo){t:Tr}(ht:t∈fo):aK t.R≤ks.length:=by
 have h1:=aS t.R;have nd:(qz t.R).Nodup:=by obtain⟨a,b,rfl⟩:=Cs ht;have:=h.nd;rw[AM,AU,Aq,Aq] at this;exact this.2.1.1
 have:=bQ _ _ nd fun x hx=>(h.sr t ht).lt x hx;exact ai9
theorem bU.one(h:bU L0 L ka fa ks fo){t u:Tr}(hi:fo[i]?=some t)(hj:fo[j]?=some u)(e:t.E=u.E):i=j:=by
 by_cases c:i=j
 ·exact c
 ·exfalso;have s:=h.sr t (AH hi);have l:=s.ends h.ok;obtain⟨x,hx⟩:∃x,x∈t.E:=by cases he:t.E with | nil=>rw[he] at l;simp at l | cons x r=>exact⟨x,As ..⟩
  have s':=h.sr u (AH hj);have p1:=jy hi;have p2:(u::(fo.eraseIdx i))=_:=rfl;have mu:u∈fo.eraseIdx i:=by have:fo[j]?=some u:=hj;rw[List.mem_eraseIdx_iff_getElem?];exact⟨j,fun z=>c z.symm,hj⟩
  obtain⟨a,b,ab⟩:=Cs mu;have nd:=(p1.flatMap_right fun t:Tr=>qz t.R).nodup_iff.mp h.nd;rw[AU,Aq] at nd;exact nd.2.2 x (s.sub x hx) x (Ba.mpr ⟨u,mu,s'.sub x (e▸hx)⟩) rfl
theorem qj.none(s:qj L L'){p:Addr}(h:L' p=none):L p=none:=by cases z:L p with|none=>rfl|some o=>rw[s _ _ z] at h;cases h
theorem bU.nkf(h:bU L0 L ka fa ks fo):ka≠fa:=by have ad:=h.ad;rw[Au] at ad;exact fun e=>ad.1 (e▸As ..)
theorem bU.nk(h:bU L0 L ka fa ks fo):∀t∈fo,t.a≠fa/\t.b≠fa/\t.a≠ka/\t.b≠ka:=fun t ht=>by have ad:=h.ad;rw[Au,Au] at ad;have ma:t.a∈fo.flatMap Tr.ads:=Ba.mpr ⟨t,ht,by simp[Tr.ads]⟩;have mb:t.b∈fo.flatMap Tr.ads:=Ba.mpr ⟨t,ht,by simp[Tr.ads]⟩;exact⟨fun e=>ad.2.1 (e▸ma),fun e=>ad.2.1 (e▸mb),fun e=>ad.1 (Ah _ (e▸ma)),fun e=>ad.1 (Ah _ (e▸mb))⟩
theorem bU.setF(h:bU L0 L ka fa ks fo)(o:LO):bU L0 (qg L fa o) ka fa ks fo:=by
 refine⟨by rw[qd h.nkf];exact h.hk,fun t ht=>?_,h.sr,h.nd,h.tm,h.ad,h.ok,fun b u e=>?_,h.fr⟩
 ·obtain⟨n1,n2,_,_⟩:=h.nk t ht;rw[qd n1,qd n2];exact h.ht t ht
 ·have:b≠fa:=fun z=>by rw[z,h.fr fa (by simp)] at e;cases e
  rw[qd this];exact h.sub _ _ e
theorem bU.mono(h:bU L0 L ka fa ks fo)(s:qj L L'):bU L0 L' ka fa ks fo:=
 ⟨s _ _ h.hk,fun t ht=>⟨s _ _ (h.ht t ht).1,s _ _ (h.ht t ht).2⟩,h.sr,h.nd,h.tm,h.ad,h.ok,h.sub.trans s,h.fr⟩
theorem bU.exs(h:bU L0 L ka fa ks fo):∀z∈fo.flatMap Tr.ads,∃o,L z=some o:=fun z hz=>by
 obtain⟨t,ht,hz⟩:=Ba.mp hz;obtain⟨h1,h2⟩:=h.ht t ht;have hz:z=t.a\/z=t.b:=by simpa[Tr.ads] using hz
 rcases hz with rfl | rfl
 ·exact⟨_,h1⟩
 ·exact⟨_,h2⟩
theorem uG{l:List Addr}{pb:Addr}(nd:l.Nodup)(ex:∀z∈l,∃o,L z=some o)(ha:L pa=none)(hb:L pb=none)(ne:pa≠pb):(l++[pa,pb]).Nodup:=by
 rw[Aq];refine⟨nd,by simp[ne],fun u hu v hv e=>?_⟩;subst e;obtain⟨o,eo⟩:=ex u hu;simp at hv;rcases hv with rfl | rfl
 ·rw[ha] at eo;cases eo
 ·rw[hb] at eo;cases eo
theorem lK:∀w:Wd,w.turn.turn=w
 |.leaf t n=>by simp[Wd.turn]
 |.node e l r=>by simp[Wd.turn,lK l,lK r]
theorem cx:∀w:Wd,w.turn.depth=w.depth
 |.leaf t n=>rfl
 |.node e l r=>by simp[Wd.turn,Wd.depth,cx l,cx r]
def Fd(ks:List Kn)(w:Wd)(rest:List Tr)(v7 v8:Y):Prop:=(v7=.non/\v8=.non)\/∃(j:Nat) (u:Tr) (q:Nat),rest[j]?=some u/\q∈u.E/\cZ ks q w.turn/\v7=.ref u.a/\v8=.int (q:Int)
theorem ad6{Lp L4:qm}{t1 u:Tr}{x q:Nat}{w:Wd}(B:bU L0 Lp ka fa ks (t1::u::rest)){fs:LO}(hf:Lp fa=some fs)(hx:x∈t1.E)(hq:q∈u.E)(hwx:cZ ks x w)(hwq:cZ ks q w.turn){pe:Addr}(s:qj Lp L4)(hpe:Lp pe=none)
 (he:L4 pe=some (.lst (za (xb t1.E u.E x q)))) (hpa:L4 pa=none) (hR:R=.cu x q t1.R u.R\/R=.cu q x u.R t1.R):bU L0 (qg L4 pa (.lst [ze R,.ref pe])) ka fa ks (rest++[⟨pa,pe,R,xb t1.E u.E x q⟩]):=by
 have nap:pe≠pa:=w5 he hpa;have hpa':Lp pa=none:=s.none hpa;have s':qj Lp (qg L4 pa (.lst [ze R,.ref pe])):=s.trans (By hpa);have s1:=B.sr t1 (by simp);have s2:=B.sr u (by simp);have dis:∀z,z∈t1.E->z∈u.E->False:=fun z h1 h2=>B.two z (s1.sub z h1) (s2.sub z h2);have k0:ks++[]=ks:=AW ks;have bm:=pM (E1:=t1.E) (E2:=u.E) (fun h=>dis x hx h) (fun h=>dis q h hq);have nod:=qJ (l:=x) (r:=q) s1.nod s2.nod dis;have st:=bU.step (L':=qg L4 pa (.lst [ze R,.ref pe])) (old:=[t1,u]) (rest:=rest) (ms:=[]) (t':=⟨pa,pe,R,xb t1.E u.E x q⟩) B (by rw[k0];exact s' _ _ B.hk) ⟨q9,by rw[qd nap];exact he⟩ (fun t ht=>?_) (B.sub.trans s') ?_ (fun z hz=>?_) (by rw[k0];exact B.ok) ?_ ?_
 ·rw[k0] at st;exact st
 ·obtain⟨h1,h2⟩:=B.ht t (Ah _ (Ah _ ht));rw[h1,h2];exact⟨s' _ _ h1,s' _ _ h2⟩
 ·have nd:(ka::fa::rest.flatMap Tr.ads).Nodup:=by
   have:=B.ad;rw[AU,AU,Au,Au,Aq,Aq] at this;rw[Au,Au];obtain⟨d1,d2,_,⟨_,d3,_⟩,_⟩:=this;refine⟨fun z=>d1 ?_,fun z=>d2 (Af _ (Af _ z)),d3⟩;rcases Av.mp z with z | z
   ·rw[z];exact As ..
   ·exact Ah _ (Af _ (Af _ z))
  have:=uG (L:=Lp) nd (fun z hz=>?_) hpa' hpe (AN nap)
  ·rw[AM];simpa[Tr.ads] using this
  ·rcases Av.mp hz with rfl | hz
   ·exact⟨_,B.hk⟩
   ·rcases Av.mp hz with rfl | hz
    ·exact⟨_,hf⟩
    ·exact B.exs z (by rw[AU,AU];exact Af _ (Af _ hz))
 ·have hz:z=pa\/z=pe:=by simpa[Tr.ads] using hz
  rcases hz with rfl | rfl
  ·exact B.sub.none hpa'
  ·exact B.sub.none hpe
 ·rw[k0];rcases hR with rfl | rfl
  ·exact .cu s1 s2 hx hq hwx hwq bm nod
  ·exact .cu (w:=w.turn) s2 s1 hq hx hwq (by rw[lK];exact hwx) (fun z=>by rw[bm];exact Or.comm) nod
 ·rcases hR with rfl | rfl
  ·show(qz t1.R++qz u.R).Perm _;simp
  ·show(qz u.R++qz t1.R).Perm _;simpa using Bf
def CJ(L0:qm)(ka fa:Addr)(ks:List Kn)(one two:Int)(t1:Tr)(x:Nat)(w:Wd)(n:Nat)(τ:jp)(L:qm):Prop:=∃ms u q rest c9 bH c11 c12,τ=[some (.ref ka),some (.ref fa),some (.int one),some (.int two),some (.ref t1.a),some (.int (x:Int)),some (au w),some (.ref u.a),some (.int ((q:Nat):Int)),c9,bH,c11,c12,none]/\
 bU L0 L ka fa (ks++ms) (t1::u::rest)/\L fa=some (.lst (zf rest))/\q∈u.E/\cZ (ks++ms) q w.turn/\ms.length≤10/\rest.length≤n
def o5:jw:=fun ys L Q=>∃L0 ka fa ks fo,∃one two:Int,ys=[.ref ka,.ref fa,.int one,.int two]/\m4 L0 L ka fa ks fo/\1≤fo.length/\fo.length≤110/\ks.length≤110/\
 ∀L' ks' fo',m4 L0 L' ka fa ks' fo'->ks'.length≤ks.length+10->1≤fo'.length->fo'.length≤fo.length->Q .non L'
theorem ag3:∀ys L Q,o5 ys L Q->xx (ak6 (xj 120) (av 120) (cM 120) (cL 5)) 14 ys L Q:=by
 rintro ys L Q ⟨L0,ka,fa,ks,fo,one,two,rfl,F,h1,h110,hk110,q⟩;have big:=bg_;have lenR:∀fo:List Tr,(zf fo).length=fo.length:=fun fo=>Ae ..;obtain⟨j1,t1,at1,a1,a2,a3,hf1⟩:=uY (k:=two) F.hf (by assumption);have l1:(fo.eraseIdx j1).length+1=fo.length:=by have:=(jy at1).length_eq;rw[AG] at this;lia
 refine qb F.hf (qb F.hf ⟨(by show(0:Int)<((zf fo).length:Int);rw[lenR];lia),qk F.hf ⟨a1,a2,ql a3 ?_⟩⟩);have B:bU L0 (qg L fa (.lst ((zf fo).eraseIdx (two % ((zf fo).length:Int)).toNat))) ka fa ks (t1::fo.eraseIdx j1):=(F.b.perm (jy at1)).setF _;generalize qg L fa (.lst ((zf fo).eraseIdx (two % ((zf fo).length:Int)).toNat))=L1 at hf1 B;generalize fo.eraseIdx j1=rest at l1 hf1 B;clear a1 a2 a3;have m1:t1∈t1::rest:=by simp
 obtain⟨ta1,tb1⟩:=B.ht t1 m1;have le1:=bA B m1;have s1:=B.sr t1 m1;obtain⟨x,hx,ex⟩:=jQ le1.1 (two / 64);refine qb ta1 ⟨⟨by decide,by decide⟩,qb ta1 (qb tb1 ⟨(by show(0:Int)<((za t1.E).length:Int);rw[Ae];omega),qb tb1 (ql ex ?_)⟩)⟩;obtain⟨w,hw,hwd,hwok⟩:=lI B.ok (x+1) x (by exact Bz _) (s1.lt x (s1.sub x hx));have hxl:=s1.lt x (s1.sub x hx);refine⟨ka,ja ks,x,w,rfl,B.hk,hw,by lia,?_⟩;have wtd:w.turn.depth=w.depth:=cx w;refine qb hf1 ⟨⟨by show _≤(((zf rest).length:Nat):Int);exact AY _,by show(((zf rest).length:Nat):Int)<_;rw[lenR];omega⟩,?_⟩;refine xA (fun i τ L'=>∃v7 v8 c9 bH,τ=[some (.ref ka),some (.ref fa),some (.int one),some (.int two),some (.ref t1.a),some (.int (x:Int)),some (au w),some v7,some v8,c9,bH,none,none,none]/\L'=L1/\Fd ks w rest v7 v8) ⟨_,_,_,_,rfl,rfl,.inl ⟨rfl,rfl⟩⟩ ?_ ?_
 ·rintro i τ L' hi ⟨v7,v8,c9,bH,rfl,rfl,fd⟩;have hi:i<rest.length:=by have:i<(((zf rest).length:Nat):Int).toNat:=hi;rw[lenR] at this;assumption
  obtain⟨u,hu⟩:∃u,rest[i]?=some u:=⟨_,Aj hi⟩;have mu:u∈t1::rest:=Ah _ (AH hu);obtain⟨ua,ub⟩:=B.ht u mu;have ei:(zf rest)[i]?=some (.ref u.a):=by unfold zf;rw[Al,hu];rfl
  have e0:(0:Int)+(i:Int)=((i:Nat):Int):=by simp +arith only
  rw[e0];have ate:g9 (zf rest) ((i:Nat):Int)=some (.ref u.a):=k7 ei;have le:=bA B mu;have su:=B.sr u mu;refine qb hf1 (ql ate (qb ua ?_));refine wY (ys:=za u.E) (aD ub) (fun k τ L''=>∃v7 v8 bH,τ=[some (.ref ka),some (.ref fa),some (.int one),some (.int two),some (.ref t1.a),some (.int (x:Int)),some (au w),some v7,some v8,some (.int ((i:Nat):Int)),bH,none,none,none]/\L''=L'/\Fd ks w rest v7 v8) ⟨_,_,_,rfl,rfl,fd⟩ ?_ ?_ ?_
  ·rintro k τ _ ⟨_,_,_,_,rfl,_⟩;rfl
  ·rintro k y τ L'' ey ⟨v7,v8,bH,rfl,rfl,fd⟩;obtain⟨z,ez,rfl⟩:∃z:Nat,u.E[k]?=some z/\y=Y.int (z:Int):=by rw[Al] at ey;obtain⟨z,e1,e2⟩:=Ap.mp ey;exact⟨z,e1,e2.symm⟩
   have hz:z∈u.E:=AH ez;rcases fd with⟨rfl,rfl⟩ | ⟨j,t,q0,h1,h2,h3,rfl,rfl⟩
   ·have hzl:=su.lt z (su.sub z hz);obtain⟨v,hv,hvd,hvok⟩:=lI B.ok (z+1) z (by exact Bz _) hzl;refine⟨ka,ja ks,z,v,rfl,B.hk,hv,by lia,w,rfl,by lia,?_⟩;refine fi (u:=v) (v:=w.turn) (by lia) ?_;show kh (Da.eq (gn v) (gn w.turn)) _ _;refine afb (fun c=>?_) fun c=>?_
    ·have hh:=wL _ _ c;refine qb hf1 (ql ate ?_);refine⟨_,ED _,?_⟩;exact⟨_,_,_,rfl,rfl,.inr ⟨i,u,z,hu,hz,hh▸hv,rfl,rfl⟩⟩
    ·refine⟨_,ED _,?_⟩;exact⟨_,_,_,rfl,rfl,.inl ⟨rfl,rfl⟩⟩
   ·refine⟨_,ED _,?_⟩;exact⟨_,_,_,rfl,rfl,.inr ⟨j,t,q0,h1,h2,h3,rfl,rfl⟩⟩
  ·rintro τ L'' ⟨v7,v8,bH,rfl,rfl,fd⟩;refine⟨_,ED _,?_⟩;exact⟨_,_,_,_,rfl,rfl,fd⟩
 ·rintro τ L' ⟨v7,v8,c9,bH,rfl,rfl,fd⟩;rcases fd with⟨rfl,rfl⟩ | ⟨j,u,q0,hj,hq0,hwq,rfl,rfl⟩
  case' inl=>
   refine⟨w,rfl,by lia,?_⟩;show kh (decide ((w.size:Int) > 5)) _ _;refine j8 (fun c=>?_) fun c=>?_
   case' refine_1=>
    refine qb hf1 (qk hf1 ⟨big _ (by rw[lenR];lia),?_⟩);have er:zf rest++[.ref t1.a]=zf (rest++[t1]):=by unfold zf;rw[AF];rfl
    rw[er];exact xr (q _ ks (rest++[t1]) ⟨(B.perm (B3 _ _).symm).setF _,q9⟩ (by exact A4 _ _) (by simp) (by rw[Ad];simp;exact pS))
   case' refine_2=>
    refine⟨CJ L0 ka fa ks one two t1 x w rest.length,?_,?_⟩
    ·refine⟨ka,ks,w,rfl,B.hk,(by have h1:=w.depth_le;have h2:=w.size_eq;lia),(by decide),hwok,B.ok,by lia,fun ms R tp sp p hp mir=>?_⟩;refine qk q9 ?_;intro pb hpb pa hpa;have npk:ka≠p:=w5 B.hk hp;have hp2:qg L' ka (.lst (ja (ks++ms))) p=none:=by rw[qd (AN npk)];exact hp
     have sA:qj (qg L' ka (.lst (ja (ks++ms)))) _:=((By hp2).trans (By hpb)).trans (By (o:=.lst [ze R,.ref pb]) hpa);have nab:pb≠pa:=w5 q9 hpa;have nb2:qg L' ka (.lst (ja (ks++ms))) pb=none:=(By hp2).none hpb;have na2:qg L' ka (.lst (ja (ks++ms))) pa=none:=((By hp2).trans (By hpb)).none hpa;have ea:qg (qg (qg (qg L' ka (.lst (ja (ks++ms)))) p (.lst [ze R,.int (tp:Int),.int (sp:Int)])) pb (.lst [.int (tp:Int),.int (sp:Int)])) pa (.lst [ze R,.ref pb]) pa=some (.lst [ze R,.ref pb]):=q9;have eb:qg (qg (qg (qg L' ka (.lst (ja (ks++ms)))) p (.lst [ze R,.int (tp:Int),.int (sp:Int)])) pb (.lst [.int (tp:Int),.int (sp:Int)])) pa (.lst [ze R,.ref pb]) pb=some (.lst (za [tp,sp])):=by rw[qd nab];exact q9
     refine⟨ms,⟨pa,pb,R,[tp,sp]⟩,tp,rest,_,_,_,_,rfl,?_,sA _ _ (by rw[qd (AN B.nkf)];exact hf1),As ..,mir.wt,by have:=mir.len;lia,Ao _⟩;generalize qg (qg (qg (qg L' ka (.lst (ja (ks++ms)))) p (.lst [ze R,.int (tp:Int),.int (sp:Int)])) pb (.lst [.int (tp:Int),.int (sp:Int)])) pa (.lst [ze R,.ref pb])=LF at sA ea eb;have keep:∀z o,z≠ka->L' z=some o->LF z=some o:=fun z o n e=>sA _ _ (by rw[qd n];exact e);have st:=bU.step (L':=LF) (old:=[]) (rest:=t1::rest) (ms:=ms) (t':=⟨pa,pb,R,[tp,sp]⟩) B (sA _ _ q9) ⟨ea,eb⟩ (fun t ht=>?_) (fun z o e=>?_) ?_ (fun z hz=>?_) mir.ok mir.sr ?_
     ·exact st.perm ((B3 _ _).trans (List.Perm.swap _ _ _))
     ·obtain⟨n1,n2,n3,n4⟩:=B.nk t ht;obtain⟨h1,h2⟩:=B.ht t ht;rw[h1,h2];exact⟨keep _ _ n3 h1,keep _ _ n4 h2⟩
     ·exact keep _ _ (fun z=>by rw[z,B.fr ka (by simp)] at e;cases e) (B.sub _ _ e)
     ·have:=uG (L:=qg L' ka (.lst (ja (ks++ms)))) B.ad (fun z hz=>?_) na2 nb2 (AN nab)
      ·rw[AM];simpa[Tr.ads] using this
      ·by_cases c:z=ka
       ·rw[c];exact⟨_,q9⟩
       ·rw[qd c];rcases Av.mp hz with rfl | hz
        ·exact absurd rfl c
        ·rcases Av.mp hz with rfl | hz
         ·exact⟨_,hf1⟩
         ·exact B.exs z hz
     ·have hz:z=pa\/z=pb:=by simpa[Tr.ads] using hz
      cases e:L0 z with
      |none=>rfl
      |some o=>
       have n:z≠ka:=fun z'=>by rw[z',B.fr ka (by simp)] at e;cases e
       have:=B.sub _ _ e;have e2:qg L' ka (.lst (ja (ks++ms))) z=some o:=by rw[qd n];exact this
       rcases hz with rfl | rfl
       ·rw[na2] at e2;cases e2
       ·rw[nb2] at e2;cases e2
     ·rw[Dm,AW];exact(A9 mir.nd DK).mpr fun z=>by rw[mir.tm,Dc]
  case' inr=>
   refine⟨CJ L0 ka fa ks one two t1 x w rest.length,?_,?_⟩
   ·refine qb hf1 (qk hf1 ⟨rest.map eJ,eJ u,120,120,j,by decide,?_,?_,?_,⟨eJ u,?_,yH u⟩,fun k d hk ek=>?_,?_⟩)
    ·have dd:∀l:List Tr,(∀t∈l,t∈t1::rest)->Paired (ju L' 120) (zf l) (l.map eJ):=fun l=>by
      induction l with
      |nil=>intro _;exact .nil
      |cons t r ih=>
       intro h;have mt:=h t (As ..);obtain⟨h1,h2⟩:=B.ht t mt;have:=B.rd mt;exact .cons (qP (n:=118) h1 h2 (by lia)) (ih fun t ht=>h t (Ah _ ht))
     exact dd rest fun t ht=>Ah _ ht
    ·have mt:u∈t1::rest:=Ah _ (AH hj);obtain⟨h1,h2⟩:=B.ht u mt;have:=B.rd mt;exact qP (n:=118) h1 h2 (by omega)
    ·rw[Ae];exact(AZ.mp hj).1
    ·rw[Al,hj];rfl
    ·rw[Al] at ek;obtain⟨v,ev,rfl⟩:=Ap.mp ek;cases c:Da.eq (eJ v) (eJ u) with
     |false=>rfl
     |true=>
      have:=B.one (i:=k+1) (j:=j+1) (by simpa using ev) (by simpa using hj) (aep c);lia
    ·rw[mH];have B2:=(B.perm ((jy hj).cons _)).setF (.lst (zf (rest.eraseIdx j)));exact⟨[],u,q0,rest.eraseIdx j,_,_,_,_,rfl,(AW ks).symm▸B2,q9,hq0,(AW ks).symm▸hwq,Bb _,CZ ..⟩
  all_goals
   rintro τ' L' ⟨ms,u,q0,rest',c9,bH,c11,c12,rfl,B',hf,hq0,hwq,hms,hrl⟩;have m1:t1∈t1::u::rest':=by simp
   have m2:u∈t1::u::rest':=by simp
   obtain⟨ta1,tb1⟩:=B'.ht t1 m1;obtain⟨ta2,tb2⟩:=B'.ht u m2;have le1:=bA B' m1;have le2:=bA B' m2;rw[Ad] at le1 le2;refine qb ta1 (qb ta2 ⟨_,_,tb1,tb2,dS (by rw[Ae,Ae];omega),fun pp hpp=>?_⟩);have en:za t1.E++za u.E=za (t1.E++u.E):=by unfold za;rw[AF]
   rw[en];refine abu (E:=t1.E++u.E) (l:=x) (r:=q0) (k:=14) q9 (by rw[Ad];omega) (fun y' Q' h=>h) (fun _=>rfl) fun pe hpe=>?_;have s4:qj L' (qg (qg L' pp (.lst (za (t1.E++u.E)))) pe (.lst (za ((t1.E++u.E).filter fun z=>!decide (z=x\/z=q0))))):=(By hpp).trans (By hpe);have he4:qg (qg L' pp (.lst (za (t1.E++u.E)))) pe (.lst (za ((t1.E++u.E).filter fun z=>!decide (z=x\/z=q0)))) pe=some (.lst (za (xb t1.E u.E x q0))):=q9;have hpe':L' pe=none:=(By hpp).none hpe;generalize qg (qg L' pp (.lst (za (t1.E++u.E)))) pe (.lst (za ((t1.E++u.E).filter fun z=>!decide (z=x\/z=q0))))=L4 at s4 he4;have done:∀(R:Ru) pa,L4 pa=none->(R=.cu x q0 t1.R u.R\/R=.cu q0 x u.R t1.R)->Q .non (qg (qg L4 pa (.lst [ze R,.ref pe])) fa (.lst (zf rest'++[.ref pa]))):=fun R pa hpa hR=>by
    have er:zf rest'++[.ref pa]=zf (rest'++[⟨pa,pe,R,xb t1.E u.E x q0⟩]):=by unfold zf;rw[AF];rfl
    rw[er];exact q _ (ks++ms) (rest'++[⟨pa,pe,R,xb t1.E u.E x q0⟩]) ⟨(ad6 B' hf hx hq0 (hw.more ms) hwq s4 hpe' he4 hpa hR).setF _,q9⟩ (by rw[Ad];omega) (by simp) (by rw[Ad];simp;omega)
   refine⟨(by show(0:Int)<2;decide),?_⟩;show kh (decide (one % 2=0)) _ _;refine j8 (fun c=>?_) fun c=>?_
   ·refine qb (s4 _ _ hf) (qb (s4 _ _ ta1) (qb (s4 _ _ ta2) fun pa hpa=>?_));refine qk (By hpa _ _ (s4 _ _ hf)) ⟨big _ (by rw[lenR];omega),?_⟩;exact xr (done _ pa hpa (.inl rfl))
   ·refine qb (s4 _ _ hf) (qb (s4 _ _ ta2) (qb (s4 _ _ ta1) fun pa hpa=>?_));refine qk (By hpa _ _ (s4 _ _ hf)) ⟨big _ (by rw[lenR];omega),?_⟩;exact xr (done _ pa hpa (.inr rfl))
def ak7(p0:jw)(p1:jw)(p2:jw)(p3:jw)(p4:jw):wv:=(qp (zr (ve qr) (qf 3))
 (qp (zr (ve qr) (qf 4))
 (qp (eO (lZ (qa 0)) (wo 2 (zg (qf 5) (zg (qf 6) vz))) (qp (aio 7 8 (qe (qt p0 (qe (qa 6) (k8 (qa 5) (jk 48271)))) (qe (qt p0 (qe (qa 6) (k8 (qa 5) (jk 69621)))) qr)))
 (qp (xc (yB (zn yGt (zn wz (zn wz (bM 3) (bM 4)) (jk 12)) (qa 2))) agi js)
 (qp (zr (zn w9 (qa 7) (jk 9)) (qf 9))
 (qp (zr (zn aw (qa 7) (jk 9)) (qf 7))
 (xc (yOr (yB (zn zT (qa 9) (jk 3))) (fJ (qa 4) (ve qr))) (qp (j9 (aW zu (qa 3) (qe (vk (qe (fE "plain") (qe (qt p1 (qe (qa 1) (qe (zn w9 (qa 8) (jk 3)) qr))) qr))) qr)))
 (qp (j9 (aW zu (qa 3) (qe (vk (qe (fE "turned") (qe (qt p1 (qe (qa 1) (qe (zn w9 (qa 8) (jk 3)) qr))) qr))) qr)))
 (da (xc (fJ (zn w9 (qa 7) (jk 2)) (jk 1)) (j9 (aW zu (qa 3) (qe (aW cw (qa 3) (qe (zn hG (bM 3) (jk 2)) qr)) qr))) js)
 (qp (zr (zn hG (bM 3) (jk 2)) (qf 10))
 (j9 (aW zu (qa 4) (qe (ve (qe (vk (qe (fE "link") (qe (qa 10) (qe (zn wz (qa 10) (jk 1)) qr)))) (qe (ve (qe (qa 10) (qe (zn wz (qa 10) (jk 1)) qr))) qr))) qr))))))) (xc (yB (zn zT (qa 9) (jk 6))) (j9 (qt p2 (qe (qa 3) (qe (zn ax (qa 4) (zn w9 (qa 8) (bM 4))) (qe (qa 7) (qe (zn aw (qa 8) (jk 64)) qr)))))) (xc (eL (yB (zn zT (qa 9) (jk 8))) (yB (zn yGt (bM 4) (jk 1)))) (j9 (qt p3 (qe (qa 3) (qe (qa 4) (k8 (qa 7) (qa 8)))))) (j9 (qt p4 (qe (qa 3) (qe (qa 4) (k8 (qa 7) (qa 8))))))))))))))
 (da (xc (fJ (qa 4) (ve qr)) (qp (j9 (aW zu (qa 3) (qe (vk (qe (fE "turned") (qe (qt p1 (k8 (qa 1) (jk 0))) qr))) qr)))
 (qp (j9 (aW zu (qa 3) (qe (vk (qe (fE "plain") (qe (qt p1 (k8 (qa 1) (jk 0))) qr))) qr)))
 (j9 (aW zu (qa 4) (qe (ve (qe (vk (qe (fE "link") (k8 (jk 0) (jk 1)))) (qe (ve (k8 (jk 0) (jk 1))) qr))) qr))))) js)
 (qp (ot (yB (zn yGt (bM 4) (jk 1))) (j9 (qt p3 (qe (qa 3) (qe (qa 4) (qe (zn wz (zn aw (qa 1) (jk 7)) (bM 4)) (qe (zn aw (qa 1) (jk 3)) qr)))))))
 (jr (vk (qe (qa 3) (qe (zn ax (xu 4 0) (jk 0)) qr)))))))))
theorem m4.mono(h:m4 L0 L ka fa ks fo)(s:qj L L'):m4 L0 L' ka fa ks fo:=⟨h.b.mono s,s _ _ h.hf⟩
theorem bU.plus{LF:qm}{ms:List Kn}{t':Tr}{fs:LO}(B:bU L0 L ka fa ks rest)(hf:L fa=some fs)(sA:qj (qg L ka (.lst (ja (ks++ms)))) LF)(ea:LF t'.a=some (.lst [ze t'.R,.ref t'.b]))(eb:LF t'.b=some (.lst (za t'.E)))
 (na2:qg L ka (.lst (ja (ks++ms))) t'.a=none) (nb2:qg L ka (.lst (ja (ks++ms))) t'.b=none) (nab:t'.a≠t'.b) (ok:a9 (ks++ms)) (sr:SR (ks++ms) t'.R t'.E) (tm:∀x,x∈qz t'.R↔ks.length≤x/\x<ks.length+ms.length) (nd:(qz t'.R).Nodup):
 bU L0 LF ka fa (ks++ms) (rest++[t']):=by
 have keep:∀z o,z≠ka->L z=some o->LF z=some o:=fun z o n e=>sA _ _ (by rw[qd n];exact e);refine bU.step (old:=[]) (rest:=rest) (ms:=ms) (t':=t') B (sA _ _ q9) ⟨ea,eb⟩ (fun t ht=>?_) (fun z o e=>?_) ?_ (fun z hz=>?_) ok sr ?_
 ·obtain⟨n1,n2,n3,n4⟩:=B.nk t ht;obtain⟨h1,h2⟩:=B.ht t ht;rw[h1,h2];exact⟨keep _ _ n3 h1,keep _ _ n4 h2⟩
 ·exact keep _ _ (fun z=>by rw[z,B.fr ka (by simp)] at e;cases e) (B.sub _ _ e)
 ·have:=uG (L:=qg L ka (.lst (ja (ks++ms)))) B.ad (fun z hz=>?_) na2 nb2 nab
  ·rw[AM];simpa[Tr.ads] using this
  ·by_cases c:z=ka
   ·rw[c];exact⟨_,q9⟩
   ·rw[qd c];rcases Av.mp hz with rfl | hz
    ·exact absurd rfl c
    ·rcases Av.mp hz with rfl | hz
     ·exact⟨_,hf⟩
     ·exact B.exs z hz
 ·have hz:z=t'.a\/z=t'.b:=by simpa[Tr.ads] using hz
  cases e:L0 z with
  |none=>rfl
  |some o=>
   have n:z≠ka:=fun z'=>by rw[z',B.fr ka (by simp)] at e;cases e
   have:=B.sub _ _ e;have e2:qg L ka (.lst (ja (ks++ms))) z=some o:=by rw[qd n];exact this
   rcases hz with rfl | rfl
   ·rw[na2] at e2;cases e2
   ·rw[nb2] at e2;cases e2
 ·rw[Dm,AW];exact(A9 nd DK).mpr fun z=>by rw[tm,Dc]
theorem m4.link(F:m4 L0 L ka fa ks fo){nm:Str}(hn:dr nm)(b:Bool){pb:Addr}(hb:qg L ka (.lst (ja (ks++[.lf b nm,.lf (!b) nm]))) pb=none)
 (ha:qg (qg L ka (.lst (ja (ks++[.lf b nm,.lf (!b) nm])))) pb (.lst (za [ks.length,ks.length+1])) pa=none) {fs:List Y} (hfs:fs=zf fo++[.ref pa]):
 m4 L0 (qg (qg (qg (qg L ka (.lst (ja (ks++[.lf b nm,.lf (!b) nm])))) pb (.lst (za [ks.length,ks.length+1]))) pa (.lst [ze (.link ks.length (ks.length+1)),.ref pb])) fa (.lst fs)) ka fa (ks++[.lf b nm,.lf (!b) nm]) (fo++[⟨pa,pb,.link ks.length (ks.length+1),[ks.length,ks.length+1]⟩]):=by
 have nab:pb≠pa:=w5 q9 ha;have M:=tO F.b.ok (t:=!b) hn;rw[Bool.not_not] at M;refine⟨(bU.plus F.b F.hf ((By hb).trans (By ha)) q9 (by rw[qd nab];exact q9) ((By hb).none ha) hb (AN nab) M.ok M.sr M.tm M.nd).setF _,?_⟩;rw[q9,hfs];unfold zf;rw[AF];rfl
theorem bU.dats(h:bU L0 L ka fa ks fo)(hl:ks.length≤120):Paired (ju L 124) (zf fo) (fo.map eJ):=by
 have dd:∀l:List Tr,(∀t∈l,t∈fo)->Paired (ju L 124) (zf l) (l.map eJ):=fun l=>by
  induction l with
  |nil=>intro _;exact .nil
  |cons t r ih=>
   intro k;have mt:=k t (As ..);obtain⟨h1,h2⟩:=h.ht t mt;have:=h.rd mt;exact .cons (qP (n:=122) h1 h2 (by lia)) (ih fun t ht=>k t (Ah _ ht))
 exact dd fo fun t ht=>ht
theorem vL(fo:List Tr):Da.eqs (fo.map eJ) []=decide (fo=[]):=by cases fo<;>rfl
def pP:jw:=fun ys L Q=>∃cy,∃ns:List Int,∃s:Int,∃room:Nat,ys=[cy,.int s,.int (room:Int)]/\cy=.sq (ns.map Y.int)/\ns.length≤1000/\room≤120/\
 ∀ka ks R E,L ka=none->a9 ks->SR ks R E->(qz R).Perm (List.range ks.length)->ks.length≤max room 2->Q (.tup [.ref ka,ze R]) (qg L ka (.lst (ja ks)))
def TW(L0:qm)(ka fa:Addr)(s:Int)(room:Nat)(τ:jp)(L:qm):Prop:=∃c0 c5 c6 c7 c8 c9 bH ks fo,τ=[c0,some (.int s),some (.int (room:Int)),some (.ref ka),some (.ref fa),c5,c6,c7,c8,c9,bH]/\m4 L0 L ka fa ks fo/\ks.length+fo.length≤room
theorem TW.of{s:Int}{room:Nat}{c0 c5 c6 c7 c8 c9 bH:Option Y}(F:m4 L0 L ka fa ks fo)(h:ks.length+fo.length≤room):TW L0 ka fa s room [c0,some (.int s),some (.int (room:Int)),some (.ref ka),some (.ref fa),c5,c6,c7,c8,c9,bH] L:=⟨_,_,_,_,_,_,_,ks,fo,rfl,F,h⟩
theorem aga:∀ys L Q,pP ys L Q->xx (ak7 dy kI lB oj o5) 11 ys L Q:=by
 rintro ys L Q ⟨cy,ns,s,room,rfl,hcy,hns,hroom,q⟩;have big:=bg_;have lenR:∀fo:List Tr,(zf fo).length=fo.length:=fun fo=>Ae ..;have lenK:∀ks:List Kn,(ja ks).length=ks.length:=fun ks=>Ae ..;intro ka hka fa hfa;have nkf:ka≠fa:=w5 q9 hfa;have hfa':L fa=none:=(By hka).none hfa;have F0:m4 L (qg (qg L ka (.lst [])) fa (.lst [])) ka fa [] []:=by
  refine⟨⟨by rw[qd nkf];exact q9,fun t ht=>by simp at ht,fun t ht=>by simp at ht,by simp,by simp,by simp[nkf],fun p k e=>by simp at e,(By hka).trans (By hfa),fun x hx=>?_⟩,q9⟩;rcases Av.mp hx with rfl | hx
  ·exact hka
  ·rw[Aw.mp hx];exact hfa'
 generalize qg (qg L ka (.lst [])) fa (.lst [])=L1 at F0;subst hcy
 all_goals
  refine wm ⟨fun _ τ L'=>TW L ka fa s room τ L',?_,?_,?_,?_⟩
  ·exact TW.of F0 (Bb _)
  ·rintro i τ L' ⟨c0,c5,c6,c7,c8,c9,bH,ks,fo,rfl,F,hb⟩;exact True.intro
  ·rintro i y τ L' ey ⟨c0,c5,c6,c7,c8,c9,bH,ks,fo,rfl,F,hb⟩;obtain⟨z,ez,rfl⟩:=gM ey;obtain⟨cell,ec,rfl⟩:∃cell:Int,ns[i]?=some cell/\z=Y.int cell:=by rw[Al] at ez;obtain⟨z,e1,e2⟩:=Ap.mp ez;exact⟨z,e1,e2.symm⟩
   have hi:=(AZ.mp ec).1;refine⟨cell,((i:Nat):Int),48271,rfl,by exact AY _,by omega,by decide,by decide,fun one h1 h1'=>⟨cell,((i:Nat):Int),69621,rfl,by exact AY _,by omega,by decide,by decide,fun two h2 h2'=>?_⟩⟩;refine qb F.b.hk (qb F.hf ?_);refine j8 (fun c=>?_) fun c=>?_
   ·exact⟨_,ED _,TW.of F hb⟩
   have c:¬((((ja ks).length:Nat):Int)+(((zf fo).length:Nat):Int)+12 > (room:Int)):=c;rw[lenK,lenR] at c;refine⟨(by decide:(0:Int)<9),⟨by decide,by decide⟩,?_⟩;refine j8 (fun c3=>?_) fun c3=>?_
   case' refine_1=>
    obtain⟨L2,eL2⟩:∃L2,L2=L':=⟨_,rfl⟩;rw[<-eL2];have F':m4 L L2 ka fa ks fo:=by rw[eL2];exact F
   case' refine_2=>
    intro p hp;refine cD (by decide) (By hp _ _ F.hf) q9 ((F.b.mono (By hp)).dats (by lia)) (.nil:Paired (ju _ 0) _ []) ?_;show kh (Da.eqs (fo.map eJ) []) _ _;rw[vL];have F':m4 L (qg L' p (.lst [])) ka fa ks fo:=F.mono (By hp);generalize qg L' p (.lst [])=L2 at F';refine j8 (fun c0=>?_) fun c0=>?_
   case' refine_2.refine_2=>
    have hfo:0<fo.length:=by cases fo with | nil=>exact absurd rfl c0 | cons _ _=>simp
    have F:=F';refine j8 (fun c6=>?_) fun c6=>?_
    ·obtain⟨j,t,ej,lj,et⟩:=hU hfo two;refine qb F.hf ⟨(by show(0:Int)<((zf fo).length:Int);rw[lenR];lia),qb F.hf (ql (v:=.ref t.a) (by show g9 (zf fo) (two % ((zf fo).length:Int))=_;rw[lenR,ej];exact k7 (by unfold zf;rw[Al,et];rfl)) ?_)⟩;obtain⟨pre,post,ep⟩:=Cs (AH et);rw[ep] at F hb;refine⟨⟨by decide,by decide⟩,L,ka,fa,ks,pre,post,t,one / 9,two / 64,rfl,F,by lia,fun L3 ks' fo' F3 h1 h2=>?_⟩;refine⟨_,ED _,?_⟩;exact TW.of F3 (by rw[ep] at c;lia)
    refine j8 (fun c8=>?_) fun c8=>?_
    ·refine qb F.hf ?_;refine j8 (fun c1=>?_) fun c1=>?_
     ·have c1:(((zf fo).length:Nat):Int) > 1:=c1;rw[lenR] at c1;refine⟨L,ka,fa,ks,fo,one / 9,two,rfl,F,by lia,by lia,by lia,fun L3 ks' fo' F3 h1 h2=>?_⟩;refine⟨_,ED _,?_⟩;exact TW.of F3 (by lia)
     ·refine⟨L,ka,fa,ks,fo,one / 9,two,rfl,F,by assumption,by lia,by lia,fun L3 ks' fo' F3 h1 h2 h3=>?_⟩;refine⟨_,ED _,?_⟩;exact TW.of F3 (by lia)
    ·refine⟨L,ka,fa,ks,fo,one / 9,two,rfl,F,by lia,by lia,by lia,fun L3 ks' fo' F3 h1 h2 h3=>?_⟩;refine⟨_,ED _,?_⟩;exact TW.of F3 (by lia)
   all_goals
    obtain⟨nm,enm⟩:∃nm,nm=mkS (a7 s (two % 3)):=⟨_,rfl⟩;have hnm:dr nm:=by rw[enm];exact rJ _ _
    refine qb F'.b.hk ⟨(by decide:(0:Int)<3),s,two % 3,rfl,qk F'.b.hk ⟨big _ (by rw[lenK];omega),?_⟩⟩;refine qb q9 ⟨(by decide:(0:Int)<3),s,two % 3,rfl,qk q9 ⟨big _ (by rw[Ad,lenK];simp;omega),?_⟩⟩;rw[<-enm,vt];have e1:(ja ks++[.tup [.str "plain",.str nm]])++[.tup [.str "turned",.str nm]]=ja (ks++[.lf false nm,.lf true nm]):=by unfold ja;rw[AF,AA];rfl
    rw[e1];refine⟨fun τ L3=>∃(b:Bool) (d0 d10:Option Y),τ=[d0,some (.int s),some (.int (room:Int)),some (.ref ka),some (.ref fa),some (.int ((i:Nat):Int)),some (.int cell),some (.int (one / 9)),some (.int two),some (.int (one % 9)),d10]/\L3=qg L2 ka (.lst (ja (ks++[.lf b nm,.lf (!b) nm]))),?_,?_⟩
    ·refine⟨(by decide:(0:Int)<2),?_⟩;show kh (decide (one / 9 % 2=1)) _ _;refine j8 (fun c2=>?_) fun c2=>?_
     ·have l2:(ja (ks++[Kn.lf false nm,.lf true nm])).length=ks.length+2:=by rw[lenK,Ad];rfl
      have t2:((((ja (ks++[Kn.lf false nm,.lf true nm])).length:Nat):Int) - 2).toNat=ks.length:=by rw[l2];omega
      refine qb q9 (qb q9 (qb q9 (qk q9 ⟨?_,?_,ql (v:=pN (.lf false nm)) ?_ ?_⟩)))
      ·show(0:Int)≤(((ja (ks++[Kn.lf false nm,.lf true nm])).length:Nat):Int) - 2;rw[l2];omega
      ·show(((ja (ks++[Kn.lf false nm,.lf true nm])).length:Nat):Int) - 2<_;omega
      ·show(ja (ks++[Kn.lf false nm,.lf true nm]))[((((ja (ks++[Kn.lf false nm,.lf true nm])).length:Nat):Int) - 2).toNat]?=_;rw[t2];unfold ja;rw[Al,cg];rfl
      ·rw[vt];refine qk q9 ⟨big _ ?_,?_⟩
       ·refine AS (CZ ..) ?_;show(ja (ks++[Kn.lf false nm,.lf true nm])).length≤20000;rw[l2];omega
       ·refine⟨true,_,_,rfl,?_⟩;rw[vt];have e3:(ja (ks++[Kn.lf false nm,.lf true nm])).eraseIdx ((((ja (ks++[Kn.lf false nm,.lf true nm])).length:Nat):Int) - 2).toNat++[pN (.lf false nm)]=ja (ks++[.lf true nm,.lf false nm]):=by rw[t2];unfold ja;rw[AF,C1 (by simp),Ae,CK,AF,AA];rfl
        rw[e3];rfl
     ·exact⟨false,_,_,rfl,rfl⟩
    ·rintro τ3 L3 ⟨b,d0,d10,rfl,rfl⟩;have l2:(ja (ks++[Kn.lf b nm,.lf (!b) nm])).length=ks.length+2:=by rw[lenK,Ad];rfl
     have nn:(((ja (ks++[Kn.lf b nm,.lf (!b) nm])).length:Nat):Int) - 2=((ks.length:Nat):Int):=by rw[l2];omega
     have hf3:qg L2 ka (.lst (ja (ks++[.lf b nm,.lf (!b) nm]))) fa=some (.lst (zf fo)):=by rw[qd (AN nkf)];exact F'.hf
     have en:∀z:Int,z=((ks.length:Nat):Int)->za [ks.length,ks.length+1]=[.int z,.int (z+1)]:=fun z e=>by rw[e];rfl
     have er:∀z:Int,z=((ks.length:Nat):Int)->ze (.link ks.length (ks.length+1))=.tup [.str "link",.int z,.int (z+1)]:=fun z e=>by rw[e];rfl
     have en:=en _ nn;have er:=er _ nn;refine qb q9 (qb hf3 fun pb hpb pa hpa=>?_);have H:=F'.link hnm b (pb:=pb) (pa:=pa) hpb (by rw[en];exact hpa) rfl;refine qk (((By hpb).trans (By hpa)) _ _ hf3) ⟨big _ (by rw[lenR];omega),?_⟩;rw[en,er] at H;refine⟨_,ED _,?_⟩;exact TW.of H (by rw[Ad,Ad];simp;omega)
  ·rintro τ L' ⟨c0,c5,c6,c7,c8,c9,bH,ks,fo,rfl,F,hb⟩;refine⟨fun τ L3=>∃c0 c5 c6 c7 c8 c9 bH ks fo,τ=[c0,some (.int s),some (.int (room:Int)),some (.ref ka),some (.ref fa),c5,c6,c7,c8,c9,bH]/\m4 L L3 ka fa ks fo/\1≤fo.length/\ks.length+fo.length≤max room 3,?_,?_⟩
   ·intro p hp;refine cD (by decide) (By hp _ _ F.hf) q9 ((F.b.mono (By hp)).dats (by lia)) (.nil:Paired (ju _ 0) _ []) ?_;show kh (Da.eqs (fo.map eJ) []) _ _;rw[vL];have F':m4 L (qg L' p (.lst [])) ka fa ks fo:=F.mono (By hp);generalize qg L' p (.lst [])=L2 at F';refine j8 (fun c0=>?_) fun c0=>?_
    ·subst c0;have k0:ks=[]:=by cases ks with|nil=>rfl|cons k r=>exact absurd ((F.b.tm 0).mpr (by simp)) (by simp)
     subst k0;obtain⟨nm,enm⟩:∃nm,nm=mkS (a7 s 0):=⟨_,rfl⟩;have hnm:dr nm:=by rw[enm];exact rJ _ _
     refine qb F'.b.hk ⟨s,0,rfl,qk F'.b.hk ⟨big _ (by decide),?_⟩⟩;refine qb q9 ⟨s,0,rfl,qk q9 ⟨big _ (by show 1≤20000;decide),?_⟩⟩;rw[<-enm,vt];have hf3:∀o,qg L2 ka o fa=some (.lst (zf [])):=fun o=>by rw[qd (AN nkf)];exact F'.hf
     refine qb (hf3 _) fun pb hpb pa hpa=>?_;have H:=F'.link hnm true (pb:=pb) (pa:=pa) hpb hpa rfl;refine qk (((By hpb).trans (By hpa)) _ _ (hf3 _)) ⟨big _ (by show 0≤20000;decide),?_⟩;exact⟨_,_,_,_,_,_,_,_,_,rfl,H,by simp,by simp;lia⟩
    ·exact⟨_,_,_,_,_,_,_,ks,fo,rfl,F',(by cases fo with | nil=>exact absurd rfl c0 | cons _ _=>simp),by lia⟩
   ·rintro τ L' ⟨c0,c5,c6,c7,c8,c9,bH,ks,fo,rfl,F,h1,hb⟩;refine⟨fun m τ L3=>∃c0 c5 c6 c7 c8 c9 bH ks fo,τ=[c0,some (.int s),some (.int (room:Int)),some (.ref ka),some (.ref fa),c5,c6,c7,c8,c9,bH]/\m4 L L3 ka fa ks fo/\1≤fo.length/\fo.length=m/\ks.length+fo.length≤max room 3,⟨_,_,_,_,_,_,_,_,_,_,rfl,F,h1,rfl,hb⟩,?_⟩;rintro m τ L' ⟨c0,c5,c6,c7,c8,c9,bH,ks,fo,rfl,F,h1,hm,hb⟩;refine qb F.hf ?_;refine j8 (fun c1=>?_) fun c1=>?_
    ·have c1:(((zf fo).length:Nat):Int) > 1:=c1;rw[lenR] at c1;refine⟨fun τ L3=>∃c0 c5 c6 c7 c8 c9 bH ks fo,τ=[c0,some (.int s),some (.int (room:Int)),some (.ref ka),some (.ref fa),c5,c6,c7,c8,c9,bH]/\m4 L L3 ka fa ks fo/\1≤fo.length/\fo.length+1=m/\ks.length+fo.length≤max room 3,?_,?_⟩
     ·rintro τ L3 ⟨d0,d5,d6,d7,d8,d9,d10,ks',fo',rfl,F3,g1,g2,g3⟩;exact⟨m - 1,by lia,_,_,_,_,_,_,_,_,_,rfl,F3,g1,by lia,g3⟩
     ·refine⟨⟨by decide,by decide⟩,qb F.hf ⟨⟨by decide,by decide⟩,L,ka,fa,ks,fo,_,_,rfl,F,by lia,by lia,by lia,fun L3 ks' fo' F3 g1 g2=>?_⟩⟩;exact⟨_,ED _,_,_,_,_,_,_,_,ks',fo',rfl,F3,by lia,by lia,by lia⟩
    ·have c1:¬((((zf fo).length:Nat):Int) > 1):=c1;rw[lenR] at c1;obtain⟨t,rfl⟩:∃t,fo=[t]:=by
      match fo,h1,c1 with
      |[t],_,_=>exact⟨t,rfl⟩
      |t::u::r,_,c=>exact absurd (show(((t::u::r).length:Nat):Int) > 1 by simp;lia) c
     have ta:=(F.b.ht t (As ..)).1;refine qb F.hf (qb ta ?_);refine iy (qj.put F.b.sub F.b.hk) (q ka ks t.R t.E hka F.b.ok (F.b.sr t (As ..)) ?_ ?_)
     ·have nd:=F.b.nd;have tm:=F.b.tm;simp at nd tm;exact(A9 nd Co).mpr fun x=>by rw[tm,AV]
     ·simp at hb;lia
def dq(p q:Nat×Nat):Prop:=p.1<q.1\/(p.1=q.1/\p.2≤q.2)
def ig(p:Nat×Nat):Int×Int:=((p.1:Int),(p.2:Int))
theorem oT{p q:Nat×Nat}(h:ig p=ig q):p=q:=by obtain⟨a,b⟩:=p;obtain⟨c,d⟩:=q;have h1:(a:Int)=c:=BI Prod.fst h;have h2:(b:Int)=d:=BI Prod.snd h;rw[Cc.mp h1,Cc.mp h2]
theorem gS(ps:List (Nat×Nat)):zc ps=(ps.map ig).map prY:=by rw[BC];rfl
theorem nZ{a:Addr}{ps:List (Nat×Nat)}{Q:YK}(ha:L a=some (.lst (zc ps)))(hb:∀p∈ps,p.2<1000000)(nd:ps.Nodup)(hl:ps.length≤100000)
 (q:∀D qs,L D=none->qs.Perm ps->qs.Pairwise dq->Q (.ref D) (qg L D (.lst (zc qs)))):aQ [.ref a] L Q:=by
 refine qk ha ⟨ps.map ig,gS ps,fun p hp=>?_,?_,by rw[Ae];exact hl,fun D qs hD pm pw=>?_⟩
 ·obtain⟨r,hr,rfl⟩:=Bp.mp hp;have:=hb r hr;exact⟨AY _,by show((r.2:Nat):Int)<1000000;omega⟩
 ·exact bE (fun x _ y _ e=>oT e) nd
 ·obtain⟨T,pT,rfl⟩:=mo ig pm rfl;rw[<-gS];refine q D T hD pT ((BH.mp pw).imp fun {x y} z=>?_);unfold dq;rcases z with z | ⟨z1,z2⟩
  ·left;have z:((x.1:Nat):Int)<y.1:=z;lia
  ·right;have z1:((x.1:Nat):Int)=y.1:=z1;have z2:((x.2:Nat):Int)≤y.2:=z2;exact⟨by lia,by lia⟩
theorem sV{m:Nat×Nat->Nat×Nat}{keep:qm->Prop}{Q:YK}(hz:lk.length≤1000)(hk:keep L)
 (turn:∀(i:Nat) (pr:Nat×Nat) (R:List Y->qm->Prop) zs,lk[i]?=some pr->R (zs++[sm (m pr)]) L->g (sm pr) (τ++List.replicate 2 none) L fun τ2 L2=>tc τ2 L2 fun b L3=>kh b (te τ2 L3 fun z L4=>R (zs++[z]) L4) (R zs L3))
 (hq:∀p,L p=none->Q (.ref p) (qg L p (.lst (zc (lk.map m))))):wC (zc lk) keep 2 g tc te τ L Q:=by
 refine bR (fun i zs=>zs=zc ((lk.take i).map m)) (by rw[Ae];exact Bv hz (by decide)) hk rfl ?_ ?_
 ·rintro i y zs ey rfl;rw[Al] at ey;obtain⟨pr,ek,rfl⟩:=Ap.mp ey;refine turn i pr _ _ ek ⟨L,ED _,rfl,?_⟩;rw[Bq,ek,AF];show _=(_++_:List (Nat×Nat)).map sm;rw[AF];rfl
 ·rintro zs rfl p hp;rw[Ae,Bm];exact hq p hp
structure uJ(L0:qm)(ks:List (Option Kn))(qs:List Nat)(d w D:Addr)(i ex:Nat)(f:Nat->Nat)(wd:List (Option Kn))(kvs:List (jl×Y))(L:qm):Prop where
 sub:qj L0 L
 hd:L d=some (.dct kvs)
 hw:L w=some (.lst (v9 wd))
 hD:L D=some (.lst (nY qs))
 len:kvs.length≤i
 val:∀p:Nat,aX kvs (.inl (p:Int))=if p∈qs.take i then some (.int ((f p:Nat):Int)) else none
 gap:qU ks (qs.take i) f wd
 wlen:wd.length≤2*i+ex
def mmP(f:Nat->Nat)(p:Nat×Nat):Nat×Nat:=(min (f p.1) (f p.2),max (f p.1) (f p.2))
def ppP(f:Nat->Nat)(p:Nat×Nat):Nat×Nat:=(f p.1,f p.2)
structure zG(f:Nat->Nat)(ks wd:List (Option Kn)):Prop where
 gap:qU ks (List.range ks.length) f wd
 len:wd.length≤2*ks.length+1
def hZ(Pt:Addr):jw:=fun ys L Q=>∃a l c,∃ks:List (Option Kn),∃lk ct:List (Nat×Nat),∃s:Int,∃b:Bool,ys=[.ref a,.ref l,.ref c,.int s,.bl b]/\L a=some (.lst (v9 ks))/\L l=some (.lst (zc lk))/\L c=some (.lst (zc ct))/\m9 ks/\ks.length≤400/\L Pt=some (.tb lamQ)/\
 lk.Nodup/\(∀p∈lk,p.1<p.2/\p.2<ks.length)/\lk.length≤1000/\ct.Nodup/\(∀p∈ct,p.1<ks.length/\p.2<ks.length)/\ct.length≤1000/\
 ∀f wd lk' ct' wa la ca L',zG f ks wd->lk'.Perm (lk.map (mmP f))->lk'.Pairwise dq->ct'.Perm (ct.map (ppP f))->ct'.Pairwise dq->qj L L'->L wa=none->L la=none->L ca=none->wa≠la->wa≠ca->la≠ca->L' wa=some (.lst (v9 wd))->L' la=some (.lst (zc lk'))->L' ca=some (.lst (zc ct'))->Q (sJ wa la ca) L'
theorem fu(wd:List (Option Kn))(k:Option Kn):v9 wd++[mN k]=v9 (wd++[k]):=by unfold v9;rw[AF];rfl
theorem ww(wd:List (Option Kn)):(v9 wd).length=wd.length:=Ae ..
theorem uJ.wide{ks:List (Option Kn)}{d w D:Addr}{ex ex':Nat}{f:Nat->Nat}{wd':List (Option Kn)}{kvs:List (jl×Y)}(G:uJ L0 ks qs d w D i ex f wd kvs L)(h0:L0 w=none)(ndw:d≠w)(nwD:w≠D)(g:qU ks (qs.take i) f wd')(h:wd'.length≤2*i+ex'):
 uJ L0 ks qs d w D i ex' f wd' kvs (qg L w (.lst (v9 wd'))):=
 ⟨G.sub.upd h0,(qd ndw).trans G.hd,q9,(qd (AN nwD)).trans G.hD,G.len,G.val,g,h⟩
theorem qU.gaps{ks:List (Option Kn)}{ps:List Nat}{f:Nat->Nat}(h:qU ks ps f wd):∀n,qU ks ps f (wd++List.replicate n none)
 |0=>by rw[List.replicate_zero,AW];exact h
 |n+1=>by rw[Dt,<-AA];exact(h.gaps n).gap
theorem al7{a b c:Nat}(h1:min a b=min c d)(h2:max a b=max c d):(a=c/\b=d)\/(a=d/\b=c):=by lia
theorem xX :∀ys L Q,hZ Pt ys L Q->xx (m6 (lW Pt) dy) 9 ys L Q:=by
 rintro ys L Q ⟨a,l,c,ks,lk,ct,s,b,rfl,ha,hl,hc,ok,hz,hP,nd1,hlk,hz1,nd2,hct,hz2,q⟩;have big:=bg_;intro d hd w hw;have hw0:L w=none:=xz hw;have ndw:d≠w:=w5 q9 hw;have s0:qj L (qg (qg L d (.dct [])) w (.lst [])):=(By hd).trans (By hw);refine⟨a,ks,s,rfl,s0 _ _ ha,ok,by exact cV,s0 _ _ hP,fun D qs hD pm pf=>?_⟩;have hD0:L D=none:=xz (xz hD);have nwD:w≠D:=w5 q9 hD;have ndD:d≠D:=w5 ((qd ndw).trans q9) hD;have lq:qs.length=ks.length:=by rw[pm.length_eq,B7]
 have ndq:qs.Nodup:=pm.nodup_iff.mpr Co;have mq:∀p∈qs,p<ks.length:=fun p hp=>AV.mp (pm.mem_iff.mp hp);have G0:uJ L ks qs d w D 0 0 (fun _=>0) [] [] (qg (qg (qg L d (.dct [])) w (.lst [])) D (.lst (nY qs))):=
  ⟨s0.trans (By hD),(qd ndD).trans ((qd ndw).trans q9),(qd nwD).trans q9,q9,Ao _,fun p=>rfl,qU.nil _ _,Ao _⟩
 refine x4 q9 fun keep kp=>wm ⟨fun i τ L'=>∃f wd kvs c7 c8,τ=[some (Y.ref a),some (Y.ref l),some (Y.ref c),some (.int s),some (.bl b),some (Y.ref d),some (Y.ref w),c7,c8]/\uJ L ks qs d w D i 0 f wd kvs L',⟨_,_,_,_,_,rfl,G0⟩,?_,?_,?_⟩
 ·rintro i τ L' ⟨f,wd,kvs,c7,c8,rfl,G⟩;exact kp L' (by rw[G.hD,q9])
 ·rintro i y τ L' hy ⟨f,wd,kvs,c7,c8,rfl,G⟩;obtain⟨p,ep,rfl⟩:=uC hy;have hi:=zo ep;have hp:p<ks.length:=mq p (AH ep);obtain⟨k,hk⟩:∃k,ks[p]?=some k:=⟨_,Aj hp⟩;have pn:p∉qs.take i:=fun hm=>by
   have e2:qs=qs.take i++p::qs.drop (i+1):=by rw[Aj hi] at ep;rw[<-Be ep,C9,Bj]
   have nd:=ndq;rw[e2] at nd;exact(Aq.mp nd).2.2 p hm p (As ..) rfl
  have et:qs.take (i+1)=qs.take i++[p]:=by rw[Bq,ep];rfl
  refine⟨fun τ' L1=>∃wd',τ'=[some (Y.ref a),some (Y.ref l),some (Y.ref c),some (.int s),some (.bl b),some (Y.ref d),some (Y.ref w),some (.int (p:Nat)),c8]/\uJ L ks qs d w D i 1 f wd' kvs L1,?_,?_⟩
  ·have plain:uJ L ks qs d w D i 1 f wd kvs L':=⟨G.sub,G.hd,G.hw,G.hD,G.len,G.val,G.gap,by have:=G.wlen;exact aiu⟩;cases b with
   |false=>exact⟨wd,rfl,plain⟩
   |true=>
    refine⟨s,(p:Nat),40692,rfl,by exact AY _,by omega,by decide,by decide,fun v h0 h1=>?_⟩;refine⟨show(0:Int)<3 by decide,?_⟩;refine j8 (fun g=>?_) fun g=>⟨wd,rfl,plain⟩;refine qb G.hw (qk G.hw ⟨by rw[ww];have:=G.wlen;exact big _ (by lia),?_⟩);refine⟨wd++[none],rfl,?_⟩;have:=G.wide (wd':=wd++[none]) (ex':=1) hw0 ndw nwD G.gap.gap (by rw[Ad];have:=G.wlen;show wd.length+1≤_;exact u0);rw[<-fu] at this;exact this
  ·rintro τ' L1 ⟨wd',rfl,G1⟩;have hpar:∀e i' j',k=some (.nd e i' j')->i'∈qs.take i/\j'∈qs.take i:=fun e i' j' z=>kB ok pm pf ep (by rw[hk,z]);have hpar2:∀x∈qs.take i,∀e i' j',ks[x]?=some (some (.nd e i' j'))->i'∈qs.take i/\j'∈qs.take i:=fun x hx e i' j' z=>by
    obtain⟨n,hn⟩:=Ds hx;have hn2:=zo hn;rw[AK] at hn2;rw[DM (by lia)] at hn;obtain⟨h1,h2⟩:=kB ok pm pf hn z;have sb:∀y,y∈qs.take n->y∈qs.take i:=fun y hy=>by
     have:qs.take n=(qs.take i).take n:=by rw[List.take_take,BW (by lia)]
     rw[this] at hy;exact BE hy
    exact⟨sb _ h1,sb _ h2⟩
   have vp:∀y:Nat,aX (m7 kvs (.inl (p:Int)) (.int ((wd'.length:Nat):Int))) (.inl (y:Int))=if y∈qs.take i++[p] then some (.int (((if y=p then wd'.length else f y):Nat):Int)) else none:=fun y=>by
    rw[ab4];by_cases e:y=p
    ·subst e;rw[AD rfl,AD rfl,AD (Af _ (Aw.mpr rfl))]
    ·rw[Ay (fun z=>e (Cc.mp (Sum.inl.inj z))),Ay e,G1.val];by_cases h:y∈qs.take i
     ·rw[AD h,AD (Ar _ h)]
     ·rw[Ay h,Ay fun z=>(Ak.mp z).elim h fun z=>e (Aw.mp z)]
   have wl:=G1.wlen;have kl:=G1.len;refine qb G1.hw ?_;rw[ww];refine aF G1.hd ⟨big _ (by lia),?_⟩;have nad:a≠d:=w5 ha hd;refine qb ((qd nad).trans (G1.sub _ _ ha)) (ql (v0 hk) ?_);have hd2:∀{o},qg L1 d o d=some o:=q9;refine⟨fun τ' L2=>τ'=[some (Y.ref a),some (Y.ref l),some (Y.ref c),some (.int s),some (.bl b),some (Y.ref d),some (Y.ref w),some (.int (p:Nat)),some (mN (gq f k))]/\L2=qg L1 d (.dct (m7 kvs (.inl (p:Int)) (.int ((wd'.length:Nat):Int)))),?_,?_⟩
   ·cases k with
    |none=>exact⟨rfl,rfl⟩
    |some k=>
     cases k with
     |lf t n=>exact⟨rfl,rfl⟩
     |nd e p1 p2=>
      obtain⟨m1,m2⟩:=hpar e p1 p2 rfl;have v1:=vp p1;have v2:=vp p2;rw[AD (Ar _ m1),Ay fun(z:p1=p)=>pn (z▸m1)] at v1;rw[AD (Ar _ m2),Ay fun(z:p2=p)=>pn (z▸m2)] at v2;refine aF q9 (ql v1 ?_);refine aF q9 (ql v2 ?_);exact⟨rfl,rfl⟩
   ·rintro τ' L2 ⟨rfl,rfl⟩;have hw2:qg L1 d (.dct (m7 kvs (.inl (p:Int)) (.int ((wd'.length:Nat):Int)))) w=some (.lst (v9 wd')):=(qd (AN ndw)).trans G1.hw;refine qb hw2 (qk hw2 ⟨by rw[ww];exact big _ (by lia),?_⟩);rw[fu];have hb:∀x∈qs.take i,x<ks.length:=fun x hx=>mq x (BE hx);refine⟨_,ED _,fun x=>if x=p then wd'.length else f x,wd'++[gq f k],_,_,_,rfl,(G1.sub.upd hd).upd hw0,(qd ndw).trans q9,q9,(qd (AN nwD)).trans ((qd (AN ndD)).trans G1.hD),?_,fun y=>?_,?_,?_⟩
    ·have:=ab6 kvs (.inl (p:Int)) (.int ((wd'.length:Nat):Int));lia
    ·rw[et];exact vp y
    ·rw[et];exact G1.gap.step hb pn hk hpar2 hpar
    ·rw[Ad];show wd'.length+1≤_;exact u0
 ·rintro τ L' ⟨f,wd,kvs,c7,c8,rfl,G⟩;have eq:(nY qs).length=qs.length:=Ae ..;rw[eq] at G;have et:qs.take qs.length=qs:=Bm;have val:∀p,p<ks.length->aX kvs (.inl (p:Int))=some (.int ((f p:Nat):Int)):=fun p hp=>by rw[G.val,et,AD (pm.mem_iff.mpr (AV.mpr hp))]
  have gap:qU ks (List.range ks.length) f wd:=by have g:=G.gap;rw[et] at g;exact⟨fun p hp=>g.at_ p (pm.mem_iff.mpr hp),fun p hp r hr=>g.inj p (pm.mem_iff.mpr hp) r (pm.mem_iff.mpr hr),fun x k hx=>let ⟨r,hr,e⟩:=g.only x k hx;⟨r,pm.mem_iff.mp hr,e⟩,g.ok⟩
  have flt:∀p,p<ks.length->f p<wd.length:=fun p hp=>gap.lt (AV.mpr hp) hp;have inj:∀p r,p<ks.length->r<ks.length->f p=f r->p=r:=fun p r hp hr e=>gap.inj p (AV.mpr hp) r (AV.mpr hr) e;have wl:wd.length≤2*ks.length:=by have:=G.wlen;rw[lq] at this;lia
  refine x4 (G.sub _ _ hl) fun keep kp=>sV (m:=mmP f) hz1 (kp _ rfl) (fun i pr R zs epr hR=>?_) fun p1 hp1=>?_
  ·obtain⟨l1,l2⟩:=hlk pr (AH epr);have v1:=val pr.1 (by exact iu);have v2:=val pr.2 l2;refine aF G.hd (ql v1 ?_);refine aF G.hd (ql v2 ?_);refine aF G.hd (ql v1 ?_);refine aF G.hd (ql v2 ?_);have e1:min ((f pr.1:Nat):Int) ((f pr.2:Nat):Int)=((min (f pr.1) (f pr.2):Nat):Int):=ap6 _ _;have e2:max ((f pr.1:Nat):Int) ((f pr.2:Nat):Int)=((max (f pr.1) (f pr.2):Nat):Int):=arn _ _;have hR':R (zs++[.tup [.int (min ((f pr.1:Nat):Int) ((f pr.2:Nat):Int)),.int (max ((f pr.1:Nat):Int) ((f pr.2:Nat):Int))]]) L':=by rw[e1,e2];exact hR
   exact hR'
  have b1:∀p∈lk.map (mmP f),p.2<1000000:=fun p hp=>by obtain⟨r,hr,rfl⟩:=Bp.mp hp;obtain⟨h1,h2⟩:=hlk r hr;have:=flt r.1 (by lia);have:=flt r.2 h2;exact Nat.max_lt.mpr ⟨by lia,by lia⟩
  have n1:(lk.map (mmP f)).Nodup:=bE (fun x hx y hy e=>by
   obtain⟨x1,x2⟩:=hlk x hx;obtain⟨y1,y2⟩:=hlk y hy;have m1:min (f x.1) (f x.2)=min (f y.1) (f y.2):=BI Prod.fst e;have m2:max (f x.1) (f x.2)=max (f y.1) (f y.2):=BI Prod.snd e;have a1:x.1=y.1/\x.2=y.2:=by
    rcases al7 m1 m2 with⟨c1,c2⟩ | ⟨c1,c2⟩
    ·exact⟨inj x.1 y.1 (C4 x1 x2) (C4 y1 y2) c1,inj x.2 y.2 x2 y2 c2⟩
    ·have e3:=inj x.1 y.2 (C4 x1 x2) y2 c1;have e4:=inj x.2 y.1 x2 (C4 y1 y2) c2;rw[e3,e4] at x1;exact absurd x1 (Nat.lt_asymm y1)
   exact Ej a1.1 a1.2) nd1
  dsimp only[qr];refine nZ (ps:=lk.map (mmP f)) q9 b1 n1 (by rw[Ae];exact cV) fun D1 lk' hD1 pm1 pw1=>?_;have hp1':L p1=none:=G.sub.none hp1;have hD1a:=xz hD1;have hD1':L D1=none:=G.sub.none hD1a;have S1:qj L' (qg (qg L' p1 (.lst (zc (lk.map (mmP f))))) D1 (.lst (zc lk'))):=(By hp1).trans (By hD1);refine x4 (S1 _ _ (G.sub _ _ hc)) fun keep kp=>sV (m:=ppP f) hz2 (kp _ rfl) (fun i pr R zs epr hR=>?_) fun p2 hp2=>?_
  ·obtain⟨l1,l2⟩:=hct pr (AH epr);refine aF (S1 _ _ G.hd) (ql (val pr.1 l1) ?_);refine aF (S1 _ _ G.hd) (ql (val pr.2 l2) ?_);exact hR
  have b2:∀p∈ct.map (ppP f),p.2<1000000:=fun p hp=>by obtain⟨r,hr,rfl⟩:=Bp.mp hp;obtain⟨h1,h2⟩:=hct r hr;have:=flt r.2 h2;show f r.2<1000000;lia
  have n2:(ct.map (ppP f)).Nodup:=bE (fun x hx y hy e=>by obtain⟨x1,x2⟩:=hct x hx;obtain⟨y1,y2⟩:=hct y hy;exact Ej (inj _ _ x1 y1 (BI Prod.fst e)) (inj _ _ x2 y2 (BI Prod.snd e))) nd2
  dsimp only[qr];refine nZ (ps:=ct.map (ppP f)) q9 b2 n2 (by rw[Ae];exact cV) fun D2 ct' hD2 pm2 pw2=>?_;have hD2a:=xz hD2;have S2:=S1.trans ((By hp2).trans (By (o:=.lst (zc ct')) hD2));have hD2':L D2=none:=G.sub.none (S1.none hD2a);have n12:D1≠D2:=w5 q9 hD2a;obtain⟨m,hm,hm1⟩:∃m:Nat,(if b=true then(1:Int) else 0)=(m:Int)/\m≤1:=by cases b;exact⟨0,rfl,by exact Bb _⟩;exact⟨1,rfl,by exact Bz _⟩
  walk_at "w";rw[hm];refine⟨⟨by exact AY _,by omega⟩,?_⟩;rw[BU];refine oY (fun i zs=>zs=v9 (List.replicate i none)) (big _ (by exact cV)) rfl ?_ ?_
  ·rintro i zs hi rfl;refine⟨_,ED _,rfl,?_⟩;rw[Dt];exact fu _ none
  rintro zs rfl p3 hp3;have S3:=S2.trans (By (o:=.lst (v9 (List.replicate m none))) hp3);refine⟨_,_,S3 _ _ G.hw,q9,?_,fun p4 hp4=>?_⟩
  ·rw[ww,ww,BR];exact Bn (big _ (by lia))
  have h4:=xz hp4;have h4':L p4=none:=G.sub.none (S2.none h4);have n43:D2≠p4:=w5 q9 h4;have n42:D1≠p4:=w5 ((qd n12).trans ((qd (w5 q9 hp2)).trans q9)) h4;have hp3b:=xz hp3;have n31:D1≠p3:=w5 ((qd n12).trans ((qd (w5 q9 hp2)).trans q9)) hp3;have n32:D2≠p3:=w5 q9 hp3;have eo:v9 wd++v9 (List.replicate m none)=v9 (wd++List.replicate m none):=by unfold v9;rw[AF]
  rw[eo];refine xr (q f (wd++List.replicate m none) lk' ct' p4 D1 D2 _ ⟨gap.gaps m,?_⟩ pm1 pw1 pm2 pw2 ((G.sub.trans S3).trans (By hp4)) h4' hD1' hD2' (AN n42) (AN n43) n12 q9 ?_ ?_)
  ·rw[Ad,BR];exact anb
  ·rw[qd n42,qd n31,qd n12,qd (w5 q9 hp2),q9]
  ·rw[qd n43,qd n32,q9]
def rf:wv:=(qp (ah1 1 2 3 (qe (ve qr) (qe (ve qr) (qe (ve (kj (qa 0))) qr))))
 (qp (ot (rdN (qa 3) (ve qr)) (qp (zr (aW zA (qa 3) qr) (qf 4))
 (da (xc (fJ (xu 4 0) (fE "link")) (j9 (aW zu (qa 1) (qe (rdT (xu 4 1) (xu 4 2)) qr))) js)
 (da (xc (fJ (xu 4 0) (fE "cut")) (j9 (aW zu (qa 2) (qe (rdT (xu 4 1) (xu 4 2)) qr))) js)
 (j9 (aW aV (qa 3) (qe (mY 1 (aha (ySl al5 (qa 4) (oA (jk 2)) jJ)) (qf 5) (yB (bB .tuple (qa 5))) (qa 5)) qr)))))))
 (jr (vk (qe (bJ aQ (kj (qa 1))) (qe (bJ aQ (kj (qa 2))) qr))))))
def zk:Ru->List (Nat×Nat)
 |.link p q=>[(p,q)]
 |.ei _ A=>zk A
 |.bo _ A B=>zk A++zk B
 |.cu _ _ A B=>zk A++zk B
def zm:Ru->List (Nat×Nat)
 |.link _ _=>[]
 |.ei _ A=>zm A
 |.bo _ A B=>zm A++zm B
 |.cu p q A B=>(p,q)::(zm A++zm B)
def jL:Ru->Nat
 |.link _ _=>1
 |.ei _ A=>jL A+1
 |.bo _ A B=>jL A+jL B+1
 |.cu _ _ A B=>jL A+jL B+1
def aY:Ru->List Ru
 |.link _ _=>[]
 |.ei _ A=>[A]
 |.bo _ A B=>[A,B]
 |.cu _ _ A B=>[A,B]
def mW:Ru->List (Nat×Nat)
 |.link p q=>[(p,q)]
 |_=>[]
def pV:Ru->List (Nat×Nat)
 |.cu p q _ _=>[(p,q)]
 |_=>[]
theorem uP(A:Ru):zk A=mW A++(aY A).flatMap zk:=by cases A<;>simp[zk,mW,aY]
theorem yY(A:Ru):zm A=pV A++(aY A).flatMap zm:=by cases A<;>simp[zm,pV,aY]
theorem tU(A:Ru):((aY A).map jL).sum+1=jL A:=by cases A<;>simp[jL,aY]
theorem ag8(A:Ru):0<jL A:=by cases A<;>simp[jL]
theorem zQ{A B:Ru}(h:B∈aY A):aK B<aK A:=by cases A<;>simp[aY] at h<;>(try rcases h with rfl | rfl)<;>(try subst h)<;>simp[aK]<;>omega
def kJ:Ru->List Y
 |.link _ q=>[.int ((q:Nat):Int)]
 |.ei _ A=>[ze A]
 |.bo _ A B=>[ze A,ze B]
 |.cu _ q A B=>[.int ((q:Nat):Int),ze A,ze B]
def adw:Y->Option Y
 |.tup ys=>some (.tup ys)
 |_=>none
theorem wZ(A:Ru):adw (ze A)=some (ze A):=by cases A<;>rfl
theorem wJ(i:Int):adw (.int i)=none:=rfl
theorem yS(A:Ru):(kJ A).filterMap adw=(aY A).map ze:=by cases A<;>simp[kJ,aY,CL,wZ,wJ]
theorem ac8{A:Ru}(h:y∈kJ A):(∃q:Nat,y=.int (q:Int))\/∃B,y=ze B:=by
 cases A<;>simp[kJ] at h
 ·exact .inl ⟨_,h⟩
 ·exact .inr ⟨_,h⟩
 ·rcases h with h | h<;>exact .inr ⟨_,h⟩
 ·rcases h with h | h | h
  ·exact .inl ⟨_,h⟩
  ·exact .inr ⟨_,h⟩
  ·exact .inr ⟨_,h⟩
structure iV(R:Ru)(lk ct:List (Nat×Nat))(st:List Ru):Prop where
 pl:(lk++st.flatMap zk).Perm (zk R)
 pc:(ct++st.flatMap zm).Perm (zm R)
 sz:(st.map jL).sum≤jL R
 dp:∀A∈st,aK A≤aK R
theorem iV.start(R:Ru):iV R [] [] [R]:=⟨by simp,by simp,by simp,fun A hA=>by simp at hA;subst hA;exact Ao _⟩
theorem iV.step{A:Ru}{st:List Ru}(h:iV R lk ct (st++[A])):iV R (lk++mW A) (ct++pV A) (st++aY A):=by
 have pm:∀{X U V W:List (Nat×Nat)},(X++U++(V++W)).Perm (X++(V++(U++W))):=fun {X U V W}=>by rw[AA];refine Dl X ?_;rw[<-AA,<-AA];exact De W Bf
 refine⟨?_,?_,?_,fun B hB=>?_⟩
 ·refine List.Perm.trans ?_ h.pl;rw[AM,AM];have:[A].flatMap zk=mW A++(aY A).flatMap zk:=by rw[<-uP];simp
  rw[this];exact pm
 ·refine List.Perm.trans ?_ h.pc;rw[AM,AM];have:[A].flatMap zm=pV A++(aY A).flatMap zm:=by rw[<-yY];simp
  rw[this];exact pm
 ·have:=h.sz;have:=tU A;simp at *;lia
 ·rcases Ak.mp hB with hB | hB
  ·exact h.dp B (Ar _ hB)
  ·have:=zQ hB;have:=h.dp A (Af _ (Aw.mpr rfl));exact ai9
def qG:jw:=fun ys L Q=>∃R:Ru,ys=[ze R]/\aK R≤120/\jL R≤1000/\(zk R).Nodup/\(zm R).Nodup/\(∀p∈zk R,p.2<1000000)/\(∀p∈zm R,p.2<1000000)/\(zk R).length≤1000/\(zm R).length≤1000/\
 ∀la ca lk ct,L la=none->L ca=none->la≠ca->lk.Perm (zk R)->lk.Pairwise dq->ct.Perm (zm R)->ct.Pairwise dq->Q (.tup [.ref la,.ref ca]) (qg (qg L la (.lst (zc lk))) ca (.lst (zc ct)))
theorem eF(l:List (Nat×Nat))(p:Nat×Nat):zc l++[sm p]=zc (l++[p]):=by unfold zc;rw[AF];rfl
theorem aat(st:List Ru):Da.eqs (st.map bZ) []=decide (st=[]):=by cases st<;>rfl
theorem l9{L:qm}{n:Nat}:∀{st:List Ru},(∀A∈st,aK A≤n)->Paired (ju L n) (st.map ze) (st.map bZ)
 |[],_=>.nil
 |A::r,h=>.cons (cR (h A (As ..))) (l9 fun B hB=>h B (Ah _ hB))
theorem adf:∀ys L Q,qG ys L Q->xx rf 5 ys L Q:=by
 rintro ys L Q ⟨R,rfl,hd,hz,nd1,nd2,b1,b2,z1,z2,q⟩;have big:=bg_;intro la hla ca hca ta hta;have nlc:la≠ca:=w5 q9 hca;have nct:ca≠ta:=w5 q9 hta;have nlt:la≠ta:=w5 ((qd nlc).trans q9) hta;have hca0:L ca=none:=xz hca;have hta0:L ta=none:=xz (xz hta);have S0:qj L (qg (qg (qg L la (.lst [])) ca (.lst [])) ta (.lst [ze R])):=((By hla).trans (By hca)).trans (By hta);refine⟨fun m τ L'=>∃lk ct st c4,τ=[some (ze R),some (Y.ref la),some (Y.ref ca),some (Y.ref ta),c4]/\qj L L'/\L' la=some (.lst (zc lk))/\L' ca=some (.lst (zc ct))/\L' ta=some (.lst (st.map ze))/\iV R lk ct st/\m=(st.map jL).sum,⟨_,[],[],[R],_,rfl,S0,(qd nlt).trans ((qd nlc).trans q9),(qd nct).trans q9,q9,iV.start R,rfl⟩,?_⟩;rintro m τ L' ⟨lk,ct,st,c4,rfl,s,h1,h2,h3,T,rfl⟩;intro p hp;refine cD (n:=120) (m:=0) (by decide) (By hp _ _ h3) q9 (l9 fun A hA=>AS (T.dp A hA) hd) (.nil:Paired (ju _ 0) _ []) ?_;have npl:la≠p:=w5 h1 hp;have npc:ca≠p:=w5 h2 hp;have npt:ta≠p:=w5 h3 hp;have s2:qj L (qg L' p (.lst [])):=s.trans (By hp);replace h1:=(qd (o:=.lst []) npl).trans h1;replace h2:=(qd (o:=.lst []) npc).trans h2;replace h3:=(qd (o:=.lst []) npt).trans h3;generalize qg L' p (.lst [])=L2 at s2 h1 h2 h3 ⊢;show kh (!(Da.eqs (st.map bZ) [])) _ _;rw[aat];rcases List.eq_nil_or_concat st with rfl | ⟨gb,A,rfl⟩
 ·refine aG rfl ?_;have pl:lk.Perm (zk R):=by have:=T.pl;simpa using this
  have pc:ct.Perm (zm R):=by have:=T.pc;simpa using this
  dsimp only[jr,vk,bJ,qe,kj,k8,rdT,qa,u9,qr];refine nZ h1 (fun x hx=>b1 x (pl.mem_iff.mp hx)) (pl.nodup_iff.mpr nd1) (by rw[pl.length_eq];exact cV) fun D1 lk' hD1 pm1 pw1=>?_;have n1:ca≠D1:=w5 h2 hD1;refine nZ ((qd n1).trans h2) (fun x hx=>b2 x (pc.mem_iff.mp hx)) (pc.nodup_iff.mpr nd2) (by rw[pc.length_eq];exact cV) fun D2 ct' hD2 pm2 pw2=>?_;have n12:D1≠D2:=w5 q9 hD2;have hD1':=s2.none hD1;have hD2':=s2.none (xz hD2);refine⟨_,fun z o e=>?_,q D1 D2 lk' ct' hD1' hD2' n12 (pm1.trans pl) pw1 (pm2.trans pc) pw2⟩;by_cases c1:z=D2
  ·subst c1;rw[q9] at e ⊢;exact e
  ·rw[qd c1] at e ⊢;by_cases c2:z=D1
   ·subst c2;rw[q9] at e ⊢;exact e
   ·rw[qd c2] at e ⊢;exact s2 _ _ e
 ·rw[List.concat_eq_append] at *;have T1:=T.step;have ne:gb++[A]≠[]:=by simp
  rw[Ax ne];refine wy rfl ⟨fun τ' L'=>∃m',m'<((gb++[A]).map jL).sum/\∃lk ct st c4,τ'=[some (ze R),some (Y.ref la),some (Y.ref ca),some (Y.ref ta),c4]/\qj L L'/\L' la=some (.lst (zc lk))/\L' ca=some (.lst (zc ct))/\L' ta=some (.lst (st.map ze))/\iV R lk ct st/\m'=(st.map jL).sum,fun τ' L' h=>h,?_⟩;rw[AF] at h3;refine abp h3 ?_;refine⟨fun τ' L3=>τ'=[some (ze R),some (Y.ref la),some (Y.ref ca),some (Y.ref ta),some (ze A)]/\qj L L3/\L3 la=some (.lst (zc (lk++mW A)))/\L3 ca=some (.lst (zc ct))/\L3 ta=some (.lst (gb.map ze)),?_,?_⟩
  ·have s3:qj L (qg L2 ta (.lst (gb.map ze))):=s2.upd hta0;have g1:qg L2 ta (.lst (gb.map ze)) la=some (.lst (zc lk)):=(qd nlt).trans h1;have g2:qg L2 ta (.lst (gb.map ze)) ca=some (.lst (zc ct)):=(qd nct).trans h2;have g3:qg L2 ta (.lst (gb.map ze)) ta=some (.lst (gb.map ze)):=q9;generalize qg L2 ta (.lst (gb.map ze))=L3 at s3 g1 g2 g3 ⊢;cases A with
   |link p0 q0=>
    refine qb g1 (qk g1 ⟨?_,?_⟩)
    ·have:=T.pl.length_eq;rw[Ad] at this;rw[Ae];exact big _ (by lia)
    ·exact⟨rfl,s3.upd hla,by rw[q9];exact BI (fun l=>some (LO.lst l)) (eF lk (p0,q0)),(qd (AN nlc)).trans g2,(qd (AN nlt)).trans g3⟩
   |ei r0 A0=>exact⟨rfl,s3,by rw[g1];simp[mW],g2,g3⟩
   |bo r0 A0 B0=>exact⟨rfl,s3,by rw[g1];simp[mW],g2,g3⟩
   |cu p0 q0 A0 B0=>exact⟨rfl,s3,by rw[g1];simp[mW],g2,g3⟩
  ·rintro τ' L3 ⟨rfl,s3,g1,g2,g3⟩;refine⟨fun τ' L3=>τ'=[some (ze R),some (Y.ref la),some (Y.ref ca),some (Y.ref ta),some (ze A)]/\qj L L3/\L3 la=some (.lst (zc (lk++mW A)))/\L3 ca=some (.lst (zc (ct++pV A)))/\L3 ta=some (.lst (gb.map ze)),?_,?_⟩
   ·cases A with
    |cu p0 q0 A0 B0=>
     refine qb g2 (qk g2 ⟨?_,?_⟩)
     ·have:=T.pc.length_eq;rw[Ad] at this;rw[Ae];exact big _ (by lia)
     ·exact⟨rfl,s3.upd hca0,(qd nlc).trans g1,by rw[q9];exact BI (fun l=>some (LO.lst l)) (eF ct (p0,q0)),(qd (AN nct)).trans g3⟩
    |ei r0 A0=>exact⟨rfl,s3,g1,by rw[g2];simp[pV],g3⟩
    |bo r0 A0 B0=>exact⟨rfl,s3,g1,by rw[g2];simp[pV],g3⟩
    |link p0 q0=>exact⟨rfl,s3,g1,by rw[g2];simp[pV],g3⟩
   ·rintro τ' L3 ⟨rfl,s3,g1,g2,g3⟩;obtain⟨ys,e,esl⟩:∃ys,ze A=.tup ys/\rq ys (some 2) none=kJ A:=by cases A<;>exact⟨_,rfl,rfl⟩
    rw[e];have key:∀(zs:List Y) (keep:qm->Prop) (Q':YK),zs=kJ A->keep L3->(∀p,L3 p=none->Q' (.ref p) (qg L3 p (.lst ((aY A).map ze))))->wC zs keep 1 (qf 5) (yB (bB i7.tuple (qa 5))) (qa 5) [some (ze R),some (Y.ref la),some (Y.ref ca),some (Y.ref ta),some (.tup ys)] L3 Q':=by
     rintro zs keep Q' rfl hk hq;refine afn adw ?_ hk (fun i y W us ey hW=>?_) (by rw[yS];exact hq)
     ·cases A<;>exact big _ (by simp[kJ])
     ·rcases ac8 (AH ey) with⟨n,rfl⟩ | ⟨B,rfl⟩
      ·rw[wJ] at hW;refine⟨_,ED _,?_⟩;simpa using hW
      ·rw[wZ] at hW;cases B<;>exact⟨_,ED _,hW⟩
    refine qb g3 ?_;walk_at "w";refine⟨by cases A<;>(cases e;first | exact fun h=>absurd (show HT.sIx 3 0 (some 2)=0 from h.1) (by decide) | exact fun h=>absurd (show HT.sIx 4 0 (some 2)=0 from h.1) (by decide) | exact fun h=>absurd (show HT.sIx 5 0 (some 2)=0 from h.1) (by decide)),?_⟩;walk_at "w";refine key (rq ys (some 2) none) (fun _=>True) _ esl trivial fun p hp=>?_;have ntp:ta≠p:=w5 g3 hp;have nlp:la≠p:=w5 g1 hp;have ncp:ca≠p:=w5 g2 hp;have szs:=T.sz;have szA:=tU A;have sz1:=T1.sz;have lens:∀l:List Ru,l.length≤(l.map jL).sum:=fun l=>by induction l with|nil=>exact Ao _|cons B r ih=>have:=ag8 B;simp;lia
    have l1:=lens (gb++aY A);refine qk ((qd ntp).trans g3) (qk q9 ⟨?_,?_⟩)
    ·rw[Ae,Ae];rw[Ad] at l1;exact Bn (big _ (by lia))
    refine⟨_,ED _,((gb++aY A).map jL).sum,?_,lk++mW A,ct++pV A,gb++aY A,_,rfl,(s3.trans (By hp)).upd hta0,(qd nlt).trans ((qd nlp).trans g1),(qd nct).trans ((qd ncp).trans g2),?_,T1,rfl⟩
    ·simp;exact pS
    ·rw[q9,AF]
def l5(ks:List Kn):Nat->Nat->Nat
 |0,_=>1
 |n+1,p=>match ks[p]? with
  |some (.nd _ i j)=>1+l5 ks n i+l5 ks n j
  |_=>1
def bG(ks:List Kn)(p:Nat):Nat:=l5 ks (p+1) p
theorem aef(ks:List Kn):∀n p,1≤l5 ks n p
 |0,_=>Ao _
 |n+1,p=>by
  unfold l5;split
  ·simp +arith only
  ·exact Ao _
theorem gL{ks:List Kn}(ok:a9 ks):∀(n m p:Nat),p<n->p<m->l5 ks n p=l5 ks m p
 |0,_,_,h,_=>absurd h (Cy _)
 |_+1,0,_,_,h=>absurd h (Cy _)
 |n+1,m+1,p,h1,h2=>by
  show(match ks[p]? with | some (.nd _ i j)=>1+l5 ks n i+l5 ks n j | _=>1)=match ks[p]? with | some (.nd _ i j)=>1+l5 ks m i+l5 ks m j | _=>1
  cases e:ks[p]? with
  |none=>rfl
  |some k=>
   cases k with
   |lf t n=>rfl
   |nd b i j=>
    have:=ok p _ e;have:i<p/\j<p:=this;show 1+l5 ks n i+l5 ks n j=1+l5 ks m i+l5 ks m j;rw[gL ok n m i (by lia) (by lia),gL ok n m j (by lia) (by lia)]
theorem ae7(ks:List Kn)(p:Nat):1≤bG ks p:=aef ks _ _
theorem uw{p:Nat}{n:Str}(e:ks[p]?=some (.lf t n)):bG ks p=1:=by show(match ks[p]? with | some (.nd _ i j)=>1+l5 ks p i+l5 ks p j | _=>1)=1;rw[e]
theorem vE(ok:a9 ks){p:Nat}{b:Bool}(e:ks[p]?=some (.nd b i j)):bG ks p=1+bG ks i+bG ks j:=by have h:i<p/\j<p:=ok p _ e;show(match ks[p]? with | some (.nd _ i j)=>1+l5 ks p i+l5 ks p j | _=>1)=_;rw[e];show 1+l5 ks p i+l5 ks p j=1+l5 ks (i+1) i+l5 ks (j+1) j;rw[gL ok p (i+1) i (by omega) (by exact Bz _),gL ok p (j+1) j (by omega) (by exact Bz _)]
def kc(f:Nat->Nat)(l:List Nat):Nat:=(l.map f).sum
theorem wc(f:Nat->Nat)(x:Nat)(l:List Nat):kc f (x::l)=f x+kc f l:=by unfold kc;rw[Az,Dp]
theorem ko(f:Nat->Nat)(l m:List Nat):kc f (l++m)=kc f l+kc f m:=by unfold kc;rw[AF,List.sum_append]
theorem wx{f:Nat->Nat}{l:List Nat}{x:Nat}(h:x∈l):kc f l=f x+kc f (l.erase x):=by have:=((List.perm_cons_erase h).map f).sum_nat;unfold kc;rw[this,Az,Dp]
theorem dR{f:Nat->Nat}:∀{E U:List Nat},E.Nodup->(∀x∈E,x∈U)->kc f E≤kc f U
 |[],_,_,_=>Bb _
 |x::E,U,nd,h=>by obtain⟨n1,n2⟩:=Au.mp nd;rw[wc,wx (h x (As ..))];have:=dR (f:=f) (E:=E) (U:=U.erase x) n2 fun y hy=>(BG (fun(z:y=x)=>n1 (z▸hy))).mpr (h y (Ah _ hy));lia
def bT(f:Nat->Nat)(l:List (Nat×Nat)):Nat:=(l.map fun c=>f c.1+f c.2).sum
theorem i5(f:Nat->Nat)(l m:List (Nat×Nat)):bT f (l++m)=bT f l+bT f m:=by unfold bT;rw[AF,List.sum_append]
theorem SR.weight(ok:a9 ks){E:List Nat}(h:SR ks R E):kc (bG ks) E+bT (bG ks) (zm R)≤(qz R).length:=by
 induction h with
 |@link p q t n E h1 h2 h3 h4 h5=>
  have:=dR (f:=bG ks) (U:=[p,q]) h5 fun x hx=>by rcases (h4 x).mp hx with rfl | rfl<;>simp
  have e:kc (bG ks) [p,q]=2:=by unfold kc;simp[uw h2,uw h3]
  show kc (bG ks) E+0≤2;lia
 |@ei r i j A EA E h1 h2 h3 h4 h5 h6 h7 ih=>
  have hj:j∈EA.erase i:=(BG (AN h5)).mpr h4;have s1:=dR (f:=bG ks) (U:=(EA.erase i).erase j++[r]) h7 fun x hx=>by
   rcases (h6 x).mp hx with⟨a,b,c⟩ | rfl
   ·exact Ar _ ((BG c).mpr ((BG b).mpr a))
   ·simp
  have s2:=wx (f:=bG ks) h3;have s3:=wx (f:=bG ks) hj;have s4:=vE ok h1;rw[ko,wc] at s1;have e0:kc (bG ks) []=0:=rfl;show _+bT _ (zm A)≤(r::qz A).length;rw[AG];lia
 |@bo r i j A B EA EB E h1 h2 h3 h4 h5 h6 h7 ih1 ih2=>
  have s1:=dR (f:=bG ks) (U:=EA.erase i++(EB.erase j++[r])) h7 fun x hx=>by
   rcases (h6 x).mp hx with⟨a,b⟩ | ⟨a,b⟩ | rfl
   ·exact Ar _ ((BG b).mpr a)
   ·exact Af _ (Ar _ ((BG b).mpr a))
   ·simp
  have s2:=wx (f:=bG ks) h4;have s3:=wx (f:=bG ks) h5;have s4:=vE ok h1;rw[ko,ko,wc] at s1;have e0:kc (bG ks) []=0:=rfl;show _+bT _ (zm A++zm B)≤(r::(qz A++qz B)).length;rw[AG,Ad,i5];lia
 |@cu p q A B EA EB E w h1 h2 h3 h4 h5 h6 h7 h8 ih1 ih2=>
  have s1:=dR (f:=bG ks) (U:=EA.erase p++EB.erase q) h8 fun x hx=>by
   rcases (h7 x).mp hx with⟨a,b⟩ | ⟨a,b⟩
   ·exact Ar _ ((BG b).mpr a)
   ·exact Af _ ((BG b).mpr a)
  have s2:=wx (f:=bG ks) h3;have s3:=wx (f:=bG ks) h4;rw[ko] at s1;have e1:bT (bG ks) (zm (.cu p q A B))=bG ks p+bG ks q+(bT (bG ks) (zm A)+bT (bG ks) (zm B)):=by show bT _ ((p,q)::(zm A++zm B))=_;rw[<-i5];unfold bT;rw[Az,Dp]
  show _≤(qz A++qz B).length;rw[Ad,e1];lia
theorem aev(a b:Nat):decide ((a:Int)=(b:Int))=decide (a=b):=by
 by_cases c:a=b
 ·rw[AC c];exact AC (by lia)
 ·rw[Ax c];exact Ax (by lia)
theorem aj9{b:Bool}{A B:Prop}(h1:b=true->A)(h2:b=false->B):kh b A B:=by cases b with|true=>exact h1 rfl|false=>exact h2 rfl
def zb(lk:List (Nat×Nat)):List Nat:=lk.flatMap fun x=>[x.1,x.2]
theorem jx(a b:List (Nat×Nat)):zb (a++b)=zb a++zb b:=by unfold zb;rw[AM]
theorem kz(x:Nat×Nat):zb [x]=[x.1,x.2]:=by simp[zb]
theorem xa(lk:List (Nat×Nat)):(zb lk).length=2*lk.length:=by
 induction lk with
 |nil=>rfl
 |cons x r ih=>
  have:=jx [x] r;rw[Dj] at this;rw[this,Ad,ih,kz,AG];simp;exact Nat.add_comm _ _
def jP:jw:=fun ys L Q=>∃a,∃lk:List (Nat×Nat),ys=[.ref a]/\L a=some (.lst (zc lk))/\lk.length≤1000/\∀p,L p=none->Q (.ref p) (qg L p (.lst (nY (zb lk))))
theorem af8:∀ys L Q,jP ys L Q->xx se 4 ys L Q:=by
 rintro ys L Q ⟨a,lk,rfl,ha,hz,q⟩;intro p hp;have hap:a≠p:=w5 ha hp;refine wY (ys:=zc lk) (aD ((qd hap).trans ha)) (fun i τ L'=>∃c2 c3,τ=[some (.ref a),some (.ref p),c2,c3]/\L'=qg L p (.lst (nY (zb (lk.take i))))) ⟨_,_,rfl,rfl⟩ ?_ ?_ ?_
 ·rintro i τ L' ⟨c2,c3,rfl,rfl⟩;rw[qd hap,qd hap]
 ·rintro i y τ L' hy ⟨c2,c3,rfl,rfl⟩;rw[Al] at hy;obtain⟨x,ex,rfl⟩:=Ap.mp hy;have et:lk.take (i+1)=lk.take i++[x]:=by rw[Bq,ex];rfl
  have hl:(nY (zb (lk.take i))).length≤2000:=by rw[ae,xa,AK];lia
  refine qb q9 (qk q9 ⟨Bv hl (by decide),?_⟩);refine qb q9 (qk q9 ⟨Bv (by rw[Ad,BB];exact u0:_≤2001) (by decide),_,ED _,_,_,rfl,?_⟩);rw[vt,vt,et,jx,kz,az,AA];rfl
 ·rintro τ L' ⟨c2,c3,rfl,rfl⟩;rw[Ae,Bm];exact xr (q p hp)
theorem aj8{f:Option Kn->Bool}{ks:List (Option Kn)}{p:Nat}{k:Option Kn}(h:ks[p]?=some k)(hf:f k=true)(hi:p<i):p∈mV f ks i:=by unfold mV;refine AL.mpr ⟨AV.mpr hi,?_⟩;simp only[h];exact hf
theorem jV(m:Nat)(l:List Nat):tV (dm (.int (m:Int))) ((nY l).map dm)=decide (m∈l):=by
 induction l with
 |nil=>rfl
 |cons n r ih=>
  have e:tV (dm (.int (m:Int))) ((nY (n::r)).map dm)=(gj (dm (.int (n:Int))) (dm (.int (m:Int)))||tV (dm (.int (m:Int))) ((nY r).map dm)):=rfl;rw[e,ih];have e2:gj (dm (.int (n:Int))) (dm (.int (m:Int)))=decide (n=m):=aev n m;rw[e2];by_cases c:n=m
  ·subst c;simp
  ·by_cases d:m∈r
   ·simp[d]
   ·simp[c,d,AN c]
theorem jW(l:List Nat):(nY l).all dG=true:=by rw[CI];intro y hy;obtain⟨n,_,rfl⟩:=Bp.mp hy;rfl
def kR:wv:=(qp (zr (ve qr) (qf 2))
 (qp (eO (xt (qa 1)) (wo 2 (zg (qf 3) (zg (qf 4) vz))) (j9 (aW aV (qa 2) (qe (ve (k8 (qa 3) (qa 4))) qr))))
 (qp (zr (ve qr) (qf 5))
 (qp (ot (rdN (qa 2) (ve qr)) (qp (zr (aW zA (qa 2) qr) (qf 3))
 (qp (j9 (aW zu (qa 5) (kj (qa 3))))
 (xc (fJ (bJ jC (qe (zn ax (qa 0) (qa 3)) qr)) (jk 3)) (j9 (aW aV (qa 2) (qe (ve (qe (zn ax (zn ax (qa 0) (qa 3)) (jk 1)) (qe (zn ax (zn ax (qa 0) (qa 3)) (jk 2)) qr))) qr))) js))))
 (jr (qa 5))))))
structure l6(ks:List Kn)(ct:List (Nat×Nat))(qs st:List Nat):Prop where
 cut:∀c∈ct,(c.1∈qs\/c.1∈st)/\(c.2∈qs\/c.2∈st)
 part:∀p∈qs,∀e i j,ks[p]?=some (.nd e i j)->(i∈qs\/i∈st)/\(j∈qs\/j∈st)
 lt:∀p∈st,p<ks.length
 sz:qs.length+kc (bG ks) st≤1000
theorem ft(ks:List Kn):∀l:List Nat,l.length≤kc (bG ks) l
 |[]=>Ao _
 |x::r=>by have:=ft ks r;have:=ae7 ks x;rw[wc,AG];lia
theorem aq(f:Nat->Nat):∀l:List (Nat×Nat),kc f (zb l)=bT f l
 |[]=>rfl
 |c::r=>by
  have e:zb (c::r)=[c.1,c.2]++zb r:=by rw[<-kz,<-jx];rfl
  rw[e,ko,aq f r,wc,wc];show f c.1+(f c.2+kc f [])+bT f r=_;have e0:kc f []=0:=rfl;unfold bT;rw[e0,Az,Dp];rfl
theorem bC{c:Nat×Nat}(h:c∈ct):c.1∈zb ct/\c.2∈zb ct:=by
 induction ct with
 |nil=>cases h
 |cons d r ih=>
  have e:zb (d::r)=[d.1,d.2]++zb r:=by rw[<-kz,<-jx];rfl
  rw[e];rcases Av.mp h with rfl | h
  ·simp
  ·obtain⟨a,b⟩:=ih h;exact⟨Af _ a,Af _ b⟩
theorem ab3{x:Nat}(h:x∈zb ct):∃c∈ct,x=c.1\/x=c.2:=by
 induction ct with
 |nil=>cases h
 |cons d r ih=>
  have e:zb (d::r)=[d.1,d.2]++zb r:=by rw[<-kz,<-jx];rfl
  rw[e] at h;rcases Ak.mp h with h | h
  ·exact⟨d,As ..,by simpa using h⟩
  ·obtain⟨c,h1,h2⟩:=ih h;exact⟨c,Ah _ h1,h2⟩
def io(ks:List Kn)(p:Nat):List Nat:=match ks[p]? with
 |some (.nd _ i j)=>[i,j]
 |_=>[]
theorem l6.step(ok:a9 ks){st:List Nat}{p:Nat}(h:l6 ks ct qs (st++[p])):l6 ks ct (qs++[p]) (st++io ks p)/\kc (bG ks) (st++io ks p)<kc (bG ks) (st++[p]):=by
 have mv:∀x,(x∈qs\/x∈st++[p])->(x∈qs++[p]\/x∈st++io ks p):=fun x hx=>by
  rcases hx with hx | hx
  ·exact .inl (Ar _ hx)
  ·rcases Ak.mp hx with hx | hx
   ·exact .inr (Ar _ hx)
   ·exact .inl (Af _ hx)
 have hs:=h.sz;have e1:kc (bG ks) (st++[p])=kc (bG ks) st+bG ks p:=by rw[ko,wc];rfl
 have e2:kc (bG ks) (st++io ks p)+1=kc (bG ks) st+bG ks p:=by
  rw[ko];unfold io;cases e:ks[p]? with
  |none=>
   have:=h.lt p (Af _ (Aw.mpr rfl));rw[Aj this] at e;cases e
  |some k=>
   cases k with
   |lf t n=>
    have:=uw e;show kc _ st+0+1=_;lia
   |nd b i j=>
    have:=vE ok e;show kc (bG ks) st+kc (bG ks) [i,j]+1=_;rw[wc,wc];have e0:kc (bG ks) []=0:=rfl;lia
 refine⟨⟨fun c hc=>⟨mv _ (h.cut c hc).1,mv _ (h.cut c hc).2⟩,fun x hx e i j hk=>?_,fun x hx=>?_,?_⟩,by lia⟩
 ·rcases Ak.mp hx with hx | hx
  ·exact⟨mv _ (h.part x hx e i j hk).1,mv _ (h.part x hx e i j hk).2⟩
  ·have hx:=Aw.mp hx;subst hx;have:io ks x=[i,j]:=by unfold io;rw[hk]
   rw[this];simp
 ·rcases Ak.mp hx with hx | hx
  ·exact h.lt x (Ar _ hx)
  ·unfold io at hx;split at hx
   ·rename_i b i j e;have:=zo e;have hij:i<p/\j<p:=ok p _ e;have:x=i\/x=j:=by simpa using hx
    lia
   ·cases hx
 ·rw[Ad,BB];lia
def fU:jw:=fun ys L Q=>∃a c,∃ks:List Kn,∃ct:List (Nat×Nat),ys=[.ref a,.ref c]/\L a=some (.lst (ja ks))/\L c=some (.lst (zc ct))/\a9 ks/\(∀x∈ct,x.1<ks.length/\x.2<ks.length)/\bT (bG ks) ct≤1000/\ks.length≤1000/\
 ∀D qs,L D=none->l6 ks ct qs []->Q (.ref D) (qg L D (.lst (nY qs)))
theorem ahx(l:List Nat):Da.eqs (fH l) []=decide (l=[]):=by cases l<;>rfl
theorem uR:∀ys L Q,fU ys L Q->xx kR 6 ys L Q:=by
 rintro ys L Q ⟨a,c,ks,ct,rfl,ha,hc,ok,hb,hz,hn,q⟩;have big:=bg_;have lp:(zb ct).length≤1000:=AS (ft ks _) (by rw[aq];exact hz);intro ta hta;have s0:qj L (qg L ta (.lst [])):=By hta;refine x4 (s0 _ _ hc) fun keep kp=>wm ⟨fun i τ L'=>∃c3 c4 c5,τ=[some (Y.ref a),some (Y.ref c),some (Y.ref ta),c3,c4,c5]/\qj L L'/\L' ta=some (.lst (nY (zb (ct.take i)))),⟨_,_,_,rfl,s0,q9⟩,?_,?_,?_⟩
 ·rintro i τ L' ⟨c3,c4,c5,rfl,s,h⟩;exact kp L' (by rw[s _ _ hc,s0 _ _ hc])
 ·rintro i y τ L' hy ⟨c3,c4,c5,rfl,s,h⟩;rw[Al] at hy;obtain⟨pr,ep,rfl⟩:=Ap.mp hy;have et:ct.take (i+1)=ct.take i++[pr]:=by rw[Bq,ep];rfl
  refine qb h ?_;intro p hp;have ntp:ta≠p:=w5 h hp;have ll:(zb (ct.take i)).length≤(zb ct).length:=by rw[xa,xa,AK];lia
  refine qk ((qd ntp).trans h) (qk q9 ⟨?_,?_⟩)
  ·rw[ae];exact Bn (big _ (by simp;lia))
  ·refine⟨_,ED _,_,_,_,rfl,(s.trans (By hp)).upd hta,?_⟩;rw[q9,et,jx,kz,az];rfl
 ·rintro τ L' ⟨c3,c4,c5,rfl,s,h⟩;rw[Ae,Bm] at h;intro bn hbn;have ntb:ta≠bn:=w5 h hbn;have hbn0:L bn=none:=s.none hbn;have B0:l6 ks ct [] (zb ct):=⟨fun x hx=>⟨.inr (bC hx).1,.inr (bC hx).2⟩,fun x hx=>(Bd hx).elim,fun x hx=>by obtain⟨d,hd,e⟩:=ab3 hx;have:=hb d hd;lia,by rw[aq];show 0+_≤1000;lia⟩
  refine⟨fun m τ L'=>∃qs st c3 c4,τ=[some (Y.ref a),some (Y.ref c),some (Y.ref ta),c3,c4,some (Y.ref bn)]/\qj L L'/\L' ta=some (.lst (nY st))/\L' bn=some (.lst (nY qs))/\l6 ks ct qs st/\m=kc (bG ks) st,⟨_,[],zb ct,_,_,rfl,s.trans (By hbn),(qd ntb).trans h,q9,B0,rfl⟩,?_⟩;rintro m τ L1 ⟨qs,st,c3,c4,rfl,s1,h1,h2,B,rfl⟩;intro p hp;refine cD (n:=0) (m:=0) (by decide) (By hp _ _ h1) q9 (pK st) (.nil:Paired (ju _ 0) _ []) ?_;have npt:ta≠p:=w5 h1 hp;have npb:bn≠p:=w5 h2 hp;have s2:qj L (qg L1 p (.lst [])):=s1.trans (By hp);replace h1:=(qd (o:=.lst []) npt).trans h1;replace h2:=(qd (o:=.lst []) npb).trans h2;generalize qg L1 p (.lst [])=L2 at s2 h1 h2 ⊢;show kh (!(Da.eqs (fH st) [])) _ _;rw[ahx];rcases List.eq_nil_or_concat st with rfl | ⟨gb,x,rfl⟩
  ·refine aG rfl ?_;refine⟨qg L bn (.lst (nY qs)),fun b o e=>?_,q bn qs hbn0 B⟩;by_cases cc:b=bn
   ·subst cc;rw[q9] at e;rw[<-e];exact h2
   ·rw[qd cc] at e;exact s2 _ _ e
  ·rw[List.concat_eq_append] at *;obtain⟨B1,lt1⟩:=B.step ok;have ne:gb++[x]≠[]:=by simp
   rw[Ax ne];refine wy rfl ⟨fun τ' L'=>∃m',m'<kc (bG ks) (gb++[x])/\∃qs st c3 c4,τ'=[some (Y.ref a),some (Y.ref c),some (Y.ref ta),c3,c4,some (Y.ref bn)]/\qj L L'/\L' ta=some (.lst (nY st))/\L' bn=some (.lst (nY qs))/\l6 ks ct qs st/\m'=kc (bG ks) st,fun τ' L' h=>h,?_⟩;rw[az] at h1;refine abp h1 ?_;have g1:qg L2 ta (.lst (nY gb)) ta=some (.lst (nY gb)):=q9;have g2:qg L2 ta (.lst (nY gb)) bn=some (.lst (nY qs)):=(qd (AN ntb)).trans h2;have s3:qj L (qg L2 ta (.lst (nY gb))):=s2.upd hta;generalize qg L2 ta (.lst (nY gb))=L3 at g1 g2 s3 ⊢;have hsz:=B.sz;refine qb g2 (qk g2 ⟨by rw[ae];exact big _ (by lia),?_⟩);have k1:qg L3 bn (.lst (nY qs++[.int ((x:Nat):Int)])) ta=some (.lst (nY gb)):=(qd ntb).trans g1;have k2:qg L3 bn (.lst (nY qs++[.int ((x:Nat):Int)])) bn=some (.lst (nY (qs++[x]))):=by rw[q9,az];rfl
   have s4:qj L (qg L3 bn (.lst (nY qs++[.int ((x:Nat):Int)]))):=s3.upd hbn0;generalize qg L3 bn (.lst (nY qs++[.int ((x:Nat):Int)]))=L4 at k1 k2 s4 ⊢;have hx:=B.lt x (Af _ (Aw.mpr rfl));obtain⟨k,ek⟩:∃k,ks[x]?=some k:=⟨_,Aj hx⟩;have ga:=s4 _ _ ha;refine qb ga (ql (v0 ek) ?_);cases k with
   |lf t n=>
    have e0:io ks x=[]:=by unfold io;rw[ek]
    rw[e0,AW] at B1 lt1;exact⟨_,ED _,_,lt1,qs++[x],gb,_,_,rfl,s4,k1,k2,B1,rfl⟩
   |nd b i j=>
    have e0:io ks x=[i,j]:=by unfold io;rw[ek]
    rw[e0] at B1 lt1;refine qb k1 ?_;refine qb ga (ql (v0 ek) ?_);refine qb ga (ql (v0 ek) ?_);intro p2 hp2;have n1:ta≠p2:=w5 k1 hp2;have n2:bn≠p2:=w5 k2 hp2;have l1:=ft ks (gb++[i,j]);have z1:=B1.sz;refine qk ((qd n1).trans k1) (qk q9 ⟨?_,?_⟩)
    ·rw[ae];rw[Ad] at l1;exact Bn (big _ (by simp at l1 ⊢;lia))
    ·refine⟨_,ED _,_,lt1,qs++[x],gb++[i,j],_,_,rfl,(s4.trans (By hp2)).upd hta,?_,(qd (AN ntb)).trans ((qd n2).trans k2),B1,rfl⟩;rw[q9,az];rfl
def me(p0:jw)(p1:jw):wv:=(qp (zr (qt p0 (k8 (qa 0) (qa 1))) (qf 4))
 (qp (zr (ve qr) (qf 5))
 (qp (eO (xt (qa 0)) (qf 6) (xc (fJ (bM 6) (jk 3)) (j9 (aW aV (qa 5) (qe (ve (k8 (xu 6 1) (xu 6 2))) qr))) js))
 (qp (sW 6 (zr (bJ jC (qe (mY 1 (xt (qa 0)) (qf 11) (fJ (xu 11 0) (fE "either")) (qa 11)) qr)) (qf 7)))
 (qp (zr (ve qr) (qf 8))
 (qp (eO (lZ (qa 0)) (wo 2 (zg (qf 9) (zg (qf 6) vz))) (qp (zr (zn w9 (qt p1 (qe (qa 2) (k8 (qa 9) (jk 30269)))) (jk 8)) (qf 10))
 (xc (yOr (fJ (bM 6) (jk 2)) (yB (zn (lh false) (qa 9) (qa 4)))) (j9 (aW zu (qa 8) (kj (qa 6)))) (xc (fJ (zn w9 (zn aw (qa 2) (jk 3)) (jk 2)) (jk 1)) (j9 (aW zu (qa 8) (qe (yIf (eL (fJ (zn w9 (qa 10) (jk 2)) (jk 0)) (yB (zn (lh true) (qa 9) (qa 5)))) (yC .non) (qa 6)) qr))) (xc (eL (yB (zn zT (qa 10) (jk 3))) (fJ (xu 6 0) (fE "either"))) (qp (j9 (aW zu (qa 8) (qe (vk (qe (fE "both") (k8 (xu 6 1) (xu 6 2)))) qr)))
 (zr (zn hG (qa 7) (jk 1)) (qf 7))) (xc (eL (yB (zn zT (qa 10) (jk 3))) (yB (zn zT (qa 7) (qa 3)))) (qp (j9 (aW zu (qa 8) (qe (vk (qe (fE "either") (k8 (xu 6 1) (xu 6 2)))) qr)))
 (zr (zn wz (qa 7) (jk 1)) (qf 7))) (j9 (aW zu (qa 8) (kj (qa 6))))))))))
 (jr (qa 8))))))))
def prK:Kn->List Nat
 |.nd _ i j=>[i,j]
 |.lf _ _=>[]
def a6(ks:List Kn):List Nat:=ks.flatMap prK
theorem sS{r:Nat}{e:Bool}(h:ks[r]?=some (.nd e i j)):i∈a6 ks/\j∈a6 ks:=
 ⟨Ba.mpr ⟨_,AH h,by simp[prK]⟩,Ba.mpr ⟨_,AH h,by simp[prK]⟩⟩
theorem zY(ks:List Kn):(a6 ks).length≤2*ks.length:=by
 induction ks with
 |nil=>exact Ao _
 |cons k r ih=>
  have e:a6 (k::r)=prK k++a6 r:=AU ..;have:(prK k).length≤2:=by cases k<;>simp[prK]
  rw[e,Ad,AG];lia
theorem oD(ks:List Kn)(k:Kn):a6 (ks++[k])=a6 ks++prK k:=by unfold a6;rw[AM,AU,Dm,AW]
structure aj(ks:List Kn)(kept:List Nat)(n:Nat)(out:List (Option Kn)):Prop where
 len:out.length=n
 lf:∀p t m,p<n->ks[p]?=some (.lf t m)->out[p]?=some (some (.lf t m))
 kp:∀p∈kept,p<n->∀k,ks[p]?=some k->out[p]?=some (some k)
 nd:∀p e i j,p<n->ks[p]?=some (.nd e i j)->(out[p]?=some none/\p∉a6 ks)\/∃e',out[p]?=some (some (.nd e' i j))
theorem aj.nil(ks:List Kn)(kept:List Nat):aj ks kept 0 []:=⟨rfl,fun _ _ _ h=>absurd h (Cy _),fun _ _ h=>absurd h (Cy _),fun _ _ _ _ h=>absurd h (Cy _)⟩
theorem aj.snoc{kept:List Nat}(T:aj ks kept n out){k:Kn}{o:Option Kn}(h:ks[n]?=some k)(hl:∀t m,k=.lf t m->o=some k)(hk:n∈kept->o=some k)
 (hn:∀e i j,k=.nd e i j->(o=none/\n∉a6 ks)\/∃e',o=some (.nd e' i j)):aj ks kept (n+1) (out++[o]):=by
 have old:∀p,p<n->(out++[o])[p]?=out[p]?:=fun p hp=>AB (by rw[T.len];exact hp);have new:(out++[o])[n]?=some o:=by rw[<-T.len];exact cg out o []
 refine⟨by rw[Ad,T.len];rfl,fun p t m hp e=>?_,fun p hp hp2 k' e=>?_,fun p b i j hp e=>?_⟩
 ·by_cases c:p<n
  ·rw[old p c];exact T.lf p t m c e
  ·have:p=n:=by lia
   subst this;rw[h] at e;cases e;rw[new,hl t m rfl]
 ·by_cases c:p<n
  ·rw[old p c];exact T.kp p hp c k' e
  ·have:p=n:=by lia
   subst this;rw[h] at e;cases e;rw[new,hk hp]
 ·by_cases c:p<n
  ·rw[old p c];exact T.nd p b i j c e
  ·have:p=n:=by lia
   subst this;rw[h] at e;cases e;rw[new];rcases hn b i j rfl with⟨a1,a2⟩ | ⟨e',a⟩
   ·exact .inl ⟨by rw[a1],a2⟩
   ·exact .inr ⟨e',by rw[a]⟩
def iB:jw:=fun ys L Q=>∃a c,∃ks:List Kn,∃ct:List (Nat×Nat),∃s m:Int,ys=[.ref a,.ref c,.int s,.int m]/\L a=some (.lst (ja ks))/\L c=some (.lst (zc ct))/\a9 ks/\(∀x∈ct,x.1<ks.length/\x.2<ks.length)/\bT (bG ks) ct≤1000/\ks.length≤1000/\
 ∀D qs out,L D=none->l6 ks ct qs []->aj ks qs ks.length out->Q (.ref D) (qg L D (.lst (v9 out)))
theorem yJ:∀ys L Q,iB ys L Q->xx (me fU dy) 11 ys L Q:=by
 rintro ys L Q ⟨a,c,ks,ct,s,m,rfl,ha,hc,ok,hb,hz,hn,q⟩;have big:=bg_;refine⟨a,c,ks,ct,rfl,ha,hc,ok,hb,hz,hn,fun D qs hD B=>?_⟩;have s1:qj L (qg L D (.lst (nY qs))):=By hD;have hD1:qg L D (.lst (nY qs)) D=some (.lst (nY qs)):=q9;generalize qg L D (.lst (nY qs))=L1 at s1 hD1 ⊢;intro pa hpa;have s2:qj L (qg L1 pa (.lst [])):=s1.trans (By hpa);have hpa0:L pa=none:=s1.none hpa;have nDp:D≠pa:=w5 hD1 hpa;refine x4 (s2 _ _ ha) fun keep kp=>wm ⟨fun i τ L'=>∃c6 c7 c8 c9 bH,τ=[some (Y.ref a),some (Y.ref c),some (.int s),some (.int m),some (Y.ref D),some (Y.ref pa),c6,c7,c8,c9,bH]/\qj L L'/\L' D=some (.lst (nY qs))/\L' pa=some (.lst (nY (a6 (ks.take i)))),⟨_,_,_,_,_,rfl,s2,(qd nDp).trans hD1,q9⟩,?_,?_,?_⟩
 ·rintro i τ L' ⟨c6,c7,c8,c9,bH,rfl,s',_⟩;exact kp L' (by rw[s' _ _ ha,s2 _ _ ha])
 ·rintro i y τ L' hy ⟨c6,c7,c8,c9,bH,rfl,s',g1,g2⟩;rw[Al] at hy;obtain⟨k,ek,rfl⟩:=Ap.mp hy;have et:ks.take (i+1)=ks.take i++[k]:=by rw[Bq,ek];rfl
  have pl:=zY (ks.take i);rw[AK] at pl;cases k with
  |lf t n=>exact⟨_,ED _,_,_,_,_,_,rfl,s',g1,by rw[et,oD];show _=some (LO.lst (nY (a6 (ks.take i)++[])));rw[AW];exact g2⟩
  |nd e p1 p2=>
   refine qb g2 ?_;intro p hp;have n1:pa≠p:=w5 g2 hp;have n2:D≠p:=w5 g1 hp;refine qk ((qd n1).trans g2) (qk q9 ⟨?_,?_⟩)
   ·rw[ae];exact Bn (big _ (by simp;lia))
   ·refine⟨_,ED _,_,_,_,_,_,rfl,(s'.trans (By hp)).upd hpa0,(qd nDp).trans ((qd n2).trans g1),?_⟩;rw[q9,et,oD,az];rfl
 ·rintro τ L' ⟨c6,c7,c8,c9,bH,rfl,s',g1,g2⟩;rw[Ae,Bm] at g2;refine x4 (s' _ _ ha) fun keep kp=>bR (fun i zs=>zs.length≤i) (by rw[Ae];exact big _ (by exact cV)) (kp _ rfl) (Ao _) ?_ ?_
  ·rintro i y zs ey hl;rw[Al] at ey;obtain⟨k,ek,rfl⟩:=Ap.mp ey;have no:cz (fun zs L''=>L''=L'/\zs.length≤i+1) zs L':=⟨_,ED _,rfl,by exact aiu⟩;have yes:∀z,cz (fun zs L''=>L''=L'/\zs.length≤i+1) (zs++[z]) L':=fun z=>⟨_,ED _,rfl,by rw[Ad,BB];exact u0⟩;cases k with
   |lf t n=>cases t<;>exact no
   |nd e p1 p2=>
    cases e with|true=>exact yes _|false=>exact no
  rintro zs hzs p hp;refine qk q9 ?_;have s3:qj L (qg L' p (.lst zs)):=s'.trans (By hp);have k1:qg L' p (.lst zs) D=some (.lst (nY qs)):=(qd (w5 g1 hp)).trans g1;have k2:qg L' p (.lst zs) pa=some (.lst (nY (a6 ks))):=(qd (w5 g2 hp)).trans g2;generalize qg L' p (.lst zs)=L2 at s3 k1 k2 ⊢;intro mk hmk;have hmk0:L mk=none:=s3.none hmk;have s4:qj L (qg L2 mk (.lst [])):=s3.trans (By hmk);have nDm:D≠mk:=w5 k1 hmk;have npm:pa≠mk:=w5 k2 hmk;refine x4 (s4 _ _ ha) fun keep kp=>wm ⟨fun i τ L'=>∃c6,∃mn:Int,∃c9 bH out,τ=[some (Y.ref a),some (Y.ref c),some (.int s),some (.int m),some (Y.ref D),some (Y.ref pa),c6,some (.int mn),some (Y.ref mk),c9,bH]/\qj L L'/\L' D=some (.lst (nY qs))/\L' pa=some (.lst (nY (a6 ks)))/\L' mk=some (.lst (v9 out))/\aj ks qs i out,⟨_,_,_,_,[],rfl,s4,(qd nDm).trans k1,(qd npm).trans k2,q9,aj.nil _ _⟩,?_,?_,?_⟩
  ·rintro i τ L' ⟨c6,mn,c9,bH,out,rfl,s',_⟩;exact kp L' (by rw[s' _ _ ha,s4 _ _ ha])
  ·rintro i y τ L' hy ⟨c6,mn,c9,bH,out,rfl,s',g1,g2,g3,T⟩;obtain⟨z,ez,rfl⟩:=gM hy;rw[Al] at ez;obtain⟨k,ek,rfl⟩:=Ap.mp ez;have hi:=zo ek;have ol:=T.len;refine⟨s,i,30269,rfl,by exact AY _,by omega,by decide,by decide,fun v h0 h1=>?_⟩;refine⟨show(0:Int)<8 by decide,?_⟩;have add:∀(o:Option Kn) (y:Y) (mn':Int),mN o=y->aj ks qs (i+1) (out++[o])->cz (fun(τ:jp) (L':qm)=>∃c6,∃mn:Int,∃c9 bH out,τ=[some (Y.ref a),some (Y.ref c),some (.int s),some (.int m),some (Y.ref D),some (Y.ref pa),c6,some (.int mn),some (Y.ref mk),c9,bH]/\qj L L'/\L' D=some (.lst (nY qs))/\L' pa=some (.lst (nY (a6 ks)))/\L' mk=some (.lst (v9 out))/\aj ks qs (i+1) out) [some (Y.ref a),some (Y.ref c),some (.int s),some (.int m),some (Y.ref D),some (Y.ref pa),some (pN k),some (.int mn'),some (Y.ref mk),some (.int ((i:Nat):Int)),some (.int (v % 8))] (qg L' mk (.lst (v9 out++[y]))):=fun o y mn' ey T'=>
    ⟨_,ED _,_,_,_,_,out++[o],rfl,s'.upd hmk0,(qd nDm).trans g1,(qd npm).trans g2,by rw[q9,<-ey,fu],T'⟩
   have len:(v9 out).length<sizeLine:=by rw[ww,ol];exact big _ (by lia)
   cases k with
   |lf t n=>
    have T':aj ks qs (i+1) (out++[some (.lf t n)]):=T.snoc ek (fun _ _ h=>by rw[h]) (fun _=>rfl) (fun _ _ _ h=>by cases h);exact qb g3 (qk g3 ⟨len,add _ _ mn rfl T'⟩)
   |nd e p1 p2=>
    refine qb g1 ⟨rfl,jW _,?_⟩;rw[jV];by_cases ck:i∈qs
    ·have T':aj ks qs (i+1) (out++[some (.nd e p1 p2)]):=T.snoc ek (fun _ _ h=>by cases h) (fun _=>rfl) (fun _ _ _ h=>.inr ⟨e,by cases h;rfl⟩);refine wy (by rw[AC ck];rfl) ?_;exact qb g3 (qk g3 ⟨len,add _ _ mn rfl T'⟩)
    refine aG (by rw[Ax ck];rfl) ?_;have T':∀e',aj ks qs (i+1) (out++[some (.nd e' p1 p2)]):=fun e'=>T.snoc ek (fun _ _ h=>by cases h) (fun h=>absurd h ck) (fun _ _ _ h=>.inr ⟨e',by cases h;rfl⟩);refine⟨⟨by decide,by decide⟩,show(0:Int)<2 by decide,?_⟩;refine j8 (fun h=>?_) (fun h=>?_)
    ·refine qb g3 ?_;refine⟨show(0:Int)<2 by decide,?_⟩;refine j8 (fun h2=>?_) (fun h2=>?_)
     ·refine qb g2 ⟨rfl,jW _,?_⟩;rw[jV];by_cases cp:i∈a6 ks
      ·refine aG (by rw[AC cp];rfl) ?_;exact qk g3 ⟨len,add _ _ mn rfl (T' e)⟩
      ·refine wy (by rw[Ax cp];rfl) ?_;have T2:aj ks qs (i+1) (out++[none]):=T.snoc ek (fun _ _ h=>by cases h) (fun h=>absurd h ck) (fun _ _ _ h=>.inl ⟨rfl,cp⟩);exact qk g3 ⟨len,add _ _ mn rfl T2⟩
     ·exact qk g3 ⟨len,add _ _ mn rfl (T' e)⟩
    ·have same:∀(mn':Int),_:=fun mn'=>add (some (.nd e p1 p2)) _ mn' rfl (T' e);refine j8 (fun h2=>?_) (fun h2=>?_)
     ·cases e with
      |true=>exact qb g3 (qk g3 ⟨len,add (some (.nd false p1 p2)) _ (mn - 1) rfl (T' false)⟩)
      |false=>
       refine j8 (fun h2=>?_) (fun h2=>?_)
       ·refine j8 (fun h3=>?_) (fun h3=>?_)
        ·exact qb g3 (qk g3 ⟨len,add (some (.nd true p1 p2)) _ (mn+1) rfl (T' true)⟩)
        ·exact qb g3 (qk g3 ⟨len,same mn⟩)
       ·exact qb g3 (qk g3 ⟨len,same mn⟩)
     ·refine j8 (fun h3=>absurd h3 h2) (fun h3=>?_);exact qb g3 (qk g3 ⟨len,same mn⟩)
  ·rintro τ L' ⟨c6,mn,c9,bH,out,rfl,s',g1,g2,g3,T⟩;rw[eE,Ae] at T;refine⟨qg L mk (.lst (v9 out)),fun b o e=>?_,q mk qs out hmk0 B T⟩;by_cases cc:b=mk
   ·subst cc;rw[q9] at e;rw[<-e];exact g3
   ·rw[qd cc] at e;exact s' _ _ e
def mE:wv:=(qp (zr (zn ax (qa 1) (zn w9 (qa 2) (bM 1))) (qf 4))
 (qp (zr (mY 1 (xt (qa 1)) (qf 12) (eL (rdN (qa 12) (qa 4)) (fJ (zn ax (zn ax (qa 0) (xu 12 0)) (jk 1)) (zn ax (zn ax (qa 0) (xu 4 0)) (jk 1)))) (qa 12)) (qf 5))
 (qp (xc (fJ (qa 5) (ve qr)) (jr (qa 1)) js)
 (qp (zr (zn ax (qa 5) (zn w9 (qa 3) (bM 5))) (qf 6))
 (qp (zr (yIf (fJ (zn ax (zn ax (qa 0) (xu 4 0)) (jk 0)) (fE "plain")) (qa 4) (rdT (xu 4 1) (xu 4 0))) (wo 2 (zg (qf 7) (zg (qf 8) vz))))
 (qp (zr (yIf (fJ (zn ax (zn ax (qa 0) (xu 6 0)) (jk 0)) (fE "plain")) (qa 6) (rdT (xu 6 1) (xu 6 0))) (wo 2 (zg (qf 9) (zg (qf 10) vz))))
 (qp (zr (mY 1 (xt (qa 1)) (qf 12) (eL (rdN (qa 12) (qa 4)) (rdN (qa 12) (qa 6))) (qa 12)) (qf 11))
 (jr (bJ aQ (qe (zn wz (qa 11) (ve (qe (vk (qe (bJ rY (k8 (qa 7) (qa 10))) (qe (bJ sv (k8 (qa 7) (qa 10))) qr))) (qe (vk (qe (bJ rY (k8 (qa 9) (qa 8))) (qe (bJ sv (k8 (qa 9) (qa 8))) qr))) qr)))) qr))))))))))
def fw(x:Nat×Nat):Da:=.tup [.s (.int (x.1:Int)),.s (.int (x.2:Int))]
theorem jM(x y:Nat×Nat):Da.eq (fw x) (fw y)=decide (x=y):=by show(decide ((x.1:Int)=(y.1:Int))&&(decide ((x.2:Int)=(y.2:Int))&&true))=_;rw[Eo,<-Bool.decide_and];exact decide_eq_decide.mpr ⟨fun⟨h1,h2⟩=>Ej (Cc.mp h1) (Cc.mp h2),fun h=>by subst h;exact⟨rfl,rfl⟩⟩
theorem gr(x:Nat×Nat):ju L 1 (sm x) (fw x):=bY (.cons (EL _) (.cons (EL _) .nil))
theorem f8{L:qm}:∀l:List (Nat×Nat),Paired (ju L 1) (zc l) (l.map fw)
 |[]=>.nil
 |_::r=>.cons (bY (.cons (EL _) (.cons (EL _) .nil))) (f8 r)
theorem afl(l:List (Nat×Nat)):Da.eqs (l.map fw) []=decide (l=[]):=by cases l<;>rfl
theorem vQ{f:Nat×Nat->Bool}{keep:qm->Prop}{Q:YK}(hz:lk.length≤1000)(hk:keep L)
 (turn:∀(i:Nat) (pr:Nat×Nat) (R:List Y->qm->Prop) zs,lk[i]?=some pr->(f pr=true->R (zs++[sm pr]) L)->(f pr=false->R zs L)->g (sm pr) (τ++List.replicate 1 none) L fun τ2 L2=>tc τ2 L2 fun b L3=>kh b (te τ2 L3 fun z L4=>R (zs++[z]) L4) (R zs L3))
 (hq:∀p,L p=none->Q (.ref p) (qg L p (.lst (zc (lk.filter f))))):wC (zc lk) keep 1 g tc te τ L Q:=by
 refine bR (fun i zs=>zs=zc ((lk.take i).filter f)) (by rw[Ae];exact Bv hz (by decide)) hk rfl ?_ ?_
 ·rintro i y zs ey rfl;rw[Al] at ey;obtain⟨pr,ek,rfl⟩:=Ap.mp ey;have et:lk.take (i+1)=lk.take i++[pr]:=by rw[Bq,ek];rfl
  refine turn i pr _ _ ek (fun h=>⟨L,ED _,rfl,?_⟩) fun h=>⟨L,ED _,rfl,?_⟩
  ·rw[et,BS,DZ h,Cw,<-eF]
  ·rw[et,BS,DY (by rw[h];simp),Cw,AW]
 ·rintro zs rfl p hp;rw[Ae,Bm];exact hq p hp
structure LkI(ks:List Kn)(lk:List (Nat×Nat)):Prop where
 nd:(zb lk).Nodup
 lt:∀p∈lk,p.1<p.2
 at_:∀p∈lk,∃t n,ks[p.1]?=some (.lf t n)/\ks[p.2]?=some (.lf (!t) n)
theorem jv(c:Nat×Nat)(r:List (Nat×Nat)):zb (c::r)=c.1::c.2::zb r:=by
 have e:zb (c::r)=[c.1,c.2]++zb r:=by rw[<-kz,<-jx];rfl
 rw[e];rfl
theorem xf{l m:List (Nat×Nat)}(h:l.Perm m):(zb l).Perm (zb m):=by
 induction h with
 |nil=>exact .nil
 |cons x _ ih=>rw[jv,jv];exact(ih.cons _).cons _
 |swap x y l=>
  rw[jv,jv,jv,jv];exact(Bf (l₁:=[y.1,y.2]) (l₂:=[x.1,x.2])).append_right (zb l)
 |trans _ _ h1 h2=>exact h1.trans h2
theorem vd:∀{l:List (Nat×Nat)},(zb l).Nodup->l.Nodup
 |[],_=>BP
 |c::r,h=>by rw[jv] at h;have h1:=Au.mp h;have h2:=Au.mp h1.2;exact Au.mpr ⟨fun hc=>h1.1 (Ah _ (bC hc).1),vd h2.2⟩
theorem ae0{l:List (Nat×Nat)}(nd:l.Nodup){x y:Nat×Nat}(hx:x∈l)(hy:y∈l)(ne:x≠y):l.Perm (x::y::l.filter fun z=>decide (z≠x)&&decide (z≠y)):=by
 refine(A9 nd ?_).mpr fun z=>?_
 ·refine Au.mpr ⟨fun h=>?_,Au.mpr ⟨fun h=>?_,nd.filter _⟩⟩
  ·rcases Av.mp h with h | h
   ·exact ne h
   ·simp at h
  ·simp at h
 ·by_cases c1:z=x
  ·subst c1;simp[hx]
  ·by_cases c2:z=y
   ·subst c2;simp[hy]
   ·simp[c1,c2]
def eI(a b:Nat):Nat×Nat:=(min a b,max a b)
theorem wH(a b:Nat)(r:List Nat):(min a b::max a b::r).Perm (a::b::r):=by
 by_cases c:a≤b
 ·rw[BW c,Ck c]
 ·rw[Dn (by lia),Cu (by lia)];exact List.Perm.swap ..
def jg(t:Bool)(p:Nat×Nat):Nat×Nat:=if t=true then(p.2,p.1) else p
theorem i6(t:Bool)(p:Nat×Nat)(r:List Nat):((jg t p).1::(jg t p).2::r).Perm (p.1::p.2::r):=by cases t with|true=>exact List.Perm.swap ..|false=>exact .refl _
theorem LkI.cross(I:LkI ks lk){x y:Nat×Nat}(hx:x∈lk)(hy:y∈lk)(ne:x≠y){u:Bool}{n:Str}(x1:ks[x.1]?=some (.lf t n))(x2:ks[x.2]?=some (.lf (!t) n))(y1:ks[y.1]?=some (.lf u n))(y2:ks[y.2]?=some (.lf (!u) n)):
 (zb ((lk.filter fun z=>decide (z≠x)&&decide (z≠y))++[eI (jg t x).1 (jg u y).2,eI (jg u y).1 (jg t x).2])).Perm (zb lk)/\
 LkI ks ((lk.filter fun z=>decide (z≠x)&&decide (z≠y))++[eI (jg t x).1 (jg u y).2,eI (jg u y).1 (jg t x).2]):=by
 have pm:=xf (ae0 (vd I.nd) hx hy ne);rw[jv,jv] at pm;generalize eR:(lk.filter fun z=>decide (z≠x)&&decide (z≠y))=rest at pm;have hp:(zb (rest++[eI (jg t x).1 (jg u y).2,eI (jg u y).1 (jg t x).2])).Perm (zb lk):=by rw[jx,jv,kz];refine Bf.trans (List.Perm.trans ?_ pm.symm);refine(wH (jg t x).1 (jg u y).2 _).trans ?_;refine(((wH (jg u y).1 (jg t x).2 (zb rest)).cons _).cons _).trans ?_;refine List.Perm.trans ?_ (i6 t x _);refine List.Perm.cons _ ?_;refine List.Perm.trans ?_ ((i6 u y _).cons _);refine(Bf (l₁:=[(jg u y).2,(jg u y).1]) (l₂:=[(jg t x).2])).append_right (zb rest) |>.trans ?_;exact(List.Perm.swap ..).cons _
 have pa:ks[(jg t x).1]?=some (.lf false n)/\ks[(jg t x).2]?=some (.lf true n):=by cases t;exact⟨x1,x2⟩;exact⟨x2,x1⟩
 have pb:ks[(jg u y).1]?=some (.lf false n)/\ks[(jg u y).2]?=some (.lf true n):=by cases u;exact⟨y1,y2⟩;exact⟨y2,y1⟩
 have two:∀a b,ks[a]?=some (.lf false n)->ks[b]?=some (.lf true n)->(eI a b).1<(eI a b).2/\∃t n,ks[(eI a b).1]?=some (.lf t n)/\ks[(eI a b).2]?=some (.lf (!t) n):=fun a b ea eb=>by
  have nab:a≠b:=fun h=>by subst h;rw[ea] at eb;cases eb
  unfold eI;by_cases c:a<b
  ·rw[BW (by exact fI),Ck (by lia)];exact⟨c,false,n,ea,eb⟩
  ·rw[Dn (by exact vD),Cu (by lia)];exact⟨by show b<a;lia,true,n,eb,ea⟩
 refine⟨hp,hp.nodup_iff.mpr I.nd,fun p h=>?_,fun p h=>?_⟩
 ·rcases Ak.mp h with h | h
  ·rw[<-eR] at h;exact I.lt p (AL.mp h).1
  ·rcases Av.mp h with rfl | h
   ·exact(two _ _ pa.1 pb.2).1
   ·rw[Aw.mp h];exact(two _ _ pb.1 pa.2).1
 ·rcases Ak.mp h with h | h
  ·rw[<-eR] at h;exact I.at_ p (AL.mp h).1
  ·rcases Av.mp h with rfl | h
   ·exact(two _ _ pa.1 pb.2).2
   ·rw[Aw.mp h];exact(two _ _ pb.1 pa.2).2
theorem LkI.perm{l m:List (Nat×Nat)}(I:LkI ks l)(p:m.Perm l):LkI ks m:=⟨(xf p).nodup_iff.mpr I.nd,fun x hx=>I.lt x (p.mem_iff.mp hx),fun x hx=>I.at_ x (p.mem_iff.mp hx)⟩
def fK:jw:=fun ys L Q=>∃a l,∃ks:List Kn,∃lk:List (Nat×Nat),∃one two:Int,ys=[.ref a,.ref l,.int one,.int two]/\L a=some (.lst (ja ks))/\L l=some (.lst (zc lk))/\LkI ks lk/\lk≠[]/\lk.length≤900/\ks.length≤1000/\
 Q (.ref l) L/\∀D lk',L D=none->LkI ks lk'->lk'.length=lk.length->(zb lk').Perm (zb lk)->lk'.Pairwise dq->Q (.ref D) (qg L D (.lst (zc lk')))
def fh(ks:List Kn)(p:Nat):Str:=match ks[p]? with
 |some (.lf _ n)=>n
 |_ => ""
theorem jO{p:Nat}{n:Str}(e:ks[p]?=some (.lf t n)):fh ks p=n:=by unfold fh;rw[e]
theorem acz{l:List (Nat×Nat)}{x:Nat×Nat}(h:l[i]?=some x):(zc l)[i]?=some (sm x):=by rw[Al,h];rfl
def aee:wv:=(qp (zr (mY 1 (xt (qa 1)) (qf 12) (eL (rdN (qa 12) (qa 4)) (rdN (qa 12) (qa 6))) (qa 12)) (qf 11))
 (jr (bJ aQ (qe (zn wz (qa 11) (ve (qe (vk (qe (bJ rY (k8 (qa 7) (qa 10))) (qe (bJ sv (k8 (qa 7) (qa 10))) qr))) (qe (vk (qe (bJ rY (k8 (qa 9) (qa 8))) (qe (bJ sv (k8 (qa 9) (qa 8))) qr))) qr)))) qr))))
theorem cb{En:vh}{c0 c2 c3 c5:Option Y}{x y:Nat×Nat}{A B C D:Nat}(hl:L l=some (.lst (zc lk)))(hz:lk.length≤900)
 (nd:((lk.filter fun z=>decide (z≠x)&&decide (z≠y))++[eI A D,eI C B]).Nodup) (hb:∀p∈(lk.filter fun z=>decide (z≠x)&&decide (z≠y))++[eI A D,eI C B],p.2<1000000)
 (q:∀L' Dd qs,qj L L'->L' Dd=none->qs.Perm ((lk.filter fun z=>decide (z≠x)&&decide (z≠y))++[eI A D,eI C B])->qs.Pairwise dq->En.rt (.ref Dd) (qg L' Dd (.lst (zc qs)))):
 aee En [c0,some (.ref l),c2,c3,some (sm x),c5,some (sm y),some (.int (A:Int)),some (.int (B:Int)),some (.int (C:Int)),some (.int (D:Int)),none] L:=by
 have big:=bg_;refine x4 hl fun keep kp=>vQ (f:=fun z=>decide (z≠x)&&decide (z≠y)) (by exact cV) (kp _ rfl) (fun i pr R zs ep hy hno=>?_) fun p hp=>?_
 ·refine⟨rfl,rfl,1,1,fw pr,fw x,by decide,gr pr,gr x,?_⟩;rw[jM];by_cases c:pr=x
  ·refine aG (by rw[AC c];rfl) (hno (by rw[Ax (by simpa using c)];rfl))
  ·refine wy (by rw[Ax c];rfl) ?_;refine⟨rfl,rfl,1,1,fw pr,fw y,by decide,gr pr,gr y,?_⟩;rw[jM];by_cases c2:pr=y
   ·refine aG (by rw[AC c2];rfl) (hno (by rw[Ax (by simpa using c2:¬pr≠y),C5]))
   ·refine wy (by rw[Ax c2];rfl) (hy (by rw[AC c,AC c2];rfl))
 obtain⟨rs,ers⟩:∃rs,rs=lk.filter fun z=>decide (z≠x)&&decide (z≠y):=⟨_,rfl⟩;rw[<-ers] at nd hb q ⊢;have lr:rs.length≤lk.length:=by rw[ers];exact Dk ..
 intro p2 hp2;have e1:(Y.tup [.int (min (A:Int) (D:Int)),.int (max (A:Int) (D:Int))])=sm (eI A D):=by
  have e2:min (A:Int) (D:Int)=((min A D:Nat):Int):=by omega
  have e3:max (A:Int) (D:Int)=((max A D:Nat):Int):=by omega
  unfold sm eI;rw[e2,e3]
 have e2:(Y.tup [.int (min (C:Int) (B:Int)),.int (max (C:Int) (B:Int))])=sm (eI C B):=by
  have e2:min (C:Int) (B:Int)=((min C B:Nat):Int):=by omega
  have e3:max (C:Int) (B:Int)=((max C B:Nat):Int):=by omega
  unfold sm eI;rw[e2,e3]
 have h2:qg (qg L p (.lst (zc rs))) p2 (.lst [Y.tup [.int (min (A:Int) (D:Int)),.int (max (A:Int) (D:Int))],Y.tup [.int (min (C:Int) (B:Int)),.int (max (C:Int) (B:Int))]]) p2=some (.lst (zc [eI A D,eI C B])):=by rw[q9,e1,e2];rfl
 have np:p≠p2:=w5 q9 hp2;have h1:qg (qg L p (.lst (zc rs))) p2 (.lst [Y.tup [.int (min (A:Int) (D:Int)),.int (max (A:Int) (D:Int))],Y.tup [.int (min (C:Int) (B:Int)),.int (max (C:Int) (B:Int))]]) p=some (.lst (zc rs)):=(qd np).trans q9;have sL:qj L (qg (qg L p (.lst (zc rs))) p2 (.lst [Y.tup [.int (min (A:Int) (D:Int)),.int (max (A:Int) (D:Int))],Y.tup [.int (min (C:Int) (B:Int)),.int (max (C:Int) (B:Int))]])):=(By hp).trans (By hp2);refine⟨_,_,h1,h2,?_,fun p3 hp3=>?_⟩
 ·rw[Ae,Ae];exact Bn (big _ (by simp;lia))
 generalize qg (qg L p (.lst (zc rs))) p2 (.lst [Y.tup [.int (min (A:Int) (D:Int)),.int (max (A:Int) (D:Int))],Y.tup [.int (min (C:Int) (B:Int)),.int (max (C:Int) (B:Int))]])=L1 at h1 h2 sL hp3 ⊢;have ea:zc rs++zc [eI A D,eI C B]=zc (rs++[eI A D,eI C B]):=by unfold zc;rw[AF]
 rw[ea];dsimp only[qr];refine nZ (ps:=rs++[eI A D,eI C B]) q9 hb nd (by rw[Ad];show rs.length+2≤_;lia) fun Dd qs hD pm pw=>?_;exact q _ Dd qs (sL.trans (By hp3)) hD pm pw
theorem uO:∀ys L Q,fK ys L Q->xx mE 12 ys L Q:=by
 rintro ys L Q ⟨a,l,ks,lk,one,two,rfl,ha,hl,I,ne,hz,hn,q0,q⟩;have big:=bg_;have lpos:0<lk.length:=Dw.mpr ne;obtain⟨j1,x,e1,h1,ex⟩:=hU lpos one;have pl:(zc lk).length=lk.length:=Ae ..;have mx:=AH ex;obtain⟨t,n,x1,x2⟩:=I.at_ x mx;refine qb hl ⟨by show(0:Int)<((zc lk).length:Int);rw[pl];lia,qb hl (ql (by rw[pl,e1];exact k7 (acz ex):g9 (zc lk) (one % ((zc lk).length:Int))=some (sm x)) ?_)⟩;refine x4 hl fun keep kp=>vQ (f:=fun z=>decide (z≠x)&&decide (fh ks z.1=fh ks x.1)) (by exact cV) (kp _ rfl) (fun i pr R zs ep hy hno=>?_) fun p hp=>?_
 ·obtain⟨t2,n2,p1,p2⟩:=I.at_ pr (AH ep);refine⟨rfl,rfl,1,1,fw pr,fw x,by decide,gr pr,gr x,?_⟩;rw[jM];by_cases c:pr=x
  ·refine aG (by rw[AC c];rfl) (hno (by rw[Ax (by simpa using c)];rfl))
  ·refine wy (by rw[Ax c];rfl) ?_;refine qb ha (ql (v0 p1) ?_);refine qb ha (ql (v0 x1) ?_);have en:(decide (fh ks pr.1=fh ks x.1))=decide (n2=n):=by rw[jO p1,jO x1]
   refine j8 (fun h=>hy ?_) (fun h=>hno ?_)
   ·rw[en,AC h,AC c];rfl
   ·rw[en,Ax h,C5]
 have np:l≠p:=w5 hl hp;have s1:qj L (qg L p (.lst (zc (lk.filter fun z=>decide (z≠x)&&decide (fh ks z.1=fh ks x.1))))):=By hp;have g1:qg L p (.lst (zc (lk.filter fun z=>decide (z≠x)&&decide (fh ks z.1=fh ks x.1)))) p=some (.lst (zc (lk.filter fun z=>decide (z≠x)&&decide (fh ks z.1=fh ks x.1)))):=q9;obtain⟨mt,emt⟩:∃mt,mt=lk.filter fun z=>decide (z≠x)&&decide (fh ks z.1=fh ks x.1):=⟨_,rfl⟩;rw[<-emt] at s1 g1 ⊢;have lm:mt.length≤lk.length:=by rw[emt];exact Dk ..
 generalize qg L p (.lst (zc mt))=L1 at s1 g1 ⊢;intro p2 hp2;refine cD (n:=1) (m:=0) (by decide) (By hp2 _ _ g1) q9 (f8 mt) (.nil:Paired (ju _ 0) _ []) ?_;have s2:qj L (qg L1 p2 (.lst [])):=s1.trans (By hp2);have g2:qg L1 p2 (.lst []) p=some (.lst (zc mt)):=By hp2 _ _ g1;generalize qg L1 p2 (.lst [])=L2 at s2 g2 ⊢;show kh (Da.eqs (mt.map fw) []) _ _;rw[afl];by_cases cm:mt=[]
 ·refine wy (by rw[AC cm]) ?_;exact⟨L,s2,q0⟩
 refine aG (by rw[Ax cm]) ?_;obtain⟨j2,y,e2,h2,ey⟩:=hU (Dw.mpr cm) two;have pm:(zc mt).length=mt.length:=Ae ..;have my:=AH ey;rw[emt] at my;obtain⟨my,cy⟩:=AL.mp my;rw[A1,DG,DG] at cy;obtain⟨u,n',y1,y2⟩:=I.at_ y my;have enn:n'=n:=by rw[<-jO y1,<-jO x1];exact cy.2
 subst enn;have hl2:=s2 _ _ hl;have ha2:=s2 _ _ ha;refine qb g2 ⟨by show(0:Int)<((zc mt).length:Int);rw[pm];have:=Dw.mpr cm;lia,qb g2 (ql (by rw[pm,e2];exact k7 (acz ey):g9 (zc mt) (two % ((zc mt).length:Int))=some (sm y)) ?_)⟩;obtain⟨cp,cI⟩:=I.cross mx my (AN cy.1) x1 x2 y1 y2;have tail:∀L' Dd qs,qj L2 L'->L' Dd=none->qs.Perm ((lk.filter fun z=>decide (z≠x)&&decide (z≠y))++[eI (jg t x).1 (jg u y).2,eI (jg u y).1 (jg t x).2])->qs.Pairwise dq->fN Q (.ref Dd) (qg L' Dd (.lst (zc qs))):=fun L' Dd qs sl hD pq pw=>by
  have hD0:L Dd=none:=s2.none (sl.none hD);refine⟨qg L Dd (.lst (zc qs)),fun b o e=>?_,q Dd qs hD0 (cI.perm pq) ?_ ((xf pq).trans cp) pw⟩
  ·by_cases c:b=Dd
   ·subst c;rw[q9] at e ⊢;exact e
   ·rw[qd c] at e ⊢;exact sl _ _ (s2 _ _ e)
  ·have l1:=cp.length_eq;rw[xa,xa] at l1;rw[pq.length_eq];lia
 have nd2:=vd cI.nd;have hb2:∀p∈(lk.filter fun z=>decide (z≠x)&&decide (z≠y))++[eI (jg t x).1 (jg u y).2,eI (jg u y).1 (jg t x).2],p.2<1000000:=fun p hp=>by obtain⟨_,_,_,h⟩:=cI.at_ p hp;have:=zo h;lia
 refine qb ha2 (ql (v0 x1) ?_);cases t with
 |false=>
  refine qb ha2 (ql (v0 y1) ?_);cases u with|false=>exact cb hl2 hz nd2 hb2 tail|true=>exact cb hl2 hz nd2 hb2 tail
 |true=>
  refine qb ha2 (ql (v0 y1) ?_);cases u with|false=>exact cb hl2 hz nd2 hb2 tail|true=>exact cb hl2 hz nd2 hb2 tail
def uL(p0:jw)(p1:jw)(p2:jw)(p3:jw)(p4:jw)(p5:jw):wv:=(qp (zr (qt p0 (qe (qa 1) (k8 (jk 5) (jk 16807)))) (qf 4))
 (qp (zr (zn (mQ false) (zn w9 (qa 4) (jk 4)) (jk 1)) (qf 5))
 (da (xc (yB (qa 5)) (zr (bJ rY (k8 (qa 2) (jk 57))) (qf 2)) js)
 (qp (zr (qt p1 (qe (qa 0) (k8 (qa 1) (qa 2)))) (wo 2 (zg (qf 6) (zg (qf 7) vz))))
 (qp (zr (qt p2 (kj (qa 7))) (wo 2 (zg (qf 8) (zg (qf 9) vz))))
 (qp (eO (fM (qe (zn w9 (zn aw (qa 4) (jk 4)) (jk 3)) qr)) (qf 10) (zr (qt p3 (qe (qa 6) (qe (qa 8) (qe (qt p0 (qe (qa 1) (qe (zn wz (jk 11) (qa 10)) (kj (jk 16807))))) (qe (qt p0 (qe (qa 1) (qe (zn wz (jk 17) (qa 10)) (kj (jk 40692))))) qr))))) (qf 8)))
 (da (xc (fJ (zn w9 (zn aw (qa 4) (jk 12)) (jk 2)) (jk 1)) (zr (qt p4 (qe (qa 6) (qe (qa 9) (k8 (qa 1) (qa 3))))) (qf 6)) js)
 (jr (qt p5 (qe (qa 6) (qe (qa 8) (qe (qa 9) (k8 (qa 1) (qa 5))))))))))))))
theorem bX:∀R:Ru,jL R+1≤(qz R).length
 |.link _ _=>Ao _
 |.ei r A=>by have:=bX A;show jL A+1+1≤(r::qz A).length;rw[AG];exact u0
 |.bo r A B=>by have:=bX A;have:=bX B;show jL A+jL B+1+1≤(r::(qz A++qz B)).length;rw[AG,Ad];lia
 |.cu _ _ A B=>by have:=bX A;have:=bX B;show jL A+jL B+1+1≤(qz A++qz B).length;rw[Ad];lia
theorem kn:∀R:Ru,∃rest,(zb (zk R)++rest).Perm (qz R)
 |.link p q=>⟨[],.refl _⟩
 |.ei r A=>by obtain⟨u,h⟩:=kn A;exact⟨r::u,BZ.trans (h.cons r)⟩
 |.bo r A B=>by obtain⟨u,h⟩:=kn A;obtain⟨v,k⟩:=kn B;refine⟨r::(u++v),?_⟩;show(zb (zk A++zk B)++r::(u++v)).Perm (r::(qz A++qz B));rw[jx];refine BZ.trans (List.Perm.cons r ?_);refine List.Perm.trans ?_ (h.append k);rw[AA,AA];refine Dl _ ?_;rw[<-AA,<-AA];exact De _ Bf
 |.cu p q A B=>by obtain⟨u,h⟩:=kn A;obtain⟨v,k⟩:=kn B;refine⟨u++v,?_⟩;show(zb (zk A++zk B)++(u++v)).Perm (qz A++qz B);rw[jx];refine List.Perm.trans ?_ (h.append k);rw[AA,AA];refine Dl _ ?_;rw[<-AA,<-AA];exact De _ Bf
theorem SR.links{E:List Nat}(h:SR ks R E):∀p∈zk R,p.1<p.2/\∃t n,ks[p.1]?=some (.lf t n)/\ks[p.2]?=some (.lf (!t) n):=by induction h with|@link p q t n E h1 h2 h3 h4 h5=>intro x hx;rw[Aw.mp hx];exact⟨h1,t,n,h2,h3⟩|ei _ _ _ _ _ _ _ ih=>exact ih|bo _ _ _ _ _ _ _ ih1 ih2=>intro x hx;exact(Ak.mp hx).elim (ih1 x) (ih2 x)|cu _ _ _ _ _ _ _ _ ih1 ih2=>intro x hx;exact(Ak.mp hx).elim (ih1 x) (ih2 x)
theorem SR.lkI{E:List Nat}(h:SR ks R E)(nd:(qz R).Nodup):LkI ks (zk R):=by obtain⟨u,hu⟩:=kn R;exact⟨(Aq.mp (hu.nodup_iff.mpr nd)).1,fun p hp=>(h.links p hp).1,fun p hp=>(h.links p hp).2⟩
theorem SR.cuts{E:List Nat}(h:SR ks R E):(qz R).Nodup->(zb (zm R)).Nodup/\(∀x∈zb (zm R),x∉E/\x∈qz R):=by
 induction h with
 |link _ _ _ _ _=>exact fun _=>⟨BP,fun x hx=>by cases hx⟩
 |@ei r i j A EA E h1 h2 h3 h4 h5 h6 h7 ih=>
  intro nd;obtain⟨n1,n2⟩:=Au.mp (show(r::qz A).Nodup from nd);obtain⟨a,b⟩:=ih n2;refine⟨a,fun x hx=>⟨fun hE=>?_,Ah _ (b x hx).2⟩⟩;rcases (h6 x).mp hE with⟨z,_⟩ | rfl
  ·exact(b x hx).1 z
  ·exact n1 (b x hx).2
 |@bo r i j A B EA EB E h1 h2 h3 h4 h5 h6 h7 ih1 ih2=>
  intro nd;obtain⟨n1,n2⟩:=Au.mp (show(r::(qz A++qz B)).Nodup from nd);obtain⟨m1,m2,m3⟩:=Aq.mp n2;obtain⟨a1,b1⟩:=ih1 m1;obtain⟨a2,b2⟩:=ih2 m2;have sA:=h2.sub;have sB:=h3.sub;show(zb (zm A++zm B)).Nodup/\∀x∈zb (zm A++zm B),x∉E/\x∈r::(qz A++qz B);rw[jx];refine⟨Aq.mpr ⟨a1,a2,fun x hx y hy=>m3 x (b1 x hx).2 y (b2 y hy).2⟩,fun x hx=>?_⟩;rcases Ak.mp hx with hx | hx
  ·refine⟨fun hE=>?_,Ah _ (Ar _ (b1 x hx).2)⟩;rcases (h6 x).mp hE with⟨z,_⟩ | ⟨z,_⟩ | rfl
   ·exact(b1 x hx).1 z
   ·exact m3 x (b1 x hx).2 x (sB x z) rfl
   ·exact n1 (Ar _ (b1 _ hx).2)
  ·refine⟨fun hE=>?_,Ah _ (Af _ (b2 x hx).2)⟩;rcases (h6 x).mp hE with⟨z,_⟩ | ⟨z,_⟩ | rfl
   ·exact m3 x (sA x z) x (b2 x hx).2 rfl
   ·exact(b2 x hx).1 z
   ·exact n1 (Af _ (b2 _ hx).2)
 |@cu p q A B EA EB E w h1 h2 h3 h4 h5 h6 h7 h8 ih1 ih2=>
  intro nd;obtain⟨m1,m2,m3⟩:=Aq.mp (show(qz A++qz B).Nodup from nd);obtain⟨a1,b1⟩:=ih1 m1;obtain⟨a2,b2⟩:=ih2 m2;have sA:=h1.sub;have sB:=h2.sub;show(zb ((p,q)::(zm A++zm B))).Nodup/\∀x∈zb ((p,q)::(zm A++zm B)),x∉E/\x∈qz A++qz B;rw[jv,jx];have tp:=sA p h3;have tq:=sB q h4;have npq:p≠q:=fun e=>m3 p tp q tq e;have out:∀x,x∈zb (zm A)++zb (zm B)->x≠p/\x≠q:=fun x hx=>by
   rcases Ak.mp hx with hx | hx
   ·exact⟨fun e=>(b1 x hx).1 (e▸h3),fun e=>m3 x (b1 x hx).2 q tq e⟩
   ·exact⟨fun e=>m3 p tp x (b2 x hx).2 e.symm,fun e=>(b2 x hx).1 (e▸h4)⟩
  refine⟨Au.mpr ⟨fun h=>?_,Au.mpr ⟨fun h=>(out q h).2 rfl,Aq.mpr ⟨a1,a2,fun x hx y hy=>m3 x (b1 x hx).2 y (b2 y hy).2⟩⟩⟩,fun x hx=>?_⟩
  ·rcases Av.mp h with h | h
   ·exact npq h
   ·exact(out p h).1 rfl
  ·have inE:x∈E->(x∈EA/\x≠p)\/(x∈EB/\x≠q):=(h7 x).mp;rcases Av.mp hx with rfl | hx
   ·exact⟨fun hE=>(inE hE).elim (fun z=>z.2 rfl) fun z=>m3 x tp x (sB x z.1) rfl,Ar _ tp⟩
   ·rcases Av.mp hx with rfl | hx
    ·exact⟨fun hE=>(inE hE).elim (fun z=>m3 x (sA x z.1) x tq rfl) fun z=>z.2 rfl,Af _ tq⟩
    ·rcases Ak.mp hx with hx | hx
     ·exact⟨fun hE=>(inE hE).elim (fun z=>(b1 x hx).1 z.1) fun z=>m3 x (b1 x hx).2 x (sB x z.1) rfl,Ar _ (b1 x hx).2⟩
     ·exact⟨fun hE=>(inE hE).elim (fun z=>m3 x (sA x z.1) x (b2 x hx).2 rfl) fun z=>(b2 x hx).1 z.1,Af _ (b2 x hx).2⟩
structure aaq(wd:List (Option Kn))(lk' ct':List (Nat×Nat)):Prop where
 ex:∃(ks:List Kn) (R:Ru) (E:List Nat) (lk ct:List (Nat×Nat)) (out:List (Option Kn)) (f:Nat->Nat),a9 ks/\SR ks R E/\(qz R).Perm (List.range ks.length)/\ks.length≤120/\
  LkI ks lk/\(zb lk).Perm (zb (zk R))/\ct.Perm (zm R)/\(out=ks.map some\/∃qs,l6 ks ct qs []/\aj ks qs ks.length out)/\zG f out wd/\lk'.Perm (lk.map (mmP f))/\lk'.Pairwise dq/\ct'.Perm (ct.map (ppP f))/\ct'.Pairwise dq
theorem aj.okO(ok:a9 ks)(T:aj ks qs ks.length out):m9 out:=by
 intro p e i j h;have hp:p<ks.length:=by have:=zo h;rw[T.len] at this;exact this
 cases ek:ks[p]? with
 |none=>rw[Aj hp] at ek;cases ek
 |some k=>
  cases k with
  |lf t n=>
   have:=T.lf p t n hp ek;rw[h] at this;cases this
  |nd e' i' j'=>
   have lt:i'<p/\j'<p:=ok p _ ek;rcases T.nd p e' i' j' hp ek with⟨z,_⟩ | ⟨e2,z⟩
   ·rw[h] at z;cases z
   ·rw[h] at z;cases z;exact lt
theorem gE(ok:a9 ks):m9 (ks.map some):=by intro p e i j h;rw[Al] at h;obtain⟨k,ek,e1⟩:=Ap.mp h;cases e1;exact ok p _ ek
theorem rO(ks:List Kn):v9 (ks.map some)=ja ks:=by show(ks.map some).map mN=ks.map pN;rw[BC];rfl
theorem qW(ks:List Kn):∀l:List (Nat×Nat),2*l.length≤bT (bG ks) l:=fun l=>by have:=ft ks (zb l);rw[aq,xa] at this;exact this
theorem yf{f:Nat->Nat}{l m:List (Nat×Nat)}(h:l.Perm m):bT f l=bT f m:=by rw[<-aq,<-aq];exact((xf h).map f).sum_nat
def uB(Pt:Addr):jw:=fun ys L Q=>∃cy,∃ns:List Int,∃s m:Int,∃room:Nat,ys=[cy,.int s,.int (room:Int),.int m]/\cy=.sq (ns.map Y.int)/\ns.length≤1000/\room≤120/\L Pt=some (.tb lamQ)/\
 ∀wa la ca wd lk ct L',aaq wd lk ct->qj L L'->L wa=none->L la=none->L ca=none->wa≠la->wa≠ca->la≠ca->L' wa=some (.lst (v9 wd))->L' la=some (.lst (zc lk))->L' ca=some (.lst (zc ct))->Q (sJ wa la ca) L'
theorem ait :∀ys L Q,uB Pt ys L Q->xx (uL dy pP qG fK iB (hZ Pt)) 11 ys L Q:=by
 rintro ys L Q ⟨cy,ns,s,m,room,rfl,hcy,hns,hroom,hP,q⟩;have big:=bg_;refine⟨s,5,16807,rfl,by decide,by decide,by decide,by decide,fun v h0 h1=>?_⟩;refine⟨show(0:Int)<4 by decide,?_⟩;refine⟨fun τ' L'=>∃room':Nat,room'≤120/\τ'=[some cy,some (.int s),some (.int (room':Int)),some (.int m),some (.int v),some (.bl (decide (v % 4=1))),none,none,none,none,none]/\L'=L,?_,?_⟩
 ·refine j8 (fun h=>?_) (fun h=>?_)
  ·refine⟨min room 57,by lia,?_,rfl⟩;have e:min (room:Int) 57=((min room 57:Nat):Int):=by lia
   rw[<-e,AC h];rfl
  ·exact⟨room,hroom,by rw[Ax h];rfl,rfl⟩
 rintro τ' L' ⟨room',hr,rfl,rfl⟩;refine⟨cy,ns,s,room',rfl,hcy,hns,hr,fun ka ks R E hka ok SRh tp kl=>?_⟩;have hk120:ks.length≤120:=by lia
 have tl:(qz R).length=ks.length:=by rw[tp.length_eq,B7]
 have tn:(qz R).Nodup:=tp.nodup_iff.mpr Co;have tlt:∀x∈qz R,x<ks.length:=fun x hx=>AV.mp (tp.mem_iff.mp hx);have LI:=SRh.lkI tn;obtain⟨cn,cin⟩:=SRh.cuts tn;have wgt:=SRh.weight ok;have csz:bT (bG ks) (zm R)≤120:=by lia
 have cl:=qW ks (zm R);have clt:∀x∈zm R,x.1<ks.length/\x.2<ks.length:=fun x hx=>⟨tlt _ (cin _ (bC hx).1).2,tlt _ (cin _ (bC hx).2).2⟩;have ll:2*(zk R).length≤ks.length:=by obtain⟨u,hu⟩:=kn R;have:=hu.length_eq;rw[Ad,xa] at this;lia
 have llt:∀x∈zk R,x.1<ks.length/\x.2<ks.length:=fun x hx=>by obtain⟨_,t,n,a,b⟩:=SRh.links x hx;exact⟨zo a,zo b⟩
 have lne:zk R≠[]:=by
  have:∀R:Ru,1≤(zk R).length:=fun R=>by induction R with|link p q=>exact Ao _|ei r A ih=>exact ih|bo r A B ih _=>show 1≤(zk A++zk B).length;rw[Ad];exact ajq|cu p q A B ih _=>show 1≤(zk A++zk B).length;rw[Ad];lia
  intro e;have:=this R;rw[e] at this;simp at this
 have s1:qj L' (qg L' ka (.lst (ja ks))):=By hka;have rd:=aS R;have rz:=bX R;refine⟨R,rfl,by lia,by lia,vd LI.nd,vd cn,fun p hp=>by have:=(llt p hp).2;lia,fun p hp=>by have:=(clt p hp).2;lia,by lia,by lia,fun la ca lk ct hla hca nlc pl pw1 pc pw2=>?_⟩;have nka:ka≠la:=w5 q9 hla;have nkc:ka≠ca:=w5 q9 hca;have hca':(qg (qg L' ka (.lst (ja ks))) la (.lst (zc lk))) ca=none:=(qd (AN nlc)).trans hca;have s2:qj L' (qg (qg (qg L' ka (.lst (ja ks))) la (.lst (zc lk))) ca (.lst (zc ct))):=(s1.trans (By hla)).trans (By hca');have g1:qg (qg (qg L' ka (.lst (ja ks))) la (.lst (zc lk))) ca (.lst (zc ct)) ka=some (.lst (ja ks)):=(qd nkc).trans ((qd nka).trans q9);have g2:qg (qg (qg L' ka (.lst (ja ks))) la (.lst (zc lk))) ca (.lst (zc ct)) la=some (.lst (zc lk)):=(qd nlc).trans q9;have g3:qg (qg (qg L' ka (.lst (ja ks))) la (.lst (zc lk))) ca (.lst (zc ct)) ca=some (.lst (zc ct)):=q9;generalize qg (qg (qg L' ka (.lst (ja ks))) la (.lst (zc lk))) ca (.lst (zc ct))=L1 at s2 g1 g2 g3 ⊢;have b0:(0:Int)≤v / 4 % 3:=Dv _ (by decide);have b1:v / 4 % 3<3:=DF _ (by decide);have rng:∃r:Nat,v / 4 % 3=(r:Int)/\r<3:=⟨(v / 4 % 3).toNat,by lia,by lia⟩;obtain⟨r,er,hr3⟩:=rng;have lenP:∀l2:List (Nat×Nat),(zb l2).Perm (zb (zk R))->l2.length=(zk R).length:=fun l2 p=>by have:=p.length_eq;rw[xa,xa] at this;lia
 refine⟨⟨by decide,by decide⟩,show(0:Int)<3 by decide,⟨by lia,by lia⟩,?_⟩;refine xA (fun i τ L2=>∃l vT bH,τ=[some cy,some (.int s),some (.int (room':Int)),some (.int m),some (.int v),some (.bl (decide (v % 4=1))),some (.ref ka),some (ze R),some (.ref l),some (.ref ca),bH]/\qj L' L2/\L2 ka=some (.lst (ja ks))/\L2 l=some (.lst (zc vT))/\L2 ca=some (.lst (zc ct))/\LkI ks vT/\(zb vT).Perm (zb (zk R))) ⟨la,lk,_,rfl,s2,g1,g2,g3,LI.perm pl,xf pl⟩ ?_ ?_
 ·rintro i τ L2 hi ⟨l,vT,bH,rfl,s3,k1,k2,k3,I2,p2⟩;have l2:=lenP vT p2;refine⟨s,11+(0+(i:Int)),16807,rfl,by exact AY _,by omega,by decide,by decide,fun v1 _ _=>?_⟩;refine⟨s,17+(0+(i:Int)),40692,rfl,by exact AY _,by omega,by decide,by decide,fun v2 _ _=>?_⟩;refine⟨ka,l,ks,vT,v1,v2,rfl,k1,k2,I2,fun e=>?_,by lia,by exact cV,?_,fun D lk3 hD I3 l3 p3 pw3=>?_⟩
  ·rw[e] at l2;exact lne (Cr l2.symm)
  ·exact⟨_,ED _,l,vT,_,rfl,s3,k1,k2,k3,I2,p2⟩
  ·have nkD:ka≠D:=w5 k1 hD;have ncD:ca≠D:=w5 k3 hD;exact⟨_,ED _,D,lk3,_,rfl,s3.trans (By hD),(qd nkD).trans k1,q9,(qd ncD).trans k3,I3,p3.trans p2⟩
 rintro τ L2 ⟨l,vT,bH,rfl,s3,k1,k2,k3,I2,p2⟩;have l2:=lenP vT p2;have lc:ct.length=(zm R).length:=pc.length_eq;have clt2:∀x∈ct,x.1<ks.length/\x.2<ks.length:=fun x hx=>clt x (pc.mem_iff.mp hx);refine⟨fun τ' L3=>∃kb out,τ'=[some cy,some (.int s),some (.int (room':Int)),some (.int m),some (.int v),some (.bl (decide (v % 4=1))),some (.ref kb),some (ze R),some (.ref l),some (.ref ca),bH]/\qj L' L3/\L3 kb=some (.lst (v9 out))/\L3 l=some (.lst (zc vT))/\L3 ca=some (.lst (zc ct))/\(out=ks.map some\/∃qs,l6 ks ct qs []/\aj ks qs ks.length out),?_,?_⟩
 ·refine⟨⟨by decide,by decide⟩,show(0:Int)<2 by decide,?_⟩;refine j8 (fun h=>?_) (fun h=>?_)
  ·refine⟨ka,ca,ks,ct,s,m,rfl,k1,k3,ok,clt2,by rw[yf pc];exact cV,by exact cV,fun D qs out hD B T=>?_⟩;exact⟨D,out,rfl,s3.trans (By hD),q9,(qd (w5 k2 hD)).trans k2,(qd (w5 k3 hD)).trans k3,.inr ⟨qs,B,T⟩⟩
  ·exact⟨ka,ks.map some,rfl,s3,by rw[rO];exact k1,k2,k3,.inl rfl⟩
 rintro τ' L3 ⟨kb,out,rfl,s4,j1,j2,j3,ho⟩;have okO:m9 out:=by
  rcases ho with rfl | ⟨qs,B,T⟩
  ·exact gE ok
  ·exact T.okO ok
 have lo:out.length=ks.length:=by
  rcases ho with rfl | ⟨qs,B,T⟩
  ·exact Ae ..
  ·exact T.len
 refine⟨kb,l,ca,out,vT,ct,s,_,rfl,j1,j2,j3,okO,by lia,s4 _ _ hP,vd I2.nd,fun p hp=>⟨I2.lt p hp,?_⟩,by lia,pc.nodup_iff.mpr (vd cn),fun p hp=>by rw[lo];exact clt2 p hp,by lia,fun f wd lk' ct' wa la' ca' L4 rn pl' pwl pc' pwc sl nw nl nc n1 n2 n3 e1 e2 e3=>?_⟩
 ·obtain⟨_,_,_,h⟩:=I2.at_ p hp;rw[lo];exact zo h
 ·exact xr (q wa la' ca' wd lk' ct' L4 ⟨ks,R,E,vT,ct,out,f,ok,SRh,tp,hk120,I2,p2,pc,ho,rn,pl',pwl,pc',pwc⟩ (s4.trans sl) (s4.none nw) (s4.none nl) (s4.none nc) n1 n2 n3 e1 e2 e3)
theorem KW.lf{p:Nat}{n:Str}(h:wd[p]?=some (some (.lf t n))):KW (v9 wd) p (.leaf t n):=by show(v9 wd)[p]?=_;rw[Al,h];rfl
theorem KW.nd{p:Nat}{e:Bool}{l r:Wd}(h:wd[p]?=some (some (.nd e i j)))(hl:KW (v9 wd) i l)(hr:KW (v9 wd) j r):KW (v9 wd) p (.node e l r):=
 ⟨i,j,by rw[Al,h];rfl,hl,hr⟩
theorem yd{k:Kn}{n:Str}(h:pN k=.tup [.str (kL t),.str n]):k=.lf t n:=by
 cases k with
 |lf u m=>
  have h1:kL u=kL t:=by injection h with h;injection h with h _;injection h
  have h2:m=n:=by injection h with h;injection h with _ h;injection h with h _;injection h
  subst h2;cases u<;>cases t<;>first | rfl | (exfalso;revert h1;decide)
 |nd e i j=>injection h with h;injection h with _ h;injection h with _ h;cases h
theorem zB{k:Kn}{e:Bool}(h:pN k=.tup [.str (kN e),.int (i:Int),.int (j:Int)]):k=.nd e i j:=by
 cases k with
 |lf u m=>injection h with h;injection h with _ h;injection h with _ h;cases h
 |nd b i' j'=>
  have h1:kN b=kN e:=by injection h with h;injection h with h _;injection h
  have h2:((i':Nat):Int)=i:=by injection h with h;injection h with _ h;injection h with h _;injection h
  have h3:((j':Nat):Int)=j:=by injection h with h;injection h with _ h;injection h with _ h;injection h with h _;injection h
  have h2:=Cc.mp h2;have h3:=Cc.mp h3;subst h2 h3;cases b<;>cases e<;>first | rfl | (exfalso;revert h1;decide)
theorem aby{p:Nat}(h:(v9 wd)[p]?=some y):∃o,wd[p]?=some o/\mN o=y:=by rw[Al] at h;obtain⟨o,a,b⟩:=Ap.mp h;exact⟨o,a,b⟩
theorem KW.inv_lf{p:Nat}{n:Str}(h:KW (v9 wd) p (.leaf t n)):wd[p]?=some (some (.lf t n)):=by
 obtain⟨o,a,b⟩:=aby (show(v9 wd)[p]?=some (.tup [.str (kL t),.str n]) from h);cases o with
 |none=>cases b
 |some k=>rw[a,yd b]
theorem KW.inv_nd{p:Nat}{e:Bool}{l r:Wd}(h:KW (v9 wd) p (.node e l r)):∃i j,wd[p]?=some (some (.nd e i j))/\KW (v9 wd) i l/\KW (v9 wd) j r:=by
 obtain⟨i,j,h1,h2,h3⟩:=h;obtain⟨o,a,b⟩:=aby h1;cases o with
 |none=>cases b
 |some k=>exact⟨i,j,by rw[a,zB b],h2,h3⟩
theorem KW.dep{wd:List (Option Kn)}(ok:m9 wd):∀{w:Wd} {p:Nat},KW (v9 wd) p w->w.depth≤p+1
 |.leaf t n,p,_=>by show 1≤p+1;exact CH _
 |.node e l r,p,h=>by obtain⟨i,j,a,hl,hr⟩:=h.inv_nd;have:=ok p e i j a;have:=KW.dep ok hl;have:=KW.dep ok hr;show max l.depth r.depth+1≤p+1;lia
def gA(wd:List (Option Kn)):Prop:=∀(p:Nat) (e:Bool) (i j:Nat),wd[p]?=some (some (.nd e i j))->(∃k,wd[i]?=some (some k))/\∃k,wd[j]?=some (some k)
theorem pY{wd:List (Option Kn)}(ok:m9 wd)(th:gA wd):∀(n p:Nat) (k:Kn),p<n->wd[p]?=some (some k)->∃w,KW (v9 wd) p w
 |0,_,_,h,_=>absurd h (Cy _)
 |n+1,p,.lf t m,_,e=>⟨_,KW.lf e⟩
 |n+1,p,.nd b i j,h,e=>by have:=ok p b i j e;obtain⟨⟨k1,e1⟩,k2,e2⟩:=th p b i j e;obtain⟨l,hl⟩:=pY ok th n i k1 (by lia) e1;obtain⟨r,hr⟩:=pY ok th n j k2 (by lia) e2;exact⟨_,KW.nd e hl hr⟩
theorem t8(ok:a9 ks):gA (ks.map some):=by
 intro p e i j h;have lt:=gE ok p e i j h;have hp:=zo h;rw[Ae] at hp;have at_:∀x,x<ks.length->∃k,(ks.map some)[x]?=some (some k):=fun x hx=>⟨ks[x],by rw[Al,Aj hx];rfl⟩
 exact⟨at_ i (by omega),at_ j (by lia)⟩
theorem aj.inv(T:aj ks qs ks.length out){p:Nat}{e:Bool}(h:out[p]?=some (some (.nd e i j))):∃e',ks[p]?=some (.nd e' i j):=by
 have hp:p<ks.length:=by have:=zo h;rw[T.len] at this;exact this
 cases ek:ks[p]? with
 |none=>rw[Aj hp] at ek;cases ek
 |some k=>
  cases k with
  |lf t n=>
   have:=T.lf p t n hp ek;rw[h] at this;cases this
  |nd e' i' j'=>
   rcases T.nd p e' i' j' hp ek with⟨z,_⟩ | ⟨e2,z⟩
   ·rw[h] at z;cases z
   ·rw[h] at z;cases z;exact⟨e',rfl⟩
theorem aj.there(ok:a9 ks)(T:aj ks qs ks.length out):gA out:=by
 intro p e i j h;obtain⟨e',ek⟩:=T.inv h;have lt:i<p/\j<p:=ok p _ ek;have hp:=zo ek;obtain⟨m1,m2⟩:=sS ek;have at_:∀x,x<ks.length->x∈a6 ks->∃k,out[x]?=some (some k):=fun x hx hm=>by
  cases ex:ks[x]? with
  |none=>rw[Aj hx] at ex;cases ex
  |some k=>
   cases k with
   |lf t n=>exact⟨_,T.lf x t n hx ex⟩
   |nd b a c=>
    rcases T.nd x b a c hx ex with⟨_,z⟩ | ⟨e2,z⟩
    ·exact absurd hm z
    ·exact⟨_,z⟩
 exact⟨at_ i (by lia) m1,at_ j (by lia) m2⟩
theorem zG.inv{f:Nat->Nat}(r:zG f out wd){x:Nat}{k:Kn}(h:wd[x]?=some (some k)):∃p,p<out.length/\x=f p/\∃o,out[p]?=some o/\gq f o=some k:=by obtain⟨p,hp,e⟩:=r.gap.only x k h;have hp:=AV.mp hp;have:=r.gap.at_ p (AV.mpr hp) _ (Aj hp);rw[<-e,h] at this;exact⟨p,hp,e,_,Aj hp,(Be this).symm⟩
theorem zG.there{f:Nat->Nat}(r:zG f out wd)(th:gA out):gA wd:=by
 intro x e i j h;obtain⟨p,hp,rfl,o,eo,ek⟩:=r.inv h;cases o with
 |none=>cases ek
 |some k=>
  cases k with
  |lf t n=>cases ek
  |nd b a c=>
   cases ek;obtain⟨⟨k1,e1⟩,k2,e2⟩:=th p e a c eo;have mv:∀y k,out[y]?=some (some k)->∃k',wd[f y]?=some (some k'):=fun y k ey=>by have:=r.gap.at_ y (AV.mpr (zo ey)) _ ey;cases k with|lf t n=>exact⟨_,this⟩|nd b a c=>exact⟨_,this⟩
   exact⟨mv a k1 e1,mv c k2 e2⟩
theorem zG.word{f:Nat->Nat}(r:zG f out wd):∀{w:Wd} {p:Nat},KW (v9 out) p w->KW (v9 wd) (f p) w
 |.leaf t n,p,h=>by have e:=h.inv_lf;exact KW.lf (r.gap.at_ p (AV.mpr (zo e)) _ e)
 |.node b l rr,p,h=>by obtain⟨i,j,e,hl,hr⟩:=h.inv_nd;exact KW.nd (r.gap.at_ p (AV.mpr (zo e)) _ e) (r.word hl) (r.word hr)
theorem SR.cutw{E:List Nat}(h:SR ks R E):∀c∈zm R,∃w,cZ ks c.1 w/\cZ ks c.2 w.turn:=by
 induction h with
 |link _ _ _ _ _=>intro c hc;cases hc
 |ei _ _ _ _ _ _ _ ih=>exact ih
 |bo _ _ _ _ _ _ _ ih1 ih2=>intro x hx;exact(Ak.mp hx).elim (ih1 x) (ih2 x)
 |@cu p q A B EA EB E w h1 h2 h3 h4 h5 h6 h7 h8 ih1 ih2=>
  intro x hx;rcases Av.mp hx with rfl | hx
  ·exact⟨w,h5,h6⟩
  ·exact(Ak.mp hx).elim (ih1 x) (ih2 x)
theorem eB{ks:List Kn}{ct:List (Nat×Nat)}{qs:List Nat}{out:List (Option Kn)}(B:l6 ks ct qs [])(T:aj ks qs ks.length out):∀{w:Wd} {p:Nat},p∈qs->KW (v9 (ks.map some)) p w->KW (v9 out) p w
 |.leaf t n,p,hp,h=>by have e:=h.inv_lf;rw[Al] at e;obtain⟨k,ek,e2⟩:=Ap.mp e;cases e2;exact KW.lf (T.kp p hp (zo ek) _ ek)
 |.node b l r,p,hp,h=>by obtain⟨i,j,e,hl,hr⟩:=h.inv_nd;rw[Al] at e;obtain⟨k,ek,e2⟩:=Ap.mp e;cases e2;obtain⟨m1,m2⟩:=B.part p hp _ _ _ ek;have m1:i∈qs:=m1.resolve_right (Bd);have m2:j∈qs:=m2.resolve_right (Bd);exact KW.nd (T.kp p hp (zo ek) _ ek) (eB B T m1 hl) (eB B T m2 hr)
structure ap0(wd:List (Option Kn))(ct:List (Nat×Nat)):Prop where
 ok:m9 wd
 len:wd.length≤241
 there:gA wd
 word:∀x k,wd[x]?=some (some k)->∃w,KW (v9 wd) x w/\w.depth≤120
 cut:∀c∈ct,∃w,KW (v9 wd) c.1 w/\KW (v9 wd) c.2 w.turn/\w.depth≤120
 ctl:ct.length≤60
theorem aaq.webI(W:aaq wd lk ct):ap0 wd ct/\lk.length≤60:=by
 obtain⟨ks,R,E,lk0,ct0,out,f,ok,SRh,tp,hk,I,pl,pc,ho,rn,pl',_,pc',_⟩:=W.ex;have okO:m9 out:=by
  rcases ho with rfl | ⟨qs,B,T⟩
  ·exact gE ok
  ·exact T.okO ok
 have lo:out.length=ks.length:=by
  rcases ho with rfl | ⟨qs,B,T⟩
  ·exact Ae ..
  ·exact T.len
 have th:gA out:=by
  rcases ho with rfl | ⟨qs,B,T⟩
  ·exact t8 ok
  ·exact T.there ok
 have tl:(qz R).length=ks.length:=by rw[tp.length_eq,B7]
 have wg:=SRh.weight ok;have cl:=qW ks (zm R);have ll:2*(zk R).length≤ks.length:=by obtain⟨u,hu⟩:=kn R;have:=hu.length_eq;rw[Ad,xa] at this;lia
 have l1:lk.length=(zk R).length:=by have h1:=pl'.length_eq;have h2:=pl.length_eq;rw[Ae] at h1;rw[xa,xa] at h2;lia
 have l2:ct.length=(zm R).length:=by have h1:=pc'.length_eq;rw[Ae,pc.length_eq] at h1;exact h1
 refine⟨⟨rn.gap.ok,by have:=rn.len;lia,rn.there th,fun x k e=>?_,fun c hc=>?_,by lia⟩,by lia⟩
 ·obtain⟨p,hp,rfl,o,eo,ek⟩:=rn.inv e;cases o with
  |none=>cases ek
  |some k0=>
   obtain⟨w,hw⟩:=pY okO th (p+1) p k0 (by exact Bz _) eo;have:=KW.dep okO hw;exact⟨w,rn.word hw,by lia⟩
 ·obtain⟨c0,hc0,rfl⟩:=Bp.mp (pc'.mem_iff.mp hc);obtain⟨w,w1,w2⟩:=SRh.cutw c0 (pc.mem_iff.mp hc0);have q1:KW (v9 out) c0.1 w/\KW (v9 out) c0.2 w.turn:=by
   have e:∀{p w},cZ ks p w->KW (v9 (ks.map some)) p w:=fun h=>by rw[rO];exact h
   rcases ho with rfl | ⟨qs,B,T⟩
   ·exact⟨e w1,e w2⟩
   ·obtain⟨m1,m2⟩:=B.cut c0 hc0;exact⟨eB B T (m1.resolve_right Bd) (e w1),eB B T (m2.resolve_right Bd) (e w2)⟩
  have hp:c0.1<ks.length:=by
   have:∀{w:Wd} {p:Nat},KW (v9 out) p w->p<out.length:=fun {w p} h=>by cases w with|leaf t n=>exact zo h.inv_lf|node e l r=>obtain⟨i,j,a,_⟩:=h.inv_nd;exact zo a
   rw[<-lo];exact this q1.1
  have:=KW.dep okO q1.1;exact⟨w,rn.word q1.1,rn.word q1.2,by lia⟩
def u4(p0:jw):wv:=(qp (zr (ve qr) (qf 1))
 (qp (eO (xt (qa 0)) (qf 2) (j9 (aW aV (qa 1) (qe (qt p0 (kj (qa 2))) qr))))
 (jr (qa 1))))
def sN:wv:=(jr (vk (qe (bJ cr (kj (xu 0 0))) (qe (bJ cr (kj (xu 0 1))) (qe (bJ cr (kj (xu 0 2))) qr)))))
def xm(wd:List (Option Kn)):List Nat:=wd.flatMap jn
theorem fT(wd:List (Option Kn))(k:Option Kn):xm (wd++[k])=xm wd++jn k:=by unfold xm;rw[AM,AU,Dm,AW]
theorem lS(k:Option Kn):(jn k).length≤2:=by cases k with|none=>exact Bb _|some k=>cases k with|lf t n=>exact Bb _|nd e i j=>exact Ao _
theorem eG(wd:List (Option Kn)):(xm wd).length≤2*wd.length:=by
 induction wd with
 |nil=>exact Ao _
 |cons k r ih=>
  have e:xm (k::r)=jn k++xm r:=AU ..;have:=lS k;rw[e,Ad,AG];lia
def jU:jw:=fun ys L Q=>∃a,∃wd:List (Option Kn),ys=[.ref a]/\L a=some (.lst (v9 wd))/\wd.length≤1000/\∀p,L p=none->Q (.ref p) (qg L p (.lst (nY (xm wd))))
theorem adp:∀ys L Q,jU ys L Q->xx (u4 gR) 3 ys L Q:=by
 rintro ys L Q ⟨a,wd,rfl,ha,hz,q⟩;have big:=bg_;intro p hp;have s0:qj L (qg L p (.lst [])):=By hp;refine x4 (s0 _ _ ha) fun keep kp=>wm ⟨fun i τ L'=>∃c2,τ=[some (Y.ref a),some (Y.ref p),c2]/\qj L L'/\L' p=some (.lst (nY (xm (wd.take i)))),⟨_,rfl,s0,q9⟩,?_,?_,?_⟩
 ·rintro i τ L' ⟨c2,rfl,s,_⟩;exact kp L' (by rw[s _ _ ha,s0 _ _ ha])
 ·rintro i y τ L' hy ⟨c2,rfl,s,g⟩;rw[Al] at hy;obtain⟨k,ek,rfl⟩:=Ap.mp hy;have et:wd.take (i+1)=wd.take i++[k]:=by rw[Bq,ek];rfl
  have pl:=eG (wd.take i);have pk:=lS k;rw[AK] at pl;refine qb g ⟨k,rfl,fun d hd=>?_⟩;have n1:p≠d:=w5 g hd;refine qk ((qd n1).trans g) (qk q9 ⟨?_,?_⟩)
  ·rw[ae,ae];exact Bn (big _ (by lia))
  ·refine⟨_,ED _,_,rfl,(s.trans (By hd)).upd hp,?_⟩;rw[q9,et,fT,az]
 ·rintro τ L' ⟨c2,rfl,s,g⟩;rw[Ae,Bm] at g;refine⟨qg L p (.lst (nY (xm wd))),fun b o e=>?_,q p hp⟩;by_cases cc:b=p
  ·subst cc;rw[q9] at e;rw[<-e];exact g
  ·rw[qd cc] at e;exact s _ _ e
def gG(wd:List (Option Kn))(p:Nat):Bool:=match wd[p]? with
 |some (some _)=>true
 |_=>false
def iN(wd:List (Option Kn))(us:List Nat)(p:Nat):Bool:=gG wd p&&!(decide (p∈us))
def kg(wd:List (Option Kn))(us:List Nat)(i:Nat):List Nat:=(List.range i).filter (iN wd us)
theorem lT(wd:List (Option Kn))(us:List Nat)(i:Nat):kg wd us (i+1)=kg wd us i++if iN wd us i=true then [i] else []:=by unfold kg;rw[Ei,BS];congr 1;rw[Cn,Cw]
def vo(wd:List (Option Kn))(ct:List (Nat×Nat)):List Nat:=xm wd++zb ct
def pH:jw:=fun ys L Q=>∃a l c,∃xs zs us:List Y,ys=[sJ a l c]/\L a=some (.lst xs)/\L l=some (.lst zs)/\L c=some (.lst us)/\∀a' l' c' L',qj L L'->L a'=none->L l'=none->L c'=none->a'≠l'->a'≠c'->l'≠c'->L' a'=some (.lst xs)->L' l'=some (.lst zs)->L' c'=some (.lst us)->Q (sJ a' l' c') L'
theorem agb:∀ys L Q,pH ys L Q->xx sN 1 ys L Q:=by rintro ys L Q ⟨a,l,c,xs,zs,us,rfl,ha,hl,hc,q⟩;refine qb ha fun p1 h1=>?_;have s1:=By (o:=.lst xs) h1;refine qb (s1 _ _ hl) fun p2 h2=>?_;have s2:=s1.trans (By (o:=.lst zs) h2);refine qb (s2 _ _ hc) fun p3 h3=>?_;have n12:p1≠p2:=w5 q9 h2;have n23:p2≠p3:=w5 q9 h3;have n13:p1≠p3:=w5 ((qd n12).trans q9) h3;exact xr (q p1 p2 p3 _ (s2.trans (By h3)) h1 (s1.none h2) (s2.none h3) n12 n13 n23 ((qd n13).trans ((qd n12).trans q9)) ((qd n23).trans q9) q9)
def ip(ks:List Kn)(l:List Nat):List Nat:=l.flatMap fun p=>jn ks[p]?
theorem fW(ks:List Kn)(a b:List Nat):ip ks (a++b)=ip ks a++ip ks b:=by unfold ip;rw[AM]
theorem cG(ks:List Kn)(x:Nat)(l:List Nat):ip ks (x::l)=jn ks[x]?++ip ks l:=AU ..
theorem cB{E:List Nat}(h:E.Nodup)(hi:i∈E):E.Perm ([i]++E.filter fun x=>!decide (x=i)):=by
 refine(A9 h ?_).mpr fun x=>?_
 ·refine Au.mpr ⟨fun z=>?_,h.filter _⟩;have:=(AL.mp z).2;simp at this
 ·rw[Ak,Aw,AL];constructor
  ·intro hx;by_cases c:x=i
   ·exact .inl c
   ·exact .inr ⟨hx,by simp[c]⟩
  ·rintro(rfl | hx)
   ·exact hi
   ·exact hx.1
theorem SR.part{E:List Nat}(h:SR ks R E):(qz R).Nodup->(ip ks (qz R)++(zb (zm R)++E)).Perm (qz R):=by
 induction h with
 |@link p q t n E' h1 h2 h3 h4 h5=>
  intro _;have e:ip ks [p,q]=[]:=by rw[cG,cG,h2,h3];rfl
  show(ip ks [p,q]++([]++E')).Perm [p,q];rw[e,CV,CV];refine(A9 h5 (by simp;lia)).mpr fun x=>?_;rw[h4 x];simp
 |@ei r i j A EA E' h1 hA h3 h4 h5 h6 h7 ih=>
  intro nd;obtain⟨n1,n2⟩:=Au.mp nd;have ih:=ih n2;have nA:EA.Nodup:=(Aq.mp (Aq.mp (ih.nodup_iff.mpr n2)).2.1).2.1;have p1:=cB nA h3;have p2:(EA.filter fun x=>!decide (x=i)).Perm _:=cB (nA.filter _) (i:=j) (AL.mpr ⟨h4,by simp;exact AN h5⟩);have p3:E'.Perm ([r]++(EA.filter fun x=>!decide (x=i)).filter fun x=>!decide (x=j)):=by
   refine(A9 h7 (Au.mpr ⟨fun z=>n1 (hA.sub _ (AL.mp (AL.mp z).1).1),(nA.filter _).filter _⟩)).mpr fun x=>?_;rw[h6 x,Av,AL,AL];simp only[Df,decide_eq_false_iff_not];constructor
   ·rintro(⟨a,b,c⟩ | rfl)
    ·exact .inr ⟨⟨a,b⟩,c⟩
    ·exact .inl rfl
   ·rintro(rfl | ⟨⟨a,b⟩,c⟩)
    ·exact .inr rfl
    ·exact .inl ⟨a,b,c⟩
  show(ip ks (r::qz A)++(zb (zm A)++E')).Perm ([r]++qz A);rw[cG,h1];show((([i]++[j])++ip ks (qz A))++(zb (zm A)++E')).Perm _;refine CP.mpr fun a=>?_;have c1:=p1.count_eq a;have c2:=p2.count_eq a;have c3:=p3.count_eq a;have c4:=ih.count_eq a;simp only[Dg] at c1 c2 c3 c4 ⊢;lia
 |@bo r i j A B EA EB E' h1 hA hB h4 h5 h6 h7 ih1 ih2=>
  intro nd;obtain⟨n1,n2⟩:=Au.mp nd;obtain⟨m1,m2,m3⟩:=Aq.mp n2;have ih1:=ih1 m1;have ih2:=ih2 m2;have nA:EA.Nodup:=(Aq.mp (Aq.mp (ih1.nodup_iff.mpr m1)).2.1).2.1;have nB:EB.Nodup:=(Aq.mp (Aq.mp (ih2.nodup_iff.mpr m2)).2.1).2.1;have p1:=cB nA h4;have p2:=cB nB h5;have p3:E'.Perm ([r]++((EA.filter fun x=>!decide (x=i))++EB.filter fun x=>!decide (x=j))):=by
   refine(A9 h7 (Au.mpr ⟨fun z=>n1 ?_,Aq.mpr ⟨nA.filter _,nB.filter _,fun a ha b hb=>m3 a (hA.sub _ (AL.mp ha).1) b (hB.sub _ (AL.mp hb).1)⟩⟩)).mpr fun x=>?_
   ·rcases Ak.mp z with z | z
    ·exact Ar _ (hA.sub _ (AL.mp z).1)
    ·exact Af _ (hB.sub _ (AL.mp z).1)
   ·rw[h6 x,Av,Ak,AL,AL];simp only[Df,decide_eq_false_iff_not];constructor
    ·rintro(a | a | rfl)
     ·exact .inr (.inl a)
     ·exact .inr (.inr a)
     ·exact .inl rfl
    ·rintro(rfl | a | a)
     ·exact .inr (.inr rfl)
     ·exact .inl a
     ·exact .inr (.inl a)
  show(ip ks (r::(qz A++qz B))++(zb (zm A++zm B)++E')).Perm ([r]++(qz A++qz B));rw[cG,h1,fW,jx];show((([i]++[j])++(ip ks (qz A)++ip ks (qz B)))++((zb (zm A)++zb (zm B))++E')).Perm _;refine CP.mpr fun a=>?_;have c1:=p1.count_eq a;have c2:=p2.count_eq a;have c3:=p3.count_eq a;have c4:=ih1.count_eq a;have c5:=ih2.count_eq a;simp only[Dg] at c1 c2 c3 c4 c5 ⊢;lia
 |@cu p q A B EA EB E' w hA hB h3 h4 h5 h6 h7 h8 ih1 ih2=>
  intro n2;obtain⟨m1,m2,m3⟩:=Aq.mp (show(qz A++qz B).Nodup from n2);have ih1:=ih1 m1;have ih2:=ih2 m2;have nA:EA.Nodup:=(Aq.mp (Aq.mp (ih1.nodup_iff.mpr m1)).2.1).2.1;have nB:EB.Nodup:=(Aq.mp (Aq.mp (ih2.nodup_iff.mpr m2)).2.1).2.1;have p1:=cB nA h3;have p2:=cB nB h4;have p3:E'.Perm ((EA.filter fun x=>!decide (x=p))++EB.filter fun x=>!decide (x=q)):=by refine(A9 h8 (Aq.mpr ⟨nA.filter _,nB.filter _,fun a ha b hb=>m3 a (hA.sub _ (AL.mp ha).1) b (hB.sub _ (AL.mp hb).1)⟩)).mpr fun x=>?_;rw[h7 x,Ak,AL,AL];simp only[Df,decide_eq_false_iff_not]
  show(ip ks (qz A++qz B)++(zb ((p,q)::(zm A++zm B))++E')).Perm (qz A++qz B);rw[fW,jv,jx];show((ip ks (qz A)++ip ks (qz B))++(([p]++[q]++(zb (zm A)++zb (zm B)))++E')).Perm _;refine CP.mpr fun a=>?_;have c1:=p1.count_eq a;have c2:=p2.count_eq a;have c3:=p3.count_eq a;have c4:=ih1.count_eq a;have c5:=ih2.count_eq a;simp only[Dg] at c1 c2 c3 c4 c5 ⊢;lia
structure bL(wd:List (Option Kn)):Prop where
 ne:∀(p:Nat) (e:Bool) (i j:Nat),wd[p]?=some (some (.nd e i j))->i≠j
 un:∀(p q:Nat) (k l:Kn) (x:Nat),wd[p]?=some (some k)->wd[q]?=some (some l)->x∈jn (some k)->x∈jn (some l)->p=q
theorem oI{x:Nat}(h:x∈xm wd):∃(p:Nat) (k:Kn),wd[p]?=some (some k)/\x∈jn (some k):=by
 obtain⟨o,ho,hx⟩:=Ba.mp h;obtain⟨p,e⟩:=Ds ho;cases o with
 |none=>cases hx
 |some k=>exact⟨p,k,e,hx⟩
theorem bL.nodup:∀{wd:List (Option Kn)},bL wd->(xm wd).Nodup
 |[],_=>BP
 |k::r,U=>by
  have e:xm (k::r)=jn k++xm r:=AU ..;rw[e];refine Aq.mpr ⟨?_,bL.nodup ⟨fun p e i j h=>U.ne (p+1) e i j h,fun p q k l x h1 h2 h3 h4=>Nat.succ.inj (U.un (p+1) (q+1) k l x h1 h2 h3 h4)⟩,fun a ha b hb z=>?_⟩
  ·cases k with
   |none=>exact BP
   |some k=>
    cases k with
    |lf t n=>exact BP
    |nd b i j=>
     have:=U.ne 0 b i j rfl;show [i,j].Nodup;simp[this]
  ·subst z;obtain⟨p,l,h1,h2⟩:=oI hb;cases k with
   |none=>cases ha
   |some k=>exact absurd (U.un 0 (p+1) k l a rfl h1 ha h2) (Nat.succ_ne_zero p).symm
theorem aa7{l:List Nat}(h:(ip ks l).Nodup)(all:∀p,p<ks.length->p∈l):bL (ks.map some):=by
 have at_:∀{p:Nat} {k:Kn},(ks.map some)[p]?=some (some k)->ks[p]?=some k/\p∈l:=fun {p k} e=>by rw[Al] at e;obtain⟨k',e1,e2⟩:=Ap.mp e;cases e2;exact⟨e1,all p (zo e1)⟩
 clear all;constructor
 ·intro p e i j hp;obtain⟨h1,h2⟩:=at_ hp;obtain⟨a,b,rfl⟩:=Cs h2;rw[fW,cG,h1] at h;have:=(Aq.mp (Aq.mp h).2.1).1;have:[i,j].Nodup:=this;simpa using this
 ·intro p q k m x hp hq hx hy;obtain⟨h1,h2⟩:=at_ hp;obtain⟨h3,h4⟩:=at_ hq;by_cases c:p=q
  ·exact c
  ·exfalso;obtain⟨a,b,rfl⟩:=Cs h2;have hm:q∈a++b:=by
    rcases Ak.mp h4 with z | z
    ·exact Ar _ z
    ·rcases Av.mp z with z | z
     ·exact absurd z.symm c
     ·exact Af _ z
   have pm:(ip ks (a++p::b)).Perm (jn (some k)++ip ks (a++b)):=by rw[fW,cG,h1,fW];refine CP.mpr fun z=>?_;simp only[Dg];lia
   have n:=pm.nodup_iff.mp h;have hy':x∈ip ks (a++b):=Ba.mpr ⟨q,hm,by rw[h3];exact hy⟩;exact(Aq.mp n).2.2 x hx x hy' rfl
theorem bL.recT(U:bL (ks.map some))(T:aj ks qs ks.length out):bL out:=by
 have dn:∀{p:Nat} {k:Kn} {x:Nat},out[p]?=some (some k)->x∈jn (some k)->∃k',(ks.map some)[p]?=some (some k')/\x∈jn (some k'):=fun {p k x} h hx=>by
  cases k with
  |lf t n=>cases hx
  |nd e i j=>
   obtain⟨e',ek⟩:=T.inv h;exact⟨.nd e' i j,by rw[Al,ek];rfl,hx⟩
 constructor
 ·intro p e i j h;obtain⟨e',ek⟩:=T.inv h;exact U.ne p e' i j (by rw[Al,ek];rfl)
 ·intro p q k l x h1 h2 hx hy;obtain⟨k',a1,a2⟩:=dn h1 hx;obtain⟨l',b1,b2⟩:=dn h2 hy;exact U.un p q k' l' x a1 b1 a2 b2
theorem zG.part{f:Nat->Nat}(r:zG f out wd){x y:Nat}{k:Kn}(h:wd[x]?=some (some k))(hy:y∈jn (some k)):∃(p:Nat) (o:Kn) (a:Nat),x=f p/\out[p]?=some (some o)/\y=f a/\a∈jn (some o):=by
 obtain⟨p,hp,e,o,eo,ek⟩:=r.inv h;cases o with
 |none=>cases ek
 |some o=>
  cases o with
  |lf t n=>cases ek;cases hy
  |nd b i j=>
   cases ek;have hy:y∈[f i,f j]:=hy;rcases Av.mp hy with hy | hy
   ·exact⟨p,_,i,e,eo,hy,As ..⟩
   ·exact⟨p,_,j,e,eo,Aw.mp hy,Ah _ (As ..)⟩
theorem mI(ok:m9 out){p a:Nat}{o:Kn}(h:out[p]?=some (some o))(ha:a∈jn (some o)):a<out.length:=by
 cases o with
 |lf t n=>cases ha
 |nd e i j=>
  have:=ok p e i j h;have:=zo h;have ha:a∈[i,j]:=ha;rcases Av.mp ha with rfl | ha
  ·lia
  ·rw[Aw.mp ha];lia
theorem zG.inj{f:Nat->Nat}(r:zG f out wd){a b:Nat}(ha:a<out.length)(hb:b<out.length)(e:f a=f b):a=b:=r.gap.inj a (AV.mpr ha) b (AV.mpr hb) e
theorem bL.ren{f:Nat->Nat}(U:bL out)(ok:m9 out)(r:zG f out wd):bL wd:=by
 constructor
 ·intro x e i j h;obtain⟨p,hp,rfl,o,eo,ek⟩:=r.inv h;cases o with
  |none=>cases ek
  |some o=>
   cases o with
   |lf t n=>cases ek
   |nd b a c=>
    cases ek;have:=ok p e a c eo;exact fun z=>U.ne p e a c eo (r.inj (by lia) (by lia) z)
 ·intro x y k l z h1 h2 hz hw;obtain⟨p,o,a,rfl,e1,rfl,ha⟩:=r.part h1 hz;obtain⟨q,o',b,rfl,e2,eb,hb⟩:=r.part h2 hw;cases r.inj (mI ok e1 ha) (mI ok e2 hb) eb;rw[U.un p q o o' a e1 e2 ha hb]
def qR:Option Kn->Bool
 |some (.lf _ _)=>true
 |_=>false
theorem SR.leaves{E:List Nat}(h:SR ks R E):(zb (zk R)).Perm ((qz R).filter fun p=>qR ks[p]?):=by
 induction h with
 |@link p q t n E' h1 h2 h3 h4 h5=>
  show(zb [(p,q)]).Perm ([p,q].filter fun p=>qR ks[p]?);rw[kz,Cn,Cn,h2,h3];exact BF _
 |@ei r i j A EA E' h1 hA h3 h4 h5 h6 h7 ih=>
  show(zb (zk A)).Perm ((r::qz A).filter fun p=>qR ks[p]?);rw[Cn,h1];exact ih
 |@bo r i j A B EA EB E' h1 hA hB h4 h5 h6 h7 ih1 ih2=>
  show(zb (zk A++zk B)).Perm ((r::(qz A++qz B)).filter fun p=>qR ks[p]?);rw[Cn,h1,jx];show(zb (zk A)++zb (zk B)).Perm ((qz A++qz B).filter fun p=>qR ks[p]?);rw[BS];exact ih1.append ih2
 |@cu p q A B EA EB E' w hA hB h3 h4 h5 h6 h7 h8 ih1 ih2=>
  show(zb (zk A++zk B)).Perm ((qz A++qz B).filter fun p=>qR ks[p]?);rw[jx,BS];exact ih1.append ih2
theorem vJ(f:Nat->Nat):∀lk:List (Nat×Nat),(zb (lk.map (mmP f))).Perm ((zb lk).map f)
 |[]=>BF _
 |c::r=>by
  have ih:=vJ f r;rw[Az,jv,jv,Az,Az];show(min (f c.1) (f c.2)::max (f c.1) (f c.2)::_).Perm _;by_cases h:f c.1≤f c.2
  ·rw[BW h,Ck h];exact(ih.cons _).cons _
  ·rw[Dn (by lia),Cu (by lia)];exact((ih.cons _).cons _).trans (List.Perm.swap _ _ _)
theorem o9(f:Nat->Nat):∀ct:List (Nat×Nat),zb (ct.map (ppP f))=(zb ct).map f
 |[]=>rfl
 |c::r=>by rw[Az,jv,jv,Az,Az,o9 f r];rfl
theorem iF{f:Nat->Nat}:∀{l:List Nat},l.Nodup->(∀a∈l,∀b∈l,f a=f b->a=b)->(l.map f).Nodup
 |[],_,_=>BP
 |a::r,h,g=>by obtain⟨h1,h2⟩:=Au.mp h;rw[Az,Au];refine⟨fun z=>?_,iF h2 fun x hx y hy=>g x (Ah _ hx) y (Ah _ hy)⟩;obtain⟨b,hb,e⟩:=Bp.mp z;exact h1 (g b (Ah _ hb) a (As ..) e▸hb)
structure ara(wd:List (Option Kn))(ct:List (Nat×Nat)):Prop where
 ok:m9 wd
 len:wd.length≤241
 there:gA wd
 word:∀x k,wd[x]?=some (some k)->∃w,KW (v9 wd) x w/\w.depth≤120
 cut:∀c∈ct,∃w,KW (v9 wd) c.1 w/\KW (v9 wd) c.2 w.turn/\w.depth≤120
 ctl:ct.length≤61
structure Snd(wd:List (Option Kn))(lk ct:List (Nat×Nat)):Prop where
 web:ara wd ct
 pu:bL wd
 lkA:∀c∈lk,c.1<c.2/\∃t n,wd[c.1]?=some (some (.lf t n))/\wd[c.2]?=some (some (.lf (!t) n))
 lkN:(zb lk).Nodup
 lkL:∀p,p∈zb lk↔∃t n,wd[p]?=some (some (.lf t n))
 lkS:lk.Pairwise dq
 ctP:∀x∈zb ct,x∉xm wd
 ctN:(zb ct).Nodup
 ctS:ct.Pairwise dq
 ll:lk.length≤60
theorem aaq.snd(W:aaq wd lk ct):Snd wd lk ct/\∃(x:Nat) (k:Kn),wd[x]?=some (some k)/\x∉xm wd/\x∉zb ct:=by
 obtain⟨WI,ll⟩:=W.webI;obtain⟨ks,R,E,lk0,ct0,out,f,ok,SRh,tp,hk,I,pl,pc,ho,rn,pl',pwl,pc',pwc⟩:=W.ex;have nd:(qz R).Nodup:=tp.nodup_iff.mpr Co;have lt:∀x∈qz R,x<ks.length:=fun x hx=>AV.mp (tp.mem_iff.mp hx);have N:=(SRh.part nd).nodup_iff.mpr nd;obtain⟨N1,N2,N3⟩:=Aq.mp N;obtain⟨_,_,N4⟩:=Aq.mp N2;have U0:bL (ks.map some):=aa7 N1 fun p hp=>tp.mem_iff.mpr (AV.mpr hp);have okO:m9 out:=by
  rcases ho with rfl | ⟨qs,B,T⟩
  ·exact gE ok
  ·exact T.okO ok
 have lo:out.length=ks.length:=by
  rcases ho with rfl | ⟨qs,B,T⟩
  ·exact Ae ..
  ·exact T.len
 have U1:bL out:=by
  rcases ho with rfl | ⟨qs,B,T⟩
  ·exact U0
  ·exact U0.recT T
 have lf1:∀(p:Nat) (t:Bool) (n:Str),ks[p]?=some (.lf t n)->out[p]?=some (some (.lf t n)):=fun p t n h=>by
  rcases ho with rfl | ⟨qs,B,T⟩
  ·rw[Al,h];rfl
  ·exact T.lf p t n (zo h) h
 have dn:∀(p:Nat) (k:Kn),out[p]?=some (some k)->∃k',ks[p]?=some k'/\jn (some k')=jn (some k)/\(∀t n,k=.lf t n->k'=.lf t n):=fun p k h=>by
  have hp:p<ks.length:=by have:=zo h;lia
  rcases ho with rfl | ⟨qs,B,T⟩
  ·rw[Al] at h;obtain⟨k',e1,e2⟩:=Ap.mp h;cases e2;exact⟨k,e1,rfl,fun _ _ e=>e⟩
  ·cases k with
   |lf t n=>
    cases ek:ks[p]? with
    |none=>rw[Aj hp] at ek;cases ek
    |some k'=>
     cases k' with
     |lf t' n'=>
      have:=T.lf p t' n' hp ek;rw[h] at this;cases this;exact⟨_,rfl,rfl,fun _ _ e=>e⟩
     |nd e i j=>
      rcases T.nd p e i j hp ek with⟨z,_⟩ | ⟨e',z⟩
      ·rw[h] at z;cases z
      ·rw[h] at z;cases z
   |nd e i j=>
    obtain⟨e',ek⟩:=T.inv h;exact⟨_,ek,rfl,fun _ _ z=>by cases z⟩
 have up:∀{p:Nat} {o:Option Kn},out[p]?=some o->wd[f p]?=some (gq f o):=fun {p o} h=>rn.gap.at_ p (AV.mpr (zo h)) _ h;have prt:∀x,x∈xm wd->∃(a p:Nat) (k:Kn),x=f a/\a<ks.length/\out[p]?=some (some k)/\a∈jn (some k)/\a∈ip ks (qz R):=fun x hx=>by obtain⟨y,k,h1,h2⟩:=oI hx;obtain⟨p,o,a,_,h3,e,h4⟩:=rn.part h1 h2;have:=mI okO h3 h4;obtain⟨k',e1,e2,_⟩:=dn p o h3;exact⟨a,p,o,e,by lia,h3,h4,Ba.mpr ⟨p,tp.mem_iff.mpr (AV.mpr (zo e1)),by rw[e1,e2];exact h4⟩⟩
 have inj:∀a b,a<ks.length->b<ks.length->f a=f b->a=b:=fun a b ha hb=>rn.inj (by lia) (by lia);have pct:∀x,x∈zb ct->∃y,y∈zb (zm R)/\x=f y:=fun x hx=>by have:=(xf pc').mem_iff.mp hx;rw[o9] at this;obtain⟨y,hy,e⟩:=Bp.mp this;exact⟨y,(xf pc).mem_iff.mp hy,e.symm⟩
 have ct1:∀y∈zb (zm R),y<ks.length:=fun y hy=>lt y ((SRh.part nd).mem_iff.mp (Af _ (Ar _ hy)));have lk1:∀y∈zb lk0,y<ks.length:=fun y hy=>by have:=SRh.leaves.mem_iff.mp (pl.mem_iff.mp hy);exact lt y (AL.mp this).1
 have plm:(zb lk).Perm ((zb lk0).map f):=(xf pl').trans (vJ f lk0);refine⟨⟨⟨WI.ok,WI.len,WI.there,WI.word,WI.cut,by have:=WI.ctl;lia⟩,U1.ren okO rn,fun c hc=>?_,?_,fun p=>?_,pwl,fun x hx z=>?_,?_,pwc,ll⟩,?_⟩
 ·obtain⟨c0,hc0,rfl⟩:=Bp.mp (pl'.mem_iff.mp hc);obtain⟨t,n,h1,h2⟩:=I.at_ c0 hc0;have l0:=I.lt c0 hc0;have w1:=up (lf1 _ _ _ h1);have w2:=up (lf1 _ _ _ h2);have ne:f c0.1≠f c0.2:=fun z=>by have:=inj _ _ (zo h1) (zo h2) z;lia
  show min (f c0.1) (f c0.2)<max (f c0.1) (f c0.2)/\∃t n,wd[min (f c0.1) (f c0.2)]?=some (some (.lf t n))/\wd[max (f c0.1) (f c0.2)]?=some (some (.lf (!t) n));by_cases h:f c0.1≤f c0.2
  ·rw[BW h,Ck h];exact⟨by lia,t,n,w1,w2⟩
  ·rw[Dn (by lia),Cu (by lia)];exact⟨by lia,!t,n,w2,by rw[Bool.not_not];exact w1⟩
 ·exact plm.nodup_iff.mpr (iF I.nd fun a ha b hb=>inj a b (lk1 a ha) (lk1 b hb))
 ·rw[plm.mem_iff,Bp];constructor
  ·rintro⟨y,hy,rfl⟩;have:=(AL.mp (SRh.leaves.mem_iff.mp (pl.mem_iff.mp hy))).2;cases e:ks[y]? with
   |none=>rw[e] at this;cases this
   |some k=>
    cases k with|lf t n=>exact⟨t,n,up (lf1 y t n e)⟩|nd b i j=>rw[e] at this;cases this
  ·rintro⟨t,n,h⟩;obtain⟨y,hy,rfl,o,eo,ek⟩:=rn.inv h;cases o with
   |none=>cases ek
   |some o=>
    cases o with
    |nd b i j=>cases ek
    |lf t' n'=>
     cases ek;obtain⟨k',e1,_,e3⟩:=dn y _ eo;rw[e3 _ _ rfl] at e1;exact⟨y,pl.mem_iff.mpr (SRh.leaves.mem_iff.mpr (AL.mpr ⟨tp.mem_iff.mpr (AV.mpr (zo e1)),by rw[e1];rfl⟩)),rfl⟩
 ·obtain⟨y,hy,rfl⟩:=pct x hx;obtain⟨a,p,k,e,ha,_,_,hr⟩:=prt _ z;cases inj _ _ (ct1 y hy) ha e;exact N3 y hr y (Ar _ hy) rfl
 ·have e:(zb ct).Perm ((zb ct0).map f):=by rw[<-o9];exact xf pc'
  refine e.nodup_iff.mpr (iF ((xf pc).nodup_iff.mpr (Aq.mp N2).1) fun a ha b hb=>inj a b (ct1 a ((xf pc).mem_iff.mp ha)) (ct1 b ((xf pc).mem_iff.mp hb)))
 ·obtain⟨x0,h0⟩:=List.exists_mem_of_length_pos (SRh.ends ok);have t0:=SRh.sub x0 h0;have l0:=lt x0 t0;have nr:x0∉ip ks (qz R):=fun z=>N3 x0 z x0 (Af _ h0) rfl;have nc:∀y,y∈zb (zm R)->y≠x0:=fun y hy z=>N4 y hy x0 h0 z;have free:∀(a:Nat) (k:Kn),out[a]?=some (some k)->(a∉ip ks (qz R)\/∀(p:Nat) (k:Kn),out[p]?=some (some k)->a∉jn (some k))->a∉zb (zm R)->∃(x:Nat) (k:Kn),wd[x]?=some (some k)/\x∉xm wd/\x∉zb ct:=fun a k h1 h2 h3=>by
   have la:a<ks.length:=by have:=zo h1;lia
   obtain⟨k',hk'⟩:∃k',wd[f a]?=some (some k'):=by have:=up h1;cases k<;>exact⟨_,this⟩
   refine⟨f a,k',hk',fun z=>?_,fun z=>?_⟩
   ·obtain⟨b,p,k,e,hb,g1,g2,g3⟩:=prt _ z;cases inj _ _ la hb e;exact h2.elim (fun h=>h g3) fun h=>h p k g1 g2
   ·obtain⟨y,hy,e⟩:=pct _ z;cases inj _ _ la (ct1 y hy) e;exact h3 hy
  have e0:out[x0]?=some out[x0]:=Aj (by lia);cases eo:out[x0] with
  |some k=>exact free x0 k (by rw[e0,eo]) (.inl nr) fun z=>nc x0 z rfl
  |none=>
   rw[eo] at e0;rcases ho with rfl | ⟨qs,B,T⟩
   ·rw[Al] at e0;obtain⟨_,_,z⟩:=Ap.mp e0;cases z
   ·cases ek:ks[x0]? with
    |none=>rw[Aj l0] at ek;cases ek
    |some k=>
     cases k with
     |lf t n=>rw[lf1 x0 t n ek] at e0;cases e0
     |nd e i j=>
      have pi:=(sS ek).1;have oi:=ok x0 _ ek;have oi:i<x0/\j<x0:=oi;have ir:i∈ip ks (qz R):=Ba.mpr ⟨x0,t0,by rw[ek];exact As ..⟩;obtain⟨ki,hi⟩:∃ki,out[i]?=some (some ki):=by
       cases ei:ks[i]? with
       |none=>rw[Aj (by lia)] at ei;cases ei
       |some m=>
        cases m with
        |lf t n=>exact⟨_,lf1 i t n ei⟩
        |nd b a c=>
         rcases T.nd i b a c (by lia) ei with⟨_,z⟩ | ⟨e2,z⟩
         ·exact absurd pi z
         ·exact⟨_,z⟩
      refine free i ki hi (.inr fun p k hp hm=>?_) fun z=>N3 i ir i (Ar _ z) rfl;obtain⟨k',e1,e2,_⟩:=dn p k hp;have:=U0.un x0 p _ k' i (by rw[Al,ek];rfl) (by rw[Al,e1];rfl) (As ..) (by rw[e2];exact hm);rw[<-this,e0] at hp;cases hp
end L3
namespace TS
open PySem PyProof.Rows PySem.W
section
variable {w:World} 
def IntV(v:Value):Prop:=∃i t,v=.int i t
noncomputable def nmI(x:Keyed):Int:=match x.1 with
 |.int i _=>i
 |_=>0
theorem adv:xR prog w A s oneType' (fun x=>IntV x.1) nmI:=by
 constructor;rintro x y ⟨i,t,e1⟩ ⟨j,u,e2⟩ E Q h;have h1:nmI x=i:=by unfold nmI;rw[e1]
 have h2:nmI y=j:=by unfold nmI;rw[e2]
 rw[h1,h2] at h;rw[e1,e2];exact kat_lt_int h
theorem tG:∀{vs:List Value},(∀v∈vs,IntV v)->∃ns,IntsAre vs ns
 |[],_=>⟨[],.nil⟩
 |v::r,h=>by obtain⟨i,t,rfl⟩:=h v (As ..);obtain⟨ns,k⟩:=tG (vs:=r) fun u hu=>h u (Ah _ hu);exact⟨_,.cons i t k⟩
theorem xH(h:∀v∈vs,IntV v)(h2:¬vs.length<2):keyKind' vs.toArray=pure oneType':=by
 obtain⟨ns,k⟩:=tG h
 match vs,k,h2 with
 |[],_,h2=>exact absurd (Nat.zero_lt_succ 1) h2
 |[_],_,h2=>exact absurd (Bz 1) h2
 |_::_::_,k,_=>exact keyKind_ints k
theorem ad5{a:Addr}{P:PySem.Fin->Shared->Prop}(ho:s.heap.get? a=some (seqObj "list" vs.toArray n))(hz:vs.length≤100000)(hk:∀v∈vs,IntV v)(inj:((vs.zip vs).map nmI).Nodup)
 (h:∀h' tk (xs:List Keyed) c,(∀b o,b≠a->s.heap.get? b=some o->h'.get? b=some o)->h'.get? a=some (seqObj "list" (List.toArray (xs.map (·.2))) c)->xs.Perm (vs.zip vs)->(xs.Pairwise fun x y=>nmI x≤nmI y)->P (.done (.ret .none)) { s with heap:=h',toks:=tk }):
 wpAny (model prog w) A (Builtin.«list.sort» ⟨[.ref a],[]⟩) P E s:=by
 have big:(100000:Nat)+1≤sizeLine:=by rw[sizeLine_eq];exact Ct _ _
 have zl:(vs.toArray.zip vs.toArray).toList=vs.zip vs:=by simp
 have s1:=Heap.SameBut.update s.heap a (Obj.mapSeq fun _=>(#[]:Array Value));obtain⟨e1,ho1⟩:∃e1,(s.heap.update a (Obj.mapSeq fun _=>(#[]:Array Value))).get? a=some (seqObj "list" #[] e1):=⟨_,get?_update_seq ho fun _=>#[]⟩;obtain⟨hp3,ehp3⟩:∃g,g=((s.heap.update a (Obj.mapSeq fun _=>(#[]:Array Value))).push (seqObj "tuple" vs.toArray 0)).push (seqObj "list" #[] 0):=⟨_,rfl⟩;have k3:∀b o,b≠a->s.heap.get? b=some o->hp3.get? b=some o:=fun b o hb e=>by rw[ehp3];exact Heap.get?_push_of_some _ (Heap.get?_push_of_some _ ((s1.2 b hb).trans e))
 have ha3:hp3.get? a=some (seqObj "list" #[] e1):=by rw[ehp3];exact Heap.get?_push_of_some _ (Heap.get?_push_of_some _ ho1)
 have tail:∀st:SortSt,(arrOf st).toList.Perm (vs.zip vs)->((arrOf st).toList.Pairwise fun x y=>nmI x≤nmI y)->
  ∀tk,P (.done (.ret .none)) { s with heap:=hp3.update a (Obj.mapSeq fun _=>(arrOf st).map (·.2)),toks:=tk }:=by
  intro st hp hs tk;have s2:=Heap.SameBut.update hp3 a (Obj.mapSeq fun _=>(arrOf st).map (·.2));obtain⟨c2,hc2⟩:∃c2,(hp3.update a (Obj.mapSeq fun _=>(arrOf st).map (·.2))).get? a=some (seqObj "list" ((arrOf st).map (·.2)) c2):=⟨_,get?_update_seq ha3 fun _=>(arrOf st).map (·.2)⟩;have em:(arrOf st).map (·.2)=List.toArray ((arrOf st).toList.map (·.2)):=by apply DV.mp;rw[DW]
  refine h _ tk (arrOf st).toList c2 (fun b o hb e=>(s2.2 b hb).trans (k3 b o hb e)) ?_ hp hs;rw[em] at hc2 ⊢;exact hc2
 have len:∀st:SortSt,(arrOf st).toList.Perm (vs.zip vs)->((arrOf st).map (·.2)).size≤sizeLine+1:=fun st hp=>by have:=hp.length_eq;rw[Cv,AJ] at this;rw[Em];lia
 rw[list_sort_plain];refine Aa (listItems_at ho rfl ?_);refine Aa (listUpdate_at ho rfl ?_ (by rw[Am];exact cV) (Bb _));refine Aa (seqEpoch_at ho1 rfl ?_);refine Aa (wpAny_newTuple ?_ (by show vs.length≤_;lia));refine Aa (wpAny_newList ?_ (Bb _));refine A7 ?_;show wpAny (model prog w) A _ P E { s with heap:=((s.heap.update a (Obj.mapSeq fun _=>(#[]:Array Value))).push (seqObj "tuple" vs.toArray 0)).push (seqObj "list" #[] 0) };rw[<-ehp3];dsimp only;by_cases h2:vs.toArray.size<2
 ·rw[AD h2,AD h2];refine Aa (Ag ?_);rw[StateT.run_pure];refine Aa (Ag ?_);dsimp only;refine Aa (seqEpoch_at ha3 rfl ?_);have pz:(arrOf (SortSt.mk' oneType' (vs.toArray.zip vs.toArray) #[] 7 none)).toList.Perm (vs.zip vs):=by show(vs.toArray.zip vs.toArray).toList.Perm _;rw[zl]
  refine Aa (listUpdate_at ha3 rfl ?_ (Bb _) (len _ pz));simp only[bne_self_eq_false,BM,if_false];refine Ag (tail (SortSt.mk' oneType' (vs.toArray.zip vs.toArray) #[] 7 none) pz ?_ _);show(vs.toArray.zip vs.toArray).toList.Pairwise _;rw[zl];rw[Am] at h2;have:(vs.zip vs).length<2:=by rw[Cv];lia
  exact lu this
 ·rw[Ay h2,Ay h2];rw[Am] at h2;rw[xH hk h2];refine Aa (Ag ?_);refine Aa (AX (uM (E:=E) (adv (s:={ s with heap:=hp3 })) (st:=SortSt.mk' oneType' (vs.toArray.zip vs.toArray) #[] 7 none)
   (Q:=fun _ st'=>failedOf st'=none/\(arrOf st').toList.Perm (vs.zip vs)/\((arrOf st').toList.Pairwise fun x y=>nmI x≤nmI y)) rfl rfl rfl (fun x hx=>?_) ?_ fun st' b1 b2 b3=>⟨b1,?_,b3⟩) ?_ fun _ _ e=>e)
  ·have hx:x∈(vs.toArray.zip vs.toArray).toList:=hx;rw[zl] at hx;exact hk _ (mem_self_zip hx).1
  ·show((vs.toArray.zip vs.toArray).toList.map _).Nodup;rw[zl];exact inj
  ·have b2:(arrOf st').toList.Perm (vs.toArray.zip vs.toArray).toList:=b2;rw[zl] at b2;exact b2
  ·rintro⟨⟨⟩,st'⟩ s' ⟨rfl,b1,b2,b3⟩;dsimp only;refine Aa (seqEpoch_at ha3 rfl ?_);refine Aa (listUpdate_at ha3 rfl ?_ (Bb _) (len _ b2));rw[b1];simp only[bne_self_eq_false,BM,if_false];exact Ag (tail st' b2 b3 _)
theorem w_sortedI(hl:s.heap.IsList l vs.toArray)(hz:vs.length≤100000)(hk:∀v∈vs,IntV v)(inj:((vs.zip vs).map nmI).Nodup)
 (h:∀h' tk (xs:List Keyed) D c,s.heap.objs.size≤D->(∀b o,s.heap.get? b=some o->h'.get? b=some o)->h'.get? D=some (seqObj "list" (List.toArray (xs.map (·.2))) c)->xs.Perm (vs.zip vs)->(xs.Pairwise fun x y=>nmI x≤nmI y)->Q (.ref D) { s with heap:=h',toks:=tk }):
 wpAny (model prog w) A (call (.builtin "sorted") [.ref l]) Q E s:=by
 have big:(100000:Nat)+1≤sizeLine:=by rw[sizeLine_eq];lia
 refine Calls.call_function_entry kind_sorted plain_sorted entry_sorted (args_sorted1 _) ?_;unfold Builtin.«sorted»;refine Aa (m:=checkCount "sorted" 1 1 _) (Ag ?_);refine Aa (collect_list hl ?_ (by lia));refine Aa (wpAny_newList ?_ (by lia));obtain⟨g,eg⟩:∃g,g=(s.heap.push (seqObj "list" #[] 0)).update s.heap.objs.size (Obj.mapSeq (· ++ vs.toArray)):=⟨_,rfl⟩;have gs:g.objs.size=s.heap.objs.size+1:=by rw[eg,Heap.size_update,size_push']
 have gk:∀b o,s.heap.get? b=some o->g.get? b=some o:=fun b o q=>by have hlt:b<s.heap.objs.size:=Heap.lt_size q;rw[eg,Heap.get?_update_ne _ _ _ _ (A3 hlt)];exact Heap.get?_push_of_some _ q
 show wpAny _ _ _ _ _ { s with heap:=((s.heap.push (seqObj "list" #[] 0)).update s.heap.objs.size (Obj.mapSeq (· ++ vs.toArray))).push (seqObj "list" vs.toArray 0) };rw[<-eg];have hoD:(g.push (seqObj "list" vs.toArray 0)).get? g.objs.size=some (seqObj "list" vs.toArray 0):=Heap.get?_push_size _ rfl;have keep:∀b o,s.heap.get? b=some o->(g.push (seqObj "list" vs.toArray 0)).get? b=some o:=fun b o q=>Heap.get?_push_of_some _ (gk b o q);refine Aa (A7 (wpAny_call_entry slot_list_sort ⟨_,hoD,rfl⟩ entry_list_sort ?body (args_list_sort _)))
 case body=>
  refine ad5 (s:={ s with heap:=g.push (seqObj "list" vs.toArray 0) }) hoD hz hk inj fun h' tk xs c k1 hD pm pw=>?_;refine⟨_,rfl,Ag ⟨_,rfl,h h' tk xs g.objs.size c (by rw[gs];exact Cp _) (fun b o q=>k1 b o ?_ (keep b o q)) hD pm pw⟩⟩;have hlt:b<s.heap.objs.size:=Heap.lt_size q;intro z;rw[z,gs] at hlt;exact Dr hlt
end
end TS
namespace L2
open PySem PySem.Spec PyProof.Rows
theorem fD:∀{ns:List Int} {vs:List Value},zp (ns.map V.int) vs->IntsAre vs ns
 |[],_,.nil=>.nil
 |n::_,_,.cons ⟨t,e⟩ p=>by subst e;exact .cons n t (fD p)
theorem lM:∀{vs:List Value} {ns:List Int},IntsAre vs ns->(vs.zip vs).map TS.nmI=ns
 |_,_,.nil=>rfl
 |_,_,.cons n t h=>by rw[DE,Az,lM h];rfl
theorem lQ:∀{vs:List Value} {ns:List Int},IntsAre vs ns->∀v∈vs,TS.IntV v
 |_,_,.nil,_,h=>by cases h
 |_,_,.cons n t k,v,h=>by
  rcases Av.mp h with rfl | h
  ·exact⟨n,t,rfl⟩
  ·exact lQ k v h
theorem tN:∀{xs:List PyProof.Rows.Keyed},(∀x∈xs,TS.IntV x.1/\x.1=x.2)->zp ((xs.map TS.nmI).map V.int) (xs.map (·.2))
 |[],_=>.nil
 |x::r,h=>by obtain⟨⟨i,t,e⟩,e2⟩:=h x (As ..);refine .cons ⟨t,?_⟩ (tN fun y hy=>h y (Ah _ hy));show x.2=Value.int (TS.nmI x) t;rw[<-e2,e];unfold TS.nmI;rw[e]
section
def ajb(X:Cx):List V->Hp->VK->Prop:=fun xs H Q=>∃(l:Addr) (ns:List Int),xs=[.ref l]/\aE X.K H l (ns.map V.int)/\ns.Nodup/\ns.length≤100000/\
 ∀(D:Addr) (ms:List Int),H D=none->ms.Perm ns->ms.Pairwise (fun a b:Int=>a≤b)->Q (.ref D) (upd H D (.lst (ms.map V.int)))
theorem tj:jq X (.builtin "sorted") (ajb X):=by
 intro pins s σ H xs us Q I r h;obtain⟨l,ns,rfl,hl,hnd,hlen,q⟩:=h;obtain⟨u,rfl,ru⟩:=r.one;cases (show u=Value.ref l from ru);obtain⟨its,rv,pl,hz⟩:=I.list hl;have ia:=fD rv;have l1:ns.length=its.length:=by have:=rv.length;rw[Ae] at this;exact this
 refine ji I.tk (TS.w_sortedI pl.isList (by rw[<-l1];exact hlen) (lQ ia) (by rw[lM ia];exact hnd) fun h' tk ks D c hD hk hg pm pw ht=>?_);have mk:∀x∈ks,TS.IntV x.1/\x.1=x.2:=fun x hx=>by obtain⟨m1,m2⟩:=TS.mem_self_zip (pm.mem_iff.mp hx);exact⟨lQ ia _ m1,m2⟩
 have pn:(ks.map TS.nmI).Perm ns:=by rw[<-lM ia];exact pm.map _
 refine⟨.ref D,_,I.laid (t':=tk) (o:=.lst ((ks.map TS.nmI).map V.int)) hk hD ⟨?_,ks.map (·.2),c,tN mk,hg⟩,rfl,q D _ (I.hok.fresh hD) pn (BH.mpr pw)⟩;rw[Ae,pn.length_eq,<-Ae (f:=V.int)];exact hz
def sG(ns:List Int):Nat:=(firstMet (fun i=>ns.getD i 0) ns.length).length
def afm(X:Cx)(te:TE):TE:=fun σ H Q=>te σ H fun x H1=>∃(a:Addr) (ns:List Int),x=.ref a/\aE X.K H1 a (ns.map V.int)/\ns.length≤4000/\Q (.int (sG ns:Nat)) H1
theorem aid:bootBuiltins "set" = some (.type "set"):=by decide +kernel
theorem yR{te:TE}{ps:Pos}(hc:X.calm=true)(hgl:Gl X "len")(hml:X.mg "len" = none)(hgs:Gl X "set")(hms:X.mg "set" = none)(he:PE X e te)(h1:starEach [e] X.env=(false,eval e X.env)::starEach [] X.env:=by rfl):
 PE X (.Call (.Name "len" p1) [.Call (.Name "set" p2) [e] [] ps] [] pos) (afm X te):=by
 intro pins s σ H Q I h;refine wpAny_Call_Name_kw (cY I hgl hml aap ?_);refine callWith_builtin1 ?_ rfl rfl;show wpAny _ _ (spliced ((false,eval (.Call (.Name "set" p2) [e] [] ps) X.env)::[])) _ _ s;refine Calls.spliced_cons ?_;refine wpAny_Call_Name_kw (cY I hgs hms aid ?_);refine callWith_type1 ?_ h1 rfl;rw[h1];show wpAny _ _ (spliced ((false,eval e X.env)::[])) _ _ s;refine Calls.spliced_cons (va (he pins s σ H _ I h) fun u s1 ⟨x,H1,I1,r1,q1⟩=>?_);obtain⟨a,ns,rfl,hq,hz,q⟩:=q1;cases (show u=Value.ref a from r1);obtain⟨its,rv,pl,_⟩:=I1.list hq;have ia:=fD rv;have l1:ns.length=its.length:=by have:=rv.length;rw[Ae] at this;exact this
 have sb:(4001:Nat)<scanBound:=by decide
 refine Calls.spliced_nil ?_;refine ji I1.tk (call_set_list (I1.ok.hd hc) pl.isList (ns:=ns) (by simpa using ia) (by rw[Am];lia) fun h' tk hS hk ht=>?_);have sz:its.toArray.size=ns.length:=by rw[Am,l1]
 rw[sz] at hS;obtain⟨o,ho,hex,es,ep,t,hd,_,_,hn,hf⟩:=hS.objOf;have I2:z9 X pins σ H1 { s1 with heap:=h',toks:=tk }:=I1.kept (fun b o e=>hk b o (Heap.lt_size e) e) ht;have le:sG ns≤ns.length:=firstMet_length_le _ _;have hn:es.size=sG ns:=hn;refine Calls.spliced_nil (call_len_set (s:={ s1 with heap:=h',toks:=tk }) ho hex hd hf (by rw[hn];lia) ?_);rw[hn];exact⟨.int (sG ns:Nat),H1,I2.kept (fun _ _ e=>e) (CH _),⟨_,rfl⟩,q⟩
end
end L2
namespace L3
open PySem L2
def uc(xs:List Y)(L:qm)(Q:YK):Prop:=match xs with
 |[.ref a]=>cW L a fun ys=>∃ns:List Int,ys=ns.map Y.int/\ns.Nodup/\ns.length≤100000/\∀(D:Addr) (ms:List Int),L D=none->ms.Perm ns->ms.Pairwise (fun a b:Int=>a≤b)->Q (.ref D) (qg L D (.lst (ms.map Y.int)))
 |_=>False
theorem o8{G:G3}{H:Hp}:∀{ns:List Int} {xs:List V},xo G H (ns.map Y.int) xs->xs=ns.map V.int
 |[],_,h=>h
 |n::r,_,⟨x,xs',e,rx,s⟩=>by subst e;cases (show x=V.int n from rx);rw[o8 s];rfl
theorem vV{G:G3}{H:Hp}:∀ns:List Int,xo G H (ns.map Y.int) (ns.map V.int)
 |[]=>rfl
 |n::r=>⟨_,_,rfl,rfl,vV r⟩
theorem aez :jq X (.builtin "sorted") (upL X.g3 uc):=ER tj fun xs H Q ⟨ys,L,Q3,rv,rl,z,k⟩=>by
 unfold uc at z;split at z
 ·rename_i a;obtain⟨zs,e,ns,rfl,hnd,hlen,z⟩:=xh z;obtain⟨vs,e2,r⟩:=rl a _ e;obtain⟨u,rfl,ru⟩:=rv.inv1;cases (show u=V.ref a from ru);cases o8 r;exact⟨a,ns,rfl,ES e2,hnd,hlen,fun D ms hD pm pw=>k _ _ _ _ (EE hD) (rl.newL hD (vV ms)) (by rfl) (z D ms (rl.none hD) pm pw)⟩
 ·exact z.elim
def wT(ta:xp)(τ:jp)(L:qm)(Q:YK):Prop:=ta τ L fun x L1=>match x with
 |.ref a=>cW L1 a fun ys=>∃ns:List Int,ys=ns.map Y.int/\ns.length≤4000/\Q (.int (sG ns:Nat)) L1
 |_=>False
theorem yU{ps:Pos}(hc:X.calm=true)(hgl:Gl X "len")(hml:X.mg "len" = none)(hgs:Gl X "set")(hms:X.mg "set" = none)(he:QE X e te)(h1:starEach [e] X.env=(false,eval e X.env)::starEach [] X.env:=by rfl):
 QE X (.Call (.Name "len" p1) [.Call (.Name "set" p2) [e] [] ps] [] pos) (wT te):=EF (yR hc hgl hml hgs hms he h1) fun σ H Q ⟨τ,L,Q3,rs,rl,z,k⟩=>
 ⟨τ,L,_,rs,rl,z,fun v H1 y L1 t1 rl1 rv1 z1=>by
  cases y with
  |ref a=>
   obtain⟨zs,e,ns,rfl,hz,z⟩:=xh z1;obtain⟨vs,e2,r⟩:=rl1 a _ e;cases o8 r;exact⟨a,ns,rv1,ES e2,hz,k _ H1 _ L1 t1 rl1 (by rfl) z⟩
  |_=>exact z1.elim⟩
theorem xD{ns:List Int}(h:ns.Nodup):sG ns=ns.length:=by
 have key:∀i,i≤ns.length->PyProof.Rows.firstMet (fun i=>ns.getD i 0) i=ns.take i:=by
  intro i
  induction i with
  |zero=>intro _;rfl
  |succ i ih=>
   intro hi;rw[PyProof.Rows.firstMet_succ,ih (Nat.le_of_succ_le hi)];have e:ns[i]?=some ns[i]:=Aj hi;have e1:ns.getD i 0=ns[i]:=by rw[Bh,e];rfl
   rw[e1,Bq,e,Option.toList_some];unfold PyProof.Rows.step_dedup;rw[Ay];intro hm;have hm:ns[i]∈ns.take i:=by simpa using hm
   obtain⟨j,hj,e2⟩:=A2 hm;rw[AK] at hj;rw[Br] at e2;have:=(List.getElem_inj h).mp e2;lia
 unfold sG;rw[key _ (Ao _),Bm]
open PySem L2 Words
def pZ(p0:jw):wv:=(jr (a8 (cX true (qa 0)) (qt p0 (kj (qa 0)))))
def r6:wv:=(jr (zn (mQ false) (wT (qa 0)) (bM 0)))
def sh(p0:jw)(p1:jw):wv:=(qp (zr (qt p0 (qe (zn ax (qa 0) (qa 1)) qr)) (qf 2))
 (qp (zr (bJ ye (qe (mY 1 (xt (qa 2)) (qf 4) md (a8 (gc (jk 0) (mF yLe (qa 4) (mw zT (qa 1)))) (cX true (zn ax (qa 0) (qa 4))))) qr)) (qf 3))
 (jr (a8 (qa 3) (qt p1 (kj (qa 2)))))))
def rA(p0:jw):wv:=(qp (zr (bJ ye (qe (mY 1 (fM (kj (bM 0))) (qf 2) md (qt p0 (k8 (qa 0) (qa 2)))) qr)) (qf 1))
 (jr (a8 (qa 1) (bJ aih (qe (mY 1 (xt (qa 0)) (qf 2) md (cX true (qa 2))) qr)))))
def zJ(p0:jw)(p1:jw):wv:=(qp (xc (y7 (yB (gc (jk 0) (mF yLe (qa 1) (mF zT (qa 2) (mw zT (bM 0))))))) (jr (yC (.bl false))) js)
 (jr (a8 (qt p1 (qe (zn ax (qa 0) (qa 1)) qr)) (zn (mQ false) (zn ax (qa 0) (qa 2)) (qt p0 (qe (zn ax (qa 0) (qa 1)) qr))))))
def tS(p0:jw)(p1:jw)(p2:jw):wv:=(qp (zr (bJ ye (qe (mY 2 (xt (qa 1)) (wo 2 (zg (qf 4) (zg (qf 5) vz))) md (qt p0 (qe (qa 0) (k8 (qa 4) (qa 5))))) qr)) (qf 2))
 (qp (zr (mY 2 (lZ (qa 0)) (wo 2 (zg (qf 4) (zg (qf 5) vz))) (yB (qt p1 (kj (qa 5)))) (qa 4)) (qf 3))
 (jr (a8 (qa 2) (a8 (zn (mQ false) (bJ uc (qe (qt p2 (kj (qa 1))) qr)) (qa 3)) (zn (mQ false) (qa 1) (bJ aQ (kj (qa 1)))))))))
def pF(p0:jw):wv:=(jr (a8 (gc (jk 0) (mF yLe (qa 1) (mw zT (bM 0)))) (a8 (cX true (zn ax (qa 0) (qa 1))) (zn (lh true) (qa 1) (qt p0 (kj (qa 0)))))))
def aak(p0:jw)(p1:jw)(p2:jw):wv:=(qp (xc (y7 (eL (yB (qt p0 (k8 (qa 0) (qa 1)))) (yB (qt p0 (k8 (qa 0) (qa 2)))))) (jr (yC (.bl false))) js)
 (jr (zn (mQ false) (qt p1 (k8 (qa 0) (qa 2))) (qt p2 (qe (qt p1 (k8 (qa 0) (qa 1))) qr)))))
def tz(p0:jw)(p1:jw)(p2:jw):wv:=(qp (zr (bJ ye (qe (mY 2 (xt (qa 1)) (wo 2 (zg (qf 3) (zg (qf 4) vz))) md (qt p0 (qe (qa 0) (k8 (qa 3) (qa 4))))) qr)) (qf 2))
 (jr (a8 (qa 2) (a8 (qt p1 (qe (qt p2 (kj (qa 1))) qr)) (zn (mQ false) (qa 1) (bJ aQ (kj (qa 1))))))))
def aab:wv:=(xc (y7 (yB (qa 0))) acp js)
def mS(p0:jw)(p1:jw)(p2:jw)(p3:jw)(p4:jw)(p5:jw):wv:=(qp (zr (xu 0 0) (qf 1))
 (qp (j9 (qt p0 (qe (qt p1 (kj (qa 1))) (kj (fE "the knots are not sound, or all of them are gone")))))
 (qp (j9 (qt p0 (qe (qt p2 (qe (qt p3 (kj (qa 1))) qr)) (kj (fE "a place is a part of two knots")))))
 (qp (j9 (qt p0 (qe (qt p4 (k8 (qa 1) (xu 0 1))) (kj (fE "the links do not link each leaf once, in rising order")))))
 (qp (j9 (qt p0 (qe (qt p5 (k8 (qa 1) (xu 0 2))) (kj (fE "the cuts are not of two free turned sides each, in rising order")))))
 (jr (yC (.bl true))))))))
theorem qC(l:List Nat):nY l=(l.map fun n:Nat=>(n:Int)).map Y.int:=by unfold nY;rw[BC];rfl
theorem kC{l:List Nat}(h:l.Nodup):(l.map fun n:Nat=>(n:Int)).Nodup:=bE (fun _ _ _ _ e=>Cc.mp e) h
def fZ:jw:=fun ys L Q=>∃a,∃l:List Nat,ys=[.ref a]/\L a=some (.lst (nY l))/\l.length≤1000/\l.Nodup/\Q (.bl true) L
theorem aed:∀ys L Q,fZ ys L Q->xx r6 1 ys L Q:=by rintro ys L Q ⟨a,l,rfl,ha,hz,hn,q⟩;refine qk ha ⟨_,qC l,by rw[Ae];lia,qb ha ?_⟩;show fN Q (.bl (nb false (decide (((sG (l.map fun n:Nat=>(n:Int)):Nat):Int)=((nY l).length:Int))))) L;rw[xD (kC hn),Ae,ae,AC rfl];exact xr q
def gJ:jw:=fun ys L Q=>∃k:Option Kn,ys=[mN k]/\Q (.bl (qR k)) L
theorem abf:∀ys L Q,gJ ys L Q->xx (pZ aO) 1 ys L Q:=by
 rintro ys L Q ⟨k,rfl,q⟩;cases k with
 |none=>exact xr q
 |some k=>
  cases k with|lf t n=>exact⟨true,t,_,rfl,xr q⟩|nd e i j=>exact⟨false,e,_,rfl,xr q⟩
theorem fj(n:Nat):(List.replicate n true).all id=true:=by induction n with|zero=>rfl|succ n ih=>rw[List.replicate_succ];exact ih
theorem qM(n:Nat):(List.replicate n true).map Y.bl++[.bl true]=(List.replicate (n+1) true).map Y.bl:=by rw[Dt,AF];rfl
structure KnS(wd:List (Option Kn)):Prop where
 ok:m9 wd
 there:gA wd
 pu:bL wd
theorem KnS.at_(S:KnS wd){p:Nat}{k:Option Kn}(h:wd[p]?=some k)(hm:m∈jn k):m<p/\∃k',wd[m]?=some (some k'):=by
 cases k with
 |none=>cases hm
 |some k=>
  cases k with
  |lf t n=>cases hm
  |nd e i j=>
   obtain⟨a,b⟩:=S.ok p e i j h;obtain⟨c,d⟩:=S.there p e i j h;have hm:m∈[i,j]:=hm;rcases Av.mp hm with rfl | hm
   ·exact⟨a,c⟩
   ·rw[Aw.mp hm];exact⟨b,d⟩
theorem KnS.nd(S:KnS wd){p:Nat}{k:Option Kn}(h:wd[p]?=some k):(jn k).Nodup:=by
 cases k with
 |none=>exact BP
 |some k=>
  cases k with
  |lf t n=>exact BP
  |nd e i j=>
   have:=S.pu.ne p e i j h;show [i,j].Nodup;simp[this]
def pU:jw:=fun ys L Q=>∃a,∃wd:List (Option Kn),∃p:Nat,∃pi:Int,ys=[.ref a,.int pi]/\pi=(p:Int)/\L a=some (.lst (v9 wd))/\p<wd.length/\KnS wd/\Q (.bl true) L
theorem ag6:∀ys L Q,pU ys L Q->xx (sh gR fZ) 4 ys L Q:=by
 rintro ys L Q ⟨a,wd,p,pi,rfl,rfl,ha,hp,S,q⟩;have ek:wd[p]?=some wd[p]:=Aj hp;generalize wd[p]=k at ek;refine qb ha (ql (v0 ek) ⟨k,rfl,fun p1 h1=>?_⟩);have s1:=By (o:=.lst (nY (jn k))) h1;have pl:=yu k;refine x4 q9 fun keep kp=>bR (fun i zs=>zs=(List.replicate i true).map Y.bl) (by rw[ae];exact Bv pl (by decide)) (kp _ rfl) rfl ?_ ?_
 ·rintro i y zs hy rfl;obtain⟨m,em,rfl⟩:=uC hy;obtain⟨h2,k',h3⟩:=S.at_ ek (AH em);refine wy (AC (Ef.mpr h2)) (qb (s1 _ _ ha) (ql (v0 h3) ?_));have z:cz (fun zs L'=>L'=qg L p1 (.lst (nY (jn k)))/\zs=(List.replicate (i+1) true).map Y.bl) ((List.replicate i true).map Y.bl++[.bl true]) (qg L p1 (.lst (nY (jn k)))):=⟨_,ED _,rfl,qM i⟩;cases k'<;>exact z
 rintro zs rfl p2 h2;have s2:=By (o:=.lst ((List.replicate (nY (jn k)).length true).map Y.bl)) h2;refine⟨rfl,qb q9 (ql (dh _) ?_)⟩;rw[fj];exact⟨p1,jn k,rfl,s2 _ _ q9,by lia,S.nd ek,iy (s1.trans s2) q⟩
def hV:jw:=fun ys L Q=>∃a,∃wd:List (Option Kn),ys=[.ref a]/\L a=some (.lst (v9 wd))/\wd.length≤1000/\KnS wd/\(∃(x:Nat) (k:Kn),wd[x]?=some (some k))/\Q (.bl true) L
theorem ym:∀ys L Q,hV ys L Q->xx (rA pU) 2 ys L Q:=by
 rintro ys L Q ⟨a,wd,rfl,ha,hz,S,⟨x,kx,ex⟩,q⟩;have big:=bg_;refine qb ha ⟨⟨AY _,by rw[ww];lia⟩,?_⟩;rw[ww,BU];refine oY (fun i zs=>zs=(List.replicate i true).map Y.bl) (big _ (by lia)) rfl ?_ ?_
 ·rintro i zs hi rfl;exact⟨a,wd,i,_,rfl,Dy _,ha,hi,S,_,ED _,rfl,qM i⟩
 rintro zs rfl p1 h1;have s1:=By (o:=.lst ((List.replicate wd.length true).map Y.bl)) h1;refine⟨rfl,qb q9 (ql (dh _) ?_)⟩;rw[fj];refine x4 (s1 _ _ ha) fun keep kp=>bR (fun i zs=>zs=((wd.take i).map fF).map Y.bl) (by rw[ww];exact big _ (by lia)) (kp _ rfl) rfl ?_ ?_
 ·rintro i y zs hy rfl;rw[Al] at hy;obtain⟨k,ek,rfl⟩:=Ap.mp hy;have z:cz (fun zs L'=>L'=qg L p1 (.lst ((List.replicate wd.length true).map Y.bl))/\zs=((wd.take (i+1)).map fF).map Y.bl) (((wd.take i).map fF).map Y.bl++[.bl (fF k)]) (qg L p1 (.lst ((List.replicate wd.length true).map Y.bl))):=⟨_,ED _,rfl,by rw[Bq,ek,AF,AF];rfl⟩;cases k with
  |none=>exact z
  |some k=>cases k<;>exact z
 rintro zs rfl p2 h2;rw[ww,Bm];have s2:=By (o:=.lst ((wd.map fF).map Y.bl)) h2;refine⟨rfl,qb q9 (ql (dh _) ?_)⟩;have e:(wd.map fF).any id=true:=List.any_eq_true.mpr ⟨true,Bp.mpr ⟨_,AH ex,rfl⟩,rfl⟩;show fN Q (.bl ((wd.map fF).any id)) _;rw[e];exact iy (s1.trans s2) q
def iA:jw:=fun ys L Q=>∃a,∃wd:List (Option Kn),∃p r:Nat,∃t:Bool,∃n:Str,ys=[.ref a,.int (p:Int),.int (r:Int)]/\L a=some (.lst (v9 wd))/\p<r/\wd[p]?=some (some (.lf t n))/\wd[r]?=some (some (.lf (!t) n))/\Q (.bl true) L
theorem yh:∀ys L Q,iA ys L Q->xx (zJ (ap 120) gJ) 3 ys L Q:=by rintro ys L Q ⟨a,wd,p,r,t,n,rfl,ha,hlt,h1,h2,q⟩;have hr:=zo h2;refine wy (AC (Ef.mpr hlt)) (qb ha ?_);refine aG (by show(!decide ((r:Int)<((v9 wd).length:Int)))=false;rw[ww,AC (Ef.mpr hr)];rfl) ?_;refine qb ha (ql (v0 h1) ⟨some (.lf t n),rfl,?_⟩);refine qb ha (ql (v0 h2) (qb ha (ql (v0 h1) ⟨.leaf t n,rfl,(show 1≤120 by decide),?_⟩)));refine fi (u:=.leaf (!t) n) (v:=.leaf (!t) n) (show 1≤128 by decide) ?_;show fN Q (.bl (Da.eq _ _)) L;rw[gU];exact xr q
theorem gm{L:qm}:∀xs:List Int,Paired (ju L 0) (xs.map Y.int) (xs.map fun x=>Da.s (.int x))
 |[]=>.nil
 |_::r=>.cons ⟨rfl,rfl⟩ (gm r)
theorem acu(l:List Nat):Da.eqs ((l.map fun n:Nat=>(n:Int)).map fun x=>Da.s (.int x)) ((l.map fun n:Nat=>(n:Int)).map fun x=>Da.s (.int x))=true:=by rw[BC];exact(jY l l).mpr rfl
theorem wR:∀l:List (Nat×Nat),Da.eqs (l.map fw) (l.map fw)=true
 |[]=>rfl
 |x::r=>by rw[Az,Da.eqs,jM,wR r,AC rfl];rfl
theorem aas(f:Option Kn->Bool)(wd:List (Option Kn))(n:Nat):(mV f wd n).Pairwise fun a b=>a<b:=by unfold mV;exact List.Pairwise.filter _ List.pairwise_lt_range
theorem yV(hN:(zb lk).Nodup)(hL:∀p,p∈zb lk↔∃t n,wd[p]?=some (some (.lf t n))){ms:List Int}(pm:ms.Perm ((zb lk).map fun n:Nat=>(n:Int)))(pw:ms.Pairwise fun a b:Int=>a≤b):ms=(mV qR wd wd.length).map fun n:Nat=>(n:Int):=by
 have wn:(mV qR wd wd.length).Nodup:=by unfold mV;exact Co.filter _
 have p2:(zb lk).Perm (mV qR wd wd.length):=(A9 hN wn).mpr fun x=>by
  rw[hL x];constructor
  ·rintro⟨t,n,e⟩;exact aj8 e rfl (zo e)
  ·intro h;obtain⟨_,k,e,hb⟩:=ag5 h;cases k with
   |none=>cases hb
   |some k=>
    cases k with|lf t n=>exact⟨t,n,e⟩|nd b i j=>cases hb
 refine DP (le:=fun a b:Int=>a≤b) (fun a b _ _ h1 h2=>Int.le_antisymm h1 h2) pw ?_ (pm.trans (p2.map _));exact BH.mpr ((aas qR wd wd.length).imp fun h=>Int.ofNat_le.mpr (Bn h))
theorem sI(hS:lk.Pairwise dq){qs:List (Int×Int)}(pm:qs.Perm (lk.map ig))(pw:qs.Pairwise iW):qs=lk.map ig:=by
 refine DP (le:=iW) (fun a b _ _ h1 h2=>?_) pw ?_ pm
 ·unfold iW at h1 h2;exact Ej (by lia) (by lia)
 ·refine BH.mpr (hS.imp fun {a b} h=>?_);unfold dq at h;show(a.1:Int)<(b.1:Int)\/((a.1:Int)=(b.1:Int)/\(a.2:Int)≤(b.2:Int));lia
theorem iO{Q:YK}(hl:L l=some (.lst (zc lk)))(hS:lk.Pairwise dq)(hN:lk.Nodup)(hz:lk.length≤1000)(hb:∀c∈lk,c.2<1000000)(q:∀L',qj L L'->Q (.bl true) L'):aQ [.ref l] L fun y L'=>mQ false (.ref l) y L' Q:=by
 refine qk hl ⟨lk.map ig,gS lk,fun p hp=>?_,bE (fun x _ y _ e=>oT e) hN,by rw[Ae];lia,fun D qs hD pm pw=>?_⟩
 ·obtain⟨c,hc,rfl⟩:=Bp.mp hp;have:=hb c hc;show(0:Int)≤(c.2:Int)/\(c.2:Int)<1000000;lia
 ·rw[sI hS pm pw,<-gS];have s:=By (o:=.lst (zc lk)) hD;refine cD (n:=1) (m:=1) (by decide) (s _ _ hl) q9 (f8 lk) (f8 lk) ?_;show Q (.bl (Da.eqs _ _)) _;rw[wR];exact q _ s
def gd:jw:=fun ys L Q=>∃a l,∃wd:List (Option Kn),∃lk ct:List (Nat×Nat),ys=[.ref a,.ref l]/\L a=some (.lst (v9 wd))/\L l=some (.lst (zc lk))/\Snd wd lk ct/\Q (.bl true) L
theorem xO:∀ys L Q,gd ys L Q->xx (tS iA gJ jP) 4 ys L Q:=by
 rintro ys L Q ⟨a,l,wd,lk,ct,rfl,ha,hl,S,q⟩;have big:=bg_;have z1:=S.web.len;have z2:=S.ll;have pl:=xa lk;refine x4 hl fun keep kp=>bR (fun i zs=>zs=(List.replicate i true).map Y.bl) (by rw[Ae];exact big _ (by lia)) (kp _ rfl) rfl ?_ ?_
 ·rintro i y zs hy rfl;rw[Al] at hy;obtain⟨c,ec,rfl⟩:=Ap.mp hy;obtain⟨lt,t,n,h1,h2⟩:=S.lkA c (AH ec);exact⟨a,wd,c.1,c.2,t,n,rfl,ha,lt,h1,h2,_,ED _,rfl,qM i⟩
 rintro zs rfl p1 h1;have s1:=By (o:=.lst ((List.replicate (zc lk).length true).map Y.bl)) h1;refine⟨rfl,qb q9 (ql (dh _) ?_)⟩;rw[fj];refine x4 (s1 _ _ ha) fun keep kp=>aa4 (f:=qR) (by lia) (kp _ rfl) (fun i k R zs ek h1 h2=>⟨k,rfl,aj9 h1 h2⟩) fun p2 h2=>?_;have s2:=s1.trans (By (o:=.lst (nY (mV qR wd wd.length))) h2);have g2:qg (qg L p1 (.lst ((List.replicate (zc lk).length true).map Y.bl))) p2 (.lst (nY (mV qR wd wd.length))) p2=some (.lst (nY (mV qR wd wd.length))):=q9;generalize qg (qg L p1 (.lst ((List.replicate (zc lk).length true).map Y.bl))) p2 (.lst (nY (mV qR wd wd.length)))=L2 at s2 g2 ⊢;refine⟨l,lk,rfl,s2 _ _ hl,by lia,fun p3 h3=>?_⟩;have s3:=s2.trans (By (o:=.lst (nY (zb lk))) h3);refine qk q9 ⟨_,qC (zb lk),kC S.lkN,by rw[Ae];lia,fun D ms hD pm pw=>?_⟩;rw[yV S.lkN S.lkL pm pw];have s4:=By (o:=.lst (((mV qR wd wd.length).map fun n:Nat=>(n:Int)).map Y.int)) hD;have g4:=s4 _ _ (By (o:=.lst (nY (zb lk))) h3 _ _ g2);rw[qC (mV qR wd wd.length)] at g4;refine⟨rfl,rfl,1,1,_,_,by decide,al q9 (gm _),al g4 (gm _),?_⟩;refine wy (acu _) ?_;exact iO ((s3.trans s4) _ _ hl) S.lkS (vd S.lkN) (by lia) (fun c hc=>by obtain⟨_,t,n,_,e⟩:=S.lkA c hc;have:=zo e;lia) fun L' s5=>iy ((s3.trans s4).trans s5) q
def uX:jw:=fun ys L Q=>∃a,∃wd:List (Option Kn),∃p:Nat,∃k:Kn,ys=[.ref a,.int (p:Int)]/\L a=some (.lst (v9 wd))/\wd.length≤1000/\wd[p]?=some (some k)/\p∉xm wd/\Q (.bl true) L
theorem aht:∀ys L Q,uX ys L Q->xx (pF jU) 2 ys L Q:=by
 rintro ys L Q ⟨a,wd,p,k,rfl,ha,hz,ek,hn,q⟩;refine qb ha (wy (by show decide ((p:Int)<((v9 wd).length:Int))=true;rw[ww];exact AC (Ef.mpr (zo ek))) ?_);refine qb ha (ql (v0 ek) ?_);have key:∀p1,L p1=none->fN Q (.bl (nb true (tV (dm (.int (p:Int))) ((nY (xm wd)).map dm)))) (qg L p1 (.lst (nY (xm wd)))):=fun p1 h1=>by rw[jV,Ax hn];exact iy (By h1) q
 cases k<;>exact⟨a,wd,rfl,ha,hz,fun p1 h1=>qb q9 ⟨rfl,jW _,key p1 h1⟩⟩
theorem KW.ex{p:Nat}{w:Wd}(h:KW (v9 wd) p w):∃k,wd[p]?=some (some k):=by cases w with|leaf t n=>exact⟨_,h.inv_lf⟩|node e l r=>obtain⟨i,j,a,_⟩:=h.inv_nd;exact⟨_,a⟩
def mB:jw:=fun ys L Q=>∃a,∃wd:List (Option Kn),∃p r:Nat,∃w:Wd,ys=[.ref a,.int (p:Int),.int (r:Int)]/\L a=some (.lst (v9 wd))/\wd.length≤1000/\KW (v9 wd) p w/\KW (v9 wd) r w.turn/\w.depth≤120/\p∉xm wd/\r∉xm wd/\Q (.bl true) L
theorem abw:∀ys L Q,mB ys L Q->xx (aak uX (xj 120) (ap 120)) 3 ys L Q:=by rintro ys L Q ⟨a,wd,p,r,w,rfl,ha,hz,h1,h2,hd,n1,n2,q⟩;obtain⟨k1,e1⟩:=h1.ex;obtain⟨k2,e2⟩:=h2.ex;have dt:w.turn.depth=w.depth:=cx w;refine⟨a,wd,p,k1,rfl,ha,hz,e1,n1,?_⟩;refine⟨a,wd,r,k2,rfl,ha,hz,e2,n2,?_⟩;refine⟨a,v9 wd,r,w.turn,rfl,ha,h2,by lia,?_⟩;refine⟨a,v9 wd,p,w,rfl,ha,h1,hd,⟨w,rfl,hd,?_⟩⟩;refine fi (u:=w.turn) (v:=w.turn) (by lia) ?_;show fN Q (.bl (Da.eq _ _)) L;rw[gU];exact xr q
def kF:jw:=fun ys L Q=>∃a c,∃wd:List (Option Kn),∃lk ct:List (Nat×Nat),ys=[.ref a,.ref c]/\L a=some (.lst (v9 wd))/\L c=some (.lst (zc ct))/\Snd wd lk ct/\Q (.bl true) L
theorem acd:∀ys L Q,kF ys L Q->xx (tz mB fZ jP) 3 ys L Q:=by
 rintro ys L Q ⟨a,c,wd,lk,ct,rfl,ha,hc,S,q⟩;have big:=bg_;have z1:=S.web.len;have z2:=S.web.ctl;have pl:=xa ct;refine x4 hc fun keep kp=>bR (fun i zs=>zs=(List.replicate i true).map Y.bl) (by rw[Ae];exact big _ (by lia)) (kp _ rfl) rfl ?_ ?_
 ·rintro i y zs hy rfl;rw[Al] at hy;obtain⟨x,ex,rfl⟩:=Ap.mp hy;have hm:=AH ex;obtain⟨w,h1,h2,hd⟩:=S.web.cut x hm;obtain⟨m1,m2⟩:=bC hm;exact⟨a,wd,x.1,x.2,w,rfl,ha,by lia,h1,h2,hd,S.ctP _ m1,S.ctP _ m2,_,ED _,rfl,qM i⟩
 rintro zs rfl p1 h1;have s1:=By (o:=.lst ((List.replicate (zc ct).length true).map Y.bl)) h1;refine⟨rfl,qb q9 (ql (dh _) ?_)⟩;rw[fj];generalize qg L p1 (.lst ((List.replicate (zc ct).length true).map Y.bl))=L1 at s1 ⊢;refine⟨c,ct,rfl,s1 _ _ hc,by lia,fun p3 h3=>?_⟩;have s3:=s1.trans (By (o:=.lst (nY (zb ct))) h3);refine⟨p3,zb ct,rfl,q9,by lia,S.ctN,?_⟩;refine iO (s3 _ _ hc) S.ctS (vd S.ctN) (by lia) (fun x hx=>?_) fun L' s5=>iy (s3.trans s5) q;obtain⟨w,_,h2,_⟩:=S.web.cut x hx;obtain⟨k,e⟩:=h2.ex;have:=zo e;lia
def hJ:jw:=fun ys L Q=>∃s:Str,ys=[.bl true,.str s]/\Q .non L
theorem yi:∀ys L Q,hJ ys L Q->xx aab 2 ys L Q:=by rintro ys L Q ⟨s,rfl,q⟩;exact xr q
def pW:jw:=fun ys L Q=>∃a l c,∃wd:List (Option Kn),∃lk ct:List (Nat×Nat),ys=[sJ a l c]/\L a=some (.lst (v9 wd))/\L l=some (.lst (zc lk))/\L c=some (.lst (zc ct))/\Snd wd lk ct/\(∃(x:Nat) (k:Kn),wd[x]?=some (some k))/\Q (.bl true) L
theorem afu:∀ys L Q,pW ys L Q->xx (mS hJ hV fZ jU gd kF) 2 ys L Q:=by rintro ys L Q ⟨a,l,c,wd,lk,ct,rfl,ha,hl,hc,S,ex,q⟩;have z1:=S.web.len;have pl:=eG wd;refine⟨a,wd,rfl,ha,by lia,⟨S.web.ok,S.web.there,S.pu⟩,ex,⟨_,rfl,?_⟩⟩;refine⟨a,wd,rfl,ha,by lia,fun p1 h1=>?_⟩;have s1:=By (o:=.lst (nY (xm wd))) h1;refine⟨p1,xm wd,rfl,q9,by lia,S.pu.nodup,⟨_,rfl,?_⟩⟩;refine⟨a,l,wd,lk,ct,rfl,s1 _ _ ha,s1 _ _ hl,S,⟨_,rfl,?_⟩⟩;exact⟨a,c,wd,lk,ct,rfl,s1 _ _ ha,s1 _ _ hc,S,⟨_,rfl,iy s1 q⟩⟩
theorem mP{xs:List Y}(h:∀x∈xs,dY L n x x):Paired (dY L n) xs xs:=by induction xs with|nil=>exact .nil|cons x r ih=>exact .cons (h x (As ..)) (ih fun y hy=>h y (Ah _ hy))
theorem fe(l:List (Nat×Nat)):Paired (dY L (n+2)) (zc l) (zc l):=mP fun x hx=>by obtain⟨m,_,rfl⟩:=Bp.mp hx;exact .inr (.inl ⟨_,_,rfl,rfl,.cons (.flat rfl) (.cons (.flat rfl) .nil)⟩)
theorem vR(l:List (Option Kn)):Paired (dY L (n+2)) (v9 l) (v9 l):=mP fun x hx=>by
 obtain⟨m,_,rfl⟩:=Bp.mp hx;cases m with
 |none=>exact .flat rfl
 |some k=>
  cases k with|lf t n=>exact .inr (.inl ⟨_,_,rfl,rfl,.cons (.flat rfl) (.cons (.flat rfl) .nil)⟩)|nd e i j=>exact .inr (.inl ⟨_,_,rfl,rfl,.cons (.flat rfl) (.cons (.flat rfl) (.cons (.flat rfl) .nil))⟩)
theorem aN{a b:Addr}{xs:List Y}(ha:L a=some (.lst xs))(hb:L b=some (.lst xs))(p:Paired (dY L n) xs xs):dY L (n+1) (.ref a) (.ref b):=.inr (.inr ⟨a,b,xs,xs,rfl,rfl,ha,hb,p⟩)
theorem adq{k:Option Kn}(h:wd[i]?=some k):g9 (v9 wd) (0+(i:Int))=some (mN k):=by rw[Dy];exact v0 h
open PySem L2 PyProof.Rows
def zN(neg:Bool)(x y:Y)(L:qm)(Q:YK):Prop:=match x,y with
 |.bl c,.bl d=>Q (.bl (nb neg (c==d))) L
 |_,_=>False
theorem ak5 :wb X (compareOp .Is) (fun x y H Q=>∃c d,x=.bl c/\y=.bl d/\Q (.bl (c==d)) H):=by intro pins s σ H x y v u Q I rx ry h;obtain⟨c,d,rfl,rfl,q⟩:=h;cases rx;cases ry;exact is_bool (jj I q rfl)
theorem af5 :wb X (compareOp .IsNot) (fun x y H Q=>∃c d,x=.bl c/\y=.bl d/\Q (.bl (!(c==d))) H):=by intro pins s σ H x y v u Q I rx ry h;obtain⟨c,d,rfl,rfl,q⟩:=h;cases rx;cases ry;exact isnot_bool (jj I q rfl)
theorem alz :wb X (compareOp .Is) (fV X.g3 (zN false)):=ET ak5 fun x y H Q ⟨x3,y3,L,Q3,rx,ry,rl,z,k⟩=>by
 unfold zN at z;split at z
 ·exact⟨_,_,rx,ry,k _ H _ L (EC _) rl (by rfl) z⟩
 ·exact z.elim
theorem akh :wb X (compareOp .IsNot) (fV X.g3 (zN true)):=ET af5 fun x y H Q ⟨x3,y3,L,Q3,rx,ry,rl,z,k⟩=>by
 unfold zN at z;split at z
 ·exact⟨_,_,rx,ry,k _ H _ L (EC _) rl (by rfl) z⟩
 ·exact z.elim
def iJ:wv:=(qp (zr (ve qr) (qf 2))
 (qp (eO (xt (qa 0)) (qf 3) (xc (eL (yB (cX true (qa 3))) (fJ (bM 3) (jk 3))) (j9 (aW aV (qa 2) (qe (ve (k8 (xu 3 1) (xu 3 2))) qr))) js))
 (qp (eO (xt (qa 1)) (wo 2 (zg (qf 4) (zg (qf 5) vz))) (j9 (aW aV (qa 2) (qe (ve (k8 (qa 4) (qa 5))) qr))))
 (sW 4 (jr (mY 1 (fM (kj (bM 0))) (qf 6) (eL (yB (cX true (zn ax (qa 0) (qa 6)))) (yB (zn (lh true) (qa 6) (qa 2)))) (qa 6)))))))
def iq(p0:jw)(p1:jw)(p2:jw):wv:=(qp (zr (qa 0) (wo 3 (zg (qf 2) (zg (qf 3) (zg (qf 4) vz)))))
 (qp (zr (qt p0 (k8 (qa 2) (qa 4))) (qf 5))
 (qp (zr (zn ax (qa 5) (zn w9 (qa 1) (bM 5))) (qf 6))
 (qp (eO (xt (qa 5)) (qf 7) (xc (fJ (qt p1 (k8 (qa 2) (qa 7))) (qt p2 (qe (qt p1 (k8 (qa 2) (qa 6))) qr))) (jr (vk (qe (bJ cr (kj (qa 2))) (qe (bJ cr (kj (qa 3))) (qe (bJ aQ (qe (zn wz (qa 4) (ve (qe (rdT (qa 6) (qa 7)) qr))) qr)) qr))))) js))
 (jr (qa 0))))))
def ae9(p0:jw)(p1:jw)(p2:jw)(p3:jw)(p4:jw)(p5:jw)(p6:jw):wv:=(qp (zr (zn w9 (qt p0 (k8 (qa 0) (jk 0))) (zn aqv (jk 10) (jk 9))) (qf 1))
 (qp (zr (qt p1 (qe (qa 0) (qe (qa 1) (k8 (jk 100) (jk 100))))) (qf 2))
 (qp (zr (qt p2 (kj (qa 2))) (qf 3))
 (qp (xc (yOr (yB (zn (zN true) (qt p4 (kj (qa 3))) (yC (.bl true)))) (y7 (yB (qt p3 (k8 (qa 3) (qa 2)))))) (jr (yC (.bl false))) js)
 (qp (zr (qt p5 (qe (qa 2) (qe (qt p6 (qe (qa 1) (k8 (jk 3) (jk 16807)))) qr))) (qf 4))
 (qp (zr (qt p2 (kj (qa 4))) (qf 3))
 (jr (a8 (zn (zN false) (qt p4 (kj (qa 3))) (yC (.bl true))) (qt p3 (k8 (qa 3) (qa 4)))))))))))
def lU:jw:=fun ys L Q=>∃a c,∃wd:List (Option Kn),∃ct:List (Nat×Nat),ys=[.ref a,.ref c]/\L a=some (.lst (v9 wd))/\L c=some (.lst (zc ct))/\wd.length≤1000/\ct.length≤1000/\∀p,L p=none->Q (.ref p) (qg L p (.lst (nY (kg wd (vo wd ct) wd.length))))
theorem aav:∀ys L Q,lU ys L Q->xx iJ 6 ys L Q:=by
 rintro ys L Q ⟨wa,ca,wd,ct,rfl,e1,e3,wl,cl,q⟩;have big:=bg_;intro us hus;have s2:qj L (qg L us (.lst [])):=By hus;refine x4 (s2 _ _ e1) fun keep kp=>wm ⟨fun i τ L'=>∃c3 c4 c5,τ=[some (.ref wa),some (.ref ca),some (.ref us),c3,c4,c5]/\qj L L'/\L' us=some (.lst (nY (xm (wd.take i)))),⟨_,_,_,rfl,s2,q9⟩,?_,?_,?_⟩
 ·rintro i τ L' ⟨c3,c4,c5,rfl,s,_⟩;exact kp L' (by rw[s _ _ e1,s2 _ _ e1])
 ·rintro i y τ L' hy ⟨c3,c4,c5,rfl,s,g⟩;rw[Al] at hy;obtain⟨k,ek,rfl⟩:=Ap.mp hy;have et:wd.take (i+1)=wd.take i++[k]:=by rw[Bq,ek];rfl
  have pl:=eG (wd.take i);rw[AK] at pl;have stay:jn k=[]->L' us=some (.lst (nY (xm (wd.take (i+1))))):=fun h=>by rw[et,fT,h,AW];exact g
  cases k with
  |none=>exact⟨_,ED _,_,_,_,rfl,s,stay rfl⟩
  |some k=>
   cases k with
   |lf t n=>exact⟨_,ED _,_,_,_,rfl,s,stay rfl⟩
   |nd e i' j'=>
    refine qb g ?_;intro p hp;have np:us≠p:=w5 g hp;refine qk ((qd np).trans g) (qk q9 ⟨?_,?_⟩)
    ·rw[ae];exact Bn (big _ (by simp;lia))
    ·refine⟨_,ED _,_,_,_,rfl,(s.trans (By hp)).upd hus,?_⟩;rw[q9,et,fT,az];rfl
 rintro τ L2 ⟨c3,c4,c5,rfl,s3,g⟩;rw[Ae,Bm] at g;have pl:=eG wd;have pcl:=xa ct;refine x4 (s3 _ _ e3) fun keep kp=>wm ⟨fun i τ L'=>∃c4 c5,τ=[some (.ref wa),some (.ref ca),some (.ref us),c3,c4,c5]/\qj L L'/\L' us=some (.lst (nY (xm wd++zb (ct.take i)))),⟨_,_,rfl,s3,by rw[g];show _=some (LO.lst (nY (xm wd++[])));rw[AW]⟩,?_,?_,?_⟩
 ·rintro i τ L' ⟨c4,c5,rfl,s,_⟩;exact kp L' (by rw[s _ _ e3,s3 _ _ e3])
 ·rintro i y τ L' hy ⟨c4,c5,rfl,s,g⟩;rw[Al] at hy;obtain⟨pr,ep,rfl⟩:=Ap.mp hy;have et:ct.take (i+1)=ct.take i++[pr]:=by rw[Bq,ep];rfl
  have hi:=zo ep;have pt:=xa (ct.take i);rw[AK] at pt;refine qb g ?_;intro p hp;have np:us≠p:=w5 g hp;refine qk ((qd np).trans g) (qk q9 ⟨?_,?_⟩)
  ·rw[ae,Ad];exact Bn (big _ (by simp;lia))
  ·refine⟨_,ED _,_,_,rfl,(s.trans (By hp)).upd hus,?_⟩;rw[q9,et,jx,kz,<-AA,az (xm wd++zb (List.take i ct))];rfl
 rintro τ L3 ⟨c4',c5',rfl,s4,g⟩;rw[Ae,Bm] at g;have g:L3 us=some (.lst (nY (vo wd ct))):=g;have k1:=s4 _ _ e1;have lw:(v9 wd).length=wd.length:=Ae ..;refine qb k1 ⟨⟨AY _,by rw[lw];omega⟩,?_⟩;rw[lw,BU];refine oY (fun i zs=>zs=nY (kg wd (vo wd ct) i)) (big _ (by lia)) rfl ?_ ?_
 ·rintro i zs hi rfl;obtain⟨k,ek⟩:∃k,wd[i]?=some k:=⟨_,Aj hi⟩;have no:iN wd (vo wd ct) i=false->cz (fun zs L'=>L'=L3/\zs=nY (kg wd (vo wd ct) (i+1))) (nY (kg wd (vo wd ct) i)) L3:=fun h=>⟨L3,ED _,rfl,by rw[lT,Ay (by rw[h];exact AE),AW]⟩;have yes:iN wd (vo wd ct) i=true->cz (fun zs L'=>L'=L3/\zs=nY (kg wd (vo wd ct) (i+1))) (nY (kg wd (vo wd ct) i)++[.int (0+(i:Int))]) L3:=fun h=>⟨L3,ED _,rfl,by rw[lT,AD h,az,Dy];rfl⟩;refine qb k1 (ql (adq ek) ?_);cases k with
  |none=>exact no (by unfold iN gG;rw[ek];rfl)
  |some k=>
   have key:fO L3 (.ref us) fun ys=>dG (.int (0+(i:Int)))=true/\ys.all dG=true/\kh (nb true (tV (dm (.int (0+(i:Int)))) (ys.map dm))) (cz (fun zs L'=>L'=L3/\zs=nY (kg wd (vo wd ct) (i+1))) (nY (kg wd (vo wd ct) i)++[.int (0+(i:Int))]) L3) (cz (fun zs L'=>L'=L3/\zs=nY (kg wd (vo wd ct) (i+1))) (nY (kg wd (vo wd ct) i)) L3):=by
    refine qb g ⟨rfl,jW _,?_⟩;rw[show dm (.int (0+(i:Int)))=dm (.int (i:Int)) by rw[Dy],jV];by_cases cu:i∈vo wd ct
    ·exact aG (by rw[AC cu];rfl) (no (by unfold iN gG;rw[ek,AC cu];rfl))
    ·exact wy (by rw[Ax cu];rfl) (yes (by unfold iN gG;rw[ek,Ax cu];rfl))
   cases k with|lf t n=>exact key|nd e i' j'=>exact key
 ·rintro zs rfl p hp;exact⟨qg L p (.lst (nY (kg wd (vo wd ct) wd.length))),fun b o e=>by by_cases cc:b=p;(subst cc;rw[q9] at e ⊢;exact e);(rw[qd cc] at e ⊢;exact s4 _ _ e),q p (s4.none hp)⟩
theorem Snd.more{ct2:List (Nat×Nat)}(S:Snd wd lk ct)(hl:ct.length≤60){p r:Nat}{w:Wd}(h1:KW (v9 wd) p w)(h2:KW (v9 wd) r w.turn)(hd:w.depth≤120)(p1:p∉vo wd ct)(p2:r∉vo wd ct)(ne:p≠r)(pm:ct2.Perm (ct++[(p,r)]))(pw:ct2.Pairwise dq):Snd wd lk ct2:=by
 have pp:(zb ct2).Perm (zb ct++[p,r]):=by have:=xf pm;rw[jx,kz] at this;exact this
 refine⟨⟨S.web.ok,S.web.len,S.web.there,S.web.word,fun c hc=>?_,by rw[pm.length_eq,Ad];exact DQ hl⟩,S.pu,S.lkA,S.lkN,S.lkL,S.lkS,fun x hx=>?_,?_,pw,S.ll⟩
 ·rcases Ak.mp (pm.mem_iff.mp hc) with hc | hc
  ·exact S.web.cut c hc
  ·rw[Aw.mp hc];exact⟨w,h1,h2,hd⟩
 ·rcases Ak.mp (pp.mem_iff.mp hx) with hx | hx
  ·exact S.ctP x hx
  ·have hx:x=p\/x=r:=by simpa using hx
   rcases hx with rfl | rfl
   ·exact fun z=>p1 (Ar _ z)
   ·exact fun z=>p2 (Ar _ z)
 ·refine pp.nodup_iff.mpr (Aq.mpr ⟨S.ctN,by simp[ne],fun a ha b hb z=>?_⟩);subst z;have hb:a=p\/a=r:=by simpa using hb
  rcases hb with rfl | rfl
  ·exact p1 (Af _ ha)
  ·exact p2 (Af _ ha)
theorem uA(w:Wd):w≠w.turn:=by
 cases w with
 |leaf t n=>intro h;have:t=!t:=(by injection h);cases t<;>cases this
 |node e l r=>intro h;have:e=!e:=(by injection h);cases e<;>cases this
theorem KW.uniq :∀{u v:Wd} {p:Nat},KW (v9 wd) p u->KW (v9 wd) p v->u=v
 |.leaf t n,.leaf t' n',p,h,k=>by have a:=h.inv_lf;rw[k.inv_lf] at a;cases a;rfl
 |.leaf t n,.node e l r,p,h,k=>by have a:=h.inv_lf;obtain⟨i,j,b,_⟩:=k.inv_nd;rw[b] at a;cases a
 |.node e l r,.leaf t n,p,h,k=>by have a:=k.inv_lf;obtain⟨i,j,b,_⟩:=h.inv_nd;rw[b] at a;cases a
 |.node e l r,.node e' l' r',p,h,k=>by obtain⟨i,j,a,hl,hr⟩:=h.inv_nd;obtain⟨i',j',b,kl,kr⟩:=k.inv_nd;rw[b] at a;cases a;rw[hl.uniq kl,hr.uniq kr]
theorem rQ{us:List Nat} :m∈kg wd us wd.length↔(∃k,wd[m]?=some (some k))/\m∉us:=by
 unfold kg iN gG;rw[AL,AV,A1,Df,decide_eq_false_iff_not];constructor
 ·rintro⟨_,h,hn⟩;split at h
  ·rename_i k e;exact⟨⟨k,e⟩,hn⟩
  ·cases h
 ·rintro⟨⟨k,e⟩,hn⟩;exact⟨zo e,by rw[e],hn⟩
def pQ:jw:=fun ys L Q=>∃a l c,∃wd:List (Option Kn),∃lk ct:List (Nat×Nat),∃v:Int,ys=[sJ a l c,.int v]/\L a=some (.lst (v9 wd))/\L l=some (.lst (zc lk))/\L c=some (.lst (zc ct))/\Snd wd lk ct/\ct.length≤60/\(∃(x:Nat) (k:Kn),wd[x]?=some (some k)/\x∉xm wd/\x∉zb ct)/\
 ∀a' l' c' ct2 L',qj L L'->L' a'=some (.lst (v9 wd))->L' l'=some (.lst (zc lk))->L' c'=some (.lst (zc ct2))->Snd wd lk ct2->Q (sJ a' l' c') L'
theorem ag2:∀ys L Q,pQ ys L Q->xx (iq lU (xj 120) (av 120)) 8 ys L Q:=by
 rintro ys L Q ⟨a,l,c,wd,lk,ct,v,rfl,ha,hl,hc,S,hcl,⟨x0,k0,e0,n0,n0'⟩,q⟩;have big:=bg_;have z1:=S.web.len;refine⟨a,c,wd,ct,rfl,ha,hc,by lia,by lia,fun pe he=>?_⟩;have s1:=By (o:=.lst (nY (kg wd (vo wd ct) wd.length))) he;have ge:qg L pe (.lst (nY (kg wd (vo wd ct) wd.length))) pe=some (.lst (nY (kg wd (vo wd ct) wd.length))):=q9;generalize qg L pe (.lst (nY (kg wd (vo wd ct) wd.length)))=L1 at s1 ge ⊢;have hE:0<(kg wd (vo wd ct) wd.length).length:=Ee (rQ.mpr ⟨⟨k0,e0⟩,fun z=>(Ak.mp z).elim n0 n0'⟩);have memE:∀m∈kg wd (vo wd ct) wd.length,(∃k,wd[m]?=some (some k))/\m∉vo wd ct:=fun m hm=>rQ.mp hm;generalize kg wd (vo wd ct) wd.length=E at ge hE memE;have at_:∃x,x∈E/\g9 (nY E) (v % ((nY E).length:Int))=some (.int ((x:Nat):Int)):=jQ hE v
 obtain⟨p,hp,ep⟩:=at_;obtain⟨⟨kp0,ekp⟩,np⟩:=memE p hp;obtain⟨w,kw,dw⟩:=S.web.word p kp0 ekp;refine qb ge ⟨by show(0:Int)<((nY E).length:Int);rw[ae];lia,qb ge (ql ep ?_)⟩;refine x4 ge fun keep kp=>wm ⟨fun i τ L'=>∃c7,τ=[some (sJ a l c),some (.int v),some (.ref a),some (.ref l),some (.ref c),some (.ref pe),some (.int (p:Int)),c7]/\L'=L1,⟨_,rfl,rfl⟩,?_,?_,?_⟩
 ·rintro i τ L' ⟨c7,rfl,rfl⟩;exact kp _ rfl
 ·rintro i y τ L' hy ⟨c7,rfl,rfl⟩;obtain⟨m,em,rfl⟩:=uC hy;obtain⟨⟨km,ekm⟩,nm⟩:=memE m (AH em);obtain⟨u,ku,du⟩:=S.web.word m km ekm;refine⟨a,v9 wd,m,u,rfl,s1 _ _ ha,ku,du,?_⟩;refine⟨a,v9 wd,p,w,rfl,s1 _ _ ha,kw,dw,⟨w,rfl,dw,?_⟩⟩;refine fi (by lia) ?_;show kh (Da.eq (gn u) (gn w.turn)) _ _;by_cases cc:Da.eq (gn u) (gn w.turn)=true
  ·have eu:=wL _ _ cc;subst eu;have ne:p≠m:=fun z=>by subst z;exact uA w (kw.uniq ku)
   refine wy cc ?_;refine qb (s1 _ _ ha) fun p1 h1=>?_;have t1:=By (o:=.lst (v9 wd)) h1;refine qb (t1 _ _ (s1 _ _ hl)) fun p2 h2=>?_;have t2:=By (o:=.lst (zc lk)) h2;intro q1 hq1;have t3:=By (o:=.lst [Y.tup [.int (p:Int),.int (m:Int)]]) hq1;refine⟨_,_,t3 _ _ (t2 _ _ (t1 _ _ (s1 _ _ hc))),q9,by rw[Ae];exact Bn (big _ (by simp only[BB];lia)),fun q2 hq2=>?_⟩;have t4:=By (o:=.lst (zc ct++[Y.tup [.int (p:Int),.int (m:Int)]])) hq2;have g4:(qg (qg (qg (qg L' p1 (.lst (v9 wd))) p2 (.lst (zc lk))) q1 (.lst [Y.tup [.int (p:Int),.int (m:Int)]])) q2 (.lst (zc ct++[Y.tup [.int (p:Int),.int (m:Int)]]))) q2=some (.lst (zc (ct++[(p,m)]))):=by rw[q9,<-eF];rfl
   have f1:=t4 _ _ (t3 _ _ (t2 _ _ (q9 (L:=L') (a:=p1) (o:=.lst (v9 wd)))));have f2:=t4 _ _ (t3 _ _ (q9 (L:=qg L' p1 (.lst (v9 wd))) (a:=p2) (o:=.lst (zc lk))));have ss:=(((s1.trans t1).trans t2).trans t3).trans t4;generalize qg (qg (qg (qg L' p1 (.lst (v9 wd))) p2 (.lst (zc lk))) q1 (.lst [Y.tup [.int (p:Int),.int (m:Int)]])) q2 (.lst (zc ct++[Y.tup [.int (p:Int),.int (m:Int)]]))=L2 at g4 f1 f2 ss ⊢;dsimp only[qr];refine nZ (ps:=ct++[(p,m)]) g4 (fun x hx=>?_) ?_ (by rw[Ad,BB];lia) fun D qs hD pm pw=>?_
   ·rcases Ak.mp hx with hx | hx
    ·obtain⟨w',_,k2,_⟩:=S.web.cut x hx;obtain⟨k',e'⟩:=k2.ex;have:=zo e';lia
    ·rw[Aw.mp hx];have:=zo ekm;show m<1000000;lia
   ·refine Aq.mpr ⟨vd S.ctN,by simp,fun x hx y hy z=>?_⟩;subst z;rw[Aw.mp hy] at hx;exact np (Af _ (bC hx).1)
   ·have t5:=By (o:=.lst (zc qs)) hD;exact xr (q p1 p2 D qs _ (ss.trans t5) (t5 _ _ f1) (t5 _ _ f2) q9 (S.more hcl kw ku dw np nm ne pm pw))
  ·exact aG (Bool.eq_false_iff.mpr cc) ⟨_,ED _,_,rfl,rfl⟩
 ·rintro τ L' ⟨c7,rfl,rfl⟩;exact xr (q a l c ct _ s1 (s1 _ _ ha) (s1 _ _ hl) (s1 _ _ hc) S)
theorem abm :∀ys L Q,qD Pt lamQ ys L Q->xx (ae9 fQ (uB Pt) pH (gC 124) pW pQ dy) 5 ys L Q:=by
 rintro ys L Q ⟨ns,rfl,h63,hL,q⟩;have hP:L Pt=some (.tb lamQ):=by rw[hL];exact q9
 clear hL;refine⟨ns,0,rfl,by decide,fun v=>⟨⟨by decide,by decide,by decide⟩,(show(0:Int)<10 ^ (9:Int).toNat by decide),_,ns,_,100,100,rfl,rfl,by lia,by decide,hP,fun wa la ca wd lk ct L1 W s1 nw nl nc n1 n2 n3 e1 e2 e3=>?_⟩⟩;obtain⟨S,x0,k0,f0,f1,f2⟩:=W.snd;have cl:=W.webI.1.ctl;refine⟨wa,la,ca,_,_,_,rfl,e1,e2,e3,fun a' l' c' L2 s2 _ _ _ _ _ _ h1 h2 h3=>?_⟩;have k1:=s2 _ _ e1;have k2:=s2 _ _ e2;have k3:=s2 _ _ e3;refine⟨a',l',c',wd,lk,ct,rfl,h1,h2,h3,S,⟨x0,k0,f0⟩,?_⟩;refine⟨_,_,rfl,.inr (.inl ⟨_,_,rfl,rfl,.cons (aN h1 k1 (vR (n:=120) wd)) (.cons (aN h2 k2 (fe (n:=120) lk)) (.cons (aN h3 k3 (fe (n:=120) ct)) .nil))⟩),?_⟩;refine⟨_,3,16807,rfl,by decide,by decide,by decide,by decide,fun v2 _ _=>?_⟩;refine⟨wa,la,ca,wd,lk,ct,v2,rfl,k1,k2,k3,S,cl,⟨x0,k0,f0,f1,f2⟩,fun a2 l2 c2 ct2 L3 s3 m1 m2 m3 S2=>?_⟩;refine⟨a2,l2,c2,_,_,_,rfl,m1,m2,m3,fun a3 l3 c3 L4 s4 _ _ _ _ _ _ r1 r2 r3=>?_⟩;refine⟨a3,l3,c3,wd,lk,ct2,rfl,r1,r2,r3,S2,⟨x0,k0,f0⟩,?_⟩;exact⟨_,_,rfl,.inr (.inl ⟨_,_,rfl,rfl,.cons (aN r1 (s4 _ _ m1) (vR (n:=120) wd)) (.cons (aN r2 (s4 _ _ m2) (fe (n:=120) lk)) (.cons (aN r3 (s4 _ _ m3) (fe (n:=120) ct2)) .nil))⟩),xr (q _)⟩
end L3
end
set_option maxRecDepth 100000
set_option maxHeartbeats 8000000
namespace K13
open PySem L2 L3 Words
abbrev ng:Str:="_law_knots"
abbrev nh:Str:="_law_seed"
abbrev ni:Str:="_law_cuts"
abbrev nj:Str:="_law_one"
abbrev nq:Str:="_law_word_here"
abbrev nt:Str:="_law_script"
abbrev nu:Str:="_law_p"
abbrev nv:Str:="_law_two"
abbrev ny:Str:="_law_links"
abbrev nE:Str:="_law_web_here"
abbrev nF:Str:="_law_knot"
abbrev nG:Str:="_law_forest"
abbrev nH:Str:="_law_k"
abbrev nI:Str:="_law_free_ends"
abbrev nJ:Str:="_law_q"
abbrev nK:Str:="_law_cut_more"
abbrev nL:Str:="_law_rule"
abbrev nM:Str:="_law_room"
abbrev nN:Str:="_law_most"
abbrev nO:Str:="_law_cell_at"
abbrev nQ:Str:="_law_crossed"
abbrev nR:Str:="_law_beneath"
def top(i:Nat):Stmt:=PySem.Challenge.pw_oncewise_k13_sound_webs.main.body.getD i (.Pass ⟨0,0,0,0⟩)
theorem ap7:∀{us:List Value},us.length=1->∃a0,us=[a0]
 |[a0],_=>⟨a0,rfl⟩
theorem ari:∀{us:List Value},us.length=2->∃a0 a1,us=[a0,a1]
 |[a0,a1],_=>⟨a0,a1,rfl⟩
theorem arq:∀{us:List Value},us.length=3->∃a0 a1 a2,us=[a0,a1,a2]
 |[a0,a1,a2],_=>⟨a0,a1,a2,rfl⟩
theorem aox:∀{us:List Value},us.length=4->∃a0 a1 a2 a3,us=[a0,a1,a2,a3]
 |[a0,a1,a2,a3],_=>⟨a0,a1,a2,a3,rfl⟩
theorem ape:∀{us:List Value},us.length=5->∃a0 a1 a2 a3 a4,us=[a0,a1,a2,a3,a4]
 |[a0,a1,a2,a3,a4],_=>⟨a0,a1,a2,a3,a4,rfl⟩
abbrev oG:Stmt:=top 6
abbrev rh:Stmt:=top 7
abbrev oJ:Stmt:=top 9
abbrev gW:Stmt:=top 10
abbrev kH:Stmt:=top 11
abbrev mK:Stmt:=top 12
abbrev iR:Stmt:=top 13
abbrev iP:Stmt:=top 14
abbrev iZ:Stmt:=top 15
abbrev im:Stmt:=top 16
abbrev nS:Stmt:=top 17
abbrev iT:Stmt:=top 18
abbrev gD:Stmt:=top 19
abbrev rm:Stmt:=top 20
abbrev lJ:Stmt:=top 21
abbrev tT:Stmt:=top 22
abbrev eh:Stmt:=top 23
abbrev dO:Stmt:=top 25
abbrev ij:Stmt:=top 26
abbrev kK:Stmt:=top 27
abbrev i0:Stmt:=top 28
abbrev iS:Stmt:=top 29
abbrev iQ:Stmt:=top 30
abbrev fB:Stmt:=top 31
abbrev eS:Stmt:=top 32
abbrev i3:Stmt:=top 33
abbrev iK:Stmt:=top 34
abbrev l8:Stmt:=top 35
abbrev iY:Stmt:=top 36
abbrev iX:Stmt:=top 37
abbrev dZ:Stmt:=top 38
abbrev df:Stmt:=top 39
abbrev eZ:Stmt:=top 40
abbrev s__law_order:Stmt:=top 41
abbrev fA:Stmt:=top 42
abbrev mL:Stmt:=top 43
abbrev i8:Stmt:=top 44
abbrev bW:Stmt:=top 45
abbrev dC:Stmt:=top 46
abbrev rN:Stmt:=top 47
structure V_ where
 (P:Program) (w:World) (K:Ai) (mg:Str->Option Value) (base:Heap) (Pt:Addr)
structure B_(V:V_):Prop where
 hp:∃h:Heap,V.K.In h/\h.Ns mainGlobals V.mg
 ba:V.mg "len" = none
 bw:V.mg "set" = none
 bp:V.mg "all" = none
 bg:V.mg "range" = none
 bx:V.mg "any" = none
 bq:V.mg "enumerate" = none
 be:V.mg "sorted" = none
 bb:V.mg "isinstance" = none
 br:V.mg "bool" = none
 bf:V.mg "list" = none
 bh:V.mg "tuple" = none
 bz:V.mg "zip" = none
 bu:V.mg "int" = none
 bv:V.mg "str" = none
 bj:V.mg "max" = none
 bi:V.mg "min" = none
 D0:qx V.K "is_leaf" oG
 D1:qx V.K "turned" rh
 D2:qx V.K "word_at" oJ
 D3:qx V.K "holds_leaf" gW
 D4:qx V.K "parts_of" kH
 D5:qx V.K "parts_in" mK
 D6:qx V.K "places_in" iR
 D7:qx V.K "each_once" iP
 D8:qx V.K "parts_fit" iZ
 D9:qx V.K "are_knots" im
 D10:qx V.K "is_link" nS
 D11:qx V.K "are_links" iT
 D12:qx V.K "can_be_cut" gD
 D13:qx V.K "is_cut" rm
 D14:qx V.K "are_cuts" lJ
 D15:qx V.K "demand" tT
 D16:qx V.K "checked_web" eh
 D17:qx V.K nO dO
 D18:qx V.K "_law_same" ij
 D19:qx V.K "_law_mix" kK
 D20:qx V.K "_law_name" i0
 D21:qx V.K "_law_word" iS
 D22:qx V.K "_law_flip" iQ
 D23:qx V.K "_law_weight" fB
 D24:qx V.K "_law_mirror" eS
 D25:qx V.K "_law_join" i3
 D26:qx V.K "_law_fold" iK
 D27:qx V.K "_law_cut" l8
 D28:qx V.K "_law_tree" iY
 D29:qx V.K "_law_told" iX
 D30:qx V.K nQ dZ
 D31:qx V.K nR df
 D32:qx V.K "_law_recast" eZ
 D33:DefInT V.K "_law_order" s__law_order V.Pt
 D34:qx V.K "_law_gapped" fA
 D35:qx V.K "_law_web" mL
 D36:qx V.K "_law_copy" i8
 D37:qx V.K nI bW
 D38:qx V.K nK dC
 k_LEAF_KINDS:ahv ⟨V.K,V.P,V.w⟩ V.mg "LEAF_KINDS" eY
 k_TURNED_KINDS:ahv ⟨V.K,V.P,V.w⟩ V.mg "TURNED_KINDS" dE
abbrev Q_(V:V_)(k:Nat)(x:Str)(ps:List Str)(sp:jw):Prop:=ahn V.P V.w V.K V.mg V.base k x ps sp
abbrev c0(_:V_):Prop:=True
local macro_rules | `(tactic| walk_at "s")=>`(tactic| exact⟨rfl,rfl,rfl,by decide +kernel,rfl,by decide +kernel,by decide +kernel⟩)
local macro_rules | `(tactic| walk_at "l")=>`(tactic| first | exact fun _ _ _ ⟨_,e,_⟩=>by rw[e];rfl | exact fun _ _ _ ⟨_,_,e,_⟩=>by rw[e];rfl | exact fun _ _ _ ⟨_,_,_,e,_⟩=>by rw[e];rfl | exact fun _ _ _ ⟨_,_,_,_,e,_⟩=>by rw[e];rfl | exact fun _ _ _ ⟨_,_,_,_,_,e,_⟩=>by rw[e];rfl | exact fun _ _ _ ⟨_,_,_,_,_,_,e,_⟩=>by rw[e];rfl | exact fun _ _ _ ⟨_,_,_,_,_,_,_,e,_⟩=>by rw[e];rfl | exact fun _ _ _ ⟨_,_,_,_,_,_,_,_,e,_⟩=>by rw[e];rfl | exact fun _ _ _ ⟨_,_,_,_,_,_,_,_,_,e,_⟩=>by rw[e];rfl)
local macro_rules | `(tactic| walk_at "x")=>`(tactic| first | exact fun _ _ _ _ ⟨_,e,_⟩=>by rw[e];rfl | exact fun _ _ _ _ ⟨_,_,e,_⟩=>by rw[e];rfl | exact fun _ _ _ _ ⟨_,_,_,e,_⟩=>by rw[e];rfl | exact fun _ _ _ _ ⟨_,_,_,_,e,_⟩=>by rw[e];rfl | exact fun _ _ _ _ ⟨_,_,_,_,_,e,_⟩=>by rw[e];rfl | exact fun _ _ _ _ ⟨_,_,_,_,_,_,e,_⟩=>by rw[e];rfl | exact fun _ _ _ _ ⟨_,_,_,_,_,_,_,e,_⟩=>by rw[e];rfl | exact fun _ _ _ _ ⟨_,_,_,_,_,_,_,_,e,_⟩=>by rw[e];rfl | exact fun _ _ _ _ ⟨_,_,_,_,_,_,_,_,_,e,_⟩=>by rw[e];rfl)
local macro_rules | `(tactic| walk_at "b")=>`(tactic| (intro _ _ _ _ _ _ us hl;first | (obtain⟨_,e⟩:=ap7 hl;rw[e];rfl) | (obtain⟨_,_,e⟩:=ari hl;rw[e];rfl) | (obtain⟨_,_,_,e⟩:=arq hl;rw[e];rfl) | (obtain⟨_,_,_,_,e⟩:=aox hl;rw[e];rfl) | (obtain⟨_,_,_,_,_,e⟩:=ape hl;rw[e];rfl)))
section
variable {f:Addr}{fd:FuncData}{x q:Str}{st:Stmt}{ps:List Str}(V:V_)(k:Nat)(N:List Str)
theorem W_{sp:jw}{t:wv}(F:Fun V.K x q st f fd)(vc:∀ys L Q,sp ys L Q->xx t N.length ys L Q)(h:∀(cdv:Value) (A:Around) (outer:List Env) (s:Shared) (H:Hp) (E:XK),aZ k (A.deeper (PyProof.Rows.envOfC q (qw st) s.heap.objs.size f cdv))->N.Nodup->(A.deeper (PyProof.Rows.envOfC q (qw st) s.heap.objs.size f cdv)).units+128<cLine->tW (iz CX0 V.P V.w V.K V.mg V.base N q (qw st) f cdv A outer s H E).nox (jt st) t)(sc:ah N ps (qw st):=by walk_at "s")(len:∀ys L Q,sp ys L Q->ys.length=ps.length:=by walk_at "l"):Fn3 V.P V.w V.K V.mg V.base (k+1) f fd ps sp:=
 ok3 F sc len fun cdv A outer s H E hr=>⟨t,h cdv A outer s H E hr sc.nd (huK hr),vc⟩
theorem M_{sp:jw}{t:wv}(hp:∃h:Heap,V.K.In h/\h.Ns mainGlobals V.mg)(D:qx V.K x st)(vc:∀ys L Q,sp ys L Q->xx t N.length ys L Q)(h:∀f,∀(cdv:Value) (A:Around) (outer:List Env) (s:Shared) (H:Hp) (E:XK),aZ k (A.deeper (PyProof.Rows.envOfC x (qw st) s.heap.objs.size f cdv))->N.Nodup->(A.deeper (PyProof.Rows.envOfC x (qw st) s.heap.objs.size f cdv)).units+128<cLine->tW (iz CX0 V.P V.w V.K V.mg V.base N x (qw st) f cdv A outer s H E).nox (jt st) t)(sc:ah N ps (qw st):=by walk_at "s")(len:∀ys L Q,sp ys L Q->ys.length=ps.length:=by walk_at "l")(hb:∀(kV doc pm:Value) (an:Option Addr) (cdv ct:Value) (us:List Value),us.length=ps.length->bindArgs (PySem.W.fnOf x x (vf st) (jt st) (qw st) .none kV doc pm an cdv ct) ⟨us,[]⟩=pure (ps.zip us):=by walk_at "b"):Q_ V (k+1) x ps sp:=by obtain⟨_,X,G⟩:=hp;obtain⟨f,fd,F,b,m⟩:=D.use X G hb;exact zW.of (W_ V k N F vc (h f) sc len) b F.kp m
theorem R_{sp:Nat->jw}{t:Nat->wv}(hp:∃h:Heap,V.K.In h/\h.Ns mainGlobals V.mg)(D:qx V.K x st)(no:∀ys L Q,¬sp 0 ys L Q)(vc:∀n ys L Q,sp (n+1) ys L Q->xx (t n) N.length ys L Q)(h:∀n f,Q_ V (n+k) x ps (sp n)->∀(cdv:Value) (A:Around) (outer:List Env) (s:Shared) (H:Hp) (E:XK),aZ (n+k) (A.deeper (PyProof.Rows.envOfC x (qw st) s.heap.objs.size f cdv))->N.Nodup->(A.deeper (PyProof.Rows.envOfC x (qw st) s.heap.objs.size f cdv)).units+128<cLine->tW (iz CX0 V.P V.w V.K V.mg V.base N x (qw st) f cdv A outer s H E).nox (jt st) (t n))(n:Nat)(sc:ah N ps (qw st):=by walk_at "s")(len:∀n ys L Q,sp n ys L Q->ys.length=ps.length:=by walk_at "x")(hb:∀(kV doc pm:Value) (an:Option Addr) (cdv ct:Value) (us:List Value),us.length=ps.length->bindArgs (PySem.W.fnOf x x (vf st) (jt st) (qw st) .none kV doc pm an cdv ct) ⟨us,[]⟩=pure (ps.zip us):=by walk_at "b"):Q_ V (n+k) x ps (sp n):=by
 obtain⟨_,X,G⟩:=hp;obtain⟨f,fd,F,b,m⟩:=D.use X G hb
 induction n with|zero=>exact zW.of (Fn3.never no) b F.kp m|succ n ih=>rw[Nat.add_right_comm];exact zW.of (W_ V (n+k) N F (vc n) (h n f ih) sc (len _)) b F.kp m
theorem T_{sp:jw}{t:wv}(hp:∃h:Heap,V.K.In h/\h.Ns mainGlobals V.mg)(D:DefInT V.K x st V.Pt)(vc:∀ys L Q,sp ys L Q->xx t N.length ys L Q)(h:∀f,∀(cdv:Value) (A:Around) (outer:List Env) (s:Shared) (H:Hp) (E:XK),zI V.K cdv V.Pt->aZ k (A.deeper (PyProof.Rows.envOfC x (qw st) s.heap.objs.size f cdv))->N.Nodup->(A.deeper (PyProof.Rows.envOfC x (qw st) s.heap.objs.size f cdv)).units+128<cLine->tW (iz CX0 V.P V.w V.K V.mg V.base N x (qw st) f cdv A outer s H E).nox (jt st) t)(sc:ah N ps (qw st):=by walk_at "s")(len:∀ys L Q,sp ys L Q->ys.length=ps.length:=by walk_at "l")(hb:∀(kV doc pm:Value) (an:Option Addr) (cdv ct:Value) (us:List Value),us.length=ps.length->bindArgs (PySem.W.fnOf x x (vf st) (jt st) (qw st) .none kV doc pm an cdv ct) ⟨us,[]⟩=pure (ps.zip us):=by walk_at "b"):Q_ V (k+1) x ps sp:=by obtain⟨_,X,G⟩:=hp;obtain⟨f,fd,F,b,m⟩:=D.use X G hb;exact zW.of (aps F sc len fun cdv A outer s H E C hr=>⟨t,h f cdv A outer s H E C hr sc.nd (huK hr),vc⟩) b F.kp m
end
theorem I_{X:Cx}{a b:Expr}{ta tb:xp}{pos:Pos}(ha:QE X a ta)(hb:QE X b tb)(hp:qK b:=by exact fun _ _=>rfl):QE X (.Subscript a b pos) (zn ax ta tb):=ana (an7 X.K X.prog X.w) ha hb hp
theorem jz{X:Cx}{e:Expr}{t:xp}(h:QE X e t)(s:starEach [e] X.env=[(false,eval e X.env)]:=by rfl):QA X [e] (qe t qr):=xn h vj s
theorem vg{X:Cx}{e f:Expr}{t u:xp}(h:QE X e t)(g:QE X f u)(s:starEach [e,f] X.env=[(false,eval e X.env),(false,eval f X.env)]:=by rfl)(r:starEach [f] X.env=[(false,eval f X.env)]:=by rfl):QA X [e,f] (qe t (qe u qr)):=xn h (jz g r) (by show _=_;rw[s,r])
theorem bF{X:Cx}{e f d:Expr}{t u v:xp}(h:QE X e t)(g:QE X f u)(i:QE X d v)(s:starEach [e,f,d] X.env=[(false,eval e X.env),(false,eval f X.env),(false,eval d X.env)]:=by rfl)(r:starEach [f,d] X.env=[(false,eval f X.env),(false,eval d X.env)]:=by rfl)(q:starEach [d] X.env=[(false,eval d X.env)]:=by rfl):QA X [e,f,d] (qe t (qe u (qe v qr))):=xn h (vg g i r q) (by show _=_;rw[s,r])
theorem E_{X:Cx}{a b:Expr}{ta tb:xp}{pos:Pos}(hu:X.A.units+128<cLine)(ha:QE X a ta)(hb:QE X b tb):QT X (.Compare a [.Eq] [b] pos) (yB (zn (mQ false) ta tb)):=x8 (dX X.K X.prog X.w hu) ha hb (x5 _)
theorem N_{X:Cx}{a b:Expr}{ta tb:xp}{pos:Pos}(hu:X.A.units+128<cLine)(ha:QE X a ta)(hb:QE X b tb):QT X (.Compare a [.NotEq] [b] pos) (yB (zn (mQ true) ta tb)):=x8 (amx X.K X.prog X.w hu) ha hb (x5 _)
theorem S_{X:Cx}{x:Str}{e:Expr}{te:xp}{pos pos':Pos}(i:Nat)(hN:X.N.Nodup)(h:QE X e te)(hix:X.N[i]?=some x:=by rfl)(hx:Loc X.env.scope x:=by exact Or.inl rfl)(hsw:swapsWith e (some (.Name x pos')) pos.line X.env=pure false:=by rfl)(hfn:X.fn x=true\/X.env.scope.names.lookup x=some .local:=by first | exact .inl rfl | exact .inr rfl | assumption):QS X (.Assign [.Name x pos'] e pos) (zr te (qf i)):=aP (i:=i) hN hix hx h hsw hfn
theorem G_{X:Cx}{x:Str}{pos:Pos}(i:Nat)(hN:X.N.Nodup)(hix:X.N[i]?=some x:=by rfl)(hx:Loc X.env.scope x:=by exact Or.inl rfl)(hfn:X.fn x=true\/X.env.scope.names.lookup x=some .local:=by first | exact .inl rfl | exact .inr rfl | assumption):QG X (.Name x pos) (qf i):=jS (i:=i) hN hix hx hfn
theorem C_{X:Cx}{e:Expr}{es:List Expr}{tr:eX}{pos p:Pos}{j k:Nat}{x:Str}{ps:List Str}{sp:jw}(c:ahn X.prog X.w X.K X.mg X.base j x ps sp)(hr:aZ k X.A)(ha:QA X (e::es) tr)(hj:j≤k:=by first | decide | exact Ao _ | exact AS (by decide) (Ct _ _))(hg:Gl X x:=by rfl)(hdb:Eu x:=by decide)(he:Es e es X:=by rfl)(hpl:Et pos es X:=by rfl):QE X (.Call (.Name x p) (e::es) [] pos) (qt sp tr):=asq (zW.mono c hj) hr hg ha hdb he hpl
theorem J_{X:Cx}{x:Str}{n:Int}{k:Nat}{p q pos:Pos}(i:Nat)(hN:X.N[i]?=some x:=by rfl)(hv:Vis X.env.scope x:=by first | exact Or.inl rfl | exact Or.inr (Or.inl rfl) | exact Or.inr (Or.inr rfl))(hd:Eu x:=by decide)(hc:Ew x:=by decide):QE X (.Subscript (.Name x p) (.Constant (.int n) k q) pos) (zn ax (qa i) (yC (.int n))):=I_ (qv i hN hv hd hc) qi (fun _ _=>rfl)
theorem L_{X:Cx}{e:Expr}{t:xp}{p pos:Pos}(hm:X.mg "len" = none)(h:QE X e t)(s:starEach [e] X.env=[(false,eval e X.env)]:=by rfl)(hg:Gl X "len" := by rfl):QE X (.Call (.Name "len" p) [e] [] pos) (bJ jC (qe t qr)):=jb (ajm X.K X.prog X.w) hg hm aap (jz h s) (hs:=s)
theorem oR{l:List Str}(h:decide l.Nodup=true:=by kernel_rfl):l.Nodup:=of_decide_eq_true h
abbrev c1(V:V_):Prop:=c0 V/\Q_ V 1 "is_leaf" ["word"] (aO)
theorem d1(V:V_)(B:B_ V)(c:c0 V):c1 V:=⟨c,M_ V 0 ["word"] B.hp B.D0 ut fun _ _ _ _ _ _ _ hr hN hu=>(qh (z0 (w6 (ahb _ _ _) (J_ 0) (acr B.k_LEAF_KINDS rfl) (by with_unfolding_all rfl))))⟩
abbrev c2(V:V_):Prop:=c1 V/\Q_ V 122 "turned" ["word"] (ap 120)
theorem d2(V:V_)(B:B_ V)(c:c1 V):c2 V:=⟨c,R_ V 2 ["word", "kind"] B.hp B.D1 yP yQ (fun _ _ c_turned _ _ _ _ _ _ hr hN hu=>(qc (S_ 1 hN (I_ (acr B.k_TURNED_KINDS rfl) (J_ 0))) (qc (jc (w4 (C_ c.2 hr (jz (qv 0)))) (qh (z0 (zq (vg (qv 1) (J_ 0))))) zj) (qh (z0 (zq (bF (qv 1) (C_ c_turned hr (jz (J_ 0))) (C_ c_turned hr (jz (J_ 0)))))))))) 120⟩
abbrev c3(V:V_):Prop:=c2 V/\Q_ V 122 "word_at" ["knots", "place"] (xj 120)
theorem d3(V:V_)(B:B_ V)(c:c2 V):c3 V:=⟨c,R_ V 2 ["knots", "place", "knot"] B.hp B.D2 kM vA (fun _ _ c_word_at _ _ _ _ _ _ hr hN hu=>(qc (S_ 2 hN (I_ (qv 0) (qv 1))) (qc (jc (w4 (C_ c.1.2 hr (jz (qv 2)))) (qh (z0 (qv 2))) zj) (qh (z0 (zq (bF (J_ 2) (C_ c_word_at hr (vg (qv 0) (J_ 2))) (C_ c_word_at hr (vg (qv 0) (J_ 2)))))))))) 120⟩
abbrev c4(V:V_):Prop:=c3 V/\Q_ V 2 "holds_leaf" ["knot"] (gJ)
theorem d4(V:V_)(B:B_ V)(c:c3 V):c4 V:=⟨c,M_ V 1 ["knot"] B.hp B.D3 abf fun _ _ _ _ _ _ _ hr hN hu=>(qh (z0 (wq (jF (qv 0)) (aa (C_ c.1.1.2 hr (jz (qv 0)))))))⟩
abbrev c5(V:V_):Prop:=c4 V/\Q_ V 2 "parts_of" ["knot"] (gR)
theorem d5(V:V_)(B:B_ V)(c:c4 V):c5 V:=⟨c,M_ V 1 ["knot"] B.hp B.D4 acb fun _ _ _ _ _ _ _ hr hN hu=>(qc (jc (aC (oN (pX (qv 0)) (iI (w4 (C_ c.1.1.1.2 hr (jz (qv 0))))))) (qh (z0 (j4 vj))) zj) (qh (z0 (j4 (vg (J_ 0) (J_ 0))))))⟩
abbrev c6(V:V_):Prop:=c5 V/\Q_ V 3 "parts_in" ["knots"] (jU)
theorem d6(V:V_)(B:B_ V)(c:c5 V):c6 V:=⟨c,M_ V 2 ["knots", "parts", "knot"] B.hp B.D5 adp fun _ _ _ _ _ _ _ hr hN hu=>(qc (S_ 1 hN (j4 vj)) (qc (aA PassesOwn.never rfl (x6 (qv 0)) (G_ 2 hN) (qh (qy (aR (qv 1) (jz (C_ c.2 hr (jz (qv 2)))))))) (qh (z0 (qv 1)))))⟩
abbrev c7(V:V_):Prop:=c6 V/\Q_ V 1 "places_in" ["pairs"] (jP)
theorem d7(V:V_)(B:B_ V)(c:c6 V):c7 V:=⟨c,M_ V 0 ["pairs", "places", "p", "q"] B.hp B.D6 af8 fun _ _ _ _ _ _ _ hr hN hu=>(qc (S_ 1 hN (j4 vj)) (qc (aA PassesOwn.never rfl (x6 (qv 0)) (aJ rfl (zh (G_ 2 hN) (zh (G_ 3 hN) vm))) (qc (qy (zd (qv 1) (jz (qv 2)))) (qh (qy (zd (qv 1) (jz (qv 3))))))) (qh (z0 (qv 1)))))⟩
abbrev c8(V:V_):Prop:=c7 V/\Q_ V 1 "each_once" ["places"] (fZ)
theorem d8(V:V_)(B:B_ V)(c:c7 V):c8 V:=⟨c,M_ V 0 ["places"] B.hp B.D7 aed fun _ _ _ _ _ _ _ hr hN hu=>(qh (z0 (w6 (dX _ _ _ hu) (yU rfl rfl B.ba rfl B.bw (qv 0)) (L_ B.ba (qv 0)) (x5 _))))⟩
abbrev c9(V:V_):Prop:=c8 V/\Q_ V 3 "parts_fit" ["knots", "place"] (pU)
theorem d9(V:V_)(B:B_ V)(c:c8 V):c9 V:=⟨c,M_ V 2 ["knots", "place", "parts", "fit"] B.hp B.D8 ag6 fun _ _ _ _ _ _ _ hr hN hu=>(qc (S_ 2 hN (C_ c.1.1.1.2 hr (jz (I_ (qv 0) (qv 1))))) (qc (S_ 3 hN (jb wD rfl B.bp om (jz (dD ["part"] (EK (by rfl)) rfl (x6 (qv 2)) (vn oR (fun _ _ _ _=>Or.inl rfl) (fun _ _ _ _=>rfl)) (fun _ _ _ _=>cT) (fun _ _ _ _=>(wq (sg qi (qY ahy (qv 4) (sO jB (qv 1)))) (aa (jF (I_ (qv 0) (qv 4)))))))))) (qh (z0 (wq (qv 3) (aa (C_ c.2 hr (jz (qv 2)))))))))⟩
abbrev bH(V:V_):Prop:=c9 V/\Q_ V 4 "are_knots" ["knots"] (hV)
theorem d10(V:V_)(B:B_ V)(c:c9 V):bH V:=⟨c,M_ V 3 ["knots", "fit"] B.hp B.D9 ym fun _ _ _ _ _ _ _ hr hN hu=>(qc (S_ 1 hN (jb wD rfl B.bp om (jz (dD ["place"] (EK (by rfl)) rfl (ar rfl B.bg (jz (L_ B.ba (qv 0)))) (vn oR (fun _ _ _ _=>Or.inl rfl) (fun _ _ _ _=>rfl)) (fun _ _ _ _=>cT) (fun _ _ _ _=>(C_ c.2 hr (vg (qv 0) (qv 2)))))))) (qh (z0 (wq (qv 1) (aa (jb ang rfl B.bx aj1 (jz (dD ["knot"] (EK (by rfl)) rfl (x6 (qv 0)) (vn oR (fun _ _ _ _=>Or.inl rfl) (fun _ _ _ _=>rfl)) (fun _ _ _ _=>cT) (fun _ _ _ _=>(jF (qv 2)))))))))))⟩
abbrev c11(V:V_):Prop:=bH V/\Q_ V 123 "is_link" ["knots", "p", "q"] (iA)
theorem d11(V:V_)(B:B_ V)(c:bH V):c11 V:=⟨c,M_ V 122 ["knots", "p", "q"] B.hp B.D10 yh fun _ _ _ _ _ _ _ hr hN hu=>(qc (jc (kW (aay qi (oS ahy (qv 1) (oS jB (qv 2) (yn jB (L_ B.ba (qv 0))))))) (qh (z0 eW)) zj) (qh (z0 (wq (C_ c.1.1.1.1.1.1.2 hr (jz (I_ (qv 0) (qv 1)))) (aa (w6 (dX _ _ _ hu) (I_ (qv 0) (qv 2)) (C_ c.1.1.1.1.1.1.1.1.2 hr (jz (I_ (qv 0) (qv 1)))) (x5 _)))))))⟩
abbrev c12(V:V_):Prop:=c11 V/\Q_ V 124 "are_links" ["knots", "links"] (gd)
theorem d12(V:V_)(B:B_ V)(c:c11 V):c12 V:=⟨c,M_ V 123 ["knots", "links", "fit", "leaves"] B.hp B.D11 xO fun _ _ _ _ _ _ _ hr hN hu=>(qc (S_ 2 hN (jb wD rfl B.bp om (jz (dD ["p", "q" ] (EK (by rfl)) rfl (x6 (qv 1)) (fv rfl oR (fun _ _ _ _=>rfl) (fun _ _ _ _=>rfl)) (fun _ _ _ _=>cT) (fun _ _ _ _=>(C_ c.2 hr (bF (qv 0) (qv 4) (qv 5)))))))) (qc (dJ ["place", "knot" ] (i:=3) hN rfl (Or.inl rfl) (EK (by rfl)) rfl (jE rfl B.bq (qv 0)) (fv rfl oR (fun _ _ _ _=>rfl) (fun _ _ _ _=>rfl)) (fun _ _ _ _=>dk (w4 (C_ c.1.1.1.1.1.1.1.2 hr (jz (qv 5))))) (fun _ _ _ _=>(qv 4))) (qh (z0 (wq (qv 2) (wq (w6 (dX _ _ _ hu) (jb aez rfl B.be wf (jz (C_ c.1.1.1.1.2 hr (jz (qv 1))))) (qv 3) (x5 _)) (aa (w6 (dX _ _ _ hu) (qv 1) (jb bP rfl B.be wf (jz (qv 1))) (x5 _)))))))))⟩
abbrev c13(V:V_):Prop:=c12 V/\Q_ V 4 "can_be_cut" ["knots", "place"] (uX)
theorem d13(V:V_)(B:B_ V)(c:c12 V):c13 V:=⟨c,M_ V 3 ["knots", "place"] B.hp B.D12 aht fun _ _ _ _ _ _ _ hr hN hu=>(qh (z0 (wq (sg qi (qY ahy (qv 1) (sO jB (L_ B.ba (qv 0))))) (wq (jF (I_ (qv 0) (qv 1))) (aa (w6 (lO _ _ _) (qv 1) (C_ c.1.1.1.1.1.1.2 hr (jz (qv 0))) (by with_unfolding_all rfl)))))))⟩
abbrev c14(V:V_):Prop:=c13 V/\Q_ V 123 "is_cut" ["knots", "p", "q"] (mB)
theorem d14(V:V_)(B:B_ V)(c:c13 V):c14 V:=⟨c,M_ V 122 ["knots", "p", "q"] B.hp B.D13 abw fun _ _ _ _ _ _ _ hr hN hu=>(qc (jc (kW (aC (aH (w4 (C_ c.2 hr (vg (qv 0) (qv 1)))) (k6 (w4 (C_ c.2 hr (vg (qv 0) (qv 2)))))))) (qh (z0 eW)) zj) (qh (z0 (w6 (dX _ _ _ hu) (C_ c.1.1.1.1.1.1.1.1.1.1.2 hr (vg (qv 0) (qv 2))) (C_ c.1.1.1.1.1.1.1.1.1.1.1.2 hr (jz (C_ c.1.1.1.1.1.1.1.1.1.1.2 hr (vg (qv 0) (qv 1))))) (x5 _)))))⟩
abbrev c15(V:V_):Prop:=c14 V/\Q_ V 124 "are_cuts" ["knots", "cuts"] (kF)
theorem d15(V:V_)(B:B_ V)(c:c14 V):c15 V:=⟨c,M_ V 123 ["knots", "cuts", "fit"] B.hp B.D14 acd fun _ _ _ _ _ _ _ hr hN hu=>(qc (S_ 2 hN (jb wD rfl B.bp om (jz (dD ["p", "q" ] (EK (by rfl)) rfl (x6 (qv 1)) (fv rfl oR (fun _ _ _ _=>rfl) (fun _ _ _ _=>rfl)) (fun _ _ _ _=>cT) (fun _ _ _ _=>(C_ c.2 hr (bF (qv 0) (qv 3) (qv 4)))))))) (qh (z0 (wq (qv 2) (wq (C_ c.1.1.1.1.1.1.2 hr (jz (C_ c.1.1.1.1.1.1.1.2 hr (jz (qv 1))))) (aa (w6 (dX _ _ _ hu) (qv 1) (jb bP rfl B.be wf (jz (qv 1))) (x5 _))))))))⟩
abbrev c16(V:V_):Prop:=c15 V/\Q_ V 1 "demand" ["holds", "words"] (hJ)
theorem d16(V:V_)(B:B_ V)(c:c15 V):c16 V:=⟨c,M_ V 0 ["holds", "words"] B.hp B.D15 yi fun _ _ _ _ _ _ _ hr hN hu=>(qh (jc (kW (w4 (qv 0))) (qh ac7) zj))⟩
abbrev c17(V:V_):Prop:=c16 V/\Q_ V 125 "checked_web" ["web"] (pW)
theorem d17(V:V_)(B:B_ V)(c:c16 V):c17 V:=⟨c,M_ V 124 ["web", "knots"] B.hp B.D16 afu fun _ _ _ _ _ _ _ hr hN hu=>(qc (S_ 1 hN (J_ 0)) (qc (qy (C_ c.2 hr (vg (C_ c.1.1.1.1.1.1.2 hr (jz (qv 1))) jm))) (qc (qy (C_ c.2 hr (vg (C_ c.1.1.1.1.1.1.1.1.2 hr (jz (C_ c.1.1.1.1.1.1.1.1.1.1.2 hr (jz (qv 1))))) jm))) (qc (qy (C_ c.2 hr (vg (C_ c.1.1.1.1.2 hr (vg (qv 1) (J_ 0))) jm))) (qc (qy (C_ c.2 hr (vg (C_ c.1.2 hr (vg (qv 1) (J_ 0))) jm))) (qh (z0 eW)))))))⟩
abbrev c18(V:V_):Prop:=c17 V/\Q_ V 1 nO [nt, nH] (fQ)
theorem d18(V:V_)(B:B_ V)(c:c17 V):c18 V:=⟨c,M_ V 0 [nt, nH] B.hp B.D17 uK fun _ _ _ _ _ _ _ hr hN hu=>(qc (jc (x8 jB (qv 1) (L_ B.ba (qv 0)) (x5 _)) (qh (z0 (I_ (qv 0) (qv 1)))) zj) (qh (z0 qi)))⟩
abbrev c19(V:V_):Prop:=c18 V/\Q_ V 125 "_law_same" ["_law_found", "_law_due"] (gC 124)
theorem d19(V:V_)(B:B_ V)(c:c18 V):c19 V:=⟨c,R_ V 1 ["_law_found", "_law_due", nj, "_law_other"] B.hp B.D18 qF afj (fun _ _ c__law_same _ _ _ _ _ _ hr hN hu=>(qc (jc (aC (oN (w4 (we .bool rfl B.bb rfl B.br jX (qv 0))) (iI (w4 (we .bool rfl B.bb rfl B.br jX (qv 1)))))) (qh (z0 (wq (we .bool rfl B.bb rfl B.br jX (qv 0)) (wq (we .bool rfl B.bb rfl B.br jX (qv 1)) (aa (w6 (dX _ _ _ hu) (qv 0) (qv 1) (x5 _))))))) zj) (qc (jc (w4 (ud .list .tuple rfl B.bb rfl B.bf ak rfl B.bh fY (qv 1))) (qc (jc (aC (oN (N_ hu (we .list rfl B.bb rfl B.bf ak (qv 0)) (we .list rfl B.bb rfl B.bf ak (qv 1))) (iI (N_ hu (we .tuple rfl B.bb rfl B.bh fY (qv 0)) (we .tuple rfl B.bb rfl B.bh fY (qv 1)))))) (qh (z0 eW)) zj) (qc (jc (N_ hu (L_ B.ba (qv 0)) (L_ B.ba (qv 1))) (qh (z0 eW)) zj) (qc (aA PassesOwn.never rfl (aig rfl B.bz (vg (qv 0) (qv 1))) (aJ rfl (zh (G_ 2 hN) (zh (G_ 3 hN) vm))) (qh (jc (kW (w4 (C_ c__law_same hr (vg (qv 2) (qv 3))))) (qh (z0 eW)) zj))) (qh (z0 eW))))) zj) (qc (jc (w4 (we .int rfl B.bb rfl B.bu tw (qv 1))) (qh (z0 (wq (we .int rfl B.bb rfl B.bu tw (qv 0)) (aa (w6 (dX _ _ _ hu) (qv 0) (qv 1) (x5 _)))))) zj) (qc (jc (w4 (we .str rfl B.bb rfl B.bv abb (qv 1))) (qh (z0 (wq (we .str rfl B.bb rfl B.bv abb (qv 0)) (aa (w6 (dX _ _ _ hu) (qv 0) (qv 1) (x5 _)))))) zj) (qh (z0 (ajv (qv 0))))))))) 124⟩
abbrev c20(V:V_):Prop:=c19 V/\Q_ V 1 "_law_mix" ["_law_cell", nH, "_law_factor"] (dy)
theorem d20(V:V_)(B:B_ V)(c:c19 V):c20 V:=⟨c,M_ V 0 ["_law_cell", nH, "_law_factor"] B.hp B.D19 ahr fun _ _ _ _ _ _ _ hr hN hu=>(qh (z0 (qo aB (qo x9 (qo tH (qo v5 (qo v5 (qo tH (qo x9 (qv 0) qi) qi) (qo tH (qv 1) (qv 1))) qi) (qv 2)) qi) qi)))⟩
abbrev c21(V:V_):Prop:=c20 V/\Q_ V 1 "_law_name" [nh, "_law_which"] (kI)
theorem d21(V:V_)(B:B_ V)(c:c20 V):c21 V:=⟨c,M_ V 0 [nh, "_law_which", "_law_letters", "_law_size", "_law_place", "_law_base", "_law_sign"] B.hp B.D20 aac fun _ _ _ _ _ _ _ hr hN hu=>(qc (aP (i:=2) hN rfl (Or.inr rfl) jm) (qc (S_ 3 hN (qo v5 qi (qo x9 (qv 0) qi))) (qc (S_ 4 hN (qo x9 (qo aB (qv 0) qi) (qv 3))) (qc (S_ 5 hN (afe jm (jz (dD [nH] (EK (by rfl)) rfl (ar rfl B.bg (jz qi)) (vn oR (fun _ _ _ _=>Or.inl rfl) (fun _ _ _ _=>rfl)) (fun _ _ _ _=>cT) (fun _ _ _ _=>(I_ (qv 2) (qo x9 (qo v5 (qo aB (qv 0) qi) (qo tH qi (qv 7))) qi))))))) (qc (jc (E_ hu (qo x9 (qo aB (qv 0) qi) qi) qi) (qh (z0 (f9 (aa9 _ _ _) (qv 5) oo (gN (qo v5 qi (qo x9 (qo v5 (qv 1) (qv 0)) qi)))))) zj) (qc (S_ 6 hN (I_ (qv 2) (qo x9 (qo v5 (qo v5 (qo aB (qv 0) qi) (qo tH qi (qv 4))) (qv 1)) qi))) (qh (z0 (qo v5 (qo v5 (f9 (aa9 _ _ _) (qv 5) oo (gN (qv 4))) (qv 6)) (f9 (aa9 _ _ _) (qv 5) (gN (qo v5 (qv 4) qi)) (gN (qv 3))))))))))))⟩
abbrev c22(V:V_):Prop:=c21 V/\Q_ V 121 "_law_word" [ng, nu] (xj 120)
theorem d22(V:V_)(B:B_ V)(c:c21 V):c22 V:=⟨c,R_ V 1 [ng, nu, nF] B.hp B.D21 o7 rX (fun _ _ c__law_word _ _ _ _ _ _ hr hN hu=>(qc (S_ 2 hN (I_ (qv 0) (qv 1))) (qc (jc (E_ hu (L_ B.ba (qv 2)) qi) (qh (z0 (qv 2))) zj) (qh (z0 (zq (bF (J_ 2) (C_ c__law_word hr (vg (qv 0) (J_ 2))) (C_ c__law_word hr (vg (qv 0) (J_ 2)))))))))) 120⟩
abbrev c23(V:V_):Prop:=c22 V/\Q_ V 121 "_law_flip" [nq] (av 120)
theorem d23(V:V_)(B:B_ V)(c:c22 V):c23 V:=⟨c,R_ V 1 [nq, "_law_sides"] B.hp B.D22 acx ad9 (fun _ _ c__law_flip _ _ _ _ _ _ hr hN hu=>(qc (S_ 1 hN (aex [ ("plain" , "turned") ,("turned" , "plain") ,("both" , "either") ,("either" , "both") ] (gQ cU cU (gQ cU cU (gQ cU cU (gQ cU cU afi)))) rfl rfl (List.cons_ne_nil _ _) (Di rfl))) (qc (jc (E_ hu (L_ B.ba (qv 0)) qi) (qh (z0 (zq (vg (I_ (qv 1) (J_ 0)) (J_ 0))))) zj) (qh (z0 (zq (bF (I_ (qv 1) (J_ 0)) (C_ c__law_flip hr (jz (J_ 0))) (C_ c__law_flip hr (jz (J_ 0)))))))))) 120⟩
abbrev c24(V:V_):Prop:=c23 V/\Q_ V 121 "_law_weight" [nq] (cM 120)
theorem d24(V:V_)(B:B_ V)(c:c23 V):c24 V:=⟨c,R_ V 1 [nq] B.hp B.D23 mD yt (fun _ _ c__law_weight _ _ _ _ _ _ hr hN hu=>(qc (jc (E_ hu (L_ B.ba (qv 0)) qi) (qh (z0 qi)) zj) (qh (z0 (qo v5 (qo v5 qi (C_ c__law_weight hr (jz (J_ 0)))) (C_ c__law_weight hr (jz (J_ 0)))))))) 120⟩
abbrev c25(V:V_):Prop:=c24 V/\Q_ V 127 "_law_mirror" [ng, nq] (cL 5)
theorem d25(V:V_)(B:B_ V)(c:c24 V):c25 V:=⟨c,R_ V 122 [ng, nq, "_law_left", "_law_right", "_law_turn", "_law_same_here", "_law_low", "_law_high"] B.hp B.D24 xG zS (fun _ _ c__law_mirror _ _ _ _ _ _ hr hN hu=>(qc (jc (E_ hu (L_ B.ba (qv 1)) qi) (qc (qy (zd (qv 0) (jz (C_ c.1.2 hr (jz (qv 1)))))) (qc (qy (zd (qv 0) (jz (qv 1)))) (qh (z0 (j4 (bF (zq (bF jm (qo cJ (L_ B.ba (qv 0)) qi) (qo cJ (L_ B.ba (qv 0)) qi))) (qo cJ (L_ B.ba (qv 0)) qi) (qo cJ (L_ B.ba (qv 0)) qi))))))) zj) (qc (S_ 2 hN (C_ c__law_mirror hr (vg (qv 0) (J_ 1)))) (qc (S_ 3 hN (C_ c__law_mirror hr (vg (qv 0) (J_ 1)))) (qc (qy (zd (qv 0) (jz (zq (bF (I_ (C_ c.1.2 hr (jz (qv 1))) qi) (J_ 2) (J_ 3)))))) (qc (qy (zd (qv 0) (jz (zq (bF (J_ 1) (J_ 2) (J_ 3)))))) (qc (acs (i:=4) (j:=5) rfl hN rfl rfl (by decide) rfl rfl (vg (qo cJ (L_ B.ba (qv 0)) qi) (qo cJ (L_ B.ba (qv 0)) qi)) rfl) (qc (S_ 6 hN (dc (E_ hu (J_ 1) jm) (qv 4) (qv 5))) (qc (S_ 7 hN (dc (E_ hu (J_ 1) jm) (qv 5) (qv 4))) (qh (z0 (j4 (bF (zq (bF jm (qv 7) (zq (xn jm (bF (qv 6) (J_ 2) (J_ 3)))))) (qv 4) (qv 5)))))))))))))) 5⟩
abbrev c26(V:V_):Prop:=c25 V/\Q_ V 1 "_law_join" [ng, nG, nj, nv] (oj)
theorem d26(V:V_)(B:B_ V)(c:c25 V):c26 V:=⟨c,M_ V 0 [ng, nG, nj, nv, "_law_first", "_law_second", "_law_left", "_law_right", "_law_ends"] B.hp B.D25 af2 fun _ _ _ _ _ _ _ hr hN hu=>(qc (S_ 4 hN (cK (qv 1) (jz (qo x9 (qv 3) (L_ B.ba (qv 1)))))) (qc (S_ 5 hN (cK (qv 1) (jz (qo x9 (qv 2) (L_ B.ba (qv 1)))))) (qc (aP (i:=6) hN rfl (Or.inr rfl) (I_ (J_ 4) (qo x9 (qo aB (qv 3) qi) (L_ B.ba (J_ 4))))) (qc (aP (i:=7) hN rfl (Or.inr rfl) (I_ (J_ 5) (qo x9 (qo aB (qv 2) qi) (L_ B.ba (J_ 5))))) (qc (qy (zd (qv 0) (jz (zq (bF jm (qv 6) (qv 7)))))) (qc (dJ [nu] (i:=8) hN rfl (Or.inl rfl) (EK (by rfl)) rfl (x6 (qo v5 (J_ 4) (J_ 5))) (vn oR (fun _ _ _ _=>Or.inl rfl) (fun _ _ _ _=>rfl)) (fun _ _ _ _=>dk (x8 (lO _ _ _) (qv 9) (zq (vg (qv 6) (qv 7))) (by with_unfolding_all rfl))) (fun _ _ _ _=>(qv 9))) (qh (qy (zd (qv 1) (jz (j4 (vg (zq (xn jm (bF (qo cJ (L_ B.ba (qv 0)) qi) (J_ 4) (J_ 5)))) (qo v5 (qv 8) (j4 (jz (qo cJ (L_ B.ba (qv 0)) qi))))))))))))))))⟩
abbrev c27(V:V_):Prop:=c26 V/\Q_ V 1 "_law_fold" [ng, "_law_tree_here", nj, nv] (lB)
theorem d27(V:V_)(B:B_ V)(c:c26 V):c27 V:=⟨c,M_ V 0 [ng, "_law_tree_here", nj, nv, "_law_left", "_law_right"] B.hp B.D26 abn fun _ _ _ _ _ _ _ hr hN hu=>(qc (jc (x8 jB (L_ B.ba (J_ 1)) qi (x5 _)) (qh vP) zj) (qc (S_ 4 hN (cK (J_ 1) (jz (qo x9 (qv 3) (L_ B.ba (J_ 1)))))) (qc (S_ 5 hN (cK (J_ 1) (jz (qo x9 (qv 2) (L_ B.ba (J_ 1)))))) (qc (qy (zd (qv 0) (jz (zq (bF jm (qv 4) (qv 5)))))) (qc (adk (qv 1) qi (zq (bF jm (qo cJ (L_ B.ba (qv 0)) qi) (J_ 1)))) (qh (qy (zd (J_ 1) (jz (qo cJ (L_ B.ba (qv 0)) qi))))))))))⟩
abbrev c28(V:V_):Prop:=c27 V/\Q_ V 128 "_law_cut" [ng, nG, nj, nv] (o5)
theorem d28(V:V_)(B:B_ V)(c:c27 V):c28 V:=⟨c,M_ V 127 [ng, nG, nj, nv, "_law_first", nu, nq, "_law_second", nJ, "_law_at", "_law_end", nL, "_law_same_here", "_law_ends"] B.hp B.D27 ag3 fun _ _ _ _ _ _ _ hr hN hu=>(qc (S_ 4 hN (cK (qv 1) (jz (qo x9 (qv 3) (L_ B.ba (qv 1)))))) (qc (aP (i:=5) hN rfl (Or.inr rfl) (I_ (J_ 4) (qo x9 (qo aB (qv 3) qi) (L_ B.ba (J_ 4))))) (qc (S_ 6 hN (C_ c.1.1.1.1.1.2 hr (vg (qv 0) (qv 5)))) (qc (dQ (zq (vg lv lv)) (aJ rfl (zh (G_ 7 hN) (zh (jS (i:=8) hN rfl (Or.inr rfl)) vm)))) (qc (aA PassesOwn.never rfl (ar rfl B.bg (jz (L_ B.ba (qv 1)))) (G_ 9 hN) (qh (aA PassesOwn.never rfl (x6 (I_ (I_ (qv 1) (qv 9)) qi)) (G_ 10 hN) (qh (jc (aC (aH (pX (qv 7)) (k6 (E_ hu (C_ c.1.1.1.1.1.2 hr (vg (qv 0) (qv 10))) (C_ c.1.1.1.1.2 hr (jz (qv 6))))))) (qh (dQ (zq (vg (I_ (qv 1) (qv 9)) (qv 10))) (aJ rfl (zh (G_ 7 hN) (zh (jS (i:=8) hN rfl (Or.inr rfl)) vm))))) zj))))) (qc (jc (aC (aH (pX (qv 7)) (k6 (x8 aeq (C_ c.1.1.1.2 hr (jz (qv 6))) qi (x5 _))))) (qc (qy (zd (qv 1) (jz (qv 4)))) (qh vP)) zj) (vq (jc (pX (qv 7)) (qc (dQ (C_ c.1.1.2 hr (vg (qv 0) (qv 6))) (aj0 rfl (zh (G_ 11 hN) (zh (jS (i:=8) hN rfl (Or.inr rfl)) (zh (G_ 12 hN) vm))))) (qh (S_ 7 hN (j4 (vg (qv 11) (j4 (vg (qv 8) (qv 12)))))))) (qh (qy (yq hu (qv 1) (jz (qv 7)))))) (qc (dJ ["_law_x"] (i:=13) hN rfl (Or.inl rfl) (EK (by rfl)) rfl (x6 (qo v5 (J_ 4) (J_ 7))) (vn oR (fun _ _ _ _=>Or.inl rfl) (fun _ _ _ _=>rfl)) (fun _ _ _ _=>dk (x8 (lO _ _ _) (qv 14) (zq (vg (qv 5) (qv 8))) (by with_unfolding_all rfl))) (fun _ _ _ _=>(qv 14))) (qh (jc (E_ hu (qo x9 (qv 2) qi) qi) (qh (qy (zd (qv 1) (jz (j4 (vg (zq (xn jm (xn (qv 5) (bF (qv 8) (J_ 4) (J_ 7))))) (qv 13))))))) (qh (qy (zd (qv 1) (jz (j4 (vg (zq (xn jm (xn (qv 8) (bF (qv 5) (J_ 7) (J_ 4))))) (qv 13)))))))))))))))))⟩
abbrev c29(V:V_):Prop:=c28 V/\Q_ V 129 "_law_tree" ["_law_cells", nh, nM] (pP)
theorem d29(V:V_)(B:B_ V)(c:c28 V):c29 V:=⟨c,M_ V 128 ["_law_cells", nh, nM, ng, nG, nH, "_law_cell", nj, nv, "_law_deed", "_law_at"] B.hp B.D28 aga fun _ _ _ _ _ _ _ hr hN hu=>(qc (S_ 3 hN (j4 vj)) (qc (S_ 4 hN (j4 vj)) (qc (aA PassesOwn.never rfl (jE rfl B.bq (qv 0)) (aJ rfl (zh (G_ 5 hN) (zh (G_ 6 hN) vm))) (qc (acs (i:=7) (j:=8) rfl hN rfl rfl (by decide) rfl rfl (vg (C_ c.1.1.1.1.1.1.1.1.2 hr (bF (qv 6) (qv 5) qi)) (C_ c.1.1.1.1.1.1.1.1.2 hr (bF (qv 6) (qv 5) qi))) rfl) (qc (jc (x8 aeq (qo v5 (qo v5 (L_ B.ba (qv 3)) (L_ B.ba (qv 4))) qi) (qv 2) (x5 _)) (qh rZ) zj) (qc (S_ 9 hN (qo x9 (qv 7) qi)) (qc (S_ 7 hN (qo aB (qv 7) qi)) (qh (jc (aC (oN (x8 jB (qv 9) qi (x5 _)) (iI (E_ hu (qv 4) (j4 vj))))) (qc (qy (zd (qv 3) (jz (zq (vg jm (C_ c.1.1.1.1.1.1.1.2 hr (vg (qv 1) (qo x9 (qv 8) qi)))))))) (qc (qy (zd (qv 3) (jz (zq (vg jm (C_ c.1.1.1.1.1.1.1.2 hr (vg (qv 1) (qo x9 (qv 8) qi)))))))) (vq (jc (E_ hu (qo x9 (qv 7) qi) qi) (qh (qy (zd (qv 3) (jz (cK (qv 3) (jz (qo cJ (L_ B.ba (qv 3)) qi))))))) zj) (qc (S_ 10 hN (qo cJ (L_ B.ba (qv 3)) qi)) (qh (qy (zd (qv 4) (jz (j4 (vg (zq (bF jm (qv 10) (qo v5 (qv 10) qi))) (j4 (vg (qv 10) (qo v5 (qv 10) qi))))))))))))) (qh (jc (x8 jB (qv 9) qi (x5 _)) (qh (qy (C_ c.1.2 hr (xn (qv 3) (bF (I_ (qv 4) (qo x9 (qv 8) (L_ B.ba (qv 4)))) (qv 7) (qo aB (qv 8) qi)))))) (qh (jc (aC (aH (x8 jB (qv 9) qi (x5 _)) (k6 (x8 aeq (L_ B.ba (qv 4)) qi (x5 _))))) (qh (qy (C_ c.1.1.2 hr (xn (qv 3) (bF (qv 4) (qv 7) (qv 8)))))) (qh (qy (C_ c.2 hr (xn (qv 3) (bF (qv 4) (qv 7) (qv 8))))))))))))))))) (vq (jc (E_ hu (qv 4) (j4 vj)) (qc (qy (zd (qv 3) (jz (zq (vg jm (C_ c.1.1.1.1.1.1.1.2 hr (vg (qv 1) qi))))))) (qc (qy (zd (qv 3) (jz (zq (vg jm (C_ c.1.1.1.1.1.1.1.2 hr (vg (qv 1) qi))))))) (qh (qy (zd (qv 4) (jz (j4 (vg (zq (bF jm qi qi)) (j4 (vg qi qi)))))))))) zj) (qc (lE PassesOwn.never (x8 aeq (L_ B.ba (qv 4)) qi (x5 _)) (qh (qy (C_ c.1.1.2 hr (xn (qv 3) (bF (qv 4) (qo v5 (qo aB (qv 1) qi) (L_ B.ba (qv 4))) (qo aB (qv 1) qi))))))) (qh (z0 (zq (vg (qv 3) (I_ (J_ 4) qi))))))))))⟩
abbrev c30(V:V_):Prop:=c29 V/\Q_ V 1 "_law_told" [nL] (qG)
theorem d30(V:V_)(B:B_ V)(c:c29 V):c30 V:=⟨c,M_ V 0 [nL, ny, ni, "_law_todo", "_law_here"] B.hp B.D29 adf fun _ _ _ _ _ _ _ hr hN hu=>(qc (aff (i:=1) (j:=2) (k:=3) rfl hN rfl rfl rfl (by decide) (by decide) (by decide) rfl rfl rfl (bF (j4 vj) (j4 vj) (j4 (jz (qv 0)))) rfl) (qc (lE PassesOwn.never (N_ hu (qv 3) (j4 vj)) (qc (S_ 4 hN (zZ (qv 3))) (vq (jc (E_ hu (J_ 4) jm) (qh (qy (zd (qv 1) (jz (zq (vg (J_ 4) (J_ 4))))))) zj) (vq (jc (E_ hu (J_ 4) jm) (qh (qy (zd (qv 2) (jz (zq (vg (J_ 4) (J_ 4))))))) zj) (qh (qy (aR (qv 3) (jz (dD ["_law_arm"] (EK (by rfl)) rfl (aia (f9 (als _ _ _) (qv 4) (gN qi) oo)) (vn oR (fun _ _ _ _=>Or.inl rfl) (fun _ _ _ _=>rfl)) (fun _ _ _ _=>dk (w4 (we .tuple rfl B.bb rfl B.bh fY (qv 5)))) (fun _ _ _ _=>(qv 5))))))))))) (qh (z0 (zq (vg (jb bP rfl B.be wf (jz (qv 1))) (jb bP rfl B.be wf (jz (qv 2)))))))))⟩
abbrev c31(V:V_):Prop:=c30 V/\Q_ V 1 nQ [ng, ny, nj, nv] (fK)
theorem d31(V:V_)(B:B_ V)(c:c30 V):c31 V:=⟨c,M_ V 0 [ng, ny, nj, nv, "_law_first", "_law_mates", "_law_second", "_law_a", "_law_b", "_law_c", "_law_d", "_law_rest"] B.hp B.D30 uO fun _ _ _ _ _ _ _ hr hN hu=>(qc (aP (i:=4) hN rfl (Or.inr rfl) (I_ (qv 1) (qo x9 (qv 2) (L_ B.ba (qv 1))))) (qc (dJ ["_law_x"] (i:=5) hN rfl (Or.inl rfl) (EK (by rfl)) rfl (x6 (qv 1)) (vn oR (fun _ _ _ _=>Or.inl rfl) (fun _ _ _ _=>rfl)) (fun _ _ _ _=>dk (aC (aH (N_ hu (qv 12) (qv 4)) (k6 (E_ hu (I_ (I_ (qv 0) (J_ 12)) qi) (I_ (I_ (qv 0) (J_ 4)) qi)))))) (fun _ _ _ _=>(qv 12))) (qc (jc (E_ hu (qv 5) (j4 vj)) (qh (z0 (qv 1))) zj) (qc (aP (i:=6) hN rfl (Or.inr rfl) (I_ (qv 5) (qo x9 (qv 3) (L_ B.ba (qv 5))))) (qc (dQ (dc (E_ hu (I_ (I_ (qv 0) (J_ 4)) qi) jm) (qv 4) (zq (vg (J_ 4) (J_ 4)))) (aJ rfl (zh (G_ 7 hN) (zh (G_ 8 hN) vm)))) (qc (dQ (dc (E_ hu (I_ (I_ (qv 0) (J_ 6)) qi) jm) (qv 6) (zq (vg (J_ 6) (J_ 6)))) (aJ rfl (zh (G_ 9 hN) (zh (G_ 10 hN) vm)))) (qc (dJ ["_law_x"] (i:=11) hN rfl (Or.inl rfl) (EK (by rfl)) rfl (x6 (qv 1)) (vn oR (fun _ _ _ _=>Or.inl rfl) (fun _ _ _ _=>rfl)) (fun _ _ _ _=>dk (aC (aH (N_ hu (qv 12) (qv 4)) (k6 (N_ hu (qv 12) (qv 6)))))) (fun _ _ _ _=>(qv 12))) (qh (z0 (jb bP rfl B.be wf (jz (qo v5 (qv 11) (j4 (vg (zq (vg (jb vF rfl B.bi ox (vg (qv 7) (qv 10))) (jb wF rfl B.bj oh (vg (qv 7) (qv 10))))) (zq (vg (jb vF rfl B.bi ox (vg (qv 9) (qv 8))) (jb wF rfl B.bj oh (vg (qv 9) (qv 8)))))))))))))))))))⟩
abbrev c32(V:V_):Prop:=c31 V/\Q_ V 1 nR [ng, ni] (fU)
theorem d32(V:V_)(B:B_ V)(c:c31 V):c32 V:=⟨c,M_ V 0 [ng, ni, "_law_todo", nu, nJ, "_law_beneath_here"] B.hp B.D31 uR fun _ _ _ _ _ _ _ hr hN hu=>(qc (S_ 2 hN (j4 vj)) (qc (aA PassesOwn.never rfl (x6 (qv 1)) (aJ rfl (zh (G_ 3 hN) (zh (G_ 4 hN) vm))) (qh (qy (aR (qv 2) (jz (j4 (vg (qv 3) (qv 4)))))))) (qc (S_ 5 hN (j4 vj)) (qc (lE PassesOwn.never (N_ hu (qv 2) (j4 vj)) (qc (S_ 3 hN (zZ (qv 2))) (qc (qy (zd (qv 5) (jz (qv 3)))) (qh (jc (E_ hu (L_ B.ba (I_ (qv 0) (qv 3))) qi) (qh (qy (aR (qv 2) (jz (j4 (vg (I_ (I_ (qv 0) (qv 3)) qi) (I_ (I_ (qv 0) (qv 3)) qi))))))) zj))))) (qh (z0 (qv 5)))))))⟩
abbrev c33(V:V_):Prop:=c32 V/\Q_ V 2 "_law_recast" [ng, ni, nh, nN] (iB)
theorem d33(V:V_)(B:B_ V)(c:c32 V):c33 V:=⟨c,M_ V 1 [ng, ni, nh, nN, "_law_kept", "_law_parts", nF, "_law_many", "_law_made", nu, "_law_bits"] B.hp B.D32 yJ fun _ _ _ _ _ _ _ hr hN hu=>(qc (S_ 4 hN (C_ c.2 hr (vg (qv 0) (qv 1)))) (qc (S_ 5 hN (j4 vj)) (qc (aA PassesOwn.never rfl (x6 (qv 0)) (G_ 6 hN) (qh (jc (E_ hu (L_ B.ba (qv 6)) qi) (qh (qy (aR (qv 5) (jz (j4 (vg (J_ 6) (J_ 6))))))) zj))) (qc (jN "_law_knot'" (aP (i:=7) oR rfl (Or.inl rfl) (L_ B.ba (dD [nF] (EK (by rfl)) rfl (x6 (qv 0)) (vn oR (fun _ _ _ _=>Or.inl rfl) (fun _ _ _ _=>rfl)) (fun _ _ _ _=>dk (E_ hu (J_ 11) jm)) (fun _ _ _ _=>(qv 11)))))) (qc (S_ 8 hN (j4 vj)) (qc (aA PassesOwn.never rfl (jE rfl B.bq (qv 0)) (aJ rfl (zh (G_ 9 hN) (zh (G_ 6 hN) vm))) (qc (S_ 10 hN (qo x9 (C_ c.1.1.1.1.1.1.1.1.1.1.1.1.2 hr (bF (qv 2) (qv 9) qi)) qi)) (qh (jc (aC (oN (E_ hu (L_ B.ba (qv 6)) qi) (iI (x8 (ahb _ _ _) (qv 9) (qv 4) (by with_unfolding_all rfl))))) (qh (qy (zd (qv 8) (jz (qv 6))))) (qh (jc (E_ hu (qo x9 (qo aB (qv 2) qi) qi) qi) (qh (qy (zd (qv 8) (jz (dc (aC (aH (E_ hu (qo x9 (qv 10) qi) qi) (k6 (x8 (lO _ _ _) (qv 9) (qv 5) (by with_unfolding_all rfl))))) lv (qv 6)))))) (qh (jc (aC (aH (x8 jB (qv 10) qi (x5 _)) (k6 (E_ hu (J_ 6) jm)))) (qc (qy (zd (qv 8) (jz (zq (bF jm (J_ 6) (J_ 6)))))) (qh (S_ 7 hN (qo cJ (qv 7) qi)))) (qh (jc (aC (aH (x8 jB (qv 10) qi (x5 _)) (k6 (x8 jB (qv 7) (qv 3) (x5 _))))) (qc (qy (zd (qv 8) (jz (zq (bF jm (J_ 6) (J_ 6)))))) (qh (S_ 7 hN (qo v5 (qv 7) qi)))) (qh (qy (zd (qv 8) (jz (qv 6))))))))))))))) (qh (z0 (qv 8)))))))))⟩
abbrev c34(V:V_):Prop:=c33 V/\Q_ V 2 "_law_order" [ng, nh] (lW V.Pt)
theorem d34(V:V_)(B:B_ V)(c:c33 V):c34 V:=⟨c,T_ V 1 [ng, nh, "_law_keys", nu, nF, "_law_rank"] B.hp B.D33 abz fun _ _ _ _ _ _ _ C hr hN hu=>(qc (aP (i:=2) hN rfl (Or.inr rfl) (j4 vj)) (qc (aA PassesOwn.never rfl (jE rfl B.bq (qv 0)) (aJ rfl (zh (G_ 3 hN) (zh (G_ 4 hN) vm))) (qc (S_ 5 hN (qo x9 (C_ c.1.1.1.1.1.1.1.1.1.1.1.1.1.2 hr (bF (qv 1) (qv 3) qi)) qi)) (vq (jc (aC (aH (jD (qv 4)) (k6 (E_ hu (L_ B.ba (qv 4)) qi)))) (qh (S_ 5 hN (qo v5 (qo v5 (qv 5) qi) (jb wF rfl B.bj oh (vg (I_ (qv 2) (J_ 4)) (I_ (qv 2) (J_ 4))))))) zj) (qh (qy (zd (qv 2) (jz (qv 5)))))))) (qh (z0 (acv rfl B.be (tf rfl rfl B.bf rfl B.bg (L_ B.ba (qv 0))) ⟨rfl,rfl,rfl,by decide +kernel,rfl,rfl,by decide,by decide,by decide⟩ C (dp3 hr) rfl rfl rfl ⟨_,rfl,rfl⟩ rfl (fun _ _ _ _ _ _ _=>rfl))))))⟩
abbrev c35(V:V_):Prop:=c34 V/\Q_ V 3 "_law_gapped" [ng, ny, ni, nh, "_law_gaps"] (hZ V.Pt)
theorem d35(V:V_)(B:B_ V)(c:c34 V):c35 V:=⟨c,M_ V 2 [ng, ny, ni, nh, "_law_gaps", "_law_at", "_law_wide", nu, nF] B.hp B.D34 xX fun _ _ _ _ _ _ _ hr hN hu=>(qc (aP (i:=5) hN rfl (Or.inr rfl) aem) (qc (S_ 6 hN (j4 vj)) (qc (aA PassesOwn.never rfl (x6 (C_ c.2 hr (vg (qv 0) (qv 3)))) (G_ 7 hN) (vq (jc (aC (aH (w4 (qv 4)) (k6 (E_ hu (qo x9 (C_ c.1.1.1.1.1.1.1.1.1.1.1.1.1.1.2 hr (bF (qv 3) (qv 7) qi)) qi) qi)))) (qh (qy (zd (qv 6) (jz lv)))) zj) (qc (afw hu (qv 5) (qv 7) (L_ B.ba (qv 6))) (qc (S_ 8 hN (I_ (qv 0) (qv 7))) (vq (jc (aC (aH (jD (qv 8)) (k6 (E_ hu (L_ B.ba (qv 8)) qi)))) (qh (S_ 8 hN (zq (bF (J_ 8) (bN hu (qv 5) (J_ 8) (fun _ _=>rfl)) (bN hu (qv 5) (J_ 8) (fun _ _=>rfl)))))) zj) (qh (qy (zd (qv 6) (jz (qv 8)))))))))) (qc (jN "_law_p'" (aP (i:=1) oR rfl (Or.inl rfl) (jb bP rfl B.be wf (jz (dD [nu, nJ ] (EK (by rfl)) rfl (x6 (qv 1)) (fv rfl oR (fun _ _ _ _=>rfl) (fun _ _ _ _=>rfl)) (fun _ _ _ _=>cT) (fun _ _ _ _=>(zq (vg (jb vF rfl B.bi ox (vg (bN hu (qv 5) (qv 9) (fun _ _=>rfl)) (bN hu (qv 5) (qv 10) (fun _ _=>rfl)))) (jb wF rfl B.bj oh (vg (bN hu (qv 5) (qv 9) (fun _ _=>rfl)) (bN hu (qv 5) (qv 10) (fun _ _=>rfl)))))))))))) (qc (jN "_law_p'" (aP (i:=2) oR rfl (Or.inl rfl) (jb bP rfl B.be wf (jz (dD [nu, nJ ] (EK (by rfl)) rfl (x6 (qv 2)) (fv rfl oR (fun _ _ _ _=>rfl) (fun _ _ _ _=>rfl)) (fun _ _ _ _=>cT) (fun _ _ _ _=>(zq (vg (bN hu (qv 5) (qv 9) (fun _ _=>rfl)) (bN hu (qv 5) (qv 10) (fun _ _=>rfl)))))))))) (qh (z0 (zq (bF (qo v5 (qv 6) (dD [nH] (EK (by rfl)) rfl (ar rfl B.bg (jz (cQ ahs rfl B.bu tw (jz (qv 4))))) (vn oR (fun _ _ _ _=>Or.inl rfl) (fun _ _ _ _=>rfl)) (fun _ _ _ _=>cT) (fun _ _ _ _=>lv))) (qv 1) (qv 2))))))))))⟩
abbrev c36(V:V_):Prop:=c35 V/\Q_ V 130 "_law_web" [nt, nh, nM, nN] (uB V.Pt)
theorem d36(V:V_)(B:B_ V)(c:c35 V):c36 V:=⟨c,M_ V 129 [nt, nh, nM, nN, "_law_bits", "_law_gaps", ng, nL, ny, ni, nH] B.hp B.D35 ait fun _ _ _ _ _ _ _ hr hN hu=>(qc (S_ 4 hN (C_ c.1.1.1.1.1.1.1.1.1.1.1.1.1.1.1.2 hr (bF (qv 1) qi qi))) (qc (S_ 5 hN (w6 (dX _ _ _ hu) (qo x9 (qv 4) qi) qi (x5 _))) (vq (jc (w4 (qv 5)) (qh (S_ 2 hN (jb vF rfl B.bi ox (vg (qv 2) qi)))) zj) (qc (dQ (C_ c.1.1.1.1.1.1.2 hr (bF (qv 0) (qv 1) (qv 2))) (aJ rfl (zh (G_ 6 hN) (zh (G_ 7 hN) vm)))) (qc (dQ (C_ c.1.1.1.1.1.2 hr (jz (qv 7))) (aJ rfl (zh (G_ 8 hN) (zh (G_ 9 hN) vm)))) (qc (aA PassesOwn.never rfl (ar rfl B.bg (jz (qo x9 (qo aB (qv 4) qi) qi))) (G_ 10 hN) (qh (S_ 8 hN (C_ c.1.1.1.1.2 hr (xn (qv 6) (bF (qv 8) (C_ c.1.1.1.1.1.1.1.1.1.1.1.1.1.1.1.2 hr (bF (qv 1) (qo v5 qi (qv 10)) qi)) (C_ c.1.1.1.1.1.1.1.1.1.1.1.1.1.1.1.2 hr (bF (qv 1) (qo v5 qi (qv 10)) qi)))))))) (vq (jc (E_ hu (qo x9 (qo aB (qv 4) qi) qi) qi) (qh (S_ 6 hN (C_ c.1.1.2 hr (xn (qv 6) (bF (qv 9) (qv 1) (qv 3)))))) zj) (qh (z0 (C_ c.2 hr (xn (qv 6) (xn (qv 8) (bF (qv 9) (qv 1) (qv 5))))))))))))))⟩
abbrev c37(V:V_):Prop:=c36 V/\Q_ V 1 "_law_copy" [nE] (pH)
theorem d37(V:V_)(B:B_ V)(c:c36 V):c37 V:=⟨c,M_ V 0 [nE] B.hp B.D36 agb fun _ _ _ _ _ _ _ hr hN hu=>(qh (z0 (zq (bF (cQ dN rfl B.bf ak (jz (J_ 0))) (cQ dN rfl B.bf ak (jz (J_ 0))) (cQ dN rfl B.bf ak (jz (J_ 0)))))))⟩
abbrev c38(V:V_):Prop:=c37 V/\Q_ V 1 nI [ng, ni] (lU)
theorem d38(V:V_)(B:B_ V)(c:c37 V):c38 V:=⟨c,M_ V 0 [ng, ni, "_law_used", nF, nu, nJ] B.hp B.D37 aav fun _ _ _ _ _ _ _ hr hN hu=>(qc (aP (i:=2) hN rfl (Or.inr rfl) (j4 vj)) (qc (aA PassesOwn.never rfl (x6 (qv 0)) (G_ 3 hN) (qh (jc (aC (aH (jD (qv 3)) (k6 (E_ hu (L_ B.ba (qv 3)) qi)))) (qh (qy (aR (qv 2) (jz (j4 (vg (J_ 3) (J_ 3))))))) zj))) (qc (aA PassesOwn.never rfl (x6 (qv 1)) (aJ rfl (zh (G_ 4 hN) (zh (G_ 5 hN) vm))) (qh (qy (aR (qv 2) (jz (j4 (vg (qv 4) (qv 5)))))))) (qh (jN "_law_p'" (z0 (dD [nu] (EK (by rfl)) rfl (ar rfl B.bg (jz (L_ B.ba (qv 0)))) (vn oR (fun _ _ _ _=>Or.inl rfl) (fun _ _ _ _=>rfl)) (fun _ _ _ _=>dk (aC (aH (jD (I_ (qv 0) (qv 6))) (k6 (x8 (lO _ _ _) (qv 6) (qv 2) (by with_unfolding_all rfl)))))) (fun _ _ _ _=>(qv 6)))))))))⟩
abbrev c39(V:V_):Prop:=c38 V/\Q_ V 122 nK [nE, nj] (pQ)
theorem d39(V:V_)(B:B_ V)(c:c38 V):c39 V:=⟨c,M_ V 121 [nE, nj, ng, ny, ni, "_law_ends", nu, nJ] B.hp B.D38 ag2 fun _ _ _ _ _ _ _ hr hN hu=>(qc (dQ (qv 0) (aJ rfl (zh (G_ 2 hN) (zh (G_ 3 hN) (zh (G_ 4 hN) vm))))) (qc (S_ 5 hN (C_ c.2 hr (vg (qv 2) (qv 4)))) (qc (S_ 6 hN (I_ (qv 5) (qo x9 (qv 1) (L_ B.ba (qv 5))))) (qc (aA PassesOwn.never rfl (x6 (qv 5)) (G_ 7 hN) (qh (jc (E_ hu (C_ c.1.1.1.1.1.1.1.1.1.1.1.1.1.1.1.1.2 hr (vg (qv 2) (qv 7))) (C_ c.1.1.1.1.1.1.1.1.1.1.1.1.1.1.1.2 hr (jz (C_ c.1.1.1.1.1.1.1.1.1.1.1.1.1.1.1.1.2 hr (vg (qv 2) (qv 6)))))) (qh (z0 (zq (bF (cQ dN rfl B.bf ak (jz (qv 2))) (cQ dN rfl B.bf ak (jz (qv 3))) (jb bP rfl B.be wf (jz (qo v5 (qv 4) (j4 (jz (zq (vg (qv 6) (qv 7)))))))))))) zj))) (qh (z0 (qv 0)))))))⟩
theorem dL(V:V_)(B:B_ V)(c:c39 V){f:Addr}{fd:FuncData}(F:Fun V.K "law" "law" rN f fd):Fn3 V.P V.w V.K V.mg V.base 131 f fd [nt] (qD V.Pt lamQ):=
 W_ V 130 [nt, nh, nE, "_law_handed", "_law_more"] F abm fun _ _ _ _ _ _ hr hN hu=>(qc (S_ 1 hN (qo x9 (C_ c.1.1.1.1.1.1.1.1.1.1.1.1.1.1.1.1.1.1.1.1.1.2 hr (vg (qv 0) qi)) (qo alh qi qi))) (qc (S_ 2 hN (C_ c.1.1.1.2 hr (xn (qv 0) (bF (qv 1) qi qi)))) (qc (S_ 3 hN (C_ c.1.1.2 hr (jz (qv 2)))) (qc (jc (aC (oN (x8 akh (C_ c.1.1.1.1.1.1.1.1.1.1.1.1.1.1.1.1.1.1.1.1.1.1.2 hr (jz (qv 3))) eW (x5 _)) (iI (kW (w4 (C_ c.1.1.1.1.1.1.1.1.1.1.1.1.1.1.1.1.1.1.1.1.2 hr (vg (qv 3) (qv 2)))))))) (qh (z0 eW)) zj) (qc (S_ 4 hN (C_ c.2 hr (vg (qv 2) (C_ c.1.1.1.1.1.1.1.1.1.1.1.1.1.1.1.1.1.1.1.2 hr (bF (qv 1) qi qi))))) (qc (S_ 3 hN (C_ c.1.1.2 hr (jz (qv 4)))) (qh (z0 (wq (w6 alz (C_ c.1.1.1.1.1.1.1.1.1.1.1.1.1.1.1.1.1.1.1.1.1.1.2 hr (jz (qv 3))) eW (x5 _)) (aa (C_ c.1.1.1.1.1.1.1.1.1.1.1.1.1.1.1.1.1.1.1.1.2 hr (vg (qv 3) (qv 4)))))))))))))
theorem all_mk{l:PySem.W.OpenLaw}{w:World}{K:Ai}{h:Heap}{mg:Str->Option Value}{fa:Addr}{a_LEAF_KINDS:Addr}{o_LEAF_KINDS:Option Addr}{n_LEAF_KINDS:Nat}{l_LEAF_KINDS:Array (Option Value)}{t_LEAF_KINDS0 t_LEAF_KINDS1:Tok}{a_TURNED_KINDS:Addr}{e_TURNED_KINDS:Nat}{t_TURNED_KINDS0 t_TURNED_KINDS1 t_TURNED_KINDS2 t_TURNED_KINDS3 u_TURNED_KINDS0 u_TURNED_KINDS1 u_TURNED_KINDS2 u_TURNED_KINDS3:Tok}{Pt:Addr}(X:K.In h)(G:h.Ns mainGlobals mg)(hfa:mg "law" = some (.ref fa))
 (D0:qx K "is_leaf" oG)
 (D1:qx K "turned" rh)
 (D2:qx K "word_at" oJ)
 (D3:qx K "holds_leaf" gW)
 (D4:qx K "parts_of" kH)
 (D5:qx K "parts_in" mK)
 (D6:qx K "places_in" iR)
 (D7:qx K "each_once" iP)
 (D8:qx K "parts_fit" iZ)
 (D9:qx K "are_knots" im)
 (D10:qx K "is_link" nS)
 (D11:qx K "are_links" iT)
 (D12:qx K "can_be_cut" gD)
 (D13:qx K "is_cut" rm)
 (D14:qx K "are_cuts" lJ)
 (D15:qx K "demand" tT)
 (D16:qx K "checked_web" eh)
 (D17:qx K nO dO)
 (D18:qx K "_law_same" ij)
 (D19:qx K "_law_mix" kK)
 (D20:qx K "_law_name" i0)
 (D21:qx K "_law_word" iS)
 (D22:qx K "_law_flip" iQ)
 (D23:qx K "_law_weight" fB)
 (D24:qx K "_law_mirror" eS)
 (D25:qx K "_law_join" i3)
 (D26:qx K "_law_fold" iK)
 (D27:qx K "_law_cut" l8)
 (D28:qx K "_law_tree" iY)
 (D29:qx K "_law_told" iX)
 (D30:qx K nQ dZ)
 (D31:qx K nR df)
 (D32:qx K "_law_recast" eZ)
 (D33:DefInT K "_law_order" s__law_order Pt)
 (D34:qx K "_law_gapped" fA)
 (D35:qx K "_law_web" mL)
 (D36:qx K "_law_copy" i8)
 (D37:qx K nI bW)
 (D38:qx K nK dC)
 (D39:qx K "law" rN)
 (aLEAF_KINDS:PySem.W.nsIn K mainGlobals "LEAF_KINDS" = some (some (.ref a_LEAF_KINDS)))
 (lLEAF_KINDS:K.lookup a_LEAF_KINDS=some ⟨.type "tuple",o_LEAF_KINDS,.seq #[.str "plain" t_LEAF_KINDS0,.str "turned" t_LEAF_KINDS1] n_LEAF_KINDS,l_LEAF_KINDS⟩)
 (aTURNED_KINDS:PySem.W.nsIn K mainGlobals "TURNED_KINDS" = some (some (.ref a_TURNED_KINDS)))
 (lTURNED_KINDS:K.lookup a_TURNED_KINDS=some ⟨.type "dict",none,.dict ((([("plain",t_TURNED_KINDS0, "turned",u_TURNED_KINDS0),("turned",t_TURNED_KINDS1, "plain",u_TURNED_KINDS1),("both",t_TURNED_KINDS2, "either",u_TURNED_KINDS2),("either",t_TURNED_KINDS3, "both",u_TURNED_KINDS3)]:List (Str×Tok×Str×Tok)).map (wU w)).toArray) e_TURNED_KINDS,#[]⟩)
 (hTURNED_KINDS:(a_TURNED_KINDS==sysModules)=false)
 (zlen:PySem.W.nsIn K mainGlobals "len" = some none)
 (zset:PySem.W.nsIn K mainGlobals "set" = some none)
 (zall:PySem.W.nsIn K mainGlobals "all" = some none)
 (zrange:PySem.W.nsIn K mainGlobals "range" = some none)
 (zany:PySem.W.nsIn K mainGlobals "any" = some none)
 (zenumerate:PySem.W.nsIn K mainGlobals "enumerate" = some none)
 (zsorted:PySem.W.nsIn K mainGlobals "sorted" = some none)
 (zisinstance:PySem.W.nsIn K mainGlobals "isinstance" = some none)
 (zbool:PySem.W.nsIn K mainGlobals "bool" = some none)
 (zlist:PySem.W.nsIn K mainGlobals "list" = some none)
 (ztuple:PySem.W.nsIn K mainGlobals "tuple" = some none)
 (zzip:PySem.W.nsIn K mainGlobals "zip" = some none)
 (zint:PySem.W.nsIn K mainGlobals "int" = some none)
 (zstr:PySem.W.nsIn K mainGlobals "str" = some none)
 (zmax:PySem.W.nsIn K mainGlobals "max" = some none)
 (zmin:PySem.W.nsIn K mainGlobals "min" = some none):
 ∃fd:FuncData,(∀(s:Shared) (v:Value),BindsTo s fd ⟨[v],[]⟩ [(nt,v)])/\∀base:Heap,K.In base->base.Ns mainGlobals mg->cO l.prog w K mg base CX0 131 fa fd [nt] (spTopT lamQ K Pt):=by
 obtain⟨fL,kV,doc,pm,an,cdv,ct,aL,FL⟩:=D39.ex;have e:=hfa.symm.trans (CQ X G aL);cases e;refine⟨PySem.W.fnOf "law" "law" (vf rN) (jt rN) (qw rN) .none kV doc pm an cdv ct,fun s v=>.of_eq rfl,fun base _ _=>?_⟩;have B:B_ ⟨l.prog,w,K,mg,base,Pt⟩:=⟨⟨h,X,G⟩,A6 X G zlen,A6 X G zset,A6 X G zall,A6 X G zrange,A6 X G zany,A6 X G zenumerate,A6 X G zsorted,A6 X G zisinstance,A6 X G zbool,A6 X G zlist,A6 X G ztuple,A6 X G zzip,A6 X G zint,A6 X G zstr,A6 X G zmax,A6 X G zmin,D0,D1,D2,D3,D4,D5,D6,D7,D8,D9,D10,D11,D12,D13,D14,D15,D16,D17,D18,D19,D20,D21,D22,D23,D24,D25,D26,D27,D28,D29,D30,D31,D32,D33,D34,D35,D36,D37,D38,⟨a_LEAF_KINDS,CQ X G aLEAF_KINDS,fun H=>⟨a_LEAF_KINDS,[V.str "plain",V.str "turned"],rfl,.inr ⟨_,_,_,lLEAF_KINDS,rfl,rfl,by show 2≤sizeLine;decide,.cons ⟨_,rfl⟩ (.cons ⟨_,rfl⟩ (.nil))⟩,⟨_,_,rfl,rfl,⟨_,_,rfl,rfl,rfl⟩⟩⟩⟩,⟨a_TURNED_KINDS,CQ X G aTURNED_KINDS,fun H=>⟨a_TURNED_KINDS,rfl,akz _ lTURNED_KINDS hTURNED_KINDS (by show 4≤1000;decide) (by show List.Nodup ([Sum.inr "plain",Sum.inr "turned",Sum.inr "both",Sum.inr "either"]:List jl);decide +kernel)⟩⟩⟩;exact cO.imp (dL _ B (d39 _ B (d38 _ B (d37 _ B (d36 _ B (d35 _ B (d34 _ B (d33 _ B (d32 _ B (d31 _ B (d30 _ B (d29 _ B (d28 _ B (d27 _ B (d26 _ B (d25 _ B (d24 _ B (d23 _ B (d22 _ B (d21 _ B (d20 _ B (d19 _ B (d18 _ B (d17 _ B (d16 _ B (d15 _ B (d14 _ B (d13 _ B (d12 _ B (d11 _ B (d10 _ B (d9 _ B (d8 _ B (d7 _ B (d6 _ B (d5 _ B (d4 _ B (d3 _ B (d2 _ B (d1 _ B trivial))))))))))))))))))))))))))))))))))))))) FL) fun vs H Q E q=>afs q
theorem def_inT{K:Ai}{x:Str}{st:Stmt}{f Pt:Addr}{oc:Value}{od an:Option Addr}{osl:Array (Option Value)}{kV doc pm cdv ct:Value}(a:PySem.W.nsIn K mainGlobals x=some (some (.ref f)))
 (l:K.lookup f=some ⟨oc,od,.func (PySem.W.fnOf x x (vf st) (jt st) (qw st) .none kV doc pm an cdv ct),osl⟩) (c:PySem.W.codeIn K cdv x=true) (k:PySem.W.keepIn K (.ref f)=true) (C:zI K cdv Pt):DefInT K x st Pt:=
 ⟨f,kV,doc,pm,an,cdv,ct,a,⟨⟨oc,od,kV,doc,pm,an,cdv,ct,osl,rfl,l,c,C⟩,k⟩⟩
end K13
namespace H13
noncomputable section
open PySem PySem.W PySem.W.X L2 L3 PyProof.Rows
abbrev rr:=PySem.Challenge.rw_oncewise_k13_sound_webs
abbrev p:Program:=PySem.Challenge.pw_oncewise_k13_sound_webs
abbrev top:=K13.top
abbrev s(x:String):Str:=Str.ofString x
noncomputable abbrev S (x:String) (t:Tok):Value:=.str (Str.ofString x) t
noncomputable abbrev I (i:Int) (t:Tok):Value:=.int i t
noncomputable abbrev R (a:Addr):Value:=.ref a
abbrev E(P:Params)(k:String)(t:Tok)(v:Value):DictEntry:=⟨PyData.keyHash P (Str.ofString k),.str (Str.ofString k) t,v⟩
noncomputable abbrev O (c:Value) (d:Data):Obj:=⟨c,none,d,#[]⟩
abbrev FN(n q:String)(st:Stmt)(dV kV doc pm:Value)(an:Option Addr)(cd ct:Value):FuncData:=fnOf (Str.ofString n) (Str.ofString q) (vf st) (jt st) (qw st) dV kV doc pm an cd ct
abbrev FG(n q:String)(st:Stmt):FuncData:={ fnOf (Str.ofString n) (Str.ofString q) (vf st) (jt st) (qw st) .none .none .none .none none .none .none with globals:=0 }
abbrev tu(l:Array Value):Obj:=O (.type "tuple") (.seq l 0)
abbrev fo(f:FuncData):Obj:=O (.type "function") (.func f)
abbrev go(f:FuncData):Obj:=O .none (.func f)
abbrev co(n q:String)(t l a b c fl v:Nat)(o:Bool)(m k:Nat)(x y z u:Value)(d:Nat):Obj:=O (.type "code") (.fields #[S n t,S q (t+1),S "/claim/cut.py" (t+2),I l 0,I a 0,I b 0,I c 0,I fl 0,R v,.bool o,I m 0,R k,x,y,z,u,I d 0,I l 0,S "/claim/cut.py" (d+1)])
abbrev kU:Value:=S "law_oncewise_k13_sound_webs" 373
abbrev ui:Value:=S "oncewise.webs" 256
abbrev m2_:Value:=S "oncewise.words" 223
abbrev fX(n:String)(i:Nat)(m:Value)(r:Nat):Obj:=fo (FN n n (top i) .none .none .none m none (R r) .none)
abbrev gX(n:String)(i:Nat):Obj:=go (FG n n (top i))
abbrev cF(n:String)(t l a v d:Nat):Obj:=co n n t l a 0 0 3 v true 181 (v+1) .none (R (v+2)) (R (v+3)) (R (v+4)) d
abbrev cC(n:String)(t l v d:Nat):Obj:=co n n t l 0 0 0 0 v false 181 (v+1) .none .none .none .none d
abbrev cS(n:String)(a ns k t v:Nat):Obj:=⟨.type "type",none,.cls (ClassData.mk (s n) [R 24] [R a,R 24,.type "ValueError",.type "Exception",.type "BaseException",.type "object"] ns (s n) true [] [] false none false),#[some (R k),none,some (S n t),some (S n v),some (.builtin "ValueError.__new__"),some (.bool true)]⟩
abbrev dA(P:Params)(a b:Nat)(l:Int)(c d r e:Nat):Obj:=O (.type "dict") (.dict #[E P "__module__" a (S "oncewise.errors" 187),E P "__firstlineno__" b (I l c),E P "__static_attributes__" d (R r),E P "__doc__" e .none] 2)
abbrev dB(P:Params)(a q:Nat)(n:String)(q2 b:Nat)(l:Int)(c d r:Nat):Obj:=O (.type "dict") (.dict #[E P "__module__" a (S "oncewise.errors" 187),E P "__qualname__" q (S n q2),E P "__firstlineno__" b (I l c),E P "__static_attributes__" d (R r)] 4)
abbrev fR(a b:Nat):Obj:=⟨.type "frame",none,.plain,#[some (R a),some (R 3),some (R b),none,some (S "oncewise.errors" 187),none,some (R 0)]⟩
abbrev bI(a:Nat):Obj:=O (.type "builtin_function_or_method") (.fields #[.builtin "object.__init_subclass__",R a])
abbrev sU(a:Nat):Obj:=O (.type "super") (.fields #[R a,R a,R a])
abbrev Ob:=Params->Obj
def ev{α:Type}:Bool->List α->List α
 |_,[]=>[]
 |true,x::r=>x::ev false r
 |false,_::r=>ev true r
def bt:Nat->List Obj->BT
 |0,_=>.nil
 |_,[]=>.nil
 |n+1,x::r=>.node x (bt n (ev true r)) (bt n (ev false r))
def env0:Env:={ scope:=p.main.scope,locals:=mainNs,globals:=mainNs,cells:=[],code:=.ref 13,frame:=some 14 }
abbrev cE:Code:=.body (behindTheImports p) env0
abbrev q0:Pos:=⟨0,0,0,0⟩
abbrev an:Option Value:=some (.ref 6)
abbrev Pc(n:Nat)(S S':World->OsState->SharedT)(l:List Stmt)(q q':Pos)(w:World):Prop:=(fun os=>segRunT treeTable p w 11 an 1 n (S w os) (piecesOf l env0 cE q [topFrame q0]))=fun os=>some (Flow.next,S' w os,cE,q')
abbrev b0:=PySem.W.boot_o_0
abbrev b1:=PySem.W.boot_o_1
abbrev b2:=PySem.W.boot_o_2
abbrev b3:=PySem.W.boot_o_3
abbrev b4:=PySem.W.boot_o_4
abbrev b5:=PySem.W.boot_o_5
abbrev b6:=PySem.W.boot_o_6
abbrev b7:=PySem.W.boot_o_7
abbrev b8:=PySem.W.boot_o_8
abbrev b9:=PySem.W.boot_o_9
abbrev b10:=PySem.W.boot_o_10
def zv:Ob:=fun _=>tu #[]
def xg:Ob:=fun _=>O .none (.fields #[])
def xac:Ob:=fun _=>cC "<module>" 182 1 11 185
def xad:Ob:=fun _=>⟨(.type "frame"),none,.plain,#[(some (R 13)),(some (R 3)),(some (R 3)),none,(some (S "__main__" 164)),none,(some (R 0))]⟩
def xaf:Ob:=fun _=>tu #[(.type "ValueError")]
def xag:Ob:=fun P=>O (.type "dict") (.dict #[(E P "__module__" 196 (S "oncewise.errors" 187)),(E P "__firstlineno__" 200 (I 2 199)),(E P "__static_attributes__" 201 (R 22)),(E P "__weakref__" 203 (R 25)),(E P "__doc__" 204 .none)] 3)
def xah:Ob:=fun _=>bI 24
def xai:Ob:=fun P=>dB P 196 198 "OnceError" 197 200 2 199 201 22
def xaj:Ob:=fun _=>O (.type "getset_descriptor") (.fields #[S "__weakref__" 202,R 24,(.builtin "ExceptionGroup.__weakref__"),.none])
def xak:Ob:=fun _=>fR 20 17
def xal:Ob:=fun _=>O (.type "builtin_function_or_method") (.fields #[(.builtin "type.__prepare__"),(.type "type")])
def xao:Ob:=fun _=>cC "OnceError" 191 2 18 194
def xap:Ob:=fun _=>sU 24
def xar:Ob:=fun _=>cF "is_leaf" 241 9 1 42 245
def xas:Ob:=fun _=>bI 37
def xat:Ob:=fun _=>fX "turned" 7 m2_ 54
def xau:Ob:=fun _=>tu #[S "word" 251,S "kind" 252]
def xav:Ob:=fun _=>cC "BadWeb" 209 4 31 212
def xaw:Ob:=fun P=>O (.type "dict") (.dict #[(E P "plain" 228 (S "turned" 229)),(E P "turned" 230 (S "plain" 231)),(E P "both" 232 (S "either" 233)),(E P "either" 234 (S "both" 235))] 4)
def xax:Ob:=fun _=>cS "BadWeb" 37 36 28 207 215
def xay:Ob:=fun _=>gX "turned" 7
def xaz:Ob:=fun _=>fX "is_leaf" 6 m2_ 47
def xa0:Ob:=fun _=>⟨(.type "type"),none,(.cls (ClassData.mk (s "OnceError") [(.type "ValueError")] [R 24,(.type "ValueError"),(.type "Exception"),(.type "BaseException"),(.type "object")] 23 (s "OnceError") true [] [R 37] false none false)),#[(some (R 15)),none,(some (S "OnceError" 189)),(some (S "OnceError" 197)),(some (.builtin "ValueError.__new__")),(some (.bool true))]⟩
def xa1:Ob:=fun _=>tu #[S "plain" 225,S "turned" 226]
def xa3:Ob:=fun P=>dA P 214 218 4 217 219 35 220
def xa4:Ob:=fun _=>tu #[R 24]
def xa5:Ob:=fun _=>tu #[S "word" 244]
def xa6:Ob:=fun _=>fR 33 30
def xa7:Ob:=fun _=>sU 37
def xa8:Ob:=fun _=>cF "turned" 248 11 1 49 253
def xa9:Ob:=fun P=>dB P 214 216 "BadWeb" 215 218 4 217 219 35
def xba:Ob:=fun _=>gX "is_leaf" 6
def xbc:Ob:=fun _=>gX "each_once" 14
def xbd:Ob:=fun _=>tu #[S "knots" 284,S "parts" 285,S "knot" 286]
def xbe:Ob:=fun _=>fX "are_links" 18 ui 118
def xbf:Ob:=fun _=>gX "holds_leaf" 10
def xbg:Ob:=fun _=>gX "is_cut" 20
def xbh:Ob:=fun _=>fX "parts_in" 12 ui 82
def xbi:Ob:=fun _=>cF "parts_of" 274 24 1 70 278
def xbj:Ob:=fun _=>fX "are_knots" 16 ui 106
def xbk:Ob:=fun _=>tu #[S "knot" 270]
def xbl:Ob:=fun _=>tu #[S "knots" 345,S "p" 346,S "q" 347]
def xbm:Ob:=fun _=>fX "each_once" 14 ui 96
def xbn:Ob:=fun _=>gX "parts_in" 12
def xbo:Ob:=fun _=>cF "is_link" 319 48 3 108 325
def xbp:Ob:=fun _=>co "are_cuts" "are_cuts" 351 62 2 0 0 3 134 true 181 135 .none .none .none (R 136) 354
def xbq:Ob:=fun _=>gX "are_knots" 16
def xbr:Ob:=fun _=>cF "places_in" 290 33 1 84 297
def xbs:Ob:=fun _=>fX "holds_leaf" 10 ui 68
def xbt:Ob:=fun _=>fX "is_cut" 20 ui 132
def xbu:Ob:=fun _=>co "parts_fit" "parts_fit" 307 41 2 0 0 3 98 true 181 99 .none .none .none (R 100) 310
def xbv:Ob:=fun _=>gX "are_links" 18
def xbw:Ob:=fun _=>cF "word_at" 258 17 2 56 264
def xbx:Ob:=fun _=>tu #[S "places" 303]
def xby:Ob:=fun _=>cF "can_be_cut" 334 56 2 120 339
def xbz:Ob:=fun _=>cF "each_once" 300 39 1 91 304
def xb0:Ob:=fun _=>gX "is_link" 17
def xb1:Ob:=fun _=>tu #[S "knot" 277]
def xb2:Ob:=fun _=>gX "are_cuts" 21
def xb3:Ob:=fun _=>gX "places_in" 13
def xb5:Ob:=fun _=>cF "holds_leaf" 267 22 1 63 271
def xb6:Ob:=fun _=>cF "is_cut" 342 58 3 127 348
def xb7:Ob:=fun _=>gX "parts_fit" 15
def xb8:Ob:=fun _=>fX "parts_of" 11 ui 75
def xb9:Ob:=fun _=>gX "word_at" 9
def xca:Ob:=fun _=>gX "can_be_cut" 19
def xcb:Ob:=fun _=>cF "parts_in" 281 28 1 77 287
def xcc:Ob:=fun _=>fX "is_link" 17 ui 113
def xcd:Ob:=fun _=>gX "parts_of" 11
def xce:Ob:=fun _=>fX "are_cuts" 21 ui 137
def xcf:Ob:=fun _=>co "are_knots" "are_knots" 313 45 1 0 0 3 103 true 181 104 .none .none .none (R 105) 316
def xcg:Ob:=fun _=>tu #[S "knots" 261,S "place" 262,S "knot" 263]
def xch:Ob:=fun _=>fX "places_in" 13 ui 89
def xci:Ob:=fun _=>tu #[S "knots" 337,S "place" 338]
def xcj:Ob:=fun _=>fX "parts_fit" 15 ui 101
def xck:Ob:=fun _=>tu #[S "pairs" 293,S "places" 294,S "p" 295,S "q" 296]
def xcl:Ob:=fun _=>co "are_links" "are_links" 328 52 2 0 0 3 115 true 181 116 .none .none .none (R 117) 331
def xcm:Ob:=fun _=>tu #[S "knots" 322,S "p" 323,S "q" 324]
def xcn:Ob:=fun _=>fX "word_at" 9 ui 61
def xco:Ob:=fun _=>fX "can_be_cut" 19 ui 125
def xcq:Ob:=fun _=>cF "_law_flip" 417 113 1 186 422
def xcr:Ob:=fun _=>fX "_law_cell_at" 25 kU 158
def xcs:Ob:=fun _=>fX "_law_cut" 35 kU 222
def xct:Ob:=fun _=>gX "demand" 22
def xcu:Ob:=fun _=>fX "_law_weight" 31 kU 198
def xcv:Ob:=fun _=>cF "checked_web" 365 68 1 146 370
def xcw:Ob:=fun _=>gX "_law_word" 29
def xcx:Ob:=fun _=>tu #[S "_law_word_here" 428]
def xcy:Ob:=fun _=>fX "_law_join" 33 kU 210
def xcz:Ob:=fun _=>gX "_law_mix" 27
def xc0:Ob:=fun _=>tu #[S "_law_script" 378,S "_law_k" 379]
def xc1:Ob:=fun _=>fX "demand" 22 ui 144
def xc2:Ob:=fun _=>gX "_law_join" 33
def xc3:Ob:=fun _=>co "_law_name" "_law_name" 402 99 2 0 0 3 174 true 181 175 .none .none .none (R 176) 405
def xc4:Ob:=fun _=>tu #[S "_law_cell" 396,S "_law_k" 397,S "_law_factor" 398]
def xc5:Ob:=fun _=>cF "_law_fold" 452 143 4 212 461
def xc6:Ob:=fun _=>fX "_law_word" 29 kU 184
def xc7:Ob:=fun _=>gX "_law_weight" 31
def xc8:Ob:=fun _=>cF "_law_same" 383 80 2 160 390
def xc9:Ob:=fun _=>tu #[S "_law_knots" 411,S "_law_p" 412,S "_law_knot" 413]
def xda:Ob:=fun _=>tu #[S "holds" 360,S "words" 361]
def xdb:Ob:=fun _=>cF "_law_mirror" 432 122 2 200 443
def xdc:Ob:=fun _=>fX "_law_mix" 27 kU 172
def xdd:Ob:=fun _=>gX "_law_cell_at" 25
def xde:Ob:=fun _=>gX "_law_cut" 35
def xdf:Ob:=fun _=>fX "_law_flip" 30 kU 191
def xdg:Ob:=fun _=>cF "demand" 357 65 2 139 362
def xdh:Ob:=fun _=>gX "_law_name" 28
def xdi:Ob:=fun _=>fX "checked_web" 23 ui 151
def xdj:Ob:=fun _=>gX "_law_fold" 34
def xdk:Ob:=fun _=>cF "_law_word" 408 108 2 179 414
def xdm:Ob:=fun _=>gX "_law_same" 26
def xdn:Ob:=fun _=>tu #[S "web" 368,S "knots" 369]
def xdo:Ob:=fun _=>gX "_law_mirror" 32
def xdp:Ob:=fun _=>cF "_law_mix" 393 97 3 167 399
def xdq:Ob:=fun _=>tu #[S "_law_word_here" 420,S "_law_sides" 421]
def xdr:Ob:=fun _=>tu #[S "_law_found" 386,S "_law_due" 387,S "_law_one" 388,S "_law_other" 389]
def xds:Ob:=fun _=>co "_law_join" "_law_join" 446 135 4 0 0 3 207 true 181 208 .none .none .none (R 209) 449
def xdt:Ob:=fun _=>fX "_law_name" 28 kU 177
def xdu:Ob:=fun _=>tu #[S "_law_knots" 435,S "_law_word_here" 436,S "_law_left" 437,S "_law_right" 438,S "_law_turn" 439,S "_law_same_here" 440,S "_law_low" 441,S "_law_high" 442]
def xdv:Ob:=fun _=>fX "_law_fold" 34 kU 217
def xdw:Ob:=fun _=>cF "_law_weight" 425 118 1 193 429
def xdx:Ob:=fun _=>fX "_law_same" 26 kU 165
def xdy:Ob:=fun _=>gX "checked_web" 23
def xdz:Ob:=fun _=>tu #[S "_law_knots" 455,S "_law_tree_here" 456,S "_law_one" 457,S "_law_two" 458,S "_law_left" 459,S "_law_right" 460]
def xd0:Ob:=fun _=>fX "_law_mirror" 32 kU 205
def xd1:Ob:=fun _=>cF "_law_cell_at" 375 76 2 153 380
def xd2:Ob:=fun _=>co "_law_cut" "_law_cut" 464 151 4 0 0 3 219 true 181 220 .none .none .none (R 221) 467
def xd3:Ob:=fun _=>gX "_law_flip" 30
def xd4:Ob:=fun P=>O (.type "dict") (.dict #[(E P "__name__" 165 (S "law_oncewise_k13_sound_webs" 373)),(E P "__doc__" 166 .none),(E P "__package__" 167 .none),(E P "__loader__" 168 (.builtin "__main__.__loader__#opaque")),(E P "__spec__" 169 .none),(E P "__annotations__" 170 (R 6)),(E P "__builtins__" 171 (R 4)),(E P "__file__" 173 (S "/claim/cut.py" 172)),(E P "__cached__" 174 .none),(E P "OnceError" 206 (R 24)),(E P "BadWeb" 222 (R 37)),(E P "LEAF_KINDS" 227 (R 40)),(E P "TURNED_KINDS" 240 (R 41)),(E P "is_leaf" 247 (R 48)),(E P "turned" 255 (R 55)),(E P "word_at" 266 (R 62)),(E P "holds_leaf" 273 (R 69)),(E P "parts_of" 280 (R 76)),(E P "parts_in" 289 (R 83)),(E P "places_in" 299 (R 90)),(E P "each_once" 306 (R 97)),(E P "parts_fit" 312 (R 102)),(E P "are_knots" 318 (R 107)),(E P "is_link" 327 (R 114)),(E P "are_links" 333 (R 119)),(E P "can_be_cut" 341 (R 126)),(E P "is_cut" 350 (R 133)),(E P "are_cuts" 356 (R 138)),(E P "demand" 364 (R 145)),(E P "checked_web" 372 (R 152)),(E P "_law_cell_at" 382 (R 159)),(E P "_law_same" 392 (R 166)),(E P "_law_mix" 401 (R 173)),(E P "_law_name" 407 (R 178)),(E P "_law_word" 416 (R 185)),(E P "_law_flip" 424 (R 192)),(E P "_law_weight" 431 (R 199)),(E P "_law_mirror" 445 (R 206)),(E P "_law_join" 451 (R 211)),(E P "_law_fold" 463 (R 218)),(E P "_law_cut" 469 (R 223)),(E P "_law_tree" 486 (R 230)),(E P "_law_told" 492 (R 235)),(E P "_law_crossed" 498 (R 240)),(E P "_law_beneath" 510 (R 247)),(E P "_law_recast" 516 (R 252)),(E P "_law_order" 528 (R 259)),(E P "_law_gapped" 534 (R 264)),(E P "_law_web" 551 (R 271)),(E P "_law_copy" 558 (R 278)),(E P "_law_free_ends" 564 (R 283)),(E P "_law_cut_more" 578 (R 290)),(E P "law" 589 (R 297))] 53)
def xd6:Ob:=fun _=>fX "_law_web" 43 kU 270
def xd7:Ob:=fun _=>co "_law_crossed" "_law_crossed" 493 212 4 0 0 3 236 true 181 237 .none .none .none (R 238) 496
def xd8:Ob:=fun _=>co "_law_gapped" "_law_gapped" 529 264 5 0 0 3 260 true 181 261 .none .none .none (R 262) 532
def xea:Ob:=fun _=>fX "_law_beneath" 39 kU 246
def xeb:Ob:=fun _=>fX "_law_order" 41 kU 258
def xee:Ob:=fun _=>fX "_law_told" 37 kU 234
def xef:Ob:=fun _=>fX "_law_free_ends" 45 kU 282
def xeg:Ob:=fun _=>co "_law_recast" "_law_recast" 511 233 4 0 0 3 248 true 181 249 .none .none .none (R 250) 514
def xei:Ob:=fun _=>cF "_law_cut_more" 565 300 2 284 576
def xej:Ob:=fun _=>fX "law" 47 kU 296
def xen:Ob:=fun _=>cF "_law_tree" 470 173 3 224 484
def xeo:Ob:=fun _=>cF "_law_copy" 552 290 1 272 556
def xet:Ob:=fun _=>fX "_law_crossed" 38 kU 239
def xeu:Ob:=fun _=>fX "_law_gapped" 42 kU 263
def xev:Ob:=fun _=>cF "law" 579 308 1 291 587
def xez:Ob:=fun _=>fX "_law_recast" 40 kU 251
def xe0:Ob:=fun _=>cF "_law_order" 517 256 2 253 526
def xe1:Ob:=fun _=>fX "_law_cut_more" 46 kU 289
def xe4:Ob:=fun _=>co "_law_told" "_law_told" 487 202 1 0 0 3 231 true 181 232 .none .none .none (R 233) 490
def xe5:Ob:=fun _=>co "_law_free_ends" "_law_free_ends" 559 292 2 0 0 3 279 true 181 280 .none .none .none (R 281) 562
def xe8:Ob:=fun _=>fX "_law_tree" 36 kU 229
def xe9:Ob:=fun _=>fX "_law_copy" 44 kU 277
def xfa:Ob:=fun _=>cF "_law_beneath" 499 222 2 241 508
def xfb:Ob:=fun _=>cF "_law_web" 535 278 4 265 549
def aq1:List Ob:=[b0,b1,b2,b3,b4,b5,b6,b7,b8,b9,b10,zv,xg,xac,xad]
def am5:List Ob:=[b0,b1,b2,xd4,b4,b5,b6,b7,b8,b9,b10,zv,fun _=>O .none (.fields #[I 2 0,I 0 0,R 20,I 4 0,I 0 0,R 33,I 9 0,I 0 0,R 47,I 11 0,I 0 0,R 54,I 17 0,I 0 0,R 61,I 22 0,I 0 0,R 68,I 24 0,I 0 0,R 75,I 28 0,I 0 0,R 82,I 33 0,I 0 0,R 89,I 39 0,I 0 0,R 96,I 41 0,I 0 0,R 101,I 45 0,I 0 0,R 106,I 48 0,I 0 0,R 113,I 52 0,I 0 0,R 118,I 56 0,I 0 0,R 125,I 58 0,I 0 0,R 132,I 62 0,I 0 0,R 137,I 65 0,I 0 0,R 144,I 68 0,I 0 0,R 151,I 76 0,I 0 0,R 158,I 80 0,I 0 0,R 165,I 97 0,I 0 0,R 172,I 99 0,I 0 0,R 177,I 108 0,I 0 0,R 184,I 113 0,I 0 0,R 191,I 118 0,I 0 0,R 198,I 122 0,I 0 0,R 205,I 135 0,I 0 0,R 210,I 143 0,I 0 0,R 217,I 151 0,I 0 0,R 222,I 173 0,I 0 0,R 229,I 202 0,I 0 0,R 234,I 212 0,I 0 0,R 239,I 222 0,I 0 0,R 246,I 233 0,I 0 0,R 251,I 256 0,I 0 0,R 258,I 264 0,I 0 0,R 263,I 278 0,I 0 0,R 270,I 290 0,I 0 0,R 277,I 292 0,I 0 0,R 282,I 300 0,I 0 0,R 289,I 308 0,I 0 0,R 296]),xac,xad,xaf,xal,xai,zv,xg,xao,xak,zv,xag,xa0,xaj,xap,xah,xa4,xal,xa9,zv,xg,xav,xa6,zv,xa3,xax,xa7,xas,xa1,xaw,zv,xg,xa5,zv,xba,xar,xaz,zv,xg,xau,zv,xay,xa8,xat,zv,xg,xcg,zv,xb9,xbw,xcn,zv,xg,xbk,zv,xbf,xb5,xbs,zv,xg,xb1,zv,xcd,xbi,xb8,zv,xg,xbd,zv,xbn,xcb,xbh,zv,xg,xck,zv,xb3,xbr,xch,zv,xg,xbx,zv,xbc,xbz,xbm,zv,xg,xb7,xbu,xcj,zv,xg,xbq,xcf,xbj,zv,xg,xcm,zv,xb0,xbo,xcc,zv,xg,xbv,xcl,xbe,zv,xg,xci,zv,xca,xby,xco,zv,xg,xbl,zv,xbg,xb6,xbt,zv,xg,xb2,xbp,xce,zv,xg,xda,zv,xct,xdg,xc1,zv,xg,xdn,zv,xdy,xcv,xdi,zv,xg,xc0,zv,xdd,xd1,xcr,zv,xg,xdr,zv,xdm,xc8,xdx,zv,xg,xc4,zv,xcz,xdp,xdc,zv,xg,xdh,xc3,xdt,zv,xg,xc9,zv,xcw,xdk,xc6,zv,xg,xdq,zv,xd3,xcq,xdf,zv,xg,xcx,zv,xc7,xdw,xcu,zv,xg,xdu,zv,xdo,xdb,xd0,zv,xg,xc2,xds,xcy,zv,xg,xdz,zv,xdj,xc5,xdv,zv,xg,xde,xd2,xcs,zv,xg,fun _=>tu #[S "_law_cells" 473,S "_law_seed" 474,S "_law_room" 475,S "_law_knots" 476,S "_law_forest" 477,S "_law_k" 478,S "_law_cell" 479,S "_law_one" 480,S "_law_two" 481,S "_law_deed" 482,S "_law_at" 483],zv,fun _=>gX "_law_tree" 36,xen,xe8,zv,xg,fun _=>gX "_law_told" 37,xe4,xee,zv,xg,fun _=>gX "_law_crossed" 38,xd7,xet,zv,xg,fun _=>tu #[S "_law_knots" 502,S "_law_cuts" 503,S "_law_todo" 504,S "_law_p" 505,S "_law_q" 506,S "_law_beneath_here" 507],zv,fun _=>gX "_law_beneath" 39,xfa,xea,zv,xg,fun _=>gX "_law_recast" 40,xeg,xez,zv,xg,fun _=>tu #[S "_law_knots" 520,S "_law_seed" 521,S "_law_p" 522,S "_law_knot" 523,S "_law_rank" 524],fun _=>tu #[S "_law_keys" 525],fun _=>gX "_law_order" 41,xe0,xeb,zv,xg,fun _=>gX "_law_gapped" 42,xd8,xeu,zv,xg,fun _=>tu #[S "_law_script" 538,S "_law_seed" 539,S "_law_room" 540,S "_law_most" 541,S "_law_bits" 542,S "_law_gaps" 543,S "_law_knots" 544,S "_law_rule" 545,S "_law_links" 546,S "_law_cuts" 547,S "_law_k" 548],zv,fun _=>gX "_law_web" 43,xfb,xd6,zv,xg,fun _=>tu #[S "_law_web_here" 555],zv,fun _=>gX "_law_copy" 44,xeo,xe9,zv,xg,fun _=>gX "_law_free_ends" 45,xe5,xef,zv,xg,fun _=>tu #[S "_law_web_here" 568,S "_law_one" 569,S "_law_knots" 570,S "_law_links" 571,S "_law_cuts" 572,S "_law_ends" 573,S "_law_p" 574,S "_law_q" 575],zv,fun _=>gX "_law_cut_more" 46,xei,xe1,zv,xg,fun _=>tu #[S "_law_script" 582,S "_law_seed" 583,S "_law_web_here" 584,S "_law_handed" 585,S "_law_more" 586],zv,fun _=>gX "law" 47,xev,xej]
def aqw:List Ob:=[b0,b1,b2,b3,b4,b5,b6,b7,b8,b9,b10,zv,xg,xac,xad]
def asy:List Ob:=[b0,b1,b2,fun P=>O (.type "dict") (.dict #[(E P "__name__" 165 (S "oncewise.errors" 187)),(E P "__doc__" 166 .none),(E P "__package__" 167 .none),(E P "__loader__" 168 (.builtin "__main__.__loader__#opaque")),(E P "__spec__" 169 .none),(E P "__annotations__" 170 (R 6)),(E P "__builtins__" 171 (R 4)),(E P "__file__" 173 (S "/claim/cut.py" 172)),(E P "__cached__" 174 .none),(E P "OnceError" 206 (R 24))] 10),b4,b5,b6,b7,b8,b9,b10,zv,fun _=>O .none (.fields #[I 2 0,I 0 0,R 20]),xac,xad,xaf,xal,xai,zv,xg,xao,xak,zv,xag,fun _=>⟨(.type "type"),none,(.cls (ClassData.mk (s "OnceError") [(.type "ValueError")] [R 24,(.type "ValueError"),(.type "Exception"),(.type "BaseException"),(.type "object")] 23 (s "OnceError") true [] [] false none false)),#[(some (R 15)),none,(some (S "OnceError" 189)),(some (S "OnceError" 197)),(some (.builtin "ValueError.__new__")),(some (.bool true))]⟩,xaj,xap,xah]
def apy:List Ob:=[b0,b1,b2,fun P=>O (.type "dict") (.dict #[(E P "__name__" 165 (S "oncewise.webs" 256)),(E P "__doc__" 166 .none),(E P "__package__" 167 .none),(E P "__loader__" 168 (.builtin "__main__.__loader__#opaque")),(E P "__spec__" 169 .none),(E P "__annotations__" 170 (R 6)),(E P "__builtins__" 171 (R 4)),(E P "__file__" 173 (S "/claim/cut.py" 172)),(E P "__cached__" 174 .none),(E P "OnceError" 206 (R 24)),(E P "BadWeb" 222 (R 37)),(E P "LEAF_KINDS" 227 (R 40)),(E P "TURNED_KINDS" 240 (R 41)),(E P "is_leaf" 247 (R 48)),(E P "turned" 255 (R 55))] 15),b4,b5,b6,b7,b8,b9,b10,zv,fun _=>O .none (.fields #[I 2 0,I 0 0,R 20,I 4 0,I 0 0,R 33,I 9 0,I 0 0,R 47,I 11 0,I 0 0,R 54]),xac,xad,xaf,xal,xai,zv,xg,xao,xak,zv,xag,xa0,xaj,xap,xah,xa4,xal,xa9,zv,xg,xav,xa6,zv,xa3,xax,xa7,xas,xa1,xaw,zv,xg,xa5,zv,xba,xar,xaz,zv,xg,xau,zv,xay,xa8,xat]
def as8:List Ob:=[b0,b1,b2,fun P=>O (.type "dict") (.dict #[(E P "__name__" 165 (S "oncewise.webs" 256)),(E P "__doc__" 166 .none),(E P "__package__" 167 .none),(E P "__loader__" 168 (.builtin "__main__.__loader__#opaque")),(E P "__spec__" 169 .none),(E P "__annotations__" 170 (R 6)),(E P "__builtins__" 171 (R 4)),(E P "__file__" 173 (S "/claim/cut.py" 172)),(E P "__cached__" 174 .none),(E P "OnceError" 206 (R 24)),(E P "BadWeb" 222 (R 37)),(E P "LEAF_KINDS" 227 (R 40)),(E P "TURNED_KINDS" 240 (R 41)),(E P "is_leaf" 247 (R 48)),(E P "turned" 255 (R 55)),(E P "word_at" 266 (R 62)),(E P "holds_leaf" 273 (R 69)),(E P "parts_of" 280 (R 76)),(E P "parts_in" 289 (R 83)),(E P "places_in" 299 (R 90)),(E P "each_once" 306 (R 97)),(E P "parts_fit" 312 (R 102)),(E P "are_knots" 318 (R 107)),(E P "is_link" 327 (R 114)),(E P "are_links" 333 (R 119)),(E P "can_be_cut" 341 (R 126)),(E P "is_cut" 350 (R 133)),(E P "are_cuts" 356 (R 138))] 28),b4,b5,b6,b7,b8,b9,b10,zv,fun _=>O .none (.fields #[I 2 0,I 0 0,R 20,I 4 0,I 0 0,R 33,I 9 0,I 0 0,R 47,I 11 0,I 0 0,R 54,I 17 0,I 0 0,R 61,I 22 0,I 0 0,R 68,I 24 0,I 0 0,R 75,I 28 0,I 0 0,R 82,I 33 0,I 0 0,R 89,I 39 0,I 0 0,R 96,I 41 0,I 0 0,R 101,I 45 0,I 0 0,R 106,I 48 0,I 0 0,R 113,I 52 0,I 0 0,R 118,I 56 0,I 0 0,R 125,I 58 0,I 0 0,R 132,I 62 0,I 0 0,R 137]),xac,xad,xaf,xal,xai,zv,xg,xao,xak,zv,xag,xa0,xaj,xap,xah,xa4,xal,xa9,zv,xg,xav,xa6,zv,xa3,xax,xa7,xas,xa1,xaw,zv,xg,xa5,zv,xba,xar,xaz,zv,xg,xau,zv,xay,xa8,xat,zv,xg,xcg,zv,xb9,xbw,xcn,zv,xg,xbk,zv,xbf,xb5,xbs,zv,xg,xb1,zv,xcd,xbi,xb8,zv,xg,xbd,zv,xbn,xcb,xbh,zv,xg,xck,zv,xb3,xbr,xch,zv,xg,xbx,zv,xbc,xbz,xbm,zv,xg,xb7,xbu,xcj,zv,xg,xbq,xcf,xbj,zv,xg,xcm,zv,xb0,xbo,xcc,zv,xg,xbv,xcl,xbe,zv,xg,xci,zv,xca,xby,xco,zv,xg,xbl,zv,xbg,xb6,xbt,zv,xg,xb2,xbp,xce]
def asf:List Ob:=[b0,b1,b2,fun P=>O (.type "dict") (.dict #[(E P "__name__" 165 (S "law_oncewise_k13_sound_webs" 373)),(E P "__doc__" 166 .none),(E P "__package__" 167 .none),(E P "__loader__" 168 (.builtin "__main__.__loader__#opaque")),(E P "__spec__" 169 .none),(E P "__annotations__" 170 (R 6)),(E P "__builtins__" 171 (R 4)),(E P "__file__" 173 (S "/claim/cut.py" 172)),(E P "__cached__" 174 .none),(E P "OnceError" 206 (R 24)),(E P "BadWeb" 222 (R 37)),(E P "LEAF_KINDS" 227 (R 40)),(E P "TURNED_KINDS" 240 (R 41)),(E P "is_leaf" 247 (R 48)),(E P "turned" 255 (R 55)),(E P "word_at" 266 (R 62)),(E P "holds_leaf" 273 (R 69)),(E P "parts_of" 280 (R 76)),(E P "parts_in" 289 (R 83)),(E P "places_in" 299 (R 90)),(E P "each_once" 306 (R 97)),(E P "parts_fit" 312 (R 102)),(E P "are_knots" 318 (R 107)),(E P "is_link" 327 (R 114)),(E P "are_links" 333 (R 119)),(E P "can_be_cut" 341 (R 126)),(E P "is_cut" 350 (R 133)),(E P "are_cuts" 356 (R 138)),(E P "demand" 364 (R 145)),(E P "checked_web" 372 (R 152)),(E P "_law_cell_at" 382 (R 159)),(E P "_law_same" 392 (R 166)),(E P "_law_mix" 401 (R 173)),(E P "_law_name" 407 (R 178)),(E P "_law_word" 416 (R 185)),(E P "_law_flip" 424 (R 192)),(E P "_law_weight" 431 (R 199)),(E P "_law_mirror" 445 (R 206)),(E P "_law_join" 451 (R 211)),(E P "_law_fold" 463 (R 218)),(E P "_law_cut" 469 (R 223))] 41),b4,b5,b6,b7,b8,b9,b10,zv,fun _=>O .none (.fields #[I 2 0,I 0 0,R 20,I 4 0,I 0 0,R 33,I 9 0,I 0 0,R 47,I 11 0,I 0 0,R 54,I 17 0,I 0 0,R 61,I 22 0,I 0 0,R 68,I 24 0,I 0 0,R 75,I 28 0,I 0 0,R 82,I 33 0,I 0 0,R 89,I 39 0,I 0 0,R 96,I 41 0,I 0 0,R 101,I 45 0,I 0 0,R 106,I 48 0,I 0 0,R 113,I 52 0,I 0 0,R 118,I 56 0,I 0 0,R 125,I 58 0,I 0 0,R 132,I 62 0,I 0 0,R 137,I 65 0,I 0 0,R 144,I 68 0,I 0 0,R 151,I 76 0,I 0 0,R 158,I 80 0,I 0 0,R 165,I 97 0,I 0 0,R 172,I 99 0,I 0 0,R 177,I 108 0,I 0 0,R 184,I 113 0,I 0 0,R 191,I 118 0,I 0 0,R 198,I 122 0,I 0 0,R 205,I 135 0,I 0 0,R 210,I 143 0,I 0 0,R 217,I 151 0,I 0 0,R 222]),xac,xad,xaf,xal,xai,zv,xg,xao,xak,zv,xag,xa0,xaj,xap,xah,xa4,xal,xa9,zv,xg,xav,xa6,zv,xa3,xax,xa7,xas,xa1,xaw,zv,xg,xa5,zv,xba,xar,xaz,zv,xg,xau,zv,xay,xa8,xat,zv,xg,xcg,zv,xb9,xbw,xcn,zv,xg,xbk,zv,xbf,xb5,xbs,zv,xg,xb1,zv,xcd,xbi,xb8,zv,xg,xbd,zv,xbn,xcb,xbh,zv,xg,xck,zv,xb3,xbr,xch,zv,xg,xbx,zv,xbc,xbz,xbm,zv,xg,xb7,xbu,xcj,zv,xg,xbq,xcf,xbj,zv,xg,xcm,zv,xb0,xbo,xcc,zv,xg,xbv,xcl,xbe,zv,xg,xci,zv,xca,xby,xco,zv,xg,xbl,zv,xbg,xb6,xbt,zv,xg,xb2,xbp,xce,zv,xg,xda,zv,xct,xdg,xc1,zv,xg,xdn,zv,xdy,xcv,xdi,zv,xg,xc0,zv,xdd,xd1,xcr,zv,xg,xdr,zv,xdm,xc8,xdx,zv,xg,xc4,zv,xcz,xdp,xdc,zv,xg,xdh,xc3,xdt,zv,xg,xc9,zv,xcw,xdk,xc6,zv,xg,xdq,zv,xd3,xcq,xdf,zv,xg,xcx,zv,xc7,xdw,xcu,zv,xg,xdu,zv,xdo,xdb,xd0,zv,xg,xc2,xds,xcy,zv,xg,xdz,zv,xdj,xc5,xdv,zv,xg,xde,xd2,xcs]
def aph:List Ob:=am5
def hpA(P:Params):Heap:=⟨⟨aq1.map (· P)⟩,{}⟩
def hpZ(P:Params):Heap:=⟨⟨am5.map (· P)⟩,{}⟩
def tr0(P:Params):BT:=bt 20 (aqw.map (· P))
def tr1(P:Params):BT:=bt 20 (asy.map (· P))
def tr2(P:Params):BT:=bt 20 (apy.map (· P))
def tr3(P:Params):BT:=bt 20 (as8.map (· P))
def tr4(P:Params):BT:=bt 20 (asf.map (· P))
def tr5(P:Params):BT:=bt 20 (aph.map (· P))
def sA(w:World)(os:OsState):Shared:=⟨hpA w.params,#[],{},187,os⟩
def sZ(w:World)(os:OsState):Shared:=⟨hpZ w.params,#[],{},590,os⟩
def gb(w:World)(os:OsState):SharedT:=⟨tr0 w.params,15,{},#[],{},187,os⟩
def st1(w:World)(os:OsState):SharedT:=⟨tr1 w.params,28,{},#[],{},207,os⟩
def tJ(w:World)(os:OsState):SharedT:=⟨tr2 w.params,56,{},#[],{},258,os⟩
def dI(w:World)(os:OsState):SharedT:=⟨tr3 w.params,139,{},#[],{},357,os⟩
def st4(w:World)(os:OsState):SharedT:=⟨tr4 w.params,224,{},#[],{},470,os⟩
def st5(w:World)(os:OsState):SharedT:=⟨tr5 w.params,298,{},#[],{},590,os⟩
def ahi:List Stmt:=((behindTheImports p).drop 0).take 2
def y4:List Stmt:=((behindTheImports p).drop 2).take 7
def ac2:List Stmt:=((behindTheImports p).drop 9).take 13
def xP:List Stmt:=((behindTheImports p).drop 22).take 14
def u7:List Stmt:=((behindTheImports p).drop 36).take 12
theorem arl(w:World):(fun os=>topGo treeTable p w 11 an 12 ⟨boot_heap w.params,#[],boot_drawn,boot_toks,os⟩ (topStub p))=fun os=>some (sA w os,⟨denote treeTable cE,cE,⟨0,0,0,0⟩,[topFrame q0]⟩):=by kernel_rfl
theorem aqg(w:World):(fun os=>segRun treeTable p w 11 an 1 1 (sA w os) (blockOf (behindTheImports p) env0 cE ⟨0,0,0,0⟩ [topFrame q0]))=fun os=>some (.next,(gb w os).abs,cE,⟨0,0,0,0⟩):=by kernel_rfl
theorem pc1:∀w,Pc 196 gb st1 ahi ⟨0,0,0,0⟩ ⟨2,0,3,8⟩ w:=fun w=>by kernel_rfl
theorem asb(w:World):Pc 373 st1 tJ y4 ⟨2,0,3,8⟩ ⟨16,0,16,8⟩ (w.withFollow "special-get-raises" false):=by kernel_rfl
theorem ast(w:World):Pc 373 st1 tJ y4 ⟨2,0,3,8⟩ ⟨16,0,16,8⟩ (w.withFollow "special-get-raises" true):=by kernel_rfl
theorem pc2:∀w,Pc 373 st1 tJ y4 ⟨2,0,3,8⟩ ⟨16,0,16,8⟩ w:=byRow2 "special-get-raises" asb ast
theorem pc3:∀w,Pc 378 tJ dI ac2 ⟨16,0,16,8⟩ ⟨62,0,64,72⟩ w:=fun w=>by kernel_rfl
theorem pc4:∀w,Pc 401 dI st4 xP ⟨62,0,64,72⟩ ⟨151,0,172,95⟩ w:=fun w=>by kernel_rfl
theorem pc5:∀w,Pc 375 st4 st5 u7 ⟨151,0,172,95⟩ ⟨308,0,316,81⟩ w:=fun w=>by kernel_rfl
theorem aqo(w:World):(fun os=>topRun treeTable p w 11 an 2 (st5 w os).abs ⟨doneF .next,cE,⟨308,0,316,81⟩,[topFrame q0]⟩)=fun os=>some (sZ w os):=by kernel_rfl
theorem am7:ahi++(y4++(ac2++(xP++(u7++([])))))=behindTheImports p:=by kernel_rfl
theorem aq5(w:World)(os:OsState):topRun treeTable p w 11 an (12+(1+(196+(373+(378+(401+(375+(2)))))))) ⟨boot_heap w.params,#[],boot_drawn,boot_toks,os⟩ (topStub p)=some (sZ w os):=by have h:=(piece_app (l:=ahi) (rest:=y4++(ac2++(xP++(u7++([]))))) (segRun_of (CT (pc1 w) os)) (piece_app (l:=y4) (rest:=ac2++(xP++(u7++([])))) (segRun_of (CT (pc2 w) os)) (piece_app (l:=ac2) (rest:=xP++(u7++([]))) (segRun_of (CT (pc3 w) os)) (piece_app (l:=xP) (rest:=u7++([])) (segRun_of (CT (pc4 w) os)) (piece_app (l:=u7) (rest:=[]) (segRun_of (CT (pc5 w) os)) (piece_nil (env:=env0) (CT (aqo w) os)))))));rw[am7] at h;exact go_top (CT (arl w) os) (piece_block (CT (aqg w) os) h)
def as0:List Nat:=[0,1,2,3,4,5,6,7,8,9,10,13,23,24,25,36,37,40,41,47,48,54,55,61,62,68,69,75,76,82,83,89,90,96,97,101,102,106,107,113,114,118,119,125,126,132,133,137,138,144,145,151,152,158,159,165,166,172,173,177,178,184,185,191,192,198,199,205,206,210,211,217,218,222,223,229,230,234,235,239,240,246,247,251,252,254,258,259,263,264,270,271,277,278,282,283,289,290,296,297]
def vw:Program:={ p with main:={ p.main with body:=[top 1,top 2,top 4,top 5,top 6,top 7,top 9,top 10,top 11,top 12,top 13,top 14,top 15,top 16,top 17,top 18,top 19,top 20,top 21,top 22,top 23,top 25,top 26,top 27,top 28,top 29,top 30,top 31,top 32,top 33,top 34,top 35,top 36,top 37,top 38,top 39,top 40,top 41,top 42,top 43,top 44,top 45,top 46,top 47] } }
def K0:Params->Frag:=fun P=>(nat_lit 0,b0 P)::(nat_lit 1,b1 P)::(nat_lit 2,b2 P)::(nat_lit 3,xd4 P)::(nat_lit 4,b4 P)::(nat_lit 5,b5 P)::(nat_lit 6,b6 P)::(nat_lit 7,b7 P)::(nat_lit 8,b8 P)::(nat_lit 9,b9 P)::(nat_lit 10,b10 P)::(nat_lit 13,xac P)::(nat_lit 23,xag P)::(nat_lit 24,xa0 P)::(nat_lit 25,xaj P)::(nat_lit 36,xa3 P)::(nat_lit 37,xax P)::(nat_lit 40,xa1 P)::(nat_lit 41,xaw P)::(nat_lit 47,xar P)::(nat_lit 48,xaz P)::(nat_lit 54,xa8 P)::(nat_lit 55,xat P)::(nat_lit 61,xbw P)::(nat_lit 62,xcn P)::(nat_lit 68,xb5 P)::(nat_lit 69,xbs P)::(nat_lit 75,xbi P)::(nat_lit 76,xb8 P)::(nat_lit 82,xcb P)::(nat_lit 83,xbh P)::(nat_lit 89,xbr P)::(nat_lit 90,xch P)::(nat_lit 96,xbz P)::(nat_lit 97,xbm P)::(nat_lit 101,xbu P)::(nat_lit 102,xcj P)::(nat_lit 106,xcf P)::(nat_lit 107,xbj P)::(nat_lit 113,xbo P)::(nat_lit 114,xcc P)::(nat_lit 118,xcl P)::(nat_lit 119,xbe P)::(nat_lit 125,xby P)::(nat_lit 126,xco P)::(nat_lit 132,xb6 P)::(nat_lit 133,xbt P)::(nat_lit 137,xbp P)::(nat_lit 138,xce P)::(nat_lit 144,xdg P)::(nat_lit 145,xc1 P)::(nat_lit 151,xcv P)::(nat_lit 152,xdi P)::(nat_lit 158,xd1 P)::(nat_lit 159,xcr P)::(nat_lit 165,xc8 P)::(nat_lit 166,xdx P)::(nat_lit 172,xdp P)::(nat_lit 173,xdc P)::(nat_lit 177,xc3 P)::(nat_lit 178,xdt P)::(nat_lit 184,xdk P)::(nat_lit 185,xc6 P)::(nat_lit 191,xcq P)::(nat_lit 192,xdf P)::(nat_lit 198,xdw P)::(nat_lit 199,xcu P)::(nat_lit 205,xdb P)::(nat_lit 206,xd0 P)::(nat_lit 210,xds P)::(nat_lit 211,xcy P)::(nat_lit 217,xc5 P)::(nat_lit 218,xdv P)::(nat_lit 222,xd2 P)::(nat_lit 223,xcs P)::(nat_lit 229,xen P)::(nat_lit 230,xe8 P)::(nat_lit 234,xe4 P)::(nat_lit 235,xee P)::(nat_lit 239,xd7 P)::(nat_lit 240,xet P)::(nat_lit 246,xfa P)::(nat_lit 247,xea P)::(nat_lit 251,xeg P)::(nat_lit 252,xez P)::(nat_lit 254,xg P)::(nat_lit 258,xe0 P)::(nat_lit 259,xeb P)::(nat_lit 263,xd8 P)::(nat_lit 264,xeu P)::(nat_lit 270,xfb P)::(nat_lit 271,xd6 P)::(nat_lit 277,xeo P)::(nat_lit 278,xe9 P)::(nat_lit 282,xe5 P)::(nat_lit 283,xef P)::(nat_lit 289,xei P)::(nat_lit 290,xe1 P)::(nat_lit 296,xev P)::(nat_lit 297,xej P)::[]
abbrev lamC:Nat:=258
abbrev lamT:Nat:=254
abbrev lamO:Ob:=xe0
abbrev ls:List Str:=[Str.ofString "TURNED_KINDS"]
abbrev Xt:Shared->Bool:=fun s=>xlAt vw [] s&&recOk (RowW.records rr.row.toRowW) s
theorem amc(w:World):((boot_heap w.params).isNs mainGlobals&&(#[]:Array GenState).size==0,(boot_heap w.params).objs.size,(boot_heap w.params).nsMap mainGlobals "__annotations__")=(true,11,an):=by kernel_rfl
theorem aqc:opening p=plainProg p.main.scope.names:=by kernel_rfl
theorem at9(s:Shared):fenceModules? p s=some s:=by kernel_rfl
theorem lk1(w:World):(fun os=>(staticsOk (importedModules p.main.body) (boot_heap w.params) (hpZ w.params)&&namesBound p (hpZ w.params)&&gensDone (sZ w os)&&laidKept (boot_heap w.params) (hpZ w.params)))=fun _=>true:=by kernel_rfl
theorem vT(w:World):(fun os=>openSeen vw ls (importedModules p.main.body) Xt true (sZ w os))=fun _=>openGood vw ls:=by kernel_rfl
theorem lk3(w:World):(fun os=>obsZ as0 (sZ w os))=fun _=>valZ K0 298 590 w:=by kernel_rfl
theorem left_:LeftO p vw ls Xt (obsZ as0) (valZ K0 298 590) 3562:=LeftO.of_pieces (boot_open aqc rfl at9) amc aq5 rfl fun w=>funext fun os=>looks_pair (CT (lk1 w) os) (looks_pair (CT (vT w) os) (CT (lk3 w) os))
end
end H13
open PySem PySem.W PyProof.Rows
set_option maxRecDepth 100000 in
set_option maxHeartbeats 0 in
theorem PySem.Challenge.cw_oncewise_k13_sound_webs_holds : PySem.Challenge.rw_oncewise_k13_sound_webs.Holds := by
 w_on;refine holds_law (by unfold OpenLaw.wellSaid OpenRow.wellSaid OpenRow.partSaid looksOpen;walk_at "y";walk_at "y";walk_at "y";walk_at "y";walk_at "y";walk_at "y";all_goals decide +kernel) fun said=>?_
 refine holds_openX (q:=H13.vw) (loose:=H13.ls) (Xt:=H13.Xt) (XP:=XL H13.vw []) (Yf:=PySem.W.X.obsZ H13.as0) (Ya:=PySem.W.X.valZ H13.K0 298 590) (N:=3562) H13.left_ (fun s e=>xl_of s (Bool.and_eq_true_iff.mp e).1)
  XL.keeps (by rfl) (by rfl) (by rfl) (fun s e=>recFacts_of (Bool.and_eq_true_iff.mp e).2)
  (by rfl) (by decide +kernel) (by decide +kernel) ⟨rfl,rfl,rfl,rfl,rfl,by decide +kernel⟩ ?hw ?hc
 case hw=>w_witness2
 k_fill
 refine L2.walk_ofZT (l:=PySem.Challenge.rw_oncewise_k13_sound_webs) (n:=63) (k:=131) (x:="_law_script") (CX:=L2.CX0) (sp:=L3.spTopT L3.lamQ) rfl (by decide) rfl ⟨rfl,by decide,by decide⟩ (fun _=>rfl) (by decide) ?F ?S ?C
 case F=>
  intro w mg fa h KX G hmg;have T:(H13.K0 w.params).lookup H13.lamT=some (PySem.W.tabObj #[]):=by k_is
  have hc:(H13.K0 w.params).lookup H13.lamC=some (H13.lamO w.params):=by k_is
  have hd:∀h:Heap,h.get? H13.lamC=some (H13.lamO w.params)->PySem.W.CodeHd h H13.lamC H13.lamT:=fun h e=>⟨_,_,_,_,_,_,_,_,_,e,rfl,rfl,rfl,rfl,rfl,rfl,rfl,rfl,by decide⟩;have hb:(H13.K0 w.params).lookup 4=some (PySem.W.boot_o_4 w.params):=by k_is
  have DT:L3.DefInT (L2.lessK H13.lamT (H13.K0 w.params)) "_law_order" K13.s__law_order H13.lamT:=by
   refine' K13.def_inT (L2.ns_dn T ?a) (L2.lk_dn T ?l ?n) (L2.code_dn T ?c) (L2.keep_dn T ?k) ?LC
   (case a=>k_is);(case l=>k_is);(case n=>(intro e;cases e));(case c=>k_is);(case k=>k_is)
   refine'⟨⟨H13.lamC,_,rfl,L2.lk_dn T hc ?m,hd⟩,⟨4,_,L2.ns_dn T ?b,by decide,by decide,L2.lk_dn T hb ?p,rfl,rfl,rfl⟩⟩
   (case m=>(intro e;cases e));(case b=>k_is);(case p=>(intro e;cases e))
  refine⟨H13.lamT,⟨T,⟨H13.lamC,fun h X=>hd h (X _ _ hc)⟩,by decide⟩,?_⟩;refine' K13.all_mk (K:=L2.lessK H13.lamT (H13.K0 w.params)) (L2.lessK_in KX) G hmg ?D0 ?D1 ?D2 ?D3 ?D4 ?D5 ?D6 ?D7 ?D8 ?D9 ?D10 ?D11 ?D12 ?D13 ?D14 ?D15 ?D16 ?D17 ?D18 ?D19 ?D20 ?D21 ?D22 ?D23 ?D24 ?D25 ?D26 ?D27 ?D28 ?D29 ?D30 ?D31 ?D32 ?D33 ?D34 ?D35 ?D36 ?D37 ?D38 ?D39 ?aLEAF_KINDS ?lLEAF_KINDS ?aTURNED_KINDS ?lTURNED_KINDS ?hTURNED_KINDS ?zlen ?zset ?zall ?zrange ?zany ?zenumerate ?zsorted ?zisinstance ?zbool ?zlist ?ztuple ?zzip ?zint ?zstr ?zmax ?zmin
  (case D0 | D1 | D2 | D3 | D4 | D5 | D6 | D7 | D8 | D9 | D10 | D11 | D12 | D13 | D14 | D15 | D16 | D17 | D18 | D19 | D20 | D21 | D22 | D23 | D24 | D25 | D26 | D27 | D28 | D29 | D30 | D31 | D32 | D34 | D35 | D36 | D37 | D38 | D39=>refine' L2.def_in (L2.ns_dn T ?a) (L2.lk_dn T ?l ?n) (L2.code_dn T ?c) (L2.keep_dn T ?k);(case a=>k_is);(case l=>k_is);(case n=>(intro e;cases e));(case c=>k_is);(case k=>k_is))
  (case D33=>exact DT)
  (case aLEAF_KINDS=>(refine' L2.ns_dn T ?_;k_is))
  (case lLEAF_KINDS=>(refine' L2.lk_dn T ?x ?n;(case x=>k_is);(case n=>(intro e;cases e))))
  (case aTURNED_KINDS=>(refine' L2.ns_dn T ?_;k_is))
  (case lTURNED_KINDS=>(refine' L2.lk_dn T ?x ?n;(case x=>k_is);(case n=>(intro e;cases e))))
  (case hTURNED_KINDS=>rfl)
  (case zlen | zset | zall | zrange | zany | zenumerate | zsorted | zisinstance | zbool | zlist | ztuple | zzip | zint | zstr | zmax | zmin=>(refine' L2.ns_dn T ?_;k_is))
 case S=>exact L3.top_startT
 case C=>exact fun _ _ _ _ z=>z
#print axioms PySem.Challenge.cw_oncewise_k13_sound_webs_holds
