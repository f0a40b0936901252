import PyProof.Rows.All
import Wide.All
import OpenK.AllK
import Wide.FinOn
import Lean
import PyProof.EqAt
import PyProof.EqKinds
import PyProof.TupleCall
import PyProof.NeKinds
import PySem.Challenge.RW_oncewise_k23_web_of_a_tree
import OpenK.ZGo
set_option genSizeOf false
set_option bootstrap.genMatcherCode false
set_option compiler.extract_closed false
set_option hygiene false
local macro_rules | `(tactic| walk_at "t")=>`(tactic| (first | assumption | exact Nat.succ_pos _ | exact qx.tk (by assumption) | exact Nat.lt_of_lt_of_le (qx.tk (by assumption)) (Nat.le_add_right _ _) | exact Nat.lt_of_lt_of_le (qx.tk (by assumption)) (by assumption)))
set_option hygiene true
local macro_rules | `(tactic| walk_at "w")=>`(tactic| conv=>whnf)
local macro_rules | `(tactic| walk_at "y")=>`(tactic| ((refine PySem.W.look_both ?_ ?_);(refine PySem.W.look_both ?_ ?_);(refine PySem.W.look_both ?_ ?_);(refine PySem.W.look_both ?_ ?_);(refine PySem.W.look_both ?_ ?_);(refine PySem.W.look_both ?_ ?_)))
set_option Elab.async false
set_option linter.all false
set_option maxRecDepth 100000
abbrev Aa:=@PySem.wpAny_bind
abbrev Ab:=@PyProof.Rows.wpS_bind
abbrev Ac:=@List.length_append
abbrev Ad:=@PyProof.Rows.wpS_pure
abbrev Ae:=@List.length_map
abbrev Af:=@List.mem_append_right
abbrev Ag:=@List.mem_cons_of_mem
abbrev Ah:=@PySem.wpAny_pure
abbrev Ai:=@PySem.W.Frag
abbrev Aj:=@List.getElem?_eq_getElem
abbrev Ak:=@List.mem_singleton
abbrev Al:=@List.mem_append
abbrev Am:=@List.size_toArray
abbrev An:=@Nat.le_refl
abbrev Ao:=@List.nodup_append
abbrev Ap:=@List.mem_cons_self
abbrev Aq:=@List.getElem?_map
abbrev Ar:=@List.mem_append_left
abbrev Au:=@List.getElem?_append_right
abbrev Av:=@List.mem_cons
abbrev Aw:=@List.nodup_cons
abbrev Ax:=@decide_eq_false
abbrev Ay:=@Option.map_eq_some_iff
abbrev Az:=@if_neg
abbrev AA:=@List.flatMap_append
abbrev AB:=@if_pos
abbrev AC:=@Bool.false_ne_true
abbrev AD:=@List.append_assoc
abbrev AE:=@List.getElem?_append_left
abbrev AF:=@List.map_cons
abbrev AG:=@List.map_append
abbrev AH:=@decide_eq_true
abbrev AI:=@PyProof.Rows.wpS_forRange
abbrev AJ:=@List.perm_ext_iff_of_nodup
abbrev AK:=@List.length_cons
abbrev AL:=@Array.length_toList
abbrev AM:=@Ne.symm
abbrev AN:=@List.length_take
abbrev AO:=@List.mem_of_getElem?
abbrev AQ:=@List.append_nil
abbrev AR:=@Nat.lt_of_lt_of_le
abbrev AS:=@List.mem_filter
abbrev AU:=@List.pairwise_append
abbrev AV:=@PyProof.Rows.wpS_mono
abbrev AW:=@Nat.le_trans
abbrev AX:=@List.mem_map
abbrev AY:=@PySem.wpAny_mono
abbrev AZ:=@List.take_of_length_le
abbrev A1:=@List.flatMap_cons
abbrev A2:=@List.getElem?_eq_some_iff
abbrev A3:=@List.mem_flatMap
abbrev A4:=@Option.some.inj
abbrev A5:=@Nat.le_add_right
abbrev A6:=@Array.getElem?_toList
abbrev A7:=@Int.natCast_nonneg
abbrev A8:=@PySem.wpAny_holding
abbrev A9:=@Array.toList_append
abbrev Ba:=@List.getElem_of_mem
abbrev Bb:=@List.mem_range
abbrev Bc:=@Bool.and_eq_true
abbrev Bd:=@Nat.ne_of_lt
abbrev Be:=@List.take_append_drop
abbrev Bf:=@Nat.zero_le
abbrev Bg:=@PySem.wpAny_field
abbrev Bh:=@PySem.W.mg_none_of
abbrev Bi:=@List.take_succ
abbrev Bj:=@List.perm_append_right_iff
abbrev Bk:=@Array.size_push
abbrev Bl:=@List.filter_cons
abbrev Bm:=@List.map_map
abbrev Bn:=@PySem.W.kia_one
abbrev Bo:=@List.find?_cons
abbrev Bp:=@PySem.wpAny_newObj_type
abbrev Bq:=@List.length_drop
abbrev Br:=@List.getD_eq_getElem?_getD
abbrev Bs:=@List.lookup_cons
abbrev Bt:=@List.take_length
abbrev Bu:=@List.getElem_take
abbrev Bv:=@List.perm_append_left_iff
abbrev Bw:=@PySem.wpAny_rule
abbrev Bx:=@List.not_mem_nil
abbrev Bz:=@PySem.mem_of_lookup
abbrev BA:=@Int.toNat_natCast
abbrev BB:=@List.getElem?_set_ne
abbrev BC:=@PySem.wpAny_seqItems
abbrev BD:=@List.mem_of_mem_take
abbrev BE:=@List.filter_append
abbrev BF:=@List.perm_append_comm
abbrev BG:=@List.Perm.refl
abbrev BH:=@Nat.le_of_lt
abbrev BI:=@Bool.eq_iff_iff
abbrev BJ:=@Int.le_trans
abbrev BK:=@Bool.false_eq_true
abbrev BL:=@List.nodup_range
abbrev BM:=@List.length_range
abbrev BN:=@Array.size_append
abbrev BO:=@Int.le_of_lt
abbrev BP:=@List.pairwise_map
abbrev BQ:=@List.drop_eq_getElem_cons
abbrev BR:=@congrArg
abbrev BS:=@List.getElem?_eq_none
abbrev BU:=@Nat.lt_succ_self
abbrev BV:=@Int.ofNat_inj
abbrev BW:=@Nat.le_succ
abbrev BX:=@Nat.add_sub_cancel_left
abbrev BY:=@List.getElem?_set_self
abbrev BZ:=@PyProof.Rows.callWith_type1
abbrev B1:=@List.getElem_cons_drop
abbrev B3:=@List.perm_append_singleton
abbrev B4:=@List.append_of_mem
abbrev B5:=@List.pairwise_iff_getElem
abbrev B6:=@List.sublist_append_right
abbrev B7:=@List.length_set
abbrev B8:=@List.length_zip
abbrev B9:=@PySem.W.look_both
abbrev Ca:=@Nat.le_succ_of_le
abbrev Cb:=@List.getElem_drop
abbrev Cc:=@Nat.lt_succ_of_lt
abbrev Cd:=@List.any_cons
abbrev Ce:=@List.Pairwise.imp_of_mem
abbrev Cf:=@PyProof.Rows.slot_tuple_getitem
abbrev Cg:=@List.map_congr_left
abbrev Ci:=@List.mem_map_of_mem
abbrev Cj:=@List.perm_iff_count
abbrev Ck:=@List.eraseIdx_cons_succ
abbrev Cm:=@List.getElem_mem
abbrev Cn:=@Int.mul_le_mul_of_nonneg_right
abbrev Co:=@List.take_append_of_le_length
abbrev Cp:=@Nat.lt_of_le_of_lt
abbrev Cq:=@List.pairwise_cons
abbrev Cr:=@Int.zero_add
abbrev Cs:=@List.flatMap_singleton
abbrev Ct:=@List.nil_append
abbrev Cu:=@Nat.le_add_left
abbrev Cv:=@Nat.min_eq_left
abbrev Cw:=@List.length_replicate
abbrev Cy:=@Option.isSome_map
abbrev Cz:=@Array.toList_push
abbrev CA:=@List.flatten_cons
abbrev CB:=@List.count_append
abbrev CC:=@List.mem_of_mem_drop
abbrev CD:=@Array.toList_reverse
abbrev CF:=@Nat.le_sub_one_of_lt
abbrev CG:=@List.all_eq_true
abbrev CH:=@Nat.sub_self
abbrev CI:=@List.perm_middle
abbrev CK:=@List.getElem?_range
abbrev CL:=@List.reverse_append
abbrev CM:=@List.flatten_append
abbrev CN:=@PySem.W.mg_of
abbrev CO:=@List.cons.inj
abbrev CP:=@List.sublist_append_left
abbrev CQ:=@List.forIn_cons
abbrev CS:=@Array.size_extract
abbrev CT:=@List.getElem?_replicate
abbrev CU:=@List.getElem?_cons_succ
abbrev CV:=@List.length_eraseIdx_le
abbrev CW:=@Int.le_refl
abbrev CY:=@List.eraseIdx_append_of_length_le
abbrev CZ:=@Nat.succ_pos
abbrev C0:=@Nat.ne_of_gt
abbrev C1:=@List.map_nil
abbrev C2:=@Bool.and_false
abbrev C3:=@List.drop_drop
abbrev C4:=@List.drop_left
abbrev C5:=@List.mem_range'_1
abbrev C6:=@List.Sublist.refl
abbrev C7:=@List.eraseIdxIfInBounds_toArray
abbrev C8:=@List.length_singleton
abbrev C9:=@Nat.le_of_ble_eq_true
abbrev Dc:=@List.singleton_append
abbrev Dd:=@Nat.max_eq_right
abbrev De:=@List.flatMap_nil
abbrev Df:=@decide_eq_decide
abbrev Dg:=@Nat.lt_irrefl
abbrev Dh:=@List.drop_append_of_le_length
abbrev Di:=@List.eq_nil_of_length_eq_zero
abbrev Dj:=@Nat.not_succ_lt_self
abbrev Dk:=@List.getElem?_of_mem
abbrev Dl:=@List.of_mem_zip
abbrev Dm:=@Nat.max_eq_left
abbrev Dn:=@List.filter_nil
abbrev Do:=@List.filterMap_cons
abbrev Dp:=@Int.add_mul_emod_self_right
abbrev Dq:=@Nat.lt_or_eq_of_le
abbrev Dr:=@List.getElem?_take
abbrev Ds:=@List.getElem?_drop
abbrev Dt:=@List.zip_cons_cons
abbrev Du:=@List.nodup_nil
abbrev Dv:=@PySem.F.slot_dict_getitem
abbrev Dw:=@List.getElem?_zip_eq_some
abbrev Dx:=@PySem.W.kitx_list
abbrev Dy:=@List.take_sublist
abbrev Dz:=@List.ext_getElem?
abbrev DA:=@List.nodup_range'
abbrev DB:=@Bool.not_eq_true'
abbrev DC:=@List.getElem?_take_of_lt
abbrev DD:=@List.all_cons
abbrev DE:=@List.getElem_append_left
abbrev DF:=@List.Perm.eq_of_pairwise
abbrev DG:=@PySem.F.plainAttrs_list
abbrev DH:=@List.zipIdx_cons
abbrev DI:=@List.range'_succ
abbrev DJ:=@Array.toList_inj
abbrev DK:=@Array.toList_map
abbrev DL:=@List.getElem?_set_self'
abbrev DM:=@congrFun
abbrev DN:=@PySem.W.cellsFrom_some
abbrev DO:=@Nat.zero_add
abbrev DP:=@Nat.lt_or_ge
abbrev DQ:=@Bool.not_not
abbrev DR:=@Bool.or_eq_true
abbrev DS:=@beq_false_of_ne
abbrev DU:=@List.range_succ
abbrev DV:=@Int.emod_nonneg
abbrev DW:=@List.forIn_nil
abbrev DX:=@List.drop_zero
abbrev DY:=@Array.size_map
abbrev DZ:=@Bool.and_true
abbrev Eb:=@Nat.add_assoc
abbrev Ec:=@Nat.sub_le
noncomputable section
namespace L2
open PySem PyProof.Rows
theorem gQ{M:Model}{Γ:Ctx}{p:Pos}{t:Sem Fin}{fs:List Frame}{s s':Shared}{e:End}(h:Runs M Γ p t fs s e s'):s.toks≤s'.toks:=by induction h with|fresh _ ih=>exact AW (BW _) ih|call _ _ ih1 ih2=>exact AW ih1 ih2|resumeFresh _ _ _ _ ih1 ih2=>exact AW ih1 ih2|resumeSuspended _ _ _ _ ih1 ih2=>exact AW ih1 ih2|segRet _ _ ih1 ih2=>exact AW ih1 ih2|segGen _ _ ih1 ih2=>exact AW ih1 ih2|segSuspGen _ _ _ _ ih1 ih2=>exact AW ih1 ih2|_=>first | exact An _ | assumption
theorem rZ{M:Model}{Γ:Ctx}{p:Pos}{g:Nat}{r:Resume}{s s':Shared}{res:GenResult}(h:Wakes M Γ p g r s res s'):s.toks≤s'.toks:=by
 unfold Wakes at h;split at h
 ·exact h.elim
 ·split at h
  ·obtain⟨e,s1,hr,_,_,rfl⟩:=h;have q:=gQ hr;exact q
  ·obtain⟨_,rfl⟩:=h;exact An _
  ·obtain⟨_,rfl⟩:=h;exact An _
 ·obtain⟨e,s1,hr,_,_,rfl⟩:=h;have q:=gQ hr;exact q
 ·obtain⟨_,rfl⟩:=h;exact An _
 ·obtain⟨_,rfl⟩:=h;exact An _
theorem ad7{α:Type}{M:Model}{Γ:Ctx}(t:Sem α):∀{Q:α->Pos->Shared->Prop} {E:Value->Pos->Shared->Prop} {p:Pos} {s:Shared} (n:Nat),n≤s.toks->Sem.wp M Γ t Q E p s->Sem.wp M Γ t (fun a p' s'=>Q a p' s'/\n≤s'.toks) (fun e p' s'=>E e p' s'/\n≤s'.toks) p s:=by induction t with|pure a=>intro Q E p s n hn h;exact⟨h,hn⟩|raise e=>intro Q E p s n hn h;exact⟨h,hn⟩|load a part k ih=>intro Q E p s n hn ⟨o,h1,h2⟩;exact⟨o,h1,ih o n hn h2⟩|update a part f k ih=>intro Q E p s n hn ⟨h1,h2⟩;exact⟨h1,ih () n hn h2⟩|fresh k ih=>intro Q E p s n hn h;exact ih s.toks n (AW hn (BW _)) h|choose src m k ih=>intro Q E p s n hn ⟨h1,h2⟩;exact⟨h1,ih _ n hn h2⟩|call c hd g l k ih=>intro Q E p s n hn ⟨r,s',h1,h2⟩;exact⟨r,s',h1,ih r n (AW hn (gQ h1)) h2⟩|genState g k ih=>intro Q E p s n hn ⟨st,h1,h2⟩;exact⟨st,h1,ih _ n hn h2⟩|resume g r l k ih=>intro Q E p s n hn ⟨res,s',h1,h2⟩;exact⟨res,s',h1,ih _ n (AW hn (rZ h1)) h2⟩|rule tag k ih=>intro Q E p s n hn h;exact ih () n hn h|«at» pos k ih=>intro Q E p s n hn h;exact ih () n hn h|alloc o k ih=>intro Q E p s n hn h;exact ih _ n hn h|loadIfAlive a k ih=>intro Q E p s n hn h;exact ih _ n hn h|point l k ih=>intro Q E p s n hn h;exact ih _ n hn h|ask k ih=>intro Q E p s n hn h;exact ih _ n hn h|os q l k ih=>intro Q E p s n hn h;exact ih _ n hn h|handled own k ih=>intro Q E p s n hn h;exact ih _ n hn h|newGen c k ih=>intro Q E p s n hn h;exact ih _ n hn h|stack k ih=>intro Q E p s n hn h;exact ih _ n hn h|thread k ih=>intro Q E p s n hn h;exact ih _ n hn h|unsupported w=>intro Q E p s n hn h;exact h.elim|finish e=>intro Q E p s n hn h;exact h.elim|register a k ih=>intro Q E p s n hn h;exact h.elim|yield v g l k ih=>intro Q E p s n hn h;exact h.elim|fork c k ih=>intro Q E p s n hn h;exact h.elim|await a f d l k ih=>intro Q E p s n hn h;exact h.elim
theorem sw{α:Type}{M:Model}{A:Around}{t:Sem α}{Q:α->Shared->Prop}{E:Value->Shared->Prop}{s:Shared}(h:wpAny M A t Q E s):wpAny M A t (fun a s'=>Q a s'/\s.toks≤s'.toks) (fun e s'=>E e s'/\s.toks≤s'.toks) s:=
 fun Γ p hΓ=>ad7 t s.toks (An _) (h Γ p hΓ)
theorem jr{α:Type}{M:Model}{A:Around}{t:Sem α}{Q:α->Shared->Prop}{E:Value->Shared->Prop}{s:Shared}(hp:0<s.toks)(h:wpAny M A t (fun a s'=>0<s'.toks->Q a s') (fun e s'=>0<s'.toks->E e s') s):wpAny M A t Q E s:=
 AY (sw h) (fun _ _ z=>z.1 (AR hp z.2)) fun _ _ z=>z.1 (AR hp z.2)
end L2
variable {M:PySem.Model}{apos cpos kpos p p1 p2 p3 p4 p5 pos pos' tp:PySem.Pos}{t t1 t2:Bool}{s s':PySem.Shared}{c e elt o target tg value:PySem.Expr}{α β κ:Type}{A:PySem.Around}{E Q:PySem.Value->PySem.Shared->Prop}{its us vs:List PySem.Value}{cdv doc oc pm u:PySem.Value}{base h h':PySem.Heap}{d i j m n na t' x1:Nat}{ch fp:List PySem.Addr}{C Pt dx f fa it ka l l1 l2 pa:PySem.Addr}{kx name px q qual x:PySem.Str}{pins:List (PySem.Addr×PySem.Obj)}{st:PySem.Stmt}{elts es ifs:List PySem.Expr}{body:List PySem.Stmt}{B lo:Int}{F tk:List Nat}{mA mg:PySem.Str->Option PySem.Value}{fd:PySem.FuncData}{ps:List PySem.Str}{lscope scope:PySem.Scope}{ct lk:List (Nat×Nat)}{an od:Option PySem.Addr}{osl:Array (Option PySem.Value)}{prog:PySem.Program}{env:PySem.Env}{rks:List Int}
namespace L2
open PySem PySem.Spec PyProof.Rows
abbrev j3:=Sum Int Str
def lG:j3->Value->Bool
 |.inl k,v=>Value.isInt k v
 |.inr x,v=>Value.isStrOf x v
def amh(w:World):j3->Int
 |.inl k=>hashInt k
 |.inr x=>hashStr w x
theorem xh:∀{k:j3} {v:Value},lG k v=true->(∃i t,k=Sum.inl i/\v=Value.int i t)\/(∃x t,k=Sum.inr x/\v=Value.str x t)
 |.inl i,v,h=>by obtain⟨t,e⟩:=Value.isInt_shape (k:=i) (v:=v) h;exact .inl ⟨i,t,rfl,e⟩
 |.inr x,v,h=>by obtain⟨t,e⟩:=Value.isStrOf_shape (x:=x) (v:=v) h;exact .inr ⟨x,t,rfl,e⟩
theorem wQ(i:Int)(t:Tok):lG (.inl i) (.int i t)=true:=by simp[lG,Value.isInt]
theorem gU(x:Str)(t:Tok):lG (.inr x) (.str x t)=true:=by simp[lG,Value.isStrOf]
theorem ahs(a b:Int):decide ((Sum.inl a:j3)=Sum.inl b)=(a==b):=by
 by_cases e:a=b
 ·subst e;simp
 ·have h:¬(Sum.inl a:j3)=Sum.inl b:=fun q=>e (Sum.inl.inj q);rw[Ax h];exact(beq_eq_false_iff_ne.mpr e).symm
theorem ahl(a b:Str):decide ((Sum.inr a:j3)=Sum.inr b)=decide (a=b):=by
 by_cases e:a=b
 ·subst e;simp
 ·have h:¬(Sum.inr a:j3)=Sum.inr b:=fun q=>e (Sum.inr.inj q);rw[Ax h,Ax e]
theorem af7(a:Int)(b:Str):decide ((Sum.inl a:j3)=Sum.inr b)=false:=Ax (fun q=>nomatch q)
theorem agv(a:Str)(b:Int):decide ((Sum.inr a:j3)=Sum.inl b)=false:=Ax (fun q=>nomatch q)
def xa(prog:Program)(w:World):PySem.KeyKind prog w j3 where
 is:=lG
 hash:=amh w
 inj:=fun v a b ha hb=>by
  rcases xh ha with⟨i,t,rfl,rfl⟩ | ⟨x,t,rfl,rfl⟩
  ·rcases xh hb with⟨j,u,rfl,e⟩ | ⟨y,u,rfl,e⟩
   ·injection e with e1 _;rw[e1]
   ·exact nomatch e
  ·rcases xh hb with⟨j,u,rfl,e⟩ | ⟨y,u,rfl,e⟩
   ·exact nomatch e
   ·injection e with e1 _;rw[e1]
 byValue:=fun k v h=>by rcases xh h with⟨i,t,rfl,rfl⟩ | ⟨x,t,rfl,rfl⟩<;>rfl
 pyHash:=fun hv h=>by
  rcases xh hv with⟨i,t,rfl,rfl⟩ | ⟨x,t,rfl,rfl⟩
  ·exact wpAny_pyHash_int h
  ·exact wpAny_pyHash_str h
 eqBool:=fun hu hv h=>by
  rcases xh hu with⟨i,t,rfl,rfl⟩ | ⟨x,t,rfl,rfl⟩
  ·rcases xh hv with⟨j,u,rfl,rfl⟩ | ⟨y,u,rfl,rfl⟩
   ·rw[ahs] at h;exact wpAny_eqBool_int h
   ·rw[af7] at h;exact SeqAt.EqAt.int_str i t y u _ _ _ _ h
  ·rcases xh hv with⟨j,u,rfl,rfl⟩ | ⟨y,u,rfl,rfl⟩
   ·rw[agv] at h;exact SeqAt.EqAt.str_int x t j u _ _ _ _ h
   ·rw[ahl] at h;exact wpAny_eqBool_str h
 «strs» := fun k x t v h=>by
  rcases xh h with⟨i,u,rfl,e⟩ | ⟨y,u,rfl,e⟩
  ·exact nomatch e
  ·injection e with e1 _
   subst e1;cases v<;>rfl
theorem pi(prog:Program)(w:World)(i:Int)(t:Tok):(xa prog w).is (.inl i) (.int i t)=true:=wQ i t
theorem rM(prog:Program)(w:World)(x:Str)(t:Tok):(xa prog w).is (.inr x) (.str x t)=true:=gU x t
inductive V where
 |non | bl (b:Bool) | int (i:Int) | str (x:Str) | byt (b:Array UInt8) | flt (b:UInt64) | ref (a:Addr) | ty (n:String)
 deriving DecidableEq
def zk:V->Value->Prop
 |.non,u=>u=Value.none
 |.bl b,u=>u=Value.bool b
 |.int i,u=>∃t,u=Value.int i t
 |.str x,u=>∃t,u=Value.str x t
 |.byt b,u=>∃t,u=Value.bytes b t
 |.flt b,u=>∃t,u=Value.float b t
 |.ref a,u=>u=Value.ref a
 |.ty n,u=>u=Value.type n
abbrev ze:List V->List Value->Prop:=Paired zk
theorem ze.length{xs:List V}(r:ze xs us):xs.length=us.length:=Paired.length r
theorem ze.get:∀{xs:List V} {us:List Value} {i:Nat} {x:V},ze xs us->xs[i]?=some x->∃u,us[i]?=some u/\zk x u
 |_,_,_,_,.nil,e=>by simp at e
 |_,_,0,_,.cons r _,e=>by simp at e;subst e;exact⟨_,rfl,r⟩
 |_,_,i+1,x,.cons _ t,e=>by obtain⟨u,h1,h2⟩:=ze.get (i:=i) (x:=x) t (by simpa using e);exact⟨u,by simpa using h1,h2⟩
theorem ze.set{x:V}{u:Value}(r:zk x u):∀{xs:List V} {us:List Value} (i:Nat),ze xs us->ze (xs.set i x) (us.set i u)
 |_,_,_,.nil=>.nil
 |_,_,0,.cons _ t=>.cons r t
 |_,_,i+1,.cons q t=>.cons q (ze.set r i t)
theorem ze.append:∀{xs ys:List V} {us ws:List Value},ze xs us->ze ys ws->ze (xs++ys) (us++ws)
 |_,_,_,_,.nil,s=>s
 |_,_,_,_,.cons r t,s=>.cons r (ze.append t s)
theorem ze.take:∀{xs:List V} {us:List Value} (n:Nat),ze xs us->ze (xs.take n) (us.take n)
 |_,_,0,_=>.nil
 |_,_,_+1,.nil=>.nil
 |_,_,n+1,.cons r t=>.cons r (ze.take n t)
theorem ze.drop:∀{xs:List V} {us:List Value} (n:Nat),ze xs us->ze (xs.drop n) (us.drop n)
 |_,_,0,r=>r
 |_,_,_+1,.nil=>.nil
 |_,_,n+1,.cons _ t=>ze.drop n t
def gH:Option V->Option Value->Prop
 |some v,some u=>zk v u
 |none,none=>True
 |_,_=>False
def KV :List (κ×V)->List (κ×Value)->Prop:=Paired fun(p:κ×V) (q:κ×Value)=>p.1=q.1/\zk p.2 q.2
def kV:j3->V
 |.inl i=>.int i
 |.inr x=>.str x
inductive HO where
 |lst (xs:List V)
 |tup (xs:List V)
 |dK (kvs:List (j3×V)) | dT (kvs:List (List j3×V))
 |set (S:Int->Bool) (n:Nat)
 |ins (C dx:Addr) (fs:List (Str×V))
 |own (x:Addr)
 |xd (fs:List (Str×V))
 |met (f x:Addr)
 |rng (lo hi:Int)
 |frz (o:Obj) (u:HO)
 |tbl (ps:Array Value)
 |ext (φ:Heap->Prop)
abbrev Hp:=Addr->Option HO
def upd(H:Hp)(a:Addr)(o:HO):Hp:=fun b=>if b=a then some o else H b
theorem j4{H:Hp}{a:Addr}{o:HO}:upd H a o a=some o:=by unfold upd;rw[AB rfl]
theorem qr{H:Hp}{a b:Addr}{o:HO}(h:b≠a):upd H a o b=H b:=by unfold upd;rw[Az h]
theorem ae2{H:Hp}{a:Addr}{o u:HO}:upd (upd H a o) a u=upd H a u:=by funext b;unfold upd;split<;>rfl
theorem aj6{H:Hp}{a b:Addr}{o u:HO}(h:H a=some o)(h':H b=some u)(d:o≠u):a≠b:=by intro e;subst e;rw[h] at h';exact d (A4 h')
theorem zq{H:Hp}{a b:Addr}{o:HO}(h:H a=some o)(h':H b=none):a≠b:=by intro e;subst e;rw[h] at h';cases h'
section
variable (P:Program)(w:World)
def xg(H:Hp)(h:Heap)(a:Addr):HO->Prop
 |.lst xs=>xs.length≤sizeLine/\∃(its:List Value) (n:Nat),ze xs its/\h.get? a=some { cls:=.type "list",data:=.seq its.toArray n }
 |.tup xs=>xs.length≤sizeLine/\∃its:List Value,ze xs its/\IsTup h a its.toArray
 |.dK kvs=>kvs.length≤sizeLine/\(a==sysModules)=false/\∃vs,KV kvs vs/\h.DictOf (xa P w) a vs
 |.dT kvs=>kvs.length≤sizeLine/\(a==sysModules)=false/\∃xs:List (List j3×Addr×Value),
  Paired (fun(p:List j3×V) (q:List j3×Addr×Value)=>p.1=q.1/\H q.2.1=some (.tup (p.1.map kV))/\zk p.2 q.2.2) kvs xs/\
  ∃o es ep,h.get? a=some o/\o.ExactDict/\o.data=.dict es ep/\es.toList=xs.map (entryOfKey (tupleKind (xa P w)))/\(xs.map (·.1)).Nodup
 |.set S n=>h.SetOf (intKind P w) a S n
 |.ins C dx fs=>H dx=some (.own a)/\fs.length≤1000/\dx≠a/\h.get? a=some (PySem.W.instObj C dx)/\
  ∃mA,h.Ns1 dx mA/\(∀f,gH (fs.lookup f) (mA f))/\PySem.Within mA (fs.map (·.1))
 |.own _=>∃o,h.get? a=some o
 |.xd fs=>∃mA,h.Ns1 a mA/\∀f,gH (fs.lookup f) (mA f)
 |.rng lo hi=>∃t u v,h.get? a=some { cls:=.type "range",data:=.fields #[.int lo t,.int hi u,.int 1 v] }
 |.frz o u=>h.get? a=some o/\xg H h a u
 |.tbl ps=>h.get? a=some { cls:=.none,data:=.fields ps }
 |.met f x=>h.get? a=some (PySem.W.methodObj (.ref f) (.ref x))
 |.ext φ=>φ h/\(∃o,h.get? a=some o)/\∀h1 h2:Heap,φ h1->(∀o,h1.get? a=some o->h2.get? a=some o)->φ h2
def dg(H:Hp)(h:Heap):Prop:=∀a o,H a=some o->xg P w H h a o
end
section
variable {P:Program}{w:World}{H H':Hp}{a:Addr}{o:HO}
theorem xg.lt(x:xg P w H h a o):a<h.objs.size:=by
 cases o with
 |lst xs=>obtain⟨_,_,_,_,e⟩:=x;exact Heap.lt_size e
 |tup xs=>obtain⟨_,_,_,p⟩:=x;exact p.lt
 |dK kvs=>obtain⟨_,_,_,_,o,_,_,e,_⟩:=x;exact Heap.lt_size e
 |dT kvs=>obtain⟨_,_,_,_,o,_,_,e,_⟩:=x;exact Heap.lt_size e
 |set S n=>obtain⟨o,_,_,_,e,_⟩:=x;exact Heap.lt_size e
 |ins C dx fs=>obtain⟨_,_,_,e,_⟩:=x;exact Heap.lt_size e
 |own y=>obtain⟨_,e⟩:=x;exact Heap.lt_size e
 |xd fs=>obtain⟨_,⟨_,_,_,e,_⟩,_⟩:=x;exact Heap.lt_size e
 |rng lo hi=>obtain⟨_,_,_,e⟩:=x;exact Heap.lt_size e
 |frz ob u=>obtain⟨e,_⟩:=x;exact Heap.lt_size e
 |tbl ps=>exact Heap.lt_size (show h.get? a=some _ from x)
 |met f y=>exact Heap.lt_size (show h.get? a=some _ from x)
 |ext φ=>obtain⟨_,⟨_,e⟩,_⟩:=x;exact Heap.lt_size e
theorem Paired.mapP{α β:Type}{F G:α->β->Prop}:∀{l₁:List α} {l₂:List β},Paired F l₁ l₂->(∀a b,F a b->G a b)->Paired G l₁ l₂
 |_,_,.nil,_=>.nil
 |_,_,.cons r t,f=>.cons (f _ _ r) (Paired.mapP t f)
abbrev EI:=@Paired.mapP
theorem xg.stay(x:xg P w H h a o)(k:∀b u,(b=a\/H b=some (.own a))->h.get? b=some u->h'.get? b=some u)
 (ho:∀b,H b=some (.own a)->H' b=some (.own a)) (ht:∀b xs,H b=some (.tup xs)->H' b=some (.tup xs)):xg P w H' h' a o:=by
 induction o with
 |lst xs=>obtain⟨z,its,n,r,e⟩:=x;exact⟨z,its,n,r,k _ _ (.inl rfl) e⟩
 |tup xs=>obtain⟨z,its,r,ob,e,c⟩:=x;exact⟨z,its,r,ob,k _ _ (.inl rfl) e,c⟩
 |dK kvs=>obtain⟨z,y,vs,r,ob,es,ep,e,c⟩:=x;exact⟨z,y,vs,r,ob,es,ep,k _ _ (.inl rfl) e,c⟩
 |dT kvs=>
  obtain⟨z,y,xs,r,ob,es,ep,e,c⟩:=x;exact⟨z,y,xs,EI r fun p q z=>⟨z.1,ht _ _ z.2.1,z.2.2⟩,ob,es,ep,k _ _ (.inl rfl) e,c⟩
 |set S n=>obtain⟨ob,es,ep,t,e,c⟩:=x;exact⟨ob,es,ep,t,k _ _ (.inl rfl) e,c⟩
 |ins C dx fs=>
  obtain⟨d,z,ne,e,mA,⟨od,es,ep,e2,c⟩,r⟩:=x;exact⟨ho _ d,z,ne,k _ _ (.inl rfl) e,mA,⟨od,es,ep,k _ _ (.inr d) e2,c⟩,r⟩
 |own y=>obtain⟨ob,e⟩:=x;exact⟨ob,k _ _ (.inl rfl) e⟩
 |xd fs=>obtain⟨mA,⟨od,es,ep,e,c⟩,r⟩:=x;exact⟨mA,⟨od,es,ep,k _ _ (.inl rfl) e,c⟩,r⟩
 |rng lo hi=>obtain⟨t,u,v,e⟩:=x;exact⟨t,u,v,k _ _ (.inl rfl) e⟩
 |frz ob u ih=>obtain⟨e,q⟩:=x;exact⟨k _ _ (.inl rfl) e,ih q⟩
 |tbl ps=>
  have e:h.get? a=some { cls:=.none,data:=.fields ps }:=x;show h'.get? a=some { cls:=.none,data:=.fields ps };exact k a _ (.inl rfl) e
 |met f y=>
  have e:h.get? a=some (PySem.W.methodObj (.ref f) (.ref y)):=x;show h'.get? a=some (PySem.W.methodObj (.ref f) (.ref y));exact k a _ (.inl rfl) e
 |ext φ=>obtain⟨p,⟨o,e⟩,st⟩:=x;exact⟨st _ _ p fun o q=>k _ _ (.inl rfl) q,⟨o,k _ _ (.inl rfl) e⟩,st⟩
theorem dg.lt(x:dg P w H h)(e:H a=some o):a<h.objs.size:=(x a o e).lt
theorem dg.fresh(x:dg P w H h)(e:h.objs.size≤a):H a=none:=by cases q:H a with|none=>rfl|some u=>exact absurd (AR (x.lt q) e) (Dg _)
theorem dg.kept(x:dg P w H h)(k:∀b u,h.get? b=some u->h'.get? b=some u):dg P w H h':=fun a o e=>
 (x a o e).stay (fun b u _ q=>k b u q) (fun _ q=>q) fun _ _ q=>q
theorem dg.laid(x:dg P w H h)(k:∀b u,h.get? b=some u->h'.get? b=some u)(hp:h.objs.size≤a)(new:xg P w (upd H a o) h' a o):dg P w (upd H a o) h':=fun b u e=>by
 have hn:=x.fresh hp;by_cases hb:b=a
 ·subst hb;rw[j4] at e;cases e;exact new
 ·rw[qr hb] at e;exact(x b u e).stay (fun c v _ q=>k c v q) (fun c q=>by rw[qr (zq q hn)];exact q) fun c xs q=>by rw[qr (zq q hn)];exact q
end
def Rd(H:Hp)(a:Addr)(u:HO):Prop:=H a=some u\/∃o,H a=some (.frz o u)
theorem Rd.ok{P:Program}{w:World}{H:Hp}{a:Addr}{u:HO}(r:Rd H a u)(x:dg P w H h):xg P w H h a u:=by
 rcases r with r | ⟨o,r⟩
 ·exact x a u r
 ·obtain⟨_,q⟩:=x a _ r;exact q
def Mut:Option HO->Prop
 |some (.lst _)=>True
 |some (.dK _)=>True
 |some (.dT _)=>True
 |some (.set _ _)=>True
 |some (.ins _ _ _)=>True
 |some (.ext _)=>True
 |_=>False
section
variable {P:Program}{w:World}{H:Hp}{x e:Addr}{o':HO}
theorem dg.write(ok:dg P w H h)(mu:Mut (H x))(he:e=x\/H e=some (.own x))(k:∀b u,b≠e->h.get? b=some u->h'.get? b=some u)(heo:∃u,h'.get? e=some u)
 (new:xg P w (upd H x o') h' x o'):dg P w (upd H x o') h':=fun b u q=>by
 have nown:∀c y,H c=some (.own y)->c≠x:=fun c y r z=>by subst z;rw[r] at mu;exact mu
 have ntup:∀c xs,H c=some (.tup xs)->c≠x:=fun c xs r z=>by subst z;rw[r] at mu;exact mu
 by_cases hb:b=x
 ·subst hb;rw[j4] at q;cases q;exact new
 ·rw[qr hb] at q;by_cases hbe:b=e
  ·have q':H b=some (.own x):=by
    rcases he with z | z
    ·exact absurd (hbe.trans z) hb
    ·rw[hbe];exact z
   rw[q] at q';cases q';obtain⟨v,hv⟩:=heo;exact⟨v,by rw[hbe];exact hv⟩
  ·refine(ok b u q).stay (fun c v hc r=>k c v ?_ r) (fun c r=>by rw[qr (nown c b r)];exact r) fun c xs r=>by rw[qr (ntup c xs r)];exact r
   rcases hc with rfl | hc
   ·exact hbe
   ·rintro rfl;rcases he with z | z
    ·exact nown c b hc z
    ·rw[hc] at z;cases z;exact hb rfl
end
structure Un(fs ex:List Addr)(H H':Hp)(h h':Heap):Prop where
 keep:∀b o,h.get? b=some o->H b=none->b∉fs->b∉ex->h'.get? b=some o
 slot:∀b o,h.get? b=some o->H b=none->b∈fs->b∉ex->∃sl,h'.get? b=some { o with slots:=sl }
 free:∀b o,h.get? b=some o->H b=none->b∉ex->H' b=none
 there:∀b o,h.get? b=some o->b∉ex->∃o',h'.get? b=some o'
 tups:∀b xs,H b=some (.tup xs)->H' b=some (.tup xs)
 frzs:∀b o u,H b=some (.frz o u)->H' b=some (.frz o u)
 tbls:∀b ps,H b=some (.tbl ps)->∃more,H' b=some (.tbl (ps++more))
section
variable {fs fs' ex ex':List Addr}{H H1 H2:Hp}{h1 h2:Heap}{a x e:Addr}{o:HO}
theorem Un.any(u:Un fs ex H H1 h h1){b:Addr}{ob:Obj}(q:h.get? b=some ob)(n:H b=none)(hx:b∉ex):∃sl,h1.get? b=some { ob with slots:=sl }:=by
 by_cases hb:b∈fs
 ·exact u.slot b ob q n hb hx
 ·exact⟨ob.slots,u.keep b ob q n hb hx⟩
theorem Un.kept(k:∀b u,h.get? b=some u->h'.get? b=some u):Un fs ex H H h h':=
 ⟨fun b ob q _ _ _=>k b ob q,fun b ob q _ _ _=>⟨ob.slots,k b ob q⟩,fun _ _ _ n _=>n,fun b ob q _=>⟨ob,k b ob q⟩,fun _ _ q=>q,fun _ _ _ q=>q,fun _ ps q=>⟨#[],by rw[q];simp⟩⟩
theorem Un.refl:Un fs ex H H h h:=Un.kept fun _ _ q=>q
theorem Un.laid(k:∀b u,h.get? b=some u->h'.get? b=some u)(hp:h.objs.size≤a)(hn:H a=none):Un fs ex H (upd H a o) h h' where
 keep:=fun b u q _ _ _=>k b u q
 slot:=fun b u q _ _ _=>⟨u.slots,k b u q⟩
 free:=fun b u q n _=>by rw[qr (Bd (AR (Heap.lt_size q) hp))];exact n
 there:=fun b u q _=>⟨u,k b u q⟩
 tups:=fun b xs q=>by rw[qr (zq q hn)];exact q
 frzs:=fun b u xs q=>by rw[qr (zq q hn)];exact q
 tbls:=fun b ps q=>⟨#[],by rw[qr (zq q hn),q];simp⟩
theorem Un.write(mu:Mut (H x))(he:e=x\/H e=some (.own x))(k:∀b u,b≠e->h.get? b=some u->h'.get? b=some u)(heo:∃u,h'.get? e=some u):Un fs ex H (upd H x o) h h':=by
 have hx:∀b,H b=none->b≠x:=fun b n z=>by subst z;rw[n] at mu;exact mu
 have hb:∀b,H b=none->b≠e:=fun b n z=>by
  subst z;rcases he with r | r
  ·exact hx b n r
  ·rw[n] at r;cases r
 have hm:∀b u,H b=some u->¬Mut (some u)->b≠x:=fun b u q nm z=>by subst z;rw[q] at mu;exact nm mu
 refine⟨fun b u q n _ _=>k b u (hb b n) q,fun b u q n _ _=>⟨u.slots,k b u (hb b n) q⟩,fun b u q n _=>by rw[qr (hx b n)];exact n,fun b u q _=>?_,
  fun b xs q=>by rw[qr (hm b _ q fun z=>z)];exact q,fun b u xs q=>by rw[qr (hm b _ q fun z=>z)];exact q,fun b ps q=>⟨#[],by rw[qr (hm b _ q fun z=>z),q];simp⟩⟩
 by_cases hbe:b=e
 ·subst hbe;exact heo
 ·exact⟨u,k b u hbe q⟩
end
def trk(h:Heap)(H:Hp):List Addr:=(List.range h.objs.size).filter fun a=>(H a).isSome
def m5(h:Heap)(H:Hp):Heap:=PySem.W.hideAll h (trk h H)
theorem vL(h:Heap)(H:Hp):(m5 h H).objs.size=h.objs.size:=PySem.W.hideAll_size _ _
theorem aal{H:Hp}{b:Addr}{o:Obj}(e:h.get? b=some o)(n:H b=none):(m5 h H).get? b=some o:=
 PySem.W.hideAll_get _ e fun hm=>by have q:(H b).isSome=true:=(AS.mp hm).2;rw[n] at q;simp at q
theorem ac8{H:Hp}{b:Addr}{o:Obj}(e:(m5 h H).get? b=some o):h.get? b=some o/\H b=none:=by
 have e':h.get? b=some o:=PySem.W.of_hideAll (trk h H) e;refine⟨e',?_⟩;cases q:H b with
 |none=>rfl
 |some x=>
  have hm:b∈trk h H:=AS.mpr ⟨Bb.mpr (Heap.lt_size e'),by simp[q]⟩;have z:(m5 h H).get? b=none:=PySem.W.hideAll_none (trk h H) hm;rw[z] at e;cases e
end L2
variable {xs zs:List L2.V}{H H' H₀:L2.Hp}{v:L2.V}
namespace L2
open PySem PySem.Spec PyProof.Rows
structure Mod(K:Ai)(mg:Str->Option Value)(base:Heap):Prop where
 kin:K.In base
 glob:base.Ns mainGlobals mg
 blt:∃mb,base.Ns builtinsNs mb/\∀x:Str,x ≠ "__name__" -> mb x=bootBuiltins x
 nolimit:base.NoLimit
structure Cx where
 prog:Program
 w:World
 K:Ai
 mg:Str->Option Value
 base:Heap
 A:Around
 N:List Str
 s₀:Shared
 H₀:Hp
 env:Env
 outer:List Env
 stack:List Env
 ex:List Addr
 fn:Str->Bool
 calm:Bool
 pn:List (Addr×Obj)
 xe:Value->Shared->Prop
def vX(l:List Env):List Addr:=l.filterMap (·.frame)
abbrev Cx.fs(X:Cx):List Addr:=vX X.outer
def Vis(sc:Scope)(x:Str):Prop:=sc.names.lookup x=some .local\/sc.names.lookup x=some .cell\/sc.names.lookup x=some .free
def yy(sc:Scope)(x:Str):Prop:=sc.names.lookup x=some .local\/sc.names.lookup x=some .cell
def aml(env:Env)(h:Heap)(m:Str->Option Value)(x:Str)(u:Value):Prop:=
 (env.kindOf x=some .local/\m x=some u)\/((env.kindOf x=some .cell\/env.kindOf x=some .free)/\∃c,env.cells.lookup x=some c/\h.IsCell c (some u))
structure Cx.Ok(X:Cx):Prop where
 mod:Mod X.K X.mg X.base
 kind:X.env.scope.kind=.function
 glob:X.env.globals=mainGlobals
 blt:X.env.builtins=builtinsNs
 above:X.s₀.heap.objs.size≤X.env.locals
 inj:∀x y c,X.env.cells.lookup x=some c->X.env.cells.lookup y=some c->x=y
 has:∀x,(X.env.kindOf x=some .cell\/X.env.kindOf x=some .free)->∃c,X.env.cells.lookup x=some c
 cab:∀x c,X.fn x=true->X.env.cells.lookup x=some c->X.s₀.heap.objs.size≤c
 hd:X.calm=true->X.A.handled=none
 frames:X.A.frames=some X.stack
 stk:X.stack=X.outer\/(X.stack=X.env::X.outer/\X.env.frame=some X.env.locals)
 exf:∀b∈X.ex,b≠X.env.locals/\∀x c,X.env.cells.lookup x=some c->c≠b
 bs:∀b o,X.base.get? b=some o->X.s₀.heap.get? b=some o/\X.H₀ b=none
 bsz:X.base.objs.size≤X.s₀.heap.objs.size
 noex:∀b o,X.base.get? b=some o->b∉X.ex
 exfs:∀b∈X.ex,b∉X.fs
 funs:X.s₀.heap.FunFrames X.base X.outer
 frf:∀b∈X.fs,X.H₀ b=none
structure qx(X:Cx)(pins:List (Addr×Obj))(σ:List (Option V))(H:Hp)(s:Shared):Prop where
 ok:X.Ok
 os:s.os=X.s₀.os
 bare:AllBare s.gens
 base:Un X.fs X.ex X.H₀ H X.s₀.heap s.heap
 loc:∃m,s.heap.Ns X.env.locals m/\∀(i:Nat) (x:Str) (v:V),X.N[i]?=some x->σ[i]?=some (some v)->Vis X.env.scope x->∃u,zk v u/\aml X.env s.heap m x u
 cell:∀x c,X.env.cells.lookup x=some c->∃v,s.heap.IsCell c v
 free:H X.env.locals=none
 freeC:∀x c,X.env.cells.lookup x=some c->H c=none
 pin:∀p∈X.pn++pins,s.heap.get? p.1=some p.2/\H p.1=none/\p.1≠X.env.locals/\p.1∉X.fs/\∀v,p.2.data≠.cell v
 hok:dg X.prog X.w H s.heap
 len:σ.length=X.N.length
 tk:0<s.toks
section
variable {X:Cx}{σ:List (Option V)} 
theorem Cx.Ok.nofr(ok:X.Ok){b:Addr}{o:Obj}(e:X.base.get? b=some o):b∉X.fs:=fun hb=>by have:=(ok.funs.mem hb).1;rw[e] at this;cases this
theorem qx.bs(I:qx X pins σ H s):∀b o,X.base.get? b=some o->s.heap.get? b=some o/\H b=none:=fun b o e=>
 ⟨I.base.keep b o (I.ok.bs b o e).1 (I.ok.bs b o e).2 (I.ok.nofr e) (I.ok.noex b o e),I.base.free b o (I.ok.bs b o e).1 (I.ok.bs b o e).2 (I.ok.noex b o e)⟩
theorem qx.bk(I:qx X pins σ H s):∀b o,X.base.get? b=some o->s.heap.get? b=some o:=fun b o e=>(I.bs b o e).1
theorem qx.mod(I:qx X pins σ H s):Mod X.K X.mg X.base:=I.ok.mod
theorem qx.kIn(I:qx X pins σ H s):X.K.In s.heap:=I.ok.mod.kin.keeps I.bk
theorem qx.nolimit(I:qx X pins σ H s):s.heap.NoLimit:=I.ok.mod.nolimit.keeps I.bk
theorem qx.lt(I:qx X pins σ H s):X.env.locals<s.heap.objs.size:=let ⟨_,hn,_⟩:=I.loc;hn.lt
theorem qx.sz(I:qx X pins σ H s):X.s₀.heap.objs.size≤s.heap.objs.size:=AW I.ok.above (BH I.lt)
theorem qx.nofs(I:qx X pins σ H s){a:Addr}(h:s.heap.objs.size≤a):a∉X.fs:=fun hb=>by obtain⟨_,o,ho,_⟩:=I.ok.funs.mem hb;exact absurd (AR (Heap.lt_size ho) (AW I.sz h)) (Dg _)
theorem qx.cne(I:qx X pins σ H s):∀x c,X.env.cells.lookup x=some c->c≠X.env.locals:=fun x c e z=>by obtain⟨v,o,ho,hd⟩:=I.cell x c e;obtain⟨m,⟨o',es,ep,ho',hd',_⟩,_⟩:=I.loc;rw[z,ho'] at ho;cases ho;rw[hd'] at hd;cases hd
theorem qx.funs(I:qx X pins σ H s):s.heap.FunFrames X.base X.outer:=by
 have all:∀(l:List Env),(∀b∈vX l,b∈X.fs)->X.s₀.heap.FunFrames X.base l->s.heap.FunFrames X.base l:=by
  intro l
  induction l with
  |nil=>intro _ _;trivial
  |cons env r ih=>
   intro hs hl;obtain⟨hk,⟨L,o,hf,hn,ho,hd⟩,hr⟩:=hl;have hL:L∈X.fs:=hs L (by unfold vX;rw[Do,hf];exact Ap);obtain⟨sl,e⟩:=I.base.slot L o ho (I.ok.frf L hL) hL fun z=>I.ok.exfs L z hL;exact⟨hk,⟨L,_,hf,hn,e,hd⟩,ih (fun b hb=>hs b (by unfold vX;rw[Do,hf];exact Ag _ hb)) hr⟩
 exact all X.outer (fun _ hb=>hb) I.ok.funs
theorem qx.stack(I:qx X pins σ H s):s.heap.FunFrames X.base X.stack:=by
 rcases I.ok.stk with e | ⟨e,hf⟩
 ·rw[e];exact I.funs
 ·rw[e];obtain⟨m,hn,_⟩:=I.loc;refine .cons (by rw[I.ok.kind];decide) hf hn ?_ I.funs;exact Heap.get?_none_of_le (AW I.ok.bsz I.ok.above)
theorem qx.stkSub(I:qx X pins σ H s):∀b∈vX X.stack,b∈X.env.locals::X.fs:=fun b hb=>by
 rcases I.ok.stk with e | ⟨e,hf⟩
 ·rw[e] at hb;exact Ag _ hb
 ·rw[e] at hb;unfold vX at hb;rw[Do,hf] at hb;exact hb
theorem qx.stkFree(I:qx X pins σ H s):∀b∈vX X.stack,H b=none:=fun b hb=>by
 rcases Av.mp (I.stkSub b hb) with e | hb
 ·rw[e];exact I.free
 ·obtain⟨_,o,ho,_⟩:=I.ok.funs.mem hb;exact I.base.free b o ho (I.ok.frf b hb) fun z=>I.ok.exfs b z hb
theorem qx.step{g':Array GenState}{d':Drawn}(I:qx X pins σ H s)
 (hch:∀b∈ch,(b∈X.ex\/X.s₀.heap.objs.size≤b)/\b≠X.env.locals/\(∀x c,X.env.cells.lookup x=some c->c≠b)/\∀p∈X.pn++pins,p.1≠b)
 (keep:∀b o,b≠X.env.locals->b∉X.fs->b∉ch->s.heap.get? b=some o->H b=none->h'.get? b=some o)
 (slot:∀b o,b≠X.env.locals->b∈X.fs->b∉ch->s.heap.get? b=some o->H b=none->∃sl,h'.get? b=some { o with slots:=sl }) (free:∀b o,b∉ch->s.heap.get? b=some o->H b=none->H' b=none)
 (there:∀b o,b∉ch->s.heap.get? b=some o->∃o',h'.get? b=some o')
 (tups:∀b xs,H b=some (.tup xs)->H' b=some (.tup xs)) (frzs:∀b o u,H b=some (.frz o u)->H' b=some (.frz o u)) (tbls:∀b ps,H b=some (.tbl ps)->∃more,H' b=some (.tbl (ps++more)))
 (ns:∀m,s.heap.Ns X.env.locals m->h'.Ns X.env.locals m) (hok:dg X.prog X.w H' h') (hg:AllBare g') (ht:0<t':=by walk_at "t"):
 qx X pins σ H' { s with heap:=h',gens:=g',drawn:=d',toks:=t' }:=by
 have w6:∀b o,X.s₀.heap.get? b=some o->b≠X.env.locals:=fun b o e=>Bd (AR (Heap.lt_size e) I.ok.above);have neC:∀b o,X.s₀.heap.get? b=some o->b∉X.ex->b∉ch:=fun b o e hx hb=>by
  rcases (hch b hb).1 with z | z
  ·exact hx z
  ·exact absurd (AR (Heap.lt_size e) z) (Dg _)
 have cellK:∀x c,X.env.cells.lookup x=some c->∀v,s.heap.IsCell c v->h'.IsCell c v:=fun x c e v ⟨o,ho,hd⟩=>by
  have nch:c∉ch:=fun z=>(hch c z).2.2.1 x c e rfl;by_cases hc:c∈X.fs
  ·obtain⟨sl,q⟩:=slot c o (I.cne x c e) hc nch ho (I.freeC x c e);exact⟨_,q,hd⟩
  ·exact⟨o,keep c o (I.cne x c e) hc nch ho (I.freeC x c e),hd⟩
 refine⟨I.ok,I.os,hg,⟨fun b o e n hb hx=>?_,fun b o e n hb hx=>?_,fun b o e n hx=>?_,fun b o e hx=>?_,fun b xs e=>tups b xs (I.base.tups b xs e),fun b o xs e=>frzs b o xs (I.base.frzs b o xs e),fun b ps e=>?_⟩,?_,fun x c e=>?_,?_,fun x c e=>?_,fun p hp=>?_,hok,I.len,ht⟩
 ·exact keep b o (w6 b o e) hb (neC b o e hx) (I.base.keep b o e n hb hx) (I.base.free b o e n hx)
 ·obtain⟨sl,e1⟩:=I.base.slot b o e n hb hx;obtain⟨sl',e2⟩:=slot b _ (w6 b o e) hb (neC b o e hx) e1 (I.base.free b o e n hx);exact⟨sl',e2⟩
 ·obtain⟨o',e1⟩:=I.base.there b o e hx;exact free b o' (neC b o e hx) e1 (I.base.free b o e n hx)
 ·obtain⟨o',e1⟩:=I.base.there b o e hx;exact there b o' (neC b o e hx) e1
 ·obtain⟨m1,e1⟩:=I.base.tbls b ps e;obtain⟨m2,e2⟩:=tbls b _ e1;exact⟨m1++m2,by rw[e2,Array.append_assoc]⟩
 ·obtain⟨m,hn,hl⟩:=I.loc;refine⟨m,ns m hn,fun i x v e1 e2 e3=>?_⟩;obtain⟨u,r,l⟩:=hl i x v e1 e2 e3;refine⟨u,r,?_⟩;rcases l with l | ⟨k,c,e,z⟩
  ·exact .inl l
  ·exact .inr ⟨k,c,e,cellK x c e _ z⟩
 ·obtain⟨v,z⟩:=I.cell x c e;exact⟨v,cellK x c e v z⟩
 ·obtain⟨m,⟨o,_,_,ho,_⟩,_⟩:=I.loc;exact free _ o (fun z=>(hch _ z).2.1 rfl) ho I.free
 ·obtain⟨v,o,ho,hd⟩:=I.cell x c e;exact free c o (fun z=>(hch c z).2.2.1 x c e rfl) ho (I.freeC x c e)
 ·obtain⟨e,n,ne,nf,d⟩:=I.pin p hp;have nch:p.1∉ch:=fun z=>(hch p.1 z).2.2.2 p hp rfl;exact⟨keep p.1 p.2 ne nf nch e n,free p.1 p.2 nch e n,ne,nf,d⟩
theorem qx.un(I:qx X pins σ H s)(u:Un X.fs [] H H' s.heap h')(hok:dg X.prog X.w H' h')(ht:0<t':=by walk_at "t"):qx X pins σ H' { s with heap:=h',toks:=t' }:=by obtain⟨m,⟨o,es,ep,ho,r⟩,_⟩:=id I.loc;obtain⟨sl,hL⟩:=u.any ho I.free (by simp);exact I.step (g':=s.gens) (d':=s.drawn) (ch:=[]) (fun _ z=>nomatch z) (fun b o _ hb _ e n=>u.keep b o e n hb (by simp)) (fun b o _ hb _ e n=>u.slot b o e n hb (by simp)) (fun b o _ e n=>u.free b o e n (by simp)) (fun b o _ e=>u.there b o e (by simp)) u.tups u.frzs u.tbls (fun m' hm=>by obtain⟨o',es',ep',ho',r'⟩:=hm;rw[ho] at ho';cases ho';exact⟨_,es',ep',hL,r'⟩) hok I.bare
theorem qx.call{g':Array GenState}{d':Drawn}(I:qx X pins σ H s)(u:Un (vX X.stack) ch H H' s.heap h')(hok:dg X.prog X.w H' h')(hg:AllBare g')
 (hch:∀b∈ch,(b∈X.ex\/X.s₀.heap.objs.size≤b)/\b≠X.env.locals/\(∀x c,X.env.cells.lookup x=some c->c≠b)/\∀p∈X.pn++pins,p.1≠b) (ht:0<t':=by walk_at "t"):
 qx X pins σ H' { s with heap:=h',gens:=g',drawn:=d',toks:=t' }:=by
 obtain⟨m,⟨o,es,ep,ho,r⟩,_⟩:=id I.loc;obtain⟨sl,hL⟩:=u.any ho I.free fun z=>(hch _ z).2.1 rfl;exact I.step (ch:=ch) hch (fun b o hL hb hc e n=>u.keep b o e n (fun z=>(Av.mp (I.stkSub b z)).elim hL hb) hc) (fun b o _ _ hc e n=>u.any e n hc) (fun b o hc e n=>u.free b o e n hc) (fun b o hc e=>u.there b o e hc) u.tups u.frzs u.tbls (fun m' hm=>by obtain⟨o',es',ep',ho',r'⟩:=hm;rw[ho] at ho';cases ho';exact⟨_,es',ep',hL,r'⟩) hok hg
theorem qx.turned(I:qx X pins σ H s)(k:∀b o,b≠it->s.heap.get? b=some o->h'.get? b=some o)(hn:H it=none)(hL:it≠X.env.locals)
 (h1:it∈X.ex\/X.s₀.heap.objs.size≤it) (h2:∀x c,X.env.cells.lookup x=some c->c≠it) (h3:∀p∈X.pn++pins,p.1≠it) (ht:0<t':=by walk_at "t"):qx X pins σ H { s with heap:=h',toks:=t' }:=by
 have nit:∀b u,H b=some u->b≠it:=fun b u e z=>by rw[z,hn] at e;cases e
 refine I.step (g':=s.gens) (d':=s.drawn) (ch:=[it]) (fun b hb=>?_) (fun b o _ _ hc e _=>k b o (fun z=>hc (by simp[z])) e) (fun b o _ _ hc e _=>⟨o.slots,k b o (fun z=>hc (by simp[z])) e⟩) (fun _ _ _ _ n=>n)
  (fun b o hc e=>⟨o,k b o (fun z=>hc (by simp[z])) e⟩) (fun _ _ e=>e) (fun _ _ _ e=>e) (fun b ps e=>⟨#[],by rw[e];simp⟩) (fun m hm=>?_) (fun b u e=>?_) I.bare
 ·have e:b=it:=by simpa using hb
  subst e;exact⟨h1,hL,h2,h3⟩
 ·obtain⟨o,es,ep,ho,r⟩:=hm;exact⟨o,es,ep,k _ o (AM hL) ho,r⟩
 ·refine(I.hok b u e).stay (fun c v hc q=>k c v ?_ q) (fun _ q=>q) fun _ _ q=>q;rcases hc with z | z
  ·rw[z];exact nit b u e
  ·exact nit c _ z
theorem qx.tok(I:qx X pins σ H s)(t:Nat)(ht:0<t:=by walk_at "t"):qx X pins σ H { s with toks:=t }:=I.un (h':=s.heap) (t':=t) Un.refl I.hok
theorem qx.kept(I:qx X pins σ H s)(k:∀b u,s.heap.get? b=some u->h'.get? b=some u)(ht:0<t':=by walk_at "t"):qx X pins σ H { s with heap:=h',toks:=t' }:=I.un (Un.kept k) (I.hok.kept k)
theorem qx.laid{a:Addr}{o:HO}(I:qx X pins σ H s)(k:∀b u,s.heap.get? b=some u->h'.get? b=some u)(hp:s.heap.objs.size≤a)(new:xg X.prog X.w (upd H a o) h' a o)(ht:0<t':=by walk_at "t"):
 qx X pins σ (upd H a o) { s with heap:=h',toks:=t' }:=I.un (Un.laid k hp (I.hok.fresh hp)) (I.hok.laid k hp new)
theorem qx.write{x e:Addr}{o:HO}(I:qx X pins σ H s)(mu:Mut (H x))(he:e=x\/H e=some (.own x))(k:∀b u,b≠e->s.heap.get? b=some u->h'.get? b=some u)(heo:∃u,h'.get? e=some u)
 (new:xg X.prog X.w (upd H x o) h' x o) (ht:0<t':=by walk_at "t"):qx X pins σ (upd H x o) { s with heap:=h',toks:=t' }:=I.un (Un.write mu he k heo) (I.hok.write mu he k heo new)
theorem qx.weak{σ':List (Option V)}(I:qx X pins σ H s)(hl:σ'.length=σ.length)(w:∀(i:Nat) v,σ'[i]?=some (some v)->σ[i]?=some (some v)):qx X pins σ' H s:=
 ⟨I.ok,I.os,I.bare,I.base,let ⟨m,hn,hl'⟩:=I.loc;⟨m,hn,fun i x v e1 e2 e3=>hl' i x v e1 (w i v e2) e3⟩,I.cell,I.free,I.freeC,I.pin,I.hok,hl.trans I.len,I.tk⟩
theorem qx.pins_of{pins':List (Addr×Obj)}(I:qx X pins σ H s)(h:∀p∈pins',s.heap.get? p.1=some p.2/\H p.1=none/\p.1≠X.env.locals/\p.1∉X.fs/\∀v,p.2.data≠.cell v):qx X pins' σ H s:=
 ⟨I.ok,I.os,I.bare,I.base,I.loc,I.cell,I.free,I.freeC,fun p hp=>(Al.mp hp).elim (fun z=>I.pin p (Ar _ z)) (h p),I.hok,I.len,I.tk⟩
theorem oZ{N:List Str}(hN:N.Nodup)(a:N[i]?=some x)(b:N[j]?=some x):i=j:=by obtain⟨h1,e1⟩:=A2.mp a;obtain⟨h2,e2⟩:=A2.mp b;exact(List.getElem_inj hN).mp (e1.trans e2.symm)
theorem mR{Q:Unit->Shared->Prop}(I:qx X pins σ H s)(hN:X.N.Nodup)(hi:X.N[i]?=some x)(hx:yy X.env.scope x)(r:zk v u)
 (h:∀s',qx X pins (σ.set i (some v)) H s'->(∃a,Heap.SameBut a s.heap s'.heap/\(a=X.env.locals\/X.env.cells.lookup x=some a))->(X.env.kindOf x=some .local->∃m',s'.heap.Ns X.env.locals m'/\m' x=some u)->Q () s') (hf:X.fn x=true\/X.env.scope.names.lookup x=some .local:=by first | exact .inl rfl | exact .inr rfl | assumption):wpAny M A (storeName X.env x u) Q E s:=by
 obtain⟨m,hn,hl⟩:=id I.loc;have hcls:(X.env.scope.kind==.class||(X.env.scope.kind==.module&&X.env.locals != X.env.globals))=false:=by rw[I.ok.kind];rfl
 have hiσ:i<σ.length:=by rw[I.len];exact(A2.mp hi).1
 have cne:=I.cne;have tracked:∀{a:Addr} {h':Heap},(∃o,s.heap.get? a=some o/\H a=none)->Heap.SameBut a s.heap h'->dg X.prog X.w H h':=fun {a h'} ha hs b ob e=>by
  obtain⟨_,_,hfree⟩:=ha;refine(I.hok b ob e).stay (fun c w' hc q=>(hs.2 c ?_).trans q) (fun _ q=>q) fun _ _ q=>q;rintro rfl;rcases hc with rfl | hc
  ·rw[hfree] at e;cases e
  ·rw[hfree] at hc;cases hc
 rcases hx with hk | hk
 ·refine wpAny_storeName_local hk hn (fun h' hn' hs=>?_) hcls;obtain⟨oL,_,_,hoL,_⟩:=id hn;refine h _ ⟨I.ok,I.os,I.bare,⟨fun b o e n hb hx=>?_,fun b o e n hb hx=>?_,I.base.free,fun b o e hx=>?_,I.base.tups,I.base.frzs,I.base.tbls⟩,⟨_,hn',fun j y v' e1 e2 e3=>?_⟩,fun y c e=>?_,I.free,I.freeC,fun p hp=>?_,tracked ⟨oL,hoL,I.free⟩ hs,by simpa using I.len,by first | exact I.tk | exact CZ _⟩ ⟨_,hs,.inl rfl⟩ (fun _=>⟨_,hn',by simp⟩)
  ·exact(hs.2 b (Bd (AR (Heap.lt_size e) I.ok.above))).trans (I.base.keep b o e n hb hx)
  ·obtain⟨sl,e1⟩:=I.base.slot b o e n hb hx;exact⟨sl,(hs.2 b (Bd (AR (Heap.lt_size e) I.ok.above))).trans e1⟩
  ·obtain⟨o',e1⟩:=I.base.there b o e hx;exact⟨o',(hs.2 b (Bd (AR (Heap.lt_size e) I.ok.above))).trans e1⟩
  ·by_cases hj:j=i
   ·subst hj;rw[hi] at e1;cases e1;rw[BY hiσ] at e2;cases e2;exact⟨u,r,.inl ⟨hk,by simp⟩⟩
   ·rw[BB (AM hj)] at e2;obtain⟨u',r',q⟩:=hl j y v' e1 e2 e3;refine⟨u',r',?_⟩;rcases q with⟨k,e⟩ | ⟨k,c,e,z⟩
    ·refine .inl ⟨k,?_⟩;have:y≠x:=fun e=>hj (oZ hN e1 (e▸hi));simp[this,e]
    ·exact .inr ⟨k,c,e,z.sameBut hs (cne y c e)⟩
  ·obtain⟨w',z⟩:=I.cell y c e;exact⟨w',z.sameBut hs (cne y c e)⟩
  ·obtain⟨e,n,ne,nf,d⟩:=I.pin p hp;exact⟨(hs.2 p.1 ne).trans e,n,ne,nf,d⟩
 ·have hfn:X.fn x=true:=by
   rcases hf with z | z
   ·exact z
   ·rw[z] at hk;cases hk
  obtain⟨c,hc⟩:=I.ok.has x (.inl hk);obtain⟨w',z⟩:=I.cell x c hc;refine wpAny_storeName_cell I.ok.kind hk hc z (fun h' hc' hs=>?_);obtain⟨oc,hoc,hocd⟩:=id z;refine h { s with heap:=h' } ⟨I.ok,I.os,I.bare,⟨fun b o e n hb hx=>?_,fun b o e n hb hx=>?_,I.base.free,fun b o e hx=>?_,I.base.tups,I.base.frzs,I.base.tbls⟩,⟨m,hn.sameBut hs (AM (cne x c hc)),fun j y v' e1 e2 e3=>?_⟩,fun y c' e=>?_,I.free,I.freeC,fun p hp=>?_,tracked ⟨oc,hoc,I.freeC x c hc⟩ hs,by simpa using I.len,I.tk⟩ ⟨c,hs,.inr hc⟩ (fun z=>by have e:=(show X.env.kindOf x=some .cell from hk).symm.trans z;cases e)
  ·exact(hs.2 b (Bd (AR (Heap.lt_size e) (I.ok.cab x c hfn hc)))).trans (I.base.keep b o e n hb hx)
  ·obtain⟨sl,e1⟩:=I.base.slot b o e n hb hx;exact⟨sl,(hs.2 b (Bd (AR (Heap.lt_size e) (I.ok.cab x c hfn hc)))).trans e1⟩
  ·obtain⟨o',e1⟩:=I.base.there b o e hx;exact⟨o',(hs.2 b (Bd (AR (Heap.lt_size e) (I.ok.cab x c hfn hc)))).trans e1⟩
  ·by_cases hj:j=i
   ·subst hj;rw[hi] at e1;cases e1;rw[BY hiσ] at e2;cases e2;exact⟨u,r,.inr ⟨.inl hk,c,hc,hc'⟩⟩
   ·rw[BB (AM hj)] at e2;obtain⟨u',r',q⟩:=hl j y v' e1 e2 e3;refine⟨u',r',?_⟩;rcases q with q | ⟨k,c',e,z'⟩
    ·exact .inl q
    ·refine .inr ⟨k,c',e,z'.sameBut hs ?_⟩;rintro rfl;exact hj (oZ hN e1 (I.ok.inj _ _ _ e hc▸hi))
  ·by_cases hcc:c'=c
   ·subst hcc;exact⟨_,hc'⟩
   ·obtain⟨w2,z2⟩:=I.cell y c' e;exact⟨w2,z2.sameBut hs hcc⟩
  ·obtain⟨e,n,ne,nf,d⟩:=I.pin p hp;refine⟨(hs.2 p.1 ?_).trans e,n,ne,nf,d⟩;intro q;rw[q,hoc] at e;have q':oc=p.2:=A4 e;exact d w' (by rw[<-q'];exact hocd)
theorem fc{Q:Unit->Shared->Prop}(I:qx X pins σ H s)(hN:X.N.Nodup)(hi:X.N[i]?=some x)(hx:yy X.env.scope x)(r:zk v u)
 (h:∀s',qx X pins (σ.set i (some v)) H s'->Q () s') (hf:X.fn x=true\/X.env.scope.names.lookup x=some .local:=by first | exact .inl rfl | exact .inr rfl | assumption):wpAny M A (storeName X.env x u) Q E s:=
 mR I hN hi hx r (fun s' I' _ _=>h s' I') hf
theorem qx.call'(I:qx X pins σ H s)(ho:s'.os=s.os)(u:Un (vX X.stack) ch H H' s.heap s'.heap)(hok:dg X.prog X.w H' s'.heap)(hg:AllBare s'.gens)
 (hch:∀b∈ch,(b∈X.ex\/X.s₀.heap.objs.size≤b)/\b≠X.env.locals/\(∀x c,X.env.cells.lookup x=some c->c≠b)/\∀p∈X.pn++pins,p.1≠b) (ht:0<s'.toks:=by walk_at "t"):qx X pins σ H' s':=by
 obtain⟨h',g',d',t',o'⟩:=s';have e:o'=s.os:=ho;subst e;exact I.call (g':=g') (t':=t') (d':=d') u hok hg hch ht
end
abbrev XK:=Value->Option Addr->Hp->Prop
abbrev St:=List (Option V)
abbrev VK:=V->Hp->Prop
abbrev TE:=St->Hp->VK->Prop
abbrev TT:=St->Hp->(Bool->Hp->Prop)->Prop
abbrev TA:=St->Hp->(List V->Hp->Prop)->Prop
structure sn where
 nx:St->Hp->Prop
 rt:VK
 bk:St->Hp->Prop:=fun _ _=>False
 ct:St->Hp->Prop:=fun _ _=>False
abbrev TS:=sn->St->Hp->Prop
def EP(X:Cx)(pins:List (Addr×Obj))(σ:St)(Q:VK)(u:Value)(s':Shared):Prop:=∃v H',qx X pins σ H' s'/\zk v u/\Q v H'
def TP(X:Cx)(pins:List (Addr×Obj))(σ:St)(Q:Bool->Hp->Prop)(b:Bool)(s':Shared):Prop:=∃H',qx X pins σ H' s'/\Q b H'
def AP(X:Cx)(pins:List (Addr×Obj))(σ:St)(Q:List V->Hp->Prop)(us:List Value)(s':Shared):Prop:=∃vs H',qx X pins σ H' s'/\ze vs us/\Q vs H'
def SP(X:Cx)(pins:List (Addr×Obj))(D:sn)(f:Flow)(s':Shared):Prop:=
 match f with
 |.next=>∃σ' H',qx X pins σ' H' s'/\D.nx σ' H'
 |.brk=>∃σ' H',qx X pins σ' H' s'/\D.bk σ' H'
 |.cont=>∃σ' H',qx X pins σ' H' s'/\D.ct σ' H'
 |.ret u=>∃v σ' H',qx X pins σ' H' s'/\zk v u/\D.rt v H'
def PE(X:Cx)(e:Expr)(t:TE):Prop:=
 ∀(pins:List (Addr×Obj)) (s:Shared) (σ:St) (H:Hp) (Q:VK),qx X pins σ H s->t σ H Q->wpAny (model X.prog X.w) X.A (eval e X.env) (EP X pins σ Q) X.xe s
def PT(X:Cx)(e:Expr)(t:TT):Prop:=
 ∀(pins:List (Addr×Obj)) (s:Shared) (σ:St) (H:Hp) (Q:Bool->Hp->Prop),qx X pins σ H s->t σ H Q->wpAny (model X.prog X.w) X.A (isTrue e X.env (eval e X.env)) (TP X pins σ Q) X.xe s
def PW(X:Cx)(e:Expr)(t:TT):Prop:=
 ∀(whole:Sem Value) (pins:List (Addr×Obj)) (s:Shared) (σ:St) (H:Hp) (Q:Bool->Hp->Prop),qx X pins σ H s->t σ H Q->wpAny (model X.prog X.w) X.A (isTrue e X.env whole) (TP X pins σ Q) X.xe s
theorem PW.pt{X:Cx}{t:TT}(h:PW X e t):PT X e t:=h _
def PA(X:Cx)(es:List Expr)(t:TA):Prop:=
 ∀(pos:Pos) (pins:List (Addr×Obj)) (s:Shared) (σ:St) (H:Hp) (Q:List V->Hp->Prop),qx X pins σ H s->t σ H Q->wpAny (model X.prog X.w) X.A (spliced (backTo pos (starEach es X.env))) (AP X pins σ Q) X.xe s
def PS(X:Cx)(st:Stmt)(t:TS):Prop:=
 ∀(pins:List (Addr×Obj)) (s:Shared) (σ:St) (H:Hp) (D:sn),qx X pins σ H s->t D σ H->wpAny (model X.prog X.w) X.A (exec st X.env) (SP X pins D) X.xe s
def l6(X:Cx)(st:List Stmt)(t:TS):Prop:=
 ∀(pins:List (Addr×Obj)) (s:Shared) (σ:St) (H:Hp) (D:sn),qx X pins σ H s->t D σ H->wpAny (model X.prog X.w) X.A (execs st X.env) (SP X pins D) X.xe s
theorem v0{t:Sem α}{Q Q':α->Shared->Prop}(h:wpAny M A t Q E s)(hQ:∀a s,Q a s->Q' a s):wpAny M A t Q' E s:=AY h hQ fun _ _ x=>x
end L2
variable {r:L2.V->Option Int->Option Int->L2.Hp->L2.VK->Prop}{X:L2.Cx}{σ:L2.St}{tc:L2.TT}{ta:L2.TE}
namespace L2
open PySem PySem.Spec PyProof.Rows
section
def agb(i:Nat):TE:=fun σ H Q=>∃v,σ[i]?=some (some v)/\Q v H
def tC(v:V):TE:=fun _ H Q=>Q v H
abbrev Ef(x:Str):Prop:=(x==("__debug__":Str))=false
abbrev Eg(x:Str):Prop:=(x==("__classdict__":Str))=false
theorem ahp(hN:X.N[i]?=some x)(hv:Vis X.env.scope x)(hd:Ef x:=by decide)(hcd:Eg x:=by decide):PE X (.Name x pos) (agb i):=by
 intro pins s σ H Q I h;obtain⟨v,e,h⟩:=h;obtain⟨m,hn,hl⟩:=I.loc;obtain⟨u,r,l⟩:=hl i x v hN e hv;have x8:EP X pins σ Q u s:=⟨v,H,I,r,h⟩;rcases l with⟨hk,hm⟩ | ⟨hk,c,hc,hcell⟩
 ·exact wpAny_Name (wpAny_loadName_local I.ok.kind hk hn hm x8) hd
 ·rcases hk with hk | hk
  ·exact wpAny_Name (wpAny_loadName_cell I.ok.kind hk hc hcell x8) hd
  ·exact wpAny_Name (wpAny_loadName_free I.ok.kind hk hc hcell x8 hcd) hd
theorem agw{i j pos}:PE X (.Constant (.int i) j pos) (tC (.int i)):=fun _ _ _ H _ I h=>wpAny_Constant_int ⟨.int i,H,I.tok _,⟨_,rfl⟩,h⟩
theorem ak7{b j pos}:PE X (.Constant (.bool b) j pos) (tC (.bl b)):=fun _ _ _ H _ I h=>Constant_bool ⟨.bl b,H,I,rfl,h⟩
theorem aho{j pos}:PE X (.Constant .none j pos) (tC .non):=fun _ _ _ H _ I h=>Constant_none ⟨.non,H,I,rfl,h⟩
theorem bw{x j pos}:PE X (.Constant (.str x) j pos) (tC (.str x)):=fun _ _ _ H _ I h=>Calls.Constant_str ⟨.str x,H,I.tok _,⟨_,rfl⟩,h⟩
def Gl(X:Cx)(x:Str):Prop:=X.env.kindOf x=some .globalImplicit
theorem uI(I:qx X pins σ H s)(hg:Gl X x)(hm:X.mg x=some u)(h:Q u s)
 (hd:Ef x:=by decide):wpAny (model X.prog X.w) X.A (eval (.Name x pos) X.env) Q E s:=
 Calls.Name_function_global I.ok.kind hg (Calls.loadGlobal_global (by rw[I.ok.glob];exact I.mod.glob.keeps I.bk) hm h) hd
theorem du(I:qx X pins σ H s)(hg:Gl X x)(hm:X.mg x=none)(hv:bootBuiltins x=some u)(h:Q u s)
 (hn:x ≠ "__name__" := by decide) (hd:Ef x:=by decide):wpAny (model X.prog X.w) X.A (eval (.Name x pos) X.env) Q E s:=by
 obtain⟨mb,h1,h2⟩:=I.mod.blt;exact Calls.Name_function_global I.ok.kind hg (Calls.loadGlobal_builtin (by rw[I.ok.glob];exact I.mod.glob.keeps I.bk) hm (by rw[I.ok.blt];exact h1.keeps I.bk) ((h2 x hn).trans hv) h) hd
theorem tw(hg:Gl X x)(hm:X.mg x=some u)(r:zk v u)(hd:Ef x:=by decide):PE X (.Name x pos) (tC v):=
 fun _ _ _ H _ I h=>uI I hg hm ⟨v,H,I,r,h⟩ hd
theorem adx(hg:Gl X x)(hm:X.mg x=none)(hv:bootBuiltins x=some u)(r:zk v u)(hn:x ≠ "__name__" := by decide)(hd:Ef x:=by decide):PE X (.Name x pos) (tC v):=
 fun _ _ _ H _ I h=>du I hg hm hv ⟨v,H,I,r,h⟩ hn hd
variable {a b:Expr}{tb:TE} 
def PC(X:Cx)(op:CmpOp)(a b:Expr)(t:TE):Prop:=
 ∀(pins:List (Addr×Obj)) (s:Shared) (σ:St) (H:Hp) (Q:VK),qx X pins σ H s->t σ H Q->
  wpAny (model X.prog X.w) X.A (eval a X.env) (fun v s₁=>wpAny (model X.prog X.w) X.A (eval b X.env) (fun u s₂=>wpAny (model X.prog X.w) X.A (compareOp op v u) (EP X pins σ Q) X.xe s₂) X.xe s₁) X.xe s
theorem yG(b:Expr){op:CmpOp}(h:op≠.In)(h2:op≠.NotIn):behindInMarks op b=false:=by
 have e1:(op==CmpOp.In)=false:=by cases op<;>first | rfl | exact absurd rfl h
 have e2:(op==CmpOp.NotIn)=false:=by cases op<;>first | rfl | exact absurd rfl h2
 cases b<;>simp[behindInMarks,e1,e2]
def ajy(ta:TE):TE:=fun σ H Q=>ta σ H fun x H1=>Q (.bl (decide (x=.non))) H1
def ae7(ta:TE):TE:=fun σ H Q=>ta σ H fun x H1=>Q (.bl (!decide (x=.non))) H1
theorem zk.none_iff{x:V}{v:Value}(r:zk x v):(v==Value.none)=decide (x=.non):=by
 cases x with
 |non=>cases r;rfl
 |bl _=>cases r;rfl
 |int _=>obtain⟨t,rfl⟩:=r;rfl
 |str _=>obtain⟨t,rfl⟩:=r;rfl
 |byt _=>obtain⟨t,rfl⟩:=r;rfl
 |flt _=>obtain⟨t,rfl⟩:=r;rfl
 |ref _=>cases r;rfl
 |ty _=>cases r;rfl
theorem ahc{j pos'}(ha:PE X a ta):PC X .Is a (.Constant .none j pos') (ajy ta):=by intro pins s σ H Q I h;refine v0 (ha pins s σ H _ I h) fun v s1 ⟨x,H1,I1,r1,q1⟩=>?_;exact Constant_none (is_none_gen ⟨.bl _,H1,I1,by rw[r1.none_iff];rfl,q1⟩)
theorem adz{j pos'}(ha:PE X a ta):PC X .IsNot a (.Constant .none j pos') (ae7 ta):=by intro pins s σ H Q I h;refine v0 (ha pins s σ H _ I h) fun v s1 ⟨x,H1,I1,r1,q1⟩=>?_;exact Constant_none (isnot_none_gen ⟨.bl _,H1,I1,by rw[r1.none_iff];rfl,q1⟩)
def tB(t:TE):TT:=fun σ H Q=>t σ H fun x H1=>∃c,x=.bl c/\Q c H1
theorem yT{op:CmpOp}{t:TE}(h:PC X op a b t)(h1:behindInMarks op b=false:=by first | exact yG _ (by decide) (by decide) | rfl):PT X (.Compare a [op] [b] pos) (tB t):=by intro pins s σ H Q I hw;refine wpAny_isTrue_Compare1 (v0 (h pins s σ H _ I hw) fun v s1 h1=>v0 h1 fun u s2 h2=>v0 h2 fun c s3 ⟨x,H1,I1,r1,q1⟩=>?_) h1;obtain⟨d,rfl,q⟩:=q1;cases r1;exact wpAny_truthy_bool ⟨H1,I1,q⟩
theorem ahz{t:TE}(h:PE X e t)(he:∀whole,isTrue e X.env whole=(do let v <-whole;standAt e.pos;holding [v] (truthy v)):=by intro _;rfl):PT X e (tB t):=by intro pins s σ H Q I hw;refine isTrue_plain (v0 (h pins s σ H _ I hw) fun v s1 ⟨x,H1,I1,r1,q1⟩=>?_) (he _);obtain⟨d,rfl,q⟩:=q1;cases r1;exact wpAny_truthy_bool ⟨H1,I1,q⟩
variable {tA tB':TT}{rest:List Expr}
def anh(t u:TT):TT:=fun σ H Q=>t σ H fun c H1=>if c=true then u σ H1 Q else Q false H1
def tOr(t u:TT):TT:=fun σ H Q=>t σ H fun c H1=>if c=true then Q true H1 else u σ H1 Q
def ama(t:TT):TT:=fun σ H Q=>t σ H fun c H1=>Q (!c) H1
theorem abw(ha:PT X a tA):PW X (.BoolOp .And [a] pos) tA:=by intro wh pins s σ H Q I h;refine isTrue_and (v0 (ha pins s σ H Q I h) fun c s1 e=>?_);cases c with|true=>exact isTrue_and_nil e|false=>exact e
theorem ahj(ha:PT X a tA):PW X (.BoolOp .Or [a] pos) tA:=by intro wh pins s σ H Q I h;refine isTrue_or (v0 (ha pins s σ H Q I h) fun c s1 e=>?_);cases c with|false=>exact isTrue_or_nil e|true=>exact e
theorem ah3(ha:PT X a tA)(hb:PW X (.BoolOp .And (b::rest) pos) tB'):PW X (.BoolOp .And (a::b::rest) pos) (anh tA tB'):=by intro wh pins s σ H Q I h;refine isTrue_and (v0 (ha pins s σ H _ I h) fun c s1 ⟨H1,I1,q1⟩=>?_);cases c with|true=>exact hb wh pins s1 σ H1 Q I1 q1|false=>exact⟨H1,I1,q1⟩
theorem akp(ha:PT X a tA)(hb:PW X (.BoolOp .Or (b::rest) pos) tB'):PW X (.BoolOp .Or (a::b::rest) pos) (tOr tA tB'):=by intro wh pins s σ H Q I h;refine isTrue_or (v0 (ha pins s σ H _ I h) fun c s1 ⟨H1,I1,q1⟩=>?_);cases c with|true=>exact⟨H1,I1,q1⟩|false=>exact hb wh pins s1 σ H1 Q I1 q1
theorem agg(ha:PT X a tA):PT X (.UnaryOp .Not a pos) (ama tA):=by intro pins s σ H Q I h;exact isTrue_not (ha pins s σ H (fun c H1=>Q (!c) H1) I h)
def akq(ta tb:TE):TE:=fun σ H Q=>ta σ H fun x H1=>∃c,x=.bl c/\if c=true then tb σ H1 Q else Q (.bl false) H1
theorem ai6{op}{t:TE}(h:PE X a t):PE X (.BoolOp op [a] pos) t:=fun pins s σ H Q I hw=>BoolOp_one (h pins s σ H Q I hw)
theorem age(ha:PE X a ta)(hb:PE X (.BoolOp .And (b::rest) pos) tb):PE X (.BoolOp .And (a::b::rest) pos) (akq ta tb):=by
 intro pins s σ H Q I h;refine BoolOp_and (v0 (ha pins s σ H _ I h) fun v s1 ⟨x,H1,I1,r1,q1⟩=>?_);obtain⟨c,rfl,q1⟩:=q1;cases r1;refine wpAny_truthy_bool ?_;cases c with
 |true=>exact hb pins s1 σ H1 Q I1 q1
 |false=>exact⟨.bl false,H1,I1,rfl,q1⟩
def tIf(t:TT)(ta tb:TE):TE:=fun σ H Q=>t σ H fun c H1=>if c=true then ta σ H1 Q else tb σ H1 Q
theorem aae(hc:PT X c tA)(ha:PE X a ta)(hb:PE X b tb):PE X (.IfExp c a b pos) (tIf tA ta tb):=by intro pins s σ H Q I h;refine wpAny_IfExp (v0 (hc pins s σ H _ I h) fun d s1 ⟨H1,I1,q1⟩=>?_);cases d with|true=>exact ha pins s1 σ H1 Q I1 q1|false=>exact hb pins s1 σ H1 Q I1 q1
end
def wv(K:Ai)(H:Hp)(a:Addr)(xs:List V):Prop:=
 Rd H a (.lst xs)\/
  ∃(o:Obj) (its:Array Value) (n:Nat),K.lookup a=some o/\o.cls=.type "list" /\ o.dict=none/\o.data=.seq its n/\its.size≤sizeLine/\ze xs its.toList
def cM(K:Ai)(H:Hp)(a:Addr)(xs:List V):Prop:=
 Rd H a (.tup xs)\/
  ∃(o:Obj) (its:Array Value) (n:Nat),K.lookup a=some o/\o.cls=.type "tuple" /\ o.data=.seq its n/\its.size≤sizeLine/\ze xs its.toList
def ame:Value->Option V
 |.none=>some .non
 |.bool b=>some (.bl b)
 |.int i _=>some (.int i)
 |.str x _=>some (.str x)
 |.bytes b _=>some (.byt b)
 |.float b _=>some (.flt b)
 |.ref a=>some (.ref a)
 |.type n=>some (.ty n)
 |_=>none
theorem zk.abs{x:V}(r:zk x u):ame u=some x:=by
 cases x with
 |non=>cases r;rfl
 |bl _=>cases r;rfl
 |int _=>obtain⟨t,rfl⟩:=r;rfl
 |str _=>obtain⟨t,rfl⟩:=r;rfl
 |byt _=>obtain⟨t,rfl⟩:=r;rfl
 |flt _=>obtain⟨t,rfl⟩:=r;rfl
 |ref _=>cases r;rfl
 |ty _=>cases r;rfl
theorem zk.inj{x y:V}(r:zk x u)(q:zk y u):x=y:=A4 (r.abs.symm.trans q.abs)
theorem ze.inj:∀{xs ys:List V} {us:List Value},ze xs us->ze ys us->xs=ys
 |_,_,_,.nil,.nil=>rfl
 |_,_,_,.cons r t,.cons r' t'=>by rw[r.inj r',ze.inj t t']
section
variable {a:Addr}{ys:List V}
theorem wv.of{K:Ai}(h:H a=some (.lst xs)):wv K H a xs:=.inl (.inl h)
abbrev EW:=@wv.of
theorem cM.of{K:Ai}(h:H a=some (.tup xs)):cM K H a xs:=.inl (.inl h)
theorem qx.list(I:qx X pins σ H s)(h:wv X.K H a xs):∃its:List Value,ze xs its/\PlainL s.heap a its.toArray/\xs.length≤sizeLine:=by
 rcases h with h | ⟨o,its,n,hk,hc,hd,hs,hz,r⟩
 ·obtain⟨z,its,n,r,e⟩:=h.ok I.hok;exact⟨its,r,⟨_,n,e,rfl,rfl,rfl⟩,z⟩
 ·refine⟨its.toList,r,⟨o,n,I.kIn a o hk,hc,hd,by simpa using hs⟩,?_⟩;have e:=r.length;simp only[AL] at e;omega
theorem qx.tuple(I:qx X pins σ H s)(h:cM X.K H a xs):∃its:List Value,ze xs its/\IsTup s.heap a its.toArray/\xs.length≤sizeLine:=by
 rcases h with h | ⟨o,its,n,hk,hc,hs,hz,r⟩
 ·obtain⟨z,its,r,p⟩:=h.ok I.hok;exact⟨its,r,p,z⟩
 ·refine⟨its.toList,r,⟨o,I.kIn a o hk,hc,n,by simpa using hs⟩,?_⟩;have e:=r.length;simp only[AL] at e;omega
theorem qx.list_inj(I:qx X pins σ H s)(h:wv X.K H a xs)(h':wv X.K H a ys):xs=ys:=by
 obtain⟨its,r,⟨o,n,e,_,_,d⟩,_⟩:=I.list h;obtain⟨its',r',⟨o',n',e',_,_,d'⟩,_⟩:=I.list h';rw[e] at e';cases e';rw[d] at d';injection d' with d1 _
 have:its=its':=by simpa using BR Array.toList d1
 subst this;exact r.inj r'
theorem qx.tuple_inj(I:qx X pins σ H s)(h:cM X.K H a xs)(h':cM X.K H a ys):xs=ys:=by
 obtain⟨its,r,⟨o,e,_,n,d⟩,_⟩:=I.tuple h;obtain⟨its',r',⟨o',e',_,n',d'⟩,_⟩:=I.tuple h';rw[e] at e';cases e';rw[d] at d';injection d' with d1 _
 have:its=its':=by simpa using BR Array.toList d1
 subst this;exact r.inj r'
end
abbrev Cx.wish(X:Cx)(E:Value->Shared->Prop):Cx:={ X with xe:=E }
abbrev Cx.nox(X:Cx):Cx:=X.wish fun _ _=>False
theorem Cx.Ok.wish(ok:X.Ok)(E:Value->Shared->Prop):(X.wish E).Ok:=
 ⟨ok.mod,ok.kind,ok.glob,ok.blt,ok.above,ok.inj,ok.has,ok.cab,ok.hd,ok.frames,ok.stk,ok.exf,ok.bs,ok.bsz,ok.noex,ok.exfs,ok.funs,ok.frf⟩
theorem Cx.Ok.unwish(ok:(X.wish E).Ok):X.Ok:=
 ⟨ok.mod,ok.kind,ok.glob,ok.blt,ok.above,ok.inj,ok.has,ok.cab,ok.hd,ok.frames,ok.stk,ok.exf,ok.bs,ok.bsz,ok.noex,ok.exfs,ok.funs,ok.frf⟩
section
theorem qx.wish(I:qx X pins σ H s)(E:Value->Shared->Prop):qx (X.wish E) pins σ H s:=⟨I.ok.wish E,I.os,I.bare,I.base,I.loc,I.cell,I.free,I.freeC,I.pin,I.hok,I.len,I.tk⟩
theorem qx.unwish(I:qx (X.wish E) pins σ H s):qx X pins σ H s:=⟨I.ok.unwish,I.os,I.bare,I.base,I.loc,I.cell,I.free,I.freeC,I.pin,I.hok,I.len,I.tk⟩
theorem SP.unwish{D:sn}{f:Flow}(h:SP (X.wish E) pins D f s'):SP X pins D f s':=by
 cases f with
 |next=>obtain⟨σ',H',I,q⟩:=h;exact⟨σ',H',I.unwish,q⟩
 |brk=>obtain⟨σ',H',I,q⟩:=h;exact⟨σ',H',I.unwish,q⟩
 |cont=>obtain⟨σ',H',I,q⟩:=h;exact⟨σ',H',I.unwish,q⟩
 |ret u=>obtain⟨v,σ',H',I,r,q⟩:=h;exact⟨v,σ',H',I.unwish,r,q⟩
theorem l6.nox{st:List Stmt}{t:TS}(h:l6 X.nox st t):l6 X st t:=fun pins s σ H D I hw=>
 AY (h pins s σ H D (I.wish _) hw) (fun _ _ q=>q.unwish) fun _ _ z=>False.elim z
end
section
variable {rest:List Stmt}{t u:TS}{te:TE} 
def aip:TS:=fun D σ H=>D.nx σ H
def ami(t u:TS):TS:=fun D σ H=>t { D with nx:=u D } σ H
theorem acv:l6 X [] aip:=fun _ _ σ H _ I h=>wpAny_execs_nil ⟨σ,H,I,h⟩
theorem qQ(h1:PS X st t)(h2:l6 X rest u):l6 X (st::rest) (ami t u):=by
 intro pins s σ H D I h;refine wpAny_execs_cons (v0 (h1 pins s σ H { D with nx:=u D } I h) fun f s1 q=>?_);cases f with
 |next=>
  obtain⟨σ',H',I',q⟩:=q;exact h2 pins s1 σ' H' D I' q
 |ret v=>exact q
 |brk=>exact q
 |cont=>exact q
theorem ada(h1:PS X st t):l6 X [st] t:=by intro pins s σ H D I h;refine wpAny_execs_cons (v0 (h1 pins s σ H D I h) fun f s1 q=>?_);cases f with|next=>exact wpAny_execs_nil q|ret v=>exact q|brk=>exact q|cont=>exact q
def akg:TS:=fun D σ H=>D.ct σ H
theorem oy:PS X (.Continue pos) akg:=fun _ _ σ H _ I h=>wpAny_Continue ⟨σ,H,I,h⟩
theorem qx.quiet(I:qx X pins σ H s):interactive X.env=false:=by simp[interactive,I.ok.kind]
def ajf(te:TE):TS:=fun D σ H=>te σ H fun _ H1=>D.nx σ H1
theorem abv(he:PE X e te)(hs:swapsWith e none pos.line X.env=pure false:=by rfl):PS X (.Expr e pos) (ajf te):=by intro pins s σ H D I h;exact wpAny_Expr_any (v0 (he pins s σ H _ I h) fun v s1 ⟨x,H1,I1,r1,q1⟩=>⟨σ,H1,I1,q1⟩) I.quiet hs
def am5(te:TE):TS:=fun D σ H=>te σ H D.rt
theorem aft(he:PE X e te):PS X (.Return (some e) pos) (am5 te):=by intro pins s σ H D I h;exact wpAny_Return_some (v0 (he pins s σ H _ I h) fun v s1 ⟨x,H1,I1,r1,q1⟩=>⟨x,σ,H1,I1,r1,q1⟩)
def ak2:TS:=fun D _ H=>D.rt .non H
theorem ae3:PS X (.Return none pos) ak2:=fun _ _ σ H _ I h=>wpAny_Return_none ⟨.non,σ,H,I,rfl,h⟩
def amw(c:TT)(t u:TS):TS:=fun D σ H=>c σ H fun b H1=>if b=true then t D σ H1 else u D σ H1
theorem aij{a b:List Stmt}(hc:PT X c tc)(ha:l6 X a t)(hb:l6 X b u):PS X (.If c a b pos) (amw tc t u):=by intro pins s σ H D I h;refine wpAny_If (v0 (hc pins s σ H _ I h) fun d s1 ⟨H1,I1,q1⟩=>?_);cases d with|true=>exact ha pins s1 σ H1 D I1 q1|false=>exact hb pins s1 σ H1 D I1 q1
end
abbrev TG:=V->St->Hp->(St->Hp->Prop)->Prop
abbrev zM:=List V->St->Hp->(St->Hp->Prop)->Prop
def PG(X:Cx)(target:Expr)(t:TG):Prop:=
 ∀(pins:List (Addr×Obj)) (s:Shared) (σ:St) (H:Hp) (v:V) (u:Value) (Q:St->Hp->Prop),qx X pins σ H s->zk v u->t v σ H Q->
  wpAny (model X.prog X.w) X.A (assign target X.env u) (fun _ s'=>∃σ' H',qx X pins σ' H' s'/\Q σ' H') X.xe s
def PGs(X:Cx)(ts:List Expr)(t:zM):Prop:=
 ∀(pins:List (Addr×Obj)) (s:Shared) (σ:St) (H:Hp) (vs:List V) (us:List Value) (Q:St->Hp->Prop),qx X pins σ H s->ze vs us->t vs σ H Q->
  wpAny (model X.prog X.w) X.A (assignInOrder ((assignEach ts X.env).map (·.2)) us) (fun _ s'=>∃σ' H',qx X pins σ' H' s'/\Q σ' H') X.xe s
abbrev afl:=V->V->V->Hp->(Hp->Prop)->Prop
def aiy(X:Cx)(t:afl):Prop:=
 ∀(pins:List (Addr×Obj)) (s:Shared) (σ:St) (H:Hp) (o i v:V) (ov iv u:Value) (Q:Hp->Prop),qx X pins σ H s->zk o ov->zk i iv->zk v u->t o i v H Q->
  wpAny (model X.prog X.w) X.A (setItem ov iv u) (fun _ s'=>∃H',qx X pins σ H' s'/\Q H') X.xe s
section
def jY(i:Nat):TG:=fun v σ H Q=>Q (σ.set i (some v)) H
theorem tW(hN:X.N.Nodup)(hi:X.N[i]?=some x)(hx:yy X.env.scope x)(hf:X.fn x=true\/X.env.scope.names.lookup x=some .local:=by first | exact .inl rfl | exact .inr rfl | assumption):PG X (.Name x pos) (jY i):=by intro pins s σ H v u Q I r h;exact wpAny_assign_Name (fc I hN hi hx r (fun s' I'=>⟨_,H,I',h⟩) hf)
def ao4:zM:=fun vs σ H Q=>vs=[]/\Q σ H
def akk(t:TG)(u:zM):zM:=fun vs σ H Q=>∃v r,vs=v::r/\t v σ H fun σ' H'=>u r σ' H' Q
theorem abh:PGs X [] ao4:=by intro pins s σ H vs us Q I r h;obtain⟨e,h⟩:=h;subst e;cases r;exact assignInOrder_nil ⟨σ,H,I,h⟩
theorem zI{t:TG}{u:zM}(h1:PG X e t)(h2:PGs X es u)
 (hs:(assignEach (e::es) X.env).map (·.2)=assign e X.env::(assignEach es X.env).map (·.2):=by rfl):PGs X (e::es) (akk t u):=by
 intro pins s σ H vs us Q I r h;obtain⟨v,vr,e1,h⟩:=h;subst e1;cases r with
 |cons r rr=>
  rw[hs];refine assignInOrder_cons (v0 (h1 pins s σ H _ _ _ I r h) fun _ s1 ⟨σ1,H1,I1,q1⟩=>?_);exact h2 pins s1 σ1 H1 _ _ Q I1 rr q1
def anr(K:Ai)(n:Nat)(t:zM):TG:=fun v σ H Q=>∃a xs,v=.ref a/\cM K H a xs/\xs.length=n/\t xs σ H Q
theorem afk{k:Nat}{t:zM}(hc:X.calm=true)(h:PGs X es t)
 (hn:(assignEach es X.env).length=n:=by rfl) (hst:(assignEach es X.env).findIdx? (·.1)=none:=by rfl):PG X (.Tuple es k pos) (anr X.K n t):=by
 intro pins s σ H v u Q I r hw;obtain⟨a,xs,e1,hq,hl,hw⟩:=hw;subst e1;cases r;obtain⟨its,rv,ht,hz⟩:=I.tuple hq;refine assign_Tuple_tuple (I.ok.hd hc) ht (by simp[hn,<-hl,rv.length]) hst fun h' hx=>?_;have I1:qx X pins σ H { s with heap:=h' }:=I.kept (t':=s.toks) fun b o e=>hx b o (Bd (Heap.lt_size e)) e;exact h pins _ σ H xs _ Q I1 (by simpa using rv) hw
def alo(to ti:TE)(t:afl):TG:=fun v σ H Q=>to σ H fun o H1=>ti σ H1 fun i H2=>t o i v H2 fun H3=>Q σ H3
theorem ahx{i:Expr}{to ti:TE}{t:afl}(ho:PE X o to)(hi:PE X i ti)(hs:aiy X t)
 (ha:∀v,assign (.Subscript o i pos) X.env v=(do
  let ov <-holding [v] (eval o X.env)
  let iv <-holding [v,ov] (eval i X.env)
  standAt pos
  holding [v,ov,iv] (setItem ov iv v)
  release [v,ov,iv] []):=by intro _;rfl):PG X (.Subscript o i pos) (alo to ti t):=by
 intro pins s σ H v u Q I r h;rw[ha];refine Aa (A8 (v0 (ho pins s σ H _ I h) fun ov s1 ⟨x,H1,I1,r1,q1⟩=>?_));refine Aa (A8 (v0 (hi pins s1 σ H1 _ I1 q1) fun iv s2 ⟨y,H2,I2,r2,q2⟩=>?_));refine Aa (wpAny_standAt (Aa (A8 (v0 (hs pins s2 σ H2 x y v ov iv u _ I2 r1 r2 r q2) fun _ s3 ⟨H3,I3,q3⟩=>?_))));exact wpAny_release ⟨σ,H3,I3,q3⟩
def ahv(te:TE)(g:TG):TS:=fun D σ H=>te σ H fun x H1=>g x σ H1 D.nx
theorem zU{te:TE}{g:TG}(he:PE X e te)(hg:PG X tg g)(hs:swapsWithSole [tg] e pos.line X.env=pure false:=by rfl)(hw:swappedStores [tg] e X.env=pure none:=by rfl)
 (h1:(assignEach [tg] X.env).map (·.2)=[assign tg X.env]:=by rfl):PS X (.Assign [tg] e pos) (ahv te g):=by
 intro pins s σ H D I h;refine wpAny_Assign_stores (v0 (he pins s σ H _ I h) fun v s1 ⟨x,H1,I1,r1,q1⟩=>?_) hs hw;rw[h1];exact v0 (hg pins s1 σ H1 x v _ I1 r1 q1) fun _ s2 q=>q
theorem agh{te:TE}(hN:X.N.Nodup)(hi:X.N[i]?=some x)(hx:yy X.env.scope x)(he:PE X e te)(hs:swapsWith e (some (.Name x pos')) pos.line X.env=pure false:=by rfl)(hf:X.fn x=true\/X.env.scope.names.lookup x=some .local:=by first | exact .inl rfl | exact .inr rfl | assumption):
 PS X (.Assign [.Name x pos'] e pos) (ahv te (jY i)):=by
 intro pins s σ H D I h;refine wpAny_Assign_Name (v0 (he pins s σ H _ I h) fun v s1 ⟨y,H1,I1,r1,q1⟩=>?_) hs;exact fc I1 hN hi hx r1 (fun s2 I2=>⟨_,H1,I2,q1⟩) hf
def alg(i j:Nat)(ta:TA):TS:=fun D σ H=>ta σ H fun vs H1=>∃v w,vs=[v,w]/\D.nx ((σ.set i (some v)).set j (some w)) H1
theorem ahr{y:Str}{a b:Expr}{ta:TA}{px py pt:Pos}{kt k2 pt2}(hc:X.calm=true)(hN:X.N.Nodup)(hi:X.N[i]?=some x)(hj:X.N[j]?=some y)(hij:i≠j)
 (hx:X.env.scope.names.lookup x=some .local) (hy:X.env.scope.names.lookup y=some .local) (ha:PA X [a,b] ta)
 (hw:swappedStores [.Tuple [.Name x px,.Name y py] kt pt] (.Tuple [a,b] k2 pt2) X.env=pure (some [x,y]))
 (hs:swapsWithSole [.Tuple [.Name x px,.Name y py] kt pt] (.Tuple [a,b] k2 pt2) pos.line X.env=pure false:=by rfl):
 PS X (.Assign [.Tuple [.Name x px,.Name y py] kt pt] (.Tuple [a,b] k2 pt2) pos) (alg i j ta):=by
 intro pins s σ H D I h;rw[exec_Assign_arm];refine Aa (wpAny_standAt ?_);rw[hs];refine Aa (Ah ?_);rw[Az (by decide)];refine Aa (Tuple_ (v0 (ha _ pins s σ H _ I h) fun us s1 ⟨vs,H1,I1,r1,q1⟩=>?_));obtain⟨v,w,e1,q1⟩:=q1;subst e1;obtain⟨u1,u2,rfl,rv,rw'⟩:∃u1 u2,us=[u1,u2]/\zk v u1/\zk w u2:=by
  cases r1 with
  |cons p q=>
   cases q with
   |cons p' q'=>
    cases q';exact⟨_,_,rfl,p,p'⟩
 refine Bp ?_ (by show 2≤sizeLine;decide);have I2:qx X pins σ H1 { s1 with heap:=s1.heap.push { cls:=.type "tuple",data:=.seq [u1,u2].toArray } }:=I1.kept (t':=s1.toks) fun b o e=>Heap.get?_push_of_some _ e;rw[hw];refine Aa (Ah ?_);show wpAny (model X.prog X.w) X.A (do rule "assign.swapped-stores";let items <-unpackItems (.ref s1.heap.objs.size) 2 none;assignInOrder [fun v=>bindName X.env y v,fun v=>bindName X.env x v] items.reverse;pure Flow.next) _ _ _;refine Aa (Bw (Aa (unpackItems_tuple (items:=#[u1,u2]) (I.ok.hd hc) (IsTup.new s1.heap _) fun h' hx'=>?_)));have I3:=I2.kept (h':=h') (t':=s1.toks) fun b o e=>hx' b o (Bd (Heap.lt_size e)) e;show wpAny _ _ (assignInOrder [fun v=>bindName X.env y v,fun v=>bindName X.env x v] [u2,u1] >>= fun _=>pure Flow.next) _ _ _;refine Aa (assignInOrder_cons (wpAny_bindName (fc I3 hN hj (.inl hy) rw' (fun s2 I4=>?_) (.inr hy))));refine assignInOrder_cons (wpAny_bindName (fc I4 hN hi (.inl hx) rv (fun s3 I5=>assignInOrder_nil (Ah ?_)) (.inr hx)));rw[List.set_comm _ _ (AM hij)] at I5;exact⟨_,H1,I5,q1⟩
end
section
def afg(c:TT)(tb:TS):TS:=fun D σ H=>∃W:Nat->St->Hp->Prop,(∃m,W m σ H)/\∀m σ H,W m σ H->
 c σ H fun b H1=>if b=true then ∃N:St->Hp->Prop,(∀σ' H',N σ' H'->∃m',m'<m/\W m' σ' H')/\tb { D with nx:=N,ct:=N,bk:=D.nx } σ H1 else D.nx σ H1
theorem yU{tb:TS}(hp:PassesOwn (model X.prog X.w) X.A X.env X.xe)(hc:PT X c tc)(hb:l6 X body tb):PS X (.While c body [] pos) (afg tc tb):=by
 intro pins s σ H D I h;obtain⟨W,⟨m0,w0⟩,turn⟩:=h;refine wpAny_While (codeAny_whileLoop (fun n s'=>∃σ' H',qx X pins σ' H' s'/\W n σ' H') ?_ m0 ⟨σ,H,I,w0⟩);rintro n s1 ⟨σ1,H1,I1,w1⟩;refine wpAny_passesOwn hp (v0 (hc pins s1 σ1 H1 _ I1 (turn n σ1 H1 w1)) fun b s2 ⟨H2,I2,q2⟩=>?_);cases b with
 |true=>
  obtain⟨N,hN,q2⟩:=q2;rw[AB rfl];refine wpAny_passesOwn hp (v0 (hb pins s2 σ1 H2 _ I2 q2) fun f s3 q3=>?_);cases f with
  |next=>
   obtain⟨σ3,H3,I3,n3⟩:=q3;obtain⟨m',hm,w3⟩:=hN σ3 H3 n3;exact⟨m',hm,σ3,H3,I3,w3⟩
  |cont=>
   obtain⟨σ3,H3,I3,n3⟩:=q3;obtain⟨m',hm,w3⟩:=hN σ3 H3 n3;exact⟨m',hm,σ3,H3,I3,w3⟩
  |brk=>exact q3
  |ret v=>exact q3
 |false=>
  rw[Az AC];exact wpAny_execs_nil ⟨σ1,H2,I2,q2⟩
end
structure It where
 go:Nat->Hp->Prop
 yld:Nat->Hp->V->Hp->Prop
 stop:Nat->Hp->Prop
def lT(X:Cx)(pins:List (Addr×Obj))(H:Hp)(b:Addr):Prop:=
 H b=none/\b≠X.env.locals/\b∉X.fs/\(b∈X.ex\/X.s₀.heap.objs.size≤b)/\(∀x c,X.env.cells.lookup x=some c->c≠b)/\∀p∈X.pn++pins,p.1≠b
theorem qx.fpOk{b:Addr}(I:qx X pins σ H s)(hb:s.heap.objs.size≤b)(hn:H' b=none):lT X pins H' b:=by
 refine⟨hn,C0 (AR I.lt hb),I.nofs hb,.inr (AW I.sz hb),fun x c e z=>?_,fun p hp z=>?_⟩
 ·obtain⟨v,q⟩:=I.cell x c e;exact absurd (AR q.lt (by rw[z];exact hb)) (Dg _)
 ·exact absurd (AR (Heap.lt_size (I.pin p hp).1) (by rw[z];exact hb)) (Dg _)
structure wB(P:Program)(w:World)(K:Ai)(tg:Expr)(J:It)(fp:List Addr)(it:Addr)(tn:Nat->Heap->Prop):Prop where
 mem:it∈fp
 obj:∀i h,tn i h->∀b∈fp,∃o,h.get? b=some o/\∀v,o.data≠.cell v
 keep:∀i h h',tn i h->(∀b∈fp,∀o,h.get? b=some o->h'.get? b=some o)->tn i h'
 item:∀(X:Cx),X.prog=P->X.w=w->X.K=K->X.calm=true->∀(i:Nat) (pins:List (Addr×Obj)) (s:Shared) (σ:St) (H:Hp) (E:Value->Shared->Prop),qx X pins σ H s->(∀b∈fp,lT X pins H b)->tn i s.heap->J.go i H->
  wpAny (model P w) X.A (pyNext (.ref it)) (fun r s1=>∃u,r=some u/\
   wpAny (model P w) X.A (letOwnedTupleGo tg (.ref it) u) (fun _ s2=>∃x H',qx X pins σ H' s2/\zk x u/\J.yld i H x H'/\tn (i+1) s2.heap/\∀b∈fp,H' b=none) E s1) E s
 done:∀(X:Cx),X.prog=P->X.w=w->X.K=K->X.calm=true->∀(i:Nat) (pins:List (Addr×Obj)) (s:Shared) (σ:St) (H:Hp) (E:Value->Shared->Prop),qx X pins σ H s->(∀b∈fp,lT X pins H b)->tn i s.heap->J.stop i H->
  wpAny (model P w) X.A (pyNext (.ref it)) (fun r s1=>r=none/\qx X pins σ H s1) E s
 self:∀(A:Around) (i:Nat) (s:Shared) (Q:Value->Shared->Prop) (E:Value->Shared->Prop),tn i s.heap->Q (.ref it) s->wpAny (model P w) A (pyIter (.ref it)) Q E s
abbrev TI:=St->Hp->(It->Hp->Prop)->Prop
def PIE(X:Cx)(pins:List (Addr×Obj))(σ:St)(tg:Expr)(R:It->Hp->Prop)(itv:Value)(s2:Shared):Prop:=
 ∃(it:Addr) (fp:List Addr) (tn:Nat->Heap->Prop) (J:It) (H':Hp),itv=.ref it/\qx X pins σ H' s2/\wB X.prog X.w X.K tg J fp it tn/\tn 0 s2.heap/\(∀b∈fp,lT X pins H' b)/\R J H'
def PI(X:Cx)(tg iter:Expr)(wi:TI):Prop:=
 ∀(pins:List (Addr×Obj)) (s:Shared) (σ:St) (H:Hp) (R:It->Hp->Prop),qx X pins σ H s->wi σ H R->
  wpAny (model X.prog X.w) X.A (eval iter X.env) (fun v s1=>wpAny (model X.prog X.w) X.A (pyIter v) (PIE X pins σ tg R) X.xe s1) X.xe s
theorem zW{o:Obj}{n:String}{vs:Array Value}{Q:Unit->Shared->Prop}(ho:s.heap.get? it=some o)(hc:o.cls=.type n)(hd:o.data=.fields vs)
 (hn:["enumerate", "zip", "dict_itemiterator", "dict_reverseitemiterator", "odict_iterator", "itertools.zip_longest", "itertools.pairwise"].contains n=false) (hQ:Q () s):wpAny M A (letOwnedTupleGo tg (.ref it) u) Q E s:=by
 unfold letOwnedTupleGo;cases tg<;>first
  |exact Ah hQ
  |(cases u<;>first
   |exact Ah hQ
   |(refine Aa (wpAny_load ho ?_)
     rw[hc,hd];show wpAny M A (if (["enumerate", "zip", "dict_itemiterator", "dict_reverseitemiterator", "odict_iterator", "itertools.zip_longest", "itertools.pairwise"].contains n&&vs[0]?==some (rawInt _))=true then _ else _) Q E s;rw[Az (by intro h;rw[hn,Bool.false_and] at h;cases h)];exact Ah hQ))
def Itl(K:Ai)(a:Addr):It:=
 ⟨fun i H=>∃xs x,wv K H a xs/\xs[i]?=some x,fun i H x H'=>H'=H/\∀xs,wv K H a xs->xs[i]?=some x,fun i H=>∃xs,wv K H a xs/\xs.length≤i⟩
def Itt(K:Ai)(a:Addr):It:=
 ⟨fun i H=>∃xs x,cM K H a xs/\xs[i]?=some x,fun i H x H'=>H'=H/\∀xs,cM K H a xs->xs[i]?=some x,fun i H=>∃xs,cM K H a xs/\xs.length≤i⟩
def Itr(lo:Int)(n:Nat):It:=⟨fun i _=>i<n,fun i H x H'=>H'=H/\x=.int (lo+i),fun i _=>n≤i⟩
theorem wP{P:Program}{w:World}{K:Ai}(a it:Addr):wB P w K tg (Itl K a) [it] it (fun i h=>h.IsListIter it a i) where
 mem:=by simp
 obj:=fun i h st b hb=>by
  have e:b=it:=by simpa using hb
  subst e;obtain⟨o,e,c,d⟩:=st;exact⟨o,e,fun v z=>by rw[d] at z;cases z⟩
 keep:=fun i h h' st k=>st.at fun o e=>k it (by simp) o e
 item:=by intro X hP hw hK hc i pins s σ H E I hf st hg;subst hP hw hK;obtain⟨xs,x,hq,hx⟩:=hg;obtain⟨its,rv,p,hz⟩:=I.list hq;obtain⟨u,hu,ru⟩:=rv.get hx;obtain⟨f0,f1,f2,f3,f4,f5⟩:=hf it (by simp);refine wpAny_pyNext_list_item st p.isList (x:=u) (by simpa using hu) fun h' st' sb=>?_;have I1:qx X pins σ H { s with heap:=h' }:=I.turned (t':=s.toks) (fun b o hb e=>(sb.2 b hb).trans e) f0 f1 f3 f4 f5;obtain⟨o,e,c,d⟩:=id st';exact⟨u,rfl,zW (s:={ s with heap:=h' }) e c d (by decide) ⟨x,H,I1,ru,⟨rfl,fun ys hy=>by rw[I.list_inj hy hq];exact hx⟩,st',fun b hb=>(hf b hb).1⟩⟩
 done:=by intro X hP hw hK hc i pins s σ H E I hf st hg;subst hP hw hK;obtain⟨xs,hq,hx⟩:=hg;obtain⟨its,rv,p,hz⟩:=I.list hq;obtain⟨f0,f1,f2,f3,f4,f5⟩:=hf it (by simp);have hl:=rv.length;exact wpAny_pyNext_list_end (I.ok.hd hc) st p.isList (by simp;omega) fun h' eb=>⟨rfl,I.turned (t':=s.toks) (fun b o hb e=>eb b o hb e) f0 f1 f3 f4 f5⟩
 self:=fun _ _ _ _ _ st h=>wpAny_pyIter_listiter st h
theorem rf{P:Program}{w:World}{K:Ai}(a it:Addr):wB P w K tg (Itt K a) [it] it (fun i h=>h.IsTupleIter it a i) where
 mem:=by simp
 obj:=fun i h st b hb=>by
  have e:b=it:=by simpa using hb
  subst e;obtain⟨o,e,c,d⟩:=st;exact⟨o,e,fun v z=>by rw[d] at z;cases z⟩
 keep:=fun i h h' st k=>st.at fun o e=>k it (by simp) o e
 item:=by intro X hP hw hK hc i pins s σ H E I hf st hg;subst hP hw hK;obtain⟨xs,x,hq,hx⟩:=hg;obtain⟨its,rv,p,hz⟩:=I.tuple hq;obtain⟨u,hu,ru⟩:=rv.get hx;obtain⟨f0,f1,f2,f3,f4,f5⟩:=hf it (by simp);refine wpAny_pyNext_tuple_item st (show s.heap.IsTuple a its.toArray from p) (x:=u) (by simpa using hu) fun h' st' sb=>?_;have I1:qx X pins σ H { s with heap:=h' }:=I.turned (t':=s.toks) (fun b o hb e=>(sb.2 b hb).trans e) f0 f1 f3 f4 f5;obtain⟨o,e,c,d⟩:=id st';exact⟨u,rfl,zW (s:={ s with heap:=h' }) e c d (by decide) ⟨x,H,I1,ru,⟨rfl,fun ys hy=>by rw[I.tuple_inj hy hq];exact hx⟩,st',fun b hb=>(hf b hb).1⟩⟩
 done:=by intro X hP hw hK hc i pins s σ H E I hf st hg;subst hP hw hK;obtain⟨xs,hq,hx⟩:=hg;obtain⟨its,rv,p,hz⟩:=I.tuple hq;obtain⟨f0,f1,f2,f3,f4,f5⟩:=hf it (by simp);have hl:=rv.length;exact wpAny_pyNext_tuple_end (I.ok.hd hc) st (show s.heap.IsTuple a its.toArray from p) (by simp;omega) fun h' eb=>⟨rfl,I.turned (t':=s.toks) (fun b o hb e=>eb b o hb e) f0 f1 f3 f4 f5⟩
 self:=fun _ _ _ _ _ st h=>wpAny_pyIter_tupleiter st h
theorem rh{P:Program}{w:World}{K:Ai}(it:Addr)(lo:Int)(n:Nat):wB P w K tg (Itr lo n) [it] it (fun i h=>IsRangeIter h it (lo+(i:Nat)*1) ((n:Int) - (i:Nat)) 1) where
 mem:=by simp
 obj:=fun i h st b hb=>by
  have e:b=it:=by simpa using hb
  subst e;exact⟨_,st,fun v z=>by have z':Data.fields _=Data.cell v:=z;cases z'⟩
 keep:=fun i h h' st k=>k it (by simp) _ st
 item:=by intro X hP hw hK hc i pins s σ H E I hf st hg;subst hP hw hK;obtain⟨f0,f1,f2,f3,f4,f5⟩:=hf it (by simp);have W:=Walks.range (prog:=X.prog) (w:=X.w) (I.ok.hd hc) it lo 1 n;refine jr I.tk (W.item i s _ _ hg st fun v h' tk hv st' kk ht=>?_);obtain⟨t,rfl⟩:=hv;have I1:qx X pins σ H { s with heap:=h',toks:=tk }:=I.turned (fun b o hb e=>kk b o (by simpa using hb) e) f0 f1 f3 f4 f5;refine⟨_,rfl,zW (s:={ s with heap:=h',toks:=tk }) (n:="range_iterator") st' rfl rfl (by decide) ⟨.int (lo+i),H,I1,⟨t,?_⟩,⟨rfl,rfl⟩,st',fun b hb=>(hf b hb).1⟩⟩;rw[Int.mul_one]
 done:=by intro X hP hw hK hc i pins s σ H E I hf st hg;subst hP hw hK;obtain⟨f0,f1,f2,f3,f4,f5⟩:=hf it (by simp);exact wpAny_pyNext_range_end (I.ok.hd hc) st (by have:n≤i:=hg;omega) fun h' eb=>⟨rfl,I.turned (t':=s.toks) (fun b o hb e=>eb b o hb e) f0 f1 f3 f4 f5⟩
 self:=fun _ _ _ _ _ st h=>wpAny_pyIter_rangeiter st h
end L2
variable {wi:L2.TI}
namespace L2
open PySem PySem.Spec PyProof.Rows
section
def ajz(K:Ai)(tl:TE):TI:=fun σ H R=>tl σ H fun x H1=>∃a,x=.ref a/\(∃xs,wv K H1 a xs)/\R (Itl K a) H1
def anq(K:Ai)(tl:TE):TI:=fun σ H R=>tl σ H fun x H1=>∃a,x=.ref a/\(∃xs,cM K H1 a xs)/\R (Itt K a) H1
theorem adi{l:Expr}{tl:TE}(hl:PE X l tl):PI X tg l (ajz X.K tl):=by
 intro pins s σ H R I h;refine v0 (hl pins s σ H _ I h) fun v s1 ⟨x,H1,I1,r1,q1⟩=>?_;obtain⟨a,e,⟨xs,hq⟩,q⟩:=q1;subst e;cases r1;obtain⟨its,rv,p,hz⟩:=I1.list hq;refine wpAny_pyIter_list p.isList ?_;refine⟨s1.heap.objs.size,[s1.heap.objs.size],_,_,H1,rfl,I1.kept (t':=s1.toks) fun b o e=>Heap.get?_push_of_some _ e,wP a _,⟨_,Heap.get?_push_size _ rfl,rfl,rfl⟩,fun b hb=>?_,q⟩;have e:b=s1.heap.objs.size:=by simpa using hb
 subst e;exact I1.fpOk (An _) (I1.hok.fresh (An _))
theorem ag7{l:Expr}{tl:TE}(hl:PE X l tl):PI X tg l (anq X.K tl):=by
 intro pins s σ H R I h;refine v0 (hl pins s σ H _ I h) fun v s1 ⟨x,H1,I1,r1,q1⟩=>?_;obtain⟨a,e,⟨xs,hq⟩,q⟩:=q1;subst e;cases r1;obtain⟨its,rv,p,hz⟩:=I1.tuple hq;refine wpAny_pyIter_tuple (show s1.heap.IsTuple a its.toArray from p) ?_;refine⟨s1.heap.objs.size,[s1.heap.objs.size],_,_,H1,rfl,I1.kept (t':=s1.toks) fun b o e=>Heap.get?_push_of_some _ e,rf a _,⟨_,Heap.get?_push_size _ rfl,rfl,rfl⟩,fun b hb=>?_,q⟩;have e:b=s1.heap.objs.size:=by simpa using hb
 subst e;exact I1.fpOk (An _) (I1.hok.fresh (An _))
theorem xX{R:It->Hp->Prop}{hi:Int}{t u v:Tok}{tk:Nat}(I:qx X pins σ H s)(h1 : -(2 ^ 62)≤lo)(h2:lo<2 ^ 62)(h3 : -(2 ^ 62)≤hi)(h4:hi<2 ^ 62)
 (q:R (Itr lo (hi - lo).toNat) H) (ht:0<tk:=by walk_at "t"):wpAny (model X.prog X.w) X.A (pyIter (.ref s.heap.objs.size)) (PIE X pins σ tg R) E { s with heap:=s.heap.push { cls:=.type "range",data:=.fields #[.int lo t,.int hi u,.int 1 v] },toks:=tk }:=by
 refine wpAny_pyIter_range (IsRange.new ..) (small_one h1 h2 h3 h4) ?_;have I1:qx X pins σ H { s with heap:=s.heap.push { cls:=.type "range",data:=.fields #[.int lo t,.int hi u,.int 1 v] },toks:=tk }:=I.kept fun b o e=>Heap.get?_push_of_some _ e;refine⟨(s.heap.push { cls:=.type "range",data:=.fields #[.int lo t,.int hi u,.int 1 v] }).objs.size,[(s.heap.push { cls:=.type "range",data:=.fields #[.int lo t,.int hi u,.int 1 v] }).objs.size],_,_,H,rfl,
  I1.kept (t':=tk) fun b o e=>Heap.get?_push_of_some _ e,rh _ lo (hi - lo).toNat,?_,fun b hb=>?_,q⟩
 ·have e1:lo+((0:Nat):Int)*1=lo:=by simp
  have e2:(((hi - lo).toNat:Nat):Int) - ((0:Nat):Int)=Builtin.Range.rangeSize lo hi 1:=by rw[rangeSize_one];split<;>omega
  show IsRangeIter _ _ (lo+((0:Nat):Int)*1) ((((hi - lo).toNat:Nat):Int) - ((0:Nat):Int)) 1;rw[e1,e2];exact Heap.get?_push_size _ rfl
 ·have e:b=(s.heap.push { cls:=.type "range",data:=.fields #[.int lo t,.int hi u,.int 1 v] }).objs.size:=by simpa using hb
  subst e;exact I1.fpOk (An _) (I1.hok.fresh (An _))
def aki(ta:TA):TI:=fun σ H R=>ta σ H fun vs H1=>∃j:Int,vs=[.int j] /\ -(2 ^ 62)≤j/\j<2 ^ 62/\R (Itr 0 j.toNat) H1
theorem xB{a:Expr}{ta:TA}(hg:Gl X "range")(hm:X.mg "range" = none)(ha:PA X [a] ta)(hs:starEach [a] X.env=[(false,eval a X.env)]:=by rfl):PI X tg (.Call (.Name "range" p) [a] [] pos) (aki ta):=by
 intro pins s σ H R I h;refine Call_ (du I hg hm boot_range (BZ (v0 (ha pos pins s σ H _ I h) fun us s1 ⟨vs,H1,I1,r1,q1⟩=>?_) hs rfl));obtain⟨j,e,q1,q2,q⟩:=q1;subst e;cases r1 with
 |cons r rr=>
  cases rr;obtain⟨t,rfl⟩:=r;exact call_range_1 (xX I1 (by omega) (by omega) q1 q2 (by simpa using q))
def an2(wi:TI)(g:TG)(tb:TS):TS:=fun D σ H=>wi σ H fun J H1=>∃W:Nat->Nat->St->Hp->Prop,(∃m,W 0 m σ H1)/\∀i m σ H,W i m σ H->
 (J.stop i H/\D.nx σ H)\/(J.go i H/\∃N:St->Hp->Prop,(∀σ' H',N σ' H'->∃m',m'<m/\W (i+1) m' σ' H')/\∀x H',J.yld i H x H'->g x σ H' fun σ2 H2=>tb { D with nx:=N,ct:=N,bk:=D.nx } σ2 H2)
def jE(fp:List Addr)(h:Heap):List (Addr×Obj):=fp.filterMap fun b=>(h.get? b).map fun o=>(b,o)
theorem bx{b:Addr}{o:Obj}(hb:b∈fp)(e:h.get? b=some o):(b,o)∈jE fp h:=List.mem_filterMap.mpr ⟨b,hb,by rw[e];rfl⟩
theorem uc{p:Addr×Obj}(hp:p∈jE fp h):p.1∈fp/\h.get? p.1=some p.2:=by
 obtain⟨b,hb,e⟩:=List.mem_filterMap.mp hp;cases q:h.get? b with
 |none=>rw[q] at e;cases e
 |some o=>
  rw[q] at e;have e':(b,o)=p:=A4 e;subst e';exact⟨hb,q⟩
theorem qx.pinned(I:qx X pins σ H s)(hf:∀b∈fp,lT X pins H b)(ho:∀b∈fp,∃o,s.heap.get? b=some o/\∀v,o.data≠.cell v):qx X (pins++jE fp s.heap) σ H s:=
 I.pins_of fun p hp=>(Al.mp hp).elim (fun z=>I.pin p (Af _ z)) fun z=>by obtain⟨hb,e⟩:=uc z;obtain⟨f0,f1,f2,_⟩:=hf p.1 hb;obtain⟨o,e',d⟩:=ho p.1 hb;rw[e] at e';cases e';exact⟨e,f0,f1,f2,d⟩
theorem qx.unpinned{pl:List (Addr×Obj)}(I:qx X (pins++pl) σ H s):qx X pins σ H s:=I.pins_of fun p hp=>I.pin p (Af _ (Ar _ hp))
theorem ah9{iter:Expr}{g:TG}{tb:TS}(hp:PassesOwn (model X.prog X.w) X.A X.env X.xe)(hc:X.calm=true)(hi:PI X tg iter wi)(hg:PG X tg g)(hb:l6 X body tb)
 (hs:∀x,foldedSetIterable iter X.env x=pure x:=by intro _;rfl):PS X (.For tg iter body [] pos) (an2 wi g tb):=by
 intro pins s σ H D I h;refine wpAny_For (v0 (hi pins s σ H _ I h) fun v s1 h1=>v0 h1 fun itv s2 h2=>?_) hs;obtain⟨it,fp,tn,J,H2,e,I2,T,st2,f2,W,⟨m0,w0⟩,turn⟩:=h2;subst e;have stat:∀{H':Hp},(∀b∈fp,H' b=none)->∀b∈fp,lT X pins H' b:=fun hn b hb=>⟨hn b hb,(f2 b hb).2⟩;refine codeAny_forLoop_any (fun n s'=>∃i σ' H',qx X pins σ' H' s'/\tn i s'.heap/\(∀b∈fp,H' b=none)/\W i n σ' H') ?_ m0 ⟨0,σ,H2,I2,st2,fun b hb=>(f2 b hb).1,w0⟩;rintro n s3 ⟨i,σ3,H3,I3,st3,fr3,w3⟩;rcases turn i n σ3 H3 w3 with⟨stop,qn⟩ | ⟨go,N,hN,step⟩
 ·refine wpAny_passesOwn hp (v0 (T.done X rfl rfl rfl hc i pins s3 σ3 H3 X.xe I3 (stat fr3) st3 stop) fun r s4 ⟨hr,I4⟩=>?_);subst hr;exact wpAny_execs_nil ⟨σ3,H3,I4,qn⟩
 ·refine wpAny_passesOwn hp (v0 (T.item X rfl rfl rfl hc i pins s3 σ3 H3 X.xe I3 (stat fr3) st3 go) fun r s4 ⟨u,hr,h4⟩=>?_);subst hr;refine wpAny_passesOwn hp (v0 h4 fun _ s5 ⟨x,H5,I5,r5,y5,xH,fr5⟩=>?_);have I5':=I5.pinned (stat fr5) (T.obj _ _ xH);refine wpAny_passesOwn hp (v0 (hg _ s5 σ3 H5 x u _ I5' r5 (step x H5 y5)) fun _ s6 ⟨σ6,H6,I6,q6⟩=>?_);refine wpAny_passesOwn hp (v0 (hb _ s6 σ6 H6 _ I6 q6) fun f s7 q7=>?_);have again:∀{σ7:St} {H7:Hp},qx X (pins++jE fp s5.heap) σ7 H7 s7->N σ7 H7->∃m,m<n/\∃i σ' H',qx X pins σ' H' s7/\tn i s7.heap/\(∀b∈fp,H' b=none)/\W i m σ' H':=fun {σ7 H7} I7 n7=>by obtain⟨m',hm,w7⟩:=hN σ7 H7 n7;refine⟨m',hm,i+1,σ7,H7,I7.unpinned,T.keep _ _ _ xH fun b hb o e=>(I7.pin (b,o) (Af _ (Af _ (bx hb e)))).1,fun b hb=>?_,w7⟩;obtain⟨o,e,d⟩:=T.obj _ _ xH b hb;exact(I7.pin (b,o) (Af _ (Af _ (bx hb e)))).2.1
  cases f with
  |next=>obtain⟨σ7,H7,I7,n7⟩:=q7;exact again I7 n7
  |cont=>obtain⟨σ7,H7,I7,n7⟩:=q7;exact again I7 n7
  |brk=>obtain⟨σ7,H7,I7,q7⟩:=q7;exact⟨σ7,H7,I7.unpinned,q7⟩
  |ret v=>obtain⟨x7,σ7,H7,I7,r7,q7⟩:=q7;exact⟨x7,σ7,H7,I7.unpinned,r7,q7⟩
end
abbrev R2:=V->V->Hp->VK->Prop
def kq(X:Cx)(f:Value->Value->Sem Value)(r:R2):Prop:=
 ∀(pins:List (Addr×Obj)) (s:Shared) (σ:St) (H:Hp) (x y:V) (v u:Value) (Q:VK),qx X pins σ H s->zk x v->zk y u->r x y H Q->
  wpAny (model X.prog X.w) X.A (f v u) (EP X pins σ Q) X.xe s
def UnR(X:Cx)(f:Value->Sem Value)(r:V->Hp->VK->Prop):Prop:=
 ∀(pins:List (Addr×Obj)) (s:Shared) (σ:St) (H:Hp) (x:V) (v:Value) (Q:VK),qx X pins σ H s->zk x v->r x H Q->
  wpAny (model X.prog X.w) X.A (f v) (EP X pins σ Q) X.xe s
def jk(X:Cx)(f:Value)(r:List V->Hp->VK->Prop):Prop:=
 ∀(pins:List (Addr×Obj)) (s:Shared) (σ:St) (H:Hp) (xs:List V) (us:List Value) (Q:VK),qx X pins σ H s->ze xs us->r xs H Q->
  wpAny (model X.prog X.w) X.A (call f us) (EP X pins σ Q) X.xe s
def tOp(r:R2)(ta tb:TE):TE:=fun σ H Q=>ta σ H fun x H1=>tb σ H1 fun y H2=>r x y H2 Q
def tUn(r:V->Hp->VK->Prop)(ta:TE):TE:=fun σ H Q=>ta σ H fun x H1=>r x H1 Q
def rI(C:Int->Int->Prop)(g:Int->Int->V):R2:=fun x y H Q=>∃i j,x=.int i/\y=.int j/\C i j/\Q (g i j) H
def rI0(g:Int->Int->V):R2:=fun x y H Q=>∃i j,x=.int i/\y=.int j/\Q (g i j) H
def rU(g:Int->V):V->Hp->VK->Prop:=fun x H Q=>∃i,x=.int i/\Q (g i) H
section
variable {a b:Expr}{tb tc:TE} 
theorem afq(ha:PE X a ta)(hb:PE X b tb){R:V->V->Hp->Prop}(I:qx X pins σ H s)
 (h:ta σ H fun x H1=>tb σ H1 fun y H2=>R x y H2) {f:Value->Value->Sem Value}
 (hf:∀v u s2 x y H2,qx X pins σ H2 s2->zk x v->zk y u->R x y H2->wpAny (model X.prog X.w) X.A (f v u) Q X.xe s2):
 wpAny (model X.prog X.w) X.A (eval a X.env) (fun v s₁=>wpAny (model X.prog X.w) X.A (eval b X.env) (fun u s₂=>wpAny (model X.prog X.w) X.A (f v u) Q X.xe s₂) X.xe s₁) X.xe s:=by
 refine v0 (ha pins s σ H _ I h) fun v s1 ⟨x,H1,I1,r1,q1⟩=>?_;refine v0 (hb pins s1 σ H1 _ I1 q1) fun u s2 ⟨y,H2,I2,r2,q2⟩=>?_;exact hf v u s2 x y H2 I2 r1 r2 q2
theorem ajq{op:Operator}{r:R2}(ho:kq X (binaryOp op) r)(ha:PE X a ta)(hb:PE X b tb):PE X (.BinOp a op b pos) (tOp r ta tb):=by intro pins s σ H Q I h;exact wpAny_BinOp (afq ha hb I h fun v u s2 x y H2 I2 rx ry q=>ho pins s2 σ H2 x y v u Q I2 rx ry q)
theorem aiw{op:UnaryOp}{r:V->Hp->VK->Prop}(ho:UnR X (unaryOp op) r)(ha:PE X a ta):PE X (.UnaryOp op a pos) (tUn r ta):=by intro pins s σ H Q I h;exact UnaryOp_ (v0 (ha pins s σ H _ I h) fun v s1 ⟨x,H1,I1,r1,q1⟩=>ho pins s1 σ H1 x v Q I1 r1 q1)
theorem opI{f:Value->Value->Sem Value}{C:Int->Int->Prop}{g:Int->Int->Int}
 (rule:∀(i j:Int) (t u:Tok) (s:Shared) (Q:Value->Shared->Prop) (E:Value->Shared->Prop),C i j->Q (.int (g i j) s.toks) { s with toks:=s.toks+1 }->wpAny (model X.prog X.w) X.A (f (.int i t) (.int j u)) Q E s):
 kq X f (rI C fun i j=>.int (g i j)):=by
 intro pins s σ H x y v u Q I rx ry h;obtain⟨i,j,rfl,rfl,hc,q⟩:=h;obtain⟨t,rfl⟩:=rx;obtain⟨t',rfl⟩:=ry;exact rule i j t t' s _ _ hc ⟨.int (g i j),H,I.tok _,⟨_,rfl⟩,q⟩
theorem ail{f:Value->Value->Sem Value}{g:Int->Int->Int}
 (rule:∀(i j:Int) (t u:Tok) (s:Shared) (Q:Value->Shared->Prop) (E:Value->Shared->Prop),Q (.int (g i j) s.toks) { s with toks:=s.toks+1 }->wpAny (model X.prog X.w) X.A (f (.int i t) (.int j u)) Q E s):
 kq X f (rI0 fun i j=>.int (g i j)):=by
 intro pins s σ H x y v u Q I rx ry h;obtain⟨i,j,rfl,rfl,q⟩:=h;obtain⟨t,rfl⟩:=rx;obtain⟨t',rfl⟩:=ry;exact rule i j t t' s _ _ ⟨.int (g i j),H,I.tok _,⟨_,rfl⟩,q⟩
theorem ack{f:Value->Value->Sem Value}{g:Int->Int->Bool}
 (rule:∀(i j:Int) (t u:Tok) (s:Shared) (Q:Value->Shared->Prop) (E:Value->Shared->Prop),Q (.bool (g i j)) s->wpAny (model X.prog X.w) X.A (f (.int i t) (.int j u)) Q E s):
 kq X f (rI0 fun i j=>.bl (g i j)):=by
 intro pins s σ H x y v u Q I rx ry h;obtain⟨i,j,rfl,rfl,q⟩:=h;obtain⟨t,rfl⟩:=rx;obtain⟨t',rfl⟩:=ry;exact rule i j t t' s _ _ ⟨.bl (g i j),H,I,rfl,q⟩
def ahh(i j:Int):Prop:=0<j/\j<1073741824
def af9(i j:Int):Prop:=0≤j/\j≤1000000/\i.natAbs<2 ^ 64
def aag(i j:Int):Prop:=(-(2 ^ 64)<i/\i<2 ^ 64)\/(-(2 ^ 64)<j/\j<2 ^ 64)
theorem aag.ok{i j:Int}(h:aag i j):IntMulOk i j:=by
 rcases h with⟨h1,h2⟩ | ⟨h1,h2⟩
 ·exact .of_left (intBits_le_64 h1 h2)
 ·exact .of_right (intBits_le_64 h1 h2)
theorem agy:kq X (binaryOp .Add) (rI0 fun i j=>.int (i+j)):=ail fun _ _ _ _ _ _ _ q=>add_int q
theorem ahf:kq X (binaryOp .Sub) (rI0 fun i j=>.int (i - j)):=ail fun _ _ _ _ _ _ _ q=>sub_int q
theorem ah2:kq X (binaryOp .Mult) (rI aag fun i j=>.int (i*j)):=opI fun _ _ _ _ _ _ _ hc q=>mul_int q hc.ok
theorem ad8:kq X (binaryOp .FloorDiv) (rI ahh fun i j=>.int (i / j)):=opI fun i j _ _ _ _ _ hc q=>by have h1:(0:Int)<j:=hc.1;have h2:j<1073741824:=hc.2;exact floordiv_int (by omega) (by rw[Int.fdiv_eq_ediv_of_nonneg i (by omega)];exact q) (.inl (PyProof.noPylong_small (by omega)))
theorem afo:kq X (binaryOp .Mod) (rI (fun _ j=>0<j) fun i j=>.int (i % j)):=opI fun i j _ _ _ _ _ hc q=>by have h1:(0:Int)<j:=hc;exact mod_int' (by omega) (by rw[Int.fmod_eq_emod_of_nonneg i (by omega)];exact q)
theorem agj:kq X (binaryOp .Pow) (rI af9 fun i j=>.int (i ^ j.toNat)):=opI fun _ _ _ _ _ _ _ hc q=>pow_int_small hc.1 hc.2.1 hc.2.2 q
theorem unI{f:Value->Sem Value}{g:Int->Int}
 (rule:∀(i:Int) (t:Tok) (s:Shared) (Q:Value->Shared->Prop) (E:Value->Shared->Prop),Q (.int (g i) s.toks) { s with toks:=s.toks+1 }->wpAny (model X.prog X.w) X.A (f (.int i t)) Q E s):
 UnR X f (rU fun i=>.int (g i)):=by
 intro pins s σ H x v Q I rx h;obtain⟨i,rfl,q⟩:=h;obtain⟨t,rfl⟩:=rx;exact rule i t s _ _ ⟨.int (g i),H,I.tok _,⟨_,rfl⟩,q⟩
theorem ah5:UnR X (unaryOp .USub) (rU fun i=>.int (-i)):=unI fun _ _ _ _ _ q=>neg_int q
end
def abc:V->V->Bool
 |.non,.non=>true | .non,.int _=>true | .int _,.non=>true | .non,.bl _=>true | .bl _,.non=>true | .non,.str _=>true | .str _,.non=>true
 |.int _,.int _=>true | .bl _,.bl _=>true | .str _,.str _=>true | .byt _,.byt _=>true
 |.int _,.str _=>true | .str _,.int _=>true | .bl _,.str _=>true | .str _,.bl _=>true
 |_,_=>false
def rEq:R2:=fun x y H Q=>abc x y=true/\Q (.bl (decide (x=y))) H
def rNe:R2:=fun x y H Q=>abc x y=true/\Q (.bl (!decide (x=y))) H
theorem tz{i j:Int}:decide (V.int i=V.int j)=(i==j):=by rw[BI];simp
theorem yk{i j:Bool}:decide (V.bl i=V.bl j)=(i==j):=by rw[BI];simp
theorem uE{i j:Str}:decide (V.str i=V.str j)=(i==j):=by rw[BI];simp
theorem tT{i j:Array UInt8}:decide (V.byt i=V.byt j)=(i.toList==j.toList):=by rw[BI];cases i;cases j;simp
section
variable {a b:Expr}{tb tc:TE} 
theorem jd{Q:VK}{k k':Bool}(I:qx X pins σ H s)(q:Q (.bl k) H)(e:k=k'):EP X pins σ Q (.bool k') s:=by subst e;exact⟨.bl k,H,I,rfl,q⟩
theorem af1:kq X (compareOp .Eq) rEq:=by
 intro pins s σ H x y v u Q I rx ry h;obtain⟨hs,q⟩:=h;cases x with
 |non=>
  cases rx;cases y with
  |non=>cases ry;exact PySem.EqNone.eq_none_none (jd I q (by simp))
  |bl j=>cases ry;exact PySem.EqNone.eq_none_bool (jd I q (by simp))
  |int j=>obtain⟨t',rfl⟩:=ry;exact PySem.EqNone.eq_none_int (jd I q (by simp))
  |str j=>obtain⟨t',rfl⟩:=ry;exact PySem.EqNone.eq_none_str (jd I q (by simp))
  |_=>exact absurd (show false=true from hs) AC
 |bl i=>
  cases rx;cases y with
  |non=>cases ry;exact PySem.EqNone.eq_bool_none (jd I q (by simp))
  |bl j=>cases ry;exact eq_bool (jd I q yk)
  |str j=>obtain⟨t',rfl⟩:=ry;exact PySem.EqMixed.eq_bool_str (jd I q (by simp))
  |_=>exact absurd (show false=true from hs) AC
 |int i=>
  obtain⟨t,rfl⟩:=rx;cases y with
  |non=>cases ry;exact PySem.EqNone.eq_int_none (jd I q (by simp))
  |int j=>obtain⟨t',rfl⟩:=ry;exact eq_int (jd I q tz)
  |str j=>obtain⟨t',rfl⟩:=ry;exact PySem.EqMixed.eq_int_str (jd I q (by simp))
  |_=>exact absurd (show false=true from hs) AC
 |str i=>
  obtain⟨t,rfl⟩:=rx;cases y with
  |non=>cases ry;exact PySem.EqNone.eq_str_none (jd I q (by simp))
  |bl j=>cases ry;exact PySem.EqMixed.eq_str_bool (jd I q (by simp))
  |int j=>obtain⟨t',rfl⟩:=ry;exact PySem.EqMixed.eq_str_int (jd I q (by simp))
  |str j=>obtain⟨t',rfl⟩:=ry;exact eq_str (jd I q uE)
  |_=>exact absurd (show false=true from hs) AC
 |byt i=>
  obtain⟨t,rfl⟩:=rx;cases y with
  |byt j=>obtain⟨t',rfl⟩:=ry;exact PySem.W.eq_bytes (jd I q tT)
  |_=>exact absurd (show false=true from hs) AC
 |_=>cases y<;>exact absurd (show false=true from hs) AC
theorem aev:kq X (compareOp .NotEq) rNe:=by
 intro pins s σ H x y v u Q I rx ry h;obtain⟨hs,q⟩:=h;cases x with
 |non=>
  cases rx;cases y with
  |non=>cases ry;exact PySem.EqNone.ne_none_none (jd I q (by simp))
  |bl j=>cases ry;exact PySem.EqNone.ne_none_bool (jd I q (by simp))
  |int j=>obtain⟨t',rfl⟩:=ry;exact PySem.EqNone.ne_none_int (jd I q (by simp))
  |str j=>obtain⟨t',rfl⟩:=ry;exact PySem.EqNone.ne_none_str (jd I q (by simp))
  |_=>exact absurd (show false=true from hs) AC
 |bl i=>
  cases rx;cases y with
  |non=>cases ry;exact PySem.EqNone.ne_bool_none (jd I q (by simp))
  |bl j=>cases ry;exact ne_bool (jd I q (BR not yk))
  |str j=>obtain⟨t',rfl⟩:=ry;exact PySem.EqMixed.ne_bool_str (jd I q (by simp))
  |_=>exact absurd (show false=true from hs) AC
 |int i=>
  obtain⟨t,rfl⟩:=rx;cases y with
  |non=>cases ry;exact PySem.EqNone.ne_int_none (jd I q (by simp))
  |int j=>obtain⟨t',rfl⟩:=ry;exact ne_int (jd I q (BR not tz))
  |str j=>obtain⟨t',rfl⟩:=ry;exact PySem.EqMixed.ne_int_str (jd I q (by simp))
  |_=>exact absurd (show false=true from hs) AC
 |str i=>
  obtain⟨t,rfl⟩:=rx;cases y with
  |non=>cases ry;exact PySem.EqNone.ne_str_none (jd I q (by simp))
  |bl j=>cases ry;exact PySem.EqMixed.ne_str_bool (jd I q (by simp))
  |int j=>obtain⟨t',rfl⟩:=ry;exact PySem.EqMixed.ne_str_int (jd I q (by simp))
  |str j=>obtain⟨t',rfl⟩:=ry;exact ne_str (jd I q (BR not uE))
  |_=>exact absurd (show false=true from hs) AC
 |byt i=>
  obtain⟨t,rfl⟩:=rx;cases y with
  |byt j=>obtain⟨t',rfl⟩:=ry;exact PySem.W.ne_bytes (jd I q (BR not tT))
  |_=>exact absurd (show false=true from hs) AC
 |_=>cases y<;>exact absurd (show false=true from hs) AC
theorem aka:kq X (compareOp .Lt) (rI0 fun i j=>.bl (decide (i<j))):=ack fun _ _ _ _ _ _ _ q=>lt_int q
theorem aju:kq X (compareOp .LtE) (rI0 fun i j=>.bl (decide (i≤j))):=ack fun _ _ _ _ _ _ _ q=>le_int q
theorem ajs:kq X (compareOp .Gt) (rI0 fun i j=>.bl (decide (j<i))):=ack fun _ _ _ _ _ _ _ q=>gt_int q
theorem air:kq X (compareOp .GtE) (rI0 fun i j=>.bl (decide (j≤i))):=ack fun _ _ _ _ _ _ _ q=>ge_int q
theorem vd(b:Expr){op:CmpOp}(h:op≠.In:=by decide)(h2:op≠.NotIn:=by decide):behindInMarks op b=false:=by
 have e1:(op==CmpOp.In)=false:=by cases op<;>first | rfl | exact absurd rfl h
 have e2:(op==CmpOp.NotIn)=false:=by cases op<;>first | rfl | exact absurd rfl h2
 cases b<;>simp[behindInMarks,e1,e2]
theorem ac9{op:CmpOp}{r:R2}(ho:kq X (compareOp op) r)(ha:PE X a ta)(hb:PE X b tb)(hm:behindInMarks op b=false):PE X (.Compare a [op] [b] pos) (tOp r ta tb):=by intro pins s σ H Q I h;exact wpAny_Compare1 (afq ha hb I h fun v u s2 x y H2 I2 rx ry q=>ho pins s2 σ H2 x y v u Q I2 rx ry q) hm
def af3(t:TE):TT:=fun σ H Q=>t σ H fun x H'=>∃k,x=.bl k/\Q k H'
theorem adn{op:CmpOp}{r:R2}(ho:kq X (compareOp op) r)(ha:PE X a ta)(hb:PE X b tb)(hm:behindInMarks op b=false):PT X (.Compare a [op] [b] pos) (af3 (tOp r ta tb)):=by
 intro pins s σ H Q I h;refine wpAny_isTrue_Compare1 (v0 (ha pins s σ H _ I h) fun v s1 ⟨x,H1,I1,r1,q1⟩=>v0 (hb pins s1 σ H1 _ I1 q1) fun u s2 ⟨y,H2,I2,r2,q2⟩=>
  v0 (ho pins s2 σ H2 x y v u _ I2 r1 r2 q2) fun c s3 ⟨z,H3,I3,r3,k,e,q3⟩=>?_) hm
 subst e;cases r3;exact wpAny_truthy_bool ⟨H3,I3,q3⟩
theorem g9:(sizeLine:Nat)<2 ^ 63:=by rw[sizeLine_eq];decide
theorem s9:kq X (binaryOp .Add) (fun x y H Q=>∃i j,x=.str i/\y=.str j/\i.length+j.length≤sizeLine/\Q (.str (i++j)) H):=by intro pins s σ H x y v u Q I rx ry h;obtain⟨i,j,rfl,rfl,hz,q⟩:=h;obtain⟨t,rfl⟩:=rx;obtain⟨t',rfl⟩:=ry;exact jr I.tk (add_str (fun t' tk ht=>⟨.str (i++j),H,I.tok _,⟨_,rfl⟩,q⟩) hz)
theorem kI{x:V}(r:ze [x] us):∃u,us=[u]/\zk x u:=by cases r with|cons r1 r2=>cases r2;exact⟨_,rfl,r1⟩
theorem aen{x y:V}(r:ze [x,y] us):∃u w',us=[u,w']/\zk x u/\zk y w':=by
 cases r with
 |cons r1 r2=>
  cases r2 with|cons r3 r4=>cases r4;exact⟨_,_,rfl,r1,r3⟩
theorem vH(hc:X.calm=true):jk X (.builtin "max") (fun xs H Q=>∃i j,xs=[.int i,.int j]/\Q (.int (if j > i then j else i)) H):=by
 intro pins s σ H xs us Q I r h;obtain⟨i,j,rfl,q⟩:=h;obtain⟨u,w',rfl,⟨t,rfl⟩,⟨t',rfl⟩⟩:=aen r;refine jr I.tk (max_two_ints (I.ok.hd hc) fun h' tk k ht=>⟨_,H,I.kept k,?_,q⟩);by_cases hj:j > i
 ·rw[AB hj,AB hj];exact⟨_,rfl⟩
 ·rw[Az hj,Az hj];exact⟨_,rfl⟩
theorem vR(hc:X.calm=true):jk X (.builtin "min") (fun xs H Q=>∃i j,xs=[.int i,.int j]/\Q (.int (if j<i then j else i)) H):=by
 intro pins s σ H xs us Q I r h;obtain⟨i,j,rfl,q⟩:=h;obtain⟨u,w',rfl,⟨t,rfl⟩,⟨t',rfl⟩⟩:=aen r;refine jr I.tk (min_two_ints (I.ok.hd hc) fun h' tk k ht=>⟨_,H,I.kept k,?_,q⟩);by_cases hj:j<i
 ·rw[AB hj,AB hj];exact⟨_,rfl⟩
 ·rw[Az hj,Az hj];exact⟨_,rfl⟩
end
structure agi(h:Heap)(x dx C:Addr)(mA:Str->Option Value):Prop where
 obj:h.get? x=some (PySem.W.instObj C dx)
 ns:h.Ns1 dx mA
 ne:dx≠x
theorem uj(n:h.Ns1 dx mA):∃od,h.get? dx=some od/\∀name,PySem.W.lookIn name od=some (mA name):=by
 obtain⟨o,es,ep,ho,hd,hk,_,hm⟩:=n;refine⟨o,ho,fun name=>?_⟩;have e:=hm name;unfold nsFind findBy at e;rw[<-Array.find?_toList] at e;unfold PySem.W.lookIn;rw[hd];dsimp only;split
 ·rename_i y q;rw[q] at e;exact BR some e
 ·rename_i q;rw[q] at e;have a:es.toList.any (·.refKey)=false:=by rw[List.any_eq_false];intro y hy;obtain⟨z,t,hkey⟩:=hk y (Array.mem_toList_iff.mp hy);simp[DictEntry.refKey,hkey]
  have a':¬es.toList.any (·.refKey)=true:=by rw[a];exact AC
  rw[Az a'];exact BR some e
theorem agi.look{x:Addr}(I:agi h x dx C mA):∃od,PySem.W.InstAt h x (PySem.W.instObj C dx) C (some od)/\∀name,PySem.W.lookIn name od=some (mA name):=
 let ⟨od,ho,hl⟩:=uj I.ns
 ⟨od,⟨I.obj,rfl,rfl,ho⟩,hl⟩
section
variable {w:World}{K:Ai}{x:Addr}{v:Value}
end
theorem gH.some_of{o:Option Value}(r:gH (some v) o):∃u,o=some u/\zk v u:=by cases o with|none=>exact(show False from r).elim|some u=>exact⟨u,rfl,r⟩
abbrev ET:=@gH.some_of
section
variable {P:Program}{w:World}{a:Addr}{fs fs':List (Str×V)}
theorem abx(hok:dg P w H h)(e:H a=some (.ins C dx fs)):∃mA,agi h a dx C mA/\(∀f,gH (fs.lookup f) (mA f))/\PySem.Within mA (fs.map (·.1))/\fs.length≤1000/\H dx=some (.own a):=by obtain⟨d,z,ne,ob,mA,n,r,q⟩:=(show xg P w H h a (.ins C dx fs) from hok a _ e);exact⟨mA,⟨ob,n,ne⟩,r,q,z,d⟩
end
structure Cls(K:Ai)(C:Addr):Prop where
 pg:PySem.W.plainGet K C Str.empty=true
 hd:PySem.W.hasDictIn K C=true
 po:PySem.W.plainOver K C=true
 sa:PySem.W.findIn K (.ref C) "__setattr__" = some (some (.builtin "object.__setattr__"))
theorem Cls.get{K:Ai}(c:Cls K C)(f:Str):PySem.W.plainGet K C f=true:=c.pg
section
variable {a:Addr}{fs:List (Str×V)}{f:Str} 
end
section
variable {f:Str}{tpos:Pos}{tv:TE}
end
section
variable {c:Value}{b:Bool}
inductive iH(K:Ai)(H:Hp):V->Value->Prop where
 |non:iH K H .non (.type "NoneType")
 |bl (x:Bool):iH K H (.bl x) (.type "bool")
 |int (i:Int):iH K H (.int i) (.type "int")
 |str (x:Str):iH K H (.str x) (.type "str")
 |flt (x:UInt64):iH K H (.flt x) (.type "float")
 |lst {a:Addr} {xs:List V} (e:H a=some (.lst xs)):iH K H (.ref a) (.type "list")
 |frz {a:Addr} {o:Obj} {xs:List V} (e:H a=some (.frz o (.lst xs))):iH K H (.ref a) (.type "list")
 |tup {a:Addr} {xs:List V} (e:H a=some (.tup xs)):iH K H (.ref a) (.type "tuple")
 |dK {a:Addr} {kvs:List (j3×V)} (e:H a=some (.dK kvs)):iH K H (.ref a) (.type "dict")
 |dT {a:Addr} {kvs:List (List j3×V)} (e:H a=some (.dT kvs)):iH K H (.ref a) (.type "dict")
 |ins {a C dx:Addr} {fs:List (Str×V)} (e:H a=some (.ins C dx fs)) (cl:Cls K C) (ha:PySem.W.findIn K (.ref C) "__class__" = some (some (.builtin "object.__class__")))
  (hn:PySem.W.specialIn K (.builtin "object.__class__") "__get__" = some (some (.builtin "getset_descriptor.__get__"))) (htk:PySem.W.takesIn K (.builtin "object.__class__")=some true)
  (hm:PySem.W.mroIn K C (.type "object")=some true):iH K H (.ref a) (.ref C)
theorem aT{x:V}{t:Value}(I:qx X pins σ H s)(rx:zk x u)(ty:iH X.K H x t)(e:PySem.W.kitOne X.K t c=some b)(h:∀tk,Q (.bool b) { s with toks:=tk }):
 wpAny (model X.prog X.w) A (call (.builtin "isinstance") [u,c]) Q E s:=by
 cases ty with
 |non=>cases (show u=Value.none from rx);exact Bn PySem.W.kitx_none I.kIn True.intro e (fun z=>nomatch z) h
 |bl y=>cases (show u=Value.bool y from rx);exact Bn PySem.W.kitx_bool I.kIn True.intro e (fun z=>nomatch z) h
 |int i=>obtain⟨t,q⟩:=(show ∃t,u=Value.int i t from rx);cases q;exact Bn PySem.W.kitx_int I.kIn True.intro e (fun z=>nomatch z) h
 |str y=>obtain⟨t,q⟩:=(show ∃t,u=Value.str y t from rx);cases q;exact Bn PySem.W.kitx_str I.kIn True.intro e (fun z=>nomatch z) h
 |flt y=>obtain⟨t,q⟩:=(show ∃t,u=Value.float y t from rx);cases q;exact Bn PySem.W.kitx_float I.kIn True.intro e (fun z=>nomatch z) h
 |@lst a xs ea=>
  cases (show u=Value.ref a from rx);obtain⟨_,_,n,_,h1⟩:=(show xg X.prog X.w H s.heap a (.lst xs) from I.hok a _ ea);exact Bn Dx I.kIn ⟨_,h1,rfl⟩ e (fun z=>nomatch z) h
 |@frz a ob xs ea=>
  cases (show u=Value.ref a from rx);obtain⟨_,_,_,n,_,h1⟩:=(show xg X.prog X.w H s.heap a (.frz ob (.lst xs)) from I.hok a _ ea);exact Bn Dx I.kIn ⟨_,h1,rfl⟩ e (fun z=>nomatch z) h
 |@tup a xs ea=>
  cases (show u=Value.ref a from rx);obtain⟨_,_,_,p⟩:=(show xg X.prog X.w H s.heap a (.tup xs) from I.hok a _ ea);obtain⟨o,h1,h2,_⟩:=p;exact Bn PySem.W.kitx_tuple I.kIn ⟨o,h1,h2⟩ e (fun z=>nomatch z) h
 |@dK a kvs ea=>
  cases (show u=Value.ref a from rx);obtain⟨_,_,vs,_,p⟩:=(show xg X.prog X.w H s.heap a (.dK kvs) from I.hok a _ ea);obtain⟨o,es,ep,h1,h2,_⟩:=p;exact Bn PySem.W.kitx_dict I.kIn ⟨o,h1,h2.1⟩ e (fun z=>nomatch z) h
 |@dT a kvs ea=>
  cases (show u=Value.ref a from rx);obtain⟨_,_,xs,_,o,es,ep,h1,h2,_⟩:=(show xg X.prog X.w H s.heap a (.dT kvs) from I.hok a _ ea);exact Bn PySem.W.kitx_dict I.kIn ⟨o,h1,h2.1⟩ e (fun z=>nomatch z) h
 |@ins a C dx fs ea cl ha hn htk hm=>
  cases (show u=Value.ref a from rx);obtain⟨mA,O,_⟩:=abx I.hok ea;obtain⟨od,J,_⟩:=O.look;exact Bn (PySem.W.kitx_own (cl.get _) cl.hd ha hn htk hm) I.kIn J e (fun z=>nomatch z) h
end
structure aI(k:Nat)(A:Around):Prop where
 hd:A.handled=none
 dp:A.depth+3*k+5<recursionLimit
 un:A.units+16*k+200<cLine
theorem aI.mono{k:Nat}(r:aI k A)(h:j≤k):aI j A:=⟨r.hd,by have:=r.dp;omega,by have:=r.un;omega⟩
theorem aI.deeper{k:Nat}(r:aI (k+1) A)(env:Env):aI k (A.deeper env):=
 ⟨r.hd,by have:=r.dp;show A.depth+1+3*k+5<_;omega,by have:=r.un;show A.units+3+16*k+200<_;omega⟩
theorem aI.depth{k:Nat}(r:aI k A):A.depth<recursionLimit:=by have:=r.dp;omega
def ang:TA:=fun _ H Q=>Q [] H
def ako(ta:TE)(tr:TA):TA:=fun σ H Q=>ta σ H fun x H1=>tr σ H1 fun xs H2=>Q (x::xs) H2
section
variable {te:TE}{t:TA} 
theorem kF:PA X [] ang:=fun _ _ _ _ H Q I h=>Calls.spliced_nil ⟨[],H,I,.nil,h⟩
abbrev Ed(e:Expr)(es:List Expr)(X:Cx):Prop:=starEach (e::es) X.env=(false,eval e X.env)::starEach es X.env
theorem dQ(ha:PE X e te)(hr:PA X es t)(hs:Ed e es X:=by rfl):PA X (e::es) (ako te t):=by intro pos pins s σ H Q I h;rw[hs];show wpAny _ _ (spliced ((false,eval e X.env)::backTo pos (starEach es X.env))) _ _ s;refine Calls.spliced_cons (v0 (ha pins s σ H _ I h) fun u s1 ⟨x,H1,I1,r1,q1⟩=>?_);exact v0 (hr pos pins s1 σ H1 _ I1 q1) fun us s2 ⟨xs,H2,I2,r2,q2⟩=>⟨x::xs,H2,I2,.cons r1 r2,q2⟩
def anc(t:TA):TE:=fun σ H Q=>t σ H fun xs H1=>xs.length≤sizeLine/\∀p,H1 p=none->Q (.ref p) (upd H1 p (.tup xs))
def ans(t:TA):TE:=fun σ H Q=>t σ H fun xs H1=>xs.length≤sizeLine/\∀p,H1 p=none->Q (.ref p) (upd H1 p (.lst xs))
theorem ahe{x1}(h:PA X es t):PE X (.Tuple es x1 pos) (anc t):=by intro pins s σ H Q I hq;refine wpAny_Tuple_spliced (v0 (h pos pins s σ H _ I hq) fun us s1 ⟨xs,H1,I1,r,z,q⟩=>⟨by rw[<-r.length];exact z,?_⟩);have hf:H1 s1.heap.objs.size=none:=I1.hok.fresh (An _);refine⟨.ref s1.heap.objs.size,upd H1 s1.heap.objs.size (.tup xs),I1.laid (t':=s1.toks) (fun b u e=>Heap.get?_push_of_some _ e) (An _) ?_,rfl,q _ hf⟩;exact⟨z,us,r,⟨_,Heap.get?_push_size _ rfl,rfl,_,rfl⟩⟩
theorem aga(h:PA X es t):PE X (.List es pos) (ans t):=by intro pins s σ H Q I hq;refine wpAny_List_spliced (v0 (h pos pins s σ H _ I hq) fun us s1 ⟨xs,H1,I1,r,z,q⟩=>⟨by rw[<-r.length];exact z,?_⟩);have hf:H1 s1.heap.objs.size=none:=I1.hok.fresh (An _);refine⟨.ref s1.heap.objs.size,upd H1 s1.heap.objs.size (.lst xs),I1.laid (t':=s1.toks) (fun b u e=>Heap.get?_push_of_some _ e) (An _) ?_,rfl,q _ hf⟩;exact⟨z,us,0,r,Heap.get?_push_size _ rfl⟩
end
abbrev Sp:=List V->Hp->VK->XK->Prop
abbrev u8:=List Env->Hp->Shared->XK->Value->Shared->Prop
structure ac7(P:Program)(w:World)(K:Ai)(mg:Str->Option Value)(base:Heap)(A:Around)(outer:List Env)(s:Shared)(H:Hp):Prop where
 frames:A.frames=some outer
 mod:Mod K mg base
 bs:∀b o,base.get? b=some o->s.heap.get? b=some o/\H b=none
 bsz:base.objs.size≤s.heap.objs.size
 funs:s.heap.FunFrames base outer
 frf:∀b∈vX outer,H b=none
 hok:dg P w H s.heap
 bare:AllBare s.gens
 tk:0<s.toks
def CE(outer:List Env)(P:Program)(w:World)(H:Hp)(s:Shared)(Q:VK)(u:Value)(s':Shared):Prop:=
 ∃v H',s'.os=s.os/\AllBare s'.gens/\Un (vX outer) [] H H' s.heap s'.heap/\dg P w H' s'.heap/\zk v u/\Q v H'/\0<s'.toks
def CR(CX:u8)(outer:List Env)(P:Program)(w:World)(H:Hp)(s:Shared)(Q:VK)(E:XK)(r:Result)(s':Shared):Prop:=
 match r with
 |.ok (.ret u)=>CE outer P w H s Q u s'
 |.ok _=>False
 |.error e=>CX outer H s E e s'
structure bJ(P:Program)(w:World)(K:Ai)(mg:Str->Option Value)(base:Heap)(CX:u8)(k:Nat)(f:Addr)(fd:FuncData)(ps:List Str)(sp:Sp):Prop where
 len:∀vs H Q E,sp vs H Q E->vs.length=ps.length
 run:∀(A:Around) (outer:List Env) (s:Shared) (H:Hp) (args:Args) (us:List Value) (vs:List V) (Q:VK) (E:XK),aI k A->ac7 P w K mg base A outer s H->BindsTo s fd args (ps.zip us)->ze vs us->sp vs H Q E->
  codeAny (model P w) A (.call (.ref f) args) (CR CX outer P w H s Q E) s
theorem bJ.mono{P:Program}{w:World}{K:Ai}{CX:u8}{k:Nat}{sp:Sp}(F:bJ P w K mg base CX j f fd ps sp)(h:j≤k):
 bJ P w K mg base CX k f fd ps sp:=⟨F.len,fun A outer s H args us vs Q E hr=>F.run A outer s H args us vs Q E (hr.mono h)⟩
theorem bJ.imp{P:Program}{w:World}{K:Ai}{CX:u8}{k:Nat}{sp sp':Sp}(F:bJ P w K mg base CX k f fd ps sp)
 (h:∀vs H Q E,sp' vs H Q E->sp vs H Q E):bJ P w K mg base CX k f fd ps sp':=
 ⟨fun vs H Q E q=>F.len vs H Q E (h _ _ _ _ q),fun A outer s H args us vs Q E hr he hb hv hs=>F.run A outer s H args us vs Q E hr he hb hv (h _ _ _ _ hs)⟩
section
theorem qx.env0(I:qx X pins σ H s):ac7 X.prog X.w X.K X.mg X.base X.A X.stack s H:=
 ⟨I.ok.frames,I.ok.mod,I.bs,AW I.ok.bsz I.sz,I.stack,I.stkFree,I.hok,I.bare,I.tk⟩
theorem qx.after{Q:VK}(I:qx X pins σ H s)(h:CE X.stack X.prog X.w H s Q u s'):EP X pins σ Q u s':=by obtain⟨v,H',os,bare,un,hok,r,q,ht⟩:=h;obtain⟨hh,g,d,t,os'⟩:=s';obtain rfl:os'=s.os:=os;exact⟨v,H',I.call (h':=hh) (g':=g) (d':=d) (t':=t) (ch:=[]) un hok bare (fun b z=>absurd z (by simp)),r,q⟩
end
def aeu(sp:Sp)(dvs:List V)(E:XK)(t:TA):TE:=fun σ H Q=>t σ H fun vs H1=>sp (vs++dvs) H1 Q E
def fO(K:Ai)(fd:FuncData)(ps:List Str)(ds:List Value):Prop:=
 ∀(s:Shared) (us:List Value),K.In s.heap->(us++ds).length=ps.length->BindsTo s fd ⟨us,[]⟩ (ps.zip (us++ds))
theorem fO.all{K:Ai}(h:∀us:List Value,us.length=ps.length->bindArgs fd ⟨us,[]⟩=pure (ps.zip us)):fO K fd ps []:=fun s us _ hl=>by rw[AQ] at hl ⊢;exact .of_eq (h us hl)
def rg(CX:u8)(X:Cx)(E:XK):Prop:=∀(pins:List (Addr×Obj)) (σ:St) (H:Hp) (s:Shared) (e:Value) (s':Shared),qx X pins σ H s->CX X.stack H s E e s'->X.xe e s'
section
variable {CX:u8}{k:Nat}{sp:Sp}{dvs:List V}{ds:List Value}{E:XK}{m:Str}{t:TA}
theorem aff{Q:VK}{vs:List V}(F:bJ X.prog X.w X.K X.mg X.base CX k f fd ps sp)(hr:aI k X.A)(hb:fO X.K fd ps ds)(hd:ze dvs ds)(hx:rg CX X E)
 (I:qx X pins σ H s) (r:ze vs us) (h:sp (vs++dvs) H Q E):wpAny (model X.prog X.w) X.A (call (.ref f) us) (EP X pins σ Q) X.xe s:=by
 have r2:ze (vs++dvs) (us++ds):=r.append hd;have hl:(us++ds).length=ps.length:=by rw[<-r2.length];exact F.len _ _ _ _ h
 refine wpAny_call (codeAny_mono (F.run X.A X.stack s H ⟨us,[]⟩ (us++ds) (vs++dvs) Q E hr I.env0 (hb s us I.kIn hl) r2 h) fun r s' hq=>?_);cases r with
 |error e=>exact hx pins σ H s e s' I hq
 |ok fl=>
  cases fl with|ret u=>exact I.after hq|next=>exact False.elim hq|brk=>exact False.elim hq|cont=>exact False.elim hq
abbrev Ee(p:Pos)(es:List Expr)(X:Cx):Prop:=(backTo p (starEach es X.env)).any (·.1)=false
theorem aco(F:bJ X.prog X.w X.K X.mg X.base CX k f fd ps sp)(hr:aI k X.A)(hg:Gl X x)(hm:X.mg x=some (.ref f))(hk:PySem.W.keepIn X.K (.ref f)=true)(hb:fO X.K fd ps ds)(hd:ze dvs ds)(hx:rg CX X E)
 (ha:PA X (e::es) t) (hdb:Ef x:=by decide) (he:Ed e es X:=by rfl) (hpl:Ee pos es X:=by rfl):
 PE X (.Call (.Name x p) (e::es) [] pos) (aeu sp dvs E t):=by
 intro pins s σ H Q I h;refine wpAny_Call_Name_kw (uI I hg hm ?_ hdb);refine PySem.W.callWith_K (h₀:=X.base) I.ok.mod.kin hk (v0 (ha pos pins s σ H _ I h) fun us s1 ⟨vs,H1,I1,r,q⟩=>⟨I1.kIn,?_⟩) he hpl;exact aff F hr hb hd hx I1 r q
end
section
variable {CX:u8}{k:Nat}{ks:List Str}{sp:Sp}{E:XK}{m:Str}{kws:List Keyword}{te:TE}{t tk:TA}{nm:Option Str}
variable {g:List Value->List Value->List Value}{gV:List V->List V->List V}
end
structure aR(N P:List Str)(sc:Scope):Prop where
 kind:sc.kind=.function
 co:sc.isCoroutine=false
 gen:sc.isGenerator=false
 nd:N.Nodup
 pre:N.take P.length=P
 par:∀x∈P,sc.names.lookup x=some .local\/sc.names.lookup x=some .cell
 nofree:∀y∈sc.names,y.2≠.free
theorem mM{kindOf:Str->Option NameKind}{x:Str}:∀{binds:List (Str×Value)} {m:Str->Option Value},(∀v,(x,v)∉binds)->bindL kindOf binds m x=m x
 |[],_,_=>rfl
 |(n,v)::r,m,h=>by
  unfold bindL;rw[mM fun w hw=>h w (Ag _ hw)];split
  ·have:x≠n:=by rintro rfl;exact h v Ap
   simp[this]
  ·rfl
theorem mD{kindOf:Str->Option NameKind}{x:Str}:∀{binds:List (Str×Value)} {m:Str->Option Value},(∀v,(x,v)∉binds)->bindC kindOf binds m x=m x
 |[],_,_=>rfl
 |(n,v)::r,m,h=>by
  unfold bindC;rw[mD fun w hw=>h w (Ag _ hw)];split
  ·rfl
  ·have:x≠n:=by rintro rfl;exact h v Ap
   simp[this]
theorem ld{kindOf:Str->Option NameKind}{x:Str}{v:Value}:∀{P:List Str} {vs:List Value} {i:Nat} {m:Str->Option Value},P.Nodup->P[i]?=some x->vs[i]?=some v->kindOf x=some .local->
 bindL kindOf (P.zip vs) m x=some v
 |[],_,_,_,_,h,_,_=>by simp at h
 |_::_,[],_,_,_,_,h,_=>by simp at h
 |p::P,w::vs,0,m,nd,h1,h2,hk=>by simp at h1 h2;subst h1;subst h2;show bindL kindOf ((p,w)::P.zip vs) m p=_;unfold bindL;rw[mM fun v hv=>(Aw.mp nd).1 (Dl hv).1,AB hk];simp
 |p::P,w::vs,i+1,m,nd,h1,h2,hk=>by show bindL kindOf ((p,w)::P.zip vs) m x=_;unfold bindL;exact ld (i:=i) (Aw.mp nd).2 (by simpa using h1) (by simpa using h2) hk
theorem lu{kindOf:Str->Option NameKind}{x:Str}{v:Value}:∀{P:List Str} {vs:List Value} {i:Nat} {m:Str->Option Value},P.Nodup->P[i]?=some x->vs[i]?=some v->kindOf x≠some .local->
 bindC kindOf (P.zip vs) m x=some v
 |[],_,_,_,_,h,_,_=>by simp at h
 |_::_,[],_,_,_,_,h,_=>by simp at h
 |p::P,w::vs,0,m,nd,h1,h2,hk=>by simp at h1 h2;subst h1;subst h2;show bindC kindOf ((p,w)::P.zip vs) m p=_;unfold bindC;rw[mD fun v hv=>(Aw.mp nd).1 (Dl hv).1,Az hk];simp
 |p::P,w::vs,i+1,m,nd,h1,h2,hk=>by show bindC kindOf ((p,w)::P.zip vs) m x=_;unfold bindC;exact lu (i:=i) (Aw.mp nd).2 (by simpa using h1) (by simpa using h2) hk
def start(N:List Str)(vs:List V):St:=vs.map some++List.replicate (N.length - vs.length) none
def iF(CX:u8)(P:Program)(w:World)(K:Ai)(mg:Str->Option Value)(base:Heap)(N:List Str)(qual:Str)(scope:Scope)(f:Addr)(cd:Value)(A:Around)(outer:List Env)(s:Shared)(H:Hp)(E:XK):Cx where
 prog:=P
 w:=w
 K:=K
 mg:=mg
 base:=base
 A:=A.deeper (envOfC qual scope s.heap.objs.size f cd)
 N:=N
 s₀:=s
 H₀:=H
 env:=envOfC qual scope s.heap.objs.size f cd
 outer:=outer
 stack:=envOfC qual scope s.heap.objs.size f cd::outer
 ex:=[]
 calm:=true
 fn:=fun _=>true
 pn:=[]
 xe:=fun e s'=>wpAny (model P w) (A.deeper (envOfC qual scope s.heap.objs.size f cd)) (leaving (envOfC qual scope s.heap.objs.size f cd) e) (fun _ s''=>CX outer H s E e s'') (fun e' s''=>CX outer H s E e' s'') s'
theorem rA{sc:Scope}(h:sc.names.lookup x=some .cell):∃c,(cellsFrom n sc.names []).lookup x=some c:=by have q:=DN sc.names n [] (.inl h);exact Option.isSome_iff_exists.mp q
theorem vC{CX:u8}{P:Program}{w:World}{K:Ai}{N:List Str}{cd:Value}{outer:List Env}{s1:Shared}{E:XK}{vs:List V}
 (S:aR N ps scope) (hd:A.handled=none) (e0:ac7 P w K mg base A outer s H) (hl:vs.length=ps.length) (r:ze vs us)
 (x:InCallC s s.heap.objs.size (bindL (envOfC qual scope s.heap.objs.size f cd).kindOf (ps.zip us) fun _=>none) (cellsFrom (s.heap.objs.size+1) scope.names []) (bindC (envOfC qual scope s.heap.objs.size f cd).kindOf (ps.zip us) fun _=>none) s1) (ht:0<s1.toks):
 qx (iF CX P w K mg base N qual scope f cd A outer s H E) [] (start N vs) H s1:=by
 have hpl:ps.length≤N.length:=by have:=BR List.length S.pre;rw[AN] at this;omega
 obtain⟨h1,tk,rfl,hk⟩:=x.done;have noA:∀b:Addr,b∉(iF CX P w K mg base N qual scope f cd A outer s H E).ex:=fun b z=>absurd (show b∈([]:List Addr) from z) (by simp);refine⟨⟨e0.mod,S.kind,rfl,rfl,An _,fun y z c h1 h2=>?_,fun y hy=>?_,fun y c _ h=>?_,fun _=>hd,Around.frames_deeper e0.frames,.inr ⟨rfl,rfl⟩,fun b z=>absurd z (noA b),e0.bs,e0.bsz,fun b _ _=>noA b,fun b z=>absurd z (noA b),e0.funs,e0.frf⟩,
  rfl,e0.bare,Un.kept hk,⟨_,x.toInCall.ns,fun i y v h1 h2 h3=>?_⟩,fun y c h=>⟨_,x.cell y c h⟩,e0.hok.fresh (An _),fun y c h=>?_,fun p hp=>absurd (show p∈([]:List (Addr×Obj)) from hp) (by simp),e0.hok.kept hk,?_,ht⟩
 ·exact name_of_addr x.apart (Bz h1) (Bz h2)
 ·have hy:scope.names.lookup y=some .cell\/scope.names.lookup y=some .free:=hy;rcases hy with hy | hy
  ·exact rA hy
  ·exact absurd rfl (S.nofree _ (Bz hy))
 ·exact BH (x.above y c (Bz h))
 ·have hi:i<vs.length:=by
   unfold start at h2;by_cases hi:i<vs.length
   ·exact hi
   ·rw[Au (by simpa using hi)] at h2;rw[CT] at h2;split at h2<;>cases h2
  have ha:vs[i]?=some v:=by unfold start at h2;rw[AE (by simpa using hi),Aq] at h2;cases e:vs[i]? with|none=>rw[e] at h2;cases h2|some a=>rw[e] at h2;cases h2;rfl
  obtain⟨u,hu,rv⟩:=r.get ha;have hp:ps[i]?=some y:=by rw[<-S.pre,DC (by omega)];exact h1
  have ndP:ps.Nodup:=by rw[<-S.pre];exact S.nd.sublist (Dy _ _)
  refine⟨u,rv,?_⟩;rcases S.par y (AO hp) with k | k
  ·exact .inl ⟨k,ld ndP hp hu k⟩
  ·obtain⟨c,e⟩:=rA (n:=s.heap.objs.size+1) k;refine .inr ⟨.inl k,c,e,?_⟩;have q:=x.cell y c e;rw[lu ndP hp hu (by show scope.names.lookup y≠_;rw[k];decide)] at q;exact q
 ·exact e0.hok.fresh (BH (x.above y c (Bz h)))
 ·unfold start;show _=N.length;rw[Ac,Ae,Cw];omega
theorem aey{CX:u8}{P:Program}{w:World}{K:Ai}{k:Nat}{params:Arguments}{dV kV ct:Value}
 {N:List Str} {sp:Sp} (lk:K.lookup f=some ⟨oc,od,.func (PySem.W.fnOf name qual params body scope dV kV doc pm an cdv ct),osl⟩) (hcd:PySem.W.codeIn K cdv qual=true) (S:aR N ps scope)
 (len:∀vs H Q E,sp vs H Q E->vs.length=ps.length)
 (hbody:∀(A:Around) (outer:List Env) (s:Shared) (H:Hp) (vs:List V) (Q:VK) (E:XK),aI k (A.deeper (envOfC qual scope s.heap.objs.size f cdv))->sp vs H Q E->
  ∃t,l6 (iF CX P w K mg base N qual scope f cdv A outer s H E) body t/\t { nx:=fun _ H'=>Q .non H',rt:=Q } (start N vs) H):
 bJ P w K mg base CX (k+1) f (PySem.W.fnOf name qual params body scope dV kV doc pm an cdv ct) ps sp:=by
 refine⟨len,fun A outer s H args us vs Q E hr e0 hb r hsp=>?_⟩;have hl:=len _ _ _ _ hsp;have KX:K.In s.heap:=e0.mod.kin.keeps fun b o e=>(e0.bs b o e).1;have lim:s.heap.NoLimit:=e0.mod.nolimit.keeps fun b o e=>(e0.bs b o e).1;have hkind:∀y∈ps.zip us,scope.names.lookup y.1=some .local\/(scope.names.lookup y.1=some .cell/\((cellsFrom (s.heap.objs.size+1) scope.names []).lookup y.1).isSome=true):=fun⟨n,v⟩ hy=>by
  rcases S.par n (Dl hy).1 with q | q
  ·exact .inl q
  ·exact .inr ⟨q,DN _ _ _ (.inl q)⟩
 refine codeAny_call_function hr.depth (KX _ _ lk) rfl S.co S.gen rfl (PySem.W.codeRec_of KX hcd) (hb _ _ _ _ ?_);refine jr e0.tk (wpAny_newFunctionEnv_cells S.kind hkind fun env he s1 x htk=>?_);subst he;refine⟨lim.keeps x.toInCall.keep,codeAny_func ?_⟩;obtain⟨t,ht,hq⟩:=hbody A outer s H vs Q E (hr.deeper _) hsp;have I:qx (iF CX P w K mg base N qual scope f cdv A outer s H E) [] (start N vs) H s1:=vC S hr.hd e0 hl r x htk;refine AY (ht [] s1 (start N vs) H _ I hq) (fun fl s' hs=>?_) fun e s' hs=>hs;have x8:∀{σ':St} {H':Hp} {v:V} {u:Value},qx (iF CX P w K mg base N qual scope f cdv A outer s H E) [] σ' H' s'->zk v u->Q v H'->CE outer P w H s Q u s':=
  fun {σ' H' v u} J rv q=>⟨v,H',J.os,J.bare,J.base,J.hok,rv,q,J.tk⟩
 cases fl with
 |ret u=>
  obtain⟨v,σ',H',J,rv,q⟩:=hs;exact x8 J rv q
 |next=>
  obtain⟨σ',H',J,q⟩:=hs;exact x8 (v:=V.non) (u:=Value.none) J rfl q
 |brk=>
  obtain⟨_,_,_,q⟩:=hs;exact False.elim q
 |cont=>
  obtain⟨_,_,_,q⟩:=hs;exact False.elim q
end L2
variable {sp:L2.Sp}
namespace L2
open PySem PySem.Spec PyProof.Rows
section
variable {t:TA}{id T:String}{r:List V->Hp->VK->Prop}
def tCB(r:List V->Hp->VK->Prop)(t:TA):TE:=fun σ H Q=>t σ H fun vs H1=>r vs H1 Q
theorem pY(hc:jk X (.builtin id) r)(hg:Gl X x)(hm:X.mg x=none)(hv:bootBuiltins x=some (.builtin id))(ha:PA X (e::es) t)(hn:x ≠ "__name__" := by decide)(hdb:Ef x:=by decide)
 (he:Ed e es X:=by rfl) (hpl:Ee pos es X:=by rfl):PE X (.Call (.Name x p) (e::es) [] pos) (tCB r t):=by
 intro pins s σ H Q I h;refine wpAny_Call_Name_kw (du I hg hm hv ?_ hn hdb);exact PyProof.Rows.callWith_builtin1 (v0 (ha pos pins s σ H _ I h) fun us s1 ⟨vs,H1,I1,r1,q1⟩=>hc pins s1 σ H1 vs us Q I1 r1 q1) he hpl
theorem gF(hc:jk X (.type T) r)(hg:Gl X x)(hm:X.mg x=none)(hv:bootBuiltins x=some (.type T))(ha:PA X (e::es) t)(hn:x ≠ "__name__" := by decide)(hdb:Ef x:=by decide)
 (he:Ed e es X:=by rfl) (hpl:Ee pos es X:=by rfl):PE X (.Call (.Name x p) (e::es) [] pos) (tCB r t):=by
 intro pins s σ H Q I h;refine wpAny_Call_Name_kw (du I hg hm hv ?_ hn hdb);exact BZ (v0 (ha pos pins s σ H _ I h) fun us s1 ⟨vs,H1,I1,r1,q1⟩=>hc pins s1 σ H1 vs us Q I1 r1 q1) he hpl
end
section
variable [DecidableEq κ]
def aQ(kvs:List (κ×V))(k:κ):Option V:=(kvs.find? fun kv=>decide (kv.1=k)).map (·.2)
def cg(kvs:List (κ×V))(k:κ)(v:V):List (κ×V):=
 if (kvs.any fun kv=>decide (kv.1=k))=true then kvs.map (fun kv=>if kv.1=k then(kv.1,v) else kv) else kvs++[(k,v)]
theorem i5{p:κ×V}{r:List (κ×V)}{k:κ}(e:p.1=k):aQ (p::r) k=some p.2:=by simp[aQ,Bo,e]
theorem jX{p:κ×V}{r:List (κ×V)}{k:κ}(e:¬p.1=k):aQ (p::r) k=aQ r k:=by simp[aQ,Bo,e]
theorem rE(k:κ):∀kvs:List (κ×V),(kvs.any fun kv=>decide (kv.1=k))=(aQ kvs k).isSome
 |[]=>rfl
 |p::r=>by
  rw[Cd];by_cases e:p.1=k
  ·simp only[i5 e,AH e,Bool.true_or,Option.isSome_some]
  ·rw[jX e,Ax e,Bool.false_or];exact rE k r
theorem cZ(kvs:List (κ×V))(k:κ)(v:V):(cg kvs k v).length≤kvs.length+1:=by
 unfold cg;split
 ·rw[Ae];omega
 ·rw[Ac,AK,List.length_nil];omega
theorem gH.isSome_eq{o:Option V}{u:Option Value}(r:gH o u):o.isSome=u.isSome:=by
 cases o with
 |none=>cases u with|none=>rfl|some _=>exact(show False from r).elim
 |some _=>cases u with|none=>exact(show False from r).elim|some _=>rfl
theorem KV.val{kvs:List (κ×V)}{vs:List (κ×Value)}(r:KV kvs vs)(k:κ):gH (aQ kvs k) (valueAt vs k):=by
 unfold KV at r
 induction r with
 |nil=>exact True.intro
 |@cons p q ps qs h t ih=>
  obtain⟨h1,h2⟩:=h;by_cases e:p.1=k
  ·have e':q.1=k:=h1.symm.trans e;have b:valueAt (q::qs) k=some q.2:=by simp[valueAt,Bo,e']
   rw[i5 e,b];exact h2
  ·have e':¬q.1=k:=fun z=>e (h1.trans z);have b:valueAt (q::qs) k=valueAt qs k:=by simp[valueAt,Bo,e']
   rw[jX e,b];exact ih
theorem KV.any{kvs:List (κ×V)}{vs:List (κ×Value)}(r:KV kvs vs)(k:κ):(kvs.any fun kv=>decide (kv.1=k))=vs.any fun kv=>decide (kv.1=k):=by
 unfold KV at r
 induction r with|nil=>rfl|cons h t ih=>rw[Cd,Cd,ih,h.1]
theorem KV.repl{kvs:List (κ×V)}{vs:List (κ×Value)}(r:KV kvs vs)(k:κ){y:V}(ry:zk y u):
 KV (kvs.map fun kv=>if kv.1=k then(kv.1,y) else kv) (vs.map fun kv=>if kv.1=k then(kv.1,u) else kv):=by
 unfold KV at r ⊢
 induction r with
 |nil=>exact .nil
 |@cons p q ps qs h t ih=>
  rw[AF,AF];refine .cons ?_ ih;obtain⟨h1,h2⟩:=h;by_cases e:p.1=k
  ·rw[AB e,AB (h1.symm.trans e)];exact⟨h1,ry⟩
  ·rw[Az e,Az (fun z=>e (h1.trans z))];exact⟨h1,h2⟩
theorem KV.put{kvs:List (κ×V)}{vs:List (κ×Value)}(r:KV kvs vs)(k:κ){y:V}(ry:zk y u):KV (cg kvs k y) (stored vs k u):=by
 unfold cg stored;rw[r.any k];by_cases e:(vs.any fun kv=>decide (kv.1=k))=true
 ·rw[AB e,AB e];exact r.repl k ry
 ·rw[Az e,Az e];exact Paired.snoc r ⟨rfl,ry⟩
theorem KV.length{kvs:List (κ×V)}{vs:List (κ×Value)}(r:KV kvs vs):kvs.length=vs.length:=Paired.length r
end
theorem gf{P:Program}{w:World}{k:j3}(r:zk (kV k) u):(xa P w).is k u=true:=by
 cases k with
 |inl i=>obtain⟨t,e⟩:=(show ∃t,u=Value.int i t from r);subst e;exact pi P w i t
 |inr x=>obtain⟨t,e⟩:=(show ∃t,u=Value.str x t from r);subst e;exact rM P w x t
theorem mK{P:Program}{w:World}:∀{ks:List j3} {us:List Value},ze (ks.map kV) us->ItemsAre (xa P w) ks us
 |[],_,r=>by rw[C1] at r;cases r;exact .nil
 |k::ks,_,r=>by rw[AF] at r;cases r with|cons h t=>exact .cons (gf h) (mK t)
abbrev KT(H:Hp):List (List j3×V)->List (List j3×Addr×Value)->Prop:=Paired fun p q=>p.1=q.1/\H q.2.1=some (.tup (p.1.map kV))/\zk p.2 q.2.2
theorem KT.val{kvs:List (List j3×V)}{xs:List (List j3×Addr×Value)}(r:KT H kvs xs)(k:List j3):gH (aQ kvs k) ((atKey xs k).map (·.2)):=by
 induction r with
 |nil=>exact True.intro
 |@cons p q ps qs h t ih=>
  obtain⟨h1,_,h2⟩:=h;by_cases e:p.1=k
  ·have e':q.1=k:=h1.symm.trans e;have b:atKey (q::qs) k=some q.2:=by simp[atKey,Bo,e']
   rw[i5 e,b];exact h2
  ·have e':¬q.1=k:=fun z=>e (h1.trans z);have b:atKey (q::qs) k=atKey qs k:=by simp[atKey,Bo,e']
   rw[jX e,b];exact ih
theorem KT.repl{kvs:List (List j3×V)}{xs:List (List j3×Addr×Value)}(r:KT H kvs xs)(k:List j3){y:V}(ry:zk y u):
 KT H (kvs.map fun kv=>if kv.1=k then(kv.1,y) else kv) (xs.map (putAt k u)):=by
 induction r with
 |nil=>exact .nil
 |@cons p q ps qs h t ih=>
  rw[AF,AF];refine .cons ?_ ih;obtain⟨h1,h2,h3⟩:=h;unfold putAt;by_cases e:p.1=k
  ·rw[AB e,AB (h1.symm.trans e)];exact⟨h1,h2,ry⟩
  ·rw[Az e,Az (fun z=>e (h1.trans z))];exact⟨h1,h2,h3⟩
theorem KT.put{kvs:List (List j3×V)}{xs:List (List j3×Addr×Value)}(r:KT H kvs xs)(k:List j3){b:Addr}{y:V}(hb:H b=some (.tup (k.map kV)))(ry:zk y u):
 KT H (cg kvs k y) (storedH xs k b u):=by
 have e:(kvs.any fun kv=>decide (kv.1=k))=(atKey xs k).isSome:=by rw[rE,(r.val k).isSome_eq,Cy]
 unfold cg storedH;rw[e];by_cases q:(atKey xs k).isSome=true
 ·rw[AB q,AB q];exact r.repl k ry
 ·rw[Az q,Az q];exact Paired.snoc r ⟨rfl,hb,ry⟩
theorem KT.keeps{kvs:List (List j3×V)}{xs:List (List j3×Addr×Value)}(r:KT H kvs xs)(ht:∀b ys,H b=some (.tup ys)->H' b=some (.tup ys)):KT H' kvs xs:=
 EI r fun _ _ z=>⟨z.1,ht _ _ z.2.1,z.2.2⟩
section
variable {P:Program}{w:World}{a:Addr}
theorem af4{u:HO}(ok:dg P w H h)(e:Rd H a u):xg P w H h a u:=e.ok ok
theorem jV{kvs:List (j3×V)}(ok:dg P w H h)(e:Rd H a (.dK kvs)):kvs.length≤sizeLine/\(a==sysModules)=false/\∃vs,KV kvs vs/\h.DictOf (xa P w) a vs:=
 show xg P w H h a (.dK kvs) from af4 ok e
theorem ae8{kvs:List (j3×V)}(ok:dg P w H h)(e:H a=some (.dK kvs)):kvs.length≤sizeLine/\(a==sysModules)=false/\∃vs,KV kvs vs/\h.DictOf (xa P w) a vs:=jV ok (.inl e)
theorem lI{ks:List j3}(ok:dg P w H h)(e:H a=some (.tup (ks.map kV))):(tupleKind (xa P w)).is h ks a:=by obtain⟨_,its,r,o,h1,h2,n,h3⟩:=(show xg P w H h a (.tup (ks.map kV)) from ok a _ e);exact⟨o,its.toArray,n,h1,h2,h3,by simpa using mK r⟩
theorem pV{kvs:List (List j3×V)}(ok:dg P w H h)(e:Rd H a (.dT kvs)):kvs.length≤sizeLine/\(a==sysModules)=false/\
 ∃xs,KT H kvs xs/\h.DictOfH (tupleKind (xa P w)) a xs:=by
 obtain⟨z,y,xs,r,o,es,ep,h1,h2,h3,h4,h5⟩:=(show xg P w H h a (.dT kvs) from af4 ok e);refine⟨z,y,xs,r,o,es,ep,h1,h2,h3,h4,fun x hx=>?_,h5⟩;have all:∀{l:List (List j3×V)} {m:List (List j3×Addr×Value)},KT H l m->∀x∈m,(tupleKind (xa P w)).is h x.1 x.2.1:=by
  intro l m q
  induction q with
  |nil=>intro x hx;exact nomatch hx
  |@cons p q ps qs hq t ih=>
   intro x hx;rcases Av.mp hx with e | hx
   ·subst e;exact lI ok (by rw[<-hq.1];exact hq.2.1)
   ·exact ih x hx
 exact all r x hx
theorem akl{kvs:List (List j3×V)}(ok:dg P w H h)(e:H a=some (.dT kvs)):kvs.length≤sizeLine/\(a==sysModules)=false/\
 ∃xs,KT H kvs xs/\h.DictOfH (tupleKind (xa P w)) a xs:=pV ok (.inl e)
end
def mz(H:Hp)(a:Addr)(y:V)(r:Option V):Prop:=
 (∃kvs k,Rd H a (.dK kvs)/\y=kV k/\r=aQ kvs k)\/∃kvs k b,Rd H a (.dT kvs)/\y=.ref b/\H b=some (.tup (k.map kV))/\r=aQ kvs k
def aje(H:Hp)(a:Addr)(y v:V)(H':Hp):Prop:=
 (∃kvs k,H a=some (.dK kvs)/\y=kV k/\kvs.length<sizeLine/\H'=upd H a (.dK (cg kvs k v)))\/
 ∃kvs k b,H a=some (.dT kvs)/\y=.ref b/\H b=some (.tup (k.map kV))/\kvs.length<sizeLine/\H'=upd H a (.dT (cg kvs k v))
theorem mz.k{a:Addr}{kvs:List (j3×V)}{k:j3}(e:H a=some (.dK kvs)):mz H a (kV k) (aQ kvs k):=.inl ⟨kvs,k,.inl e,rfl,rfl⟩
section
variable {a:Addr}{y:V}{r:Value}{o:Option V} 
theorem qx.big(I:qx X pins σ H s):sysModules<s.heap.objs.size:=by have h:mainGlobals<s.heap.objs.size:=(I.mod.glob.keeps I.bk).lt;exact Nat.lt_trans (by decide) h
theorem vJ(hu:A.units+1<cLine)(I:qx X pins σ H s)(g:mz H a y (some v))(ry:zk y u)(h:∀w' s',qx X pins σ H s'->zk v w'->Q w' s'):
 wpAny (model X.prog X.w) A (getItem (.ref a) u) Q E s:=by
 rcases g with⟨kvs,k,e,ey,l⟩ | ⟨kvs,k,b,e,ey,eb,l⟩
 ·subst ey;obtain⟨z,hd,vs,rel,dd⟩:=jV I.hok e;obtain⟨w',hw,rw'⟩:=ET (v:=v) (o:=valueAt vs k) (by rw[l];exact rel.val k);exact wpAny_getItem_of (gf ry) dd.mapOf hw (h w' _ (I.tok _) rw')
 ·subst ey;cases (show u=Value.ref b from ry);obtain⟨z,hd,xs,rel,dd⟩:=pV I.hok e;obtain⟨w',hw,rw'⟩:=ET (v:=v) (o:=(atKey xs k).map (·.2)) (by rw[l];exact rel.val k);obtain⟨p,hp,hp2⟩:=Ay.mp hw;refine wpAny_getItem_heap (tupleKind_room_in1 hu) (lI I.hok eb) dd hp ?_;rw[hp2];exact h w' _ (I.tok _) rw'
theorem ana(hu:A.units+1<cLine)(I:qx X pins σ H s)(g:mz H a y o)(ry:zk y u)(h:∀s',qx X pins σ H s'->Q (.bool o.isSome) s'):
 wpAny (model X.prog X.w) A (compareOp .In u (.ref a)) Q E s:=by
 rcases g with⟨kvs,k,e,ey,l⟩ | ⟨kvs,k,b,e,ey,eb,l⟩
 ·subst ey;obtain⟨z,hd,vs,rel,dd⟩:=jV I.hok e;refine wpAny_in_of (gf ry) hd dd.mapOf ?_;rw[<-(rel.val k).isSome_eq,<-l];exact h _ (I.tok _)
 ·subst ey;cases (show u=Value.ref b from ry);obtain⟨z,hd,xs,rel,dd⟩:=pV I.hok e;refine wpAny_in_heap (tupleKind_room_in1 hu) (lI I.hok eb) hd dd ?_;have q:=(rel.val k).isSome_eq;rw[Cy] at q;rw[<-q,<-l];exact h _ (I.tok _)
theorem adr(hu:A.units+1<cLine)(I:qx X pins σ H s)(g:mz H a y o)(ry:zk y u)(h:∀s',qx X pins σ H s'->Q (.bool (!o.isSome)) s'):
 wpAny (model X.prog X.w) A (compareOp .NotIn u (.ref a)) Q E s:=by
 rcases g with⟨kvs,k,e,ey,l⟩ | ⟨kvs,k,b,e,ey,eb,l⟩
 ·subst ey;obtain⟨z,hd,vs,rel,dd⟩:=jV I.hok e;refine wpAny_notIn_of (gf ry) hd dd.mapOf ?_;rw[<-(rel.val k).isSome_eq,<-l];exact h _ (I.tok _)
 ·subst ey;cases (show u=Value.ref b from ry);obtain⟨z,hd,xs,rel,dd⟩:=pV I.hok e;refine wpAny_notIn_heap (tupleKind_room_in1 hu) (lI I.hok eb) hd dd ?_;have q:=(rel.val k).isSome_eq;rw[Cy] at q;rw[<-q,<-l];exact h _ (I.tok _)
theorem m7{ob:HO}(I:qx X pins σ H s)(mu:Mut (H a))(hs:Heap.SameBut a s.heap h')(he:∃q,h'.get? a=some q)(new:xg X.prog X.w (upd H a ob) h' a ob)(ht:0<t':=by walk_at "t"):
 qx X pins σ (upd H a ob) { s with heap:=h',toks:=t' }:=
 I.write (x:=a) (e:=a) mu (.inl rfl) (fun b q hb z=>(hs.2 b hb).trans z) he new
theorem xI{P:Program}{w:World}{kvs:List (j3×V)}{vs:List (j3×Value)}(z:kvs.length≤sizeLine)(hd:(a==sysModules)=false)(rel:KV kvs vs)(dd:h'.DictOf (xa P w) a vs):
 xg P w H' h' a (.dK kvs):=⟨z,hd,vs,rel,dd⟩
theorem u9{Q:Unit->Shared->Prop}(hu:A.units+1<cLine)(I:qx X pins σ H s)(g:aje H a y v H')(ry:zk y u)(rv:zk v r)(h:∀s',qx X pins σ H' s'->Q () s'):
 wpAny (model X.prog X.w) A (setItem (.ref a) u r) Q E s:=by
 rcases g with⟨kvs,k,e,ey,l,eH⟩ | ⟨kvs,k,b,e,ey,eb,l,eH⟩
 ·subst ey eH;obtain⟨z,hd,vs,rel,dd⟩:=ae8 I.hok e;have hz:vs.length≤sizeLine:=by rw[<-rel.length];exact z
  have hl:(cg kvs k v).length≤sizeLine:=by have:=cZ kvs k v;omega
  refine wpAny_setItem_pairs (hsz:=hz) (gf ry) dd fun h' dd' hs=>h _ ?_;have he:∃q,h'.get? a=some q:=let ⟨q,_,_,hq,_⟩:=dd';⟨q,hq⟩;exact m7 I (by rw[e];exact True.intro) hs he (xI hl hd (rel.put k rv) dd')
 ·subst ey eH;cases (show u=Value.ref b from ry);obtain⟨z,hd,xs,rel,dd⟩:=akl I.hok e;have hz:xs.length≤sizeLine:=by rw[<-Paired.length rel];exact z
  have hl:(cg kvs k v).length≤sizeLine:=by have:=cZ kvs k v;omega
  refine wpAny_setItem_heap (hsz:=hz) (tupleKind_room_in1 hu) (lI I.hok eb) dd fun h' dd' hs=>h _ ?_;obtain⟨q,es,ep,hq,h2,h3,h4,_,h5⟩:=dd';refine m7 I (by rw[e];exact True.intro) hs ⟨q,hq⟩ ⟨hl,hd,_,(rel.put k eb rv).keeps fun c ys ec=>?_,q,es,ep,hq,h2,h3,h4,h5⟩;rw[qr (aj6 ec e (fun z=>nomatch z))];exact ec
end
section
variable {a:Addr}{kvs:List (j3×V)}{k:j3} 
theorem ajh(I:qx X pins σ H s)(e:Rd H a (.dK kvs))(h:∀t s',qx X pins σ H s'->Q (.int kvs.length t) s'):wpAny (model X.prog X.w) A (call (.builtin "len") [.ref a]) Q E s:=by obtain⟨z,hd,vs,rel,dd⟩:=jV I.hok e;refine call_len_dict hd dd (by rw[<-rel.length];rw[sizeLine_eq] at z;omega) ?_;rw[<-rel.length];exact h _ _ (I.tok _)
end
def agx(i:Expr):Prop:=∀ov iv,subscripted i false ov iv=operate [ov,iv] (getItem ov iv)
theorem adu{w:World}{slice:Expr}{T id:String}
 (hl:typeLookup (.type T) "__getitem__" = pure (some (.builtin id))) (hs:agx slice)
 (h:wpAny (model prog w) A (eval value env) (fun o s₁=>wpAny (model prog w) A (eval slice env) (fun i s₂=>s₂.TypeIs o T/\wpAny (model prog w) A (getItem o i) Q E s₂) E s₁) E s):
 wpAny (model prog w) A (eval (.Subscript value slice pos) env) Q E s:=by
 refine Subscript_ (AY h (fun o s₁ h₁=>AY h₁ (fun i s₂ h₂=>?_) fun _ _ x=>x) fun _ _ x=>x);obtain⟨hT,h₂⟩:=h₂;unfold subscriptTail;refine Aa ?_;rw[getitemInPython_of_ne hT.not_modules];refine Aa (wpAny_specialOf hT hl ?_);have x8:wpAny (model prog w) A (subscripted slice false o i) (fun r s₃=>wpAny (model prog w) A (letTemporaryGo value o r >>= fun _=>pure r) Q E s₃) E s₂:=by rw[hs o i];exact wpAny_operating (AY h₂ (fun r s₃ h₃=>Aa (wpAny_letTemporaryGo (Ah h₃))) fun _ _ x=>x)
 first
  |exact Ah (Aa x8)
  |exact Aa (Ah (Aa x8))
  |exact Aa x8
theorem pJ{a:Addr}{y:V}{o:Option V}(I:qx X pins σ H s)(g:mz H a y o):s.TypeIs (.ref a) "dict" := by
 rcases g with⟨kvs,k,e,_,_⟩ | ⟨kvs,k,b,e,_,_,_⟩
 ·obtain⟨_,_,vs,_,dd⟩:=jV I.hok e;exact dd.typeIs
 ·obtain⟨_,_,xs,_,dd⟩:=pV I.hok e;exact dd.typeIs
def ak4(td ty:TE):TE:=fun σ H Q=>td σ H fun x H1=>ty σ H1 fun y H2=>∃a v,x=.ref a/\mz H2 a y (some v)/\Q v H2
def aj9(td ty tv:TE):TS:=fun D σ H=>tv σ H fun v H1=>td σ H1 fun x H2=>ty σ H2 fun y H3=>∃a H4,x=.ref a/\aje H3 a y v H4/\D.nx σ H4
section
variable {i:Expr}{tpos:Pos}{td ty tv:TE}
theorem abz(hu:X.A.units+1<cLine)(ho:PE X o td)(hi:PE X i ty)(hs:agx i):PE X (.Subscript o i pos) (ak4 td ty):=by intro pins s σ H Q I h;refine adu Dv.lookup hs (v0 (ho pins s σ H _ I h) fun u s1 ⟨x,H1,I1,rx,q1⟩=>v0 (hi pins s1 σ H1 _ I1 q1) fun iv s2 ⟨y,H2,I2,ry,a,v,ex,g,q2⟩=>?_);subst ex;obtain rfl:u=Value.ref a:=rx;exact⟨pJ I2 g,vJ hu I2 g ry fun w' s3 I3 rw'=>⟨v,H2,I3,rw',q2⟩⟩
theorem abb(hu:X.A.units+1<cLine)(ho:PE X o td)(hi:PE X i ty)(hv:PE X value tv)(hs:swapsWith value (some (.Subscript o i pos')) pos.line X.env=pure false):
 PS X (.Assign [.Subscript o i pos'] value pos) (aj9 td ty tv):=by
 intro pins s σ H D I h;refine wpAny_Assign_Subscript (v0 (hv pins s σ H _ I h) fun r s1 ⟨v,H1,I1,rv,q1⟩=>v0 (ho pins s1 σ H1 _ I1 q1) fun u s2 ⟨x,H2,I2,rx,q2⟩=>v0 (hi pins s2 σ H2 _ I2 q2) fun iv s3 ⟨y,H3,I3,ry,a,H4,ex,g,q3⟩=>?_) hs;subst ex;obtain rfl:u=Value.ref a:=rx;exact u9 hu I3 g ry rv fun s4 I4=>⟨σ,H4,I4,q3⟩
end
theorem qH{P:Program}{w:World}(h:Heap)(hb:sysModules<h.objs.size):xg P w H (h.push { cls:=.type "dict",data:=.dict #[] }) h.objs.size (.dK []):=
 ⟨Bf _,beq_eq_false_iff_ne.mpr (AM (Bd hb)),[],.nil,Heap.DictOf.new h⟩
def afd:TE:=fun _ H Q=>∀p,H p=none->Q (.ref p) (upd H p (.dK []))
section
theorem zY:PE X (.Dict [] [] pos) afd:=fun pins s σ H Q I h=>
 wpAny_Dict_empty ⟨.ref s.heap.objs.size,_,I.laid (a:=s.heap.objs.size) (o:=.dK []) (t':=s.toks) (fun _ _ q=>Heap.get?_push_of_some _ q) (An _) (qH s.heap I.big),rfl,h _ (I.hok.fresh (An _))⟩
end
def mZ:List (TE×TE)->St->Hp->(List (V×V)->Hp->Prop)->Prop
 |[],_,H,Q=>Q [] H
 |(tk,tv)::r,σ,H,Q=>tk σ H fun x H1=>tv σ H1 fun y H2=>mZ r σ H2 fun ps H3=>Q ((x,y)::ps) H3
abbrev VV:List (V×V)->List (Value×Value)->Prop:=Paired fun p q=>zk p.1 q.1/\zk p.2 q.2
def PPs(X:Cx)(pos:Pos)(keys:List (Option Expr))(values:List Expr)(trs:List (TE×TE)):Prop:=
 ∀(pins:List (Addr×Obj)) (s:Shared) (σ:St) (H:Hp) (Q:List (V×V)->Hp->Prop),qx X pins σ H s->mZ trs σ H Q->
  wpAny (model X.prog X.w) X.A (evalPairs (pairTrees keys values X.env pos)) (fun vs s'=>∃ps H',qx X pins σ H' s'/\VV ps vs/\Q ps H') X.xe s
theorem ac4 :PPs X pos [] [] []:=fun pins s σ H Q I h=>pairTrees_nil_walk ⟨[],H,I,.nil,h⟩
theorem fY{k v:Expr}{ks:List (Option Expr)}{vs:List Expr}{tk tv:TE}{trs:List (TE×TE)}(hk:PE X k tk)(hv:PE X v tv)(hr:PPs X pos ks vs trs):
 PPs X pos (some k::ks) (v::vs) ((tk,tv)::trs):=fun pins s σ H Q I h=>
 pairTrees_cons_walk (v0 (hk pins s σ H _ I h) fun u s1 ⟨x,H1,I1,rx,q1⟩=>v0 (hv pins s1 σ H1 _ I1 q1) fun w2 s2 ⟨y,H2,I2,ry,q2⟩=>
  v0 (hr pins s2 σ H2 _ I2 q2) fun ws s3 ⟨ps,H3,I3,rel,q3⟩=>⟨(x,y)::ps,H3,I3,.cons ⟨rx,ry⟩ rel,q3⟩)
def gS(kvs more:List (j3×V)):List (j3×V):=more.foldl (fun acc kv=>cg acc kv.1 kv.2) kvs
theorem KV.merge:∀{more:List (j3×V)} {rs:List (j3×Value)} {kvs:List (j3×V)} {vs:List (j3×Value)},KV more rs->KV kvs vs->KV (gS kvs more) (merged vs rs):=by
 intro more rs kvs vs r;unfold KV at r
 induction r generalizing kvs vs with
 |nil=>intro q;exact q
 |@cons p q ps qs h t ih=>
  intro r0;have e:KV (cg kvs p.1 p.2) (stored vs q.1 q.2):=by have:=r0.put p.1 h.2;rw[<-h.1];exact this
  exact ih e
theorem db:∀(more kvs:List (j3×V)),(gS kvs more).length≤kvs.length+more.length
 |[],kvs=>by show kvs.length≤kvs.length+0;omega
 |p::r,kvs=>by have h1:=db r (cg kvs p.1 p.2);have h2:=cZ kvs p.1 p.2;show(gS (cg kvs p.1 p.2) r).length≤_;rw[AK];omega
theorem kE{P:Program}{w:World}:∀{kvs:List (j3×V)} {ws:List (Value×Value)},VV (kvs.map fun kv=>(kV kv.1,kv.2)) ws->∃rs,Carries (xa P w) ws rs/\KV kvs rs
 |[],_,r=>by rw[C1] at r;cases r;exact⟨[],True.intro,.nil⟩
 |p::kvs,_,r=>by
  rw[AF] at r;cases r with
  |@cons a b as bs h t=>
   obtain⟨rs,c,q⟩:=kE (P:=P) (w:=w) t;obtain⟨b1,b2⟩:=b;exact⟨(p.1,b2)::rs,⟨gf h.1,rfl,c⟩,.cons ⟨rfl,h.2⟩ q⟩
def aio(trs:List (TE×TE)):TE:=fun σ H Q=>∀p,H p=none->mZ trs σ (upd H p (.dK [])) fun ps H2=>H2 p=some (.dK [])/\∃kvs:List (j3×V),ps=kvs.map (fun kv=>(kV kv.1,kv.2))/\kvs.length≤15/\Q (.ref p) (upd H2 p (.dK (gS [] kvs)))
theorem adl{keys:List (Option Expr)}{values:List Expr}{trs:List (TE×TE)}(h:PPs X pos keys values trs)(hall:keys.all (·.isSome)=true)(hl:keys.length=values.length)(h0:keys≠[])
 (h15:keys.length≤15):PE X (.Dict keys values pos) (aio trs):=by
 intro pins s σ H Q I q;have hn:=I.hok.fresh (An s.heap.objs.size);have I1:=I.laid (a:=s.heap.objs.size) (o:=.dK []) (h':=s.heap.push { cls:=.type "dict",data:=.dict #[] }) (t':=s.toks) (fun _ _ q=>Heap.get?_push_of_some _ q) (An _) (qH s.heap I.big);refine wpAny_Dict_walk (knd:=xa X.prog X.w) hall hl h0 h15 (v0 (h pins _ σ _ _ I1 (q _ hn)) fun ws s2 ⟨ps,H2,I2,rel,e,kvs,ep,lk,q2⟩=>?_);subst ep;obtain⟨rs,c,rk⟩:=kE (P:=X.prog) (w:=X.w) rel;obtain⟨z,hd,vs0,r0,dd⟩:=ae8 I2.hok e;cases r0;refine⟨rs,c,dd,fun h' dd' hs=>⟨.ref s.heap.objs.size,_,?_,rfl,q2⟩⟩;have hz:(gS [] kvs).length≤sizeLine:=by have h1:=db kvs [];rw[List.length_nil] at h1;rw[sizeLine_eq];omega
 have he:∃q,h'.get? s.heap.objs.size=some q:=let ⟨q,_,_,hq,_⟩:=dd';⟨q,hq⟩;exact m7 I2 (by rw[e];exact True.intro) hs he (xI hz hd (rk.merge .nil) dd')
section
variable {a:Addr}{y d:V}{r:Value}{o:Option V} 
end
section
variable {f:Expr}{td ty tx:TE}
end
section
variable {a:Addr}{kvs:List (j3×V)} 
end
section
variable {a:Addr}{y:V} 
end
end L2
namespace HT
open PySem PyProof.Rows
section
open PySem.SeqAt
open PySem.AutoSeq1 (wpAny_loadPart')
open PySem.MeetsSeq PySem.MeetsSeq2 PySem.MeetsSeq3
end
section
variable {w:World} 
def sIx(n d:Nat):Option Int->Nat
 |none=>d
 |some v=>if v<0 then(v+(n:Int)).toNat else min v.toNat n
theorem sIx_none(n d:Nat):sIx n d none=d:=rfl
theorem sIx_nat(n d k:Nat):sIx n d (some (k:Int))=min k n:=by show(if (k:Int)<0 then((k:Int)+(n:Int)).toNat else min (k:Int).toNat n)=min k n;rw[Az (by omega),BA]
theorem sIx_le(n d:Nat)(hd:d≤n)(o:Option Int):sIx n d o≤n:=by
 cases o with
 |none=>exact hd
 |some v=>
  show(if v<0 then(v+(n:Int)).toNat else min v.toNat n)≤n;by_cases hv:v<0
  ·rw[AB hv];omega
  ·rw[Az hv];exact Nat.min_le_right _ _
theorem uC(v:Int)(n d:Nat):(if v<0 then max (v+(n:Int)) 0 else min v (n:Int))=((sIx n d (some v):Nat):Int):=by
 show(if v<0 then max (v+(n:Int)) 0 else min v (n:Int))=(((if v<0 then(v+(n:Int)).toNat else min v.toNat n):Nat):Int);by_cases hv:v<0
 ·simp only[AB hv];omega
 ·simp only[Az hv];omega
theorem ss(lo hi:Option Int)(n:Nat):Builtin.Slice.sliceAdjust lo hi 1 (n:Int)=(((sIx n 0 lo:Nat):Int),((sIx n n hi:Nat):Int)):=by
 have h1:¬((1:Int)<0):=by omega
 unfold Builtin.Slice.sliceAdjust;simp only[h1,if_false];refine Prod.ext ?_ ?_
 ·cases lo with|none=>rfl|some v=>exact uC v n 0
 ·cases hi with|none=>rfl|some v=>exact uC v n n
theorem sN(i j:Nat):Builtin.Slice.slicePlaces (i:Int) (j:Int) 1=j - i:=by
 unfold Builtin.Slice.slicePlaces;have h1:(1:Int) > 0:=by omega
 simp only[h1,if_true,Int.ediv_one];split<;>omega
theorem iy{v:Value}{o:Option Int}{Q:Option Int->Shared->Prop}(p:IsPart v o)(h:Q o s):wpAny (model prog w) A (Builtin.Slice.slicePartIndex v) Q E s:=by cases p with|none=>exact slicePart_none h|int i t=>exact slicePart_int h
theorem gY{sl:Addr}{vl vu:Value}{lo hi:Option Int}{Q:Int×Int×Nat->Shared->Prop}(hs:s.heap.IsSliceOf sl vl vu .none)(pl:IsPart vl lo)(pu:IsPart vu hi)
 (h:Q (((sIx n 0 lo:Nat):Int),1,sIx n n hi - sIx n 0 lo) s):wpAny (model prog w) A (Builtin.Slice.sliceApplied (.ref sl) (pure (n:Int))) Q E s:=by
 obtain⟨os,hos,hcs,hds⟩:=id hs;unfold Builtin.Slice.sliceApplied Builtin.Slice.sliceFields;refine Aa (Aa (Bg hos hds (x:=vl) rfl (Aa (Bg hos hds (x:=vu) rfl (Aa (Bg hos hds (x:=.none) rfl (Ah ?_)))))));refine Aa (slicePart_none ?_);show wpAny _ _ (if ((1:Int)==0)=true then _ else _) _ _ s;rw[Az (by decide)];refine Aa (iy pl (Aa (iy pu (Aa (Ah ?_)))));show wpAny _ _ (match Builtin.Slice.sliceAdjust lo hi 1 (n:Int) with | (lo,hi)=>pure (lo,(1:Int),Builtin.Slice.slicePlaces lo hi 1)) _ _ s;rw[ss lo hi n];show wpAny _ _ (pure (((sIx n 0 lo:Nat):Int),(1:Int),Builtin.Slice.slicePlaces ((sIx n 0 lo:Nat):Int) ((sIx n n hi:Nat):Int) 1)) _ _ s;rw[sN];exact Ah h
theorem xY(xs:Array Value)(i k:Nat):((List.range k).filterMap fun(m:Nat)=>xs[((i:Int)+(m:Int)*1).toNat]?).toArray=((xs.toList.drop i).take k).toArray:=by
 have e:(fun(m:Nat)=>xs[((i:Int)+(m:Int)*1).toNat]?)=fun m=>xs[i+m]?:=by
  funext m;have:((i:Int)+(m:Int)*1).toNat=i+m:=by omega
  rw[this]
 rw[e];have:=pick_run xs i k;rw[List.filterMap_map] at this;have e2:((fun x=>xs[x]?)∘fun x=>i+x)=fun m=>xs[i+m]?:=rfl;rw[e2] at this;rw[this]
theorem getItem_tuple_cut{t sl:Addr}{items:Array Value}{vl vu:Value}{lo hi:Option Int}(ht:IsTup s.heap t items)(hs:s.heap.IsSliceOf sl vl vu .none)(pl:IsPart vl lo)(pu:IsPart vu hi)
 (hw:¬(sIx items.size 0 lo=0/\sIx items.size items.size hi=items.size))
 (h:Q (.ref s.heap.objs.size) { s with heap:=s.heap.push { cls:=.type "tuple",data:=.seq ((items.toList.drop (sIx items.size 0 lo)).take (sIx items.size items.size hi - sIx items.size 0 lo)).toArray } })
 (hsz:items.size≤sizeLine):wpAny (model prog w) A (getItem (.ref t) (.ref sl)) Q E s:=by
 have htake:sizeOk (.seq ((items.toList.drop (sIx items.size 0 lo)).take (sIx items.size items.size hi - sIx items.size 0 lo)).toArray):=by show((items.toList.drop (sIx items.size 0 lo)).take (sIx items.size items.size hi - sIx items.size 0 lo)).toArray.size≤sizeLine;rw[Am,AN,Bq,AL];omega
 have hj:sIx items.size items.size hi≤items.size:=sIx_le _ _ (An _) hi;obtain⟨os,hos,hcs,hds⟩:=id hs;have hTs:s.TypeIs (.ref sl) "slice" := ⟨os,hos,hcs⟩;unfold getItem
 try with_reducible refine A8 ?_
 first | refine Aa (Ah ?_) | skip
 refine Aa (wpAny_sequenceKey ht.typeIs (by decide) ?_);refine Aa (wpAny_callSpecial?_slot (name:=Str.ofString "__getitem__") ht.typeIs Cf
  (wpAny_call_entry Cf ht.typeIs entry_tuple_getitem ?_ (args_tuple_getitem _ _)))
 show wpAny _ _ (Builtin.Tuple.tupleItemsOf (.ref t) >>= _) _ _ s;refine Aa (tupleItemsOf_ ht ?_);refine Aa (wpAny_typeOf hTs ?_);rw[AB (by decide)];refine Aa (gY hs pl pu ?_);have hno:¬((((sIx items.size 0 lo:Nat):Int)==0&&(1:Int)==1&&(sIx items.size items.size hi - sIx items.size 0 lo)==items.size)=true):=by intro q;rw[Bc,Bc] at q;have q1:((sIx items.size 0 lo:Nat):Int)=0:=eq_of_beq q.1.1;have q2:sIx items.size items.size hi - sIx items.size 0 lo=items.size:=eq_of_beq q.2;exact hw ⟨by omega,by omega⟩
 show wpAny _ _ (if (((sIx items.size 0 lo:Nat):Int)==0&&(1:Int)==1&&(sIx items.size items.size hi - sIx items.size 0 lo)==items.size)=true then _ else _) _ _ s;rw[Az hno,xY]
 first
  |exact Aa (m:=Builtin.Tuple.tupleExact _) (Bp (Ah ⟨_,rfl,Ah h⟩) htake)
  |exact Aa (m:=Builtin.Tuple.tupleExact _) (Bp (Aa (Ah (Ah ⟨_,rfl,Ah h⟩))) htake)
  |exact Aa (Aa (m:=Builtin.Tuple.tupleExact _) (Bp (Ah (Ah ⟨_,rfl,Ah h⟩)) htake))
  |exact Aa (Aa (m:=Builtin.Tuple.tupleExact _) (Bp (Ah ⟨_,rfl,Ah h⟩) htake))
end
end HT
namespace L2
open PySem PySem.Spec PyProof.Rows
abbrev TO:=St->Hp->(Option Int->Hp->Prop)->Prop
def PO(X:Cx)(e:Option Expr)(t:TO):Prop:=
 ∀(pins:List (Addr×Obj)) (s:Shared) (σ:St) (H:Hp) (Q:Option Int->Hp->Prop),qx X pins σ H s->t σ H Q->
  wpAny (model X.prog X.w) X.A (evalPart e X.env) (fun u s'=>∃o H',qx X pins σ H' s'/\IsPart u o/\Q o H') X.xe s
def abl:TO:=fun _ H Q=>Q none H
def ajn(t:TE):TO:=fun σ H Q=>t σ H fun x H1=>∃i,x=.int i/\Q (some i) H1
section
variable {te:TE}{lo hi:Option Expr}{tl th:TO} 
theorem ad5:PO X none abl:=by intro pins s σ H Q I h;rw[evalPart_none];exact Ah ⟨none,H,I,.none,h⟩
theorem acb(h:PE X e te):PO X (some e) (ajn te):=by intro pins s σ H Q I hw;rw[evalPart_some];refine v0 (h pins s σ H _ I hw) fun u s1 ⟨x,H1,I1,r1,q1⟩=>?_;obtain⟨i,rfl,q⟩:=q1;obtain⟨t,rfl⟩:=r1;exact⟨some i,H1,I1,.int i t,q⟩
def oW(X:Cx)(r:V->Option Int->Option Int->Hp->VK->Prop):Prop:=
 ∀(pins:List (Addr×Obj)) (s:Shared) (σ:St) (H:Hp) (x:V) (v vl vu:Value) (lo hi:Option Int) (sl:Addr) (Q:VK),qx X pins σ H s->zk x v->s.heap.IsSliceOf sl vl vu .none->IsPart vl lo->IsPart vu hi->r x lo hi H Q->
  ∃T id,typeLookup (.type T) "__getitem__" = pure (some (.builtin id))/\s.TypeIs v T/\wpAny (model X.prog X.w) X.A (getItem v (.ref sl)) (EP X pins σ Q) X.xe s
theorem oW.or{r':V->Option Int->Option Int->Hp->VK->Prop}(h:oW X r)(h':oW X r'):oW X (fun x lo hi H Q=>r x lo hi H Q\/r' x lo hi H Q):=by
 intro pins s σ H x v vl vu lo hi sl Q I rx hs pl pu q;rcases q with q | q
 ·exact h pins s σ H x v vl vu lo hi sl Q I rx hs pl pu q
 ·exact h' pins s σ H x v vl vu lo hi sl Q I rx hs pl pu q
def tSl(r:V->Option Int->Option Int->Hp->VK->Prop)(te:TE)(tl th:TO):TE:=fun σ H Q=>te σ H fun x H1=>tl σ H1 fun l H2=>th σ H2 fun u H3=>r x l u H3 Q
theorem zS(hr:oW X r)(he:PE X e te)(hl:PO X lo tl)(hu:PO X hi th):PE X (.Subscript e (.Slice lo hi none p2) pos) (tSl r te tl th):=by intro pins s σ H Q I h;refine Subscript_ (v0 (he pins s σ H _ I h) fun v s1 ⟨x,H1,I1,r1,q1⟩=>?_);refine wpAny_Slice (v0 (hl pins s1 σ H1 _ I1 q1) fun vl s2 ⟨l,H2,I2,pl,q2⟩=>v0 (hu pins s2 σ H2 _ I2 q2) fun vu s3 ⟨u,H3,I3,pu,q3⟩=>?_);rw[evalPart_none];refine Ah ?_;have I4:qx X pins σ H3 { s3 with heap:=s3.heap.push { cls:=.type "slice",data:=.fields #[vl,vu,.none] } }:=I3.kept (t':=s3.toks) fun b ob q=>Heap.get?_push_of_some _ q;obtain⟨T,id,hT,ht,hg⟩:=hr pins { s3 with heap:=s3.heap.push { cls:=.type "slice",data:=.fields #[vl,vu,.none] } } σ H3 x v vl vu l u s3.heap.objs.size Q I4 r1 (Heap.IsSliceOf.new ..) pl pu q3;show wpAny (model X.prog X.w) X.A (subscriptTail e (.Slice lo hi none p2) v (.ref s3.heap.objs.size)) (EP X pins σ Q) X.xe { s3 with heap:=s3.heap.push { cls:=.type "slice",data:=.fields #[vl,vu,.none] } };exact tail_any (ops:=[.ref s3.heap.objs.size,v]) ht hT hg (by with_unfolding_all rfl)
def rF(xs:List V)(lo hi:Option Int):List V:=(xs.drop (HT.sIx xs.length 0 lo)).take (HT.sIx xs.length xs.length hi - HT.sIx xs.length 0 lo)
theorem gx(xs:List V)(lo hi:Option Int):(rF xs lo hi).length≤xs.length:=by unfold rF;rw[AN,Bq];omega
def amx(K:Ai):V->Option Int->Option Int->Hp->VK->Prop:=fun x lo hi H Q=>∃a xs,x=.ref a/\cM K H a xs/\
 ¬(HT.sIx xs.length 0 lo=0/\HT.sIx xs.length xs.length hi=xs.length)/\∀p,H p=none->Q (.ref p) (upd H p (.tup (rF xs lo hi)))
theorem ag0:oW X (amx X.K):=by
 intro pins s σ H x v vl vu lo hi sl Q I rx hs pl pu h;obtain⟨a,xs,rfl,hx,hw,q⟩:=h;cases rx;obtain⟨its,r,ht,hz⟩:=I.tuple hx;have hlen:its.toArray.size=xs.length:=by rw[Am];exact r.length.symm
 refine⟨"tuple",_,Cf.lookup,ht.typeIs,?_⟩;refine HT.getItem_tuple_cut ht hs pl pu (by rw[hlen];exact hw) ?_ (by rw[hlen];exact hz);rw[hlen];refine⟨.ref s.heap.objs.size,_,I.laid (t':=s.toks) (o:=.tup (rF xs lo hi)) (fun b ob q=>Heap.get?_push_of_some _ q) (An _) ?_,rfl,q _ (I.hok.fresh (An _))⟩;exact⟨AW (gx xs lo hi) hz,_,(r.drop (HT.sIx xs.length 0 lo)).take (HT.sIx xs.length xs.length hi - HT.sIx xs.length 0 lo),IsTup.new _ _⟩
end
def ixN(n:Nat)(i:Int):Option Nat:=if 0≤i then(if i<n then some i.toNat else none) else if -(n:Int)≤i then some (i+n).toNat else none
def fg(xs:List α)(i:Int):Option α:=(ixN xs.length i).bind fun j=>xs[j]?
theorem uJ{i:Int}(h:ixN n i=some j):seqIndex? i n=some j/\j<n /\ -(n:Int)≤i/\i<n:=by
 unfold ixN at h;by_cases h0:0≤i
 ·rw[AB h0] at h;by_cases h1:i<n
  ·rw[AB h1] at h;have e:i.toNat=j:=A4 h;exact⟨by rw[seqIndex_of h0 h1,e],by omega,by omega,h1⟩
  ·rw[Az h1] at h;cases h
 ·rw[Az h0] at h;by_cases h1 : -(n:Int)≤i
  ·rw[AB h1] at h;have e:(i+n).toNat=j:=A4 h;exact⟨by rw[seqIndex_neg (by omega) h1,e],by omega,h1,by omega⟩
  ·rw[Az h1] at h;cases h
theorem mh{xs:List α}{i:Int}{v:α}(h:fg xs i=some v):∃j,seqIndex? i xs.length=some j/\xs[j]?=some v/\j<xs.length /\ -(xs.length:Int)≤i/\i<xs.length:=by
 unfold fg at h;cases e:ixN xs.length i with
 |none=>rw[e] at h;cases h
 |some j=>
  rw[e] at h;obtain⟨h1,h2,h3,h4⟩:=uJ e;exact⟨j,h1,h,h2,h3,h4⟩
theorem kn{xs:List α}{v:α}(h:xs[j]?=some v):fg xs (j:Int)=some v:=by
 have hj:j<xs.length:=(A2.mp h).1;have e:ixN xs.length (j:Int)=some j:=by unfold ixN;rw[AB (by omega),AB (by omega)];simp
 unfold fg;rw[e];exact h
def iQ(b:Expr):Prop:=∀o i,subscripted b false o i=operate [o,i] (getItem o i)
def xS(X:Cx)(r:R2):Prop:=
 ∀(value slice:Expr) (pins:List (Addr×Obj)) (s:Shared) (σ:St) (H:Hp) (x y:V) (v u:Value) (Q:VK),qx X pins σ H s->zk x v->zk y u->r x y H Q->
  subscripted slice false v u=operate [v,u] (getItem v u)->wpAny (model X.prog X.w) X.A (subscriptTail value slice v u) (EP X pins σ Q) X.xe s
def MtR(X:Cx)(id:String)(r:V->List V->Hp->VK->Prop):Prop:=
 ∀(pins:List (Addr×Obj)) (s:Shared) (σ:St) (H:Hp) (x:V) (xs:List V) (v:Value) (us:List Value) (Q:VK),qx X pins σ H s->zk x v->ze xs us->r x xs H Q->
  wpAny (model X.prog X.w) X.A (call (.builtin id) (v::us)) (EP X pins σ Q) X.xe s
section
variable {a b:Expr}{tb:TE} 
theorem ael{r:R2}(hr:xS X r)(ha:PE X a ta)(hb:PE X b tb)(hs:iQ b):PE X (.Subscript a b pos) (tOp r ta tb):=by intro pins s σ H Q I h;exact Subscript_ (afq ha hb I h fun v u s2 x y H2 I2 rx ry q=>hr a b pins s2 σ H2 x y v u Q I2 rx ry q (hs _ _))
def alq(K:Ai):R2:=fun x y H Q=>∃p xs i v,x=.ref p/\y=.int i/\wv K H p xs/\fg xs i=some v/\Q v H
def ale(K:Ai):R2:=fun x y H Q=>∃p xs i v,x=.ref p/\y=.int i/\cM K H p xs/\fg xs i=some v/\Q v H
def an8:R2:=fun x y H Q=>∃z i c,x=.str z/\y=.int i/\z.length≤sizeLine/\fg z.cps.toList i=some c/\Q (.str ⟨#[c]⟩) H
theorem abm:xS X (alq X.K):=by
 intro value slice pins s σ H x y v u Q I rx ry h hs;obtain⟨p,xs,i,z,rfl,rfl,hq,he,q⟩:=h;cases rx;obtain⟨t,rfl⟩:=ry;obtain⟨its,r,pl,hz⟩:=I.list hq;obtain⟨j,h1,h2,h3,h4,h5⟩:=mh he;obtain⟨w,ew,rw'⟩:=r.get h2;have hl:=r.length;have hn:=g9;have x8:EP X pins σ Q w s:=⟨z,H,I,rw',q⟩;by_cases h0:0≤i
 ·have hj:i.toNat=j:=by rw[seqIndex_of h0 h5] at h1;exact A4 h1
  exact item_listR pl.isList h0 (by omega) (by rw[hj];simpa using ew) x8 hs
 ·have hj:(i+(its.toArray.size:Int)).toNat=j:=by rw[seqIndex_neg (by omega) h4] at h1;rw[Am,<-hl];exact A4 h1
  exact subscriptTail_builtinR (x:=w) pl.isList.typeIs slot_list_getitem.lookup
   (wpAny_getItem_list_neg (Q:=fun r s'=>r=w/\EP X pins σ Q r s') pl.isList (by omega) (by rw[Am]<;>omega) (by omega) (by rw[hj];simpa using ew) ⟨rfl,x8⟩) hs
theorem ag2:xS X (ale X.K):=by
 intro value slice pins s σ H x y v u Q I rx ry h hs;obtain⟨p,xs,i,z,rfl,rfl,hq,he,q⟩:=h;cases rx;obtain⟨t,rfl⟩:=ry;obtain⟨its,r,pl,hz⟩:=I.tuple hq;obtain⟨j,h1,h2,h3,h4,h5⟩:=mh he;obtain⟨w,ew,rw'⟩:=r.get h2;have hl:=r.length;have hn:=g9;have x8:EP X pins σ Q w s:=⟨z,H,I,rw',q⟩;exact subscriptTail_builtinR (x:=w) pl.typeIs slot_tuple_getitem.lookup
  (getItem_tuple (j:=j) (Q:=fun r s'=>r=w/\EP X pins σ Q r s') pl (by omega) (by omega) (by rw[Am,<-hl];exact h1) (by simpa using ew) ⟨rfl,x8⟩) hs
theorem afc:xS X an8:=by
 intro value slice pins s σ H x y v u Q I rx ry h hs;obtain⟨z,i,c,rfl,rfl,hz,he,q⟩:=h;obtain⟨t,rfl⟩:=rx;obtain⟨t',rfl⟩:=ry;obtain⟨j,h1,h2,h3,h4,h5⟩:=mh he;have hl:z.cps.toList.length=z.length:=by simp[Str.length]
 rw[hl] at h1 h4 h5;have hn:=g9;exact tail_any (typeIs_str s z t) slot_str_getitem.lookup (getItem_str (c:=c) (by have e1:decide (i < -(2 ^ 63:Int))=false:=Ax (by omega);have e2:decide (i≥2 ^ 63)=false:=Ax (by omega);rw[e1,e2,Bool.or_false]) (by rw[h1];simpa using h2) ⟨.str ⟨#[c]⟩,H,I.tok _,⟨_,rfl⟩,q⟩) hs
theorem r9(its:List Value)(n j:Nat)(u:Value):Obj.mapSeq (·.setIfInBounds j u) { cls:=.type "list",data:=.seq its.toArray n }={ cls:=.type "list",data:=.seq (its.set j u).toArray n }:=by simp[Obj.mapSeq]
theorem qx.lst{p:Addr}(I:qx X pins σ H s)(h:H p=some (.lst xs)):
 ∃(its:List Value) (n:Nat),ze xs its/\s.heap.get? p=some { cls:=.type "list",data:=.seq its.toArray n }/\xs.length≤sizeLine:=by
 obtain⟨z,its,n,r,e⟩:=I.hok p _ h;exact⟨its,n,r,e,z⟩
theorem qx.lstUpd{p:Addr}{ys:List V}{its':List Value}{n':Nat}{f:Obj->Obj}(I:qx X pins σ H s)(h:H p=some (.lst xs))
 (ho:s.heap.get? p=some { cls:=.type "list",data:=.seq its.toArray n }) (hf:f { cls:=.type "list",data:=.seq its.toArray n }={ cls:=.type "list",data:=.seq its'.toArray n' }) (r:ze ys its') (hz:ys.length≤sizeLine) (t:Nat) (ht:0<t:=by walk_at "t"):
 qx X pins σ (upd H p (.lst ys)) { s with heap:=s.heap.update p f,toks:=t }:=by
 have e:(s.heap.update p f).get? p=some { cls:=.type "list",data:=.seq its'.toArray n' }:=by rw[Heap.get?_update_self f ho (by rw[hf]<;>rfl),hf]
 refine I.write (x:=p) (e:=p) (by rw[h];trivial) (.inl rfl) (fun b u hb q=>(Heap.get?_update_other _ _ (AM hb)).trans q) ⟨_,e⟩ ?_;exact⟨hz,its',n',r,e⟩
def ajr:V->V->V->Hp->(Hp->Prop)->Prop:=fun o i v H Q=>∃p xs k j,o=.ref p/\i=.int k/\H p=some (.lst xs)/\ixN xs.length k=some j/\Q (upd H p (.lst (xs.set j v)))
theorem aab:aiy X ajr:=by
 intro pins s σ H o i v ov iv u Q I ro ri rv h;obtain⟨p,xs,k,j,rfl,rfl,hp,hj,q⟩:=h;cases ro;obtain⟨t,rfl⟩:=ri;obtain⟨its,n,r,ho,hz⟩:=I.lst hp;obtain⟨h1,h2,h3,h4⟩:=uJ hj;have hl:=r.length;have hn:=g9;have I':qx X pins σ (upd H p (.lst (xs.set j v))) { s with heap:=s.heap.update p (Obj.mapSeq (·.setIfInBounds j u)) }:=
  I.lstUpd hp ho (r9 its n j u) (r.set rv j) (by rw[B7];exact hz) s.toks
 by_cases h0:0≤k
 ·have hk:k.toNat=j:=by rw[seqIndex_of h0 h4] at h1;exact A4 h1
  exact PySem.W.ki_setAt ho h0 (by omega) (by rw[Am,<-hl];exact h4) (by rw[hk];exact⟨_,I',q⟩)
 ·have hk:(k+(its.toArray.size:Int)).toNat=j:=by rw[seqIndex_neg (by omega) h3] at h1;rw[Am,<-hl];exact A4 h1
  exact PySem.W.ki_setBack ho (by omega) (by rw[Am,<-hl];exact h3) (by omega) (by rw[hk];exact⟨_,I',q⟩)
theorem mo(lo hi:Option Int)(n:Nat):(sliceBounds lo hi none n).1=((HT.sIx n 0 lo:Nat):Int)/\(sliceBounds lo hi none n).2.1=((HT.sIx n n hi:Nat):Int)/\(sliceBounds lo hi none n).2.2=1:=by
 refine⟨?_,?_,rfl⟩
 ·cases lo with
  |none=>simp[sliceBounds,HT.sIx]
  |some i=>
   simp only[sliceBounds,HT.sIx,Option.getD_none,show(1:Int) > 0 by decide,if_true];by_cases h:i<0
   ·simp only[h,if_true]<;>omega
   ·simp only[h,if_false]<;>omega
 ·cases hi with
  |none=>simp[sliceBounds,HT.sIx]
  |some i=>
   simp only[sliceBounds,HT.sIx,Option.getD_none,show(1:Int) > 0 by decide,if_true];by_cases h:i<0
   ·simp only[h,if_true]<;>omega
   ·simp only[h,if_false]<;>omega
theorem lU(its:List Value)(lo hi:Option Int):slicePick its.toArray lo hi none=((its.drop (HT.sIx its.length 0 lo)).take (HT.sIx its.length its.length hi - HT.sIx its.length 0 lo)).toArray:=by obtain⟨h1,h2,h3⟩:=mo lo hi its.toArray.size;unfold slicePick;rw[h1,h2,h3];simp only[sliceRange_one,pick_run,Am]<;>rfl
def anu(K:Ai):V->Option Int->Option Int->Hp->VK->Prop:=fun x lo hi H Q=>∃a xs,x=.ref a/\wv K H a xs/\∀p,H p=none->Q (.ref p) (upd H p (.lst (rF xs lo hi)))
theorem abf:oW X (anu X.K):=by intro pins s σ H x v vl vu lo hi sl Q I rx hs pl pu h;obtain⟨a,xs,rfl,hx,q⟩:=h;cases rx;obtain⟨its,r,ht,hz⟩:=I.list hx;have hlen:=r.length;refine⟨"list",_,slot_list_getitem.lookup,ht.isList.typeIs,?_⟩;refine wpAny_getItem_list_slice ht.isList hs pl pu .none (by simp) ?_ (by rw[Am]<;>omega);rw[lU,<-hlen];refine⟨.ref s.heap.objs.size,_,I.laid (t':=s.toks) (o:=.lst (rF xs lo hi)) (fun b ob q=>Heap.get?_push_of_some _ q) (An _) ?_,rfl,q _ (I.hok.fresh (An _))⟩;exact⟨AW (gx xs lo hi) hz,_,0,(r.drop (HT.sIx xs.length 0 lo)).take (HT.sIx xs.length xs.length hi - HT.sIx xs.length 0 lo),Heap.get?_push_size _ rfl⟩
def aO:V->Bool
 |.non=>true
 |.bl _=>true
 |.int _=>true
 |.str _=>true
 |_=>false
def fh:V->V->Bool
 |.non,.non=>true
 |.bl a,.bl b=>a==b
 |.bl a,.int b=>(if a then 1 else 0)==b
 |.int a,.bl b=>a==(if b then 1 else 0)
 |.int a,.int b=>a==b
 |.str a,.str b=>a==b
 |_,_=>false
theorem kQ{y x:V}{v:Value}(ry:zk y u)(rx:zk x v)(fy:aO y=true)(fx:aO x=true):SeqAt.EqAt A s u v (fh y x):=by
 cases y with
 |non=>
  cases ry;cases x with
  |non=>cases rx;exact SeqAt.EqAt.same _
  |bl b=>cases rx;exact SeqAt.EqAt.none_bool b
  |int b=>obtain⟨t,rfl⟩:=rx;exact SeqAt.EqAt.none_int b t
  |str b=>obtain⟨t,rfl⟩:=rx;exact SeqAt.EqAt.none_str b t
  |_=>exact absurd (show false=true from fx) AC
 |bl a=>
  cases ry;cases x with
  |non=>cases rx;exact SeqAt.EqAt.bool_none a
  |bl b=>cases rx;exact SeqAt.EqAt.bool_bool a b
  |int b=>obtain⟨t,rfl⟩:=rx;exact SeqAt.EqAt.bool_int a b t
  |str b=>obtain⟨t,rfl⟩:=rx;exact SeqAt.EqAt.bool_str a b t
  |_=>exact absurd (show false=true from fx) AC
 |int a=>
  obtain⟨t',rfl⟩:=ry;cases x with
  |non=>cases rx;exact SeqAt.EqAt.int_none a t'
  |bl b=>cases rx;exact SeqAt.EqAt.int_bool a t' b
  |int b=>obtain⟨t,rfl⟩:=rx;exact SeqAt.EqAt.int_int a t' b t
  |str b=>obtain⟨t,rfl⟩:=rx;exact SeqAt.EqAt.int_str a t' b t
  |_=>exact absurd (show false=true from fx) AC
 |str a=>
  obtain⟨t',rfl⟩:=ry;cases x with
  |non=>cases rx;exact SeqAt.EqAt.str_none a t'
  |bl b=>cases rx;exact SeqAt.EqAt.str_bool a t' b
  |int b=>obtain⟨t,rfl⟩:=rx;exact SeqAt.EqAt.str_int a t' b t
  |str b=>obtain⟨t,rfl⟩:=rx;exact SeqAt.EqAt.str_str a t' b t
  |_=>exact absurd (show false=true from fx) AC
 |_=>exact absurd (show false=true from fy) AC
def sQ(x:V)(u:Value):Bool:=match u with
 |.none=>fh .non x
 |.bool b=>fh (.bl b) x
 |.int i _=>fh (.int i) x
 |.str z _=>fh (.str z) x
 |_=>false
theorem yY{x y:V}(r:zk y u)(f:aO y=true):sQ x u=fh y x:=by
 cases y with
 |non=>cases r;rfl
 |bl b=>cases r;rfl
 |int i=>obtain⟨t,rfl⟩:=r;rfl
 |str z=>obtain⟨t,rfl⟩:=r;rfl
 |_=>exact absurd (show false=true from f) AC
theorem fC{x:V}:∀{xs:List V} {us:List Value},ze xs us->xs.all aO=true->us.any (sQ x)=xs.any fun y=>fh y x
 |_,_,.nil,_=>rfl
 |y::xs,u::us,.cons r t,f=>by rw[DD,Bc] at f;rw[Cd,Cd,yY r f.1,fC t f.2]
theorem dC{A:Around}{s:Shared}{x:V}{v:Value}(rx:zk x v)(fx:aO x=true):∀{xs:List V} {us:List Value},ze xs us->xs.all aO=true->∀u∈us,SeqAt.EqAt A s u v (sQ x u)
 |_,_,.nil,_=>fun u hu=>by cases hu
 |y::xs,u::us,.cons r t,f=>fun u' hu=>by
  rw[DD,Bc] at f;rcases Av.mp hu with rfl | hu
  ·rw[yY r f.1];exact kQ r rx f.1 fx
  ·exact dC rx fx t f.2 u' hu
def uK(x:V)(xs:List V):Bool:=xs.any fun y=>fh y x
def rIn(K:Ai)(neg:Bool):R2:=fun x y H Q=>∃p xs,y=.ref p/\(wv K H p xs\/cM K H p xs)/\aO x=true/\xs.all aO=true/\Q (.bl (if neg then !uK x xs else uK x xs)) H
theorem wM:kq X (compareOp .In) (rIn X.K false):=by
 intro pins s σ H x y v u Q I rx ry h;obtain⟨p,xs,rfl,hq,fx,fs,q⟩:=h;cases ry;rcases hq with hq | hq
 ·obtain⟨its,r,pl,hz⟩:=I.list hq;refine SeqAt.in_listAt (sQ x) pl.isList (fun w hw=>dC rx fx r fs w (by simpa using hw)) ⟨.bl _,H,I,rfl,?_⟩;rw[show its.toArray.any (sQ x)=its.any (sQ x) by simp,fC r fs];exact q
 ·obtain⟨its,r,pl,hz⟩:=I.tuple hq;refine SeqAt.in_tupleAt (sQ x) pl (fun w hw=>dC rx fx r fs w (by simpa using hw)) ⟨.bl _,H,I,rfl,?_⟩;rw[show its.toArray.any (sQ x)=its.any (sQ x) by simp,fC r fs];exact q
theorem m9:kq X (compareOp .NotIn) (rIn X.K true):=by
 intro pins s σ H x y v u Q I rx ry h;obtain⟨p,xs,rfl,hq,fx,fs,q⟩:=h;cases ry;rcases hq with hq | hq
 ·obtain⟨its,r,pl,hz⟩:=I.list hq;refine SeqAt.notIn_listAt (sQ x) pl.isList (fun w hw=>dC rx fx r fs w (by simpa using hw)) ⟨.bl _,H,I,rfl,?_⟩;rw[show its.toArray.any (sQ x)=its.any (sQ x) by simp,fC r fs];exact q
 ·obtain⟨its,r,pl,hz⟩:=I.tuple hq;refine SeqAt.notIn_tupleAt (sQ x) pl (fun w hw=>dC rx fx r fs w (by simpa using hw)) ⟨.bl _,H,I,rfl,?_⟩;rw[show its.toArray.any (sQ x)=its.any (sQ x) by simp,fC r fs];exact q
theorem mx:jk X (.builtin "len") (fun xs H Q=>∃p ys,xs=[.ref p]/\(wv X.K H p ys\/cM X.K H p ys)/\Q (.int ys.length) H):=by
 intro pins s σ H xs us Q I r h;obtain⟨p,ys,rfl,hq,q⟩:=h;obtain⟨u,rfl,rx⟩:=kI r;cases rx;have hn:=g9;rcases hq with hq | hq
 ·obtain⟨its,r',pl,hz⟩:=I.list hq;have hlen:=r'.length;exact Calls.call_len_list pl.isList (by simp only[Am]<;>omega) ⟨.int ys.length,H,I.tok _,⟨s.toks+1,by rw[Am,hlen]⟩,q⟩
 ·obtain⟨its,r',pl,hz⟩:=I.tuple hq;have hlen:=r'.length;exact len_tuple pl (by simp only[Am]<;>omega) ⟨.int ys.length,H,I.tok _,⟨s.toks+1,by rw[Am,hlen]⟩,q⟩
theorem nS:jk X (.builtin "len") (fun xs H Q=>∃z,xs=[.str z]/\z.length≤sizeLine/\Q (.int z.length) H):=by intro pins s σ H xs us Q I r h;obtain⟨z,rfl,hz,q⟩:=h;obtain⟨u,rfl,t,rfl⟩:=kI r;have hn:=g9;exact len_str (by omega) ⟨.int z.length,H,I.tok _,⟨_,rfl⟩,q⟩
theorem oF:jk X (.type "list") (fun xs H Q=>∃p ys,xs=[.ref p]/\(wv X.K H p ys\/cM X.K H p ys)/\∀l,H l=none->Q (.ref l) (upd H l (.lst ys))):=by
 intro pins s σ H xs us Q I r h;obtain⟨p,ys,rfl,hq,q⟩:=h;obtain⟨u,rfl,rx⟩:=kI r;cases rx;have x8:∀(its:List Value),ze ys its->ys.length≤sizeLine->∀(h':Heap) (c':Nat),(∀b o',s.heap.get? b=some o'->h'.get? b=some o')->
  h'.get? s.heap.objs.size=some { cls:=.type "list",dict:=none,data:=.seq its.toArray c',slots:=#[] }->EP X pins σ Q (.ref s.heap.objs.size) { s with heap:=h' }:=fun its r' hz h' c' kp e=>
  ⟨.ref s.heap.objs.size,_,I.laid (t':=s.toks) kp (An _) (show xg X.prog X.w _ h' _ (.lst ys) from⟨hz,its,c',r',e⟩),rfl,q _ (I.hok.fresh (An _))⟩
 rcases hq with hq | hq
 ·obtain⟨its,r',pl,hz⟩:=I.list hq;have hlen:=r'.length;obtain⟨o,ho,hc,n,hd⟩:=pl.isList;exact call_list_seq p (.inl rfl) ho hc hd (fun h' c' kp e=>x8 its r' hz h' c' kp e) (by simp only[Am]<;>omega)
 ·obtain⟨its,r',pl,hz⟩:=I.tuple hq;have hlen:=r'.length;obtain⟨o,ho,hc,n,hd⟩:=pl;exact call_list_seq p (.inr rfl) ho hc hd (fun h' c' kp e=>x8 its r' hz h' c' kp e) (by simp only[Am]<;>omega)
theorem lS:jk X (.type "tuple") (fun xs H Q=>∃p ys,xs=[.ref p]/\((wv X.K H p ys/\∀l,H l=none->Q (.ref l) (upd H l (.tup ys)))\/(cM X.K H p ys/\Q (.ref p) H))):=by
 intro pins s σ H xs us Q I r h;obtain⟨p,ys,rfl,h⟩:=h;obtain⟨u,rfl,rx⟩:=kI r;cases rx;rcases h with⟨hq,q⟩ | ⟨hq,q⟩
 ·obtain⟨its,r',pl,hz⟩:=I.list hq;have hlen:=r'.length;refine call_tuple_list pl.isList (fun h' kp=>?_) (by simp only[Am]<;>omega);have I1:qx X pins σ H { s with heap:=h' }:=I.kept (t':=s.toks) kp;have I2:qx X pins σ (upd H h'.objs.size (.tup ys)) { s with heap:=h'.push { cls:=.type "tuple",data:=.seq its.toArray } }:=
   I1.laid (t':=s.toks) (fun b o e=>Heap.get?_push_of_some _ e) (An _) (show xg X.prog X.w _ _ _ (.tup ys) from⟨hz,its,r',IsTup.new _ _⟩)
  exact⟨.ref h'.objs.size,_,I2,rfl,q _ (I1.hok.fresh (An _))⟩
 ·obtain⟨its,r',pl,hz⟩:=I.tuple hq;exact call_tuple_same pl ⟨.ref p,H,I,rfl,q⟩
def tyV(K:Ai)(T:String)(x:V)(H:Hp):Prop:=match x with
 |.str _=>T = "str"
 |.int _=>T = "int"
 |.ref p=>(T = "list" /\ ∃xs,wv K H p xs)\/(T = "tuple" /\ ∃o,K.lookup p=some o/\o.cls=.type "tuple" /\ o.dict=none)\/
  (T = "dict" /\ ((∃kvs,H p=some (.dK kvs))\/∃kvs,H p=some (.dT kvs)))\/(T = "set" /\ ∃S n,H p=some (.set S n))
 |_=>False
theorem aak{T:String}{x:V}{v:Value}(I:qx X pins σ H s)(r:zk x v)(ty:tyV X.K T x H):
 s.TypeIs v T/\∀a,v=.ref a->∃ob,s.heap.get? a=some ob/\ob.dict=none:=by
 cases x with
 |str z=>
  obtain⟨t,rfl⟩:=r;cases (show T = "str" from ty);exact⟨typeIs_str s z t,fun _ e=>nomatch e⟩
 |int i=>
  obtain⟨t,rfl⟩:=r;cases (show T = "int" from ty);exact⟨typeIs_int s i t,fun _ e=>nomatch e⟩
 |ref p=>
  cases r;rcases ty with⟨rfl,xs,hq⟩ | ⟨rfl,o,hk,hc,hd⟩ | ⟨rfl,hk⟩ | ⟨rfl,S,n,hk⟩
  ·obtain⟨its,_,pl,_⟩:=I.list hq;refine⟨pl.isList.typeIs,fun a e=>?_⟩;cases e;obtain⟨o,n,e,c,hd,_⟩:=pl;exact⟨o,e,hd⟩
  ·refine⟨⟨o,I.kIn p o hk,hc⟩,fun a e=>?_⟩;cases e;exact⟨o,I.kIn _ o hk,hd⟩
  ·have z:∃o,s.heap.get? p=some o/\o.ExactDict:=by
    rcases hk with⟨kvs,hk⟩ | ⟨kvs,hk⟩
    ·obtain⟨_,_,_,_,o,_,_,e,ex,_⟩:=I.hok p _ hk;exact⟨o,e,ex⟩
    ·obtain⟨_,_,_,_,o,_,_,e,ex,_⟩:=I.hok p _ hk;exact⟨o,e,ex⟩
   obtain⟨o,e,ex⟩:=z;refine⟨⟨o,e,ex.1⟩,fun a e2=>?_⟩;cases e2;exact⟨o,e,ex.2.1⟩
  ·obtain⟨o,_,_,_,e,ex,_⟩:=I.hok p _ hk;refine⟨⟨o,e,ex.1⟩,fun a e2=>?_⟩;cases e2;exact⟨o,e,ex.2.1⟩
 |_=>exact False.elim ty
def alf(K:Ai)(T:String)(r:V->List V->Hp->VK->Prop)(to:TE):TE:=fun σ H Q=>to σ H fun x H1=>tyV K T x H1/\r x [] H1 Q
def tBM(K:Ai)(T:String)(r:V->List V->Hp->VK->Prop)(to:TE)(t:TA):TE:=fun σ H Q=>to σ H fun x H1=>tyV K T x H1/\t σ H1 fun xs H2=>r x xs H2 Q
variable {to:TE}{t:TA}{T id:String}{r:V->List V->Hp->VK->Prop}
theorem afx(pa:PlainAttrs T)(slot:Slot T name id)(hty:typeOf (.builtin id)=pure (.type "method_descriptor"))(hm:MtR X id r)(ho:PE X o to)
 (hbase:attributeBase o name X.env (eval o X.env)=eval o X.env:=by rfl) (hline:(apos.endLine==cpos.line)=true:=by rfl):PE X (.Call (.Attribute o name apos) [] [] cpos) (alf X.K T r to):=by
 intro pins s σ H Q I h;refine wpAny_Call_method0_late hbase hline (v0 (ho pins s σ H _ I h) fun v s1 ⟨x,H1,I1,r1,ty,q1⟩=>?_);obtain⟨h1,h2⟩:=aak I1 r1 ty;exact⟨T,id,pa,slot,hty,h1,h2,Calls.callWith_builtin rfl (PySem.evalArgs_none (hm pins s1 σ H1 x [] v [] Q I1 r1 .nil q1))⟩
theorem aeh(pa:PlainAttrs T)(slot:Slot T name id)(hty:typeOf (.builtin id)=pure (.type "method_descriptor"))(hm:MtR X id r)(ho:PE X o to)(ha:PA X (e::es) t)
 (hbase:attributeBase o name X.env (eval o X.env)=eval o X.env:=by rfl)
 (hfew:((backTo cpos (starEach (e::es) X.env)).all (fun x=>!x.1)&&(backToKw cpos (keywordEach [] X.env)).all (fun x=>x.1.isSome)
  && decide ((e::es).length+([]:List Keyword).length+(if ([]:List Keyword).isEmpty then 0 else 1)<30))=true:=by rfl)
 (hline:(apos.endLine==cpos.line)=true:=by rfl) (hs:Ed e es X:=by rfl) (hplain:Ee cpos es X:=by rfl):
 PE X (.Call (.Attribute o name apos) (e::es) [] cpos) (tBM X.K T r to t):=by
 intro pins s σ H Q I h;refine wpAny_Call_method_late hbase hfew hline rfl (v0 (ho pins s σ H _ I h) fun v s1 ⟨x,H1,I1,r1,ty,q1⟩=>?_);obtain⟨h1,h2⟩:=aak I1 r1 ty;refine⟨T,id,pa,slot,hty,h1,h2,?_⟩;have hA:=ha cpos pins s1 σ H1 _ I1 q1;rw[hs] at hA ⊢;refine Calls.callWith_builtin (by show(false||(backTo cpos (starEach es X.env)).any (·.1))=false;rw[hplain]<;>rfl) (Calls.evalArgs_plain ?_);exact v0 hA fun us s2 ⟨vs,H2,I2,r2,q2⟩=>hm pins s2 σ H2 x vs v us Q I2 r1 r2 q2
end
def hX(X:Cx)(id:String)(r:V->List V->Hp->VK->Prop):Prop:=
 ∀(pins:List (Addr×Obj)) (s:Shared) (σ:St) (H:Hp) (x:V) (xs:List V) (v:Value) (us:List Value) (Q:VK),qx X pins σ H s->zk x v->ze xs us->r x xs H Q->
  wpAny (model X.prog X.w) X.A (call (.builtin id) (v::us)) (EP X pins σ Q) X.xe s
theorem ze.one:∀{x:V} {us:List Value},ze [x] us->∃u,us=[u]/\zk x u
 |_,_,.cons r .nil=>⟨_,rfl,r⟩
theorem ze.two:∀{x y:V} {us:List Value},ze [x,y] us->∃u v,us=[u,v]/\zk x u/\zk y v
 |_,_,_,.cons r (.cons q .nil)=>⟨_,_,rfl,r,q⟩
theorem ze.zero:∀{us:List Value},ze [] us->us=[]
 |_,.nil=>rfl
theorem ze.dropLast(h:ze xs us):ze xs.dropLast us.dropLast:=by
 induction h with
 |nil=>exact .nil
 |cons r t ih=>
  cases t with|nil=>exact .nil|cons q t'=>exact .cons r ih
theorem ze.eraseIdx:∀{xs:List V} {us:List Value} (i:Nat),ze xs us->ze (xs.eraseIdx i) (us.eraseIdx i)
 |_,_,_,.nil=>.nil
 |_,_,0,.cons _ t=>t
 |_,_,i+1,.cons r t=>.cons r (ze.eraseIdx i t)
theorem rc(l:List α):l.eraseIdx (l.length - 1)=l.dropLast:=by
 induction l with
 |nil=>rfl
 |cons a r ih=>
  cases r with
  |nil=>rfl
  |cons b r=>
   have e:(a::b::r).length - 1=((b::r).length - 1)+1:=by have h1:(a::b::r).length=r.length+2:=rfl;have h2:(b::r).length=r.length+1:=rfl;omega
   rw[e,Ck,ih]
   all_goals rfl
theorem mP{α:Type}:∀(l:List α) (i:Nat),(l.eraseIdx i).length≤l.length
 |[],_=>An _
 |_::_,0=>BW _
 |_::r,i+1=>Nat.succ_le_succ (mP r i)
section
variable {b:Addr}{ys:List V}
theorem qx.lset{its':List Value}{f:Array Value->Array Value}(I:qx X pins σ H s)(hH:H l=some (.lst xs))
 (e:s.heap.get? l=some { cls:=.type "list",data:=.seq its.toArray n }) (hf:f its.toArray=its'.toArray) (hv:ze ys its') (hz:ys.length≤sizeLine) (ht:0<t':=by walk_at "t"):
 qx X pins σ (upd H l (.lst ys)) { s with heap:=s.heap.update l (Obj.mapSeq f),toks:=t' }:=by
 have q:=PySem.IsL.update e f;rw[hf] at q;refine I.write (x:=l) (e:=l) (by rw[hH];exact trivial) (.inl rfl) (fun b' u hb hu=>(Heap.get?_update_other s.heap (Obj.mapSeq f) (AM hb)).trans hu) ⟨_,q⟩ ?_;exact⟨hz,its',_,hv,q⟩
theorem qx.lnew(I:qx X pins σ H s)(hv:ze ys its)(hz:ys.length≤sizeLine)(ht:0<t':=by walk_at "t"):
 qx X pins σ (upd H s.heap.objs.size (.lst ys)) { s with heap:=s.heap.push { cls:=.type "list",data:=.seq its.toArray },toks:=t' }:=
 I.laid (fun _ _ q=>Heap.get?_push_of_some _ q) (An _) ⟨hz,its,0,hv,Heap.get?_push_size _ rfl⟩
theorem qx.fresh(I:qx X pins σ H s):H s.heap.objs.size=none:=I.hok.fresh (An _)
theorem qx.lstM(I:qx X pins σ H s)(hH:H l=some (.lst xs)):xs.length≤sizeLine/\∃(its:List Value) (n:Nat),ze xs its/\xs.length=its.length/\s.heap.get? l=some { cls:=.type "list",data:=.seq its.toArray n }:=by obtain⟨z,its,n,r,e⟩:=I.hok l _ hH;exact⟨z,its,n,r,r.length,e⟩
theorem aar(h:n≤sizeLine):Builtin.List.listTooLong n=false:=by unfold Builtin.List.listTooLong;exact Ax (by omega)
end
section
def abq:V->List V->Hp->VK->Prop:=fun x vs H Q=>∃l xs y,x=.ref l/\vs=[y]/\H l=some (.lst xs)/\xs.length<sizeLine/\Q .non (upd H l (.lst (xs++[y])))
theorem uk:hX X "list.append" abq:=by intro pins s σ H x vs v us Q I rx rv h;obtain⟨l,xs,y,rfl,rfl,hH,hz,q⟩:=h;cases rx;obtain⟨u,rfl,ru⟩:=rv.one;obtain⟨z,its,n,r,hl,e⟩:=I.lstM hH;refine call_meets F.slot_list_append ⟨_,e,rfl⟩ F.entry_list_append (F.args_list_append_2 _ _) (PySem.list_append l its.toArray n u (by rw[Am];omega)) ⟨e,?_⟩;refine⟨.non,_,I.lset (its':=its++[u]) hH e (by simp) (r.append (.cons ru .nil)) ?_,rfl,q⟩;rw[Ac,C8];omega
def ab6:V->List V->Hp->VK->Prop:=fun x vs H Q=>∃l b xs zs,x=.ref l/\vs=[.ref b]/\H l=some (.lst xs)/\H b=some (.lst zs)/\xs.length+zs.length≤sizeLine/\Q .non (upd H l (.lst (xs++zs)))
theorem u0:hX X "list.extend" ab6:=by
 intro pins s σ H x vs v us Q I rx rv h;obtain⟨l,b,xs,zs,rfl,rfl,hH,hB,hz,q⟩:=h;cases rx;obtain⟨u,rfl,ru⟩:=rv.one;cases ru;obtain⟨z,its,n,r,hl,e⟩:=I.lstM hH;obtain⟨z2,its2,n2,r2,hl2,e2⟩:=I.lstM hB;have hsz:its.toArray.size+its2.toArray.size≤sizeLine:=by rw[Am,Am];omega
 have hlong:¬(!its.toArray.isEmpty&&Builtin.List.listTooLong (its.toArray.size+its2.toArray.size))=true:=by rw[aar hsz,C2];exact AC
 refine call_meets F.slot_list_extend ⟨_,e,rfl⟩ F.entry_list_extend (F.args_list_extend_2 _ _)
  (AutoSeq1.list_extend_list_list_0 l its.toArray n b its2.toArray n2 hlong (by rw[Am];omega) (by omega)) ⟨e,e2,?_⟩
 refine⟨.non,_,I.lset (its':=its++its2) hH e (by simp) (r.append r2) ?_,rfl,q⟩;rw[Ac];omega
def anp:V->List V->Hp->VK->Prop:=fun x vs H Q=>∃l xs y,x=.ref l/\vs=[]/\H l=some (.lst xs)/\xs[xs.length - 1]?=some y/\Q y (upd H l (.lst xs.dropLast))
theorem afi:hX X "list.pop" anp:=by
 intro pins s σ H x vs v us Q I rx rv h;obtain⟨l,xs,y,rfl,rfl,hH,hy,q⟩:=h;cases rx;have hus:=rv.zero;subst hus;obtain⟨z,its,n,r,hl,e⟩:=I.lstM hH;obtain⟨u,hu,ru⟩:=r.get hy;have hy':its.toArray[its.toArray.size - 1]?=some u:=by show its.toArray[its.length - 1]?=some u;rw[<-A6,<-hl];exact hu
 refine call_meets F.slot_list_pop ⟨_,e,rfl⟩ F.entry_list_pop (F.args_list_pop_1 _) (MeetsSeq.list_pop_last l its.toArray n u hy' (by rw[Am];omega)) ⟨e,?_⟩;refine⟨y,_,I.lset (its':=its.dropLast) hH e ?_ r.dropLast ?_,ru,q⟩
 ·show its.toArray.eraseIdxIfInBounds (its.toArray.size - 1)=its.dropLast.toArray;rw[Am,C7,rc]
 ·rw[List.length_dropLast];omega
def ahu:V->List V->Hp->VK->Prop:=fun x vs H Q=>∃l xs i k y,x=.ref l/\vs=[.int i]/\H l=some (.lst xs) /\ -(2 ^ 63)≤i/\i<2 ^ 63/\seqIndex? i xs.length=some k/\xs[k]?=some y/\Q y (upd H l (.lst (xs.eraseIdx k)))
theorem yA:hX X "list.pop" ahu:=by
 intro pins s σ H x vs v us Q I rx rv h;obtain⟨l,xs,i,k,y,rfl,rfl,hH,h1,h2,hk,hy,q⟩:=h;cases rx;obtain⟨u,rfl,ru⟩:=rv.one;obtain⟨t,rfl⟩:=ru;obtain⟨z,its,n,r,hl,e⟩:=I.lstM hH;obtain⟨w,hw,rw'⟩:=r.get hy;refine call_meets F.slot_list_pop ⟨_,e,rfl⟩ F.entry_list_pop (F.args_list_pop_2 _ _)
  (MeetsSeq.list_pop_at l its.toArray n i t k w (fitsIndex_both h1 h2) (by rw[Am,<-hl];exact hk) (by rw[<-A6];exact hw) (by rw[Am];omega)) ⟨e,?_⟩
 refine⟨y,_,I.lset (its':=its.eraseIdx k) hH e ?_ (r.eraseIdx k) ?_,rw',q⟩
 ·show its.toArray.eraseIdxIfInBounds k=(its.eraseIdx k).toArray;rw[C7]
 ·have:=mP xs k;omega
def af8:V->List V->Hp->VK->Prop:=fun x vs H Q=>∃l xs,x=.ref l/\vs=[]/\H l=some (.lst xs)/\Q .non (upd H l (.lst []))
theorem xM:hX X "list.clear" af8:=by intro pins s σ H x vs v us Q I rx rv h;obtain⟨l,xs,rfl,rfl,hH,q⟩:=h;cases rx;have hus:=rv.zero;subst hus;obtain⟨z,its,n,r,hl,e⟩:=I.lstM hH;refine call_meets F.slot_list_clear ⟨_,e,rfl⟩ F.entry_list_clear (F.args_list_clear_1 _) (AutoSeq1.list_clear_list_0 l its.toArray n (by rw[Am];omega)) ⟨e,?_⟩;exact⟨.non,_,I.lset (its':=[]) (ys:=[]) hH e rfl .nil (Bf _),rfl,q⟩
def ali:R2:=fun x y H Q=>∃l b xs zs,x=.ref l/\y=.ref b/\H l=some (.lst xs)/\H b=some (.lst zs)/\xs.length+zs.length≤sizeLine/\∀p,H p=none->Q (.ref p) (upd H p (.lst (xs++zs)))
theorem afm:kq X (binaryOp .Add) ali:=by
 intro pins s σ H x y v u Q I rx ry h;obtain⟨l,b,xs,zs,rfl,rfl,hH,hB,hz,q⟩:=h;cases rx;cases ry;obtain⟨z,its,n,r,hl,e⟩:=I.lstM hH;obtain⟨z2,its2,n2,r2,hl2,e2⟩:=I.lstM hB;refine PySem.P.add_list e e2 ?_ (by rw[Am,Am];omega);have ea:its.toArray++its2.toArray=(its++its2).toArray:=by simp
 rw[ea];exact⟨.ref _,_,I.lnew (t':=s.toks) (r.append r2) (by rw[Ac];omega),rfl,q _ I.fresh⟩
end
section
variable {w:World} 
set_option maxRecDepth 100000 in
end
section
end
end L2
namespace Att
open PySem PySem.W PySem.Calls PyProof.Rows
theorem iL{P:Params} :∀(ns:List Int) (vs:List Value),WellAll P h vs (ns.map WData.int)->IntsAre vs ns:=by
 intro ns
 induction ns with
 |nil=>
  intro vs w;rw[C1] at w;cases w;exact .nil
 |cons n ns ih=>
  intro vs w;rw[AF] at w;cases w with
  |cons a b=>
   cases a;exact .cons _ _ (ih _ b)
theorem wT{l:OpenLaw}(hn:l.most=some n){P:Params}{args:List WData}{vals:List Value}
 (hpre:l.row.toRowW.claim.pre args=true) (hwl:WellAll P h vals args):
 ∃a vs ns,vals=[Value.ref a]/\args=[WData.list (ns.map WData.int)]/\h.get? a=some { cls:=.type "list",data:=.seq vs.toArray }/\IntsAre vs ns/\ns.length≤n:=by
 have hsh:WShape.hasAll [] args [.list .int]=true:=(pre_splitW hpre).1;have hc:l.pre.holds [] { args:=args }=true:=(pre_splitW hpre).2;obtain⟨d,r,rfl,h1,h2⟩:=hasAllW_cons hsh;obtain rfl:=hasAllW_nil h2;obtain⟨xs,rfl,h3⟩:=hasW_list h1;obtain⟨ns,rfl⟩:=items_int h3;have hlen:ns.length≤n:=by
  unfold OpenLaw.pre at hc;have h4:(WTm.not (.lt (.lit (.int (n:Int))) (.len (.arg 0)))).holds [] { args:=[.list (ns.map .int)] }=true:=by have h4:=(holds_andW hc).1;rw[hn] at h4;exact h4
  have h5:=condW_of h4 (w_not (w_lt w_lit (w_len_list (w_arg rfl))));rw[Ae] at h5;refine Nat.le_of_not_lt fun q=>?_;have q':(n:Int)<((ns.length:Nat):Int):=by omega
  first
   |(rw[AH q'] at h5;exact absurd h5 (by decide))
   |(simp at h5;omega)
 cases hwl with
 |cons w1 w2=>
  cases w2;cases w1 with|list ho hall=>exact⟨_,_,ns,rfl,rfl,ho,iL ns _ hall,hlen⟩
theorem vE(l:OpenLaw)(args:List WData):l.row.toRowW.claim.post args (.bool true) args=true:=
 postW_of (r:=l.row.toRowW) (X:=(true==true))
  (show WShape.has [] (.bool true) .bool=true by first | rfl | decide | simp[WShape.has,WShape.arms,WShape.armsAll])
  (show(WTm.eq .res (.lit (.bool true))).value [] { args:=args,res:=some (.bool true),after:=args }=some (.bool (true==true)) from w_eq_bool (w_res rfl) w_lit) rfl
theorem attach_callZ{l:OpenLaw}{q:Program}{loose:List Str}{XP:(Str->Option Value)->Heap->Prop}{as0:List Addr}{N t:Nat}{K:Params->Frag}{d:DefRec}
 (hn:l.most=some n) (hdf:d.params.defaults=[]) (ek:∀P,as0=(K P).map (·.1)) (htk:0<t)
 (call:∀(w:World) (s₀ s₁:Shared) (mg mb:Str->Option Value) (fa:Addr) (o:Obj) (pm cd doc:Value) (a:Addr) (vs:List Value) (ns:List Int),
  Ground q loose [] XP w s₀ mg mb s₁.heap->(K w.params).In s₁.heap->0<s₁.toks->
  s₁.heap.get? fa=some o->o.data=.func (docDef d.name d.params d.body d.scope pm cd doc)->s₁.heap.CodeRec cd d.name->mg d.name=some (.ref fa)->
  s₁.heap.get? a=some { cls:=.type "list",data:=.seq vs.toArray }->IntsAre vs ns->ns.length≤n->s₁.gens=#[]->
  codeAny (model l.prog w) callerA (.call (.ref fa) ⟨[.ref a],[]⟩) (fun r s'=>r=.ok (.ret (.bool true))/\OldK s₁.heap s'.heap/\s'.os=s₁.os/\AllBare s'.gens) s₁):
 WalkX q loose XP (PySem.W.X.obsZ as0) (PySem.W.X.valZ K N t) l.row.toRowW d [] (fun f vs=>PySem.call f vs):=by
 intro w s₀ s₁ mg mb G Y fa o pm cd doc dV kV ho hd hcd hD hmg hg args vals as L hpre hlay hrd hwl hlo;obtain rfl:dV=.none:=Dflts.none hD hdf;obtain rfl:kV=.none:=Dflts.noKw hD;obtain⟨a,vs,ns,rfl,rfl,hobj,hints,hlen⟩:=wT hn hpre hwl;obtain⟨_,zi,_,zt⟩:=X.z_facts ek Y;have eP:∀ns:List Int,ofPy (PyData.list (ns.map PyData.int))=WData.list (ns.map WData.int):=fun ns=>by
  simp only[ofPy];congr 1
  induction ns with|nil=>simp[ofPys]|cons n r ih=>simp only[AF,ofPys,ofPy,ih]
 rw[<-eP] at L;have KX:=InK.keeps w s₀.heap s₁.heap zi L.keeps;have tk1:0<s₁.toks:=AR htk (X.script_toks L zt);refine enter_call (codeAny_mono (call w s₀ s₁ mg mb fa o pm cd doc a vs ns G KX tk1 ho (fd_plain hd) hcd hmg hobj hints hlen hg) fun r s' hq=>?_);obtain⟨rfl,h2,h3,h4⟩:=hq;exact⟨.inl ⟨.bool true,.bool true,[],rfl,fun _=>rfl,.bool true,vE l _,fun _=>⟨List.Pairwise.nil,fun _ hm=>(nomatch hm)⟩⟩,h2,h3,h4⟩
section
variable {w:World}{K:Frag}
end
end Att
namespace L2
open PySem PySem.Spec PyProof.Rows
theorem mU:∀{vs:List Value} {ns:List Int},IntsAre vs ns->ze (ns.map V.int) vs
 |_,_,.nil=>.nil
 |_,_,.cons n t h=>.cons ⟨t,rfl⟩ (mU h)
def xn(s:Stmt):Arguments:=match s with
 |.FunctionDef _ a _ _ _ _ _ _ _ _=>a
 |_=>{ posonlyargs:=[],args:=[],vararg:=none,kwonlyargs:=[],kw_defaults:=[],kwarg:=none,defaults:=[] }
def jl(s:Stmt):List Stmt:=match s with
 |.FunctionDef _ _ b _ _ _ _ _ _ _=>b
 |_=>[]
def qu(s:Stmt):Scope:=match s with
 |.FunctionDef _ _ _ _ _ _ sc _ _ _=>sc
 |_=>{ kind:=.function,names:=[],isGenerator:=false,isCoroutine:=false }
abbrev CX0:u8:=fun _ _ _ _ _ _=>False
abbrev E0:XK:=fun _ _ _=>False
theorem aj4 :rg CX0 X E0:=fun _ _ _ _ _ _ _ h=>h.elim
structure Fun(K:Ai)(x qual:Str)(st:Stmt)(f:Addr)(fd:FuncData):Prop where
 ex:∃(oc:Value) (od:Option Addr) (kV doc pm:Value) (an:Option Addr) (cdv ct:Value) (osl:Array (Option Value)),
  fd=PySem.W.fnOf x qual (xn st) (jl st) (qu st) .none kV doc pm an cdv ct/\K.lookup f=some ⟨oc,od,.func fd,osl⟩/\PySem.W.codeIn K cdv qual=true
 kp:PySem.W.keepIn K (.ref f)=true
section
variable {P:Program}{w:World}{K:Ai} 
theorem Fun.ok{N:List Str}{k:Nat}(F:Fun K x qual st f fd)(S:aR N ps (qu st))(len:∀vs H Q E,sp vs H Q E->vs.length=ps.length)
 (hbody:∀(cdv:Value) (A:Around) (outer:List Env) (s:Shared) (H:Hp) (vs:List V) (Q:VK) (E:XK),aI k (A.deeper (envOfC qual (qu st) s.heap.objs.size f cdv))->sp vs H Q E->
  ∃t,l6 (iF CX0 P w K mg base N qual (qu st) f cdv A outer s H E).nox (jl st) t/\t { nx:=fun _ H'=>Q .non H',rt:=Q } (start N vs) H):bJ P w K mg base CX0 (k+1) f fd ps sp:=by
 obtain⟨oc,od,kV,doc,pm,an,cdv,ct,osl,rfl,lk,hcd⟩:=F.ex;refine aey lk hcd S len fun A outer s H vs Q E hr hsp=>?_;obtain⟨t,h,q⟩:=hbody cdv A outer s H vs Q E hr hsp;exact⟨t,h.nox,q⟩
theorem ahq{kV ct:Value}(l:K.lookup f=some ⟨oc,od,.func (PySem.W.fnOf x qual (xn st) (jl st) (qu st) .none kV doc pm an cdv ct),osl⟩)
 (c:PySem.W.codeIn K cdv qual=true) (k:PySem.W.keepIn K (.ref f)=true):Fun K x qual st f (PySem.W.fnOf x qual (xn st) (jl st) (qu st) .none kV doc pm an cdv ct):=⟨⟨oc,od,kV,doc,pm,an,cdv,ct,osl,rfl,l,c⟩,k⟩
end
theorem lv(h:n≤1000):n<sizeLine:=Cp h (by decide)
section
theorem pv(i:Nat)(hN:X.N[i]?=some x:=by rfl)(hv:Vis X.env.scope x:=by first | exact Or.inl rfl | exact Or.inr (Or.inl rfl) | exact Or.inr (Or.inr rfl))(hd:Ef x:=by decide)
 (hcd:Eg x:=by decide):PE X (.Name x pos) (agb i):=ahp hN hv hd hcd
end
section
variable [DecidableEq κ]
end
end L2
set_option maxHeartbeats 8000000
theorem vT{a b c:Nat}(h:a<b:=by assumption)(k:b≤c:=by assumption):a<c:=AR h k
theorem fw{a b c:Nat}(h:a≤b:=by assumption)(k:b<c:=by assumption):a<c:=Cp h k
theorem ai3{a b c:Nat}(h:a≤b:=by assumption)(k:b≤c:=by assumption):a≤c:=AW h k
theorem jC{a b c:Nat}(h:a<b:=by assumption)(k:b<c:=by assumption):a<c:=Nat.lt_trans h k
theorem sP{a b c:Nat}(h:a≤b:=by assumption)(k:b≤c:=by decide):a≤c:=AW h k
theorem ahw{a b:Nat}(h:a≤b:=by assumption):a<b+1:=Nat.lt_succ_of_le h
theorem alb{a b:Nat}(h:a≤b:=by assumption):a≤b+1:=Ca h
theorem fQ{a b:Nat}(h:a<b:=by assumption):a≤b:=BH h
theorem aii{a b:Nat}(h:a<b:=by assumption):a≠b:=Bd h
theorem aim{a b:Nat}(h:b<a:=by assumption):a≠b:=C0 h
theorem zR{a:Nat}(h:a≠0:=by assumption):0<a:=Nat.pos_of_ne_zero h
theorem ahb{a b c:Nat}(h:a<b:=by assumption)(k:b≤c:=by assumption):a≤c:=AW (BH h) k
theorem aig{a b c:Nat}(h:a<b:=by assumption):a<b+c:=AR h (A5 _ _)
theorem pH{a b:Nat}(h:a=b:=by assumption):a≤b:=Nat.le_of_eq h
theorem yb{a b:Nat}(h:¬a<b:=by assumption):b≤a:=Nat.le_of_not_lt h
theorem aji{a b:Nat}(h:¬b≤a:=by assumption):a<b:=Nat.lt_of_not_le h
theorem aix{a b:Nat}(h:a<b+1:=by assumption):a≤b:=Nat.le_of_lt_succ h
theorem amz{a b c:Nat}(h:a≤b:=by assumption)(k:c≤d:=by assumption):a+c≤b+d:=Nat.add_le_add h k
theorem oO{a b:Nat}(h:0<a:=by assumption)(k:0<b:=by decide):a - b<a:=Nat.sub_lt h k
theorem ak8{a b c:Nat}(h:a≤c:=by assumption):a - b≤c:=AW (Ec _ _) h
theorem l5{a b c:Nat}(h:a<c:=by assumption):a - b<c:=Cp (Ec _ _) h
theorem wC{a b:Nat}(h:a≤b:=by assumption)(k:a≠b:=by assumption):a<b:=Nat.lt_of_le_of_ne h k
namespace L2
open PySem PySem.Spec PyProof.Rows
section
def amj:R2:=fun x y H Q=>match x,y with
 |.int i,.int j=>Q (.int (i+j)) H
 |.str a,.str b=>a.length+b.length≤sizeLine/\Q (.str (a++b)) H
 |.ref l,.ref b=>∃xs zs,H l=some (.lst xs)/\H b=some (.lst zs)/\xs.length+zs.length≤sizeLine/\∀p,H p=none->Q (.ref p) (upd H p (.lst (xs++zs)))
 |_,_=>False
theorem adc:kq X (binaryOp .Add) amj:=by
 intro pins s σ H x y v u Q I rx ry h;cases x<;>cases y<;>first
  |exact False.elim h
  |exact agy pins s σ H _ _ v u Q I rx ry ⟨_,_,rfl,rfl,h⟩
  |exact s9 pins s σ H _ _ v u Q I rx ry ⟨_,_,rfl,rfl,h.1,h.2⟩
  |(obtain⟨xs,zs,h1,h2,h3,h4⟩:=h;exact afm pins s σ H _ _ v u Q I rx ry ⟨_,_,xs,zs,rfl,rfl,h1,h2,h3,h4⟩)
def KD(K:Ai)(P:Program)(w:World)(a:Addr)(kvs:List (j3×V)):Prop:=
 (a==sysModules)=false/\kvs.length≤sizeLine/\∀h:Heap,K.In h->∃vs,KV kvs vs/\h.DictOf (xa P w) a vs
def uIx(K:Ai)(P:Program)(w:World):R2:=fun x y H Q=>match x,y with
 |.str z,.int i=>z.length≤sizeLine/\∃c,fg z.cps.toList i=some c/\Q (.str ⟨#[c]⟩) H
 |.ref p,.int i=>∃xs v,(wv K H p xs\/cM K H p xs)/\fg xs i=some v/\Q v H
 |.ref p,.str k=>∃kvs v,(Rd H p (.dK kvs)\/KD K P w p kvs)/\aQ kvs (Sum.inr k)=some v/\Q v H
 |_,_=>False
theorem zP{slice:Expr}{a:Addr}{vs:List (j3×Value)}{k:j3}{w':Value}{Q:VK}(I:qx X pins σ H s)(dd:s.heap.DictOf (xa X.prog X.w) a vs)(hk:lG k u=true)
 (hw:valueAt vs k=some w') (r:zk v w') (q:Q v H) (hs:subscripted slice false (.ref a) u=operate [.ref a,u] (getItem (.ref a) u)):wpAny (model X.prog X.w) X.A (subscriptTail value slice (.ref a) u) (EP X pins σ Q) X.xe s:=
 tail_any dd.typeIs Dv.lookup (wpAny_getItem_of hk dd.mapOf hw ⟨v,H,I.tok _,r,q⟩) hs
theorem ajx:xS X (uIx X.K X.prog X.w):=by
 intro value slice pins s σ H x y v u Q I rx ry q hs;cases x with
 |str z=>
  cases y with
  |int i=>
   obtain⟨h1,c,h2,h3⟩:=q;exact afc value slice pins s σ H _ _ v u Q I rx ry ⟨z,i,c,rfl,rfl,h1,h2,h3⟩ hs
  |_=>exact q.elim
 |ref p=>
  cases y with
  |int i=>
   obtain⟨xs,w',h1,h2,h3⟩:=q;rcases h1 with h1 | h1
   ·exact abm value slice pins s σ H _ _ v u Q I rx ry ⟨p,xs,i,w',rfl,rfl,h1,h2,h3⟩ hs
   ·exact ag2 value slice pins s σ H _ _ v u Q I rx ry ⟨p,xs,i,w',rfl,rfl,h1,h2,h3⟩ hs
  |str k=>
   obtain⟨kvs,w',h1,h2,h3⟩:=q;have ry':zk (kV (Sum.inr k)) u:=ry;cases (show v=Value.ref p from rx);rcases h1 with h1 | h1
   ·obtain⟨z,hd,vs,rel,dd⟩:=jV I.hok h1;obtain⟨w2,hw,rw'⟩:=ET (v:=w') (o:=valueAt vs (Sum.inr k)) (by rw[<-h2];exact rel.val _);exact zP I dd (gf (P:=X.prog) (w:=X.w) ry') hw rw' h3 hs
   ·obtain⟨hd,z,dd⟩:=h1;obtain⟨vs,rel,dd⟩:=dd s.heap I.kIn;obtain⟨w2,hw,rw'⟩:=ET (v:=w') (o:=valueAt vs (Sum.inr k)) (by rw[<-h2];exact rel.val _);exact zP I dd (gf (P:=X.prog) (w:=X.w) ry') hw rw' h3 hs
  |_=>exact q.elim
 |_=>cases y<;>exact q.elim
def ane(K:Ai):List V->Hp->VK->Prop:=fun xs H Q=>match xs with
 |[.str z]=>z.length≤sizeLine/\Q (.int z.length) H
 |[.ref p]=>∃ys,(wv K H p ys\/cM K H p ys)/\Q (.int ys.length) H
 |_=>False
theorem uf:jk X (.builtin "len") (ane X.K):=by
 intro pins s σ H xs us Q I r h
 match xs,h with
 |[.str z],h=>exact nS pins s σ H _ us Q I r ⟨z,rfl,h.1,h.2⟩
 |[.ref p],h=>
  obtain⟨ys,h1,h2⟩:=h;exact mx pins s σ H _ us Q I r ⟨p,ys,rfl,h1,h2⟩
inductive Da where
 |s (v:V)
 |tup (xs:List Da)
 |lst (xs:List Da)
mutual
def Da.eq:Da->Da->Bool
 |.s v,.s w=>fh v w
 |.tup xs,.tup ys=>Da.eqs xs ys
 |.lst xs,.lst ys=>Da.eqs xs ys
 |_,_=>false
def Da.eqs:List Da->List Da->Bool
 |[],[]=>true
 |x::xs,y::ys=>Da.eq x y&&Da.eqs xs ys
 |_,_=>false
end
def v9(K:Ai)(H:Hp):Nat->V->Da->Prop
 |0,v,d=>d=.s v/\aO v=true
 |n+1,v,d=>(d=.s v/\aO v=true)\/(∃a xs ds,v=.ref a/\d=.tup ds/\cM K H a xs/\Paired (v9 K H n) xs ds)\/(∃a xs ds,v=.ref a/\d=.lst ds/\wv K H a xs/\Paired (v9 K H n) xs ds)
theorem Da.eqs_range:∀(ds es:List Da),((List.range (min ds.length es.length)).all (fun j=>Da.eq (ds.getD j (.s .non)) (es.getD j (.s .non)))&&ds.length==es.length)=Da.eqs ds es
 |[],[]=>by simp[Da.eqs]
 |[],e::es=>by simp[Da.eqs]
 |d::ds,[]=>by simp[Da.eqs]
 |d::ds,e::es=>by
  have ih:=Da.eqs_range ds es;rw[Da.eqs,<-ih];have:min (d::ds).length (e::es).length=min ds.length es.length+1:=by simp only[AK];lia
  rw[this,List.range_succ_eq_map,DD,List.all_map];have h2:((d::ds).length==(e::es).length)=(ds.length==es.length):=by simp
  rw[h2,Bool.and_assoc];rfl
abbrev EJ:=@Da.eqs_range
theorem Paired.at{α β:Type}{F:α->β->Prop}:∀{xs:List α} {ys:List β} {j:Nat} {x:α} {y:β},Paired F xs ys->xs[j]?=some x->ys[j]?=some y->F x y
 |_,_,_,_,_,.nil,h,_=>by simp at h
 |_,_,0,_,_,.cons r _,h1,h2=>by simp at h1 h2;subst h1 h2;exact r
 |_,_,j+1,_,_,.cons _ t,h1,h2=>Paired.at (j:=j) t (by simpa using h1) (by simpa using h2)
abbrev EL:=@Paired.at
theorem fK:∀{v:V},aO v=true->fh v v=true
 |.non,_=>rfl
 |.bl _,_=>by simp[fh]
 |.int _,_=>by simp[fh]
 |.str _,_=>by simp[fh]
section
theorem zv{a:Addr}(h:aO (.ref a)=true):False:=by simp[aO] at h
theorem qx.notBoth(I:qx X pins σ H s){a:Addr}{ys:List V}(h:cM X.K H a xs)(h':wv X.K H a ys):False:=by
 obtain⟨its,_,⟨o,e,c,_⟩,_⟩:=I.tuple h;obtain⟨its',_,⟨o',n',e',c',_⟩,_⟩:=I.list h';rw[e] at e';cases e';rw[c] at c';injection c' with c'
 exact absurd c' (by decide)
theorem nX(I:qx X pins σ H s):∀(n:Nat) {m:Nat} {x:V} {d e:Da},v9 X.K H n x d->v9 X.K H m x e->Da.eq d e=true
 |0,m,x,d,e,h1,h2=>by
  obtain⟨rfl,f⟩:=h1;cases m with
  |zero=>obtain⟨rfl,_⟩:=h2;exact fK f
  |succ m=>
   rcases h2 with⟨rfl,_⟩ | ⟨a,xs,ds,rfl,_⟩ | ⟨a,xs,ds,rfl,_⟩
   ·exact fK f
   ·exact(zv f).elim
   ·exact(zv f).elim
 |n+1,m,x,d,e,h1,h2=>by
  have both:∀{xs:List V} {ds es:List Da} {m:Nat},Paired (v9 X.K H n) xs ds->Paired (v9 X.K H m) xs es->Da.eqs ds es=true:=by
   intro xs ds es m p
   induction p generalizing es with
   |nil=>intro q;cases q;rfl
   |cons r t ih=>
    intro q;cases q with|cons r' t'=>rw[Da.eqs,nX I n r r',ih t'];rfl
  rcases h1 with⟨rfl,f⟩ | ⟨a,xs,ds,rfl,rfl,hs,hp⟩ | ⟨a,xs,ds,rfl,rfl,hs,hp⟩
  ·cases m with
   |zero=>obtain⟨rfl,_⟩:=h2;exact fK f
   |succ m=>
    rcases h2 with⟨rfl,_⟩ | ⟨a,xs,ds,rfl,_⟩ | ⟨a,xs,ds,rfl,_⟩
    ·exact fK f
    ·exact(zv f).elim
    ·exact(zv f).elim
  ·cases m with
   |zero=>exact(zv h2.2).elim
   |succ m=>
    rcases h2 with⟨_,f⟩ | ⟨a',ys,es,e1,rfl,hs',hp'⟩ | ⟨a',ys,es,e1,rfl,hs',hp'⟩
    ·exact(zv f).elim
    ·cases e1;cases I.tuple_inj hs hs';exact both hp hp'
    ·cases e1;exact(I.notBoth hs hs').elim
  ·cases m with
   |zero=>exact(zv h2.2).elim
   |succ m=>
    rcases h2 with⟨_,f⟩ | ⟨a',ys,es,e1,rfl,hs',hp'⟩ | ⟨a',ys,es,e1,rfl,hs',hp'⟩
    ·exact(zv f).elim
    ·cases e1;exact(I.notBoth hs' hs).elim
    ·cases e1;cases I.list_inj hs hs';exact both hp hp'
theorem zo{a:Addr}{its:Array Value}(p:PlainL h a its):h.IsList a its:=let ⟨o,n,e,c,_,d⟩:=p;⟨o,e,c,n,d⟩
theorem fD{ys:List V}{ds es:List Da}(px:Paired (v9 X.K H n) xs ds)(py:Paired (v9 X.K H m) ys es)(vx:ze xs us)(vy:ze ys vs)
 (ih:∀{x y:V} {d e:Da} {u v:Value},v9 X.K H n x d->v9 X.K H m y e->zk x u->zk y v->SeqAt.EqAt A.in1 s u v (Da.eq d e)):
 ∀j (h1:j<us.toArray.size) (h2:j<vs.toArray.size),SeqAt.EqAt A.in1 s us.toArray[j] vs.toArray[j] (Da.eq (ds.getD j (.s .non)) (es.getD j (.s .non))):=by
 intro j h1 h2;have l1:=px.length;have l2:=py.length;have l3:=vx.length;have l4:=vy.length;rw[Am] at h1 h2;have q1:xs[j]?=some xs[j]:=Aj (by lia);have q2:ys[j]?=some ys[j]:=Aj (by lia);have q3:ds[j]?=some ds[j]:=Aj (by lia);have q4:es[j]?=some es[j]:=Aj (by lia);have q5:us[j]?=some us[j]:=Aj (by lia);have q6:vs[j]?=some vs[j]:=Aj (by lia);rw[Br,Br,q3,q4];exact ih (EL px q1 q3) (EL py q2 q4) (EL vx q1 q5) (EL vy q2 q6)
theorem mN{a b:Addr}{ys:List V}{ds es:List Da}(I:qx X pins σ H s)(hu:A.units<cLine)(sx:cM X.K H a xs)(sy:cM X.K H b ys)(px:Paired (v9 X.K H n) xs ds)(py:Paired (v9 X.K H m) ys es)
 (ih:∀{x y:V} {d e:Da} {u v:Value},v9 X.K H n x d->v9 X.K H m y e->zk x u->zk y v->SeqAt.EqAt A.in1 s u v (Da.eq d e)):SeqAt.RcAt A s (.ref a) (.ref b) (Da.eqs ds es):=by
 obtain⟨us,vx,tx,_⟩:=I.tuple sx;obtain⟨vs,vy,ty,_⟩:=I.tuple sy;have q:=SeqAt.RcAt.tuples tx ty hu (fD px py vx vy ih);rw[Am,Am,<-vx.length,<-vy.length,px.length,py.length,EJ] at q;exact q
theorem rJ{a b:Addr}{ys:List V}{ds es:List Da}(I:qx X pins σ H s)(hu:A.units<cLine)(sx:wv X.K H a xs)(sy:wv X.K H b ys)(px:Paired (v9 X.K H n) xs ds)(py:Paired (v9 X.K H m) ys es)
 (ih:∀{x y:V} {d e:Da} {u v:Value},v9 X.K H n x d->v9 X.K H m y e->zk x u->zk y v->SeqAt.EqAt A.in1 s u v (Da.eq d e)):SeqAt.RcAt A s (.ref a) (.ref b) (Da.eqs ds es):=by
 obtain⟨us,vx,tx,_⟩:=I.list sx;obtain⟨vs,vy,ty,_⟩:=I.list sy;by_cases hz:us.toArray.size=vs.toArray.size
 ·have q:=SeqAt.RcAt.lists (zo tx) (zo ty) hz hu (fD px py vx vy ih);have hz':ds.length=es.length:=by rw[<-px.length,<-py.length,vx.length,vy.length];simpa using hz
  have e:=EJ ds es;rw[hz',Nat.min_self] at e;rw[<-hz'] at e;rw[Am,<-vx.length,px.length] at q;simp only[beq_self_eq_true,DZ] at e;rw[e] at q;exact q
 ·have q:=SeqAt.RcAt.lists_lengths (zo tx) (zo ty) (by simpa using hz) hu;have hz':ds.length≠es.length:=by rw[<-px.length,<-py.length,vx.length,vy.length];intro z;exact hz (by simpa using z)
  have e:=EJ ds es;have f:(ds.length==es.length)=false:=by simpa using hz'
  rw[f,C2] at e;rw[<-e];exact q
theorem iY(I:qx X pins σ H s):∀(n:Nat) {m:Nat} {A:Around} {x y:V} {d e:Da} {u v:Value},A.units+n<cLine->v9 X.K H n x d->v9 X.K H m y e->zk x u->zk y v->SeqAt.EqAt A s u v (Da.eq d e):=by
 have flatRef:∀{A:Around} {x:V} {u:Value} {b:Addr} {ys:List V},A.units<cLine->aO x=true->zk x u->(cM X.K H b ys\/wv X.K H b ys)->SeqAt.EqAt A s u (.ref b) false/\SeqAt.EqAt A s (.ref b) u false:=by
  intro A x u b ys hu f r h;have h':(∃its,s.heap.IsTuple b its)\/∃its,s.heap.IsList b its:=by
   rcases h with h | h
   ·obtain⟨its,_,t,_⟩:=I.tuple h;exact .inl ⟨_,t⟩
   ·obtain⟨its,_,t,_⟩:=I.list h;exact .inr ⟨_,zo t⟩
  cases x with
  |non=>cases r;rcases h' with⟨_,t⟩ | ⟨_,t⟩;exact⟨.none_tuple t hu,.tuple_none t hu⟩;exact⟨.none_list t hu,.list_none t hu⟩
  |bl k=>cases r;rcases h' with⟨_,t⟩ | ⟨_,t⟩;exact⟨.bool_tuple k t hu,.tuple_bool k t hu⟩;exact⟨.bool_list k t hu,.list_bool k t hu⟩
  |int k=>obtain⟨tk,rfl⟩:=r;rcases h' with⟨_,t⟩ | ⟨_,t⟩;exact⟨.int_tuple k tk t hu,.tuple_int k tk t hu⟩;exact⟨.int_list k tk t hu,.list_int k tk t hu⟩
  |str k=>obtain⟨tk,rfl⟩:=r;rcases h' with⟨_,t⟩ | ⟨_,t⟩;exact⟨.str_tuple k tk t hu,.tuple_str k tk t hu⟩;exact⟨.str_list k tk t hu,.list_str k tk t hu⟩
  |_=>simp[aO] at f
 intro n
 induction n with
 |zero=>
  intro m A x y d e u v hu h1 h2 rx ry;obtain⟨rfl,f⟩:=h1;cases m with
  |zero=>obtain⟨rfl,f'⟩:=h2;exact kQ rx ry f f'
  |succ m=>
   rcases h2 with⟨rfl,f'⟩ | ⟨b,ys,es,rfl,rfl,sy,py⟩ | ⟨b,ys,es,rfl,rfl,sy,py⟩
   ·exact kQ rx ry f f'
   ·cases ry;exact(flatRef (by lia) f rx (.inl sy)).1
   ·cases ry;exact(flatRef (by lia) f rx (.inr sy)).1
 |succ n ih=>
  intro m A x y d e u v hu h1 h2 rx ry;have hin:A.in1.units+n<cLine:=by show A.units+1+n<cLine;lia
  rcases h1 with⟨rfl,f⟩ | ⟨a,xs,ds,rfl,rfl,sx,px⟩ | ⟨a,xs,ds,rfl,rfl,sx,px⟩
  ·cases m with
   |zero=>obtain⟨rfl,f'⟩:=h2;exact kQ rx ry f f'
   |succ m=>
    rcases h2 with⟨rfl,f'⟩ | ⟨b,ys,es,rfl,rfl,sy,py⟩ | ⟨b,ys,es,rfl,rfl,sy,py⟩
    ·exact kQ rx ry f f'
    ·cases ry;exact(flatRef (by lia) f rx (.inl sy)).1
    ·cases ry;exact(flatRef (by lia) f rx (.inr sy)).1
  ·cases rx;cases m with
   |zero=>obtain⟨rfl,f'⟩:=h2;exact(flatRef (by lia) f' ry (.inl sx)).2
   |succ m=>
    rcases h2 with⟨rfl,f'⟩ | ⟨b,ys,es,rfl,rfl,sy,py⟩ | ⟨b,ys,es,rfl,rfl,sy,py⟩
    ·exact(flatRef (by lia) f' ry (.inl sx)).2
    ·cases ry;by_cases hab:a=b
     ·subst hab;cases I.tuple_inj sx sy;have e:Da.eq (.tup ds) (.tup es)=true:=nX I (n+1) (m:=m+1) (x:=.ref a) (.inr (.inl ⟨a,xs,ds,rfl,rfl,sx,px⟩)) (.inr (.inl ⟨a,xs,es,rfl,rfl,sy,py⟩));rw[e];exact .same _
     ·exact .of_refs hab (mN I (by lia) sx sy px py fun h1 h2 r1 r2=>ih hin h1 h2 r1 r2)
    ·cases ry;obtain⟨us,vx,tx,_⟩:=I.tuple sx;obtain⟨vs,vy,ty,_⟩:=I.list sy;exact .tuple_list tx (zo ty) (by lia)
  ·cases rx;cases m with
   |zero=>obtain⟨rfl,f'⟩:=h2;exact(flatRef (by lia) f' ry (.inr sx)).2
   |succ m=>
    rcases h2 with⟨rfl,f'⟩ | ⟨b,ys,es,rfl,rfl,sy,py⟩ | ⟨b,ys,es,rfl,rfl,sy,py⟩
    ·exact(flatRef (by lia) f' ry (.inr sx)).2
    ·cases ry;obtain⟨us,vx,tx,_⟩:=I.list sx;obtain⟨vs,vy,ty,_⟩:=I.tuple sy;exact .list_tuple (zo tx) ty (by lia)
    ·cases ry;by_cases hab:a=b
     ·subst hab;cases I.list_inj sx sy;have e:Da.eq (.lst ds) (.lst es)=true:=nX I (n+1) (m:=m+1) (x:=.ref a) (.inr (.inr ⟨a,xs,ds,rfl,rfl,sx,px⟩)) (.inr (.inr ⟨a,xs,es,rfl,rfl,sy,py⟩));rw[e];exact .same _
     ·exact .of_refs hab (rJ I (by lia) sx sy px py fun h1 h2 r1 r2=>ih hin h1 h2 r1 r2)
end
def uEq(K:Ai)(k:Nat):R2:=fun x y H Q=>match x,y with
 |.ref a,.ref b=>∃n m d e,n≤k/\v9 K H n (.ref a) d/\v9 K H m (.ref b) e/\Q (.bl (Da.eq d e)) H
 |x,y=>abc x y=true/\Q (.bl (decide (x=y))) H
theorem ai2{k:Nat}(hu:X.A.units+k<cLine):kq X (compareOp .Eq) (uEq X.K k):=by
 intro pins s σ H x y v u Q I rx ry h;cases x with
 |ref a=>
  cases y with
  |ref b=>
   obtain⟨n,m,d,e,hn,h1,h2,q⟩:=h;cases rx;cases ry;have x8:∀{k:Bool},k=Da.eq d e->SeqAt.RcAt X.A s (.ref a) (.ref b) k->wpAny (model X.prog X.w) X.A (compareOp .Eq (.ref a) (.ref b)) (EP X pins σ Q) X.xe s:=fun {k} e' r=>
    r X.prog X.w X.xe (EP X pins σ Q) (by rw[e'];exact⟨.bl _,H,I,rfl,q⟩)
   cases n with
   |zero=>exact(zv h1.2).elim
   |succ n=>
    cases m with
    |zero=>exact(zv h2.2).elim
    |succ m=>
     have hin:X.A.in1.units+n<cLine:=by show X.A.units+1+n<cLine;lia
     rcases h1 with⟨_,f⟩ | ⟨a',xs,ds,e1,rfl,sx,px⟩ | ⟨a',xs,ds,e1,rfl,sx,px⟩
     ·exact(zv f).elim
     ·cases e1;rcases h2 with⟨_,f⟩ | ⟨b',ys,es,e2,rfl,sy,py⟩ | ⟨b',ys,es,e2,rfl,sy,py⟩
      ·exact(zv f).elim
      ·cases e2;exact x8 rfl (mN I (by lia) sx sy px py fun h1 h2 r1 r2=>iY I n hin h1 h2 r1 r2)
      ·cases e2;obtain⟨us,vx,tx,_⟩:=I.tuple sx;obtain⟨vs,vy,ty,_⟩:=I.list sy;exact x8 rfl (.tuple_list tx (zo ty) (by lia))
     ·cases e1;rcases h2 with⟨_,f⟩ | ⟨b',ys,es,e2,rfl,sy,py⟩ | ⟨b',ys,es,e2,rfl,sy,py⟩
      ·exact(zv f).elim
      ·cases e2;obtain⟨us,vx,tx,_⟩:=I.list sx;obtain⟨vs,vy,ty,_⟩:=I.tuple sy;exact x8 rfl (.list_tuple (zo tx) ty (by lia))
      ·cases e2;exact x8 rfl (rJ I (by lia) sx sy px py fun h1 h2 r1 r2=>iY I n hin h1 h2 r1 r2)
  |_=>exact af1 pins s σ H _ _ v u Q I rx ry h
 |_=>cases y<;>exact af1 pins s σ H _ _ v u Q I rx ry h
end
theorem aih{c:Addr}(hg:Gl X x)(hm:X.mg x=some (.ref c))(hd:Ef x:=by decide):PE X (.Name x pos) (tC (.ref c)):=tw hg hm (v:=.ref c) rfl hd
theorem aik{T:String}(hg:Gl X x)(hm:X.mg x=none)(hv:bootBuiltins x=some (.type T))(hn:x ≠ "__name__" := by decide)(hd:Ef x:=by decide):PE X (.Name x pos) (tC (.ty T)):=adx hg hm hv (v:=.ty T) rfl hn hd
structure xF(P:Program)(w:World)(K:Ai)(mg:Str->Option Value)(base:Heap)(k:Nat)(x:Str)(ps:List Str)(sp:Sp):Prop where
 ex:∃f fd,bJ P w K mg base CX0 k f fd ps sp/\fO K fd ps []/\PySem.W.keepIn K (.ref f)=true/\mg x=some (.ref f)
theorem ald{k:Nat}{t:TA}(c:xF X.prog X.w X.K X.mg X.base k x ps sp)(hr:aI k X.A)(hg:Gl X x)(ha:PA X (e::es) t)(hdb:Ef x:=by decide)
 (he:Ed e es X:=by rfl) (hpl:Ee pos es X:=by rfl):PE X (.Call (.Name x p) (e::es) [] pos) (aeu sp [] E0 t):=by
 obtain⟨f,fd,F,b,kp,m⟩:=c.ex;exact aco F hr hg m kp b .nil aj4 ha hdb he hpl
theorem xF.mono{P:Program}{w:World}{K:Ai}{k:Nat}(c:xF P w K mg base j x ps sp)(h:j≤k):xF P w K mg base k x ps sp:=by obtain⟨f,fd,F,b,kp,m⟩:=c.ex;exact⟨f,fd,F.mono h,b,kp,m⟩
end L2
variable {ds:List L2.Da}
namespace L2
open PySem PySem.Spec PyProof.Rows
def jO(env:Env):List (Str×NameKind)->List (Str×Addr)->List (Str×Addr)
 |[],cs=>cs
 |(n,k)::r,cs=>jO env r (if k==.free then(n,(env.cells.lookup n).getD 0)::cs else cs)
def dS(scope:Scope)(env:Env):List (Str×Addr):=jO env scope.names []
theorem qY{env:Env}:∀{names:List (Str×NameKind)} {cs:List (Str×Addr)} {p:Str×Addr},p∈jO env names cs->p∈cs\/((p.1,NameKind.free)∈names/\p.2=(env.cells.lookup p.1).getD 0)
 |[],_,_,h=>.inl h
 |(n,k)::r,cs,p,h=>by
  rcases qY (names:=r) h with q | ⟨q,e⟩
  ·by_cases hk:(k==NameKind.free)=true
   ·rw[AB hk] at q;rcases Av.mp q with rfl | q
    ·have:k=.free:=by simpa using hk
     exact .inr ⟨by rw[this];exact Ap,rfl⟩
    ·exact .inl q
   ·rw[Az hk] at q;exact .inl q
  ·exact .inr ⟨Ag _ q,e⟩
theorem rB{env:Env}{x:Str}:∀{names:List (Str×NameKind)} {cs:List (Str×Addr)},((∃c,(x,c)∈cs)\/(x,NameKind.free)∈names)->∃c,(x,c)∈jO env names cs
 |[],_,.inl h=>h
 |[],_,.inr h=>by simp at h
 |(n,k)::r,cs,h=>by
  refine rB (names:=r) ?_;rcases h with⟨c,h⟩ | h
  ·left;by_cases hk:(k==NameKind.free)=true
   ·rw[AB hk];exact⟨c,Ag _ h⟩
   ·rw[Az hk];exact⟨c,h⟩
  ·rcases Av.mp h with e | h
   ·left;injection e with e1 e2
    subst e1;subst e2;exact⟨_,Ap⟩
   ·exact .inr h
theorem dZ{x:Str}:∀{l:List (Str×Addr)} {c:Addr},(x,c)∈l->∃c',l.lookup x=some c'
 |(n,d)::r,c,h=>by
  rw[Bs];cases hx:x==n with
  |true=>exact⟨d,rfl⟩
  |false=>
   rcases Av.mp h with e | h
   ·injection e with e1 _;subst e1;simp at hx
   ·exact dZ h
theorem iK(h:∀n,(n,NameKind.free)∈scope.names->∃c,env.cells.lookup n=some c):closureFor scope env=pure (dS scope env):=by
 unfold closureFor dS;have key:∀(names:List (Str×NameKind)) (cs:List (Str×Addr)),(∀n,(n,NameKind.free)∈names->∃c,env.cells.lookup n=some c)->
  (forIn names cs fun x (r:List (Str×Addr))=>(match x with | (name,kind)=>if kind==NameKind.free then do let a <-cellOf env name;pure (ForInStep.yield ((name,a)::r)) else pure (ForInStep.yield r):Sem (ForInStep (List (Str×Addr)))))=pure (jO env names cs):=by
  intro names
  induction names with
  |nil=>intro cs _;rfl
  |cons p r ih=>
   intro cs hf;obtain⟨n,k⟩:=p;rw[CQ];cases hk:k==NameKind.free with
   |true=>
    have hk':k=.free:=by simpa using hk
    subst hk';obtain⟨c,hc⟩:=hf n Ap;have e:cellOf env n=pure c:=by unfold cellOf;rw[hc]
    simp only[beq_self_eq_true,if_true,e];have e2:jO env ((n,NameKind.free)::r) cs=jO env r ((n,c)::cs):=by show jO env r _=_;rw[hc];rfl
    rw[e2];exact ih ((n,c)::cs) fun m hm=>hf m (Ag _ hm)
   |false=>
    simp only[hk,BK,if_false];have e2:jO env ((n,k)::r) cs=jO env r cs:=by show jO env r (if (k==NameKind.free)=true then _ else _)=_;rw[hk];rfl
    rw[e2];exact ih cs fun m hm=>hf m (Ag _ hm)
 exact(BR (· >>= pure) (key scope.names [] h))
theorem we{env:Env}{x:Str}:∀{names:List (Str×NameKind)},
 (names.map fun(n,k)=>if (k==NameKind.free&&env.scope.kind==.function&&env.kindOf n==some .cell) then(n,NameKind.cell) else(n,k)).lookup x
  = (names.lookup x).map fun k=>if (k==NameKind.free&&env.scope.kind==.function&&env.kindOf x==some .cell) then NameKind.cell else k
 |[]=>rfl
 |(n,k)::r=>by
  have ih:=@we env x r;show List.lookup x ((if (k==NameKind.free&&env.scope.kind==.function&&env.kindOf n==some .cell)=true then(n,NameKind.cell) else(n,k))::_)=_;cases hx:x==n with
  |true=>
   have hx':x=n:=by simpa using hx
   subst hx';by_cases hc:(k==NameKind.free&&env.scope.kind==.function&&env.kindOf x==some .cell)=true
   ·rw[AB hc];simp only[Bs,beq_self_eq_true,Option.map_some];rw[AB hc]
   ·rw[Az hc];simp only[Bs,beq_self_eq_true,Option.map_some];rw[Az hc]
  |false=>
   by_cases hc:(k==NameKind.free&&env.scope.kind==.function&&env.kindOf n==some .cell)=true
   ·rw[AB hc];simp only[Bs,hx];exact ih
   ·rw[Az hc];simp only[Bs,hx];exact ih
def Cx.comp(X:Cx)(scope:Scope)(T:List Str)(C:Addr)(fp:List Addr)(s₀:Shared)(H₀:Hp):Cx:=
 { X with N:=X.N++T,s₀:=s₀,H₀:=H₀,env:=compEnvC scope (dS scope X.env) C X.env,outer:=X.stack,ex:=fp,fn:=fun _=>false,xe:=fun _ _=>False }
structure ja(X:Cx)(scope:Scope):Prop where
 kind:scope.kind=.function
 nocell:∀y∈scope.names,y.2≠.cell
 names:∀y∈scope.names,y.2=.local->scope.names.lookup y.1=some .local
 free:∀n,scope.names.lookup n=some .free->X.env.kindOf n=some .cell\/X.env.kindOf n=some .free
 freeM:∀n,(n,NameKind.free)∈scope.names->X.env.kindOf n=some .cell\/X.env.kindOf n=some .free
 apart:∀x∈X.N,scope.names.lookup x≠some .local
section
theorem ja.clo(S:ja X scope)(I:qx X pins σ H s):closureFor scope X.env=pure (dS scope X.env):=
 iK fun n h=>I.ok.has n (S.freeM n h)
theorem ja.cl_old(S:ja X scope)(I:qx X pins σ H s){c:Addr}(h:(dS scope X.env).lookup x=some c):X.env.cells.lookup x=some c:=by
 rcases qY (Bz h) with q | ⟨q,e⟩
 ·simp at q
 ·obtain⟨d,hd⟩:=I.ok.has x (S.freeM x q);have e':c=(X.env.cells.lookup x).getD 0:=e;rw[hd] at e' ⊢;rw[e'];rfl
theorem ja.cl_has(_:ja X scope)(h:scope.names.lookup x=some .free):∃c,(dS scope X.env).lookup x=some c:=by obtain⟨c,hc⟩:=rB (env:=X.env) (names:=scope.names) (cs:=[]) (x:=x) (.inr (Bz h));exact dZ hc
theorem ja.kindOf(S:ja X scope)(h:(compEnvC scope (dS scope X.env) C X.env).kindOf x=some .cell\/(compEnvC scope (dS scope X.env) C X.env).kindOf x=some .free):scope.names.lookup x=some .free:=by
 have e:(compEnvC scope (dS scope X.env) C X.env).kindOf x=(scope.names.lookup x).map fun k=>if (k==NameKind.free&&X.env.scope.kind==.function&&X.env.kindOf x==some .cell) then NameKind.cell else k:=we
 rw[e] at h;cases hl:scope.names.lookup x with
 |none=>rw[hl] at h;rcases h with h | h<;>cases h
 |some k=>
  rw[hl] at h;cases k with|free=>rfl|cell=>exact absurd rfl (S.nocell _ (Bz hl))|_=>rcases h with h | h<;>cases h
theorem ja.vis(S:ja X scope)(hx:x∈X.N)(h:Vis (compEnvC scope (dS scope X.env) C X.env).scope x):scope.names.lookup x=some .free:=by
 rcases h with h | h | h
 ·exfalso;have e:(compEnvC scope (dS scope X.env) C X.env).kindOf x=(scope.names.lookup x).map fun k=>if (k==NameKind.free&&X.env.scope.kind==.function&&X.env.kindOf x==some .cell) then NameKind.cell else k:=we
  have h':(compEnvC scope (dS scope X.env) C X.env).kindOf x=some .local:=h;rw[e] at h';cases hl:scope.names.lookup x with
  |none=>rw[hl] at h';cases h'
  |some k=>
   rw[hl] at h';have h':(if (k==NameKind.free&&X.env.scope.kind==.function&&X.env.kindOf x==some .cell)=true then NameKind.cell else k)=.local:=A4 h';split at h'
   ·cases h'
   ·subst h';exact S.apart x hx hl
 ·exact S.kindOf (C:=C) (.inl h)
 ·exact S.kindOf (C:=C) (.inr h)
theorem ja.back(S:ja X scope)(h:scope.names.lookup x=some .free):(compEnvC scope (dS scope X.env) C X.env).kindOf x=some .cell\/(compEnvC scope (dS scope X.env) C X.env).kindOf x=some .free:=by
 have e:(compEnvC scope (dS scope X.env) C X.env).kindOf x=(scope.names.lookup x).map fun k=>if (k==NameKind.free&&X.env.scope.kind==.function&&X.env.kindOf x==some .cell) then NameKind.cell else k:=we
 rw[e,h];show some (if _ then _ else _)=_\/some (if _ then _ else _)=_;split
 ·exact .inl rfl
 ·exact .inr rfl
end
def PF(X:Cx)(ifs:List Expr)(t:TT):Prop:=
 ∀(pins:List (Addr×Obj)) (s:Shared) (σ:St) (H:Hp) (Q:Bool->Hp->Prop),qx X pins σ H s->t σ H Q->
  wpAny (model X.prog X.w) X.A (forIn ifs true fun c r=>if r=true then do let ok <-isTrue c X.env (eval c X.env);pure (ForInStep.yield ok) else pure (ForInStep.yield r)) (TP X pins σ Q) X.xe s
def ann:TT:=fun _ H Q=>Q true H
theorem aha :PF X [] ann:=fun _ _ _ H _ I h=>Ah ⟨H,I,h⟩
theorem agc{t:TT}(hc:PT X c t):PF X [c] t:=by intro pins s σ H Q I h;rw[CQ];simp only[if_true];refine Aa (Aa (v0 (hc pins s σ H Q I h) fun b s1 q=>Ah ?_));exact Ah q
theorem dX{w:World}{R:Result->Shared->Prop}{iter:Expr}{it acc:Value}(I:Nat->Shared->Prop)
 (turn:∀n s,I n s->wpAny (model prog w) A (pyNext it) (fun r s₁=>match r with
  |none=>R (.ok .next) s₁
  |some v=>wpAny (model prog w) A (letOwnedTupleGo target it v) (fun _ s₁=>wpAny (model prog w) A (assign target env v) (fun _ s₂=>
   wpAny (model prog w) A (forIn ifs true fun c r=>if r=true then do let ok <-isTrue c env (eval c env);pure (ForInStep.yield ok) else pure (ForInStep.yield r)) (fun ok s₃=>
    if ok=true then wpAny (model prog w) A (eval elt env) (fun x s₄=>
     wpAny (model prog w) A (call (.builtin "list.append") [acc,x]) (fun _ s₅=>∃m,m<n/\I m s₅) (fun _ _=>False) s₄) (fun _ _=>False) s₃
    else ∃m,m<n/\I m s₃) (fun _ _=>False) s₂) (fun _ _=>False) s₁) (fun _ _=>False) s₁) (fun _ _=>False) s)
 (n:Nat) (h:I n s):
 codeAny (model prog w) A (.compLoop (.ListComp elt [⟨target,iter,ifs,0⟩] scope pos) 0 it acc env) R s:=by
 refine codeAny_loop rfl I (fun n s hI=>?_) n h;show wpAny _ A ((compTurn (.ListComp elt [⟨target,iter,ifs,0⟩] scope pos) 0 it acc env).onRaise (fun x=>do noteFrame x env;theTreesLotGoes x)) _ _ s;refine wpAny_noted ?_;rw[compTurn_list];refine Aa (wpAny_standAt (Aa (AY (turn n s hI) (fun r s₁ h₁=>?_) fun _ _ h'=>h'.elim)));cases r with
 |none=>exact Ah h₁
 |some v=>
  refine Aa (AY h₁ (fun _ s₁ h₁=>?_) fun _ _ h'=>h'.elim);refine Aa (AY h₁ (fun _ s₂ h₂=>Aa (AY h₂ (fun ok s₃ h₃=>?_) fun _ _ h'=>h'.elim)) fun _ _ h'=>h'.elim);cases ok with
  |false=>exact Ah ⟨rfl,h₃⟩
  |true=>
   exact Aa (Aa (AY h₃ (fun x s₄ h₄=>Aa (AY h₄ (fun _ s₅ h₅=>Ah (Ah ⟨rfl,h₅⟩)) fun _ _ h'=>h'.elim)) fun _ _ h'=>h'.elim))
def tLC(n:Nat)(wi:TI)(g:TG)(tc:TT)(te:TE):TE:=fun σ H Q=>wi σ H fun J H1=>∃W:Nat->Nat->List V->Hp->Prop,(∃m,W 0 m [] H1)/\∀i m ys H,W i m ys H->
 (J.stop i H/\ys.length≤sizeLine/\∀D,H D=none->Q (.ref D) (upd H D (.lst ys)))\/
 (J.go i H/\ys.length<sizeLine/\∀x H',J.yld i H x H'->g x (σ++List.replicate n none) H' fun σ2 H2=>tc σ2 H2 fun b H3=>
  if b=true then te σ2 H3 fun y H4=>∃m',m'<m/\W (i+1) m' (ys++[y]) H4 else ∃m',m'<m/\W (i+1) m' ys H3)
def qO(g:TG)(n k:Nat):Prop:=∀(σ:St),σ.length=n->∀x H Q,g x (σ++List.replicate k none) H Q->
 g x (σ++List.replicate k none) H fun σ2 H2=>((σ2.length=n+k/\∀(i:Nat) v,(σ++List.replicate k none)[i]?=some (some v)->σ2[i]?=some (some v))/\Q σ2 H2)
section
variable {T:List Str}{iter:Expr}{g:TG}{te:TE}
theorem ltN{b:Addr}{o:Obj}(e:h.get? b=some o):@LT.lt Nat instLTNat b h.objs.size:=Heap.lt_size e
theorem rR{a b:Addr}(h:@Ne Nat a b):a≠b:=h
theorem leN{a b:Addr}(h:@LE.le Nat instLENat a b):a≤b:=h
theorem yZ(its:List Value)(n:Nat)(u:Value):∃n',Obj.mapSeq (·.push u) { cls:=.type "list",data:=.seq its.toArray n }=({ cls:=.type "list",data:=.seq (its++[u]).toArray n' }:Obj):=
 ⟨_,by simp[Obj.mapSeq];rfl⟩
theorem sW{w:World}{D:Addr}(hD:s.heap.get? D=some { cls:=.type "list",data:=.seq its.toArray n })
 (hz:its.length≤sizeLine) (h:∀h' n',Heap.SameBut D s.heap h'->h'.get? D=some { cls:=.type "list",data:=.seq (its++[u]).toArray n' }->Q .none { s with heap:=h' }):
 wpAny (model prog w) A (call (.builtin "list.append") [.ref D,u]) Q E s:=by
 have hl:s.heap.IsList D its.toArray:=⟨_,hD,rfl,n,rfl⟩;refine wpAny_call_entry slot_list_append hl.typeIs entry_list_append ?_ (args_list_append _ _);show wpAny _ _ (updateSeq D (·.push u) >>= fun _=>ret .none) _ _ s;refine Aa ?_;obtain⟨n',e'⟩:=yZ its n u;refine wpAny_updateSeq (f:=(·.push u)) hD rfl (Ah ⟨.none,rfl,h _ n' (Heap.SameBut.update ..) ?_⟩) (by rw[Am];exact hz) (by rw[Bk,Am];exact Nat.succ_le_succ hz);rw[<-e'];exact Heap.get?_update_self _ hD (by rw[e'];rfl)
theorem jQ{Q:VK}{itv:Value}{s₂:Shared}{RR:Value->Addr->Result->Shared->Prop}
 (S:ja X scope) (hc:X.calm=true)
 (hg:∀C fp s₀ H₀,PG (X.comp scope T C fp s₀ H₀) target g) (hgo:qO g X.N.length T.length) (hf:∀C fp s₀ H₀,PF (X.comp scope T C fp s₀ H₀) ifs tc) (he:∀C fp s₀ H₀,PE (X.comp scope T C fp s₀ H₀) elt te)
 (h:PIE X pins σ target (fun J H1=>∃W:Nat->Nat->List V->Hp->Prop,(∃m,W 0 m [] H1)/\∀i m ys H,W i m ys H->
  (J.stop i H/\ys.length≤sizeLine/\∀D,H D=none->Q (.ref D) (upd H D (.lst ys)))\/
  (J.go i H/\ys.length<sizeLine/\∀x H',J.yld i H x H'->g x (σ++List.replicate T.length none) H' fun σ2 H2=>tc σ2 H2 fun b H3=>
   if b=true then te σ2 H3 fun y H4=>∃m',m'<m/\W (i+1) m' (ys++[y]) H4 else ∃m',m'<m/\W (i+1) m' ys H3)) itv s₂)
 (hRR:∀D C s' H' m',qx X pins σ H' s'->lT X pins H' C->s'.heap.Ns C m'->Q (.ref D) H'->RR (.ref D) C (.ok .next) s'):
 wpAny (model X.prog X.w) X.A (newList []) (fun acc s₃=>wpAny (model X.prog X.w) X.A (newFunctionEnv scope X.env.globals (dS scope X.env) [] X.env.qual none .none (some X.env)) (fun cenv s₄=>
  codeAny (model X.prog X.w) X.A (.compStart (.ListComp elt [⟨target,iter,ifs,0⟩] scope pos) 0 itv acc { cenv with scope:=relabel scope X.env }) (RR acc cenv.locals) s₄) E s₃) E s₂:=by
 obtain⟨it,fp,tn,J,H2,rfl,I2,Tn,st2,f2,W,⟨m0,w0⟩,turn⟩:=h;refine Bp (wpAny_newFunctionEnv S.nocell (by intro y hy;simp at hy) (fun h₁ hns₁ hsb₁=>?_) S.kind);dsimp only at hns₁ hsb₁ ⊢;generalize hH2:s₂.heap.push { cls:=.type "list",dict:=none,data:=.seq ([]:List Value).toArray }=G at hns₁ hsb₁ ⊢;have hC:G.objs.size=s₂.heap.objs.size+1:=by rw[<-hH2,Heap.size_push]
 obtain⟨D,eD⟩:∃D,s₂.heap.objs.size=D:=⟨_,rfl⟩;obtain⟨C,eC⟩:∃C,G.objs.size=C:=⟨_,rfl⟩;rw[eD] at hC ⊢;rw[eC] at hC hns₁ hsb₁ ⊢;have hDC:D≠C:=by lia
 have old:∀b o,s₂.heap.get? b=some o->h₁.get? b=some o:=fun b o e=>by have hb:=ltN e;exact hsb₁.extBut b o (rR (by lia)) (Heap.get?_push_of_some _ (hH2▸Heap.get?_push_of_some _ e))
 have hacc:h₁.get? D=some { cls:=.type "list",data:=.seq ([]:List Value).toArray 0 }:=by refine hsb₁.extBut _ _ hDC (Heap.get?_push_of_some _ ?_);rw[<-hH2,<-eD];exact Heap.get?_push_size _ rfl
 have fpo:∀b∈fp,@LT.lt Nat instLTNat b s₂.heap.objs.size:=fun b hb=>by obtain⟨o,e,_⟩:=Tn.obj _ _ st2 b hb;exact ltN e
 have ilt:@LT.lt Nat instLTNat X.env.locals s₂.heap.objs.size:=I2.lt;have isz:X.s₀.heap.objs.size≤s₂.heap.objs.size:=I2.sz;have HD:H2 D=none:=I2.hok.fresh (leN (by exact pH));have HC:H2 C=none:=I2.hok.fresh (leN (by lia));have nfs:∀b:Addr,@LE.le Nat instLENat s₂.heap.objs.size b->b∉vX X.stack:=fun b hb z=>by
  have q:=I2.stkSub b z;rcases Av.mp q with q | q
  ·rw[<-q] at ilt;exact absurd ilt (Nat.not_lt.mpr hb)
  ·exact I2.nofs hb q
 have cellLt:∀x c,X.env.cells.lookup x=some c->@LT.lt Nat instLTNat c s₂.heap.objs.size:=fun x c e=>by obtain⟨v,q⟩:=I2.cell x c e;exact q.lt
 let X':Cx:=X.comp scope T C fp s₂ H2
 have ok':X'.Ok:={
  mod:=I2.ok.mod,kind:=S.kind,glob:=I2.ok.glob,blt:=I2.ok.blt
  above:=leN (by show @LE.le Nat instLENat s₂.heap.objs.size C;lia)
  inj:=fun x y c h1 h2=>I2.ok.inj x y c (S.cl_old I2 h1) (S.cl_old I2 h2)
  has:=fun x hx=>S.cl_has (S.kindOf hx)
  cab:=fun x c hx=>absurd (show false=true from hx) (by simp)
  hd:=I2.ok.hd,frames:=I2.ok.frames,stk:=.inl rfl
  exf:=fun b hb=>⟨rR (by have:=fpo b hb;show @Ne Nat b C;lia),fun x c e=>(f2 b hb).2.2.2.2.1 x c (S.cl_old I2 e)⟩
  bs:=I2.bs,bsz:=AW I2.ok.bsz I2.sz
  noex:=fun b o e hb=>by
   obtain⟨e0,n0⟩:=I2.ok.bs b o e;rcases (f2 b hb).2.2.2.1 with q | q
   ·exact I2.ok.noex b o e q
   ·have q':@LE.le Nat instLENat X.s₀.heap.objs.size b:=q;have:=ltN e0;lia
  exfs:=fun b hb z=>by
   rcases Av.mp (I2.stkSub b z) with q | q
   ·exact(f2 b hb).2.1 q
   ·exact(f2 b hb).2.2.1 q
  funs:=I2.stack,frf:=I2.stkFree }
 have I4:∀tk,0<tk->qx X' pins (σ++List.replicate T.length none) H2 { s₂ with heap:=h₁,toks:=tk }:=fun tk htk=>{
  tk:=htk,ok:=ok',os:=rfl,bare:=I2.bare,base:=Un.kept old
  loc:=⟨_,hns₁,fun i x v e1 e2 e3=>by
   have hi:i<σ.length:=by
    by_cases hi:i<σ.length
    ·exact hi
    ·rw[Au (by exact yb),CT] at e2;split at e2<;>cases e2
   rw[AE hi] at e2;have hi':i<X.N.length:=by rw[<-I2.len];exact hi
   have e1':X.N[i]?=some x:=by have:(X.N++T)[i]?=some x:=e1;rw[AE hi'] at this;exact this
   have hfr:=S.vis (AO e1') e3;obtain⟨m,hn,hl⟩:=I2.loc;have hk:=S.free x hfr;obtain⟨u,r,l⟩:=hl i x v e1' e2 (.inr hk);refine⟨u,r,.inr ⟨S.back hfr,?_⟩⟩;rcases l with⟨l,_⟩ | ⟨_,c,e,z⟩
   ·rw[l] at hk;rcases hk with q | q<;>cases q
   ·obtain⟨c',e'⟩:=S.cl_has hfr;have e'':=S.cl_old I2 e';rw[e] at e'';cases e'';exact⟨c,e',z.keeps old⟩⟩
  cell:=fun x c e=>by obtain⟨v,z⟩:=I2.cell x c (S.cl_old I2 e);exact⟨v,z.keeps old⟩
  free:=HC,freeC:=fun x c e=>I2.freeC x c (S.cl_old I2 e)
  pin:=fun p hp=>by
   obtain⟨a,b,c,d,e⟩:=I2.pin p hp;have hlt:=ltN a;refine⟨old _ _ a,b,rR (by show @Ne Nat p.1 C;lia),fun z=>?_,e⟩;rcases Av.mp (I2.stkSub _ z) with q | q
   ·exact c q
   ·exact d q
  hok:=I2.hok.kept old
  len:=by show(σ++_).length=(X.N++T).length;rw[Ac,Ac,Cw,I2.len] }
 have fpk:∀(pins':List (Addr×Obj)) (H':Hp),(∀p∈pins',p∈pins\/p.1=D)->(∀b∈fp,H' b=none)->∀b∈fp,lT X' pins' H' b:=fun pins' H' hp hn b hb=>by
  obtain⟨_,q1,q2,q3,q4,q5⟩:=f2 b hb;have hlt:=fpo b hb;refine⟨hn b hb,rR (by show @Ne Nat b C;lia),ok'.exfs b hb,.inl hb,(ok'.exf b hb).2,fun p hpp=>?_⟩;rcases Al.mp hpp with z | z
  ·exact q5 p (Ar _ z)
  ·rcases hp p z with z | z
   ·exact q5 p (Af _ z)
   ·rw[z];exact rR (by lia)
 have stay:Tn.keep=Tn.keep:=rfl;have loop:∀s₃:Shared,s₃={ s₂ with heap:=h₁,toks:=s₂.toks+([]:List (Str×Value)).length }->
  codeAny (model X.prog X.w) X.A (.compLoop (.ListComp elt [⟨target,iter,ifs,0⟩] scope pos) 0 (.ref it) (.ref D) X'.env) (RR (.ref D) C) s₃:=by
  rintro s₃ rfl;refine dX (fun n s'=>∃i σ' H' ys its k,qx X' pins σ' H' s'/\(σ'.length=X.N.length+T.length/\∀(i:Nat) v,(σ++List.replicate T.length none)[i]?=some (some v)->σ'[i]?=some (some v))/\
   s'.heap.get? D=some { cls:=.type "list",data:=.seq (its:List Value).toArray k }/\ze ys its/\H' D=none/\tn i s'.heap/\(∀b∈fp,H' b=none)/\W i n ys H') ?_ m0
   ⟨0,_,H2,[],[],0,I4 _ I2.tk,⟨by rw[Ac,Cw,I2.len],fun _ _ e=>e⟩,hacc,.nil,HD,Tn.keep _ _ _ st2 fun b _ o e=>old b o e,fun b hb=>(f2 b hb).1,w0⟩
  rintro n s3 ⟨i,σ3,H3,ys,its,k,I3,⟨hl3,hs3⟩,hD3,hv3,hH3,st3,fr3,w3⟩;have hlen:its.length=ys.length:=hv3.length.symm;have D_fs:D∉X'.fs:=nfs D (by exact pH);have DC':D≠X'.env.locals:=hDC;have I3p:qx X' (pins++[(D,{ cls:=.type "list",data:=.seq its.toArray k })]) (σ++List.replicate T.length none) H3 s3:=
   (I3.weak (by rw[hl3,Ac,Cw,I2.len]) hs3).pins_of fun p hp=>by
    rcases Al.mp hp with z | z
    ·exact I3.pin p (Af _ z)
    ·have e:=Ak.mp z;subst e;exact⟨hD3,hH3,DC',D_fs,fun v z=>by cases z⟩
  have pinsD:∀p∈pins++[(D,({ cls:=.type "list",data:=.seq its.toArray k }:Obj))],p∈pins\/p.1=D:=fun p hp=>by
   rcases Al.mp hp with z | z
   ·exact .inl z
   ·exact .inr (by rw[Ak.mp z])
  rcases turn i n ys H3 w3 with⟨stop,hz,qn⟩ | ⟨go,hz,step⟩
  ·refine v0 (Tn.done X' rfl rfl rfl hc i _ s3 _ H3 _ I3p (fpk _ H3 pinsD fr3) st3 stop) fun r s4 ⟨hr,I4'⟩=>?_;subst hr;obtain⟨hD4,hH4,_⟩:=I4'.pin (D,_) (Af _ (Af _ Ap));obtain⟨m',hn',_⟩:=I4'.loc;have un:Un (vX X.stack) fp H2 (upd H3 D (.lst ys)) s₂.heap s4.heap:={
    keep:=I4'.base.keep,slot:=I4'.base.slot
    free:=fun b o e n hx=>by have:=ltN e;rw[qr (rR (by lia))];exact I4'.base.free b o e n hx
    there:=I4'.base.there
    tups:=fun b xs e=>by rw[qr (fun z=>by rw[z,HD] at e;cases e)];exact I4'.base.tups b xs e
    frzs:=fun b o u e=>by rw[qr (fun z=>by rw[z,HD] at e;cases e)];exact I4'.base.frzs b o u e
    tbls:=fun b ps e=>by rw[qr (fun z=>by rw[z,HD] at e;cases e)];exact I4'.base.tbls b ps e }
   have hok:dg X.prog X.w (upd H3 D (.lst ys)) s4.heap:=fun b u e=>by
    by_cases hb:b=D
    ·subst hb;rw[j4] at e;cases e;exact⟨hz,its,k,hv3,hD4⟩
    ·rw[qr hb] at e;refine(I4'.hok b u e).stay (fun _ _ _ q=>q) (fun c q=>?_) fun c xs q=>?_
     ·rw[qr (zq q hH3)];exact q
     ·rw[qr (zq q hH3)];exact q
   have I5:qx X pins σ (upd H3 D (.lst ys)) s4:=I2.call' (ch:=fp) I4'.os un hok I4'.bare fun b hb=>⟨(f2 b hb).2.2.2.1,(f2 b hb).2.1,(f2 b hb).2.2.2.2.1,(f2 b hb).2.2.2.2.2⟩;refine hRR D C s4 _ m' I5 ?_ hn' (qn D hH3);refine⟨by rw[qr (AM hDC)];exact I4'.free,?_,?_,.inr ?_,fun x c e=>?_,fun p hp=>?_⟩
   ·exact rR (by lia)
   ·exact I2.nofs (leN (by lia))
   ·exact leN (by lia)
   ·exact rR (by have:=cellLt x c e;lia)
   ·exact rR (by have:=ltN (I2.pin p hp).1;lia)
  ·refine v0 (Tn.item X' rfl rfl rfl hc i _ s3 _ H3 _ I3p (fpk _ H3 pinsD fr3) st3 go) fun r s4 ⟨u,hr,h4⟩=>?_;subst hr;refine v0 h4 fun _ s5 ⟨x,H5,I5,r5,y5,xH,fr5⟩=>?_;have I5':=I5.pinned (fpk _ H5 pinsD fr5) (Tn.obj _ _ xH);refine AY ((hg C fp s₂ H2) _ s5 _ H5 x u _ I5' r5 (hgo σ I2.len x H5 _ (step x H5 y5))) (fun _ s6 ⟨σ6,H6,I6,⟨hl6,hs6⟩,q6⟩=>?_) fun _ _ z=>z;refine AY ((hf C fp s₂ H2) _ s6 σ6 H6 _ I6 q6) (fun b s7 ⟨H7,I7,q7⟩=>?_) fun _ _ z=>z;have x8:∀{s8:Shared} {H8:Hp} (I8:qx X' ((pins++[(D,{ cls:=.type "list",data:=.seq its.toArray k })])++jE fp s5.heap) σ6 H8 s8),tn (i+1) s8.heap/\(∀b∈fp,H8 b=none)/\s8.heap.get? D=some { cls:=.type "list",data:=.seq its.toArray k }/\H8 D=none/\qx X' pins σ6 H8 s8:=fun {s8 H8} I8=>by
    refine⟨Tn.keep _ _ _ xH fun b hb o e=>(I8.pin (b,o) (Af _ (Af _ (bx hb e)))).1,fun b hb=>?_,?_,?_,I8.unpinned.unpinned⟩
    ·obtain⟨o,e,d⟩:=Tn.obj _ _ xH b hb;exact(I8.pin (b,o) (Af _ (Af _ (bx hb e)))).2.1
    ·exact(I8.pin (D,_) (Af _ (Ar _ (Af _ Ap)))).1
    ·exact(I8.pin (D,_) (Af _ (Ar _ (Af _ Ap)))).2.1
   cases b with
   |false=>
    rw[Az AC] at q7 ⊢;obtain⟨m',hm,w7⟩:=q7;obtain⟨a1,a2,a3,a4,a5⟩:=x8 I7;exact⟨m',hm,i+1,σ6,H7,ys,its,k,a5,⟨hl6,hs6⟩,a3,hv3,a4,a1,a2,w7⟩
   |true=>
    rw[AB rfl] at q7 ⊢;refine AY ((he C fp s₂ H2) _ s7 σ6 H7 _ I7 q7) (fun v s8 ⟨y,H8,I8,r8,m',hm,w8⟩=>?_) fun _ _ z=>z;obtain⟨a1,a2,a3,a4,a5⟩:=x8 I8;refine sW a3 (by lia) fun h9 k9 hs9 hD9=>?_;have nD:∀b∈fp,b≠D:=fun b hb=>rR (by have:=fpo b hb;lia);refine⟨m',hm,i+1,σ6,H8,ys++[y],its++[v],k9,?_,⟨hl6,hs6⟩,hD9,hv3.append (.cons r8 .nil),a4,Tn.keep _ _ _ a1 fun b hb o e=>(hs9.2 b (nD b hb)).trans e,a2,w8⟩;exact a5.turned (t':=s8.toks) (it:=D) (fun b o hb e=>(hs9.2 b hb).trans e) a4 DC' (.inr (leN (by show @LE.le Nat instLENat s₂.heap.objs.size D;exact pH))) (fun x c e=>rR (by have:=cellLt x c (S.cl_old I2 e);lia)) fun p hp=>rR (by have:=ltN (I2.pin p hp).1;lia)
 exact codeAny_compStart_list (loop _ rfl) (Tn.self _ _ _ _ _ (Tn.keep _ _ _ st2 fun b _ o e=>old b o e) (loop _ rfl))
end
section
variable {T:List Str}{iter:Expr}{g:TG}{te:TE}
theorem aiq(T:List Str)(S:ja X scope)(hc:X.calm=true)(hi:PI X target iter wi)(hg:∀C fp s₀ H₀,PG (X.comp scope T C fp s₀ H₀) target g)(hgo:qO g X.N.length T.length)
 (hf:∀C fp s₀ H₀,PF (X.comp scope T C fp s₀ H₀) ifs tc) (he:∀C fp s₀ H₀,PE (X.comp scope T C fp s₀ H₀) elt te)
 (hs:∀x,foldedSetIterable iter X.env x=pure x:=by intro _;rfl):PE X (.ListComp elt [⟨target,iter,ifs,0⟩] scope pos) (tLC T.length wi g tc te):=by
 intro pins s σ H Q I h;rw[eval_ListComp];refine wpAny_comprehension_free (use:=none) rfl hs (S.clo I) S.kind S.names (v0 (hi pins s σ H _ I h) fun v s1 h1=>v0 h1 fun itv s2 h2=>?_);refine jQ (RR:=fun acc C=>compPost (model X.prog X.w) X.A X.xe none (EP X pins σ Q) acc C) S hc hg hgo hf he h2 ?_;intro D C s' H' m' I' f' hn q;exact⟨m',hn,fun h' hs'=>⟨.ref D,H',I'.turned (t':=s'.toks) (it:=C) (fun b o hb e=>(hs'.2 b hb).trans e) f'.1 (AM (AM f'.2.1)) f'.2.2.2.1 f'.2.2.2.2.1 f'.2.2.2.2.2,rfl,q⟩⟩
theorem yq(T:List Str){px lp:Pos}(hN:X.N.Nodup)(hix:X.N[i]?=some x)(hx:yy X.env.scope x)(S:ja X scope)(hc:X.calm=true)(hi:PI X target iter wi)
 (hg:∀C fp s₀ H₀,PG (X.comp scope T C fp s₀ H₀) target g) (hgo:qO g X.N.length T.length)
 (hf:∀C fp s₀ H₀,PF (X.comp scope T C fp s₀ H₀) ifs tc) (he:∀C fp s₀ H₀,PE (X.comp scope T C fp s₀ H₀) elt te)
 (hsw:swapsWith (.ListComp elt [⟨target,iter,ifs,0⟩] scope lp) (some (.Name x px)) pos.line X.env=pure true:=by rfl)
 (hfn:X.fn x=true\/X.env.scope.names.lookup x=some .local:=by first | exact .inl rfl | exact .inr rfl | assumption)
 (hs:∀x,foldedSetIterable iter X.env x=pure x:=by intro _;rfl):PS X (.Assign [.Name x px] (.ListComp elt [⟨target,iter,ifs,0⟩] scope lp) pos) (ahv (tLC T.length wi g tc te) (jY i)):=by
 intro pins s σ H D I h;rw[exec_Assign_Name_used _ _ _ _ hsw];refine Aa (wpAny_standAt (Aa ?_));show wpAny _ X.A (do let _ <-comprehension (.ListComp elt [⟨target,iter,ifs,0⟩] scope lp) scope X.env _ (newList []) false (eval iter X.env) (some (assign (.Name x px) X.env))) _ _ s;refine Aa (AY (wpAny_comprehension_free (use:=some (assign (.Name x px) X.env)) (Q:=fun _ s'=>SP X pins D .next s') rfl hs (S.clo I) S.kind S.names
  (v0 (hi pins s σ H _ I h) fun v s1 h1=>v0 h1 fun itv s2 h2=>?_)) (fun _ s' hq=>Ah (Ah hq)) fun _ _ e=>e)
 refine jQ (RR:=fun acc C=>compPost (model X.prog X.w) X.A X.xe (some (assign (.Name x px) X.env)) (fun _ s'=>SP X pins D .next s') acc C) (pins:=pins) (σ:=σ) (Q:=fun x H1=>jY i x σ H1 D.nx) S hc hg hgo hf he h2 ?_;intro A C s' H' m' I' f' hn q;show wpAny _ X.A (assign (.Name x px) X.env (.ref A)) _ _ s';refine wpAny_assign_Name (mR I' hN hix hx (v:=.ref A) rfl (fun s'' I'' ⟨a,hs,ha⟩ _=>?_) hfn);have hCa:C≠a:=by
  rcases ha with z | z
  ·rw[z];exact f'.2.1
  ·exact fun e=>f'.2.2.2.2.1 x a z e.symm
 exact⟨m',hn.sameBut hs hCa,fun h' hs'=>⟨_,H',I''.turned (t':=s''.toks) (it:=C) (fun b o hb e=>(hs'.2 b hb).trans e) f'.1 f'.2.1 f'.2.2.2.1 f'.2.2.2.2.1 f'.2.2.2.2.2,q⟩⟩
end
def kc(outer:Scope)(N:List Str)(sc:Scope):Bool:=
 decide (sc.kind=.function)&&sc.names.all (fun p=>decide (p.2≠.cell)&&(decide (p.2≠.local)||decide (sc.names.lookup p.1=some .local))&&(decide (p.2≠.free)||(decide (outer.names.lookup p.1=some .cell)||decide (outer.names.lookup p.1=some .free))))
  && N.all (fun x=>decide (sc.names.lookup x≠some .local))
theorem kc.mk{sc:Scope}(h:kc X.env.scope X.N sc=true):ja X sc:=by
 unfold kc at h;rw[Bc,Bc,CG,CG] at h;obtain⟨⟨h1,h2⟩,h3⟩:=h;have fm:∀n,(n,NameKind.free)∈sc.names->X.env.kindOf n=some .cell\/X.env.kindOf n=some .free:=fun n hn=>by
  have q:=h2 _ hn;simp only[Bc,DR,decide_eq_true_eq] at q;rcases q.2 with z | z
  ·exact absurd rfl z
  ·exact z
 refine⟨of_decide_eq_true h1,fun y hy=>?_,fun y hy e=>?_,fun n hn=>fm n (Bz hn),fm,fun x hx=>of_decide_eq_true (h3 x hx)⟩
 ·have q:=h2 _ hy;simp only[Bc,DR,decide_eq_true_eq] at q;exact q.1.1
 ·have q:=h2 _ hy;simp only[Bc,DR,decide_eq_true_eq] at q;rcases q.1.2 with z | z
  ·exact absurd e z
  ·exact z
abbrev ES:=@kc.mk
theorem sK(n:Nat):qO (jY n) n 1:=by
 intro σ hl x H Q h;refine⟨⟨by simp[hl],fun i v e=>?_⟩,h⟩;by_cases hi:i=n
 ·subst hi;rw[Au (by exact pH)] at e;simp[hl] at e
 ·rw[BB (AM hi)];exact e
theorem lO:bootBuiltins "isinstance" = some (.builtin "isinstance"):=by decide +kernel
theorem eV:bootBuiltins "tuple" = some (.type "tuple"):=by decide +kernel
theorem yi:bootBuiltins "int" = some (.type "int"):=by decide +kernel
theorem am:bootBuiltins "list" = some (.type "list"):=by decide +kernel
theorem aa8:bootBuiltins "len" = some (.builtin "len"):=by decide +kernel
theorem huK{k:Nat}(hr:aI k A):A.units+128<cLine:=by have:=hr.un;lia
theorem small(h:n≤1000):n≤sizeLine:=BH (lv h)
theorem xF.of{P:Program}{w:World}{K:Ai}{k:Nat}(F:bJ P w K mg base CX0 k f fd ps sp)(b:fO K fd ps [])(kp:PySem.W.keepIn K (.ref f)=true)(m:mg x=some (.ref f)):
 xF P w K mg base k x ps sp:=⟨f,fd,F,b,kp,m⟩
theorem bJ.never{P:Program}{w:World}{K:Ai}{k:Nat}(no:∀vs H Q E,¬sp vs H Q E):bJ P w K mg base CX0 k f fd ps sp:=
 ⟨fun vs H Q E h=>absurd h (no vs H Q E),fun A outer s H args us vs Q E _ _ _ _ h=>absurd h (no vs H Q E)⟩
section
variable (K:Ai)(P:Program)(w:World)
end
structure z9(K:Ai)(x:Str)(st:Stmt):Prop where
 ex:∃(f:Addr) (kV doc pm:Value) (an:Option Addr) (cdv ct:Value),PySem.W.nsIn K mainGlobals x=some (some (.ref f))/\Fun K x x st f (PySem.W.fnOf x x (xn st) (jl st) (qu st) .none kV doc pm an cdv ct)
theorem def_in{K:Ai}{kV ct:Value}(a:PySem.W.nsIn K mainGlobals x=some (some (.ref f)))
 (l:K.lookup f=some ⟨oc,od,.func (PySem.W.fnOf x x (xn st) (jl st) (qu st) .none kV doc pm an cdv ct),osl⟩) (c:PySem.W.codeIn K cdv x=true) (k:PySem.W.keepIn K (.ref f)=true):z9 K x st:=
 ⟨f,kV,doc,pm,an,cdv,ct,a,ahq (st:=st) l c k⟩
theorem z9.use{K:Ai}(D:z9 K x st)(X:K.In h)(G:h.Ns mainGlobals mg)
 (hb:∀(kV doc pm:Value) (an:Option Addr) (cdv ct:Value) (us:List Value),us.length=ps.length->bindArgs (PySem.W.fnOf x x (xn st) (jl st) (qu st) .none kV doc pm an cdv ct) ⟨us,[]⟩=pure (ps.zip us)):
 ∃f fd,Fun K x x st f fd/\fO K fd ps []/\mg x=some (.ref f):=by
 obtain⟨f,kV,doc,pm,an,cdv,ct,a,F⟩:=D.ex;exact⟨f,_,F,fO.all (hb kV doc pm an cdv ct),CN X G a⟩
end L2
namespace Words
open PySem L2
inductive Wd where
 |leaf (t:Bool) (n:Str)
 |node (e:Bool) (l r:Wd)
def kL:Bool->Str
 |false => "plain"
 |true => "turned"
def kN:Bool->Str
 |false => "both"
 |true => "either"
def Wd.turn:Wd->Wd
 |.leaf t n=>.leaf (!t) n
 |.node e l r=>.node (!e) l.turn r.turn
def Wd.depth:Wd->Nat
 |.leaf _ _=>1
 |.node _ l r=>max l.depth r.depth+1
def Wd.leaves:Wd->Nat
 |.leaf _ _=>1
 |.node _ l r=>l.leaves+r.leaves
theorem Wd.leaves_pos:∀w:Wd,1≤w.leaves
 |.leaf _ _=>An _
 |.node _ l r=>by have:=Wd.leaves_pos l;show 1≤l.leaves+r.leaves;exact aig
abbrev EO:=@Wd.leaves_pos
theorem Wd.depth_le:∀w:Wd,w.depth≤w.leaves
 |.leaf _ _=>An _
 |.node _ l r=>by have:=Wd.depth_le l;have:=Wd.depth_le r;have:=EO l;have:=EO r;show max l.depth r.depth+1≤l.leaves+r.leaves;lia
def lD:Wd->Da
 |.leaf t n=>.tup [.s (.str (kL t)),.s (.str n)]
 |.node e l r=>.tup [.s (.str (kN e)),lD l,lD r]
theorem eS:∀w:Wd,Da.eq (lD w) (lD w)=true
 |.leaf t n=>by simp[lD,Da.eq,Da.eqs,fh]
 |.node e l r=>by simp[lD,Da.eq,Da.eqs,fh,eS l,eS r]
def cj(x:Str):Prop:=1≤x.length/\x.length≤8/\∀c∈x.cps.toList,97≤c/\c≤122
def Wd.ok:Wd->Prop
 |.leaf _ n=>cj n
 |.node _ l r=>l.ok/\r.ok
theorem Paired.getP{α β:Type}{F:α->β->Prop}:∀{xs:List α} {ys:List β} {i:Nat} {x:α},Paired F xs ys->xs[i]?=some x->∃y,ys[i]?=some y/\F x y
 |_,_,_,_,.nil,h=>by simp at h
 |_,_,0,_,.cons (b:=y) r _,h=>by simp at h;subst h;exact⟨y,rfl,r⟩
 |_,_,i+1,_,.cons _ t,h=>by obtain⟨y,e,q⟩:=Paired.getP (i:=i) t (by simpa using h);exact⟨y,by simpa using e,q⟩
end Words
namespace L2
open PySem PySem.Spec PyProof.Rows
section
theorem vF{a b:Addr}{ys:List V}{es:List Da}(I:qx X pins σ H s)(hu:A.units<cLine)(sx:cM X.K H a xs)(sy:cM X.K H b ys)(px:Paired (v9 X.K H n) xs ds)(py:Paired (v9 X.K H m) ys es)
 (ih:∀{x y:V} {d e:Da} {u v:Value},v9 X.K H n x d->v9 X.K H m y e->zk x u->zk y v->SeqAt.EqAt A.in1 s u v (Da.eq d e)):SeqAt.RcNeAt A s (.ref a) (.ref b) (!Da.eqs ds es):=by
 obtain⟨us,vx,tx,_⟩:=I.tuple sx;obtain⟨vs,vy,ty,_⟩:=I.tuple sy;have q:=SeqAt.RcNeAt.tuples tx ty hu (fD px py vx vy ih);rw[Am,Am,<-vx.length,<-vy.length,px.length,py.length,EJ] at q;exact q
theorem aah{a b:Addr}{ys:List V}{es:List Da}(I:qx X pins σ H s)(hu:A.units<cLine)(sx:wv X.K H a xs)(sy:wv X.K H b ys)(px:Paired (v9 X.K H n) xs ds)(py:Paired (v9 X.K H m) ys es)
 (ih:∀{x y:V} {d e:Da} {u v:Value},v9 X.K H n x d->v9 X.K H m y e->zk x u->zk y v->SeqAt.EqAt A.in1 s u v (Da.eq d e)):SeqAt.RcNeAt A s (.ref a) (.ref b) (!Da.eqs ds es):=by
 obtain⟨us,vx,tx,_⟩:=I.list sx;obtain⟨vs,vy,ty,_⟩:=I.list sy;by_cases hz:us.toArray.size=vs.toArray.size
 ·have q:=SeqAt.RcNeAt.lists (zo tx) (zo ty) hz hu (fD px py vx vy ih);have hz':ds.length=es.length:=by rw[<-px.length,<-py.length,vx.length,vy.length];simpa using hz
  have e:=EJ ds es;rw[hz',Nat.min_self] at e;rw[<-hz'] at e;rw[Am,<-vx.length,px.length] at q;simp only[beq_self_eq_true,DZ] at e;rw[e] at q;exact q
 ·have q:=SeqAt.RcNeAt.lists_lengths (zo tx) (zo ty) (by simpa using hz) hu;have hz':ds.length≠es.length:=by rw[<-px.length,<-py.length,vx.length,vy.length];intro z;exact hz (by simpa using z)
  have e:=EJ ds es;have f:(ds.length==es.length)=false:=by simpa using hz'
  rw[f,C2] at e;rw[<-e];exact q
end
section
def uNe(K:Ai)(k:Nat):R2:=fun x y H Q=>match x,y with
 |.ref a,.ref b=>∃n m d e,n≤k/\v9 K H n (.ref a) d/\v9 K H m (.ref b) e/\Q (.bl (!Da.eq d e)) H
 |x,y=>abc x y=true/\Q (.bl (!decide (x=y))) H
theorem ai4{k:Nat}(hu:X.A.units+k<cLine):kq X (compareOp .NotEq) (uNe X.K k):=by
 intro pins s σ H x y v u Q I rx ry h;cases x with
 |ref a=>
  cases y with
  |ref b=>
   obtain⟨n,m,d,e,hn,h1,h2,q⟩:=h;cases rx;cases ry;have x8:∀{k:Bool},k=(!Da.eq d e)->SeqAt.RcNeAt X.A s (.ref a) (.ref b) k->wpAny (model X.prog X.w) X.A (compareOp .NotEq (.ref a) (.ref b)) (EP X pins σ Q) X.xe s:=fun {k} e' r=>
    r X.prog X.w X.xe (EP X pins σ Q) (by rw[e'];exact⟨.bl _,H,I,rfl,q⟩)
   cases n with
   |zero=>exact(zv h1.2).elim
   |succ n=>
    cases m with
    |zero=>exact(zv h2.2).elim
    |succ m=>
     have hin:X.A.in1.units+n<cLine:=by show X.A.units+1+n<cLine;lia
     rcases h1 with⟨_,f⟩ | ⟨a',xs,ds,e1,rfl,sx,px⟩ | ⟨a',xs,ds,e1,rfl,sx,px⟩
     ·exact(zv f).elim
     ·cases e1;rcases h2 with⟨_,f⟩ | ⟨b',ys,es,e2,rfl,sy,py⟩ | ⟨b',ys,es,e2,rfl,sy,py⟩
      ·exact(zv f).elim
      ·cases e2;exact x8 rfl (vF I (by lia) sx sy px py fun h1 h2 r1 r2=>iY I n hin h1 h2 r1 r2)
      ·cases e2;obtain⟨us,vx,tx,_⟩:=I.tuple sx;obtain⟨vs,vy,ty,_⟩:=I.list sy;exact x8 rfl (.tuple_list tx (zo ty) (by lia))
     ·cases e1;rcases h2 with⟨_,f⟩ | ⟨b',ys,es,e2,rfl,sy,py⟩ | ⟨b',ys,es,e2,rfl,sy,py⟩
      ·exact(zv f).elim
      ·cases e2;obtain⟨us,vx,tx,_⟩:=I.list sx;obtain⟨vs,vy,ty,_⟩:=I.tuple sy;exact x8 rfl (.list_tuple (zo tx) ty (by lia))
      ·cases e2;exact x8 rfl (aah I (by lia) sx sy px py fun h1 h2 r1 r2=>iY I n hin h1 h2 r1 r2)
  |_=>exact aev pins s σ H _ _ v u Q I rx ry h
 |_=>cases y<;>exact aev pins s σ H _ _ v u Q I rx ry h
end
theorem zN:bootBuiltins "max" = some (.builtin "max"):=by decide +kernel
theorem acz:bootBuiltins "bool" = some (.type "bool"):=by decide +kernel
end L2
namespace Words
open PySem L2
def Wd.size:Wd->Nat
 |.leaf _ _=>1
 |.node _ l r=>1+l.size+r.size
theorem Wd.size_eq:∀w:Wd,w.size+1=2*w.leaves
 |.leaf _ _=>rfl
 |.node _ l r=>by have:=Wd.size_eq l;have:=Wd.size_eq r;show 1+l.size+r.size+1=2*(l.leaves+r.leaves);lia
end Words
namespace L2
open PySem PySem.Spec PyProof.Rows
section
variable {a:Addr}{tr:Option Addr}
end
section
variable {a b T:Addr}{tr:Option Addr}{E1:X1}
end
section
variable {k:Nat}{E1:X1}{t:TA}
end
section
variable {a T:Addr}{tr:Option Addr} 
end
section
variable {a T:Addr}
end
open PySem PySem.Spec PyProof.Rows PySem.W
open Builtin.ObjectAttr in
section
variable {w:World}{K:Frag}{a:Addr}
open Builtin Builtin.ObjectAttr Builtin.Getset_descriptor in
end
def aj3(K:Ai)(H:Hp)(a C:Addr):Prop:=∃oe,H a=some (.frz oe (.own 0))/\oe.cls=.ref C
def mv(H:Hp)(P:Addr)(q:Str):Prop:=∃ps,H P=some (.tbl ps)/\TriplesOk ps.toList/\∀pos cv,codeAmong pos ps.toList=some cv->∃c' oc vs t,cv=.ref c'/\H c'=some (.frz oc (.own 0))/\oc.data=.fields vs/\vs[1]?=some (.str q t)
theorem mv.keep{P:Addr}(h:mv H P q)(e:H' P=H P)(t:∀b o u,H b=some (.frz o u)->H' b=some (.frz o u)):mv H' P q:=by obtain⟨ps,h1,h2,h3⟩:=h;refine⟨ps,e.trans h1,h2,fun pos cv z=>?_⟩;obtain⟨c',oc,vs,tt,e1,e2,e3⟩:=h3 pos cv z;exact⟨c',oc,vs,tt,e1,t _ _ _ e2,e3⟩
end L2
namespace L3
open PySem L2
inductive Y where
 |non | bl (b:Bool) | int (i:Int) | str (x:Str) | ref (a:Addr) | ty (n:String) | cd (kvs:List (Str×Str)) | tup (ys:List Y) | sq (ys:List Y)
inductive LO where
 |lst (ys:List Y) | dct (kvs:List (j3×Y)) | ins (C:Addr) (fs:List (Str×Y)) | exc (C:Addr) | tb (q:Str)
abbrev ql:=Addr->Option LO
def qg(L:ql)(a:Addr)(o:LO):ql:=fun b=>if b=a then some o else L b
theorem q9{L:ql}{a:Addr}{o:LO}:qg L a o a=some o:=by unfold qg;rw[AB rfl]
theorem qb{L:ql}{a b:Addr}{o:LO}(h:b≠a):qg L a o b=L b:=by unfold qg;rw[Az h]
theorem jx{L:ql}{a:Addr}{o u:LO}:qg (qg L a o) a u=qg L a u:=by funext b;unfold qg;split<;>rfl
theorem w6{L:ql}{a b:Addr}{o:LO}(h:L a=some o)(h':L b=none):a≠b:=by intro e;subst e;rw[h] at h';cases h'
structure G3 where
 K:Ai
 P:Program
 w:World
abbrev _root_.L2.Cx.g3(X:Cx):G3:=⟨X.K,X.prog,X.w⟩
def SqF(K:Ai)(H:Hp)(a:Addr)(xs:List V):Prop:=(∃o,H a=some (.frz o (.lst xs)))\/
 ∃(o:Obj) (its:Array Value) (n:Nat),K.lookup a=some o/\o.cls=.type "list" /\ o.dict=none/\o.data=.seq its n/\its.size≤sizeLine/\ze xs its.toList
theorem SqF.sq{K:Ai}{a:Addr}(h:SqF K H a xs):wv K H a xs:=by
 rcases h with⟨o,h⟩ | h
 ·exact .inl (.inr ⟨o,h⟩)
 ·exact .inr h
mutual
def RV(G:G3)(H:Hp):Y->V->Prop
 |.non,v=>v=.non
 |.bl b,v=>v=.bl b
 |.int i,v=>v=.int i
 |.str x,v=>v=.str x
 |.ref a,v=>v=.ref a
 |.ty n,v=>v=.ty n
 |.cd kvs,v=>∃a,v=.ref a/\KD G.K G.P G.w a (kvs.map fun p=>(Sum.inr p.1,V.str p.2))
 |.tup ys,v=>∃a xs,v=.ref a/\cM G.K H a xs/\x6 G H ys xs
 |.sq ys,v=>∃a xs,v=.ref a/\SqF G.K H a xs/\x6 G H ys xs
def x6(G:G3)(H:Hp):List Y->List V->Prop
 |[],xs=>xs=[]
 |y::ys,xs=>∃x xs',xs=x::xs'/\RV G H y x/\x6 G H ys xs'
end
def Imm:HO->Bool
 |.tup _=>true
 |.frz _ _=>true
 |_=>false
def j7(H H':Hp):Prop:=∀a u,Imm u=true->H a=some u->H' a=some u
theorem j7.refl(H:Hp):j7 H H:=fun _ _ _ h=>h
abbrev EF:=@j7.refl
theorem j7.trans{H1 H2:Hp}(a:j7 H H1)(b:j7 H1 H2):j7 H H2:=fun c u i h=>b c u i (a c u i h)
theorem j7.new{p:Addr}{o:HO}(h:H p=none):j7 H (upd H p o):=fun _ _ _ q=>by rw[qr (zq q h)];exact q
abbrev EG:=@j7.new
theorem j7.lst{p:Addr}{o:HO}(h:H p=some (.lst zs)):j7 H (upd H p o):=fun a u i q=>by rw[qr ?_];exact q;rintro rfl;rw[h] at q;cases q;cases i
abbrev EM:=@j7.lst
theorem cM.ts{K:Ai}{a:Addr}(h:cM K H a xs)(t:j7 H H'):cM K H' a xs:=by
 rcases h with(h | ⟨o,h⟩) | h
 ·exact .inl (.inl (t _ _ rfl h))
 ·exact .inl (.inr ⟨o,t _ _ rfl h⟩)
 ·exact .inr h
theorem SqF.ts{K:Ai}{a:Addr}(h:SqF K H a xs)(t:j7 H H'):SqF K H' a xs:=by
 rcases h with⟨o,h⟩ | h
 ·exact .inl ⟨o,t _ _ rfl h⟩
 ·exact .inr h
mutual
theorem RV.ts{G:G3}{H H':Hp}(t:j7 H H'):∀{y:Y} {v:V},RV G H y v->RV G H' y v
 |.non,_,h=>h
 |.bl _,_,h=>h
 |.int _,_,h=>h
 |.str _,_,h=>h
 |.ref _,_,h=>h
 |.ty _,_,h=>h
 |.cd _,_,h=>h
 |.tup _,_,⟨a,xs,e,s,r⟩=>⟨a,xs,e,cM.ts s t,x6.ts t r⟩
 |.sq _,_,⟨a,xs,e,s,r⟩=>⟨a,xs,e,s.ts t,x6.ts t r⟩
theorem x6.ts{G:G3}{H H':Hp}(t:j7 H H'):∀{ys:List Y} {xs:List V},x6 G H ys xs->x6 G H' ys xs
 |[],_,h=>h
 |_::_,_,⟨x,xs',e,r,s⟩=>⟨x,xs',e,RV.ts t r,x6.ts t s⟩
end
theorem x6.length{G:G3}{H:Hp}:∀{ys:List Y} {xs:List V},x6 G H ys xs->ys.length=xs.length
 |[],_,h=>by cases h;rfl
 |_::_,_,⟨x,xs',e,_,s⟩=>by subst e;simp[x6.length s]
theorem x6.get{G:G3}{H:Hp}:∀{ys:List Y} {xs:List V} {i:Nat} {y:Y},x6 G H ys xs->ys[i]?=some y->∃x,xs[i]?=some x/\RV G H y x
 |[],_,_,_,_,h=>by simp at h
 |_::_,_,0,_,⟨x,xs',e,r,_⟩,h=>by subst e;simp at h;subst h;exact⟨x,rfl,r⟩
 |_::_,_,i+1,_,⟨x,xs',e,_,s⟩,h=>by subst e;obtain⟨x',q,r⟩:=x6.get (i:=i) s (by simpa using h);exact⟨x',by simpa using q,r⟩
theorem x6.app{G:G3}{H:Hp}:∀{ys zs:List Y} {xs us:List V},x6 G H ys xs->x6 G H zs us->x6 G H (ys++zs) (xs++us)
 |[],_,_,_,h,q=>by cases h;exact q
 |_::_,_,_,_,⟨x,xs',e,r,s⟩,q=>by subst e;exact⟨x,xs'++_,rfl,r,x6.app s q⟩
theorem x6.one{G:G3}{y:Y}{x:V}(r:RV G H y x):x6 G H [y] [x]:=⟨x,[],rfl,r,rfl⟩
theorem x6.take{G:G3}{H:Hp}:∀{ys:List Y} {xs:List V} (n:Nat),x6 G H ys xs->x6 G H (ys.take n) (xs.take n)
 |[],_,n,h=>by cases h;simp[x6]
 |_::_,_,0,_=>by simp[x6]
 |_::_,_,n+1,⟨x,xs',e,r,s⟩=>by subst e;exact⟨x,xs'.take n,rfl,r,x6.take n s⟩
theorem x6.drop{G:G3}{H:Hp}:∀{ys:List Y} {xs:List V} (n:Nat),x6 G H ys xs->x6 G H (ys.drop n) (xs.drop n)
 |[],_,n,h=>by cases h;simp[x6]
 |_::_,_,0,h=>h
 |_::_,_,n+1,⟨x,xs',e,r,s⟩=>by subst e;exact x6.drop n s
theorem x6.setY{G:G3}{H:Hp}{y:Y}{x:V}(r:RV G H y x):∀{ys:List Y} {xs:List V} (i:Nat),x6 G H ys xs->x6 G H (ys.set i y) (xs.set i x)
 |[],_,_,h=>by cases h;simp[x6]
 |_::_,_,0,⟨x',xs',e,_,s⟩=>by subst e;exact⟨x,xs',rfl,r,s⟩
 |_::_,_,i+1,⟨x',xs',e,q,s⟩=>by subst e;exact⟨x',xs'.set i x,rfl,q,x6.setY r i s⟩
theorem x6.dropLast{G:G3}{ys:List Y}(h:x6 G H ys xs):x6 G H ys.dropLast xs.dropLast:=by rw[List.dropLast_eq_take,List.dropLast_eq_take,h.length];exact h.take _
theorem x6.eraseIdx{G:G3}{H:Hp}:∀{ys:List Y} {xs:List V} (n:Nat),x6 G H ys xs->x6 G H (ys.eraseIdx n) (xs.eraseIdx n)
 |[],_,n,h=>by cases h;simp[x6]
 |_::_,_,0,⟨x,xs',e,r,s⟩=>by subst e;exact s
 |_::_,_,n+1,⟨x,xs',e,r,s⟩=>by subst e;exact⟨x,xs'.eraseIdx n,rfl,r,x6.eraseIdx n s⟩
def RO(G:G3)(H:Hp)(a:Addr):LO->Prop
 |.lst ys=>∃xs,H a=some (.lst xs)/\x6 G H ys xs
 |.dct kvs=>∃xs,H a=some (.dK xs)/\Paired (fun(p:j3×Y) (q:j3×V)=>p.1=q.1/\RV G H p.2 q.2) kvs xs
 |.ins C fs=>∃dx xs,H a=some (.ins C dx xs)/\Paired (fun(p:Str×Y) (q:Str×V)=>p.1=q.1/\RV G H p.2 q.2) fs xs
 |.exc C=>aj3 G.K H a C
 |.tb q=>mv H a q
def jf(G:G3)(H:Hp)(L:ql):Prop:=∀a o,L a=some o->RO G H a o
theorem RO.ex{G:G3}{a:Addr}:∀{o:LO},RO G H a o->∃u,H a=some u
 |.lst _,⟨_,h,_⟩=>⟨_,h⟩
 |.dct _,⟨_,h,_⟩=>⟨_,h⟩
 |.ins _ _,⟨_,_,h,_⟩=>⟨_,h⟩
 |.exc _,⟨_,h,_⟩=>⟨_,h⟩
 |.tb _,⟨_,h,_⟩=>⟨_,h⟩
theorem jf.none{G:G3}{L:ql}(h:jf G H L){p:Addr}(hp:H p=none):L p=none:=by cases e:L p with|none=>rfl|some o=>obtain⟨u,q⟩:=(h p o e).ex;rw[hp] at q;cases q
theorem RO.keep{G:G3}(t:j7 H H'){a:Addr}(e:H' a=H a):∀{o:LO},RO G H a o->RO G H' a o
 |.lst _,⟨xs,h,r⟩=>⟨xs,e.trans h,r.ts t⟩
 |.dct _,⟨xs,h,r⟩=>⟨xs,e.trans h,EI r fun _ _ ⟨a,b⟩=>⟨a,b.ts t⟩⟩
 |.ins _ _,⟨dx,xs,h,r⟩=>⟨dx,xs,e.trans h,EI r fun _ _ ⟨a,b⟩=>⟨a,b.ts t⟩⟩
 |.exc _,⟨o,h,c⟩=>⟨o,e.trans h,c⟩
 |.tb _,h=>mv.keep h e fun b o u z=>t b _ rfl z
theorem jf.skip{G:G3}{L:ql}(h:jf G H L){p:Addr}{o:HO}(hp:H p=.none):jf G (upd H p o) L:=fun a u e=>by obtain⟨x,q⟩:=(h a u e).ex;exact(h a u e).keep (EG hp) (qr (zq q hp))
theorem jf.newL{G:G3}{L:ql}(h:jf G H L){p:Addr}{ys:List Y}(hp:H p=.none)(r:x6 G H ys xs):jf G (upd H p (.lst xs)) (qg L p (.lst ys)):=fun a u e=>by
 by_cases c:a=p
 ·subst c;rw[q9] at e;cases e;exact⟨xs,j4,r.ts (EG hp)⟩
 ·rw[qb c] at e;exact(h a u e).keep (EG hp) (qr c)
theorem jf.setL{G:G3}{L:ql}(h:jf G H L){p:Addr}{ys:List Y}(hp:H p=some (.lst zs))(r:x6 G H ys xs):jf G (upd H p (.lst xs)) (qg L p (.lst ys)):=fun a u e=>by
 by_cases c:a=p
 ·subst c;rw[q9] at e;cases e;exact⟨xs,j4,r.ts (EM hp)⟩
 ·rw[qb c] at e;exact(h a u e).keep (EM hp) (qr c)
def qj(L L':ql):Prop:=∀a o,L a=some o->L' a=some o
theorem qj.refl(L:ql):qj L L:=fun _ _ h=>h
abbrev EE:=@qj.refl
theorem qj.trans{L L1 L2:ql}(a:qj L L1)(b:qj L1 L2):qj L L2:=fun c o h=>b c o (a c o h)
theorem qj.new{L:ql}{p:Addr}{o:LO}(h:L p=none):qj L (qg L p o):=fun a u e=>by rw[qb (w6 e h)];exact e
abbrev By:=@qj.new
theorem jf.sub{G:G3}{L L':ql}(h:jf G H L')(s:qj L L'):jf G H L:=fun a o e=>h a o (s a o e)
abbrev jn:=List (Option Y)
structure vv(G:G3)(H:Hp)(σ:St)(τ:jn):Prop where
 len:σ.length=τ.length
 get:∀(i:Nat) y,τ[i]?=some (some y)->∃v,σ[i]?=some (some v)/\RV G H y v
theorem vv.ts{G:G3}{τ:jn}(h:vv G H σ τ)(t:j7 H H'):vv G H' σ τ:=
 ⟨h.len,fun i y e=>let ⟨v,a,b⟩:=h.get i y e;⟨v,a,b.ts t⟩⟩
theorem vv.set{G:G3}{τ:jn}(h:vv G H σ τ){y:Y}(r:RV G H y v):vv G H (σ.set i (some v)) (τ.set i (some y)):=by
 refine⟨by simp[h.len],fun j z e=>?_⟩;by_cases c:i=j
 ·subst c;have hi:i<τ.length:=by
   by_cases q:i<τ.length
   ·exact q
   ·rw[BS (by simp;omega)] at e;cases e
  rw[BY hi] at e;cases e;exact⟨v,BY (by rw[h.len];exact hi),r⟩
 ·rw[BB c] at e ⊢;exact h.get j z e
theorem vv.more{G:G3}{τ:jn}(h:vv G H σ τ)(n:Nat):vv G H (σ++List.replicate n none) (τ++List.replicate n none):=by
 refine⟨by simp[h.len],fun j z e=>?_⟩;by_cases c:j<τ.length
 ·rw[AE c] at e;rw[AE (by rw[h.len];exact c)];exact h.get j z e
 ·rw[Au (by omega),CT] at e;split at e<;>cases e
def sL:jn->Nat->Option Y
 |[],_=>none
 |o::_,0=>o
 |_::r,i+1=>sL r i
theorem nW:∀(τ:jn) (i:Nat) {y:Y},sL τ i=some y->τ[i]?=some (some y)
 |[],_,_,h=>by cases h
 |o::_,0,_,h=>by simp[sL] at h;simp[h]
 |_::r,i+1,_,h=>by simp only[CU];exact nW r i h
abbrev YK:=Y->ql->Prop
abbrev xx:=jn->ql->YK->Prop
abbrev kG:=jn->ql->(Bool->ql->Prop)->Prop
abbrev eL:=jn->ql->(List Y->ql->Prop)->Prop
structure v4 where
 nx:jn->ql->Prop
 rt:YK
 bk:jn->ql->Prop:=fun _ _=>False
 ct:jn->ql->Prop:=fun _ _=>False
abbrev ww:=v4->jn->ql->Prop
abbrev iq:=Y->jn->ql->(jn->ql->Prop)->Prop
abbrev pM:=List Y->jn->ql->(jn->ql->Prop)->Prop
abbrev TI3:=jn->ql->(List Y->(ql->Prop)->ql->Prop)->Prop
abbrev qT:=Y->Y->ql->YK->Prop
def xG(G:G3)(H:Hp)(Q3:YK)(Q:VK):Prop:=∀v H' y L',j7 H H'->jf G H' L'->RV G H' y v->Q3 y L'->Q v H'
def acw(G:G3)(H:Hp)(Q3:Bool->ql->Prop)(Q:Bool->Hp->Prop):Prop:=∀b H' L',j7 H H'->jf G H' L'->Q3 b L'->Q b H'
def an9(G:G3)(H:Hp)(Q3:List Y->ql->Prop)(Q:List V->Hp->Prop):Prop:=∀vs H' ys L',j7 H H'->jf G H' L'->x6 G H' ys vs->Q3 ys L'->Q vs H'
def lZ(G:G3)(H:Hp)(Q3:jn->ql->Prop)(Q:St->Hp->Prop):Prop:=∀σ H' τ L',j7 H H'->vv G H' σ τ->jf G H' L'->Q3 τ L'->Q σ H'
theorem xG.ts{G:G3}{Q3:YK}{Q:VK}(h:xG G H Q3 Q)(t:j7 H H'):xG G H' Q3 Q:=fun v H2 y L' t2=>h v H2 y L' (t.trans t2)
theorem acw.ts{G:G3}{Q3:Bool->ql->Prop}{Q:Bool->Hp->Prop}(h:acw G H Q3 Q)(t:j7 H H'):acw G H' Q3 Q:=fun v H2 L' t2=>h v H2 L' (t.trans t2)
theorem lZ.ts{G:G3}{Q3:jn->ql->Prop}{Q:St->Hp->Prop}(h:lZ G H Q3 Q)(t:j7 H H'):lZ G H' Q3 Q:=fun v H2 y L' t2=>h v H2 y L' (t.trans t2)
structure ac0(G:G3)(H:Hp)(D3:v4)(D:sn):Prop where
 nx:lZ G H D3.nx D.nx
 rt:xG G H D3.rt D.rt
 bk:lZ G H D3.bk D.bk
 ct:lZ G H D3.ct D.ct
theorem ac0.ts{G:G3}{D3:v4}{D:sn}(h:ac0 G H D3 D)(t:j7 H H'):ac0 G H' D3 D:=⟨h.nx.ts t,h.rt.ts t,h.bk.ts t,h.ct.ts t⟩
def tO(G:G3)(t:xx):TE:=fun σ H Q=>∃τ L Q3,vv G H σ τ/\jf G H L/\t τ L Q3/\xG G H Q3 Q
def upT(G:G3)(t:kG):TT:=fun σ H Q=>∃τ L Q3,vv G H σ τ/\jf G H L/\t τ L Q3/\acw G H Q3 Q
def upA(G:G3)(t:eL):TA:=fun σ H Q=>∃τ L Q3,vv G H σ τ/\jf G H L/\t τ L Q3/\an9 G H Q3 Q
def upS(G:G3)(t:ww):L2.TS:=fun D σ H=>∃τ L D3,vv G H σ τ/\jf G H L/\t D3 τ L/\ac0 G H D3 D
def upG(G:G3)(g:iq):TG:=fun v σ H Q=>∃y τ L Q3,RV G H y v/\vv G H σ τ/\jf G H L/\g y τ L Q3/\lZ G H Q3 Q
def am2(G:G3)(g:pM):zM:=fun vs σ H Q=>∃ys τ L Q3,x6 G H ys vs/\vv G H σ τ/\jf G H L/\g ys τ L Q3/\lZ G H Q3 Q
structure gR(G:G3)(H₀:Hp)(J:It)(ys:List Y)(keep:ql->Prop):Prop where
 go:∀i H L,j7 H₀ H->jf G H L->keep L->i<ys.length->J.go i H
 yld:∀i H L x H' y,j7 H₀ H->jf G H L->keep L->ys[i]?=some y->J.yld i H x H'->j7 H H'/\jf G H' L/\RV G H' y x
 stop:∀H L,j7 H₀ H->jf G H L->keep L->J.stop ys.length H
def upI(G:G3)(wi:TI3):TI:=fun σ H R=>∃τ L R3,vv G H σ τ/\jf G H L/\wi τ L R3/\∀J H' ys keep L',j7 H H'->jf G H' L'->gR G H' J ys keep->R3 ys keep L'->R J H'
def fq(G:G3)(r3:qT):R2:=fun x y H Q=>∃x3 y3 L Q3,RV G H x3 x/\RV G H y3 y/\jf G H L/\r3 x3 y3 L Q3/\xG G H Q3 Q
def zV(G:G3)(r3:List Y->ql->YK->Prop):List V->Hp->VK->Prop:=fun xs H Q=>∃ys L Q3,x6 G H ys xs/\jf G H L/\r3 ys L Q3/\xG G H Q3 Q
def upU(G:G3)(r3:Y->ql->YK->Prop):V->Hp->VK->Prop:=fun x H Q=>∃y L Q3,RV G H y x/\jf G H L/\r3 y L Q3/\xG G H Q3 Q
theorem PE.imp{t u:TE}(h:PE X e t)(q:∀σ H Q,u σ H Q->t σ H Q):PE X e u:=fun pins s σ H Q I z=>h pins s σ H Q I (q σ H Q z)
abbrev EH:=@PE.imp
theorem PT.imp{t u:TT}(h:PT X e t)(q:∀σ H Q,u σ H Q->t σ H Q):PT X e u:=fun pins s σ H Q I z=>h pins s σ H Q I (q σ H Q z)
theorem PW.imp{t u:TT}(h:PW X e t)(q:∀σ H Q,u σ H Q->t σ H Q):PW X e u:=fun wh pins s σ H Q I z=>h wh pins s σ H Q I (q σ H Q z)
theorem PA.imp{e:List Expr}{t u:TA}(h:PA X e t)(q:∀σ H Q,u σ H Q->t σ H Q):PA X e u:=fun pos pins s σ H Q I z=>h pos pins s σ H Q I (q σ H Q z)
theorem PS.imp{e:Stmt}{t u:L2.TS}(h:PS X e t)(q:∀D σ H,u D σ H->t D σ H):PS X e u:=fun pins s σ H Q I z=>h pins s σ H Q I (q _ σ H z)
abbrev EK:=@PS.imp
theorem l6.imp{e:List Stmt}{t u:L2.TS}(h:l6 X e t)(q:∀D σ H,u D σ H->t D σ H):l6 X e u:=fun pins s σ H Q I z=>h pins s σ H Q I (q _ σ H z)
theorem PF.imp{e:List Expr}{t u:TT}(h:PF X e t)(q:∀σ H Q,u σ H Q->t σ H Q):PF X e u:=fun pins s σ H Q I z=>h pins s σ H Q I (q σ H Q z)
end L3
variable {g:L3.iq}{y:L3.Y}{D:L3.v4}{tb te ti to:L3.xx}{kvs:List (L2.j3×L3.Y)}{ys:List L3.Y}{L L' L0 L1:L3.ql}{G:L3.G3}{τ:L3.jn}{gs:L3.pM}{tr:L3.eL}{tA:L3.kG}
namespace L3
open PySem L2
def aE(b:Bool)(A B:Prop):Prop:=match b with
 |true=>A
 |false=>B
theorem aci{b:Bool}{A B:Prop}(h:b=true->A)(k:b=false->B):aE b A B:=by cases b with|true=>exact h rfl|false=>exact k rfl
theorem gM{b:Bool}{A B:Prop}(e:b=true)(h:A):aE b A B:=by rw[e];exact h
theorem xj{b:Bool}{A B:Prop}(e:b=false)(h:B):aE b A B:=by rw[e];exact h
theorem x5{p:Prop} [Decidable p]{A B:Prop}(h:p->A)(k:¬p->B):aE (decide p) A B:=by
 by_cases c:p
 ·rw[AH c];exact h c
 ·rw[Ax c];exact k c
def nb(neg b:Bool):Bool:=match neg with
 |true=>!b
 |false=>b
def qc(i:Nat)(τ:jn)(L:ql)(Q:YK):Prop:=match sL τ i with
 |some y=>Q y L
 |none=>False
def yC(y:Y)(_:jn)(L:ql)(Q:YK):Prop:=Q y L
def zm(r:qT)(ta tb:xx)(τ:jn)(L:ql)(Q:YK):Prop:=ta τ L fun x L1=>tb τ L1 fun y L2=>r x y L2 Q
def yUn(r:Y->ql->YK->Prop)(ta:xx)(τ:jn)(L:ql)(Q:YK):Prop:=ta τ L fun x L1=>r x L1 Q
def yI(C:Int->Int->Prop)(g:Int->Int->Y)(x y:Y)(L:ql)(Q:YK):Prop:=match x,y with
 |.int i,.int j=>C i j/\Q (g i j) L
 |_,_=>False
def yL(g:Int->Int->Y)(x y:Y)(L:ql)(Q:YK):Prop:=match x,y with
 |.int i,.int j=>Q (g i j) L
 |_,_=>False
def agn(x:Y)(L:ql)(Q:YK):Prop:=match x with
 |.int i=>Q (.int (-i)) L
 |_=>False
def bL(L:ql):Y->Option (List Y)
 |.tup ys=>some ys
 |.sq ys=>some ys
 |.ref a=>match L a with
  |some (.lst ys)=>some ys
  |_=>none
 |_=>none
@[irreducible] def bE (L:ql) (a:Addr) (k:List Y->Prop):Prop:=match L a with
 |some (.lst ys)=>k ys
 |_=>False
theorem jy{a:Addr}{k:List Y->Prop}(h:bE L a k):∃ys,L a=some (.lst ys)/\k ys:=by
 unfold bE at h;split at h
 ·rename_i ys e;exact⟨ys,e,h⟩
 ·exact h.elim
theorem qw{a:Addr}{k:List Y->Prop}(e:L a=some (.lst ys))(h:k ys):bE L a k:=by unfold bE;rw[e];exact h
def dm(L:ql)(x:Y)(k:List Y->Prop):Prop:=match x with
 |.tup ys=>k ys
 |.sq ys=>k ys
 |.ref a=>bE L a k
 |_=>False
theorem w4{a:Addr}(h:L a=some (.lst ys)):bL L (.ref a)=some ys:=by show(match L a with | some (.lst ys)=>some ys | _=>none)=some ys;rw[h]
theorem vo{x:Y}{k:List Y->Prop}(h:dm L x k):∃ys,bL L x=some ys/\k ys:=by
 cases x with
 |tup ys=>exact⟨ys,rfl,h⟩
 |sq ys=>exact⟨ys,rfl,h⟩
 |ref a=>obtain⟨ys,e,q⟩:=jy h;exact⟨ys,w4 e,q⟩
 |_=>exact h.elim
theorem gW{a:Addr}(h:bL L (.ref a)=some ys):L a=some (.lst ys):=by
 have h':(match L a with | some (.lst ys)=>some ys | _=>none)=some ys:=h;split at h'
 ·rename_i e;cases h';exact e
 ·cases h'
theorem acu{x:Y}{k:List Y->Prop}(e:bL L x=some ys)(h:k ys):dm L x k:=by cases x with|tup zs=>cases e;exact h|sq zs=>cases e;exact h|ref a=>exact qw (gW e) h|_=>cases e
theorem qd{a:Addr}{k:List Y->Prop}(e:L a=some (.lst ys))(h:k ys):dm L (.ref a) k:=acu (w4 e) h
def w5(x y:Y)(L:ql)(Q:YK):Prop:=match x,y with
 |.int i,.int j=>Q (.int (i+j)) L
 |.str a,.str b=>a.length+b.length≤sizeLine/\Q (.str (a++b)) L
 |.ref a,.ref b=>∃ys zs,L a=some (.lst ys)/\L b=some (.lst zs)/\ys.length+zs.length≤sizeLine/\∀p,L p=none->Q (.ref p) (qg L p (.lst (ys++zs)))
 |_,_=>False
def tR(L:ql)(Q:α->ql->Prop):Option α->Prop
 |some v=>Q v L
 |none=>False
def xm(kvs:List (j3×Y))(k:j3):Option Y:=(kvs.find? fun p=>decide (p.1=k)).map (·.2)
@[irreducible] def l7 (L:ql) (a:Addr) (k:List (j3×Y)->Prop):Prop:=match L a with
 |some (.dct kvs)=>k kvs
 |_=>False
theorem dF{a:Addr}{k:List (j3×Y)->Prop}(h:l7 L a k):∃kvs,L a=some (.dct kvs)/\k kvs:=by
 unfold l7 at h;split at h
 ·rename_i ys e;exact⟨ys,e,h⟩
 ·exact h.elim
theorem zn{a:Addr}{k:List (j3×Y)->Prop}(e:L a=some (.dct kvs))(h:k kvs):l7 L a k:=by unfold l7;rw[e];exact h
def cX(x y:Y)(L:ql)(Q:YK):Prop:=match x,y with
 |.str z,.int i=>z.length≤sizeLine/\tR L (fun c L=>Q (.str ⟨#[c]⟩) L) (fg z.cps.toList i)
 |.cd kvs,.str k=>tR L (fun s L=>Q (.str s) L) (kvs.lookup k)
 |.ref a,.str k=>l7 L a fun kvs=>tR L Q (xm kvs (.inr k))
 |x,.int i=>dm L x fun ys=>tR L Q (fg ys i)
 |_,_=>False
def dy(xs:List Y)(L:ql)(Q:YK):Prop:=match xs with
 |[.str z]=>z.length≤sizeLine/\Q (.int z.length) L
 |[x]=>dm L x fun ys=>Q (.int ys.length) L
 |_=>False
def ae1(xs:List Y)(L:ql)(Q:YK):Prop:=match xs with
 |[.int i,.int j]=>Q (.int (max i j)) L
 |_=>False
def ag3(xs:List Y)(L:ql)(Q:YK):Prop:=match xs with
 |[.int i,.int j]=>Q (.int (min i j)) L
 |_=>False
inductive oV where
 |non | bool | int | str | tuple | list | dict
def oV.nm:oV->String
 |.non => "NoneType"
 |.bool => "bool"
 |.int => "int"
 |.str => "str"
 |.tuple => "tuple"
 |.list => "list"
 |.dict => "dict"
def tyY(L:ql):Y->Option oV
 |.non=>some .non
 |.bl _=>some .bool
 |.int _=>some .int
 |.str _=>some .str
 |.tup _=>some .tuple
 |.sq _=>some .list
 |.ref a=>match L a with
  |some (.lst _)=>some .list
  |some (.dct _)=>some .dict
  |_=>none
 |_=>none
theorem tyL{a:Addr}(h:L a=some (.lst ys)):tyY L (.ref a)=some .list:=by show(match L a with | some (.lst _)=>some oV.list | some (.dct _)=>some .dict | _=>none)=some .list;rw[h]
def aa6:oV->oV->Bool
 |.bool,.int=>true
 |.bool,.bool=>true
 |.int,.int=>true
 |.str,.str=>true
 |.tuple,.tuple=>true
 |.list,.list=>true
 |.dict,.dict=>true
 |.non,.non=>true
 |_,_=>false
@[irreducible] def tyK (L:ql) (a:Addr) (k:oV->Prop):Prop:=match tyY L (.ref a) with
 |some T=>k T
 |none=>False
theorem ad9{a:Addr}{k:oV->Prop}(h:tyK L a k):∃T,tyY L (.ref a)=some T/\k T:=by
 unfold tyK at h;split at h
 ·rename_i T e;exact⟨T,e,h⟩
 ·exact h.elim
theorem uF{a:Addr}{k:oV->Prop}(e:L a=some (.lst ys))(h:k .list):tyK L a k:=by unfold tyK;rw[tyL e];exact h
def ais(L:ql)(x:Y)(k:oV->Prop):Prop:=match x with
 |.non=>k .non
 |.bl _=>k .bool
 |.int _=>k .int
 |.str _=>k .str
 |.tup _=>k .tuple
 |.sq _=>k .list
 |.ref a=>tyK L a k
 |_=>False
theorem zD{x:Y}{k:oV->Prop}(h:ais L x k):∃T,tyY L x=some T/\k T:=by cases x with|ref a=>exact ad9 h|ty n=>exact h.elim|cd k=>exact h.elim|_=>exact⟨_,rfl,h⟩
def eO(S:oV)(te:xx)(τ:jn)(L:ql)(Q:YK):Prop:=te τ L fun x L1=>ais L1 x fun T=>Q (.bl (aa6 T S)) L1
def gv:Y->Bool
 |.non=>true
 |.bl _=>true
 |.int _=>true
 |.str _=>true
 |_=>false
def fS:Y->V
 |.non=>.non
 |.bl b=>.bl b
 |.int i=>.int i
 |.str x=>.str x
 |_=>.ty "?"
theorem RV.flat :∀{y:Y} {v:V},gv y=true->RV G H y v->v=fS y
 |.non,_,_,h=>h
 |.bl _,_,_,h=>h
 |.int _,_,_,h=>h
 |.str _,_,_,h=>h
theorem fW:∀{y:Y},gv y=true->aO (fS y)=true
 |.non,_=>rfl
 |.bl _,_=>rfl
 |.int _,_=>rfl
 |.str _,_=>rfl
theorem x6.flat :∀{ys:List Y} {xs:List V},ys.all gv=true->x6 G H ys xs->xs=ys.map fS
 |[],_,_,h=>h
 |y::ys,_,f,⟨x,xs',e,r,s⟩=>by rw[DD,Bc] at f;rw[e,r.flat f.1,s.flat f.2];rfl
def ow:Y->Bool
 |.ref _=>true
 |.sq _=>true
 |_=>false
def jc(L:ql):Nat->Y->Da->Prop
 |0,y,d=>gv y=true/\d=.s (fS y)
 |n+1,y,d=>(gv y=true/\d=.s (fS y))\/(∃ys ds,y=.tup ys/\d=.tup ds/\Paired (jc L n) ys ds)\/(∃ys ds,ow y=true/\d=.lst ds/\bL L y=some ys/\Paired (jc L n) ys ds)
def ut:Y->Bool
 |.ref _=>true
 |.tup _=>true
 |.sq _=>true
 |_=>false
def t7(neg:Bool)(x y:Y)(L:ql)(Q:YK):Prop:=match x,y with
 |.int i,.int j=>Q (.bl (nb neg (decide (i=j)))) L
 |.str i,.str j=>Q (.bl (nb neg (decide (i=j)))) L
 |.bl i,.bl j=>Q (.bl (nb neg (decide (i=j)))) L
 |x,y=>ut x=true/\ut y=true/\∃n m d e,n≤128/\jc L n x d/\jc L m y e/\Q (.bl (nb neg (Da.eq d e))) L
def dr(neg:Bool)(ta:xx)(τ:jn)(L:ql)(Q:YK):Prop:=ta τ L fun x L1=>match x with
 |.non=>Q (.bl (!neg)) L1
 |_=>Q (.bl neg) L1
def yB(t:xx)(τ:jn)(L:ql)(Q:Bool->ql->Prop):Prop:=t τ L fun x L1=>match x with
 |.bl c=>Q c L1
 |_=>False
def l8(t u:kG)(τ:jn)(L:ql)(Q:Bool->ql->Prop):Prop:=t τ L fun c L1=>aE c (u τ L1 Q) (Q false L1)
def lV(t u:kG)(τ:jn)(L:ql)(Q:Bool->ql->Prop):Prop:=t τ L fun c L1=>aE c (Q true L1) (u τ L1 Q)
def gG(t:kG)(τ:jn)(L:ql)(Q:Bool->ql->Prop):Prop:=t τ L fun c L1=>Q (!c) L1
def af0(ta tb:xx)(τ:jn)(L:ql)(Q:YK):Prop:=ta τ L fun x L1=>match x with
 |.bl c=>aE c (tb τ L1 Q) (Q (.bl false) L1)
 |_=>False
def yIf(t:kG)(ta tb:xx)(τ:jn)(L:ql)(Q:YK):Prop:=t τ L fun c L1=>aE c (ta τ L1 Q) (tb τ L1 Q)
def z0(_:jn)(L:ql)(Q:List Y->ql->Prop):Prop:=Q [] L
def qe(ta:xx)(tr:eL)(τ:jn)(L:ql)(Q:List Y->ql->Prop):Prop:=ta τ L fun x L1=>tr τ L1 fun xs L2=>Q (x::xs) L2
def wf(t:eL)(τ:jn)(L:ql)(Q:YK):Prop:=t τ L fun ys L1=>match Nat.ble ys.length 1000 with
 |true=>Q (.tup ys) L1
 |false=>False
def v5(t:eL)(τ:jn)(L:ql)(Q:YK):Prop:=t τ L fun ys L1=>match Nat.ble ys.length 1000 with
 |true=>∀p,L1 p=none->Q (.ref p) (qg L1 p (.lst ys))
 |false=>False
def eM(r:List Y->ql->YK->Prop)(t:eL)(τ:jn)(L:ql)(Q:YK):Prop:=t τ L fun vs L1=>r vs L1 Q
abbrev TO3:=jn->ql->(Option Int->ql->Prop)->Prop
def al(_:jn)(L:ql)(Q:Option Int->ql->Prop):Prop:=Q none L
def cV(t:xx)(τ:jn)(L:ql)(Q:Option Int->ql->Prop):Prop:=t τ L fun x L1=>match x with
 |.int i=>Q (some i) L1
 |_=>False
def lQ(xs:List Y)(lo hi:Option Int):List Y:=(xs.drop (HT.sIx xs.length 0 lo)).take (HT.sIx xs.length xs.length hi - HT.sIx xs.length 0 lo)
def akf(x:Y)(lo hi:Option Int)(L:ql)(Q:YK):Prop:=match x with
 |.ref a=>bE L a fun ys=>∀p,L p=none->Q (.ref p) (qg L p (.lst (lQ ys lo hi)))
 |.sq ys=>∀p,L p=none->Q (.ref p) (qg L p (.lst (lQ ys lo hi)))
 |_=>False
def ySl(r:Y->Option Int->Option Int->ql->YK->Prop)(te:xx)(tl th:TO3)(τ:jn)(L:ql)(Q:YK):Prop:=te τ L fun x L1=>tl τ L1 fun l L2=>th τ L2 fun u L3=>r x l u L3 Q
def qt(t u:ww)(D:v4)(τ:jn)(L:ql):Prop:=t { D with nx:=u D } τ L
def jp(D:v4)(τ:jn)(L:ql):Prop:=D.nx τ L
def ae9(D:v4)(τ:jn)(L:ql):Prop:=D.ct τ L
def js(te:xx)(D:v4)(τ:jn)(L:ql):Prop:=te τ L fun _ L1=>D.nx τ L1
def jm(te:xx)(D:v4)(τ:jn)(L:ql):Prop:=te τ L D.rt
def yD(D:v4)(_:jn)(L:ql):Prop:=D.rt .non L
def xf(c:kG)(t u:ww)(D:v4)(τ:jn)(L:ql):Prop:=c τ L fun b L1=>aE b (t D τ L1) (u D τ L1)
def j5(te:xx)(g:iq)(D:v4)(τ:jn)(L:ql):Prop:=te τ L fun x L1=>g x τ L1 D.nx
def fV:jn->Nat->Y->jn
 |[],_,_=>[]
 |_::r,0,y=>some y::r
 |o::r,i+1,y=>o::fV r i y
theorem cG:∀(τ:jn) (i:Nat) (y:Y),fV τ i y=τ.set i (some y)
 |[],_,_=>rfl
 |_::_,0,_=>rfl
 |o::r,i+1,y=>by rw[fV,cG r i y];rfl
def qh(i:Nat)(y:Y)(τ:jn)(L:ql)(Q:jn->ql->Prop):Prop:=Q (fV τ i y) L
def bN(ys:List Y)(τ:jn)(L:ql)(Q:jn->ql->Prop):Prop:=match ys with
 |[]=>Q τ L
 |_=>False
def jg(t:iq)(u:pM)(ys:List Y)(τ:jn)(L:ql)(Q:jn->ql->Prop):Prop:=match ys with
 |[]=>False
 |y::r=>t y τ L fun τ' L'=>u r τ' L' Q
def cT(n:Nat)(t:pM)(y:Y)(τ:jn)(L:ql)(Q:jn->ql->Prop):Prop:=match y with
 |.tup ys=>match ys.length==n with
  |true=>t ys τ L Q
  |false=>False
 |_=>False
def afp(i j:Nat)(ta:eL)(D:v4)(τ:jn)(L:ql):Prop:=ta τ L fun vs L1=>match vs with
 |[v,w]=>D.nx (fV (fV τ i v) j w) L1
 |_=>False
def bX(W:α->ql->Prop)(x:α)(L:ql):Prop:=∃L',qj L' L/\W x L'
theorem frg{W:α->ql->Prop}{x:α}(h:W x L):bX W x L:=⟨L,EE L,h⟩
def mf(c:kG)(tb:ww)(D:v4)(τ:jn)(L:ql):Prop:=∃W:Nat->jn->ql->Prop,(∃m,W m τ L)/\∀m τ L,W m τ L->
 c τ L fun b L1=>aE b (∃N:jn->ql->Prop,(∀τ' L',N τ' L'->∃m',m'<m/\W m' τ' L')/\tb { D with nx:=bX N,ct:=bX N,bk:=D.nx } τ L1) (D.nx τ L1)
@[irreducible] def pX (ys:List Y) (keep:ql->Prop) (g:iq) (tb:ww) (D:v4) (τ:jn) (L1:ql):Prop:=∃W:Nat->jn->ql->Prop,W 0 τ L1/\(∀i τ L,W i τ L->keep L)/\
 (∀i y τ L,ys[i]?=some y->W i τ L->g y τ L fun τ2 L2=>tb { D with nx:=bX (W (i+1)),ct:=bX (W (i+1)),bk:=D.nx } τ2 L2)/\∀τ L,W ys.length τ L->D.nx τ L
theorem vf{keep:ql->Prop}{tb:ww}(h:∃W:Nat->jn->ql->Prop,W 0 τ L1/\(∀i τ L,W i τ L->keep L)/\
 (∀i y τ L,ys[i]?=some y->W i τ L->g y τ L fun τ2 L2=>tb { D with nx:=bX (W (i+1)),ct:=bX (W (i+1)),bk:=D.nx } τ2 L2)/\∀τ L,W ys.length τ L->D.nx τ L):pX ys keep g tb D τ L1:=by unfold pX;exact h
theorem zT{keep:ql->Prop}{tb:ww}(h:pX ys keep g tb D τ L1):∃W:Nat->jn->ql->Prop,W 0 τ L1/\(∀i τ L,W i τ L->keep L)/\
 (∀i y τ L,ys[i]?=some y->W i τ L->g y τ L fun τ2 L2=>tb { D with nx:=bX (W (i+1)),ct:=bX (W (i+1)),bk:=D.nx } τ2 L2)/\∀τ L,W ys.length τ L->D.nx τ L:=by unfold pX at h;exact h
def eI(wi:TI3)(g:iq)(tb:ww)(D:v4)(τ:jn)(L:ql):Prop:=wi τ L fun ys keep L1=>pX ys keep g tb D τ L1
@[irreducible] def om (L:ql) (a:Addr) (R:List Y->(ql->Prop)->ql->Prop):Prop:=match L a with
 |some (.lst ys)=>R ys (fun L=>L a=some (.lst ys)) L
 |_=>False
theorem xo{a:Addr}{R:List Y->(ql->Prop)->ql->Prop}(h:L a=some (.lst ys))(q:∀keep:ql->Prop,(∀L',L' a=L a->keep L')->R ys keep L):om L a R:=by unfold om;rw[h];exact q _ fun L' e'=>e'.trans h
theorem pW{a:Addr}{R:List Y->(ql->Prop)->ql->Prop}(h:om L a R):∃ys keep,bL L (.ref a)=some ys/\keep L/\(∀L',keep L'->bL L' (.ref a)=some ys)/\R ys keep L:=by
 unfold om at h;split at h
 ·rename_i ys e;exact⟨ys,_,w4 e,e,fun L' e'=>w4 e',h⟩
 ·exact h.elim
def k7(tl:xx)(τ:jn)(L:ql)(R:List Y->(ql->Prop)->ql->Prop):Prop:=tl τ L fun x L1=>match x with
 |.ref a=>om L1 a R
 |.sq ys=>R ys (fun _=>True) L1
 |_=>False
def tU(tl:xx)(τ:jn)(L:ql)(R:List Y->(ql->Prop)->ql->Prop):Prop:=tl τ L fun x L1=>match x with
 |.tup ys=>R ys (fun _=>True) L1
 |_=>False
def wx(lo:Int)(n:Nat):List Y:=(List.range n).map fun k=>.int (lo+(k:Nat))
def dq(ta:eL)(τ:jn)(L:ql)(R:List Y->(ql->Prop)->ql->Prop):Prop:=ta τ L fun vs L1=>match vs with
 |[.int j]=>(-(2 ^ 62)≤j/\j<2 ^ 62)/\R (wx 0 j.toNat) (fun _=>True) L1
 |_=>False
def xW(_:jn)(L:ql)(Q:Bool->ql->Prop):Prop:=Q true L
@[irreducible] def lcK (ys:List Y) (keep:ql->Prop) (n:Nat) (g:iq) (tc:kG) (te:xx) (τ:jn) (L1:ql) (Q:YK):Prop:=ys.length<sizeLine/\∃W:Nat->List Y->ql->Prop,W 0 [] L1/\(∀i zs L,W i zs L->keep L)/\
 (∀i y zs L,ys[i]?=some y->W i zs L->g y (τ++List.replicate n none) L fun τ2 L2=>tc τ2 L2 fun b L3=>aE b (te τ2 L3 fun z L4=>bX (W (i+1)) (zs++[z]) L4) (bX (W (i+1)) zs L3))/\
 ∀zs L,W ys.length zs L->∀p,L p=none->Q (.ref p) (qg L p (.lst zs))
theorem aa5{keep:ql->Prop}{tc:kG}{Q:YK}(h:ys.length<sizeLine/\∃W:Nat->List Y->ql->Prop,W 0 [] L1/\(∀i zs L,W i zs L->keep L)/\
 (∀i y zs L,ys[i]?=some y->W i zs L->g y (τ++List.replicate n none) L fun τ2 L2=>tc τ2 L2 fun b L3=>aE b (te τ2 L3 fun z L4=>bX (W (i+1)) (zs++[z]) L4) (bX (W (i+1)) zs L3))/\
 ∀zs L,W ys.length zs L->∀p,L p=none->Q (.ref p) (qg L p (.lst zs))):lcK ys keep n g tc te τ L1 Q:=by unfold lcK;exact h
theorem abd{keep:ql->Prop}{tc:kG}{Q:YK}(h:lcK ys keep n g tc te τ L1 Q):ys.length<sizeLine/\∃W:Nat->List Y->ql->Prop,W 0 [] L1/\(∀i zs L,W i zs L->keep L)/\
 (∀i y zs L,ys[i]?=some y->W i zs L->g y (τ++List.replicate n none) L fun τ2 L2=>tc τ2 L2 fun b L3=>aE b (te τ2 L3 fun z L4=>bX (W (i+1)) (zs++[z]) L4) (bX (W (i+1)) zs L3))/\
 ∀zs L,W ys.length zs L->∀p,L p=none->Q (.ref p) (qg L p (.lst zs)):=by unfold lcK at h;exact h
def rS(n:Nat)(wi:TI3)(g:iq)(tc:kG)(te:xx)(τ:jn)(L:ql)(Q:YK):Prop:=wi τ L fun ys keep L1=>lcK ys keep n g tc te τ L1 Q
abbrev x0:=List Y->ql->YK->Prop
def za(sp:x0)(t:eL)(τ:jn)(L:ql)(Q:YK):Prop:=t τ L fun ys L1=>sp ys L1 Q
def j8(x:Y)(vs:List Y)(L:ql)(Q:YK):Prop:=match x,vs with
 |.ref a,[v]=>bE L a fun ys=>ys.length<sizeLine/\Q .non (qg L a (.lst (ys++[v])))
 |_,_=>False
def dJ(x:Y)(vs:List Y)(L:ql)(Q:YK):Prop:=match x,vs with
 |.ref a,[.ref b]=>bE L a fun ys=>bE L b fun zs=>ys.length+zs.length≤sizeLine/\Q .non (qg L a (.lst (ys++zs)))
 |_,_=>False
def yg(x:Y)(vs:List Y)(L:ql)(Q:YK):Prop:=match x,vs with
 |.ref a,[]=>bE L a fun ys=>tR L (fun v L=>Q v (qg L a (.lst ys.dropLast))) (ys[ys.length - 1]?)
 |_,_=>False
section
theorem kq.imp{f:Value->Value->Sem Value}{r r':R2}(h:kq X f r)(q:∀x y H Q,r' x y H Q->r x y H Q):kq X f r':=fun pins s σ H x y v u Q I rx ry z=>h pins s σ H x y v u Q I rx ry (q x y H Q z)
abbrev EX:=@kq.imp
theorem UnR.imp{f:Value->Sem Value}{r r':V->Hp->VK->Prop}(h:UnR X f r)(q:∀x H Q,r' x H Q->r x H Q):UnR X f r':=fun pins s σ H x v Q I rx z=>h pins s σ H x v Q I rx (q x H Q z)
theorem jk.imp{f:Value}{r r':List V->Hp->VK->Prop}(h:jk X f r)(q:∀x H Q,r' x H Q->r x H Q):jk X f r':=fun pins s σ H x v Q I rx z=>h pins s σ H x v Q I rx (q x H Q z)
abbrev EU:=@jk.imp
theorem xS.imp{r r':R2}(h:xS X r)(q:∀x y H Q,r' x y H Q->r x y H Q):xS X r':=fun value slice pins s σ H x y v u Q I rx ry z=>h value slice pins s σ H x y v u Q I rx ry (q x y H Q z)
theorem hX.imp{id:String}{r r':V->List V->Hp->VK->Prop}(h:hX X id r)(q:∀x xs H Q,r' x xs H Q->r x xs H Q):hX X id r':=fun pins s σ H x xs v us Q I rx ry z=>h pins s σ H x xs v us Q I rx ry (q x xs H Q z)
theorem oG(rl:jf G H L)(r:RV G H y v)(h:bL L y=some ys):∃p xs,v=.ref p/\(wv G.K H p xs\/cM G.K H p xs)/\x6 G H ys xs:=by
 cases y with
 |tup zs=>
  obtain⟨a,xs,e,s,q⟩:=r;cases h;exact⟨a,xs,e,.inr s,q⟩
 |sq zs=>
  obtain⟨a,xs,e,s,q⟩:=r;cases h;exact⟨a,xs,e,.inl s.sq,q⟩
 |ref a=>
  cases (show v=.ref a from r);have h':(match L a with | some (.lst ys)=>some ys | _=>none)=some ys:=h;split at h'
  ·rename_i zs e;cases h';obtain⟨xs,e2,q⟩:=rl a _ e;exact⟨a,xs,rfl,.inl (EW e2),q⟩
  ·cases h'
 |_=>cases h
theorem ai7{i:Int}(s:x6 G H ys xs)(h:fg ys i=some y):∃x,fg xs i=some x/\RV G H y x:=by
 unfold fg at h ⊢;rw[<-s.length];cases e:ixN ys.length i with
 |none=>rw[e] at h;cases h
 |some j=>
  rw[e] at h;exact s.get (i:=j) h
end
section
variable {a b:Expr}{ta tc:xx} 
abbrev QE(X:Cx)(e:Expr)(t:xx):Prop:=PE X e (tO X.g3 t)
abbrev QT(X:Cx)(e:Expr)(t:kG):Prop:=PT X e (upT X.g3 t)
abbrev QW(X:Cx)(e:Expr)(t:kG):Prop:=PW X e (upT X.g3 t)
abbrev QA(X:Cx)(es:List Expr)(t:eL):Prop:=PA X es (upA X.g3 t)
abbrev QS(X:Cx)(st:Stmt)(t:ww):Prop:=PS X st (upS X.g3 t)
abbrev rQ(X:Cx)(st:List Stmt)(t:ww):Prop:=l6 X st (upS X.g3 t)
abbrev QG(X:Cx)(e:Expr)(g:iq):Prop:=PG X e (upG X.g3 g)
abbrev QGs(X:Cx)(es:List Expr)(g:pM):Prop:=PGs X es (am2 X.g3 g)
abbrev QI(X:Cx)(tg it:Expr)(w:TI3):Prop:=PI X tg it (upI X.g3 w)
abbrev QF(X:Cx)(es:List Expr)(t:kG):Prop:=PF X es (upT X.g3 t)
theorem QE.of_var(h:PE X e (agb i)):QE X e (qc i):=EH h fun σ H Q ⟨τ,L,Q3,rs,rl,z,k⟩=>by
 unfold qc at z;split at z
 ·rename_i y ey;obtain⟨v,ev,rv⟩:=rs.get i y (nW _ _ ey);exact⟨v,ev,k v H y L (EF _) rl rv z⟩
 ·exact z.elim
theorem QE.of_c(h:PE X e (tC v))(q:∀H,RV X.g3 H y v):QE X e (yC y):=EH h fun σ H Q ⟨τ,L,Q3,rs,rl,z,k⟩=>k v H y L (EF _) rl (q H) z
theorem qv(i:Nat)(hN:X.N[i]?=some x:=by rfl)(hv:Vis X.env.scope x:=by first | exact Or.inl rfl | exact Or.inr (Or.inl rfl) | exact Or.inr (Or.inr rfl))(hd:Ef x:=by decide)
 (hcd:Eg x:=by decide):QE X (.Name x pos) (qc i):=QE.of_var (pv i hN hv hd hcd)
theorem oE :QE X (.Constant .none j pos) (yC .non):=QE.of_c aho fun _=>rfl
theorem xu{b:Bool} :QE X (.Constant (.bool b) j pos) (yC (.bl b)):=QE.of_c ak7 fun _=>rfl
theorem qi{i:Int} :QE X (.Constant (.int i) j pos) (yC (.int i)):=QE.of_c agw fun _=>rfl
theorem j9 :QE X (.Constant (.str x) j pos) (yC (.str x)):=QE.of_c bw fun _=>rfl
theorem aj1{c:Addr}(hg:Gl X x)(hm:X.mg x=some (.ref c))(q:∀H,RV X.g3 H y (.ref c))(hd:Ef x:=by decide):QE X (.Name x pos) (yC y):=QE.of_c (aih hg hm hd) q
theorem tN{r:qT}{ta:xx}(σ:St)(H:Hp)(Q:VK):tO G (zm r ta tb) σ H Q->tOp (fq G r) (tO G ta) (tO G tb) σ H Q:=fun⟨τ,L,Q3,rs,rl,z,k⟩=>
 ⟨τ,L,_,rs,rl,z,fun v H1 y L1 t1 rl1 rv1 z1=>⟨τ,L1,_,rs.ts t1,rl1,z1,fun v2 H2 y2 L2 t2 rl2 rv2 z2=>⟨y,y2,L2,Q3,rv1.ts t2,rv2,rl2,z2,k.ts (t1.trans t2)⟩⟩⟩
theorem qo{op:Operator}{r:qT}(h:kq X (binaryOp op) (fq X.g3 r))(ha:QE X a ta)(hb:QE X b tb):QE X (.BinOp a op b pos) (zm r ta tb):=EH (ajq h ha hb) tN
theorem aj2{r:qT}(h:xS X (fq X.g3 r))(ha:QE X a ta)(hb:QE X b tb)(hp:iQ b):QE X (.Subscript a b pos) (zm r ta tb):=EH (ael h ha hb hp) tN
theorem dO{op:CmpOp}{r:qT}(h:kq X (compareOp op) (fq X.g3 r))(ha:QE X a ta)(hb:QE X b tb)(hm:behindInMarks op b=false):QE X (.Compare a [op] [b] pos) (zm r ta tb):=EH (ac9 h ha hb hm) tN
theorem aj0{t:xx}(σ:St)(H:Hp)(Q:Bool->Hp->Prop):upT G (yB t) σ H Q->af3 (tO G t) σ H Q:=fun⟨τ,L,Q3,rs,rl,z,k⟩=>
 ⟨τ,L,_,rs,rl,z,fun v H1 y L1 t1 rl1 rv1 z1=>by cases y with|bl b=>exact⟨b,rv1,k b H1 L1 t1 rl1 z1⟩|_=>exact z1.elim⟩
theorem aei{t:xx}(σ:St)(H:Hp)(Q:Bool->Hp->Prop):upT G (yB t) σ H Q->L2.tB (tO G t) σ H Q:=aj0 σ H Q
theorem jh{op:CmpOp}{r:qT}(h:kq X (compareOp op) (fq X.g3 r))(ha:QE X a ta)(hb:QE X b tb)(hm:behindInMarks op b=false):QT X (.Compare a [op] [b] pos) (yB (zm r ta tb)):=
 PT.imp (adn h ha hb hm) fun σ H Q q=>by have q':=aj0 σ H Q q;obtain⟨τ,L,Q3,rs,rl,z,k⟩:=q';exact tN σ H _ ⟨τ,L,Q3,rs,rl,z,k⟩
theorem k8(h:QE X e te)(he:∀whole,isTrue e X.env whole=(do let v <-whole;standAt e.pos;holding [v] (truthy v)):=by intro _;rfl):QT X e (yB te):=PT.imp (ahz h he) aei
theorem OpI{f:Value->Value->Sem Value}{C:Int->Int->Prop}{g:Int->Int->V}{g3:Int->Int->Y}(h:kq X f (rI C g))(e:∀i j H,RV X.g3 H (g3 i j) (g i j)):kq X f (fq X.g3 (yI C g3)):=EX h fun x y H Q ⟨x3,y3,L,Q3,rx,ry,rl,z,k⟩=>by
 cases x3 with
 |int i=>
  cases y3 with|int j=>exact⟨i,j,rx,ry,z.1,k _ H _ L (EF _) rl (e i j H) z.2⟩|_=>exact z.elim
 |_=>cases y3<;>exact z.elim
theorem zL{f:Value->Value->Sem Value}{g:Int->Int->V}{g3:Int->Int->Y}(h:kq X f (rI0 g))(e:∀i j H,RV X.g3 H (g3 i j) (g i j)):kq X f (fq X.g3 (yL g3)):=EX h fun x y H Q ⟨x3,y3,L,Q3,rx,ry,rl,z,k⟩=>by
 cases x3 with
 |int i=>
  cases y3 with|int j=>exact⟨i,j,rx,ry,k _ H _ L (EF _) rl (e i j H) z⟩|_=>exact z.elim
 |_=>cases y3<;>exact z.elim
theorem cR:kq X (binaryOp .Sub) (fq X.g3 (yL fun i j=>.int (i - j))):=zL ahf fun _ _ _=>rfl
theorem i8:kq X (binaryOp .Mult) (fq X.g3 (yI aag fun i j=>.int (i*j))):=OpI ah2 fun _ _ _=>rfl
theorem w9:kq X (binaryOp .FloorDiv) (fq X.g3 (yI ahh fun i j=>.int (i / j))):=OpI ad8 fun _ _ _=>rfl
theorem xc:kq X (binaryOp .Mod) (fq X.g3 (yI (fun _ j=>0<j) fun i j=>.int (i % j))):=OpI afo fun _ _ _=>rfl
theorem akd:kq X (binaryOp .Pow) (fq X.g3 (yI af9 fun i j=>.int (i ^ j.toNat))):=OpI agj fun _ _ _=>rfl
theorem abg:kq X (compareOp .Lt) (fq X.g3 (yL fun i j=>.bl (decide (i<j)))):=zL aka fun _ _ _=>rfl
theorem akr:kq X (compareOp .LtE) (fq X.g3 (yL fun i j=>.bl (decide (i≤j)))):=zL aju fun _ _ _=>rfl
theorem yw:kq X (compareOp .Gt) (fq X.g3 (yL fun i j=>.bl (decide (j<i)))):=zL ajs fun _ _ _=>rfl
theorem ani:kq X (compareOp .GtE) (fq X.g3 (yL fun i j=>.bl (decide (j≤i)))):=zL air fun _ _ _=>rfl
theorem xb:kq X (binaryOp .Add) (fq X.g3 w5):=EX adc fun x y H Q ⟨x3,y3,L,Q3,rx,ry,rl,z,k⟩=>by
 cases x3 with
 |int i=>
  cases y3 with|int j=>cases rx;cases ry;exact k _ H _ L (EF _) rl (by rfl) z|_=>exact z.elim
 |str i=>
  cases y3 with|str j=>cases rx;cases ry;exact⟨z.1,k _ H _ L (EF _) rl (by rfl) z.2⟩|_=>exact z.elim
 |ref a=>
  cases y3 with
  |ref b=>
   cases rx;cases ry;obtain⟨ys,zs,e1,e2,hz,q⟩:=z;obtain⟨xs,h1,r1⟩:=rl a _ e1;obtain⟨us,h2,r2⟩:=rl b _ e2;refine⟨xs,us,h1,h2,by rw[<-r1.length,<-r2.length];exact hz,fun p hp=>?_⟩;exact k _ _ _ _ (EG hp) (rl.newL hp (r1.app r2)) (by rfl) (q p (rl.none hp))
  |_=>exact z.elim
 |_=>cases y3<;>exact z.elim
theorem ph{kvs:List (Str×Str)}{k:Str}(h:kvs.lookup k=some x):aQ (kvs.map fun p=>((Sum.inr p.1:j3),V.str p.2)) (Sum.inr k)=some (V.str x):=by
 induction kvs with
 |nil=>simp at h
 |cons p r ih=>
  obtain⟨a,b⟩:=p;unfold aQ;rw[AF,Bo];rw[Bs] at h;by_cases c:k=a
  ·subst c;simp at h;simp[h]
  ·have c1:(k==a)=false:=by simpa using c
   rw[c1] at h;have c2:decide ((Sum.inr a:j3)=Sum.inr k)=false:=Ax fun z=>c (Sum.inr.inj z).symm;simp only[c2];exact ih h
theorem mF{xs:List (j3×V)}{k:j3}(p:Paired (fun(p:j3×Y) (q:j3×V)=>p.1=q.1/\RV G H p.2 q.2) kvs xs)(h:xm kvs k=some y):∃x,aQ xs k=some x/\RV G H y x:=by
 induction p with
 |nil=>cases h
 |@cons a b _ _ r t ih=>
  obtain⟨ka,ya⟩:=a;obtain⟨kb,vb⟩:=b;obtain⟨e,r⟩:=r;cases (show ka=kb from e);unfold xm at h;unfold aQ;rw[Bo] at h ⊢;by_cases c:ka=k
  ·have c':decide (ka=k)=true:=AH c;simp only[c'] at h ⊢;cases h;exact⟨vb,rfl,r⟩
  ·have c':decide (ka=k)=false:=Ax c;simp only[c'] at h ⊢;exact ih h
theorem ak1(K:Ai)(P:Program)(w:World)(hK:X.K=K:=by rfl)(hP:X.prog=P:=by rfl)(hw:X.w=w:=by rfl):xS X (fq ⟨K,P,w⟩ cX):=by
 subst hK hP hw;refine xS.imp ajx fun x y H Q ⟨x3,y3,L,Q3,rx,ry,rl,z,k⟩=>?_;have seq:∀{i:Int} {x3:Y},RV X.g3 H x3 x->y=.int i->(dm L x3 fun ys=>tR L Q3 (fg ys i))->uIx X.K X.prog X.w x y H Q:=by
  intro i x3 rx ey z;subst ey;obtain⟨ys,es,z⟩:=vo z;obtain⟨p,xs,e,sq,rv⟩:=oG rl rx es;subst e;cases ea:fg ys i with
  |none=>rw[ea] at z;exact z.elim
  |some y=>
   rw[ea] at z;obtain⟨x,ex,rvx⟩:=ai7 rv ea;exact⟨xs,x,sq,ex,k _ H _ L (EF _) rl rvx z⟩
 cases x3 with
 |str s=>
  cases y3 with
  |int i=>
   cases rx;cases ry;obtain⟨z1,z2⟩:=z;cases ea:fg s.cps.toList i with
   |none=>rw[ea] at z2;exact z2.elim
   |some c=>rw[ea] at z2;exact⟨z1,c,ea,k _ H _ L (EF _) rl (by rfl) z2⟩
  |_=>exact z.elim
 |cd kvs=>
  cases y3 with
  |str s=>
   obtain⟨a,ea,kd⟩:=rx;cases ea;cases ry;have z':tR L (fun s L=>Q3 (.str s) L) (kvs.lookup s):=z;cases el:kvs.lookup s with
   |none=>rw[el] at z';exact z'.elim
   |some t=>rw[el] at z';exact⟨_,_,.inr kd,ph el,k _ H _ L (EF _) rl (by rfl) z'⟩
  |int i=>exact z.elim
  |_=>exact z.elim
 |ref a=>
  cases y3 with
  |int i=>exact seq (x3:=.ref a) rx ry z
  |str s=>
   cases rx;cases ry;obtain⟨kvs,e,z'⟩:=dF z;obtain⟨xs,e2,pr⟩:=rl a _ e;cases ev:xm kvs (Sum.inr s) with
   |none=>rw[ev] at z';exact z'.elim
   |some y=>
    rw[ev] at z';obtain⟨x,ex,rx⟩:=mF pr ev;exact⟨xs,x,.inl (.inl e2),ex,k _ H _ L (EF _) rl rx z'⟩
  |_=>exact z.elim
 |tup ys=>
  cases y3 with|int i=>exact seq (x3:=.tup ys) rx ry z|_=>exact z.elim
 |sq ys=>
  cases y3 with|int i=>exact seq (x3:=.sq ys) rx ry z|_=>exact z.elim
 |_=>cases y3<;>exact z.elim
theorem x6.inv1(h:x6 G H [y] xs):∃x,xs=[x]/\RV G H y x:=by obtain⟨x,xs',e,r,s⟩:=h;cases (show xs'=[] from s);exact⟨x,e,r⟩
theorem x6.inv2{y':Y}(h:x6 G H [y,y'] xs):∃x x',xs=[x,x']/\RV G H y x/\RV G H y' x':=by obtain⟨x,xs',e,r,s⟩:=h;obtain⟨x',e',r'⟩:=s.inv1;exact⟨x,x',by rw[e,e'],r,r'⟩
theorem ai5(K:Ai)(P:Program)(w:World)(hK:X.K=K:=by rfl)(hP:X.prog=P:=by rfl)(hw:X.w=w:=by rfl):jk X (.builtin "len") (zV ⟨K,P,w⟩ dy):=by
 subst hK hP hw;refine EU uf fun xs H Q ⟨ys,L,Q3,rv,rl,z,k⟩=>?_;unfold dy at z;split at z
 ·obtain⟨x,rfl,r⟩:=rv.inv1;cases r;exact⟨z.1,k _ H _ L (EF _) rl (by rfl) z.2⟩
 ·rename_i y _;obtain⟨x,rfl,r⟩:=rv.inv1;obtain⟨ys,es,z⟩:=vo z;obtain⟨p,us,e,sq,rw'⟩:=oG rl r es;subst e;refine⟨us,sq,?_⟩;rw[<-rw'.length];exact k _ H _ L (EF _) rl (by rfl) z
 ·exact z.elim
theorem afy(i j:Int):(if j > i then j else i)=max i j:=by split<;>lia
theorem afs(i j:Int):(if j<i then j else i)=min i j:=by split<;>lia
theorem aer(hc:X.calm=true:=by rfl):jk X (.builtin "max") (zV X.g3 ae1):=EU (vH hc) fun xs H Q ⟨ys,L,Q3,rv,rl,z,k⟩=>by
 unfold ae1 at z;split at z
 ·rename_i i j;obtain⟨x,x',rfl,r1,r2⟩:=rv.inv2;cases r1;cases r2;refine⟨i,j,rfl,?_⟩;rw[afy];exact k _ H _ L (EF _) rl (by rfl) z
 ·exact z.elim
theorem akm(hc:X.calm=true:=by rfl):jk X (.builtin "min") (zV X.g3 ag3):=EU (vR hc) fun xs H Q ⟨ys,L,Q3,rv,rl,z,k⟩=>by
 unfold ag3 at z;split at z
 ·rename_i i j;obtain⟨x,x',rfl,r1,r2⟩:=rv.inv2;cases r1;cases r2;refine⟨i,j,rfl,?_⟩;rw[afs];exact k _ H _ L (EF _) rl (by rfl) z
 ·exact z.elim
theorem aek:UnR X (unaryOp .USub) (upU X.g3 agn):=UnR.imp ah5 fun x H Q ⟨y,L,Q3,rv,rl,z,k⟩=>by cases y with|int i=>exact⟨i,rv,k _ H _ L (EF _) rl (by rfl) z⟩|_=>exact z.elim
theorem aem{op:UnaryOp}{r:Y->ql->YK->Prop}(h:UnR X (unaryOp op) (upU X.g3 r))(ha:QE X a ta):QE X (.UnaryOp op a pos) (yUn r ta):=EH (aiw h ha) fun σ H Q ⟨τ,L,Q3,rs,rl,z,k⟩=>
 ⟨τ,L,_,rs,rl,z,fun v H1 y L1 t1 rl1 rv1 z1=>⟨y,L1,Q3,rv1,rl1,z1,k.ts t1⟩⟩
end
section
variable {a b:Expr}{ta tc:xx} 
theorem cx{a:Addr}(rl:jf G H L)(h:bL L (.ref a)=some ys):∃xs,wv G.K H a xs/\x6 G H ys xs:=by
 have h':(match L a with | some (.lst ys)=>some ys | _=>none)=some ys:=h;split at h'
 ·rename_i e;cases h';obtain⟨xs,e2,q⟩:=rl a _ e;exact⟨xs,EW e2,q⟩
 ·cases h'
theorem dM(rl:jf G H L)(r:RV G H y v)(hy:ow y=true)(h:bL L y=some ys):∃a xs,v=.ref a/\wv G.K H a xs/\x6 G H ys xs:=by
 cases y with
 |ref a=>obtain⟨xs,s,q⟩:=cx rl h;exact⟨a,xs,r,s,q⟩
 |sq zs=>obtain⟨a,xs,e,s,q⟩:=r;cases h;exact⟨a,xs,e,s.sq,q⟩
 |_=>cases hy
theorem vG{G:G3}{T:oV}{σ:L2.St}(I:qx X pins σ H s)(rl:jf X.g3 H L)(r:RV X.g3 H y v)(ru:zk v u)(h:tyY L y=some T)
 {c:Value} {b:Bool} (e:PySem.W.kitOne X.K (.type T.nm) c=some b) (hq:∀tk,Q (.bool b) { s with toks:=tk }):
 wpAny (model X.prog X.w) A (call (.builtin "isinstance") [u,c]) Q E s:=by
 cases y with
 |non=>cases h;cases r;exact aT I ru .non e hq
 |bl b=>cases h;cases r;exact aT I ru (.bl _) e hq
 |int i=>cases h;cases r;exact aT I ru (.int _) e hq
 |str x=>cases h;cases r;exact aT I ru (.str _) e hq
 |tup ys=>
  cases h;obtain⟨a,xs,rfl,sq,_⟩:=r;cases (show u=Value.ref a from ru);obtain⟨its,_,⟨o,h1,h2,_⟩,_⟩:=I.tuple sq;exact Bn PySem.W.kitx_tuple I.kIn ⟨o,h1,h2⟩ e (fun z=>nomatch z) hq
 |sq ys=>
  cases h;obtain⟨a,xs,rfl,sq,_⟩:=r;cases (show u=Value.ref a from ru);obtain⟨its,_,⟨o,n,h1,h2,_⟩,_⟩:=I.list sq.sq;exact Bn Dx I.kIn ⟨o,h1,h2⟩ e (fun z=>nomatch z) hq
 |ref a=>
  cases (show v=.ref a from r);have h':(match L a with | some (.lst _)=>some oV.list | some (.dct _)=>some .dict | _=>none)=some T:=h;split at h'
  ·rename_i ys el;cases h';obtain⟨xs,e2,_⟩:=rl a _ el;exact aT I ru (.lst e2) e hq
  ·rename_i kvs el;cases h';obtain⟨xs,e2,_⟩:=rl a _ el;exact aT I ru (.dK e2) e hq
  ·cases h'
 |_=>cases h
theorem abu(K:Ai):∀T S:oV,PySem.W.kitOne K (.type T.nm) (.type S.nm)=some (aa6 T S):=by intro T S;cases T<;>cases S<;>rfl
def afz(G:G3)(S:oV):List V->Hp->VK->Prop:=fun xs H Q=>∃y v L Q3 T,xs=[v,.ty S.nm]/\RV G H y v/\jf G H L/\tyY L y=some T/\Q3 (.bl (aa6 T S)) L/\xG G H Q3 Q
theorem ai1(S:oV):jk X (.builtin "isinstance") (afz X.g3 S):=by intro pins s σ H xs us Q I r h;obtain⟨y,v,L,Q3,T,rfl,rv,rl,ty,q,k⟩:=h;obtain⟨u,c,rfl,r1,r2⟩:=ze.two r;cases (show c=Value.type S.nm from r2);exact jr I.tk (vG (G:=X.g3) I rl rv r1 ty (abu _ T S) fun tk ht=>⟨.bl _,H,I.tok _,rfl,k _ H _ L (EF _) rl (by rfl) q⟩)
theorem ao{xT:Str}(S:oV)(hg:Gl X "isinstance")(hm:X.mg "isinstance" = none)(hgT:Gl X xT)(hmT:X.mg xT=none)(hvT:bootBuiltins xT=some (.type S.nm))(ha:QE X a ta)
 (hn:xT ≠ "__name__" := by decide) (hd:(xT==("__debug__" : Str))=false:=by decide)
 (hs:starEach [a,.Name xT p1] X.env=(false,eval a X.env)::starEach [.Name xT p1] X.env:=by rfl) (hs2:starEach [.Name xT p1] X.env=(false,eval (.Name xT p1) X.env)::starEach [] X.env:=by rfl)
 (hp:(backTo pos (starEach [.Name xT p1] X.env)).any (·.1)=false:=by rfl):
 QE X (.Call (.Name "isinstance" p) [a,.Name xT p1] [] pos) (eO S ta):=by
 refine EH (pY (ai1 S) hg hm lO (dQ ha (dQ (aik hgT hmT hvT hn hd) kF hs2) hs) (by decide) (by decide) hs hp) ?_;rintro σ H Q ⟨τ,L,Q3,rs,rl,z,k⟩;refine⟨τ,L,_,rs,rl,z,fun v H1 y L1 t1 rl1 rv1 z1=>?_⟩;obtain⟨T,et,z1⟩:=zD z1;exact⟨y,v,L1,Q3,T,rfl,rv1,rl1,et,z1,k.ts t1⟩
def oR(neg:Bool)(x y:Y)(L:ql)(Q:YK):Prop:=dm L y fun ys=>gv x=true/\ys.all gv=true/\Q (.bl (nb neg (uK (fS x) (ys.map fS)))) L
theorem aj5(neg:Bool){op:CmpOp}(h:kq X (compareOp op) (rIn X.K neg)):kq X (compareOp op) (fq X.g3 (oR neg)):=EX h fun x y H Q ⟨x3,y3,L,Q3,rx,ry,rl,z,k⟩=>by
 obtain⟨ys,es,f1,f2,q⟩:=vo z;obtain⟨p,xs,e,sq,rv⟩:=oG rl ry es;rw[rx.flat f1];rw[rv.flat f2] at sq;refine⟨p,_,e,sq,fW f1,?_,?_⟩
 ·rw[List.all_map,CG];intro y hy;exact fW (CG.mp f2 y hy)
 ·have:(if neg=true then !uK (fS x3) (ys.map fS) else uK (fS x3) (ys.map fS))=(nb neg (uK (fS x3) (ys.map fS))):=by cases neg<;>simp[nb]
  rw[this];exact k _ H _ L (EF _) rl (by rfl) q
theorem aet(K:Ai)(P:Program)(w:World)(hK:X.K=K:=by rfl)(hP:X.prog=P:=by rfl)(hw:X.w=w:=by rfl):kq X (compareOp .In) (fq ⟨K,P,w⟩ (oR false)):=by subst hK hP hw;exact aj5 false wM
theorem sS(K:Ai)(P:Program)(w:World)(hK:X.K=K:=by rfl)(hP:X.prog=P:=by rfl)(hw:X.w=w:=by rfl):kq X (compareOp .NotIn) (fq ⟨K,P,w⟩ (oR true)):=by subst hK hP hw;exact aj5 true m9
theorem jc.rep{G:G3}{H:Hp}{L:ql}(rl:jf G H L):∀{n:Nat} {y:Y} {d:Da} {v:V},jc L n y d->RV G H y v->v9 G.K H n v d
 |0,y,d,v,⟨f,e⟩,r=>by rw[r.flat f];exact⟨e,fW f⟩
 |n+1,y,d,v,h,r=>by
  have both:∀{ys:List Y} {ds:List Da} {xs:List V},Paired (jc L n) ys ds->x6 G H ys xs->Paired (v9 G.K H n) xs ds:=by
   intro ys ds xs p
   induction p generalizing xs with
   |nil=>intro r;cases (show xs=[] from r);exact .nil
   |cons q t ih=>
    rintro⟨x,xs',rfl,r1,r2⟩;exact .cons (jc.rep rl q r1) (ih r2)
  rcases h with⟨f,e⟩ | ⟨ys,ds,rfl,rfl,p⟩ | ⟨ys,ds,hy,rfl,es,p⟩
  ·rw[r.flat f];exact .inl ⟨e,fW f⟩
  ·obtain⟨a,xs,rfl,sq,rv⟩:=r;exact .inr (.inl ⟨a,xs,ds,rfl,rfl,sq,both p rv⟩)
  ·obtain⟨a,xs,rfl,sq,rv⟩:=dM rl r hy es;exact .inr (.inr ⟨a,xs,ds,rfl,rfl,sq,both p rv⟩)
theorem iT(h:ut y=true)(r:RV G H y v):∃a,v=.ref a:=by
 cases y with
 |ref a=>exact⟨a,r⟩
 |tup ys=>obtain⟨a,xs,e,_⟩:=r;exact⟨a,e⟩
 |sq ys=>obtain⟨a,xs,e,_⟩:=r;exact⟨a,e⟩
 |_=>cases h
theorem qK(K:Ai)(P:Program)(w:World)(hu:X.A.units+128<cLine)(hK:X.K=K:=by rfl)(hP:X.prog=P:=by rfl)(hw:X.w=w:=by rfl):kq X (compareOp .Eq) (fq ⟨K,P,w⟩ (t7 false)):=by
 subst hK hP hw;refine EX (ai2 hu) fun x y H Q ⟨x3,y3,L,Q3,rx,ry,rl,z,k⟩=>?_;unfold t7 at z;split at z
 ·rename_i i j;cases rx;cases ry;refine⟨rfl,?_⟩;have:decide (V.int i=V.int j)=nb false (decide (i=j)):=by rw[BI];simp[nb]
  rw[this];exact k _ H _ L (EF _) rl (by rfl) z
 ·rename_i i j;cases rx;cases ry;refine⟨rfl,?_⟩;have:decide (V.str i=V.str j)=nb false (decide (i=j)):=by rw[BI];simp[nb]
  rw[this];exact k _ H _ L (EF _) rl (by rfl) z
 ·rename_i i j;cases rx;cases ry;refine⟨rfl,?_⟩;have:decide (V.bl i=V.bl j)=nb false (decide (i=j)):=by rw[BI];simp[nb]
  rw[this];exact k _ H _ L (EF _) rl (by rfl) z
 ·obtain⟨f1,f2,n,m,d,e,hn,h1,h2,q⟩:=z;obtain⟨a,rfl⟩:=iT f1 rx;obtain⟨b,rfl⟩:=iT f2 ry;have q:Q3 (.bl (Da.eq d e)) L:=q;exact⟨n,m,d,e,hn,h1.rep rl rx,h2.rep rl ry,k _ H _ L (EF _) rl (by rfl) q⟩
theorem ajv(K:Ai)(P:Program)(w:World)(hu:X.A.units+128<cLine)(hK:X.K=K:=by rfl)(hP:X.prog=P:=by rfl)(hw:X.w=w:=by rfl):kq X (compareOp .NotEq) (fq ⟨K,P,w⟩ (t7 true)):=by
 subst hK hP hw;refine EX (ai4 hu) fun x y H Q ⟨x3,y3,L,Q3,rx,ry,rl,z,k⟩=>?_;unfold t7 at z;split at z
 ·rename_i i j;cases rx;cases ry;refine⟨rfl,?_⟩;have:(!decide (V.int i=V.int j))=nb true (decide (i=j)):=by show _=!_;congr 1;rw[BI];simp
  rw[this];exact k _ H _ L (EF _) rl (by rfl) z
 ·rename_i i j;cases rx;cases ry;refine⟨rfl,?_⟩;have:(!decide (V.str i=V.str j))=nb true (decide (i=j)):=by show _=!_;congr 1;rw[BI];simp
  rw[this];exact k _ H _ L (EF _) rl (by rfl) z
 ·rename_i i j;cases rx;cases ry;refine⟨rfl,?_⟩;have:(!decide (V.bl i=V.bl j))=nb true (decide (i=j)):=by show _=!_;congr 1;rw[BI];simp
  rw[this];exact k _ H _ L (EF _) rl (by rfl) z
 ·obtain⟨f1,f2,n,m,d,e,hn,h1,h2,q⟩:=z;obtain⟨a,rfl⟩:=iT f1 rx;obtain⟨b,rfl⟩:=iT f2 ry;have q:Q3 (.bl (!Da.eq d e)) L:=q;exact⟨n,m,d,e,hn,h1.rep rl rx,h2.rep rl ry,k _ H _ L (EF _) rl (by rfl) q⟩
theorem RV.non_iff(r:RV G H y v):decide (v=.non)=(match y with | .non=>true | _=>false):=by
 cases y with
 |non=>cases r;rfl
 |cd kvs=>obtain⟨a,rfl,_⟩:=r;rfl
 |tup ys=>obtain⟨a,xs,rfl,_⟩:=r;rfl
 |sq ys=>obtain⟨a,xs,rfl,_⟩:=r;rfl
 |_=>cases r;rfl
theorem agt(σ:L2.St)(H:Hp)(Q:VK):tO G (dr false ta) σ H Q->ajy (tO G ta) σ H Q:=fun⟨τ,L,Q3,rs,rl,z,k⟩=>
 ⟨τ,L,_,rs,rl,z,fun v H1 y L1 t1 rl1 rv1 z1=>by dsimp only;rw[rv1.non_iff];cases y<;>exact k _ H1 _ L1 t1 rl1 (by rfl) z1⟩
theorem adq(σ:L2.St)(H:Hp)(Q:VK):tO G (dr true ta) σ H Q->ae7 (tO G ta) σ H Q:=fun⟨τ,L,Q3,rs,rl,z,k⟩=>
 ⟨τ,L,_,rs,rl,z,fun v H1 y L1 t1 rl1 rv1 z1=>by dsimp only;rw[rv1.non_iff];cases y<;>exact k _ H1 _ L1 t1 rl1 (by rfl) z1⟩
theorem aex{t:TE}(h:∀σ H Q,tO G te σ H Q->t σ H Q)(σ:L2.St)(H:Hp)(Q:Bool->Hp->Prop):upT G (yB te) σ H Q->L2.tB t σ H Q:=fun q=>h σ H _ (aei σ H Q q)
theorem fi(h:QE X a ta):QT X (.Compare a [.Is] [.Constant .none j pos'] pos) (yB (dr false ta)):=PT.imp (yT (ahc h)) (aex agt)
theorem fJ(h:QE X a ta):QT X (.Compare a [.IsNot] [.Constant .none j pos'] pos) (yB (dr true ta)):=PT.imp (yT (adz h)) (aex adq)
end
section
variable {a b:Expr}{rest:List Expr}{ta tc:xx}{tB:kG} 
theorem aS(h:QT X a tA):QW X (.BoolOp .And [a] pos) tA:=abw h
theorem aJ(h:QT X a tA):QW X (.BoolOp .Or [a] pos) tA:=ahj h
theorem cJ(h:QT X a tA)(k:QW X (.BoolOp .And (b::rest) pos) tB):QW X (.BoolOp .And (a::b::rest) pos) (l8 tA tB):=PW.imp (ah3 h k) fun σ H Q ⟨τ,L,Q3,rs,rl,z,k⟩=>
 ⟨τ,L,_,rs,rl,z,fun c H1 L1 t1 rl1 z1=>by cases c with|true=>rw[AB rfl];exact⟨τ,L1,Q3,rs.ts t1,rl1,z1,k.ts t1⟩|false=>rw[Az AC];exact k _ H1 L1 t1 rl1 z1⟩
theorem ky(h:QT X a tA)(k:QW X (.BoolOp .Or (b::rest) pos) tB):QW X (.BoolOp .Or (a::b::rest) pos) (lV tA tB):=PW.imp (akp h k) fun σ H Q ⟨τ,L,Q3,rs,rl,z,k⟩=>
 ⟨τ,L,_,rs,rl,z,fun c H1 L1 t1 rl1 z1=>by cases c with|true=>rw[AB rfl];exact k _ H1 L1 t1 rl1 z1|false=>rw[Az AC];exact⟨τ,L1,Q3,rs.ts t1,rl1,z1,k.ts t1⟩⟩
theorem kg(h:QW X a tA):QT X a tA:=PW.pt h
theorem aN(h:QT X a tA):QT X (.UnaryOp .Not a pos) (gG tA):=PT.imp (agg h) fun σ H Q ⟨τ,L,Q3,rs,rl,z,k⟩=>
 ⟨τ,L,_,rs,rl,z,fun c H1 L1 t1 rl1 z1=>k _ H1 L1 t1 rl1 z1⟩
theorem ahg{op:BoolOp}(h:QE X a ta):QE X (.BoolOp op [a] pos) ta:=ai6 h
theorem ag8(h:QE X a ta)(k:QE X (.BoolOp .And (b::rest) pos) tb):QE X (.BoolOp .And (a::b::rest) pos) (af0 ta tb):=EH (age h k) fun σ H Q ⟨τ,L,Q3,rs,rl,z,k⟩=>
 ⟨τ,L,_,rs,rl,z,fun v H1 y L1 t1 rl1 rv1 z1=>by
  cases y with
  |bl c=>
   refine⟨c,rv1,?_⟩;have z2:aE c (tb τ L1 Q3) (Q3 (.bl false) L1):=z1;cases c with|true=>rw[AB rfl];exact⟨τ,L1,Q3,rs.ts t1,rl1,z2,k.ts t1⟩|false=>rw[Az AC];exact k _ H1 _ L1 t1 rl1 (by rfl) z2
  |_=>exact z1.elim⟩
theorem cq(h:QT X c tA)(ha:QE X a ta)(hb:QE X b tb):QE X (.IfExp c a b pos) (yIf tA ta tb):=EH (aae h ha hb) fun σ H Q ⟨τ,L,Q3,rs,rl,z,k⟩=>
 ⟨τ,L,_,rs,rl,z,fun c H1 L1 t1 rl1 z1=>by cases c with|true=>rw[AB rfl];exact⟨τ,L1,Q3,rs.ts t1,rl1,z1,k.ts t1⟩|false=>rw[Az AC];exact⟨τ,L1,Q3,rs.ts t1,rl1,z1,k.ts t1⟩⟩
theorem kw:QA X [] z0:=PA.imp kF fun σ H Q ⟨τ,L,Q3,rs,rl,z,k⟩=>k _ H _ L (EF _) rl (by rfl) z
theorem vg(h:QE X e te)(ht:QA X es tr)(hs:Ed e es X:=by rfl):QA X (e::es) (qe te tr):=PA.imp (dQ h ht hs) fun σ H Q ⟨τ,L,Q3,rs,rl,z,k⟩=>
 ⟨τ,L,_,rs,rl,z,fun v H1 y L1 t1 rl1 rv1 z1=>⟨τ,L1,_,rs.ts t1,rl1,z1,fun vs H2 ys L2 t2 rl2 rv2 z2=>k (v::vs) H2 (y::ys) L2 (t1.trans t2) rl2 ⟨v,vs,rfl,rv1.ts t2,rv2⟩ z2⟩⟩
theorem zu(h:QA X es tr):QE X (.Tuple es x1 pos) (wf tr):=EH (ahe h) fun σ H Q ⟨τ,L,Q3,rs,rl,z,k⟩=>
 ⟨τ,L,_,rs,rl,z,fun vs H1 ys L1 t1 rl1 rv1 z1=>by
  cases e:Nat.ble ys.length 1000 with
  |false=>rw[e] at z1;exact z1.elim
  |true=>
   rw[e] at z1;have:=C9 e;refine⟨small (by rw[<-rv1.length];exact this),fun p hp=>?_⟩;exact k _ _ (.tup ys) L1 (t1.trans (EG hp)) (rl1.skip hp) ⟨p,vs,rfl,cM.of j4,rv1.ts (EG hp)⟩ z1⟩
theorem zr(h:QA X es tr):QE X (.List es pos) (v5 tr):=EH (aga h) fun σ H Q ⟨τ,L,Q3,rs,rl,z,k⟩=>
 ⟨τ,L,_,rs,rl,z,fun vs H1 ys L1 t1 rl1 rv1 z1=>by
  cases e:Nat.ble ys.length 1000 with
  |false=>rw[e] at z1;exact z1.elim
  |true=>
   rw[e] at z1;have:=C9 e;refine⟨small (by rw[<-rv1.length];exact this),fun p hp=>?_⟩;exact k _ _ _ _ (t1.trans (EG hp)) (rl1.newL hp rv1) (by rfl) (z1 p (rl1.none hp))⟩
theorem wr{id:String}{r:List Y->ql->YK->Prop}(hc:jk X (.builtin id) (zV X.g3 r))(hg:Gl X x)(hm:X.mg x=none)(hv:bootBuiltins x=some (.builtin id))(h:QA X (e::es) tr)
 (hn:x ≠ "__name__" := by decide) (hd:Ef x:=by decide) (hs:Ed e es X:=by rfl) (hp:Ee pos es X:=by rfl):
 QE X (.Call (.Name x p) (e::es) [] pos) (eM r tr):=EH (pY hc hg hm hv h hn hd hs hp) fun σ H Q ⟨τ,L,Q3,rs,rl,z,k⟩=>
 ⟨τ,L,_,rs,rl,z,fun vs H1 ys L1 t1 rl1 rv1 z1=>⟨ys,L1,Q3,rv1,rl1,z1,k.ts t1⟩⟩
def upO(G:G3)(t:TO3):TO:=fun σ H Q=>∃τ L Q3,vv G H σ τ/\jf G H L/\t τ L Q3/\∀(o:Option Int) H' L',j7 H H'->jf G H' L'->Q3 o L'->Q o H'
abbrev QO(X:Cx)(e:Option Expr)(t:TO3):Prop:=PO X e (upO X.g3 t)
theorem PO.imp{e:Option Expr}{t u:TO}(h:PO X e t)(q:∀σ H Q,u σ H Q->t σ H Q):PO X e u:=fun pins s σ H Q I z=>h pins s σ H Q I (q σ H Q z)
theorem oW.imp{r':V->Option Int->Option Int->Hp->VK->Prop}(h:oW X r)(q:∀x lo hi H Q,r' x lo hi H Q->r x lo hi H Q):oW X r':=by intro pins s σ H x v vl vu lo hi sl Q I rx hs pl pu z;exact h pins s σ H x v vl vu lo hi sl Q I rx hs pl pu (q _ _ _ _ _ z)
theorem bv:QO X none al:=PO.imp ad5 fun σ H Q ⟨τ,L,Q3,rs,rl,z,k⟩=>k _ H L (EF _) rl z
theorem wg(h:QE X e te):QO X (some e) (cV te):=PO.imp (acb h) fun σ H Q ⟨τ,L,Q3,rs,rl,z,k⟩=>
 ⟨τ,L,_,rs,rl,z,fun v H1 y L1 t1 rl1 rv1 z1=>by cases y with|int i=>exact⟨i,rv1,k _ H1 L1 t1 rl1 z1⟩|_=>exact z1.elim⟩
def ac6(G:G3)(r:Y->Option Int->Option Int->ql->YK->Prop):V->Option Int->Option Int->Hp->VK->Prop:=fun x lo hi H Q=>∃y L Q3,RV G H y x/\jf G H L/\r y lo hi L Q3/\xG G H Q3 Q
theorem wn{lo hi:Option Expr}{tl th:TO3}{r:Y->Option Int->Option Int->ql->YK->Prop}(h:oW X (ac6 X.g3 r))(ha:QE X a ta)(hl:QO X lo tl)(hh:QO X hi th):QE X (.Subscript a (.Slice lo hi none p2) pos) (ySl r ta tl th):=
 EH (zS h ha hl hh) fun σ H Q ⟨τ,L,Q3,rs,rl,z,k⟩=>
 ⟨τ,L,_,rs,rl,z,fun v H1 y L1 t1 rl1 rv1 z1=>⟨τ,L1,_,rs.ts t1,rl1,z1,fun o H2 L2 t2 rl2 z2=>⟨τ,L2,_,rs.ts (t1.trans t2),rl2,z2,fun o' H3 L3 t3 rl3 z3=>⟨y,L3,Q3,rv1.ts (t2.trans t3),rl3,z3,k.ts (t1.trans (t2.trans t3))⟩⟩⟩⟩
theorem mm(r:x6 G H ys xs)(lo hi:Option Int):x6 G H (lQ ys lo hi) (rF xs lo hi):=by unfold lQ rF;rw[r.length];exact(r.drop _).take _
theorem ajo(K:Ai)(P:Program)(w:World)(hK:X.K=K:=by rfl)(hP:X.prog=P:=by rfl)(hw:X.w=w:=by rfl):oW X (ac6 ⟨K,P,w⟩ akf):=by
 subst hK hP hw;refine oW.imp abf fun x lo hi H Q ⟨y,L,Q3,rv,rl,z,k⟩=>?_;cases y with
 |ref a=>
  obtain⟨ys,es,z'⟩:=jy z;obtain⟨xs,sq,r⟩:=cx rl (w4 es);exact⟨a,xs,rv,sq,fun p hp=>k _ _ _ _ (EG hp) (rl.newL hp (mm r lo hi)) (by rfl) (z' p (rl.none hp))⟩
 |sq ys=>
  obtain⟨a,xs,e,sf,r⟩:=rv;exact⟨a,xs,e,sf.sq,fun p hp=>k _ _ _ _ (EG hp) (rl.newL hp (mm r lo hi)) (by rfl) (z p (rl.none hp))⟩
 |_=>exact z.elim
end
section
variable {a b iter:Expr}{ta tc:xx}{tB:kG}{rest orelse:List Stmt}{t u:ww}
theorem zc:rQ X [] jp:=l6.imp acv fun D σ H ⟨τ,L,D3,rs,rl,z,k⟩=>k.nx _ H _ L (EF _) rs rl z
theorem qf(h:QS X st t):rQ X [st] t:=ada h
theorem qa(h:QS X st t)(k:rQ X rest u):rQ X (st::rest) (qt t u):=l6.imp (qQ h k) fun D σ H ⟨τ,L,D3,rs,rl,z,k⟩=>
 ⟨τ,L,{ D3 with nx:=u D3 },rs,rl,z,fun σ1 H1 τ1 L1 t1 rs1 rl1 z1=>⟨τ1,L1,D3,rs1,rl1,z1,k.ts t1⟩,k.rt,k.bk,k.ct⟩
theorem pI:QS X (.Continue pos) ae9:=EK oy fun D σ H ⟨τ,L,D3,rs,rl,z,k⟩=>k.ct _ H _ L (EF _) rs rl z
theorem zf(h:QE X e te)(hs:swapsWith e none pos.line X.env=pure false:=by rfl):QS X (.Expr e pos) (js te):=EK (abv h hs) fun D σ H ⟨τ,L,D3,rs,rl,z,k⟩=>
 ⟨τ,L,_,rs,rl,z,fun v H1 y L1 t1 rl1 rv1 z1=>k.nx _ H1 _ L1 t1 (rs.ts t1) rl1 z1⟩
theorem qz(h:QE X e te):QS X (.Return (some e) pos) (jm te):=EK (aft h) fun D σ H ⟨τ,L,D3,rs,rl,z,k⟩=>⟨τ,L,_,rs,rl,z,k.rt⟩
theorem uX:QS X (.Return none pos) yD:=EK ae3 fun D σ H ⟨τ,L,D3,rs,rl,z,k⟩=>k.rt _ H _ L (EF _) rl (by rfl) z
theorem jb(h:QT X c tA)(ha:rQ X body t)(hb:rQ X orelse u):QS X (.If c body orelse pos) (xf tA t u):=EK (aij h ha hb) fun D σ H ⟨τ,L,D3,rs,rl,z,k⟩=>
 ⟨τ,L,_,rs,rl,z,fun c H1 L1 t1 rl1 z1=>by cases c with|true=>rw[AB rfl];exact⟨τ,L1,D3,rs.ts t1,rl1,z1,k.ts t1⟩|false=>rw[Az AC];exact⟨τ,L1,D3,rs.ts t1,rl1,z1,k.ts t1⟩⟩
theorem ay(hN:X.N.Nodup)(hix:X.N[i]?=some x)(hx:yy X.env.scope x)(h:QE X e te)(hsw:swapsWith e (some (.Name x pos')) pos.line X.env=pure false:=by rfl)
 (hfn:X.fn x=true\/X.env.scope.names.lookup x=some .local:=by first | exact .inl rfl | exact .inr rfl | assumption):QS X (.Assign [.Name x pos'] e pos) (j5 te (qh i)):=EK (agh hN hix hx h hsw hfn) fun D σ H ⟨τ,L,D3,rs,rl,z,k⟩=>
 ⟨τ,L,_,rs,rl,z,fun v H1 y L1 t1 rl1 rv1 z1=>k.nx _ H1 _ L1 t1 (show vv _ _ _ (fV τ i y) by rw[cG];exact(rs.ts t1).set rv1) rl1 z1⟩
theorem gb(h:QE X e te)(hg:QG X tg g)(h1:swapsWithSole [tg] e pos.line X.env=pure false:=by rfl)(h2:swappedStores [tg] e X.env=pure none:=by rfl)
 (h3:(assignEach [tg] X.env).map (·.2)=[assign tg X.env]:=by rfl):QS X (.Assign [tg] e pos) (j5 te g):=EK (zU h hg h1 h2 h3) fun D σ H ⟨τ,L,D3,rs,rl,z,k⟩=>
 ⟨τ,L,_,rs,rl,z,fun v H1 y L1 t1 rl1 rv1 z1=>⟨y,τ,L1,_,rv1,rs.ts t1,rl1,z1,k.nx.ts t1⟩⟩
theorem PG.imp{t u:TG}(h:PG X e t)(q:∀v σ H Q,u v σ H Q->t v σ H Q):PG X e u:=fun pins s σ H x v Q I r z=>h pins s σ H x v Q I r (q _ _ _ _ z)
theorem PGs.imp{e:List Expr}{t u:zM}(h:PGs X e t)(q:∀v σ H Q,u v σ H Q->t v σ H Q):PGs X e u:=fun pins s σ H x v Q I r z=>h pins s σ H x v Q I r (q _ _ _ _ z)
theorem dH(hN:X.N.Nodup)(hix:X.N[i]?=some x)(hx:yy X.env.scope x)(hfn:X.fn x=true\/X.env.scope.names.lookup x=some .local:=by first | exact .inl rfl | exact .inr rfl | assumption):QG X (.Name x pos) (qh i):=
 PG.imp (tW hN hix hx hfn) fun v σ H Q ⟨y,τ,L,Q3,rv,rs,rl,z,k⟩=>k _ H _ L (EF _) (show vv _ _ _ (fV τ i y) by rw[cG];exact rs.set rv) rl z
theorem kj:QGs X [] bN:=PGs.imp abh fun vs σ H Q ⟨ys,τ,L,Q3,rv,rs,rl,z,k⟩=>by cases ys with|nil=>exact⟨rv,k _ H _ L (EF _) rs rl z⟩|cons y r=>exact z.elim
theorem zh(h:QG X e g)(hs:QGs X es gs)(he:(assignEach (e::es) X.env).map (·.2)=assign e X.env::(assignEach es X.env).map (·.2):=by rfl):QGs X (e::es) (jg g gs):=
 PGs.imp (zI h hs he) fun vs σ H Q ⟨ys,τ,L,Q3,rv,rs,rl,z,k⟩=>by
 cases ys with
 |nil=>exact z.elim
 |cons y r=>
  obtain⟨x,xs,rfl,r1,r2⟩:=rv;exact⟨x,xs,rfl,y,τ,L,_,r1,rs,rl,z,fun σ1 H1 τ1 L1 t1 rs1 rl1 z1=>⟨r,τ1,L1,Q3,r2.ts t1,rs1,rl1,z1,k.ts t1⟩⟩
theorem ah{kk:Nat}(hc:X.calm=true)(h:QGs X es gs)(h1:(assignEach es X.env).length=n:=by rfl)(h2:(assignEach es X.env).findIdx? (·.1)=none:=by rfl):QG X (.Tuple es kk pos) (cT n gs):=
 PG.imp (afk hc h h1 h2) fun v σ H Q ⟨y,τ,L,Q3,rv,rs,rl,z,k⟩=>by
 cases y with
 |tup ys=>
  obtain⟨a,xs,rfl,sq,r⟩:=rv;have z':(match ys.length==n with | true=>gs ys τ L Q3 | false=>False):=z;split at z'
  ·rename_i e;exact⟨a,xs,rfl,sq,by rw[<-r.length];exact beq_iff_eq.mp e,ys,τ,L,Q3,r,rs,rl,z',k⟩
  ·exact z'.elim
 |_=>exact z.elim
theorem aas{y:Str}{px py pt:Pos}{kt k2:Nat}{pt2:Pos}(hc:X.calm=true)(hN:X.N.Nodup)(hi:X.N[i]?=some x)(hj:X.N[j]?=some y)(hij:i≠j)(lx:X.env.scope.names.lookup x=some .local)(ly:X.env.scope.names.lookup y=some .local)
 (h:QA X [a,b] tr) (h1:swappedStores [.Tuple [.Name x px,.Name y py] kt pt] (.Tuple [a,b] k2 pt2) X.env=pure (some [x,y])) (h2:swapsWithSole [.Tuple [.Name x px,.Name y py] kt pt] (.Tuple [a,b] k2 pt2) pos.line X.env=pure false:=by rfl):
 QS X (.Assign [.Tuple [.Name x px,.Name y py] kt pt] (.Tuple [a,b] k2 pt2) pos) (afp i j tr):=EK (ahr hc hN hi hj hij lx ly h h1 h2) fun D σ H ⟨τ,L,D3,rs,rl,z,k⟩=>
 ⟨τ,L,_,rs,rl,z,fun vs H1 ys L1 t1 rl1 rv1 z1=>by
  split at z1
  ·rename_i v w;obtain⟨x',y',rfl,r1,r2⟩:=rv1.inv2;exact⟨x',y',rfl,k.nx _ H1 _ L1 t1 (show vv _ _ _ (fV (fV τ i v) j w) by rw[cG,cG];exact((rs.ts t1).set r1).set r2) rl1 z1⟩
  ·exact z1.elim⟩
theorem jS(hp:PassesOwn (model X.prog X.w) X.A X.env X.xe)(h:QT X c tA)(hb:rQ X body t):QS X (.While c body [] pos) (mf tA t):=EK (yU hp h hb) fun D σ H ⟨τ,L,D3,rs,rl,⟨W,⟨m0,w0⟩,turn⟩,k⟩=>by
 refine⟨fun m σ1 H1=>∃τ1 L1,j7 H H1/\vv X.g3 H1 σ1 τ1/\jf X.g3 H1 L1/\W m τ1 L1,⟨m0,τ,L,EF _,rs,rl,w0⟩,?_⟩;rintro m σ1 H1 ⟨τ1,L1,t1,rs1,rl1,w1⟩;refine⟨τ1,L1,_,rs1,rl1,turn m τ1 L1 w1,fun b H2 L2 t2 rl2 z2=>?_⟩;cases b with
 |false=>rw[Az AC];exact k.nx _ H2 _ L2 (t1.trans t2) (rs1.ts t2) rl2 z2
 |true=>
  rw[AB rfl];obtain⟨N,hN,z2⟩:=z2;refine⟨fun σ' H'=>∃τ' L',j7 H H'/\vv X.g3 H' σ' τ'/\jf X.g3 H' L'/\N τ' L',?_,?_⟩
  ·rintro σ' H' ⟨τ',L',t',rs',rl',n'⟩;obtain⟨m',hm,w'⟩:=hN τ' L' n';exact⟨m',hm,τ',L',t',rs',rl',w'⟩
  ·have nx:lZ X.g3 H2 (bX N) (fun σ' H'=>∃τ' L',j7 H H'/\vv X.g3 H' σ' τ'/\jf X.g3 H' L'/\N τ' L'):=fun σ' H' τ' L' t' rs' rl' ⟨L5,s5,n'⟩=>⟨τ',L5,(t1.trans t2).trans t',rs',rl'.sub s5,n'⟩;have k2:=k.ts (t1.trans t2);exact⟨τ1,L2,_,rs1.ts t2,rl2,z2,nx,k2.rt,k2.nx,nx⟩
theorem wo{wi:TI3}(hp:PassesOwn (model X.prog X.w) X.A X.env X.xe)(hc:X.calm=true)(hi:QI X tg iter wi)(hg:QG X tg g)(hb:rQ X body t)(hs:∀x,foldedSetIterable iter X.env x=pure x:=by intro _;rfl):
 QS X (.For tg iter body [] pos) (eI wi g t):=EK (ah9 hp hc hi hg hb hs) fun D σ H ⟨τ,L,D3,rs,rl,z,k⟩=>by
 refine⟨τ,L,_,rs,rl,z,fun J H1 ys keep L1 t1 rl1 yl zz=>?_⟩;obtain⟨W,w0,wk,turn,x8⟩:=zT zz;refine⟨fun i m σ' H'=>∃τ' L',i+m=ys.length/\j7 H1 H'/\vv X.g3 H' σ' τ'/\jf X.g3 H' L'/\W i τ' L',⟨ys.length,τ,L1,by omega,EF _,rs.ts t1,rl1,w0⟩,?_⟩;rintro i m σ2 H2 ⟨τ2,L2,him,t2,rs2,rl2,w2⟩;by_cases hlt:i<ys.length
 ·refine .inr ⟨yl.go i H2 L2 t2 rl2 (wk i τ2 L2 w2) hlt,fun σ' H'=>∃τ' L',j7 H1 H'/\vv X.g3 H' σ' τ'/\jf X.g3 H' L'/\W (i+1) τ' L',?_,?_⟩
  ·rintro σ' H' ⟨τ',L',t',rs',rl',w'⟩;exact⟨m - 1,by omega,τ',L',by omega,t',rs',rl',w'⟩
  ·intro x H3 y3;have ey:ys[i]?=some ys[i]:=Aj hlt;obtain⟨t3,rl3,rv3⟩:=yl.yld i H2 L2 x H3 _ t2 rl2 (wk i τ2 L2 w2) ey y3;refine⟨ys[i],τ2,L2,_,rv3,rs2.ts t3,rl3,turn i _ τ2 L2 ey w2,fun σ4 H4 τ4 L4 t4 rs4 rl4 z4=>?_⟩;have nx:lZ X.g3 H4 (bX (W (i+1))) (fun σ' H'=>∃τ' L',j7 H1 H'/\vv X.g3 H' σ' τ'/\jf X.g3 H' L'/\W (i+1) τ' L'):=fun σ' H' τ' L' t' rs' rl' ⟨L5,s5,n'⟩=>⟨τ',L5,((t2.trans t3).trans t4).trans t',rs',rl'.sub s5,n'⟩;have k2:=k.ts (t1.trans ((t2.trans t3).trans t4));exact⟨τ4,L4,_,rs4,rl4,z4,nx,k2.rt,k2.nx,nx⟩
 ·have e:i=ys.length:=by omega
  subst e;exact .inl ⟨yl.stop H2 L2 t2 rl2 (wk _ τ2 L2 w2),k.nx _ H2 _ L2 (t1.trans t2) rs2 rl2 (x8 τ2 L2 w2)⟩
theorem PI.imp{t u:TI}(h:PI X tg e t)(q:∀σ H Q,u σ H Q->t σ H Q):PI X tg e u:=fun pins s σ H Q I z=>h pins s σ H Q I (q σ H Q z)
theorem iD{a:Addr}{keep:ql->Prop}(h:∀H L,j7 H₀ H->jf G H L->keep L->∃xs,wv G.K H a xs/\x6 G H ys xs):gR G H₀ (Itl G.K a) ys keep where
 go:=fun i H L t rl kp hi=>by
  obtain⟨xs,sq,r⟩:=h H L t rl kp;have:i<xs.length:=by rw[<-r.length];exact hi
  exact⟨xs,xs[i],sq,Aj this⟩
 yld:=fun i H L x H' y t rl kp hy ⟨e,f⟩=>by subst e;obtain⟨xs,sq,r⟩:=h _ L t rl kp;obtain⟨x',e',rv⟩:=r.get hy;have:=f xs sq;rw[e'] at this;cases this;exact⟨EF _,rl,rv⟩
 stop:=fun H L t rl kp=>by obtain⟨xs,sq,r⟩:=h H L t rl kp;exact⟨xs,sq,by rw[r.length];exact An _⟩
theorem xz(h:QE X e te):QI X tg e (k7 te):=PI.imp (adi h) fun σ H R ⟨τ,L,R3,rs,rl,z,k⟩=>by
 refine⟨τ,L,_,rs,rl,z,fun v H1 y L1 t1 rl1 rv1 z1=>?_⟩;cases y with
 |ref a=>
  obtain⟨ys,keep,es,kp,hk,z2⟩:=pW z1;have hy:∀H L,j7 H1 H->jf X.g3 H L->keep L->∃xs,wv X.K H a xs/\x6 X.g3 H ys xs:=fun H L _ rl e=>cx rl (hk L e);obtain⟨xs,sq,_⟩:=hy H1 L1 (EF _) rl1 kp;exact⟨a,rv1,⟨xs,sq⟩,k _ H1 ys _ L1 t1 rl1 (iD hy) z2⟩
 |sq ys=>
  obtain⟨a,xs,e,sf,r⟩:=rv1;exact⟨a,e,⟨xs,sf.sq⟩,k _ H1 ys (fun _=>True) L1 t1 rl1 (iD fun H L t _ _=>⟨xs,(sf.ts t).sq,r.ts t⟩) z1⟩
 |_=>exact z1.elim
theorem rL(lo:Int)(n:Nat):gR G H₀ (Itr lo n) (wx lo n) (fun _=>True) where
 go:=fun i H L t rl kp hi=>show i<n by simpa[wx] using hi
 yld:=fun i H L x H' y t rl kp hy ⟨e,f⟩=>by
  subst e f;refine⟨EF _,rl,?_⟩;unfold wx at hy;rw[Aq] at hy;obtain⟨z,ez,e⟩:=Ay.mp hy;have:=CK (i:=i) (n:=n) (by
   by_cases c:i<n
   ·exact c
   ·rw[BS (by simp;omega)] at ez;cases ez)
  rw[this] at ez;cases ez;subst e;rfl
 stop:=fun H L t rl kp=>by simp[wx,Itr]
theorem aV(hg:Gl X "range")(hm:X.mg "range" = none)(h:QA X [a] tr)(hs:starEach [a] X.env=[(false,eval a X.env)]:=by rfl):QI X tg (.Call (.Name "range" p) [a] [] pos) (dq tr):=
 PI.imp (xB hg hm h hs) fun σ H R ⟨τ,L,R3,rs,rl,z,k⟩=>by
 refine⟨τ,L,_,rs,rl,z,fun vs H1 ys L1 t1 rl1 rv1 z1=>?_⟩;split at z1
 ·rename_i j;obtain⟨x,rfl,r⟩:=rv1.inv1;cases r;exact⟨j,rfl,z1.1.1,z1.1.2,k _ H1 _ _ L1 t1 rl1 (rL 0 _) z1.2⟩
 ·exact z1.elim
end
section
variable {T:List Str}{iter:Expr}{wi:TI3} 
theorem oQ:QF X [] xW:=PF.imp aha fun σ H Q ⟨τ,L,Q3,rs,rl,z,k⟩=>k _ H L (EF _) rl z
theorem cN(h:QT X c tA):QF X [c] tA:=agc h
theorem aeb{g2:TG}(hg2:∀v σ H Q,upG G g v σ H Q->g2 v σ H Q)(σ:L2.St)(H:Hp)(Q:VK):tO G (rS n wi g tA te) σ H Q->tLC n (upI G wi) g2 (upT G tA) (tO G te) σ H Q:=fun⟨τ,L,Q3,rs,rl,z,k⟩=>by
 refine⟨τ,L,_,rs,rl,z,fun J H1 ys keep L1 t1 rl1 yl zz=>?_⟩;obtain⟨hz,W,w0,wk,turn,x8⟩:=abd zz;refine⟨fun i m vs H'=>∃zs L',i+m=ys.length/\zs.length≤i/\j7 H1 H'/\x6 G H' zs vs/\jf G H' L'/\W i zs L',⟨ys.length,[],L1,by exact Nat.add_comm _ _,An _,EF _,rfl,rl1,w0⟩,?_⟩;rintro i m vs H2 ⟨zs,L2,him,hzi,t2,rv2,rl2,w2⟩;by_cases hlt:i<ys.length
 ·refine .inr ⟨yl.go i H2 L2 t2 rl2 (wk i zs L2 w2) hlt,by rw[<-rv2.length];lia,?_⟩;intro x H3 y3;have ey:ys[i]?=some ys[i]:=Aj hlt;obtain⟨t3,rl3,rv3⟩:=yl.yld i H2 L2 x H3 _ t2 rl2 (wk i zs L2 w2) ey y3;refine hg2 _ _ _ _ ⟨ys[i],_,L2,_,rv3,(rs.ts ((t1.trans t2).trans t3)).more n,rl3,turn i _ zs L2 ey w2,fun σ4 H4 τ4 L4 t4 rs4 rl4 z4=>?_⟩;refine⟨τ4,L4,_,rs4,rl4,z4,fun b H5 L5 t5 rl5 z5=>?_⟩;cases b with
  |true=>
   rw[AB rfl];refine⟨τ4,L5,_,rs4.ts t5,rl5,z5,fun v6 H6 y6 L6 t6 rl6 rv6 ⟨L7,s7,z6⟩=>?_⟩;have tt:=((t3.trans t4).trans t5).trans t6;exact⟨m - 1,by omega,zs++[y6],L7,by lia,by rw[Ac,C8];exact ahw,t2.trans tt,(rv2.ts tt).app (x6.one rv6),rl6.sub s7,z6⟩
  |false=>
   rw[Az AC];have tt:=(t3.trans t4).trans t5;obtain⟨L7,s7,z6⟩:=z5;exact⟨m - 1,by lia,zs,L7,by lia,by exact alb,t2.trans tt,rv2.ts tt,rl5.sub s7,z6⟩
 ·have ei:i=ys.length:=by lia
  subst ei;refine .inl ⟨yl.stop H2 L2 t2 rl2 (wk _ zs L2 w2),by rw[<-rv2.length];lia,fun D hD=>?_⟩;exact k _ _ _ _ ((t1.trans t2).trans (EG hD)) (rl2.newL hD rv2) (by rfl) (x8 zs L2 w2 D (rl2.none hD))
structure TGx(X:Cx)(scope:Scope)(T:List Str)(target:Expr)(g:iq):Prop where
 ex:∃g2:TG,(∀C fp s₀ H₀,PG (X.comp scope T C fp s₀ H₀) target g2)/\qO g2 X.N.length T.length/\∀v σ H Q,upG X.g3 g v σ H Q->g2 v σ H Q
theorem adp(i:Nat)(v:V)(σ:L2.St)(H:Hp)(Q:L2.St->Hp->Prop):upG G (qh i) v σ H Q->jY i v σ H Q:=fun⟨y,τ,L,Q3,rv,rs,rl,z,k⟩=>
 k _ H _ L (EF _) (show vv _ _ _ (fV τ i y) by rw[cG];exact rs.set rv) rl z
theorem xq(hN:(X.N++[x]).Nodup)(hl:∀C fp s₀ H₀,yy (X.comp scope [x] C fp s₀ H₀).env.scope x)(hfn:∀C fp s₀ H₀,(X.comp scope [x] C fp s₀ H₀).env.scope.names.lookup x=some .local):TGx X scope [x] (.Name x p) (qh X.N.length):=
 ⟨jY X.N.length,fun C fp s₀ H₀=>tW (X:=X.comp scope [x] C fp s₀ H₀) hN (by show(X.N++[x])[X.N.length]?=some x;simp) (hl C fp s₀ H₀) (.inr (hfn C fp s₀ H₀)),sK _,adp _⟩
theorem gg(T:List Str)(S:ja X scope)(hc:X.calm=true)(hi:QI X target iter wi)(hg:TGx X scope T target g)
 (hf:∀C fp s₀ H₀,QF (X.comp scope T C fp s₀ H₀) ifs tA) (he:∀C fp s₀ H₀,QE (X.comp scope T C fp s₀ H₀) elt te)
 (hs:∀x,foldedSetIterable iter X.env x=pure x:=by intro _;rfl):QE X (.ListComp elt [⟨target,iter,ifs,0⟩] scope pos) (rS T.length wi g tA te):=by
 obtain⟨g2,h1,h2,h3⟩:=hg.ex;exact EH (aiq T S hc hi h1 h2 hf he hs) (aeb h3)
theorem dD(T:List Str){px lp:Pos}(hN:X.N.Nodup)(hix:X.N[i]?=some x)(hx:yy X.env.scope x)(S:ja X scope)(hc:X.calm=true)(hi:QI X target iter wi)
 (hg:TGx X scope T target g) (hf:∀C fp s₀ H₀,QF (X.comp scope T C fp s₀ H₀) ifs tA) (he:∀C fp s₀ H₀,QE (X.comp scope T C fp s₀ H₀) elt te)
 (hsw:swapsWith (.ListComp elt [⟨target,iter,ifs,0⟩] scope lp) (some (.Name x px)) pos.line X.env=pure true:=by rfl)
 (hfn:X.fn x=true\/X.env.scope.names.lookup x=some .local:=by first | exact .inl rfl | exact .inr rfl | assumption)
 (hs:∀x,foldedSetIterable iter X.env x=pure x:=by intro _;rfl):QS X (.Assign [.Name x px] (.ListComp elt [⟨target,iter,ifs,0⟩] scope lp) pos) (j5 (rS T.length wi g tA te) (qh i)):=by
 obtain⟨g2,h1,h2,h3⟩:=hg.ex;refine EK (yq (tc:=upT X.g3 tA) (te:=tO X.g3 te) T hN hix hx S hc hi h1 h2 hf he hsw hfn hs) fun D σ H ⟨τ,L,D3,rs,rl,z,k⟩=>?_;refine aeb h3 σ H _ ⟨τ,L,_,rs,rl,z,fun v H1 y L1 t1 rl1 rv1 z1=>?_⟩;exact k.nx _ H1 _ L1 t1 (show vv _ _ _ (fV τ i y) by rw[cG];exact(rs.ts t1).set rv1) rl1 z1
def dn(G:G3)(sp:x0):Sp:=fun vs H Q _=>∃ys L Q3,x6 G H ys vs/\jf G H L/\sp ys L Q3/\xG G H Q3 Q
abbrev af6(P:Program)(w:World)(K:Ai)(mg:Str->Option Value)(base:Heap)(k:Nat)(x:Str)(ps:List Str)(sp:x0):Prop:=xF P w K mg base k x ps (dn ⟨K,P,w⟩ sp)
abbrev Fn3(P:Program)(w:World)(K:Ai)(mg:Str->Option Value)(base:Heap)(k:Nat)(f:Addr)(fd:FuncData)(ps:List Str)(sp:x0):Prop:=bJ P w K mg base CX0 k f fd ps (dn ⟨K,P,w⟩ sp)
theorem amg{k:Nat}{sp:x0}(c:af6 X.prog X.w X.K X.mg X.base k x ps sp)(hr:aI k X.A)(hg:Gl X x)(ha:QA X (e::es) tr)(hdb:Ef x:=by decide)
 (he:Ed e es X:=by rfl) (hpl:Ee pos es X:=by rfl):QE X (.Call (.Name x p) (e::es) [] pos) (za sp tr):=
 EH (ald c hr hg ha hdb he hpl) fun σ H Q ⟨τ,L,Q3,rs,rl,z,k⟩=>
 ⟨τ,L,_,rs,rl,z,fun vs H1 ys L1 t1 rl1 rv1 z1=>⟨ys,L1,Q3,by rw[AQ];exact rv1,rl1,z1,k.ts t1⟩⟩
def fz(Q:YK):YK:=fun y L=>∃L2,qj L2 L/\Q y L2
def gd(N:List Str)(ys:List Y):jn:=ys.map some++List.replicate (N.length - ys.length) none
theorem ln{N:List Str}{vs:List V}(r:x6 G H ys vs):vv G H (L2.start N vs) (gd N ys):=by unfold L2.start gd;rw[<-r.length];refine vv.more ⟨by simp[r.length],fun i y e=>?_⟩ _;rw[Aq] at e;obtain⟨y',e1,e2⟩:=Ay.mp e;cases e2;obtain⟨x,ex,rx⟩:=r.get e1;exact⟨x,by rw[Aq,ex];rfl,rx⟩
theorem ok3{P:Program}{w:World}{K:Ai}{N:List Str}{k:Nat}{sp:x0}(F:Fun K x qual st f fd)(S:aR N ps (qu st))(len:∀ys L Q,sp ys L Q->ys.length=ps.length)
 (hbody:∀(cdv:Value) (A:Around) (outer:List Env) (s:Shared) (H:Hp) (E:XK),aI k (A.deeper (PyProof.Rows.envOfC qual (qu st) s.heap.objs.size f cdv))->
  ∃t,rQ (iF CX0 P w K mg base N qual (qu st) f cdv A outer s H E).nox (jl st) t/\∀ys L Q,sp ys L Q->t { nx:=fun _ L'=>fz Q .non L',rt:=fz Q } (gd N ys) L):Fn3 P w K mg base (k+1) f fd ps sp:=by
 refine F.ok S (fun vs H Q E ⟨ys,L,Q3,rv,rl,z,_⟩=>by rw[<-rv.length];exact len ys L Q3 z) fun cdv A outer s H vs Q E hr ⟨ys,L,Q3,rv,rl,z,k⟩=>?_;obtain⟨t,ht,q⟩:=hbody cdv A outer s H E hr;refine⟨_,ht,gd N ys,L,_,ln rv,rl,q ys L Q3 z,?_⟩;refine⟨fun σ H' τ L' t' rs' rl' ⟨L2,s2,q2⟩=>k .non H' .non L2 t' (rl'.sub s2) (by rfl) q2,fun v H' y L' t' rl' rv' ⟨L2,s2,q2⟩=>k v H' y L2 t' (rl'.sub s2) rv' q2,fun _ _ _ _ _ _ _ z=>z.elim,fun _ _ _ _ _ _ _ z=>z.elim⟩
def upM(G:G3)(r:Y->List Y->ql->YK->Prop):V->List V->Hp->VK->Prop:=fun x xs H Q=>∃y ys L Q3,RV G H y x/\x6 G H ys xs/\jf G H L/\r y ys L Q3/\xG G H Q3 Q
theorem yt:hX X "list.append" (upM X.g3 j8):=hX.imp uk fun x xs H Q ⟨y,ys,L,Q3,r1,r2,rl,z,k⟩=>by
 unfold j8 at z;split at z
 ·rename_i a v;obtain⟨zs,e,z⟩:=jy z;obtain⟨us,e2,r⟩:=rl a _ e;obtain⟨v',rfl,rv⟩:=r2.inv1;exact⟨a,us,v',r1,rfl,e2,by rw[<-r.length];exact z.1,k _ _ _ _ (EM e2) (rl.setL e2 (r.app (x6.one rv))) (by rfl) z.2⟩
 ·exact z.elim
theorem yM:hX X "list.extend" (upM X.g3 dJ):=hX.imp u0 fun x xs H Q ⟨y,ys,L,Q3,r1,r2,rl,z,k⟩=>by
 unfold dJ at z;split at z
 ·rename_i a b;obtain⟨zs,e,z⟩:=jy z;obtain⟨us,e',z⟩:=jy z;obtain⟨vs,e2,r⟩:=rl a _ e;obtain⟨ws,e3,r'⟩:=rl b _ e';obtain⟨v',rfl,rv⟩:=r2.inv1;cases rv;exact⟨a,b,vs,ws,r1,rfl,e2,e3,by rw[<-r.length,<-r'.length];exact z.1,k _ _ _ _ (EM e2) (rl.setL e2 (r.app r')) (by rfl) z.2⟩
 ·exact z.elim
theorem ajg:hX X "list.pop" (upM X.g3 yg):=hX.imp afi fun x xs H Q ⟨y,ys,L,Q3,r1,r2,rl,z,k⟩=>by
 unfold yg at z;split at z
 ·rename_i a;obtain⟨zs,e,z⟩:=jy z;obtain⟨us,e2,r⟩:=rl a _ e;cases (show xs=[] from r2);cases el:zs[zs.length - 1]? with
  |none=>rw[el] at z;exact z.elim
  |some v=>
   rw[el] at z;obtain⟨u,eu,ru⟩:=r.get el;rw[r.length] at eu;exact⟨a,us,u,r1,rfl,e2,eu,k _ _ _ _ (EM e2) (rl.setL e2 r.dropLast) (ru.ts (EM e2)) z⟩
 ·exact z.elim
theorem tM{a:Addr}(rl:jf G H L)(h:bL L (.ref a)=some ys):tyV G.K "list" (.ref a) H:=by obtain⟨xs,sq,_⟩:=cx rl h;exact .inl ⟨rfl,xs,sq⟩
def aq(r:Y->List Y->ql->YK->Prop)(to:xx)(t:eL)(τ:jn)(L:ql)(Q:YK):Prop:=to τ L fun x L1=>match x with
 |.ref a=>dm L1 (.ref a) fun _=>t τ L1 fun xs L2=>r (.ref a) xs L2 Q
 |_=>False
theorem nV{id:String}{r:Y->List Y->ql->YK->Prop}(h2:Slot "list" name id)(h3:typeOf (.builtin id)=pure (.type "method_descriptor"))(hm:hX X id (upM X.g3 r))(ho:QE X o to)(ha:QA X (e::es) tr)
 (h4:attributeBase o name X.env (eval o X.env)=eval o X.env:=by rfl)
 (h5:((backTo cpos (starEach (e::es) X.env)).all (fun x=>!x.1)&&(backToKw cpos (keywordEach [] X.env)).all (fun x=>x.1.isSome)&&decide ((e::es).length+([]:List Keyword).length+(if ([]:List Keyword).isEmpty=true then 0 else 1)<30))=true:=by rfl)
 (h6:(apos.endLine==cpos.line)=true:=by rfl) (h7:Ed e es X:=by rfl) (h8:Ee cpos es X:=by rfl):
 QE X (.Call (.Attribute o name apos) (e::es) [] cpos) (aq r to tr):=EH (aeh DG h2 h3 hm ho ha h4 h5 h6 h7 h8) fun σ H Q ⟨τ,L,Q3,rs,rl,z,k⟩=>
 ⟨τ,L,_,rs,rl,z,fun v H1 y L1 t1 rl1 rv1 z1=>by
  split at z1
  ·rename_i a;obtain⟨ys,es,z1⟩:=vo z1;exact⟨by cases rv1;exact tM rl1 es,τ,L1,_,rs.ts t1,rl1,z1,fun vs H2 ys L2 t2 rl2 rv2 z2=>⟨.ref a,ys,L2,Q3,rv1.ts t2,rv2,rl2,z2,k.ts (t1.trans t2)⟩⟩
  ·exact z1.elim⟩
theorem aau{id:String}{r:Y->List Y->ql->YK->Prop}(h2:Slot "list" name id)(h3:typeOf (.builtin id)=pure (.type "method_descriptor"))(hm:hX X id (upM X.g3 r))(ho:QE X o to)
 (h4:attributeBase o name X.env (eval o X.env)=eval o X.env:=by rfl) (h6:(apos.endLine==cpos.line)=true:=by rfl):
 QE X (.Call (.Attribute o name apos) [] [] cpos) (aq r to z0):=EH (afx DG h2 h3 hm ho h4 h6) fun σ H Q ⟨τ,L,Q3,rs,rl,z,k⟩=>
 ⟨τ,L,_,rs,rl,z,fun v H1 y L1 t1 rl1 rv1 z1=>by
  split at z1
  ·rename_i a;obtain⟨ys,es,z1⟩:=vo z1;exact⟨by cases rv1;exact tM rl1 es,.ref a,[],L1,Q3,rv1,rfl,rl1,z1,k.ts t1⟩
  ·exact z1.elim⟩
theorem zg(ho:QE X o to)(ha:QA X (e::es) tr)(h4:attributeBase o "append" X.env (eval o X.env)=eval o X.env:=by rfl)
 (h5:((backTo cpos (starEach (e::es) X.env)).all (fun x=>!x.1)&&(backToKw cpos (keywordEach [] X.env)).all (fun x=>x.1.isSome)&&decide ((e::es).length+([]:List Keyword).length+(if ([]:List Keyword).isEmpty=true then 0 else 1)<30))=true:=by rfl)
 (h6:(apos.endLine==cpos.line)=true:=by rfl) (h7:Ed e es X:=by rfl) (h8:Ee cpos es X:=by rfl):
 QE X (.Call (.Attribute o "append" apos) (e::es) [] cpos) (aq j8 to tr):=nV PySem.F.slot_list_append PySem.F.type_list_append yt ho ha h4 h5 h6 h7 h8
theorem ft(ho:QE X o to)(ha:QA X (e::es) tr)(h4:attributeBase o "extend" X.env (eval o X.env)=eval o X.env:=by rfl)
 (h5:((backTo cpos (starEach (e::es) X.env)).all (fun x=>!x.1)&&(backToKw cpos (keywordEach [] X.env)).all (fun x=>x.1.isSome)&&decide ((e::es).length+([]:List Keyword).length+(if ([]:List Keyword).isEmpty=true then 0 else 1)<30))=true:=by rfl)
 (h6:(apos.endLine==cpos.line)=true:=by rfl) (h7:Ed e es X:=by rfl) (h8:Ee cpos es X:=by rfl):
 QE X (.Call (.Attribute o "extend" apos) (e::es) [] cpos) (aq dJ to tr):=nV PySem.F.slot_list_extend PySem.F.type_list_extend yM ho ha h4 h5 h6 h7 h8
theorem ah1(ho:QE X o to)(h4:attributeBase o "pop" X.env (eval o X.env)=eval o X.env:=by rfl)(h6:(apos.endLine==cpos.line)=true:=by rfl):
 QE X (.Call (.Attribute o "pop" apos) [] [] cpos) (aq yg to z0):=aau PySem.F.slot_list_pop PySem.F.type_list_pop ajg ho h4 h6
end
abbrev iG:qT:=yL fun i j=>.int (i - j)
abbrev sk:qT:=yI aag fun i j=>.int (i*j)
abbrev ar:qT:=yI ahh fun i j=>.int (i / j)
abbrev wm:qT:=yI (fun _ j=>0<j) fun i j=>.int (i % j)
abbrev amr:qT:=yI af9 fun i j=>.int (i ^ j.toNat)
abbrev yLt:qT:=yL fun i j=>.bl (decide (i<j))
abbrev yLe:qT:=yL fun i j=>.bl (decide (i≤j))
abbrev yGt:qT:=yL fun i j=>.bl (decide (j<i))
abbrev yGe:qT:=yL fun i j=>.bl (decide (j≤i))
structure ak9(G:G3)(mg:Str->Option Value)(x:Str)(y:Y):Prop where
 ex:∃c,mg x=some (.ref c)/\∀H,RV G H y (.ref c)
theorem ah8(t:ak9 X.g3 X.mg x y)(hg:Gl X x)(hd:Ef x:=by decide):QE X (.Name x pos) (yC y):=by obtain⟨c,hm,q⟩:=t.ex;exact aj1 hg hm q hd
def aes(kvs:List (Str×Str)):LO:=.dct (kvs.map fun p=>(Sum.inr p.1,Y.str p.2))
def aeo(kvs:List (Str×Str))(_:jn)(L:ql)(Q:YK):Prop:=∀p,L p=none->Q (.ref p) (qg L p (aes kvs))
def kvV(kvs:List (Str×Str)):List (j3×V):=kvs.map fun p=>(Sum.inr p.1,V.str p.2)
theorem qB{σ:L2.St}{H:Hp}{Q:List (V×V)->Hp->Prop}:∀{kvs:List (Str×Str)},Q (kvs.map fun p=>(V.str p.1,V.str p.2)) H->mZ (kvs.map fun p=>(tC (.str p.1),tC (.str p.2))) σ H Q
 |[],h=>h
 |_::r,h=>qB (kvs:=r) h
theorem uV{G:G3}{H:Hp}:∀kvs:List (Str×Str),Paired (fun(p:j3×Y) (q:j3×V)=>p.1=q.1/\RV G H p.2 q.2) (kvs.map fun p=>(Sum.inr p.1,Y.str p.2)) (kvV kvs)
 |[]=>.nil
 |_::r=>.cons ⟨rfl,rfl⟩ (uV r)
theorem ae6{keys:List (Option Expr)}{values:List Expr}(kvs:List (Str×Str))(h:PPs X pos keys values (kvs.map fun p=>(tC (.str p.1),tC (.str p.2))))(h1:(keys.all fun x=>x.isSome)=true)(h2:keys.length=values.length)(h3:keys≠[])(h4:keys.length≤15)
 (h5:kvs.length≤15:=by decide) (nd:gS [] (kvV kvs)=kvV kvs:=by decide +kernel):QE X (.Dict keys values pos) (aeo kvs):=EH (adl h h1 h2 h3 h4) fun σ H Q ⟨τ,L,Q3,rs,rl,z,k⟩=>by
 intro p hp;refine qB ⟨j4,kvV kvs,by simp[kvV,kV],by simpa[kvV] using h5,?_⟩;rw[nd,ae2];refine k _ _ _ (qg L p (aes kvs)) (EG hp) ?_ (by rfl) (z p (rl.none hp));intro a u e;by_cases c:a=p
 ·subst c;rw[q9] at e;cases e;exact⟨kvV kvs,j4,uV kvs⟩
 ·rw[qb c] at e;exact(rl a u e).keep (EG hp) (qr c)
theorem iW{Q:α->ql->Prop}{o:Option α}(h:tR L Q o):∃v,o=some v/\Q v L:=by cases o with|none=>exact h.elim|some v=>exact⟨v,rfl,h⟩
theorem iC{kvs:List (Str×Str)}{k:Str}(h:kvs.lookup k=some x):xm (kvs.map fun p=>((Sum.inr p.1:j3),Y.str p.2)) (Sum.inr k)=some (Y.str x):=by
 induction kvs with
 |nil=>simp at h
 |cons p r ih=>
  obtain⟨a,b⟩:=p;unfold xm;rw[AF,Bo];rw[Bs] at h;by_cases c:k=a
  ·subst c;simp at h;simp[h]
  ·have c1:(k==a)=false:=by simpa using c
   rw[c1] at h;have c2:decide ((Sum.inr a:j3)=Sum.inr k)=false:=Ax fun z=>c (Sum.inr.inj z).symm;simp only[c2];exact ih h
theorem uT(h:(wx lo n)[i]?=some y):i<n/\y=.int (lo+i):=by
 unfold wx at h;rw[Aq] at h;obtain⟨z,ez,e⟩:=Ay.mp h;have hi:i<n:=by
  by_cases c:i<n
  ·exact c
  ·rw[BS (by simp;exact yb)] at ez;cases ez
 rw[CK hi] at ez;cases ez;exact⟨hi,e.symm⟩
theorem lC(lo:Int)(n:Nat):(wx lo n).length=n:=by simp[wx]
theorem acl{tb:ww}(W:Nat->jn->ql->Prop)(h0:W 0 τ L)
 (hs:∀i τ L,i<n->W i τ L->g (.int (lo+i)) τ L fun τ2 L2=>tb { D with nx:=bX (W (i+1)),ct:=bX (W (i+1)),bk:=D.nx } τ2 L2) (hd:∀τ L,W n τ L->D.nx τ L):pX (wx lo n) (fun _=>True) g tb D τ L:=by
 refine vf ⟨W,h0,fun _ _ _ _=>trivial,fun i y τ L e w=>?_,fun τ L w=>hd τ L (by rw[lC] at w;exact w)⟩;obtain⟨hi,rfl⟩:=uT e;exact hs i τ L hi w
theorem ah4{a:Addr}{v:Y}{Q:YK}(e:L a=some (.lst (ys++[v])))(q:Q v (qg L a (.lst ys))):dm L (.ref a) (fun _=>z0 τ L fun xs L2=>yg (.ref a) xs L2 Q):=by
 refine qd e (qw e ?_);have:(ys++[v])[(ys++[v]).length - 1]?=some v:=by simp
 rw[this,List.dropLast_concat];exact q
theorem acf{tb:ww}{a:Addr}(h:bL L (.ref a)=some ys)(W:Nat->jn->ql->Prop)(h0:W 0 τ L)(hk:∀i τ L',W i τ L'->L' a=L a)
 (hs:∀i y τ L,ys[i]?=some y->W i τ L->g y τ L fun τ2 L2=>tb { D with nx:=bX (W (i+1)),ct:=bX (W (i+1)),bk:=D.nx } τ2 L2) (hd:∀τ L,W ys.length τ L->D.nx τ L):
 om L a fun ys keep L1=>pX ys keep g tb D τ L1:=xo (gW h) fun keep kp=>vf ⟨W,h0,fun i τ L' w=>kp L' (hk i τ L' w),hs,hd⟩
theorem cf{keep:ql->Prop}{tc:kG}{Q:YK}(I:Nat->List Y->Prop)(hz:ys.length<sizeLine)(hk:keep L)(h0:I 0 [])
 (turn:∀(i:Nat) y zs,ys[i]?=some y->I i zs->g y (τ++List.replicate n none) L fun τ2 L2=>tc τ2 L2 fun b L3=>aE b (te τ2 L3 fun z L4=>bX (fun zs L'=>L'=L/\I (i+1) zs) (zs++[z]) L4) (bX (fun zs L'=>L'=L/\I (i+1) zs) zs L3))
 (hq:∀zs,I ys.length zs->∀p,L p=none->Q (.ref p) (qg L p (.lst zs))):lcK ys keep n g tc te τ L Q:=by
 refine aa5 ⟨hz,fun i zs L'=>L'=L/\I i zs,⟨rfl,h0⟩,?_,?_,?_⟩
 ·rintro i zs L' ⟨rfl,_⟩;exact hk
 ·rintro i y zs L' ey ⟨rfl,hI⟩;exact turn i y zs ey hI
 ·rintro zs L' ⟨rfl,hI⟩ p hp;exact hq zs hI p hp
theorem oA{tc:kG}{Q:YK}(I:Nat->List Y->Prop)(hz:m<sizeLine)(h0:I 0 [])
 (turn:∀(i:Nat) zs,i<m->I i zs->g (.int (lo+i)) (τ++List.replicate n none) L fun τ2 L2=>tc τ2 L2 fun b L3=>aE b (te τ2 L3 fun z L4=>bX (fun zs L'=>L'=L/\I (i+1) zs) (zs++[z]) L4) (bX (fun zs L'=>L'=L/\I (i+1) zs) zs L3))
 (hq:∀zs,I m zs->∀p,L p=none->Q (.ref p) (qg L p (.lst zs))):lcK (wx lo m) (fun _=>True) n g tc te τ L Q:=by
 refine cf (keep:=fun _=>True) I (by rw[lC];exact hz) trivial h0 (fun i y zs e hI=>?_) fun zs hI=>hq zs (by rw[lC] at hI;exact hI);obtain⟨hi,rfl⟩:=uT e;exact turn i zs hi hI
theorem km{ws:List α}{f:α->Y}{w:α}(h:ws[i]?=some w):fg (ws.map f) (i:Int)=some (f w):=kn (by rw[Aq,h];rfl)
def v3(t:ww)(n:Nat)(ys:List Y)(L:ql)(Q:YK):Prop:=t { nx:=fun _ L'=>fz Q .non L',rt:=fz Q } (ys.map some++List.replicate (n - ys.length) none) L
theorem x8{Q:YK}(h:Q y L):fz Q y L:=⟨L,EE L,h⟩
theorem cD{Q:YK}(s:qj L L')(h:Q y L):fz Q y L':=⟨L,s,h⟩
theorem Fn3.never{P:Program}{w:World}{K:Ai}{k:Nat}{sp:x0}(no:∀ys L Q,¬sp ys L Q):Fn3 P w K mg base k f fd ps sp:=
 bJ.never fun vs H Q E ⟨ys,L,Q3,_,_,z,_⟩=>no ys L Q3 z
theorem qj.upd{a:Addr}{o:LO}(s:qj L L')(h:L a=none):qj L (qg L' a o):=fun b u e=>by rw[qb (w6 e h)];exact s b u e
theorem qj.put{a:Addr}{o:LO}(s:qj L L')(h:L' a=some o):qj (qg L a o) L':=fun b u e=>by
 by_cases c:b=a
 ·subst c;rw[q9] at e;cases e;exact h
 ·rw[qb c] at e;exact s b u e
abbrev EY:=@qj.put
theorem qS{G:G3}{H:Hp}:∀ns:List Int,x6 G H (ns.map Y.int) (ns.map V.int)
 |[]=>rfl
 |_::r=>⟨_,_,rfl,rfl,qS r⟩
end L3
namespace L2
open PySem PySem.Spec PyProof.Rows
section
variable {σ:L2.St} 
theorem jR(I:qx X pins σ H s)(hf:∀b∈fp,H b=none)(k:∀b o,b∉fp->s.heap.get? b=some o->h'.get? b=some o):dg X.prog X.w H h':=fun b u e=>by
 refine(I.hok b u e).stay (fun c v hc q=>k c v (fun z=>?_) q) (fun _ q=>q) fun _ _ q=>q;have hn:=hf c z;rcases hc with w | w
 ·rw[w,e] at hn;cases hn
 ·rw[w] at hn;cases hn
theorem vB{fs:List Addr}(k:∀b o,b∉fp->h.get? b=some o->h'.get? b=some o):Un fs fp H H h h':=
 ⟨fun b o q _ _ x=>k b o x q,fun b o q _ _ x=>⟨o.slots,k b o x q⟩,fun _ _ _ n _=>n,fun b o q x=>⟨o,k b o x q⟩,fun _ _ q=>q,fun _ _ _ q=>q,fun b ps q=>⟨#[],by rw[q];simp⟩⟩
theorem qx.turnedL(I:qx X pins σ H s)(k:∀b o,b∉fp->s.heap.get? b=some o->h'.get? b=some o)(hf:∀b∈fp,lT X pins H b)(ht:0<t':=by walk_at "t"):qx X pins σ H { s with heap:=h',toks:=t' }:=
 I.call' (s':={ s with heap:=h',toks:=t' }) (ch:=fp) rfl (vB k) (jR I (fun b hb=>(hf b hb).1) k) I.bare fun b hb=>⟨(hf b hb).2.2.2.1,(hf b hb).2.1,(hf b hb).2.2.2.2.1,(hf b hb).2.2.2.2.2⟩
theorem qx.turnedN{a:Addr}{o:HO}(I:qx X pins σ H s)(k:∀b o,b∉fp->s.heap.get? b=some o->h'.get? b=some o)(hf:∀b∈fp,lT X pins H b)(ha:s.heap.objs.size≤a)
 (new:xg X.prog X.w (upd H a o) h' a o) (ht:0<t':=by walk_at "t"):qx X pins σ (upd H a o) { s with heap:=h',toks:=t' }:=by
 have hn:H a=none:=I.hok.fresh ha;have lt:∀b ob,s.heap.get? b=some ob->b≠a:=fun b ob q=>Bd (AR (Heap.lt_size q) ha);refine I.call' (s':={ s with heap:=h',toks:=t' }) (ch:=fp) rfl ?_ ?_ I.bare fun b hb=>⟨(hf b hb).2.2.2.1,(hf b hb).2.1,(hf b hb).2.2.2.2.1,(hf b hb).2.2.2.2.2⟩
 ·exact⟨fun b ob q _ _ x=>k b ob x q,fun b ob q _ _ x=>⟨ob.slots,k b ob x q⟩,fun b ob q n _=>by rw[qr (lt b ob q)];exact n,fun b ob q x=>⟨ob,k b ob x q⟩,
   fun b xs q=>by rw[qr (zq q hn)];exact q,fun b ob u q=>by rw[qr (zq q hn)];exact q,fun b ps q=>⟨#[],by rw[qr (zq q hn),q];simp⟩⟩
 ·intro b u e;by_cases hb:b=a
  ·subst hb;rw[j4] at e;cases e;exact new
  ·rw[qr hb] at e;have ok:=jR I (h':=h') (fun b hb=>(hf b hb).1) k b u e;exact ok.stay (fun _ _ _ q=>q) (fun c q=>by rw[qr (zq q hn)];exact q) fun c xs q=>by rw[qr (zq q hn)];exact q
end
def Ite(K:Ai)(a:Addr):It:=
 ⟨fun i H=>∃xs x,wv K H a xs/\xs[i]?=some x,fun i H v H'=>∃p x,H p=none/\v=.ref p/\H'=upd H p (.tup [.int i,x])/\∀xs,wv K H a xs->xs[i]?=some x,fun i H=>∃xs,wv K H a xs/\xs.length≤i⟩
theorem vP{P:Program}{w:World}{K:Ai}(a e it:Addr)(hne:e≠it):wB P w K (.Tuple elts x1 tp) (Ite K a) [e,it] e (fun i h=>(∃old,IsEnum h e it i old)/\h.IsListIter it a i) where
 mem:=by simp
 obj:=fun i h ⟨⟨old,he⟩,hi⟩ b hb=>by
  rcases Av.mp hb with rfl | hb
  ·exact⟨_,he,fun v z=>by cases z⟩
  ·cases Ak.mp hb;obtain⟨o,ho,hc,hd⟩:=hi;exact⟨o,ho,fun v z=>by rw[hd] at z;cases z⟩
 keep:=fun i h h' ⟨⟨old,he⟩,hi⟩ k=>⟨⟨old,k e (by simp) _ he⟩,hi.at fun o q=>k it (by simp) o q⟩
 item:=by
  intro X hP hw hK hc i pins s σ H E I hf ⟨⟨old,he⟩,hi⟩ hg;subst hP hw hK;obtain⟨xs,x,hq,hx⟩:=hg;obtain⟨its,rv,p,hz⟩:=I.list hq;obtain⟨u,hu,ru⟩:=rv.get hx;refine wpAny_pyNext_enum_item he hi p.isList (x:=u) (by simpa using hu) hne fun h1 heo hi1 ht hz1 hk=>⟨.ref s.heap.objs.size,rfl,wpAny_letOwnedTupleGo_enum heo fun h2 he2 hs2=>?_⟩;have el:e<s.heap.objs.size:=Heap.lt_size he;have il:it<s.heap.objs.size:=by obtain⟨o,ho,_⟩:=hi;exact Heap.lt_size ho
  have kk:∀b o,b∉[e,it]->s.heap.get? b=some o->h2.get? b=some o:=fun b o nb q=>by have n1:b≠e:=fun z=>nb (by simp[z]);have n2:b≠it:=fun z=>nb (by simp[z]);exact hs2.extBut b o n1 (hk b o n1 n2 q)
  have tg:h2.get? s.heap.objs.size=some { cls:=.type "tuple",data:=.seq #[.int i s.toks,u] }:=hs2.extBut _ _ (C0 el) ht;refine⟨.ref s.heap.objs.size,upd H s.heap.objs.size (.tup [.int i,x]),?_,rfl,⟨_,x,I.hok.fresh (An _),rfl,rfl,fun ys hy=>by rw[I.list_inj hy hq];exact hx⟩,⟨⟨_,he2⟩,hi1.at fun o q=>hs2.extBut _ _ (AM hne) q⟩,fun b hb=>?_⟩
  ·exact I.turnedN (t':=s.toks+1) kk hf (An _) ⟨by show 2≤sizeLine;decide,[.int i s.toks,u],.cons ⟨_,rfl⟩ (.cons ru .nil),⟨_,tg,rfl,_,rfl⟩⟩
  ·have hb':b<s.heap.objs.size:=by rcases Av.mp hb with rfl | hb;exact el;cases Ak.mp hb;exact il
   rw[qr (Bd hb')];exact(hf b hb).1
 done:=by intro X hP hw hK hc i pins s σ H E I hf ⟨⟨old,he⟩,hi⟩ hg;subst hP hw hK;obtain⟨xs,hq,hx⟩:=hg;obtain⟨its,rv,p,hz⟩:=I.list hq;have hl:=rv.length;exact wpAny_pyNext_enum_end (I.ok.hd hc) he hi p.isList (by simp;omega) fun h1 eb=>⟨rfl,I.turnedL (t':=s.toks) (fp:=[e,it]) (fun b o nb q=>eb b o (fun z=>nb (by simp[z])) q) hf⟩
 self:=fun _ _ _ _ _ ⟨⟨_,he⟩,_⟩ h=>wpAny_pyIter_enum he h
def aj8(K:Ai)(ta:TA):TI:=fun σ H R=>ta σ H fun vs H1=>∃a,vs=[.ref a]/\(∃xs,wv K H1 a xs)/\R (Ite K a) H1
theorem m4:bootBuiltins "enumerate" = some (.type "enumerate"):=by decide +kernel
theorem acn{a:Expr}{ta:TA}(hg:Gl X "enumerate")(hm:X.mg "enumerate" = none)(ha:PA X [a] ta)(hs:starEach [a] X.env=[(false,eval a X.env)]:=by rfl):
 PI X (.Tuple elts x1 tp) (.Call (.Name "enumerate" p) [a] [] pos) (aj8 X.K ta):=by
 intro pins s σ H R I h;refine Call_ (du I hg hm m4 (BZ (v0 (ha pos pins s σ H _ I h) fun us s1 ⟨vs,H1,I1,r1,q1⟩=>?_) hs rfl));obtain⟨l,e,⟨xs,hq⟩,q⟩:=q1;subst e;obtain⟨u,rfl,ru⟩:=kI r1;cases ru;obtain⟨its,rv,pl,hz⟩:=I1.list hq;refine call_enumerate_list pl.isList fun h1 he hi hsz hk=>?_;have I2:qx X pins σ H1 { s1 with heap:=h1 }:=I1.kept (t':=s1.toks) hk;refine wpAny_pyIter_enum (s:={ s1 with heap:=h1 }) he ?_;refine⟨s1.heap.objs.size+1,[s1.heap.objs.size+1,s1.heap.objs.size],_,_,H1,rfl,I2,vP l _ _ (Nat.succ_ne_self _),⟨⟨_,he⟩,hi⟩,fun b hb=>?_,q⟩;have hb':s1.heap.objs.size≤b:=by rcases Av.mp hb with rfl | hb;exact BW _;cases Ak.mp hb;exact An _
 exact I1.fpOk hb' (I1.hok.fresh hb')
end L2
namespace L3
open PySem L2
theorem hU{a:Addr}{keep:ql->Prop}(h:∀H L,j7 H₀ H->jf G H L->keep L->∃xs,wv G.K H a xs/\x6 G H ys xs):gR G H₀ (Ite G.K a) (ys.zipIdx.map fun p=>Y.tup [.int (p.2:Nat),p.1]) keep where
 go:=fun i H L t rl kp hi=>by
  obtain⟨xs,sq,r⟩:=h H L t rl kp;have:i<xs.length:=by rw[<-r.length];simpa using hi
  exact⟨xs,xs[i],sq,Aj this⟩
 yld:=fun i H L x H' y t rl kp hy ⟨p,z,hp,e1,e2,f⟩=>by subst e1 e2;obtain⟨xs,sq,r⟩:=h H L t rl kp;rw[Aq,List.getElem?_zipIdx] at hy;obtain⟨⟨y',j⟩,ey,e3⟩:=Ay.mp hy;obtain⟨y'',ey',e4⟩:=Ay.mp ey;cases e4;subst e3;obtain⟨x',e',rv⟩:=r.get ey';have:=f xs sq;rw[e'] at this;cases this;refine⟨EG hp,rl.skip hp,p,_,rfl,cM.of j4,⟨_,_,rfl,?_,_,_,rfl,rv.ts (EG hp),rfl⟩⟩;show V.int _=V.int _;congr 1;simp
 stop:=fun H L t rl kp=>by obtain⟨xs,sq,r⟩:=h H L t rl kp;exact⟨xs,sq,by rw[Ae,List.length_zipIdx,r.length];exact An _⟩
def mS(ys:List Y):List Y:=ys.zipIdx.map fun p=>Y.tup [.int (p.2:Nat),p.1]
theorem qG(h:(mS ys)[i]?=some y):∃z,ys[i]?=some z/\y=.tup [.int i,z]:=by unfold mS at h;rw[Aq,List.getElem?_zipIdx] at h;obtain⟨⟨y',j⟩,ey,e3⟩:=Ay.mp h;obtain⟨y'',ey',e4⟩:=Ay.mp ey;cases e4;exact⟨y',ey',by rw[<-e3];simp⟩
theorem wI(ys:List Y):(mS ys).length=ys.length:=by simp[mS]
def rY(tl:xx)(τ:jn)(L:ql)(R:List Y->(ql->Prop)->ql->Prop):Prop:=tl τ L fun x L1=>match x with
 |.ref a=>om L1 a fun ys keep L=>R (mS ys) keep L
 |.sq ys=>R (mS ys) (fun _=>True) L1
 |_=>False
theorem uL{a:Expr}(hg:Gl X "enumerate")(hm:X.mg "enumerate" = none)(ha:QE X a te)(hs:starEach [a] X.env=[(false,eval a X.env)]:=by rfl)
 (hs2:starEach [a] X.env=(false,eval a X.env)::starEach [] X.env:=by rfl):QI X (.Tuple elts x1 tp) (.Call (.Name "enumerate" p) [a] [] pos) (rY te):=PI.imp (acn hg hm (dQ ha kF hs2) hs) fun σ H R ⟨τ,L,R3,rs,rl,z,k⟩=>by
 refine⟨τ,L,_,rs,rl,z,fun v H1 y L1 t1 rl1 rv1 z1=>?_⟩;cases y with
 |ref a=>
  obtain⟨ys,keep,es,kp,hk,z2⟩:=pW z1;have hy:∀H L,j7 H1 H->jf X.g3 H L->keep L->∃xs,wv X.K H a xs/\x6 X.g3 H ys xs:=fun H L _ rl e=>cx rl (hk L e);obtain⟨xs,sq,_⟩:=hy H1 L1 (EF _) rl1 kp;cases rv1;exact⟨a,rfl,⟨xs,sq⟩,k _ H1 _ _ L1 t1 rl1 (hU hy) z2⟩
 |sq ys=>
  obtain⟨a,xs,e,sf,r⟩:=rv1;subst e;exact⟨a,rfl,⟨xs,sf.sq⟩,k _ H1 _ (fun _=>True) L1 t1 rl1 (hU fun H L t _ _=>⟨xs,(sf.ts t).sq,r.ts t⟩) z1⟩
 |_=>exact z1.elim
end L3
namespace L2
open PySem PySem.Spec PyProof.Rows
def ff(t:Bool)(h:Heap)(it l:Addr)(k:Nat):Prop:=match t with
 |false=>h.IsListIter it l k
 |true=>h.IsTupleIter it l k
def mQ(t:Bool)(h:Heap)(l:Addr)(xs:Array Value):Prop:=match t with
 |false=>h.IsList l xs
 |true=>h.IsTuple l xs
theorem ff.on{k:Nat}(x:ff t h it l k)(e:∀o,h.get? it=some o->h'.get? it=some o):ff t h' it l k:=by cases t with|false=>exact Heap.IsListIter.at x e|true=>exact Heap.IsTupleIter.at x e
theorem mQ.on{xs:Array Value}(x:mQ t h l xs)(e:∀o,h.get? l=some o->h'.get? l=some o):mQ t h' l xs:=by cases t with|false=>exact Heap.IsList.at x e|true=>exact Heap.IsTuple.at x e
theorem ff.ob{k:Nat}(x:ff t h it l k):∃o,h.get? it=some o/\∀v,o.data≠.cell v:=by
 cases t with
 |false=>obtain⟨o,e,c,d⟩:=x;exact⟨o,e,fun v z=>by rw[d] at z;cases z⟩
 |true=>obtain⟨o,e,c,d⟩:=x;exact⟨o,e,fun v z=>by rw[d] at z;cases z⟩
theorem tZ(l:Addr):¬((Value.ref l==Value.none)=true):=AC
section
variable {w:World} 
theorem rT{xs:Array Value}{x:Value}(hi:s.heap.IsTupleIter it l i)(hl:s.heap.IsTuple l xs)(hx:xs[i]?=some x)
 (q:∀h',h'.IsTupleIter it l (i+1)->Heap.SameBut it s.heap h'->Q x { s with heap:=h' }):wpAny (model prog w) A (Builtin.SmallTypes.nextOf (.ref it)) Q E s:=by
 obtain⟨o,oi,ci,di⟩:=id hi;obtain⟨u,ul,_,n,dl⟩:=hl;unfold Builtin.SmallTypes.nextOf;refine Aa (wpAny_callSpecial?_slot (name:="__next__") hi.typeIs F.slot_tuple_iterator_next (wpAny_call_entry F.slot_tuple_iterator_next hi.typeIs F.entry_tuple_iterator_next ?_ (F.args_tuple_iterator_next_1 _)));refine Aa (m:=field (.ref it) 0) (Bg oi di (x:=.ref l) rfl ?_);rw[Az (tZ l)];refine Aa (m:=field (.ref it) 1) (Bg oi di (x:=.int i 0) rfl (Aa (m:=seqItems? (.ref l)) (BC ul dl ?_)));simp only[BA,hx];refine Aa (wpAny_setField oi di (by simp) (Ah ⟨x,rfl,Ah (q _ ⟨_,Heap.get?_update_self _ oi (Obj.isFreed_of_fields (Obj.data_mapFields di _)),(Obj.cls_mapFields ..).trans ci,?_⟩ (Heap.SameBut.update ..))⟩));rw[Obj.data_mapFields di];simp[rawInt]
theorem vS{xs:Array Value}(hh:A.handled=none)(hi:s.heap.IsTupleIter it l i)(hl:s.heap.IsTuple l xs)(hx:xs[i]?=none)
 (q:∀h' e,Heap.ExtBut it s.heap h'->(∃o,h'.get? e=some o/\o.cls=.type "StopIteration")->E (.ref e) { s with heap:=h' }):wpAny (model prog w) A (Builtin.SmallTypes.nextOf (.ref it)) Q E s:=by
 obtain⟨o,oi,ci,di⟩:=id hi;obtain⟨u,ul,_,n,dl⟩:=hl;unfold Builtin.SmallTypes.nextOf;refine Aa (wpAny_callSpecial?_slot (name:="__next__") hi.typeIs F.slot_tuple_iterator_next (wpAny_call_entry F.slot_tuple_iterator_next hi.typeIs F.entry_tuple_iterator_next ?_ (F.args_tuple_iterator_next_1 _)));refine Aa (m:=field (.ref it) 0) (Bg oi di (x:=.ref l) rfl ?_);rw[Az (tZ l)];refine Aa (m:=field (.ref it) 1) (Bg oi di (x:=.int i 0) rfl (Aa (m:=seqItems? (.ref l)) (BC ul dl ?_)));simp only[BA,hx];refine Aa (Bw (Aa (wpAny_setField oi di (by simp) ?_)));refine Aa (m:=newExc (.type "StopIteration") []) ?_;simp only[newExc,newTuple];refine Aa (Bp (Aa (m:=firstArgMember _ _) (wpAny_of_eq (a:=Value.none) (by first | rfl | (simp only[firstArgMember];rfl)) (Bp ?_ (by size_fits)))) (by size_fits));simp only[raiseNew];refine Aa (wpAny_handled ?_)
 first | rw[show A.in1.handled=none from hh] | rw[hh]
 exact Aa (Ah (wpAny_throw (q _ _ (((Heap.SameBut.update ..).extBut.push _).push _) ⟨_,Heap.get?_push_size _ rfl,rfl⟩)))
theorem ff.next{xs:Array Value}{x:Value}(hi:ff t s.heap it l i)(hl:mQ t s.heap l xs)(hx:xs[i]?=some x)
 (q:∀h',ff t h' it l (i+1)->Heap.SameBut it s.heap h'->Q x { s with heap:=h' }):wpAny (model prog w) A (Builtin.SmallTypes.nextOf (.ref it)) Q E s:=by
 cases t with|false=>exact wpAny_nextOf_list_item hi hl hx q|true=>exact rT hi hl hx q
theorem ff.stop{xs:Array Value}(hh:A.handled=none)(hi:ff t s.heap it l i)(hl:mQ t s.heap l xs)(hx:xs[i]?=none)
 (q:∀h' e,Heap.ExtBut it s.heap h'->(∃o,h'.get? e=some o/\o.cls=.type "StopIteration")->E (.ref e) { s with heap:=h' }):wpAny (model prog w) A (Builtin.SmallTypes.nextOf (.ref it)) Q E s:=by
 cases t with|false=>exact wpAny_nextOf_list_end hh hi hl hx q|true=>exact vS hh hi hl hx q
structure ZAp(z TI TO i1 i2 l1 l2:Addr):Prop where
 n1:TI≠z
 n2:TO≠z
 n3:i1≠z
 n4:i2≠z
 n5:TO≠i1
 n6:TO≠i2
 n7:i1≠i2
 n8:l1≠z
 n9:l1≠TO
 n10:l1≠i1
 n11:l1≠i2
 n12:l2≠z
 n13:l2≠TO
 n14:l2≠i1
 n15:l2≠i2
theorem xL{z TI TO i1 i2:Addr}{k:Nat}{xs ys:Array Value}{x y a b:Value}(D:ZAp z TI TO i1 i2 l1 l2)(hz:IsZip s.heap z TI TO .none)(hI:IsPair s.heap TI (.ref i1) (.ref i2))(hO:IsPair s.heap TO a b)
 (h1:ff t1 s.heap i1 l1 k) (h2:ff t2 s.heap i2 l2 k) (q1:mQ t1 s.heap l1 xs) (q2:mQ t2 s.heap l2 ys) (hx:xs[k]?=some x) (hy:ys[k]?=some y)
 (q:∀h',IsZip h' z TI TO (rawInt s.heap.objs.size)->IsPair h' TO x y->ff t1 h' i1 l1 (k+1)->ff t2 h' i2 l2 (k+1)->IsPair h' s.heap.objs.size x y->
  (∀c o,c≠z->c≠TO->c≠i1->c≠i2->s.heap.get? c=some o->h'.get? c=some o)->Q (.ref s.heap.objs.size) { s with heap:=h' }):
 wpAny (model prog w) A (Builtin.«zip.__next__» ⟨[.ref z],[]⟩) (fun x8 s'=>∃v,x8=.done (.ret v)/\Q v s') E s:=by
 refine Aa (m:=field (.ref z) 2) (Bg hz rfl (x:=.bool false) rfl (Aa (m:=field (.ref z) 3) (Bg hz rfl (x:=.ref TI) rfl (Aa (BC hI rfl ?_)))));refine Aa (m:=Builtin.SmallTypes.ownedTupleIsFree (.ref z)) ?_;unfold Builtin.SmallTypes.ownedTupleIsFree;refine Aa (Bg hz rfl (x:=.none) rfl (Ah ?_));simp only[if_true];refine Aa (Bw (Aa (Bg hz rfl (x:=.ref TO) rfl (Aa (wpAny_setField_rec hz (by simp) fun g1 z1 e1=>?_)))));have z1':IsZip g1 z TI TO .ellipsis:=z1;refine Aa ?_;simp only[DH,List.zipIdx_nil,CQ,DW];refine Aa (Aa (wpAny_onRaise (Aa (m:=Builtin.SmallTypes.nextOf (.ref i1)) ((h1.on fun o e=>e1.extBut _ _ D.n3 e).next (q1.on fun o e=>e1.extBut _ _ D.n8 e) hx fun g2 h12 e2=>Ah ?_))));have O2:IsPair g2 TO a b:=e2.extBut _ _ D.n5 (e1.extBut _ _ D.n2 hO);refine Aa (BC O2 rfl (Aa (wpAny_updateSeq_pair O2 fun g3 O3 e3=>Aa (wpAny_letGo (Ah ?_)))));have O3':IsPair g3 TO x b:=O3;refine Aa (Aa (wpAny_onRaise (Aa (m:=Builtin.SmallTypes.nextOf (.ref i2)) (ff.next (l:=l2) (i:=k) (xs:=ys) (x:=y) (t:=t2) (h2.on fun o e=>e3.extBut _ _ (AM D.n6) (e2.extBut _ _ (AM D.n7) (e1.extBut _ _ D.n4 e)))
  (q2.on fun o e=>e3.extBut _ _ D.n13 (e2.extBut _ _ D.n14 (e1.extBut _ _ D.n12 e))) hy fun g4 h24 e4=>Ah ?_))))
 have O4:IsPair g4 TO x b:=e4.extBut _ _ D.n6 O3';refine Aa (BC O4 rfl (Aa (wpAny_updateSeq_pair O4 fun g5 O5 e5=>Aa (wpAny_letGo (Ah (Ah ?_))))));have O5':IsPair g5 TO x y:=O5;refine Aa (BC O5' rfl (Aa (wpAny_newTuple ?_)));have sz:g5.objs.size=s.heap.objs.size:=by rw[e5.1,e4.1,e3.1,e2.1,e1.1]
 have z5:IsZip g5 z TI TO .ellipsis:=e5.extBut _ _ (AM D.n2) (e4.extBut _ _ (AM D.n4) (e3.extBut _ _ (AM D.n2) (e2.extBut _ _ (AM D.n3) z1')));have k5:∀c o,c≠z->c≠TO->c≠i1->c≠i2->s.heap.get? c=some o->g5.get? c=some o:=fun c o a1 a2 a3 a4 e=>e5.extBut _ _ a2 (e4.extBut _ _ a4 (e3.extBut _ _ a2 (e2.extBut _ _ a3 (e1.extBut _ _ a1 e))));have zl:z<g5.objs.size:=Heap.lt_size z5;refine Aa (m:=Builtin.SmallTypes.ownedTupleHandOut (.ref z) (.ref g5.objs.size)) ?_;unfold Builtin.SmallTypes.ownedTupleHandOut;refine Aa (wpAny_setField_rec (show IsZip (g5.push { cls:=.type "tuple",data:=.seq #[x,y] }) z TI TO .ellipsis from Heap.get?_push_of_some _ z5) (by simp) fun g7 z7 e7=>?_);have z7':IsZip g7 z TI TO (rawInt g5.objs.size):=z7;refine wpAny_setField_rec z7' (by simp) fun g8 z8 e8=>Ah ⟨_,rfl,?_⟩;have z8':IsZip g8 z TI TO (rawInt g5.objs.size):=z8;have up:∀c o,c≠z->g5.get? c=some o->g8.get? c=some o:=fun c o a1 e=>e8.extBut _ _ a1 (e7.extBut _ _ a1 (Heap.get?_push_of_some _ e));have T8:IsPair g8 g5.objs.size x y:=e8.extBut _ _ (C0 zl) (e7.extBut _ _ (C0 zl) (Heap.get?_push_size _ rfl));have x8:=q g8 (by rw[<-sz];exact z8') (up _ _ D.n2 O5') (h12.on fun o e=>up _ o D.n3 (e5.extBut _ _ (AM D.n5) (e4.extBut _ _ D.n7 (e3.extBut _ _ (AM D.n5) e)))) (h24.on fun o e=>up _ o D.n4 (e5.extBut _ _ (AM D.n6) e))
  (by rw[<-sz];exact T8) fun c o a1 a2 a3 a4 e=>up c o a1 (k5 c o a1 a2 a3 a4 e)
 show Q (.ref g5.objs.size) _;rw[sz];exact x8
theorem aac{z TI TO i1 i2:Addr}{k:Nat}{xs ys:Array Value}{a b:Value}{Q:Fin->Shared->Prop}(hh:A.handled=none)(D:ZAp z TI TO i1 i2 l1 l2)(hz:IsZip s.heap z TI TO .none)(hI:IsPair s.heap TI (.ref i1) (.ref i2))(hO:IsPair s.heap TO a b)
 (h1:ff t1 s.heap i1 l1 k) (h2:ff t2 s.heap i2 l2 k) (q1:mQ t1 s.heap l1 xs) (q2:mQ t2 s.heap l2 ys) (hend:xs[k]?=none\/ys[k]?=none)
 (q:∀h' e,(∀c o,c≠z->c≠TO->c≠i1->c≠i2->s.heap.get? c=some o->h'.get? c=some o)->(∃o,h'.get? e=some o/\o.cls=.type "StopIteration")->E (.ref e) { s with heap:=h' }):
 wpAny (model prog w) A (Builtin.«zip.__next__» ⟨[.ref z],[]⟩) Q E s:=by
 refine Aa (m:=field (.ref z) 2) (Bg hz rfl (x:=.bool false) rfl (Aa (m:=field (.ref z) 3) (Bg hz rfl (x:=.ref TI) rfl (Aa (BC hI rfl ?_)))));refine Aa (m:=Builtin.SmallTypes.ownedTupleIsFree (.ref z)) ?_;unfold Builtin.SmallTypes.ownedTupleIsFree;refine Aa (Bg hz rfl (x:=.none) rfl (Ah ?_));simp only[if_true];refine Aa (Bw (Aa (Bg hz rfl (x:=.ref TO) rfl (Aa (wpAny_setField_rec hz (by simp) fun g1 z1 e1=>?_)))));have z1':IsZip g1 z TI TO .ellipsis:=z1;refine Aa ?_;simp only[DH,List.zipIdx_nil,CQ,DW];refine Aa (Aa (wpAny_onRaise (Aa (m:=Builtin.SmallTypes.nextOf (.ref i1)) ?_)));have h1':=h1.on fun o e=>e1.extBut _ _ D.n3 e;have q1':=q1.on fun o e=>e1.extBut _ _ D.n8 e;cases hx:xs[k]? with
 |none=>
  refine ff.stop hh h1' q1' hx fun g2 e s2 he=>?_;obtain⟨oe,ge,ce⟩:=he;have z2:IsZip g2 z TI TO .ellipsis:=s2 _ _ (AM D.n3) z1';have nz:e≠z:=fun w=>by subst w;rw[z2] at ge;cases ge;simp at ce
  exact wpAny_setField_rec z2 (by simp) fun g3 _ s3=>q g3 e (fun c o a1 _ a3 _ w=>s3.extBut _ _ a1 (s2 _ _ a3 (e1.extBut _ _ a1 w))) ⟨oe,s3.extBut _ _ nz ge,ce⟩
 |some x=>
  have hy:ys[k]?=none:=by rcases hend with h | h;rw[hx] at h;cases h;exact h
  refine ff.next h1' q1' hx fun g2 h12 e2=>Ah ?_;have O2:IsPair g2 TO a b:=e2.extBut _ _ D.n5 (e1.extBut _ _ D.n2 hO);refine Aa (BC O2 rfl (Aa (wpAny_updateSeq_pair O2 fun g3 O3 e3=>Aa (wpAny_letGo (Ah ?_)))));refine Aa (Aa (wpAny_onRaise (Aa (m:=Builtin.SmallTypes.nextOf (.ref i2)) (ff.stop (t:=t2) (l:=l2) (i:=k) (xs:=ys) hh (h2.on fun o e=>e3.extBut _ _ (AM D.n6) (e2.extBut _ _ (AM D.n7) (e1.extBut _ _ D.n4 e)))
   (q2.on fun o e=>e3.extBut _ _ D.n13 (e2.extBut _ _ D.n14 (e1.extBut _ _ D.n12 e))) hy fun g4 e s4 he=>?_))))
  obtain⟨oe,ge,ce⟩:=he;have z4:IsZip g4 z TI TO .ellipsis:=s4 _ _ (AM D.n4) (e3.extBut _ _ (AM D.n2) (e2.extBut _ _ (AM D.n3) z1'));have nz:e≠z:=fun w=>by subst w;rw[z4] at ge;cases ge;simp at ce
  exact wpAny_setField_rec z4 (by simp) fun g5 _ s5=>q g5 e (fun c o a1 a2 a3 a4 w=>s5.extBut _ _ a1 (s4 _ _ a4 (e3.extBut _ _ a2 (e2.extBut _ _ a3 (e1.extBut _ _ a1 w))))) ⟨oe,s5.extBut _ _ nz ge,ce⟩
end
def xN(t:Bool):String:=if t then "tuple_iterator" else "list_iterator"
section
variable {w:World} 
theorem mQ.iter{xs:Array Value}(hl:mQ t s.heap l xs)(q:Q (.ref s.heap.objs.size) { s with heap:=s.heap.push { cls:=.type (xN t),data:=.fields #[.ref l,.int 0 0] } }):wpAny (model prog w) A (pyIter (.ref l)) Q E s:=by cases t with|false=>exact wpAny_pyIter_list hl q|true=>exact wpAny_pyIter_tuple hl q
end
theorem ff.new(e:h.get? it=some { cls:=.type (xN t),data:=.fields #[.ref l,.int 0 0] }):ff t h it l 0:=by cases t with|false=>exact⟨_,e,rfl,rfl⟩|true=>exact⟨_,e,rfl,rfl⟩
abbrev zh1(t1:Bool)(h:Heap)(l1:Addr):Heap:=h.push { cls:=.type (xN t1),data:=.fields #[.ref l1,.int 0 0] }
abbrev zh2(t1 t2:Bool)(h:Heap)(l1 l2:Addr):Heap:=(zh1 t1 h l1).push { cls:=.type (xN t2),data:=.fields #[.ref l2,.int 0 0] }
abbrev zh3(t1 t2:Bool)(h:Heap)(l1 l2:Addr):Heap:=(zh2 t1 t2 h l1 l2).push { cls:=.type "tuple",data:=.seq #[.ref h.objs.size,.ref (zh1 t1 h l1).objs.size] }
abbrev zh4(t1 t2:Bool)(h:Heap)(l1 l2:Addr):Heap:=(zh3 t1 t2 h l1 l2).push { cls:=.type "tuple",data:=.seq #[.none,.none] }
abbrev zh5(t1 t2:Bool)(h:Heap)(l1 l2:Addr):Heap:=(zh4 t1 t2 h l1 l2).push { cls:=.type "zip",data:=.fields #[.none,.bool false,.bool false,.ref (zh2 t1 t2 h l1 l2).objs.size,.ref (zh3 t1 t2 h l1 l2).objs.size] }
theorem rq(t1 t2:Bool)(l1 l2:Addr)(xs ys:Array Value):Meets (Builtin.«zip.__new__» ⟨[.type "zip",.ref l1,.ref l2],[]⟩) (fun _ R s=>mQ t1 s.heap l1 xs/\mQ t2 s.heap l2 ys/\R (.ok (.ret (.ref (zh4 t1 t2 s.heap l1 l2).objs.size))) { s with heap:=zh5 t1 t2 s.heap l1 l2 }):=
 .of_wp fun prog w A R s h=>by
  obtain⟨hp,g,d,tk,os⟩:=s;obtain⟨q1,q2,h⟩:=h;have hsub:=sub_zip;have a1:mQ t1 (Shared.heap ⟨hp,g,d,tk,os⟩) l1 xs:=q1;have a2:mQ t2 (Shared.heap ⟨hp.push { cls:=.type (xN t1),data:=.fields #[.ref l1,.int 0 0] },g,d,tk,os⟩) l2 ys:=q2.on fun o e=>Heap.get?_push_of_some _ e
  wp_walk using mQ.iter a1,mQ.iter a2
  exact⟨_,rfl,h⟩
theorem vK{w:World}{xs ys:Array Value}(q1:mQ t1 s.heap l1 xs)(q2:mQ t2 s.heap l2 ys)
 (q:∀h',IsZip h' (s.heap.objs.size+4) (s.heap.objs.size+2) (s.heap.objs.size+3) .none->IsPair h' (s.heap.objs.size+2) (.ref s.heap.objs.size) (.ref (s.heap.objs.size+1))->IsPair h' (s.heap.objs.size+3) .none .none->
  ff t1 h' s.heap.objs.size l1 0->ff t2 h' (s.heap.objs.size+1) l2 0->(∀c o,s.heap.get? c=some o->h'.get? c=some o)->Q (.ref (s.heap.objs.size+4)) { s with heap:=h' }):
 wpAny (model prog w) A (call (.type "zip") [.ref l1,.ref l2]) Q E s:=by
 refine callType_new F.called_zip (by decide) (F.typeCall_zip_2 _ _) (F.newCall_zip_2 _ _) (fun obj=>F.args_object_init_3 obj _ _) F.entry_zip_new (rq t1 t2 l1 l2 xs ys) ⟨q1,q2,?_⟩;have s1:(zh1 t1 s.heap l1).objs.size=s.heap.objs.size+1:=Heap.size_push ..;have s2:(zh2 t1 t2 s.heap l1 l2).objs.size=s.heap.objs.size+2:=by rw[Heap.size_push,s1]
 have s3:(zh3 t1 t2 s.heap l1 l2).objs.size=s.heap.objs.size+3:=by rw[Heap.size_push,s2]
 have s4:(zh4 t1 t2 s.heap l1 l2).objs.size=s.heap.objs.size+4:=by rw[Heap.size_push,s3]
 have g5:(zh5 t1 t2 s.heap l1 l2).get? (zh4 t1 t2 s.heap l1 l2).objs.size=some _:=Heap.get?_push_size _ rfl;have g4:(zh5 t1 t2 s.heap l1 l2).get? (zh3 t1 t2 s.heap l1 l2).objs.size=some _:=Heap.get?_push_of_some _ (Heap.get?_push_size _ rfl);have g3:(zh5 t1 t2 s.heap l1 l2).get? (zh2 t1 t2 s.heap l1 l2).objs.size=some _:=Heap.get?_push_of_some _ (Heap.get?_push_of_some _ (Heap.get?_push_size _ rfl));have g2:(zh5 t1 t2 s.heap l1 l2).get? (zh1 t1 s.heap l1).objs.size=some _:=Heap.get?_push_of_some _ (Heap.get?_push_of_some _ (Heap.get?_push_of_some _ (Heap.get?_push_size _ rfl)));have g1:(zh5 t1 t2 s.heap l1 l2).get? s.heap.objs.size=some _:=Heap.get?_push_of_some _ (Heap.get?_push_of_some _ (Heap.get?_push_of_some _ (Heap.get?_push_of_some _ (Heap.get?_push_size _ rfl))));show _/\_;rw[s2,s3,s4] at g5;rw[s1,s2] at g3;rw[s3] at g4;rw[s1] at g2;rw[s4];exact⟨⟨_,g5,rfl⟩,q _ g5 g3 g4 (ff.new g1) (ff.new g2) fun c o e=>Heap.get?_push_of_some _ (Heap.get?_push_of_some _ (Heap.get?_push_of_some _ (Heap.get?_push_of_some _ (Heap.get?_push_of_some _ e))))⟩
def Sq(t:Bool)(K:Ai)(H:Hp)(a:Addr)(xs:List V):Prop:=match t with
 |false=>wv K H a xs
 |true=>cM K H a xs
section
variable {σ:L2.St} 
theorem qx.seq{a:Addr}(I:qx X pins σ H s)(h:Sq t X.K H a xs):∃its:List Value,ze xs its/\mQ t s.heap a its.toArray/\xs.length≤sizeLine:=by
 cases t with
 |false=>obtain⟨its,v,p,z⟩:=I.list h;exact⟨its,v,p.isList,z⟩
 |true=>obtain⟨its,v,p,z⟩:=I.tuple h;exact⟨its,v,p,z⟩
theorem qx.seq_inj{a:Addr}{ys:List V}(I:qx X pins σ H s)(h:Sq t X.K H a xs)(h':Sq t X.K H a ys):xs=ys:=by cases t with|false=>exact I.list_inj h h'|true=>exact I.tuple_inj h h'
end
def Itz(t1 t2:Bool)(K:Ai)(a b:Addr):It:=
 ⟨fun i H=>∃xs ys x y,Sq t1 K H a xs/\Sq t2 K H b ys/\xs[i]?=some x/\ys[i]?=some y,
  fun i H v H'=>∃p x y,H p=none/\v=.ref p/\H'=upd H p (.tup [x,y])/\(∀xs,Sq t1 K H a xs->xs[i]?=some x)/\∀ys,Sq t2 K H b ys->ys[i]?=some y,
  fun i H=>∃xs ys,Sq t1 K H a xs/\Sq t2 K H b ys/\(xs.length≤i\/ys.length≤i)⟩
theorem y9{P:Program}{w:World}{K:Ai}(a b z TI TO i1 i2:Addr)(D:ZAp z TI TO i1 i2 a b)(d1:TI≠TO)(d2:TI≠i1)(d3:TI≠i2):
 wB P w K (.Tuple elts x1 tp) (Itz t1 t2 K a b) [z,TI,TO,i1,i2] z (fun i h=>IsZip h z TI TO .none/\IsPair h TI (.ref i1) (.ref i2)/\(∃u v,IsPair h TO u v)/\ff t1 h i1 a i/\ff t2 h i2 b i) where
 mem:=by simp
 obj:=fun i h ⟨hz,hI,⟨u,v,hO⟩,h1,h2⟩ c hc=>by
  simp only[Av,Bx,or_false] at hc;rcases hc with rfl | rfl | rfl | rfl | rfl
  ·exact⟨_,hz,fun v z=>by cases z⟩
  ·exact⟨_,hI,fun v z=>by cases z⟩
  ·exact⟨_,hO,fun v z=>by cases z⟩
  ·exact h1.ob
  ·exact h2.ob
 keep:=fun i h h' ⟨hz,hI,⟨u,v,hO⟩,h1,h2⟩ k=>⟨k z (by simp) _ hz,k TI (by simp) _ hI,⟨u,v,k TO (by simp) _ hO⟩,h1.on fun o q=>k i1 (by simp) o q,h2.on fun o q=>k i2 (by simp) o q⟩
 item:=by
  intro X hP hw hK hc i pins s σ H E I hf ⟨hz,hI,⟨u,v,hO⟩,h1,h2⟩ hg;subst hP hw hK;obtain⟨xs,ys,x,y,q1,q2,hx,hy⟩:=hg;obtain⟨is1,rv1,p1,_⟩:=I.seq q1;obtain⟨is2,rv2,p2,_⟩:=I.seq q2;obtain⟨ux,hux,rux⟩:=rv1.get hx;obtain⟨uy,huy,ruy⟩:=rv2.get hy;have hT:s.TypeIs (.ref z) "zip" := ⟨_,hz,rfl⟩;unfold pyNext;refine Aa (wpAny_attempt (wpAny_callSpecial?_slot (name:="__next__") hT F.slot_zip_next (wpAny_call_entry F.slot_zip_next hT F.entry_zip_next
   (xL D hz hI hO h1 h2 p1 p2 (x:=ux) (y:=uy) (by simpa using hux) (by simpa using huy) fun g1 gz gO gi1 gi2 gT gk=>Ah ⟨.ref s.heap.objs.size,rfl,wpAny_letOwnedTupleGo_zip gz fun g2 gz2 gs2=>?_⟩) (F.args_zip_next_1 _))))
  have lz:z<s.heap.objs.size:=Heap.lt_size hz;have lts:∀c∈[z,TI,TO,i1,i2],c<s.heap.objs.size:=fun c hc=>by
   simp only[Av,Bx,or_false] at hc;rcases hc with rfl | rfl | rfl | rfl | rfl
   ·exact lz
   ·exact Heap.lt_size hI
   ·exact Heap.lt_size hO
   ·obtain⟨o,e,_⟩:=h1.ob;exact Heap.lt_size e
   ·obtain⟨o,e,_⟩:=h2.ob;exact Heap.lt_size e
  have kk:∀c o,c∉[z,TI,TO,i1,i2]->s.heap.get? c=some o->g2.get? c=some o:=fun c o nc q=>by simp only[Av,Bx,or_false,not_or] at nc;exact gs2.extBut c o nc.1 (gk c o nc.1 nc.2.2.1 nc.2.2.2.1 nc.2.2.2.2 q)
  have tg:g2.get? s.heap.objs.size=some { cls:=.type "tuple",data:=.seq #[ux,uy] }:=gs2.extBut _ _ (C0 lz) gT;refine⟨.ref s.heap.objs.size,upd H s.heap.objs.size (.tup [x,y]),?_,rfl,⟨_,x,y,I.hok.fresh (An _),rfl,rfl,fun zs hq=>by rw[I.seq_inj hq q1];exact hx,fun zs hq=>by rw[I.seq_inj hq q2];exact hy⟩,?_,fun c hc=>?_⟩
  ·exact I.turnedN (t':=s.toks) kk hf (An _) ⟨by show 2≤sizeLine;decide,[ux,uy],.cons rux (.cons ruy .nil),⟨_,tg,rfl,_,rfl⟩⟩
  ·exact⟨gz2,gs2.extBut _ _ D.n1 (gk _ _ D.n1 d1 d2 d3 hI),⟨_,_,gs2.extBut _ _ D.n2 gO⟩,gi1.on fun o q=>gs2.extBut _ _ D.n3 q,gi2.on fun o q=>gs2.extBut _ _ D.n4 q⟩
  ·rw[qr (Bd (lts c hc))];exact(hf c hc).1
 done:=by
  intro X hP hw hK hc i pins s σ H E I hf ⟨hz,hI,⟨u,v,hO⟩,h1,h2⟩ hg;subst hP hw hK;obtain⟨xs,ys,q1,q2,hl⟩:=hg;obtain⟨is1,rv1,p1,_⟩:=I.seq q1;obtain⟨is2,rv2,p2,_⟩:=I.seq q2;have l1:=rv1.length;have l2:=rv2.length;have hT:s.TypeIs (.ref z) "zip" := ⟨_,hz,rfl⟩;unfold pyNext;refine Aa (wpAny_attempt (wpAny_callSpecial?_slot (name:="__next__") hT F.slot_zip_next (wpAny_call_entry F.slot_zip_next hT F.entry_zip_next
   (aac (I.ok.hd hc) D hz hI hO h1 h2 p1 p2 (by rcases hl with h | h;exact .inl (by simp;lia);exact .inr (by simp;lia)) fun g1 e gk he=>?_) (F.args_zip_next_1 _))))
  obtain⟨o,ho,hc'⟩:=he;refine Aa (wpAny_isInstance (T:="StopIteration") (b:=true) ⟨o,ho,hc'⟩ isSubtype_stop (Ah ⟨rfl,?_⟩));exact I.turnedL (t':=s.toks) (fp:=[z,TI,TO,i1,i2]) (fun c o nc q=>by simp only[Av,Bx,or_false,not_or] at nc;exact gk c o nc.1 nc.2.2.1 nc.2.2.2.1 nc.2.2.2.2 q) hf
 self:=fun _ _ _ _ _ ⟨hz,_⟩ h=>wpAny_pyIter_zip hz h
def anx(K:Ai)(ta:TA):TI:=fun σ H R=>ta σ H fun vs H1=>∃t1 t2 a b,vs=[.ref a,.ref b]/\(∃xs,Sq t1 K H1 a xs)/\(∃xs,Sq t2 K H1 b xs)/\R (Itz t1 t2 K a b) H1
theorem ahk:bootBuiltins "zip" = some (.type "zip"):=by decide +kernel
theorem afv{a b:Expr}{ta:TA}(hg:Gl X "zip")(hm:X.mg "zip" = none)(ha:PA X [a,b] ta)(hs:starEach [a,b] X.env=[(false,eval a X.env),(false,eval b X.env)]:=by rfl)
 (hs2:starEach [b] X.env=[(false,eval b X.env)]:=by rfl):PI X (.Tuple elts x1 tp) (.Call (.Name "zip" p) [a,b] [] pos) (anx X.K ta):=by
 intro pins s σ H R I h;refine Call_ (du I hg hm ahk (BZ (v0 (ha pos pins s σ H _ I h) fun us s1 ⟨vs,H1,I1,r1,q1⟩=>?_) (by rw[hs,hs2]) (by rw[hs2];rfl)));obtain⟨t1,t2,l1,l2,e,⟨xs,hx⟩,⟨ys,hy⟩,q⟩:=q1;subst e;obtain⟨u1,u2,rfl,ru1,ru2⟩:=ze.two r1;cases ru1;cases ru2;obtain⟨is1,_,p1,_⟩:=I1.seq hx;obtain⟨is2,_,p2,_⟩:=I1.seq hy;have lt1:l1<s1.heap.objs.size:=by
  cases t1 with
  |false=>obtain⟨o,e,_⟩:=p1;exact Heap.lt_size e
  |true=>obtain⟨o,e,_⟩:=p1;exact Heap.lt_size e
 have lt2:l2<s1.heap.objs.size:=by
  cases t2 with
  |false=>obtain⟨o,e,_⟩:=p2;exact Heap.lt_size e
  |true=>obtain⟨o,e,_⟩:=p2;exact Heap.lt_size e
 refine vK p1 p2 fun g1 gz gI gO g1' g2' gk=>?_;have I2:qx X pins σ H1 { s1 with heap:=g1 }:=I1.kept (t':=s1.toks) gk;refine wpAny_pyIter_zip (s:={ s1 with heap:=g1 }) gz ?_;refine⟨_,[_,s1.heap.objs.size+2,s1.heap.objs.size+3,s1.heap.objs.size,s1.heap.objs.size+1],_,_,H1,rfl,I2,y9 l1 l2 _ _ _ _ _ ?_ (rR (by lia)) (rR (by lia)) (rR (by lia)),⟨gz,gI,⟨_,_,gO⟩,g1',g2'⟩,fun c hc=>?_,q⟩
 ·have lt1':@LT.lt Nat instLTNat l1 s1.heap.objs.size:=lt1;have lt2':@LT.lt Nat instLTNat l2 s1.heap.objs.size:=lt2;constructor<;>exact rR (by lia)
 ·have hc':s1.heap.objs.size≤c:=by simp only[Av,Bx,or_false] at hc;rcases hc with rfl | rfl | rfl | rfl | rfl<;>exact leN (by simp +arith only)
  exact I1.fpOk hc' (I1.hok.fresh hc')
end L2
namespace L3
open PySem L2
def mY(L₀:ql):Y->ql->Prop
 |.ref a,L=>L a=L₀ a
 |_,_=>True
theorem gj(L:ql):∀y:Y,mY L y L
 |.ref _=>rfl
 |.non=>trivial
 |.bl _=>trivial
 |.int _=>trivial
 |.str _=>trivial
 |.ty _=>trivial
 |.cd _=>trivial
 |.tup _=>trivial
 |.sq _=>trivial
theorem uG{H1:Hp}(r:RV G H1 y v)(h:bL L1 y=some ys):∃t p,v=.ref p/\∀H L,j7 H1 H->jf G H L->mY L1 y L->∃xs,Sq t G.K H p xs/\x6 G H ys xs:=by
 cases y with
 |tup zs=>
  obtain⟨a,xs,e,s,q⟩:=r;cases h;exact⟨true,a,e,fun H L t _ _=>⟨xs,cM.ts s t,q.ts t⟩⟩
 |sq zs=>
  obtain⟨a,xs,e,s,q⟩:=r;cases h;exact⟨false,a,e,fun H L t _ _=>⟨xs,(s.ts t).sq,q.ts t⟩⟩
 |ref a=>
  have e:=gW h;exact⟨false,a,r,fun H L _ rl kp=>let ⟨xs,e2,q⟩:=rl a _ (kp.trans e);⟨xs,EW e2,q⟩⟩
 |_=>cases h
def tH(xs ys:List Y):List Y:=List.zipWith (fun a b=>Y.tup [a,b]) xs ys
theorem uR{xs:List Y}(h:(tH xs ys)[i]?=some y):∃a b,xs[i]?=some a/\ys[i]?=some b/\y=.tup [a,b]:=by
 unfold tH at h;rw[List.getElem?_zipWith] at h;cases e1:xs[i]? with
 |none=>rw[e1] at h;simp at h
 |some a=>
  cases e2:ys[i]? with|none=>rw[e1,e2] at h;simp at h|some b=>rw[e1,e2] at h;simp at h;exact⟨a,b,rfl,rfl,h.symm⟩
theorem ie(xs ys:List Y):(tH xs ys).length=min xs.length ys.length:=by simp[tH]
theorem tI{a b:Addr}{xs:List Y}{keep:ql->Prop}(h1:∀H L,j7 H₀ H->jf G H L->keep L->∃us,Sq t1 G.K H a us/\x6 G H xs us)(h2:∀H L,j7 H₀ H->jf G H L->keep L->∃us,Sq t2 G.K H b us/\x6 G H ys us):
 gR G H₀ (Itz t1 t2 G.K a b) (tH xs ys) keep where
 go:=fun i H L t rl kp hi=>by obtain⟨us,s1,r1⟩:=h1 H L t rl kp;obtain⟨vs,s2,r2⟩:=h2 H L t rl kp;rw[ie] at hi;have l1:=r1.length;have l2:=r2.length;exact⟨us,vs,us[i]'(by lia),vs[i]'(by lia),s1,s2,Aj _,Aj _⟩
 yld:=fun i H L x H' y t rl kp hy ⟨p,u,v,hp,e1,e2,f1,f2⟩=>by subst e1 e2;obtain⟨us,s1,r1⟩:=h1 H L t rl kp;obtain⟨vs,s2,r2⟩:=h2 H L t rl kp;obtain⟨c,d,ec,ed,rfl⟩:=uR hy;obtain⟨u',eu,ru⟩:=r1.get ec;obtain⟨v',ev,rv⟩:=r2.get ed;have z1:=f1 us s1;rw[eu] at z1;cases z1;have z2:=f2 vs s2;rw[ev] at z2;cases z2;exact⟨EG hp,rl.skip hp,p,_,rfl,cM.of j4,⟨_,_,rfl,ru.ts (EG hp),_,_,rfl,rv.ts (EG hp),rfl⟩⟩
 stop:=fun H L t rl kp=>by obtain⟨us,s1,r1⟩:=h1 H L t rl kp;obtain⟨vs,s2,r2⟩:=h2 H L t rl kp;have l1:=r1.length;have l2:=r2.length;exact⟨us,vs,s1,s2,by rw[ie];lia⟩
def aed(ta:eL)(τ:jn)(L:ql)(R:List Y->(ql->Prop)->ql->Prop):Prop:=ta τ L fun vs L1=>match vs with
 |[x,y]=>dm L1 x fun xs=>dm L1 y fun ys=>R (tH xs ys) (fun L=>mY L1 x L/\mY L1 y L) L1
 |_=>False
theorem agd{a b:Expr}(hg:Gl X "zip")(hm:X.mg "zip" = none)(ha:QA X [a,b] tr)(hs:starEach [a,b] X.env=[(false,eval a X.env),(false,eval b X.env)]:=by rfl)
 (hs2:starEach [b] X.env=[(false,eval b X.env)]:=by rfl):QI X (.Tuple elts x1 tp) (.Call (.Name "zip" p) [a,b] [] pos) (aed tr):=PI.imp (afv hg hm ha hs hs2) fun σ H R ⟨τ,L,R3,rs,rl,z,k⟩=>by
 refine⟨τ,L,_,rs,rl,z,fun vs H1 ys L1 t1 rl1 rv1 z1=>?_⟩;split at z1
 ·rename_i x y;obtain⟨u,v,rfl,ru,rv⟩:=rv1.inv2;obtain⟨xs,ex,z1⟩:=vo z1;obtain⟨zs,ez,z1⟩:=vo z1;obtain⟨t1',p1,rfl,k1⟩:=uG ru ex;obtain⟨t2',p2,rfl,k2⟩:=uG rv ez;obtain⟨us,s1,_⟩:=k1 H1 L1 (EF _) rl1 (gj _ _);obtain⟨ws,s2,_⟩:=k2 H1 L1 (EF _) rl1 (gj _ _);exact⟨t1',t2',p1,p2,rfl,⟨us,s1⟩,⟨ws,s2⟩,k _ H1 _ _ L1 t1 rl1 (tI (fun H L t rl kp=>k1 H L t rl kp.1) fun H L t rl kp=>k2 H L t rl kp.2) z1⟩
 ·exact z1.elim
def bZ(xs:List Y)(L:ql)(Q:YK):Prop:=match xs with
 |[x]=>dm L x fun ys=>∀p,L p=none->Q (.ref p) (qg L p (.lst ys))
 |_=>False
theorem cw :jk X (.type "list") (zV X.g3 bZ):=EU oF fun xs H Q ⟨ys,L,Q3,rv,rl,z,k⟩=>by
 unfold bZ at z;split at z
 ·rename_i x;obtain⟨u,rfl,ru⟩:=rv.inv1;obtain⟨zs,ez,z⟩:=vo z;obtain⟨p,us,e,sq,r⟩:=oG rl ru ez;subst e;exact⟨p,us,rfl,sq,fun l hl=>k _ _ _ _ (EG hl) (rl.newL hl r) (by rfl) (z l (rl.none hl))⟩
 ·exact z.elim
theorem bS{T:String}{r:List Y->ql->YK->Prop}(hc:jk X (.type T) (zV X.g3 r))(hg:Gl X x)(hm:X.mg x=none)(hv:bootBuiltins x=some (.type T))(h:QA X (e::es) tr)
 (hn:x ≠ "__name__" := by decide) (hd:Ef x:=by decide) (hs:Ed e es X:=by rfl) (hp:Ee pos es X:=by rfl):
 QE X (.Call (.Name x p) (e::es) [] pos) (eM r tr):=EH (gF hc hg hm hv h hn hd hs hp) fun σ H Q ⟨τ,L,Q3,rs,rl,z,k⟩=>
 ⟨τ,L,_,rs,rl,z,fun vs H1 ys L1 t1 rl1 rv1 z1=>⟨ys,L1,Q3,rv1,rl1,z1,k.ts t1⟩⟩
def cI(x:Y)(vs:List Y)(L:ql)(Q:YK):Prop:=match x,vs with
 |.ref a,[.int i]=>bE L a fun ys=>0≤i/\i<ys.length/\tR L (fun v L=>Q v (qg L a (.lst (ys.eraseIdx i.toNat)))) (ys[i.toNat]?)
 |_,_=>False
theorem ado :hX X "list.pop" (upM X.g3 cI):=fun pins s σ H x xs v us Q I rx ry ⟨y,ys,L,Q3,r1,r2,rl,z,k⟩=>by
 unfold cI at z;split at z
 ·rename_i a i;obtain⟨zs,e,h0,h1,z⟩:=jy z;obtain⟨ws,e2,r⟩:=rl a _ e;obtain⟨i',rfl,ri⟩:=r2.inv1;cases ri;cases el:zs[i.toNat]? with
  |none=>rw[el] at z;exact z.elim
  |some w=>
   rw[el] at z;obtain⟨u,eu,ru⟩:=r.get el;obtain⟨_,_,_,hz⟩:=I.list (EW e2);have hl:=r.length;have hs:sizeLine<2 ^ 62:=by decide
   refine yA pins s σ H x _ v us Q I rx ry ⟨a,ws,i,i.toNat,u,r1,rfl,e2,by lia,by lia,?_,eu,k _ _ _ _ (EM e2) (rl.setL e2 (r.eraseIdx _)) (ru.ts (EM e2)) z⟩;unfold seqIndex?;rw[Az (show ¬i<0 by lia),AB (by simp;lia)]
 ·exact z.elim
theorem bU(ho:QE X o to)(ha:QA X (e::es) tr)(h4:attributeBase o "pop" X.env (eval o X.env)=eval o X.env:=by rfl)
 (h5:((backTo cpos (starEach (e::es) X.env)).all (fun x=>!x.1)&&(backToKw cpos (keywordEach [] X.env)).all (fun x=>x.1.isSome)&&decide ((e::es).length+([]:List Keyword).length+(if ([]:List Keyword).isEmpty=true then 0 else 1)<30))=true:=by rfl)
 (h6:(apos.endLine==cpos.line)=true:=by rfl) (h7:Ed e es X:=by rfl) (h8:Ee cpos es X:=by rfl):
 QE X (.Call (.Attribute o "pop" apos) (e::es) [] cpos) (aq cI to tr):=nV PySem.F.slot_list_pop PySem.F.type_list_pop ado ho ha h4 h5 h6 h7 h8
end L3
namespace L2
open PySem PySem.Spec PyProof.Rows
section
theorem uH(i:Int)(n d:Nat):max 0 (min (if i<0 then i+(n:Int) else i) n)=((HT.sIx n d (some i):Nat):Int):=by
 simp only[HT.sIx];by_cases h:i<0
 ·simp only[h,if_true]<;>lia
 ·simp only[h,if_false]<;>lia
theorem wL(l u:Option Int)(n:Nat):Builtin.Str.strSliceIndices l u 1 n=(List.range (HT.sIx n n u - HT.sIx n 0 l)).map (HT.sIx n 0 l+·):=by
 have z:(0:Int)=((HT.sIx n 0 none:Nat):Int):=rfl;have y:(n:Int)=((HT.sIx n n none:Nat):Int):=rfl;unfold Builtin.Str.strSliceIndices;cases l with
 |none=>
  cases u with
  |none=>exact sliceRange_one 0 n
  |some j=>
   show sliceRange 0 (max 0 (min (if j<0 then j+(n:Int) else j) n)) 1=_;rw[uH j n n];exact sliceRange_one 0 _
 |some i=>
  cases u with
  |none=>
   show sliceRange (max 0 (min (if i<0 then i+(n:Int) else i) n)) n 1=_;rw[uH i n 0];exact sliceRange_one _ n
  |some j=>
   show sliceRange (max 0 (min (if i<0 then i+(n:Int) else i) n)) (max 0 (min (if j<0 then j+(n:Int) else j) n)) 1=_;rw[uH i n 0,uH j n n];exact sliceRange_one _ _
theorem mW(x:Str)(l u:Option Int):(Txt.slice x l u).cps.toList=(x.cps.toList.drop (HT.sIx x.length 0 l)).take (HT.sIx x.length x.length u - HT.sIx x.length 0 l):=by
 have hn:x.length=x.cps.toList.length:=by simp[Str.length]
 have pick:=pick_run x.cps (HT.sIx x.length 0 l) (HT.sIx x.length x.length u - HT.sIx x.length 0 l);unfold Txt.slice;rw[wL];split
 ·rename_i h;simp only[beq_self_eq_true,Bool.true_and,Ae,BM,beq_iff_eq] at h;have h1:=HT.sIx_le x.length 0 (Bf _) l;have h2:=HT.sIx_le x.length x.length (An _) u;have a0:HT.sIx x.length 0 l=0:=by lia
  rw[h,a0,DX,AZ (by exact pH)]
 ·show(List.filterMap (fun i=>x.cps[i]?) _).toArray.toList=_;rw[List.toList_toArray];exact pick
def am1:V->Option Int->Option Int->Hp->VK->Prop:=fun x lo hi H Q=>∃z,x=.str z/\z.length≤sizeLine/\Q (.str (Txt.slice z lo hi)) H
theorem ago:oW X am1:=by
 intro pins s σ H x v vl vu lo hi sl Q I rx hs pl pu h;obtain⟨z,rfl,hz,q⟩:=h;obtain⟨t,rfl⟩:=rx;obtain⟨l,rfl,hl⟩:∃l:Option (Int×Tok),vl=partValue l/\l.map (·.1)=lo:=by cases pl with|none=>exact⟨none,rfl,rfl⟩|int i t=>exact⟨some (i,t),rfl,rfl⟩
 obtain⟨u,rfl,hu⟩:∃u:Option (Int×Tok),vu=partValue u/\u.map (·.1)=hi:=by cases pu with|none=>exact⟨none,rfl,rfl⟩|int i t=>exact⟨some (i,t),rfl,rfl⟩
 subst hl hu;refine⟨"str",_,F.slot_str_getitem.lookup,typeIs_str _ _ _,jr I.tk (wpAny_getItem_str_slice (l:=l) (u:=u) (st:=none) hs rfl ?_)⟩;exact post_val_or_str ⟨AW (Txt.slice_le z _ _) hz,fun t' k ht=>⟨.str _,H,I.tok _,⟨t',rfl⟩,q⟩⟩
theorem rV{zs:List Str}:∀{us:List Value},ze (zs.map V.str) us->StrsAre us zs:=by
 induction zs with
 |nil=>intro us r;rw[C1] at r;cases r;exact .nil
 |cons z zs ih=>
  intro us r;rw[AF] at r;cases r with
  |cons r1 r2=>
   obtain⟨t,e⟩:=r1;subst e;exact .cons z t (ih r2)
def aiu(K:Ai):V->List V->Hp->VK->Prop:=fun x vs H Q=>∃z a zs,x=.str z/\vs=[.ref a]/\wv K H a ((zs:List Str).map V.str)/\(zs.map (·.length)).sum+zs.length*z.length≤16777216/\Q (.str (Txt.join z zs)) H
theorem aba:hX X "str.join" (aiu X.K):=by intro pins s σ H x vs v us Q I rx rv h;obtain⟨z,a,zs,rfl,rfl,hq,hz,q⟩:=h;obtain⟨t,rfl⟩:=rx;obtain⟨u,rfl,ru⟩:=rv.one;cases ru;obtain⟨its,r,p,_⟩:=I.list hq;exact jr I.tk (PyProof.Rows.join_list p.isList (by simpa using rV r) hz fun t' k ht=>⟨.str _,H,I.tok _,⟨t',rfl⟩,q⟩)
end
end L2
namespace L3
open PySem L2
def zG(x:Y)(lo hi:Option Int)(L:ql)(Q:YK):Prop:=match x with
 |.str z=>z.length≤sizeLine/\Q (.str (Txt.slice z lo hi)) L
 |x=>akf x lo hi L Q
theorem uO(K:Ai)(P:Program)(w:World)(hK:X.K=K:=by rfl)(hP:X.prog=P:=by rfl)(hw:X.w=w:=by rfl):oW X (ac6 ⟨K,P,w⟩ zG):=by refine oW.imp (ago.or (ajo K P w hK hP hw)) fun x lo hi H Q ⟨y,L,Q3,rv,rl,z,k⟩=>?_;cases y with|str s=>exact .inl ⟨s,rv,z.1,k _ H _ L (EF _) rl (by rfl) z.2⟩|_=>exact .inr ⟨_,L,Q3,rv,rl,z,k⟩
def yBS(r:Y->List Y->ql->YK->Prop)(to:xx)(t:eL)(τ:jn)(L:ql)(Q:YK):Prop:=to τ L fun x L1=>match x with
 |.str z=>t τ L1 fun xs L2=>r (.str z) xs L2 Q
 |_=>False
theorem ag6{id:String}{r:Y->List Y->ql->YK->Prop}(h2:Slot "str" name id)(h3:typeOf (.builtin id)=pure (.type "method_descriptor"))(hm:hX X id (upM X.g3 r))(ho:QE X o to)(ha:QA X (e::es) tr)
 (h4:attributeBase o name X.env (eval o X.env)=eval o X.env:=by rfl)
 (h5:((backTo cpos (starEach (e::es) X.env)).all (fun x=>!x.1)&&(backToKw cpos (keywordEach [] X.env)).all (fun x=>x.1.isSome)&&decide ((e::es).length+([]:List Keyword).length+(if ([]:List Keyword).isEmpty=true then 0 else 1)<30))=true:=by rfl)
 (h6:(apos.endLine==cpos.line)=true:=by rfl) (h7:Ed e es X:=by rfl) (h8:Ee cpos es X:=by rfl):
 QE X (.Call (.Attribute o name apos) (e::es) [] cpos) (yBS r to tr):=EH (aeh PySem.F.plainAttrs_str h2 h3 hm ho ha h4 h5 h6 h7 h8) fun σ H Q ⟨τ,L,Q3,rs,rl,z,k⟩=>
 ⟨τ,L,_,rs,rl,z,fun v H1 y L1 t1 rl1 rv1 z1=>by
  split at z1
  ·rename_i s;cases rv1;exact⟨rfl,τ,L1,_,rs.ts t1,rl1,z1,fun vs H2 ys L2 t2 rl2 rv2 z2=>⟨.str s,ys,L2,Q3,rfl,rv2,rl2,z2,k.ts (t1.trans t2)⟩⟩
  ·exact z1.elim⟩
theorem pL{G:G3}{H:Hp}:∀{zs:List Str} {xs:List V},x6 G H (zs.map Y.str) xs->xs=zs.map V.str
 |[],_,h=>h
 |z::r,_,⟨x,xs',e,q,s⟩=>by rw[e,show x=V.str z from q,pL s];rfl
def uU(x:Y)(vs:List Y)(L:ql)(Q:YK):Prop:=match x,vs with
 |.str z,[.ref a]=>bE L a fun ys=>∃zs,ys=zs.map Y.str/\(zs.map (·.length)).sum+zs.length*z.length≤16777216/\Q (.str (Txt.join z zs)) L
 |_,_=>False
theorem ahi :hX X "str.join" (upM X.g3 uU):=hX.imp aba fun x xs H Q ⟨y,ys,L,Q3,r1,r2,rl,z,k⟩=>by
 unfold uU at z;split at z
 ·rename_i s a;obtain⟨us,e,zs,rfl,hz,z⟩:=jy z;obtain⟨ws,e2,r⟩:=rl a _ e;obtain⟨u,rfl,ru⟩:=r2.inv1;cases ru;rw[pL r] at e2;exact⟨s,a,zs,r1,rfl,EW e2,hz,k _ H _ L (EF _) rl (by rfl) z⟩
 ·exact z.elim
theorem abk(ho:QE X o to)(ha:QA X (e::es) tr)(h4:attributeBase o "join" X.env (eval o X.env)=eval o X.env:=by rfl)
 (h5:((backTo cpos (starEach (e::es) X.env)).all (fun x=>!x.1)&&(backToKw cpos (keywordEach [] X.env)).all (fun x=>x.1.isSome)&&decide ((e::es).length+([]:List Keyword).length+(if ([]:List Keyword).isEmpty=true then 0 else 1)<30))=true:=by rfl)
 (h6:(apos.endLine==cpos.line)=true:=by rfl) (h7:Ed e es X:=by rfl) (h8:Ee cpos es X:=by rfl):
 QE X (.Call (.Attribute o "join" apos) (e::es) [] cpos) (yBS uU to tr):=ag6 PySem.F.slot_str_join PySem.F.type_str_join ahi ho ha h4 h5 h6 h7 h8
theorem oM(zs:List Str):(Txt.join "" zs).cps.toList=zs.flatMap fun z=>z.cps.toList:=by
 have e:∀zs:List Str,(Str.join "" zs).cps.toList=zs.flatMap fun z=>z.cps.toList:=by
  intro zs
  induction zs with
  |nil=>rfl
  |cons z r ih=>
   cases r with
   |nil=>simp[Str.join]
   |cons y r=>
    show(z ++ "" ++ Str.join "" (y::r)).cps.toList=_;have:(z ++ "" ++ Str.join "" (y::r)).cps=z.cps++#[]++(Str.join "" (y::r)).cps:=rfl;rw[this];simp only[A9,ih,A1,Array.append_empty]
 exact(BR (fun x:Str=>x.cps.toList) (StrLaws.glued_eq_join "" zs)).trans (e zs)
def jK(t u:ww)(D:v4)(τ:jn)(L:ql):Prop:=∃J:jn->ql->Prop,t { D with nx:=J } τ L/\∀τ' L',J τ' L'->u D τ' L'
theorem aW{rest:List Stmt}{t u:ww}(h:QS X st t)(k:rQ X rest u):rQ X (st::rest) (jK t u):=l6.imp (qQ h k) fun D σ H ⟨τ,L,D3,rs,rl,⟨J,z,q⟩,k⟩=>
 ⟨τ,L,{ D3 with nx:=J },rs,rl,z,fun σ1 H1 τ1 L1 t1 rs1 rl1 z1=>⟨τ1,L1,D3,rs1,rl1,q τ1 L1 z1,k.ts t1⟩,k.rt,k.bk,k.ct⟩
section
variable {E3:X3}
end
section
variable {cp:Pos}
end
section
variable {a:Expr}{ta:xx}{pt:Pos}{vs:List V}
end
def xV(_:v4)(_:jn)(_:ql):Prop:=False
theorem zA :QS X st xV:=fun _ _ _ _ _ _ ⟨_,_,_,_,_,z,_⟩=>z.elim
open PySem L2 PySem.W
section
variable {K:Frag}{D:Addr}{t c:Value}{b:Bool}
end
end L3
namespace L2
open PySem PySem.Spec PyProof.Rows
section
variable {a b:Expr}{tb:TE}{op op':CmpOp}{ops:List CmpOp}{r:R2}{u:V->TE} 
end
end L2
namespace L3
open PySem L2
section
variable {a b:Expr}{ta:xx}{op op':CmpOp}{ops:List CmpOp}{r:qT}{u:Y->xx} 
end
end L3
namespace L2
open PySem PySem.Spec PyProof.Rows
theorem uN:∀{bs:List Bool} {us:List Value},ze (bs.map V.bl) us->us=bs.map Value.bool
 |[],_,.nil=>rfl
 |b::bs,_,.cons r t=>by cases (show _=Value.bool b from r);rw[uN t];rfl
section
theorem yr(hc:X.calm=true:=by rfl):jk X (.builtin "all") (fun xs H Q=>∃(a:Addr) (bs:List Bool),xs=[.ref a]/\wv X.K H a (bs.map V.bl)/\Q (.bl (bs.all id)) H):=by
 intro pins s σ H xs us Q I r h;obtain⟨a,bs,rfl,sq,q⟩:=h;obtain⟨u,rfl,ru⟩:=kI r;cases ru;obtain⟨its,rv,pl,_⟩:=I.list sq;cases uN rv;have hl:=zo pl;have hlt:a<s.heap.objs.size:=by obtain⟨_,e,_⟩:=hl;exact Heap.lt_size e
 refine jr I.tk (call_all_walk (wpAny_pyIter_list hl ?_));refine⟨s.heap.objs.size,[s.heap.objs.size,a],[s.heap.objs.size],(bs.map Value.bool).toArray.size,_,_,fun i=>(bs[i]?).getD true,rfl,Walks.list (A:=X.A.in1) (I.ok.hd hc) _ a (Bd hlt) (bs.map Value.bool).toArray,
  ⟨⟨_,Heap.get?_push_size _ rfl,rfl,rfl⟩,hl.push _⟩,fun i v s' Q' E' hP hQ=>?_,fun h' tk hk ht=>?_⟩
 ·have hP:(bs.map Value.bool).toArray[i]?=some v:=hP;rw[List.getElem?_toArray,Aq] at hP;obtain⟨b,e,rfl⟩:=Ay.mp hP;have hQ:Q' ((bs[i]?).getD true) s':=hQ;rw[e] at hQ;exact wpAny_truthy_bool hQ
 ·have e:((List.range (bs.map Value.bool).toArray.size).all fun i=>(bs[i]?).getD true)=bs.all id:=by rw[Am,Ae];exact PyProof.Rows.LSm.range_all bs
  rw[e];exact⟨.bl _,H,I.kept (h':=h') (t':=tk) (PyProof.Rows.LSm.kept_iter hk),rfl,q⟩
end
end L2
namespace L3
open PySem L2
def uq:List Y->Option (List Bool)
 |[]=>some []
 |.bl b::r=>(uq r).map (b::·)
 |_::_=>none
theorem yc(bs:List Bool):uq (bs.map Y.bl)=some bs:=by induction bs with|nil=>rfl|cons b r ih=>show(uq (r.map Y.bl)).map (b::·)=_;rw[ih];rfl
theorem o8{G:G3}{H:Hp}:∀{ys:List Y} {xs:List V} {bs:List Bool},uq ys=some bs->x6 G H ys xs->xs=bs.map V.bl
 |[],_,_,h,r=>by cases h;exact r
 |y::ys,_,bs,h,⟨x,xs',e,r1,r2⟩=>by
  cases y with
  |bl b=>
   have h':(uq ys).map (b::·)=some bs:=h;obtain⟨cs,e1,rfl⟩:=Ay.mp h';cases (show x=V.bl b from r1);rw[e,o8 e1 r2];rfl
  |_=>cases h
def agf(xs:List Y)(L:ql)(Q:YK):Prop:=match xs with
 |[y]=>ow y=true/\dm L y fun ys=>tR L (fun bs L=>Q (.bl (List.all bs id)) L) (uq ys)
 |_=>False
theorem akb(hc:X.calm=true:=by rfl):jk X (.builtin "all") (zV X.g3 agf):=EU (yr hc) fun xs H Q ⟨ys,L,Q3,rv,rl,z,k⟩=>by
 unfold agf at z;split at z
 ·rename_i y;obtain⟨x,rfl,r⟩:=rv.inv1;obtain⟨hy,z⟩:=z;obtain⟨zs,es,z⟩:=vo z;obtain⟨bs,eb,z⟩:=iW z;obtain⟨a,us,rfl,sq,rr⟩:=dM rl r hy es;cases o8 eb rr;exact⟨a,bs,rfl,sq,k _ H _ L (EF _) rl (by rfl) z⟩
 ·exact z.elim
theorem ag5:bootBuiltins "all" = some (.builtin "all"):=by decide +kernel
def act:Y->Option j3
 |.int i=>some (.inl i)
 |.str x=>some (.inr x)
 |_=>none
theorem kH{k:j3}(h:act y=some k)(r:RV G H y v):v=kV k:=by cases y with|int i=>cases h;exact r|str x=>cases h;exact r|_=>cases h
def fb(kvs:List (j3×Y))(k:j3)(y:Y):List (j3×Y):=
 if (kvs.any fun kv=>decide (kv.1=k))=true then kvs.map (fun kv=>if kv.1=k then(kv.1,y) else kv) else kvs++[(k,y)]
theorem j7.dct{p:Addr}{zs:List (j3×V)}{o:HO}(h:H p=some (.dK zs)):j7 H (upd H p o):=fun a u i q=>by rw[qr ?_];exact q;rintro rfl;rw[h] at q;cases q;cases i
theorem aao{xs:List (j3×V)}(p:Paired (fun(p:j3×Y) (q:j3×V)=>p.1=q.1/\RV G H p.2 q.2) kvs xs)(k:j3):(kvs.any fun kv=>decide (kv.1=k))=xs.any fun kv=>decide (kv.1=k):=by induction p with|nil=>rfl|cons r t ih=>rw[Cd,Cd,ih,r.1]
theorem yP{xs:List (j3×V)}(p:Paired (fun(p:j3×Y) (q:j3×V)=>p.1=q.1/\RV G H p.2 q.2) kvs xs)(k:j3)(r:RV G H y v):
 Paired (fun(p:j3×Y) (q:j3×V)=>p.1=q.1/\RV G H p.2 q.2) (kvs.map fun kv=>if kv.1=k then(kv.1,y) else kv) (xs.map fun kv=>if kv.1=k then(kv.1,v) else kv):=by
 induction p with
 |nil=>exact .nil
 |@cons a b _ _ r' t ih=>
  refine .cons ?_ ih;obtain⟨e,q⟩:=r';dsimp only;by_cases c:a.1=k
  ·rw[AB c,AB (e▸c)];exact⟨e,r⟩
  ·rw[Az c,Az (fun z=>c (e.trans z))];exact⟨e,q⟩
theorem vW{xs:List (j3×V)}(p:Paired (fun(p:j3×Y) (q:j3×V)=>p.1=q.1/\RV G H p.2 q.2) kvs xs)(k:j3)(r:RV G H y v):
 Paired (fun(p:j3×Y) (q:j3×V)=>p.1=q.1/\RV G H p.2 q.2) (kvs++[(k,y)]) (xs++[(k,v)]):=by
 induction p with|nil=>exact .cons ⟨rfl,r⟩ .nil|cons r' t ih=>exact .cons r' ih
theorem zZ{xs:List (j3×V)}(p:Paired (fun(p:j3×Y) (q:j3×V)=>p.1=q.1/\RV G H p.2 q.2) kvs xs)(k:j3)(r:RV G H y v):
 Paired (fun(p:j3×Y) (q:j3×V)=>p.1=q.1/\RV G H p.2 q.2) (fb kvs k y) (cg xs k v):=by
 unfold fb cg;rw[aao p k];by_cases c:(xs.any fun kv=>decide (kv.1=k))=true
 ·rw[AB c,AB c];exact yP p k r
 ·rw[Az c,Az c];exact vW p k r
theorem fT{R:α->β->Prop}{l:List α}{m:List β}(p:Paired R l m):l.length=m.length:=by induction p with|nil=>rfl|cons _ _ ih=>rw[AK,AK,ih]
def mC(_:jn)(L:ql)(Q:YK):Prop:=∀p,L p=none->Q (.ref p) (qg L p (.dct []))
def hG(td ti:xx)(τ:jn)(L:ql)(Q:YK):Prop:=td τ L fun x L1=>ti τ L1 fun y L2=>match x,act y with
 |.ref a,some k=>l7 L2 a fun kvs=>tR L2 Q (xm kvs k)
 |_,_=>False
def a6(td ti tv:xx)(D:v4)(τ:jn)(L:ql):Prop:=tv τ L fun v L1=>td τ L1 fun x L2=>ti τ L2 fun y L3=>match x,act y with
 |.ref a,some k=>l7 L3 a fun kvs=>kvs.length<sizeLine/\D.nx τ (qg L3 a (.dct (fb kvs k v)))
 |_,_=>False
section
variable {i:Expr}{td tv:xx} 
theorem eU:QE X (.Dict [] [] pos) mC:=EH zY fun σ H Q ⟨τ,L,Q3,rs,rl,z,k⟩=>fun p hp=>by
 refine k _ _ _ (qg L p (.dct [])) (EG hp) (fun a u e=>?_) (by rfl) (z p (rl.none hp));by_cases c:a=p
 ·subst c;rw[q9] at e;cases e;exact⟨[],j4,.nil⟩
 ·rw[qb c] at e;exact(rl a u e).keep (EG hp) (qr c)
theorem bY(hu:X.A.units+128<cLine)(ho:QE X o td)(hi:QE X i ti)(hs:agx i):QE X (.Subscript o i pos) (hG td ti):=EH (abz (by omega) ho hi hs) fun σ H Q ⟨τ,L,Q3,rs,rl,z,k⟩=>
 ⟨τ,L,_,rs,rl,z,fun v H1 x L1 t1 rl1 rv1 z1=>⟨τ,L1,_,rs.ts t1,rl1,z1,fun w H2 y L2 t2 rl2 rv2 z2=>by
  split at z2
  ·rename_i a kk ek;obtain⟨kvs,e,z3⟩:=dF z2;obtain⟨yv,ev,q⟩:=iW z3;obtain⟨xs,e2,pr⟩:=rl2 a _ e;obtain⟨xv,ex,rx⟩:=mF pr ev;exact⟨a,xv,rv1,.inl ⟨xs,kk,.inl e2,kH ek rv2,ex.symm⟩,k _ H2 _ L2 (t1.trans t2) rl2 rx q⟩
  ·exact z2.elim⟩⟩
theorem vh(hu:X.A.units+128<cLine)(ho:QE X o td)(hi:QE X i ti)(hv:QE X value tv)(hs:swapsWith value (some (.Subscript o i pos')) pos.line X.env=pure false:=by rfl):QS X (.Assign [.Subscript o i pos'] value pos) (a6 td ti tv):=
 EK (abb (by omega) ho hi hv hs) fun D σ H ⟨τ,L,D3,rs,rl,z,k⟩=>
 ⟨τ,L,_,rs,rl,z,fun v H1 vy L1 t1 rl1 rv1 z1=>⟨τ,L1,_,rs.ts t1,rl1,z1,fun x H2 xy L2 t2 rl2 rv2 z2=>⟨τ,L2,_,rs.ts (t1.trans t2),rl2,z2,fun w H3 y L3 t3 rl3 rv3 z3=>by
  split at z3
  ·rename_i a kk ek;obtain⟨kvs,e,hl,q⟩:=dF z3;obtain⟨xs,e2,pr⟩:=rl3 a _ e;have tt:j7 H3 (upd H3 a (.dK (cg xs kk v))):=j7.dct e2;cases (show x=V.ref a from rv2);refine⟨a,_,rfl,.inl ⟨xs,kk,e2,kH ek rv3,by rw[<-fT pr];exact hl,rfl⟩,?_⟩;refine k.nx _ _ _ _ (((t1.trans t2).trans t3).trans tt) (rs.ts (((t1.trans t2).trans t3).trans tt)) (fun b u eb=>?_) q;by_cases c:b=a
   ·subst c;rw[q9] at eb;cases eb;exact⟨_,j4,EI (zZ pr kk (rv1.ts (t2.trans t3))) fun _ _ ⟨h1,h2⟩=>⟨h1,h2.ts tt⟩⟩
   ·rw[qb c] at eb;exact(rl3 b u eb).keep tt (qr c)
  ·exact z3.elim⟩⟩⟩
end
def af5(to ti tv:xx)(D:v4)(τ:jn)(L:ql):Prop:=tv τ L fun v L1=>to τ L1 fun x L2=>ti τ L2 fun y L3=>match x,y with
 |.ref a,.int i=>bE L3 a fun ys=>tR L3 (fun j L=>D.nx τ (qg L a (.lst (ys.set j v)))) (ixN ys.length i)
 |_,_=>False
section
variable {i:Expr}{tv:xx} 
theorem ab5(ho:QE X o to)(hi:QE X i ti)(hv:QE X value tv)
 (ha:∀v,assign (.Subscript o i pos') X.env v=(do
  let ov <-holding [v] (eval o X.env)
  let iv <-holding [v,ov] (eval i X.env)
  standAt pos'
  holding [v,ov,iv] (setItem ov iv v)
  release [v,ov,iv] []):=by intro _;rfl)
 (h1:swapsWithSole [.Subscript o i pos'] value pos.line X.env=pure false:=by rfl) (h2:swappedStores [.Subscript o i pos'] value X.env=pure none:=by rfl)
 (h3:(assignEach [.Subscript o i pos'] X.env).map (·.2)=[assign (.Subscript o i pos') X.env]:=by rfl):QS X (.Assign [.Subscript o i pos'] value pos) (af5 to ti tv):=
 EK (zU hv (ahx ho hi aab ha) h1 h2 h3) fun D σ H ⟨τ,L,D3,rs,rl,z,k⟩=>
 ⟨τ,L,_,rs,rl,z,fun v H1 vy L1 t1 rl1 rv1 z1=>⟨τ,L1,_,rs.ts t1,rl1,z1,fun x H2 xy L2 t2 rl2 rv2 z2=>⟨τ,L2,_,rs.ts (t1.trans t2),rl2,z2,fun w H3 y L3 t3 rl3 rv3 z3=>by
  split at z3
  ·rename_i a ii;obtain⟨ys,e,z4⟩:=jy z3;obtain⟨j,ej,q⟩:=iW z4;obtain⟨xs,e2,r⟩:=rl3 a _ e;cases (show x=V.ref a from rv2);cases (show w=V.int ii from rv3);have tt:j7 H3 (upd H3 a (.lst (xs.set j v))):=EM e2;exact⟨a,xs,ii,j,rfl,rfl,e2,by rw[<-r.length];exact ej,k.nx _ _ _ _ (((t1.trans t2).trans t3).trans tt) (rs.ts (((t1.trans t2).trans t3).trans tt)) (rl3.setL e2 (x6.setY (rv1.ts (t2.trans t3)) j r)) q⟩
  ·exact z3.elim⟩⟩⟩
end
end L3
namespace L2
open PySem PySem.Spec PyProof.Rows
section
variable {v₁ v₂:Expr}{te:TE}{u:Str->TE} 
end
end L2
namespace L3
open PySem L2
section
variable {v₁ v₂:Expr}{u:Str->xx} 
end
section
variable {tv:xx}{f m:Str}{g:Addr}
end
open PySem.AutoSeq1 (wpAny_loadPart')
open MeetsSeq MeetsSeq2 MeetsSeq3 SeqRoads2
def aew(x y:Y)(L:ql)(Q:YK):Prop:=dm L x fun xs=>dm L y fun ys=>ow x=true/\ow y=true/\xs.length+ys.length≤sizeLine/\∀p,L p=none->Q (.ref p) (qg L p (.lst (xs++ys)))
theorem afh(K:Ai)(P:Program)(w:World)(hK:X.K=K:=by rfl)(hP:X.prog=P:=by rfl)(hw:X.w=w:=by rfl):kq X (binaryOp .Add) (fq ⟨K,P,w⟩ aew):=by
 subst hK hP hw;intro pins s σ H x y v u Q I rx ry ⟨x3,y3,L,Q3,r1,r2,rl,z,k⟩;obtain⟨xs,ex,z⟩:=vo z;obtain⟨ys,ey,z⟩:=vo z;obtain⟨lx,ly,hz,q⟩:=z;obtain⟨a,ws,rfl,s1,rv1⟩:=dM rl r1 lx ex;obtain⟨b,ws',rfl,s2,rv2⟩:=dM rl r2 ly ey;cases rx;cases ry;obtain⟨is1,vx,tx,_⟩:=I.list s1;obtain⟨is2,vy,ty,_⟩:=I.list s2;obtain⟨⟨cls,dd,data,sl⟩,ho,hc,n,hd⟩:=id (zo tx);obtain⟨⟨cls2,dd2,data2,sl2⟩,ho2,hc2,n2,hd2⟩:=id (zo ty);simp only at hc hd hc2 hd2;subst hc hd hc2 hd2;have l1:=vx.length;have l2:=vy.length;have l3:=rv1.length;have l4:=rv2.length;have hsz:is1.toArray.size+is2.toArray.size≤sizeLine:=by rw[Am,Am];lia
 refine concat_meets ⟨_,ho,rfl⟩ ⟨_,ho2,rfl⟩ noFill_list_add seq_list_add PySem.F.slot_list_add PySem.F.entry_list_add (PySem.F.args_list_add_2 _ _) (PyProof.Rows.list_addW a b is1.toArray is2.toArray n n2 dd dd2 sl sl2 hsz) ⟨ho,ho2,?_⟩;have e:is1.toArray++is2.toArray=(is1++is2).toArray:=by simp
 rw[e];exact⟨.ref _,_,I.lnew (t':=s.toks) (vx.append vy) (by rw[Ac];lia),rfl,k _ _ _ _ (EG I.fresh) (rl.newL I.fresh (rv1.app rv2)) (by rfl) (q _ (rl.none I.fresh))⟩
end L3
namespace L2
open PySem PySem.Spec PyProof.Rows
end L2
namespace Txs
open PySem PySem.Builtin.Str
theorem len_list(x:Str):x.cps.toList.length=x.length:=by simp[Str.length]
end Txs
namespace L2
open PySem PySem.Spec PyProof.Rows
section
variable {isp imk c j1 j2:Nat}{sp mk:Str}{u:Tok}{m:Str->Option Value}{p6 p7 p8 p9 p10:Pos}{Q:Flow->Shared->Prop}
end
end L2
namespace L3
open PySem L2
end L3
namespace L2
open PySem PySem.Spec PyProof.Rows
section
end
end L2
namespace L3
open PySem L2
section
variable {m:Str}{k:Nat}{sp:x0}
end
end L3
namespace L2
open PySem PySem.Spec PyProof.Rows
end L2
namespace L3
open PySem L2
end L3
namespace L2
open PySem PySem.Spec PyProof.Rows
section
variable {te:TE} 
end
end L2
namespace L3
open PySem L2
section
end
end L3
namespace L2
open PySem PySem.Spec PyProof.Rows
end L2
namespace L3
open PySem L2 PySem.Spec PyProof.Rows
end L3
namespace L2
open PySem PySem.Spec PyProof.Rows
section
variable {a T:Addr}{tr:Option Addr}
end
section
variable {T:List Str}{iter:Expr}{g:TG}{te:TE}
end
section
variable {a b T:Addr}{tr:Option Addr}{E1:X1}
end
section
variable {k:Nat}{E1:X1}{t:TA}
end
end L2
namespace L3
open PySem L2
section
variable {T:List Str}{iter:Expr}{wi:TI3}{E3:X3}{Ea:Addr->ql->Prop}
end
end L3
namespace L2
open PySem PySem.Spec PyProof.Rows
section
end
end L2
namespace L3
open PySem L2
end L3
namespace L2
open PySem PySem.Spec PyProof.Rows
section
variable {w:World} 
theorem oX{it t:Addr}{its:Array Value}(hne:t≠it):∀(n i:Nat) (s:Shared) (Q:List Value->Shared->Prop),s.heap.IsListIter it t i->s.heap.IsList t its->i+n≤its.size->
 (∀h',h'.IsListIter it t (i+n)->Heap.SameBut it s.heap h'->Q ((its.toList.drop i).take n) { s with heap:=h' })->wpAny (model prog w) A (draw (.ref it) n) Q E s
 |0,i,s,Q,hit,_,_,hQ=>by unfold draw;exact Ah (by simpa using hQ s.heap hit (Heap.SameBut.refl ..))
 |n+1,i,s,Q,hit,ht,hle,hQ=>by
  have hlt:i<its.size:=by omega
  unfold draw;refine Aa (wpAny_pyNext_list_item hit ht (x:=its[i]) (by simp[hlt]) fun g1 it1 sb1=>?_);refine Aa (A8 (oX hne n (i+1) _ _ it1 (ht.extBut sb1.extBut hne) (by lia) fun g2 it2 sb2=>Ah ?_));have e:its.toList.drop i=its[i]::its.toList.drop (i+1):=by simp[BQ,hlt]
  have q:=hQ g2 (by rw[show i+(n+1)=i+1+n by simp +arith only];exact it2)
   (sb1.trans sb2)
  rw[e,List.take_succ_cons] at q;exact q
theorem ab9{t:Addr}{its:Array Value}{Q:Unit->Shared->Prop}(hh:A.handled=none)(ht:s.heap.IsList t its)(hn:(assignEach elts env).length=its.size)(hst:(assignEach elts env).findIdx? (·.1)=none)
 (h:∀g,Heap.ExtBut s.heap.objs.size s.heap g->wpAny (model prog w) A (assignInOrder ((assignEach elts env).map (·.2)) its.toList) Q E { s with heap:=g }):wpAny (model prog w) A (assign (.Tuple elts x1 pos) env (.ref t)) Q E s:=by
 have hlt:t≠s.heap.objs.size:=by obtain⟨o,ho,_⟩:=ht;exact Bd (Heap.lt_size ho)
 rw[arm_assign_Tuple];refine Aa (wpAny_standAt ?_);unfold unpack;rw[hn,hst];refine Aa (A8 ?_);unfold unpackItems notIterableAtAll;refine Aa (Aa (wpAny_specialOf ht.typeIs slot_list_iter.lookup ?_));refine Ah ?_;rw[Az (by simp)];refine Aa (A8 (wpAny_pyIter_list ht ?_));refine Aa (A8 (oX hlt its.size 0 _ _ ⟨_,Heap.get?_push_size _ rfl,rfl,rfl⟩ (ht.push _) (by simp +arith only) fun g1 it1 sb1=>?_));have all:List.take its.size (List.drop 0 its.toList)=its.toList:=by rw[DX];exact AZ (by simp)
 rw[all,Az (by simp)];have ht1:g1.IsList t its:=(ht.push _).extBut sb1.extBut hlt;refine Aa (A8 (wpAny_pyNext_list_end hh it1 ht1 (by simp) fun g2 eb2=>?_));rw[Az (by simp)];exact Ah (h g2 fun b o hb e=>eb2 b o hb (sb1.extBut b o hb (Heap.get?_push_of_some _ e)))
end
section
def am4(K:Ai)(n:Nat)(t:zM):TG:=fun v σ H Q=>∃a xs,v=.ref a/\wv K H a xs/\xs.length=n/\t xs σ H Q
theorem ahd{k:Nat}{t:zM}(hc:X.calm=true)(h:PGs X es t)
 (hn:(assignEach es X.env).length=n:=by rfl) (hst:(assignEach es X.env).findIdx? (·.1)=none:=by rfl):PG X (.Tuple es k pos) (am4 X.K n t):=by
 intro pins s σ H v u Q I r hw;obtain⟨a,xs,e1,hq,hl,hw⟩:=hw;subst e1;cases r;obtain⟨its,rv,pl,hz⟩:=I.list hq;have ht:=zo pl;refine ab9 (I.ok.hd hc) ht (by simp[hn,<-hl,rv.length]) hst fun h' hx=>?_;have I1:qx X pins σ H { s with heap:=h' }:=I.kept (t':=s.toks) fun b o e=>hx b o (Bd (Heap.lt_size e)) e;exact h pins _ σ H xs _ Q I1 (by simpa using rv) hw
end
section
theorem abt(l:Addr)(its:Array Value)(n:Nat)(x:Value)(b:Nat->Bool)(j:Nat)(hj:j<its.size)(hit:b j=true)(hz:its.size≤sizeLine):∀(k i:Nat),j - i=k->i≤j->(∀m,i≤m->m<j->b m=false)->
 Meets (Builtin.«list.remove.loop» ⟨[.ref l,x,rawInt i],[]⟩) (fun A R s=>s.heap.get? l=some { cls:=.type "list",dict:=none,data:=.seq its n,slots:=#[] }/\(∀m (hm:m<its.size),SeqAt.EqAt A.in1 s its[m] x (b m))/\R (.ok (.ret .none)) { s with heap:=s.heap.update l (Obj.mapSeq fun xs=>xs.eraseIdxIfInBounds j) }):=by
 intro k
 induction k with
 |zero=>
  intro i hk hij hno prog w A R s h;obtain⟨hp,g,d,tk,os⟩:=s;obtain⟨hl,eq,h⟩:=h;have e:i=j:=by lia
  subst e
  (wp_walk using wpAny_loadPart' hl)
  have hi:its[((i:Nat):Int).toNat]?=some its[i]:=by simp[hj]
  rw[hi];refine Aa (eq i hj prog w _ _ ?_);rw[hit];have hz':(its.eraseIdxIfInBounds i).size≤sizeLine+1:=AW (MeetsSeq.size_erased its _) (Ca hz)
  (wp_walk using (wpAny_updateSeq hl rfl (hz:=hz) (_hz':=hz')),wpAny_loadPart' hl)
  simpa using h
 |succ k ih=>
  intro i hk hij hno prog w A R s h;obtain⟨hp,g,d,tk,os⟩:=s;obtain⟨hl,eq,h⟩:=h;have hlt:i<its.size:=by exact fw
  (wp_walk using wpAny_loadPart' hl)
  have hi:its[((i:Nat):Int).toNat]?=some its[i]:=by simp[hlt]
  have hc:((i:Int)+1)=((i+1:Nat):Int):=by rfl
  rw[hi];refine Aa (eq i hlt prog w _ _ ?_);rw[hno i (An _) (by omega)]
  wp_walk
  rw[hc];refine⟨plainId_quiet MeetsSeq.plain_remove_loop _,codeAny_builtin MeetsSeq.entry_remove_loop ?_⟩;rw[Around.under_plainId MeetsSeq.plain_remove_loop _];exact ih (i+1) (by omega) (by omega) (fun m h1 h2=>hno m (by exact fQ) h2) prog w A R _ ⟨hl,eq,h⟩
theorem aa2(l:Addr)(its:Array Value)(n:Nat)(x:Value)(b:Nat->Bool)(j:Nat)(hj:j<its.size)(hit:b j=true)(hz:its.size≤sizeLine)(hno:∀m,m<j->b m=false):
 Meets (Builtin.«list.remove» ⟨[.ref l,x],[]⟩) (fun A R s=>s.heap.get? l=some { cls:=.type "list",dict:=none,data:=.seq its n,slots:=#[] }/\(∀m (hm:m<its.size),SeqAt.EqAt A.in1 s its[m] x (b m))/\R (.ok (.ret .none)) { s with heap:=s.heap.update l (Obj.mapSeq fun xs=>xs.eraseIdxIfInBounds j) }):=by
 intro prog w A R s h;obtain⟨hp,g,d,tk,os⟩:=s;obtain⟨hl,eq,h⟩:=h
 (wp_walk using wpAny_loadPart' hl)
 refine⟨plainId_quiet MeetsSeq.plain_remove_loop _,codeAny_builtin MeetsSeq.entry_remove_loop ?_⟩;rw[Around.under_plainId MeetsSeq.plain_remove_loop _];exact abt l its n x b j hj hit hz _ 0 rfl (Bf _) (fun m _ h2=>hno m h2) prog w A R _ ⟨hl,eq,h⟩
end
theorem ze.eraseN:∀{xs:List V} {us:List Value} (n:Nat),ze xs us->ze (xs.eraseIdx n) (us.eraseIdx n)
 |[],_,n,.nil=>by simp;exact .nil
 |_::_,_,0,.cons _ t=>t
 |_::_,_,n+1,.cons r t=>.cons r (ze.eraseN n t)
section
def acx(X:Cx):V->List V->Hp->VK->Prop:=fun x vs H Q=>∃l xs y ds e,∃n m j:Nat,x=.ref l/\vs=[y]/\H l=some (.lst xs)/\n≤126/\Paired (v9 X.K H n) xs ds/\v9 X.K H m y e/\j<ds.length/\(∃d,ds[j]?=some d/\Da.eq d e=true)/\
 (∀(k:Nat) d,k<j->ds[k]?=some d->Da.eq d e=false)/\Q .non (upd H l (.lst (xs.eraseIdx j)))
theorem u3(hu:X.A.units+128<cLine):hX X "list.remove" (acx X):=by
 intro pins s σ H x vs v us Q I rx rv h;obtain⟨l,xs,y,ds,e,n,m,j,rfl,rfl,hH,hn,pd,ry,hj,⟨dj,edj,hdj⟩,hno,q⟩:=h;cases rx;obtain⟨u,rfl,ru⟩:=rv.one;obtain⟨z,its,nn,r,hl,eo⟩:=I.lstM hH;have l1:xs.length=ds.length:=pd.length;have l2:its.length=xs.length:=r.length.symm;obtain⟨arr,harr⟩:∃arr:Array Value,arr=its.toArray:=⟨_,rfl⟩;have hsz:arr.size=its.length:=by rw[harr,Am]
 have b:Nat->Bool:=fun _=>true;have hzz:arr.size≤sizeLine:=by rw[hsz];lia
 have M:=aa2 l arr nn u (fun k=>((ds[k]?).map fun d=>Da.eq d e).getD false) j (by lia) (by show((ds[j]?).map fun d=>Da.eq d e).getD false=true;rw[edj];exact hdj) hzz (fun k hk=>by show((ds[k]?).map fun d=>Da.eq d e).getD false=false;cases ek:ds[k]? with|none=>rfl|some d=>exact hno k d hk ek)
 rw[harr] at M;refine call_meets F.slot_list_remove ⟨_,eo,rfl⟩ F.entry_list_remove (F.args_list_remove_2 _ _) M ⟨eo,fun k hk=>?_,?_⟩
 ·have hk':k<its.length:=by rw[Am] at hk;exact hk
  obtain⟨d,ed,rd⟩:=Words.Paired.getP pd (Aj (by lia:k<xs.length));show SeqAt.EqAt _ s _ u (((ds[k]?).map fun d=>Da.eq d e).getD false);rw[ed];obtain⟨u',eu',ru'⟩:=Words.Paired.getP r (Aj (by lia:k<xs.length));have eg:its.toArray[k]=u':=by have:=(A2.mp eu').2;simpa using this
  rw[eg];exact iY I n (by show X.A.units+1+n<cLine;lia) rd ry ru' ru
 ·refine⟨.non,_,I.lset (its':=its.eraseIdx j) hH eo ?_ (r.eraseN j) ?_,rfl,q⟩
  ·have:j<its.length:=by lia
   simp[Array.eraseIdxIfInBounds,this]
  ·have:=CV xs j;exact ai3
end
end L2
namespace L3
open PySem L2
def aej(n:Nat)(t:pM)(y:Y)(τ:jn)(L:ql)(Q:jn->ql->Prop):Prop:=match y with
 |.ref a=>bE L a fun ys=>match ys.length==n with
  |true=>t ys τ L Q
  |false=>False
 |_=>False
theorem aht{kk:Nat}(hc:X.calm=true)(h:QGs X es gs)(h1:(assignEach es X.env).length=n:=by rfl)(h2:(assignEach es X.env).findIdx? (·.1)=none:=by rfl):QG X (.Tuple es kk pos) (aej n gs):=
 PG.imp (ahd hc h h1 h2) fun v σ H Q ⟨y,τ,L,Q3,rv,rs,rl,z,k⟩=>by
 cases y with
 |ref a=>
  cases (show v=.ref a from rv);obtain⟨ys,e,z'⟩:=jy z;obtain⟨xs,e2,r⟩:=rl a _ e;split at z'
  ·rename_i ee;exact⟨a,xs,rfl,EW e2,by rw[<-r.length];exact beq_iff_eq.mp ee,ys,τ,L,Q3,r,rs,rl,z',k⟩
  ·exact z'.elim
 |_=>exact z.elim
def iS(x:Y)(vs:List Y)(L:ql)(Q:YK):Prop:=match x,vs with
 |.ref a,[v]=>bE L a fun ys=>∃ds e,∃n m j:Nat,n≤126/\Paired (jc L n) ys ds/\jc L m v e/\j<ds.length/\(∃d,ds[j]?=some d/\Da.eq d e=true)/\(∀(k:Nat) d,k<j->ds[k]?=some d->Da.eq d e=false)/\Q .non (qg L a (.lst (ys.eraseIdx j)))
 |_,_=>False
theorem yd(hu:X.A.units+128<cLine):hX X "list.remove" (upM X.g3 iS):=hX.imp (u3 hu) fun x xs H Q ⟨y,ys,L,Q3,r1,r2,rl,z,k⟩=>by
 unfold iS at z;split at z
 ·rename_i a v;obtain⟨zs,e,ds,de,n,m,j,hn,pd,dv,hj,hit,hno,z⟩:=jy z;obtain⟨us,e2,r⟩:=rl a _ e;obtain⟨v',rfl,rv⟩:=r2.inv1;have both:∀{ys:List Y} {ds:List Da} {xs:List V},Paired (jc L n) ys ds->x6 X.g3 H ys xs->Paired (v9 X.K H n) xs ds:=by
   intro ys ds xs p
   induction p generalizing xs with
   |nil=>intro q;cases (show xs=[] from q);exact .nil
   |cons h t ih=>
    rintro⟨x,xs',rfl,q1,q2⟩;exact .cons (jc.rep rl h q1) (ih q2)
  exact⟨a,us,v',ds,de,n,m,j,r1,rfl,e2,hn,both pd r,jc.rep rl dv rv,hj,hit,hno,k _ _ _ _ (EM e2) (rl.setL e2 (r.eraseIdx j)) (by rfl) z⟩
 ·exact z.elim
theorem uu(hu:X.A.units+128<cLine)(ho:QE X o to)(ha:QA X (e::es) tr)(h4:attributeBase o "remove" X.env (eval o X.env)=eval o X.env:=by rfl)
 (h5:((backTo cpos (starEach (e::es) X.env)).all (fun x=>!x.1)&&(backToKw cpos (keywordEach [] X.env)).all (fun x=>x.1.isSome)&&decide ((e::es).length+([]:List Keyword).length+(if ([]:List Keyword).isEmpty=true then 0 else 1)<30))=true:=by rfl)
 (h6:(apos.endLine==cpos.line)=true:=by rfl) (h7:Ed e es X:=by rfl) (h8:Ee cpos es X:=by rfl):
 QE X (.Call (.Attribute o "remove" apos) (e::es) [] cpos) (aq iS to tr):=nV PySem.F.slot_list_remove PySem.F.type_list_remove (yd hu) ho ha h4 h5 h6 h7 h8
end L3
namespace L2
open PySem PySem.Spec PyProof.Rows
section
end
section
end
end L2
namespace L3
open PySem L2
end L3
namespace L2
open PySem PySem.Spec PyProof.Rows
section
def alz:List V->Hp->VK->Prop:=fun xs H Q=>∃n:Int,xs=[.int n]/\∀p,H p=none->Q (.ref p) (upd H p (.rng 0 n))
theorem y7:jk X (.type "range") alz:=by intro pins s σ H xs us Q I r h;obtain⟨n,rfl,q⟩:=h;obtain⟨u,rfl,ru⟩:=r.one;obtain⟨t,rfl⟩:=(show ∃t,u=Value.int n t from ru);refine call_range_1 ?_;refine⟨.ref s.heap.objs.size,_,I.laid (t':=s.toks+1+1) (o:=.rng 0 n) (fun b ob q=>Heap.get?_push_of_some _ q) (An _) ?_,rfl,q _ (I.hok.fresh (An _))⟩;exact⟨s.toks,t,s.toks+1,Heap.get?_push_size _ rfl⟩
theorem sD{acc:Array Value}(h:ItemsOf (fun i v=>∃t,v=.int (0+(i:Int)*1) t) acc n):ze ((List.range n).map fun i:Nat=>V.int (0+(i:Int))) acc.toList:=by
 have len:acc.toList.length=n:=by rw[AL];exact h.1
 have key:∀(l:List Value) (k:Nat),(∀(j:Nat) v,l[j]?=some v->∃t,v=Value.int (0+((k+j:Nat):Int)*1) t)->ze ((List.range' k l.length).map fun i:Nat=>V.int (0+(i:Int))) l:=by
  intro l
  induction l with
  |nil=>intro k _;exact .nil
  |cons v r ih=>
   intro k hk;rw[AK,DI,AF];obtain⟨t,e⟩:=hk 0 v rfl;refine .cons ?_ (ih (k+1) fun j v' hj=>?_)
   ·exact⟨t,by rw[e];simp⟩
   ·have:=hk (j+1) v' hj;rw[show k+1+j=k+(j+1) by simp +arith only];exact this
 have:=key acc.toList 0 fun j v hj=>by rw[DO];exact h.2 j v (by simpa using hj)
 rw[len,<-List.range_eq_range'] at this;exact this
def ajw:List V->Hp->VK->Prop:=fun xs H Q=>∃a,∃n:Nat,xs=[.ref a]/\H a=some (.rng 0 n)/\n≤100000/\∀p,H p=none->Q (.ref p) (upd H p (.lst ((List.range n).map fun i:Nat=>V.int (0+(i:Int)))))
theorem vA(hc:X.calm=true):jk X (.type "list") ajw:=by
 intro pins s σ H xs us Q I r h;obtain⟨a,n,rfl,ha,hn,q⟩:=h;obtain⟨u,rfl,ru⟩:=r.one;cases (show u=Value.ref a from ru);obtain⟨t,u,v,e⟩:=I.hok a _ ha;have hb:(100000:Nat)≤sizeLine:=by decide
 have rs:Builtin.Range.rangeSize 0 (n:Int) 1=((n:Nat):Int):=by rw[rangeSize_one];split<;>lia
 refine jr I.tk (call_list_range (I.ok.hd hc) (show IsRange s.heap a 0 (n:Int) 1 t u v from e) (small_one (by decide) (by decide) (by exact A7 _) (by omega)) rs (AW hn (by decide)) fun h' tk acc c hk hS hacc ht=>?_);refine⟨.ref s.heap.objs.size,_,I.laid (t':=tk) (o:=.lst ((List.range n).map fun i:Nat=>V.int (0+(i:Int)))) hk (An _) ?_,rfl,q _ (I.hok.fresh (An _))⟩;refine⟨by rw[Ae,BM];exact ai3,acc.toList,c,sD hacc,?_⟩;rw[hS]
end
end L2
namespace L3
open PySem L2
theorem agm:bootBuiltins "range" = some (.type "range"):=by decide +kernel
def qC(te:xx)(τ:jn)(L:ql)(Q:YK):Prop:=te τ L fun y L1=>match y with
 |.int n=>(0≤n/\n≤100000)/\∀p,L1 p=none->Q (.ref p) (qg L1 p (.lst (wx 0 n.toNat)))
 |_=>False
theorem acd(n:Nat):x6 G H (wx 0 n) ((List.range n).map fun i:Nat=>V.int (0+(i:Int))):=by
 unfold wx;generalize List.range n=l
 induction l with|nil=>rfl|cons k r ih=>exact⟨_,_,rfl,rfl,ih⟩
theorem sv{pos2:Pos}(hc:X.calm=true)(hg:Gl X "list")(hm:X.mg "list" = none)(hg2:Gl X "range")(hm2:X.mg "range" = none)(h:QE X e te)
 (h1:starEach [.Call (.Name "range" p2) [e] [] pos2] X.env=(false,eval (.Call (.Name "range" p2) [e] [] pos2) X.env)::starEach [] X.env:=by rfl) (h2:(backTo pos (starEach [] X.env)).any (·.1)=false:=by rfl)
 (h3:starEach [e] X.env=(false,eval e X.env)::starEach [] X.env:=by rfl) (h4:(backTo pos2 (starEach [] X.env)).any (·.1)=false:=by rfl):
 QE X (.Call (.Name "list" p) [.Call (.Name "range" p2) [e] [] pos2] [] pos) (qC te):=
 EH (gF (vA hc) hg hm am (dQ (gF y7 hg2 hm2 agm (dQ h kF h3) (by decide) (by decide) h3 h4) kF h1) (by decide) (by decide) h1 h2) fun σ H Q ⟨τ,L,Q3,rs,rl,z,k⟩=>
 ⟨τ,L,_,rs,rl,z,fun v H1 y L1 t1 rl1 rv1 z1=>by
  cases y with
  |int n=>
   obtain⟨⟨h0,h5⟩,z1⟩:=z1;cases (show v=V.int n from rv1);obtain⟨m,rfl⟩:∃m:Nat,n=(m:Int):=⟨n.toNat,by lia⟩;refine⟨_,rfl,fun q hq=>⟨q,m,rfl,j4,by lia,fun p hp=>?_⟩⟩;have hp1:H1 p=none:=by
    by_cases c:p=q
    ·subst c;exact hq
    ·rw[qr c] at hp;exact hp
   exact k _ _ _ _ (t1.trans ((EG hq).trans (EG hp))) ((rl1.skip hq).newL hp (acd m)) (by rfl) (z1 p (rl1.none hp1))
  |_=>exact z1.elim⟩
section
variable {m:Str}{g:Addr}
end
end L3
namespace TS
open PySem PyProof.Rows
def acm:Bool->Keyed->Array Keyed->Nat->Nat->Nat->StateT SortSt Sem (Option Nat):=sortPriv% PySem.Builtin.gallop
section
variable {w:World} 
structure u7(prog:Program)(w:World)(A:Around)(s:Shared)(κ:SortKind)(Ok:Keyed->Prop)(f:Keyed->Int):Prop where
 lt:∀x y,Ok x->Ok y->∀{E:Value->Shared->Prop} {Q:Bool->Shared->Prop},Q (decide (f x<f y)) s->wpAny (model prog w) A (keyLt' κ x.1 y.1) Q E s
variable {κ:SortKind}{Ok:Keyed->Prop}{f:Keyed->Int}
theorem w_lt(O:u7 prog w A s κ Ok f){st:SortSt}{x y:Keyed}{Q:Option Bool->SortSt->Prop}(hk:kindOf st=κ)(hx:Ok x)(hy:Ok y)(h:Q (some (decide (f x<f y))) st):wpS (model prog w) A E s (lt' x y) Q st:=by rw[lt'_eq];refine Ab (wpS_get ?_);rw[hk];refine Ab (wpS_lift (wpAny_attempt (O.lt x y hx hy ⟨rfl,?_⟩)));exact Ad h
theorem x4{arr:Array Keyed}{x:Keyed}{st:SortSt}{Q:Keyed->SortSt->Prop}(h:arr[i]?=some x)(q:Q x st):wpS (model prog w) A E s (elem' arr i) Q st:=by rw[elem'_eq,h];exact Ad q
def bey(left:Bool)(key:Keyed)(arr:Array Keyed)(i:Nat):StateT SortSt Sem (Option Bool):=elem' arr i >>= fun x=>if left=true then lt' x key else lt' key x >>= fun r=>pure (r.map fun b=>!b)
theorem ajk(O:u7 prog w A s κ Ok f){left:Bool}{key x:Keyed}{arr:Array Keyed}{st:SortSt}{Q:Option Bool->SortSt->Prop}(hk:kindOf st=κ)(hkey:Ok key)(hx:Ok x)(hi:arr[i]?=some x)
 (q:Q (some (if left=true then decide (f x<f key) else !decide (f key<f x))) st):wpS (model prog w) A E s (bey left key arr i) Q st:=by
 refine Ab (x4 hi ?_);cases left with|true=>exact w_lt O hk hx hkey q|false=>exact Ab (w_lt O hk hkey hx (Ad q))
theorem bT(O:u7 prog w A s κ Ok f){left:Bool}{key:Keyed}{arr:Array Keyed}{base hint:Nat}{st:SortSt}{Q:Option Nat->SortSt->Prop}(hk:kindOf st=κ)(hkey:Ok key)(hh:hint<n)
 (it:Nat->Keyed) (hit:∀i,i<n->arr[base+i]?=some (it i)/\Ok (it i)) (bd:Nat->Bool) (hbd:∀i,i<n->bd i=if left=true then decide (f (it i)<f key) else !decide (f key<f (it i)))
 (mono:∀i j,i≤j->j<n->bd j=true->bd i=true)
 (q:∀k,k≤n->(∀i,i<k->bd i=true)->(∀i,k≤i->i<n->bd i=false)->Q (some k) st):wpS (model prog w) A E s (acm left key arr base n hint) Q st:=by
 have go:∀i,i<n->∀Q':Option Bool->SortSt->Prop,Q' (some (bd i)) st->wpS (model prog w) A E s (bey left key arr (base+i)) Q' st:=fun i hi Q' h=>ajk O hk hkey (hit i hi).2 (hit i hi).1 (by rw[<-hbd i hi];exact h);refine Ab (go hint hh _ ?_);dsimp only;cases hb:bd hint with
 |true=>
  rw[AB rfl];refine Ab (AV (AI (I:=fun x c st'=>st'=st/\∃la ofs,c=(none,la,ofs)/\la<ofs/\la<n - hint/\bd (hint+la)=true/\x+1≤ofs)
   (Q:=fun c st'=>st'=st/\∃la ofs,c=(none,la,ofs)/\la<ofs/\la<n - hint/\bd (hint+la)=true/\(n - hint≤ofs\/bd (hint+ofs)=false)) ?_ ?_ ⟨rfl,0,1,rfl,by exact BU _,by omega,hb,by exact BU _⟩) ?_)
  ·rintro x c st' _ hx ⟨rfl,la,ofs,rfl,h1,h2,h3,h4⟩;dsimp only;by_cases c:ofs≥n - hint
   ·rw[AB c];exact Ad ⟨rfl,la,ofs,rfl,h1,h2,h3,.inl c⟩
   ·rw[Az c];refine Ab (go (hint+ofs) (by lia) _ ?_);dsimp only;cases hm:bd (hint+ofs) with
    |true=>
     rw[Az (by simp)];exact Ad ⟨rfl,ofs,2*ofs+1,rfl,by simp +arith only,by exact aji,hm,by lia⟩
    |false=>
     rw[AB (by simp)];exact Ad ⟨rfl,la,ofs,rfl,h1,h2,h3,.inr hm⟩
  ·rintro c st' ⟨rfl,la,ofs,rfl,h1,h2,h3,h4⟩;exact⟨rfl,la,ofs,rfl,h1,h2,h3,.inl (by lia)⟩
  ·rintro c st' ⟨rfl,la,ofs,rfl,h1,h2,h3,h4⟩;dsimp only;obtain⟨lo,elo⟩:∃lo,lo=hint+la+1:=⟨_,rfl⟩;obtain⟨hi,ehi⟩:∃hi,hi=hint+min ofs (n - hint):=⟨_,rfl⟩;rw[<-elo,<-ehi];have g1:lo≤hi:=by omega
   have g2:hi≤n:=by lia
   have g3:∀i,i<lo->bd i=true:=fun i hi=>mono i (hint+la) (by lia) (by lia) h3;have g4:∀i,hi≤i->i<n->bd i=false:=fun i h5 h6=>by
    rcases h4 with h4 | h4
    ·omega
    ·cases e:bd i with
     |false=>rfl
     |true=>
      by_cases c:ofs<n - hint
      ·rw[mono (hint+ofs) i (by omega) h6 e] at h4;cases h4
      ·omega
   refine Ab (AV (AI (I:=fun x c sx=>sx=st'/\∃lo hi,c=(none,lo,hi)/\lo≤hi/\hi≤n/\(∀i,i<lo->bd i=true)/\(∀i,hi≤i->i<n->bd i=false)/\hi - lo+x≤n)
    (Q:=fun c sx=>sx=st'/\∃hi,c=(none,hi,hi)/\hi≤n/\(∀i,i<hi->bd i=true)/\(∀i,hi≤i->i<n->bd i=false)) ?_ ?_ ⟨rfl,lo,hi,rfl,g1,g2,g3,g4,by exact ak8⟩) ?_)
   ·rintro x c st'' _ hx ⟨rfl,lo,hi,rfl,k1,k2,k3,k4,k5⟩;dsimp only;by_cases c:lo≥hi
    ·rw[AB c];have:lo=hi:=by lia
     subst this;exact Ad ⟨rfl,lo,rfl,k2,k3,k4⟩
    ·rw[Az c];refine Ab (go (lo+(hi - lo) / 2) (by lia) _ ?_);dsimp only;cases hm:bd (lo+(hi - lo) / 2) with
     |true=>
      rw[AB rfl];exact Ad ⟨rfl,lo+(hi - lo) / 2+1,hi,rfl,by lia,k2,fun i h5=>mono i _ (by exact aix) (by lia) hm,k4,by lia⟩
     |false=>
      rw[Az (by simp)];refine Ad ⟨rfl,lo,lo+(hi - lo) / 2,rfl,by exact A5 _ _,by lia,k3,fun i h5 h6=>?_,by omega⟩;cases e:bd i with|false=>rfl|true=>rw[mono _ i h5 h6 e] at hm;cases hm
   ·rintro c st'' ⟨rfl,lo,hi,rfl,k1,k2,k3,k4,k5⟩;have:lo=hi:=by lia
    subst this;exact⟨rfl,lo,rfl,k2,k3,k4⟩
   ·rintro c st'' ⟨rfl,hi,rfl,k2,k3,k4⟩;exact Ad (q hi k2 k3 k4)
 |false=>
  rw[Az (by simp)];refine Ab (AV (AI (I:=fun x c st'=>st'=st/\∃la ofs,c=(none,la,ofs)/\la<ofs/\la<hint+1/\bd (hint - la)=false/\x+1≤ofs)
   (Q:=fun c st'=>st'=st/\∃la ofs,c=(none,la,ofs)/\la<ofs/\la<hint+1/\bd (hint - la)=false/\(hint+1≤ofs\/bd (hint - ofs)=true)) ?_ ?_ ⟨rfl,0,1,rfl,by lia,by exact CZ _,hb,by lia⟩) ?_)
  ·rintro x c st' _ hx ⟨rfl,la,ofs,rfl,h1,h2,h3,h4⟩;dsimp only;by_cases c:ofs≥hint+1
   ·rw[AB c];exact Ad ⟨rfl,la,ofs,rfl,h1,h2,h3,.inl c⟩
   ·rw[Az c];refine Ab (go (hint - ofs) (by exact l5) _ ?_);dsimp only;cases hm:bd (hint - ofs) with
    |true=>
     rw[AB rfl];exact Ad ⟨rfl,la,ofs,rfl,h1,h2,h3,.inr hm⟩
    |false=>
     rw[Az (by simp)];exact Ad ⟨rfl,ofs,2*ofs+1,rfl,by lia,by exact aji,hm,by lia⟩
  ·rintro c st' ⟨rfl,la,ofs,rfl,h1,h2,h3,h4⟩;exact⟨rfl,la,ofs,rfl,h1,h2,h3,.inl (by exact jC)⟩
  ·rintro c st' ⟨rfl,la,ofs,rfl,h1,h2,h3,h4⟩;dsimp only;obtain⟨lo,elo⟩:∃lo,lo=hint+1 - min ofs (hint+1):=⟨_,rfl⟩;obtain⟨hi,ehi⟩:∃hi,hi=hint - la:=⟨_,rfl⟩;rw[<-elo,<-ehi];have g1:lo≤hi:=by omega
   have g2:hi≤n:=by omega
   have g3:∀i,i<lo->bd i=true:=fun i h5=>by
    rcases h4 with h4 | h4
    ·omega
    ·exact mono i (hint - ofs) (by omega) (by exact l5) h4
   have g4:∀i,hi≤i->i<n->bd i=false:=fun i h5 h6=>by cases e:bd i with|false=>rfl|true=>rw[mono (hint - la) i (by lia) h6 e] at h3;cases h3
   refine Ab (AV (AI (I:=fun x c sx=>sx=st'/\∃lo hi,c=(none,lo,hi)/\lo≤hi/\hi≤n/\(∀i,i<lo->bd i=true)/\(∀i,hi≤i->i<n->bd i=false)/\hi - lo+x≤n)
    (Q:=fun c sx=>sx=st'/\∃hi,c=(none,hi,hi)/\hi≤n/\(∀i,i<hi->bd i=true)/\(∀i,hi≤i->i<n->bd i=false)) ?_ ?_ ⟨rfl,lo,hi,rfl,g1,g2,g3,g4,by exact ak8⟩) ?_)
   ·rintro x c st'' _ hx ⟨rfl,lo,hi,rfl,k1,k2,k3,k4,k5⟩;dsimp only;by_cases c:lo≥hi
    ·rw[AB c];have:lo=hi:=by lia
     subst this;exact Ad ⟨rfl,lo,rfl,k2,k3,k4⟩
    ·rw[Az c];refine Ab (go (lo+(hi - lo) / 2) (by lia) _ ?_);dsimp only;cases hm:bd (lo+(hi - lo) / 2) with
     |true=>
      rw[AB rfl];exact Ad ⟨rfl,lo+(hi - lo) / 2+1,hi,rfl,by lia,k2,fun i h5=>mono i _ (by lia) (by lia) hm,k4,by lia⟩
     |false=>
      rw[Az (by simp)];refine Ad ⟨rfl,lo,lo+(hi - lo) / 2,rfl,by lia,by lia,k3,fun i h5 h6=>?_,by lia⟩;cases e:bd i with|false=>rfl|true=>rw[mono _ i h5 h6 e] at hm;cases hm
   ·rintro c st'' ⟨rfl,lo,hi,rfl,k1,k2,k3,k4,k5⟩;have:lo=hi:=by lia
    subst this;exact⟨rfl,lo,rfl,k2,k3,k4⟩
   ·rintro c st'' ⟨rfl,hi,rfl,k2,k3,k4⟩;exact Ad (q hi k2 k3 k4)
end
def xO:Array Keyed->Array Keyed->StateT SortSt Sem (Array Keyed):=sortPriv% PySem.Builtin.mergeLo
def yO:Array Keyed->Array Keyed->StateT SortSt Sem (Array Keyed):=sortPriv% PySem.Builtin.mergeHi
structure MI(f:Keyed->Int)(la lb out ra rb:List Keyed):Prop where
 perm:(out++(ra++rb)).Perm (la++lb)
 so:out.Pairwise fun x y=>f x≤f y
 sa:ra.Pairwise fun x y=>f x≤f y
 sb:rb.Pairwise fun x y=>f x≤f y
 oa:∀x∈out,∀y∈ra,f x≤f y
 ob:∀x∈out,∀y∈rb,f x≤f y
theorem MI.a{f:Keyed->Int}{la lb out seg ra rb:List Keyed}(h:MI f la lb out (seg++ra) rb)(hs:∀x∈seg,∀y∈rb,f x≤f y):MI f la lb (out++seg) ra rb:=by
 have sa:=AU.mp h.sa;refine⟨?_,AU.mpr ⟨h.so,sa.1,fun x hx y hy=>h.oa x hx y (Ar _ hy)⟩,sa.2.1,h.sb,fun x hx y hy=>?_,fun x hx y hy=>?_⟩
 ·have:=h.perm;rw[AD] at this ⊢;exact this
 ·rcases Al.mp hx with hx | hx
  ·exact h.oa x hx y (Af _ hy)
  ·exact sa.2.2 x hx y hy
 ·rcases Al.mp hx with hx | hx
  ·exact h.ob x hx y hy
  ·exact hs x hx y hy
theorem MI.b{f:Keyed->Int}{la lb out seg ra rb:List Keyed}(h:MI f la lb out ra (seg++rb))(hs:∀x∈seg,∀y∈ra,f x≤f y):MI f la lb (out++seg) ra rb:=by
 have sb:=AU.mp h.sb;refine⟨?_,AU.mpr ⟨h.so,sb.1,fun x hx y hy=>h.ob x hx y (Ar _ hy)⟩,h.sa,sb.2.1,fun x hx y hy=>?_,fun x hx y hy=>?_⟩
 ·refine List.Perm.trans ?_ h.perm;rw[AD];exact(Bv out).mpr (by rw[<-AD,<-AD];exact(Bj rb).mpr BF)
 ·rcases Al.mp hx with hx | hx
  ·exact h.oa x hx y hy
  ·exact hs x hx y hy
 ·rcases Al.mp hx with hx | hx
  ·exact h.ob x hx y (Af _ hy)
  ·exact sb.2.2 x hx y hy
def vm(f:Keyed->Int)(la lb r:List Keyed):Prop:=r.Perm (la++lb)/\r.Pairwise fun x y=>f x≤f y
theorem MI.ea{f:Keyed->Int}{la lb out ra:List Keyed}(h:MI f la lb out ra []):vm f la lb (out++ra):=⟨by have:=h.perm;rwa[AQ] at this,AU.mpr ⟨h.so,h.sa,h.oa⟩⟩
theorem MI.eb{f:Keyed->Int}{la lb out ra rb:List Keyed}(h:MI f la lb out ra rb)(hs:∀x∈rb,∀y∈ra,f x≤f y):vm f la lb (out++rb++ra):=by
 refine⟨List.Perm.trans ?_ h.perm,?_⟩
 ·rw[AD];exact(Bv out).mpr BF
 ·rw[AD];refine AU.mpr ⟨h.so,AU.mpr ⟨h.sb,h.sa,hs⟩,fun x hx y hy=>?_⟩;rcases Al.mp hy with hy | hy
  ·exact h.ob x hx y hy
  ·exact h.oa x hx y hy
structure MP(f:Keyed->Int)(a b out:Array Keyed)(ia ib:Nat):Prop where
 mi:MI f a.toList b.toList out.toList (a.toList.drop ia) (b.toList.drop ib)
 sz:out.size=ia+ib
 la:ia≤a.size
 lb:ib≤b.size
theorem aez(a:Array Keyed)(h:i<a.size):a.toList.drop i=a[i]::a.toList.drop (i+1):=by rw[BQ (by simpa using h)];simp
theorem eW(a:Array Keyed)(i j:Nat):(a.extract i j).toList=(a.toList.drop i).take (j - i):=by rw[Array.toList_extract,List.extract_eq_drop_take]
theorem j6(l:List Keyed)(i k:Nat):(l.drop i).take k++l.drop (i+k)=l.drop i:=by rw[<-C3,Be]
theorem oB{a:Array Keyed}{k:Nat}{x:Keyed}(h:x∈(a.toList.drop i).take k):∃j,∃hj:i+j<a.size,j<k/\a[i+j]=x:=by
 obtain⟨j,hj,e⟩:=Ba h;rw[AN,Bq] at hj;have h1:i+j<a.size:=by have:a.toList.length=a.size:=AL;omega
 refine⟨j,h1,by omega,?_⟩;rw[<-e];simp
theorem fE{a:Array Keyed}{x:Keyed}(h:x∈a.toList.drop i):∃j,∃hj:j<a.size,i≤j/\a[j]=x:=by
 obtain⟨j,hj,e⟩:=Ba h;rw[Bq] at hj;have h1:i+j<a.size:=by have:a.toList.length=a.size:=AL;omega
 refine⟨i+j,h1,by exact A5 _ _,?_⟩;rw[<-e];simp
theorem xE{f:Keyed->Int}{a:Array Keyed}(s:a.toList.Pairwise fun x y=>f x≤f y)(hij:i≤j)(hj:j<a.size):f (a[i]'(by exact fw))≤f a[j]:=by
 rcases Dq hij with h | h
 ·have:=B5.mp s i j (by simpa using (by exact fw:i<a.size)) (by simpa using hj) h;simpa using this
 ·subst h;exact CW _
section
variable {f:Keyed->Int}{a b out:Array Keyed}{ia ib:Nat}
theorem MP.segA(M:MP f a b out ia ib){k:Nat}(hk:ia+k≤a.size)(h:∀i (hi:ia+i<a.size),i<k->∀j (hj:j<b.size),ib≤j->f a[ia+i]≤f b[j]):MP f a b (out++a.extract ia (ia+k)) (ia+k) ib:=by
 refine⟨?_,?_,hk,M.lb⟩
 ·rw[A9,eW,show ia+k - ia=k by omega];refine MI.a (by rw[j6];exact M.mi) fun x hx y hy=>?_;obtain⟨i,hi,h1,rfl⟩:=oB hx;obtain⟨j,hj,h2,rfl⟩:=fE hy;exact h i hi h1 j hj h2
 ·rw[BN,CS,M.sz];lia
theorem MP.segB(M:MP f a b out ia ib){k:Nat}(hk:ib+k≤b.size)(h:∀i (hi:ib+i<b.size),i<k->∀j (hj:j<a.size),ia≤j->f b[ib+i]≤f a[j]):MP f a b (out++b.extract ib (ib+k)) ia (ib+k):=by
 refine⟨?_,?_,M.la,hk⟩
 ·rw[A9,eW,show ib+k - ib=k by lia];refine MI.b (by rw[j6];exact M.mi) fun x hx y hy=>?_;obtain⟨i,hi,h1,rfl⟩:=oB hx;obtain⟨j,hj,h2,rfl⟩:=fE hy;exact h i hi h1 j hj h2
 ·rw[BN,CS,M.sz];lia
theorem MP.oneA(M:MP f a b out ia ib)(hi:ia<a.size)(h:∀j (hj:j<b.size),ib≤j->f a[ia]≤f b[j]):MP f a b (out.push a[ia]) (ia+1) ib:=by refine⟨?_,by rw[Bk,M.sz];simp +arith only,hi,M.lb⟩;rw[Cz];refine MI.a (seg:=[a[ia]]) (by rw[Dc,<-aez a hi];exact M.mi) fun x hx y hy=>?_;obtain⟨j,hj,h2,rfl⟩:=fE hy;rw[Ak.mp hx];exact h j hj h2
theorem MP.oneB(M:MP f a b out ia ib)(hi:ib<b.size)(h:∀j (hj:j<a.size),ia≤j->f b[ib]≤f a[j]):MP f a b (out.push b[ib]) ia (ib+1):=by refine⟨?_,by rw[Bk,M.sz];exact Eb _ _ _,M.la,hi⟩;rw[Cz];refine MI.b (seg:=[b[ib]]) (by rw[Dc,<-aez b hi];exact M.mi) fun x hx y hy=>?_;obtain⟨j,hj,h2,rfl⟩:=fE hy;rw[Ak.mp hx];exact h j hj h2
theorem MP.done(M:MP f a b out ia ib)(h:ib=b.size):vm f a.toList b.toList (out++a.extract ia++b.extract ib).toList:=by have e:b.toList.drop ib=[]:=List.drop_eq_nil_of_le (by rw[AL];lia);have m:=M.mi;rw[e] at m;have:=m.ea;rw[A9,A9,eW,eW,e,List.take_nil,AQ,AZ (by simp)];exact this
theorem MP.last(M:MP f a b out ia ib)(h:ia+1=a.size)(hl:∀x∈b.toList,f x<f (a[a.size - 1]'(by omega))):vm f a.toList b.toList (out++b.extract ib++a.extract ia).toList:=by
 have:=M.mi.eb fun x hx y hy=>by
  obtain⟨j,hj,h2,rfl⟩:=fE hy;have e:j=a.size - 1:=by omega
  subst e;exact BO (hl x (CC hx))
 rw[A9,A9,eW,eW,AZ (by simp),AZ (by simp)];exact this
end
section
variable {w:World}{κ:SortKind}{Ok:Keyed->Prop}{f:Keyed->Int}
abbrev fN(st:SortSt)(g:Nat):SortSt:=SortSt.mk' (kindOf st) (arrOf st) (pendingOf st) g (failedOf st)
theorem oj{c:Prop}{_:Decidable c}{K:β->StateT SortSt Sem α}{y:β}{Q:α->SortSt->Prop}{st:SortSt}(key:∀z,wpS (model prog w) A E s (K z) Q st):∀x,wpS (model prog w) A E s (if c then K x else K y) Q st:=fun x=>by
 by_cases h:c
 ·rw[AB h];exact key x
 ·rw[Az h];exact key y
theorem iO{γ:Type}{c:Prop}{_:Decidable c}{K T:β->γ->StateT SortSt Sem α}{P:β->γ->Prop}{x:β}{i:γ}{Q:α->SortSt->Prop}{st:SortSt}(key:∀o j,P o j->wpS (model prog w) A E s (K o j) Q st)(hn:¬c->P x i)
 (hp:c->(∀o j,P o j->wpS (model prog w) A E s (K o j) Q st)->wpS (model prog w) A E s (T x i) Q st):∀o,x=o->∀j,i=j->wpS (model prog w) A E s (if c then T o j else K o j) Q st:=by
 rintro _ rfl _ rfl;by_cases h:c
 ·rw[AB h];exact hp h key
 ·rw[Az h];exact key x i (hn h)
theorem ui(O:u7 prog w A s κ Ok f){a b:Array Keyed}{st:SortSt}{Q:Array Keyed->SortSt->Prop}(hk:kindOf st=κ)(oka:∀x∈a.toList,Ok x)(okb:∀x∈b.toList,Ok x)
 (sa:a.toList.Pairwise fun x y=>f x≤f y) (sb:b.toList.Pairwise fun x y=>f x≤f y) (ha:0<a.size) (hb:0<b.size) (h0:∀x∈a.toList,f b[0]<f x) (hl:∀x∈b.toList,f x<f a[a.size - 1])
 (q:∀r g,vm f a.toList b.toList r.toList->Q r (fN st g)):wpS (model prog w) A E s (xO a b) Q st:=by
 refine Ab (wpS_lift (Bw ⟨rfl,?_⟩));refine Ab (x4 (x:=b[0]) (by simp[hb]) ?_);dsimp only;have M0:MP f a b #[b[0]] 0 1:=by have M:MP f a b #[] 0 0:=⟨⟨by simp,by simp,by simpa using sa,by simpa using sb,by simp,by simp⟩,rfl,Bf _,Bf _⟩;have:=M.oneB hb fun j hj _=>BO (h0 a[j] (by simp));simpa using this
 by_cases c1:(1==b.size)=true
 ·rw[AB c1];exact Ad (q _ (gallopOf st) (M0.done (by simpa using c1)))
 rw[Az c1];by_cases c2:(0+1==a.size)=true
 ·rw[AB c2];exact Ad (q _ (gallopOf st) (M0.last (by simpa using c2) hl))
 rw[Az c2];have c1:¬1=b.size:=by simpa using c1
 have c2:¬1=a.size:=by simpa using c2
 refine Ab (wpS_get ?_);have okA:∀i (hi:i<a.size),Ok a[i]:=fun i hi=>oka _ (by simp);have okB:∀i (hi:i<b.size),Ok b[i]:=fun i hi=>okb _ (by simp);have atA:∀i (hi:i<a.size),a[i]?=some a[i]:=fun i hi=>by simp[hi]
 have atB:∀i (hi:i<b.size),b[i]?=some b[i]:=fun i hi=>by simp[hi]
 obtain⟨tA,tA0⟩:∃t:Nat->Keyed,t=fun i=>(a[i]?).getD b[0]:=⟨_,rfl⟩;have tA2:∀i (hi:i<a.size),tA i=a[i]:=fun i hi=>by rw[tA0];simp[hi]
 have tA1:∀i (hi:i<a.size),a[i]?=some (tA i):=fun i hi=>by rw[tA2 i hi];exact atA i hi
 have tA3:∀i (hi:i<a.size),Ok (tA i):=fun i hi=>by rw[tA2 i hi];exact okA i hi
 have tA4:∀{i j},i≤j->j<a.size->f (tA i)≤f (tA j):=fun {i j} hij hj=>by rw[tA2 i (by exact fw),tA2 j hj];exact xE sa hij hj
 obtain⟨tB,tB0⟩:∃t:Nat->Keyed,t=fun i=>(b[i]?).getD b[0]:=⟨_,rfl⟩;have tB2:∀i (hi:i<b.size),tB i=b[i]:=fun i hi=>by rw[tB0];simp[hi]
 have tB1:∀i (hi:i<b.size),b[i]?=some (tB i):=fun i hi=>by rw[tB2 i hi];exact atB i hi
 have tB3:∀i (hi:i<b.size),Ok (tB i):=fun i hi=>by rw[tB2 i hi];exact okB i hi
 have tB4:∀{i j},i≤j->j<b.size->f (tB i)≤f (tB j):=fun {i j} hij hj=>by rw[tB2 i (by exact fw),tB2 j hj];exact xE sb hij hj
 refine Ab (AV (AI (I:=fun x c st'=>(∃g,st'=fN st g)/\∃out ia ib mg,c=(none,out,ia,ib,mg)/\MP f a b out ia ib/\ia+1<a.size/\ib<b.size/\x+1≤out.size)
  (Q:=fun c st'=>(∃g,st'=fN st g)/\∃r,c.1=some r/\vm f a.toList b.toList r.toList) ?_ ?_ ⟨⟨gallopOf st,rfl⟩,_,_,_,_,rfl,M0,by exact wC,by exact wC,by simp⟩) ?_)
 ·rintro x c st' _ hx ⟨⟨g,rfl⟩,out,ia,ib,mg,rfl,M,ha',hb',hs⟩;dsimp only;refine Ab (AV (AI (I:=fun y c st'=>st'=fN st g/\∃out' ia ib ac bc,c=(none,out',ia,ib,ac,bc)/\MP f a b out' ia ib/\ia+1<a.size/\ib<b.size/\out.size+y≤out'.size)
   (Q:=fun c st'=>st'=fN st g/\((∃r,c.1=some r/\vm f a.toList b.toList r.toList)\/∃out' ia ib ac bc,c=(none,out',ia,ib,ac,bc)/\MP f a b out' ia ib/\ia+1<a.size/\ib<b.size/\out.size+1≤out'.size)) ?_ ?_ ⟨rfl,_,_,_,_,_,rfl,M,ha',hb',An _⟩) ?_)
  ·rintro y c st' _ hy ⟨rfl,out',ia,ib,ac,bc,rfl,M,ha',hb',hs'⟩;have pA1:ia<a.size:=by exact fQ
   dsimp only;refine Ab (x4 (atB ib hb') ?_);refine Ab (x4 (atA ia pA1) ?_);refine Ab (w_lt O hk (okB ib hb') (okA ia pA1) ?_);dsimp only;by_cases c:f b[ib]<f a[ia]
   ·rw[AH c,AB rfl];refine Ab (x4 (atB ib hb') ?_);have M':=M.oneB hb' fun j hj hij=>BO (Int.lt_of_lt_of_le c (xE sa hij hj));have s2:(out'.push b[ib]).size=out'.size+1:=Bk _;by_cases e1:(ib+1==b.size)=true
    ·rw[AB e1];exact Ad ⟨rfl,.inl ⟨_,rfl,M'.done (by simpa using e1)⟩⟩
    ·rw[Az e1];have e1:¬ib+1=b.size:=by simpa using e1
     split
     ·exact Ad ⟨rfl,.inr ⟨_,_,_,_,_,rfl,M',ha',by exact wC,by lia⟩⟩
     ·exact Ad ⟨rfl,_,_,_,_,_,rfl,M',ha',by lia,by lia⟩
   ·rw[Ax c,Az (by simp)];refine Ab (x4 (atA ia pA1) ?_);have M':=M.oneA (by lia) fun j hj hij=>BJ (by omega) (xE sb hij hj);have s2:(out'.push a[ia]).size=out'.size+1:=Bk _;by_cases e1:(ia+1+1==a.size)=true
    ·rw[AB e1];exact Ad ⟨rfl,.inl ⟨_,rfl,M'.last (by simpa using e1) hl⟩⟩
    ·rw[Az e1];have e1:¬ia+1+1=a.size:=by simpa using e1
     split
     ·exact Ad ⟨rfl,.inr ⟨_,_,_,_,_,rfl,M',by exact wC,hb',by lia⟩⟩
     ·exact Ad ⟨rfl,_,_,_,_,_,rfl,M',by lia,hb',by lia⟩
  ·rintro c st' ⟨rfl,out',ia,ib,ac,bc,rfl,M,ha',hb',hs'⟩;have:=M.sz;omega
  ·rintro c st' ⟨rfl,h⟩;rcases h with⟨r,er,hr⟩ | ⟨out1,ia,ib,ac,bc,rfl,M,ha',hb',hs'⟩
   ·obtain⟨c1,c2⟩:=c;cases er;exact Ad ⟨⟨g,rfl⟩,r,rfl,hr⟩
   ·dsimp only;refine Ab (wpS_lift (Bw ⟨rfl,?_⟩));refine Ab (AV (AI (I:=fun y c st'=>(∃g,st'=fN st g)/\∃out' ia ib mg ac bc,c=(none,out',ia,ib,mg,ac,bc)/\MP f a b out' ia ib/\ia+1<a.size/\ib<b.size/\out1.size+y≤out'.size)
     (Q:=fun c st'=>(∃g,st'=fN st g)/\((∃r,c.1=some r/\vm f a.toList b.toList r.toList)\/∃out' ia ib mg ac bc,c=(none,out',ia,ib,mg,ac,bc)/\MP f a b out' ia ib/\ia+1<a.size/\ib<b.size/\out1.size≤out'.size)) ?_ ?_ ⟨⟨g,rfl⟩,_,_,_,_,_,_,rfl,M,ha',hb',An _⟩) ?_)
    ·rintro y c st' _ hy ⟨⟨g',rfl⟩,out',ia,ib,mg',ac,bc,rfl,M,ha',hb',hs''⟩;have pA1:ia<a.size:=by exact fQ
     dsimp only;generalize mg' - 1=mgx;revert mgx;refine oj (y:=mg') fun mg2=>?_
     all_goals
      refine Ab (wpS_modify ?_);refine Ab (x4 (atB ib hb') ?_);refine Ab (bT O hk (okB ib hb') (by lia) (fun i=>tA (ia+i)) (fun i hi=>⟨tA1 _ (by lia),tA3 _ (by lia)⟩) (fun i=>!decide (f b[ib]<f (tA (ia+i)))) (fun i hi=>by rw[Az (by simp)]) (fun i j hij hj h=>?_) fun k hk1 hlo hhi=>?_)
      ·have:=tA4 (i:=ia+i) (j:=ia+j) (by lia) (by lia);simp at h ⊢;lia
      have hlo:∀i,i<k->f (tA (ia+i))≤f b[ib]:=fun i hi=>by have:=hlo i hi;simpa using this
      have hhi:∀i,k≤i->i<a.size - ia->f b[ib]<f (tA (ia+i)):=fun i hi hj=>by have:=hhi i hi hj;simpa using this
      have kl:k<a.size - ia:=by
       rcases Dq hk1 with h | h
       ·exact h
       ·exfalso;have h1:=hlo (a.size - 1 - ia) (by lia);have h2:=hl b[ib] (by simp);rw[show ia+(a.size - 1 - ia)=a.size - 1 by lia,tA2 _ (by exact oO)] at h1;omega
      have M1:MP f a b (out'++a.extract ia (ia+k)) (ia+k) ib:=M.segA (by lia) fun i hi hik j hj hij=>by have h1:=hlo i hik;rw[tA2 _ hi] at h1;exact BJ h1 (xE sb hij hj)
      have pB:∀j (hj:j<a.size),ia+k≤j->f b[ib]≤f a[j]:=fun j hj hij=>by have h1:=hhi (j - ia) (by lia) (by lia);rw[show ia+(j - ia)=j by lia,tA2 _ hj] at h1;lia
      dsimp only;generalize eo0:out'=o0;generalize ej0:ia=j0;revert j0;revert o0;refine iO (P:=fun(o:Array Keyed) (j:Nat)=>MP f a b o j ib/\out'.size≤o.size/\j+1<a.size/\∀j' (hj:j'<a.size),j≤j'->f b[ib]≤f a[j']) (x:=out') (i:=ia) (fun out3 ia3 hP=>?tail) (fun ck=>?hN) (fun ck key=>?hY)
      case hN=>
       obtain rfl:k=0:=by lia
       exact⟨M,An _,ha',fun j hj hij=>pB j hj (by lia)⟩
      case hY=>
       by_cases e1:(ia+k+1==a.size)=true
       ·rw[AB e1];exact Ad ⟨⟨_,rfl⟩,.inl ⟨_,rfl,M1.last (by simpa using e1) hl⟩⟩
       ·rw[Az e1,Az (show ¬(ia+k==a.size)=true by simp;lia)];have e1:¬ia+k+1=a.size:=by simpa using e1
        exact key _ _ ⟨M1,by rw[BN];exact A5 _ _,by lia,pB⟩
      clear pB M1 hlo hhi;obtain⟨M1,h3,l3,pB⟩:=hP;have pA3:ia3<a.size:=by exact fQ
      all_goals
       refine Ab (x4 (atB ib hb') ?_);have M2:=M1.oneB hb' pB;have s2:(out3.push b[ib]).size=out3.size+1:=Bk _;by_cases e2:(ib+1==b.size)=true
       case' pos=>
        rw[AB e2];exact Ad ⟨⟨_,rfl⟩,.inl ⟨_,rfl,M2.done (by simpa using e2)⟩⟩
       case' neg=>
        rw[Az e2];have e2:¬ib+1=b.size:=by simpa using e2
        refine Ab (x4 (atA ia3 pA3) ?_);refine Ab (bT O hk (okA ia3 pA3) (by lia) (fun i=>tB (ib+1+i)) (fun i hi=>⟨tB1 _ (by omega),tB3 _ (by lia)⟩) (fun i=>decide (f (tB (ib+1+i))<f a[ia3])) (fun i hi=>by rw[AB rfl]) (fun i j hij hj h=>?_) fun k2 hk2 hlo2 hhi2=>?_)
        ·have:=tB4 (i:=ib+1+i) (j:=ib+1+j) (by lia) (by omega);simp at h ⊢;lia
        have hlo2:∀i,i<k2->f (tB (ib+1+i))<f a[ia3]:=fun i hi=>by have:=hlo2 i hi;simpa using this
        have hhi2:∀i,k2≤i->i<b.size - (ib+1)->f a[ia3]≤f (tB (ib+1+i)):=fun i hi hj=>by have:=hhi2 i hi hj;simpa using this
        have M3:MP f a b (out3.push b[ib]++b.extract (ib+1) (ib+1+k2)) ia3 (ib+1+k2):=M2.segB (by omega) fun i hi hik j hj hij=>by have h1:=hlo2 i hik;rw[tB2 _ hi] at h1;exact BJ (BO h1) (xE sa hij hj)
        have pA:∀j (hj:j<b.size),ib+1+k2≤j->f a[ia3]≤f b[j]:=fun j hj hij=>by have h1:=hhi2 (j - (ib+1)) (by lia) (by omega);rw[show ib+1+(j - (ib+1))=j by lia,tB2 _ hj] at h1;exact h1
        dsimp only;obtain⟨o3,eo3⟩:∃o,o=out3.push b[ib]:=⟨_,rfl⟩;obtain⟨ib3,ei3⟩:∃i,i=ib+1:=⟨_,rfl⟩;rw[<-eo3] at s2;rw[<-eo3,<-ei3] at M2 M3 ⊢;rw[<-ei3] at pA hk2;generalize eo0:o3=o0;generalize ej0:ib3=j0;revert j0;revert o0;refine iO (P:=fun(o:Array Keyed) (j:Nat)=>MP f a b o ia3 j/\out3.size+1≤o.size/\j<b.size/\∀j' (hj:j'<b.size),j≤j'->f a[ia3]≤f b[j']) (x:=o3) (i:=ib3) (fun out4 ib4 hP=>?tail2) (fun ck=>?hN) (fun ck key=>?hY)
        case hN=>
         obtain rfl:k2=0:=by lia
         exact⟨M2,by lia,by lia,fun j hj hij=>pA j hj (by lia)⟩
        case hY=>
         by_cases e3:(ib3+k2==b.size)=true
         ·rw[AB e3];exact Ad ⟨⟨_,rfl⟩,.inl ⟨_,rfl,M3.done (by simpa using e3)⟩⟩
         ·rw[Az e3];have e3:¬ib3+k2=b.size:=by simpa using e3
          exact key _ _ ⟨M3,by rw[BN];lia,by lia,pA⟩
        clear pA M3 hlo2 hhi2;obtain⟨M3,h4,l4,pA⟩:=hP
        all_goals
         refine Ab (x4 (atA ia3 pA3) ?_);have M4:=M3.oneA (by lia) pA;have s4:(out4.push a[ia3]).size=out4.size+1:=Bk _;by_cases e4:(ia3+1+1==a.size)=true
         ·rw[AB e4];exact Ad ⟨⟨_,rfl⟩,.inl ⟨_,rfl,M4.last (by simpa using e4) hl⟩⟩
         ·rw[Az e4];have e4:¬ia3+1+1=a.size:=by simpa using e4
          split
          ·exact Ad ⟨⟨_,rfl⟩,.inr ⟨_,_,_,_,_,_,rfl,M4,by exact wC,l4,by lia⟩⟩
          ·exact Ad ⟨⟨_,rfl⟩,_,_,_,_,_,_,rfl,M4,by lia,l4,by lia⟩
    ·rintro c st' ⟨⟨g',rfl⟩,out',ia,ib,mg',ac,bc,rfl,M,ha',hb',hs''⟩;have:=M.sz;omega
    ·rintro c st' ⟨⟨g',rfl⟩,h⟩;rcases h with⟨r,er,hr⟩ | ⟨out2,ia,ib,mg2,ac,bc,rfl,M,ha',hb',hs''⟩
     ·obtain⟨c1,c2⟩:=c;cases er;exact Ad ⟨⟨g',rfl⟩,r,rfl,hr⟩
     ·dsimp only;refine Ab (wpS_modify ?_);exact Ad ⟨⟨_,rfl⟩,_,_,_,_,rfl,M,ha',hb',by lia⟩
 ·rintro c st' ⟨⟨g,rfl⟩,out,ia,ib,mg,rfl,M,ha',hb',hs⟩;have:=M.sz;lia
 ·rintro c st' ⟨⟨g,rfl⟩,r,er,hr⟩;obtain⟨c1,c2⟩:=c;cases er;exact Ad (q r g hr)
end
structure MH(f:Keyed->Int)(la lb ra rb o:List Keyed):Prop where
 perm:(ra++rb++o).Perm (la++lb)
 so:o.Pairwise fun x y=>f x≤f y
 sa:ra.Pairwise fun x y=>f x≤f y
 sb:rb.Pairwise fun x y=>f x≤f y
 oa:∀x∈ra,∀y∈o,f x≤f y
 ob:∀x∈rb,∀y∈o,f x≤f y
theorem MH.a{f:Keyed->Int}{la lb o seg ra rb:List Keyed}(h:MH f la lb (ra++seg) rb o)(hs:∀x∈rb,∀y∈seg,f x≤f y):MH f la lb ra rb (seg++o):=by
 have sa:=AU.mp h.sa;refine⟨List.Perm.trans ?_ h.perm,AU.mpr ⟨sa.2.1,h.so,fun x hx y hy=>h.oa x (Af _ hx) y hy⟩,sa.1,h.sb,fun x hx y hy=>?_,fun x hx y hy=>?_⟩
 ·rw[<-AD];refine(Bj o).mpr ?_;rw[AD,AD];exact(Bv ra).mpr BF
 ·rcases Al.mp hy with hy | hy
  ·exact sa.2.2 x hx y hy
  ·exact h.oa x (Ar _ hx) y hy
 ·rcases Al.mp hy with hy | hy
  ·exact hs x hx y hy
  ·exact h.ob x hx y hy
theorem MH.b{f:Keyed->Int}{la lb o seg ra rb:List Keyed}(h:MH f la lb ra (rb++seg) o)(hs:∀x∈ra,∀y∈seg,f x≤f y):MH f la lb ra rb (seg++o):=by
 have sb:=AU.mp h.sb;refine⟨?_,AU.mpr ⟨sb.2.1,h.so,fun x hx y hy=>h.ob x (Af _ hx) y hy⟩,h.sa,sb.1,fun x hx y hy=>?_,fun x hx y hy=>?_⟩
 ·have:=h.perm;rw[<-AD,AD ra rb seg];exact this
 ·rcases Al.mp hy with hy | hy
  ·exact hs x hx y hy
  ·exact h.oa x hx y hy
 ·rcases Al.mp hy with hy | hy
  ·exact sb.2.2 x hx y hy
  ·exact h.ob x (Ar _ hx) y hy
theorem MH.ea{f:Keyed->Int}{la lb o rb:List Keyed}(h:MH f la lb [] rb o):vm f la lb (rb++o):=⟨by have:=h.perm;rwa[Ct] at this,AU.mpr ⟨h.sb,h.so,h.ob⟩⟩
theorem MH.eb{f:Keyed->Int}{la lb o ra rb:List Keyed}(h:MH f la lb ra rb o)(hs:∀x∈rb,∀y∈ra,f x≤f y):vm f la lb (rb++ra++o):=by
 refine⟨List.Perm.trans ?_ h.perm,?_⟩
 ·exact(Bj o).mpr BF
 ·refine AU.mpr ⟨AU.mpr ⟨h.sb,h.sa,hs⟩,h.so,fun x hx y hy=>?_⟩;rcases Al.mp hx with hx | hx
  ·exact h.ob x hx y hy
  ·exact h.oa x hx y hy
structure HP(f:Keyed->Int)(a b out:Array Keyed)(na nb:Nat):Prop where
 mi:MH f a.toList b.toList (a.toList.take na) (b.toList.take nb) out.toList.reverse
 sz:out.size+na+nb=a.size+b.size
 la:na≤a.size
 lb:nb≤b.size
theorem aec(a:Array Keyed)(h:i<a.size):a.toList.take (i+1)=a.toList.take i++[a[i]]:=by rw[Bi];simp[h]
theorem fU{a:Array Keyed}{x:Keyed}(h:x∈a.toList.take i):∃j,∃hj:j<a.size,j<i/\a[j]=x:=by
 obtain⟨j,hj,e⟩:=Ba h;rw[AN] at hj;have h1:j<a.size:=by have:a.toList.length=a.size:=AL;omega
 refine⟨j,h1,by omega,?_⟩;rw[<-e];simp
theorem adm(l:List Keyed){k:Nat}(h:i≤k):l.take i++(l.drop i).take (k - i)=l.take k:=by have:=List.take_add (l:=l) (i:=i) (j:=k - i);rw[show i+(k - i)=k by omega] at this;exact this.symm
section
variable {f:Keyed->Int}{a b out:Array Keyed}{nb:Nat}
theorem HP.segA(M:HP f a b out na nb){k:Nat}(hk:k≤na)(h:∀i (hi:i<a.size),k≤i->i<na->∀j (hj:j<b.size),j<nb->f b[j]≤f a[i]):HP f a b (out++(a.extract k na).reverse) k nb:=by
 have hl:=M.la;refine⟨?_,?_,by exact ai3,M.lb⟩
 ·rw[A9,CL,CD,List.reverse_reverse,eW];refine MH.a (by rw[adm _ hk];exact M.mi) fun x hx y hy=>?_;obtain⟨j,hj,h2,rfl⟩:=fU hx;obtain⟨i,hi,h1,rfl⟩:=oB hy;exact h (k+i) hi (by exact A5 _ _) (by lia) j hj h2
 ·have:=M.sz;rw[BN,Array.size_reverse,CS];lia
theorem HP.segB(M:HP f a b out na nb){k:Nat}(hk:k≤nb)(h:∀i (hi:i<b.size),k≤i->i<nb->∀j (hj:j<a.size),j<na->f a[j]≤f b[i]):HP f a b (out++(b.extract k nb).reverse) na k:=by
 have hl:=M.lb;refine⟨?_,?_,M.la,by lia⟩
 ·rw[A9,CL,CD,List.reverse_reverse,eW];refine MH.b (by rw[adm _ hk];exact M.mi) fun x hx y hy=>?_;obtain⟨j,hj,h2,rfl⟩:=fU hx;obtain⟨i,hi,h1,rfl⟩:=oB hy;exact h (k+i) hi (by lia) (by lia) j hj h2
 ·have:=M.sz;rw[BN,Array.size_reverse,CS];lia
theorem HP.oneA(M:HP f a b out (na+1) nb)(hi:na<a.size)(h:∀j (hj:j<b.size),j<nb->f b[j]≤f a[na]):HP f a b (out.push a[na]) na nb:=by refine⟨?_,by have:=M.sz;rw[Bk];lia,by exact fQ,M.lb⟩;rw[Cz,CL];refine MH.a (seg:=[a[na]]) (by rw[<-aec a hi];exact M.mi) fun x hx y hy=>?_;obtain⟨j,hj,h2,rfl⟩:=fU hx;rw[Ak.mp hy];exact h j hj h2
theorem HP.oneB(M:HP f a b out na (nb+1))(hi:nb<b.size)(h:∀j (hj:j<a.size),j<na->f a[j]≤f b[nb]):HP f a b (out.push b[nb]) na nb:=by refine⟨?_,by have:=M.sz;rw[Bk];lia,M.la,by lia⟩;rw[Cz,CL];refine MH.b (seg:=[b[nb]]) (by rw[<-aec b hi];exact M.mi) fun x hx y hy=>?_;obtain⟨j,hj,h2,rfl⟩:=fU hx;rw[Ak.mp hy];exact h j hj h2
theorem HP.done(M:HP f a b out na nb)(h:na=0):vm f a.toList b.toList (a.extract 0 na++b.extract 0 nb++out.reverse).toList:=by subst h;have:=M.mi;rw[List.take_zero] at this;have:=this.ea;rw[A9,A9,eW,eW,CD];simpa using this
theorem HP.last(M:HP f a b out na nb)(h:nb=1)(hb:0<b.size)(h0:∀x∈a.toList,f b[0]<f x):vm f a.toList b.toList (b.extract 0 nb++a.extract 0 na++out.reverse).toList:=by
 have:=M.mi.eb fun x hx y hy=>by
  obtain⟨j,hj,h2,rfl⟩:=fU hx;have e:j=0:=by lia
  subst e;exact BO (h0 y (BD hy))
 rw[A9,A9,eW,eW,CD];simpa using this
end
theorem HP.preA{f:Keyed->Int}{a b out:Array Keyed}{nb:Nat}(M:HP f a b out na nb)(h0:0<na)(h:∀j (hj:j<b.size),j<nb->f b[j]≤f (a[na - 1]'(by have:=M.la;omega))):HP f a b (out.push (a[na - 1]'(by have:=M.la;omega))) (na - 1) nb:=by obtain⟨n,rfl⟩:∃n,na=n+1:=⟨na - 1,by lia⟩;have hl:=M.la;exact HP.oneA M (by assumption) h
theorem HP.preB{f:Keyed->Int}{a b out:Array Keyed}{nb:Nat}(M:HP f a b out na nb)(h0:0<nb)(h:∀j (hj:j<a.size),j<na->f a[j]≤f (b[nb - 1]'(by have:=M.lb;omega))):HP f a b (out.push (b[nb - 1]'(by have:=M.lb;lia))) na (nb - 1):=by obtain⟨n,rfl⟩:∃n,nb=n+1:=⟨nb - 1,by lia⟩;have hl:=M.lb;exact HP.oneB M (by lia) h
section
variable {w:World}{κ:SortKind}{Ok:Keyed->Prop}{f:Keyed->Int}
theorem av{c:Prop} [Decidable c]{x y:StateT SortSt Sem α}{Q:α->SortSt->Prop}{st:SortSt}(h:c)(k:wpS M A E s x Q st):wpS M A E s (if c then x else y) Q st:=by rw[AB h];exact k
theorem aP{c:Prop} [Decidable c]{x y:StateT SortSt Sem α}{Q:α->SortSt->Prop}{st:SortSt}(h:¬c)(k:wpS M A E s y Q st):wpS M A E s (if c then x else y) Q st:=by rw[Az h];exact k
theorem uo(O:u7 prog w A s κ Ok f){a b:Array Keyed}{st:SortSt}{Q:Array Keyed->SortSt->Prop}(hk:kindOf st=κ)(oka:∀x∈a.toList,Ok x)(okb:∀x∈b.toList,Ok x)
 (sa:a.toList.Pairwise fun x y=>f x≤f y) (sb:b.toList.Pairwise fun x y=>f x≤f y) (ha:0<a.size) (hb:0<b.size) (h0:∀x∈a.toList,f b[0]<f x) (hl:∀x∈b.toList,f x<f a[a.size - 1])
 (q:∀r g,vm f a.toList b.toList r.toList->Q r (fN st g)):wpS (model prog w) A E s (yO a b) Q st:=by
 have okA:∀i (hi:i<a.size),Ok a[i]:=fun i hi=>oka _ (by simp);have okB:∀i (hi:i<b.size),Ok b[i]:=fun i hi=>okb _ (by simp);have atA:∀i (hi:i<a.size),a[i]?=some a[i]:=fun i hi=>by simp[hi]
 have atB:∀i (hi:i<b.size),b[i]?=some b[i]:=fun i hi=>by simp[hi]
 obtain⟨tA,tA0⟩:∃t:Nat->Keyed,t=fun i=>(a[i]?).getD b[0]:=⟨_,rfl⟩;have tA2:∀i (hi:i<a.size),tA i=a[i]:=fun i hi=>by rw[tA0];simp[hi]
 have tA1:∀i (hi:i<a.size),a[0+i]?=some (tA i):=fun i hi=>by rw[tA2 i hi,DO];exact atA i hi
 have tA3:∀i (hi:i<a.size),Ok (tA i):=fun i hi=>by rw[tA2 i hi];exact okA i hi
 have tA4:∀{i j},i≤j->j<a.size->f (tA i)≤f (tA j):=fun {i j} hij hj=>by rw[tA2 i (by exact fw),tA2 j hj];exact xE sa hij hj
 obtain⟨tB,tB0⟩:∃t:Nat->Keyed,t=fun i=>(b[i]?).getD b[0]:=⟨_,rfl⟩;have tB2:∀i (hi:i<b.size),tB i=b[i]:=fun i hi=>by rw[tB0];simp[hi]
 have tB1:∀i (hi:i<b.size),b[0+i]?=some (tB i):=fun i hi=>by rw[tB2 i hi,DO];exact atB i hi
 have tB3:∀i (hi:i<b.size),Ok (tB i):=fun i hi=>by rw[tB2 i hi];exact okB i hi
 have tB4:∀{i j},i≤j->j<b.size->f (tB i)≤f (tB j):=fun {i j} hij hj=>by rw[tB2 i (by exact fw),tB2 j hj];exact xE sb hij hj
 refine Ab (wpS_lift (Bw ⟨rfl,?_⟩));refine Ab (x4 (x:=a[a.size - 1]) (atA _ (by exact oO)) ?_);dsimp only;obtain⟨n0,hn0⟩:∃n,a.size=n+1:=⟨a.size - 1,by lia⟩;have M0:HP f a b #[a[a.size - 1]] (a.size - 1) b.size:=by
  have M:HP f a b #[] (a.size - 1+1) b.size:=by
   refine⟨⟨?_,by simp,?_,?_,by simp,by simp⟩,by simp;lia,by exact oO,An _⟩
   ·rw[AZ (by simp;lia),AZ (by simp)];simp
   ·rw[AZ (by simp;lia)];exact sa
   ·rw[AZ (by simp)];exact sb
  have:=M.oneA (by lia) fun j hj _=>BO (hl b[j] (by simp));simpa using this
 by_cases c1:(a.size - 1==0)=true
 ·refine av c1 ?_;exact Ad (q _ (gallopOf st) (M0.done (by simpa using c1)))
 refine aP c1 ?_;by_cases c2:(b.size==1)=true
 ·refine av c2 ?_;exact Ad (q _ (gallopOf st) (M0.last (by simpa using c2) hb h0))
 refine aP c2 ?_;have c1:¬a.size - 1=0:=by simpa using c1
 have c2:¬b.size=1:=by simpa using c2
 refine Ab (wpS_get ?_);refine Ab (AV (AI (I:=fun x c st'=>(∃g,st'=fN st g)/\∃na nb out mg,c=(none,na,nb,out,mg)/\HP f a b out na nb/\0<na/\1<nb/\x+1≤out.size)
  (Q:=fun c st'=>(∃g,st'=fN st g)/\∃r,c.1=some r/\vm f a.toList b.toList r.toList) ?_ ?_ ⟨⟨gallopOf st,rfl⟩,_,_,_,_,rfl,M0,by exact zR,by lia,by simp⟩) ?_)
 ·rintro x c st' _ hx ⟨⟨g,rfl⟩,na,nb,out,mg,rfl,M,ha',hb',hs⟩;dsimp only;refine Ab (AV (AI (I:=fun y c st'=>st'=fN st g/\∃na nb out' ac bc,c=(none,na,nb,out',ac,bc)/\HP f a b out' na nb/\0<na/\1<nb/\out.size+y≤out'.size)
   (Q:=fun c st'=>st'=fN st g/\((∃r,c.1=some r/\vm f a.toList b.toList r.toList)\/∃na nb out' ac bc,c=(none,na,nb,out',ac,bc)/\HP f a b out' na nb/\0<na/\1<nb/\out.size+1≤out'.size)) ?_ ?_ ⟨rfl,_,_,_,_,_,rfl,M,ha',hb',An _⟩) ?_)
  ·rintro y c st' _ hy ⟨rfl,na,nb,out',ac,bc,rfl,M,ha',hb',hs'⟩;have hla:=M.la;have hlb:=M.lb;have pB1:nb - 1<b.size:=by omega
   have pA1:na - 1<a.size:=by lia
   dsimp only;refine Ab (x4 (atB (nb - 1) pB1) ?_);refine Ab (x4 (atA (na - 1) pA1) ?_);refine Ab (w_lt O hk (okB (nb - 1) pB1) (okA (na - 1) pA1) ?_);dsimp only;by_cases c:f b[nb - 1]<f a[na - 1]
   ·rw[AH c,AB rfl];refine Ab (x4 (atA (na - 1) pA1) ?_);have M':=M.preA ha' fun j hj hij=>BO (Int.lt_of_le_of_lt (xE sb (i:=j) (j:=nb - 1) (CF hij) pB1) c);have s2:(out'.push a[na - 1]).size=out'.size+1:=Bk _;by_cases e1:(na - 1==0)=true
    ·refine av e1 ?_;exact Ad ⟨rfl,.inl ⟨_,rfl,M'.done (by simpa using e1)⟩⟩
    ·refine aP e1 ?_;have e1:¬na - 1=0:=by simpa using e1
     split
     ·exact Ad ⟨rfl,.inr ⟨_,_,_,_,_,rfl,M',by exact zR,hb',by lia⟩⟩
     ·exact Ad ⟨rfl,_,_,_,_,_,rfl,M',by lia,hb',by lia⟩
   ·rw[Ax c,Az (by simp)];refine Ab (x4 (atB (nb - 1) pB1) ?_);have M':=M.preB (by exact fQ) fun j hj hij=>BJ (xE sa (i:=j) (j:=na - 1) (CF hij) pA1) (by omega);have s2:(out'.push b[nb - 1]).size=out'.size+1:=Bk _;by_cases e1:(nb - 1==1)=true
    ·refine av e1 ?_;exact Ad ⟨rfl,.inl ⟨_,rfl,M'.last (by simpa using e1) hb h0⟩⟩
    ·refine aP e1 ?_;have e1:¬nb - 1=1:=by simpa using e1
     split
     ·exact Ad ⟨rfl,.inr ⟨_,_,_,_,_,rfl,M',ha',by lia,by lia⟩⟩
     ·exact Ad ⟨rfl,_,_,_,_,_,rfl,M',ha',by lia,by lia⟩
  ·rintro c st' ⟨rfl,na,nb,out',ac,bc,rfl,M,ha',hb',hs'⟩;have:=M.sz;omega
  ·rintro c st' ⟨rfl,h⟩;rcases h with⟨r,er,hr⟩ | ⟨na,nb,out1,ac,bc,rfl,M,ha',hb',hs'⟩
   ·obtain⟨c1,c2⟩:=c;cases er;exact Ad ⟨⟨g,rfl⟩,r,rfl,hr⟩
   ·dsimp only;refine Ab (wpS_lift (Bw ⟨rfl,?_⟩));refine Ab (AV (AI (I:=fun y c st'=>(∃g,st'=fN st g)/\∃na nb out' mg ac bc,c=(none,na,nb,out',mg,ac,bc)/\HP f a b out' na nb/\0<na/\1<nb/\out1.size+y≤out'.size)
     (Q:=fun c st'=>(∃g,st'=fN st g)/\((∃r,c.1=some r/\vm f a.toList b.toList r.toList)\/∃na nb out' mg ac bc,c=(none,na,nb,out',mg,ac,bc)/\HP f a b out' na nb/\0<na/\1<nb/\out1.size≤out'.size)) ?_ ?_ ⟨⟨g,rfl⟩,_,_,_,_,_,_,rfl,M,ha',hb',An _⟩) ?_)
    ·rintro y c st' _ hy ⟨⟨g',rfl⟩,na,nb,out',mg',ac,bc,rfl,M,ha',hb',hs''⟩;have hla:=M.la;have hlb:=M.lb;have pB1:nb - 1<b.size:=by omega
     have pA1:na - 1<a.size:=by lia
     dsimp only;generalize mg' - 1=mgx;revert mgx;refine oj (y:=mg') fun mg2=>?_
     all_goals
      refine Ab (wpS_modify ?_);refine Ab (x4 (atB (nb - 1) pB1) ?_);refine Ab (bT O hk (okB (nb - 1) pB1) (by exact oO) tA (fun i hi=>⟨tA1 _ (by exact vT),tA3 _ (by lia)⟩) (fun i=>!decide (f b[nb - 1]<f (tA i))) (fun i hi=>by rw[Az (by simp)]) (fun i j hij hj h=>?_) fun k hk1 hlo hhi=>?_)
      ·have:=tA4 (i:=i) (j:=j) (by lia) (by exact vT);simp at h ⊢;lia
      have hlo:∀i,i<k->f (tA i)≤f b[nb - 1]:=fun i hi=>by have:=hlo i hi;simpa using this
      have hhi:∀i,k≤i->i<na->f b[nb - 1]<f (tA i):=fun i hi hj=>by have:=hhi i hi hj;simpa using this
      have M1:HP f a b (out'++(a.extract k na).reverse) k nb:=M.segA hk1 fun i hi h1 h2 j hj hij=>by have h3:=hhi i h1 h2;rw[tA2 _ hi] at h3;exact BJ (xE sb (i:=j) (j:=nb - 1) (CF hij) pB1) (BO h3)
      have pB:∀j (hj:j<a.size),j<k->f a[j]≤f b[nb - 1]:=fun j hj hij=>by have h1:=hlo j hij;rw[tA2 _ hj] at h1;exact h1
      dsimp only;generalize ec0:na - k=cn;generalize eo0:out'=o0;generalize ej0:na=j0;revert j0;revert o0;refine iO (P:=fun(o:Array Keyed) (j:Nat)=>HP f a b o j nb/\out'.size≤o.size/\0<j/\∀j' (hj:j'<a.size),j'<j->f a[j']≤f b[nb - 1]) (x:=out') (i:=na) (fun out3 na3 hP=>?tail) (fun ck=>?hN) (fun ck key=>?hY)
      case hN=>
       obtain rfl:k=na:=by lia
       exact⟨M,An _,by lia,pB⟩
      case hY=>
       by_cases e1:(k==0)=true
       ·refine av e1 ?_;exact Ad ⟨⟨_,rfl⟩,.inl ⟨_,rfl,M1.done (by simpa using e1)⟩⟩
       ·refine aP e1 ?_;have e1:¬k=0:=by simpa using e1
        exact key _ _ ⟨M1,by rw[BN];exact A5 _ _,by exact zR,pB⟩
      clear pB M1 hlo hhi;obtain⟨M1,h3,l3,pB⟩:=hP
      all_goals
       have hla3:=M1.la;have pA3:na3 - 1<a.size:=by lia
       refine Ab (x4 (atB (nb - 1) pB1) ?_);have M2:=M1.preB (by exact fQ) pB;have s2:(out3.push b[nb - 1]).size=out3.size+1:=Bk _;by_cases e2:(nb - 1==1)=true
       case' pos=>
        refine av e2 ?_;exact Ad ⟨⟨_,rfl⟩,.inl ⟨_,rfl,M2.last (by simpa using e2) hb h0⟩⟩
       case' neg=>
        refine aP e2 ?_;have e2:¬nb - 1=1:=by simpa using e2
        refine Ab (x4 (atA (na3 - 1) pA3) ?_);refine Ab (bT O hk (okA (na3 - 1) pA3) (by lia) tB (fun i hi=>⟨tB1 _ (by exact jC),tB3 _ (by lia)⟩) (fun i=>decide (f (tB i)<f a[na3 - 1])) (fun i hi=>by rw[AB rfl]) (fun i j hij hj h=>?_) fun k2 hk2 hlo2 hhi2=>?_)
        ·have:=tB4 (i:=i) (j:=j) (by lia) (by exact jC);simp at h ⊢;lia
        have hlo2:∀i,i<k2->f (tB i)<f a[na3 - 1]:=fun i hi=>by have:=hlo2 i hi;simpa using this
        have hhi2:∀i,k2≤i->i<nb - 1->f a[na3 - 1]≤f (tB i):=fun i hi hj=>by have:=hhi2 i hi hj;simpa using this
        have k1:0<k2:=by
         rcases Nat.eq_zero_or_pos k2 with h | h
         ·exfalso;have h5:=hhi2 0 (by exact pH) (by lia);rw[tB2 _ hb] at h5;have h6:=h0 a[na3 - 1] (by simp);lia
         ·exact h
        have M3:HP f a b (out3.push b[nb - 1]++(b.extract k2 (nb - 1)).reverse) na3 k2:=M2.segB hk2 fun i hi h1 h2 j hj hij=>by have h5:=hhi2 i h1 h2;rw[tB2 _ hi] at h5;exact BJ (xE sa (i:=j) (j:=na3 - 1) (CF hij) pA3) h5
        have pA:∀j (hj:j<b.size),j<k2->f b[j]≤f a[na3 - 1]:=fun j hj hij=>by have h5:=hlo2 j hij;rw[tB2 _ hj] at h5;exact BO h5
        dsimp only;generalize ec2:nb - 1 - k2=cn2;obtain⟨o3,eo3⟩:∃o,o=out3.push b[nb - 1]:=⟨_,rfl⟩;obtain⟨nb3,ei3⟩:∃i,i=nb - 1:=⟨_,rfl⟩;have eb:b[nb - 1]=b[nb3]'(by lia):=by subst ei3;rfl
        rw[<-eo3] at s2 M2 M3 ⊢;rw[<-ei3] at M2 M3 ec2 hk2 ⊢;generalize eo0:o3=o0;generalize ej0:nb3=j0;revert j0;revert o0;refine iO (P:=fun(o:Array Keyed) (j:Nat)=>HP f a b o na3 j/\out3.size+1≤o.size/\1<j/\∀j' (hj:j'<b.size),j'<j->f b[j']≤f a[na3 - 1]) (x:=o3) (i:=nb3) (fun out4 nb4 hP=>?tail2) (fun ck=>?hN) (fun ck key=>?hY)
        case hN=>
         obtain rfl:k2=nb3:=by lia
         exact⟨M2,by lia,by lia,pA⟩
        case hY=>
         by_cases e3:(k2==1)=true
         ·refine av e3 ?_;exact Ad ⟨⟨_,rfl⟩,.inl ⟨_,rfl,M3.last (by simpa using e3) hb h0⟩⟩
         ·refine aP e3 (aP (show ¬(k2==0)=true by simp;exact aim) ?_);have e3:¬k2=1:=by simpa using e3
          exact key _ _ ⟨M3,by rw[BN];lia,by lia,pA⟩
        clear pA M3 hlo2 hhi2;obtain⟨M3,h4,l4,pA⟩:=hP
        all_goals
         refine Ab (x4 (atA (na3 - 1) pA3) ?_);have M4:=M3.preA l3 pA;have s4:(out4.push a[na3 - 1]).size=out4.size+1:=Bk _;by_cases e4:(na3 - 1==0)=true
         ·refine av e4 ?_;exact Ad ⟨⟨_,rfl⟩,.inl ⟨_,rfl,M4.done (by simpa using e4)⟩⟩
         ·refine aP e4 ?_;have e4:¬na3 - 1=0:=by simpa using e4
          split
          ·exact Ad ⟨⟨_,rfl⟩,.inr ⟨_,_,_,_,_,_,rfl,M4,by exact zR,l4,by lia⟩⟩
          ·exact Ad ⟨⟨_,rfl⟩,_,_,_,_,_,_,rfl,M4,by lia,l4,by lia⟩
    ·rintro c st' ⟨⟨g',rfl⟩,na,nb,out',mg',ac,bc,rfl,M,ha',hb',hs''⟩;have:=M.sz;omega
    ·rintro c st' ⟨⟨g',rfl⟩,h⟩;rcases h with⟨r,er,hr⟩ | ⟨na,nb,out2,mg2,ac,bc,rfl,M,ha',hb',hs''⟩
     ·obtain⟨c1,c2⟩:=c;cases er;exact Ad ⟨⟨g',rfl⟩,r,rfl,hr⟩
     ·dsimp only;refine Ab (wpS_modify ?_);exact Ad ⟨⟨_,rfl⟩,_,_,_,_,rfl,M,ha',hb',by lia⟩
 ·rintro c st' ⟨⟨g,rfl⟩,na,nb,out,mg,rfl,M,ha',hb',hs⟩;have:=M.sz;lia
 ·rintro c st' ⟨⟨g,rfl⟩,r,er,hr⟩;obtain⟨c1,c2⟩:=c;cases er;exact Ad (q r g hr)
end
def az(f:Keyed->Int):List (Nat×Nat×Nat)->List (List Keyed)->Nat->Prop
 |[],[],_=>True
 |(st,n,_)::ps,l::ls,s=>st=s/\n=l.length/\0<l.length/\(l.Pairwise fun x y=>f x≤f y)/\az f ps ls (s+l.length)
 |_,_,_=>False
theorem az.split{f:Keyed->Int}:∀{ps:List (Nat×Nat×Nat)} {pre:List (List Keyed)} {A B:List Keyed} {post:List (List Keyed)} {s:Nat},az f ps (pre++A::B::post) s->
 ∃P1 P2 w1 w2,ps=P1++(s+pre.flatten.length,A.length,w1)::(s+pre.flatten.length+A.length,B.length,w2)::P2/\P1.length=pre.length/\0<A.length/\0<B.length/\(A.Pairwise fun x y=>f x≤f y)/\(B.Pairwise fun x y=>f x≤f y)/\
  ∀C w,C.length=A.length+B.length->(C.Pairwise fun x y=>f x≤f y)->az f (P1++(s+pre.flatten.length,A.length+B.length,w)::P2) (pre++C::post) s
 |[],[],A,B,post,s,h=>by exact h.elim
 |[_],[],A,B,post,s,h=>by exact h.2.2.2.2.elim
 |(a1,a2,a3)::(b1,b2,b3)::ps,[],A,B,post,s,h=>by
  obtain⟨h1,h2,h3,h4,k1,k2,k3,k4,k5⟩:=h;refine⟨[],ps,a3,b3,?_,rfl,h3,k3,h4,k4,fun C w hC hs=>⟨rfl,hC.symm,by lia,hs,?_⟩⟩
  ·simp[h1,h2,k1,k2]
  ·rw[hC];have:=k5;rw[Eb] at this;exact this
 |[],_::_,A,B,post,s,h=>by exact h.elim
 |(a1,a2,a3)::ps,l::pre,A,B,post,s,h=>by
  obtain⟨h1,h2,h3,h4,k⟩:=h;obtain⟨P1,P2,w1,w2,e,e1,e2,e3,e4,e5,e6⟩:=az.split k;have en:s+(l::pre).flatten.length=s+l.length+pre.flatten.length:=by simp;simp +arith only
  refine⟨(a1,a2,a3)::P1,P2,w1,w2,?_,by simp[e1],e2,e3,e4,e5,fun C w hC hs=>⟨h1,h2,h3,h4,?_⟩⟩
  ·rw[en,e];rfl
  ·rw[en];exact e6 C w hC hs
theorem ac1{σ:Type}{st st':σ}{Q:PUnit->σ->Prop}(h:Q ⟨⟩ st'):wpS M A E s (set st':StateT σ Sem PUnit) Q st:=by unfold wpS;rw[StateT.run_set];exact Ah ⟨rfl,h⟩
theorem jJ{α:Type}:∀(m:List α) (arr:Array α) (i k:Nat),i+k+m.length≤arr.size->((m.zipIdx k).foldl (fun(a:Array α) (pj:α×Nat)=>a.setIfInBounds (i+pj.2) pj.1) arr).toList=arr.toList.take (i+k)++(m++arr.toList.drop (i+k+m.length))
 |[],arr,i,k,h=>by simp
 |x::m,arr,i,k,h=>by
  rw[DH,List.foldl_cons];simp only[AK] at h;rw[jJ m _ i (k+1) (by simp;lia)];have e:(arr.setIfInBounds (i+k) x).toList=arr.toList.set (i+k) x:=by simp
  have l:arr.toList.length=arr.size:=AL;rw[e,List.drop_set,AB (by exact A5 _ _),<-Eb,Bi,BY (by lia),List.take_set_of_le (by simp +arith only),AK];simp;congr 1;simp +arith only
structure a7(κ:SortKind)(Ok:Keyed->Prop)(f:Keyed->Int)(st:SortSt)(j6:List (List Keyed))(rest:List Keyed):Prop where
 kind:kindOf st=κ
 failed:failedOf st=none
 arr:(arrOf st).toList=j6.flatten++rest
 pend:az f (pendingOf st).toList j6 0
 ok:∀x∈(arrOf st).toList,Ok x
section
variable {w:World}{κ:SortKind}{Ok:Keyed->Prop}{f:Keyed->Int}
theorem pS{l:List Keyed}(s:l.Pairwise fun x y=>f x≤f y)(hij:i≤j)(hj:j<l.length):f (l[i]'(by exact fw))≤f l[j]:=by
 rcases Dq hij with h | h
 ·exact B5.mp s i j (by exact fw) hj h
 ·subst h;exact CW _
theorem xU{p:Array α}{P1 P2:List α}{u v z:α}(h:p.toList=P1++u::v::P2):((p.setIfInBounds P1.length z).eraseIdxIfInBounds (P1.length+1)).toList=P1++z::P2:=by
 have hs:p.size=P1.length+(P2.length+2):=by rw[<-AL,h];simp
 have h2:P1.length+1<(p.setIfInBounds P1.length z).size:=by rw[Array.size_setIfInBounds];lia
 rw[Array.eraseIdxIfInBounds,dif_pos h2,Array.toList_eraseIdx,Array.toList_setIfInBounds,h,List.set_append_right _ _ (An _),CH,List.set_cons_zero,CY (by exact A5 _ _),BX];rfl
theorem wW(O:u7 prog w A s κ Ok f){st:SortSt}{pre post:List (List Keyed)}{X Y rest:List Keyed}{Q:Bool->SortSt->Prop}(G:a7 κ Ok f st (pre++X::Y::post) rest)
 (q:∀st' C,a7 κ Ok f st' (pre++C::post) rest->C.Perm (X++Y)->Q true st'):wpS (model prog w) A E s (mergeAt' pre.length) Q st:=by
 obtain⟨P1,P2,w1,w2,ep,e1,lX,lY,sX,sY,done⟩:=G.pend.split;simp only[DO] at ep done;have a1:(pendingOf st)[pre.length]?=some (pre.flatten.length,X.length,w1):=by rw[<-A6,ep,<-e1,Au (An _),CH];rfl
 have a2:(pendingOf st)[pre.length+1]?=some (pre.flatten.length+X.length,Y.length,w2):=by rw[<-A6,ep,<-e1,Au (by exact A5 _ _),BX];rfl
 refine Ab (wpS_get ?_);rw[show(sortPriv% PySem.Builtin.SortState.pending) st=pendingOf st from rfl,a1,a2];dsimp only;refine Ab (ac1 ?_);have ea:(arrOf st).toList=pre.flatten++(X++(Y++(post.flatten++rest))):=by rw[G.arr];simp
 have atX:∀i (hi:i<X.length),(arrOf st)[pre.flatten.length+i]?=some X[i]:=fun i hi=>by rw[<-A6,ea,Au (by exact A5 _ _),BX,AE hi];simp
 have atY:∀i (hi:i<Y.length),(arrOf st)[pre.flatten.length+X.length+i]?=some Y[i]:=fun i hi=>by rw[<-A6,ea,Au (by simp +arith only),Au (by omega),AE (by omega)];rw[show pre.flatten.length+X.length+i - pre.flatten.length - X.length=i by omega];simp
 have okX:∀x∈X,Ok x:=fun x hx=>G.ok x (by rw[ea];simp[hx]);have okY:∀x∈Y,Ok x:=fun x hx=>G.ok x (by rw[ea];simp[hx]);have pz:=xU (z:=(pre.flatten.length,X.length+Y.length,w1)) ep;rw[e1] at pz;have good:∀(st':SortSt) (C:List Keyed),kindOf st'=kindOf st->failedOf st'=failedOf st->pendingOf st'=((pendingOf st).setIfInBounds pre.length (pre.flatten.length,X.length+Y.length,w1)).eraseIdxIfInBounds (pre.length+1)->
  (arrOf st').toList=pre.flatten++(C++(post.flatten++rest))->C.Perm (X++Y)->(C.Pairwise fun x y=>f x≤f y)->a7 κ Ok f st' (pre++C::post) rest:=fun st' C g1 g2 g3 g4 g5 g6=>by
  refine⟨g1.trans G.kind,g2.trans G.failed,by rw[g4];simp,?_,fun x hx=>?_⟩
  ·rw[g3,pz];exact done C w1 (by rw[g5.length_eq,Ac]) g6
  ·rw[g4] at hx;rcases Al.mp hx with h | h
   ·exact G.ok x (by rw[ea];exact Ar _ h)
   ·rcases Al.mp h with h | h
    ·rcases Al.mp (g5.mem_iff.mp h) with h | h
     ·exact okX x h
     ·exact okY x h
    ·exact G.ok x (by rw[ea];exact Af _ (Af _ (Af _ h)))
 obtain⟨tX,tX0⟩:∃t:Nat->Keyed,t=fun i=>(X[i]?).getD X[0]:=⟨_,rfl⟩;have tX2:∀i (hi:i<X.length),tX i=X[i]:=fun i hi=>by rw[tX0];simp[hi]
 obtain⟨tY,tY0⟩:∃t:Nat->Keyed,t=fun i=>(Y[i]?).getD X[0]:=⟨_,rfl⟩;have tY2:∀i (hi:i<Y.length),tY i=Y[i]:=fun i hi=>by rw[tY0];simp[hi]
 refine Ab (x4 (x:=Y[0]) (by have:=atY 0 lY;simpa using this) ?_);refine Ab (bT O G.kind (okY _ (Cm _)) lX tX (fun i hi=>⟨by rw[tX2 i hi];exact atX i hi,by rw[tX2 i hi];exact okX _ (Cm _)⟩) (fun i=>!decide (f Y[0]<f (tX i))) (fun i hi=>by rw[Az (by simp)]) (fun i j hij hj h=>?_) fun k hk1 hlo hhi=>?_)
 ·have:=pS sX hij hj;rw[tX2 j hj] at h;rw[tX2 i (by exact fw)];simp at h ⊢;omega
 have hlo:∀i (hi:i<k),f (X[i]'(by exact vT))≤f Y[0]:=fun i hi=>by have:=hlo i hi;rw[tX2 i (by lia)] at this;simpa using this
 have hhi:∀i (hj:i<X.length),k≤i->f Y[0]<f X[i]:=fun i hj hi=>by have:=hhi i hi hj;rw[tX2 i hj] at this;simpa using this
 dsimp only;by_cases c:(X.length - k==0)=true
 ·rw[AB c];have c:X.length≤k:=by
   have:X.length - k=0:=by simpa using c
   omega
  refine Ad (q _ (X++Y) (good _ _ rfl rfl rfl (by rw[AD];exact ea) (BG _) (AU.mpr ⟨sX,sY,fun x hx y hy=>?_⟩)) (BG _));obtain⟨i,hi,rfl⟩:=Ba hx;obtain⟨j,hj,rfl⟩:=Ba hy;exact BJ (hlo i (by exact vT)) (pS sY (Bf _) hj)
 rw[Az c];have c:k<X.length:=by
  have:¬X.length - k=0:=by simpa using c
  lia
 refine Ab (x4 (x:=X[X.length - 1]) (by have:=atX (X.length - 1) (by lia);rw[show pre.flatten.length+k+(X.length - k) - 1=pre.flatten.length+(X.length - 1) by lia];exact this) ?_);refine Ab (bT O G.kind (okX _ (Cm _)) (by exact oO) tY (fun i hi=>⟨by rw[tY2 i hi];exact atY i hi,by rw[tY2 i hi];exact okY _ (Cm _)⟩) (fun i=>decide (f (tY i)<f X[X.length - 1])) (fun i hi=>by rw[AB rfl]) (fun i j hij hj h=>?_) fun m hm1 hlo2 hhi2=>?_)
 ·have:=pS sY hij hj;rw[tY2 j hj] at h;rw[tY2 i (by exact fw)];simp at h ⊢;omega
 have hlo2:∀i (hi:i<m),f (Y[i]'(by exact vT))<f X[X.length - 1]:=fun i hi=>by have:=hlo2 i hi;rw[tY2 i (by lia)] at this;simpa using this
 have hhi2:∀i (hj:i<Y.length),m≤i->f X[X.length - 1]≤f Y[i]:=fun i hj hi=>by have:=hhi2 i hi hj;rw[tY2 i hj] at this;simpa using this
 have m0:0<m:=by
  rcases Nat.eq_zero_or_pos m with h | h
  ·exfalso;have h5:=hhi2 0 lY (by exact pH);have h6:=hhi (X.length - 1) (by exact oO) (by omega);omega
  ·exact h
 dsimp only;rw[Az (show ¬(m==0)=true by simp;exact aim)];have lsz:(arrOf st).size=pre.flatten.length+(X.length+(Y.length+(post.flatten++rest).length)):=by rw[<-AL,ea];simp
 have ex:((arrOf st).extract (pre.flatten.length+k) (pre.flatten.length+X.length)).toList=X.drop k:=by rw[eW,ea,<-C3,C4,Dh (by lia),Co (by simp;lia),AZ (by simp;lia)]
 have ey:((arrOf st).extract (pre.flatten.length+X.length) (pre.flatten.length+X.length+m)).toList=Y.take m:=by rw[eW,ea,<-C3,C4,C4,show pre.flatten.length+X.length+m - (pre.flatten.length+X.length)=m by lia,Co (by lia)]
 have zx:((arrOf st).extract (pre.flatten.length+k) (pre.flatten.length+X.length)).size=X.length - k:=by rw[<-AL,ex];simp
 have zy:((arrOf st).extract (pre.flatten.length+X.length) (pre.flatten.length+X.length+m)).size=m:=by rw[<-AL,ey];simp;lia
 have q1:∀x∈((arrOf st).extract (pre.flatten.length+k) (pre.flatten.length+X.length)).toList,Ok x:=fun x hx=>okX x (CC (by rw[ex] at hx;exact hx));have q2:∀x∈((arrOf st).extract (pre.flatten.length+X.length) (pre.flatten.length+X.length+m)).toList,Ok x:=fun x hx=>okY x (BD (by rw[ey] at hx;exact hx));have q3:((arrOf st).extract (pre.flatten.length+k) (pre.flatten.length+X.length)).toList.Pairwise fun x y=>f x≤f y:=by rw[ex];exact sX.sublist (List.drop_sublist _ _)
 have q4:((arrOf st).extract (pre.flatten.length+X.length) (pre.flatten.length+X.length+m)).toList.Pairwise fun x y=>f x≤f y:=by rw[ey];exact sY.sublist (Dy _ _)
 have q5:0<((arrOf st).extract (pre.flatten.length+k) (pre.flatten.length+X.length)).size:=by lia
 have q6:0<((arrOf st).extract (pre.flatten.length+X.length) (pre.flatten.length+X.length+m)).size:=by omega
 have y0:((arrOf st).extract (pre.flatten.length+X.length) (pre.flatten.length+X.length+m))[0]=Y[0]:=by
  have:((arrOf st).extract (pre.flatten.length+X.length) (pre.flatten.length+X.length+m)).toList[0]'(by rw[ey,AN];lia)=Y[0]:=by simp only[ey];simp
  rw[<-this];simp
 have xl:((arrOf st).extract (pre.flatten.length+k) (pre.flatten.length+X.length))[((arrOf st).extract (pre.flatten.length+k) (pre.flatten.length+X.length)).size - 1]=X[X.length - 1]:=by
  have:((arrOf st).extract (pre.flatten.length+k) (pre.flatten.length+X.length)).toList[((arrOf st).extract (pre.flatten.length+k) (pre.flatten.length+X.length)).size - 1]'(by rw[ex,zx,Bq];lia)=X[X.length - 1]:=by simp only[ex,zx];rw[Cb];congr 1;lia
  rw[<-this];simp
 have q7:∀x∈((arrOf st).extract (pre.flatten.length+k) (pre.flatten.length+X.length)).toList,f ((arrOf st).extract (pre.flatten.length+X.length) (pre.flatten.length+X.length+m))[0]<f x:=fun x hx=>by rw[y0];rw[ex] at hx;obtain⟨i,hi,rfl⟩:=Ba hx;rw[Cb];rw[Bq] at hi;exact hhi _ (by lia) (by exact A5 _ _)
 have q8:∀x∈((arrOf st).extract (pre.flatten.length+X.length) (pre.flatten.length+X.length+m)).toList,f x<f ((arrOf st).extract (pre.flatten.length+k) (pre.flatten.length+X.length))[((arrOf st).extract (pre.flatten.length+k) (pre.flatten.length+X.length)).size - 1]:=fun x hx=>by rw[xl];rw[ey] at hx;obtain⟨i,hi,rfl⟩:=Ba hx;rw[Bu];rw[AN] at hi;exact hlo2 _ (by lia)
 have x8:∀(r:Array Keyed) (g:Nat),vm f (X.drop k) (Y.take m) r.toList->Q (failedOf st).isNone (SortSt.mk' (kindOf st) (r.toList.zipIdx.foldl (fun a x=>a.setIfInBounds (pre.flatten.length+k+x.2) x.1) (arrOf st)) (((pendingOf st).setIfInBounds pre.length (pre.flatten.length,X.length+Y.length,w1)).eraseIdxIfInBounds (pre.length+1)) g (failedOf st)):=by
  rintro r g ⟨hm,hs⟩;have lr:r.toList.length=X.length - k+m:=by rw[hm.length_eq];simp;lia
  have ef:(failedOf st).isNone=true:=by rw[G.failed];rfl
  have pm:(X.take k++(r.toList++Y.drop m)).Perm (X++Y):=by
   have h1:(r.toList++Y.drop m).Perm (X.drop k++Y):=by refine((Bj (Y.drop m)).mpr hm).trans ?_;rw[AD,Be]
   refine((Bv (X.take k)).mpr h1).trans ?_;rw[<-AD,Be]
  have so:(X.take k++(r.toList++Y.drop m)).Pairwise fun x y=>f x≤f y:=by
   refine AU.mpr ⟨sX.sublist (Dy _ _),AU.mpr ⟨hs,sY.sublist (List.drop_sublist _ _),fun x hx y hy=>?_⟩,fun x hx y hy=>?_⟩
   ·obtain⟨j,hj,rfl⟩:=Ba hy;rw[Cb];rw[Bq] at hj;rcases Al.mp (hm.mem_iff.mp hx) with h | h
    ·obtain⟨i,hi,rfl⟩:=Ba h;rw[Cb];rw[Bq] at hi;exact BJ (pS sX (by lia) (by exact oO)) (hhi2 _ (by lia) (by exact A5 _ _))
    ·obtain⟨i,hi,rfl⟩:=Ba h;rw[Bu];rw[AN] at hi;exact pS sY (by lia) (by lia)
   ·obtain⟨i,hi,rfl⟩:=Ba hx;rw[Bu];rw[AN] at hi;have low:∀z∈Y,f (X[i]'(by lia))≤f z:=fun z hz=>by obtain⟨j,hj,rfl⟩:=Ba hz;exact BJ (hlo i (by lia)) (pS sY (Bf _) hj)
    rcases Al.mp hy with h | h
    ·rcases Al.mp (hm.mem_iff.mp h) with h | h
     ·obtain⟨j,hj,rfl⟩:=Ba h;rw[Cb];rw[Bq] at hj;exact pS sX (by lia) (by lia)
     ·exact low y (BD h)
    ·exact low y (CC h)
  have pt:=jJ r.toList (arrOf st) (pre.flatten.length+k) 0 (by rw[lsz,lr,Ac];lia);have et:(arrOf st).toList.take (pre.flatten.length+k+0)++(r.toList++(arrOf st).toList.drop (pre.flatten.length+k+0+r.toList.length))=pre.flatten++((X.take k++(r.toList++Y.drop m))++(post.flatten++rest)):=by
   have h1:(arrOf st).toList.take (pre.flatten.length+k+0)=pre.flatten++X.take k:=by rw[ea,Nat.add_zero,List.take_length_add_append,Co (by lia)]
   have h2:(arrOf st).toList.drop (pre.flatten.length+k+0+r.toList.length)=Y.drop m++(post.flatten++rest):=by rw[ea,lr,show pre.flatten.length+k+0+(X.length - k+m)=pre.flatten.length+(X.length+m) by lia,<-C3,C4,<-C3,C4,Dh (by lia)]
   rw[h1,h2];simp
  rw[ef];exact q _ _ (good _ _ rfl rfl rfl (pt.trans et) pm so) pm
 split
 ·exact Ab (ui O G.kind q1 q2 q3 q4 q5 q6 q7 q8 fun r g h=>Ab (wpS_modify (Ab (wpS_get (Ad (x8 r g (by rw[ex,ey] at h;exact h)))))))
 ·exact Ab (uo O G.kind q1 q2 q3 q4 q5 q6 q7 q8 fun r g h=>Ab (wpS_modify (Ab (wpS_get (Ad (x8 r g (by rw[ex,ey] at h;exact h)))))))
end
theorem ox{arr:Array α}{P R:List α}(h:arr.toList=P++R)(hn:n≤R.length):(mirror arr P.length (P.length+n) ((P.length+n - P.length) / 2)).toList=P++((R.take n).reverse++R.drop n):=by
 have hs:arr.size=P.length+R.length:=by rw[<-AL,h];simp
 refine Dz fun k=>?_;rw[A6,getElem?_mirror_all (by lia)];by_cases c:P.length≤k/\k<P.length+n
 ·rw[AB c,<-A6,h,Au (by omega),Au (by lia),AE (by simp;omega),List.getElem?_reverse (by simp;omega),Dr,AN,AB (by omega)];congr 1;lia
 ·rw[Az c,<-A6,h];by_cases c2:k<P.length
  ·rw[AE c2,AE c2]
  ·rw[Au (by exact yb),Au (by omega),Au (by simp;lia),Ds];congr 1;simp;lia
theorem o9{arr:Array α}{P R:List α}{k l:Nat}(h:arr.toList=P++R)(hk:k<R.length)(hl:l≤k):(bubble arr (P.length+k) (P.length+k - (P.length+l))).toList=P++(R.take l++R[k]::((R.drop l).take (k - l)++R.drop (k+1))):=by
 have hs:arr.size=P.length+R.length:=by rw[<-AL,h];simp
 refine Dz fun i=>?_;rw[A6,getElem?_bubble (by lia) _ (by exact Ec _ _),show P.length+k - (P.length+k - (P.length+l))=P.length+l by omega];by_cases c1:i=P.length+l
 ·rw[AB c1,<-A6,h,c1,Au (by exact A5 _ _),Au (by exact A5 _ _),Au (by simp;lia)];rw[show P.length+l - P.length - (R.take l).length=0 by simp;lia,show P.length+k - P.length=k by lia,List.getElem?_cons_zero];simp[hk]
 ·rw[Az c1];by_cases c2:P.length+l<i/\i≤P.length+k
  ·rw[AB c2,<-A6,h,Au (by omega),Au (by lia),Au (by simp;lia)];obtain⟨d,hd⟩:∃d,i=P.length+l+d+1:=⟨i - P.length - l - 1,by omega⟩;rw[show i - P.length - (R.take l).length=d+1 by simp;lia,CU,AE (by simp;omega),Dr,AB (by omega),Ds];congr 1;omega
  ·rw[Az c2,<-A6,h];by_cases c3:i<P.length
   ·rw[AE c3,AE c3]
   ·rw[Au (by exact yb),Au (by omega)];by_cases c4:i<P.length+l
    ·rw[AE (by simp;lia),Dr,AB (by omega)]
    ·obtain⟨d,hd⟩:∃d,i=P.length+k+d+1:=⟨i - P.length - k - 1,by omega⟩;rw[Au (by simp;lia),show i - P.length - (R.take l).length=(k - l)+d+1 by simp;lia,CU,Au (by simp;omega),Ds];congr 1;simp;lia
section
variable {w:World}{κ:SortKind}{Ok:Keyed->Prop}{f:Keyed->Int}
structure Tl(κ:SortKind)(Ok:Keyed->Prop)(st:SortSt)(P R:List Keyed):Prop where
 kind:kindOf st=κ
 arr:(arrOf st).toList=P++R
 ok:∀x∈R,Ok x
theorem gB(O:u7 prog w A s κ Ok f){st:SortSt}{P R:List Keyed}(T:Tl κ Ok st P R)(hi:i<R.length)(hj:j<R.length){a b:Nat}(ea:a=P.length+i)(eb:b=P.length+j){Q:Option Bool->SortSt->Prop}(q:Q (some (decide (f R[i]<f R[j]))) st):wpS (model prog w) A E s (ltAt' a b) Q st:=by
 have at_:∀i (hi:i<R.length),(arrOf st)[P.length+i]?=some R[i]:=fun i hi=>by rw[<-A6,T.arr,Au (by exact A5 _ _),BX];simp
 subst ea eb;rw[ltAt'_eq];refine Ab (wpS_get ?_);refine Ab (x4 (at_ i hi) (Ab (x4 (at_ j hj) ?_)));exact w_lt O T.kind (T.ok _ (Cm _)) (T.ok _ (Cm _)) q
def Up(f:Keyed->Int)(R:List Keyed)(n:Nat):Prop:=∀i j (_:i≤j) (_:j<R.length),j<n->f (R[i]'(by exact fw))≤f R[j]
theorem Up.snoc{R:List Keyed}(h:Up f R n)(h1:1≤n)(hn:n<R.length)(hs:f (R[n - 1]'(by exact l5))≤f R[n]):Up f R (n+1):=fun i j hij hj hjn=>by
 rcases DP j n with c | c
 ·exact h i j hij hj c
 ·have e:j=n:=by lia
  subst e;rcases DP i j with c2 | c2
  ·exact BJ (h i (j - 1) (by omega) (by exact l5) (by exact oO)) hs
  ·have e:i=j:=by lia
   subst e;exact CW _
theorem Up.pair{R:List Keyed}(h:Up f R n)(hn:n≤R.length):(R.take n).Pairwise fun x y=>f x≤f y:=by rw[B5];intro i j hi hj hij;rw[AN] at hi hj;rw[Bu,Bu];exact h i j (by exact fQ) (by lia) (by lia)
end
section
variable {w:World}{κ:SortKind}{Ok:Keyed->Prop}{f:Keyed->Int}
theorem Tl.same{st:SortSt}{P R R':List Keyed}(T:Tl κ Ok st P R)(p:R'.Perm R){arr:Array Keyed}(h:arr.toList=P++R'):Tl κ Ok (setArr st arr) P R':=⟨T.kind,h,fun x hx=>T.ok x (p.mem_iff.mp hx)⟩
theorem Up.one{R:List Keyed}:Up f R 1:=fun i j hij hj h=>by
 have:i=j:=by lia
 subst this;exact CW _
theorem abi(O:u7 prog w A s κ Ok f){st:SortSt}{P R:List Keyed}(T:Tl κ Ok st P R)(h1:1≤R.length)(inj:∀i j (_:i<j) (_:j<R.length),f (R[i]'(by exact jC))≠f R[j]){Q:Option Nat->SortSt->Prop}
 (q:∀n R' arr,1≤n->n≤R.length->R'.Perm R->arr.toList=P++R'->Up f R' n->Q (some n) (setArr st arr)):wpS (model prog w) A E s (countRun' P.length R.length) Q st:=by
 have hst:setArr st (arrOf st)=st:=rfl;refine Ab (AV (AI (I:=fun x c st'=>st'=st/\c=(none,x)/\Up f R x)
  (Q:=fun c st'=>st'=st/\∃n,c=(none,n)/\1≤n/\n≤R.length/\Up f R n/\(n=R.length\/∃h:n<R.length,f R[n]<f (R[n - 1]'(by exact l5)))) ?_ ?_ ⟨rfl,rfl,Up.one⟩) ?_)
 ·rintro x c st' hx1 hx ⟨rfl,rfl,U⟩;dsimp only;refine Ab (gB O T (i:=x) (j:=x - 1) hx (by exact l5) rfl (by lia) ?_);dsimp only;by_cases c:f R[x]<f (R[x - 1]'(by omega))
  ·rw[AH c,AB rfl];exact Ad ⟨rfl,x,rfl,hx1,by exact fQ,U,.inr ⟨hx,c⟩⟩
  ·rw[Ax c,Az (by simp)];exact Ad ⟨rfl,rfl,U.snoc hx1 hx (by omega)⟩
 ·rintro c st' ⟨rfl,rfl,U⟩;exact⟨rfl,_,rfl,by lia,by lia,by rw[Dd h1] at *;exact U,.inl (by lia)⟩
 ·rintro c st' ⟨rfl,n,rfl,hn1,hn2,U,hend⟩;dsimp only;by_cases c1:(n==R.length)=true
  ·rw[AB c1];exact Ad (q n R (arrOf st') hn1 hn2 (BG _) T.arr U)
  rw[Az c1];have c1:¬n=R.length:=by simpa using c1
  have hnl:n<R.length:=by exact wC
  by_cases c2:n > 1
  ·rw[AB c2];refine Ab (gB O T (i:=0) (j:=n - 1) (by assumption) (by exact l5) rfl (by omega) ?_);have:f R[0]<f (R[n - 1]'(by omega)):=by have h3:=U 0 (n - 1) (by exact Cu _ _) (by omega) (by exact oO);have h4:=inj 0 (n - 1) (by omega) (by exact l5);omega
   dsimp only;rw[AH this,AB rfl];exact Ad (q n R (arrOf st') hn1 hn2 (BG _) T.arr U)
  rw[Az c2];obtain rfl:n=1:=by lia
  refine Ab (wpS_lift (Bw ⟨rfl,?_⟩));have hd:f R[1]<f R[0]:=by
   rcases hend with h | ⟨h,h'⟩
   ·omega
   ·exact h'
  refine Ab (AV (AI (I:=fun x c st''=>st''=st'/\c=(none,x,0)/\∀i j (_:i≤j) (_:j<R.length),j<x->f R[j]≤f (R[i]'(by exact fw)))
   (Q:=fun c st''=>st''=st'/\∃n,c=(none,n,0)/\2≤n/\n≤R.length/\∀i j (_:i≤j) (_:j<R.length),j<n->f R[j]≤f (R[i]'(by omega))) ?_ ?_ ⟨rfl,rfl,?_⟩) ?_)
  ·rintro x c st'' hx1 hx ⟨rfl,rfl,D⟩;dsimp only;refine Ab (gB O T (i:=x) (j:=x - 1) hx (by exact l5) rfl (by lia) ?_);dsimp only;by_cases c:f R[x]<f (R[x - 1]'(by omega))
   ·rw[AH c,AB rfl,Az (by simp)];refine Ad ⟨rfl,rfl,fun i j hij hj hjx=>?_⟩;rcases DP j x with h | h
    ·exact D i j hij hj h
    ·have e:j=x:=by lia
     subst e;rcases DP i j with h2 | h2
     ·exact BJ (BO c) (D i (j - 1) (by omega) (by exact l5) (by omega))
     ·have e:i=j:=by lia
      subst e;exact CW _
   ·rw[Ax c,Az (by simp)];refine Ab (gB O T (i:=x - 1) (j:=x) (by omega) hx (by lia) rfl ?_);have h4:=inj (x - 1) x (by omega) hx;have:f (R[x - 1]'(by omega))<f R[x]:=by lia
    dsimp only;rw[AH this,AB rfl];exact Ad ⟨rfl,x,rfl,by omega,by exact fQ,D⟩
  ·rintro c st'' ⟨rfl,rfl,D⟩;exact⟨rfl,_,rfl,by lia,by lia,D⟩
  ·intro i j hij hj hjx;have:j=0\/j=1:=by lia
   rcases this with rfl | rfl
   ·have:i=0:=by lia
    subst this;exact CW _
   ·have:i=0\/i=1:=by lia
    rcases this with rfl | rfl
    ·exact BO hd
    ·exact CW _
  ·rintro c st'' ⟨rfl,n,rfl,g1,g2,D⟩;dsimp only;rw[Az (by simp)];have T':=T.same (R':=(R.take n).reverse++R.drop n) (((Bj _).mpr (List.reverse_perm _)).trans (by rw[Be])) (ox T.arr g2);obtain⟨R',eR⟩:∃R',R'=(R.take n).reverse++R.drop n:=⟨_,rfl⟩;have pR:R'.Perm R:=by rw[eR];exact((Bj _).mpr (List.reverse_perm _)).trans (by rw[Be])
   have lR:R'.length=R.length:=pR.length_eq;have U':Up f R' n:=fun i j hij hj hjn=>by
    subst eR;rw[DE (by simp;lia),DE (by simp;lia),List.getElem_reverse,List.getElem_reverse,Bu,Bu];refine D _ _ ?_ (by simp;omega) ?_
    ·simp;omega
    ·simp;omega
   rw[<-eR] at T';refine Ab (wpS_modify ?_);refine Ab (AV (AI (I:=fun x c sx=>sx=setArr st'' (mirror (arrOf st'') P.length (P.length+n) ((P.length+n - P.length) / 2))/\c=(none,x)/\Up f R' x)
    (Q:=fun c sx=>sx=setArr st'' (mirror (arrOf st'') P.length (P.length+n) ((P.length+n - P.length) / 2))/\∃n,c=(none,n)/\1≤n/\n≤R.length/\Up f R' n) ?_ ?_ ⟨rfl,rfl,U'⟩) ?_)
   ·rintro x c sx hx1 hx ⟨rfl,rfl,U⟩;dsimp only;refine Ab (gB O T' (i:=x) (j:=x - 1) (by lia) (by omega) rfl (by lia) ?_);dsimp only;by_cases c:f (R'[x]'(by omega))<f (R'[x - 1]'(by omega))
    ·rw[AH c,AB rfl];exact Ad ⟨rfl,x,rfl,by exact ahb,by exact fQ,U⟩
    ·rw[Ax c,Az (by simp)];exact Ad ⟨rfl,rfl,U.snoc (by omega) (by lia) (by omega)⟩
   ·rintro c sx ⟨rfl,rfl,U⟩;exact⟨rfl,_,rfl,by lia,by lia,U⟩
   ·rintro c sx ⟨rfl,n,rfl,k1,k2,U⟩;exact Ad (q n R' _ k1 k2 pR T'.arr U)
end
section
variable {w:World}{κ:SortKind}{Ok:Keyed->Prop}{f:Keyed->Int}
theorem Up.of{R:List Keyed}(h:(R.take n).Pairwise fun x y=>f x≤f y):Up f R n:=fun i j hij hj hjn=>by have:=pS h (i:=i) (j:=j) hij (by simp;lia);rw[Bu,Bu] at this;exact this
theorem zF{R:List Keyed}{k l:Nat}(hk:k<R.length)(hl:l≤k):(R.take l++R[k]::((R.drop l).take (k - l)++R.drop (k+1))).Perm R:=by
 have e:R=R.take l++((R.drop l).take (k - l)++(R[k]::R.drop (k+1))):=by rw[<-AD,adm _ hl,<-BQ hk,Be]
 refine List.Perm.trans ?_ (List.Perm.of_eq e.symm);exact(Bv _).mpr CI.symm
theorem ag1{R:List Keyed}{k l:Nat}(hk:k<R.length)(hl:l≤k)(U:Up f R k)(lo:∀i (_:i<l),f (R[i]'(by lia))≤f R[k])(hi:∀i (_:i<k),l≤i->f R[k]≤f (R[i]'(by exact jC))):
 Up f (R.take l++R[k]::((R.drop l).take (k - l)++R.drop (k+1))) (k+1):=by
 apply Up.of;have e:R.take l++R[k]::((R.drop l).take (k - l)++R.drop (k+1))=(R.take l++R[k]::(R.drop l).take (k - l))++R.drop (k+1):=by simp
 rw[e,List.take_left' (by simp;lia)];have ab:=U.pair (BH hk);rw[<-adm R hl] at ab;have ab:=AU.mp ab;have hB:∀y∈(R.drop l).take (k - l),f R[k]≤f y:=fun y hy=>by obtain⟨j,hj,rfl⟩:=Ba hy;rw[AN,Bq] at hj;rw[Bu,Cb];exact hi (l+j) (by lia) (by exact A5 _ _)
 have hA:∀x∈R.take l,f x≤f R[k]:=fun x hx=>by obtain⟨j,hj,rfl⟩:=Ba hx;rw[AN] at hj;rw[Bu];exact lo j (by lia)
 refine AU.mpr ⟨ab.1,Cq.mpr ⟨hB,ab.2.1⟩,fun x hx y hy=>?_⟩;rcases Av.mp hy with rfl | hy
 ·exact hA x hx
 ·exact ab.2.2 x hx y hy
theorem ajj(O:u7 prog w A s κ Ok f){st:SortSt}{P R:List Keyed}(T:Tl κ Ok st P R){ok:Nat}(hn:n≤R.length)(h1:1≤ok)(ho:ok≤n)(U:Up f R ok){Q:Bool->SortSt->Prop}
 (q:∀R' arr,R'.Perm R->arr.toList=P++R'->Up f R' n->Q true (setArr st arr)):wpS (model prog w) A E s (binarySort' P.length n ok) Q st:=by
 have hst:setArr st (arrOf st)=st:=rfl;refine Ab (AV (AI (I:=fun x c st'=>c=(none,())/\∃R' arr,st'=setArr st arr/\R'.Perm R/\arr.toList=P++R'/\Up f R' x)
  (Q:=fun c st'=>c=(none,())/\∃R' arr,st'=setArr st arr/\R'.Perm R/\arr.toList=P++R'/\Up f R' n) ?_ ?_ ⟨rfl,R,arrOf st,rfl,BG _,T.arr,by rw[Dm h1];exact U⟩) ?_)
 ·rintro x c st' hx1 hx ⟨rfl,R',arr,rfl,pR,eA,U'⟩;have T':=T.same pR eA;have lR:R'.length=R.length:=pR.length_eq;have hxl:x<R'.length:=by lia
  dsimp only;refine Ab (AV (AI (I:=fun y c st'=>st'=setArr st arr/\∃l r,c=(none,l,r)/\l≤r/\r≤x/\r - l+y≤x/\(∀i (_:i<l) (_:i<R'.length),f R'[i]≤f R'[x])/\(∀i (_:i<x),r≤i->f R'[x]≤f (R'[i]'(by exact jC))))
   (Q:=fun c st'=>st'=setArr st arr/\∃l,c=(none,l,l)/\l≤x/\(∀i (_:i<l) (_:i<R'.length),f R'[i]≤f R'[x])/\(∀i (_:i<x),l≤i->f R'[x]≤f (R'[i]'(by lia)))) ?_ ?_ ⟨rfl,0,x,rfl,Bf _,An _,by exact Ec _ _,fun i h=>by lia,fun i h h'=>by omega⟩) ?_)
  ·rintro y c st' _ hy ⟨rfl,l,r,rfl,g1,g2,g3,g4,g5⟩;dsimp only;by_cases c:l≥r
   ·rw[AB c];obtain rfl:l=r:=by lia
    exact Ad ⟨rfl,l,rfl,g2,g4,g5⟩
   ·rw[Az c];refine Ab (gB O T' (i:=x) (j:=(l+r) / 2) hxl (by lia) rfl rfl ?_);dsimp only;by_cases e:f R'[x]<f (R'[(l+r) / 2]'(by lia))
    ·rw[AH e,AB rfl];refine Ad ⟨rfl,l,(l+r) / 2,rfl,by lia,by lia,by omega,g4,fun i h h'=>?_⟩;exact BJ (BO e) (U' _ _ h' (by exact jC) h)
    ·rw[Ax e,Az (by simp)];refine Ad ⟨rfl,(l+r) / 2+1,r,rfl,by lia,g2,by omega,fun i h h'=>?_,g5⟩;exact BJ (U' i ((l+r) / 2) (by exact aix) (by lia) (by lia)) (by omega)
  ·rintro c st' ⟨rfl,l,r,rfl,g1,g2,g3,g4,g5⟩;obtain rfl:l=r:=by lia
   exact⟨rfl,l,rfl,g2,g4,g5⟩
  ·rintro c st' ⟨rfl,l,rfl,g2,g4,g5⟩;dsimp only;refine Ab (wpS_modify ?_);exact Ad ⟨rfl,_,_,rfl,(zF hxl g2).trans pR,o9 eA hxl g2,ag1 hxl g2 U' (fun i h=>g4 i h (by lia)) g5⟩
 ·rintro c st' ⟨rfl,R',arr,rfl,pR,eA,U'⟩;exact⟨rfl,R',arr,rfl,pR,eA,by rw[Dm h1,Dd ho] at U';exact U'⟩
 ·rintro c st' ⟨rfl,R',arr,rfl,pR,eA,U'⟩;exact Ad (q R' arr pR eA U')
end
section
variable {w:World}{κ:SortKind}{Ok:Keyed->Prop}{f:Keyed->Int}
theorem az.len:∀{ps:List (Nat×Nat×Nat)} {j6:List (List Keyed)} {s:Nat},az f ps j6 s->ps.length=j6.length/\j6.length≤j6.flatten.length
 |[],[],_,_=>⟨rfl,An _⟩
 |_::_,[],_,h=>h.elim
 |[],_::_,_,h=>h.elim
 |(_,_,_)::ps,l::ls,s,h=>by obtain⟨_,_,h3,_,k⟩:=h;have:=az.len k;rw[AK,AK,CA,Ac];lia
theorem az.repow{w:Nat}:∀{ps:List (Nat×Nat×Nat)} {j6:List (List Keyed)} {s:Nat} (i:Nat),az f ps j6 s->az f (ps.modify i fun p=>(p.1,p.2.1,w)) j6 s
 |[],[],_,i,_=>by simp[az]
 |_::_,[],_,_,h=>h.elim
 |[],_::_,_,_,h=>h.elim
 |(_,_,_)::ps,l::ls,s,0,h=>h
 |(_,_,_)::ps,l::ls,s,i+1,h=>by obtain⟨h1,h2,h3,h4,k⟩:=h;exact⟨h1,h2,h3,h4,az.repow i k⟩
theorem az.snoc{l:List Keyed}(hl:0<l.length)(hs:l.Pairwise fun x y=>f x≤f y):∀{ps:List (Nat×Nat×Nat)} {j6:List (List Keyed)} {s:Nat},az f ps j6 s->∀{m:Nat},m=s+j6.flatten.length->az f (ps++[(m,l.length,0)]) (j6++[l]) s
 |[],[],_,_,m,e=>⟨by simpa using e,rfl,hl,hs,trivial⟩
 |_::_,[],_,h,_,_=>h.elim
 |[],_::_,_,h,_,_=>h.elim
 |(_,_,_)::ps,l'::ls,s,h,m,e=>by obtain⟨h1,h2,h3,h4,k⟩:=h;exact⟨h1,h2,h3,h4,az.snoc hl hs k (by rw[e];simp;simp +arith only)⟩
theorem afa{l:List α}(h:i+1<l.length):l=l.take i++l[i]::l[i+1]::l.drop (i+2):=by rw[<-BQ h,<-BQ (by omega),Be]
theorem qZ(O:u7 prog w A s κ Ok f){st:SortSt}{j6:List (List Keyed)}{rest:List Keyed}{Q:Bool->SortSt->Prop}(G:a7 κ Ok f st j6 rest)(hi:i+1<j6.length)
 (q:∀st' segs',a7 κ Ok f st' segs' rest->segs'.flatten.Perm j6.flatten->segs'.length+1=j6.length->Q true st'):wpS (model prog w) A E s (mergeAt' i) Q st:=by
 have e:=afa hi;have li:(j6.take i).length=i:=by simp;lia
 rw[e] at G;have pf:∀C:List Keyed,C.Perm (j6[i]++j6[i+1])->(j6.take i++C::j6.drop (i+2)).flatten.Perm j6.flatten:=fun C pC=>by have e2:j6.flatten=(j6.take i++j6[i]::j6[i+1]::j6.drop (i+2)).flatten:=BR List.flatten e;rw[e2,CM,CM,CA,CA,CA];refine(Bv _).mpr ?_;rw[<-AD];exact(Bj _).mpr pC
 have:=wW O (E:=E) (Q:=Q) G fun st' C G' pC=>q st' _ G' (pf C pC) (by simp;lia);rw[li] at this;exact this
theorem a7.push{st:SortSt}{j6:List (List Keyed)}{rest:List Keyed}(G:a7 κ Ok f st j6 rest)(hn:n≤rest.length)(h1:1≤n)(U:Up f rest n):a7 κ Ok f (setPending st ((pendingOf st).push (j6.flatten.length,n,0))) (j6++[rest.take n]) (rest.drop n):=by
 refine⟨G.kind,G.failed,?_,?_,G.ok⟩
 ·have:=G.arr;show(arrOf st).toList=_;rw[this,CM,AD];simp
 ·show az f ((pendingOf st).push _).toList _ 0;rw[Cz];have:=az.snoc (l:=rest.take n) (by simp;lia) (U.pair hn) G.pend (m:=j6.flatten.length) (by simp +arith only);rw[show(rest.take n).length=n by simp;lia] at this;exact this
theorem a7.repow{st:SortSt}{j6:List (List Keyed)}{rest:List Keyed}{w:Nat}(G:a7 κ Ok f st j6 rest):a7 κ Ok f (setPending st ((pendingOf st).modify i fun p=>(p.1,p.2.1,w))) j6 rest:=by refine⟨G.kind,G.failed,G.arr,?_,G.ok⟩;show az f ((pendingOf st).modify i fun p=>(p.1,p.2.1,w)).toList _ 0;rw[Array.toList_modify];exact G.pend.repow i
theorem a7.set{st:SortSt}{j6:List (List Keyed)}{rest R:List Keyed}{arr:Array Keyed}(G:a7 κ Ok f st j6 rest)(p:R.Perm rest)(e:arr.toList=j6.flatten++R):a7 κ Ok f (setArr st arr) j6 R:=
 ⟨G.kind,G.failed,e,G.pend,fun x hx=>G.ok x (by
  have hx:x∈arr.toList:=hx;rw[e] at hx;rw[G.arr];rcases Al.mp hx with h | h
  ·exact Ar _ h
  ·exact Af _ (p.mem_iff.mp h))⟩
theorem sj(O:u7 prog w A s κ Ok f){st:SortSt}{Q:Unit->SortSt->Prop}(hk:kindOf st=κ)(hp:pendingOf st=#[])(hf:failedOf st=none)(ok:∀x∈(arrOf st).toList,Ok x)(inj:((arrOf st).toList.map f).Nodup)
 (q:∀st',failedOf st'=none->(arrOf st').toList.Perm (arrOf st).toList->((arrOf st').toList.Pairwise fun x y=>f x≤f y)->Q () st'):wpS (model prog w) A E s sortRuns' Q st:=by
 refine Ab (wpS_get ?_);dsimp only;have G0:a7 κ Ok f st [] (arrOf st).toList:=⟨hk,hf,rfl,by rw[hp];trivial,ok⟩;obtain⟨N,eN⟩:∃N,N=(arrOf st).size:=⟨_,rfl⟩;rw[<-eN];generalize hmr:(sortPriv% PySem.Builtin.minRun) N N 0=mr;refine Ab (AV (AI (I:=fun x c st'=>∃j6 rest lo,c=(none,lo)/\a7 κ Ok f st' j6 rest/\lo=j6.flatten.length/\(j6.flatten++rest).Perm (arrOf st).toList/\x≤lo)
  (Q:=fun c st'=>∃j6 lo,c=(none,lo)/\a7 κ Ok f st' j6 []/\j6.flatten.Perm (arrOf st).toList) ?_ ?_ ⟨[],(arrOf st).toList,0,rfl,G0,rfl,BG _,An _⟩) ?_)
 ·rintro x c st' _ hx ⟨j6,rest,lo,rfl,G,elo,pm,hxl⟩;dsimp only;have lt:j6.flatten.length+rest.length=N:=by have h1:=pm.length_eq;have h2:(arrOf st).toList.length=(arrOf st).size:=AL;rw[Ac] at h1;lia
  by_cases c:lo≥N
  ·rw[AB c];have:rest=[]:=Di (by lia);subst this;exact Ad ⟨j6,lo,rfl,G,by simpa using pm⟩
  rw[Az c];subst elo;have er:N - j6.flatten.length=rest.length:=by lia
  rw[er];have T:Tl κ Ok st' j6.flatten rest:=⟨G.kind,G.arr,fun x hx=>G.ok x (by rw[G.arr];exact Af _ hx)⟩;have nd:(rest.map f).Nodup:=by have h2:=(pm.map f).nodup_iff.mpr inj;rw[AG,Ao] at h2;exact h2.2.1
  have inj':∀i j (_:i<j) (_:j<rest.length),f (rest[i]'(by exact jC))≠f rest[j]:=fun i j hij hj e=>by have h2:=B5.mp nd i j (by simp;exact jC) (by simpa using hj) hij;simp at h2;exact h2 e
  refine Ab (abi O T (by lia) inj' fun n R1 arr1 g1 g2 pR1 eA1 U1=>?_);dsimp only;have T1:=T.same pR1 eA1;have G1:=G.set pR1 eA1;have l1:R1.length=rest.length:=pR1.length_eq;by_cases cm:n<mr
  case' pos=>
   rw[AB cm];refine Ab (wpS_lift (Bw ⟨rfl,?_⟩));refine Ab (ajj O T1 (by lia) g1 (by lia) U1 fun R2 arr2 pR2 eA2 U2=>?_);rw[Az (by simp)];have G2:=G1.set pR2 eA2;obtain⟨n2,en2⟩:∃n2,n2=min rest.length mr:=⟨_,rfl⟩;rw[<-en2] at U2 ⊢;have p2:R2.Perm rest:=pR2.trans pR1;have k1:1≤n2:=by lia
   have k2:n2≤rest.length:=by lia
   obtain⟨st2,es2⟩:∃st2,st2=setArr (setArr st' arr1) arr2:=⟨_,rfl⟩;rw[<-es2] at G2 ⊢
  case' neg=>
   rw[Az cm];have G2:=G1;obtain⟨n2,en2⟩:∃n2,n2=n:=⟨_,rfl⟩;obtain⟨R2,eR2⟩:∃R2,R2=R1:=⟨_,rfl⟩;rw[<-en2] at U1 ⊢;rw[<-eR2] at G2;have U2:Up f R2 n2:=by rw[eR2];exact U1
   have p2:R2.Perm rest:=by rw[eR2];exact pR1
   have k1:1≤n2:=by lia
   have k2:n2≤rest.length:=by lia
   obtain⟨st2,es2⟩:∃st2,st2=setArr st' arr1:=⟨_,rfl⟩;rw[<-es2] at G2 ⊢
  all_goals
   have l2:R2.length=rest.length:=p2.length_eq;have x8:∀(st3:SortSt) (segs3:List (List Keyed)),a7 κ Ok f st3 segs3 R2->segs3.flatten.Perm j6.flatten->∃segs' rest' lo',((none,j6.flatten.length+n2):Option Unit×Nat)=(none,lo')/\a7 κ Ok f (setPending st3 ((pendingOf st3).push (j6.flatten.length,n2,0))) segs' rest'/\lo'=segs'.flatten.length/\(segs'.flatten++rest').Perm (arrOf st).toList/\x+1≤lo':=fun st3 segs3 G3 p3=>by
    have G4:=G3.push (by lia) k1 U2;rw[p3.length_eq] at G4;refine⟨_,_,_,rfl,G4,?_,?_,by exact amz⟩
    ·rw[CM,Ac,p3.length_eq];simp;lia
    ·have:(segs3++[R2.take n2]).flatten++R2.drop n2=segs3.flatten++R2:=by simp
     rw[this];exact((Bj R2).mpr p3).trans (((Bv _).mpr p2).trans pm)
   refine Ab (wpS_get ?_);split
   ·refine Ab (AV (AI (I:=fun y c st3=>c=(none,())/\∃segs3,a7 κ Ok f st3 segs3 R2/\segs3.flatten.Perm j6.flatten)
     (Q:=fun c st3=>c=(none,())/\∃segs3,a7 κ Ok f st3 segs3 R2/\segs3.flatten.Perm j6.flatten) ?_ ?_ ⟨rfl,j6,G2,BG _⟩) ?_)
    ·rintro y c st3 _ hy ⟨rfl,segs3,G3,p3⟩;have pl:=G3.pend.len.1;have pl2:(pendingOf st3).size=segs3.length:=by rw[<-pl,AL]
     refine Ab (wpS_get ?_);by_cases cs:(pendingOf st3).size > 1
     ·rw[AB cs];split
      ·split
       ·exact Ad ⟨rfl,segs3,G3,p3⟩
       ·refine Ab (qZ O G3 (by show(pendingOf st3).size - 2+1<segs3.length;lia) fun st4 segs4 G4 p4 l4=>?_);rw[Az (by simp)];exact Ad ⟨rfl,segs4,G4,p4.trans p3⟩
      ·exact Ad ⟨rfl,segs3,G3,p3⟩
     ·rw[Az cs];exact Ad ⟨rfl,segs3,G3,p3⟩
    ·rintro c st3 h;exact h
    ·rintro c st3 ⟨rfl,segs3,G3,p3⟩;dsimp only;refine Ab (wpS_modify (Ab (wpS_modify (Ad ?_))));exact x8 _ segs3 G3.repow p3
   ·exact Ab (wpS_modify (Ad (x8 st2 j6 G2 (BG _))))
 ·rintro c st' ⟨j6,rest,lo,rfl,G,elo,pm,hxl⟩;have lt:j6.flatten.length+rest.length=N:=by have h1:=pm.length_eq;have h2:(arrOf st).toList.length=(arrOf st).size:=AL;rw[Ac] at h1;lia
  have:rest=[]:=Di (by lia);subst this;exact⟨j6,lo,rfl,G,by simpa using pm⟩
 ·rintro c st' ⟨j6,lo,rfl,G,pm⟩;dsimp only;have ls:j6.length≤N:=by have h1:=G.pend.len.2;have h3:=pm.length_eq;have h2:(arrOf st).toList.length=(arrOf st).size:=AL;lia
  refine Ab (AV (AI (I:=fun y c st3=>c=(none,())/\∃segs3,a7 κ Ok f st3 segs3 []/\segs3.flatten.Perm (arrOf st).toList/\segs3.length+y≤N)
   (Q:=fun c st3=>c=(none,())/\∃segs3,a7 κ Ok f st3 segs3 []/\segs3.flatten.Perm (arrOf st).toList/\segs3.length≤1) ?_ ?_ ⟨rfl,j6,G,pm,by omega⟩) ?_)
  ·rintro y c st3 _ hy ⟨rfl,segs3,G3,p3,h3⟩;have pl:=G3.pend.len.1;have pl2:(pendingOf st3).size=segs3.length:=by rw[<-pl,AL]
   refine Ab (wpS_get ?_);by_cases cs:(pendingOf st3).size≤1
   ·rw[AB cs];exact Ad ⟨rfl,segs3,G3,p3,by lia⟩
   ·rw[Az cs];refine Ab (qZ O G3 ?_ fun st4 segs4 G4 p4 l4=>?_)
    ·have gen:∀b:Bool,(if b=true then(pendingOf st3).size - 2 - 1 else(pendingOf st3).size - 2)+1<segs3.length:=fun b=>by cases b with|true=>rw[AB rfl];omega|false=>rw[Az (by simp)];lia
     exact gen _
    ·rw[Az (by simp)];exact Ad ⟨rfl,segs4,G4,p4.trans p3,by lia⟩
  ·rintro c st3 ⟨rfl,segs3,G3,p3,h3⟩;exact⟨rfl,segs3,G3,p3,by lia⟩
  ·rintro c st3 ⟨rfl,segs3,G3,p3,h3⟩;refine Ad (q st3 G3.failed ?_ ?_)
   ·rw[G3.arr,AQ];exact p3
   ·rw[G3.arr,AQ]
    match segs3,h3,G3.pend with
    |[],_,_=>simp
    |[l],_,h=>
     rw[CA,List.flatten_nil,AQ];cases hps:(pendingOf st3).toList with
     |nil=>rw[hps] at h;exact h.elim
     |cons p ps=>
      rw[hps] at h;obtain⟨p1,p2,p3⟩:=p;exact h.2.2.2.1
end
open PySem PyProof.Rows PySem.W
def ake(h:Heap)(B:Int)(x:Keyed):Prop:=∃a o n r p t u,x.1=.ref a/\h.get? a=some o/\o.data=.seq #[.int r t,.int p u] n/\0≤p/\p<B
noncomputable def num(h:Heap)(B:Int)(x:Keyed):Int:=match x.1 with
 |.ref a=>match h.get? a with
  |some o=>match o.data with
   |.seq xs _=>match xs.toList with
    |[.int r _,.int p _]=>r*B+p
    |_=>0
   |_=>0
  |none=>0
 |_=>0
theorem num_of{x:Keyed}{a:Addr}{o:Obj}{r p:Int}{t u:Tok}(e1:x.1=.ref a)(e2:h.get? a=some o)(e3:o.data=.seq #[.int r t,.int p u] n):num h B x=r*B+p:=by unfold num;simp[e1,e2,e3]
theorem qL{w:World} :u7 prog w A s (tuples' true) (ake s.heap B) (num s.heap B):=by
 constructor;rintro x y ⟨a1,o1,n1,r1,p1,t1,u1,e1,g1,d1,b1,c1⟩ ⟨a2,o2,n2,r2,p2,t2,u2,e2,g2,d2,b2,c2⟩ E Q h;rw[num_of e1 g1 d1,num_of e2 g2 d2] at h;rw[e1,e2];refine kat_lt g1 d1 g2 d2 ?_;show KatLex prog w A true _ Q [(.int r1 t1,.int r2 t2),(.int p1 u1,.int p2 u2)] 0 s;refine kat_cons (wpAny_eqBool_int ?_);by_cases c:r1=r2
 ·subst c;rw[beq_self_eq_true];refine kat_yes (kat_cons (wpAny_eqBool_int ?_));by_cases c':p1=p2
  ·subst c';rw[beq_self_eq_true];refine kat_yes (kat_nil ?_);have e:decide (r1*B+p1<r1*B+p1)=false:=Ax (by lia);rw[e] at h;exact h
  ·rw[DS c'];refine kat_no (kat_one _ _ (PyProof.Rows.lt_int ?_));have e:decide (r1*B+p1<r1*B+p2)=decide (p1<p2):=by
    by_cases z:p1<p2
    ·rw[AH z];exact AH (by lia)
    ·rw[Ax z];exact Ax (by lia)
   rw[e] at h;exact h
 ·rw[DS c];refine kat_no (oneLt_int ?_);have e:decide (r1*B+p1<r2*B+p2)=decide (r1<r2):=by
   by_cases z:r1<r2
   ·rw[AH z];have h5:(r1+1)*B≤r2*B:=Cn (by assumption) (by lia);rw[Int.add_mul,Int.one_mul] at h5;exact AH (by omega)
   ·rw[Ax z];have h5:(r2+1)*B≤r1*B:=Cn (by lia) (by lia);rw[Int.add_mul,Int.one_mul] at h5;exact Ax (by lia)
  rw[e] at h;exact h
section
variable {w:World} 
def dE(h:Heap)(B:Int)(v:Value):Prop:=∃a o n r p t u,v=.ref a/\h.get? a=some o/\o.cls=.type "tuple" /\ o.data=.seq #[.int r t,.int p u] n/\0≤p/\p<B
theorem dE.pair{x:Keyed}(k:dE h B x.1):ake h B x:=by obtain⟨a,o,n,r,p,t,u,e1,e2,_,e3,e4,e5⟩:=k;exact⟨a,o,n,r,p,t,u,e1,e2,e3,e4,e5⟩
theorem tups{h:Heap}{B:Int}:∀{ks:List Value},(∀v∈ks,dE h B v)->∃fs,KatTups h ks fs/\fs.length=ks.length/\∀v∈fs,∃r t,v=Value.int r t
 |[],_=>⟨[],trivial,rfl,fun v hv=>by simp at hv⟩
 |k::ks,hk=>by
  obtain⟨fs,h1,h2,h3⟩:=tups (ks:=ks) fun v hv=>hk v (Ag _ hv);obtain⟨a,o,n,r,p,t,u,rfl,e2,e3,e4,_,_⟩:=hk k (Ap ..);refine⟨.int r t::fs,KatTups.cons e2 e3 e4 rfl h1,by simp[h2],fun v hv=>?_⟩;rcases Av.mp hv with rfl | hv
  ·exact⟨r,t,rfl⟩
  ·exact h3 v hv
theorem yE{ks:List Value}{Q:SortKind->Shared->Prop}(hk:∀v∈ks,dE s.heap B v)(h0:0<ks.length)(q:Q (tuples' true) s):wpAny (model prog w) A (keyKind' ks.toArray) Q E s:=by
 obtain⟨fs,h1,h2,h3⟩:=tups hk;refine kat_kind (T:=.type "int") h1 (by lia) (fun v hv=>?_) (by decide) ?_
 ·obtain⟨r,t,rfl⟩:=h3 v hv;exact .now
 ·exact q
theorem kJ{R:α->α->Prop}:∀{l:List α},l.length<2->l.Pairwise R
 |[],_=>List.Pairwise.nil
 |[_],_=>List.pairwise_singleton _ _
 |_::_::_,h=>absurd h (by simp)
theorem ajp{a kS:Addr}{ks:List Value}{e e1:Nat}{P:PySem.Fin->Shared->Prop}(hkS:s.heap.get? kS=some (seqObj "list" ks.toArray e))(ha:s.heap.get? a=some (seqObj "list" #[] e1))(hka:kS≠a)(hl:ks.length=vs.length)(hz:vs.length≤sizeLine)
 (hk:∀v∈ks,dE s.heap B v) (inj:((ks.zip vs).map (num s.heap B)).Nodup)
 (h:∀h' tk (xs:List Keyed) c,(∀b,b≠kS->b≠a->h'.get? b=s.heap.get? b)->h'.get? a=some (seqObj "list" (List.toArray (xs.map (·.2))) c)->xs.Perm (ks.zip vs)->(xs.Pairwise fun x y=>num s.heap B x≤num s.heap B y)->P (.done (.ret .none)) { s with heap:=h',toks:=tk }):
 wpAny (model prog w) A (ksk_end a false vs.toArray e1 (.ref kS) ks.toArray) P E s:=by
 have zl:(ks.toArray.zip vs.toArray).toList=ks.zip vs:=by simp
 have tail:∀st:SortSt,failedOf st=none->(arrOf st).toList.Perm (ks.zip vs)->((arrOf st).toList.Pairwise fun x y=>num s.heap B x≤num s.heap B y)->wpAny (model prog w) A (ksk_tail a false e1 (.ref kS) st) P E s:=by
  intro st hf hp hs;have s1:=Heap.SameBut.update s.heap kS (Obj.mapSeq fun _=>(#[]:Array Value));have na1:(s.heap.update kS (Obj.mapSeq fun _=>(#[]:Array Value))).get? a=some (seqObj "list" #[] e1):=(s1.2 a hka.symm).trans ha;have s2:=Heap.SameBut.update (s.heap.update kS (Obj.mapSeq fun _=>(#[]:Array Value))) a (Obj.mapSeq fun _=>(arrOf st).map (·.2));have len:((arrOf st).map (·.2)).size≤sizeLine:=by have:=hp.length_eq;rw[B8,AL] at this;rw[DY];lia
  unfold ksk_tail
  try dsimp only
  refine Aa (listUpdate_at hkS rfl ?_ (by rw[Am];lia) (Bf _));refine Aa (wpAny_letGo ?_);refine Aa (seqEpoch_at na1 rfl ?_);refine Aa (listUpdate_at na1 rfl ?_ (Bf _) (by simp only[BK,if_false];exact Ca len));rw[hf];simp only[bne_self_eq_false,BK,if_false];obtain⟨c2,hc2⟩:∃c2,((s.heap.update kS (Obj.mapSeq fun _=>(#[]:Array Value))).update a (Obj.mapSeq fun _=>(arrOf st).map (·.2))).get? a=some (seqObj "list" ((arrOf st).map (·.2)) c2):=⟨_,get?_update_seq na1 fun _=>(arrOf st).map (·.2)⟩;refine Ah (h _ _ (arrOf st).toList c2 (fun b hb1 hb2=>?_) ?_ hp hs)
  ·exact(s2.2 b hb2).trans (s1.2 b hb1)
  ·have em:(arrOf st).map (·.2)=List.toArray ((arrOf st).toList.map (·.2)):=by apply DJ.mp;rw[DK]
   rw[em] at hc2 ⊢;exact hc2
 unfold ksk_end;simp only[BK,if_false];by_cases h2:vs.toArray.size<2
 ·rw[AB h2,AB h2];refine Aa (Ah ?_);rw[StateT.run_pure];refine Aa (Ah ?_);refine tail _ rfl (by show(ks.toArray.zip vs.toArray).toList.Perm _;rw[zl]) ?_;show(ks.toArray.zip vs.toArray).toList.Pairwise _;rw[zl];rw[Am] at h2;have:(ks.zip vs).length<2:=by rw[B8];lia
  exact kJ this
 ·rw[Az h2,Az h2];rw[Am] at h2;refine Aa (yE hk (by omega) ?_);refine Aa (AY (sj (E:=E) (qL (B:=B)) (st:=SortSt.mk' (tuples' true) (ks.toArray.zip vs.toArray) #[] 7 none)
   (Q:=fun _ st'=>failedOf st'=none/\(arrOf st').toList.Perm (ks.zip vs)/\((arrOf st').toList.Pairwise fun x y=>num s.heap B x≤num s.heap B y)) rfl rfl rfl (fun x hx=>?_) ?_ fun st' b1 b2 b3=>⟨b1,?_,b3⟩) ?_ fun _ _ e=>e)
  ·have hx:x∈(ks.toArray.zip vs.toArray).toList:=hx;rw[zl] at hx;exact dE.pair (hk _ (Dl (a:=x.1) (b:=x.2) hx).1)
  ·show((ks.toArray.zip vs.toArray).toList.map _).Nodup;rw[zl];exact inj
  ·have b2:(arrOf st').toList.Perm (ks.toArray.zip vs.toArray).toList:=b2;rw[zl] at b2;exact b2
  ·rintro⟨⟨⟩,st'⟩ s' ⟨rfl,b1,b2,b3⟩;exact tail st' b1 b2 b3
end
section
variable {w:World} 
theorem dE.ne{v:Value}{a b:Addr}{xs:Array Value}(k:dE h B v)(e:v=.ref a)(hb:h.get? b=some (seqObj "list" xs n)):a≠b:=by
 obtain⟨a',o,m,r,p,t,u,e1,e2,e3,_⟩:=k;rw[e] at e1;cases e1;rintro rfl;rw[hb] at e2;cases e2;have e3:Value.type "list" = Value.type "tuple" := e3;injection e3 with e
 exact absurd e (by decide)
theorem dE.keeps{v:Value}{b:Addr}{xs:Array Value}(k:dE h B v)(hb:h.get? b=some (seqObj "list" xs n))(hk:∀c o,c≠b->h.get? c=some o->h'.get? c=some o):dE h' B v:=by have k0:=k;obtain⟨a,o,m,r,p,t,u,e1,e2,e3,e4,e5,e6⟩:=k;exact⟨a,o,m,r,p,t,u,e1,hk a o (k0.ne e1 hb) e2,e3,e4,e5,e6⟩
theorem u5{x:Keyed}{b:Addr}{xs:Array Value}(k:dE h B x.1)(hb:h.get? b=some (seqObj "list" xs n))(hk:∀c o,c≠b->h.get? c=some o->h'.get? c=some o):num h' B x=num h B x:=by have k0:=k;obtain⟨a,o,m,r,p,t,u,e1,e2,e3,e4,e5,e6⟩:=k;rw[num_of e1 e2 e4,num_of e1 (hk a o (k0.ne e1 hb) e2) e4]
theorem mem_self_zip{x:Keyed}(h:x∈vs.zip vs):x.1∈vs/\x.1=x.2:=by
 induction vs with
 |nil=>simp at h
 |cons v r ih=>
  rw[Dt] at h;rcases Av.mp h with rfl | h
  ·exact⟨Ap ..,rfl⟩
  ·exact⟨Ag _ (ih h).1,(ih h).2⟩
theorem ad1{a:Addr}{P:PySem.Fin->Shared->Prop}(ho:s.heap.get? a=some (seqObj "list" vs.toArray n))(hz:vs.length≤100000)(hk:∀v∈vs,dE s.heap B v)(inj:((vs.zip vs).map (num s.heap B)).Nodup)
 (h:∀h' tk (xs:List Keyed) c,(∀b o,b≠a->s.heap.get? b=some o->h'.get? b=some o)->h'.get? a=some (seqObj "list" (List.toArray (xs.map (·.2))) c)->xs.Perm (vs.zip vs)->(xs.Pairwise fun x y=>num s.heap B x≤num s.heap B y)->P (.done (.ret .none)) { s with heap:=h',toks:=tk }):
 wpAny (model prog w) A (Builtin.«list.sort» ⟨[.ref a],[]⟩) P E s:=by
 have big:(100000:Nat)+1≤sizeLine:=by rw[sizeLine_eq];exact Cu _ _
 have zl:(vs.toArray.zip vs.toArray).toList=vs.zip vs:=by simp
 have s1:=Heap.SameBut.update s.heap a (Obj.mapSeq fun _=>(#[]:Array Value));obtain⟨e1,ho1⟩:∃e1,(s.heap.update a (Obj.mapSeq fun _=>(#[]:Array Value))).get? a=some (seqObj "list" #[] e1):=⟨_,get?_update_seq ho fun _=>#[]⟩;obtain⟨hp3,ehp3⟩:∃g,g=((s.heap.update a (Obj.mapSeq fun _=>(#[]:Array Value))).push (seqObj "tuple" vs.toArray 0)).push (seqObj "list" #[] 0):=⟨_,rfl⟩;have k3:∀b o,b≠a->s.heap.get? b=some o->hp3.get? b=some o:=fun b o hb e=>by rw[ehp3];exact Heap.get?_push_of_some _ (Heap.get?_push_of_some _ ((s1.2 b hb).trans e))
 have ha3:hp3.get? a=some (seqObj "list" #[] e1):=by rw[ehp3];exact Heap.get?_push_of_some _ (Heap.get?_push_of_some _ ho1)
 have hk3:∀v∈vs,dE hp3 B v:=fun v hv=>(hk v hv).keeps ho k3;have nk:∀x∈vs.zip vs,num hp3 B x=num s.heap B x:=fun x hx=>u5 (hk _ (mem_self_zip hx).1) ho k3;have inj3:((vs.zip vs).map (num hp3 B)).Nodup:=by rw[Cg nk];exact inj
 have tail:∀st:SortSt,failedOf st=none->(arrOf st).toList.Perm (vs.zip vs)->((arrOf st).toList.Pairwise fun x y=>num hp3 B x≤num hp3 B y)->
  ∀tk,P (.done (.ret .none)) { s with heap:=hp3.update a (Obj.mapSeq fun _=>(arrOf st).map (·.2)),toks:=tk }:=by
  intro st hf hp hs tk;have s2:=Heap.SameBut.update hp3 a (Obj.mapSeq fun _=>(arrOf st).map (·.2));obtain⟨c2,hc2⟩:∃c2,(hp3.update a (Obj.mapSeq fun _=>(arrOf st).map (·.2))).get? a=some (seqObj "list" ((arrOf st).map (·.2)) c2):=⟨_,get?_update_seq ha3 fun _=>(arrOf st).map (·.2)⟩;have em:(arrOf st).map (·.2)=List.toArray ((arrOf st).toList.map (·.2)):=by apply DJ.mp;rw[DK]
  refine h _ tk (arrOf st).toList c2 (fun b o hb e=>(s2.2 b hb).trans (k3 b o hb e)) ?_ hp ?_
  ·rw[em] at hc2 ⊢;exact hc2
  ·refine Ce (fun {x y} hx hy z=>?_) hs;rw[nk x (hp.mem_iff.mp hx),nk y (hp.mem_iff.mp hy)] at z;exact z
 have len:∀st:SortSt,(arrOf st).toList.Perm (vs.zip vs)->((arrOf st).map (·.2)).size≤sizeLine+1:=fun st hp=>by have:=hp.length_eq;rw[B8,AL] at this;rw[DY];lia
 rw[list_sort_plain];refine Aa (listItems_at ho rfl ?_);refine Aa (listUpdate_at ho rfl ?_ (by rw[Am];exact sP) (Bf _));refine Aa (seqEpoch_at ho1 rfl ?_);refine Aa (wpAny_newTuple ?_ (by show vs.length≤_;lia));refine Aa (wpAny_newList ?_ (Bf _));refine A8 ?_;show wpAny (model prog w) A _ P E { s with heap:=((s.heap.update a (Obj.mapSeq fun _=>(#[]:Array Value))).push (seqObj "tuple" vs.toArray 0)).push (seqObj "list" #[] 0) };rw[<-ehp3];dsimp only;by_cases h2:vs.toArray.size<2
 ·rw[AB h2,AB h2];refine Aa (Ah ?_);rw[StateT.run_pure];refine Aa (Ah ?_);dsimp only;refine Aa (seqEpoch_at ha3 rfl ?_);have pz:(arrOf (SortSt.mk' (tuples' true) (vs.toArray.zip vs.toArray) #[] 7 none)).toList.Perm (vs.zip vs):=by show(vs.toArray.zip vs.toArray).toList.Perm _;rw[zl]
  refine Aa (listUpdate_at ha3 rfl ?_ (Bf _) (len _ pz));simp only[bne_self_eq_false,BK,if_false];refine Ah (tail (SortSt.mk' (tuples' true) (vs.toArray.zip vs.toArray) #[] 7 none) rfl pz ?_ _);show(vs.toArray.zip vs.toArray).toList.Pairwise _;rw[zl];rw[Am] at h2;have:(vs.zip vs).length<2:=by rw[B8];lia
  exact kJ this
 ·rw[Az h2,Az h2];rw[Am] at h2;refine Aa (yE (s:={ s with heap:=hp3 }) hk3 (by lia) ?_);refine Aa (AY (sj (E:=E) (qL (s:={ s with heap:=hp3 }) (B:=B)) (st:=SortSt.mk' (tuples' true) (vs.toArray.zip vs.toArray) #[] 7 none)
   (Q:=fun _ st'=>failedOf st'=none/\(arrOf st').toList.Perm (vs.zip vs)/\((arrOf st').toList.Pairwise fun x y=>num hp3 B x≤num hp3 B y)) rfl rfl rfl (fun x hx=>?_) ?_ fun st' b1 b2 b3=>⟨b1,?_,b3⟩) ?_ fun _ _ e=>e)
  ·have hx:x∈(vs.toArray.zip vs.toArray).toList:=hx;rw[zl] at hx;exact dE.pair (hk3 _ (mem_self_zip hx).1)
  ·show((vs.toArray.zip vs.toArray).toList.map _).Nodup;rw[zl];exact inj3
  ·have b2:(arrOf st').toList.Perm (vs.toArray.zip vs.toArray).toList:=b2;rw[zl] at b2;exact b2
  ·rintro⟨⟨⟩,st'⟩ s' ⟨rfl,b1,b2,b3⟩;dsimp only;refine Aa (seqEpoch_at ha3 rfl ?_);refine Aa (listUpdate_at ha3 rfl ?_ (Bf _) (len _ b2));rw[b1];simp only[bne_self_eq_false,BK,if_false];exact Ah (tail st' b1 b2 b3 _)
theorem w_sorted(hl:s.heap.IsList l vs.toArray)(hz:vs.length≤100000)(hk:∀v∈vs,dE s.heap B v)(inj:((vs.zip vs).map (num s.heap B)).Nodup)
 (h:∀h' tk (xs:List Keyed) D c,s.heap.objs.size≤D->(∀b o,s.heap.get? b=some o->h'.get? b=some o)->h'.get? D=some (seqObj "list" (List.toArray (xs.map (·.2))) c)->xs.Perm (vs.zip vs)->(xs.Pairwise fun x y=>num s.heap B x≤num s.heap B y)->Q (.ref D) { s with heap:=h',toks:=tk }):
 wpAny (model prog w) A (call (.builtin "sorted") [.ref l]) Q E s:=by
 have big:(100000:Nat)+1≤sizeLine:=by rw[sizeLine_eq];lia
 refine Calls.call_function_entry kind_sorted plain_sorted entry_sorted (args_sorted1 _) ?_;unfold Builtin.«sorted»;refine Aa (m:=checkCount "sorted" 1 1 _) (Ah ?_);refine Aa (collect_list hl ?_ (by lia));refine Aa (wpAny_newList ?_ (by lia));obtain⟨g,eg⟩:∃g,g=(s.heap.push (seqObj "list" #[] 0)).update s.heap.objs.size (Obj.mapSeq (· ++ vs.toArray)):=⟨_,rfl⟩;have gs:g.objs.size=s.heap.objs.size+1:=by rw[eg,Heap.size_update,size_push']
 have gk:∀b o,s.heap.get? b=some o->g.get? b=some o:=fun b o q=>by have hlt:b<s.heap.objs.size:=Heap.lt_size q;rw[eg,Heap.get?_update_ne _ _ _ _ (Bd hlt)];exact Heap.get?_push_of_some _ q
 show wpAny _ _ _ _ _ { s with heap:=((s.heap.push (seqObj "list" #[] 0)).update s.heap.objs.size (Obj.mapSeq (· ++ vs.toArray))).push (seqObj "list" vs.toArray 0) };rw[<-eg];have hoD:(g.push (seqObj "list" vs.toArray 0)).get? g.objs.size=some (seqObj "list" vs.toArray 0):=Heap.get?_push_size _ rfl;have keep:∀b o,s.heap.get? b=some o->(g.push (seqObj "list" vs.toArray 0)).get? b=some o:=fun b o q=>Heap.get?_push_of_some _ (gk b o q);have kT:∀v∈vs,dE (g.push (seqObj "list" vs.toArray 0)) B v:=fun v hv=>by obtain⟨a,o,m,r,p,t,u,e1,e2,r'⟩:=hk v hv;exact⟨a,o,m,r,p,t,u,e1,keep _ _ e2,r'⟩
 have nk:∀x∈vs.zip vs,num (g.push (seqObj "list" vs.toArray 0)) B x=num s.heap B x:=fun x hx=>by obtain⟨a,o,m,r,p,t,u,e1,e2,e3,e4,_⟩:=hk _ (mem_self_zip hx).1;rw[num_of e1 e2 e4,num_of e1 (keep _ _ e2) e4]
 refine Aa (A8 (wpAny_call_entry slot_list_sort ⟨_,hoD,rfl⟩ entry_list_sort ?body (args_list_sort _)))
 case body=>
  refine ad1 (s:={ s with heap:=g.push (seqObj "list" vs.toArray 0) }) hoD hz kT (by rw[Cg nk];exact inj) fun h' tk xs c k1 hD pm pw=>?_;refine⟨_,rfl,Ah ⟨_,rfl,h h' tk xs g.objs.size c (by rw[gs];exact BW _) (fun b o q=>k1 b o ?_ (keep b o q)) hD pm ?_⟩⟩
  ·have hlt:b<s.heap.objs.size:=Heap.lt_size q;intro z;rw[z,gs] at hlt;exact Dj hlt
  ·refine Ce (fun {x y} hx hy z=>?_) pw;rw[nk x (pm.mem_iff.mp hx),nk y (pm.mem_iff.mp hy)] at z;exact z
end
end TS
namespace L2
open PySem PySem.Spec PyProof.Rows
theorem mX(f:α->β):∀{l m:List β},l.Perm m->∀{T:List α},T.map f=m->∃T':List α,T'.Perm T/\T'.map f=l:=by
 intro l m p
 induction p with
 |nil=>intro T e;exact⟨T,BG _,e⟩
 |cons x _ ih=>
  intro T e;cases T with
  |nil=>cases e
  |cons t r=>
   rw[AF] at e;obtain⟨e1,e2⟩:=CO e;obtain⟨T',p',e'⟩:=ih e2;exact⟨t::T',p'.cons t,by rw[AF,e',e1]⟩
 |swap x y l=>
  intro T e
  match T,e with
  |t::u::r,e=>
   rw[AF,AF] at e;obtain⟨e1,e2⟩:=CO e;obtain⟨e3,e4⟩:=CO e2;exact⟨u::t::r,List.Perm.swap t u r,by rw[AF,AF,e1,e3,e4]⟩
 |trans _ _ ih1 ih2=>
  intro T e;obtain⟨T1,p1,e1⟩:=ih2 e;obtain⟨T2,p2,e2⟩:=ih1 e1;exact⟨T2,p2.trans p1,e2⟩
theorem eE{α β γ:Type}{R:β->γ->Prop}{g:α->β}{h:α->γ}:∀{T:List α},(∀t∈T,R (g t) (h t))->Paired R (T.map g) (T.map h)
 |[],_=>.nil
 |t::_,k=>.cons (k t (Ap ..)) (eE fun u hu=>k u (Ag _ hu))
theorem fM{α β γ:Type}{R:α->β->Prop}{S:α->γ->Prop}:∀{xs:List α} {ys:List β} {zs:List γ},Paired R xs ys->Paired S xs zs->∃T:List (α×β×γ),T.map (·.1)=xs/\T.map (fun t=>t.2.1)=ys/\T.map (fun t=>t.2.2)=zs/\∀t∈T,R t.1 t.2.1/\S t.1 t.2.2
 |_,_,_,.nil,.nil=>⟨[],rfl,rfl,rfl,fun t ht=>by cases ht⟩
 |_,_,_,.cons (a:=x) (b:=y) r p,.cons (b:=z) q p'=>by
  obtain⟨T,e1,e2,e3,k⟩:=fM p p';refine⟨(x,y,z)::T,by rw[AF,e1],by rw[AF,e2],by rw[AF,e3],fun t ht=>?_⟩;rcases Av.mp ht with rfl | ht
  ·exact⟨r,q⟩
  ·exact k t ht
theorem fF{α β:Type}{f:α->β}:∀{l:List α},(∀x∈l,∀y∈l,f x=f y->x=y)->l.Nodup->(l.map f).Nodup
 |[],_,_=>Du
 |a::r,h,n=>by obtain⟨n1,n2⟩:=Aw.mp n;rw[AF];refine Aw.mpr ⟨fun z=>?_,fF (fun x hx y hy=>h x (Ag _ hx) y (Ag _ hy)) n2⟩;obtain⟨y,hy,e⟩:=AX.mp z;have:=h y (Ag _ hy) a (Ap ..) e;exact n1 (this▸hy)
def qM(p q:Int×Int):Prop:=p.1<q.1\/(p.1=q.1/\p.2≤q.2)
abbrev tK(K:Ai)(H:Hp)(v:V)(p:Int×Int):Prop:=∃a,v=.ref a/\cM K H a [.int p.1,.int p.2]
theorem re{p q:Int×Int}(hp:0≤p.2/\p.2<B)(hq:0≤q.2/\q.2<B)(h:p.1*B+p.2≤q.1*B+q.2):qM p q:=by
 unfold qM;by_cases c:p.1<q.1
 ·exact .inl c
 ·right;by_cases d:q.1<p.1
  ·have h5:(q.1+1)*B≤p.1*B:=Cn (by assumption) (by lia);rw[Int.add_mul,Int.one_mul] at h5;omega
  ·have e:p.1=q.1:=by lia
   rw[e] at h;exact⟨e,by lia⟩
theorem acy{p q:Int×Int}(hp:0≤p.2/\p.2<B)(hq:0≤q.2/\q.2<B)(h:p.1*B+p.2=q.1*B+q.2):p=q:=by
 have h1:=re hp hq (by omega);have h2:=re hq hp (by omega);unfold qM at h1 h2;have e1:p.1=q.1:=by lia
 have e2:p.2=q.2:=by lia
 exact Prod.ext e1 e2
section
def afw(X:Cx):List V->Hp->VK->Prop:=fun xs H Q=>∃l ys ps,xs=[.ref l]/\wv X.K H l ys/\Paired (tK X.K H) ys ps/\(∀p∈ps,0≤p.2/\p.2<1000000)/\ps.Nodup/\ys.length≤100000/\
 ∀D zs qs,H D=none->Paired (tK X.K H) zs qs->qs.Perm ps->qs.Pairwise qM->Q (.ref D) (upd H D (.lst zs))
theorem sT:jk X (.builtin "sorted") (afw X):=by
 intro pins s σ H xs us Q I r h;obtain⟨l,ys,ps,rfl,hl,pr,hb,hnd,hlen,q⟩:=h;obtain⟨u,rfl,ru⟩:=r.one;cases (show u=Value.ref l from ru);obtain⟨its,rv,pl,hz⟩:=I.list hl;have l1:ys.length=its.length:=rv.length;obtain⟨T,e1,e2,e3,kT⟩:=fM rv pr;have kT2:∀t∈T,(∃a o n t1 t2,t.2.1=Value.ref a/\s.heap.get? a=some o/\o.cls=.type "tuple" /\ o.data=.seq #[.int t.2.2.1 t1,.int t.2.2.2 t2] n)/\0≤t.2.2.2/\t.2.2.2<1000000:=fun t ht=>by obtain⟨r1,a,ea,hs⟩:=kT t ht;obtain⟨its2,rv2,⟨o,g1,g2,n,g3⟩,_⟩:=I.tuple hs;obtain⟨w1,w2,rfl,x1,x2⟩:=rv2.two;obtain⟨t1,rfl⟩:=(show ∃t1,w1=Value.int t.2.2.1 t1 from x1);obtain⟨t2,rfl⟩:=(show ∃t2,w2=Value.int t.2.2.2 t2 from x2);rw[ea] at r1;refine⟨⟨a,o,n,t1,t2,r1,g1,g2,g3⟩,?_⟩;exact hb _ (by rw[<-e3];exact Ci (f:=fun t:V×Value×(Int×Int)=>t.2.2) ht)
 have nT:∀t∈T,TS.num s.heap 1000000 (t.2.1,t.2.1)=t.2.2.1*1000000+t.2.2.2:=fun t ht=>by obtain⟨⟨a,o,n,t1,t2,g0,g1,g2,g3⟩,_⟩:=kT2 t ht;exact TS.num_of g0 g1 g3
 have ez:its.zip its=T.map fun t=>(t.2.1,t.2.1):=by rw[<-e2,List.zip_map']
 have inj:((its.zip its).map (TS.num s.heap 1000000)).Nodup:=by
  rw[ez,Bm];have e4:T.map (TS.num s.heap 1000000∘fun t=>(t.2.1,t.2.1))=(T.map fun t=>t.2.2).map fun p:Int×Int=>p.1*1000000+p.2:=by rw[Bm];exact Cg fun t ht=>nT t ht
  rw[e4,e3];exact fF (fun x hx y hy e=>acy (hb x hx) (hb y hy) e) hnd
 refine jr I.tk (TS.w_sorted (B:=1000000) pl.isList (by rw[<-l1];exact hlen) (fun v hv=>?_) inj fun h' tk ks D c hD hk hg pm pw ht=>?_)
 ·rw[<-e2] at hv;obtain⟨t,ht,rfl⟩:=AX.mp hv;obtain⟨⟨a,o,n,t1,t2,g0,g1,g2,g3⟩,b1,b2⟩:=kT2 t ht;exact⟨a,o,n,_,_,t1,t2,g0,g1,g2,g3,b1,b2⟩
 ·rw[ez] at pm;obtain⟨T',pT,eT⟩:=mX _ pm rfl;subst eT;have mT:∀t,t∈T'->t∈T:=fun t=>pT.mem_iff.mp;have pw':=BP.mp pw;refine⟨.ref D,_,I.laid (t':=tk) (o:=.lst (T'.map (·.1))) hk hD ?_,rfl,q D (T'.map (·.1)) (T'.map fun t=>t.2.2) (I.hok.fresh hD) (eE fun t ht=>(kT t (mT t ht)).2) ?_ ?_⟩
  ·refine⟨?_,T'.map (fun t=>t.2.1),c,eE fun t ht=>(kT t (mT t ht)).1,?_⟩
   ·rw[Ae,pT.length_eq];have:T.length=ys.length:=by rw[<-e1,Ae]
    rw[this];exact hz
   ·rw[hg,Bm];rfl
  ·rw[<-e3];exact pT.map _
  ·refine BP.mpr (Ce (fun {x y} hx hy z=>?_) pw');rw[nT x (mT x hx),nT y (mT y hy)] at z;exact re (kT2 x (mT x hx)).2 (kT2 y (mT y hy)).2 z
end
end L2
namespace L3
open PySem L2
def prY(p:Int×Int):Y:=.tup [.int p.1,.int p.2]
theorem og{G:G3}{H:Hp}:∀{ps:List (Int×Int)} {xs:List V},x6 G H (ps.map prY) xs->Paired (tK G.K H) xs ps
 |[],_,h=>by cases (show _=[] from h);exact .nil
 |p::r,_,⟨x,xs',e,⟨a,zs,ea,hs,z1,zs1,e1,rz1,z2,zs2,e2,rz2,e3⟩,s⟩=>by subst e ea e1 e2 e3;cases (show z1=V.int p.1 from rz1);cases (show z2=V.int p.2 from rz2);exact .cons ⟨a,rfl,hs⟩ (og s)
theorem qA{G:G3}{H:Hp}:∀{ps:List (Int×Int)} {xs:List V},Paired (tK G.K H) xs ps->x6 G H (ps.map prY) xs
 |_,_,.nil=>rfl
 |_,_,.cons ⟨a,ea,hs⟩ t=>by subst ea;exact⟨_,_,rfl,⟨a,_,rfl,hs,_,_,rfl,rfl,_,_,rfl,rfl,rfl⟩,qA t⟩
def kO(xs:List Y)(L:ql)(Q:YK):Prop:=match xs with
 |[.ref a]=>bE L a fun ys=>∃ps:List (Int×Int),ys=ps.map prY/\(∀p∈ps,0≤p.2/\p.2<1000000)/\ps.Nodup/\ps.length≤100000/\∀(D:Addr) (qs:List (Int×Int)),L D=none->qs.Perm ps->qs.Pairwise qM->Q (.ref D) (qg L D (.lst (qs.map prY)))
 |_=>False
theorem gZ:bootBuiltins "sorted" = some (.builtin "sorted"):=by decide +kernel
theorem uM :jk X (.builtin "sorted") (zV X.g3 kO):=EU sT fun xs H Q ⟨ys,L,Q3,rv,rl,z,k⟩=>by
 unfold kO at z;split at z
 ·rename_i a;obtain⟨zs,e,ps,rfl,hb,hnd,hlen,z⟩:=jy z;obtain⟨vs,e2,r⟩:=rl a _ e;obtain⟨u,rfl,ru⟩:=rv.inv1;cases (show u=V.ref a from ru);have pr:=og r;exact⟨a,vs,ps,rfl,EW e2,pr,hb,hnd,by rw[<-r.length,Ae];exact hlen,fun D zs qs hD pz pm pw=>k _ _ _ _ (EG hD) (rl.newL hD (qA pz)) (by rfl) (z D qs (rl.none hD) pm pw)⟩
 ·exact z.elim
open PySem L2 Words
def ax:Wd->Y
 |.leaf t n=>.tup [.str (kL t),.str n]
 |.node e l r=>.tup [.str (kN e),ax l,ax r]
def dc:Y:=(.tup [(.str "plain"),(.str "turned")])
theorem qp{Q:α->ql->Prop}{o:Option α}{v:α}(e:o=some v)(h:Q v L):tR L Q o:=by rw[e];exact h
abbrev jo(i:Int):xx:=yC (.int i)
abbrev dW(x:Str):xx:=yC (.str x)
abbrev jw(i:Nat)(n:Int):xx:=zm cX (qc i) (yC (.int n))
abbrev bB(i:Nat):xx:=eM dy (qe (qc i) z0)
abbrev eJ(a b:xx):kG:=yB (zm (t7 false) a b)
abbrev yX(a b:xx):kG:=yB (zm (t7 true) a b)
abbrev rdT(a b:xx):xx:=wf (qe a (qe b z0))
abbrev wu(a:xx):eL:=qe a z0
abbrev aY(a b:xx):eL:=qe a (qe b z0)
def ud:ww:=(jm (zm (oR false) (jw 0 0) (yC dc)))
def kX:Bool->Bool->Str
 |true,t=>kL t
 |false,e=>kN e
def dk:x0:=fun ys L Q=>∃lf b rest,ys=[.tup (.str (kX lf b)::rest)]/\Q (.bl lf) L
theorem xA(t:Bool):uK (.str (kL t)) [.str "plain",.str "turned"]=true:=by cases t<;>decide +kernel
theorem um(t:Bool):uK (.str (kN t)) [.str "plain",.str "turned"]=false:=by cases t<;>decide +kernel
theorem sH:∀ys L Q,dk ys L Q->v3 ud 1 ys L Q:=by
 rintro ys L Q ⟨lf,b,rest,rfl,q⟩;have e0:fg (Y.str (kX lf b)::rest) 0=some (Y.str (kX lf b)):=kn (xs:=Y.str (kX lf b)::rest) (j:=0) rfl;walk_at "w";rw[e0];refine⟨rfl,rfl,x8 ?_⟩;cases lf with
 |true=>
  rw[show nb false (uK (fS (.str (kX true b))) ([Y.str "plain",.str "turned"].map fS))=true from xA b];exact q
 |false=>
  rw[show nb false (uK (fS (.str (kX false b))) ([Y.str "plain",.str "turned"].map fS))=false from um b];exact q
theorem wU(t:Bool):List.lookup (kL t) [(("plain" : Str),("turned" : Str)),("turned", "plain"),("both", "either"),("either", "both")]=some (kL (!t)):=by cases t<;>decide +kernel
theorem wK(t:Bool):List.lookup (kN t) [(("plain" : Str),("turned" : Str)),("turned", "plain"),("both", "either"),("either", "both")]=some (kN (!t)):=by cases t<;>decide +kernel
theorem jc.str(x:Str):jc L n (.str x) (.s (.str x)):=by cases n with|zero=>exact⟨rfl,rfl⟩|succ n=>exact .inl ⟨rfl,rfl⟩
abbrev ER:=@jc.str
theorem jc.int(x:Int):jc L n (.int x) (.s (.int x)):=by cases n with|zero=>exact⟨rfl,rfl⟩|succ n=>exact .inl ⟨rfl,rfl⟩
abbrev EN:=@jc.int
theorem f8{L:ql}:∀{wd:Wd} {n:Nat},wd.depth≤n->jc L n (ax wd) (lD wd)
 |.leaf t nm,n+1,_=>.inr (.inl ⟨_,_,rfl,rfl,.cons (ER _) (.cons (ER _) .nil)⟩)
 |.node e l r,n+1,h=>by have h':max l.depth r.depth+1≤n+1:=h;exact .inr (.inl ⟨_,_,rfl,rfl,.cons (ER _) (.cons (f8 (by lia)) (.cons (f8 (by lia)) .nil))⟩)
theorem dP{a:Addr}(e:L a=some (.lst ys))(p:Paired (jc L n) ys ds):jc L (n+1) (.ref a) (.lst ds):=.inr (.inr ⟨ys,ds,rfl,rfl,w4 e,p⟩)
theorem a8(p:Paired (jc L n) ys ds):jc L (n+1) (.tup ys) (.tup ds):=.inr (.inl ⟨ys,ds,rfl,rfl,p⟩)
theorem i0{neg:Bool}{u v:Wd}{Q:YK}(hu:u.depth≤128)(q:Q (.bl (nb neg (Da.eq (lD u) (lD v)))) L):t7 neg (ax u) (ax v) L Q:=by
 have hr:∀w:Wd,ut (ax w)=true:=fun w=>by cases w<;>rfl
 have:ut (ax u)=true/\ut (ax v)=true/\∃n m d e,n≤128/\jc L n (ax u) d/\jc L m (ax v) e/\Q (.bl (nb neg (Da.eq d e))) L:=
  ⟨hr u,hr v,u.depth,v.depth,lD u,lD v,hu,f8 (An _),f8 (An _),q⟩
 cases u<;>cases v<;>exact this
theorem ai{neg:Bool}{a b:Addr}{zs:List Y}{es:List Da}{Q:YK}(hn:n<128)(ea:L a=some (.lst ys))(eb:L b=some (.lst zs))(pa:Paired (jc L n) ys ds)(pb:Paired (jc L m) zs es)(q:Q (.bl (nb neg (Da.eqs ds es))) L):
 t7 neg (.ref a) (.ref b) L Q:=⟨rfl,rfl,n+1,m+1,_,_,hn,dP ea pa,dP eb pb,q⟩
def nY(hs:List Nat):List Y:=hs.map fun n:Nat=>.int (n:Int)
theorem aK(hs:List Nat):(nY hs).length=hs.length:=by unfold nY;rw[Ae]
theorem ji{a p:Addr}{o:LO}(h:qg L a o p=none):L p=none:=by
 by_cases c:p=a
 ·subst c;rw[q9] at h;cases h
 ·rw[qb c] at h;exact h
theorem xt{l:List α}{x:α}(h:l[i]?=some x):i<l.length:=(A2.mp h).1
def sM:ww:=(jm (zm ar (zm wm (zm sk (zm w5 (zm w5 (zm sk (zm wm (qc 0) (jo 1000003)) (jo 7)) (zm sk (qc 1) (qc 1))) (jo 1)) (qc 2)) (jo 2147483647)) (jo 16)))
def lM(p0:x0):ww:=(qt (xf (eJ (bB 0) (jo 2)) (jm (jo 1)) jp)
 (jm (zm w5 (zm w5 (jo 1) (za p0 (wu (jw 0 1)))) (za p0 (wu (jw 0 2))))))
def qF(p0:x0):ww:=(qt (j5 (zm cX (qc 0) (qc 1)) (qh 2))
 (qt (xf (eJ (bB 2) (jo 2)) (jm (qc 2)) jp)
 (jm (wf (qe (jw 2 0) (qe (za p0 (aY (qc 0) (jw 2 1))) (qe (za p0 (aY (qc 0) (jw 2 2))) z0)))))))
def oN:x0:=fun ys L Q=>∃c k f:Int,ys=[.int c,.int k,.int f]/\0≤k/\k<1000000/\0<f/\f<1000000/\∀v,0≤v->v<134217728->Q (.int v) L
theorem agq:∀ys L Q,oN ys L Q->v3 sM 3 ys L Q:=by
 rintro ys L Q ⟨c,k,f,rfl,h0,h1,h2,h3,q⟩;refine⟨(by decide:(0:Int)<1000003),.inr ⟨by decide,by decide⟩,.inl ⟨by lia,by lia⟩,.inr ⟨by lia,by lia⟩,(by decide:(0:Int)<2147483647),⟨by decide,by decide⟩,x8 (q _ ?_ ?_)⟩
 all_goals
  generalize ((c % 1000003*7+k*k+1)*f)=z;lia
theorem aaa(cs:List Nat):(Txt.join "" (cs.map fun c=>(⟨#[c]⟩:Str))).cps.toList=cs:=by
 rw[oM]
 induction cs with|nil=>rfl|cons c r ih=>rw[AF,A1,ih];rfl
def bM(n:Nat):x0:=fun ys L Q=>∃wd,ys=[ax wd]/\wd.depth≤n/\Q (.int wd.size) L
theorem lF:∀ys L Q,¬bM 0 ys L Q:=fun ys L Q ⟨wd,_,hd,_⟩=>by cases wd<;>simp[Wd.depth] at hd
theorem wV(n:Nat):∀ys L Q,bM (n+1) ys L Q->v3 (lM (bM n)) 1 ys L Q:=by
 rintro ys L Q ⟨wd,rfl,hd,q⟩;cases wd with
 |leaf t n=>exact x8 q
 |node e l r=>
  have hd':max l.depth r.depth+1≤n+1:=hd;refine⟨l,rfl,by lia,r,rfl,by lia,x8 ?_⟩;have e:(1+(l.size:Int)+(r.size:Int))=(((Wd.node e l r).size:Nat):Int):=by show _=((1+l.size+r.size:Nat):Int);rfl
  rw[e];exact q
theorem ade{xs:List Y}{keep:ql->Prop}{tb:ww}(W:Nat->jn->ql->Prop)(h0:W 0 τ L)(hk:∀i τ L',W i τ L'->keep L')
 (hs:∀i x y τ L,xs[i]?=some x->ys[i]?=some y->W i τ L->g (.tup [x,y]) τ L fun τ2 L2=>tb { D with nx:=bX (W (i+1)),ct:=bX (W (i+1)),bk:=D.nx } τ2 L2) (hd:∀τ L,W (min xs.length ys.length) τ L->D.nx τ L):
 pX (tH xs ys) keep g tb D τ L:=vf ⟨W,h0,hk,fun i y τ L e w=>by obtain⟨a,b,ea,eb,rfl⟩:=uR e;exact hs i a b τ L ea eb w,fun τ L w=>hd τ L (by rw[ie] at w;exact w)⟩
def KW(ks:List Y):Nat->Wd->Prop
 |p,.leaf t n=>ks[p]?=some (.tup [.str (kL t),.str n])
 |p,.node e l r=>∃i j:Nat,ks[p]?=some (.tup [.str (kN e),.int i,.int j])/\KW ks i l/\KW ks j r
theorem KW.more{ks:List Y}(ms:List Y):∀{wd:Wd} {p:Nat},KW ks p wd->KW (ks++ms) p wd
 |.leaf _ _,p,h=>by have h':ks[p]?=some _:=h;show(ks++ms)[p]?=some _;rw[AE (A2.mp h').1];exact h'
 |.node _ _ _,p,⟨i,j,h,a,b⟩=>⟨i,j,by rw[AE (A2.mp h).1];exact h,KW.more ms a,KW.more ms b⟩
def ku(n:Nat):x0:=fun ys L Q=>∃k ks p wd,ys=[.ref k,.int ((p:Nat):Int)]/\L k=some (.lst ks)/\KW ks p wd/\wd.depth≤n/\Q (ax wd) L
theorem r6:∀ys L Q,¬ku 0 ys L Q:=fun ys L Q ⟨k,ks,p,wd,_,_,_,hd,_⟩=>by cases wd<;>simp[Wd.depth] at hd
theorem mj:∀ys L Q,¬ku 0 ys L Q:=r6
theorem pU(n:Nat):∀ys L Q,ku (n+1) ys L Q->v3 (qF (ku n)) 3 ys L Q:=by
 rintro ys L Q ⟨k,ks,p,wd,rfl,hk,h,hd,q⟩;cases wd with
 |leaf t nm=>exact qd hk (qp (kn h) (x8 q))
 |node e l r=>
  obtain⟨i,j,h,hl,hr⟩:=h;have hd':max l.depth r.depth+1≤n+1:=hd;exact qd hk (qp (kn h) ⟨k,ks,i,l,rfl,hk,hl,by lia,k,ks,j,r,rfl,hk,hr,by lia,x8 q⟩)
def mkS(l:List Nat):Str:=⟨l.toArray⟩
theorem t0(x:Str):mkS x.cps.toList=x:=by cases x;rfl
def adb(p0:x0):ww:=(qt (j5 (aeo [("plain", "turned"),("turned", "plain"),("both", "either"),("either", "both")]) (qh 1))
 (qt (xf (eJ (bB 0) (jo 2)) (jm (wf (qe (zm cX (qc 1) (jw 0 0)) (wu (jw 0 1))))) jp)
 (jm (wf (qe (zm cX (qc 1) (jw 0 0)) (qe (za p0 (wu (jw 0 1))) (qe (za p0 (wu (jw 0 2))) z0)))))))
def yf(p0:x0)(p1:x0):ww:=(qt (xf (eJ (bB 1) (jo 2)) (qt (js (aq j8 (qc 0) (qe (za p0 (wu (qc 1))) z0)))
 (qt (js (aq j8 (qc 0) (wu (qc 1))))
 (jm (v5 (qe (wf (qe (dW "link") (qe (zm iG (bB 0) (jo 2)) (qe (zm iG (bB 0) (jo 1)) z0)))) (qe (zm iG (bB 0) (jo 2)) (qe (zm iG (bB 0) (jo 1)) z0))))))) jp)
 (qt (j5 (za p1 (aY (qc 0) (jw 1 1))) (qh 2))
 (qt (j5 (za p1 (aY (qc 0) (jw 1 2))) (qh 3))
 (qt (js (aq j8 (qc 0) (qe (wf (qe (zm cX (za p0 (wu (qc 1))) (jo 0)) (aY (jw 2 1) (jw 3 1)))) z0)))
 (qt (js (aq j8 (qc 0) (qe (wf (qe (jw 1 0) (aY (jw 2 2) (jw 3 2)))) z0)))
 (qt (afp 4 5 (qe (zm iG (bB 0) (jo 2)) (qe (zm iG (bB 0) (jo 1)) z0)))
 (qt (j5 (yIf (eJ (jw 1 0) (dW "either")) (qc 4) (qc 5)) (qh 6))
 (qt (j5 (yIf (eJ (jw 1 0) (dW "either")) (qc 5) (qc 4)) (qh 7))
 (jm (v5 (qe (wf (qe (dW "either") (qe (qc 7) (qe (wf (qe (dW "both") (qe (qc 6) (aY (jw 2 0) (jw 3 0))))) z0)))) (aY (qc 4) (qc 5)))))))))))))
inductive Kn where
 |lf (t:Bool) (n:Str) | nd (e:Bool) (i j:Nat)
def ig:Kn->Y
 |.lf t n=>.tup [.str (kL t),.str n]
 |.nd e i j=>.tup [.str (kN e),.int ((i:Nat):Int),.int ((j:Nat):Int)]
inductive Ru where
 |link (p q:Nat) | ei (r:Nat) (A:Ru) | bo (r:Nat) (A B:Ru) | cu (p q:Nat) (A B:Ru)
def qm:Ru->Y
 |.link p q=>.tup [.str "link",.int ((p:Nat):Int),.int ((q:Nat):Int)]
 |.ei r A=>.tup [.str "either",.int ((r:Nat):Int),qm A]
 |.bo r A B=>.tup [.str "both",.int ((r:Nat):Int),qm A,qm B]
 |.cu p q A B=>.tup [.str "cut",.int ((p:Nat):Int),.int ((q:Nat):Int),qm A,qm B]
def qk:Ru->List Nat
 |.link p q=>[p,q]
 |.ei r A=>r::qk A
 |.bo r A B=>r::(qk A++qk B)
 |.cu _ _ A B=>qk A++qk B
abbrev zw(ks:List Kn):List Y:=ks.map ig
def cH(ks:List Kn)(p:Nat)(w:Wd):Prop:=KW (zw ks) p w
theorem cH.more{ks:List Kn}{p:Nat}{w:Wd}(h:cH ks p w)(ms:List Kn):cH (ks++ms) p w:=by unfold cH zw;rw[AG];exact KW.more _ h
def cQ(ks:List Kn):Prop:=∀(p:Nat) (k:Kn),ks[p]?=some k->match k with
 |.lf _ n=>cj n
 |.nd _ i j=>i<p/\j<p
theorem cQ.snoc{ks:List Kn}{k:Kn}(h:cQ ks)(hk:match k with | .lf _ n=>cj n | .nd _ i j=>i<ks.length/\j<ks.length):cQ (ks++[k]):=by
 intro p k' e;by_cases c:p<ks.length
 ·rw[AE c] at e;exact h p k' e
 ·rw[Au (by exact yb)] at e;have c2:p=ks.length:=by
   by_cases c3:p - ks.length=0
   ·omega
   ·rw[BS (by simp;exact zR)] at e;cases e
  subst c2;rw[CH] at e;cases e;exact hk
theorem cr(l:List α)(x:α)(r:List α):(l++x::r)[l.length]?=some x:=by rw[Au (An _),CH];rfl
theorem kY{l r:List α}{p:Nat}{x:α}(h:l[p]?=some x):(l++r)[p]?=some x:=by rw[AE (A2.mp h).1];exact h
inductive SR(ks:List Kn):Ru->List Nat->Prop
 |link {p q:Nat} {t:Bool} {n:Str} {E:List Nat}:p<q->ks[p]?=some (.lf t n)->ks[q]?=some (.lf (!t) n)->(∀x,x∈E↔x=p\/x=q)->E.Nodup->SR ks (.link p q) E
 |ei {r i j:Nat} {A:Ru} {EA E:List Nat}:ks[r]?=some (.nd true i j)->SR ks A EA->i∈EA->j∈EA->i≠j->(∀x,x∈E↔(x∈EA/\x≠i/\x≠j)\/x=r)->E.Nodup->SR ks (.ei r A) E
 |bo {r i j:Nat} {A B:Ru} {EA EB E:List Nat}:ks[r]?=some (.nd false i j)->SR ks A EA->SR ks B EB->i∈EA->j∈EB->(∀x,x∈E↔(x∈EA/\x≠i)\/(x∈EB/\x≠j)\/x=r)->E.Nodup->SR ks (.bo r A B) E
 |cu {p q:Nat} {A B:Ru} {EA EB E:List Nat} {w:Wd}:SR ks A EA->SR ks B EB->p∈EA->q∈EB->cH ks p w->cH ks q w.turn->(∀x,x∈E↔(x∈EA/\x≠p)\/(x∈EB/\x≠q))->E.Nodup->SR ks (.cu p q A B) E
theorem SR.more{ks:List Kn}{R:Ru}{E:List Nat}(h:SR ks R E)(ms:List Kn):SR (ks++ms) R E:=by induction h with|link h1 h2 h3 h4 h5=>exact .link h1 (kY h2) (kY h3) h4 h5|ei h1 _ h3 h4 h5 h6 h7 ih=>exact .ei (kY h1) ih h3 h4 h5 h6 h7|bo h1 _ _ h4 h5 h6 h7 ih1 ih2=>exact .bo (kY h1) ih1 ih2 h4 h5 h6 h7|cu _ _ h3 h4 h5 h6 h7 h8 ih1 ih2=>exact .cu ih1 ih2 h3 h4 (h5.more ms) (h6.more ms) h7 h8
theorem SR.sub{ks:List Kn}{R:Ru}{E:List Nat}(h:SR ks R E):∀x∈E,x∈qk R:=by
 induction h with
 |link _ _ _ h4 _=>intro x hx;rcases (h4 x).mp hx with rfl | rfl<;>simp[qk]
 |ei _ _ _ _ _ h6 _ ih=>intro x hx;rcases (h6 x).mp hx with⟨h,_⟩ | rfl;exact Ag _ (ih x h);exact Ap ..
 |bo _ _ _ _ _ h6 _ ih1 ih2=>
  intro x hx;rcases (h6 x).mp hx with⟨h,_⟩ | ⟨h,_⟩ | rfl
  ·exact Ag _ (Ar _ (ih1 x h))
  ·exact Ag _ (Af _ (ih2 x h))
  ·exact Ap ..
 |cu _ _ _ _ _ _ h7 _ ih1 ih2=>
  intro x hx;rcases (h7 x).mp hx with⟨h,_⟩ | ⟨h,_⟩
  ·exact Ar _ (ih1 x h)
  ·exact Af _ (ih2 x h)
def aH(n:Nat):x0:=fun ys L Q=>∃wd,ys=[ax wd]/\wd.depth≤n/\Q (ax wd.turn) L
theorem aaw:∀ys L Q,¬aH 0 ys L Q:=fun ys L Q ⟨wd,_,hd,_⟩=>by cases wd<;>simp[Wd.depth] at hd
theorem sm(t:Bool):xm ([(("plain" : Str),("turned" : Str)),("turned", "plain"),("both", "either"),("either", "both")].map fun p=>((Sum.inr p.1:j3),Y.str p.2)) (Sum.inr (kL t))=some (.str (kL (!t))):=iC (wU t)
theorem sG(t:Bool):xm ([(("plain" : Str),("turned" : Str)),("turned", "plain"),("both", "either"),("either", "both")].map fun p=>((Sum.inr p.1:j3),Y.str p.2)) (Sum.inr (kN t))=some (.str (kN (!t))):=iC (wK t)
theorem y4(n:Nat):∀ys L Q,aH (n+1) ys L Q->v3 (adb (aH n)) 2 ys L Q:=by
 rintro ys L Q ⟨wd,rfl,hd,q⟩;intro p hp;cases wd with
 |leaf t nm=>
  refine zn q9 (qp (sm t) ?_);exact cD (By hp) q
 |node e l r=>
  have hd':max l.depth r.depth+1≤n+1:=hd;refine zn q9 (qp (sG e) ?_);refine⟨l,rfl,by lia,r,rfl,by lia,?_⟩;exact cD (By hp) q
structure Mir(ks:List Kn)(w:Wd)(ms:List Kn)(R:Ru)(tp sp:Nat):Prop where
 len:ms.length=2*w.size
 sr:SR (ks++ms) R [tp,sp]
 wt:cH (ks++ms) tp w.turn
 ws:cH (ks++ms) sp w
 tm:∀x,x∈qk R↔ks.length≤x/\x<ks.length+ms.length
 nd:(qk R).Nodup
 ok:cQ (ks++ms)
theorem cH.leaf{ks:List Kn}{p:Nat}{n:Str}(h:ks[p]?=some (.lf t n)):cH ks p (.leaf t n):=by show(zw ks)[p]?=_;rw[Aq,h];rfl
theorem cH.node{ks:List Kn}{p:Nat}{e:Bool}{l r:Wd}(h:ks[p]?=some (.nd e i j))(hl:cH ks i l)(hr:cH ks j r):cH ks p (.node e l r):=by refine⟨i,j,?_,hl,hr⟩;rw[Aq,h];rfl
abbrev EV:=@cH.node
theorem pG{ks:List Kn}(hk:cQ ks){n:Str}(hn:cj n):Mir ks (.leaf t n) [.lf (!t) n,.lf t n] (.link ks.length (ks.length+1)) ks.length (ks.length+1):=by
 have e1:(ks++[Kn.lf (!t) n,.lf t n])[ks.length]?=some (.lf (!t) n):=cr _ _ _;have e2:(ks++[Kn.lf (!t) n,.lf t n])[ks.length+1]?=some (.lf t n):=by have:=cr (ks++[Kn.lf (!t) n]) (Kn.lf t n) [];rw[Ac,AD] at this;exact this
 refine⟨rfl,.link (t:=!t) (n:=n) (by exact BU _) e1 (by rw[DQ];exact e2) (by simp) (by simp),cH.leaf e1,cH.leaf e2,fun x=>?_,by simp[qk],?_⟩
 ·show x∈[ks.length,ks.length+1]↔ks.length≤x/\x<ks.length+2;simp;lia
 ·have:=(hk.snoc (k:=.lf (!t) n) hn).snoc (k:=.lf t n) hn;rw[AD] at this;exact this
theorem SR.nod{ks:List Kn}{R:Ru}{E:List Nat}(h:SR ks R E):E.Nodup:=by cases h<;>assumption
theorem am3{x h lo a r N:Nat}(hh:(h=N/\lo=N+1)\/(h=N+1/\lo=N))(hN:N=a+m+r):x=h\/x=lo\/(a≤x/\x<a+m)\/a+m≤x/\x<a+m+r↔a≤x/\x<N+2:=by subst hN;rcases hh with⟨rfl,rfl⟩ | ⟨rfl,rfl⟩<;>lia
theorem amc{x a b c N:Nat}(h:a≠b)(k:c≠d):x∈[b,d,N]↔(x∈[a,b]/\x≠a)\/(x∈[c,d]/\x≠c)\/x=N:=by simp only[Av,Bx,or_false];lia
theorem an6{x a b c N:Nat}(h:a≠b)(k:c≠d):x∈[a,c,N]↔(x∈[a,b]/\x≠b)\/(x∈[c,d]/\x≠d)\/x=N:=by simp only[Av,Bx,or_false];lia
theorem anf{x a b N M:Nat}(h:a<N)(k:b<N):x∈[N,M]↔(x∈[a,b,N]/\x≠a/\x≠b)\/x=M:=by simp only[Av,Bx,or_false];lia
theorem ant{x a b N M:Nat}(h:a<N)(k:b<N):x∈[M,N]↔(x∈[a,b,N]/\x≠a/\x≠b)\/x=M:=by simp only[Av,Bx,or_false];lia
theorem akc{a b N:Nat}(h:a<N)(k:b<N)(d:a≠b):[a,b,N].Nodup:=by rw[Aw,Aw];simp;lia
theorem ano{a r N t s u v:Nat}(a1:a≤t/\t<a+m)(a2:a≤s/\s<a+m)(b1:a+m≤u/\u<a+m+r)(b2:a+m≤v/\v<a+m+r)(hN:N=a+m+r):t<N/\s<N/\u<N/\v<N/\t≠u/\s≠v:=by lia
theorem ak0{h lo a r N:Nat}(hh:(h=N/\lo=N+1)\/(h=N+1/\lo=N))(hN:N=a+m+r):¬(h=lo\/(a≤h/\h<a+m)\/a+m≤h/\h<a+m+r)/\¬((a≤lo/\lo<a+m)\/a+m≤lo/\lo<a+m+r):=by lia
theorem anl{x y a r:Nat}(h1:a≤x/\x<a+m)(h2:a+m≤y/\y<a+m+r)(e:x=y):False:=by lia
theorem zH{ks ml mr:List Kn}{e:Bool}{l r:Wd}{A B:Ru}{tl sl tr sr:Nat}(hl:Mir ks l ml A tl sl)(hr:Mir (ks++ml) r mr B tr sr){N:Nat}(hN:N=ks.length+(ml++mr).length):
 Mir ks (.node e l r) (ml++mr++[.nd (!e) tl tr,.nd e sl sr]) (.ei (if e=true then N+1 else N) (.bo (if e=true then N else N+1) A B)) N (N+1):=by
 have hA:∀x∈[tl,sl],ks.length≤x/\x<ks.length+ml.length:=fun x hx=>(hl.tm x).mp (hl.sr.sub x hx);have hB:∀x∈[tr,sr],ks.length+ml.length≤x/\x<ks.length+ml.length+mr.length:=fun x hx=>by have:=(hr.tm x).mp (hr.sr.sub x hx);rw[Ac] at this;exact this
 have a1:=hA tl (by simp);have a2:=hA sl (by simp);have b1:=hB tr (by simp);have b2:=hB sr (by simp);have nA:tl≠sl:=by have:=hl.sr.nod;simpa using this
 have nB:tr≠sr:=by have:=hr.sr.nod;simpa using this
 have hN':N=ks.length+ml.length+mr.length:=by rw[hN,Ac];simp +arith only
 obtain⟨d1,d2,d3,d4,d5,d6⟩:=ano a1 a2 b1 b2 hN';generalize eK:ks++(ml++mr++[Kn.nd (!e) tl tr,.nd e sl sr])=K;have k1:K=(ks++ml)++(mr++[Kn.nd (!e) tl tr,.nd e sl sr]):=by rw[<-eK];simp
 have k2:K=((ks++ml)++mr)++[Kn.nd (!e) tl tr,.nd e sl sr]:=by rw[<-eK];simp
 have k3:K=(((ks++ml)++mr)++[Kn.nd (!e) tl tr])++[.nd e sl sr]:=by rw[<-eK];simp
 have l2:((ks++ml)++mr).length=N:=by rw[Ac,Ac];lia
 have g1:K[N]?=some (.nd (!e) tl tr):=by rw[k2,<-l2];exact cr _ _ _
 have g2:K[N+1]?=some (.nd e sl sr):=by
  have l3:(((ks++ml)++mr)++[Kn.nd (!e) tl tr]).length=N+1:=by rw[Ac,l2];rfl
  rw[k3,<-l3];exact cr _ _ _
 have sA:SR K A [tl,sl]:=by rw[k1];exact hl.sr.more _
 have sB:SR K B [tr,sr]:=by rw[k2];exact hr.sr.more _
 have okK:cQ K:=by have o1:=hr.ok.snoc (k:=.nd (!e) tl tr) (by show tl<((ks++ml)++mr).length/\tr<((ks++ml)++mr).length;rw[l2];exact⟨d1,d3⟩);have o2:=o1.snoc (k:=.nd e sl sr) (by show sl<_/\sr<_;rw[Ac,l2];exact⟨Cc d2,Cc d4⟩);rw[k3];exact o2
 have tA:=hl.tm;have tB:=hr.tm;rw[Ac] at tB;have wt:cH K N (Wd.node e l r).turn:=EV g1 (by rw[k1];exact hl.wt.more _) (by rw[k2];exact hr.wt.more _);have wsp:cH K (N+1) (Wd.node e l r):=EV g2 (by rw[k1];exact hl.ws.more _) (by rw[k2];exact hr.ws.more _);have lenm:(ml++mr++[Kn.nd (!e) tl tr,.nd e sl sr]).length=2*(Wd.node e l r).size:=by have h1:=hl.len;have h2:=hr.len;show _=2*(1+l.size+r.size);rw[Ac,Ac];simp;lia
 have lt:ks.length+(ml++mr++[Kn.nd (!e) tl tr,.nd e sl sr]).length=N+2:=by rw[Ac];simp[hN];rfl
 have tt:∀h lo:Nat,(h=N/\lo=N+1)\/(h=N+1/\lo=N)->(∀x,x∈qk (.ei h (.bo lo A B))↔ks.length≤x/\x<ks.length+(ml++mr++[Kn.nd (!e) tl tr,.nd e sl sr]).length)/\(qk (.ei h (.bo lo A B))).Nodup:=by
  intro h lo hh;constructor
  ·intro x;rw[lt];show x∈h::lo::(qk A++qk B)↔_;rw[Av,Av,Al,tA,tB];exact am3 hh hN'
  ·show(h::lo::(qk A++qk B)).Nodup;rw[Aw,Aw,Ao];refine⟨?_,?_,hl.nd,hr.nd,fun x hx y hy e=>?_⟩
   ·rw[Av,Al,tA,tB];exact(ak0 hh hN').1
   ·rw[Al,tA,tB];exact(ak0 hh hN').2
   ·exact anl ((tA x).mp hx) ((tB y).mp hy) e
 cases e with
 |true=>
  have s1:SR K (.bo N A B) [sl,sr,N]:=by exact .bo g1 sA sB (by simp) (by simp) (fun x=>amc nA nB) (akc d2 d4 d6)
  have s2:SR K (.ei (N+1) (.bo N A B)) [N,N+1]:=by exact .ei g2 s1 (by simp) (by simp) d6 (fun x=>anf d2 d4) (by simp)
  obtain⟨t1,t2⟩:=tt (N+1) N (.inr ⟨rfl,rfl⟩);exact⟨lenm,by rw[eK];exact s2,by rw[eK];exact wt,by rw[eK];exact wsp,t1,t2,by rw[eK];exact okK⟩
 |false=>
  have s1:SR K (.bo (N+1) A B) [tl,tr,N+1]:=by exact .bo g2 sA sB (by simp) (by simp) (fun x=>an6 nA nB) (akc (Cc d1) (Cc d3) d5)
  have s2:SR K (.ei N (.bo (N+1) A B)) [N,N+1]:=by exact .ei g1 s1 (by simp) (by simp) d5 (fun x=>ant (Cc d1) (Cc d3)) (by simp)
  obtain⟨t1,t2⟩:=tt N (N+1) (.inl ⟨rfl,rfl⟩);exact⟨lenm,by rw[eK];exact s2,by rw[eK];exact wt,by rw[eK];exact wsp,t1,t2,by rw[eK];exact okK⟩
def bW(n:Nat):x0:=fun ys L Q=>∃a,∃ks:List Kn,∃w:Wd,ys=[.ref a,ax w]/\L a=some (.lst (zw ks))/\w.depth≤n/\n≤120/\w.ok/\cQ ks/\ks.length+2*w.size≤10000/\
 ∀ms R tp sp p,L p=none->Mir ks w ms R tp sp->Q (.ref p) (qg (qg L a (.lst (zw (ks++ms)))) p (.lst [qm R,.int ((tp:Nat):Int),.int ((sp:Nat):Int)]))
theorem wE:∀ys L Q,¬bW 0 ys L Q:=fun ys L Q ⟨a,ks,wd,_,_,hd,_⟩=>by cases wd<;>simp[Wd.depth] at hd
theorem bg_:∀m:Nat,m≤20000->m<sizeLine:=fun m h=>Cp h (by decide)
theorem uZ(n:Nat):∀ys L Q,bW (n+1) ys L Q->v3 (yf (aH 120) (bW n)) 8 ys L Q:=by
 rintro ys L Q ⟨a,ks,w,rfl,ha,hd,hn,hok,hk,hb,q⟩;have big:=bg_;cases w with
 |leaf t nm=>
  have hb:ks.length+2*1≤10000:=hb;refine qd ha ⟨.leaf t nm,rfl,by exact CZ _,qw ha ⟨big _ (by rw[Ae];lia),?_⟩⟩;refine qd q9 (qw q9 ⟨big _ (by rw[Ac,Ae];simp;lia),?_⟩);rw[jx];have e1:(zw ks++[ax (Wd.leaf t nm).turn])++[ax (.leaf t nm)]=zw (ks++[.lf (!t) nm,.lf t nm]):=by unfold zw;rw[AG,AD];rfl
  have e2:(zw (ks++[Kn.lf (!t) nm,.lf t nm])).length=ks.length+2:=by rw[Ae,Ac];rfl
  have i1:((((zw (ks++[Kn.lf (!t) nm,.lf t nm])).length:Nat):Int) - 2)=((ks.length:Nat):Int):=by rw[e2];lia
  have i2:((((zw (ks++[Kn.lf (!t) nm,.lf t nm])).length:Nat):Int) - 1)=((ks.length+1:Nat):Int):=by rw[e2];lia
  have e1':(zw ks++[ax (Wd.leaf t nm).turn])++[.tup [.str (kL t),.str nm]]=zw (ks++[.lf (!t) nm,.lf t nm]):=e1
  first | rw[e1] | rw[e1']
  refine qd q9 (qd q9 (qd q9 (qd q9 fun p hp=>?_)));have np:L p=none:=by
   have:p≠a:=fun e=>by rw[e,q9] at hp;cases hp
   rw[qb this] at hp;exact hp
  have:=q _ _ _ _ p np (pG hk hok);have key:[qm (.link ks.length (ks.length+1)),Y.int ((ks.length:Nat):Int),Y.int ((ks.length+1:Nat):Int)]=[.tup [.str "link",.int ((((zw (ks++[Kn.lf (!t) nm,.lf t nm])).length:Nat):Int) - 2),.int ((((zw (ks++[Kn.lf (!t) nm,.lf t nm])).length:Nat):Int) - 1)],.int ((((zw (ks++[Kn.lf (!t) nm,.lf t nm])).length:Nat):Int) - 2),.int ((((zw (ks++[Kn.lf (!t) nm,.lf t nm])).length:Nat):Int) - 1)]:=by rw[i1,i2];rfl
  rw[key] at this;exact x8 this
 |node e l r=>
  have hd':max l.depth r.depth+1≤n+1:=hd;have hb:ks.length+2*(1+l.size+r.size)≤10000:=hb;refine⟨a,ks,l,rfl,ha,by lia,by exact fQ,hok.1,hk,by lia,fun ml A tl sl p1 hp1 ML=>?_⟩;have na1:a≠p1:=w6 ha hp1;have hl1:=ML.len;refine⟨a,ks++ml,r,rfl,by rw[qb na1,q9],by lia,by exact fQ,hok.2,ML.ok,by rw[Ac];lia,fun mr B tr sr p2 hp2 MR=>?_⟩;have hl2:=MR.len;have np1:p1≠p2:=w6 q9 hp2;have na2:a≠p2:=w6 (by rw[qb na1];exact q9) hp2;have ha2:qg (qg (qg (qg L a (.lst (zw (ks++ml)))) p1 (.lst [qm A,.int ((tl:Nat):Int),.int ((sl:Nat):Int)])) a (.lst (zw ((ks++ml)++mr)))) p2 (.lst [qm B,.int ((tr:Nat):Int),.int ((sr:Nat):Int)]) a=some (.lst (zw ((ks++ml)++mr))):=by rw[qb na2];exact q9
  have h1:qg (qg (qg (qg L a (.lst (zw (ks++ml)))) p1 (.lst [qm A,.int ((tl:Nat):Int),.int ((sl:Nat):Int)])) a (.lst (zw ((ks++ml)++mr)))) p2 (.lst [qm B,.int ((tr:Nat):Int),.int ((sr:Nat):Int)]) p1=some (.lst [qm A,.int ((tl:Nat):Int),.int ((sl:Nat):Int)]):=by rw[qb np1,qb (AM na1)];exact q9
  have h2:qg (qg (qg (qg L a (.lst (zw (ks++ml)))) p1 (.lst [qm A,.int ((tl:Nat):Int),.int ((sl:Nat):Int)])) a (.lst (zw ((ks++ml)++mr)))) p2 (.lst [qm B,.int ((tr:Nat):Int),.int ((sr:Nat):Int)]) p2=some (.lst [qm B,.int ((tr:Nat):Int),.int ((sr:Nat):Int)]):=q9;have old:∀b o,b≠a->L b=some o->qg (qg (qg (qg L a (.lst (zw (ks++ml)))) p1 (.lst [qm A,.int ((tl:Nat):Int),.int ((sl:Nat):Int)])) a (.lst (zw ((ks++ml)++mr)))) p2 (.lst [qm B,.int ((tr:Nat):Int),.int ((sr:Nat):Int)]) b=some o:=fun b o nb e=>by
   have n1:b≠p1:=w6 e hp1;have e2:qg (qg L a (.lst (zw (ks++ml)))) p1 (.lst [qm A,.int ((tl:Nat):Int),.int ((sl:Nat):Int)]) b=some o:=by rw[qb n1,qb nb];exact e
   have n2:b≠p2:=w6 e2 hp2;rw[qb n2,qb nb];exact e2
  generalize qg (qg (qg (qg L a (.lst (zw (ks++ml)))) p1 (.lst [qm A,.int ((tl:Nat):Int),.int ((sl:Nat):Int)])) a (.lst (zw ((ks++ml)++mr)))) p2 (.lst [qm B,.int ((tr:Nat):Int),.int ((sr:Nat):Int)])=L2 at ha2 h1 h2 old;have lks:(zw ((ks++ml)++mr)).length=ks.length+ml.length+mr.length:=by rw[Ae,Ac,Ac]
  refine qd ha2 ⟨.node e l r,rfl,by show max l.depth r.depth+1≤120;exact vT,qd h1 (qd h2 (qw ha2 ⟨big _ (by lia),?_⟩))⟩;have h1':∀o,qg L2 a o p1=some (.lst [qm A,.int ((tl:Nat):Int),.int ((sl:Nat):Int)]):=fun o=>by rw[qb (AM na1)];exact h1
  have h2':∀o,qg L2 a o p2=some (.lst [qm B,.int ((tr:Nat):Int),.int ((sr:Nat):Int)]):=fun o=>by rw[qb (AM na2)];exact h2
  refine qd q9 (qd (h1' _) (qd (h2' _) (qw q9 ⟨big _ (by rw[Ac];simp;lia),?_⟩)));rw[jx];obtain⟨N,hN⟩:∃N,N=ks.length+(ml++mr).length:=⟨_,rfl⟩;have e1:(zw ((ks++ml)++mr)++[.tup [.str (kN (!e)),.int ((tl:Nat):Int),.int ((tr:Nat):Int)]])++[.tup [.str (kN e),.int ((sl:Nat):Int),.int ((sr:Nat):Int)]]=zw (ks++(ml++mr++[.nd (!e) tl tr,.nd e sl sr])):=by unfold zw;simp[ig]
  rw[e1];have lN:(zw (ks++(ml++mr++[Kn.nd (!e) tl tr,.nd e sl sr]))).length=N+2:=by rw[Ae,Ac,Ac,hN];simp;rfl
  have i1:((((zw (ks++(ml++mr++[Kn.nd (!e) tl tr,.nd e sl sr]))).length:Nat):Int) - 2)=((N:Nat):Int):=by rw[lN];lia
  have i2:((((zw (ks++(ml++mr++[Kn.nd (!e) tl tr,.nd e sl sr]))).length:Nat):Int) - 1)=((N+1:Nat):Int):=by rw[lN];lia
  refine qd q9 (qd q9 ?_);have M:=zH (e:=e) ML MR hN;have done:∀p,qg L2 a (.lst (zw (ks++(ml++mr++[Kn.nd (!e) tl tr,.nd e sl sr])))) p=none->∀R,Mir ks (.node e l r) (ml++mr++[Kn.nd (!e) tl tr,.nd e sl sr]) R N (N+1)->
   fz Q (.ref p) (qg (qg L2 a (.lst (zw (ks++(ml++mr++[Kn.nd (!e) tl tr,.nd e sl sr]))))) p (.lst [qm R,.int ((N:Nat):Int),.int ((N+1:Nat):Int)])):=fun p hp R MM=>by
   have npa:p≠a:=fun z=>by rw[z,q9] at hp;cases hp
   rw[qb npa] at hp;have np:L p=none:=by cases z:L p with|none=>rfl|some o=>rw[old p o npa z] at hp;cases hp
   refine cD ?_ (q _ _ _ _ p np MM);intro b o z;by_cases c1:b=p
   ·subst c1;rw[q9] at z ⊢;exact z
   ·rw[qb c1] at z ⊢;by_cases c2:b=a
    ·subst c2;rw[q9] at z ⊢;exact z
    ·rw[qb c2] at z ⊢;exact old b o c2 z
  cases e with
  |true=>
   have key:[qm (.ei (if true=true then N+1 else N) (.bo (if true=true then N else N+1) A B)),Y.int ((N:Nat):Int),Y.int ((N+1:Nat):Int)]=[.tup [.str "either",.int ((((zw (ks++(ml++mr++[Kn.nd (!true) tl tr,.nd true sl sr]))).length:Nat):Int) - 1),.tup [.str "both",.int ((((zw (ks++(ml++mr++[Kn.nd (!true) tl tr,.nd true sl sr]))).length:Nat):Int) - 2),qm A,qm B]],.int ((((zw (ks++(ml++mr++[Kn.nd (!true) tl tr,.nd true sl sr]))).length:Nat):Int) - 2),.int ((((zw (ks++(ml++mr++[Kn.nd (!true) tl tr,.nd true sl sr]))).length:Nat):Int) - 1)]:=by rw[i1,i2];rfl
   walk_at "w";refine qd (h1' _) (qd (h2' _) fun p hp=>?_);have:=done p hp _ M;rw[key] at this;exact this
  |false=>
   have key:[qm (.ei (if false=true then N+1 else N) (.bo (if false=true then N else N+1) A B)),Y.int ((N:Nat):Int),Y.int ((N+1:Nat):Int)]=[.tup [.str "either",.int ((((zw (ks++(ml++mr++[Kn.nd (!false) tl tr,.nd false sl sr]))).length:Nat):Int) - 2),.tup [.str "both",.int ((((zw (ks++(ml++mr++[Kn.nd (!false) tl tr,.nd false sl sr]))).length:Nat):Int) - 1),qm A,qm B]],.int ((((zw (ks++(ml++mr++[Kn.nd (!false) tl tr,.nd false sl sr]))).length:Nat):Int) - 2),.int ((((zw (ks++(ml++mr++[Kn.nd (!false) tl tr,.nd false sl sr]))).length:Nat):Int) - 1)]:=by rw[i1,i2];rfl
   walk_at "w";refine qd (h1' _) (qd (h2' _) fun p hp=>?_);have:=done p hp _ M;rw[key] at this;exact this
end L3
variable {R:L3.Ru}{ks ks':List L3.Kn}{out wd:List (Option L3.Kn)}
namespace L3
open PySem L2 Words
def sR(p0:x0):ww:=(qt (xf (lV (yB (dr false (qc 0))) (yB (za p0 (wu (qc 0))))) (jm (v5 z0)) jp)
 (jm (v5 (aY (jw 0 1) (jw 0 2)))))
def l9:Option Kn->Y
 |none=>.non
 |some k=>ig k
abbrev kh(ks:List (Option Kn)):List Y:=ks.map l9
def ju:Option Kn->List Nat
 |some (.nd _ i j)=>[i,j]
 |_=>[]
def jH:x0:=fun ys L Q=>∃k:Option Kn,ys=[l9 k]/\∀p,L p=none->Q (.ref p) (qg L p (.lst (nY (ju k))))
theorem aai:∀ys L Q,jH ys L Q->v3 (sR dk) 1 ys L Q:=by
 rintro ys L Q ⟨k,rfl,q⟩;cases k with
 |none=>exact fun p hp=>x8 (q p hp)
 |some k=>
  cases k with|lf t n=>exact⟨true,t,_,rfl,fun p hp=>x8 (q p hp)⟩|nd e i j=>exact⟨false,e,_,rfl,fun p hp=>x8 (q p hp)⟩
def mE(f:Option Kn->Bool)(ks:List (Option Kn))(i:Nat):List Nat:=(List.range i).filter fun p=>match ks[p]? with
 |some k=>f k
 |none=>false
theorem ou{f:Option Kn->Bool}{ks:List (Option Kn)}{k:Option Kn}(h:ks[i]?=some k):mE f ks (i+1)=mE f ks i++if f k=true then [i] else []:=by unfold mE;rw[DU,BE];congr 1;rw[Bl];simp only[h,Dn]
theorem t8{f:Option Kn->Bool}{ks:List (Option Kn)}{p:Nat}(h:p∈mE f ks i):p<i/\∃k,ks[p]?=some k/\f k=true:=by
 unfold mE at h;obtain⟨h1,h2⟩:=AS.mp h;refine⟨Bb.mp h1,?_⟩;split at h2
 ·rename_i k e;exact⟨k,e,h2⟩
 ·cases h2
theorem acq(f:Option Kn->Bool)(ks:List (Option Kn))(i:Nat):(mE f ks i).length≤i:=by unfold mE;exact AW (List.length_filter_le _ _) (by rw[BM];simp +arith only)
def aat:Option Kn->Bool
 |some _=>true
 |none=>false
def vk(e:Bool):Option Kn->Bool
 |some (.nd e' _ _)=>decide (e'=e)
 |_=>false
abbrev jZ(ks:List (Option Kn)):List Nat:=mE aat ks ks.length
theorem i3(a b:List Nat):nY (a++b)=nY a++nY b:=by unfold nY;rw[AG]
theorem kR{hs:List Nat}(h:(nY hs)[i]?=some y):∃n,hs[i]?=some n/\y=.int (n:Int):=by unfold nY at h;rw[Aq] at h;obtain⟨n,e1,e2⟩:=Ay.mp h;exact⟨n,e1,e2.symm⟩
abbrev aj7(a l c:Addr):Y:=.tup [.ref a,.ref l,.ref c]
theorem ao2(a b:Nat):min (a:Int) (b:Int)=((min a b:Nat):Int):=by omega
theorem amo(a b:Nat):max (a:Int) (b:Int)=((max a b:Nat):Int):=by omega
def prN(p:Nat×Nat):Y:=.tup [.int ((p.1:Nat):Int),.int ((p.2:Nat):Int)]
abbrev xp(l:List (Nat×Nat)):List Y:=l.map prN
theorem vZ(k:Option Kn):(ju k).length≤2:=by unfold ju;split<;>simp
end L3
namespace TS
open PySem PyProof.Rows PySem.W PySem.Calls
section
variable {w:World} 
abbrev keyBody(kx px:Str)(p1 p2 p3 p4 p5:Pos)(n:Nat):Expr:=.Tuple [.Subscript (.Name kx p1) (.Name px p2) p3,.Name px p4] n p5
structure kA(h:Heap)(f:Addr)(kx px:Str)(scope:Scope)(kvs:List Value):Prop where
 ex:∃(name qual:Str) (params:Arguments) (p1 p2 p3 p4 p5:Pos) (n:Nat) (pm ctv:Value) (c' cell k:Addr),h.get? f=some (kla_obj name qual params (keyBody kx px p1 p2 p3 p4 p5 n) scope [(kx,cell)] pm c' ctv)/\h.CodeRec (.ref c') qual/\
  h.IsCell cell (some (.ref k))/\h.IsList k kvs.toArray/\∀v:Value,bindArgs (kla_fn name qual params (keyBody kx px p1 p2 p3 p4 p5 n) scope [(kx,cell)] pm (.ref c') ctv) ⟨[v],[]⟩=pure [(px,v)]
 lim:h.NoLimit
structure KeySc(scope:Scope)(kx px:Str):Prop where
 kind:scope.kind=.function
 co:scope.isCoroutine=false
 gen:scope.isGenerator=false
 nc:∀x∈scope.names,x.2≠.cell
 lp:scope.names.lookup px=some .local
 lk:scope.names.lookup kx=some .free
 d1:(kx==("__debug__" : Str))=false
 d2:(px==("__debug__" : Str))=false
 d3:(kx==("__classdict__" : Str))=false
theorem kA.keeps{kvs:List Value}(k:kA h f kx px scope kvs)(hk:∀b o,h.get? b=some o->h'.get? b=some o):kA h' f kx px scope kvs:=by
 obtain⟨name,qual,params,p1,p2,p3,p4,p5,n,pm,ctv,c',cell,kk,g1,g2,g3,g4,g5⟩:=k.ex;refine⟨⟨name,qual,params,p1,p2,p3,p4,p5,n,pm,ctv,c',cell,kk,hk _ _ g1,?_,?_,?_,g5⟩,k.lim.keeps hk⟩
 ·obtain⟨c,oc,vs,tq,e1,e2,e3⟩:=g2;exact⟨c,oc,vs,tq,e1,hk _ _ e2,e3⟩
 ·obtain⟨o,e1,e2⟩:=g3;exact⟨o,hk _ _ e1,e2⟩
 ·obtain⟨o,e1,e2⟩:=g4;exact⟨o,hk _ _ e1,e2⟩
theorem aiz{kvs:List Value}{u t:Tok}{r:Int}(K:kA s.heap f kx px scope kvs)(S:KeySc scope kx px)(hroom:A.depth<recursionLimit)(hi:kvs[i]?=some (.int r t))(hi2:i<2 ^ 40)
 (h:∀h' tk a,(∀b o,s.heap.get? b=some o->h'.get? b=some o)->h'.get? a=some { cls:=.type "tuple",data:=.seq #[.int r t,.int (i:Int) u] }->Q (.ref a) { s with heap:=h',toks:=tk }):
 wpAny (model prog w) A (call (.ref f) [.int (i:Int) u]) Q E s:=by
 obtain⟨name,qual,params,p1,p2,p3,p4,p5,n,pm,ctv,c',cell,kk,g1,g2,g3,g4,g5⟩:=K.ex;refine wpAny_call (kla_callFunE hroom g1 rfl S.co S.gen rfl g2 ?_);rw[g5];refine Ah (wpAny_newFunctionEnv S.nc (fun x hx=>by rw[Ak.mp hx];exact S.lp) (fun h₁ hns hsb=>⟨K.lim.fresh _ hsb,?_⟩) S.kind);have k1:∀b o,s.heap.get? b=some o->h₁.get? b=some o:=fun b o e=>hsb.extBut b o (Bd (Heap.lt_size e)) (Heap.get?_push_of_some _ e);show codeAny _ _ (.expr _ (envX qual scope s.heap.objs.size f (.ref c') [(kx,cell)])) _ _;refine kla_codeExpr ?_;have look:(([(px,Value.int (i:Int) u)]:List (Str×Value)).reverse.lookup px)=some (.int (i:Int) u):=by simp
 have kf:(envX qual scope s.heap.objs.size f (.ref c') [(kx,cell)]).kindOf kx=some .free:=S.lk;have kp:(envX qual scope s.heap.objs.size f (.ref c') [(kx,cell)]).kindOf px=some .local:=S.lp;have cl:(envX qual scope s.heap.objs.size f (.ref c') [(kx,cell)]).cells.lookup kx=some cell:=by show([(kx,cell)]:List (Str×Addr)).lookup kx=_;simp
 have ic:h₁.IsCell cell (some (.ref kk)):=by obtain⟨o,e1,e2⟩:=g3;exact⟨o,k1 _ _ e1,e2⟩
 have il:h₁.IsList kk kvs.toArray:=by obtain⟨o,e1,e2⟩:=g4;exact⟨o,k1 _ _ e1,e2⟩
 refine wpAny_Tuple_spliced (Calls.spliced_cons (Subscript_ (wpAny_Name (wpAny_loadName_free S.kind kf cl ic (wpAny_Name (wpAny_loadName_local S.kind kp hns look ?_) S.d2) S.d3) S.d1)));refine item_listL il (by exact A7 _) (by omega) (by rw[show((i:Nat):Int).toNat=i from rfl];exact hi) ?_;refine Calls.spliced_cons (wpAny_Name (wpAny_loadName_local S.kind kp hns look ?_) S.d2);refine Calls.spliced_nil ⟨by show 2≤sizeLine;decide,?_⟩;exact h _ _ _ (fun b o e=>Heap.get?_push_of_some _ (k1 b o e)) (Heap.get?_push_size _ rfl)
end
theorem yp(f:α->β):∀{l m:List β},l.Perm m->∀{T:List α},T.map f=m->∃T':List α,T'.Perm T/\T'.map f=l:=by
 intro l m p
 induction p with
 |nil=>intro T e;exact⟨T,BG _,e⟩
 |cons x _ ih=>
  intro T e;cases T with
  |nil=>cases e
  |cons t r=>
   rw[AF] at e;obtain⟨e1,e2⟩:=CO e;obtain⟨T',p',e'⟩:=ih e2;exact⟨t::T',p'.cons t,by rw[AF,e',e1]⟩
 |swap x y l=>
  intro T e
  match T,e with
  |t::u::r,e=>
   rw[AF,AF] at e;obtain⟨e1,e2⟩:=CO e;obtain⟨e3,e4⟩:=CO e2;exact⟨u::t::r,List.Perm.swap t u r,by rw[AF,AF,e1,e3,e4]⟩
 |trans _ _ ih1 ih2=>
  intro T e;obtain⟨T1,p1,e1⟩:=ih2 e;obtain⟨T2,p2,e2⟩:=ih1 e1;exact⟨T2,p2.trans p1,e2⟩
def itV(x:Nat×Tok):Value:=.int (x.1:Int) x.2
def agp(h:Heap)(kS:Addr)(rk:Nat->Int)(k:Value)(x:Nat×Tok):Prop:=∃a t u,k=.ref a/\a≠kS/\h.get? a=some { cls:=.type "tuple",data:=.seq #[.int (rk x.1) t,.int (x.1:Int) u] }
def iA(h:Heap)(kS:Addr)(rk:Nat->Int):List Value->List (Nat×Tok)->Prop
 |[],[]=>True
 |k::ks,x::xs=>agp h kS rk k x/\iA h kS rk ks xs
 |_,_=>False
theorem iA.len{h:Heap}{kS:Addr}{rk:Nat->Int}:∀{ks:List Value} {xs:List (Nat×Tok)},iA h kS rk ks xs->ks.length=xs.length
 |[],[],_=>rfl
 |_::_,_::_,⟨_,b⟩=>by rw[AK,AK,iA.len b]
 |[],_::_,z=>z.elim
 |_::_,[],z=>z.elim
theorem iA.mem{h:Heap}{kS:Addr}{rk:Nat->Int}:∀{ks:List Value} {xs:List (Nat×Tok)},iA h kS rk ks xs->∀t∈ks.zip xs,agp h kS rk t.1 t.2
 |[],[],_,t,ht=>by cases ht
 |_::_,_::_,⟨a,b⟩,t,ht=>by
  rw[Dt] at ht;rcases Av.mp ht with rfl | ht
  ·exact a
  ·exact iA.mem b t ht
 |[],_::_,z,_,_=>z.elim
 |_::_,[],z,_,_=>z.elim
section
variable {w:World} 
theorem yx{g:Heap}{f:Addr}{kx px:Str}{scope:Scope}{kvs:List Value}{kS:Addr}{rk:Nat->Int}{body:Value->PUnit->Sem (ForInStep PUnit)}(K:kA g f kx px scope kvs)(S:KeySc scope kx px)(hroom:A.depth<recursionLimit)(hn:g.get? kS=none)
 (hb:∀(x:Value) (s:Shared) (Q':ForInStep PUnit->Shared->Prop),wpAny (model prog w) A (call (.ref f) [x]) (fun k s'=>wpAny (model prog w) A (Builtin.List.listUpdate (.ref kS) (·.push k)) (fun _ s''=>Q' (.yield ⟨⟩) s'') E s') (fun _ _=>False) s->wpAny (model prog w) A (body x ⟨⟩) Q' E s):
 ∀(ps:List (Nat×Tok)) (ks:List Value) (e:Nat) (s:Shared) (Q:PUnit->Shared->Prop),(∀b o,g.get? b=some o->s.heap.get? b=some o)->s.heap.get? kS=some (seqObj "list" ks.toArray e)->ks.length+ps.length≤100000->
  (∀x∈ps,x.1<2 ^ 40/\∃t,kvs[x.1]?=some (.int (rk x.1) t))->
  (∀h' tk ks2 e',(∀b o,b≠kS->s.heap.get? b=some o->h'.get? b=some o)->h'.get? kS=some (seqObj "list" (ks++ks2).toArray e')->iA h' kS rk ks2 ps->Q ⟨⟩ { s with heap:=h',toks:=tk })->
  wpAny (model prog w) A (forIn (ps.map itV) PUnit.unit body) Q E s
 |[],ks,e,s,Q,hg,hk,hz,hp,q=>by rw[C1,DW];exact Ah (q s.heap s.toks [] e (fun _ _ _ h=>h) (by rw[AQ];exact hk) trivial)
 |x::r,ks,e,s,Q,hg,hk,hz,hp,q=>by
  rw[AF,CQ];rw[AK] at hz;obtain⟨x40,t,ht⟩:=hp x (Ap ..);have big:(100000:Nat)+1≤sizeLine:=by rw[sizeLine_eq];exact Cu _ _
  refine Aa (hb (itV x) s _ (aiz (K.keeps hg) S hroom ht x40 fun h1 tk1 a k1 ha=>?_));have hkS1:h1.get? kS=some (seqObj "list" ks.toArray e):=k1 _ _ hk;have s1:=Heap.SameBut.update h1 kS (Obj.mapSeq (·.push (.ref a)));have ea:ks.toArray.push (.ref a)=List.toArray (ks++[.ref a]):=by simp
  obtain⟨c2,hc2⟩:∃c2,(h1.update kS (Obj.mapSeq (·.push (.ref a)))).get? kS=some (seqObj "list" (List.toArray (ks++[.ref a])) c2):=⟨_,by rw[<-ea];exact get?_update_seq hkS1 (·.push (.ref a))⟩;have nak:a≠kS:=fun z=>by
   rw[z,hkS1] at ha;have:=BR (fun o:Option Obj=>o.map (·.cls)) ha;have z2:some (Value.type "list")=some (Value.type "tuple"):=this;injection z2 with z3
   injection z3 with z4
   exact absurd z4 (by decide)
  refine listUpdate_at (s:={ s with heap:=h1,toks:=tk1 }) hkS1 rfl ?_ (by rw[Am];lia) (AW (Nat.le_of_eq (Bk ..)) (by rw[Am];lia));refine yx K S hroom hn hb r (ks++[.ref a]) c2 { s with heap:=h1.update kS (Obj.mapSeq (·.push (.ref a))),toks:=tk1 } Q (fun b o e=>?_) hc2 (by rw[Ac,C8];lia) (fun y hy=>hp y (Ag _ hy)) fun h' tk ks2 e' kk hk' vs=>?_
  ·have nb:b≠kS:=fun z=>by rw[z,hn] at e;cases e
   exact(s1.2 b nb).trans (k1 b o (hg b o e))
  ·have keep1:∀b o,b≠kS->h1.get? b=some o->h'.get? b=some o:=fun b o nb e=>kk b o nb ((s1.2 b nb).trans e);refine q h' tk (.ref a::ks2) e' (fun b o nb e=>keep1 b o nb (k1 b o e)) (by rw[hk',AD];rfl) ⟨⟨a,t,x.2,rfl,nak,keep1 a _ nak ha⟩,vs⟩
end
theorem pP{α β γ:Type}{F:α->β}{G:α->γ}:∀{l:List α},(∀x∈l,∀y∈l,F x=F y->G x=G y)->(l.map G).Nodup->(l.map F).Nodup
 |[],_,_=>Du
 |a::r,h,n=>by rw[AF] at n ⊢;obtain⟨n1,n2⟩:=Aw.mp n;refine Aw.mpr ⟨fun z=>?_,pP (fun x hx y hy=>h x (Ag _ hx) y (Ag _ hy)) n2⟩;obtain⟨y,hy,e⟩:=AX.mp z;have:=h y (Ag _ hy) a (Ap ..) e;exact n1 (this▸Ci hy)
theorem xZ{r1 r2 p1 p2:Int}(h1:0≤p1)(h2:p1<B)(h3:0≤p2)(h4:p2<B)(e:r1*B+p1=r2*B+p2):p1=p2:=by
 have hB:B≠0:=by lia
 have a1:(r1*B+p1) % B=p1:=by rw[Int.add_comm,Dp];exact Int.emod_eq_of_lt h1 h2
 have a2:(r2*B+p2) % B=p2:=by rw[Int.add_comm,Dp];exact Int.emod_eq_of_lt h3 h4
 rw[<-a1,e,a2]
section
variable {w:World} 
theorem afr{g:Heap}{kvs:List Value}{kS a:Addr}{rk:Nat->Int}{ps:List (Nat×Tok)}{e1 e0:Nat}{P:PySem.Fin->Shared->Prop}(K:kA g f kx px scope kvs)(S:KeySc scope kx px)(hroom:A.depth<recursionLimit)(hn:g.get? kS=none)
 (hg:∀b o,g.get? b=some o->s.heap.get? b=some o) (hk:s.heap.get? kS=some (seqObj "list" #[] e0)) (ha:s.heap.get? a=some (seqObj "list" #[] e1)) (hka:kS≠a) (hz:ps.length≤100000)
 (hp:∀x∈ps,x.1<2 ^ 40/\∃t,kvs[x.1]?=some (.int (rk x.1) t)) (hB:∀x∈ps,((x.1:Nat):Int)<B) (nd:(ps.map (·.1)).Nodup)
 (h:∀h' tk (qs:List (Nat×Tok)) c,(∀b o,b≠kS->b≠a->s.heap.get? b=some o->h'.get? b=some o)->h'.get? a=some (seqObj "list" (qs.map itV).toArray c)->qs.Perm ps->(qs.Pairwise fun x y=>rk x.1*B+(x.1:Int)≤rk y.1*B+(y.1:Int))->P (.done (.ret .none)) { s with heap:=h',toks:=tk }):
 wpAny (model prog w) A (ksk_rest a (.ref f) false (ps.map itV).toArray e1 (.ref kS)) P E s:=by
 have big:(100000:Nat)+1≤sizeLine:=by rw[sizeLine_eq];exact Cu _ _
 unfold ksk_rest;refine Aa (Bw ?_);rw[List.forIn_toArray];refine Aa (yx (rk:=rk) K S hroom hn (fun x s' Q' hx=>?_) ps [] e0 s _ hg hk (by simpa using hz) hp fun h' tk ks e' keep hk' kv=>?_)
 ·refine Aa (wpAny_attempt (AY hx (fun k s'' hk=>?_) fun _ _ hF=>hF.elim))
  try dsimp only
  exact Aa (AY hk (fun _ s3 q=>Ah q) fun _ _ e=>e)
 ·try dsimp only
  rw[Ct] at hk';refine Aa (listItems_at (s:={ s with heap:=h',toks:=tk }) hk' rfl ?_);have ha':h'.get? a=some (seqObj "list" #[] e1):=keep _ _ (AM hka) ha;have len:ks.length=ps.length:=kv.len;obtain⟨T,eT⟩:∃T,T=ks.zip ps:=⟨_,rfl⟩;have kT:∀t∈T,agp h' kS rk t.1 t.2:=fun t ht=>kv.mem t (eT▸ht);have e2:T.map (·.2)=ps:=by rw[eT];exact List.map_snd_zip (by lia)
  have ez:ks.zip (ps.map itV)=T.map fun t=>(t.1,itV t.2):=by rw[eT,List.zip_map_right];rfl
  have mp:∀t∈T,t.2∈ps:=fun t ht=>by rw[<-e2];exact Ci ht
  have nT:∀t∈T,num h' B (t.1,itV t.2)=rk t.2.1*B+(t.2.1:Int):=fun t ht=>by obtain⟨b,tt,u,x1,x2,x3⟩:=kT t ht;exact num_of x1 x3 rfl
  have hB0:∀x∈ps,(0:Int)≤((x.1:Nat):Int):=fun _ _=>by exact A7 _
  have inj:((ks.zip (ps.map itV)).map (num h' B)).Nodup:=by
   rw[ez,Bm];have e4:T.map (num h' B∘fun t=>(t.1,itV t.2))=(T.map (·.2)).map fun x:Nat×Tok=>rk x.1*B+(x.1:Int):=by rw[Bm];exact Cg fun t ht=>nT t ht
   rw[e4,e2];refine pP (G:=fun x:Nat×Tok=>x.1) (fun x hx y hy e=>?_) nd;have:=xZ (hB0 x hx) (hB x hx) (hB0 y hy) (hB y hy) e;lia
  refine ajp (s:={ s with heap:=h',toks:=tk }) (vs:=ps.map itV) (ks:=ks) (B:=B) hk' ha' hka (by rw[Ae];exact len) (by rw[Ae];exact sP) (fun v hv=>?_) inj fun h2 tk2 xs c keep2 hc pm pw=>?_
  ·obtain⟨j,hj⟩:=Dk hv;have hjl:j<ps.length:=by rw[<-len];exact(A2.mp hj).1
   have hm:(v,ps[j])∈T:=by rw[eT];refine List.mem_iff_getElem?.mpr ⟨j,?_⟩;rw[Dw];exact⟨hj,Aj hjl⟩
   obtain⟨b,tt,u,x1,x2,x3⟩:=kT _ hm;have x1:v=.ref b:=x1;exact⟨b,_,_,_,_,tt,u,x1,x3,rfl,rfl,by exact A7 _,hB _ (mp _ hm)⟩
  ·rw[ez] at pm;obtain⟨T',pT,eT'⟩:=yp _ pm rfl;subst eT';have mT:∀t,t∈T'->t∈T:=fun t=>pT.mem_iff.mp;refine h h2 tk2 (T'.map (·.2)) c (fun b o n1 n2 e=>?_) ?_ ?_ ?_
   ·rw[keep2 b n1 n2];exact keep b o n1 e
   ·rw[hc,Bm,Bm];rfl
   ·rw[<-e2];exact pT.map _
   ·refine BP.mpr (Ce (fun {x y} hx hy z=>?_) (BP.mp pw));rw[nT x (mT x hx),nT y (mT y hy)] at z;exact z
theorem w_sortedK{kvs:List Value}{rk:Nat->Int}{ps:List (Nat×Tok)}(K:kA s.heap f kx px scope kvs)(S:KeySc scope kx px)(hroom:A.in1.in1.depth<recursionLimit)
 (hl:s.heap.IsList l (ps.map itV).toArray) (hz:ps.length≤100000)
 (hp:∀x∈ps,x.1<2 ^ 40/\∃t,kvs[x.1]?=some (.int (rk x.1) t)) (hB:∀x∈ps,((x.1:Nat):Int)<B) (nd:(ps.map (·.1)).Nodup)
 (h:∀h' tk (qs:List (Nat×Tok)) D c,s.heap.objs.size≤D->(∀b o,s.heap.get? b=some o->h'.get? b=some o)->h'.get? D=some (seqObj "list" (qs.map itV).toArray c)->qs.Perm ps->(qs.Pairwise fun x y=>rk x.1*B+(x.1:Int)≤rk y.1*B+(y.1:Int))->Q (.ref D) { s with heap:=h',toks:=tk }):
 wpAny (model prog w) A (call (.builtin "sorted") [.ref l] [(Str.ofString "key",.ref f)]) Q E s:=by
 have big:(100000:Nat)+1≤sizeLine:=by rw[sizeLine_eq];lia
 have hlen:(ps.map itV).length≤100000:=by rw[Ae];exact hz
 refine call_function_entry_kw kind_sorted plain_sorted entry_sorted (ksk_s1 _ _) ?_;unfold Builtin.«sorted»;refine Aa (m:=checkCount "sorted" 1 1 _) (Ah ?_);refine Aa (collect_list hl ?_ (by exact sP));refine Aa (wpAny_newList ?_ (by lia));obtain⟨g1,eg⟩:∃g1,g1=(s.heap.push (seqObj "list" #[] 0)).update s.heap.objs.size (Obj.mapSeq (· ++ (ps.map itV).toArray)):=⟨_,rfl⟩;have gs:g1.objs.size=s.heap.objs.size+1:=by rw[eg,Heap.size_update,size_push']
 have gk:∀b o,s.heap.get? b=some o->g1.get? b=some o:=fun b o q=>by have hlt:b<s.heap.objs.size:=Heap.lt_size q;rw[eg,Heap.get?_update_ne _ _ _ _ (Bd hlt)];exact Heap.get?_push_of_some _ q
 show wpAny _ _ _ _ _ { s with heap:=((s.heap.push (seqObj "list" #[] 0)).update s.heap.objs.size (Obj.mapSeq (· ++ (ps.map itV).toArray))).push (seqObj "list" (ps.map itV).toArray 0) };rw[<-eg];have hoD:(g1.push (seqObj "list" (ps.map itV).toArray 0)).get? g1.objs.size=some (seqObj "list" (ps.map itV).toArray 0):=Heap.get?_push_size _ rfl;have keep:∀b o,s.heap.get? b=some o->(g1.push (seqObj "list" (ps.map itV).toArray 0)).get? b=some o:=fun b o q=>Heap.get?_push_of_some _ (gk b o q);refine Aa (A8 (wpAny_call_entry_kw slot_list_sort ⟨_,hoD,rfl⟩ entry_list_sort ?body (ksk_l1 _ _)))
 case body=>
  obtain⟨D,eD⟩:∃D,D=g1.objs.size:=⟨_,rfl⟩;rw[<-eD] at hoD ⊢;show wpAny (model prog w) A.in1.in1 (Builtin.«list.sort» ⟨[.ref D],[(Str.ofString "key",.ref f)]⟩) _ _ _;rw[ksk_t1];obtain⟨g2,eg2⟩:∃g2,g2=g1.push (seqObj "list" (ps.map itV).toArray 0):=⟨_,rfl⟩;rw[<-eg2] at hoD keep ⊢;have s1:=Heap.SameBut.update g2 D (Obj.mapSeq fun _=>(#[]:Array Value));obtain⟨e1,ho1⟩:∃e1,(g2.update D (Obj.mapSeq fun _=>(#[]:Array Value))).get? D=some (seqObj "list" #[] e1):=⟨_,get?_update_seq hoD fun _=>#[]⟩;have nD:∀b o,s.heap.get? b=some o->b≠D:=fun b o q z=>by have hlt:b<s.heap.objs.size:=Heap.lt_size q;rw[z,eD,gs] at hlt;exact Dj hlt
  unfold ksk_tree;refine Aa (listItems_at (s:={ s with heap:=g2 }) hoD rfl ?_);refine Aa (listUpdate_at (s:={ s with heap:=g2 }) hoD rfl ?_ (by rw[Am];exact sP) (Bf _));refine Aa (seqEpoch_at ho1 rfl ?_);refine Aa (wpAny_newTuple ?_ (by show(ps.map itV).length≤_;lia));refine Aa (wpAny_newList ?_ (Bf _));refine A8 ?_;obtain⟨g3,eg3⟩:∃g3,g3=(g2.update D (Obj.mapSeq fun _=>(#[]:Array Value))).push (seqObj "tuple" (ps.map itV).toArray 0):=⟨_,rfl⟩;have k3:∀b o,s.heap.get? b=some o->g3.get? b=some o:=fun b o q=>by rw[eg3];exact Heap.get?_push_of_some _ ((s1.2 b (nD b o q)).trans (keep b o q))
  have d3:g3.get? D=some (seqObj "list" #[] e1):=by rw[eg3];exact Heap.get?_push_of_some _ ho1
  show wpAny (model prog w) A.in1.in1 (ksk_rest D (.ref f) false (ps.map itV).toArray _ (.ref ((g2.update D (Obj.mapSeq fun _=>(#[]:Array Value))).push (seqObj "tuple" (ps.map itV).toArray 0)).objs.size)) _ _ { s with heap:=((g2.update D (Obj.mapSeq fun _=>(#[]:Array Value))).push (seqObj "tuple" (ps.map itV).toArray 0)).push (seqObj "list" #[] 0) };rw[<-eg3];have hkS:(g3.push (seqObj "list" #[] 0)).get? g3.objs.size=some (seqObj "list" #[] 0):=Heap.get?_push_size _ rfl;refine afr (s:={ s with heap:=g3.push (seqObj "list" #[] 0) }) (g:=s.heap) (kS:=g3.objs.size) (a:=D) (rk:=rk) (B:=B) K S hroom (Heap.get?_none_of_le ?_) (fun b o q=>Heap.get?_push_of_some _ (k3 b o q)) hkS (Heap.get?_push_of_some _ d3) ?_ hz hp hB nd fun h' tk qs c kp hD pm pw=>?_
  ·have l1:g3.objs.size=g1.objs.size+2:=by rw[eg3,size_push',Heap.size_update,eg2,size_push']
   rw[l1,gs];exact AW (BW _) (A5 _ 2)
  ·exact(Bd (Heap.lt_size d3)).symm
  ·refine⟨_,rfl,Ah ⟨_,rfl,h h' tk qs D c (by rw[eD,gs];exact BW _) (fun b o q=>?_) hD pm pw⟩⟩;exact kp b o (Bd (Heap.lt_size (k3 b o q))) (nD b o q) (Heap.get?_push_of_some _ (k3 b o q))
end
end TS
namespace L2
open PySem PySem.Spec PyProof.Rows
theorem oH{i j:Int}{t u:Tok}{c:Value}(l:List Value)(h:TriplesOk l):TriplesOk (l++[.int i t,.int j u,c]):=by
 fun_induction TriplesOk l with
 |case1=>trivial
 |case2 _ _ _ _ _ rest ih=>exact ih h
 |case3=>exact h.elim
theorem sE{i j:Int}{t u:Tok}{c cv:Value}(l:List Value)(h:TriplesOk l)(e:codeAmong pos (l++[.int i t,.int j u,c])=some cv):codeAmong pos l=some cv\/cv=c:=by
 fun_induction TriplesOk l with
 |case1=>
  right;have e:(if i==pos.line&&j==pos.col then some c else none)=some cv:=e;split at e
  ·cases e;rfl
  ·cases e
 |case2 a _ b _ d rest ih=>
  have e:(if a==pos.line&&b==pos.col then some d else codeAmong pos (rest++[.int i t,.int j u,c]))=some cv:=e;show(if a==pos.line&&b==pos.col then some d else codeAmong pos rest)=some cv\/cv=c;split at e
  ·rename_i z;rw[AB z];exact .inl e
  ·rename_i z;rw[Az z];exact ih h e
 |case3=>exact h.elim
structure ur(K:Ai)(cdv:Value)(P:Addr):Prop where
 ex:∃c oc,cdv=.ref c/\K.lookup c=some oc/\∀h:Heap,h.get? c=some oc->PySem.W.CodeHd h c P
 bm:∃bm ob,PySem.W.nsIn K mainGlobals "__builtins__" = some (some (.ref bm))/\bm≠builtinsNs/\bm≠mainGlobals/\K.lookup bm=some ob/\ob.cls=.type "module" /\ ob.dict=some builtinsNs/\ob.data=.plain
theorem pK:∀{l:List Nat} {us:List Value},ze (l.map fun i:Nat=>V.int (0+(i:Int))) us->∃ps:List (Nat×Tok),us=ps.map TS.itV/\ps.map (·.1)=l
 |[],_,.nil=>⟨[],rfl,rfl⟩
 |i::r,_,.cons (b:=u) h t=>by obtain⟨ps,e1,e2⟩:=pK (l:=r) t;obtain⟨tk,e3⟩:=(show ∃tk,u=Value.int (0+(i:Int)) tk from h);refine⟨(i,tk)::ps,?_,by rw[AF,e2]⟩;rw[AF,e1,e3];show _=Value.int (i:Int) tk::_;rw[Cr]
theorem qP:∀ps:List (Nat×Tok),ze (ps.map fun x=>V.int ((x.1:Nat):Int)) (ps.map TS.itV)
 |[]=>.nil
 |x::r=>.cons ⟨x.2,rfl⟩ (qP r)
def agu(P:Addr)(q:Str)(ik:Nat)(te:TE):TE:=fun σ H Q=>te σ H fun v H1=>∃l kk,∃n:Nat,∃rks:List Int,v=.ref l/\H1 l=some (.lst ((List.range n).map fun i:Nat=>V.int (0+(i:Int))))/\σ[ik]?=some (some (.ref kk))/\H1 kk=some (.lst (rks.map V.int))/\rks.length=n/\n≤1000/\mv H1 P q/\
 ∀H2 D (qs:List Nat),(∀b u,b≠P->H1 b=some u->H2 b=some u)->mv H2 P q->H1 D=none->D≠P->H2 D=some (.lst (qs.map fun i:Nat=>V.int (i:Int)))->qs.Perm (List.range n)->(qs.Pairwise fun i j=>rks.getD i 0*1000000+(i:Int)≤rks.getD j 0*1000000+(j:Int))->Q (.ref D) H2
section
theorem vV{kk cell c':Addr}{params:Arguments}{ctv:Value}{Q:VK}(I:qx X pins σ H s)(S:TS.KeySc lscope kx px)(hr:X.A.depth+3<recursionLimit)
 (hf:s.heap.get? f=some (PySem.W.kla_obj name qual params (TS.keyBody kx px p1 p2 p3 p4 p5 x1) lscope [(kx,cell)] pm c' ctv)) (hcd:s.heap.CodeRec (.ref c') qual) (hcell:s.heap.IsCell cell (some (.ref kk)))
 (hb:∀v:Value,bindArgs (PySem.W.kla_fn name qual params (TS.keyBody kx px p1 p2 p3 p4 p5 x1) lscope [(kx,cell)] pm (.ref c') ctv) ⟨[v],[]⟩=pure [(px,v)])
 (hl:H l=some (.lst ((List.range n).map fun i:Nat=>V.int (0+(i:Int))))) (hk:H kk=some (.lst (rks.map V.int))) (hn:rks.length=n) (hz:n≤1000)
 (q:∀D (qs:List Nat),H D=none->qs.Perm (List.range n)->(qs.Pairwise fun i j=>rks.getD i 0*1000000+(i:Int)≤rks.getD j 0*1000000+(j:Int))->Q (.ref D) (upd H D (.lst (qs.map fun i:Nat=>V.int (i:Int))))):
 wpAny (model X.prog X.w) X.A (call (.builtin "sorted") [.ref l] [(Str.ofString "key",.ref f)]) (EP X pins σ Q) X.xe s:=by
 obtain⟨its,rv,pl,_⟩:=I.list (EW hl);obtain⟨kits,rk,pk,_⟩:=I.list (EW hk);obtain⟨ps,rfl,eps⟩:=pK rv;have lk:kits.length=n:=by rw[<-rk.length,Ae,hn]
 have lp:ps.length=n:=by have:=BR List.length eps;rwa[Ae,BM] at this
 have big:(100000:Nat)≤sizeLine:=by decide
 refine jr I.tk (TS.w_sortedK (rk:=fun i=>rks.getD i 0) (B:=1000000) (kvs:=kits) ⟨⟨name,qual,params,p1,p2,p3,p4,p5,x1,pm,ctv,c',cell,kk,hf,hcd,hcell,pk.isList,hb⟩,I.nolimit⟩ S ?_ pl.isList (by lia) (fun x hx=>?_) (fun x hx=>?_) ?_ fun h' tk qs D c hD keep hg pm' pw ht=>?_)
 ·show X.A.depth<recursionLimit;lia
 ·have hx1:x.1∈List.range n:=by rw[<-eps];exact Ci hx
  have hx2:=Bb.mp hx1;refine⟨by lia,?_⟩;have e1:(rks.map V.int)[x.1]?=some (V.int (rks.getD x.1 0)):=by rw[Aq,Aj (by lia),Br,Aj (by lia)];rfl
  obtain⟨u,e2,r2⟩:=Words.Paired.getP rk e1;obtain⟨t,rfl⟩:=(show ∃t,u=Value.int (rks.getD x.1 0) t from r2);exact⟨t,e2⟩
 ·have hx1:x.1∈List.range n:=by rw[<-eps];exact Ci hx
  have hx2:=Bb.mp hx1;omega
 ·rw[eps];exact BL
 ·have hfr:H D=none:=I.hok.fresh hD;refine⟨.ref D,_,I.laid (t':=tk) (o:=.lst ((qs.map (·.1)).map fun i:Nat=>V.int (i:Int))) keep hD ?_,rfl,q D (qs.map (·.1)) hfr ?_ ?_⟩
  ·refine⟨?_,qs.map TS.itV,c,?_,hg⟩
   ·rw[Ae,Ae,pm'.length_eq];lia
   ·rw[Bm];exact qP qs
  ·rw[<-eps];exact pm'.map _
  ·exact BP.mpr pw
end
section
theorem qx.tabbed{P c':Addr}{ps more:Array Value}{oc fo:Obj}{tk:Nat}(I:qx X pins σ H s)(hP:H P=some (.tbl ps))(hx:Heap.ExtBut P s.heap h')(htb:h'.get? P=some (PySem.W.tabObj (ps++more)))
 (hc:s.heap.objs.size≤c') (hoc:h'.get? c'=some oc) (ht:0<tk):qx X pins σ (upd (upd H P (.tbl (ps++more))) c' (.frz oc (.own 0))) { s with heap:=h'.push fo,toks:=tk }:=by
 have nc:H c'=none:=I.hok.fresh hc;have nP:∀b,H b=none->b≠P:=fun b e z=>by rw[z,hP] at e;cases e
 have nC:∀b u,H b=some u->b≠c':=fun b u e z=>by rw[z,nc] at e;cases e
 have oldC:∀b o,s.heap.get? b=some o->b≠c':=fun b o e=>Bd (AR (Heap.lt_size e) hc);have kp:∀b o,b≠P->s.heap.get? b=some o->(h'.push fo).get? b=some o:=fun b o n e=>Heap.get?_push_of_some _ (hx b o n e);have nPt:∀b u,H b=some u->(∀ps,u≠.tbl ps)->b≠P:=fun b u e d z=>by rw[z,hP] at e;cases e;exact d _ rfl
 refine I.step (ch:=[]) (g':=s.gens) (d':=s.drawn) (t':=tk) (fun _ z=>nomatch z) (fun b o _ _ _ e n=>kp b o (nP b n) e) (fun b o _ _ _ e n=>⟨o.slots,kp b o (nP b n) e⟩) (fun b o _ e n=>?_) (fun b o _ e=>?_) (fun b xs e=>?_) (fun b o u e=>?_) (fun b qs e=>?_) (fun m hm=>?_) (fun b u e=>?_) I.bare ht
 ·rw[qr (oldC b o e),qr (nP b n)];exact n
 ·by_cases c:b=P
  ·subst c;exact⟨_,Heap.get?_push_of_some _ htb⟩
  ·exact⟨o,kp b o c e⟩
 ·rw[qr (nC b _ e),qr (nPt b _ e fun _ z=>by cases z)];exact e
 ·rw[qr (nC b _ e),qr (nPt b _ e fun _ z=>by cases z)];exact e
 ·rw[qr (nC b _ e)];by_cases c:b=P
  ·subst c;rw[hP] at e;cases e;exact⟨more,j4⟩
  ·rw[qr c];exact⟨#[],by rw[e];simp⟩
 ·exact(hm.extBut hx (nP _ I.free)).push _
 ·by_cases c:b=c'
  ·subst c;rw[j4] at e;cases e;exact⟨Heap.get?_push_of_some _ hoc,_,Heap.get?_push_of_some _ hoc⟩
  ·rw[qr c] at e;by_cases d:b=P
   ·subst d;rw[j4] at e;cases e;exact Heap.get?_push_of_some _ htb
   ·rw[qr d] at e;refine(I.hok b u e).stay (fun a v ha r=>kp a v ?_ r) (fun a r=>?_) (fun a xs r=>?_)
    ·rcases ha with rfl | ha
     ·exact d
     ·exact nPt a _ ha fun _ z=>by cases z
    ·rw[qr (nC a _ r),qr (nPt a _ r fun _ z=>by cases z)];exact r
    ·rw[qr (nC a _ r),qr (nPt a _ r fun _ z=>by cases z)];exact r
theorem yH{te:TE}{params:Arguments}{lpos:Pos}{ik:Nat}{P:Addr}(hg:Gl X "sorted")(hm:X.mg "sorted" = none)(he:PE X e te)(S:TS.KeySc lscope kx px)(C:ur X.K X.env.code P)(hr:X.A.depth+3<recursionLimit)
 (hq:X.env.qual ++ "<lambda>" = q) (hix:X.N[ik]?=some kx) (hck:X.env.scope.names.lookup kx=some .cell) (hclo:∃cell,X.env.cells.lookup kx=some cell/\closureFor lscope X.env=pure [(kx,cell)])
 (hdef:defaultsOf params X.env=([],[])) (hb:∀(name qual:Str) (cl:List (Str×Addr)) (pm cd ct v:Value),bindArgs (PySem.W.kla_fn name qual params (TS.keyBody kx px p1 p2 p3 p4 p5 x1) lscope cl pm cd ct) ⟨[v],[]⟩=pure [(px,v)])
 (h1:starEach [e] X.env=(false,eval e X.env)::starEach [] X.env:=by rfl) (h2:(backTo pos (starEach [e] X.env)).any (·.1)=false:=by rfl)
 (h3:backTo pos (starEach [e] X.env)=(false,eval e X.env)::backTo pos (starEach [] X.env):=by rfl):
 PE X (.Call (.Name "sorted" p) [e] [⟨some "key",.Lambda params (TS.keyBody kx px p1 p2 p3 p4 p5 x1) lscope lpos,kpos⟩] pos) (agu P q ik te):=by
 intro pins s σ H Q I h;refine wpAny_Call_Name_kw (du I hg hm (by decide +kernel:bootBuiltins "sorted" = some (.builtin "sorted")) ?_ (by decide) (by decide));refine PyProof.Rows.callWith_kw ?_ h3 h2;rw[h3];refine Calls.spliced_cons (v0 (he pins s σ H _ I h) fun v s1 ⟨x,H1,I1,rx,l,kk,n,rks,ev,hl,hs,hk,hn,hz,T,qq⟩=>?_);refine Calls.spliced_nil ?_;subst ev;cases (show v=Value.ref l from rx);show wpAny _ _ (evalAll ((do let v <-eval (.Lambda params (TS.keyBody kx px p1 p2 p3 p4 p5 x1) lscope lpos) X.env;standAt pos;pure v)::[])) _ _ s1;refine wpAny_evalAll_cons (Aa ?_);obtain⟨cell,ecell,eclo⟩:=hclo;obtain⟨c,oc0,ecd,lc,hC⟩:=C.ex;obtain⟨bm,ob,b1,b2,b3,b4,b5,b6,b7⟩:=C.bm;obtain⟨tps,tP,tok,tall⟩:=T;have hgs:s1.heap.Ns mainGlobals X.mg:=I1.ok.mod.glob.keeps I1.bk;have hPo:s1.heap.get? P=some (PySem.W.tabObj tps):=I1.hok P _ tP;have Chd:PySem.W.CodeHd s1.heap c P:=hC _ (I1.kIn c oc0 lc);have baseNe:∀b o,X.base.get? b=some o->b≠P:=fun b o e z=>by have:=(I1.bs b o e).2;rw[z,tP] at this;cases this
 have hbmB:=I1.ok.mod.kin bm ob b4;have hB:s1.heap.BuiltinsAt X.mg P:=⟨bm,ob,CN I1.ok.mod.kin I1.ok.mod.glob b1,b2,b3,baseNe _ _ hbmB,(I1.bs _ _ hbmB).1,b5,b6,b7⟩;have hgP:mainGlobals≠P:=by obtain⟨o,es,ep,e,hd,_⟩:=I1.ok.mod.glob;exact baseNe _ _ e
 have hcell:s1.heap.IsCell cell (some (.ref kk)):=by
  obtain⟨m,_,hl'⟩:=I1.loc;obtain⟨u,ru,lk⟩:=hl' ik kx _ hix hs (.inr (.inl hck));cases (show u=Value.ref kk from ru);rcases lk with⟨k1,_⟩ | ⟨_,c2,e2,hc2⟩
  ·have k1:X.env.scope.names.lookup kx=some .local:=k1;rw[hck] at k1;cases k1
  ·rw[ecell] at e2;cases e2;exact hc2
 refine PySem.W.kla_eval hdef ?_;rw[hq];have x8:∀(s2:Shared) (H2:Hp) (f c':Addr) (ctv pm:Value),qx X pins σ H2 s2->s2.heap.get? f=some (PySem.W.kla_obj "<lambda>" q params (TS.keyBody kx px p1 p2 p3 p4 p5 x1) lscope [(kx,cell)] pm c' ctv)->s2.heap.CodeRec (.ref c') q->s2.heap.IsCell cell (some (.ref kk))->
  (∀b u,b≠P->H1 b=some u->H2 b=some u)->mv H2 P q->(∀b,H2 b=none->H1 b=none)->
  wpAny (model X.prog X.w) X.A (do standAt pos;pure (Value.ref f)) (fun v s'=>wpAny (model X.prog X.w) X.A (evalAll []) (fun vs s''=>wpAny (model X.prog X.w) X.A (call (.builtin "sorted") [.ref l] ([Str.ofString "key"].zip (v::vs))) (EP X pins σ Q) X.xe s'') X.xe s') X.xe s2:=by
  intro s2 H2 f c' ctv pm I2 g1 g2 g3 g4 g5 g6;refine Aa (wpAny_standAt (Ah (wpAny_evalAll_nil ?_)));have lP:l≠P:=fun z=>by rw[z,tP] at hl;cases hl
  have kP:kk≠P:=fun z=>by rw[z,tP] at hk;cases hk
  refine vV (n:=n) (rks:=rks) I2 S hr g1 g2 g3 (fun v=>hb _ _ _ _ _ _ v) (g4 _ _ lP hl) (g4 _ _ kP hk) hn hz fun D qs hD pm' pw=>?_;have nDP:D≠P:=fun z=>by obtain⟨ps2,e2,_⟩:=g5;rw[z,e2] at hD;cases hD
  refine qq _ D qs (fun b u n e=>?_) ?_ (g6 D hD) nDP j4 pm' pw
  ·rw[qr (zq (g4 b u n e) hD)];exact g4 b u n e
  ·exact g5.keep (qr (AM nDP)) fun b o u e=>by rw[qr (zq e hD)];exact e
 cases hf:codeAmong lpos tps.toList with
 |some cv=>
  obtain⟨c',oc,vs,t,ecv,f1,f2,f3⟩:=tall lpos cv hf;subst ecv;refine jr I1.tk (PySem.W.kla_makeFunctionHit (mg:=X.mg) eclo I1.ok.glob hgs ecd Chd hPo tok hf hB fun ctv h' tk hk' hsz ht=>?_);have I2:qx X pins σ H1 { s1 with heap:=h'.push { cls:=.type "function",data:=.func (PySem.W.kla_fn "<lambda>" q params (TS.keyBody kx px p1 p2 p3 p4 p5 x1) lscope [(kx,cell)] ((X.mg "__name__").getD .none) (.ref c') ctv) },toks:=tk }:=I1.kept (t':=tk) fun b o e=>Heap.get?_push_of_some _ (hk' b o e);obtain⟨hoc,_⟩:=I2.hok c' _ f1;refine x8 _ H1 _ c' ctv _ I2 (Heap.get?_push_size _ rfl) ⟨c',oc,vs,t,rfl,hoc,f2,f3⟩ ?_ (fun b u _ e=>e) ⟨tps,tP,tok,tall⟩ (fun b e=>e);obtain⟨o,e1,e2⟩:=hcell;exact⟨o,Heap.get?_push_of_some _ (hk' _ _ e1),e2⟩
 |none=>
  refine jr I1.tk (PySem.W.kla_makeFunction (mg:=X.mg) eclo I1.ok.glob hgs ecd Chd hPo tok hf hgP hB fun c' ctv h' tk hx hge hlt hrec htb ht=>?_);obtain⟨c2,oc,vs,t,e2,hoc,f2,f3⟩:=hrec;cases e2;have I2:=I1.tabbed (fo:=PySem.W.kla_obj "<lambda>" q params (TS.keyBody kx px p1 p2 p3 p4 p5 x1) lscope [(kx,cell)] ((X.mg "__name__").getD .none) c' ctv) tP hx htb hge hoc ht;have nc:H1 c'=none:=I1.hok.fresh hge;have cP:c'≠P:=fun z=>by rw[z,tP] at nc;cases nc
  refine x8 _ _ _ c' ctv _ I2 (Heap.get?_push_size _ rfl) ⟨c',oc,vs,t,rfl,Heap.get?_push_of_some _ hoc,f2,f3⟩ ?_ (fun b u n e=>?_) ?_ (fun b e=>?_)
  ·obtain⟨o,e1,e2⟩:=hcell;have nP:cell≠P:=fun z=>by have:=I1.freeC kx cell ecell;rw[z,tP] at this;cases this
   exact⟨o,Heap.get?_push_of_some _ (hx _ _ nP e1),e2⟩
  ·rw[qr (zq e nc),qr n];exact e
  ·refine⟨tps++#[rawInt lpos.line,rawInt lpos.col,.ref c'],by rw[qr (AM cP),j4],?_,fun pos' cv z=>?_⟩
   ·rw[A9];exact oH _ tok
   ·rw[A9] at z;rcases sE _ tok z with z | z
    ·obtain⟨d',od,vs',t',k1,k2,k3⟩:=tall pos' cv z;have nP:d'≠P:=fun z=>by rw[z,tP] at k2;cases k2
     exact⟨d',od,vs',t',k1,by rw[qr (zq k2 nc),qr nP];exact k2,k3⟩
    ·exact⟨c',oc,vs,t,z,j4,f2,f3⟩
  ·by_cases d:b=c'
   ·subst d;exact nc
   ·rw[qr d] at e;by_cases d2:b=P
    ·subst d2;rw[j4] at e;cases e
    ·rw[qr d2] at e;exact e
end
end L2
namespace L3
open PySem L2
def zQ(Pt:Addr)(q:Str)(ik:Nat)(te:xx)(τ:jn)(L:ql)(Q:YK):Prop:=te τ L fun y L1=>match y with
 |.ref l=>bE L1 l fun ys=>∃(n:Nat) (rks:List Int) (kk:Addr),ys=wx 0 n/\sL τ ik=some (.ref kk)/\L1 kk=some (.lst (rks.map Y.int))/\rks.length=n/\n≤1000/\L1 Pt=some (.tb q)/\
  ∀(D:Addr) (qs:List Nat),L1 D=none->qs.Perm (List.range n)->(qs.Pairwise fun i j=>rks.getD i 0*1000000+(i:Int)≤rks.getD j 0*1000000+(j:Int))->Q (.ref D) (qg L1 D (.lst (qs.map fun i:Nat=>Y.int (i:Int))))
 |_=>False
theorem mV{G:G3}{H:Hp}:∀{l:List Nat} {xs:List V},x6 G H (l.map fun i:Nat=>Y.int (0+(i:Int))) xs->xs=l.map fun i:Nat=>V.int (0+(i:Int))
 |[],_,h=>h
 |_::_,_,⟨x,xs',e,r,s⟩=>by subst e;cases r;rw[mV s];rfl
theorem fe{G:G3}{H:Hp}:∀{l:List Int} {xs:List V},x6 G H (l.map Y.int) xs->xs=l.map V.int
 |[],_,h=>h
 |_::_,_,⟨x,xs',e,r,s⟩=>by subst e;cases r;rw[fe s];rfl
theorem qV{G:G3}{H:Hp}:∀qs:List Nat,x6 G H (qs.map fun i:Nat=>Y.int (i:Int)) (qs.map fun i:Nat=>V.int (i:Int))
 |[]=>rfl
 |_::r=>⟨_,_,rfl,rfl,qV r⟩
theorem xJ{params:Arguments}{lpos:Pos}{ik:Nat}(hg:Gl X "sorted")(hm:X.mg "sorted" = none)(he:QE X e te)(S:TS.KeySc lscope kx px)(C:ur X.K X.env.code Pt)(hr:X.A.depth+3<recursionLimit)
 (hq:X.env.qual ++ "<lambda>" = q) (hix:X.N[ik]?=some kx) (hck:X.env.scope.names.lookup kx=some .cell) (hclo:∃cell,X.env.cells.lookup kx=some cell/\closureFor lscope X.env=pure [(kx,cell)])
 (hdef:defaultsOf params X.env=([],[])) (hb:∀(name qual:Str) (cl:List (Str×Addr)) (pm cd ct v:Value),bindArgs (PySem.W.kla_fn name qual params (TS.keyBody kx px p1 p2 p3 p4 p5 x1) lscope cl pm cd ct) ⟨[v],[]⟩=pure [(px,v)])
 (h1:starEach [e] X.env=(false,eval e X.env)::starEach [] X.env:=by rfl) (h2:(backTo pos (starEach [e] X.env)).any (·.1)=false:=by rfl)
 (h3:backTo pos (starEach [e] X.env)=(false,eval e X.env)::backTo pos (starEach [] X.env):=by rfl):
 QE X (.Call (.Name "sorted" p) [e] [⟨some "key",.Lambda params (TS.keyBody kx px p1 p2 p3 p4 p5 x1) lscope lpos,kpos⟩] pos) (zQ Pt q ik te):=
 EH (yH hg hm he S C hr hq hix hck hclo hdef hb h1 h2 h3) fun σ H Q ⟨τ,L,Q3,rs,rl,z,k⟩=>by
  refine⟨τ,L,_,rs,rl,z,fun v H1 y L1 t1 rl1 rv z=>?_⟩;cases y with
  |ref l=>
   obtain⟨ys,e1,n,rks,kk,rfl,e2,e3,hn,hz,eP,qq⟩:=jy z;cases rv;obtain⟨xs,h1,r1⟩:=rl1 l _ e1;obtain⟨xk,h2,r2⟩:=rl1 kk _ e3;have T:mv H1 Pt q:=rl1 Pt _ eP;cases mV r1;cases fe r2;obtain⟨v,hv,rv⟩:=rs.get ik _ (nW _ _ e2);cases rv;refine⟨l,kk,n,rks,rfl,h1,hv,h2,hn,hz,T,fun H2 D qs kp T2 hD nDP hD2 pm pw=>?_⟩;have tb:∃ps,H1 Pt=some (.tbl ps):=let ⟨ps,e,_⟩:=T;⟨ps,e⟩;have t2:j7 H1 H2:=fun a u i h=>kp a u (fun c=>by obtain⟨ps,e⟩:=tb;rw[c,e] at h;cases h;cases i) h
   refine k _ _ _ _ (t1.trans t2) (fun a u e=>?_) (by rfl) (qq D qs (rl1.none hD) pm pw);by_cases c:a=D
   ·subst c;rw[q9] at e;cases e;exact⟨_,hD2,qV qs⟩
   ·rw[qb c] at e;by_cases d:a=Pt
    ·subst d;rw[eP] at e;cases e;exact T2
    ·obtain⟨x,hx⟩:=(rl1 a u e).ex;exact(rl1 a u e).keep t2 (by rw[hx];exact kp a x d hx)
  |_=>exact z.elim
structure afb(K:Ai)(x qual:Str)(st:Stmt)(f:Addr)(fd:FuncData)(Pt:Addr):Prop where
 ex:∃(oc:Value) (od:Option Addr) (kV doc pm:Value) (an:Option Addr) (cdv ct:Value) (osl:Array (Option Value)),
  fd=PySem.W.fnOf x qual (xn st) (jl st) (qu st) .none kV doc pm an cdv ct/\K.lookup f=some ⟨oc,od,.func fd,osl⟩/\PySem.W.codeIn K cdv qual=true/\ur K cdv Pt
 kp:PySem.W.keepIn K (.ref f)=true
theorem am6{P:Program}{w:World}{K:Ai}{N:List Str}{k:Nat}{sp:x0}(F:afb K x qual st f fd Pt)(S:aR N ps (qu st))(len:∀ys L Q,sp ys L Q->ys.length=ps.length)
 (hbody:∀(cdv:Value) (A:Around) (outer:List Env) (s:Shared) (H:Hp) (E:XK),ur K cdv Pt->aI k (A.deeper (PyProof.Rows.envOfC qual (qu st) s.heap.objs.size f cdv))->
  ∃t,rQ (iF CX0 P w K mg base N qual (qu st) f cdv A outer s H E).nox (jl st) t/\∀ys L Q,sp ys L Q->t { nx:=fun _ L'=>fz Q .non L',rt:=fz Q } (gd N ys) L):Fn3 P w K mg base (k+1) f fd ps sp:=by
 obtain⟨oc,od,kV,doc,pm,an,cdv,ct,osl,rfl,lk,hcd,C⟩:=F.ex;have F0:Fun K x qual st f _:=⟨⟨oc,od,kV,doc,pm,an,cdv,ct,osl,rfl,lk,hcd⟩,F.kp⟩;refine aey lk hcd S (fun vs H Q E ⟨ys,L,Q3,rv,rl,z,_⟩=>by rw[<-rv.length];exact len ys L Q3 z) fun A outer s H vs Q E hr ⟨ys,L,Q3,rv,rl,z,k⟩=>?_;obtain⟨t,ht,q⟩:=hbody cdv A outer s H E C hr;refine⟨_,l6.nox ht,gd N ys,L,_,ln rv,rl,q ys L Q3 z,?_⟩;exact⟨fun σ H' τ L' t' rs' rl' ⟨L2,s2,q2⟩=>k .non H' .non L2 t' (rl'.sub s2) (by rfl) q2,fun v H' y L' t' rl' rv' ⟨L2,s2,q2⟩=>k v H' y L2 t' (rl'.sub s2) rv' q2,fun _ _ _ _ _ _ _ z=>z.elim,fun _ _ _ _ _ _ _ z=>z.elim⟩
def m6(Pt:Addr)(q:Str):x0:=fun ys L Q=>∃ns:List Int,ys=[.sq (ns.map Y.int)]/\ns.length≤63/\L=qg (fun _=>none) Pt (.tb q)/\∀L',Q (.bl true) L'
def spTopT(q:Str)(K:Ai)(Pt:Addr):Sp:=fun vs H Q _=>∃(a:Addr) (ns:List Int),vs=[.ref a]/\SqF K H a (ns.map V.int)/\ns.length≤63/\H Pt=some (.tbl #[])/\∀H',Q (.bl true) H'
theorem ad6{vs:List V}{Q:VK}{E:XK}(h:spTopT q G.K Pt vs H Q E):dn G (m6 Pt q) vs H Q E:=by
 obtain⟨a,ns,rfl,hs,hl,hP,z⟩:=h;refine⟨[.sq (ns.map Y.int)],qg (fun _=>none) Pt (.tb q),fun y _=>y=.bl true,x6.one ⟨a,_,rfl,hs,qS ns⟩,(fun b u e=>?_),⟨ns,rfl,hl,rfl,fun _=>rfl⟩,?_⟩
 ·by_cases c:b=Pt
  ·subst c;rw[q9] at e;cases e;exact⟨#[],hP,trivial,fun pos cv z=>by cases z⟩
  ·rw[qb c] at e;cases e
 ·rintro v H' y L' _ _ rv rfl;cases rv;exact z H'
end L3
namespace L2
open PySem PySem.Spec PyProof.Rows
def lessK(Pt:Addr):Ai->Ai
 |[]=>[]
 |(a,o)::r=>if a==Pt then lessK Pt r else(a,o)::lessK Pt r
theorem vq{Pt a:Addr}(h:a≠Pt):∀K:Ai,(lessK Pt K).lookup a=K.lookup a
 |[]=>rfl
 |(b,o)::r=>by
  unfold lessK;by_cases c:(b==Pt)=true
  ·rw[AB c,vq h r,Bs];have:(a==b)=false:=by have hb:=eq_of_beq c;subst hb;exact DS h
   rw[this]
  ·rw[Az c,Bs,Bs,vq h r]
theorem aB{Pt:Addr}:∀K:Ai,(lessK Pt K).lookup Pt=none
 |[]=>rfl
 |(b,o)::r=>by
  unfold lessK;by_cases c:(b==Pt)=true
  ·rw[AB c];exact aB r
  ·rw[Az c,Bs];have:(Pt==b)=false:=by cases d:Pt==b with|false=>rfl|true=>exact absurd (beq_iff_eq.mpr (eq_of_beq d).symm) c
   rw[this];exact aB r
theorem i7{a:Addr}{K:Ai}{o:Obj}(e:(lessK Pt K).lookup a=some o):a≠Pt/\K.lookup a=some o:=by
 by_cases c:a=Pt
 ·subst c;rw[aB] at e;cases e
 ·rw[vq c] at e;exact⟨c,e⟩
theorem lessK_in{K:Ai}(X:K.In h):(lessK Pt K).In h:=fun a o e=>X a o (i7 e).2
structure aea(K:Ai)(Pt:Addr):Prop where
 tab:K.lookup Pt=some (PySem.W.tabObj #[])
 hd:∃c,∀h:Heap,K.In h->PySem.W.CodeHd h c Pt
 st:Pt≠cStatics
section
variable {K:Ai}(T:K.lookup Pt=some (PySem.W.tabObj #[]))
include T
theorem ns_dn{a:Addr}{r:Option (Option Value)}(e:PySem.W.nsIn K a x=r):PySem.W.nsIn (lessK Pt K) a x=r:=by
 rw[<-e];unfold PySem.W.nsIn;by_cases c:a=Pt
 ·subst c;rw[aB,T]
 ·rw[vq c]
theorem lk_dn{a:Addr}{o:Obj}(e:K.lookup a=some o)(n:o.cls≠.none):(lessK Pt K).lookup a=some o:=by
 rw[vq ?_]
 ·exact e
 ·rintro rfl;rw[T] at e;cases e;exact n rfl
theorem code_dn{cd:Value}(e:PySem.W.codeIn K cd q=true):PySem.W.codeIn (lessK Pt K) cd q=true:=by
 unfold PySem.W.codeIn at e ⊢;split at e
 ·rename_i c;by_cases d:c=Pt
  ·subst d;rw[T] at e;simp at e
  ·rw[vq d];exact e
 ·cases e
theorem agz{v:Value}:PySem.W.ownIn (lessK Pt K) x v=PySem.W.ownIn K x v:=by
 unfold PySem.W.ownIn;split
 ·rfl
 ·rename_i a;by_cases d:a=Pt
  ·subst d;rw[aB,T]
  ·rw[vq d];split
   ·exact ns_dn T rfl
   ·rfl
 ·rfl
theorem qU{x:Str}:∀l:List Value,PySem.W.alongIn (lessK Pt K) x l=PySem.W.alongIn K x l
 |[]=>rfl
 |c::r=>by unfold PySem.W.alongIn;rw[agz T,qU r]
theorem acs{v:Value}:PySem.W.findIn (lessK Pt K) v x=PySem.W.findIn K v x:=by
 unfold PySem.W.findIn;split
 ·rfl
 ·rename_i a;by_cases d:a=Pt
  ·subst d;rw[aB,T]
  ·rw[vq d];split
   ·exact qU T _
   ·rfl
 ·rfl
theorem rW{a:Addr}(n:a≠Pt):PySem.W.specialIn (lessK Pt K) (.ref a) x=PySem.W.specialIn K (.ref a) x:=by unfold PySem.W.specialIn PySem.W.typeIn;dsimp only;rw[vq n];congr 1;funext t;exact acs T
theorem keep_dn{f:Value}(e:PySem.W.keepIn K f=true):PySem.W.keepIn (lessK Pt K) f=true:=by
 unfold PySem.W.keepIn at e ⊢;split at e
 ·rename_i a;by_cases d:a=Pt
  ·subst d;rw[T] at e;simp at e
  ·rw[vq d,rW T d];exact e
 ·cases e
end
theorem vY{P:Program}{w:World}{K:Ai}{mb:Str->Option Value}{CX:u8}{k:Nat}{a:Addr}{s₁:Shared}{ns:List Int}
 (KX:K.In s₁.heap) (TI:aea K Pt) (hns:s₁.heap.Ns mainGlobals mg) (hb:s₁.heap.Ns builtinsNs mb) (hbb:∀x:Str,x ≠ "__name__" -> mb x=bootBuiltins x) (hlim:s₁.heap.NoLimit) (hg:s₁.gens=#[]) (htk:0<s₁.toks)
 (ha:s₁.heap.get? a=some { cls:=.type "list",data:=.seq vs.toArray }) (hi:IntsAre vs ns) (hl:ns.length≤sizeLine) (hr:aI k callerA)
 (F:∀base:Heap,(lessK Pt K).In base->base.Ns mainGlobals mg->bJ P w (lessK Pt K) mg base CX k fa fd [x] sp) (hbind:∀(s:Shared) (u:Value),BindsTo s fd ⟨[u],[]⟩ [(x,u)])
 (hsp:∀H:Hp,H Pt=some (.tbl #[])->(H a=none\/∃o xs,H a=some (.frz o (.lst xs)))->wv (lessK Pt K) H a (ns.map V.int)->sp [.ref a] H (fun v _=>v=.bl true) fun _ _ _=>False)
 (hCX:∀H e s',CX [] H s₁ (fun _ _ _=>False) e s'->False):
 codeAny (model P w) callerA (.call (.ref fa) ⟨[.ref a],[]⟩) (fun r s'=>r=.ok (.ret (.bool true))/\OldK s₁.heap s'.heap/\s'.os=s₁.os/\AllBare s'.gens) s₁:=by
 have rv:=mU hi;have lenV:=hi.length;have hP:s₁.heap.get? Pt=some (PySem.W.tabObj #[]):=KX Pt _ TI.tab;have naP:a≠Pt:=fun z=>by rw[z,hP] at ha;cases ha
 have core:∀H:Hp,H Pt=some (.tbl #[])->(∀b,b≠a->b≠Pt->H b=none)->(H a=none\/∃o xs,H a=some (.frz o (.lst xs)))->wv (lessK Pt K) H a (ns.map V.int)->(∀u,H a=some u->xg P w H s₁.heap a u)->(H a≠none->K.lookup a=none)->
  codeAny (model P w) callerA (.call (.ref fa) ⟨[.ref a],[]⟩) (fun r s'=>r=.ok (.ret (.bool true))/\OldK s₁.heap s'.heap/\s'.os=s₁.os/\AllBare s'.gens) s₁:=by
  intro H HP Hn HO HS hoka hka;have hok:dg P w H s₁.heap:=fun b u e=>by
   by_cases c:b=a
   ·subst c;exact hoka u e
   ·by_cases d:b=Pt
    ·subst d;rw[HP] at e;cases e;exact hP
    ·rw[Hn b c d] at e;cases e
  have base_of:∀{b:Addr} {o:Obj},s₁.heap.get? b=some o->H b=none->(m5 s₁.heap H).get? b=some o:=fun e n=>aal e n;have noA:∀{b:Addr} {o:Obj} {es:Array DictEntry} {ep:Nat},s₁.heap.get? b=some o->o.data=.dict es ep->H b=none:=fun {b o es ep} e d=>by
   refine Hn b (fun z=>?_) fun z=>?_
   ·subst z;rw[ha] at e;cases e;have d':Data.seq vs.toArray _=Data.dict es ep:=d;cases d'
   ·subst z;rw[hP] at e;cases e;have d':Data.fields _=Data.dict es ep:=d;cases d'
  have nsK:∀{b:Addr} {m:Str->Option Value},s₁.heap.Ns b m->(m5 s₁.heap H).Ns b m:=fun {b m} ⟨o,es,ep,e,d,r⟩=>⟨o,es,ep,base_of e (noA e d),d,r⟩;have hKb:(lessK Pt K).In (m5 s₁.heap H):=fun b o e=>by
   obtain⟨n,e⟩:=i7 e;refine base_of (KX b o e) ?_;by_cases c:b=a
   ·subst c;cases q:H b with|none=>rfl|some u=>rw[hka (by rw[q];simp)] at e;cases e
   ·exact Hn b c n
  have hM:Mod (lessK Pt K) mg (m5 s₁.heap H):=⟨hKb,nsK hns,⟨mb,nsK hb,hbb⟩,let ⟨mc,h1,h2⟩:=hlim;⟨mc,nsK h1,h2⟩⟩;have e0:ac7 P w (lessK Pt K) mg (m5 s₁.heap H) callerA [] s₁ H:=⟨rfl,hM,fun b o e=>ac8 e,Nat.le_of_eq (vL _ _),trivial,fun b hb=>absurd (show b∈([]:List Addr) from hb) (by simp),hok,.of_eq hg,htk⟩;refine codeAny_mono ((F _ hKb (nsK hns)).run callerA [] s₁ H ⟨[.ref a],[]⟩ [.ref a] [.ref a] _ _ hr e0 (hbind s₁ (.ref a)) (.cons rfl .nil) (hsp H HP HO HS)) fun r s' h=>?_;cases r with
  |error e=>exact(hCX H e s' h).elim
  |ok fl=>
   cases fl with
   |next=>exact False.elim h
   |brk=>exact False.elim h
   |cont=>exact False.elim h
   |ret u=>
    obtain⟨v,H',os,bare,un,hok',r',q,_⟩:=h;have q':v=.bl true:=q;subst q';obtain rfl:u=Value.bool true:=r';obtain⟨more,em⟩:=un.tbls Pt _ HP;have gP:s'.heap.get? Pt=some (PySem.W.tabObj (#[]++more)):=hok' Pt _ em;have kp:∀b o,b≠Pt->s₁.heap.get? b=some o->s'.heap.get? b=some o:=fun b o n e=>by
     have un1:H b=none->s'.heap.get? b=some o:=fun z=>un.keep b o e z (by intro z;exact absurd (show b∈([]:List Addr) from z) (by simp)) (by simp);by_cases c:b=a
     ·subst c;rcases HO with z | ⟨ob,xs,z⟩
      ·exact un1 z
      ·have z2:=un.frzs _ _ _ z;obtain⟨e1,_⟩:=hok _ _ z;obtain⟨e2,_⟩:=hok' _ _ z2;rw[e] at e1;cases e1;exact e2
     ·exact un1 (Hn b c n)
    obtain⟨c,hc⟩:=TI.hd;refine⟨rfl,⟨fun b o e=>?_,fun b o e=>?_⟩,os,bare⟩
    ·by_cases n:b=Pt
     ·subst n;rw[hP] at e;cases e;exact .inr (.inl ⟨((hc _ KX).tab hP).isCodeTable,rfl,#[],more,rfl,gP⟩)
     ·exact .inl (kp b o n e)
    ·by_cases n:b=Pt
     ·subst n;exact⟨_,gP⟩
     ·exact⟨o,kp b o n e⟩
 cases hk:K.lookup a with
 |some o=>
  have e:=KX a o hk;rw[ha] at e;cases e;refine core (fun b=>if b=Pt then some (.tbl #[]) else none) (AB rfl) (fun b _ n=>Az n) (.inl (Az naP)) (.inr ⟨_,vs.toArray,_,(vq naP K).trans hk,rfl,rfl,rfl,by rw[Am,lenV];exact hl,by simpa using rv⟩) (fun u z=>by have z':=(Az naP).symm.trans z;cases z') fun z=>absurd (Az naP) z
 |none=>
  refine core (fun b=>if b=a then some (.frz { cls:=.type "list",data:=.seq vs.toArray } (.lst (ns.map V.int))) else if b=Pt then some (.tbl #[]) else none) ((Az (AM naP)).trans (AB rfl)) (fun b n1 n2=>(Az n1).trans (Az n2)) (.inr ⟨_,_,AB rfl⟩) (.inl (.inr ⟨_,AB rfl⟩)) (fun u z=>?_) fun _=>hk;have z':=(AB rfl).symm.trans z;cases z';exact⟨ha,by rw[Ae];exact hl,vs,_,rv,ha⟩
theorem walk_ofZT{l:PySem.W.OpenLaw}{k:Nat}{q:Program}{loose:List Str}{XP:(Str->Option Value)->Heap->Prop}{as0:List Addr}{N t:Nat}{d:DefRec}{K:Params->Ai}{CX:u8}{sp:Ai->Addr->Sp}
 (hn:l.most=some n) (hn2:n≤sizeLine) (hdf:d.params.defaults=[]) (hr:aI k callerA) (ek:∀P,as0=(K P).map (·.1)) (htk:0<t)
 (F:∀(w:World) (mg:Str->Option Value) (fa:Addr) (h:Heap),(K w.params).In h->h.Ns mainGlobals mg->mg d.name=some (.ref fa)->
  ∃Pt:Addr,aea (K w.params) Pt/\∃fd:FuncData,(∀(s:Shared) (u:Value),BindsTo s fd ⟨[u],[]⟩ [(x,u)])/\
   ∀base:Heap,(lessK Pt (K w.params)).In base->base.Ns mainGlobals mg->bJ l.prog w (lessK Pt (K w.params)) mg base CX k fa fd [x] (sp (lessK Pt (K w.params)) Pt))
 (hsp:∀(K:Ai) (Pt:Addr) (H:Hp) (a:Addr) (ns:List Int),ns.length≤n->H Pt=some (.tbl #[])->(H a=none\/∃o xs,H a=some (.frz o (.lst xs)))->wv K H a (ns.map V.int)->sp K Pt [.ref a] H (fun v _=>v=.bl true) fun _ _ _=>False)
 (hCX:∀(H:Hp) (s:Shared) (e:Value) (s':Shared),CX [] H s (fun _ _ _=>False) e s'->False):
 PySem.W.WalkX q loose XP (PySem.W.X.obsZ as0) (PySem.W.X.valZ K N t) l.row.toRowW d [] (fun f vs=>PySem.call f vs):=by
 refine Att.attach_callZ hn hdf ek htk fun w s₀ s₁ mg mb fa o pm cd doc a vs ns G KX tk ho hd hcd hmg hobj hints hlen hg=>?_;obtain⟨Pt,TI,fd,hb,hF⟩:=F w mg fa _ KX G.T.g hmg;exact vY KX TI G.T.g G.T.b G.T.builtins G.T.nolimit hg tk hobj hints (AW hlen hn2) hr hF hb (fun H hP hO hS=>hsp _ Pt H a ns hlen hP hO hS) fun H e s'=>hCX H s₁ e s'
end L2
namespace L3
open PySem L2
theorem top_startT :∀(K:Ai) (Pt:Addr) (H:Hp) (a:Addr) (ns:List Int),ns.length≤63->H Pt=some (.tbl #[])->(H a=none\/∃o xs,H a=some (.frz o (.lst xs)))->wv K H a (ns.map V.int)->spTopT q K Pt [.ref a] H (fun v _=>v=.bl true) fun _ _ _=>False:=by
 intro K Pt H a ns hl hP hO hS;refine⟨a,ns,rfl,?_,hl,hP,fun _=>rfl⟩;rcases hS with(h | ⟨o,h⟩) | h
 ·rcases hO with z | ⟨o,xs,z⟩<;>rw[h] at z<;>cases z
 ·exact .inl ⟨o,h⟩
 ·exact .inr h
structure DefInT(K:Ai)(x:Str)(st:Stmt)(Pt:Addr):Prop where
 ex:∃(f:Addr) (kV doc pm:Value) (an:Option Addr) (cdv ct:Value),PySem.W.nsIn K mainGlobals x=some (some (.ref f))/\afb K x x st f (PySem.W.fnOf x x (xn st) (jl st) (qu st) .none kV doc pm an cdv ct) Pt
theorem DefInT.use{K:Ai}(D:DefInT K x st Pt)(X:K.In h)(G:h.Ns mainGlobals mg)
 (hb:∀(kV doc pm:Value) (an:Option Addr) (cdv ct:Value) (us:List Value),us.length=ps.length->bindArgs (PySem.W.fnOf x x (xn st) (jl st) (qu st) .none kV doc pm an cdv ct) ⟨us,[]⟩=pure (ps.zip us)):
 ∃f fd,afb K x x st f fd Pt/\fO K fd ps []/\mg x=some (.ref f):=by
 obtain⟨f,kV,doc,pm,an,cdv,ct,a,F⟩:=D.ex;exact⟨f,_,F,.all (hb kV doc pm an cdv ct),CN X G a⟩
end L3
namespace L2
open PySem PySem.Spec PyProof.Rows
section
variable {σ':St} 
theorem qx.ren(M:List Str)(I:qx X pins σ H s)(hl:M.length=X.N.length)(hs:σ'.length=σ.length)(h:∀(j:Nat) v,σ'[j]?=some (some v)->σ[j]?=some (some v)/\X.N[j]?=M[j]?):qx { X with N:=M } pins σ' H s:=by obtain⟨m,hm,l⟩:=I.loc;have o:=I.ok;exact { ok:=⟨o.mod,o.kind,o.glob,o.blt,o.above,o.inj,o.has,o.cab,o.hd,o.frames,o.stk,o.exf,o.bs,o.bsz,o.noex,o.exfs,o.funs,o.frf⟩,os:=I.os,bare:=I.bare,base:=I.base,cell:=I.cell,free:=I.free,freeC:=I.freeC,pin:=I.pin,hok:=I.hok,tk:=I.tk,len:=(by rw[hs,I.len];exact hl.symm),loc:=⟨m,hm,fun i x v e1 e2 e3=>by obtain⟨a,b⟩:=h i v e2;exact l i x v (b.trans e1) a e3⟩ }
theorem oh(h:(σ.set i none)[j]?=some (some v)):j≠i/\σ[j]?=some (some v):=by
 by_cases c:i=j
 ·subst c;rw[DL] at h;cases e:σ[i]? with|none=>rw[e] at h;cases h|some o=>rw[e] at h;cases h
 ·rw[BB c] at h;exact⟨AM c,h⟩
def ak3(i:Nat)(t:TS):TS:=fun D σ H=>t { nx:=fun σ' H'=>D.nx (σ'.set i none) H',rt:=D.rt,bk:=fun σ' H'=>D.bk (σ'.set i none) H',ct:=fun σ' H'=>D.ct (σ'.set i none) H' } (σ.set i none) H
theorem adt{t:TS}(h:PS { X with N:=X.N.set i x } st t):PS X st (ak3 i t):=by
 intro pins s σ H D I z;have I':qx { X with N:=X.N.set i x } pins (σ.set i none) H s:=I.ren _ (by rw[B7]) (by rw[B7]) fun j v e=>by obtain⟨a,b⟩:=oh e;exact⟨b,by rw[BB (AM a)]⟩
 refine v0 (h pins s _ H _ I' z) fun f s' q=>?_;have back:∀{σ':St} {H':Hp},qx { X with N:=X.N.set i x } pins σ' H' s'->qx X pins (σ'.set i none) H' s':=fun {σ' H'} J=>
  qx.ren (X:={ X with N:=X.N.set i x }) X.N J (by show X.N.length=(X.N.set i x).length;rw[B7]) (by rw[B7]) fun j v e=>by obtain⟨a,b⟩:=oh e;exact⟨b,by show(X.N.set i x)[j]?=_;rw[BB (AM a)]⟩
 cases f with
 |next=>obtain⟨σ',H',J,q⟩:=q;exact⟨_,H',back J,q⟩
 |brk=>obtain⟨σ',H',J,q⟩:=q;exact⟨_,H',back J,q⟩
 |cont=>obtain⟨σ',H',J,q⟩:=q;exact⟨_,H',back J,q⟩
 |ret u=>obtain⟨v,σ',H',J,r,q⟩:=q;exact⟨v,_,H',back J,r,q⟩
end
end L2
namespace L3
open PySem L2
def fZ:jn->Nat->jn
 |[],_=>[]
 |_::r,0=>none::r
 |o::r,i+1=>o::fZ r i
theorem oz:∀(τ:jn) (i:Nat),fZ τ i=τ.set i none
 |[],_=>rfl
 |_::_,0=>rfl
 |o::r,i+1=>by unfold fZ;rw[oz r i];rfl
def aan(i:Nat)(t:ww)(D:v4)(τ:jn)(L:ql):Prop:=t { nx:=fun τ' L'=>D.nx (fZ τ' i) L',rt:=D.rt,bk:=fun τ' L'=>D.bk (fZ τ' i) L',ct:=fun τ' L'=>D.ct (fZ τ' i) L' } (fZ τ i) L
theorem vv.forget(h:vv G H σ τ)(i:Nat):vv G H (σ.set i none) (fZ τ i):=by
 rw[oz];refine⟨by rw[B7,B7];exact h.len,fun j y e=>?_⟩;by_cases c:i=j
 ·subst c;rw[DL] at e;cases e2:τ[i]? with|none=>rw[e2] at e;cases e|some o=>rw[e2] at e;cases e
 ·rw[BB c] at e ⊢;exact h.get j y e
theorem tj(x:Str){t:ww}(h:QS { X with N:=X.N.set i x } st t):QS X st (aan i t):=
 EK (adt h) fun D σ H ⟨τ,L,D3,rs,rl,z,k⟩=>⟨fZ τ i,L,_,rs.forget i,rl,z,
  ⟨fun σ' H' τ' L' t' rs' rl' q=>k.nx _ H' _ L' t' (rs'.forget i) rl' q,k.rt,fun σ' H' τ' L' t' rs' rl' q=>k.bk _ H' _ L' t' (rs'.forget i) rl' q,fun σ' H' τ' L' t' rs' rl' q=>k.ct _ H' _ L' t' (rs'.forget i) rl' q⟩⟩
theorem afn:bootBuiltins "min" = some (.builtin "min"):=by decide +kernel
def xD(x:Y)(lo hi:Option Int)(L:ql)(Q:YK):Prop:=match x with
 |.tup ys=>¬(HT.sIx ys.length 0 lo=0/\HT.sIx ys.length ys.length hi=ys.length)/\Q (.tup (lQ ys lo hi)) L
 |_=>False
theorem rD(K:Ai)(P:Program)(w:World)(hK:X.K=K:=by rfl)(hP:X.prog=P:=by rfl)(hw:X.w=w:=by rfl):oW X (ac6 ⟨K,P,w⟩ xD):=by
 subst hK hP hw;refine oW.imp ag0 fun x lo hi H Q ⟨y,L,Q3,rv,rl,z,k⟩=>?_;cases y with
 |tup ys=>
  obtain⟨a,xs,e,sq,r⟩:=rv;obtain⟨z1,z2⟩:=z;exact⟨a,xs,e,sq,by rw[<-r.length];exact z1,fun p hp=>k _ _ (.tup (lQ ys lo hi)) L (EG hp) (rl.skip hp) ⟨p,_,rfl,.inl (.inl j4),(mm r lo hi).ts (EG hp)⟩ z2⟩
 |_=>exact z.elim
theorem si{a:Addr}{keep:ql->Prop}(h:∀H L,j7 H₀ H->jf G H L->keep L->∃xs,cM G.K H a xs/\x6 G H ys xs):gR G H₀ (Itt G.K a) ys keep where
 go:=fun i H L t rl kp hi=>by
  obtain⟨xs,sq,r⟩:=h H L t rl kp;have:i<xs.length:=by rw[<-r.length];exact hi
  exact⟨xs,xs[i],sq,Aj this⟩
 yld:=fun i H L x H' y t rl kp hy ⟨e,f⟩=>by subst e;obtain⟨xs,sq,r⟩:=h _ L t rl kp;obtain⟨x',e',rv⟩:=r.get hy;have:=f xs sq;rw[e'] at this;cases this;exact⟨EF _,rl,rv⟩
 stop:=fun H L t rl kp=>by obtain⟨xs,sq,r⟩:=h H L t rl kp;exact⟨xs,sq,by rw[r.length];exact An _⟩
theorem sF(h:QE X e te):QI X tg e (tU te):=PI.imp (ag7 h) fun σ H R ⟨τ,L,R3,rs,rl,z,k⟩=>by
 refine⟨τ,L,_,rs,rl,z,fun v H1 y L1 t1 rl1 rv1 z1=>?_⟩;cases y with
 |tup ys=>
  obtain⟨a,xs,e,sq,r⟩:=rv1;exact⟨a,e,⟨xs,sq⟩,k _ H1 ys (fun _=>True) L1 t1 rl1 (si fun H L t _ _=>⟨xs,cM.ts sq t,r.ts t⟩) z1⟩
 |_=>exact z1.elim
theorem dp3{k:Nat}(hr:aI k A):A.depth+3<recursionLimit:=by have:=hr.dp;omega
abbrev lamQ:Str:="_law_order.<locals>.<lambda>"
open PySem L2 Words
def OkO(ks:List (Option Kn)):Prop:=∀(p:Nat) (e:Bool) (i j:Nat),ks[p]?=some (some (.nd e i j))->i<p/\j<p
def vN(ks:List (Option Kn))(rks:List Int):Prop:=∀(p:Nat) (e:Bool) (i j:Nat),p<rks.length->ks[p]?=some (some (.nd e i j))->rks.getD i 0<rks.getD p 0/\rks.getD j 0<rks.getD p 0
theorem io{r:Int}(h:i<rks.length):(rks++[r]).getD i 0=rks.getD i 0:=by rw[Br,Br,AE h]
theorem aa0{r:Int}:(rks++[r]).getD rks.length 0=r:=by rw[Br,Au (An _),CH];rfl
theorem vN.snoc{ks:List (Option Kn)}{r:Int}{k:Option Kn}(ok:OkO ks)(h:vN ks rks)(hk:ks[rks.length]?=some k)(hr:∀e i j,k=some (.nd e i j)->rks.getD i 0<r/\rks.getD j 0<r):vN ks (rks++[r]):=by
 intro p e i j hp ep;obtain⟨l1,l2⟩:=ok p e i j ep;rw[Ac] at hp;have hp:p<rks.length+1:=hp;rw[io (show i<rks.length by lia),io (show j<rks.length by lia)];by_cases c:p<rks.length
 ·rw[io c];exact h p e i j c ep
 ·have:p=rks.length:=by lia
  subst this;rw[aa0];exact hr e i j (A4 (hk.symm.trans ep))
def cL(ks:List (Option Kn))(qs:List Nat):Prop:=qs.Pairwise fun x y=>∀e i j,ks[x]?=some (some (.nd e i j))->y≠i/\y≠j
theorem aa9{ks:List (Option Kn)}{qs:List Nat}(ok:OkO ks)(h:vN ks rks)(hl:rks.length=ks.length)(hw:qs.Pairwise fun i j=>rks.getD i 0*1000000+(i:Int)≤rks.getD j 0*1000000+(j:Int)):cL ks qs:=by refine hw.imp fun {x y} z e i j ex=>?_;obtain⟨l1,l2⟩:=ok x e i j ex;obtain⟨r1,r2⟩:=h x e i j (by rw[hl];exact xt ex) ex;exact⟨fun c=>by subst c;lia,fun c=>by subst c;lia⟩
theorem o5(h:i<rks.length):(rks.map Y.int)[i]?=some (.int (rks.getD i 0)):=by rw[Aq,Br,Aj h];rfl
def y1:ww:=(qt (j5 (dW "abcdefghijklmnopqrstuvwxyz") (qh 2))
 (qt (j5 (zm w5 (jo 1) (zm wm (qc 0) (jo 8))) (qh 3))
 (qt (j5 (zm wm (zm ar (qc 0) (jo 8)) (qc 3)) (qh 4))
 (qt (j5 (yBS uU (dW "") (qe (rS 1 (dq (wu (jo 8))) (qh 7) xW (zm cX (qc 2) (zm wm (zm w5 (zm ar (qc 0) (jo 64)) (zm sk (jo 3) (qc 7))) (jo 26)))) z0)) (qh 5))
 (qt (xf (eJ (zm wm (zm ar (qc 0) (jo 64)) (jo 3)) (jo 1)) (jm (ySl zG (qc 5) al (cV (zm w5 (jo 1) (zm wm (zm w5 (qc 1) (qc 0)) (jo 3)))))) jp)
 (qt (j5 (zm cX (qc 2) (zm wm (zm w5 (zm w5 (zm ar (qc 0) (jo 64)) (zm sk (jo 3) (qc 4))) (qc 1)) (jo 26))) (qh 6))
 (jm (zm w5 (zm w5 (ySl zG (qc 5) al (cV (qc 4))) (qc 6)) (ySl zG (qc 5) (cV (zm w5 (qc 4) (jo 1))) (cV (qc 3)))))))))))
def dG(i:Int):Nat:=97+(i % 26).toNat
theorem uQ(i:Int):fg ("abcdefghijklmnopqrstuvwxyz" : Str).cps.toList (i % 26)=some (dG i):=by
 obtain⟨n,hn⟩:∃n:Nat,i % 26=n:=⟨(i % 26).toNat,by lia⟩;have h:n<26:=by lia
 unfold dG;rw[hn];have key:∀n,n<26->("abcdefghijklmnopqrstuvwxyz" : Str).cps.toList[n]?=some (97+n):=by decide +kernel
 exact kn (key n h)
theorem tL(i:Int):97≤dG i/\dG i≤122:=by unfold dG;lia
def cU(s:Int):List Nat:=(List.range 8).map fun k:Nat=>dG (s / 64+3*(k:Int))
theorem lH(s:Int):(cU s).length=8:=by unfold cU;simp
theorem jW(s:Int):∀c∈cU s,97≤c/\c≤122:=fun c hc=>by obtain⟨k,_,rfl⟩:=AX.mp hc;exact tL _
def mG(s:Int):Nat:=(s / 8 % (1+s % 8)).toNat
def szN(s:Int):Nat:=(1+s % 8).toNat
theorem aeq(s:Int):mG s<szN s/\szN s≤8/\s / 8 % (1+s % 8)=(mG s:Int)/\1+s % 8=(szN s:Int):=by
 have h0:0<1+s % 8:=by lia
 have h1:0≤s / 8 % (1+s % 8):=DV _ (by lia);have h2:s / 8 % (1+s % 8)<1+s % 8:=Int.emod_lt_of_pos _ h0;unfold mG szN;lia
def aG(s w:Int):List Nat:=
 if s / 64 % 3=1 then(cU s).take (1+(w+s) % 3).toNat
 else((cU s).take (mG s)++[dG (s / 64+3*(mG s:Int)+w)])++((cU s).drop (mG s+1)).take (szN s - (mG s+1))
theorem pO(s w:Int):cj (mkS (aG s w)):=by
 have hl:(mkS (aG s w)).length=(aG s w).length:=by rw[<-Txs.len_list];show(aG s w).toArray.toList.length=_;simp
 have hc:(mkS (aG s w)).cps.toList=aG s w:=by show(aG s w).toArray.toList=_;simp
 have hb:=lH s;obtain⟨p1,p2,_,_⟩:=aeq s;refine⟨?_,?_,?_⟩
 ·rw[hl];unfold aG;split
  ·rw[AN];omega
  ·rw[Ac,Ac];simp;simp +arith only
 ·rw[hl];unfold aG;split
  ·rw[AN];omega
  ·rw[Ac,Ac,AN,AN,Bq];simp;lia
 ·rw[hc];intro c h;unfold aG at h;split at h
  ·exact jW s c (BD h)
  ·rcases Al.mp h with h | h
   ·rcases Al.mp h with h | h
    ·exact jW s c (BD h)
    ·rw[Ak.mp h];exact tL _
   ·exact jW s c (CC (BD h))
def jD:x0:=fun ys L Q=>∃s w:Int,ys=[.int s,.int w]/\Q (.str (mkS (aG s w))) L
theorem uz(h:m≤n)(h2:n≤x.length):(Txt.slice x (some (m:Int)) (some (n:Int))).cps.toList=(x.cps.toList.drop m).take (n - m):=by have e:=mW x (some (m:Int)) (some (n:Int));rw[HT.sIx_nat,HT.sIx_nat,Cv h2,Cv (AW h h2)] at e;exact e
theorem mI(h:n≤x.length):(Txt.slice x none (some (n:Int))).cps.toList=x.cps.toList.take n:=by have e:=mW x none (some (n:Int));rw[HT.sIx_nat,HT.sIx_none,DX,Nat.sub_zero,Cv h] at e;exact e
theorem aaf:∀ys L Q,jD ys L Q->v3 y1 7 ys L Q:=by
 rintro ys L Q ⟨s,w,rfl,q⟩;have hsz:0<1+s % 8:=by lia
 refine⟨(by decide:(0:Int)<8),⟨by decide,by decide⟩,hsz,⟨by decide,by decide⟩,?_⟩;show lcK (wx 0 8) _ _ _ _ _ _ _ _;refine oA (m:=8) (fun i zs=>zs=((List.range i).map fun k:Nat=>Y.str ⟨#[dG (s / 64+3*(k:Int))]⟩)) (by decide) rfl ?_ ?_
 ·rintro i _ hi rfl;have hat:=uQ (s / 64+3*(0+(i:Int)));refine⟨⟨by decide,by decide⟩,.inl ⟨by decide,by decide⟩,(by decide:(0:Int)<26),by decide +kernel,?_⟩;walk_at "w";rw[hat];refine⟨_,EE _,rfl,?_⟩;rw[DU,AG,show(0:Int)+(i:Int)=(i:Int) by simp +arith only];rfl
 ·rintro _ rfl p hp;have e0:((List.range 8).map fun k:Nat=>Y.str ⟨#[dG (s / 64+3*(k:Int))]⟩)=((cU s).map fun c=>(⟨#[c]⟩:Str)).map Y.str:=by unfold cU;rw[Bm,Bm];rfl
  rw[e0];refine qw q9 ⟨(cU s).map fun c=>(⟨#[c]⟩:Str),rfl,?_,?_⟩
  ·have e1:∀cs:List Nat,((cs.map fun c=>(⟨#[c]⟩:Str)).map (·.length)).sum=cs.length:=fun cs=>by induction cs with|nil=>rfl|cons c r ih=>rw[AF,AF,List.sum_cons,ih,AK];show 1+r.length=_;exact Nat.add_comm _ _
   rw[e1,lH];show 8+_*0≤_;rw[Nat.mul_zero];decide
  ·have hb:=aaa (cU s);have hbl:(Txt.join "" ((cU s).map fun c=>(⟨#[c]⟩:Str))).length=8:=by rw[<-Txs.len_list,hb,lH]
   generalize Txt.join "" ((cU s).map fun c=>(⟨#[c]⟩:Str))=base at hbl hb;obtain⟨p1,p2,hn,hk⟩:=aeq s;refine⟨⟨by decide,by decide⟩,(by decide:(0:Int)<3),?_⟩;refine x5 (fun c=>?_) fun c=>?_
   ·have e:1+(w+s) % 3=((1+(w+s) % 3).toNat:Int):=by lia
    refine⟨(by decide:(0:Int)<3),small (by lia),cD (By hp) ?_⟩;have es:=mI (x:=base) (n:=(1+(w+s) % 3).toNat) (by lia);have eq:Txt.slice base none (some (1+(w+s) % 3))=mkS (aG s w):=by rw[e];refine(t0 _).symm.trans ?_;rw[es,hb];unfold aG;rw[AB c]
    rw[<-eq] at q;exact q
   ·have hat:=uQ (s / 64+3*(s / 8 % (1+s % 8))+w);refine⟨⟨by decide,by decide⟩,.inl ⟨by decide,by decide⟩,(by decide:(0:Int)<26),by decide +kernel,?_⟩;walk_at "w";rw[hat];have s1:=mI (x:=base) (n:=mG s) (by lia);have s2:=uz (x:=base) (m:=mG s+1) (n:=szN s) (by assumption) (by lia);have l1:(Txt.slice base none (some (mG s:Int))).length=mG s:=by rw[<-Txs.len_list,s1,AN,Txs.len_list];lia
    have l2:(Txt.slice base (some ((mG s+1:Nat):Int)) (some (szN s:Int))).length≤8:=by rw[<-Txs.len_list,s2,AN];lia
    refine⟨small (by lia),?_⟩;refine⟨small (by rw[hn,l1];show mG s+1≤1000;lia),?_⟩;refine⟨small (by lia),?_⟩;have e1:((mG s:Int)+1)=((mG s+1:Nat):Int):=by rfl
    have l3:(Txt.slice base none (some (mG s:Int))++(⟨#[dG (s / 64+3*(s / 8 % (1+s % 8))+w)]⟩:Str)).length=mG s+1:=by rw[PySem.Str.length_append,l1];rfl
    refine⟨small ?_,cD (By hp) ?_⟩
    ·rw[hn] at l3 ⊢;rw[l3,e1,hk];lia
    ·have eq:(Txt.slice base none (some (mG s:Int))++(⟨#[dG (s / 64+3*(mG s:Int)+w)]⟩:Str))++Txt.slice base (some ((mG s+1:Nat):Int)) (some (szN s:Int))=mkS (aG s w):=by
      refine(t0 _).symm.trans ?_;have ca:∀a b:Str,(a++b).cps.toList=a.cps.toList++b.cps.toList:=fun a b=>by show(a.cps++b.cps).toList=_;simp
      rw[ca,ca,s1,s2,hb];unfold aG;rw[Az c]
     rw[hn,e1,hk,eq];exact q
theorem abp(t t':Bool)(n n':Str):Da.eq (lD (.leaf t n)) (lD (.leaf t' n'))=(decide (t=t')&&decide (n=n')):=by
 by_cases h:n=n'
 ·subst h;cases t<;>cases t'<;>simp[lD,Da.eq,Da.eqs,fh,kL]<;>decide +kernel
 ·cases t<;>cases t'<;>simp[lD,Da.eq,Da.eqs,fh,kL,h]<;>decide +kernel
theorem gD{α β:Type}(f:α->β):∀(l:List α) (n:Nat),(l.map f).eraseIdx n=(l.eraseIdx n).map f
 |[],n=>by simp
 |_::_,0=>rfl
 |x::r,n+1=>by rw[AF,Ck,Ck,AF,gD f r n]
theorem aA(a:j3)(b:Y)(r:List (j3×Y))(k:j3):xm ((a,b)::r) k=if a=k then some b else xm r k:=by
 unfold xm;rw[Bo];by_cases h:a=k
 ·rw[AB h,show decide ((a,b).1=k)=true from AH h];rfl
 ·rw[Az h,show decide ((a,b).1=k)=false from Ax h]
theorem oo(k k':j3)(y:Y):∀kvs:List (j3×Y),xm (kvs.map fun kv=>if kv.1=k then(kv.1,y) else kv) k'=if k'=k then(xm kvs k').map (fun _=>y) else xm kvs k'
 |[]=>by rw[C1];split<;>rfl
 |(a,b)::r=>by
  have ih:=oo k k' y r;rw[AF,aA];by_cases h:a=k
  ·rw[AB (show(a,b).1=k from h),aA,ih];by_cases h2:k'=k
   ·rw[AB h2,AB h2,AB (h.trans h2.symm),AB (h.trans h2.symm)];rfl
   ·rw[Az h2,Az h2,Az (fun z=>h2 (z.symm.trans h)),Az (fun z=>h2 (z.symm.trans h))]
  ·rw[Az (show ¬(a,b).1=k from h),aA,ih];by_cases h2:k'=k
   ·rw[AB h2,AB h2,Az (fun z=>h (z.trans h2)),Az (fun z=>h (z.trans h2))]
   ·rw[Az h2,Az h2]
theorem qW(k k':j3)(y:Y):∀kvs:List (j3×Y),xm (kvs++[(k,y)]) k'=(xm kvs k').or (if k=k' then some y else none)
 |[]=>by rw[Ct,aA];have:xm [] k'=none:=rfl;rw[this];split<;>rfl
 |(a,b)::r=>by rw[List.cons_append,aA,aA,qW k k' y r];split<;>rfl
theorem kM(k:j3):∀kvs:List (j3×Y),(kvs.any fun kv=>decide (kv.1=k))=(xm kvs k).isSome
 |[]=>rfl
 |(a,b)::r=>by
  rw[Cd,aA,kM k r];by_cases h:a=k
  ·rw[AB h,show decide ((a,b).1=k)=true from AH h];rfl
  ·rw[Az h,show decide ((a,b).1=k)=false from Ax h];rfl
theorem kW(kvs:List (j3×Y))(k k':j3)(y:Y):xm (fb kvs k y) k'=if k'=k then some y else xm kvs k':=by
 unfold fb;rw[kM];cases e:xm kvs k with
 |some v=>
  rw[AB (show(some v).isSome=true from rfl),oo];by_cases h:k'=k
  ·rw[AB h,AB h,h,e];rfl
  ·rw[Az h,Az h]
 |none=>
  rw[Az (by simp),qW];by_cases h:k'=k
  ·rw[AB h,h,e,AB rfl];rfl
  ·rw[Az h,Az (fun z=>h z.symm)];cases xm kvs k'<;>rfl
theorem qJ(kvs:List (j3×Y))(k:j3)(y:Y):(fb kvs k y).length≤kvs.length+1:=by
 unfold fb;split
 ·rw[Ae];omega
 ·rw[Ac];simp
def fu(f:Nat->Nat):Option Kn->Option Kn
 |some (.nd e i j)=>some (.nd e (f i) (f j))
 |k=>k
theorem tD{f g:Nat->Nat}:∀{k:Option Kn},(∀e i j,k=some (.nd e i j)->f i=g i/\f j=g j)->fu f k=fu g k
 |none,_=>rfl
 |some (.lf _ _),_=>rfl
 |some (.nd e i j),h=>by obtain⟨a,b⟩:=h e i j rfl;show some (Kn.nd e (f i) (f j))=some (Kn.nd e (g i) (g j));rw[a,b]
structure Gap(ks:List (Option Kn))(ps:List Nat)(f:Nat->Nat)(wd:List (Option Kn)):Prop where
 at_:∀p∈ps,∀k,ks[p]?=some k->wd[f p]?=some (fu f k)
 inj:∀p∈ps,∀q∈ps,f p=f q->p=q
 only:∀x k,wd[x]?=some (some k)->∃p∈ps,x=f p
 ok:OkO wd
theorem Gap.nil(ks:List (Option Kn))(f:Nat->Nat):Gap ks [] f []:=⟨fun p hp=>(Bx hp).elim,fun p hp=>(Bx hp).elim,fun x k h=>(by simp at h),fun p e i j h=>(by simp at h)⟩
theorem Gap.lt{ks:List (Option Kn)}{ps:List Nat}{f:Nat->Nat}(h:Gap ks ps f wd){p:Nat}(hp:p∈ps)(hk:p<ks.length):f p<wd.length:=xt (h.at_ p hp _ (Aj hk))
theorem Gap.step{ks:List (Option Kn)}{ps:List Nat}{f:Nat->Nat}(h:Gap ks ps f wd)(hb:∀p∈ps,p<ks.length){p:Nat}{k:Option Kn}(hp:p∉ps)(hk:ks[p]?=some k)(hpart:∀x∈ps,∀e i j,ks[x]?=some (some (.nd e i j))->i∈ps/\j∈ps)(hparts:∀e i j,k=some (.nd e i j)->i∈ps/\j∈ps):
 Gap ks (ps++[p]) (fun x=>if x=p then wd.length else f x) (wd++[fu f k]):=by
 have old:∀x∈ps,(if x=p then wd.length else f x)=f x:=fun x hx=>Az fun(c:x=p)=>hp (c▸hx);have ren:∀k',(∀e i j,k'=some (.nd e i j)->i∈ps/\j∈ps)->fu (fun x=>if x=p then wd.length else f x) k'=fu f k':=fun k' hk'=>tD fun e i j z=>by obtain⟨a,b⟩:=hk' e i j z;exact⟨old i a,old j b⟩
 refine⟨fun x hx k' hk'=>?_,fun x hx y hy e=>?_,fun x k' hx=>?_,fun x e i j hx=>?_⟩
 ·rcases Al.mp hx with hx | hx
  ·show(wd++[fu f k])[if x=p then wd.length else f x]?=_;rw[old x hx,ren k' fun e i j z=>hpart x hx e i j (by rw[hk',z])];exact kY (h.at_ x hx k' hk')
  ·have hx:=Ak.mp hx;subst hx;rw[hk] at hk';cases hk';show(wd++[fu f k])[if x=x then wd.length else f x]?=_;rw[AB rfl,ren k hparts];exact cr wd _ []
 ·have e:(if x=p then wd.length else f x)=if y=p then wd.length else f y:=e
  rcases Al.mp hx with hx | hx<;>rcases Al.mp hy with hy | hy
  ·rw[old x hx,old y hy] at e;exact h.inj x hx y hy e
  ·cases Ak.mp hy;rw[old x hx,AB rfl] at e;have:=h.lt hx (hb x hx);lia
  ·cases Ak.mp hx;rw[old y hy,AB rfl] at e;have:=h.lt hy (hb y hy);lia
  ·rw[Ak.mp hx,Ak.mp hy]
 ·by_cases c:x<wd.length
  ·rw[AE c] at hx;obtain⟨q,hq,e⟩:=h.only x k' hx;exact⟨q,Ar _ hq,by rw[e];exact(old q hq).symm⟩
  ·refine⟨p,Af _ (Ak.mpr rfl),?_⟩;have:=xt hx;rw[Ac] at this;have:x<wd.length+1:=this;show x=if p=p then wd.length else f p
   rw[AB rfl];lia
 ·by_cases c:x<wd.length
  ·rw[AE c] at hx;exact h.ok x e i j hx
  ·have:=xt hx;rw[Ac] at this;have:x<wd.length+1:=this;have:x=wd.length:=by lia
   subst this;rw[Au (An _),CH] at hx;have hx:fu f k=some (.nd e i j):=A4 hx;cases k with
   |none=>cases hx
   |some k=>
    cases k with
    |lf=>cases hx
    |nd e' i' j'=>
     obtain⟨a,b⟩:=hparts e' i' j' rfl;cases hx;exact⟨h.lt a (hb _ a),h.lt b (hb _ b)⟩
theorem im{ks:List (Option Kn)}{qs:List Nat}(ok:OkO ks)(pm:qs.Perm (List.range ks.length))(pf:cL ks qs){p:Nat}(hp:qs[n]?=some p){e:Bool}(h:ks[p]?=some (some (.nd e i j))):i∈qs.take n/\j∈qs.take n:=by
 obtain⟨l1,l2⟩:=ok p e i j h;have hl:=xt h;have hn:=xt hp;have ind:∀x,x<ks.length->x≠p->(∀y∈qs.drop (n+1),y≠x)->x∈qs.take n:=fun x hx ne hno=>by
  have hm:x∈qs:=pm.mem_iff.mpr (Bb.mpr hx);have e2:qs=qs.take n++p::qs.drop (n+1):=by rw[Aj hn] at hp;rw[<-A4 hp,B1,Be]
  rw[e2] at hm;rcases Al.mp hm with hm | hm
  ·exact hm
  ·rcases Av.mp hm with hm | hm
   ·exact absurd hm ne
   ·exact absurd rfl (hno x hm)
 have pw:∀y∈qs.drop (n+1),y≠i/\y≠j:=fun y hy=>by
  have e2:qs=qs.take n++p::qs.drop (n+1):=by rw[Aj hn] at hp;rw[<-A4 hp,B1,Be]
  unfold cL at pf;rw[e2] at pf;have:=(AU.mp pf).2.1;exact(Cq.mp this).1 y hy e i j h
 exact⟨ind i (by exact jC) (by exact aii) fun y hy=>(pw y hy).1,ind j (by exact jC) (by exact aii) fun y hy=>(pw y hy).2⟩
def agl:ww:=(qt (j5 (aq cI (qc 1) (qe (zm wm (qc 3) (bB 1)) z0)) (qh 4))
 (qt (j5 (aq cI (qc 1) (qe (zm wm (qc 2) (bB 1)) z0)) (qh 5))
 (qt (j5 (zm cX (jw 4 1) (zm wm (zm ar (qc 3) (jo 64)) (eM dy (wu (jw 4 1))))) (qh 6))
 (qt (j5 (zm cX (jw 5 1) (zm wm (zm ar (qc 2) (jo 64)) (eM dy (wu (jw 5 1))))) (qh 7))
 (qt (js (aq j8 (qc 0) (qe (wf (qe (dW "both") (aY (qc 6) (qc 7)))) z0)))
 (qt (j5 (rS 1 (k7 (zm w5 (jw 4 1) (jw 5 1))) (qh 9) (yB (zm (oR true) (qc 9) (rdT (qc 6) (qc 7)))) (qc 9)) (qh 8))
 (js (aq j8 (qc 1) (qe (v5 (qe (wf (qe (dW "both") (qe (zm iG (bB 0) (jo 1)) (aY (jw 4 0) (jw 5 0))))) (qe (zm w5 (qc 8) (v5 (qe (zm iG (bB 0) (jo 1)) z0))) z0))) z0)))))))))
def ad4:ww:=(qt (xf (yB (zm yLt (eM dy (wu (jw 1 1))) (jo 2))) yD jp)
 (qt (j5 (aq cI (jw 1 1) (qe (zm wm (qc 3) (eM dy (wu (jw 1 1)))) z0)) (qh 4))
 (qt (j5 (aq cI (jw 1 1) (qe (zm wm (qc 2) (eM dy (wu (jw 1 1)))) z0)) (qh 5))
 (qt (js (aq j8 (qc 0) (qe (wf (qe (dW "either") (aY (qc 4) (qc 5)))) z0)))
 (qt (af5 (qc 1) (jo 0) (wf (qe (dW "either") (qe (zm iG (bB 0) (jo 1)) (wu (jw 1 0))))))
 (js (aq j8 (jw 1 1) (qe (zm iG (bB 0) (jo 1)) z0))))))))
theorem bV{ks:List Kn}:∀{w v:Wd} {p:Nat},cH ks p w->cH ks p v->w=v
 |.leaf t n,.leaf t' n',p,h,k=>by
  have h:(zw ks)[p]?=some (.tup [.str (kL t),.str n]):=h;have k:(zw ks)[p]?=some (.tup [.str (kL t'),.str n']):=k;rw[h] at k;injection k with k;injection k with k;injection k with k1 k2;injection k2 with k2 _
  injection k1 with k1;injection k2 with k2
  have:t=t':=by cases t<;>cases t'<;>first | rfl | (exfalso;revert k1;decide +kernel)
  rw[this,k2]
 |.leaf t n,.node e l r,p,h,k=>by obtain⟨i,j,k,_⟩:=k;have h:(zw ks)[p]?=some (.tup [.str (kL t),.str n]):=h;rw[h] at k;injection k with k;injection k with k;injection k with _ k;injection k with _ k;cases k
 |.node e l r,.leaf t n,p,h,k=>by obtain⟨i,j,h,_⟩:=h;have k:(zw ks)[p]?=some (.tup [.str (kL t),.str n]):=k;rw[h] at k;injection k with k;injection k with k;injection k with _ k;injection k with _ k;cases k
 |.node e l r,.node e' l' r',p,⟨i,j,h,hl,hr⟩,⟨i',j',k,kl,kr⟩=>by
  rw[h] at k;injection k with k;injection k with k;injection k with k1 k2;injection k2 with k2 k3;injection k3 with k3 _
  injection k1 with k1;injection k2 with k2;injection k3 with k3
  have e1:i=i':=by lia
  have e2:j=j':=by lia
  subst e1 e2;have:e=e':=by cases e<;>cases e'<;>first | rfl | (exfalso;revert k1;decide +kernel)
  rw[this,bV (ks:=ks) hl kl,bV (ks:=ks) hr kr]
theorem jI{ks:List Kn}(hk:cQ ks):∀(m p:Nat),p<m->p<ks.length->∃w,cH ks p w/\w.depth≤p+1/\w.ok
 |0,p,h,_=>absurd h (by lia)
 |m+1,p,h,hp=>by
  obtain⟨k,ek⟩:∃k,ks[p]?=some k:=⟨_,Aj hp⟩;have ho:=hk p k ek;cases k with
  |lf t n=>exact⟨.leaf t n,cH.leaf ek,by show 1≤p+1;exact CZ _,ho⟩
  |nd e i j=>
   have ho:i<p/\j<p:=ho;obtain⟨l,a1,a2,a3⟩:=jI hk m i (by lia) (by omega);obtain⟨r,b1,b2,b3⟩:=jI hk m j (by lia) (by lia);exact⟨.node e l r,EV ek a1 b1,by show max l.depth r.depth+1≤p+1;lia,a3,b3⟩
def TV(v:Str->Bool):Wd->Bool
 |.leaf t n=>if t=true then !v n else v n
 |.node e l r=>if e=true then TV v l||TV v r else TV v l&&TV v r
theorem iU(v:Str->Bool):∀w:Wd,TV v w.turn=!TV v w
 |.leaf t n=>by cases t<;>simp[Wd.turn,TV]
 |.node e l r=>by cases e<;>simp[Wd.turn,TV,iU v l,iU v r]
theorem SR.lt{E:List Nat}(h:SR ks R E):∀x∈qk R,x<ks.length:=by
 have lt:∀{p:Nat} {k:Kn},ks[p]?=some k->p<ks.length:=fun h=>(A2.mp h).1
 induction h with
 |link _ h2 h3 _ _=>intro x hx;simp[qk] at hx;rcases hx with rfl | rfl;exact lt h2;exact lt h3
 |ei h1 _ _ _ _ _ _ ih=>intro x hx;rcases Av.mp hx with rfl | hx;exact lt h1;exact ih x hx
 |bo h1 _ _ _ _ _ _ ih1 ih2=>
  intro x hx;rcases Av.mp hx with rfl | hx
  ·exact lt h1
  ·rcases Al.mp hx with hx | hx
   ·exact ih1 x hx
   ·exact ih2 x hx
 |cu _ _ _ _ _ _ _ _ ih1 ih2=>
  intro x hx;rcases Al.mp hx with hx | hx
  ·exact ih1 x hx
  ·exact ih2 x hx
theorem SR.tv(hk:cQ ks)(v:Str->Bool){E:List Nat}(h:SR ks R E):∃x∈E,∃w,cH ks x w/\TV v w=true:=by
 have ex:∀{R':Ru} {E':List Nat},SR ks R' E'->∀x∈E',∃w,cH ks x w:=fun s x hx=>by obtain⟨w,hw,_⟩:=jI hk (x+1) x (by exact BU _) (s.lt x (s.sub x hx));exact⟨w,hw⟩
 induction h with
 |@link p q t n E _ h2 h3 h4 _=>
  cases ht:TV v (.leaf t n) with
  |true=>exact⟨p,(h4 p).mpr (.inl rfl),_,cH.leaf h2,ht⟩
  |false=>
   refine⟨q,(h4 q).mpr (.inr rfl),_,cH.leaf h3,?_⟩;have:=iU v (.leaf t n);rw[ht] at this;exact this
 |@ei r i j A EA E h1 hA hi hj _ h6 _ ih=>
  obtain⟨x,hx,w,hw,tv⟩:=ih;obtain⟨wi,wi'⟩:=ex hA i hi;obtain⟨wj,wj'⟩:=ex hA j hj;by_cases c1:x=i
  ·subst c1;rw[bV hw wi'] at tv;exact⟨r,(h6 r).mpr (.inr rfl),_,EV h1 wi' wj',by simp[TV,tv]⟩
  ·by_cases c2:x=j
   ·subst c2;rw[bV hw wj'] at tv;exact⟨r,(h6 r).mpr (.inr rfl),_,EV h1 wi' wj',by simp[TV,tv]⟩
   ·exact⟨x,(h6 x).mpr (.inl ⟨hx,c1,c2⟩),w,hw,tv⟩
 |@bo r i j A B EA EB E h1 hA hB hi hj h6 _ ih1 ih2=>
  obtain⟨x,hx,w,hw,tv⟩:=ih1;obtain⟨y,hy,u,hu,tu⟩:=ih2;by_cases c1:x=i
  ·by_cases c2:y=j
   ·subst c1 c2;exact⟨r,(h6 r).mpr (.inr (.inr rfl)),_,EV h1 hw hu,by simp[TV,tv,tu]⟩
   ·exact⟨y,(h6 y).mpr (.inr (.inl ⟨hy,c2⟩)),u,hu,tu⟩
  ·exact⟨x,(h6 x).mpr (.inl ⟨hx,c1⟩),w,hw,tv⟩
 |@cu p q A B EA EB E w0 hA hB hp hq hwp hwq h7 _ ih1 ih2=>
  obtain⟨x,hx,w,hw,tv⟩:=ih1;obtain⟨y,hy,u,hu,tu⟩:=ih2;by_cases c1:x=p
  ·by_cases c2:y=q
   ·subst c1 c2;rw[bV hw hwp] at tv;rw[bV hu hwq,iU,tv] at tu;cases tu
   ·exact⟨y,(h7 y).mpr (.inr ⟨hy,c2⟩),u,hu,tu⟩
  ·exact⟨x,(h7 x).mpr (.inl ⟨hx,c1⟩),w,hw,tv⟩
theorem SR.ends(hk:cQ ks){E:List Nat}(h:SR ks R E):0<E.length:=by obtain⟨x,hx,_⟩:=h.tv hk fun _=>true;exact List.length_pos_of_mem hx
structure Tr where
 a:Addr
 b:Addr
 R:Ru
 E:List Nat
abbrev qy(E:List Nat):List Y:=E.map fun n:Nat=>Y.int (n:Int)
def Tr.ads(t:Tr):List Addr:=[t.a,t.b]
structure bD(L0 L:ql)(ka fa:Addr)(ks:List Kn)(fo:List Tr):Prop where
 hk:L ka=some (.lst (zw ks))
 ht:∀t∈fo,L t.a=some (.lst [qm t.R,.ref t.b])/\L t.b=some (.lst (qy t.E))
 sr:∀t∈fo,SR ks t.R t.E
 nd:(fo.flatMap fun t=>qk t.R).Nodup
 tm:∀x,x∈(fo.flatMap fun t=>qk t.R)↔x<ks.length
 ad:(ka::fa::fo.flatMap Tr.ads).Nodup
 ok:cQ ks
 sub:qj L0 L
 fr:∀x∈ka::fa::fo.flatMap Tr.ads,L0 x=none
def zb(fo:List Tr):List Y:=fo.map fun t=>Y.ref t.a
structure l0(L0 L:ql)(ka fa:Addr)(ks:List Kn)(fo:List Tr):Prop where
 b:bD L0 L ka fa ks fo
 hf:L fa=some (.lst (zb fo))
theorem bD.perm{fo fo':List Tr}(h:bD L0 L ka fa ks fo)(p:fo.Perm fo'):bD L0 L ka fa ks fo':=by have p1:(fo.flatMap fun t=>qk t.R).Perm (fo'.flatMap fun t=>qk t.R):=p.flatMap_right _;have p2:(fo.flatMap Tr.ads).Perm (fo'.flatMap Tr.ads):=p.flatMap_right _;refine⟨h.hk,fun t ht=>h.ht t (p.mem_iff.mpr ht),fun t ht=>h.sr t (p.mem_iff.mpr ht),p1.nodup_iff.mp h.nd,fun x=>by rw[<-p1.mem_iff];exact h.tm x,((p2.cons _).cons _).nodup_iff.mp h.ad,h.ok,h.sub,fun x hx=>h.fr x (((p2.cons _).cons _).mem_iff.mpr hx)⟩
end L3
variable {fo rest:List L3.Tr}
namespace L3
open PySem L2 Words
theorem jq{α:Type}:∀{l:List α} {j:Nat} {x:α},l[j]?=some x->l.Perm (x::l.eraseIdx j)
 |[],_,_,h=>by simp at h
 |y::r,0,x,h=>by
  have:y=x:=by simpa using h
  subst this;exact .refl _
 |y::r,j+1,x,h=>by have ih:=jq (l:=r) (j:=j) (x:=x) (by simpa using h);rw[Ck];exact(ih.cons y).trans (.swap _ _ _)
theorem ix(fo:List Tr)(j:Nat):(zb fo).eraseIdx j=zb (fo.eraseIdx j):=gD _ fo j
theorem bD.step{ms:List Kn}{old:List Tr}{t':Tr}(h:bD L0 L ka fa ks (old++rest))(hk:L' ka=some (.lst (zw (ks++ms))))(ht:L' t'.a=some (.lst [qm t'.R,.ref t'.b])/\L' t'.b=some (.lst (qy t'.E)))
 (keep:∀t∈rest,L' t.a=L t.a/\L' t.b=L t.b) (sub:qj L0 L') (ad:(ka::fa::(rest++[t']).flatMap Tr.ads).Nodup) (fr:∀x∈t'.ads,L0 x=none) (ok:cQ (ks++ms)) (sr:SR (ks++ms) t'.R t'.E)
 (tp:(qk t'.R).Perm (List.range' ks.length ms.length++old.flatMap fun t=>qk t.R)):bD L0 L' ka fa (ks++ms) (rest++[t']):=by
 have hnd:=h.nd;have htm:=h.tm;rw[AA] at hnd;have e1:((rest++[t']).flatMap fun t=>qk t.R)=(rest.flatMap fun t=>qk t.R)++qk t'.R:=by rw[AA];simp
 have mem:∀x,x∈qk t'.R↔(ks.length≤x/\x<ks.length+ms.length)\/x∈(old.flatMap fun t=>qk t.R):=fun x=>by rw[tp.mem_iff,Al,C5]
 refine⟨hk,fun t h'=>?_,fun t h'=>?_,?_,fun x=>?_,ad,ok,sub,fun x hx=>?_⟩
 ·rcases Al.mp h' with h' | h'
  ·obtain⟨k1,k2⟩:=keep t h';rw[k1,k2];exact h.ht t (Af _ h')
  ·rw[Ak.mp h'];exact ht
 ·rcases Al.mp h' with h' | h'
  ·exact(h.sr t (Af _ h')).more _
  ·rw[Ak.mp h'];exact sr
 ·rw[e1,Ao];rw[Ao] at hnd;refine⟨hnd.2.1,tp.nodup_iff.mpr ?_,fun x hx y hy e=>?_⟩
  ·rw[Ao];refine⟨DA,hnd.1,fun x hx y hy e=>?_⟩;have hx:=C5.mp hx;have hy:=(htm y).mp (by rw[AA];exact Ar _ hy);lia
  ·subst e;rcases (mem x).mp hy with hy | hy
   ·have:=(htm x).mp (by rw[AA];exact Af _ hx);lia
   ·exact hnd.2.2 x hy x hx rfl
 ·rw[e1,Al,mem,Ac];have h1:=htm x;rw[AA,Al] at h1;constructor
  ·rintro(h2 | h2 | h2)
   ·have:=h1.mp (.inr h2);exact aig
   ·lia
   ·have:=h1.mp (.inl h2);lia
  ·intro h2;by_cases c:x<ks.length
   ·rcases h1.mpr c with h3 | h3
    ·exact .inr (.inr h3)
    ·exact .inl h3
   ·exact .inr (.inl (by lia))
 ·rcases Av.mp hx with rfl | hx
  ·exact h.fr _ (Ap ..)
  ·rcases Av.mp hx with rfl | hx
   ·exact h.fr _ (Ag _ (Ap ..))
   ·rw[AA] at hx;rcases Al.mp hx with hx | hx
    ·exact h.fr _ (Ag _ (Ag _ (by rw[AA];exact Af _ hx)))
    ·exact fr x (by simpa using hx)
def nZ:x0:=fun ys L Q=>∃L0 ka fa ks fo,∃one two:Int,ys=[.ref ka,.ref fa,.int one,.int two]/\l0 L0 L ka fa ks fo/\2≤fo.length/\fo.length≤200/\ks.length≤200/\
 ∀L' ks' fo',l0 L0 L' ka fa ks' fo'->ks'.length=ks.length+1->fo'.length+1=fo.length->Q .non L'
theorem jL{l:List α}(h:0<l.length)(k:Int):∃(j:Nat) (x:α),k % (l.length:Int)=(j:Int)/\j<l.length/\l[j]?=some x:=by have h0:0≤k % (l.length:Int):=DV _ (by lia);have h1:k % (l.length:Int)<(l.length:Int):=Int.emod_lt_of_pos _ (by omega);refine⟨(k % (l.length:Int)).toNat,l[(k % (l.length:Int)).toNat]'(by lia),by lia,by lia,Aj (by lia)⟩
theorem ap:∀(n:Nat) (l:List Nat),l.Nodup->(∀x∈l,x<n)->l.length≤n
 |0,l,_,h=>by cases l with|nil=>exact An _|cons x r=>exact absurd (h x (Ap ..)) (by lia)
 |n+1,l,nd,h=>by
  by_cases c:n∈l
  ·have p:=List.perm_cons_erase c;have ih:=ap n (l.erase n) (nd.erase n) fun x hx=>by have:=(List.Nodup.mem_erase_iff nd).mp hx;have:=h x this.2;lia
   rw[p.length_eq,AK];exact ahw
  ·exact Ca (ap n l nd fun x hx=>by have:=h x hx;have:x≠n:=fun e=>c (e▸hx);lia)
theorem ae(h:bD L0 L ka fa ks fo){t:Tr}(ht:t∈fo):0<t.E.length/\t.E.length≤ks.length:=by have s:=h.sr t ht;exact⟨s.ends h.ok,ap _ _ s.nod fun x hx=>s.lt x (s.sub x hx)⟩
theorem ac5(x l r:Nat):uK (fS (.int (x:Int))) (([.int (l:Int),.int (r:Int)]:List Y).map fS)=decide (x=l\/x=r):=by
 show(fh (.int (l:Int)) (.int (x:Int))||(fh (.int (r:Int)) (.int (x:Int))||false))=_;have e:∀a b:Nat,fh (.int (a:Int)) (.int (b:Int))=decide (b=a):=fun a b=>by
  show decide ((a:Int)=(b:Int))=decide (b=a);by_cases c:b=a
  ·subst c;simp
  ·rw[Ax c];apply Ax;lia
 rw[e,e];by_cases h1:x=l<;>by_cases h2:x=r<;>simp[h1,h2]
theorem md{E:List Nat}(h:0<E.length)(k:Int):∃x,x∈E/\fg (qy E) (k % ((qy E).length:Int))=some (.int ((x:Nat):Int)):=by obtain⟨j,x,ej,lj,ex⟩:=jL h k;refine⟨x,AO ex,?_⟩;rw[Ae,ej];exact kn (by rw[Aq,ex];rfl)
def jz(E1 E2:List Nat)(l r:Nat):List Nat:=(E1++E2).filter fun x=>!decide (x=l\/x=r)
theorem yF{pp:Addr}{E:List Nat}{l r k:Nat}{Q:YK}{tc:kG}(hp:L pp=some (.lst (qy E)))(hlen:E.length≤1000)
 (ht:∀y (Q':Bool->ql->Prop),oR true y (.tup [.int (l:Int),.int (r:Int)]) L (fun x L'=>match x with | .bl c=>Q' c L' | _=>False)->tc (fV (τ++List.replicate 1 none) k y) L Q')
 (hv:∀y,sL (fV (τ++List.replicate 1 none) k y) k=some y)
 (hq:∀p,L p=none->Q (.ref p) (qg L p (.lst (qy (E.filter fun x=>!decide (x=l\/x=r)))))):
 om L pp fun ys keep L2=>lcK ys keep 1 (qh k) tc (qc k) τ L2 Q:=by
 refine xo hp fun keep kp=>cf (fun j zs=>zs=qy ((E.take j).filter fun x=>!decide (x=l\/x=r))) (by rw[Ae];exact lv hlen) (kp L rfl) rfl ?_ ?_
 ·rintro j y _ ey rfl;obtain⟨x,ex,rfl⟩:∃x:Nat,E[j]?=some x/\y=Y.int (x:Int):=by rw[Aq] at ey;obtain⟨x,e1,e2⟩:=Ay.mp ey;exact⟨x,e1,e2.symm⟩
  refine ht _ _ ⟨rfl,rfl,?_⟩;rw[ac5];show aE (!decide (x=l\/x=r)) _ _;have et:(E.take (j+1)).filter (fun x=>!decide (x=l\/x=r))=(E.take j).filter (fun x=>!decide (x=l\/x=r))++[x].filter (fun x=>!decide (x=l\/x=r)):=by rw[Bi,ex,BE];rfl
  by_cases c:x=l\/x=r
  ·refine xj (by rw[AH c];rfl) ?_;refine frg ⟨rfl,?_⟩;rw[et,List.filter_cons_of_neg (by simp[c]),Dn,AQ]
  ·refine gM (by rw[Ax c];rfl) ?_;unfold qc;rw[hv];refine frg ⟨rfl,?_⟩;rw[et,List.filter_cons_of_pos (by simp[c]),Dn];unfold qy;rw[AG];rfl
 ·rintro _ rfl p hp';rw[Ae,Bt];exact hq p hp'
theorem tJ{k:Int}(hf:L fa=some (.lst (zb fo)))(h:0<fo.length):∃(j:Nat) (t:Tr),fo[j]?=some t/\0≤k % ((zb fo).length:Int)/\k % ((zb fo).length:Int)<((zb fo).length:Int)/\
 (zb fo)[(k % ((zb fo).length:Int)).toNat]?=some (.ref t.a)/\qg L fa (.lst ((zb fo).eraseIdx (k % ((zb fo).length:Int)).toNat)) fa=some (.lst (zb (fo.eraseIdx j))):=by
 obtain⟨j,t,ej,lj,et⟩:=jL h k;have e:(zb fo).length=fo.length:=Ae ..;rw[e,ej];refine⟨j,t,et,by exact A7 _,by lia,?_,?_⟩
 ·show(zb fo)[j]?=_;unfold zb;rw[Aq,et];rfl
 ·rw[q9];show some (LO.lst ((zb fo).eraseIdx j))=_;rw[ix]
theorem bD.two{t1 t2:Tr}(h:bD L0 L ka fa ks (t1::t2::rest)):∀x,x∈qk t1.R->x∈qk t2.R->False:=by intro x h1 h2;have nd:=h.nd;rw[A1,A1,Ao] at nd;exact nd.2.2 x h1 x (Ar _ h2) rfl
theorem oK{E1 E2:List Nat}{l r:Nat}(hl:l∉E2)(hr:r∉E1)(x:Nat):x∈jz E1 E2 l r↔(x∈E1/\x≠l)\/(x∈E2/\x≠r):=by
 unfold jz;rw[AS,Al];constructor
 ·rintro⟨h,c⟩;have c:¬(x=l\/x=r):=by simpa using c
  rcases h with h | h
  ·exact .inl ⟨h,fun e=>c (.inl e)⟩
  ·exact .inr ⟨h,fun e=>c (.inr e)⟩
 ·rintro(⟨h,c⟩ | ⟨h,c⟩)
  ·refine⟨.inl h,?_⟩;have:x≠r:=fun e=>hr (e▸h);simp[c,this]
  ·refine⟨.inr h,?_⟩;have:x≠l:=fun e=>hl (e▸h);simp[c,this]
theorem nQ{E1 E2:List Nat}{l r:Nat}(h1:E1.Nodup)(h2:E2.Nodup)(d:∀x,x∈E1->x∈E2->False):(jz E1 E2 l r).Nodup:=by
 unfold jz;have h:(E1++E2).Nodup:=by rw[Ao];exact⟨h1,h2,fun x hx y hy e=>d x hx (e▸hy)⟩
 exact List.Pairwise.filter _ h
theorem ady:∀ys L Q,nZ ys L Q->v3 agl 9 ys L Q:=by
 rintro ys L Q ⟨L0,ka,fa,ks,fo,one,two,rfl,F,h2,h200,hk200,q⟩;have big:=bg_;have lenR:∀fo:List Tr,(zb fo).length=fo.length:=fun fo=>Ae ..;obtain⟨j1,t1,at1,a1,a2,a3,hf1⟩:=tJ (k:=two) F.hf (by exact fQ);have l1:(fo.eraseIdx j1).length+1=fo.length:=by have:=(jq at1).length_eq;rw[AK] at this;lia
 refine qd F.hf (qd F.hf ⟨(by show(0:Int)<((zb fo).length:Int);rw[lenR];lia),qw F.hf ⟨a1,a2,qp a3 ?_⟩⟩);have old1:∀b o,b≠fa->L b=some o->qg L fa (.lst ((zb fo).eraseIdx (two % ((zb fo).length:Int)).toNat)) b=some o:=fun b o nb e=>by rw[qb nb];exact e
 generalize qg L fa (.lst ((zb fo).eraseIdx (two % ((zb fo).length:Int)).toNat))=L1 at hf1 old1;obtain⟨j2,t2,at2,b1,b2,b3,hf2⟩:=tJ (k:=one) hf1 (by lia);have l2:((fo.eraseIdx j1).eraseIdx j2).length+1=(fo.eraseIdx j1).length:=by have:=(jq at2).length_eq;rw[AK] at this;lia
 refine qd hf1 (qd hf1 ⟨(by show(0:Int)<((zb (fo.eraseIdx j1)).length:Int);rw[lenR];lia),qw hf1 ⟨b1,b2,qp b3 ?_⟩⟩);have old2:∀b o,b≠fa->L b=some o->qg L1 fa (.lst ((zb (fo.eraseIdx j1)).eraseIdx (one % ((zb (fo.eraseIdx j1)).length:Int)).toNat)) b=some o:=fun b o nb e=>by rw[qb nb];exact old1 b o nb e
 generalize qg L1 fa (.lst ((zb (fo.eraseIdx j1)).eraseIdx (one % ((zb (fo.eraseIdx j1)).length:Int)).toNat))=L2 at hf2 old2;have B:bD L0 L ka fa ks (t1::t2::(fo.eraseIdx j1).eraseIdx j2):=F.b.perm ((jq at1).trans ((jq at2).cons _));generalize (fo.eraseIdx j1).eraseIdx j2=rest at l2 hf2 B;clear hf1 old1 a1 a2 a3 b1 b2 b3;have m1:t1∈t1::t2::rest:=by simp
 have m2:t2∈t1::t2::rest:=by simp
 have ad:=B.ad;have nk:∀t∈t1::t2::rest,t.a≠fa/\t.b≠fa/\t.a≠ka/\t.b≠ka:=fun t ht=>by rw[Aw,Aw] at ad;have ma:t.a∈(t1::t2::rest).flatMap Tr.ads:=A3.mpr ⟨t,ht,by simp[Tr.ads]⟩;have mb:t.b∈(t1::t2::rest).flatMap Tr.ads:=A3.mpr ⟨t,ht,by simp[Tr.ads]⟩;exact⟨fun e=>ad.2.1 (e▸ma),fun e=>ad.2.1 (e▸mb),fun e=>ad.1 (Ag _ (e▸ma)),fun e=>ad.1 (Ag _ (e▸mb))⟩
 have nkf:ka≠fa:=by rw[Aw] at ad;exact fun e=>ad.1 (e▸Ap ..)
 have hk2:L2 ka=some (.lst (zw ks)):=old2 ka _ nkf B.hk;have ta1:=old2 t1.a _ (nk t1 m1).1 (B.ht t1 m1).1;have tb1:=old2 t1.b _ (nk t1 m1).2.1 (B.ht t1 m1).2;have ta2:=old2 t2.a _ (nk t2 m2).1 (B.ht t2 m2).1;have tb2:=old2 t2.b _ (nk t2 m2).2.1 (B.ht t2 m2).2;have le1:=ae B m1;have le2:=ae B m2;obtain⟨x,hx,ex⟩:=md le1.1 (two / 64);obtain⟨y,hy,ey⟩:=md le2.1 (one / 64);refine qd ta1 ⟨⟨by decide,by decide⟩,qd ta1 (qd tb1 ⟨(by show(0:Int)<((qy t1.E).length:Int);rw[Ae];omega),qd tb1 (qp ex ?_)⟩)⟩;refine qd ta2 ⟨⟨by decide,by decide⟩,qd ta2 (qd tb2 ⟨(by show(0:Int)<((qy t2.E).length:Int);rw[Ae];omega),qd tb2 (qp ey ?_)⟩)⟩;refine qd hk2 (qw hk2 ⟨big _ (by rw[Ae];exact sP),?_⟩);have ek:zw ks++[.tup [.str "both",.int ((x:Nat):Int),.int ((y:Nat):Int)]]=zw (ks++[.nd false x y]):=by unfold zw;rw[AG];rfl
 rw[ek];have hk3:qg L2 ka (.lst (zw (ks++[.nd false x y]))) ka=some (.lst (zw (ks++[.nd false x y]))):=q9;have old3:∀b o,b≠ka->L2 b=some o->qg L2 ka (.lst (zw (ks++[.nd false x y]))) b=some o:=fun b o nb e=>by rw[qb nb];exact e
 generalize qg L2 ka (.lst (zw (ks++[.nd false x y])))=L3 at hk3 old3;have ta1:=old3 _ _ (nk t1 m1).2.2.1 ta1;have tb1:=old3 _ _ (nk t1 m1).2.2.2 tb1;have ta2:=old3 _ _ (nk t2 m2).2.2.1 ta2;have tb2:=old3 _ _ (nk t2 m2).2.2.2 tb2;have hf3:=old3 _ _ (AM nkf) hf2;refine qd ta1 (qd ta2 ⟨_,_,tb1,tb2,small (by rw[Ae,Ae];lia),fun pp hpp=>?_⟩);have en:qy t1.E++qy t2.E=qy (t1.E++t2.E):=by unfold qy;rw[AG]
 rw[en];refine yF (E:=t1.E++t2.E) (l:=x) (r:=y) (k:=9) q9 (by rw[Ac];lia) (fun y' Q' h=>h) (fun _=>rfl) fun pe hpe=>?_;have s4:qj L3 (qg (qg L3 pp (.lst (qy (t1.E++t2.E)))) pe (.lst (qy ((t1.E++t2.E).filter fun z=>!decide (z=x\/z=y))))):=(By hpp).trans (By hpe);have he4:qg (qg L3 pp (.lst (qy (t1.E++t2.E)))) pe (.lst (qy ((t1.E++t2.E).filter fun z=>!decide (z=x\/z=y)))) pe=some (.lst (qy (jz t1.E t2.E x y))):=q9;generalize qg (qg L3 pp (.lst (qy (t1.E++t2.E)))) pe (.lst (qy ((t1.E++t2.E).filter fun z=>!decide (z=x\/z=y))))=L4 at s4 he4;have hk4:=s4 _ _ hk3;have hf4:=s4 _ _ hf3;have nn:(((zw (ks++[.nd false x y])).length:Nat):Int) - 1=((ks.length:Nat):Int):=by rw[Ae,Ac];simp
 refine qd hf4 (qd hk4 (qd (s4 _ _ ta1) (qd (s4 _ _ ta2) (qd hk4 fun pn hpn=>?_))));refine⟨_,_,By hpn _ _ he4,q9,small (by have:=nQ (l:=x) (r:=y) (B.sr t1 m1).nod (B.sr t2 m2).nod (fun z h1 h2=>B.two z ((B.sr t1 m1).sub z h1) ((B.sr t2 m2).sub z h2));have:=List.length_filter_le (fun z=>!decide (z=x\/z=y)) (t1.E++t2.E);rw[Ac] at this;rw[Ae];unfold jz;show _+1≤1000;lia),fun pb hpb pa hpa=>?_⟩;have s7:=(By (o:=.lst [.int ((((zw (ks++[.nd false x y])).length:Nat):Int) - 1)]) hpn).trans ((By (o:=.lst (qy (jz t1.E t2.E x y)++[.int ((((zw (ks++[.nd false x y])).length:Nat):Int) - 1)])) hpb).trans (By (o:=.lst [.tup [.str "both",.int ((((zw (ks++[.nd false x y])).length:Nat):Int) - 1),qm t1.R,qm t2.R],.ref pb]) hpa));refine qw (s7 _ _ hf4) ⟨big _ (by rw[lenR];lia),?_⟩;have nab:pb≠pa:=w6 q9 hpa;have hpa7:∀L6:ql,qg L6 pa (.lst [.tup [.str "both",.int ((((zw (ks++[.nd false x y])).length:Nat):Int) - 1),qm t1.R,qm t2.R],.ref pb]) pa=some (.lst [qm (.bo ks.length t1.R t2.R),.ref pb]):=fun L6=>by rw[q9,nn];rfl
 have hpb7:∀L5 o,qg (qg L5 pb (.lst (qy (jz t1.E t2.E x y)++[.int ((((zw (ks++[.nd false x y])).length:Nat):Int) - 1)]))) pa o pb=some (.lst (qy (jz t1.E t2.E x y++[ks.length]))):=fun L5 o=>by rw[qb nab,q9,nn];unfold qy;rw[AG];rfl
 have ea:=hpa7 (qg (qg L4 pn (.lst [.int ((((zw (ks++[.nd false x y])).length:Nat):Int) - 1)])) pb (.lst (qy (jz t1.E t2.E x y)++[.int ((((zw (ks++[.nd false x y])).length:Nat):Int) - 1)])));have eb:=hpb7 (qg L4 pn (.lst [.int ((((zw (ks++[.nd false x y])).length:Nat):Int) - 1)])) (.lst [.tup [.str "both",.int ((((zw (ks++[.nd false x y])).length:Nat):Int) - 1),qm t1.R,qm t2.R],.ref pb]);have na4:L4 pa=none:=by cases z:L4 pa with|none=>rfl|some o=>rw[((By hpn).trans (By hpb)) _ _ z] at hpa;cases hpa
 have nb4:L4 pb=none:=by cases z:L4 pb with|none=>rfl|some o=>rw[(By hpn) _ _ z] at hpb;cases hpb
 generalize qg (qg (qg L4 pn (.lst [.int ((((zw (ks++[.nd false x y])).length:Nat):Int) - 1)])) pb (.lst (qy (jz t1.E t2.E x y)++[.int ((((zw (ks++[.nd false x y])).length:Nat):Int) - 1)]))) pa (.lst [.tup [.str "both",.int ((((zw (ks++[.nd false x y])).length:Nat):Int) - 1),qm t1.R,qm t2.R],.ref pb])=L7 at s7 ea eb;clear hpn hpb hpa hpa7 hpb7 he4;have up:∀b o,b≠fa->b≠ka->L b=some o->L4 b=some o:=fun b o n1 n2 e=>s4 _ _ (old3 _ _ n2 (old2 _ _ n1 e));have hf7:=s7 _ _ hf4;have npa:pa≠fa:=fun e=>by rw[e,hf4] at na4;cases na4
 have npb:pb≠fa:=fun e=>by rw[e,hf4] at nb4;cases nb4
 have s1:=B.sr t1 m1;have s2:=B.sr t2 m2;have dis:∀z,z∈t1.E->z∈t2.E->False:=fun z h1 h2=>B.two z (s1.sub z h1) (s2.sub z h2);refine x8 (q _ (ks++[.nd false x y]) (rest++[⟨pa,pb,.bo ks.length t1.R t2.R,jz t1.E t2.E x y++[ks.length]⟩]) ⟨?_,?_⟩ (by rw[Ac];rfl) (by rw[Ac];simp;lia))
 ·refine bD.step (old:=[t1,t2]) (t':=⟨pa,pb,.bo ks.length t1.R t2.R,jz t1.E t2.E x y++[ks.length]⟩) B ?_ ⟨?_,?_⟩ (fun t ht=>?_) (fun b o e=>?_) ?_ (fun z hz=>?_) ?_ ?_ ?_
  ·rw[qb nkf];exact s7 _ _ hk4
  ·rw[qb npa];exact ea
  ·rw[qb npb];exact eb
  ·have mt:t∈t1::t2::rest:=Ag _ (Ag _ ht);obtain⟨n1,n2,n3,n4⟩:=nk t mt;obtain⟨h1,h2⟩:=B.ht t mt;rw[h1,h2,qb n1,qb n2];exact⟨s7 _ _ (up _ _ n1 n3 h1),s7 _ _ (up _ _ n2 n4 h2)⟩
  ·have n1:b≠ka:=fun z=>by rw[z,B.fr ka (by simp)] at e;cases e
   have n2:b≠fa:=fun z=>by rw[z,B.fr fa (by simp)] at e;cases e
   rw[qb n2];exact s7 _ _ (up _ _ n2 n1 (B.sub _ _ e))
  ·rw[Aw,Aw] at ad;obtain⟨d1,d2,d3⟩:=ad;have d3':(rest.flatMap Tr.ads).Nodup:=by rw[A1,A1,Ao,Ao] at d3;exact d3.2.1.2.1
   have inn:∀z∈rest.flatMap Tr.ads,z∈(t1::t2::rest).flatMap Tr.ads:=fun z hz=>by rw[A1,A1];exact Af _ (Af _ hz)
   have ex4:∀z∈rest.flatMap Tr.ads,∃o,L4 z=some o:=fun z hz=>by
    obtain⟨t,ht,hz⟩:=A3.mp hz;have mt:t∈t1::t2::rest:=Ag _ (Ag _ ht);obtain⟨n1,n2,n3,n4⟩:=nk t mt;obtain⟨h1,h2⟩:=B.ht t mt;have hz:z=t.a\/z=t.b:=by simpa[Tr.ads] using hz
    rcases hz with rfl | rfl
    ·exact⟨_,up _ _ n1 n3 h1⟩
    ·exact⟨_,up _ _ n2 n4 h2⟩
   have npk:pa≠ka:=fun e=>by rw[e,hk4] at na4;cases na4
   have nbk:pb≠ka:=fun e=>by rw[e,hk4] at nb4;cases nb4
   have nra:pa∉rest.flatMap Tr.ads:=fun hz=>by obtain⟨o,e⟩:=ex4 _ hz;rw[na4] at e;cases e
   have nrb:pb∉rest.flatMap Tr.ads:=fun hz=>by obtain⟨o,e⟩:=ex4 _ hz;rw[nb4] at e;cases e
   rw[AA];rw[Aw,Aw,Ao];refine⟨?_,?_,d3',?_,?_⟩
   ·intro z;rcases Av.mp z with z | z
    ·exact nkf z
    ·rcases Al.mp z with z | z
     ·exact d1 (Ag _ (inn _ z))
     ·simp[Tr.ads] at z;rcases z with z | z;exact npk z.symm;exact nbk z.symm
   ·intro z;rcases Al.mp z with z | z
    ·exact d2 (inn _ z)
    ·simp[Tr.ads] at z;rcases z with z | z;exact npa z.symm;exact npb z.symm
   ·simp[Tr.ads];exact AM nab
   ·intro u hu v hv e;simp[Tr.ads] at hv;subst e;rcases hv with rfl | rfl
    ·exact nra hu
    ·exact nrb hu
  ·have hz:z=pa\/z=pb:=by simpa[Tr.ads] using hz
   cases w:L0 z with
   |none=>rfl
   |some o=>
    have n1:z≠ka:=fun e=>by rw[e,B.fr ka (by simp)] at w;cases w
    have n2:z≠fa:=fun e=>by rw[e,B.fr fa (by simp)] at w;cases w
    have:=up _ _ n2 n1 (B.sub _ _ w);rcases hz with rfl | rfl
    ·rw[na4] at this;cases this
    ·rw[nb4] at this;cases this
  ·exact B.ok.snoc ⟨s1.lt x (s1.sub x hx),s2.lt y (s2.sub y hy)⟩
  ·refine .bo (cr _ _ _) (s1.more _) (s2.more _) hx hy (fun z=>?_) ?_
   ·rw[Al,oK (fun h=>dis x hx h) (fun h=>dis y h hy),Ak];constructor
    ·rintro((h | h) | h)
     ·exact .inl h
     ·exact .inr (.inl h)
     ·exact .inr (.inr h)
    ·rintro(h | h | h)
     ·exact .inl (.inl h)
     ·exact .inl (.inr h)
     ·exact .inr h
   ·rw[Ao];refine⟨nQ s1.nod s2.nod dis,by simp,fun u hu v hv e=>?_⟩;rw[Ak.mp hv] at e;have:=(oK (fun h=>dis x hx h) (fun h=>dis y h hy) u).mp hu;rcases this with⟨h,_⟩ | ⟨h,_⟩
    ·have:=s1.lt u (s1.sub u h);lia
    ·have:=s2.lt u (s2.sub u h);lia
  ·show(ks.length::(qk t1.R++qk t2.R)).Perm (List.range' ks.length 1++([t1,t2].flatMap fun t=>qk t.R));simp[DI]
 ·rw[q9];unfold zb;rw[AG];rfl
theorem pD{E:List Nat}{k:Int}(h:0<E.length):∃(j x:Nat),E[j]?=some x/\0≤k % ((qy E).length:Int)/\k % ((qy E).length:Int)<((qy E).length:Int)/\
 (qy E)[(k % ((qy E).length:Int)).toNat]?=some (.int ((x:Nat):Int))/\(qy E).eraseIdx (k % ((qy E).length:Int)).toNat=qy (E.eraseIdx j):=by
 obtain⟨j,x,ej,lj,et⟩:=jL h k;have e:(qy E).length=E.length:=Ae ..;rw[e,ej];refine⟨j,x,et,by exact A7 _,by lia,?_,?_⟩
 ·show(qy E)[j]?=_;rw[Aq,et];rfl
 ·exact gD _ E j
def jM:x0:=fun ys L Q=>∃L0 ka fa ks,∃pre post:List Tr,∃t:Tr,∃one two:Int,ys=[.ref ka,.ref t.a,.int one,.int two]/\l0 L0 L ka fa ks (pre++t::post)/\ks.length≤200/\
 ∀L' ks' fo',l0 L0 L' ka fa ks' fo'->ks'.length≤ks.length+1->fo'.length=(pre++t::post).length->Q .non L'
theorem zJ:∀ys L Q,jM ys L Q->v3 ad4 6 ys L Q:=by
 rintro ys L Q ⟨L0,ka,fa,ks,pre,post,t,one,two,rfl,F,hk200,q⟩;have big:=bg_;have mt:t∈pre++t::post:=by simp
 have B:=F.b;obtain⟨ta,tb⟩:=B.ht t mt;have le:=ae B mt;have s:=B.sr t mt;have lenE:∀E:List Nat,(qy E).length=E.length:=fun E=>Ae ..;refine qd ta (qd tb ?_);refine x5 (fun c=>?_) fun c=>?_
 ·exact x8 (q L ks _ F (BW _) rfl)
 have c:¬(((qy t.E).length:Int)<2):=c;rw[lenE] at c;have ad:=B.ad;have nkf:ka≠fa:=by rw[Aw] at ad;exact fun e=>ad.1 (e▸Ap ..)
 have nk:∀u∈pre++t::post,u.a≠fa/\u.b≠fa/\u.a≠ka/\u.b≠ka:=fun u hu=>by rw[Aw,Aw] at ad;have ma:u.a∈(pre++t::post).flatMap Tr.ads:=A3.mpr ⟨u,hu,by simp[Tr.ads]⟩;have mb:u.b∈(pre++t::post).flatMap Tr.ads:=A3.mpr ⟨u,hu,by simp[Tr.ads]⟩;exact⟨fun e=>ad.2.1 (e▸ma),fun e=>ad.2.1 (e▸mb),fun e=>ad.1 (Ag _ (e▸ma)),fun e=>ad.1 (Ag _ (e▸mb))⟩
 have nab:t.a≠t.b:=by rw[Aw,Aw,AA,A1,Ao,Ao] at ad;have:=ad.2.2.2.1.1;simpa[Tr.ads] using this
 obtain⟨j1,x,e1,a1,a2,a3,a4⟩:=pD (k:=two) le.1;refine qd ta (qd tb (qd ta (qd tb ⟨(by show(0:Int)<((qy t.E).length:Int);rw[lenE];omega),qw tb ⟨a1,a2,qp a3 ?_⟩⟩)));rw[a4];have lE1:(t.E.eraseIdx j1).length+1=t.E.length:=by have:=(jq e1).length_eq;rw[AK] at this;lia
 have ta1:qg L t.b (.lst (qy (t.E.eraseIdx j1))) t.a=some (.lst [qm t.R,.ref t.b]):=by rw[qb nab];exact ta
 obtain⟨j2,y,e2,b1,b2,b3,b4⟩:=pD (E:=t.E.eraseIdx j1) (k:=one) (by lia);refine qd ta1 (qd q9 (qd ta1 (qd q9 ⟨(by show(0:Int)<((qy (t.E.eraseIdx j1)).length:Int);rw[lenE];omega),qw q9 ⟨b1,b2,qp b3 ?_⟩⟩)));rw[b4,jx];have lE2:((t.E.eraseIdx j1).eraseIdx j2).length+1=(t.E.eraseIdx j1).length:=by have:=(jq e2).length_eq;rw[AK] at this;lia
 have pE:t.E.Perm (x::y::(t.E.eraseIdx j1).eraseIdx j2):=(jq e1).trans ((jq e2).cons _);generalize (t.E.eraseIdx j1).eraseIdx j2=E2 at lE2 pE;have hk1:qg L t.b (.lst (qy E2)) ka=some (.lst (zw ks)):=by rw[qb (AM (nk t mt).2.2.2)];exact B.hk
 refine qd hk1 (qw hk1 ⟨big _ (by rw[Ae];exact sP),?_⟩);have ek:zw ks++[.tup [.str "either",.int ((x:Nat):Int),.int ((y:Nat):Int)]]=zw (ks++[.nd true x y]):=by unfold zw;rw[AG];rfl
 rw[ek];have nn:(((zw (ks++[.nd true x y])).length:Nat):Int) - 1=((ks.length:Nat):Int):=by rw[Ae,Ac];simp
 have ta2:qg (qg L t.b (.lst (qy E2))) ka (.lst (zw (ks++[.nd true x y]))) t.a=some (.lst [qm t.R,.ref t.b]):=by rw[qb (nk t mt).2.2.1,qb nab];exact ta
 refine qd q9 (qd ta2 ?_);refine qw ta2 (qp (v:=0) rfl ?_);have ha3:qg (qg (qg L t.b (.lst (qy E2))) ka (.lst (zw (ks++[.nd true x y])))) t.a (.lst ([qm t.R,.ref t.b].set 0 (.tup [.str "either",.int ((((zw (ks++[.nd true x y])).length:Nat):Int) - 1),qm t.R]))) t.a=some (.lst [qm (.ei ks.length t.R),.ref t.b]):=by rw[q9,nn];rfl
 have hk3:∀o,qg (qg (qg L t.b (.lst (qy E2))) ka (.lst (zw (ks++[.nd true x y])))) t.a o ka=some (.lst (zw (ks++[.nd true x y]))):=fun o=>by rw[qb (AM (nk t mt).2.2.1)];exact q9
 have tb3:∀o,qg (qg (qg L t.b (.lst (qy E2))) ka (.lst (zw (ks++[.nd true x y])))) t.a o t.b=some (.lst (qy E2)):=fun o=>by rw[qb (AM nab),qb (nk t mt).2.2.2];exact q9
 have old3:∀o b u,b≠t.a->b≠t.b->b≠ka->L b=some u->qg (qg (qg L t.b (.lst (qy E2))) ka (.lst (zw (ks++[.nd true x y])))) t.a o b=some u:=fun o b u n1 n2 n3 e=>by rw[qb n1,qb n3,qb n2];exact e
 have hk3:=hk3 (.lst ([qm t.R,.ref t.b].set 0 (.tup [.str "either",.int ((((zw (ks++[.nd true x y])).length:Nat):Int) - 1),qm t.R])));have tb3:=tb3 (.lst ([qm t.R,.ref t.b].set 0 (.tup [.str "either",.int ((((zw (ks++[.nd true x y])).length:Nat):Int) - 1),qm t.R])));have old3:=old3 (.lst ([qm t.R,.ref t.b].set 0 (.tup [.str "either",.int ((((zw (ks++[.nd true x y])).length:Nat):Int) - 1),qm t.R])));generalize qg (qg (qg L t.b (.lst (qy E2))) ka (.lst (zw (ks++[.nd true x y])))) t.a (.lst ([qm t.R,.ref t.b].set 0 (.tup [.str "either",.int ((((zw (ks++[.nd true x y])).length:Nat):Int) - 1),qm t.R])))=L3 at ha3 hk3 tb3 old3;refine qd ha3 (qd tb3 (qd hk3 (qw tb3 ⟨big _ (by rw[lenE];lia),?_⟩)));have en:qy E2++[.int ((((zw (ks++[.nd true x y])).length:Nat):Int) - 1)]=qy (E2++[ks.length]):=by rw[nn];unfold qy;rw[AG];rfl
 have nxy:=pE.nodup_iff.mp s.nod;rw[Aw,Aw] at nxy;have hx:x∈t.E:=pE.mem_iff.mpr (by simp);have hy:y∈t.E:=pE.mem_iff.mpr (by simp);have adT:∀u∈pre++post,u.a≠t.a/\u.a≠t.b/\u.b≠t.a/\u.b≠t.b:=fun u hu=>by have p:(pre++t::post).Perm (t::(pre++post)):=CI;have ad2:=(p.flatMap_right Tr.ads).nodup_iff.mp (by rw[Aw,Aw] at ad;exact ad.2.2);rw[A1,Ao] at ad2;have k:=ad2.2.2;have ma:u.a∈(pre++post).flatMap Tr.ads:=A3.mpr ⟨u,hu,by simp[Tr.ads]⟩;have mb:u.b∈(pre++post).flatMap Tr.ads:=A3.mpr ⟨u,hu,by simp[Tr.ads]⟩;exact⟨fun e=>k t.a (by simp[Tr.ads]) u.a ma e.symm,fun e=>k t.b (by simp[Tr.ads]) u.a ma e.symm,fun e=>k t.a (by simp[Tr.ads]) u.b mb e.symm,fun e=>k t.b (by simp[Tr.ads]) u.b mb e.symm⟩
 refine x8 (q _ (ks++[.nd true x y]) (pre++⟨t.a,t.b,.ei ks.length t.R,E2++[ks.length]⟩::post) ⟨?_,?_⟩ (by rw[Ac];exact An _) (by simp))
 ·have B':=B.perm (fo':=[t]++(pre++post)) CI;have st:=bD.step (old:=[t]) (rest:=pre++post) (t':=⟨t.a,t.b,.ei ks.length t.R,E2++[ks.length]⟩) (ms:=[.nd true x y]) (L':=qg L3 t.b (.lst (qy E2++[.int ((((zw (ks++[.nd true x y])).length:Nat):Int) - 1)]))) B' ?_ ⟨?_,?_⟩ (fun u hu=>?_) (fun b o e=>?_) ?_ (fun z hz=>?_) ?_ ?_ ?_
  ·exact st.perm (by have p1:((pre++post)++[(⟨t.a,t.b,.ei ks.length t.R,E2++[ks.length]⟩:Tr)]).Perm ((⟨t.a,t.b,.ei ks.length t.R,E2++[ks.length]⟩:Tr)::(pre++post)):=B3 _ _;exact p1.trans CI.symm)
  ·rw[qb (AM (nk t mt).2.2.2)];exact hk3
  ·rw[qb nab];exact ha3
  ·rw[q9,en]
  ·have hu':u∈pre++t::post:=by rcases Al.mp hu with h | h;exact Ar _ h;exact Af _ (Ag _ h)
   obtain⟨n1,n2,n3,n4⟩:=adT u hu;obtain⟨k1,k2,k3,k4⟩:=nk u hu';obtain⟨h1,h2⟩:=B.ht u hu';rw[h1,h2,qb n2,qb n4];exact⟨old3 _ _ n1 n2 k3 h1,old3 _ _ n3 n4 k4 h2⟩
  ·have fr:=B.fr;have n0:∀z,L0 z=none->b≠z:=fun z hz w=>by rw[w,hz] at e;cases e
   have n1:=n0 ka (fr ka (by simp));have n2:=n0 t.a (fr t.a (by simp[Tr.ads]));have n3:=n0 t.b (fr t.b (by simp[Tr.ads]));rw[qb n3];exact old3 _ _ n2 n3 n1 (B.sub _ _ e)
  ·have p:(pre++t::post).Perm ((pre++post)++[t]):=CI.trans (B3 _ _).symm;have e:((pre++post)++[(⟨t.a,t.b,.ei ks.length t.R,E2++[ks.length]⟩:Tr)]).flatMap Tr.ads=((pre++post)++[t]).flatMap Tr.ads:=by simp[AA,Tr.ads]
   rw[e];exact(((p.flatMap_right Tr.ads).cons _).cons _).nodup_iff.mp ad
  ·have hz:z=t.a\/z=t.b:=by simpa[Tr.ads] using hz
   rcases hz with rfl | rfl
   ·exact B.fr _ (by simp[Tr.ads])
   ·exact B.fr _ (by simp[Tr.ads])
  ·exact B.ok.snoc ⟨s.lt x (s.sub x hx),s.lt y (s.sub y hy)⟩
  ·refine .ei (cr _ _ _) (s.more _) hx hy (fun e=>nxy.1 (by rw[e];exact Ap ..)) (fun z=>?_) ?_
   ·rw[Al,Ak];have hm:=pE.mem_iff (a:=z);rw[Av,Av] at hm;have h1:z∈E2->z≠x/\z≠y:=fun h=>⟨fun e=>nxy.1 (by rw[<-e];exact Ag _ h),fun e=>nxy.2.1 (e▸h)⟩;constructor
    ·rintro(h | h)
     ·exact .inl ⟨hm.mpr (.inr (.inr h)),h1 h⟩
     ·exact .inr h
    ·rintro(⟨h,c1,c2⟩ | h)
     ·rcases hm.mp h with e | e | e
      ·exact absurd e c1
      ·exact absurd e c2
      ·exact .inl e
     ·exact .inr h
   ·rw[Ao];refine⟨nxy.2.2,by simp,fun u hu v hv e=>?_⟩;rw[Ak.mp hv] at e;have:u∈t.E:=pE.mem_iff.mpr (Ag _ (Ag _ hu));have:=s.lt u (s.sub u this);lia
  ·show(ks.length::qk t.R).Perm (List.range' ks.length 1++([t].flatMap fun t=>qk t.R));simp[DI]
 ·have nf:=nk t mt;rw[qb (AM nf.2.1)];have:=old3 fa _ (AM nf.1) (AM nf.2.1) (AM nkf) F.hf;rw[this];unfold zb;rw[AG,AG];rfl
def ags(p0:x0)(p1:x0)(p2:x0)(p3:x0):ww:=(qt (j5 (aq cI (qc 1) (qe (zm wm (qc 3) (bB 1)) z0)) (qh 4))
 (qt (j5 (zm cX (jw 4 1) (zm wm (zm ar (qc 3) (jo 64)) (eM dy (wu (jw 4 1))))) (qh 5))
 (qt (j5 (za p0 (aY (qc 0) (qc 5))) (qh 6))
 (qt (j5 (rdT (yC .non) (yC .non)) (cT 2 (jg (qh 7) (jg (qh 8) bN))))
 (qt (eI (dq (wu (bB 1))) (qh 9) (eI (k7 (zm cX (zm cX (qc 1) (qc 9)) (jo 1))) (qh 10) (xf (l8 (yB (dr false (qc 7))) (eJ (za p0 (aY (qc 0) (qc 10))) (za p1 (wu (qc 6))))) (j5 (wf (qe (zm cX (qc 1) (qc 9)) (wu (qc 10)))) (cT 2 (jg (qh 7) (jg (qh 8) bN)))) jp)))
 (qt (xf (l8 (yB (dr false (qc 7))) (yB (zm yGt (za p2 (wu (qc 6))) (jo 5)))) (qt (js (aq j8 (qc 1) (wu (qc 4))))
 yD) jp)
 (jK (xf (yB (dr false (qc 7))) (qt (j5 (za p3 (aY (qc 0) (qc 6))) (aej 3 (jg (qh 11) (jg (qh 8) (jg (qh 12) bN)))))
 (j5 (v5 (qe (qc 11) (qe (v5 (aY (qc 8) (qc 12))) z0))) (qh 7))) (js (aq iS (qc 1) (wu (qc 7)))))
 (qt (j5 (rS 1 (k7 (zm w5 (jw 4 1) (jw 7 1))) (qh 14) (yB (zm (oR true) (qc 14) (rdT (qc 5) (qc 8)))) (qc 14)) (qh 13))
 (xf (eJ (zm wm (qc 2) (jo 2)) (jo 0)) (js (aq j8 (qc 1) (qe (v5 (qe (wf (qe (dW "cut") (qe (qc 5) (qe (qc 8) (aY (jw 4 0) (jw 7 0)))))) (wu (qc 13)))) z0))) (js (aq j8 (qc 1) (qe (v5 (qe (wf (qe (dW "cut") (qe (qc 8) (qe (qc 5) (aY (jw 7 0) (jw 4 0)))))) (wu (qc 13)))) z0))))))))))))
theorem m8:∀a b:List Da,Da.eqs a b=true->a.length=b.length
 |[],[],_=>rfl
 |[],_::_,h=>by cases h
 |_::_,[],h=>by cases h
 |x::r,y::q,h=>by have h:(Da.eq x y&&Da.eqs r q)=true:=h;rw[Bc] at h;rw[AK,AK,m8 r q h.2]
theorem adk(u:Wd):∀v:Wd,Da.eq (lD u) (lD v)=true->u=v:=by
 induction u with
 |leaf t n=>
  intro v h;cases v with
  |leaf t' n'=>
   rw[abp,Bc] at h;rw[of_decide_eq_true h.1,of_decide_eq_true h.2]
  |node e l r=>exact absurd (m8 _ _ h) (by intro z;cases z)
 |node e l r il ir=>
  intro v h;cases v with
  |leaf t n=>exact absurd (m8 _ _ h) (by intro z;cases z)
  |node e' l' r'=>
   have h:(fh (.str (kN e)) (.str (kN e'))&&(Da.eq (lD l) (lD l')&&(Da.eq (lD r) (lD r')&&true)))=true:=h;rw[Bc,Bc,Bc] at h;obtain⟨h1,h2,h3,_⟩:=h;have:e=e':=by cases e<;>cases e'<;>first | rfl | (exfalso;revert h1;decide +kernel)
   rw[this,il l' h2,ir r' h3]
def jt:Ru->Nat
 |.link _ _=>1
 |.ei _ A=>jt A+1
 |.bo _ A B=>max (jt A) (jt B)+1
 |.cu _ _ A B=>max (jt A) (jt B)+1
theorem xr:∀R:Ru,jt R+1≤(qk R).length
 |.link _ _=>An _
 |.ei _ A=>by have:=xr A;simp[jt,qk];lia
 |.bo _ A B=>by have:=xr A;have:=xr B;simp[jt,qk];lia
 |.cu _ _ A B=>by have:=xr A;have:=xr B;simp[jt,qk];lia
def bA:Ru->Da
 |.link p q=>.tup [.s (.str "link"),.s (.int (p:Int)),.s (.int (q:Int))]
 |.ei r A=>.tup [.s (.str "either"),.s (.int (r:Int)),bA A]
 |.bo r A B=>.tup [.s (.str "both"),.s (.int (r:Int)),bA A,bA B]
 |.cu p q A B=>.tup [.s (.str "cut"),.s (.int (p:Int)),.s (.int (q:Int)),bA A,bA B]
theorem cK{L:ql}:∀{R:Ru} {n:Nat},jt R≤n->jc L n (qm R) (bA R)
 |.link p q,n+1,_=>a8 (.cons (ER _) (.cons (EN _) (.cons (EN _) .nil)))
 |.ei r A,n+1,h=>a8 (.cons (ER _) (.cons (EN _) (.cons (cK (by simp[jt] at h;lia)) .nil)))
 |.bo r A B,n+1,h=>a8 (.cons (ER _) (.cons (EN _) (.cons (cK (by simp[jt] at h;lia)) (.cons (cK (by simp[jt] at h;lia)) .nil))))
 |.cu p q A B,n+1,h=>a8 (.cons (ER _) (.cons (EN _) (.cons (EN _) (.cons (cK (by simp[jt] at h;lia)) (.cons (cK (by simp[jt] at h;lia)) .nil)))))
 |.link _ _,0,h=>by simp[jt] at h
 |.ei _ _,0,h=>by simp[jt] at h
 |.bo _ _ _,0,h=>by simp[jt] at h
 |.cu _ _ _ _,0,h=>by simp[jt] at h
theorem aZ:∀R:Ru,Da.eq (bA R) (bA R)=true
 |.link p q=>by simp[bA,Da.eq,Da.eqs,fh]
 |.ei r A=>by simp[bA,Da.eq,Da.eqs,fh,aZ A]
 |.bo r A B=>by simp[bA,Da.eq,Da.eqs,fh,aZ A,aZ B]
 |.cu p q A B=>by simp[bA,Da.eq,Da.eqs,fh,aZ A,aZ B]
def gN(E:List Nat):List Da:=E.map fun n:Nat=>Da.s (.int (n:Int))
theorem uB{L:ql}{n:Nat}:∀E:List Nat,Paired (jc L n) (qy E) (gN E)
 |[]=>.nil
 |_::r=>.cons (EN _) (uB r)
theorem iP:∀E E':List Nat,Da.eqs (gN E) (gN E')=true↔E=E'
 |[],[]=>by simp[gN,Da.eqs]
 |[],_::_=>by simp[gN,Da.eqs]
 |_::_,[]=>by simp[gN,Da.eqs]
 |x::r,y::r'=>by
  have ih:=iP r r';show(Da.eq (.s (.int (x:Int))) (.s (.int (y:Int)))&&Da.eqs (gN r) (gN r'))=true↔_;rw[Bc,ih];have:Da.eq (.s (.int (x:Int))) (.s (.int (y:Int)))=true↔x=y:=by show decide ((x:Int)=(y:Int))=true↔_;rw[decide_eq_true_iff];lia
  rw[this];constructor
  ·rintro⟨rfl,rfl⟩;rfl
  ·intro e;injection e with e1 e2;exact⟨e1,e2⟩
def dU(t:Tr):Da:=.lst [bA t.R,.lst (gN t.E)]
theorem oS{t:Tr}(ha:L t.a=some (.lst [qm t.R,.ref t.b]))(hb:L t.b=some (.lst (qy t.E)))(h:jt t.R≤n+1):jc L (n+2) (.ref t.a) (dU t):=
 dP ha (.cons (cK h) (.cons (dP hb (uB _)) .nil))
theorem abn{t u:Tr}:Da.eq (dU t) (dU u)=true->t.E=u.E:=by intro h;have h:(Da.eq (bA t.R) (bA u.R)&&(Da.eqs (gN t.E) (gN u.E)&&true))=true:=h;rw[Bc,Bc] at h;exact(iP _ _).mp h.2.1
theorem wR(t:Tr):Da.eq (dU t) (dU t)=true:=by show(Da.eq (bA t.R) (bA t.R)&&(Da.eqs (gN t.E) (gN t.E)&&true))=true;rw[aZ,(iP _ _).mpr rfl];rfl
theorem bD.rd(h:bD L0 L ka fa ks fo){t:Tr}(ht:t∈fo):jt t.R≤ks.length:=by
 have h1:=xr t.R;have nd:(qk t.R).Nodup:=by obtain⟨a,b,rfl⟩:=B4 ht;have:=h.nd;rw[AA,A1,Ao,Ao] at this;exact this.2.1.1
 have:=ap _ _ nd fun x hx=>(h.sr t ht).lt x hx;exact ahb
theorem bD.one(h:bD L0 L ka fa ks fo){t u:Tr}(hi:fo[i]?=some t)(hj:fo[j]?=some u)(e:t.E=u.E):i=j:=by
 by_cases c:i=j
 ·exact c
 ·exfalso;have s:=h.sr t (AO hi);have l:=s.ends h.ok;obtain⟨x,hx⟩:∃x,x∈t.E:=by cases he:t.E with | nil=>rw[he] at l;simp at l | cons x r=>exact⟨x,Ap ..⟩
  have s':=h.sr u (AO hj);have p1:=jq hi;have p2:(u::(fo.eraseIdx i))=_:=rfl;have mu:u∈fo.eraseIdx i:=by have:fo[j]?=some u:=hj;rw[List.mem_eraseIdx_iff_getElem?];exact⟨j,fun z=>c z.symm,hj⟩
  obtain⟨a,b,ab⟩:=B4 mu;have nd:=(p1.flatMap_right fun t:Tr=>qk t.R).nodup_iff.mp h.nd;rw[A1,Ao] at nd;exact nd.2.2 x (s.sub x hx) x (A3.mpr ⟨u,mu,s'.sub x (e▸hx)⟩) rfl
theorem qj.none(s:qj L L'){p:Addr}(h:L' p=none):L p=none:=by cases z:L p with|none=>rfl|some o=>rw[s _ _ z] at h;cases h
theorem bD.nkf(h:bD L0 L ka fa ks fo):ka≠fa:=by have ad:=h.ad;rw[Aw] at ad;exact fun e=>ad.1 (e▸Ap ..)
theorem bD.nk(h:bD L0 L ka fa ks fo):∀t∈fo,t.a≠fa/\t.b≠fa/\t.a≠ka/\t.b≠ka:=fun t ht=>by have ad:=h.ad;rw[Aw,Aw] at ad;have ma:t.a∈fo.flatMap Tr.ads:=A3.mpr ⟨t,ht,by simp[Tr.ads]⟩;have mb:t.b∈fo.flatMap Tr.ads:=A3.mpr ⟨t,ht,by simp[Tr.ads]⟩;exact⟨fun e=>ad.2.1 (e▸ma),fun e=>ad.2.1 (e▸mb),fun e=>ad.1 (Ag _ (e▸ma)),fun e=>ad.1 (Ag _ (e▸mb))⟩
theorem bD.setF(h:bD L0 L ka fa ks fo)(o:LO):bD L0 (qg L fa o) ka fa ks fo:=by
 refine⟨by rw[qb h.nkf];exact h.hk,fun t ht=>?_,h.sr,h.nd,h.tm,h.ad,h.ok,fun b u e=>?_,h.fr⟩
 ·obtain⟨n1,n2,_,_⟩:=h.nk t ht;rw[qb n1,qb n2];exact h.ht t ht
 ·have:b≠fa:=fun z=>by rw[z,h.fr fa (by simp)] at e;cases e
  rw[qb this];exact h.sub _ _ e
theorem bD.mono(h:bD L0 L ka fa ks fo)(s:qj L L'):bD L0 L' ka fa ks fo:=
 ⟨s _ _ h.hk,fun t ht=>⟨s _ _ (h.ht t ht).1,s _ _ (h.ht t ht).2⟩,h.sr,h.nd,h.tm,h.ad,h.ok,h.sub.trans s,h.fr⟩
theorem bD.exs(h:bD L0 L ka fa ks fo):∀z∈fo.flatMap Tr.ads,∃o,L z=some o:=fun z hz=>by
 obtain⟨t,ht,hz⟩:=A3.mp hz;obtain⟨h1,h2⟩:=h.ht t ht;have hz:z=t.a\/z=t.b:=by simpa[Tr.ads] using hz
 rcases hz with rfl | rfl
 ·exact⟨_,h1⟩
 ·exact⟨_,h2⟩
theorem tG{l:List Addr}{pb:Addr}(nd:l.Nodup)(ex:∀z∈l,∃o,L z=some o)(ha:L pa=none)(hb:L pb=none)(ne:pa≠pb):(l++[pa,pb]).Nodup:=by
 rw[Ao];refine⟨nd,by simp[ne],fun u hu v hv e=>?_⟩;subst e;obtain⟨o,eo⟩:=ex u hu;simp at hv;rcases hv with rfl | rfl
 ·rw[ha] at eo;cases eo
 ·rw[hb] at eo;cases eo
theorem e9:∀w:Wd,w.turn.turn=w
 |.leaf t n=>by simp[Wd.turn]
 |.node e l r=>by simp[Wd.turn,e9 l,e9 r]
theorem cA:∀w:Wd,w.turn.depth=w.depth
 |.leaf t n=>rfl
 |.node e l r=>by simp[Wd.turn,Wd.depth,cA l,cA r]
def Fd(ks:List Kn)(w:Wd)(rest:List Tr)(v7 v8:Y):Prop:=(v7=.non/\v8=.non)\/∃(j:Nat) (u:Tr) (q:Nat),rest[j]?=some u/\q∈u.E/\cH ks q w.turn/\v7=.ref u.a/\v8=.int (q:Int)
theorem aa4{Lp L4:ql}{t1 u:Tr}{x q:Nat}{w:Wd}(B:bD L0 Lp ka fa ks (t1::u::rest)){fs:LO}(hf:Lp fa=some fs)(hx:x∈t1.E)(hq:q∈u.E)(hwx:cH ks x w)(hwq:cH ks q w.turn){pe:Addr}(s:qj Lp L4)(hpe:Lp pe=none)
 (he:L4 pe=some (.lst (qy (jz t1.E u.E x q)))) (hpa:L4 pa=none) (hR:R=.cu x q t1.R u.R\/R=.cu q x u.R t1.R):bD L0 (qg L4 pa (.lst [qm R,.ref pe])) ka fa ks (rest++[⟨pa,pe,R,jz t1.E u.E x q⟩]):=by
 have nap:pe≠pa:=w6 he hpa;have hpa':Lp pa=none:=s.none hpa;have s':qj Lp (qg L4 pa (.lst [qm R,.ref pe])):=s.trans (By hpa);have s1:=B.sr t1 (by simp);have s2:=B.sr u (by simp);have dis:∀z,z∈t1.E->z∈u.E->False:=fun z h1 h2=>B.two z (s1.sub z h1) (s2.sub z h2);have k0:ks++[]=ks:=AQ ks;have bm:=oK (E1:=t1.E) (E2:=u.E) (fun h=>dis x hx h) (fun h=>dis q h hq);have nod:=nQ (l:=x) (r:=q) s1.nod s2.nod dis;have st:=bD.step (L':=qg L4 pa (.lst [qm R,.ref pe])) (old:=[t1,u]) (rest:=rest) (ms:=[]) (t':=⟨pa,pe,R,jz t1.E u.E x q⟩) B (by rw[k0];exact s' _ _ B.hk) ⟨q9,by rw[qb nap];exact he⟩ (fun t ht=>?_) (B.sub.trans s') ?_ (fun z hz=>?_) (by rw[k0];exact B.ok) ?_ ?_
 ·rw[k0] at st;exact st
 ·obtain⟨h1,h2⟩:=B.ht t (Ag _ (Ag _ ht));rw[h1,h2];exact⟨s' _ _ h1,s' _ _ h2⟩
 ·have nd:(ka::fa::rest.flatMap Tr.ads).Nodup:=by
   have:=B.ad;rw[A1,A1,Aw,Aw,Ao,Ao] at this;rw[Aw,Aw];obtain⟨d1,d2,_,⟨_,d3,_⟩,_⟩:=this;refine⟨fun z=>d1 ?_,fun z=>d2 (Af _ (Af _ z)),d3⟩;rcases Av.mp z with z | z
   ·rw[z];exact Ap ..
   ·exact Ag _ (Af _ (Af _ z))
  have:=tG (L:=Lp) nd (fun z hz=>?_) hpa' hpe (AM nap)
  ·rw[AA];simpa[Tr.ads] using this
  ·rcases Av.mp hz with rfl | hz
   ·exact⟨_,B.hk⟩
   ·rcases Av.mp hz with rfl | hz
    ·exact⟨_,hf⟩
    ·exact B.exs z (by rw[A1,A1];exact Af _ (Af _ hz))
 ·have hz:z=pa\/z=pe:=by simpa[Tr.ads] using hz
  rcases hz with rfl | rfl
  ·exact B.sub.none hpa'
  ·exact B.sub.none hpe
 ·rw[k0];rcases hR with rfl | rfl
  ·exact .cu s1 s2 hx hq hwx hwq bm nod
  ·exact .cu (w:=w.turn) s2 s1 hq hx hwq (by rw[e9];exact hwx) (fun z=>by rw[bm];exact Or.comm) nod
 ·rcases hR with rfl | rfl
  ·show(qk t1.R++qk u.R).Perm _;simp
  ·show(qk u.R++qk t1.R).Perm _;simpa using BF
def CJ(L0:ql)(ka fa:Addr)(ks:List Kn)(one two:Int)(t1:Tr)(x:Nat)(w:Wd)(n:Nat)(τ:jn)(L:ql):Prop:=∃ms u q rest c9 fB c11 c12,τ=[some (.ref ka),some (.ref fa),some (.int one),some (.int two),some (.ref t1.a),some (.int (x:Int)),some (ax w),some (.ref u.a),some (.int ((q:Nat):Int)),c9,fB,c11,c12,none]/\
 bD L0 L ka fa (ks++ms) (t1::u::rest)/\L fa=some (.lst (zb rest))/\q∈u.E/\cH (ks++ms) q w.turn/\ms.length≤10/\rest.length≤n
def oI:x0:=fun ys L Q=>∃L0 ka fa ks fo,∃one two:Int,ys=[.ref ka,.ref fa,.int one,.int two]/\l0 L0 L ka fa ks fo/\1≤fo.length/\fo.length≤110/\ks.length≤110/\
 ∀L' ks' fo',l0 L0 L' ka fa ks' fo'->ks'.length≤ks.length+10->1≤fo'.length->fo'.length≤fo.length->Q .non L'
theorem ach:∀ys L Q,oI ys L Q->v3 (ags (ku 120) (aH 120) (bM 120) (bW 5)) 14 ys L Q:=by
 rintro ys L Q ⟨L0,ka,fa,ks,fo,one,two,rfl,F,h1,h110,hk110,q⟩;have big:=bg_;have lenR:∀fo:List Tr,(zb fo).length=fo.length:=fun fo=>Ae ..;obtain⟨j1,t1,at1,a1,a2,a3,hf1⟩:=tJ (k:=two) F.hf (by assumption);have l1:(fo.eraseIdx j1).length+1=fo.length:=by have:=(jq at1).length_eq;rw[AK] at this;lia
 refine qd F.hf (qd F.hf ⟨(by show(0:Int)<((zb fo).length:Int);rw[lenR];lia),qw F.hf ⟨a1,a2,qp a3 ?_⟩⟩);have B:bD L0 (qg L fa (.lst ((zb fo).eraseIdx (two % ((zb fo).length:Int)).toNat))) ka fa ks (t1::fo.eraseIdx j1):=(F.b.perm (jq at1)).setF _;generalize qg L fa (.lst ((zb fo).eraseIdx (two % ((zb fo).length:Int)).toNat))=L1 at hf1 B;generalize fo.eraseIdx j1=rest at l1 hf1 B;clear a1 a2 a3;have m1:t1∈t1::rest:=by simp
 obtain⟨ta1,tb1⟩:=B.ht t1 m1;have le1:=ae B m1;have s1:=B.sr t1 m1;obtain⟨x,hx,ex⟩:=md le1.1 (two / 64);refine qd ta1 ⟨⟨by decide,by decide⟩,qd ta1 (qd tb1 ⟨(by show(0:Int)<((qy t1.E).length:Int);rw[Ae];omega),qd tb1 (qp ex ?_)⟩)⟩;obtain⟨w,hw,hwd,hwok⟩:=jI B.ok (x+1) x (by exact BU _) (s1.lt x (s1.sub x hx));have hxl:=s1.lt x (s1.sub x hx);refine⟨ka,zw ks,x,w,rfl,B.hk,hw,by lia,?_⟩;have wtd:w.turn.depth=w.depth:=cA w;refine qd hf1 ⟨⟨by show _≤(((zb rest).length:Nat):Int);exact A7 _,by show(((zb rest).length:Nat):Int)<_;rw[lenR];omega⟩,?_⟩;refine acl (fun i τ L'=>∃v7 v8 c9 fB,τ=[some (.ref ka),some (.ref fa),some (.int one),some (.int two),some (.ref t1.a),some (.int (x:Int)),some (ax w),some v7,some v8,c9,fB,none,none,none]/\L'=L1/\Fd ks w rest v7 v8) ⟨_,_,_,_,rfl,rfl,.inl ⟨rfl,rfl⟩⟩ ?_ ?_
 ·rintro i τ L' hi ⟨v7,v8,c9,fB,rfl,rfl,fd⟩;have hi:i<rest.length:=by have:i<(((zb rest).length:Nat):Int).toNat:=hi;rw[lenR] at this;assumption
  obtain⟨u,hu⟩:∃u,rest[i]?=some u:=⟨_,Aj hi⟩;have mu:u∈t1::rest:=Ag _ (AO hu);obtain⟨ua,ub⟩:=B.ht u mu;have ei:(zb rest)[i]?=some (.ref u.a):=by unfold zb;rw[Aq,hu];rfl
  have e0:(0:Int)+(i:Int)=((i:Nat):Int):=by simp +arith only
  rw[e0];have ate:fg (zb rest) ((i:Nat):Int)=some (.ref u.a):=kn ei;have le:=ae B mu;have su:=B.sr u mu;refine qd hf1 (qp ate (qd ua ?_));refine acf (ys:=qy u.E) (w4 ub) (fun k τ L''=>∃v7 v8 fB,τ=[some (.ref ka),some (.ref fa),some (.int one),some (.int two),some (.ref t1.a),some (.int (x:Int)),some (ax w),some v7,some v8,some (.int ((i:Nat):Int)),fB,none,none,none]/\L''=L'/\Fd ks w rest v7 v8) ⟨_,_,_,rfl,rfl,fd⟩ ?_ ?_ ?_
  ·rintro k τ _ ⟨_,_,_,_,rfl,_⟩;rfl
  ·rintro k y τ L'' ey ⟨v7,v8,fB,rfl,rfl,fd⟩;obtain⟨z,ez,rfl⟩:∃z:Nat,u.E[k]?=some z/\y=Y.int (z:Int):=by rw[Aq] at ey;obtain⟨z,e1,e2⟩:=Ay.mp ey;exact⟨z,e1,e2.symm⟩
   have hz:z∈u.E:=AO ez;rcases fd with⟨rfl,rfl⟩ | ⟨j,t,q0,h1,h2,h3,rfl,rfl⟩
   ·have hzl:=su.lt z (su.sub z hz);obtain⟨v,hv,hvd,hvok⟩:=jI B.ok (z+1) z (by exact BU _) hzl;refine⟨ka,zw ks,z,v,rfl,B.hk,hv,by lia,w,rfl,by lia,?_⟩;refine i0 (u:=v) (v:=w.turn) (by lia) ?_;show aE (Da.eq (lD v) (lD w.turn)) _ _;refine aci (fun c=>?_) fun c=>?_
    ·have hh:=adk _ _ c;refine qd hf1 (qp ate ?_);refine⟨_,EE _,?_⟩;exact⟨_,_,_,rfl,rfl,.inr ⟨i,u,z,hu,hz,hh▸hv,rfl,rfl⟩⟩
    ·refine⟨_,EE _,?_⟩;exact⟨_,_,_,rfl,rfl,.inl ⟨rfl,rfl⟩⟩
   ·refine⟨_,EE _,?_⟩;exact⟨_,_,_,rfl,rfl,.inr ⟨j,t,q0,h1,h2,h3,rfl,rfl⟩⟩
  ·rintro τ L'' ⟨v7,v8,fB,rfl,rfl,fd⟩;refine⟨_,EE _,?_⟩;exact⟨_,_,_,_,rfl,rfl,fd⟩
 ·rintro τ L' ⟨v7,v8,c9,fB,rfl,rfl,fd⟩;rcases fd with⟨rfl,rfl⟩ | ⟨j,u,q0,hj,hq0,hwq,rfl,rfl⟩
  case' inl=>
   refine⟨w,rfl,by lia,?_⟩;show aE (decide ((w.size:Int) > 5)) _ _;refine x5 (fun c=>?_) fun c=>?_
   case' refine_1=>
    refine qd hf1 (qw hf1 ⟨big _ (by rw[lenR];lia),?_⟩);have er:zb rest++[.ref t1.a]=zb (rest++[t1]):=by unfold zb;rw[AG];rfl
    rw[er];exact x8 (q _ ks (rest++[t1]) ⟨(B.perm (B3 _ _).symm).setF _,q9⟩ (by exact A5 _ _) (by simp) (by rw[Ac];simp;exact pH))
   case' refine_2=>
    refine⟨CJ L0 ka fa ks one two t1 x w rest.length,?_,?_⟩
    ·refine⟨ka,ks,w,rfl,B.hk,(by have h1:=w.depth_le;have h2:=w.size_eq;lia),(by decide),hwok,B.ok,by lia,fun ms R tp sp p hp mir=>?_⟩;refine qw q9 ?_;intro pb hpb pa hpa;have npk:ka≠p:=w6 B.hk hp;have hp2:qg L' ka (.lst (zw (ks++ms))) p=none:=by rw[qb (AM npk)];exact hp
     have sA:qj (qg L' ka (.lst (zw (ks++ms)))) _:=((By hp2).trans (By hpb)).trans (By (o:=.lst [qm R,.ref pb]) hpa);have nab:pb≠pa:=w6 q9 hpa;have nb2:qg L' ka (.lst (zw (ks++ms))) pb=none:=(By hp2).none hpb;have na2:qg L' ka (.lst (zw (ks++ms))) pa=none:=((By hp2).trans (By hpb)).none hpa;have ea:qg (qg (qg (qg L' ka (.lst (zw (ks++ms)))) p (.lst [qm R,.int (tp:Int),.int (sp:Int)])) pb (.lst [.int (tp:Int),.int (sp:Int)])) pa (.lst [qm R,.ref pb]) pa=some (.lst [qm R,.ref pb]):=q9;have eb:qg (qg (qg (qg L' ka (.lst (zw (ks++ms)))) p (.lst [qm R,.int (tp:Int),.int (sp:Int)])) pb (.lst [.int (tp:Int),.int (sp:Int)])) pa (.lst [qm R,.ref pb]) pb=some (.lst (qy [tp,sp])):=by rw[qb nab];exact q9
     refine⟨ms,⟨pa,pb,R,[tp,sp]⟩,tp,rest,_,_,_,_,rfl,?_,sA _ _ (by rw[qb (AM B.nkf)];exact hf1),Ap ..,mir.wt,by have:=mir.len;lia,An _⟩;generalize qg (qg (qg (qg L' ka (.lst (zw (ks++ms)))) p (.lst [qm R,.int (tp:Int),.int (sp:Int)])) pb (.lst [.int (tp:Int),.int (sp:Int)])) pa (.lst [qm R,.ref pb])=LF at sA ea eb;have keep:∀z o,z≠ka->L' z=some o->LF z=some o:=fun z o n e=>sA _ _ (by rw[qb n];exact e);have st:=bD.step (L':=LF) (old:=[]) (rest:=t1::rest) (ms:=ms) (t':=⟨pa,pb,R,[tp,sp]⟩) B (sA _ _ q9) ⟨ea,eb⟩ (fun t ht=>?_) (fun z o e=>?_) ?_ (fun z hz=>?_) mir.ok mir.sr ?_
     ·exact st.perm ((B3 _ _).trans (List.Perm.swap _ _ _))
     ·obtain⟨n1,n2,n3,n4⟩:=B.nk t ht;obtain⟨h1,h2⟩:=B.ht t ht;rw[h1,h2];exact⟨keep _ _ n3 h1,keep _ _ n4 h2⟩
     ·exact keep _ _ (fun z=>by rw[z,B.fr ka (by simp)] at e;cases e) (B.sub _ _ e)
     ·have:=tG (L:=qg L' ka (.lst (zw (ks++ms)))) B.ad (fun z hz=>?_) na2 nb2 (AM nab)
      ·rw[AA];simpa[Tr.ads] using this
      ·by_cases c:z=ka
       ·rw[c];exact⟨_,q9⟩
       ·rw[qb c];rcases Av.mp hz with rfl | hz
        ·exact absurd rfl c
        ·rcases Av.mp hz with rfl | hz
         ·exact⟨_,hf1⟩
         ·exact B.exs z hz
     ·have hz:z=pa\/z=pb:=by simpa[Tr.ads] using hz
      cases e:L0 z with
      |none=>rfl
      |some o=>
       have n:z≠ka:=fun z'=>by rw[z',B.fr ka (by simp)] at e;cases e
       have:=B.sub _ _ e;have e2:qg L' ka (.lst (zw (ks++ms))) z=some o:=by rw[qb n];exact this
       rcases hz with rfl | rfl
       ·rw[na2] at e2;cases e2
       ·rw[nb2] at e2;cases e2
     ·rw[De,AQ];exact(AJ mir.nd DA).mpr fun z=>by rw[mir.tm,C5]
  case' inr=>
   refine⟨CJ L0 ka fa ks one two t1 x w rest.length,?_,?_⟩
   ·refine qd hf1 (qw hf1 ⟨rest.map dU,dU u,120,120,j,by decide,?_,?_,?_,⟨dU u,?_,wR u⟩,fun k d hk ek=>?_,?_⟩)
    ·have dd:∀l:List Tr,(∀t∈l,t∈t1::rest)->Paired (jc L' 120) (zb l) (l.map dU):=fun l=>by
      induction l with
      |nil=>intro _;exact .nil
      |cons t r ih=>
       intro h;have mt:=h t (Ap ..);obtain⟨h1,h2⟩:=B.ht t mt;have:=B.rd mt;exact .cons (oS (n:=118) h1 h2 (by lia)) (ih fun t ht=>h t (Ag _ ht))
     exact dd rest fun t ht=>Ag _ ht
    ·have mt:u∈t1::rest:=Ag _ (AO hj);obtain⟨h1,h2⟩:=B.ht u mt;have:=B.rd mt;exact oS (n:=118) h1 h2 (by omega)
    ·rw[Ae];exact(A2.mp hj).1
    ·rw[Aq,hj];rfl
    ·rw[Aq] at ek;obtain⟨v,ev,rfl⟩:=Ay.mp ek;cases c:Da.eq (dU v) (dU u) with
     |false=>rfl
     |true=>
      have:=B.one (i:=k+1) (j:=j+1) (by simpa using ev) (by simpa using hj) (abn c);lia
    ·rw[ix];have B2:=(B.perm ((jq hj).cons _)).setF (.lst (zb (rest.eraseIdx j)));exact⟨[],u,q0,rest.eraseIdx j,_,_,_,_,rfl,(AQ ks).symm▸B2,q9,hq0,(AQ ks).symm▸hwq,Bf _,CV ..⟩
  all_goals
   rintro τ' L' ⟨ms,u,q0,rest',c9,fB,c11,c12,rfl,B',hf,hq0,hwq,hms,hrl⟩;have m1:t1∈t1::u::rest':=by simp
   have m2:u∈t1::u::rest':=by simp
   obtain⟨ta1,tb1⟩:=B'.ht t1 m1;obtain⟨ta2,tb2⟩:=B'.ht u m2;have le1:=ae B' m1;have le2:=ae B' m2;rw[Ac] at le1 le2;refine qd ta1 (qd ta2 ⟨_,_,tb1,tb2,small (by rw[Ae,Ae];omega),fun pp hpp=>?_⟩);have en:qy t1.E++qy u.E=qy (t1.E++u.E):=by unfold qy;rw[AG]
   rw[en];refine yF (E:=t1.E++u.E) (l:=x) (r:=q0) (k:=14) q9 (by rw[Ac];omega) (fun y' Q' h=>h) (fun _=>rfl) fun pe hpe=>?_;have s4:qj L' (qg (qg L' pp (.lst (qy (t1.E++u.E)))) pe (.lst (qy ((t1.E++u.E).filter fun z=>!decide (z=x\/z=q0))))):=(By hpp).trans (By hpe);have he4:qg (qg L' pp (.lst (qy (t1.E++u.E)))) pe (.lst (qy ((t1.E++u.E).filter fun z=>!decide (z=x\/z=q0)))) pe=some (.lst (qy (jz t1.E u.E x q0))):=q9;have hpe':L' pe=none:=(By hpp).none hpe;generalize qg (qg L' pp (.lst (qy (t1.E++u.E)))) pe (.lst (qy ((t1.E++u.E).filter fun z=>!decide (z=x\/z=q0))))=L4 at s4 he4;have done:∀(R:Ru) pa,L4 pa=none->(R=.cu x q0 t1.R u.R\/R=.cu q0 x u.R t1.R)->Q .non (qg (qg L4 pa (.lst [qm R,.ref pe])) fa (.lst (zb rest'++[.ref pa]))):=fun R pa hpa hR=>by
    have er:zb rest'++[.ref pa]=zb (rest'++[⟨pa,pe,R,jz t1.E u.E x q0⟩]):=by unfold zb;rw[AG];rfl
    rw[er];exact q _ (ks++ms) (rest'++[⟨pa,pe,R,jz t1.E u.E x q0⟩]) ⟨(aa4 B' hf hx hq0 (hw.more ms) hwq s4 hpe' he4 hpa hR).setF _,q9⟩ (by rw[Ac];omega) (by simp) (by rw[Ac];simp;omega)
   refine⟨(by show(0:Int)<2;decide),?_⟩;show aE (decide (one % 2=0)) _ _;refine x5 (fun c=>?_) fun c=>?_
   ·refine qd (s4 _ _ hf) (qd (s4 _ _ ta1) (qd (s4 _ _ ta2) fun pa hpa=>?_));refine qw (By hpa _ _ (s4 _ _ hf)) ⟨big _ (by rw[lenR];omega),?_⟩;exact x8 (done _ pa hpa (.inl rfl))
   ·refine qd (s4 _ _ hf) (qd (s4 _ _ ta2) (qd (s4 _ _ ta1) fun pa hpa=>?_));refine qw (By hpa _ _ (s4 _ _ hf)) ⟨big _ (by rw[lenR];omega),?_⟩;exact x8 (done _ pa hpa (.inr rfl))
theorem l0.mono(h:l0 L0 L ka fa ks fo)(s:qj L L'):l0 L0 L' ka fa ks fo:=⟨h.b.mono s,s _ _ h.hf⟩
theorem bD.plus{LF:ql}{ms:List Kn}{t':Tr}{fs:LO}(B:bD L0 L ka fa ks rest)(hf:L fa=some fs)(sA:qj (qg L ka (.lst (zw (ks++ms)))) LF)(ea:LF t'.a=some (.lst [qm t'.R,.ref t'.b]))(eb:LF t'.b=some (.lst (qy t'.E)))
 (na2:qg L ka (.lst (zw (ks++ms))) t'.a=none) (nb2:qg L ka (.lst (zw (ks++ms))) t'.b=none) (nab:t'.a≠t'.b) (ok:cQ (ks++ms)) (sr:SR (ks++ms) t'.R t'.E) (tm:∀x,x∈qk t'.R↔ks.length≤x/\x<ks.length+ms.length) (nd:(qk t'.R).Nodup):
 bD L0 LF ka fa (ks++ms) (rest++[t']):=by
 have keep:∀z o,z≠ka->L z=some o->LF z=some o:=fun z o n e=>sA _ _ (by rw[qb n];exact e);refine bD.step (old:=[]) (rest:=rest) (ms:=ms) (t':=t') B (sA _ _ q9) ⟨ea,eb⟩ (fun t ht=>?_) (fun z o e=>?_) ?_ (fun z hz=>?_) ok sr ?_
 ·obtain⟨n1,n2,n3,n4⟩:=B.nk t ht;obtain⟨h1,h2⟩:=B.ht t ht;rw[h1,h2];exact⟨keep _ _ n3 h1,keep _ _ n4 h2⟩
 ·exact keep _ _ (fun z=>by rw[z,B.fr ka (by simp)] at e;cases e) (B.sub _ _ e)
 ·have:=tG (L:=qg L ka (.lst (zw (ks++ms)))) B.ad (fun z hz=>?_) na2 nb2 nab
  ·rw[AA];simpa[Tr.ads] using this
  ·by_cases c:z=ka
   ·rw[c];exact⟨_,q9⟩
   ·rw[qb c];rcases Av.mp hz with rfl | hz
    ·exact absurd rfl c
    ·rcases Av.mp hz with rfl | hz
     ·exact⟨_,hf⟩
     ·exact B.exs z hz
 ·have hz:z=t'.a\/z=t'.b:=by simpa[Tr.ads] using hz
  cases e:L0 z with
  |none=>rfl
  |some o=>
   have n:z≠ka:=fun z'=>by rw[z',B.fr ka (by simp)] at e;cases e
   have:=B.sub _ _ e;have e2:qg L ka (.lst (zw (ks++ms))) z=some o:=by rw[qb n];exact this
   rcases hz with rfl | rfl
   ·rw[na2] at e2;cases e2
   ·rw[nb2] at e2;cases e2
 ·rw[De,AQ];exact(AJ nd DA).mpr fun z=>by rw[tm,C5]
theorem l0.link(F:l0 L0 L ka fa ks fo){nm:Str}(hn:cj nm)(b:Bool){pb:Addr}(hb:qg L ka (.lst (zw (ks++[.lf b nm,.lf (!b) nm]))) pb=none)
 (ha:qg (qg L ka (.lst (zw (ks++[.lf b nm,.lf (!b) nm])))) pb (.lst (qy [ks.length,ks.length+1])) pa=none) {fs:List Y} (hfs:fs=zb fo++[.ref pa]):
 l0 L0 (qg (qg (qg (qg L ka (.lst (zw (ks++[.lf b nm,.lf (!b) nm])))) pb (.lst (qy [ks.length,ks.length+1]))) pa (.lst [qm (.link ks.length (ks.length+1)),.ref pb])) fa (.lst fs)) ka fa (ks++[.lf b nm,.lf (!b) nm]) (fo++[⟨pa,pb,.link ks.length (ks.length+1),[ks.length,ks.length+1]⟩]):=by
 have nab:pb≠pa:=w6 q9 ha;have M:=pG F.b.ok (t:=!b) hn;rw[DQ] at M;refine⟨(bD.plus F.b F.hf ((By hb).trans (By ha)) q9 (by rw[qb nab];exact q9) ((By hb).none ha) hb (AM nab) M.ok M.sr M.tm M.nd).setF _,?_⟩;rw[q9,hfs];unfold zb;rw[AG];rfl
theorem bD.dats(h:bD L0 L ka fa ks fo)(hl:ks.length≤120):Paired (jc L 124) (zb fo) (fo.map dU):=by
 have dd:∀l:List Tr,(∀t∈l,t∈fo)->Paired (jc L 124) (zb l) (l.map dU):=fun l=>by
  induction l with
  |nil=>intro _;exact .nil
  |cons t r ih=>
   intro k;have mt:=k t (Ap ..);obtain⟨h1,h2⟩:=h.ht t mt;have:=h.rd mt;exact .cons (oS (n:=122) h1 h2 (by lia)) (ih fun t ht=>k t (Ag _ ht))
 exact dd fo fun t ht=>ht
theorem uS(fo:List Tr):Da.eqs (fo.map dU) []=decide (fo=[]):=by cases fo<;>rfl
def TW(L0:ql)(ka fa:Addr)(s:Int)(room:Nat)(τ:jn)(L:ql):Prop:=∃c0 c5 c6 c7 c8 c9 fB ks fo,τ=[c0,some (.int s),some (.int (room:Int)),some (.ref ka),some (.ref fa),c5,c6,c7,c8,c9,fB]/\l0 L0 L ka fa ks fo/\ks.length+fo.length≤room
theorem TW.of{s:Int}{room:Nat}{c0 c5 c6 c7 c8 c9 fB:Option Y}(F:l0 L0 L ka fa ks fo)(h:ks.length+fo.length≤room):TW L0 ka fa s room [c0,some (.int s),some (.int (room:Int)),some (.ref ka),some (.ref fa),c5,c6,c7,c8,c9,fB] L:=⟨_,_,_,_,_,_,_,ks,fo,rfl,F,h⟩
def eQ(p q:Nat×Nat):Prop:=p.1<q.1\/(p.1=q.1/\p.2≤q.2)
def qD(p:Nat×Nat):Int×Int:=((p.1:Int),(p.2:Int))
theorem wS{p q:Nat×Nat}(h:qD p=qD q):p=q:=by obtain⟨a,b⟩:=p;obtain⟨c,d⟩:=q;have h1:(a:Int)=c:=BR Prod.fst h;have h2:(b:Int)=d:=BR Prod.snd h;rw[BV.mp h1,BV.mp h2]
theorem rG(ps:List (Nat×Nat)):xp ps=(ps.map qD).map prY:=by rw[Bm];rfl
theorem aee{a:Addr}{ps:List (Nat×Nat)}{Q:YK}(ha:L a=some (.lst (xp ps)))(hb:∀p∈ps,p.2<1000000)(nd:ps.Nodup)(hl:ps.length≤100000)
 (q:∀D qs,L D=none->qs.Perm ps->qs.Pairwise eQ->Q (.ref D) (qg L D (.lst (xp qs)))):kO [.ref a] L Q:=by
 refine qw ha ⟨ps.map qD,rG ps,fun p hp=>?_,?_,by rw[Ae];exact hl,fun D qs hD pm pw=>?_⟩
 ·obtain⟨r,hr,rfl⟩:=AX.mp hp;have:=hb r hr;exact⟨A7 _,by show((r.2:Nat):Int)<1000000;omega⟩
 ·exact fF (fun x _ y _ e=>wS e) nd
 ·obtain⟨T,pT,rfl⟩:=mX qD pm rfl;rw[<-rG];refine q D T hD pT ((BP.mp pw).imp fun {x y} z=>?_);unfold eQ;rcases z with z | ⟨z1,z2⟩
  ·left;have z:((x.1:Nat):Int)<y.1:=z;lia
  ·right;have z1:((x.1:Nat):Int)=y.1:=z1;have z2:((x.2:Nat):Int)≤y.2:=z2;exact⟨by lia,by lia⟩
structure ahn(L0:ql)(ks:List (Option Kn))(qs:List Nat)(d w D:Addr)(i ex:Nat)(f:Nat->Nat)(wd:List (Option Kn))(kvs:List (j3×Y))(L:ql):Prop where
 sub:qj L0 L
 hd:L d=some (.dct kvs)
 hw:L w=some (.lst (kh wd))
 hD:L D=some (.lst (nY qs))
 len:kvs.length≤i
 val:∀p:Nat,xm kvs (.inl (p:Int))=if p∈qs.take i then some (.int ((f p:Nat):Int)) else none
 gap:Gap ks (qs.take i) f wd
 wlen:wd.length≤2*i+ex
structure Ren(f:Nat->Nat)(ks wd:List (Option Kn)):Prop where
 gap:Gap ks (List.range ks.length) f wd
 len:wd.length≤2*ks.length+1
theorem i6(wd:List (Option Kn))(k:Option Kn):kh wd++[l9 k]=kh (wd++[k]):=by unfold kh;rw[AG];rfl
theorem iR(wd:List (Option Kn)):(kh wd).length=wd.length:=Ae ..
def zd:Ru->List (Nat×Nat)
 |.link p q=>[(p,q)]
 |.ei _ A=>zd A
 |.bo _ A B=>zd A++zd B
 |.cu _ _ A B=>zd A++zd B
def zp:Ru->List (Nat×Nat)
 |.link _ _=>[]
 |.ei _ A=>zp A
 |.bo _ A B=>zp A++zp B
 |.cu p q A B=>(p,q)::(zp A++zp B)
def bC:Ru->Nat
 |.link _ _=>1
 |.ei _ A=>bC A+1
 |.bo _ A B=>bC A+bC B+1
 |.cu _ _ A B=>bC A+bC B+1
def zj:Ru->List Ru
 |.link _ _=>[]
 |.ei _ A=>[A]
 |.bo _ A B=>[A,B]
 |.cu _ _ A B=>[A,B]
def iJ:Ru->List (Nat×Nat)
 |.link p q=>[(p,q)]
 |_=>[]
def iI:Ru->List (Nat×Nat)
 |.cu p q _ _=>[(p,q)]
 |_=>[]
theorem rj(A:Ru):zd A=iJ A++(zj A).flatMap zd:=by cases A<;>simp[zd,iJ,zj]
theorem wZ(A:Ru):zp A=iI A++(zj A).flatMap zp:=by cases A<;>simp[zp,iI,zj]
theorem iz(A:Ru):((zj A).map bC).sum+1=bC A:=by cases A<;>simp[bC,zj]
theorem ab4(A:Ru):0<bC A:=by cases A<;>simp[bC]
theorem aC{A B:Ru}(h:B∈zj A):jt B<jt A:=by cases A<;>simp[zj] at h<;>(try rcases h with rfl | rfl)<;>(try subst h)<;>simp[jt]<;>omega
structure gy(R:Ru)(lk ct:List (Nat×Nat))(st:List Ru):Prop where
 pl:(lk++st.flatMap zd).Perm (zd R)
 pc:(ct++st.flatMap zp).Perm (zp R)
 sz:(st.map bC).sum≤bC R
 dp:∀A∈st,jt A≤jt R
theorem gy.start(R:Ru):gy R [] [] [R]:=⟨by simp,by simp,by simp,fun A hA=>by simp at hA;subst hA;exact An _⟩
theorem gy.step{A:Ru}{st:List Ru}(h:gy R lk ct (st++[A])):gy R (lk++iJ A) (ct++iI A) (st++zj A):=by
 have pm:∀{X U V W:List (Nat×Nat)},(X++U++(V++W)).Perm (X++(V++(U++W))):=fun {X U V W}=>by rw[AD];refine List.Perm.append_left X ?_;rw[<-AD,<-AD];exact List.Perm.append_right W BF
 refine⟨?_,?_,?_,fun B hB=>?_⟩
 ·refine List.Perm.trans ?_ h.pl;rw[AA,AA];have:[A].flatMap zd=iJ A++(zj A).flatMap zd:=by rw[<-rj];simp
  rw[this];exact pm
 ·refine List.Perm.trans ?_ h.pc;rw[AA,AA];have:[A].flatMap zp=iI A++(zj A).flatMap zp:=by rw[<-wZ];simp
  rw[this];exact pm
 ·have:=h.sz;have:=iz A;simp at *;lia
 ·rcases Al.mp hB with hB | hB
  ·exact h.dp B (Ar _ hB)
  ·have:=aC hB;have:=h.dp A (Af _ (Ak.mpr rfl));exact ahb
theorem fv(l:List (Nat×Nat))(p:Nat×Nat):xp l++[prN p]=xp (l++[p]):=by unfold xp;rw[AG];rfl
theorem oY(st:List Ru):Da.eqs (st.map bA) []=decide (st=[]):=by cases st<;>rfl
theorem dz{L:ql}{n:Nat}:∀{st:List Ru},(∀A∈st,jt A≤n)->Paired (jc L n) (st.map qm) (st.map bA)
 |[],_=>.nil
 |A::r,h=>.cons (cK (h A (Ap ..))) (dz fun B hB=>h B (Ag _ hB))
theorem aca(a b:Nat):decide ((a:Int)=(b:Int))=decide (a=b):=by
 by_cases c:a=b
 ·rw[AH c];exact AH (by lia)
 ·rw[Ax c];exact Ax (by lia)
def jj(lk:List (Nat×Nat)):List Nat:=lk.flatMap fun x=>[x.1,x.2]
theorem ke(a b:List (Nat×Nat)):jj (a++b)=jj a++jj b:=by unfold jj;rw[AA]
theorem bO(x:Nat×Nat):jj [x]=[x.1,x.2]:=by simp[jj]
theorem bR(lk:List (Nat×Nat)):(jj lk).length=2*lk.length:=by
 induction lk with
 |nil=>rfl
 |cons x r ih=>
  have:=ke [x] r;rw[Dc] at this;rw[this,Ac,ih,bO,AK];simp;exact Nat.add_comm _ _
theorem yR{f:Option Kn->Bool}{ks:List (Option Kn)}{p:Nat}{k:Option Kn}(h:ks[p]?=some k)(hf:f k=true)(hi:p<i):p∈mE f ks i:=by unfold mE;refine AS.mpr ⟨Bb.mpr hi,?_⟩;simp only[h];exact hf
theorem gi{α β:Type}{R:α->β->Prop}:∀{xs:List α} {ys:List β} {x:α} {y:β},Paired R xs ys->R x y->Paired R (xs++[x]) (ys++[y])
 |_,_,_,_,.nil,r=>.cons r .nil
 |_,_,_,_,.cons a t,r=>.cons a (gi t r)
theorem tf(m:Nat)(l:List Nat):uK (fS (.int (m:Int))) ((nY l).map fS)=decide (m∈l):=by
 induction l with
 |nil=>rfl
 |cons n r ih=>
  have e:uK (fS (.int (m:Int))) ((nY (n::r)).map fS)=(fh (fS (.int (n:Int))) (fS (.int (m:Int)))||uK (fS (.int (m:Int))) ((nY r).map fS)):=rfl;rw[e,ih];have e2:fh (fS (.int (n:Int))) (fS (.int (m:Int)))=decide (n=m):=aca n m;rw[e2];by_cases c:n=m
  ·subst c;simp
  ·by_cases d:m∈r
   ·simp[d]
   ·simp[c,d,AM c]
theorem tS(l:List Nat):(nY l).all gv=true:=by rw[CG];intro y hy;obtain⟨n,_,rfl⟩:=AX.mp hy;rfl
theorem af{c:Nat×Nat}(h:c∈ct):c.1∈jj ct/\c.2∈jj ct:=by
 induction ct with
 |nil=>cases h
 |cons d r ih=>
  have e:jj (d::r)=[d.1,d.2]++jj r:=by rw[<-bO,<-ke];rfl
  rw[e];rcases Av.mp h with rfl | h
  ·simp
  ·obtain⟨a,b⟩:=ih h;exact⟨Af _ a,Af _ b⟩
def xR(x:Nat×Nat):Da:=.tup [.s (.int (x.1:Int)),.s (.int (x.2:Int))]
theorem adv(x y:Nat×Nat):Da.eq (xR x) (xR y)=decide (x=y):=by show(decide ((x.1:Int)=(y.1:Int))&&(decide ((x.2:Int)=(y.2:Int))&&true))=_;rw[DZ,<-Bool.decide_and];exact Df.mpr ⟨fun⟨h1,h2⟩=>Prod.ext (BV.mp h1) (BV.mp h2),fun h=>by subst h;exact⟨rfl,rfl⟩⟩
theorem kU{L:ql}:∀l:List (Nat×Nat),Paired (jc L 1) (xp l) (l.map xR)
 |[]=>.nil
 |_::r=>.cons (a8 (.cons (EN _) (.cons (EN _) .nil))) (kU r)
theorem vt(c:Nat×Nat)(r:List (Nat×Nat)):jj (c::r)=c.1::c.2::jj r:=by
 have e:jj (c::r)=[c.1,c.2]++jj r:=by rw[<-bO,<-ke];rfl
 rw[e];rfl
theorem aU{l m:List (Nat×Nat)}(h:l.Perm m):(jj l).Perm (jj m):=by
 induction h with
 |nil=>exact .nil
 |cons x _ ih=>rw[vt,vt];exact(ih.cons _).cons _
 |swap x y l=>
  rw[vt,vt,vt,vt];exact(BF (l₁:=[y.1,y.2]) (l₂:=[x.1,x.2])).append_right (jj l)
 |trans _ _ h1 h2=>exact h1.trans h2
theorem a9:∀{l:List (Nat×Nat)},(jj l).Nodup->l.Nodup
 |[],_=>Du
 |c::r,h=>by rw[vt] at h;have h1:=Aw.mp h;have h2:=Aw.mp h1.2;exact Aw.mpr ⟨fun hc=>h1.1 (Ag _ (af hc).1),a9 h2.2⟩
theorem vj:∀R:Ru,bC R+1≤(qk R).length
 |.link _ _=>An _
 |.ei r A=>by have:=vj A;show bC A+1+1≤(r::qk A).length;rw[AK];exact ahw
 |.bo r A B=>by have:=vj A;have:=vj B;show bC A+bC B+1+1≤(r::(qk A++qk B)).length;rw[AK,Ac];lia
 |.cu _ _ A B=>by have:=vj A;have:=vj B;show bC A+bC B+1+1≤(qk A++qk B).length;rw[Ac];lia
theorem yN(ok:cQ ks):OkO (ks.map some):=by intro p e i j h;rw[Aq] at h;obtain⟨k,ek,e1⟩:=Ay.mp h;cases e1;exact ok p _ ek
theorem vn(ks:List Kn):kh (ks.map some)=zw ks:=by show(ks.map some).map l9=ks.map ig;rw[Bm];rfl
theorem KW.lf{p:Nat}{n:Str}(h:wd[p]?=some (some (.lf t n))):KW (kh wd) p (.leaf t n):=by show(kh wd)[p]?=_;rw[Aq,h];rfl
theorem KW.nd{p:Nat}{e:Bool}{l r:Wd}(h:wd[p]?=some (some (.nd e i j)))(hl:KW (kh wd) i l)(hr:KW (kh wd) j r):KW (kh wd) p (.node e l r):=
 ⟨i,j,by rw[Aq,h];rfl,hl,hr⟩
theorem u4{k:Kn}{n:Str}(h:ig k=.tup [.str (kL t),.str n]):k=.lf t n:=by
 cases k with
 |lf u m=>
  have h1:kL u=kL t:=by injection h with h;injection h with h _;injection h
  have h2:m=n:=by injection h with h;injection h with _ h;injection h with h _;injection h
  subst h2;cases u<;>cases t<;>first | rfl | (exfalso;revert h1;decide)
 |nd e i j=>injection h with h;injection h with _ h;injection h with _ h;cases h
theorem u6{k:Kn}{e:Bool}(h:ig k=.tup [.str (kN e),.int (i:Int),.int (j:Int)]):k=.nd e i j:=by
 cases k with
 |lf u m=>injection h with h;injection h with _ h;injection h with _ h;cases h
 |nd b i' j'=>
  have h1:kN b=kN e:=by injection h with h;injection h with h _;injection h
  have h2:((i':Nat):Int)=i:=by injection h with h;injection h with _ h;injection h with h _;injection h
  have h3:((j':Nat):Int)=j:=by injection h with h;injection h with _ h;injection h with _ h;injection h with h _;injection h
  have h2:=BV.mp h2;have h3:=BV.mp h3;subst h2 h3;cases b<;>cases e<;>first | rfl | (exfalso;revert h1;decide)
theorem xP{p:Nat}(h:(kh wd)[p]?=some y):∃o,wd[p]?=some o/\l9 o=y:=by rw[Aq] at h;obtain⟨o,a,b⟩:=Ay.mp h;exact⟨o,a,b⟩
theorem KW.inv_lf{p:Nat}{n:Str}(h:KW (kh wd) p (.leaf t n)):wd[p]?=some (some (.lf t n)):=by
 obtain⟨o,a,b⟩:=xP (show(kh wd)[p]?=some (.tup [.str (kL t),.str n]) from h);cases o with
 |none=>cases b
 |some k=>rw[a,u4 b]
theorem KW.inv_nd{p:Nat}{e:Bool}{l r:Wd}(h:KW (kh wd) p (.node e l r)):∃i j,wd[p]?=some (some (.nd e i j))/\KW (kh wd) i l/\KW (kh wd) j r:=by
 obtain⟨i,j,h1,h2,h3⟩:=h;obtain⟨o,a,b⟩:=xP h1;cases o with
 |none=>cases b
 |some k=>exact⟨i,j,by rw[a,u6 b],h2,h3⟩
theorem KW.dep{wd:List (Option Kn)}(ok:OkO wd):∀{w:Wd} {p:Nat},KW (kh wd) p w->w.depth≤p+1
 |.leaf t n,p,_=>by show 1≤p+1;exact CZ _
 |.node e l r,p,h=>by obtain⟨i,j,a,hl,hr⟩:=h.inv_nd;have:=ok p e i j a;have:=KW.dep ok hl;have:=KW.dep ok hr;show max l.depth r.depth+1≤p+1;lia
def aja(wd:List (Option Kn)):Prop:=∀(p:Nat) (e:Bool) (i j:Nat),wd[p]?=some (some (.nd e i j))->(∃k,wd[i]?=some (some k))/\∃k,wd[j]?=some (some k)
theorem Ren.inv{f:Nat->Nat}(r:Ren f out wd){x:Nat}{k:Kn}(h:wd[x]?=some (some k)):∃p,p<out.length/\x=f p/\∃o,out[p]?=some o/\fu f o=some k:=by obtain⟨p,hp,e⟩:=r.gap.only x k h;have hp:=Bb.mp hp;have:=r.gap.at_ p (Bb.mpr hp) _ (Aj hp);rw[<-e,h] at this;exact⟨p,hp,e,_,Aj hp,(A4 this).symm⟩
theorem Ren.word{f:Nat->Nat}(r:Ren f out wd):∀{w:Wd} {p:Nat},KW (kh out) p w->KW (kh wd) (f p) w
 |.leaf t n,p,h=>by have e:=h.inv_lf;exact KW.lf (r.gap.at_ p (Bb.mpr (xt e)) _ e)
 |.node b l rr,p,h=>by obtain⟨i,j,e,hl,hr⟩:=h.inv_nd;exact KW.nd (r.gap.at_ p (Bb.mpr (xt e)) _ e) (r.word hl) (r.word hr)
def vi(wd:List (Option Kn)):List Nat:=wd.flatMap ju
theorem cB(wd:List (Option Kn))(k:Option Kn):vi (wd++[k])=vi wd++ju k:=by unfold vi;rw[AA,A1,De,AQ]
theorem sd(k:Option Kn):(ju k).length≤2:=by cases k with|none=>exact Bf _|some k=>cases k with|lf t n=>exact Bf _|nd e i j=>exact An _
theorem dI(wd:List (Option Kn)):(vi wd).length≤2*wd.length:=by
 induction wd with
 |nil=>exact An _
 |cons k r ih=>
  have e:vi (k::r)=ju k++vi r:=A1 ..;have:=sd k;rw[e,Ac,AK];lia
def fG(wd:List (Option Kn))(p:Nat):Bool:=match wd[p]? with
 |some (some _)=>true
 |_=>false
def gu(wd:List (Option Kn))(us:List Nat)(p:Nat):Bool:=fG wd p&&!(decide (p∈us))
def wy(wd:List (Option Kn))(us:List Nat)(i:Nat):List Nat:=(List.range i).filter (gu wd us)
theorem iw(wd:List (Option Kn))(us:List Nat)(i:Nat):wy wd us (i+1)=wy wd us i++if gu wd us i=true then [i] else []:=by unfold wy;rw[DU,BE];congr 1;rw[Bl,Dn]
def aF(wd:List (Option Kn))(ct:List (Nat×Nat)):List Nat:=vi wd++jj ct
def lK(ks:List Kn)(l:List Nat):List Nat:=l.flatMap fun p=>ju ks[p]?
theorem fA(ks:List Kn)(a b:List Nat):lK ks (a++b)=lK ks a++lK ks b:=by unfold lK;rw[AA]
theorem bK(ks:List Kn)(x:Nat)(l:List Nat):lK ks (x::l)=ju ks[x]?++lK ks l:=A1 ..
theorem bQ{E:List Nat}(h:E.Nodup)(hi:i∈E):E.Perm ([i]++E.filter fun x=>!decide (x=i)):=by
 refine(AJ h ?_).mpr fun x=>?_
 ·refine Aw.mpr ⟨fun z=>?_,h.filter _⟩;have:=(AS.mp z).2;simp at this
 ·rw[Al,Ak,AS];constructor
  ·intro hx;by_cases c:x=i
   ·exact .inl c
   ·exact .inr ⟨hx,by simp[c]⟩
  ·rintro(rfl | hx)
   ·exact hi
   ·exact hx.1
theorem SR.part{E:List Nat}(h:SR ks R E):(qk R).Nodup->(lK ks (qk R)++(jj (zp R)++E)).Perm (qk R):=by
 induction h with
 |@link p q t n E' h1 h2 h3 h4 h5=>
  intro _;have e:lK ks [p,q]=[]:=by rw[bK,bK,h2,h3];rfl
  show(lK ks [p,q]++([]++E')).Perm [p,q];rw[e,Ct,Ct];refine(AJ h5 (by simp;lia)).mpr fun x=>?_;rw[h4 x];simp
 |@ei r i j A EA E' h1 hA h3 h4 h5 h6 h7 ih=>
  intro nd;obtain⟨n1,n2⟩:=Aw.mp nd;have ih:=ih n2;have nA:EA.Nodup:=(Ao.mp (Ao.mp (ih.nodup_iff.mpr n2)).2.1).2.1;have p1:=bQ nA h3;have p2:(EA.filter fun x=>!decide (x=i)).Perm _:=bQ (nA.filter _) (i:=j) (AS.mpr ⟨h4,by simp;exact AM h5⟩);have p3:E'.Perm ([r]++(EA.filter fun x=>!decide (x=i)).filter fun x=>!decide (x=j)):=by
   refine(AJ h7 (Aw.mpr ⟨fun z=>n1 (hA.sub _ (AS.mp (AS.mp z).1).1),(nA.filter _).filter _⟩)).mpr fun x=>?_;rw[h6 x,Av,AS,AS];simp only[DB,decide_eq_false_iff_not];constructor
   ·rintro(⟨a,b,c⟩ | rfl)
    ·exact .inr ⟨⟨a,b⟩,c⟩
    ·exact .inl rfl
   ·rintro(rfl | ⟨⟨a,b⟩,c⟩)
    ·exact .inr rfl
    ·exact .inl ⟨a,b,c⟩
  show(lK ks (r::qk A)++(jj (zp A)++E')).Perm ([r]++qk A);rw[bK,h1];show((([i]++[j])++lK ks (qk A))++(jj (zp A)++E')).Perm _;refine Cj.mpr fun a=>?_;have c1:=p1.count_eq a;have c2:=p2.count_eq a;have c3:=p3.count_eq a;have c4:=ih.count_eq a;simp only[CB] at c1 c2 c3 c4 ⊢;lia
 |@bo r i j A B EA EB E' h1 hA hB h4 h5 h6 h7 ih1 ih2=>
  intro nd;obtain⟨n1,n2⟩:=Aw.mp nd;obtain⟨m1,m2,m3⟩:=Ao.mp n2;have ih1:=ih1 m1;have ih2:=ih2 m2;have nA:EA.Nodup:=(Ao.mp (Ao.mp (ih1.nodup_iff.mpr m1)).2.1).2.1;have nB:EB.Nodup:=(Ao.mp (Ao.mp (ih2.nodup_iff.mpr m2)).2.1).2.1;have p1:=bQ nA h4;have p2:=bQ nB h5;have p3:E'.Perm ([r]++((EA.filter fun x=>!decide (x=i))++EB.filter fun x=>!decide (x=j))):=by
   refine(AJ h7 (Aw.mpr ⟨fun z=>n1 ?_,Ao.mpr ⟨nA.filter _,nB.filter _,fun a ha b hb=>m3 a (hA.sub _ (AS.mp ha).1) b (hB.sub _ (AS.mp hb).1)⟩⟩)).mpr fun x=>?_
   ·rcases Al.mp z with z | z
    ·exact Ar _ (hA.sub _ (AS.mp z).1)
    ·exact Af _ (hB.sub _ (AS.mp z).1)
   ·rw[h6 x,Av,Al,AS,AS];simp only[DB,decide_eq_false_iff_not];constructor
    ·rintro(a | a | rfl)
     ·exact .inr (.inl a)
     ·exact .inr (.inr a)
     ·exact .inl rfl
    ·rintro(rfl | a | a)
     ·exact .inr (.inr rfl)
     ·exact .inl a
     ·exact .inr (.inl a)
  show(lK ks (r::(qk A++qk B))++(jj (zp A++zp B)++E')).Perm ([r]++(qk A++qk B));rw[bK,h1,fA,ke];show((([i]++[j])++(lK ks (qk A)++lK ks (qk B)))++((jj (zp A)++jj (zp B))++E')).Perm _;refine Cj.mpr fun a=>?_;have c1:=p1.count_eq a;have c2:=p2.count_eq a;have c3:=p3.count_eq a;have c4:=ih1.count_eq a;have c5:=ih2.count_eq a;simp only[CB] at c1 c2 c3 c4 c5 ⊢;lia
 |@cu p q A B EA EB E' w hA hB h3 h4 h5 h6 h7 h8 ih1 ih2=>
  intro n2;obtain⟨m1,m2,m3⟩:=Ao.mp (show(qk A++qk B).Nodup from n2);have ih1:=ih1 m1;have ih2:=ih2 m2;have nA:EA.Nodup:=(Ao.mp (Ao.mp (ih1.nodup_iff.mpr m1)).2.1).2.1;have nB:EB.Nodup:=(Ao.mp (Ao.mp (ih2.nodup_iff.mpr m2)).2.1).2.1;have p1:=bQ nA h3;have p2:=bQ nB h4;have p3:E'.Perm ((EA.filter fun x=>!decide (x=p))++EB.filter fun x=>!decide (x=q)):=by refine(AJ h8 (Ao.mpr ⟨nA.filter _,nB.filter _,fun a ha b hb=>m3 a (hA.sub _ (AS.mp ha).1) b (hB.sub _ (AS.mp hb).1)⟩)).mpr fun x=>?_;rw[h7 x,Al,AS,AS];simp only[DB,decide_eq_false_iff_not]
  show(lK ks (qk A++qk B)++(jj ((p,q)::(zp A++zp B))++E')).Perm (qk A++qk B);rw[fA,vt,ke];show((lK ks (qk A)++lK ks (qk B))++(([p]++[q]++(jj (zp A)++jj (zp B)))++E')).Perm _;refine Cj.mpr fun a=>?_;have c1:=p1.count_eq a;have c2:=p2.count_eq a;have c3:=p3.count_eq a;have c4:=ih1.count_eq a;have c5:=ih2.count_eq a;simp only[CB] at c1 c2 c3 c4 c5 ⊢;lia
structure aeg(wd:List (Option Kn)):Prop where
 ne:∀(p:Nat) (e:Bool) (i j:Nat),wd[p]?=some (some (.nd e i j))->i≠j
 un:∀(p q:Nat) (k l:Kn) (x:Nat),wd[p]?=some (some k)->wd[q]?=some (some l)->x∈ju (some k)->x∈ju (some l)->p=q
theorem vD{x:Nat}(h:x∈vi wd):∃(p:Nat) (k:Kn),wd[p]?=some (some k)/\x∈ju (some k):=by
 obtain⟨o,ho,hx⟩:=A3.mp h;obtain⟨p,e⟩:=Dk ho;cases o with
 |none=>cases hx
 |some k=>exact⟨p,k,e,hx⟩
theorem wO{x p:Nat}{k:Kn}(h:wd[p]?=some (some k))(hx:x∈ju (some k)):x∈vi wd:=A3.mpr ⟨_,AO h,hx⟩
theorem Ren.inj{f:Nat->Nat}(r:Ren f out wd){a b:Nat}(ha:a<out.length)(hb:b<out.length)(e:f a=f b):a=b:=r.gap.inj a (Bb.mpr ha) b (Bb.mpr hb) e
def rP:Option Kn->Bool
 |some (.lf _ _)=>true
 |_=>false
theorem SR.leaves{E:List Nat}(h:SR ks R E):(jj (zd R)).Perm ((qk R).filter fun p=>rP ks[p]?):=by
 induction h with
 |@link p q t n E' h1 h2 h3 h4 h5=>
  show(jj [(p,q)]).Perm ([p,q].filter fun p=>rP ks[p]?);rw[bO,Bl,Bl,h2,h3];exact BG _
 |@ei r i j A EA E' h1 hA h3 h4 h5 h6 h7 ih=>
  show(jj (zd A)).Perm ((r::qk A).filter fun p=>rP ks[p]?);rw[Bl,h1];exact ih
 |@bo r i j A B EA EB E' h1 hA hB h4 h5 h6 h7 ih1 ih2=>
  show(jj (zd A++zd B)).Perm ((r::(qk A++qk B)).filter fun p=>rP ks[p]?);rw[Bl,h1,ke];show(jj (zd A)++jj (zd B)).Perm ((qk A++qk B).filter fun p=>rP ks[p]?);rw[BE];exact ih1.append ih2
 |@cu p q A B EA EB E' w hA hB h3 h4 h5 h6 h7 h8 ih1 ih2=>
  show(jj (zd A++zd B)).Perm ((qk A++qk B).filter fun p=>rP ks[p]?);rw[ke,BE];exact ih1.append ih2
theorem fj{f:Nat->Nat}:∀{l:List Nat},l.Nodup->(∀a∈l,∀b∈l,f a=f b->a=b)->(l.map f).Nodup
 |[],_,_=>Du
 |a::r,h,g=>by obtain⟨h1,h2⟩:=Aw.mp h;rw[AF,Aw];refine⟨fun z=>?_,fj h2 fun x hx y hy=>g x (Ag _ hx) y (Ag _ hy)⟩;obtain⟨b,hb,e⟩:=AX.mp z;exact h1 (g b (Ag _ hb) a (Ap ..) e▸hb)
def mL(f:Nat->Nat):Ru->Ru
 |.link p q=>.link (min (f p) (f q)) (max (f p) (f q))
 |.ei r A=>.ei (f r) (mL f A)
 |.bo r A B=>.bo (f r) (mL f A) (mL f B)
 |.cu p q A B=>.cu (f p) (f q) (mL f A) (mL f B)
theorem bz(f:Nat->Nat):∀R:Ru,(qk (mL f R)).Perm ((qk R).map f)
 |.link p q=>by
  show [min (f p) (f q),max (f p) (f q)].Perm [f p,f q];by_cases h:f p≤f q
  ·rw[Cv h,Dd h]
  ·rw[Nat.min_eq_right (by lia),Dm (by lia)];exact List.Perm.swap _ _ _
 |.ei r A=>(bz f A).cons _
 |.bo r A B=>by show(f r::(qk (mL f A)++qk (mL f B))).Perm (f r::(qk A++qk B).map f);rw[AG];exact((bz f A).append (bz f B)).cons _
 |.cu p q A B=>by show(qk (mL f A)++qk (mL f B)).Perm ((qk A++qk B).map f);rw[AG];exact(bz f A).append (bz f B)
theorem eX{x:Nat}{k:Kn}(h:(ks.map some)[x]?=some (some k)):ks[x]?=some k:=by rw[Aq] at h;obtain⟨k',e,z⟩:=Ay.mp h;cases z;exact e
theorem SR.ren{f:Nat->Nat}(r:Ren f (ks.map some) (ks'.map some)){E:List Nat}(h:SR ks R E):SR ks' (mL f R) (E.map f):=by
 have inj:∀{a b:Nat},a<ks.length->b<ks.length->f a=f b->a=b:=fun ha hb e=>r.inj (by rw[Ae];exact ha) (by rw[Ae];exact hb) e;have at_:∀{p:Nat} {k:Kn},ks[p]?=some k->(ks'.map some)[f p]?=some (fu f (some k)):=fun {p k} e=>r.gap.at_ p (Bb.mpr (by rw[Ae];exact xt e)) _ (by rw[Aq,e];rfl)
 have lf:∀{p:Nat} {t:Bool} {n:Str},ks[p]?=some (.lf t n)->ks'[f p]?=some (.lf t n):=fun e=>eX (at_ e);have nd:∀{p i j:Nat} {e:Bool},ks[p]?=some (.nd e i j)->ks'[f p]?=some (.nd e (f i) (f j)):=fun e=>eX (at_ e);have el:∀{A:Ru} {EA:List Nat},SR ks A EA->∀x∈EA,x<ks.length:=fun s x hx=>s.lt x (s.sub x hx);have nod:∀{A:Ru} {EA:List Nat},SR ks A EA->(EA.map f).Nodup:=fun s=>fj s.nod fun a ha b hb=>inj (el s a ha) (el s b hb);have wd:∀{p:Nat} {w:Wd},cH ks p w->cH ks' (f p) w:=fun {p w} hw=>by have:=r.word (w:=w) (p:=p) (by rw[vn];exact hw);rw[vn] at this;exact this
 have rm:∀{A:Ru} {EA:List Nat} {i y:Nat},SR ks A EA->i∈EA->y∈EA->y≠i->f y≠f i:=fun s hi hy ne z=>ne (inj (el s _ hy) (el s _ hi) z)
 induction h with
 |@link p q t n E h1 h2 h3 h4 h5=>
  have s:SR ks (.link p q) E:=.link h1 h2 h3 h4 h5;have ne:f p≠f q:=fun z=>by have:=inj (xt h2) (xt h3) z;lia
  have me:∀x,x∈E.map f↔x=f p\/x=f q:=fun x=>by
   rw[AX];constructor
   ·rintro⟨y,hy,rfl⟩;rcases (h4 y).mp hy with rfl | rfl
    ·exact .inl rfl
    ·exact .inr rfl
   ·rintro(rfl | rfl)
    ·exact⟨p,(h4 p).mpr (.inl rfl),rfl⟩
    ·exact⟨q,(h4 q).mpr (.inr rfl),rfl⟩
  show SR ks' (.link (min (f p) (f q)) (max (f p) (f q))) _;by_cases c:f p≤f q
  ·rw[Cv c,Dd c];exact .link (by lia) (lf h2) (lf h3) me (nod s)
  ·rw[Nat.min_eq_right (by lia),Dm (by lia)];exact .link (by lia) (lf h3) (by rw[DQ];exact lf h2) (fun x=>(me x).trans Or.comm) (nod s)
 |@ei r i j A EA E h1 hA h3 h4 h5 h6 h7 ih=>
  have s:SR ks (.ei r A) E:=.ei h1 hA h3 h4 h5 h6 h7;refine .ei (nd h1) ih (AX.mpr ⟨i,h3,rfl⟩) (AX.mpr ⟨j,h4,rfl⟩) (rm hA h4 h3 h5) (fun x=>?_) (nod s);rw[AX];constructor
  ·rintro⟨y,hy,rfl⟩;rcases (h6 y).mp hy with⟨a,b,c⟩ | rfl
   ·exact .inl ⟨AX.mpr ⟨y,a,rfl⟩,rm hA h3 a b,rm hA h4 a c⟩
   ·exact .inr rfl
  ·rintro(⟨hx,b,c⟩ | rfl)
   ·obtain⟨y,a,rfl⟩:=AX.mp hx;exact⟨y,(h6 y).mpr (.inl ⟨a,fun z=>b (by rw[z]),fun z=>c (by rw[z])⟩),rfl⟩
   ·exact⟨r,(h6 r).mpr (.inr rfl),rfl⟩
 |@bo r i j A B EA EB E h1 hA hB h4 h5 h6 h7 ih1 ih2=>
  have s:SR ks (.bo r A B) E:=.bo h1 hA hB h4 h5 h6 h7;refine .bo (nd h1) ih1 ih2 (AX.mpr ⟨i,h4,rfl⟩) (AX.mpr ⟨j,h5,rfl⟩) (fun x=>?_) (nod s);rw[AX];constructor
  ·rintro⟨y,hy,rfl⟩;rcases (h6 y).mp hy with⟨a,b⟩ | ⟨a,b⟩ | rfl
   ·exact .inl ⟨AX.mpr ⟨y,a,rfl⟩,rm hA h4 a b⟩
   ·exact .inr (.inl ⟨AX.mpr ⟨y,a,rfl⟩,rm hB h5 a b⟩)
   ·exact .inr (.inr rfl)
  ·rintro(⟨hx,b⟩ | ⟨hx,b⟩ | rfl)
   ·obtain⟨y,a,rfl⟩:=AX.mp hx;exact⟨y,(h6 y).mpr (.inl ⟨a,fun z=>b (by rw[z])⟩),rfl⟩
   ·obtain⟨y,a,rfl⟩:=AX.mp hx;exact⟨y,(h6 y).mpr (.inr (.inl ⟨a,fun z=>b (by rw[z])⟩)),rfl⟩
   ·exact⟨r,(h6 r).mpr (.inr (.inr rfl)),rfl⟩
 |@cu p q A B EA EB E w hA hB h3 h4 h5 h6 h7 h8 ih1 ih2=>
  have s:SR ks (.cu p q A B) E:=.cu hA hB h3 h4 h5 h6 h7 h8;refine .cu ih1 ih2 (AX.mpr ⟨p,h3,rfl⟩) (AX.mpr ⟨q,h4,rfl⟩) (wd h5) (wd h6) (fun x=>?_) (nod s);rw[AX];constructor
  ·rintro⟨y,hy,rfl⟩;rcases (h7 y).mp hy with⟨a,b⟩ | ⟨a,b⟩
   ·exact .inl ⟨AX.mpr ⟨y,a,rfl⟩,rm hA h3 a b⟩
   ·exact .inr ⟨AX.mpr ⟨y,a,rfl⟩,rm hB h4 a b⟩
  ·rintro(⟨hx,b⟩ | ⟨hx,b⟩)
   ·obtain⟨y,a,rfl⟩:=AX.mp hx;exact⟨y,(h7 y).mpr (.inl ⟨a,fun z=>b (by rw[z])⟩),rfl⟩
   ·obtain⟨y,a,rfl⟩:=AX.mp hx;exact⟨y,(h7 y).mpr (.inr ⟨a,fun z=>b (by rw[z])⟩),rfl⟩
theorem ahy{f:Nat->Nat}(ok:cQ ks)(r:Ren f (ks.map some) (ks'.map some)):cQ ks':=fun p k e=>by
 have e':(ks'.map some)[p]?=some (some k):=by rw[Aq,e];rfl
 obtain⟨y,hy,rfl,o,eo,ek⟩:=r.inv e';cases k with
 |nd b i j=>exact r.gap.ok _ b i j e'
 |lf t n=>
  cases o with
  |none=>cases ek
  |some o=>
   cases o with
   |nd b i j=>cases ek
   |lf t' n'=>
    cases ek;exact ok y _ (eX eo)
structure aX(ks:List Kn)(R:Ru)(E:List Nat):Prop where
 ok:cQ ks
 sr:SR ks R E
 nd:(qk R).Nodup
 len:ks.length≤96
theorem aX.ren{f:Nat->Nat}{E:List Nat}(ok:cQ ks)(sr:SR ks R E)(tp:(qk R).Perm (List.range ks.length))(hl:ks.length≤96)(r:Ren f (ks.map some) (ks'.map some))(l:ks'.length=ks.length):aX ks' (mL f R) (E.map f)/\(qk (mL f R)).Perm (List.range ks'.length):=by have S:=sr.ren r;have nd:(qk (mL f R)).Nodup:=(bz f R).nodup_iff.mpr (fj (tp.nodup_iff.mpr BL) fun a ha b hb e=>r.inj (by rw[Ae];exact sr.lt a ha) (by rw[Ae];exact sr.lt b hb) e);refine⟨⟨ahy ok r,S,nd,by lia⟩,(AJ nd BL).mpr fun x=>⟨fun h=>Bb.mpr (S.lt x h),fun h=>?_⟩⟩;have h:=Bb.mp h;obtain⟨y,hy,e⟩:=r.gap.only x ks'[x] (by rw[Aq,Aj h];rfl);rw[Ae] at hy;exact(bz f R).mem_iff.mpr (AX.mpr ⟨y,tp.mem_iff.mpr hy,e.symm⟩)
def dY:Ru->List Nat
 |.link p q=>[p,q]
 |.ei r _=>[r]
 |.bo r _ _=>[r]
 |.cu _ _ _ _=>[]
theorem gc(A:Ru):qk A=dY A++(zj A).flatMap qk:=by cases A<;>simp[qk,dY,zj]
def jv:Ru->List Ru
 |.link p q=>[.link p q]
 |.ei r A=>.ei r A::jv A
 |.bo r A B=>.bo r A B::(jv A++jv B)
 |.cu p q A B=>.cu p q A B::(jv A++jv B)
theorem f7(A:Ru):jv A=A::(zj A).flatMap jv:=by cases A<;>simp[jv,zj]
theorem au:∀A:Ru,(jv A).length=bC A
 |.link _ _=>rfl
 |.ei _ A=>by show(jv A).length+1=_;rw[au A];rfl
 |.bo _ A B=>by show(jv A++jv B).length+1=_;rw[Ac,au A,au B];rfl
 |.cu _ _ A B=>by show(jv A++jv B).length+1=_;rw[Ac,au A,au B];rfl
def i9(ks:List Kn):Ru->List (List Nat)
 |.link _ _=>[]
 |.ei r _=>[ju ks[r]?]
 |.bo r _ _=>(ju ks[r]?).map fun x=>[x]
 |.cu p q _ _=>[[p],[q]]
def je(x:List Nat×List Nat):List Nat:=x.1.filter fun y=>!decide (y∈x.2)
def xi(ks:List Kn):Ru->List Nat
 |.link p q=>[p,q]
 |.ei r A=>[r]++([xi ks A].zip [ju ks[r]?]).flatMap je
 |.bo r A B=>[r]++([xi ks A,xi ks B].zip ((ju ks[r]?).map fun x=>[x])).flatMap je
 |.cu p q A B=>[]++([xi ks A,xi ks B].zip [[p],[q]]).flatMap je
theorem wH(ks:List Kn)(A:Ru):xi ks A=dY A++(((zj A).map (xi ks)).zip (i9 ks A)).flatMap je:=by cases A<;>rfl
def akj(ks:List Kn)(B:Ru)(t:List Nat):Prop:=∃EB,SR ks B EB/\∀x∈t,x∈EB
theorem SR.arms{E:List Nat}(h:SR ks R E):Paired (akj ks) (zj R) (i9 ks R):=by
 cases h with
 |link=>exact .nil
 |@ei r i j A EA _ h1 hA h3 h4=>
  show Paired _ [A] [ju ks[r]?];rw[h1];refine .cons ⟨EA,hA,fun x hx=>?_⟩ .nil;have hx:x∈[i,j]:=hx;rcases Av.mp hx with rfl | hx
  ·exact h3
  ·rw[Ak.mp hx];exact h4
 |@bo r i j A B EA EB _ h1 hA hB h4 h5=>
  show Paired _ [A,B] ((ju ks[r]?).map fun x=>[x]);rw[h1];exact .cons ⟨EA,hA,fun x hx=>by rw[Ak.mp hx];exact h4⟩ (.cons ⟨EB,hB,fun x hx=>by rw[Ak.mp hx];exact h5⟩ .nil)
 |@cu p q A B EA EB _ w hA hB h3 h4=>
  exact .cons ⟨EA,hA,fun x hx=>by rw[Ak.mp hx];exact h3⟩ (.cons ⟨EB,hB,fun x hx=>by rw[Ak.mp hx];exact h4⟩ .nil)
theorem cY{t:List Nat}{x:Nat}:x∈je (F,t)↔x∈F/\x∉t:=by unfold je;rw[AS];simp
theorem eY{t:List Nat}(h:F.Nodup):(je (F,t)).Nodup:=h.filter _
theorem nO{E:List Nat}(h:SR ks R E):(qk R).Nodup->(xi ks R).Perm E:=by
 induction h with
 |@link p q t n E h1 h2 h3 h4 h5=>
  intro nd;exact(AJ nd h5).mpr fun x=>by rw[h4];show x∈[p,q]↔_;simp
 |@ei r i j A EA E h1 hA h3 h4 h5 h6 h7 ih=>
  intro nd;obtain⟨n1,n2⟩:=Aw.mp nd;have P:=ih n2;have e:xi ks (.ei r A)=r::je (xi ks A,[i,j]):=by show [r]++([xi ks A].zip [ju ks[r]?]).flatMap je=_;rw[h1];show r::(je (xi ks A,[i,j])++[])=_;rw[AQ]
  rw[e];have m:∀x,x∈je (xi ks A,[i,j])↔x∈EA/\x≠i/\x≠j:=fun x=>by rw[cY,P.mem_iff];simp
  refine(AJ (Aw.mpr ⟨fun z=>n1 (hA.sub r ((m r).mp z).1),eY (P.nodup_iff.mpr hA.nod)⟩) h7).mpr fun x=>?_;rw[Av,m,h6,Or.comm]
 |@bo r i j A B EA EB E h1 hA hB h4 h5 h6 h7 ih1 ih2=>
  intro nd;obtain⟨n1,n2⟩:=Aw.mp nd;obtain⟨m1,m2,m3⟩:=Ao.mp n2;have P:=ih1 m1;have Q:=ih2 m2;have e:xi ks (.bo r A B)=r::(je (xi ks A,[i])++je (xi ks B,[j])):=by show [r]++([xi ks A,xi ks B].zip ((ju ks[r]?).map fun x=>[x])).flatMap je=_;rw[h1];show r::(je (xi ks A,[i])++(je (xi ks B,[j])++[]))=_;rw[AQ]
  rw[e];have a:∀x,x∈je (xi ks A,[i])↔x∈EA/\x≠i:=fun x=>by rw[cY,P.mem_iff];simp
  have b:∀x,x∈je (xi ks B,[j])↔x∈EB/\x≠j:=fun x=>by rw[cY,Q.mem_iff];simp
  refine(AJ (Aw.mpr ⟨fun z=>n1 ?_,Ao.mpr ⟨eY (P.nodup_iff.mpr hA.nod),eY (Q.nodup_iff.mpr hB.nod),fun x hx y hy=>m3 x (hA.sub x ((a x).mp hx).1) y (hB.sub y ((b y).mp hy).1)⟩⟩) h7).mpr fun x=>?_
  ·rcases Al.mp z with z | z
   ·exact Ar _ (hA.sub r ((a r).mp z).1)
   ·exact Af _ (hB.sub r ((b r).mp z).1)
  ·rw[Av,Al,a,b,h6,Or.comm,or_assoc]
 |@cu p q A B EA EB E w hA hB h3 h4 h5 h6 h7 h8 ih1 ih2=>
  intro n2;obtain⟨m1,m2,m3⟩:=Ao.mp (show(qk A++qk B).Nodup from n2);have P:=ih1 m1;have Q:=ih2 m2;have e:xi ks (.cu p q A B)=je (xi ks A,[p])++je (xi ks B,[q]):=by show []++(je (xi ks A,[p])++(je (xi ks B,[q])++[]))=_;rw[AQ,Ct]
  rw[e];have a:∀x,x∈je (xi ks A,[p])↔x∈EA/\x≠p:=fun x=>by rw[cY,P.mem_iff];simp
  have b:∀x,x∈je (xi ks B,[q])↔x∈EB/\x≠q:=fun x=>by rw[cY,Q.mem_iff];simp
  refine(AJ (Ao.mpr ⟨eY (P.nodup_iff.mpr hA.nod),eY (Q.nodup_iff.mpr hB.nod),fun x hx y hy=>m3 x (hA.sub x ((a x).mp hx).1) y (hB.sub y ((b y).mp hy).1)⟩) h8).mpr fun x=>?_;rw[Al,a,b,h7]
end L3
namespace TS
open PySem PyProof.Rows PySem.W
section
variable {w:World} 
def IntV(v:Value):Prop:=∃i t,v=.int i t
noncomputable def nmI(x:Keyed):Int:=match x.1 with
 |.int i _=>i
 |_=>0
theorem ab8:u7 prog w A s oneType' (fun x=>IntV x.1) nmI:=by
 constructor;rintro x y ⟨i,t,e1⟩ ⟨j,u,e2⟩ E Q h;have h1:nmI x=i:=by unfold nmI;rw[e1]
 have h2:nmI y=j:=by unfold nmI;rw[e2]
 rw[h1,h2] at h;rw[e1,e2];exact kat_lt_int h
theorem o7:∀{vs:List Value},(∀v∈vs,IntV v)->∃ns,IntsAre vs ns
 |[],_=>⟨[],.nil⟩
 |v::r,h=>by obtain⟨i,t,rfl⟩:=h v (Ap ..);obtain⟨ns,k⟩:=o7 (vs:=r) fun u hu=>h u (Ag _ hu);exact⟨_,.cons i t k⟩
theorem wG(h:∀v∈vs,IntV v)(h2:¬vs.length<2):keyKind' vs.toArray=pure oneType':=by
 obtain⟨ns,k⟩:=o7 h
 match vs,k,h2 with
 |[],_,h2=>exact absurd (Nat.zero_lt_succ 1) h2
 |[_],_,h2=>exact absurd (BU 1) h2
 |_::_::_,k,_=>exact keyKind_ints k
theorem yz{a:Addr}{P:PySem.Fin->Shared->Prop}(ho:s.heap.get? a=some (seqObj "list" vs.toArray n))(hz:vs.length≤100000)(hk:∀v∈vs,IntV v)(inj:((vs.zip vs).map nmI).Nodup)
 (h:∀h' tk (xs:List Keyed) c,(∀b o,b≠a->s.heap.get? b=some o->h'.get? b=some o)->h'.get? a=some (seqObj "list" (List.toArray (xs.map (·.2))) c)->xs.Perm (vs.zip vs)->(xs.Pairwise fun x y=>nmI x≤nmI y)->P (.done (.ret .none)) { s with heap:=h',toks:=tk }):
 wpAny (model prog w) A (Builtin.«list.sort» ⟨[.ref a],[]⟩) P E s:=by
 have big:(100000:Nat)+1≤sizeLine:=by rw[sizeLine_eq];exact Cu _ _
 have zl:(vs.toArray.zip vs.toArray).toList=vs.zip vs:=by simp
 have s1:=Heap.SameBut.update s.heap a (Obj.mapSeq fun _=>(#[]:Array Value));obtain⟨e1,ho1⟩:∃e1,(s.heap.update a (Obj.mapSeq fun _=>(#[]:Array Value))).get? a=some (seqObj "list" #[] e1):=⟨_,get?_update_seq ho fun _=>#[]⟩;obtain⟨hp3,ehp3⟩:∃g,g=((s.heap.update a (Obj.mapSeq fun _=>(#[]:Array Value))).push (seqObj "tuple" vs.toArray 0)).push (seqObj "list" #[] 0):=⟨_,rfl⟩;have k3:∀b o,b≠a->s.heap.get? b=some o->hp3.get? b=some o:=fun b o hb e=>by rw[ehp3];exact Heap.get?_push_of_some _ (Heap.get?_push_of_some _ ((s1.2 b hb).trans e))
 have ha3:hp3.get? a=some (seqObj "list" #[] e1):=by rw[ehp3];exact Heap.get?_push_of_some _ (Heap.get?_push_of_some _ ho1)
 have tail:∀st:SortSt,(arrOf st).toList.Perm (vs.zip vs)->((arrOf st).toList.Pairwise fun x y=>nmI x≤nmI y)->
  ∀tk,P (.done (.ret .none)) { s with heap:=hp3.update a (Obj.mapSeq fun _=>(arrOf st).map (·.2)),toks:=tk }:=by
  intro st hp hs tk;have s2:=Heap.SameBut.update hp3 a (Obj.mapSeq fun _=>(arrOf st).map (·.2));obtain⟨c2,hc2⟩:∃c2,(hp3.update a (Obj.mapSeq fun _=>(arrOf st).map (·.2))).get? a=some (seqObj "list" ((arrOf st).map (·.2)) c2):=⟨_,get?_update_seq ha3 fun _=>(arrOf st).map (·.2)⟩;have em:(arrOf st).map (·.2)=List.toArray ((arrOf st).toList.map (·.2)):=by apply DJ.mp;rw[DK]
  refine h _ tk (arrOf st).toList c2 (fun b o hb e=>(s2.2 b hb).trans (k3 b o hb e)) ?_ hp hs;rw[em] at hc2 ⊢;exact hc2
 have len:∀st:SortSt,(arrOf st).toList.Perm (vs.zip vs)->((arrOf st).map (·.2)).size≤sizeLine+1:=fun st hp=>by have:=hp.length_eq;rw[B8,AL] at this;rw[DY];lia
 rw[list_sort_plain];refine Aa (listItems_at ho rfl ?_);refine Aa (listUpdate_at ho rfl ?_ (by rw[Am];exact sP) (Bf _));refine Aa (seqEpoch_at ho1 rfl ?_);refine Aa (wpAny_newTuple ?_ (by show vs.length≤_;lia));refine Aa (wpAny_newList ?_ (Bf _));refine A8 ?_;show wpAny (model prog w) A _ P E { s with heap:=((s.heap.update a (Obj.mapSeq fun _=>(#[]:Array Value))).push (seqObj "tuple" vs.toArray 0)).push (seqObj "list" #[] 0) };rw[<-ehp3];dsimp only;by_cases h2:vs.toArray.size<2
 ·rw[AB h2,AB h2];refine Aa (Ah ?_);rw[StateT.run_pure];refine Aa (Ah ?_);dsimp only;refine Aa (seqEpoch_at ha3 rfl ?_);have pz:(arrOf (SortSt.mk' oneType' (vs.toArray.zip vs.toArray) #[] 7 none)).toList.Perm (vs.zip vs):=by show(vs.toArray.zip vs.toArray).toList.Perm _;rw[zl]
  refine Aa (listUpdate_at ha3 rfl ?_ (Bf _) (len _ pz));simp only[bne_self_eq_false,BK,if_false];refine Ah (tail (SortSt.mk' oneType' (vs.toArray.zip vs.toArray) #[] 7 none) pz ?_ _);show(vs.toArray.zip vs.toArray).toList.Pairwise _;rw[zl];rw[Am] at h2;have:(vs.zip vs).length<2:=by rw[B8];lia
  exact kJ this
 ·rw[Az h2,Az h2];rw[Am] at h2;rw[wG hk h2];refine Aa (Ah ?_);refine Aa (AY (sj (E:=E) (ab8 (s:={ s with heap:=hp3 })) (st:=SortSt.mk' oneType' (vs.toArray.zip vs.toArray) #[] 7 none)
   (Q:=fun _ st'=>failedOf st'=none/\(arrOf st').toList.Perm (vs.zip vs)/\((arrOf st').toList.Pairwise fun x y=>nmI x≤nmI y)) rfl rfl rfl (fun x hx=>?_) ?_ fun st' b1 b2 b3=>⟨b1,?_,b3⟩) ?_ fun _ _ e=>e)
  ·have hx:x∈(vs.toArray.zip vs.toArray).toList:=hx;rw[zl] at hx;exact hk _ (mem_self_zip hx).1
  ·show((vs.toArray.zip vs.toArray).toList.map _).Nodup;rw[zl];exact inj
  ·have b2:(arrOf st').toList.Perm (vs.toArray.zip vs.toArray).toList:=b2;rw[zl] at b2;exact b2
  ·rintro⟨⟨⟩,st'⟩ s' ⟨rfl,b1,b2,b3⟩;dsimp only;refine Aa (seqEpoch_at ha3 rfl ?_);refine Aa (listUpdate_at ha3 rfl ?_ (Bf _) (len _ b2));rw[b1];simp only[bne_self_eq_false,BK,if_false];exact Ah (tail st' b2 b3 _)
theorem w_sortedI(hl:s.heap.IsList l vs.toArray)(hz:vs.length≤100000)(hk:∀v∈vs,IntV v)(inj:((vs.zip vs).map nmI).Nodup)
 (h:∀h' tk (xs:List Keyed) D c,s.heap.objs.size≤D->(∀b o,s.heap.get? b=some o->h'.get? b=some o)->h'.get? D=some (seqObj "list" (List.toArray (xs.map (·.2))) c)->xs.Perm (vs.zip vs)->(xs.Pairwise fun x y=>nmI x≤nmI y)->Q (.ref D) { s with heap:=h',toks:=tk }):
 wpAny (model prog w) A (call (.builtin "sorted") [.ref l]) Q E s:=by
 have big:(100000:Nat)+1≤sizeLine:=by rw[sizeLine_eq];lia
 refine Calls.call_function_entry kind_sorted plain_sorted entry_sorted (args_sorted1 _) ?_;unfold Builtin.«sorted»;refine Aa (m:=checkCount "sorted" 1 1 _) (Ah ?_);refine Aa (collect_list hl ?_ (by lia));refine Aa (wpAny_newList ?_ (by lia));obtain⟨g,eg⟩:∃g,g=(s.heap.push (seqObj "list" #[] 0)).update s.heap.objs.size (Obj.mapSeq (· ++ vs.toArray)):=⟨_,rfl⟩;have gs:g.objs.size=s.heap.objs.size+1:=by rw[eg,Heap.size_update,size_push']
 have gk:∀b o,s.heap.get? b=some o->g.get? b=some o:=fun b o q=>by have hlt:b<s.heap.objs.size:=Heap.lt_size q;rw[eg,Heap.get?_update_ne _ _ _ _ (Bd hlt)];exact Heap.get?_push_of_some _ q
 show wpAny _ _ _ _ _ { s with heap:=((s.heap.push (seqObj "list" #[] 0)).update s.heap.objs.size (Obj.mapSeq (· ++ vs.toArray))).push (seqObj "list" vs.toArray 0) };rw[<-eg];have hoD:(g.push (seqObj "list" vs.toArray 0)).get? g.objs.size=some (seqObj "list" vs.toArray 0):=Heap.get?_push_size _ rfl;have keep:∀b o,s.heap.get? b=some o->(g.push (seqObj "list" vs.toArray 0)).get? b=some o:=fun b o q=>Heap.get?_push_of_some _ (gk b o q);refine Aa (A8 (wpAny_call_entry slot_list_sort ⟨_,hoD,rfl⟩ entry_list_sort ?body (args_list_sort _)))
 case body=>
  refine yz (s:={ s with heap:=g.push (seqObj "list" vs.toArray 0) }) hoD hz hk inj fun h' tk xs c k1 hD pm pw=>?_;refine⟨_,rfl,Ah ⟨_,rfl,h h' tk xs g.objs.size c (by rw[gs];exact BW _) (fun b o q=>k1 b o ?_ (keep b o q)) hD pm pw⟩⟩;have hlt:b<s.heap.objs.size:=Heap.lt_size q;intro z;rw[z,gs] at hlt;exact Dj hlt
end
end TS
namespace L2
open PySem PySem.Spec PyProof.Rows
theorem iZ:∀{ns:List Int} {vs:List Value},ze (ns.map V.int) vs->IntsAre vs ns
 |[],_,.nil=>.nil
 |n::_,_,.cons ⟨t,e⟩ p=>by subst e;exact .cons n t (iZ p)
theorem lE:∀{vs:List Value} {ns:List Int},IntsAre vs ns->(vs.zip vs).map TS.nmI=ns
 |_,_,.nil=>rfl
 |_,_,.cons n t h=>by rw[Dt,AF,lE h];rfl
theorem jN:∀{vs:List Value} {ns:List Int},IntsAre vs ns->∀v∈vs,TS.IntV v
 |_,_,.nil,_,h=>by cases h
 |_,_,.cons n t k,v,h=>by
  rcases Av.mp h with rfl | h
  ·exact⟨n,t,rfl⟩
  ·exact jN k v h
theorem rH:∀{xs:List PyProof.Rows.Keyed},(∀x∈xs,TS.IntV x.1/\x.1=x.2)->ze ((xs.map TS.nmI).map V.int) (xs.map (·.2))
 |[],_=>.nil
 |x::r,h=>by obtain⟨⟨i,t,e⟩,e2⟩:=h x (Ap ..);refine .cons ⟨t,?_⟩ (rH fun y hy=>h y (Ag _ hy));show x.2=Value.int (TS.nmI x) t;rw[<-e2,e];unfold TS.nmI;rw[e]
section
def agr(X:Cx):List V->Hp->VK->Prop:=fun xs H Q=>∃(l:Addr) (ns:List Int),xs=[.ref l]/\wv X.K H l (ns.map V.int)/\ns.Nodup/\ns.length≤100000/\
 ∀(D:Addr) (ms:List Int),H D=none->ms.Perm ns->ms.Pairwise (fun a b:Int=>a≤b)->Q (.ref D) (upd H D (.lst (ms.map V.int)))
theorem sI:jk X (.builtin "sorted") (agr X):=by
 intro pins s σ H xs us Q I r h;obtain⟨l,ns,rfl,hl,hnd,hlen,q⟩:=h;obtain⟨u,rfl,ru⟩:=r.one;cases (show u=Value.ref l from ru);obtain⟨its,rv,pl,hz⟩:=I.list hl;have ia:=iZ rv;have l1:ns.length=its.length:=by have:=rv.length;rw[Ae] at this;exact this
 refine jr I.tk (TS.w_sortedI pl.isList (by rw[<-l1];exact hlen) (jN ia) (by rw[lE ia];exact hnd) fun h' tk ks D c hD hk hg pm pw ht=>?_);have mk:∀x∈ks,TS.IntV x.1/\x.1=x.2:=fun x hx=>by obtain⟨m1,m2⟩:=TS.mem_self_zip (pm.mem_iff.mp hx);exact⟨jN ia _ m1,m2⟩
 have pn:(ks.map TS.nmI).Perm ns:=by rw[<-lE ia];exact pm.map _
 refine⟨.ref D,_,I.laid (t':=tk) (o:=.lst ((ks.map TS.nmI).map V.int)) hk hD ⟨?_,ks.map (·.2),c,rH mk,hg⟩,rfl,q D _ (I.hok.fresh hD) pn (BP.mpr pw)⟩;rw[Ae,pn.length_eq,<-Ae (f:=V.int)];exact hz
end
end L2
namespace L3
open PySem L2
def rX(xs:List Y)(L:ql)(Q:YK):Prop:=match xs with
 |[.ref a]=>bE L a fun ys=>∃ns:List Int,ys=ns.map Y.int/\ns.Nodup/\ns.length≤100000/\∀(D:Addr) (ms:List Int),L D=none->ms.Perm ns->ms.Pairwise (fun a b:Int=>a≤b)->Q (.ref D) (qg L D (.lst (ms.map Y.int)))
 |_=>False
theorem uA{G:G3}{H:Hp}:∀{ns:List Int} {xs:List V},x6 G H (ns.map Y.int) xs->xs=ns.map V.int
 |[],_,h=>h
 |n::r,_,⟨x,xs',e,rx,s⟩=>by subst e;cases (show x=V.int n from rx);rw[uA s];rfl
theorem tQ{G:G3}{H:Hp}:∀ns:List Int,x6 G H (ns.map Y.int) (ns.map V.int)
 |[]=>rfl
 |n::r=>⟨_,_,rfl,rfl,tQ r⟩
theorem ad0 :jk X (.builtin "sorted") (zV X.g3 rX):=EU sI fun xs H Q ⟨ys,L,Q3,rv,rl,z,k⟩=>by
 unfold rX at z;split at z
 ·rename_i a;obtain⟨zs,e,ns,rfl,hnd,hlen,z⟩:=jy z;obtain⟨vs,e2,r⟩:=rl a _ e;obtain⟨u,rfl,ru⟩:=rv.inv1;cases (show u=V.ref a from ru);cases uA r;exact⟨a,ns,rfl,EW e2,hnd,hlen,fun D ms hD pm pw=>k _ _ _ _ (EG hD) (rl.newL hD (tQ ms)) (by rfl) (z D ms (rl.none hD) pm pw)⟩
 ·exact z.elim
open PySem L2 Words
def yQ:ww:=(xf (gG (yB (qc 0))) xV jp)
theorem iX(l:List Nat):nY l=(l.map fun n:Nat=>(n:Int)).map Y.int:=by unfold nY;rw[Bm];rfl
theorem sh{l:List Nat}(h:l.Nodup):(l.map fun n:Nat=>(n:Int)).Nodup:=fF (fun _ _ _ _ e=>BV.mp e) h
theorem xQ(n:Nat):(List.replicate n true).all id=true:=by induction n with|zero=>rfl|succ n ih=>rw[List.replicate_succ];exact ih
theorem ai0(n:Nat):(List.replicate n true).map Y.bl++[.bl true]=(List.replicate (n+1) true).map Y.bl:=by rw[List.replicate_succ',AG];rfl
structure KnS(wd:List (Option Kn)):Prop where
 ok:OkO wd
 there:aja wd
 pu:aeg wd
theorem gA{L:ql}:∀xs:List Int,Paired (jc L 0) (xs.map Y.int) (xs.map fun x=>Da.s (.int x))
 |[]=>.nil
 |_::r=>.cons ⟨rfl,rfl⟩ (gA r)
theorem ym(l:List Nat):Da.eqs ((l.map fun n:Nat=>(n:Int)).map fun x=>Da.s (.int x)) ((l.map fun n:Nat=>(n:Int)).map fun x=>Da.s (.int x))=true:=by rw[Bm];exact(iP l l).mpr rfl
theorem t9:∀l:List (Nat×Nat),Da.eqs (l.map xR) (l.map xR)=true
 |[]=>rfl
 |x::r=>by rw[AF,Da.eqs,adv,t9 r,AH rfl];rfl
theorem KW.ex{p:Nat}{w:Wd}(h:KW (kh wd) p w):∃k,wd[p]?=some (some k):=by cases w with|leaf t n=>exact⟨_,h.inv_lf⟩|node e l r=>obtain⟨i,j,a,_⟩:=h.inv_nd;exact⟨_,a⟩
def gE:x0:=fun ys L Q=>∃s:Str,ys=[.bl true,.str s]/\Q .non L
theorem ue:∀ys L Q,gE ys L Q->v3 yQ 2 ys L Q:=by rintro ys L Q ⟨s,rfl,q⟩;exact x8 q
def vz(ks:List Kn)(T:List Nat):List (Option Kn):=(List.range ks.length).map fun p=>if p∈T then ks[p]? else none
theorem ve(ks:List Kn)(T:List Nat):(vz ks T).length=ks.length:=by unfold vz;rw[Ae,BM]
theorem kK{T:List Nat}{p:Nat}(hp:p<ks.length):(vz ks T)[p]?=some (if p∈T then ks[p]? else none):=by unfold vz;rw[Aq,CK hp];rfl
theorem aw{T:List Nat}{p:Nat}{k:Kn}(hp:p∈T)(hk:ks[p]?=some k):(vz ks T)[p]?=some (some k):=by rw[kK (xt hk),AB hp,hk]
theorem dN{T:List Nat}{p:Nat}{k:Kn}(h:(vz ks T)[p]?=some (some k)):p∈T/\ks[p]?=some k:=by
 have hp:p<ks.length:=by rw[<-ve ks T];exact xt h
 rw[kK hp] at h;by_cases c:p∈T
 ·rw[AB c] at h;exact⟨c,A4 h⟩
 ·rw[Az c] at h;cases h
theorem adf{T:List Nat}(h:∀p,p<ks.length->p∈T):vz ks T=ks.map some:=by
 refine Dz fun p=>?_;by_cases c:p<ks.length
 ·rw[kK c,AB (h p c),Aq,Aj c];rfl
 ·rw[BS (by rw[ve];lia),BS (by rw[Ae];lia)]
theorem aam{l:List Nat}(at_:∀{p:Nat} {k:Kn},wd[p]?=some (some k)->p∈l/\ks[p]?=some k)(h:(lK ks l).Nodup):aeg wd:=by
 constructor
 ·intro p e i j hp;obtain⟨h2,h1⟩:=at_ hp;obtain⟨a,b,rfl⟩:=B4 h2;rw[fA,bK,h1] at h;have:=(Ao.mp (Ao.mp h).2.1).1;have:[i,j].Nodup:=this;simpa using this
 ·intro p q k m x hp hq hx hy;obtain⟨h2,h1⟩:=at_ hp;obtain⟨h4,h3⟩:=at_ hq;by_cases c:p=q
  ·exact c
  ·exfalso;obtain⟨a,b,rfl⟩:=B4 h2;have hm:q∈a++b:=by
    rcases Al.mp h4 with z | z
    ·exact Ar _ z
    ·rcases Av.mp z with z | z
     ·exact absurd z.symm c
     ·exact Af _ z
   have pm:(lK ks (a++p::b)).Perm (ju (some k)++lK ks (a++b)):=by rw[fA,bK,h1,fA];refine Cj.mpr fun z=>?_;simp only[CB];lia
   have n:=pm.nodup_iff.mp h;have hy':x∈lK ks (a++b):=A3.mpr ⟨q,hm,by rw[h3];exact hy⟩;exact(Ao.mp n).2.2 x hx x hy' rfl
section
variable {E:List Nat}
theorem aX.clos(T:aX ks R E){p:Nat}{e:Bool}(hp:p∈qk R)(hk:ks[p]?=some (.nd e i j)):i∈qk R/\j∈qk R:=by have m:∀x∈[i,j],x∈qk R:=fun x hx=>(T.sr.part T.nd).mem_iff.mp (Ar _ (A3.mpr ⟨p,hp,by rw[hk];exact hx⟩));exact⟨m i (Ap ..),m j (Ag _ (Ap ..))⟩
theorem aX.ex(T:aX ks R E){p:Nat}(hp:p∈qk R):∃k,(vz ks (qk R))[p]?=some (some k):=⟨_,aw hp (Aj (T.sr.lt p hp))⟩
theorem aX.knS(T:aX ks R E):KnS (vz ks (qk R)):=by
 refine⟨fun p e i j h=>?_,fun p e i j h=>?_,aam dN (Ao.mp ((T.sr.part T.nd).nodup_iff.mpr T.nd)).1⟩
 ·exact T.ok p _ (dN h).2
 ·obtain⟨h1,h2⟩:=dN h;obtain⟨a,b⟩:=T.clos h1 h2;exact⟨T.ex a,T.ex b⟩
theorem aX.prts(T:aX ks R E){x:Nat}:x∈vi (vz ks (qk R))↔x∈lK ks (qk R):=by
 constructor
 ·intro h;obtain⟨p,k,h1,h2⟩:=vD h;obtain⟨a,b⟩:=dN h1;exact A3.mpr ⟨p,a,by rw[b];exact h2⟩
 ·intro h;obtain⟨p,hp,hx⟩:=A3.mp h;have e:=Aj (T.sr.lt p hp);rw[e] at hx;exact wO (aw hp e) hx
theorem aX.ends(T:aX ks R E)(x:Nat):x∈E↔x∈qk R/\x∉vi (vz ks (qk R))/\x∉jj (zp R):=by
 have P:=T.sr.part T.nd;have N:=P.nodup_iff.mpr T.nd;obtain⟨N1,N2,N3⟩:=Ao.mp N;obtain⟨N4,N5,N6⟩:=Ao.mp N2;rw[T.prts];constructor
 ·intro h;exact⟨T.sr.sub x h,fun z=>N3 x z x (Af _ h) rfl,fun z=>N6 x z x h rfl⟩
 ·rintro⟨a,b,c⟩;rcases Al.mp (P.mem_iff.mpr a) with z | z
  ·exact absurd z b
  ·rcases Al.mp z with z | z
   ·exact absurd z c
   ·exact z
theorem aX.cut(T:aX ks R E){x:Nat}(h:x∈jj (zp R)):x∉vi (vz ks (qk R)):=fun z=>by have N:=(T.sr.part T.nd).nodup_iff.mpr T.nd;exact(Ao.mp N).2.2 x (T.prts.mp z) x (Ar _ h) rfl
theorem aX.word(T:aX ks R E):∀{w:Wd} {p:Nat},p∈qk R->cH ks p w->KW (kh (vz ks (qk R))) p w
 |.leaf t n,p,hp,h=>by
  have h:KW (kh (ks.map some)) p (.leaf t n):=by rw[vn];exact h
  exact KW.lf (aw hp (eX h.inv_lf))
 |.node e l r,p,hp,h=>by
  have h:KW (kh (ks.map some)) p (.node e l r):=by rw[vn];exact h
  obtain⟨i,j,a,b,c⟩:=h.inv_nd;have a:=eX a;obtain⟨hi,hj⟩:=T.clos hp a;rw[vn] at b c;exact KW.nd (aw hp a) (T.word hi b) (T.word hj c)
theorem aX.wdep(T:aX ks R E){w:Wd}{p:Nat}(h:KW (kh (vz ks (qk R))) p w):w.depth≤96:=by have:=KW.dep T.knS.ok h;obtain⟨k,e⟩:=h.ex;have:=xt e;rw[ve] at this;have:=T.len;lia
theorem SR.rls(h:SR ks R E):∀B∈jv R,(∃EB,SR ks B EB)/\(∀x∈qk B,x∈qk R)/\(qk B).Sublist (qk R)/\jt B≤jt R/\(∀c∈zp B,c∈zp R):=by
 induction h with
 |link h1 h2 h3 h4 h5=>
  intro B hB;cases Ak.mp hB;exact⟨⟨_,.link h1 h2 h3 h4 h5⟩,fun _ h=>h,C6 _,An _,fun _ h=>h⟩
 |@ei r i j A EA E h1 hA h3 h4 h5 h6 h7 ih=>
  intro B hB;rcases Av.mp hB with rfl | hB
  ·exact⟨⟨_,.ei h1 hA h3 h4 h5 h6 h7⟩,fun _ h=>h,C6 _,An _,fun _ h=>h⟩
  ·obtain⟨a,b,c,d,e⟩:=ih B hB;exact⟨a,fun x h=>Ag _ (b x h),c.cons _,Ca d,e⟩
 |@bo r i j A B EA EB E h1 hA hB h4 h5 h6 h7 ih1 ih2=>
  intro C hC;rcases Av.mp hC with rfl | hC
  ·exact⟨⟨_,.bo h1 hA hB h4 h5 h6 h7⟩,fun _ h=>h,C6 _,An _,fun _ h=>h⟩
  ·rcases Al.mp hC with hC | hC
   ·obtain⟨a,b,c,d,e⟩:=ih1 C hC;exact⟨a,fun x h=>Ag _ (Ar _ (b x h)),(c.trans (CP ..)).cons _,by show _≤max (jt A) (jt B)+1;lia,fun x h=>Ar _ (e x h)⟩
   ·obtain⟨a,b,c,d,e⟩:=ih2 C hC;exact⟨a,fun x h=>Ag _ (Af _ (b x h)),(c.trans (B6 ..)).cons _,by show _≤max (jt A) (jt B)+1;lia,fun x h=>Af _ (e x h)⟩
 |@cu p q A B EA EB E w hA hB h3 h4 h5 h6 h7 h8 ih1 ih2=>
  intro C hC;rcases Av.mp hC with rfl | hC
  ·exact⟨⟨_,.cu hA hB h3 h4 h5 h6 h7 h8⟩,fun _ h=>h,C6 _,An _,fun _ h=>h⟩
  ·rcases Al.mp hC with hC | hC
   ·obtain⟨a,b,c,d,e⟩:=ih1 C hC;exact⟨a,fun x h=>Ar _ (b x h),c.trans (CP ..),by show _≤max (jt A) (jt B)+1;lia,fun x h=>Ag _ (Ar _ (e x h))⟩
   ·obtain⟨a,b,c,d,e⟩:=ih2 C hC;exact⟨a,fun x h=>Af _ (b x h),c.trans (B6 ..),by show _≤max (jt A) (jt B)+1;lia,fun x h=>Ag _ (Af _ (e x h))⟩
theorem aX.inner(T:aX ks R E){B:Ru}(h:B∈jv R):∃EB,aX ks B EB:=by obtain⟨⟨EB,s⟩,_,sub,_⟩:=T.sr.rls B h;exact⟨EB,T.ok,s,sub.nodup T.nd,T.len⟩
theorem wz:∀{R A B:Ru},A∈jv R->B∈jv A->B∈jv R
 |.link p q,A,B,h1,h2=>by cases Ak.mp h1;exact h2
 |.ei r C,A,B,h1,h2=>by
  rcases Av.mp h1 with rfl | h1
  ·exact h2
  ·exact Ag _ (wz h1 h2)
 |.bo r C D,A,B,h1,h2=>by
  rcases Av.mp h1 with rfl | h1
  ·exact h2
  ·rcases Al.mp h1 with h1 | h1
   ·exact Ag _ (Ar _ (wz h1 h2))
   ·exact Ag _ (Af _ (wz h1 h2))
 |.cu p q C D,A,B,h1,h2=>by
  rcases Av.mp h1 with rfl | h1
  ·exact h2
  ·rcases Al.mp h1 with h1 | h1
   ·exact Ag _ (Ar _ (wz h1 h2))
   ·exact Ag _ (Af _ (wz h1 h2))
theorem cc(A:Ru):A∈jv A:=by rw[f7];exact Ap ..
theorem tV{A B:Ru}(h:B∈zj A):B∈jv A:=by rw[f7];exact Ag _ (A3.mpr ⟨B,h,cc B⟩)
end
open PySem L2 PyProof.Rows
end L3
namespace L2
open PySem PySem.Spec PyProof.Rows
section
theorem yu(neg:Bool)(hu:X.A.units+128<cLine):kq X (compareOp (if neg then .NotIn else .In)) (fun x y H Q=>∃a kvs k,y=.ref a/\H a=some (.dK kvs)/\x=kV k/\Q (.bl (if neg then !(aQ kvs k).isSome else(aQ kvs k).isSome)) H):=by intro pins s σ H x y v u Q I rx ry ⟨a,kvs,k,ey,e,ex,q⟩;subst ex ey;cases (show u=Value.ref a from ry);cases neg with|false=>exact ana (by omega) I (mz.k e) rx fun s' I'=>⟨.bl _,H,I',rfl,q⟩|true=>exact adr (by omega) I (mz.k e) rx fun s' I'=>⟨.bl _,H,I',rfl,q⟩
theorem o6:jk X (.builtin "len") (fun xs H Q=>∃a kvs,xs=[.ref a]/\H a=some (.dK kvs)/\Q (.int kvs.length) H):=by intro pins s σ H xs us Q I r ⟨a,kvs,ex,e,q⟩;subst ex;obtain⟨u,rfl,rx⟩:=kI r;cases rx;exact ajh I (.inl e) fun t s' I'=>⟨.int _,H,I',⟨t,rfl⟩,q⟩
def ae4(w:World)(r:Str×Tok×Int×Tok):DictEntry:=⟨hashStr w r.1,.str r.1 r.2.1,.int r.2.2.1 r.2.2.2⟩
theorem afu{K:Ai}{P:Program}{w:World}{c:Addr}{ep:Nat}(rows:List (Str×Tok×Int×Tok))(l:K.lookup c=some ⟨.type "dict",none,.dict (rows.map (ae4 w)).toArray ep,#[]⟩)(hs:(c==sysModules)=false)(hz:rows.length≤1000)(nd:(rows.map fun r=>(Sum.inr r.1:j3)).Nodup):
 KD K P w c (rows.map fun r=>(Sum.inr r.1,.int r.2.2.1)):=by
 refine⟨hs,by rw[Ae];exact small hz,fun h X=>⟨rows.map fun r=>(Sum.inr r.1,.int r.2.2.1 r.2.2.2),?_,_,_,ep,X c _ l,⟨rfl,rfl,rfl⟩,rfl,?_,?_,?_⟩⟩
 ·unfold KV;clear l hz nd
  induction rows with|nil=>exact .nil|cons r t ih=>exact .cons ⟨rfl,_,rfl⟩ ih
 ·intro e he;have he':e∈rows.map (ae4 w):=by simpa using he
  obtain⟨r,_,rfl⟩:=AX.mp he';exact⟨Sum.inr r.1,gU r.1 r.2.1,rfl⟩
 ·show Pairs _ (rows.map (ae4 w)).toArray.toList _;rw[List.toList_toArray];clear l hz nd
  induction rows with|nil=>exact .nil|cons r t ih=>exact .cons (gU r.1 r.2.1) rfl ih
 ·rw[Bm];exact nd
end
end L2
namespace L3
open PySem L2
theorem wX{xs:List (j3×V)}(p:Paired (fun(p:j3×Y) (q:j3×V)=>p.1=q.1/\RV G H p.2 q.2) kvs xs)(k:j3):(aQ xs k).isSome=(xm kvs k).isSome:=by
 unfold aQ xm;rw[Cy,Cy]
 induction p with
 |nil=>rfl
 |@cons a b _ _ r t ih=>
  rw[Bo,Bo,r.1];cases decide (b.1=k) with|true=>rfl|false=>exact ih
def lW(neg:Bool)(x y:Y)(L:ql)(Q:YK):Prop:=match y,act x with
 |.ref a,some k=>l7 L a fun kvs=>Q (.bl (nb neg (xm kvs k).isSome)) L
 |_,_=>False
theorem zE(neg:Bool)(hu:X.A.units+128<cLine):kq X (compareOp (if neg then .NotIn else .In)) (fq X.g3 (lW neg)):=EX (yu neg hu) fun x y H Q ⟨x3,y3,L,Q3,rx,ry,rl,z,k⟩=>by
 unfold lW at z;split at z
 ·rename_i a kk ek;obtain⟨kvs,e,z⟩:=dF z;obtain⟨xs,e2,pr⟩:=rl a _ e;refine⟨a,xs,kk,ry,e2,kH ek rx,?_⟩;have:(if neg=true then !(aQ xs kk).isSome else(aQ xs kk).isSome)=nb neg (xm kvs kk).isSome:=by rw[wX pr];cases neg<;>simp[nb]
  rw[this];exact k _ H _ L (EF _) rl (by rfl) z
 ·exact z.elim
theorem rK(hu:X.A.units+128<cLine):kq X (compareOp .In) (fq X.g3 (lW false)):=zE false hu
theorem ah0(hu:X.A.units+128<cLine):kq X (compareOp .NotIn) (fq X.g3 (lW true)):=zE true hu
def aaj(xs:List Y)(L:ql)(Q:YK):Prop:=match xs with
 |[.ref a]=>l7 L a fun kvs=>Q (.int kvs.length) L
 |_=>False
theorem afe :jk X (.builtin "len") (zV X.g3 aaj):=EU o6 fun xs H Q ⟨ys,L,Q3,rv,rl,z,k⟩=>by
 unfold aaj at z;split at z
 ·rename_i a;obtain⟨u,rfl,ru⟩:=rv.inv1;obtain⟨kvs,e,z⟩:=dF z;obtain⟨us,e2,pr⟩:=rl a _ e;cases (show u=V.ref a from ru);refine⟨a,us,rfl,e2,?_⟩;rw[<-fT pr];exact k _ H _ L (EF _) rl (by rfl) z
 ·exact z.elim
def se(xs:List Y)(L:ql)(Q:YK):Prop:=match xs with
 |[.ref a]=>bE L a fun ys=>Q (.tup ys) L
 |_=>False
theorem ac2 :jk X (.type "tuple") (zV X.g3 se):=EU lS fun xs H Q ⟨ys,L,Q3,rv,rl,z,k⟩=>by
 unfold se at z;split at z
 ·rename_i a;obtain⟨u,rfl,ru⟩:=rv.inv1;obtain⟨zs,e,z⟩:=jy z;obtain⟨us,e2,r⟩:=rl a _ e;cases (show u=V.ref a from ru);exact⟨a,us,rfl,.inl ⟨.inl (.inl e2),fun l hl=>k _ _ (.tup zs) L (EG hl) (rl.skip hl) ⟨l,us,rfl,.inl (.inl j4),r.ts (EG hl)⟩ z⟩⟩
 ·exact z.elim
structure ajl(G:G3)(mg:Str->Option Value)(x:Str)(kvs:List (Str×Int)):Prop where
 ex:∃a,mg x=some (.ref a)/\KD G.K G.P G.w a (kvs.map fun p=>(Sum.inr p.1,V.int p.2))
theorem pN{kvs:List (Str×Int)}{k:Str}{x:Int}(h:kvs.lookup k=some x):aQ (kvs.map fun p=>((Sum.inr p.1:j3),V.int p.2)) (Sum.inr k)=some (V.int x):=by
 induction kvs with
 |nil=>simp at h
 |cons p r ih=>
  obtain⟨a,b⟩:=p;unfold aQ;rw[AF,Bo];rw[Bs] at h;by_cases c:k=a
  ·subst c;simp at h;simp[h]
  ·have c1:(k==a)=false:=by simpa using c
   rw[c1] at h;have c2:decide ((Sum.inr a:j3)=Sum.inr k)=false:=Ax fun z=>c (Sum.inr.inj z).symm;simp only[c2];exact ih h
def sO(kvs:List (Str×Int))(ti:xx)(τ:jn)(L:ql)(Q:YK):Prop:=ti τ L fun y L1=>match y with
 |.str k=>tR L1 (fun i L=>Q (.int i) L) (kvs.lookup k)
 |_=>False
theorem qI{kvs:List (Str×Int)}{i:Expr}(t:ajl X.g3 X.mg x kvs)(hg:Gl X x)(hi:QE X i ti)(hp:iQ i)(hd:Ef x:=by decide):QE X (.Subscript (.Name x p) i pos) (sO kvs ti):=by
 obtain⟨a,hm,kd⟩:=t.ex;refine EH (ael ajx (tw hg hm (show zk (.ref a) (.ref a) from rfl) hd) hi hp) fun σ H Q ⟨τ,L,Q3,rs,rl,z,k⟩=>?_;refine⟨τ,L,_,rs,rl,z,fun v H1 y L1 t1 rl1 rv1 z1=>?_⟩;split at z1
 ·rename_i kk;obtain⟨j,ej,q⟩:=iW z1;cases (show v=V.str kk from rv1);exact⟨_,_,.inr kd,pN ej,k _ H1 _ L1 t1 rl1 (by rfl) q⟩
 ·exact z1.elim
open PySem L2 Words
def aM:List (Str×Int):=[("link",2),("either",1),("both",1),("cut",2)]
def oq:ww:=(jm (eM bZ (qe (ySl xD (qc 0) (cV (jo 1)) (cV (zm w5 (jo 1) (sO aM (jw 0 0))))) z0)))
def uh:ww:=(jm (eM bZ (qe (ySl xD (qc 0) (cV (zm w5 (jo 1) (sO aM (jw 0 0)))) al) z0)))
def tF(p0:x0)(p1:x0):ww:=(qt (j5 (v5 (wu (qc 0))) (qh 1))
 (qt (eI (k7 (za p0 (wu (qc 0)))) (qh 2) (js (aq dJ (qc 1) (qe (za p1 (wu (qc 2))) z0))))
 (jm (qc 1))))
def vU(p0:x0):ww:=(jm (yIf (eJ (jw 0 0) (dW "cut")) (v5 z0) (za p0 (wu (qc 0)))))
def sC(p0:x0):ww:=(qt (xf (eJ (jw 1 0) (dW "link")) (jm (v5 z0)) jp)
 (qt (xf (eJ (jw 1 0) (dW "cut")) (jm (v5 (qe (v5 (wu (jw 1 1))) (qe (v5 (wu (jw 1 2))) z0)))) jp)
 (qt (j5 (za p0 (qe (zm cX (qc 0) (jw 1 1)) z0)) (qh 2))
 (qt (xf (eJ (jw 1 0) (dW "either")) (jm (v5 (wu (qc 2)))) jp)
 (jm (rS 1 (k7 (qc 2)) (qh 3) xW (v5 (wu (qc 3)))))))))
def wJ(p0:x0)(p1:x0)(p2:x0)(p3:x0)(p4:x0):ww:=(qt (j5 (za p0 (wu (qc 1))) (qh 2))
 (qt (eI (aed (qe (za p2 (wu (qc 1))) (qe (za p1 (aY (qc 0) (qc 1))) z0))) (cT 2 (jg (qh 3) (jg (qh 4) bN))) (qt (j5 (za p3 (aY (qc 0) (qc 3))) (qh 5))
 (qt (js (za p4 (qe (eM agf (qe (rS 1 (k7 (qc 4)) (qh 6) xW (zm (oR false) (qc 6) (qc 5))) z0)) (wu (dW "a rule takes what is no end of its arm")))))
 (js (aq dJ (qc 2) (qe (rS 1 (k7 (qc 5)) (qh 6) (yB (zm (oR true) (qc 6) (qc 4))) (qc 6)) z0))))))
 (jm (qc 2))))
def rC(p0:x0):ww:=(jm (eM rX (qe (za p0 (aY (jw 0 0) (jw 0 1))) z0)))
def plR:Ru->List Nat
 |.link p q=>[p,q]
 |.ei r _=>[r]
 |.bo r _ _=>[r]
 |.cu p q _ _=>[p,q]
def oP:x0:=fun ys L Q=>∃A:Ru,ys=[qm A]/\∀p,L p=none->Q (.ref p) (qg L p (.lst (nY (plR A))))
theorem adw:∀ys L Q,oP ys L Q->v3 oq 1 ys L Q:=by
 rintro ys L Q ⟨A,rfl,q⟩;cases A with
 |link a b=>exact⟨fun z=>absurd z.1 (by show ¬1=0;decide),fun p hp=>x8 (q p hp)⟩
 |ei r A=>exact⟨fun z=>absurd z.1 (by show ¬1=0;decide),fun p hp=>x8 (q p hp)⟩
 |bo r A B=>exact⟨fun z=>absurd z.1 (by show ¬1=0;decide),fun p hp=>x8 (q p hp)⟩
 |cu a b A B=>exact⟨fun z=>absurd z.1 (by show ¬1=0;decide),fun p hp=>x8 (q p hp)⟩
def bH:x0:=fun ys L Q=>∃A:Ru,ys=[qm A]/\∀p,L p=none->Q (.ref p) (qg L p (.lst ((zj A).map qm)))
theorem uw:∀ys L Q,bH ys L Q->v3 uh 1 ys L Q:=by
 rintro ys L Q ⟨A,rfl,q⟩;cases A with
 |link a b=>exact⟨fun z=>absurd z.1 (by show ¬3=0;decide),fun p hp=>x8 (q p hp)⟩
 |ei r A=>exact⟨fun z=>absurd z.1 (by show ¬2=0;decide),fun p hp=>x8 (q p hp)⟩
 |bo r A B=>exact⟨fun z=>absurd z.1 (by show ¬2=0;decide),fun p hp=>x8 (q p hp)⟩
 |cu a b A B=>exact⟨fun z=>absurd z.1 (by show ¬3=0;decide),fun p hp=>x8 (q p hp)⟩
def fk:x0:=fun ys L Q=>∃A:Ru,ys=[qm A]/\∀p,L p=none->Q (.ref p) (qg L p (.lst (nY (dY A))))
theorem vQ:∀ys L Q,fk ys L Q->v3 (vU oP) 1 ys L Q:=by
 rintro ys L Q ⟨A,rfl,q⟩;cases A with
 |link a b=>exact⟨_,rfl,fun p hp=>x8 (q p hp)⟩
 |ei r A=>exact⟨_,rfl,fun p hp=>x8 (q p hp)⟩
 |bo r A B=>exact⟨_,rfl,fun p hp=>x8 (q p hp)⟩
 |cu a b A B=>exact fun p hp=>x8 (q p hp)
def aa(n:Nat):x0:=fun ys L Q=>∃A:Ru,ys=[qm A]/\jt A≤n/\bC A≤1000/\∀p,L p=none->Q (.ref p) (qg L p (.lst ((jv A).map qm)))
theorem ip(A:Ru):0<jt A:=by cases A<;>simp[jt]
theorem aav:∀ys L Q,¬aa 0 ys L Q:=by rintro ys L Q ⟨A,_,h,_⟩;have:=ip A;lia
theorem abj{A B:Ru}(h:B∈zj A):bC B<bC A:=by
 cases A with
 |link p q=>cases h
 |ei r C=>cases Ak.mp h;exact BU _
 |bo r C D=>
  have:bC (.bo r C D)=bC C+bC D+1:=rfl;rcases Av.mp h with rfl | h
  ·lia
  ·cases Ak.mp h;lia
 |cu p q C D=>
  have:bC (.cu p q C D)=bC C+bC D+1:=rfl;rcases Av.mp h with rfl | h
  ·lia
  ·cases Ak.mp h;lia
theorem sg(n:Nat):∀ys L Q,aa (n+1) ys L Q->v3 (tF bH (aa n)) 3 ys L Q:=by
 rintro ys L Q ⟨A,rfl,hd,hz,q⟩;have big:=bg_;intro l hl;refine⟨A,rfl,fun pa hpa=>?_⟩;have nlp:l≠pa:=w6 q9 hpa;have hpa0:L pa=none:=ji hpa;have s0:qj L (qg (qg L l (.lst [qm A])) pa (.lst ((zj A).map qm))):=(By hl).trans (By hpa);have sz:∀i,(((zj A).take i).flatMap jv).length≤1000:=fun i=>by
  have e:=BR List.length (f7 A);rw[au] at e;have h2:(((zj A).take i).flatMap jv).length+(((zj A).drop i).flatMap jv).length=((zj A).flatMap jv).length:=by rw[<-Ac,<-AA,Be]
  simp only[AK] at e;lia
 refine xo q9 fun keep kp=>vf ⟨fun i τ L'=>∃c2,τ=[some (qm A),some (.ref l),c2]/\qj L L'/\L' l=some (.lst ((A::((zj A).take i).flatMap jv).map qm))/\L' pa=some (.lst ((zj A).map qm)),⟨_,rfl,s0,(qb nlp).trans q9,q9⟩,?_,?_,?_⟩
 ·rintro i τ L' ⟨c2,rfl,s,g,g2⟩;exact kp L' (by rw[g2,q9])
 ·rintro i y τ L' hy ⟨c2,rfl,s,g,g2⟩;rw[Aq] at hy;obtain⟨B,eB,rfl⟩:=Ay.mp hy;have mB:=AO eB;have et:(zj A).take (i+1)=(zj A).take i++[B]:=by rw[Bi,eB];rfl
  have zB:=abj mB;have dB:=aC mB;have zi:=sz i;refine qd g ⟨B,rfl,by lia,by lia,fun p hp=>?_⟩;have np:l≠p:=w6 g hp;have npa:pa≠p:=w6 g2 hp;refine qw ((qb np).trans g) (qw q9 ⟨?_,?_⟩)
  ·rw[Ae,Ae,AK,au];exact BH (big _ (by lia))
  ·refine⟨_,EE _,_,rfl,(s.trans (By hp)).upd hl,?_,(qb (AM nlp)).trans ((qb npa).trans g2)⟩;rw[q9,et,AA,Cs,<-AG];rfl
 ·rintro τ L' ⟨c2,rfl,s,g,_⟩;rw[Ae,Bt,<-f7] at g;exact cD (EY s g) (q l hl)
def Agr(ks:List Kn)(wd:List (Option Kn))(A:Ru):Prop:=∀x∈qk A,∀k,ks[x]?=some k->wd[x]?=some (some k)
theorem Agr.arm{A B:Ru}(h:Agr ks wd A)(hB:B∈zj A):Agr ks wd B:=fun x hx=>h x (by rw[gc];exact Af _ (A3.mpr ⟨B,hB,hx⟩))
def mn:x0:=fun ys L Q=>∃a,∃wd:List (Option Kn),∃ks:List Kn,∃A:Ru,∃E:List Nat,ys=[.ref a,qm A]/\L a=some (.lst (kh wd))/\SR ks A E/\Agr ks wd A/\
 ∀p rs L',qj L L'->L p=none->L' p=some (.lst (rs.map Y.ref))->Paired (fun r t=>L r=none/\L' r=some (.lst (nY t))) rs (i9 ks A)->Q (.ref p) L'
theorem abe:∀ys L Q,mn ys L Q->v3 (sC jH) 3 ys L Q:=by
 rintro ys L Q ⟨a,wd,ks,A,E,rfl,ha,sr,ag,q⟩;cases sr with
 |link=>exact fun p hp=>x8 (q p [] _ (By hp) hp q9 .nil)
 |@cu u v A B EA EB _ w hA hB h3 h4=>
  intro p1 h1 p2 h2 p3 h3;have n12:p1≠p2:=w6 q9 h2;have n13:p1≠p3:=w6 ((qb n12).trans q9) h3;have n23:p2≠p3:=w6 q9 h3;exact x8 (q p3 [p1,p2] _ (((By h1).trans (By h2)).trans (By h3)) (ji (ji h3)) q9 (.cons ⟨h1,(qb n13).trans ((qb n12).trans q9)⟩ (.cons ⟨ji h2,(qb n23).trans q9⟩ .nil)))
 |@ei r i j A EA _ h1=>
  refine qd ha (qp (km (ag r (Ap ..) _ h1)) ⟨some (.nd true i j),rfl,fun p1 g1=>?_⟩);intro p2 g2;have n12:p1≠p2:=w6 q9 g2;refine x8 (q p2 [p1] _ ((By g1).trans (By g2)) (ji g2) q9 ?_);show Paired _ [p1] [ju ks[r]?];rw[h1];exact .cons ⟨g1,(qb n12).trans q9⟩ .nil
 |@bo r i j A B EA EB _ h1=>
  refine qd ha (qp (km (ag r (Ap ..) _ h1)) ⟨some (.nd false i j),rfl,fun p1 g1=>?_⟩);have s1:qj L (qg L p1 (.lst (nY [i,j]))):=By g1;refine xo q9 fun keep kp=>aa5 ⟨show 2<sizeLine by decide,fun m zs L'=>∃rs,zs=rs.map Y.ref/\qj (qg L p1 (.lst (nY [i,j]))) L'/\Paired (fun r t=>L r=none/\L' r=some (.lst (nY t))) rs (([i,j].map fun x=>[x]).take m),⟨[],rfl,EE _,.nil⟩,?_,?_,?_⟩
  ·rintro m zs L' ⟨rs,_,s,_⟩;exact kp L' (by rw[q9];exact s _ _ q9)
  ·rintro m y zs L' hy ⟨rs,rfl,s,pr⟩;obtain⟨x,ex,rfl⟩:=kR hy;have ex:[i,j][m]?=some x:=ex;intro p2 g2;refine⟨_,EE _,rs++[p2],by rw[AG];rfl,s.trans (By g2),?_⟩;have et:([i,j].map fun x=>[x]).take (m+1)=([i,j].map fun x=>[x]).take m++[[x]]:=by rw[Bi,Aq,ex];rfl
   rw[et];exact gi (EI pr fun b t hb=>⟨hb.1,(qb (w6 hb.2 g2)).trans hb.2⟩) ⟨s1.none (s.none g2),q9⟩
  ·rintro zs L' ⟨rs,rfl,s,pr⟩ p3 g3;refine x8 (q p3 rs _ ((s1.trans s).trans (By g3)) (s1.none (s.none g3)) q9 ?_);show Paired _ rs ((ju ks[r]?).map fun x=>[x]);rw[h1];exact EI pr fun b t hb=>⟨hb.1,(qb (w6 hb.2 g3)).trans hb.2⟩
theorem wY{A:Ru}:∀t∈i9 ks A,t.length≤2:=by
 intro t ht;cases A with
 |link p q=>cases ht
 |ei r A=>rw[Ak.mp ht];exact vZ _
 |bo r A B=>obtain⟨x,_,rfl⟩:=AX.mp ht;exact BW 1
 |cu p q A B=>
  rcases Av.mp ht with rfl | ht
  ·exact BW 1
  ·rw[Ak.mp ht];exact BW 1
theorem kC{A:Ru}{E:List Nat}(sr:SR ks A E)(nd:(qk A).Nodup):(xi ks A).length≤(qk A).length:=by have:=(sr.part nd).length_eq;rw[Ac,Ac] at this;rw[(nO sr nd).length_eq];lia
theorem yh{A B:Ru}(h:B∈zj A):(qk B).Sublist (qk A):=by rw[gc A];refine List.Sublist.trans ?_ (B6 ..);obtain⟨a,b,e⟩:=B4 h;rw[e,AA,A1];exact(CP ..).trans (B6 ..)
def Kp(l:Addr)(L L':ql):Prop:=∀b o,b≠l->L b=some o->L' b=some o
theorem Kp.new{p:Addr}{o:LO}(h:Kp l L L')(hp:L' p=none):Kp l L (qg L' p o):=fun b u hb e=>(qb (w6 (h b u hb e) hp)).trans (h b u hb e)
theorem Kp.upd{o:LO}(h:Kp l L L'):Kp l L (qg L' l o):=fun b u hb e=>(qb hb).trans (h b u hb e)
def bP(n:Nat):x0:=fun ys L Q=>∃a,∃wd:List (Option Kn),∃ks:List Kn,∃A:Ru,∃E:List Nat,ys=[.ref a,qm A]/\L a=some (.lst (kh wd))/\SR ks A E/\Agr ks wd A/\(qk A).Nodup/\(qk A).length≤1000/\jt A≤n/\
 ∀p,L p=none->Q (.ref p) (qg L p (.lst (nY (xi ks A))))
theorem wN:∀ys L Q,¬bP 0 ys L Q:=by rintro ys L Q ⟨a,wd,ks,A,E,_,_,_,_,_,_,h,_⟩;have:=ip A;lia
theorem vI(n:Nat):∀ys L Q,bP (n+1) ys L Q->v3 (wJ fk mn bH (bP n) gE) 6 ys L Q:=by
 rintro ys L Q ⟨a,wd,ks,A,E,rfl,ha,sr,ag,nd,tl,hd,q⟩;have big:=bg_;refine⟨A,rfl,fun l hl=>⟨A,rfl,fun pa hpa=>?_⟩⟩;have nlp:pa≠l:=AM (w6 q9 hpa);have nal:a≠l:=w6 ha hl;have sa:qj L (qg (qg L l (.lst (nY (dY A)))) pa (.lst ((zj A).map qm))):=(By hl).trans (By hpa);refine⟨a,wd,ks,A,E,rfl,sa _ _ ha,sr,ag,fun pt rs L1 s1 hpt gt pr=>?_⟩;have gl:L1 l=some (.lst (nY (dY A))):=s1 _ _ ((qb (AM nlp)).trans q9);have gp:L1 pa=some (.lst ((zj A).map qm)):=s1 _ _ q9;have ga:L1 a=some (.lst (kh wd)):=s1 _ _ (sa _ _ ha);have ntl:pt≠l:=fun z=>by rw[z] at hpt;rw[(qb (AM nlp)).trans q9] at hpt;cases hpt
 obtain⟨Z,eZ⟩:∃Z,Z=((zj A).map (xi ks)).zip (i9 ks A):=⟨_,rfl⟩;have eF:xi ks A=dY A++Z.flatMap je:=by rw[eZ];exact wH ks A
 have zl:∀i,(dY A++(Z.take i).flatMap je).length≤1000:=fun i=>by
  have h1:=kC sr nd;have h2:((Z.take i).flatMap je).length+((Z.drop i).flatMap je).length=(Z.flatMap je).length:=by rw[<-Ac,<-AA,Be]
  rw[eF,Ac] at h1;rw[Ac];lia
 refine qd gp (qd gt (ade (fun i τ L'=>∃c3 c4 c5,τ=[some (.ref a),some (qm A),some (.ref l),c3,c4,c5]/\Kp l L1 L'/\L' l=some (.lst (nY (dY A++(Z.take i).flatMap je)))) ⟨_,_,_,rfl,fun _ _ _ h=>h,by rw[List.take_zero,De,AQ];exact gl⟩ (fun i τ L' ⟨_,_,_,_,k,_⟩=>⟨by show L' pa=_;rw[k _ _ nlp gp,gp],by show L' pt=_;rw[k _ _ ntl gt,gt]⟩) ?_ ?_))
 ·rintro i x y τ L' ex ey ⟨c3,c4,c5,rfl,k,g⟩;rw[Aq] at ex ey;obtain⟨B,eB,rfl⟩:=Ay.mp ex;obtain⟨r,er,rfl⟩:=Ay.mp ey;obtain⟨t,et,hr0,gr⟩:=Paired.getP pr er;obtain⟨EB,sB,sub⟩:=EL sr.arms eB et;have mB:=AO eB;have tB:=yh mB;have nB:=tB.nodup nd;have lB:=tB.length_le;have dB:=aC mB;have nrl:r≠l:=fun z=>by rw[z,(qb (AM nlp)).trans q9] at hr0;cases hr0
  have FB:=nO sB nB;have FL:=kC sB nB;have tl2:=wY t (AO et);have ei:Z.take (i+1)=Z.take i++[(xi ks B,t)]:=by
   have:Z[i]?=some (xi ks B,t):=by rw[eZ,Dw];exact⟨by rw[Aq,eB];rfl,et⟩
   rw[Bi,this];rfl
  have zi:=zl i;have zi1:=zl (i+1);refine⟨a,wd,ks,B,EB,rfl,k _ _ nal ga,sB,ag.arm mB,nB,by lia,by lia,fun p5 h5=>?_⟩;have k5:Kp l L1 (qg L' p5 (.lst (nY (xi ks B)))):=k.new h5;have g5:qg L' p5 (.lst (nY (xi ks B))) l=some (.lst (nY (dY A++(Z.take i).flatMap je))):=(qb (w6 g h5)).trans g;have e5:qg L' p5 (.lst (nY (xi ks B))) p5=some (.lst (nY (xi ks B))):=q9;generalize qg L' p5 (.lst (nY (xi ks B)))=L5 at k5 g5 e5 ⊢;refine xo (k5 _ _ nrl gr) fun keep kp=>cf (fun i zs=>zs=(List.replicate i true).map Y.bl) (by rw[aK];exact big _ (by lia)) (kp _ rfl) rfl ?_ ?_
  ·rintro j y zs hy rfl;obtain⟨m,em,rfl⟩:=kR hy;refine qd e5 ⟨rfl,tS _,?_⟩;rw[tf,AH (FB.mem_iff.mpr (sub m (AO em)))];exact⟨_,EE _,rfl,ai0 j⟩
  rintro zs rfl p6 h6;refine⟨rfl,qd q9 (qp (yc _) ?_)⟩;rw[xQ];refine⟨_,rfl,?_⟩;have k6:=k5.new (o:=.lst ((List.replicate (nY t).length true).map Y.bl)) h6;have g6:=(qb (o:=.lst ((List.replicate (nY t).length true).map Y.bl)) (w6 g5 h6)).trans g5;have e6:=(qb (o:=.lst ((List.replicate (nY t).length true).map Y.bl)) (w6 e5 h6)).trans e5;generalize qg L5 p6 (.lst ((List.replicate (nY t).length true).map Y.bl))=L6 at k6 g6 e6 ⊢;refine qd g6 (xo e6 fun keep kp=>cf (fun i zs=>zs=nY (je ((xi ks B).take i,t))) (by rw[aK];exact big _ (by lia)) (kp _ rfl) rfl ?_ ?_)
  ·rintro j y zs hy rfl;obtain⟨m,em,rfl⟩:=kR hy;have e2:je ((xi ks B).take (j+1),t)=je ((xi ks B).take j,t)++je ([m],t):=by unfold je;rw[Bi,em,<-BE];rfl
   refine qd (k6 _ _ nrl gr) ⟨rfl,tS _,?_⟩;rw[tf];by_cases c:m∈t
   ·refine xj (by rw[AH c];rfl) ⟨_,EE _,rfl,?_⟩;have e3:je ([m],t)=[]:=by unfold je;rw[Bl,Az (by rw[AH c];decide)];rfl
    rw[e2,e3,AQ]
   ·refine gM (by rw[Ax c];rfl) ⟨_,EE _,rfl,?_⟩;have e3:je ([m],t)=[m]:=by unfold je;rw[Bl,AB (by rw[Ax c];rfl)];rfl
    rw[e2,e3,i3];rfl
  rintro zs rfl p7 h7;rw[aK,Bt];refine qw ((qb (w6 g6 h7)).trans g6) (qw q9 ⟨?_,?_⟩)
  ·rw[ei,AA,<-AD,Ac,Cs] at zi1;rw[aK,aK];exact BH (big _ (by lia))
  ·refine⟨_,EE _,_,_,_,rfl,(k6.new h7).upd,?_⟩;rw[q9,ei,AA,Cs,<-AD,i3 (dY A++_)]
 ·rintro τ L' ⟨c3,c4,c5,rfl,k,g⟩;have lz:Z.take (min ((zj A).map qm).length (rs.map Y.ref).length)=Z:=by refine AZ ?_;have h1:=fT pr;have h2:=fT sr.arms;rw[eZ,B8,Ae,Ae,Ae];lia
  rw[lz,<-eF] at g;refine cD (EY (fun b o e=>?_) g) (q l hl);exact k b o (w6 e hl) (s1 _ _ (sa _ _ e))
theorem ye{T:List Nat}(hT:∀x∈T,x<ks.length){x:Nat}:x∈jZ (vz ks T)↔x∈T:=by
 constructor
 ·intro h;obtain⟨_,k,e,hb⟩:=t8 h;cases k with
  |none=>cases hb
  |some k=>exact(dN e).1
 ·intro h;have hl:=hT x h;exact yR (aw h (Aj hl)) rfl (by rw[ve];exact hl)
theorem wD{E:List Nat}(T:aX ks R E):(jZ (vz ks (qk R))).length=(qk R).length:=by refine((AJ ?_ T.nd).mpr fun x=>ye fun x hx=>T.sr.lt x hx).length_eq;unfold jZ mE;exact BL.filter _
theorem yS{k:j3}(h:(xm kvs k).isSome=false):fb kvs k y=kvs++[(k,y)]:=by unfold fb;rw[kM,h,Az AC]
structure TkI(tk:List Nat)(kvs:List (j3×Y)):Prop where
 val:∀x:Nat,(xm kvs (.inl (x:Int))).isSome=decide (x∈tk)
 len:kvs.length=tk.length
theorem TkI.put(h:TkI tk kvs){x:Nat}(hx:x∉tk)(y:Y):TkI (tk++[x]) (fb kvs (.inl (x:Int)) y):=by
 refine⟨fun z=>?_,?_⟩
 ·rw[kW];by_cases e:z=x
  ·subst e;rw[AB rfl,AH (Af _ (Ak.mpr rfl))];rfl
  ·rw[Az (fun q=>e (BV.mp (Sum.inl.inj q))),h.val];refine Df.mpr ⟨fun q=>Ar _ q,fun q=>?_⟩;rcases Al.mp q with q | q
   ·exact q
   ·exact absurd (Ak.mp q) e
 ·rw[yS (by rw[h.val,Ax hx]),Ac,h.len,Ac];rfl
structure StI(A:Ru)(tk:List Nat)(st:List Ru):Prop where
 pt:(tk++st.flatMap qk).Perm (qk A)
 sz:(st.map bC).sum≤bC A
 dp:∀B∈st,jt B≤jt A
theorem StI.start(A:Ru):StI A [] [A]:=⟨by simp,by simp,fun B hB=>by rw[Ak.mp hB];exact An _⟩
theorem StI.step{A B:Ru}{st:List Ru}(h:StI A tk (st++[B])):StI A (tk++dY B) (st++zj B):=by
 refine⟨?_,?_,fun C hC=>?_⟩
 ·refine List.Perm.trans ?_ h.pt;rw[AA,AA];have:[B].flatMap qk=dY B++(zj B).flatMap qk:=by rw[<-gc];simp
  rw[this];refine Cj.mpr fun z=>?_;simp only[CB];lia
 ·have:=h.sz;have:=iz B;simp at *;lia
 ·rcases Al.mp hC with hC | hC
  ·exact h.dp C (Ar _ hC)
  ·have:=aC hC;have:=h.dp B (Af _ (Ak.mpr rfl));lia
theorem StI.lt{A B:Ru}{tk:List Nat}{st:List Ru}:((st.map bC).sum+((zj B).map bC).sum)<((st++[B]).map bC).sum:=by have:=iz B;simp;lia
theorem ah7(ks:List Kn)(A:Ru):Agr ks (vz ks (qk A)) A:=fun _ hx _ hk=>aw hx hk
theorem aX.small{A:Ru}{E:List Nat}(T:aX ks A E):(qk A).length≤96:=by
 have:=wD T;have h2:=acq aat (vz ks (qk A)) (vz ks (qk A)).length;rw[ve] at h2;have:(jZ (vz ks (qk A))).length≤ks.length:=by unfold jZ;rw[ve];exact h2
 have:=T.len;lia
def jT:x0:=fun ys L Q=>∃a,∃ks:List Kn,∃A:Ru,∃E:List Nat,ys=[.tup [.ref a,qm A]]/\L a=some (.lst (kh (vz ks (qk A))))/\aX ks A E/\∀D F,L D=none->F.Perm E->F.Pairwise (fun a b:Nat=>a<b)->Q (.ref D) (qg L D (.lst (nY F)))
theorem aby{ms:List Int}{l:List Nat}(h:ms.Perm (l.map fun n:Nat=>(n:Int))):∃F:List Nat,F.Perm l/\ms=F.map fun n:Nat=>(n:Int):=by
 refine⟨ms.map Int.toNat,?_,?_⟩
 ·have:=h.map Int.toNat;rw[Bm] at this;have e:(l.map (Int.toNat∘fun n:Nat=>(n:Int)))=l:=by rw[show(Int.toNat∘fun n:Nat=>(n:Int))=id from funext fun n=>BA n,List.map_id]
  rw[e] at this;exact this
 ·rw[Bm];refine(List.map_id ms).symm.trans (Cg fun x hx=>?_);obtain⟨n,_,rfl⟩:=AX.mp (h.mem_iff.mp hx);show((n:Nat):Int)=((((n:Nat):Int).toNat:Nat):Int);rw[BA]
theorem aap:∀ys L Q,jT ys L Q->v3 (rC (bP 120)) 1 ys L Q:=by rintro ys L Q ⟨a,ks,A,E,rfl,ha,T,q⟩;have tl:=T.small;have rd:=xr A;have P:=nO T.sr T.nd;have fl:=kC T.sr T.nd;refine⟨a,_,ks,A,E,rfl,ha,T.sr,ah7 ks A,T.nd,by lia,by lia,fun p4 h4=>?_⟩;refine qw q9 ⟨_,iX _,sh (P.nodup_iff.mpr T.sr.nod),by rw[Ae];lia,fun D ms hD pm pw=>?_⟩;obtain⟨F,pF,rfl⟩:=aby pm;have nF:F.Nodup:=(pF.trans P).nodup_iff.mpr T.sr.nod;rw[<-iX];have hD0:=ji hD;refine cD (EY ((By h4).trans (By hD)) q9) (q D F hD0 (pF.trans P) ?_);have pw:F.Pairwise fun a b:Nat=>a≤b:=(BP.mp pw).imp fun h=>Int.ofNat_le.mp h;exact(pw.and nF).imp fun h=>Nat.lt_of_le_of_ne h.1 h.2
def pZ:ww:=(qt (xf (eJ (jw 0 0) (dW "cut")) (jm (v5 (aY (jw 0 3) (jw 0 4)))) jp)
 (qt (xf (eJ (jw 0 0) (dW "link")) (jm (v5 z0)) jp)
 (jm (eM bZ (qe (ySl xD (qc 0) (cV (jo 2)) al) z0)))))
def iM(p0:x0):ww:=(qt (j5 (wf (qe (v5 z0) (qe (v5 z0) (qe mC (qe (v5 (wu (qc 0))) z0))))) (cT 4 (jg (qh 1) (jg (qh 2) (jg (qh 3) (jg (qh 4) bN))))))
 (qt (mf (yX (qc 4) (v5 z0)) (qt (j5 (aq yg (qc 4) z0) (qh 5))
 (jK (xf (eJ (jw 5 0) (dW "link")) (qt (js (aq j8 (qc 1) (qe (rdT (jw 5 1) (jw 5 2)) z0)))
 (qt (a6 (qc 3) (jw 5 1) (yC (.bl true)))
 (a6 (qc 3) (jw 5 2) (yC (.bl true))))) (xf (eJ (jw 5 0) (dW "cut")) (js (aq j8 (qc 2) (qe (rdT (jw 5 1) (jw 5 2)) z0))) (a6 (qc 3) (jw 5 1) (yC (.bl true)))))
 (js (aq dJ (qc 4) (qe (za p0 (wu (qc 5))) z0))))))
 (jm (wf (qe (qc 1) (aY (qc 2) (qc 3)))))))
def qE:ww:=(qt (j5 mC (qh 2))
 (qt (eI (k7 (qc 0)) (qh 3) (xf (l8 (yB (dr true (qc 3))) (eJ (bB 3) (jo 3))) (qt (a6 (qc 2) (jw 3 1) (yC (.bl true)))
 (a6 (qc 2) (jw 3 2) (yC (.bl true)))) jp))
 (qt (eI (k7 (qc 1)) (cT 2 (jg (qh 4) (jg (qh 5) bN))) (qt (a6 (qc 2) (qc 4) (yC (.bl true)))
 (a6 (qc 2) (qc 5) (yC (.bl true)))))
 (aan 4 (jm (rS 1 (dq (wu (bB 0))) (qh 6) (l8 (yB (dr true (zm cX (qc 0) (qc 6)))) (yB (zm (lW true) (qc 6) (qc 2)))) (qc 6)))))))
def lL(p0:x0):ww:=(qt (mf (l8 (yX (za p0 (wu (qc 0))) (v5 z0)) (yB (zm yGt (zm wm (qc 1) (jo 5)) (jo 0)))) (qt (j5 (za p0 (wu (qc 0))) (qh 2))
 (qt (j5 (zm cX (qc 2) (zm wm (zm ar (qc 1) (jo 5)) (bB 2))) (qh 0))
 (j5 (zm wm (zm sk (qc 1) (jo 48271)) (jo 2147483647)) (qh 1)))))
 (jm (qc 0)))
def f9:x0:=bH
theorem xK:∀ys L Q,f9 ys L Q->v3 pZ 1 ys L Q:=by
 rintro ys L Q ⟨A,rfl,q⟩;cases A with
 |link a b=>exact fun p hp=>x8 (q p hp)
 |ei r A=>exact⟨fun z=>absurd z.1 (by show ¬2=0;decide),fun p hp=>x8 (q p hp)⟩
 |bo r A B=>exact⟨fun z=>absurd z.1 (by show ¬2=0;decide),fun p hp=>x8 (q p hp)⟩
 |cu a b A B=>exact fun p hp=>x8 (q p hp)
structure mO(us:List Nat)(kvs:List (j3×Y)):Prop where
 val:∀x:Nat,(xm kvs (.inl (x:Int))).isSome=decide (x∈us)
 len:kvs.length≤us.length
theorem mO.nil:mO [] []:=⟨fun _=>rfl,An _⟩
theorem mO.put{us:List Nat}(h:mO us kvs)(x:Nat)(y:Y):mO (us++[x]) (fb kvs (.inl (x:Int)) y):=by
 refine⟨fun z=>?_,?_⟩
 ·rw[kW];by_cases e:z=x
  ·subst e;rw[AB rfl,AH (Af _ (Ak.mpr rfl))];rfl
  ·rw[Az (fun q=>e (BV.mp (Sum.inl.inj q))),h.val];refine Df.mpr ⟨fun q=>Ar _ q,fun q=>?_⟩;rcases Al.mp q with q | q
   ·exact q
   ·exact absurd (Ak.mp q) e
 ·have:=qJ kvs (.inl (x:Int)) y;have:=h.len;rw[Ac];show _≤us.length+1;lia
def iV:x0:=fun ys L Q=>∃R:Ru,ys=[qm R]/\(qk R).length≤96/\
 ∀la ca ta lk ct kvs L',qj L L'->L la=none->L ca=none->L ta=none->L' la=some (.lst (xp lk))->L' ca=some (.lst (xp ct))->L' ta=some (.dct kvs)->lk.Perm (zd R)->ct.Perm (zp R)->(∀x:Nat,(xm kvs (.inl (x:Int))).isSome=decide (x∈qk R))->Q (.tup [.ref la,.ref ca,.ref ta]) L'
theorem xw:∀R:Ru,(zd R).length+(zp R).length≤bC R
 |.link _ _=>An _
 |.ei _ A=>Ca (xw A)
 |.bo _ A B=>by have:=xw A;have:=xw B;show(zd A++zd B).length+(zp A++zp B).length≤bC A+bC B+1;rw[Ac,Ac];lia
 |.cu _ _ A B=>by have:=xw A;have:=xw B;show(zd A++zd B).length+((zp A++zp B).length+1)≤bC A+bC B+1;rw[Ac,Ac];lia
theorem ace:∀ys L Q,iV ys L Q->v3 (iM f9) 6 ys L Q:=by
 rintro ys L Q ⟨R,rfl,tl,q⟩;have big:=bg_;have rd:=xr R;have rz:=vj R;have rp:=xw R;intro la hla ca hca ta hta sa hsa;have nlc:la≠ca:=w6 q9 hca;have nct:ca≠ta:=w6 q9 hta;have nlt:la≠ta:=w6 ((qb nlc).trans q9) hta;have nts:ta≠sa:=w6 q9 hsa;have ncs:ca≠sa:=w6 ((qb nct).trans q9) hsa;have nls:la≠sa:=w6 ((qb nlt).trans ((qb nlc).trans q9)) hsa;have hca0:L ca=none:=ji hca;have hta0:L ta=none:=ji (ji hta);have hsa0:L sa=none:=ji (ji (ji hsa));have S0:qj L (qg (qg (qg (qg L la (.lst [])) ca (.lst [])) ta (.dct [])) sa (.lst [qm R])):=(((By hla).trans (By hca)).trans (By hta)).trans (By hsa);refine⟨fun m τ L'=>∃lk ct kvs us st c5,τ=[some (qm R),some (.ref la),some (.ref ca),some (.ref ta),some (.ref sa),c5]/\qj L L'/\L' la=some (.lst (xp lk))/\L' ca=some (.lst (xp ct))/\L' ta=some (.dct kvs)/\L' sa=some (.lst (st.map qm))/\gy R lk ct st/\mO us kvs/\StI R us st/\m=(st.map bC).sum,⟨_,[],[],[],[],[R],_,rfl,S0,(qb nls).trans ((qb nlt).trans ((qb nlc).trans q9)),(qb ncs).trans ((qb nct).trans q9),(qb nts).trans q9,q9,gy.start R,mO.nil,StI.start R,rfl⟩,?_⟩;rintro m τ L' ⟨lk,ct,kvs,us,st,c5,rfl,s,h1,h2,h3,h4,T,U,I,rfl⟩;intro p hp;refine ai (n:=120) (m:=0) (by decide) (By hp _ _ h4) q9 (dz fun A hA=>AW (T.dp A hA) (by lia)) (.nil:Paired (jc _ 0) _ []) ?_;have s2:qj L (qg L' p (.lst [])):=s.trans (By hp);replace h1:=(qb (o:=.lst []) (w6 h1 hp)).trans h1;replace h2:=(qb (o:=.lst []) (w6 h2 hp)).trans h2;replace h3:=(qb (o:=.lst []) (w6 h3 hp)).trans h3;replace h4:=(qb (o:=.lst []) (w6 h4 hp)).trans h4;generalize qg L' p (.lst [])=L2 at s2 h1 h2 h3 h4 ⊢;show aE (!(Da.eqs (st.map bA) [])) _ _;rw[oY];have kl:=U.len;have pl:=I.pt.length_eq;have l1:=T.pl.length_eq;have l2:=T.pc.length_eq;rw[Ac] at pl l1 l2;rcases List.eq_nil_or_concat st with rfl | ⟨rO,A,rfl⟩
 ·refine xj rfl ?_;refine x8 (q la ca ta lk ct kvs L2 s2 hla hca0 hta0 h1 h2 h3 (by have:=T.pl;simpa using this) (by have:=T.pc;simpa using this) fun x=>?_);rw[U.val];exact Df.mpr (by have:=I.pt.mem_iff (a:=x);simpa using this)
 ·rw[List.concat_eq_append] at *;rw[Ax (by simp)];refine gM rfl ⟨fun τ' L'=>∃m',m'<((rO++[A]).map bC).sum/\∃lk ct kvs us st c5,τ'=[some (qm R),some (.ref la),some (.ref ca),some (.ref ta),some (.ref sa),c5]/\qj L L'/\L' la=some (.lst (xp lk))/\L' ca=some (.lst (xp ct))/\L' ta=some (.dct kvs)/\L' sa=some (.lst (st.map qm))/\gy R lk ct st/\mO us kvs/\StI R us st/\m'=(st.map bC).sum,fun τ' L' h=>h,?_⟩;rw[AG] at h4;refine ah4 h4 ?_;have s3:qj L (qg L2 sa (.lst (rO.map qm))):=s2.upd hsa0;replace h1:=(qb (o:=.lst (rO.map qm)) nls).trans h1;replace h2:=(qb (o:=.lst (rO.map qm)) ncs).trans h2;replace h3:=(qb (o:=.lst (rO.map qm)) nts).trans h3;clear h4;have h4:qg L2 sa (.lst (rO.map qm)) sa=some (.lst (rO.map qm)):=q9;generalize qg L2 sa (.lst (rO.map qm))=L3 at s3 h1 h2 h3 h4 ⊢;refine⟨fun τ' L3=>∃kvs,τ'=[some (qm R),some (.ref la),some (.ref ca),some (.ref ta),some (.ref sa),some (qm A)]/\qj L L3/\L3 la=some (.lst (xp (lk++iJ A)))/\L3 ca=some (.lst (xp (ct++iI A)))/\L3 ta=some (.dct kvs)/\L3 sa=some (.lst (rO.map qm))/\mO (us++dY A) kvs,?_,?_⟩
  ·cases A with
   |link p0 q0=>
    refine qd h1 (qw h1 ⟨by rw[Ae];exact big _ (by lia),?_⟩);refine zn ((qb (AM nlt)).trans h3) ⟨big _ (by lia),?_⟩;have U1:=U.put p0 (.bl true);have k1:=U1.len;rw[Ac] at k1;refine zn q9 ⟨big _ (by simp at k1;lia),?_⟩;have U2:=U1.put q0 (.bl true);rw[jx];refine⟨_,rfl,(s3.upd hla).upd hta0,?_,?_,q9,?_,by rw[AD] at U2;exact U2⟩
    ·rw[qb nlt,q9];exact BR (fun l=>some (LO.lst l)) (fv lk (p0,q0))
    ·rw[qb nct,qb (AM nlc),h2];simp[iI]
    ·rw[qb (AM nts),qb (AM nls)];exact h4
   |ei r0 A0=>
    refine zn h3 ⟨big _ (by lia),?_⟩;exact⟨_,rfl,s3.upd hta0,by rw[qb nlt,h1];simp[iJ],by rw[qb nct,h2];simp[iI],q9,by rw[qb (AM nts)];exact h4,U.put r0 (.bl true)⟩
   |bo r0 A0 B0=>
    refine zn h3 ⟨big _ (by lia),?_⟩;exact⟨_,rfl,s3.upd hta0,by rw[qb nlt,h1];simp[iJ],by rw[qb nct,h2];simp[iI],q9,by rw[qb (AM nts)];exact h4,U.put r0 (.bl true)⟩
   |cu p0 q0 A0 B0=>
    refine qd h2 (qw h2 ⟨by rw[Ae];exact big _ (by lia),?_⟩);exact⟨kvs,rfl,s3.upd hca0,by rw[qb nlc,h1];simp[iJ],by rw[q9];exact BR (fun l=>some (LO.lst l)) (fv ct (p0,q0)),by rw[qb (AM nct)];exact h3,by rw[qb (AM ncs)];exact h4,by rw[show dY (.cu p0 q0 A0 B0)=[] from rfl,AQ];exact U⟩
  ·rintro τ' L4 ⟨kvs',rfl,s4,g1,g2,g3,g4,U'⟩;refine qd g4 ⟨A,rfl,fun p8 h8=>?_⟩;refine qw ((qb (w6 g4 h8)).trans g4) (qw q9 ⟨?_,?_⟩)
   ·have h1:=I.step.sz;have len:∀l:List Ru,l.length≤(l.map bC).sum:=fun l=>by induction l with|nil=>exact An _|cons x r ih=>have:=ab4 x;simp;lia
    have h3:=len (rO++zj A);rw[Ac] at h3;rw[Ae,Ae];exact BH (big _ (by lia))
   ·exact⟨_,EE _,_,StI.lt (tk:=us) (A:=R),_,_,kvs',us++dY A,rO++zj A,_,rfl,(s4.trans (By h8)).upd hsa0,(qb nls).trans ((qb (w6 g1 h8)).trans g1),(qb ncs).trans ((qb (w6 g2 h8)).trans g2),(qb nts).trans ((qb (w6 g3 h8)).trans g3),by rw[q9,AG],T.step,U',I.step,by rw[AG,List.sum_append]⟩
theorem eh{k:Option Kn}(h:wd[i]?=some k):fg (kh wd) (0+(i:Int))=some (l9 k):=by rw[Cr];exact km h
def my:x0:=fun ys L Q=>∃a c,∃wd:List (Option Kn),∃ct:List (Nat×Nat),ys=[.ref a,.ref c]/\L a=some (.lst (kh wd))/\L c=some (.lst (xp ct))/\wd.length≤1000/\ct.length≤1000/\∀p,L p=none->Q (.ref p) (qg L p (.lst (nY (wy wd (aF wd ct) wd.length))))
theorem abo:∀ys L Q,my ys L Q->v3 qE 6 ys L Q:=by
 rintro ys L Q ⟨wa,ca,wd,ct,rfl,e1,e3,wl,cl,q⟩;have big:=bg_;intro us hus;have s2:qj L (qg L us (.dct [])):=By hus;refine xo (s2 _ _ e1) fun keep kp=>vf ⟨fun i τ L'=>∃kvs c3 c4 c5,τ=[some (.ref wa),some (.ref ca),some (.ref us),c3,c4,c5]/\qj L L'/\L' us=some (.dct kvs)/\mO (vi (wd.take i)) kvs,⟨[],_,_,_,rfl,s2,q9,mO.nil⟩,?_,?_,?_⟩
 ·rintro i τ L' ⟨kvs,c3,c4,c5,rfl,s,_⟩;exact kp L' (by rw[s _ _ e1,s2 _ _ e1])
 ·rintro i y τ L' hy ⟨kvs,c3,c4,c5,rfl,s,g,U⟩;rw[Aq] at hy;obtain⟨k,ek,rfl⟩:=Ay.mp hy;have et:wd.take (i+1)=wd.take i++[k]:=by rw[Bi,ek];rfl
  have pl:=dI (wd.take i);rw[AN] at pl;have ul:=U.len;have stay:ju k=[]->mO (vi (wd.take (i+1))) kvs:=fun h=>by rw[et,cB,h,AQ];exact U
  cases k with
  |none=>exact⟨_,EE _,_,_,_,_,rfl,s,g,stay rfl⟩
  |some k=>
   cases k with
   |lf t n=>exact⟨_,EE _,_,_,_,_,rfl,s,g,stay rfl⟩
   |nd e i' j'=>
    refine zn g ⟨big _ (by lia),?_⟩;have U1:=U.put i' (.bl true);have k1:=U1.len;rw[Ac] at k1;refine zn q9 ⟨big _ (by simp at k1;lia),?_⟩;have U2:=U1.put j' (.bl true);rw[jx];exact⟨_,EE _,_,_,_,_,rfl,s.upd hus,q9,by rw[et,cB];rw[AD] at U2;exact U2⟩
 rintro τ L2 ⟨kvs,c3,c4,c5,rfl,s3,g,U⟩;rw[Ae,Bt] at U;have pl:=dI wd;have pcl:=bR ct;refine xo (s3 _ _ e3) fun keep kp=>vf ⟨fun i τ L'=>∃kvs c4 c5,τ=[some (.ref wa),some (.ref ca),some (.ref us),c3,c4,c5]/\qj L L'/\L' us=some (.dct kvs)/\mO (vi wd++jj (ct.take i)) kvs,⟨_,_,_,rfl,s3,g,by show mO (vi wd++[]) _;rw[AQ];exact U⟩,?_,?_,?_⟩
 ·rintro i τ L' ⟨kvs,c4,c5,rfl,s,_⟩;exact kp L' (by rw[s _ _ e3,s3 _ _ e3])
 ·rintro i y τ L' hy ⟨kvs,c4,c5,rfl,s,g,U⟩;rw[Aq] at hy;obtain⟨pr,ep,rfl⟩:=Ay.mp hy;have et:ct.take (i+1)=ct.take i++[pr]:=by rw[Bi,ep];rfl
  have pt:=bR (ct.take i);rw[AN] at pt;have ul:=U.len;rw[Ac] at ul;refine zn g ⟨big _ (by lia),?_⟩;have U1:=U.put pr.1 (.bl true);have k1:=U1.len;rw[Ac,Ac] at k1;refine zn q9 ⟨big _ (by simp at k1;lia),?_⟩;have U2:=U1.put pr.2 (.bl true);rw[jx];exact⟨_,EE _,_,_,_,rfl,s.upd hus,q9,by rw[et,ke,bO,<-AD];rw[AD (_++_)] at U2;exact U2⟩
 rintro τ L3 ⟨kvs,c4',c5',rfl,s4,g,U⟩;rw[Ae,Bt] at U;have U:mO (aF wd ct) kvs:=U;have k1:=s4 _ _ e1;have lw:(kh wd).length=wd.length:=Ae ..;refine qd k1 ⟨⟨A7 _,by rw[lw];omega⟩,?_⟩;rw[lw,BA];refine oA (fun i zs=>zs=nY (wy wd (aF wd ct) i)) (big _ (by lia)) rfl ?_ ?_
 ·rintro i zs hi rfl;obtain⟨k,ek⟩:∃k,wd[i]?=some k:=⟨_,Aj hi⟩;have no:gu wd (aF wd ct) i=false->bX (fun zs L'=>L'=L3/\zs=nY (wy wd (aF wd ct) (i+1))) (nY (wy wd (aF wd ct) i)) L3:=fun h=>⟨L3,EE _,rfl,by rw[iw,Az (by rw[h];exact AC),AQ]⟩;have yes:gu wd (aF wd ct) i=true->bX (fun zs L'=>L'=L3/\zs=nY (wy wd (aF wd ct) (i+1))) (nY (wy wd (aF wd ct) i)++[.int (0+(i:Int))]) L3:=fun h=>⟨L3,EE _,rfl,by rw[iw,AB h,i3,Cr];rfl⟩;refine qd k1 (qp (eh ek) ?_);cases k with
  |none=>exact no (by unfold gu fG;rw[ek];rfl)
  |some k=>
   have key:l7 L3 us fun kvs=>aE (nb true (xm kvs (.inl (0+(i:Int)))).isSome) (bX (fun zs L'=>L'=L3/\zs=nY (wy wd (aF wd ct) (i+1))) (nY (wy wd (aF wd ct) i)++[.int (0+(i:Int))]) L3) (bX (fun zs L'=>L'=L3/\zs=nY (wy wd (aF wd ct) (i+1))) (nY (wy wd (aF wd ct) i)) L3):=by
    refine zn g ?_;rw[show(Sum.inl (0+(i:Int)):j3)=.inl (i:Int) by rw[Cr],U.val];by_cases cu:i∈aF wd ct
    ·exact xj (by rw[AH cu];rfl) (no (by unfold gu fG;rw[ek,AH cu];rfl))
    ·exact gM (by rw[Ax cu];rfl) (yes (by unfold gu fG;rw[ek,Ax cu];rfl))
   cases k with|lf t n=>exact key|nd e i' j'=>exact key
 ·rintro zs rfl p hp;exact cD (EY (s4.trans (By hp)) q9) (q p (s4.none hp))
def gK:x0:=fun ys L Q=>∃R:Ru,∃n:Int,ys=[qm R,.int n]/\(qk R).length≤96/\∀B∈jv R,Q (qm B) L
theorem wA:∀ys L Q,gK ys L Q->v3 (lL f9) 3 ys L Q:=by
 rintro ys L Q ⟨R,n,rfl,tl,q⟩;have rd:=xr R;refine⟨fun m τ L'=>∃B n c2,τ=[some (qm B),some (.int n),c2]/\qj L L'/\B∈jv R/\jt B≤jt R/\m=jt B,⟨_,R,n,_,rfl,EE _,cc R,An _,rfl⟩,?_⟩;rintro m τ L' ⟨B,n,c2,rfl,s,hB,dB,rfl⟩;refine⟨B,rfl,fun p1 h1=>?_⟩;intro p2 h2;have s2:qj L (qg (qg L' p1 (.lst ((zj B).map qm))) p2 (.lst [])):=(s.trans (By h1)).trans (By h2);refine ai (n:=120) (m:=0) (by decide) (By h2 _ _ q9) q9 (dz fun A hA=>by have:=aC hA;lia) (.nil:Paired (jc _ 0) _ []) ?_;generalize qg (qg L' p1 (.lst ((zj B).map qm))) p2 (.lst [])=L2 at s2 ⊢;show aE (!(Da.eqs ((zj B).map bA) [])) _ _;rw[oY];by_cases c:zj B=[]
 ·refine xj (by rw[AH c];rfl) ?_;exact xj rfl (cD s2 (q B hB))
 ·refine gM (by rw[Ax c];rfl) ⟨(show(0:Int)<5 by decide),?_⟩;refine x5 (fun c5=>?_) fun c5=>cD s2 (q B hB);refine⟨fun τ' L'=>∃m',m'<jt B/\∃B n c2,τ'=[some (qm B),some (.int n),c2]/\qj L L'/\B∈jv R/\jt B≤jt R/\m'=jt B,fun _ _ h=>h,?_⟩;refine⟨B,rfl,fun p3 h3=>?_⟩;have hl:0<(zj B).length:=List.length_pos_iff.mpr c;obtain⟨j,A,ej,lj,eA⟩:=jL hl (n / 5);have mA:=AO eA;have dA:=aC mA;have lm:((zj B).map qm).length=(zj B).length:=Ae ..;refine⟨⟨by decide,by decide⟩,qd q9 ⟨(by show(0:Int)<(((zj B).map qm).length:Int);rw[lm];lia),qd q9 (qp (v:=qm A) (by show fg ((zj B).map qm) (n / 5 % (((zj B).map qm).length:Int))=_;rw[lm,ej];exact km eA) ?_)⟩⟩;exact⟨.inr ⟨by decide,by decide⟩,(show(0:Int)<2147483647 by decide),_,EE _,jt A,dA,A,_,_,rfl,s2.trans (By h3),wz hB (tV mA),by lia,rfl⟩
def yn(Pt:Addr)(p0:x0):ww:=(qt (j5 (v5 z0) (qh 2))
 (qt (eI (rY (qc 0)) (cT 2 (jg (qh 3) (jg (qh 4) bN))) (qt (j5 (zm wm (za p0 (qe (qc 1) (aY (qc 3) (jo 39373)))) (jo 40)) (qh 5))
 (jK (xf (eJ (bB 4) (jo 3)) (j5 (zm w5 (zm w5 (qc 5) (jo 1)) (eM ae1 (qe (zm cX (qc 2) (jw 4 1)) (qe (zm cX (qc 2) (jw 4 2)) z0)))) (qh 5)) jp)
 (js (aq j8 (qc 2) (wu (qc 5)))))))
 (jm (zQ Pt lamQ 2 (qC (bB 0))))))
def oD(p0:x0):ww:=(qt (xf (eJ (jw 0 0) (dW "link")) (jm (wf (qe (dW "link") (qe (eM ag3 (qe (hG (qc 1) (jw 0 1)) (qe (hG (qc 1) (jw 0 2)) z0))) (qe (eM ae1 (qe (hG (qc 1) (jw 0 1)) (qe (hG (qc 1) (jw 0 2)) z0))) z0))))) jp)
 (qt (j5 (rS 1 (tU (ySl xD (qc 0) (cV (jo 1)) al)) (qh 3) (yB (eO .int (qc 3))) (hG (qc 1) (qc 3))) (qh 2))
 (jm (eM se (qe (zm w5 (zm w5 (v5 (wu (jw 0 0))) (qc 2)) (rS 1 (tU (ySl xD (qc 0) (cV (jo 1)) al)) (qh 3) (yB (eO .tuple (qc 3))) (za p0 (aY (qc 3) (qc 1))))) z0)))))
def kB(p0:x0)(p1:x0):ww:=(qt (j5 mC (qh 3))
 (qt (j5 (v5 z0) (qh 4))
 (qt (eI (k7 (za p0 (aY (qc 0) (qc 2)))) (qh 5) (qt (a6 (qc 3) (qc 5) (bB 4))
 (qt (j5 (zm cX (qc 0) (qc 5)) (qh 6))
 (js (aq j8 (qc 4) (qe (yIf (eJ (bB 6) (jo 2)) (qc 6) (wf (qe (jw 6 0) (qe (hG (qc 3) (jw 6 1)) (qe (hG (qc 3) (jw 6 2)) z0))))) z0))))))
 (jm (wf (qe (qc 4) (qe (za p1 (aY (qc 1) (qc 3))) z0)))))))
def gJ(Pt:Addr):x0:=fun ys L Q=>∃a,∃ks:List Kn,∃s:Int,ys=[.ref a,.int s]/\L a=some (.lst (zw ks))/\OkO (ks.map some)/\ks.length≤1000/\L Pt=some (.tb lamQ)/\
 ∀D qs,L D=none->qs.Perm (List.range (ks.map some).length)->cL (ks.map some) qs->Q (.ref D) (qg L D (.lst (nY qs)))
theorem xC :∀ys L Q,gJ Pt ys L Q->v3 (yn Pt oN) 6 ys L Q:=by
 rintro ys L Q ⟨a,ks0,s,rfl,ha,ok,hz,hP,q⟩;obtain⟨ks,eks⟩:∃ks,ks=ks0.map some:=⟨_,rfl⟩;rw[<-vn,<-eks] at ha;rw[<-eks] at ok q;have hz:ks.length≤1000:=by rw[eks,Ae];exact hz
 have all:∀i,ks[i]?≠some none:=fun i e=>by rw[eks,Aq] at e;obtain⟨_,_,z⟩:=Ay.mp e;cases z
 have big:=bg_;intro kk hkk;have s0:qj L (qg L kk (.lst [])):=By hkk;have nak:a≠kk:=w6 ha hkk;refine xo (s0 _ _ ha) fun keep kp=>vf ⟨fun i τ L'=>∃rks:List Int,∃c3 c4 c5,τ=[some (Y.ref a),some (.int s),some (Y.ref kk),c3,c4,c5]/\L'=qg L kk (.lst (rks.map Y.int))/\rks.length=i/\vN ks rks,⟨[],_,_,_,rfl,rfl,rfl,fun p _ _ _ hp=>by cases hp⟩,?_,?_,?_⟩
 ·rintro i τ L' ⟨rks,c3,c4,c5,rfl,rfl,_⟩;exact kp _ (by rw[qb nak,qb nak])
 ·rintro i y τ L' hy ⟨rks,c3,c4,c5,rfl,rfl,hl,hrk⟩;obtain⟨z,ez,rfl⟩:=qG hy;rw[Aq] at ez;obtain⟨k,ek,rfl⟩:=Ay.mp ez;have hi:=xt ek;refine⟨s,i,39373,rfl,by exact A7 _,by omega,by decide,by decide,fun v h0 h1=>?_⟩;have m0:(0:Int)≤v % 40:=DV _ (by decide);have lens:(rks.map Y.int).length=i:=by rw[Ae];exact hl
  refine⟨show(0:Int)<40 by decide,fun τ' L'=>∃r:Int,τ'=[some (Y.ref a),some (.int s),some (Y.ref kk),some (.int (i:Nat)),some (l9 k),some (.int r)]/\L'=qg L kk (.lst (rks.map Y.int))/\∀e i j,k=some (.nd e i j)->rks.getD i 0<r/\rks.getD j 0<r,?_,?_⟩
  ·cases k with
   |none=>exact absurd ek (all i)
   |some k=>
    cases k with
    |lf t n=>exact⟨v % 40,rfl,rfl,fun e i j z=>by cases z⟩
    |nd e p1 p2=>
     obtain⟨l1,l2⟩:=ok _ _ _ _ ek;have g1:=kn (o5 (rks:=rks) (i:=p1) (by lia));have g2:=kn (o5 (rks:=rks) (i:=p2) (by lia));refine qd q9 (qp g1 ?_);refine qd q9 (qp g2 ?_);refine⟨v % 40+1+max (rks.getD p1 0) (rks.getD p2 0),rfl,rfl,fun e' i' j' z=>?_⟩;cases z;have a1:rks.getD p1 0≤max (rks.getD p1 0) (rks.getD p2 0):=Int.le_max_left ..;have a2:rks.getD p2 0≤max (rks.getD p1 0) (rks.getD p2 0):=Int.le_max_right ..;constructor<;>lia
  ·rintro τ' L' ⟨r,rfl,rfl,hr⟩;refine qd q9 (qw q9 ⟨by rw[lens];exact big _ (by lia),?_⟩);refine⟨_,EE _,rks++[r],_,_,_,rfl,?_,by rw[Ac,hl];rfl,vN.snoc ok hrk (by rw[hl];exact ek) hr⟩;rw[jx,AG];rfl
 ·rintro τ L' ⟨rks,c3,c4,c5,rfl,rfl,hl,hrk⟩;rw[wI,Ae] at hl;have s1:qj L (qg L kk (.lst (rks.map Y.int))):=By hkk;refine qd (s1 _ _ ha) ?_;have lo:(kh ks).length=ks.length:=Ae ..;refine⟨⟨A7 _,by rw[lo];lia⟩,fun p hp=>qw q9 ?_⟩;have npk:kk≠p:=w6 q9 hp;have npP:Pt≠p:=w6 (s1 _ _ hP) hp;have nkP:Pt≠kk:=w6 hP hkk;refine⟨ks.length,rks,kk,by rw[BA,lo],rfl,(qb npk).trans q9,hl,hz,(qb npP).trans ((qb nkP).trans hP),fun D qs hD pm pw=>?_⟩;have hD1:=ji hD;have hD2:=ji hD1;refine⟨qg L D (.lst (nY qs)),fun b o e=>?_,q D qs hD2 pm (aa9 ok hrk hl pw)⟩;by_cases c:b=D
  ·subst c;rw[q9] at e ⊢;exact e
  ·rw[qb c] at e ⊢;rw[qb (fun z=>by subst z;rw[ji hp] at e;cases e),qb (fun z=>by subst z;rw[hkk] at e;cases e)];exact e
theorem qN(y:Y)(l:List Y):lQ (y::l) (some 1) none=l:=by
 unfold lQ;have e:HT.sIx (y::l).length 0 (some 1)=1:=by show min 1 (l.length+1)=1;lia
 rw[e];show(l.take (l.length+1 - 1))=l;rw[Nat.add_sub_cancel,Bt]
theorem uY(y:Y)(l:List Y):¬(HT.sIx (y::l).length 0 (some 1)=0/\HT.sIx (y::l).length (y::l).length none=(y::l).length):=fun z=>by
 have e:HT.sIx (y::l).length 0 (some 1)=1:=by show min 1 (l.length+1)=1;lia
 rw[e] at z;exact absurd z.1 (by decide)
def kdR:Ru->Str
 |.link _ _ => "link"
 |.ei _ _ => "either"
 |.bo _ _ _ => "both"
 |.cu _ _ _ _ => "cut"
theorem oU(A:Ru):qm A=.tup (.str (kdR A)::(nY (plR A)++(zj A).map qm)):=by cases A<;>rfl
def bF(n:Nat):x0:=fun ys L Q=>∃R:Ru,∃d,∃kvs:List (j3×Y),∃f:Nat->Nat,ys=[qm R,.ref d]/\L d=some (.dct kvs)/\(∀B∈jv R,∀x∈plR B,xm kvs (.inl (x:Int))=some (.int ((f x:Nat):Int)))/\jt R≤n/\Q (qm (mL f R)) L
theorem yJ:∀ys L Q,¬bF 0 ys L Q:=by rintro ys L Q ⟨A,_,_,_,_,_,_,h,_⟩;have:=ip A;lia
theorem uP{P:List Nat}{As:List Ru}(h:(nY P++As.map qm)[i]?=some y):(i<P.length/\∃x,P[i]?=some x/\y=.int (x:Int))\/(P.length≤i/\∃B,As[i - P.length]?=some B/\y=qm B):=by
 by_cases c:i<P.length
 ·rw[AE (by rw[aK];exact c)] at h;exact .inl ⟨c,kR h⟩
 ·rw[Au (by rw[aK];lia),aK,Aq] at h;obtain⟨B,e,z⟩:=Ay.mp h;exact .inr ⟨by lia,B,e,z.symm⟩
theorem aa3(n:Nat):∀ys L Q,bF (n+1) ys L Q->v3 (oD (bF n)) 3 ys L Q:=by
 rintro ys L Q ⟨R,d,kvs,f,rfl,hd,hv,hr,q⟩;have big:=bg_;by_cases hlk:∃a b,R=.link a b
 ·obtain⟨a,b,rfl⟩:=hlk;have v1:=hv _ (cc _) a (Ap ..);have v2:=hv _ (cc _) b (Ag _ (Ap ..));refine zn hd (qp v1 ?_);refine zn hd (qp v2 ?_);refine zn hd (qp v1 ?_);refine zn hd (qp v2 ?_);refine x8 ?_;have e1:min ((f a:Nat):Int) ((f b:Nat):Int)=((min (f a) (f b):Nat):Int):=ao2 _ _;have e2:max ((f a:Nat):Int) ((f b:Nat):Int)=((max (f a) (f b):Nat):Int):=amo _ _;have q:Q (.tup [.str "link",.int ((min (f a) (f b):Nat):Int),.int ((max (f a) (f b):Nat):Int)]) L:=q;rw[<-e1,<-e2] at q;exact q
 have hk:kdR R ≠ "link" := by cases R with|link a b=>exact absurd ⟨a,b,rfl⟩ hlk|ei r A=>show(Str.ofString "either") ≠ "link";decide +kernel|bo r A B=>show(Str.ofString "both") ≠ "link";decide +kernel|cu p s A B=>show(Str.ofString "cut") ≠ "link";decide +kernel
 have q2:Q (.tup ([.str (kdR R)]++nY ((plR R).map f)++(zj R).map fun B=>qm (mL f B))) L:=by cases R with|link a b=>exact absurd ⟨a,b,rfl⟩ hlk|ei r A=>exact q|bo r A B=>exact q|cu p s A B=>exact q
 have vp:∀x∈plR R,xm kvs (.inl (x:Int))=some (.int ((f x:Nat):Int)):=hv R (cc R);have va:∀B∈zj R,jt B≤n/\∀C∈jv B,∀x∈plR C,xm kvs (.inl (x:Int))=some (.int ((f x:Nat):Int)):=fun B hB=>⟨by have:=aC hB;lia,fun C hC=>hv C (wz (tV hB) hC)⟩;have lp:(plR R).length≤2:=by cases R<;>simp[plR]
 have lA:(zj R).length≤2:=by cases R<;>simp[zj]
 rw[oU R];generalize plR R=P at vp q2 lp;generalize zj R=As at va q2 lA;generalize kdR R=kd at hk q2;clear q hv hlk hr;have e0:fg (Y.str kd::(nY P++As.map qm)) 0=some (Y.str kd):=kn (xs:=Y.str kd::(nY P++As.map qm)) (j:=0) rfl;have ll:(nY P++As.map qm).length=P.length+As.length:=by rw[Ac,aK,Ae]
 walk_at "w";rw[e0];refine xj (Ax hk) ?_;refine⟨uY _ _,?_⟩;rw[qN];refine cf (fun i zs=>zs=nY ((P.take i).map f)) (by rw[ll];exact big _ (by lia)) trivial rfl ?_ ?_
 ·rintro i y zs hy rfl;rcases uP hy with⟨c,x,ex,rfl⟩ | ⟨c,B,eB,rfl⟩
  ·refine zn hd (qp (vp x (AO ex)) ⟨_,EE _,rfl,?_⟩);rw[Bi,ex,AG,i3];rfl
  ·have e1:P.take (i+1)=P.take i:=by rw[AZ (by lia),AZ c]
   have z:bX (fun zs L'=>L'=L/\zs=nY ((P.take (i+1)).map f)) (nY ((P.take i).map f)) L:=⟨_,EE _,rfl,by rw[e1]⟩;rw[oU B];exact z
 rintro zs rfl p1 h1;rw[ll,AZ (by lia)];walk_at "w";rw[e0];intro p2 h2;have s1:=By (o:=.lst (nY (P.map f))) h1;have s2:=s1.trans (By (o:=.lst [Y.str kd]) h2);refine⟨_,_,q9,By h2 _ _ q9,?_,fun p3 h3=>?_⟩
 ·rw[aK,Ae];exact BH (big _ (by show 1+P.length≤20000;lia))
 have s3:=s2.trans (By (o:=.lst ([Y.str kd]++nY (P.map f))) h3);have g3:∀{o},qg (qg (qg L p1 (.lst (nY (P.map f)))) p2 (.lst [Y.str kd])) p3 o p3=some o:=q9;refine⟨uY _ _,?_⟩;rw[qN];have g3:=g3 (o:=.lst ([Y.str kd]++nY (P.map f)));generalize qg (qg (qg L p1 (.lst (nY (P.map f)))) p2 (.lst [Y.str kd])) p3 (.lst ([Y.str kd]++nY (P.map f)))=L3 at s3 g3 ⊢;refine cf (fun i zs=>zs=(As.take (i - P.length)).map fun B=>qm (mL f B)) (by rw[ll];exact big _ (by lia)) trivial (by rw[Nat.zero_sub];rfl) ?_ ?_
 ·rintro i y zs hy rfl;rcases uP hy with⟨c,x,ex,rfl⟩ | ⟨c,B,eB,rfl⟩
  ·exact⟨_,EE _,rfl,by rw[Nat.sub_eq_zero_of_le c,Nat.sub_eq_zero_of_le (BH c)]⟩
  ·obtain⟨h1,h2⟩:=va B (AO eB);have z:bF n [qm B,.ref d] L3 fun z L4=>bX (fun zs L'=>L'=L3/\zs=(As.take (i+1 - P.length)).map fun B=>qm (mL f B)) (((As.take (i - P.length)).map fun B=>qm (mL f B))++[z]) L4:=by refine⟨B,d,kvs,f,rfl,s3 _ _ hd,h2,h1,_,EE _,rfl,?_⟩;rw[Nat.succ_sub c,Bi,eB,AG];rfl
   rw[oU B] at z ⊢;exact z
 rintro zs rfl p4 h4;rw[ll,BX,Bt];refine⟨_,_,(qb (w6 g3 h4)).trans g3,q9,?_,fun p5 h5=>?_⟩
 ·rw[Ac,aK,Ae,Ae];exact BH (big _ (by show 1+P.length+As.length≤20000;lia))
 exact qw q9 (cD ((s3.trans (By h4)).trans (By h5)) q2)
theorem SR.pl{E:List Nat}(h:SR ks R E):∀B∈jv R,∀x∈plR B,x<ks.length:=fun B hB x hx=>by
 obtain⟨⟨EB,s⟩,_⟩:=h.rls B hB;have l:=s.lt;cases s with
 |link=>exact l x hx
 |ei=>rw[Ak.mp hx];exact l _ (Ap ..)
 |bo=>rw[Ak.mp hx];exact l _ (Ap ..)
 |cu hA hC h3 h4=>
  rcases Av.mp hx with rfl | hx
  ·exact l _ (Ar _ (hA.sub _ h3))
  ·rw[Ak.mp hx];exact l _ (Af _ (hC.sub _ h4))
def ae0(f:Nat->Nat):Kn->Kn
 |.lf t n=>.lf t n
 |.nd e i j=>.nd e (f i) (f j)
theorem vO(f:Nat->Nat)(k:Kn):fu f (some k)=some (ae0 f k):=by cases k<;>rfl
def dw(Pt:Addr):x0:=fun ys L Q=>∃a,∃ks:List Kn,∃R:Ru,∃E:List Nat,∃s:Int,ys=[.ref a,qm R,.int s]/\L a=some (.lst (zw ks))/\cQ ks/\SR ks R E/\(qk R).Perm (List.range ks.length)/\ks.length≤96/\L Pt=some (.tb lamQ)/\
 ∀w f ks',L w=none->ks'.length=ks.length->Ren f (ks.map some) (ks'.map some)->Q (.tup [.ref w,qm (mL f R)]) (qg L w (.lst (zw ks')))
theorem sV :∀ys L Q,dw Pt ys L Q->v3 (kB (gJ Pt) (bF 120)) 7 ys L Q:=by
 rintro ys L Q ⟨a,ks0,R,E,s,rfl,ha,kok,sr,tp,hz,hP,q⟩;have big:=bg_;obtain⟨ks,eks⟩:∃ks,ks=ks0.map some:=⟨_,rfl⟩;have lks:ks.length=ks0.length:=by rw[eks,Ae]
 have ok:OkO ks:=by rw[eks];exact yN kok
 have ha':L a=some (.lst (kh ks)):=by rw[eks,vn];exact ha
 intro d hd w hw;have hw0:L w=none:=ji hw;have ndw:d≠w:=w6 q9 hw;have s0:qj L (qg (qg L d (.dct [])) w (.lst [])):=(By hd).trans (By hw);refine⟨a,ks0,s,rfl,s0 _ _ ha,by rw[<-eks];exact ok,by lia,s0 _ _ hP,fun D qs hD pm pf=>?_⟩;rw[<-eks] at pm pf;have hD0:L D=none:=ji (ji hD);have nwD:w≠D:=w6 q9 hD;have ndD:d≠D:=w6 ((qb ndw).trans q9) hD;have lq:qs.length=ks.length:=by rw[pm.length_eq,BM]
 have ndq:qs.Nodup:=pm.nodup_iff.mpr BL;have mq:∀p∈qs,p<ks.length:=fun p hp=>Bb.mp (pm.mem_iff.mp hp);have G0:ahn L ks qs d w D 0 0 (fun _=>0) (([]:List Kn).map some) [] (qg (qg (qg L d (.dct [])) w (.lst [])) D (.lst (nY qs))):=
  ⟨s0.trans (By hD),(qb ndD).trans ((qb ndw).trans q9),(qb nwD).trans q9,q9,An _,fun p=>rfl,Gap.nil _ _,An _⟩
 refine xo q9 fun keep kp=>vf ⟨fun i τ L'=>∃f,∃ms:List Kn,∃kvs c5 c6,τ=[some (.ref a),some (qm R),some (.int s),some (.ref d),some (.ref w),c5,c6]/\ahn L ks qs d w D i 0 f (ms.map some) kvs L'/\ms.length=i,⟨_,[],_,_,_,rfl,G0,rfl⟩,?_,?_,?_⟩
 ·rintro i τ L' ⟨f,ms,kvs,c5,c6,rfl,G,_⟩;exact kp L' (by rw[G.hD,q9])
 ·rintro i y τ L' hy ⟨f,ms,kvs,c5,c6,rfl,G,lm⟩;obtain⟨p,ep,rfl⟩:=kR hy;have hi:=xt ep;have hp:p<ks.length:=mq p (AO ep);obtain⟨k,hk⟩:∃k,ks0[p]?=some k:=⟨_,Aj (by lia)⟩;have hk':ks[p]?=some (some k):=by rw[eks,Aq,hk];rfl
  have pn:p∉qs.take i:=fun hm=>by
   have e2:qs=qs.take i++p::qs.drop (i+1):=by rw[Aj hi] at ep;rw[<-A4 ep,B1,Be]
   have nd:=ndq;rw[e2] at nd;exact(Ao.mp nd).2.2 p hm p (Ap ..) rfl
  have et:qs.take (i+1)=qs.take i++[p]:=by rw[Bi,ep];rfl
  have hpar:∀e i' j',some k=some (.nd e i' j')->i'∈qs.take i/\j'∈qs.take i:=fun e i' j' z=>im ok pm pf ep (by rw[hk',z]);have hpar2:∀x∈qs.take i,∀e i' j',ks[x]?=some (some (.nd e i' j'))->i'∈qs.take i/\j'∈qs.take i:=fun x hx e i' j' z=>by
   obtain⟨n,hn⟩:=Dk hx;have hn2:=xt hn;rw[AN] at hn2;rw[DC (by lia)] at hn;obtain⟨h1,h2⟩:=im ok pm pf hn z;have sb:∀y,y∈qs.take n->y∈qs.take i:=fun y hy=>by
    have:qs.take n=(qs.take i).take n:=by rw[List.take_take,Cv (by lia)]
    rw[this] at hy;exact BD hy
   exact⟨sb _ h1,sb _ h2⟩
  have hwk:L' w=some (.lst (zw ms)):=by rw[G.hw,vn]
  have vp:∀y:Nat,xm (fb kvs (.inl (p:Int)) (.int ((ms.length:Nat):Int))) (.inl (y:Int))=if y∈qs.take i++[p] then some (.int (((if y=p then ms.length else f y):Nat):Int)) else none:=fun y=>by
   rw[kW];by_cases e:y=p
   ·subst e;rw[AB rfl,AB rfl,AB (Af _ (Ak.mpr rfl))]
   ·rw[Az (fun z=>e (BV.mp (Sum.inl.inj z))),Az e,G.val];by_cases h:y∈qs.take i
    ·rw[AB h,AB (Ar _ h)]
    ·rw[Az h,Az fun z=>(Al.mp z).elim h fun z=>e (Ak.mp z)]
  have kl:=G.len;have lenM:(zw ms).length=ms.length:=Ae ..;refine qd hwk ?_;rw[lenM];refine zn G.hd ⟨big _ (by lia),?_⟩;have nad:a≠d:=w6 ha hd;refine qd ((qb nad).trans (G.sub _ _ ha)) (qp (km hk) ?_);have hw2:qg L' d (.dct (fb kvs (.inl (p:Int)) (.int ((ms.length:Nat):Int)))) w=some (.lst (zw ms)):=(qb (AM ndw)).trans hwk;have hb:∀x∈qs.take i,x<ks.length:=fun x hx=>mq x (BD hx);have em:(ms++[ae0 f k]).map some=ms.map some++[fu f (some k)]:=by rw[vO,AG];rfl
  have done:bX (fun τ L'=>∃f,∃ms:List Kn,∃kvs c5 c6,τ=[some (.ref a),some (qm R),some (.int s),some (.ref d),some (.ref w),c5,c6]/\ahn L ks qs d w D (i+1) 0 f (ms.map some) kvs L'/\ms.length=i+1) [some (.ref a),some (qm R),some (.int s),some (.ref d),some (.ref w),some (.int (p:Int)),some (ig k)] (qg (qg L' d (.dct (fb kvs (.inl (p:Int)) (.int ((ms.length:Nat):Int))))) w (.lst (zw ms++[ig (ae0 f k)]))):=by
   refine⟨_,EE _,fun x=>if x=p then ms.length else f x,ms++[ae0 f k],_,_,_,rfl,⟨(G.sub.upd hd).upd hw0,(qb ndw).trans q9,?_,(qb (AM nwD)).trans ((qb (AM ndD)).trans G.hD),?_,fun y=>?_,?_,?_⟩,by rw[Ac,lm];rfl⟩
   ·rw[q9,vn];unfold zw;rw[AG];rfl
   ·have:=qJ kvs (.inl (p:Int)) (.int ((ms.length:Nat):Int));lia
   ·rw[et];exact vp y
   ·rw[et,em];have:=G.gap.step hb pn hk' hpar2 hpar;rw[Ae] at this;exact this
   ·rw[Ae,Ac,lm];show i+1≤_;lia
  refine qd hw2 ?_;cases k with
  |lf t n=>exact qw hw2 ⟨by rw[lenM];exact big _ (by lia),done⟩
  |nd e p1 p2=>
   obtain⟨m1,m2⟩:=hpar e p1 p2 rfl;have v1:=vp p1;have v2:=vp p2;rw[AB (Ar _ m1),Az fun(z:p1=p)=>pn (z▸m1)] at v1;rw[AB (Ar _ m2),Az fun(z:p2=p)=>pn (z▸m2)] at v2;refine zn ((q9:qg L' d _ d=some _)) (qp v1 ?_);refine zn ((q9:qg L' d _ d=some _)) (qp v2 ?_);exact qw hw2 ⟨by rw[lenM];exact big _ (by lia),done⟩
 ·rintro τ L' ⟨f,ms,kvs,c5,c6,rfl,G,lm⟩;have eq:(nY qs).length=qs.length:=Ae ..;rw[eq] at G lm;have et:qs.take qs.length=qs:=Bt;have val:∀p,p<ks.length->xm kvs (.inl (p:Int))=some (.int ((f p:Nat):Int)):=fun p hp=>by rw[G.val,et,AB (pm.mem_iff.mpr (Bb.mpr hp))]
  have gap:Gap ks (List.range ks.length) f (ms.map some):=by have g:=G.gap;rw[et] at g;exact⟨fun p hp=>g.at_ p (pm.mem_iff.mpr hp),fun p hp r hr=>g.inj p (pm.mem_iff.mpr hp) r (pm.mem_iff.mpr hr),fun x k hx=>let ⟨r,hr,e⟩:=g.only x k hx;⟨r,pm.mem_iff.mp hr,e⟩,g.ok⟩
  have rd:=xr R;have tl:=tp.length_eq;rw[BM] at tl;refine⟨R,d,kvs,f,rfl,G.hd,fun B hB x hx=>val x (by rw[lks];exact sr.pl B hB x hx),by lia,?_⟩;refine cD (EY G.sub (by rw[G.hw,vn])) (q w f ms hw0 (by lia) ⟨by rw[<-eks];exact gap,by rw[Ae,Ae];lia⟩)
def ae5(p0:x0)(p1:x0)(p2:x0)(p3:x0)(p4:x0)(p5:x0):ww:=(qt (j5 (v5 z0) (qh 3))
 (qt (j5 (v5 z0) (qh 4))
 (qt (eI (rY (qc 0)) (cT 2 (jg (qh 5) (jg (qh 6) bN))) (qt (afp 7 8 (qe (za p0 (qe (qc 6) (aY (qc 5) (jo 48271)))) (qe (za p0 (qe (qc 6) (aY (qc 5) (jo 69621)))) z0)))
 (qt (xf (yB (zm yGt (zm w5 (zm w5 (bB 3) (bB 4)) (jo 12)) (qc 2))) ae9 jp)
 (qt (j5 (zm wm (qc 7) (jo 9)) (qh 9))
 (qt (j5 (zm ar (qc 7) (jo 9)) (qh 7))
 (xf (lV (yB (zm yLt (qc 9) (jo 3))) (eJ (qc 4) (v5 z0))) (qt (js (aq j8 (qc 3) (qe (wf (qe (dW "plain") (qe (za p1 (qe (qc 1) (qe (zm wm (qc 8) (jo 3)) z0))) z0))) z0)))
 (qt (js (aq j8 (qc 3) (qe (wf (qe (dW "turned") (qe (za p1 (qe (qc 1) (qe (zm wm (qc 8) (jo 3)) z0))) z0))) z0)))
 (jK (xf (eJ (zm wm (qc 7) (jo 2)) (jo 1)) (js (aq j8 (qc 3) (qe (aq cI (qc 3) (qe (zm iG (bB 3) (jo 2)) z0)) z0))) jp)
 (qt (j5 (zm iG (bB 3) (jo 2)) (qh 10))
 (js (aq j8 (qc 4) (qe (v5 (qe (wf (qe (dW "link") (qe (qc 10) (qe (zm w5 (qc 10) (jo 1)) z0)))) (qe (v5 (qe (qc 10) (qe (zm w5 (qc 10) (jo 1)) z0))) z0))) z0))))))) (xf (yB (zm yLt (qc 9) (jo 6))) (js (za p2 (qe (qc 3) (qe (zm cX (qc 4) (zm wm (qc 8) (bB 4))) (qe (qc 7) (qe (zm ar (qc 8) (jo 64)) z0)))))) (xf (l8 (yB (zm yLt (qc 9) (jo 8))) (yB (zm yGt (bB 4) (jo 1)))) (js (za p3 (qe (qc 3) (qe (qc 4) (aY (qc 7) (qc 8)))))) (js (za p4 (qe (qc 3) (qe (qc 4) (aY (qc 7) (qc 8))))))))))))))
 (jK (xf (eJ (qc 4) (v5 z0)) (qt (js (aq j8 (qc 3) (qe (wf (qe (dW "turned") (qe (za p1 (aY (qc 1) (jo 0))) z0))) z0)))
 (qt (js (aq j8 (qc 3) (qe (wf (qe (dW "plain") (qe (za p1 (aY (qc 1) (jo 0))) z0))) z0)))
 (js (aq j8 (qc 4) (qe (v5 (qe (wf (qe (dW "link") (aY (jo 0) (jo 1)))) (qe (v5 (aY (jo 0) (jo 1))) z0))) z0))))) jp)
 (qt (mf (yB (zm yGt (bB 4) (jo 1))) (js (za p3 (qe (qc 3) (qe (qc 4) (qe (zm w5 (zm ar (qc 1) (jo 7)) (bB 4)) (qe (zm ar (qc 1) (jo 3)) z0)))))))
 (jm (za p5 (qe (qc 3) (qe (zm cX (jw 4 0) (jo 0)) (wu (qc 1)))))))))))
def jB(Pt:Addr):x0:=fun ys L Q=>∃cy,∃ns:List Int,∃s:Int,∃room:Nat,ys=[.ref cy,.int s,.int (room:Int)]/\L cy=some (.lst (ns.map Y.int))/\ns.length≤1000/\room≤96/\L Pt=some (.tb lamQ)/\
 ∀w ks R E,L w=none->aX ks R E->(qk R).Perm (List.range ks.length)->Q (.tup [.ref w,qm R]) (qg L w (.lst (zw ks)))
theorem y8 :∀ys L Q,jB Pt ys L Q->v3 (ae5 oN jD jM nZ oI (dw Pt)) 11 ys L Q:=by
 rintro ys L Q ⟨cy,ns,s,room,rfl,hcy,hns,hroom,hP,q⟩;have big:=bg_;have lenR:∀fo:List Tr,(zb fo).length=fo.length:=fun fo=>Ae ..;have lenK:∀ks:List Kn,(zw ks).length=ks.length:=fun ks=>Ae ..;intro ka hka fa hfa;have nkf:ka≠fa:=w6 q9 hfa;have hfa':L fa=none:=(By hka).none hfa;have F0:l0 L (qg (qg L ka (.lst [])) fa (.lst [])) ka fa [] []:=by
  refine⟨⟨by rw[qb nkf];exact q9,fun t ht=>by simp at ht,fun t ht=>by simp at ht,by simp,by simp,by simp[nkf],fun p k e=>by simp at e,(By hka).trans (By hfa),fun x hx=>?_⟩,q9⟩;rcases Av.mp hx with rfl | hx
  ·exact hka
  ·rw[Ak.mp hx];exact hfa'
 generalize qg (qg L ka (.lst [])) fa (.lst [])=L1 at F0;refine xo (F0.b.sub _ _ hcy) fun keep kp=>vf ⟨fun _ τ L'=>TW L ka fa s room τ L',?_,?_,?_,?_⟩
 ·exact TW.of F0 (Bf _)
 ·rintro i τ L' ⟨c0,c5,c6,c7,c8,c9,fB,ks,fo,rfl,F,hb⟩;exact kp L' (by rw[F.b.sub _ _ hcy,F0.b.sub _ _ hcy])
 ·rintro i y τ L' ey ⟨c0,c5,c6,c7,c8,c9,fB,ks,fo,rfl,F,hb⟩;obtain⟨z,ez,rfl⟩:=qG ey;obtain⟨cell,ec,rfl⟩:∃cell:Int,ns[i]?=some cell/\z=Y.int cell:=by rw[Aq] at ez;obtain⟨z,e1,e2⟩:=Ay.mp ez;exact⟨z,e1,e2.symm⟩
  have hi:=(A2.mp ec).1;refine⟨cell,((i:Nat):Int),48271,rfl,by exact A7 _,by omega,by decide,by decide,fun one h1 h1'=>⟨cell,((i:Nat):Int),69621,rfl,by exact A7 _,by omega,by decide,by decide,fun two h2 h2'=>?_⟩⟩;refine qd F.b.hk (qd F.hf ?_);refine x5 (fun c=>?_) fun c=>?_
  ·exact⟨_,EE _,TW.of F hb⟩
  have c:¬((((zw ks).length:Nat):Int)+(((zb fo).length:Nat):Int)+12 > (room:Int)):=c;rw[lenK,lenR] at c;refine⟨(by decide:(0:Int)<9),⟨by decide,by decide⟩,?_⟩;refine x5 (fun c3=>?_) fun c3=>?_
  case' refine_1=>
   obtain⟨L2,eL2⟩:∃L2,L2=L':=⟨_,rfl⟩;rw[<-eL2];have F':l0 L L2 ka fa ks fo:=by rw[eL2];exact F
  case' refine_2=>
   intro p hp;refine ai (by decide) (By hp _ _ F.hf) q9 ((F.b.mono (By hp)).dats (by lia)) (.nil:Paired (jc _ 0) _ []) ?_;show aE (Da.eqs (fo.map dU) []) _ _;rw[uS];have F':l0 L (qg L' p (.lst [])) ka fa ks fo:=F.mono (By hp);generalize qg L' p (.lst [])=L2 at F';refine x5 (fun c0=>?_) fun c0=>?_
  case' refine_2.refine_2=>
   have hfo:0<fo.length:=by cases fo with | nil=>exact absurd rfl c0 | cons _ _=>simp
   have F:=F';refine x5 (fun c6=>?_) fun c6=>?_
   ·obtain⟨j,t,ej,lj,et⟩:=jL hfo two;refine qd F.hf ⟨(by show(0:Int)<((zb fo).length:Int);rw[lenR];lia),qd F.hf (qp (v:=.ref t.a) (by show fg (zb fo) (two % ((zb fo).length:Int))=_;rw[lenR,ej];exact kn (by unfold zb;rw[Aq,et];rfl)) ?_)⟩;obtain⟨pre,post,ep⟩:=B4 (AO et);rw[ep] at F hb;refine⟨⟨by decide,by decide⟩,L,ka,fa,ks,pre,post,t,one / 9,two / 64,rfl,F,by lia,fun L3 ks' fo' F3 h1 h2=>?_⟩;refine⟨_,EE _,?_⟩;exact TW.of F3 (by rw[ep] at c;lia)
   refine x5 (fun c8=>?_) fun c8=>?_
   ·refine qd F.hf ?_;refine x5 (fun c1=>?_) fun c1=>?_
    ·have c1:(((zb fo).length:Nat):Int) > 1:=c1;rw[lenR] at c1;refine⟨L,ka,fa,ks,fo,one / 9,two,rfl,F,by lia,by lia,by lia,fun L3 ks' fo' F3 h1 h2=>?_⟩;refine⟨_,EE _,?_⟩;exact TW.of F3 (by lia)
    ·refine⟨L,ka,fa,ks,fo,one / 9,two,rfl,F,by assumption,by lia,by lia,fun L3 ks' fo' F3 h1 h2 h3=>?_⟩;refine⟨_,EE _,?_⟩;exact TW.of F3 (by lia)
   ·refine⟨L,ka,fa,ks,fo,one / 9,two,rfl,F,by lia,by lia,by lia,fun L3 ks' fo' F3 h1 h2 h3=>?_⟩;refine⟨_,EE _,?_⟩;exact TW.of F3 (by lia)
  all_goals
   obtain⟨nm,enm⟩:∃nm,nm=mkS (aG s (two % 3)):=⟨_,rfl⟩;have hnm:cj nm:=by rw[enm];exact pO _ _
   refine qd F'.b.hk ⟨(by decide:(0:Int)<3),s,two % 3,rfl,qw F'.b.hk ⟨big _ (by rw[lenK];omega),?_⟩⟩;refine qd q9 ⟨(by decide:(0:Int)<3),s,two % 3,rfl,qw q9 ⟨big _ (by rw[Ac,lenK];simp;omega),?_⟩⟩;rw[<-enm,jx];have e1:(zw ks++[.tup [.str "plain",.str nm]])++[.tup [.str "turned",.str nm]]=zw (ks++[.lf false nm,.lf true nm]):=by unfold zw;rw[AG,AD];rfl
   rw[e1];refine⟨fun τ L3=>∃(b:Bool) (d0 d10:Option Y),τ=[d0,some (.int s),some (.int (room:Int)),some (.ref ka),some (.ref fa),some (.int ((i:Nat):Int)),some (.int cell),some (.int (one / 9)),some (.int two),some (.int (one % 9)),d10]/\L3=qg L2 ka (.lst (zw (ks++[.lf b nm,.lf (!b) nm]))),?_,?_⟩
   ·refine⟨(by decide:(0:Int)<2),?_⟩;show aE (decide (one / 9 % 2=1)) _ _;refine x5 (fun c2=>?_) fun c2=>?_
    ·have l2:(zw (ks++[Kn.lf false nm,.lf true nm])).length=ks.length+2:=by rw[lenK,Ac];rfl
     have t2:((((zw (ks++[Kn.lf false nm,.lf true nm])).length:Nat):Int) - 2).toNat=ks.length:=by rw[l2];omega
     refine qd q9 (qd q9 (qd q9 (qw q9 ⟨?_,?_,qp (v:=ig (.lf false nm)) ?_ ?_⟩)))
     ·show(0:Int)≤(((zw (ks++[Kn.lf false nm,.lf true nm])).length:Nat):Int) - 2;rw[l2];omega
     ·show(((zw (ks++[Kn.lf false nm,.lf true nm])).length:Nat):Int) - 2<_;omega
     ·show(zw (ks++[Kn.lf false nm,.lf true nm]))[((((zw (ks++[Kn.lf false nm,.lf true nm])).length:Nat):Int) - 2).toNat]?=_;rw[t2];unfold zw;rw[Aq,cr];rfl
     ·rw[jx];refine qw q9 ⟨big _ ?_,?_⟩
      ·refine AW (CV ..) ?_;show(zw (ks++[Kn.lf false nm,.lf true nm])).length≤20000;rw[l2];omega
      ·refine⟨true,_,_,rfl,?_⟩;rw[jx];have e3:(zw (ks++[Kn.lf false nm,.lf true nm])).eraseIdx ((((zw (ks++[Kn.lf false nm,.lf true nm])).length:Nat):Int) - 2).toNat++[ig (.lf false nm)]=zw (ks++[.lf true nm,.lf false nm]):=by rw[t2];unfold zw;rw[AG,CY (by simp),Ae,CH,AG,AD];rfl
       rw[e3];rfl
    ·exact⟨false,_,_,rfl,rfl⟩
   ·rintro τ3 L3 ⟨b,d0,d10,rfl,rfl⟩;have l2:(zw (ks++[Kn.lf b nm,.lf (!b) nm])).length=ks.length+2:=by rw[lenK,Ac];rfl
    have nn:(((zw (ks++[Kn.lf b nm,.lf (!b) nm])).length:Nat):Int) - 2=((ks.length:Nat):Int):=by rw[l2];omega
    have hf3:qg L2 ka (.lst (zw (ks++[.lf b nm,.lf (!b) nm]))) fa=some (.lst (zb fo)):=by rw[qb (AM nkf)];exact F'.hf
    have en:∀z:Int,z=((ks.length:Nat):Int)->qy [ks.length,ks.length+1]=[.int z,.int (z+1)]:=fun z e=>by rw[e];rfl
    have er:∀z:Int,z=((ks.length:Nat):Int)->qm (.link ks.length (ks.length+1))=.tup [.str "link",.int z,.int (z+1)]:=fun z e=>by rw[e];rfl
    have en:=en _ nn;have er:=er _ nn;refine qd q9 (qd hf3 fun pb hpb pa hpa=>?_);have H:=F'.link hnm b (pb:=pb) (pa:=pa) hpb (by rw[en];exact hpa) rfl;refine qw (((By hpb).trans (By hpa)) _ _ hf3) ⟨big _ (by rw[lenR];omega),?_⟩;rw[en,er] at H;refine⟨_,EE _,?_⟩;exact TW.of H (by rw[Ac,Ac];simp;omega)
 ·rintro τ L' ⟨c0,c5,c6,c7,c8,c9,fB,ks,fo,rfl,F,hb⟩;refine⟨fun τ L3=>∃c0 c5 c6 c7 c8 c9 fB ks fo,τ=[c0,some (.int s),some (.int (room:Int)),some (.ref ka),some (.ref fa),c5,c6,c7,c8,c9,fB]/\l0 L L3 ka fa ks fo/\1≤fo.length/\ks.length+fo.length≤max room 3,?_,?_⟩
  ·intro p hp;refine ai (by decide) (By hp _ _ F.hf) q9 ((F.b.mono (By hp)).dats (by lia)) (.nil:Paired (jc _ 0) _ []) ?_;show aE (Da.eqs (fo.map dU) []) _ _;rw[uS];have F':l0 L (qg L' p (.lst [])) ka fa ks fo:=F.mono (By hp);generalize qg L' p (.lst [])=L2 at F';refine x5 (fun c0=>?_) fun c0=>?_
   ·subst c0;have k0:ks=[]:=by cases ks with|nil=>rfl|cons k r=>exact absurd ((F.b.tm 0).mpr (by simp)) (by simp)
    subst k0;obtain⟨nm,enm⟩:∃nm,nm=mkS (aG s 0):=⟨_,rfl⟩;have hnm:cj nm:=by rw[enm];exact pO _ _
    refine qd F'.b.hk ⟨s,0,rfl,qw F'.b.hk ⟨big _ (by decide),?_⟩⟩;refine qd q9 ⟨s,0,rfl,qw q9 ⟨big _ (by show 1≤20000;decide),?_⟩⟩;rw[<-enm,jx];have hf3:∀o,qg L2 ka o fa=some (.lst (zb [])):=fun o=>by rw[qb (AM nkf)];exact F'.hf
    refine qd (hf3 _) fun pb hpb pa hpa=>?_;have H:=F'.link hnm true (pb:=pb) (pa:=pa) hpb hpa rfl;refine qw (((By hpb).trans (By hpa)) _ _ (hf3 _)) ⟨big _ (by show 0≤20000;decide),?_⟩;exact⟨_,_,_,_,_,_,_,_,_,rfl,H,by simp,by simp;lia⟩
   ·exact⟨_,_,_,_,_,_,_,ks,fo,rfl,F',(by cases fo with | nil=>exact absurd rfl c0 | cons _ _=>simp),by lia⟩
  ·rintro τ L' ⟨c0,c5,c6,c7,c8,c9,fB,ks,fo,rfl,F,h1,hb⟩;refine⟨fun m τ L3=>∃c0 c5 c6 c7 c8 c9 fB ks fo,τ=[c0,some (.int s),some (.int (room:Int)),some (.ref ka),some (.ref fa),c5,c6,c7,c8,c9,fB]/\l0 L L3 ka fa ks fo/\1≤fo.length/\fo.length=m/\ks.length+fo.length≤max room 3,⟨_,_,_,_,_,_,_,_,_,_,rfl,F,h1,rfl,hb⟩,?_⟩;rintro m τ L' ⟨c0,c5,c6,c7,c8,c9,fB,ks,fo,rfl,F,h1,hm,hb⟩;refine qd F.hf ?_;refine x5 (fun c1=>?_) fun c1=>?_
   ·have c1:(((zb fo).length:Nat):Int) > 1:=c1;rw[lenR] at c1;refine⟨fun τ L3=>∃c0 c5 c6 c7 c8 c9 fB ks fo,τ=[c0,some (.int s),some (.int (room:Int)),some (.ref ka),some (.ref fa),c5,c6,c7,c8,c9,fB]/\l0 L L3 ka fa ks fo/\1≤fo.length/\fo.length+1=m/\ks.length+fo.length≤max room 3,?_,?_⟩
    ·rintro τ L3 ⟨d0,d5,d6,d7,d8,d9,d10,ks',fo',rfl,F3,g1,g2,g3⟩;exact⟨m - 1,by lia,_,_,_,_,_,_,_,_,_,rfl,F3,g1,by lia,g3⟩
    ·refine⟨⟨by decide,by decide⟩,qd F.hf ⟨⟨by decide,by decide⟩,L,ka,fa,ks,fo,_,_,rfl,F,by lia,by lia,by lia,fun L3 ks' fo' F3 g1 g2=>?_⟩⟩;exact⟨_,EE _,_,_,_,_,_,_,_,ks',fo',rfl,F3,by lia,by lia,by lia⟩
   ·have c1:¬((((zb fo).length:Nat):Int) > 1):=c1;rw[lenR] at c1;obtain⟨t,rfl⟩:∃t,fo=[t]:=by
     match fo,h1,c1 with
     |[t],_,_=>exact⟨t,rfl⟩
     |t::u::r,_,c=>exact absurd (show(((t::u::r).length:Nat):Int) > 1 by simp;lia) c
    have ta:=(F.b.ht t (Ap ..)).1;refine qd F.hf (qd ta ?_);have tp:(qk t.R).Perm (List.range ks.length):=by have nd:=F.b.nd;have tm:=F.b.tm;simp at nd tm;exact(AJ nd BL).mpr fun x=>by rw[tm,Bb]
    have sr:=F.b.sr t (Ap ..);have hk:ks.length≤96:=by simp at hb;lia
    refine⟨ka,ks,t.R,t.E,s,rfl,F.b.hk,F.b.ok,sr,tp,hk,F.b.sub _ _ hP,fun w f ks' hw' lk rn=>?_⟩;obtain⟨T,tp'⟩:=aX.ren F.b.ok sr tp hk rn lk;exact cD (EY (F.b.sub.trans (By hw')) q9) (q w ks' _ _ (F.b.sub.none hw') T tp')
def qR:Option Kn->Da
 |none=>.s .non
 |some (.lf t n)=>.tup [.s (.str (kL t)),.s (.str n)]
 |some (.nd e i j)=>.tup [.s (.str (kN e)),.s (.int ((i:Nat):Int)),.s (.int ((j:Nat):Int))]
theorem adg :∀k:Option Kn,jc L 1 (l9 k) (qR k)
 |none=>.inl ⟨rfl,rfl⟩
 |some (.lf t n)=>a8 (.cons (ER _) (.cons (ER _) .nil))
 |some (.nd e i j)=>a8 (.cons (ER _) (.cons (EN _) (.cons (EN _) .nil)))
theorem iN{L:ql}:∀wd:List (Option Kn),Paired (jc L 1) (kh wd) (wd.map qR)
 |[]=>.nil
 |k::r=>.cons (adg k) (iN r)
theorem oC:∀wd:List (Option Kn),Da.eqs (wd.map qR) (wd.map qR)=true
 |[]=>rfl
 |k::r=>by
  have:Da.eq (qR k) (qR k)=true:=by cases k with|none=>rfl|some k=>cases k<;>simp[qR,Da.eq,Da.eqs,fh]
  rw[AF,Da.eqs,this,oC r];rfl
theorem adj{A:Ru}{E:List Nat}(T:aX ks A E)(pc:ct.Perm (zp A))(pF:F.Perm E)(wF:F.Pairwise fun a b:Nat=>a<b):F=wy (vz ks (qk A)) (aF (vz ks (qk A)) ct) (vz ks (qk A)).length:=by
 have r2:(wy (vz ks (qk A)) (aF (vz ks (qk A)) ct) (vz ks (qk A)).length).Pairwise fun a b:Nat=>a<b:=by unfold wy;exact List.Pairwise.filter _ List.pairwise_lt_range
 refine DF (le:=fun a b:Nat=>a<b) (fun a b _ _ h1 h2=>absurd h1 (Nat.lt_asymm h2)) wF r2 ?_;refine(AJ (pF.nodup_iff.mpr T.sr.nod) (by unfold wy;exact BL.filter _)).mpr fun x=>?_;rw[pF.mem_iff,T.ends x];unfold wy gu fG aF;rw[AS,Bb,ve];constructor
 ·rintro⟨a,b,c⟩;have hl:=T.sr.lt x a;have c2:x∉jj ct:=fun z=>c ((aU pc).mem_iff.mp z);refine⟨hl,?_⟩;rw[aw a (Aj hl),Ax (fun z=>(Al.mp z).elim b c2)];rfl
 ·rintro⟨a,b⟩;rw[kK a] at b;by_cases c:x∈qk A
  ·refine⟨c,fun z=>?_,fun z=>?_⟩
   ·rw[AH (Ar _ z),Bool.not_true,C2] at b;cases b
   ·rw[AH (Af _ ((aU pc).mem_iff.mpr z)),Bool.not_true,C2] at b;cases b
  ·rw[Az c] at b;cases b
theorem yV(ns:List Int)(lo hi:Option Int):∃ms:List Int,lQ (ns.map Y.int) lo hi=ms.map Y.int/\ms.length≤ns.length:=by unfold lQ;refine⟨(ns.drop (HT.sIx (ns.map Y.int).length 0 lo)).take (HT.sIx (ns.map Y.int).length (ns.map Y.int).length hi - HT.sIx (ns.map Y.int).length 0 lo),by rw[List.map_take,List.map_drop],?_⟩;rw[AN,Bq];lia
def nR(x:Y)(vs:List Y)(L:ql)(Q:YK):Prop:=match x,vs with
 |.ref a,[]=>bE L a fun _=>Q .non (qg L a (.lst []))
 |_,_=>False
theorem acg :hX X "list.clear" (upM X.g3 nR):=hX.imp xM fun x xs H Q ⟨y,ys,L,Q3,r1,r2,rl,z,k⟩=>by
 unfold nR at z;split at z
 ·rename_i a;obtain⟨zs,e,z⟩:=jy z;obtain⟨us,e2,r⟩:=rl a _ e;cases (show xs=[] from r2);exact⟨a,us,r1,rfl,e2,k _ _ _ _ (EM e2) (rl.setL e2 (show x6 _ _ [] [] from rfl)) (by rfl) z⟩
 ·exact z.elim
theorem zC(ho:QE X o to)(h4:attributeBase o "clear" X.env (eval o X.env)=eval o X.env:=by rfl)(h6:(apos.endLine==cpos.line)=true:=by rfl):
 QE X (.Call (.Attribute o "clear" apos) [] [] cpos) (aq nR to z0):=aau PySem.F.slot_list_clear PySem.F.type_list_clear acg ho h4 h6
def tE:ww:=(jm (eM kO (qe (rS 1 (k7 (qc 0)) (qh 2) (eJ (jw 2 0) (qc 1)) (rdT (jw 2 1) (jw 2 2))) z0)))
def yo(p0:x0)(p1:x0):ww:=(qt (j5 (za p0 (wu (jw 0 1))) (qh 1))
 (jm (wf (qe (eM bZ (wu (jw 0 0))) (qe (za p1 (aY (qc 1) (dW "link"))) (qe (za p1 (aY (qc 1) (dW "cut"))) z0))))))
theorem aD:∀A:Ru,(jv A).flatMap iJ=zd A
 |.link _ _=>rfl
 |.ei r A=>aD A
 |.bo r A B=>by show((jv A++jv B).flatMap iJ)=zd A++zd B;rw[AA,aD A,aD B]
 |.cu p q A B=>by show((jv A++jv B).flatMap iJ)=zd A++zd B;rw[AA,aD A,aD B]
theorem aj:∀A:Ru,(jv A).flatMap iI=zp A
 |.link _ _=>rfl
 |.ei r A=>aj A
 |.bo r A B=>by show((jv A++jv B).flatMap iI)=zp A++zp B;rw[AA,aj A,aj B]
 |.cu p q A B=>by show(p,q)::((jv A++jv B).flatMap iI)=(p,q)::(zp A++zp B);rw[AA,aj A,aj B]
def pQ:Bool->Ru->List (Nat×Nat)
 |true,A=>iJ A
 |false,A=>iI A
def pkS:Bool->Str
 |true => "link"
 |false => "cut"
def eG:x0:=fun ys L Q=>∃a,∃rs:List Ru,∃b:Bool,ys=[.ref a,.str (pkS b)]/\L a=some (.lst (rs.map qm))/\rs.length≤1000/\(rs.flatMap (pQ b)).Nodup/\(∀p∈rs.flatMap (pQ b),p.2<1000000)/\(rs.flatMap (pQ b)).length≤1000/\
 ∀D ps,L D=none->ps.Perm (rs.flatMap (pQ b))->ps.Pairwise eQ->Q (.ref D) (qg L D (.lst (xp ps)))
theorem sJ:∀ys L Q,eG ys L Q->v3 tE 2 ys L Q:=by
 rintro ys L Q ⟨a,rs,b,rfl,ha,hz,nd,hb,hl,q⟩;refine xo ha fun keep kp=>cf (fun i zs=>zs=xp ((rs.take i).flatMap (pQ b))) (by rw[Ae];exact Cp hz (by decide)) (kp _ rfl) rfl ?_ ?_
 ·rintro i y zs hy rfl;rw[Aq] at hy;obtain⟨B,eB,rfl⟩:=Ay.mp hy;have et:(rs.take (i+1)).flatMap (pQ b)=(rs.take i).flatMap (pQ b)++pQ b B:=by rw[Bi,eB,AA];show _++[B].flatMap (pQ b)=_;rw[Cs]
  have no:pQ b B=[]->bX (fun zs L'=>L'=L/\zs=xp ((rs.take (i+1)).flatMap (pQ b))) (xp ((rs.take i).flatMap (pQ b))) L:=fun e=>⟨_,EE _,rfl,by rw[et,e,AQ]⟩;have yes:∀c,pQ b B=[c]->bX (fun zs L'=>L'=L/\zs=xp ((rs.take (i+1)).flatMap (pQ b))) (xp ((rs.take i).flatMap (pQ b))++[prN c]) L:=fun c e=>⟨_,EE _,rfl,by rw[et,e,fv]⟩;cases b with
  |true=>
   cases B with|link p r=>exact yes (p,r) rfl|ei r A=>exact no rfl|bo r A B=>exact no rfl|cu p r A B=>exact no rfl
  |false=>
   cases B with|link p r=>exact no rfl|ei r A=>exact no rfl|bo r A B=>exact no rfl|cu p r A B=>exact yes (p,r) rfl
 rintro zs rfl p1 h1;rw[Ae,Bt];refine aee q9 hb nd (by lia) fun D ps hD pm pw=>?_;exact cD (EY ((By h1).trans (By hD)) q9) (q D ps (ji hD) pm pw)
theorem aX.lkN{A:Ru}{E:List Nat}(T:aX ks A E):(jj (zd A)).Nodup:=T.sr.leaves.nodup_iff.mpr (T.nd.filter _)
theorem aX.ctN{A:Ru}{E:List Nat}(T:aX ks A E):(jj (zp A)).Nodup:=(Ao.mp (Ao.mp ((T.sr.part T.nd).nodup_iff.mpr T.nd)).2.1).1
theorem aX.lkT{A:Ru}{E:List Nat}(T:aX ks A E){x:Nat}(h:x∈jj (zd A)):x∈qk A:=(AS.mp (T.sr.leaves.mem_iff.mp h)).1
theorem aX.ctT{A:Ru}{E:List Nat}(T:aX ks A E){x:Nat}(h:x∈jj (zp A)):x∈qk A:=(T.sr.part T.nd).mem_iff.mp (Af _ (Ar _ h))
structure WbO(A:Ru)(lk ct:List (Nat×Nat)):Prop where
 pl:lk.Perm (zd A)
 wl:lk.Pairwise eQ
 pc:ct.Perm (zp A)
 wc:ct.Pairwise eQ
def ij:x0:=fun ys L Q=>∃a,∃ks:List Kn,∃A:Ru,∃E:List Nat,ys=[.tup [.ref a,qm A]]/\L a=some (.lst (kh (vz ks (qk A))))/\aX ks A E/\
 ∀wa la ca lk ct L',qj L L'->L wa=none->L la=none->L ca=none->wa≠la->wa≠ca->la≠ca->L' wa=some (.lst (kh (vz ks (qk A))))->L' la=some (.lst (xp lk))->L' ca=some (.lst (xp ct))->WbO A lk ct->Q (aj7 wa la ca) L'
theorem aa1:∀ys L Q,ij ys L Q->v3 (yo (aa 120) eG) 2 ys L Q:=by
 rintro ys L Q ⟨a,ks,A,E,rfl,ha,T,q⟩;have tl:=T.small;have rd:=xr A;have rz:=vj A;have rp:=xw A;have kl:=T.len;refine⟨A,rfl,by lia,by lia,fun p1 h1=>?_⟩;have s1:qj L (qg L p1 (.lst ((jv A).map qm))):=By h1;have g1:qg L p1 (.lst ((jv A).map qm)) p1=some (.lst ((jv A).map qm)):=q9;generalize qg L p1 (.lst ((jv A).map qm))=L1 at s1 g1 ⊢;refine qd (s1 _ _ ha) fun wa hwa=>?_;have s2:qj L1 (qg L1 wa (.lst (kh (vz ks (qk A))))):=By hwa;have zl:(jv A).length≤1000:=by rw[au];lia
 have el:(jv A).flatMap (pQ true)=zd A:=aD A;have ec:(jv A).flatMap (pQ false)=zp A:=aj A;refine⟨p1,jv A,true,rfl,s2 _ _ g1,zl,?_,?_,?_,fun la lk hla pl wl=>?_⟩
 ·rw[el];exact a9 T.lkN
 ·rw[el];intro p hp;have:=T.sr.lt _ (T.lkT (af hp).2);lia
 ·rw[el];lia
 rw[el] at pl;have s3:=s2.trans (By (o:=.lst (xp lk)) hla);refine⟨p1,jv A,false,rfl,s3 _ _ g1,zl,?_,?_,?_,fun ca ct hca pc wc=>?_⟩
 ·rw[ec];exact a9 T.ctN
 ·rw[ec];intro p hp;have:=T.sr.lt _ (T.ctT (af hp).2);lia
 ·rw[ec];lia
 rw[ec] at pc;have n1:wa≠la:=w6 q9 hla;have n2:wa≠ca:=w6 ((qb n1).trans q9) hca;have n3:la≠ca:=w6 q9 hca;exact x8 (q wa la ca lk ct _ (s1.trans (s3.trans (By hca))) (s1.none hwa) (s1.none (s2.none hla)) (s1.none (s3.none hca)) n1 n2 n3 ((qb n2).trans ((qb n1).trans q9)) ((qb n3).trans q9) q9 ⟨pl,wl,pc,wc⟩)
def mw:ww:=(qt (xf (lV (gG (yB (eO .list (qc 0)))) (yX (bB 0) (bB 1))) (jm (yC (.bl false))) jp)
 (qt (eI (dq (wu (bB 1))) (qh 2) (qt (xf (lV (gG (yB (eO .tuple (zm cX (qc 0) (qc 2))))) (yX (eM dy (qe (zm cX (qc 0) (qc 2)) z0)) (jo 2))) (jm (yC (.bl false))) jp)
 (eI (tU (zm cX (qc 0) (qc 2))) (qh 3) (xf (lV (gG (yB (eO .int (qc 3)))) (yB (eO .bool (qc 3)))) (jm (yC (.bl false))) jp))))
 (jm (zm (t7 false) (qc 0) (eM kO (wu (qc 1)))))))
def fI(p0:x0):ww:=(qt (j5 mC (qh 2))
 (qt (j5 (yUn agn (jo 1)) (qh 3))
 (qt (eI (k7 (qc 1)) (cT 2 (jg (qh 4) (jg (qh 5) bN))) (qt (xf (lV (yB (zm yLe (qc 4) (qc 3))) (lV (yB (zm yGe (qc 4) (qc 5))) (lV (yB (zm (lW false) (qc 4) (qc 2))) (yB (zm (lW false) (qc 5) (qc 2)))))) (jm (yC (.bl false))) jp)
 (qt (xf (lV (yX (zm cX (qc 0) (qc 4)) (za p0 (qe (zm cX (qc 0) (qc 5)) z0))) (yX (eM dy (qe (zm cX (qc 0) (qc 4)) z0)) (jo 2))) (jm (yC (.bl false))) jp)
 (qt (a6 (qc 2) (qc 4) (yC (.bl true)))
 (qt (a6 (qc 2) (qc 5) (yC (.bl true)))
 (j5 (qc 4) (qh 3)))))))
 (qt (aan 4 (j5 (rS 1 (dq (wu (bB 0))) (qh 7) (l8 (yB (dr true (zm cX (qc 0) (qc 7)))) (eJ (eM dy (qe (zm cX (qc 0) (qc 7)) z0)) (jo 2))) (qc 7)) (qh 6)))
 (jm (zm (t7 false) (bB 6) (eM aaj (wu (qc 2)))))))))
def gL(p0:x0)(p1:x0):ww:=(qt (j5 mC (qh 2))
 (qt (j5 (yUn agn (jo 1)) (qh 3))
 (qt (eI (k7 (qc 0)) (qh 4) (xf (l8 (yB (dr true (qc 4))) (eJ (bB 4) (jo 3))) (qt (a6 (qc 2) (jw 4 1) (yC (.bl true)))
 (a6 (qc 2) (jw 4 2) (yC (.bl true)))) jp))
 (qt (eI (k7 (qc 1)) (cT 2 (jg (qh 5) (jg (qh 6) bN))) (qt (xf (lV (yB (zm yLe (qc 5) (qc 3))) (lV (eJ (qc 5) (qc 6)) (lV (yB (zm (lW false) (qc 5) (qc 2))) (lV (yB (zm (lW false) (qc 6) (qc 2))) (lV (yB (dr false (zm cX (qc 0) (qc 5)))) (yB (dr false (zm cX (qc 0) (qc 6))))))))) (jm (yC (.bl false))) jp)
 (qt (xf (yX (za p0 (aY (qc 0) (qc 5))) (za p1 (qe (za p0 (aY (qc 0) (qc 6))) z0))) (jm (yC (.bl false))) jp)
 (qt (a6 (qc 2) (qc 5) (yC (.bl true)))
 (qt (a6 (qc 2) (qc 6) (yC (.bl true)))
 (j5 (qc 5) (qh 3)))))))
 (jm (yC (.bl true)))))))
def nU(p0:x0)(p1:x0)(p2:x0)(p3:x0):ww:=(qt (j5 (za p0 (wu (qc 2))) (cT 3 (jg (qh 3) (jg (qh 4) (jg (qh 5) bN)))))
 (qt (xf (lV (gG (yB (eO .tuple (qc 0)))) (lV (yX (bB 0) (jo 3)) (lV (gG (yB (eO .list (jw 0 0)))) (yX (jw 0 0) (qc 1))))) (jm (yC (.bl false))) jp)
 (qt (xf (lV (gG (yB (za p1 (aY (jw 0 1) (qc 3))))) (gG (yB (za p1 (aY (jw 0 2) (qc 4)))))) (jm (yC (.bl false))) jp)
 (qt (xf (lV (gG (yB (za p3 (aY (qc 1) (jw 0 1))))) (gG (yB (za p2 (aY (qc 1) (jw 0 2)))))) (jm (yC (.bl false))) jp)
 (qt (j5 (rS 1 (k7 (qc 1)) (qh 7) (l8 (yB (dr true (qc 7))) (eJ (jw 7 0) (dW "both"))) (qc 7)) (qh 6))
 (jm (zm (t7 false) (eM dy (wu (jw 0 1))) (zm w5 (zm w5 (bB 6) (eM dy (wu (jw 0 2)))) (jo 1)))))))))
def gC:x0:=fun ys L Q=>∃f d,∃lk lk0:List (Nat×Nat),ys=[.ref f,.ref d]/\L f=some (.lst (xp lk))/\L d=some (.lst (xp lk0))/\lk.Perm lk0/\lk.Pairwise eQ/\lk.Nodup/\(∀p∈lk,p.2<1000000)/\lk.length≤1000/\Q (.bl true) L
theorem uv{l m:List (Nat×Nat)}(h:l.Perm m)(hl:l.Pairwise eQ)(hm:m.Pairwise eQ):l=m:=by refine DF (le:=eQ) (fun a b _ _ h1 h2=>?_) hl hm h;unfold eQ at h1 h2;exact Prod.ext (by lia) (by lia)
theorem yK(h:(wx 0 n)[i]?=some y):i<n/\y=.int (0+(i:Int)):=by have hi:=xt h;unfold wx at h hi;rw[Ae,BM] at hi;rw[Aq,CK hi] at h;exact⟨hi,(A4 h).symm⟩
theorem vM:∀ys L Q,gC ys L Q->v3 mw 4 ys L Q:=by
 rintro ys L Q ⟨f,d,lk,lk0,rfl,hf,hd,pm,pw,nd,hb,hz,q⟩;have big:=bg_;have l1:(xp lk).length=lk.length:=Ae ..;have l2:(xp lk0).length=lk.length:=by rw[pm.length_eq];exact Ae ..
 refine uF hf ?_;refine qd hf (qd hd ?_);refine xj (by show(!decide (((xp lk).length:Int)=((xp lk0).length:Int)))=false;rw[l1,l2,AH rfl];rfl) ?_;refine qd hd ⟨⟨A7 _,by rw[l2];lia⟩,?_⟩;rw[l2,BA];refine vf ⟨fun i τ L'=>∃c2 c3,τ=[some (.ref f),some (.ref d),c2,c3]/\L'=L,⟨_,_,rfl,rfl⟩,fun _ _ _ _=>trivial,?_,?_⟩
 ·rintro i y τ L' hy ⟨c2,c3,rfl,rfl⟩;obtain⟨hi,rfl⟩:=yK hy;obtain⟨c,ec⟩:∃c,lk[i]?=some c:=⟨_,Aj hi⟩;have e0:fg (xp lk) (0+(i:Int))=some (prN c):=by rw[Cr];exact km ec
  refine qd hf (qp e0 ?_);refine qd hf (qp e0 ?_);refine qd hf (qp e0 ?_);refine vf ⟨fun j τ L2=>∃c3,τ=[some (.ref f),some (.ref d),some (.int (0+(i:Int))),c3]/\L2=L',⟨_,rfl,rfl⟩,fun _ _ _ _=>trivial,?_,?_⟩
  ·rintro j y τ L' hy ⟨c3,rfl,rfl⟩;have:∃z:Int,y=.int z:=by
    have hm:=AO hy;rcases Av.mp hm with rfl | hm
    ·exact⟨_,rfl⟩
    ·rw[Ak.mp hm];exact⟨_,rfl⟩
   obtain⟨z,rfl⟩:=this;exact⟨_,EE _,_,rfl,rfl⟩
  ·rintro τ L' ⟨c3,rfl,rfl⟩;exact⟨_,EE _,_,_,rfl,rfl⟩
 ·rintro τ L' ⟨c2,c3,rfl,rfl⟩;dsimp only[jm,zm,eM,qe,wu,qc,sL,z0];refine aee hd (fun p hp=>hb p (pm.mem_iff.mpr hp)) (pm.nodup_iff.mp nd) (by have:=pm.length_eq;lia) fun D qs hD pq wq=>?_;cases uv (pq.trans pm.symm) wq pw;refine ai (n:=1) (m:=1) (by decide) (By hD _ _ hf) q9 (kU _) (kU _) ?_;show fz Q (.bl (nb false (Da.eqs _ _))) _;rw[t9];exact cD (By hD) q
theorem yW(hS:lk.Pairwise eQ)(hN:(jj lk).Nodup):lk.Pairwise fun a b=>a.1<b.1:=by
 induction lk with
 |nil=>exact .nil
 |cons c r ih=>
  obtain⟨h1,h2⟩:=Cq.mp hS;rw[vt] at hN;obtain⟨n1,n2⟩:=Aw.mp hN;refine Cq.mpr ⟨fun b hb=>?_,ih h2 (Aw.mp n2).2⟩;have hl:=h1 b hb;unfold eQ at hl;have:c.1≠b.1:=fun z=>n1 (Ag _ (by rw[z];exact(af hb).1));lia
theorem oT{c:Nat×Nat}(h:lk[i]?=some c):jj (lk.take (i+1))=jj (lk.take i)++[c.1]++[c.2]:=by rw[Bi,h];show jj (lk.take i++[c])=_;rw[ke,bO,AD];rfl
theorem rN(hN:(jj lk).Nodup){c:Nat×Nat}(h:lk[i]?=some c):c.1∉jj (lk.take i)/\c.2∉jj (lk.take i)++[c.1]:=by have e:lk=lk.take (i+1)++lk.drop (i+1):=(Be ..).symm;rw[e,ke,oT h] at hN;obtain⟨n1,_,n3⟩:=Ao.mp (Ao.mp hN).1;refine⟨fun z=>(Ao.mp n1).2.2 _ z _ (Ak.mpr rfl) rfl,fun z=>n3 _ z _ (Ak.mpr rfl) rfl⟩
theorem uW(h:lk.Pairwise fun a b=>a.1<b.1){c:Nat×Nat}(e:lk[i]?=some c):∀b∈lk.drop (i+1),((c.1:Nat):Int)<((b.1:Nat):Int):=fun b hb=>by
 have e2:lk.drop i=c::lk.drop (i+1):=by have hi:=xt e;rw[Aj hi] at e;rw[<-A4 e,B1]
 have h2:=h.drop (i:=i);rw[e2] at h2;exact Int.ofNat_lt.mpr ((Cq.mp h2).1 b hb)
theorem o4{c:Nat×Nat}(e:lk[i]?=some c):c∈lk.drop i:=by have hi:=xt e;rw[Aj hi] at e;rw[<-A4 e,<-B1 hi];exact Ap ..
theorem aX.lkA{A:Ru}{E:List Nat}(T:aX ks A E):∀c∈zd A,c.1<c.2/\∃t n,(vz ks (qk A))[c.1]?=some (some (.lf t n))/\(vz ks (qk A))[c.2]?=some (some (.lf (!t) n)):=fun c hc=>by
 rw[<-aD] at hc;obtain⟨B,hB,hc⟩:=A3.mp hc;cases B with
 |link p q=>
  cases Ak.mp hc;obtain⟨⟨EB,s⟩,tB,_⟩:=T.sr.rls _ hB;cases s with
  |@link _ _ t n _ h1 h2 h3=>exact⟨h1,t,n,aw (tB _ (Ap ..)) h2,aw (tB _ (Ag _ (Ap ..))) h3⟩
 |ei r A=>cases hc
 |bo r A B=>cases hc
 |cu p q A B=>cases hc
theorem aX.leavesN{A:Ru}{E:List Nat}(T:aX ks A E):(jj (zd A)).length=(mE rP (vz ks (qk A)) (vz ks (qk A)).length).length:=by
 refine((AJ T.lkN (by unfold mE;exact BL.filter _)).mpr fun x=>?_).length_eq;rw[T.sr.leaves.mem_iff,AS];constructor
 ·rintro⟨h1,h2⟩;have hl:=T.sr.lt x h1;have e:=Aj hl;rw[e] at h2;exact yR (aw h1 e) h2 (by rw[ve];exact hl)
 ·intro h;obtain⟨_,k,e,hb⟩:=t8 h;cases k with
  |none=>cases hb
  |some k=>
   obtain⟨a,b⟩:=dN e;exact⟨a,by rw[b];exact hb⟩
def jG:x0:=fun ys L Q=>∃a l,∃ks:List Kn,∃A:Ru,∃E:List Nat,∃lk:List (Nat×Nat),ys=[.ref a,.ref l]/\L a=some (.lst (kh (vz ks (qk A))))/\L l=some (.lst (xp lk))/\aX ks A E/\lk.Perm (zd A)/\lk.Pairwise eQ/\Q (.bl true) L
theorem aa7:∀ys L Q,jG ys L Q->v3 (fI (aH 120)) 7 ys L Q:=by
 rintro ys L Q ⟨a,l,ks,A,E,lk,rfl,ha,hl,T,pl,pw,q⟩;have big:=bg_;have kl:=T.len;have tl:=T.small;have rz:=vj A;have rp:=xw A;have ll:=pl.length_eq;have hN:(jj lk).Nodup:=(aU pl).nodup_iff.mpr T.lkN;have fr:=yW pw hN;obtain⟨wd,ewd⟩:∃wd,wd=vz ks (qk A):=⟨_,rfl⟩;have lkA:=T.lkA;have lN:=T.leavesN;have wl:wd.length≤96:=by rw[ewd,ve];exact kl
 rw[<-ewd] at ha lkA lN;intro us hus;have s2:qj L (qg L us (.dct [])):=By hus;refine xo (s2 _ _ hl) fun keep kp=>vf ⟨fun i τ L'=>∃kvs c4 c5,∃v:Int,τ=[some (.ref a),some (.ref l),some (.ref us),some (.int v),c4,c5,none]/\qj L L'/\L' us=some (.dct kvs)/\TkI (jj (lk.take i)) kvs/\∀b∈lk.drop i,v<((b.1:Nat):Int),⟨[],_,_,_,rfl,s2,q9,⟨fun _=>rfl,rfl⟩,fun b _=>(by show(-1:Int)<_;lia)⟩,?_,?_,?_⟩
 ·rintro i τ L' ⟨kvs,c4,c5,v,rfl,s,_⟩;exact kp L' (by rw[s _ _ hl,s2 _ _ hl])
 ·rintro i y τ L' hy ⟨kvs,c4,c5,v,rfl,s,g,K,hv⟩;rw[Aq] at hy;obtain⟨c,ec,rfl⟩:=Ay.mp hy;obtain⟨lt,t,n,h1,h2⟩:=lkA c (pl.mem_iff.mp (AO ec));obtain⟨n1,n2⟩:=rN hN ec;have kz:=K.len;rw[bR,AN] at kz;have s':=s _ _ ha;refine xj (Ax (by have:=hv c (o4 ec);show ¬((c.1:Nat):Int)≤v;lia)) ?_;refine xj (Ax (by show ¬((c.1:Nat):Int)≥((c.2:Nat):Int);lia)) ?_;refine zn g (xj (by show(xm kvs (.inl ((c.1:Nat):Int))).isSome=false;rw[K.val,Ax n1]) ?_);refine zn g (xj (by show(xm kvs (.inl ((c.2:Nat):Int))).isSome=false;rw[K.val,Ax fun z=>n2 (Ar _ z)]) ?_);refine qd s' (qp (km h1) (qd s' (qp (km h2) ⟨.leaf (!t) n,rfl,(show 1≤120 by decide),?_⟩)));refine i0 (neg:=true) (u:=.leaf t n) (v:=.leaf (!(!t)) n) (show 1≤128 by decide) ?_;rw[DQ,eS];refine qd s' (qp (km h1) ?_);refine zn g ⟨big _ (by lia),?_⟩;have K1:=K.put n1 (.bl true);have K2:=K1.put n2 (.bl true);have z1:=K1.len;rw[Ac,bR,AN] at z1;refine zn q9 ⟨big _ (by simp at z1;lia),?_⟩;rw[jx];exact⟨_,EE _,_,_,_,_,rfl,s.upd hus,q9,by rw[oT ec];exact K2,uW fr ec⟩
 rintro τ L3 ⟨kvs,c4,c5,v,rfl,s,g,K,_⟩;rw[Ae,Bt] at K;have k1:=s _ _ ha;have lw:(kh wd).length=wd.length:=Ae ..;refine qd k1 ⟨⟨A7 _,by rw[lw];omega⟩,?_⟩;rw[lw,BA];refine oA (fun i zs=>zs=nY (mE rP wd i)) (big _ (by lia)) rfl ?_ ?_
 ·rintro i zs hi rfl;obtain⟨k,ek⟩:∃k,wd[i]?=some k:=⟨_,Aj hi⟩;have no:rP k=false->bX (fun zs L'=>L'=L3/\zs=nY (mE rP wd (i+1))) (nY (mE rP wd i)) L3:=fun h=>⟨L3,EE _,rfl,by rw[ou ek,Az (by rw[h];exact AC),AQ]⟩;have yes:rP k=true->bX (fun zs L'=>L'=L3/\zs=nY (mE rP wd (i+1))) (nY (mE rP wd i)++[.int (0+(i:Int))]) L3:=fun h=>⟨L3,EE _,rfl,by rw[ou ek,AB h,i3,Cr];rfl⟩;refine qd k1 (qp (eh ek) ?_);cases k with
  |none=>exact no rfl
  |some k=>
   cases k with|lf t n=>exact qd k1 (qp (eh ek) (yes rfl))|nd e i' j'=>exact qd k1 (qp (eh ek) (no rfl))
 rintro zs rfl p hp;have e:((nY (mE rP wd wd.length)).length:Int)=(kvs.length:Int):=by rw[aK,K.len,(aU pl).length_eq,lN]
 refine qd q9 (zn ((qb (w6 g hp)).trans g) ?_);show fz Q (.bl (nb false (decide (((nY (mE rP wd wd.length)).length:Int)=(kvs.length:Int))))) _;rw[AH e];exact cD (s.trans (By hp)) q
theorem aX.ctA{A:Ru}{E:List Nat}(T:aX ks A E):∀c∈zp A,∃w:Wd,KW (kh (vz ks (qk A))) c.1 w/\KW (kh (vz ks (qk A))) c.2 w.turn/\w.depth≤96:=fun c hc=>by
 rw[<-aj] at hc;obtain⟨B,hB,hc⟩:=A3.mp hc;cases B with
 |cu p q C D=>
  cases Ak.mp hc;obtain⟨⟨EB,s⟩,tB,_⟩:=T.sr.rls _ hB;cases s with
  |@cu _ _ _ _ EC ED _ w hC hD h3 h4 h5 h6=>
   have w1:=T.word (tB p (Ar _ (hC.sub p h3))) h5;exact⟨w,w1,T.word (tB q (Af _ (hD.sub q h4))) h6,T.wdep w1⟩
 |link p q=>cases hc
 |ei r A=>cases hc
 |bo r A B=>cases hc
theorem af2{k:Kn}{P R:Prop}(h:R):(match l9 (some k) with | .non=>P | _=>R):=by cases k<;>exact h
def kD:x0:=fun ys L Q=>∃a l,∃ks:List Kn,∃A:Ru,∃E:List Nat,∃ct:List (Nat×Nat),ys=[.ref a,.ref l]/\L a=some (.lst (kh (vz ks (qk A))))/\L l=some (.lst (xp ct))/\aX ks A E/\ct.Perm (zp A)/\ct.Pairwise eQ/\Q (.bl true) L
theorem zK:∀ys L Q,kD ys L Q->v3 (gL (ku 120) (aH 120)) 7 ys L Q:=by
 rintro ys L Q ⟨wa,ca,ks,A,E,ct,rfl,e1,e3,T,pc,pw,q⟩;have big:=bg_;have kl:=T.len;have tl:=T.small;have rz:=vj A;have rp:=xw A;have ll:=pc.length_eq;have hN:(jj ct).Nodup:=(aU pc).nodup_iff.mpr T.ctN;have fr:=yW pw hN;have ctA:=T.ctA;have ctP:∀x∈jj ct,x∉vi (vz ks (qk A)):=fun x hx=>T.cut ((aU pc).mem_iff.mp hx);obtain⟨wd,ewd⟩:∃wd,wd=vz ks (qk A):=⟨_,rfl⟩;have wl:wd.length≤96:=by rw[ewd,ve];exact kl
 rw[<-ewd] at e1 ctA ctP;intro us hus;have s2:qj L (qg L us (.dct [])):=By hus;refine xo (s2 _ _ e1) fun keep kp=>vf ⟨fun i τ L'=>∃kvs c4 c5 c6,τ=[some (.ref wa),some (.ref ca),some (.ref us),some (.int (-1)),c4,c5,c6]/\qj L L'/\L' us=some (.dct kvs)/\mO (vi (wd.take i)) kvs,⟨[],_,_,_,rfl,s2,q9,mO.nil⟩,?_,?_,?_⟩
 ·rintro i τ L' ⟨kvs,c3,c4,c5,rfl,s,_⟩;exact kp L' (by rw[s _ _ e1,s2 _ _ e1])
 ·rintro i y τ L' hy ⟨kvs,c3,c4,c5,rfl,s,g,U⟩;rw[Aq] at hy;obtain⟨k,ek,rfl⟩:=Ay.mp hy;have et:wd.take (i+1)=wd.take i++[k]:=by rw[Bi,ek];rfl
  have pl:=dI (wd.take i);rw[AN] at pl;have ul:=U.len;have stay:ju k=[]->mO (vi (wd.take (i+1))) kvs:=fun h=>by rw[et,cB,h,AQ];exact U
  cases k with
  |none=>exact⟨_,EE _,_,_,_,_,rfl,s,g,stay rfl⟩
  |some k=>
   cases k with
   |lf t n=>exact⟨_,EE _,_,_,_,_,rfl,s,g,stay rfl⟩
   |nd e i' j'=>
    refine zn g ⟨big _ (by lia),?_⟩;have U1:=U.put i' (.bl true);have k1:=U1.len;rw[Ac] at k1;refine zn q9 ⟨big _ (by simp at k1;lia),?_⟩;have U2:=U1.put j' (.bl true);rw[jx];exact⟨_,EE _,_,_,_,_,rfl,s.upd hus,q9,by rw[et,cB];rw[AD] at U2;exact U2⟩
 rintro τ L2 ⟨kvs,c4,c5,c6,rfl,s3,g,U⟩;rw[Ae,Bt] at U;have pl:=dI wd;have pcl:=bR ct;refine xo (s3 _ _ e3) fun keep kp=>vf ⟨fun i τ L'=>∃kvs c5 c6,∃v:Int,τ=[some (.ref wa),some (.ref ca),some (.ref us),some (.int v),c4,c5,c6]/\qj L L'/\L' us=some (.dct kvs)/\mO (vi wd++jj (ct.take i)) kvs/\∀b∈ct.drop i,v<((b.1:Nat):Int),⟨_,_,_,_,rfl,s3,g,by show mO (vi wd++[]) _;rw[AQ];exact U,fun b _=>(by show(-1:Int)<_;lia)⟩,?_,?_,?_⟩
 ·rintro i τ L' ⟨kvs,c4,c5,v,rfl,s,_⟩;exact kp L' (by rw[s _ _ e3,s3 _ _ e3])
 ·rintro i y τ L' hy ⟨kvs,c5,c6,v,rfl,s,g,U,hv⟩;rw[Aq] at hy;obtain⟨pr,ep,rfl⟩:=Ay.mp hy;have hm:=AO ep;obtain⟨w,h1,h2,hd⟩:=ctA pr (pc.mem_iff.mp hm);obtain⟨k1,x1⟩:=h1.ex;obtain⟨k2,x2⟩:=h2.ex;obtain⟨m1,m2⟩:=af hm;obtain⟨n1,n2⟩:=rN hN ep;have u1:pr.1∉vi wd++jj (ct.take i):=fun z=>(Al.mp z).elim (ctP _ m1) n1;have u2:pr.2∉vi wd++jj (ct.take i):=fun z=>(Al.mp z).elim (ctP _ m2) fun z=>n2 (Ar _ z);have ne:pr.1≠pr.2:=fun z=>n2 (Af _ (Ak.mpr z.symm));have pt:=bR (ct.take i);rw[AN] at pt;have ul:=U.len;rw[Ac] at ul;have s':=s _ _ e1;have dt:w.turn.depth=w.depth:=cA w;refine xj (Ax (by have:=hv pr (o4 ep);show ¬((pr.1:Nat):Int)≤v;lia)) ?_;refine xj (Ax (by show ¬((pr.1:Nat):Int)=((pr.2:Nat):Int);lia)) ?_;refine zn g (xj (by show(xm kvs (.inl ((pr.1:Nat):Int))).isSome=false;rw[U.val,Ax u1]) ?_);refine zn g (xj (by show(xm kvs (.inl ((pr.2:Nat):Int))).isSome=false;rw[U.val,Ax u2]) ?_);refine qd s' (qp (km x1) ?_);refine af2 ?_;refine qd s' (qp (km x2) ?_);refine af2 ?_;refine⟨wa,kh wd,pr.1,w,rfl,s',h1,by lia,?_⟩;refine⟨wa,kh wd,pr.2,w.turn,rfl,s',h2,by lia,⟨w.turn,rfl,by lia,?_⟩⟩;refine i0 (neg:=true) (u:=w) (v:=w.turn.turn) (by lia) ?_;rw[e9,eS];refine zn g ⟨big _ (by lia),?_⟩;have U1:=U.put pr.1 (.bl true);have z1:=U1.len;rw[Ac,Ac] at z1;refine zn q9 ⟨big _ (by simp at z1;lia),?_⟩;have U2:=U1.put pr.2 (.bl true);rw[jx];exact⟨_,EE _,_,_,_,_,rfl,s.upd hus,q9,by rw[oT ep,<-AD,<-AD];exact U2,uW fr ep⟩
 rintro τ L3 ⟨kvs,c5,c6,v,rfl,s4,g,U,_⟩;exact cD s4 q
def ac3(p0:x0)(p1:x0)(p2:x0)(p3:x0)(p4:x0)(p5:x0)(p6:x0):ww:=(qt (j5 (zm wm (zm cX (zm aew (qc 0) (v5 (wu (jo 0)))) (jo 0)) (zm amr (jo 10) (jo 9))) (qh 1))
 (qt (j5 (za p0 (qe (ySl zG (qc 0) (cV (jo 1)) al) (aY (qc 1) (jo 96)))) (cT 2 (jg (qh 2) (jg (qh 3) bN))))
 (jK (xf (eJ (zm wm (zm ar (qc 1) (jo 5)) (jo 2)) (jo 1)) (qt (j5 (za p1 (qe (qc 3) (qe (zm wm (zm sk (qc 1) (jo 69621)) (jo 2147483647)) z0))) (qh 3))
 (qt (j5 (zm cX (za p2 (wu (qc 3))) (jo 2)) (qh 4))
 (j5 (rS 1 (dq (wu (bB 2))) (qh 8) xW (yIf (yB (zm (lW false) (qc 8) (qc 4))) (zm cX (qc 2) (qc 8)) (yC .non))) (qh 2)))) jp)
 (qt (j5 (eM bZ (wu (qc 2))) (qh 5))
 (qt (j5 (za p3 (qe (rdT (qc 5) (qc 3)) z0)) (qh 6))
 (qt (xf (lV (gG (yB (za p4 (qe (qc 6) (aY (qc 2) (qc 3)))))) (yX (qc 5) (qc 2))) (jm (yC (.bl false))) jp)
 (qt (xf (yX (za p5 (qe (rdT (qc 5) (qc 3)) z0)) (za p6 (aY (qc 2) (jw 6 2)))) (jm (yC (.bl false))) jp)
 (qt (j5 (za p3 (qe (rdT (qc 5) (qc 3)) z0)) (qh 7))
 (qt (xf (gG (yB (za p4 (qe (qc 7) (aY (qc 2) (qc 3)))))) (jm (yC (.bl false))) jp)
 (qt (js (aq j8 (jw 7 0) (wu (yC .non))))
 (qt (js (aq nR (jw 7 1) z0))
 (qt (js (aq j8 (jw 7 2) (qe (rdT (jo 0) (jo 0)) z0)))
 (jm (af0 (za p4 (qe (qc 6) (aY (qc 2) (qc 3)))) (zm (t7 false) (qc 5) (qc 2))))))))))))))))
theorem SR.count{E:List Nat}(h:SR ks R E):((qk R).filter fun p=>vk false (ks[p]?)).length+(zp R).length+1=(zd R).length:=by
 induction h with
 |@link p q t n E' h1 h2 h3 h4 h5=>
  show([p,q].filter fun p=>vk false (ks[p]?)).length+0+1=1;rw[Bl,Bl,h2,h3];rfl
 |@ei r i j A EA E' h1 hA h3 h4 h5 h6 h7 ih=>
  show((r::qk A).filter fun p=>vk false (ks[p]?)).length+(zp A).length+1=(zd A).length;rw[Bl,h1];exact ih
 |@bo r i j A B EA EB E' h1 hA hB h4 h5 h6 h7 ih1 ih2=>
  show((r::(qk A++qk B)).filter fun p=>vk false (ks[p]?)).length+(zp A++zp B).length+1=(zd A++zd B).length;rw[Bl,h1];show(((qk A++qk B).filter fun p=>vk false (ks[p]?)).length+1)+_+1=_;rw[BE,Ac,Ac,Ac];lia
 |@cu p q A B EA EB E' w hA hB h3 h4 h5 h6 h7 h8 ih1 ih2=>
  show((qk A++qk B).filter fun p=>vk false (ks[p]?)).length+((zp A++zp B).length+1)+1=(zd A++zd B).length;rw[BE,Ac,Ac,Ac];lia
theorem ug{A:Ru}{E:List Nat}(T:aX ks A E):((vz ks (qk A)).filter (vk false)).length=((qk A).filter fun p=>vk false (ks[p]?)).length:=by
 unfold vz;rw[List.filter_map,Ae];refine((AJ (BL.filter _) (T.nd.filter _)).mpr fun x=>?_).length_eq;rw[AS,AS,Bb];constructor
 ·rintro⟨a,b⟩;have b:vk false (if x∈qk A then ks[x]? else none)=true:=b;by_cases c:x∈qk A
  ·rw[AB c] at b;exact⟨c,b⟩
  ·rw[Az c] at b;cases b
 ·rintro⟨a,b⟩;refine⟨T.sr.lt x a,?_⟩;show vk false (if x∈qk A then ks[x]? else none)=true;rw[AB a];exact b
theorem oJ{a:Addr}(h:L a=some (.lst (kh wd))):jc L 2 (.ref a) (.lst (wd.map qR)):=.inr (.inr ⟨_,_,rfl,rfl,w4 h,iN _⟩)
def jA:x0:=fun ys L Q=>∃wa la ca a,∃ks:List Kn,∃A:Ru,∃E:List Nat,∃lk ct:List (Nat×Nat),ys=[aj7 wa la ca,.ref a,qm A]/\L wa=some (.lst (kh (vz ks (qk A))))/\L la=some (.lst (xp lk))/\L ca=some (.lst (xp ct))/\L a=some (.lst (kh (vz ks (qk A))))/\aX ks A E/\WbO A lk ct/\Q (.bl true) L
theorem yj:∀ys L Q,jA ys L Q->v3 (nU iV gC kD jG) 7 ys L Q:=by
 rintro ys L Q ⟨wa,la,ca,a,ks,A,E,lk,ct,rfl,hw,hl,hc,ha,T,W,q⟩;have big:=bg_;have kl:=T.len;have tl:=T.small;have rz:=vj A;have rp:=xw A;have n1:=W.pl.length_eq;have n2:=W.pc.length_eq;refine⟨A,rfl,tl,fun l2 c2 t2 lk0 ct0 kvs L1 s1 _ _ _ g1 g2 _ pl pc _=>?_⟩;have hw:=s1 _ _ hw;have hl:=s1 _ _ hl;have hc:=s1 _ _ hc;have ha:=s1 _ _ ha;refine uF hw ?_;refine xj rfl ?_;refine⟨rfl,rfl,2,2,_,_,by decide,oJ hw,oJ ha,?_⟩;refine xj (by show(!Da.eqs _ _)=false;rw[oC];rfl) ?_;have bl:∀p∈lk,p.2<1000000:=fun p hp=>by have:=T.sr.lt _ (T.lkT (af (W.pl.mem_iff.mp hp)).2);lia
 have bc:∀p∈ct,p.2<1000000:=fun p hp=>by have:=T.sr.lt _ (T.ctT (af (W.pc.mem_iff.mp hp)).2);lia
 refine⟨la,l2,lk,lk0,rfl,hl,g1,W.pl.trans pl.symm,W.wl,W.pl.nodup_iff.mpr (a9 T.lkN),bl,by lia,?_⟩;refine⟨ca,c2,ct,ct0,rfl,hc,g2,W.pc.trans pc.symm,W.wc,W.pc.nodup_iff.mpr (a9 T.ctN),bc,by lia,?_⟩;refine⟨a,la,ks,A,E,lk,rfl,ha,hl,T,W.pl,W.wl,?_⟩;refine⟨a,ca,ks,A,E,ct,rfl,ha,hc,T,W.pc,W.wc,?_⟩;refine xo ha fun keep kp=>cf (fun i zs=>zs=kh (((vz ks (qk A)).take i).filter (vk false))) (by rw[iR,ve];exact big _ (by lia)) (kp _ rfl) rfl ?_ ?_
 ·rintro i y zs hy rfl;rw[Aq] at hy;obtain⟨k,ek,rfl⟩:=Ay.mp hy;have et:((vz ks (qk A)).take (i+1)).filter (vk false)=((vz ks (qk A)).take i).filter (vk false)++if vk false k=true then [k] else []:=by rw[Bi,ek,BE];show _++[k].filter (vk false)=_;rw[Bl];rfl
  have no:vk false k=false->bX (fun zs L'=>L'=L1/\zs=kh (((vz ks (qk A)).take (i+1)).filter (vk false))) (kh (((vz ks (qk A)).take i).filter (vk false))) L1:=fun h=>⟨_,EE _,rfl,by rw[et,Az (by rw[h];exact AC),AQ]⟩;have yes:vk false k=true->bX (fun zs L'=>L'=L1/\zs=kh (((vz ks (qk A)).take (i+1)).filter (vk false))) (kh (((vz ks (qk A)).take i).filter (vk false))++[l9 k]) L1:=fun h=>⟨_,EE _,rfl,by rw[et,AB h,i6]⟩;cases k with
  |none=>exact no rfl
  |some k=>
   cases k with
   |lf t n=>cases t<;>exact no rfl
   |nd e i' j'=>
    cases e with|true=>exact no rfl|false=>exact yes rfl
 rintro zs rfl p hp;rw[iR,Bt];refine qd (By hp _ _ hl) (qd q9 (qd (By hp _ _ hc) ?_));have e:((xp lk).length:Int)=((kh ((vz ks (qk A)).filter (vk false))).length:Int)+((xp ct).length:Int)+1:=by have:=T.sr.count;have:=ug T;rw[iR,Ae,Ae];lia
 show fz Q (.bl (nb false (decide (((xp lk).length:Int)=((kh ((vz ks (qk A)).filter (vk false))).length:Int)+((xp ct).length:Int)+1)))) _;rw[AH e];exact cD (s1.trans (By hp)) q
theorem zX :∀ys L Q,m6 Pt lamQ ys L Q->v3 (ac3 (jB Pt) gK iV ij jA jT my) 8 ys L Q:=by
 rintro ys L Q ⟨ns,rfl,h63,hL,q⟩;have hP:L Pt=some (.tb lamQ):=by rw[hL];exact q9
 clear hL;have big:=bg_;intro p0 hp0;refine qd q9 ⟨rfl,rfl,small (by rw[Ae];show ns.length+1≤1000;lia),fun p hp=>?_⟩;obtain⟨c,ec⟩:∃c:Int,fg (ns.map Y.int++[Y.int 0]) 0=some (Y.int c):=by cases ns with|nil=>exact⟨0,rfl⟩|cons a r=>exact⟨a,kn (j:=0) rfl⟩
 refine qd q9 (qp ec ⟨⟨by decide,by decide,by decide⟩,(by decide:(0:Int)<10 ^ (9:Int).toNat),?_⟩);show qh 1 (Y.int (c % (10:Int) ^ (9:Int).toNat)) _ _ _;have hP1:=((By (o:=.lst [Y.int 0]) hp0).trans (By (o:=.lst (ns.map Y.int++[Y.int 0])) hp)) _ _ hP;generalize c % (10:Int) ^ (9:Int).toNat=s;generalize qg (qg _ p0 _) p _=L1 at hP1 ⊢;clear hp hp0 ec hP;obtain⟨ms,ems,hms⟩:=yV ns (some 1) none;intro pm hpm;rw[ems];refine⟨pm,ms,s,96,rfl,q9,by lia,by decide,By hpm _ _ hP1,fun w ks R E hw T tp=>?_⟩;have eall:vz ks (qk R)=ks.map some:=adf fun p hp=>tp.mem_iff.mpr (Bb.mpr hp);have gw:qg (qg L1 pm (.lst (ms.map Y.int))) w (.lst (zw ks)) w=some (.lst (zw ks)):=q9;generalize qg (qg L1 pm (.lst (ms.map Y.int))) w (.lst (zw ks))=L2 at gw ⊢;clear hw hpm;have kl:=T.len;refine⟨fun τ L'=>∃a B EB c4,τ=[some (.sq (ns.map Y.int)),some (.int s),some (.ref a),some (qm B),c4,none,none,none]/\aX ks B EB/\L' a=some (.lst (kh (vz ks (qk B)))),?_,?_⟩
 ·refine⟨⟨by decide,by decide⟩,(show(0:Int)<2 by decide),?_⟩;refine x5 (fun c=>?_) fun c=>⟨w,R,E,_,rfl,T,by rw[eall,vn];exact gw⟩;refine⟨.inr ⟨by decide,by decide⟩,(show(0:Int)<2147483647 by decide),R,_,rfl,T.small,fun B hB=>?_⟩;obtain⟨EB,TB⟩:=T.inner hB;refine⟨B,rfl,TB.small,fun la ca ta lk ct kvs L3 s3 _ _ _ _ _ g3 _ _ hv=>?_⟩;have gw3:=s3 _ _ gw;have lk':(zw ks).length=ks.length:=Ae ..;refine qd gw3 ⟨⟨A7 _,by rw[lk'];lia⟩,?_⟩;rw[lk',BA];refine oA (fun i zs=>zs=kh ((vz ks (qk B)).take i)) (big _ (by lia)) rfl ?_ ?_
  ·rintro i zs hi rfl;have e1:(vz ks (qk B)).take (i+1)=(vz ks (qk B)).take i++[if i∈qk B then ks[i]? else none]:=by rw[Bi,kK hi];rfl
   refine zn g3 ?_;rw[show(Sum.inl (0+(i:Int)):j3)=.inl (i:Int) by rw[Cr],hv];by_cases c:i∈qk B
   ·refine gM (AH c) (qd gw3 (qp (v:=ig ks[i]) (by rw[Cr];exact km (Aj hi)) ⟨_,EE _,rfl,?_⟩));rw[e1,AB c,Aj hi,<-i6];rfl
   ·refine xj (Ax c) ⟨_,EE _,rfl,?_⟩;rw[e1,Az c,<-i6];rfl
  rintro zs rfl p7 h7;have:(vz ks (qk B)).take ks.length=vz ks (qk B):=AZ (by rw[ve];exact An _);rw[this];exact⟨p7,B,EB,_,rfl,TB,q9⟩
 clear gw eall;rintro τ L2 ⟨a,B,EB,c4,rfl,T,ga⟩;have rz:=vj B;have rp:=xw B;have tl:=T.small;refine qd ga fun h hh=>?_;have ga:=By (o:=.lst (kh (vz ks (qk B)))) hh _ _ ga;have gh:qg L2 h (.lst (kh (vz ks (qk B)))) h=some (.lst (kh (vz ks (qk B)))):=q9;generalize qg L2 h (.lst (kh (vz ks (qk B))))=L3 at ga gh ⊢;refine⟨h,ks,B,EB,rfl,gh,T,fun wa la ca lk ct L4 s4 _ _ _ _ _ _ g1 g2 g3 W=>?_⟩;have ga:=s4 _ _ ga;have gh:=s4 _ _ gh;refine⟨wa,la,ca,a,ks,B,EB,lk,ct,rfl,g1,g2,g3,ga,T,W,?_⟩;refine xj rfl ?_;refine⟨rfl,rfl,2,2,_,_,by decide,oJ gh,oJ ga,?_⟩;refine xj (by show(!Da.eqs _ _)=false;rw[oC];rfl) ?_;refine⟨h,ks,B,EB,rfl,gh,T,fun D F hD pF wF=>?_⟩;have cl:=W.pc.length_eq;refine⟨a,ca,_,ct,rfl,By hD _ _ ga,By hD _ _ g3,by rw[ve];lia,by lia,fun p hp=>?_⟩;rw[<-adj T W.pc pF wF];have s5:=(By (o:=.lst (nY F)) hD).trans (By (o:=.lst (nY F)) hp);refine ai (neg:=true) (n:=0) (m:=0) (by decide) (By hp _ _ q9) q9 (by rw[iX];exact gA _) (by rw[iX];exact gA _) ?_;rw[ym];generalize qg (qg L4 D (.lst (nY F))) p (.lst (nY F))=L5 at s5 ⊢;have ga:=s5 _ _ ga;have gh:=s5 _ _ gh;have g1:=s5 _ _ g1;have g2:=s5 _ _ g2;have g3:=s5 _ _ g3;refine⟨h,ks,B,EB,rfl,gh,T,fun wb lb cb lk2 ct2 L6 s6 nw nl nc m1 m2 m3 f1 f2 f3 W2=>?_⟩;refine⟨wb,lb,cb,a,ks,B,EB,lk2,ct2,rfl,f1,f2,f3,s6 _ _ ga,T,W2,?_⟩;have cl2:=W2.pc.length_eq;refine qd f1 (qw f1 ⟨by rw[iR,ve];exact big _ (by lia),?_⟩);have f2:=(qb (o:=.lst (kh (vz ks (qk B))++[.non])) (AM m1)).trans f2;refine qd f2 (qw f2 ?_);have f3:=(qb (o:=.lst (kh (vz ks (qk B))++[.non])) (AM m2)).trans f3;have f3:=(qb (o:=.lst []) (AM m3)).trans f3;refine qd f3 (qw f3 ⟨by rw[Ae];exact big _ (by lia),?_⟩);have s7:=((s6.upd (o:=.lst (kh (vz ks (qk B))++[.non])) nw).upd (o:=.lst []) nl).upd (o:=.lst (xp ct2++[.tup [.int 0,.int 0]])) nc;refine⟨wa,la,ca,a,ks,B,EB,lk,ct,rfl,s7 _ _ g1,s7 _ _ g2,s7 _ _ g3,s7 _ _ ga,T,W,?_⟩;refine ai (n:=1) (m:=1) (by decide) (s7 _ _ gh) (s7 _ _ ga) (iN _) (iN _) ?_;show fz Q (.bl (nb false (Da.eqs _ _))) _;rw[oC];exact x8 (q _)
end L3
end
set_option maxRecDepth 100000
set_option maxHeartbeats 8000000
namespace K23
open PySem L2 L3 Words
abbrev ng:Str:="_law_knots"
abbrev nh:Str:="_law_rule"
abbrev ni:Str:="_law_word_here"
abbrev nj:Str:="_law_seed"
abbrev nq:Str:="_law_p"
abbrev nr:Str:="_law_one"
abbrev nt:Str:="_law_two"
abbrev nu:Str:="_law_knot"
abbrev nv:Str:="_law_cuts"
abbrev ny:Str:="_law_forest"
abbrev nE:Str:="_law_found"
abbrev nG:Str:="_law_script"
abbrev nH:Str:="_law_links_hold"
abbrev nI:Str:="_law_cuts_hold"
abbrev nJ:Str:="_law_links"
abbrev nK:Str:="_law_gathered"
abbrev nL:Str:="_law_at"
abbrev nM:Str:="_law_renamed"
abbrev nN:Str:="_law_k"
def top(i:Nat):Stmt:=PySem.Challenge.pw_oncewise_k23_web_of_a_tree.main.body.getD i (.Pass ⟨0,0,0,0⟩)
theorem am7:∀{us:List Value},us.length=1->∃a0,us=[a0]
 |[a0],_=>⟨a0,rfl⟩
theorem aln:∀{us:List Value},us.length=2->∃a0 a1,us=[a0,a1]
 |[a0,a1],_=>⟨a0,a1,rfl⟩
theorem ank:∀{us:List Value},us.length=3->∃a0 a1 a2,us=[a0,a1,a2]
 |[a0,a1,a2],_=>⟨a0,a1,a2,rfl⟩
theorem amy:∀{us:List Value},us.length=4->∃a0 a1 a2 a3,us=[a0,a1,a2,a3]
 |[a0,a1,a2,a3],_=>⟨a0,a1,a2,a3,rfl⟩
abbrev mH:Stmt:=top 5
abbrev i4:Stmt:=top 7
abbrev hV:Stmt:=top 10
abbrev lg:Stmt:=top 11
abbrev kZ:Stmt:=top 12
abbrev lh:Stmt:=top 13
abbrev jF:Stmt:=top 14
abbrev qX:Stmt:=top 15
abbrev mJ:Stmt:=top 16
abbrev gn:Stmt:=top 17
abbrev iu:Stmt:=top 18
abbrev ot:Stmt:=top 19
abbrev jU:Stmt:=top 21
abbrev iB:Stmt:=top 22
abbrev hJ:Stmt:=top 23
abbrev hW:Stmt:=top 24
abbrev df:Stmt:=top 25
abbrev dh:Stmt:=top 26
abbrev hE:Stmt:=top 27
abbrev gq:Stmt:=top 28
abbrev jP:Stmt:=top 29
abbrev s__law_order:Stmt:=top 30
abbrev fP:Stmt:=top 31
abbrev cz:Stmt:=top 32
abbrev iE:Stmt:=top 33
abbrev hZ:Stmt:=top 34
abbrev cW:Stmt:=top 35
abbrev gm:Stmt:=top 36
abbrev fH:Stmt:=top 37
abbrev ak:Stmt:=top 38
abbrev bG:Stmt:=top 39
abbrev f6:Stmt:=top 40
abbrev da:Stmt:=top 41
abbrev ol:Stmt:=top 42
structure V_ where
 (P:Program) (w:World) (K:Ai) (mg:Str->Option Value) (base:Heap) (Pt:Addr)
structure B_(V:V_):Prop where
 hp:∃h:Heap,V.K.In h/\h.Ns mainGlobals V.mg
 bb:V.mg "list" = none
 br:V.mg "zip" = none
 bu:V.mg "all" = none
 bg:V.mg "sorted" = none
 bf:V.mg "range" = none
 ba:V.mg "len" = none
 bn:V.mg "enumerate" = none
 bi:V.mg "max" = none
 bq:V.mg "min" = none
 be:V.mg "isinstance" = none
 bj:V.mg "int" = none
 bh:V.mg "tuple" = none
 bp:V.mg "bool" = none
 D0:z9 V.K "is_leaf" mH
 D1:z9 V.K "parts_of" i4
 D2:z9 V.K "places_of" hV
 D3:z9 V.K "arms_of" lg
 D4:z9 V.K "rules_in" kZ
 D5:z9 V.K "told_by" lh
 D6:z9 V.K "taken_by" jF
 D7:z9 V.K "demand" qX
 D8:z9 V.K "ends_by" mJ
 D9:z9 V.K "tree_ends" gn
 D10:z9 V.K "pairs_by" iu
 D11:z9 V.K "web_of" ot
 D12:z9 V.K "_law_mix" jU
 D13:z9 V.K "_law_name" iB
 D14:z9 V.K "_law_word" hJ
 D15:z9 V.K "_law_flip" hW
 D16:z9 V.K "_law_weight" df
 D17:z9 V.K "_law_mirror" dh
 D18:z9 V.K "_law_join" hE
 D19:z9 V.K "_law_fold" gq
 D20:z9 V.K "_law_cut" jP
 D21:DefInT V.K "_law_order" s__law_order V.Pt
 D22:z9 V.K "_law_moved" fP
 D23:z9 V.K nM cz
 D24:z9 V.K "_law_tree" iE
 D25:z9 V.K "_law_arms" hZ
 D26:z9 V.K nK cW
 D27:z9 V.K "_law_free" gm
 D28:z9 V.K "_law_pairs" fH
 D29:z9 V.K nH ak
 D30:z9 V.K nI bG
 D31:z9 V.K "_law_holds" f6
 D32:z9 V.K "_law_within" da
 k_LEAF_KINDS:ak9 ⟨V.K,V.P,V.w⟩ V.mg "LEAF_KINDS" dc
 i_PLACE_COUNTS:ajl ⟨V.K,V.P,V.w⟩ V.mg "PLACE_COUNTS" aM
abbrev Q_(V:V_)(k:Nat)(x:Str)(ps:List Str)(sp:x0):Prop:=af6 V.P V.w V.K V.mg V.base k x ps sp
abbrev c0(_:V_):Prop:=True
local macro_rules | `(tactic| walk_at "s")=>`(tactic| exact⟨rfl,rfl,rfl,by decide +kernel,rfl,by decide +kernel,by decide +kernel⟩)
local macro_rules | `(tactic| walk_at "l")=>`(tactic| first | exact fun _ _ _ ⟨_,e,_⟩=>by rw[e];rfl | exact fun _ _ _ ⟨_,_,e,_⟩=>by rw[e];rfl | exact fun _ _ _ ⟨_,_,_,e,_⟩=>by rw[e];rfl | exact fun _ _ _ ⟨_,_,_,_,e,_⟩=>by rw[e];rfl | exact fun _ _ _ ⟨_,_,_,_,_,e,_⟩=>by rw[e];rfl | exact fun _ _ _ ⟨_,_,_,_,_,_,e,_⟩=>by rw[e];rfl | exact fun _ _ _ ⟨_,_,_,_,_,_,_,e,_⟩=>by rw[e];rfl | exact fun _ _ _ ⟨_,_,_,_,_,_,_,_,_,e,_⟩=>by rw[e];rfl)
local macro_rules | `(tactic| walk_at "x")=>`(tactic| first | exact fun _ _ _ _ ⟨_,e,_⟩=>by rw[e];rfl | exact fun _ _ _ _ ⟨_,_,e,_⟩=>by rw[e];rfl | exact fun _ _ _ _ ⟨_,_,_,e,_⟩=>by rw[e];rfl | exact fun _ _ _ _ ⟨_,_,_,_,e,_⟩=>by rw[e];rfl | exact fun _ _ _ _ ⟨_,_,_,_,_,e,_⟩=>by rw[e];rfl | exact fun _ _ _ _ ⟨_,_,_,_,_,_,e,_⟩=>by rw[e];rfl | exact fun _ _ _ _ ⟨_,_,_,_,_,_,_,e,_⟩=>by rw[e];rfl | exact fun _ _ _ _ ⟨_,_,_,_,_,_,_,_,_,e,_⟩=>by rw[e];rfl)
local macro_rules | `(tactic| walk_at "b")=>`(tactic| (intro _ _ _ _ _ _ us hl;first | (obtain⟨_,e⟩:=am7 hl;rw[e];rfl) | (obtain⟨_,_,e⟩:=aln hl;rw[e];rfl) | (obtain⟨_,_,_,e⟩:=ank hl;rw[e];rfl) | (obtain⟨_,_,_,_,e⟩:=amy hl;rw[e];rfl)))
section
variable {f:Addr}{fd:FuncData}{x q:Str}{st:Stmt}{ps:List Str}(V:V_)(k:Nat)(N:List Str)
theorem W_{sp:x0}{t:ww}(F:Fun V.K x q st f fd)(vc:∀ys L Q,sp ys L Q->v3 t N.length ys L Q)(h:∀(cdv:Value) (A:Around) (outer:List Env) (s:Shared) (H:Hp) (E:XK),aI k (A.deeper (PyProof.Rows.envOfC q (qu st) s.heap.objs.size f cdv))->N.Nodup->(A.deeper (PyProof.Rows.envOfC q (qu st) s.heap.objs.size f cdv)).units+128<cLine->rQ (iF CX0 V.P V.w V.K V.mg V.base N q (qu st) f cdv A outer s H E).nox (jl st) t)(sc:aR N ps (qu st):=by walk_at "s")(len:∀ys L Q,sp ys L Q->ys.length=ps.length:=by walk_at "l"):Fn3 V.P V.w V.K V.mg V.base (k+1) f fd ps sp:=
 ok3 F sc len fun cdv A outer s H E hr=>⟨t,h cdv A outer s H E hr sc.nd (huK hr),vc⟩
theorem M_{sp:x0}{t:ww}(hp:∃h:Heap,V.K.In h/\h.Ns mainGlobals V.mg)(D:z9 V.K x st)(vc:∀ys L Q,sp ys L Q->v3 t N.length ys L Q)(h:∀f,∀(cdv:Value) (A:Around) (outer:List Env) (s:Shared) (H:Hp) (E:XK),aI k (A.deeper (PyProof.Rows.envOfC x (qu st) s.heap.objs.size f cdv))->N.Nodup->(A.deeper (PyProof.Rows.envOfC x (qu st) s.heap.objs.size f cdv)).units+128<cLine->rQ (iF CX0 V.P V.w V.K V.mg V.base N x (qu st) f cdv A outer s H E).nox (jl st) t)(sc:aR N ps (qu st):=by walk_at "s")(len:∀ys L Q,sp ys L Q->ys.length=ps.length:=by walk_at "l")(hb:∀(kV doc pm:Value) (an:Option Addr) (cdv ct:Value) (us:List Value),us.length=ps.length->bindArgs (PySem.W.fnOf x x (xn st) (jl st) (qu st) .none kV doc pm an cdv ct) ⟨us,[]⟩=pure (ps.zip us):=by walk_at "b"):Q_ V (k+1) x ps sp:=by obtain⟨_,X,G⟩:=hp;obtain⟨f,fd,F,b,m⟩:=D.use X G hb;exact xF.of (W_ V k N F vc (h f) sc len) b F.kp m
theorem R_{sp:Nat->x0}{t:Nat->ww}(hp:∃h:Heap,V.K.In h/\h.Ns mainGlobals V.mg)(D:z9 V.K x st)(no:∀ys L Q,¬sp 0 ys L Q)(vc:∀n ys L Q,sp (n+1) ys L Q->v3 (t n) N.length ys L Q)(h:∀n f,Q_ V (n+k) x ps (sp n)->∀(cdv:Value) (A:Around) (outer:List Env) (s:Shared) (H:Hp) (E:XK),aI (n+k) (A.deeper (PyProof.Rows.envOfC x (qu st) s.heap.objs.size f cdv))->N.Nodup->(A.deeper (PyProof.Rows.envOfC x (qu st) s.heap.objs.size f cdv)).units+128<cLine->rQ (iF CX0 V.P V.w V.K V.mg V.base N x (qu st) f cdv A outer s H E).nox (jl st) (t n))(n:Nat)(sc:aR N ps (qu st):=by walk_at "s")(len:∀n ys L Q,sp n ys L Q->ys.length=ps.length:=by walk_at "x")(hb:∀(kV doc pm:Value) (an:Option Addr) (cdv ct:Value) (us:List Value),us.length=ps.length->bindArgs (PySem.W.fnOf x x (xn st) (jl st) (qu st) .none kV doc pm an cdv ct) ⟨us,[]⟩=pure (ps.zip us):=by walk_at "b"):Q_ V (n+k) x ps (sp n):=by
 obtain⟨_,X,G⟩:=hp;obtain⟨f,fd,F,b,m⟩:=D.use X G hb
 induction n with|zero=>exact xF.of (Fn3.never no) b F.kp m|succ n ih=>rw[Nat.add_right_comm];exact xF.of (W_ V (n+k) N F (vc n) (h n f ih) sc (len _)) b F.kp m
theorem T_{sp:x0}{t:ww}(hp:∃h:Heap,V.K.In h/\h.Ns mainGlobals V.mg)(D:DefInT V.K x st V.Pt)(vc:∀ys L Q,sp ys L Q->v3 t N.length ys L Q)(h:∀f,∀(cdv:Value) (A:Around) (outer:List Env) (s:Shared) (H:Hp) (E:XK),ur V.K cdv V.Pt->aI k (A.deeper (PyProof.Rows.envOfC x (qu st) s.heap.objs.size f cdv))->N.Nodup->(A.deeper (PyProof.Rows.envOfC x (qu st) s.heap.objs.size f cdv)).units+128<cLine->rQ (iF CX0 V.P V.w V.K V.mg V.base N x (qu st) f cdv A outer s H E).nox (jl st) t)(sc:aR N ps (qu st):=by walk_at "s")(len:∀ys L Q,sp ys L Q->ys.length=ps.length:=by walk_at "l")(hb:∀(kV doc pm:Value) (an:Option Addr) (cdv ct:Value) (us:List Value),us.length=ps.length->bindArgs (PySem.W.fnOf x x (xn st) (jl st) (qu st) .none kV doc pm an cdv ct) ⟨us,[]⟩=pure (ps.zip us):=by walk_at "b"):Q_ V (k+1) x ps sp:=by obtain⟨_,X,G⟩:=hp;obtain⟨f,fd,F,b,m⟩:=D.use X G hb;exact xF.of (am6 F sc len fun cdv A outer s H E C hr=>⟨t,h f cdv A outer s H E C hr sc.nd (huK hr),vc⟩) b F.kp m
end
theorem I_{X:Cx}{a b:Expr}{ta tb:xx}{pos:Pos}(ha:QE X a ta)(hb:QE X b tb)(hp:iQ b:=by exact fun _ _=>rfl):QE X (.Subscript a b pos) (zm cX ta tb):=aj2 (ak1 X.K X.prog X.w) ha hb hp
theorem x9{X:Cx}{e:Expr}{t:xx}(h:QE X e t)(s:starEach [e] X.env=[(false,eval e X.env)]:=by rfl):QA X [e] (qe t z0):=vg h kw s
theorem ki{X:Cx}{e f:Expr}{t u:xx}(h:QE X e t)(g:QE X f u)(s:starEach [e,f] X.env=[(false,eval e X.env),(false,eval f X.env)]:=by rfl)(r:starEach [f] X.env=[(false,eval f X.env)]:=by rfl):QA X [e,f] (qe t (qe u z0)):=vg h (x9 g r) (by show _=_;rw[s,r])
theorem dR{X:Cx}{e f d:Expr}{t u v:xx}(h:QE X e t)(g:QE X f u)(i:QE X d v)(s:starEach [e,f,d] X.env=[(false,eval e X.env),(false,eval f X.env),(false,eval d X.env)]:=by rfl)(r:starEach [f,d] X.env=[(false,eval f X.env),(false,eval d X.env)]:=by rfl)(q:starEach [d] X.env=[(false,eval d X.env)]:=by rfl):QA X [e,f,d] (qe t (qe u (qe v z0))):=vg h (ki g i r q) (by show _=_;rw[s,r])
theorem E_{X:Cx}{a b:Expr}{ta tb:xx}{pos:Pos}(hu:X.A.units+128<cLine)(ha:QE X a ta)(hb:QE X b tb):QT X (.Compare a [.Eq] [b] pos) (yB (zm (t7 false) ta tb)):=jh (qK X.K X.prog X.w hu) ha hb (vd _)
theorem N_{X:Cx}{a b:Expr}{ta tb:xx}{pos:Pos}(hu:X.A.units+128<cLine)(ha:QE X a ta)(hb:QE X b tb):QT X (.Compare a [.NotEq] [b] pos) (yB (zm (t7 true) ta tb)):=jh (ajv X.K X.prog X.w hu) ha hb (vd _)
theorem S_{X:Cx}{x:Str}{e:Expr}{te:xx}{pos pos':Pos}(i:Nat)(hN:X.N.Nodup)(h:QE X e te)(hix:X.N[i]?=some x:=by rfl)(hx:yy X.env.scope x:=by exact Or.inl rfl)(hsw:swapsWith e (some (.Name x pos')) pos.line X.env=pure false:=by rfl)(hfn:X.fn x=true\/X.env.scope.names.lookup x=some .local:=by first | exact .inl rfl | exact .inr rfl | assumption):QS X (.Assign [.Name x pos'] e pos) (j5 te (qh i)):=ay (i:=i) hN hix hx h hsw hfn
theorem G_{X:Cx}{x:Str}{pos:Pos}(i:Nat)(hN:X.N.Nodup)(hix:X.N[i]?=some x:=by rfl)(hx:yy X.env.scope x:=by exact Or.inl rfl)(hfn:X.fn x=true\/X.env.scope.names.lookup x=some .local:=by first | exact .inl rfl | exact .inr rfl | assumption):QG X (.Name x pos) (qh i):=dH (i:=i) hN hix hx hfn
theorem C_{X:Cx}{e:Expr}{es:List Expr}{tr:eL}{pos p:Pos}{j k:Nat}{x:Str}{ps:List Str}{sp:x0}(c:af6 X.prog X.w X.K X.mg X.base j x ps sp)(hr:aI k X.A)(ha:QA X (e::es) tr)(hj:j≤k:=by first | decide | exact An _ | exact AW (by decide) (Cu _ _))(hg:Gl X x:=by rfl)(hdb:Ef x:=by decide)(he:Ed e es X:=by rfl)(hpl:Ee pos es X:=by rfl):QE X (.Call (.Name x p) (e::es) [] pos) (za sp tr):=amg (xF.mono c hj) hr hg ha hdb he hpl
theorem J_{X:Cx}{x:Str}{n:Int}{k:Nat}{p q pos:Pos}(i:Nat)(hN:X.N[i]?=some x:=by rfl)(hv:Vis X.env.scope x:=by first | exact Or.inl rfl | exact Or.inr (Or.inl rfl) | exact Or.inr (Or.inr rfl))(hd:Ef x:=by decide)(hc:Eg x:=by decide):QE X (.Subscript (.Name x p) (.Constant (.int n) k q) pos) (zm cX (qc i) (yC (.int n))):=I_ (qv i hN hv hd hc) qi (fun _ _=>rfl)
theorem L_{X:Cx}{e:Expr}{t:xx}{p pos:Pos}(hm:X.mg "len" = none)(h:QE X e t)(s:starEach [e] X.env=[(false,eval e X.env)]:=by rfl)(hg:Gl X "len" := by rfl):QE X (.Call (.Name "len" p) [e] [] pos) (eM dy (qe t z0)):=wr (ai5 X.K X.prog X.w) hg hm aa8 (x9 h s) (hs:=s)
theorem uD{l:List Str}(h:decide l.Nodup=true:=by kernel_rfl):l.Nodup:=of_decide_eq_true h
abbrev c1(V:V_):Prop:=c0 V/\Q_ V 1 "is_leaf" ["word"] (dk)
theorem d1(V:V_)(B:B_ V)(c:c0 V):c1 V:=⟨c,M_ V 0 ["word"] B.hp B.D0 sH fun _ _ _ _ _ _ _ hr hN hu=>(qf (qz (dO (aet _ _ _) (J_ 0) (ah8 B.k_LEAF_KINDS rfl) (by with_unfolding_all rfl))))⟩
abbrev c2(V:V_):Prop:=c1 V/\Q_ V 2 "parts_of" ["knot"] (jH)
theorem d2(V:V_)(B:B_ V)(c:c1 V):c2 V:=⟨c,M_ V 1 ["knot"] B.hp B.D1 aai fun _ _ _ _ _ _ _ hr hN hu=>(qa (jb (kg (ky (fi (qv 0)) (aJ (k8 (C_ c.2 hr (x9 (qv 0))))))) (qf (qz (zr kw))) zc) (qf (qz (zr (ki (J_ 0) (J_ 0))))))⟩
abbrev c3(V:V_):Prop:=c2 V/\Q_ V 1 "places_of" ["rule"] (oP)
theorem d3(V:V_)(B:B_ V)(c:c2 V):c3 V:=⟨c,M_ V 0 ["rule"] B.hp B.D2 adw fun _ _ _ _ _ _ _ hr hN hu=>(qf (qz (bS cw rfl B.bb am (x9 (wn (rD _ _ _) (qv 0) (wg qi) (wg (qo xb qi (qI B.i_PLACE_COUNTS rfl (J_ 0) (fun _ _=>rfl)))))))))⟩
abbrev c4(V:V_):Prop:=c3 V/\Q_ V 1 "arms_of" ["rule"] (bH)
theorem d4(V:V_)(B:B_ V)(c:c3 V):c4 V:=⟨c,M_ V 0 ["rule"] B.hp B.D3 uw fun _ _ _ _ _ _ _ hr hN hu=>(qf (qz (bS cw rfl B.bb am (x9 (wn (rD _ _ _) (qv 0) (wg (qo xb qi (qI B.i_PLACE_COUNTS rfl (J_ 0) (fun _ _=>rfl)))) bv)))))⟩
abbrev c5(V:V_):Prop:=c4 V/\Q_ V 122 "rules_in" ["rule"] (aa 120)
theorem d5(V:V_)(B:B_ V)(c:c4 V):c5 V:=⟨c,R_ V 2 ["rule", "rules", "arm"] B.hp B.D4 aav sg (fun _ _ c_rules_in _ _ _ _ _ _ hr hN hu=>(qa (S_ 1 hN (zr (x9 (qv 0)))) (qa (wo PassesOwn.never rfl (xz (C_ c.2 hr (x9 (qv 0)))) (G_ 2 hN) (qf (zf (ft (qv 1) (x9 (C_ c_rules_in hr (x9 (qv 2)))))))) (qf (qz (qv 1)))))) 120⟩
abbrev c6(V:V_):Prop:=c5 V/\Q_ V 2 "told_by" ["rule"] (fk)
theorem d6(V:V_)(B:B_ V)(c:c5 V):c6 V:=⟨c,M_ V 1 ["rule"] B.hp B.D5 vQ fun _ _ _ _ _ _ _ hr hN hu=>(qf (qz (cq (E_ hu (J_ 0) j9) (zr kw) (C_ c.1.1.2 hr (x9 (qv 0))))))⟩
abbrev c7(V:V_):Prop:=c6 V/\Q_ V 3 "taken_by" ["knots", "rule"] (mn)
theorem d7(V:V_)(B:B_ V)(c:c6 V):c7 V:=⟨c,M_ V 2 ["knots", "rule", "parts"] B.hp B.D6 abe fun _ _ _ _ _ _ _ hr hN hu=>(qa (jb (E_ hu (J_ 1) j9) (qf (qz (zr kw))) zc) (qa (jb (E_ hu (J_ 1) j9) (qf (qz (zr (ki (zr (x9 (J_ 1))) (zr (x9 (J_ 1))))))) zc) (qa (S_ 2 hN (C_ c.1.1.1.1.2 hr (x9 (I_ (qv 0) (J_ 1))))) (qa (jb (E_ hu (J_ 1) j9) (qf (qz (zr (x9 (qv 2))))) zc) (qf (qz (gg ["part"] (ES (by rfl)) rfl (xz (qv 2)) (xq uD (fun _ _ _ _=>Or.inl rfl) (fun _ _ _ _=>rfl)) (fun _ _ _ _=>oQ) (fun _ _ _ _=>(zr (x9 (qv 3)))))))))))⟩
abbrev c8(V:V_):Prop:=c7 V/\Q_ V 1 "demand" ["holds", "words"] (gE)
theorem d8(V:V_)(B:B_ V)(c:c7 V):c8 V:=⟨c,M_ V 0 ["holds", "words"] B.hp B.D7 ue fun _ _ _ _ _ _ _ hr hN hu=>(qf (jb (aN (k8 (qv 0))) (qf zA) zc))⟩
abbrev c9(V:V_):Prop:=c8 V/\Q_ V 124 "ends_by" ["knots", "rule"] (bP 120)
theorem d9(V:V_)(B:B_ V)(c:c8 V):c9 V:=⟨c,R_ V 4 ["knots", "rule", "ends", "arm", "taken", "arm_ends"] B.hp B.D8 wN vI (fun _ _ c_ends_by _ _ _ _ _ _ hr hN hu=>(qa (S_ 2 hN (C_ c.1.1.2 hr (x9 (qv 1)))) (qa (wo PassesOwn.never rfl (agd rfl B.br (ki (C_ c.1.1.1.1.2 hr (x9 (qv 1))) (C_ c.1.2 hr (ki (qv 0) (qv 1))))) (ah rfl (zh (G_ 3 hN) (zh (dH (i:=4) hN rfl (Or.inr rfl)) kj))) (qa (ay (i:=5) hN rfl (Or.inr rfl) (C_ c_ends_by hr (ki (qv 0) (qv 3)))) (qa (zf (C_ c.2 hr (ki (wr akb rfl B.bu ag5 (x9 (gg ["place"] (ES (by rfl)) rfl (xz (qv 4)) (xq uD (fun _ _ _ _=>Or.inl rfl) (fun _ _ _ _=>rfl)) (fun _ _ _ _=>oQ) (fun _ _ _ _=>(dO (aet _ _ _) (qv 6) (qv 5) (by with_unfolding_all rfl)))))) j9))) (qf (zf (ft (qv 2) (x9 (gg ["place"] (ES (by rfl)) rfl (xz (qv 5)) (xq uD (fun _ _ _ _=>Or.inl rfl) (fun _ _ _ _=>rfl)) (fun _ _ _ _=>cN (jh (sS _ _ _) (qv 6) (qv 4) (by with_unfolding_all rfl))) (fun _ _ _ _=>(qv 6)))))))))) (qf (qz (qv 2)))))) 120⟩
abbrev fB(V:V_):Prop:=c9 V/\Q_ V 125 "tree_ends" ["tree"] (jT)
theorem d10(V:V_)(B:B_ V)(c:c9 V):fB V:=⟨c,M_ V 124 ["tree"] B.hp B.D9 aap fun _ _ _ _ _ _ _ hr hN hu=>(qf (qz (wr ad0 rfl B.bg gZ (x9 (C_ c.2 hr (ki (J_ 0) (J_ 0)))))))⟩
abbrev c11(V:V_):Prop:=fB V/\Q_ V 1 "pairs_by" ["rules", "kind"] (eG)
theorem d11(V:V_)(B:B_ V)(c:fB V):c11 V:=⟨c,M_ V 0 ["rules", "kind"] B.hp B.D10 sJ fun _ _ _ _ _ _ _ hr hN hu=>(qf (qz (wr uM rfl B.bg gZ (x9 (gg ["rule"] (ES (by rfl)) rfl (xz (qv 0)) (xq uD (fun _ _ _ _=>Or.inl rfl) (fun _ _ _ _=>rfl)) (fun _ _ _ _=>cN (E_ hu (J_ 2) (qv 1))) (fun _ _ _ _=>(zu (ki (J_ 2) (J_ 2)))))))))⟩
abbrev c12(V:V_):Prop:=c11 V/\Q_ V 123 "web_of" ["tree"] (ij)
theorem d12(V:V_)(B:B_ V)(c:c11 V):c12 V:=⟨c,M_ V 122 ["tree", "rules"] B.hp B.D11 aa1 fun _ _ _ _ _ _ _ hr hN hu=>(qa (S_ 1 hN (C_ c.1.1.1.1.1.1.2 hr (x9 (J_ 0)))) (qf (qz (zu (dR (bS cw rfl B.bb am (x9 (J_ 0))) (C_ c.2 hr (ki (qv 1) j9)) (C_ c.2 hr (ki (qv 1) j9)))))))⟩
abbrev c13(V:V_):Prop:=c12 V/\Q_ V 1 "_law_mix" ["_law_cell", nN, "_law_factor"] (oN)
theorem d13(V:V_)(B:B_ V)(c:c12 V):c13 V:=⟨c,M_ V 0 ["_law_cell", nN, "_law_factor"] B.hp B.D12 agq fun _ _ _ _ _ _ _ hr hN hu=>(qf (qz (qo w9 (qo xc (qo i8 (qo xb (qo xb (qo i8 (qo xc (qv 0) qi) qi) (qo i8 (qv 1) (qv 1))) qi) (qv 2)) qi) qi)))⟩
abbrev c14(V:V_):Prop:=c13 V/\Q_ V 1 "_law_name" [nj, "_law_which"] (jD)
theorem d14(V:V_)(B:B_ V)(c:c13 V):c14 V:=⟨c,M_ V 0 [nj, "_law_which", "_law_letters", "_law_size", "_law_place", "_law_base", "_law_sign"] B.hp B.D13 aaf fun _ _ _ _ _ _ _ hr hN hu=>(qa (ay (i:=2) hN rfl (Or.inr rfl) j9) (qa (S_ 3 hN (qo xb qi (qo xc (qv 0) qi))) (qa (S_ 4 hN (qo xc (qo w9 (qv 0) qi) (qv 3))) (qa (S_ 5 hN (abk j9 (x9 (gg [nN] (ES (by rfl)) rfl (aV rfl B.bf (x9 qi)) (xq uD (fun _ _ _ _=>Or.inl rfl) (fun _ _ _ _=>rfl)) (fun _ _ _ _=>oQ) (fun _ _ _ _=>(I_ (qv 2) (qo xc (qo xb (qo w9 (qv 0) qi) (qo i8 qi (qv 7))) qi))))))) (qa (jb (E_ hu (qo xc (qo w9 (qv 0) qi) qi) qi) (qf (qz (wn (uO _ _ _) (qv 5) bv (wg (qo xb qi (qo xc (qo xb (qv 1) (qv 0)) qi)))))) zc) (qa (S_ 6 hN (I_ (qv 2) (qo xc (qo xb (qo xb (qo w9 (qv 0) qi) (qo i8 qi (qv 4))) (qv 1)) qi))) (qf (qz (qo xb (qo xb (wn (uO _ _ _) (qv 5) bv (wg (qv 4))) (qv 6)) (wn (uO _ _ _) (qv 5) (wg (qo xb (qv 4) qi)) (wg (qv 3))))))))))))⟩
abbrev c15(V:V_):Prop:=c14 V/\Q_ V 121 "_law_word" [ng, nq] (ku 120)
theorem d15(V:V_)(B:B_ V)(c:c14 V):c15 V:=⟨c,R_ V 1 [ng, nq, nu] B.hp B.D14 mj pU (fun _ _ c__law_word _ _ _ _ _ _ hr hN hu=>(qa (S_ 2 hN (I_ (qv 0) (qv 1))) (qa (jb (E_ hu (L_ B.ba (qv 2)) qi) (qf (qz (qv 2))) zc) (qf (qz (zu (dR (J_ 2) (C_ c__law_word hr (ki (qv 0) (J_ 2))) (C_ c__law_word hr (ki (qv 0) (J_ 2)))))))))) 120⟩
abbrev c16(V:V_):Prop:=c15 V/\Q_ V 121 "_law_flip" [ni] (aH 120)
theorem d16(V:V_)(B:B_ V)(c:c15 V):c16 V:=⟨c,R_ V 1 [ni, "_law_sides"] B.hp B.D15 aaw y4 (fun _ _ c__law_flip _ _ _ _ _ _ hr hN hu=>(qa (S_ 1 hN (ae6 [ ("plain" , "turned") ,("turned" , "plain") ,("both" , "either") ,("either" , "both") ] (fY bw bw (fY bw bw (fY bw bw (fY bw bw ac4)))) rfl rfl (List.cons_ne_nil _ _) (C9 rfl))) (qa (jb (E_ hu (L_ B.ba (qv 0)) qi) (qf (qz (zu (ki (I_ (qv 1) (J_ 0)) (J_ 0))))) zc) (qf (qz (zu (dR (I_ (qv 1) (J_ 0)) (C_ c__law_flip hr (x9 (J_ 0))) (C_ c__law_flip hr (x9 (J_ 0)))))))))) 120⟩
abbrev c17(V:V_):Prop:=c16 V/\Q_ V 121 "_law_weight" [ni] (bM 120)
theorem d17(V:V_)(B:B_ V)(c:c16 V):c17 V:=⟨c,R_ V 1 [ni] B.hp B.D16 lF wV (fun _ _ c__law_weight _ _ _ _ _ _ hr hN hu=>(qa (jb (E_ hu (L_ B.ba (qv 0)) qi) (qf (qz qi)) zc) (qf (qz (qo xb (qo xb qi (C_ c__law_weight hr (x9 (J_ 0)))) (C_ c__law_weight hr (x9 (J_ 0)))))))) 120⟩
abbrev c18(V:V_):Prop:=c17 V/\Q_ V 127 "_law_mirror" [ng, ni] (bW 5)
theorem d18(V:V_)(B:B_ V)(c:c17 V):c18 V:=⟨c,R_ V 122 [ng, ni, "_law_left", "_law_right", "_law_turn", "_law_same", "_law_low", "_law_high"] B.hp B.D17 wE uZ (fun _ _ c__law_mirror _ _ _ _ _ _ hr hN hu=>(qa (jb (E_ hu (L_ B.ba (qv 1)) qi) (qa (zf (zg (qv 0) (x9 (C_ c.1.2 hr (x9 (qv 1)))))) (qa (zf (zg (qv 0) (x9 (qv 1)))) (qf (qz (zr (dR (zu (dR j9 (qo cR (L_ B.ba (qv 0)) qi) (qo cR (L_ B.ba (qv 0)) qi))) (qo cR (L_ B.ba (qv 0)) qi) (qo cR (L_ B.ba (qv 0)) qi))))))) zc) (qa (S_ 2 hN (C_ c__law_mirror hr (ki (qv 0) (J_ 1)))) (qa (S_ 3 hN (C_ c__law_mirror hr (ki (qv 0) (J_ 1)))) (qa (zf (zg (qv 0) (x9 (zu (dR (I_ (C_ c.1.2 hr (x9 (qv 1))) qi) (J_ 2) (J_ 3)))))) (qa (zf (zg (qv 0) (x9 (zu (dR (J_ 1) (J_ 2) (J_ 3)))))) (qa (aas (i:=4) (j:=5) rfl hN rfl rfl (by decide) rfl rfl (ki (qo cR (L_ B.ba (qv 0)) qi) (qo cR (L_ B.ba (qv 0)) qi)) rfl) (qa (S_ 6 hN (cq (E_ hu (J_ 1) j9) (qv 4) (qv 5))) (qa (S_ 7 hN (cq (E_ hu (J_ 1) j9) (qv 5) (qv 4))) (qf (qz (zr (dR (zu (dR j9 (qv 7) (zu (vg j9 (dR (qv 6) (J_ 2) (J_ 3)))))) (qv 4) (qv 5)))))))))))))) 5⟩
abbrev c19(V:V_):Prop:=c18 V/\Q_ V 1 "_law_join" [ng, ny, nr, nt] (nZ)
theorem d19(V:V_)(B:B_ V)(c:c18 V):c19 V:=⟨c,M_ V 0 [ng, ny, nr, nt, "_law_first", "_law_second", "_law_left", "_law_right", "_law_ends"] B.hp B.D18 ady fun _ _ _ _ _ _ _ hr hN hu=>(qa (S_ 4 hN (bU (qv 1) (x9 (qo xc (qv 3) (L_ B.ba (qv 1)))))) (qa (S_ 5 hN (bU (qv 1) (x9 (qo xc (qv 2) (L_ B.ba (qv 1)))))) (qa (ay (i:=6) hN rfl (Or.inr rfl) (I_ (J_ 4) (qo xc (qo w9 (qv 3) qi) (L_ B.ba (J_ 4))))) (qa (ay (i:=7) hN rfl (Or.inr rfl) (I_ (J_ 5) (qo xc (qo w9 (qv 2) qi) (L_ B.ba (J_ 5))))) (qa (zf (zg (qv 0) (x9 (zu (dR j9 (qv 6) (qv 7)))))) (qa (dD [nq] (i:=8) hN rfl (Or.inl rfl) (ES (by rfl)) rfl (xz (qo xb (J_ 4) (J_ 5))) (xq uD (fun _ _ _ _=>Or.inl rfl) (fun _ _ _ _=>rfl)) (fun _ _ _ _=>cN (jh (sS _ _ _) (qv 9) (zu (ki (qv 6) (qv 7))) (by with_unfolding_all rfl))) (fun _ _ _ _=>(qv 9))) (qf (zf (zg (qv 1) (x9 (zr (ki (zu (vg j9 (dR (qo cR (L_ B.ba (qv 0)) qi) (J_ 4) (J_ 5)))) (qo xb (qv 8) (zr (x9 (qo cR (L_ B.ba (qv 0)) qi))))))))))))))))⟩
abbrev c20(V:V_):Prop:=c19 V/\Q_ V 1 "_law_fold" [ng, "_law_tree_here", nr, nt] (jM)
theorem d20(V:V_)(B:B_ V)(c:c19 V):c20 V:=⟨c,M_ V 0 [ng, "_law_tree_here", nr, nt, "_law_left", "_law_right"] B.hp B.D19 zJ fun _ _ _ _ _ _ _ hr hN hu=>(qa (jb (jh abg (L_ B.ba (J_ 1)) qi (vd _)) (qf uX) zc) (qa (S_ 4 hN (bU (J_ 1) (x9 (qo xc (qv 3) (L_ B.ba (J_ 1)))))) (qa (S_ 5 hN (bU (J_ 1) (x9 (qo xc (qv 2) (L_ B.ba (J_ 1)))))) (qa (zf (zg (qv 0) (x9 (zu (dR j9 (qv 4) (qv 5)))))) (qa (ab5 (qv 1) qi (zu (dR j9 (qo cR (L_ B.ba (qv 0)) qi) (J_ 1)))) (qf (zf (zg (J_ 1) (x9 (qo cR (L_ B.ba (qv 0)) qi))))))))))⟩
abbrev c21(V:V_):Prop:=c20 V/\Q_ V 128 "_law_cut" [ng, ny, nr, nt] (oI)
theorem d21(V:V_)(B:B_ V)(c:c20 V):c21 V:=⟨c,M_ V 127 [ng, ny, nr, nt, "_law_first", nq, ni, "_law_second", "_law_q", nL, "_law_end", nh, "_law_same", "_law_ends"] B.hp B.D20 ach fun _ _ _ _ _ _ _ hr hN hu=>(qa (S_ 4 hN (bU (qv 1) (x9 (qo xc (qv 3) (L_ B.ba (qv 1)))))) (qa (ay (i:=5) hN rfl (Or.inr rfl) (I_ (J_ 4) (qo xc (qo w9 (qv 3) qi) (L_ B.ba (J_ 4))))) (qa (S_ 6 hN (C_ c.1.1.1.1.1.2 hr (ki (qv 0) (qv 5)))) (qa (gb (zu (ki oE oE)) (ah rfl (zh (G_ 7 hN) (zh (dH (i:=8) hN rfl (Or.inr rfl)) kj)))) (qa (wo PassesOwn.never rfl (aV rfl B.bf (x9 (L_ B.ba (qv 1)))) (G_ 9 hN) (qf (wo PassesOwn.never rfl (xz (I_ (I_ (qv 1) (qv 9)) qi)) (G_ 10 hN) (qf (jb (kg (cJ (fi (qv 7)) (aS (E_ hu (C_ c.1.1.1.1.1.2 hr (ki (qv 0) (qv 10))) (C_ c.1.1.1.1.2 hr (x9 (qv 6))))))) (qf (gb (zu (ki (I_ (qv 1) (qv 9)) (qv 10))) (ah rfl (zh (G_ 7 hN) (zh (dH (i:=8) hN rfl (Or.inr rfl)) kj))))) zc))))) (qa (jb (kg (cJ (fi (qv 7)) (aS (jh yw (C_ c.1.1.1.2 hr (x9 (qv 6))) qi (vd _))))) (qa (zf (zg (qv 1) (x9 (qv 4)))) (qf uX)) zc) (aW (jb (fi (qv 7)) (qa (gb (C_ c.1.1.2 hr (ki (qv 0) (qv 6))) (aht rfl (zh (G_ 11 hN) (zh (dH (i:=8) hN rfl (Or.inr rfl)) (zh (G_ 12 hN) kj))))) (qf (S_ 7 hN (zr (ki (qv 11) (zr (ki (qv 8) (qv 12)))))))) (qf (zf (uu hu (qv 1) (x9 (qv 7)))))) (qa (dD ["_law_x"] (i:=13) hN rfl (Or.inl rfl) (ES (by rfl)) rfl (xz (qo xb (J_ 4) (J_ 7))) (xq uD (fun _ _ _ _=>Or.inl rfl) (fun _ _ _ _=>rfl)) (fun _ _ _ _=>cN (jh (sS _ _ _) (qv 14) (zu (ki (qv 5) (qv 8))) (by with_unfolding_all rfl))) (fun _ _ _ _=>(qv 14))) (qf (jb (E_ hu (qo xc (qv 2) qi) qi) (qf (zf (zg (qv 1) (x9 (zr (ki (zu (vg j9 (vg (qv 5) (dR (qv 8) (J_ 4) (J_ 7))))) (qv 13))))))) (qf (zf (zg (qv 1) (x9 (zr (ki (zu (vg j9 (vg (qv 8) (dR (qv 5) (J_ 7) (J_ 4))))) (qv 13)))))))))))))))))⟩
abbrev c22(V:V_):Prop:=c21 V/\Q_ V 2 "_law_order" [ng, nj] (gJ V.Pt)
theorem d22(V:V_)(B:B_ V)(c:c21 V):c22 V:=⟨c,T_ V 1 [ng, nj, "_law_ranks", nq, nu, "_law_rank"] B.hp B.D21 xC fun _ _ _ _ _ _ _ C hr hN hu=>(qa (ay (i:=2) hN rfl (Or.inr rfl) (zr kw)) (qa (wo PassesOwn.never rfl (uL rfl B.bn (qv 0)) (ah rfl (zh (G_ 3 hN) (zh (G_ 4 hN) kj))) (qa (S_ 5 hN (qo xc (C_ c.1.1.1.1.1.1.1.1.2 hr (dR (qv 1) (qv 3) qi)) qi)) (aW (jb (E_ hu (L_ B.ba (qv 4)) qi) (qf (S_ 5 hN (qo xb (qo xb (qv 5) qi) (wr aer rfl B.bi zN (ki (I_ (qv 2) (J_ 4)) (I_ (qv 2) (J_ 4))))))) zc) (qf (zf (zg (qv 2) (x9 (qv 5)))))))) (qf (qz (xJ rfl B.bg (sv rfl rfl B.bb rfl B.bf (L_ B.ba (qv 0))) ⟨rfl,rfl,rfl,by decide +kernel,rfl,rfl,by decide,by decide,by decide⟩ C (dp3 hr) rfl rfl rfl ⟨_,rfl,rfl⟩ rfl (fun _ _ _ _ _ _ _=>rfl))))))⟩
abbrev c23(V:V_):Prop:=c22 V/\Q_ V 121 "_law_moved" [nh, nL] (bF 120)
theorem d23(V:V_)(B:B_ V)(c:c22 V):c23 V:=⟨c,R_ V 1 [nh, nL, "_law_places"] B.hp B.D22 yJ aa3 (fun _ _ c__law_moved _ _ _ _ _ _ hr hN hu=>(qa (jb (E_ hu (J_ 0) j9) (qf (qz (zu (dR j9 (wr akm rfl B.bq afn (ki (bY hu (qv 1) (J_ 0) (fun _ _=>rfl)) (bY hu (qv 1) (J_ 0) (fun _ _=>rfl)))) (wr aer rfl B.bi zN (ki (bY hu (qv 1) (J_ 0) (fun _ _=>rfl)) (bY hu (qv 1) (J_ 0) (fun _ _=>rfl)))))))) zc) (qa (dD ["_law_x"] (i:=2) hN rfl (Or.inl rfl) (ES (by rfl)) rfl (sF (wn (rD _ _ _) (qv 0) (wg qi) bv)) (xq uD (fun _ _ _ _=>Or.inl rfl) (fun _ _ _ _=>rfl)) (fun _ _ _ _=>cN (k8 (ao .int rfl B.be rfl B.bj yi (qv 3)))) (fun _ _ _ _=>(bY hu (qv 1) (qv 3) (fun _ _=>rfl)))) (qf (qz (bS ac2 rfl B.bh eV (x9 (qo xb (qo xb (zr (x9 (J_ 0))) (qv 2)) (gg ["_law_x"] (ES (by rfl)) rfl (sF (wn (rD _ _ _) (qv 0) (wg qi) bv)) (xq uD (fun _ _ _ _=>Or.inl rfl) (fun _ _ _ _=>rfl)) (fun _ _ _ _=>cN (k8 (ao .tuple rfl B.be rfl B.bh eV (qv 3)))) (fun _ _ _ _=>(C_ c__law_moved hr (ki (qv 3) (qv 1))))))))))))) 120⟩
abbrev c24(V:V_):Prop:=c23 V/\Q_ V 122 nM [ng, nh, nj] (dw V.Pt)
theorem d24(V:V_)(B:B_ V)(c:c23 V):c24 V:=⟨c,M_ V 121 [ng, nh, nj, nL, "_law_made", nq, nu] B.hp B.D23 sV fun _ _ _ _ _ _ _ hr hN hu=>(qa (S_ 3 hN eU) (qa (S_ 4 hN (zr kw)) (qa (wo PassesOwn.never rfl (xz (C_ c.1.2 hr (ki (qv 0) (qv 2)))) (G_ 5 hN) (qa (vh hu (qv 3) (qv 5) (L_ B.ba (qv 4))) (qa (S_ 6 hN (I_ (qv 0) (qv 5))) (qf (zf (zg (qv 4) (x9 (cq (E_ hu (L_ B.ba (qv 6)) qi) (qv 6) (zu (dR (J_ 6) (bY hu (qv 3) (J_ 6) (fun _ _=>rfl)) (bY hu (qv 3) (J_ 6) (fun _ _=>rfl)))))))))))) (qf (qz (zu (ki (qv 4) (C_ c.2 hr (ki (qv 1) (qv 3))))))))))⟩
abbrev c25(V:V_):Prop:=c24 V/\Q_ V 129 "_law_tree" ["_law_cells", nj, "_law_room"] (jB V.Pt)
theorem d25(V:V_)(B:B_ V)(c:c24 V):c25 V:=⟨c,M_ V 128 ["_law_cells", nj, "_law_room", ng, ny, nN, "_law_cell", nr, nt, "_law_deed", nL] B.hp B.D24 y8 fun _ _ _ _ _ _ _ hr hN hu=>(qa (S_ 3 hN (zr kw)) (qa (S_ 4 hN (zr kw)) (qa (wo PassesOwn.never rfl (uL rfl B.bn (qv 0)) (ah rfl (zh (G_ 5 hN) (zh (G_ 6 hN) kj))) (qa (aas (i:=7) (j:=8) rfl hN rfl rfl (by decide) rfl rfl (ki (C_ c.1.1.1.1.1.1.1.1.1.1.1.2 hr (dR (qv 6) (qv 5) qi)) (C_ c.1.1.1.1.1.1.1.1.1.1.1.2 hr (dR (qv 6) (qv 5) qi))) rfl) (qa (jb (jh yw (qo xb (qo xb (L_ B.ba (qv 3)) (L_ B.ba (qv 4))) qi) (qv 2) (vd _)) (qf pI) zc) (qa (S_ 9 hN (qo xc (qv 7) qi)) (qa (S_ 7 hN (qo w9 (qv 7) qi)) (qf (jb (kg (ky (jh abg (qv 9) qi (vd _)) (aJ (E_ hu (qv 4) (zr kw))))) (qa (zf (zg (qv 3) (x9 (zu (ki j9 (C_ c.1.1.1.1.1.1.1.1.1.1.2 hr (ki (qv 1) (qo xc (qv 8) qi)))))))) (qa (zf (zg (qv 3) (x9 (zu (ki j9 (C_ c.1.1.1.1.1.1.1.1.1.1.2 hr (ki (qv 1) (qo xc (qv 8) qi)))))))) (aW (jb (E_ hu (qo xc (qv 7) qi) qi) (qf (zf (zg (qv 3) (x9 (bU (qv 3) (x9 (qo cR (L_ B.ba (qv 3)) qi))))))) zc) (qa (S_ 10 hN (qo cR (L_ B.ba (qv 3)) qi)) (qf (zf (zg (qv 4) (x9 (zr (ki (zu (dR j9 (qv 10) (qo xb (qv 10) qi))) (zr (ki (qv 10) (qo xb (qv 10) qi))))))))))))) (qf (jb (jh abg (qv 9) qi (vd _)) (qf (zf (C_ c.1.1.1.1.2 hr (vg (qv 3) (dR (I_ (qv 4) (qo xc (qv 8) (L_ B.ba (qv 4)))) (qv 7) (qo w9 (qv 8) qi)))))) (qf (jb (kg (cJ (jh abg (qv 9) qi (vd _)) (aS (jh yw (L_ B.ba (qv 4)) qi (vd _))))) (qf (zf (C_ c.1.1.1.1.1.2 hr (vg (qv 3) (dR (qv 4) (qv 7) (qv 8)))))) (qf (zf (C_ c.1.1.1.2 hr (vg (qv 3) (dR (qv 4) (qv 7) (qv 8))))))))))))))))) (aW (jb (E_ hu (qv 4) (zr kw)) (qa (zf (zg (qv 3) (x9 (zu (ki j9 (C_ c.1.1.1.1.1.1.1.1.1.1.2 hr (ki (qv 1) qi))))))) (qa (zf (zg (qv 3) (x9 (zu (ki j9 (C_ c.1.1.1.1.1.1.1.1.1.1.2 hr (ki (qv 1) qi))))))) (qf (zf (zg (qv 4) (x9 (zr (ki (zu (dR j9 qi qi)) (zr (ki qi qi)))))))))) zc) (qa (jS PassesOwn.never (jh yw (L_ B.ba (qv 4)) qi (vd _)) (qf (zf (C_ c.1.1.1.1.1.2 hr (vg (qv 3) (dR (qv 4) (qo xb (qo w9 (qv 1) qi) (L_ B.ba (qv 4))) (qo w9 (qv 1) qi))))))) (qf (qz (C_ c.2 hr (dR (qv 3) (I_ (J_ 4) qi) (qv 1))))))))))⟩
abbrev c26(V:V_):Prop:=c25 V/\Q_ V 1 "_law_arms" [nh] (f9)
theorem d26(V:V_)(B:B_ V)(c:c25 V):c26 V:=⟨c,M_ V 0 [nh] B.hp B.D25 xK fun _ _ _ _ _ _ _ hr hN hu=>(qa (jb (E_ hu (J_ 0) j9) (qf (qz (zr (ki (J_ 0) (J_ 0))))) zc) (qa (jb (E_ hu (J_ 0) j9) (qf (qz (zr kw))) zc) (qf (qz (bS cw rfl B.bb am (x9 (wn (rD _ _ _) (qv 0) (wg qi) bv)))))))⟩
abbrev c27(V:V_):Prop:=c26 V/\Q_ V 2 nK [nh] (iV)
theorem d27(V:V_)(B:B_ V)(c:c26 V):c27 V:=⟨c,M_ V 1 [nh, nJ, nv, "_law_told", "_law_stack", nr] B.hp B.D26 ace fun _ _ _ _ _ _ _ hr hN hu=>(qa (gb (zu (vg (zr kw) (dR (zr kw) eU (zr (x9 (qv 0)))))) (ah rfl (zh (G_ 1 hN) (zh (G_ 2 hN) (zh (G_ 3 hN) (zh (G_ 4 hN) kj)))))) (qa (jS PassesOwn.never (N_ hu (qv 4) (zr kw)) (qa (S_ 5 hN (ah1 (qv 4))) (aW (jb (E_ hu (J_ 5) j9) (qa (zf (zg (qv 1) (x9 (zu (ki (J_ 5) (J_ 5)))))) (qa (vh hu (qv 3) (J_ 5) xu) (qf (vh hu (qv 3) (J_ 5) xu)))) (qf (jb (E_ hu (J_ 5) j9) (qf (zf (zg (qv 2) (x9 (zu (ki (J_ 5) (J_ 5))))))) (qf (vh hu (qv 3) (J_ 5) xu))))) (qf (zf (ft (qv 4) (x9 (C_ c.2 hr (x9 (qv 5)))))))))) (qf (qz (zu (dR (qv 1) (qv 2) (qv 3)))))))⟩
abbrev c28(V:V_):Prop:=c27 V/\Q_ V 1 "_law_free" [ng, nv] (my)
theorem d28(V:V_)(B:B_ V)(c:c27 V):c28 V:=⟨c,M_ V 0 [ng, nv, "_law_used", nu, nq, "_law_q"] B.hp B.D27 abo fun _ _ _ _ _ _ _ hr hN hu=>(qa (ay (i:=2) hN rfl (Or.inr rfl) eU) (qa (wo PassesOwn.never rfl (xz (qv 0)) (G_ 3 hN) (qf (jb (kg (cJ (fJ (qv 3)) (aS (E_ hu (L_ B.ba (qv 3)) qi)))) (qa (vh hu (qv 2) (J_ 3) xu) (qf (vh hu (qv 2) (J_ 3) xu))) zc))) (qa (wo PassesOwn.never rfl (xz (qv 1)) (ah rfl (zh (G_ 4 hN) (zh (G_ 5 hN) kj))) (qa (vh hu (qv 2) (qv 4) xu) (qf (vh hu (qv 2) (qv 5) xu)))) (qf (tj "_law_p'" (qz (gg [nq] (ES (by rfl)) rfl (aV rfl B.bf (x9 (L_ B.ba (qv 0)))) (xq uD (fun _ _ _ _=>Or.inl rfl) (fun _ _ _ _=>rfl)) (fun _ _ _ _=>cN (kg (cJ (fJ (I_ (qv 0) (qv 6))) (aS (jh (ah0 hu) (qv 6) (qv 2) (by with_unfolding_all rfl)))))) (fun _ _ _ _=>(qv 6)))))))))⟩
abbrev c29(V:V_):Prop:=c28 V/\Q_ V 1 "_law_pairs" [nE, "_law_due"] (gC)
theorem d29(V:V_)(B:B_ V)(c:c28 V):c29 V:=⟨c,M_ V 0 [nE, "_law_due", nN, "_law_x"] B.hp B.D28 vM fun _ _ _ _ _ _ _ hr hN hu=>(qa (jb (kg (ky (aN (k8 (ao .list rfl B.be rfl B.bb am (qv 0)))) (aJ (N_ hu (L_ B.ba (qv 0)) (L_ B.ba (qv 1)))))) (qf (qz xu)) zc) (qa (wo PassesOwn.never rfl (aV rfl B.bf (x9 (L_ B.ba (qv 1)))) (G_ 2 hN) (qa (jb (kg (ky (aN (k8 (ao .tuple rfl B.be rfl B.bh eV (I_ (qv 0) (qv 2))))) (aJ (N_ hu (L_ B.ba (I_ (qv 0) (qv 2))) qi)))) (qf (qz xu)) zc) (qf (wo PassesOwn.never rfl (sF (I_ (qv 0) (qv 2))) (G_ 3 hN) (qf (jb (kg (ky (aN (k8 (ao .int rfl B.be rfl B.bj yi (qv 3)))) (aJ (k8 (ao .bool rfl B.be rfl B.bp acz (qv 3)))))) (qf (qz xu)) zc)))))) (qf (qz (dO (qK _ _ _ hu) (qv 0) (wr uM rfl B.bg gZ (x9 (qv 1))) (vd _))))))⟩
abbrev c30(V:V_):Prop:=c29 V/\Q_ V 122 nH [ng, nJ] (jG)
theorem d30(V:V_)(B:B_ V)(c:c29 V):c30 V:=⟨c,M_ V 121 [ng, nJ, "_law_seen", "_law_last", nq, "_law_q", "_law_leaves"] B.hp B.D29 aa7 fun _ _ _ _ _ _ _ hr hN hu=>(qa (S_ 2 hN eU) (qa (S_ 3 hN (aem aek qi)) (qa (wo PassesOwn.never rfl (xz (qv 1)) (ah rfl (zh (G_ 4 hN) (zh (G_ 5 hN) kj))) (qa (jb (kg (ky (jh akr (qv 4) (qv 3) (vd _)) (ky (jh ani (qv 4) (qv 5) (vd _)) (ky (jh (rK hu) (qv 4) (qv 2) (by with_unfolding_all rfl)) (aJ (jh (rK hu) (qv 5) (qv 2) (by with_unfolding_all rfl))))))) (qf (qz xu)) zc) (qa (jb (kg (ky (N_ hu (I_ (qv 0) (qv 4)) (C_ c.1.1.1.1.1.1.1.1.1.1.1.1.1.2 hr (x9 (I_ (qv 0) (qv 5))))) (aJ (N_ hu (L_ B.ba (I_ (qv 0) (qv 4))) qi)))) (qf (qz xu)) zc) (qa (vh hu (qv 2) (qv 4) xu) (qa (vh hu (qv 2) (qv 5) xu) (qf (S_ 3 hN (qv 4)))))))) (qa (tj "_law_p'" (dD [nq] (i:=6) uD rfl (Or.inl rfl) (ES (by rfl)) rfl (aV rfl B.bf (x9 (L_ B.ba (qv 0)))) (xq uD (fun _ _ _ _=>Or.inl rfl) (fun _ _ _ _=>rfl)) (fun _ _ _ _=>cN (kg (cJ (fJ (I_ (qv 0) (qv 7))) (aS (E_ hu (L_ B.ba (I_ (qv 0) (qv 7))) qi))))) (fun _ _ _ _=>(qv 7)))) (qf (qz (dO (qK _ _ _ hu) (L_ B.ba (qv 6)) (wr afe rfl B.ba aa8 (x9 (qv 2))) (vd _))))))))⟩
abbrev c31(V:V_):Prop:=c30 V/\Q_ V 122 nI [ng, nv] (kD)
theorem d31(V:V_)(B:B_ V)(c:c30 V):c31 V:=⟨c,M_ V 121 [ng, nv, "_law_used", "_law_last", nu, nq, "_law_q"] B.hp B.D30 zK fun _ _ _ _ _ _ _ hr hN hu=>(qa (S_ 2 hN eU) (qa (S_ 3 hN (aem aek qi)) (qa (wo PassesOwn.never rfl (xz (qv 0)) (G_ 4 hN) (qf (jb (kg (cJ (fJ (qv 4)) (aS (E_ hu (L_ B.ba (qv 4)) qi)))) (qa (vh hu (qv 2) (J_ 4) xu) (qf (vh hu (qv 2) (J_ 4) xu))) zc))) (qa (wo PassesOwn.never rfl (xz (qv 1)) (ah rfl (zh (G_ 5 hN) (zh (G_ 6 hN) kj))) (qa (jb (kg (ky (jh akr (qv 5) (qv 3) (vd _)) (ky (E_ hu (qv 5) (qv 6)) (ky (jh (rK hu) (qv 5) (qv 2) (by with_unfolding_all rfl)) (ky (jh (rK hu) (qv 6) (qv 2) (by with_unfolding_all rfl)) (ky (fi (I_ (qv 0) (qv 5))) (aJ (fi (I_ (qv 0) (qv 6)))))))))) (qf (qz xu)) zc) (qa (jb (N_ hu (C_ c.1.1.1.1.1.1.1.1.1.1.1.1.1.1.1.2 hr (ki (qv 0) (qv 5))) (C_ c.1.1.1.1.1.1.1.1.1.1.1.1.1.1.2 hr (x9 (C_ c.1.1.1.1.1.1.1.1.1.1.1.1.1.1.1.2 hr (ki (qv 0) (qv 6)))))) (qf (qz xu)) zc) (qa (vh hu (qv 2) (qv 5) xu) (qa (vh hu (qv 2) (qv 6) xu) (qf (S_ 3 hN (qv 5)))))))) (qf (qz xu))))))⟩
abbrev c32(V:V_):Prop:=c31 V/\Q_ V 123 "_law_holds" [nE, ng, nh] (jA)
theorem d32(V:V_)(B:B_ V)(c:c31 V):c32 V:=⟨c,M_ V 122 [nE, ng, nh, nJ, nv, "_law_told", "_law_boths"] B.hp B.D31 yj fun _ _ _ _ _ _ _ hr hN hu=>(qa (gb (C_ c.1.1.1.1.2 hr (x9 (qv 2))) (ah rfl (zh (G_ 3 hN) (zh (G_ 4 hN) (zh (G_ 5 hN) kj))))) (qa (jb (kg (ky (aN (k8 (ao .tuple rfl B.be rfl B.bh eV (qv 0)))) (ky (N_ hu (L_ B.ba (qv 0)) qi) (ky (aN (k8 (ao .list rfl B.be rfl B.bb am (J_ 0)))) (aJ (N_ hu (J_ 0) (qv 1))))))) (qf (qz xu)) zc) (qa (jb (kg (ky (aN (k8 (C_ c.1.1.2 hr (ki (J_ 0) (qv 3))))) (aJ (aN (k8 (C_ c.1.1.2 hr (ki (J_ 0) (qv 4)))))))) (qf (qz xu)) zc) (qa (jb (kg (ky (aN (k8 (C_ c.1.2 hr (ki (qv 1) (J_ 0))))) (aJ (aN (k8 (C_ c.2 hr (ki (qv 1) (J_ 0)))))))) (qf (qz xu)) zc) (qa (dD [nu] (i:=6) hN rfl (Or.inl rfl) (ES (by rfl)) rfl (xz (qv 1)) (xq uD (fun _ _ _ _=>Or.inl rfl) (fun _ _ _ _=>rfl)) (fun _ _ _ _=>cN (kg (cJ (fJ (qv 7)) (aS (E_ hu (J_ 7) j9))))) (fun _ _ _ _=>(qv 7))) (qf (qz (dO (qK _ _ _ hu) (L_ B.ba (J_ 0)) (qo xb (qo xb (L_ B.ba (qv 6)) (L_ B.ba (J_ 0))) qi) (vd _)))))))))⟩
abbrev c33(V:V_):Prop:=c32 V/\Q_ V 2 "_law_within" [nh, "_law_number"] (gK)
theorem d33(V:V_)(B:B_ V)(c:c32 V):c33 V:=⟨c,M_ V 1 [nh, "_law_number", "_law_arms_here"] B.hp B.D32 wA fun _ _ _ _ _ _ _ hr hN hu=>(qa (jS PassesOwn.never (kg (cJ (N_ hu (C_ c.1.1.1.1.1.1.2 hr (x9 (qv 0))) (zr kw)) (aS (jh yw (qo xc (qv 1) qi) qi (vd _))))) (qa (S_ 2 hN (C_ c.1.1.1.1.1.1.2 hr (x9 (qv 0)))) (qa (S_ 0 hN (I_ (qv 2) (qo xc (qo w9 (qv 1) qi) (L_ B.ba (qv 2))))) (qf (S_ 1 hN (qo xc (qo i8 (qv 1) qi) qi)))))) (qf (qz (qv 0))))⟩
theorem dL(V:V_)(B:B_ V)(c:c33 V){f:Addr}{fd:FuncData}(F:Fun V.K "law" "law" ol f fd):Fn3 V.P V.w V.K V.mg V.base 130 f fd [nG] (m6 V.Pt lamQ):=
 W_ V 129 [nG, nj, ng, nh, "_law_told", "_law_handed", nE, "_law_again"] F zX fun _ _ _ _ _ _ hr hN hu=>(qa (S_ 1 hN (qo xc (I_ (qo (afh _ _ _) (qv 0) (zr (x9 qi))) qi) (qo akd qi qi))) (qa (gb (C_ c.1.1.1.1.1.1.1.1.2 hr (dR (wn (uO _ _ _) (qv 0) (wg qi) bv) (qv 1) qi)) (ah rfl (zh (dH (i:=2) hN rfl (Or.inr rfl)) (zh (G_ 3 hN) kj)))) (aW (jb (E_ hu (qo xc (qo w9 (qv 1) qi) qi) qi) (qa (S_ 3 hN (C_ c.2 hr (ki (qv 3) (qo xc (qo i8 (qv 1) qi) qi)))) (qa (ay (i:=4) hN rfl (Or.inr rfl) (I_ (C_ c.1.1.1.1.1.1.2 hr (x9 (qv 3))) qi)) (qf (ay (i:=2) hN rfl (Or.inr rfl) (gg [nq] (ES (by rfl)) rfl (aV rfl B.bf (x9 (L_ B.ba (qv 2)))) (xq uD (fun _ _ _ _=>Or.inl rfl) (fun _ _ _ _=>rfl)) (fun _ _ _ _=>oQ) (fun _ _ _ _=>(cq (jh (rK hu) (qv 8) (qv 4) (by with_unfolding_all rfl)) (I_ (qv 2) (qv 8)) oE))))))) zc) (qa (S_ 5 hN (bS cw rfl B.bb am (x9 (qv 2)))) (qa (S_ 6 hN (C_ c.1.1.1.1.1.1.1.1.1.1.1.1.1.1.1.1.1.1.1.1.1.2 hr (x9 (zu (ki (qv 5) (qv 3)))))) (qa (jb (kg (ky (aN (k8 (C_ c.1.2 hr (dR (qv 6) (qv 2) (qv 3))))) (aJ (N_ hu (qv 5) (qv 2))))) (qf (qz xu)) zc) (qa (jb (N_ hu (C_ c.1.1.1.1.1.1.1.1.1.1.1.1.1.1.1.1.1.1.1.1.1.1.1.2 hr (x9 (zu (ki (qv 5) (qv 3))))) (C_ c.1.1.1.1.1.2 hr (ki (qv 2) (J_ 6)))) (qf (qz xu)) zc) (qa (S_ 7 hN (C_ c.1.1.1.1.1.1.1.1.1.1.1.1.1.1.1.1.1.1.1.1.1.2 hr (x9 (zu (ki (qv 5) (qv 3)))))) (qa (jb (aN (k8 (C_ c.1.2 hr (dR (qv 7) (qv 2) (qv 3))))) (qf (qz xu)) zc) (qa (zf (zg (J_ 7) (x9 oE))) (qa (zf (zC (J_ 7))) (qa (zf (zg (J_ 7) (x9 (zu (ki qi qi))))) (qf (qz (ag8 (C_ c.1.2 hr (dR (qv 6) (qv 2) (qv 3))) (ahg (dO (qK _ _ _ hu) (qv 5) (qv 2) (vd _))))))))))))))))))
theorem all_mk{l:PySem.W.OpenLaw}{w:World}{K:Ai}{h:Heap}{mg:Str->Option Value}{fa:Addr}{a_LEAF_KINDS:Addr}{o_LEAF_KINDS:Option Addr}{n_LEAF_KINDS:Nat}{l_LEAF_KINDS:Array (Option Value)}{t_LEAF_KINDS0 t_LEAF_KINDS1:Tok}{a_PLACE_COUNTS:Addr}{e_PLACE_COUNTS:Nat}{t_PLACE_COUNTS0 t_PLACE_COUNTS1 t_PLACE_COUNTS2 t_PLACE_COUNTS3 u_PLACE_COUNTS0 u_PLACE_COUNTS1 u_PLACE_COUNTS2 u_PLACE_COUNTS3:Tok}{Pt:Addr}(X:K.In h)(G:h.Ns mainGlobals mg)(hfa:mg "law" = some (.ref fa))
 (D0:z9 K "is_leaf" mH)
 (D1:z9 K "parts_of" i4)
 (D2:z9 K "places_of" hV)
 (D3:z9 K "arms_of" lg)
 (D4:z9 K "rules_in" kZ)
 (D5:z9 K "told_by" lh)
 (D6:z9 K "taken_by" jF)
 (D7:z9 K "demand" qX)
 (D8:z9 K "ends_by" mJ)
 (D9:z9 K "tree_ends" gn)
 (D10:z9 K "pairs_by" iu)
 (D11:z9 K "web_of" ot)
 (D12:z9 K "_law_mix" jU)
 (D13:z9 K "_law_name" iB)
 (D14:z9 K "_law_word" hJ)
 (D15:z9 K "_law_flip" hW)
 (D16:z9 K "_law_weight" df)
 (D17:z9 K "_law_mirror" dh)
 (D18:z9 K "_law_join" hE)
 (D19:z9 K "_law_fold" gq)
 (D20:z9 K "_law_cut" jP)
 (D21:DefInT K "_law_order" s__law_order Pt)
 (D22:z9 K "_law_moved" fP)
 (D23:z9 K nM cz)
 (D24:z9 K "_law_tree" iE)
 (D25:z9 K "_law_arms" hZ)
 (D26:z9 K nK cW)
 (D27:z9 K "_law_free" gm)
 (D28:z9 K "_law_pairs" fH)
 (D29:z9 K nH ak)
 (D30:z9 K nI bG)
 (D31:z9 K "_law_holds" f6)
 (D32:z9 K "_law_within" da)
 (D33:z9 K "law" ol)
 (aLEAF_KINDS:PySem.W.nsIn K mainGlobals "LEAF_KINDS" = some (some (.ref a_LEAF_KINDS)))
 (lLEAF_KINDS:K.lookup a_LEAF_KINDS=some ⟨.type "tuple",o_LEAF_KINDS,.seq #[.str "plain" t_LEAF_KINDS0,.str "turned" t_LEAF_KINDS1] n_LEAF_KINDS,l_LEAF_KINDS⟩)
 (aPLACE_COUNTS:PySem.W.nsIn K mainGlobals "PLACE_COUNTS" = some (some (.ref a_PLACE_COUNTS)))
 (lPLACE_COUNTS:K.lookup a_PLACE_COUNTS=some ⟨.type "dict",none,.dict ((([("link",t_PLACE_COUNTS0,2,u_PLACE_COUNTS0),("either",t_PLACE_COUNTS1,1,u_PLACE_COUNTS1),("both",t_PLACE_COUNTS2,1,u_PLACE_COUNTS2),("cut",t_PLACE_COUNTS3,2,u_PLACE_COUNTS3)]:List (Str×Tok×Int×Tok)).map (ae4 w)).toArray) e_PLACE_COUNTS,#[]⟩)
 (hPLACE_COUNTS:(a_PLACE_COUNTS==sysModules)=false)
 (zlist:PySem.W.nsIn K mainGlobals "list" = some none)
 (zzip:PySem.W.nsIn K mainGlobals "zip" = some none)
 (zall:PySem.W.nsIn K mainGlobals "all" = some none)
 (zsorted:PySem.W.nsIn K mainGlobals "sorted" = some none)
 (zrange:PySem.W.nsIn K mainGlobals "range" = some none)
 (zlen:PySem.W.nsIn K mainGlobals "len" = some none)
 (zenumerate:PySem.W.nsIn K mainGlobals "enumerate" = some none)
 (zmax:PySem.W.nsIn K mainGlobals "max" = some none)
 (zmin:PySem.W.nsIn K mainGlobals "min" = some none)
 (zisinstance:PySem.W.nsIn K mainGlobals "isinstance" = some none)
 (zint:PySem.W.nsIn K mainGlobals "int" = some none)
 (ztuple:PySem.W.nsIn K mainGlobals "tuple" = some none)
 (zbool:PySem.W.nsIn K mainGlobals "bool" = some none):
 ∃fd:FuncData,(∀(s:Shared) (v:Value),BindsTo s fd ⟨[v],[]⟩ [(nG,v)])/\∀base:Heap,K.In base->base.Ns mainGlobals mg->bJ l.prog w K mg base CX0 130 fa fd [nG] (spTopT lamQ K Pt):=by
 obtain⟨fL,kV,doc,pm,an,cdv,ct,aL,FL⟩:=D33.ex;have e:=hfa.symm.trans (CN X G aL);cases e;refine⟨PySem.W.fnOf "law" "law" (xn ol) (jl ol) (qu ol) .none kV doc pm an cdv ct,fun s v=>.of_eq rfl,fun base _ _=>?_⟩;have B:B_ ⟨l.prog,w,K,mg,base,Pt⟩:=⟨⟨h,X,G⟩,Bh X G zlist,Bh X G zzip,Bh X G zall,Bh X G zsorted,Bh X G zrange,Bh X G zlen,Bh X G zenumerate,Bh X G zmax,Bh X G zmin,Bh X G zisinstance,Bh X G zint,Bh X G ztuple,Bh X G zbool,D0,D1,D2,D3,D4,D5,D6,D7,D8,D9,D10,D11,D12,D13,D14,D15,D16,D17,D18,D19,D20,D21,D22,D23,D24,D25,D26,D27,D28,D29,D30,D31,D32,⟨a_LEAF_KINDS,CN X G aLEAF_KINDS,fun H=>⟨a_LEAF_KINDS,[V.str "plain",V.str "turned"],rfl,.inr ⟨_,_,_,lLEAF_KINDS,rfl,rfl,by show 2≤sizeLine;decide,.cons ⟨_,rfl⟩ (.cons ⟨_,rfl⟩ (.nil))⟩,⟨_,_,rfl,rfl,⟨_,_,rfl,rfl,rfl⟩⟩⟩⟩,⟨a_PLACE_COUNTS,CN X G aPLACE_COUNTS,afu _ lPLACE_COUNTS hPLACE_COUNTS (by show 4≤1000;decide) (by show List.Nodup ([Sum.inr "link",Sum.inr "either",Sum.inr "both",Sum.inr "cut"]:List j3);decide +kernel)⟩⟩;exact bJ.imp (dL _ B (d33 _ B (d32 _ B (d31 _ B (d30 _ B (d29 _ B (d28 _ B (d27 _ B (d26 _ B (d25 _ B (d24 _ B (d23 _ B (d22 _ B (d21 _ B (d20 _ B (d19 _ B (d18 _ B (d17 _ B (d16 _ B (d15 _ B (d14 _ B (d13 _ B (d12 _ B (d11 _ B (d10 _ B (d9 _ B (d8 _ B (d7 _ B (d6 _ B (d5 _ B (d4 _ B (d3 _ B (d2 _ B (d1 _ B trivial))))))))))))))))))))))))))))))))) FL) fun vs H Q E q=>ad6 q
theorem def_inT{K:Ai}{x:Str}{st:Stmt}{f Pt:Addr}{oc:Value}{od an:Option Addr}{osl:Array (Option Value)}{kV doc pm cdv ct:Value}(a:PySem.W.nsIn K mainGlobals x=some (some (.ref f)))
 (l:K.lookup f=some ⟨oc,od,.func (PySem.W.fnOf x x (xn st) (jl st) (qu st) .none kV doc pm an cdv ct),osl⟩) (c:PySem.W.codeIn K cdv x=true) (k:PySem.W.keepIn K (.ref f)=true) (C:ur K cdv Pt):DefInT K x st Pt:=
 ⟨f,kV,doc,pm,an,cdv,ct,a,⟨⟨oc,od,kV,doc,pm,an,cdv,ct,osl,rfl,l,c,C⟩,k⟩⟩
end K23
namespace H23
noncomputable section
open PySem PySem.W PySem.W.X L2 L3 PyProof.Rows
abbrev rr:=PySem.Challenge.rw_oncewise_k23_web_of_a_tree
abbrev p:Program:=PySem.Challenge.pw_oncewise_k23_web_of_a_tree
abbrev top:=K23.top
abbrev s(x:String):Str:=Str.ofString x
noncomputable abbrev S (x:String) (t:Tok):Value:=.str (Str.ofString x) t
noncomputable abbrev I (i:Int) (t:Tok):Value:=.int i t
noncomputable abbrev R (a:Addr):Value:=.ref a
abbrev E(P:Params)(k:String)(t:Tok)(v:Value):DictEntry:=⟨PyData.keyHash P (Str.ofString k),.str (Str.ofString k) t,v⟩
noncomputable abbrev O (c:Value) (d:Data):Obj:=⟨c,none,d,#[]⟩
abbrev FN(n q:String)(st:Stmt)(dV kV doc pm:Value)(an:Option Addr)(cd ct:Value):FuncData:=fnOf (Str.ofString n) (Str.ofString q) (xn st) (jl st) (qu st) dV kV doc pm an cd ct
abbrev FG(n q:String)(st:Stmt):FuncData:={ fnOf (Str.ofString n) (Str.ofString q) (xn st) (jl st) (qu st) .none .none .none .none none .none .none with globals:=0 }
abbrev tu(l:Array Value):Obj:=O (.type "tuple") (.seq l 0)
abbrev fo(f:FuncData):Obj:=O (.type "function") (.func f)
abbrev go(f:FuncData):Obj:=O .none (.func f)
abbrev co(n q:String)(t l a b c fl v:Nat)(o:Bool)(m k:Nat)(x y z u:Value)(d:Nat):Obj:=O (.type "code") (.fields #[S n t,S q (t+1),S "/claim/cut.py" (t+2),I l 0,I a 0,I b 0,I c 0,I fl 0,R v,.bool o,I m 0,R k,x,y,z,u,I d 0,I l 0,S "/claim/cut.py" (d+1)])
abbrev lJ:Value:=S "law_oncewise_k23_web_of_a_tree" 330
abbrev m1_:Value:=S "oncewise.trees" 244
abbrev fX(n:String)(i:Nat)(m:Value)(r:Nat):Obj:=fo (FN n n (top i) .none .none .none m none (R r) .none)
abbrev gX(n:String)(i:Nat):Obj:=go (FG n n (top i))
abbrev cF(n:String)(t l a v d:Nat):Obj:=co n n t l a 0 0 3 v true 181 (v+1) .none (R (v+2)) (R (v+3)) (R (v+4)) d
abbrev cC(n:String)(t l v d:Nat):Obj:=co n n t l 0 0 0 0 v false 181 (v+1) .none .none .none .none d
abbrev cS(n:String)(a ns k t v:Nat):Obj:=⟨.type "type",none,.cls (ClassData.mk (s n) [R 24] [R a,R 24,.type "ValueError",.type "Exception",.type "BaseException",.type "object"] ns (s n) true [] [] false none false),#[some (R k),none,some (S n t),some (S n v),some (.builtin "ValueError.__new__"),some (.bool true)]⟩
abbrev dA(P:Params)(a b:Nat)(l:Int)(c d r e:Nat):Obj:=O (.type "dict") (.dict #[E P "__module__" a (S "oncewise.errors" 187),E P "__firstlineno__" b (I l c),E P "__static_attributes__" d (R r),E P "__doc__" e .none] 2)
abbrev dB(P:Params)(a q:Nat)(n:String)(q2 b:Nat)(l:Int)(c d r:Nat):Obj:=O (.type "dict") (.dict #[E P "__module__" a (S "oncewise.errors" 187),E P "__qualname__" q (S n q2),E P "__firstlineno__" b (I l c),E P "__static_attributes__" d (R r)] 4)
abbrev fR(a b:Nat):Obj:=⟨.type "frame",none,.plain,#[some (R a),some (R 3),some (R b),none,some (S "oncewise.errors" 187),none,some (R 0)]⟩
abbrev bI(a:Nat):Obj:=O (.type "builtin_function_or_method") (.fields #[.builtin "object.__init_subclass__",R a])
abbrev sU(a:Nat):Obj:=O (.type "super") (.fields #[R a,R a,R a])
abbrev Ob:=Params->Obj
def ev{α:Type}:Bool->List α->List α
 |_,[]=>[]
 |true,x::r=>x::ev false r
 |false,_::r=>ev true r
def bt:Nat->List Obj->BT
 |0,_=>.nil
 |_,[]=>.nil
 |n+1,x::r=>.node x (bt n (ev true r)) (bt n (ev false r))
def env0:Env:={ scope:=p.main.scope,locals:=mainNs,globals:=mainNs,cells:=[],code:=.ref 13,frame:=some 14 }
abbrev cE:Code:=.body (behindTheImports p) env0
abbrev q0:Pos:=⟨0,0,0,0⟩
abbrev an:Option Value:=some (.ref 6)
abbrev Pc(n:Nat)(S S':World->OsState->SharedT)(l:List Stmt)(q q':Pos)(w:World):Prop:=(fun os=>segRunT treeTable p w 11 an 1 n (S w os) (piecesOf l env0 cE q [topFrame q0]))=fun os=>some (Flow.next,S' w os,cE,q')
abbrev b0:=PySem.W.boot_o_0
abbrev b1:=PySem.W.boot_o_1
abbrev b2:=PySem.W.boot_o_2
abbrev b3:=PySem.W.boot_o_3
abbrev b4:=PySem.W.boot_o_4
abbrev b5:=PySem.W.boot_o_5
abbrev b6:=PySem.W.boot_o_6
abbrev b7:=PySem.W.boot_o_7
abbrev b8:=PySem.W.boot_o_8
abbrev b9:=PySem.W.boot_o_9
abbrev b10:=PySem.W.boot_o_10
def ko:Ob:=fun _=>tu #[]
def cO:Ob:=fun _=>O .none (.fields #[])
def xac:Ob:=fun _=>cC "<module>" 182 1 11 185
def xad:Ob:=fun _=>⟨(.type "frame"),none,.plain,#[(some (R 13)),(some (R 3)),(some (R 3)),none,(some (S "__main__" 164)),none,(some (R 0))]⟩
def xag:Ob:=fun P=>O (.type "dict") (.dict #[(E P "__module__" 196 (S "oncewise.errors" 187)),(E P "__firstlineno__" 200 (I 2 199)),(E P "__static_attributes__" 201 (R 22)),(E P "__weakref__" 203 (R 25)),(E P "__doc__" 204 .none)] 3)
def xaj:Ob:=fun _=>O (.type "getset_descriptor") (.fields #[S "__weakref__" 202,R 24,(.builtin "ExceptionGroup.__weakref__"),.none])
def xal:Ob:=fun _=>O (.type "builtin_function_or_method") (.fields #[(.builtin "type.__prepare__"),(.type "type")])
def xar:Ob:=fun _=>fo (FN "is_leaf" "is_leaf" (top 5) .none .none .none (S "oncewise.words" 223) none (R 46) .none)
def xat:Ob:=fun P=>O (.type "dict") (.dict #[(E P "link" 246 (I 2 247)),(E P "either" 248 (I 1 249)),(E P "both" 250 (I 1 251)),(E P "cut" 252 (I 2 253))] 4)
def xaw:Ob:=fun _=>cS "BadTree" 37 36 28 207 215
def xax:Ob:=fun _=>cF "parts_of" 237 11 1 48 241
def xaz:Ob:=fun _=>⟨(.type "type"),none,(.cls (ClassData.mk (s "OnceError") [(.type "ValueError")] [R 24,(.type "ValueError"),(.type "Exception"),(.type "BaseException"),(.type "object")] 23 (s "OnceError") true [] [R 37] false none false)),#[(some (R 15)),none,(some (S "OnceError" 189)),(some (S "OnceError" 197)),(some (.builtin "ValueError.__new__")),(some (.bool true))]⟩
def xa0:Ob:=fun _=>tu #[S "plain" 225,S "turned" 226]
def xa2:Ob:=fun P=>dA P 214 218 4 217 219 35 220
def xa8:Ob:=fun _=>fo (FN "parts_of" "parts_of" (top 7) .none .none .none (S "oncewise.webs" 235) none (R 53) .none)
def xba:Ob:=fun _=>cF "is_leaf" 228 8 1 41 232
def xbc:Ob:=fun _=>fX "demand" 15 m1_ 94
def xbe:Ob:=fun _=>co "pairs_by" "pairs_by" 316 49 2 0 0 3 108 true 181 109 .none .none .none (R 110) 319
def xbg:Ob:=fun _=>co "taken_by" "taken_by" 289 28 2 0 0 3 84 true 181 85 .none .none .none (R 86) 292
def xbh:Ob:=fun _=>fX "web_of" 19 m1_ 118
def xbj:Ob:=fun _=>fX "_law_name" 22 lJ 130
def xbk:Ob:=fun _=>co "ends_by" "ends_by" 303 40 2 0 0 3 96 true 181 97 .none .none .none (R 98) 306
def xbl:Ob:=fun _=>fX "told_by" 13 m1_ 82
def xbn:Ob:=fun _=>cF "rules_in" 273 21 1 70 279
def xbo:Ob:=fun _=>fX "tree_ends" 17 m1_ 106
def xbt:Ob:=fun _=>cF "_law_word" 347 66 2 132 353
def xbv:Ob:=fun _=>fX "arms_of" 11 m1_ 68
def xbx:Ob:=fun _=>cF "places_of" 259 17 1 56 263
def xbz:Ob:=fun _=>cF "_law_mix" 332 55 3 120 338
def xb0:Ob:=fun _=>fX "pairs_by" 18 m1_ 111
def xb3:Ob:=fun _=>fX "taken_by" 14 m1_ 87
def xb5:Ob:=fun _=>cF "arms_of" 266 19 1 63 270
def xb6:Ob:=fun _=>fX "ends_by" 16 m1_ 99
def xb7:Ob:=fun _=>fX "rules_in" 12 m1_ 75
def xca:Ob:=fun _=>co "_law_name" "_law_name" 341 57 2 0 0 3 127 true 181 128 .none .none .none (R 129) 344
def xcc:Ob:=fun _=>cF "told_by" 282 26 1 77 286
def xce:Ob:=fun _=>fX "_law_word" 23 lJ 137
def xcf:Ob:=fun _=>cF "tree_ends" 309 47 1 101 313
def xck:Ob:=fun _=>cF "web_of" 322 51 1 113 327
def xcm:Ob:=fun _=>fX "places_of" 10 m1_ 61
def xcn:Ob:=fun _=>cF "demand" 295 37 2 89 300
def xco:Ob:=fun _=>fX "_law_mix" 21 lJ 125
def xcr:Ob:=fun _=>fX "_law_mirror" 26 lJ 158
def xcu:Ob:=fun _=>co "_law_cut" "_law_cut" 403 109 4 0 0 3 172 true 181 173 .none .none .none (R 174) 406
def xcw:Ob:=fun _=>cF "_law_weight" 364 76 1 146 368
def xcx:Ob:=fun _=>cF "_law_gathered" 464 187 1 210 473
def xcy:Ob:=fun _=>fX "_law_order" 30 lJ 182
def xcz:Ob:=fun _=>fX "_law_renamed" 32 lJ 194
def xc0:Ob:=fun _=>co "_law_join" "_law_join" 385 93 4 0 0 3 160 true 181 161 .none .none .none (R 162) 388
def xc2:Ob:=fun _=>fX "_law_fold" 28 lJ 170
def xc4:Ob:=fun _=>co "_law_moved" "_law_moved" 421 139 2 0 0 3 184 true 181 185 .none .none .none (R 186) 424
def xc6:Ob:=fun _=>fX "_law_flip" 24 lJ 144
def xc7:Ob:=fun _=>fX "_law_arms" 34 lJ 208
def xc8:Ob:=fun _=>cF "_law_tree" 440 152 3 196 454
def xde:Ob:=fun _=>cF "_law_flip" 356 71 1 139 361
def xdf:Ob:=fun _=>cF "_law_arms" 457 181 1 203 461
def xdg:Ob:=fun _=>fX "_law_cut" 29 lJ 175
def xdi:Ob:=fun _=>fX "_law_weight" 25 lJ 151
def xdj:Ob:=fun _=>fX "_law_gathered" 35 lJ 215
def xdl:Ob:=fun _=>fX "_law_join" 27 lJ 163
def xdp:Ob:=fun _=>fX "_law_moved" 31 lJ 187
def xdq:Ob:=fun _=>cF "_law_renamed" 427 144 3 189 437
def xds:Ob:=fun _=>fX "_law_tree" 33 lJ 201
def xdt:Ob:=fun _=>cF "_law_fold" 391 101 4 165 400
def xdy:Ob:=fun _=>cF "_law_order" 409 131 2 177 418
def xd0:Ob:=fun _=>cF "_law_mirror" 371 80 2 153 382
def xd1:Ob:=fun P=>O (.type "dict") (.dict #[(E P "__name__" 165 (S "law_oncewise_k23_web_of_a_tree" 330)),(E P "__doc__" 166 .none),(E P "__package__" 167 .none),(E P "__loader__" 168 (.builtin "__main__.__loader__#opaque")),(E P "__spec__" 169 .none),(E P "__annotations__" 170 (R 6)),(E P "__builtins__" 171 (R 4)),(E P "__file__" 173 (S "/claim/cut.py" 172)),(E P "__cached__" 174 .none),(E P "OnceError" 206 (R 24)),(E P "BadTree" 222 (R 37)),(E P "LEAF_KINDS" 227 (R 40)),(E P "is_leaf" 234 (R 47)),(E P "parts_of" 243 (R 54)),(E P "PLACE_COUNTS" 258 (R 55)),(E P "places_of" 265 (R 62)),(E P "arms_of" 272 (R 69)),(E P "rules_in" 281 (R 76)),(E P "told_by" 288 (R 83)),(E P "taken_by" 294 (R 88)),(E P "demand" 302 (R 95)),(E P "ends_by" 308 (R 100)),(E P "tree_ends" 315 (R 107)),(E P "pairs_by" 321 (R 112)),(E P "web_of" 329 (R 119)),(E P "_law_mix" 340 (R 126)),(E P "_law_name" 346 (R 131)),(E P "_law_word" 355 (R 138)),(E P "_law_flip" 363 (R 145)),(E P "_law_weight" 370 (R 152)),(E P "_law_mirror" 384 (R 159)),(E P "_law_join" 390 (R 164)),(E P "_law_fold" 402 (R 171)),(E P "_law_cut" 408 (R 176)),(E P "_law_order" 420 (R 183)),(E P "_law_moved" 426 (R 188)),(E P "_law_renamed" 439 (R 195)),(E P "_law_tree" 456 (R 202)),(E P "_law_arms" 463 (R 209)),(E P "_law_gathered" 475 (R 216)),(E P "_law_free" 481 (R 221)),(E P "_law_pairs" 491 (R 228)),(E P "_law_links_hold" 497 (R 233)),(E P "_law_cuts_hold" 510 (R 240)),(E P "_law_holds" 516 (R 245)),(E P "_law_within" 525 (R 252)),(E P "law" 531 (R 257))] 47)
def xd3:Ob:=fun _=>cF "_law_cuts_hold" 498 234 2 234 508
def xd5:Ob:=fun _=>cF "_law_pairs" 482 211 2 222 489
def xd8:Ob:=fun _=>cF "_law_within" 517 260 2 246 523
def xd9:Ob:=fun _=>fX "law" 42 lJ 256
def xea:Ob:=fun _=>fX "_law_links_hold" 38 lJ 232
def xeb:Ob:=fun _=>fX "_law_holds" 40 lJ 244
def xec:Ob:=fun _=>fX "_law_free" 36 lJ 220
def xed:Ob:=fun _=>co "law" "law" 526 266 1 0 0 3 253 true 181 254 .none .none .none (R 255) 529
def xef:Ob:=fun _=>fX "_law_cuts_hold" 39 lJ 239
def xeg:Ob:=fun _=>co "_law_links_hold" "_law_links_hold" 492 221 2 0 0 3 229 true 181 230 .none .none .none (R 231) 495
def xej:Ob:=fun _=>fX "_law_pairs" 37 lJ 227
def xek:Ob:=fun _=>co "_law_holds" "_law_holds" 511 250 3 0 0 3 241 true 181 242 .none .none .none (R 243) 514
def xem:Ob:=fun _=>co "_law_free" "_law_free" 476 201 2 0 0 3 217 true 181 218 .none .none .none (R 219) 479
def xen:Ob:=fun _=>fX "_law_within" 41 lJ 251
def amb:List Ob:=[b0,b1,b2,b3,b4,b5,b6,b7,b8,b9,b10,ko,cO,xac,xad]
def akn:List Ob:=[b0,b1,b2,xd1,b4,b5,b6,b7,b8,b9,b10,ko,fun _=>O .none (.fields #[I 2 0,I 0 0,R 20,I 4 0,I 0 0,R 33,I 8 0,I 0 0,R 46,I 11 0,I 0 0,R 53,I 17 0,I 0 0,R 61,I 19 0,I 0 0,R 68,I 21 0,I 0 0,R 75,I 26 0,I 0 0,R 82,I 28 0,I 0 0,R 87,I 37 0,I 0 0,R 94,I 40 0,I 0 0,R 99,I 47 0,I 0 0,R 106,I 49 0,I 0 0,R 111,I 51 0,I 0 0,R 118,I 55 0,I 0 0,R 125,I 57 0,I 0 0,R 130,I 66 0,I 0 0,R 137,I 71 0,I 0 0,R 144,I 76 0,I 0 0,R 151,I 80 0,I 0 0,R 158,I 93 0,I 0 0,R 163,I 101 0,I 0 0,R 170,I 109 0,I 0 0,R 175,I 131 0,I 0 0,R 182,I 139 0,I 0 0,R 187,I 144 0,I 0 0,R 194,I 152 0,I 0 0,R 201,I 181 0,I 0 0,R 208,I 187 0,I 0 0,R 215,I 201 0,I 0 0,R 220,I 211 0,I 0 0,R 227,I 221 0,I 0 0,R 232,I 234 0,I 0 0,R 239,I 250 0,I 0 0,R 244,I 260 0,I 0 0,R 251,I 266 0,I 0 0,R 256]),xac,xad,fun _=>tu #[(.type "ValueError")],xal,fun P=>dB P 196 198 "OnceError" 197 200 2 199 201 22,ko,cO,fun _=>cC "OnceError" 191 2 18 194,fun _=>fR 20 17,ko,xag,xaz,xaj,fun _=>sU 24,fun _=>bI 24,fun _=>tu #[R 24],xal,fun P=>dB P 214 216 "BadTree" 215 218 4 217 219 35,ko,cO,fun _=>cC "BadTree" 209 4 31 212,fun _=>fR 33 30,ko,xa2,xaw,fun _=>sU 37,fun _=>bI 37,xa0,ko,cO,fun _=>tu #[S "word" 231],ko,fun _=>gX "is_leaf" 5,xba,xar,ko,cO,fun _=>tu #[S "knot" 240],ko,fun _=>gX "parts_of" 7,xax,xa8,xat,ko,cO,fun _=>tu #[S "rule" 262],ko,fun _=>gX "places_of" 10,xbx,xcm,ko,cO,fun _=>tu #[S "rule" 269],ko,fun _=>gX "arms_of" 11,xb5,xbv,ko,cO,fun _=>tu #[S "rule" 276,S "rules" 277,S "arm" 278],ko,fun _=>gX "rules_in" 12,xbn,xb7,ko,cO,fun _=>tu #[S "rule" 285],ko,fun _=>gX "told_by" 13,xcc,xbl,ko,cO,fun _=>gX "taken_by" 14,xbg,xb3,ko,cO,fun _=>tu #[S "holds" 298,S "words" 299],ko,fun _=>gX "demand" 15,xcn,xbc,ko,cO,fun _=>gX "ends_by" 16,xbk,xb6,ko,cO,fun _=>tu #[S "tree" 312],ko,fun _=>gX "tree_ends" 17,xcf,xbo,ko,cO,fun _=>gX "pairs_by" 18,xbe,xb0,ko,cO,fun _=>tu #[S "tree" 325,S "rules" 326],ko,fun _=>gX "web_of" 19,xck,xbh,ko,cO,fun _=>tu #[S "_law_cell" 335,S "_law_k" 336,S "_law_factor" 337],ko,fun _=>gX "_law_mix" 21,xbz,xco,ko,cO,fun _=>gX "_law_name" 22,xca,xbj,ko,cO,fun _=>tu #[S "_law_knots" 350,S "_law_p" 351,S "_law_knot" 352],ko,fun _=>gX "_law_word" 23,xbt,xce,ko,cO,fun _=>tu #[S "_law_word_here" 359,S "_law_sides" 360],ko,fun _=>gX "_law_flip" 24,xde,xc6,ko,cO,fun _=>tu #[S "_law_word_here" 367],ko,fun _=>gX "_law_weight" 25,xcw,xdi,ko,cO,fun _=>tu #[S "_law_knots" 374,S "_law_word_here" 375,S "_law_left" 376,S "_law_right" 377,S "_law_turn" 378,S "_law_same" 379,S "_law_low" 380,S "_law_high" 381],ko,fun _=>gX "_law_mirror" 26,xd0,xcr,ko,cO,fun _=>gX "_law_join" 27,xc0,xdl,ko,cO,fun _=>tu #[S "_law_knots" 394,S "_law_tree_here" 395,S "_law_one" 396,S "_law_two" 397,S "_law_left" 398,S "_law_right" 399],ko,fun _=>gX "_law_fold" 28,xdt,xc2,ko,cO,fun _=>gX "_law_cut" 29,xcu,xdg,ko,cO,fun _=>tu #[S "_law_knots" 412,S "_law_seed" 413,S "_law_p" 414,S "_law_knot" 415,S "_law_rank" 416],fun _=>tu #[S "_law_ranks" 417],fun _=>gX "_law_order" 30,xdy,xcy,ko,cO,fun _=>gX "_law_moved" 31,xc4,xdp,ko,cO,fun _=>tu #[S "_law_knots" 430,S "_law_rule" 431,S "_law_seed" 432,S "_law_at" 433,S "_law_made" 434,S "_law_p" 435,S "_law_knot" 436],ko,fun _=>gX "_law_renamed" 32,xdq,xcz,ko,cO,fun _=>tu #[S "_law_cells" 443,S "_law_seed" 444,S "_law_room" 445,S "_law_knots" 446,S "_law_forest" 447,S "_law_k" 448,S "_law_cell" 449,S "_law_one" 450,S "_law_two" 451,S "_law_deed" 452,S "_law_at" 453],ko,fun _=>gX "_law_tree" 33,xc8,xds,ko,cO,fun _=>tu #[S "_law_rule" 460],ko,fun _=>gX "_law_arms" 34,xdf,xc7,ko,cO,fun _=>tu #[S "_law_rule" 467,S "_law_links" 468,S "_law_cuts" 469,S "_law_told" 470,S "_law_stack" 471,S "_law_one" 472],ko,fun _=>gX "_law_gathered" 35,xcx,xdj,ko,cO,fun _=>gX "_law_free" 36,xem,xec,ko,cO,fun _=>tu #[S "_law_found" 485,S "_law_due" 486,S "_law_k" 487,S "_law_x" 488],ko,fun _=>gX "_law_pairs" 37,xd5,xej,ko,cO,fun _=>gX "_law_links_hold" 38,xeg,xea,ko,cO,fun _=>tu #[S "_law_knots" 501,S "_law_cuts" 502,S "_law_used" 503,S "_law_last" 504,S "_law_knot" 505,S "_law_p" 506,S "_law_q" 507],ko,fun _=>gX "_law_cuts_hold" 39,xd3,xef,ko,cO,fun _=>gX "_law_holds" 40,xek,xeb,ko,cO,fun _=>tu #[S "_law_rule" 520,S "_law_number" 521,S "_law_arms_here" 522],ko,fun _=>gX "_law_within" 41,xd8,xen,ko,cO,fun _=>gX "law" 42,xed,xd9]
def amd:List Ob:=[b0,b1,b2,b3,b4,b5,b6,b7,b8,b9,b10,ko,cO,xac,xad]
def ao3:List Ob:=akn
def hpA(P:Params):Heap:=⟨⟨amb.map (· P)⟩,{}⟩
def hpZ(P:Params):Heap:=⟨⟨akn.map (· P)⟩,{}⟩
def tr0(P:Params):BT:=bt 20 (amd.map (· P))
def tr5(P:Params):BT:=bt 20 (ao3.map (· P))
def sA(w:World)(os:OsState):Shared:=⟨hpA w.params,#[],{},187,os⟩
def sZ(w:World)(os:OsState):Shared:=⟨hpZ w.params,#[],{},532,os⟩
def rO(w:World)(os:OsState):SharedT:=⟨tr0 w.params,15,{},#[],{},187,os⟩
def xH(w:World)(os:OsState):SharedT:=⟨tr5 w.params,258,{},#[],{},532,os⟩
def zO:List Stmt:=((behindTheImports p).drop 0).take 43
theorem an4(w:World):(fun os=>topGo treeTable p w 11 an 12 ⟨boot_heap w.params,#[],boot_drawn,boot_toks,os⟩ (topStub p))=fun os=>some (sA w os,⟨denote treeTable cE,cE,⟨0,0,0,0⟩,[topFrame q0]⟩):=by kernel_rfl
theorem ao0(w:World):(fun os=>segRun treeTable p w 11 an 1 1 (sA w os) (blockOf (behindTheImports p) env0 cE ⟨0,0,0,0⟩ [topFrame q0]))=fun os=>some (.next,(rO w os).abs,cE,⟨0,0,0,0⟩):=by kernel_rfl
theorem alm(w:World):Pc 1542 rO xH zO ⟨0,0,0,0⟩ ⟨266,0,285,86⟩ (w.withFollow "special-get-raises" false):=by kernel_rfl
theorem aly(w:World):Pc 1542 rO xH zO ⟨0,0,0,0⟩ ⟨266,0,285,86⟩ (w.withFollow "special-get-raises" true):=by kernel_rfl
theorem pc1:∀w,Pc 1542 rO xH zO ⟨0,0,0,0⟩ ⟨266,0,285,86⟩ w:=byRow2 "special-get-raises" alm aly
theorem am9(w:World):(fun os=>topRun treeTable p w 11 an 2 (xH w os).abs ⟨doneF .next,cE,⟨266,0,285,86⟩,[topFrame q0]⟩)=fun os=>some (sZ w os):=by kernel_rfl
theorem aiv:zO++([])=behindTheImports p:=by kernel_rfl
theorem anv(w:World)(os:OsState):topRun treeTable p w 11 an (12+(1+(1542+(2)))) ⟨boot_heap w.params,#[],boot_drawn,boot_toks,os⟩ (topStub p)=some (sZ w os):=by have h:=(piece_app (l:=zO) (rest:=[]) (segRun_of (DM (pc1 w) os)) (piece_nil (env:=env0) (DM (am9 w) os)));rw[aiv] at h;exact go_top (DM (an4 w) os) (piece_block (DM (ao0 w) os) h)
def as0:List Nat:=[0,1,2,3,4,5,6,7,8,9,10,13,23,24,25,36,37,40,46,47,53,54,55,61,62,68,69,75,76,82,83,87,88,94,95,99,100,106,107,111,112,118,119,125,126,130,131,137,138,144,145,151,152,158,159,163,164,170,171,175,176,178,182,183,187,188,194,195,201,202,208,209,215,216,220,221,227,228,232,233,239,240,244,245,251,252,256,257]
def vw:Program:={ p with main:={ p.main with body:=[top 1,top 2,top 4,top 5,top 7,top 9,top 10,top 11,top 12,top 13,top 14,top 15,top 16,top 17,top 18,top 19,top 21,top 22,top 23,top 24,top 25,top 26,top 27,top 28,top 29,top 30,top 31,top 32,top 33,top 34,top 35,top 36,top 37,top 38,top 39,top 40,top 41,top 42] } }
def K0:Params->Frag:=fun P=>(nat_lit 0,b0 P)::(nat_lit 1,b1 P)::(nat_lit 2,b2 P)::(nat_lit 3,xd1 P)::(nat_lit 4,b4 P)::(nat_lit 5,b5 P)::(nat_lit 6,b6 P)::(nat_lit 7,b7 P)::(nat_lit 8,b8 P)::(nat_lit 9,b9 P)::(nat_lit 10,b10 P)::(nat_lit 13,xac P)::(nat_lit 23,xag P)::(nat_lit 24,xaz P)::(nat_lit 25,xaj P)::(nat_lit 36,xa2 P)::(nat_lit 37,xaw P)::(nat_lit 40,xa0 P)::(nat_lit 46,xba P)::(nat_lit 47,xar P)::(nat_lit 53,xax P)::(nat_lit 54,xa8 P)::(nat_lit 55,xat P)::(nat_lit 61,xbx P)::(nat_lit 62,xcm P)::(nat_lit 68,xb5 P)::(nat_lit 69,xbv P)::(nat_lit 75,xbn P)::(nat_lit 76,xb7 P)::(nat_lit 82,xcc P)::(nat_lit 83,xbl P)::(nat_lit 87,xbg P)::(nat_lit 88,xb3 P)::(nat_lit 94,xcn P)::(nat_lit 95,xbc P)::(nat_lit 99,xbk P)::(nat_lit 100,xb6 P)::(nat_lit 106,xcf P)::(nat_lit 107,xbo P)::(nat_lit 111,xbe P)::(nat_lit 112,xb0 P)::(nat_lit 118,xck P)::(nat_lit 119,xbh P)::(nat_lit 125,xbz P)::(nat_lit 126,xco P)::(nat_lit 130,xca P)::(nat_lit 131,xbj P)::(nat_lit 137,xbt P)::(nat_lit 138,xce P)::(nat_lit 144,xde P)::(nat_lit 145,xc6 P)::(nat_lit 151,xcw P)::(nat_lit 152,xdi P)::(nat_lit 158,xd0 P)::(nat_lit 159,xcr P)::(nat_lit 163,xc0 P)::(nat_lit 164,xdl P)::(nat_lit 170,xdt P)::(nat_lit 171,xc2 P)::(nat_lit 175,xcu P)::(nat_lit 176,xdg P)::(nat_lit 178,cO P)::(nat_lit 182,xdy P)::(nat_lit 183,xcy P)::(nat_lit 187,xc4 P)::(nat_lit 188,xdp P)::(nat_lit 194,xdq P)::(nat_lit 195,xcz P)::(nat_lit 201,xc8 P)::(nat_lit 202,xds P)::(nat_lit 208,xdf P)::(nat_lit 209,xc7 P)::(nat_lit 215,xcx P)::(nat_lit 216,xdj P)::(nat_lit 220,xem P)::(nat_lit 221,xec P)::(nat_lit 227,xd5 P)::(nat_lit 228,xej P)::(nat_lit 232,xeg P)::(nat_lit 233,xea P)::(nat_lit 239,xd3 P)::(nat_lit 240,xef P)::(nat_lit 244,xek P)::(nat_lit 245,xeb P)::(nat_lit 251,xd8 P)::(nat_lit 252,xen P)::(nat_lit 256,xed P)::(nat_lit 257,xd9 P)::[]
abbrev lamC:Nat:=182
abbrev lamT:Nat:=178
abbrev lamO:Ob:=xdy
abbrev ls:List Str:=[Str.ofString "PLACE_COUNTS"]
abbrev Xt:Shared->Bool:=fun s=>xlAt vw [] s&&recOk (RowW.records rr.row.toRowW) s
theorem ak6(w:World):((boot_heap w.params).isNs mainGlobals&&(#[]:Array GenState).size==0,(boot_heap w.params).objs.size,(boot_heap w.params).nsMap mainGlobals "__annotations__")=(true,11,an):=by kernel_rfl
theorem an3:opening p=plainProg p.main.scope.names:=by kernel_rfl
theorem an0(s:Shared):fenceModules? p s=some s:=by kernel_rfl
theorem lk1(w:World):(fun os=>(staticsOk (importedModules p.main.body) (boot_heap w.params) (hpZ w.params)&&namesBound p (hpZ w.params)&&gensDone (sZ w os)&&laidKept (boot_heap w.params) (hpZ w.params)))=fun _=>true:=by kernel_rfl
theorem lk2(w:World):(fun os=>openSeen vw ls (importedModules p.main.body) Xt true (sZ w os))=fun _=>openGood vw ls:=by kernel_rfl
theorem lk3(w:World):(fun os=>obsZ as0 (sZ w os))=fun _=>valZ K0 258 532 w:=by kernel_rfl
theorem left_:LeftO p vw ls Xt (obsZ as0) (valZ K0 258 532) 3200:=LeftO.of_pieces (boot_open an3 rfl an0) ak6 anv rfl fun w=>funext fun os=>looks_pair (DM (lk1 w) os) (looks_pair (DM (lk2 w) os) (DM (lk3 w) os))
end
end H23
open PySem PySem.W PyProof.Rows
set_option maxRecDepth 100000 in
set_option maxHeartbeats 0 in
theorem PySem.Challenge.cw_oncewise_k23_web_of_a_tree_holds : PySem.Challenge.rw_oncewise_k23_web_of_a_tree.Holds := by
 w_on;refine holds_law (by unfold OpenLaw.wellSaid OpenRow.wellSaid OpenRow.partSaid looksOpen;walk_at "y";walk_at "y";walk_at "y";walk_at "y";walk_at "y";walk_at "y";all_goals decide +kernel) fun said=>?_
 refine holds_openX (q:=H23.vw) (loose:=H23.ls) (Xt:=H23.Xt) (XP:=XL H23.vw []) (Yf:=PySem.W.X.obsZ H23.as0) (Ya:=PySem.W.X.valZ H23.K0 258 532) (N:=3200) H23.left_ (fun s e=>xl_of s (Bool.and_eq_true_iff.mp e).1)
  XL.keeps (by rfl) (by rfl) (by rfl) (fun s e=>recFacts_of (Bool.and_eq_true_iff.mp e).2)
  (by rfl) (by decide +kernel) (by decide +kernel) ⟨rfl,rfl,rfl,rfl,rfl,by decide +kernel⟩ ?hw ?hc
 case hw=>w_witness2
 k_fill
 refine L2.walk_ofZT (l:=PySem.Challenge.rw_oncewise_k23_web_of_a_tree) (n:=63) (k:=130) (x:="_law_script") (CX:=L2.CX0) (sp:=L3.spTopT L3.lamQ) rfl (by decide) rfl ⟨rfl,by decide,by decide⟩ (fun _=>rfl) (by decide) ?F ?S ?C
 case F=>
  intro w mg fa h KX G hmg;have T:(H23.K0 w.params).lookup H23.lamT=some (PySem.W.tabObj #[]):=by k_is
  have hc:(H23.K0 w.params).lookup H23.lamC=some (H23.lamO w.params):=by k_is
  have hd:∀h:Heap,h.get? H23.lamC=some (H23.lamO w.params)->PySem.W.CodeHd h H23.lamC H23.lamT:=fun h e=>⟨_,_,_,_,_,_,_,_,_,e,rfl,rfl,rfl,rfl,rfl,rfl,rfl,rfl,by decide⟩;have hb:(H23.K0 w.params).lookup 4=some (PySem.W.boot_o_4 w.params):=by k_is
  have DT:L3.DefInT (L2.lessK H23.lamT (H23.K0 w.params)) "_law_order" K23.s__law_order H23.lamT:=by
   refine' K23.def_inT (L2.ns_dn T ?a) (L2.lk_dn T ?l ?n) (L2.code_dn T ?c) (L2.keep_dn T ?k) ?LC
   (case a=>k_is);(case l=>k_is);(case n=>(intro e;cases e));(case c=>k_is);(case k=>k_is)
   refine'⟨⟨H23.lamC,_,rfl,L2.lk_dn T hc ?m,hd⟩,⟨4,_,L2.ns_dn T ?b,by decide,by decide,L2.lk_dn T hb ?p,rfl,rfl,rfl⟩⟩
   (case m=>(intro e;cases e));(case b=>k_is);(case p=>(intro e;cases e))
  refine⟨H23.lamT,⟨T,⟨H23.lamC,fun h X=>hd h (X _ _ hc)⟩,by decide⟩,?_⟩;refine' K23.all_mk (K:=L2.lessK H23.lamT (H23.K0 w.params)) (L2.lessK_in KX) G hmg ?D0 ?D1 ?D2 ?D3 ?D4 ?D5 ?D6 ?D7 ?D8 ?D9 ?D10 ?D11 ?D12 ?D13 ?D14 ?D15 ?D16 ?D17 ?D18 ?D19 ?D20 ?D21 ?D22 ?D23 ?D24 ?D25 ?D26 ?D27 ?D28 ?D29 ?D30 ?D31 ?D32 ?D33 ?aLEAF_KINDS ?lLEAF_KINDS ?aPLACE_COUNTS ?lPLACE_COUNTS ?hPLACE_COUNTS ?zlist ?zzip ?zall ?zsorted ?zrange ?zlen ?zenumerate ?zmax ?zmin ?zisinstance ?zint ?ztuple ?zbool
  (case D0 | D1 | D2 | D3 | D4 | D5 | D6 | D7 | D8 | D9 | D10 | D11 | D12 | D13 | D14 | D15 | D16 | D17 | D18 | D19 | D20 | D22 | D23 | D24 | D25 | D26 | D27 | D28 | D29 | D30 | D31 | D32 | D33=>refine' L2.def_in (L2.ns_dn T ?a) (L2.lk_dn T ?l ?n) (L2.code_dn T ?c) (L2.keep_dn T ?k);(case a=>k_is);(case l=>k_is);(case n=>(intro e;cases e));(case c=>k_is);(case k=>k_is))
  (case D21=>exact DT)
  (case aLEAF_KINDS=>(refine' L2.ns_dn T ?_;k_is))
  (case lLEAF_KINDS=>(refine' L2.lk_dn T ?x ?n;(case x=>k_is);(case n=>(intro e;cases e))))
  (case aPLACE_COUNTS=>(refine' L2.ns_dn T ?_;k_is))
  (case lPLACE_COUNTS=>(refine' L2.lk_dn T ?x ?n;(case x=>k_is);(case n=>(intro e;cases e))))
  (case hPLACE_COUNTS=>rfl)
  (case zlist | zzip | zall | zsorted | zrange | zlen | zenumerate | zmax | zmin | zisinstance | zint | ztuple | zbool=>(refine' L2.ns_dn T ?_;k_is))
 case S=>exact L3.top_startT
 case C=>exact fun _ _ _ _ z=>z
#print axioms PySem.Challenge.cw_oncewise_k23_web_of_a_tree_holds
