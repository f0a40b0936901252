import PyProof.Rows.All
import Wide.All
import OpenK.AllK
import Wide.FinOn
import Lean
import PyProof.EqAt
import PyProof.EqKinds
import PyProof.TupleCall
import PyProof.NeKinds
import PySem.Challenge.RW_oncewise_k32_edges
import OpenK.ZGo
set_option genSizeOf false
set_option bootstrap.genMatcherCode false
set_option compiler.extract_closed false
set_option hygiene false
local macro_rules | `(tactic| walk_at "t")=>`(tactic| (first | assumption | exact Nat.succ_pos _ | exact qt.tk (by assumption) | exact Nat.lt_of_lt_of_le (qt.tk (by assumption)) (Nat.le_add_right _ _) | exact Nat.lt_of_lt_of_le (qt.tk (by assumption)) (by assumption)))
set_option hygiene true
local macro_rules | `(tactic| walk_at "w")=>`(tactic| conv=>whnf)
local macro_rules | `(tactic| walk_at "y")=>`(tactic| ((refine PySem.W.look_both ?_ ?_);(refine PySem.W.look_both ?_ ?_);(refine PySem.W.look_both ?_ ?_);(refine PySem.W.look_both ?_ ?_);(refine PySem.W.look_both ?_ ?_);(refine PySem.W.look_both ?_ ?_)))
set_option Elab.async false
set_option linter.all false
set_option maxRecDepth 100000
abbrev Aa:=@PySem.wpAny_bind
abbrev Ab:=@PyProof.Rows.wpS_bind
abbrev Ac:=@List.length_append
abbrev Ad:=@PyProof.Rows.wpS_pure
abbrev Ae:=@List.length_map
abbrev Af:=@PySem.W.Frag
abbrev Ag:=@List.mem_cons_of_mem
abbrev Ah:=@List.mem_append_right
abbrev Ai:=@PySem.wpAny_pure
abbrev Aj:=@List.mem_append
abbrev Ak:=@List.getElem?_append_right
abbrev Al:=@List.getElem?_eq_getElem
abbrev Am:=@Nat.le_refl
abbrev An:=@List.mem_append_left
abbrev Ao:=@List.size_toArray
abbrev Ap:=@List.mem_cons
abbrev Aq:=@List.mem_cons_self
abbrev Ar:=@List.getElem?_map
abbrev As:=@if_neg
abbrev Au:=@decide_eq_false
abbrev Av:=@List.nodup_cons
abbrev Aw:=@List.append_assoc
abbrev Ax:=@Bool.false_ne_true
abbrev Ay:=@Option.map_eq_some_iff
abbrev Az:=@List.getElem?_append_left
abbrev AA:=@if_pos
abbrev AB:=@List.mem_singleton
abbrev AC:=@List.map_append
abbrev AD:=@List.map_cons
abbrev AE:=@decide_eq_true
abbrev AF:=@List.length_cons
abbrev AG:=@PyProof.Rows.wpS_forRange
abbrev AH:=@List.nodup_append
abbrev AI:=@List.append_nil
abbrev AJ:=@Nat.lt_of_lt_of_le
abbrev AK:=@Ne.symm
abbrev AL:=@List.length_take
abbrev AM:=@Array.length_toList
abbrev AN:=@List.flatMap_append
abbrev AO:=@List.pairwise_append
abbrev AQ:=@List.flatMap_cons
abbrev AR:=@List.mem_of_getElem?
abbrev AS:=@PyProof.Rows.wpS_mono
abbrev AU:=@Nat.le_trans
abbrev AV:=@PySem.wpAny_mono
abbrev AW:=@List.getElem?_eq_some_iff
abbrev AX:=@Int.natCast_nonneg
abbrev AY:=@Bool.and_eq_true
abbrev AZ:=@Nat.le_add_right
abbrev A1:=@Array.getElem?_toList
abbrev A2:=@Nat.ne_of_lt
abbrev A3:=@List.take_of_length_le
abbrev A4:=@Array.toList_append
abbrev A5:=@List.getElem_of_mem
abbrev A6:=@List.getElem?_set_ne
abbrev A7:=@PySem.wpAny_field
abbrev A8:=@PySem.W.mg_none_of
abbrev A9:=@List.length_drop
abbrev Ba:=@PySem.wpAny_holding
abbrev Bb:=@List.perm_append_comm
abbrev Bc:=@Option.some.inj
abbrev Bd:=@Nat.le_of_lt
abbrev Be:=@List.perm_append_right_iff
abbrev Bf:=@List.length_singleton
abbrev Bg:=@List.take_append_drop
abbrev Bh:=@PySem.wpAny_newObj_type
abbrev Bi:=@PySem.W.kia_one
abbrev Bj:=@Array.size_push
abbrev Bk:=@Nat.zero_le
abbrev Bl:=@PySem.wpAny_rule
abbrev Bm:=@List.getD_eq_getElem?_getD
abbrev Bo:=@List.not_mem_nil
abbrev Bp:=@PySem.W.mg_of
abbrev Bq:=@List.getElem_take
abbrev Br:=@List.perm_append_left_iff
abbrev Bs:=@List.lookup_cons
abbrev Bt:=@List.mem_flatMap
abbrev Bu:=@PySem.mem_of_lookup
abbrev Bv:=@List.mem_range
abbrev Bw:=@Nat.lt_of_le_of_lt
abbrev Bx:=@PySem.wpAny_seqItems
abbrev Bz:=@List.mem_of_mem_take
abbrev BA:=@List.mem_erase_of_ne
abbrev BB:=@Nat.le_of_ble_eq_true
abbrev BC:=@congrArg
abbrev BD:=@List.take_succ
abbrev BE:=@Bool.eq_iff_iff
abbrev BF:=@List.find?_cons
abbrev BG:=@List.length_set
abbrev BH:=@Int.le_trans
abbrev BI:=@List.mem_map
abbrev BJ:=@PySem.W.hideAll_none
abbrev BK:=@List.take_length
abbrev BL:=@Nat.lt_succ_self
abbrev BM:=@List.getElem?_set_self
abbrev BN:=@List.length_range
abbrev BO:=@Array.size_append
abbrev BP:=@Int.le_of_lt
abbrev BQ:=@List.Perm.refl
abbrev BR:=@List.map_map
abbrev BS:=@PySem.W.kia_tup
abbrev BU:=@List.drop_eq_getElem_cons
abbrev BV:=@List.length_replicate
abbrev BW:=@Nat.min_eq_left
abbrev BX:=@PyProof.Rows.callWith_type1
abbrev BY:=@List.all_eq_true
abbrev BZ:=@List.getElem_mem
abbrev B3:=@List.perm_middle
abbrev B4:=@Bool.false_eq_true
abbrev B5:=@List.perm_append_singleton
abbrev B6:=@List.perm_ext_iff_of_nodup
abbrev B7:=@List.pairwise_iff_getElem
abbrev B8:=@List.mem_filter
abbrev B9:=@PySem.W.look_both
abbrev Cm:=@Int.toNat_natCast
abbrev Cn:=@List.getElem_drop
abbrev Co:=@List.pairwise_map
abbrev Cp:=@Nat.lt_succ_of_lt
abbrev Cq:=@List.any_cons
abbrev Cr:=@List.Pairwise.imp_of_mem
abbrev Cs:=@PyProof.Rows.slot_tuple_getitem
abbrev Ct:=@List.filterMap_cons
abbrev Cu:=@List.mem_map_of_mem
abbrev Cv:=@List.getElem?_replicate
abbrev Cw:=@List.eraseIdx_cons_succ
abbrev Cy:=@Nat.add_sub_cancel_left
abbrev Cz:=@Int.mul_le_mul_of_nonneg_right
abbrev CA:=@List.take_append_of_le_length
abbrev CB:=@List.eq_nil_of_length_eq_zero
abbrev CC:=@PySem.W.of_hideAll
abbrev CD:=@PySem.W.funFrames_hide
abbrev CF:=@Nat.sub_self
abbrev CG:=@decide_eq_true_iff
abbrev CH:=@Nat.not_lt_zero
abbrev CI:=@List.cons.inj
abbrev CK:=@Int.ofNat_inj
abbrev CL:=@List.getElem?_eq_none
abbrev CM:=@List.length_filter_le
abbrev CN:=@PySem.W.kitx_list
abbrev CO:=@Array.toList_push
abbrev CP:=@List.flatten_cons
abbrev CQ:=@Nat.le_succ
abbrev CS:=@List.mem_of_mem_drop
abbrev CT:=@Array.toList_reverse
abbrev CU:=@Nat.le_sub_one_of_lt
abbrev CV:=@List.nodup_range
abbrev CW:=@List.flatMap_nil
abbrev CY:=@PySem.W.hideAll_get
abbrev CZ:=@List.reverse_append
abbrev C0:=@List.flatten_append
abbrev C1:=@List.map_congr_left
abbrev C2:=@Nat.lt_irrefl
abbrev C3:=@List.forIn_cons
abbrev C4:=@Bool.or_eq_true
abbrev C5:=@Nat.le_add_left
abbrev C6:=@List.filter_nil
abbrev C7:=@Int.emod_nonneg
abbrev C8:=@Array.size_extract
abbrev C9:=@List.filter_append
abbrev De:=@Int.emod_lt_of_pos
abbrev Df:=@List.getElem?_cons_succ
abbrev Dg:=@List.length_eraseIdx_le
abbrev Di:=@Int.le_refl
abbrev Dj:=@List.eraseIdx_append_of_length_le
abbrev Dk:=@Nat.succ_pos
abbrev Dl:=@Nat.ne_of_gt
abbrev Dm:=@List.map_nil
abbrev Dn:=@Nat.lt_trans
abbrev Do:=@Bool.and_false
abbrev Dp:=@Nat.le_succ_of_le
abbrev Dq:=@List.drop_drop
abbrev Dr:=@List.drop_left
abbrev Ds:=@List.getElem_cons_drop
abbrev Dt:=@List.mem_range'_1
abbrev Du:=@List.Perm.append_right
abbrev Dv:=@List.eraseIdxIfInBounds_toArray
abbrev Dw:=@List.singleton_append
abbrev Dx:=@List.Perm.append_left
abbrev Dy:=@Nat.min_eq_right
abbrev Dz:=@Nat.max_eq_right
abbrev DA:=@List.sum_cons
abbrev DB:=@List.drop_append_of_le_length
abbrev DC:=@List.of_mem_zip
abbrev DD:=@Nat.max_eq_left
abbrev DE:=@List.length_zip
abbrev DF:=@List.length_pos_iff
abbrev DG:=@Int.add_mul_emod_self_right
abbrev DH:=@List.mem_filterMap
abbrev DI:=@PySem.W.kitx_tuple
abbrev DJ:=@Option.isSome_some
abbrev DK:=@List.drop_zero
abbrev DL:=@PySem.F.excBase_ValueError
abbrev DM:=@Nat.lt_or_eq_of_le
abbrev DN:=@List.getElem?_take
abbrev DO:=@List.getElem?_drop
abbrev DP:=@List.nodup_nil
abbrev DQ:=@List.append_of_mem
abbrev DR:=@congrFun
abbrev DS:=@PySem.F.slot_dict_getitem
abbrev DU:=@PySem.W.kitx_dict
abbrev DV:=@List.take_sublist
abbrev DW:=@Bool.eq_false_iff
abbrev DX:=@List.nodup_range'
abbrev DY:=@List.set_comm
abbrev DZ:=@List.getElem?_take_of_lt
abbrev Eb:=@List.all_cons
abbrev Ec:=@List.getElem_append_left
abbrev Ed:=@PySem.F.plainAttrs_list
abbrev Ee:=@List.zipIdx_cons
abbrev Ef:=@List.range'_succ
abbrev Eg:=@List.getElem?_set_self'
abbrev Eh:=@List.filter_cons_of_neg
abbrev Ei:=@List.filter_cons_of_pos
abbrev Ej:=@PySem.W.cellsFrom_some
abbrev Ek:=@List.drop_of_length_le
abbrev El:=@Nat.zero_add
abbrev Em:=@Nat.lt_or_ge
abbrev Eo:=@List.length_nil
abbrev Ep:=@List.nil_append
abbrev Er:=@beq_false_of_ne
abbrev Es:=@List.range_succ
abbrev Et:=@List.forIn_nil
abbrev Eu:=@Bool.and_true
abbrev Ew:=@Nat.add_assoc
abbrev Ex:=@Nat.sub_le
abbrev Ey:=@Prod.ext
noncomputable section
namespace L2
open PySem PyProof.Rows
theorem hJ{M:Model}{Γ:Ctx}{p:Pos}{t:Sem Fin}{fs:List Frame}{s s':Shared}{e:End}(h:Runs M Γ p t fs s e s'):s.toks≤s'.toks:=by induction h with|fresh _ ih=>exact AU (CQ _) ih|call _ _ ih1 ih2=>exact AU ih1 ih2|resumeFresh _ _ _ _ ih1 ih2=>exact AU ih1 ih2|resumeSuspended _ _ _ _ ih1 ih2=>exact AU ih1 ih2|segRet _ _ ih1 ih2=>exact AU ih1 ih2|segGen _ _ ih1 ih2=>exact AU ih1 ih2|segSuspGen _ _ _ _ ih1 ih2=>exact AU ih1 ih2|_=>first | exact Am _ | assumption
theorem uI{M:Model}{Γ:Ctx}{p:Pos}{g:Nat}{r:Resume}{s s':Shared}{res:GenResult}(h:Wakes M Γ p g r s res s'):s.toks≤s'.toks:=by
 unfold Wakes at h;split at h
 ·exact h.elim
 ·split at h
  ·obtain⟨e,s1,hr,_,_,rfl⟩:=h;have q:=hJ hr;exact q
  ·obtain⟨_,rfl⟩:=h;exact Am _
  ·obtain⟨_,rfl⟩:=h;exact Am _
 ·obtain⟨e,s1,hr,_,_,rfl⟩:=h;have q:=hJ hr;exact q
 ·obtain⟨_,rfl⟩:=h;exact Am _
 ·obtain⟨_,rfl⟩:=h;exact Am _
theorem ade{α:Type}{M:Model}{Γ:Ctx}(t:Sem α):∀{Q:α->Pos->Shared->Prop} {E:Value->Pos->Shared->Prop} {p:Pos} {s:Shared} (n:Nat),n≤s.toks->Sem.wp M Γ t Q E p s->Sem.wp M Γ t (fun a p' s'=>Q a p' s'/\n≤s'.toks) (fun e p' s'=>E e p' s'/\n≤s'.toks) p s:=by induction t with|pure a=>intro Q E p s n hn h;exact⟨h,hn⟩|raise e=>intro Q E p s n hn h;exact⟨h,hn⟩|load a part k ih=>intro Q E p s n hn ⟨o,h1,h2⟩;exact⟨o,h1,ih o n hn h2⟩|update a part f k ih=>intro Q E p s n hn ⟨h1,h2⟩;exact⟨h1,ih () n hn h2⟩|fresh k ih=>intro Q E p s n hn h;exact ih s.toks n (AU hn (CQ _)) h|choose src m k ih=>intro Q E p s n hn ⟨h1,h2⟩;exact⟨h1,ih _ n hn h2⟩|call c hd g l k ih=>intro Q E p s n hn ⟨r,s',h1,h2⟩;exact⟨r,s',h1,ih r n (AU hn (hJ h1)) h2⟩|genState g k ih=>intro Q E p s n hn ⟨st,h1,h2⟩;exact⟨st,h1,ih _ n hn h2⟩|resume g r l k ih=>intro Q E p s n hn ⟨res,s',h1,h2⟩;exact⟨res,s',h1,ih _ n (AU hn (uI h1)) h2⟩|rule tag k ih=>intro Q E p s n hn h;exact ih () n hn h|«at» pos k ih=>intro Q E p s n hn h;exact ih () n hn h|alloc o k ih=>intro Q E p s n hn h;exact ih _ n hn h|loadIfAlive a k ih=>intro Q E p s n hn h;exact ih _ n hn h|point l k ih=>intro Q E p s n hn h;exact ih _ n hn h|ask k ih=>intro Q E p s n hn h;exact ih _ n hn h|os q l k ih=>intro Q E p s n hn h;exact ih _ n hn h|handled own k ih=>intro Q E p s n hn h;exact ih _ n hn h|newGen c k ih=>intro Q E p s n hn h;exact ih _ n hn h|stack k ih=>intro Q E p s n hn h;exact ih _ n hn h|thread k ih=>intro Q E p s n hn h;exact ih _ n hn h|unsupported w=>intro Q E p s n hn h;exact h.elim|finish e=>intro Q E p s n hn h;exact h.elim|register a k ih=>intro Q E p s n hn h;exact h.elim|yield v g l k ih=>intro Q E p s n hn h;exact h.elim|fork c k ih=>intro Q E p s n hn h;exact h.elim|await a f d l k ih=>intro Q E p s n hn h;exact h.elim
theorem uZ{α:Type}{M:Model}{A:Around}{t:Sem α}{Q:α->Shared->Prop}{E:Value->Shared->Prop}{s:Shared}(h:wpAny M A t Q E s):wpAny M A t (fun a s'=>Q a s'/\s.toks≤s'.toks) (fun e s'=>E e s'/\s.toks≤s'.toks) s:=
 fun Γ p hΓ=>ade t s.toks (Am _) (h Γ p hΓ)
theorem jp{α:Type}{M:Model}{A:Around}{t:Sem α}{Q:α->Shared->Prop}{E:Value->Shared->Prop}{s:Shared}(hp:0<s.toks)(h:wpAny M A t (fun a s'=>0<s'.toks->Q a s') (fun e s'=>0<s'.toks->E e s') s):wpAny M A t Q E s:=
 AV (uZ h) (fun _ _ z=>z.1 (AJ hp z.2)) fun _ _ z=>z.1 (AJ hp z.2)
end L2
variable {M:PySem.Model}{apos cpos kpos lp np p p1 p2 p3 p4 p5 pos pos' py tp:PySem.Pos}{t t1 t2:Bool}{s s':PySem.Shared}{c e elt o target tg value:PySem.Expr}{α β κ:Type}{A:PySem.Around}{E Q xe:PySem.Value->PySem.Shared->Prop}{its us vs:List PySem.Value}{cd cdv doc oc pm u:PySem.Value}{base h h':PySem.Heap}{d i j kt m n na t' x1:Nat}{ch fp:List PySem.Addr}{C Pt dx f fa it ka l l1 l2 pa:PySem.Addr}{kx name px q qual x:PySem.Str}{pins:List (PySem.Addr×PySem.Obj)}{st:PySem.Stmt}{elts es ifs:List PySem.Expr}{body:List PySem.Stmt}{B lo:Int}{mA mg:PySem.Str->Option PySem.Value}{fd:PySem.FuncData}{ps:List PySem.Str}{lscope scope:PySem.Scope}{outer:List PySem.Env}{ct lk:List (Nat×Nat)}{an od:Option PySem.Addr}{osl:Array (Option PySem.Value)}{prog:PySem.Program}{env:PySem.Env}{rks:List Int}{qs:List Nat}
namespace L2
open PySem PySem.Spec PyProof.Rows
abbrev jo:=Sum Int Str
def kA:jo->Value->Bool
 |.inl k,v=>Value.isInt k v
 |.inr x,v=>Value.isStrOf x v
def anr(w:World):jo->Int
 |.inl k=>hashInt k
 |.inr x=>hashStr w x
theorem xp:∀{k:jo} {v:Value},kA k v=true->(∃i t,k=Sum.inl i/\v=Value.int i t)\/(∃x t,k=Sum.inr x/\v=Value.str x t)
 |.inl i,v,h=>by obtain⟨t,e⟩:=Value.isInt_shape (k:=i) (v:=v) h;exact .inl ⟨i,t,rfl,e⟩
 |.inr x,v,h=>by obtain⟨t,e⟩:=Value.isStrOf_shape (x:=x) (v:=v) h;exact .inr ⟨x,t,rfl,e⟩
theorem wS(i:Int)(t:Tok):kA (.inl i) (.int i t)=true:=by simp[kA,Value.isInt]
theorem yf(x:Str)(t:Tok):kA (.inr x) (.str x t)=true:=by simp[kA,Value.isStrOf]
theorem aj7(a b:Int):decide ((Sum.inl a:jo)=Sum.inl b)=(a==b):=by
 by_cases e:a=b
 ·subst e;simp
 ·have h:¬(Sum.inl a:jo)=Sum.inl b:=fun q=>e (Sum.inl.inj q);rw[Au h];exact(beq_eq_false_iff_ne.mpr e).symm
theorem aih(a b:Str):decide ((Sum.inr a:jo)=Sum.inr b)=decide (a=b):=by
 by_cases e:a=b
 ·subst e;simp
 ·have h:¬(Sum.inr a:jo)=Sum.inr b:=fun q=>e (Sum.inr.inj q);rw[Au h,Au e]
theorem ai9(a:Int)(b:Str):decide ((Sum.inl a:jo)=Sum.inr b)=false:=Au (fun q=>nomatch q)
theorem ak3(a:Str)(b:Int):decide ((Sum.inr a:jo)=Sum.inl b)=false:=Au (fun q=>nomatch q)
def xt(prog:Program)(w:World):PySem.KeyKind prog w jo where
 is:=kA
 hash:=anr w
 inj:=fun v a b ha hb=>by
  rcases xp ha with⟨i,t,rfl,rfl⟩ | ⟨x,t,rfl,rfl⟩
  ·rcases xp hb with⟨j,u,rfl,e⟩ | ⟨y,u,rfl,e⟩
   ·injection e with e1 _;rw[e1]
   ·exact nomatch e
  ·rcases xp hb with⟨j,u,rfl,e⟩ | ⟨y,u,rfl,e⟩
   ·exact nomatch e
   ·injection e with e1 _;rw[e1]
 byValue:=fun k v h=>by rcases xp h with⟨i,t,rfl,rfl⟩ | ⟨x,t,rfl,rfl⟩<;>rfl
 pyHash:=fun hv h=>by
  rcases xp hv with⟨i,t,rfl,rfl⟩ | ⟨x,t,rfl,rfl⟩
  ·exact wpAny_pyHash_int h
  ·exact wpAny_pyHash_str h
 eqBool:=fun hu hv h=>by
  rcases xp hu with⟨i,t,rfl,rfl⟩ | ⟨x,t,rfl,rfl⟩
  ·rcases xp hv with⟨j,u,rfl,rfl⟩ | ⟨y,u,rfl,rfl⟩
   ·rw[aj7] at h;exact wpAny_eqBool_int h
   ·rw[ai9] at h;exact SeqAt.EqAt.int_str i t y u _ _ _ _ h
  ·rcases xp hv with⟨j,u,rfl,rfl⟩ | ⟨y,u,rfl,rfl⟩
   ·rw[ak3] at h;exact SeqAt.EqAt.str_int x t j u _ _ _ _ h
   ·rw[aih] at h;exact wpAny_eqBool_str h
 «strs» := fun k x t v h=>by
  rcases xp h with⟨i,u,rfl,e⟩ | ⟨y,u,rfl,e⟩
  ·exact nomatch e
  ·injection e with e1 _
   subst e1;cases v<;>rfl
theorem rC(prog:Program)(w:World)(i:Int)(t:Tok):(xt prog w).is (.inl i) (.int i t)=true:=wS i t
theorem qV(prog:Program)(w:World)(x:Str)(t:Tok):(xt prog w).is (.inr x) (.str x t)=true:=yf x t
inductive V where
 |non | bl (b:Bool) | int (i:Int) | str (x:Str) | byt (b:Array UInt8) | flt (b:UInt64) | ref (a:Addr) | ty (n:String)
 deriving DecidableEq
def zq:V->Value->Prop
 |.non,u=>u=Value.none
 |.bl b,u=>u=Value.bool b
 |.int i,u=>∃t,u=Value.int i t
 |.str x,u=>∃t,u=Value.str x t
 |.byt b,u=>∃t,u=Value.bytes b t
 |.flt b,u=>∃t,u=Value.float b t
 |.ref a,u=>u=Value.ref a
 |.ty n,u=>u=Value.type n
abbrev zn:List V->List Value->Prop:=Paired zq
theorem zn.length{xs:List V}(r:zn xs us):xs.length=us.length:=Paired.length r
theorem zn.get:∀{xs:List V} {us:List Value} {i:Nat} {x:V},zn xs us->xs[i]?=some x->∃u,us[i]?=some u/\zq x u
 |_,_,_,_,.nil,e=>by simp at e
 |_,_,0,_,.cons r _,e=>by simp at e;subst e;exact⟨_,rfl,r⟩
 |_,_,i+1,x,.cons _ t,e=>by obtain⟨u,h1,h2⟩:=zn.get (i:=i) (x:=x) t (by simpa using e);exact⟨u,by simpa using h1,h2⟩
theorem zn.set{x:V}{u:Value}(r:zq x u):∀{xs:List V} {us:List Value} (i:Nat),zn xs us->zn (xs.set i x) (us.set i u)
 |_,_,_,.nil=>.nil
 |_,_,0,.cons _ t=>.cons r t
 |_,_,i+1,.cons q t=>.cons q (zn.set r i t)
theorem zn.append:∀{xs ys:List V} {us ws:List Value},zn xs us->zn ys ws->zn (xs++ys) (us++ws)
 |_,_,_,_,.nil,s=>s
 |_,_,_,_,.cons r t,s=>.cons r (zn.append t s)
theorem zn.take:∀{xs:List V} {us:List Value} (n:Nat),zn xs us->zn (xs.take n) (us.take n)
 |_,_,0,_=>.nil
 |_,_,_+1,.nil=>.nil
 |_,_,n+1,.cons r t=>.cons r (zn.take n t)
theorem zn.drop:∀{xs:List V} {us:List Value} (n:Nat),zn xs us->zn (xs.drop n) (us.drop n)
 |_,_,0,r=>r
 |_,_,_+1,.nil=>.nil
 |_,_,n+1,.cons _ t=>zn.drop n t
def gr:Option V->Option Value->Prop
 |some v,some u=>zq v u
 |none,none=>True
 |_,_=>False
def KV :List (κ×V)->List (κ×Value)->Prop:=Paired fun(p:κ×V) (q:κ×Value)=>p.1=q.1/\zq p.2 q.2
def kV:jo->V
 |.inl i=>.int i
 |.inr x=>.str x
inductive HO where
 |lst (xs:List V)
 |tup (xs:List V)
 |dK (kvs:List (jo×V)) | dT (kvs:List (List jo×V))
 |set (S:Int->Bool) (n:Nat)
 |ins (C dx:Addr) (fs:List (Str×V))
 |own (x:Addr)
 |xd (fs:List (Str×V))
 |met (f x:Addr)
 |rng (lo hi:Int)
 |frz (o:Obj) (u:HO)
 |tbl (ps:Array Value)
 |ext (φ:Heap->Prop)
abbrev Hp:=Addr->Option HO
def upd(H:Hp)(a:Addr)(o:HO):Hp:=fun b=>if b=a then some o else H b
theorem zw{H:Hp}{a:Addr}{o:HO}:upd H a o a=some o:=by unfold upd;rw[AA rfl]
theorem qp{H:Hp}{a b:Addr}{o:HO}(h:b≠a):upd H a o b=H b:=by unfold upd;rw[As h]
theorem acx{H:Hp}{a:Addr}{o u:HO}:upd (upd H a o) a u=upd H a u:=by funext b;unfold upd;split<;>rfl
theorem alq{H:Hp}{a b:Addr}{o u:HO}(h:H a=some o)(h':H b=some u)(d:o≠u):a≠b:=by intro e;subst e;rw[h] at h';exact d (Bc h')
theorem j8{H:Hp}{a b:Addr}{o:HO}(h:H a=some o)(h':H b=none):a≠b:=by intro e;subst e;rw[h] at h';cases h'
section
variable (P:Program)(w:World)
def jz(H:Hp)(h:Heap)(a:Addr):HO->Prop
 |.lst xs=>xs.length≤sizeLine/\∃(its:List Value) (n:Nat),zn xs its/\h.get? a=some { cls:=.type "list",data:=.seq its.toArray n }
 |.tup xs=>xs.length≤sizeLine/\∃its:List Value,zn xs its/\IsTup h a its.toArray
 |.dK kvs=>kvs.length≤sizeLine/\(a==sysModules)=false/\∃vs,KV kvs vs/\h.DictOf (xt P w) a vs
 |.dT kvs=>kvs.length≤sizeLine/\(a==sysModules)=false/\∃xs:List (List jo×Addr×Value),
  Paired (fun(p:List jo×V) (q:List jo×Addr×Value)=>p.1=q.1/\H q.2.1=some (.tup (p.1.map kV))/\zq p.2 q.2.2) kvs xs/\
  ∃o es ep,h.get? a=some o/\o.ExactDict/\o.data=.dict es ep/\es.toList=xs.map (entryOfKey (tupleKind (xt P w)))/\(xs.map (·.1)).Nodup
 |.set S n=>h.SetOf (intKind P w) a S n
 |.ins C dx fs=>H dx=some (.own a)/\fs.length≤1000/\dx≠a/\h.get? a=some (PySem.W.instObj C dx)/\
  ∃mA,h.Ns1 dx mA/\(∀f,gr (fs.lookup f) (mA f))/\PySem.Within mA (fs.map (·.1))
 |.own _=>∃o,h.get? a=some o
 |.xd fs=>∃mA,h.Ns1 a mA/\∀f,gr (fs.lookup f) (mA f)
 |.rng lo hi=>∃t u v,h.get? a=some { cls:=.type "range",data:=.fields #[.int lo t,.int hi u,.int 1 v] }
 |.frz o u=>h.get? a=some o/\jz H h a u
 |.tbl ps=>h.get? a=some { cls:=.none,data:=.fields ps }
 |.met f x=>h.get? a=some (PySem.W.methodObj (.ref f) (.ref x))
 |.ext φ=>φ h/\(∃o,h.get? a=some o)/\∀h1 h2:Heap,φ h1->(∀o,h1.get? a=some o->h2.get? a=some o)->φ h2
def dN(H:Hp)(h:Heap):Prop:=∀a o,H a=some o->jz P w H h a o
end
section
variable {P:Program}{w:World}{H H':Hp}{a:Addr}{o:HO}
theorem jz.lt(x:jz P w H h a o):a<h.objs.size:=by
 cases o with
 |lst xs=>obtain⟨_,_,_,_,e⟩:=x;exact Heap.lt_size e
 |tup xs=>obtain⟨_,_,_,p⟩:=x;exact p.lt
 |dK kvs=>obtain⟨_,_,_,_,o,_,_,e,_⟩:=x;exact Heap.lt_size e
 |dT kvs=>obtain⟨_,_,_,_,o,_,_,e,_⟩:=x;exact Heap.lt_size e
 |set S n=>obtain⟨o,_,_,_,e,_⟩:=x;exact Heap.lt_size e
 |ins C dx fs=>obtain⟨_,_,_,e,_⟩:=x;exact Heap.lt_size e
 |own y=>obtain⟨_,e⟩:=x;exact Heap.lt_size e
 |xd fs=>obtain⟨_,⟨_,_,_,e,_⟩,_⟩:=x;exact Heap.lt_size e
 |rng lo hi=>obtain⟨_,_,_,e⟩:=x;exact Heap.lt_size e
 |frz ob u=>obtain⟨e,_⟩:=x;exact Heap.lt_size e
 |tbl ps=>exact Heap.lt_size (show h.get? a=some _ from x)
 |met f y=>exact Heap.lt_size (show h.get? a=some _ from x)
 |ext φ=>obtain⟨_,⟨_,e⟩,_⟩:=x;exact Heap.lt_size e
theorem Paired.mapP{α β:Type}{F G:α->β->Prop}:∀{l₁:List α} {l₂:List β},Paired F l₁ l₂->(∀a b,F a b->G a b)->Paired G l₁ l₂
 |_,_,.nil,_=>.nil
 |_,_,.cons r t,f=>.cons (f _ _ r) (Paired.mapP t f)
abbrev EI:=@Paired.mapP
theorem jz.stay(x:jz P w H h a o)(k:∀b u,(b=a\/H b=some (.own a))->h.get? b=some u->h'.get? b=some u)
 (ho:∀b,H b=some (.own a)->H' b=some (.own a)) (ht:∀b xs,H b=some (.tup xs)->H' b=some (.tup xs)):jz P w H' h' a o:=by
 induction o with
 |lst xs=>obtain⟨z,its,n,r,e⟩:=x;exact⟨z,its,n,r,k _ _ (.inl rfl) e⟩
 |tup xs=>obtain⟨z,its,r,ob,e,c⟩:=x;exact⟨z,its,r,ob,k _ _ (.inl rfl) e,c⟩
 |dK kvs=>obtain⟨z,y,vs,r,ob,es,ep,e,c⟩:=x;exact⟨z,y,vs,r,ob,es,ep,k _ _ (.inl rfl) e,c⟩
 |dT kvs=>
  obtain⟨z,y,xs,r,ob,es,ep,e,c⟩:=x;exact⟨z,y,xs,EI r fun p q z=>⟨z.1,ht _ _ z.2.1,z.2.2⟩,ob,es,ep,k _ _ (.inl rfl) e,c⟩
 |set S n=>obtain⟨ob,es,ep,t,e,c⟩:=x;exact⟨ob,es,ep,t,k _ _ (.inl rfl) e,c⟩
 |ins C dx fs=>
  obtain⟨d,z,ne,e,mA,⟨od,es,ep,e2,c⟩,r⟩:=x;exact⟨ho _ d,z,ne,k _ _ (.inl rfl) e,mA,⟨od,es,ep,k _ _ (.inr d) e2,c⟩,r⟩
 |own y=>obtain⟨ob,e⟩:=x;exact⟨ob,k _ _ (.inl rfl) e⟩
 |xd fs=>obtain⟨mA,⟨od,es,ep,e,c⟩,r⟩:=x;exact⟨mA,⟨od,es,ep,k _ _ (.inl rfl) e,c⟩,r⟩
 |rng lo hi=>obtain⟨t,u,v,e⟩:=x;exact⟨t,u,v,k _ _ (.inl rfl) e⟩
 |frz ob u ih=>obtain⟨e,q⟩:=x;exact⟨k _ _ (.inl rfl) e,ih q⟩
 |tbl ps=>
  have e:h.get? a=some { cls:=.none,data:=.fields ps }:=x;show h'.get? a=some { cls:=.none,data:=.fields ps };exact k a _ (.inl rfl) e
 |met f y=>
  have e:h.get? a=some (PySem.W.methodObj (.ref f) (.ref y)):=x;show h'.get? a=some (PySem.W.methodObj (.ref f) (.ref y));exact k a _ (.inl rfl) e
 |ext φ=>obtain⟨p,⟨o,e⟩,st⟩:=x;exact⟨st _ _ p fun o q=>k _ _ (.inl rfl) q,⟨o,k _ _ (.inl rfl) e⟩,st⟩
theorem dN.lt(x:dN P w H h)(e:H a=some o):a<h.objs.size:=(x a o e).lt
theorem dN.fresh(x:dN P w H h)(e:h.objs.size≤a):H a=none:=by cases q:H a with|none=>rfl|some u=>exact absurd (AJ (x.lt q) e) (C2 _)
theorem dN.kept(x:dN P w H h)(k:∀b u,h.get? b=some u->h'.get? b=some u):dN P w H h':=fun a o e=>
 (x a o e).stay (fun b u _ q=>k b u q) (fun _ q=>q) fun _ _ q=>q
theorem dN.laid(x:dN P w H h)(k:∀b u,h.get? b=some u->h'.get? b=some u)(hp:h.objs.size≤a)(new:jz P w (upd H a o) h' a o):dN P w (upd H a o) h':=fun b u e=>by
 have hn:=x.fresh hp;by_cases hb:b=a
 ·subst hb;rw[zw] at e;cases e;exact new
 ·rw[qp hb] at e;exact(x b u e).stay (fun c v _ q=>k c v q) (fun c q=>by rw[qp (j8 q hn)];exact q) fun c xs q=>by rw[qp (j8 q hn)];exact q
end
def Rd(H:Hp)(a:Addr)(u:HO):Prop:=H a=some u\/∃o,H a=some (.frz o u)
theorem Rd.ok{P:Program}{w:World}{H:Hp}{a:Addr}{u:HO}(r:Rd H a u)(x:dN P w H h):jz P w H h a u:=by
 rcases r with r | ⟨o,r⟩
 ·exact x a u r
 ·obtain⟨_,q⟩:=x a _ r;exact q
def Mut:Option HO->Prop
 |some (.lst _)=>True
 |some (.dK _)=>True
 |some (.dT _)=>True
 |some (.set _ _)=>True
 |some (.ins _ _ _)=>True
 |some (.ext _)=>True
 |_=>False
section
variable {P:Program}{w:World}{H:Hp}{x e:Addr}{o':HO}
theorem dN.write(ok:dN P w H h)(mu:Mut (H x))(he:e=x\/H e=some (.own x))(k:∀b u,b≠e->h.get? b=some u->h'.get? b=some u)(heo:∃u,h'.get? e=some u)
 (new:jz P w (upd H x o') h' x o'):dN P w (upd H x o') h':=fun b u q=>by
 have nown:∀c y,H c=some (.own y)->c≠x:=fun c y r z=>by subst z;rw[r] at mu;exact mu
 have ntup:∀c xs,H c=some (.tup xs)->c≠x:=fun c xs r z=>by subst z;rw[r] at mu;exact mu
 by_cases hb:b=x
 ·subst hb;rw[zw] at q;cases q;exact new
 ·rw[qp hb] at q;by_cases hbe:b=e
  ·have q':H b=some (.own x):=by
    rcases he with z | z
    ·exact absurd (hbe.trans z) hb
    ·rw[hbe];exact z
   rw[q] at q';cases q';obtain⟨v,hv⟩:=heo;exact⟨v,by rw[hbe];exact hv⟩
  ·refine(ok b u q).stay (fun c v hc r=>k c v ?_ r) (fun c r=>by rw[qp (nown c b r)];exact r) fun c xs r=>by rw[qp (ntup c xs r)];exact r
   rcases hc with rfl | hc
   ·exact hbe
   ·rintro rfl;rcases he with z | z
    ·exact nown c b hc z
    ·rw[hc] at z;cases z;exact hb rfl
end
structure Un(fs ex:List Addr)(H H':Hp)(h h':Heap):Prop where
 keep:∀b o,h.get? b=some o->H b=none->b∉fs->b∉ex->h'.get? b=some o
 slot:∀b o,h.get? b=some o->H b=none->b∈fs->b∉ex->∃sl,h'.get? b=some { o with slots:=sl }
 free:∀b o,h.get? b=some o->H b=none->b∉ex->H' b=none
 there:∀b o,h.get? b=some o->b∉ex->∃o',h'.get? b=some o'
 tups:∀b xs,H b=some (.tup xs)->H' b=some (.tup xs)
 frzs:∀b o u,H b=some (.frz o u)->H' b=some (.frz o u)
 tbls:∀b ps,H b=some (.tbl ps)->∃more,H' b=some (.tbl (ps++more))
section
variable {fs fs' ex ex':List Addr}{H H1 H2:Hp}{h1 h2:Heap}{a x e:Addr}{o:HO}
theorem Un.any(u:Un fs ex H H1 h h1){b:Addr}{ob:Obj}(q:h.get? b=some ob)(n:H b=none)(hx:b∉ex):∃sl,h1.get? b=some { ob with slots:=sl }:=by
 by_cases hb:b∈fs
 ·exact u.slot b ob q n hb hx
 ·exact⟨ob.slots,u.keep b ob q n hb hx⟩
theorem Un.kept(k:∀b u,h.get? b=some u->h'.get? b=some u):Un fs ex H H h h':=
 ⟨fun b ob q _ _ _=>k b ob q,fun b ob q _ _ _=>⟨ob.slots,k b ob q⟩,fun _ _ _ n _=>n,fun b ob q _=>⟨ob,k b ob q⟩,fun _ _ q=>q,fun _ _ _ q=>q,fun _ ps q=>⟨#[],by rw[q];simp⟩⟩
theorem Un.refl:Un fs ex H H h h:=Un.kept fun _ _ q=>q
theorem Un.laid(k:∀b u,h.get? b=some u->h'.get? b=some u)(hp:h.objs.size≤a)(hn:H a=none):Un fs ex H (upd H a o) h h' where
 keep:=fun b u q _ _ _=>k b u q
 slot:=fun b u q _ _ _=>⟨u.slots,k b u q⟩
 free:=fun b u q n _=>by rw[qp (A2 (AJ (Heap.lt_size q) hp))];exact n
 there:=fun b u q _=>⟨u,k b u q⟩
 tups:=fun b xs q=>by rw[qp (j8 q hn)];exact q
 frzs:=fun b u xs q=>by rw[qp (j8 q hn)];exact q
 tbls:=fun b ps q=>⟨#[],by rw[qp (j8 q hn),q];simp⟩
theorem Un.write(mu:Mut (H x))(he:e=x\/H e=some (.own x))(k:∀b u,b≠e->h.get? b=some u->h'.get? b=some u)(heo:∃u,h'.get? e=some u):Un fs ex H (upd H x o) h h':=by
 have hx:∀b,H b=none->b≠x:=fun b n z=>by subst z;rw[n] at mu;exact mu
 have hb:∀b,H b=none->b≠e:=fun b n z=>by
  subst z;rcases he with r | r
  ·exact hx b n r
  ·rw[n] at r;cases r
 have hm:∀b u,H b=some u->¬Mut (some u)->b≠x:=fun b u q nm z=>by subst z;rw[q] at mu;exact nm mu
 refine⟨fun b u q n _ _=>k b u (hb b n) q,fun b u q n _ _=>⟨u.slots,k b u (hb b n) q⟩,fun b u q n _=>by rw[qp (hx b n)];exact n,fun b u q _=>?_,
  fun b xs q=>by rw[qp (hm b _ q fun z=>z)];exact q,fun b u xs q=>by rw[qp (hm b _ q fun z=>z)];exact q,fun b ps q=>⟨#[],by rw[qp (hm b _ q fun z=>z),q];simp⟩⟩
 by_cases hbe:b=e
 ·subst hbe;exact heo
 ·exact⟨u,k b u hbe q⟩
end
def trk(h:Heap)(H:Hp):List Addr:=(List.range h.objs.size).filter fun a=>(H a).isSome
def pM(h:Heap)(H:Hp):Heap:=PySem.W.hideAll h (trk h H)
theorem yN(h:Heap)(H:Hp):(pM h H).objs.size=h.objs.size:=PySem.W.hideAll_size _ _
theorem ac8{H:Hp}{b:Addr}{o:Obj}(e:h.get? b=some o)(n:H b=none):(pM h H).get? b=some o:=
 CY _ e fun hm=>by have q:(H b).isSome=true:=(B8.mp hm).2;rw[n] at q;simp at q
theorem afi{H:Hp}{b:Addr}{o:Obj}(e:(pM h H).get? b=some o):h.get? b=some o/\H b=none:=by
 have e':h.get? b=some o:=CC (trk h H) e;refine⟨e',?_⟩;cases q:H b with
 |none=>rfl
 |some x=>
  have hm:b∈trk h H:=B8.mpr ⟨Bv.mpr (Heap.lt_size e'),by simp[q]⟩;have z:(pM h H).get? b=none:=BJ (trk h H) hm;rw[z] at e;cases e
end L2
variable {xs zs:List L2.V}{H H' H₀:L2.Hp}{v:L2.V}{kvs:List (List L2.jo×L2.V)}
namespace L2
open PySem PySem.Spec PyProof.Rows
structure Mod(K:Af)(mg:Str->Option Value)(base:Heap):Prop where
 kin:K.In base
 glob:base.Ns mainGlobals mg
 blt:∃mb,base.Ns builtinsNs mb/\∀x:Str,x ≠ "__name__" -> mb x=bootBuiltins x
 nolimit:base.NoLimit
structure Cx where
 prog:Program
 w:World
 K:Af
 mg:Str->Option Value
 base:Heap
 A:Around
 N:List Str
 s₀:Shared
 H₀:Hp
 env:Env
 outer:List Env
 stack:List Env
 ex:List Addr
 fn:Str->Bool
 calm:Bool
 pn:List (Addr×Obj)
 xe:Value->Shared->Prop
def bE(l:List Env):List Addr:=l.filterMap (·.frame)
abbrev Cx.fs(X:Cx):List Addr:=bE X.outer
def Vis(sc:Scope)(x:Str):Prop:=sc.names.lookup x=some .local\/sc.names.lookup x=some .cell\/sc.names.lookup x=some .free
def Loc(sc:Scope)(x:Str):Prop:=sc.names.lookup x=some .local\/sc.names.lookup x=some .cell
def anu(env:Env)(h:Heap)(m:Str->Option Value)(x:Str)(u:Value):Prop:=
 (env.kindOf x=some .local/\m x=some u)\/((env.kindOf x=some .cell\/env.kindOf x=some .free)/\∃c,env.cells.lookup x=some c/\h.IsCell c (some u))
structure Cx.Ok(X:Cx):Prop where
 mod:Mod X.K X.mg X.base
 kind:X.env.scope.kind=.function
 glob:X.env.globals=mainGlobals
 blt:X.env.builtins=builtinsNs
 above:X.s₀.heap.objs.size≤X.env.locals
 inj:∀x y c,X.env.cells.lookup x=some c->X.env.cells.lookup y=some c->x=y
 has:∀x,(X.env.kindOf x=some .cell\/X.env.kindOf x=some .free)->∃c,X.env.cells.lookup x=some c
 cab:∀x c,X.fn x=true->X.env.cells.lookup x=some c->X.s₀.heap.objs.size≤c
 hd:X.calm=true->X.A.handled=none
 frames:X.A.frames=some X.stack
 stk:X.stack=X.outer\/(X.stack=X.env::X.outer/\X.env.frame=some X.env.locals)
 exf:∀b∈X.ex,b≠X.env.locals/\∀x c,X.env.cells.lookup x=some c->c≠b
 bs:∀b o,X.base.get? b=some o->X.s₀.heap.get? b=some o/\X.H₀ b=none
 bsz:X.base.objs.size≤X.s₀.heap.objs.size
 noex:∀b o,X.base.get? b=some o->b∉X.ex
 exfs:∀b∈X.ex,b∉X.fs
 funs:X.s₀.heap.FunFrames X.base X.outer
 frf:∀b∈X.fs,X.H₀ b=none
structure qt(X:Cx)(pins:List (Addr×Obj))(σ:List (Option V))(H:Hp)(s:Shared):Prop where
 ok:X.Ok
 os:s.os=X.s₀.os
 bare:AllBare s.gens
 base:Un X.fs X.ex X.H₀ H X.s₀.heap s.heap
 loc:∃m,s.heap.Ns X.env.locals m/\∀(i:Nat) (x:Str) (v:V),X.N[i]?=some x->σ[i]?=some (some v)->Vis X.env.scope x->∃u,zq v u/\anu X.env s.heap m x u
 cell:∀x c,X.env.cells.lookup x=some c->∃v,s.heap.IsCell c v
 free:H X.env.locals=none
 freeC:∀x c,X.env.cells.lookup x=some c->H c=none
 pin:∀p∈X.pn++pins,s.heap.get? p.1=some p.2/\H p.1=none/\p.1≠X.env.locals/\p.1∉X.fs/\∀v,p.2.data≠.cell v
 hok:dN X.prog X.w H s.heap
 len:σ.length=X.N.length
 tk:0<s.toks
section
variable {X:Cx}{σ:List (Option V)} 
theorem Cx.Ok.nofr(ok:X.Ok){b:Addr}{o:Obj}(e:X.base.get? b=some o):b∉X.fs:=fun hb=>by have:=(ok.funs.mem hb).1;rw[e] at this;cases this
theorem qt.bs(I:qt X pins σ H s):∀b o,X.base.get? b=some o->s.heap.get? b=some o/\H b=none:=fun b o e=>
 ⟨I.base.keep b o (I.ok.bs b o e).1 (I.ok.bs b o e).2 (I.ok.nofr e) (I.ok.noex b o e),I.base.free b o (I.ok.bs b o e).1 (I.ok.bs b o e).2 (I.ok.noex b o e)⟩
theorem qt.bk(I:qt X pins σ H s):∀b o,X.base.get? b=some o->s.heap.get? b=some o:=fun b o e=>(I.bs b o e).1
theorem qt.mod(I:qt X pins σ H s):Mod X.K X.mg X.base:=I.ok.mod
theorem qt.kIn(I:qt X pins σ H s):X.K.In s.heap:=I.ok.mod.kin.keeps I.bk
theorem qt.nolimit(I:qt X pins σ H s):s.heap.NoLimit:=I.ok.mod.nolimit.keeps I.bk
theorem qt.lt(I:qt X pins σ H s):X.env.locals<s.heap.objs.size:=let ⟨_,hn,_⟩:=I.loc;hn.lt
theorem qt.sz(I:qt X pins σ H s):X.s₀.heap.objs.size≤s.heap.objs.size:=AU I.ok.above (Bd I.lt)
theorem qt.nofs(I:qt X pins σ H s){a:Addr}(h:s.heap.objs.size≤a):a∉X.fs:=fun hb=>by obtain⟨_,o,ho,_⟩:=I.ok.funs.mem hb;exact absurd (AJ (Heap.lt_size ho) (AU I.sz h)) (C2 _)
theorem qt.cne(I:qt X pins σ H s):∀x c,X.env.cells.lookup x=some c->c≠X.env.locals:=fun x c e z=>by obtain⟨v,o,ho,hd⟩:=I.cell x c e;obtain⟨m,⟨o',es,ep,ho',hd',_⟩,_⟩:=I.loc;rw[z,ho'] at ho;cases ho;rw[hd'] at hd;cases hd
theorem qt.funs(I:qt X pins σ H s):s.heap.FunFrames X.base X.outer:=by
 have all:∀(l:List Env),(∀b∈bE l,b∈X.fs)->X.s₀.heap.FunFrames X.base l->s.heap.FunFrames X.base l:=by
  intro l
  induction l with
  |nil=>intro _ _;trivial
  |cons env r ih=>
   intro hs hl;obtain⟨hk,⟨L,o,hf,hn,ho,hd⟩,hr⟩:=hl;have hL:L∈X.fs:=hs L (by unfold bE;rw[Ct,hf];exact Aq);obtain⟨sl,e⟩:=I.base.slot L o ho (I.ok.frf L hL) hL fun z=>I.ok.exfs L z hL;exact⟨hk,⟨L,_,hf,hn,e,hd⟩,ih (fun b hb=>hs b (by unfold bE;rw[Ct,hf];exact Ag _ hb)) hr⟩
 exact all X.outer (fun _ hb=>hb) I.ok.funs
theorem qt.stack(I:qt X pins σ H s):s.heap.FunFrames X.base X.stack:=by
 rcases I.ok.stk with e | ⟨e,hf⟩
 ·rw[e];exact I.funs
 ·rw[e];obtain⟨m,hn,_⟩:=I.loc;refine .cons (by rw[I.ok.kind];decide) hf hn ?_ I.funs;exact Heap.get?_none_of_le (AU I.ok.bsz I.ok.above)
theorem qt.stkSub(I:qt X pins σ H s):∀b∈bE X.stack,b∈X.env.locals::X.fs:=fun b hb=>by
 rcases I.ok.stk with e | ⟨e,hf⟩
 ·rw[e] at hb;exact Ag _ hb
 ·rw[e] at hb;unfold bE at hb;rw[Ct,hf] at hb;exact hb
theorem qt.stkFree(I:qt X pins σ H s):∀b∈bE X.stack,H b=none:=fun b hb=>by
 rcases Ap.mp (I.stkSub b hb) with e | hb
 ·rw[e];exact I.free
 ·obtain⟨_,o,ho,_⟩:=I.ok.funs.mem hb;exact I.base.free b o ho (I.ok.frf b hb) fun z=>I.ok.exfs b z hb
theorem qt.step{g':Array GenState}{d':Drawn}(I:qt X pins σ H s)
 (hch:∀b∈ch,(b∈X.ex\/X.s₀.heap.objs.size≤b)/\b≠X.env.locals/\(∀x c,X.env.cells.lookup x=some c->c≠b)/\∀p∈X.pn++pins,p.1≠b)
 (keep:∀b o,b≠X.env.locals->b∉X.fs->b∉ch->s.heap.get? b=some o->H b=none->h'.get? b=some o)
 (slot:∀b o,b≠X.env.locals->b∈X.fs->b∉ch->s.heap.get? b=some o->H b=none->∃sl,h'.get? b=some { o with slots:=sl }) (free:∀b o,b∉ch->s.heap.get? b=some o->H b=none->H' b=none)
 (there:∀b o,b∉ch->s.heap.get? b=some o->∃o',h'.get? b=some o')
 (tups:∀b xs,H b=some (.tup xs)->H' b=some (.tup xs)) (frzs:∀b o u,H b=some (.frz o u)->H' b=some (.frz o u)) (tbls:∀b ps,H b=some (.tbl ps)->∃more,H' b=some (.tbl (ps++more)))
 (ns:∀m,s.heap.Ns X.env.locals m->h'.Ns X.env.locals m) (hok:dN X.prog X.w H' h') (hg:AllBare g') (ht:0<t':=by walk_at "t"):
 qt X pins σ H' { s with heap:=h',gens:=g',drawn:=d',toks:=t' }:=by
 have vt:∀b o,X.s₀.heap.get? b=some o->b≠X.env.locals:=fun b o e=>A2 (AJ (Heap.lt_size e) I.ok.above);have neC:∀b o,X.s₀.heap.get? b=some o->b∉X.ex->b∉ch:=fun b o e hx hb=>by
  rcases (hch b hb).1 with z | z
  ·exact hx z
  ·exact absurd (AJ (Heap.lt_size e) z) (C2 _)
 have cellK:∀x c,X.env.cells.lookup x=some c->∀v,s.heap.IsCell c v->h'.IsCell c v:=fun x c e v ⟨o,ho,hd⟩=>by
  have nch:c∉ch:=fun z=>(hch c z).2.2.1 x c e rfl;by_cases hc:c∈X.fs
  ·obtain⟨sl,q⟩:=slot c o (I.cne x c e) hc nch ho (I.freeC x c e);exact⟨_,q,hd⟩
  ·exact⟨o,keep c o (I.cne x c e) hc nch ho (I.freeC x c e),hd⟩
 refine⟨I.ok,I.os,hg,⟨fun b o e n hb hx=>?_,fun b o e n hb hx=>?_,fun b o e n hx=>?_,fun b o e hx=>?_,fun b xs e=>tups b xs (I.base.tups b xs e),fun b o xs e=>frzs b o xs (I.base.frzs b o xs e),fun b ps e=>?_⟩,?_,fun x c e=>?_,?_,fun x c e=>?_,fun p hp=>?_,hok,I.len,ht⟩
 ·exact keep b o (vt b o e) hb (neC b o e hx) (I.base.keep b o e n hb hx) (I.base.free b o e n hx)
 ·obtain⟨sl,e1⟩:=I.base.slot b o e n hb hx;obtain⟨sl',e2⟩:=slot b _ (vt b o e) hb (neC b o e hx) e1 (I.base.free b o e n hx);exact⟨sl',e2⟩
 ·obtain⟨o',e1⟩:=I.base.there b o e hx;exact free b o' (neC b o e hx) e1 (I.base.free b o e n hx)
 ·obtain⟨o',e1⟩:=I.base.there b o e hx;exact there b o' (neC b o e hx) e1
 ·obtain⟨m1,e1⟩:=I.base.tbls b ps e;obtain⟨m2,e2⟩:=tbls b _ e1;exact⟨m1++m2,by rw[e2,Array.append_assoc]⟩
 ·obtain⟨m,hn,hl⟩:=I.loc;refine⟨m,ns m hn,fun i x v e1 e2 e3=>?_⟩;obtain⟨u,r,l⟩:=hl i x v e1 e2 e3;refine⟨u,r,?_⟩;rcases l with l | ⟨k,c,e,z⟩
  ·exact .inl l
  ·exact .inr ⟨k,c,e,cellK x c e _ z⟩
 ·obtain⟨v,z⟩:=I.cell x c e;exact⟨v,cellK x c e v z⟩
 ·obtain⟨m,⟨o,_,_,ho,_⟩,_⟩:=I.loc;exact free _ o (fun z=>(hch _ z).2.1 rfl) ho I.free
 ·obtain⟨v,o,ho,hd⟩:=I.cell x c e;exact free c o (fun z=>(hch c z).2.2.1 x c e rfl) ho (I.freeC x c e)
 ·obtain⟨e,n,ne,nf,d⟩:=I.pin p hp;have nch:p.1∉ch:=fun z=>(hch p.1 z).2.2.2 p hp rfl;exact⟨keep p.1 p.2 ne nf nch e n,free p.1 p.2 nch e n,ne,nf,d⟩
theorem qt.un(I:qt X pins σ H s)(u:Un X.fs [] H H' s.heap h')(hok:dN X.prog X.w H' h')(ht:0<t':=by walk_at "t"):qt X pins σ H' { s with heap:=h',toks:=t' }:=by obtain⟨m,⟨o,es,ep,ho,r⟩,_⟩:=id I.loc;obtain⟨sl,hL⟩:=u.any ho I.free (by simp);exact I.step (g':=s.gens) (d':=s.drawn) (ch:=[]) (fun _ z=>nomatch z) (fun b o _ hb _ e n=>u.keep b o e n hb (by simp)) (fun b o _ hb _ e n=>u.slot b o e n hb (by simp)) (fun b o _ e n=>u.free b o e n (by simp)) (fun b o _ e=>u.there b o e (by simp)) u.tups u.frzs u.tbls (fun m' hm=>by obtain⟨o',es',ep',ho',r'⟩:=hm;rw[ho] at ho';cases ho';exact⟨_,es',ep',hL,r'⟩) hok I.bare
theorem qt.call{g':Array GenState}{d':Drawn}(I:qt X pins σ H s)(u:Un (bE X.stack) ch H H' s.heap h')(hok:dN X.prog X.w H' h')(hg:AllBare g')
 (hch:∀b∈ch,(b∈X.ex\/X.s₀.heap.objs.size≤b)/\b≠X.env.locals/\(∀x c,X.env.cells.lookup x=some c->c≠b)/\∀p∈X.pn++pins,p.1≠b) (ht:0<t':=by walk_at "t"):
 qt X pins σ H' { s with heap:=h',gens:=g',drawn:=d',toks:=t' }:=by
 obtain⟨m,⟨o,es,ep,ho,r⟩,_⟩:=id I.loc;obtain⟨sl,hL⟩:=u.any ho I.free fun z=>(hch _ z).2.1 rfl;exact I.step (ch:=ch) hch (fun b o hL hb hc e n=>u.keep b o e n (fun z=>(Ap.mp (I.stkSub b z)).elim hL hb) hc) (fun b o _ _ hc e n=>u.any e n hc) (fun b o hc e n=>u.free b o e n hc) (fun b o hc e=>u.there b o e hc) u.tups u.frzs u.tbls (fun m' hm=>by obtain⟨o',es',ep',ho',r'⟩:=hm;rw[ho] at ho';cases ho';exact⟨_,es',ep',hL,r'⟩) hok hg
theorem qt.turned(I:qt X pins σ H s)(k:∀b o,b≠it->s.heap.get? b=some o->h'.get? b=some o)(hn:H it=none)(hL:it≠X.env.locals)
 (h1:it∈X.ex\/X.s₀.heap.objs.size≤it) (h2:∀x c,X.env.cells.lookup x=some c->c≠it) (h3:∀p∈X.pn++pins,p.1≠it) (ht:0<t':=by walk_at "t"):qt X pins σ H { s with heap:=h',toks:=t' }:=by
 have nit:∀b u,H b=some u->b≠it:=fun b u e z=>by rw[z,hn] at e;cases e
 refine I.step (g':=s.gens) (d':=s.drawn) (ch:=[it]) (fun b hb=>?_) (fun b o _ _ hc e _=>k b o (fun z=>hc (by simp[z])) e) (fun b o _ _ hc e _=>⟨o.slots,k b o (fun z=>hc (by simp[z])) e⟩) (fun _ _ _ _ n=>n)
  (fun b o hc e=>⟨o,k b o (fun z=>hc (by simp[z])) e⟩) (fun _ _ e=>e) (fun _ _ _ e=>e) (fun b ps e=>⟨#[],by rw[e];simp⟩) (fun m hm=>?_) (fun b u e=>?_) I.bare
 ·have e:b=it:=by simpa using hb
  subst e;exact⟨h1,hL,h2,h3⟩
 ·obtain⟨o,es,ep,ho,r⟩:=hm;exact⟨o,es,ep,k _ o (AK hL) ho,r⟩
 ·refine(I.hok b u e).stay (fun c v hc q=>k c v ?_ q) (fun _ q=>q) fun _ _ q=>q;rcases hc with z | z
  ·rw[z];exact nit b u e
  ·exact nit c _ z
theorem qt.tok(I:qt X pins σ H s)(t:Nat)(ht:0<t:=by walk_at "t"):qt X pins σ H { s with toks:=t }:=I.un (h':=s.heap) (t':=t) Un.refl I.hok
theorem qt.kept(I:qt X pins σ H s)(k:∀b u,s.heap.get? b=some u->h'.get? b=some u)(ht:0<t':=by walk_at "t"):qt X pins σ H { s with heap:=h',toks:=t' }:=I.un (Un.kept k) (I.hok.kept k)
theorem qt.laid{a:Addr}{o:HO}(I:qt X pins σ H s)(k:∀b u,s.heap.get? b=some u->h'.get? b=some u)(hp:s.heap.objs.size≤a)(new:jz X.prog X.w (upd H a o) h' a o)(ht:0<t':=by walk_at "t"):
 qt X pins σ (upd H a o) { s with heap:=h',toks:=t' }:=I.un (Un.laid k hp (I.hok.fresh hp)) (I.hok.laid k hp new)
theorem qt.write{x e:Addr}{o:HO}(I:qt X pins σ H s)(mu:Mut (H x))(he:e=x\/H e=some (.own x))(k:∀b u,b≠e->s.heap.get? b=some u->h'.get? b=some u)(heo:∃u,h'.get? e=some u)
 (new:jz X.prog X.w (upd H x o) h' x o) (ht:0<t':=by walk_at "t"):qt X pins σ (upd H x o) { s with heap:=h',toks:=t' }:=I.un (Un.write mu he k heo) (I.hok.write mu he k heo new)
theorem qt.weak{σ':List (Option V)}(I:qt X pins σ H s)(hl:σ'.length=σ.length)(w:∀(i:Nat) v,σ'[i]?=some (some v)->σ[i]?=some (some v)):qt X pins σ' H s:=
 ⟨I.ok,I.os,I.bare,I.base,let ⟨m,hn,hl'⟩:=I.loc;⟨m,hn,fun i x v e1 e2 e3=>hl' i x v e1 (w i v e2) e3⟩,I.cell,I.free,I.freeC,I.pin,I.hok,hl.trans I.len,I.tk⟩
theorem qt.pins_of{pins':List (Addr×Obj)}(I:qt X pins σ H s)(h:∀p∈pins',s.heap.get? p.1=some p.2/\H p.1=none/\p.1≠X.env.locals/\p.1∉X.fs/\∀v,p.2.data≠.cell v):qt X pins' σ H s:=
 ⟨I.ok,I.os,I.bare,I.base,I.loc,I.cell,I.free,I.freeC,fun p hp=>(Aj.mp hp).elim (fun z=>I.pin p (An _ z)) (h p),I.hok,I.len,I.tk⟩
theorem l0{N:List Str}(hN:N.Nodup)(a:N[i]?=some x)(b:N[j]?=some x):i=j:=by obtain⟨h1,e1⟩:=AW.mp a;obtain⟨h2,e2⟩:=AW.mp b;exact(List.getElem_inj hN).mp (e1.trans e2.symm)
theorem m6{Q:Unit->Shared->Prop}(I:qt X pins σ H s)(hN:X.N.Nodup)(hi:X.N[i]?=some x)(hx:Loc X.env.scope x)(r:zq v u)
 (h:∀s',qt X pins (σ.set i (some v)) H s'->(∃a,Heap.SameBut a s.heap s'.heap/\(a=X.env.locals\/X.env.cells.lookup x=some a))->(X.env.kindOf x=some .local->∃m',s'.heap.Ns X.env.locals m'/\m' x=some u)->Q () s') (hf:X.fn x=true\/X.env.scope.names.lookup x=some .local:=by first | exact .inl rfl | exact .inr rfl | assumption):wpAny M A (storeName X.env x u) Q E s:=by
 obtain⟨m,hn,hl⟩:=id I.loc;have hcls:(X.env.scope.kind==.class||(X.env.scope.kind==.module&&X.env.locals != X.env.globals))=false:=by rw[I.ok.kind];rfl
 have hiσ:i<σ.length:=by rw[I.len];exact(AW.mp hi).1
 have cne:=I.cne;have tracked:∀{a:Addr} {h':Heap},(∃o,s.heap.get? a=some o/\H a=none)->Heap.SameBut a s.heap h'->dN X.prog X.w H h':=fun {a h'} ha hs b ob e=>by
  obtain⟨_,_,hfree⟩:=ha;refine(I.hok b ob e).stay (fun c w' hc q=>(hs.2 c ?_).trans q) (fun _ q=>q) fun _ _ q=>q;rintro rfl;rcases hc with rfl | hc
  ·rw[hfree] at e;cases e
  ·rw[hfree] at hc;cases hc
 rcases hx with hk | hk
 ·refine wpAny_storeName_local hk hn (fun h' hn' hs=>?_) hcls;obtain⟨oL,_,_,hoL,_⟩:=id hn;refine h _ ⟨I.ok,I.os,I.bare,⟨fun b o e n hb hx=>?_,fun b o e n hb hx=>?_,I.base.free,fun b o e hx=>?_,I.base.tups,I.base.frzs,I.base.tbls⟩,⟨_,hn',fun j y v' e1 e2 e3=>?_⟩,fun y c e=>?_,I.free,I.freeC,fun p hp=>?_,tracked ⟨oL,hoL,I.free⟩ hs,by simpa using I.len,by first | exact I.tk | exact Dk _⟩ ⟨_,hs,.inl rfl⟩ (fun _=>⟨_,hn',by simp⟩)
  ·exact(hs.2 b (A2 (AJ (Heap.lt_size e) I.ok.above))).trans (I.base.keep b o e n hb hx)
  ·obtain⟨sl,e1⟩:=I.base.slot b o e n hb hx;exact⟨sl,(hs.2 b (A2 (AJ (Heap.lt_size e) I.ok.above))).trans e1⟩
  ·obtain⟨o',e1⟩:=I.base.there b o e hx;exact⟨o',(hs.2 b (A2 (AJ (Heap.lt_size e) I.ok.above))).trans e1⟩
  ·by_cases hj:j=i
   ·subst hj;rw[hi] at e1;cases e1;rw[BM hiσ] at e2;cases e2;exact⟨u,r,.inl ⟨hk,by simp⟩⟩
   ·rw[A6 (AK hj)] at e2;obtain⟨u',r',q⟩:=hl j y v' e1 e2 e3;refine⟨u',r',?_⟩;rcases q with⟨k,e⟩ | ⟨k,c,e,z⟩
    ·refine .inl ⟨k,?_⟩;have:y≠x:=fun e=>hj (l0 hN e1 (e▸hi));simp[this,e]
    ·exact .inr ⟨k,c,e,z.sameBut hs (cne y c e)⟩
  ·obtain⟨w',z⟩:=I.cell y c e;exact⟨w',z.sameBut hs (cne y c e)⟩
  ·obtain⟨e,n,ne,nf,d⟩:=I.pin p hp;exact⟨(hs.2 p.1 ne).trans e,n,ne,nf,d⟩
 ·have hfn:X.fn x=true:=by
   rcases hf with z | z
   ·exact z
   ·rw[z] at hk;cases hk
  obtain⟨c,hc⟩:=I.ok.has x (.inl hk);obtain⟨w',z⟩:=I.cell x c hc;refine wpAny_storeName_cell I.ok.kind hk hc z (fun h' hc' hs=>?_);obtain⟨oc,hoc,hocd⟩:=id z;refine h { s with heap:=h' } ⟨I.ok,I.os,I.bare,⟨fun b o e n hb hx=>?_,fun b o e n hb hx=>?_,I.base.free,fun b o e hx=>?_,I.base.tups,I.base.frzs,I.base.tbls⟩,⟨m,hn.sameBut hs (AK (cne x c hc)),fun j y v' e1 e2 e3=>?_⟩,fun y c' e=>?_,I.free,I.freeC,fun p hp=>?_,tracked ⟨oc,hoc,I.freeC x c hc⟩ hs,by simpa using I.len,I.tk⟩ ⟨c,hs,.inr hc⟩ (fun z=>by have e:=(show X.env.kindOf x=some .cell from hk).symm.trans z;cases e)
  ·exact(hs.2 b (A2 (AJ (Heap.lt_size e) (I.ok.cab x c hfn hc)))).trans (I.base.keep b o e n hb hx)
  ·obtain⟨sl,e1⟩:=I.base.slot b o e n hb hx;exact⟨sl,(hs.2 b (A2 (AJ (Heap.lt_size e) (I.ok.cab x c hfn hc)))).trans e1⟩
  ·obtain⟨o',e1⟩:=I.base.there b o e hx;exact⟨o',(hs.2 b (A2 (AJ (Heap.lt_size e) (I.ok.cab x c hfn hc)))).trans e1⟩
  ·by_cases hj:j=i
   ·subst hj;rw[hi] at e1;cases e1;rw[BM hiσ] at e2;cases e2;exact⟨u,r,.inr ⟨.inl hk,c,hc,hc'⟩⟩
   ·rw[A6 (AK hj)] at e2;obtain⟨u',r',q⟩:=hl j y v' e1 e2 e3;refine⟨u',r',?_⟩;rcases q with q | ⟨k,c',e,z'⟩
    ·exact .inl q
    ·refine .inr ⟨k,c',e,z'.sameBut hs ?_⟩;rintro rfl;exact hj (l0 hN e1 (I.ok.inj _ _ _ e hc▸hi))
  ·by_cases hcc:c'=c
   ·subst hcc;exact⟨_,hc'⟩
   ·obtain⟨w2,z2⟩:=I.cell y c' e;exact⟨w2,z2.sameBut hs hcc⟩
  ·obtain⟨e,n,ne,nf,d⟩:=I.pin p hp;refine⟨(hs.2 p.1 ?_).trans e,n,ne,nf,d⟩;intro q;rw[q,hoc] at e;have q':oc=p.2:=Bc e;exact d w' (by rw[<-q'];exact hocd)
theorem aO{Q:Unit->Shared->Prop}(I:qt X pins σ H s)(hN:X.N.Nodup)(hi:X.N[i]?=some x)(hx:Loc X.env.scope x)(r:zq v u)
 (h:∀s',qt X pins (σ.set i (some v)) H s'->Q () s') (hf:X.fn x=true\/X.env.scope.names.lookup x=some .local:=by first | exact .inl rfl | exact .inr rfl | assumption):wpAny M A (storeName X.env x u) Q E s:=
 m6 I hN hi hx r (fun s' I' _ _=>h s' I') hf
theorem qt.call'(I:qt X pins σ H s)(ho:s'.os=s.os)(u:Un (bE X.stack) ch H H' s.heap s'.heap)(hok:dN X.prog X.w H' s'.heap)(hg:AllBare s'.gens)
 (hch:∀b∈ch,(b∈X.ex\/X.s₀.heap.objs.size≤b)/\b≠X.env.locals/\(∀x c,X.env.cells.lookup x=some c->c≠b)/\∀p∈X.pn++pins,p.1≠b) (ht:0<s'.toks:=by walk_at "t"):qt X pins σ H' s':=by
 obtain⟨h',g',d',t',o'⟩:=s';have e:o'=s.os:=ho;subst e;exact I.call (g':=g') (t':=t') (d':=d') u hok hg hch ht
end
abbrev XK:=Value->Option Addr->Hp->Prop
abbrev St:=List (Option V)
abbrev VK:=V->Hp->Prop
abbrev TE:=St->Hp->VK->Prop
abbrev TT:=St->Hp->(Bool->Hp->Prop)->Prop
abbrev TA:=St->Hp->(List V->Hp->Prop)->Prop
structure lU where
 nx:St->Hp->Prop
 rt:VK
 bk:St->Hp->Prop:=fun _ _=>False
 ct:St->Hp->Prop:=fun _ _=>False
abbrev TS:=lU->St->Hp->Prop
def EP(X:Cx)(pins:List (Addr×Obj))(σ:St)(Q:VK)(u:Value)(s':Shared):Prop:=∃v H',qt X pins σ H' s'/\zq v u/\Q v H'
def TP(X:Cx)(pins:List (Addr×Obj))(σ:St)(Q:Bool->Hp->Prop)(b:Bool)(s':Shared):Prop:=∃H',qt X pins σ H' s'/\Q b H'
def AP(X:Cx)(pins:List (Addr×Obj))(σ:St)(Q:List V->Hp->Prop)(us:List Value)(s':Shared):Prop:=∃vs H',qt X pins σ H' s'/\zn vs us/\Q vs H'
def SP(X:Cx)(pins:List (Addr×Obj))(D:lU)(f:Flow)(s':Shared):Prop:=
 match f with
 |.next=>∃σ' H',qt X pins σ' H' s'/\D.nx σ' H'
 |.brk=>∃σ' H',qt X pins σ' H' s'/\D.bk σ' H'
 |.cont=>∃σ' H',qt X pins σ' H' s'/\D.ct σ' H'
 |.ret u=>∃v σ' H',qt X pins σ' H' s'/\zq v u/\D.rt v H'
def PE(X:Cx)(e:Expr)(t:TE):Prop:=
 ∀(pins:List (Addr×Obj)) (s:Shared) (σ:St) (H:Hp) (Q:VK),qt X pins σ H s->t σ H Q->wpAny (model X.prog X.w) X.A (eval e X.env) (EP X pins σ Q) X.xe s
def PT(X:Cx)(e:Expr)(t:TT):Prop:=
 ∀(pins:List (Addr×Obj)) (s:Shared) (σ:St) (H:Hp) (Q:Bool->Hp->Prop),qt X pins σ H s->t σ H Q->wpAny (model X.prog X.w) X.A (isTrue e X.env (eval e X.env)) (TP X pins σ Q) X.xe s
def PW(X:Cx)(e:Expr)(t:TT):Prop:=
 ∀(whole:Sem Value) (pins:List (Addr×Obj)) (s:Shared) (σ:St) (H:Hp) (Q:Bool->Hp->Prop),qt X pins σ H s->t σ H Q->wpAny (model X.prog X.w) X.A (isTrue e X.env whole) (TP X pins σ Q) X.xe s
theorem PW.pt{X:Cx}{t:TT}(h:PW X e t):PT X e t:=h _
def PA(X:Cx)(es:List Expr)(t:TA):Prop:=
 ∀(pos:Pos) (pins:List (Addr×Obj)) (s:Shared) (σ:St) (H:Hp) (Q:List V->Hp->Prop),qt X pins σ H s->t σ H Q->wpAny (model X.prog X.w) X.A (spliced (backTo pos (starEach es X.env))) (AP X pins σ Q) X.xe s
def PS(X:Cx)(st:Stmt)(t:TS):Prop:=
 ∀(pins:List (Addr×Obj)) (s:Shared) (σ:St) (H:Hp) (D:lU),qt X pins σ H s->t D σ H->wpAny (model X.prog X.w) X.A (exec st X.env) (SP X pins D) X.xe s
def iM(X:Cx)(st:List Stmt)(t:TS):Prop:=
 ∀(pins:List (Addr×Obj)) (s:Shared) (σ:St) (H:Hp) (D:lU),qt X pins σ H s->t D σ H->wpAny (model X.prog X.w) X.A (execs st X.env) (SP X pins D) X.xe s
theorem v4{t:Sem α}{Q Q':α->Shared->Prop}(h:wpAny M A t Q E s)(hQ:∀a s,Q a s->Q' a s):wpAny M A t Q' E s:=AV h hQ fun _ _ x=>x
end L2
variable {r:L2.V->Option Int->Option Int->L2.Hp->L2.VK->Prop}{X:L2.Cx}{σ:L2.St}
namespace L2
open PySem PySem.Spec PyProof.Rows
section
def aix(i:Nat):TE:=fun σ H Q=>∃v,σ[i]?=some (some v)/\Q v H
def tC(v:V):TE:=fun _ H Q=>Q v H
abbrev EW(x:Str):Prop:=(x==("__debug__":Str))=false
abbrev EX(x:Str):Prop:=(x==("__classdict__":Str))=false
theorem aii(hN:X.N[i]?=some x)(hv:Vis X.env.scope x)(hd:EW x:=by decide)(hcd:EX x:=by decide):PE X (.Name x pos) (aix i):=by
 intro pins s σ H Q I h;obtain⟨v,e,h⟩:=h;obtain⟨m,hn,hl⟩:=I.loc;obtain⟨u,r,l⟩:=hl i x v hN e hv;have vk:EP X pins σ Q u s:=⟨v,H,I,r,h⟩;rcases l with⟨hk,hm⟩ | ⟨hk,c,hc,hcell⟩
 ·exact wpAny_Name (wpAny_loadName_local I.ok.kind hk hn hm vk) hd
 ·rcases hk with hk | hk
  ·exact wpAny_Name (wpAny_loadName_cell I.ok.kind hk hc hcell vk) hd
  ·exact wpAny_Name (wpAny_loadName_free I.ok.kind hk hc hcell vk hcd) hd
theorem ah9{i j pos}:PE X (.Constant (.int i) j pos) (tC (.int i)):=fun _ _ _ H _ I h=>wpAny_Constant_int ⟨.int i,H,I.tok _,⟨_,rfl⟩,h⟩
theorem aly{b j pos}:PE X (.Constant (.bool b) j pos) (tC (.bl b)):=fun _ _ _ H _ I h=>Constant_bool ⟨.bl b,H,I,rfl,h⟩
theorem aip{j pos}:PE X (.Constant .none j pos) (tC .non):=fun _ _ _ H _ I h=>Constant_none ⟨.non,H,I,rfl,h⟩
theorem cj{x j pos}:PE X (.Constant (.str x) j pos) (tC (.str x)):=fun _ _ _ H _ I h=>Calls.Constant_str ⟨.str x,H,I.tok _,⟨_,rfl⟩,h⟩
def Gl(X:Cx)(x:Str):Prop:=X.env.kindOf x=some .globalImplicit
theorem fk(I:qt X pins σ H s)(hg:Gl X x)(hm:X.mg x=some u)(h:Q u s)
 (hd:EW x:=by decide):wpAny (model X.prog X.w) X.A (eval (.Name x pos) X.env) Q E s:=
 Calls.Name_function_global I.ok.kind hg (Calls.loadGlobal_global (by rw[I.ok.glob];exact I.mod.glob.keeps I.bk) hm h) hd
theorem fN(I:qt X pins σ H s)(hg:Gl X x)(hm:X.mg x=none)(hv:bootBuiltins x=some u)(h:Q u s)
 (hn:x ≠ "__name__" := by decide) (hd:EW x:=by decide):wpAny (model X.prog X.w) X.A (eval (.Name x pos) X.env) Q E s:=by
 obtain⟨mb,h1,h2⟩:=I.mod.blt;exact Calls.Name_function_global I.ok.kind hg (Calls.loadGlobal_builtin (by rw[I.ok.glob];exact I.mod.glob.keeps I.bk) hm (by rw[I.ok.blt];exact h1.keeps I.bk) ((h2 x hn).trans hv) h) hd
theorem aes(hg:Gl X x)(hm:X.mg x=some u)(r:zq v u)(hd:EW x:=by decide):PE X (.Name x pos) (tC v):=
 fun _ _ _ H _ I h=>fk I hg hm ⟨v,H,I,r,h⟩ hd
theorem adv(hg:Gl X x)(hm:X.mg x=none)(hv:bootBuiltins x=some u)(r:zq v u)(hn:x ≠ "__name__" := by decide)(hd:EW x:=by decide):PE X (.Name x pos) (tC v):=
 fun _ _ _ H _ I h=>fN I hg hm hv ⟨v,H,I,r,h⟩ hn hd
variable {a b:Expr}{ta tb:TE} 
def PC(X:Cx)(op:CmpOp)(a b:Expr)(t:TE):Prop:=
 ∀(pins:List (Addr×Obj)) (s:Shared) (σ:St) (H:Hp) (Q:VK),qt X pins σ H s->t σ H Q->
  wpAny (model X.prog X.w) X.A (eval a X.env) (fun v s₁=>wpAny (model X.prog X.w) X.A (eval b X.env) (fun u s₂=>wpAny (model X.prog X.w) X.A (compareOp op v u) (EP X pins σ Q) X.xe s₂) X.xe s₁) X.xe s
theorem sm(b:Expr){op:CmpOp}(h:op≠.In)(h2:op≠.NotIn):behindInMarks op b=false:=by
 have e1:(op==CmpOp.In)=false:=by cases op<;>first | rfl | exact absurd rfl h
 have e2:(op==CmpOp.NotIn)=false:=by cases op<;>first | rfl | exact absurd rfl h2
 cases b<;>simp[behindInMarks,e1,e2]
def akf(ta:TE):TE:=fun σ H Q=>ta σ H fun x H1=>Q (.bl (decide (x=.non))) H1
def afq(ta:TE):TE:=fun σ H Q=>ta σ H fun x H1=>Q (.bl (!decide (x=.non))) H1
theorem zq.none_iff{x:V}{v:Value}(r:zq x v):(v==Value.none)=decide (x=.non):=by
 cases x with
 |non=>cases r;rfl
 |bl _=>cases r;rfl
 |int _=>obtain⟨t,rfl⟩:=r;rfl
 |str _=>obtain⟨t,rfl⟩:=r;rfl
 |byt _=>obtain⟨t,rfl⟩:=r;rfl
 |flt _=>obtain⟨t,rfl⟩:=r;rfl
 |ref _=>cases r;rfl
 |ty _=>cases r;rfl
theorem abb{j pos'}(ha:PE X a ta):PC X .Is a (.Constant .none j pos') (akf ta):=by intro pins s σ H Q I h;refine v4 (ha pins s σ H _ I h) fun v s1 ⟨x,H1,I1,r1,q1⟩=>?_;exact Constant_none (is_none_gen ⟨.bl _,H1,I1,by rw[r1.none_iff];rfl,q1⟩)
theorem adx{j pos'}(ha:PE X a ta):PC X .IsNot a (.Constant .none j pos') (afq ta):=by intro pins s σ H Q I h;refine v4 (ha pins s σ H _ I h) fun v s1 ⟨x,H1,I1,r1,q1⟩=>?_;exact Constant_none (isnot_none_gen ⟨.bl _,H1,I1,by rw[r1.none_iff];rfl,q1⟩)
def tB(t:TE):TT:=fun σ H Q=>t σ H fun x H1=>∃c,x=.bl c/\Q c H1
theorem ahd{op:CmpOp}{t:TE}(h:PC X op a b t)(h1:behindInMarks op b=false:=by first | exact sm _ (by decide) (by decide) | rfl):PE X (.Compare a [op] [b] pos) t:=fun pins s σ H Q I hw=>wpAny_Compare1 (h pins s σ H Q I hw) h1
theorem zA{op:CmpOp}{t:TE}(h:PC X op a b t)(h1:behindInMarks op b=false:=by first | exact sm _ (by decide) (by decide) | rfl):PT X (.Compare a [op] [b] pos) (tB t):=by intro pins s σ H Q I hw;refine wpAny_isTrue_Compare1 (v4 (h pins s σ H _ I hw) fun v s1 h1=>v4 h1 fun u s2 h2=>v4 h2 fun c s3 ⟨x,H1,I1,r1,q1⟩=>?_) h1;obtain⟨d,rfl,q⟩:=q1;cases r1;exact wpAny_truthy_bool ⟨H1,I1,q⟩
theorem ago{t:TE}(h:PE X e t)(he:∀whole,isTrue e X.env whole=(do let v <-whole;standAt e.pos;holding [v] (truthy v)):=by intro _;rfl):PT X e (tB t):=by intro pins s σ H Q I hw;refine isTrue_plain (v4 (h pins s σ H _ I hw) fun v s1 ⟨x,H1,I1,r1,q1⟩=>?_) (he _);obtain⟨d,rfl,q⟩:=q1;cases r1;exact wpAny_truthy_bool ⟨H1,I1,q⟩
variable {tA tB':TT}{rest:List Expr}
def ap6(t u:TT):TT:=fun σ H Q=>t σ H fun c H1=>if c=true then u σ H1 Q else Q false H1
def tOr(t u:TT):TT:=fun σ H Q=>t σ H fun c H1=>if c=true then Q true H1 else u σ H1 Q
def aok(t:TT):TT:=fun σ H Q=>t σ H fun c H1=>Q (!c) H1
theorem aco(ha:PT X a tA):PW X (.BoolOp .And [a] pos) tA:=by intro wh pins s σ H Q I h;refine isTrue_and (v4 (ha pins s σ H Q I h) fun c s1 e=>?_);cases c with|true=>exact isTrue_and_nil e|false=>exact e
theorem ain(ha:PT X a tA):PW X (.BoolOp .Or [a] pos) tA:=by intro wh pins s σ H Q I h;refine isTrue_or (v4 (ha pins s σ H Q I h) fun c s1 e=>?_);cases c with|false=>exact isTrue_or_nil e|true=>exact e
theorem aio(ha:PT X a tA)(hb:PW X (.BoolOp .And (b::rest) pos) tB'):PW X (.BoolOp .And (a::b::rest) pos) (ap6 tA tB'):=by intro wh pins s σ H Q I h;refine isTrue_and (v4 (ha pins s σ H _ I h) fun c s1 ⟨H1,I1,q1⟩=>?_);cases c with|true=>exact hb wh pins s1 σ H1 Q I1 q1|false=>exact⟨H1,I1,q1⟩
theorem alh(ha:PT X a tA)(hb:PW X (.BoolOp .Or (b::rest) pos) tB'):PW X (.BoolOp .Or (a::b::rest) pos) (tOr tA tB'):=by intro wh pins s σ H Q I h;refine isTrue_or (v4 (ha pins s σ H _ I h) fun c s1 ⟨H1,I1,q1⟩=>?_);cases c with|true=>exact⟨H1,I1,q1⟩|false=>exact hb wh pins s1 σ H1 Q I1 q1
theorem ajd(ha:PT X a tA):PT X (.UnaryOp .Not a pos) (aok tA):=by intro pins s σ H Q I h;exact isTrue_not (ha pins s σ H (fun c H1=>Q (!c) H1) I h)
def ako(ta tb:TE):TE:=fun σ H Q=>ta σ H fun x H1=>∃c,x=.bl c/\if c=true then tb σ H1 Q else Q (.bl false) H1
def akp(ta:TE):TE:=fun σ H Q=>ta σ H fun x H1=>∃c,x=.bl c/\Q (.bl (!c)) H1
theorem ahq{op}{t:TE}(h:PE X a t):PE X (.BoolOp op [a] pos) t:=fun pins s σ H Q I hw=>BoolOp_one (h pins s σ H Q I hw)
theorem ahl(ha:PE X a ta)(hb:PE X (.BoolOp .And (b::rest) pos) tb):PE X (.BoolOp .And (a::b::rest) pos) (ako ta tb):=by
 intro pins s σ H Q I h;refine BoolOp_and (v4 (ha pins s σ H _ I h) fun v s1 ⟨x,H1,I1,r1,q1⟩=>?_);obtain⟨c,rfl,q1⟩:=q1;cases r1;refine wpAny_truthy_bool ?_;cases c with
 |true=>exact hb pins s1 σ H1 Q I1 q1
 |false=>exact⟨.bl false,H1,I1,rfl,q1⟩
theorem ahb(ha:PE X a ta):PE X (.UnaryOp .Not a pos) (akp ta):=by intro pins s σ H Q I h;refine UnaryOp_ (v4 (ha pins s σ H _ I h) fun v s1 ⟨x,H1,I1,r1,q1⟩=>?_);obtain⟨c,rfl,q1⟩:=q1;cases r1;exact not_of (wpAny_truthy_bool ⟨.bl (!c),H1,I1,rfl,q1⟩)
def tIf(t:TT)(ta tb:TE):TE:=fun σ H Q=>t σ H fun c H1=>if c=true then ta σ H1 Q else tb σ H1 Q
theorem yy(hc:PT X c tA)(ha:PE X a ta)(hb:PE X b tb):PE X (.IfExp c a b pos) (tIf tA ta tb):=by intro pins s σ H Q I h;refine wpAny_IfExp (v4 (hc pins s σ H _ I h) fun d s1 ⟨H1,I1,q1⟩=>?_);cases d with|true=>exact ha pins s1 σ H1 Q I1 q1|false=>exact hb pins s1 σ H1 Q I1 q1
end
def aB(K:Af)(H:Hp)(a:Addr)(xs:List V):Prop:=
 Rd H a (.lst xs)\/
  ∃(o:Obj) (its:Array Value) (n:Nat),K.lookup a=some o/\o.cls=.type "list" /\ o.dict=none/\o.data=.seq its n/\its.size≤sizeLine/\zn xs its.toList
def dC(K:Af)(H:Hp)(a:Addr)(xs:List V):Prop:=
 Rd H a (.tup xs)\/
  ∃(o:Obj) (its:Array Value) (n:Nat),K.lookup a=some o/\o.cls=.type "tuple" /\ o.data=.seq its n/\its.size≤sizeLine/\zn xs its.toList
def api:Value->Option V
 |.none=>some .non
 |.bool b=>some (.bl b)
 |.int i _=>some (.int i)
 |.str x _=>some (.str x)
 |.bytes b _=>some (.byt b)
 |.float b _=>some (.flt b)
 |.ref a=>some (.ref a)
 |.type n=>some (.ty n)
 |_=>none
theorem zq.abs{x:V}(r:zq x u):api u=some x:=by
 cases x with
 |non=>cases r;rfl
 |bl _=>cases r;rfl
 |int _=>obtain⟨t,rfl⟩:=r;rfl
 |str _=>obtain⟨t,rfl⟩:=r;rfl
 |byt _=>obtain⟨t,rfl⟩:=r;rfl
 |flt _=>obtain⟨t,rfl⟩:=r;rfl
 |ref _=>cases r;rfl
 |ty _=>cases r;rfl
theorem zq.inj{x y:V}(r:zq x u)(q:zq y u):x=y:=Bc (r.abs.symm.trans q.abs)
theorem zn.inj:∀{xs ys:List V} {us:List Value},zn xs us->zn ys us->xs=ys
 |_,_,_,.nil,.nil=>rfl
 |_,_,_,.cons r t,.cons r' t'=>by rw[r.inj r',zn.inj t t']
section
variable {a:Addr}{ys:List V}
theorem aB.of{K:Af}(h:H a=some (.lst xs)):aB K H a xs:=.inl (.inl h)
abbrev ES:=@aB.of
theorem dC.of{K:Af}(h:H a=some (.tup xs)):dC K H a xs:=.inl (.inl h)
theorem qt.list(I:qt X pins σ H s)(h:aB X.K H a xs):∃its:List Value,zn xs its/\PlainL s.heap a its.toArray/\xs.length≤sizeLine:=by
 rcases h with h | ⟨o,its,n,hk,hc,hd,hs,hz,r⟩
 ·obtain⟨z,its,n,r,e⟩:=h.ok I.hok;exact⟨its,r,⟨_,n,e,rfl,rfl,rfl⟩,z⟩
 ·refine⟨its.toList,r,⟨o,n,I.kIn a o hk,hc,hd,by simpa using hs⟩,?_⟩;have e:=r.length;simp only[AM] at e;omega
theorem qt.tuple(I:qt X pins σ H s)(h:dC X.K H a xs):∃its:List Value,zn xs its/\IsTup s.heap a its.toArray/\xs.length≤sizeLine:=by
 rcases h with h | ⟨o,its,n,hk,hc,hs,hz,r⟩
 ·obtain⟨z,its,r,p⟩:=h.ok I.hok;exact⟨its,r,p,z⟩
 ·refine⟨its.toList,r,⟨o,I.kIn a o hk,hc,n,by simpa using hs⟩,?_⟩;have e:=r.length;simp only[AM] at e;omega
theorem qt.list_inj(I:qt X pins σ H s)(h:aB X.K H a xs)(h':aB X.K H a ys):xs=ys:=by
 obtain⟨its,r,⟨o,n,e,_,_,d⟩,_⟩:=I.list h;obtain⟨its',r',⟨o',n',e',_,_,d'⟩,_⟩:=I.list h';rw[e] at e';cases e';rw[d] at d';injection d' with d1 _
 have:its=its':=by simpa using BC Array.toList d1
 subst this;exact r.inj r'
theorem qt.tuple_inj(I:qt X pins σ H s)(h:dC X.K H a xs)(h':dC X.K H a ys):xs=ys:=by
 obtain⟨its,r,⟨o,e,_,n,d⟩,_⟩:=I.tuple h;obtain⟨its',r',⟨o',e',_,n',d'⟩,_⟩:=I.tuple h';rw[e] at e';cases e';rw[d] at d';injection d' with d1 _
 have:its=its':=by simpa using BC Array.toList d1
 subst this;exact r.inj r'
end
abbrev Cx.wish(X:Cx)(E:Value->Shared->Prop):Cx:={ X with xe:=E }
abbrev Cx.nox(X:Cx):Cx:=X.wish fun _ _=>False
theorem Cx.Ok.wish(ok:X.Ok)(E:Value->Shared->Prop):(X.wish E).Ok:=
 ⟨ok.mod,ok.kind,ok.glob,ok.blt,ok.above,ok.inj,ok.has,ok.cab,ok.hd,ok.frames,ok.stk,ok.exf,ok.bs,ok.bsz,ok.noex,ok.exfs,ok.funs,ok.frf⟩
theorem Cx.Ok.unwish(ok:(X.wish E).Ok):X.Ok:=
 ⟨ok.mod,ok.kind,ok.glob,ok.blt,ok.above,ok.inj,ok.has,ok.cab,ok.hd,ok.frames,ok.stk,ok.exf,ok.bs,ok.bsz,ok.noex,ok.exfs,ok.funs,ok.frf⟩
section
theorem qt.wish(I:qt X pins σ H s)(E:Value->Shared->Prop):qt (X.wish E) pins σ H s:=⟨I.ok.wish E,I.os,I.bare,I.base,I.loc,I.cell,I.free,I.freeC,I.pin,I.hok,I.len,I.tk⟩
theorem qt.unwish(I:qt (X.wish E) pins σ H s):qt X pins σ H s:=⟨I.ok.unwish,I.os,I.bare,I.base,I.loc,I.cell,I.free,I.freeC,I.pin,I.hok,I.len,I.tk⟩
theorem SP.unwish{D:lU}{f:Flow}(h:SP (X.wish E) pins D f s'):SP X pins D f s':=by
 cases f with
 |next=>obtain⟨σ',H',I,q⟩:=h;exact⟨σ',H',I.unwish,q⟩
 |brk=>obtain⟨σ',H',I,q⟩:=h;exact⟨σ',H',I.unwish,q⟩
 |cont=>obtain⟨σ',H',I,q⟩:=h;exact⟨σ',H',I.unwish,q⟩
 |ret u=>obtain⟨v,σ',H',I,r,q⟩:=h;exact⟨v,σ',H',I.unwish,r,q⟩
theorem iM.nox{st:List Stmt}{t:TS}(h:iM X.nox st t):iM X st t:=fun pins s σ H D I hw=>
 AV (h pins s σ H D (I.wish _) hw) (fun _ _ q=>q.unwish) fun _ _ z=>False.elim z
end
section
variable {rest:List Stmt}{t u:TS}{te:TE} 
def aku:TS:=fun D σ H=>D.nx σ H
def anf(t u:TS):TS:=fun D σ H=>t { D with nx:=u D } σ H
theorem aer:iM X [] aku:=fun _ _ σ H _ I h=>wpAny_execs_nil ⟨σ,H,I,h⟩
theorem sR(h1:PS X st t)(h2:iM X rest u):iM X (st::rest) (anf t u):=by
 intro pins s σ H D I h;refine wpAny_execs_cons (v4 (h1 pins s σ H { D with nx:=u D } I h) fun f s1 q=>?_);cases f with
 |next=>
  obtain⟨σ',H',I',q⟩:=q;exact h2 pins s1 σ' H' D I' q
 |ret v=>exact q
 |brk=>exact q
 |cont=>exact q
theorem wR(h1:PS X st t):iM X [st] t:=by intro pins s σ H D I h;refine wpAny_execs_cons (v4 (h1 pins s σ H D I h) fun f s1 q=>?_);cases f with|next=>exact wpAny_execs_nil q|ret v=>exact q|brk=>exact q|cont=>exact q
def akg:TS:=fun D σ H=>D.ct σ H
theorem qC:PS X (.Continue pos) akg:=fun _ _ σ H _ I h=>wpAny_Continue ⟨σ,H,I,h⟩
theorem qt.quiet(I:qt X pins σ H s):interactive X.env=false:=by simp[interactive,I.ok.kind]
def akm(te:TE):TS:=fun D σ H=>te σ H fun _ H1=>D.nx σ H1
theorem vQ(he:PE X e te)(hs:swapsWith e none pos.line X.env=pure false:=by rfl):PS X (.Expr e pos) (akm te):=by intro pins s σ H D I h;exact wpAny_Expr_any (v4 (he pins s σ H _ I h) fun v s1 ⟨x,H1,I1,r1,q1⟩=>⟨σ,H1,I1,q1⟩) I.quiet hs
def apg(te:TE):TS:=fun D σ H=>te σ H D.rt
theorem ajo(he:PE X e te):PS X (.Return (some e) pos) (apg te):=by intro pins s σ H D I h;exact wpAny_Return_some (v4 (he pins s σ H _ I h) fun v s1 ⟨x,H1,I1,r1,q1⟩=>⟨x,σ,H1,I1,r1,q1⟩)
def akx:TS:=fun D _ H=>D.rt .non H
theorem af2:PS X (.Return none pos) akx:=fun _ _ σ H _ I h=>wpAny_Return_none ⟨.non,σ,H,I,rfl,h⟩
def amn(c:TT)(t u:TS):TS:=fun D σ H=>c σ H fun b H1=>if b=true then t D σ H1 else u D σ H1
theorem alg{a b:List Stmt}{tc:TT}(hc:PT X c tc)(ha:iM X a t)(hb:iM X b u):PS X (.If c a b pos) (amn tc t u):=by intro pins s σ H D I h;refine wpAny_If (v4 (hc pins s σ H _ I h) fun d s1 ⟨H1,I1,q1⟩=>?_);cases d with|true=>exact ha pins s1 σ H1 D I1 q1|false=>exact hb pins s1 σ H1 D I1 q1
end
abbrev TG:=V->St->Hp->(St->Hp->Prop)->Prop
abbrev TGs:=List V->St->Hp->(St->Hp->Prop)->Prop
def PG(X:Cx)(target:Expr)(t:TG):Prop:=
 ∀(pins:List (Addr×Obj)) (s:Shared) (σ:St) (H:Hp) (v:V) (u:Value) (Q:St->Hp->Prop),qt X pins σ H s->zq v u->t v σ H Q->
  wpAny (model X.prog X.w) X.A (assign target X.env u) (fun _ s'=>∃σ' H',qt X pins σ' H' s'/\Q σ' H') X.xe s
def zK(X:Cx)(ts:List Expr)(t:TGs):Prop:=
 ∀(pins:List (Addr×Obj)) (s:Shared) (σ:St) (H:Hp) (vs:List V) (us:List Value) (Q:St->Hp->Prop),qt X pins σ H s->zn vs us->t vs σ H Q->
  wpAny (model X.prog X.w) X.A (assignInOrder ((assignEach ts X.env).map (·.2)) us) (fun _ s'=>∃σ' H',qt X pins σ' H' s'/\Q σ' H') X.xe s
abbrev aia:=V->V->V->Hp->(Hp->Prop)->Prop
def akl(X:Cx)(t:aia):Prop:=
 ∀(pins:List (Addr×Obj)) (s:Shared) (σ:St) (H:Hp) (o i v:V) (ov iv u:Value) (Q:Hp->Prop),qt X pins σ H s->zq o ov->zq i iv->zq v u->t o i v H Q->
  wpAny (model X.prog X.w) X.A (setItem ov iv u) (fun _ s'=>∃H',qt X pins σ H' s'/\Q H') X.xe s
section
def dg(i:Nat):TG:=fun v σ H Q=>Q (σ.set i (some v)) H
theorem jF(hN:X.N.Nodup)(hi:X.N[i]?=some x)(hx:Loc X.env.scope x)(hf:X.fn x=true\/X.env.scope.names.lookup x=some .local:=by first | exact .inl rfl | exact .inr rfl | assumption):PG X (.Name x pos) (dg i):=by intro pins s σ H v u Q I r h;exact wpAny_assign_Name (aO I hN hi hx r (fun s' I'=>⟨_,H,I',h⟩) hf)
def ai7:TGs:=fun vs σ H Q=>vs=[]/\Q σ H
def sP(t:TG)(u:TGs):TGs:=fun vs σ H Q=>∃v r,vs=v::r/\t v σ H fun σ' H'=>u r σ' H' Q
theorem uv:zK X [] ai7:=by intro pins s σ H vs us Q I r h;obtain⟨e,h⟩:=h;subst e;cases r;exact assignInOrder_nil ⟨σ,H,I,h⟩
theorem lC{t:TG}{u:TGs}(h1:PG X e t)(h2:zK X es u)
 (hs:(assignEach (e::es) X.env).map (·.2)=assign e X.env::(assignEach es X.env).map (·.2):=by rfl):zK X (e::es) (sP t u):=by
 intro pins s σ H vs us Q I r h;obtain⟨v,vr,e1,h⟩:=h;subst e1;cases r with
 |cons r rr=>
  rw[hs];refine assignInOrder_cons (v4 (h1 pins s σ H _ _ _ I r h) fun _ s1 ⟨σ1,H1,I1,q1⟩=>?_);exact h2 pins s1 σ1 H1 _ _ Q I1 rr q1
def aiy(K:Af)(n:Nat)(t:TGs):TG:=fun v σ H Q=>∃a xs,v=.ref a/\dC K H a xs/\xs.length=n/\t xs σ H Q
theorem zU{k:Nat}{t:TGs}(hc:X.calm=true)(h:zK X es t)
 (hn:(assignEach es X.env).length=n:=by rfl) (hst:(assignEach es X.env).findIdx? (·.1)=none:=by rfl):PG X (.Tuple es k pos) (aiy X.K n t):=by
 intro pins s σ H v u Q I r hw;obtain⟨a,xs,e1,hq,hl,hw⟩:=hw;subst e1;cases r;obtain⟨its,rv,ht,hz⟩:=I.tuple hq;refine assign_Tuple_tuple (I.ok.hd hc) ht (by simp[hn,<-hl,rv.length]) hst fun h' hx=>?_;have I1:qt X pins σ H { s with heap:=h' }:=I.kept (t':=s.toks) fun b o e=>hx b o (A2 (Heap.lt_size e)) e;exact h pins _ σ H xs _ Q I1 (by simpa using rv) hw
def ans(to ti:TE)(t:aia):TG:=fun v σ H Q=>to σ H fun o H1=>ti σ H1 fun i H2=>t o i v H2 fun H3=>Q σ H3
theorem aif{i:Expr}{to ti:TE}{t:aia}(ho:PE X o to)(hi:PE X i ti)(hs:akl X t)
 (ha:∀v,assign (.Subscript o i pos) X.env v=(do
  let ov <-holding [v] (eval o X.env)
  let iv <-holding [v,ov] (eval i X.env)
  standAt pos
  holding [v,ov,iv] (setItem ov iv v)
  release [v,ov,iv] []):=by intro _;rfl):PG X (.Subscript o i pos) (ans to ti t):=by
 intro pins s σ H v u Q I r h;rw[ha];refine Aa (Ba (v4 (ho pins s σ H _ I h) fun ov s1 ⟨x,H1,I1,r1,q1⟩=>?_));refine Aa (Ba (v4 (hi pins s1 σ H1 _ I1 q1) fun iv s2 ⟨y,H2,I2,r2,q2⟩=>?_));refine Aa (wpAny_standAt (Aa (Ba (v4 (hs pins s2 σ H2 x y v ov iv u _ I2 r1 r2 r q2) fun _ s3 ⟨H3,I3,q3⟩=>?_))));exact wpAny_release ⟨σ,H3,I3,q3⟩
def aje(te:TE)(g:TG):TS:=fun D σ H=>te σ H fun x H1=>g x σ H1 D.nx
theorem ab1{te:TE}{g:TG}(he:PE X e te)(hg:PG X tg g)(hs:swapsWithSole [tg] e pos.line X.env=pure false:=by rfl)(hw:swappedStores [tg] e X.env=pure none:=by rfl)
 (h1:(assignEach [tg] X.env).map (·.2)=[assign tg X.env]:=by rfl):PS X (.Assign [tg] e pos) (aje te g):=by
 intro pins s σ H D I h;refine wpAny_Assign_stores (v4 (he pins s σ H _ I h) fun v s1 ⟨x,H1,I1,r1,q1⟩=>?_) hs hw;rw[h1];exact v4 (hg pins s1 σ H1 x v _ I1 r1 q1) fun _ s2 q=>q
theorem agp{te:TE}(hN:X.N.Nodup)(hi:X.N[i]?=some x)(hx:Loc X.env.scope x)(he:PE X e te)(hs:swapsWith e (some (.Name x pos')) pos.line X.env=pure false:=by rfl)(hf:X.fn x=true\/X.env.scope.names.lookup x=some .local:=by first | exact .inl rfl | exact .inr rfl | assumption):
 PS X (.Assign [.Name x pos'] e pos) (aje te (dg i)):=by
 intro pins s σ H D I h;refine wpAny_Assign_Name (v4 (he pins s σ H _ I h) fun v s1 ⟨y,H1,I1,r1,q1⟩=>?_) hs;exact aO I1 hN hi hx r1 (fun s2 I2=>⟨_,H1,I2,q1⟩) hf
def apl(i j:Nat)(ta:TA):TS:=fun D σ H=>ta σ H fun vs H1=>∃v w,vs=[v,w]/\D.nx ((σ.set i (some v)).set j (some w)) H1
theorem ajv{y:Str}{a b:Expr}{ta:TA}{px pt:Pos}{kt k2 pt2}(hc:X.calm=true)(hN:X.N.Nodup)(hi:X.N[i]?=some x)(hj:X.N[j]?=some y)(hij:i≠j)
 (hx:X.env.scope.names.lookup x=some .local) (hy:X.env.scope.names.lookup y=some .local) (ha:PA X [a,b] ta)
 (hw:swappedStores [.Tuple [.Name x px,.Name y py] kt pt] (.Tuple [a,b] k2 pt2) X.env=pure (some [x,y]))
 (hs:swapsWithSole [.Tuple [.Name x px,.Name y py] kt pt] (.Tuple [a,b] k2 pt2) pos.line X.env=pure false:=by rfl):
 PS X (.Assign [.Tuple [.Name x px,.Name y py] kt pt] (.Tuple [a,b] k2 pt2) pos) (apl i j ta):=by
 intro pins s σ H D I h;rw[exec_Assign_arm];refine Aa (wpAny_standAt ?_);rw[hs];refine Aa (Ai ?_);rw[As (by decide)];refine Aa (Tuple_ (v4 (ha _ pins s σ H _ I h) fun us s1 ⟨vs,H1,I1,r1,q1⟩=>?_));obtain⟨v,w,e1,q1⟩:=q1;subst e1;obtain⟨u1,u2,rfl,rv,rw'⟩:∃u1 u2,us=[u1,u2]/\zq v u1/\zq w u2:=by
  cases r1 with
  |cons p q=>
   cases q with
   |cons p' q'=>
    cases q';exact⟨_,_,rfl,p,p'⟩
 refine Bh ?_ (by show 2≤sizeLine;decide);have I2:qt X pins σ H1 { s1 with heap:=s1.heap.push { cls:=.type "tuple",data:=.seq [u1,u2].toArray } }:=I1.kept (t':=s1.toks) fun b o e=>Heap.get?_push_of_some _ e;rw[hw];refine Aa (Ai ?_);show wpAny (model X.prog X.w) X.A (do rule "assign.swapped-stores";let items <-unpackItems (.ref s1.heap.objs.size) 2 none;assignInOrder [fun v=>bindName X.env y v,fun v=>bindName X.env x v] items.reverse;pure Flow.next) _ _ _;refine Aa (Bl (Aa (unpackItems_tuple (items:=#[u1,u2]) (I.ok.hd hc) (IsTup.new s1.heap _) fun h' hx'=>?_)));have I3:=I2.kept (h':=h') (t':=s1.toks) fun b o e=>hx' b o (A2 (Heap.lt_size e)) e;show wpAny _ _ (assignInOrder [fun v=>bindName X.env y v,fun v=>bindName X.env x v] [u2,u1] >>= fun _=>pure Flow.next) _ _ _;refine Aa (assignInOrder_cons (wpAny_bindName (aO I3 hN hj (.inl hy) rw' (fun s2 I4=>?_) (.inr hy))));refine assignInOrder_cons (wpAny_bindName (aO I4 hN hi (.inl hx) rv (fun s3 I5=>assignInOrder_nil (Ai ?_)) (.inr hx)));rw[DY _ _ (AK hij)] at I5;exact⟨_,H1,I5,q1⟩
end
section
def aib(c:TT)(tb:TS):TS:=fun D σ H=>∃W:Nat->St->Hp->Prop,(∃m,W m σ H)/\∀m σ H,W m σ H->
 c σ H fun b H1=>if b=true then ∃N:St->Hp->Prop,(∀σ' H',N σ' H'->∃m',m'<m/\W m' σ' H')/\tb { D with nx:=N,ct:=N,bk:=D.nx } σ H1 else D.nx σ H1
theorem abo{tc:TT}{tb:TS}(hp:PassesOwn (model X.prog X.w) X.A X.env X.xe)(hc:PT X c tc)(hb:iM X body tb):PS X (.While c body [] pos) (aib tc tb):=by
 intro pins s σ H D I h;obtain⟨W,⟨m0,w0⟩,turn⟩:=h;refine wpAny_While (codeAny_whileLoop (fun n s'=>∃σ' H',qt X pins σ' H' s'/\W n σ' H') ?_ m0 ⟨σ,H,I,w0⟩);rintro n s1 ⟨σ1,H1,I1,w1⟩;refine wpAny_passesOwn hp (v4 (hc pins s1 σ1 H1 _ I1 (turn n σ1 H1 w1)) fun b s2 ⟨H2,I2,q2⟩=>?_);cases b with
 |true=>
  obtain⟨N,hN,q2⟩:=q2;rw[AA rfl];refine wpAny_passesOwn hp (v4 (hb pins s2 σ1 H2 _ I2 q2) fun f s3 q3=>?_);cases f with
  |next=>
   obtain⟨σ3,H3,I3,n3⟩:=q3;obtain⟨m',hm,w3⟩:=hN σ3 H3 n3;exact⟨m',hm,σ3,H3,I3,w3⟩
  |cont=>
   obtain⟨σ3,H3,I3,n3⟩:=q3;obtain⟨m',hm,w3⟩:=hN σ3 H3 n3;exact⟨m',hm,σ3,H3,I3,w3⟩
  |brk=>exact q3
  |ret v=>exact q3
 |false=>
  rw[As Ax];exact wpAny_execs_nil ⟨σ1,H2,I2,q2⟩
end
structure It where
 go:Nat->Hp->Prop
 yld:Nat->Hp->V->Hp->Prop
 stop:Nat->Hp->Prop
def mH(X:Cx)(pins:List (Addr×Obj))(H:Hp)(b:Addr):Prop:=
 H b=none/\b≠X.env.locals/\b∉X.fs/\(b∈X.ex\/X.s₀.heap.objs.size≤b)/\(∀x c,X.env.cells.lookup x=some c->c≠b)/\∀p∈X.pn++pins,p.1≠b
theorem qt.fpOk{b:Addr}(I:qt X pins σ H s)(hb:s.heap.objs.size≤b)(hn:H' b=none):mH X pins H' b:=by
 refine⟨hn,Dl (AJ I.lt hb),I.nofs hb,.inr (AU I.sz hb),fun x c e z=>?_,fun p hp z=>?_⟩
 ·obtain⟨v,q⟩:=I.cell x c e;exact absurd (AJ q.lt (by rw[z];exact hb)) (C2 _)
 ·exact absurd (AJ (Heap.lt_size (I.pin p hp).1) (by rw[z];exact hb)) (C2 _)
structure xO(P:Program)(w:World)(K:Af)(tg:Expr)(J:It)(fp:List Addr)(it:Addr)(tn:Nat->Heap->Prop):Prop where
 mem:it∈fp
 obj:∀i h,tn i h->∀b∈fp,∃o,h.get? b=some o/\∀v,o.data≠.cell v
 keep:∀i h h',tn i h->(∀b∈fp,∀o,h.get? b=some o->h'.get? b=some o)->tn i h'
 item:∀(X:Cx),X.prog=P->X.w=w->X.K=K->X.calm=true->∀(i:Nat) (pins:List (Addr×Obj)) (s:Shared) (σ:St) (H:Hp) (E:Value->Shared->Prop),qt X pins σ H s->(∀b∈fp,mH X pins H b)->tn i s.heap->J.go i H->
  wpAny (model P w) X.A (pyNext (.ref it)) (fun r s1=>∃u,r=some u/\
   wpAny (model P w) X.A (letOwnedTupleGo tg (.ref it) u) (fun _ s2=>∃x H',qt X pins σ H' s2/\zq x u/\J.yld i H x H'/\tn (i+1) s2.heap/\∀b∈fp,H' b=none) E s1) E s
 done:∀(X:Cx),X.prog=P->X.w=w->X.K=K->X.calm=true->∀(i:Nat) (pins:List (Addr×Obj)) (s:Shared) (σ:St) (H:Hp) (E:Value->Shared->Prop),qt X pins σ H s->(∀b∈fp,mH X pins H b)->tn i s.heap->J.stop i H->
  wpAny (model P w) X.A (pyNext (.ref it)) (fun r s1=>r=none/\qt X pins σ H s1) E s
 self:∀(A:Around) (i:Nat) (s:Shared) (Q:Value->Shared->Prop) (E:Value->Shared->Prop),tn i s.heap->Q (.ref it) s->wpAny (model P w) A (pyIter (.ref it)) Q E s
abbrev TI:=St->Hp->(It->Hp->Prop)->Prop
def PIE(X:Cx)(pins:List (Addr×Obj))(σ:St)(tg:Expr)(R:It->Hp->Prop)(itv:Value)(s2:Shared):Prop:=
 ∃(it:Addr) (fp:List Addr) (tn:Nat->Heap->Prop) (J:It) (H':Hp),itv=.ref it/\qt X pins σ H' s2/\xO X.prog X.w X.K tg J fp it tn/\tn 0 s2.heap/\(∀b∈fp,mH X pins H' b)/\R J H'
def PI(X:Cx)(tg iter:Expr)(wi:TI):Prop:=
 ∀(pins:List (Addr×Obj)) (s:Shared) (σ:St) (H:Hp) (R:It->Hp->Prop),qt X pins σ H s->wi σ H R->
  wpAny (model X.prog X.w) X.A (eval iter X.env) (fun v s1=>wpAny (model X.prog X.w) X.A (pyIter v) (PIE X pins σ tg R) X.xe s1) X.xe s
theorem ab8{o:Obj}{n:String}{vs:Array Value}{Q:Unit->Shared->Prop}(ho:s.heap.get? it=some o)(hc:o.cls=.type n)(hd:o.data=.fields vs)
 (hn:["enumerate", "zip", "dict_itemiterator", "dict_reverseitemiterator", "odict_iterator", "itertools.zip_longest", "itertools.pairwise"].contains n=false) (hQ:Q () s):wpAny M A (letOwnedTupleGo tg (.ref it) u) Q E s:=by
 unfold letOwnedTupleGo;cases tg<;>first
  |exact Ai hQ
  |(cases u<;>first
   |exact Ai hQ
   |(refine Aa (wpAny_load ho ?_)
     rw[hc,hd];show wpAny M A (if (["enumerate", "zip", "dict_itemiterator", "dict_reverseitemiterator", "odict_iterator", "itertools.zip_longest", "itertools.pairwise"].contains n&&vs[0]?==some (rawInt _))=true then _ else _) Q E s;rw[As (by intro h;rw[hn,Bool.false_and] at h;cases h)];exact Ai hQ))
def Itl(K:Af)(a:Addr):It:=
 ⟨fun i H=>∃xs x,aB K H a xs/\xs[i]?=some x,fun i H x H'=>H'=H/\∀xs,aB K H a xs->xs[i]?=some x,fun i H=>∃xs,aB K H a xs/\xs.length≤i⟩
def Itt(K:Af)(a:Addr):It:=
 ⟨fun i H=>∃xs x,dC K H a xs/\xs[i]?=some x,fun i H x H'=>H'=H/\∀xs,dC K H a xs->xs[i]?=some x,fun i H=>∃xs,dC K H a xs/\xs.length≤i⟩
def Itr(lo:Int)(n:Nat):It:=⟨fun i _=>i<n,fun i H x H'=>H'=H/\x=.int (lo+i),fun i _=>n≤i⟩
theorem xZ{P:Program}{w:World}{K:Af}(a it:Addr):xO P w K tg (Itl K a) [it] it (fun i h=>h.IsListIter it a i) where
 mem:=by simp
 obj:=fun i h st b hb=>by
  have e:b=it:=by simpa using hb
  subst e;obtain⟨o,e,c,d⟩:=st;exact⟨o,e,fun v z=>by rw[d] at z;cases z⟩
 keep:=fun i h h' st k=>st.at fun o e=>k it (by simp) o e
 item:=by intro X hP hw hK hc i pins s σ H E I hf st hg;subst hP hw hK;obtain⟨xs,x,hq,hx⟩:=hg;obtain⟨its,rv,p,hz⟩:=I.list hq;obtain⟨u,hu,ru⟩:=rv.get hx;obtain⟨f0,f1,f2,f3,f4,f5⟩:=hf it (by simp);refine wpAny_pyNext_list_item st p.isList (x:=u) (by simpa using hu) fun h' st' sb=>?_;have I1:qt X pins σ H { s with heap:=h' }:=I.turned (t':=s.toks) (fun b o hb e=>(sb.2 b hb).trans e) f0 f1 f3 f4 f5;obtain⟨o,e,c,d⟩:=id st';exact⟨u,rfl,ab8 (s:={ s with heap:=h' }) e c d (by decide) ⟨x,H,I1,ru,⟨rfl,fun ys hy=>by rw[I.list_inj hy hq];exact hx⟩,st',fun b hb=>(hf b hb).1⟩⟩
 done:=by intro X hP hw hK hc i pins s σ H E I hf st hg;subst hP hw hK;obtain⟨xs,hq,hx⟩:=hg;obtain⟨its,rv,p,hz⟩:=I.list hq;obtain⟨f0,f1,f2,f3,f4,f5⟩:=hf it (by simp);have hl:=rv.length;exact wpAny_pyNext_list_end (I.ok.hd hc) st p.isList (by simp;omega) fun h' eb=>⟨rfl,I.turned (t':=s.toks) (fun b o hb e=>eb b o hb e) f0 f1 f3 f4 f5⟩
 self:=fun _ _ _ _ _ st h=>wpAny_pyIter_listiter st h
theorem uX{P:Program}{w:World}{K:Af}(a it:Addr):xO P w K tg (Itt K a) [it] it (fun i h=>h.IsTupleIter it a i) where
 mem:=by simp
 obj:=fun i h st b hb=>by
  have e:b=it:=by simpa using hb
  subst e;obtain⟨o,e,c,d⟩:=st;exact⟨o,e,fun v z=>by rw[d] at z;cases z⟩
 keep:=fun i h h' st k=>st.at fun o e=>k it (by simp) o e
 item:=by intro X hP hw hK hc i pins s σ H E I hf st hg;subst hP hw hK;obtain⟨xs,x,hq,hx⟩:=hg;obtain⟨its,rv,p,hz⟩:=I.tuple hq;obtain⟨u,hu,ru⟩:=rv.get hx;obtain⟨f0,f1,f2,f3,f4,f5⟩:=hf it (by simp);refine wpAny_pyNext_tuple_item st (show s.heap.IsTuple a its.toArray from p) (x:=u) (by simpa using hu) fun h' st' sb=>?_;have I1:qt X pins σ H { s with heap:=h' }:=I.turned (t':=s.toks) (fun b o hb e=>(sb.2 b hb).trans e) f0 f1 f3 f4 f5;obtain⟨o,e,c,d⟩:=id st';exact⟨u,rfl,ab8 (s:={ s with heap:=h' }) e c d (by decide) ⟨x,H,I1,ru,⟨rfl,fun ys hy=>by rw[I.tuple_inj hy hq];exact hx⟩,st',fun b hb=>(hf b hb).1⟩⟩
 done:=by intro X hP hw hK hc i pins s σ H E I hf st hg;subst hP hw hK;obtain⟨xs,hq,hx⟩:=hg;obtain⟨its,rv,p,hz⟩:=I.tuple hq;obtain⟨f0,f1,f2,f3,f4,f5⟩:=hf it (by simp);have hl:=rv.length;exact wpAny_pyNext_tuple_end (I.ok.hd hc) st (show s.heap.IsTuple a its.toArray from p) (by simp;omega) fun h' eb=>⟨rfl,I.turned (t':=s.toks) (fun b o hb e=>eb b o hb e) f0 f1 f3 f4 f5⟩
 self:=fun _ _ _ _ _ st h=>wpAny_pyIter_tupleiter st h
theorem uj{P:Program}{w:World}{K:Af}(it:Addr)(lo:Int)(n:Nat):xO P w K tg (Itr lo n) [it] it (fun i h=>IsRangeIter h it (lo+(i:Nat)*1) ((n:Int) - (i:Nat)) 1) where
 mem:=by simp
 obj:=fun i h st b hb=>by
  have e:b=it:=by simpa using hb
  subst e;exact⟨_,st,fun v z=>by have z':Data.fields _=Data.cell v:=z;cases z'⟩
 keep:=fun i h h' st k=>k it (by simp) _ st
 item:=by intro X hP hw hK hc i pins s σ H E I hf st hg;subst hP hw hK;obtain⟨f0,f1,f2,f3,f4,f5⟩:=hf it (by simp);have W:=Walks.range (prog:=X.prog) (w:=X.w) (I.ok.hd hc) it lo 1 n;refine jp I.tk (W.item i s _ _ hg st fun v h' tk hv st' kk ht=>?_);obtain⟨t,rfl⟩:=hv;have I1:qt X pins σ H { s with heap:=h',toks:=tk }:=I.turned (fun b o hb e=>kk b o (by simpa using hb) e) f0 f1 f3 f4 f5;refine⟨_,rfl,ab8 (s:={ s with heap:=h',toks:=tk }) (n:="range_iterator") st' rfl rfl (by decide) ⟨.int (lo+i),H,I1,⟨t,?_⟩,⟨rfl,rfl⟩,st',fun b hb=>(hf b hb).1⟩⟩;rw[Int.mul_one]
 done:=by intro X hP hw hK hc i pins s σ H E I hf st hg;subst hP hw hK;obtain⟨f0,f1,f2,f3,f4,f5⟩:=hf it (by simp);exact wpAny_pyNext_range_end (I.ok.hd hc) st (by have:n≤i:=hg;omega) fun h' eb=>⟨rfl,I.turned (t':=s.toks) (fun b o hb e=>eb b o hb e) f0 f1 f3 f4 f5⟩
 self:=fun _ _ _ _ _ st h=>wpAny_pyIter_rangeiter st h
end L2
variable {wi:L2.TI}
namespace L2
open PySem PySem.Spec PyProof.Rows
section
def alm(K:Af)(tl:TE):TI:=fun σ H R=>tl σ H fun x H1=>∃a,x=.ref a/\(∃xs,aB K H1 a xs)/\R (Itl K a) H1
def aox(K:Af)(tl:TE):TI:=fun σ H R=>tl σ H fun x H1=>∃a,x=.ref a/\(∃xs,dC K H1 a xs)/\R (Itt K a) H1
theorem af8{l:Expr}{tl:TE}(hl:PE X l tl):PI X tg l (alm X.K tl):=by
 intro pins s σ H R I h;refine v4 (hl pins s σ H _ I h) fun v s1 ⟨x,H1,I1,r1,q1⟩=>?_;obtain⟨a,e,⟨xs,hq⟩,q⟩:=q1;subst e;cases r1;obtain⟨its,rv,p,hz⟩:=I1.list hq;refine wpAny_pyIter_list p.isList ?_;refine⟨s1.heap.objs.size,[s1.heap.objs.size],_,_,H1,rfl,I1.kept (t':=s1.toks) fun b o e=>Heap.get?_push_of_some _ e,xZ a _,⟨_,Heap.get?_push_size _ rfl,rfl,rfl⟩,fun b hb=>?_,q⟩;have e:b=s1.heap.objs.size:=by simpa using hb
 subst e;exact I1.fpOk (Am _) (I1.hok.fresh (Am _))
theorem ak4{l:Expr}{tl:TE}(hl:PE X l tl):PI X tg l (aox X.K tl):=by
 intro pins s σ H R I h;refine v4 (hl pins s σ H _ I h) fun v s1 ⟨x,H1,I1,r1,q1⟩=>?_;obtain⟨a,e,⟨xs,hq⟩,q⟩:=q1;subst e;cases r1;obtain⟨its,rv,p,hz⟩:=I1.tuple hq;refine wpAny_pyIter_tuple (show s1.heap.IsTuple a its.toArray from p) ?_;refine⟨s1.heap.objs.size,[s1.heap.objs.size],_,_,H1,rfl,I1.kept (t':=s1.toks) fun b o e=>Heap.get?_push_of_some _ e,uX a _,⟨_,Heap.get?_push_size _ rfl,rfl,rfl⟩,fun b hb=>?_,q⟩;have e:b=s1.heap.objs.size:=by simpa using hb
 subst e;exact I1.fpOk (Am _) (I1.hok.fresh (Am _))
theorem ac0{R:It->Hp->Prop}{hi:Int}{t u v:Tok}{tk:Nat}(I:qt X pins σ H s)(h1 : -(2 ^ 62)≤lo)(h2:lo<2 ^ 62)(h3 : -(2 ^ 62)≤hi)(h4:hi<2 ^ 62)
 (q:R (Itr lo (hi - lo).toNat) H) (ht:0<tk:=by walk_at "t"):wpAny (model X.prog X.w) X.A (pyIter (.ref s.heap.objs.size)) (PIE X pins σ tg R) E { s with heap:=s.heap.push { cls:=.type "range",data:=.fields #[.int lo t,.int hi u,.int 1 v] },toks:=tk }:=by
 refine wpAny_pyIter_range (IsRange.new ..) (small_one h1 h2 h3 h4) ?_;have I1:qt X pins σ H { s with heap:=s.heap.push { cls:=.type "range",data:=.fields #[.int lo t,.int hi u,.int 1 v] },toks:=tk }:=I.kept fun b o e=>Heap.get?_push_of_some _ e;refine⟨(s.heap.push { cls:=.type "range",data:=.fields #[.int lo t,.int hi u,.int 1 v] }).objs.size,[(s.heap.push { cls:=.type "range",data:=.fields #[.int lo t,.int hi u,.int 1 v] }).objs.size],_,_,H,rfl,
  I1.kept (t':=tk) fun b o e=>Heap.get?_push_of_some _ e,uj _ lo (hi - lo).toNat,?_,fun b hb=>?_,q⟩
 ·have e1:lo+((0:Nat):Int)*1=lo:=by simp
  have e2:(((hi - lo).toNat:Nat):Int) - ((0:Nat):Int)=Builtin.Range.rangeSize lo hi 1:=by rw[rangeSize_one];split<;>omega
  show IsRangeIter _ _ (lo+((0:Nat):Int)*1) ((((hi - lo).toNat:Nat):Int) - ((0:Nat):Int)) 1;rw[e1,e2];exact Heap.get?_push_size _ rfl
 ·have e:b=(s.heap.push { cls:=.type "range",data:=.fields #[.int lo t,.int hi u,.int 1 v] }).objs.size:=by simpa using hb
  subst e;exact I1.fpOk (Am _) (I1.hok.fresh (Am _))
def al5(ta:TA):TI:=fun σ H R=>ta σ H fun vs H1=>∃j:Int,vs=[.int j] /\ -(2 ^ 62)≤j/\j<2 ^ 62/\R (Itr 0 j.toNat) H1
theorem wV{a:Expr}{ta:TA}(hg:Gl X "range")(hm:X.mg "range" = none)(ha:PA X [a] ta)(hs:starEach [a] X.env=[(false,eval a X.env)]:=by rfl):PI X tg (.Call (.Name "range" p) [a] [] pos) (al5 ta):=by
 intro pins s σ H R I h;refine Call_ (fN I hg hm boot_range (BX (v4 (ha pos pins s σ H _ I h) fun us s1 ⟨vs,H1,I1,r1,q1⟩=>?_) hs rfl));obtain⟨j,e,q1,q2,q⟩:=q1;subst e;cases r1 with
 |cons r rr=>
  cases rr;obtain⟨t,rfl⟩:=r;exact call_range_1 (ac0 I1 (by omega) (by omega) q1 q2 (by simpa using q))
def aoq(wi:TI)(g:TG)(tb:TS):TS:=fun D σ H=>wi σ H fun J H1=>∃W:Nat->Nat->St->Hp->Prop,(∃m,W 0 m σ H1)/\∀i m σ H,W i m σ H->
 (J.stop i H/\D.nx σ H)\/(J.go i H/\∃N:St->Hp->Prop,(∀σ' H',N σ' H'->∃m',m'<m/\W (i+1) m' σ' H')/\∀x H',J.yld i H x H'->g x σ H' fun σ2 H2=>tb { D with nx:=N,ct:=N,bk:=D.nx } σ2 H2)
def jT(fp:List Addr)(h:Heap):List (Addr×Obj):=fp.filterMap fun b=>(h.get? b).map fun o=>(b,o)
theorem cW{b:Addr}{o:Obj}(hb:b∈fp)(e:h.get? b=some o):(b,o)∈jT fp h:=DH.mpr ⟨b,hb,by rw[e];rfl⟩
theorem xJ{p:Addr×Obj}(hp:p∈jT fp h):p.1∈fp/\h.get? p.1=some p.2:=by
 obtain⟨b,hb,e⟩:=DH.mp hp;cases q:h.get? b with
 |none=>rw[q] at e;cases e
 |some o=>
  rw[q] at e;have e':(b,o)=p:=Bc e;subst e';exact⟨hb,q⟩
theorem qt.pinned(I:qt X pins σ H s)(hf:∀b∈fp,mH X pins H b)(ho:∀b∈fp,∃o,s.heap.get? b=some o/\∀v,o.data≠.cell v):qt X (pins++jT fp s.heap) σ H s:=
 I.pins_of fun p hp=>(Aj.mp hp).elim (fun z=>I.pin p (Ah _ z)) fun z=>by obtain⟨hb,e⟩:=xJ z;obtain⟨f0,f1,f2,_⟩:=hf p.1 hb;obtain⟨o,e',d⟩:=ho p.1 hb;rw[e] at e';cases e';exact⟨e,f0,f1,f2,d⟩
theorem qt.unpinned{pl:List (Addr×Obj)}(I:qt X (pins++pl) σ H s):qt X pins σ H s:=I.pins_of fun p hp=>I.pin p (Ah _ (An _ hp))
theorem ajc{iter:Expr}{g:TG}{tb:TS}(hp:PassesOwn (model X.prog X.w) X.A X.env X.xe)(hc:X.calm=true)(hi:PI X tg iter wi)(hg:PG X tg g)(hb:iM X body tb)
 (hs:∀x,foldedSetIterable iter X.env x=pure x:=by intro _;rfl):PS X (.For tg iter body [] pos) (aoq wi g tb):=by
 intro pins s σ H D I h;refine wpAny_For (v4 (hi pins s σ H _ I h) fun v s1 h1=>v4 h1 fun itv s2 h2=>?_) hs;obtain⟨it,fp,tn,J,H2,e,I2,T,st2,f2,W,⟨m0,w0⟩,turn⟩:=h2;subst e;have stat:∀{H':Hp},(∀b∈fp,H' b=none)->∀b∈fp,mH X pins H' b:=fun hn b hb=>⟨hn b hb,(f2 b hb).2⟩;refine codeAny_forLoop_any (fun n s'=>∃i σ' H',qt X pins σ' H' s'/\tn i s'.heap/\(∀b∈fp,H' b=none)/\W i n σ' H') ?_ m0 ⟨0,σ,H2,I2,st2,fun b hb=>(f2 b hb).1,w0⟩;rintro n s3 ⟨i,σ3,H3,I3,st3,fr3,w3⟩;rcases turn i n σ3 H3 w3 with⟨stop,qn⟩ | ⟨go,N,hN,step⟩
 ·refine wpAny_passesOwn hp (v4 (T.done X rfl rfl rfl hc i pins s3 σ3 H3 X.xe I3 (stat fr3) st3 stop) fun r s4 ⟨hr,I4⟩=>?_);subst hr;exact wpAny_execs_nil ⟨σ3,H3,I4,qn⟩
 ·refine wpAny_passesOwn hp (v4 (T.item X rfl rfl rfl hc i pins s3 σ3 H3 X.xe I3 (stat fr3) st3 go) fun r s4 ⟨u,hr,h4⟩=>?_);subst hr;refine wpAny_passesOwn hp (v4 h4 fun _ s5 ⟨x,H5,I5,r5,y5,st5,fr5⟩=>?_);have I5':=I5.pinned (stat fr5) (T.obj _ _ st5);refine wpAny_passesOwn hp (v4 (hg _ s5 σ3 H5 x u _ I5' r5 (step x H5 y5)) fun _ s6 ⟨σ6,H6,I6,q6⟩=>?_);refine wpAny_passesOwn hp (v4 (hb _ s6 σ6 H6 _ I6 q6) fun f s7 q7=>?_);have again:∀{σ7:St} {H7:Hp},qt X (pins++jT fp s5.heap) σ7 H7 s7->N σ7 H7->∃m,m<n/\∃i σ' H',qt X pins σ' H' s7/\tn i s7.heap/\(∀b∈fp,H' b=none)/\W i m σ' H':=fun {σ7 H7} I7 n7=>by obtain⟨m',hm,w7⟩:=hN σ7 H7 n7;refine⟨m',hm,i+1,σ7,H7,I7.unpinned,T.keep _ _ _ st5 fun b hb o e=>(I7.pin (b,o) (Ah _ (Ah _ (cW hb e)))).1,fun b hb=>?_,w7⟩;obtain⟨o,e,d⟩:=T.obj _ _ st5 b hb;exact(I7.pin (b,o) (Ah _ (Ah _ (cW hb e)))).2.1
  cases f with
  |next=>obtain⟨σ7,H7,I7,n7⟩:=q7;exact again I7 n7
  |cont=>obtain⟨σ7,H7,I7,n7⟩:=q7;exact again I7 n7
  |brk=>obtain⟨σ7,H7,I7,q7⟩:=q7;exact⟨σ7,H7,I7.unpinned,q7⟩
  |ret v=>obtain⟨x7,σ7,H7,I7,r7,q7⟩:=q7;exact⟨x7,σ7,H7,I7.unpinned,r7,q7⟩
end
abbrev R2:=V->V->Hp->VK->Prop
def aT(X:Cx)(f:Value->Value->Sem Value)(r:R2):Prop:=
 ∀(pins:List (Addr×Obj)) (s:Shared) (σ:St) (H:Hp) (x y:V) (v u:Value) (Q:VK),qt X pins σ H s->zq x v->zq y u->r x y H Q->
  wpAny (model X.prog X.w) X.A (f v u) (EP X pins σ Q) X.xe s
def UnR(X:Cx)(f:Value->Sem Value)(r:V->Hp->VK->Prop):Prop:=
 ∀(pins:List (Addr×Obj)) (s:Shared) (σ:St) (H:Hp) (x:V) (v:Value) (Q:VK),qt X pins σ H s->zq x v->r x H Q->
  wpAny (model X.prog X.w) X.A (f v) (EP X pins σ Q) X.xe s
def jw(X:Cx)(f:Value)(r:List V->Hp->VK->Prop):Prop:=
 ∀(pins:List (Addr×Obj)) (s:Shared) (σ:St) (H:Hp) (xs:List V) (us:List Value) (Q:VK),qt X pins σ H s->zn xs us->r xs H Q->
  wpAny (model X.prog X.w) X.A (call f us) (EP X pins σ Q) X.xe s
def tOp(r:R2)(ta tb:TE):TE:=fun σ H Q=>ta σ H fun x H1=>tb σ H1 fun y H2=>r x y H2 Q
def tUn(r:V->Hp->VK->Prop)(ta:TE):TE:=fun σ H Q=>ta σ H fun x H1=>r x H1 Q
def rI(C:Int->Int->Prop)(g:Int->Int->V):R2:=fun x y H Q=>∃i j,x=.int i/\y=.int j/\C i j/\Q (g i j) H
def rI0(g:Int->Int->V):R2:=fun x y H Q=>∃i j,x=.int i/\y=.int j/\Q (g i j) H
def rU(g:Int->V):V->Hp->VK->Prop:=fun x H Q=>∃i,x=.int i/\Q (g i) H
section
variable {a b:Expr}{ta tb tc:TE} 
theorem ags(ha:PE X a ta)(hb:PE X b tb){R:V->V->Hp->Prop}(I:qt X pins σ H s)
 (h:ta σ H fun x H1=>tb σ H1 fun y H2=>R x y H2) {f:Value->Value->Sem Value}
 (hf:∀v u s2 x y H2,qt X pins σ H2 s2->zq x v->zq y u->R x y H2->wpAny (model X.prog X.w) X.A (f v u) Q X.xe s2):
 wpAny (model X.prog X.w) X.A (eval a X.env) (fun v s₁=>wpAny (model X.prog X.w) X.A (eval b X.env) (fun u s₂=>wpAny (model X.prog X.w) X.A (f v u) Q X.xe s₂) X.xe s₁) X.xe s:=by
 refine v4 (ha pins s σ H _ I h) fun v s1 ⟨x,H1,I1,r1,q1⟩=>?_;refine v4 (hb pins s1 σ H1 _ I1 q1) fun u s2 ⟨y,H2,I2,r2,q2⟩=>?_;exact hf v u s2 x y H2 I2 r1 r2 q2
theorem amf{op:Operator}{r:R2}(ho:aT X (binaryOp op) r)(ha:PE X a ta)(hb:PE X b tb):PE X (.BinOp a op b pos) (tOp r ta tb):=by intro pins s σ H Q I h;exact wpAny_BinOp (ags ha hb I h fun v u s2 x y H2 I2 rx ry q=>ho pins s2 σ H2 x y v u Q I2 rx ry q)
theorem akr{op:UnaryOp}{r:V->Hp->VK->Prop}(ho:UnR X (unaryOp op) r)(ha:PE X a ta):PE X (.UnaryOp op a pos) (tUn r ta):=by intro pins s σ H Q I h;exact UnaryOp_ (v4 (ha pins s σ H _ I h) fun v s1 ⟨x,H1,I1,r1,q1⟩=>ho pins s1 σ H1 x v Q I1 r1 q1)
theorem opI{f:Value->Value->Sem Value}{C:Int->Int->Prop}{g:Int->Int->Int}
 (rule:∀(i j:Int) (t u:Tok) (s:Shared) (Q:Value->Shared->Prop) (E:Value->Shared->Prop),C i j->Q (.int (g i j) s.toks) { s with toks:=s.toks+1 }->wpAny (model X.prog X.w) X.A (f (.int i t) (.int j u)) Q E s):
 aT X f (rI C fun i j=>.int (g i j)):=by
 intro pins s σ H x y v u Q I rx ry h;obtain⟨i,j,rfl,rfl,hc,q⟩:=h;obtain⟨t,rfl⟩:=rx;obtain⟨t',rfl⟩:=ry;exact rule i j t t' s _ _ hc ⟨.int (g i j),H,I.tok _,⟨_,rfl⟩,q⟩
theorem alf{f:Value->Value->Sem Value}{g:Int->Int->Int}
 (rule:∀(i j:Int) (t u:Tok) (s:Shared) (Q:Value->Shared->Prop) (E:Value->Shared->Prop),Q (.int (g i j) s.toks) { s with toks:=s.toks+1 }->wpAny (model X.prog X.w) X.A (f (.int i t) (.int j u)) Q E s):
 aT X f (rI0 fun i j=>.int (g i j)):=by
 intro pins s σ H x y v u Q I rx ry h;obtain⟨i,j,rfl,rfl,q⟩:=h;obtain⟨t,rfl⟩:=rx;obtain⟨t',rfl⟩:=ry;exact rule i j t t' s _ _ ⟨.int (g i j),H,I.tok _,⟨_,rfl⟩,q⟩
theorem aki{f:Value->Value->Sem Value}{g:Int->Int->Bool}
 (rule:∀(i j:Int) (t u:Tok) (s:Shared) (Q:Value->Shared->Prop) (E:Value->Shared->Prop),Q (.bool (g i j)) s->wpAny (model X.prog X.w) X.A (f (.int i t) (.int j u)) Q E s):
 aT X f (rI0 fun i j=>.bl (g i j)):=by
 intro pins s σ H x y v u Q I rx ry h;obtain⟨i,j,rfl,rfl,q⟩:=h;obtain⟨t,rfl⟩:=rx;obtain⟨t',rfl⟩:=ry;exact rule i j t t' s _ _ ⟨.bl (g i j),H,I,rfl,q⟩
def agt(i j:Int):Prop:=0<j/\j<1073741824
def ahx(i j:Int):Prop:=0≤j/\j≤1000000/\i.natAbs<2 ^ 64
def aaj(i j:Int):Prop:=(-(2 ^ 64)<i/\i<2 ^ 64)\/(-(2 ^ 64)<j/\j<2 ^ 64)
theorem aaj.ok{i j:Int}(h:aaj i j):IntMulOk i j:=by
 rcases h with⟨h1,h2⟩ | ⟨h1,h2⟩
 ·exact .of_left (intBits_le_64 h1 h2)
 ·exact .of_right (intBits_le_64 h1 h2)
theorem ai5:aT X (binaryOp .Add) (rI0 fun i j=>.int (i+j)):=alf fun _ _ _ _ _ _ _ q=>add_int q
theorem ahw:aT X (binaryOp .Sub) (rI0 fun i j=>.int (i - j)):=alf fun _ _ _ _ _ _ _ q=>sub_int q
theorem aiq:aT X (binaryOp .Mult) (rI aaj fun i j=>.int (i*j)):=opI fun _ _ _ _ _ _ _ hc q=>mul_int q hc.ok
theorem aef:aT X (binaryOp .FloorDiv) (rI agt fun i j=>.int (i / j)):=opI fun i j _ _ _ _ _ hc q=>by have h1:(0:Int)<j:=hc.1;have h2:j<1073741824:=hc.2;exact floordiv_int (by omega) (by rw[Int.fdiv_eq_ediv_of_nonneg i (by omega)];exact q) (.inl (PyProof.noPylong_small (by omega)))
theorem ajx:aT X (binaryOp .Mod) (rI (fun _ j=>0<j) fun i j=>.int (i % j)):=opI fun i j _ _ _ _ _ hc q=>by have h1:(0:Int)<j:=hc;exact mod_int' (by omega) (by rw[Int.fmod_eq_emod_of_nonneg i (by omega)];exact q)
theorem ajq:aT X (binaryOp .Pow) (rI ahx fun i j=>.int (i ^ j.toNat)):=opI fun _ _ _ _ _ _ _ hc q=>pow_int_small hc.1 hc.2.1 hc.2.2 q
theorem unI{f:Value->Sem Value}{g:Int->Int}
 (rule:∀(i:Int) (t:Tok) (s:Shared) (Q:Value->Shared->Prop) (E:Value->Shared->Prop),Q (.int (g i) s.toks) { s with toks:=s.toks+1 }->wpAny (model X.prog X.w) X.A (f (.int i t)) Q E s):
 UnR X f (rU fun i=>.int (g i)):=by
 intro pins s σ H x v Q I rx h;obtain⟨i,rfl,q⟩:=h;obtain⟨t,rfl⟩:=rx;exact rule i t s _ _ ⟨.int (g i),H,I.tok _,⟨_,rfl⟩,q⟩
theorem ah3:UnR X (unaryOp .USub) (rU fun i=>.int (-i)):=unI fun _ _ _ _ _ q=>neg_int q
end
def aeo:V->V->Bool
 |.non,.non=>true | .non,.int _=>true | .int _,.non=>true | .non,.bl _=>true | .bl _,.non=>true | .non,.str _=>true | .str _,.non=>true
 |.int _,.int _=>true | .bl _,.bl _=>true | .str _,.str _=>true | .byt _,.byt _=>true
 |.int _,.str _=>true | .str _,.int _=>true | .bl _,.str _=>true | .str _,.bl _=>true
 |_,_=>false
def rEq:R2:=fun x y H Q=>aeo x y=true/\Q (.bl (decide (x=y))) H
def rNe:R2:=fun x y H Q=>aeo x y=true/\Q (.bl (!decide (x=y))) H
theorem uw{i j:Int}:decide (V.int i=V.int j)=(i==j):=by rw[BE];simp
theorem ac5{i j:Bool}:decide (V.bl i=V.bl j)=(i==j):=by rw[BE];simp
theorem vH{i j:Str}:decide (V.str i=V.str j)=(i==j):=by rw[BE];simp
theorem vF{i j:Array UInt8}:decide (V.byt i=V.byt j)=(i.toList==j.toList):=by rw[BE];cases i;cases j;simp
section
variable {a b:Expr}{ta tb tc:TE} 
theorem jq{Q:VK}{k k':Bool}(I:qt X pins σ H s)(q:Q (.bl k) H)(e:k=k'):EP X pins σ Q (.bool k') s:=by subst e;exact⟨.bl k,H,I,rfl,q⟩
theorem agb:aT X (compareOp .Eq) rEq:=by
 intro pins s σ H x y v u Q I rx ry h;obtain⟨hs,q⟩:=h;cases x with
 |non=>
  cases rx;cases y with
  |non=>cases ry;exact PySem.EqNone.eq_none_none (jq I q (by simp))
  |bl j=>cases ry;exact PySem.EqNone.eq_none_bool (jq I q (by simp))
  |int j=>obtain⟨t',rfl⟩:=ry;exact PySem.EqNone.eq_none_int (jq I q (by simp))
  |str j=>obtain⟨t',rfl⟩:=ry;exact PySem.EqNone.eq_none_str (jq I q (by simp))
  |_=>exact absurd (show false=true from hs) Ax
 |bl i=>
  cases rx;cases y with
  |non=>cases ry;exact PySem.EqNone.eq_bool_none (jq I q (by simp))
  |bl j=>cases ry;exact eq_bool (jq I q ac5)
  |str j=>obtain⟨t',rfl⟩:=ry;exact PySem.EqMixed.eq_bool_str (jq I q (by simp))
  |_=>exact absurd (show false=true from hs) Ax
 |int i=>
  obtain⟨t,rfl⟩:=rx;cases y with
  |non=>cases ry;exact PySem.EqNone.eq_int_none (jq I q (by simp))
  |int j=>obtain⟨t',rfl⟩:=ry;exact eq_int (jq I q uw)
  |str j=>obtain⟨t',rfl⟩:=ry;exact PySem.EqMixed.eq_int_str (jq I q (by simp))
  |_=>exact absurd (show false=true from hs) Ax
 |str i=>
  obtain⟨t,rfl⟩:=rx;cases y with
  |non=>cases ry;exact PySem.EqNone.eq_str_none (jq I q (by simp))
  |bl j=>cases ry;exact PySem.EqMixed.eq_str_bool (jq I q (by simp))
  |int j=>obtain⟨t',rfl⟩:=ry;exact PySem.EqMixed.eq_str_int (jq I q (by simp))
  |str j=>obtain⟨t',rfl⟩:=ry;exact eq_str (jq I q vH)
  |_=>exact absurd (show false=true from hs) Ax
 |byt i=>
  obtain⟨t,rfl⟩:=rx;cases y with
  |byt j=>obtain⟨t',rfl⟩:=ry;exact PySem.W.eq_bytes (jq I q vF)
  |_=>exact absurd (show false=true from hs) Ax
 |_=>cases y<;>exact absurd (show false=true from hs) Ax
theorem afx:aT X (compareOp .NotEq) rNe:=by
 intro pins s σ H x y v u Q I rx ry h;obtain⟨hs,q⟩:=h;cases x with
 |non=>
  cases rx;cases y with
  |non=>cases ry;exact PySem.EqNone.ne_none_none (jq I q (by simp))
  |bl j=>cases ry;exact PySem.EqNone.ne_none_bool (jq I q (by simp))
  |int j=>obtain⟨t',rfl⟩:=ry;exact PySem.EqNone.ne_none_int (jq I q (by simp))
  |str j=>obtain⟨t',rfl⟩:=ry;exact PySem.EqNone.ne_none_str (jq I q (by simp))
  |_=>exact absurd (show false=true from hs) Ax
 |bl i=>
  cases rx;cases y with
  |non=>cases ry;exact PySem.EqNone.ne_bool_none (jq I q (by simp))
  |bl j=>cases ry;exact ne_bool (jq I q (BC not ac5))
  |str j=>obtain⟨t',rfl⟩:=ry;exact PySem.EqMixed.ne_bool_str (jq I q (by simp))
  |_=>exact absurd (show false=true from hs) Ax
 |int i=>
  obtain⟨t,rfl⟩:=rx;cases y with
  |non=>cases ry;exact PySem.EqNone.ne_int_none (jq I q (by simp))
  |int j=>obtain⟨t',rfl⟩:=ry;exact ne_int (jq I q (BC not uw))
  |str j=>obtain⟨t',rfl⟩:=ry;exact PySem.EqMixed.ne_int_str (jq I q (by simp))
  |_=>exact absurd (show false=true from hs) Ax
 |str i=>
  obtain⟨t,rfl⟩:=rx;cases y with
  |non=>cases ry;exact PySem.EqNone.ne_str_none (jq I q (by simp))
  |bl j=>cases ry;exact PySem.EqMixed.ne_str_bool (jq I q (by simp))
  |int j=>obtain⟨t',rfl⟩:=ry;exact PySem.EqMixed.ne_str_int (jq I q (by simp))
  |str j=>obtain⟨t',rfl⟩:=ry;exact ne_str (jq I q (BC not vH))
  |_=>exact absurd (show false=true from hs) Ax
 |byt i=>
  obtain⟨t,rfl⟩:=rx;cases y with
  |byt j=>obtain⟨t',rfl⟩:=ry;exact PySem.W.ne_bytes (jq I q (BC not vF))
  |_=>exact absurd (show false=true from hs) Ax
 |_=>cases y<;>exact absurd (show false=true from hs) Ax
theorem ala:aT X (compareOp .Lt) (rI0 fun i j=>.bl (decide (i<j))):=aki fun _ _ _ _ _ _ _ q=>lt_int q
theorem am5:aT X (compareOp .Gt) (rI0 fun i j=>.bl (decide (j<i))):=aki fun _ _ _ _ _ _ _ q=>gt_int q
theorem vn(b:Expr){op:CmpOp}(h:op≠.In:=by decide)(h2:op≠.NotIn:=by decide):behindInMarks op b=false:=by
 have e1:(op==CmpOp.In)=false:=by cases op<;>first | rfl | exact absurd rfl h
 have e2:(op==CmpOp.NotIn)=false:=by cases op<;>first | rfl | exact absurd rfl h2
 cases b<;>simp[behindInMarks,e1,e2]
theorem ae4{op:CmpOp}{r:R2}(ho:aT X (compareOp op) r)(ha:PE X a ta)(hb:PE X b tb)(hm:behindInMarks op b=false):PE X (.Compare a [op] [b] pos) (tOp r ta tb):=by intro pins s σ H Q I h;exact wpAny_Compare1 (ags ha hb I h fun v u s2 x y H2 I2 rx ry q=>ho pins s2 σ H2 x y v u Q I2 rx ry q) hm
def afp(t:TE):TT:=fun σ H Q=>t σ H fun x H'=>∃k,x=.bl k/\Q k H'
theorem af9{op:CmpOp}{r:R2}(ho:aT X (compareOp op) r)(ha:PE X a ta)(hb:PE X b tb)(hm:behindInMarks op b=false):PT X (.Compare a [op] [b] pos) (afp (tOp r ta tb)):=by
 intro pins s σ H Q I h;refine wpAny_isTrue_Compare1 (v4 (ha pins s σ H _ I h) fun v s1 ⟨x,H1,I1,r1,q1⟩=>v4 (hb pins s1 σ H1 _ I1 q1) fun u s2 ⟨y,H2,I2,r2,q2⟩=>
  v4 (ho pins s2 σ H2 x y v u _ I2 r1 r2 q2) fun c s3 ⟨z,H3,I3,r3,k,e,q3⟩=>?_) hm
 subst e;cases r3;exact wpAny_truthy_bool ⟨H3,I3,q3⟩
theorem gq:(sizeLine:Nat)<2 ^ 63:=by rw[sizeLine_eq];decide
theorem uW:aT X (binaryOp .Add) (fun x y H Q=>∃i j,x=.str i/\y=.str j/\i.length+j.length≤sizeLine/\Q (.str (i++j)) H):=by intro pins s σ H x y v u Q I rx ry h;obtain⟨i,j,rfl,rfl,hz,q⟩:=h;obtain⟨t,rfl⟩:=rx;obtain⟨t',rfl⟩:=ry;exact jp I.tk (add_str (fun t' tk ht=>⟨.str (i++j),H,I.tok _,⟨_,rfl⟩,q⟩) hz)
theorem qS{x:V}(r:zn [x] us):∃u,us=[u]/\zq x u:=by cases r with|cons r1 r2=>cases r2;exact⟨_,rfl,r1⟩
theorem ag6{x y:V}(r:zn [x,y] us):∃u w',us=[u,w']/\zq x u/\zq y w':=by
 cases r with
 |cons r1 r2=>
  cases r2 with|cons r3 r4=>cases r4;exact⟨_,_,rfl,r1,r3⟩
theorem yg(hc:X.calm=true):jw X (.builtin "max") (fun xs H Q=>∃i j,xs=[.int i,.int j]/\Q (.int (if j > i then j else i)) H):=by
 intro pins s σ H xs us Q I r h;obtain⟨i,j,rfl,q⟩:=h;obtain⟨u,w',rfl,⟨t,rfl⟩,⟨t',rfl⟩⟩:=ag6 r;refine jp I.tk (max_two_ints (I.ok.hd hc) fun h' tk k ht=>⟨_,H,I.kept k,?_,q⟩);by_cases hj:j > i
 ·rw[AA hj,AA hj];exact⟨_,rfl⟩
 ·rw[As hj,As hj];exact⟨_,rfl⟩
theorem xX(hc:X.calm=true):jw X (.builtin "min") (fun xs H Q=>∃i j,xs=[.int i,.int j]/\Q (.int (if j<i then j else i)) H):=by
 intro pins s σ H xs us Q I r h;obtain⟨i,j,rfl,q⟩:=h;obtain⟨u,w',rfl,⟨t,rfl⟩,⟨t',rfl⟩⟩:=ag6 r;refine jp I.tk (min_two_ints (I.ok.hd hc) fun h' tk k ht=>⟨_,H,I.kept k,?_,q⟩);by_cases hj:j<i
 ·rw[AA hj,AA hj];exact⟨_,rfl⟩
 ·rw[As hj,As hj];exact⟨_,rfl⟩
end
structure ai0(h:Heap)(x dx C:Addr)(mA:Str->Option Value):Prop where
 obj:h.get? x=some (PySem.W.instObj C dx)
 ns:h.Ns1 dx mA
 ne:dx≠x
theorem wW(n:h.Ns1 dx mA):∃od,h.get? dx=some od/\∀name,PySem.W.lookIn name od=some (mA name):=by
 obtain⟨o,es,ep,ho,hd,hk,_,hm⟩:=n;refine⟨o,ho,fun name=>?_⟩;have e:=hm name;unfold nsFind findBy at e;rw[<-Array.find?_toList] at e;unfold PySem.W.lookIn;rw[hd];dsimp only;split
 ·rename_i y q;rw[q] at e;exact BC some e
 ·rename_i q;rw[q] at e;have a:es.toList.any (·.refKey)=false:=by rw[List.any_eq_false];intro y hy;obtain⟨z,t,hkey⟩:=hk y (Array.mem_toList_iff.mp hy);simp[DictEntry.refKey,hkey]
  have a':¬es.toList.any (·.refKey)=true:=by rw[a];exact Ax
  rw[As a'];exact BC some e
theorem ai0.look{x:Addr}(I:ai0 h x dx C mA):∃od,PySem.W.InstAt h x (PySem.W.instObj C dx) C (some od)/\∀name,PySem.W.lookIn name od=some (mA name):=
 let ⟨od,ho,hl⟩:=wW I.ns
 ⟨od,⟨I.obj,rfl,rfl,ho⟩,hl⟩
section
variable {w:World}{K:Af}{x:Addr}{v:Value}
end
theorem gr.some_of{o:Option Value}(r:gr (some v) o):∃u,o=some u/\zq v u:=by cases o with|none=>exact(show False from r).elim|some u=>exact⟨u,rfl,r⟩
abbrev EO:=@gr.some_of
section
variable {P:Program}{w:World}{a:Addr}{fs fs':List (Str×V)}
theorem adk(hok:dN P w H h)(e:H a=some (.ins C dx fs)):∃mA,ai0 h a dx C mA/\(∀f,gr (fs.lookup f) (mA f))/\PySem.Within mA (fs.map (·.1))/\fs.length≤1000/\H dx=some (.own a):=by obtain⟨d,z,ne,ob,mA,n,r,q⟩:=(show jz P w H h a (.ins C dx fs) from hok a _ e);exact⟨mA,⟨ob,n,ne⟩,r,q,z,d⟩
end
structure Cls(K:Af)(C:Addr):Prop where
 pg:PySem.W.plainGet K C Str.empty=true
 hd:PySem.W.hasDictIn K C=true
 po:PySem.W.plainOver K C=true
 sa:PySem.W.findIn K (.ref C) "__setattr__" = some (some (.builtin "object.__setattr__"))
theorem Cls.get{K:Af}(c:Cls K C)(f:Str):PySem.W.plainGet K C f=true:=c.pg
section
variable {a:Addr}{fs:List (Str×V)}{f:Str} 
end
section
variable {f:Str}{tpos:Pos}{ta tv:TE}
end
section
variable {c:Value}{b:Bool}
inductive ip(K:Af)(H:Hp):V->Value->Prop where
 |non:ip K H .non (.type "NoneType")
 |bl (x:Bool):ip K H (.bl x) (.type "bool")
 |int (i:Int):ip K H (.int i) (.type "int")
 |str (x:Str):ip K H (.str x) (.type "str")
 |flt (x:UInt64):ip K H (.flt x) (.type "float")
 |lst {a:Addr} {xs:List V} (e:H a=some (.lst xs)):ip K H (.ref a) (.type "list")
 |frz {a:Addr} {o:Obj} {xs:List V} (e:H a=some (.frz o (.lst xs))):ip K H (.ref a) (.type "list")
 |tup {a:Addr} {xs:List V} (e:H a=some (.tup xs)):ip K H (.ref a) (.type "tuple")
 |dK {a:Addr} {kvs:List (jo×V)} (e:H a=some (.dK kvs)):ip K H (.ref a) (.type "dict")
 |dT {a:Addr} {kvs:List (List jo×V)} (e:H a=some (.dT kvs)):ip K H (.ref a) (.type "dict")
 |ins {a C dx:Addr} {fs:List (Str×V)} (e:H a=some (.ins C dx fs)) (cl:Cls K C) (ha:PySem.W.findIn K (.ref C) "__class__" = some (some (.builtin "object.__class__")))
  (hn:PySem.W.specialIn K (.builtin "object.__class__") "__get__" = some (some (.builtin "getset_descriptor.__get__"))) (htk:PySem.W.takesIn K (.builtin "object.__class__")=some true)
  (hm:PySem.W.mroIn K C (.type "object")=some true):ip K H (.ref a) (.ref C)
theorem ah{x:V}{t:Value}(I:qt X pins σ H s)(rx:zq x u)(ty:ip X.K H x t)(e:PySem.W.kitOne X.K t c=some b)(h:∀tk,Q (.bool b) { s with toks:=tk }):
 wpAny (model X.prog X.w) A (call (.builtin "isinstance") [u,c]) Q E s:=by
 cases ty with
 |non=>cases (show u=Value.none from rx);exact Bi PySem.W.kitx_none I.kIn True.intro e (fun z=>nomatch z) h
 |bl y=>cases (show u=Value.bool y from rx);exact Bi PySem.W.kitx_bool I.kIn True.intro e (fun z=>nomatch z) h
 |int i=>obtain⟨t,q⟩:=(show ∃t,u=Value.int i t from rx);cases q;exact Bi PySem.W.kitx_int I.kIn True.intro e (fun z=>nomatch z) h
 |str y=>obtain⟨t,q⟩:=(show ∃t,u=Value.str y t from rx);cases q;exact Bi PySem.W.kitx_str I.kIn True.intro e (fun z=>nomatch z) h
 |flt y=>obtain⟨t,q⟩:=(show ∃t,u=Value.float y t from rx);cases q;exact Bi PySem.W.kitx_float I.kIn True.intro e (fun z=>nomatch z) h
 |@lst a xs ea=>
  cases (show u=Value.ref a from rx);obtain⟨_,_,n,_,h1⟩:=(show jz X.prog X.w H s.heap a (.lst xs) from I.hok a _ ea);exact Bi CN I.kIn ⟨_,h1,rfl⟩ e (fun z=>nomatch z) h
 |@frz a ob xs ea=>
  cases (show u=Value.ref a from rx);obtain⟨_,_,_,n,_,h1⟩:=(show jz X.prog X.w H s.heap a (.frz ob (.lst xs)) from I.hok a _ ea);exact Bi CN I.kIn ⟨_,h1,rfl⟩ e (fun z=>nomatch z) h
 |@tup a xs ea=>
  cases (show u=Value.ref a from rx);obtain⟨_,_,_,p⟩:=(show jz X.prog X.w H s.heap a (.tup xs) from I.hok a _ ea);obtain⟨o,h1,h2,_⟩:=p;exact Bi DI I.kIn ⟨o,h1,h2⟩ e (fun z=>nomatch z) h
 |@dK a kvs ea=>
  cases (show u=Value.ref a from rx);obtain⟨_,_,vs,_,p⟩:=(show jz X.prog X.w H s.heap a (.dK kvs) from I.hok a _ ea);obtain⟨o,es,ep,h1,h2,_⟩:=p;exact Bi DU I.kIn ⟨o,h1,h2.1⟩ e (fun z=>nomatch z) h
 |@dT a kvs ea=>
  cases (show u=Value.ref a from rx);obtain⟨_,_,xs,_,o,es,ep,h1,h2,_⟩:=(show jz X.prog X.w H s.heap a (.dT kvs) from I.hok a _ ea);exact Bi DU I.kIn ⟨o,h1,h2.1⟩ e (fun z=>nomatch z) h
 |@ins a C dx fs ea cl ha hn htk hm=>
  cases (show u=Value.ref a from rx);obtain⟨mA,O,_⟩:=adk I.hok ea;obtain⟨od,J,_⟩:=O.look;exact Bi (PySem.W.kitx_own (cl.get _) cl.hd ha hn htk hm) I.kIn J e (fun z=>nomatch z) h
end
structure w4(k:Nat)(A:Around):Prop where
 hd:A.handled=none
 dp:A.depth+3*k+5<recursionLimit
 un:A.units+16*k+200<cLine
theorem w4.mono{k:Nat}(r:w4 k A)(h:j≤k):w4 j A:=⟨r.hd,by have:=r.dp;omega,by have:=r.un;omega⟩
theorem w4.deeper{k:Nat}(r:w4 (k+1) A)(env:Env):w4 k (A.deeper env):=
 ⟨r.hd,by have:=r.dp;show A.depth+1+3*k+5<_;omega,by have:=r.un;show A.units+3+16*k+200<_;omega⟩
theorem w4.depth{k:Nat}(r:w4 k A):A.depth<recursionLimit:=by have:=r.dp;omega
def apb:TA:=fun _ H Q=>Q [] H
def akn(ta:TE)(tr:TA):TA:=fun σ H Q=>ta σ H fun x H1=>tr σ H1 fun xs H2=>Q (x::xs) H2
section
variable {te:TE}{t:TA} 
theorem bL:PA X [] apb:=fun _ _ _ _ H Q I h=>Calls.spliced_nil ⟨[],H,I,.nil,h⟩
abbrev Ez(e:Expr)(es:List Expr)(X:Cx):Prop:=starEach (e::es) X.env=(false,eval e X.env)::starEach es X.env
theorem vi(ha:PE X e te)(hr:PA X es t)(hs:Ez e es X:=by rfl):PA X (e::es) (akn te t):=by intro pos pins s σ H Q I h;rw[hs];show wpAny _ _ (spliced ((false,eval e X.env)::backTo pos (starEach es X.env))) _ _ s;refine Calls.spliced_cons (v4 (ha pins s σ H _ I h) fun u s1 ⟨x,H1,I1,r1,q1⟩=>?_);exact v4 (hr pos pins s1 σ H1 _ I1 q1) fun us s2 ⟨xs,H2,I2,r2,q2⟩=>⟨x::xs,H2,I2,.cons r1 r2,q2⟩
def aov(t:TA):TE:=fun σ H Q=>t σ H fun xs H1=>xs.length≤sizeLine/\∀p,H1 p=none->Q (.ref p) (upd H1 p (.tup xs))
def apz(t:TA):TE:=fun σ H Q=>t σ H fun xs H1=>xs.length≤sizeLine/\∀p,H1 p=none->Q (.ref p) (upd H1 p (.lst xs))
theorem ug{x1}(h:PA X es t):PE X (.Tuple es x1 pos) (aov t):=by intro pins s σ H Q I hq;refine wpAny_Tuple_spliced (v4 (h pos pins s σ H _ I hq) fun us s1 ⟨xs,H1,I1,r,z,q⟩=>⟨by rw[<-r.length];exact z,?_⟩);have hf:H1 s1.heap.objs.size=none:=I1.hok.fresh (Am _);refine⟨.ref s1.heap.objs.size,upd H1 s1.heap.objs.size (.tup xs),I1.laid (t':=s1.toks) (fun b u e=>Heap.get?_push_of_some _ e) (Am _) ?_,rfl,q _ hf⟩;exact⟨z,us,r,⟨_,Heap.get?_push_size _ rfl,rfl,_,rfl⟩⟩
theorem ac4(h:PA X es t):PE X (.List es pos) (apz t):=by intro pins s σ H Q I hq;refine wpAny_List_spliced (v4 (h pos pins s σ H _ I hq) fun us s1 ⟨xs,H1,I1,r,z,q⟩=>⟨by rw[<-r.length];exact z,?_⟩);have hf:H1 s1.heap.objs.size=none:=I1.hok.fresh (Am _);refine⟨.ref s1.heap.objs.size,upd H1 s1.heap.objs.size (.lst xs),I1.laid (t':=s1.toks) (fun b u e=>Heap.get?_push_of_some _ e) (Am _) ?_,rfl,q _ hf⟩;exact⟨z,us,0,r,Heap.get?_push_size _ rfl⟩
end
abbrev Sp:=List V->Hp->VK->XK->Prop
abbrev vY:=List Env->Hp->Shared->XK->Value->Shared->Prop
structure aet(P:Program)(w:World)(K:Af)(mg:Str->Option Value)(base:Heap)(A:Around)(outer:List Env)(s:Shared)(H:Hp):Prop where
 frames:A.frames=some outer
 mod:Mod K mg base
 bs:∀b o,base.get? b=some o->s.heap.get? b=some o/\H b=none
 bsz:base.objs.size≤s.heap.objs.size
 funs:s.heap.FunFrames base outer
 frf:∀b∈bE outer,H b=none
 hok:dN P w H s.heap
 bare:AllBare s.gens
 tk:0<s.toks
def CE(outer:List Env)(P:Program)(w:World)(H:Hp)(s:Shared)(Q:VK)(u:Value)(s':Shared):Prop:=
 ∃v H',s'.os=s.os/\AllBare s'.gens/\Un (bE outer) [] H H' s.heap s'.heap/\dN P w H' s'.heap/\zq v u/\Q v H'/\0<s'.toks
def CR(CX:vY)(outer:List Env)(P:Program)(w:World)(H:Hp)(s:Shared)(Q:VK)(E:XK)(r:Result)(s':Shared):Prop:=
 match r with
 |.ok (.ret u)=>CE outer P w H s Q u s'
 |.ok _=>False
 |.error e=>CX outer H s E e s'
structure am(P:Program)(w:World)(K:Af)(mg:Str->Option Value)(base:Heap)(CX:vY)(k:Nat)(f:Addr)(fd:FuncData)(ps:List Str)(sp:Sp):Prop where
 len:∀vs H Q E,sp vs H Q E->vs.length=ps.length
 run:∀(A:Around) (outer:List Env) (s:Shared) (H:Hp) (args:Args) (us:List Value) (vs:List V) (Q:VK) (E:XK),w4 k A->aet P w K mg base A outer s H->BindsTo s fd args (ps.zip us)->zn vs us->sp vs H Q E->
  codeAny (model P w) A (.call (.ref f) args) (CR CX outer P w H s Q E) s
theorem am.mono{P:Program}{w:World}{K:Af}{CX:vY}{k:Nat}{sp:Sp}(F:am P w K mg base CX j f fd ps sp)(h:j≤k):
 am P w K mg base CX k f fd ps sp:=⟨F.len,fun A outer s H args us vs Q E hr=>F.run A outer s H args us vs Q E (hr.mono h)⟩
theorem am.imp{P:Program}{w:World}{K:Af}{CX:vY}{k:Nat}{sp sp':Sp}(F:am P w K mg base CX k f fd ps sp)
 (h:∀vs H Q E,sp' vs H Q E->sp vs H Q E):am P w K mg base CX k f fd ps sp':=
 ⟨fun vs H Q E q=>F.len vs H Q E (h _ _ _ _ q),fun A outer s H args us vs Q E hr he hb hv hs=>F.run A outer s H args us vs Q E hr he hb hv (h _ _ _ _ hs)⟩
section
theorem qt.env0(I:qt X pins σ H s):aet X.prog X.w X.K X.mg X.base X.A X.stack s H:=
 ⟨I.ok.frames,I.ok.mod,I.bs,AU I.ok.bsz I.sz,I.stack,I.stkFree,I.hok,I.bare,I.tk⟩
theorem qt.after{Q:VK}(I:qt X pins σ H s)(h:CE X.stack X.prog X.w H s Q u s'):EP X pins σ Q u s':=by obtain⟨v,H',os,bare,un,hok,r,q,ht⟩:=h;obtain⟨hh,g,d,t,os'⟩:=s';obtain rfl:os'=s.os:=os;exact⟨v,H',I.call (h':=hh) (g':=g) (d':=d) (t':=t) (ch:=[]) un hok bare (fun b z=>absurd z (by simp)),r,q⟩
end
def afs(sp:Sp)(dvs:List V)(E:XK)(t:TA):TE:=fun σ H Q=>t σ H fun vs H1=>sp (vs++dvs) H1 Q E
def dH(K:Af)(fd:FuncData)(ps:List Str)(ds:List Value):Prop:=
 ∀(s:Shared) (us:List Value),K.In s.heap->(us++ds).length=ps.length->BindsTo s fd ⟨us,[]⟩ (ps.zip (us++ds))
theorem dH.all{K:Af}(h:∀us:List Value,us.length=ps.length->bindArgs fd ⟨us,[]⟩=pure (ps.zip us)):dH K fd ps []:=fun s us _ hl=>by rw[AI] at hl ⊢;exact .of_eq (h us hl)
def tD(CX:vY)(X:Cx)(E:XK):Prop:=∀(pins:List (Addr×Obj)) (σ:St) (H:Hp) (s:Shared) (e:Value) (s':Shared),qt X pins σ H s->CX X.stack H s E e s'->X.xe e s'
section
variable {CX:vY}{k:Nat}{sp:Sp}{dvs:List V}{ds:List Value}{E:XK}{m:Str}{ta:TE}{t:TA}
theorem ahr{Q:VK}{vs:List V}(F:am X.prog X.w X.K X.mg X.base CX k f fd ps sp)(hr:w4 k X.A)(hb:dH X.K fd ps ds)(hd:zn dvs ds)(hx:tD CX X E)
 (I:qt X pins σ H s) (r:zn vs us) (h:sp (vs++dvs) H Q E):wpAny (model X.prog X.w) X.A (call (.ref f) us) (EP X pins σ Q) X.xe s:=by
 have r2:zn (vs++dvs) (us++ds):=r.append hd;have hl:(us++ds).length=ps.length:=by rw[<-r2.length];exact F.len _ _ _ _ h
 refine wpAny_call (codeAny_mono (F.run X.A X.stack s H ⟨us,[]⟩ (us++ds) (vs++dvs) Q E hr I.env0 (hb s us I.kIn hl) r2 h) fun r s' hq=>?_);cases r with
 |error e=>exact hx pins σ H s e s' I hq
 |ok fl=>
  cases fl with|ret u=>exact I.after hq|next=>exact False.elim hq|brk=>exact False.elim hq|cont=>exact False.elim hq
abbrev EV(p:Pos)(es:List Expr)(X:Cx):Prop:=(backTo p (starEach es X.env)).any (·.1)=false
theorem acy(F:am X.prog X.w X.K X.mg X.base CX k f fd ps sp)(hr:w4 k X.A)(hg:Gl X x)(hm:X.mg x=some (.ref f))(hk:PySem.W.keepIn X.K (.ref f)=true)(hb:dH X.K fd ps ds)(hd:zn dvs ds)(hx:tD CX X E)
 (ha:PA X (e::es) t) (hdb:EW x:=by decide) (he:Ez e es X:=by rfl) (hpl:EV pos es X:=by rfl):
 PE X (.Call (.Name x p) (e::es) [] pos) (afs sp dvs E t):=by
 intro pins s σ H Q I h;refine wpAny_Call_Name_kw (fk I hg hm ?_ hdb);refine PySem.W.callWith_K (h₀:=X.base) I.ok.mod.kin hk (v4 (ha pos pins s σ H _ I h) fun us s1 ⟨vs,H1,I1,r,q⟩=>⟨I1.kIn,?_⟩) he hpl;exact ahr F hr hb hd hx I1 r q
end
section
variable {CX:vY}{k:Nat}{ks:List Str}{sp:Sp}{E:XK}{m:Str}{kws:List Keyword}{te ta:TE}{t tk:TA}{nm:Option Str}
variable {g:List Value->List Value->List Value}{gV:List V->List V->List V}
end
structure wr(N P:List Str)(sc:Scope):Prop where
 kind:sc.kind=.function
 co:sc.isCoroutine=false
 gen:sc.isGenerator=false
 nd:N.Nodup
 pre:N.take P.length=P
 par:∀x∈P,sc.names.lookup x=some .local\/sc.names.lookup x=some .cell
 nofree:∀y∈sc.names,y.2≠.free
theorem nX{kindOf:Str->Option NameKind}{x:Str}:∀{binds:List (Str×Value)} {m:Str->Option Value},(∀v,(x,v)∉binds)->bindL kindOf binds m x=m x
 |[],_,_=>rfl
 |(n,v)::r,m,h=>by
  unfold bindL;rw[nX fun w hw=>h w (Ag _ hw)];split
  ·have:x≠n:=by rintro rfl;exact h v Aq
   simp[this]
  ·rfl
theorem mW{kindOf:Str->Option NameKind}{x:Str}:∀{binds:List (Str×Value)} {m:Str->Option Value},(∀v,(x,v)∉binds)->bindC kindOf binds m x=m x
 |[],_,_=>rfl
 |(n,v)::r,m,h=>by
  unfold bindC;rw[mW fun w hw=>h w (Ag _ hw)];split
  ·rfl
  ·have:x≠n:=by rintro rfl;exact h v Aq
   simp[this]
theorem m7{kindOf:Str->Option NameKind}{x:Str}{v:Value}:∀{P:List Str} {vs:List Value} {i:Nat} {m:Str->Option Value},P.Nodup->P[i]?=some x->vs[i]?=some v->kindOf x=some .local->
 bindL kindOf (P.zip vs) m x=some v
 |[],_,_,_,_,h,_,_=>by simp at h
 |_::_,[],_,_,_,_,h,_=>by simp at h
 |p::P,w::vs,0,m,nd,h1,h2,hk=>by simp at h1 h2;subst h1;subst h2;show bindL kindOf ((p,w)::P.zip vs) m p=_;unfold bindL;rw[nX fun v hv=>(Av.mp nd).1 (DC hv).1,AA hk];simp
 |p::P,w::vs,i+1,m,nd,h1,h2,hk=>by show bindL kindOf ((p,w)::P.zip vs) m x=_;unfold bindL;exact m7 (i:=i) (Av.mp nd).2 (by simpa using h1) (by simpa using h2) hk
theorem mX{kindOf:Str->Option NameKind}{x:Str}{v:Value}:∀{P:List Str} {vs:List Value} {i:Nat} {m:Str->Option Value},P.Nodup->P[i]?=some x->vs[i]?=some v->kindOf x≠some .local->
 bindC kindOf (P.zip vs) m x=some v
 |[],_,_,_,_,h,_,_=>by simp at h
 |_::_,[],_,_,_,_,h,_=>by simp at h
 |p::P,w::vs,0,m,nd,h1,h2,hk=>by simp at h1 h2;subst h1;subst h2;show bindC kindOf ((p,w)::P.zip vs) m p=_;unfold bindC;rw[mW fun v hv=>(Av.mp nd).1 (DC hv).1,As hk];simp
 |p::P,w::vs,i+1,m,nd,h1,h2,hk=>by show bindC kindOf ((p,w)::P.zip vs) m x=_;unfold bindC;exact mX (i:=i) (Av.mp nd).2 (by simpa using h1) (by simpa using h2) hk
def start(N:List Str)(vs:List V):St:=vs.map some++List.replicate (N.length - vs.length) none
def cz(CX:vY)(P:Program)(w:World)(K:Af)(mg:Str->Option Value)(base:Heap)(N:List Str)(qual:Str)(scope:Scope)(f:Addr)(cd:Value)(A:Around)(outer:List Env)(s:Shared)(H:Hp)(E:XK):Cx where
 prog:=P
 w:=w
 K:=K
 mg:=mg
 base:=base
 A:=A.deeper (envOfC qual scope s.heap.objs.size f cd)
 N:=N
 s₀:=s
 H₀:=H
 env:=envOfC qual scope s.heap.objs.size f cd
 outer:=outer
 stack:=envOfC qual scope s.heap.objs.size f cd::outer
 ex:=[]
 calm:=true
 fn:=fun _=>true
 pn:=[]
 xe:=fun e s'=>wpAny (model P w) (A.deeper (envOfC qual scope s.heap.objs.size f cd)) (leaving (envOfC qual scope s.heap.objs.size f cd) e) (fun _ s''=>CX outer H s E e s'') (fun e' s''=>CX outer H s E e' s'') s'
theorem sh{sc:Scope}(h:sc.names.lookup x=some .cell):∃c,(cellsFrom n sc.names []).lookup x=some c:=by have q:=Ej sc.names n [] (.inl h);exact Option.isSome_iff_exists.mp q
theorem wT{CX:vY}{P:Program}{w:World}{K:Af}{N:List Str}{s1:Shared}{E:XK}{vs:List V}
 (S:wr N ps scope) (hd:A.handled=none) (e0:aet P w K mg base A outer s H) (hl:vs.length=ps.length) (r:zn vs us)
 (x:InCallC s s.heap.objs.size (bindL (envOfC qual scope s.heap.objs.size f cd).kindOf (ps.zip us) fun _=>none) (cellsFrom (s.heap.objs.size+1) scope.names []) (bindC (envOfC qual scope s.heap.objs.size f cd).kindOf (ps.zip us) fun _=>none) s1) (ht:0<s1.toks):
 qt (cz CX P w K mg base N qual scope f cd A outer s H E) [] (start N vs) H s1:=by
 have hpl:ps.length≤N.length:=by have:=BC List.length S.pre;rw[AL] at this;omega
 obtain⟨h1,tk,rfl,hk⟩:=x.done;have noA:∀b:Addr,b∉(cz CX P w K mg base N qual scope f cd A outer s H E).ex:=fun b z=>absurd (show b∈([]:List Addr) from z) (by simp);refine⟨⟨e0.mod,S.kind,rfl,rfl,Am _,fun y z c h1 h2=>?_,fun y hy=>?_,fun y c _ h=>?_,fun _=>hd,Around.frames_deeper e0.frames,.inr ⟨rfl,rfl⟩,fun b z=>absurd z (noA b),e0.bs,e0.bsz,fun b _ _=>noA b,fun b z=>absurd z (noA b),e0.funs,e0.frf⟩,
  rfl,e0.bare,Un.kept hk,⟨_,x.toInCall.ns,fun i y v h1 h2 h3=>?_⟩,fun y c h=>⟨_,x.cell y c h⟩,e0.hok.fresh (Am _),fun y c h=>?_,fun p hp=>absurd (show p∈([]:List (Addr×Obj)) from hp) (by simp),e0.hok.kept hk,?_,ht⟩
 ·exact name_of_addr x.apart (Bu h1) (Bu h2)
 ·have hy:scope.names.lookup y=some .cell\/scope.names.lookup y=some .free:=hy;rcases hy with hy | hy
  ·exact sh hy
  ·exact absurd rfl (S.nofree _ (Bu hy))
 ·exact Bd (x.above y c (Bu h))
 ·have hi:i<vs.length:=by
   unfold start at h2;by_cases hi:i<vs.length
   ·exact hi
   ·rw[Ak (by simpa using hi)] at h2;rw[Cv] at h2;split at h2<;>cases h2
  have ha:vs[i]?=some v:=by unfold start at h2;rw[Az (by simpa using hi),Ar] at h2;cases e:vs[i]? with|none=>rw[e] at h2;cases h2|some a=>rw[e] at h2;cases h2;rfl
  obtain⟨u,hu,rv⟩:=r.get ha;have hp:ps[i]?=some y:=by rw[<-S.pre,DZ (by omega)];exact h1
  have ndP:ps.Nodup:=by rw[<-S.pre];exact S.nd.sublist (DV _ _)
  refine⟨u,rv,?_⟩;rcases S.par y (AR hp) with k | k
  ·exact .inl ⟨k,m7 ndP hp hu k⟩
  ·obtain⟨c,e⟩:=sh (n:=s.heap.objs.size+1) k;refine .inr ⟨.inl k,c,e,?_⟩;have q:=x.cell y c e;rw[mX ndP hp hu (by show scope.names.lookup y≠_;rw[k];decide)] at q;exact q
 ·exact e0.hok.fresh (Bd (x.above y c (Bu h)))
 ·unfold start;show _=N.length;rw[Ac,Ae,BV];omega
theorem aa2{CX:vY}{P:Program}{w:World}{K:Af}{k:Nat}{params:Arguments}{dV kV ct:Value}
 {N:List Str} {sp:Sp} (lk:K.lookup f=some ⟨oc,od,.func (PySem.W.fnOf name qual params body scope dV kV doc pm an cdv ct),osl⟩) (hcd:PySem.W.codeIn K cdv qual=true) (S:wr N ps scope)
 (len:∀vs H Q E,sp vs H Q E->vs.length=ps.length)
 (hbody:∀(A:Around) (outer:List Env) (s:Shared) (H:Hp) (vs:List V) (Q:VK) (E:XK),w4 k (A.deeper (envOfC qual scope s.heap.objs.size f cdv))->sp vs H Q E->
  ∃t,iM (cz CX P w K mg base N qual scope f cdv A outer s H E) body t/\t { nx:=fun _ H'=>Q .non H',rt:=Q } (start N vs) H):
 am P w K mg base CX (k+1) f (PySem.W.fnOf name qual params body scope dV kV doc pm an cdv ct) ps sp:=by
 refine⟨len,fun A outer s H args us vs Q E hr e0 hb r hsp=>?_⟩;have hl:=len _ _ _ _ hsp;have KX:K.In s.heap:=e0.mod.kin.keeps fun b o e=>(e0.bs b o e).1;have lim:s.heap.NoLimit:=e0.mod.nolimit.keeps fun b o e=>(e0.bs b o e).1;have hkind:∀y∈ps.zip us,scope.names.lookup y.1=some .local\/(scope.names.lookup y.1=some .cell/\((cellsFrom (s.heap.objs.size+1) scope.names []).lookup y.1).isSome=true):=fun⟨n,v⟩ hy=>by
  rcases S.par n (DC hy).1 with q | q
  ·exact .inl q
  ·exact .inr ⟨q,Ej _ _ _ (.inl q)⟩
 refine codeAny_call_function hr.depth (KX _ _ lk) rfl S.co S.gen rfl (PySem.W.codeRec_of KX hcd) (hb _ _ _ _ ?_);refine jp e0.tk (wpAny_newFunctionEnv_cells S.kind hkind fun env he s1 x htk=>?_);subst he;refine⟨lim.keeps x.toInCall.keep,codeAny_func ?_⟩;obtain⟨t,ht,hq⟩:=hbody A outer s H vs Q E (hr.deeper _) hsp;have I:qt (cz CX P w K mg base N qual scope f cdv A outer s H E) [] (start N vs) H s1:=wT S hr.hd e0 hl r x htk;refine AV (ht [] s1 (start N vs) H _ I hq) (fun fl s' hs=>?_) fun e s' hs=>hs;have vk:∀{σ':St} {H':Hp} {v:V} {u:Value},qt (cz CX P w K mg base N qual scope f cdv A outer s H E) [] σ' H' s'->zq v u->Q v H'->CE outer P w H s Q u s':=
  fun {σ' H' v u} J rv q=>⟨v,H',J.os,J.bare,J.base,J.hok,rv,q,J.tk⟩
 cases fl with
 |ret u=>
  obtain⟨v,σ',H',J,rv,q⟩:=hs;exact vk J rv q
 |next=>
  obtain⟨σ',H',J,q⟩:=hs;exact vk (v:=V.non) (u:=Value.none) J rfl q
 |brk=>
  obtain⟨_,_,_,q⟩:=hs;exact False.elim q
 |cont=>
  obtain⟨_,_,_,q⟩:=hs;exact False.elim q
end L2
variable {sp:L2.Sp}
namespace L2
open PySem PySem.Spec PyProof.Rows
section
variable {t:TA}{id T:String}{r:List V->Hp->VK->Prop}
def tCB(r:List V->Hp->VK->Prop)(t:TA):TE:=fun σ H Q=>t σ H fun vs H1=>r vs H1 Q
theorem eF(hc:jw X (.builtin id) r)(hg:Gl X x)(hm:X.mg x=none)(hv:bootBuiltins x=some (.builtin id))(ha:PA X (e::es) t)(hn:x ≠ "__name__" := by decide)(hdb:EW x:=by decide)
 (he:Ez e es X:=by rfl) (hpl:EV pos es X:=by rfl):PE X (.Call (.Name x p) (e::es) [] pos) (tCB r t):=by
 intro pins s σ H Q I h;refine wpAny_Call_Name_kw (fN I hg hm hv ?_ hn hdb);exact PyProof.Rows.callWith_builtin1 (v4 (ha pos pins s σ H _ I h) fun us s1 ⟨vs,H1,I1,r1,q1⟩=>hc pins s1 σ H1 vs us Q I1 r1 q1) he hpl
theorem iC(hc:jw X (.type T) r)(hg:Gl X x)(hm:X.mg x=none)(hv:bootBuiltins x=some (.type T))(ha:PA X (e::es) t)(hn:x ≠ "__name__" := by decide)(hdb:EW x:=by decide)
 (he:Ez e es X:=by rfl) (hpl:EV pos es X:=by rfl):PE X (.Call (.Name x p) (e::es) [] pos) (tCB r t):=by
 intro pins s σ H Q I h;refine wpAny_Call_Name_kw (fN I hg hm hv ?_ hn hdb);exact BX (v4 (ha pos pins s σ H _ I h) fun us s1 ⟨vs,H1,I1,r1,q1⟩=>hc pins s1 σ H1 vs us Q I1 r1 q1) he hpl
end
section
variable [DecidableEq κ]
def fM(kvs:List (κ×V))(k:κ):Option V:=(kvs.find? fun kv=>decide (kv.1=k)).map (·.2)
def dS(kvs:List (κ×V))(k:κ)(v:V):List (κ×V):=
 if (kvs.any fun kv=>decide (kv.1=k))=true then kvs.map (fun kv=>if kv.1=k then(kv.1,v) else kv) else kvs++[(k,v)]
theorem kX{p:κ×V}{r:List (κ×V)}{k:κ}(e:p.1=k):fM (p::r) k=some p.2:=by simp[fM,BF,e]
theorem kH{p:κ×V}{r:List (κ×V)}{k:κ}(e:¬p.1=k):fM (p::r) k=fM r k:=by simp[fM,BF,e]
theorem sg(k:κ):∀kvs:List (κ×V),(kvs.any fun kv=>decide (kv.1=k))=(fM kvs k).isSome
 |[]=>rfl
 |p::r=>by
  rw[Cq];by_cases e:p.1=k
  ·simp only[kX e,AE e,Bool.true_or,DJ]
  ·rw[kH e,Au e,Bool.false_or];exact sg k r
theorem dh(kvs:List (κ×V))(k:κ)(v:V):(dS kvs k v).length≤kvs.length+1:=by
 unfold dS;split
 ·rw[Ae];omega
 ·rw[Ac,AF,Eo];omega
theorem gr.isSome_eq{o:Option V}{u:Option Value}(r:gr o u):o.isSome=u.isSome:=by
 cases o with
 |none=>cases u with|none=>rfl|some _=>exact(show False from r).elim
 |some _=>cases u with|none=>exact(show False from r).elim|some _=>rfl
theorem KV.val{kvs:List (κ×V)}{vs:List (κ×Value)}(r:KV kvs vs)(k:κ):gr (fM kvs k) (valueAt vs k):=by
 unfold KV at r
 induction r with
 |nil=>exact True.intro
 |@cons p q ps qs h t ih=>
  obtain⟨h1,h2⟩:=h;by_cases e:p.1=k
  ·have e':q.1=k:=h1.symm.trans e;have b:valueAt (q::qs) k=some q.2:=by simp[valueAt,BF,e']
   rw[kX e,b];exact h2
  ·have e':¬q.1=k:=fun z=>e (h1.trans z);have b:valueAt (q::qs) k=valueAt qs k:=by simp[valueAt,BF,e']
   rw[kH e,b];exact ih
theorem KV.any{kvs:List (κ×V)}{vs:List (κ×Value)}(r:KV kvs vs)(k:κ):(kvs.any fun kv=>decide (kv.1=k))=vs.any fun kv=>decide (kv.1=k):=by
 unfold KV at r
 induction r with|nil=>rfl|cons h t ih=>rw[Cq,Cq,ih,h.1]
theorem KV.repl{kvs:List (κ×V)}{vs:List (κ×Value)}(r:KV kvs vs)(k:κ){y:V}(ry:zq y u):
 KV (kvs.map fun kv=>if kv.1=k then(kv.1,y) else kv) (vs.map fun kv=>if kv.1=k then(kv.1,u) else kv):=by
 unfold KV at r ⊢
 induction r with
 |nil=>exact .nil
 |@cons p q ps qs h t ih=>
  rw[AD,AD];refine .cons ?_ ih;obtain⟨h1,h2⟩:=h;by_cases e:p.1=k
  ·rw[AA e,AA (h1.symm.trans e)];exact⟨h1,ry⟩
  ·rw[As e,As (fun z=>e (h1.trans z))];exact⟨h1,h2⟩
theorem KV.put{kvs:List (κ×V)}{vs:List (κ×Value)}(r:KV kvs vs)(k:κ){y:V}(ry:zq y u):KV (dS kvs k y) (stored vs k u):=by
 unfold dS stored;rw[r.any k];by_cases e:(vs.any fun kv=>decide (kv.1=k))=true
 ·rw[AA e,AA e];exact r.repl k ry
 ·rw[As e,As e];exact Paired.snoc r ⟨rfl,ry⟩
theorem KV.length{kvs:List (κ×V)}{vs:List (κ×Value)}(r:KV kvs vs):kvs.length=vs.length:=Paired.length r
end
theorem m9{P:Program}{w:World}{k:jo}(r:zq (kV k) u):(xt P w).is k u=true:=by
 cases k with
 |inl i=>obtain⟨t,e⟩:=(show ∃t,u=Value.int i t from r);subst e;exact rC P w i t
 |inr x=>obtain⟨t,e⟩:=(show ∃t,u=Value.str x t from r);subst e;exact qV P w x t
theorem m8{P:Program}{w:World}:∀{ks:List jo} {us:List Value},zn (ks.map kV) us->ItemsAre (xt P w) ks us
 |[],_,r=>by rw[Dm] at r;cases r;exact .nil
 |k::ks,_,r=>by rw[AD] at r;cases r with|cons h t=>exact .cons (m9 h) (m8 t)
abbrev KT(H:Hp):List (List jo×V)->List (List jo×Addr×Value)->Prop:=Paired fun p q=>p.1=q.1/\H q.2.1=some (.tup (p.1.map kV))/\zq p.2 q.2.2
theorem KT.val{xs:List (List jo×Addr×Value)}(r:KT H kvs xs)(k:List jo):gr (fM kvs k) ((atKey xs k).map (·.2)):=by
 induction r with
 |nil=>exact True.intro
 |@cons p q ps qs h t ih=>
  obtain⟨h1,_,h2⟩:=h;by_cases e:p.1=k
  ·have e':q.1=k:=h1.symm.trans e;have b:atKey (q::qs) k=some q.2:=by simp[atKey,BF,e']
   rw[kX e,b];exact h2
  ·have e':¬q.1=k:=fun z=>e (h1.trans z);have b:atKey (q::qs) k=atKey qs k:=by simp[atKey,BF,e']
   rw[kH e,b];exact ih
theorem KT.repl{xs:List (List jo×Addr×Value)}(r:KT H kvs xs)(k:List jo){y:V}(ry:zq y u):
 KT H (kvs.map fun kv=>if kv.1=k then(kv.1,y) else kv) (xs.map (putAt k u)):=by
 induction r with
 |nil=>exact .nil
 |@cons p q ps qs h t ih=>
  rw[AD,AD];refine .cons ?_ ih;obtain⟨h1,h2,h3⟩:=h;unfold putAt;by_cases e:p.1=k
  ·rw[AA e,AA (h1.symm.trans e)];exact⟨h1,h2,ry⟩
  ·rw[As e,As (fun z=>e (h1.trans z))];exact⟨h1,h2,h3⟩
theorem KT.put{xs:List (List jo×Addr×Value)}(r:KT H kvs xs)(k:List jo){b:Addr}{y:V}(hb:H b=some (.tup (k.map kV)))(ry:zq y u):
 KT H (dS kvs k y) (storedH xs k b u):=by
 have e:(kvs.any fun kv=>decide (kv.1=k))=(atKey xs k).isSome:=by rw[sg,(r.val k).isSome_eq,Option.isSome_map]
 unfold dS storedH;rw[e];by_cases q:(atKey xs k).isSome=true
 ·rw[AA q,AA q];exact r.repl k ry
 ·rw[As q,As q];exact Paired.snoc r ⟨rfl,hb,ry⟩
theorem KT.keeps{xs:List (List jo×Addr×Value)}(r:KT H kvs xs)(ht:∀b ys,H b=some (.tup ys)->H' b=some (.tup ys)):KT H' kvs xs:=
 EI r fun _ _ z=>⟨z.1,ht _ _ z.2.1,z.2.2⟩
section
variable {P:Program}{w:World}{a:Addr}
theorem age{u:HO}(ok:dN P w H h)(e:Rd H a u):jz P w H h a u:=e.ok ok
theorem wA{kvs:List (jo×V)}(ok:dN P w H h)(e:Rd H a (.dK kvs)):kvs.length≤sizeLine/\(a==sysModules)=false/\∃vs,KV kvs vs/\h.DictOf (xt P w) a vs:=
 show jz P w H h a (.dK kvs) from age ok e
theorem agd{kvs:List (jo×V)}(ok:dN P w H h)(e:H a=some (.dK kvs)):kvs.length≤sizeLine/\(a==sysModules)=false/\∃vs,KV kvs vs/\h.DictOf (xt P w) a vs:=wA ok (.inl e)
theorem tI{ks:List jo}(ok:dN P w H h)(e:H a=some (.tup (ks.map kV))):(tupleKind (xt P w)).is h ks a:=by obtain⟨_,its,r,o,h1,h2,n,h3⟩:=(show jz P w H h a (.tup (ks.map kV)) from ok a _ e);exact⟨o,its.toArray,n,h1,h2,h3,by simpa using m8 r⟩
theorem aa3(ok:dN P w H h)(e:Rd H a (.dT kvs)):kvs.length≤sizeLine/\(a==sysModules)=false/\
 ∃xs,KT H kvs xs/\h.DictOfH (tupleKind (xt P w)) a xs:=by
 obtain⟨z,y,xs,r,o,es,ep,h1,h2,h3,h4,h5⟩:=(show jz P w H h a (.dT kvs) from age ok e);refine⟨z,y,xs,r,o,es,ep,h1,h2,h3,h4,fun x hx=>?_,h5⟩;have all:∀{l:List (List jo×V)} {m:List (List jo×Addr×Value)},KT H l m->∀x∈m,(tupleKind (xt P w)).is h x.1 x.2.1:=by
  intro l m q
  induction q with
  |nil=>intro x hx;exact nomatch hx
  |@cons p q ps qs hq t ih=>
   intro x hx;rcases Ap.mp hx with e | hx
   ·subst e;exact tI ok (by rw[<-hq.1];exact hq.2.1)
   ·exact ih x hx
 exact all r x hx
theorem amy(ok:dN P w H h)(e:H a=some (.dT kvs)):kvs.length≤sizeLine/\(a==sysModules)=false/\
 ∃xs,KT H kvs xs/\h.DictOfH (tupleKind (xt P w)) a xs:=aa3 ok (.inl e)
end
def aiv(H:Hp)(a:Addr)(y:V)(r:Option V):Prop:=
 (∃kvs k,Rd H a (.dK kvs)/\y=kV k/\r=fM kvs k)\/∃kvs k b,Rd H a (.dT kvs)/\y=.ref b/\H b=some (.tup (k.map kV))/\r=fM kvs k
def am6(H:Hp)(a:Addr)(y v:V)(H':Hp):Prop:=
 (∃kvs k,H a=some (.dK kvs)/\y=kV k/\kvs.length<sizeLine/\H'=upd H a (.dK (dS kvs k v)))\/
 ∃kvs k b,H a=some (.dT kvs)/\y=.ref b/\H b=some (.tup (k.map kV))/\kvs.length<sizeLine/\H'=upd H a (.dT (dS kvs k v))
section
variable {a:Addr}{y:V}{r:Value}{o:Option V} 
theorem qt.big(I:qt X pins σ H s):sysModules<s.heap.objs.size:=by have h:mainGlobals<s.heap.objs.size:=(I.mod.glob.keeps I.bk).lt;exact Dn (by decide) h
theorem yU(hu:A.units+1<cLine)(I:qt X pins σ H s)(g:aiv H a y (some v))(ry:zq y u)(h:∀w' s',qt X pins σ H s'->zq v w'->Q w' s'):
 wpAny (model X.prog X.w) A (getItem (.ref a) u) Q E s:=by
 rcases g with⟨kvs,k,e,ey,l⟩ | ⟨kvs,k,b,e,ey,eb,l⟩
 ·subst ey;obtain⟨z,hd,vs,rel,dd⟩:=wA I.hok e;obtain⟨w',hw,rw'⟩:=EO (v:=v) (o:=valueAt vs k) (by rw[l];exact rel.val k);exact wpAny_getItem_of (m9 ry) dd.mapOf hw (h w' _ (I.tok _) rw')
 ·subst ey;cases (show u=Value.ref b from ry);obtain⟨z,hd,xs,rel,dd⟩:=aa3 I.hok e;obtain⟨w',hw,rw'⟩:=EO (v:=v) (o:=(atKey xs k).map (·.2)) (by rw[l];exact rel.val k);obtain⟨p,hp,hp2⟩:=Ay.mp hw;refine wpAny_getItem_heap (tupleKind_room_in1 hu) (tI I.hok eb) dd hp ?_;rw[hp2];exact h w' _ (I.tok _) rw'
theorem oW{ob:HO}(I:qt X pins σ H s)(mu:Mut (H a))(hs:Heap.SameBut a s.heap h')(he:∃q,h'.get? a=some q)(new:jz X.prog X.w (upd H a ob) h' a ob)(ht:0<t':=by walk_at "t"):
 qt X pins σ (upd H a ob) { s with heap:=h',toks:=t' }:=
 I.write (x:=a) (e:=a) mu (.inl rfl) (fun b q hb z=>(hs.2 b hb).trans z) he new
theorem zB{P:Program}{w:World}{kvs:List (jo×V)}{vs:List (jo×Value)}(z:kvs.length≤sizeLine)(hd:(a==sysModules)=false)(rel:KV kvs vs)(dd:h'.DictOf (xt P w) a vs):
 jz P w H' h' a (.dK kvs):=⟨z,hd,vs,rel,dd⟩
theorem xW{Q:Unit->Shared->Prop}(hu:A.units+1<cLine)(I:qt X pins σ H s)(g:am6 H a y v H')(ry:zq y u)(rv:zq v r)(h:∀s',qt X pins σ H' s'->Q () s'):
 wpAny (model X.prog X.w) A (setItem (.ref a) u r) Q E s:=by
 rcases g with⟨kvs,k,e,ey,l,eH⟩ | ⟨kvs,k,b,e,ey,eb,l,eH⟩
 ·subst ey eH;obtain⟨z,hd,vs,rel,dd⟩:=agd I.hok e;have hz:vs.length≤sizeLine:=by rw[<-rel.length];exact z
  have hl:(dS kvs k v).length≤sizeLine:=by have:=dh kvs k v;omega
  refine wpAny_setItem_pairs (hsz:=hz) (m9 ry) dd fun h' dd' hs=>h _ ?_;have he:∃q,h'.get? a=some q:=let ⟨q,_,_,hq,_⟩:=dd';⟨q,hq⟩;exact oW I (by rw[e];exact True.intro) hs he (zB hl hd (rel.put k rv) dd')
 ·subst ey eH;cases (show u=Value.ref b from ry);obtain⟨z,hd,xs,rel,dd⟩:=amy I.hok e;have hz:xs.length≤sizeLine:=by rw[<-Paired.length rel];exact z
  have hl:(dS kvs k v).length≤sizeLine:=by have:=dh kvs k v;omega
  refine wpAny_setItem_heap (hsz:=hz) (tupleKind_room_in1 hu) (tI I.hok eb) dd fun h' dd' hs=>h _ ?_;obtain⟨q,es,ep,hq,h2,h3,h4,_,h5⟩:=dd';refine oW I (by rw[e];exact True.intro) hs ⟨q,hq⟩ ⟨hl,hd,_,(rel.put k eb rv).keeps fun c ys ec=>?_,q,es,ep,hq,h2,h3,h4,h5⟩;rw[qp (alq ec e (fun z=>nomatch z))];exact ec
end
section
variable {a:Addr}{kvs:List (jo×V)}{k:jo} 
end
def aj2(i:Expr):Prop:=∀ov iv,subscripted i false ov iv=operate [ov,iv] (getItem ov iv)
theorem af1{w:World}{slice:Expr}{T id:String}
 (hl:typeLookup (.type T) "__getitem__" = pure (some (.builtin id))) (hs:aj2 slice)
 (h:wpAny (model prog w) A (eval value env) (fun o s₁=>wpAny (model prog w) A (eval slice env) (fun i s₂=>s₂.TypeIs o T/\wpAny (model prog w) A (getItem o i) Q E s₂) E s₁) E s):
 wpAny (model prog w) A (eval (.Subscript value slice pos) env) Q E s:=by
 refine Subscript_ (AV h (fun o s₁ h₁=>AV h₁ (fun i s₂ h₂=>?_) fun _ _ x=>x) fun _ _ x=>x);obtain⟨hT,h₂⟩:=h₂;unfold subscriptTail;refine Aa ?_;rw[getitemInPython_of_ne hT.not_modules];refine Aa (wpAny_specialOf hT hl ?_);have vk:wpAny (model prog w) A (subscripted slice false o i) (fun r s₃=>wpAny (model prog w) A (letTemporaryGo value o r >>= fun _=>pure r) Q E s₃) E s₂:=by rw[hs o i];exact wpAny_operating (AV h₂ (fun r s₃ h₃=>Aa (wpAny_letTemporaryGo (Ai h₃))) fun _ _ x=>x)
 first
  |exact Ai (Aa vk)
  |exact Aa (Ai (Aa vk))
  |exact Aa vk
theorem qW{a:Addr}{y:V}{o:Option V}(I:qt X pins σ H s)(g:aiv H a y o):s.TypeIs (.ref a) "dict" := by
 rcases g with⟨kvs,k,e,_,_⟩ | ⟨kvs,k,b,e,_,_,_⟩
 ·obtain⟨_,_,vs,_,dd⟩:=wA I.hok e;exact dd.typeIs
 ·obtain⟨_,_,xs,_,dd⟩:=aa3 I.hok e;exact dd.typeIs
def akt(td ty:TE):TE:=fun σ H Q=>td σ H fun x H1=>ty σ H1 fun y H2=>∃a v,x=.ref a/\aiv H2 a y (some v)/\Q v H2
def amu(td ty tv:TE):TS:=fun D σ H=>tv σ H fun v H1=>td σ H1 fun x H2=>ty σ H2 fun y H3=>∃a H4,x=.ref a/\am6 H3 a y v H4/\D.nx σ H4
section
variable {i:Expr}{tpos:Pos}{td ty tv:TE}
theorem ad7(hu:X.A.units+1<cLine)(ho:PE X o td)(hi:PE X i ty)(hs:aj2 i):PE X (.Subscript o i pos) (akt td ty):=by intro pins s σ H Q I h;refine af1 DS.lookup hs (v4 (ho pins s σ H _ I h) fun u s1 ⟨x,H1,I1,rx,q1⟩=>v4 (hi pins s1 σ H1 _ I1 q1) fun iv s2 ⟨y,H2,I2,ry,a,v,ex,g,q2⟩=>?_);subst ex;obtain rfl:u=Value.ref a:=rx;exact⟨qW I2 g,yU hu I2 g ry fun w' s3 I3 rw'=>⟨v,H2,I3,rw',q2⟩⟩
theorem ae8(hu:X.A.units+1<cLine)(ho:PE X o td)(hi:PE X i ty)(hv:PE X value tv)(hs:swapsWith value (some (.Subscript o i pos')) pos.line X.env=pure false):
 PS X (.Assign [.Subscript o i pos'] value pos) (amu td ty tv):=by
 intro pins s σ H D I h;refine wpAny_Assign_Subscript (v4 (hv pins s σ H _ I h) fun r s1 ⟨v,H1,I1,rv,q1⟩=>v4 (ho pins s1 σ H1 _ I1 q1) fun u s2 ⟨x,H2,I2,rx,q2⟩=>v4 (hi pins s2 σ H2 _ I2 q2) fun iv s3 ⟨y,H3,I3,ry,a,H4,ex,g,q3⟩=>?_) hs;subst ex;obtain rfl:u=Value.ref a:=rx;exact xW hu I3 g ry rv fun s4 I4=>⟨σ,H4,I4,q3⟩
end
theorem rq{P:Program}{w:World}(h:Heap)(hb:sysModules<h.objs.size):jz P w H (h.push { cls:=.type "dict",data:=.dict #[] }) h.objs.size (.dK []):=
 ⟨Bk _,beq_eq_false_iff_ne.mpr (AK (A2 hb)),[],.nil,Heap.DictOf.new h⟩
def ah0:TE:=fun _ H Q=>∀p,H p=none->Q (.ref p) (upd H p (.dK []))
section
theorem aaf:PE X (.Dict [] [] pos) ah0:=fun pins s σ H Q I h=>
 wpAny_Dict_empty ⟨.ref s.heap.objs.size,_,I.laid (a:=s.heap.objs.size) (o:=.dK []) (t':=s.toks) (fun _ _ q=>Heap.get?_push_of_some _ q) (Am _) (rq s.heap I.big),rfl,h _ (I.hok.fresh (Am _))⟩
end
def o7:List (TE×TE)->St->Hp->(List (V×V)->Hp->Prop)->Prop
 |[],_,H,Q=>Q [] H
 |(tk,tv)::r,σ,H,Q=>tk σ H fun x H1=>tv σ H1 fun y H2=>o7 r σ H2 fun ps H3=>Q ((x,y)::ps) H3
abbrev VV:List (V×V)->List (Value×Value)->Prop:=Paired fun p q=>zq p.1 q.1/\zq p.2 q.2
def PPs(X:Cx)(pos:Pos)(keys:List (Option Expr))(values:List Expr)(trs:List (TE×TE)):Prop:=
 ∀(pins:List (Addr×Obj)) (s:Shared) (σ:St) (H:Hp) (Q:List (V×V)->Hp->Prop),qt X pins σ H s->o7 trs σ H Q->
  wpAny (model X.prog X.w) X.A (evalPairs (pairTrees keys values X.env pos)) (fun vs s'=>∃ps H',qt X pins σ H' s'/\VV ps vs/\Q ps H') X.xe s
theorem aec :PPs X pos [] [] []:=fun pins s σ H Q I h=>pairTrees_nil_walk ⟨[],H,I,.nil,h⟩
theorem gF{k v:Expr}{ks:List (Option Expr)}{vs:List Expr}{tk tv:TE}{trs:List (TE×TE)}(hk:PE X k tk)(hv:PE X v tv)(hr:PPs X pos ks vs trs):
 PPs X pos (some k::ks) (v::vs) ((tk,tv)::trs):=fun pins s σ H Q I h=>
 pairTrees_cons_walk (v4 (hk pins s σ H _ I h) fun u s1 ⟨x,H1,I1,rx,q1⟩=>v4 (hv pins s1 σ H1 _ I1 q1) fun w2 s2 ⟨y,H2,I2,ry,q2⟩=>
  v4 (hr pins s2 σ H2 _ I2 q2) fun ws s3 ⟨ps,H3,I3,rel,q3⟩=>⟨(x,y)::ps,H3,I3,.cons ⟨rx,ry⟩ rel,q3⟩)
def gn(kvs more:List (jo×V)):List (jo×V):=more.foldl (fun acc kv=>dS acc kv.1 kv.2) kvs
theorem KV.merge:∀{more:List (jo×V)} {rs:List (jo×Value)} {kvs:List (jo×V)} {vs:List (jo×Value)},KV more rs->KV kvs vs->KV (gn kvs more) (merged vs rs):=by
 intro more rs kvs vs r;unfold KV at r
 induction r generalizing kvs vs with
 |nil=>intro q;exact q
 |@cons p q ps qs h t ih=>
  intro r0;have e:KV (dS kvs p.1 p.2) (stored vs q.1 q.2):=by have:=r0.put p.1 h.2;rw[<-h.1];exact this
  exact ih e
theorem fK:∀(more kvs:List (jo×V)),(gn kvs more).length≤kvs.length+more.length
 |[],kvs=>by show kvs.length≤kvs.length+0;omega
 |p::r,kvs=>by have h1:=fK r (dS kvs p.1 p.2);have h2:=dh kvs p.1 p.2;show(gn (dS kvs p.1 p.2) r).length≤_;rw[AF];omega
theorem kJ{P:Program}{w:World}:∀{kvs:List (jo×V)} {ws:List (Value×Value)},VV (kvs.map fun kv=>(kV kv.1,kv.2)) ws->∃rs,Carries (xt P w) ws rs/\KV kvs rs
 |[],_,r=>by rw[Dm] at r;cases r;exact⟨[],True.intro,.nil⟩
 |p::kvs,_,r=>by
  rw[AD] at r;cases r with
  |@cons a b as bs h t=>
   obtain⟨rs,c,q⟩:=kJ (P:=P) (w:=w) t;obtain⟨b1,b2⟩:=b;exact⟨(p.1,b2)::rs,⟨m9 h.1,rfl,c⟩,.cons ⟨rfl,h.2⟩ q⟩
def amv(trs:List (TE×TE)):TE:=fun σ H Q=>∀p,H p=none->o7 trs σ (upd H p (.dK [])) fun ps H2=>H2 p=some (.dK [])/\∃kvs:List (jo×V),ps=kvs.map (fun kv=>(kV kv.1,kv.2))/\kvs.length≤15/\Q (.ref p) (upd H2 p (.dK (gn [] kvs)))
theorem adg{keys:List (Option Expr)}{values:List Expr}{trs:List (TE×TE)}(h:PPs X pos keys values trs)(hall:keys.all (·.isSome)=true)(hl:keys.length=values.length)(h0:keys≠[])
 (h15:keys.length≤15):PE X (.Dict keys values pos) (amv trs):=by
 intro pins s σ H Q I q;have hn:=I.hok.fresh (Am s.heap.objs.size);have I1:=I.laid (a:=s.heap.objs.size) (o:=.dK []) (h':=s.heap.push { cls:=.type "dict",data:=.dict #[] }) (t':=s.toks) (fun _ _ q=>Heap.get?_push_of_some _ q) (Am _) (rq s.heap I.big);refine wpAny_Dict_walk (knd:=xt X.prog X.w) hall hl h0 h15 (v4 (h pins _ σ _ _ I1 (q _ hn)) fun ws s2 ⟨ps,H2,I2,rel,e,kvs,ep,lk,q2⟩=>?_);subst ep;obtain⟨rs,c,rk⟩:=kJ (P:=X.prog) (w:=X.w) rel;obtain⟨z,hd,vs0,r0,dd⟩:=agd I2.hok e;cases r0;refine⟨rs,c,dd,fun h' dd' hs=>⟨.ref s.heap.objs.size,_,?_,rfl,q2⟩⟩;have hz:(gn [] kvs).length≤sizeLine:=by have h1:=fK kvs [];rw[Eo] at h1;rw[sizeLine_eq];omega
 have he:∃q,h'.get? s.heap.objs.size=some q:=let ⟨q,_,_,hq,_⟩:=dd';⟨q,hq⟩;exact oW I2 (by rw[e];exact True.intro) hs he (zB hz hd (rk.merge .nil) dd')
section
variable {a:Addr}{y d:V}{r:Value}{o:Option V} 
end
section
variable {f:Expr}{td ty tx:TE}
end
section
variable {a:Addr}{kvs:List (jo×V)} 
end
section
variable {a:Addr}{y:V} 
end
end L2
namespace HT
open PySem PyProof.Rows
section
open PySem.SeqAt
open PySem.AutoSeq1 (wpAny_loadPart')
open PySem.MeetsSeq PySem.MeetsSeq2 PySem.MeetsSeq3
end
section
variable {w:World} 
def sIx(n d:Nat):Option Int->Nat
 |none=>d
 |some v=>if v<0 then(v+(n:Int)).toNat else min v.toNat n
theorem sIx_none(n d:Nat):sIx n d none=d:=rfl
theorem sIx_nat(n d k:Nat):sIx n d (some (k:Int))=min k n:=by show(if (k:Int)<0 then((k:Int)+(n:Int)).toNat else min (k:Int).toNat n)=min k n;rw[As (by omega),Cm]
theorem sIx_le(n d:Nat)(hd:d≤n)(o:Option Int):sIx n d o≤n:=by
 cases o with
 |none=>exact hd
 |some v=>
  show(if v<0 then(v+(n:Int)).toNat else min v.toNat n)≤n;by_cases hv:v<0
  ·rw[AA hv];omega
  ·rw[As hv];exact Nat.min_le_right _ _
theorem wB(v:Int)(n d:Nat):(if v<0 then max (v+(n:Int)) 0 else min v (n:Int))=((sIx n d (some v):Nat):Int):=by
 show(if v<0 then max (v+(n:Int)) 0 else min v (n:Int))=(((if v<0 then(v+(n:Int)).toNat else min v.toNat n):Nat):Int);by_cases hv:v<0
 ·simp only[AA hv];omega
 ·simp only[As hv];omega
theorem tV(lo hi:Option Int)(n:Nat):Builtin.Slice.sliceAdjust lo hi 1 (n:Int)=(((sIx n 0 lo:Nat):Int),((sIx n n hi:Nat):Int)):=by
 have h1:¬((1:Int)<0):=by omega
 unfold Builtin.Slice.sliceAdjust;simp only[h1,if_false];refine Ey ?_ ?_
 ·cases lo with|none=>rfl|some v=>exact wB v n 0
 ·cases hi with|none=>rfl|some v=>exact wB v n n
theorem tF(i j:Nat):Builtin.Slice.slicePlaces (i:Int) (j:Int) 1=j - i:=by
 unfold Builtin.Slice.slicePlaces;have h1:(1:Int) > 0:=by omega
 simp only[h1,if_true,Int.ediv_one];split<;>omega
theorem jZ{v:Value}{o:Option Int}{Q:Option Int->Shared->Prop}(p:IsPart v o)(h:Q o s):wpAny (model prog w) A (Builtin.Slice.slicePartIndex v) Q E s:=by cases p with|none=>exact slicePart_none h|int i t=>exact slicePart_int h
theorem hV{sl:Addr}{vl vu:Value}{lo hi:Option Int}{Q:Int×Int×Nat->Shared->Prop}(hs:s.heap.IsSliceOf sl vl vu .none)(pl:IsPart vl lo)(pu:IsPart vu hi)
 (h:Q (((sIx n 0 lo:Nat):Int),1,sIx n n hi - sIx n 0 lo) s):wpAny (model prog w) A (Builtin.Slice.sliceApplied (.ref sl) (pure (n:Int))) Q E s:=by
 obtain⟨os,hos,hcs,hds⟩:=id hs;unfold Builtin.Slice.sliceApplied Builtin.Slice.sliceFields;refine Aa (Aa (A7 hos hds (x:=vl) rfl (Aa (A7 hos hds (x:=vu) rfl (Aa (A7 hos hds (x:=.none) rfl (Ai ?_)))))));refine Aa (slicePart_none ?_);show wpAny _ _ (if ((1:Int)==0)=true then _ else _) _ _ s;rw[As (by decide)];refine Aa (jZ pl (Aa (jZ pu (Aa (Ai ?_)))));show wpAny _ _ (match Builtin.Slice.sliceAdjust lo hi 1 (n:Int) with | (lo,hi)=>pure (lo,(1:Int),Builtin.Slice.slicePlaces lo hi 1)) _ _ s;rw[tV lo hi n];show wpAny _ _ (pure (((sIx n 0 lo:Nat):Int),(1:Int),Builtin.Slice.slicePlaces ((sIx n 0 lo:Nat):Int) ((sIx n n hi:Nat):Int) 1)) _ _ s;rw[tF];exact Ai h
theorem aba(xs:Array Value)(i k:Nat):((List.range k).filterMap fun(m:Nat)=>xs[((i:Int)+(m:Int)*1).toNat]?).toArray=((xs.toList.drop i).take k).toArray:=by
 have e:(fun(m:Nat)=>xs[((i:Int)+(m:Int)*1).toNat]?)=fun m=>xs[i+m]?:=by
  funext m;have:((i:Int)+(m:Int)*1).toNat=i+m:=by omega
  rw[this]
 rw[e];have:=pick_run xs i k;rw[List.filterMap_map] at this;have e2:((fun x=>xs[x]?)∘fun x=>i+x)=fun m=>xs[i+m]?:=rfl;rw[e2] at this;rw[this]
theorem getItem_tuple_cut{t sl:Addr}{items:Array Value}{vl vu:Value}{lo hi:Option Int}(ht:IsTup s.heap t items)(hs:s.heap.IsSliceOf sl vl vu .none)(pl:IsPart vl lo)(pu:IsPart vu hi)
 (hw:¬(sIx items.size 0 lo=0/\sIx items.size items.size hi=items.size))
 (h:Q (.ref s.heap.objs.size) { s with heap:=s.heap.push { cls:=.type "tuple",data:=.seq ((items.toList.drop (sIx items.size 0 lo)).take (sIx items.size items.size hi - sIx items.size 0 lo)).toArray } })
 (hsz:items.size≤sizeLine):wpAny (model prog w) A (getItem (.ref t) (.ref sl)) Q E s:=by
 have htake:sizeOk (.seq ((items.toList.drop (sIx items.size 0 lo)).take (sIx items.size items.size hi - sIx items.size 0 lo)).toArray):=by show((items.toList.drop (sIx items.size 0 lo)).take (sIx items.size items.size hi - sIx items.size 0 lo)).toArray.size≤sizeLine;rw[Ao,AL,A9,AM];omega
 have hj:sIx items.size items.size hi≤items.size:=sIx_le _ _ (Am _) hi;obtain⟨os,hos,hcs,hds⟩:=id hs;have hTs:s.TypeIs (.ref sl) "slice" := ⟨os,hos,hcs⟩;unfold getItem
 try with_reducible refine Ba ?_
 first | refine Aa (Ai ?_) | skip
 refine Aa (wpAny_sequenceKey ht.typeIs (by decide) ?_);refine Aa (wpAny_callSpecial?_slot (name:=Str.ofString "__getitem__") ht.typeIs Cs
  (wpAny_call_entry Cs ht.typeIs entry_tuple_getitem ?_ (args_tuple_getitem _ _)))
 show wpAny _ _ (Builtin.Tuple.tupleItemsOf (.ref t) >>= _) _ _ s;refine Aa (tupleItemsOf_ ht ?_);refine Aa (wpAny_typeOf hTs ?_);rw[AA (by decide)];refine Aa (hV hs pl pu ?_);have hno:¬((((sIx items.size 0 lo:Nat):Int)==0&&(1:Int)==1&&(sIx items.size items.size hi - sIx items.size 0 lo)==items.size)=true):=by intro q;rw[AY,AY] at q;have q1:((sIx items.size 0 lo:Nat):Int)=0:=eq_of_beq q.1.1;have q2:sIx items.size items.size hi - sIx items.size 0 lo=items.size:=eq_of_beq q.2;exact hw ⟨by omega,by omega⟩
 show wpAny _ _ (if (((sIx items.size 0 lo:Nat):Int)==0&&(1:Int)==1&&(sIx items.size items.size hi - sIx items.size 0 lo)==items.size)=true then _ else _) _ _ s;rw[As hno,aba]
 first
  |exact Aa (m:=Builtin.Tuple.tupleExact _) (Bh (Ai ⟨_,rfl,Ai h⟩) htake)
  |exact Aa (m:=Builtin.Tuple.tupleExact _) (Bh (Aa (Ai (Ai ⟨_,rfl,Ai h⟩))) htake)
  |exact Aa (Aa (m:=Builtin.Tuple.tupleExact _) (Bh (Ai (Ai ⟨_,rfl,Ai h⟩)) htake))
  |exact Aa (Aa (m:=Builtin.Tuple.tupleExact _) (Bh (Ai ⟨_,rfl,Ai h⟩) htake))
end
end HT
namespace L2
open PySem PySem.Spec PyProof.Rows
abbrev TO:=St->Hp->(Option Int->Hp->Prop)->Prop
def PO(X:Cx)(e:Option Expr)(t:TO):Prop:=
 ∀(pins:List (Addr×Obj)) (s:Shared) (σ:St) (H:Hp) (Q:Option Int->Hp->Prop),qt X pins σ H s->t σ H Q->
  wpAny (model X.prog X.w) X.A (evalPart e X.env) (fun u s'=>∃o H',qt X pins σ H' s'/\IsPart u o/\Q o H') X.xe s
def adt:TO:=fun _ H Q=>Q none H
def al6(t:TE):TO:=fun σ H Q=>t σ H fun x H1=>∃i,x=.int i/\Q (some i) H1
section
variable {te:TE}{lo hi:Option Expr}{tl th:TO} 
theorem ae5:PO X none adt:=by intro pins s σ H Q I h;rw[evalPart_none];exact Ai ⟨none,H,I,.none,h⟩
theorem aey(h:PE X e te):PO X (some e) (al6 te):=by intro pins s σ H Q I hw;rw[evalPart_some];refine v4 (h pins s σ H _ I hw) fun u s1 ⟨x,H1,I1,r1,q1⟩=>?_;obtain⟨i,rfl,q⟩:=q1;obtain⟨t,rfl⟩:=r1;exact⟨some i,H1,I1,.int i t,q⟩
def pi(X:Cx)(r:V->Option Int->Option Int->Hp->VK->Prop):Prop:=
 ∀(pins:List (Addr×Obj)) (s:Shared) (σ:St) (H:Hp) (x:V) (v vl vu:Value) (lo hi:Option Int) (sl:Addr) (Q:VK),qt X pins σ H s->zq x v->s.heap.IsSliceOf sl vl vu .none->IsPart vl lo->IsPart vu hi->r x lo hi H Q->
  ∃T id,typeLookup (.type T) "__getitem__" = pure (some (.builtin id))/\s.TypeIs v T/\wpAny (model X.prog X.w) X.A (getItem v (.ref sl)) (EP X pins σ Q) X.xe s
theorem pi.or{r':V->Option Int->Option Int->Hp->VK->Prop}(h:pi X r)(h':pi X r'):pi X (fun x lo hi H Q=>r x lo hi H Q\/r' x lo hi H Q):=by
 intro pins s σ H x v vl vu lo hi sl Q I rx hs pl pu q;rcases q with q | q
 ·exact h pins s σ H x v vl vu lo hi sl Q I rx hs pl pu q
 ·exact h' pins s σ H x v vl vu lo hi sl Q I rx hs pl pu q
def tSl(r:V->Option Int->Option Int->Hp->VK->Prop)(te:TE)(tl th:TO):TE:=fun σ H Q=>te σ H fun x H1=>tl σ H1 fun l H2=>th σ H2 fun u H3=>r x l u H3 Q
theorem ab4(hr:pi X r)(he:PE X e te)(hl:PO X lo tl)(hu:PO X hi th):PE X (.Subscript e (.Slice lo hi none p2) pos) (tSl r te tl th):=by intro pins s σ H Q I h;refine Subscript_ (v4 (he pins s σ H _ I h) fun v s1 ⟨x,H1,I1,r1,q1⟩=>?_);refine wpAny_Slice (v4 (hl pins s1 σ H1 _ I1 q1) fun vl s2 ⟨l,H2,I2,pl,q2⟩=>v4 (hu pins s2 σ H2 _ I2 q2) fun vu s3 ⟨u,H3,I3,pu,q3⟩=>?_);rw[evalPart_none];refine Ai ?_;have I4:qt X pins σ H3 { s3 with heap:=s3.heap.push { cls:=.type "slice",data:=.fields #[vl,vu,.none] } }:=I3.kept (t':=s3.toks) fun b ob q=>Heap.get?_push_of_some _ q;obtain⟨T,id,hT,ht,hg⟩:=hr pins { s3 with heap:=s3.heap.push { cls:=.type "slice",data:=.fields #[vl,vu,.none] } } σ H3 x v vl vu l u s3.heap.objs.size Q I4 r1 (Heap.IsSliceOf.new ..) pl pu q3;show wpAny (model X.prog X.w) X.A (subscriptTail e (.Slice lo hi none p2) v (.ref s3.heap.objs.size)) (EP X pins σ Q) X.xe { s3 with heap:=s3.heap.push { cls:=.type "slice",data:=.fields #[vl,vu,.none] } };exact tail_any (ops:=[.ref s3.heap.objs.size,v]) ht hT hg (by with_unfolding_all rfl)
def qN(xs:List V)(lo hi:Option Int):List V:=(xs.drop (HT.sIx xs.length 0 lo)).take (HT.sIx xs.length xs.length hi - HT.sIx xs.length 0 lo)
theorem i4(xs:List V)(lo hi:Option Int):(qN xs lo hi).length≤xs.length:=by unfold qN;rw[AL,A9];omega
def apv(K:Af):V->Option Int->Option Int->Hp->VK->Prop:=fun x lo hi H Q=>∃a xs,x=.ref a/\dC K H a xs/\
 ¬(HT.sIx xs.length 0 lo=0/\HT.sIx xs.length xs.length hi=xs.length)/\∀p,H p=none->Q (.ref p) (upd H p (.tup (qN xs lo hi)))
theorem ajs:pi X (apv X.K):=by
 intro pins s σ H x v vl vu lo hi sl Q I rx hs pl pu h;obtain⟨a,xs,rfl,hx,hw,q⟩:=h;cases rx;obtain⟨its,r,ht,hz⟩:=I.tuple hx;have hlen:its.toArray.size=xs.length:=by rw[Ao];exact r.length.symm
 refine⟨"tuple",_,Cs.lookup,ht.typeIs,?_⟩;refine HT.getItem_tuple_cut ht hs pl pu (by rw[hlen];exact hw) ?_ (by rw[hlen];exact hz);rw[hlen];refine⟨.ref s.heap.objs.size,_,I.laid (t':=s.toks) (o:=.tup (qN xs lo hi)) (fun b ob q=>Heap.get?_push_of_some _ q) (Am _) ?_,rfl,q _ (I.hok.fresh (Am _))⟩;exact⟨AU (i4 xs lo hi) hz,_,(r.drop (HT.sIx xs.length 0 lo)).take (HT.sIx xs.length xs.length hi - HT.sIx xs.length 0 lo),IsTup.new _ _⟩
end
def ixN(n:Nat)(i:Int):Option Nat:=if 0≤i then(if i<n then some i.toNat else none) else if -(n:Int)≤i then some (i+n).toNat else none
def gc(xs:List α)(i:Int):Option α:=(ixN xs.length i).bind fun j=>xs[j]?
theorem wD{i:Int}(h:ixN n i=some j):seqIndex? i n=some j/\j<n /\ -(n:Int)≤i/\i<n:=by
 unfold ixN at h;by_cases h0:0≤i
 ·rw[AA h0] at h;by_cases h1:i<n
  ·rw[AA h1] at h;have e:i.toNat=j:=Bc h;exact⟨by rw[seqIndex_of h0 h1,e],by omega,by omega,h1⟩
  ·rw[As h1] at h;cases h
 ·rw[As h0] at h;by_cases h1 : -(n:Int)≤i
  ·rw[AA h1] at h;have e:(i+n).toNat=j:=Bc h;exact⟨by rw[seqIndex_neg (by omega) h1,e],by omega,h1,by omega⟩
  ·rw[As h1] at h;cases h
theorem pZ{xs:List α}{i:Int}{v:α}(h:gc xs i=some v):∃j,seqIndex? i xs.length=some j/\xs[j]?=some v/\j<xs.length /\ -(xs.length:Int)≤i/\i<xs.length:=by
 unfold gc at h;cases e:ixN xs.length i with
 |none=>rw[e] at h;cases h
 |some j=>
  rw[e] at h;obtain⟨h1,h2,h3,h4⟩:=wD e;exact⟨j,h1,h,h2,h3,h4⟩
theorem w5{xs:List α}{v:α}(h:xs[j]?=some v):gc xs (j:Int)=some v:=by
 have hj:j<xs.length:=(AW.mp h).1;have e:ixN xs.length (j:Int)=some j:=by unfold ixN;rw[AA (by omega),AA (by omega)];simp
 unfold gc;rw[e];exact h
def jN(b:Expr):Prop:=∀o i,subscripted b false o i=operate [o,i] (getItem o i)
def IxR(X:Cx)(r:R2):Prop:=
 ∀(value slice:Expr) (pins:List (Addr×Obj)) (s:Shared) (σ:St) (H:Hp) (x y:V) (v u:Value) (Q:VK),qt X pins σ H s->zq x v->zq y u->r x y H Q->
  subscripted slice false v u=operate [v,u] (getItem v u)->wpAny (model X.prog X.w) X.A (subscriptTail value slice v u) (EP X pins σ Q) X.xe s
def MtR(X:Cx)(id:String)(r:V->List V->Hp->VK->Prop):Prop:=
 ∀(pins:List (Addr×Obj)) (s:Shared) (σ:St) (H:Hp) (x:V) (xs:List V) (v:Value) (us:List Value) (Q:VK),qt X pins σ H s->zq x v->zn xs us->r x xs H Q->
  wpAny (model X.prog X.w) X.A (call (.builtin id) (v::us)) (EP X pins σ Q) X.xe s
section
variable {a b:Expr}{ta tb:TE} 
theorem afr{r:R2}(hr:IxR X r)(ha:PE X a ta)(hb:PE X b tb)(hs:jN b):PE X (.Subscript a b pos) (tOp r ta tb):=by intro pins s σ H Q I h;exact Subscript_ (ags ha hb I h fun v u s2 x y H2 I2 rx ry q=>hr a b pins s2 σ H2 x y v u Q I2 rx ry q (hs _ _))
def aow(K:Af):R2:=fun x y H Q=>∃p xs i v,x=.ref p/\y=.int i/\aB K H p xs/\gc xs i=some v/\Q v H
def anq(K:Af):R2:=fun x y H Q=>∃p xs i v,x=.ref p/\y=.int i/\dC K H p xs/\gc xs i=some v/\Q v H
def aq8:R2:=fun x y H Q=>∃z i c,x=.str z/\y=.int i/\z.length≤sizeLine/\gc z.cps.toList i=some c/\Q (.str ⟨#[c]⟩) H
theorem ae9:IxR X (aow X.K):=by
 intro value slice pins s σ H x y v u Q I rx ry h hs;obtain⟨p,xs,i,z,rfl,rfl,hq,he,q⟩:=h;cases rx;obtain⟨t,rfl⟩:=ry;obtain⟨its,r,pl,hz⟩:=I.list hq;obtain⟨j,h1,h2,h3,h4,h5⟩:=pZ he;obtain⟨w,ew,rw'⟩:=r.get h2;have hl:=r.length;have hn:=gq;have vk:EP X pins σ Q w s:=⟨z,H,I,rw',q⟩;by_cases h0:0≤i
 ·have hj:i.toNat=j:=by rw[seqIndex_of h0 h5] at h1;exact Bc h1
  exact item_listR pl.isList h0 (by omega) (by rw[hj];simpa using ew) vk hs
 ·have hj:(i+(its.toArray.size:Int)).toNat=j:=by rw[seqIndex_neg (by omega) h4] at h1;rw[Ao,<-hl];exact Bc h1
  exact subscriptTail_builtinR (x:=w) pl.isList.typeIs slot_list_getitem.lookup
   (wpAny_getItem_list_neg (Q:=fun r s'=>r=w/\EP X pins σ Q r s') pl.isList (by omega) (by rw[Ao]<;>omega) (by omega) (by rw[hj];simpa using ew) ⟨rfl,vk⟩) hs
theorem aj5:IxR X (anq X.K):=by
 intro value slice pins s σ H x y v u Q I rx ry h hs;obtain⟨p,xs,i,z,rfl,rfl,hq,he,q⟩:=h;cases rx;obtain⟨t,rfl⟩:=ry;obtain⟨its,r,pl,hz⟩:=I.tuple hq;obtain⟨j,h1,h2,h3,h4,h5⟩:=pZ he;obtain⟨w,ew,rw'⟩:=r.get h2;have hl:=r.length;have hn:=gq;have vk:EP X pins σ Q w s:=⟨z,H,I,rw',q⟩;exact subscriptTail_builtinR (x:=w) pl.typeIs slot_tuple_getitem.lookup
  (getItem_tuple (j:=j) (Q:=fun r s'=>r=w/\EP X pins σ Q r s') pl (by omega) (by omega) (by rw[Ao,<-hl];exact h1) (by simpa using ew) ⟨rfl,vk⟩) hs
theorem agv:IxR X aq8:=by
 intro value slice pins s σ H x y v u Q I rx ry h hs;obtain⟨z,i,c,rfl,rfl,hz,he,q⟩:=h;obtain⟨t,rfl⟩:=rx;obtain⟨t',rfl⟩:=ry;obtain⟨j,h1,h2,h3,h4,h5⟩:=pZ he;have hl:z.cps.toList.length=z.length:=by simp[Str.length]
 rw[hl] at h1 h4 h5;have hn:=gq;exact tail_any (typeIs_str s z t) slot_str_getitem.lookup (getItem_str (c:=c) (by have e1:decide (i < -(2 ^ 63:Int))=false:=Au (by omega);have e2:decide (i≥2 ^ 63)=false:=Au (by omega);rw[e1,e2,Bool.or_false]) (by rw[h1];simpa using h2) ⟨.str ⟨#[c]⟩,H,I.tok _,⟨_,rfl⟩,q⟩) hs
theorem tf(its:List Value)(n j:Nat)(u:Value):Obj.mapSeq (·.setIfInBounds j u) { cls:=.type "list",data:=.seq its.toArray n }={ cls:=.type "list",data:=.seq (its.set j u).toArray n }:=by simp[Obj.mapSeq]
theorem qt.lst{p:Addr}(I:qt X pins σ H s)(h:H p=some (.lst xs)):
 ∃(its:List Value) (n:Nat),zn xs its/\s.heap.get? p=some { cls:=.type "list",data:=.seq its.toArray n }/\xs.length≤sizeLine:=by
 obtain⟨z,its,n,r,e⟩:=I.hok p _ h;exact⟨its,n,r,e,z⟩
theorem qt.lstUpd{p:Addr}{ys:List V}{its':List Value}{n':Nat}{f:Obj->Obj}(I:qt X pins σ H s)(h:H p=some (.lst xs))
 (ho:s.heap.get? p=some { cls:=.type "list",data:=.seq its.toArray n }) (hf:f { cls:=.type "list",data:=.seq its.toArray n }={ cls:=.type "list",data:=.seq its'.toArray n' }) (r:zn ys its') (hz:ys.length≤sizeLine) (t:Nat) (ht:0<t:=by walk_at "t"):
 qt X pins σ (upd H p (.lst ys)) { s with heap:=s.heap.update p f,toks:=t }:=by
 have e:(s.heap.update p f).get? p=some { cls:=.type "list",data:=.seq its'.toArray n' }:=by rw[Heap.get?_update_self f ho (by rw[hf]<;>rfl),hf]
 refine I.write (x:=p) (e:=p) (by rw[h];trivial) (.inl rfl) (fun b u hb q=>(Heap.get?_update_other _ _ (AK hb)).trans q) ⟨_,e⟩ ?_;exact⟨hz,its',n',r,e⟩
def alz:V->V->V->Hp->(Hp->Prop)->Prop:=fun o i v H Q=>∃p xs k j,o=.ref p/\i=.int k/\H p=some (.lst xs)/\ixN xs.length k=some j/\Q (upd H p (.lst (xs.set j v)))
theorem aci:akl X alz:=by
 intro pins s σ H o i v ov iv u Q I ro ri rv h;obtain⟨p,xs,k,j,rfl,rfl,hp,hj,q⟩:=h;cases ro;obtain⟨t,rfl⟩:=ri;obtain⟨its,n,r,ho,hz⟩:=I.lst hp;obtain⟨h1,h2,h3,h4⟩:=wD hj;have hl:=r.length;have hn:=gq;have I':qt X pins σ (upd H p (.lst (xs.set j v))) { s with heap:=s.heap.update p (Obj.mapSeq (·.setIfInBounds j u)) }:=
  I.lstUpd hp ho (tf its n j u) (r.set rv j) (by rw[BG];exact hz) s.toks
 by_cases h0:0≤k
 ·have hk:k.toNat=j:=by rw[seqIndex_of h0 h4] at h1;exact Bc h1
  exact PySem.W.ki_setAt ho h0 (by omega) (by rw[Ao,<-hl];exact h4) (by rw[hk];exact⟨_,I',q⟩)
 ·have hk:(k+(its.toArray.size:Int)).toNat=j:=by rw[seqIndex_neg (by omega) h3] at h1;rw[Ao,<-hl];exact Bc h1
  exact PySem.W.ki_setBack ho (by omega) (by rw[Ao,<-hl];exact h3) (by omega) (by rw[hk];exact⟨_,I',q⟩)
theorem pY(lo hi:Option Int)(n:Nat):(sliceBounds lo hi none n).1=((HT.sIx n 0 lo:Nat):Int)/\(sliceBounds lo hi none n).2.1=((HT.sIx n n hi:Nat):Int)/\(sliceBounds lo hi none n).2.2=1:=by
 refine⟨?_,?_,rfl⟩
 ·cases lo with
  |none=>simp[sliceBounds,HT.sIx]
  |some i=>
   simp only[sliceBounds,HT.sIx,Option.getD_none,show(1:Int) > 0 by decide,if_true];by_cases h:i<0
   ·simp only[h,if_true]<;>omega
   ·simp only[h,if_false]<;>omega
 ·cases hi with
  |none=>simp[sliceBounds,HT.sIx]
  |some i=>
   simp only[sliceBounds,HT.sIx,Option.getD_none,show(1:Int) > 0 by decide,if_true];by_cases h:i<0
   ·simp only[h,if_true]<;>omega
   ·simp only[h,if_false]<;>omega
theorem lv(its:List Value)(lo hi:Option Int):slicePick its.toArray lo hi none=((its.drop (HT.sIx its.length 0 lo)).take (HT.sIx its.length its.length hi - HT.sIx its.length 0 lo)).toArray:=by obtain⟨h1,h2,h3⟩:=pY lo hi its.toArray.size;unfold slicePick;rw[h1,h2,h3];simp only[sliceRange_one,pick_run,Ao]<;>rfl
def apk(K:Af):V->Option Int->Option Int->Hp->VK->Prop:=fun x lo hi H Q=>∃a xs,x=.ref a/\aB K H a xs/\∀p,H p=none->Q (.ref p) (upd H p (.lst (qN xs lo hi)))
theorem adu:pi X (apk X.K):=by intro pins s σ H x v vl vu lo hi sl Q I rx hs pl pu h;obtain⟨a,xs,rfl,hx,q⟩:=h;cases rx;obtain⟨its,r,ht,hz⟩:=I.list hx;have hlen:=r.length;refine⟨"list",_,slot_list_getitem.lookup,ht.isList.typeIs,?_⟩;refine wpAny_getItem_list_slice ht.isList hs pl pu .none (by simp) ?_ (by rw[Ao]<;>omega);rw[lv,<-hlen];refine⟨.ref s.heap.objs.size,_,I.laid (t':=s.toks) (o:=.lst (qN xs lo hi)) (fun b ob q=>Heap.get?_push_of_some _ q) (Am _) ?_,rfl,q _ (I.hok.fresh (Am _))⟩;exact⟨AU (i4 xs lo hi) hz,_,0,(r.drop (HT.sIx xs.length 0 lo)).take (HT.sIx xs.length xs.length hi - HT.sIx xs.length 0 lo),Heap.get?_push_size _ rfl⟩
def aX:V->Bool
 |.non=>true
 |.bl _=>true
 |.int _=>true
 |.str _=>true
 |_=>false
def iu:V->V->Bool
 |.non,.non=>true
 |.bl a,.bl b=>a==b
 |.bl a,.int b=>(if a then 1 else 0)==b
 |.int a,.bl b=>a==(if b then 1 else 0)
 |.int a,.int b=>a==b
 |.str a,.str b=>a==b
 |_,_=>false
theorem kU{y x:V}{v:Value}(ry:zq y u)(rx:zq x v)(fy:aX y=true)(fx:aX x=true):SeqAt.EqAt A s u v (iu y x):=by
 cases y with
 |non=>
  cases ry;cases x with
  |non=>cases rx;exact SeqAt.EqAt.same _
  |bl b=>cases rx;exact SeqAt.EqAt.none_bool b
  |int b=>obtain⟨t,rfl⟩:=rx;exact SeqAt.EqAt.none_int b t
  |str b=>obtain⟨t,rfl⟩:=rx;exact SeqAt.EqAt.none_str b t
  |_=>exact absurd (show false=true from fx) Ax
 |bl a=>
  cases ry;cases x with
  |non=>cases rx;exact SeqAt.EqAt.bool_none a
  |bl b=>cases rx;exact SeqAt.EqAt.bool_bool a b
  |int b=>obtain⟨t,rfl⟩:=rx;exact SeqAt.EqAt.bool_int a b t
  |str b=>obtain⟨t,rfl⟩:=rx;exact SeqAt.EqAt.bool_str a b t
  |_=>exact absurd (show false=true from fx) Ax
 |int a=>
  obtain⟨t',rfl⟩:=ry;cases x with
  |non=>cases rx;exact SeqAt.EqAt.int_none a t'
  |bl b=>cases rx;exact SeqAt.EqAt.int_bool a t' b
  |int b=>obtain⟨t,rfl⟩:=rx;exact SeqAt.EqAt.int_int a t' b t
  |str b=>obtain⟨t,rfl⟩:=rx;exact SeqAt.EqAt.int_str a t' b t
  |_=>exact absurd (show false=true from fx) Ax
 |str a=>
  obtain⟨t',rfl⟩:=ry;cases x with
  |non=>cases rx;exact SeqAt.EqAt.str_none a t'
  |bl b=>cases rx;exact SeqAt.EqAt.str_bool a t' b
  |int b=>obtain⟨t,rfl⟩:=rx;exact SeqAt.EqAt.str_int a t' b t
  |str b=>obtain⟨t,rfl⟩:=rx;exact SeqAt.EqAt.str_str a t' b t
  |_=>exact absurd (show false=true from fx) Ax
 |_=>exact absurd (show false=true from fy) Ax
def tz(x:V)(u:Value):Bool:=match u with
 |.none=>iu .non x
 |.bool b=>iu (.bl b) x
 |.int i _=>iu (.int i) x
 |.str z _=>iu (.str z) x
 |_=>false
theorem abx{x y:V}(r:zq y u)(f:aX y=true):tz x u=iu y x:=by
 cases y with
 |non=>cases r;rfl
 |bl b=>cases r;rfl
 |int i=>obtain⟨t,rfl⟩:=r;rfl
 |str z=>obtain⟨t,rfl⟩:=r;rfl
 |_=>exact absurd (show false=true from f) Ax
theorem gZ{x:V}:∀{xs:List V} {us:List Value},zn xs us->xs.all aX=true->us.any (tz x)=xs.any fun y=>iu y x
 |_,_,.nil,_=>rfl
 |y::xs,u::us,.cons r t,f=>by rw[Eb,AY] at f;rw[Cq,Cq,abx r f.1,gZ t f.2]
theorem db{A:Around}{s:Shared}{x:V}{v:Value}(rx:zq x v)(fx:aX x=true):∀{xs:List V} {us:List Value},zn xs us->xs.all aX=true->∀u∈us,SeqAt.EqAt A s u v (tz x u)
 |_,_,.nil,_=>fun u hu=>by cases hu
 |y::xs,u::us,.cons r t,f=>fun u' hu=>by
  rw[Eb,AY] at f;rcases Ap.mp hu with rfl | hu
  ·rw[abx r f.1];exact kU r rx f.1 fx
  ·exact db rx fx t f.2 u' hu
def zS(x:V)(xs:List V):Bool:=xs.any fun y=>iu y x
def rIn(K:Af)(neg:Bool):R2:=fun x y H Q=>∃p xs,y=.ref p/\(aB K H p xs\/dC K H p xs)/\aX x=true/\xs.all aX=true/\Q (.bl (if neg then !zS x xs else zS x xs)) H
theorem yA:aT X (compareOp .In) (rIn X.K false):=by
 intro pins s σ H x y v u Q I rx ry h;obtain⟨p,xs,rfl,hq,fx,fs,q⟩:=h;cases ry;rcases hq with hq | hq
 ·obtain⟨its,r,pl,hz⟩:=I.list hq;refine SeqAt.in_listAt (tz x) pl.isList (fun w hw=>db rx fx r fs w (by simpa using hw)) ⟨.bl _,H,I,rfl,?_⟩;rw[show its.toArray.any (tz x)=its.any (tz x) by simp,gZ r fs];exact q
 ·obtain⟨its,r,pl,hz⟩:=I.tuple hq;refine SeqAt.in_tupleAt (tz x) pl (fun w hw=>db rx fx r fs w (by simpa using hw)) ⟨.bl _,H,I,rfl,?_⟩;rw[show its.toArray.any (tz x)=its.any (tz x) by simp,gZ r fs];exact q
theorem oM:aT X (compareOp .NotIn) (rIn X.K true):=by
 intro pins s σ H x y v u Q I rx ry h;obtain⟨p,xs,rfl,hq,fx,fs,q⟩:=h;cases ry;rcases hq with hq | hq
 ·obtain⟨its,r,pl,hz⟩:=I.list hq;refine SeqAt.notIn_listAt (tz x) pl.isList (fun w hw=>db rx fx r fs w (by simpa using hw)) ⟨.bl _,H,I,rfl,?_⟩;rw[show its.toArray.any (tz x)=its.any (tz x) by simp,gZ r fs];exact q
 ·obtain⟨its,r,pl,hz⟩:=I.tuple hq;refine SeqAt.notIn_tupleAt (tz x) pl (fun w hw=>db rx fx r fs w (by simpa using hw)) ⟨.bl _,H,I,rfl,?_⟩;rw[show its.toArray.any (tz x)=its.any (tz x) by simp,gZ r fs];exact q
theorem o4:jw X (.builtin "len") (fun xs H Q=>∃p ys,xs=[.ref p]/\(aB X.K H p ys\/dC X.K H p ys)/\Q (.int ys.length) H):=by
 intro pins s σ H xs us Q I r h;obtain⟨p,ys,rfl,hq,q⟩:=h;obtain⟨u,rfl,rx⟩:=qS r;cases rx;have hn:=gq;rcases hq with hq | hq
 ·obtain⟨its,r',pl,hz⟩:=I.list hq;have hlen:=r'.length;exact Calls.call_len_list pl.isList (by simp only[Ao]<;>omega) ⟨.int ys.length,H,I.tok _,⟨s.toks+1,by rw[Ao,hlen]⟩,q⟩
 ·obtain⟨its,r',pl,hz⟩:=I.tuple hq;have hlen:=r'.length;exact len_tuple pl (by simp only[Ao]<;>omega) ⟨.int ys.length,H,I.tok _,⟨s.toks+1,by rw[Ao,hlen]⟩,q⟩
theorem pS:jw X (.builtin "len") (fun xs H Q=>∃z,xs=[.str z]/\z.length≤sizeLine/\Q (.int z.length) H):=by intro pins s σ H xs us Q I r h;obtain⟨z,rfl,hz,q⟩:=h;obtain⟨u,rfl,t,rfl⟩:=qS r;have hn:=gq;exact len_str (by omega) ⟨.int z.length,H,I.tok _,⟨_,rfl⟩,q⟩
theorem oG:jw X (.type "list") (fun xs H Q=>∃p ys,xs=[.ref p]/\(aB X.K H p ys\/dC X.K H p ys)/\∀l,H l=none->Q (.ref l) (upd H l (.lst ys))):=by
 intro pins s σ H xs us Q I r h;obtain⟨p,ys,rfl,hq,q⟩:=h;obtain⟨u,rfl,rx⟩:=qS r;cases rx;have vk:∀(its:List Value),zn ys its->ys.length≤sizeLine->∀(h':Heap) (c':Nat),(∀b o',s.heap.get? b=some o'->h'.get? b=some o')->
  h'.get? s.heap.objs.size=some { cls:=.type "list",dict:=none,data:=.seq its.toArray c',slots:=#[] }->EP X pins σ Q (.ref s.heap.objs.size) { s with heap:=h' }:=fun its r' hz h' c' kp e=>
  ⟨.ref s.heap.objs.size,_,I.laid (t':=s.toks) kp (Am _) (show jz X.prog X.w _ h' _ (.lst ys) from⟨hz,its,c',r',e⟩),rfl,q _ (I.hok.fresh (Am _))⟩
 rcases hq with hq | hq
 ·obtain⟨its,r',pl,hz⟩:=I.list hq;have hlen:=r'.length;obtain⟨o,ho,hc,n,hd⟩:=pl.isList;exact call_list_seq p (.inl rfl) ho hc hd (fun h' c' kp e=>vk its r' hz h' c' kp e) (by simp only[Ao]<;>omega)
 ·obtain⟨its,r',pl,hz⟩:=I.tuple hq;have hlen:=r'.length;obtain⟨o,ho,hc,n,hd⟩:=pl;exact call_list_seq p (.inr rfl) ho hc hd (fun h' c' kp e=>vk its r' hz h' c' kp e) (by simp only[Ao]<;>omega)
def tyV(K:Af)(T:String)(x:V)(H:Hp):Prop:=match x with
 |.str _=>T = "str"
 |.int _=>T = "int"
 |.ref p=>(T = "list" /\ ∃xs,aB K H p xs)\/(T = "tuple" /\ ∃o,K.lookup p=some o/\o.cls=.type "tuple" /\ o.dict=none)\/
  (T = "dict" /\ ((∃kvs,H p=some (.dK kvs))\/∃kvs,H p=some (.dT kvs)))\/(T = "set" /\ ∃S n,H p=some (.set S n))
 |_=>False
theorem abc{T:String}{x:V}{v:Value}(I:qt X pins σ H s)(r:zq x v)(ty:tyV X.K T x H):
 s.TypeIs v T/\∀a,v=.ref a->∃ob,s.heap.get? a=some ob/\ob.dict=none:=by
 cases x with
 |str z=>
  obtain⟨t,rfl⟩:=r;cases (show T = "str" from ty);exact⟨typeIs_str s z t,fun _ e=>nomatch e⟩
 |int i=>
  obtain⟨t,rfl⟩:=r;cases (show T = "int" from ty);exact⟨typeIs_int s i t,fun _ e=>nomatch e⟩
 |ref p=>
  cases r;rcases ty with⟨rfl,xs,hq⟩ | ⟨rfl,o,hk,hc,hd⟩ | ⟨rfl,hk⟩ | ⟨rfl,S,n,hk⟩
  ·obtain⟨its,_,pl,_⟩:=I.list hq;refine⟨pl.isList.typeIs,fun a e=>?_⟩;cases e;obtain⟨o,n,e,c,hd,_⟩:=pl;exact⟨o,e,hd⟩
  ·refine⟨⟨o,I.kIn p o hk,hc⟩,fun a e=>?_⟩;cases e;exact⟨o,I.kIn _ o hk,hd⟩
  ·have z:∃o,s.heap.get? p=some o/\o.ExactDict:=by
    rcases hk with⟨kvs,hk⟩ | ⟨kvs,hk⟩
    ·obtain⟨_,_,_,_,o,_,_,e,ex,_⟩:=I.hok p _ hk;exact⟨o,e,ex⟩
    ·obtain⟨_,_,_,_,o,_,_,e,ex,_⟩:=I.hok p _ hk;exact⟨o,e,ex⟩
   obtain⟨o,e,ex⟩:=z;refine⟨⟨o,e,ex.1⟩,fun a e2=>?_⟩;cases e2;exact⟨o,e,ex.2.1⟩
  ·obtain⟨o,_,_,_,e,ex,_⟩:=I.hok p _ hk;refine⟨⟨o,e,ex.1⟩,fun a e2=>?_⟩;cases e2;exact⟨o,e,ex.2.1⟩
 |_=>exact False.elim ty
def aq4(K:Af)(T:String)(r:V->List V->Hp->VK->Prop)(to:TE):TE:=fun σ H Q=>to σ H fun x H1=>tyV K T x H1/\r x [] H1 Q
def tBM(K:Af)(T:String)(r:V->List V->Hp->VK->Prop)(to:TE)(t:TA):TE:=fun σ H Q=>to σ H fun x H1=>tyV K T x H1/\t σ H1 fun xs H2=>r x xs H2 Q
variable {to:TE}{t:TA}{T id:String}{r:V->List V->Hp->VK->Prop}
theorem aiw(pa:PlainAttrs T)(slot:Slot T name id)(hty:typeOf (.builtin id)=pure (.type "method_descriptor"))(hm:MtR X id r)(ho:PE X o to)
 (hbase:attributeBase o name X.env (eval o X.env)=eval o X.env:=by rfl) (hline:(apos.endLine==cpos.line)=true:=by rfl):PE X (.Call (.Attribute o name apos) [] [] cpos) (aq4 X.K T r to):=by
 intro pins s σ H Q I h;refine wpAny_Call_method0_late hbase hline (v4 (ho pins s σ H _ I h) fun v s1 ⟨x,H1,I1,r1,ty,q1⟩=>?_);obtain⟨h1,h2⟩:=abc I1 r1 ty;exact⟨T,id,pa,slot,hty,h1,h2,Calls.callWith_builtin rfl (PySem.evalArgs_none (hm pins s1 σ H1 x [] v [] Q I1 r1 .nil q1))⟩
theorem agl(pa:PlainAttrs T)(slot:Slot T name id)(hty:typeOf (.builtin id)=pure (.type "method_descriptor"))(hm:MtR X id r)(ho:PE X o to)(ha:PA X (e::es) t)
 (hbase:attributeBase o name X.env (eval o X.env)=eval o X.env:=by rfl)
 (hfew:((backTo cpos (starEach (e::es) X.env)).all (fun x=>!x.1)&&(backToKw cpos (keywordEach [] X.env)).all (fun x=>x.1.isSome)
  && decide ((e::es).length+([]:List Keyword).length+(if ([]:List Keyword).isEmpty then 0 else 1)<30))=true:=by rfl)
 (hline:(apos.endLine==cpos.line)=true:=by rfl) (hs:Ez e es X:=by rfl) (hplain:EV cpos es X:=by rfl):
 PE X (.Call (.Attribute o name apos) (e::es) [] cpos) (tBM X.K T r to t):=by
 intro pins s σ H Q I h;refine wpAny_Call_method_late hbase hfew hline rfl (v4 (ho pins s σ H _ I h) fun v s1 ⟨x,H1,I1,r1,ty,q1⟩=>?_);obtain⟨h1,h2⟩:=abc I1 r1 ty;refine⟨T,id,pa,slot,hty,h1,h2,?_⟩;have hA:=ha cpos pins s1 σ H1 _ I1 q1;rw[hs] at hA ⊢;refine Calls.callWith_builtin (by show(false||(backTo cpos (starEach es X.env)).any (·.1))=false;rw[hplain]<;>rfl) (Calls.evalArgs_plain ?_);exact v4 hA fun us s2 ⟨vs,H2,I2,r2,q2⟩=>hm pins s2 σ H2 x vs v us Q I2 r1 r2 q2
end
def kQ(X:Cx)(id:String)(r:V->List V->Hp->VK->Prop):Prop:=
 ∀(pins:List (Addr×Obj)) (s:Shared) (σ:St) (H:Hp) (x:V) (xs:List V) (v:Value) (us:List Value) (Q:VK),qt X pins σ H s->zq x v->zn xs us->r x xs H Q->
  wpAny (model X.prog X.w) X.A (call (.builtin id) (v::us)) (EP X pins σ Q) X.xe s
theorem zn.one:∀{x:V} {us:List Value},zn [x] us->∃u,us=[u]/\zq x u
 |_,_,.cons r .nil=>⟨_,rfl,r⟩
theorem zn.two:∀{x y:V} {us:List Value},zn [x,y] us->∃u v,us=[u,v]/\zq x u/\zq y v
 |_,_,_,.cons r (.cons q .nil)=>⟨_,_,rfl,r,q⟩
theorem zn.zero:∀{us:List Value},zn [] us->us=[]
 |_,.nil=>rfl
theorem zn.dropLast(h:zn xs us):zn xs.dropLast us.dropLast:=by
 induction h with
 |nil=>exact .nil
 |cons r t ih=>
  cases t with|nil=>exact .nil|cons q t'=>exact .cons r ih
theorem zn.eraseIdx:∀{xs:List V} {us:List Value} (i:Nat),zn xs us->zn (xs.eraseIdx i) (us.eraseIdx i)
 |_,_,_,.nil=>.nil
 |_,_,0,.cons _ t=>t
 |_,_,i+1,.cons r t=>.cons r (zn.eraseIdx i t)
theorem uK(l:List α):l.eraseIdx (l.length - 1)=l.dropLast:=by
 induction l with
 |nil=>rfl
 |cons a r ih=>
  cases r with
  |nil=>rfl
  |cons b r=>
   have e:(a::b::r).length - 1=((b::r).length - 1)+1:=by have h1:(a::b::r).length=r.length+2:=rfl;have h2:(b::r).length=r.length+1:=rfl;omega
   rw[e,Cw,ih]
   all_goals rfl
theorem mQ{α:Type}:∀(l:List α) (i:Nat),(l.eraseIdx i).length≤l.length
 |[],_=>Am _
 |_::_,0=>CQ _
 |_::r,i+1=>Nat.succ_le_succ (mQ r i)
section
variable {b:Addr}{ys:List V}
theorem qt.lset{its':List Value}{f:Array Value->Array Value}(I:qt X pins σ H s)(hH:H l=some (.lst xs))
 (e:s.heap.get? l=some { cls:=.type "list",data:=.seq its.toArray n }) (hf:f its.toArray=its'.toArray) (hv:zn ys its') (hz:ys.length≤sizeLine) (ht:0<t':=by walk_at "t"):
 qt X pins σ (upd H l (.lst ys)) { s with heap:=s.heap.update l (Obj.mapSeq f),toks:=t' }:=by
 have q:=PySem.IsL.update e f;rw[hf] at q;refine I.write (x:=l) (e:=l) (by rw[hH];exact trivial) (.inl rfl) (fun b' u hb hu=>(Heap.get?_update_other s.heap (Obj.mapSeq f) (AK hb)).trans hu) ⟨_,q⟩ ?_;exact⟨hz,its',_,hv,q⟩
theorem qt.lnew(I:qt X pins σ H s)(hv:zn ys its)(hz:ys.length≤sizeLine)(ht:0<t':=by walk_at "t"):
 qt X pins σ (upd H s.heap.objs.size (.lst ys)) { s with heap:=s.heap.push { cls:=.type "list",data:=.seq its.toArray },toks:=t' }:=
 I.laid (fun _ _ q=>Heap.get?_push_of_some _ q) (Am _) ⟨hz,its,0,hv,Heap.get?_push_size _ rfl⟩
theorem qt.fresh(I:qt X pins σ H s):H s.heap.objs.size=none:=I.hok.fresh (Am _)
theorem qt.lstM(I:qt X pins σ H s)(hH:H l=some (.lst xs)):xs.length≤sizeLine/\∃(its:List Value) (n:Nat),zn xs its/\xs.length=its.length/\s.heap.get? l=some { cls:=.type "list",data:=.seq its.toArray n }:=by obtain⟨z,its,n,r,e⟩:=I.hok l _ hH;exact⟨z,its,n,r,r.length,e⟩
theorem zO(h:n≤sizeLine):Builtin.List.listTooLong n=false:=by unfold Builtin.List.listTooLong;exact Au (by omega)
end
section
def aeu:V->List V->Hp->VK->Prop:=fun x vs H Q=>∃l xs y,x=.ref l/\vs=[y]/\H l=some (.lst xs)/\xs.length<sizeLine/\Q .non (upd H l (.lst (xs++[y])))
theorem yY:kQ X "list.append" aeu:=by intro pins s σ H x vs v us Q I rx rv h;obtain⟨l,xs,y,rfl,rfl,hH,hz,q⟩:=h;cases rx;obtain⟨u,rfl,ru⟩:=rv.one;obtain⟨z,its,n,r,hl,e⟩:=I.lstM hH;refine call_meets F.slot_list_append ⟨_,e,rfl⟩ F.entry_list_append (F.args_list_append_2 _ _) (PySem.list_append l its.toArray n u (by rw[Ao];omega)) ⟨e,?_⟩;refine⟨.non,_,I.lset (its':=its++[u]) hH e (by simp) (r.append (.cons ru .nil)) ?_,rfl,q⟩;rw[Ac,Bf];omega
def acs:V->List V->Hp->VK->Prop:=fun x vs H Q=>∃l b xs zs,x=.ref l/\vs=[.ref b]/\H l=some (.lst xs)/\H b=some (.lst zs)/\xs.length+zs.length≤sizeLine/\Q .non (upd H l (.lst (xs++zs)))
theorem y4:kQ X "list.extend" acs:=by
 intro pins s σ H x vs v us Q I rx rv h;obtain⟨l,b,xs,zs,rfl,rfl,hH,hB,hz,q⟩:=h;cases rx;obtain⟨u,rfl,ru⟩:=rv.one;cases ru;obtain⟨z,its,n,r,hl,e⟩:=I.lstM hH;obtain⟨z2,its2,n2,r2,hl2,e2⟩:=I.lstM hB;have hsz:its.toArray.size+its2.toArray.size≤sizeLine:=by rw[Ao,Ao];omega
 have hlong:¬(!its.toArray.isEmpty&&Builtin.List.listTooLong (its.toArray.size+its2.toArray.size))=true:=by rw[zO hsz,Do];exact Ax
 refine call_meets F.slot_list_extend ⟨_,e,rfl⟩ F.entry_list_extend (F.args_list_extend_2 _ _)
  (AutoSeq1.list_extend_list_list_0 l its.toArray n b its2.toArray n2 hlong (by rw[Ao];omega) (by omega)) ⟨e,e2,?_⟩
 refine⟨.non,_,I.lset (its':=its++its2) hH e (by simp) (r.append r2) ?_,rfl,q⟩;rw[Ac];omega
def aou:V->List V->Hp->VK->Prop:=fun x vs H Q=>∃l xs y,x=.ref l/\vs=[]/\H l=some (.lst xs)/\xs[xs.length - 1]?=some y/\Q y (upd H l (.lst xs.dropLast))
theorem ajm:kQ X "list.pop" aou:=by
 intro pins s σ H x vs v us Q I rx rv h;obtain⟨l,xs,y,rfl,rfl,hH,hy,q⟩:=h;cases rx;have hus:=rv.zero;subst hus;obtain⟨z,its,n,r,hl,e⟩:=I.lstM hH;obtain⟨u,hu,ru⟩:=r.get hy;have hy':its.toArray[its.toArray.size - 1]?=some u:=by show its.toArray[its.length - 1]?=some u;rw[<-A1,<-hl];exact hu
 refine call_meets F.slot_list_pop ⟨_,e,rfl⟩ F.entry_list_pop (F.args_list_pop_1 _) (MeetsSeq.list_pop_last l its.toArray n u hy' (by rw[Ao];omega)) ⟨e,?_⟩;refine⟨y,_,I.lset (its':=its.dropLast) hH e ?_ r.dropLast ?_,ru,q⟩
 ·show its.toArray.eraseIdxIfInBounds (its.toArray.size - 1)=its.dropLast.toArray;rw[Ao,Dv,uK]
 ·rw[List.length_dropLast];omega
def aj0:V->List V->Hp->VK->Prop:=fun x vs H Q=>∃l xs i k y,x=.ref l/\vs=[.int i]/\H l=some (.lst xs) /\ -(2 ^ 63)≤i/\i<2 ^ 63/\seqIndex? i xs.length=some k/\xs[k]?=some y/\Q y (upd H l (.lst (xs.eraseIdx k)))
theorem abl:kQ X "list.pop" aj0:=by
 intro pins s σ H x vs v us Q I rx rv h;obtain⟨l,xs,i,k,y,rfl,rfl,hH,h1,h2,hk,hy,q⟩:=h;cases rx;obtain⟨u,rfl,ru⟩:=rv.one;obtain⟨t,rfl⟩:=ru;obtain⟨z,its,n,r,hl,e⟩:=I.lstM hH;obtain⟨w,hw,rw'⟩:=r.get hy;refine call_meets F.slot_list_pop ⟨_,e,rfl⟩ F.entry_list_pop (F.args_list_pop_2 _ _)
  (MeetsSeq.list_pop_at l its.toArray n i t k w (fitsIndex_both h1 h2) (by rw[Ao,<-hl];exact hk) (by rw[<-A1];exact hw) (by rw[Ao];omega)) ⟨e,?_⟩
 refine⟨y,_,I.lset (its':=its.eraseIdx k) hH e ?_ (r.eraseIdx k) ?_,rw',q⟩
 ·show its.toArray.eraseIdxIfInBounds k=(its.eraseIdx k).toArray;rw[Dv]
 ·have:=mQ xs k;omega
def apc:R2:=fun x y H Q=>∃l b xs zs,x=.ref l/\y=.ref b/\H l=some (.lst xs)/\H b=some (.lst zs)/\xs.length+zs.length≤sizeLine/\∀p,H p=none->Q (.ref p) (upd H p (.lst (xs++zs)))
theorem aha:aT X (binaryOp .Add) apc:=by
 intro pins s σ H x y v u Q I rx ry h;obtain⟨l,b,xs,zs,rfl,rfl,hH,hB,hz,q⟩:=h;cases rx;cases ry;obtain⟨z,its,n,r,hl,e⟩:=I.lstM hH;obtain⟨z2,its2,n2,r2,hl2,e2⟩:=I.lstM hB;refine PySem.P.add_list e e2 ?_ (by rw[Ao,Ao];omega);have ea:its.toArray++its2.toArray=(its++its2).toArray:=by simp
 rw[ea];exact⟨.ref _,_,I.lnew (t':=s.toks) (r.append r2) (by rw[Ac];omega),rfl,q _ I.fresh⟩
end
section
variable {w:World} 
set_option maxRecDepth 100000 in
end
section
end
end L2
namespace Att
open PySem PySem.W PySem.Calls PyProof.Rows
theorem ix{P:Params} :∀(ns:List Int) (vs:List Value),WellAll P h vs (ns.map WData.int)->IntsAre vs ns:=by
 intro ns
 induction ns with
 |nil=>
  intro vs w;rw[Dm] at w;cases w;exact .nil
 |cons n ns ih=>
  intro vs w;rw[AD] at w;cases w with
  |cons a b=>
   cases a;exact .cons _ _ (ih _ b)
theorem xA{l:OpenLaw}(hn:l.most=some n){P:Params}{args:List WData}{vals:List Value}
 (hpre:l.row.toRowW.claim.pre args=true) (hwl:WellAll P h vals args):
 ∃a vs ns,vals=[Value.ref a]/\args=[WData.list (ns.map WData.int)]/\h.get? a=some { cls:=.type "list",data:=.seq vs.toArray }/\IntsAre vs ns/\ns.length≤n:=by
 have hsh:WShape.hasAll [] args [.list .int]=true:=(pre_splitW hpre).1;have hc:l.pre.holds [] { args:=args }=true:=(pre_splitW hpre).2;obtain⟨d,r,rfl,h1,h2⟩:=hasAllW_cons hsh;obtain rfl:=hasAllW_nil h2;obtain⟨xs,rfl,h3⟩:=hasW_list h1;obtain⟨ns,rfl⟩:=items_int h3;have hlen:ns.length≤n:=by
  unfold OpenLaw.pre at hc;have h4:(WTm.not (.lt (.lit (.int (n:Int))) (.len (.arg 0)))).holds [] { args:=[.list (ns.map .int)] }=true:=by have h4:=(holds_andW hc).1;rw[hn] at h4;exact h4
  have h5:=condW_of h4 (w_not (w_lt w_lit (w_len_list (w_arg rfl))));rw[Ae] at h5;refine Nat.le_of_not_lt fun q=>?_;have q':(n:Int)<((ns.length:Nat):Int):=by omega
  first
   |(rw[AE q'] at h5;exact absurd h5 (by decide))
   |(simp at h5;omega)
 cases hwl with
 |cons w1 w2=>
  cases w2;cases w1 with|list ho hall=>exact⟨_,_,ns,rfl,rfl,ho,ix ns _ hall,hlen⟩
theorem xV(l:OpenLaw)(args:List WData):l.row.toRowW.claim.post args (.bool true) args=true:=
 postW_of (r:=l.row.toRowW) (X:=(true==true))
  (show WShape.has [] (.bool true) .bool=true by first | rfl | decide | simp[WShape.has,WShape.arms,WShape.armsAll])
  (show(WTm.eq .res (.lit (.bool true))).value [] { args:=args,res:=some (.bool true),after:=args }=some (.bool (true==true)) from w_eq_bool (w_res rfl) w_lit) rfl
theorem attach_callZ{l:OpenLaw}{q:Program}{loose:List Str}{XP:(Str->Option Value)->Heap->Prop}{as0:List Addr}{N t:Nat}{K:Params->Frag}{d:DefRec}
 (hn:l.most=some n) (hdf:d.params.defaults=[]) (ek:∀P,as0=(K P).map (·.1)) (htk:0<t)
 (call:∀(w:World) (s₀ s₁:Shared) (mg mb:Str->Option Value) (fa:Addr) (o:Obj) (pm cd doc:Value) (a:Addr) (vs:List Value) (ns:List Int),
  Ground q loose [] XP w s₀ mg mb s₁.heap->(K w.params).In s₁.heap->0<s₁.toks->
  s₁.heap.get? fa=some o->o.data=.func (docDef d.name d.params d.body d.scope pm cd doc)->s₁.heap.CodeRec cd d.name->mg d.name=some (.ref fa)->
  s₁.heap.get? a=some { cls:=.type "list",data:=.seq vs.toArray }->IntsAre vs ns->ns.length≤n->s₁.gens=#[]->
  codeAny (model l.prog w) callerA (.call (.ref fa) ⟨[.ref a],[]⟩) (fun r s'=>r=.ok (.ret (.bool true))/\OldK s₁.heap s'.heap/\s'.os=s₁.os/\AllBare s'.gens) s₁):
 WalkX q loose XP (PySem.W.X.obsZ as0) (PySem.W.X.valZ K N t) l.row.toRowW d [] (fun f vs=>PySem.call f vs):=by
 intro w s₀ s₁ mg mb G Y fa o pm cd doc dV kV ho hd hcd hD hmg hg args vals as L hpre hlay hrd hwl hlo;obtain rfl:dV=.none:=Dflts.none hD hdf;obtain rfl:kV=.none:=Dflts.noKw hD;obtain⟨a,vs,ns,rfl,rfl,hobj,hints,hlen⟩:=xA hn hpre hwl;obtain⟨_,zi,_,zt⟩:=X.z_facts ek Y;have eP:∀ns:List Int,ofPy (PyData.list (ns.map PyData.int))=WData.list (ns.map WData.int):=fun ns=>by
  simp only[ofPy];congr 1
  induction ns with|nil=>simp[ofPys]|cons n r ih=>simp only[AD,ofPys,ofPy,ih]
 rw[<-eP] at L;have KX:=InK.keeps w s₀.heap s₁.heap zi L.keeps;have tk1:0<s₁.toks:=AJ htk (X.script_toks L zt);refine enter_call (codeAny_mono (call w s₀ s₁ mg mb fa o pm cd doc a vs ns G KX tk1 ho (fd_plain hd) hcd hmg hobj hints hlen hg) fun r s' hq=>?_);obtain⟨rfl,h2,h3,h4⟩:=hq;exact⟨.inl ⟨.bool true,.bool true,[],rfl,fun _=>rfl,.bool true,xV l _,fun _=>⟨List.Pairwise.nil,fun _ hm=>(nomatch hm)⟩⟩,h2,h3,h4⟩
section
variable {w:World}{K:Frag}
end
end Att
namespace L2
open PySem PySem.Spec PyProof.Rows
theorem m5:∀{vs:List Value} {ns:List Int},IntsAre vs ns->zn (ns.map V.int) vs
 |_,_,.nil=>.nil
 |_,_,.cons n t h=>.cons ⟨t,rfl⟩ (m5 h)
def xq(s:Stmt):Arguments:=match s with
 |.FunctionDef _ a _ _ _ _ _ _ _ _=>a
 |_=>{ posonlyargs:=[],args:=[],vararg:=none,kwonlyargs:=[],kw_defaults:=[],kwarg:=none,defaults:=[] }
def jk(s:Stmt):List Stmt:=match s with
 |.FunctionDef _ _ b _ _ _ _ _ _ _=>b
 |_=>[]
def qo(s:Stmt):Scope:=match s with
 |.FunctionDef _ _ _ _ _ _ sc _ _ _=>sc
 |_=>{ kind:=.function,names:=[],isGenerator:=false,isCoroutine:=false }
abbrev CX0:vY:=fun _ _ _ _ _ _=>False
abbrev E0:XK:=fun _ _ _=>False
theorem al2 :tD CX0 X E0:=fun _ _ _ _ _ _ _ h=>h.elim
structure Fun(K:Af)(x qual:Str)(st:Stmt)(f:Addr)(fd:FuncData):Prop where
 ex:∃(oc:Value) (od:Option Addr) (kV doc pm:Value) (an:Option Addr) (cdv ct:Value) (osl:Array (Option Value)),
  fd=PySem.W.fnOf x qual (xq st) (jk st) (qo st) .none kV doc pm an cdv ct/\K.lookup f=some ⟨oc,od,.func fd,osl⟩/\PySem.W.codeIn K cdv qual=true
 kp:PySem.W.keepIn K (.ref f)=true
section
variable {P:Program}{w:World}{K:Af} 
theorem Fun.ok{N:List Str}{k:Nat}(F:Fun K x qual st f fd)(S:wr N ps (qo st))(len:∀vs H Q E,sp vs H Q E->vs.length=ps.length)
 (hbody:∀(cdv:Value) (A:Around) (outer:List Env) (s:Shared) (H:Hp) (vs:List V) (Q:VK) (E:XK),w4 k (A.deeper (envOfC qual (qo st) s.heap.objs.size f cdv))->sp vs H Q E->
  ∃t,iM (cz CX0 P w K mg base N qual (qo st) f cdv A outer s H E).nox (jk st) t/\t { nx:=fun _ H'=>Q .non H',rt:=Q } (start N vs) H):am P w K mg base CX0 (k+1) f fd ps sp:=by
 obtain⟨oc,od,kV,doc,pm,an,cdv,ct,osl,rfl,lk,hcd⟩:=F.ex;refine aa2 lk hcd S len fun A outer s H vs Q E hr hsp=>?_;obtain⟨t,h,q⟩:=hbody cdv A outer s H vs Q E hr hsp;exact⟨t,h.nox,q⟩
theorem agw{kV ct:Value}(l:K.lookup f=some ⟨oc,od,.func (PySem.W.fnOf x qual (xq st) (jk st) (qo st) .none kV doc pm an cdv ct),osl⟩)
 (c:PySem.W.codeIn K cdv qual=true) (k:PySem.W.keepIn K (.ref f)=true):Fun K x qual st f (PySem.W.fnOf x qual (xq st) (jk st) (qo st) .none kV doc pm an cdv ct):=⟨⟨oc,od,kV,doc,pm,an,cdv,ct,osl,rfl,l,c⟩,k⟩
end
theorem mI(h:n≤1000):n<sizeLine:=Bw h (by decide)
section
theorem pv(i:Nat)(hN:X.N[i]?=some x:=by rfl)(hv:Vis X.env.scope x:=by first | exact Or.inl rfl | exact Or.inr (Or.inl rfl) | exact Or.inr (Or.inr rfl))(hd:EW x:=by decide)
 (hcd:EX x:=by decide):PE X (.Name x pos) (aix i):=aii hN hv hd hcd
end
section
variable [DecidableEq κ]
end
end L2
set_option maxHeartbeats 8000000
theorem xR{a b c:Nat}(h:a<b:=by assumption)(k:b≤c:=by assumption):a<c:=AJ h k
theorem iH{a b c:Nat}(h:a≤b:=by assumption)(k:b<c:=by assumption):a<c:=Bw h k
theorem ait{a b c:Nat}(h:a≤b:=by assumption)(k:b≤c:=by assumption):a≤c:=AU h k
theorem iw{a b c:Nat}(h:a<b:=by assumption)(k:b<c:=by assumption):a<c:=Dn h k
theorem dO{a b c:Nat}(h:a≤b:=by assumption)(k:b≤c:=by decide):a≤c:=AU h k
theorem xK{a b:Nat}(h:a≤b:=by assumption):a<b+1:=Nat.lt_succ_of_le h
theorem ahu{a b:Nat}(h:a≤b:=by assumption):a≤b+1:=Dp h
theorem fc{a b:Nat}(h:a<b:=by assumption):a≤b:=Bd h
theorem amg{a b:Nat}(h:a<b:=by assumption):a≠b:=A2 h
theorem agu{a b:Nat}(h:b<a:=by assumption):a≠b:=Dl h
theorem abf{a:Nat}(h:a≠0:=by assumption):0<a:=Nat.pos_of_ne_zero h
theorem ah7{a b c:Nat}(h:a<b:=by assumption)(k:b≤c:=by assumption):a≤c:=AU (Bd h) k
theorem ahy{a b c:Nat}(h:a<b:=by assumption):a<b+c:=AJ h (AZ _ _)
theorem pV{a b:Nat}(h:a=b:=by assumption):a≤b:=Nat.le_of_eq h
theorem uR{a b:Nat}(h:¬a<b:=by assumption):b≤a:=Nat.le_of_not_lt h
theorem amj{a b:Nat}(h:¬b≤a:=by assumption):a<b:=Nat.lt_of_not_le h
theorem amt{a b:Nat}(h:a<b+1:=by assumption):a≤b:=Nat.le_of_lt_succ h
theorem akh{a b c:Nat}(h:a≤b:=by assumption)(k:c≤d:=by assumption):a+c≤b+d:=Nat.add_le_add h k
theorem pW{a b:Nat}(h:0<a:=by assumption)(k:0<b:=by decide):a - b<a:=Nat.sub_lt h k
theorem al1{a b c:Nat}(h:a≤c:=by assumption):a - b≤c:=AU (Ex _ _) h
theorem mB{a b c:Nat}(h:a<c:=by assumption):a - b<c:=Bw (Ex _ _) h
theorem yV{a b:Nat}(h:a≤b:=by assumption)(k:a≠b:=by assumption):a<b:=Nat.lt_of_le_of_ne h k
namespace L2
open PySem PySem.Spec PyProof.Rows
section
def aot:R2:=fun x y H Q=>match x,y with
 |.int i,.int j=>Q (.int (i+j)) H
 |.str a,.str b=>a.length+b.length≤sizeLine/\Q (.str (a++b)) H
 |.ref l,.ref b=>∃xs zs,H l=some (.lst xs)/\H b=some (.lst zs)/\xs.length+zs.length≤sizeLine/\∀p,H p=none->Q (.ref p) (upd H p (.lst (xs++zs)))
 |_,_=>False
theorem adz:aT X (binaryOp .Add) aot:=by
 intro pins s σ H x y v u Q I rx ry h;cases x<;>cases y<;>first
  |exact False.elim h
  |exact ai5 pins s σ H _ _ v u Q I rx ry ⟨_,_,rfl,rfl,h⟩
  |exact uW pins s σ H _ _ v u Q I rx ry ⟨_,_,rfl,rfl,h.1,h.2⟩
  |(obtain⟨xs,zs,h1,h2,h3,h4⟩:=h;exact aha pins s σ H _ _ v u Q I rx ry ⟨_,_,xs,zs,rfl,rfl,h1,h2,h3,h4⟩)
def KD(K:Af)(P:Program)(w:World)(a:Addr)(kvs:List (jo×V)):Prop:=
 (a==sysModules)=false/\kvs.length≤sizeLine/\∀h:Heap,K.In h->∃vs,KV kvs vs/\h.DictOf (xt P w) a vs
def uIx(K:Af)(P:Program)(w:World):R2:=fun x y H Q=>match x,y with
 |.str z,.int i=>z.length≤sizeLine/\∃c,gc z.cps.toList i=some c/\Q (.str ⟨#[c]⟩) H
 |.ref p,.int i=>∃xs v,(aB K H p xs\/dC K H p xs)/\gc xs i=some v/\Q v H
 |.ref p,.str k=>∃kvs v,(Rd H p (.dK kvs)\/KD K P w p kvs)/\fM kvs (Sum.inr k)=some v/\Q v H
 |_,_=>False
theorem zG{slice:Expr}{a:Addr}{vs:List (jo×Value)}{k:jo}{w':Value}{Q:VK}(I:qt X pins σ H s)(dd:s.heap.DictOf (xt X.prog X.w) a vs)(hk:kA k u=true)
 (hw:valueAt vs k=some w') (r:zq v w') (q:Q v H) (hs:subscripted slice false (.ref a) u=operate [.ref a,u] (getItem (.ref a) u)):wpAny (model X.prog X.w) X.A (subscriptTail value slice (.ref a) u) (EP X pins σ Q) X.xe s:=
 tail_any dd.typeIs DS.lookup (wpAny_getItem_of hk dd.mapOf hw ⟨v,H,I.tok _,r,q⟩) hs
theorem aqd:IxR X (uIx X.K X.prog X.w):=by
 intro value slice pins s σ H x y v u Q I rx ry q hs;cases x with
 |str z=>
  cases y with
  |int i=>
   obtain⟨h1,c,h2,h3⟩:=q;exact agv value slice pins s σ H _ _ v u Q I rx ry ⟨z,i,c,rfl,rfl,h1,h2,h3⟩ hs
  |_=>exact q.elim
 |ref p=>
  cases y with
  |int i=>
   obtain⟨xs,w',h1,h2,h3⟩:=q;rcases h1 with h1 | h1
   ·exact ae9 value slice pins s σ H _ _ v u Q I rx ry ⟨p,xs,i,w',rfl,rfl,h1,h2,h3⟩ hs
   ·exact aj5 value slice pins s σ H _ _ v u Q I rx ry ⟨p,xs,i,w',rfl,rfl,h1,h2,h3⟩ hs
  |str k=>
   obtain⟨kvs,w',h1,h2,h3⟩:=q;have ry':zq (kV (Sum.inr k)) u:=ry;cases (show v=Value.ref p from rx);rcases h1 with h1 | h1
   ·obtain⟨z,hd,vs,rel,dd⟩:=wA I.hok h1;obtain⟨w2,hw,rw'⟩:=EO (v:=w') (o:=valueAt vs (Sum.inr k)) (by rw[<-h2];exact rel.val _);exact zG I dd (m9 (P:=X.prog) (w:=X.w) ry') hw rw' h3 hs
   ·obtain⟨hd,z,dd⟩:=h1;obtain⟨vs,rel,dd⟩:=dd s.heap I.kIn;obtain⟨w2,hw,rw'⟩:=EO (v:=w') (o:=valueAt vs (Sum.inr k)) (by rw[<-h2];exact rel.val _);exact zG I dd (m9 (P:=X.prog) (w:=X.w) ry') hw rw' h3 hs
  |_=>exact q.elim
 |_=>cases y<;>exact q.elim
def aqh(K:Af):List V->Hp->VK->Prop:=fun xs H Q=>match xs with
 |[.str z]=>z.length≤sizeLine/\Q (.int z.length) H
 |[.ref p]=>∃ys,(aB K H p ys\/dC K H p ys)/\Q (.int ys.length) H
 |_=>False
theorem xS:jw X (.builtin "len") (aqh X.K):=by
 intro pins s σ H xs us Q I r h
 match xs,h with
 |[.str z],h=>exact pS pins s σ H _ us Q I r ⟨z,rfl,h.1,h.2⟩
 |[.ref p],h=>
  obtain⟨ys,h1,h2⟩:=h;exact o4 pins s σ H _ us Q I r ⟨p,ys,rfl,h1,h2⟩
inductive Da where
 |s (v:V)
 |tup (xs:List Da)
 |lst (xs:List Da)
mutual
def Da.eq:Da->Da->Bool
 |.s v,.s w=>iu v w
 |.tup xs,.tup ys=>Da.eqs xs ys
 |.lst xs,.lst ys=>Da.eqs xs ys
 |_,_=>false
def Da.eqs:List Da->List Da->Bool
 |[],[]=>true
 |x::xs,y::ys=>Da.eq x y&&Da.eqs xs ys
 |_,_=>false
end
def vo(K:Af)(H:Hp):Nat->V->Da->Prop
 |0,v,d=>d=.s v/\aX v=true
 |n+1,v,d=>(d=.s v/\aX v=true)\/(∃a xs ds,v=.ref a/\d=.tup ds/\dC K H a xs/\Paired (vo K H n) xs ds)\/(∃a xs ds,v=.ref a/\d=.lst ds/\aB K H a xs/\Paired (vo K H n) xs ds)
theorem Da.eqs_range:∀(ds es:List Da),((List.range (min ds.length es.length)).all (fun j=>Da.eq (ds.getD j (.s .non)) (es.getD j (.s .non)))&&ds.length==es.length)=Da.eqs ds es
 |[],[]=>by simp[Da.eqs]
 |[],e::es=>by simp[Da.eqs]
 |d::ds,[]=>by simp[Da.eqs]
 |d::ds,e::es=>by
  have ih:=Da.eqs_range ds es;rw[Da.eqs,<-ih];have:min (d::ds).length (e::es).length=min ds.length es.length+1:=by simp only[AF];lia
  rw[this,List.range_succ_eq_map,Eb,List.all_map];have h2:((d::ds).length==(e::es).length)=(ds.length==es.length):=by simp
  rw[h2,Bool.and_assoc];rfl
abbrev EG:=@Da.eqs_range
theorem Paired.at{α β:Type}{F:α->β->Prop}:∀{xs:List α} {ys:List β} {j:Nat} {x:α} {y:β},Paired F xs ys->xs[j]?=some x->ys[j]?=some y->F x y
 |_,_,_,_,_,.nil,h,_=>by simp at h
 |_,_,0,_,_,.cons r _,h1,h2=>by simp at h1 h2;subst h1 h2;exact r
 |_,_,j+1,_,_,.cons _ t,h1,h2=>Paired.at (j:=j) t (by simpa using h1) (by simpa using h2)
abbrev EJ:=@Paired.at
theorem gJ:∀{v:V},aX v=true->iu v v=true
 |.non,_=>rfl
 |.bl _,_=>by simp[iu]
 |.int _,_=>by simp[iu]
 |.str _,_=>by simp[iu]
section
theorem j7{a:Addr}(h:aX (.ref a)=true):False:=by simp[aX] at h
theorem qt.notBoth(I:qt X pins σ H s){a:Addr}{ys:List V}(h:dC X.K H a xs)(h':aB X.K H a ys):False:=by
 obtain⟨its,_,⟨o,e,c,_⟩,_⟩:=I.tuple h;obtain⟨its',_,⟨o',n',e',c',_⟩,_⟩:=I.list h';rw[e] at e';cases e';rw[c] at c';injection c' with c'
 exact absurd c' (by decide)
theorem pG(I:qt X pins σ H s):∀(n:Nat) {m:Nat} {x:V} {d e:Da},vo X.K H n x d->vo X.K H m x e->Da.eq d e=true
 |0,m,x,d,e,h1,h2=>by
  obtain⟨rfl,f⟩:=h1;cases m with
  |zero=>obtain⟨rfl,_⟩:=h2;exact gJ f
  |succ m=>
   rcases h2 with⟨rfl,_⟩ | ⟨a,xs,ds,rfl,_⟩ | ⟨a,xs,ds,rfl,_⟩
   ·exact gJ f
   ·exact(j7 f).elim
   ·exact(j7 f).elim
 |n+1,m,x,d,e,h1,h2=>by
  have both:∀{xs:List V} {ds es:List Da} {m:Nat},Paired (vo X.K H n) xs ds->Paired (vo X.K H m) xs es->Da.eqs ds es=true:=by
   intro xs ds es m p
   induction p generalizing es with
   |nil=>intro q;cases q;rfl
   |cons r t ih=>
    intro q;cases q with|cons r' t'=>rw[Da.eqs,pG I n r r',ih t'];rfl
  rcases h1 with⟨rfl,f⟩ | ⟨a,xs,ds,rfl,rfl,hs,hp⟩ | ⟨a,xs,ds,rfl,rfl,hs,hp⟩
  ·cases m with
   |zero=>obtain⟨rfl,_⟩:=h2;exact gJ f
   |succ m=>
    rcases h2 with⟨rfl,_⟩ | ⟨a,xs,ds,rfl,_⟩ | ⟨a,xs,ds,rfl,_⟩
    ·exact gJ f
    ·exact(j7 f).elim
    ·exact(j7 f).elim
  ·cases m with
   |zero=>exact(j7 h2.2).elim
   |succ m=>
    rcases h2 with⟨_,f⟩ | ⟨a',ys,es,e1,rfl,hs',hp'⟩ | ⟨a',ys,es,e1,rfl,hs',hp'⟩
    ·exact(j7 f).elim
    ·cases e1;cases I.tuple_inj hs hs';exact both hp hp'
    ·cases e1;exact(I.notBoth hs hs').elim
  ·cases m with
   |zero=>exact(j7 h2.2).elim
   |succ m=>
    rcases h2 with⟨_,f⟩ | ⟨a',ys,es,e1,rfl,hs',hp'⟩ | ⟨a',ys,es,e1,rfl,hs',hp'⟩
    ·exact(j7 f).elim
    ·cases e1;exact(I.notBoth hs' hs).elim
    ·cases e1;cases I.list_inj hs hs';exact both hp hp'
theorem je{a:Addr}{its:Array Value}(p:PlainL h a its):h.IsList a its:=let ⟨o,n,e,c,_,d⟩:=p;⟨o,e,c,n,d⟩
theorem gY{ys:List V}{ds es:List Da}(px:Paired (vo X.K H n) xs ds)(py:Paired (vo X.K H m) ys es)(vx:zn xs us)(vy:zn ys vs)
 (ih:∀{x y:V} {d e:Da} {u v:Value},vo X.K H n x d->vo X.K H m y e->zq x u->zq y v->SeqAt.EqAt A.in1 s u v (Da.eq d e)):
 ∀j (h1:j<us.toArray.size) (h2:j<vs.toArray.size),SeqAt.EqAt A.in1 s us.toArray[j] vs.toArray[j] (Da.eq (ds.getD j (.s .non)) (es.getD j (.s .non))):=by
 intro j h1 h2;have l1:=px.length;have l2:=py.length;have l3:=vx.length;have l4:=vy.length;rw[Ao] at h1 h2;have q1:xs[j]?=some xs[j]:=Al (by lia);have q2:ys[j]?=some ys[j]:=Al (by lia);have q3:ds[j]?=some ds[j]:=Al (by lia);have q4:es[j]?=some es[j]:=Al (by lia);have q5:us[j]?=some us[j]:=Al (by lia);have q6:vs[j]?=some vs[j]:=Al (by lia);rw[Bm,Bm,q3,q4];exact ih (EJ px q1 q3) (EJ py q2 q4) (EJ vx q1 q5) (EJ vy q2 q6)
theorem mJ{a b:Addr}{ys:List V}{ds es:List Da}(I:qt X pins σ H s)(hu:A.units<cLine)(sx:dC X.K H a xs)(sy:dC X.K H b ys)(px:Paired (vo X.K H n) xs ds)(py:Paired (vo X.K H m) ys es)
 (ih:∀{x y:V} {d e:Da} {u v:Value},vo X.K H n x d->vo X.K H m y e->zq x u->zq y v->SeqAt.EqAt A.in1 s u v (Da.eq d e)):SeqAt.RcAt A s (.ref a) (.ref b) (Da.eqs ds es):=by
 obtain⟨us,vx,tx,_⟩:=I.tuple sx;obtain⟨vs,vy,ty,_⟩:=I.tuple sy;have q:=SeqAt.RcAt.tuples tx ty hu (gY px py vx vy ih);rw[Ao,Ao,<-vx.length,<-vy.length,px.length,py.length,EG] at q;exact q
theorem sD{a b:Addr}{ys:List V}{ds es:List Da}(I:qt X pins σ H s)(hu:A.units<cLine)(sx:aB X.K H a xs)(sy:aB X.K H b ys)(px:Paired (vo X.K H n) xs ds)(py:Paired (vo X.K H m) ys es)
 (ih:∀{x y:V} {d e:Da} {u v:Value},vo X.K H n x d->vo X.K H m y e->zq x u->zq y v->SeqAt.EqAt A.in1 s u v (Da.eq d e)):SeqAt.RcAt A s (.ref a) (.ref b) (Da.eqs ds es):=by
 obtain⟨us,vx,tx,_⟩:=I.list sx;obtain⟨vs,vy,ty,_⟩:=I.list sy;by_cases hz:us.toArray.size=vs.toArray.size
 ·have q:=SeqAt.RcAt.lists (je tx) (je ty) hz hu (gY px py vx vy ih);have hz':ds.length=es.length:=by rw[<-px.length,<-py.length,vx.length,vy.length];simpa using hz
  have e:=EG ds es;rw[hz',Nat.min_self] at e;rw[<-hz'] at e;rw[Ao,<-vx.length,px.length] at q;simp only[beq_self_eq_true,Eu] at e;rw[e] at q;exact q
 ·have q:=SeqAt.RcAt.lists_lengths (je tx) (je ty) (by simpa using hz) hu;have hz':ds.length≠es.length:=by rw[<-px.length,<-py.length,vx.length,vy.length];intro z;exact hz (by simpa using z)
  have e:=EG ds es;have f:(ds.length==es.length)=false:=by simpa using hz'
  rw[f,Do] at e;rw[<-e];exact q
theorem lD(I:qt X pins σ H s):∀(n:Nat) {m:Nat} {A:Around} {x y:V} {d e:Da} {u v:Value},A.units+n<cLine->vo X.K H n x d->vo X.K H m y e->zq x u->zq y v->SeqAt.EqAt A s u v (Da.eq d e):=by
 have flatRef:∀{A:Around} {x:V} {u:Value} {b:Addr} {ys:List V},A.units<cLine->aX x=true->zq x u->(dC X.K H b ys\/aB X.K H b ys)->SeqAt.EqAt A s u (.ref b) false/\SeqAt.EqAt A s (.ref b) u false:=by
  intro A x u b ys hu f r h;have h':(∃its,s.heap.IsTuple b its)\/∃its,s.heap.IsList b its:=by
   rcases h with h | h
   ·obtain⟨its,_,t,_⟩:=I.tuple h;exact .inl ⟨_,t⟩
   ·obtain⟨its,_,t,_⟩:=I.list h;exact .inr ⟨_,je t⟩
  cases x with
  |non=>cases r;rcases h' with⟨_,t⟩ | ⟨_,t⟩;exact⟨.none_tuple t hu,.tuple_none t hu⟩;exact⟨.none_list t hu,.list_none t hu⟩
  |bl k=>cases r;rcases h' with⟨_,t⟩ | ⟨_,t⟩;exact⟨.bool_tuple k t hu,.tuple_bool k t hu⟩;exact⟨.bool_list k t hu,.list_bool k t hu⟩
  |int k=>obtain⟨tk,rfl⟩:=r;rcases h' with⟨_,t⟩ | ⟨_,t⟩;exact⟨.int_tuple k tk t hu,.tuple_int k tk t hu⟩;exact⟨.int_list k tk t hu,.list_int k tk t hu⟩
  |str k=>obtain⟨tk,rfl⟩:=r;rcases h' with⟨_,t⟩ | ⟨_,t⟩;exact⟨.str_tuple k tk t hu,.tuple_str k tk t hu⟩;exact⟨.str_list k tk t hu,.list_str k tk t hu⟩
  |_=>simp[aX] at f
 intro n
 induction n with
 |zero=>
  intro m A x y d e u v hu h1 h2 rx ry;obtain⟨rfl,f⟩:=h1;cases m with
  |zero=>obtain⟨rfl,f'⟩:=h2;exact kU rx ry f f'
  |succ m=>
   rcases h2 with⟨rfl,f'⟩ | ⟨b,ys,es,rfl,rfl,sy,py⟩ | ⟨b,ys,es,rfl,rfl,sy,py⟩
   ·exact kU rx ry f f'
   ·cases ry;exact(flatRef (by lia) f rx (.inl sy)).1
   ·cases ry;exact(flatRef (by lia) f rx (.inr sy)).1
 |succ n ih=>
  intro m A x y d e u v hu h1 h2 rx ry;have hin:A.in1.units+n<cLine:=by show A.units+1+n<cLine;lia
  rcases h1 with⟨rfl,f⟩ | ⟨a,xs,ds,rfl,rfl,sx,px⟩ | ⟨a,xs,ds,rfl,rfl,sx,px⟩
  ·cases m with
   |zero=>obtain⟨rfl,f'⟩:=h2;exact kU rx ry f f'
   |succ m=>
    rcases h2 with⟨rfl,f'⟩ | ⟨b,ys,es,rfl,rfl,sy,py⟩ | ⟨b,ys,es,rfl,rfl,sy,py⟩
    ·exact kU rx ry f f'
    ·cases ry;exact(flatRef (by lia) f rx (.inl sy)).1
    ·cases ry;exact(flatRef (by lia) f rx (.inr sy)).1
  ·cases rx;cases m with
   |zero=>obtain⟨rfl,f'⟩:=h2;exact(flatRef (by lia) f' ry (.inl sx)).2
   |succ m=>
    rcases h2 with⟨rfl,f'⟩ | ⟨b,ys,es,rfl,rfl,sy,py⟩ | ⟨b,ys,es,rfl,rfl,sy,py⟩
    ·exact(flatRef (by lia) f' ry (.inl sx)).2
    ·cases ry;by_cases hab:a=b
     ·subst hab;cases I.tuple_inj sx sy;have e:Da.eq (.tup ds) (.tup es)=true:=pG I (n+1) (m:=m+1) (x:=.ref a) (.inr (.inl ⟨a,xs,ds,rfl,rfl,sx,px⟩)) (.inr (.inl ⟨a,xs,es,rfl,rfl,sy,py⟩));rw[e];exact .same _
     ·exact .of_refs hab (mJ I (by lia) sx sy px py fun h1 h2 r1 r2=>ih hin h1 h2 r1 r2)
    ·cases ry;obtain⟨us,vx,tx,_⟩:=I.tuple sx;obtain⟨vs,vy,ty,_⟩:=I.list sy;exact .tuple_list tx (je ty) (by lia)
  ·cases rx;cases m with
   |zero=>obtain⟨rfl,f'⟩:=h2;exact(flatRef (by lia) f' ry (.inr sx)).2
   |succ m=>
    rcases h2 with⟨rfl,f'⟩ | ⟨b,ys,es,rfl,rfl,sy,py⟩ | ⟨b,ys,es,rfl,rfl,sy,py⟩
    ·exact(flatRef (by lia) f' ry (.inr sx)).2
    ·cases ry;obtain⟨us,vx,tx,_⟩:=I.list sx;obtain⟨vs,vy,ty,_⟩:=I.tuple sy;exact .list_tuple (je tx) ty (by lia)
    ·cases ry;by_cases hab:a=b
     ·subst hab;cases I.list_inj sx sy;have e:Da.eq (.lst ds) (.lst es)=true:=pG I (n+1) (m:=m+1) (x:=.ref a) (.inr (.inr ⟨a,xs,ds,rfl,rfl,sx,px⟩)) (.inr (.inr ⟨a,xs,es,rfl,rfl,sy,py⟩));rw[e];exact .same _
     ·exact .of_refs hab (sD I (by lia) sx sy px py fun h1 h2 r1 r2=>ih hin h1 h2 r1 r2)
end
def uEq(K:Af)(k:Nat):R2:=fun x y H Q=>match x,y with
 |.ref a,.ref b=>∃n m d e,n≤k/\vo K H n (.ref a) d/\vo K H m (.ref b) e/\Q (.bl (Da.eq d e)) H
 |x,y=>aeo x y=true/\Q (.bl (decide (x=y))) H
theorem agn{k:Nat}(hu:X.A.units+k<cLine):aT X (compareOp .Eq) (uEq X.K k):=by
 intro pins s σ H x y v u Q I rx ry h;cases x with
 |ref a=>
  cases y with
  |ref b=>
   obtain⟨n,m,d,e,hn,h1,h2,q⟩:=h;cases rx;cases ry;have vk:∀{k:Bool},k=Da.eq d e->SeqAt.RcAt X.A s (.ref a) (.ref b) k->wpAny (model X.prog X.w) X.A (compareOp .Eq (.ref a) (.ref b)) (EP X pins σ Q) X.xe s:=fun {k} e' r=>
    r X.prog X.w X.xe (EP X pins σ Q) (by rw[e'];exact⟨.bl _,H,I,rfl,q⟩)
   cases n with
   |zero=>exact(j7 h1.2).elim
   |succ n=>
    cases m with
    |zero=>exact(j7 h2.2).elim
    |succ m=>
     have hin:X.A.in1.units+n<cLine:=by show X.A.units+1+n<cLine;lia
     rcases h1 with⟨_,f⟩ | ⟨a',xs,ds,e1,rfl,sx,px⟩ | ⟨a',xs,ds,e1,rfl,sx,px⟩
     ·exact(j7 f).elim
     ·cases e1;rcases h2 with⟨_,f⟩ | ⟨b',ys,es,e2,rfl,sy,py⟩ | ⟨b',ys,es,e2,rfl,sy,py⟩
      ·exact(j7 f).elim
      ·cases e2;exact vk rfl (mJ I (by lia) sx sy px py fun h1 h2 r1 r2=>lD I n hin h1 h2 r1 r2)
      ·cases e2;obtain⟨us,vx,tx,_⟩:=I.tuple sx;obtain⟨vs,vy,ty,_⟩:=I.list sy;exact vk rfl (.tuple_list tx (je ty) (by lia))
     ·cases e1;rcases h2 with⟨_,f⟩ | ⟨b',ys,es,e2,rfl,sy,py⟩ | ⟨b',ys,es,e2,rfl,sy,py⟩
      ·exact(j7 f).elim
      ·cases e2;obtain⟨us,vx,tx,_⟩:=I.list sx;obtain⟨vs,vy,ty,_⟩:=I.tuple sy;exact vk rfl (.list_tuple (je tx) ty (by lia))
      ·cases e2;exact vk rfl (sD I (by lia) sx sy px py fun h1 h2 r1 r2=>lD I n hin h1 h2 r1 r2)
  |_=>exact agb pins s σ H _ _ v u Q I rx ry h
 |_=>cases y<;>exact agb pins s σ H _ _ v u Q I rx ry h
end
theorem alw{c:Addr}(hg:Gl X x)(hm:X.mg x=some (.ref c))(hd:EW x:=by decide):PE X (.Name x pos) (tC (.ref c)):=aes hg hm (v:=.ref c) rfl hd
theorem vW{T:String}(hg:Gl X x)(hm:X.mg x=none)(hv:bootBuiltins x=some (.type T))(hn:x ≠ "__name__" := by decide)(hd:EW x:=by decide):PE X (.Name x pos) (tC (.ty T)):=adv hg hm hv (v:=.ty T) rfl hn hd
structure yq(P:Program)(w:World)(K:Af)(mg:Str->Option Value)(base:Heap)(k:Nat)(x:Str)(ps:List Str)(sp:Sp):Prop where
 ex:∃f fd,am P w K mg base CX0 k f fd ps sp/\dH K fd ps []/\PySem.W.keepIn K (.ref f)=true/\mg x=some (.ref f)
theorem apn{k:Nat}{t:TA}(c:yq X.prog X.w X.K X.mg X.base k x ps sp)(hr:w4 k X.A)(hg:Gl X x)(ha:PA X (e::es) t)(hdb:EW x:=by decide)
 (he:Ez e es X:=by rfl) (hpl:EV pos es X:=by rfl):PE X (.Call (.Name x p) (e::es) [] pos) (afs sp [] E0 t):=by
 obtain⟨f,fd,F,b,kp,m⟩:=c.ex;exact acy F hr hg m kp b .nil al2 ha hdb he hpl
theorem yq.mono{P:Program}{w:World}{K:Af}{k:Nat}(c:yq P w K mg base j x ps sp)(h:j≤k):yq P w K mg base k x ps sp:=by obtain⟨f,fd,F,b,kp,m⟩:=c.ex;exact⟨f,fd,F.mono h,b,kp,m⟩
end L2
variable {ds:List L2.Da}
namespace L2
open PySem PySem.Spec PyProof.Rows
def jO(env:Env):List (Str×NameKind)->List (Str×Addr)->List (Str×Addr)
 |[],cs=>cs
 |(n,k)::r,cs=>jO env r (if k==.free then(n,(env.cells.lookup n).getD 0)::cs else cs)
def fA(scope:Scope)(env:Env):List (Str×Addr):=jO env scope.names []
theorem rp{env:Env}:∀{names:List (Str×NameKind)} {cs:List (Str×Addr)} {p:Str×Addr},p∈jO env names cs->p∈cs\/((p.1,NameKind.free)∈names/\p.2=(env.cells.lookup p.1).getD 0)
 |[],_,_,h=>.inl h
 |(n,k)::r,cs,p,h=>by
  rcases rp (names:=r) h with q | ⟨q,e⟩
  ·by_cases hk:(k==NameKind.free)=true
   ·rw[AA hk] at q;rcases Ap.mp q with rfl | q
    ·have:k=.free:=by simpa using hk
     exact .inr ⟨by rw[this];exact Aq,rfl⟩
    ·exact .inl q
   ·rw[As hk] at q;exact .inl q
  ·exact .inr ⟨Ag _ q,e⟩
theorem sT{env:Env}{x:Str}:∀{names:List (Str×NameKind)} {cs:List (Str×Addr)},((∃c,(x,c)∈cs)\/(x,NameKind.free)∈names)->∃c,(x,c)∈jO env names cs
 |[],_,.inl h=>h
 |[],_,.inr h=>by simp at h
 |(n,k)::r,cs,h=>by
  refine sT (names:=r) ?_;rcases h with⟨c,h⟩ | h
  ·left;by_cases hk:(k==NameKind.free)=true
   ·rw[AA hk];exact⟨c,Ag _ h⟩
   ·rw[As hk];exact⟨c,h⟩
  ·rcases Ap.mp h with e | h
   ·left;injection e with e1 e2
    subst e1;subst e2;exact⟨_,Aq⟩
   ·exact .inr h
theorem fI{x:Str}:∀{l:List (Str×Addr)} {c:Addr},(x,c)∈l->∃c',l.lookup x=some c'
 |(n,d)::r,c,h=>by
  rw[Bs];cases hx:x==n with
  |true=>exact⟨d,rfl⟩
  |false=>
   rcases Ap.mp h with e | h
   ·injection e with e1 _;subst e1;simp at hx
   ·exact fI h
theorem iq(h:∀n,(n,NameKind.free)∈scope.names->∃c,env.cells.lookup n=some c):closureFor scope env=pure (fA scope env):=by
 unfold closureFor fA;have key:∀(names:List (Str×NameKind)) (cs:List (Str×Addr)),(∀n,(n,NameKind.free)∈names->∃c,env.cells.lookup n=some c)->
  (forIn names cs fun x (r:List (Str×Addr))=>(match x with | (name,kind)=>if kind==NameKind.free then do let a <-cellOf env name;pure (ForInStep.yield ((name,a)::r)) else pure (ForInStep.yield r):Sem (ForInStep (List (Str×Addr)))))=pure (jO env names cs):=by
  intro names
  induction names with
  |nil=>intro cs _;rfl
  |cons p r ih=>
   intro cs hf;obtain⟨n,k⟩:=p;rw[C3];cases hk:k==NameKind.free with
   |true=>
    have hk':k=.free:=by simpa using hk
    subst hk';obtain⟨c,hc⟩:=hf n Aq;have e:cellOf env n=pure c:=by unfold cellOf;rw[hc]
    simp only[beq_self_eq_true,if_true,e];have e2:jO env ((n,NameKind.free)::r) cs=jO env r ((n,c)::cs):=by show jO env r _=_;rw[hc];rfl
    rw[e2];exact ih ((n,c)::cs) fun m hm=>hf m (Ag _ hm)
   |false=>
    simp only[hk,B4,if_false];have e2:jO env ((n,k)::r) cs=jO env r cs:=by show jO env r (if (k==NameKind.free)=true then _ else _)=_;rw[hk];rfl
    rw[e2];exact ih cs fun m hm=>hf m (Ag _ hm)
 exact(BC (· >>= pure) (key scope.names [] h))
theorem wu{env:Env}{x:Str}:∀{names:List (Str×NameKind)},
 (names.map fun(n,k)=>if (k==NameKind.free&&env.scope.kind==.function&&env.kindOf n==some .cell) then(n,NameKind.cell) else(n,k)).lookup x
  = (names.lookup x).map fun k=>if (k==NameKind.free&&env.scope.kind==.function&&env.kindOf x==some .cell) then NameKind.cell else k
 |[]=>rfl
 |(n,k)::r=>by
  have ih:=@wu env x r;show List.lookup x ((if (k==NameKind.free&&env.scope.kind==.function&&env.kindOf n==some .cell)=true then(n,NameKind.cell) else(n,k))::_)=_;cases hx:x==n with
  |true=>
   have hx':x=n:=by simpa using hx
   subst hx';by_cases hc:(k==NameKind.free&&env.scope.kind==.function&&env.kindOf x==some .cell)=true
   ·rw[AA hc];simp only[Bs,beq_self_eq_true,Option.map_some];rw[AA hc]
   ·rw[As hc];simp only[Bs,beq_self_eq_true,Option.map_some];rw[As hc]
  |false=>
   by_cases hc:(k==NameKind.free&&env.scope.kind==.function&&env.kindOf n==some .cell)=true
   ·rw[AA hc];simp only[Bs,hx];exact ih
   ·rw[As hc];simp only[Bs,hx];exact ih
def Cx.comp(X:Cx)(scope:Scope)(T:List Str)(C:Addr)(fp:List Addr)(s₀:Shared)(H₀:Hp):Cx:=
 { X with N:=X.N++T,s₀:=s₀,H₀:=H₀,env:=compEnvC scope (fA scope X.env) C X.env,outer:=X.stack,ex:=fp,fn:=fun _=>false,xe:=fun _ _=>False }
structure jn(X:Cx)(scope:Scope):Prop where
 kind:scope.kind=.function
 nocell:∀y∈scope.names,y.2≠.cell
 names:∀y∈scope.names,y.2=.local->scope.names.lookup y.1=some .local
 free:∀n,scope.names.lookup n=some .free->X.env.kindOf n=some .cell\/X.env.kindOf n=some .free
 freeM:∀n,(n,NameKind.free)∈scope.names->X.env.kindOf n=some .cell\/X.env.kindOf n=some .free
 apart:∀x∈X.N,scope.names.lookup x≠some .local
section
theorem jn.clo(S:jn X scope)(I:qt X pins σ H s):closureFor scope X.env=pure (fA scope X.env):=
 iq fun n h=>I.ok.has n (S.freeM n h)
theorem jn.cl_old(S:jn X scope)(I:qt X pins σ H s){c:Addr}(h:(fA scope X.env).lookup x=some c):X.env.cells.lookup x=some c:=by
 rcases rp (Bu h) with q | ⟨q,e⟩
 ·simp at q
 ·obtain⟨d,hd⟩:=I.ok.has x (S.freeM x q);have e':c=(X.env.cells.lookup x).getD 0:=e;rw[hd] at e' ⊢;rw[e'];rfl
theorem jn.cl_has(_:jn X scope)(h:scope.names.lookup x=some .free):∃c,(fA scope X.env).lookup x=some c:=by obtain⟨c,hc⟩:=sT (env:=X.env) (names:=scope.names) (cs:=[]) (x:=x) (.inr (Bu h));exact fI hc
theorem jn.kindOf(S:jn X scope)(h:(compEnvC scope (fA scope X.env) C X.env).kindOf x=some .cell\/(compEnvC scope (fA scope X.env) C X.env).kindOf x=some .free):scope.names.lookup x=some .free:=by
 have e:(compEnvC scope (fA scope X.env) C X.env).kindOf x=(scope.names.lookup x).map fun k=>if (k==NameKind.free&&X.env.scope.kind==.function&&X.env.kindOf x==some .cell) then NameKind.cell else k:=wu
 rw[e] at h;cases hl:scope.names.lookup x with
 |none=>rw[hl] at h;rcases h with h | h<;>cases h
 |some k=>
  rw[hl] at h;cases k with|free=>rfl|cell=>exact absurd rfl (S.nocell _ (Bu hl))|_=>rcases h with h | h<;>cases h
theorem jn.vis(S:jn X scope)(hx:x∈X.N)(h:Vis (compEnvC scope (fA scope X.env) C X.env).scope x):scope.names.lookup x=some .free:=by
 rcases h with h | h | h
 ·exfalso;have e:(compEnvC scope (fA scope X.env) C X.env).kindOf x=(scope.names.lookup x).map fun k=>if (k==NameKind.free&&X.env.scope.kind==.function&&X.env.kindOf x==some .cell) then NameKind.cell else k:=wu
  have h':(compEnvC scope (fA scope X.env) C X.env).kindOf x=some .local:=h;rw[e] at h';cases hl:scope.names.lookup x with
  |none=>rw[hl] at h';cases h'
  |some k=>
   rw[hl] at h';have h':(if (k==NameKind.free&&X.env.scope.kind==.function&&X.env.kindOf x==some .cell)=true then NameKind.cell else k)=.local:=Bc h';split at h'
   ·cases h'
   ·subst h';exact S.apart x hx hl
 ·exact S.kindOf (C:=C) (.inl h)
 ·exact S.kindOf (C:=C) (.inr h)
theorem jn.back(S:jn X scope)(h:scope.names.lookup x=some .free):(compEnvC scope (fA scope X.env) C X.env).kindOf x=some .cell\/(compEnvC scope (fA scope X.env) C X.env).kindOf x=some .free:=by
 have e:(compEnvC scope (fA scope X.env) C X.env).kindOf x=(scope.names.lookup x).map fun k=>if (k==NameKind.free&&X.env.scope.kind==.function&&X.env.kindOf x==some .cell) then NameKind.cell else k:=wu
 rw[e,h];show some (if _ then _ else _)=_\/some (if _ then _ else _)=_;split
 ·exact .inl rfl
 ·exact .inr rfl
end
def PF(X:Cx)(ifs:List Expr)(t:TT):Prop:=
 ∀(pins:List (Addr×Obj)) (s:Shared) (σ:St) (H:Hp) (Q:Bool->Hp->Prop),qt X pins σ H s->t σ H Q->
  wpAny (model X.prog X.w) X.A (forIn ifs true fun c r=>if r=true then do let ok <-isTrue c X.env (eval c X.env);pure (ForInStep.yield ok) else pure (ForInStep.yield r)) (TP X pins σ Q) X.xe s
def ap9:TT:=fun _ H Q=>Q true H
theorem aho :PF X [] ap9:=fun _ _ _ H _ I h=>Ai ⟨H,I,h⟩
theorem ahv{t:TT}(hc:PT X c t):PF X [c] t:=by intro pins s σ H Q I h;rw[C3];simp only[if_true];refine Aa (Aa (v4 (hc pins s σ H Q I h) fun b s1 q=>Ai ?_));exact Ai q
theorem eY{w:World}{R:Result->Shared->Prop}{iter:Expr}{it acc:Value}(I:Nat->Shared->Prop)
 (turn:∀n s,I n s->wpAny (model prog w) A (pyNext it) (fun r s₁=>match r with
  |none=>R (.ok .next) s₁
  |some v=>wpAny (model prog w) A (letOwnedTupleGo target it v) (fun _ s₁=>wpAny (model prog w) A (assign target env v) (fun _ s₂=>
   wpAny (model prog w) A (forIn ifs true fun c r=>if r=true then do let ok <-isTrue c env (eval c env);pure (ForInStep.yield ok) else pure (ForInStep.yield r)) (fun ok s₃=>
    if ok=true then wpAny (model prog w) A (eval elt env) (fun x s₄=>
     wpAny (model prog w) A (call (.builtin "list.append") [acc,x]) (fun _ s₅=>∃m,m<n/\I m s₅) (fun _ _=>False) s₄) (fun _ _=>False) s₃
    else ∃m,m<n/\I m s₃) (fun _ _=>False) s₂) (fun _ _=>False) s₁) (fun _ _=>False) s₁) (fun _ _=>False) s)
 (n:Nat) (h:I n s):
 codeAny (model prog w) A (.compLoop (.ListComp elt [⟨target,iter,ifs,0⟩] scope pos) 0 it acc env) R s:=by
 refine codeAny_loop rfl I (fun n s hI=>?_) n h;show wpAny _ A ((compTurn (.ListComp elt [⟨target,iter,ifs,0⟩] scope pos) 0 it acc env).onRaise (fun x=>do noteFrame x env;theTreesLotGoes x)) _ _ s;refine wpAny_noted ?_;rw[compTurn_list];refine Aa (wpAny_standAt (Aa (AV (turn n s hI) (fun r s₁ h₁=>?_) fun _ _ h'=>h'.elim)));cases r with
 |none=>exact Ai h₁
 |some v=>
  refine Aa (AV h₁ (fun _ s₁ h₁=>?_) fun _ _ h'=>h'.elim);refine Aa (AV h₁ (fun _ s₂ h₂=>Aa (AV h₂ (fun ok s₃ h₃=>?_) fun _ _ h'=>h'.elim)) fun _ _ h'=>h'.elim);cases ok with
  |false=>exact Ai ⟨rfl,h₃⟩
  |true=>
   exact Aa (Aa (AV h₃ (fun x s₄ h₄=>Aa (AV h₄ (fun _ s₅ h₅=>Ai (Ai ⟨rfl,h₅⟩)) fun _ _ h'=>h'.elim)) fun _ _ h'=>h'.elim))
def tLC(n:Nat)(wi:TI)(g:TG)(tc:TT)(te:TE):TE:=fun σ H Q=>wi σ H fun J H1=>∃W:Nat->Nat->List V->Hp->Prop,(∃m,W 0 m [] H1)/\∀i m ys H,W i m ys H->
 (J.stop i H/\ys.length≤sizeLine/\∀D,H D=none->Q (.ref D) (upd H D (.lst ys)))\/
 (J.go i H/\ys.length<sizeLine/\∀x H',J.yld i H x H'->g x (σ++List.replicate n none) H' fun σ2 H2=>tc σ2 H2 fun b H3=>
  if b=true then te σ2 H3 fun y H4=>∃m',m'<m/\W (i+1) m' (ys++[y]) H4 else ∃m',m'<m/\W (i+1) m' ys H3)
def mP(g:TG)(n k:Nat):Prop:=∀(σ:St),σ.length=n->∀x H Q,g x (σ++List.replicate k none) H Q->
 g x (σ++List.replicate k none) H fun σ2 H2=>((σ2.length=n+k/\∀(i:Nat) v,(σ++List.replicate k none)[i]?=some (some v)->σ2[i]?=some (some v))/\Q σ2 H2)
section
variable {T:List Str}{iter:Expr}{g:TG}{tc:TT}{te:TE}
theorem ltN{b:Addr}{o:Obj}(e:h.get? b=some o):@LT.lt Nat instLTNat b h.objs.size:=Heap.lt_size e
theorem sw{a b:Addr}(h:@Ne Nat a b):a≠b:=h
theorem leN{a b:Addr}(h:@LE.le Nat instLENat a b):a≤b:=h
theorem ab3(its:List Value)(n:Nat)(u:Value):∃n',Obj.mapSeq (·.push u) { cls:=.type "list",data:=.seq its.toArray n }=({ cls:=.type "list",data:=.seq (its++[u]).toArray n' }:Obj):=
 ⟨_,by simp[Obj.mapSeq];rfl⟩
theorem tw{w:World}{D:Addr}(hD:s.heap.get? D=some { cls:=.type "list",data:=.seq its.toArray n })
 (hz:its.length≤sizeLine) (h:∀h' n',Heap.SameBut D s.heap h'->h'.get? D=some { cls:=.type "list",data:=.seq (its++[u]).toArray n' }->Q .none { s with heap:=h' }):
 wpAny (model prog w) A (call (.builtin "list.append") [.ref D,u]) Q E s:=by
 have hl:s.heap.IsList D its.toArray:=⟨_,hD,rfl,n,rfl⟩;refine wpAny_call_entry slot_list_append hl.typeIs entry_list_append ?_ (args_list_append _ _);show wpAny _ _ (updateSeq D (·.push u) >>= fun _=>ret .none) _ _ s;refine Aa ?_;obtain⟨n',e'⟩:=ab3 its n u;refine wpAny_updateSeq (f:=(·.push u)) hD rfl (Ai ⟨.none,rfl,h _ n' (Heap.SameBut.update ..) ?_⟩) (by rw[Ao];exact hz) (by rw[Bj,Ao];exact Nat.succ_le_succ hz);rw[<-e'];exact Heap.get?_update_self _ hD (by rw[e'];rfl)
theorem kO{Q:VK}{itv:Value}{s₂:Shared}{RR:Value->Addr->Result->Shared->Prop}
 (S:jn X scope) (hc:X.calm=true)
 (hg:∀C fp s₀ H₀,PG (X.comp scope T C fp s₀ H₀) target g) (hgo:mP g X.N.length T.length) (hf:∀C fp s₀ H₀,PF (X.comp scope T C fp s₀ H₀) ifs tc) (he:∀C fp s₀ H₀,PE (X.comp scope T C fp s₀ H₀) elt te)
 (h:PIE X pins σ target (fun J H1=>∃W:Nat->Nat->List V->Hp->Prop,(∃m,W 0 m [] H1)/\∀i m ys H,W i m ys H->
  (J.stop i H/\ys.length≤sizeLine/\∀D,H D=none->Q (.ref D) (upd H D (.lst ys)))\/
  (J.go i H/\ys.length<sizeLine/\∀x H',J.yld i H x H'->g x (σ++List.replicate T.length none) H' fun σ2 H2=>tc σ2 H2 fun b H3=>
   if b=true then te σ2 H3 fun y H4=>∃m',m'<m/\W (i+1) m' (ys++[y]) H4 else ∃m',m'<m/\W (i+1) m' ys H3)) itv s₂)
 (hRR:∀D C s' H' m',qt X pins σ H' s'->mH X pins H' C->s'.heap.Ns C m'->Q (.ref D) H'->RR (.ref D) C (.ok .next) s'):
 wpAny (model X.prog X.w) X.A (newList []) (fun acc s₃=>wpAny (model X.prog X.w) X.A (newFunctionEnv scope X.env.globals (fA scope X.env) [] X.env.qual none .none (some X.env)) (fun cenv s₄=>
  codeAny (model X.prog X.w) X.A (.compStart (.ListComp elt [⟨target,iter,ifs,0⟩] scope pos) 0 itv acc { cenv with scope:=relabel scope X.env }) (RR acc cenv.locals) s₄) E s₃) E s₂:=by
 obtain⟨it,fp,tn,J,H2,rfl,I2,Tn,st2,f2,W,⟨m0,w0⟩,turn⟩:=h;refine Bh (wpAny_newFunctionEnv S.nocell (by intro y hy;simp at hy) (fun h₁ hns₁ hsb₁=>?_) S.kind);dsimp only at hns₁ hsb₁ ⊢;generalize hH2:s₂.heap.push { cls:=.type "list",dict:=none,data:=.seq ([]:List Value).toArray }=G at hns₁ hsb₁ ⊢;have hC:G.objs.size=s₂.heap.objs.size+1:=by rw[<-hH2,Heap.size_push]
 obtain⟨D,eD⟩:∃D,s₂.heap.objs.size=D:=⟨_,rfl⟩;obtain⟨C,eC⟩:∃C,G.objs.size=C:=⟨_,rfl⟩;rw[eD] at hC ⊢;rw[eC] at hC hns₁ hsb₁ ⊢;have hDC:D≠C:=by lia
 have old:∀b o,s₂.heap.get? b=some o->h₁.get? b=some o:=fun b o e=>by have hb:=ltN e;exact hsb₁.extBut b o (sw (by lia)) (Heap.get?_push_of_some _ (hH2▸Heap.get?_push_of_some _ e))
 have hacc:h₁.get? D=some { cls:=.type "list",data:=.seq ([]:List Value).toArray 0 }:=by refine hsb₁.extBut _ _ hDC (Heap.get?_push_of_some _ ?_);rw[<-hH2,<-eD];exact Heap.get?_push_size _ rfl
 have fpo:∀b∈fp,@LT.lt Nat instLTNat b s₂.heap.objs.size:=fun b hb=>by obtain⟨o,e,_⟩:=Tn.obj _ _ st2 b hb;exact ltN e
 have ilt:@LT.lt Nat instLTNat X.env.locals s₂.heap.objs.size:=I2.lt;have isz:X.s₀.heap.objs.size≤s₂.heap.objs.size:=I2.sz;have HD:H2 D=none:=I2.hok.fresh (leN (by exact pV));have HC:H2 C=none:=I2.hok.fresh (leN (by lia));have nfs:∀b:Addr,@LE.le Nat instLENat s₂.heap.objs.size b->b∉bE X.stack:=fun b hb z=>by
  have q:=I2.stkSub b z;rcases Ap.mp q with q | q
  ·rw[<-q] at ilt;exact absurd ilt (Nat.not_lt.mpr hb)
  ·exact I2.nofs hb q
 have cellLt:∀x c,X.env.cells.lookup x=some c->@LT.lt Nat instLTNat c s₂.heap.objs.size:=fun x c e=>by obtain⟨v,q⟩:=I2.cell x c e;exact q.lt
 let X':Cx:=X.comp scope T C fp s₂ H2
 have ok':X'.Ok:={
  mod:=I2.ok.mod,kind:=S.kind,glob:=I2.ok.glob,blt:=I2.ok.blt
  above:=leN (by show @LE.le Nat instLENat s₂.heap.objs.size C;lia)
  inj:=fun x y c h1 h2=>I2.ok.inj x y c (S.cl_old I2 h1) (S.cl_old I2 h2)
  has:=fun x hx=>S.cl_has (S.kindOf hx)
  cab:=fun x c hx=>absurd (show false=true from hx) (by simp)
  hd:=I2.ok.hd,frames:=I2.ok.frames,stk:=.inl rfl
  exf:=fun b hb=>⟨sw (by have:=fpo b hb;show @Ne Nat b C;lia),fun x c e=>(f2 b hb).2.2.2.2.1 x c (S.cl_old I2 e)⟩
  bs:=I2.bs,bsz:=AU I2.ok.bsz I2.sz
  noex:=fun b o e hb=>by
   obtain⟨e0,n0⟩:=I2.ok.bs b o e;rcases (f2 b hb).2.2.2.1 with q | q
   ·exact I2.ok.noex b o e q
   ·have q':@LE.le Nat instLENat X.s₀.heap.objs.size b:=q;have:=ltN e0;lia
  exfs:=fun b hb z=>by
   rcases Ap.mp (I2.stkSub b z) with q | q
   ·exact(f2 b hb).2.1 q
   ·exact(f2 b hb).2.2.1 q
  funs:=I2.stack,frf:=I2.stkFree }
 have I4:∀tk,0<tk->qt X' pins (σ++List.replicate T.length none) H2 { s₂ with heap:=h₁,toks:=tk }:=fun tk htk=>{
  tk:=htk,ok:=ok',os:=rfl,bare:=I2.bare,base:=Un.kept old
  loc:=⟨_,hns₁,fun i x v e1 e2 e3=>by
   have hi:i<σ.length:=by
    by_cases hi:i<σ.length
    ·exact hi
    ·rw[Ak (by exact uR),Cv] at e2;split at e2<;>cases e2
   rw[Az hi] at e2;have hi':i<X.N.length:=by rw[<-I2.len];exact hi
   have e1':X.N[i]?=some x:=by have:(X.N++T)[i]?=some x:=e1;rw[Az hi'] at this;exact this
   have hfr:=S.vis (AR e1') e3;obtain⟨m,hn,hl⟩:=I2.loc;have hk:=S.free x hfr;obtain⟨u,r,l⟩:=hl i x v e1' e2 (.inr hk);refine⟨u,r,.inr ⟨S.back hfr,?_⟩⟩;rcases l with⟨l,_⟩ | ⟨_,c,e,z⟩
   ·rw[l] at hk;rcases hk with q | q<;>cases q
   ·obtain⟨c',e'⟩:=S.cl_has hfr;have e'':=S.cl_old I2 e';rw[e] at e'';cases e'';exact⟨c,e',z.keeps old⟩⟩
  cell:=fun x c e=>by obtain⟨v,z⟩:=I2.cell x c (S.cl_old I2 e);exact⟨v,z.keeps old⟩
  free:=HC,freeC:=fun x c e=>I2.freeC x c (S.cl_old I2 e)
  pin:=fun p hp=>by
   obtain⟨a,b,c,d,e⟩:=I2.pin p hp;have hlt:=ltN a;refine⟨old _ _ a,b,sw (by show @Ne Nat p.1 C;lia),fun z=>?_,e⟩;rcases Ap.mp (I2.stkSub _ z) with q | q
   ·exact c q
   ·exact d q
  hok:=I2.hok.kept old
  len:=by show(σ++_).length=(X.N++T).length;rw[Ac,Ac,BV,I2.len] }
 have fpk:∀(pins':List (Addr×Obj)) (H':Hp),(∀p∈pins',p∈pins\/p.1=D)->(∀b∈fp,H' b=none)->∀b∈fp,mH X' pins' H' b:=fun pins' H' hp hn b hb=>by
  obtain⟨_,q1,q2,q3,q4,q5⟩:=f2 b hb;have hlt:=fpo b hb;refine⟨hn b hb,sw (by show @Ne Nat b C;lia),ok'.exfs b hb,.inl hb,(ok'.exf b hb).2,fun p hpp=>?_⟩;rcases Aj.mp hpp with z | z
  ·exact q5 p (An _ z)
  ·rcases hp p z with z | z
   ·exact q5 p (Ah _ z)
   ·rw[z];exact sw (by lia)
 have stay:Tn.keep=Tn.keep:=rfl;have loop:∀s₃:Shared,s₃={ s₂ with heap:=h₁,toks:=s₂.toks+([]:List (Str×Value)).length }->
  codeAny (model X.prog X.w) X.A (.compLoop (.ListComp elt [⟨target,iter,ifs,0⟩] scope pos) 0 (.ref it) (.ref D) X'.env) (RR (.ref D) C) s₃:=by
  rintro s₃ rfl;refine eY (fun n s'=>∃i σ' H' ys its k,qt X' pins σ' H' s'/\(σ'.length=X.N.length+T.length/\∀(i:Nat) v,(σ++List.replicate T.length none)[i]?=some (some v)->σ'[i]?=some (some v))/\
   s'.heap.get? D=some { cls:=.type "list",data:=.seq (its:List Value).toArray k }/\zn ys its/\H' D=none/\tn i s'.heap/\(∀b∈fp,H' b=none)/\W i n ys H') ?_ m0
   ⟨0,_,H2,[],[],0,I4 _ I2.tk,⟨by rw[Ac,BV,I2.len],fun _ _ e=>e⟩,hacc,.nil,HD,Tn.keep _ _ _ st2 fun b _ o e=>old b o e,fun b hb=>(f2 b hb).1,w0⟩
  rintro n s3 ⟨i,σ3,H3,ys,its,k,I3,⟨hl3,hs3⟩,hD3,hv3,hH3,st3,fr3,w3⟩;have hlen:its.length=ys.length:=hv3.length.symm;have D_fs:D∉X'.fs:=nfs D (by exact pV);have DC':D≠X'.env.locals:=hDC;have I3p:qt X' (pins++[(D,{ cls:=.type "list",data:=.seq its.toArray k })]) (σ++List.replicate T.length none) H3 s3:=
   (I3.weak (by rw[hl3,Ac,BV,I2.len]) hs3).pins_of fun p hp=>by
    rcases Aj.mp hp with z | z
    ·exact I3.pin p (Ah _ z)
    ·have e:=AB.mp z;subst e;exact⟨hD3,hH3,DC',D_fs,fun v z=>by cases z⟩
  have pinsD:∀p∈pins++[(D,({ cls:=.type "list",data:=.seq its.toArray k }:Obj))],p∈pins\/p.1=D:=fun p hp=>by
   rcases Aj.mp hp with z | z
   ·exact .inl z
   ·exact .inr (by rw[AB.mp z])
  rcases turn i n ys H3 w3 with⟨stop,hz,qn⟩ | ⟨go,hz,step⟩
  ·refine v4 (Tn.done X' rfl rfl rfl hc i _ s3 _ H3 _ I3p (fpk _ H3 pinsD fr3) st3 stop) fun r s4 ⟨hr,I4'⟩=>?_;subst hr;obtain⟨hD4,hH4,_⟩:=I4'.pin (D,_) (Ah _ (Ah _ Aq));obtain⟨m',hn',_⟩:=I4'.loc;have un:Un (bE X.stack) fp H2 (upd H3 D (.lst ys)) s₂.heap s4.heap:={
    keep:=I4'.base.keep,slot:=I4'.base.slot
    free:=fun b o e n hx=>by have:=ltN e;rw[qp (sw (by lia))];exact I4'.base.free b o e n hx
    there:=I4'.base.there
    tups:=fun b xs e=>by rw[qp (fun z=>by rw[z,HD] at e;cases e)];exact I4'.base.tups b xs e
    frzs:=fun b o u e=>by rw[qp (fun z=>by rw[z,HD] at e;cases e)];exact I4'.base.frzs b o u e
    tbls:=fun b ps e=>by rw[qp (fun z=>by rw[z,HD] at e;cases e)];exact I4'.base.tbls b ps e }
   have hok:dN X.prog X.w (upd H3 D (.lst ys)) s4.heap:=fun b u e=>by
    by_cases hb:b=D
    ·subst hb;rw[zw] at e;cases e;exact⟨hz,its,k,hv3,hD4⟩
    ·rw[qp hb] at e;refine(I4'.hok b u e).stay (fun _ _ _ q=>q) (fun c q=>?_) fun c xs q=>?_
     ·rw[qp (j8 q hH3)];exact q
     ·rw[qp (j8 q hH3)];exact q
   have I5:qt X pins σ (upd H3 D (.lst ys)) s4:=I2.call' (ch:=fp) I4'.os un hok I4'.bare fun b hb=>⟨(f2 b hb).2.2.2.1,(f2 b hb).2.1,(f2 b hb).2.2.2.2.1,(f2 b hb).2.2.2.2.2⟩;refine hRR D C s4 _ m' I5 ?_ hn' (qn D hH3);refine⟨by rw[qp (AK hDC)];exact I4'.free,?_,?_,.inr ?_,fun x c e=>?_,fun p hp=>?_⟩
   ·exact sw (by lia)
   ·exact I2.nofs (leN (by lia))
   ·exact leN (by lia)
   ·exact sw (by have:=cellLt x c e;lia)
   ·exact sw (by have:=ltN (I2.pin p hp).1;lia)
  ·refine v4 (Tn.item X' rfl rfl rfl hc i _ s3 _ H3 _ I3p (fpk _ H3 pinsD fr3) st3 go) fun r s4 ⟨u,hr,h4⟩=>?_;subst hr;refine v4 h4 fun _ s5 ⟨x,H5,I5,r5,y5,st5,fr5⟩=>?_;have I5':=I5.pinned (fpk _ H5 pinsD fr5) (Tn.obj _ _ st5);refine AV ((hg C fp s₂ H2) _ s5 _ H5 x u _ I5' r5 (hgo σ I2.len x H5 _ (step x H5 y5))) (fun _ s6 ⟨σ6,H6,I6,⟨hl6,hs6⟩,q6⟩=>?_) fun _ _ z=>z;refine AV ((hf C fp s₂ H2) _ s6 σ6 H6 _ I6 q6) (fun b s7 ⟨H7,I7,q7⟩=>?_) fun _ _ z=>z;have vk:∀{s8:Shared} {H8:Hp} (I8:qt X' ((pins++[(D,{ cls:=.type "list",data:=.seq its.toArray k })])++jT fp s5.heap) σ6 H8 s8),tn (i+1) s8.heap/\(∀b∈fp,H8 b=none)/\s8.heap.get? D=some { cls:=.type "list",data:=.seq its.toArray k }/\H8 D=none/\qt X' pins σ6 H8 s8:=fun {s8 H8} I8=>by
    refine⟨Tn.keep _ _ _ st5 fun b hb o e=>(I8.pin (b,o) (Ah _ (Ah _ (cW hb e)))).1,fun b hb=>?_,?_,?_,I8.unpinned.unpinned⟩
    ·obtain⟨o,e,d⟩:=Tn.obj _ _ st5 b hb;exact(I8.pin (b,o) (Ah _ (Ah _ (cW hb e)))).2.1
    ·exact(I8.pin (D,_) (Ah _ (An _ (Ah _ Aq)))).1
    ·exact(I8.pin (D,_) (Ah _ (An _ (Ah _ Aq)))).2.1
   cases b with
   |false=>
    rw[As Ax] at q7 ⊢;obtain⟨m',hm,w7⟩:=q7;obtain⟨a1,a2,a3,a4,a5⟩:=vk I7;exact⟨m',hm,i+1,σ6,H7,ys,its,k,a5,⟨hl6,hs6⟩,a3,hv3,a4,a1,a2,w7⟩
   |true=>
    rw[AA rfl] at q7 ⊢;refine AV ((he C fp s₂ H2) _ s7 σ6 H7 _ I7 q7) (fun v s8 ⟨y,H8,I8,r8,m',hm,w8⟩=>?_) fun _ _ z=>z;obtain⟨a1,a2,a3,a4,a5⟩:=vk I8;refine tw a3 (by lia) fun h9 k9 hs9 hD9=>?_;have nD:∀b∈fp,b≠D:=fun b hb=>sw (by have:=fpo b hb;lia);refine⟨m',hm,i+1,σ6,H8,ys++[y],its++[v],k9,?_,⟨hl6,hs6⟩,hD9,hv3.append (.cons r8 .nil),a4,Tn.keep _ _ _ a1 fun b hb o e=>(hs9.2 b (nD b hb)).trans e,a2,w8⟩;exact a5.turned (t':=s8.toks) (it:=D) (fun b o hb e=>(hs9.2 b hb).trans e) a4 DC' (.inr (leN (by show @LE.le Nat instLENat s₂.heap.objs.size D;exact pV))) (fun x c e=>sw (by have:=cellLt x c (S.cl_old I2 e);lia)) fun p hp=>sw (by have:=ltN (I2.pin p hp).1;lia)
 exact codeAny_compStart_list (loop _ rfl) (Tn.self _ _ _ _ _ (Tn.keep _ _ _ st2 fun b _ o e=>old b o e) (loop _ rfl))
end
section
variable {T:List Str}{iter:Expr}{g:TG}{tc:TT}{te:TE}
theorem alb(T:List Str)(S:jn X scope)(hc:X.calm=true)(hi:PI X target iter wi)(hg:∀C fp s₀ H₀,PG (X.comp scope T C fp s₀ H₀) target g)(hgo:mP g X.N.length T.length)
 (hf:∀C fp s₀ H₀,PF (X.comp scope T C fp s₀ H₀) ifs tc) (he:∀C fp s₀ H₀,PE (X.comp scope T C fp s₀ H₀) elt te)
 (hs:∀x,foldedSetIterable iter X.env x=pure x:=by intro _;rfl):PE X (.ListComp elt [⟨target,iter,ifs,0⟩] scope pos) (tLC T.length wi g tc te):=by
 intro pins s σ H Q I h;rw[eval_ListComp];refine wpAny_comprehension_free (use:=none) rfl hs (S.clo I) S.kind S.names (v4 (hi pins s σ H _ I h) fun v s1 h1=>v4 h1 fun itv s2 h2=>?_);refine kO (RR:=fun acc C=>compPost (model X.prog X.w) X.A X.xe none (EP X pins σ Q) acc C) S hc hg hgo hf he h2 ?_;intro D C s' H' m' I' f' hn q;exact⟨m',hn,fun h' hs'=>⟨.ref D,H',I'.turned (t':=s'.toks) (it:=C) (fun b o hb e=>(hs'.2 b hb).trans e) f'.1 (AK (AK f'.2.1)) f'.2.2.2.1 f'.2.2.2.2.1 f'.2.2.2.2.2,rfl,q⟩⟩
theorem zX(T:List Str){px:Pos}(hN:X.N.Nodup)(hix:X.N[i]?=some x)(hx:Loc X.env.scope x)(S:jn X scope)(hc:X.calm=true)(hi:PI X target iter wi)
 (hg:∀C fp s₀ H₀,PG (X.comp scope T C fp s₀ H₀) target g) (hgo:mP g X.N.length T.length)
 (hf:∀C fp s₀ H₀,PF (X.comp scope T C fp s₀ H₀) ifs tc) (he:∀C fp s₀ H₀,PE (X.comp scope T C fp s₀ H₀) elt te)
 (hsw:swapsWith (.ListComp elt [⟨target,iter,ifs,0⟩] scope lp) (some (.Name x px)) pos.line X.env=pure true:=by rfl)
 (hfn:X.fn x=true\/X.env.scope.names.lookup x=some .local:=by first | exact .inl rfl | exact .inr rfl | assumption)
 (hs:∀x,foldedSetIterable iter X.env x=pure x:=by intro _;rfl):PS X (.Assign [.Name x px] (.ListComp elt [⟨target,iter,ifs,0⟩] scope lp) pos) (aje (tLC T.length wi g tc te) (dg i)):=by
 intro pins s σ H D I h;rw[exec_Assign_Name_used _ _ _ _ hsw];refine Aa (wpAny_standAt (Aa ?_));show wpAny _ X.A (do let _ <-comprehension (.ListComp elt [⟨target,iter,ifs,0⟩] scope lp) scope X.env _ (newList []) false (eval iter X.env) (some (assign (.Name x px) X.env))) _ _ s;refine Aa (AV (wpAny_comprehension_free (use:=some (assign (.Name x px) X.env)) (Q:=fun _ s'=>SP X pins D .next s') rfl hs (S.clo I) S.kind S.names
  (v4 (hi pins s σ H _ I h) fun v s1 h1=>v4 h1 fun itv s2 h2=>?_)) (fun _ s' hq=>Ai (Ai hq)) fun _ _ e=>e)
 refine kO (RR:=fun acc C=>compPost (model X.prog X.w) X.A X.xe (some (assign (.Name x px) X.env)) (fun _ s'=>SP X pins D .next s') acc C) (pins:=pins) (σ:=σ) (Q:=fun x H1=>dg i x σ H1 D.nx) S hc hg hgo hf he h2 ?_;intro A C s' H' m' I' f' hn q;show wpAny _ X.A (assign (.Name x px) X.env (.ref A)) _ _ s';refine wpAny_assign_Name (m6 I' hN hix hx (v:=.ref A) rfl (fun s'' I'' ⟨a,hs,ha⟩ _=>?_) hfn);have hCa:C≠a:=by
  rcases ha with z | z
  ·rw[z];exact f'.2.1
  ·exact fun e=>f'.2.2.2.2.1 x a z e.symm
 exact⟨m',hn.sameBut hs hCa,fun h' hs'=>⟨_,H',I''.turned (t':=s''.toks) (it:=C) (fun b o hb e=>(hs'.2 b hb).trans e) f'.1 f'.2.1 f'.2.2.2.1 f'.2.2.2.2.1 f'.2.2.2.2.2,q⟩⟩
end
def vm(outer:Scope)(N:List Str)(sc:Scope):Bool:=
 decide (sc.kind=.function)&&sc.names.all (fun p=>decide (p.2≠.cell)&&(decide (p.2≠.local)||decide (sc.names.lookup p.1=some .local))&&(decide (p.2≠.free)||(decide (outer.names.lookup p.1=some .cell)||decide (outer.names.lookup p.1=some .free))))
  && N.all (fun x=>decide (sc.names.lookup x≠some .local))
theorem vm.mk{sc:Scope}(h:vm X.env.scope X.N sc=true):jn X sc:=by
 unfold vm at h;rw[AY,AY,BY,BY] at h;obtain⟨⟨h1,h2⟩,h3⟩:=h;have fm:∀n,(n,NameKind.free)∈sc.names->X.env.kindOf n=some .cell\/X.env.kindOf n=some .free:=fun n hn=>by
  have q:=h2 _ hn;simp only[AY,C4,decide_eq_true_eq] at q;rcases q.2 with z | z
  ·exact absurd rfl z
  ·exact z
 refine⟨of_decide_eq_true h1,fun y hy=>?_,fun y hy e=>?_,fun n hn=>fm n (Bu hn),fm,fun x hx=>of_decide_eq_true (h3 x hx)⟩
 ·have q:=h2 _ hy;simp only[AY,C4,decide_eq_true_eq] at q;exact q.1.1
 ·have q:=h2 _ hy;simp only[AY,C4,decide_eq_true_eq] at q;rcases q.1.2 with z | z
  ·exact absurd e z
  ·exact z
abbrev EK:=@vm.mk
theorem uV(n:Nat):mP (dg n) n 1:=by
 intro σ hl x H Q h;refine⟨⟨by simp[hl],fun i v e=>?_⟩,h⟩;by_cases hi:i=n
 ·subst hi;rw[Ak (by exact pV)] at e;simp[hl] at e
 ·rw[A6 (AK hi)];exact e
theorem aM:bootBuiltins "isinstance" = some (.builtin "isinstance"):=by decide +kernel
theorem gG:bootBuiltins "tuple" = some (.type "tuple"):=by decide +kernel
theorem aak:bootBuiltins "str" = some (.type "str"):=by decide +kernel
theorem uY:bootBuiltins "int" = some (.type "int"):=by decide +kernel
theorem a9:bootBuiltins "list" = some (.type "list"):=by decide +kernel
theorem ah4:bootBuiltins "len" = some (.builtin "len"):=by decide +kernel
theorem huK{k:Nat}(hr:w4 k A):A.units+128<cLine:=by have:=hr.un;lia
theorem cJ(h:n≤1000):n≤sizeLine:=Bd (mI h)
theorem yq.of{P:Program}{w:World}{K:Af}{k:Nat}(F:am P w K mg base CX0 k f fd ps sp)(b:dH K fd ps [])(kp:PySem.W.keepIn K (.ref f)=true)(m:mg x=some (.ref f)):
 yq P w K mg base k x ps sp:=⟨f,fd,F,b,kp,m⟩
theorem am.never{P:Program}{w:World}{K:Af}{k:Nat}(no:∀vs H Q E,¬sp vs H Q E):am P w K mg base CX0 k f fd ps sp:=
 ⟨fun vs H Q E h=>absurd h (no vs H Q E),fun A outer s H args us vs Q E _ _ _ _ h=>absurd h (no vs H Q E)⟩
section
variable (K:Af)(P:Program)(w:World)
end
structure zj(K:Af)(x:Str)(st:Stmt):Prop where
 ex:∃(f:Addr) (kV doc pm:Value) (an:Option Addr) (cdv ct:Value),PySem.W.nsIn K mainGlobals x=some (some (.ref f))/\Fun K x x st f (PySem.W.fnOf x x (xq st) (jk st) (qo st) .none kV doc pm an cdv ct)
theorem def_in{K:Af}{kV ct:Value}(a:PySem.W.nsIn K mainGlobals x=some (some (.ref f)))
 (l:K.lookup f=some ⟨oc,od,.func (PySem.W.fnOf x x (xq st) (jk st) (qo st) .none kV doc pm an cdv ct),osl⟩) (c:PySem.W.codeIn K cdv x=true) (k:PySem.W.keepIn K (.ref f)=true):zj K x st:=
 ⟨f,kV,doc,pm,an,cdv,ct,a,agw (st:=st) l c k⟩
theorem zj.use{K:Af}(D:zj K x st)(X:K.In h)(G:h.Ns mainGlobals mg)
 (hb:∀(kV doc pm:Value) (an:Option Addr) (cdv ct:Value) (us:List Value),us.length=ps.length->bindArgs (PySem.W.fnOf x x (xq st) (jk st) (qo st) .none kV doc pm an cdv ct) ⟨us,[]⟩=pure (ps.zip us)):
 ∃f fd,Fun K x x st f fd/\dH K fd ps []/\mg x=some (.ref f):=by
 obtain⟨f,kV,doc,pm,an,cdv,ct,a,F⟩:=D.ex;exact⟨f,_,F,dH.all (hb kV doc pm an cdv ct),Bp X G a⟩
end L2
namespace Words
open PySem L2
inductive Wd where
 |leaf (t:Bool) (n:Str)
 |node (e:Bool) (l r:Wd)
def kL:Bool->Str
 |false => "plain"
 |true => "turned"
def kN:Bool->Str
 |false => "both"
 |true => "either"
def Wd.turn:Wd->Wd
 |.leaf t n=>.leaf (!t) n
 |.node e l r=>.node (!e) l.turn r.turn
def Wd.depth:Wd->Nat
 |.leaf _ _=>1
 |.node _ l r=>max l.depth r.depth+1
def Wd.leaves:Wd->Nat
 |.leaf _ _=>1
 |.node _ l r=>l.leaves+r.leaves
theorem Wd.leaves_pos:∀w:Wd,1≤w.leaves
 |.leaf _ _=>Am _
 |.node _ l r=>by have:=Wd.leaves_pos l;show 1≤l.leaves+r.leaves;exact ahy
abbrev EM:=@Wd.leaves_pos
theorem Wd.depth_le:∀w:Wd,w.depth≤w.leaves
 |.leaf _ _=>Am _
 |.node _ l r=>by have:=Wd.depth_le l;have:=Wd.depth_le r;have:=EM l;have:=EM r;show max l.depth r.depth+1≤l.leaves+r.leaves;lia
def oO:Wd->Da
 |.leaf t n=>.tup [.s (.str (kL t)),.s (.str n)]
 |.node e l r=>.tup [.s (.str (kN e)),oO l,oO r]
def eI(x:Str):Prop:=1≤x.length/\x.length≤8/\∀c∈x.cps.toList,97≤c/\c≤122
def Wd.ok:Wd->Prop
 |.leaf _ n=>eI n
 |.node _ l r=>l.ok/\r.ok
theorem Paired.getP{α β:Type}{F:α->β->Prop}:∀{xs:List α} {ys:List β} {i:Nat} {x:α},Paired F xs ys->xs[i]?=some x->∃y,ys[i]?=some y/\F x y
 |_,_,_,_,.nil,h=>by simp at h
 |_,_,0,_,.cons (b:=y) r _,h=>by simp at h;subst h;exact⟨y,rfl,r⟩
 |_,_,i+1,_,.cons _ t,h=>by obtain⟨y,e,q⟩:=Paired.getP (i:=i) t (by simpa using h);exact⟨y,by simpa using e,q⟩
end Words
namespace L2
open PySem PySem.Spec PyProof.Rows
section
theorem wX{a b:Addr}{ys:List V}{es:List Da}(I:qt X pins σ H s)(hu:A.units<cLine)(sx:dC X.K H a xs)(sy:dC X.K H b ys)(px:Paired (vo X.K H n) xs ds)(py:Paired (vo X.K H m) ys es)
 (ih:∀{x y:V} {d e:Da} {u v:Value},vo X.K H n x d->vo X.K H m y e->zq x u->zq y v->SeqAt.EqAt A.in1 s u v (Da.eq d e)):SeqAt.RcNeAt A s (.ref a) (.ref b) (!Da.eqs ds es):=by
 obtain⟨us,vx,tx,_⟩:=I.tuple sx;obtain⟨vs,vy,ty,_⟩:=I.tuple sy;have q:=SeqAt.RcNeAt.tuples tx ty hu (gY px py vx vy ih);rw[Ao,Ao,<-vx.length,<-vy.length,px.length,py.length,EG] at q;exact q
theorem aa4{a b:Addr}{ys:List V}{es:List Da}(I:qt X pins σ H s)(hu:A.units<cLine)(sx:aB X.K H a xs)(sy:aB X.K H b ys)(px:Paired (vo X.K H n) xs ds)(py:Paired (vo X.K H m) ys es)
 (ih:∀{x y:V} {d e:Da} {u v:Value},vo X.K H n x d->vo X.K H m y e->zq x u->zq y v->SeqAt.EqAt A.in1 s u v (Da.eq d e)):SeqAt.RcNeAt A s (.ref a) (.ref b) (!Da.eqs ds es):=by
 obtain⟨us,vx,tx,_⟩:=I.list sx;obtain⟨vs,vy,ty,_⟩:=I.list sy;by_cases hz:us.toArray.size=vs.toArray.size
 ·have q:=SeqAt.RcNeAt.lists (je tx) (je ty) hz hu (gY px py vx vy ih);have hz':ds.length=es.length:=by rw[<-px.length,<-py.length,vx.length,vy.length];simpa using hz
  have e:=EG ds es;rw[hz',Nat.min_self] at e;rw[<-hz'] at e;rw[Ao,<-vx.length,px.length] at q;simp only[beq_self_eq_true,Eu] at e;rw[e] at q;exact q
 ·have q:=SeqAt.RcNeAt.lists_lengths (je tx) (je ty) (by simpa using hz) hu;have hz':ds.length≠es.length:=by rw[<-px.length,<-py.length,vx.length,vy.length];intro z;exact hz (by simpa using z)
  have e:=EG ds es;have f:(ds.length==es.length)=false:=by simpa using hz'
  rw[f,Do] at e;rw[<-e];exact q
end
section
def uNe(K:Af)(k:Nat):R2:=fun x y H Q=>match x,y with
 |.ref a,.ref b=>∃n m d e,n≤k/\vo K H n (.ref a) d/\vo K H m (.ref b) e/\Q (.bl (!Da.eq d e)) H
 |x,y=>aeo x y=true/\Q (.bl (!decide (x=y))) H
theorem ahc{k:Nat}(hu:X.A.units+k<cLine):aT X (compareOp .NotEq) (uNe X.K k):=by
 intro pins s σ H x y v u Q I rx ry h;cases x with
 |ref a=>
  cases y with
  |ref b=>
   obtain⟨n,m,d,e,hn,h1,h2,q⟩:=h;cases rx;cases ry;have vk:∀{k:Bool},k=(!Da.eq d e)->SeqAt.RcNeAt X.A s (.ref a) (.ref b) k->wpAny (model X.prog X.w) X.A (compareOp .NotEq (.ref a) (.ref b)) (EP X pins σ Q) X.xe s:=fun {k} e' r=>
    r X.prog X.w X.xe (EP X pins σ Q) (by rw[e'];exact⟨.bl _,H,I,rfl,q⟩)
   cases n with
   |zero=>exact(j7 h1.2).elim
   |succ n=>
    cases m with
    |zero=>exact(j7 h2.2).elim
    |succ m=>
     have hin:X.A.in1.units+n<cLine:=by show X.A.units+1+n<cLine;lia
     rcases h1 with⟨_,f⟩ | ⟨a',xs,ds,e1,rfl,sx,px⟩ | ⟨a',xs,ds,e1,rfl,sx,px⟩
     ·exact(j7 f).elim
     ·cases e1;rcases h2 with⟨_,f⟩ | ⟨b',ys,es,e2,rfl,sy,py⟩ | ⟨b',ys,es,e2,rfl,sy,py⟩
      ·exact(j7 f).elim
      ·cases e2;exact vk rfl (wX I (by lia) sx sy px py fun h1 h2 r1 r2=>lD I n hin h1 h2 r1 r2)
      ·cases e2;obtain⟨us,vx,tx,_⟩:=I.tuple sx;obtain⟨vs,vy,ty,_⟩:=I.list sy;exact vk rfl (.tuple_list tx (je ty) (by lia))
     ·cases e1;rcases h2 with⟨_,f⟩ | ⟨b',ys,es,e2,rfl,sy,py⟩ | ⟨b',ys,es,e2,rfl,sy,py⟩
      ·exact(j7 f).elim
      ·cases e2;obtain⟨us,vx,tx,_⟩:=I.list sx;obtain⟨vs,vy,ty,_⟩:=I.tuple sy;exact vk rfl (.list_tuple (je tx) ty (by lia))
      ·cases e2;exact vk rfl (aa4 I (by lia) sx sy px py fun h1 h2 r1 r2=>lD I n hin h1 h2 r1 r2)
  |_=>exact afx pins s σ H _ _ v u Q I rx ry h
 |_=>cases y<;>exact afx pins s σ H _ _ v u Q I rx ry h
end
theorem pP:bootBuiltins "max" = some (.builtin "max"):=by decide +kernel
theorem jI:bootBuiltins "bool" = some (.type "bool"):=by decide +kernel
end L2
namespace Words
open PySem L2
def Wd.size:Wd->Nat
 |.leaf _ _=>1
 |.node _ l r=>1+l.size+r.size
theorem Wd.size_eq:∀w:Wd,w.size+1=2*w.leaves
 |.leaf _ _=>rfl
 |.node _ l r=>by have:=Wd.size_eq l;have:=Wd.size_eq r;show 1+l.size+r.size+1=2*(l.leaves+r.leaves);lia
end Words
namespace L2
open PySem PySem.Spec PyProof.Rows
theorem jz.get{P:Program}{w:World}{a:Addr}{o:HO}(x:jz P w H h a o):∃ob,h.get? a=some ob:=by
 cases o with
 |lst xs=>obtain⟨_,_,_,_,e⟩:=x;exact⟨_,e⟩
 |tup xs=>obtain⟨_,_,_,_,e,_⟩:=x;exact⟨_,e⟩
 |dK kvs=>obtain⟨_,_,_,_,o,_,_,e,_⟩:=x;exact⟨_,e⟩
 |dT kvs=>obtain⟨_,_,_,_,o,_,_,e,_⟩:=x;exact⟨_,e⟩
 |set S n=>obtain⟨o,_,_,_,e,_⟩:=x;exact⟨_,e⟩
 |ins C dx fs=>obtain⟨_,_,_,e,_⟩:=x;exact⟨_,e⟩
 |own y=>exact x
 |xd fs=>obtain⟨_,⟨_,_,_,e,_⟩,_⟩:=x;exact⟨_,e⟩
 |rng lo hi=>obtain⟨_,_,_,e⟩:=x;exact⟨_,e⟩
 |frz ob u=>obtain⟨e,_⟩:=x;exact⟨_,e⟩
 |tbl ps=>exact⟨_,show h.get? a=some _ from x⟩
 |met f y=>exact⟨_,show h.get? a=some _ from x⟩
 |ext φ=>obtain⟨_,e,_⟩:=x;exact e
def pK(h0 h:Heap)(H:Hp)(a C:Addr)(tr:Option Addr):Prop:=
 h0.get? a=none/\H a=none/\∃oe vs a0,h.get? a=some oe/\oe.cls=.ref C/\oe.data=.fields vs/\vs[0]?=some a0/\
  match tr with
  |none=>vs[1]?=some .none
  |some T=>vs[1]?=some (.ref T)/\h0.get? T=none/\H T=none/\T≠a/\∃oT ts,h.get? T=some oT/\oT.data=.fields ts/\ts[3]?=some .none
def aV(a:Addr)(tr:Option Addr)(fs:List Addr):List Addr:=a::(tr.toList++fs)
section
variable {a:Addr}{tr:Option Addr}
theorem jD{l:List Env}{b:Addr}(h:env∈l)(e:env.frame=some b):b∈bE l:=DH.mpr ⟨env,h,e⟩
theorem jE(I:qt X pins σ H s)(hs:X.stack=X.env::X.outer)(hx:X.ex=[])(new:X.s₀.heap.get? a=none)(free:H a=none)(newT:∀T,tr=some T->X.s₀.heap.get? T=none/\H T=none){a0 fl:Value}
 (k1:(PySem.W.hideAll s.heap (aV a tr (bE X.stack))).StaysIn h') (k2:h'.FunFrames (PySem.W.hideAll s.heap (aV a tr (bE X.stack))) X.stack) (k3:h'.TracedAtW (PySem.W.hideAll s.heap (aV a tr (bE X.stack))) a (.ref C) a0 fl)
 (k4:∀b o,s.heap.get? b=some o->(∀vs,o.data≠.fields vs)->∃sl,h'.get? b=some { o with slots:=sl }):
 Un X.fs [] X.H₀ H X.s₀.heap h'/\dN X.prog X.w H h'/\∃T,(∀b o,s.heap.get? b=some o->(∀T0,tr=some T0->b≠T0)->b≠T)/\X.s₀.heap.get? T=none/\H T=none/\T≠a/\∃oe vs oT ts,h'.get? a=some oe/\oe.cls=.ref C/\vs[0]?=some a0/\oe.data=.fields vs/\vs[1]?=some (.ref T)/\h'.get? T=some oT/\oT.data=.fields ts/\ts[3]?=some fl:=by
 have kp:∀b o,s.heap.get? b=some o->b∉aV a tr (bE X.stack)->h'.get? b=some o:=fun b o e n=>k1 b o (CY _ e n);have sl:∀b o,s.heap.get? b=some o->b∈bE X.stack->∃sl,h'.get? b=some { o with slots:=sl }:=fun b o e hb=>by obtain⟨_,o',e',nf⟩:=I.stack.mem hb;rw[e] at e';cases e';exact k4 b o e nf
 have hidN:∀b,b∈aV a tr (bE X.stack)->H b=none:=fun b hb=>by
  rcases Ap.mp hb with e | hb
  ·rw[e];exact free
  ·rcases Aj.mp hb with q | q
   ·exact(newT b (by simpa using q)).2
   ·exact I.stkFree b q
 have notHid:∀b o,X.s₀.heap.get? b=some o->b∉X.fs->b∉aV a tr (bE X.stack):=fun b o e nb hb=>by
  rcases Ap.mp hb with q | hb
  ·rw[q,new] at e;cases e
  ·rcases Aj.mp hb with q | q
   ·rw[(newT b (by simpa using q)).1] at e;cases e
   ·rcases Ap.mp (I.stkSub b q) with q | q
    ·exact absurd (AJ (Heap.lt_size e) I.ok.above) (by rw[q];exact C2 _)
    ·exact nb q
 have fsub:∀b,b∈X.fs->b∈bE X.stack:=fun b hb=>by
  rw[hs];unfold bE;rw[Ct];split
  ·exact hb
  ·exact Ag _ hb
 have noex:∀b:Addr,b∉X.ex:=fun b=>by rw[hx];simp
 have hokk:dN X.prog X.w H h':=fun b u e=>(I.hok b u e).stay (fun c w' hc q=>kp c w' q fun hm=>by
  have n:=hidN c hm;rcases hc with z | z
  ·rw[z,e] at n;cases n
  ·rw[z] at n;cases n) (fun _ q=>q) fun _ _ q=>q
 refine⟨⟨fun b o e n hb _=>?_,fun b o e n hb _=>?_,fun b o e n _=>I.base.free b o e n (noex b),fun b o e _=>?_,I.base.tups,I.base.frzs,I.base.tbls⟩,hokk,?_⟩
 ·exact kp b o (I.base.keep b o e n hb (noex b)) (notHid b o e hb)
 ·obtain⟨z,e1⟩:=I.base.slot b o e n hb (noex b);obtain⟨z',e2⟩:=sl b _ e1 (fsub b hb);exact⟨z',e2⟩
 ·obtain⟨o',e1⟩:=I.base.there b o e (noex b);by_cases hb:b∈X.fs
  ·obtain⟨z',e2⟩:=sl b _ e1 (fsub b hb);exact⟨_,e2⟩
  ·exact⟨o',kp b o' e1 (notHid b o e hb)⟩
 ·obtain⟨oe',vs',T,oT,ts,he',⟨hc',h0'⟩,hd',h1',hnT,hTa,hT,hdT,h3⟩:=k3;have inn:∀o,s.heap.get? T=some o->T∈aV a tr (bE X.stack):=fun o e=>by
   by_cases q:T∈aV a tr (bE X.stack)
   ·exact q
   ·rw[CY _ e q] at hnT;cases hnT
  have nfr:T∉bE X.stack:=fun hb=>by obtain⟨_,o',e',nf⟩:=k2.mem hb;rw[hT] at e';cases e';exact nf ts hdT
  refine⟨T,fun b o e ne z=>?_,?_,?_,hTa,oe',vs',oT,ts,he',hc',h0',hd',h1',hT,hdT,h3⟩
  ·subst z;rcases Ap.mp (inn o e) with z | z
   ·exact hTa z
   ·rcases Aj.mp z with z | z
    ·exact ne b (by simpa using z) rfl
    ·exact nfr z
  ·cases q:X.s₀.heap.get? T with
   |none=>rfl
   |some o=>
    obtain⟨o',e1⟩:=I.base.there T o q (noex T);rcases Ap.mp (inn o' e1) with z | z
    ·exact absurd z hTa
    ·rcases Aj.mp z with z | z
     ·rw[(newT T (by simpa using z)).1] at q;cases q
     ·exact absurd z nfr
  ·cases q:H T with
   |none=>rfl
   |some u=>
    obtain⟨o',e1⟩:=(I.hok T u q).get;have:=hidN T (inn o' e1);rw[q] at this;cases this
theorem yt{Q:Unit->Shared->Prop}(I:qt X pins σ H s)(hs:X.stack=X.env::X.outer)(hf:X.env.frame=some X.env.locals)(hx:X.ex=[])(L:pK X.s₀.heap s.heap H a C tr)
 (h:∀h' T,Un X.fs [] X.H₀ H X.s₀.heap h'->dN X.prog X.w H h'->pK X.s₀.heap h' H a C (some T)->Q () { s with heap:=h' }):wpAny M X.A (leaving X.env (.ref a)) Q E s:=by
 have L0:=L;obtain⟨new,free,oe,vs,b0,he,hc,hd,h0,htr⟩:=L0;have fr:s.heap.FunFrames (PySem.W.hideAll s.heap (aV a tr (bE X.stack))) X.stack:=CD I.stack fun env he b hb=>Ag _ (Ah _ (jD he hb));have st:(PySem.W.hideAll s.heap (aV a tr (bE X.stack))).StaysIn s.heap:=fun b o e=>CC _ e;have na:(PySem.W.hideAll s.heap (aV a tr (bE X.stack))).get? a=none:=BJ _ Aq;have hfr:X.A.frames=some (X.env::X.outer):=by rw[<-hs];exact I.ok.frames
 have go:∀h',Heap.LeftW (PySem.W.hideAll s.heap (aV a tr (bE X.stack))) (X.env::X.outer) a (.ref C) b0 s.heap h'->Q () { s with heap:=h' }:=fun h' ⟨k1,k2,k3,k4⟩=>by obtain⟨u,hok,T,_,n1,n2,ne,oe',vs',oT,ts,e1,e2,e3,e4,e5,e6,e7,e8⟩:=jE I hs hx new free (by intro T e;subst e;exact⟨htr.2.1,htr.2.2.1⟩) k1 (by rw[hs];rw[hs] at k2;exact k2) k3.at k4;exact h h' T u hok ⟨new,free,oe',vs',b0,e1,e2,e4,e3,e5,n1,n2,ne,oT,ts,e6,e7,e8⟩
 have nT:∀T,tr=some T->(PySem.W.hideAll s.heap (aV a tr (bE X.stack))).get? T=none:=fun T e=>by subst e;exact BJ _ (Ag _ (An _ (by simp)))
 generalize PySem.W.hideAll s.heap (aV a tr (bE X.stack))=base at fr st na go nT;rw[hs] at fr;cases tr with
 |none=>exact wpAny_leaving_firstW hfr fr hf he st na hd htr h0 (by rw[hc];exact go)
 |some T=>
  obtain⟨h1,_,_,hTa,oT,ts,hT,hdT,h3⟩:=htr;exact wpAny_leaving_nextW hfr fr hf ⟨oe,vs,T,oT,ts,he,⟨hc,h0⟩,hd,h1,nT T rfl,hTa,hT,hdT,h3⟩ st na go
end
def CXE(P:Program)(w:World):vY:=fun outer H s E e s'=>∃a C T H',e=.ref a/\s'.os=s.os/\AllBare s'.gens/\Un (bE outer) [] H H' s.heap s'.heap/\dN P w H' s'.heap/\pK s.heap s'.heap H' a C (some T)/\E (.ref C) none H'/\0<s'.toks
def sJ(X:Cx)(a:Addr):Prop:=a≠X.env.locals/\(∀x c,X.env.cells.lookup x=some c->c≠a)/\∀p∈X.pn,p.1≠a
abbrev X1:=St->Value->Hp->Prop
def aj(X:Cx)(E1:X1):Prop:=∀(pins:List (Addr×Obj)) (σ:St) (H:Hp) (s:Shared) (a C:Addr) (tr:Option Addr),qt X pins σ H s->pK X.s₀.heap s.heap H a C tr->sJ X a->(∀T,tr=some T->sJ X T)->E1 σ (.ref C) H->X.xe (.ref a) s
section
variable {a b T:Addr}{tr:Option Addr}{E1:X1}
theorem qt.apart(I:qt X pins σ H s)(h:s.heap.get? b=none):sJ X b:=by
 refine⟨fun e=>?_,fun x c e z=>?_,fun p hp z=>?_⟩
 ·obtain⟨m,⟨o,_,_,ho,_⟩,_⟩:=I.loc;rw[<-e,h] at ho;cases ho
 ·obtain⟨v,o,ho,_⟩:=I.cell x c e;rw[z,h] at ho;cases ho
 ·obtain⟨e,_⟩:=I.pin p (An _ hp);rw[z,h] at e;cases e
theorem qt.news(I:qt X pins σ H s)(hx:X.ex=[])(h:s.heap.get? b=none):X.s₀.heap.get? b=none:=by
 cases q:X.s₀.heap.get? b with
 |none=>rfl
 |some o=>
  obtain⟨o',e⟩:=I.base.there b o q (by rw[hx];simp);rw[h] at e;cases e
theorem aj.pass(t:aj X E1)(hx:X.ex=[]){e:Value}(I:qt X pins σ H s)(h:CXE X.prog X.w X.stack H s (fun c _ H'=>E1 σ c H') e s'):X.xe e s':=by obtain⟨a,C,T,H',rfl,ho,hg,u,hok,⟨new,free,oe,vs,a0,he,hc,hd,h0,h1,nT,fT,rest⟩,q,htk⟩:=h;have I':qt X pins σ H' s':=I.call' (ch:=[]) ho u hok hg (fun b z=>absurd z (by simp));exact t pins σ H' s' a C (some T) I' ⟨I.news hx new,free,oe,vs,a0,he,hc,hd,h0,h1,I.news hx nT,fT,rest⟩ (I.apart new) (fun T' e=>by cases e;exact I.apart nT) q
theorem afd{k:Nat}{Q:VK}{vs:List V}(F:am X.prog X.w X.K X.mg X.base (CXE X.prog X.w) k f fd ps sp)(hr:w4 k X.A)(hb:dH X.K fd ps [])(ht:aj X E1)(hx:X.ex=[])
 (I:qt X pins σ H s) (r:zn vs us) (h:sp vs H Q (fun c _ H'=>E1 σ c H')):wpAny (model X.prog X.w) X.A (call (.ref f) us) (EP X pins σ Q) X.xe s:=by
 have hl:(us++[]).length=ps.length:=by rw[AI,<-r.length];exact F.len _ _ _ _ h
 refine wpAny_call (codeAny_mono (F.run X.A X.stack s H ⟨us,[]⟩ us vs Q _ hr I.env0 (by have:=hb s us I.kIn hl;rw[AI] at this;exact this) r h) fun r s' hq=>?_);cases r with
 |error e=>exact ht.pass hx I hq
 |ok fl=>
  cases fl with|ret u=>exact I.after hq|next=>exact False.elim hq|brk=>exact False.elim hq|cont=>exact False.elim hq
end
def aik(sp:Sp)(E1:X1)(t:TA):TE:=fun σ H Q=>t σ H fun vs H1=>sp vs H1 Q fun c _ H'=>E1 σ c H'
section
variable {k:Nat}{E1:X1}{t:TA}
theorem re(F:am X.prog X.w X.K X.mg X.base (CXE X.prog X.w) k f fd ps sp)(hr:w4 k X.A)(hg:Gl X x)(hm:X.mg x=some (.ref f))(hk:PySem.W.keepIn X.K (.ref f)=true)(hb:dH X.K fd ps [])(ht:aj X E1)(hx:X.ex=[])
 (ha:PA X (e::es) t) (hdb:EW x:=by decide) (he:Ez e es X:=by rfl) (hpl:EV pos es X:=by rfl):
 PE X (.Call (.Name x p) (e::es) [] pos) (aik sp E1 t):=by
 intro pins s σ H Q I h;refine wpAny_Call_Name_kw (fk I hg hm ?_ hdb);refine PySem.W.callWith_K (h₀:=X.base) I.ok.mod.kin hk (v4 (ha pos pins s σ H _ I h) fun us s1 ⟨vs,H1,I1,r,q⟩=>⟨I1.kIn,?_⟩) he hpl;exact afd F hr hb ht hx I1 r q
end
theorem zZ{P:Program}{w:World}{K:Af}{N:List Str}{E:XK}:
 aj (cz (CXE P w) P w K mg base N qual scope f cd A outer s H E) fun _ c H'=>E c none H':=by
 intro pins σ H' s' a C tr I L _ _ q;refine yt (X:=cz (CXE P w) P w K mg base N qual scope f cd A outer s H E) I rfl rfl rfl L fun h' T u hok L'=>?_;exact⟨a,C,T,H',rfl,I.os,I.bare,u,hok,L',q,I.tk⟩
structure aau(K:Af)(C:Addr):Prop where
 ex:∃(nm q:Str) (N:Addr) (bs bm:List Value) (hdct:Bool) (sn:List Str) (sub:List Value) (ab:Bool) (col:Option Bool) (dd:Option Addr) (k0 k1 k2 k3 k5:Option Value) (B Bn newId nid initId inN:String) (bmB bmN:List Value),
  ExcBaseFacts Bn newId inN bmN/\bmB.contains (.type Bn)=true/\ExcBaseFacts B nid initId bmB/\
  ∀h,K.In h->h.get? C=some (excClassObj nm q C N bs bm hdct sn sub ab col dd k0 k1 k2 k3 k5 newId)/\(∃mN,h.Ns N mN/\mN "__init__" = none)/\OwnTail h bmB bm
theorem af6{K:Af}{bmB bmN:List Value}{B Bn newId nid initId inN:String}(q:PySem.W.excIn K C bmB newId=true)(Fn:ExcBaseFacts Bn newId inN bmN)(hBn:bmB.contains (.type Bn)=true)(F:ExcBaseFacts B nid initId bmB):aau K C:=by
 unfold PySem.W.excIn at q;split at q
 ·rename_i dd cd sl ho;split at q
  ·rename_i C' bm k0 k1 k2 k3 n k5 hm hs;simp only[AY,beq_iff_eq,Bool.not_eq_true'] at q;obtain⟨⟨⟨⟨⟨rfl,rfl⟩,hdel⟩,ht⟩,hok⟩,hni⟩:=q;obtain⟨nm,bs,mro,ns,qn,hd,sn,sub,ab,col,del⟩:=cd;dsimp only at hm hdel hok hni;subst hm hdel;have hsl:sl=#[k0,k1,k2,k3,some (.builtin n),k5]:=by obtain⟨l⟩:=sl;simp only at hs;rw[hs]
   subst hsl;exact⟨nm,qn,ns,bs,bm,hd,sn,sub,ab,col,dd,k0,k1,k2,k3,k5,B,Bn,n,nid,initId,inN,bmB,bmN,Fn,hBn,F,fun h X=>⟨X _ _ ho,⟨_,.of_isNs (PySem.W.isNs_of_in X hok),PySem.W.nsMap_none_of_in X hok hni⟩,PySem.W.tail_of_in X ht⟩⟩
  ·cases q
 ·cases q
def ajn(C:Addr)(E1:X1)(t:TA):TS:=fun _ σ H=>t σ H fun vs H1=>vs.length≤sizeLine/\E1 σ (.ref C) H1
theorem abw{E1:X1}{t:TA}(c:aau X.K C)(hg:Gl X x)(hm:X.mg x=some (.ref C))(hc:X.calm=true)(ht:aj X E1)(hx:X.ex=[])(ha:PA X (e::es) t)(hdb:EW x:=by decide)
 (he:Ez e es X:=by rfl) (hpl:EV cpos es X:=by rfl):
 PS X (.Raise (some (.Call (.Name x np) (e::es) [] cpos)) none pos) (ajn C E1 t):=by
 intro pins s σ H D I h;obtain⟨nm,q,N,bs,bm,hdct,sn,sub,ab,col,dd,k0,k1,k2,k3,k5,B,Bn,newId,nid,initId,inN,bmB,bmN,Fn,hBn,F,all⟩:=c.ex;obtain⟨_,⟨mN,hn,hni⟩,ow⟩:=all X.base I.ok.mod.kin;refine wpAny_Raise_call_subU (C:=C) (nm:=nm) (q:=q) (N:=N) (bs:=bs) (bm:=bm) (hdct:=hdct) (sn:=sn) (sub:=sub) (ab:=ab) (col:=col) (dd:=dd) (k0:=k0) (k1:=k1) (k2:=k2) (k3:=k3) (k5:=k5) Fn hBn F (mN:=mN) (ow.hasType F.hasBase) (I.ok.hd hc)
  (by rw[he];show(false||(backTo cpos (starEach es X.env)).any (·.1))=false;rw[hpl];rfl) hni (fk I hg hm ⟨rfl,?_⟩ hdb)
 rw[he];have ha':=ha cpos pins s σ H _ I h;rw[he] at ha';refine Calls.evalArgs_plain (v4 ha' fun us s2 ⟨vs,H1,I1,r,hl,q1⟩=>⟨rfl,by rw[<-r.length];exact hl,(all _ I1.kIn).1,hn.keeps I1.bk,(all _ I1.kIn).2.2,fun h' a hm=>?_⟩);obtain⟨t0,e1,_,_⟩:=hm.there;have I2:qt X pins σ H1 { s2 with heap:=h' }:=I1.kept (t':=s2.toks) hm.keeps;have fr:H1 a=none:=by
  cases z:H1 a with
  |none=>rfl
  |some u=>
   obtain⟨o,eo⟩:=(I1.hok a u z).get;rw[hm.new] at eo;cases eo
 exact ht pins σ H1 _ a C none I2 ⟨I1.news hx hm.new,fr,_,_,.ref t0,e1,rfl,rfl,rfl,rfl⟩ (I1.apart hm.new) (fun T z=>nomatch z) q1
section
variable {a T:Addr}{tr:Option Addr} 
theorem iJ(I:qt X pins σ H s)(hx:X.ex=[])(hf:X.stack=X.env::X.outer)(un:Un X.fs [] X.H₀ H X.s₀.heap h')(hok:dN X.prog X.w H h')
 (k1:(PySem.W.hideAll s.heap (aV a tr (bE X.stack))).StaysIn h') (k4:∀b o,s.heap.get? b=some o->(∀vs,o.data≠.fields vs)->∃sl,h'.get? b=some { o with slots:=sl })
 (pa:∀p∈X.pn++pins,p.1≠a/\∀T,tr=some T->p.1≠T):qt X pins σ H { s with heap:=h' }:=by
 have cl:∀{c:Addr} {v:Option Value},s.heap.IsCell c v->h'.IsCell c v:=fun {c v} ⟨o,ho,hd⟩=>by
  obtain⟨sl,e⟩:=k4 c o ho fun vs q=>by rw[hd] at q;cases q
  exact⟨_,e,hd⟩
 obtain⟨m,hn,hl⟩:=id I.loc;have hn':h'.Ns X.env.locals m:=by
  obtain⟨o,es,ep,ho,hd,r⟩:=hn;obtain⟨sl,e⟩:=k4 _ o ho fun vs q=>by rw[hd] at q;cases q
  exact⟨_,es,ep,e,hd,r⟩
 refine⟨I.ok,I.os,I.bare,by rw[hx];exact un,⟨m,hn',fun i x v e1 e2 e3=>?_⟩,fun x c e=>?_,I.free,I.freeC,fun p hp=>?_,hok,I.len,I.tk⟩
 ·obtain⟨u,ru,lk⟩:=hl i x v e1 e2 e3;refine⟨u,ru,?_⟩;rcases lk with lk | ⟨k,c,e,z⟩
  ·exact .inl lk
  ·exact .inr ⟨k,c,e,cl z⟩
 ·obtain⟨v,z⟩:=I.cell x c e;exact⟨v,cl z⟩
 ·obtain⟨e,n,ne,nf,d⟩:=I.pin p hp;refine⟨k1 _ _ (CY _ e fun hm=>?_),n,ne,nf,d⟩;rcases Ap.mp hm with z | z
  ·exact(pa p hp).1 z
  ·rcases Aj.mp z with z | z
   ·exact(pa p hp).2 p.1 (by simpa using z) rfl
   ·rcases Ap.mp (I.stkSub _ z) with z | z
    ·exact ne z
    ·exact nf z
theorem af4{Q:Unit->Shared->Prop}(I:qt X pins σ H s)(hs:X.stack=X.env::X.outer)(hf:X.env.frame=some X.env.locals)(hx:X.ex=[])(L:pK X.s₀.heap s.heap H a C tr)
 (pa:∀p∈X.pn++pins,p.1≠a/\∀T,tr=some T->p.1≠T)
 (h:∀h' T,qt X pins σ H { s with heap:=h' }->pK X.s₀.heap h' H a C (some T)->(∀p∈X.pn++pins,p.1≠T)->Q () { s with heap:=h' }):
 wpAny M X.A (noteFrame (.ref a) X.env) (fun _ s₂=>wpAny M X.A (setFlight (.ref a) none) Q E s₂) E s:=by
 obtain⟨new,free,oe,vs,b0,he,hc,hd,h0,htr⟩:=id L;have newT:∀T,tr=some T->X.s₀.heap.get? T=none/\H T=none:=by intro T e;subst e;exact⟨htr.2.1,htr.2.2.1⟩
 have fr:s.heap.FunFrames (PySem.W.hideAll s.heap (aV a tr (bE X.stack))) X.stack:=CD I.stack fun env he b hb=>Ag _ (Ah _ (jD he hb));have st:(PySem.W.hideAll s.heap (aV a tr (bE X.stack))).StaysIn s.heap:=fun b o e=>CC _ e;have na:(PySem.W.hideAll s.heap (aV a tr (bE X.stack))).get? a=none:=BJ _ Aq;have hfr:X.A.frames=some (X.env::X.outer):=by rw[<-hs];exact I.ok.frames
 have nT:∀T,tr=some T->(PySem.W.hideAll s.heap (aV a tr (bE X.stack))).get? T=none:=fun T e=>by subst e;exact BJ _ (Ag _ (An _ (by simp)))
 have go:∀h',Heap.NotedW (PySem.W.hideAll s.heap (aV a tr (bE X.stack))) (X.env::X.outer) a (.ref C) b0 (rawInt X.env.locals) s.heap h'->wpAny M X.A (setFlight (.ref a) none) Q E { s with heap:=h' }:=fun h' ⟨k1,k2,k3,k4⟩=>by
  rw[<-hs] at k2;obtain⟨u,hok,T,apT,n1,n2,ne,oe',vs',oT,ts,e1,e2,e3,e4,e5,e6,e7,e8⟩:=jE I hs hx new free newT k1 k2 k3 k4;have I2:qt X pins σ H { s with heap:=h' }:=iJ I hx hs u hok k1 k4 pa;have paT:∀p∈X.pn++pins,p.1≠T:=fun p hp=>by obtain⟨e,_⟩:=I.pin p hp;exact apT p.1 _ e (pa p hp).2
  have fr2:h'.FunFrames (PySem.W.hideAll h' (aV a (some T) (bE X.stack))) X.stack:=CD I2.stack fun env he b hb=>Ag _ (Ah _ (jD he hb));refine wpAny_setFlight_noneW (s:={ s with heap:=h' }) (base:=PySem.W.hideAll h' (aV a (some T) (bE X.stack))) (l:=X.stack) (e:=a) (cls:=.ref C) (a0:=b0) (fl:=rawInt X.env.locals) (fun b o e=>CC _ e) fr2
   ⟨oe',vs',T,oT,ts,e1,⟨e2,e3⟩,e4,e5,BJ _ (Ag _ (An _ (by simp))),ne,e6,e7,e8⟩ fun h3 j1 j2 j3 j4=>?_
  have j4':∀b o,h'.get? b=some o->(∀vs,o.data≠.fields vs)->∃sl,h3.get? b=some { o with slots:=sl }:=fun b o e q=>⟨o.slots,j4 b o e q⟩;obtain⟨u',hok',T',apT',n1',n2',ne',oe2,vs2,oT2,ts2,f1,f2,f3,f4,f5,f6,f7,f8⟩:=jE (s:={ s with heap:=h' }) (tr:=some T) I2 hs hx new free (fun T0 e=>by cases e;exact⟨n1,n2⟩) j1 j2 j3.at j4';have I3:qt X pins σ H { s with heap:=h3 }:=iJ (s:={ s with heap:=h' }) (h':=h3) (tr:=some T) I2 hx hs u' hok' j1 j4' fun p hp=>⟨(pa p hp).1,fun T0 e=>by cases e;exact paT p hp⟩;refine h h3 T' I3 ⟨new,free,oe2,vs2,b0,f1,f2,f4,f3,f5,n1',n2',ne',oT2,ts2,f6,f7,f8⟩ fun p hp=>?_;obtain⟨e,_⟩:=I2.pin p hp;exact apT' p.1 _ e fun T0 z=>by cases z;exact paT p hp
 generalize PySem.W.hideAll s.heap (aV a tr (bE X.stack))=base at fr st na go nT;rw[hs] at fr;cases tr with
 |none=>
  unfold noteFrame;simp only[hf];refine Aa (A7 he hd htr ?_);rw[As (by decide)];exact wpAny_entryW hfr fr hf he st na hd (Array.getElem?_eq_some_iff.mp htr).1 h0 (by rw[hc];exact go)
 |some T=>
  obtain⟨h1,_,_,hTa,oT,ts,hT,hdT,h3⟩:=htr;exact wpAny_noteFrame_onW hfr fr hf ⟨oe,vs,T,oT,ts,he,⟨hc,h0⟩,hd,h1,nT T rfl,hTa,hT,hdT,h3⟩ st na go
end
abbrev Cx.tr(X:Cx)(pn:List (Addr×Obj))(xe:Value->Shared->Prop):Cx:={ X with pn:=pn,xe:=xe }
abbrev Cx.hnd(X:Cx)(a:Addr):Cx:={ X with A:=X.A.mark (some (.ref a)),calm:=false,xe:=fun _ _=>False }
theorem Cx.Ok.tr(ok:X.Ok)(pn:List (Addr×Obj))(xe:Value->Shared->Prop):(X.tr pn xe).Ok:=
 ⟨ok.mod,ok.kind,ok.glob,ok.blt,ok.above,ok.inj,ok.has,ok.cab,ok.hd,ok.frames,ok.stk,ok.exf,ok.bs,ok.bsz,ok.noex,ok.exfs,ok.funs,ok.frf⟩
theorem Cx.Ok.untr{pn:List (Addr×Obj)}(ok:(X.tr pn xe).Ok):X.Ok:=
 ⟨ok.mod,ok.kind,ok.glob,ok.blt,ok.above,ok.inj,ok.has,ok.cab,ok.hd,ok.frames,ok.stk,ok.exf,ok.bs,ok.bsz,ok.noex,ok.exfs,ok.funs,ok.frf⟩
theorem Cx.Ok.hnd(ok:X.Ok)(a:Addr):(X.hnd a).Ok:=
 ⟨ok.mod,ok.kind,ok.glob,ok.blt,ok.above,ok.inj,ok.has,ok.cab,(fun z=>nomatch z),ok.frames,ok.stk,ok.exf,ok.bs,ok.bsz,ok.noex,ok.exfs,ok.funs,ok.frf⟩
section
variable {a T:Addr}
theorem qt.tr(I:qt X pins σ H s)(xe:Value->Shared->Prop):qt (X.tr (X.pn++pins) xe) [] σ H s:=⟨I.ok.tr _ _,I.os,I.bare,I.base,I.loc,I.cell,I.free,I.freeC,(fun p hp=>I.pin p (by simpa using hp)),I.hok,I.len,I.tk⟩
theorem qt.untr{pins':List (Addr×Obj)}(I:qt (X.tr (X.pn++pins) xe) pins' σ H s):qt X pins σ H s:=⟨I.ok.untr,I.os,I.bare,I.base,I.loc,I.cell,I.free,I.freeC,(fun p hp=>I.pin p (An _ hp)),I.hok,I.len,I.tk⟩
theorem qt.hnd(I:qt X pins σ H s)(a:Addr):qt (X.hnd a) pins σ H s:=⟨I.ok.hnd a,I.os,I.bare,I.base,I.loc,I.cell,I.free,I.freeC,I.pin,I.hok,I.len,I.tk⟩
theorem qt.unhnd(ok:X.Ok)(I:qt (X.hnd a) pins σ H s):qt X pins σ H s:=⟨ok,I.os,I.bare,I.base,I.loc,I.cell,I.free,I.freeC,I.pin,I.hok,I.len,I.tk⟩
theorem SP.untr{D:lU}{f:Flow}(h:SP (X.tr (X.pn++pins) xe) [] D f s'):SP X pins D f s':=by
 cases f with
 |next=>obtain⟨σ',H',J,q⟩:=h;exact⟨σ',H',J.untr,q⟩
 |brk=>obtain⟨σ',H',J,q⟩:=h;exact⟨σ',H',J.untr,q⟩
 |cont=>obtain⟨σ',H',J,q⟩:=h;exact⟨σ',H',J.untr,q⟩
 |ret u=>obtain⟨v,σ',H',J,r,q⟩:=h;exact⟨v,σ',H',J.untr,r,q⟩
theorem eV{n:Str}{Q:Unit->Shared->Prop}(I:qt X pins σ H s)(hN:X.N.Nodup)(hi:X.N[i]?=some n)(hk:X.env.scope.names.lookup n=some .local)
 (h:∀s',qt X pins (σ.set i none) H s'->Q () s'):wpAny M A (do bindName X.env n .none;unbindBehindTheSuite X.env n pos) Q E s:=by
 obtain⟨m,hn,hl⟩:=id I.loc;have hcls:(X.env.scope.kind==.class||(X.env.scope.kind==.module&&X.env.locals != X.env.globals))=false:=by rw[I.ok.kind];rfl
 refine wpAny_nameGoes_keeps hk hn hcls fun h' v hn' hs=>h _ ?_;obtain⟨oL,_,_,hoL,_⟩:=id hn;have vt:∀b o,X.s₀.heap.get? b=some o->b≠X.env.locals:=fun b o e=>A2 (AJ (Heap.lt_size e) I.ok.above);refine⟨I.ok,I.os,I.bare,⟨fun b o e n hb hx=>?_,fun b o e n hb hx=>?_,I.base.free,fun b o e hx=>?_,I.base.tups,I.base.frzs,I.base.tbls⟩,⟨_,hn',fun j y v' e1 e2 e3=>?_⟩,fun y c e=>?_,I.free,I.freeC,fun p hp=>?_,fun b ob e=>?_,by simpa using I.len,by first | exact I.tk | exact Dk _⟩
 ·exact(hs.2 b (vt b o e)).trans (I.base.keep b o e n hb hx)
 ·obtain⟨sl,e1⟩:=I.base.slot b o e n hb hx;exact⟨sl,(hs.2 b (vt b o e)).trans e1⟩
 ·obtain⟨o',e1⟩:=I.base.there b o e hx;exact⟨o',(hs.2 b (vt b o e)).trans e1⟩
 ·by_cases hj:j=i
  ·subst hj;have hjσ:j<σ.length:=by rw[I.len];exact(AW.mp hi).1
   rw[BM hjσ] at e2;cases e2
  ·rw[A6 (AK hj)] at e2;obtain⟨u',r',q⟩:=hl j y v' e1 e2 e3;refine⟨u',r',?_⟩;rcases q with⟨k,e⟩ | ⟨k,c,e,z⟩
   ·refine .inl ⟨k,?_⟩;have:y≠n:=fun e=>hj (l0 hN e1 (e▸hi));simp[this,e]
   ·exact .inr ⟨k,c,e,z.sameBut hs (I.cne y c e)⟩
 ·obtain⟨w',z⟩:=I.cell y c e;exact⟨w',z.sameBut hs (I.cne y c e)⟩
 ·obtain⟨e,n,ne,nf,d⟩:=I.pin p hp;exact⟨(hs.2 p.1 ne).trans e,n,ne,nf,d⟩
 ·refine(I.hok b ob e).stay (fun c w' hc q=>(hs.2 c ?_).trans q) (fun _ q=>q) fun _ _ q=>q;rintro rfl;rcases hc with z | z
  ·rw[<-z,I.free] at e;cases e
  ·rw[I.free] at z;cases z
theorem aat{oe:Obj}(I:qt X pins σ H s)(hx:X.ex=[])(new:X.s₀.heap.get? a=none)(free:H a=none)(he:s.heap.get? a=some oe)(ap:sJ X a)(pa:∀p∈X.pn++pins,p.1≠a):qt X pins σ (upd H a (.frz oe (.own 0))) s:=by
 refine⟨I.ok,I.os,I.bare,⟨I.base.keep,I.base.slot,fun b o e n hb=>?_,I.base.there,fun b xs e=>?_,fun b o u e=>?_,fun b ps e=>?_⟩,I.loc,I.cell,?_,fun x c e=>?_,fun p hp=>?_,fun b u e=>?_,I.len,I.tk⟩
 ·rw[qp (fun z=>by rw[z,new] at e;cases e)];exact I.base.free b o e n hb
 ·have:=I.base.tups b xs e;rw[qp (fun z=>by rw[z,free] at this;cases this)];exact this
 ·have:=I.base.frzs b o u e;rw[qp (fun z=>by rw[z,free] at this;cases this)];exact this
 ·obtain⟨more,this⟩:=I.base.tbls b ps e;exact⟨more,by rw[qp (fun z=>by rw[z,free] at this;cases this)];exact this⟩
 ·rw[qp (AK ap.1)];exact I.free
 ·rw[qp (ap.2.1 x c e)];exact I.freeC x c e
 ·obtain⟨e,n,ne,nf,d⟩:=I.pin p hp;exact⟨e,by rw[qp (pa p hp)];exact n,ne,nf,d⟩
 ·by_cases z:b=a
  ·subst z;rw[zw] at e;cases e;exact⟨he,oe,he⟩
  ·rw[qp z] at e;exact(I.hok b u e).stay (fun _ _ _ q=>q) (fun c q=>by rw[qp (fun z=>by rw[z,free] at q;cases q)];exact q) fun c xs q=>by rw[qp (fun z=>by rw[z,free] at q;cases q)];exact q
theorem xE{Q:Unit->Shared->Prop}(I:qt X pins σ H s)(hs:X.stack=X.env::X.outer)(hx:X.ex=[])(L:pK X.s₀.heap s.heap H a C (some T))
 (pa:∀p∈X.pn++pins,p.1≠a/\p.1≠T) (h:∀h' T',qt X pins σ H { s with heap:=h' }->pK X.s₀.heap h' H a C (some T')->Q () { s with heap:=h' }):wpAny M A (setFlight (.ref a) none) Q E s:=by
 obtain⟨new,free,oe,vs,b0,he,hc,hd,h0,h1,n1,n2,ne,oT,ts,hT,hdT,h3⟩:=L;have fr2:s.heap.FunFrames (PySem.W.hideAll s.heap (aV a (some T) (bE X.stack))) X.stack:=CD I.stack fun env he b hb=>Ag _ (Ah _ (jD he hb));refine wpAny_setFlight_noneW (base:=PySem.W.hideAll s.heap (aV a (some T) (bE X.stack))) (l:=X.stack) (e:=a) (cls:=.ref C) (a0:=b0) (fl:=.none) (fun b o e=>CC _ e) fr2
  ⟨oe,vs,T,oT,ts,he,⟨hc,h0⟩,hd,h1,BJ _ (Ag _ (An _ (by simp))),ne,hT,hdT,h3⟩ fun h3 j1 j2 j3 j4=>?_
 have j4':∀b o,s.heap.get? b=some o->(∀vs,o.data≠.fields vs)->∃sl,h3.get? b=some { o with slots:=sl }:=fun b o e q=>⟨o.slots,j4 b o e q⟩;obtain⟨u',hok',T',apT',n1',n2',ne',oe2,vs2,oT2,ts2,f1,f2,f3,f4,f5,f6,f7,f8⟩:=jE (tr:=some T) I hs hx new free (fun T0 e=>by cases e;exact⟨n1,n2⟩) j1 j2 j3.at j4';exact h h3 T' (iJ (tr:=some T) I hx hs u' hok' j1 j4' fun p hp=>⟨(pa p hp).1,fun T0 e=>by cases e;exact(pa p hp).2⟩) ⟨new,free,oe2,vs2,b0,f1,f2,f4,f3,f5,n1',n2',ne',oT2,ts2,f6,f7,f8⟩
end
def Dh(i:Nat)(D:lU):lU where
 nx:=fun σ H=>D.nx (σ.set i none) H
 rt:=D.rt
 bk:=fun σ H=>D.bk (σ.set i none) H
 ct:=fun σ H=>D.ct (σ.set i none) H
def ae1(K:Af)(Dc:Addr)(i:Nat)(th:TS)(D:lU):X1:=fun σ c H=>∃C,c=.ref C/\PySem.W.exmOne K (.ref C) (.ref Dc)=some true/\∀a oe,H a=none->oe.cls=.ref C->th (Dh i D) (σ.set i (some (.ref a))) (upd H a (.frz oe (.own 0)))
def aq1(K:Af)(Dc:Addr)(i:Nat)(tb:X1->TS)(th:TS):TS:=fun D σ H=>tb (ae1 K Dc i th D) D σ H
theorem aij{Dc:Addr}{n:Str}{hpos:Pos}{suite:List Stmt}{b₀:Stmt}{tb:X1->TS}{th:TS}(hs:X.stack=X.env::X.outer)(hf:X.env.frame=some X.env.locals)(hx:X.ex=[])(hN:X.N.Nodup)(hi:X.N[i]?=some n)
 (hk:X.env.scope.names.lookup n=some .local) (hg:Gl X x) (hm:X.mg x=some (.ref Dc)) (hb:∀(pn:List (Addr×Obj)) (xe:Value->Shared->Prop) (E1:X1),aj (X.tr pn xe) E1->iM (X.tr pn xe) body (tb E1)) (hh:∀a,iM (X.hnd a) (b₀::suite) th)
 (hdb:EW x:=by decide):PS X (.Try body [.ExceptHandler (some (.Name x np)) (some n) (b₀::suite) hpos] [] [] pos) (aq1 X.K Dc i tb th):=by
 intro pins s σ H D I h;have tk:aj (X.tr (X.pn++pins) (fun e s'=>∃pins' σ' H' a C tr,e=.ref a/\qt X pins σ' H' s'/\pK X.s₀.heap s'.heap H' a C tr/\sJ (X.tr (X.pn++pins') X.xe) a/\(∀p∈X.pn++pins,p.1≠a)/\(∀T,tr=some T->∀p∈X.pn++pins,p.1≠T)/\ae1 X.K Dc i th D σ' (.ref C) H'))
  (ae1 X.K Dc i th D):=fun pins' σ' H' s' a C tr I' L ap apT q=>⟨[],σ',H',a,C,tr,rfl,I'.untr,L,⟨ap.1,ap.2.1,fun p hp=>ap.2.2 p (by have hp:p∈X.pn++[]:=hp;rw[AI] at hp;exact An _ hp)⟩,ap.2.2,fun T e=>(apT T e).2.2,q⟩
 refine wpAny_Try_except (AV (hb _ _ _ tk [] s σ H D (I.tr _) h) (fun f s1 h1=>?_) fun e s1 h1=>?_)
 ·have h2:=SP.untr h1;cases f with|next=>exact wpAny_execs_nil h2|brk=>exact h2|cont=>exact h2|ret u=>exact h2
 ·obtain⟨pins',σ',H',a,C,tr,rfl,I1,L,ap,pa,paT,C',ec,em,q⟩:=h1;cases ec;refine af4 I1 hs hf hx L (fun p hp=>⟨pa p hp,fun T e=>paT T e p hp⟩) fun h' T I2 L2 paT2=>?_;refine wpAny_handleBy_cons (codeAny_handlers_test ?_) (by intro q;cases q);refine fk (X:=X.hnd a) (I2.hnd a) hg hm ?_ hdb;obtain⟨_,_,oe,vs,a0,he,hc,_⟩:=id L2;have LT:PySem.W.Looks (model X.prog X.w) h' (typeOf (.ref a)) (.ref C):=hc▸(PySem.W.Looks.ld he).andThen .now;refine PySem.W.exm_one (K:=X.K) I2.kIn LT em _ _ _ _ (fun _ _ e=>e) ?_;refine codeAny_handlers_suite_as ?_;refine xE I2 hs hx L2 (fun p hp=>⟨pa p hp,paT2 p hp⟩) fun h3 T' I3 L3=>?_;obtain⟨new,free,oe3,vs3,a3,he3,hc3,_⟩:=L3;have I4:=aat I3 hx new free he3 ⟨ap.1,ap.2.1,fun p hp=>pa p (An _ hp)⟩ pa;refine aO (X:=X.hnd a) (I4.hnd a) hN hi (.inl hk) (v:=.ref a) (u:=.ref a) rfl (fun s5 I5=>?_) (.inr hk);refine AV (hh a pins s5 _ _ (Dh i D) I5 (q a oe3 free hc3)) (fun f s6 h6=>?_) fun e s6 z=>z.elim;cases f with
  |next=>obtain⟨σ6,H6,J,q6⟩:=h6;exact eV (J.unhnd I.ok) hN hi hk fun s7 I7=>⟨_,H6,I7,q6⟩
  |brk=>obtain⟨σ6,H6,J,q6⟩:=h6;exact eV (J.unhnd I.ok) hN hi hk fun s7 I7=>⟨_,H6,I7,q6⟩
  |cont=>obtain⟨σ6,H6,J,q6⟩:=h6;exact eV (J.unhnd I.ok) hN hi hk fun s7 I7=>⟨_,H6,I7,q6⟩
  |ret u=>obtain⟨v,σ6,H6,J,r,q6⟩:=h6;exact eV (J.unhnd I.ok) hN hi hk fun s7 I7=>⟨v,_,H6,I7,r,q6⟩
open PySem PySem.Spec PyProof.Rows PySem.W
structure XAt(K:Frag)(C:Addr):Prop where
 ga:findIn K (.ref C) "__getattribute__" = some (some (.builtin "BaseException.__getattribute__"))
 gt:findIn K (.ref C) "__getattr__" = some none
 cl:findIn K (.ref C) "__class__" = some (some (.builtin "object.__class__"))
 ge:specialIn K (.builtin "object.__class__") "__get__" = some (some (.builtin "getset_descriptor.__get__"))
 tk:takesIn K (.builtin "object.__class__")=some true
 mo:mroIn K C (.type "object")=some true
 be:subIn K (.ref C) (.type "BaseException")=some true
theorem afa(self:Value):bindSpecial (.builtin "BaseException.__getattribute__") self=pure (.builtin "BaseException.__getattribute__",[self]):=by
 have hop:withoutEnding? "BaseException.__getattribute__" "#opaque" = none:=by decide +kernel
 have hdat:withoutEnding? "BaseException.__getattribute__" "#data" = none:=by decide +kernel
 have hk:builtinKind "BaseException.__getattribute__" = some .slot:=by decide +kernel
 simp only[bindSpecial,typeOf,builtinType,hop,hdat,hk];rfl
def oA(h:Heap)(a C:Addr):Prop:=∃o,h.get? a=some o/\o.cls=.ref C
theorem oA.type{a:Addr}(I:oA h a C):Looks M h (typeOf (.ref a)) (.ref C):=by obtain⟨o,h1,h2⟩:=I;exact h2▸(Looks.ld h1).andThen .now
open Builtin.ObjectAttr in
theorem adq{K:Frag}{a:Addr}(c:XAt K C)(X:K.In h):Looks M h (find (.ref a) (.ref C) "__class__") (.bind (.builtin "getset_descriptor.__get__") (.builtin "object.__class__")):=by have L1:=looks_findIn (M:=M) X c.cl;have L2:=looks_specialIn (M:=M) X c.ge;have L3:=looks_takesIn (M:=M) X c.tk;refine L1.andThen (L2.andThen ?_);exact(show Looks M h (dataDescriptor? (some (.builtin "object.__class__")) (some (.builtin "getset_descriptor.__get__"))) (some (.builtin "getset_descriptor.__get__",.builtin "object.__class__")) from L3.andThen .now).andThen (Looks.tag .now)
section
variable {w:World}{K:Frag}{a:Addr}
open Builtin Builtin.ObjectAttr Builtin.Getset_descriptor in
theorem ah8{R:Result->Shared->Prop}{tp:Value}(X:K.In s.heap)(I:oA s.heap a C)(hm:mroIn K C (.type "object")=some true)
 (h:R (.ok (.ret (.ref C))) s):codeAny (model prog w) A (.call (.builtin "getset_descriptor.__get__") ⟨[.builtin "object.__class__",.ref a,tp],[]⟩) R s:=by
 obtain⟨hh,g,dr,t,os⟩:=s;have L0:=I.type (M:=model prog w);have L1:=looks_mroIn (M:=model prog w) X hm;refine codeAny_call_builtin KF.slot_gs.plain KF.entry_gs (KF.slot_gs.check _ _ _ _ _ _ _ _ KF.type_class (KF.args_gs _ _ _) ?_);unfold Builtin.«getset_descriptor.__get__» descrGet;rw[dga_obj];refine Aa (Ai ?_);unfold descrGetter descrCheckInstance descrNameAndClass isInstance;simp only[KF.owner_class]
 repeat lk
 refine⟨Code.quiet_builtin _ (by decide +kernel),codeAny_builtin KF.entry_class ?_⟩;unfold Builtin.«object.__class__» shownTypeOf
 repeat lk
 exact h
theorem zM{tk:Tok}{Q:Fin->Shared->Prop}(c:XAt K C)(X:K.In s.heap)(I:oA s.heap a C)(h:Q (.done (.ret (.ref C))) s):
 wpAny (model prog w) A (Builtin.«object.__getattribute__» ⟨[.ref a,.str "__class__" tk],[]⟩) Q E s:=by
 obtain⟨hh,g,d,t,os⟩:=s;have L0:=I.type (M:=model prog w);have L1:=adq (M:=model prog w) (a:=a) c X;unfold Builtin.«object.__getattribute__»
 repeat (first | with_reducible refine wpAny_call ?_ | lk)
 refine ah8 X I c.mo ?_
 repeat lk
 exact h
theorem zW{Q:Unit->Shared->Prop}{nameV:Value}(c:XAt K C)(X:K.In s.heap)(I:oA s.heap a C)(hq:Q () s):wpAny (model prog w) A (checkBuiltinCall "BaseException.__getattribute__" ⟨[.ref a,nameV],[]⟩) Q E s:=by
 obtain⟨hh,g,d,t,os⟩:=s;have L0:=I.type (M:=model prog w);have L1:=looks_subIn (M:=model prog w) X c.be;have hk:builtinKind "BaseException.__getattribute__" = some .slot:=by decide +kernel
 have hsplit:splitId "BaseException.__getattribute__" = some ("BaseException", "__getattribute__"):=by decide +kernel
 have ha:=F.args_bexc_ga (.ref a) nameV;simp only[checkBuiltinCall,hk,hsplit];refine Aa ?_;unfold isInstance
 repeat lk
 exact hq
theorem am9{tk:Tok}(c:XAt K C)(X:K.In s.heap)(I:oA s.heap a C)(h:Q (.ref C) s):wpAny (model prog w) A (getAttrBy (.ref a) (.str "__class__" tk) false) Q E s:=by
 obtain⟨hh,g,d,t,os⟩:=s;have L0:=I.type (M:=model prog w);have L1:=looks_findIn (M:=model prog w) X c.ga;have L2:=looks_findIn (M:=model prog w) X c.gt;have f3:=afa (.ref a);unfold getAttrBy
 repeat (first | with_reducible refine wpAny_call ?_ | with_reducible refine wpAny_attempt ?_ | lk)
 refine codeAny_call_builtin (by decide +kernel) F.entry_bexc_ga (zW c X I (zM c X I ?_));exact handed_on rfl h
theorem aek{Q:Option Value->Shared->Prop}(c:XAt K C)(X:K.In s.heap)(I:oA s.heap a C)(h:Q (some (.ref C)) { s with toks:=s.toks+1 }):wpAny (model prog w) A (getAttr? (.ref a) "__class__") Q E s:=by unfold getAttr? getAttrBy?;refine Aa (wpAny_mkText (Aa (wpAny_attempt (am9 (s:={ s with toks:=s.toks+1 }) c X I ?_))));exact Ai h
end
theorem rG{K:Frag}{a:Addr}(c:XAt K C)(hcl:(clsIn K C).isSome=true):KitX K (.ref a) (.ref C) (fun h=>oA h a C) where
 ty:=fun _ _ _ I=>I.type
 it:=fun _ _ X _=>by
  unfold clsIn at hcl;split at hcl
  ·rename_i c' d' cd' sl' ho;intro A' Q' E' s' k q;unfold isType loadHead;exact Aa (wpAny_loadPart (k _ _ (X _ _ ho)) (Ai q))
  ·cases hcl
 ne:=fun h tp dd its n sl X htp=>by
  refine DW.mpr fun q=>?_;have e:C=tp:=Value.ref.inj (beq_iff_eq.mp q);subst e;unfold clsIn at hcl;split at hcl
  ·rename_i c' d' cd' sl' ho;have z:=(X _ _ ho).symm.trans htp;cases z
  ·cases hcl
 ca:=fun X I k=>aek c X I k
def yD:V->Option Value
 |.ref D=>some (.ref D)
 |.ty T=>some (.type T)
 |_=>none
theorem rY{c:Value}(h:yD v=some c)(r:zq v u):u=c:=by cases v with|ref D=>cases h;exact r|ty T=>cases h;exact r|_=>cases h
theorem qH:∀{vs:List V} {us cs:List Value},vs.map yD=cs.map some->zn vs us->us=cs
 |[],_,[],_,.nil=>rfl
 |[],_,_::_,h,_=>by cases h
 |_::_,_,[],h,_=>by cases h
 |v::vs,_,c::cs,h,.cons r t=>by rw[AD,AD] at h;obtain⟨h1,h2⟩:=CI h;rw[rY h1 r,qH h2 t]
structure XHd(K:Af)(C:Addr):Prop where
 at_:XAt K C
 cls:(PySem.W.clsIn K C).isSome=true
def abr(K:Af)(H:Hp)(a C:Addr):Prop:=∃oe,H a=some (.frz oe (.own 0))/\oe.cls=.ref C
def ah1(K:Af):List V->Hp->VK->Prop:=fun xs H Q=>∃a C v,xs=[.ref a,v]/\abr K H a C/\XHd K C/\
 ((∃u b,yD v=some u/\PySem.W.kitOne K (.ref C) u=some b/\Q (.bl b) H)\/(∃tp ws us b,v=.ref tp/\dC K H tp ws/\ws.map yD=us.map some/\PySem.W.kitAny K (.ref C) us=some b/\Q (.bl b) H))
theorem kB :jw X (.builtin "isinstance") (ah1 X.K):=by
 intro pins s σ H xs us Q I r h;obtain⟨a,C,v,rfl,⟨oe,ha,hc⟩,hd,h⟩:=h;obtain⟨u1,u2,rfl,r1,r2⟩:=zn.two r;cases (show u1=Value.ref a from r1);obtain⟨he,_⟩:=(show jz X.prog X.w H s.heap a (.frz oe (.own 0)) from I.hok a _ ha);have ex:oA s.heap a C:=⟨oe,he,hc⟩;rcases h with⟨c,b,e,k,q⟩ | ⟨tp,ws,cs,b,rfl,ht,e,k,q⟩
 ·cases rY e r2;exact jp I.tk (Bi (rG hd.at_ hd.cls) I.kIn ex k (fun z=>nomatch z) fun tk ht=>⟨.bl b,H,I.tok _,rfl,q⟩)
 ·cases (show u2=Value.ref tp from r2);obtain⟨its,rv,⟨o,h1,h2,n,h3⟩,_⟩:=I.tuple ht;cases qH e rv;obtain⟨oc,od,odt,osl⟩:=o;dsimp only at h2 h3;subst h2 h3;exact jp I.tk (BS (rG hd.at_ hd.cls) I.kIn ex h1 k (fun z=>nomatch z) fun tk ht=>⟨.bl b,H,I.tok _,rfl,q⟩)
def pO(H:Hp)(P:Addr)(q:Str):Prop:=∃ps,H P=some (.tbl ps)/\TriplesOk ps.toList/\∀pos cv,codeAmong pos ps.toList=some cv->∃c' oc vs t,cv=.ref c'/\H c'=some (.frz oc (.own 0))/\oc.data=.fields vs/\vs[1]?=some (.str q t)
theorem pO.keep{P:Addr}(h:pO H P q)(e:H' P=H P)(t:∀b o u,H b=some (.frz o u)->H' b=some (.frz o u)):pO H' P q:=by obtain⟨ps,h1,h2,h3⟩:=h;refine⟨ps,e.trans h1,h2,fun pos cv z=>?_⟩;obtain⟨c',oc,vs,tt,e1,e2,e3⟩:=h3 pos cv z;exact⟨c',oc,vs,tt,e1,t _ _ _ e2,e3⟩
end L2
namespace L3
open PySem L2
inductive Y where
 |non | bl (b:Bool) | int (i:Int) | str (x:Str) | ref (a:Addr) | ty (n:String) | cd (kvs:List (Str×Str)) | tup (ys:List Y) | sq (ys:List Y)
inductive LO where
 |lst (ys:List Y) | dct (kvs:List (jo×Y)) | ins (C:Addr) (fs:List (Str×Y)) | exc (C:Addr) | tb (q:Str)
abbrev qm:=Addr->Option LO
def qf(L:qm)(a:Addr)(o:LO):qm:=fun b=>if b=a then some o else L b
theorem q9{L:qm}{a:Addr}{o:LO}:qf L a o a=some o:=by unfold qf;rw[AA rfl]
theorem qb{L:qm}{a b:Addr}{o:LO}(h:b≠a):qf L a o b=L b:=by unfold qf;rw[As h]
theorem wm{L:qm}{a:Addr}{o u:LO}:qf (qf L a o) a u=qf L a u:=by funext b;unfold qf;split<;>rfl
theorem vt{L:qm}{a b:Addr}{o:LO}(h:L a=some o)(h':L b=none):a≠b:=by intro e;subst e;rw[h] at h';cases h'
structure G3 where
 K:Af
 P:Program
 w:World
abbrev _root_.L2.Cx.g3(X:Cx):G3:=⟨X.K,X.prog,X.w⟩
def SqF(K:Af)(H:Hp)(a:Addr)(xs:List V):Prop:=(∃o,H a=some (.frz o (.lst xs)))\/
 ∃(o:Obj) (its:Array Value) (n:Nat),K.lookup a=some o/\o.cls=.type "list" /\ o.dict=none/\o.data=.seq its n/\its.size≤sizeLine/\zn xs its.toList
theorem SqF.sq{K:Af}{a:Addr}(h:SqF K H a xs):aB K H a xs:=by
 rcases h with⟨o,h⟩ | h
 ·exact .inl (.inr ⟨o,h⟩)
 ·exact .inr h
mutual
def RV(G:G3)(H:Hp):Y->V->Prop
 |.non,v=>v=.non
 |.bl b,v=>v=.bl b
 |.int i,v=>v=.int i
 |.str x,v=>v=.str x
 |.ref a,v=>v=.ref a
 |.ty n,v=>v=.ty n
 |.cd kvs,v=>∃a,v=.ref a/\KD G.K G.P G.w a (kvs.map fun p=>(Sum.inr p.1,V.str p.2))
 |.tup ys,v=>∃a xs,v=.ref a/\dC G.K H a xs/\xm G H ys xs
 |.sq ys,v=>∃a xs,v=.ref a/\SqF G.K H a xs/\xm G H ys xs
def xm(G:G3)(H:Hp):List Y->List V->Prop
 |[],xs=>xs=[]
 |y::ys,xs=>∃x xs',xs=x::xs'/\RV G H y x/\xm G H ys xs'
end
def Imm:HO->Bool
 |.tup _=>true
 |.frz _ _=>true
 |_=>false
def ja(H H':Hp):Prop:=∀a u,Imm u=true->H a=some u->H' a=some u
theorem ja.refl(H:Hp):ja H H:=fun _ _ _ h=>h
abbrev ED:=@ja.refl
theorem ja.trans{H1 H2:Hp}(a:ja H H1)(b:ja H1 H2):ja H H2:=fun c u i h=>b c u i (a c u i h)
theorem ja.new{p:Addr}{o:HO}(h:H p=none):ja H (upd H p o):=fun _ _ _ q=>by rw[qp (j8 q h)];exact q
abbrev EE:=@ja.new
theorem ja.lst{p:Addr}{o:HO}(h:H p=some (.lst zs)):ja H (upd H p o):=fun a u i q=>by rw[qp ?_];exact q;rintro rfl;rw[h] at q;cases q;cases i
abbrev EN:=@ja.lst
theorem dC.ts{K:Af}{a:Addr}(h:dC K H a xs)(t:ja H H'):dC K H' a xs:=by
 rcases h with(h | ⟨o,h⟩) | h
 ·exact .inl (.inl (t _ _ rfl h))
 ·exact .inl (.inr ⟨o,t _ _ rfl h⟩)
 ·exact .inr h
theorem SqF.ts{K:Af}{a:Addr}(h:SqF K H a xs)(t:ja H H'):SqF K H' a xs:=by
 rcases h with⟨o,h⟩ | h
 ·exact .inl ⟨o,t _ _ rfl h⟩
 ·exact .inr h
mutual
theorem RV.ts{G:G3}{H H':Hp}(t:ja H H'):∀{y:Y} {v:V},RV G H y v->RV G H' y v
 |.non,_,h=>h
 |.bl _,_,h=>h
 |.int _,_,h=>h
 |.str _,_,h=>h
 |.ref _,_,h=>h
 |.ty _,_,h=>h
 |.cd _,_,h=>h
 |.tup _,_,⟨a,xs,e,s,r⟩=>⟨a,xs,e,dC.ts s t,xm.ts t r⟩
 |.sq _,_,⟨a,xs,e,s,r⟩=>⟨a,xs,e,s.ts t,xm.ts t r⟩
theorem xm.ts{G:G3}{H H':Hp}(t:ja H H'):∀{ys:List Y} {xs:List V},xm G H ys xs->xm G H' ys xs
 |[],_,h=>h
 |_::_,_,⟨x,xs',e,r,s⟩=>⟨x,xs',e,RV.ts t r,xm.ts t s⟩
end
theorem xm.length{G:G3}{H:Hp}:∀{ys:List Y} {xs:List V},xm G H ys xs->ys.length=xs.length
 |[],_,h=>by cases h;rfl
 |_::_,_,⟨x,xs',e,_,s⟩=>by subst e;simp[xm.length s]
theorem xm.get{G:G3}{H:Hp}:∀{ys:List Y} {xs:List V} {i:Nat} {y:Y},xm G H ys xs->ys[i]?=some y->∃x,xs[i]?=some x/\RV G H y x
 |[],_,_,_,_,h=>by simp at h
 |_::_,_,0,_,⟨x,xs',e,r,_⟩,h=>by subst e;simp at h;subst h;exact⟨x,rfl,r⟩
 |_::_,_,i+1,_,⟨x,xs',e,_,s⟩,h=>by subst e;obtain⟨x',q,r⟩:=xm.get (i:=i) s (by simpa using h);exact⟨x',by simpa using q,r⟩
theorem xm.app{G:G3}{H:Hp}:∀{ys zs:List Y} {xs us:List V},xm G H ys xs->xm G H zs us->xm G H (ys++zs) (xs++us)
 |[],_,_,_,h,q=>by cases h;exact q
 |_::_,_,_,_,⟨x,xs',e,r,s⟩,q=>by subst e;exact⟨x,xs'++_,rfl,r,xm.app s q⟩
theorem xm.one{G:G3}{y:Y}{x:V}(r:RV G H y x):xm G H [y] [x]:=⟨x,[],rfl,r,rfl⟩
theorem xm.take{G:G3}{H:Hp}:∀{ys:List Y} {xs:List V} (n:Nat),xm G H ys xs->xm G H (ys.take n) (xs.take n)
 |[],_,n,h=>by cases h;simp[xm]
 |_::_,_,0,_=>by simp[xm]
 |_::_,_,n+1,⟨x,xs',e,r,s⟩=>by subst e;exact⟨x,xs'.take n,rfl,r,xm.take n s⟩
theorem xm.drop{G:G3}{H:Hp}:∀{ys:List Y} {xs:List V} (n:Nat),xm G H ys xs->xm G H (ys.drop n) (xs.drop n)
 |[],_,n,h=>by cases h;simp[xm]
 |_::_,_,0,h=>h
 |_::_,_,n+1,⟨x,xs',e,r,s⟩=>by subst e;exact xm.drop n s
theorem xm.setY{G:G3}{H:Hp}{y:Y}{x:V}(r:RV G H y x):∀{ys:List Y} {xs:List V} (i:Nat),xm G H ys xs->xm G H (ys.set i y) (xs.set i x)
 |[],_,_,h=>by cases h;simp[xm]
 |_::_,_,0,⟨x',xs',e,_,s⟩=>by subst e;exact⟨x,xs',rfl,r,s⟩
 |_::_,_,i+1,⟨x',xs',e,q,s⟩=>by subst e;exact⟨x',xs'.set i x,rfl,q,xm.setY r i s⟩
theorem xm.dropLast{G:G3}{ys:List Y}(h:xm G H ys xs):xm G H ys.dropLast xs.dropLast:=by rw[List.dropLast_eq_take,List.dropLast_eq_take,h.length];exact h.take _
theorem xm.eraseIdx{G:G3}{H:Hp}:∀{ys:List Y} {xs:List V} (n:Nat),xm G H ys xs->xm G H (ys.eraseIdx n) (xs.eraseIdx n)
 |[],_,n,h=>by cases h;simp[xm]
 |_::_,_,0,⟨x,xs',e,r,s⟩=>by subst e;exact s
 |_::_,_,n+1,⟨x,xs',e,r,s⟩=>by subst e;exact⟨x,xs'.eraseIdx n,rfl,r,xm.eraseIdx n s⟩
def RO(G:G3)(H:Hp)(a:Addr):LO->Prop
 |.lst ys=>∃xs,H a=some (.lst xs)/\xm G H ys xs
 |.dct kvs=>∃xs,H a=some (.dK xs)/\Paired (fun(p:jo×Y) (q:jo×V)=>p.1=q.1/\RV G H p.2 q.2) kvs xs
 |.ins C fs=>∃dx xs,H a=some (.ins C dx xs)/\Paired (fun(p:Str×Y) (q:Str×V)=>p.1=q.1/\RV G H p.2 q.2) fs xs
 |.exc C=>abr G.K H a C
 |.tb q=>pO H a q
def ji(G:G3)(H:Hp)(L:qm):Prop:=∀a o,L a=some o->RO G H a o
theorem RO.ex{G:G3}{a:Addr}:∀{o:LO},RO G H a o->∃u,H a=some u
 |.lst _,⟨_,h,_⟩=>⟨_,h⟩
 |.dct _,⟨_,h,_⟩=>⟨_,h⟩
 |.ins _ _,⟨_,_,h,_⟩=>⟨_,h⟩
 |.exc _,⟨_,h,_⟩=>⟨_,h⟩
 |.tb _,⟨_,h,_⟩=>⟨_,h⟩
theorem ji.none{G:G3}{L:qm}(h:ji G H L){p:Addr}(hp:H p=none):L p=none:=by cases e:L p with|none=>rfl|some o=>obtain⟨u,q⟩:=(h p o e).ex;rw[hp] at q;cases q
theorem RO.keep{G:G3}(t:ja H H'){a:Addr}(e:H' a=H a):∀{o:LO},RO G H a o->RO G H' a o
 |.lst _,⟨xs,h,r⟩=>⟨xs,e.trans h,r.ts t⟩
 |.dct _,⟨xs,h,r⟩=>⟨xs,e.trans h,EI r fun _ _ ⟨a,b⟩=>⟨a,b.ts t⟩⟩
 |.ins _ _,⟨dx,xs,h,r⟩=>⟨dx,xs,e.trans h,EI r fun _ _ ⟨a,b⟩=>⟨a,b.ts t⟩⟩
 |.exc _,⟨o,h,c⟩=>⟨o,e.trans h,c⟩
 |.tb _,h=>pO.keep h e fun b o u z=>t b _ rfl z
theorem ji.skip{G:G3}{L:qm}(h:ji G H L){p:Addr}{o:HO}(hp:H p=.none):ji G (upd H p o) L:=fun a u e=>by obtain⟨x,q⟩:=(h a u e).ex;exact(h a u e).keep (EE hp) (qp (j8 q hp))
theorem ji.newL{G:G3}{L:qm}(h:ji G H L){p:Addr}{ys:List Y}(hp:H p=.none)(r:xm G H ys xs):ji G (upd H p (.lst xs)) (qf L p (.lst ys)):=fun a u e=>by
 by_cases c:a=p
 ·subst c;rw[q9] at e;cases e;exact⟨xs,zw,r.ts (EE hp)⟩
 ·rw[qb c] at e;exact(h a u e).keep (EE hp) (qp c)
theorem ji.setL{G:G3}{L:qm}(h:ji G H L){p:Addr}{ys:List Y}(hp:H p=some (.lst zs))(r:xm G H ys xs):ji G (upd H p (.lst xs)) (qf L p (.lst ys)):=fun a u e=>by
 by_cases c:a=p
 ·subst c;rw[q9] at e;cases e;exact⟨xs,zw,r.ts (EN hp)⟩
 ·rw[qb c] at e;exact(h a u e).keep (EN hp) (qp c)
def qj(L L':qm):Prop:=∀a o,L a=some o->L' a=some o
theorem qj.refl(L:qm):qj L L:=fun _ _ h=>h
abbrev EC:=@qj.refl
theorem qj.trans{L L1 L2:qm}(a:qj L L1)(b:qj L1 L2):qj L L2:=fun c o h=>b c o (a c o h)
theorem qj.new{L:qm}{p:Addr}{o:LO}(h:L p=none):qj L (qf L p o):=fun a u e=>by rw[qb (vt e h)];exact e
abbrev By:=@qj.new
theorem ji.sub{G:G3}{L L':qm}(h:ji G H L')(s:qj L L'):ji G H L:=fun a o e=>h a o (s a o e)
abbrev jj:=List (Option Y)
structure v5(G:G3)(H:Hp)(σ:St)(τ:jj):Prop where
 len:σ.length=τ.length
 get:∀(i:Nat) y,τ[i]?=some (some y)->∃v,σ[i]?=some (some v)/\RV G H y v
theorem v5.ts{G:G3}{τ:jj}(h:v5 G H σ τ)(t:ja H H'):v5 G H' σ τ:=
 ⟨h.len,fun i y e=>let ⟨v,a,b⟩:=h.get i y e;⟨v,a,b.ts t⟩⟩
theorem v5.set{G:G3}{τ:jj}(h:v5 G H σ τ){y:Y}(r:RV G H y v):v5 G H (σ.set i (some v)) (τ.set i (some y)):=by
 refine⟨by simp[h.len],fun j z e=>?_⟩;by_cases c:i=j
 ·subst c;have hi:i<τ.length:=by
   by_cases q:i<τ.length
   ·exact q
   ·rw[CL (by simp;omega)] at e;cases e
  rw[BM hi] at e;cases e;exact⟨v,BM (by rw[h.len];exact hi),r⟩
 ·rw[A6 c] at e ⊢;exact h.get j z e
theorem v5.more{G:G3}{τ:jj}(h:v5 G H σ τ)(n:Nat):v5 G H (σ++List.replicate n none) (τ++List.replicate n none):=by
 refine⟨by simp[h.len],fun j z e=>?_⟩;by_cases c:j<τ.length
 ·rw[Az c] at e;rw[Az (by rw[h.len];exact c)];exact h.get j z e
 ·rw[Ak (by omega),Cv] at e;split at e<;>cases e
def tj:jj->Nat->Option Y
 |[],_=>none
 |o::_,0=>o
 |_::r,i+1=>tj r i
theorem om:∀(τ:jj) (i:Nat) {y:Y},tj τ i=some y->τ[i]?=some (some y)
 |[],_,_,h=>by cases h
 |o::_,0,_,h=>by simp[tj] at h;simp[h]
 |_::r,i+1,_,h=>by simp only[Df];exact om r i h
abbrev YK:=Y->qm->Prop
abbrev xn:=jj->qm->YK->Prop
abbrev gD:=jj->qm->(Bool->qm->Prop)->Prop
abbrev dQ:=jj->qm->(List Y->qm->Prop)->Prop
structure xa where
 nx:jj->qm->Prop
 rt:YK
 bk:jj->qm->Prop:=fun _ _=>False
 ct:jj->qm->Prop:=fun _ _=>False
abbrev w6:=xa->jj->qm->Prop
abbrev hG:=Y->jj->qm->(jj->qm->Prop)->Prop
abbrev rT:=List Y->jj->qm->(jj->qm->Prop)->Prop
abbrev TI3:=jj->qm->(List Y->(qm->Prop)->qm->Prop)->Prop
abbrev uE:=Y->Y->qm->YK->Prop
def wG(G:G3)(H:Hp)(Q3:YK)(Q:VK):Prop:=∀v H' y L',ja H H'->ji G H' L'->RV G H' y v->Q3 y L'->Q v H'
def aeg(G:G3)(H:Hp)(Q3:Bool->qm->Prop)(Q:Bool->Hp->Prop):Prop:=∀b H' L',ja H H'->ji G H' L'->Q3 b L'->Q b H'
def anp(G:G3)(H:Hp)(Q3:List Y->qm->Prop)(Q:List V->Hp->Prop):Prop:=∀vs H' ys L',ja H H'->ji G H' L'->xm G H' ys vs->Q3 ys L'->Q vs H'
def lh(G:G3)(H:Hp)(Q3:jj->qm->Prop)(Q:St->Hp->Prop):Prop:=∀σ H' τ L',ja H H'->v5 G H' σ τ->ji G H' L'->Q3 τ L'->Q σ H'
theorem wG.ts{G:G3}{Q3:YK}{Q:VK}(h:wG G H Q3 Q)(t:ja H H'):wG G H' Q3 Q:=fun v H2 y L' t2=>h v H2 y L' (t.trans t2)
theorem aeg.ts{G:G3}{Q3:Bool->qm->Prop}{Q:Bool->Hp->Prop}(h:aeg G H Q3 Q)(t:ja H H'):aeg G H' Q3 Q:=fun v H2 L' t2=>h v H2 L' (t.trans t2)
theorem lh.ts{G:G3}{Q3:jj->qm->Prop}{Q:St->Hp->Prop}(h:lh G H Q3 Q)(t:ja H H'):lh G H' Q3 Q:=fun v H2 y L' t2=>h v H2 y L' (t.trans t2)
structure zJ(G:G3)(H:Hp)(D3:xa)(D:lU):Prop where
 nx:lh G H D3.nx D.nx
 rt:wG G H D3.rt D.rt
 bk:lh G H D3.bk D.bk
 ct:lh G H D3.ct D.ct
theorem zJ.ts{G:G3}{D3:xa}{D:lU}(h:zJ G H D3 D)(t:ja H H'):zJ G H' D3 D:=⟨h.nx.ts t,h.rt.ts t,h.bk.ts t,h.ct.ts t⟩
def wO(G:G3)(t:xn):TE:=fun σ H Q=>∃τ L Q3,v5 G H σ τ/\ji G H L/\t τ L Q3/\wG G H Q3 Q
def upT(G:G3)(t:gD):TT:=fun σ H Q=>∃τ L Q3,v5 G H σ τ/\ji G H L/\t τ L Q3/\aeg G H Q3 Q
def upA(G:G3)(t:dQ):TA:=fun σ H Q=>∃τ L Q3,v5 G H σ τ/\ji G H L/\t τ L Q3/\anp G H Q3 Q
def upS(G:G3)(t:w6):L2.TS:=fun D σ H=>∃τ L D3,v5 G H σ τ/\ji G H L/\t D3 τ L/\zJ G H D3 D
def upG(G:G3)(g:hG):TG:=fun v σ H Q=>∃y τ L Q3,RV G H y v/\v5 G H σ τ/\ji G H L/\g y τ L Q3/\lh G H Q3 Q
def apa(G:G3)(g:rT):TGs:=fun vs σ H Q=>∃ys τ L Q3,xm G H ys vs/\v5 G H σ τ/\ji G H L/\g ys τ L Q3/\lh G H Q3 Q
structure iN(G:G3)(H₀:Hp)(J:It)(ys:List Y)(keep:qm->Prop):Prop where
 go:∀i H L,ja H₀ H->ji G H L->keep L->i<ys.length->J.go i H
 yld:∀i H L x H' y,ja H₀ H->ji G H L->keep L->ys[i]?=some y->J.yld i H x H'->ja H H'/\ji G H' L/\RV G H' y x
 stop:∀H L,ja H₀ H->ji G H L->keep L->J.stop ys.length H
def upI(G:G3)(wi:TI3):TI:=fun σ H R=>∃τ L R3,v5 G H σ τ/\ji G H L/\wi τ L R3/\∀J H' ys keep L',ja H H'->ji G H' L'->iN G H' J ys keep->R3 ys keep L'->R J H'
def mF(G:G3)(r3:uE):R2:=fun x y H Q=>∃x3 y3 L Q3,RV G H x3 x/\RV G H y3 y/\ji G H L/\r3 x3 y3 L Q3/\wG G H Q3 Q
def upL(G:G3)(r3:List Y->qm->YK->Prop):List V->Hp->VK->Prop:=fun xs H Q=>∃ys L Q3,xm G H ys xs/\ji G H L/\r3 ys L Q3/\wG G H Q3 Q
def upU(G:G3)(r3:Y->qm->YK->Prop):V->Hp->VK->Prop:=fun x H Q=>∃y L Q3,RV G H y x/\ji G H L/\r3 y L Q3/\wG G H Q3 Q
theorem PE.imp{t u:TE}(h:PE X e t)(q:∀σ H Q,u σ H Q->t σ H Q):PE X e u:=fun pins s σ H Q I z=>h pins s σ H Q I (q σ H Q z)
abbrev EF:=@PE.imp
theorem PT.imp{t u:TT}(h:PT X e t)(q:∀σ H Q,u σ H Q->t σ H Q):PT X e u:=fun pins s σ H Q I z=>h pins s σ H Q I (q σ H Q z)
theorem PW.imp{t u:TT}(h:PW X e t)(q:∀σ H Q,u σ H Q->t σ H Q):PW X e u:=fun wh pins s σ H Q I z=>h wh pins s σ H Q I (q σ H Q z)
theorem PA.imp{e:List Expr}{t u:TA}(h:PA X e t)(q:∀σ H Q,u σ H Q->t σ H Q):PA X e u:=fun pos pins s σ H Q I z=>h pos pins s σ H Q I (q σ H Q z)
theorem PS.imp{e:Stmt}{t u:L2.TS}(h:PS X e t)(q:∀D σ H,u D σ H->t D σ H):PS X e u:=fun pins s σ H Q I z=>h pins s σ H Q I (q _ σ H z)
abbrev EH:=@PS.imp
theorem iM.imp{e:List Stmt}{t u:L2.TS}(h:iM X e t)(q:∀D σ H,u D σ H->t D σ H):iM X e u:=fun pins s σ H Q I z=>h pins s σ H Q I (q _ σ H z)
theorem PF.imp{e:List Expr}{t u:TT}(h:PF X e t)(q:∀σ H Q,u σ H Q->t σ H Q):PF X e u:=fun pins s σ H Q I z=>h pins s σ H Q I (q σ H Q z)
end L3
variable {g:L3.hG}{y:L3.Y}{D:L3.xa}{tA tc:L3.gD}{ta tb te to:L3.xn}{ys:List L3.Y}{L L' L0 L1:L3.qm}{G:L3.G3}{τ:L3.jj}{gs:L3.rT}
namespace L3
open PySem L2
def wb(b:Bool)(A B:Prop):Prop:=match b with
 |true=>A
 |false=>B
theorem aee{b:Bool}{A B:Prop}(h:b=true->A)(k:b=false->B):wb b A B:=by cases b with|true=>exact h rfl|false=>exact k rfl
theorem ar{b:Bool}{A B:Prop}(e:b=true)(h:A):wb b A B:=by rw[e];exact h
theorem aC{b:Bool}{A B:Prop}(e:b=false)(h:B):wb b A B:=by rw[e];exact h
theorem zu{p:Prop} [Decidable p]{A B:Prop}(h:p->A)(k:¬p->B):wb (decide p) A B:=by
 by_cases c:p
 ·rw[AE c];exact h c
 ·rw[Au c];exact k c
def nb(neg b:Bool):Bool:=match neg with
 |true=>!b
 |false=>b
def qa(i:Nat)(τ:jj)(L:qm)(Q:YK):Prop:=match tj τ i with
 |some y=>Q y L
 |none=>False
def yC(y:Y)(_:jj)(L:qm)(Q:YK):Prop:=Q y L
def zg(r:uE)(ta tb:xn)(τ:jj)(L:qm)(Q:YK):Prop:=ta τ L fun x L1=>tb τ L1 fun y L2=>r x y L2 Q
def yUn(r:Y->qm->YK->Prop)(ta:xn)(τ:jj)(L:qm)(Q:YK):Prop:=ta τ L fun x L1=>r x L1 Q
def yI(C:Int->Int->Prop)(g:Int->Int->Y)(x y:Y)(L:qm)(Q:YK):Prop:=match x,y with
 |.int i,.int j=>C i j/\Q (g i j) L
 |_,_=>False
def yI0(g:Int->Int->Y)(x y:Y)(L:qm)(Q:YK):Prop:=match x,y with
 |.int i,.int j=>Q (g i j) L
 |_,_=>False
def agx(x:Y)(L:qm)(Q:YK):Prop:=match x with
 |.int i=>Q (.int (-i)) L
 |_=>False
def cB(L:qm):Y->Option (List Y)
 |.tup ys=>some ys
 |.sq ys=>some ys
 |.ref a=>match L a with
  |some (.lst ys)=>some ys
  |_=>none
 |_=>none
@[irreducible] def dU (L:qm) (a:Addr) (k:List Y->Prop):Prop:=match L a with
 |some (.lst ys)=>k ys
 |_=>False
theorem xx{a:Addr}{k:List Y->Prop}(h:dU L a k):∃ys,L a=some (.lst ys)/\k ys:=by
 unfold dU at h;split at h
 ·rename_i ys e;exact⟨ys,e,h⟩
 ·exact h.elim
theorem ql{a:Addr}{k:List Y->Prop}(e:L a=some (.lst ys))(h:k ys):dU L a k:=by unfold dU;rw[e];exact h
def iE(L:qm)(x:Y)(k:List Y->Prop):Prop:=match x with
 |.tup ys=>k ys
 |.sq ys=>k ys
 |.ref a=>dU L a k
 |_=>False
theorem aE{a:Addr}(h:L a=some (.lst ys)):cB L (.ref a)=some ys:=by show(match L a with | some (.lst ys)=>some ys | _=>none)=some ys;rw[h]
theorem wz{x:Y}{k:List Y->Prop}(h:iE L x k):∃ys,cB L x=some ys/\k ys:=by
 cases x with
 |tup ys=>exact⟨ys,rfl,h⟩
 |sq ys=>exact⟨ys,rfl,h⟩
 |ref a=>obtain⟨ys,e,q⟩:=xx h;exact⟨ys,aE e,q⟩
 |_=>exact h.elim
theorem gy{a:Addr}(h:cB L (.ref a)=some ys):L a=some (.lst ys):=by
 have h':(match L a with | some (.lst ys)=>some ys | _=>none)=some ys:=h;split at h'
 ·rename_i e;cases h';exact e
 ·cases h'
theorem adi{x:Y}{k:List Y->Prop}(e:cB L x=some ys)(h:k ys):iE L x k:=by cases x with|tup zs=>cases e;exact h|sq zs=>cases e;exact h|ref a=>exact ql (gy e) h|_=>cases e
theorem qd{a:Addr}{k:List Y->Prop}(e:L a=some (.lst ys))(h:k ys):iE L (.ref a) k:=adi (aE e) h
def xj(x y:Y)(L:qm)(Q:YK):Prop:=match x,y with
 |.int i,.int j=>Q (.int (i+j)) L
 |.str a,.str b=>a.length+b.length≤sizeLine/\Q (.str (a++b)) L
 |.ref a,.ref b=>∃ys zs,L a=some (.lst ys)/\L b=some (.lst zs)/\ys.length+zs.length≤sizeLine/\∀p,L p=none->Q (.ref p) (qf L p (.lst (ys++zs)))
 |_,_=>False
def wJ(L:qm)(Q:α->qm->Prop):Option α->Prop
 |some v=>Q v L
 |none=>False
def aF(kvs:List (jo×Y))(k:jo):Option Y:=(kvs.find? fun p=>decide (p.1=k)).map (·.2)
@[irreducible] def tN (L:qm) (a:Addr) (k:List (jo×Y)->Prop):Prop:=match L a with
 |some (.dct kvs)=>k kvs
 |_=>False
theorem lH{a:Addr}{k:List (jo×Y)->Prop}(h:tN L a k):∃kvs,L a=some (.dct kvs)/\k kvs:=by
 unfold tN at h;split at h
 ·rename_i ys e;exact⟨ys,e,h⟩
 ·exact h.elim
theorem kq{a:Addr}{k:List (jo×Y)->Prop}{kvs:List (jo×Y)}(e:L a=some (.dct kvs))(h:k kvs):tN L a k:=by unfold tN;rw[e];exact h
def bO(x y:Y)(L:qm)(Q:YK):Prop:=match x,y with
 |.str z,.int i=>z.length≤sizeLine/\wJ L (fun c L=>Q (.str ⟨#[c]⟩) L) (gc z.cps.toList i)
 |.cd kvs,.str k=>wJ L (fun s L=>Q (.str s) L) (kvs.lookup k)
 |.ref a,.str k=>tN L a fun kvs=>wJ L Q (aF kvs (.inr k))
 |x,.int i=>iE L x fun ys=>wJ L Q (gc ys i)
 |_,_=>False
def iI(xs:List Y)(L:qm)(Q:YK):Prop:=match xs with
 |[.str z]=>z.length≤sizeLine/\Q (.int z.length) L
 |[x]=>iE L x fun ys=>Q (.int ys.length) L
 |_=>False
def qO(xs:List Y)(L:qm)(Q:YK):Prop:=match xs with
 |[.int i,.int j]=>Q (.int (max i j)) L
 |_=>False
def qT(xs:List Y)(L:qm)(Q:YK):Prop:=match xs with
 |[.int i,.int j]=>Q (.int (min i j)) L
 |_=>False
inductive i7 where
 |non | bool | int | str | tuple | list | dict
def i7.nm:i7->String
 |.non => "NoneType"
 |.bool => "bool"
 |.int => "int"
 |.str => "str"
 |.tuple => "tuple"
 |.list => "list"
 |.dict => "dict"
def tyY(L:qm):Y->Option i7
 |.non=>some .non
 |.bl _=>some .bool
 |.int _=>some .int
 |.str _=>some .str
 |.tup _=>some .tuple
 |.sq _=>some .list
 |.ref a=>match L a with
  |some (.lst _)=>some .list
  |some (.dct _)=>some .dict
  |_=>none
 |_=>none
theorem tyL{a:Addr}(h:L a=some (.lst ys)):tyY L (.ref a)=some .list:=by show(match L a with | some (.lst _)=>some i7.list | some (.dct _)=>some .dict | _=>none)=some .list;rw[h]
def cG:i7->i7->Bool
 |.bool,.int=>true
 |.bool,.bool=>true
 |.int,.int=>true
 |.str,.str=>true
 |.tuple,.tuple=>true
 |.list,.list=>true
 |.dict,.dict=>true
 |.non,.non=>true
 |_,_=>false
@[irreducible] def tyK (L:qm) (a:Addr) (k:i7->Prop):Prop:=match tyY L (.ref a) with
 |some T=>k T
 |none=>False
theorem afg{a:Addr}{k:i7->Prop}(h:tyK L a k):∃T,tyY L (.ref a)=some T/\k T:=by
 unfold tyK at h;split at h
 ·rename_i T e;exact⟨T,e,h⟩
 ·exact h.elim
theorem cg{a:Addr}{k:i7->Prop}(e:L a=some (.lst ys))(h:k .list):tyK L a k:=by unfold tyK;rw[tyL e];exact h
def aj8(L:qm)(x:Y)(k:i7->Prop):Prop:=match x with
 |.non=>k .non
 |.bl _=>k .bool
 |.int _=>k .int
 |.str _=>k .str
 |.tup _=>k .tuple
 |.sq _=>k .list
 |.ref a=>tyK L a k
 |_=>False
theorem sF{x:Y}{k:i7->Prop}(h:aj8 L x k):∃T,tyY L x=some T/\k T:=by cases x with|ref a=>exact afg h|ty n=>exact h.elim|cd k=>exact h.elim|_=>exact⟨_,rfl,h⟩
def aq(S:i7)(te:xn)(τ:jj)(L:qm)(Q:YK):Prop:=te τ L fun x L1=>aj8 L1 x fun T=>Q (.bl (cG T S)) L1
def rO(S S':i7)(te:xn)(τ:jj)(L:qm)(Q:YK):Prop:=te τ L fun x L1=>aj8 L1 x fun T=>Q (.bl (cG T S||cG T S')) L1
def fC:Y->Bool
 |.non=>true
 |.bl _=>true
 |.int _=>true
 |.str _=>true
 |_=>false
def gv:Y->V
 |.non=>.non
 |.bl b=>.bl b
 |.int i=>.int i
 |.str x=>.str x
 |_=>.ty "?"
theorem RV.flat :∀{y:Y} {v:V},fC y=true->RV G H y v->v=gv y
 |.non,_,_,h=>h
 |.bl _,_,_,h=>h
 |.int _,_,_,h=>h
 |.str _,_,_,h=>h
theorem gL:∀{y:Y},fC y=true->aX (gv y)=true
 |.non,_=>rfl
 |.bl _,_=>rfl
 |.int _,_=>rfl
 |.str _,_=>rfl
theorem xm.flat :∀{ys:List Y} {xs:List V},ys.all fC=true->xm G H ys xs->xs=ys.map gv
 |[],_,_,h=>h
 |y::ys,_,f,⟨x,xs',e,r,s⟩=>by rw[Eb,AY] at f;rw[e,r.flat f.1,s.flat f.2];rfl
def abk:Y->Bool
 |.ref _=>true
 |.sq _=>true
 |_=>false
def js(L:qm):Nat->Y->Da->Prop
 |0,y,d=>fC y=true/\d=.s (gv y)
 |n+1,y,d=>(fC y=true/\d=.s (gv y))\/(∃ys ds,y=.tup ys/\d=.tup ds/\Paired (js L n) ys ds)\/(∃ys ds,abk y=true/\d=.lst ds/\cB L y=some ys/\Paired (js L n) ys ds)
def yh:Y->Bool
 |.ref _=>true
 |.tup _=>true
 |.sq _=>true
 |_=>false
def vS(neg:Bool)(x y:Y)(L:qm)(Q:YK):Prop:=match x,y with
 |.int i,.int j=>Q (.bl (nb neg (decide (i=j)))) L
 |.str i,.str j=>Q (.bl (nb neg (decide (i=j)))) L
 |.bl i,.bl j=>Q (.bl (nb neg (decide (i=j)))) L
 |x,y=>yh x=true/\yh y=true/\∃n m d e,n≤128/\js L n x d/\js L m y e/\Q (.bl (nb neg (Da.eq d e))) L
def fB(neg:Bool)(ta:xn)(τ:jj)(L:qm)(Q:YK):Prop:=ta τ L fun x L1=>match x with
 |.non=>Q (.bl (!neg)) L1
 |_=>Q (.bl neg) L1
def yB(t:xn)(τ:jj)(L:qm)(Q:Bool->qm->Prop):Prop:=t τ L fun x L1=>match x with
 |.bl c=>Q c L1
 |_=>False
def dY(t u:gD)(τ:jj)(L:qm)(Q:Bool->qm->Prop):Prop:=t τ L fun c L1=>wb c (u τ L1 Q) (Q false L1)
def yOr(t u:gD)(τ:jj)(L:qm)(Q:Bool->qm->Prop):Prop:=t τ L fun c L1=>wb c (Q true L1) (u τ L1 Q)
def tS(t:gD)(τ:jj)(L:qm)(Q:Bool->qm->Prop):Prop:=t τ L fun c L1=>Q (!c) L1
def kY(ta tb:xn)(τ:jj)(L:qm)(Q:YK):Prop:=ta τ L fun x L1=>match x with
 |.bl c=>wb c (tb τ L1 Q) (Q (.bl false) L1)
 |_=>False
def agf(ta:xn)(τ:jj)(L:qm)(Q:YK):Prop:=ta τ L fun x L1=>match x with
 |.bl c=>Q (.bl (!c)) L1
 |_=>False
def yIf(t:gD)(ta tb:xn)(τ:jj)(L:qm)(Q:YK):Prop:=t τ L fun c L1=>wb c (ta τ L1 Q) (tb τ L1 Q)
def qy(_:jj)(L:qm)(Q:List Y->qm->Prop):Prop:=Q [] L
def qe(ta:xn)(tr:dQ)(τ:jj)(L:qm)(Q:List Y->qm->Prop):Prop:=ta τ L fun x L1=>tr τ L1 fun xs L2=>Q (x::xs) L2
def va(t:dQ)(τ:jj)(L:qm)(Q:YK):Prop:=t τ L fun ys L1=>match Nat.ble ys.length 1000 with
 |true=>Q (.tup ys) L1
 |false=>False
def vj(t:dQ)(τ:jj)(L:qm)(Q:YK):Prop:=t τ L fun ys L1=>match Nat.ble ys.length 1000 with
 |true=>∀p,L1 p=none->Q (.ref p) (qf L1 p (.lst ys))
 |false=>False
def cx(r:List Y->qm->YK->Prop)(t:dQ)(τ:jj)(L:qm)(Q:YK):Prop:=t τ L fun vs L1=>r vs L1 Q
abbrev TO3:=jj->qm->(Option Int->qm->Prop)->Prop
def bG(_:jj)(L:qm)(Q:Option Int->qm->Prop):Prop:=Q none L
def fD(t:xn)(τ:jj)(L:qm)(Q:Option Int->qm->Prop):Prop:=t τ L fun x L1=>match x with
 |.int i=>Q (some i) L1
 |_=>False
def im(xs:List Y)(lo hi:Option Int):List Y:=(xs.drop (HT.sIx xs.length 0 lo)).take (HT.sIx xs.length xs.length hi - HT.sIx xs.length 0 lo)
def al0(x:Y)(lo hi:Option Int)(L:qm)(Q:YK):Prop:=match x with
 |.ref a=>dU L a fun ys=>∀p,L p=none->Q (.ref p) (qf L p (.lst (im ys lo hi)))
 |.sq ys=>∀p,L p=none->Q (.ref p) (qf L p (.lst (im ys lo hi)))
 |_=>False
def ySl(r:Y->Option Int->Option Int->qm->YK->Prop)(te:xn)(tl th:TO3)(τ:jj)(L:qm)(Q:YK):Prop:=te τ L fun x L1=>tl τ L1 fun l L2=>th τ L2 fun u L3=>r x l u L3 Q
def qw(t u:w6)(D:xa)(τ:jj)(L:qm):Prop:=t { D with nx:=u D } τ L
def jr(D:xa)(τ:jj)(L:qm):Prop:=D.nx τ L
def ag4(D:xa)(τ:jj)(L:qm):Prop:=D.ct τ L
def jd(te:xn)(D:xa)(τ:jj)(L:qm):Prop:=te τ L fun _ L1=>D.nx τ L1
def x0(te:xn)(D:xa)(τ:jj)(L:qm):Prop:=te τ L D.rt
def abz(D:xa)(_:jj)(L:qm):Prop:=D.rt .non L
def x6(c:gD)(t u:w6)(D:xa)(τ:jj)(L:qm):Prop:=c τ L fun b L1=>wb b (t D τ L1) (u D τ L1)
def zp(te:xn)(g:hG)(D:xa)(τ:jj)(L:qm):Prop:=te τ L fun x L1=>g x τ L1 D.nx
def ae:jj->Nat->Y->jj
 |[],_,_=>[]
 |_::r,0,y=>some y::r
 |o::r,i+1,y=>o::ae r i y
theorem km:∀(τ:jj) (i:Nat) (y:Y),ae τ i y=τ.set i (some y)
 |[],_,_=>rfl
 |_::_,0,_=>rfl
 |o::r,i+1,y=>by rw[ae,km r i y];rfl
def qh(i:Nat)(y:Y)(τ:jj)(L:qm)(Q:jj->qm->Prop):Prop:=Q (ae τ i y) L
def k7(ys:List Y)(τ:jj)(L:qm)(Q:jj->qm->Prop):Prop:=match ys with
 |[]=>Q τ L
 |_=>False
def zh(t:hG)(u:rT)(ys:List Y)(τ:jj)(L:qm)(Q:jj->qm->Prop):Prop:=match ys with
 |[]=>False
 |y::r=>t y τ L fun τ' L'=>u r τ' L' Q
def kz(n:Nat)(t:rT)(y:Y)(τ:jj)(L:qm)(Q:jj->qm->Prop):Prop:=match y with
 |.tup ys=>match ys.length==n with
  |true=>t ys τ L Q
  |false=>False
 |_=>False
def aiz(i j:Nat)(ta:dQ)(D:xa)(τ:jj)(L:qm):Prop:=ta τ L fun vs L1=>match vs with
 |[v,w]=>D.nx (ae (ae τ i v) j w) L1
 |_=>False
def eQ(W:α->qm->Prop)(x:α)(L:qm):Prop:=∃L',qj L' L/\W x L'
theorem frg{W:α->qm->Prop}{x:α}(h:W x L):eQ W x L:=⟨L,EC L,h⟩
def o9(c:gD)(tb:w6)(D:xa)(τ:jj)(L:qm):Prop:=∃W:Nat->jj->qm->Prop,(∃m,W m τ L)/\∀m τ L,W m τ L->
 c τ L fun b L1=>wb b (∃N:jj->qm->Prop,(∀τ' L',N τ' L'->∃m',m'<m/\W m' τ' L')/\tb { D with nx:=eQ N,ct:=eQ N,bk:=D.nx } τ L1) (D.nx τ L1)
@[irreducible] def rQ (ys:List Y) (keep:qm->Prop) (g:hG) (tb:w6) (D:xa) (τ:jj) (L1:qm):Prop:=∃W:Nat->jj->qm->Prop,W 0 τ L1/\(∀i τ L,W i τ L->keep L)/\
 (∀i y τ L,ys[i]?=some y->W i τ L->g y τ L fun τ2 L2=>tb { D with nx:=eQ (W (i+1)),ct:=eQ (W (i+1)),bk:=D.nx } τ2 L2)/\∀τ L,W ys.length τ L->D.nx τ L
theorem wo{keep:qm->Prop}{tb:w6}(h:∃W:Nat->jj->qm->Prop,W 0 τ L1/\(∀i τ L,W i τ L->keep L)/\
 (∀i y τ L,ys[i]?=some y->W i τ L->g y τ L fun τ2 L2=>tb { D with nx:=eQ (W (i+1)),ct:=eQ (W (i+1)),bk:=D.nx } τ2 L2)/\∀τ L,W ys.length τ L->D.nx τ L):rQ ys keep g tb D τ L1:=by unfold rQ;exact h
theorem ach{keep:qm->Prop}{tb:w6}(h:rQ ys keep g tb D τ L1):∃W:Nat->jj->qm->Prop,W 0 τ L1/\(∀i τ L,W i τ L->keep L)/\
 (∀i y τ L,ys[i]?=some y->W i τ L->g y τ L fun τ2 L2=>tb { D with nx:=eQ (W (i+1)),ct:=eQ (W (i+1)),bk:=D.nx } τ2 L2)/\∀τ L,W ys.length τ L->D.nx τ L:=by unfold rQ at h;exact h
def fO(wi:TI3)(g:hG)(tb:w6)(D:xa)(τ:jj)(L:qm):Prop:=wi τ L fun ys keep L1=>rQ ys keep g tb D τ L1
@[irreducible] def rS (L:qm) (a:Addr) (R:List Y->(qm->Prop)->qm->Prop):Prop:=match L a with
 |some (.lst ys)=>R ys (fun L=>L a=some (.lst ys)) L
 |_=>False
theorem xh{a:Addr}{R:List Y->(qm->Prop)->qm->Prop}(h:L a=some (.lst ys))(q:∀keep:qm->Prop,(∀L',L' a=L a->keep L')->R ys keep L):rS L a R:=by unfold rS;rw[h];exact q _ fun L' e'=>e'.trans h
theorem rR{a:Addr}{R:List Y->(qm->Prop)->qm->Prop}(h:rS L a R):∃ys keep,cB L (.ref a)=some ys/\keep L/\(∀L',keep L'->cB L' (.ref a)=some ys)/\R ys keep L:=by
 unfold rS at h;split at h
 ·rename_i ys e;exact⟨ys,_,aE e,e,fun L' e'=>aE e',h⟩
 ·exact h.elim
def ky(tl:xn)(τ:jj)(L:qm)(R:List Y->(qm->Prop)->qm->Prop):Prop:=tl τ L fun x L1=>match x with
 |.ref a=>rS L1 a R
 |.sq ys=>R ys (fun _=>True) L1
 |_=>False
def ag0(tl:xn)(τ:jj)(L:qm)(R:List Y->(qm->Prop)->qm->Prop):Prop:=tl τ L fun x L1=>match x with
 |.tup ys=>R ys (fun _=>True) L1
 |_=>False
def aY(lo:Int)(n:Nat):List Y:=(List.range n).map fun k=>.int (lo+(k:Nat))
def fb(ta:dQ)(τ:jj)(L:qm)(R:List Y->(qm->Prop)->qm->Prop):Prop:=ta τ L fun vs L1=>match vs with
 |[.int j]=>(-(2 ^ 62)≤j/\j<2 ^ 62)/\R (aY 0 j.toNat) (fun _=>True) L1
 |_=>False
def u7(_:jj)(L:qm)(Q:Bool->qm->Prop):Prop:=Q true L
@[irreducible] def vM (ys:List Y) (keep:qm->Prop) (n:Nat) (g:hG) (tc:gD) (te:xn) (τ:jj) (L1:qm) (Q:YK):Prop:=ys.length<sizeLine/\∃W:Nat->List Y->qm->Prop,W 0 [] L1/\(∀i zs L,W i zs L->keep L)/\
 (∀i y zs L,ys[i]?=some y->W i zs L->g y (τ++List.replicate n none) L fun τ2 L2=>tc τ2 L2 fun b L3=>wb b (te τ2 L3 fun z L4=>eQ (W (i+1)) (zs++[z]) L4) (eQ (W (i+1)) zs L3))/\
 ∀zs L,W ys.length zs L->∀p,L p=none->Q (.ref p) (qf L p (.lst zs))
theorem ab2{keep:qm->Prop}{Q:YK}(h:ys.length<sizeLine/\∃W:Nat->List Y->qm->Prop,W 0 [] L1/\(∀i zs L,W i zs L->keep L)/\
 (∀i y zs L,ys[i]?=some y->W i zs L->g y (τ++List.replicate n none) L fun τ2 L2=>tc τ2 L2 fun b L3=>wb b (te τ2 L3 fun z L4=>eQ (W (i+1)) (zs++[z]) L4) (eQ (W (i+1)) zs L3))/\
 ∀zs L,W ys.length zs L->∀p,L p=none->Q (.ref p) (qf L p (.lst zs))):vM ys keep n g tc te τ L1 Q:=by unfold vM;exact h
theorem acp{keep:qm->Prop}{Q:YK}(h:vM ys keep n g tc te τ L1 Q):ys.length<sizeLine/\∃W:Nat->List Y->qm->Prop,W 0 [] L1/\(∀i zs L,W i zs L->keep L)/\
 (∀i y zs L,ys[i]?=some y->W i zs L->g y (τ++List.replicate n none) L fun τ2 L2=>tc τ2 L2 fun b L3=>wb b (te τ2 L3 fun z L4=>eQ (W (i+1)) (zs++[z]) L4) (eQ (W (i+1)) zs L3))/\
 ∀zs L,W ys.length zs L->∀p,L p=none->Q (.ref p) (qf L p (.lst zs)):=by unfold vM at h;exact h
def oB(n:Nat)(wi:TI3)(g:hG)(tc:gD)(te:xn)(τ:jj)(L:qm)(Q:YK):Prop:=wi τ L fun ys keep L1=>vM ys keep n g tc te τ L1 Q
abbrev xw:=List Y->qm->YK->Prop
def zo(sp:xw)(t:dQ)(τ:jj)(L:qm)(Q:YK):Prop:=t τ L fun ys L1=>sp ys L1 Q
def zk(x:Y)(vs:List Y)(L:qm)(Q:YK):Prop:=match x,vs with
 |.ref a,[v]=>dU L a fun ys=>ys.length<sizeLine/\Q .non (qf L a (.lst (ys++[v])))
 |_,_=>False
def bA(x:Y)(vs:List Y)(L:qm)(Q:YK):Prop:=match x,vs with
 |.ref a,[.ref b]=>dU L a fun ys=>dU L b fun zs=>ys.length+zs.length≤sizeLine/\Q .non (qf L a (.lst (ys++zs)))
 |_,_=>False
def yi(x:Y)(vs:List Y)(L:qm)(Q:YK):Prop:=match x,vs with
 |.ref a,[]=>dU L a fun ys=>wJ L (fun v L=>Q v (qf L a (.lst ys.dropLast))) (ys[ys.length - 1]?)
 |_,_=>False
section
theorem aT.imp{f:Value->Value->Sem Value}{r r':R2}(h:aT X f r)(q:∀x y H Q,r' x y H Q->r x y H Q):aT X f r':=fun pins s σ H x y v u Q I rx ry z=>h pins s σ H x y v u Q I rx ry (q x y H Q z)
theorem UnR.imp{f:Value->Sem Value}{r r':V->Hp->VK->Prop}(h:UnR X f r)(q:∀x H Q,r' x H Q->r x H Q):UnR X f r':=fun pins s σ H x v Q I rx z=>h pins s σ H x v Q I rx (q x H Q z)
theorem jw.imp{f:Value}{r r':List V->Hp->VK->Prop}(h:jw X f r)(q:∀x H Q,r' x H Q->r x H Q):jw X f r':=fun pins s σ H x v Q I rx z=>h pins s σ H x v Q I rx (q x H Q z)
abbrev ET:=@jw.imp
theorem IxR.imp{r r':R2}(h:IxR X r)(q:∀x y H Q,r' x y H Q->r x y H Q):IxR X r':=fun value slice pins s σ H x y v u Q I rx ry z=>h value slice pins s σ H x y v u Q I rx ry (q x y H Q z)
theorem kQ.imp{id:String}{r r':V->List V->Hp->VK->Prop}(h:kQ X id r)(q:∀x xs H Q,r' x xs H Q->r x xs H Q):kQ X id r':=fun pins s σ H x xs v us Q I rx ry z=>h pins s σ H x xs v us Q I rx ry (q x xs H Q z)
theorem oh(rl:ji G H L)(r:RV G H y v)(h:cB L y=some ys):∃p xs,v=.ref p/\(aB G.K H p xs\/dC G.K H p xs)/\xm G H ys xs:=by
 cases y with
 |tup zs=>
  obtain⟨a,xs,e,s,q⟩:=r;cases h;exact⟨a,xs,e,.inr s,q⟩
 |sq zs=>
  obtain⟨a,xs,e,s,q⟩:=r;cases h;exact⟨a,xs,e,.inl s.sq,q⟩
 |ref a=>
  cases (show v=.ref a from r);have h':(match L a with | some (.lst ys)=>some ys | _=>none)=some ys:=h;split at h'
  ·rename_i zs e;cases h';obtain⟨xs,e2,q⟩:=rl a _ e;exact⟨a,xs,rfl,.inl (ES e2),q⟩
  ·cases h'
 |_=>cases h
theorem ahn{i:Int}(s:xm G H ys xs)(h:gc ys i=some y):∃x,gc xs i=some x/\RV G H y x:=by
 unfold gc at h ⊢;rw[<-s.length];cases e:ixN ys.length i with
 |none=>rw[e] at h;cases h
 |some j=>
  rw[e] at h;exact s.get (i:=j) h
end
section
variable {a b:Expr}{tc:xn} 
abbrev QE(X:Cx)(e:Expr)(t:xn):Prop:=PE X e (wO X.g3 t)
abbrev QT(X:Cx)(e:Expr)(t:gD):Prop:=PT X e (upT X.g3 t)
abbrev QW(X:Cx)(e:Expr)(t:gD):Prop:=PW X e (upT X.g3 t)
abbrev QA(X:Cx)(es:List Expr)(t:dQ):Prop:=PA X es (upA X.g3 t)
abbrev QS(X:Cx)(st:Stmt)(t:w6):Prop:=PS X st (upS X.g3 t)
abbrev mC(X:Cx)(st:List Stmt)(t:w6):Prop:=iM X st (upS X.g3 t)
abbrev QG(X:Cx)(e:Expr)(g:hG):Prop:=PG X e (upG X.g3 g)
abbrev QGs(X:Cx)(es:List Expr)(g:rT):Prop:=zK X es (apa X.g3 g)
abbrev QI(X:Cx)(tg it:Expr)(w:TI3):Prop:=PI X tg it (upI X.g3 w)
abbrev QF(X:Cx)(es:List Expr)(t:gD):Prop:=PF X es (upT X.g3 t)
theorem QE.of_var(h:PE X e (aix i)):QE X e (qa i):=EF h fun σ H Q ⟨τ,L,Q3,rs,rl,z,k⟩=>by
 unfold qa at z;split at z
 ·rename_i y ey;obtain⟨v,ev,rv⟩:=rs.get i y (om _ _ ey);exact⟨v,ev,k v H y L (ED _) rl rv z⟩
 ·exact z.elim
theorem QE.of_c(h:PE X e (tC v))(q:∀H,RV X.g3 H y v):QE X e (yC y):=EF h fun σ H Q ⟨τ,L,Q3,rs,rl,z,k⟩=>k v H y L (ED _) rl (q H) z
theorem qv(i:Nat)(hN:X.N[i]?=some x:=by rfl)(hv:Vis X.env.scope x:=by first | exact Or.inl rfl | exact Or.inr (Or.inl rfl) | exact Or.inr (Or.inr rfl))(hd:EW x:=by decide)
 (hcd:EX x:=by decide):QE X (.Name x pos) (qa i):=QE.of_var (pv i hN hv hd hcd)
theorem l6 :QE X (.Constant .none j pos) (yC .non):=QE.of_c aip fun _=>rfl
theorem fi{b:Bool} :QE X (.Constant (.bool b) j pos) (yC (.bl b)):=QE.of_c aly fun _=>rfl
theorem qg{i:Int} :QE X (.Constant (.int i) j pos) (yC (.int i)):=QE.of_c ah9 fun _=>rfl
theorem jg :QE X (.Constant (.str x) j pos) (yC (.str x)):=QE.of_c cj fun _=>rfl
theorem vG{r:uE}(σ:St)(H:Hp)(Q:VK):wO G (zg r ta tb) σ H Q->tOp (mF G r) (wO G ta) (wO G tb) σ H Q:=fun⟨τ,L,Q3,rs,rl,z,k⟩=>
 ⟨τ,L,_,rs,rl,z,fun v H1 y L1 t1 rl1 rv1 z1=>⟨τ,L1,_,rs.ts t1,rl1,z1,fun v2 H2 y2 L2 t2 rl2 rv2 z2=>⟨y,y2,L2,Q3,rv1.ts t2,rv2,rl2,z2,k.ts (t1.trans t2)⟩⟩⟩
theorem qk{op:Operator}{r:uE}(h:aT X (binaryOp op) (mF X.g3 r))(ha:QE X a ta)(hb:QE X b tb):QE X (.BinOp a op b pos) (zg r ta tb):=EF (amf h ha hb) vG
theorem amc{r:uE}(h:IxR X (mF X.g3 r))(ha:QE X a ta)(hb:QE X b tb)(hp:jN b):QE X (.Subscript a b pos) (zg r ta tb):=EF (afr h ha hb hp) vG
theorem gA{op:CmpOp}{r:uE}(h:aT X (compareOp op) (mF X.g3 r))(ha:QE X a ta)(hb:QE X b tb)(hm:behindInMarks op b=false):QE X (.Compare a [op] [b] pos) (zg r ta tb):=EF (ae4 h ha hb hm) vG
theorem am3{t:xn}(σ:St)(H:Hp)(Q:Bool->Hp->Prop):upT G (yB t) σ H Q->afp (wO G t) σ H Q:=fun⟨τ,L,Q3,rs,rl,z,k⟩=>
 ⟨τ,L,_,rs,rl,z,fun v H1 y L1 t1 rl1 rv1 z1=>by cases y with|bl b=>exact⟨b,rv1,k b H1 L1 t1 rl1 z1⟩|_=>exact z1.elim⟩
theorem afn{t:xn}(σ:St)(H:Hp)(Q:Bool->Hp->Prop):upT G (yB t) σ H Q->L2.tB (wO G t) σ H Q:=am3 σ H Q
theorem xi{op:CmpOp}{r:uE}(h:aT X (compareOp op) (mF X.g3 r))(ha:QE X a ta)(hb:QE X b tb)(hm:behindInMarks op b=false):QT X (.Compare a [op] [b] pos) (yB (zg r ta tb)):=
 PT.imp (af9 h ha hb hm) fun σ H Q q=>by have q':=am3 σ H Q q;obtain⟨τ,L,Q3,rs,rl,z,k⟩:=q';exact vG σ H _ ⟨τ,L,Q3,rs,rl,z,k⟩
theorem wq(h:QE X e te)(he:∀whole,isTrue e X.env whole=(do let v <-whole;standAt e.pos;holding [v] (truthy v)):=by intro _;rfl):QT X e (yB te):=PT.imp (ago h he) afn
theorem OpI{f:Value->Value->Sem Value}{C:Int->Int->Prop}{g:Int->Int->V}{g3:Int->Int->Y}(h:aT X f (rI C g))(e:∀i j H,RV X.g3 H (g3 i j) (g i j)):aT X f (mF X.g3 (yI C g3)):=aT.imp h fun x y H Q ⟨x3,y3,L,Q3,rx,ry,rl,z,k⟩=>by
 cases x3 with
 |int i=>
  cases y3 with|int j=>exact⟨i,j,rx,ry,z.1,k _ H _ L (ED _) rl (e i j H) z.2⟩|_=>exact z.elim
 |_=>cases y3<;>exact z.elim
theorem ahf{f:Value->Value->Sem Value}{g:Int->Int->V}{g3:Int->Int->Y}(h:aT X f (rI0 g))(e:∀i j H,RV X.g3 H (g3 i j) (g i j)):aT X f (mF X.g3 (yI0 g3)):=aT.imp h fun x y H Q ⟨x3,y3,L,Q3,rx,ry,rl,z,k⟩=>by
 cases x3 with
 |int i=>
  cases y3 with|int j=>exact⟨i,j,rx,ry,k _ H _ L (ED _) rl (e i j H) z⟩|_=>exact z.elim
 |_=>cases y3<;>exact z.elim
theorem bB:aT X (binaryOp .Sub) (mF X.g3 (yI0 fun i j=>.int (i - j))):=ahf ahw fun _ _ _=>rfl
theorem qX:aT X (binaryOp .Mult) (mF X.g3 (yI aaj fun i j=>.int (i*j))):=OpI aiq fun _ _ _=>rfl
theorem kh:aT X (binaryOp .FloorDiv) (mF X.g3 (yI agt fun i j=>.int (i / j))):=OpI aef fun _ _ _=>rfl
theorem jt:aT X (binaryOp .Mod) (mF X.g3 (yI (fun _ j=>0<j) fun i j=>.int (i % j))):=OpI ajx fun _ _ _=>rfl
theorem akz:aT X (binaryOp .Pow) (mF X.g3 (yI ahx fun i j=>.int (i ^ j.toNat))):=OpI ajq fun _ _ _=>rfl
theorem qE:aT X (compareOp .Lt) (mF X.g3 (yI0 fun i j=>.bl (decide (i<j)))):=ahf ala fun _ _ _=>rfl
theorem afl:aT X (compareOp .Gt) (mF X.g3 (yI0 fun i j=>.bl (decide (j<i)))):=ahf am5 fun _ _ _=>rfl
theorem jm:aT X (binaryOp .Add) (mF X.g3 xj):=aT.imp adz fun x y H Q ⟨x3,y3,L,Q3,rx,ry,rl,z,k⟩=>by
 cases x3 with
 |int i=>
  cases y3 with|int j=>cases rx;cases ry;exact k _ H _ L (ED _) rl (by rfl) z|_=>exact z.elim
 |str i=>
  cases y3 with|str j=>cases rx;cases ry;exact⟨z.1,k _ H _ L (ED _) rl (by rfl) z.2⟩|_=>exact z.elim
 |ref a=>
  cases y3 with
  |ref b=>
   cases rx;cases ry;obtain⟨ys,zs,e1,e2,hz,q⟩:=z;obtain⟨xs,h1,r1⟩:=rl a _ e1;obtain⟨us,h2,r2⟩:=rl b _ e2;refine⟨xs,us,h1,h2,by rw[<-r1.length,<-r2.length];exact hz,fun p hp=>?_⟩;exact k _ _ _ _ (EE hp) (rl.newL hp (r1.app r2)) (by rfl) (q p (rl.none hp))
  |_=>exact z.elim
 |_=>cases y3<;>exact z.elim
theorem sk{kvs:List (Str×Str)}{k:Str}(h:kvs.lookup k=some x):fM (kvs.map fun p=>((Sum.inr p.1:jo),V.str p.2)) (Sum.inr k)=some (V.str x):=by
 induction kvs with
 |nil=>simp at h
 |cons p r ih=>
  obtain⟨a,b⟩:=p;unfold fM;rw[AD,BF];rw[Bs] at h;by_cases c:k=a
  ·subst c;simp at h;simp[h]
  ·have c1:(k==a)=false:=by simpa using c
   rw[c1] at h;have c2:decide ((Sum.inr a:jo)=Sum.inr k)=false:=Au fun z=>c (Sum.inr.inj z).symm;simp only[c2];exact ih h
theorem nU{kvs:List (jo×Y)}{xs:List (jo×V)}{k:jo}(p:Paired (fun(p:jo×Y) (q:jo×V)=>p.1=q.1/\RV G H p.2 q.2) kvs xs)(h:aF kvs k=some y):∃x,fM xs k=some x/\RV G H y x:=by
 induction p with
 |nil=>cases h
 |@cons a b _ _ r t ih=>
  obtain⟨ka,ya⟩:=a;obtain⟨kb,vb⟩:=b;obtain⟨e,r⟩:=r;cases (show ka=kb from e);unfold aF at h;unfold fM;rw[BF] at h ⊢;by_cases c:ka=k
  ·have c':decide (ka=k)=true:=AE c;simp only[c'] at h ⊢;cases h;exact⟨vb,rfl,r⟩
  ·have c':decide (ka=k)=false:=Au c;simp only[c'] at h ⊢;exact ih h
theorem ag2(K:Af)(P:Program)(w:World)(hK:X.K=K:=by rfl)(hP:X.prog=P:=by rfl)(hw:X.w=w:=by rfl):IxR X (mF ⟨K,P,w⟩ bO):=by
 subst hK hP hw;refine IxR.imp aqd fun x y H Q ⟨x3,y3,L,Q3,rx,ry,rl,z,k⟩=>?_;have seq:∀{i:Int} {x3:Y},RV X.g3 H x3 x->y=.int i->(iE L x3 fun ys=>wJ L Q3 (gc ys i))->uIx X.K X.prog X.w x y H Q:=by
  intro i x3 rx ey z;subst ey;obtain⟨ys,es,z⟩:=wz z;obtain⟨p,xs,e,sq,rv⟩:=oh rl rx es;subst e;cases ea:gc ys i with
  |none=>rw[ea] at z;exact z.elim
  |some y=>
   rw[ea] at z;obtain⟨x,ex,rvx⟩:=ahn rv ea;exact⟨xs,x,sq,ex,k _ H _ L (ED _) rl rvx z⟩
 cases x3 with
 |str s=>
  cases y3 with
  |int i=>
   cases rx;cases ry;obtain⟨z1,z2⟩:=z;cases ea:gc s.cps.toList i with
   |none=>rw[ea] at z2;exact z2.elim
   |some c=>rw[ea] at z2;exact⟨z1,c,ea,k _ H _ L (ED _) rl (by rfl) z2⟩
  |_=>exact z.elim
 |cd kvs=>
  cases y3 with
  |str s=>
   obtain⟨a,ea,kd⟩:=rx;cases ea;cases ry;have z':wJ L (fun s L=>Q3 (.str s) L) (kvs.lookup s):=z;cases el:kvs.lookup s with
   |none=>rw[el] at z';exact z'.elim
   |some t=>rw[el] at z';exact⟨_,_,.inr kd,sk el,k _ H _ L (ED _) rl (by rfl) z'⟩
  |int i=>exact z.elim
  |_=>exact z.elim
 |ref a=>
  cases y3 with
  |int i=>exact seq (x3:=.ref a) rx ry z
  |str s=>
   cases rx;cases ry;obtain⟨kvs,e,z'⟩:=lH z;obtain⟨xs,e2,pr⟩:=rl a _ e;cases ev:aF kvs (Sum.inr s) with
   |none=>rw[ev] at z';exact z'.elim
   |some y=>
    rw[ev] at z';obtain⟨x,ex,rx⟩:=nU pr ev;exact⟨xs,x,.inl (.inl e2),ex,k _ H _ L (ED _) rl rx z'⟩
  |_=>exact z.elim
 |tup ys=>
  cases y3 with|int i=>exact seq (x3:=.tup ys) rx ry z|_=>exact z.elim
 |sq ys=>
  cases y3 with|int i=>exact seq (x3:=.sq ys) rx ry z|_=>exact z.elim
 |_=>cases y3<;>exact z.elim
theorem xm.inv1(h:xm G H [y] xs):∃x,xs=[x]/\RV G H y x:=by obtain⟨x,xs',e,r,s⟩:=h;cases (show xs'=[] from s);exact⟨x,e,r⟩
theorem xm.inv2{y':Y}(h:xm G H [y,y'] xs):∃x x',xs=[x,x']/\RV G H y x/\RV G H y' x':=by obtain⟨x,xs',e,r,s⟩:=h;obtain⟨x',e',r'⟩:=s.inv1;exact⟨x,x',by rw[e,e'],r,r'⟩
theorem aj3(K:Af)(P:Program)(w:World)(hK:X.K=K:=by rfl)(hP:X.prog=P:=by rfl)(hw:X.w=w:=by rfl):jw X (.builtin "len") (upL ⟨K,P,w⟩ iI):=by
 subst hK hP hw;refine ET xS fun xs H Q ⟨ys,L,Q3,rv,rl,z,k⟩=>?_;unfold iI at z;split at z
 ·obtain⟨x,rfl,r⟩:=rv.inv1;cases r;exact⟨z.1,k _ H _ L (ED _) rl (by rfl) z.2⟩
 ·rename_i y _;obtain⟨x,rfl,r⟩:=rv.inv1;obtain⟨ys,es,z⟩:=wz z;obtain⟨p,us,e,sq,rw'⟩:=oh rl r es;subst e;refine⟨us,sq,?_⟩;rw[<-rw'.length];exact k _ H _ L (ED _) rl (by rfl) z
 ·exact z.elim
theorem aim(i j:Int):(if j > i then j else i)=max i j:=by split<;>lia
theorem aiu(i j:Int):(if j<i then j else i)=min i j:=by split<;>lia
theorem vV(hc:X.calm=true:=by rfl):jw X (.builtin "max") (upL X.g3 qO):=ET (yg hc) fun xs H Q ⟨ys,L,Q3,rv,rl,z,k⟩=>by
 unfold qO at z;split at z
 ·rename_i i j;obtain⟨x,x',rfl,r1,r2⟩:=rv.inv2;cases r1;cases r2;refine⟨i,j,rfl,?_⟩;rw[aim];exact k _ H _ L (ED _) rl (by rfl) z
 ·exact z.elim
theorem uz(hc:X.calm=true:=by rfl):jw X (.builtin "min") (upL X.g3 qT):=ET (xX hc) fun xs H Q ⟨ys,L,Q3,rv,rl,z,k⟩=>by
 unfold qT at z;split at z
 ·rename_i i j;obtain⟨x,x',rfl,r1,r2⟩:=rv.inv2;cases r1;cases r2;refine⟨i,j,rfl,?_⟩;rw[aiu];exact k _ H _ L (ED _) rl (by rfl) z
 ·exact z.elim
theorem agg:UnR X (unaryOp .USub) (upU X.g3 agx):=UnR.imp ah3 fun x H Q ⟨y,L,Q3,rv,rl,z,k⟩=>by cases y with|int i=>exact⟨i,rv,k _ H _ L (ED _) rl (by rfl) z⟩|_=>exact z.elim
theorem ag7{op:UnaryOp}{r:Y->qm->YK->Prop}(h:UnR X (unaryOp op) (upU X.g3 r))(ha:QE X a ta):QE X (.UnaryOp op a pos) (yUn r ta):=EF (akr h ha) fun σ H Q ⟨τ,L,Q3,rs,rl,z,k⟩=>
 ⟨τ,L,_,rs,rl,z,fun v H1 y L1 t1 rl1 rv1 z1=>⟨y,L1,Q3,rv1,rl1,z1,k.ts t1⟩⟩
end
section
variable {a b:Expr}{tc:xn} 
theorem dZ{a:Addr}(rl:ji G H L)(h:cB L (.ref a)=some ys):∃xs,aB G.K H a xs/\xm G H ys xs:=by
 have h':(match L a with | some (.lst ys)=>some ys | _=>none)=some ys:=h;split at h'
 ·rename_i e;cases h';obtain⟨xs,e2,q⟩:=rl a _ e;exact⟨xs,ES e2,q⟩
 ·cases h'
theorem mR(rl:ji G H L)(r:RV G H y v)(hy:abk y=true)(h:cB L y=some ys):∃a xs,v=.ref a/\aB G.K H a xs/\xm G H ys xs:=by
 cases y with
 |ref a=>obtain⟨xs,s,q⟩:=dZ rl h;exact⟨a,xs,r,s,q⟩
 |sq zs=>obtain⟨a,xs,e,s,q⟩:=r;cases h;exact⟨a,xs,e,s.sq,q⟩
 |_=>cases hy
theorem xH{G:G3}{T:i7}{σ:L2.St}(I:qt X pins σ H s)(rl:ji X.g3 H L)(r:RV X.g3 H y v)(ru:zq v u)(h:tyY L y=some T)
 {c:Value} {b:Bool} (e:PySem.W.kitOne X.K (.type T.nm) c=some b) (hq:∀tk,Q (.bool b) { s with toks:=tk }):
 wpAny (model X.prog X.w) A (call (.builtin "isinstance") [u,c]) Q E s:=by
 cases y with
 |non=>cases h;cases r;exact ah I ru .non e hq
 |bl b=>cases h;cases r;exact ah I ru (.bl _) e hq
 |int i=>cases h;cases r;exact ah I ru (.int _) e hq
 |str x=>cases h;cases r;exact ah I ru (.str _) e hq
 |tup ys=>
  cases h;obtain⟨a,xs,rfl,sq,_⟩:=r;cases (show u=Value.ref a from ru);obtain⟨its,_,⟨o,h1,h2,_⟩,_⟩:=I.tuple sq;exact Bi DI I.kIn ⟨o,h1,h2⟩ e (fun z=>nomatch z) hq
 |sq ys=>
  cases h;obtain⟨a,xs,rfl,sq,_⟩:=r;cases (show u=Value.ref a from ru);obtain⟨its,_,⟨o,n,h1,h2,_⟩,_⟩:=I.list sq.sq;exact Bi CN I.kIn ⟨o,h1,h2⟩ e (fun z=>nomatch z) hq
 |ref a=>
  cases (show v=.ref a from r);have h':(match L a with | some (.lst _)=>some i7.list | some (.dct _)=>some .dict | _=>none)=some T:=h;split at h'
  ·rename_i ys el;cases h';obtain⟨xs,e2,_⟩:=rl a _ el;exact ah I ru (.lst e2) e hq
  ·rename_i kvs el;cases h';obtain⟨xs,e2,_⟩:=rl a _ el;exact ah I ru (.dK e2) e hq
  ·cases h'
 |_=>cases h
theorem pJ(K:Af):∀T S:i7,PySem.W.kitOne K (.type T.nm) (.type S.nm)=some (cG T S):=by intro T S;cases T<;>cases S<;>rfl
def ak1(G:G3)(S:i7):List V->Hp->VK->Prop:=fun xs H Q=>∃y v L Q3 T,xs=[v,.ty S.nm]/\RV G H y v/\ji G H L/\tyY L y=some T/\Q3 (.bl (cG T S)) L/\wG G H Q3 Q
theorem ahm(S:i7):jw X (.builtin "isinstance") (ak1 X.g3 S):=by intro pins s σ H xs us Q I r h;obtain⟨y,v,L,Q3,T,rfl,rv,rl,ty,q,k⟩:=h;obtain⟨u,c,rfl,r1,r2⟩:=zn.two r;cases (show c=Value.type S.nm from r2);exact jp I.tk (xH (G:=X.g3) I rl rv r1 ty (pJ _ T S) fun tk ht=>⟨.bl _,H,I.tok _,rfl,k _ H _ L (ED _) rl (by rfl) q⟩)
theorem ko{xT:Str}(S:i7)(hg:Gl X "isinstance")(hm:X.mg "isinstance" = none)(hgT:Gl X xT)(hmT:X.mg xT=none)(hvT:bootBuiltins xT=some (.type S.nm))(ha:QE X a ta)
 (hn:xT ≠ "__name__" := by decide) (hd:(xT==("__debug__" : Str))=false:=by decide)
 (hs:starEach [a,.Name xT p1] X.env=(false,eval a X.env)::starEach [.Name xT p1] X.env:=by rfl) (hs2:starEach [.Name xT p1] X.env=(false,eval (.Name xT p1) X.env)::starEach [] X.env:=by rfl)
 (hp:(backTo pos (starEach [.Name xT p1] X.env)).any (·.1)=false:=by rfl):
 QE X (.Call (.Name "isinstance" p) [a,.Name xT p1] [] pos) (aq S ta):=by
 refine EF (eF (ahm S) hg hm aM (vi ha (vi (vW hgT hmT hvT hn hd) bL hs2) hs) (by decide) (by decide) hs hp) ?_;rintro σ H Q ⟨τ,L,Q3,rs,rl,z,k⟩;refine⟨τ,L,_,rs,rl,z,fun v H1 y L1 t1 rl1 rv1 z1=>?_⟩;obtain⟨T,et,z1⟩:=sF z1;exact⟨y,v,L1,Q3,T,rfl,rv1,rl1,et,z1,k.ts t1⟩
def pU(neg:Bool)(x y:Y)(L:qm)(Q:YK):Prop:=iE L y fun ys=>fC x=true/\ys.all fC=true/\Q (.bl (nb neg (zS (gv x) (ys.map gv)))) L
theorem amm(neg:Bool){op:CmpOp}(h:aT X (compareOp op) (rIn X.K neg)):aT X (compareOp op) (mF X.g3 (pU neg)):=aT.imp h fun x y H Q ⟨x3,y3,L,Q3,rx,ry,rl,z,k⟩=>by
 obtain⟨ys,es,f1,f2,q⟩:=wz z;obtain⟨p,xs,e,sq,rv⟩:=oh rl ry es;rw[rx.flat f1];rw[rv.flat f2] at sq;refine⟨p,_,e,sq,gL f1,?_,?_⟩
 ·rw[List.all_map,BY];intro y hy;exact gL (BY.mp f2 y hy)
 ·have:(if neg=true then !zS (gv x3) (ys.map gv) else zS (gv x3) (ys.map gv))=(nb neg (zS (gv x3) (ys.map gv))):=by cases neg<;>simp[nb]
  rw[this];exact k _ H _ L (ED _) rl (by rfl) q
theorem agh(K:Af)(P:Program)(w:World)(hK:X.K=K:=by rfl)(hP:X.prog=P:=by rfl)(hw:X.w=w:=by rfl):aT X (compareOp .In) (mF ⟨K,P,w⟩ (pU false)):=by subst hK hP hw;exact amm false yA
theorem t8(K:Af)(P:Program)(w:World)(hK:X.K=K:=by rfl)(hP:X.prog=P:=by rfl)(hw:X.w=w:=by rfl):aT X (compareOp .NotIn) (mF ⟨K,P,w⟩ (pU true)):=by subst hK hP hw;exact amm true oM
theorem js.rep{G:G3}{H:Hp}{L:qm}(rl:ji G H L):∀{n:Nat} {y:Y} {d:Da} {v:V},js L n y d->RV G H y v->vo G.K H n v d
 |0,y,d,v,⟨f,e⟩,r=>by rw[r.flat f];exact⟨e,gL f⟩
 |n+1,y,d,v,h,r=>by
  have both:∀{ys:List Y} {ds:List Da} {xs:List V},Paired (js L n) ys ds->xm G H ys xs->Paired (vo G.K H n) xs ds:=by
   intro ys ds xs p
   induction p generalizing xs with
   |nil=>intro r;cases (show xs=[] from r);exact .nil
   |cons q t ih=>
    rintro⟨x,xs',rfl,r1,r2⟩;exact .cons (js.rep rl q r1) (ih r2)
  rcases h with⟨f,e⟩ | ⟨ys,ds,rfl,rfl,p⟩ | ⟨ys,ds,hy,rfl,es,p⟩
  ·rw[r.flat f];exact .inl ⟨e,gL f⟩
  ·obtain⟨a,xs,rfl,sq,rv⟩:=r;exact .inr (.inl ⟨a,xs,ds,rfl,rfl,sq,both p rv⟩)
  ·obtain⟨a,xs,rfl,sq,rv⟩:=mR rl r hy es;exact .inr (.inr ⟨a,xs,ds,rfl,rfl,sq,both p rv⟩)
theorem jB(h:yh y=true)(r:RV G H y v):∃a,v=.ref a:=by
 cases y with
 |ref a=>exact⟨a,r⟩
 |tup ys=>obtain⟨a,xs,e,_⟩:=r;exact⟨a,e⟩
 |sq ys=>obtain⟨a,xs,e,_⟩:=r;exact⟨a,e⟩
 |_=>cases h
theorem qI(K:Af)(P:Program)(w:World)(hu:X.A.units+128<cLine)(hK:X.K=K:=by rfl)(hP:X.prog=P:=by rfl)(hw:X.w=w:=by rfl):aT X (compareOp .Eq) (mF ⟨K,P,w⟩ (vS false)):=by
 subst hK hP hw;refine aT.imp (agn hu) fun x y H Q ⟨x3,y3,L,Q3,rx,ry,rl,z,k⟩=>?_;unfold vS at z;split at z
 ·rename_i i j;cases rx;cases ry;refine⟨rfl,?_⟩;have:decide (V.int i=V.int j)=nb false (decide (i=j)):=by rw[BE];simp[nb]
  rw[this];exact k _ H _ L (ED _) rl (by rfl) z
 ·rename_i i j;cases rx;cases ry;refine⟨rfl,?_⟩;have:decide (V.str i=V.str j)=nb false (decide (i=j)):=by rw[BE];simp[nb]
  rw[this];exact k _ H _ L (ED _) rl (by rfl) z
 ·rename_i i j;cases rx;cases ry;refine⟨rfl,?_⟩;have:decide (V.bl i=V.bl j)=nb false (decide (i=j)):=by rw[BE];simp[nb]
  rw[this];exact k _ H _ L (ED _) rl (by rfl) z
 ·obtain⟨f1,f2,n,m,d,e,hn,h1,h2,q⟩:=z;obtain⟨a,rfl⟩:=jB f1 rx;obtain⟨b,rfl⟩:=jB f2 ry;have q:Q3 (.bl (Da.eq d e)) L:=q;exact⟨n,m,d,e,hn,h1.rep rl rx,h2.rep rl ry,k _ H _ L (ED _) rl (by rfl) q⟩
theorem amq(K:Af)(P:Program)(w:World)(hu:X.A.units+128<cLine)(hK:X.K=K:=by rfl)(hP:X.prog=P:=by rfl)(hw:X.w=w:=by rfl):aT X (compareOp .NotEq) (mF ⟨K,P,w⟩ (vS true)):=by
 subst hK hP hw;refine aT.imp (ahc hu) fun x y H Q ⟨x3,y3,L,Q3,rx,ry,rl,z,k⟩=>?_;unfold vS at z;split at z
 ·rename_i i j;cases rx;cases ry;refine⟨rfl,?_⟩;have:(!decide (V.int i=V.int j))=nb true (decide (i=j)):=by show _=!_;congr 1;rw[BE];simp
  rw[this];exact k _ H _ L (ED _) rl (by rfl) z
 ·rename_i i j;cases rx;cases ry;refine⟨rfl,?_⟩;have:(!decide (V.str i=V.str j))=nb true (decide (i=j)):=by show _=!_;congr 1;rw[BE];simp
  rw[this];exact k _ H _ L (ED _) rl (by rfl) z
 ·rename_i i j;cases rx;cases ry;refine⟨rfl,?_⟩;have:(!decide (V.bl i=V.bl j))=nb true (decide (i=j)):=by show _=!_;congr 1;rw[BE];simp
  rw[this];exact k _ H _ L (ED _) rl (by rfl) z
 ·obtain⟨f1,f2,n,m,d,e,hn,h1,h2,q⟩:=z;obtain⟨a,rfl⟩:=jB f1 rx;obtain⟨b,rfl⟩:=jB f2 ry;have q:Q3 (.bl (!Da.eq d e)) L:=q;exact⟨n,m,d,e,hn,h1.rep rl rx,h2.rep rl ry,k _ H _ L (ED _) rl (by rfl) q⟩
theorem RV.non_iff(r:RV G H y v):decide (v=.non)=(match y with | .non=>true | _=>false):=by
 cases y with
 |non=>cases r;rfl
 |cd kvs=>obtain⟨a,rfl,_⟩:=r;rfl
 |tup ys=>obtain⟨a,xs,rfl,_⟩:=r;rfl
 |sq ys=>obtain⟨a,xs,rfl,_⟩:=r;rfl
 |_=>cases r;rfl
theorem aam(σ:L2.St)(H:Hp)(Q:VK):wO G (fB false ta) σ H Q->akf (wO G ta) σ H Q:=fun⟨τ,L,Q3,rs,rl,z,k⟩=>
 ⟨τ,L,_,rs,rl,z,fun v H1 y L1 t1 rl1 rv1 z1=>by dsimp only;rw[rv1.non_iff];cases y<;>exact k _ H1 _ L1 t1 rl1 (by rfl) z1⟩
theorem afm(σ:L2.St)(H:Hp)(Q:VK):wO G (fB true ta) σ H Q->afq (wO G ta) σ H Q:=fun⟨τ,L,Q3,rs,rl,z,k⟩=>
 ⟨τ,L,_,rs,rl,z,fun v H1 y L1 t1 rl1 rv1 z1=>by dsimp only;rw[rv1.non_iff];cases y<;>exact k _ H1 _ L1 t1 rl1 (by rfl) z1⟩
theorem ajr(h:QE X a ta):QE X (.Compare a [.Is] [.Constant .none j pos'] pos) (fB false ta):=EF (ahd (abb h)) aam
theorem ag8{t:TE}(h:∀σ H Q,wO G te σ H Q->t σ H Q)(σ:L2.St)(H:Hp)(Q:Bool->Hp->Prop):upT G (yB te) σ H Q->L2.tB t σ H Q:=fun q=>h σ H _ (afn σ H Q q)
theorem uF(h:QE X a ta):QT X (.Compare a [.Is] [.Constant .none j pos'] pos) (yB (fB false ta)):=PT.imp (zA (abb h)) (ag8 aam)
theorem cO(h:QE X a ta):QT X (.Compare a [.IsNot] [.Constant .none j pos'] pos) (yB (fB true ta)):=PT.imp (zA (adx h)) (ag8 afm)
end
section
variable {a b:Expr}{rest:List Expr}{tc:xn}{tB:gD}{tr:dQ} 
theorem vd(h:QT X a tA):QW X (.BoolOp .And [a] pos) tA:=aco h
theorem fW(h:QT X a tA):QW X (.BoolOp .Or [a] pos) tA:=ain h
theorem wc(h:QT X a tA)(k:QW X (.BoolOp .And (b::rest) pos) tB):QW X (.BoolOp .And (a::b::rest) pos) (dY tA tB):=PW.imp (aio h k) fun σ H Q ⟨τ,L,Q3,rs,rl,z,k⟩=>
 ⟨τ,L,_,rs,rl,z,fun c H1 L1 t1 rl1 z1=>by cases c with|true=>rw[AA rfl];exact⟨τ,L1,Q3,rs.ts t1,rl1,z1,k.ts t1⟩|false=>rw[As Ax];exact k _ H1 L1 t1 rl1 z1⟩
theorem jU(h:QT X a tA)(k:QW X (.BoolOp .Or (b::rest) pos) tB):QW X (.BoolOp .Or (a::b::rest) pos) (yOr tA tB):=PW.imp (alh h k) fun σ H Q ⟨τ,L,Q3,rs,rl,z,k⟩=>
 ⟨τ,L,_,rs,rl,z,fun c H1 L1 t1 rl1 z1=>by cases c with|true=>rw[AA rfl];exact k _ H1 L1 t1 rl1 z1|false=>rw[As Ax];exact⟨τ,L1,Q3,rs.ts t1,rl1,z1,k.ts t1⟩⟩
theorem ku(h:QW X a tA):QT X a tA:=PW.pt h
theorem gx(h:QT X a tA):QT X (.UnaryOp .Not a pos) (tS tA):=PT.imp (ajd h) fun σ H Q ⟨τ,L,Q3,rs,rl,z,k⟩=>
 ⟨τ,L,_,rs,rl,z,fun c H1 L1 t1 rl1 z1=>k _ H1 L1 t1 rl1 z1⟩
theorem pQ{op:BoolOp}(h:QE X a ta):QE X (.BoolOp op [a] pos) ta:=ahq h
theorem hU(h:QE X a ta)(k:QE X (.BoolOp .And (b::rest) pos) tb):QE X (.BoolOp .And (a::b::rest) pos) (kY ta tb):=EF (ahl h k) fun σ H Q ⟨τ,L,Q3,rs,rl,z,k⟩=>
 ⟨τ,L,_,rs,rl,z,fun v H1 y L1 t1 rl1 rv1 z1=>by
  cases y with
  |bl c=>
   refine⟨c,rv1,?_⟩;have z2:wb c (tb τ L1 Q3) (Q3 (.bl false) L1):=z1;cases c with|true=>rw[AA rfl];exact⟨τ,L1,Q3,rs.ts t1,rl1,z2,k.ts t1⟩|false=>rw[As Ax];exact k _ H1 _ L1 t1 rl1 (by rfl) z2
  |_=>exact z1.elim⟩
theorem aid(h:QE X a ta):QE X (.UnaryOp .Not a pos) (agf ta):=EF (ahb h) fun σ H Q ⟨τ,L,Q3,rs,rl,z,k⟩=>
 ⟨τ,L,_,rs,rl,z,fun v H1 y L1 t1 rl1 rv1 z1=>by cases y with|bl c=>exact⟨c,rv1,k _ H1 _ L1 t1 rl1 (by rfl) z1⟩|_=>exact z1.elim⟩
theorem dk(h:QT X c tA)(ha:QE X a ta)(hb:QE X b tb):QE X (.IfExp c a b pos) (yIf tA ta tb):=EF (yy h ha hb) fun σ H Q ⟨τ,L,Q3,rs,rl,z,k⟩=>
 ⟨τ,L,_,rs,rl,z,fun c H1 L1 t1 rl1 z1=>by cases c with|true=>rw[AA rfl];exact⟨τ,L1,Q3,rs.ts t1,rl1,z1,k.ts t1⟩|false=>rw[As Ax];exact⟨τ,L1,Q3,rs.ts t1,rl1,z1,k.ts t1⟩⟩
theorem ki:QA X [] qy:=PA.imp bL fun σ H Q ⟨τ,L,Q3,rs,rl,z,k⟩=>k _ H _ L (ED _) rl (by rfl) z
theorem x4(h:QE X e te)(ht:QA X es tr)(hs:Ez e es X:=by rfl):QA X (e::es) (qe te tr):=PA.imp (vi h ht hs) fun σ H Q ⟨τ,L,Q3,rs,rl,z,k⟩=>
 ⟨τ,L,_,rs,rl,z,fun v H1 y L1 t1 rl1 rv1 z1=>⟨τ,L1,_,rs.ts t1,rl1,z1,fun vs H2 ys L2 t2 rl2 rv2 z2=>k (v::vs) H2 (y::ys) L2 (t1.trans t2) rl2 ⟨v,vs,rfl,rv1.ts t2,rv2⟩ z2⟩⟩
theorem zd(h:QA X es tr):QE X (.Tuple es x1 pos) (va tr):=EF (ug h) fun σ H Q ⟨τ,L,Q3,rs,rl,z,k⟩=>
 ⟨τ,L,_,rs,rl,z,fun vs H1 ys L1 t1 rl1 rv1 z1=>by
  cases e:Nat.ble ys.length 1000 with
  |false=>rw[e] at z1;exact z1.elim
  |true=>
   rw[e] at z1;have:=BB e;refine⟨cJ (by rw[<-rv1.length];exact this),fun p hp=>?_⟩;exact k _ _ (.tup ys) L1 (t1.trans (EE hp)) (rl1.skip hp) ⟨p,vs,rfl,dC.of zw,rv1.ts (EE hp)⟩ z1⟩
theorem j9(h:QA X es tr):QE X (.List es pos) (vj tr):=EF (ac4 h) fun σ H Q ⟨τ,L,Q3,rs,rl,z,k⟩=>
 ⟨τ,L,_,rs,rl,z,fun vs H1 ys L1 t1 rl1 rv1 z1=>by
  cases e:Nat.ble ys.length 1000 with
  |false=>rw[e] at z1;exact z1.elim
  |true=>
   rw[e] at z1;have:=BB e;refine⟨cJ (by rw[<-rv1.length];exact this),fun p hp=>?_⟩;exact k _ _ _ _ (t1.trans (EE hp)) (rl1.newL hp rv1) (by rfl) (z1 p (rl1.none hp))⟩
theorem x9{id:String}{r:List Y->qm->YK->Prop}(hc:jw X (.builtin id) (upL X.g3 r))(hg:Gl X x)(hm:X.mg x=none)(hv:bootBuiltins x=some (.builtin id))(h:QA X (e::es) tr)
 (hn:x ≠ "__name__" := by decide) (hd:EW x:=by decide) (hs:Ez e es X:=by rfl) (hp:EV pos es X:=by rfl):
 QE X (.Call (.Name x p) (e::es) [] pos) (cx r tr):=EF (eF hc hg hm hv h hn hd hs hp) fun σ H Q ⟨τ,L,Q3,rs,rl,z,k⟩=>
 ⟨τ,L,_,rs,rl,z,fun vs H1 ys L1 t1 rl1 rv1 z1=>⟨ys,L1,Q3,rv1,rl1,z1,k.ts t1⟩⟩
def upO(G:G3)(t:TO3):TO:=fun σ H Q=>∃τ L Q3,v5 G H σ τ/\ji G H L/\t τ L Q3/\∀(o:Option Int) H' L',ja H H'->ji G H' L'->Q3 o L'->Q o H'
abbrev QO(X:Cx)(e:Option Expr)(t:TO3):Prop:=PO X e (upO X.g3 t)
theorem PO.imp{e:Option Expr}{t u:TO}(h:PO X e t)(q:∀σ H Q,u σ H Q->t σ H Q):PO X e u:=fun pins s σ H Q I z=>h pins s σ H Q I (q σ H Q z)
theorem pi.imp{r':V->Option Int->Option Int->Hp->VK->Prop}(h:pi X r)(q:∀x lo hi H Q,r' x lo hi H Q->r x lo hi H Q):pi X r':=by intro pins s σ H x v vl vu lo hi sl Q I rx hs pl pu z;exact h pins s σ H x v vl vu lo hi sl Q I rx hs pl pu (q _ _ _ _ _ z)
theorem cR:QO X none bG:=PO.imp ae5 fun σ H Q ⟨τ,L,Q3,rs,rl,z,k⟩=>k _ H L (ED _) rl z
theorem a6(h:QE X e te):QO X (some e) (fD te):=PO.imp (aey h) fun σ H Q ⟨τ,L,Q3,rs,rl,z,k⟩=>
 ⟨τ,L,_,rs,rl,z,fun v H1 y L1 t1 rl1 rv1 z1=>by cases y with|int i=>exact⟨i,rv1,k _ H1 L1 t1 rl1 z1⟩|_=>exact z1.elim⟩
def aex(G:G3)(r:Y->Option Int->Option Int->qm->YK->Prop):V->Option Int->Option Int->Hp->VK->Prop:=fun x lo hi H Q=>∃y L Q3,RV G H y x/\ji G H L/\r y lo hi L Q3/\wG G H Q3 Q
theorem aQ{lo hi:Option Expr}{tl th:TO3}{r:Y->Option Int->Option Int->qm->YK->Prop}(h:pi X (aex X.g3 r))(ha:QE X a ta)(hl:QO X lo tl)(hh:QO X hi th):QE X (.Subscript a (.Slice lo hi none p2) pos) (ySl r ta tl th):=
 EF (ab4 h ha hl hh) fun σ H Q ⟨τ,L,Q3,rs,rl,z,k⟩=>
 ⟨τ,L,_,rs,rl,z,fun v H1 y L1 t1 rl1 rv1 z1=>⟨τ,L1,_,rs.ts t1,rl1,z1,fun o H2 L2 t2 rl2 z2=>⟨τ,L2,_,rs.ts (t1.trans t2),rl2,z2,fun o' H3 L3 t3 rl3 z3=>⟨y,L3,Q3,rv1.ts (t2.trans t3),rl3,z3,k.ts (t1.trans (t2.trans t3))⟩⟩⟩⟩
theorem o5(r:xm G H ys xs)(lo hi:Option Int):xm G H (im ys lo hi) (qN xs lo hi):=by unfold im qN;rw[r.length];exact(r.drop _).take _
theorem am1(K:Af)(P:Program)(w:World)(hK:X.K=K:=by rfl)(hP:X.prog=P:=by rfl)(hw:X.w=w:=by rfl):pi X (aex ⟨K,P,w⟩ al0):=by
 subst hK hP hw;refine pi.imp adu fun x lo hi H Q ⟨y,L,Q3,rv,rl,z,k⟩=>?_;cases y with
 |ref a=>
  obtain⟨ys,es,z'⟩:=xx z;obtain⟨xs,sq,r⟩:=dZ rl (aE es);exact⟨a,xs,rv,sq,fun p hp=>k _ _ _ _ (EE hp) (rl.newL hp (o5 r lo hi)) (by rfl) (z' p (rl.none hp))⟩
 |sq ys=>
  obtain⟨a,xs,e,sf,r⟩:=rv;exact⟨a,xs,e,sf.sq,fun p hp=>k _ _ _ _ (EE hp) (rl.newL hp (o5 r lo hi)) (by rfl) (z p (rl.none hp))⟩
 |_=>exact z.elim
end
section
variable {a b iter:Expr}{tc:xn}{tB:gD}{tr:dQ}{rest orelse:List Stmt}{t u:w6}
theorem ze:mC X [] jr:=iM.imp aer fun D σ H ⟨τ,L,D3,rs,rl,z,k⟩=>k.nx _ H _ L (ED _) rs rl z
theorem qi(h:QS X st t):mC X [st] t:=wR h
theorem qc(h:QS X st t)(k:mC X rest u):mC X (st::rest) (qw t u):=iM.imp (sR h k) fun D σ H ⟨τ,L,D3,rs,rl,z,k⟩=>
 ⟨τ,L,{ D3 with nx:=u D3 },rs,rl,z,fun σ1 H1 τ1 L1 t1 rs1 rl1 z1=>⟨τ1,L1,D3,rs1,rl1,z1,k.ts t1⟩,k.rt,k.bk,k.ct⟩
theorem qM:QS X (.Continue pos) ag4:=EH qC fun D σ H ⟨τ,L,D3,rs,rl,z,k⟩=>k.ct _ H _ L (ED _) rs rl z
theorem z9(h:QE X e te)(hs:swapsWith e none pos.line X.env=pure false:=by rfl):QS X (.Expr e pos) (jd te):=EH (vQ h hs) fun D σ H ⟨τ,L,D3,rs,rl,z,k⟩=>
 ⟨τ,L,_,rs,rl,z,fun v H1 y L1 t1 rl1 rv1 z1=>k.nx _ H1 _ L1 t1 (rs.ts t1) rl1 z1⟩
theorem zm(h:QE X e te):QS X (.Return (some e) pos) (x0 te):=EH (ajo h) fun D σ H ⟨τ,L,D3,rs,rl,z,k⟩=>⟨τ,L,_,rs,rl,z,k.rt⟩
theorem vC:QS X (.Return none pos) abz:=EH af2 fun D σ H ⟨τ,L,D3,rs,rl,z,k⟩=>k.rt _ H _ L (ED _) rl (by rfl) z
theorem jc(h:QT X c tA)(ha:mC X body t)(hb:mC X orelse u):QS X (.If c body orelse pos) (x6 tA t u):=EH (alg h ha hb) fun D σ H ⟨τ,L,D3,rs,rl,z,k⟩=>
 ⟨τ,L,_,rs,rl,z,fun c H1 L1 t1 rl1 z1=>by cases c with|true=>rw[AA rfl];exact⟨τ,L1,D3,rs.ts t1,rl1,z1,k.ts t1⟩|false=>rw[As Ax];exact⟨τ,L1,D3,rs.ts t1,rl1,z1,k.ts t1⟩⟩
theorem aW(hN:X.N.Nodup)(hix:X.N[i]?=some x)(hx:Loc X.env.scope x)(h:QE X e te)(hsw:swapsWith e (some (.Name x pos')) pos.line X.env=pure false:=by rfl)
 (hfn:X.fn x=true\/X.env.scope.names.lookup x=some .local:=by first | exact .inl rfl | exact .inr rfl | assumption):QS X (.Assign [.Name x pos'] e pos) (zp te (qh i)):=EH (agp hN hix hx h hsw hfn) fun D σ H ⟨τ,L,D3,rs,rl,z,k⟩=>
 ⟨τ,L,_,rs,rl,z,fun v H1 y L1 t1 rl1 rv1 z1=>k.nx _ H1 _ L1 t1 (show v5 _ _ _ (ae τ i y) by rw[km];exact(rs.ts t1).set rv1) rl1 z1⟩
theorem dw(h:QE X e te)(hg:QG X tg g)(h1:swapsWithSole [tg] e pos.line X.env=pure false:=by rfl)(h2:swappedStores [tg] e X.env=pure none:=by rfl)
 (h3:(assignEach [tg] X.env).map (·.2)=[assign tg X.env]:=by rfl):QS X (.Assign [tg] e pos) (zp te g):=EH (ab1 h hg h1 h2 h3) fun D σ H ⟨τ,L,D3,rs,rl,z,k⟩=>
 ⟨τ,L,_,rs,rl,z,fun v H1 y L1 t1 rl1 rv1 z1=>⟨y,τ,L1,_,rv1,rs.ts t1,rl1,z1,k.nx.ts t1⟩⟩
theorem PG.imp{t u:TG}(h:PG X e t)(q:∀v σ H Q,u v σ H Q->t v σ H Q):PG X e u:=fun pins s σ H x v Q I r z=>h pins s σ H x v Q I r (q _ _ _ _ z)
theorem zK.imp{e:List Expr}{t u:TGs}(h:zK X e t)(q:∀v σ H Q,u v σ H Q->t v σ H Q):zK X e u:=fun pins s σ H x v Q I r z=>h pins s σ H x v Q I r (q _ _ _ _ z)
theorem jM(hN:X.N.Nodup)(hix:X.N[i]?=some x)(hx:Loc X.env.scope x)(hfn:X.fn x=true\/X.env.scope.names.lookup x=some .local:=by first | exact .inl rfl | exact .inr rfl | assumption):QG X (.Name x pos) (qh i):=
 PG.imp (jF hN hix hx hfn) fun v σ H Q ⟨y,τ,L,Q3,rv,rs,rl,z,k⟩=>k _ H _ L (ED _) (show v5 _ _ _ (ae τ i y) by rw[km];exact rs.set rv) rl z
theorem vg:QGs X [] k7:=zK.imp uv fun vs σ H Q ⟨ys,τ,L,Q3,rv,rs,rl,z,k⟩=>by cases ys with|nil=>exact⟨rv,k _ H _ L (ED _) rs rl z⟩|cons y r=>exact z.elim
theorem zf(h:QG X e g)(hs:QGs X es gs)(he:(assignEach (e::es) X.env).map (·.2)=assign e X.env::(assignEach es X.env).map (·.2):=by rfl):QGs X (e::es) (zh g gs):=
 zK.imp (lC h hs he) fun vs σ H Q ⟨ys,τ,L,Q3,rv,rs,rl,z,k⟩=>by
 cases ys with
 |nil=>exact z.elim
 |cons y r=>
  obtain⟨x,xs,rfl,r1,r2⟩:=rv;exact⟨x,xs,rfl,y,τ,L,_,r1,rs,rl,z,fun σ1 H1 τ1 L1 t1 rs1 rl1 z1=>⟨r,τ1,L1,Q3,r2.ts t1,rs1,rl1,z1,k.ts t1⟩⟩
theorem wv{kk:Nat}(hc:X.calm=true)(h:QGs X es gs)(h1:(assignEach es X.env).length=n:=by rfl)(h2:(assignEach es X.env).findIdx? (·.1)=none:=by rfl):QG X (.Tuple es kk pos) (kz n gs):=
 PG.imp (zU hc h h1 h2) fun v σ H Q ⟨y,τ,L,Q3,rv,rs,rl,z,k⟩=>by
 cases y with
 |tup ys=>
  obtain⟨a,xs,rfl,sq,r⟩:=rv;have z':(match ys.length==n with | true=>gs ys τ L Q3 | false=>False):=z;split at z'
  ·rename_i e;exact⟨a,xs,rfl,sq,by rw[<-r.length];exact beq_iff_eq.mp e,ys,τ,L,Q3,r,rs,rl,z',k⟩
  ·exact z'.elim
 |_=>exact z.elim
theorem ab6{y:Str}{px pt:Pos}{k2:Nat}{pt2:Pos}(hc:X.calm=true)(hN:X.N.Nodup)(hi:X.N[i]?=some x)(hj:X.N[j]?=some y)(hij:i≠j)(lx:X.env.scope.names.lookup x=some .local)(ly:X.env.scope.names.lookup y=some .local)
 (h:QA X [a,b] tr) (h1:swappedStores [.Tuple [.Name x px,.Name y py] kt pt] (.Tuple [a,b] k2 pt2) X.env=pure (some [x,y])) (h2:swapsWithSole [.Tuple [.Name x px,.Name y py] kt pt] (.Tuple [a,b] k2 pt2) pos.line X.env=pure false:=by rfl):
 QS X (.Assign [.Tuple [.Name x px,.Name y py] kt pt] (.Tuple [a,b] k2 pt2) pos) (aiz i j tr):=EH (ajv hc hN hi hj hij lx ly h h1 h2) fun D σ H ⟨τ,L,D3,rs,rl,z,k⟩=>
 ⟨τ,L,_,rs,rl,z,fun vs H1 ys L1 t1 rl1 rv1 z1=>by
  split at z1
  ·rename_i v w;obtain⟨x',y',rfl,r1,r2⟩:=rv1.inv2;exact⟨x',y',rfl,k.nx _ H1 _ L1 t1 (show v5 _ _ _ (ae (ae τ i v) j w) by rw[km,km];exact((rs.ts t1).set r1).set r2) rl1 z1⟩
  ·exact z1.elim⟩
theorem jP(hp:PassesOwn (model X.prog X.w) X.A X.env X.xe)(h:QT X c tA)(hb:mC X body t):QS X (.While c body [] pos) (o9 tA t):=EH (abo hp h hb) fun D σ H ⟨τ,L,D3,rs,rl,⟨W,⟨m0,w0⟩,turn⟩,k⟩=>by
 refine⟨fun m σ1 H1=>∃τ1 L1,ja H H1/\v5 X.g3 H1 σ1 τ1/\ji X.g3 H1 L1/\W m τ1 L1,⟨m0,τ,L,ED _,rs,rl,w0⟩,?_⟩;rintro m σ1 H1 ⟨τ1,L1,t1,rs1,rl1,w1⟩;refine⟨τ1,L1,_,rs1,rl1,turn m τ1 L1 w1,fun b H2 L2 t2 rl2 z2=>?_⟩;cases b with
 |false=>rw[As Ax];exact k.nx _ H2 _ L2 (t1.trans t2) (rs1.ts t2) rl2 z2
 |true=>
  rw[AA rfl];obtain⟨N,hN,z2⟩:=z2;refine⟨fun σ' H'=>∃τ' L',ja H H'/\v5 X.g3 H' σ' τ'/\ji X.g3 H' L'/\N τ' L',?_,?_⟩
  ·rintro σ' H' ⟨τ',L',t',rs',rl',n'⟩;obtain⟨m',hm,w'⟩:=hN τ' L' n';exact⟨m',hm,τ',L',t',rs',rl',w'⟩
  ·have nx:lh X.g3 H2 (eQ N) (fun σ' H'=>∃τ' L',ja H H'/\v5 X.g3 H' σ' τ'/\ji X.g3 H' L'/\N τ' L'):=fun σ' H' τ' L' t' rs' rl' ⟨L5,s5,n'⟩=>⟨τ',L5,(t1.trans t2).trans t',rs',rl'.sub s5,n'⟩;have k2:=k.ts (t1.trans t2);exact⟨τ1,L2,_,rs1.ts t2,rl2,z2,nx,k2.rt,k2.nx,nx⟩
theorem ww{wi:TI3}(hp:PassesOwn (model X.prog X.w) X.A X.env X.xe)(hc:X.calm=true)(hi:QI X tg iter wi)(hg:QG X tg g)(hb:mC X body t)(hs:∀x,foldedSetIterable iter X.env x=pure x:=by intro _;rfl):
 QS X (.For tg iter body [] pos) (fO wi g t):=EH (ajc hp hc hi hg hb hs) fun D σ H ⟨τ,L,D3,rs,rl,z,k⟩=>by
 refine⟨τ,L,_,rs,rl,z,fun J H1 ys keep L1 t1 rl1 yl zz=>?_⟩;obtain⟨W,w0,wk,turn,vk⟩:=ach zz;refine⟨fun i m σ' H'=>∃τ' L',i+m=ys.length/\ja H1 H'/\v5 X.g3 H' σ' τ'/\ji X.g3 H' L'/\W i τ' L',⟨ys.length,τ,L1,by omega,ED _,rs.ts t1,rl1,w0⟩,?_⟩;rintro i m σ2 H2 ⟨τ2,L2,him,t2,rs2,rl2,w2⟩;by_cases hlt:i<ys.length
 ·refine .inr ⟨yl.go i H2 L2 t2 rl2 (wk i τ2 L2 w2) hlt,fun σ' H'=>∃τ' L',ja H1 H'/\v5 X.g3 H' σ' τ'/\ji X.g3 H' L'/\W (i+1) τ' L',?_,?_⟩
  ·rintro σ' H' ⟨τ',L',t',rs',rl',w'⟩;exact⟨m - 1,by omega,τ',L',by omega,t',rs',rl',w'⟩
  ·intro x H3 y3;have ey:ys[i]?=some ys[i]:=Al hlt;obtain⟨t3,rl3,rv3⟩:=yl.yld i H2 L2 x H3 _ t2 rl2 (wk i τ2 L2 w2) ey y3;refine⟨ys[i],τ2,L2,_,rv3,rs2.ts t3,rl3,turn i _ τ2 L2 ey w2,fun σ4 H4 τ4 L4 t4 rs4 rl4 z4=>?_⟩;have nx:lh X.g3 H4 (eQ (W (i+1))) (fun σ' H'=>∃τ' L',ja H1 H'/\v5 X.g3 H' σ' τ'/\ji X.g3 H' L'/\W (i+1) τ' L'):=fun σ' H' τ' L' t' rs' rl' ⟨L5,s5,n'⟩=>⟨τ',L5,((t2.trans t3).trans t4).trans t',rs',rl'.sub s5,n'⟩;have k2:=k.ts (t1.trans ((t2.trans t3).trans t4));exact⟨τ4,L4,_,rs4,rl4,z4,nx,k2.rt,k2.nx,nx⟩
 ·have e:i=ys.length:=by omega
  subst e;exact .inl ⟨yl.stop H2 L2 t2 rl2 (wk _ τ2 L2 w2),k.nx _ H2 _ L2 (t1.trans t2) rs2 rl2 (vk τ2 L2 w2)⟩
theorem PI.imp{t u:TI}(h:PI X tg e t)(q:∀σ H Q,u σ H Q->t σ H Q):PI X tg e u:=fun pins s σ H Q I z=>h pins s σ H Q I (q σ H Q z)
theorem iQ{a:Addr}{keep:qm->Prop}(h:∀H L,ja H₀ H->ji G H L->keep L->∃xs,aB G.K H a xs/\xm G H ys xs):iN G H₀ (Itl G.K a) ys keep where
 go:=fun i H L t rl kp hi=>by
  obtain⟨xs,sq,r⟩:=h H L t rl kp;have:i<xs.length:=by rw[<-r.length];exact hi
  exact⟨xs,xs[i],sq,Al this⟩
 yld:=fun i H L x H' y t rl kp hy ⟨e,f⟩=>by subst e;obtain⟨xs,sq,r⟩:=h _ L t rl kp;obtain⟨x',e',rv⟩:=r.get hy;have:=f xs sq;rw[e'] at this;cases this;exact⟨ED _,rl,rv⟩
 stop:=fun H L t rl kp=>by obtain⟨xs,sq,r⟩:=h H L t rl kp;exact⟨xs,sq,by rw[r.length];exact Am _⟩
theorem vq(h:QE X e te):QI X tg e (ky te):=PI.imp (af8 h) fun σ H R ⟨τ,L,R3,rs,rl,z,k⟩=>by
 refine⟨τ,L,_,rs,rl,z,fun v H1 y L1 t1 rl1 rv1 z1=>?_⟩;cases y with
 |ref a=>
  obtain⟨ys,keep,es,kp,hk,z2⟩:=rR z1;have hy:∀H L,ja H1 H->ji X.g3 H L->keep L->∃xs,aB X.K H a xs/\xm X.g3 H ys xs:=fun H L _ rl e=>dZ rl (hk L e);obtain⟨xs,sq,_⟩:=hy H1 L1 (ED _) rl1 kp;exact⟨a,rv1,⟨xs,sq⟩,k _ H1 ys _ L1 t1 rl1 (iQ hy) z2⟩
 |sq ys=>
  obtain⟨a,xs,e,sf,r⟩:=rv1;exact⟨a,e,⟨xs,sf.sq⟩,k _ H1 ys (fun _=>True) L1 t1 rl1 (iQ fun H L t _ _=>⟨xs,(sf.ts t).sq,r.ts t⟩) z1⟩
 |_=>exact z1.elim
theorem qD(lo:Int)(n:Nat):iN G H₀ (Itr lo n) (aY lo n) (fun _=>True) where
 go:=fun i H L t rl kp hi=>show i<n by simpa[aY] using hi
 yld:=fun i H L x H' y t rl kp hy ⟨e,f⟩=>by
  subst e f;refine⟨ED _,rl,?_⟩;unfold aY at hy;rw[Ar] at hy;obtain⟨z,ez,e⟩:=Ay.mp hy;have:=List.getElem?_range (i:=i) (n:=n) (by
   by_cases c:i<n
   ·exact c
   ·rw[CL (by simp;omega)] at ez;cases ez)
  rw[this] at ez;cases ez;subst e;rfl
 stop:=fun H L t rl kp=>by simp[aY,Itr]
theorem ai(hg:Gl X "range")(hm:X.mg "range" = none)(h:QA X [a] tr)(hs:starEach [a] X.env=[(false,eval a X.env)]:=by rfl):QI X tg (.Call (.Name "range" p) [a] [] pos) (fb tr):=
 PI.imp (wV hg hm h hs) fun σ H R ⟨τ,L,R3,rs,rl,z,k⟩=>by
 refine⟨τ,L,_,rs,rl,z,fun vs H1 ys L1 t1 rl1 rv1 z1=>?_⟩;split at z1
 ·rename_i j;obtain⟨x,rfl,r⟩:=rv1.inv1;cases r;exact⟨j,rfl,z1.1.1,z1.1.2,k _ H1 _ _ L1 t1 rl1 (qD 0 _) z1.2⟩
 ·exact z1.elim
end
section
variable {T:List Str}{iter:Expr}{wi:TI3}{tr:dQ} 
theorem iG:QF X [] u7:=PF.imp aho fun σ H Q ⟨τ,L,Q3,rs,rl,z,k⟩=>k _ H L (ED _) rl z
theorem cY(h:QT X c tA):QF X [c] tA:=ahv h
theorem ag1{g2:TG}(hg2:∀v σ H Q,upG G g v σ H Q->g2 v σ H Q)(σ:L2.St)(H:Hp)(Q:VK):wO G (oB n wi g tA te) σ H Q->tLC n (upI G wi) g2 (upT G tA) (wO G te) σ H Q:=fun⟨τ,L,Q3,rs,rl,z,k⟩=>by
 refine⟨τ,L,_,rs,rl,z,fun J H1 ys keep L1 t1 rl1 yl zz=>?_⟩;obtain⟨hz,W,w0,wk,turn,vk⟩:=acp zz;refine⟨fun i m vs H'=>∃zs L',i+m=ys.length/\zs.length≤i/\ja H1 H'/\xm G H' zs vs/\ji G H' L'/\W i zs L',⟨ys.length,[],L1,by exact Nat.add_comm _ _,Am _,ED _,rfl,rl1,w0⟩,?_⟩;rintro i m vs H2 ⟨zs,L2,him,hzi,t2,rv2,rl2,w2⟩;by_cases hlt:i<ys.length
 ·refine .inr ⟨yl.go i H2 L2 t2 rl2 (wk i zs L2 w2) hlt,by rw[<-rv2.length];lia,?_⟩;intro x H3 y3;have ey:ys[i]?=some ys[i]:=Al hlt;obtain⟨t3,rl3,rv3⟩:=yl.yld i H2 L2 x H3 _ t2 rl2 (wk i zs L2 w2) ey y3;refine hg2 _ _ _ _ ⟨ys[i],_,L2,_,rv3,(rs.ts ((t1.trans t2).trans t3)).more n,rl3,turn i _ zs L2 ey w2,fun σ4 H4 τ4 L4 t4 rs4 rl4 z4=>?_⟩;refine⟨τ4,L4,_,rs4,rl4,z4,fun b H5 L5 t5 rl5 z5=>?_⟩;cases b with
  |true=>
   rw[AA rfl];refine⟨τ4,L5,_,rs4.ts t5,rl5,z5,fun v6 H6 y6 L6 t6 rl6 rv6 ⟨L7,s7,z6⟩=>?_⟩;have tt:=((t3.trans t4).trans t5).trans t6;exact⟨m - 1,by omega,zs++[y6],L7,by lia,by rw[Ac,Bf];exact xK,t2.trans tt,(rv2.ts tt).app (xm.one rv6),rl6.sub s7,z6⟩
  |false=>
   rw[As Ax];have tt:=(t3.trans t4).trans t5;obtain⟨L7,s7,z6⟩:=z5;exact⟨m - 1,by lia,zs,L7,by lia,by exact ahu,t2.trans tt,rv2.ts tt,rl5.sub s7,z6⟩
 ·have ei:i=ys.length:=by lia
  subst ei;refine .inl ⟨yl.stop H2 L2 t2 rl2 (wk _ zs L2 w2),by rw[<-rv2.length];lia,fun D hD=>?_⟩;exact k _ _ _ _ ((t1.trans t2).trans (EE hD)) (rl2.newL hD rv2) (by rfl) (vk zs L2 w2 D (rl2.none hD))
structure TGx(X:Cx)(scope:Scope)(T:List Str)(target:Expr)(g:hG):Prop where
 ex:∃g2:TG,(∀C fp s₀ H₀,PG (X.comp scope T C fp s₀ H₀) target g2)/\mP g2 X.N.length T.length/\∀v σ H Q,upG X.g3 g v σ H Q->g2 v σ H Q
theorem ae3(i:Nat)(v:V)(σ:L2.St)(H:Hp)(Q:L2.St->Hp->Prop):upG G (qh i) v σ H Q->dg i v σ H Q:=fun⟨y,τ,L,Q3,rv,rs,rl,z,k⟩=>
 k _ H _ L (ED _) (show v5 _ _ _ (ae τ i y) by rw[km];exact rs.set rv) rl z
theorem ke(hN:(X.N++[x]).Nodup)(hl:∀C fp s₀ H₀,Loc (X.comp scope [x] C fp s₀ H₀).env.scope x)(hfn:∀C fp s₀ H₀,(X.comp scope [x] C fp s₀ H₀).env.scope.names.lookup x=some .local):TGx X scope [x] (.Name x p) (qh X.N.length):=
 ⟨dg X.N.length,fun C fp s₀ H₀=>jF (X:=X.comp scope [x] C fp s₀ H₀) hN (by show(X.N++[x])[X.N.length]?=some x;simp) (hl C fp s₀ H₀) (.inr (hfn C fp s₀ H₀)),uV _,ae3 _⟩
theorem xM{K:Af}(n:Nat):mP (aiy K 2 (sP (dg n) (sP (dg (n+1)) ai7))) n 2:=by
 rintro σ hl x H Q ⟨a,xs,e,sq,len,v,r,e1,w,r',e2,e3,q⟩;refine⟨a,xs,e,sq,len,v,r,e1,w,r',e2,e3,⟨by simp[hl],fun i u ei=>?_⟩,q⟩;have hi:i<n:=by
  by_cases c:i<n
  ·exact c
  ·rw[Ak (by lia),Cv] at ei;split at ei<;>cases ei
 rw[A6 (by lia),A6 (by exact agu)];exact ei
theorem aht(i j:Nat)(v:V)(σ:L2.St)(H:Hp)(Q:L2.St->Hp->Prop):upG G (kz 2 (zh (qh i) (zh (qh j) k7))) v σ H Q->aiy G.K 2 (sP (dg i) (sP (dg j) ai7)) v σ H Q:=fun⟨y,τ,L,Q3,rv,rs,rl,z,k⟩=>by
 cases y with
 |tup ys=>
  obtain⟨a,xs,rfl,sq,r⟩:=rv;have z':(match ys.length==2 with | true=>zh (qh i) (zh (qh j) k7) ys τ L Q3 | false=>False):=z;split at z'
  ·rename_i e;have hl:ys.length=2:=beq_iff_eq.mp e
   match ys,hl with
   |[y1,y2],_=>
    obtain⟨x1,x2,rfl,r1,r2⟩:=r.inv2;have z2:Q3 (ae (ae τ i y1) j y2) L:=z';exact⟨a,_,rfl,sq,rfl,x1,[x2],rfl,x2,[],rfl,rfl,k _ H _ L (ED _) (by rw[km,km];exact(rs.set r1).set r2) rl z2⟩
  ·exact z'.elim
 |_=>exact z.elim
theorem jH{y:Str}{p' pt:Pos}(hc:X.calm=true)(hN:(X.N++[x,y]).Nodup)(hl:∀C fp s₀ H₀,(X.comp scope [x,y] C fp s₀ H₀).env.scope.names.lookup x=some .local)(hl2:∀C fp s₀ H₀,(X.comp scope [x,y] C fp s₀ H₀).env.scope.names.lookup y=some .local)
 (h1:∀env,(assignEach [.Name x p,.Name y p'] env).length=2:=by intro _;rfl) (h2:∀env,(assignEach [.Name x p,.Name y p'] env).findIdx? (·.1)=none:=by intro _;rfl)
 (h3:∀env,(assignEach [.Name x p,.Name y p'] env).map (·.2)=assign (.Name x p) env::(assignEach [.Name y p'] env).map (·.2):=by intro _;rfl) (h4:∀env,(assignEach [.Name y p'] env).map (·.2)=assign (.Name y p') env::(assignEach [] env).map (·.2):=by intro _;rfl):
 TGx X scope [x,y] (.Tuple [.Name x p,.Name y p'] kt pt) (kz 2 (zh (qh X.N.length) (zh (qh (X.N.length+1)) k7))):=
 ⟨_,fun C fp s₀ H₀=>zU (X:=X.comp scope [x,y] C fp s₀ H₀) hc (lC (jF hN (by show(X.N++[x,y])[X.N.length]?=some x;simp) (.inl (hl C fp s₀ H₀)) (.inr (hl C fp s₀ H₀))) (lC (jF hN (by show(X.N++[x,y])[X.N.length+1]?=some y;simp) (.inl (hl2 C fp s₀ H₀)) (.inr (hl2 C fp s₀ H₀))) uv (h4 _)) (h3 _)) (h1 _) (h2 _),xM _,aht _ _⟩
theorem dR(T:List Str)(S:jn X scope)(hc:X.calm=true)(hi:QI X target iter wi)(hg:TGx X scope T target g)
 (hf:∀C fp s₀ H₀,QF (X.comp scope T C fp s₀ H₀) ifs tA) (he:∀C fp s₀ H₀,QE (X.comp scope T C fp s₀ H₀) elt te)
 (hs:∀x,foldedSetIterable iter X.env x=pure x:=by intro _;rfl):QE X (.ListComp elt [⟨target,iter,ifs,0⟩] scope pos) (oB T.length wi g tA te):=by
 obtain⟨g2,h1,h2,h3⟩:=hg.ex;exact EF (alb T S hc hi h1 h2 hf he hs) (ag1 h3)
theorem gg(T:List Str){px:Pos}(hN:X.N.Nodup)(hix:X.N[i]?=some x)(hx:Loc X.env.scope x)(S:jn X scope)(hc:X.calm=true)(hi:QI X target iter wi)
 (hg:TGx X scope T target g) (hf:∀C fp s₀ H₀,QF (X.comp scope T C fp s₀ H₀) ifs tA) (he:∀C fp s₀ H₀,QE (X.comp scope T C fp s₀ H₀) elt te)
 (hsw:swapsWith (.ListComp elt [⟨target,iter,ifs,0⟩] scope lp) (some (.Name x px)) pos.line X.env=pure true:=by rfl)
 (hfn:X.fn x=true\/X.env.scope.names.lookup x=some .local:=by first | exact .inl rfl | exact .inr rfl | assumption)
 (hs:∀x,foldedSetIterable iter X.env x=pure x:=by intro _;rfl):QS X (.Assign [.Name x px] (.ListComp elt [⟨target,iter,ifs,0⟩] scope lp) pos) (zp (oB T.length wi g tA te) (qh i)):=by
 obtain⟨g2,h1,h2,h3⟩:=hg.ex;refine EH (zX (tc:=upT X.g3 tA) (te:=wO X.g3 te) T hN hix hx S hc hi h1 h2 hf he hsw hfn hs) fun D σ H ⟨τ,L,D3,rs,rl,z,k⟩=>?_;refine ag1 h3 σ H _ ⟨τ,L,_,rs,rl,z,fun v H1 y L1 t1 rl1 rv1 z1=>?_⟩;exact k.nx _ H1 _ L1 t1 (show v5 _ _ _ (ae τ i y) by rw[km];exact(rs.ts t1).set rv1) rl1 z1
def dn(G:G3)(sp:xw):Sp:=fun vs H Q _=>∃ys L Q3,xm G H ys vs/\ji G H L/\sp ys L Q3/\wG G H Q3 Q
abbrev ai8(P:Program)(w:World)(K:Af)(mg:Str->Option Value)(base:Heap)(k:Nat)(x:Str)(ps:List Str)(sp:xw):Prop:=yq P w K mg base k x ps (dn ⟨K,P,w⟩ sp)
abbrev Fn3(P:Program)(w:World)(K:Af)(mg:Str->Option Value)(base:Heap)(k:Nat)(f:Addr)(fd:FuncData)(ps:List Str)(sp:xw):Prop:=am P w K mg base CX0 k f fd ps (dn ⟨K,P,w⟩ sp)
theorem aom{k:Nat}{sp:xw}(c:ai8 X.prog X.w X.K X.mg X.base k x ps sp)(hr:w4 k X.A)(hg:Gl X x)(ha:QA X (e::es) tr)(hdb:EW x:=by decide)
 (he:Ez e es X:=by rfl) (hpl:EV pos es X:=by rfl):QE X (.Call (.Name x p) (e::es) [] pos) (zo sp tr):=
 EF (apn c hr hg ha hdb he hpl) fun σ H Q ⟨τ,L,Q3,rs,rl,z,k⟩=>
 ⟨τ,L,_,rs,rl,z,fun vs H1 ys L1 t1 rl1 rv1 z1=>⟨ys,L1,Q3,by rw[AI];exact rv1,rl1,z1,k.ts t1⟩⟩
def hZ(Q:YK):YK:=fun y L=>∃L2,qj L2 L/\Q y L2
def eG(N:List Str)(ys:List Y):jj:=ys.map some++List.replicate (N.length - ys.length) none
theorem gl{N:List Str}{vs:List V}(r:xm G H ys vs):v5 G H (L2.start N vs) (eG N ys):=by unfold L2.start eG;rw[<-r.length];refine v5.more ⟨by simp[r.length],fun i y e=>?_⟩ _;rw[Ar] at e;obtain⟨y',e1,e2⟩:=Ay.mp e;cases e2;obtain⟨x,ex,rx⟩:=r.get e1;exact⟨x,by rw[Ar,ex];rfl,rx⟩
theorem ok3{P:Program}{w:World}{K:Af}{N:List Str}{k:Nat}{sp:xw}(F:Fun K x qual st f fd)(S:wr N ps (qo st))(len:∀ys L Q,sp ys L Q->ys.length=ps.length)
 (hbody:∀(cdv:Value) (A:Around) (outer:List Env) (s:Shared) (H:Hp) (E:XK),w4 k (A.deeper (PyProof.Rows.envOfC qual (qo st) s.heap.objs.size f cdv))->
  ∃t,mC (cz CX0 P w K mg base N qual (qo st) f cdv A outer s H E).nox (jk st) t/\∀ys L Q,sp ys L Q->t { nx:=fun _ L'=>hZ Q .non L',rt:=hZ Q } (eG N ys) L):Fn3 P w K mg base (k+1) f fd ps sp:=by
 refine F.ok S (fun vs H Q E ⟨ys,L,Q3,rv,rl,z,_⟩=>by rw[<-rv.length];exact len ys L Q3 z) fun cdv A outer s H vs Q E hr ⟨ys,L,Q3,rv,rl,z,k⟩=>?_;obtain⟨t,ht,q⟩:=hbody cdv A outer s H E hr;refine⟨_,ht,eG N ys,L,_,gl rv,rl,q ys L Q3 z,?_⟩;refine⟨fun σ H' τ L' t' rs' rl' ⟨L2,s2,q2⟩=>k .non H' .non L2 t' (rl'.sub s2) (by rfl) q2,fun v H' y L' t' rl' rv' ⟨L2,s2,q2⟩=>k v H' y L2 t' (rl'.sub s2) rv' q2,fun _ _ _ _ _ _ _ z=>z.elim,fun _ _ _ _ _ _ _ z=>z.elim⟩
def upM(G:G3)(r:Y->List Y->qm->YK->Prop):V->List V->Hp->VK->Prop:=fun x xs H Q=>∃y ys L Q3,RV G H y x/\xm G H ys xs/\ji G H L/\r y ys L Q3/\wG G H Q3 Q
theorem aac:kQ X "list.append" (upM X.g3 zk):=kQ.imp yY fun x xs H Q ⟨y,ys,L,Q3,r1,r2,rl,z,k⟩=>by
 unfold zk at z;split at z
 ·rename_i a v;obtain⟨zs,e,z⟩:=xx z;obtain⟨us,e2,r⟩:=rl a _ e;obtain⟨v',rfl,rv⟩:=r2.inv1;exact⟨a,us,v',r1,rfl,e2,by rw[<-r.length];exact z.1,k _ _ _ _ (EN e2) (rl.setL e2 (r.app (xm.one rv))) (by rfl) z.2⟩
 ·exact z.elim
theorem aaq:kQ X "list.extend" (upM X.g3 bA):=kQ.imp y4 fun x xs H Q ⟨y,ys,L,Q3,r1,r2,rl,z,k⟩=>by
 unfold bA at z;split at z
 ·rename_i a b;obtain⟨zs,e,z⟩:=xx z;obtain⟨us,e',z⟩:=xx z;obtain⟨vs,e2,r⟩:=rl a _ e;obtain⟨ws,e3,r'⟩:=rl b _ e';obtain⟨v',rfl,rv⟩:=r2.inv1;cases rv;exact⟨a,b,vs,ws,r1,rfl,e2,e3,by rw[<-r.length,<-r'.length];exact z.1,k _ _ _ _ (EN e2) (rl.setL e2 (r.app r')) (by rfl) z.2⟩
 ·exact z.elim
theorem amd:kQ X "list.pop" (upM X.g3 yi):=kQ.imp ajm fun x xs H Q ⟨y,ys,L,Q3,r1,r2,rl,z,k⟩=>by
 unfold yi at z;split at z
 ·rename_i a;obtain⟨zs,e,z⟩:=xx z;obtain⟨us,e2,r⟩:=rl a _ e;cases (show xs=[] from r2);cases el:zs[zs.length - 1]? with
  |none=>rw[el] at z;exact z.elim
  |some v=>
   rw[el] at z;obtain⟨u,eu,ru⟩:=r.get el;rw[r.length] at eu;exact⟨a,us,u,r1,rfl,e2,eu,k _ _ _ _ (EN e2) (rl.setL e2 r.dropLast) (ru.ts (EN e2)) z⟩
 ·exact z.elim
theorem wI{a:Addr}(rl:ji G H L)(h:cB L (.ref a)=some ys):tyV G.K "list" (.ref a) H:=by obtain⟨xs,sq,_⟩:=dZ rl h;exact .inl ⟨rfl,xs,sq⟩
def aG(r:Y->List Y->qm->YK->Prop)(to:xn)(t:dQ)(τ:jj)(L:qm)(Q:YK):Prop:=to τ L fun x L1=>match x with
 |.ref a=>iE L1 (.ref a) fun _=>t τ L1 fun xs L2=>r (.ref a) xs L2 Q
 |_=>False
theorem pH{id:String}{r:Y->List Y->qm->YK->Prop}(h2:Slot "list" name id)(h3:typeOf (.builtin id)=pure (.type "method_descriptor"))(hm:kQ X id (upM X.g3 r))(ho:QE X o to)(ha:QA X (e::es) tr)
 (h4:attributeBase o name X.env (eval o X.env)=eval o X.env:=by rfl)
 (h5:((backTo cpos (starEach (e::es) X.env)).all (fun x=>!x.1)&&(backToKw cpos (keywordEach [] X.env)).all (fun x=>x.1.isSome)&&decide ((e::es).length+([]:List Keyword).length+(if ([]:List Keyword).isEmpty=true then 0 else 1)<30))=true:=by rfl)
 (h6:(apos.endLine==cpos.line)=true:=by rfl) (h7:Ez e es X:=by rfl) (h8:EV cpos es X:=by rfl):
 QE X (.Call (.Attribute o name apos) (e::es) [] cpos) (aG r to tr):=EF (agl Ed h2 h3 hm ho ha h4 h5 h6 h7 h8) fun σ H Q ⟨τ,L,Q3,rs,rl,z,k⟩=>
 ⟨τ,L,_,rs,rl,z,fun v H1 y L1 t1 rl1 rv1 z1=>by
  split at z1
  ·rename_i a;obtain⟨ys,es,z1⟩:=wz z1;exact⟨by cases rv1;exact wI rl1 es,τ,L1,_,rs.ts t1,rl1,z1,fun vs H2 ys L2 t2 rl2 rv2 z2=>⟨.ref a,ys,L2,Q3,rv1.ts t2,rv2,rl2,z2,k.ts (t1.trans t2)⟩⟩
  ·exact z1.elim⟩
theorem aic{id:String}{r:Y->List Y->qm->YK->Prop}(h2:Slot "list" name id)(h3:typeOf (.builtin id)=pure (.type "method_descriptor"))(hm:kQ X id (upM X.g3 r))(ho:QE X o to)
 (h4:attributeBase o name X.env (eval o X.env)=eval o X.env:=by rfl) (h6:(apos.endLine==cpos.line)=true:=by rfl):
 QE X (.Call (.Attribute o name apos) [] [] cpos) (aG r to qy):=EF (aiw Ed h2 h3 hm ho h4 h6) fun σ H Q ⟨τ,L,Q3,rs,rl,z,k⟩=>
 ⟨τ,L,_,rs,rl,z,fun v H1 y L1 t1 rl1 rv1 z1=>by
  split at z1
  ·rename_i a;obtain⟨ys,es,z1⟩:=wz z1;exact⟨by cases rv1;exact wI rl1 es,.ref a,[],L1,Q3,rv1,rfl,rl1,z1,k.ts t1⟩
  ·exact z1.elim⟩
theorem qz(ho:QE X o to)(ha:QA X (e::es) tr)(h4:attributeBase o "append" X.env (eval o X.env)=eval o X.env:=by rfl)
 (h5:((backTo cpos (starEach (e::es) X.env)).all (fun x=>!x.1)&&(backToKw cpos (keywordEach [] X.env)).all (fun x=>x.1.isSome)&&decide ((e::es).length+([]:List Keyword).length+(if ([]:List Keyword).isEmpty=true then 0 else 1)<30))=true:=by rfl)
 (h6:(apos.endLine==cpos.line)=true:=by rfl) (h7:Ez e es X:=by rfl) (h8:EV cpos es X:=by rfl):
 QE X (.Call (.Attribute o "append" apos) (e::es) [] cpos) (aG zk to tr):=pH PySem.F.slot_list_append PySem.F.type_list_append aac ho ha h4 h5 h6 h7 h8
theorem bU(ho:QE X o to)(ha:QA X (e::es) tr)(h4:attributeBase o "extend" X.env (eval o X.env)=eval o X.env:=by rfl)
 (h5:((backTo cpos (starEach (e::es) X.env)).all (fun x=>!x.1)&&(backToKw cpos (keywordEach [] X.env)).all (fun x=>x.1.isSome)&&decide ((e::es).length+([]:List Keyword).length+(if ([]:List Keyword).isEmpty=true then 0 else 1)<30))=true:=by rfl)
 (h6:(apos.endLine==cpos.line)=true:=by rfl) (h7:Ez e es X:=by rfl) (h8:EV cpos es X:=by rfl):
 QE X (.Call (.Attribute o "extend" apos) (e::es) [] cpos) (aG bA to tr):=pH PySem.F.slot_list_extend PySem.F.type_list_extend aaq ho ha h4 h5 h6 h7 h8
theorem abv(ho:QE X o to)(h4:attributeBase o "pop" X.env (eval o X.env)=eval o X.env:=by rfl)(h6:(apos.endLine==cpos.line)=true:=by rfl):
 QE X (.Call (.Attribute o "pop" apos) [] [] cpos) (aG yi to qy):=aic PySem.F.slot_list_pop PySem.F.type_list_pop amd ho h4 h6
end
abbrev gf:uE:=yI0 fun i j=>.int (i - j)
abbrev acf:uE:=yI aaj fun i j=>.int (i*j)
abbrev aU:uE:=yI agt fun i j=>.int (i / j)
abbrev vf:uE:=yI (fun _ j=>0<j) fun i j=>.int (i % j)
abbrev ao4:uE:=yI ahx fun i j=>.int (i ^ j.toNat)
abbrev yLt:uE:=yI0 fun i j=>.bl (decide (i<j))
abbrev yGt:uE:=yI0 fun i j=>.bl (decide (j<i))
def agc(kvs:List (Str×Str)):LO:=.dct (kvs.map fun p=>(Sum.inr p.1,Y.str p.2))
def aga(kvs:List (Str×Str))(_:jj)(L:qm)(Q:YK):Prop:=∀p,L p=none->Q (.ref p) (qf L p (agc kvs))
def kvV(kvs:List (Str×Str)):List (jo×V):=kvs.map fun p=>(Sum.inr p.1,V.str p.2)
theorem qG{σ:L2.St}{H:Hp}{Q:List (V×V)->Hp->Prop}:∀{kvs:List (Str×Str)},Q (kvs.map fun p=>(V.str p.1,V.str p.2)) H->o7 (kvs.map fun p=>(tC (.str p.1),tC (.str p.2))) σ H Q
 |[],h=>h
 |_::r,h=>qG (kvs:=r) h
theorem wN{G:G3}{H:Hp}:∀kvs:List (Str×Str),Paired (fun(p:jo×Y) (q:jo×V)=>p.1=q.1/\RV G H p.2 q.2) (kvs.map fun p=>(Sum.inr p.1,Y.str p.2)) (kvV kvs)
 |[]=>.nil
 |_::r=>.cons ⟨rfl,rfl⟩ (wN r)
theorem aed{keys:List (Option Expr)}{values:List Expr}(kvs:List (Str×Str))(h:PPs X pos keys values (kvs.map fun p=>(tC (.str p.1),tC (.str p.2))))(h1:(keys.all fun x=>x.isSome)=true)(h2:keys.length=values.length)(h3:keys≠[])(h4:keys.length≤15)
 (h5:kvs.length≤15:=by decide) (nd:gn [] (kvV kvs)=kvV kvs:=by decide +kernel):QE X (.Dict keys values pos) (aga kvs):=EF (adg h h1 h2 h3 h4) fun σ H Q ⟨τ,L,Q3,rs,rl,z,k⟩=>by
 intro p hp;refine qG ⟨zw,kvV kvs,by simp[kvV,kV],by simpa[kvV] using h5,?_⟩;rw[nd,acx];refine k _ _ _ (qf L p (agc kvs)) (EE hp) ?_ (by rfl) (z p (rl.none hp));intro a u e;by_cases c:a=p
 ·subst c;rw[q9] at e;cases e;exact⟨kvV kvs,zw,wN kvs⟩
 ·rw[qb c] at e;exact(rl a u e).keep (EE hp) (qp c)
def m4(t:xn):Prop:=∀τ L Q,t τ L Q->∃v,Q v L/\∀L' Q',qj L L'->Q' v L'->t τ L' Q'
theorem ahz(i:Nat):m4 (qa i):=fun τ L Q h=>by
 unfold qa at h ⊢;split at h
 ·rename_i y e;exact⟨y,h,fun L' Q' _ q=>q⟩
 ·exact h.elim
theorem aks(y:Y):m4 (yC y):=fun _ _ _ h=>⟨y,h,fun _ _ _ q=>q⟩
theorem alu{C:Int->Int->Prop}{g:Int->Int->Y}(ha:m4 ta)(hb:m4 tb):m4 (zg (yI C g) ta tb):=fun τ L Q h=>by
 obtain⟨x,h1,k1⟩:=ha τ L _ h;obtain⟨y,h2,k2⟩:=hb τ L _ h1;cases x with
 |int i=>
  cases y with|int j=>exact⟨g i j,h2.2,fun L' Q' s q=>k1 L' _ s (k2 L' _ s ⟨h2.1,q⟩)⟩|_=>exact h2.elim
 |_=>cases y<;>exact h2.elim
theorem jL{Q:α->qm->Prop}{o:Option α}(h:wJ L Q o):∃v,o=some v/\Q v L:=by cases o with|none=>exact h.elim|some v=>exact⟨v,rfl,h⟩
def afo(t:dQ)(ti:xn)(τ:jj)(L:qm)(Q:YK):Prop:=t τ L fun ys L1=>match Nat.ble ys.length 1000 with
 |true=>ti τ L1 fun i L2=>match i with
  |.int i=>wJ L2 Q (gc ys i)
  |_=>False
 |false=>False
theorem ad9{b:Expr}{tr:dQ}(h:QA X es tr)(hb:QE X b tb)(pu:m4 tb)(hp:jN b):QE X (.Subscript (.List es lp) b pos) (afo tr tb):=EF (afr (ag2 X.K X.prog X.w) (ac4 h) hb hp) fun σ H Q ⟨τ,L,Q3,rs,rl,z,k⟩=>by
 refine⟨τ,L,_,rs,rl,z,fun vs H1 ys L1 t1 rl1 rv1 z1=>?_⟩;cases e:Nat.ble ys.length 1000 with
 |false=>rw[e] at z1;exact z1.elim
 |true=>
  rw[e] at z1;have:=BB e;refine⟨cJ (by rw[<-rv1.length];exact this),fun p hp=>?_⟩;obtain⟨v,zv,kv⟩:=pu τ L1 _ z1;have sb:qj L1 (qf L1 p (.lst ys)):=By (rl1.none hp);refine⟨τ,qf L1 p (.lst ys),fun v' L'=>v'=v/\L'=qf L1 p (.lst ys),rs.ts (t1.trans (EE hp)),rl1.newL hp rv1,kv _ _ sb ⟨rfl,rfl⟩,?_⟩;rintro v2 H2 y2 L2 t2 rl2 rv2 ⟨rfl,rfl⟩;refine⟨.ref p,y2,_,fun y L'=>L'=qf L1 p (.lst ys)/\Q3 y L1,rfl,rv2,rl2,?_,?_⟩
  ·cases y2 with
   |int i=>
    obtain⟨u,eu,qu⟩:=jL zv;refine qd q9 ?_;rw[eu];exact⟨rfl,qu⟩
   |_=>exact zv.elim
  ·rintro v3 H3 y3 L3 t3 rl3 rv3 ⟨rfl,q3⟩;exact k v3 H3 y3 L1 (t1.trans ((EE hp).trans (t2.trans t3))) (rl3.sub sb) rv3 q3
theorem i6{kvs:List (Str×Str)}{k:Str}(h:kvs.lookup k=some x):aF (kvs.map fun p=>((Sum.inr p.1:jo),Y.str p.2)) (Sum.inr k)=some (Y.str x):=by
 induction kvs with
 |nil=>simp at h
 |cons p r ih=>
  obtain⟨a,b⟩:=p;unfold aF;rw[AD,BF];rw[Bs] at h;by_cases c:k=a
  ·subst c;simp at h;simp[h]
  ·have c1:(k==a)=false:=by simpa using c
   rw[c1] at h;have c2:decide ((Sum.inr a:jo)=Sum.inr k)=false:=Au fun z=>c (Sum.inr.inj z).symm;simp only[c2];exact ih h
theorem vO(h:(aY lo n)[i]?=some y):i<n/\y=.int (lo+i):=by
 unfold aY at h;rw[Ar] at h;obtain⟨z,ez,e⟩:=Ay.mp h;have hi:i<n:=by
  by_cases c:i<n
  ·exact c
  ·rw[CL (by simp;exact uR)] at ez;cases ez
 rw[List.getElem?_range hi] at ez;cases ez;exact⟨hi,e.symm⟩
theorem lK(lo:Int)(n:Nat):(aY lo n).length=n:=by simp[aY]
theorem pF{tb:w6}(W:Nat->jj->qm->Prop)(h0:W 0 τ L)
 (hs:∀i τ L,i<n->W i τ L->g (.int (lo+i)) τ L fun τ2 L2=>tb { D with nx:=eQ (W (i+1)),ct:=eQ (W (i+1)),bk:=D.nx } τ2 L2) (hd:∀τ L,W n τ L->D.nx τ L):rQ (aY lo n) (fun _=>True) g tb D τ L:=by
 refine wo ⟨W,h0,fun _ _ _ _=>trivial,fun i y τ L e w=>?_,fun τ L w=>hd τ L (by rw[lK] at w;exact w)⟩;obtain⟨hi,rfl⟩:=vO e;exact hs i τ L hi w
theorem yx{a:Addr}{v:Y}{Q:YK}(e:L a=some (.lst (ys++[v])))(q:Q v (qf L a (.lst ys))):iE L (.ref a) (fun _=>qy τ L fun xs L2=>yi (.ref a) xs L2 Q):=by
 refine qd e (ql e ?_);have:(ys++[v])[(ys++[v]).length - 1]?=some v:=by simp
 rw[this,List.dropLast_concat];exact q
theorem afb{tb:w6}{a:Addr}(h:cB L (.ref a)=some ys)(W:Nat->jj->qm->Prop)(h0:W 0 τ L)(hk:∀i τ L',W i τ L'->L' a=L a)
 (hs:∀i y τ L,ys[i]?=some y->W i τ L->g y τ L fun τ2 L2=>tb { D with nx:=eQ (W (i+1)),ct:=eQ (W (i+1)),bk:=D.nx } τ2 L2) (hd:∀τ L,W ys.length τ L->D.nx τ L):
 rS L a fun ys keep L1=>rQ ys keep g tb D τ L1:=xh (gy h) fun keep kp=>wo ⟨W,h0,fun i τ L' w=>kp L' (hk i τ L' w),hs,hd⟩
theorem du{keep:qm->Prop}{Q:YK}(I:Nat->List Y->Prop)(hz:ys.length<sizeLine)(hk:keep L)(h0:I 0 [])
 (turn:∀(i:Nat) y zs,ys[i]?=some y->I i zs->g y (τ++List.replicate n none) L fun τ2 L2=>tc τ2 L2 fun b L3=>wb b (te τ2 L3 fun z L4=>eQ (fun zs L'=>L'=L/\I (i+1) zs) (zs++[z]) L4) (eQ (fun zs L'=>L'=L/\I (i+1) zs) zs L3))
 (hq:∀zs,I ys.length zs->∀p,L p=none->Q (.ref p) (qf L p (.lst zs))):vM ys keep n g tc te τ L Q:=by
 refine ab2 ⟨hz,fun i zs L'=>L'=L/\I i zs,⟨rfl,h0⟩,?_,?_,?_⟩
 ·rintro i zs L' ⟨rfl,_⟩;exact hk
 ·rintro i y zs L' ey ⟨rfl,hI⟩;exact turn i y zs ey hI
 ·rintro zs L' ⟨rfl,hI⟩ p hp;exact hq zs hI p hp
theorem uA{Q:YK}(I:Nat->List Y->Prop)(hz:m<sizeLine)(h0:I 0 [])
 (turn:∀(i:Nat) zs,i<m->I i zs->g (.int (lo+i)) (τ++List.replicate n none) L fun τ2 L2=>tc τ2 L2 fun b L3=>wb b (te τ2 L3 fun z L4=>eQ (fun zs L'=>L'=L/\I (i+1) zs) (zs++[z]) L4) (eQ (fun zs L'=>L'=L/\I (i+1) zs) zs L3))
 (hq:∀zs,I m zs->∀p,L p=none->Q (.ref p) (qf L p (.lst zs))):vM (aY lo m) (fun _=>True) n g tc te τ L Q:=by
 refine du (keep:=fun _=>True) I (by rw[lK];exact hz) trivial h0 (fun i y zs e hI=>?_) fun zs hI=>hq zs (by rw[lK] at hI;exact hI);obtain⟨hi,rfl⟩:=vO e;exact turn i zs hi hI
theorem mK(ys:List Y)(n:Nat):im ys (some ((n:Nat):Int)) none=ys.drop n:=by
 unfold im;rw[HT.sIx_nat,HT.sIx_none];by_cases h:n≤ys.length
 ·rw[BW h,A3 (by rw[A9];simp +arith only)]
 ·rw[Dy (by lia),Ek (Am _),Ek (by lia),List.take_nil]
theorem vR(ys:List Y)(n:Nat):im ys none (some ((n:Nat):Int))=ys.take n:=by
 unfold im;rw[HT.sIx_nat,HT.sIx_none,DK,Nat.sub_zero];by_cases h:n≤ys.length
 ·rw[BW h]
 ·rw[Dy (by lia),A3 (Am _),A3 (by lia)]
theorem w9{ws:List α}{f:α->Y}{w:α}(h:ws[i]?=some w):gc (ws.map f) (i:Int)=some (f w):=w5 (by rw[Ar,h];rfl)
theorem ad0{keep:qm->Prop}{Q:YK}(f:Y->Option Y)(hz:ys.length<sizeLine)(hk:keep L)
 (turn:∀(i:Nat) y (W:List Y->qm->Prop) zs,ys[i]?=some y->W (zs++(f y).toList) L->g y (τ++List.replicate n none) L fun τ2 L2=>tc τ2 L2 fun b L3=>wb b (te τ2 L3 fun z L4=>eQ W (zs++[z]) L4) (eQ W zs L3))
 (hq:∀p,L p=none->Q (.ref p) (qf L p (.lst (ys.filterMap f)))):vM ys keep n g tc te τ L Q:=by
 refine ab2 ⟨hz,fun i zs L'=>L'=L/\zs=(ys.take i).filterMap f,⟨rfl,by simp⟩,?_,?_,?_⟩
 ·rintro i zs L' ⟨rfl,_⟩;exact hk
 ·rintro i y zs L' ey ⟨rfl,rfl⟩;refine turn i y _ _ ey ⟨rfl,?_⟩;rw[BD,ey,List.filterMap_append];congr 1
 ·rintro zs L' ⟨rfl,rfl⟩ p hp;rw[BK];exact hq p hp
def k6(t:w6)(n:Nat)(ys:List Y)(L:qm)(Q:YK):Prop:=t { nx:=fun _ L'=>hZ Q .non L',rt:=hZ Q } (ys.map some++List.replicate (n - ys.length) none) L
theorem vk{Q:YK}(h:Q y L):hZ Q y L:=⟨L,EC L,h⟩
theorem si{Q:YK}(s:qj L L')(h:Q y L):hZ Q y L':=⟨L,s,h⟩
theorem Fn3.never{P:Program}{w:World}{K:Af}{k:Nat}{sp:xw}(no:∀ys L Q,¬sp ys L Q):Fn3 P w K mg base k f fd ps sp:=
 am.never fun vs H Q E ⟨ys,L,Q3,_,_,z,_⟩=>no ys L Q3 z
theorem qj.upd{a:Addr}{o:LO}(s:qj L L')(h:L a=none):qj L (qf L' a o):=fun b u e=>by rw[qb (vt e h)];exact s b u e
theorem qj.put{a:Addr}{o:LO}(s:qj L L')(h:L' a=some o):qj (qf L a o) L':=fun b u e=>by
 by_cases c:b=a
 ·subst c;rw[q9] at e;cases e;exact h
 ·rw[qb c] at e;exact s b u e
theorem rf{G:G3}{H:Hp}:∀ns:List Int,xm G H (ns.map Y.int) (ns.map V.int)
 |[]=>rfl
 |_::r=>⟨_,_,rfl,rfl,rf r⟩
end L3
namespace L2
open PySem PySem.Spec PyProof.Rows
section
variable {σ:L2.St} 
theorem jR(I:qt X pins σ H s)(hf:∀b∈fp,H b=none)(k:∀b o,b∉fp->s.heap.get? b=some o->h'.get? b=some o):dN X.prog X.w H h':=fun b u e=>by
 refine(I.hok b u e).stay (fun c v hc q=>k c v (fun z=>?_) q) (fun _ q=>q) fun _ _ q=>q;have hn:=hf c z;rcases hc with w | w
 ·rw[w,e] at hn;cases hn
 ·rw[w] at hn;cases hn
theorem yR{fs:List Addr}(k:∀b o,b∉fp->h.get? b=some o->h'.get? b=some o):Un fs fp H H h h':=
 ⟨fun b o q _ _ x=>k b o x q,fun b o q _ _ x=>⟨o.slots,k b o x q⟩,fun _ _ _ n _=>n,fun b o q x=>⟨o,k b o x q⟩,fun _ _ q=>q,fun _ _ _ q=>q,fun b ps q=>⟨#[],by rw[q];simp⟩⟩
theorem qt.turnedL(I:qt X pins σ H s)(k:∀b o,b∉fp->s.heap.get? b=some o->h'.get? b=some o)(hf:∀b∈fp,mH X pins H b)(ht:0<t':=by walk_at "t"):qt X pins σ H { s with heap:=h',toks:=t' }:=
 I.call' (s':={ s with heap:=h',toks:=t' }) (ch:=fp) rfl (yR k) (jR I (fun b hb=>(hf b hb).1) k) I.bare fun b hb=>⟨(hf b hb).2.2.2.1,(hf b hb).2.1,(hf b hb).2.2.2.2.1,(hf b hb).2.2.2.2.2⟩
theorem qt.turnedN{a:Addr}{o:HO}(I:qt X pins σ H s)(k:∀b o,b∉fp->s.heap.get? b=some o->h'.get? b=some o)(hf:∀b∈fp,mH X pins H b)(ha:s.heap.objs.size≤a)
 (new:jz X.prog X.w (upd H a o) h' a o) (ht:0<t':=by walk_at "t"):qt X pins σ (upd H a o) { s with heap:=h',toks:=t' }:=by
 have hn:H a=none:=I.hok.fresh ha;have lt:∀b ob,s.heap.get? b=some ob->b≠a:=fun b ob q=>A2 (AJ (Heap.lt_size q) ha);refine I.call' (s':={ s with heap:=h',toks:=t' }) (ch:=fp) rfl ?_ ?_ I.bare fun b hb=>⟨(hf b hb).2.2.2.1,(hf b hb).2.1,(hf b hb).2.2.2.2.1,(hf b hb).2.2.2.2.2⟩
 ·exact⟨fun b ob q _ _ x=>k b ob x q,fun b ob q _ _ x=>⟨ob.slots,k b ob x q⟩,fun b ob q n _=>by rw[qp (lt b ob q)];exact n,fun b ob q x=>⟨ob,k b ob x q⟩,
   fun b xs q=>by rw[qp (j8 q hn)];exact q,fun b ob u q=>by rw[qp (j8 q hn)];exact q,fun b ps q=>⟨#[],by rw[qp (j8 q hn),q];simp⟩⟩
 ·intro b u e;by_cases hb:b=a
  ·subst hb;rw[zw] at e;cases e;exact new
  ·rw[qp hb] at e;have ok:=jR I (h':=h') (fun b hb=>(hf b hb).1) k b u e;exact ok.stay (fun _ _ _ q=>q) (fun c q=>by rw[qp (j8 q hn)];exact q) fun c xs q=>by rw[qp (j8 q hn)];exact q
end
def Ite(K:Af)(a:Addr):It:=
 ⟨fun i H=>∃xs x,aB K H a xs/\xs[i]?=some x,fun i H v H'=>∃p x,H p=none/\v=.ref p/\H'=upd H p (.tup [.int i,x])/\∀xs,aB K H a xs->xs[i]?=some x,fun i H=>∃xs,aB K H a xs/\xs.length≤i⟩
theorem xC{P:Program}{w:World}{K:Af}(a e it:Addr)(hne:e≠it):xO P w K (.Tuple elts x1 tp) (Ite K a) [e,it] e (fun i h=>(∃old,IsEnum h e it i old)/\h.IsListIter it a i) where
 mem:=by simp
 obj:=fun i h ⟨⟨old,he⟩,hi⟩ b hb=>by
  rcases Ap.mp hb with rfl | hb
  ·exact⟨_,he,fun v z=>by cases z⟩
  ·cases AB.mp hb;obtain⟨o,ho,hc,hd⟩:=hi;exact⟨o,ho,fun v z=>by rw[hd] at z;cases z⟩
 keep:=fun i h h' ⟨⟨old,he⟩,hi⟩ k=>⟨⟨old,k e (by simp) _ he⟩,hi.at fun o q=>k it (by simp) o q⟩
 item:=by
  intro X hP hw hK hc i pins s σ H E I hf ⟨⟨old,he⟩,hi⟩ hg;subst hP hw hK;obtain⟨xs,x,hq,hx⟩:=hg;obtain⟨its,rv,p,hz⟩:=I.list hq;obtain⟨u,hu,ru⟩:=rv.get hx;refine wpAny_pyNext_enum_item he hi p.isList (x:=u) (by simpa using hu) hne fun h1 heo hi1 ht hz1 hk=>⟨.ref s.heap.objs.size,rfl,wpAny_letOwnedTupleGo_enum heo fun h2 he2 hs2=>?_⟩;have el:e<s.heap.objs.size:=Heap.lt_size he;have il:it<s.heap.objs.size:=by obtain⟨o,ho,_⟩:=hi;exact Heap.lt_size ho
  have kk:∀b o,b∉[e,it]->s.heap.get? b=some o->h2.get? b=some o:=fun b o nb q=>by have n1:b≠e:=fun z=>nb (by simp[z]);have n2:b≠it:=fun z=>nb (by simp[z]);exact hs2.extBut b o n1 (hk b o n1 n2 q)
  have tg:h2.get? s.heap.objs.size=some { cls:=.type "tuple",data:=.seq #[.int i s.toks,u] }:=hs2.extBut _ _ (Dl el) ht;refine⟨.ref s.heap.objs.size,upd H s.heap.objs.size (.tup [.int i,x]),?_,rfl,⟨_,x,I.hok.fresh (Am _),rfl,rfl,fun ys hy=>by rw[I.list_inj hy hq];exact hx⟩,⟨⟨_,he2⟩,hi1.at fun o q=>hs2.extBut _ _ (AK hne) q⟩,fun b hb=>?_⟩
  ·exact I.turnedN (t':=s.toks+1) kk hf (Am _) ⟨by show 2≤sizeLine;decide,[.int i s.toks,u],.cons ⟨_,rfl⟩ (.cons ru .nil),⟨_,tg,rfl,_,rfl⟩⟩
  ·have hb':b<s.heap.objs.size:=by rcases Ap.mp hb with rfl | hb;exact el;cases AB.mp hb;exact il
   rw[qp (A2 hb')];exact(hf b hb).1
 done:=by intro X hP hw hK hc i pins s σ H E I hf ⟨⟨old,he⟩,hi⟩ hg;subst hP hw hK;obtain⟨xs,hq,hx⟩:=hg;obtain⟨its,rv,p,hz⟩:=I.list hq;have hl:=rv.length;exact wpAny_pyNext_enum_end (I.ok.hd hc) he hi p.isList (by simp;omega) fun h1 eb=>⟨rfl,I.turnedL (t':=s.toks) (fp:=[e,it]) (fun b o nb q=>eb b o (fun z=>nb (by simp[z])) q) hf⟩
 self:=fun _ _ _ _ _ ⟨⟨_,he⟩,_⟩ h=>wpAny_pyIter_enum he h
def ama(K:Af)(ta:TA):TI:=fun σ H R=>ta σ H fun vs H1=>∃a,vs=[.ref a]/\(∃xs,aB K H1 a xs)/\R (Ite K a) H1
theorem oS:bootBuiltins "enumerate" = some (.type "enumerate"):=by decide +kernel
theorem acr{a:Expr}{ta:TA}(hg:Gl X "enumerate")(hm:X.mg "enumerate" = none)(ha:PA X [a] ta)(hs:starEach [a] X.env=[(false,eval a X.env)]:=by rfl):
 PI X (.Tuple elts x1 tp) (.Call (.Name "enumerate" p) [a] [] pos) (ama X.K ta):=by
 intro pins s σ H R I h;refine Call_ (fN I hg hm oS (BX (v4 (ha pos pins s σ H _ I h) fun us s1 ⟨vs,H1,I1,r1,q1⟩=>?_) hs rfl));obtain⟨l,e,⟨xs,hq⟩,q⟩:=q1;subst e;obtain⟨u,rfl,ru⟩:=qS r1;cases ru;obtain⟨its,rv,pl,hz⟩:=I1.list hq;refine call_enumerate_list pl.isList fun h1 he hi hsz hk=>?_;have I2:qt X pins σ H1 { s1 with heap:=h1 }:=I1.kept (t':=s1.toks) hk;refine wpAny_pyIter_enum (s:={ s1 with heap:=h1 }) he ?_;refine⟨s1.heap.objs.size+1,[s1.heap.objs.size+1,s1.heap.objs.size],_,_,H1,rfl,I2,xC l _ _ (Nat.succ_ne_self _),⟨⟨_,he⟩,hi⟩,fun b hb=>?_,q⟩;have hb':s1.heap.objs.size≤b:=by rcases Ap.mp hb with rfl | hb;exact CQ _;cases AB.mp hb;exact Am _
 exact I1.fpOk hb' (I1.hok.fresh hb')
end L2
namespace L3
open PySem L2
theorem i0{a:Addr}{keep:qm->Prop}(h:∀H L,ja H₀ H->ji G H L->keep L->∃xs,aB G.K H a xs/\xm G H ys xs):iN G H₀ (Ite G.K a) (ys.zipIdx.map fun p=>Y.tup [.int (p.2:Nat),p.1]) keep where
 go:=fun i H L t rl kp hi=>by
  obtain⟨xs,sq,r⟩:=h H L t rl kp;have:i<xs.length:=by rw[<-r.length];simpa using hi
  exact⟨xs,xs[i],sq,Al this⟩
 yld:=fun i H L x H' y t rl kp hy ⟨p,z,hp,e1,e2,f⟩=>by subst e1 e2;obtain⟨xs,sq,r⟩:=h H L t rl kp;rw[Ar,List.getElem?_zipIdx] at hy;obtain⟨⟨y',j⟩,ey,e3⟩:=Ay.mp hy;obtain⟨y'',ey',e4⟩:=Ay.mp ey;cases e4;subst e3;obtain⟨x',e',rv⟩:=r.get ey';have:=f xs sq;rw[e'] at this;cases this;refine⟨EE hp,rl.skip hp,p,_,rfl,dC.of zw,⟨_,_,rfl,?_,_,_,rfl,rv.ts (EE hp),rfl⟩⟩;show V.int _=V.int _;congr 1;simp
 stop:=fun H L t rl kp=>by obtain⟨xs,sq,r⟩:=h H L t rl kp;exact⟨xs,sq,by rw[Ae,List.length_zipIdx,r.length];exact Am _⟩
def jW(ys:List Y):List Y:=ys.zipIdx.map fun p=>Y.tup [.int (p.2:Nat),p.1]
theorem dm(h:(jW ys)[i]?=some y):∃z,ys[i]?=some z/\y=.tup [.int i,z]:=by unfold jW at h;rw[Ar,List.getElem?_zipIdx] at h;obtain⟨⟨y',j⟩,ey,e3⟩:=Ay.mp h;obtain⟨y'',ey',e4⟩:=Ay.mp ey;cases e4;exact⟨y',ey',by rw[<-e3];simp⟩
theorem bZ(ys:List Y):(jW ys).length=ys.length:=by simp[jW]
def fU(tl:xn)(τ:jj)(L:qm)(R:List Y->(qm->Prop)->qm->Prop):Prop:=tl τ L fun x L1=>match x with
 |.ref a=>rS L1 a fun ys keep L=>R (jW ys) keep L
 |.sq ys=>R (jW ys) (fun _=>True) L1
 |_=>False
theorem eW{a:Expr}(hg:Gl X "enumerate")(hm:X.mg "enumerate" = none)(ha:QE X a te)(hs:starEach [a] X.env=[(false,eval a X.env)]:=by rfl)
 (hs2:starEach [a] X.env=(false,eval a X.env)::starEach [] X.env:=by rfl):QI X (.Tuple elts x1 tp) (.Call (.Name "enumerate" p) [a] [] pos) (fU te):=PI.imp (acr hg hm (vi ha bL hs2) hs) fun σ H R ⟨τ,L,R3,rs,rl,z,k⟩=>by
 refine⟨τ,L,_,rs,rl,z,fun v H1 y L1 t1 rl1 rv1 z1=>?_⟩;cases y with
 |ref a=>
  obtain⟨ys,keep,es,kp,hk,z2⟩:=rR z1;have hy:∀H L,ja H1 H->ji X.g3 H L->keep L->∃xs,aB X.K H a xs/\xm X.g3 H ys xs:=fun H L _ rl e=>dZ rl (hk L e);obtain⟨xs,sq,_⟩:=hy H1 L1 (ED _) rl1 kp;cases rv1;exact⟨a,rfl,⟨xs,sq⟩,k _ H1 _ _ L1 t1 rl1 (i0 hy) z2⟩
 |sq ys=>
  obtain⟨a,xs,e,sf,r⟩:=rv1;subst e;exact⟨a,rfl,⟨xs,sf.sq⟩,k _ H1 _ (fun _=>True) L1 t1 rl1 (i0 fun H L t _ _=>⟨xs,(sf.ts t).sq,r.ts t⟩) z1⟩
 |_=>exact z1.elim
end L3
namespace L2
open PySem PySem.Spec PyProof.Rows
def gj(t:Bool)(h:Heap)(it l:Addr)(k:Nat):Prop:=match t with
 |false=>h.IsListIter it l k
 |true=>h.IsTupleIter it l k
def mV(t:Bool)(h:Heap)(l:Addr)(xs:Array Value):Prop:=match t with
 |false=>h.IsList l xs
 |true=>h.IsTuple l xs
theorem gj.on{k:Nat}(x:gj t h it l k)(e:∀o,h.get? it=some o->h'.get? it=some o):gj t h' it l k:=by cases t with|false=>exact Heap.IsListIter.at x e|true=>exact Heap.IsTupleIter.at x e
theorem mV.on{xs:Array Value}(x:mV t h l xs)(e:∀o,h.get? l=some o->h'.get? l=some o):mV t h' l xs:=by cases t with|false=>exact Heap.IsList.at x e|true=>exact Heap.IsTuple.at x e
theorem gj.ob{k:Nat}(x:gj t h it l k):∃o,h.get? it=some o/\∀v,o.data≠.cell v:=by
 cases t with
 |false=>obtain⟨o,e,c,d⟩:=x;exact⟨o,e,fun v z=>by rw[d] at z;cases z⟩
 |true=>obtain⟨o,e,c,d⟩:=x;exact⟨o,e,fun v z=>by rw[d] at z;cases z⟩
theorem wL(l:Addr):¬((Value.ref l==Value.none)=true):=Ax
section
variable {w:World} 
theorem ue{xs:Array Value}{x:Value}(hi:s.heap.IsTupleIter it l i)(hl:s.heap.IsTuple l xs)(hx:xs[i]?=some x)
 (q:∀h',h'.IsTupleIter it l (i+1)->Heap.SameBut it s.heap h'->Q x { s with heap:=h' }):wpAny (model prog w) A (Builtin.SmallTypes.nextOf (.ref it)) Q E s:=by
 obtain⟨o,oi,ci,di⟩:=id hi;obtain⟨u,ul,_,n,dl⟩:=hl;unfold Builtin.SmallTypes.nextOf;refine Aa (wpAny_callSpecial?_slot (name:="__next__") hi.typeIs F.slot_tuple_iterator_next (wpAny_call_entry F.slot_tuple_iterator_next hi.typeIs F.entry_tuple_iterator_next ?_ (F.args_tuple_iterator_next_1 _)));refine Aa (m:=field (.ref it) 0) (A7 oi di (x:=.ref l) rfl ?_);rw[As (wL l)];refine Aa (m:=field (.ref it) 1) (A7 oi di (x:=.int i 0) rfl (Aa (m:=seqItems? (.ref l)) (Bx ul dl ?_)));simp only[Cm,hx];refine Aa (wpAny_setField oi di (by simp) (Ai ⟨x,rfl,Ai (q _ ⟨_,Heap.get?_update_self _ oi (Obj.isFreed_of_fields (Obj.data_mapFields di _)),(Obj.cls_mapFields ..).trans ci,?_⟩ (Heap.SameBut.update ..))⟩));rw[Obj.data_mapFields di];simp[rawInt]
theorem xQ{xs:Array Value}(hh:A.handled=none)(hi:s.heap.IsTupleIter it l i)(hl:s.heap.IsTuple l xs)(hx:xs[i]?=none)
 (q:∀h' e,Heap.ExtBut it s.heap h'->(∃o,h'.get? e=some o/\o.cls=.type "StopIteration")->E (.ref e) { s with heap:=h' }):wpAny (model prog w) A (Builtin.SmallTypes.nextOf (.ref it)) Q E s:=by
 obtain⟨o,oi,ci,di⟩:=id hi;obtain⟨u,ul,_,n,dl⟩:=hl;unfold Builtin.SmallTypes.nextOf;refine Aa (wpAny_callSpecial?_slot (name:="__next__") hi.typeIs F.slot_tuple_iterator_next (wpAny_call_entry F.slot_tuple_iterator_next hi.typeIs F.entry_tuple_iterator_next ?_ (F.args_tuple_iterator_next_1 _)));refine Aa (m:=field (.ref it) 0) (A7 oi di (x:=.ref l) rfl ?_);rw[As (wL l)];refine Aa (m:=field (.ref it) 1) (A7 oi di (x:=.int i 0) rfl (Aa (m:=seqItems? (.ref l)) (Bx ul dl ?_)));simp only[Cm,hx];refine Aa (Bl (Aa (wpAny_setField oi di (by simp) ?_)));refine Aa (m:=newExc (.type "StopIteration") []) ?_;simp only[newExc,newTuple];refine Aa (Bh (Aa (m:=firstArgMember _ _) (wpAny_of_eq (a:=Value.none) (by first | rfl | (simp only[firstArgMember];rfl)) (Bh ?_ (by size_fits)))) (by size_fits));simp only[raiseNew];refine Aa (wpAny_handled ?_)
 first | rw[show A.in1.handled=none from hh] | rw[hh]
 exact Aa (Ai (wpAny_throw (q _ _ (((Heap.SameBut.update ..).extBut.push _).push _) ⟨_,Heap.get?_push_size _ rfl,rfl⟩)))
theorem gj.next{xs:Array Value}{x:Value}(hi:gj t s.heap it l i)(hl:mV t s.heap l xs)(hx:xs[i]?=some x)
 (q:∀h',gj t h' it l (i+1)->Heap.SameBut it s.heap h'->Q x { s with heap:=h' }):wpAny (model prog w) A (Builtin.SmallTypes.nextOf (.ref it)) Q E s:=by
 cases t with|false=>exact wpAny_nextOf_list_item hi hl hx q|true=>exact ue hi hl hx q
theorem gj.stop{xs:Array Value}(hh:A.handled=none)(hi:gj t s.heap it l i)(hl:mV t s.heap l xs)(hx:xs[i]?=none)
 (q:∀h' e,Heap.ExtBut it s.heap h'->(∃o,h'.get? e=some o/\o.cls=.type "StopIteration")->E (.ref e) { s with heap:=h' }):wpAny (model prog w) A (Builtin.SmallTypes.nextOf (.ref it)) Q E s:=by
 cases t with|false=>exact wpAny_nextOf_list_end hh hi hl hx q|true=>exact xQ hh hi hl hx q
structure ZAp(z TI TO i1 i2 l1 l2:Addr):Prop where
 n1:TI≠z
 n2:TO≠z
 n3:i1≠z
 n4:i2≠z
 n5:TO≠i1
 n6:TO≠i2
 n7:i1≠i2
 n8:l1≠z
 n9:l1≠TO
 n10:l1≠i1
 n11:l1≠i2
 n12:l2≠z
 n13:l2≠TO
 n14:l2≠i1
 n15:l2≠i2
theorem aaw{z TI TO i1 i2:Addr}{k:Nat}{xs ys:Array Value}{x y a b:Value}(D:ZAp z TI TO i1 i2 l1 l2)(hz:IsZip s.heap z TI TO .none)(hI:IsPair s.heap TI (.ref i1) (.ref i2))(hO:IsPair s.heap TO a b)
 (h1:gj t1 s.heap i1 l1 k) (h2:gj t2 s.heap i2 l2 k) (q1:mV t1 s.heap l1 xs) (q2:mV t2 s.heap l2 ys) (hx:xs[k]?=some x) (hy:ys[k]?=some y)
 (q:∀h',IsZip h' z TI TO (rawInt s.heap.objs.size)->IsPair h' TO x y->gj t1 h' i1 l1 (k+1)->gj t2 h' i2 l2 (k+1)->IsPair h' s.heap.objs.size x y->
  (∀c o,c≠z->c≠TO->c≠i1->c≠i2->s.heap.get? c=some o->h'.get? c=some o)->Q (.ref s.heap.objs.size) { s with heap:=h' }):
 wpAny (model prog w) A (Builtin.«zip.__next__» ⟨[.ref z],[]⟩) (fun vk s'=>∃v,vk=.done (.ret v)/\Q v s') E s:=by
 refine Aa (m:=field (.ref z) 2) (A7 hz rfl (x:=.bool false) rfl (Aa (m:=field (.ref z) 3) (A7 hz rfl (x:=.ref TI) rfl (Aa (Bx hI rfl ?_)))));refine Aa (m:=Builtin.SmallTypes.ownedTupleIsFree (.ref z)) ?_;unfold Builtin.SmallTypes.ownedTupleIsFree;refine Aa (A7 hz rfl (x:=.none) rfl (Ai ?_));simp only[if_true];refine Aa (Bl (Aa (A7 hz rfl (x:=.ref TO) rfl (Aa (wpAny_setField_rec hz (by simp) fun g1 z1 e1=>?_)))));have z1':IsZip g1 z TI TO .ellipsis:=z1;refine Aa ?_;simp only[Ee,List.zipIdx_nil,C3,Et];refine Aa (Aa (wpAny_onRaise (Aa (m:=Builtin.SmallTypes.nextOf (.ref i1)) ((h1.on fun o e=>e1.extBut _ _ D.n3 e).next (q1.on fun o e=>e1.extBut _ _ D.n8 e) hx fun g2 h12 e2=>Ai ?_))));have O2:IsPair g2 TO a b:=e2.extBut _ _ D.n5 (e1.extBut _ _ D.n2 hO);refine Aa (Bx O2 rfl (Aa (wpAny_updateSeq_pair O2 fun g3 O3 e3=>Aa (wpAny_letGo (Ai ?_)))));have O3':IsPair g3 TO x b:=O3;refine Aa (Aa (wpAny_onRaise (Aa (m:=Builtin.SmallTypes.nextOf (.ref i2)) (gj.next (l:=l2) (i:=k) (xs:=ys) (x:=y) (t:=t2) (h2.on fun o e=>e3.extBut _ _ (AK D.n6) (e2.extBut _ _ (AK D.n7) (e1.extBut _ _ D.n4 e)))
  (q2.on fun o e=>e3.extBut _ _ D.n13 (e2.extBut _ _ D.n14 (e1.extBut _ _ D.n12 e))) hy fun g4 h24 e4=>Ai ?_))))
 have O4:IsPair g4 TO x b:=e4.extBut _ _ D.n6 O3';refine Aa (Bx O4 rfl (Aa (wpAny_updateSeq_pair O4 fun g5 O5 e5=>Aa (wpAny_letGo (Ai (Ai ?_))))));have O5':IsPair g5 TO x y:=O5;refine Aa (Bx O5' rfl (Aa (wpAny_newTuple ?_)));have sz:g5.objs.size=s.heap.objs.size:=by rw[e5.1,e4.1,e3.1,e2.1,e1.1]
 have z5:IsZip g5 z TI TO .ellipsis:=e5.extBut _ _ (AK D.n2) (e4.extBut _ _ (AK D.n4) (e3.extBut _ _ (AK D.n2) (e2.extBut _ _ (AK D.n3) z1')));have k5:∀c o,c≠z->c≠TO->c≠i1->c≠i2->s.heap.get? c=some o->g5.get? c=some o:=fun c o a1 a2 a3 a4 e=>e5.extBut _ _ a2 (e4.extBut _ _ a4 (e3.extBut _ _ a2 (e2.extBut _ _ a3 (e1.extBut _ _ a1 e))));have zl:z<g5.objs.size:=Heap.lt_size z5;refine Aa (m:=Builtin.SmallTypes.ownedTupleHandOut (.ref z) (.ref g5.objs.size)) ?_;unfold Builtin.SmallTypes.ownedTupleHandOut;refine Aa (wpAny_setField_rec (show IsZip (g5.push { cls:=.type "tuple",data:=.seq #[x,y] }) z TI TO .ellipsis from Heap.get?_push_of_some _ z5) (by simp) fun g7 z7 e7=>?_);have z7':IsZip g7 z TI TO (rawInt g5.objs.size):=z7;refine wpAny_setField_rec z7' (by simp) fun g8 z8 e8=>Ai ⟨_,rfl,?_⟩;have z8':IsZip g8 z TI TO (rawInt g5.objs.size):=z8;have up:∀c o,c≠z->g5.get? c=some o->g8.get? c=some o:=fun c o a1 e=>e8.extBut _ _ a1 (e7.extBut _ _ a1 (Heap.get?_push_of_some _ e));have T8:IsPair g8 g5.objs.size x y:=e8.extBut _ _ (Dl zl) (e7.extBut _ _ (Dl zl) (Heap.get?_push_size _ rfl));have vk:=q g8 (by rw[<-sz];exact z8') (up _ _ D.n2 O5') (h12.on fun o e=>up _ o D.n3 (e5.extBut _ _ (AK D.n5) (e4.extBut _ _ D.n7 (e3.extBut _ _ (AK D.n5) e)))) (h24.on fun o e=>up _ o D.n4 (e5.extBut _ _ (AK D.n6) e))
  (by rw[<-sz];exact T8) fun c o a1 a2 a3 a4 e=>up c o a1 (k5 c o a1 a2 a3 a4 e)
 show Q (.ref g5.objs.size) _;rw[sz];exact vk
theorem acb{z TI TO i1 i2:Addr}{k:Nat}{xs ys:Array Value}{a b:Value}{Q:Fin->Shared->Prop}(hh:A.handled=none)(D:ZAp z TI TO i1 i2 l1 l2)(hz:IsZip s.heap z TI TO .none)(hI:IsPair s.heap TI (.ref i1) (.ref i2))(hO:IsPair s.heap TO a b)
 (h1:gj t1 s.heap i1 l1 k) (h2:gj t2 s.heap i2 l2 k) (q1:mV t1 s.heap l1 xs) (q2:mV t2 s.heap l2 ys) (hend:xs[k]?=none\/ys[k]?=none)
 (q:∀h' e,(∀c o,c≠z->c≠TO->c≠i1->c≠i2->s.heap.get? c=some o->h'.get? c=some o)->(∃o,h'.get? e=some o/\o.cls=.type "StopIteration")->E (.ref e) { s with heap:=h' }):
 wpAny (model prog w) A (Builtin.«zip.__next__» ⟨[.ref z],[]⟩) Q E s:=by
 refine Aa (m:=field (.ref z) 2) (A7 hz rfl (x:=.bool false) rfl (Aa (m:=field (.ref z) 3) (A7 hz rfl (x:=.ref TI) rfl (Aa (Bx hI rfl ?_)))));refine Aa (m:=Builtin.SmallTypes.ownedTupleIsFree (.ref z)) ?_;unfold Builtin.SmallTypes.ownedTupleIsFree;refine Aa (A7 hz rfl (x:=.none) rfl (Ai ?_));simp only[if_true];refine Aa (Bl (Aa (A7 hz rfl (x:=.ref TO) rfl (Aa (wpAny_setField_rec hz (by simp) fun g1 z1 e1=>?_)))));have z1':IsZip g1 z TI TO .ellipsis:=z1;refine Aa ?_;simp only[Ee,List.zipIdx_nil,C3,Et];refine Aa (Aa (wpAny_onRaise (Aa (m:=Builtin.SmallTypes.nextOf (.ref i1)) ?_)));have h1':=h1.on fun o e=>e1.extBut _ _ D.n3 e;have q1':=q1.on fun o e=>e1.extBut _ _ D.n8 e;cases hx:xs[k]? with
 |none=>
  refine gj.stop hh h1' q1' hx fun g2 e s2 he=>?_;obtain⟨oe,ge,ce⟩:=he;have z2:IsZip g2 z TI TO .ellipsis:=s2 _ _ (AK D.n3) z1';have nz:e≠z:=fun w=>by subst w;rw[z2] at ge;cases ge;simp at ce
  exact wpAny_setField_rec z2 (by simp) fun g3 _ s3=>q g3 e (fun c o a1 _ a3 _ w=>s3.extBut _ _ a1 (s2 _ _ a3 (e1.extBut _ _ a1 w))) ⟨oe,s3.extBut _ _ nz ge,ce⟩
 |some x=>
  have hy:ys[k]?=none:=by rcases hend with h | h;rw[hx] at h;cases h;exact h
  refine gj.next h1' q1' hx fun g2 h12 e2=>Ai ?_;have O2:IsPair g2 TO a b:=e2.extBut _ _ D.n5 (e1.extBut _ _ D.n2 hO);refine Aa (Bx O2 rfl (Aa (wpAny_updateSeq_pair O2 fun g3 O3 e3=>Aa (wpAny_letGo (Ai ?_)))));refine Aa (Aa (wpAny_onRaise (Aa (m:=Builtin.SmallTypes.nextOf (.ref i2)) (gj.stop (t:=t2) (l:=l2) (i:=k) (xs:=ys) hh (h2.on fun o e=>e3.extBut _ _ (AK D.n6) (e2.extBut _ _ (AK D.n7) (e1.extBut _ _ D.n4 e)))
   (q2.on fun o e=>e3.extBut _ _ D.n13 (e2.extBut _ _ D.n14 (e1.extBut _ _ D.n12 e))) hy fun g4 e s4 he=>?_))))
  obtain⟨oe,ge,ce⟩:=he;have z4:IsZip g4 z TI TO .ellipsis:=s4 _ _ (AK D.n4) (e3.extBut _ _ (AK D.n2) (e2.extBut _ _ (AK D.n3) z1'));have nz:e≠z:=fun w=>by subst w;rw[z4] at ge;cases ge;simp at ce
  exact wpAny_setField_rec z4 (by simp) fun g5 _ s5=>q g5 e (fun c o a1 a2 a3 a4 w=>s5.extBut _ _ a1 (s4 _ _ a4 (e3.extBut _ _ a2 (e2.extBut _ _ a3 (e1.extBut _ _ a1 w))))) ⟨oe,s5.extBut _ _ nz ge,ce⟩
end
def abn(t:Bool):String:=if t then "tuple_iterator" else "list_iterator"
section
variable {w:World} 
theorem mV.iter{xs:Array Value}(hl:mV t s.heap l xs)(q:Q (.ref s.heap.objs.size) { s with heap:=s.heap.push { cls:=.type (abn t),data:=.fields #[.ref l,.int 0 0] } }):wpAny (model prog w) A (pyIter (.ref l)) Q E s:=by cases t with|false=>exact wpAny_pyIter_list hl q|true=>exact wpAny_pyIter_tuple hl q
end
theorem gj.new(e:h.get? it=some { cls:=.type (abn t),data:=.fields #[.ref l,.int 0 0] }):gj t h it l 0:=by cases t with|false=>exact⟨_,e,rfl,rfl⟩|true=>exact⟨_,e,rfl,rfl⟩
abbrev zh1(t1:Bool)(h:Heap)(l1:Addr):Heap:=h.push { cls:=.type (abn t1),data:=.fields #[.ref l1,.int 0 0] }
abbrev zh2(t1 t2:Bool)(h:Heap)(l1 l2:Addr):Heap:=(zh1 t1 h l1).push { cls:=.type (abn t2),data:=.fields #[.ref l2,.int 0 0] }
abbrev zh3(t1 t2:Bool)(h:Heap)(l1 l2:Addr):Heap:=(zh2 t1 t2 h l1 l2).push { cls:=.type "tuple",data:=.seq #[.ref h.objs.size,.ref (zh1 t1 h l1).objs.size] }
abbrev zh4(t1 t2:Bool)(h:Heap)(l1 l2:Addr):Heap:=(zh3 t1 t2 h l1 l2).push { cls:=.type "tuple",data:=.seq #[.none,.none] }
abbrev zh5(t1 t2:Bool)(h:Heap)(l1 l2:Addr):Heap:=(zh4 t1 t2 h l1 l2).push { cls:=.type "zip",data:=.fields #[.none,.bool false,.bool false,.ref (zh2 t1 t2 h l1 l2).objs.size,.ref (zh3 t1 t2 h l1 l2).objs.size] }
theorem uf(t1 t2:Bool)(l1 l2:Addr)(xs ys:Array Value):Meets (Builtin.«zip.__new__» ⟨[.type "zip",.ref l1,.ref l2],[]⟩) (fun _ R s=>mV t1 s.heap l1 xs/\mV t2 s.heap l2 ys/\R (.ok (.ret (.ref (zh4 t1 t2 s.heap l1 l2).objs.size))) { s with heap:=zh5 t1 t2 s.heap l1 l2 }):=
 .of_wp fun prog w A R s h=>by
  obtain⟨hp,g,d,tk,os⟩:=s;obtain⟨q1,q2,h⟩:=h;have hsub:=sub_zip;have a1:mV t1 (Shared.heap ⟨hp,g,d,tk,os⟩) l1 xs:=q1;have a2:mV t2 (Shared.heap ⟨hp.push { cls:=.type (abn t1),data:=.fields #[.ref l1,.int 0 0] },g,d,tk,os⟩) l2 ys:=q2.on fun o e=>Heap.get?_push_of_some _ e
  wp_walk using mV.iter a1,mV.iter a2
  exact⟨_,rfl,h⟩
theorem wZ{w:World}{xs ys:Array Value}(q1:mV t1 s.heap l1 xs)(q2:mV t2 s.heap l2 ys)
 (q:∀h',IsZip h' (s.heap.objs.size+4) (s.heap.objs.size+2) (s.heap.objs.size+3) .none->IsPair h' (s.heap.objs.size+2) (.ref s.heap.objs.size) (.ref (s.heap.objs.size+1))->IsPair h' (s.heap.objs.size+3) .none .none->
  gj t1 h' s.heap.objs.size l1 0->gj t2 h' (s.heap.objs.size+1) l2 0->(∀c o,s.heap.get? c=some o->h'.get? c=some o)->Q (.ref (s.heap.objs.size+4)) { s with heap:=h' }):
 wpAny (model prog w) A (call (.type "zip") [.ref l1,.ref l2]) Q E s:=by
 refine callType_new F.called_zip (by decide) (F.typeCall_zip_2 _ _) (F.newCall_zip_2 _ _) (fun obj=>F.args_object_init_3 obj _ _) F.entry_zip_new (uf t1 t2 l1 l2 xs ys) ⟨q1,q2,?_⟩;have s1:(zh1 t1 s.heap l1).objs.size=s.heap.objs.size+1:=Heap.size_push ..;have s2:(zh2 t1 t2 s.heap l1 l2).objs.size=s.heap.objs.size+2:=by rw[Heap.size_push,s1]
 have s3:(zh3 t1 t2 s.heap l1 l2).objs.size=s.heap.objs.size+3:=by rw[Heap.size_push,s2]
 have s4:(zh4 t1 t2 s.heap l1 l2).objs.size=s.heap.objs.size+4:=by rw[Heap.size_push,s3]
 have g5:(zh5 t1 t2 s.heap l1 l2).get? (zh4 t1 t2 s.heap l1 l2).objs.size=some _:=Heap.get?_push_size _ rfl;have g4:(zh5 t1 t2 s.heap l1 l2).get? (zh3 t1 t2 s.heap l1 l2).objs.size=some _:=Heap.get?_push_of_some _ (Heap.get?_push_size _ rfl);have g3:(zh5 t1 t2 s.heap l1 l2).get? (zh2 t1 t2 s.heap l1 l2).objs.size=some _:=Heap.get?_push_of_some _ (Heap.get?_push_of_some _ (Heap.get?_push_size _ rfl));have g2:(zh5 t1 t2 s.heap l1 l2).get? (zh1 t1 s.heap l1).objs.size=some _:=Heap.get?_push_of_some _ (Heap.get?_push_of_some _ (Heap.get?_push_of_some _ (Heap.get?_push_size _ rfl)));have g1:(zh5 t1 t2 s.heap l1 l2).get? s.heap.objs.size=some _:=Heap.get?_push_of_some _ (Heap.get?_push_of_some _ (Heap.get?_push_of_some _ (Heap.get?_push_of_some _ (Heap.get?_push_size _ rfl))));show _/\_;rw[s2,s3,s4] at g5;rw[s1,s2] at g3;rw[s3] at g4;rw[s1] at g2;rw[s4];exact⟨⟨_,g5,rfl⟩,q _ g5 g3 g4 (gj.new g1) (gj.new g2) fun c o e=>Heap.get?_push_of_some _ (Heap.get?_push_of_some _ (Heap.get?_push_of_some _ (Heap.get?_push_of_some _ (Heap.get?_push_of_some _ e))))⟩
def Sq(t:Bool)(K:Af)(H:Hp)(a:Addr)(xs:List V):Prop:=match t with
 |false=>aB K H a xs
 |true=>dC K H a xs
section
variable {σ:L2.St} 
theorem qt.seq{a:Addr}(I:qt X pins σ H s)(h:Sq t X.K H a xs):∃its:List Value,zn xs its/\mV t s.heap a its.toArray/\xs.length≤sizeLine:=by
 cases t with
 |false=>obtain⟨its,v,p,z⟩:=I.list h;exact⟨its,v,p.isList,z⟩
 |true=>obtain⟨its,v,p,z⟩:=I.tuple h;exact⟨its,v,p,z⟩
theorem qt.seq_inj{a:Addr}{ys:List V}(I:qt X pins σ H s)(h:Sq t X.K H a xs)(h':Sq t X.K H a ys):xs=ys:=by cases t with|false=>exact I.list_inj h h'|true=>exact I.tuple_inj h h'
end
def Itz(t1 t2:Bool)(K:Af)(a b:Addr):It:=
 ⟨fun i H=>∃xs ys x y,Sq t1 K H a xs/\Sq t2 K H b ys/\xs[i]?=some x/\ys[i]?=some y,
  fun i H v H'=>∃p x y,H p=none/\v=.ref p/\H'=upd H p (.tup [x,y])/\(∀xs,Sq t1 K H a xs->xs[i]?=some x)/\∀ys,Sq t2 K H b ys->ys[i]?=some y,
  fun i H=>∃xs ys,Sq t1 K H a xs/\Sq t2 K H b ys/\(xs.length≤i\/ys.length≤i)⟩
theorem abi{P:Program}{w:World}{K:Af}(a b z TI TO i1 i2:Addr)(D:ZAp z TI TO i1 i2 a b)(d1:TI≠TO)(d2:TI≠i1)(d3:TI≠i2):
 xO P w K (.Tuple elts x1 tp) (Itz t1 t2 K a b) [z,TI,TO,i1,i2] z (fun i h=>IsZip h z TI TO .none/\IsPair h TI (.ref i1) (.ref i2)/\(∃u v,IsPair h TO u v)/\gj t1 h i1 a i/\gj t2 h i2 b i) where
 mem:=by simp
 obj:=fun i h ⟨hz,hI,⟨u,v,hO⟩,h1,h2⟩ c hc=>by
  simp only[Ap,Bo,or_false] at hc;rcases hc with rfl | rfl | rfl | rfl | rfl
  ·exact⟨_,hz,fun v z=>by cases z⟩
  ·exact⟨_,hI,fun v z=>by cases z⟩
  ·exact⟨_,hO,fun v z=>by cases z⟩
  ·exact h1.ob
  ·exact h2.ob
 keep:=fun i h h' ⟨hz,hI,⟨u,v,hO⟩,h1,h2⟩ k=>⟨k z (by simp) _ hz,k TI (by simp) _ hI,⟨u,v,k TO (by simp) _ hO⟩,h1.on fun o q=>k i1 (by simp) o q,h2.on fun o q=>k i2 (by simp) o q⟩
 item:=by
  intro X hP hw hK hc i pins s σ H E I hf ⟨hz,hI,⟨u,v,hO⟩,h1,h2⟩ hg;subst hP hw hK;obtain⟨xs,ys,x,y,q1,q2,hx,hy⟩:=hg;obtain⟨is1,rv1,p1,_⟩:=I.seq q1;obtain⟨is2,rv2,p2,_⟩:=I.seq q2;obtain⟨ux,hux,rux⟩:=rv1.get hx;obtain⟨uy,huy,ruy⟩:=rv2.get hy;have hT:s.TypeIs (.ref z) "zip" := ⟨_,hz,rfl⟩;unfold pyNext;refine Aa (wpAny_attempt (wpAny_callSpecial?_slot (name:="__next__") hT F.slot_zip_next (wpAny_call_entry F.slot_zip_next hT F.entry_zip_next
   (aaw D hz hI hO h1 h2 p1 p2 (x:=ux) (y:=uy) (by simpa using hux) (by simpa using huy) fun g1 gz gO gi1 gi2 gT gk=>Ai ⟨.ref s.heap.objs.size,rfl,wpAny_letOwnedTupleGo_zip gz fun g2 gz2 gs2=>?_⟩) (F.args_zip_next_1 _))))
  have lz:z<s.heap.objs.size:=Heap.lt_size hz;have lts:∀c∈[z,TI,TO,i1,i2],c<s.heap.objs.size:=fun c hc=>by
   simp only[Ap,Bo,or_false] at hc;rcases hc with rfl | rfl | rfl | rfl | rfl
   ·exact lz
   ·exact Heap.lt_size hI
   ·exact Heap.lt_size hO
   ·obtain⟨o,e,_⟩:=h1.ob;exact Heap.lt_size e
   ·obtain⟨o,e,_⟩:=h2.ob;exact Heap.lt_size e
  have kk:∀c o,c∉[z,TI,TO,i1,i2]->s.heap.get? c=some o->g2.get? c=some o:=fun c o nc q=>by simp only[Ap,Bo,or_false,not_or] at nc;exact gs2.extBut c o nc.1 (gk c o nc.1 nc.2.2.1 nc.2.2.2.1 nc.2.2.2.2 q)
  have tg:g2.get? s.heap.objs.size=some { cls:=.type "tuple",data:=.seq #[ux,uy] }:=gs2.extBut _ _ (Dl lz) gT;refine⟨.ref s.heap.objs.size,upd H s.heap.objs.size (.tup [x,y]),?_,rfl,⟨_,x,y,I.hok.fresh (Am _),rfl,rfl,fun zs hq=>by rw[I.seq_inj hq q1];exact hx,fun zs hq=>by rw[I.seq_inj hq q2];exact hy⟩,?_,fun c hc=>?_⟩
  ·exact I.turnedN (t':=s.toks) kk hf (Am _) ⟨by show 2≤sizeLine;decide,[ux,uy],.cons rux (.cons ruy .nil),⟨_,tg,rfl,_,rfl⟩⟩
  ·exact⟨gz2,gs2.extBut _ _ D.n1 (gk _ _ D.n1 d1 d2 d3 hI),⟨_,_,gs2.extBut _ _ D.n2 gO⟩,gi1.on fun o q=>gs2.extBut _ _ D.n3 q,gi2.on fun o q=>gs2.extBut _ _ D.n4 q⟩
  ·rw[qp (A2 (lts c hc))];exact(hf c hc).1
 done:=by
  intro X hP hw hK hc i pins s σ H E I hf ⟨hz,hI,⟨u,v,hO⟩,h1,h2⟩ hg;subst hP hw hK;obtain⟨xs,ys,q1,q2,hl⟩:=hg;obtain⟨is1,rv1,p1,_⟩:=I.seq q1;obtain⟨is2,rv2,p2,_⟩:=I.seq q2;have l1:=rv1.length;have l2:=rv2.length;have hT:s.TypeIs (.ref z) "zip" := ⟨_,hz,rfl⟩;unfold pyNext;refine Aa (wpAny_attempt (wpAny_callSpecial?_slot (name:="__next__") hT F.slot_zip_next (wpAny_call_entry F.slot_zip_next hT F.entry_zip_next
   (acb (I.ok.hd hc) D hz hI hO h1 h2 p1 p2 (by rcases hl with h | h;exact .inl (by simp;lia);exact .inr (by simp;lia)) fun g1 e gk he=>?_) (F.args_zip_next_1 _))))
  obtain⟨o,ho,hc'⟩:=he;refine Aa (wpAny_isInstance (T:="StopIteration") (b:=true) ⟨o,ho,hc'⟩ isSubtype_stop (Ai ⟨rfl,?_⟩));exact I.turnedL (t':=s.toks) (fp:=[z,TI,TO,i1,i2]) (fun c o nc q=>by simp only[Ap,Bo,or_false,not_or] at nc;exact gk c o nc.1 nc.2.2.1 nc.2.2.2.1 nc.2.2.2.2 q) hf
 self:=fun _ _ _ _ _ ⟨hz,_⟩ h=>wpAny_pyIter_zip hz h
def ano(K:Af)(ta:TA):TI:=fun σ H R=>ta σ H fun vs H1=>∃t1 t2 a b,vs=[.ref a,.ref b]/\(∃xs,Sq t1 K H1 a xs)/\(∃xs,Sq t2 K H1 b xs)/\R (Itz t1 t2 K a b) H1
theorem agz:bootBuiltins "zip" = some (.type "zip"):=by decide +kernel
theorem ajh{a b:Expr}{ta:TA}(hg:Gl X "zip")(hm:X.mg "zip" = none)(ha:PA X [a,b] ta)(hs:starEach [a,b] X.env=[(false,eval a X.env),(false,eval b X.env)]:=by rfl)
 (hs2:starEach [b] X.env=[(false,eval b X.env)]:=by rfl):PI X (.Tuple elts x1 tp) (.Call (.Name "zip" p) [a,b] [] pos) (ano X.K ta):=by
 intro pins s σ H R I h;refine Call_ (fN I hg hm agz (BX (v4 (ha pos pins s σ H _ I h) fun us s1 ⟨vs,H1,I1,r1,q1⟩=>?_) (by rw[hs,hs2]) (by rw[hs2];rfl)));obtain⟨t1,t2,l1,l2,e,⟨xs,hx⟩,⟨ys,hy⟩,q⟩:=q1;subst e;obtain⟨u1,u2,rfl,ru1,ru2⟩:=zn.two r1;cases ru1;cases ru2;obtain⟨is1,_,p1,_⟩:=I1.seq hx;obtain⟨is2,_,p2,_⟩:=I1.seq hy;have lt1:l1<s1.heap.objs.size:=by
  cases t1 with
  |false=>obtain⟨o,e,_⟩:=p1;exact Heap.lt_size e
  |true=>obtain⟨o,e,_⟩:=p1;exact Heap.lt_size e
 have lt2:l2<s1.heap.objs.size:=by
  cases t2 with
  |false=>obtain⟨o,e,_⟩:=p2;exact Heap.lt_size e
  |true=>obtain⟨o,e,_⟩:=p2;exact Heap.lt_size e
 refine wZ p1 p2 fun g1 gz gI gO g1' g2' gk=>?_;have I2:qt X pins σ H1 { s1 with heap:=g1 }:=I1.kept (t':=s1.toks) gk;refine wpAny_pyIter_zip (s:={ s1 with heap:=g1 }) gz ?_;refine⟨_,[_,s1.heap.objs.size+2,s1.heap.objs.size+3,s1.heap.objs.size,s1.heap.objs.size+1],_,_,H1,rfl,I2,abi l1 l2 _ _ _ _ _ ?_ (sw (by lia)) (sw (by lia)) (sw (by lia)),⟨gz,gI,⟨_,_,gO⟩,g1',g2'⟩,fun c hc=>?_,q⟩
 ·have lt1':@LT.lt Nat instLTNat l1 s1.heap.objs.size:=lt1;have lt2':@LT.lt Nat instLTNat l2 s1.heap.objs.size:=lt2;constructor<;>exact sw (by lia)
 ·have hc':s1.heap.objs.size≤c:=by simp only[Ap,Bo,or_false] at hc;rcases hc with rfl | rfl | rfl | rfl | rfl<;>exact leN (by simp +arith only)
  exact I1.fpOk hc' (I1.hok.fresh hc')
end L2
namespace L3
open PySem L2
def og(L₀:qm):Y->qm->Prop
 |.ref a,L=>L a=L₀ a
 |_,_=>True
theorem ig(L:qm):∀y:Y,og L y L
 |.ref _=>rfl
 |.non=>trivial
 |.bl _=>trivial
 |.int _=>trivial
 |.str _=>trivial
 |.ty _=>trivial
 |.cd _=>trivial
 |.tup _=>trivial
 |.sq _=>trivial
theorem uo{H1:Hp}(r:RV G H1 y v)(h:cB L1 y=some ys):∃t p,v=.ref p/\∀H L,ja H1 H->ji G H L->og L1 y L->∃xs,Sq t G.K H p xs/\xm G H ys xs:=by
 cases y with
 |tup zs=>
  obtain⟨a,xs,e,s,q⟩:=r;cases h;exact⟨true,a,e,fun H L t _ _=>⟨xs,dC.ts s t,q.ts t⟩⟩
 |sq zs=>
  obtain⟨a,xs,e,s,q⟩:=r;cases h;exact⟨false,a,e,fun H L t _ _=>⟨xs,(s.ts t).sq,q.ts t⟩⟩
 |ref a=>
  have e:=gy h;exact⟨false,a,r,fun H L _ rl kp=>let ⟨xs,e2,q⟩:=rl a _ (kp.trans e);⟨xs,ES e2,q⟩⟩
 |_=>cases h
def uS(xs ys:List Y):List Y:=List.zipWith (fun a b=>Y.tup [a,b]) xs ys
theorem vA{xs:List Y}(h:(uS xs ys)[i]?=some y):∃a b,xs[i]?=some a/\ys[i]?=some b/\y=.tup [a,b]:=by
 unfold uS at h;rw[List.getElem?_zipWith] at h;cases e1:xs[i]? with
 |none=>rw[e1] at h;simp at h
 |some a=>
  cases e2:ys[i]? with|none=>rw[e1,e2] at h;simp at h|some b=>rw[e1,e2] at h;simp at h;exact⟨a,b,rfl,rfl,h.symm⟩
theorem lW(xs ys:List Y):(uS xs ys).length=min xs.length ys.length:=by simp[uS]
theorem u8{a b:Addr}{xs:List Y}{keep:qm->Prop}(h1:∀H L,ja H₀ H->ji G H L->keep L->∃us,Sq t1 G.K H a us/\xm G H xs us)(h2:∀H L,ja H₀ H->ji G H L->keep L->∃us,Sq t2 G.K H b us/\xm G H ys us):
 iN G H₀ (Itz t1 t2 G.K a b) (uS xs ys) keep where
 go:=fun i H L t rl kp hi=>by obtain⟨us,s1,r1⟩:=h1 H L t rl kp;obtain⟨vs,s2,r2⟩:=h2 H L t rl kp;rw[lW] at hi;have l1:=r1.length;have l2:=r2.length;exact⟨us,vs,us[i]'(by lia),vs[i]'(by lia),s1,s2,Al _,Al _⟩
 yld:=fun i H L x H' y t rl kp hy ⟨p,u,v,hp,e1,e2,f1,f2⟩=>by subst e1 e2;obtain⟨us,s1,r1⟩:=h1 H L t rl kp;obtain⟨vs,s2,r2⟩:=h2 H L t rl kp;obtain⟨c,d,ec,ed,rfl⟩:=vA hy;obtain⟨u',eu,ru⟩:=r1.get ec;obtain⟨v',ev,rv⟩:=r2.get ed;have z1:=f1 us s1;rw[eu] at z1;cases z1;have z2:=f2 vs s2;rw[ev] at z2;cases z2;exact⟨EE hp,rl.skip hp,p,_,rfl,dC.of zw,⟨_,_,rfl,ru.ts (EE hp),_,_,rfl,rv.ts (EE hp),rfl⟩⟩
 stop:=fun H L t rl kp=>by obtain⟨us,s1,r1⟩:=h1 H L t rl kp;obtain⟨vs,s2,r2⟩:=h2 H L t rl kp;have l1:=r1.length;have l2:=r2.length;exact⟨us,vs,s1,s2,by rw[lW];lia⟩
def zF(ta:dQ)(τ:jj)(L:qm)(R:List Y->(qm->Prop)->qm->Prop):Prop:=ta τ L fun vs L1=>match vs with
 |[x,y]=>iE L1 x fun xs=>iE L1 y fun ys=>R (uS xs ys) (fun L=>og L1 x L/\og L1 y L) L1
 |_=>False
theorem abe{a b:Expr}{tr:dQ}(hg:Gl X "zip")(hm:X.mg "zip" = none)(ha:QA X [a,b] tr)(hs:starEach [a,b] X.env=[(false,eval a X.env),(false,eval b X.env)]:=by rfl)
 (hs2:starEach [b] X.env=[(false,eval b X.env)]:=by rfl):QI X (.Tuple elts x1 tp) (.Call (.Name "zip" p) [a,b] [] pos) (zF tr):=PI.imp (ajh hg hm ha hs hs2) fun σ H R ⟨τ,L,R3,rs,rl,z,k⟩=>by
 refine⟨τ,L,_,rs,rl,z,fun vs H1 ys L1 t1 rl1 rv1 z1=>?_⟩;split at z1
 ·rename_i x y;obtain⟨u,v,rfl,ru,rv⟩:=rv1.inv2;obtain⟨xs,ex,z1⟩:=wz z1;obtain⟨zs,ez,z1⟩:=wz z1;obtain⟨t1',p1,rfl,k1⟩:=uo ru ex;obtain⟨t2',p2,rfl,k2⟩:=uo rv ez;obtain⟨us,s1,_⟩:=k1 H1 L1 (ED _) rl1 (ig _ _);obtain⟨ws,s2,_⟩:=k2 H1 L1 (ED _) rl1 (ig _ _);exact⟨t1',t2',p1,p2,rfl,⟨us,s1⟩,⟨ws,s2⟩,k _ H1 _ _ L1 t1 rl1 (u8 (fun H L t rl kp=>k1 H L t rl kp.1) fun H L t rl kp=>k2 H L t rl kp.2) z1⟩
 ·exact z1.elim
def cV(xs:List Y)(L:qm)(Q:YK):Prop:=match xs with
 |[x]=>iE L x fun ys=>∀p,L p=none->Q (.ref p) (qf L p (.lst ys))
 |_=>False
theorem dW :jw X (.type "list") (upL X.g3 cV):=ET oG fun xs H Q ⟨ys,L,Q3,rv,rl,z,k⟩=>by
 unfold cV at z;split at z
 ·rename_i x;obtain⟨u,rfl,ru⟩:=rv.inv1;obtain⟨zs,ez,z⟩:=wz z;obtain⟨p,us,e,sq,r⟩:=oh rl ru ez;subst e;exact⟨p,us,rfl,sq,fun l hl=>k _ _ _ _ (EE hl) (rl.newL hl r) (by rfl) (z l (rl.none hl))⟩
 ·exact z.elim
theorem cK{T:String}{tr:dQ}{r:List Y->qm->YK->Prop}(hc:jw X (.type T) (upL X.g3 r))(hg:Gl X x)(hm:X.mg x=none)(hv:bootBuiltins x=some (.type T))(h:QA X (e::es) tr)
 (hn:x ≠ "__name__" := by decide) (hd:EW x:=by decide) (hs:Ez e es X:=by rfl) (hp:EV pos es X:=by rfl):
 QE X (.Call (.Name x p) (e::es) [] pos) (cx r tr):=EF (iC hc hg hm hv h hn hd hs hp) fun σ H Q ⟨τ,L,Q3,rs,rl,z,k⟩=>
 ⟨τ,L,_,rs,rl,z,fun vs H1 ys L1 t1 rl1 rv1 z1=>⟨ys,L1,Q3,rv1,rl1,z1,k.ts t1⟩⟩
def cT(x:Y)(vs:List Y)(L:qm)(Q:YK):Prop:=match x,vs with
 |.ref a,[.int i]=>dU L a fun ys=>0≤i/\i<ys.length/\wJ L (fun v L=>Q v (qf L a (.lst (ys.eraseIdx i.toNat)))) (ys[i.toNat]?)
 |_,_=>False
theorem ae0 :kQ X "list.pop" (upM X.g3 cT):=fun pins s σ H x xs v us Q I rx ry ⟨y,ys,L,Q3,r1,r2,rl,z,k⟩=>by
 unfold cT at z;split at z
 ·rename_i a i;obtain⟨zs,e,h0,h1,z⟩:=xx z;obtain⟨ws,e2,r⟩:=rl a _ e;obtain⟨i',rfl,ri⟩:=r2.inv1;cases ri;cases el:zs[i.toNat]? with
  |none=>rw[el] at z;exact z.elim
  |some w=>
   rw[el] at z;obtain⟨u,eu,ru⟩:=r.get el;obtain⟨_,_,_,hz⟩:=I.list (ES e2);have hl:=r.length;have hs:sizeLine<2 ^ 62:=by decide
   refine abl pins s σ H x _ v us Q I rx ry ⟨a,ws,i,i.toNat,u,r1,rfl,e2,by lia,by lia,?_,eu,k _ _ _ _ (EN e2) (rl.setL e2 (r.eraseIdx _)) (ru.ts (EN e2)) z⟩;unfold seqIndex?;rw[As (show ¬i<0 by lia),AA (by simp;lia)]
 ·exact z.elim
theorem cD{tr:dQ}(ho:QE X o to)(ha:QA X (e::es) tr)(h4:attributeBase o "pop" X.env (eval o X.env)=eval o X.env:=by rfl)
 (h5:((backTo cpos (starEach (e::es) X.env)).all (fun x=>!x.1)&&(backToKw cpos (keywordEach [] X.env)).all (fun x=>x.1.isSome)&&decide ((e::es).length+([]:List Keyword).length+(if ([]:List Keyword).isEmpty=true then 0 else 1)<30))=true:=by rfl)
 (h6:(apos.endLine==cpos.line)=true:=by rfl) (h7:Ez e es X:=by rfl) (h8:EV cpos es X:=by rfl):
 QE X (.Call (.Attribute o "pop" apos) (e::es) [] cpos) (aG cT to tr):=pH PySem.F.slot_list_pop PySem.F.type_list_pop ae0 ho ha h4 h5 h6 h7 h8
end L3
namespace L2
open PySem PySem.Spec PyProof.Rows
section
theorem wC(i:Int)(n d:Nat):max 0 (min (if i<0 then i+(n:Int) else i) n)=((HT.sIx n d (some i):Nat):Int):=by
 simp only[HT.sIx];by_cases h:i<0
 ·simp only[h,if_true]<;>lia
 ·simp only[h,if_false]<;>lia
theorem yW(l u:Option Int)(n:Nat):Builtin.Str.strSliceIndices l u 1 n=(List.range (HT.sIx n n u - HT.sIx n 0 l)).map (HT.sIx n 0 l+·):=by
 have z:(0:Int)=((HT.sIx n 0 none:Nat):Int):=rfl;have y:(n:Int)=((HT.sIx n n none:Nat):Int):=rfl;unfold Builtin.Str.strSliceIndices;cases l with
 |none=>
  cases u with
  |none=>exact sliceRange_one 0 n
  |some j=>
   show sliceRange 0 (max 0 (min (if j<0 then j+(n:Int) else j) n)) 1=_;rw[wC j n n];exact sliceRange_one 0 _
 |some i=>
  cases u with
  |none=>
   show sliceRange (max 0 (min (if i<0 then i+(n:Int) else i) n)) n 1=_;rw[wC i n 0];exact sliceRange_one _ n
  |some j=>
   show sliceRange (max 0 (min (if i<0 then i+(n:Int) else i) n)) (max 0 (min (if j<0 then j+(n:Int) else j) n)) 1=_;rw[wC i n 0,wC j n n];exact sliceRange_one _ _
theorem mU(x:Str)(l u:Option Int):(Txt.slice x l u).cps.toList=(x.cps.toList.drop (HT.sIx x.length 0 l)).take (HT.sIx x.length x.length u - HT.sIx x.length 0 l):=by
 have hn:x.length=x.cps.toList.length:=by simp[Str.length]
 have pick:=pick_run x.cps (HT.sIx x.length 0 l) (HT.sIx x.length x.length u - HT.sIx x.length 0 l);unfold Txt.slice;rw[yW];split
 ·rename_i h;simp only[beq_self_eq_true,Bool.true_and,Ae,BN,beq_iff_eq] at h;have h1:=HT.sIx_le x.length 0 (Bk _) l;have h2:=HT.sIx_le x.length x.length (Am _) u;have a0:HT.sIx x.length 0 l=0:=by lia
  rw[h,a0,DK,A3 (by exact pV)]
 ·show(List.filterMap (fun i=>x.cps[i]?) _).toArray.toList=_;rw[List.toList_toArray];exact pick
def ap0:V->Option Int->Option Int->Hp->VK->Prop:=fun x lo hi H Q=>∃z,x=.str z/\z.length≤sizeLine/\Q (.str (Txt.slice z lo hi)) H
theorem ajl:pi X ap0:=by
 intro pins s σ H x v vl vu lo hi sl Q I rx hs pl pu h;obtain⟨z,rfl,hz,q⟩:=h;obtain⟨t,rfl⟩:=rx;obtain⟨l,rfl,hl⟩:∃l:Option (Int×Tok),vl=partValue l/\l.map (·.1)=lo:=by cases pl with|none=>exact⟨none,rfl,rfl⟩|int i t=>exact⟨some (i,t),rfl,rfl⟩
 obtain⟨u,rfl,hu⟩:∃u:Option (Int×Tok),vu=partValue u/\u.map (·.1)=hi:=by cases pu with|none=>exact⟨none,rfl,rfl⟩|int i t=>exact⟨some (i,t),rfl,rfl⟩
 subst hl hu;refine⟨"str",_,F.slot_str_getitem.lookup,typeIs_str _ _ _,jp I.tk (wpAny_getItem_str_slice (l:=l) (u:=u) (st:=none) hs rfl ?_)⟩;exact post_val_or_str ⟨AU (Txt.slice_le z _ _) hz,fun t' k ht=>⟨.str _,H,I.tok _,⟨t',rfl⟩,q⟩⟩
theorem tJ{zs:List Str}:∀{us:List Value},zn (zs.map V.str) us->StrsAre us zs:=by
 induction zs with
 |nil=>intro us r;rw[Dm] at r;cases r;exact .nil
 |cons z zs ih=>
  intro us r;rw[AD] at r;cases r with
  |cons r1 r2=>
   obtain⟨t,e⟩:=r1;subst e;exact .cons z t (ih r2)
def ald(K:Af):V->List V->Hp->VK->Prop:=fun x vs H Q=>∃z a zs,x=.str z/\vs=[.ref a]/\aB K H a ((zs:List Str).map V.str)/\(zs.map (·.length)).sum+zs.length*z.length≤16777216/\Q (.str (Txt.join z zs)) H
theorem aea:kQ X "str.join" (ald X.K):=by intro pins s σ H x vs v us Q I rx rv h;obtain⟨z,a,zs,rfl,rfl,hq,hz,q⟩:=h;obtain⟨t,rfl⟩:=rx;obtain⟨u,rfl,ru⟩:=rv.one;cases ru;obtain⟨its,r,p,_⟩:=I.list hq;exact jp I.tk (PyProof.Rows.join_list p.isList (by simpa using tJ r) hz fun t' k ht=>⟨.str _,H,I.tok _,⟨t',rfl⟩,q⟩)
end
end L2
namespace L3
open PySem L2
def sv(x:Y)(lo hi:Option Int)(L:qm)(Q:YK):Prop:=match x with
 |.str z=>z.length≤sizeLine/\Q (.str (Txt.slice z lo hi)) L
 |x=>al0 x lo hi L Q
theorem jV(K:Af)(P:Program)(w:World)(hK:X.K=K:=by rfl)(hP:X.prog=P:=by rfl)(hw:X.w=w:=by rfl):pi X (aex ⟨K,P,w⟩ sv):=by refine pi.imp (ajl.or (am1 K P w hK hP hw)) fun x lo hi H Q ⟨y,L,Q3,rv,rl,z,k⟩=>?_;cases y with|str s=>exact .inl ⟨s,rv,z.1,k _ H _ L (ED _) rl (by rfl) z.2⟩|_=>exact .inr ⟨_,L,Q3,rv,rl,z,k⟩
def yBS(r:Y->List Y->qm->YK->Prop)(to:xn)(t:dQ)(τ:jj)(L:qm)(Q:YK):Prop:=to τ L fun x L1=>match x with
 |.str z=>t τ L1 fun xs L2=>r (.str z) xs L2 Q
 |_=>False
theorem ahj{tr:dQ}{id:String}{r:Y->List Y->qm->YK->Prop}(h2:Slot "str" name id)(h3:typeOf (.builtin id)=pure (.type "method_descriptor"))(hm:kQ X id (upM X.g3 r))(ho:QE X o to)(ha:QA X (e::es) tr)
 (h4:attributeBase o name X.env (eval o X.env)=eval o X.env:=by rfl)
 (h5:((backTo cpos (starEach (e::es) X.env)).all (fun x=>!x.1)&&(backToKw cpos (keywordEach [] X.env)).all (fun x=>x.1.isSome)&&decide ((e::es).length+([]:List Keyword).length+(if ([]:List Keyword).isEmpty=true then 0 else 1)<30))=true:=by rfl)
 (h6:(apos.endLine==cpos.line)=true:=by rfl) (h7:Ez e es X:=by rfl) (h8:EV cpos es X:=by rfl):
 QE X (.Call (.Attribute o name apos) (e::es) [] cpos) (yBS r to tr):=EF (agl PySem.F.plainAttrs_str h2 h3 hm ho ha h4 h5 h6 h7 h8) fun σ H Q ⟨τ,L,Q3,rs,rl,z,k⟩=>
 ⟨τ,L,_,rs,rl,z,fun v H1 y L1 t1 rl1 rv1 z1=>by
  split at z1
  ·rename_i s;cases rv1;exact⟨rfl,τ,L1,_,rs.ts t1,rl1,z1,fun vs H2 ys L2 t2 rl2 rv2 z2=>⟨.str s,ys,L2,Q3,rfl,rv2,rl2,z2,k.ts (t1.trans t2)⟩⟩
  ·exact z1.elim⟩
theorem qU{G:G3}{H:Hp}:∀{zs:List Str} {xs:List V},xm G H (zs.map Y.str) xs->xs=zs.map V.str
 |[],_,h=>h
 |z::r,_,⟨x,xs',e,q,s⟩=>by rw[e,show x=V.str z from q,qU s];rfl
def wH(x:Y)(vs:List Y)(L:qm)(Q:YK):Prop:=match x,vs with
 |.str z,[.ref a]=>dU L a fun ys=>∃zs,ys=zs.map Y.str/\(zs.map (·.length)).sum+zs.length*z.length≤16777216/\Q (.str (Txt.join z zs)) L
 |_,_=>False
theorem aie :kQ X "str.join" (upM X.g3 wH):=kQ.imp aea fun x xs H Q ⟨y,ys,L,Q3,r1,r2,rl,z,k⟩=>by
 unfold wH at z;split at z
 ·rename_i s a;obtain⟨us,e,zs,rfl,hz,z⟩:=xx z;obtain⟨ws,e2,r⟩:=rl a _ e;obtain⟨u,rfl,ru⟩:=r2.inv1;cases ru;rw[qU r] at e2;exact⟨s,a,zs,r1,rfl,ES e2,hz,k _ H _ L (ED _) rl (by rfl) z⟩
 ·exact z.elim
theorem acm{tr:dQ}(ho:QE X o to)(ha:QA X (e::es) tr)(h4:attributeBase o "join" X.env (eval o X.env)=eval o X.env:=by rfl)
 (h5:((backTo cpos (starEach (e::es) X.env)).all (fun x=>!x.1)&&(backToKw cpos (keywordEach [] X.env)).all (fun x=>x.1.isSome)&&decide ((e::es).length+([]:List Keyword).length+(if ([]:List Keyword).isEmpty=true then 0 else 1)<30))=true:=by rfl)
 (h6:(apos.endLine==cpos.line)=true:=by rfl) (h7:Ez e es X:=by rfl) (h8:EV cpos es X:=by rfl):
 QE X (.Call (.Attribute o "join" apos) (e::es) [] cpos) (yBS wH to tr):=ahj PySem.F.slot_str_join PySem.F.type_str_join aie ho ha h4 h5 h6 h7 h8
theorem oF(zs:List Str):(Txt.join "" zs).cps.toList=zs.flatMap fun z=>z.cps.toList:=by
 have e:∀zs:List Str,(Str.join "" zs).cps.toList=zs.flatMap fun z=>z.cps.toList:=by
  intro zs
  induction zs with
  |nil=>rfl
  |cons z r ih=>
   cases r with
   |nil=>simp[Str.join]
   |cons y r=>
    show(z ++ "" ++ Str.join "" (y::r)).cps.toList=_;have:(z ++ "" ++ Str.join "" (y::r)).cps=z.cps++#[]++(Str.join "" (y::r)).cps:=rfl;rw[this];simp only[A4,ih,AQ,Array.append_empty]
 exact(BC (fun x:Str=>x.cps.toList) (StrLaws.glued_eq_join "" zs)).trans (e zs)
theorem afe(K:Af)(T S S':i7):PySem.W.kitAny K (.type T.nm) [.type S.nm,.type S'.nm]=some (cG T S||cG T S'):=by show(match PySem.W.kitOne K (.type T.nm) (.type S.nm) with | some true=>some true | some false=>(match PySem.W.kitOne K (.type T.nm) (.type S'.nm) with | some true=>some true | some false=>some false | none=>none) | none=>none)=_;rw[pJ,pJ];cases cG T S<;>cases cG T S'<;>rfl
theorem yH{T S S':i7}{a:Addr}{σ:L2.St}(I:qt X pins σ H s)(rl:ji X.g3 H L)(r:RV X.g3 H y v)(ru:zq v u)(h:tyY L y=some T)(ha:H a=some (.tup [.ty S.nm,.ty S'.nm]))
 (hq:∀tk,Q (.bool (cG T S||cG T S')) { s with toks:=tk }):wpAny (model X.prog X.w) A (call (.builtin "isinstance") [u,.ref a]) Q E s:=by
 obtain⟨_,its,vs,⟨⟨oc,od,dt,sl⟩,h1,h2,n,h3⟩⟩:=(show jz X.prog X.w H s.heap a (.tup [.ty S.nm,.ty S'.nm]) from I.hok a _ ha);obtain⟨u1,u2,rfl,r1,r2⟩:=zn.two vs;cases (show u1=Value.type S.nm from r1);cases (show u2=Value.type S'.nm from r2);cases (show oc=_ from h2);cases (show dt=_ from h3);have e:=afe X.K T S S';cases y with
 |non=>cases h;cases r;cases (show u=Value.none from ru);exact BS PySem.W.kitx_none I.kIn True.intro h1 e (fun z=>nomatch z) hq
 |bl b=>cases h;cases r;cases (show u=Value.bool b from ru);exact BS PySem.W.kitx_bool I.kIn True.intro h1 e (fun z=>nomatch z) hq
 |int i=>cases h;cases r;obtain⟨t,q⟩:=(show ∃t,u=Value.int i t from ru);cases q;exact BS PySem.W.kitx_int I.kIn True.intro h1 e (fun z=>nomatch z) hq
 |str x=>cases h;cases r;obtain⟨t,q⟩:=(show ∃t,u=Value.str x t from ru);cases q;exact BS PySem.W.kitx_str I.kIn True.intro h1 e (fun z=>nomatch z) hq
 |tup ys=>
  cases h;obtain⟨b,xs,rfl,sq,_⟩:=r;cases (show u=Value.ref b from ru);obtain⟨_,_,⟨o,g1,g2,_⟩,_⟩:=I.tuple sq;exact BS DI I.kIn ⟨o,g1,g2⟩ h1 e (fun z=>nomatch z) hq
 |sq ys=>
  cases h;obtain⟨b,xs,rfl,sq,_⟩:=r;cases (show u=Value.ref b from ru);obtain⟨_,_,⟨o,_,g1,g2,_⟩,_⟩:=I.list sq.sq;exact BS CN I.kIn ⟨o,g1,g2⟩ h1 e (fun z=>nomatch z) hq
 |ref b=>
  cases (show v=.ref b from r);cases (show u=Value.ref b from ru);have h':(match L b with | some (.lst _)=>some i7.list | some (.dct _)=>some .dict | _=>none)=some T:=h;split at h'
  ·rename_i ys el;cases h';obtain⟨xs,e2,_⟩:=rl b _ el;obtain⟨_,_,⟨o,_,g1,g2,_⟩,_⟩:=I.list (ES e2);exact BS CN I.kIn ⟨o,g1,g2⟩ h1 e (fun z=>nomatch z) hq
  ·rename_i kvs el;cases h';obtain⟨xs,e2,_⟩:=rl b _ el;obtain⟨_,_,ws,_,p⟩:=(show jz X.prog X.w H s.heap b (.dK xs) from I.hok b _ e2);obtain⟨o,es,ep,g1,g2,_⟩:=p;exact BS DU I.kIn ⟨o,g1,g2.1⟩ h1 e (fun z=>nomatch z) hq
  ·cases h'
 |_=>cases h
def yS(G:G3)(S S':i7):List V->Hp->VK->Prop:=fun xs H Q=>∃y v L Q3 T a,xs=[v,.ref a]/\H a=some (.tup [.ty S.nm,.ty S'.nm])/\RV G H y v/\ji G H L/\tyY L y=some T/\Q3 (.bl (cG T S||cG T S')) L/\wG G H Q3 Q
theorem yk(S S':i7):jw X (.builtin "isinstance") (yS X.g3 S S'):=by intro pins s σ H xs us Q I r h;obtain⟨y,v,L,Q3,T,a,rfl,ha,rv,rl,ty,q,k⟩:=h;obtain⟨u,c,rfl,r1,r2⟩:=zn.two r;cases (show c=Value.ref a from r2);exact jp I.tk (yH I rl rv r1 ty ha fun tk ht=>⟨.bl _,H,I.tok _,rfl,k _ H _ L (ED _) rl (by rfl) q⟩)
theorem um{a:Expr}{pt:Pos}{xT xT':Str}(S S':i7)(hg:Gl X "isinstance")(hm:X.mg "isinstance" = none)(hgT:Gl X xT)(hmT:X.mg xT=none)(hvT:bootBuiltins xT=some (.type S.nm))(hgT':Gl X xT')(hmT':X.mg xT'=none)(hvT':bootBuiltins xT'=some (.type S'.nm))(ha:QE X a ta)
 (hn:xT ≠ "__name__" := by decide) (hd:(xT==("__debug__" : Str))=false:=by decide) (hn':xT' ≠ "__name__" := by decide) (hd':(xT'==("__debug__" : Str))=false:=by decide)
 (hs:starEach [a,.Tuple [.Name xT p1,.Name xT' p2] kt pt] X.env=(false,eval a X.env)::starEach [.Tuple [.Name xT p1,.Name xT' p2] kt pt] X.env:=by rfl)
 (hs2:starEach [.Tuple [.Name xT p1,.Name xT' p2] kt pt] X.env=(false,eval (.Tuple [.Name xT p1,.Name xT' p2] kt pt) X.env)::starEach [] X.env:=by rfl)
 (hs3:starEach [.Name xT p1,.Name xT' p2] X.env=(false,eval (.Name xT p1) X.env)::starEach [.Name xT' p2] X.env:=by rfl) (hs4:starEach [.Name xT' p2] X.env=(false,eval (.Name xT' p2) X.env)::starEach [] X.env:=by rfl)
 (hp:(backTo pos (starEach [.Tuple [.Name xT p1,.Name xT' p2] kt pt] X.env)).any (·.1)=false:=by rfl):
 QE X (.Call (.Name "isinstance" p) [a,.Tuple [.Name xT p1,.Name xT' p2] kt pt] [] pos) (rO S S' ta):=by
 refine EF (eF (yk S S') hg hm aM (vi ha (vi (ug (vi (vW hgT hmT hvT hn hd) (vi (vW hgT' hmT' hvT' hn' hd') bL hs4) hs3)) bL hs2) hs) (by decide) (by decide) hs hp) ?_;rintro σ H Q ⟨τ,L,Q3,rs,rl,z,k⟩;refine⟨τ,L,_,rs,rl,z,fun v H1 y L1 t1 rl1 rv1 z1=>?_⟩;obtain⟨T,et,z1⟩:=sF z1;refine⟨by show 2≤sizeLine;decide,fun q hq=>?_⟩;exact⟨y,v,L1,Q3,T,q,rfl,zw,rv1.ts (EE hq),rl1.skip hq,et,z1,k.ts (t1.trans (EE hq))⟩
def cL(t u:w6)(D:xa)(τ:jj)(L:qm):Prop:=∃J:jj->qm->Prop,t { D with nx:=J } τ L/\∀τ' L',J τ' L'->u D τ' L'
theorem xo{rest:List Stmt}{t u:w6}(h:QS X st t)(k:mC X rest u):mC X (st::rest) (cL t u):=iM.imp (sR h k) fun D σ H ⟨τ,L,D3,rs,rl,⟨J,z,q⟩,k⟩=>
 ⟨τ,L,{ D3 with nx:=J },rs,rl,z,fun σ1 H1 τ1 L1 t1 rs1 rl1 z1=>⟨τ1,L1,D3,rs1,rl1,q τ1 L1 z1,k.ts t1⟩,k.rt,k.bk,k.ct⟩
abbrev X3:=jj->Addr->qm->Prop
abbrev gE:=List Y->qm->YK->(Addr->qm->Prop)->Prop
def upX(G:G3)(E3:X3):X1:=fun σ c H=>∃C τ L,c=.ref C/\v5 G H σ τ/\ji G H L/\E3 τ C L
def al9(G:G3)(H:Hp)(E3:Addr->qm->Prop)(E:XK):Prop:=∀C H' L',ja H H'->ji G H' L'->E3 C L'->E (.ref C) none H'
def dnX(G:G3)(sp:gE):Sp:=fun vs H Q E=>∃ys L Q3 E3,xm G H ys vs/\ji G H L/\sp ys L Q3 E3/\wG G H Q3 Q/\al9 G H E3 E
def uD(E3:Addr->qm->Prop):X3:=fun _ C L=>∃L2,qj L2 L/\E3 C L2
abbrev alj(P:Program)(w:World)(K:Af)(mg:Str->Option Value)(base:Heap)(k:Nat)(f:Addr)(fd:FuncData)(ps:List Str)(sp:gE):Prop:=am P w K mg base (CXE P w) k f fd ps (dnX ⟨K,P,w⟩ sp)
structure iU(P:Program)(w:World)(K:Af)(mg:Str->Option Value)(base:Heap)(k:Nat)(x:Str)(ps:List Str)(sp:gE):Prop where
 ex:∃f fd,alj P w K mg base k f fd ps sp/\dH K fd ps []/\PySem.W.keepIn K (.ref f)=true/\mg x=some (.ref f)
theorem iU.mono{P:Program}{w:World}{K:Af}{k:Nat}{sp:gE}(c:iU P w K mg base j x ps sp)(h:j≤k):iU P w K mg base k x ps sp:=by obtain⟨f,fd,F,b,kp,m⟩:=c.ex;exact⟨f,fd,F.mono h,b,kp,m⟩
theorem qt.tst{σ:L2.St}(I:qt X pins σ H s):ja X.H₀ H:=fun a u i e=>by cases u with|tup xs=>exact I.base.tups a xs e|frz o u=>exact I.base.frzs a o u e|_=>cases i
theorem ajj{P:Program}{w:World}{K:Af}{N:List Str}{E:XK}{E3:Addr->qm->Prop}(h:al9 ⟨K,P,w⟩ H E3 E):
 aj (cz (CXE P w) P w K mg base N qual scope f cd A outer s H E) (upX ⟨K,P,w⟩ (uD E3)):=by
 intro pins σ H' s' a C tr I L ap apT ⟨C',τ,L',ec,rs,rl,L2,sb,q⟩;cases ec;exact zZ pins σ H' s' a C tr I L ap apT (h C H' L2 (qt.tst I) (rl.sub sb) q)
def iK(sp:gE)(E3:X3)(t:dQ)(τ:jj)(L:qm)(Q:YK):Prop:=t τ L fun ys L1=>sp ys L1 Q (E3 τ)
def zD(C:Addr)(E3:X3)(t:dQ)(_:xa)(τ:jj)(L:qm):Prop:=t τ L fun ys L1=>ys.length≤1000/\E3 τ C L1
section
variable {tr:dQ}{E3:X3}
theorem ab5{k:Nat}{sp:gE}(c:iU X.prog X.w X.K X.mg X.base k x ps sp)(hr:w4 k X.A)(hg:Gl X x)(ht:aj X (upX X.g3 E3))(hx:X.ex=[])(ha:QA X (e::es) tr)(hdb:EW x:=by decide)
 (he:Ez e es X:=by rfl) (hpl:EV pos es X:=by rfl):QE X (.Call (.Name x p) (e::es) [] pos) (iK sp E3 tr):=by
 obtain⟨f,fd,F,b,kp,m⟩:=c.ex;refine EF (re F hr hg m kp b ht hx ha hdb he hpl) fun σ H Q ⟨τ,L,Q3,rs,rl,z,k⟩=>?_;exact⟨τ,L,_,rs,rl,z,fun vs H1 ys L1 t1 rl1 rv1 z1=>⟨ys,L1,Q3,E3 τ,rv1,rl1,z1,k.ts t1,fun C H' L' t' rl' q=>⟨C,τ,L',rfl,rs.ts (t1.trans t'),rl',q⟩⟩⟩
theorem aay(c:aau X.K C)(hg:Gl X x)(hm:X.mg x=some (.ref C))(hc:X.calm=true)(ht:aj X (upX X.g3 E3))(hx:X.ex=[])(ha:QA X (e::es) tr)(hdb:EW x:=by decide)
 (he:Ez e es X:=by rfl) (hpl:EV cpos es X:=by rfl):
 QS X (.Raise (some (.Call (.Name x np) (e::es) [] cpos)) none pos) (zD C E3 tr):=EH (abw c hg hm hc ht hx ha hdb he hpl) fun D σ H ⟨τ,L,D3,rs,rl,z,k⟩=>
 ⟨τ,L,_,rs,rl,z,fun vs H1 ys L1 t1 rl1 rv1 ⟨hl,z1⟩=>⟨cJ (by rw[<-rv1.length];exact hl),C,τ,L1,rfl,rs.ts t1,rl1,z1⟩⟩
end
theorem aoz{P:Program}{w:World}{K:Af}{N:List Str}{k:Nat}{sp:gE}{t:X3->w6}(F:Fun K x qual st f fd)(S:wr N ps (qo st))(len:∀ys L Q E,sp ys L Q E->ys.length=ps.length)
 (hbody:∀(cdv:Value) (A:Around) (outer:List Env) (s:Shared) (H:Hp) (E:XK) (E3:X3),w4 k (A.deeper (PyProof.Rows.envOfC qual (qo st) s.heap.objs.size f cdv))->
  aj (cz (CXE P w) P w K mg base N qual (qo st) f cdv A outer s H E) (upX ⟨K,P,w⟩ E3)->mC (cz (CXE P w) P w K mg base N qual (qo st) f cdv A outer s H E) (jk st) (t E3))
 (vc:∀ys L Q E,sp ys L Q E->t (uD E) { nx:=fun _ L'=>hZ Q .non L',rt:=hZ Q } (eG N ys) L):alj P w K mg base (k+1) f fd ps sp:=by
 obtain⟨oc,od,kV,doc,pm,an,cdv,ct,osl,rfl,lk,hcd⟩:=F.ex;refine aa2 lk hcd S (fun vs H Q E ⟨ys,L,Q3,E3,rv,rl,z,_⟩=>by rw[<-rv.length];exact len ys L Q3 E3 z) fun A outer s H vs Q E hr ⟨ys,L,Q3,E3,rv,rl,z,k,kx⟩=>?_;refine⟨_,hbody cdv A outer s H E (uD E3) hr (ajj kx),eG N ys,L,_,gl rv,rl,vc ys L Q3 E3 z,?_⟩;exact⟨fun σ H' τ L' t' rs' rl' ⟨L2,s2,q2⟩=>k .non H' .non L2 t' (rl'.sub s2) (by rfl) q2,fun v H' y L' t' rl' rv' ⟨L2,s2,q2⟩=>k v H' y L2 t' (rl'.sub s2) rv' q2,fun _ _ _ _ _ _ _ z=>z.elim,fun _ _ _ _ _ _ _ z=>z.elim⟩
def tK:jj->Nat->jj
 |[],_=>[]
 |_::r,0=>none::r
 |o::r,i+1=>o::tK r i
theorem uu:∀(τ:jj) (i:Nat),tK τ i=τ.set i none
 |[],_=>rfl
 |_::_,0=>rfl
 |o::r,i+1=>by rw[tK,uu r i];rfl
theorem v5.clr{σ:L2.St}(h:v5 G H σ τ)(i:Nat):v5 G H (σ.set i none) (tK τ i):=by
 rw[uu];refine⟨by simpa using h.len,fun j y e=>?_⟩;by_cases hj:i=j
 ·subst hj;rw[List.getElem?_set] at e;simp at e
 ·rw[A6 hj] at e ⊢;exact h.get j y e
def Dh3(i:Nat)(D:xa):xa where
 nx:=fun τ L=>D.nx (tK τ i) L
 rt:=D.rt
 bk:=fun τ L=>D.bk (tK τ i) L
 ct:=fun τ L=>D.ct (tK τ i) L
def aml(G:G3)(H:Hp)(E3:X3)(E1:X1):Prop:=∀σ' C H' τ' L',ja H H'->v5 G H' σ' τ'->ji G H' L'->E3 τ' C L'->E1 σ' (.ref C) H'
def ahp(G:G3)(t:X3->w6):X1->L2.TS:=fun E1 D σ H=>∃τ L D3 E3,v5 G H σ τ/\ji G H L/\t E3 D3 τ L/\zJ G H D3 D/\aml G H E3 E1
def QB(X:Cx)(body:List Stmt)(t:X3->w6):Prop:=∀(pn:List (Addr×Obj)) (xe:Value->Shared->Prop) (E1:X1),aj (X.tr pn xe) E1->iM (X.tr pn xe) body (ahp X.g3 t E1)
def ami(K:Af)(Dc:Addr)(i:Nat)(tb:X3->w6)(th:w6)(D:xa)(τ:jj)(L:qm):Prop:=
 tb (fun τ' C L'=>PySem.W.exmOne K (.ref C) (.ref Dc)=some true/\∀a,L' a=none->th (Dh3 i D) (ae τ' i (.ref a)) (qf L' a (.exc C))) D τ L
section
variable {tr:dQ}{cp:Pos}
theorem adp{k:Nat}{sp:gE}(c:iU X.prog X.w X.K X.mg X.base k x ps sp)(hr:w4 k X.A)(hg:Gl X x)(hx:X.ex=[])(ha:∀pn xe,QA (X.tr pn xe) (e::es) tr)(hdb:EW x:=by decide)
 (he:Ez e es X:=by rfl) (hpl:EV cp es X:=by rfl) (hs:swapsWith (.Call (.Name x p) (e::es) [] cp) none pos.line X.env=pure false:=by rfl):
 QB X [.Expr (.Call (.Name x p) (e::es) [] cp) pos] (fun E3=>jd (iK sp E3 tr)):=by
 obtain⟨f,fd,F,b,kp,m⟩:=c.ex;intro pn xe E1 ht;refine iM.imp (wR (vQ (re (X:=X.tr pn xe) F hr hg m kp b ht hx (ha pn xe) hdb he hpl) hs)) fun D σ H ⟨τ,L,D3,E3,rs,rl,z,k,kx⟩=>?_;exact⟨τ,L,_,rs,rl,z,fun vs H1 ys L1 t1 rl1 rv1 z1=>⟨ys,L1,_,E3 τ,rv1,rl1,z1,(fun v H2 y L2 t2 rl2 rv2 z2=>k.nx _ H2 _ L2 (t1.trans t2) (rs.ts (t1.trans t2)) rl2 z2),fun C H' L' t' rl' q=>kx σ C H' τ L' (t1.trans t') (rs.ts (t1.trans t')) rl' q⟩⟩
theorem ahe{Dc:Addr}{n:Str}{hpos:Pos}{suite:List Stmt}{b₀:Stmt}{tb:X3->w6}{th:w6}(hs:X.stack=X.env::X.outer)(hf:X.env.frame=some X.env.locals)(hx:X.ex=[])(hN:X.N.Nodup)(hi:X.N[i]?=some n)
 (hk:X.env.scope.names.lookup n=some .local) (hg:Gl X x) (hm:X.mg x=some (.ref Dc)) (hb:QB X body tb) (hh:∀a,mC (X.hnd a) (b₀::suite) th)
 (hdb:EW x:=by decide):QS X (.Try body [.ExceptHandler (some (.Name x np)) (some n) (b₀::suite) hpos] [] [] pos) (ami X.K Dc i tb th):=
 EH (aij (tb:=ahp X.g3 tb) (th:=upS X.g3 th) hs hf hx hN hi hk hg hm hb hh hdb) fun D σ H ⟨τ,L,D3,rs,rl,z,k⟩=>by
 show ahp X.g3 tb (ae1 X.K Dc i (upS X.g3 th) D) D σ H;refine⟨τ,L,D3,_,rs,rl,z,k,fun σ' C H' τ' L' t' rs' rl' ⟨em,q⟩=>⟨C,rfl,em,fun a oe ha hc=>?_⟩⟩;have ta:ja H' (upd H' a (.frz oe (.own 0))):=EE ha;refine⟨ae τ' i (.ref a),qf L' a (.exc C),Dh3 i D3,by rw[km];exact(rs'.ts ta).set rfl,fun b u e=>?_,q a (rl'.none ha),?_⟩
 ·by_cases c:b=a
  ·subst c;rw[q9] at e;cases e;exact⟨oe,zw,hc⟩
  ·rw[qb c] at e;exact(rl' b u e).keep ta (qp c)
 ·have k2:=k.ts (t'.trans ta);exact⟨fun σ2 H2 τ2 L2 t2 rs2 rl2 z2=>k2.nx _ H2 _ L2 t2 (rs2.clr i) rl2 z2,k2.rt,fun σ2 H2 τ2 L2 t2 rs2 rl2 z2=>k2.bk _ H2 _ L2 t2 (rs2.clr i) rl2 z2,fun σ2 H2 τ2 L2 t2 rs2 rl2 z2=>k2.ct _ H2 _ L2 t2 (rs2.clr i) rl2 z2⟩
end
@[irreducible] def yb (L:qm) (a:Addr) (k:Addr->Prop):Prop:=match L a with
 |some (.exc C)=>k C
 |_=>False
theorem oP{a:Addr}{k:Addr->Prop}(e:L a=some (.exc C))(h:k C):yb L a k:=by unfold yb;rw[e];exact h
theorem sM{a:Addr}{k:Addr->Prop}(h:yb L a k):∃C,L a=some (.exc C)/\k C:=by
 unfold yb at h;split at h
 ·rename_i C e;exact⟨C,e,h⟩
 ·exact h.elim
def t9(K:Af)(u:Value)(te:xn)(τ:jj)(L:qm)(Q:YK):Prop:=te τ L fun x L1=>match x with
 |.ref a=>yb L1 a fun C=>XHd K C/\∃b,PySem.W.kitOne K (.ref C) u=some b/\Q (.bl b) L1
 |_=>False
def vU(K:Af)(us:List Value)(te:xn)(τ:jj)(L:qm)(Q:YK):Prop:=te τ L fun x L1=>match x with
 |.ref a=>yb L1 a fun C=>XHd K C/\∃b,PySem.W.kitAny K (.ref C) us=some b/\Q (.bl b) L1
 |_=>False
def PAC(X:Cx)(es:List Expr)(vs:List V):Prop:=PA X es fun _ H Q=>Q vs H
section
variable {a:Expr}{pt:Pos}{vs:List V}
theorem ack:PAC X [] []:=bL
theorem wy(h:PE X e (tC v))(t:PAC X es vs)(hs:Ez e es X:=by rfl):PAC X (e::es) (v::vs):=PA.imp (vi h t hs) fun _ _ _ q=>q
theorem bK(hg:Gl X x)(hm:X.mg x=some (.ref C))(hd:EW x:=by decide):PE X (.Name x p) (tC (.ref C)):=alw hg hm hd
theorem sN(hg:Gl X "isinstance")(hm:X.mg "isinstance" = none)(ha:QE X a ta)(hc:PE X c (tC v))(hv:yD v=some u)
 (hs:starEach [a,c] X.env=(false,eval a X.env)::starEach [c] X.env:=by rfl) (hs2:starEach [c] X.env=(false,eval c X.env)::starEach [] X.env:=by rfl) (hp:(backTo pos (starEach [c] X.env)).any (·.1)=false:=by rfl):
 QE X (.Call (.Name "isinstance" p) [a,c] [] pos) (t9 X.K u ta):=by
 refine EF (eF kB hg hm aM (vi ha (vi hc bL hs2) hs) (by decide) (by decide) hs hp) ?_;rintro σ H Q ⟨τ,L,Q3,rs,rl,z,k⟩;refine⟨τ,L,_,rs,rl,z,fun w H1 y L1 t1 rl1 rv1 z1=>?_⟩;cases y with
 |ref b=>
  obtain⟨C,e,hd,bb,kk,q⟩:=sM z1;cases rv1;exact⟨b,C,v,rfl,rl1 b _ e,hd,.inl ⟨u,bb,hv,kk,k _ H1 _ L1 t1 rl1 (by rfl) q⟩⟩
 |_=>exact z1.elim
theorem wY(hg:Gl X "isinstance")(hm:X.mg "isinstance" = none)(ha:QE X a ta)(hc:PAC X es vs)(hv:vs.map yD=us.map some)(hl:vs.length≤1000)
 (hs:starEach [a,.Tuple es kt pt] X.env=(false,eval a X.env)::starEach [.Tuple es kt pt] X.env:=by rfl) (hs2:starEach [.Tuple es kt pt] X.env=(false,eval (.Tuple es kt pt) X.env)::starEach [] X.env:=by rfl) (hp:(backTo pos (starEach [.Tuple es kt pt] X.env)).any (·.1)=false:=by rfl):
 QE X (.Call (.Name "isinstance" p) [a,.Tuple es kt pt] [] pos) (vU X.K us ta):=by
 refine EF (eF kB hg hm aM (vi ha (vi (ug hc) bL hs2) hs) (by decide) (by decide) hs hp) ?_;rintro σ H Q ⟨τ,L,Q3,rs,rl,z,k⟩;refine⟨τ,L,_,rs,rl,z,fun w H1 y L1 t1 rl1 rv1 z1=>⟨cJ hl,fun q hq=>?_⟩⟩;cases y with
 |ref b=>
  obtain⟨C,e,hd,bb,kk,z2⟩:=sM z1;cases rv1;have tq:ja H1 (upd H1 q (.tup vs)):=EE hq;obtain⟨oe,ho,hc'⟩:=(rl1 b _ e:abr X.K H1 b C);refine⟨b,C,.ref q,rfl,⟨oe,tq _ _ rfl ho,hc'⟩,hd,.inr ⟨q,vs,us,bb,rfl,.inl (.inl zw),hv,kk,k _ _ _ L1 (t1.trans tq) (rl1.skip hq) (by rfl) z2⟩⟩
 |_=>exact z1.elim
end
def noX:X3:=fun _ _ _=>False
theorem aa8 :aj X (upX X.g3 noX):=fun _ _ _ _ _ _ _ _ _ _ _ ⟨_,_,_,_,_,_,z⟩=>z.elim
theorem ln:bootBuiltins "ValueError" = some (.type "ValueError"):=by decide +kernel
open PySem L2 PySem.W
theorem uU{K:Frag}(q:excIn K C [.type "ValueError",.type "Exception",.type "BaseException",.type "object"] "ValueError.__new__" = true):aau K C:=af6 q DL (by decide +kernel) DL
section
variable {K:Frag}{D:Addr}{t c:Value}{b:Bool}
theorem kit_own{cd:ClassData}(ne:(Value.ref C==Value.ref D)=false)(h1:clsIn K D=some cd)(h2:typeIn K (.ref D)=some (.type "type"))(h3:subIn K (.ref C) (.ref D)=some b):kitOne K (.ref C) (.ref D)=some b:=by unfold kitOne;rw[As (by rw[ne];exact Ax)];unfold kitCls;simp only[h1,h2,DJ,beq_self_eq_true,Bool.and_self,if_true];exact h3
theorem kit_blt{T:String}(hm:kitMeta T=true)(h3:subIn K (.ref C) (.type T)=some b):kitOne K (.ref C) (.type T)=some b:=by unfold kitOne;rw[As (by intro q;cases beq_iff_eq.mp q)];unfold kitCls;simp only[hm,if_true];exact h3
theorem kitAny_no{r:List Value}(h:kitOne K t c=some false)(k:kitAny K t r=some b):kitAny K t (c::r)=some b:=by unfold kitAny;rw[h];exact k
theorem exm_own{cd:ClassData}(h0:subIn K (.ref D) (.type "BaseException")=some true)(h1:clsIn K D=some cd)(h2:typeIn K (.ref D)=some (.type "type"))(h3:subIn K (.ref C) (.ref D)=some b):exmOne K (.ref C) (.ref D)=some b:=by unfold exmOne;rw[AA (by rw[h0];rfl)];unfold kitCls;simp only[h1,h2,DJ,beq_self_eq_true,Bool.and_self,if_true];exact h3
theorem xhd_of{cd:ClassData}(ga:findIn K (.ref C) "__getattribute__" = some (some (.builtin "BaseException.__getattribute__")))(gt:findIn K (.ref C) "__getattr__" = some none)(cl:findIn K (.ref C) "__class__" = some (some (.builtin "object.__class__")))
 (ge:specialIn K (.builtin "object.__class__") "__get__" = some (some (.builtin "getset_descriptor.__get__"))) (tk:takesIn K (.builtin "object.__class__")=some true) (mo:mroIn K C (.type "object")=some true) (be:subIn K (.ref C) (.type "BaseException")=some true) (h:clsIn K C=some cd):XHd K C:=
 ⟨⟨ga,gt,cl,ge,tk,mo,be⟩,by rw[h];rfl⟩
end
end L3
namespace L2
open PySem PySem.Spec PyProof.Rows
section
variable {a b:Expr}{ta tb:TE}{op op':CmpOp}{ops:List CmpOp}{r:R2}{u:V->TE} 
end
end L2
namespace L3
open PySem L2
section
variable {a b:Expr}{op op':CmpOp}{ops:List CmpOp}{r:uE}{u:Y->xn} 
end
end L3
namespace L2
open PySem PySem.Spec PyProof.Rows
theorem vX:∀{bs:List Bool} {us:List Value},zn (bs.map V.bl) us->us=bs.map Value.bool
 |[],_,.nil=>rfl
 |b::bs,_,.cons r t=>by cases (show _=Value.bool b from r);rw[vX t];rfl
section
theorem aao(hc:X.calm=true:=by rfl):jw X (.builtin "all") (fun xs H Q=>∃(a:Addr) (bs:List Bool),xs=[.ref a]/\aB X.K H a (bs.map V.bl)/\Q (.bl (bs.all id)) H):=by
 intro pins s σ H xs us Q I r h;obtain⟨a,bs,rfl,sq,q⟩:=h;obtain⟨u,rfl,ru⟩:=qS r;cases ru;obtain⟨its,rv,pl,_⟩:=I.list sq;cases vX rv;have hl:=je pl;have hlt:a<s.heap.objs.size:=by obtain⟨_,e,_⟩:=hl;exact Heap.lt_size e
 refine jp I.tk (call_all_walk (wpAny_pyIter_list hl ?_));refine⟨s.heap.objs.size,[s.heap.objs.size,a],[s.heap.objs.size],(bs.map Value.bool).toArray.size,_,_,fun i=>(bs[i]?).getD true,rfl,Walks.list (A:=X.A.in1) (I.ok.hd hc) _ a (A2 hlt) (bs.map Value.bool).toArray,
  ⟨⟨_,Heap.get?_push_size _ rfl,rfl,rfl⟩,hl.push _⟩,fun i v s' Q' E' hP hQ=>?_,fun h' tk hk ht=>?_⟩
 ·have hP:(bs.map Value.bool).toArray[i]?=some v:=hP;rw[List.getElem?_toArray,Ar] at hP;obtain⟨b,e,rfl⟩:=Ay.mp hP;have hQ:Q' ((bs[i]?).getD true) s':=hQ;rw[e] at hQ;exact wpAny_truthy_bool hQ
 ·have e:((List.range (bs.map Value.bool).toArray.size).all fun i=>(bs[i]?).getD true)=bs.all id:=by rw[Ao,Ae];exact PyProof.Rows.LSm.range_all bs
  rw[e];exact⟨.bl _,H,I.kept (h':=h') (t':=tk) (PyProof.Rows.LSm.kept_iter hk),rfl,q⟩
end
end L2
namespace L3
open PySem L2
def yP:List Y->Option (List Bool)
 |[]=>some []
 |.bl b::r=>(yP r).map (b::·)
 |_::_=>none
theorem aaz(bs:List Bool):yP (bs.map Y.bl)=some bs:=by induction bs with|nil=>rfl|cons b r ih=>show(yP (r.map Y.bl)).map (b::·)=_;rw[ih];rfl
theorem sG{G:G3}{H:Hp}:∀{ys:List Y} {xs:List V} {bs:List Bool},yP ys=some bs->xm G H ys xs->xs=bs.map V.bl
 |[],_,_,h,r=>by cases h;exact r
 |y::ys,_,bs,h,⟨x,xs',e,r1,r2⟩=>by
  cases y with
  |bl b=>
   have h':(yP ys).map (b::·)=some bs:=h;obtain⟨cs,e1,rfl⟩:=Ay.mp h';cases (show x=V.bl b from r1);rw[e,sG e1 r2];rfl
  |_=>cases h
def ahh(xs:List Y)(L:qm)(Q:YK):Prop:=match xs with
 |[y]=>abk y=true/\iE L y fun ys=>wJ L (fun bs L=>Q (.bl (List.all bs id)) L) (yP ys)
 |_=>False
theorem alr(hc:X.calm=true:=by rfl):jw X (.builtin "all") (upL X.g3 ahh):=ET (aao hc) fun xs H Q ⟨ys,L,Q3,rv,rl,z,k⟩=>by
 unfold ahh at z;split at z
 ·rename_i y;obtain⟨x,rfl,r⟩:=rv.inv1;obtain⟨hy,z⟩:=z;obtain⟨zs,es,z⟩:=wz z;obtain⟨bs,eb,z⟩:=jL z;obtain⟨a,us,rfl,sq,rr⟩:=mR rl r hy es;cases sG eb rr;exact⟨a,bs,rfl,sq,k _ H _ L (ED _) rl (by rfl) z⟩
 ·exact z.elim
theorem ah2:bootBuiltins "all" = some (.builtin "all"):=by decide +kernel
def ak5:Y->Option jo
 |.int i=>some (.inl i)
 |.str x=>some (.inr x)
 |_=>none
theorem se{k:jo}(h:ak5 y=some k)(r:RV G H y v):v=kV k:=by cases y with|int i=>cases h;exact r|str x=>cases h;exact r|_=>cases h
def mE(kvs:List (jo×Y))(k:jo)(y:Y):List (jo×Y):=
 if (kvs.any fun kv=>decide (kv.1=k))=true then kvs.map (fun kv=>if kv.1=k then(kv.1,y) else kv) else kvs++[(k,y)]
theorem ja.dct{p:Addr}{zs:List (jo×V)}{o:HO}(h:H p=some (.dK zs)):ja H (upd H p o):=fun a u i q=>by rw[qp ?_];exact q;rintro rfl;rw[h] at q;cases q;cases i
theorem zI{kvs:List (jo×Y)}{xs:List (jo×V)}(p:Paired (fun(p:jo×Y) (q:jo×V)=>p.1=q.1/\RV G H p.2 q.2) kvs xs)(k:jo):(kvs.any fun kv=>decide (kv.1=k))=xs.any fun kv=>decide (kv.1=k):=by induction p with|nil=>rfl|cons r t ih=>rw[Cq,Cq,ih,r.1]
theorem aar{kvs:List (jo×Y)}{xs:List (jo×V)}(p:Paired (fun(p:jo×Y) (q:jo×V)=>p.1=q.1/\RV G H p.2 q.2) kvs xs)(k:jo)(r:RV G H y v):
 Paired (fun(p:jo×Y) (q:jo×V)=>p.1=q.1/\RV G H p.2 q.2) (kvs.map fun kv=>if kv.1=k then(kv.1,y) else kv) (xs.map fun kv=>if kv.1=k then(kv.1,v) else kv):=by
 induction p with
 |nil=>exact .nil
 |@cons a b _ _ r' t ih=>
  refine .cons ?_ ih;obtain⟨e,q⟩:=r';dsimp only;by_cases c:a.1=k
  ·rw[AA c,AA (e▸c)];exact⟨e,r⟩
  ·rw[As c,As (fun z=>c (e.trans z))];exact⟨e,q⟩
theorem wU{kvs:List (jo×Y)}{xs:List (jo×V)}(p:Paired (fun(p:jo×Y) (q:jo×V)=>p.1=q.1/\RV G H p.2 q.2) kvs xs)(k:jo)(r:RV G H y v):
 Paired (fun(p:jo×Y) (q:jo×V)=>p.1=q.1/\RV G H p.2 q.2) (kvs++[(k,y)]) (xs++[(k,v)]):=by
 induction p with|nil=>exact .cons ⟨rfl,r⟩ .nil|cons r' t ih=>exact .cons r' ih
theorem ac7{kvs:List (jo×Y)}{xs:List (jo×V)}(p:Paired (fun(p:jo×Y) (q:jo×V)=>p.1=q.1/\RV G H p.2 q.2) kvs xs)(k:jo)(r:RV G H y v):
 Paired (fun(p:jo×Y) (q:jo×V)=>p.1=q.1/\RV G H p.2 q.2) (mE kvs k y) (dS xs k v):=by
 unfold mE dS;rw[zI p k];by_cases c:(xs.any fun kv=>decide (kv.1=k))=true
 ·rw[AA c,AA c];exact aar p k r
 ·rw[As c,As c];exact wU p k r
theorem aan{R:α->β->Prop}{l:List α}{m:List β}(p:Paired R l m):l.length=m.length:=by induction p with|nil=>rfl|cons _ _ ih=>rw[AF,AF,ih]
def ace(_:jj)(L:qm)(Q:YK):Prop:=∀p,L p=none->Q (.ref p) (qf L p (.dct []))
def fJ(td ti:xn)(τ:jj)(L:qm)(Q:YK):Prop:=td τ L fun x L1=>ti τ L1 fun y L2=>match x,ak5 y with
 |.ref a,some k=>tN L2 a fun kvs=>wJ L2 Q (aF kvs k)
 |_,_=>False
def aah(td ti tv:xn)(D:xa)(τ:jj)(L:qm):Prop:=tv τ L fun v L1=>td τ L1 fun x L2=>ti τ L2 fun y L3=>match x,ak5 y with
 |.ref a,some k=>tN L3 a fun kvs=>kvs.length<sizeLine/\D.nx τ (qf L3 a (.dct (mE kvs k v)))
 |_,_=>False
section
variable {i:Expr}{td ti tv:xn} 
theorem vJ:QE X (.Dict [] [] pos) ace:=EF aaf fun σ H Q ⟨τ,L,Q3,rs,rl,z,k⟩=>fun p hp=>by
 refine k _ _ _ (qf L p (.dct [])) (EE hp) (fun a u e=>?_) (by rfl) (z p (rl.none hp));by_cases c:a=p
 ·subst c;rw[q9] at e;cases e;exact⟨[],zw,.nil⟩
 ·rw[qb c] at e;exact(rl a u e).keep (EE hp) (qp c)
theorem a7(hu:X.A.units+128<cLine)(ho:QE X o td)(hi:QE X i ti)(hs:aj2 i):QE X (.Subscript o i pos) (fJ td ti):=EF (ad7 (by omega) ho hi hs) fun σ H Q ⟨τ,L,Q3,rs,rl,z,k⟩=>
 ⟨τ,L,_,rs,rl,z,fun v H1 x L1 t1 rl1 rv1 z1=>⟨τ,L1,_,rs.ts t1,rl1,z1,fun w H2 y L2 t2 rl2 rv2 z2=>by
  split at z2
  ·rename_i a kk ek;obtain⟨kvs,e,z3⟩:=lH z2;obtain⟨yv,ev,q⟩:=jL z3;obtain⟨xs,e2,pr⟩:=rl2 a _ e;obtain⟨xv,ex,rx⟩:=nU pr ev;exact⟨a,xv,rv1,.inl ⟨xs,kk,.inl e2,se ek rv2,ex.symm⟩,k _ H2 _ L2 (t1.trans t2) rl2 rx q⟩
  ·exact z2.elim⟩⟩
theorem wF(hu:X.A.units+128<cLine)(ho:QE X o td)(hi:QE X i ti)(hv:QE X value tv)(hs:swapsWith value (some (.Subscript o i pos')) pos.line X.env=pure false:=by rfl):QS X (.Assign [.Subscript o i pos'] value pos) (aah td ti tv):=
 EH (ae8 (by omega) ho hi hv hs) fun D σ H ⟨τ,L,D3,rs,rl,z,k⟩=>
 ⟨τ,L,_,rs,rl,z,fun v H1 vy L1 t1 rl1 rv1 z1=>⟨τ,L1,_,rs.ts t1,rl1,z1,fun x H2 xy L2 t2 rl2 rv2 z2=>⟨τ,L2,_,rs.ts (t1.trans t2),rl2,z2,fun w H3 y L3 t3 rl3 rv3 z3=>by
  split at z3
  ·rename_i a kk ek;obtain⟨kvs,e,hl,q⟩:=lH z3;obtain⟨xs,e2,pr⟩:=rl3 a _ e;have tt:ja H3 (upd H3 a (.dK (dS xs kk v))):=ja.dct e2;cases (show x=V.ref a from rv2);refine⟨a,_,rfl,.inl ⟨xs,kk,e2,se ek rv3,by rw[<-aan pr];exact hl,rfl⟩,?_⟩;refine k.nx _ _ _ _ (((t1.trans t2).trans t3).trans tt) (rs.ts (((t1.trans t2).trans t3).trans tt)) (fun b u eb=>?_) q;by_cases c:b=a
   ·subst c;rw[q9] at eb;cases eb;exact⟨_,zw,EI (ac7 pr kk (rv1.ts (t2.trans t3))) fun _ _ ⟨h1,h2⟩=>⟨h1,h2.ts tt⟩⟩
   ·rw[qb c] at eb;exact(rl3 b u eb).keep tt (qp c)
  ·exact z3.elim⟩⟩⟩
end
def afy(to ti tv:xn)(D:xa)(τ:jj)(L:qm):Prop:=tv τ L fun v L1=>to τ L1 fun x L2=>ti τ L2 fun y L3=>match x,y with
 |.ref a,.int i=>dU L3 a fun ys=>wJ L3 (fun j L=>D.nx τ (qf L a (.lst (ys.set j v)))) (ixN ys.length i)
 |_,_=>False
section
variable {i:Expr}{ti tv:xn} 
theorem afj(ho:QE X o to)(hi:QE X i ti)(hv:QE X value tv)
 (ha:∀v,assign (.Subscript o i pos') X.env v=(do
  let ov <-holding [v] (eval o X.env)
  let iv <-holding [v,ov] (eval i X.env)
  standAt pos'
  holding [v,ov,iv] (setItem ov iv v)
  release [v,ov,iv] []):=by intro _;rfl)
 (h1:swapsWithSole [.Subscript o i pos'] value pos.line X.env=pure false:=by rfl) (h2:swappedStores [.Subscript o i pos'] value X.env=pure none:=by rfl)
 (h3:(assignEach [.Subscript o i pos'] X.env).map (·.2)=[assign (.Subscript o i pos') X.env]:=by rfl):QS X (.Assign [.Subscript o i pos'] value pos) (afy to ti tv):=
 EH (ab1 hv (aif ho hi aci ha) h1 h2 h3) fun D σ H ⟨τ,L,D3,rs,rl,z,k⟩=>
 ⟨τ,L,_,rs,rl,z,fun v H1 vy L1 t1 rl1 rv1 z1=>⟨τ,L1,_,rs.ts t1,rl1,z1,fun x H2 xy L2 t2 rl2 rv2 z2=>⟨τ,L2,_,rs.ts (t1.trans t2),rl2,z2,fun w H3 y L3 t3 rl3 rv3 z3=>by
  split at z3
  ·rename_i a ii;obtain⟨ys,e,z4⟩:=xx z3;obtain⟨j,ej,q⟩:=jL z4;obtain⟨xs,e2,r⟩:=rl3 a _ e;cases (show x=V.ref a from rv2);cases (show w=V.int ii from rv3);have tt:ja H3 (upd H3 a (.lst (xs.set j v))):=EN e2;exact⟨a,xs,ii,j,rfl,rfl,e2,by rw[<-r.length];exact ej,k.nx _ _ _ _ (((t1.trans t2).trans t3).trans tt) (rs.ts (((t1.trans t2).trans t3).trans tt)) (rl3.setL e2 (xm.setY (rv1.ts (t2.trans t3)) j r)) q⟩
  ·exact z3.elim⟩⟩⟩
end
end L3
namespace L2
open PySem PySem.Spec PyProof.Rows
section
variable {v₁ v₂:Expr}{te:TE}{u:Str->TE} 
end
end L2
namespace L3
open PySem L2
section
variable {v₁ v₂:Expr}{u:Str->xn} 
end
section
variable {tv:xn}{tr:dQ}{f m:Str}{g:Addr}
end
open PySem.AutoSeq1 (wpAny_loadPart')
open MeetsSeq MeetsSeq2 MeetsSeq3 SeqRoads2
end L3
namespace L2
open PySem PySem.Spec PyProof.Rows
end L2
namespace Txs
open PySem PySem.Builtin.Str
theorem len_list(x:Str):x.cps.toList.length=x.length:=by simp[Str.length]
end Txs
namespace L2
open PySem PySem.Spec PyProof.Rows
section
variable {isp imk c j1 j2:Nat}{sp mk:Str}{u:Tok}{m:Str->Option Value}{p6 p7 p8 p9 p10:Pos}{Q:Flow->Shared->Prop}
end
end L2
namespace L3
open PySem L2
end L3
namespace L2
open PySem PySem.Spec PyProof.Rows
section
end
end L2
namespace L3
open PySem L2
def acq(s:Stmt):List Stmt:=match s with
 |.ClassDef _ _ _ b _ _ _ _ _ _ _=>b
 |_=>[]
section
variable {tr:dQ}{m:Str}{k:Nat}{sp:xw}
end
end L3
namespace L2
open PySem PySem.Spec PyProof.Rows
end L2
namespace L3
open PySem L2
end L3
namespace L2
open PySem PySem.Spec PyProof.Rows
section
variable {te:TE} 
end
end L2
namespace L3
open PySem L2
section
end
end L3
namespace L2
open PySem PySem.Spec PyProof.Rows
end L2
namespace L3
open PySem L2 PySem.Spec PyProof.Rows
end L3
namespace L2
open PySem PySem.Spec PyProof.Rows
section
variable {a T:Addr}{tr:Option Addr}
end
section
variable {T:List Str}{iter:Expr}{g:TG}{tc:TT}{te:TE}
end
section
variable {a b T:Addr}{tr:Option Addr}{E1:X1}
end
section
variable {k:Nat}{E1:X1}{t:TA}
end
end L2
namespace L3
open PySem L2
section
variable {T:List Str}{iter:Expr}{wi:TI3}{tr:dQ}{E3:X3}{Ea:Addr->qm->Prop}
end
end L3
namespace L2
open PySem PySem.Spec PyProof.Rows
section
end
end L2
namespace L3
open PySem L2
end L3
namespace L2
open PySem PySem.Spec PyProof.Rows
section
variable {w:World} 
theorem sW{it t:Addr}{its:Array Value}(hne:t≠it):∀(n i:Nat) (s:Shared) (Q:List Value->Shared->Prop),s.heap.IsListIter it t i->s.heap.IsList t its->i+n≤its.size->
 (∀h',h'.IsListIter it t (i+n)->Heap.SameBut it s.heap h'->Q ((its.toList.drop i).take n) { s with heap:=h' })->wpAny (model prog w) A (draw (.ref it) n) Q E s
 |0,i,s,Q,hit,_,_,hQ=>by unfold draw;exact Ai (by simpa using hQ s.heap hit (Heap.SameBut.refl ..))
 |n+1,i,s,Q,hit,ht,hle,hQ=>by
  have hlt:i<its.size:=by omega
  unfold draw;refine Aa (wpAny_pyNext_list_item hit ht (x:=its[i]) (by simp[hlt]) fun g1 it1 sb1=>?_);refine Aa (Ba (sW hne n (i+1) _ _ it1 (ht.extBut sb1.extBut hne) (by lia) fun g2 it2 sb2=>Ai ?_));have e:its.toList.drop i=its[i]::its.toList.drop (i+1):=by simp[BU,hlt]
  have q:=hQ g2 (by rw[show i+(n+1)=i+1+n by simp +arith only];exact it2)
   (sb1.trans sb2)
  rw[e,List.take_succ_cons] at q;exact q
theorem af5{t:Addr}{its:Array Value}{Q:Unit->Shared->Prop}(hh:A.handled=none)(ht:s.heap.IsList t its)(hn:(assignEach elts env).length=its.size)(hst:(assignEach elts env).findIdx? (·.1)=none)
 (h:∀g,Heap.ExtBut s.heap.objs.size s.heap g->wpAny (model prog w) A (assignInOrder ((assignEach elts env).map (·.2)) its.toList) Q E { s with heap:=g }):wpAny (model prog w) A (assign (.Tuple elts x1 pos) env (.ref t)) Q E s:=by
 have hlt:t≠s.heap.objs.size:=by obtain⟨o,ho,_⟩:=ht;exact A2 (Heap.lt_size ho)
 rw[arm_assign_Tuple];refine Aa (wpAny_standAt ?_);unfold unpack;rw[hn,hst];refine Aa (Ba ?_);unfold unpackItems notIterableAtAll;refine Aa (Aa (wpAny_specialOf ht.typeIs slot_list_iter.lookup ?_));refine Ai ?_;rw[As (by simp)];refine Aa (Ba (wpAny_pyIter_list ht ?_));refine Aa (Ba (sW hlt its.size 0 _ _ ⟨_,Heap.get?_push_size _ rfl,rfl,rfl⟩ (ht.push _) (by simp +arith only) fun g1 it1 sb1=>?_));have all:List.take its.size (List.drop 0 its.toList)=its.toList:=by rw[DK];exact A3 (by simp)
 rw[all,As (by simp)];have ht1:g1.IsList t its:=(ht.push _).extBut sb1.extBut hlt;refine Aa (Ba (wpAny_pyNext_list_end hh it1 ht1 (by simp) fun g2 eb2=>?_));rw[As (by simp)];exact Ai (h g2 fun b o hb e=>eb2 b o hb (sb1.extBut b o hb (Heap.get?_push_of_some _ e)))
end
section
def aq6(K:Af)(n:Nat)(t:TGs):TG:=fun v σ H Q=>∃a xs,v=.ref a/\aB K H a xs/\xs.length=n/\t xs σ H Q
theorem ai6{k:Nat}{t:TGs}(hc:X.calm=true)(h:zK X es t)
 (hn:(assignEach es X.env).length=n:=by rfl) (hst:(assignEach es X.env).findIdx? (·.1)=none:=by rfl):PG X (.Tuple es k pos) (aq6 X.K n t):=by
 intro pins s σ H v u Q I r hw;obtain⟨a,xs,e1,hq,hl,hw⟩:=hw;subst e1;cases r;obtain⟨its,rv,pl,hz⟩:=I.list hq;have ht:=je pl;refine af5 (I.ok.hd hc) ht (by simp[hn,<-hl,rv.length]) hst fun h' hx=>?_;have I1:qt X pins σ H { s with heap:=h' }:=I.kept (t':=s.toks) fun b o e=>hx b o (A2 (Heap.lt_size e)) e;exact h pins _ σ H xs _ Q I1 (by simpa using rv) hw
end
section
theorem adn(l:Addr)(its:Array Value)(n:Nat)(x:Value)(b:Nat->Bool)(j:Nat)(hj:j<its.size)(hit:b j=true)(hz:its.size≤sizeLine):∀(k i:Nat),j - i=k->i≤j->(∀m,i≤m->m<j->b m=false)->
 Meets (Builtin.«list.remove.loop» ⟨[.ref l,x,rawInt i],[]⟩) (fun A R s=>s.heap.get? l=some { cls:=.type "list",dict:=none,data:=.seq its n,slots:=#[] }/\(∀m (hm:m<its.size),SeqAt.EqAt A.in1 s its[m] x (b m))/\R (.ok (.ret .none)) { s with heap:=s.heap.update l (Obj.mapSeq fun xs=>xs.eraseIdxIfInBounds j) }):=by
 intro k
 induction k with
 |zero=>
  intro i hk hij hno prog w A R s h;obtain⟨hp,g,d,tk,os⟩:=s;obtain⟨hl,eq,h⟩:=h;have e:i=j:=by lia
  subst e
  (wp_walk using wpAny_loadPart' hl)
  have hi:its[((i:Nat):Int).toNat]?=some its[i]:=by simp[hj]
  rw[hi];refine Aa (eq i hj prog w _ _ ?_);rw[hit];have hz':(its.eraseIdxIfInBounds i).size≤sizeLine+1:=AU (MeetsSeq.size_erased its _) (Dp hz)
  (wp_walk using (wpAny_updateSeq hl rfl (hz:=hz) (_hz':=hz')),wpAny_loadPart' hl)
  simpa using h
 |succ k ih=>
  intro i hk hij hno prog w A R s h;obtain⟨hp,g,d,tk,os⟩:=s;obtain⟨hl,eq,h⟩:=h;have hlt:i<its.size:=by exact iH
  (wp_walk using wpAny_loadPart' hl)
  have hi:its[((i:Nat):Int).toNat]?=some its[i]:=by simp[hlt]
  have hc:((i:Int)+1)=((i+1:Nat):Int):=by rfl
  rw[hi];refine Aa (eq i hlt prog w _ _ ?_);rw[hno i (Am _) (by omega)]
  wp_walk
  rw[hc];refine⟨plainId_quiet MeetsSeq.plain_remove_loop _,codeAny_builtin MeetsSeq.entry_remove_loop ?_⟩;rw[Around.under_plainId MeetsSeq.plain_remove_loop _];exact ih (i+1) (by omega) (by omega) (fun m h1 h2=>hno m (by exact fc) h2) prog w A R _ ⟨hl,eq,h⟩
theorem abp(l:Addr)(its:Array Value)(n:Nat)(x:Value)(b:Nat->Bool)(j:Nat)(hj:j<its.size)(hit:b j=true)(hz:its.size≤sizeLine)(hno:∀m,m<j->b m=false):
 Meets (Builtin.«list.remove» ⟨[.ref l,x],[]⟩) (fun A R s=>s.heap.get? l=some { cls:=.type "list",dict:=none,data:=.seq its n,slots:=#[] }/\(∀m (hm:m<its.size),SeqAt.EqAt A.in1 s its[m] x (b m))/\R (.ok (.ret .none)) { s with heap:=s.heap.update l (Obj.mapSeq fun xs=>xs.eraseIdxIfInBounds j) }):=by
 intro prog w A R s h;obtain⟨hp,g,d,tk,os⟩:=s;obtain⟨hl,eq,h⟩:=h
 (wp_walk using wpAny_loadPart' hl)
 refine⟨plainId_quiet MeetsSeq.plain_remove_loop _,codeAny_builtin MeetsSeq.entry_remove_loop ?_⟩;rw[Around.under_plainId MeetsSeq.plain_remove_loop _];exact adn l its n x b j hj hit hz _ 0 rfl (Bk _) (fun m _ h2=>hno m h2) prog w A R _ ⟨hl,eq,h⟩
end
theorem zn.eraseN:∀{xs:List V} {us:List Value} (n:Nat),zn xs us->zn (xs.eraseIdx n) (us.eraseIdx n)
 |[],_,n,.nil=>by simp;exact .nil
 |_::_,_,0,.cons _ t=>t
 |_::_,_,n+1,.cons r t=>.cons r (zn.eraseN n t)
section
def aeq(X:Cx):V->List V->Hp->VK->Prop:=fun x vs H Q=>∃l xs y ds e,∃n m j:Nat,x=.ref l/\vs=[y]/\H l=some (.lst xs)/\n≤126/\Paired (vo X.K H n) xs ds/\vo X.K H m y e/\j<ds.length/\(∃d,ds[j]?=some d/\Da.eq d e=true)/\
 (∀(k:Nat) d,k<j->ds[k]?=some d->Da.eq d e=false)/\Q .non (upd H l (.lst (xs.eraseIdx j)))
theorem ye(hu:X.A.units+128<cLine):kQ X "list.remove" (aeq X):=by
 intro pins s σ H x vs v us Q I rx rv h;obtain⟨l,xs,y,ds,e,n,m,j,rfl,rfl,hH,hn,pd,ry,hj,⟨dj,edj,hdj⟩,hno,q⟩:=h;cases rx;obtain⟨u,rfl,ru⟩:=rv.one;obtain⟨z,its,nn,r,hl,eo⟩:=I.lstM hH;have l1:xs.length=ds.length:=pd.length;have l2:its.length=xs.length:=r.length.symm;obtain⟨arr,harr⟩:∃arr:Array Value,arr=its.toArray:=⟨_,rfl⟩;have hsz:arr.size=its.length:=by rw[harr,Ao]
 have b:Nat->Bool:=fun _=>true;have hzz:arr.size≤sizeLine:=by rw[hsz];lia
 have M:=abp l arr nn u (fun k=>((ds[k]?).map fun d=>Da.eq d e).getD false) j (by lia) (by show((ds[j]?).map fun d=>Da.eq d e).getD false=true;rw[edj];exact hdj) hzz (fun k hk=>by show((ds[k]?).map fun d=>Da.eq d e).getD false=false;cases ek:ds[k]? with|none=>rfl|some d=>exact hno k d hk ek)
 rw[harr] at M;refine call_meets F.slot_list_remove ⟨_,eo,rfl⟩ F.entry_list_remove (F.args_list_remove_2 _ _) M ⟨eo,fun k hk=>?_,?_⟩
 ·have hk':k<its.length:=by rw[Ao] at hk;exact hk
  obtain⟨d,ed,rd⟩:=Words.Paired.getP pd (Al (by lia:k<xs.length));show SeqAt.EqAt _ s _ u (((ds[k]?).map fun d=>Da.eq d e).getD false);rw[ed];obtain⟨u',eu',ru'⟩:=Words.Paired.getP r (Al (by lia:k<xs.length));have eg:its.toArray[k]=u':=by have:=(AW.mp eu').2;simpa using this
  rw[eg];exact lD I n (by show X.A.units+1+n<cLine;lia) rd ry ru' ru
 ·refine⟨.non,_,I.lset (its':=its.eraseIdx j) hH eo ?_ (r.eraseN j) ?_,rfl,q⟩
  ·have:j<its.length:=by lia
   simp[Array.eraseIdxIfInBounds,this]
  ·have:=Dg xs j;exact ait
end
end L2
namespace L3
open PySem L2
def ag3(n:Nat)(t:rT)(y:Y)(τ:jj)(L:qm)(Q:jj->qm->Prop):Prop:=match y with
 |.ref a=>dU L a fun ys=>match ys.length==n with
  |true=>t ys τ L Q
  |false=>False
 |_=>False
theorem ajf{kk:Nat}(hc:X.calm=true)(h:QGs X es gs)(h1:(assignEach es X.env).length=n:=by rfl)(h2:(assignEach es X.env).findIdx? (·.1)=none:=by rfl):QG X (.Tuple es kk pos) (ag3 n gs):=
 PG.imp (ai6 hc h h1 h2) fun v σ H Q ⟨y,τ,L,Q3,rv,rs,rl,z,k⟩=>by
 cases y with
 |ref a=>
  cases (show v=.ref a from rv);obtain⟨ys,e,z'⟩:=xx z;obtain⟨xs,e2,r⟩:=rl a _ e;split at z'
  ·rename_i ee;exact⟨a,xs,rfl,ES e2,by rw[<-r.length];exact beq_iff_eq.mp ee,ys,τ,L,Q3,r,rs,rl,z',k⟩
  ·exact z'.elim
 |_=>exact z.elim
def jK(x:Y)(vs:List Y)(L:qm)(Q:YK):Prop:=match x,vs with
 |.ref a,[v]=>dU L a fun ys=>∃ds e,∃n m j:Nat,n≤126/\Paired (js L n) ys ds/\js L m v e/\j<ds.length/\(∃d,ds[j]?=some d/\Da.eq d e=true)/\(∀(k:Nat) d,k<j->ds[k]?=some d->Da.eq d e=false)/\Q .non (qf L a (.lst (ys.eraseIdx j)))
 |_,_=>False
theorem zL(hu:X.A.units+128<cLine):kQ X "list.remove" (upM X.g3 jK):=kQ.imp (ye hu) fun x xs H Q ⟨y,ys,L,Q3,r1,r2,rl,z,k⟩=>by
 unfold jK at z;split at z
 ·rename_i a v;obtain⟨zs,e,ds,de,n,m,j,hn,pd,dv,hj,hit,hno,z⟩:=xx z;obtain⟨us,e2,r⟩:=rl a _ e;obtain⟨v',rfl,rv⟩:=r2.inv1;have both:∀{ys:List Y} {ds:List Da} {xs:List V},Paired (js L n) ys ds->xm X.g3 H ys xs->Paired (vo X.K H n) xs ds:=by
   intro ys ds xs p
   induction p generalizing xs with
   |nil=>intro q;cases (show xs=[] from q);exact .nil
   |cons h t ih=>
    rintro⟨x,xs',rfl,q1,q2⟩;exact .cons (js.rep rl h q1) (ih q2)
  exact⟨a,us,v',ds,de,n,m,j,r1,rfl,e2,hn,both pd r,js.rep rl dv rv,hj,hit,hno,k _ _ _ _ (EN e2) (rl.setL e2 (r.eraseIdx j)) (by rfl) z⟩
 ·exact z.elim
theorem yj(hu:X.A.units+128<cLine){tr:dQ}(ho:QE X o to)(ha:QA X (e::es) tr)(h4:attributeBase o "remove" X.env (eval o X.env)=eval o X.env:=by rfl)
 (h5:((backTo cpos (starEach (e::es) X.env)).all (fun x=>!x.1)&&(backToKw cpos (keywordEach [] X.env)).all (fun x=>x.1.isSome)&&decide ((e::es).length+([]:List Keyword).length+(if ([]:List Keyword).isEmpty=true then 0 else 1)<30))=true:=by rfl)
 (h6:(apos.endLine==cpos.line)=true:=by rfl) (h7:Ez e es X:=by rfl) (h8:EV cpos es X:=by rfl):
 QE X (.Call (.Attribute o "remove" apos) (e::es) [] cpos) (aG jK to tr):=pH PySem.F.slot_list_remove PySem.F.type_list_remove (zL hu) ho ha h4 h5 h6 h7 h8
end L3
namespace L2
open PySem PySem.Spec PyProof.Rows
section
end
section
end
end L2
namespace L3
open PySem L2
end L3
namespace L2
open PySem PySem.Spec PyProof.Rows
section
def apw:List V->Hp->VK->Prop:=fun xs H Q=>∃n:Int,xs=[.int n]/\∀p,H p=none->Q (.ref p) (upd H p (.rng 0 n))
theorem zQ:jw X (.type "range") apw:=by intro pins s σ H xs us Q I r h;obtain⟨n,rfl,q⟩:=h;obtain⟨u,rfl,ru⟩:=r.one;obtain⟨t,rfl⟩:=(show ∃t,u=Value.int n t from ru);refine call_range_1 ?_;refine⟨.ref s.heap.objs.size,_,I.laid (t':=s.toks+1+1) (o:=.rng 0 n) (fun b ob q=>Heap.get?_push_of_some _ q) (Am _) ?_,rfl,q _ (I.hok.fresh (Am _))⟩;exact⟨s.toks,t,s.toks+1,Heap.get?_push_size _ rfl⟩
theorem tT{acc:Array Value}(h:ItemsOf (fun i v=>∃t,v=.int (0+(i:Int)*1) t) acc n):zn ((List.range n).map fun i:Nat=>V.int (0+(i:Int))) acc.toList:=by
 have len:acc.toList.length=n:=by rw[AM];exact h.1
 have key:∀(l:List Value) (k:Nat),(∀(j:Nat) v,l[j]?=some v->∃t,v=Value.int (0+((k+j:Nat):Int)*1) t)->zn ((List.range' k l.length).map fun i:Nat=>V.int (0+(i:Int))) l:=by
  intro l
  induction l with
  |nil=>intro k _;exact .nil
  |cons v r ih=>
   intro k hk;rw[AF,Ef,AD];obtain⟨t,e⟩:=hk 0 v rfl;refine .cons ?_ (ih (k+1) fun j v' hj=>?_)
   ·exact⟨t,by rw[e];simp⟩
   ·have:=hk (j+1) v' hj;rw[show k+1+j=k+(j+1) by simp +arith only];exact this
 have:=key acc.toList 0 fun j v hj=>by rw[El];exact h.2 j v (by simpa using hj)
 rw[len,<-List.range_eq_range'] at this;exact this
def amh:List V->Hp->VK->Prop:=fun xs H Q=>∃a,∃n:Nat,xs=[.ref a]/\H a=some (.rng 0 n)/\n≤100000/\∀p,H p=none->Q (.ref p) (upd H p (.lst ((List.range n).map fun i:Nat=>V.int (0+(i:Int)))))
theorem xY(hc:X.calm=true):jw X (.type "list") amh:=by
 intro pins s σ H xs us Q I r h;obtain⟨a,n,rfl,ha,hn,q⟩:=h;obtain⟨u,rfl,ru⟩:=r.one;cases (show u=Value.ref a from ru);obtain⟨t,u,v,e⟩:=I.hok a _ ha;have hb:(100000:Nat)≤sizeLine:=by decide
 have rs:Builtin.Range.rangeSize 0 (n:Int) 1=((n:Nat):Int):=by rw[rangeSize_one];split<;>lia
 refine jp I.tk (call_list_range (I.ok.hd hc) (show IsRange s.heap a 0 (n:Int) 1 t u v from e) (small_one (by decide) (by decide) (by exact AX _) (by omega)) rs (AU hn (by decide)) fun h' tk acc c hk hS hacc ht=>?_);refine⟨.ref s.heap.objs.size,_,I.laid (t':=tk) (o:=.lst ((List.range n).map fun i:Nat=>V.int (0+(i:Int)))) hk (Am _) ?_,rfl,q _ (I.hok.fresh (Am _))⟩;refine⟨by rw[Ae,BN];exact ait,acc.toList,c,tT hacc,?_⟩;rw[hS]
def al8:List V->Hp->VK->Prop:=fun xs H Q=>∃b:Bool,xs=[.bl b]/\Q (.int (if b=true then 1 else 0)) H
theorem yJ:jw X (.type "int") al8:=by intro pins s σ H xs us Q I r h;obtain⟨b,rfl,q⟩:=h;obtain⟨u,rfl,ru⟩:=r.one;cases (show u=Value.bool b from ru);exact call_int_bool ⟨.int _,_,I.tok (s.toks+1),⟨_,rfl⟩,q⟩
end
end L2
namespace L3
open PySem L2
theorem ail:bootBuiltins "range" = some (.type "range"):=by decide +kernel
def rL(te:xn)(τ:jj)(L:qm)(Q:YK):Prop:=te τ L fun y L1=>match y with
 |.int n=>(0≤n/\n≤100000)/\∀p,L1 p=none->Q (.ref p) (qf L1 p (.lst (aY 0 n.toNat)))
 |_=>False
theorem acv(n:Nat):xm G H (aY 0 n) ((List.range n).map fun i:Nat=>V.int (0+(i:Int))):=by
 unfold aY;generalize List.range n=l
 induction l with|nil=>rfl|cons k r ih=>exact⟨_,_,rfl,rfl,ih⟩
theorem t7{pos2:Pos}(hc:X.calm=true)(hg:Gl X "list")(hm:X.mg "list" = none)(hg2:Gl X "range")(hm2:X.mg "range" = none)(h:QE X e te)
 (h1:starEach [.Call (.Name "range" p2) [e] [] pos2] X.env=(false,eval (.Call (.Name "range" p2) [e] [] pos2) X.env)::starEach [] X.env:=by rfl) (h2:(backTo pos (starEach [] X.env)).any (·.1)=false:=by rfl)
 (h3:starEach [e] X.env=(false,eval e X.env)::starEach [] X.env:=by rfl) (h4:(backTo pos2 (starEach [] X.env)).any (·.1)=false:=by rfl):
 QE X (.Call (.Name "list" p) [.Call (.Name "range" p2) [e] [] pos2] [] pos) (rL te):=
 EF (iC (xY hc) hg hm a9 (vi (iC zQ hg2 hm2 ail (vi h bL h3) (by decide) (by decide) h3 h4) bL h1) (by decide) (by decide) h1 h2) fun σ H Q ⟨τ,L,Q3,rs,rl,z,k⟩=>
 ⟨τ,L,_,rs,rl,z,fun v H1 y L1 t1 rl1 rv1 z1=>by
  cases y with
  |int n=>
   obtain⟨⟨h0,h5⟩,z1⟩:=z1;cases (show v=V.int n from rv1);obtain⟨m,rfl⟩:∃m:Nat,n=(m:Int):=⟨n.toNat,by lia⟩;refine⟨_,rfl,fun q hq=>⟨q,m,rfl,zw,by lia,fun p hp=>?_⟩⟩;have hp1:H1 p=none:=by
    by_cases c:p=q
    ·subst c;exact hq
    ·rw[qp c] at hp;exact hp
   exact k _ _ _ _ (t1.trans ((EE hq).trans (EE hp))) ((rl1.skip hq).newL hp (acv m)) (by rfl) (z1 p (rl1.none hp1))
  |_=>exact z1.elim⟩
def yr(xs:List Y)(L:qm)(Q:YK):Prop:=match xs with
 |[.bl b]=>Q (.int (if b=true then 1 else 0)) L
 |_=>False
theorem ak6 :jw X (.type "int") (upL X.g3 yr):=ET yJ fun xs H Q ⟨ys,L,Q3,rv,rl,z,k⟩=>by
 unfold yr at z;split at z
 ·rename_i b;obtain⟨u,rfl,ru⟩:=rv.inv1;cases (show u=V.bl b from ru);exact⟨b,rfl,k _ _ _ _ (ED _) rl (by rfl) z⟩
 ·exact z.elim
section
variable {tr:dQ}{m:Str}{g:Addr}
end
end L3
namespace TS
open PySem PyProof.Rows
def aen:Bool->Keyed->Array Keyed->Nat->Nat->Nat->StateT SortSt Sem (Option Nat):=sortPriv% PySem.Builtin.gallop
section
variable {w:World} 
structure yo(prog:Program)(w:World)(A:Around)(s:Shared)(κ:SortKind)(Ok:Keyed->Prop)(f:Keyed->Int):Prop where
 lt:∀x y,Ok x->Ok y->∀{E:Value->Shared->Prop} {Q:Bool->Shared->Prop},Q (decide (f x<f y)) s->wpAny (model prog w) A (keyLt' κ x.1 y.1) Q E s
variable {κ:SortKind}{Ok:Keyed->Prop}{f:Keyed->Int}
theorem w_lt(O:yo prog w A s κ Ok f){st:SortSt}{x y:Keyed}{Q:Option Bool->SortSt->Prop}(hk:kindOf st=κ)(hx:Ok x)(hy:Ok y)(h:Q (some (decide (f x<f y))) st):wpS (model prog w) A E s (lt' x y) Q st:=by rw[lt'_eq];refine Ab (wpS_get ?_);rw[hk];refine Ab (wpS_lift (wpAny_attempt (O.lt x y hx hy ⟨rfl,?_⟩)));exact Ad h
theorem xc{arr:Array Keyed}{x:Keyed}{st:SortSt}{Q:Keyed->SortSt->Prop}(h:arr[i]?=some x)(q:Q x st):wpS (model prog w) A E s (elem' arr i) Q st:=by rw[elem'_eq,h];exact Ad q
def bey(left:Bool)(key:Keyed)(arr:Array Keyed)(i:Nat):StateT SortSt Sem (Option Bool):=elem' arr i >>= fun x=>if left=true then lt' x key else lt' key x >>= fun r=>pure (r.map fun b=>!b)
theorem amp(O:yo prog w A s κ Ok f){left:Bool}{key x:Keyed}{arr:Array Keyed}{st:SortSt}{Q:Option Bool->SortSt->Prop}(hk:kindOf st=κ)(hkey:Ok key)(hx:Ok x)(hi:arr[i]?=some x)
 (q:Q (some (if left=true then decide (f x<f key) else !decide (f key<f x))) st):wpS (model prog w) A E s (bey left key arr i) Q st:=by
 refine Ab (xc hi ?_);cases left with|true=>exact w_lt O hk hx hkey q|false=>exact Ab (w_lt O hk hkey hx (Ad q))
theorem bW(O:yo prog w A s κ Ok f){left:Bool}{key:Keyed}{arr:Array Keyed}{base hint:Nat}{st:SortSt}{Q:Option Nat->SortSt->Prop}(hk:kindOf st=κ)(hkey:Ok key)(hh:hint<n)
 (it:Nat->Keyed) (hit:∀i,i<n->arr[base+i]?=some (it i)/\Ok (it i)) (bd:Nat->Bool) (hbd:∀i,i<n->bd i=if left=true then decide (f (it i)<f key) else !decide (f key<f (it i)))
 (mono:∀i j,i≤j->j<n->bd j=true->bd i=true)
 (q:∀k,k≤n->(∀i,i<k->bd i=true)->(∀i,k≤i->i<n->bd i=false)->Q (some k) st):wpS (model prog w) A E s (aen left key arr base n hint) Q st:=by
 have go:∀i,i<n->∀Q':Option Bool->SortSt->Prop,Q' (some (bd i)) st->wpS (model prog w) A E s (bey left key arr (base+i)) Q' st:=fun i hi Q' h=>amp O hk hkey (hit i hi).2 (hit i hi).1 (by rw[<-hbd i hi];exact h);refine Ab (go hint hh _ ?_);dsimp only;cases hb:bd hint with
 |true=>
  rw[AA rfl];refine Ab (AS (AG (I:=fun x c st'=>st'=st/\∃la ofs,c=(none,la,ofs)/\la<ofs/\la<n - hint/\bd (hint+la)=true/\x+1≤ofs)
   (Q:=fun c st'=>st'=st/\∃la ofs,c=(none,la,ofs)/\la<ofs/\la<n - hint/\bd (hint+la)=true/\(n - hint≤ofs\/bd (hint+ofs)=false)) ?_ ?_ ⟨rfl,0,1,rfl,by exact BL _,by omega,hb,by exact BL _⟩) ?_)
  ·rintro x c st' _ hx ⟨rfl,la,ofs,rfl,h1,h2,h3,h4⟩;dsimp only;by_cases c:ofs≥n - hint
   ·rw[AA c];exact Ad ⟨rfl,la,ofs,rfl,h1,h2,h3,.inl c⟩
   ·rw[As c];refine Ab (go (hint+ofs) (by lia) _ ?_);dsimp only;cases hm:bd (hint+ofs) with
    |true=>
     rw[As (by simp)];exact Ad ⟨rfl,ofs,2*ofs+1,rfl,by simp +arith only,by exact amj,hm,by lia⟩
    |false=>
     rw[AA (by simp)];exact Ad ⟨rfl,la,ofs,rfl,h1,h2,h3,.inr hm⟩
  ·rintro c st' ⟨rfl,la,ofs,rfl,h1,h2,h3,h4⟩;exact⟨rfl,la,ofs,rfl,h1,h2,h3,.inl (by lia)⟩
  ·rintro c st' ⟨rfl,la,ofs,rfl,h1,h2,h3,h4⟩;dsimp only;obtain⟨lo,elo⟩:∃lo,lo=hint+la+1:=⟨_,rfl⟩;obtain⟨hi,ehi⟩:∃hi,hi=hint+min ofs (n - hint):=⟨_,rfl⟩;rw[<-elo,<-ehi];have g1:lo≤hi:=by omega
   have g2:hi≤n:=by lia
   have g3:∀i,i<lo->bd i=true:=fun i hi=>mono i (hint+la) (by lia) (by lia) h3;have g4:∀i,hi≤i->i<n->bd i=false:=fun i h5 h6=>by
    rcases h4 with h4 | h4
    ·omega
    ·cases e:bd i with
     |false=>rfl
     |true=>
      by_cases c:ofs<n - hint
      ·rw[mono (hint+ofs) i (by omega) h6 e] at h4;cases h4
      ·omega
   refine Ab (AS (AG (I:=fun x c sx=>sx=st'/\∃lo hi,c=(none,lo,hi)/\lo≤hi/\hi≤n/\(∀i,i<lo->bd i=true)/\(∀i,hi≤i->i<n->bd i=false)/\hi - lo+x≤n)
    (Q:=fun c sx=>sx=st'/\∃hi,c=(none,hi,hi)/\hi≤n/\(∀i,i<hi->bd i=true)/\(∀i,hi≤i->i<n->bd i=false)) ?_ ?_ ⟨rfl,lo,hi,rfl,g1,g2,g3,g4,by exact al1⟩) ?_)
   ·rintro x c st'' _ hx ⟨rfl,lo,hi,rfl,k1,k2,k3,k4,k5⟩;dsimp only;by_cases c:lo≥hi
    ·rw[AA c];have:lo=hi:=by lia
     subst this;exact Ad ⟨rfl,lo,rfl,k2,k3,k4⟩
    ·rw[As c];refine Ab (go (lo+(hi - lo) / 2) (by lia) _ ?_);dsimp only;cases hm:bd (lo+(hi - lo) / 2) with
     |true=>
      rw[AA rfl];exact Ad ⟨rfl,lo+(hi - lo) / 2+1,hi,rfl,by lia,k2,fun i h5=>mono i _ (by exact amt) (by lia) hm,k4,by lia⟩
     |false=>
      rw[As (by simp)];refine Ad ⟨rfl,lo,lo+(hi - lo) / 2,rfl,by exact AZ _ _,by lia,k3,fun i h5 h6=>?_,by omega⟩;cases e:bd i with|false=>rfl|true=>rw[mono _ i h5 h6 e] at hm;cases hm
   ·rintro c st'' ⟨rfl,lo,hi,rfl,k1,k2,k3,k4,k5⟩;have:lo=hi:=by lia
    subst this;exact⟨rfl,lo,rfl,k2,k3,k4⟩
   ·rintro c st'' ⟨rfl,hi,rfl,k2,k3,k4⟩;exact Ad (q hi k2 k3 k4)
 |false=>
  rw[As (by simp)];refine Ab (AS (AG (I:=fun x c st'=>st'=st/\∃la ofs,c=(none,la,ofs)/\la<ofs/\la<hint+1/\bd (hint - la)=false/\x+1≤ofs)
   (Q:=fun c st'=>st'=st/\∃la ofs,c=(none,la,ofs)/\la<ofs/\la<hint+1/\bd (hint - la)=false/\(hint+1≤ofs\/bd (hint - ofs)=true)) ?_ ?_ ⟨rfl,0,1,rfl,by lia,by exact Dk _,hb,by lia⟩) ?_)
  ·rintro x c st' _ hx ⟨rfl,la,ofs,rfl,h1,h2,h3,h4⟩;dsimp only;by_cases c:ofs≥hint+1
   ·rw[AA c];exact Ad ⟨rfl,la,ofs,rfl,h1,h2,h3,.inl c⟩
   ·rw[As c];refine Ab (go (hint - ofs) (by exact mB) _ ?_);dsimp only;cases hm:bd (hint - ofs) with
    |true=>
     rw[AA rfl];exact Ad ⟨rfl,la,ofs,rfl,h1,h2,h3,.inr hm⟩
    |false=>
     rw[As (by simp)];exact Ad ⟨rfl,ofs,2*ofs+1,rfl,by lia,by exact amj,hm,by lia⟩
  ·rintro c st' ⟨rfl,la,ofs,rfl,h1,h2,h3,h4⟩;exact⟨rfl,la,ofs,rfl,h1,h2,h3,.inl (by exact iw)⟩
  ·rintro c st' ⟨rfl,la,ofs,rfl,h1,h2,h3,h4⟩;dsimp only;obtain⟨lo,elo⟩:∃lo,lo=hint+1 - min ofs (hint+1):=⟨_,rfl⟩;obtain⟨hi,ehi⟩:∃hi,hi=hint - la:=⟨_,rfl⟩;rw[<-elo,<-ehi];have g1:lo≤hi:=by omega
   have g2:hi≤n:=by omega
   have g3:∀i,i<lo->bd i=true:=fun i h5=>by
    rcases h4 with h4 | h4
    ·omega
    ·exact mono i (hint - ofs) (by omega) (by exact mB) h4
   have g4:∀i,hi≤i->i<n->bd i=false:=fun i h5 h6=>by cases e:bd i with|false=>rfl|true=>rw[mono (hint - la) i (by lia) h6 e] at h3;cases h3
   refine Ab (AS (AG (I:=fun x c sx=>sx=st'/\∃lo hi,c=(none,lo,hi)/\lo≤hi/\hi≤n/\(∀i,i<lo->bd i=true)/\(∀i,hi≤i->i<n->bd i=false)/\hi - lo+x≤n)
    (Q:=fun c sx=>sx=st'/\∃hi,c=(none,hi,hi)/\hi≤n/\(∀i,i<hi->bd i=true)/\(∀i,hi≤i->i<n->bd i=false)) ?_ ?_ ⟨rfl,lo,hi,rfl,g1,g2,g3,g4,by exact al1⟩) ?_)
   ·rintro x c st'' _ hx ⟨rfl,lo,hi,rfl,k1,k2,k3,k4,k5⟩;dsimp only;by_cases c:lo≥hi
    ·rw[AA c];have:lo=hi:=by lia
     subst this;exact Ad ⟨rfl,lo,rfl,k2,k3,k4⟩
    ·rw[As c];refine Ab (go (lo+(hi - lo) / 2) (by lia) _ ?_);dsimp only;cases hm:bd (lo+(hi - lo) / 2) with
     |true=>
      rw[AA rfl];exact Ad ⟨rfl,lo+(hi - lo) / 2+1,hi,rfl,by lia,k2,fun i h5=>mono i _ (by lia) (by lia) hm,k4,by lia⟩
     |false=>
      rw[As (by simp)];refine Ad ⟨rfl,lo,lo+(hi - lo) / 2,rfl,by lia,by lia,k3,fun i h5 h6=>?_,by lia⟩;cases e:bd i with|false=>rfl|true=>rw[mono _ i h5 h6 e] at hm;cases hm
   ·rintro c st'' ⟨rfl,lo,hi,rfl,k1,k2,k3,k4,k5⟩;have:lo=hi:=by lia
    subst this;exact⟨rfl,lo,rfl,k2,k3,k4⟩
   ·rintro c st'' ⟨rfl,hi,rfl,k2,k3,k4⟩;exact Ad (q hi k2 k3 k4)
end
def aa6:Array Keyed->Array Keyed->StateT SortSt Sem (Array Keyed):=sortPriv% PySem.Builtin.mergeLo
def ac1:Array Keyed->Array Keyed->StateT SortSt Sem (Array Keyed):=sortPriv% PySem.Builtin.mergeHi
structure MI(f:Keyed->Int)(la lb out ra rb:List Keyed):Prop where
 perm:(out++(ra++rb)).Perm (la++lb)
 so:out.Pairwise fun x y=>f x≤f y
 sa:ra.Pairwise fun x y=>f x≤f y
 sb:rb.Pairwise fun x y=>f x≤f y
 oa:∀x∈out,∀y∈ra,f x≤f y
 ob:∀x∈out,∀y∈rb,f x≤f y
theorem MI.a{f:Keyed->Int}{la lb out seg ra rb:List Keyed}(h:MI f la lb out (seg++ra) rb)(hs:∀x∈seg,∀y∈rb,f x≤f y):MI f la lb (out++seg) ra rb:=by
 have sa:=AO.mp h.sa;refine⟨?_,AO.mpr ⟨h.so,sa.1,fun x hx y hy=>h.oa x hx y (An _ hy)⟩,sa.2.1,h.sb,fun x hx y hy=>?_,fun x hx y hy=>?_⟩
 ·have:=h.perm;rw[Aw] at this ⊢;exact this
 ·rcases Aj.mp hx with hx | hx
  ·exact h.oa x hx y (Ah _ hy)
  ·exact sa.2.2 x hx y hy
 ·rcases Aj.mp hx with hx | hx
  ·exact h.ob x hx y hy
  ·exact hs x hx y hy
theorem MI.b{f:Keyed->Int}{la lb out seg ra rb:List Keyed}(h:MI f la lb out ra (seg++rb))(hs:∀x∈seg,∀y∈ra,f x≤f y):MI f la lb (out++seg) ra rb:=by
 have sb:=AO.mp h.sb;refine⟨?_,AO.mpr ⟨h.so,sb.1,fun x hx y hy=>h.ob x hx y (An _ hy)⟩,h.sa,sb.2.1,fun x hx y hy=>?_,fun x hx y hy=>?_⟩
 ·refine List.Perm.trans ?_ h.perm;rw[Aw];exact(Br out).mpr (by rw[<-Aw,<-Aw];exact(Be rb).mpr Bb)
 ·rcases Aj.mp hx with hx | hx
  ·exact h.oa x hx y hy
  ·exact hs x hx y hy
 ·rcases Aj.mp hx with hx | hx
  ·exact h.ob x hx y (Ah _ hy)
  ·exact sb.2.2 x hx y hy
def kc(f:Keyed->Int)(la lb r:List Keyed):Prop:=r.Perm (la++lb)/\r.Pairwise fun x y=>f x≤f y
theorem MI.ea{f:Keyed->Int}{la lb out ra:List Keyed}(h:MI f la lb out ra []):kc f la lb (out++ra):=⟨by have:=h.perm;rwa[AI] at this,AO.mpr ⟨h.so,h.sa,h.oa⟩⟩
theorem MI.eb{f:Keyed->Int}{la lb out ra rb:List Keyed}(h:MI f la lb out ra rb)(hs:∀x∈rb,∀y∈ra,f x≤f y):kc f la lb (out++rb++ra):=by
 refine⟨List.Perm.trans ?_ h.perm,?_⟩
 ·rw[Aw];exact(Br out).mpr Bb
 ·rw[Aw];refine AO.mpr ⟨h.so,AO.mpr ⟨h.sb,h.sa,hs⟩,fun x hx y hy=>?_⟩;rcases Aj.mp hy with hy | hy
  ·exact h.ob x hx y hy
  ·exact h.oa x hx y hy
structure MP(f:Keyed->Int)(a b out:Array Keyed)(ia ib:Nat):Prop where
 mi:MI f a.toList b.toList out.toList (a.toList.drop ia) (b.toList.drop ib)
 sz:out.size=ia+ib
 la:ia≤a.size
 lb:ib≤b.size
theorem afw(a:Array Keyed)(h:i<a.size):a.toList.drop i=a[i]::a.toList.drop (i+1):=by rw[BU (by simpa using h)];simp
theorem fe(a:Array Keyed)(i j:Nat):(a.extract i j).toList=(a.toList.drop i).take (j - i):=by rw[Array.toList_extract,List.extract_eq_drop_take]
theorem jf(l:List Keyed)(i k:Nat):(l.drop i).take k++l.drop (i+k)=l.drop i:=by rw[<-Dq,Bg]
theorem oH{a:Array Keyed}{k:Nat}{x:Keyed}(h:x∈(a.toList.drop i).take k):∃j,∃hj:i+j<a.size,j<k/\a[i+j]=x:=by
 obtain⟨j,hj,e⟩:=A5 h;rw[AL,A9] at hj;have h1:i+j<a.size:=by have:a.toList.length=a.size:=AM;omega
 refine⟨j,h1,by omega,?_⟩;rw[<-e];simp
theorem fq{a:Array Keyed}{x:Keyed}(h:x∈a.toList.drop i):∃j,∃hj:j<a.size,i≤j/\a[j]=x:=by
 obtain⟨j,hj,e⟩:=A5 h;rw[A9] at hj;have h1:i+j<a.size:=by have:a.toList.length=a.size:=AM;omega
 refine⟨i+j,h1,by exact AZ _ _,?_⟩;rw[<-e];simp
theorem yp{f:Keyed->Int}{a:Array Keyed}(s:a.toList.Pairwise fun x y=>f x≤f y)(hij:i≤j)(hj:j<a.size):f (a[i]'(by exact iH))≤f a[j]:=by
 rcases DM hij with h | h
 ·have:=B7.mp s i j (by simpa using (by exact iH:i<a.size)) (by simpa using hj) h;simpa using this
 ·subst h;exact Di _
section
variable {f:Keyed->Int}{a b out:Array Keyed}{ia ib:Nat}
theorem MP.segA(M:MP f a b out ia ib){k:Nat}(hk:ia+k≤a.size)(h:∀i (hi:ia+i<a.size),i<k->∀j (hj:j<b.size),ib≤j->f a[ia+i]≤f b[j]):MP f a b (out++a.extract ia (ia+k)) (ia+k) ib:=by
 refine⟨?_,?_,hk,M.lb⟩
 ·rw[A4,fe,show ia+k - ia=k by omega];refine MI.a (by rw[jf];exact M.mi) fun x hx y hy=>?_;obtain⟨i,hi,h1,rfl⟩:=oH hx;obtain⟨j,hj,h2,rfl⟩:=fq hy;exact h i hi h1 j hj h2
 ·rw[BO,C8,M.sz];lia
theorem MP.segB(M:MP f a b out ia ib){k:Nat}(hk:ib+k≤b.size)(h:∀i (hi:ib+i<b.size),i<k->∀j (hj:j<a.size),ia≤j->f b[ib+i]≤f a[j]):MP f a b (out++b.extract ib (ib+k)) ia (ib+k):=by
 refine⟨?_,?_,M.la,hk⟩
 ·rw[A4,fe,show ib+k - ib=k by lia];refine MI.b (by rw[jf];exact M.mi) fun x hx y hy=>?_;obtain⟨i,hi,h1,rfl⟩:=oH hx;obtain⟨j,hj,h2,rfl⟩:=fq hy;exact h i hi h1 j hj h2
 ·rw[BO,C8,M.sz];lia
theorem MP.oneA(M:MP f a b out ia ib)(hi:ia<a.size)(h:∀j (hj:j<b.size),ib≤j->f a[ia]≤f b[j]):MP f a b (out.push a[ia]) (ia+1) ib:=by refine⟨?_,by rw[Bj,M.sz];simp +arith only,hi,M.lb⟩;rw[CO];refine MI.a (seg:=[a[ia]]) (by rw[Dw,<-afw a hi];exact M.mi) fun x hx y hy=>?_;obtain⟨j,hj,h2,rfl⟩:=fq hy;rw[AB.mp hx];exact h j hj h2
theorem MP.oneB(M:MP f a b out ia ib)(hi:ib<b.size)(h:∀j (hj:j<a.size),ia≤j->f b[ib]≤f a[j]):MP f a b (out.push b[ib]) ia (ib+1):=by refine⟨?_,by rw[Bj,M.sz];exact Ew _ _ _,M.la,hi⟩;rw[CO];refine MI.b (seg:=[b[ib]]) (by rw[Dw,<-afw b hi];exact M.mi) fun x hx y hy=>?_;obtain⟨j,hj,h2,rfl⟩:=fq hy;rw[AB.mp hx];exact h j hj h2
theorem MP.done(M:MP f a b out ia ib)(h:ib=b.size):kc f a.toList b.toList (out++a.extract ia++b.extract ib).toList:=by have e:b.toList.drop ib=[]:=List.drop_eq_nil_of_le (by rw[AM];lia);have m:=M.mi;rw[e] at m;have:=m.ea;rw[A4,A4,fe,fe,e,List.take_nil,AI,A3 (by simp)];exact this
theorem MP.last(M:MP f a b out ia ib)(h:ia+1=a.size)(hl:∀x∈b.toList,f x<f (a[a.size - 1]'(by omega))):kc f a.toList b.toList (out++b.extract ib++a.extract ia).toList:=by
 have:=M.mi.eb fun x hx y hy=>by
  obtain⟨j,hj,h2,rfl⟩:=fq hy;have e:j=a.size - 1:=by omega
  subst e;exact BP (hl x (CS hx))
 rw[A4,A4,fe,fe,A3 (by simp),A3 (by simp)];exact this
end
section
variable {w:World}{κ:SortKind}{Ok:Keyed->Prop}{f:Keyed->Int}
abbrev gN(st:SortSt)(g:Nat):SortSt:=SortSt.mk' (kindOf st) (arrOf st) (pendingOf st) g (failedOf st)
theorem qY{c:Prop}{_:Decidable c}{K:β->StateT SortSt Sem α}{y:β}{Q:α->SortSt->Prop}{st:SortSt}(key:∀z,wpS (model prog w) A E s (K z) Q st):∀x,wpS (model prog w) A E s (if c then K x else K y) Q st:=fun x=>by
 by_cases h:c
 ·rw[AA h];exact key x
 ·rw[As h];exact key y
theorem jG{γ:Type}{c:Prop}{_:Decidable c}{K T:β->γ->StateT SortSt Sem α}{P:β->γ->Prop}{x:β}{i:γ}{Q:α->SortSt->Prop}{st:SortSt}(key:∀o j,P o j->wpS (model prog w) A E s (K o j) Q st)(hn:¬c->P x i)
 (hp:c->(∀o j,P o j->wpS (model prog w) A E s (K o j) Q st)->wpS (model prog w) A E s (T x i) Q st):∀o,x=o->∀j,i=j->wpS (model prog w) A E s (if c then T o j else K o j) Q st:=by
 rintro _ rfl _ rfl;by_cases h:c
 ·rw[AA h];exact hp h key
 ·rw[As h];exact key x i (hn h)
theorem xN(O:yo prog w A s κ Ok f){a b:Array Keyed}{st:SortSt}{Q:Array Keyed->SortSt->Prop}(hk:kindOf st=κ)(oka:∀x∈a.toList,Ok x)(okb:∀x∈b.toList,Ok x)
 (sa:a.toList.Pairwise fun x y=>f x≤f y) (sb:b.toList.Pairwise fun x y=>f x≤f y) (ha:0<a.size) (hb:0<b.size) (h0:∀x∈a.toList,f b[0]<f x) (hl:∀x∈b.toList,f x<f a[a.size - 1])
 (q:∀r g,kc f a.toList b.toList r.toList->Q r (gN st g)):wpS (model prog w) A E s (aa6 a b) Q st:=by
 refine Ab (wpS_lift (Bl ⟨rfl,?_⟩));refine Ab (xc (x:=b[0]) (by simp[hb]) ?_);dsimp only;have M0:MP f a b #[b[0]] 0 1:=by have M:MP f a b #[] 0 0:=⟨⟨by simp,by simp,by simpa using sa,by simpa using sb,by simp,by simp⟩,rfl,Bk _,Bk _⟩;have:=M.oneB hb fun j hj _=>BP (h0 a[j] (by simp));simpa using this
 by_cases c1:(1==b.size)=true
 ·rw[AA c1];exact Ad (q _ (gallopOf st) (M0.done (by simpa using c1)))
 rw[As c1];by_cases c2:(0+1==a.size)=true
 ·rw[AA c2];exact Ad (q _ (gallopOf st) (M0.last (by simpa using c2) hl))
 rw[As c2];have c1:¬1=b.size:=by simpa using c1
 have c2:¬1=a.size:=by simpa using c2
 refine Ab (wpS_get ?_);have okA:∀i (hi:i<a.size),Ok a[i]:=fun i hi=>oka _ (by simp);have okB:∀i (hi:i<b.size),Ok b[i]:=fun i hi=>okb _ (by simp);have atA:∀i (hi:i<a.size),a[i]?=some a[i]:=fun i hi=>by simp[hi]
 have atB:∀i (hi:i<b.size),b[i]?=some b[i]:=fun i hi=>by simp[hi]
 obtain⟨tA,tA0⟩:∃t:Nat->Keyed,t=fun i=>(a[i]?).getD b[0]:=⟨_,rfl⟩;have tA2:∀i (hi:i<a.size),tA i=a[i]:=fun i hi=>by rw[tA0];simp[hi]
 have tA1:∀i (hi:i<a.size),a[i]?=some (tA i):=fun i hi=>by rw[tA2 i hi];exact atA i hi
 have tA3:∀i (hi:i<a.size),Ok (tA i):=fun i hi=>by rw[tA2 i hi];exact okA i hi
 have tA4:∀{i j},i≤j->j<a.size->f (tA i)≤f (tA j):=fun {i j} hij hj=>by rw[tA2 i (by exact iH),tA2 j hj];exact yp sa hij hj
 obtain⟨tB,tB0⟩:∃t:Nat->Keyed,t=fun i=>(b[i]?).getD b[0]:=⟨_,rfl⟩;have tB2:∀i (hi:i<b.size),tB i=b[i]:=fun i hi=>by rw[tB0];simp[hi]
 have tB1:∀i (hi:i<b.size),b[i]?=some (tB i):=fun i hi=>by rw[tB2 i hi];exact atB i hi
 have tB3:∀i (hi:i<b.size),Ok (tB i):=fun i hi=>by rw[tB2 i hi];exact okB i hi
 have tB4:∀{i j},i≤j->j<b.size->f (tB i)≤f (tB j):=fun {i j} hij hj=>by rw[tB2 i (by exact iH),tB2 j hj];exact yp sb hij hj
 refine Ab (AS (AG (I:=fun x c st'=>(∃g,st'=gN st g)/\∃out ia ib mg,c=(none,out,ia,ib,mg)/\MP f a b out ia ib/\ia+1<a.size/\ib<b.size/\x+1≤out.size)
  (Q:=fun c st'=>(∃g,st'=gN st g)/\∃r,c.1=some r/\kc f a.toList b.toList r.toList) ?_ ?_ ⟨⟨gallopOf st,rfl⟩,_,_,_,_,rfl,M0,by exact yV,by exact yV,by simp⟩) ?_)
 ·rintro x c st' _ hx ⟨⟨g,rfl⟩,out,ia,ib,mg,rfl,M,ha',hb',hs⟩;dsimp only;refine Ab (AS (AG (I:=fun y c st'=>st'=gN st g/\∃out' ia ib ac bc,c=(none,out',ia,ib,ac,bc)/\MP f a b out' ia ib/\ia+1<a.size/\ib<b.size/\out.size+y≤out'.size)
   (Q:=fun c st'=>st'=gN st g/\((∃r,c.1=some r/\kc f a.toList b.toList r.toList)\/∃out' ia ib ac bc,c=(none,out',ia,ib,ac,bc)/\MP f a b out' ia ib/\ia+1<a.size/\ib<b.size/\out.size+1≤out'.size)) ?_ ?_ ⟨rfl,_,_,_,_,_,rfl,M,ha',hb',Am _⟩) ?_)
  ·rintro y c st' _ hy ⟨rfl,out',ia,ib,ac,bc,rfl,M,ha',hb',hs'⟩;have pA1:ia<a.size:=by exact fc
   dsimp only;refine Ab (xc (atB ib hb') ?_);refine Ab (xc (atA ia pA1) ?_);refine Ab (w_lt O hk (okB ib hb') (okA ia pA1) ?_);dsimp only;by_cases c:f b[ib]<f a[ia]
   ·rw[AE c,AA rfl];refine Ab (xc (atB ib hb') ?_);have M':=M.oneB hb' fun j hj hij=>BP (Int.lt_of_lt_of_le c (yp sa hij hj));have s2:(out'.push b[ib]).size=out'.size+1:=Bj _;by_cases e1:(ib+1==b.size)=true
    ·rw[AA e1];exact Ad ⟨rfl,.inl ⟨_,rfl,M'.done (by simpa using e1)⟩⟩
    ·rw[As e1];have e1:¬ib+1=b.size:=by simpa using e1
     split
     ·exact Ad ⟨rfl,.inr ⟨_,_,_,_,_,rfl,M',ha',by exact yV,by lia⟩⟩
     ·exact Ad ⟨rfl,_,_,_,_,_,rfl,M',ha',by lia,by lia⟩
   ·rw[Au c,As (by simp)];refine Ab (xc (atA ia pA1) ?_);have M':=M.oneA (by lia) fun j hj hij=>BH (by omega) (yp sb hij hj);have s2:(out'.push a[ia]).size=out'.size+1:=Bj _;by_cases e1:(ia+1+1==a.size)=true
    ·rw[AA e1];exact Ad ⟨rfl,.inl ⟨_,rfl,M'.last (by simpa using e1) hl⟩⟩
    ·rw[As e1];have e1:¬ia+1+1=a.size:=by simpa using e1
     split
     ·exact Ad ⟨rfl,.inr ⟨_,_,_,_,_,rfl,M',by exact yV,hb',by lia⟩⟩
     ·exact Ad ⟨rfl,_,_,_,_,_,rfl,M',by lia,hb',by lia⟩
  ·rintro c st' ⟨rfl,out',ia,ib,ac,bc,rfl,M,ha',hb',hs'⟩;have:=M.sz;omega
  ·rintro c st' ⟨rfl,h⟩;rcases h with⟨r,er,hr⟩ | ⟨out1,ia,ib,ac,bc,rfl,M,ha',hb',hs'⟩
   ·obtain⟨c1,c2⟩:=c;cases er;exact Ad ⟨⟨g,rfl⟩,r,rfl,hr⟩
   ·dsimp only;refine Ab (wpS_lift (Bl ⟨rfl,?_⟩));refine Ab (AS (AG (I:=fun y c st'=>(∃g,st'=gN st g)/\∃out' ia ib mg ac bc,c=(none,out',ia,ib,mg,ac,bc)/\MP f a b out' ia ib/\ia+1<a.size/\ib<b.size/\out1.size+y≤out'.size)
     (Q:=fun c st'=>(∃g,st'=gN st g)/\((∃r,c.1=some r/\kc f a.toList b.toList r.toList)\/∃out' ia ib mg ac bc,c=(none,out',ia,ib,mg,ac,bc)/\MP f a b out' ia ib/\ia+1<a.size/\ib<b.size/\out1.size≤out'.size)) ?_ ?_ ⟨⟨g,rfl⟩,_,_,_,_,_,_,rfl,M,ha',hb',Am _⟩) ?_)
    ·rintro y c st' _ hy ⟨⟨g',rfl⟩,out',ia,ib,mg',ac,bc,rfl,M,ha',hb',hs''⟩;have pA1:ia<a.size:=by exact fc
     dsimp only;generalize mg' - 1=mgx;revert mgx;refine qY (y:=mg') fun mg2=>?_
     all_goals
      refine Ab (wpS_modify ?_);refine Ab (xc (atB ib hb') ?_);refine Ab (bW O hk (okB ib hb') (by lia) (fun i=>tA (ia+i)) (fun i hi=>⟨tA1 _ (by lia),tA3 _ (by lia)⟩) (fun i=>!decide (f b[ib]<f (tA (ia+i)))) (fun i hi=>by rw[As (by simp)]) (fun i j hij hj h=>?_) fun k hk1 hlo hhi=>?_)
      ·have:=tA4 (i:=ia+i) (j:=ia+j) (by lia) (by lia);simp at h ⊢;lia
      have hlo:∀i,i<k->f (tA (ia+i))≤f b[ib]:=fun i hi=>by have:=hlo i hi;simpa using this
      have hhi:∀i,k≤i->i<a.size - ia->f b[ib]<f (tA (ia+i)):=fun i hi hj=>by have:=hhi i hi hj;simpa using this
      have kl:k<a.size - ia:=by
       rcases DM hk1 with h | h
       ·exact h
       ·exfalso;have h1:=hlo (a.size - 1 - ia) (by lia);have h2:=hl b[ib] (by simp);rw[show ia+(a.size - 1 - ia)=a.size - 1 by lia,tA2 _ (by exact pW)] at h1;omega
      have M1:MP f a b (out'++a.extract ia (ia+k)) (ia+k) ib:=M.segA (by lia) fun i hi hik j hj hij=>by have h1:=hlo i hik;rw[tA2 _ hi] at h1;exact BH h1 (yp sb hij hj)
      have pB:∀j (hj:j<a.size),ia+k≤j->f b[ib]≤f a[j]:=fun j hj hij=>by have h1:=hhi (j - ia) (by lia) (by lia);rw[show ia+(j - ia)=j by lia,tA2 _ hj] at h1;lia
      dsimp only;generalize eo0:out'=o0;generalize ej0:ia=j0;revert j0;revert o0;refine jG (P:=fun(o:Array Keyed) (j:Nat)=>MP f a b o j ib/\out'.size≤o.size/\j+1<a.size/\∀j' (hj:j'<a.size),j≤j'->f b[ib]≤f a[j']) (x:=out') (i:=ia) (fun out3 ia3 hP=>?tail) (fun ck=>?hN) (fun ck key=>?hY)
      case hN=>
       obtain rfl:k=0:=by lia
       exact⟨M,Am _,ha',fun j hj hij=>pB j hj (by lia)⟩
      case hY=>
       by_cases e1:(ia+k+1==a.size)=true
       ·rw[AA e1];exact Ad ⟨⟨_,rfl⟩,.inl ⟨_,rfl,M1.last (by simpa using e1) hl⟩⟩
       ·rw[As e1,As (show ¬(ia+k==a.size)=true by simp;lia)];have e1:¬ia+k+1=a.size:=by simpa using e1
        exact key _ _ ⟨M1,by rw[BO];exact AZ _ _,by lia,pB⟩
      clear pB M1 hlo hhi;obtain⟨M1,h3,l3,pB⟩:=hP;have pA3:ia3<a.size:=by exact fc
      all_goals
       refine Ab (xc (atB ib hb') ?_);have M2:=M1.oneB hb' pB;have s2:(out3.push b[ib]).size=out3.size+1:=Bj _;by_cases e2:(ib+1==b.size)=true
       case' pos=>
        rw[AA e2];exact Ad ⟨⟨_,rfl⟩,.inl ⟨_,rfl,M2.done (by simpa using e2)⟩⟩
       case' neg=>
        rw[As e2];have e2:¬ib+1=b.size:=by simpa using e2
        refine Ab (xc (atA ia3 pA3) ?_);refine Ab (bW O hk (okA ia3 pA3) (by lia) (fun i=>tB (ib+1+i)) (fun i hi=>⟨tB1 _ (by omega),tB3 _ (by lia)⟩) (fun i=>decide (f (tB (ib+1+i))<f a[ia3])) (fun i hi=>by rw[AA rfl]) (fun i j hij hj h=>?_) fun k2 hk2 hlo2 hhi2=>?_)
        ·have:=tB4 (i:=ib+1+i) (j:=ib+1+j) (by lia) (by omega);simp at h ⊢;lia
        have hlo2:∀i,i<k2->f (tB (ib+1+i))<f a[ia3]:=fun i hi=>by have:=hlo2 i hi;simpa using this
        have hhi2:∀i,k2≤i->i<b.size - (ib+1)->f a[ia3]≤f (tB (ib+1+i)):=fun i hi hj=>by have:=hhi2 i hi hj;simpa using this
        have M3:MP f a b (out3.push b[ib]++b.extract (ib+1) (ib+1+k2)) ia3 (ib+1+k2):=M2.segB (by omega) fun i hi hik j hj hij=>by have h1:=hlo2 i hik;rw[tB2 _ hi] at h1;exact BH (BP h1) (yp sa hij hj)
        have pA:∀j (hj:j<b.size),ib+1+k2≤j->f a[ia3]≤f b[j]:=fun j hj hij=>by have h1:=hhi2 (j - (ib+1)) (by lia) (by omega);rw[show ib+1+(j - (ib+1))=j by lia,tB2 _ hj] at h1;exact h1
        dsimp only;obtain⟨o3,eo3⟩:∃o,o=out3.push b[ib]:=⟨_,rfl⟩;obtain⟨ib3,ei3⟩:∃i,i=ib+1:=⟨_,rfl⟩;rw[<-eo3] at s2;rw[<-eo3,<-ei3] at M2 M3 ⊢;rw[<-ei3] at pA hk2;generalize eo0:o3=o0;generalize ej0:ib3=j0;revert j0;revert o0;refine jG (P:=fun(o:Array Keyed) (j:Nat)=>MP f a b o ia3 j/\out3.size+1≤o.size/\j<b.size/\∀j' (hj:j'<b.size),j≤j'->f a[ia3]≤f b[j']) (x:=o3) (i:=ib3) (fun out4 ib4 hP=>?tail2) (fun ck=>?hN) (fun ck key=>?hY)
        case hN=>
         obtain rfl:k2=0:=by lia
         exact⟨M2,by lia,by lia,fun j hj hij=>pA j hj (by lia)⟩
        case hY=>
         by_cases e3:(ib3+k2==b.size)=true
         ·rw[AA e3];exact Ad ⟨⟨_,rfl⟩,.inl ⟨_,rfl,M3.done (by simpa using e3)⟩⟩
         ·rw[As e3];have e3:¬ib3+k2=b.size:=by simpa using e3
          exact key _ _ ⟨M3,by rw[BO];lia,by lia,pA⟩
        clear pA M3 hlo2 hhi2;obtain⟨M3,h4,l4,pA⟩:=hP
        all_goals
         refine Ab (xc (atA ia3 pA3) ?_);have M4:=M3.oneA (by lia) pA;have s4:(out4.push a[ia3]).size=out4.size+1:=Bj _;by_cases e4:(ia3+1+1==a.size)=true
         ·rw[AA e4];exact Ad ⟨⟨_,rfl⟩,.inl ⟨_,rfl,M4.last (by simpa using e4) hl⟩⟩
         ·rw[As e4];have e4:¬ia3+1+1=a.size:=by simpa using e4
          split
          ·exact Ad ⟨⟨_,rfl⟩,.inr ⟨_,_,_,_,_,_,rfl,M4,by exact yV,l4,by lia⟩⟩
          ·exact Ad ⟨⟨_,rfl⟩,_,_,_,_,_,_,rfl,M4,by lia,l4,by lia⟩
    ·rintro c st' ⟨⟨g',rfl⟩,out',ia,ib,mg',ac,bc,rfl,M,ha',hb',hs''⟩;have:=M.sz;omega
    ·rintro c st' ⟨⟨g',rfl⟩,h⟩;rcases h with⟨r,er,hr⟩ | ⟨out2,ia,ib,mg2,ac,bc,rfl,M,ha',hb',hs''⟩
     ·obtain⟨c1,c2⟩:=c;cases er;exact Ad ⟨⟨g',rfl⟩,r,rfl,hr⟩
     ·dsimp only;refine Ab (wpS_modify ?_);exact Ad ⟨⟨_,rfl⟩,_,_,_,_,rfl,M,ha',hb',by lia⟩
 ·rintro c st' ⟨⟨g,rfl⟩,out,ia,ib,mg,rfl,M,ha',hb',hs⟩;have:=M.sz;lia
 ·rintro c st' ⟨⟨g,rfl⟩,r,er,hr⟩;obtain⟨c1,c2⟩:=c;cases er;exact Ad (q r g hr)
end
structure MH(f:Keyed->Int)(la lb ra rb o:List Keyed):Prop where
 perm:(ra++rb++o).Perm (la++lb)
 so:o.Pairwise fun x y=>f x≤f y
 sa:ra.Pairwise fun x y=>f x≤f y
 sb:rb.Pairwise fun x y=>f x≤f y
 oa:∀x∈ra,∀y∈o,f x≤f y
 ob:∀x∈rb,∀y∈o,f x≤f y
theorem MH.a{f:Keyed->Int}{la lb o seg ra rb:List Keyed}(h:MH f la lb (ra++seg) rb o)(hs:∀x∈rb,∀y∈seg,f x≤f y):MH f la lb ra rb (seg++o):=by
 have sa:=AO.mp h.sa;refine⟨List.Perm.trans ?_ h.perm,AO.mpr ⟨sa.2.1,h.so,fun x hx y hy=>h.oa x (Ah _ hx) y hy⟩,sa.1,h.sb,fun x hx y hy=>?_,fun x hx y hy=>?_⟩
 ·rw[<-Aw];refine(Be o).mpr ?_;rw[Aw,Aw];exact(Br ra).mpr Bb
 ·rcases Aj.mp hy with hy | hy
  ·exact sa.2.2 x hx y hy
  ·exact h.oa x (An _ hx) y hy
 ·rcases Aj.mp hy with hy | hy
  ·exact hs x hx y hy
  ·exact h.ob x hx y hy
theorem MH.b{f:Keyed->Int}{la lb o seg ra rb:List Keyed}(h:MH f la lb ra (rb++seg) o)(hs:∀x∈ra,∀y∈seg,f x≤f y):MH f la lb ra rb (seg++o):=by
 have sb:=AO.mp h.sb;refine⟨?_,AO.mpr ⟨sb.2.1,h.so,fun x hx y hy=>h.ob x (Ah _ hx) y hy⟩,h.sa,sb.1,fun x hx y hy=>?_,fun x hx y hy=>?_⟩
 ·have:=h.perm;rw[<-Aw,Aw ra rb seg];exact this
 ·rcases Aj.mp hy with hy | hy
  ·exact hs x hx y hy
  ·exact h.oa x hx y hy
 ·rcases Aj.mp hy with hy | hy
  ·exact sb.2.2 x hx y hy
  ·exact h.ob x (An _ hx) y hy
theorem MH.ea{f:Keyed->Int}{la lb o rb:List Keyed}(h:MH f la lb [] rb o):kc f la lb (rb++o):=⟨by have:=h.perm;rwa[Ep] at this,AO.mpr ⟨h.sb,h.so,h.ob⟩⟩
theorem MH.eb{f:Keyed->Int}{la lb o ra rb:List Keyed}(h:MH f la lb ra rb o)(hs:∀x∈rb,∀y∈ra,f x≤f y):kc f la lb (rb++ra++o):=by
 refine⟨List.Perm.trans ?_ h.perm,?_⟩
 ·exact(Be o).mpr Bb
 ·refine AO.mpr ⟨AO.mpr ⟨h.sb,h.sa,hs⟩,h.so,fun x hx y hy=>?_⟩;rcases Aj.mp hx with hx | hx
  ·exact h.ob x hx y hy
  ·exact h.oa x hx y hy
structure HP(f:Keyed->Int)(a b out:Array Keyed)(na nb:Nat):Prop where
 mi:MH f a.toList b.toList (a.toList.take na) (b.toList.take nb) out.toList.reverse
 sz:out.size+na+nb=a.size+b.size
 la:na≤a.size
 lb:nb≤b.size
theorem aft(a:Array Keyed)(h:i<a.size):a.toList.take (i+1)=a.toList.take i++[a[i]]:=by rw[BD];simp[h]
theorem gh{a:Array Keyed}{x:Keyed}(h:x∈a.toList.take i):∃j,∃hj:j<a.size,j<i/\a[j]=x:=by
 obtain⟨j,hj,e⟩:=A5 h;rw[AL] at hj;have h1:j<a.size:=by have:a.toList.length=a.size:=AM;omega
 refine⟨j,h1,by omega,?_⟩;rw[<-e];simp
theorem adw(l:List Keyed){k:Nat}(h:i≤k):l.take i++(l.drop i).take (k - i)=l.take k:=by have:=List.take_add (l:=l) (i:=i) (j:=k - i);rw[show i+(k - i)=k by omega] at this;exact this.symm
section
variable {f:Keyed->Int}{a b out:Array Keyed}{nb:Nat}
theorem HP.segA(M:HP f a b out na nb){k:Nat}(hk:k≤na)(h:∀i (hi:i<a.size),k≤i->i<na->∀j (hj:j<b.size),j<nb->f b[j]≤f a[i]):HP f a b (out++(a.extract k na).reverse) k nb:=by
 have hl:=M.la;refine⟨?_,?_,by exact ait,M.lb⟩
 ·rw[A4,CZ,CT,List.reverse_reverse,fe];refine MH.a (by rw[adw _ hk];exact M.mi) fun x hx y hy=>?_;obtain⟨j,hj,h2,rfl⟩:=gh hx;obtain⟨i,hi,h1,rfl⟩:=oH hy;exact h (k+i) hi (by exact AZ _ _) (by lia) j hj h2
 ·have:=M.sz;rw[BO,Array.size_reverse,C8];lia
theorem HP.segB(M:HP f a b out na nb){k:Nat}(hk:k≤nb)(h:∀i (hi:i<b.size),k≤i->i<nb->∀j (hj:j<a.size),j<na->f a[j]≤f b[i]):HP f a b (out++(b.extract k nb).reverse) na k:=by
 have hl:=M.lb;refine⟨?_,?_,M.la,by lia⟩
 ·rw[A4,CZ,CT,List.reverse_reverse,fe];refine MH.b (by rw[adw _ hk];exact M.mi) fun x hx y hy=>?_;obtain⟨j,hj,h2,rfl⟩:=gh hx;obtain⟨i,hi,h1,rfl⟩:=oH hy;exact h (k+i) hi (by lia) (by lia) j hj h2
 ·have:=M.sz;rw[BO,Array.size_reverse,C8];lia
theorem HP.oneA(M:HP f a b out (na+1) nb)(hi:na<a.size)(h:∀j (hj:j<b.size),j<nb->f b[j]≤f a[na]):HP f a b (out.push a[na]) na nb:=by refine⟨?_,by have:=M.sz;rw[Bj];lia,by exact fc,M.lb⟩;rw[CO,CZ];refine MH.a (seg:=[a[na]]) (by rw[<-aft a hi];exact M.mi) fun x hx y hy=>?_;obtain⟨j,hj,h2,rfl⟩:=gh hx;rw[AB.mp hy];exact h j hj h2
theorem HP.oneB(M:HP f a b out na (nb+1))(hi:nb<b.size)(h:∀j (hj:j<a.size),j<na->f a[j]≤f b[nb]):HP f a b (out.push b[nb]) na nb:=by refine⟨?_,by have:=M.sz;rw[Bj];lia,M.la,by lia⟩;rw[CO,CZ];refine MH.b (seg:=[b[nb]]) (by rw[<-aft b hi];exact M.mi) fun x hx y hy=>?_;obtain⟨j,hj,h2,rfl⟩:=gh hx;rw[AB.mp hy];exact h j hj h2
theorem HP.done(M:HP f a b out na nb)(h:na=0):kc f a.toList b.toList (a.extract 0 na++b.extract 0 nb++out.reverse).toList:=by subst h;have:=M.mi;rw[List.take_zero] at this;have:=this.ea;rw[A4,A4,fe,fe,CT];simpa using this
theorem HP.last(M:HP f a b out na nb)(h:nb=1)(hb:0<b.size)(h0:∀x∈a.toList,f b[0]<f x):kc f a.toList b.toList (b.extract 0 nb++a.extract 0 na++out.reverse).toList:=by
 have:=M.mi.eb fun x hx y hy=>by
  obtain⟨j,hj,h2,rfl⟩:=gh hx;have e:j=0:=by lia
  subst e;exact BP (h0 y (Bz hy))
 rw[A4,A4,fe,fe,CT];simpa using this
end
theorem HP.preA{f:Keyed->Int}{a b out:Array Keyed}{nb:Nat}(M:HP f a b out na nb)(h0:0<na)(h:∀j (hj:j<b.size),j<nb->f b[j]≤f (a[na - 1]'(by have:=M.la;omega))):HP f a b (out.push (a[na - 1]'(by have:=M.la;omega))) (na - 1) nb:=by obtain⟨n,rfl⟩:∃n,na=n+1:=⟨na - 1,by lia⟩;have hl:=M.la;exact HP.oneA M (by assumption) h
theorem HP.preB{f:Keyed->Int}{a b out:Array Keyed}{nb:Nat}(M:HP f a b out na nb)(h0:0<nb)(h:∀j (hj:j<a.size),j<na->f a[j]≤f (b[nb - 1]'(by have:=M.lb;omega))):HP f a b (out.push (b[nb - 1]'(by have:=M.lb;lia))) na (nb - 1):=by obtain⟨n,rfl⟩:∃n,nb=n+1:=⟨nb - 1,by lia⟩;have hl:=M.lb;exact HP.oneB M (by lia) h
section
variable {w:World}{κ:SortKind}{Ok:Keyed->Prop}{f:Keyed->Int}
theorem bD{c:Prop} [Decidable c]{x y:StateT SortSt Sem α}{Q:α->SortSt->Prop}{st:SortSt}(h:c)(k:wpS M A E s x Q st):wpS M A E s (if c then x else y) Q st:=by rw[AA h];exact k
theorem a8{c:Prop} [Decidable c]{x y:StateT SortSt Sem α}{Q:α->SortSt->Prop}{st:SortSt}(h:¬c)(k:wpS M A E s y Q st):wpS M A E s (if c then x else y) Q st:=by rw[As h];exact k
theorem y8(O:yo prog w A s κ Ok f){a b:Array Keyed}{st:SortSt}{Q:Array Keyed->SortSt->Prop}(hk:kindOf st=κ)(oka:∀x∈a.toList,Ok x)(okb:∀x∈b.toList,Ok x)
 (sa:a.toList.Pairwise fun x y=>f x≤f y) (sb:b.toList.Pairwise fun x y=>f x≤f y) (ha:0<a.size) (hb:0<b.size) (h0:∀x∈a.toList,f b[0]<f x) (hl:∀x∈b.toList,f x<f a[a.size - 1])
 (q:∀r g,kc f a.toList b.toList r.toList->Q r (gN st g)):wpS (model prog w) A E s (ac1 a b) Q st:=by
 have okA:∀i (hi:i<a.size),Ok a[i]:=fun i hi=>oka _ (by simp);have okB:∀i (hi:i<b.size),Ok b[i]:=fun i hi=>okb _ (by simp);have atA:∀i (hi:i<a.size),a[i]?=some a[i]:=fun i hi=>by simp[hi]
 have atB:∀i (hi:i<b.size),b[i]?=some b[i]:=fun i hi=>by simp[hi]
 obtain⟨tA,tA0⟩:∃t:Nat->Keyed,t=fun i=>(a[i]?).getD b[0]:=⟨_,rfl⟩;have tA2:∀i (hi:i<a.size),tA i=a[i]:=fun i hi=>by rw[tA0];simp[hi]
 have tA1:∀i (hi:i<a.size),a[0+i]?=some (tA i):=fun i hi=>by rw[tA2 i hi,El];exact atA i hi
 have tA3:∀i (hi:i<a.size),Ok (tA i):=fun i hi=>by rw[tA2 i hi];exact okA i hi
 have tA4:∀{i j},i≤j->j<a.size->f (tA i)≤f (tA j):=fun {i j} hij hj=>by rw[tA2 i (by exact iH),tA2 j hj];exact yp sa hij hj
 obtain⟨tB,tB0⟩:∃t:Nat->Keyed,t=fun i=>(b[i]?).getD b[0]:=⟨_,rfl⟩;have tB2:∀i (hi:i<b.size),tB i=b[i]:=fun i hi=>by rw[tB0];simp[hi]
 have tB1:∀i (hi:i<b.size),b[0+i]?=some (tB i):=fun i hi=>by rw[tB2 i hi,El];exact atB i hi
 have tB3:∀i (hi:i<b.size),Ok (tB i):=fun i hi=>by rw[tB2 i hi];exact okB i hi
 have tB4:∀{i j},i≤j->j<b.size->f (tB i)≤f (tB j):=fun {i j} hij hj=>by rw[tB2 i (by exact iH),tB2 j hj];exact yp sb hij hj
 refine Ab (wpS_lift (Bl ⟨rfl,?_⟩));refine Ab (xc (x:=a[a.size - 1]) (atA _ (by exact pW)) ?_);dsimp only;obtain⟨n0,hn0⟩:∃n,a.size=n+1:=⟨a.size - 1,by lia⟩;have M0:HP f a b #[a[a.size - 1]] (a.size - 1) b.size:=by
  have M:HP f a b #[] (a.size - 1+1) b.size:=by
   refine⟨⟨?_,by simp,?_,?_,by simp,by simp⟩,by simp;lia,by exact pW,Am _⟩
   ·rw[A3 (by simp;lia),A3 (by simp)];simp
   ·rw[A3 (by simp;lia)];exact sa
   ·rw[A3 (by simp)];exact sb
  have:=M.oneA (by lia) fun j hj _=>BP (hl b[j] (by simp));simpa using this
 by_cases c1:(a.size - 1==0)=true
 ·refine bD c1 ?_;exact Ad (q _ (gallopOf st) (M0.done (by simpa using c1)))
 refine a8 c1 ?_;by_cases c2:(b.size==1)=true
 ·refine bD c2 ?_;exact Ad (q _ (gallopOf st) (M0.last (by simpa using c2) hb h0))
 refine a8 c2 ?_;have c1:¬a.size - 1=0:=by simpa using c1
 have c2:¬b.size=1:=by simpa using c2
 refine Ab (wpS_get ?_);refine Ab (AS (AG (I:=fun x c st'=>(∃g,st'=gN st g)/\∃na nb out mg,c=(none,na,nb,out,mg)/\HP f a b out na nb/\0<na/\1<nb/\x+1≤out.size)
  (Q:=fun c st'=>(∃g,st'=gN st g)/\∃r,c.1=some r/\kc f a.toList b.toList r.toList) ?_ ?_ ⟨⟨gallopOf st,rfl⟩,_,_,_,_,rfl,M0,by exact abf,by lia,by simp⟩) ?_)
 ·rintro x c st' _ hx ⟨⟨g,rfl⟩,na,nb,out,mg,rfl,M,ha',hb',hs⟩;dsimp only;refine Ab (AS (AG (I:=fun y c st'=>st'=gN st g/\∃na nb out' ac bc,c=(none,na,nb,out',ac,bc)/\HP f a b out' na nb/\0<na/\1<nb/\out.size+y≤out'.size)
   (Q:=fun c st'=>st'=gN st g/\((∃r,c.1=some r/\kc f a.toList b.toList r.toList)\/∃na nb out' ac bc,c=(none,na,nb,out',ac,bc)/\HP f a b out' na nb/\0<na/\1<nb/\out.size+1≤out'.size)) ?_ ?_ ⟨rfl,_,_,_,_,_,rfl,M,ha',hb',Am _⟩) ?_)
  ·rintro y c st' _ hy ⟨rfl,na,nb,out',ac,bc,rfl,M,ha',hb',hs'⟩;have hla:=M.la;have hlb:=M.lb;have pB1:nb - 1<b.size:=by omega
   have pA1:na - 1<a.size:=by lia
   dsimp only;refine Ab (xc (atB (nb - 1) pB1) ?_);refine Ab (xc (atA (na - 1) pA1) ?_);refine Ab (w_lt O hk (okB (nb - 1) pB1) (okA (na - 1) pA1) ?_);dsimp only;by_cases c:f b[nb - 1]<f a[na - 1]
   ·rw[AE c,AA rfl];refine Ab (xc (atA (na - 1) pA1) ?_);have M':=M.preA ha' fun j hj hij=>BP (Int.lt_of_le_of_lt (yp sb (i:=j) (j:=nb - 1) (CU hij) pB1) c);have s2:(out'.push a[na - 1]).size=out'.size+1:=Bj _;by_cases e1:(na - 1==0)=true
    ·refine bD e1 ?_;exact Ad ⟨rfl,.inl ⟨_,rfl,M'.done (by simpa using e1)⟩⟩
    ·refine a8 e1 ?_;have e1:¬na - 1=0:=by simpa using e1
     split
     ·exact Ad ⟨rfl,.inr ⟨_,_,_,_,_,rfl,M',by exact abf,hb',by lia⟩⟩
     ·exact Ad ⟨rfl,_,_,_,_,_,rfl,M',by lia,hb',by lia⟩
   ·rw[Au c,As (by simp)];refine Ab (xc (atB (nb - 1) pB1) ?_);have M':=M.preB (by exact fc) fun j hj hij=>BH (yp sa (i:=j) (j:=na - 1) (CU hij) pA1) (by omega);have s2:(out'.push b[nb - 1]).size=out'.size+1:=Bj _;by_cases e1:(nb - 1==1)=true
    ·refine bD e1 ?_;exact Ad ⟨rfl,.inl ⟨_,rfl,M'.last (by simpa using e1) hb h0⟩⟩
    ·refine a8 e1 ?_;have e1:¬nb - 1=1:=by simpa using e1
     split
     ·exact Ad ⟨rfl,.inr ⟨_,_,_,_,_,rfl,M',ha',by lia,by lia⟩⟩
     ·exact Ad ⟨rfl,_,_,_,_,_,rfl,M',ha',by lia,by lia⟩
  ·rintro c st' ⟨rfl,na,nb,out',ac,bc,rfl,M,ha',hb',hs'⟩;have:=M.sz;omega
  ·rintro c st' ⟨rfl,h⟩;rcases h with⟨r,er,hr⟩ | ⟨na,nb,out1,ac,bc,rfl,M,ha',hb',hs'⟩
   ·obtain⟨c1,c2⟩:=c;cases er;exact Ad ⟨⟨g,rfl⟩,r,rfl,hr⟩
   ·dsimp only;refine Ab (wpS_lift (Bl ⟨rfl,?_⟩));refine Ab (AS (AG (I:=fun y c st'=>(∃g,st'=gN st g)/\∃na nb out' mg ac bc,c=(none,na,nb,out',mg,ac,bc)/\HP f a b out' na nb/\0<na/\1<nb/\out1.size+y≤out'.size)
     (Q:=fun c st'=>(∃g,st'=gN st g)/\((∃r,c.1=some r/\kc f a.toList b.toList r.toList)\/∃na nb out' mg ac bc,c=(none,na,nb,out',mg,ac,bc)/\HP f a b out' na nb/\0<na/\1<nb/\out1.size≤out'.size)) ?_ ?_ ⟨⟨g,rfl⟩,_,_,_,_,_,_,rfl,M,ha',hb',Am _⟩) ?_)
    ·rintro y c st' _ hy ⟨⟨g',rfl⟩,na,nb,out',mg',ac,bc,rfl,M,ha',hb',hs''⟩;have hla:=M.la;have hlb:=M.lb;have pB1:nb - 1<b.size:=by omega
     have pA1:na - 1<a.size:=by lia
     dsimp only;generalize mg' - 1=mgx;revert mgx;refine qY (y:=mg') fun mg2=>?_
     all_goals
      refine Ab (wpS_modify ?_);refine Ab (xc (atB (nb - 1) pB1) ?_);refine Ab (bW O hk (okB (nb - 1) pB1) (by exact pW) tA (fun i hi=>⟨tA1 _ (by exact xR),tA3 _ (by lia)⟩) (fun i=>!decide (f b[nb - 1]<f (tA i))) (fun i hi=>by rw[As (by simp)]) (fun i j hij hj h=>?_) fun k hk1 hlo hhi=>?_)
      ·have:=tA4 (i:=i) (j:=j) (by lia) (by exact xR);simp at h ⊢;lia
      have hlo:∀i,i<k->f (tA i)≤f b[nb - 1]:=fun i hi=>by have:=hlo i hi;simpa using this
      have hhi:∀i,k≤i->i<na->f b[nb - 1]<f (tA i):=fun i hi hj=>by have:=hhi i hi hj;simpa using this
      have M1:HP f a b (out'++(a.extract k na).reverse) k nb:=M.segA hk1 fun i hi h1 h2 j hj hij=>by have h3:=hhi i h1 h2;rw[tA2 _ hi] at h3;exact BH (yp sb (i:=j) (j:=nb - 1) (CU hij) pB1) (BP h3)
      have pB:∀j (hj:j<a.size),j<k->f a[j]≤f b[nb - 1]:=fun j hj hij=>by have h1:=hlo j hij;rw[tA2 _ hj] at h1;exact h1
      dsimp only;generalize ec0:na - k=cn;generalize eo0:out'=o0;generalize ej0:na=j0;revert j0;revert o0;refine jG (P:=fun(o:Array Keyed) (j:Nat)=>HP f a b o j nb/\out'.size≤o.size/\0<j/\∀j' (hj:j'<a.size),j'<j->f a[j']≤f b[nb - 1]) (x:=out') (i:=na) (fun out3 na3 hP=>?tail) (fun ck=>?hN) (fun ck key=>?hY)
      case hN=>
       obtain rfl:k=na:=by lia
       exact⟨M,Am _,by lia,pB⟩
      case hY=>
       by_cases e1:(k==0)=true
       ·refine bD e1 ?_;exact Ad ⟨⟨_,rfl⟩,.inl ⟨_,rfl,M1.done (by simpa using e1)⟩⟩
       ·refine a8 e1 ?_;have e1:¬k=0:=by simpa using e1
        exact key _ _ ⟨M1,by rw[BO];exact AZ _ _,by exact abf,pB⟩
      clear pB M1 hlo hhi;obtain⟨M1,h3,l3,pB⟩:=hP
      all_goals
       have hla3:=M1.la;have pA3:na3 - 1<a.size:=by lia
       refine Ab (xc (atB (nb - 1) pB1) ?_);have M2:=M1.preB (by exact fc) pB;have s2:(out3.push b[nb - 1]).size=out3.size+1:=Bj _;by_cases e2:(nb - 1==1)=true
       case' pos=>
        refine bD e2 ?_;exact Ad ⟨⟨_,rfl⟩,.inl ⟨_,rfl,M2.last (by simpa using e2) hb h0⟩⟩
       case' neg=>
        refine a8 e2 ?_;have e2:¬nb - 1=1:=by simpa using e2
        refine Ab (xc (atA (na3 - 1) pA3) ?_);refine Ab (bW O hk (okA (na3 - 1) pA3) (by lia) tB (fun i hi=>⟨tB1 _ (by exact iw),tB3 _ (by lia)⟩) (fun i=>decide (f (tB i)<f a[na3 - 1])) (fun i hi=>by rw[AA rfl]) (fun i j hij hj h=>?_) fun k2 hk2 hlo2 hhi2=>?_)
        ·have:=tB4 (i:=i) (j:=j) (by lia) (by exact iw);simp at h ⊢;lia
        have hlo2:∀i,i<k2->f (tB i)<f a[na3 - 1]:=fun i hi=>by have:=hlo2 i hi;simpa using this
        have hhi2:∀i,k2≤i->i<nb - 1->f a[na3 - 1]≤f (tB i):=fun i hi hj=>by have:=hhi2 i hi hj;simpa using this
        have k1:0<k2:=by
         rcases Nat.eq_zero_or_pos k2 with h | h
         ·exfalso;have h5:=hhi2 0 (by exact pV) (by lia);rw[tB2 _ hb] at h5;have h6:=h0 a[na3 - 1] (by simp);lia
         ·exact h
        have M3:HP f a b (out3.push b[nb - 1]++(b.extract k2 (nb - 1)).reverse) na3 k2:=M2.segB hk2 fun i hi h1 h2 j hj hij=>by have h5:=hhi2 i h1 h2;rw[tB2 _ hi] at h5;exact BH (yp sa (i:=j) (j:=na3 - 1) (CU hij) pA3) h5
        have pA:∀j (hj:j<b.size),j<k2->f b[j]≤f a[na3 - 1]:=fun j hj hij=>by have h5:=hlo2 j hij;rw[tB2 _ hj] at h5;exact BP h5
        dsimp only;generalize ec2:nb - 1 - k2=cn2;obtain⟨o3,eo3⟩:∃o,o=out3.push b[nb - 1]:=⟨_,rfl⟩;obtain⟨nb3,ei3⟩:∃i,i=nb - 1:=⟨_,rfl⟩;have eb:b[nb - 1]=b[nb3]'(by lia):=by subst ei3;rfl
        rw[<-eo3] at s2 M2 M3 ⊢;rw[<-ei3] at M2 M3 ec2 hk2 ⊢;generalize eo0:o3=o0;generalize ej0:nb3=j0;revert j0;revert o0;refine jG (P:=fun(o:Array Keyed) (j:Nat)=>HP f a b o na3 j/\out3.size+1≤o.size/\1<j/\∀j' (hj:j'<b.size),j'<j->f b[j']≤f a[na3 - 1]) (x:=o3) (i:=nb3) (fun out4 nb4 hP=>?tail2) (fun ck=>?hN) (fun ck key=>?hY)
        case hN=>
         obtain rfl:k2=nb3:=by lia
         exact⟨M2,by lia,by lia,pA⟩
        case hY=>
         by_cases e3:(k2==1)=true
         ·refine bD e3 ?_;exact Ad ⟨⟨_,rfl⟩,.inl ⟨_,rfl,M3.last (by simpa using e3) hb h0⟩⟩
         ·refine a8 e3 (a8 (show ¬(k2==0)=true by simp;exact agu) ?_);have e3:¬k2=1:=by simpa using e3
          exact key _ _ ⟨M3,by rw[BO];lia,by lia,pA⟩
        clear pA M3 hlo2 hhi2;obtain⟨M3,h4,l4,pA⟩:=hP
        all_goals
         refine Ab (xc (atA (na3 - 1) pA3) ?_);have M4:=M3.preA l3 pA;have s4:(out4.push a[na3 - 1]).size=out4.size+1:=Bj _;by_cases e4:(na3 - 1==0)=true
         ·refine bD e4 ?_;exact Ad ⟨⟨_,rfl⟩,.inl ⟨_,rfl,M4.done (by simpa using e4)⟩⟩
         ·refine a8 e4 ?_;have e4:¬na3 - 1=0:=by simpa using e4
          split
          ·exact Ad ⟨⟨_,rfl⟩,.inr ⟨_,_,_,_,_,_,rfl,M4,by exact abf,l4,by lia⟩⟩
          ·exact Ad ⟨⟨_,rfl⟩,_,_,_,_,_,_,rfl,M4,by lia,l4,by lia⟩
    ·rintro c st' ⟨⟨g',rfl⟩,na,nb,out',mg',ac,bc,rfl,M,ha',hb',hs''⟩;have:=M.sz;omega
    ·rintro c st' ⟨⟨g',rfl⟩,h⟩;rcases h with⟨r,er,hr⟩ | ⟨na,nb,out2,mg2,ac,bc,rfl,M,ha',hb',hs''⟩
     ·obtain⟨c1,c2⟩:=c;cases er;exact Ad ⟨⟨g',rfl⟩,r,rfl,hr⟩
     ·dsimp only;refine Ab (wpS_modify ?_);exact Ad ⟨⟨_,rfl⟩,_,_,_,_,rfl,M,ha',hb',by lia⟩
 ·rintro c st' ⟨⟨g,rfl⟩,na,nb,out,mg,rfl,M,ha',hb',hs⟩;have:=M.sz;lia
 ·rintro c st' ⟨⟨g,rfl⟩,r,er,hr⟩;obtain⟨c1,c2⟩:=c;cases er;exact Ad (q r g hr)
end
def bM(f:Keyed->Int):List (Nat×Nat×Nat)->List (List Keyed)->Nat->Prop
 |[],[],_=>True
 |(st,n,_)::ps,l::ls,s=>st=s/\n=l.length/\0<l.length/\(l.Pairwise fun x y=>f x≤f y)/\bM f ps ls (s+l.length)
 |_,_,_=>False
theorem bM.split{f:Keyed->Int}:∀{ps:List (Nat×Nat×Nat)} {pre:List (List Keyed)} {A B:List Keyed} {post:List (List Keyed)} {s:Nat},bM f ps (pre++A::B::post) s->
 ∃P1 P2 w1 w2,ps=P1++(s+pre.flatten.length,A.length,w1)::(s+pre.flatten.length+A.length,B.length,w2)::P2/\P1.length=pre.length/\0<A.length/\0<B.length/\(A.Pairwise fun x y=>f x≤f y)/\(B.Pairwise fun x y=>f x≤f y)/\
  ∀C w,C.length=A.length+B.length->(C.Pairwise fun x y=>f x≤f y)->bM f (P1++(s+pre.flatten.length,A.length+B.length,w)::P2) (pre++C::post) s
 |[],[],A,B,post,s,h=>by exact h.elim
 |[_],[],A,B,post,s,h=>by exact h.2.2.2.2.elim
 |(a1,a2,a3)::(b1,b2,b3)::ps,[],A,B,post,s,h=>by
  obtain⟨h1,h2,h3,h4,k1,k2,k3,k4,k5⟩:=h;refine⟨[],ps,a3,b3,?_,rfl,h3,k3,h4,k4,fun C w hC hs=>⟨rfl,hC.symm,by lia,hs,?_⟩⟩
  ·simp[h1,h2,k1,k2]
  ·rw[hC];have:=k5;rw[Ew] at this;exact this
 |[],_::_,A,B,post,s,h=>by exact h.elim
 |(a1,a2,a3)::ps,l::pre,A,B,post,s,h=>by
  obtain⟨h1,h2,h3,h4,k⟩:=h;obtain⟨P1,P2,w1,w2,e,e1,e2,e3,e4,e5,e6⟩:=bM.split k;have en:s+(l::pre).flatten.length=s+l.length+pre.flatten.length:=by simp;simp +arith only
  refine⟨(a1,a2,a3)::P1,P2,w1,w2,?_,by simp[e1],e2,e3,e4,e5,fun C w hC hs=>⟨h1,h2,h3,h4,?_⟩⟩
  ·rw[en,e];rfl
  ·rw[en];exact e6 C w hC hs
theorem aeb{σ:Type}{st st':σ}{Q:PUnit->σ->Prop}(h:Q ⟨⟩ st'):wpS M A E s (set st':StateT σ Sem PUnit) Q st:=by unfold wpS;rw[StateT.run_set];exact Ai ⟨rfl,h⟩
theorem lL{α:Type}:∀(m:List α) (arr:Array α) (i k:Nat),i+k+m.length≤arr.size->((m.zipIdx k).foldl (fun(a:Array α) (pj:α×Nat)=>a.setIfInBounds (i+pj.2) pj.1) arr).toList=arr.toList.take (i+k)++(m++arr.toList.drop (i+k+m.length))
 |[],arr,i,k,h=>by simp
 |x::m,arr,i,k,h=>by
  rw[Ee,List.foldl_cons];simp only[AF] at h;rw[lL m _ i (k+1) (by simp;lia)];have e:(arr.setIfInBounds (i+k) x).toList=arr.toList.set (i+k) x:=by simp
  have l:arr.toList.length=arr.size:=AM;rw[e,List.drop_set,AA (by exact AZ _ _),<-Ew,BD,BM (by lia),List.take_set_of_le (by simp +arith only),AF];simp;congr 1;simp +arith only
structure aw(κ:SortKind)(Ok:Keyed->Prop)(f:Keyed->Int)(st:SortSt)(jf:List (List Keyed))(rest:List Keyed):Prop where
 kind:kindOf st=κ
 failed:failedOf st=none
 arr:(arrOf st).toList=jf.flatten++rest
 pend:bM f (pendingOf st).toList jf 0
 ok:∀x∈(arrOf st).toList,Ok x
section
variable {w:World}{κ:SortKind}{Ok:Keyed->Prop}{f:Keyed->Int}
theorem qP{l:List Keyed}(s:l.Pairwise fun x y=>f x≤f y)(hij:i≤j)(hj:j<l.length):f (l[i]'(by exact iH))≤f l[j]:=by
 rcases DM hij with h | h
 ·exact B7.mp s i j (by exact iH) hj h
 ·subst h;exact Di _
theorem acg{p:Array α}{P1 P2:List α}{u v z:α}(h:p.toList=P1++u::v::P2):((p.setIfInBounds P1.length z).eraseIdxIfInBounds (P1.length+1)).toList=P1++z::P2:=by
 have hs:p.size=P1.length+(P2.length+2):=by rw[<-AM,h];simp
 have h2:P1.length+1<(p.setIfInBounds P1.length z).size:=by rw[Array.size_setIfInBounds];lia
 rw[Array.eraseIdxIfInBounds,dif_pos h2,Array.toList_eraseIdx,Array.toList_setIfInBounds,h,List.set_append_right _ _ (Am _),CF,List.set_cons_zero,Dj (by exact AZ _ _),Cy];rfl
theorem yO(O:yo prog w A s κ Ok f){st:SortSt}{pre post:List (List Keyed)}{X Y rest:List Keyed}{Q:Bool->SortSt->Prop}(G:aw κ Ok f st (pre++X::Y::post) rest)
 (q:∀st' C,aw κ Ok f st' (pre++C::post) rest->C.Perm (X++Y)->Q true st'):wpS (model prog w) A E s (mergeAt' pre.length) Q st:=by
 obtain⟨P1,P2,w1,w2,ep,e1,lX,lY,sX,sY,done⟩:=G.pend.split;simp only[El] at ep done;have a1:(pendingOf st)[pre.length]?=some (pre.flatten.length,X.length,w1):=by rw[<-A1,ep,<-e1,Ak (Am _),CF];rfl
 have a2:(pendingOf st)[pre.length+1]?=some (pre.flatten.length+X.length,Y.length,w2):=by rw[<-A1,ep,<-e1,Ak (by exact AZ _ _),Cy];rfl
 refine Ab (wpS_get ?_);rw[show(sortPriv% PySem.Builtin.SortState.pending) st=pendingOf st from rfl,a1,a2];dsimp only;refine Ab (aeb ?_);have ea:(arrOf st).toList=pre.flatten++(X++(Y++(post.flatten++rest))):=by rw[G.arr];simp
 have atX:∀i (hi:i<X.length),(arrOf st)[pre.flatten.length+i]?=some X[i]:=fun i hi=>by rw[<-A1,ea,Ak (by exact AZ _ _),Cy,Az hi];simp
 have atY:∀i (hi:i<Y.length),(arrOf st)[pre.flatten.length+X.length+i]?=some Y[i]:=fun i hi=>by rw[<-A1,ea,Ak (by simp +arith only),Ak (by omega),Az (by omega)];rw[show pre.flatten.length+X.length+i - pre.flatten.length - X.length=i by omega];simp
 have okX:∀x∈X,Ok x:=fun x hx=>G.ok x (by rw[ea];simp[hx]);have okY:∀x∈Y,Ok x:=fun x hx=>G.ok x (by rw[ea];simp[hx]);have pz:=acg (z:=(pre.flatten.length,X.length+Y.length,w1)) ep;rw[e1] at pz;have good:∀(st':SortSt) (C:List Keyed),kindOf st'=kindOf st->failedOf st'=failedOf st->pendingOf st'=((pendingOf st).setIfInBounds pre.length (pre.flatten.length,X.length+Y.length,w1)).eraseIdxIfInBounds (pre.length+1)->
  (arrOf st').toList=pre.flatten++(C++(post.flatten++rest))->C.Perm (X++Y)->(C.Pairwise fun x y=>f x≤f y)->aw κ Ok f st' (pre++C::post) rest:=fun st' C g1 g2 g3 g4 g5 g6=>by
  refine⟨g1.trans G.kind,g2.trans G.failed,by rw[g4];simp,?_,fun x hx=>?_⟩
  ·rw[g3,pz];exact done C w1 (by rw[g5.length_eq,Ac]) g6
  ·rw[g4] at hx;rcases Aj.mp hx with h | h
   ·exact G.ok x (by rw[ea];exact An _ h)
   ·rcases Aj.mp h with h | h
    ·rcases Aj.mp (g5.mem_iff.mp h) with h | h
     ·exact okX x h
     ·exact okY x h
    ·exact G.ok x (by rw[ea];exact Ah _ (Ah _ (Ah _ h)))
 obtain⟨tX,tX0⟩:∃t:Nat->Keyed,t=fun i=>(X[i]?).getD X[0]:=⟨_,rfl⟩;have tX2:∀i (hi:i<X.length),tX i=X[i]:=fun i hi=>by rw[tX0];simp[hi]
 obtain⟨tY,tY0⟩:∃t:Nat->Keyed,t=fun i=>(Y[i]?).getD X[0]:=⟨_,rfl⟩;have tY2:∀i (hi:i<Y.length),tY i=Y[i]:=fun i hi=>by rw[tY0];simp[hi]
 refine Ab (xc (x:=Y[0]) (by have:=atY 0 lY;simpa using this) ?_);refine Ab (bW O G.kind (okY _ (BZ _)) lX tX (fun i hi=>⟨by rw[tX2 i hi];exact atX i hi,by rw[tX2 i hi];exact okX _ (BZ _)⟩) (fun i=>!decide (f Y[0]<f (tX i))) (fun i hi=>by rw[As (by simp)]) (fun i j hij hj h=>?_) fun k hk1 hlo hhi=>?_)
 ·have:=qP sX hij hj;rw[tX2 j hj] at h;rw[tX2 i (by exact iH)];simp at h ⊢;omega
 have hlo:∀i (hi:i<k),f (X[i]'(by exact xR))≤f Y[0]:=fun i hi=>by have:=hlo i hi;rw[tX2 i (by lia)] at this;simpa using this
 have hhi:∀i (hj:i<X.length),k≤i->f Y[0]<f X[i]:=fun i hj hi=>by have:=hhi i hi hj;rw[tX2 i hj] at this;simpa using this
 dsimp only;by_cases c:(X.length - k==0)=true
 ·rw[AA c];have c:X.length≤k:=by
   have:X.length - k=0:=by simpa using c
   omega
  refine Ad (q _ (X++Y) (good _ _ rfl rfl rfl (by rw[Aw];exact ea) (BQ _) (AO.mpr ⟨sX,sY,fun x hx y hy=>?_⟩)) (BQ _));obtain⟨i,hi,rfl⟩:=A5 hx;obtain⟨j,hj,rfl⟩:=A5 hy;exact BH (hlo i (by exact xR)) (qP sY (Bk _) hj)
 rw[As c];have c:k<X.length:=by
  have:¬X.length - k=0:=by simpa using c
  lia
 refine Ab (xc (x:=X[X.length - 1]) (by have:=atX (X.length - 1) (by lia);rw[show pre.flatten.length+k+(X.length - k) - 1=pre.flatten.length+(X.length - 1) by lia];exact this) ?_);refine Ab (bW O G.kind (okX _ (BZ _)) (by exact pW) tY (fun i hi=>⟨by rw[tY2 i hi];exact atY i hi,by rw[tY2 i hi];exact okY _ (BZ _)⟩) (fun i=>decide (f (tY i)<f X[X.length - 1])) (fun i hi=>by rw[AA rfl]) (fun i j hij hj h=>?_) fun m hm1 hlo2 hhi2=>?_)
 ·have:=qP sY hij hj;rw[tY2 j hj] at h;rw[tY2 i (by exact iH)];simp at h ⊢;omega
 have hlo2:∀i (hi:i<m),f (Y[i]'(by exact xR))<f X[X.length - 1]:=fun i hi=>by have:=hlo2 i hi;rw[tY2 i (by lia)] at this;simpa using this
 have hhi2:∀i (hj:i<Y.length),m≤i->f X[X.length - 1]≤f Y[i]:=fun i hj hi=>by have:=hhi2 i hi hj;rw[tY2 i hj] at this;simpa using this
 have m0:0<m:=by
  rcases Nat.eq_zero_or_pos m with h | h
  ·exfalso;have h5:=hhi2 0 lY (by exact pV);have h6:=hhi (X.length - 1) (by exact pW) (by omega);omega
  ·exact h
 dsimp only;rw[As (show ¬(m==0)=true by simp;exact agu)];have lsz:(arrOf st).size=pre.flatten.length+(X.length+(Y.length+(post.flatten++rest).length)):=by rw[<-AM,ea];simp
 have ex:((arrOf st).extract (pre.flatten.length+k) (pre.flatten.length+X.length)).toList=X.drop k:=by rw[fe,ea,<-Dq,Dr,DB (by lia),CA (by simp;lia),A3 (by simp;lia)]
 have ey:((arrOf st).extract (pre.flatten.length+X.length) (pre.flatten.length+X.length+m)).toList=Y.take m:=by rw[fe,ea,<-Dq,Dr,Dr,show pre.flatten.length+X.length+m - (pre.flatten.length+X.length)=m by lia,CA (by lia)]
 have zx:((arrOf st).extract (pre.flatten.length+k) (pre.flatten.length+X.length)).size=X.length - k:=by rw[<-AM,ex];simp
 have zy:((arrOf st).extract (pre.flatten.length+X.length) (pre.flatten.length+X.length+m)).size=m:=by rw[<-AM,ey];simp;lia
 have q1:∀x∈((arrOf st).extract (pre.flatten.length+k) (pre.flatten.length+X.length)).toList,Ok x:=fun x hx=>okX x (CS (by rw[ex] at hx;exact hx));have q2:∀x∈((arrOf st).extract (pre.flatten.length+X.length) (pre.flatten.length+X.length+m)).toList,Ok x:=fun x hx=>okY x (Bz (by rw[ey] at hx;exact hx));have q3:((arrOf st).extract (pre.flatten.length+k) (pre.flatten.length+X.length)).toList.Pairwise fun x y=>f x≤f y:=by rw[ex];exact sX.sublist (List.drop_sublist _ _)
 have q4:((arrOf st).extract (pre.flatten.length+X.length) (pre.flatten.length+X.length+m)).toList.Pairwise fun x y=>f x≤f y:=by rw[ey];exact sY.sublist (DV _ _)
 have q5:0<((arrOf st).extract (pre.flatten.length+k) (pre.flatten.length+X.length)).size:=by lia
 have q6:0<((arrOf st).extract (pre.flatten.length+X.length) (pre.flatten.length+X.length+m)).size:=by omega
 have y0:((arrOf st).extract (pre.flatten.length+X.length) (pre.flatten.length+X.length+m))[0]=Y[0]:=by
  have:((arrOf st).extract (pre.flatten.length+X.length) (pre.flatten.length+X.length+m)).toList[0]'(by rw[ey,AL];lia)=Y[0]:=by simp only[ey];simp
  rw[<-this];simp
 have xl:((arrOf st).extract (pre.flatten.length+k) (pre.flatten.length+X.length))[((arrOf st).extract (pre.flatten.length+k) (pre.flatten.length+X.length)).size - 1]=X[X.length - 1]:=by
  have:((arrOf st).extract (pre.flatten.length+k) (pre.flatten.length+X.length)).toList[((arrOf st).extract (pre.flatten.length+k) (pre.flatten.length+X.length)).size - 1]'(by rw[ex,zx,A9];lia)=X[X.length - 1]:=by simp only[ex,zx];rw[Cn];congr 1;lia
  rw[<-this];simp
 have q7:∀x∈((arrOf st).extract (pre.flatten.length+k) (pre.flatten.length+X.length)).toList,f ((arrOf st).extract (pre.flatten.length+X.length) (pre.flatten.length+X.length+m))[0]<f x:=fun x hx=>by rw[y0];rw[ex] at hx;obtain⟨i,hi,rfl⟩:=A5 hx;rw[Cn];rw[A9] at hi;exact hhi _ (by lia) (by exact AZ _ _)
 have q8:∀x∈((arrOf st).extract (pre.flatten.length+X.length) (pre.flatten.length+X.length+m)).toList,f x<f ((arrOf st).extract (pre.flatten.length+k) (pre.flatten.length+X.length))[((arrOf st).extract (pre.flatten.length+k) (pre.flatten.length+X.length)).size - 1]:=fun x hx=>by rw[xl];rw[ey] at hx;obtain⟨i,hi,rfl⟩:=A5 hx;rw[Bq];rw[AL] at hi;exact hlo2 _ (by lia)
 have vk:∀(r:Array Keyed) (g:Nat),kc f (X.drop k) (Y.take m) r.toList->Q (failedOf st).isNone (SortSt.mk' (kindOf st) (r.toList.zipIdx.foldl (fun a x=>a.setIfInBounds (pre.flatten.length+k+x.2) x.1) (arrOf st)) (((pendingOf st).setIfInBounds pre.length (pre.flatten.length,X.length+Y.length,w1)).eraseIdxIfInBounds (pre.length+1)) g (failedOf st)):=by
  rintro r g ⟨hm,hs⟩;have lr:r.toList.length=X.length - k+m:=by rw[hm.length_eq];simp;lia
  have ef:(failedOf st).isNone=true:=by rw[G.failed];rfl
  have pm:(X.take k++(r.toList++Y.drop m)).Perm (X++Y):=by
   have h1:(r.toList++Y.drop m).Perm (X.drop k++Y):=by refine((Be (Y.drop m)).mpr hm).trans ?_;rw[Aw,Bg]
   refine((Br (X.take k)).mpr h1).trans ?_;rw[<-Aw,Bg]
  have so:(X.take k++(r.toList++Y.drop m)).Pairwise fun x y=>f x≤f y:=by
   refine AO.mpr ⟨sX.sublist (DV _ _),AO.mpr ⟨hs,sY.sublist (List.drop_sublist _ _),fun x hx y hy=>?_⟩,fun x hx y hy=>?_⟩
   ·obtain⟨j,hj,rfl⟩:=A5 hy;rw[Cn];rw[A9] at hj;rcases Aj.mp (hm.mem_iff.mp hx) with h | h
    ·obtain⟨i,hi,rfl⟩:=A5 h;rw[Cn];rw[A9] at hi;exact BH (qP sX (by lia) (by exact pW)) (hhi2 _ (by lia) (by exact AZ _ _))
    ·obtain⟨i,hi,rfl⟩:=A5 h;rw[Bq];rw[AL] at hi;exact qP sY (by lia) (by lia)
   ·obtain⟨i,hi,rfl⟩:=A5 hx;rw[Bq];rw[AL] at hi;have low:∀z∈Y,f (X[i]'(by lia))≤f z:=fun z hz=>by obtain⟨j,hj,rfl⟩:=A5 hz;exact BH (hlo i (by lia)) (qP sY (Bk _) hj)
    rcases Aj.mp hy with h | h
    ·rcases Aj.mp (hm.mem_iff.mp h) with h | h
     ·obtain⟨j,hj,rfl⟩:=A5 h;rw[Cn];rw[A9] at hj;exact qP sX (by lia) (by lia)
     ·exact low y (Bz h)
    ·exact low y (CS h)
  have pt:=lL r.toList (arrOf st) (pre.flatten.length+k) 0 (by rw[lsz,lr,Ac];lia);have et:(arrOf st).toList.take (pre.flatten.length+k+0)++(r.toList++(arrOf st).toList.drop (pre.flatten.length+k+0+r.toList.length))=pre.flatten++((X.take k++(r.toList++Y.drop m))++(post.flatten++rest)):=by
   have h1:(arrOf st).toList.take (pre.flatten.length+k+0)=pre.flatten++X.take k:=by rw[ea,Nat.add_zero,List.take_length_add_append,CA (by lia)]
   have h2:(arrOf st).toList.drop (pre.flatten.length+k+0+r.toList.length)=Y.drop m++(post.flatten++rest):=by rw[ea,lr,show pre.flatten.length+k+0+(X.length - k+m)=pre.flatten.length+(X.length+m) by lia,<-Dq,Dr,<-Dq,Dr,DB (by lia)]
   rw[h1,h2];simp
  rw[ef];exact q _ _ (good _ _ rfl rfl rfl (pt.trans et) pm so) pm
 split
 ·exact Ab (xN O G.kind q1 q2 q3 q4 q5 q6 q7 q8 fun r g h=>Ab (wpS_modify (Ab (wpS_get (Ad (vk r g (by rw[ex,ey] at h;exact h)))))))
 ·exact Ab (y8 O G.kind q1 q2 q3 q4 q5 q6 q7 q8 fun r g h=>Ab (wpS_modify (Ab (wpS_get (Ad (vk r g (by rw[ex,ey] at h;exact h)))))))
end
theorem sC{arr:Array α}{P R:List α}(h:arr.toList=P++R)(hn:n≤R.length):(mirror arr P.length (P.length+n) ((P.length+n - P.length) / 2)).toList=P++((R.take n).reverse++R.drop n):=by
 have hs:arr.size=P.length+R.length:=by rw[<-AM,h];simp
 refine List.ext_getElem? fun k=>?_;rw[A1,getElem?_mirror_all (by lia)];by_cases c:P.length≤k/\k<P.length+n
 ·rw[AA c,<-A1,h,Ak (by omega),Ak (by lia),Az (by simp;omega),List.getElem?_reverse (by simp;omega),DN,AL,AA (by omega)];congr 1;lia
 ·rw[As c,<-A1,h];by_cases c2:k<P.length
  ·rw[Az c2,Az c2]
  ·rw[Ak (by exact uR),Ak (by omega),Ak (by simp;lia),DO];congr 1;simp;lia
theorem r9{arr:Array α}{P R:List α}{k l:Nat}(h:arr.toList=P++R)(hk:k<R.length)(hl:l≤k):(bubble arr (P.length+k) (P.length+k - (P.length+l))).toList=P++(R.take l++R[k]::((R.drop l).take (k - l)++R.drop (k+1))):=by
 have hs:arr.size=P.length+R.length:=by rw[<-AM,h];simp
 refine List.ext_getElem? fun i=>?_;rw[A1,getElem?_bubble (by lia) _ (by exact Ex _ _),show P.length+k - (P.length+k - (P.length+l))=P.length+l by omega];by_cases c1:i=P.length+l
 ·rw[AA c1,<-A1,h,c1,Ak (by exact AZ _ _),Ak (by exact AZ _ _),Ak (by simp;lia)];rw[show P.length+l - P.length - (R.take l).length=0 by simp;lia,show P.length+k - P.length=k by lia,List.getElem?_cons_zero];simp[hk]
 ·rw[As c1];by_cases c2:P.length+l<i/\i≤P.length+k
  ·rw[AA c2,<-A1,h,Ak (by omega),Ak (by lia),Ak (by simp;lia)];obtain⟨d,hd⟩:∃d,i=P.length+l+d+1:=⟨i - P.length - l - 1,by omega⟩;rw[show i - P.length - (R.take l).length=d+1 by simp;lia,Df,Az (by simp;omega),DN,AA (by omega),DO];congr 1;omega
  ·rw[As c2,<-A1,h];by_cases c3:i<P.length
   ·rw[Az c3,Az c3]
   ·rw[Ak (by exact uR),Ak (by omega)];by_cases c4:i<P.length+l
    ·rw[Az (by simp;lia),DN,AA (by omega)]
    ·obtain⟨d,hd⟩:∃d,i=P.length+k+d+1:=⟨i - P.length - k - 1,by omega⟩;rw[Ak (by simp;lia),show i - P.length - (R.take l).length=(k - l)+d+1 by simp;lia,Df,Ak (by simp;omega),DO];congr 1;simp;lia
section
variable {w:World}{κ:SortKind}{Ok:Keyed->Prop}{f:Keyed->Int}
structure Tl(κ:SortKind)(Ok:Keyed->Prop)(st:SortSt)(P R:List Keyed):Prop where
 kind:kindOf st=κ
 arr:(arrOf st).toList=P++R
 ok:∀x∈R,Ok x
theorem iB(O:yo prog w A s κ Ok f){st:SortSt}{P R:List Keyed}(T:Tl κ Ok st P R)(hi:i<R.length)(hj:j<R.length){a b:Nat}(ea:a=P.length+i)(eb:b=P.length+j){Q:Option Bool->SortSt->Prop}(q:Q (some (decide (f R[i]<f R[j]))) st):wpS (model prog w) A E s (ltAt' a b) Q st:=by
 have at_:∀i (hi:i<R.length),(arrOf st)[P.length+i]?=some R[i]:=fun i hi=>by rw[<-A1,T.arr,Ak (by exact AZ _ _),Cy];simp
 subst ea eb;rw[ltAt'_eq];refine Ab (wpS_get ?_);refine Ab (xc (at_ i hi) (Ab (xc (at_ j hj) ?_)));exact w_lt O T.kind (T.ok _ (BZ _)) (T.ok _ (BZ _)) q
def Up(f:Keyed->Int)(R:List Keyed)(n:Nat):Prop:=∀i j (_:i≤j) (_:j<R.length),j<n->f (R[i]'(by exact iH))≤f R[j]
theorem Up.snoc{R:List Keyed}(h:Up f R n)(h1:1≤n)(hn:n<R.length)(hs:f (R[n - 1]'(by exact mB))≤f R[n]):Up f R (n+1):=fun i j hij hj hjn=>by
 rcases Em j n with c | c
 ·exact h i j hij hj c
 ·have e:j=n:=by lia
  subst e;rcases Em i j with c2 | c2
  ·exact BH (h i (j - 1) (by omega) (by exact mB) (by exact pW)) hs
  ·have e:i=j:=by lia
   subst e;exact Di _
theorem Up.pair{R:List Keyed}(h:Up f R n)(hn:n≤R.length):(R.take n).Pairwise fun x y=>f x≤f y:=by rw[B7];intro i j hi hj hij;rw[AL] at hi hj;rw[Bq,Bq];exact h i j (by exact fc) (by lia) (by lia)
end
section
variable {w:World}{κ:SortKind}{Ok:Keyed->Prop}{f:Keyed->Int}
theorem Tl.same{st:SortSt}{P R R':List Keyed}(T:Tl κ Ok st P R)(p:R'.Perm R){arr:Array Keyed}(h:arr.toList=P++R'):Tl κ Ok (setArr st arr) P R':=⟨T.kind,h,fun x hx=>T.ok x (p.mem_iff.mp hx)⟩
theorem Up.one{R:List Keyed}:Up f R 1:=fun i j hij hj h=>by
 have:i=j:=by lia
 subst this;exact Di _
theorem aez(O:yo prog w A s κ Ok f){st:SortSt}{P R:List Keyed}(T:Tl κ Ok st P R)(h1:1≤R.length)(inj:∀i j (_:i<j) (_:j<R.length),f (R[i]'(by exact iw))≠f R[j]){Q:Option Nat->SortSt->Prop}
 (q:∀n R' arr,1≤n->n≤R.length->R'.Perm R->arr.toList=P++R'->Up f R' n->Q (some n) (setArr st arr)):wpS (model prog w) A E s (countRun' P.length R.length) Q st:=by
 have hst:setArr st (arrOf st)=st:=rfl;refine Ab (AS (AG (I:=fun x c st'=>st'=st/\c=(none,x)/\Up f R x)
  (Q:=fun c st'=>st'=st/\∃n,c=(none,n)/\1≤n/\n≤R.length/\Up f R n/\(n=R.length\/∃h:n<R.length,f R[n]<f (R[n - 1]'(by exact mB)))) ?_ ?_ ⟨rfl,rfl,Up.one⟩) ?_)
 ·rintro x c st' hx1 hx ⟨rfl,rfl,U⟩;dsimp only;refine Ab (iB O T (i:=x) (j:=x - 1) hx (by exact mB) rfl (by lia) ?_);dsimp only;by_cases c:f R[x]<f (R[x - 1]'(by omega))
  ·rw[AE c,AA rfl];exact Ad ⟨rfl,x,rfl,hx1,by exact fc,U,.inr ⟨hx,c⟩⟩
  ·rw[Au c,As (by simp)];exact Ad ⟨rfl,rfl,U.snoc hx1 hx (by omega)⟩
 ·rintro c st' ⟨rfl,rfl,U⟩;exact⟨rfl,_,rfl,by lia,by lia,by rw[Dz h1] at *;exact U,.inl (by lia)⟩
 ·rintro c st' ⟨rfl,n,rfl,hn1,hn2,U,hend⟩;dsimp only;by_cases c1:(n==R.length)=true
  ·rw[AA c1];exact Ad (q n R (arrOf st') hn1 hn2 (BQ _) T.arr U)
  rw[As c1];have c1:¬n=R.length:=by simpa using c1
  have hnl:n<R.length:=by exact yV
  by_cases c2:n > 1
  ·rw[AA c2];refine Ab (iB O T (i:=0) (j:=n - 1) (by assumption) (by exact mB) rfl (by omega) ?_);have:f R[0]<f (R[n - 1]'(by omega)):=by have h3:=U 0 (n - 1) (by exact C5 _ _) (by omega) (by exact pW);have h4:=inj 0 (n - 1) (by omega) (by exact mB);omega
   dsimp only;rw[AE this,AA rfl];exact Ad (q n R (arrOf st') hn1 hn2 (BQ _) T.arr U)
  rw[As c2];obtain rfl:n=1:=by lia
  refine Ab (wpS_lift (Bl ⟨rfl,?_⟩));have hd:f R[1]<f R[0]:=by
   rcases hend with h | ⟨h,h'⟩
   ·omega
   ·exact h'
  refine Ab (AS (AG (I:=fun x c st''=>st''=st'/\c=(none,x,0)/\∀i j (_:i≤j) (_:j<R.length),j<x->f R[j]≤f (R[i]'(by exact iH)))
   (Q:=fun c st''=>st''=st'/\∃n,c=(none,n,0)/\2≤n/\n≤R.length/\∀i j (_:i≤j) (_:j<R.length),j<n->f R[j]≤f (R[i]'(by omega))) ?_ ?_ ⟨rfl,rfl,?_⟩) ?_)
  ·rintro x c st'' hx1 hx ⟨rfl,rfl,D⟩;dsimp only;refine Ab (iB O T (i:=x) (j:=x - 1) hx (by exact mB) rfl (by lia) ?_);dsimp only;by_cases c:f R[x]<f (R[x - 1]'(by omega))
   ·rw[AE c,AA rfl,As (by simp)];refine Ad ⟨rfl,rfl,fun i j hij hj hjx=>?_⟩;rcases Em j x with h | h
    ·exact D i j hij hj h
    ·have e:j=x:=by lia
     subst e;rcases Em i j with h2 | h2
     ·exact BH (BP c) (D i (j - 1) (by omega) (by exact mB) (by omega))
     ·have e:i=j:=by lia
      subst e;exact Di _
   ·rw[Au c,As (by simp)];refine Ab (iB O T (i:=x - 1) (j:=x) (by omega) hx (by lia) rfl ?_);have h4:=inj (x - 1) x (by omega) hx;have:f (R[x - 1]'(by omega))<f R[x]:=by lia
    dsimp only;rw[AE this,AA rfl];exact Ad ⟨rfl,x,rfl,by omega,by exact fc,D⟩
  ·rintro c st'' ⟨rfl,rfl,D⟩;exact⟨rfl,_,rfl,by lia,by lia,D⟩
  ·intro i j hij hj hjx;have:j=0\/j=1:=by lia
   rcases this with rfl | rfl
   ·have:i=0:=by lia
    subst this;exact Di _
   ·have:i=0\/i=1:=by lia
    rcases this with rfl | rfl
    ·exact BP hd
    ·exact Di _
  ·rintro c st'' ⟨rfl,n,rfl,g1,g2,D⟩;dsimp only;rw[As (by simp)];have T':=T.same (R':=(R.take n).reverse++R.drop n) (((Be _).mpr (List.reverse_perm _)).trans (by rw[Bg])) (sC T.arr g2);obtain⟨R',eR⟩:∃R',R'=(R.take n).reverse++R.drop n:=⟨_,rfl⟩;have pR:R'.Perm R:=by rw[eR];exact((Be _).mpr (List.reverse_perm _)).trans (by rw[Bg])
   have lR:R'.length=R.length:=pR.length_eq;have U':Up f R' n:=fun i j hij hj hjn=>by
    subst eR;rw[Ec (by simp;lia),Ec (by simp;lia),List.getElem_reverse,List.getElem_reverse,Bq,Bq];refine D _ _ ?_ (by simp;omega) ?_
    ·simp;omega
    ·simp;omega
   rw[<-eR] at T';refine Ab (wpS_modify ?_);refine Ab (AS (AG (I:=fun x c sx=>sx=setArr st'' (mirror (arrOf st'') P.length (P.length+n) ((P.length+n - P.length) / 2))/\c=(none,x)/\Up f R' x)
    (Q:=fun c sx=>sx=setArr st'' (mirror (arrOf st'') P.length (P.length+n) ((P.length+n - P.length) / 2))/\∃n,c=(none,n)/\1≤n/\n≤R.length/\Up f R' n) ?_ ?_ ⟨rfl,rfl,U'⟩) ?_)
   ·rintro x c sx hx1 hx ⟨rfl,rfl,U⟩;dsimp only;refine Ab (iB O T' (i:=x) (j:=x - 1) (by lia) (by omega) rfl (by lia) ?_);dsimp only;by_cases c:f (R'[x]'(by omega))<f (R'[x - 1]'(by omega))
    ·rw[AE c,AA rfl];exact Ad ⟨rfl,x,rfl,by exact ah7,by exact fc,U⟩
    ·rw[Au c,As (by simp)];exact Ad ⟨rfl,rfl,U.snoc (by omega) (by lia) (by omega)⟩
   ·rintro c sx ⟨rfl,rfl,U⟩;exact⟨rfl,_,rfl,by lia,by lia,U⟩
   ·rintro c sx ⟨rfl,n,rfl,k1,k2,U⟩;exact Ad (q n R' _ k1 k2 pR T'.arr U)
end
section
variable {w:World}{κ:SortKind}{Ok:Keyed->Prop}{f:Keyed->Int}
theorem Up.of{R:List Keyed}(h:(R.take n).Pairwise fun x y=>f x≤f y):Up f R n:=fun i j hij hj hjn=>by have:=qP h (i:=i) (j:=j) hij (by simp;lia);rw[Bq,Bq] at this;exact this
theorem abh{R:List Keyed}{k l:Nat}(hk:k<R.length)(hl:l≤k):(R.take l++R[k]::((R.drop l).take (k - l)++R.drop (k+1))).Perm R:=by
 have e:R=R.take l++((R.drop l).take (k - l)++(R[k]::R.drop (k+1))):=by rw[<-Aw,adw _ hl,<-BU hk,Bg]
 refine List.Perm.trans ?_ (List.Perm.of_eq e.symm);exact(Br _).mpr B3.symm
theorem ajg{R:List Keyed}{k l:Nat}(hk:k<R.length)(hl:l≤k)(U:Up f R k)(lo:∀i (_:i<l),f (R[i]'(by lia))≤f R[k])(hi:∀i (_:i<k),l≤i->f R[k]≤f (R[i]'(by exact iw))):
 Up f (R.take l++R[k]::((R.drop l).take (k - l)++R.drop (k+1))) (k+1):=by
 apply Up.of;have e:R.take l++R[k]::((R.drop l).take (k - l)++R.drop (k+1))=(R.take l++R[k]::(R.drop l).take (k - l))++R.drop (k+1):=by simp
 rw[e,List.take_left' (by simp;lia)];have ab:=U.pair (Bd hk);rw[<-adw R hl] at ab;have ab:=AO.mp ab;have hB:∀y∈(R.drop l).take (k - l),f R[k]≤f y:=fun y hy=>by obtain⟨j,hj,rfl⟩:=A5 hy;rw[AL,A9] at hj;rw[Bq,Cn];exact hi (l+j) (by lia) (by exact AZ _ _)
 have hA:∀x∈R.take l,f x≤f R[k]:=fun x hx=>by obtain⟨j,hj,rfl⟩:=A5 hx;rw[AL] at hj;rw[Bq];exact lo j (by lia)
 refine AO.mpr ⟨ab.1,List.pairwise_cons.mpr ⟨hB,ab.2.1⟩,fun x hx y hy=>?_⟩;rcases Ap.mp hy with rfl | hy
 ·exact hA x hx
 ·exact ab.2.2 x hx y hy
theorem amb(O:yo prog w A s κ Ok f){st:SortSt}{P R:List Keyed}(T:Tl κ Ok st P R){ok:Nat}(hn:n≤R.length)(h1:1≤ok)(ho:ok≤n)(U:Up f R ok){Q:Bool->SortSt->Prop}
 (q:∀R' arr,R'.Perm R->arr.toList=P++R'->Up f R' n->Q true (setArr st arr)):wpS (model prog w) A E s (binarySort' P.length n ok) Q st:=by
 have hst:setArr st (arrOf st)=st:=rfl;refine Ab (AS (AG (I:=fun x c st'=>c=(none,())/\∃R' arr,st'=setArr st arr/\R'.Perm R/\arr.toList=P++R'/\Up f R' x)
  (Q:=fun c st'=>c=(none,())/\∃R' arr,st'=setArr st arr/\R'.Perm R/\arr.toList=P++R'/\Up f R' n) ?_ ?_ ⟨rfl,R,arrOf st,rfl,BQ _,T.arr,by rw[DD h1];exact U⟩) ?_)
 ·rintro x c st' hx1 hx ⟨rfl,R',arr,rfl,pR,eA,U'⟩;have T':=T.same pR eA;have lR:R'.length=R.length:=pR.length_eq;have hxl:x<R'.length:=by lia
  dsimp only;refine Ab (AS (AG (I:=fun y c st'=>st'=setArr st arr/\∃l r,c=(none,l,r)/\l≤r/\r≤x/\r - l+y≤x/\(∀i (_:i<l) (_:i<R'.length),f R'[i]≤f R'[x])/\(∀i (_:i<x),r≤i->f R'[x]≤f (R'[i]'(by exact iw))))
   (Q:=fun c st'=>st'=setArr st arr/\∃l,c=(none,l,l)/\l≤x/\(∀i (_:i<l) (_:i<R'.length),f R'[i]≤f R'[x])/\(∀i (_:i<x),l≤i->f R'[x]≤f (R'[i]'(by lia)))) ?_ ?_ ⟨rfl,0,x,rfl,Bk _,Am _,by exact Ex _ _,fun i h=>by lia,fun i h h'=>by omega⟩) ?_)
  ·rintro y c st' _ hy ⟨rfl,l,r,rfl,g1,g2,g3,g4,g5⟩;dsimp only;by_cases c:l≥r
   ·rw[AA c];obtain rfl:l=r:=by lia
    exact Ad ⟨rfl,l,rfl,g2,g4,g5⟩
   ·rw[As c];refine Ab (iB O T' (i:=x) (j:=(l+r) / 2) hxl (by lia) rfl rfl ?_);dsimp only;by_cases e:f R'[x]<f (R'[(l+r) / 2]'(by lia))
    ·rw[AE e,AA rfl];refine Ad ⟨rfl,l,(l+r) / 2,rfl,by lia,by lia,by omega,g4,fun i h h'=>?_⟩;exact BH (BP e) (U' _ _ h' (by exact iw) h)
    ·rw[Au e,As (by simp)];refine Ad ⟨rfl,(l+r) / 2+1,r,rfl,by lia,g2,by omega,fun i h h'=>?_,g5⟩;exact BH (U' i ((l+r) / 2) (by exact amt) (by lia) (by lia)) (by omega)
  ·rintro c st' ⟨rfl,l,r,rfl,g1,g2,g3,g4,g5⟩;obtain rfl:l=r:=by lia
   exact⟨rfl,l,rfl,g2,g4,g5⟩
  ·rintro c st' ⟨rfl,l,rfl,g2,g4,g5⟩;dsimp only;refine Ab (wpS_modify ?_);exact Ad ⟨rfl,_,_,rfl,(abh hxl g2).trans pR,r9 eA hxl g2,ajg hxl g2 U' (fun i h=>g4 i h (by lia)) g5⟩
 ·rintro c st' ⟨rfl,R',arr,rfl,pR,eA,U'⟩;exact⟨rfl,R',arr,rfl,pR,eA,by rw[DD h1,Dz ho] at U';exact U'⟩
 ·rintro c st' ⟨rfl,R',arr,rfl,pR,eA,U'⟩;exact Ad (q R' arr pR eA U')
end
section
variable {w:World}{κ:SortKind}{Ok:Keyed->Prop}{f:Keyed->Int}
theorem bM.len:∀{ps:List (Nat×Nat×Nat)} {jf:List (List Keyed)} {s:Nat},bM f ps jf s->ps.length=jf.length/\jf.length≤jf.flatten.length
 |[],[],_,_=>⟨rfl,Am _⟩
 |_::_,[],_,h=>h.elim
 |[],_::_,_,h=>h.elim
 |(_,_,_)::ps,l::ls,s,h=>by obtain⟨_,_,h3,_,k⟩:=h;have:=bM.len k;rw[AF,AF,CP,Ac];lia
theorem bM.repow{w:Nat}:∀{ps:List (Nat×Nat×Nat)} {jf:List (List Keyed)} {s:Nat} (i:Nat),bM f ps jf s->bM f (ps.modify i fun p=>(p.1,p.2.1,w)) jf s
 |[],[],_,i,_=>by simp[bM]
 |_::_,[],_,_,h=>h.elim
 |[],_::_,_,_,h=>h.elim
 |(_,_,_)::ps,l::ls,s,0,h=>h
 |(_,_,_)::ps,l::ls,s,i+1,h=>by obtain⟨h1,h2,h3,h4,k⟩:=h;exact⟨h1,h2,h3,h4,bM.repow i k⟩
theorem bM.snoc{l:List Keyed}(hl:0<l.length)(hs:l.Pairwise fun x y=>f x≤f y):∀{ps:List (Nat×Nat×Nat)} {jf:List (List Keyed)} {s:Nat},bM f ps jf s->∀{m:Nat},m=s+jf.flatten.length->bM f (ps++[(m,l.length,0)]) (jf++[l]) s
 |[],[],_,_,m,e=>⟨by simpa using e,rfl,hl,hs,trivial⟩
 |_::_,[],_,h,_,_=>h.elim
 |[],_::_,_,h,_,_=>h.elim
 |(_,_,_)::ps,l'::ls,s,h,m,e=>by obtain⟨h1,h2,h3,h4,k⟩:=h;exact⟨h1,h2,h3,h4,bM.snoc hl hs k (by rw[e];simp;simp +arith only)⟩
theorem ahg{l:List α}(h:i+1<l.length):l=l.take i++l[i]::l[i+1]::l.drop (i+2):=by rw[<-BU h,<-BU (by omega),Bg]
theorem sK(O:yo prog w A s κ Ok f){st:SortSt}{jf:List (List Keyed)}{rest:List Keyed}{Q:Bool->SortSt->Prop}(G:aw κ Ok f st jf rest)(hi:i+1<jf.length)
 (q:∀st' segs',aw κ Ok f st' segs' rest->segs'.flatten.Perm jf.flatten->segs'.length+1=jf.length->Q true st'):wpS (model prog w) A E s (mergeAt' i) Q st:=by
 have e:=ahg hi;have li:(jf.take i).length=i:=by simp;lia
 rw[e] at G;have pf:∀C:List Keyed,C.Perm (jf[i]++jf[i+1])->(jf.take i++C::jf.drop (i+2)).flatten.Perm jf.flatten:=fun C pC=>by have e2:jf.flatten=(jf.take i++jf[i]::jf[i+1]::jf.drop (i+2)).flatten:=BC List.flatten e;rw[e2,C0,C0,CP,CP,CP];refine(Br _).mpr ?_;rw[<-Aw];exact(Be _).mpr pC
 have:=yO O (E:=E) (Q:=Q) G fun st' C G' pC=>q st' _ G' (pf C pC) (by simp;lia);rw[li] at this;exact this
theorem aw.push{st:SortSt}{jf:List (List Keyed)}{rest:List Keyed}(G:aw κ Ok f st jf rest)(hn:n≤rest.length)(h1:1≤n)(U:Up f rest n):aw κ Ok f (setPending st ((pendingOf st).push (jf.flatten.length,n,0))) (jf++[rest.take n]) (rest.drop n):=by
 refine⟨G.kind,G.failed,?_,?_,G.ok⟩
 ·have:=G.arr;show(arrOf st).toList=_;rw[this,C0,Aw];simp
 ·show bM f ((pendingOf st).push _).toList _ 0;rw[CO];have:=bM.snoc (l:=rest.take n) (by simp;lia) (U.pair hn) G.pend (m:=jf.flatten.length) (by simp +arith only);rw[show(rest.take n).length=n by simp;lia] at this;exact this
theorem aw.repow{st:SortSt}{jf:List (List Keyed)}{rest:List Keyed}{w:Nat}(G:aw κ Ok f st jf rest):aw κ Ok f (setPending st ((pendingOf st).modify i fun p=>(p.1,p.2.1,w))) jf rest:=by refine⟨G.kind,G.failed,G.arr,?_,G.ok⟩;show bM f ((pendingOf st).modify i fun p=>(p.1,p.2.1,w)).toList _ 0;rw[Array.toList_modify];exact G.pend.repow i
theorem aw.set{st:SortSt}{jf:List (List Keyed)}{rest R:List Keyed}{arr:Array Keyed}(G:aw κ Ok f st jf rest)(p:R.Perm rest)(e:arr.toList=jf.flatten++R):aw κ Ok f (setArr st arr) jf R:=
 ⟨G.kind,G.failed,e,G.pend,fun x hx=>G.ok x (by
  have hx:x∈arr.toList:=hx;rw[e] at hx;rw[G.arr];rcases Aj.mp hx with h | h
  ·exact An _ h
  ·exact Ah _ (p.mem_iff.mp h))⟩
theorem abu(O:yo prog w A s κ Ok f){st:SortSt}{Q:Unit->SortSt->Prop}(hk:kindOf st=κ)(hp:pendingOf st=#[])(hf:failedOf st=none)(ok:∀x∈(arrOf st).toList,Ok x)(inj:((arrOf st).toList.map f).Nodup)
 (q:∀st',failedOf st'=none->(arrOf st').toList.Perm (arrOf st).toList->((arrOf st').toList.Pairwise fun x y=>f x≤f y)->Q () st'):wpS (model prog w) A E s sortRuns' Q st:=by
 refine Ab (wpS_get ?_);dsimp only;have G0:aw κ Ok f st [] (arrOf st).toList:=⟨hk,hf,rfl,by rw[hp];trivial,ok⟩;obtain⟨N,eN⟩:∃N,N=(arrOf st).size:=⟨_,rfl⟩;rw[<-eN];generalize hmr:(sortPriv% PySem.Builtin.minRun) N N 0=mr;refine Ab (AS (AG (I:=fun x c st'=>∃jf rest lo,c=(none,lo)/\aw κ Ok f st' jf rest/\lo=jf.flatten.length/\(jf.flatten++rest).Perm (arrOf st).toList/\x≤lo)
  (Q:=fun c st'=>∃jf lo,c=(none,lo)/\aw κ Ok f st' jf []/\jf.flatten.Perm (arrOf st).toList) ?_ ?_ ⟨[],(arrOf st).toList,0,rfl,G0,rfl,BQ _,Am _⟩) ?_)
 ·rintro x c st' _ hx ⟨jf,rest,lo,rfl,G,elo,pm,hxl⟩;dsimp only;have lt:jf.flatten.length+rest.length=N:=by have h1:=pm.length_eq;have h2:(arrOf st).toList.length=(arrOf st).size:=AM;rw[Ac] at h1;lia
  by_cases c:lo≥N
  ·rw[AA c];have:rest=[]:=CB (by lia);subst this;exact Ad ⟨jf,lo,rfl,G,by simpa using pm⟩
  rw[As c];subst elo;have er:N - jf.flatten.length=rest.length:=by lia
  rw[er];have T:Tl κ Ok st' jf.flatten rest:=⟨G.kind,G.arr,fun x hx=>G.ok x (by rw[G.arr];exact Ah _ hx)⟩;have nd:(rest.map f).Nodup:=by have h2:=(pm.map f).nodup_iff.mpr inj;rw[AC,AH] at h2;exact h2.2.1
  have inj':∀i j (_:i<j) (_:j<rest.length),f (rest[i]'(by exact iw))≠f rest[j]:=fun i j hij hj e=>by have h2:=B7.mp nd i j (by simp;exact iw) (by simpa using hj) hij;simp at h2;exact h2 e
  refine Ab (aez O T (by lia) inj' fun n R1 arr1 g1 g2 pR1 eA1 U1=>?_);dsimp only;have T1:=T.same pR1 eA1;have G1:=G.set pR1 eA1;have l1:R1.length=rest.length:=pR1.length_eq;by_cases cm:n<mr
  case' pos=>
   rw[AA cm];refine Ab (wpS_lift (Bl ⟨rfl,?_⟩));refine Ab (amb O T1 (by lia) g1 (by lia) U1 fun R2 arr2 pR2 eA2 U2=>?_);rw[As (by simp)];have G2:=G1.set pR2 eA2;obtain⟨n2,en2⟩:∃n2,n2=min rest.length mr:=⟨_,rfl⟩;rw[<-en2] at U2 ⊢;have p2:R2.Perm rest:=pR2.trans pR1;have k1:1≤n2:=by lia
   have k2:n2≤rest.length:=by lia
   obtain⟨st2,es2⟩:∃st2,st2=setArr (setArr st' arr1) arr2:=⟨_,rfl⟩;rw[<-es2] at G2 ⊢
  case' neg=>
   rw[As cm];have G2:=G1;obtain⟨n2,en2⟩:∃n2,n2=n:=⟨_,rfl⟩;obtain⟨R2,eR2⟩:∃R2,R2=R1:=⟨_,rfl⟩;rw[<-en2] at U1 ⊢;rw[<-eR2] at G2;have U2:Up f R2 n2:=by rw[eR2];exact U1
   have p2:R2.Perm rest:=by rw[eR2];exact pR1
   have k1:1≤n2:=by lia
   have k2:n2≤rest.length:=by lia
   obtain⟨st2,es2⟩:∃st2,st2=setArr st' arr1:=⟨_,rfl⟩;rw[<-es2] at G2 ⊢
  all_goals
   have l2:R2.length=rest.length:=p2.length_eq;have vk:∀(st3:SortSt) (segs3:List (List Keyed)),aw κ Ok f st3 segs3 R2->segs3.flatten.Perm jf.flatten->∃segs' rest' lo',((none,jf.flatten.length+n2):Option Unit×Nat)=(none,lo')/\aw κ Ok f (setPending st3 ((pendingOf st3).push (jf.flatten.length,n2,0))) segs' rest'/\lo'=segs'.flatten.length/\(segs'.flatten++rest').Perm (arrOf st).toList/\x+1≤lo':=fun st3 segs3 G3 p3=>by
    have G4:=G3.push (by lia) k1 U2;rw[p3.length_eq] at G4;refine⟨_,_,_,rfl,G4,?_,?_,by exact akh⟩
    ·rw[C0,Ac,p3.length_eq];simp;lia
    ·have:(segs3++[R2.take n2]).flatten++R2.drop n2=segs3.flatten++R2:=by simp
     rw[this];exact((Be R2).mpr p3).trans (((Br _).mpr p2).trans pm)
   refine Ab (wpS_get ?_);split
   ·refine Ab (AS (AG (I:=fun y c st3=>c=(none,())/\∃segs3,aw κ Ok f st3 segs3 R2/\segs3.flatten.Perm jf.flatten)
     (Q:=fun c st3=>c=(none,())/\∃segs3,aw κ Ok f st3 segs3 R2/\segs3.flatten.Perm jf.flatten) ?_ ?_ ⟨rfl,jf,G2,BQ _⟩) ?_)
    ·rintro y c st3 _ hy ⟨rfl,segs3,G3,p3⟩;have pl:=G3.pend.len.1;have pl2:(pendingOf st3).size=segs3.length:=by rw[<-pl,AM]
     refine Ab (wpS_get ?_);by_cases cs:(pendingOf st3).size > 1
     ·rw[AA cs];split
      ·split
       ·exact Ad ⟨rfl,segs3,G3,p3⟩
       ·refine Ab (sK O G3 (by show(pendingOf st3).size - 2+1<segs3.length;lia) fun st4 segs4 G4 p4 l4=>?_);rw[As (by simp)];exact Ad ⟨rfl,segs4,G4,p4.trans p3⟩
      ·exact Ad ⟨rfl,segs3,G3,p3⟩
     ·rw[As cs];exact Ad ⟨rfl,segs3,G3,p3⟩
    ·rintro c st3 h;exact h
    ·rintro c st3 ⟨rfl,segs3,G3,p3⟩;dsimp only;refine Ab (wpS_modify (Ab (wpS_modify (Ad ?_))));exact vk _ segs3 G3.repow p3
   ·exact Ab (wpS_modify (Ad (vk st2 jf G2 (BQ _))))
 ·rintro c st' ⟨jf,rest,lo,rfl,G,elo,pm,hxl⟩;have lt:jf.flatten.length+rest.length=N:=by have h1:=pm.length_eq;have h2:(arrOf st).toList.length=(arrOf st).size:=AM;rw[Ac] at h1;lia
  have:rest=[]:=CB (by lia);subst this;exact⟨jf,lo,rfl,G,by simpa using pm⟩
 ·rintro c st' ⟨jf,lo,rfl,G,pm⟩;dsimp only;have ls:jf.length≤N:=by have h1:=G.pend.len.2;have h3:=pm.length_eq;have h2:(arrOf st).toList.length=(arrOf st).size:=AM;lia
  refine Ab (AS (AG (I:=fun y c st3=>c=(none,())/\∃segs3,aw κ Ok f st3 segs3 []/\segs3.flatten.Perm (arrOf st).toList/\segs3.length+y≤N)
   (Q:=fun c st3=>c=(none,())/\∃segs3,aw κ Ok f st3 segs3 []/\segs3.flatten.Perm (arrOf st).toList/\segs3.length≤1) ?_ ?_ ⟨rfl,jf,G,pm,by omega⟩) ?_)
  ·rintro y c st3 _ hy ⟨rfl,segs3,G3,p3,h3⟩;have pl:=G3.pend.len.1;have pl2:(pendingOf st3).size=segs3.length:=by rw[<-pl,AM]
   refine Ab (wpS_get ?_);by_cases cs:(pendingOf st3).size≤1
   ·rw[AA cs];exact Ad ⟨rfl,segs3,G3,p3,by lia⟩
   ·rw[As cs];refine Ab (sK O G3 ?_ fun st4 segs4 G4 p4 l4=>?_)
    ·have gen:∀b:Bool,(if b=true then(pendingOf st3).size - 2 - 1 else(pendingOf st3).size - 2)+1<segs3.length:=fun b=>by cases b with|true=>rw[AA rfl];omega|false=>rw[As (by simp)];lia
     exact gen _
    ·rw[As (by simp)];exact Ad ⟨rfl,segs4,G4,p4.trans p3,by lia⟩
  ·rintro c st3 ⟨rfl,segs3,G3,p3,h3⟩;exact⟨rfl,segs3,G3,p3,by lia⟩
  ·rintro c st3 ⟨rfl,segs3,G3,p3,h3⟩;refine Ad (q st3 G3.failed ?_ ?_)
   ·rw[G3.arr,AI];exact p3
   ·rw[G3.arr,AI]
    match segs3,h3,G3.pend with
    |[],_,_=>simp
    |[l],_,h=>
     rw[CP,List.flatten_nil,AI];cases hps:(pendingOf st3).toList with
     |nil=>rw[hps] at h;exact h.elim
     |cons p ps=>
      rw[hps] at h;obtain⟨p1,p2,p3⟩:=p;exact h.2.2.2.1
end
open PySem PyProof.Rows PySem.W
def am8(h:Heap)(B:Int)(x:Keyed):Prop:=∃a o n r p t u,x.1=.ref a/\h.get? a=some o/\o.data=.seq #[.int r t,.int p u] n/\0≤p/\p<B
noncomputable def num(h:Heap)(B:Int)(x:Keyed):Int:=match x.1 with
 |.ref a=>match h.get? a with
  |some o=>match o.data with
   |.seq xs _=>match xs.toList with
    |[.int r _,.int p _]=>r*B+p
    |_=>0
   |_=>0
  |none=>0
 |_=>0
theorem num_of{x:Keyed}{a:Addr}{o:Obj}{r p:Int}{t u:Tok}(e1:x.1=.ref a)(e2:h.get? a=some o)(e3:o.data=.seq #[.int r t,.int p u] n):num h B x=r*B+p:=by unfold num;simp[e1,e2,e3]
theorem rE{w:World} :yo prog w A s (tuples' true) (am8 s.heap B) (num s.heap B):=by
 constructor;rintro x y ⟨a1,o1,n1,r1,p1,t1,u1,e1,g1,d1,b1,c1⟩ ⟨a2,o2,n2,r2,p2,t2,u2,e2,g2,d2,b2,c2⟩ E Q h;rw[num_of e1 g1 d1,num_of e2 g2 d2] at h;rw[e1,e2];refine kat_lt g1 d1 g2 d2 ?_;show KatLex prog w A true _ Q [(.int r1 t1,.int r2 t2),(.int p1 u1,.int p2 u2)] 0 s;refine kat_cons (wpAny_eqBool_int ?_);by_cases c:r1=r2
 ·subst c;rw[beq_self_eq_true];refine kat_yes (kat_cons (wpAny_eqBool_int ?_));by_cases c':p1=p2
  ·subst c';rw[beq_self_eq_true];refine kat_yes (kat_nil ?_);have e:decide (r1*B+p1<r1*B+p1)=false:=Au (by lia);rw[e] at h;exact h
  ·rw[Er c'];refine kat_no (kat_one _ _ (PyProof.Rows.lt_int ?_));have e:decide (r1*B+p1<r1*B+p2)=decide (p1<p2):=by
    by_cases z:p1<p2
    ·rw[AE z];exact AE (by lia)
    ·rw[Au z];exact Au (by lia)
   rw[e] at h;exact h
 ·rw[Er c];refine kat_no (oneLt_int ?_);have e:decide (r1*B+p1<r2*B+p2)=decide (r1<r2):=by
   by_cases z:r1<r2
   ·rw[AE z];have h5:(r1+1)*B≤r2*B:=Cz (by assumption) (by lia);rw[Int.add_mul,Int.one_mul] at h5;exact AE (by omega)
   ·rw[Au z];have h5:(r2+1)*B≤r1*B:=Cz (by lia) (by lia);rw[Int.add_mul,Int.one_mul] at h5;exact Au (by lia)
  rw[e] at h;exact h
section
variable {w:World} 
def eB(h:Heap)(B:Int)(v:Value):Prop:=∃a o n r p t u,v=.ref a/\h.get? a=some o/\o.cls=.type "tuple" /\ o.data=.seq #[.int r t,.int p u] n/\0≤p/\p<B
theorem eB.pair{x:Keyed}(k:eB h B x.1):am8 h B x:=by obtain⟨a,o,n,r,p,t,u,e1,e2,_,e3,e4,e5⟩:=k;exact⟨a,o,n,r,p,t,u,e1,e2,e3,e4,e5⟩
theorem tups{h:Heap}{B:Int}:∀{ks:List Value},(∀v∈ks,eB h B v)->∃fs,KatTups h ks fs/\fs.length=ks.length/\∀v∈fs,∃r t,v=Value.int r t
 |[],_=>⟨[],trivial,rfl,fun v hv=>by simp at hv⟩
 |k::ks,hk=>by
  obtain⟨fs,h1,h2,h3⟩:=tups (ks:=ks) fun v hv=>hk v (Ag _ hv);obtain⟨a,o,n,r,p,t,u,rfl,e2,e3,e4,_,_⟩:=hk k (Aq ..);refine⟨.int r t::fs,KatTups.cons e2 e3 e4 rfl h1,by simp[h2],fun v hv=>?_⟩;rcases Ap.mp hv with rfl | hv
  ·exact⟨r,t,rfl⟩
  ·exact h3 v hv
theorem aab{ks:List Value}{Q:SortKind->Shared->Prop}(hk:∀v∈ks,eB s.heap B v)(h0:0<ks.length)(q:Q (tuples' true) s):wpAny (model prog w) A (keyKind' ks.toArray) Q E s:=by
 obtain⟨fs,h1,h2,h3⟩:=tups hk;refine kat_kind (T:=.type "int") h1 (by lia) (fun v hv=>?_) (by decide) ?_
 ·obtain⟨r,t,rfl⟩:=h3 v hv;exact .now
 ·exact q
theorem qR{R:α->α->Prop}:∀{l:List α},l.length<2->l.Pairwise R
 |[],_=>List.Pairwise.nil
 |[_],_=>List.pairwise_singleton _ _
 |_::_::_,h=>absurd h (by simp)
theorem amo{a kS:Addr}{ks:List Value}{e e1:Nat}{P:PySem.Fin->Shared->Prop}(hkS:s.heap.get? kS=some (seqObj "list" ks.toArray e))(ha:s.heap.get? a=some (seqObj "list" #[] e1))(hka:kS≠a)(hl:ks.length=vs.length)(hz:vs.length≤sizeLine)
 (hk:∀v∈ks,eB s.heap B v) (inj:((ks.zip vs).map (num s.heap B)).Nodup)
 (h:∀h' tk (xs:List Keyed) c,(∀b,b≠kS->b≠a->h'.get? b=s.heap.get? b)->h'.get? a=some (seqObj "list" (List.toArray (xs.map (·.2))) c)->xs.Perm (ks.zip vs)->(xs.Pairwise fun x y=>num s.heap B x≤num s.heap B y)->P (.done (.ret .none)) { s with heap:=h',toks:=tk }):
 wpAny (model prog w) A (ksk_end a false vs.toArray e1 (.ref kS) ks.toArray) P E s:=by
 have zl:(ks.toArray.zip vs.toArray).toList=ks.zip vs:=by simp
 have tail:∀st:SortSt,failedOf st=none->(arrOf st).toList.Perm (ks.zip vs)->((arrOf st).toList.Pairwise fun x y=>num s.heap B x≤num s.heap B y)->wpAny (model prog w) A (ksk_tail a false e1 (.ref kS) st) P E s:=by
  intro st hf hp hs;have s1:=Heap.SameBut.update s.heap kS (Obj.mapSeq fun _=>(#[]:Array Value));have na1:(s.heap.update kS (Obj.mapSeq fun _=>(#[]:Array Value))).get? a=some (seqObj "list" #[] e1):=(s1.2 a hka.symm).trans ha;have s2:=Heap.SameBut.update (s.heap.update kS (Obj.mapSeq fun _=>(#[]:Array Value))) a (Obj.mapSeq fun _=>(arrOf st).map (·.2));have len:((arrOf st).map (·.2)).size≤sizeLine:=by have:=hp.length_eq;rw[DE,AM] at this;rw[Array.size_map];lia
  unfold ksk_tail
  try dsimp only
  refine Aa (listUpdate_at hkS rfl ?_ (by rw[Ao];lia) (Bk _));refine Aa (wpAny_letGo ?_);refine Aa (seqEpoch_at na1 rfl ?_);refine Aa (listUpdate_at na1 rfl ?_ (Bk _) (by simp only[B4,if_false];exact Dp len));rw[hf];simp only[bne_self_eq_false,B4,if_false];obtain⟨c2,hc2⟩:∃c2,((s.heap.update kS (Obj.mapSeq fun _=>(#[]:Array Value))).update a (Obj.mapSeq fun _=>(arrOf st).map (·.2))).get? a=some (seqObj "list" ((arrOf st).map (·.2)) c2):=⟨_,get?_update_seq na1 fun _=>(arrOf st).map (·.2)⟩;refine Ai (h _ _ (arrOf st).toList c2 (fun b hb1 hb2=>?_) ?_ hp hs)
  ·exact(s2.2 b hb2).trans (s1.2 b hb1)
  ·have em:(arrOf st).map (·.2)=List.toArray ((arrOf st).toList.map (·.2)):=by apply Array.toList_inj.mp;rw[Array.toList_map]
   rw[em] at hc2 ⊢;exact hc2
 unfold ksk_end;simp only[B4,if_false];by_cases h2:vs.toArray.size<2
 ·rw[AA h2,AA h2];refine Aa (Ai ?_);rw[StateT.run_pure];refine Aa (Ai ?_);refine tail _ rfl (by show(ks.toArray.zip vs.toArray).toList.Perm _;rw[zl]) ?_;show(ks.toArray.zip vs.toArray).toList.Pairwise _;rw[zl];rw[Ao] at h2;have:(ks.zip vs).length<2:=by rw[DE];lia
  exact qR this
 ·rw[As h2,As h2];rw[Ao] at h2;refine Aa (aab hk (by omega) ?_);refine Aa (AV (abu (E:=E) (rE (B:=B)) (st:=SortSt.mk' (tuples' true) (ks.toArray.zip vs.toArray) #[] 7 none)
   (Q:=fun _ st'=>failedOf st'=none/\(arrOf st').toList.Perm (ks.zip vs)/\((arrOf st').toList.Pairwise fun x y=>num s.heap B x≤num s.heap B y)) rfl rfl rfl (fun x hx=>?_) ?_ fun st' b1 b2 b3=>⟨b1,?_,b3⟩) ?_ fun _ _ e=>e)
  ·have hx:x∈(ks.toArray.zip vs.toArray).toList:=hx;rw[zl] at hx;exact eB.pair (hk _ (DC (a:=x.1) (b:=x.2) hx).1)
  ·show((ks.toArray.zip vs.toArray).toList.map _).Nodup;rw[zl];exact inj
  ·have b2:(arrOf st').toList.Perm (ks.toArray.zip vs.toArray).toList:=b2;rw[zl] at b2;exact b2
  ·rintro⟨⟨⟩,st'⟩ s' ⟨rfl,b1,b2,b3⟩;exact tail st' b1 b2 b3
end
section
variable {w:World} 
theorem eB.ne{v:Value}{a b:Addr}{xs:Array Value}(k:eB h B v)(e:v=.ref a)(hb:h.get? b=some (seqObj "list" xs n)):a≠b:=by
 obtain⟨a',o,m,r,p,t,u,e1,e2,e3,_⟩:=k;rw[e] at e1;cases e1;rintro rfl;rw[hb] at e2;cases e2;have e3:Value.type "list" = Value.type "tuple" := e3;injection e3 with e
 exact absurd e (by decide)
theorem eB.keeps{v:Value}{b:Addr}{xs:Array Value}(k:eB h B v)(hb:h.get? b=some (seqObj "list" xs n))(hk:∀c o,c≠b->h.get? c=some o->h'.get? c=some o):eB h' B v:=by have k0:=k;obtain⟨a,o,m,r,p,t,u,e1,e2,e3,e4,e5,e6⟩:=k;exact⟨a,o,m,r,p,t,u,e1,hk a o (k0.ne e1 hb) e2,e3,e4,e5,e6⟩
theorem yc{x:Keyed}{b:Addr}{xs:Array Value}(k:eB h B x.1)(hb:h.get? b=some (seqObj "list" xs n))(hk:∀c o,c≠b->h.get? c=some o->h'.get? c=some o):num h' B x=num h B x:=by have k0:=k;obtain⟨a,o,m,r,p,t,u,e1,e2,e3,e4,e5,e6⟩:=k;rw[num_of e1 e2 e4,num_of e1 (hk a o (k0.ne e1 hb) e2) e4]
theorem dD{x:Keyed}(h:x∈vs.zip vs):x.1∈vs/\x.1=x.2:=by
 induction vs with
 |nil=>simp at h
 |cons v r ih=>
  rw[List.zip_cons_cons] at h;rcases Ap.mp h with rfl | h
  ·exact⟨Aq ..,rfl⟩
  ·exact⟨Ag _ (ih h).1,(ih h).2⟩
theorem af0{a:Addr}{P:PySem.Fin->Shared->Prop}(ho:s.heap.get? a=some (seqObj "list" vs.toArray n))(hz:vs.length≤100000)(hk:∀v∈vs,eB s.heap B v)(inj:((vs.zip vs).map (num s.heap B)).Nodup)
 (h:∀h' tk (xs:List Keyed) c,(∀b o,b≠a->s.heap.get? b=some o->h'.get? b=some o)->h'.get? a=some (seqObj "list" (List.toArray (xs.map (·.2))) c)->xs.Perm (vs.zip vs)->(xs.Pairwise fun x y=>num s.heap B x≤num s.heap B y)->P (.done (.ret .none)) { s with heap:=h',toks:=tk }):
 wpAny (model prog w) A (Builtin.«list.sort» ⟨[.ref a],[]⟩) P E s:=by
 have big:(100000:Nat)+1≤sizeLine:=by rw[sizeLine_eq];exact C5 _ _
 have zl:(vs.toArray.zip vs.toArray).toList=vs.zip vs:=by simp
 have s1:=Heap.SameBut.update s.heap a (Obj.mapSeq fun _=>(#[]:Array Value));obtain⟨e1,ho1⟩:∃e1,(s.heap.update a (Obj.mapSeq fun _=>(#[]:Array Value))).get? a=some (seqObj "list" #[] e1):=⟨_,get?_update_seq ho fun _=>#[]⟩;obtain⟨hp3,ehp3⟩:∃g,g=((s.heap.update a (Obj.mapSeq fun _=>(#[]:Array Value))).push (seqObj "tuple" vs.toArray 0)).push (seqObj "list" #[] 0):=⟨_,rfl⟩;have k3:∀b o,b≠a->s.heap.get? b=some o->hp3.get? b=some o:=fun b o hb e=>by rw[ehp3];exact Heap.get?_push_of_some _ (Heap.get?_push_of_some _ ((s1.2 b hb).trans e))
 have ha3:hp3.get? a=some (seqObj "list" #[] e1):=by rw[ehp3];exact Heap.get?_push_of_some _ (Heap.get?_push_of_some _ ho1)
 have hk3:∀v∈vs,eB hp3 B v:=fun v hv=>(hk v hv).keeps ho k3;have nk:∀x∈vs.zip vs,num hp3 B x=num s.heap B x:=fun x hx=>yc (hk _ (dD hx).1) ho k3;have inj3:((vs.zip vs).map (num hp3 B)).Nodup:=by rw[C1 nk];exact inj
 have tail:∀st:SortSt,failedOf st=none->(arrOf st).toList.Perm (vs.zip vs)->((arrOf st).toList.Pairwise fun x y=>num hp3 B x≤num hp3 B y)->
  ∀tk,P (.done (.ret .none)) { s with heap:=hp3.update a (Obj.mapSeq fun _=>(arrOf st).map (·.2)),toks:=tk }:=by
  intro st hf hp hs tk;have s2:=Heap.SameBut.update hp3 a (Obj.mapSeq fun _=>(arrOf st).map (·.2));obtain⟨c2,hc2⟩:∃c2,(hp3.update a (Obj.mapSeq fun _=>(arrOf st).map (·.2))).get? a=some (seqObj "list" ((arrOf st).map (·.2)) c2):=⟨_,get?_update_seq ha3 fun _=>(arrOf st).map (·.2)⟩;have em:(arrOf st).map (·.2)=List.toArray ((arrOf st).toList.map (·.2)):=by apply Array.toList_inj.mp;rw[Array.toList_map]
  refine h _ tk (arrOf st).toList c2 (fun b o hb e=>(s2.2 b hb).trans (k3 b o hb e)) ?_ hp ?_
  ·rw[em] at hc2 ⊢;exact hc2
  ·refine Cr (fun {x y} hx hy z=>?_) hs;rw[nk x (hp.mem_iff.mp hx),nk y (hp.mem_iff.mp hy)] at z;exact z
 have len:∀st:SortSt,(arrOf st).toList.Perm (vs.zip vs)->((arrOf st).map (·.2)).size≤sizeLine+1:=fun st hp=>by have:=hp.length_eq;rw[DE,AM] at this;rw[Array.size_map];lia
 rw[list_sort_plain];refine Aa (listItems_at ho rfl ?_);refine Aa (listUpdate_at ho rfl ?_ (by rw[Ao];exact dO) (Bk _));refine Aa (seqEpoch_at ho1 rfl ?_);refine Aa (wpAny_newTuple ?_ (by show vs.length≤_;lia));refine Aa (wpAny_newList ?_ (Bk _));refine Ba ?_;show wpAny (model prog w) A _ P E { s with heap:=((s.heap.update a (Obj.mapSeq fun _=>(#[]:Array Value))).push (seqObj "tuple" vs.toArray 0)).push (seqObj "list" #[] 0) };rw[<-ehp3];dsimp only;by_cases h2:vs.toArray.size<2
 ·rw[AA h2,AA h2];refine Aa (Ai ?_);rw[StateT.run_pure];refine Aa (Ai ?_);dsimp only;refine Aa (seqEpoch_at ha3 rfl ?_);have pz:(arrOf (SortSt.mk' (tuples' true) (vs.toArray.zip vs.toArray) #[] 7 none)).toList.Perm (vs.zip vs):=by show(vs.toArray.zip vs.toArray).toList.Perm _;rw[zl]
  refine Aa (listUpdate_at ha3 rfl ?_ (Bk _) (len _ pz));simp only[bne_self_eq_false,B4,if_false];refine Ai (tail (SortSt.mk' (tuples' true) (vs.toArray.zip vs.toArray) #[] 7 none) rfl pz ?_ _);show(vs.toArray.zip vs.toArray).toList.Pairwise _;rw[zl];rw[Ao] at h2;have:(vs.zip vs).length<2:=by rw[DE];lia
  exact qR this
 ·rw[As h2,As h2];rw[Ao] at h2;refine Aa (aab (s:={ s with heap:=hp3 }) hk3 (by lia) ?_);refine Aa (AV (abu (E:=E) (rE (s:={ s with heap:=hp3 }) (B:=B)) (st:=SortSt.mk' (tuples' true) (vs.toArray.zip vs.toArray) #[] 7 none)
   (Q:=fun _ st'=>failedOf st'=none/\(arrOf st').toList.Perm (vs.zip vs)/\((arrOf st').toList.Pairwise fun x y=>num hp3 B x≤num hp3 B y)) rfl rfl rfl (fun x hx=>?_) ?_ fun st' b1 b2 b3=>⟨b1,?_,b3⟩) ?_ fun _ _ e=>e)
  ·have hx:x∈(vs.toArray.zip vs.toArray).toList:=hx;rw[zl] at hx;exact eB.pair (hk3 _ (dD hx).1)
  ·show((vs.toArray.zip vs.toArray).toList.map _).Nodup;rw[zl];exact inj3
  ·have b2:(arrOf st').toList.Perm (vs.toArray.zip vs.toArray).toList:=b2;rw[zl] at b2;exact b2
  ·rintro⟨⟨⟩,st'⟩ s' ⟨rfl,b1,b2,b3⟩;dsimp only;refine Aa (seqEpoch_at ha3 rfl ?_);refine Aa (listUpdate_at ha3 rfl ?_ (Bk _) (len _ b2));rw[b1];simp only[bne_self_eq_false,B4,if_false];exact Ai (tail st' b1 b2 b3 _)
theorem w_sorted(hl:s.heap.IsList l vs.toArray)(hz:vs.length≤100000)(hk:∀v∈vs,eB s.heap B v)(inj:((vs.zip vs).map (num s.heap B)).Nodup)
 (h:∀h' tk (xs:List Keyed) D c,s.heap.objs.size≤D->(∀b o,s.heap.get? b=some o->h'.get? b=some o)->h'.get? D=some (seqObj "list" (List.toArray (xs.map (·.2))) c)->xs.Perm (vs.zip vs)->(xs.Pairwise fun x y=>num s.heap B x≤num s.heap B y)->Q (.ref D) { s with heap:=h',toks:=tk }):
 wpAny (model prog w) A (call (.builtin "sorted") [.ref l]) Q E s:=by
 have big:(100000:Nat)+1≤sizeLine:=by rw[sizeLine_eq];lia
 refine Calls.call_function_entry kind_sorted plain_sorted entry_sorted (args_sorted1 _) ?_;unfold Builtin.«sorted»;refine Aa (m:=checkCount "sorted" 1 1 _) (Ai ?_);refine Aa (collect_list hl ?_ (by lia));refine Aa (wpAny_newList ?_ (by lia));obtain⟨g,eg⟩:∃g,g=(s.heap.push (seqObj "list" #[] 0)).update s.heap.objs.size (Obj.mapSeq (· ++ vs.toArray)):=⟨_,rfl⟩;have gs:g.objs.size=s.heap.objs.size+1:=by rw[eg,Heap.size_update,size_push']
 have gk:∀b o,s.heap.get? b=some o->g.get? b=some o:=fun b o q=>by have hlt:b<s.heap.objs.size:=Heap.lt_size q;rw[eg,Heap.get?_update_ne _ _ _ _ (A2 hlt)];exact Heap.get?_push_of_some _ q
 show wpAny _ _ _ _ _ { s with heap:=((s.heap.push (seqObj "list" #[] 0)).update s.heap.objs.size (Obj.mapSeq (· ++ vs.toArray))).push (seqObj "list" vs.toArray 0) };rw[<-eg];have hoD:(g.push (seqObj "list" vs.toArray 0)).get? g.objs.size=some (seqObj "list" vs.toArray 0):=Heap.get?_push_size _ rfl;have keep:∀b o,s.heap.get? b=some o->(g.push (seqObj "list" vs.toArray 0)).get? b=some o:=fun b o q=>Heap.get?_push_of_some _ (gk b o q);have kT:∀v∈vs,eB (g.push (seqObj "list" vs.toArray 0)) B v:=fun v hv=>by obtain⟨a,o,m,r,p,t,u,e1,e2,r'⟩:=hk v hv;exact⟨a,o,m,r,p,t,u,e1,keep _ _ e2,r'⟩
 have nk:∀x∈vs.zip vs,num (g.push (seqObj "list" vs.toArray 0)) B x=num s.heap B x:=fun x hx=>by obtain⟨a,o,m,r,p,t,u,e1,e2,e3,e4,_⟩:=hk _ (dD hx).1;rw[num_of e1 e2 e4,num_of e1 (keep _ _ e2) e4]
 refine Aa (Ba (wpAny_call_entry slot_list_sort ⟨_,hoD,rfl⟩ entry_list_sort ?body (args_list_sort _)))
 case body=>
  refine af0 (s:={ s with heap:=g.push (seqObj "list" vs.toArray 0) }) hoD hz kT (by rw[C1 nk];exact inj) fun h' tk xs c k1 hD pm pw=>?_;refine⟨_,rfl,Ai ⟨_,rfl,h h' tk xs g.objs.size c (by rw[gs];exact CQ _) (fun b o q=>k1 b o ?_ (keep b o q)) hD pm ?_⟩⟩
  ·have hlt:b<s.heap.objs.size:=Heap.lt_size q;intro z;rw[z,gs] at hlt;exact Nat.not_succ_lt_self hlt
  ·refine Cr (fun {x y} hx hy z=>?_) pw;rw[nk x (pm.mem_iff.mp hx),nk y (pm.mem_iff.mp hy)] at z;exact z
end
end TS
namespace L2
open PySem PySem.Spec PyProof.Rows
theorem mZ(f:α->β):∀{l m:List β},l.Perm m->∀{T:List α},T.map f=m->∃T':List α,T'.Perm T/\T'.map f=l:=by
 intro l m p
 induction p with
 |nil=>intro T e;exact⟨T,BQ _,e⟩
 |cons x _ ih=>
  intro T e;cases T with
  |nil=>cases e
  |cons t r=>
   rw[AD] at e;obtain⟨e1,e2⟩:=CI e;obtain⟨T',p',e'⟩:=ih e2;exact⟨t::T',p'.cons t,by rw[AD,e',e1]⟩
 |swap x y l=>
  intro T e
  match T,e with
  |t::u::r,e=>
   rw[AD,AD] at e;obtain⟨e1,e2⟩:=CI e;obtain⟨e3,e4⟩:=CI e2;exact⟨u::t::r,List.Perm.swap t u r,by rw[AD,AD,e1,e3,e4]⟩
 |trans _ _ ih1 ih2=>
  intro T e;obtain⟨T1,p1,e1⟩:=ih2 e;obtain⟨T2,p2,e2⟩:=ih1 e1;exact⟨T2,p2.trans p1,e2⟩
theorem fZ{α β γ:Type}{R:β->γ->Prop}{g:α->β}{h:α->γ}:∀{T:List α},(∀t∈T,R (g t) (h t))->Paired R (T.map g) (T.map h)
 |[],_=>.nil
 |t::_,k=>.cons (k t (Aq ..)) (fZ fun u hu=>k u (Ag _ hu))
theorem gK{α β γ:Type}{R:α->β->Prop}{S:α->γ->Prop}:∀{xs:List α} {ys:List β} {zs:List γ},Paired R xs ys->Paired S xs zs->∃T:List (α×β×γ),T.map (·.1)=xs/\T.map (fun t=>t.2.1)=ys/\T.map (fun t=>t.2.2)=zs/\∀t∈T,R t.1 t.2.1/\S t.1 t.2.2
 |_,_,_,.nil,.nil=>⟨[],rfl,rfl,rfl,fun t ht=>by cases ht⟩
 |_,_,_,.cons (a:=x) (b:=y) r p,.cons (b:=z) q p'=>by
  obtain⟨T,e1,e2,e3,k⟩:=gK p p';refine⟨(x,y,z)::T,by rw[AD,e1],by rw[AD,e2],by rw[AD,e3],fun t ht=>?_⟩;rcases Ap.mp ht with rfl | ht
  ·exact⟨r,q⟩
  ·exact k t ht
theorem dc{α β:Type}{f:α->β}:∀{l:List α},(∀x∈l,∀y∈l,f x=f y->x=y)->l.Nodup->(l.map f).Nodup
 |[],_,_=>DP
 |a::r,h,n=>by obtain⟨n1,n2⟩:=Av.mp n;rw[AD];refine Av.mpr ⟨fun z=>?_,dc (fun x hx y hy=>h x (Ag _ hx) y (Ag _ hy)) n2⟩;obtain⟨y,hy,e⟩:=BI.mp z;have:=h y (Ag _ hy) a (Aq ..) e;exact n1 (this▸hy)
def sI(p q:Int×Int):Prop:=p.1<q.1\/(p.1=q.1/\p.2≤q.2)
abbrev wQ(K:Af)(H:Hp)(v:V)(p:Int×Int):Prop:=∃a,v=.ref a/\dC K H a [.int p.1,.int p.2]
theorem tG{p q:Int×Int}(hp:0≤p.2/\p.2<B)(hq:0≤q.2/\q.2<B)(h:p.1*B+p.2≤q.1*B+q.2):sI p q:=by
 unfold sI;by_cases c:p.1<q.1
 ·exact .inl c
 ·right;by_cases d:q.1<p.1
  ·have h5:(q.1+1)*B≤p.1*B:=Cz (by assumption) (by lia);rw[Int.add_mul,Int.one_mul] at h5;omega
  ·have e:p.1=q.1:=by lia
   rw[e] at h;exact⟨e,by lia⟩
theorem adr{p q:Int×Int}(hp:0≤p.2/\p.2<B)(hq:0≤q.2/\q.2<B)(h:p.1*B+p.2=q.1*B+q.2):p=q:=by
 have h1:=tG hp hq (by omega);have h2:=tG hq hp (by omega);unfold sI at h1 h2;have e1:p.1=q.1:=by lia
 have e2:p.2=q.2:=by lia
 exact Ey e1 e2
section
def aju(X:Cx):List V->Hp->VK->Prop:=fun xs H Q=>∃l ys ps,xs=[.ref l]/\aB X.K H l ys/\Paired (wQ X.K H) ys ps/\(∀p∈ps,0≤p.2/\p.2<1000000)/\ps.Nodup/\ys.length≤100000/\
 ∀D zs qs,H D=none->Paired (wQ X.K H) zs qs->qs.Perm ps->qs.Pairwise sI->Q (.ref D) (upd H D (.lst zs))
theorem tO:jw X (.builtin "sorted") (aju X):=by
 intro pins s σ H xs us Q I r h;obtain⟨l,ys,ps,rfl,hl,pr,hb,hnd,hlen,q⟩:=h;obtain⟨u,rfl,ru⟩:=r.one;cases (show u=Value.ref l from ru);obtain⟨its,rv,pl,hz⟩:=I.list hl;have l1:ys.length=its.length:=rv.length;obtain⟨T,e1,e2,e3,kT⟩:=gK rv pr;have kT2:∀t∈T,(∃a o n t1 t2,t.2.1=Value.ref a/\s.heap.get? a=some o/\o.cls=.type "tuple" /\ o.data=.seq #[.int t.2.2.1 t1,.int t.2.2.2 t2] n)/\0≤t.2.2.2/\t.2.2.2<1000000:=fun t ht=>by obtain⟨r1,a,ea,hs⟩:=kT t ht;obtain⟨its2,rv2,⟨o,g1,g2,n,g3⟩,_⟩:=I.tuple hs;obtain⟨w1,w2,rfl,x1,x2⟩:=rv2.two;obtain⟨t1,rfl⟩:=(show ∃t1,w1=Value.int t.2.2.1 t1 from x1);obtain⟨t2,rfl⟩:=(show ∃t2,w2=Value.int t.2.2.2 t2 from x2);rw[ea] at r1;refine⟨⟨a,o,n,t1,t2,r1,g1,g2,g3⟩,?_⟩;exact hb _ (by rw[<-e3];exact Cu (f:=fun t:V×Value×(Int×Int)=>t.2.2) ht)
 have nT:∀t∈T,TS.num s.heap 1000000 (t.2.1,t.2.1)=t.2.2.1*1000000+t.2.2.2:=fun t ht=>by obtain⟨⟨a,o,n,t1,t2,g0,g1,g2,g3⟩,_⟩:=kT2 t ht;exact TS.num_of g0 g1 g3
 have ez:its.zip its=T.map fun t=>(t.2.1,t.2.1):=by rw[<-e2,List.zip_map']
 have inj:((its.zip its).map (TS.num s.heap 1000000)).Nodup:=by
  rw[ez,BR];have e4:T.map (TS.num s.heap 1000000∘fun t=>(t.2.1,t.2.1))=(T.map fun t=>t.2.2).map fun p:Int×Int=>p.1*1000000+p.2:=by rw[BR];exact C1 fun t ht=>nT t ht
  rw[e4,e3];exact dc (fun x hx y hy e=>adr (hb x hx) (hb y hy) e) hnd
 refine jp I.tk (TS.w_sorted (B:=1000000) pl.isList (by rw[<-l1];exact hlen) (fun v hv=>?_) inj fun h' tk ks D c hD hk hg pm pw ht=>?_)
 ·rw[<-e2] at hv;obtain⟨t,ht,rfl⟩:=BI.mp hv;obtain⟨⟨a,o,n,t1,t2,g0,g1,g2,g3⟩,b1,b2⟩:=kT2 t ht;exact⟨a,o,n,_,_,t1,t2,g0,g1,g2,g3,b1,b2⟩
 ·rw[ez] at pm;obtain⟨T',pT,eT⟩:=mZ _ pm rfl;subst eT;have mT:∀t,t∈T'->t∈T:=fun t=>pT.mem_iff.mp;have pw':=Co.mp pw;refine⟨.ref D,_,I.laid (t':=tk) (o:=.lst (T'.map (·.1))) hk hD ?_,rfl,q D (T'.map (·.1)) (T'.map fun t=>t.2.2) (I.hok.fresh hD) (fZ fun t ht=>(kT t (mT t ht)).2) ?_ ?_⟩
  ·refine⟨?_,T'.map (fun t=>t.2.1),c,fZ fun t ht=>(kT t (mT t ht)).1,?_⟩
   ·rw[Ae,pT.length_eq];have:T.length=ys.length:=by rw[<-e1,Ae]
    rw[this];exact hz
   ·rw[hg,BR];rfl
  ·rw[<-e3];exact pT.map _
  ·refine Co.mpr (Cr (fun {x y} hx hy z=>?_) pw');rw[nT x (mT x hx),nT y (mT y hy)] at z;exact tG (kT2 x (mT x hx)).2 (kT2 y (mT y hy)).2 z
end
end L2
namespace L3
open PySem L2
def prY(p:Int×Int):Y:=.tup [.int p.1,.int p.2]
theorem rj{G:G3}{H:Hp}:∀{ps:List (Int×Int)} {xs:List V},xm G H (ps.map prY) xs->Paired (wQ G.K H) xs ps
 |[],_,h=>by cases (show _=[] from h);exact .nil
 |p::r,_,⟨x,xs',e,⟨a,zs,ea,hs,z1,zs1,e1,rz1,z2,zs2,e2,rz2,e3⟩,s⟩=>by subst e ea e1 e2 e3;cases (show z1=V.int p.1 from rz1);cases (show z2=V.int p.2 from rz2);exact .cons ⟨a,rfl,hs⟩ (rj s)
theorem rB{G:G3}{H:Hp}:∀{ps:List (Int×Int)} {xs:List V},Paired (wQ G.K H) xs ps->xm G H (ps.map prY) xs
 |_,_,.nil=>rfl
 |_,_,.cons ⟨a,ea,hs⟩ t=>by subst ea;exact⟨_,_,rfl,⟨a,_,rfl,hs,_,_,rfl,rfl,_,_,rfl,rfl,rfl⟩,rB t⟩
def cZ(xs:List Y)(L:qm)(Q:YK):Prop:=match xs with
 |[.ref a]=>dU L a fun ys=>∃ps:List (Int×Int),ys=ps.map prY/\(∀p∈ps,0≤p.2/\p.2<1000000)/\ps.Nodup/\ps.length≤100000/\∀(D:Addr) (qs:List (Int×Int)),L D=none->qs.Perm ps->qs.Pairwise sI->Q (.ref D) (qf L D (.lst (qs.map prY)))
 |_=>False
theorem bT:bootBuiltins "sorted" = some (.builtin "sorted"):=by decide +kernel
theorem fz :jw X (.builtin "sorted") (upL X.g3 cZ):=ET tO fun xs H Q ⟨ys,L,Q3,rv,rl,z,k⟩=>by
 unfold cZ at z;split at z
 ·rename_i a;obtain⟨zs,e,ps,rfl,hb,hnd,hlen,z⟩:=xx z;obtain⟨vs,e2,r⟩:=rl a _ e;obtain⟨u,rfl,ru⟩:=rv.inv1;cases (show u=V.ref a from ru);have pr:=rj r;exact⟨a,vs,ps,rfl,ES e2,pr,hb,hnd,by rw[<-r.length,Ae];exact hlen,fun D zs qs hD pz pm pw=>k _ _ _ _ (EE hD) (rl.newL hD (rB pz)) (by rfl) (z D qs (rl.none hD) pm pw)⟩
 ·exact z.elim
open PySem L2 Words
def bJ:Wd->Y
 |.leaf t n=>.tup [.str (kL t),.str n]
 |.node e l r=>.tup [.str (kN e),bJ l,bJ r]
theorem qx{Q:α->qm->Prop}{o:Option α}{v:α}(e:o=some v)(h:Q v L):wJ L Q o:=by rw[e];exact h
theorem yX(t:Bool):List.lookup (kL t) [(("plain" : Str),("turned" : Str)),("turned", "plain"),("both", "either"),("either", "both")]=some (kL (!t)):=by cases t<;>decide +kernel
theorem xI(t:Bool):List.lookup (kN t) [(("plain" : Str),("turned" : Str)),("turned", "plain"),("both", "either"),("either", "both")]=some (kN (!t)):=by cases t<;>decide +kernel
theorem js.str(x:Str):js L n (.str x) (.s (.str x)):=by cases n with|zero=>exact⟨rfl,rfl⟩|succ n=>exact .inl ⟨rfl,rfl⟩
abbrev EU:=@js.str
theorem js.int(x:Int):js L n (.int x) (.s (.int x)):=by cases n with|zero=>exact⟨rfl,rfl⟩|succ n=>exact .inl ⟨rfl,rfl⟩
abbrev EL:=@js.int
theorem gQ{L:qm}:∀{wd:Wd} {n:Nat},wd.depth≤n->js L n (bJ wd) (oO wd)
 |.leaf t nm,n+1,_=>.inr (.inl ⟨_,_,rfl,rfl,.cons (EU _) (.cons (EU _) .nil)⟩)
 |.node e l r,n+1,h=>by have h':max l.depth r.depth+1≤n+1:=h;exact .inr (.inl ⟨_,_,rfl,rfl,.cons (EU _) (.cons (gQ (by lia)) (.cons (gQ (by lia)) .nil))⟩)
theorem eX{a:Addr}(e:L a=some (.lst ys))(p:Paired (js L n) ys ds):js L (n+1) (.ref a) (.lst ds):=.inr (.inr ⟨ys,ds,rfl,rfl,aE e,p⟩)
theorem bV(p:Paired (js L n) ys ds):js L (n+1) (.tup ys) (.tup ds):=.inr (.inl ⟨ys,ds,rfl,rfl,p⟩)
theorem aad{neg:Bool}{u v:Wd}{Q:YK}(hu:u.depth≤128)(q:Q (.bl (nb neg (Da.eq (oO u) (oO v)))) L):vS neg (bJ u) (bJ v) L Q:=by
 have hr:∀w:Wd,yh (bJ w)=true:=fun w=>by cases w<;>rfl
 have:yh (bJ u)=true/\yh (bJ v)=true/\∃n m d e,n≤128/\js L n (bJ u) d/\js L m (bJ v) e/\Q (.bl (nb neg (Da.eq d e))) L:=
  ⟨hr u,hr v,u.depth,v.depth,oO u,oO v,hu,gQ (Am _),gQ (Am _),q⟩
 cases u<;>cases v<;>exact this
theorem cA{neg:Bool}{a b:Addr}{zs:List Y}{es:List Da}{Q:YK}(hn:n<128)(ea:L a=some (.lst ys))(eb:L b=some (.lst zs))(pa:Paired (js L n) ys ds)(pb:Paired (js L m) zs es)(q:Q (.bl (nb neg (Da.eqs ds es))) L):
 vS neg (.ref a) (.ref b) L Q:=⟨rfl,rfl,n+1,m+1,_,_,hn,eX ea pa,eX eb pb,q⟩
def nY(hs:List Nat):List Y:=hs.map fun n:Nat=>.int (n:Int)
theorem dy(hs:List Nat):(nY hs).length=hs.length:=by unfold nY;rw[Ae]
theorem xr{a p:Addr}{o:LO}(h:qf L a o p=none):L p=none:=by
 by_cases c:p=a
 ·subst c;rw[q9] at h;cases h
 ·rw[qb c] at h;exact h
theorem xg{l:List α}{x:α}(h:l[i]?=some x):i<l.length:=(AW.mp h).1
abbrev j5(i:Int):xn:=yC (.int i)
abbrev eU(x:Str):xn:=yC (.str x)
abbrev x8(i:Nat)(n:Int):xn:=zg bO (qa i) (yC (.int n))
abbrev cN(i:Nat):xn:=cx iI (qe (qa i) qy)
abbrev dG(a b:xn):gD:=yB (zg (vS false) a b)
abbrev rdN(a b:xn):gD:=yB (zg (vS true) a b)
abbrev tU(a b:xn):xn:=va (qe a (qe b qy))
abbrev aR(a:xn):dQ:=qe a qy
abbrev wn(a b:xn):dQ:=qe a (qe b qy)
def kZ:w6:=(qw (x6 (yB (zg yLt (qa 1) (cN 0))) (x0 (zg bO (qa 0) (qa 1))) jr)
 (x0 (j5 0)))
def uO:w6:=(x0 (zg aU (zg vf (zg acf (zg xj (zg xj (zg acf (zg vf (qa 0) (j5 1000003)) (j5 7)) (zg acf (qa 1) (qa 1))) (j5 1)) (qa 2)) (j5 2147483647)) (j5 16)))
def lg(p0:xw):w6:=(qw (x6 (dG (cN 0) (j5 2)) (x0 (j5 1)) jr)
 (x0 (zg xj (zg xj (j5 1) (zo p0 (aR (x8 0 1)))) (zo p0 (aR (x8 0 2))))))
def ss(p0:xw):w6:=(qw (x6 (yOr (yB (aq .bool (qa 0))) (yB (aq .bool (qa 1)))) (x0 (kY (aq .bool (qa 0)) (kY (aq .bool (qa 1)) (zg (vS false) (qa 0) (qa 1))))) jr)
 (qw (x6 (yB (rO .list .tuple (qa 1))) (qw (x6 (yOr (rdN (aq .list (qa 0)) (aq .list (qa 1))) (rdN (aq .tuple (qa 0)) (aq .tuple (qa 1)))) (x0 (yC (.bl false))) jr)
 (qw (x6 (rdN (cN 0) (cN 1)) (x0 (yC (.bl false))) jr)
 (qw (fO (zF (wn (qa 0) (qa 1))) (kz 2 (zh (qh 2) (zh (qh 3) k7))) (x6 (tS (yB (zo p0 (wn (qa 2) (qa 3))))) (x0 (yC (.bl false))) jr))
 (x0 (yC (.bl true)))))) jr)
 (qw (x6 (yB (aq .int (qa 1))) (x0 (kY (aq .int (qa 0)) (zg (vS false) (qa 0) (qa 1)))) jr)
 (qw (x6 (yB (aq .str (qa 1))) (x0 (kY (aq .str (qa 0)) (zg (vS false) (qa 0) (qa 1)))) jr)
 (x0 (fB false (qa 0)))))))
def rm(p0:xw):w6:=(qw (zp (zg bO (qa 0) (qa 1)) (qh 2))
 (qw (x6 (dG (cN 2) (j5 2)) (x0 (qa 2)) jr)
 (x0 (va (qe (x8 2 0) (qe (zo p0 (wn (qa 0) (x8 2 1))) (qe (zo p0 (wn (qa 0) (x8 2 2))) qy)))))))
def cw:xw:=fun ys L Q=>∃ns:List Int,∃k:Int,ys=[.sq (ns.map Y.int),.int k]/\0≤k/\∀v,Q (.int v) L
theorem uQ:∀ys L Q,cw ys L Q->k6 kZ 2 ys L Q:=by rintro ys L Q ⟨ns,k,rfl,h0,q⟩;refine zu (fun c=>?_) fun c=>vk (q 0);have c':k<((ns.map Y.int).length:Int):=c;rw[Ae] at c';obtain⟨j,rfl⟩:∃j:Nat,k=(j:Int):=⟨k.toNat,by lia⟩;have e:gc (ns.map Y.int) (j:Int)=some (Y.int (ns[j]'(by omega))):=w9 (Al _);walk_at "w";rw[e];exact vk (q _)
def cq:xw:=fun ys L Q=>∃c k f:Int,ys=[.int c,.int k,.int f]/\0≤k/\k<1000000/\0<f/\f<1000000/\∀v,0≤v->v<134217728->Q (.int v) L
theorem aj9:∀ys L Q,cq ys L Q->k6 uO 3 ys L Q:=by
 rintro ys L Q ⟨c,k,f,rfl,h0,h1,h2,h3,q⟩;refine⟨(by decide:(0:Int)<1000003),.inr ⟨by decide,by decide⟩,.inl ⟨by lia,by lia⟩,.inr ⟨by lia,by lia⟩,(by decide:(0:Int)<2147483647),⟨by decide,by decide⟩,vk (q _ ?_ ?_)⟩
 all_goals
  generalize ((c % 1000003*7+k*k+1)*f)=z;lia
theorem zN(cs:List Nat):(Txt.join "" (cs.map fun c=>(⟨#[c]⟩:Str))).cps.toList=cs:=by
 rw[oF]
 induction cs with|nil=>rfl|cons c r ih=>rw[AD,AQ,ih];rfl
def cM(n:Nat):xw:=fun ys L Q=>∃wd,ys=[bJ wd]/\wd.depth≤n/\Q (.int wd.size) L
theorem lJ:∀ys L Q,¬cM 0 ys L Q:=fun ys L Q ⟨wd,_,hd,_⟩=>by cases wd<;>simp[Wd.depth] at hd
theorem yE(n:Nat):∀ys L Q,cM (n+1) ys L Q->k6 (lg (cM n)) 1 ys L Q:=by
 rintro ys L Q ⟨wd,rfl,hd,q⟩;cases wd with
 |leaf t n=>exact vk q
 |node e l r=>
  have hd':max l.depth r.depth+1≤n+1:=hd;refine⟨l,rfl,by lia,r,rfl,by lia,vk ?_⟩;have e:(1+(l.size:Int)+(r.size:Int))=(((Wd.node e l r).size:Nat):Int):=by show _=((1+l.size+r.size:Nat):Int);rfl
  rw[e];exact q
def dF(L:qm):Nat->Y->Y->Prop
 |0,_,_=>False
 |n+1,x,y=>(fC x=true/\y=x)\/(∃xs ys,x=.tup xs/\y=.tup ys/\Paired (dF L n) xs ys)\/(∃a b xs ys,x=.ref a/\y=.ref b/\L a=some (.lst xs)/\L b=some (.lst ys)/\Paired (dF L n) xs ys)
theorem dF.flat{x:Y}(h:fC x=true):dF L (n+1) x x:=.inl ⟨h,rfl⟩
def gM(n:Nat):xw:=fun ys L Q=>∃x y,ys=[x,y]/\dF L n x y/\Q (.bl true) L
theorem oj:∀ys L Q,¬gM 0 ys L Q:=fun ys L Q ⟨x,y,_,h,_⟩=>h
theorem pD{xs:List Y}{keep:qm->Prop}{tb:w6}(W:Nat->jj->qm->Prop)(h0:W 0 τ L)(hk:∀i τ L',W i τ L'->keep L')
 (hs:∀i x y τ L,xs[i]?=some x->ys[i]?=some y->W i τ L->g (.tup [x,y]) τ L fun τ2 L2=>tb { D with nx:=eQ (W (i+1)),ct:=eQ (W (i+1)),bk:=D.nx } τ2 L2) (hd:∀τ L,W (min xs.length ys.length) τ L->D.nx τ L):
 rQ (uS xs ys) keep g tb D τ L:=wo ⟨W,h0,hk,fun i y τ L e w=>by obtain⟨a,b,ea,eb,rfl⟩:=vA e;exact hs i a b τ L ea eb w,fun τ L w=>hd τ L (by rw[lW] at w;exact w)⟩
theorem aeh(n:Nat):∀ys L Q,gM (n+1) ys L Q->k6 (ss (gM n)) 4 ys L Q:=by
 rintro ys L Q ⟨x,y,rfl,h,q⟩;rcases h with⟨f,rfl⟩ | ⟨xs,ys,rfl,rfl,p⟩ | ⟨a,b,xs,ys,rfl,rfl,h1,h2,p⟩
 ·cases y with
  |non=>exact vk q
  |bl b=>
   refine vk ?_;show Q (.bl (nb false (decide (b=b)))) L;rw[AE rfl];exact q
  |int i=>
   refine vk ?_;show Q (.bl (nb false (decide (i=i)))) L;rw[AE rfl];exact q
  |str i=>
   refine vk ?_;show Q (.bl (nb false (decide (i=i)))) L;rw[AE rfl];exact q
  |_=>cases f
 ·have hl:=p.length;walk_at "w";refine aC (b:=nb true (decide ((xs.length:Int)=ys.length))) (by rw[hl,AE rfl];rfl) ?_;refine pD (fun i τ L'=>L'=L/\∃c d,τ=[some (.tup xs),some (.tup ys),c,d]) ⟨rfl,_,_,rfl⟩ (fun i τ L' w=>⟨trivial,trivial⟩) ?_ ?_
  ·rintro i u v τ L' eu ev ⟨rfl,c,d,rfl⟩;exact⟨u,v,rfl,EJ p eu ev,_,EC _,rfl,_,_,rfl⟩
  ·rintro τ L' ⟨rfl,c,d,rfl⟩;exact vk q
 ·have hl:=p.length;refine cg h1 (cg h2 ?_);walk_at "w";refine cg h2 ?_;walk_at "w";refine cg h1 (cg h2 ?_);walk_at "w";refine cg h1 (cg h2 ?_);walk_at "w";refine qd h1 (qd h2 (aC (by rw[hl,AE rfl];rfl) ?_));walk_at "w";refine ql h1 (ql h2 ?_);refine pD (fun i τ L'=>L'=L/\∃c d,τ=[some (.ref a),some (.ref b),c,d]) ⟨rfl,_,_,rfl⟩ (fun i τ L' ⟨e,_⟩=>by subst e;exact⟨rfl,rfl⟩) ?_ ?_
  ·rintro i u v τ L' eu ev ⟨rfl,c,d,rfl⟩;exact⟨u,v,rfl,EJ p eu ev,_,EC _,rfl,_,_,rfl⟩
  ·rintro τ L' ⟨rfl,c,d,rfl⟩;exact vk q
def KW(ks:List Y):Nat->Wd->Prop
 |p,.leaf t n=>ks[p]?=some (.tup [.str (kL t),.str n])
 |p,.node e l r=>∃i j:Nat,ks[p]?=some (.tup [.str (kN e),.int i,.int j])/\KW ks i l/\KW ks j r
theorem KW.more{ks:List Y}(ms:List Y):∀{wd:Wd} {p:Nat},KW ks p wd->KW (ks++ms) p wd
 |.leaf _ _,p,h=>by have h':ks[p]?=some _:=h;show(ks++ms)[p]?=some _;rw[Az (AW.mp h').1];exact h'
 |.node _ _ _,p,⟨i,j,h,a,b⟩=>⟨i,j,by rw[Az (AW.mp h).1];exact h,KW.more ms a,KW.more ms b⟩
def aD(n:Nat):xw:=fun ys L Q=>∃k ks p wd,ys=[.ref k,.int ((p:Nat):Int)]/\L k=some (.lst ks)/\KW ks p wd/\wd.depth≤n/\Q (bJ wd) L
theorem uL:∀ys L Q,¬aD 0 ys L Q:=fun ys L Q ⟨k,ks,p,wd,_,_,_,hd,_⟩=>by cases wd<;>simp[Wd.depth] at hd
theorem pL:∀ys L Q,¬aD 0 ys L Q:=uL
theorem qF(n:Nat):∀ys L Q,aD (n+1) ys L Q->k6 (rm (aD n)) 3 ys L Q:=by
 rintro ys L Q ⟨k,ks,p,wd,rfl,hk,h,hd,q⟩;cases wd with
 |leaf t nm=>exact qd hk (qx (w5 h) (vk q))
 |node e l r=>
  obtain⟨i,j,h,hl,hr⟩:=h;have hd':max l.depth r.depth+1≤n+1:=hd;exact qd hk (qx (w5 h) ⟨k,ks,i,l,rfl,hk,hl,by lia,k,ks,j,r,rfl,hk,hr,by lia,vk q⟩)
def mkS(l:List Nat):Str:=⟨l.toArray⟩
theorem uq(x:Str):mkS x.cps.toList=x:=by cases x;rfl
def aei(p0:xw):w6:=(qw (zp (aga [("plain", "turned"),("turned", "plain"),("both", "either"),("either", "both")]) (qh 1))
 (qw (x6 (dG (cN 0) (j5 2)) (x0 (va (qe (zg bO (qa 1) (x8 0 0)) (aR (x8 0 1))))) jr)
 (x0 (va (qe (zg bO (qa 1) (x8 0 0)) (qe (zo p0 (aR (x8 0 1))) (qe (zo p0 (aR (x8 0 2))) qy)))))))
def abg(p0:xw)(p1:xw):w6:=(qw (x6 (dG (cN 1) (j5 2)) (qw (jd (aG zk (qa 0) (qe (zo p0 (aR (qa 1))) qy)))
 (qw (jd (aG zk (qa 0) (aR (qa 1))))
 (x0 (vj (qe (va (qe (eU "link") (qe (zg gf (cN 0) (j5 2)) (qe (zg gf (cN 0) (j5 1)) qy)))) (qe (zg gf (cN 0) (j5 2)) (qe (zg gf (cN 0) (j5 1)) qy))))))) jr)
 (qw (zp (zo p1 (wn (qa 0) (x8 1 1))) (qh 2))
 (qw (zp (zo p1 (wn (qa 0) (x8 1 2))) (qh 3))
 (qw (jd (aG zk (qa 0) (qe (va (qe (zg bO (zo p0 (aR (qa 1))) (j5 0)) (wn (x8 2 1) (x8 3 1)))) qy)))
 (qw (jd (aG zk (qa 0) (qe (va (qe (x8 1 0) (wn (x8 2 2) (x8 3 2)))) qy)))
 (qw (aiz 4 5 (qe (zg gf (cN 0) (j5 2)) (qe (zg gf (cN 0) (j5 1)) qy)))
 (qw (zp (yIf (dG (x8 1 0) (eU "either")) (qa 4) (qa 5)) (qh 6))
 (qw (zp (yIf (dG (x8 1 0) (eU "either")) (qa 5) (qa 4)) (qh 7))
 (x0 (vj (qe (va (qe (eU "either") (qe (qa 7) (qe (va (qe (eU "both") (qe (qa 6) (wn (x8 2 0) (x8 3 0))))) qy)))) (wn (qa 4) (qa 5)))))))))))))
inductive Kn where
 |lf (t:Bool) (n:Str) | nd (e:Bool) (i j:Nat)
def uH:Kn->Y
 |.lf t n=>.tup [.str (kL t),.str n]
 |.nd e i j=>.tup [.str (kN e),.int ((i:Nat):Int),.int ((j:Nat):Int)]
inductive Ru where
 |link (p q:Nat) | ei (r:Nat) (A:Ru) | bo (r:Nat) (A B:Ru) | cu (p q:Nat) (A B:Ru)
def za:Ru->Y
 |.link p q=>.tup [.str "link",.int ((p:Nat):Int),.int ((q:Nat):Int)]
 |.ei r A=>.tup [.str "either",.int ((r:Nat):Int),za A]
 |.bo r A B=>.tup [.str "both",.int ((r:Nat):Int),za A,za B]
 |.cu p q A B=>.tup [.str "cut",.int ((p:Nat):Int),.int ((q:Nat):Int),za A,za B]
def zr:Ru->List Nat
 |.link p q=>[p,q]
 |.ei r A=>r::zr A
 |.bo r A B=>r::(zr A++zr B)
 |.cu _ _ A B=>zr A++zr B
abbrev jb(ks:List Kn):List Y:=ks.map uH
def dP(ks:List Kn)(p:Nat)(w:Wd):Prop:=KW (jb ks) p w
theorem dP.more{ks:List Kn}{p:Nat}{w:Wd}(h:dP ks p w)(ms:List Kn):dP (ks++ms) p w:=by unfold dP jb;rw[AC];exact KW.more _ h
def ak(ks:List Kn):Prop:=∀(p:Nat) (k:Kn),ks[p]?=some k->match k with
 |.lf _ n=>eI n
 |.nd _ i j=>i<p/\j<p
theorem ak.snoc{ks:List Kn}{k:Kn}(h:ak ks)(hk:match k with | .lf _ n=>eI n | .nd _ i j=>i<ks.length/\j<ks.length):ak (ks++[k]):=by
 intro p k' e;by_cases c:p<ks.length
 ·rw[Az c] at e;exact h p k' e
 ·rw[Ak (by exact uR)] at e;have c2:p=ks.length:=by
   by_cases c3:p - ks.length=0
   ·omega
   ·rw[CL (by simp;exact abf)] at e;cases e
  subst c2;rw[CF] at e;cases e;exact hk
theorem cX(l:List α)(x:α)(r:List α):(l++x::r)[l.length]?=some x:=by rw[Ak (Am _),CF];rfl
theorem iO{l r:List α}{p:Nat}{x:α}(h:l[p]?=some x):(l++r)[p]?=some x:=by rw[Az (AW.mp h).1];exact h
inductive SR(ks:List Kn):Ru->List Nat->Prop
 |link {p q:Nat} {t:Bool} {n:Str} {E:List Nat}:p<q->ks[p]?=some (.lf t n)->ks[q]?=some (.lf (!t) n)->(∀x,x∈E↔x=p\/x=q)->E.Nodup->SR ks (.link p q) E
 |ei {r i j:Nat} {A:Ru} {EA E:List Nat}:ks[r]?=some (.nd true i j)->SR ks A EA->i∈EA->j∈EA->i≠j->(∀x,x∈E↔(x∈EA/\x≠i/\x≠j)\/x=r)->E.Nodup->SR ks (.ei r A) E
 |bo {r i j:Nat} {A B:Ru} {EA EB E:List Nat}:ks[r]?=some (.nd false i j)->SR ks A EA->SR ks B EB->i∈EA->j∈EB->(∀x,x∈E↔(x∈EA/\x≠i)\/(x∈EB/\x≠j)\/x=r)->E.Nodup->SR ks (.bo r A B) E
 |cu {p q:Nat} {A B:Ru} {EA EB E:List Nat} {w:Wd}:SR ks A EA->SR ks B EB->p∈EA->q∈EB->dP ks p w->dP ks q w.turn->(∀x,x∈E↔(x∈EA/\x≠p)\/(x∈EB/\x≠q))->E.Nodup->SR ks (.cu p q A B) E
theorem SR.more{ks:List Kn}{R:Ru}{E:List Nat}(h:SR ks R E)(ms:List Kn):SR (ks++ms) R E:=by induction h with|link h1 h2 h3 h4 h5=>exact .link h1 (iO h2) (iO h3) h4 h5|ei h1 _ h3 h4 h5 h6 h7 ih=>exact .ei (iO h1) ih h3 h4 h5 h6 h7|bo h1 _ _ h4 h5 h6 h7 ih1 ih2=>exact .bo (iO h1) ih1 ih2 h4 h5 h6 h7|cu _ _ h3 h4 h5 h6 h7 h8 ih1 ih2=>exact .cu ih1 ih2 h3 h4 (h5.more ms) (h6.more ms) h7 h8
theorem SR.sub{ks:List Kn}{R:Ru}{E:List Nat}(h:SR ks R E):∀x∈E,x∈zr R:=by
 induction h with
 |link _ _ _ h4 _=>intro x hx;rcases (h4 x).mp hx with rfl | rfl<;>simp[zr]
 |ei _ _ _ _ _ h6 _ ih=>intro x hx;rcases (h6 x).mp hx with⟨h,_⟩ | rfl;exact Ag _ (ih x h);exact Aq ..
 |bo _ _ _ _ _ h6 _ ih1 ih2=>
  intro x hx;rcases (h6 x).mp hx with⟨h,_⟩ | ⟨h,_⟩ | rfl
  ·exact Ag _ (An _ (ih1 x h))
  ·exact Ag _ (Ah _ (ih2 x h))
  ·exact Aq ..
 |cu _ _ _ _ _ _ h7 _ ih1 ih2=>
  intro x hx;rcases (h7 x).mp hx with⟨h,_⟩ | ⟨h,_⟩
  ·exact An _ (ih1 x h)
  ·exact Ah _ (ih2 x h)
def bQ(n:Nat):xw:=fun ys L Q=>∃wd,ys=[bJ wd]/\wd.depth≤n/\Q (bJ wd.turn) L
theorem aai:∀ys L Q,¬bQ 0 ys L Q:=fun ys L Q ⟨wd,_,hd,_⟩=>by cases wd<;>simp[Wd.depth] at hd
theorem u6(t:Bool):aF ([(("plain" : Str),("turned" : Str)),("turned", "plain"),("both", "either"),("either", "both")].map fun p=>((Sum.inr p.1:jo),Y.str p.2)) (Sum.inr (kL t))=some (.str (kL (!t))):=i6 (yX t)
theorem tH(t:Bool):aF ([(("plain" : Str),("turned" : Str)),("turned", "plain"),("both", "either"),("either", "both")].map fun p=>((Sum.inr p.1:jo),Y.str p.2)) (Sum.inr (kN t))=some (.str (kN (!t))):=i6 (xI t)
theorem ab0(n:Nat):∀ys L Q,bQ (n+1) ys L Q->k6 (aei (bQ n)) 2 ys L Q:=by
 rintro ys L Q ⟨wd,rfl,hd,q⟩;intro p hp;cases wd with
 |leaf t nm=>
  refine kq q9 (qx (u6 t) ?_);exact si (By hp) q
 |node e l r=>
  have hd':max l.depth r.depth+1≤n+1:=hd;refine kq q9 (qx (tH e) ?_);refine⟨l,rfl,by lia,r,rfl,by lia,?_⟩;exact si (By hp) q
structure Mir(ks:List Kn)(w:Wd)(ms:List Kn)(R:Ru)(tp sp:Nat):Prop where
 len:ms.length=2*w.size
 sr:SR (ks++ms) R [tp,sp]
 wt:dP (ks++ms) tp w.turn
 ws:dP (ks++ms) sp w
 tm:∀x,x∈zr R↔ks.length≤x/\x<ks.length+ms.length
 nd:(zr R).Nodup
 ok:ak (ks++ms)
theorem dP.leaf{ks:List Kn}{p:Nat}{n:Str}(h:ks[p]?=some (.lf t n)):dP ks p (.leaf t n):=by show(jb ks)[p]?=_;rw[Ar,h];rfl
theorem dP.node{ks:List Kn}{p:Nat}{e:Bool}{l r:Wd}(h:ks[p]?=some (.nd e i j))(hl:dP ks i l)(hr:dP ks j r):dP ks p (.node e l r):=by refine⟨i,j,?_,hl,hr⟩;rw[Ar,h];rfl
abbrev ER:=@dP.node
theorem rH{ks:List Kn}(hk:ak ks){n:Str}(hn:eI n):Mir ks (.leaf t n) [.lf (!t) n,.lf t n] (.link ks.length (ks.length+1)) ks.length (ks.length+1):=by
 have e1:(ks++[Kn.lf (!t) n,.lf t n])[ks.length]?=some (.lf (!t) n):=cX _ _ _;have e2:(ks++[Kn.lf (!t) n,.lf t n])[ks.length+1]?=some (.lf t n):=by have:=cX (ks++[Kn.lf (!t) n]) (Kn.lf t n) [];rw[Ac,Aw] at this;exact this
 refine⟨rfl,.link (t:=!t) (n:=n) (by exact BL _) e1 (by rw[Bool.not_not];exact e2) (by simp) (by simp),dP.leaf e1,dP.leaf e2,fun x=>?_,by simp[zr],?_⟩
 ·show x∈[ks.length,ks.length+1]↔ks.length≤x/\x<ks.length+2;simp;lia
 ·have:=(hk.snoc (k:=.lf (!t) n) hn).snoc (k:=.lf t n) hn;rw[Aw] at this;exact this
theorem SR.nod{ks:List Kn}{R:Ru}{E:List Nat}(h:SR ks R E):E.Nodup:=by cases h<;>assumption
theorem ang{x h lo a r N:Nat}(hh:(h=N/\lo=N+1)\/(h=N+1/\lo=N))(hN:N=a+m+r):x=h\/x=lo\/(a≤x/\x<a+m)\/a+m≤x/\x<a+m+r↔a≤x/\x<N+2:=by subst hN;rcases hh with⟨rfl,rfl⟩ | ⟨rfl,rfl⟩<;>lia
theorem ape{x a b c N:Nat}(h:a≠b)(k:c≠d):x∈[b,d,N]↔(x∈[a,b]/\x≠a)\/(x∈[c,d]/\x≠c)\/x=N:=by simp only[Ap,Bo,or_false];lia
theorem aps{x a b c N:Nat}(h:a≠b)(k:c≠d):x∈[a,c,N]↔(x∈[a,b]/\x≠b)\/(x∈[c,d]/\x≠d)\/x=N:=by simp only[Ap,Bo,or_false];lia
theorem ap7{x a b N M:Nat}(h:a<N)(k:b<N):x∈[N,M]↔(x∈[a,b,N]/\x≠a/\x≠b)\/x=M:=by simp only[Ap,Bo,or_false];lia
theorem aod{x a b N M:Nat}(h:a<N)(k:b<N):x∈[M,N]↔(x∈[a,b,N]/\x≠a/\x≠b)\/x=M:=by simp only[Ap,Bo,or_false];lia
theorem al7{a b N:Nat}(h:a<N)(k:b<N)(d:a≠b):[a,b,N].Nodup:=by rw[Av,Av];simp;lia
theorem ao1{a r N t s u v:Nat}(a1:a≤t/\t<a+m)(a2:a≤s/\s<a+m)(b1:a+m≤u/\u<a+m+r)(b2:a+m≤v/\v<a+m+r)(hN:N=a+m+r):t<N/\s<N/\u<N/\v<N/\t≠u/\s≠v:=by lia
theorem am2{h lo a r N:Nat}(hh:(h=N/\lo=N+1)\/(h=N+1/\lo=N))(hN:N=a+m+r):¬(h=lo\/(a≤h/\h<a+m)\/a+m≤h/\h<a+m+r)/\¬((a≤lo/\lo<a+m)\/a+m≤lo/\lo<a+m+r):=by lia
theorem aqn{x y a r:Nat}(h1:a≤x/\x<a+m)(h2:a+m≤y/\y<a+m+r)(e:x=y):False:=by lia
theorem zY{ks ml mr:List Kn}{e:Bool}{l r:Wd}{A B:Ru}{tl sl tr sr:Nat}(hl:Mir ks l ml A tl sl)(hr:Mir (ks++ml) r mr B tr sr){N:Nat}(hN:N=ks.length+(ml++mr).length):
 Mir ks (.node e l r) (ml++mr++[.nd (!e) tl tr,.nd e sl sr]) (.ei (if e=true then N+1 else N) (.bo (if e=true then N else N+1) A B)) N (N+1):=by
 have hA:∀x∈[tl,sl],ks.length≤x/\x<ks.length+ml.length:=fun x hx=>(hl.tm x).mp (hl.sr.sub x hx);have hB:∀x∈[tr,sr],ks.length+ml.length≤x/\x<ks.length+ml.length+mr.length:=fun x hx=>by have:=(hr.tm x).mp (hr.sr.sub x hx);rw[Ac] at this;exact this
 have a1:=hA tl (by simp);have a2:=hA sl (by simp);have b1:=hB tr (by simp);have b2:=hB sr (by simp);have nA:tl≠sl:=by have:=hl.sr.nod;simpa using this
 have nB:tr≠sr:=by have:=hr.sr.nod;simpa using this
 have hN':N=ks.length+ml.length+mr.length:=by rw[hN,Ac];simp +arith only
 obtain⟨d1,d2,d3,d4,d5,d6⟩:=ao1 a1 a2 b1 b2 hN';generalize eK:ks++(ml++mr++[Kn.nd (!e) tl tr,.nd e sl sr])=K;have k1:K=(ks++ml)++(mr++[Kn.nd (!e) tl tr,.nd e sl sr]):=by rw[<-eK];simp
 have k2:K=((ks++ml)++mr)++[Kn.nd (!e) tl tr,.nd e sl sr]:=by rw[<-eK];simp
 have k3:K=(((ks++ml)++mr)++[Kn.nd (!e) tl tr])++[.nd e sl sr]:=by rw[<-eK];simp
 have l2:((ks++ml)++mr).length=N:=by rw[Ac,Ac];lia
 have g1:K[N]?=some (.nd (!e) tl tr):=by rw[k2,<-l2];exact cX _ _ _
 have g2:K[N+1]?=some (.nd e sl sr):=by
  have l3:(((ks++ml)++mr)++[Kn.nd (!e) tl tr]).length=N+1:=by rw[Ac,l2];rfl
  rw[k3,<-l3];exact cX _ _ _
 have sA:SR K A [tl,sl]:=by rw[k1];exact hl.sr.more _
 have sB:SR K B [tr,sr]:=by rw[k2];exact hr.sr.more _
 have okK:ak K:=by have o1:=hr.ok.snoc (k:=.nd (!e) tl tr) (by show tl<((ks++ml)++mr).length/\tr<((ks++ml)++mr).length;rw[l2];exact⟨d1,d3⟩);have o2:=o1.snoc (k:=.nd e sl sr) (by show sl<_/\sr<_;rw[Ac,l2];exact⟨Cp d2,Cp d4⟩);rw[k3];exact o2
 have tA:=hl.tm;have tB:=hr.tm;rw[Ac] at tB;have wt:dP K N (Wd.node e l r).turn:=ER g1 (by rw[k1];exact hl.wt.more _) (by rw[k2];exact hr.wt.more _);have wsp:dP K (N+1) (Wd.node e l r):=ER g2 (by rw[k1];exact hl.ws.more _) (by rw[k2];exact hr.ws.more _);have lenm:(ml++mr++[Kn.nd (!e) tl tr,.nd e sl sr]).length=2*(Wd.node e l r).size:=by have h1:=hl.len;have h2:=hr.len;show _=2*(1+l.size+r.size);rw[Ac,Ac];simp;lia
 have lt:ks.length+(ml++mr++[Kn.nd (!e) tl tr,.nd e sl sr]).length=N+2:=by rw[Ac];simp[hN];rfl
 have tt:∀h lo:Nat,(h=N/\lo=N+1)\/(h=N+1/\lo=N)->(∀x,x∈zr (.ei h (.bo lo A B))↔ks.length≤x/\x<ks.length+(ml++mr++[Kn.nd (!e) tl tr,.nd e sl sr]).length)/\(zr (.ei h (.bo lo A B))).Nodup:=by
  intro h lo hh;constructor
  ·intro x;rw[lt];show x∈h::lo::(zr A++zr B)↔_;rw[Ap,Ap,Aj,tA,tB];exact ang hh hN'
  ·show(h::lo::(zr A++zr B)).Nodup;rw[Av,Av,AH];refine⟨?_,?_,hl.nd,hr.nd,fun x hx y hy e=>?_⟩
   ·rw[Ap,Aj,tA,tB];exact(am2 hh hN').1
   ·rw[Aj,tA,tB];exact(am2 hh hN').2
   ·exact aqn ((tA x).mp hx) ((tB y).mp hy) e
 cases e with
 |true=>
  have s1:SR K (.bo N A B) [sl,sr,N]:=by exact .bo g1 sA sB (by simp) (by simp) (fun x=>ape nA nB) (al7 d2 d4 d6)
  have s2:SR K (.ei (N+1) (.bo N A B)) [N,N+1]:=by exact .ei g2 s1 (by simp) (by simp) d6 (fun x=>ap7 d2 d4) (by simp)
  obtain⟨t1,t2⟩:=tt (N+1) N (.inr ⟨rfl,rfl⟩);exact⟨lenm,by rw[eK];exact s2,by rw[eK];exact wt,by rw[eK];exact wsp,t1,t2,by rw[eK];exact okK⟩
 |false=>
  have s1:SR K (.bo (N+1) A B) [tl,tr,N+1]:=by exact .bo g2 sA sB (by simp) (by simp) (fun x=>aps nA nB) (al7 (Cp d1) (Cp d3) d5)
  have s2:SR K (.ei N (.bo (N+1) A B)) [N,N+1]:=by exact .ei g1 s1 (by simp) (by simp) d5 (fun x=>aod (Cp d1) (Cp d3)) (by simp)
  obtain⟨t1,t2⟩:=tt N (N+1) (.inl ⟨rfl,rfl⟩);exact⟨lenm,by rw[eK];exact s2,by rw[eK];exact wt,by rw[eK];exact wsp,t1,t2,by rw[eK];exact okK⟩
def bY(n:Nat):xw:=fun ys L Q=>∃a,∃ks:List Kn,∃w:Wd,ys=[.ref a,bJ w]/\L a=some (.lst (jb ks))/\w.depth≤n/\n≤120/\w.ok/\ak ks/\ks.length+2*w.size≤10000/\
 ∀ms R tp sp p,L p=none->Mir ks w ms R tp sp->Q (.ref p) (qf (qf L a (.lst (jb (ks++ms)))) p (.lst [za R,.int ((tp:Nat):Int),.int ((sp:Nat):Int)]))
theorem xG:∀ys L Q,¬bY 0 ys L Q:=fun ys L Q ⟨a,ks,wd,_,_,hd,_⟩=>by cases wd<;>simp[Wd.depth] at hd
theorem bg_:∀m:Nat,m≤20000->m<sizeLine:=fun m h=>Bw h (by decide)
theorem yZ(n:Nat):∀ys L Q,bY (n+1) ys L Q->k6 (abg (bQ 120) (bY n)) 8 ys L Q:=by
 rintro ys L Q ⟨a,ks,w,rfl,ha,hd,hn,hok,hk,hb,q⟩;have big:=bg_;cases w with
 |leaf t nm=>
  have hb:ks.length+2*1≤10000:=hb;refine qd ha ⟨.leaf t nm,rfl,by exact Dk _,ql ha ⟨big _ (by rw[Ae];lia),?_⟩⟩;refine qd q9 (ql q9 ⟨big _ (by rw[Ac,Ae];simp;lia),?_⟩);rw[wm];have e1:(jb ks++[bJ (Wd.leaf t nm).turn])++[bJ (.leaf t nm)]=jb (ks++[.lf (!t) nm,.lf t nm]):=by unfold jb;rw[AC,Aw];rfl
  have e2:(jb (ks++[Kn.lf (!t) nm,.lf t nm])).length=ks.length+2:=by rw[Ae,Ac];rfl
  have i1:((((jb (ks++[Kn.lf (!t) nm,.lf t nm])).length:Nat):Int) - 2)=((ks.length:Nat):Int):=by rw[e2];lia
  have i2:((((jb (ks++[Kn.lf (!t) nm,.lf t nm])).length:Nat):Int) - 1)=((ks.length+1:Nat):Int):=by rw[e2];lia
  have e1':(jb ks++[bJ (Wd.leaf t nm).turn])++[.tup [.str (kL t),.str nm]]=jb (ks++[.lf (!t) nm,.lf t nm]):=e1
  first | rw[e1] | rw[e1']
  refine qd q9 (qd q9 (qd q9 (qd q9 fun p hp=>?_)));have np:L p=none:=by
   have:p≠a:=fun e=>by rw[e,q9] at hp;cases hp
   rw[qb this] at hp;exact hp
  have:=q _ _ _ _ p np (rH hk hok);have key:[za (.link ks.length (ks.length+1)),Y.int ((ks.length:Nat):Int),Y.int ((ks.length+1:Nat):Int)]=[.tup [.str "link",.int ((((jb (ks++[Kn.lf (!t) nm,.lf t nm])).length:Nat):Int) - 2),.int ((((jb (ks++[Kn.lf (!t) nm,.lf t nm])).length:Nat):Int) - 1)],.int ((((jb (ks++[Kn.lf (!t) nm,.lf t nm])).length:Nat):Int) - 2),.int ((((jb (ks++[Kn.lf (!t) nm,.lf t nm])).length:Nat):Int) - 1)]:=by rw[i1,i2];rfl
  rw[key] at this;exact vk this
 |node e l r=>
  have hd':max l.depth r.depth+1≤n+1:=hd;have hb:ks.length+2*(1+l.size+r.size)≤10000:=hb;refine⟨a,ks,l,rfl,ha,by lia,by exact fc,hok.1,hk,by lia,fun ml A tl sl p1 hp1 ML=>?_⟩;have na1:a≠p1:=vt ha hp1;have hl1:=ML.len;refine⟨a,ks++ml,r,rfl,by rw[qb na1,q9],by lia,by exact fc,hok.2,ML.ok,by rw[Ac];lia,fun mr B tr sr p2 hp2 MR=>?_⟩;have hl2:=MR.len;have np1:p1≠p2:=vt q9 hp2;have na2:a≠p2:=vt (by rw[qb na1];exact q9) hp2;have ha2:qf (qf (qf (qf L a (.lst (jb (ks++ml)))) p1 (.lst [za A,.int ((tl:Nat):Int),.int ((sl:Nat):Int)])) a (.lst (jb ((ks++ml)++mr)))) p2 (.lst [za B,.int ((tr:Nat):Int),.int ((sr:Nat):Int)]) a=some (.lst (jb ((ks++ml)++mr))):=by rw[qb na2];exact q9
  have h1:qf (qf (qf (qf L a (.lst (jb (ks++ml)))) p1 (.lst [za A,.int ((tl:Nat):Int),.int ((sl:Nat):Int)])) a (.lst (jb ((ks++ml)++mr)))) p2 (.lst [za B,.int ((tr:Nat):Int),.int ((sr:Nat):Int)]) p1=some (.lst [za A,.int ((tl:Nat):Int),.int ((sl:Nat):Int)]):=by rw[qb np1,qb (AK na1)];exact q9
  have h2:qf (qf (qf (qf L a (.lst (jb (ks++ml)))) p1 (.lst [za A,.int ((tl:Nat):Int),.int ((sl:Nat):Int)])) a (.lst (jb ((ks++ml)++mr)))) p2 (.lst [za B,.int ((tr:Nat):Int),.int ((sr:Nat):Int)]) p2=some (.lst [za B,.int ((tr:Nat):Int),.int ((sr:Nat):Int)]):=q9;have old:∀b o,b≠a->L b=some o->qf (qf (qf (qf L a (.lst (jb (ks++ml)))) p1 (.lst [za A,.int ((tl:Nat):Int),.int ((sl:Nat):Int)])) a (.lst (jb ((ks++ml)++mr)))) p2 (.lst [za B,.int ((tr:Nat):Int),.int ((sr:Nat):Int)]) b=some o:=fun b o nb e=>by
   have n1:b≠p1:=vt e hp1;have e2:qf (qf L a (.lst (jb (ks++ml)))) p1 (.lst [za A,.int ((tl:Nat):Int),.int ((sl:Nat):Int)]) b=some o:=by rw[qb n1,qb nb];exact e
   have n2:b≠p2:=vt e2 hp2;rw[qb n2,qb nb];exact e2
  generalize qf (qf (qf (qf L a (.lst (jb (ks++ml)))) p1 (.lst [za A,.int ((tl:Nat):Int),.int ((sl:Nat):Int)])) a (.lst (jb ((ks++ml)++mr)))) p2 (.lst [za B,.int ((tr:Nat):Int),.int ((sr:Nat):Int)])=L2 at ha2 h1 h2 old;have lks:(jb ((ks++ml)++mr)).length=ks.length+ml.length+mr.length:=by rw[Ae,Ac,Ac]
  refine qd ha2 ⟨.node e l r,rfl,by show max l.depth r.depth+1≤120;exact xR,qd h1 (qd h2 (ql ha2 ⟨big _ (by lia),?_⟩))⟩;have h1':∀o,qf L2 a o p1=some (.lst [za A,.int ((tl:Nat):Int),.int ((sl:Nat):Int)]):=fun o=>by rw[qb (AK na1)];exact h1
  have h2':∀o,qf L2 a o p2=some (.lst [za B,.int ((tr:Nat):Int),.int ((sr:Nat):Int)]):=fun o=>by rw[qb (AK na2)];exact h2
  refine qd q9 (qd (h1' _) (qd (h2' _) (ql q9 ⟨big _ (by rw[Ac];simp;lia),?_⟩)));rw[wm];obtain⟨N,hN⟩:∃N,N=ks.length+(ml++mr).length:=⟨_,rfl⟩;have e1:(jb ((ks++ml)++mr)++[.tup [.str (kN (!e)),.int ((tl:Nat):Int),.int ((tr:Nat):Int)]])++[.tup [.str (kN e),.int ((sl:Nat):Int),.int ((sr:Nat):Int)]]=jb (ks++(ml++mr++[.nd (!e) tl tr,.nd e sl sr])):=by unfold jb;simp[uH]
  rw[e1];have lN:(jb (ks++(ml++mr++[Kn.nd (!e) tl tr,.nd e sl sr]))).length=N+2:=by rw[Ae,Ac,Ac,hN];simp;rfl
  have i1:((((jb (ks++(ml++mr++[Kn.nd (!e) tl tr,.nd e sl sr]))).length:Nat):Int) - 2)=((N:Nat):Int):=by rw[lN];lia
  have i2:((((jb (ks++(ml++mr++[Kn.nd (!e) tl tr,.nd e sl sr]))).length:Nat):Int) - 1)=((N+1:Nat):Int):=by rw[lN];lia
  refine qd q9 (qd q9 ?_);have M:=zY (e:=e) ML MR hN;have done:∀p,qf L2 a (.lst (jb (ks++(ml++mr++[Kn.nd (!e) tl tr,.nd e sl sr])))) p=none->∀R,Mir ks (.node e l r) (ml++mr++[Kn.nd (!e) tl tr,.nd e sl sr]) R N (N+1)->
   hZ Q (.ref p) (qf (qf L2 a (.lst (jb (ks++(ml++mr++[Kn.nd (!e) tl tr,.nd e sl sr]))))) p (.lst [za R,.int ((N:Nat):Int),.int ((N+1:Nat):Int)])):=fun p hp R MM=>by
   have npa:p≠a:=fun z=>by rw[z,q9] at hp;cases hp
   rw[qb npa] at hp;have np:L p=none:=by cases z:L p with|none=>rfl|some o=>rw[old p o npa z] at hp;cases hp
   refine si ?_ (q _ _ _ _ p np MM);intro b o z;by_cases c1:b=p
   ·subst c1;rw[q9] at z ⊢;exact z
   ·rw[qb c1] at z ⊢;by_cases c2:b=a
    ·subst c2;rw[q9] at z ⊢;exact z
    ·rw[qb c2] at z ⊢;exact old b o c2 z
  cases e with
  |true=>
   have key:[za (.ei (if true=true then N+1 else N) (.bo (if true=true then N else N+1) A B)),Y.int ((N:Nat):Int),Y.int ((N+1:Nat):Int)]=[.tup [.str "either",.int ((((jb (ks++(ml++mr++[Kn.nd (!true) tl tr,.nd true sl sr]))).length:Nat):Int) - 1),.tup [.str "both",.int ((((jb (ks++(ml++mr++[Kn.nd (!true) tl tr,.nd true sl sr]))).length:Nat):Int) - 2),za A,za B]],.int ((((jb (ks++(ml++mr++[Kn.nd (!true) tl tr,.nd true sl sr]))).length:Nat):Int) - 2),.int ((((jb (ks++(ml++mr++[Kn.nd (!true) tl tr,.nd true sl sr]))).length:Nat):Int) - 1)]:=by rw[i1,i2];rfl
   walk_at "w";refine qd (h1' _) (qd (h2' _) fun p hp=>?_);have:=done p hp _ M;rw[key] at this;exact this
  |false=>
   have key:[za (.ei (if false=true then N+1 else N) (.bo (if false=true then N else N+1) A B)),Y.int ((N:Nat):Int),Y.int ((N+1:Nat):Int)]=[.tup [.str "either",.int ((((jb (ks++(ml++mr++[Kn.nd (!false) tl tr,.nd false sl sr]))).length:Nat):Int) - 2),.tup [.str "both",.int ((((jb (ks++(ml++mr++[Kn.nd (!false) tl tr,.nd false sl sr]))).length:Nat):Int) - 1),za A,za B]],.int ((((jb (ks++(ml++mr++[Kn.nd (!false) tl tr,.nd false sl sr]))).length:Nat):Int) - 2),.int ((((jb (ks++(ml++mr++[Kn.nd (!false) tl tr,.nd false sl sr]))).length:Nat):Int) - 1)]:=by rw[i1,i2];rfl
   walk_at "w";refine qd (h1' _) (qd (h2' _) fun p hp=>?_);have:=done p hp _ M;rw[key] at this;exact this
end L3
variable {R:L3.Ru}{ks:List L3.Kn}{wd:List (Option L3.Kn)}
namespace L3
open PySem L2 Words
def lQ:w6:=(x0 (oB 2 (fU (qa 0)) (kz 2 (zh (qh 1) (zh (qh 2) k7))) (yB (fB true (qa 2))) (qa 1)))
def pX:w6:=(x0 (oB 2 (fU (x8 0 0)) (kz 2 (zh (qh 1) (zh (qh 2) k7))) (dY (yB (fB true (qa 2))) (dG (x8 2 0) (eU "either"))) (qa 1)))
def e9:Option Kn->Y
 |none=>.non
 |some k=>uH k
abbrev dI(ks:List (Option Kn)):List Y:=ks.map e9
def cQ(f:Option Kn->Bool)(ks:List (Option Kn))(i:Nat):List Nat:=(List.range i).filter fun p=>match ks[p]? with
 |some k=>f k
 |none=>false
theorem aP{f:Option Kn->Bool}{ks:List (Option Kn)}{k:Option Kn}(h:ks[i]?=some k):cQ f ks (i+1)=cQ f ks i++if f k=true then [i] else []:=by unfold cQ;rw[Es,C9];congr 1;rw[List.filter_cons];simp only[h,C6]
theorem vN{f:Option Kn->Bool}{ks:List (Option Kn)}{p:Nat}(h:p∈cQ f ks i):p<i/\∃k,ks[p]?=some k/\f k=true:=by
 unfold cQ at h;obtain⟨h1,h2⟩:=B8.mp h;refine⟨Bv.mp h1,?_⟩;split at h2
 ·rename_i k e;exact⟨k,e,h2⟩
 ·cases h2
theorem wM(f:Option Kn->Bool)(ks:List (Option Kn))(i:Nat):(cQ f ks i).length≤i:=by unfold cQ;exact AU (CM _ _) (by rw[BN];simp +arith only)
def uk:Option Kn->Bool
 |some _=>true
 |none=>false
def jx(e:Bool):Option Kn->Bool
 |some (.nd e' _ _)=>decide (e'=e)
 |_=>false
abbrev kw(ks:List (Option Kn)):List Nat:=cQ uk ks ks.length
abbrev aZ(e:Bool)(ks:List (Option Kn)):List Nat:=cQ (jx e) ks ks.length
theorem iD(a b:List Nat):nY (a++b)=nY a++nY b:=by unfold nY;rw[AC]
theorem tZ{hs:List Nat}(h:(nY hs)[i]?=some y):∃n,hs[i]?=some n/\y=.int (n:Int):=by unfold nY at h;rw[Ar] at h;obtain⟨n,e1,e2⟩:=Ay.mp h;exact⟨n,e1,e2.symm⟩
theorem rA{f:Option Kn->Bool}{ks:List (Option Kn)}{keep:qm->Prop}{Q:YK}(hz:ks.length≤1000)(hk:keep L)
 (turn:∀(i:Nat) (k:Option Kn) (R:List Y->qm->Prop) zs,ks[i]?=some k->(f k=true->R (zs++[.int (i:Int)]) L)->(f k=false->R zs L)->g (.tup [.int (i:Nat),e9 k]) (τ++List.replicate 2 none) L fun τ2 L2=>tc τ2 L2 fun b L3=>wb b (te τ2 L3 fun z L4=>R (zs++[z]) L4) (R zs L3))
 (hq:∀p,L p=none->Q (.ref p) (qf L p (.lst (nY (cQ f ks ks.length))))):vM (jW (dI ks)) keep 2 g tc te τ L Q:=by
 refine du (fun i zs=>zs=nY (cQ f ks i)) (by rw[bZ,Ae];exact Bw hz (by decide)) hk rfl ?_ ?_
 ·rintro i y zs ey rfl;obtain⟨z,ez,rfl⟩:=dm ey;rw[Ar] at ez;obtain⟨k,ek,rfl⟩:=Ay.mp ez;refine turn i k _ _ ek (fun h=>⟨L,EC _,rfl,?_⟩) (fun h=>⟨L,EC _,rfl,?_⟩)
  ·rw[aP ek,AA h,iD];rfl
  ·rw[aP ek,As (by rw[h];exact Ax),AI]
 ·rintro zs rfl;rw[bZ,Ae];exact hq
def g9:xw:=fun ys L Q=>∃a,∃ks:List (Option Kn),ys=[.ref a]/\L a=some (.lst (dI ks))/\ks.length≤1000/\∀p,L p=none->Q (.ref p) (qf L p (.lst (nY (kw ks))))
theorem yw:∀ys L Q,g9 ys L Q->k6 lQ 1 ys L Q:=by
 rintro ys L Q ⟨a,ks,rfl,ha,hz,q⟩;refine xh ha fun keep kp=>rA (f:=uk) hz (kp L rfl) (fun i k R zs ek h1 h2=>?_) fun p hp=>vk (q p hp);cases k with
 |none=>exact h2 rfl
 |some k=>cases k<;>exact h1 rfl
abbrev fj(a l c:Addr):Y:=.tup [.ref a,.ref l,.ref c]
def fh:xw:=fun ys L Q=>∃a l c,∃ks:List (Option Kn),ys=[fj a l c]/\L a=some (.lst (dI ks))/\ks.length≤1000/\∀p,L p=none->Q (.ref p) (qf L p (.lst (nY (aZ true ks))))
theorem aa5:∀ys L Q,fh ys L Q->k6 pX 1 ys L Q:=by
 rintro ys L Q ⟨a,l,c,ks,rfl,ha,hz,q⟩;refine xh ha fun keep kp=>rA (f:=jx true) hz (kp L rfl) (fun i k R zs ek h1 h2=>?_) fun p hp=>vk (q p hp);cases k with
 |none=>exact h2 rfl
 |some k=>
  cases k with
  |lf t n=>cases t<;>exact h2 rfl
  |nd e i j=>
   cases e with|true=>exact h1 rfl|false=>exact h2 rfl
theorem aor(a b:Nat):min (a:Int) (b:Int)=((min a b:Nat):Int):=by omega
theorem ann(a b:Nat):max (a:Int) (b:Int)=((max a b:Nat):Int):=by omega
def mO(p:Nat×Nat):Y:=.tup [.int ((p.1:Nat):Int),.int ((p.2:Nat):Int)]
abbrev qr(l:List (Nat×Nat)):List Y:=l.map mO
end L3
namespace TS
open PySem PyProof.Rows PySem.W PySem.Calls
section
variable {w:World} 
abbrev keyBody(kx px:Str)(p1 p2 p3 p4 p5:Pos)(n:Nat):Expr:=.Tuple [.Subscript (.Name kx p1) (.Name px p2) p3,.Name px p4] n p5
structure jS(h:Heap)(f:Addr)(kx px:Str)(scope:Scope)(kvs:List Value):Prop where
 ex:∃(name qual:Str) (params:Arguments) (p1 p2 p3 p4 p5:Pos) (n:Nat) (pm ctv:Value) (c' cell k:Addr),h.get? f=some (kla_obj name qual params (keyBody kx px p1 p2 p3 p4 p5 n) scope [(kx,cell)] pm c' ctv)/\h.CodeRec (.ref c') qual/\
  h.IsCell cell (some (.ref k))/\h.IsList k kvs.toArray/\∀v:Value,bindArgs (kla_fn name qual params (keyBody kx px p1 p2 p3 p4 p5 n) scope [(kx,cell)] pm (.ref c') ctv) ⟨[v],[]⟩=pure [(px,v)]
 lim:h.NoLimit
structure KeySc(scope:Scope)(kx px:Str):Prop where
 kind:scope.kind=.function
 co:scope.isCoroutine=false
 gen:scope.isGenerator=false
 nc:∀x∈scope.names,x.2≠.cell
 lp:scope.names.lookup px=some .local
 lk:scope.names.lookup kx=some .free
 d1:(kx==("__debug__" : Str))=false
 d2:(px==("__debug__" : Str))=false
 d3:(kx==("__classdict__" : Str))=false
theorem jS.keeps{kvs:List Value}(k:jS h f kx px scope kvs)(hk:∀b o,h.get? b=some o->h'.get? b=some o):jS h' f kx px scope kvs:=by
 obtain⟨name,qual,params,p1,p2,p3,p4,p5,n,pm,ctv,c',cell,kk,g1,g2,g3,g4,g5⟩:=k.ex;refine⟨⟨name,qual,params,p1,p2,p3,p4,p5,n,pm,ctv,c',cell,kk,hk _ _ g1,?_,?_,?_,g5⟩,k.lim.keeps hk⟩
 ·obtain⟨c,oc,vs,tq,e1,e2,e3⟩:=g2;exact⟨c,oc,vs,tq,e1,hk _ _ e2,e3⟩
 ·obtain⟨o,e1,e2⟩:=g3;exact⟨o,hk _ _ e1,e2⟩
 ·obtain⟨o,e1,e2⟩:=g4;exact⟨o,hk _ _ e1,e2⟩
theorem al4{kvs:List Value}{u t:Tok}{r:Int}(K:jS s.heap f kx px scope kvs)(S:KeySc scope kx px)(hroom:A.depth<recursionLimit)(hi:kvs[i]?=some (.int r t))(hi2:i<2 ^ 40)
 (h:∀h' tk a,(∀b o,s.heap.get? b=some o->h'.get? b=some o)->h'.get? a=some { cls:=.type "tuple",data:=.seq #[.int r t,.int (i:Int) u] }->Q (.ref a) { s with heap:=h',toks:=tk }):
 wpAny (model prog w) A (call (.ref f) [.int (i:Int) u]) Q E s:=by
 obtain⟨name,qual,params,p1,p2,p3,p4,p5,n,pm,ctv,c',cell,kk,g1,g2,g3,g4,g5⟩:=K.ex;refine wpAny_call (kla_callFunE hroom g1 rfl S.co S.gen rfl g2 ?_);rw[g5];refine Ai (wpAny_newFunctionEnv S.nc (fun x hx=>by rw[AB.mp hx];exact S.lp) (fun h₁ hns hsb=>⟨K.lim.fresh _ hsb,?_⟩) S.kind);have k1:∀b o,s.heap.get? b=some o->h₁.get? b=some o:=fun b o e=>hsb.extBut b o (A2 (Heap.lt_size e)) (Heap.get?_push_of_some _ e);show codeAny _ _ (.expr _ (envX qual scope s.heap.objs.size f (.ref c') [(kx,cell)])) _ _;refine kla_codeExpr ?_;have look:(([(px,Value.int (i:Int) u)]:List (Str×Value)).reverse.lookup px)=some (.int (i:Int) u):=by simp
 have kf:(envX qual scope s.heap.objs.size f (.ref c') [(kx,cell)]).kindOf kx=some .free:=S.lk;have kp:(envX qual scope s.heap.objs.size f (.ref c') [(kx,cell)]).kindOf px=some .local:=S.lp;have cl:(envX qual scope s.heap.objs.size f (.ref c') [(kx,cell)]).cells.lookup kx=some cell:=by show([(kx,cell)]:List (Str×Addr)).lookup kx=_;simp
 have ic:h₁.IsCell cell (some (.ref kk)):=by obtain⟨o,e1,e2⟩:=g3;exact⟨o,k1 _ _ e1,e2⟩
 have il:h₁.IsList kk kvs.toArray:=by obtain⟨o,e1,e2⟩:=g4;exact⟨o,k1 _ _ e1,e2⟩
 refine wpAny_Tuple_spliced (Calls.spliced_cons (Subscript_ (wpAny_Name (wpAny_loadName_free S.kind kf cl ic (wpAny_Name (wpAny_loadName_local S.kind kp hns look ?_) S.d2) S.d3) S.d1)));refine item_listL il (by exact AX _) (by omega) (by rw[show((i:Nat):Int).toNat=i from rfl];exact hi) ?_;refine Calls.spliced_cons (wpAny_Name (wpAny_loadName_local S.kind kp hns look ?_) S.d2);refine Calls.spliced_nil ⟨by show 2≤sizeLine;decide,?_⟩;exact h _ _ _ (fun b o e=>Heap.get?_push_of_some _ (k1 b o e)) (Heap.get?_push_size _ rfl)
end
theorem aag(f:α->β):∀{l m:List β},l.Perm m->∀{T:List α},T.map f=m->∃T':List α,T'.Perm T/\T'.map f=l:=by
 intro l m p
 induction p with
 |nil=>intro T e;exact⟨T,BQ _,e⟩
 |cons x _ ih=>
  intro T e;cases T with
  |nil=>cases e
  |cons t r=>
   rw[AD] at e;obtain⟨e1,e2⟩:=CI e;obtain⟨T',p',e'⟩:=ih e2;exact⟨t::T',p'.cons t,by rw[AD,e',e1]⟩
 |swap x y l=>
  intro T e
  match T,e with
  |t::u::r,e=>
   rw[AD,AD] at e;obtain⟨e1,e2⟩:=CI e;obtain⟨e3,e4⟩:=CI e2;exact⟨u::t::r,List.Perm.swap t u r,by rw[AD,AD,e1,e3,e4]⟩
 |trans _ _ ih1 ih2=>
  intro T e;obtain⟨T1,p1,e1⟩:=ih2 e;obtain⟨T2,p2,e2⟩:=ih1 e1;exact⟨T2,p2.trans p1,e2⟩
def itV(x:Nat×Tok):Value:=.int (x.1:Int) x.2
def aj1(h:Heap)(kS:Addr)(rk:Nat->Int)(k:Value)(x:Nat×Tok):Prop:=∃a t u,k=.ref a/\a≠kS/\h.get? a=some { cls:=.type "tuple",data:=.seq #[.int (rk x.1) t,.int (x.1:Int) u] }
def iT(h:Heap)(kS:Addr)(rk:Nat->Int):List Value->List (Nat×Tok)->Prop
 |[],[]=>True
 |k::ks,x::xs=>aj1 h kS rk k x/\iT h kS rk ks xs
 |_,_=>False
theorem iT.len{h:Heap}{kS:Addr}{rk:Nat->Int}:∀{ks:List Value} {xs:List (Nat×Tok)},iT h kS rk ks xs->ks.length=xs.length
 |[],[],_=>rfl
 |_::_,_::_,⟨_,b⟩=>by rw[AF,AF,iT.len b]
 |[],_::_,z=>z.elim
 |_::_,[],z=>z.elim
theorem iT.mem{h:Heap}{kS:Addr}{rk:Nat->Int}:∀{ks:List Value} {xs:List (Nat×Tok)},iT h kS rk ks xs->∀t∈ks.zip xs,aj1 h kS rk t.1 t.2
 |[],[],_,t,ht=>by cases ht
 |_::_,_::_,⟨a,b⟩,t,ht=>by
  rw[List.zip_cons_cons] at ht;rcases Ap.mp ht with rfl | ht
  ·exact a
  ·exact iT.mem b t ht
 |[],_::_,z,_,_=>z.elim
 |_::_,[],z,_,_=>z.elim
section
variable {w:World} 
theorem aae{g:Heap}{f:Addr}{kx px:Str}{scope:Scope}{kvs:List Value}{kS:Addr}{rk:Nat->Int}{body:Value->PUnit->Sem (ForInStep PUnit)}(K:jS g f kx px scope kvs)(S:KeySc scope kx px)(hroom:A.depth<recursionLimit)(hn:g.get? kS=none)
 (hb:∀(x:Value) (s:Shared) (Q':ForInStep PUnit->Shared->Prop),wpAny (model prog w) A (call (.ref f) [x]) (fun k s'=>wpAny (model prog w) A (Builtin.List.listUpdate (.ref kS) (·.push k)) (fun _ s''=>Q' (.yield ⟨⟩) s'') E s') (fun _ _=>False) s->wpAny (model prog w) A (body x ⟨⟩) Q' E s):
 ∀(ps:List (Nat×Tok)) (ks:List Value) (e:Nat) (s:Shared) (Q:PUnit->Shared->Prop),(∀b o,g.get? b=some o->s.heap.get? b=some o)->s.heap.get? kS=some (seqObj "list" ks.toArray e)->ks.length+ps.length≤100000->
  (∀x∈ps,x.1<2 ^ 40/\∃t,kvs[x.1]?=some (.int (rk x.1) t))->
  (∀h' tk ks2 e',(∀b o,b≠kS->s.heap.get? b=some o->h'.get? b=some o)->h'.get? kS=some (seqObj "list" (ks++ks2).toArray e')->iT h' kS rk ks2 ps->Q ⟨⟩ { s with heap:=h',toks:=tk })->
  wpAny (model prog w) A (forIn (ps.map itV) PUnit.unit body) Q E s
 |[],ks,e,s,Q,hg,hk,hz,hp,q=>by rw[Dm,Et];exact Ai (q s.heap s.toks [] e (fun _ _ _ h=>h) (by rw[AI];exact hk) trivial)
 |x::r,ks,e,s,Q,hg,hk,hz,hp,q=>by
  rw[AD,C3];rw[AF] at hz;obtain⟨x40,t,ht⟩:=hp x (Aq ..);have big:(100000:Nat)+1≤sizeLine:=by rw[sizeLine_eq];exact C5 _ _
  refine Aa (hb (itV x) s _ (al4 (K.keeps hg) S hroom ht x40 fun h1 tk1 a k1 ha=>?_));have hkS1:h1.get? kS=some (seqObj "list" ks.toArray e):=k1 _ _ hk;have s1:=Heap.SameBut.update h1 kS (Obj.mapSeq (·.push (.ref a)));have ea:ks.toArray.push (.ref a)=List.toArray (ks++[.ref a]):=by simp
  obtain⟨c2,hc2⟩:∃c2,(h1.update kS (Obj.mapSeq (·.push (.ref a)))).get? kS=some (seqObj "list" (List.toArray (ks++[.ref a])) c2):=⟨_,by rw[<-ea];exact get?_update_seq hkS1 (·.push (.ref a))⟩;have nak:a≠kS:=fun z=>by
   rw[z,hkS1] at ha;have:=BC (fun o:Option Obj=>o.map (·.cls)) ha;have z2:some (Value.type "list")=some (Value.type "tuple"):=this;injection z2 with z3
   injection z3 with z4
   exact absurd z4 (by decide)
  refine listUpdate_at (s:={ s with heap:=h1,toks:=tk1 }) hkS1 rfl ?_ (by rw[Ao];lia) (AU (Nat.le_of_eq (Bj ..)) (by rw[Ao];lia));refine aae K S hroom hn hb r (ks++[.ref a]) c2 { s with heap:=h1.update kS (Obj.mapSeq (·.push (.ref a))),toks:=tk1 } Q (fun b o e=>?_) hc2 (by rw[Ac,Bf];lia) (fun y hy=>hp y (Ag _ hy)) fun h' tk ks2 e' kk hk' vs=>?_
  ·have nb:b≠kS:=fun z=>by rw[z,hn] at e;cases e
   exact(s1.2 b nb).trans (k1 b o (hg b o e))
  ·have keep1:∀b o,b≠kS->h1.get? b=some o->h'.get? b=some o:=fun b o nb e=>kk b o nb ((s1.2 b nb).trans e);refine q h' tk (.ref a::ks2) e' (fun b o nb e=>keep1 b o nb (k1 b o e)) (by rw[hk',Aw];rfl) ⟨⟨a,t,x.2,rfl,nak,keep1 a _ nak ha⟩,vs⟩
end
theorem rF{α β γ:Type}{F:α->β}{G:α->γ}:∀{l:List α},(∀x∈l,∀y∈l,F x=F y->G x=G y)->(l.map G).Nodup->(l.map F).Nodup
 |[],_,_=>DP
 |a::r,h,n=>by rw[AD] at n ⊢;obtain⟨n1,n2⟩:=Av.mp n;refine Av.mpr ⟨fun z=>?_,rF (fun x hx y hy=>h x (Ag _ hx) y (Ag _ hy)) n2⟩;obtain⟨y,hy,e⟩:=BI.mp z;have:=h y (Ag _ hy) a (Aq ..) e;exact n1 (this▸Cu hy)
theorem ab7{r1 r2 p1 p2:Int}(h1:0≤p1)(h2:p1<B)(h3:0≤p2)(h4:p2<B)(e:r1*B+p1=r2*B+p2):p1=p2:=by
 have hB:B≠0:=by lia
 have a1:(r1*B+p1) % B=p1:=by rw[Int.add_comm,DG];exact Int.emod_eq_of_lt h1 h2
 have a2:(r2*B+p2) % B=p2:=by rw[Int.add_comm,DG];exact Int.emod_eq_of_lt h3 h4
 rw[<-a1,e,a2]
section
variable {w:World} 
theorem ajw{g:Heap}{kvs:List Value}{kS a:Addr}{rk:Nat->Int}{ps:List (Nat×Tok)}{e1 e0:Nat}{P:PySem.Fin->Shared->Prop}(K:jS g f kx px scope kvs)(S:KeySc scope kx px)(hroom:A.depth<recursionLimit)(hn:g.get? kS=none)
 (hg:∀b o,g.get? b=some o->s.heap.get? b=some o) (hk:s.heap.get? kS=some (seqObj "list" #[] e0)) (ha:s.heap.get? a=some (seqObj "list" #[] e1)) (hka:kS≠a) (hz:ps.length≤100000)
 (hp:∀x∈ps,x.1<2 ^ 40/\∃t,kvs[x.1]?=some (.int (rk x.1) t)) (hB:∀x∈ps,((x.1:Nat):Int)<B) (nd:(ps.map (·.1)).Nodup)
 (h:∀h' tk (qs:List (Nat×Tok)) c,(∀b o,b≠kS->b≠a->s.heap.get? b=some o->h'.get? b=some o)->h'.get? a=some (seqObj "list" (qs.map itV).toArray c)->qs.Perm ps->(qs.Pairwise fun x y=>rk x.1*B+(x.1:Int)≤rk y.1*B+(y.1:Int))->P (.done (.ret .none)) { s with heap:=h',toks:=tk }):
 wpAny (model prog w) A (ksk_rest a (.ref f) false (ps.map itV).toArray e1 (.ref kS)) P E s:=by
 have big:(100000:Nat)+1≤sizeLine:=by rw[sizeLine_eq];exact C5 _ _
 unfold ksk_rest;refine Aa (Bl ?_);rw[List.forIn_toArray];refine Aa (aae (rk:=rk) K S hroom hn (fun x s' Q' hx=>?_) ps [] e0 s _ hg hk (by simpa using hz) hp fun h' tk ks e' keep hk' kv=>?_)
 ·refine Aa (wpAny_attempt (AV hx (fun k s'' hk=>?_) fun _ _ hF=>hF.elim))
  try dsimp only
  exact Aa (AV hk (fun _ s3 q=>Ai q) fun _ _ e=>e)
 ·try dsimp only
  rw[Ep] at hk';refine Aa (listItems_at (s:={ s with heap:=h',toks:=tk }) hk' rfl ?_);have ha':h'.get? a=some (seqObj "list" #[] e1):=keep _ _ (AK hka) ha;have len:ks.length=ps.length:=kv.len;obtain⟨T,eT⟩:∃T,T=ks.zip ps:=⟨_,rfl⟩;have kT:∀t∈T,aj1 h' kS rk t.1 t.2:=fun t ht=>kv.mem t (eT▸ht);have e2:T.map (·.2)=ps:=by rw[eT];exact List.map_snd_zip (by lia)
  have ez:ks.zip (ps.map itV)=T.map fun t=>(t.1,itV t.2):=by rw[eT,List.zip_map_right];rfl
  have mp:∀t∈T,t.2∈ps:=fun t ht=>by rw[<-e2];exact Cu ht
  have nT:∀t∈T,num h' B (t.1,itV t.2)=rk t.2.1*B+(t.2.1:Int):=fun t ht=>by obtain⟨b,tt,u,x1,x2,x3⟩:=kT t ht;exact num_of x1 x3 rfl
  have hB0:∀x∈ps,(0:Int)≤((x.1:Nat):Int):=fun _ _=>by exact AX _
  have inj:((ks.zip (ps.map itV)).map (num h' B)).Nodup:=by
   rw[ez,BR];have e4:T.map (num h' B∘fun t=>(t.1,itV t.2))=(T.map (·.2)).map fun x:Nat×Tok=>rk x.1*B+(x.1:Int):=by rw[BR];exact C1 fun t ht=>nT t ht
   rw[e4,e2];refine rF (G:=fun x:Nat×Tok=>x.1) (fun x hx y hy e=>?_) nd;have:=ab7 (hB0 x hx) (hB x hx) (hB0 y hy) (hB y hy) e;lia
  refine amo (s:={ s with heap:=h',toks:=tk }) (vs:=ps.map itV) (ks:=ks) (B:=B) hk' ha' hka (by rw[Ae];exact len) (by rw[Ae];exact dO) (fun v hv=>?_) inj fun h2 tk2 xs c keep2 hc pm pw=>?_
  ·obtain⟨j,hj⟩:=List.getElem?_of_mem hv;have hjl:j<ps.length:=by rw[<-len];exact(AW.mp hj).1
   have hm:(v,ps[j])∈T:=by rw[eT];refine List.mem_iff_getElem?.mpr ⟨j,?_⟩;rw[List.getElem?_zip_eq_some];exact⟨hj,Al hjl⟩
   obtain⟨b,tt,u,x1,x2,x3⟩:=kT _ hm;have x1:v=.ref b:=x1;exact⟨b,_,_,_,_,tt,u,x1,x3,rfl,rfl,by exact AX _,hB _ (mp _ hm)⟩
  ·rw[ez] at pm;obtain⟨T',pT,eT'⟩:=aag _ pm rfl;subst eT';have mT:∀t,t∈T'->t∈T:=fun t=>pT.mem_iff.mp;refine h h2 tk2 (T'.map (·.2)) c (fun b o n1 n2 e=>?_) ?_ ?_ ?_
   ·rw[keep2 b n1 n2];exact keep b o n1 e
   ·rw[hc,BR,BR];rfl
   ·rw[<-e2];exact pT.map _
   ·refine Co.mpr (Cr (fun {x y} hx hy z=>?_) (Co.mp pw));rw[nT x (mT x hx),nT y (mT y hy)] at z;exact z
theorem w_sortedK{kvs:List Value}{rk:Nat->Int}{ps:List (Nat×Tok)}(K:jS s.heap f kx px scope kvs)(S:KeySc scope kx px)(hroom:A.in1.in1.depth<recursionLimit)
 (hl:s.heap.IsList l (ps.map itV).toArray) (hz:ps.length≤100000)
 (hp:∀x∈ps,x.1<2 ^ 40/\∃t,kvs[x.1]?=some (.int (rk x.1) t)) (hB:∀x∈ps,((x.1:Nat):Int)<B) (nd:(ps.map (·.1)).Nodup)
 (h:∀h' tk (qs:List (Nat×Tok)) D c,s.heap.objs.size≤D->(∀b o,s.heap.get? b=some o->h'.get? b=some o)->h'.get? D=some (seqObj "list" (qs.map itV).toArray c)->qs.Perm ps->(qs.Pairwise fun x y=>rk x.1*B+(x.1:Int)≤rk y.1*B+(y.1:Int))->Q (.ref D) { s with heap:=h',toks:=tk }):
 wpAny (model prog w) A (call (.builtin "sorted") [.ref l] [(Str.ofString "key",.ref f)]) Q E s:=by
 have big:(100000:Nat)+1≤sizeLine:=by rw[sizeLine_eq];lia
 have hlen:(ps.map itV).length≤100000:=by rw[Ae];exact hz
 refine call_function_entry_kw kind_sorted plain_sorted entry_sorted (ksk_s1 _ _) ?_;unfold Builtin.«sorted»;refine Aa (m:=checkCount "sorted" 1 1 _) (Ai ?_);refine Aa (collect_list hl ?_ (by exact dO));refine Aa (wpAny_newList ?_ (by lia));obtain⟨g1,eg⟩:∃g1,g1=(s.heap.push (seqObj "list" #[] 0)).update s.heap.objs.size (Obj.mapSeq (· ++ (ps.map itV).toArray)):=⟨_,rfl⟩;have gs:g1.objs.size=s.heap.objs.size+1:=by rw[eg,Heap.size_update,size_push']
 have gk:∀b o,s.heap.get? b=some o->g1.get? b=some o:=fun b o q=>by have hlt:b<s.heap.objs.size:=Heap.lt_size q;rw[eg,Heap.get?_update_ne _ _ _ _ (A2 hlt)];exact Heap.get?_push_of_some _ q
 show wpAny _ _ _ _ _ { s with heap:=((s.heap.push (seqObj "list" #[] 0)).update s.heap.objs.size (Obj.mapSeq (· ++ (ps.map itV).toArray))).push (seqObj "list" (ps.map itV).toArray 0) };rw[<-eg];have hoD:(g1.push (seqObj "list" (ps.map itV).toArray 0)).get? g1.objs.size=some (seqObj "list" (ps.map itV).toArray 0):=Heap.get?_push_size _ rfl;have keep:∀b o,s.heap.get? b=some o->(g1.push (seqObj "list" (ps.map itV).toArray 0)).get? b=some o:=fun b o q=>Heap.get?_push_of_some _ (gk b o q);refine Aa (Ba (wpAny_call_entry_kw slot_list_sort ⟨_,hoD,rfl⟩ entry_list_sort ?body (ksk_l1 _ _)))
 case body=>
  obtain⟨D,eD⟩:∃D,D=g1.objs.size:=⟨_,rfl⟩;rw[<-eD] at hoD ⊢;show wpAny (model prog w) A.in1.in1 (Builtin.«list.sort» ⟨[.ref D],[(Str.ofString "key",.ref f)]⟩) _ _ _;rw[ksk_t1];obtain⟨g2,eg2⟩:∃g2,g2=g1.push (seqObj "list" (ps.map itV).toArray 0):=⟨_,rfl⟩;rw[<-eg2] at hoD keep ⊢;have s1:=Heap.SameBut.update g2 D (Obj.mapSeq fun _=>(#[]:Array Value));obtain⟨e1,ho1⟩:∃e1,(g2.update D (Obj.mapSeq fun _=>(#[]:Array Value))).get? D=some (seqObj "list" #[] e1):=⟨_,get?_update_seq hoD fun _=>#[]⟩;have nD:∀b o,s.heap.get? b=some o->b≠D:=fun b o q z=>by have hlt:b<s.heap.objs.size:=Heap.lt_size q;rw[z,eD,gs] at hlt;exact Nat.not_succ_lt_self hlt
  unfold ksk_tree;refine Aa (listItems_at (s:={ s with heap:=g2 }) hoD rfl ?_);refine Aa (listUpdate_at (s:={ s with heap:=g2 }) hoD rfl ?_ (by rw[Ao];exact dO) (Bk _));refine Aa (seqEpoch_at ho1 rfl ?_);refine Aa (wpAny_newTuple ?_ (by show(ps.map itV).length≤_;lia));refine Aa (wpAny_newList ?_ (Bk _));refine Ba ?_;obtain⟨g3,eg3⟩:∃g3,g3=(g2.update D (Obj.mapSeq fun _=>(#[]:Array Value))).push (seqObj "tuple" (ps.map itV).toArray 0):=⟨_,rfl⟩;have k3:∀b o,s.heap.get? b=some o->g3.get? b=some o:=fun b o q=>by rw[eg3];exact Heap.get?_push_of_some _ ((s1.2 b (nD b o q)).trans (keep b o q))
  have d3:g3.get? D=some (seqObj "list" #[] e1):=by rw[eg3];exact Heap.get?_push_of_some _ ho1
  show wpAny (model prog w) A.in1.in1 (ksk_rest D (.ref f) false (ps.map itV).toArray _ (.ref ((g2.update D (Obj.mapSeq fun _=>(#[]:Array Value))).push (seqObj "tuple" (ps.map itV).toArray 0)).objs.size)) _ _ { s with heap:=((g2.update D (Obj.mapSeq fun _=>(#[]:Array Value))).push (seqObj "tuple" (ps.map itV).toArray 0)).push (seqObj "list" #[] 0) };rw[<-eg3];have hkS:(g3.push (seqObj "list" #[] 0)).get? g3.objs.size=some (seqObj "list" #[] 0):=Heap.get?_push_size _ rfl;refine ajw (s:={ s with heap:=g3.push (seqObj "list" #[] 0) }) (g:=s.heap) (kS:=g3.objs.size) (a:=D) (rk:=rk) (B:=B) K S hroom (Heap.get?_none_of_le ?_) (fun b o q=>Heap.get?_push_of_some _ (k3 b o q)) hkS (Heap.get?_push_of_some _ d3) ?_ hz hp hB nd fun h' tk qs c kp hD pm pw=>?_
  ·have l1:g3.objs.size=g1.objs.size+2:=by rw[eg3,size_push',Heap.size_update,eg2,size_push']
   rw[l1,gs];exact AU (CQ _) (AZ _ 2)
  ·exact(A2 (Heap.lt_size d3)).symm
  ·refine⟨_,rfl,Ai ⟨_,rfl,h h' tk qs D c (by rw[eD,gs];exact CQ _) (fun b o q=>?_) hD pm pw⟩⟩;exact kp b o (A2 (Heap.lt_size (k3 b o q))) (nD b o q) (Heap.get?_push_of_some _ (k3 b o q))
end
end TS
namespace L2
open PySem PySem.Spec PyProof.Rows
theorem o8{i j:Int}{t u:Tok}{c:Value}(l:List Value)(h:TriplesOk l):TriplesOk (l++[.int i t,.int j u,c]):=by
 fun_induction TriplesOk l with
 |case1=>trivial
 |case2 _ _ _ _ _ rest ih=>exact ih h
 |case3=>exact h.elim
theorem uC{i j:Int}{t u:Tok}{c cv:Value}(l:List Value)(h:TriplesOk l)(e:codeAmong pos (l++[.int i t,.int j u,c])=some cv):codeAmong pos l=some cv\/cv=c:=by
 fun_induction TriplesOk l with
 |case1=>
  right;have e:(if i==pos.line&&j==pos.col then some c else none)=some cv:=e;split at e
  ·cases e;rfl
  ·cases e
 |case2 a _ b _ d rest ih=>
  have e:(if a==pos.line&&b==pos.col then some d else codeAmong pos (rest++[.int i t,.int j u,c]))=some cv:=e;show(if a==pos.line&&b==pos.col then some d else codeAmong pos rest)=some cv\/cv=c;split at e
  ·rename_i z;rw[AA z];exact .inl e
  ·rename_i z;rw[As z];exact ih h e
 |case3=>exact h.elim
structure xF(K:Af)(cdv:Value)(P:Addr):Prop where
 ex:∃c oc,cdv=.ref c/\K.lookup c=some oc/\∀h:Heap,h.get? c=some oc->PySem.W.CodeHd h c P
 bm:∃bm ob,PySem.W.nsIn K mainGlobals "__builtins__" = some (some (.ref bm))/\bm≠builtinsNs/\bm≠mainGlobals/\K.lookup bm=some ob/\ob.cls=.type "module" /\ ob.dict=some builtinsNs/\ob.data=.plain
theorem r6:∀{l:List Nat} {us:List Value},zn (l.map fun i:Nat=>V.int (0+(i:Int))) us->∃ps:List (Nat×Tok),us=ps.map TS.itV/\ps.map (·.1)=l
 |[],_,.nil=>⟨[],rfl,rfl⟩
 |i::r,_,.cons (b:=u) h t=>by obtain⟨ps,e1,e2⟩:=r6 (l:=r) t;obtain⟨tk,e3⟩:=(show ∃tk,u=Value.int (0+(i:Int)) tk from h);refine⟨(i,tk)::ps,?_,by rw[AD,e2]⟩;rw[AD,e1,e3];show _=Value.int (i:Int) tk::_;rw[Int.zero_add]
theorem rg:∀ps:List (Nat×Tok),zn (ps.map fun x=>V.int ((x.1:Nat):Int)) (ps.map TS.itV)
 |[]=>.nil
 |x::r=>.cons ⟨x.2,rfl⟩ (rg r)
def ahi(P:Addr)(q:Str)(ik:Nat)(te:TE):TE:=fun σ H Q=>te σ H fun v H1=>∃l kk,∃n:Nat,∃rks:List Int,v=.ref l/\H1 l=some (.lst ((List.range n).map fun i:Nat=>V.int (0+(i:Int))))/\σ[ik]?=some (some (.ref kk))/\H1 kk=some (.lst (rks.map V.int))/\rks.length=n/\n≤1000/\pO H1 P q/\
 ∀H2 D (qs:List Nat),(∀b u,b≠P->H1 b=some u->H2 b=some u)->pO H2 P q->H1 D=none->D≠P->H2 D=some (.lst (qs.map fun i:Nat=>V.int (i:Int)))->qs.Perm (List.range n)->(qs.Pairwise fun i j=>rks.getD i 0*1000000+(i:Int)≤rks.getD j 0*1000000+(j:Int))->Q (.ref D) H2
section
theorem yG{kk cell c':Addr}{params:Arguments}{ctv:Value}{Q:VK}(I:qt X pins σ H s)(S:TS.KeySc lscope kx px)(hr:X.A.depth+3<recursionLimit)
 (hf:s.heap.get? f=some (PySem.W.kla_obj name qual params (TS.keyBody kx px p1 p2 p3 p4 p5 x1) lscope [(kx,cell)] pm c' ctv)) (hcd:s.heap.CodeRec (.ref c') qual) (hcell:s.heap.IsCell cell (some (.ref kk)))
 (hb:∀v:Value,bindArgs (PySem.W.kla_fn name qual params (TS.keyBody kx px p1 p2 p3 p4 p5 x1) lscope [(kx,cell)] pm (.ref c') ctv) ⟨[v],[]⟩=pure [(px,v)])
 (hl:H l=some (.lst ((List.range n).map fun i:Nat=>V.int (0+(i:Int))))) (hk:H kk=some (.lst (rks.map V.int))) (hn:rks.length=n) (hz:n≤1000)
 (q:∀D (qs:List Nat),H D=none->qs.Perm (List.range n)->(qs.Pairwise fun i j=>rks.getD i 0*1000000+(i:Int)≤rks.getD j 0*1000000+(j:Int))->Q (.ref D) (upd H D (.lst (qs.map fun i:Nat=>V.int (i:Int))))):
 wpAny (model X.prog X.w) X.A (call (.builtin "sorted") [.ref l] [(Str.ofString "key",.ref f)]) (EP X pins σ Q) X.xe s:=by
 obtain⟨its,rv,pl,_⟩:=I.list (ES hl);obtain⟨kits,rk,pk,_⟩:=I.list (ES hk);obtain⟨ps,rfl,eps⟩:=r6 rv;have lk:kits.length=n:=by rw[<-rk.length,Ae,hn]
 have lp:ps.length=n:=by have:=BC List.length eps;rwa[Ae,BN] at this
 have big:(100000:Nat)≤sizeLine:=by decide
 refine jp I.tk (TS.w_sortedK (rk:=fun i=>rks.getD i 0) (B:=1000000) (kvs:=kits) ⟨⟨name,qual,params,p1,p2,p3,p4,p5,x1,pm,ctv,c',cell,kk,hf,hcd,hcell,pk.isList,hb⟩,I.nolimit⟩ S ?_ pl.isList (by lia) (fun x hx=>?_) (fun x hx=>?_) ?_ fun h' tk qs D c hD keep hg pm' pw ht=>?_)
 ·show X.A.depth<recursionLimit;lia
 ·have hx1:x.1∈List.range n:=by rw[<-eps];exact Cu hx
  have hx2:=Bv.mp hx1;refine⟨by lia,?_⟩;have e1:(rks.map V.int)[x.1]?=some (V.int (rks.getD x.1 0)):=by rw[Ar,Al (by lia),Bm,Al (by lia)];rfl
  obtain⟨u,e2,r2⟩:=Words.Paired.getP rk e1;obtain⟨t,rfl⟩:=(show ∃t,u=Value.int (rks.getD x.1 0) t from r2);exact⟨t,e2⟩
 ·have hx1:x.1∈List.range n:=by rw[<-eps];exact Cu hx
  have hx2:=Bv.mp hx1;omega
 ·rw[eps];exact CV
 ·have hfr:H D=none:=I.hok.fresh hD;refine⟨.ref D,_,I.laid (t':=tk) (o:=.lst ((qs.map (·.1)).map fun i:Nat=>V.int (i:Int))) keep hD ?_,rfl,q D (qs.map (·.1)) hfr ?_ ?_⟩
  ·refine⟨?_,qs.map TS.itV,c,?_,hg⟩
   ·rw[Ae,Ae,pm'.length_eq];lia
   ·rw[BR];exact rg qs
  ·rw[<-eps];exact pm'.map _
  ·exact Co.mpr pw
end
section
theorem qt.tabbed{P c':Addr}{ps more:Array Value}{oc fo:Obj}{tk:Nat}(I:qt X pins σ H s)(hP:H P=some (.tbl ps))(hx:Heap.ExtBut P s.heap h')(htb:h'.get? P=some (PySem.W.tabObj (ps++more)))
 (hc:s.heap.objs.size≤c') (hoc:h'.get? c'=some oc) (ht:0<tk):qt X pins σ (upd (upd H P (.tbl (ps++more))) c' (.frz oc (.own 0))) { s with heap:=h'.push fo,toks:=tk }:=by
 have nc:H c'=none:=I.hok.fresh hc;have nP:∀b,H b=none->b≠P:=fun b e z=>by rw[z,hP] at e;cases e
 have nC:∀b u,H b=some u->b≠c':=fun b u e z=>by rw[z,nc] at e;cases e
 have oldC:∀b o,s.heap.get? b=some o->b≠c':=fun b o e=>A2 (AJ (Heap.lt_size e) hc);have kp:∀b o,b≠P->s.heap.get? b=some o->(h'.push fo).get? b=some o:=fun b o n e=>Heap.get?_push_of_some _ (hx b o n e);have nPt:∀b u,H b=some u->(∀ps,u≠.tbl ps)->b≠P:=fun b u e d z=>by rw[z,hP] at e;cases e;exact d _ rfl
 refine I.step (ch:=[]) (g':=s.gens) (d':=s.drawn) (t':=tk) (fun _ z=>nomatch z) (fun b o _ _ _ e n=>kp b o (nP b n) e) (fun b o _ _ _ e n=>⟨o.slots,kp b o (nP b n) e⟩) (fun b o _ e n=>?_) (fun b o _ e=>?_) (fun b xs e=>?_) (fun b o u e=>?_) (fun b qs e=>?_) (fun m hm=>?_) (fun b u e=>?_) I.bare ht
 ·rw[qp (oldC b o e),qp (nP b n)];exact n
 ·by_cases c:b=P
  ·subst c;exact⟨_,Heap.get?_push_of_some _ htb⟩
  ·exact⟨o,kp b o c e⟩
 ·rw[qp (nC b _ e),qp (nPt b _ e fun _ z=>by cases z)];exact e
 ·rw[qp (nC b _ e),qp (nPt b _ e fun _ z=>by cases z)];exact e
 ·rw[qp (nC b _ e)];by_cases c:b=P
  ·subst c;rw[hP] at e;cases e;exact⟨more,zw⟩
  ·rw[qp c];exact⟨#[],by rw[e];simp⟩
 ·exact(hm.extBut hx (nP _ I.free)).push _
 ·by_cases c:b=c'
  ·subst c;rw[zw] at e;cases e;exact⟨Heap.get?_push_of_some _ hoc,_,Heap.get?_push_of_some _ hoc⟩
  ·rw[qp c] at e;by_cases d:b=P
   ·subst d;rw[zw] at e;cases e;exact Heap.get?_push_of_some _ htb
   ·rw[qp d] at e;refine(I.hok b u e).stay (fun a v ha r=>kp a v ?_ r) (fun a r=>?_) (fun a xs r=>?_)
    ·rcases ha with rfl | ha
     ·exact d
     ·exact nPt a _ ha fun _ z=>by cases z
    ·rw[qp (nC a _ r),qp (nPt a _ r fun _ z=>by cases z)];exact r
    ·rw[qp (nC a _ r),qp (nPt a _ r fun _ z=>by cases z)];exact r
theorem acd{te:TE}{params:Arguments}{lpos:Pos}{ik:Nat}{P:Addr}(hg:Gl X "sorted")(hm:X.mg "sorted" = none)(he:PE X e te)(S:TS.KeySc lscope kx px)(C:xF X.K X.env.code P)(hr:X.A.depth+3<recursionLimit)
 (hq:X.env.qual ++ "<lambda>" = q) (hix:X.N[ik]?=some kx) (hck:X.env.scope.names.lookup kx=some .cell) (hclo:∃cell,X.env.cells.lookup kx=some cell/\closureFor lscope X.env=pure [(kx,cell)])
 (hdef:defaultsOf params X.env=([],[])) (hb:∀(name qual:Str) (cl:List (Str×Addr)) (pm cd ct v:Value),bindArgs (PySem.W.kla_fn name qual params (TS.keyBody kx px p1 p2 p3 p4 p5 x1) lscope cl pm cd ct) ⟨[v],[]⟩=pure [(px,v)])
 (h1:starEach [e] X.env=(false,eval e X.env)::starEach [] X.env:=by rfl) (h2:(backTo pos (starEach [e] X.env)).any (·.1)=false:=by rfl)
 (h3:backTo pos (starEach [e] X.env)=(false,eval e X.env)::backTo pos (starEach [] X.env):=by rfl):
 PE X (.Call (.Name "sorted" p) [e] [⟨some "key",.Lambda params (TS.keyBody kx px p1 p2 p3 p4 p5 x1) lscope lpos,kpos⟩] pos) (ahi P q ik te):=by
 intro pins s σ H Q I h;refine wpAny_Call_Name_kw (fN I hg hm (by decide +kernel:bootBuiltins "sorted" = some (.builtin "sorted")) ?_ (by decide) (by decide));refine PyProof.Rows.callWith_kw ?_ h3 h2;rw[h3];refine Calls.spliced_cons (v4 (he pins s σ H _ I h) fun v s1 ⟨x,H1,I1,rx,l,kk,n,rks,ev,hl,hs,hk,hn,hz,T,qq⟩=>?_);refine Calls.spliced_nil ?_;subst ev;cases (show v=Value.ref l from rx);show wpAny _ _ (evalAll ((do let v <-eval (.Lambda params (TS.keyBody kx px p1 p2 p3 p4 p5 x1) lscope lpos) X.env;standAt pos;pure v)::[])) _ _ s1;refine wpAny_evalAll_cons (Aa ?_);obtain⟨cell,ecell,eclo⟩:=hclo;obtain⟨c,oc0,ecd,lc,hC⟩:=C.ex;obtain⟨bm,ob,b1,b2,b3,b4,b5,b6,b7⟩:=C.bm;obtain⟨tps,tP,tok,tall⟩:=T;have hgs:s1.heap.Ns mainGlobals X.mg:=I1.ok.mod.glob.keeps I1.bk;have hPo:s1.heap.get? P=some (PySem.W.tabObj tps):=I1.hok P _ tP;have Chd:PySem.W.CodeHd s1.heap c P:=hC _ (I1.kIn c oc0 lc);have baseNe:∀b o,X.base.get? b=some o->b≠P:=fun b o e z=>by have:=(I1.bs b o e).2;rw[z,tP] at this;cases this
 have hbmB:=I1.ok.mod.kin bm ob b4;have hB:s1.heap.BuiltinsAt X.mg P:=⟨bm,ob,Bp I1.ok.mod.kin I1.ok.mod.glob b1,b2,b3,baseNe _ _ hbmB,(I1.bs _ _ hbmB).1,b5,b6,b7⟩;have hgP:mainGlobals≠P:=by obtain⟨o,es,ep,e,hd,_⟩:=I1.ok.mod.glob;exact baseNe _ _ e
 have hcell:s1.heap.IsCell cell (some (.ref kk)):=by
  obtain⟨m,_,hl'⟩:=I1.loc;obtain⟨u,ru,lk⟩:=hl' ik kx _ hix hs (.inr (.inl hck));cases (show u=Value.ref kk from ru);rcases lk with⟨k1,_⟩ | ⟨_,c2,e2,hc2⟩
  ·have k1:X.env.scope.names.lookup kx=some .local:=k1;rw[hck] at k1;cases k1
  ·rw[ecell] at e2;cases e2;exact hc2
 refine PySem.W.kla_eval hdef ?_;rw[hq];have vk:∀(s2:Shared) (H2:Hp) (f c':Addr) (ctv pm:Value),qt X pins σ H2 s2->s2.heap.get? f=some (PySem.W.kla_obj "<lambda>" q params (TS.keyBody kx px p1 p2 p3 p4 p5 x1) lscope [(kx,cell)] pm c' ctv)->s2.heap.CodeRec (.ref c') q->s2.heap.IsCell cell (some (.ref kk))->
  (∀b u,b≠P->H1 b=some u->H2 b=some u)->pO H2 P q->(∀b,H2 b=none->H1 b=none)->
  wpAny (model X.prog X.w) X.A (do standAt pos;pure (Value.ref f)) (fun v s'=>wpAny (model X.prog X.w) X.A (evalAll []) (fun vs s''=>wpAny (model X.prog X.w) X.A (call (.builtin "sorted") [.ref l] ([Str.ofString "key"].zip (v::vs))) (EP X pins σ Q) X.xe s'') X.xe s') X.xe s2:=by
  intro s2 H2 f c' ctv pm I2 g1 g2 g3 g4 g5 g6;refine Aa (wpAny_standAt (Ai (wpAny_evalAll_nil ?_)));have lP:l≠P:=fun z=>by rw[z,tP] at hl;cases hl
  have kP:kk≠P:=fun z=>by rw[z,tP] at hk;cases hk
  refine yG (n:=n) (rks:=rks) I2 S hr g1 g2 g3 (fun v=>hb _ _ _ _ _ _ v) (g4 _ _ lP hl) (g4 _ _ kP hk) hn hz fun D qs hD pm' pw=>?_;have nDP:D≠P:=fun z=>by obtain⟨ps2,e2,_⟩:=g5;rw[z,e2] at hD;cases hD
  refine qq _ D qs (fun b u n e=>?_) ?_ (g6 D hD) nDP zw pm' pw
  ·rw[qp (j8 (g4 b u n e) hD)];exact g4 b u n e
  ·exact g5.keep (qp (AK nDP)) fun b o u e=>by rw[qp (j8 e hD)];exact e
 cases hf:codeAmong lpos tps.toList with
 |some cv=>
  obtain⟨c',oc,vs,t,ecv,f1,f2,f3⟩:=tall lpos cv hf;subst ecv;refine jp I1.tk (PySem.W.kla_makeFunctionHit (mg:=X.mg) eclo I1.ok.glob hgs ecd Chd hPo tok hf hB fun ctv h' tk hk' hsz ht=>?_);have I2:qt X pins σ H1 { s1 with heap:=h'.push { cls:=.type "function",data:=.func (PySem.W.kla_fn "<lambda>" q params (TS.keyBody kx px p1 p2 p3 p4 p5 x1) lscope [(kx,cell)] ((X.mg "__name__").getD .none) (.ref c') ctv) },toks:=tk }:=I1.kept (t':=tk) fun b o e=>Heap.get?_push_of_some _ (hk' b o e);obtain⟨hoc,_⟩:=I2.hok c' _ f1;refine vk _ H1 _ c' ctv _ I2 (Heap.get?_push_size _ rfl) ⟨c',oc,vs,t,rfl,hoc,f2,f3⟩ ?_ (fun b u _ e=>e) ⟨tps,tP,tok,tall⟩ (fun b e=>e);obtain⟨o,e1,e2⟩:=hcell;exact⟨o,Heap.get?_push_of_some _ (hk' _ _ e1),e2⟩
 |none=>
  refine jp I1.tk (PySem.W.kla_makeFunction (mg:=X.mg) eclo I1.ok.glob hgs ecd Chd hPo tok hf hgP hB fun c' ctv h' tk hx hge hlt hrec htb ht=>?_);obtain⟨c2,oc,vs,t,e2,hoc,f2,f3⟩:=hrec;cases e2;have I2:=I1.tabbed (fo:=PySem.W.kla_obj "<lambda>" q params (TS.keyBody kx px p1 p2 p3 p4 p5 x1) lscope [(kx,cell)] ((X.mg "__name__").getD .none) c' ctv) tP hx htb hge hoc ht;have nc:H1 c'=none:=I1.hok.fresh hge;have cP:c'≠P:=fun z=>by rw[z,tP] at nc;cases nc
  refine vk _ _ _ c' ctv _ I2 (Heap.get?_push_size _ rfl) ⟨c',oc,vs,t,rfl,Heap.get?_push_of_some _ hoc,f2,f3⟩ ?_ (fun b u n e=>?_) ?_ (fun b e=>?_)
  ·obtain⟨o,e1,e2⟩:=hcell;have nP:cell≠P:=fun z=>by have:=I1.freeC kx cell ecell;rw[z,tP] at this;cases this
   exact⟨o,Heap.get?_push_of_some _ (hx _ _ nP e1),e2⟩
  ·rw[qp (j8 e nc),qp n];exact e
  ·refine⟨tps++#[rawInt lpos.line,rawInt lpos.col,.ref c'],by rw[qp (AK cP),zw],?_,fun pos' cv z=>?_⟩
   ·rw[A4];exact o8 _ tok
   ·rw[A4] at z;rcases uC _ tok z with z | z
    ·obtain⟨d',od,vs',t',k1,k2,k3⟩:=tall pos' cv z;have nP:d'≠P:=fun z=>by rw[z,tP] at k2;cases k2
     exact⟨d',od,vs',t',k1,by rw[qp (j8 k2 nc),qp nP];exact k2,k3⟩
    ·exact⟨c',oc,vs,t,z,zw,f2,f3⟩
  ·by_cases d:b=c'
   ·subst d;exact nc
   ·rw[qp d] at e;by_cases d2:b=P
    ·subst d2;rw[zw] at e;cases e
    ·rw[qp d2] at e;exact e
end
end L2
namespace L3
open PySem L2
def zT(Pt:Addr)(q:Str)(ik:Nat)(te:xn)(τ:jj)(L:qm)(Q:YK):Prop:=te τ L fun y L1=>match y with
 |.ref l=>dU L1 l fun ys=>∃(n:Nat) (rks:List Int) (kk:Addr),ys=aY 0 n/\tj τ ik=some (.ref kk)/\L1 kk=some (.lst (rks.map Y.int))/\rks.length=n/\n≤1000/\L1 Pt=some (.tb q)/\
  ∀(D:Addr) (qs:List Nat),L1 D=none->qs.Perm (List.range n)->(qs.Pairwise fun i j=>rks.getD i 0*1000000+(i:Int)≤rks.getD j 0*1000000+(j:Int))->Q (.ref D) (qf L1 D (.lst (qs.map fun i:Nat=>Y.int (i:Int))))
 |_=>False
theorem mM{G:G3}{H:Hp}:∀{l:List Nat} {xs:List V},xm G H (l.map fun i:Nat=>Y.int (0+(i:Int))) xs->xs=l.map fun i:Nat=>V.int (0+(i:Int))
 |[],_,h=>h
 |_::_,_,⟨x,xs',e,r,s⟩=>by subst e;cases r;rw[mM s];rfl
theorem gB{G:G3}{H:Hp}:∀{l:List Int} {xs:List V},xm G H (l.map Y.int) xs->xs=l.map V.int
 |[],_,h=>h
 |_::_,_,⟨x,xs',e,r,s⟩=>by subst e;cases r;rw[gB s];rfl
theorem s9{G:G3}{H:Hp}:∀qs:List Nat,xm G H (qs.map fun i:Nat=>Y.int (i:Int)) (qs.map fun i:Nat=>V.int (i:Int))
 |[]=>rfl
 |_::r=>⟨_,_,rfl,rfl,s9 r⟩
theorem aca{params:Arguments}{lpos:Pos}{ik:Nat}(hg:Gl X "sorted")(hm:X.mg "sorted" = none)(he:QE X e te)(S:TS.KeySc lscope kx px)(C:xF X.K X.env.code Pt)(hr:X.A.depth+3<recursionLimit)
 (hq:X.env.qual ++ "<lambda>" = q) (hix:X.N[ik]?=some kx) (hck:X.env.scope.names.lookup kx=some .cell) (hclo:∃cell,X.env.cells.lookup kx=some cell/\closureFor lscope X.env=pure [(kx,cell)])
 (hdef:defaultsOf params X.env=([],[])) (hb:∀(name qual:Str) (cl:List (Str×Addr)) (pm cd ct v:Value),bindArgs (PySem.W.kla_fn name qual params (TS.keyBody kx px p1 p2 p3 p4 p5 x1) lscope cl pm cd ct) ⟨[v],[]⟩=pure [(px,v)])
 (h1:starEach [e] X.env=(false,eval e X.env)::starEach [] X.env:=by rfl) (h2:(backTo pos (starEach [e] X.env)).any (·.1)=false:=by rfl)
 (h3:backTo pos (starEach [e] X.env)=(false,eval e X.env)::backTo pos (starEach [] X.env):=by rfl):
 QE X (.Call (.Name "sorted" p) [e] [⟨some "key",.Lambda params (TS.keyBody kx px p1 p2 p3 p4 p5 x1) lscope lpos,kpos⟩] pos) (zT Pt q ik te):=
 EF (acd hg hm he S C hr hq hix hck hclo hdef hb h1 h2 h3) fun σ H Q ⟨τ,L,Q3,rs,rl,z,k⟩=>by
  refine⟨τ,L,_,rs,rl,z,fun v H1 y L1 t1 rl1 rv z=>?_⟩;cases y with
  |ref l=>
   obtain⟨ys,e1,n,rks,kk,rfl,e2,e3,hn,hz,eP,qq⟩:=xx z;cases rv;obtain⟨xs,h1,r1⟩:=rl1 l _ e1;obtain⟨xk,h2,r2⟩:=rl1 kk _ e3;have T:pO H1 Pt q:=rl1 Pt _ eP;cases mM r1;cases gB r2;obtain⟨v,hv,rv⟩:=rs.get ik _ (om _ _ e2);cases rv;refine⟨l,kk,n,rks,rfl,h1,hv,h2,hn,hz,T,fun H2 D qs kp T2 hD nDP hD2 pm pw=>?_⟩;have tb:∃ps,H1 Pt=some (.tbl ps):=let ⟨ps,e,_⟩:=T;⟨ps,e⟩;have t2:ja H1 H2:=fun a u i h=>kp a u (fun c=>by obtain⟨ps,e⟩:=tb;rw[c,e] at h;cases h;cases i) h
   refine k _ _ _ _ (t1.trans t2) (fun a u e=>?_) (by rfl) (qq D qs (rl1.none hD) pm pw);by_cases c:a=D
   ·subst c;rw[q9] at e;cases e;exact⟨_,hD2,s9 qs⟩
   ·rw[qb c] at e;by_cases d:a=Pt
    ·subst d;rw[eP] at e;cases e;exact T2
    ·obtain⟨x,hx⟩:=(rl1 a u e).ex;exact(rl1 a u e).keep t2 (by rw[hx];exact kp a x d hx)
  |_=>exact z.elim
structure ak2(K:Af)(x qual:Str)(st:Stmt)(f:Addr)(fd:FuncData)(Pt:Addr):Prop where
 ex:∃(oc:Value) (od:Option Addr) (kV doc pm:Value) (an:Option Addr) (cdv ct:Value) (osl:Array (Option Value)),
  fd=PySem.W.fnOf x qual (xq st) (jk st) (qo st) .none kV doc pm an cdv ct/\K.lookup f=some ⟨oc,od,.func fd,osl⟩/\PySem.W.codeIn K cdv qual=true/\xF K cdv Pt
 kp:PySem.W.keepIn K (.ref f)=true
theorem aog{P:Program}{w:World}{K:Af}{N:List Str}{k:Nat}{sp:xw}(F:ak2 K x qual st f fd Pt)(S:wr N ps (qo st))(len:∀ys L Q,sp ys L Q->ys.length=ps.length)
 (hbody:∀(cdv:Value) (A:Around) (outer:List Env) (s:Shared) (H:Hp) (E:XK),xF K cdv Pt->w4 k (A.deeper (PyProof.Rows.envOfC qual (qo st) s.heap.objs.size f cdv))->
  ∃t,mC (cz CX0 P w K mg base N qual (qo st) f cdv A outer s H E).nox (jk st) t/\∀ys L Q,sp ys L Q->t { nx:=fun _ L'=>hZ Q .non L',rt:=hZ Q } (eG N ys) L):Fn3 P w K mg base (k+1) f fd ps sp:=by
 obtain⟨oc,od,kV,doc,pm,an,cdv,ct,osl,rfl,lk,hcd,C⟩:=F.ex;have F0:Fun K x qual st f _:=⟨⟨oc,od,kV,doc,pm,an,cdv,ct,osl,rfl,lk,hcd⟩,F.kp⟩;refine aa2 lk hcd S (fun vs H Q E ⟨ys,L,Q3,rv,rl,z,_⟩=>by rw[<-rv.length];exact len ys L Q3 z) fun A outer s H vs Q E hr ⟨ys,L,Q3,rv,rl,z,k⟩=>?_;obtain⟨t,ht,q⟩:=hbody cdv A outer s H E C hr;refine⟨_,iM.nox ht,eG N ys,L,_,gl rv,rl,q ys L Q3 z,?_⟩;exact⟨fun σ H' τ L' t' rs' rl' ⟨L2,s2,q2⟩=>k .non H' .non L2 t' (rl'.sub s2) (by rfl) q2,fun v H' y L' t' rl' rv' ⟨L2,s2,q2⟩=>k v H' y L2 t' (rl'.sub s2) rv' q2,fun _ _ _ _ _ _ _ z=>z.elim,fun _ _ _ _ _ _ _ z=>z.elim⟩
def oU(Pt:Addr)(q:Str):xw:=fun ys L Q=>∃ns:List Int,ys=[.sq (ns.map Y.int)]/\ns.length≤63/\L=qf (fun _=>none) Pt (.tb q)/\∀L',Q (.bl true) L'
def spTopT(q:Str)(K:Af)(Pt:Addr):Sp:=fun vs H Q _=>∃(a:Addr) (ns:List Int),vs=[.ref a]/\SqF K H a (ns.map V.int)/\ns.length≤63/\H Pt=some (.tbl #[])/\∀H',Q (.bl true) H'
theorem ad8{vs:List V}{Q:VK}{E:XK}(h:spTopT q G.K Pt vs H Q E):dn G (oU Pt q) vs H Q E:=by
 obtain⟨a,ns,rfl,hs,hl,hP,z⟩:=h;refine⟨[.sq (ns.map Y.int)],qf (fun _=>none) Pt (.tb q),fun y _=>y=.bl true,xm.one ⟨a,_,rfl,hs,rf ns⟩,(fun b u e=>?_),⟨ns,rfl,hl,rfl,fun _=>rfl⟩,?_⟩
 ·by_cases c:b=Pt
  ·subst c;rw[q9] at e;cases e;exact⟨#[],hP,trivial,fun pos cv z=>by cases z⟩
  ·rw[qb c] at e;cases e
 ·rintro v H' y L' _ _ rv rfl;cases rv;exact z H'
end L3
namespace L2
open PySem PySem.Spec PyProof.Rows
def lessK(Pt:Addr):Af->Af
 |[]=>[]
 |(a,o)::r=>if a==Pt then lessK Pt r else(a,o)::lessK Pt r
theorem jy{Pt a:Addr}(h:a≠Pt):∀K:Af,(lessK Pt K).lookup a=K.lookup a
 |[]=>rfl
 |(b,o)::r=>by
  unfold lessK;by_cases c:(b==Pt)=true
  ·rw[AA c,jy h r,Bs];have:(a==b)=false:=by have hb:=eq_of_beq c;subst hb;exact Er h
   rw[this]
  ·rw[As c,Bs,Bs,jy h r]
theorem vh{Pt:Addr}:∀K:Af,(lessK Pt K).lookup Pt=none
 |[]=>rfl
 |(b,o)::r=>by
  unfold lessK;by_cases c:(b==Pt)=true
  ·rw[AA c];exact vh r
  ·rw[As c,Bs];have:(Pt==b)=false:=by cases d:Pt==b with|false=>rfl|true=>exact absurd (beq_iff_eq.mpr (eq_of_beq d).symm) c
   rw[this];exact vh r
theorem kC{a:Addr}{K:Af}{o:Obj}(e:(lessK Pt K).lookup a=some o):a≠Pt/\K.lookup a=some o:=by
 by_cases c:a=Pt
 ·subst c;rw[vh] at e;cases e
 ·rw[jy c] at e;exact⟨c,e⟩
theorem lessK_in{K:Af}(X:K.In h):(lessK Pt K).In h:=fun a o e=>X a o (kC e).2
structure afz(K:Af)(Pt:Addr):Prop where
 tab:K.lookup Pt=some (PySem.W.tabObj #[])
 hd:∃c,∀h:Heap,K.In h->PySem.W.CodeHd h c Pt
 st:Pt≠cStatics
section
variable {K:Af}(T:K.lookup Pt=some (PySem.W.tabObj #[]))
include T
theorem ns_dn{a:Addr}{r:Option (Option Value)}(e:PySem.W.nsIn K a x=r):PySem.W.nsIn (lessK Pt K) a x=r:=by
 rw[<-e];unfold PySem.W.nsIn;by_cases c:a=Pt
 ·subst c;rw[vh,T]
 ·rw[jy c]
theorem lk_dn{a:Addr}{o:Obj}(e:K.lookup a=some o)(n:o.cls≠.none):(lessK Pt K).lookup a=some o:=by
 rw[jy ?_]
 ·exact e
 ·rintro rfl;rw[T] at e;cases e;exact n rfl
theorem code_dn(e:PySem.W.codeIn K cd q=true):PySem.W.codeIn (lessK Pt K) cd q=true:=by
 unfold PySem.W.codeIn at e ⊢;split at e
 ·rename_i c;by_cases d:c=Pt
  ·subst d;rw[T] at e;simp at e
  ·rw[jy d];exact e
 ·cases e
theorem ajb{v:Value}:PySem.W.ownIn (lessK Pt K) x v=PySem.W.ownIn K x v:=by
 unfold PySem.W.ownIn;split
 ·rfl
 ·rename_i a;by_cases d:a=Pt
  ·subst d;rw[vh,T]
  ·rw[jy d];split
   ·exact ns_dn T rfl
   ·rfl
 ·rfl
theorem rc{x:Str}:∀l:List Value,PySem.W.alongIn (lessK Pt K) x l=PySem.W.alongIn K x l
 |[]=>rfl
 |c::r=>by unfold PySem.W.alongIn;rw[ajb T,rc r]
theorem gS{v:Value}:PySem.W.findIn (lessK Pt K) v x=PySem.W.findIn K v x:=by
 unfold PySem.W.findIn;split
 ·rfl
 ·rename_i a;by_cases d:a=Pt
  ·subst d;rw[vh,T]
  ·rw[jy d];split
   ·exact rc T _
   ·rfl
 ·rfl
theorem ud{a:Addr}(n:a≠Pt):PySem.W.specialIn (lessK Pt K) (.ref a) x=PySem.W.specialIn K (.ref a) x:=by unfold PySem.W.specialIn PySem.W.typeIn;dsimp only;rw[jy n];congr 1;funext t;exact gS T
theorem keep_dn{f:Value}(e:PySem.W.keepIn K f=true):PySem.W.keepIn (lessK Pt K) f=true:=by
 unfold PySem.W.keepIn at e ⊢;split at e
 ·rename_i a;by_cases d:a=Pt
  ·subst d;rw[T] at e;simp at e
  ·rw[jy d,ud T d];exact e
 ·cases e
end
theorem xD{P:Program}{w:World}{K:Af}{mb:Str->Option Value}{CX:vY}{k:Nat}{a:Addr}{s₁:Shared}{ns:List Int}
 (KX:K.In s₁.heap) (TI:afz K Pt) (hns:s₁.heap.Ns mainGlobals mg) (hb:s₁.heap.Ns builtinsNs mb) (hbb:∀x:Str,x ≠ "__name__" -> mb x=bootBuiltins x) (hlim:s₁.heap.NoLimit) (hg:s₁.gens=#[]) (htk:0<s₁.toks)
 (ha:s₁.heap.get? a=some { cls:=.type "list",data:=.seq vs.toArray }) (hi:IntsAre vs ns) (hl:ns.length≤sizeLine) (hr:w4 k callerA)
 (F:∀base:Heap,(lessK Pt K).In base->base.Ns mainGlobals mg->am P w (lessK Pt K) mg base CX k fa fd [x] sp) (hbind:∀(s:Shared) (u:Value),BindsTo s fd ⟨[u],[]⟩ [(x,u)])
 (hsp:∀H:Hp,H Pt=some (.tbl #[])->(H a=none\/∃o xs,H a=some (.frz o (.lst xs)))->aB (lessK Pt K) H a (ns.map V.int)->sp [.ref a] H (fun v _=>v=.bl true) fun _ _ _=>False)
 (hCX:∀H e s',CX [] H s₁ (fun _ _ _=>False) e s'->False):
 codeAny (model P w) callerA (.call (.ref fa) ⟨[.ref a],[]⟩) (fun r s'=>r=.ok (.ret (.bool true))/\OldK s₁.heap s'.heap/\s'.os=s₁.os/\AllBare s'.gens) s₁:=by
 have rv:=m5 hi;have lenV:=hi.length;have hP:s₁.heap.get? Pt=some (PySem.W.tabObj #[]):=KX Pt _ TI.tab;have naP:a≠Pt:=fun z=>by rw[z,hP] at ha;cases ha
 have core:∀H:Hp,H Pt=some (.tbl #[])->(∀b,b≠a->b≠Pt->H b=none)->(H a=none\/∃o xs,H a=some (.frz o (.lst xs)))->aB (lessK Pt K) H a (ns.map V.int)->(∀u,H a=some u->jz P w H s₁.heap a u)->(H a≠none->K.lookup a=none)->
  codeAny (model P w) callerA (.call (.ref fa) ⟨[.ref a],[]⟩) (fun r s'=>r=.ok (.ret (.bool true))/\OldK s₁.heap s'.heap/\s'.os=s₁.os/\AllBare s'.gens) s₁:=by
  intro H HP Hn HO HS hoka hka;have hok:dN P w H s₁.heap:=fun b u e=>by
   by_cases c:b=a
   ·subst c;exact hoka u e
   ·by_cases d:b=Pt
    ·subst d;rw[HP] at e;cases e;exact hP
    ·rw[Hn b c d] at e;cases e
  have base_of:∀{b:Addr} {o:Obj},s₁.heap.get? b=some o->H b=none->(pM s₁.heap H).get? b=some o:=fun e n=>ac8 e n;have noA:∀{b:Addr} {o:Obj} {es:Array DictEntry} {ep:Nat},s₁.heap.get? b=some o->o.data=.dict es ep->H b=none:=fun {b o es ep} e d=>by
   refine Hn b (fun z=>?_) fun z=>?_
   ·subst z;rw[ha] at e;cases e;have d':Data.seq vs.toArray _=Data.dict es ep:=d;cases d'
   ·subst z;rw[hP] at e;cases e;have d':Data.fields _=Data.dict es ep:=d;cases d'
  have nsK:∀{b:Addr} {m:Str->Option Value},s₁.heap.Ns b m->(pM s₁.heap H).Ns b m:=fun {b m} ⟨o,es,ep,e,d,r⟩=>⟨o,es,ep,base_of e (noA e d),d,r⟩;have hKb:(lessK Pt K).In (pM s₁.heap H):=fun b o e=>by
   obtain⟨n,e⟩:=kC e;refine base_of (KX b o e) ?_;by_cases c:b=a
   ·subst c;cases q:H b with|none=>rfl|some u=>rw[hka (by rw[q];simp)] at e;cases e
   ·exact Hn b c n
  have hM:Mod (lessK Pt K) mg (pM s₁.heap H):=⟨hKb,nsK hns,⟨mb,nsK hb,hbb⟩,let ⟨mc,h1,h2⟩:=hlim;⟨mc,nsK h1,h2⟩⟩;have e0:aet P w (lessK Pt K) mg (pM s₁.heap H) callerA [] s₁ H:=⟨rfl,hM,fun b o e=>afi e,Nat.le_of_eq (yN _ _),trivial,fun b hb=>absurd (show b∈([]:List Addr) from hb) (by simp),hok,.of_eq hg,htk⟩;refine codeAny_mono ((F _ hKb (nsK hns)).run callerA [] s₁ H ⟨[.ref a],[]⟩ [.ref a] [.ref a] _ _ hr e0 (hbind s₁ (.ref a)) (.cons rfl .nil) (hsp H HP HO HS)) fun r s' h=>?_;cases r with
  |error e=>exact(hCX H e s' h).elim
  |ok fl=>
   cases fl with
   |next=>exact False.elim h
   |brk=>exact False.elim h
   |cont=>exact False.elim h
   |ret u=>
    obtain⟨v,H',os,bare,un,hok',r',q,_⟩:=h;have q':v=.bl true:=q;subst q';obtain rfl:u=Value.bool true:=r';obtain⟨more,em⟩:=un.tbls Pt _ HP;have gP:s'.heap.get? Pt=some (PySem.W.tabObj (#[]++more)):=hok' Pt _ em;have kp:∀b o,b≠Pt->s₁.heap.get? b=some o->s'.heap.get? b=some o:=fun b o n e=>by
     have un1:H b=none->s'.heap.get? b=some o:=fun z=>un.keep b o e z (by intro z;exact absurd (show b∈([]:List Addr) from z) (by simp)) (by simp);by_cases c:b=a
     ·subst c;rcases HO with z | ⟨ob,xs,z⟩
      ·exact un1 z
      ·have z2:=un.frzs _ _ _ z;obtain⟨e1,_⟩:=hok _ _ z;obtain⟨e2,_⟩:=hok' _ _ z2;rw[e] at e1;cases e1;exact e2
     ·exact un1 (Hn b c n)
    obtain⟨c,hc⟩:=TI.hd;refine⟨rfl,⟨fun b o e=>?_,fun b o e=>?_⟩,os,bare⟩
    ·by_cases n:b=Pt
     ·subst n;rw[hP] at e;cases e;exact .inr (.inl ⟨((hc _ KX).tab hP).isCodeTable,rfl,#[],more,rfl,gP⟩)
     ·exact .inl (kp b o n e)
    ·by_cases n:b=Pt
     ·subst n;exact⟨_,gP⟩
     ·exact⟨o,kp b o n e⟩
 cases hk:K.lookup a with
 |some o=>
  have e:=KX a o hk;rw[ha] at e;cases e;refine core (fun b=>if b=Pt then some (.tbl #[]) else none) (AA rfl) (fun b _ n=>As n) (.inl (As naP)) (.inr ⟨_,vs.toArray,_,(jy naP K).trans hk,rfl,rfl,rfl,by rw[Ao,lenV];exact hl,by simpa using rv⟩) (fun u z=>by have z':=(As naP).symm.trans z;cases z') fun z=>absurd (As naP) z
 |none=>
  refine core (fun b=>if b=a then some (.frz { cls:=.type "list",data:=.seq vs.toArray } (.lst (ns.map V.int))) else if b=Pt then some (.tbl #[]) else none) ((As (AK naP)).trans (AA rfl)) (fun b n1 n2=>(As n1).trans (As n2)) (.inr ⟨_,_,AA rfl⟩) (.inl (.inr ⟨_,AA rfl⟩)) (fun u z=>?_) fun _=>hk;have z':=(AA rfl).symm.trans z;cases z';exact⟨ha,by rw[Ae];exact hl,vs,_,rv,ha⟩
theorem walk_ofZT{l:PySem.W.OpenLaw}{k:Nat}{q:Program}{loose:List Str}{XP:(Str->Option Value)->Heap->Prop}{as0:List Addr}{N t:Nat}{d:DefRec}{K:Params->Af}{CX:vY}{sp:Af->Addr->Sp}
 (hn:l.most=some n) (hn2:n≤sizeLine) (hdf:d.params.defaults=[]) (hr:w4 k callerA) (ek:∀P,as0=(K P).map (·.1)) (htk:0<t)
 (F:∀(w:World) (mg:Str->Option Value) (fa:Addr) (h:Heap),(K w.params).In h->h.Ns mainGlobals mg->mg d.name=some (.ref fa)->
  ∃Pt:Addr,afz (K w.params) Pt/\∃fd:FuncData,(∀(s:Shared) (u:Value),BindsTo s fd ⟨[u],[]⟩ [(x,u)])/\
   ∀base:Heap,(lessK Pt (K w.params)).In base->base.Ns mainGlobals mg->am l.prog w (lessK Pt (K w.params)) mg base CX k fa fd [x] (sp (lessK Pt (K w.params)) Pt))
 (hsp:∀(K:Af) (Pt:Addr) (H:Hp) (a:Addr) (ns:List Int),ns.length≤n->H Pt=some (.tbl #[])->(H a=none\/∃o xs,H a=some (.frz o (.lst xs)))->aB K H a (ns.map V.int)->sp K Pt [.ref a] H (fun v _=>v=.bl true) fun _ _ _=>False)
 (hCX:∀(H:Hp) (s:Shared) (e:Value) (s':Shared),CX [] H s (fun _ _ _=>False) e s'->False):
 PySem.W.WalkX q loose XP (PySem.W.X.obsZ as0) (PySem.W.X.valZ K N t) l.row.toRowW d [] (fun f vs=>PySem.call f vs):=by
 refine Att.attach_callZ hn hdf ek htk fun w s₀ s₁ mg mb fa o pm cd doc a vs ns G KX tk ho hd hcd hmg hobj hints hlen hg=>?_;obtain⟨Pt,TI,fd,hb,hF⟩:=F w mg fa _ KX G.T.g hmg;exact xD KX TI G.T.g G.T.b G.T.builtins G.T.nolimit hg tk hobj hints (AU hlen hn2) hr hF hb (fun H hP hO hS=>hsp _ Pt H a ns hlen hP hO hS) fun H e s'=>hCX H s₁ e s'
end L2
namespace L3
open PySem L2
theorem top_startT :∀(K:Af) (Pt:Addr) (H:Hp) (a:Addr) (ns:List Int),ns.length≤63->H Pt=some (.tbl #[])->(H a=none\/∃o xs,H a=some (.frz o (.lst xs)))->aB K H a (ns.map V.int)->spTopT q K Pt [.ref a] H (fun v _=>v=.bl true) fun _ _ _=>False:=by
 intro K Pt H a ns hl hP hO hS;refine⟨a,ns,rfl,?_,hl,hP,fun _=>rfl⟩;rcases hS with(h | ⟨o,h⟩) | h
 ·rcases hO with z | ⟨o,xs,z⟩<;>rw[h] at z<;>cases z
 ·exact .inl ⟨o,h⟩
 ·exact .inr h
structure DefInT(K:Af)(x:Str)(st:Stmt)(Pt:Addr):Prop where
 ex:∃(f:Addr) (kV doc pm:Value) (an:Option Addr) (cdv ct:Value),PySem.W.nsIn K mainGlobals x=some (some (.ref f))/\ak2 K x x st f (PySem.W.fnOf x x (xq st) (jk st) (qo st) .none kV doc pm an cdv ct) Pt
theorem DefInT.use{K:Af}(D:DefInT K x st Pt)(X:K.In h)(G:h.Ns mainGlobals mg)
 (hb:∀(kV doc pm:Value) (an:Option Addr) (cdv ct:Value) (us:List Value),us.length=ps.length->bindArgs (PySem.W.fnOf x x (xq st) (jk st) (qo st) .none kV doc pm an cdv ct) ⟨us,[]⟩=pure (ps.zip us)):
 ∃f fd,ak2 K x x st f fd Pt/\dH K fd ps []/\mg x=some (.ref f):=by
 obtain⟨f,kV,doc,pm,an,cdv,ct,a,F⟩:=D.ex;exact⟨f,_,F,.all (hb kV doc pm an cdv ct),Bp X G a⟩
end L3
namespace L2
open PySem PySem.Spec PyProof.Rows
section
variable {σ':St} 
theorem qt.ren(M:List Str)(I:qt X pins σ H s)(hl:M.length=X.N.length)(hs:σ'.length=σ.length)(h:∀(j:Nat) v,σ'[j]?=some (some v)->σ[j]?=some (some v)/\X.N[j]?=M[j]?):qt { X with N:=M } pins σ' H s:=by obtain⟨m,hm,l⟩:=I.loc;have o:=I.ok;exact { ok:=⟨o.mod,o.kind,o.glob,o.blt,o.above,o.inj,o.has,o.cab,o.hd,o.frames,o.stk,o.exf,o.bs,o.bsz,o.noex,o.exfs,o.funs,o.frf⟩,os:=I.os,bare:=I.bare,base:=I.base,cell:=I.cell,free:=I.free,freeC:=I.freeC,pin:=I.pin,hok:=I.hok,tk:=I.tk,len:=(by rw[hs,I.len];exact hl.symm),loc:=⟨m,hm,fun i x v e1 e2 e3=>by obtain⟨a,b⟩:=h i v e2;exact l i x v (b.trans e1) a e3⟩ }
theorem gC(h:(σ.set i none)[j]?=some (some v)):j≠i/\σ[j]?=some (some v):=by
 by_cases c:i=j
 ·subst c;rw[Eg] at h;cases e:σ[i]? with|none=>rw[e] at h;cases h|some o=>rw[e] at h;cases h
 ·rw[A6 c] at h;exact⟨AK c,h⟩
def akq(i:Nat)(t:TS):TS:=fun D σ H=>t { nx:=fun σ' H'=>D.nx (σ'.set i none) H',rt:=D.rt,bk:=fun σ' H'=>D.bk (σ'.set i none) H',ct:=fun σ' H'=>D.ct (σ'.set i none) H' } (σ.set i none) H
theorem aff{t:TS}(h:PS { X with N:=X.N.set i x } st t):PS X st (akq i t):=by
 intro pins s σ H D I z;have I':qt { X with N:=X.N.set i x } pins (σ.set i none) H s:=I.ren _ (by rw[BG]) (by rw[BG]) fun j v e=>by obtain⟨a,b⟩:=gC e;exact⟨b,by rw[A6 (AK a)]⟩
 refine v4 (h pins s _ H _ I' z) fun f s' q=>?_;have back:∀{σ':St} {H':Hp},qt { X with N:=X.N.set i x } pins σ' H' s'->qt X pins (σ'.set i none) H' s':=fun {σ' H'} J=>
  qt.ren (X:={ X with N:=X.N.set i x }) X.N J (by show X.N.length=(X.N.set i x).length;rw[BG]) (by rw[BG]) fun j v e=>by obtain⟨a,b⟩:=gC e;exact⟨b,by show(X.N.set i x)[j]?=_;rw[A6 (AK a)]⟩
 cases f with
 |next=>obtain⟨σ',H',J,q⟩:=q;exact⟨_,H',back J,q⟩
 |brk=>obtain⟨σ',H',J,q⟩:=q;exact⟨_,H',back J,q⟩
 |cont=>obtain⟨σ',H',J,q⟩:=q;exact⟨_,H',back J,q⟩
 |ret u=>obtain⟨v,σ',H',J,r,q⟩:=q;exact⟨v,_,H',back J,r,q⟩
def alt(i j k:Nat)(ta:TA):TS:=fun D σ H=>ta σ H fun vs H1=>∃u v w,vs=[u,v,w]/\D.nx (((σ.set i (some u)).set j (some v)).set k (some w)) H1
theorem adm{k:Nat}{y z:Str}{a b:Expr}{ta:TA}{px pz pt:Pos}{kt k2 pt2}(hc:X.calm=true)(hN:X.N.Nodup)(hi:X.N[i]?=some x)(hj:X.N[j]?=some y)(hk:X.N[k]?=some z)(hij:i≠j)(hik:i≠k)(hjk:j≠k)
 (hx:X.env.scope.names.lookup x=some .local) (hy:X.env.scope.names.lookup y=some .local) (hz:X.env.scope.names.lookup z=some .local) (ha:PA X [a,b,c] ta)
 (hw:swappedStores [.Tuple [.Name x px,.Name y py,.Name z pz] kt pt] (.Tuple [a,b,c] k2 pt2) X.env=pure (some [x,y,z]))
 (hs:swapsWithSole [.Tuple [.Name x px,.Name y py,.Name z pz] kt pt] (.Tuple [a,b,c] k2 pt2) pos.line X.env=pure false:=by rfl):
 PS X (.Assign [.Tuple [.Name x px,.Name y py,.Name z pz] kt pt] (.Tuple [a,b,c] k2 pt2) pos) (alt i j k ta):=by
 intro pins s σ H D I h;rw[exec_Assign_arm];refine Aa (wpAny_standAt ?_);rw[hs];refine Aa (Ai ?_);rw[As (by decide)];refine Aa (Tuple_ (v4 (ha _ pins s σ H _ I h) fun us s1 ⟨vs,H1,I1,r1,q1⟩=>?_));obtain⟨v,w,v3,e1,q1⟩:=q1;subst e1;obtain⟨u1,u2,u3,rfl,rv,rw',r3⟩:∃u1 u2 u3,us=[u1,u2,u3]/\zq v u1/\zq w u2/\zq v3 u3:=by
  cases r1 with
  |cons p q=>
   cases q with
   |cons p' q'=>
    cases q' with
    |cons p'' q''=>
     cases q'';exact⟨_,_,_,rfl,p,p',p''⟩
 refine Bh ?_ (by show 3≤sizeLine;decide);have I2:qt X pins σ H1 { s1 with heap:=s1.heap.push { cls:=.type "tuple",data:=.seq [u1,u2,u3].toArray } }:=I1.kept (t':=s1.toks) fun b o e=>Heap.get?_push_of_some _ e;rw[hw];refine Aa (Ai ?_);show wpAny (model X.prog X.w) X.A (do rule "assign.swapped-stores";let items <-unpackItems (.ref s1.heap.objs.size) 3 none;assignInOrder [fun v=>bindName X.env z v,fun v=>bindName X.env y v,fun v=>bindName X.env x v] items.reverse;pure Flow.next) _ _ _;refine Aa (Bl (Aa (unpackItems_tuple (items:=#[u1,u2,u3]) (I.ok.hd hc) (IsTup.new s1.heap _) fun h' hx'=>?_)));have I3:=I2.kept (h':=h') (t':=s1.toks) fun b o e=>hx' b o (A2 (Heap.lt_size e)) e;show wpAny _ _ (assignInOrder [fun v=>bindName X.env z v,fun v=>bindName X.env y v,fun v=>bindName X.env x v] [u3,u2,u1] >>= fun _=>pure Flow.next) _ _ _;refine Aa (assignInOrder_cons (wpAny_bindName (aO I3 hN hk (.inl hz) r3 (fun s2 I4=>?_) (.inr hz))));refine assignInOrder_cons (wpAny_bindName (aO I4 hN hj (.inl hy) rw' (fun s3 I5=>?_) (.inr hy)));refine assignInOrder_cons (wpAny_bindName (aO I5 hN hi (.inl hx) rv (fun s4 I6=>assignInOrder_nil (Ai ?_)) (.inr hx)));rw[DY _ _ (AK hij),DY _ _ (AK hik),DY _ _ (AK hjk)] at I6;exact⟨_,H1,I6,q1⟩
end
end L2
namespace L3
open PySem L2
def bR:jj->Nat->jj
 |[],_=>[]
 |_::r,0=>none::r
 |o::r,i+1=>o::bR r i
theorem rZ:∀(τ:jj) (i:Nat),bR τ i=τ.set i none
 |[],_=>rfl
 |_::_,0=>rfl
 |o::r,i+1=>by unfold bR;rw[rZ r i];rfl
def wP(i:Nat)(t:w6)(D:xa)(τ:jj)(L:qm):Prop:=t { nx:=fun τ' L'=>D.nx (bR τ' i) L',rt:=D.rt,bk:=fun τ' L'=>D.bk (bR τ' i) L',ct:=fun τ' L'=>D.ct (bR τ' i) L' } (bR τ i) L
theorem v5.forget(h:v5 G H σ τ)(i:Nat):v5 G H (σ.set i none) (bR τ i):=by
 rw[rZ];refine⟨by rw[BG,BG];exact h.len,fun j y e=>?_⟩;by_cases c:i=j
 ·subst c;rw[Eg] at e;cases e2:τ[i]? with|none=>rw[e2] at e;cases e|some o=>rw[e2] at e;cases e
 ·rw[A6 c] at e ⊢;exact h.get j y e
theorem oy(x:Str){t:w6}(h:QS { X with N:=X.N.set i x } st t):QS X st (wP i t):=
 EH (aff h) fun D σ H ⟨τ,L,D3,rs,rl,z,k⟩=>⟨bR τ i,L,_,rs.forget i,rl,z,
  ⟨fun σ' H' τ' L' t' rs' rl' q=>k.nx _ H' _ L' t' (rs'.forget i) rl' q,k.rt,fun σ' H' τ' L' t' rs' rl' q=>k.bk _ H' _ L' t' (rs'.forget i) rl' q,fun σ' H' τ' L' t' rs' rl' q=>k.ct _ H' _ L' t' (rs'.forget i) rl' q⟩⟩
def ag9(i j k:Nat)(ta:dQ)(D:xa)(τ:jj)(L:qm):Prop:=ta τ L fun ys L'=>match ys with
 |[u,v,w]=>D.nx (ae (ae (ae τ i u) j v) k w) L'
 |_=>False
theorem adc{k:Nat}{y z:Str}{a b:Expr}{tr:dQ}{px pz pt:Pos}{k2:Nat}{pt2:Pos}(hc:X.calm=true)(hN:X.N.Nodup)(hi:X.N[i]?=some x)(hj:X.N[j]?=some y)(hk:X.N[k]?=some z)(hij:i≠j)(hik:i≠k)(hjk:j≠k)
 (lx:X.env.scope.names.lookup x=some .local) (ly:X.env.scope.names.lookup y=some .local) (lz:X.env.scope.names.lookup z=some .local) (h:QA X [a,b,c] tr)
 (h1:swappedStores [.Tuple [.Name x px,.Name y py,.Name z pz] kt pt] (.Tuple [a,b,c] k2 pt2) X.env=pure (some [x,y,z])) (h2:swapsWithSole [.Tuple [.Name x px,.Name y py,.Name z pz] kt pt] (.Tuple [a,b,c] k2 pt2) pos.line X.env=pure false:=by rfl):
 QS X (.Assign [.Tuple [.Name x px,.Name y py,.Name z pz] kt pt] (.Tuple [a,b,c] k2 pt2) pos) (ag9 i j k tr):=EH (adm hc hN hi hj hk hij hik hjk lx ly lz h h1 h2) fun D σ H ⟨τ,L,D3,rs,rl,z,kk⟩=>
 ⟨τ,L,_,rs,rl,z,fun vs H1 ys L1 t1 rl1 rv1 z1=>by
  split at z1
  ·rename_i u v w;obtain⟨x1,xs1,rfl,r1,x2,xs2,rfl,r2,x3,xs3,rfl,r3,e3⟩:=rv1;cases (show xs3=[] from e3);exact⟨x1,x2,x3,rfl,kk.nx _ H1 _ L1 t1 (show v5 _ _ _ (ae (ae (ae τ i u) j v) k w) by rw[km,km,km];exact(((rs.ts t1).set r1).set r2).set r3) rl1 z1⟩
  ·exact z1.elim⟩
theorem oR:bootBuiltins "min" = some (.builtin "min"):=by decide +kernel
def akv(x:Y)(lo hi:Option Int)(L:qm)(Q:YK):Prop:=match x with
 |.tup ys=>¬(HT.sIx ys.length 0 lo=0/\HT.sIx ys.length ys.length hi=ys.length)/\Q (.tup (im ys lo hi)) L
 |_=>False
theorem akk(K:Af)(P:Program)(w:World)(hK:X.K=K:=by rfl)(hP:X.prog=P:=by rfl)(hw:X.w=w:=by rfl):pi X (aex ⟨K,P,w⟩ akv):=by
 subst hK hP hw;refine pi.imp ajs fun x lo hi H Q ⟨y,L,Q3,rv,rl,z,k⟩=>?_;cases y with
 |tup ys=>
  obtain⟨a,xs,e,sq,r⟩:=rv;obtain⟨z1,z2⟩:=z;exact⟨a,xs,e,sq,by rw[<-r.length];exact z1,fun p hp=>k _ _ (.tup (im ys lo hi)) L (EE hp) (rl.skip hp) ⟨p,_,rfl,.inl (.inl zw),(o5 r lo hi).ts (EE hp)⟩ z2⟩
 |_=>exact z.elim
theorem uJ{a:Addr}{keep:qm->Prop}(h:∀H L,ja H₀ H->ji G H L->keep L->∃xs,dC G.K H a xs/\xm G H ys xs):iN G H₀ (Itt G.K a) ys keep where
 go:=fun i H L t rl kp hi=>by
  obtain⟨xs,sq,r⟩:=h H L t rl kp;have:i<xs.length:=by rw[<-r.length];exact hi
  exact⟨xs,xs[i],sq,Al this⟩
 yld:=fun i H L x H' y t rl kp hy ⟨e,f⟩=>by subst e;obtain⟨xs,sq,r⟩:=h _ L t rl kp;obtain⟨x',e',rv⟩:=r.get hy;have:=f xs sq;rw[e'] at this;cases this;exact⟨ED _,rl,rv⟩
 stop:=fun H L t rl kp=>by obtain⟨xs,sq,r⟩:=h H L t rl kp;exact⟨xs,sq,by rw[r.length];exact Am _⟩
theorem agy(h:QE X e te):QI X tg e (ag0 te):=PI.imp (ak4 h) fun σ H R ⟨τ,L,R3,rs,rl,z,k⟩=>by
 refine⟨τ,L,_,rs,rl,z,fun v H1 y L1 t1 rl1 rv1 z1=>?_⟩;cases y with
 |tup ys=>
  obtain⟨a,xs,e,sq,r⟩:=rv1;exact⟨a,e,⟨xs,sq⟩,k _ H1 ys (fun _=>True) L1 t1 rl1 (uJ fun H L t _ _=>⟨xs,dC.ts sq t,r.ts t⟩) z1⟩
 |_=>exact z1.elim
theorem dp3{k:Nat}(hr:w4 k A):A.depth+3<recursionLimit:=by have:=hr.dp;omega
abbrev lamQ:Str:="_law_order.<locals>.<lambda>"
open PySem L2 Words
def oq(Pt:Addr)(p0:xw):w6:=(qw (zp (vj qy) (qh 2))
 (qw (fO (fU (qa 0)) (kz 2 (zh (qh 3) (zh (qh 4) k7))) (qw (zp (zg vf (zo p0 (qe (qa 1) (wn (qa 3) (j5 39373)))) (j5 40)) (qh 5))
 (cL (x6 (dY (yB (fB true (qa 4))) (dG (cN 4) (j5 3))) (zp (zg xj (zg xj (qa 5) (j5 1)) (cx qO (qe (zg bO (qa 2) (x8 4 1)) (qe (zg bO (qa 2) (x8 4 2)) qy)))) (qh 5)) jr)
 (jd (aG zk (qa 2) (aR (qa 5)))))))
 (x0 (zT Pt lamQ 2 (rL (cN 0))))))
def yn(ks:List (Option Kn)):Prop:=∀(p:Nat) (e:Bool) (i j:Nat),ks[p]?=some (some (.nd e i j))->i<p/\j<p
def yF(ks:List (Option Kn))(rks:List Int):Prop:=∀(p:Nat) (e:Bool) (i j:Nat),p<rks.length->ks[p]?=some (some (.nd e i j))->rks.getD i 0<rks.getD p 0/\rks.getD j 0<rks.getD p 0
theorem lE{r:Int}(h:i<rks.length):(rks++[r]).getD i 0=rks.getD i 0:=by rw[Bm,Bm,Az h]
theorem abd{r:Int}:(rks++[r]).getD rks.length 0=r:=by rw[Bm,Ak (Am _),CF];rfl
theorem yF.snoc{ks:List (Option Kn)}{r:Int}{k:Option Kn}(ok:yn ks)(h:yF ks rks)(hk:ks[rks.length]?=some k)(hr:∀e i j,k=some (.nd e i j)->rks.getD i 0<r/\rks.getD j 0<r):yF ks (rks++[r]):=by
 intro p e i j hp ep;obtain⟨l1,l2⟩:=ok p e i j ep;rw[Ac] at hp;have hp:p<rks.length+1:=hp;rw[lE (show i<rks.length by lia),lE (show j<rks.length by lia)];by_cases c:p<rks.length
 ·rw[lE c];exact h p e i j c ep
 ·have:p=rks.length:=by lia
  subst this;rw[abd];exact hr e i j (Bc (hk.symm.trans ep))
def cU(ks:List (Option Kn))(qs:List Nat):Prop:=qs.Pairwise fun x y=>∀e i j,ks[x]?=some (some (.nd e i j))->y≠i/\y≠j
theorem aby{ks:List (Option Kn)}(ok:yn ks)(h:yF ks rks)(hl:rks.length=ks.length)(hw:qs.Pairwise fun i j=>rks.getD i 0*1000000+(i:Int)≤rks.getD j 0*1000000+(j:Int)):cU ks qs:=by refine hw.imp fun {x y} z e i j ex=>?_;obtain⟨l1,l2⟩:=ok x e i j ex;obtain⟨r1,r2⟩:=h x e i j (by rw[hl];exact xg ex) ex;exact⟨fun c=>by subst c;lia,fun c=>by subst c;lia⟩
def lZ(Pt:Addr):xw:=fun ys L Q=>∃a,∃ks:List (Option Kn),∃s:Int,ys=[.ref a,.int s]/\L a=some (.lst (dI ks))/\yn ks/\ks.length≤1000/\L Pt=some (.tb lamQ)/\
 ∀D qs,L D=none->qs.Perm (List.range ks.length)->cU ks qs->Q (.ref D) (qf L D (.lst (nY qs)))
theorem qL(h:i<rks.length):(rks.map Y.int)[i]?=some (.int (rks.getD i 0)):=by rw[Ar,Bm,Al h];rfl
theorem zR :∀ys L Q,lZ Pt ys L Q->k6 (oq Pt cq) 6 ys L Q:=by
 rintro ys L Q ⟨a,ks,s,rfl,ha,ok,hz,hP,q⟩;have big:=bg_;intro kk hkk;have s0:qj L (qf L kk (.lst [])):=By hkk;have nak:a≠kk:=vt ha hkk;refine xh (s0 _ _ ha) fun keep kp=>wo ⟨fun i τ L'=>∃rks:List Int,∃c3 c4 c5,τ=[some (Y.ref a),some (.int s),some (Y.ref kk),c3,c4,c5]/\L'=qf L kk (.lst (rks.map Y.int))/\rks.length=i/\yF ks rks,⟨[],_,_,_,rfl,rfl,rfl,fun p _ _ _ hp=>by cases hp⟩,?_,?_,?_⟩
 ·rintro i τ L' ⟨rks,c3,c4,c5,rfl,rfl,_⟩;exact kp _ (by rw[qb nak,qb nak])
 ·rintro i y τ L' hy ⟨rks,c3,c4,c5,rfl,rfl,hl,hrk⟩;obtain⟨z,ez,rfl⟩:=dm hy;rw[Ar] at ez;obtain⟨k,ek,rfl⟩:=Ay.mp ez;have hi:=xg ek;refine⟨s,i,39373,rfl,by exact AX _,by omega,by decide,by decide,fun v h0 h1=>?_⟩;have m0:(0:Int)≤v % 40:=C7 _ (by decide);have lens:(rks.map Y.int).length=i:=by rw[Ae];exact hl
  refine⟨show(0:Int)<40 by decide,fun τ' L'=>∃r:Int,τ'=[some (Y.ref a),some (.int s),some (Y.ref kk),some (.int (i:Nat)),some (e9 k),some (.int r)]/\L'=qf L kk (.lst (rks.map Y.int))/\∀e i j,k=some (.nd e i j)->rks.getD i 0<r/\rks.getD j 0<r,?_,?_⟩
  ·cases k with
   |none=>exact⟨v % 40,rfl,rfl,fun e i j z=>by cases z⟩
   |some k=>
    cases k with
    |lf t n=>exact⟨v % 40,rfl,rfl,fun e i j z=>by cases z⟩
    |nd e p1 p2=>
     obtain⟨l1,l2⟩:=ok _ _ _ _ ek;have g1:=w5 (qL (rks:=rks) (i:=p1) (by lia));have g2:=w5 (qL (rks:=rks) (i:=p2) (by lia));refine qd q9 (qx g1 ?_);refine qd q9 (qx g2 ?_);refine⟨v % 40+1+max (rks.getD p1 0) (rks.getD p2 0),rfl,rfl,fun e' i' j' z=>?_⟩;cases z;have a1:rks.getD p1 0≤max (rks.getD p1 0) (rks.getD p2 0):=Int.le_max_left ..;have a2:rks.getD p2 0≤max (rks.getD p1 0) (rks.getD p2 0):=Int.le_max_right ..;constructor<;>lia
  ·rintro τ' L' ⟨r,rfl,rfl,hr⟩;refine qd q9 (ql q9 ⟨by rw[lens];exact big _ (by lia),?_⟩);refine⟨_,EC _,rks++[r],_,_,_,rfl,?_,by rw[Ac,hl];rfl,yF.snoc ok hrk (by rw[hl];exact ek) hr⟩;rw[wm,AC];rfl
 ·rintro τ L' ⟨rks,c3,c4,c5,rfl,rfl,hl,hrk⟩;rw[bZ,Ae] at hl;have s1:qj L (qf L kk (.lst (rks.map Y.int))):=By hkk;refine qd (s1 _ _ ha) ?_;have lo:(dI ks).length=ks.length:=Ae ..;refine⟨⟨AX _,by rw[lo];lia⟩,fun p hp=>ql q9 ?_⟩;have npk:kk≠p:=vt q9 hp;have npP:Pt≠p:=vt (s1 _ _ hP) hp;have nkP:Pt≠kk:=vt hP hkk;refine⟨ks.length,rks,kk,by rw[Cm,lo],rfl,(qb npk).trans q9,hl,hz,(qb npP).trans ((qb nkP).trans hP),fun D qs hD pm pw=>?_⟩;have hD1:=xr hD;have hD2:=xr hD1;refine⟨qf L D (.lst (nY qs)),fun b o e=>?_,q D qs hD2 pm (aby ok hrk hl pw)⟩;by_cases c:b=D
  ·subst c;rw[q9] at e ⊢;exact e
  ·rw[qb c] at e ⊢;rw[qb (fun z=>by subst z;rw[xr hp] at e;cases e),qb (fun z=>by subst z;rw[hkk] at e;cases e)];exact e
def aas:w6:=(qw (zp (eU "abcdefghijklmnopqrstuvwxyz") (qh 2))
 (qw (zp (zg xj (j5 1) (zg vf (qa 0) (j5 8))) (qh 3))
 (qw (zp (zg vf (zg aU (qa 0) (j5 8)) (qa 3)) (qh 4))
 (qw (zp (yBS wH (eU "") (qe (oB 1 (fb (aR (j5 8))) (qh 7) u7 (zg bO (qa 2) (zg vf (zg xj (zg aU (qa 0) (j5 64)) (zg acf (j5 3) (qa 7))) (j5 26)))) qy)) (qh 5))
 (qw (x6 (dG (zg vf (zg aU (qa 0) (j5 64)) (j5 3)) (j5 1)) (x0 (ySl sv (qa 5) bG (fD (zg xj (j5 1) (zg vf (zg xj (qa 1) (qa 0)) (j5 3)))))) jr)
 (qw (zp (zg bO (qa 2) (zg vf (zg xj (zg xj (zg aU (qa 0) (j5 64)) (zg acf (j5 3) (qa 4))) (qa 1)) (j5 26))) (qh 6))
 (x0 (zg xj (zg xj (ySl sv (qa 5) bG (fD (qa 4))) (qa 6)) (ySl sv (qa 5) (fD (zg xj (qa 4) (j5 1))) (fD (qa 3)))))))))))
def df(i:Int):Nat:=97+(i % 26).toNat
theorem vZ(i:Int):gc ("abcdefghijklmnopqrstuvwxyz" : Str).cps.toList (i % 26)=some (df i):=by
 obtain⟨n,hn⟩:∃n:Nat,i % 26=n:=⟨(i % 26).toNat,by lia⟩;have h:n<26:=by lia
 unfold df;rw[hn];have key:∀n,n<26->("abcdefghijklmnopqrstuvwxyz" : Str).cps.toList[n]?=some (97+n):=by decide +kernel
 exact w5 (key n h)
theorem vB(i:Int):97≤df i/\df i≤122:=by unfold df;lia
def dE(s:Int):List Nat:=(List.range 8).map fun k:Nat=>df (s / 64+3*(k:Int))
theorem l5(s:Int):(dE s).length=8:=by unfold dE;simp
theorem kE(s:Int):∀c∈dE s,97≤c/\c≤122:=fun c hc=>by obtain⟨k,_,rfl⟩:=BI.mp hc;exact vB _
def mY(s:Int):Nat:=(s / 8 % (1+s % 8)).toNat
def szN(s:Int):Nat:=(1+s % 8).toNat
theorem agk(s:Int):mY s<szN s/\szN s≤8/\s / 8 % (1+s % 8)=(mY s:Int)/\1+s % 8=(szN s:Int):=by
 have h0:0<1+s % 8:=by lia
 have h1:0≤s / 8 % (1+s % 8):=C7 _ (by lia);have h2:s / 8 % (1+s % 8)<1+s % 8:=De _ h0;unfold mY szN;lia
def aN(s w:Int):List Nat:=
 if s / 64 % 3=1 then(dE s).take (1+(w+s) % 3).toNat
 else((dE s).take (mY s)++[df (s / 64+3*(mY s:Int)+w)])++((dE s).drop (mY s+1)).take (szN s - (mY s+1))
theorem rW(s w:Int):eI (mkS (aN s w)):=by
 have hl:(mkS (aN s w)).length=(aN s w).length:=by rw[<-Txs.len_list];show(aN s w).toArray.toList.length=_;simp
 have hc:(mkS (aN s w)).cps.toList=aN s w:=by show(aN s w).toArray.toList=_;simp
 have hb:=l5 s;obtain⟨p1,p2,_,_⟩:=agk s;refine⟨?_,?_,?_⟩
 ·rw[hl];unfold aN;split
  ·rw[AL];omega
  ·rw[Ac,Ac];simp;simp +arith only
 ·rw[hl];unfold aN;split
  ·rw[AL];omega
  ·rw[Ac,Ac,AL,AL,A9];simp;lia
 ·rw[hc];intro c h;unfold aN at h;split at h
  ·exact kE s c (Bz h)
  ·rcases Aj.mp h with h | h
   ·rcases Aj.mp h with h | h
    ·exact kE s c (Bz h)
    ·rw[AB.mp h];exact vB _
   ·exact kE s c (CS (Bz h))
def kG:xw:=fun ys L Q=>∃s w:Int,ys=[.int s,.int w]/\Q (.str (mkS (aN s w))) L
theorem ym(h:m≤n)(h2:n≤x.length):(Txt.slice x (some (m:Int)) (some (n:Int))).cps.toList=(x.cps.toList.drop m).take (n - m):=by have e:=mU x (some (m:Int)) (some (n:Int));rw[HT.sIx_nat,HT.sIx_nat,BW h2,BW (AU h h2)] at e;exact e
theorem mS(h:n≤x.length):(Txt.slice x none (some (n:Int))).cps.toList=x.cps.toList.take n:=by have e:=mU x none (some (n:Int));rw[HT.sIx_nat,HT.sIx_none,DK,Nat.sub_zero,BW h] at e;exact e
theorem aap:∀ys L Q,kG ys L Q->k6 aas 7 ys L Q:=by
 rintro ys L Q ⟨s,w,rfl,q⟩;have hsz:0<1+s % 8:=by lia
 refine⟨(by decide:(0:Int)<8),⟨by decide,by decide⟩,hsz,⟨by decide,by decide⟩,?_⟩;show vM (aY 0 8) _ _ _ _ _ _ _ _;refine uA (m:=8) (fun i zs=>zs=((List.range i).map fun k:Nat=>Y.str ⟨#[df (s / 64+3*(k:Int))]⟩)) (by decide) rfl ?_ ?_
 ·rintro i _ hi rfl;have hat:=vZ (s / 64+3*(0+(i:Int)));refine⟨⟨by decide,by decide⟩,.inl ⟨by decide,by decide⟩,(by decide:(0:Int)<26),by decide +kernel,?_⟩;walk_at "w";rw[hat];refine⟨_,EC _,rfl,?_⟩;rw[Es,AC,show(0:Int)+(i:Int)=(i:Int) by simp +arith only];rfl
 ·rintro _ rfl p hp;have e0:((List.range 8).map fun k:Nat=>Y.str ⟨#[df (s / 64+3*(k:Int))]⟩)=((dE s).map fun c=>(⟨#[c]⟩:Str)).map Y.str:=by unfold dE;rw[BR,BR];rfl
  rw[e0];refine ql q9 ⟨(dE s).map fun c=>(⟨#[c]⟩:Str),rfl,?_,?_⟩
  ·have e1:∀cs:List Nat,((cs.map fun c=>(⟨#[c]⟩:Str)).map (·.length)).sum=cs.length:=fun cs=>by induction cs with|nil=>rfl|cons c r ih=>rw[AD,AD,DA,ih,AF];show 1+r.length=_;exact Nat.add_comm _ _
   rw[e1,l5];show 8+_*0≤_;rw[Nat.mul_zero];decide
  ·have hb:=zN (dE s);have hbl:(Txt.join "" ((dE s).map fun c=>(⟨#[c]⟩:Str))).length=8:=by rw[<-Txs.len_list,hb,l5]
   generalize Txt.join "" ((dE s).map fun c=>(⟨#[c]⟩:Str))=base at hbl hb;obtain⟨p1,p2,hn,hk⟩:=agk s;refine⟨⟨by decide,by decide⟩,(by decide:(0:Int)<3),?_⟩;refine zu (fun c=>?_) fun c=>?_
   ·have e:1+(w+s) % 3=((1+(w+s) % 3).toNat:Int):=by lia
    refine⟨(by decide:(0:Int)<3),cJ (by lia),si (By hp) ?_⟩;have es:=mS (x:=base) (n:=(1+(w+s) % 3).toNat) (by lia);have eq:Txt.slice base none (some (1+(w+s) % 3))=mkS (aN s w):=by rw[e];refine(uq _).symm.trans ?_;rw[es,hb];unfold aN;rw[AA c]
    rw[<-eq] at q;exact q
   ·have hat:=vZ (s / 64+3*(s / 8 % (1+s % 8))+w);refine⟨⟨by decide,by decide⟩,.inl ⟨by decide,by decide⟩,(by decide:(0:Int)<26),by decide +kernel,?_⟩;walk_at "w";rw[hat];have s1:=mS (x:=base) (n:=mY s) (by lia);have s2:=ym (x:=base) (m:=mY s+1) (n:=szN s) (by assumption) (by lia);have l1:(Txt.slice base none (some (mY s:Int))).length=mY s:=by rw[<-Txs.len_list,s1,AL,Txs.len_list];lia
    have l2:(Txt.slice base (some ((mY s+1:Nat):Int)) (some (szN s:Int))).length≤8:=by rw[<-Txs.len_list,s2,AL];lia
    refine⟨cJ (by lia),?_⟩;refine⟨cJ (by rw[hn,l1];show mY s+1≤1000;lia),?_⟩;refine⟨cJ (by lia),?_⟩;have e1:((mY s:Int)+1)=((mY s+1:Nat):Int):=by rfl
    have l3:(Txt.slice base none (some (mY s:Int))++(⟨#[df (s / 64+3*(s / 8 % (1+s % 8))+w)]⟩:Str)).length=mY s+1:=by rw[PySem.Str.length_append,l1];rfl
    refine⟨cJ ?_,si (By hp) ?_⟩
    ·rw[hn] at l3 ⊢;rw[l3,e1,hk];lia
    ·have eq:(Txt.slice base none (some (mY s:Int))++(⟨#[df (s / 64+3*(mY s:Int)+w)]⟩:Str))++Txt.slice base (some ((mY s+1:Nat):Int)) (some (szN s:Int))=mkS (aN s w):=by
      refine(uq _).symm.trans ?_;have ca:∀a b:Str,(a++b).cps.toList=a.cps.toList++b.cps.toList:=fun a b=>by show(a.cps++b.cps).toList=_;simp
      rw[ca,ca,s1,s2,hb];unfold aN;rw[As c]
     rw[hn,e1,hk,eq];exact q
theorem adf(t t':Bool)(n n':Str):Da.eq (oO (.leaf t n)) (oO (.leaf t' n'))=(decide (t=t')&&decide (n=n')):=by
 by_cases h:n=n'
 ·subst h;cases t<;>cases t'<;>simp[oO,Da.eq,Da.eqs,iu,kL]<;>decide +kernel
 ·cases t<;>cases t'<;>simp[oO,Da.eq,Da.eqs,iu,kL,h]<;>decide +kernel
theorem hX{α β:Type}(f:α->β):∀(l:List α) (n:Nat),(l.map f).eraseIdx n=(l.eraseIdx n).map f
 |[],n=>by simp
 |_::_,0=>rfl
 |x::r,n+1=>by rw[AD,Cw,Cw,AD,hX f r n]
theorem aI(a:jo)(b:Y)(r:List (jo×Y))(k:jo):aF ((a,b)::r) k=if a=k then some b else aF r k:=by
 unfold aF;rw[BF];by_cases h:a=k
 ·rw[AA h,show decide ((a,b).1=k)=true from AE h];rfl
 ·rw[As h,show decide ((a,b).1=k)=false from Au h]
theorem rh(k k':jo)(y:Y):∀kvs:List (jo×Y),aF (kvs.map fun kv=>if kv.1=k then(kv.1,y) else kv) k'=if k'=k then(aF kvs k').map (fun _=>y) else aF kvs k'
 |[]=>by rw[Dm];split<;>rfl
 |(a,b)::r=>by
  have ih:=rh k k' y r;rw[AD,aI];by_cases h:a=k
  ·rw[AA (show(a,b).1=k from h),aI,ih];by_cases h2:k'=k
   ·rw[AA h2,AA h2,AA (h.trans h2.symm),AA (h.trans h2.symm)];rfl
   ·rw[As h2,As h2,As (fun z=>h2 (z.symm.trans h)),As (fun z=>h2 (z.symm.trans h))]
  ·rw[As (show ¬(a,b).1=k from h),aI,ih];by_cases h2:k'=k
   ·rw[AA h2,AA h2,As (fun z=>h (z.trans h2)),As (fun z=>h (z.trans h2))]
   ·rw[As h2,As h2]
theorem rP(k k':jo)(y:Y):∀kvs:List (jo×Y),aF (kvs++[(k,y)]) k'=(aF kvs k').or (if k=k' then some y else none)
 |[]=>by rw[Ep,aI];have:aF [] k'=none:=rfl;rw[this];split<;>rfl
 |(a,b)::r=>by rw[List.cons_append,aI,aI,rP k k' y r];split<;>rfl
theorem sQ(k:jo):∀kvs:List (jo×Y),(kvs.any fun kv=>decide (kv.1=k))=(aF kvs k).isSome
 |[]=>rfl
 |(a,b)::r=>by
  rw[Cq,aI,sQ k r];by_cases h:a=k
  ·rw[AA h,show decide ((a,b).1=k)=true from AE h];rfl
  ·rw[As h,show decide ((a,b).1=k)=false from Au h];rfl
theorem sE(kvs:List (jo×Y))(k k':jo)(y:Y):aF (mE kvs k y) k'=if k'=k then some y else aF kvs k':=by
 unfold mE;rw[sQ];cases e:aF kvs k with
 |some v=>
  rw[AA (show(some v).isSome=true from rfl),rh];by_cases h:k'=k
  ·rw[AA h,AA h,h,e];rfl
  ·rw[As h,As h]
 |none=>
  rw[As (by simp),rP];by_cases h:k'=k
  ·rw[AA h,h,e,AA rfl];rfl
  ·rw[As h,As (fun z=>h z.symm)];cases aF kvs k'<;>rfl
theorem sO(kvs:List (jo×Y))(k:jo)(y:Y):(mE kvs k y).length≤kvs.length+1:=by
 unfold mE;split
 ·rw[Ae];omega
 ·rw[Ac];simp
def mG(p0:xw)(p1:xw):w6:=(qw (zp ace (qh 5))
 (qw (zp (vj qy) (qh 6))
 (qw (fO (ky (zo p0 (wn (qa 0) (qa 3)))) (qh 7) (cL (x6 (dY (yB (qa 4)) (dG (zg vf (zo p1 (qe (qa 3) (wn (qa 7) (j5 40692)))) (j5 3)) (j5 0))) (jd (aG zk (qa 6) (aR (yC .non)))) jr)
 (qw (aah (qa 5) (qa 7) (cN 6))
 (qw (zp (zg bO (qa 0) (qa 7)) (qh 8))
 (cL (x6 (dY (yB (fB true (qa 8))) (dG (cN 8) (j5 3))) (zp (va (qe (x8 8 0) (qe (fJ (qa 5) (x8 8 1)) (qe (fJ (qa 5) (x8 8 2)) qy)))) (qh 8)) jr)
 (jd (aG zk (qa 6) (aR (qa 8)))))))))
 (qw (wP 7 (zp (cx cZ (qe (oB 2 (ky (qa 1)) (kz 2 (zh (qh 9) (zh (qh 10) k7))) u7 (va (qe (cx qT (qe (fJ (qa 5) (qa 9)) (qe (fJ (qa 5) (qa 10)) qy))) (qe (cx qO (qe (fJ (qa 5) (qa 9)) (qe (fJ (qa 5) (qa 10)) qy))) qy)))) qy)) (qh 1)))
 (qw (wP 7 (zp (cx cZ (qe (oB 2 (ky (qa 2)) (kz 2 (zh (qh 9) (zh (qh 10) k7))) u7 (va (qe (fJ (qa 5) (qa 9)) (qe (fJ (qa 5) (qa 10)) qy)))) qy)) (qh 2)))
 (x0 (va (qe (zg xj (qa 6) (oB 1 (fb (qe (cx yr (aR (qa 4))) qy)) (qh 9) u7 (yC .non))) (wn (qa 1) (qa 2))))))))))
def l7(f:Nat->Nat):Option Kn->Option Kn
 |some (.nd e i j)=>some (.nd e (f i) (f j))
 |k=>k
theorem uG{f g:Nat->Nat}:∀{k:Option Kn},(∀e i j,k=some (.nd e i j)->f i=g i/\f j=g j)->l7 f k=l7 g k
 |none,_=>rfl
 |some (.lf _ _),_=>rfl
 |some (.nd e i j),h=>by obtain⟨a,b⟩:=h e i j rfl;show some (Kn.nd e (f i) (f j))=some (Kn.nd e (g i) (g j));rw[a,b]
structure qA(ks:List (Option Kn))(ps:List Nat)(f:Nat->Nat)(wd:List (Option Kn)):Prop where
 at_:∀p∈ps,∀k,ks[p]?=some k->wd[f p]?=some (l7 f k)
 inj:∀p∈ps,∀q∈ps,f p=f q->p=q
 only:∀x k,wd[x]?=some (some k)->∃p∈ps,x=f p
 ok:yn wd
theorem qA.nil(ks:List (Option Kn))(f:Nat->Nat):qA ks [] f []:=⟨fun p hp=>(Bo hp).elim,fun p hp=>(Bo hp).elim,fun x k h=>(by simp at h),fun p e i j h=>(by simp at h)⟩
theorem yn.gap(h:yn wd):yn (wd++[none]):=by
 intro p e i j hp;by_cases c:p<wd.length
 ·rw[Az c] at hp;exact h p e i j hp
 ·rw[Ak (by exact uR)] at hp;cases hq:p - wd.length with|zero=>rw[hq] at hp;cases hp|succ m=>rw[hq] at hp;cases hp
theorem qA.gap{ks:List (Option Kn)}{ps:List Nat}{f:Nat->Nat}(h:qA ks ps f wd):qA ks ps f (wd++[none]):=by
 refine⟨fun p hp k hk=>iO (h.at_ p hp k hk),h.inj,fun x k hx=>?_,h.ok.gap⟩;by_cases c:x<wd.length
 ·rw[Az c] at hx;exact h.only x k hx
 ·rw[Ak (by lia)] at hx;cases hq:x - wd.length with|zero=>rw[hq] at hx;cases hx|succ m=>rw[hq] at hx;cases hx
theorem qA.lt{ks:List (Option Kn)}{ps:List Nat}{f:Nat->Nat}(h:qA ks ps f wd){p:Nat}(hp:p∈ps)(hk:p<ks.length):f p<wd.length:=xg (h.at_ p hp _ (Al hk))
theorem qA.step{ks:List (Option Kn)}{ps:List Nat}{f:Nat->Nat}(h:qA ks ps f wd)(hb:∀p∈ps,p<ks.length){p:Nat}{k:Option Kn}(hp:p∉ps)(hk:ks[p]?=some k)(hpart:∀x∈ps,∀e i j,ks[x]?=some (some (.nd e i j))->i∈ps/\j∈ps)(hparts:∀e i j,k=some (.nd e i j)->i∈ps/\j∈ps):
 qA ks (ps++[p]) (fun x=>if x=p then wd.length else f x) (wd++[l7 f k]):=by
 have old:∀x∈ps,(if x=p then wd.length else f x)=f x:=fun x hx=>As fun(c:x=p)=>hp (c▸hx);have ren:∀k',(∀e i j,k'=some (.nd e i j)->i∈ps/\j∈ps)->l7 (fun x=>if x=p then wd.length else f x) k'=l7 f k':=fun k' hk'=>uG fun e i j z=>by obtain⟨a,b⟩:=hk' e i j z;exact⟨old i a,old j b⟩
 refine⟨fun x hx k' hk'=>?_,fun x hx y hy e=>?_,fun x k' hx=>?_,fun x e i j hx=>?_⟩
 ·rcases Aj.mp hx with hx | hx
  ·show(wd++[l7 f k])[if x=p then wd.length else f x]?=_;rw[old x hx,ren k' fun e i j z=>hpart x hx e i j (by rw[hk',z])];exact iO (h.at_ x hx k' hk')
  ·have hx:=AB.mp hx;subst hx;rw[hk] at hk';cases hk';show(wd++[l7 f k])[if x=x then wd.length else f x]?=_;rw[AA rfl,ren k hparts];exact cX wd _ []
 ·have e:(if x=p then wd.length else f x)=if y=p then wd.length else f y:=e
  rcases Aj.mp hx with hx | hx<;>rcases Aj.mp hy with hy | hy
  ·rw[old x hx,old y hy] at e;exact h.inj x hx y hy e
  ·cases AB.mp hy;rw[old x hx,AA rfl] at e;have:=h.lt hx (hb x hx);lia
  ·cases AB.mp hx;rw[old y hy,AA rfl] at e;have:=h.lt hy (hb y hy);lia
  ·rw[AB.mp hx,AB.mp hy]
 ·by_cases c:x<wd.length
  ·rw[Az c] at hx;obtain⟨q,hq,e⟩:=h.only x k' hx;exact⟨q,An _ hq,by rw[e];exact(old q hq).symm⟩
  ·refine⟨p,Ah _ (AB.mpr rfl),?_⟩;have:=xg hx;rw[Ac] at this;have:x<wd.length+1:=this;show x=if p=p then wd.length else f p
   rw[AA rfl];lia
 ·by_cases c:x<wd.length
  ·rw[Az c] at hx;exact h.ok x e i j hx
  ·have:=xg hx;rw[Ac] at this;have:x<wd.length+1:=this;have:x=wd.length:=by lia
   subst this;rw[Ak (Am _),CF] at hx;have hx:l7 f k=some (.nd e i j):=Bc hx;cases k with
   |none=>cases hx
   |some k=>
    cases k with
    |lf=>cases hx
    |nd e' i' j'=>
     obtain⟨a,b⟩:=hparts e' i' j' rfl;cases hx;exact⟨h.lt a (hb _ a),h.lt b (hb _ b)⟩
theorem lB{ks:List (Option Kn)}(ok:yn ks)(pm:qs.Perm (List.range ks.length))(pf:cU ks qs){p:Nat}(hp:qs[n]?=some p){e:Bool}(h:ks[p]?=some (some (.nd e i j))):i∈qs.take n/\j∈qs.take n:=by
 obtain⟨l1,l2⟩:=ok p e i j h;have hl:=xg h;have hn:=xg hp;have ind:∀x,x<ks.length->x≠p->(∀y∈qs.drop (n+1),y≠x)->x∈qs.take n:=fun x hx ne hno=>by
  have hm:x∈qs:=pm.mem_iff.mpr (Bv.mpr hx);have e2:qs=qs.take n++p::qs.drop (n+1):=by rw[Al hn] at hp;rw[<-Bc hp,Ds,Bg]
  rw[e2] at hm;rcases Aj.mp hm with hm | hm
  ·exact hm
  ·rcases Ap.mp hm with hm | hm
   ·exact absurd hm ne
   ·exact absurd rfl (hno x hm)
 have pw:∀y∈qs.drop (n+1),y≠i/\y≠j:=fun y hy=>by
  have e2:qs=qs.take n++p::qs.drop (n+1):=by rw[Al hn] at hp;rw[<-Bc hp,Ds,Bg]
  unfold cU at pf;rw[e2] at pf;have:=(AO.mp pf).2.1;exact(List.pairwise_cons.mp this).1 y hy e i j h
 exact⟨ind i (by exact iw) (by exact amg) fun y hy=>(pw y hy).1,ind j (by exact iw) (by exact amg) fun y hy=>(pw y hy).2⟩
def ah5:w6:=(qw (zp (aG cT (qa 1) (qe (zg vf (qa 3) (cN 1)) qy)) (qh 4))
 (qw (zp (aG cT (qa 1) (qe (zg vf (qa 2) (cN 1)) qy)) (qh 5))
 (qw (zp (zg bO (x8 4 1) (zg vf (zg aU (qa 3) (j5 64)) (cx iI (aR (x8 4 1))))) (qh 6))
 (qw (zp (zg bO (x8 5 1) (zg vf (zg aU (qa 2) (j5 64)) (cx iI (aR (x8 5 1))))) (qh 7))
 (qw (jd (aG zk (qa 0) (qe (va (qe (eU "both") (wn (qa 6) (qa 7)))) qy)))
 (qw (zp (oB 1 (ky (zg xj (x8 4 1) (x8 5 1))) (qh 9) (yB (zg (pU true) (qa 9) (tU (qa 6) (qa 7)))) (qa 9)) (qh 8))
 (jd (aG zk (qa 1) (qe (vj (qe (va (qe (eU "both") (qe (zg gf (cN 0) (j5 1)) (wn (x8 4 0) (x8 5 0))))) (qe (zg xj (qa 8) (vj (qe (zg gf (cN 0) (j5 1)) qy))) qy))) qy)))))))))
def ady:w6:=(qw (x6 (yB (zg yLt (cx iI (aR (x8 1 1))) (j5 2))) abz jr)
 (qw (zp (aG cT (x8 1 1) (qe (zg vf (qa 3) (cx iI (aR (x8 1 1)))) qy)) (qh 4))
 (qw (zp (aG cT (x8 1 1) (qe (zg vf (qa 2) (cx iI (aR (x8 1 1)))) qy)) (qh 5))
 (qw (jd (aG zk (qa 0) (qe (va (qe (eU "either") (wn (qa 4) (qa 5)))) qy)))
 (qw (afy (qa 1) (j5 0) (va (qe (eU "either") (qe (zg gf (cN 0) (j5 1)) (aR (x8 1 0))))))
 (jd (aG zk (x8 1 1) (qe (zg gf (cN 0) (j5 1)) qy))))))))
theorem bX{ks:List Kn}:∀{w v:Wd} {p:Nat},dP ks p w->dP ks p v->w=v
 |.leaf t n,.leaf t' n',p,h,k=>by
  have h:(jb ks)[p]?=some (.tup [.str (kL t),.str n]):=h;have k:(jb ks)[p]?=some (.tup [.str (kL t'),.str n']):=k;rw[h] at k;injection k with k;injection k with k;injection k with k1 k2;injection k2 with k2 _
  injection k1 with k1;injection k2 with k2
  have:t=t':=by cases t<;>cases t'<;>first | rfl | (exfalso;revert k1;decide +kernel)
  rw[this,k2]
 |.leaf t n,.node e l r,p,h,k=>by obtain⟨i,j,k,_⟩:=k;have h:(jb ks)[p]?=some (.tup [.str (kL t),.str n]):=h;rw[h] at k;injection k with k;injection k with k;injection k with _ k;injection k with _ k;cases k
 |.node e l r,.leaf t n,p,h,k=>by obtain⟨i,j,h,_⟩:=h;have k:(jb ks)[p]?=some (.tup [.str (kL t),.str n]):=k;rw[h] at k;injection k with k;injection k with k;injection k with _ k;injection k with _ k;cases k
 |.node e l r,.node e' l' r',p,⟨i,j,h,hl,hr⟩,⟨i',j',k,kl,kr⟩=>by
  rw[h] at k;injection k with k;injection k with k;injection k with k1 k2;injection k2 with k2 k3;injection k3 with k3 _
  injection k1 with k1;injection k2 with k2;injection k3 with k3
  have e1:i=i':=by lia
  have e2:j=j':=by lia
  subst e1 e2;have:e=e':=by cases e<;>cases e'<;>first | rfl | (exfalso;revert k1;decide +kernel)
  rw[this,bX (ks:=ks) hl kl,bX (ks:=ks) hr kr]
theorem jY{ks:List Kn}(hk:ak ks):∀(m p:Nat),p<m->p<ks.length->∃w,dP ks p w/\w.depth≤p+1/\w.ok
 |0,p,h,_=>absurd h (by lia)
 |m+1,p,h,hp=>by
  obtain⟨k,ek⟩:∃k,ks[p]?=some k:=⟨_,Al hp⟩;have ho:=hk p k ek;cases k with
  |lf t n=>exact⟨.leaf t n,dP.leaf ek,by show 1≤p+1;exact Dk _,ho⟩
  |nd e i j=>
   have ho:i<p/\j<p:=ho;obtain⟨l,a1,a2,a3⟩:=jY hk m i (by lia) (by omega);obtain⟨r,b1,b2,b3⟩:=jY hk m j (by lia) (by lia);exact⟨.node e l r,ER ek a1 b1,by show max l.depth r.depth+1≤p+1;lia,a3,b3⟩
def TV(v:Str->Bool):Wd->Bool
 |.leaf t n=>if t=true then !v n else v n
 |.node e l r=>if e=true then TV v l||TV v r else TV v l&&TV v r
theorem jA(v:Str->Bool):∀w:Wd,TV v w.turn=!TV v w
 |.leaf t n=>by cases t<;>simp[Wd.turn,TV]
 |.node e l r=>by cases e<;>simp[Wd.turn,TV,jA v l,jA v r]
theorem SR.lt{E:List Nat}(h:SR ks R E):∀x∈zr R,x<ks.length:=by
 have lt:∀{p:Nat} {k:Kn},ks[p]?=some k->p<ks.length:=fun h=>(AW.mp h).1
 induction h with
 |link _ h2 h3 _ _=>intro x hx;simp[zr] at hx;rcases hx with rfl | rfl;exact lt h2;exact lt h3
 |ei h1 _ _ _ _ _ _ ih=>intro x hx;rcases Ap.mp hx with rfl | hx;exact lt h1;exact ih x hx
 |bo h1 _ _ _ _ _ _ ih1 ih2=>
  intro x hx;rcases Ap.mp hx with rfl | hx
  ·exact lt h1
  ·rcases Aj.mp hx with hx | hx
   ·exact ih1 x hx
   ·exact ih2 x hx
 |cu _ _ _ _ _ _ _ _ ih1 ih2=>
  intro x hx;rcases Aj.mp hx with hx | hx
  ·exact ih1 x hx
  ·exact ih2 x hx
theorem SR.tv(hk:ak ks)(v:Str->Bool){E:List Nat}(h:SR ks R E):∃x∈E,∃w,dP ks x w/\TV v w=true:=by
 have ex:∀{R':Ru} {E':List Nat},SR ks R' E'->∀x∈E',∃w,dP ks x w:=fun s x hx=>by obtain⟨w,hw,_⟩:=jY hk (x+1) x (by exact BL _) (s.lt x (s.sub x hx));exact⟨w,hw⟩
 induction h with
 |@link p q t n E _ h2 h3 h4 _=>
  cases ht:TV v (.leaf t n) with
  |true=>exact⟨p,(h4 p).mpr (.inl rfl),_,dP.leaf h2,ht⟩
  |false=>
   refine⟨q,(h4 q).mpr (.inr rfl),_,dP.leaf h3,?_⟩;have:=jA v (.leaf t n);rw[ht] at this;exact this
 |@ei r i j A EA E h1 hA hi hj _ h6 _ ih=>
  obtain⟨x,hx,w,hw,tv⟩:=ih;obtain⟨wi,wi'⟩:=ex hA i hi;obtain⟨wj,wj'⟩:=ex hA j hj;by_cases c1:x=i
  ·subst c1;rw[bX hw wi'] at tv;exact⟨r,(h6 r).mpr (.inr rfl),_,ER h1 wi' wj',by simp[TV,tv]⟩
  ·by_cases c2:x=j
   ·subst c2;rw[bX hw wj'] at tv;exact⟨r,(h6 r).mpr (.inr rfl),_,ER h1 wi' wj',by simp[TV,tv]⟩
   ·exact⟨x,(h6 x).mpr (.inl ⟨hx,c1,c2⟩),w,hw,tv⟩
 |@bo r i j A B EA EB E h1 hA hB hi hj h6 _ ih1 ih2=>
  obtain⟨x,hx,w,hw,tv⟩:=ih1;obtain⟨y,hy,u,hu,tu⟩:=ih2;by_cases c1:x=i
  ·by_cases c2:y=j
   ·subst c1 c2;exact⟨r,(h6 r).mpr (.inr (.inr rfl)),_,ER h1 hw hu,by simp[TV,tv,tu]⟩
   ·exact⟨y,(h6 y).mpr (.inr (.inl ⟨hy,c2⟩)),u,hu,tu⟩
  ·exact⟨x,(h6 x).mpr (.inl ⟨hx,c1⟩),w,hw,tv⟩
 |@cu p q A B EA EB E w0 hA hB hp hq hwp hwq h7 _ ih1 ih2=>
  obtain⟨x,hx,w,hw,tv⟩:=ih1;obtain⟨y,hy,u,hu,tu⟩:=ih2;by_cases c1:x=p
  ·by_cases c2:y=q
   ·subst c1 c2;rw[bX hw hwp] at tv;rw[bX hu hwq,jA,tv] at tu;cases tu
   ·exact⟨y,(h7 y).mpr (.inr ⟨hy,c2⟩),u,hu,tu⟩
  ·exact⟨x,(h7 x).mpr (.inl ⟨hx,c1⟩),w,hw,tv⟩
theorem SR.ends(hk:ak ks){E:List Nat}(h:SR ks R E):0<E.length:=by obtain⟨x,hx,_⟩:=h.tv hk fun _=>true;exact List.length_pos_of_mem hx
structure Tr where
 a:Addr
 b:Addr
 R:Ru
 E:List Nat
abbrev z0(E:List Nat):List Y:=E.map fun n:Nat=>Y.int (n:Int)
def Tr.ads(t:Tr):List Addr:=[t.a,t.b]
structure bN(L0 L:qm)(ka fa:Addr)(ks:List Kn)(fo:List Tr):Prop where
 hk:L ka=some (.lst (jb ks))
 ht:∀t∈fo,L t.a=some (.lst [za t.R,.ref t.b])/\L t.b=some (.lst (z0 t.E))
 sr:∀t∈fo,SR ks t.R t.E
 nd:(fo.flatMap fun t=>zr t.R).Nodup
 tm:∀x,x∈(fo.flatMap fun t=>zr t.R)↔x<ks.length
 ad:(ka::fa::fo.flatMap Tr.ads).Nodup
 ok:ak ks
 sub:qj L0 L
 fr:∀x∈ka::fa::fo.flatMap Tr.ads,L0 x=none
def zb(fo:List Tr):List Y:=fo.map fun t=>Y.ref t.a
structure lw(L0 L:qm)(ka fa:Addr)(ks:List Kn)(fo:List Tr):Prop where
 b:bN L0 L ka fa ks fo
 hf:L fa=some (.lst (zb fo))
theorem bN.perm{fo fo':List Tr}(h:bN L0 L ka fa ks fo)(p:fo.Perm fo'):bN L0 L ka fa ks fo':=by have p1:(fo.flatMap fun t=>zr t.R).Perm (fo'.flatMap fun t=>zr t.R):=p.flatMap_right _;have p2:(fo.flatMap Tr.ads).Perm (fo'.flatMap Tr.ads):=p.flatMap_right _;refine⟨h.hk,fun t ht=>h.ht t (p.mem_iff.mpr ht),fun t ht=>h.sr t (p.mem_iff.mpr ht),p1.nodup_iff.mp h.nd,fun x=>by rw[<-p1.mem_iff];exact h.tm x,((p2.cons _).cons _).nodup_iff.mp h.ad,h.ok,h.sub,fun x hx=>h.fr x (((p2.cons _).cons _).mem_iff.mpr hx)⟩
end L3
variable {fo rest:List L3.Tr}
namespace L3
open PySem L2 Words
theorem jv{α:Type}:∀{l:List α} {j:Nat} {x:α},l[j]?=some x->l.Perm (x::l.eraseIdx j)
 |[],_,_,h=>by simp at h
 |y::r,0,x,h=>by
  have:y=x:=by simpa using h
  subst this;exact .refl _
 |y::r,j+1,x,h=>by have ih:=jv (l:=r) (j:=j) (x:=x) (by simpa using h);rw[Cw];exact(ih.cons y).trans (.swap _ _ _)
theorem lG(fo:List Tr)(j:Nat):(zb fo).eraseIdx j=zb (fo.eraseIdx j):=hX _ fo j
theorem bN.step{ms:List Kn}{old:List Tr}{t':Tr}(h:bN L0 L ka fa ks (old++rest))(hk:L' ka=some (.lst (jb (ks++ms))))(ht:L' t'.a=some (.lst [za t'.R,.ref t'.b])/\L' t'.b=some (.lst (z0 t'.E)))
 (keep:∀t∈rest,L' t.a=L t.a/\L' t.b=L t.b) (sub:qj L0 L') (ad:(ka::fa::(rest++[t']).flatMap Tr.ads).Nodup) (fr:∀x∈t'.ads,L0 x=none) (ok:ak (ks++ms)) (sr:SR (ks++ms) t'.R t'.E)
 (tp:(zr t'.R).Perm (List.range' ks.length ms.length++old.flatMap fun t=>zr t.R)):bN L0 L' ka fa (ks++ms) (rest++[t']):=by
 have hnd:=h.nd;have htm:=h.tm;rw[AN] at hnd;have e1:((rest++[t']).flatMap fun t=>zr t.R)=(rest.flatMap fun t=>zr t.R)++zr t'.R:=by rw[AN];simp
 have mem:∀x,x∈zr t'.R↔(ks.length≤x/\x<ks.length+ms.length)\/x∈(old.flatMap fun t=>zr t.R):=fun x=>by rw[tp.mem_iff,Aj,Dt]
 refine⟨hk,fun t h'=>?_,fun t h'=>?_,?_,fun x=>?_,ad,ok,sub,fun x hx=>?_⟩
 ·rcases Aj.mp h' with h' | h'
  ·obtain⟨k1,k2⟩:=keep t h';rw[k1,k2];exact h.ht t (Ah _ h')
  ·rw[AB.mp h'];exact ht
 ·rcases Aj.mp h' with h' | h'
  ·exact(h.sr t (Ah _ h')).more _
  ·rw[AB.mp h'];exact sr
 ·rw[e1,AH];rw[AH] at hnd;refine⟨hnd.2.1,tp.nodup_iff.mpr ?_,fun x hx y hy e=>?_⟩
  ·rw[AH];refine⟨DX,hnd.1,fun x hx y hy e=>?_⟩;have hx:=Dt.mp hx;have hy:=(htm y).mp (by rw[AN];exact An _ hy);lia
  ·subst e;rcases (mem x).mp hy with hy | hy
   ·have:=(htm x).mp (by rw[AN];exact Ah _ hx);lia
   ·exact hnd.2.2 x hy x hx rfl
 ·rw[e1,Aj,mem,Ac];have h1:=htm x;rw[AN,Aj] at h1;constructor
  ·rintro(h2 | h2 | h2)
   ·have:=h1.mp (.inr h2);exact ahy
   ·lia
   ·have:=h1.mp (.inl h2);lia
  ·intro h2;by_cases c:x<ks.length
   ·rcases h1.mpr c with h3 | h3
    ·exact .inr (.inr h3)
    ·exact .inl h3
   ·exact .inr (.inl (by lia))
 ·rcases Ap.mp hx with rfl | hx
  ·exact h.fr _ (Aq ..)
  ·rcases Ap.mp hx with rfl | hx
   ·exact h.fr _ (Ag _ (Aq ..))
   ·rw[AN] at hx;rcases Aj.mp hx with hx | hx
    ·exact h.fr _ (Ag _ (Ag _ (by rw[AN];exact Ah _ hx)))
    ·exact fr x (by simpa using hx)
def oJ:xw:=fun ys L Q=>∃L0 ka fa ks fo,∃one two:Int,ys=[.ref ka,.ref fa,.int one,.int two]/\lw L0 L ka fa ks fo/\2≤fo.length/\fo.length≤200/\ks.length≤200/\
 ∀L' ks' fo',lw L0 L' ka fa ks' fo'->ks'.length=ks.length+1->fo'.length+1=fo.length->Q .non L'
theorem gu{l:List α}(h:0<l.length)(k:Int):∃(j:Nat) (x:α),k % (l.length:Int)=(j:Int)/\j<l.length/\l[j]?=some x:=by have h0:0≤k % (l.length:Int):=C7 _ (by lia);have h1:k % (l.length:Int)<(l.length:Int):=De _ (by omega);refine⟨(k % (l.length:Int)).toNat,l[(k % (l.length:Int)).toNat]'(by lia),by lia,by lia,Al (by lia)⟩
theorem bF:∀(n:Nat) (l:List Nat),l.Nodup->(∀x∈l,x<n)->l.length≤n
 |0,l,_,h=>by cases l with|nil=>exact Am _|cons x r=>exact absurd (h x (Aq ..)) (by lia)
 |n+1,l,nd,h=>by
  by_cases c:n∈l
  ·have p:=List.perm_cons_erase c;have ih:=bF n (l.erase n) (nd.erase n) fun x hx=>by have:=(List.Nodup.mem_erase_iff nd).mp hx;have:=h x this.2;lia
   rw[p.length_eq,AF];exact xK
  ·exact Dp (bF n l nd fun x hx=>by have:=h x hx;have:x≠n:=fun e=>c (e▸hx);lia)
theorem ao(h:bN L0 L ka fa ks fo){t:Tr}(ht:t∈fo):0<t.E.length/\t.E.length≤ks.length:=by have s:=h.sr t ht;exact⟨s.ends h.ok,bF _ _ s.nod fun x hx=>s.lt x (s.sub x hx)⟩
theorem acl(x l r:Nat):zS (gv (.int (x:Int))) (([.int (l:Int),.int (r:Int)]:List Y).map gv)=decide (x=l\/x=r):=by
 show(iu (.int (l:Int)) (.int (x:Int))||(iu (.int (r:Int)) (.int (x:Int))||false))=_;have e:∀a b:Nat,iu (.int (a:Int)) (.int (b:Int))=decide (b=a):=fun a b=>by
  show decide ((a:Int)=(b:Int))=decide (b=a);by_cases c:b=a
  ·subst c;simp
  ·rw[Au c];apply Au;lia
 rw[e,e];by_cases h1:x=l<;>by_cases h2:x=r<;>simp[h1,h2]
theorem oQ{E:List Nat}(h:0<E.length)(k:Int):∃x,x∈E/\gc (z0 E) (k % ((z0 E).length:Int))=some (.int ((x:Nat):Int)):=by obtain⟨j,x,ej,lj,ex⟩:=gu h k;refine⟨x,AR ex,?_⟩;rw[Ae,ej];exact w5 (by rw[Ar,ex];rfl)
def x5(E1 E2:List Nat)(l r:Nat):List Nat:=(E1++E2).filter fun x=>!decide (x=l\/x=r)
theorem aa0{pp:Addr}{E:List Nat}{l r k:Nat}{Q:YK}(hp:L pp=some (.lst (z0 E)))(hlen:E.length≤1000)
 (ht:∀y (Q':Bool->qm->Prop),pU true y (.tup [.int (l:Int),.int (r:Int)]) L (fun x L'=>match x with | .bl c=>Q' c L' | _=>False)->tc (ae (τ++List.replicate 1 none) k y) L Q')
 (hv:∀y,tj (ae (τ++List.replicate 1 none) k y) k=some y)
 (hq:∀p,L p=none->Q (.ref p) (qf L p (.lst (z0 (E.filter fun x=>!decide (x=l\/x=r)))))):
 rS L pp fun ys keep L2=>vM ys keep 1 (qh k) tc (qa k) τ L2 Q:=by
 refine xh hp fun keep kp=>du (fun j zs=>zs=z0 ((E.take j).filter fun x=>!decide (x=l\/x=r))) (by rw[Ae];exact mI hlen) (kp L rfl) rfl ?_ ?_
 ·rintro j y _ ey rfl;obtain⟨x,ex,rfl⟩:∃x:Nat,E[j]?=some x/\y=Y.int (x:Int):=by rw[Ar] at ey;obtain⟨x,e1,e2⟩:=Ay.mp ey;exact⟨x,e1,e2.symm⟩
  refine ht _ _ ⟨rfl,rfl,?_⟩;rw[acl];show wb (!decide (x=l\/x=r)) _ _;have et:(E.take (j+1)).filter (fun x=>!decide (x=l\/x=r))=(E.take j).filter (fun x=>!decide (x=l\/x=r))++[x].filter (fun x=>!decide (x=l\/x=r)):=by rw[BD,ex,C9];rfl
  by_cases c:x=l\/x=r
  ·refine aC (by rw[AE c];rfl) ?_;refine frg ⟨rfl,?_⟩;rw[et,Eh (by simp[c]),C6,AI]
  ·refine ar (by rw[Au c];rfl) ?_;unfold qa;rw[hv];refine frg ⟨rfl,?_⟩;rw[et,Ei (by simp[c]),C6];unfold z0;rw[AC];rfl
 ·rintro _ rfl p hp';rw[Ae,BK];exact hq p hp'
theorem tM{k:Int}(hf:L fa=some (.lst (zb fo)))(h:0<fo.length):∃(j:Nat) (t:Tr),fo[j]?=some t/\0≤k % ((zb fo).length:Int)/\k % ((zb fo).length:Int)<((zb fo).length:Int)/\
 (zb fo)[(k % ((zb fo).length:Int)).toNat]?=some (.ref t.a)/\qf L fa (.lst ((zb fo).eraseIdx (k % ((zb fo).length:Int)).toNat)) fa=some (.lst (zb (fo.eraseIdx j))):=by
 obtain⟨j,t,ej,lj,et⟩:=gu h k;have e:(zb fo).length=fo.length:=Ae ..;rw[e,ej];refine⟨j,t,et,by exact AX _,by lia,?_,?_⟩
 ·show(zb fo)[j]?=_;unfold zb;rw[Ar,et];rfl
 ·rw[q9];show some (LO.lst ((zb fo).eraseIdx j))=_;rw[lG]
theorem bN.two{t1 t2:Tr}(h:bN L0 L ka fa ks (t1::t2::rest)):∀x,x∈zr t1.R->x∈zr t2.R->False:=by intro x h1 h2;have nd:=h.nd;rw[AQ,AQ,AH] at nd;exact nd.2.2 x h1 x (An _ h2) rfl
theorem oN{E1 E2:List Nat}{l r:Nat}(hl:l∉E2)(hr:r∉E1)(x:Nat):x∈x5 E1 E2 l r↔(x∈E1/\x≠l)\/(x∈E2/\x≠r):=by
 unfold x5;rw[B8,Aj];constructor
 ·rintro⟨h,c⟩;have c:¬(x=l\/x=r):=by simpa using c
  rcases h with h | h
  ·exact .inl ⟨h,fun e=>c (.inl e)⟩
  ·exact .inr ⟨h,fun e=>c (.inr e)⟩
 ·rintro(⟨h,c⟩ | ⟨h,c⟩)
  ·refine⟨.inl h,?_⟩;have:x≠r:=fun e=>hr (e▸h);simp[c,this]
  ·refine⟨.inr h,?_⟩;have:x≠l:=fun e=>hl (e▸h);simp[c,this]
theorem oK{E1 E2:List Nat}{l r:Nat}(h1:E1.Nodup)(h2:E2.Nodup)(d:∀x,x∈E1->x∈E2->False):(x5 E1 E2 l r).Nodup:=by
 unfold x5;have h:(E1++E2).Nodup:=by rw[AH];exact⟨h1,h2,fun x hx y hy e=>d x hx (e▸hy)⟩
 exact List.Pairwise.filter _ h
theorem aep:∀ys L Q,oJ ys L Q->k6 ah5 9 ys L Q:=by
 rintro ys L Q ⟨L0,ka,fa,ks,fo,one,two,rfl,F,h2,h200,hk200,q⟩;have big:=bg_;have lenR:∀fo:List Tr,(zb fo).length=fo.length:=fun fo=>Ae ..;obtain⟨j1,t1,at1,a1,a2,a3,hf1⟩:=tM (k:=two) F.hf (by exact fc);have l1:(fo.eraseIdx j1).length+1=fo.length:=by have:=(jv at1).length_eq;rw[AF] at this;lia
 refine qd F.hf (qd F.hf ⟨(by show(0:Int)<((zb fo).length:Int);rw[lenR];lia),ql F.hf ⟨a1,a2,qx a3 ?_⟩⟩);have old1:∀b o,b≠fa->L b=some o->qf L fa (.lst ((zb fo).eraseIdx (two % ((zb fo).length:Int)).toNat)) b=some o:=fun b o nb e=>by rw[qb nb];exact e
 generalize qf L fa (.lst ((zb fo).eraseIdx (two % ((zb fo).length:Int)).toNat))=L1 at hf1 old1;obtain⟨j2,t2,at2,b1,b2,b3,hf2⟩:=tM (k:=one) hf1 (by lia);have l2:((fo.eraseIdx j1).eraseIdx j2).length+1=(fo.eraseIdx j1).length:=by have:=(jv at2).length_eq;rw[AF] at this;lia
 refine qd hf1 (qd hf1 ⟨(by show(0:Int)<((zb (fo.eraseIdx j1)).length:Int);rw[lenR];lia),ql hf1 ⟨b1,b2,qx b3 ?_⟩⟩);have old2:∀b o,b≠fa->L b=some o->qf L1 fa (.lst ((zb (fo.eraseIdx j1)).eraseIdx (one % ((zb (fo.eraseIdx j1)).length:Int)).toNat)) b=some o:=fun b o nb e=>by rw[qb nb];exact old1 b o nb e
 generalize qf L1 fa (.lst ((zb (fo.eraseIdx j1)).eraseIdx (one % ((zb (fo.eraseIdx j1)).length:Int)).toNat))=L2 at hf2 old2;have B:bN L0 L ka fa ks (t1::t2::(fo.eraseIdx j1).eraseIdx j2):=F.b.perm ((jv at1).trans ((jv at2).cons _));generalize (fo.eraseIdx j1).eraseIdx j2=rest at l2 hf2 B;clear hf1 old1 a1 a2 a3 b1 b2 b3;have m1:t1∈t1::t2::rest:=by simp
 have m2:t2∈t1::t2::rest:=by simp
 have ad:=B.ad;have nk:∀t∈t1::t2::rest,t.a≠fa/\t.b≠fa/\t.a≠ka/\t.b≠ka:=fun t ht=>by rw[Av,Av] at ad;have ma:t.a∈(t1::t2::rest).flatMap Tr.ads:=Bt.mpr ⟨t,ht,by simp[Tr.ads]⟩;have mb:t.b∈(t1::t2::rest).flatMap Tr.ads:=Bt.mpr ⟨t,ht,by simp[Tr.ads]⟩;exact⟨fun e=>ad.2.1 (e▸ma),fun e=>ad.2.1 (e▸mb),fun e=>ad.1 (Ag _ (e▸ma)),fun e=>ad.1 (Ag _ (e▸mb))⟩
 have nkf:ka≠fa:=by rw[Av] at ad;exact fun e=>ad.1 (e▸Aq ..)
 have hk2:L2 ka=some (.lst (jb ks)):=old2 ka _ nkf B.hk;have ta1:=old2 t1.a _ (nk t1 m1).1 (B.ht t1 m1).1;have tb1:=old2 t1.b _ (nk t1 m1).2.1 (B.ht t1 m1).2;have ta2:=old2 t2.a _ (nk t2 m2).1 (B.ht t2 m2).1;have tb2:=old2 t2.b _ (nk t2 m2).2.1 (B.ht t2 m2).2;have le1:=ao B m1;have le2:=ao B m2;obtain⟨x,hx,ex⟩:=oQ le1.1 (two / 64);obtain⟨y,hy,ey⟩:=oQ le2.1 (one / 64);refine qd ta1 ⟨⟨by decide,by decide⟩,qd ta1 (qd tb1 ⟨(by show(0:Int)<((z0 t1.E).length:Int);rw[Ae];omega),qd tb1 (qx ex ?_)⟩)⟩;refine qd ta2 ⟨⟨by decide,by decide⟩,qd ta2 (qd tb2 ⟨(by show(0:Int)<((z0 t2.E).length:Int);rw[Ae];omega),qd tb2 (qx ey ?_)⟩)⟩;refine qd hk2 (ql hk2 ⟨big _ (by rw[Ae];exact dO),?_⟩);have ek:jb ks++[.tup [.str "both",.int ((x:Nat):Int),.int ((y:Nat):Int)]]=jb (ks++[.nd false x y]):=by unfold jb;rw[AC];rfl
 rw[ek];have hk3:qf L2 ka (.lst (jb (ks++[.nd false x y]))) ka=some (.lst (jb (ks++[.nd false x y]))):=q9;have old3:∀b o,b≠ka->L2 b=some o->qf L2 ka (.lst (jb (ks++[.nd false x y]))) b=some o:=fun b o nb e=>by rw[qb nb];exact e
 generalize qf L2 ka (.lst (jb (ks++[.nd false x y])))=L3 at hk3 old3;have ta1:=old3 _ _ (nk t1 m1).2.2.1 ta1;have tb1:=old3 _ _ (nk t1 m1).2.2.2 tb1;have ta2:=old3 _ _ (nk t2 m2).2.2.1 ta2;have tb2:=old3 _ _ (nk t2 m2).2.2.2 tb2;have hf3:=old3 _ _ (AK nkf) hf2;refine qd ta1 (qd ta2 ⟨_,_,tb1,tb2,cJ (by rw[Ae,Ae];lia),fun pp hpp=>?_⟩);have en:z0 t1.E++z0 t2.E=z0 (t1.E++t2.E):=by unfold z0;rw[AC]
 rw[en];refine aa0 (E:=t1.E++t2.E) (l:=x) (r:=y) (k:=9) q9 (by rw[Ac];lia) (fun y' Q' h=>h) (fun _=>rfl) fun pe hpe=>?_;have s4:qj L3 (qf (qf L3 pp (.lst (z0 (t1.E++t2.E)))) pe (.lst (z0 ((t1.E++t2.E).filter fun z=>!decide (z=x\/z=y))))):=(By hpp).trans (By hpe);have he4:qf (qf L3 pp (.lst (z0 (t1.E++t2.E)))) pe (.lst (z0 ((t1.E++t2.E).filter fun z=>!decide (z=x\/z=y)))) pe=some (.lst (z0 (x5 t1.E t2.E x y))):=q9;generalize qf (qf L3 pp (.lst (z0 (t1.E++t2.E)))) pe (.lst (z0 ((t1.E++t2.E).filter fun z=>!decide (z=x\/z=y))))=L4 at s4 he4;have hk4:=s4 _ _ hk3;have hf4:=s4 _ _ hf3;have nn:(((jb (ks++[.nd false x y])).length:Nat):Int) - 1=((ks.length:Nat):Int):=by rw[Ae,Ac];simp
 refine qd hf4 (qd hk4 (qd (s4 _ _ ta1) (qd (s4 _ _ ta2) (qd hk4 fun pn hpn=>?_))));refine⟨_,_,By hpn _ _ he4,q9,cJ (by have:=oK (l:=x) (r:=y) (B.sr t1 m1).nod (B.sr t2 m2).nod (fun z h1 h2=>B.two z ((B.sr t1 m1).sub z h1) ((B.sr t2 m2).sub z h2));have:=CM (fun z=>!decide (z=x\/z=y)) (t1.E++t2.E);rw[Ac] at this;rw[Ae];unfold x5;show _+1≤1000;lia),fun pb hpb pa hpa=>?_⟩;have s7:=(By (o:=.lst [.int ((((jb (ks++[.nd false x y])).length:Nat):Int) - 1)]) hpn).trans ((By (o:=.lst (z0 (x5 t1.E t2.E x y)++[.int ((((jb (ks++[.nd false x y])).length:Nat):Int) - 1)])) hpb).trans (By (o:=.lst [.tup [.str "both",.int ((((jb (ks++[.nd false x y])).length:Nat):Int) - 1),za t1.R,za t2.R],.ref pb]) hpa));refine ql (s7 _ _ hf4) ⟨big _ (by rw[lenR];lia),?_⟩;have nab:pb≠pa:=vt q9 hpa;have hpa7:∀L6:qm,qf L6 pa (.lst [.tup [.str "both",.int ((((jb (ks++[.nd false x y])).length:Nat):Int) - 1),za t1.R,za t2.R],.ref pb]) pa=some (.lst [za (.bo ks.length t1.R t2.R),.ref pb]):=fun L6=>by rw[q9,nn];rfl
 have hpb7:∀L5 o,qf (qf L5 pb (.lst (z0 (x5 t1.E t2.E x y)++[.int ((((jb (ks++[.nd false x y])).length:Nat):Int) - 1)]))) pa o pb=some (.lst (z0 (x5 t1.E t2.E x y++[ks.length]))):=fun L5 o=>by rw[qb nab,q9,nn];unfold z0;rw[AC];rfl
 have ea:=hpa7 (qf (qf L4 pn (.lst [.int ((((jb (ks++[.nd false x y])).length:Nat):Int) - 1)])) pb (.lst (z0 (x5 t1.E t2.E x y)++[.int ((((jb (ks++[.nd false x y])).length:Nat):Int) - 1)])));have eb:=hpb7 (qf L4 pn (.lst [.int ((((jb (ks++[.nd false x y])).length:Nat):Int) - 1)])) (.lst [.tup [.str "both",.int ((((jb (ks++[.nd false x y])).length:Nat):Int) - 1),za t1.R,za t2.R],.ref pb]);have na4:L4 pa=none:=by cases z:L4 pa with|none=>rfl|some o=>rw[((By hpn).trans (By hpb)) _ _ z] at hpa;cases hpa
 have nb4:L4 pb=none:=by cases z:L4 pb with|none=>rfl|some o=>rw[(By hpn) _ _ z] at hpb;cases hpb
 generalize qf (qf (qf L4 pn (.lst [.int ((((jb (ks++[.nd false x y])).length:Nat):Int) - 1)])) pb (.lst (z0 (x5 t1.E t2.E x y)++[.int ((((jb (ks++[.nd false x y])).length:Nat):Int) - 1)]))) pa (.lst [.tup [.str "both",.int ((((jb (ks++[.nd false x y])).length:Nat):Int) - 1),za t1.R,za t2.R],.ref pb])=L7 at s7 ea eb;clear hpn hpb hpa hpa7 hpb7 he4;have up:∀b o,b≠fa->b≠ka->L b=some o->L4 b=some o:=fun b o n1 n2 e=>s4 _ _ (old3 _ _ n2 (old2 _ _ n1 e));have hf7:=s7 _ _ hf4;have npa:pa≠fa:=fun e=>by rw[e,hf4] at na4;cases na4
 have npb:pb≠fa:=fun e=>by rw[e,hf4] at nb4;cases nb4
 have s1:=B.sr t1 m1;have s2:=B.sr t2 m2;have dis:∀z,z∈t1.E->z∈t2.E->False:=fun z h1 h2=>B.two z (s1.sub z h1) (s2.sub z h2);refine vk (q _ (ks++[.nd false x y]) (rest++[⟨pa,pb,.bo ks.length t1.R t2.R,x5 t1.E t2.E x y++[ks.length]⟩]) ⟨?_,?_⟩ (by rw[Ac];rfl) (by rw[Ac];simp;lia))
 ·refine bN.step (old:=[t1,t2]) (t':=⟨pa,pb,.bo ks.length t1.R t2.R,x5 t1.E t2.E x y++[ks.length]⟩) B ?_ ⟨?_,?_⟩ (fun t ht=>?_) (fun b o e=>?_) ?_ (fun z hz=>?_) ?_ ?_ ?_
  ·rw[qb nkf];exact s7 _ _ hk4
  ·rw[qb npa];exact ea
  ·rw[qb npb];exact eb
  ·have mt:t∈t1::t2::rest:=Ag _ (Ag _ ht);obtain⟨n1,n2,n3,n4⟩:=nk t mt;obtain⟨h1,h2⟩:=B.ht t mt;rw[h1,h2,qb n1,qb n2];exact⟨s7 _ _ (up _ _ n1 n3 h1),s7 _ _ (up _ _ n2 n4 h2)⟩
  ·have n1:b≠ka:=fun z=>by rw[z,B.fr ka (by simp)] at e;cases e
   have n2:b≠fa:=fun z=>by rw[z,B.fr fa (by simp)] at e;cases e
   rw[qb n2];exact s7 _ _ (up _ _ n2 n1 (B.sub _ _ e))
  ·rw[Av,Av] at ad;obtain⟨d1,d2,d3⟩:=ad;have d3':(rest.flatMap Tr.ads).Nodup:=by rw[AQ,AQ,AH,AH] at d3;exact d3.2.1.2.1
   have inn:∀z∈rest.flatMap Tr.ads,z∈(t1::t2::rest).flatMap Tr.ads:=fun z hz=>by rw[AQ,AQ];exact Ah _ (Ah _ hz)
   have ex4:∀z∈rest.flatMap Tr.ads,∃o,L4 z=some o:=fun z hz=>by
    obtain⟨t,ht,hz⟩:=Bt.mp hz;have mt:t∈t1::t2::rest:=Ag _ (Ag _ ht);obtain⟨n1,n2,n3,n4⟩:=nk t mt;obtain⟨h1,h2⟩:=B.ht t mt;have hz:z=t.a\/z=t.b:=by simpa[Tr.ads] using hz
    rcases hz with rfl | rfl
    ·exact⟨_,up _ _ n1 n3 h1⟩
    ·exact⟨_,up _ _ n2 n4 h2⟩
   have npk:pa≠ka:=fun e=>by rw[e,hk4] at na4;cases na4
   have nbk:pb≠ka:=fun e=>by rw[e,hk4] at nb4;cases nb4
   have nra:pa∉rest.flatMap Tr.ads:=fun hz=>by obtain⟨o,e⟩:=ex4 _ hz;rw[na4] at e;cases e
   have nrb:pb∉rest.flatMap Tr.ads:=fun hz=>by obtain⟨o,e⟩:=ex4 _ hz;rw[nb4] at e;cases e
   rw[AN];rw[Av,Av,AH];refine⟨?_,?_,d3',?_,?_⟩
   ·intro z;rcases Ap.mp z with z | z
    ·exact nkf z
    ·rcases Aj.mp z with z | z
     ·exact d1 (Ag _ (inn _ z))
     ·simp[Tr.ads] at z;rcases z with z | z;exact npk z.symm;exact nbk z.symm
   ·intro z;rcases Aj.mp z with z | z
    ·exact d2 (inn _ z)
    ·simp[Tr.ads] at z;rcases z with z | z;exact npa z.symm;exact npb z.symm
   ·simp[Tr.ads];exact AK nab
   ·intro u hu v hv e;simp[Tr.ads] at hv;subst e;rcases hv with rfl | rfl
    ·exact nra hu
    ·exact nrb hu
  ·have hz:z=pa\/z=pb:=by simpa[Tr.ads] using hz
   cases w:L0 z with
   |none=>rfl
   |some o=>
    have n1:z≠ka:=fun e=>by rw[e,B.fr ka (by simp)] at w;cases w
    have n2:z≠fa:=fun e=>by rw[e,B.fr fa (by simp)] at w;cases w
    have:=up _ _ n2 n1 (B.sub _ _ w);rcases hz with rfl | rfl
    ·rw[na4] at this;cases this
    ·rw[nb4] at this;cases this
  ·exact B.ok.snoc ⟨s1.lt x (s1.sub x hx),s2.lt y (s2.sub y hy)⟩
  ·refine .bo (cX _ _ _) (s1.more _) (s2.more _) hx hy (fun z=>?_) ?_
   ·rw[Aj,oN (fun h=>dis x hx h) (fun h=>dis y h hy),AB];constructor
    ·rintro((h | h) | h)
     ·exact .inl h
     ·exact .inr (.inl h)
     ·exact .inr (.inr h)
    ·rintro(h | h | h)
     ·exact .inl (.inl h)
     ·exact .inl (.inr h)
     ·exact .inr h
   ·rw[AH];refine⟨oK s1.nod s2.nod dis,by simp,fun u hu v hv e=>?_⟩;rw[AB.mp hv] at e;have:=(oN (fun h=>dis x hx h) (fun h=>dis y h hy) u).mp hu;rcases this with⟨h,_⟩ | ⟨h,_⟩
    ·have:=s1.lt u (s1.sub u h);lia
    ·have:=s2.lt u (s2.sub u h);lia
  ·show(ks.length::(zr t1.R++zr t2.R)).Perm (List.range' ks.length 1++([t1,t2].flatMap fun t=>zr t.R));simp[Ef]
 ·rw[q9];unfold zb;rw[AC];rfl
theorem qJ{E:List Nat}{k:Int}(h:0<E.length):∃(j x:Nat),E[j]?=some x/\0≤k % ((z0 E).length:Int)/\k % ((z0 E).length:Int)<((z0 E).length:Int)/\
 (z0 E)[(k % ((z0 E).length:Int)).toNat]?=some (.int ((x:Nat):Int))/\(z0 E).eraseIdx (k % ((z0 E).length:Int)).toNat=z0 (E.eraseIdx j):=by
 obtain⟨j,x,ej,lj,et⟩:=gu h k;have e:(z0 E).length=E.length:=Ae ..;rw[e,ej];refine⟨j,x,et,by exact AX _,by lia,?_,?_⟩
 ·show(z0 E)[j]?=_;rw[Ar,et];rfl
 ·exact hX _ E j
def lI:xw:=fun ys L Q=>∃L0 ka fa ks,∃pre post:List Tr,∃t:Tr,∃one two:Int,ys=[.ref ka,.ref t.a,.int one,.int two]/\lw L0 L ka fa ks (pre++t::post)/\ks.length≤200/\
 ∀L' ks' fo',lw L0 L' ka fa ks' fo'->ks'.length≤ks.length+1->fo'.length=(pre++t::post).length->Q .non L'
theorem aav:∀ys L Q,lI ys L Q->k6 ady 6 ys L Q:=by
 rintro ys L Q ⟨L0,ka,fa,ks,pre,post,t,one,two,rfl,F,hk200,q⟩;have big:=bg_;have mt:t∈pre++t::post:=by simp
 have B:=F.b;obtain⟨ta,tb⟩:=B.ht t mt;have le:=ao B mt;have s:=B.sr t mt;have lenE:∀E:List Nat,(z0 E).length=E.length:=fun E=>Ae ..;refine qd ta (qd tb ?_);refine zu (fun c=>?_) fun c=>?_
 ·exact vk (q L ks _ F (CQ _) rfl)
 have c:¬(((z0 t.E).length:Int)<2):=c;rw[lenE] at c;have ad:=B.ad;have nkf:ka≠fa:=by rw[Av] at ad;exact fun e=>ad.1 (e▸Aq ..)
 have nk:∀u∈pre++t::post,u.a≠fa/\u.b≠fa/\u.a≠ka/\u.b≠ka:=fun u hu=>by rw[Av,Av] at ad;have ma:u.a∈(pre++t::post).flatMap Tr.ads:=Bt.mpr ⟨u,hu,by simp[Tr.ads]⟩;have mb:u.b∈(pre++t::post).flatMap Tr.ads:=Bt.mpr ⟨u,hu,by simp[Tr.ads]⟩;exact⟨fun e=>ad.2.1 (e▸ma),fun e=>ad.2.1 (e▸mb),fun e=>ad.1 (Ag _ (e▸ma)),fun e=>ad.1 (Ag _ (e▸mb))⟩
 have nab:t.a≠t.b:=by rw[Av,Av,AN,AQ,AH,AH] at ad;have:=ad.2.2.2.1.1;simpa[Tr.ads] using this
 obtain⟨j1,x,e1,a1,a2,a3,a4⟩:=qJ (k:=two) le.1;refine qd ta (qd tb (qd ta (qd tb ⟨(by show(0:Int)<((z0 t.E).length:Int);rw[lenE];omega),ql tb ⟨a1,a2,qx a3 ?_⟩⟩)));rw[a4];have lE1:(t.E.eraseIdx j1).length+1=t.E.length:=by have:=(jv e1).length_eq;rw[AF] at this;lia
 have ta1:qf L t.b (.lst (z0 (t.E.eraseIdx j1))) t.a=some (.lst [za t.R,.ref t.b]):=by rw[qb nab];exact ta
 obtain⟨j2,y,e2,b1,b2,b3,b4⟩:=qJ (E:=t.E.eraseIdx j1) (k:=one) (by lia);refine qd ta1 (qd q9 (qd ta1 (qd q9 ⟨(by show(0:Int)<((z0 (t.E.eraseIdx j1)).length:Int);rw[lenE];omega),ql q9 ⟨b1,b2,qx b3 ?_⟩⟩)));rw[b4,wm];have lE2:((t.E.eraseIdx j1).eraseIdx j2).length+1=(t.E.eraseIdx j1).length:=by have:=(jv e2).length_eq;rw[AF] at this;lia
 have pE:t.E.Perm (x::y::(t.E.eraseIdx j1).eraseIdx j2):=(jv e1).trans ((jv e2).cons _);generalize (t.E.eraseIdx j1).eraseIdx j2=E2 at lE2 pE;have hk1:qf L t.b (.lst (z0 E2)) ka=some (.lst (jb ks)):=by rw[qb (AK (nk t mt).2.2.2)];exact B.hk
 refine qd hk1 (ql hk1 ⟨big _ (by rw[Ae];exact dO),?_⟩);have ek:jb ks++[.tup [.str "either",.int ((x:Nat):Int),.int ((y:Nat):Int)]]=jb (ks++[.nd true x y]):=by unfold jb;rw[AC];rfl
 rw[ek];have nn:(((jb (ks++[.nd true x y])).length:Nat):Int) - 1=((ks.length:Nat):Int):=by rw[Ae,Ac];simp
 have ta2:qf (qf L t.b (.lst (z0 E2))) ka (.lst (jb (ks++[.nd true x y]))) t.a=some (.lst [za t.R,.ref t.b]):=by rw[qb (nk t mt).2.2.1,qb nab];exact ta
 refine qd q9 (qd ta2 ?_);refine ql ta2 (qx (v:=0) rfl ?_);have ha3:qf (qf (qf L t.b (.lst (z0 E2))) ka (.lst (jb (ks++[.nd true x y])))) t.a (.lst ([za t.R,.ref t.b].set 0 (.tup [.str "either",.int ((((jb (ks++[.nd true x y])).length:Nat):Int) - 1),za t.R]))) t.a=some (.lst [za (.ei ks.length t.R),.ref t.b]):=by rw[q9,nn];rfl
 have hk3:∀o,qf (qf (qf L t.b (.lst (z0 E2))) ka (.lst (jb (ks++[.nd true x y])))) t.a o ka=some (.lst (jb (ks++[.nd true x y]))):=fun o=>by rw[qb (AK (nk t mt).2.2.1)];exact q9
 have tb3:∀o,qf (qf (qf L t.b (.lst (z0 E2))) ka (.lst (jb (ks++[.nd true x y])))) t.a o t.b=some (.lst (z0 E2)):=fun o=>by rw[qb (AK nab),qb (nk t mt).2.2.2];exact q9
 have old3:∀o b u,b≠t.a->b≠t.b->b≠ka->L b=some u->qf (qf (qf L t.b (.lst (z0 E2))) ka (.lst (jb (ks++[.nd true x y])))) t.a o b=some u:=fun o b u n1 n2 n3 e=>by rw[qb n1,qb n3,qb n2];exact e
 have hk3:=hk3 (.lst ([za t.R,.ref t.b].set 0 (.tup [.str "either",.int ((((jb (ks++[.nd true x y])).length:Nat):Int) - 1),za t.R])));have tb3:=tb3 (.lst ([za t.R,.ref t.b].set 0 (.tup [.str "either",.int ((((jb (ks++[.nd true x y])).length:Nat):Int) - 1),za t.R])));have old3:=old3 (.lst ([za t.R,.ref t.b].set 0 (.tup [.str "either",.int ((((jb (ks++[.nd true x y])).length:Nat):Int) - 1),za t.R])));generalize qf (qf (qf L t.b (.lst (z0 E2))) ka (.lst (jb (ks++[.nd true x y])))) t.a (.lst ([za t.R,.ref t.b].set 0 (.tup [.str "either",.int ((((jb (ks++[.nd true x y])).length:Nat):Int) - 1),za t.R])))=L3 at ha3 hk3 tb3 old3;refine qd ha3 (qd tb3 (qd hk3 (ql tb3 ⟨big _ (by rw[lenE];lia),?_⟩)));have en:z0 E2++[.int ((((jb (ks++[.nd true x y])).length:Nat):Int) - 1)]=z0 (E2++[ks.length]):=by rw[nn];unfold z0;rw[AC];rfl
 have nxy:=pE.nodup_iff.mp s.nod;rw[Av,Av] at nxy;have hx:x∈t.E:=pE.mem_iff.mpr (by simp);have hy:y∈t.E:=pE.mem_iff.mpr (by simp);have adT:∀u∈pre++post,u.a≠t.a/\u.a≠t.b/\u.b≠t.a/\u.b≠t.b:=fun u hu=>by have p:(pre++t::post).Perm (t::(pre++post)):=B3;have ad2:=(p.flatMap_right Tr.ads).nodup_iff.mp (by rw[Av,Av] at ad;exact ad.2.2);rw[AQ,AH] at ad2;have k:=ad2.2.2;have ma:u.a∈(pre++post).flatMap Tr.ads:=Bt.mpr ⟨u,hu,by simp[Tr.ads]⟩;have mb:u.b∈(pre++post).flatMap Tr.ads:=Bt.mpr ⟨u,hu,by simp[Tr.ads]⟩;exact⟨fun e=>k t.a (by simp[Tr.ads]) u.a ma e.symm,fun e=>k t.b (by simp[Tr.ads]) u.a ma e.symm,fun e=>k t.a (by simp[Tr.ads]) u.b mb e.symm,fun e=>k t.b (by simp[Tr.ads]) u.b mb e.symm⟩
 refine vk (q _ (ks++[.nd true x y]) (pre++⟨t.a,t.b,.ei ks.length t.R,E2++[ks.length]⟩::post) ⟨?_,?_⟩ (by rw[Ac];exact Am _) (by simp))
 ·have B':=B.perm (fo':=[t]++(pre++post)) B3;have st:=bN.step (old:=[t]) (rest:=pre++post) (t':=⟨t.a,t.b,.ei ks.length t.R,E2++[ks.length]⟩) (ms:=[.nd true x y]) (L':=qf L3 t.b (.lst (z0 E2++[.int ((((jb (ks++[.nd true x y])).length:Nat):Int) - 1)]))) B' ?_ ⟨?_,?_⟩ (fun u hu=>?_) (fun b o e=>?_) ?_ (fun z hz=>?_) ?_ ?_ ?_
  ·exact st.perm (by have p1:((pre++post)++[(⟨t.a,t.b,.ei ks.length t.R,E2++[ks.length]⟩:Tr)]).Perm ((⟨t.a,t.b,.ei ks.length t.R,E2++[ks.length]⟩:Tr)::(pre++post)):=B5 _ _;exact p1.trans B3.symm)
  ·rw[qb (AK (nk t mt).2.2.2)];exact hk3
  ·rw[qb nab];exact ha3
  ·rw[q9,en]
  ·have hu':u∈pre++t::post:=by rcases Aj.mp hu with h | h;exact An _ h;exact Ah _ (Ag _ h)
   obtain⟨n1,n2,n3,n4⟩:=adT u hu;obtain⟨k1,k2,k3,k4⟩:=nk u hu';obtain⟨h1,h2⟩:=B.ht u hu';rw[h1,h2,qb n2,qb n4];exact⟨old3 _ _ n1 n2 k3 h1,old3 _ _ n3 n4 k4 h2⟩
  ·have fr:=B.fr;have n0:∀z,L0 z=none->b≠z:=fun z hz w=>by rw[w,hz] at e;cases e
   have n1:=n0 ka (fr ka (by simp));have n2:=n0 t.a (fr t.a (by simp[Tr.ads]));have n3:=n0 t.b (fr t.b (by simp[Tr.ads]));rw[qb n3];exact old3 _ _ n2 n3 n1 (B.sub _ _ e)
  ·have p:(pre++t::post).Perm ((pre++post)++[t]):=B3.trans (B5 _ _).symm;have e:((pre++post)++[(⟨t.a,t.b,.ei ks.length t.R,E2++[ks.length]⟩:Tr)]).flatMap Tr.ads=((pre++post)++[t]).flatMap Tr.ads:=by simp[AN,Tr.ads]
   rw[e];exact(((p.flatMap_right Tr.ads).cons _).cons _).nodup_iff.mp ad
  ·have hz:z=t.a\/z=t.b:=by simpa[Tr.ads] using hz
   rcases hz with rfl | rfl
   ·exact B.fr _ (by simp[Tr.ads])
   ·exact B.fr _ (by simp[Tr.ads])
  ·exact B.ok.snoc ⟨s.lt x (s.sub x hx),s.lt y (s.sub y hy)⟩
  ·refine .ei (cX _ _ _) (s.more _) hx hy (fun e=>nxy.1 (by rw[e];exact Aq ..)) (fun z=>?_) ?_
   ·rw[Aj,AB];have hm:=pE.mem_iff (a:=z);rw[Ap,Ap] at hm;have h1:z∈E2->z≠x/\z≠y:=fun h=>⟨fun e=>nxy.1 (by rw[<-e];exact Ag _ h),fun e=>nxy.2.1 (e▸h)⟩;constructor
    ·rintro(h | h)
     ·exact .inl ⟨hm.mpr (.inr (.inr h)),h1 h⟩
     ·exact .inr h
    ·rintro(⟨h,c1,c2⟩ | h)
     ·rcases hm.mp h with e | e | e
      ·exact absurd e c1
      ·exact absurd e c2
      ·exact .inl e
     ·exact .inr h
   ·rw[AH];refine⟨nxy.2.2,by simp,fun u hu v hv e=>?_⟩;rw[AB.mp hv] at e;have:u∈t.E:=pE.mem_iff.mpr (Ag _ (Ag _ hu));have:=s.lt u (s.sub u this);lia
  ·show(ks.length::zr t.R).Perm (List.range' ks.length 1++([t].flatMap fun t=>zr t.R));simp[Ef]
 ·have nf:=nk t mt;rw[qb (AK nf.2.1)];have:=old3 fa _ (AK nf.1) (AK nf.2.1) (AK nkf) F.hf;rw[this];unfold zb;rw[AC,AC];rfl
def ai1(p0:xw)(p1:xw)(p2:xw)(p3:xw):w6:=(qw (zp (aG cT (qa 1) (qe (zg vf (qa 3) (cN 1)) qy)) (qh 4))
 (qw (zp (zg bO (x8 4 1) (zg vf (zg aU (qa 3) (j5 64)) (cx iI (aR (x8 4 1))))) (qh 5))
 (qw (zp (zo p0 (wn (qa 0) (qa 5))) (qh 6))
 (qw (zp (tU (yC .non) (yC .non)) (kz 2 (zh (qh 7) (zh (qh 8) k7))))
 (qw (fO (fb (aR (cN 1))) (qh 9) (fO (ky (zg bO (zg bO (qa 1) (qa 9)) (j5 1))) (qh 10) (x6 (dY (yB (fB false (qa 7))) (dG (zo p0 (wn (qa 0) (qa 10))) (zo p1 (aR (qa 6))))) (zp (va (qe (zg bO (qa 1) (qa 9)) (aR (qa 10)))) (kz 2 (zh (qh 7) (zh (qh 8) k7)))) jr)))
 (qw (x6 (dY (yB (fB false (qa 7))) (yB (zg yGt (zo p2 (aR (qa 6))) (j5 5)))) (qw (jd (aG zk (qa 1) (aR (qa 4))))
 abz) jr)
 (cL (x6 (yB (fB false (qa 7))) (qw (zp (zo p3 (wn (qa 0) (qa 6))) (ag3 3 (zh (qh 11) (zh (qh 8) (zh (qh 12) k7)))))
 (zp (vj (qe (qa 11) (qe (vj (wn (qa 8) (qa 12))) qy))) (qh 7))) (jd (aG jK (qa 1) (aR (qa 7)))))
 (qw (zp (oB 1 (ky (zg xj (x8 4 1) (x8 7 1))) (qh 14) (yB (zg (pU true) (qa 14) (tU (qa 5) (qa 8)))) (qa 14)) (qh 13))
 (x6 (dG (zg vf (qa 2) (j5 2)) (j5 0)) (jd (aG zk (qa 1) (qe (vj (qe (va (qe (eU "cut") (qe (qa 5) (qe (qa 8) (wn (x8 4 0) (x8 7 0)))))) (aR (qa 13)))) qy))) (jd (aG zk (qa 1) (qe (vj (qe (va (qe (eU "cut") (qe (qa 8) (qe (qa 5) (wn (x8 7 0) (x8 4 0)))))) (aR (qa 13)))) qy))))))))))))
theorem oY:∀a b:List Da,Da.eqs a b=true->a.length=b.length
 |[],[],_=>rfl
 |[],_::_,h=>by cases h
 |_::_,[],h=>by cases h
 |x::r,y::q,h=>by have h:(Da.eq x y&&Da.eqs r q)=true:=h;rw[AY] at h;rw[AF,AF,oY r q h.2]
theorem ael(u:Wd):∀v:Wd,Da.eq (oO u) (oO v)=true->u=v:=by
 induction u with
 |leaf t n=>
  intro v h;cases v with
  |leaf t' n'=>
   rw[adf,AY] at h;rw[of_decide_eq_true h.1,of_decide_eq_true h.2]
  |node e l r=>exact absurd (oY _ _ h) (by intro z;cases z)
 |node e l r il ir=>
  intro v h;cases v with
  |leaf t n=>exact absurd (oY _ _ h) (by intro z;cases z)
  |node e' l' r'=>
   have h:(iu (.str (kN e)) (.str (kN e'))&&(Da.eq (oO l) (oO l')&&(Da.eq (oO r) (oO r')&&true)))=true:=h;rw[AY,AY,AY] at h;obtain⟨h1,h2,h3,_⟩:=h;have:e=e':=by cases e<;>cases e'<;>first | rfl | (exfalso;revert h1;decide +kernel)
   rw[this,il l' h2,ir r' h3]
def aA:Ru->Nat
 |.link _ _=>1
 |.ei _ A=>aA A+1
 |.bo _ A B=>max (aA A) (aA B)+1
 |.cu _ _ A B=>max (aA A) (aA B)+1
theorem aH:∀R:Ru,aA R+1≤(zr R).length
 |.link _ _=>Am _
 |.ei _ A=>by have:=aH A;simp[aA,zr];lia
 |.bo _ A B=>by have:=aH A;have:=aH B;simp[aA,zr];lia
 |.cu _ _ A B=>by have:=aH A;have:=aH B;simp[aA,zr];lia
def bS:Ru->Da
 |.link p q=>.tup [.s (.str "link"),.s (.int (p:Int)),.s (.int (q:Int))]
 |.ei r A=>.tup [.s (.str "either"),.s (.int (r:Int)),bS A]
 |.bo r A B=>.tup [.s (.str "both"),.s (.int (r:Int)),bS A,bS B]
 |.cu p q A B=>.tup [.s (.str "cut"),.s (.int (p:Int)),.s (.int (q:Int)),bS A,bS B]
theorem cr{L:qm}:∀{R:Ru} {n:Nat},aA R≤n->js L n (za R) (bS R)
 |.link p q,n+1,_=>bV (.cons (EU _) (.cons (EL _) (.cons (EL _) .nil)))
 |.ei r A,n+1,h=>bV (.cons (EU _) (.cons (EL _) (.cons (cr (by simp[aA] at h;lia)) .nil)))
 |.bo r A B,n+1,h=>bV (.cons (EU _) (.cons (EL _) (.cons (cr (by simp[aA] at h;lia)) (.cons (cr (by simp[aA] at h;lia)) .nil))))
 |.cu p q A B,n+1,h=>bV (.cons (EU _) (.cons (EL _) (.cons (EL _) (.cons (cr (by simp[aA] at h;lia)) (.cons (cr (by simp[aA] at h;lia)) .nil)))))
 |.link _ _,0,h=>by simp[aA] at h
 |.ei _ _,0,h=>by simp[aA] at h
 |.bo _ _ _,0,h=>by simp[aA] at h
 |.cu _ _ _ _,0,h=>by simp[aA] at h
theorem ag:∀R:Ru,Da.eq (bS R) (bS R)=true
 |.link p q=>by simp[bS,Da.eq,Da.eqs,iu]
 |.ei r A=>by simp[bS,Da.eq,Da.eqs,iu,ag A]
 |.bo r A B=>by simp[bS,Da.eq,Da.eqs,iu,ag A,ag B]
 |.cu p q A B=>by simp[bS,Da.eq,Da.eqs,iu,ag A,ag B]
def fY(E:List Nat):List Da:=E.map fun n:Nat=>Da.s (.int (n:Int))
theorem oZ{L:qm}{n:Nat}:∀E:List Nat,Paired (js L n) (z0 E) (fY E)
 |[]=>.nil
 |_::r=>.cons (EL _) (oZ r)
theorem oX:∀E E':List Nat,Da.eqs (fY E) (fY E')=true↔E=E'
 |[],[]=>by simp[fY,Da.eqs]
 |[],_::_=>by simp[fY,Da.eqs]
 |_::_,[]=>by simp[fY,Da.eqs]
 |x::r,y::r'=>by
  have ih:=oX r r';show(Da.eq (.s (.int (x:Int))) (.s (.int (y:Int)))&&Da.eqs (fY r) (fY r'))=true↔_;rw[AY,ih];have:Da.eq (.s (.int (x:Int))) (.s (.int (y:Int)))=true↔x=y:=by show decide ((x:Int)=(y:Int))=true↔_;rw[CG];lia
  rw[this];constructor
  ·rintro⟨rfl,rfl⟩;rfl
  ·intro e;injection e with e1 e2;exact⟨e1,e2⟩
def eh(t:Tr):Da:=.lst [bS t.R,.lst (fY t.E)]
theorem pI{t:Tr}(ha:L t.a=some (.lst [za t.R,.ref t.b]))(hb:L t.b=some (.lst (z0 t.E)))(h:aA t.R≤n+1):js L (n+2) (.ref t.a) (eh t):=
 eX ha (.cons (cr h) (.cons (eX hb (oZ _)) .nil))
theorem aem{t u:Tr}:Da.eq (eh t) (eh u)=true->t.E=u.E:=by intro h;have h:(Da.eq (bS t.R) (bS u.R)&&(Da.eqs (fY t.E) (fY u.E)&&true))=true:=h;rw[AY,AY] at h;exact(oX _ _).mp h.2.1
theorem xL(t:Tr):Da.eq (eh t) (eh t)=true:=by show(Da.eq (bS t.R) (bS t.R)&&(Da.eqs (fY t.E) (fY t.E)&&true))=true;rw[ag,(oX _ _).mpr rfl];rfl
theorem bN.rd(h:bN L0 L ka fa ks fo){t:Tr}(ht:t∈fo):aA t.R≤ks.length:=by
 have h1:=aH t.R;have nd:(zr t.R).Nodup:=by obtain⟨a,b,rfl⟩:=DQ ht;have:=h.nd;rw[AN,AQ,AH,AH] at this;exact this.2.1.1
 have:=bF _ _ nd fun x hx=>(h.sr t ht).lt x hx;exact ah7
theorem bN.one(h:bN L0 L ka fa ks fo){t u:Tr}(hi:fo[i]?=some t)(hj:fo[j]?=some u)(e:t.E=u.E):i=j:=by
 by_cases c:i=j
 ·exact c
 ·exfalso;have s:=h.sr t (AR hi);have l:=s.ends h.ok;obtain⟨x,hx⟩:∃x,x∈t.E:=by cases he:t.E with | nil=>rw[he] at l;simp at l | cons x r=>exact⟨x,Aq ..⟩
  have s':=h.sr u (AR hj);have p1:=jv hi;have p2:(u::(fo.eraseIdx i))=_:=rfl;have mu:u∈fo.eraseIdx i:=by have:fo[j]?=some u:=hj;rw[List.mem_eraseIdx_iff_getElem?];exact⟨j,fun z=>c z.symm,hj⟩
  obtain⟨a,b,ab⟩:=DQ mu;have nd:=(p1.flatMap_right fun t:Tr=>zr t.R).nodup_iff.mp h.nd;rw[AQ,AH] at nd;exact nd.2.2 x (s.sub x hx) x (Bt.mpr ⟨u,mu,s'.sub x (e▸hx)⟩) rfl
theorem qj.none(s:qj L L'){p:Addr}(h:L' p=none):L p=none:=by cases z:L p with|none=>rfl|some o=>rw[s _ _ z] at h;cases h
theorem bN.nkf(h:bN L0 L ka fa ks fo):ka≠fa:=by have ad:=h.ad;rw[Av] at ad;exact fun e=>ad.1 (e▸Aq ..)
theorem bN.nk(h:bN L0 L ka fa ks fo):∀t∈fo,t.a≠fa/\t.b≠fa/\t.a≠ka/\t.b≠ka:=fun t ht=>by have ad:=h.ad;rw[Av,Av] at ad;have ma:t.a∈fo.flatMap Tr.ads:=Bt.mpr ⟨t,ht,by simp[Tr.ads]⟩;have mb:t.b∈fo.flatMap Tr.ads:=Bt.mpr ⟨t,ht,by simp[Tr.ads]⟩;exact⟨fun e=>ad.2.1 (e▸ma),fun e=>ad.2.1 (e▸mb),fun e=>ad.1 (Ag _ (e▸ma)),fun e=>ad.1 (Ag _ (e▸mb))⟩
theorem bN.setF(h:bN L0 L ka fa ks fo)(o:LO):bN L0 (qf L fa o) ka fa ks fo:=by
 refine⟨by rw[qb h.nkf];exact h.hk,fun t ht=>?_,h.sr,h.nd,h.tm,h.ad,h.ok,fun b u e=>?_,h.fr⟩
 ·obtain⟨n1,n2,_,_⟩:=h.nk t ht;rw[qb n1,qb n2];exact h.ht t ht
 ·have:b≠fa:=fun z=>by rw[z,h.fr fa (by simp)] at e;cases e
  rw[qb this];exact h.sub _ _ e
theorem bN.mono(h:bN L0 L ka fa ks fo)(s:qj L L'):bN L0 L' ka fa ks fo:=
 ⟨s _ _ h.hk,fun t ht=>⟨s _ _ (h.ht t ht).1,s _ _ (h.ht t ht).2⟩,h.sr,h.nd,h.tm,h.ad,h.ok,h.sub.trans s,h.fr⟩
theorem bN.exs(h:bN L0 L ka fa ks fo):∀z∈fo.flatMap Tr.ads,∃o,L z=some o:=fun z hz=>by
 obtain⟨t,ht,hz⟩:=Bt.mp hz;obtain⟨h1,h2⟩:=h.ht t ht;have hz:z=t.a\/z=t.b:=by simpa[Tr.ads] using hz
 rcases hz with rfl | rfl
 ·exact⟨_,h1⟩
 ·exact⟨_,h2⟩
theorem uh{l:List Addr}{pb:Addr}(nd:l.Nodup)(ex:∀z∈l,∃o,L z=some o)(ha:L pa=none)(hb:L pb=none)(ne:pa≠pb):(l++[pa,pb]).Nodup:=by
 rw[AH];refine⟨nd,by simp[ne],fun u hu v hv e=>?_⟩;subst e;obtain⟨o,eo⟩:=ex u hu;simp at hv;rcases hv with rfl | rfl
 ·rw[ha] at eo;cases eo
 ·rw[hb] at eo;cases eo
theorem kK:∀w:Wd,w.turn.turn=w
 |.leaf t n=>by simp[Wd.turn]
 |.node e l r=>by simp[Wd.turn,kK l,kK r]
theorem fV:∀w:Wd,w.turn.depth=w.depth
 |.leaf t n=>rfl
 |.node e l r=>by simp[Wd.turn,Wd.depth,fV l,fV r]
def Fd(ks:List Kn)(w:Wd)(rest:List Tr)(v7 v8:Y):Prop:=(v7=.non/\v8=.non)\/∃(j:Nat) (u:Tr) (q:Nat),rest[j]?=some u/\q∈u.E/\dP ks q w.turn/\v7=.ref u.a/\v8=.int (q:Int)
theorem ac9{Lp L4:qm}{t1 u:Tr}{x q:Nat}{w:Wd}(B:bN L0 Lp ka fa ks (t1::u::rest)){fs:LO}(hf:Lp fa=some fs)(hx:x∈t1.E)(hq:q∈u.E)(hwx:dP ks x w)(hwq:dP ks q w.turn){pe:Addr}(s:qj Lp L4)(hpe:Lp pe=none)
 (he:L4 pe=some (.lst (z0 (x5 t1.E u.E x q)))) (hpa:L4 pa=none) (hR:R=.cu x q t1.R u.R\/R=.cu q x u.R t1.R):bN L0 (qf L4 pa (.lst [za R,.ref pe])) ka fa ks (rest++[⟨pa,pe,R,x5 t1.E u.E x q⟩]):=by
 have nap:pe≠pa:=vt he hpa;have hpa':Lp pa=none:=s.none hpa;have s':qj Lp (qf L4 pa (.lst [za R,.ref pe])):=s.trans (By hpa);have s1:=B.sr t1 (by simp);have s2:=B.sr u (by simp);have dis:∀z,z∈t1.E->z∈u.E->False:=fun z h1 h2=>B.two z (s1.sub z h1) (s2.sub z h2);have k0:ks++[]=ks:=AI ks;have bm:=oN (E1:=t1.E) (E2:=u.E) (fun h=>dis x hx h) (fun h=>dis q h hq);have nod:=oK (l:=x) (r:=q) s1.nod s2.nod dis;have st:=bN.step (L':=qf L4 pa (.lst [za R,.ref pe])) (old:=[t1,u]) (rest:=rest) (ms:=[]) (t':=⟨pa,pe,R,x5 t1.E u.E x q⟩) B (by rw[k0];exact s' _ _ B.hk) ⟨q9,by rw[qb nap];exact he⟩ (fun t ht=>?_) (B.sub.trans s') ?_ (fun z hz=>?_) (by rw[k0];exact B.ok) ?_ ?_
 ·rw[k0] at st;exact st
 ·obtain⟨h1,h2⟩:=B.ht t (Ag _ (Ag _ ht));rw[h1,h2];exact⟨s' _ _ h1,s' _ _ h2⟩
 ·have nd:(ka::fa::rest.flatMap Tr.ads).Nodup:=by
   have:=B.ad;rw[AQ,AQ,Av,Av,AH,AH] at this;rw[Av,Av];obtain⟨d1,d2,_,⟨_,d3,_⟩,_⟩:=this;refine⟨fun z=>d1 ?_,fun z=>d2 (Ah _ (Ah _ z)),d3⟩;rcases Ap.mp z with z | z
   ·rw[z];exact Aq ..
   ·exact Ag _ (Ah _ (Ah _ z))
  have:=uh (L:=Lp) nd (fun z hz=>?_) hpa' hpe (AK nap)
  ·rw[AN];simpa[Tr.ads] using this
  ·rcases Ap.mp hz with rfl | hz
   ·exact⟨_,B.hk⟩
   ·rcases Ap.mp hz with rfl | hz
    ·exact⟨_,hf⟩
    ·exact B.exs z (by rw[AQ,AQ];exact Ah _ (Ah _ hz))
 ·have hz:z=pa\/z=pe:=by simpa[Tr.ads] using hz
  rcases hz with rfl | rfl
  ·exact B.sub.none hpa'
  ·exact B.sub.none hpe
 ·rw[k0];rcases hR with rfl | rfl
  ·exact .cu s1 s2 hx hq hwx hwq bm nod
  ·exact .cu (w:=w.turn) s2 s1 hq hx hwq (by rw[kK];exact hwx) (fun z=>by rw[bm];exact Or.comm) nod
 ·rcases hR with rfl | rfl
  ·show(zr t1.R++zr u.R).Perm _;simp
  ·show(zr u.R++zr t1.R).Perm _;simpa using Bb
def CJ(L0:qm)(ka fa:Addr)(ks:List Kn)(one two:Int)(t1:Tr)(x:Nat)(w:Wd)(n:Nat)(τ:jj)(L:qm):Prop:=∃ms u q rest c9 az c11 c12,τ=[some (.ref ka),some (.ref fa),some (.int one),some (.int two),some (.ref t1.a),some (.int (x:Int)),some (bJ w),some (.ref u.a),some (.int ((q:Nat):Int)),c9,az,c11,c12,none]/\
 bN L0 L ka fa (ks++ms) (t1::u::rest)/\L fa=some (.lst (zb rest))/\q∈u.E/\dP (ks++ms) q w.turn/\ms.length≤10/\rest.length≤n
def ou:xw:=fun ys L Q=>∃L0 ka fa ks fo,∃one two:Int,ys=[.ref ka,.ref fa,.int one,.int two]/\lw L0 L ka fa ks fo/\1≤fo.length/\fo.length≤110/\ks.length≤110/\
 ∀L' ks' fo',lw L0 L' ka fa ks' fo'->ks'.length≤ks.length+10->1≤fo'.length->fo'.length≤fo.length->Q .non L'
theorem adb:∀ys L Q,ou ys L Q->k6 (ai1 (aD 120) (bQ 120) (cM 120) (bY 5)) 14 ys L Q:=by
 rintro ys L Q ⟨L0,ka,fa,ks,fo,one,two,rfl,F,h1,h110,hk110,q⟩;have big:=bg_;have lenR:∀fo:List Tr,(zb fo).length=fo.length:=fun fo=>Ae ..;obtain⟨j1,t1,at1,a1,a2,a3,hf1⟩:=tM (k:=two) F.hf (by assumption);have l1:(fo.eraseIdx j1).length+1=fo.length:=by have:=(jv at1).length_eq;rw[AF] at this;lia
 refine qd F.hf (qd F.hf ⟨(by show(0:Int)<((zb fo).length:Int);rw[lenR];lia),ql F.hf ⟨a1,a2,qx a3 ?_⟩⟩);have B:bN L0 (qf L fa (.lst ((zb fo).eraseIdx (two % ((zb fo).length:Int)).toNat))) ka fa ks (t1::fo.eraseIdx j1):=(F.b.perm (jv at1)).setF _;generalize qf L fa (.lst ((zb fo).eraseIdx (two % ((zb fo).length:Int)).toNat))=L1 at hf1 B;generalize fo.eraseIdx j1=rest at l1 hf1 B;clear a1 a2 a3;have m1:t1∈t1::rest:=by simp
 obtain⟨ta1,tb1⟩:=B.ht t1 m1;have le1:=ao B m1;have s1:=B.sr t1 m1;obtain⟨x,hx,ex⟩:=oQ le1.1 (two / 64);refine qd ta1 ⟨⟨by decide,by decide⟩,qd ta1 (qd tb1 ⟨(by show(0:Int)<((z0 t1.E).length:Int);rw[Ae];omega),qd tb1 (qx ex ?_)⟩)⟩;obtain⟨w,hw,hwd,hwok⟩:=jY B.ok (x+1) x (by exact BL _) (s1.lt x (s1.sub x hx));have hxl:=s1.lt x (s1.sub x hx);refine⟨ka,jb ks,x,w,rfl,B.hk,hw,by lia,?_⟩;have wtd:w.turn.depth=w.depth:=fV w;refine qd hf1 ⟨⟨by show _≤(((zb rest).length:Nat):Int);exact AX _,by show(((zb rest).length:Nat):Int)<_;rw[lenR];omega⟩,?_⟩;refine pF (fun i τ L'=>∃v7 v8 c9 az,τ=[some (.ref ka),some (.ref fa),some (.int one),some (.int two),some (.ref t1.a),some (.int (x:Int)),some (bJ w),some v7,some v8,c9,az,none,none,none]/\L'=L1/\Fd ks w rest v7 v8) ⟨_,_,_,_,rfl,rfl,.inl ⟨rfl,rfl⟩⟩ ?_ ?_
 ·rintro i τ L' hi ⟨v7,v8,c9,az,rfl,rfl,fd⟩;have hi:i<rest.length:=by have:i<(((zb rest).length:Nat):Int).toNat:=hi;rw[lenR] at this;assumption
  obtain⟨u,hu⟩:∃u,rest[i]?=some u:=⟨_,Al hi⟩;have mu:u∈t1::rest:=Ag _ (AR hu);obtain⟨ua,ub⟩:=B.ht u mu;have ei:(zb rest)[i]?=some (.ref u.a):=by unfold zb;rw[Ar,hu];rfl
  have e0:(0:Int)+(i:Int)=((i:Nat):Int):=by simp +arith only
  rw[e0];have ate:gc (zb rest) ((i:Nat):Int)=some (.ref u.a):=w5 ei;have le:=ao B mu;have su:=B.sr u mu;refine qd hf1 (qx ate (qd ua ?_));refine afb (ys:=z0 u.E) (aE ub) (fun k τ L''=>∃v7 v8 az,τ=[some (.ref ka),some (.ref fa),some (.int one),some (.int two),some (.ref t1.a),some (.int (x:Int)),some (bJ w),some v7,some v8,some (.int ((i:Nat):Int)),az,none,none,none]/\L''=L'/\Fd ks w rest v7 v8) ⟨_,_,_,rfl,rfl,fd⟩ ?_ ?_ ?_
  ·rintro k τ _ ⟨_,_,_,_,rfl,_⟩;rfl
  ·rintro k y τ L'' ey ⟨v7,v8,az,rfl,rfl,fd⟩;obtain⟨z,ez,rfl⟩:∃z:Nat,u.E[k]?=some z/\y=Y.int (z:Int):=by rw[Ar] at ey;obtain⟨z,e1,e2⟩:=Ay.mp ey;exact⟨z,e1,e2.symm⟩
   have hz:z∈u.E:=AR ez;rcases fd with⟨rfl,rfl⟩ | ⟨j,t,q0,h1,h2,h3,rfl,rfl⟩
   ·have hzl:=su.lt z (su.sub z hz);obtain⟨v,hv,hvd,hvok⟩:=jY B.ok (z+1) z (by exact BL _) hzl;refine⟨ka,jb ks,z,v,rfl,B.hk,hv,by lia,w,rfl,by lia,?_⟩;refine aad (u:=v) (v:=w.turn) (by lia) ?_;show wb (Da.eq (oO v) (oO w.turn)) _ _;refine aee (fun c=>?_) fun c=>?_
    ·have hh:=ael _ _ c;refine qd hf1 (qx ate ?_);refine⟨_,EC _,?_⟩;exact⟨_,_,_,rfl,rfl,.inr ⟨i,u,z,hu,hz,hh▸hv,rfl,rfl⟩⟩
    ·refine⟨_,EC _,?_⟩;exact⟨_,_,_,rfl,rfl,.inl ⟨rfl,rfl⟩⟩
   ·refine⟨_,EC _,?_⟩;exact⟨_,_,_,rfl,rfl,.inr ⟨j,t,q0,h1,h2,h3,rfl,rfl⟩⟩
  ·rintro τ L'' ⟨v7,v8,az,rfl,rfl,fd⟩;refine⟨_,EC _,?_⟩;exact⟨_,_,_,_,rfl,rfl,fd⟩
 ·rintro τ L' ⟨v7,v8,c9,az,rfl,rfl,fd⟩;rcases fd with⟨rfl,rfl⟩ | ⟨j,u,q0,hj,hq0,hwq,rfl,rfl⟩
  case' inl=>
   refine⟨w,rfl,by lia,?_⟩;show wb (decide ((w.size:Int) > 5)) _ _;refine zu (fun c=>?_) fun c=>?_
   case' refine_1=>
    refine qd hf1 (ql hf1 ⟨big _ (by rw[lenR];lia),?_⟩);have er:zb rest++[.ref t1.a]=zb (rest++[t1]):=by unfold zb;rw[AC];rfl
    rw[er];exact vk (q _ ks (rest++[t1]) ⟨(B.perm (B5 _ _).symm).setF _,q9⟩ (by exact AZ _ _) (by simp) (by rw[Ac];simp;exact pV))
   case' refine_2=>
    refine⟨CJ L0 ka fa ks one two t1 x w rest.length,?_,?_⟩
    ·refine⟨ka,ks,w,rfl,B.hk,(by have h1:=w.depth_le;have h2:=w.size_eq;lia),(by decide),hwok,B.ok,by lia,fun ms R tp sp p hp mir=>?_⟩;refine ql q9 ?_;intro pb hpb pa hpa;have npk:ka≠p:=vt B.hk hp;have hp2:qf L' ka (.lst (jb (ks++ms))) p=none:=by rw[qb (AK npk)];exact hp
     have sA:qj (qf L' ka (.lst (jb (ks++ms)))) _:=((By hp2).trans (By hpb)).trans (By (o:=.lst [za R,.ref pb]) hpa);have nab:pb≠pa:=vt q9 hpa;have nb2:qf L' ka (.lst (jb (ks++ms))) pb=none:=(By hp2).none hpb;have na2:qf L' ka (.lst (jb (ks++ms))) pa=none:=((By hp2).trans (By hpb)).none hpa;have ea:qf (qf (qf (qf L' ka (.lst (jb (ks++ms)))) p (.lst [za R,.int (tp:Int),.int (sp:Int)])) pb (.lst [.int (tp:Int),.int (sp:Int)])) pa (.lst [za R,.ref pb]) pa=some (.lst [za R,.ref pb]):=q9;have eb:qf (qf (qf (qf L' ka (.lst (jb (ks++ms)))) p (.lst [za R,.int (tp:Int),.int (sp:Int)])) pb (.lst [.int (tp:Int),.int (sp:Int)])) pa (.lst [za R,.ref pb]) pb=some (.lst (z0 [tp,sp])):=by rw[qb nab];exact q9
     refine⟨ms,⟨pa,pb,R,[tp,sp]⟩,tp,rest,_,_,_,_,rfl,?_,sA _ _ (by rw[qb (AK B.nkf)];exact hf1),Aq ..,mir.wt,by have:=mir.len;lia,Am _⟩;generalize qf (qf (qf (qf L' ka (.lst (jb (ks++ms)))) p (.lst [za R,.int (tp:Int),.int (sp:Int)])) pb (.lst [.int (tp:Int),.int (sp:Int)])) pa (.lst [za R,.ref pb])=LF at sA ea eb;have keep:∀z o,z≠ka->L' z=some o->LF z=some o:=fun z o n e=>sA _ _ (by rw[qb n];exact e);have st:=bN.step (L':=LF) (old:=[]) (rest:=t1::rest) (ms:=ms) (t':=⟨pa,pb,R,[tp,sp]⟩) B (sA _ _ q9) ⟨ea,eb⟩ (fun t ht=>?_) (fun z o e=>?_) ?_ (fun z hz=>?_) mir.ok mir.sr ?_
     ·exact st.perm ((B5 _ _).trans (List.Perm.swap _ _ _))
     ·obtain⟨n1,n2,n3,n4⟩:=B.nk t ht;obtain⟨h1,h2⟩:=B.ht t ht;rw[h1,h2];exact⟨keep _ _ n3 h1,keep _ _ n4 h2⟩
     ·exact keep _ _ (fun z=>by rw[z,B.fr ka (by simp)] at e;cases e) (B.sub _ _ e)
     ·have:=uh (L:=qf L' ka (.lst (jb (ks++ms)))) B.ad (fun z hz=>?_) na2 nb2 (AK nab)
      ·rw[AN];simpa[Tr.ads] using this
      ·by_cases c:z=ka
       ·rw[c];exact⟨_,q9⟩
       ·rw[qb c];rcases Ap.mp hz with rfl | hz
        ·exact absurd rfl c
        ·rcases Ap.mp hz with rfl | hz
         ·exact⟨_,hf1⟩
         ·exact B.exs z hz
     ·have hz:z=pa\/z=pb:=by simpa[Tr.ads] using hz
      cases e:L0 z with
      |none=>rfl
      |some o=>
       have n:z≠ka:=fun z'=>by rw[z',B.fr ka (by simp)] at e;cases e
       have:=B.sub _ _ e;have e2:qf L' ka (.lst (jb (ks++ms))) z=some o:=by rw[qb n];exact this
       rcases hz with rfl | rfl
       ·rw[na2] at e2;cases e2
       ·rw[nb2] at e2;cases e2
     ·rw[CW,AI];exact(B6 mir.nd DX).mpr fun z=>by rw[mir.tm,Dt]
  case' inr=>
   refine⟨CJ L0 ka fa ks one two t1 x w rest.length,?_,?_⟩
   ·refine qd hf1 (ql hf1 ⟨rest.map eh,eh u,120,120,j,by decide,?_,?_,?_,⟨eh u,?_,xL u⟩,fun k d hk ek=>?_,?_⟩)
    ·have dd:∀l:List Tr,(∀t∈l,t∈t1::rest)->Paired (js L' 120) (zb l) (l.map eh):=fun l=>by
      induction l with
      |nil=>intro _;exact .nil
      |cons t r ih=>
       intro h;have mt:=h t (Aq ..);obtain⟨h1,h2⟩:=B.ht t mt;have:=B.rd mt;exact .cons (pI (n:=118) h1 h2 (by lia)) (ih fun t ht=>h t (Ag _ ht))
     exact dd rest fun t ht=>Ag _ ht
    ·have mt:u∈t1::rest:=Ag _ (AR hj);obtain⟨h1,h2⟩:=B.ht u mt;have:=B.rd mt;exact pI (n:=118) h1 h2 (by omega)
    ·rw[Ae];exact(AW.mp hj).1
    ·rw[Ar,hj];rfl
    ·rw[Ar] at ek;obtain⟨v,ev,rfl⟩:=Ay.mp ek;cases c:Da.eq (eh v) (eh u) with
     |false=>rfl
     |true=>
      have:=B.one (i:=k+1) (j:=j+1) (by simpa using ev) (by simpa using hj) (aem c);lia
    ·rw[lG];have B2:=(B.perm ((jv hj).cons _)).setF (.lst (zb (rest.eraseIdx j)));exact⟨[],u,q0,rest.eraseIdx j,_,_,_,_,rfl,(AI ks).symm▸B2,q9,hq0,(AI ks).symm▸hwq,Bk _,Dg ..⟩
  all_goals
   rintro τ' L' ⟨ms,u,q0,rest',c9,az,c11,c12,rfl,B',hf,hq0,hwq,hms,hrl⟩;have m1:t1∈t1::u::rest':=by simp
   have m2:u∈t1::u::rest':=by simp
   obtain⟨ta1,tb1⟩:=B'.ht t1 m1;obtain⟨ta2,tb2⟩:=B'.ht u m2;have le1:=ao B' m1;have le2:=ao B' m2;rw[Ac] at le1 le2;refine qd ta1 (qd ta2 ⟨_,_,tb1,tb2,cJ (by rw[Ae,Ae];omega),fun pp hpp=>?_⟩);have en:z0 t1.E++z0 u.E=z0 (t1.E++u.E):=by unfold z0;rw[AC]
   rw[en];refine aa0 (E:=t1.E++u.E) (l:=x) (r:=q0) (k:=14) q9 (by rw[Ac];omega) (fun y' Q' h=>h) (fun _=>rfl) fun pe hpe=>?_;have s4:qj L' (qf (qf L' pp (.lst (z0 (t1.E++u.E)))) pe (.lst (z0 ((t1.E++u.E).filter fun z=>!decide (z=x\/z=q0))))):=(By hpp).trans (By hpe);have he4:qf (qf L' pp (.lst (z0 (t1.E++u.E)))) pe (.lst (z0 ((t1.E++u.E).filter fun z=>!decide (z=x\/z=q0)))) pe=some (.lst (z0 (x5 t1.E u.E x q0))):=q9;have hpe':L' pe=none:=(By hpp).none hpe;generalize qf (qf L' pp (.lst (z0 (t1.E++u.E)))) pe (.lst (z0 ((t1.E++u.E).filter fun z=>!decide (z=x\/z=q0))))=L4 at s4 he4;have done:∀(R:Ru) pa,L4 pa=none->(R=.cu x q0 t1.R u.R\/R=.cu q0 x u.R t1.R)->Q .non (qf (qf L4 pa (.lst [za R,.ref pe])) fa (.lst (zb rest'++[.ref pa]))):=fun R pa hpa hR=>by
    have er:zb rest'++[.ref pa]=zb (rest'++[⟨pa,pe,R,x5 t1.E u.E x q0⟩]):=by unfold zb;rw[AC];rfl
    rw[er];exact q _ (ks++ms) (rest'++[⟨pa,pe,R,x5 t1.E u.E x q0⟩]) ⟨(ac9 B' hf hx hq0 (hw.more ms) hwq s4 hpe' he4 hpa hR).setF _,q9⟩ (by rw[Ac];omega) (by simp) (by rw[Ac];simp;omega)
   refine⟨(by show(0:Int)<2;decide),?_⟩;show wb (decide (one % 2=0)) _ _;refine zu (fun c=>?_) fun c=>?_
   ·refine qd (s4 _ _ hf) (qd (s4 _ _ ta1) (qd (s4 _ _ ta2) fun pa hpa=>?_));refine ql (By hpa _ _ (s4 _ _ hf)) ⟨big _ (by rw[lenR];omega),?_⟩;exact vk (done _ pa hpa (.inl rfl))
   ·refine qd (s4 _ _ hf) (qd (s4 _ _ ta2) (qd (s4 _ _ ta1) fun pa hpa=>?_));refine ql (By hpa _ _ (s4 _ _ hf)) ⟨big _ (by rw[lenR];omega),?_⟩;exact vk (done _ pa hpa (.inr rfl))
def aja(p0:xw)(p1:xw)(p2:xw)(p3:xw)(p4:xw):w6:=(qw (zp (vj qy) (qh 3))
 (qw (zp (vj qy) (qh 4))
 (qw (fO (fU (qa 0)) (kz 2 (zh (qh 5) (zh (qh 6) k7))) (qw (aiz 7 8 (qe (zo p0 (qe (qa 6) (wn (qa 5) (j5 48271)))) (qe (zo p0 (qe (qa 6) (wn (qa 5) (j5 69621)))) qy)))
 (qw (x6 (yB (zg yGt (zg xj (zg xj (cN 3) (cN 4)) (j5 12)) (qa 2))) ag4 jr)
 (qw (zp (zg vf (qa 7) (j5 9)) (qh 9))
 (qw (zp (zg aU (qa 7) (j5 9)) (qh 7))
 (x6 (yOr (yB (zg yLt (qa 9) (j5 3))) (dG (qa 4) (vj qy))) (qw (jd (aG zk (qa 3) (qe (va (qe (eU "plain") (qe (zo p1 (qe (qa 1) (qe (zg vf (qa 8) (j5 3)) qy))) qy))) qy)))
 (qw (jd (aG zk (qa 3) (qe (va (qe (eU "turned") (qe (zo p1 (qe (qa 1) (qe (zg vf (qa 8) (j5 3)) qy))) qy))) qy)))
 (cL (x6 (dG (zg vf (qa 7) (j5 2)) (j5 1)) (jd (aG zk (qa 3) (qe (aG cT (qa 3) (qe (zg gf (cN 3) (j5 2)) qy)) qy))) jr)
 (qw (zp (zg gf (cN 3) (j5 2)) (qh 10))
 (jd (aG zk (qa 4) (qe (vj (qe (va (qe (eU "link") (qe (qa 10) (qe (zg xj (qa 10) (j5 1)) qy)))) (qe (vj (qe (qa 10) (qe (zg xj (qa 10) (j5 1)) qy))) qy))) qy))))))) (x6 (yB (zg yLt (qa 9) (j5 6))) (jd (zo p2 (qe (qa 3) (qe (zg bO (qa 4) (zg vf (qa 8) (cN 4))) (qe (qa 7) (qe (zg aU (qa 8) (j5 64)) qy)))))) (x6 (dY (yB (zg yLt (qa 9) (j5 8))) (yB (zg yGt (cN 4) (j5 1)))) (jd (zo p3 (qe (qa 3) (qe (qa 4) (wn (qa 7) (qa 8)))))) (jd (zo p4 (qe (qa 3) (qe (qa 4) (wn (qa 7) (qa 8))))))))))))))
 (cL (x6 (dG (qa 4) (vj qy)) (qw (jd (aG zk (qa 3) (qe (va (qe (eU "turned") (qe (zo p1 (wn (qa 1) (j5 0))) qy))) qy)))
 (qw (jd (aG zk (qa 3) (qe (va (qe (eU "plain") (qe (zo p1 (wn (qa 1) (j5 0))) qy))) qy)))
 (jd (aG zk (qa 4) (qe (vj (qe (va (qe (eU "link") (wn (j5 0) (j5 1)))) (qe (vj (wn (j5 0) (j5 1))) qy))) qy))))) jr)
 (qw (o9 (yB (zg yGt (cN 4) (j5 1))) (jd (zo p3 (qe (qa 3) (qe (qa 4) (qe (zg xj (zg aU (qa 1) (j5 7)) (cN 4)) (qe (zg aU (qa 1) (j5 3)) qy)))))))
 (x0 (va (qe (qa 3) (qe (zg bO (x8 4 0) (j5 0)) qy)))))))))
theorem lw.mono(h:lw L0 L ka fa ks fo)(s:qj L L'):lw L0 L' ka fa ks fo:=⟨h.b.mono s,s _ _ h.hf⟩
theorem bN.plus{LF:qm}{ms:List Kn}{t':Tr}{fs:LO}(B:bN L0 L ka fa ks rest)(hf:L fa=some fs)(sA:qj (qf L ka (.lst (jb (ks++ms)))) LF)(ea:LF t'.a=some (.lst [za t'.R,.ref t'.b]))(eb:LF t'.b=some (.lst (z0 t'.E)))
 (na2:qf L ka (.lst (jb (ks++ms))) t'.a=none) (nb2:qf L ka (.lst (jb (ks++ms))) t'.b=none) (nab:t'.a≠t'.b) (ok:ak (ks++ms)) (sr:SR (ks++ms) t'.R t'.E) (tm:∀x,x∈zr t'.R↔ks.length≤x/\x<ks.length+ms.length) (nd:(zr t'.R).Nodup):
 bN L0 LF ka fa (ks++ms) (rest++[t']):=by
 have keep:∀z o,z≠ka->L z=some o->LF z=some o:=fun z o n e=>sA _ _ (by rw[qb n];exact e);refine bN.step (old:=[]) (rest:=rest) (ms:=ms) (t':=t') B (sA _ _ q9) ⟨ea,eb⟩ (fun t ht=>?_) (fun z o e=>?_) ?_ (fun z hz=>?_) ok sr ?_
 ·obtain⟨n1,n2,n3,n4⟩:=B.nk t ht;obtain⟨h1,h2⟩:=B.ht t ht;rw[h1,h2];exact⟨keep _ _ n3 h1,keep _ _ n4 h2⟩
 ·exact keep _ _ (fun z=>by rw[z,B.fr ka (by simp)] at e;cases e) (B.sub _ _ e)
 ·have:=uh (L:=qf L ka (.lst (jb (ks++ms)))) B.ad (fun z hz=>?_) na2 nb2 nab
  ·rw[AN];simpa[Tr.ads] using this
  ·by_cases c:z=ka
   ·rw[c];exact⟨_,q9⟩
   ·rw[qb c];rcases Ap.mp hz with rfl | hz
    ·exact absurd rfl c
    ·rcases Ap.mp hz with rfl | hz
     ·exact⟨_,hf⟩
     ·exact B.exs z hz
 ·have hz:z=t'.a\/z=t'.b:=by simpa[Tr.ads] using hz
  cases e:L0 z with
  |none=>rfl
  |some o=>
   have n:z≠ka:=fun z'=>by rw[z',B.fr ka (by simp)] at e;cases e
   have:=B.sub _ _ e;have e2:qf L ka (.lst (jb (ks++ms))) z=some o:=by rw[qb n];exact this
   rcases hz with rfl | rfl
   ·rw[na2] at e2;cases e2
   ·rw[nb2] at e2;cases e2
 ·rw[CW,AI];exact(B6 nd DX).mpr fun z=>by rw[tm,Dt]
theorem lw.link(F:lw L0 L ka fa ks fo){nm:Str}(hn:eI nm)(b:Bool){pb:Addr}(hb:qf L ka (.lst (jb (ks++[.lf b nm,.lf (!b) nm]))) pb=none)
 (ha:qf (qf L ka (.lst (jb (ks++[.lf b nm,.lf (!b) nm])))) pb (.lst (z0 [ks.length,ks.length+1])) pa=none) {fs:List Y} (hfs:fs=zb fo++[.ref pa]):
 lw L0 (qf (qf (qf (qf L ka (.lst (jb (ks++[.lf b nm,.lf (!b) nm])))) pb (.lst (z0 [ks.length,ks.length+1]))) pa (.lst [za (.link ks.length (ks.length+1)),.ref pb])) fa (.lst fs)) ka fa (ks++[.lf b nm,.lf (!b) nm]) (fo++[⟨pa,pb,.link ks.length (ks.length+1),[ks.length,ks.length+1]⟩]):=by
 have nab:pb≠pa:=vt q9 ha;have M:=rH F.b.ok (t:=!b) hn;rw[Bool.not_not] at M;refine⟨(bN.plus F.b F.hf ((By hb).trans (By ha)) q9 (by rw[qb nab];exact q9) ((By hb).none ha) hb (AK nab) M.ok M.sr M.tm M.nd).setF _,?_⟩;rw[q9,hfs];unfold zb;rw[AC];rfl
theorem bN.dats(h:bN L0 L ka fa ks fo)(hl:ks.length≤120):Paired (js L 124) (zb fo) (fo.map eh):=by
 have dd:∀l:List Tr,(∀t∈l,t∈fo)->Paired (js L 124) (zb l) (l.map eh):=fun l=>by
  induction l with
  |nil=>intro _;exact .nil
  |cons t r ih=>
   intro k;have mt:=k t (Aq ..);obtain⟨h1,h2⟩:=h.ht t mt;have:=h.rd mt;exact .cons (pI (n:=122) h1 h2 (by lia)) (ih fun t ht=>k t (Ag _ ht))
 exact dd fo fun t ht=>ht
theorem vP(fo:List Tr):Da.eqs (fo.map eh) []=decide (fo=[]):=by cases fo<;>rfl
def oV:xw:=fun ys L Q=>∃cy,∃ns:List Int,∃s:Int,∃room:Nat,ys=[cy,.int s,.int (room:Int)]/\cy=.sq (ns.map Y.int)/\ns.length≤1000/\room≤120/\
 ∀ka ks R E,L ka=none->ak ks->SR ks R E->(zr R).Perm (List.range ks.length)->ks.length≤max room 2->Q (.tup [.ref ka,za R]) (qf L ka (.lst (jb ks)))
def TW(L0:qm)(ka fa:Addr)(s:Int)(room:Nat)(τ:jj)(L:qm):Prop:=∃c0 c5 c6 c7 c8 c9 az ks fo,τ=[c0,some (.int s),some (.int (room:Int)),some (.ref ka),some (.ref fa),c5,c6,c7,c8,c9,az]/\lw L0 L ka fa ks fo/\ks.length+fo.length≤room
theorem TW.of{s:Int}{room:Nat}{c0 c5 c6 c7 c8 c9 az:Option Y}(F:lw L0 L ka fa ks fo)(h:ks.length+fo.length≤room):TW L0 ka fa s room [c0,some (.int s),some (.int (room:Int)),some (.ref ka),some (.ref fa),c5,c6,c7,c8,c9,az] L:=⟨_,_,_,_,_,_,_,ks,fo,rfl,F,h⟩
theorem ad1:∀ys L Q,oV ys L Q->k6 (aja cq kG lI oJ ou) 11 ys L Q:=by
 rintro ys L Q ⟨cy,ns,s,room,rfl,hcy,hns,hroom,q⟩;have big:=bg_;have lenR:∀fo:List Tr,(zb fo).length=fo.length:=fun fo=>Ae ..;have lenK:∀ks:List Kn,(jb ks).length=ks.length:=fun ks=>Ae ..;intro ka hka fa hfa;have nkf:ka≠fa:=vt q9 hfa;have hfa':L fa=none:=(By hka).none hfa;have F0:lw L (qf (qf L ka (.lst [])) fa (.lst [])) ka fa [] []:=by
  refine⟨⟨by rw[qb nkf];exact q9,fun t ht=>by simp at ht,fun t ht=>by simp at ht,by simp,by simp,by simp[nkf],fun p k e=>by simp at e,(By hka).trans (By hfa),fun x hx=>?_⟩,q9⟩;rcases Ap.mp hx with rfl | hx
  ·exact hka
  ·rw[AB.mp hx];exact hfa'
 generalize qf (qf L ka (.lst [])) fa (.lst [])=L1 at F0;subst hcy
 all_goals
  refine wo ⟨fun _ τ L'=>TW L ka fa s room τ L',?_,?_,?_,?_⟩
  ·exact TW.of F0 (Bk _)
  ·rintro i τ L' ⟨c0,c5,c6,c7,c8,c9,az,ks,fo,rfl,F,hb⟩;exact True.intro
  ·rintro i y τ L' ey ⟨c0,c5,c6,c7,c8,c9,az,ks,fo,rfl,F,hb⟩;obtain⟨z,ez,rfl⟩:=dm ey;obtain⟨cell,ec,rfl⟩:∃cell:Int,ns[i]?=some cell/\z=Y.int cell:=by rw[Ar] at ez;obtain⟨z,e1,e2⟩:=Ay.mp ez;exact⟨z,e1,e2.symm⟩
   have hi:=(AW.mp ec).1;refine⟨cell,((i:Nat):Int),48271,rfl,by exact AX _,by omega,by decide,by decide,fun one h1 h1'=>⟨cell,((i:Nat):Int),69621,rfl,by exact AX _,by omega,by decide,by decide,fun two h2 h2'=>?_⟩⟩;refine qd F.b.hk (qd F.hf ?_);refine zu (fun c=>?_) fun c=>?_
   ·exact⟨_,EC _,TW.of F hb⟩
   have c:¬((((jb ks).length:Nat):Int)+(((zb fo).length:Nat):Int)+12 > (room:Int)):=c;rw[lenK,lenR] at c;refine⟨(by decide:(0:Int)<9),⟨by decide,by decide⟩,?_⟩;refine zu (fun c3=>?_) fun c3=>?_
   case' refine_1=>
    obtain⟨L2,eL2⟩:∃L2,L2=L':=⟨_,rfl⟩;rw[<-eL2];have F':lw L L2 ka fa ks fo:=by rw[eL2];exact F
   case' refine_2=>
    intro p hp;refine cA (by decide) (By hp _ _ F.hf) q9 ((F.b.mono (By hp)).dats (by lia)) (.nil:Paired (js _ 0) _ []) ?_;show wb (Da.eqs (fo.map eh) []) _ _;rw[vP];have F':lw L (qf L' p (.lst [])) ka fa ks fo:=F.mono (By hp);generalize qf L' p (.lst [])=L2 at F';refine zu (fun c0=>?_) fun c0=>?_
   case' refine_2.refine_2=>
    have hfo:0<fo.length:=by cases fo with | nil=>exact absurd rfl c0 | cons _ _=>simp
    have F:=F';refine zu (fun c6=>?_) fun c6=>?_
    ·obtain⟨j,t,ej,lj,et⟩:=gu hfo two;refine qd F.hf ⟨(by show(0:Int)<((zb fo).length:Int);rw[lenR];lia),qd F.hf (qx (v:=.ref t.a) (by show gc (zb fo) (two % ((zb fo).length:Int))=_;rw[lenR,ej];exact w5 (by unfold zb;rw[Ar,et];rfl)) ?_)⟩;obtain⟨pre,post,ep⟩:=DQ (AR et);rw[ep] at F hb;refine⟨⟨by decide,by decide⟩,L,ka,fa,ks,pre,post,t,one / 9,two / 64,rfl,F,by lia,fun L3 ks' fo' F3 h1 h2=>?_⟩;refine⟨_,EC _,?_⟩;exact TW.of F3 (by rw[ep] at c;lia)
    refine zu (fun c8=>?_) fun c8=>?_
    ·refine qd F.hf ?_;refine zu (fun c1=>?_) fun c1=>?_
     ·have c1:(((zb fo).length:Nat):Int) > 1:=c1;rw[lenR] at c1;refine⟨L,ka,fa,ks,fo,one / 9,two,rfl,F,by lia,by lia,by lia,fun L3 ks' fo' F3 h1 h2=>?_⟩;refine⟨_,EC _,?_⟩;exact TW.of F3 (by lia)
     ·refine⟨L,ka,fa,ks,fo,one / 9,two,rfl,F,by assumption,by lia,by lia,fun L3 ks' fo' F3 h1 h2 h3=>?_⟩;refine⟨_,EC _,?_⟩;exact TW.of F3 (by lia)
    ·refine⟨L,ka,fa,ks,fo,one / 9,two,rfl,F,by lia,by lia,by lia,fun L3 ks' fo' F3 h1 h2 h3=>?_⟩;refine⟨_,EC _,?_⟩;exact TW.of F3 (by lia)
   all_goals
    obtain⟨nm,enm⟩:∃nm,nm=mkS (aN s (two % 3)):=⟨_,rfl⟩;have hnm:eI nm:=by rw[enm];exact rW _ _
    refine qd F'.b.hk ⟨(by decide:(0:Int)<3),s,two % 3,rfl,ql F'.b.hk ⟨big _ (by rw[lenK];omega),?_⟩⟩;refine qd q9 ⟨(by decide:(0:Int)<3),s,two % 3,rfl,ql q9 ⟨big _ (by rw[Ac,lenK];simp;omega),?_⟩⟩;rw[<-enm,wm];have e1:(jb ks++[.tup [.str "plain",.str nm]])++[.tup [.str "turned",.str nm]]=jb (ks++[.lf false nm,.lf true nm]):=by unfold jb;rw[AC,Aw];rfl
    rw[e1];refine⟨fun τ L3=>∃(b:Bool) (d0 d10:Option Y),τ=[d0,some (.int s),some (.int (room:Int)),some (.ref ka),some (.ref fa),some (.int ((i:Nat):Int)),some (.int cell),some (.int (one / 9)),some (.int two),some (.int (one % 9)),d10]/\L3=qf L2 ka (.lst (jb (ks++[.lf b nm,.lf (!b) nm]))),?_,?_⟩
    ·refine⟨(by decide:(0:Int)<2),?_⟩;show wb (decide (one / 9 % 2=1)) _ _;refine zu (fun c2=>?_) fun c2=>?_
     ·have l2:(jb (ks++[Kn.lf false nm,.lf true nm])).length=ks.length+2:=by rw[lenK,Ac];rfl
      have t2:((((jb (ks++[Kn.lf false nm,.lf true nm])).length:Nat):Int) - 2).toNat=ks.length:=by rw[l2];omega
      refine qd q9 (qd q9 (qd q9 (ql q9 ⟨?_,?_,qx (v:=uH (.lf false nm)) ?_ ?_⟩)))
      ·show(0:Int)≤(((jb (ks++[Kn.lf false nm,.lf true nm])).length:Nat):Int) - 2;rw[l2];omega
      ·show(((jb (ks++[Kn.lf false nm,.lf true nm])).length:Nat):Int) - 2<_;omega
      ·show(jb (ks++[Kn.lf false nm,.lf true nm]))[((((jb (ks++[Kn.lf false nm,.lf true nm])).length:Nat):Int) - 2).toNat]?=_;rw[t2];unfold jb;rw[Ar,cX];rfl
      ·rw[wm];refine ql q9 ⟨big _ ?_,?_⟩
       ·refine AU (Dg ..) ?_;show(jb (ks++[Kn.lf false nm,.lf true nm])).length≤20000;rw[l2];omega
       ·refine⟨true,_,_,rfl,?_⟩;rw[wm];have e3:(jb (ks++[Kn.lf false nm,.lf true nm])).eraseIdx ((((jb (ks++[Kn.lf false nm,.lf true nm])).length:Nat):Int) - 2).toNat++[uH (.lf false nm)]=jb (ks++[.lf true nm,.lf false nm]):=by rw[t2];unfold jb;rw[AC,Dj (by simp),Ae,CF,AC,Aw];rfl
        rw[e3];rfl
     ·exact⟨false,_,_,rfl,rfl⟩
    ·rintro τ3 L3 ⟨b,d0,d10,rfl,rfl⟩;have l2:(jb (ks++[Kn.lf b nm,.lf (!b) nm])).length=ks.length+2:=by rw[lenK,Ac];rfl
     have nn:(((jb (ks++[Kn.lf b nm,.lf (!b) nm])).length:Nat):Int) - 2=((ks.length:Nat):Int):=by rw[l2];omega
     have hf3:qf L2 ka (.lst (jb (ks++[.lf b nm,.lf (!b) nm]))) fa=some (.lst (zb fo)):=by rw[qb (AK nkf)];exact F'.hf
     have en:∀z:Int,z=((ks.length:Nat):Int)->z0 [ks.length,ks.length+1]=[.int z,.int (z+1)]:=fun z e=>by rw[e];rfl
     have er:∀z:Int,z=((ks.length:Nat):Int)->za (.link ks.length (ks.length+1))=.tup [.str "link",.int z,.int (z+1)]:=fun z e=>by rw[e];rfl
     have en:=en _ nn;have er:=er _ nn;refine qd q9 (qd hf3 fun pb hpb pa hpa=>?_);have H:=F'.link hnm b (pb:=pb) (pa:=pa) hpb (by rw[en];exact hpa) rfl;refine ql (((By hpb).trans (By hpa)) _ _ hf3) ⟨big _ (by rw[lenR];omega),?_⟩;rw[en,er] at H;refine⟨_,EC _,?_⟩;exact TW.of H (by rw[Ac,Ac];simp;omega)
  ·rintro τ L' ⟨c0,c5,c6,c7,c8,c9,az,ks,fo,rfl,F,hb⟩;refine⟨fun τ L3=>∃c0 c5 c6 c7 c8 c9 az ks fo,τ=[c0,some (.int s),some (.int (room:Int)),some (.ref ka),some (.ref fa),c5,c6,c7,c8,c9,az]/\lw L L3 ka fa ks fo/\1≤fo.length/\ks.length+fo.length≤max room 3,?_,?_⟩
   ·intro p hp;refine cA (by decide) (By hp _ _ F.hf) q9 ((F.b.mono (By hp)).dats (by lia)) (.nil:Paired (js _ 0) _ []) ?_;show wb (Da.eqs (fo.map eh) []) _ _;rw[vP];have F':lw L (qf L' p (.lst [])) ka fa ks fo:=F.mono (By hp);generalize qf L' p (.lst [])=L2 at F';refine zu (fun c0=>?_) fun c0=>?_
    ·subst c0;have k0:ks=[]:=by cases ks with|nil=>rfl|cons k r=>exact absurd ((F.b.tm 0).mpr (by simp)) (by simp)
     subst k0;obtain⟨nm,enm⟩:∃nm,nm=mkS (aN s 0):=⟨_,rfl⟩;have hnm:eI nm:=by rw[enm];exact rW _ _
     refine qd F'.b.hk ⟨s,0,rfl,ql F'.b.hk ⟨big _ (by decide),?_⟩⟩;refine qd q9 ⟨s,0,rfl,ql q9 ⟨big _ (by show 1≤20000;decide),?_⟩⟩;rw[<-enm,wm];have hf3:∀o,qf L2 ka o fa=some (.lst (zb [])):=fun o=>by rw[qb (AK nkf)];exact F'.hf
     refine qd (hf3 _) fun pb hpb pa hpa=>?_;have H:=F'.link hnm true (pb:=pb) (pa:=pa) hpb hpa rfl;refine ql (((By hpb).trans (By hpa)) _ _ (hf3 _)) ⟨big _ (by show 0≤20000;decide),?_⟩;exact⟨_,_,_,_,_,_,_,_,_,rfl,H,by simp,by simp;lia⟩
    ·exact⟨_,_,_,_,_,_,_,ks,fo,rfl,F',(by cases fo with | nil=>exact absurd rfl c0 | cons _ _=>simp),by lia⟩
   ·rintro τ L' ⟨c0,c5,c6,c7,c8,c9,az,ks,fo,rfl,F,h1,hb⟩;refine⟨fun m τ L3=>∃c0 c5 c6 c7 c8 c9 az ks fo,τ=[c0,some (.int s),some (.int (room:Int)),some (.ref ka),some (.ref fa),c5,c6,c7,c8,c9,az]/\lw L L3 ka fa ks fo/\1≤fo.length/\fo.length=m/\ks.length+fo.length≤max room 3,⟨_,_,_,_,_,_,_,_,_,_,rfl,F,h1,rfl,hb⟩,?_⟩;rintro m τ L' ⟨c0,c5,c6,c7,c8,c9,az,ks,fo,rfl,F,h1,hm,hb⟩;refine qd F.hf ?_;refine zu (fun c1=>?_) fun c1=>?_
    ·have c1:(((zb fo).length:Nat):Int) > 1:=c1;rw[lenR] at c1;refine⟨fun τ L3=>∃c0 c5 c6 c7 c8 c9 az ks fo,τ=[c0,some (.int s),some (.int (room:Int)),some (.ref ka),some (.ref fa),c5,c6,c7,c8,c9,az]/\lw L L3 ka fa ks fo/\1≤fo.length/\fo.length+1=m/\ks.length+fo.length≤max room 3,?_,?_⟩
     ·rintro τ L3 ⟨d0,d5,d6,d7,d8,d9,d10,ks',fo',rfl,F3,g1,g2,g3⟩;exact⟨m - 1,by lia,_,_,_,_,_,_,_,_,_,rfl,F3,g1,by lia,g3⟩
     ·refine⟨⟨by decide,by decide⟩,qd F.hf ⟨⟨by decide,by decide⟩,L,ka,fa,ks,fo,_,_,rfl,F,by lia,by lia,by lia,fun L3 ks' fo' F3 g1 g2=>?_⟩⟩;exact⟨_,EC _,_,_,_,_,_,_,_,ks',fo',rfl,F3,by lia,by lia,by lia⟩
    ·have c1:¬((((zb fo).length:Nat):Int) > 1):=c1;rw[lenR] at c1;obtain⟨t,rfl⟩:∃t,fo=[t]:=by
      match fo,h1,c1 with
      |[t],_,_=>exact⟨t,rfl⟩
      |t::u::r,_,c=>exact absurd (show(((t::u::r).length:Nat):Int) > 1 by simp;lia) c
     have ta:=(F.b.ht t (Aq ..)).1;refine qd F.hf (qd ta ?_);refine si (qj.put F.b.sub F.b.hk) (q ka ks t.R t.E hka F.b.ok (F.b.sr t (Aq ..)) ?_ ?_)
     ·have nd:=F.b.nd;have tm:=F.b.tm;simp at nd tm;exact(B6 nd CV).mpr fun x=>by rw[tm,Bv]
     ·simp at hb;lia
def kI(p q:Nat×Nat):Prop:=p.1<q.1\/(p.1=q.1/\p.2≤q.2)
def sj(p:Nat×Nat):Int×Int:=((p.1:Int),(p.2:Int))
theorem yK{p q:Nat×Nat}(h:sj p=sj q):p=q:=by obtain⟨a,b⟩:=p;obtain⟨c,d⟩:=q;have h1:(a:Int)=c:=BC Prod.fst h;have h2:(b:Int)=d:=BC Prod.snd h;rw[CK.mp h1,CK.mp h2]
theorem qK(ps:List (Nat×Nat)):qr ps=(ps.map sj).map prY:=by rw[BR];rfl
theorem sS{a:Addr}{ps:List (Nat×Nat)}{Q:YK}(ha:L a=some (.lst (qr ps)))(hb:∀p∈ps,p.2<1000000)(nd:ps.Nodup)(hl:ps.length≤100000)
 (q:∀D qs,L D=none->qs.Perm ps->qs.Pairwise kI->Q (.ref D) (qf L D (.lst (qr qs)))):cZ [.ref a] L Q:=by
 refine ql ha ⟨ps.map sj,qK ps,fun p hp=>?_,?_,by rw[Ae];exact hl,fun D qs hD pm pw=>?_⟩
 ·obtain⟨r,hr,rfl⟩:=BI.mp hp;have:=hb r hr;exact⟨AX _,by show((r.2:Nat):Int)<1000000;omega⟩
 ·exact dc (fun x _ y _ e=>yK e) nd
 ·obtain⟨T,pT,rfl⟩:=mZ sj pm rfl;rw[<-qK];refine q D T hD pT ((Co.mp pw).imp fun {x y} z=>?_);unfold kI;rcases z with z | ⟨z1,z2⟩
  ·left;have z:((x.1:Nat):Int)<y.1:=z;lia
  ·right;have z1:((x.1:Nat):Int)=y.1:=z1;have z2:((x.2:Nat):Int)≤y.2:=z2;exact⟨by lia,by lia⟩
theorem sH{m:Nat×Nat->Nat×Nat}{keep:qm->Prop}{Q:YK}(hz:lk.length≤1000)(hk:keep L)
 (turn:∀(i:Nat) (pr:Nat×Nat) (R:List Y->qm->Prop) zs,lk[i]?=some pr->R (zs++[mO (m pr)]) L->g (mO pr) (τ++List.replicate 2 none) L fun τ2 L2=>tc τ2 L2 fun b L3=>wb b (te τ2 L3 fun z L4=>R (zs++[z]) L4) (R zs L3))
 (hq:∀p,L p=none->Q (.ref p) (qf L p (.lst (qr (lk.map m))))):vM (qr lk) keep 2 g tc te τ L Q:=by
 refine du (fun i zs=>zs=qr ((lk.take i).map m)) (by rw[Ae];exact Bw hz (by decide)) hk rfl ?_ ?_
 ·rintro i y zs ey rfl;rw[Ar] at ey;obtain⟨pr,ek,rfl⟩:=Ay.mp ey;refine turn i pr _ _ ek ⟨L,EC _,rfl,?_⟩;rw[BD,ek,AC];show _=(_++_:List (Nat×Nat)).map mO;rw[AC];rfl
 ·rintro zs rfl p hp;rw[Ae,BK];exact hq p hp
structure uM(L0:qm)(ks:List (Option Kn))(qs:List Nat)(d w D:Addr)(i ex:Nat)(f:Nat->Nat)(wd:List (Option Kn))(kvs:List (jo×Y))(L:qm):Prop where
 sub:qj L0 L
 hd:L d=some (.dct kvs)
 hw:L w=some (.lst (dI wd))
 hD:L D=some (.lst (nY qs))
 len:kvs.length≤i
 val:∀p:Nat,aF kvs (.inl (p:Int))=if p∈qs.take i then some (.int ((f p:Nat):Int)) else none
 gap:qA ks (qs.take i) f wd
 wlen:wd.length≤2*i+ex
def mmP(f:Nat->Nat)(p:Nat×Nat):Nat×Nat:=(min (f p.1) (f p.2),max (f p.1) (f p.2))
def ppP(f:Nat->Nat)(p:Nat×Nat):Nat×Nat:=(f p.1,f p.2)
structure Ren(f:Nat->Nat)(ks wd:List (Option Kn)):Prop where
 gap:qA ks (List.range ks.length) f wd
 len:wd.length≤2*ks.length+1
def iL(Pt:Addr):xw:=fun ys L Q=>∃a l c,∃ks:List (Option Kn),∃lk ct:List (Nat×Nat),∃s:Int,∃b:Bool,ys=[.ref a,.ref l,.ref c,.int s,.bl b]/\L a=some (.lst (dI ks))/\L l=some (.lst (qr lk))/\L c=some (.lst (qr ct))/\yn ks/\ks.length≤400/\L Pt=some (.tb lamQ)/\
 lk.Nodup/\(∀p∈lk,p.1<p.2/\p.2<ks.length)/\lk.length≤1000/\ct.Nodup/\(∀p∈ct,p.1<ks.length/\p.2<ks.length)/\ct.length≤1000/\
 ∀f wd lk' ct' wa la ca L',Ren f ks wd->lk'.Perm (lk.map (mmP f))->lk'.Pairwise kI->ct'.Perm (ct.map (ppP f))->ct'.Pairwise kI->qj L L'->L wa=none->L la=none->L ca=none->wa≠la->wa≠ca->la≠ca->L' wa=some (.lst (dI wd))->L' la=some (.lst (qr lk'))->L' ca=some (.lst (qr ct'))->Q (fj wa la ca) L'
theorem ff(wd:List (Option Kn))(k:Option Kn):dI wd++[e9 k]=dI (wd++[k]):=by unfold dI;rw[AC];rfl
theorem aa(wd:List (Option Kn)):(dI wd).length=wd.length:=Ae ..
theorem uM.wide{ks:List (Option Kn)}{d w D:Addr}{ex ex':Nat}{f:Nat->Nat}{wd':List (Option Kn)}{kvs:List (jo×Y)}(G:uM L0 ks qs d w D i ex f wd kvs L)(h0:L0 w=none)(ndw:d≠w)(nwD:w≠D)(g:qA ks (qs.take i) f wd')(h:wd'.length≤2*i+ex'):
 uM L0 ks qs d w D i ex' f wd' kvs (qf L w (.lst (dI wd'))):=
 ⟨G.sub.upd h0,(qb ndw).trans G.hd,q9,(qb (AK nwD)).trans G.hD,G.len,G.val,g,h⟩
theorem qA.gaps{ks:List (Option Kn)}{ps:List Nat}{f:Nat->Nat}(h:qA ks ps f wd):∀n,qA ks ps f (wd++List.replicate n none)
 |0=>by rw[List.replicate_zero,AI];exact h
 |n+1=>by rw[List.replicate_succ',<-Aw];exact(h.gaps n).gap
theorem alp{a b c:Nat}(h1:min a b=min c d)(h2:max a b=max c d):(a=c/\b=d)\/(a=d/\b=c):=by lia
theorem xP :∀ys L Q,iL Pt ys L Q->k6 (mG (lZ Pt) cq) 9 ys L Q:=by
 rintro ys L Q ⟨a,l,c,ks,lk,ct,s,b,rfl,ha,hl,hc,ok,hz,hP,nd1,hlk,hz1,nd2,hct,hz2,q⟩;have big:=bg_;intro d hd w hw;have hw0:L w=none:=xr hw;have ndw:d≠w:=vt q9 hw;have s0:qj L (qf (qf L d (.dct [])) w (.lst [])):=(By hd).trans (By hw);refine⟨a,ks,s,rfl,s0 _ _ ha,ok,by exact dO,s0 _ _ hP,fun D qs hD pm pf=>?_⟩;have hD0:L D=none:=xr (xr hD);have nwD:w≠D:=vt q9 hD;have ndD:d≠D:=vt ((qb ndw).trans q9) hD;have lq:qs.length=ks.length:=by rw[pm.length_eq,BN]
 have ndq:qs.Nodup:=pm.nodup_iff.mpr CV;have mq:∀p∈qs,p<ks.length:=fun p hp=>Bv.mp (pm.mem_iff.mp hp);have G0:uM L ks qs d w D 0 0 (fun _=>0) [] [] (qf (qf (qf L d (.dct [])) w (.lst [])) D (.lst (nY qs))):=
  ⟨s0.trans (By hD),(qb ndD).trans ((qb ndw).trans q9),(qb nwD).trans q9,q9,Am _,fun p=>rfl,qA.nil _ _,Am _⟩
 refine xh q9 fun keep kp=>wo ⟨fun i τ L'=>∃f wd kvs c7 c8,τ=[some (Y.ref a),some (Y.ref l),some (Y.ref c),some (.int s),some (.bl b),some (Y.ref d),some (Y.ref w),c7,c8]/\uM L ks qs d w D i 0 f wd kvs L',⟨_,_,_,_,_,rfl,G0⟩,?_,?_,?_⟩
 ·rintro i τ L' ⟨f,wd,kvs,c7,c8,rfl,G⟩;exact kp L' (by rw[G.hD,q9])
 ·rintro i y τ L' hy ⟨f,wd,kvs,c7,c8,rfl,G⟩;obtain⟨p,ep,rfl⟩:=tZ hy;have hi:=xg ep;have hp:p<ks.length:=mq p (AR ep);obtain⟨k,hk⟩:∃k,ks[p]?=some k:=⟨_,Al hp⟩;have pn:p∉qs.take i:=fun hm=>by
   have e2:qs=qs.take i++p::qs.drop (i+1):=by rw[Al hi] at ep;rw[<-Bc ep,Ds,Bg]
   have nd:=ndq;rw[e2] at nd;exact(AH.mp nd).2.2 p hm p (Aq ..) rfl
  have et:qs.take (i+1)=qs.take i++[p]:=by rw[BD,ep];rfl
  refine⟨fun τ' L1=>∃wd',τ'=[some (Y.ref a),some (Y.ref l),some (Y.ref c),some (.int s),some (.bl b),some (Y.ref d),some (Y.ref w),some (.int (p:Nat)),c8]/\uM L ks qs d w D i 1 f wd' kvs L1,?_,?_⟩
  ·have plain:uM L ks qs d w D i 1 f wd kvs L':=⟨G.sub,G.hd,G.hw,G.hD,G.len,G.val,G.gap,by have:=G.wlen;exact ahu⟩;cases b with
   |false=>exact⟨wd,rfl,plain⟩
   |true=>
    refine⟨s,(p:Nat),40692,rfl,by exact AX _,by omega,by decide,by decide,fun v h0 h1=>?_⟩;refine⟨show(0:Int)<3 by decide,?_⟩;refine zu (fun g=>?_) fun g=>⟨wd,rfl,plain⟩;refine qd G.hw (ql G.hw ⟨by rw[aa];have:=G.wlen;exact big _ (by lia),?_⟩);refine⟨wd++[none],rfl,?_⟩;have:=G.wide (wd':=wd++[none]) (ex':=1) hw0 ndw nwD G.gap.gap (by rw[Ac];have:=G.wlen;show wd.length+1≤_;exact xK);rw[<-ff] at this;exact this
  ·rintro τ' L1 ⟨wd',rfl,G1⟩;have hpar:∀e i' j',k=some (.nd e i' j')->i'∈qs.take i/\j'∈qs.take i:=fun e i' j' z=>lB ok pm pf ep (by rw[hk,z]);have hpar2:∀x∈qs.take i,∀e i' j',ks[x]?=some (some (.nd e i' j'))->i'∈qs.take i/\j'∈qs.take i:=fun x hx e i' j' z=>by
    obtain⟨n,hn⟩:=List.getElem?_of_mem hx;have hn2:=xg hn;rw[AL] at hn2;rw[DZ (by lia)] at hn;obtain⟨h1,h2⟩:=lB ok pm pf hn z;have sb:∀y,y∈qs.take n->y∈qs.take i:=fun y hy=>by
     have:qs.take n=(qs.take i).take n:=by rw[List.take_take,BW (by lia)]
     rw[this] at hy;exact Bz hy
    exact⟨sb _ h1,sb _ h2⟩
   have vp:∀y:Nat,aF (mE kvs (.inl (p:Int)) (.int ((wd'.length:Nat):Int))) (.inl (y:Int))=if y∈qs.take i++[p] then some (.int (((if y=p then wd'.length else f y):Nat):Int)) else none:=fun y=>by
    rw[sE];by_cases e:y=p
    ·subst e;rw[AA rfl,AA rfl,AA (Ah _ (AB.mpr rfl))]
    ·rw[As (fun z=>e (CK.mp (Sum.inl.inj z))),As e,G1.val];by_cases h:y∈qs.take i
     ·rw[AA h,AA (An _ h)]
     ·rw[As h,As fun z=>(Aj.mp z).elim h fun z=>e (AB.mp z)]
   have wl:=G1.wlen;have kl:=G1.len;refine qd G1.hw ?_;rw[aa];refine kq G1.hd ⟨big _ (by lia),?_⟩;have nad:a≠d:=vt ha hd;refine qd ((qb nad).trans (G1.sub _ _ ha)) (qx (w9 hk) ?_);have hd2:∀{o},qf L1 d o d=some o:=q9;refine⟨fun τ' L2=>τ'=[some (Y.ref a),some (Y.ref l),some (Y.ref c),some (.int s),some (.bl b),some (Y.ref d),some (Y.ref w),some (.int (p:Nat)),some (e9 (l7 f k))]/\L2=qf L1 d (.dct (mE kvs (.inl (p:Int)) (.int ((wd'.length:Nat):Int)))),?_,?_⟩
   ·cases k with
    |none=>exact⟨rfl,rfl⟩
    |some k=>
     cases k with
     |lf t n=>exact⟨rfl,rfl⟩
     |nd e p1 p2=>
      obtain⟨m1,m2⟩:=hpar e p1 p2 rfl;have v1:=vp p1;have v2:=vp p2;rw[AA (An _ m1),As fun(z:p1=p)=>pn (z▸m1)] at v1;rw[AA (An _ m2),As fun(z:p2=p)=>pn (z▸m2)] at v2;refine kq q9 (qx v1 ?_);refine kq q9 (qx v2 ?_);exact⟨rfl,rfl⟩
   ·rintro τ' L2 ⟨rfl,rfl⟩;have hw2:qf L1 d (.dct (mE kvs (.inl (p:Int)) (.int ((wd'.length:Nat):Int)))) w=some (.lst (dI wd')):=(qb (AK ndw)).trans G1.hw;refine qd hw2 (ql hw2 ⟨by rw[aa];exact big _ (by lia),?_⟩);rw[ff];have hb:∀x∈qs.take i,x<ks.length:=fun x hx=>mq x (Bz hx);refine⟨_,EC _,fun x=>if x=p then wd'.length else f x,wd'++[l7 f k],_,_,_,rfl,(G1.sub.upd hd).upd hw0,(qb ndw).trans q9,q9,(qb (AK nwD)).trans ((qb (AK ndD)).trans G1.hD),?_,fun y=>?_,?_,?_⟩
    ·have:=sO kvs (.inl (p:Int)) (.int ((wd'.length:Nat):Int));lia
    ·rw[et];exact vp y
    ·rw[et];exact G1.gap.step hb pn hk hpar2 hpar
    ·rw[Ac];show wd'.length+1≤_;exact xK
 ·rintro τ L' ⟨f,wd,kvs,c7,c8,rfl,G⟩;have eq:(nY qs).length=qs.length:=Ae ..;rw[eq] at G;have et:qs.take qs.length=qs:=BK;have val:∀p,p<ks.length->aF kvs (.inl (p:Int))=some (.int ((f p:Nat):Int)):=fun p hp=>by rw[G.val,et,AA (pm.mem_iff.mpr (Bv.mpr hp))]
  have gap:qA ks (List.range ks.length) f wd:=by have g:=G.gap;rw[et] at g;exact⟨fun p hp=>g.at_ p (pm.mem_iff.mpr hp),fun p hp r hr=>g.inj p (pm.mem_iff.mpr hp) r (pm.mem_iff.mpr hr),fun x k hx=>let ⟨r,hr,e⟩:=g.only x k hx;⟨r,pm.mem_iff.mp hr,e⟩,g.ok⟩
  have flt:∀p,p<ks.length->f p<wd.length:=fun p hp=>gap.lt (Bv.mpr hp) hp;have inj:∀p r,p<ks.length->r<ks.length->f p=f r->p=r:=fun p r hp hr e=>gap.inj p (Bv.mpr hp) r (Bv.mpr hr) e;have wl:wd.length≤2*ks.length:=by have:=G.wlen;rw[lq] at this;lia
  refine xh (G.sub _ _ hl) fun keep kp=>sH (m:=mmP f) hz1 (kp _ rfl) (fun i pr R zs epr hR=>?_) fun p1 hp1=>?_
  ·obtain⟨l1,l2⟩:=hlk pr (AR epr);have v1:=val pr.1 (by exact iw);have v2:=val pr.2 l2;refine kq G.hd (qx v1 ?_);refine kq G.hd (qx v2 ?_);refine kq G.hd (qx v1 ?_);refine kq G.hd (qx v2 ?_);have e1:min ((f pr.1:Nat):Int) ((f pr.2:Nat):Int)=((min (f pr.1) (f pr.2):Nat):Int):=aor _ _;have e2:max ((f pr.1:Nat):Int) ((f pr.2:Nat):Int)=((max (f pr.1) (f pr.2):Nat):Int):=ann _ _;have hR':R (zs++[.tup [.int (min ((f pr.1:Nat):Int) ((f pr.2:Nat):Int)),.int (max ((f pr.1:Nat):Int) ((f pr.2:Nat):Int))]]) L':=by rw[e1,e2];exact hR
   exact hR'
  have b1:∀p∈lk.map (mmP f),p.2<1000000:=fun p hp=>by obtain⟨r,hr,rfl⟩:=BI.mp hp;obtain⟨h1,h2⟩:=hlk r hr;have:=flt r.1 (by lia);have:=flt r.2 h2;exact Nat.max_lt.mpr ⟨by lia,by lia⟩
  have n1:(lk.map (mmP f)).Nodup:=dc (fun x hx y hy e=>by
   obtain⟨x1,x2⟩:=hlk x hx;obtain⟨y1,y2⟩:=hlk y hy;have m1:min (f x.1) (f x.2)=min (f y.1) (f y.2):=BC Prod.fst e;have m2:max (f x.1) (f x.2)=max (f y.1) (f y.2):=BC Prod.snd e;have a1:x.1=y.1/\x.2=y.2:=by
    rcases alp m1 m2 with⟨c1,c2⟩ | ⟨c1,c2⟩
    ·exact⟨inj x.1 y.1 (Dn x1 x2) (Dn y1 y2) c1,inj x.2 y.2 x2 y2 c2⟩
    ·have e3:=inj x.1 y.2 (Dn x1 x2) y2 c1;have e4:=inj x.2 y.1 x2 (Dn y1 y2) c2;rw[e3,e4] at x1;exact absurd x1 (Nat.lt_asymm y1)
   exact Ey a1.1 a1.2) nd1
  dsimp only[qy];refine sS (ps:=lk.map (mmP f)) q9 b1 n1 (by rw[Ae];exact dO) fun D1 lk' hD1 pm1 pw1=>?_;have hp1':L p1=none:=G.sub.none hp1;have hD1a:=xr hD1;have hD1':L D1=none:=G.sub.none hD1a;have S1:qj L' (qf (qf L' p1 (.lst (qr (lk.map (mmP f))))) D1 (.lst (qr lk'))):=(By hp1).trans (By hD1);refine xh (S1 _ _ (G.sub _ _ hc)) fun keep kp=>sH (m:=ppP f) hz2 (kp _ rfl) (fun i pr R zs epr hR=>?_) fun p2 hp2=>?_
  ·obtain⟨l1,l2⟩:=hct pr (AR epr);refine kq (S1 _ _ G.hd) (qx (val pr.1 l1) ?_);refine kq (S1 _ _ G.hd) (qx (val pr.2 l2) ?_);exact hR
  have b2:∀p∈ct.map (ppP f),p.2<1000000:=fun p hp=>by obtain⟨r,hr,rfl⟩:=BI.mp hp;obtain⟨h1,h2⟩:=hct r hr;have:=flt r.2 h2;show f r.2<1000000;lia
  have n2:(ct.map (ppP f)).Nodup:=dc (fun x hx y hy e=>by obtain⟨x1,x2⟩:=hct x hx;obtain⟨y1,y2⟩:=hct y hy;exact Ey (inj _ _ x1 y1 (BC Prod.fst e)) (inj _ _ x2 y2 (BC Prod.snd e))) nd2
  dsimp only[qy];refine sS (ps:=ct.map (ppP f)) q9 b2 n2 (by rw[Ae];exact dO) fun D2 ct' hD2 pm2 pw2=>?_;have hD2a:=xr hD2;have S2:=S1.trans ((By hp2).trans (By (o:=.lst (qr ct')) hD2));have hD2':L D2=none:=G.sub.none (S1.none hD2a);have n12:D1≠D2:=vt q9 hD2a;obtain⟨m,hm,hm1⟩:∃m:Nat,(if b=true then(1:Int) else 0)=(m:Int)/\m≤1:=by cases b;exact⟨0,rfl,by exact Bk _⟩;exact⟨1,rfl,by exact BL _⟩
  walk_at "w";rw[hm];refine⟨⟨by exact AX _,by omega⟩,?_⟩;rw[Cm];refine uA (fun i zs=>zs=dI (List.replicate i none)) (big _ (by exact dO)) rfl ?_ ?_
  ·rintro i zs hi rfl;refine⟨_,EC _,rfl,?_⟩;rw[List.replicate_succ'];exact ff _ none
  rintro zs rfl p3 hp3;have S3:=S2.trans (By (o:=.lst (dI (List.replicate m none))) hp3);refine⟨_,_,S3 _ _ G.hw,q9,?_,fun p4 hp4=>?_⟩
  ·rw[aa,aa,BV];exact Bd (big _ (by lia))
  have h4:=xr hp4;have h4':L p4=none:=G.sub.none (S2.none h4);have n43:D2≠p4:=vt q9 h4;have n42:D1≠p4:=vt ((qb n12).trans ((qb (vt q9 hp2)).trans q9)) h4;have hp3b:=xr hp3;have n31:D1≠p3:=vt ((qb n12).trans ((qb (vt q9 hp2)).trans q9)) hp3;have n32:D2≠p3:=vt q9 hp3;have eo:dI wd++dI (List.replicate m none)=dI (wd++List.replicate m none):=by unfold dI;rw[AC]
  rw[eo];refine vk (q f (wd++List.replicate m none) lk' ct' p4 D1 D2 _ ⟨gap.gaps m,?_⟩ pm1 pw1 pm2 pw2 ((G.sub.trans S3).trans (By hp4)) h4' hD1' hD2' (AK n42) (AK n43) n12 q9 ?_ ?_)
  ·rw[Ac,BV];exact akh
  ·rw[qb n42,qb n31,qb n12,qb (vt q9 hp2),q9]
  ·rw[qb n43,qb n32,q9]
def rN:w6:=(qw (ag9 1 2 3 (qe (vj qy) (qe (vj qy) (qe (vj (aR (qa 0))) qy))))
 (qw (o9 (rdN (qa 3) (vj qy)) (qw (zp (aG yi (qa 3) qy) (qh 4))
 (cL (x6 (dG (x8 4 0) (eU "link")) (jd (aG zk (qa 1) (qe (tU (x8 4 1) (x8 4 2)) qy))) jr)
 (cL (x6 (dG (x8 4 0) (eU "cut")) (jd (aG zk (qa 2) (qe (tU (x8 4 1) (x8 4 2)) qy))) jr)
 (jd (aG bA (qa 3) (qe (oB 1 (ag0 (ySl akv (qa 4) (fD (j5 2)) bG)) (qh 5) (yB (aq .tuple (qa 5))) (qa 5)) qy)))))))
 (x0 (va (qe (cx cZ (aR (qa 1))) (qe (cx cZ (aR (qa 2))) qy))))))
def j6:Ru->List (Nat×Nat)
 |.link p q=>[(p,q)]
 |.ei _ A=>j6 A
 |.bo _ A B=>j6 A++j6 B
 |.cu _ _ A B=>j6 A++j6 B
def jl:Ru->List (Nat×Nat)
 |.link _ _=>[]
 |.ei _ A=>jl A
 |.bo _ A B=>jl A++jl B
 |.cu p q A B=>(p,q)::(jl A++jl B)
def iz:Ru->Nat
 |.link _ _=>1
 |.ei _ A=>iz A+1
 |.bo _ A B=>iz A+iz B+1
 |.cu _ _ A B=>iz A+iz B+1
def aS:Ru->List Ru
 |.link _ _=>[]
 |.ei _ A=>[A]
 |.bo _ A B=>[A,B]
 |.cu _ _ A B=>[A,B]
def l8:Ru->List (Nat×Nat)
 |.link p q=>[(p,q)]
 |_=>[]
def pN:Ru->List (Nat×Nat)
 |.cu p q _ _=>[(p,q)]
 |_=>[]
theorem u9(A:Ru):j6 A=l8 A++(aS A).flatMap j6:=by cases A<;>simp[j6,l8,aS]
theorem yM(A:Ru):jl A=pN A++(aS A).flatMap jl:=by cases A<;>simp[jl,pN,aS]
theorem rX(A:Ru):((aS A).map iz).sum+1=iz A:=by cases A<;>simp[iz,aS]
theorem ae2(A:Ru):0<iz A:=by cases A<;>simp[iz]
theorem xU{A B:Ru}(h:B∈aS A):aA B<aA A:=by cases A<;>simp[aS] at h<;>(try rcases h with rfl | rfl)<;>(try subst h)<;>simp[aA]<;>omega
def jX:Ru->List Y
 |.link _ q=>[.int ((q:Nat):Int)]
 |.ei _ A=>[za A]
 |.bo _ A B=>[za A,za B]
 |.cu _ q A B=>[.int ((q:Nat):Int),za A,za B]
def adh:Y->Option Y
 |.tup ys=>some (.tup ys)
 |_=>none
theorem ut(A:Ru):adh (za A)=some (za A):=by cases A<;>rfl
theorem ur(i:Int):adh (.int i)=none:=rfl
theorem yQ(A:Ru):(jX A).filterMap adh=(aS A).map za:=by cases A<;>simp[jX,aS,Ct,ut,ur]
theorem zV{A:Ru}(h:y∈jX A):(∃q:Nat,y=.int (q:Int))\/∃B,y=za B:=by
 cases A<;>simp[jX] at h
 ·exact .inl ⟨_,h⟩
 ·exact .inr ⟨_,h⟩
 ·rcases h with h | h<;>exact .inr ⟨_,h⟩
 ·rcases h with h | h | h
  ·exact .inl ⟨_,h⟩
  ·exact .inr ⟨_,h⟩
  ·exact .inr ⟨_,h⟩
structure iZ(R:Ru)(lk ct:List (Nat×Nat))(st:List Ru):Prop where
 pl:(lk++st.flatMap j6).Perm (j6 R)
 pc:(ct++st.flatMap jl).Perm (jl R)
 sz:(st.map iz).sum≤iz R
 dp:∀A∈st,aA A≤aA R
theorem iZ.start(R:Ru):iZ R [] [] [R]:=⟨by simp,by simp,by simp,fun A hA=>by simp at hA;subst hA;exact Am _⟩
theorem iZ.step{A:Ru}{st:List Ru}(h:iZ R lk ct (st++[A])):iZ R (lk++l8 A) (ct++pN A) (st++aS A):=by
 have pm:∀{X U V W:List (Nat×Nat)},(X++U++(V++W)).Perm (X++(V++(U++W))):=fun {X U V W}=>by rw[Aw];refine Dx X ?_;rw[<-Aw,<-Aw];exact Du W Bb
 refine⟨?_,?_,?_,fun B hB=>?_⟩
 ·refine List.Perm.trans ?_ h.pl;rw[AN,AN];have:[A].flatMap j6=l8 A++(aS A).flatMap j6:=by rw[<-u9];simp
  rw[this];exact pm
 ·refine List.Perm.trans ?_ h.pc;rw[AN,AN];have:[A].flatMap jl=pN A++(aS A).flatMap jl:=by rw[<-yM];simp
  rw[this];exact pm
 ·have:=h.sz;have:=rX A;simp at *;lia
 ·rcases Aj.mp hB with hB | hB
  ·exact h.dp B (An _ hB)
  ·have:=xU hB;have:=h.dp A (Ah _ (AB.mpr rfl));exact ah7
def oz:xw:=fun ys L Q=>∃R:Ru,ys=[za R]/\aA R≤120/\iz R≤1000/\(j6 R).Nodup/\(jl R).Nodup/\(∀p∈j6 R,p.2<1000000)/\(∀p∈jl R,p.2<1000000)/\(j6 R).length≤1000/\(jl R).length≤1000/\
 ∀la ca lk ct,L la=none->L ca=none->la≠ca->lk.Perm (j6 R)->lk.Pairwise kI->ct.Perm (jl R)->ct.Pairwise kI->Q (.tup [.ref la,.ref ca]) (qf (qf L la (.lst (qr lk))) ca (.lst (qr ct)))
theorem gm(l:List (Nat×Nat))(p:Nat×Nat):qr l++[mO p]=qr (l++[p]):=by unfold qr;rw[AC];rfl
theorem zE(st:List Ru):Da.eqs (st.map bS) []=decide (st=[]):=by cases st<;>rfl
theorem kD{L:qm}{n:Nat}:∀{st:List Ru},(∀A∈st,aA A≤n)->Paired (js L n) (st.map za) (st.map bS)
 |[],_=>.nil
 |A::r,h=>.cons (cr (h A (Aq ..))) (kD fun B hB=>h B (Ag _ hB))
theorem ado:∀ys L Q,oz ys L Q->k6 rN 5 ys L Q:=by
 rintro ys L Q ⟨R,rfl,hd,hz,nd1,nd2,b1,b2,z1,z2,q⟩;have big:=bg_;intro la hla ca hca ta hta;have nlc:la≠ca:=vt q9 hca;have nct:ca≠ta:=vt q9 hta;have nlt:la≠ta:=vt ((qb nlc).trans q9) hta;have hca0:L ca=none:=xr hca;have hta0:L ta=none:=xr (xr hta);have S0:qj L (qf (qf (qf L la (.lst [])) ca (.lst [])) ta (.lst [za R])):=((By hla).trans (By hca)).trans (By hta);refine⟨fun m τ L'=>∃lk ct st c4,τ=[some (za R),some (Y.ref la),some (Y.ref ca),some (Y.ref ta),c4]/\qj L L'/\L' la=some (.lst (qr lk))/\L' ca=some (.lst (qr ct))/\L' ta=some (.lst (st.map za))/\iZ R lk ct st/\m=(st.map iz).sum,⟨_,[],[],[R],_,rfl,S0,(qb nlt).trans ((qb nlc).trans q9),(qb nct).trans q9,q9,iZ.start R,rfl⟩,?_⟩;rintro m τ L' ⟨lk,ct,st,c4,rfl,s,h1,h2,h3,T,rfl⟩;intro p hp;refine cA (n:=120) (m:=0) (by decide) (By hp _ _ h3) q9 (kD fun A hA=>AU (T.dp A hA) hd) (.nil:Paired (js _ 0) _ []) ?_;have npl:la≠p:=vt h1 hp;have npc:ca≠p:=vt h2 hp;have npt:ta≠p:=vt h3 hp;have s2:qj L (qf L' p (.lst [])):=s.trans (By hp);replace h1:=(qb (o:=.lst []) npl).trans h1;replace h2:=(qb (o:=.lst []) npc).trans h2;replace h3:=(qb (o:=.lst []) npt).trans h3;generalize qf L' p (.lst [])=L2 at s2 h1 h2 h3 ⊢;show wb (!(Da.eqs (st.map bS) [])) _ _;rw[zE];rcases List.eq_nil_or_concat st with rfl | ⟨gi,A,rfl⟩
 ·refine aC rfl ?_;have pl:lk.Perm (j6 R):=by have:=T.pl;simpa using this
  have pc:ct.Perm (jl R):=by have:=T.pc;simpa using this
  dsimp only[x0,va,cx,qe,aR,wn,tU,qa,tj,qy];refine sS h1 (fun x hx=>b1 x (pl.mem_iff.mp hx)) (pl.nodup_iff.mpr nd1) (by rw[pl.length_eq];exact dO) fun D1 lk' hD1 pm1 pw1=>?_;have n1:ca≠D1:=vt h2 hD1;refine sS ((qb n1).trans h2) (fun x hx=>b2 x (pc.mem_iff.mp hx)) (pc.nodup_iff.mpr nd2) (by rw[pc.length_eq];exact dO) fun D2 ct' hD2 pm2 pw2=>?_;have n12:D1≠D2:=vt q9 hD2;have hD1':=s2.none hD1;have hD2':=s2.none (xr hD2);refine⟨_,fun z o e=>?_,q D1 D2 lk' ct' hD1' hD2' n12 (pm1.trans pl) pw1 (pm2.trans pc) pw2⟩;by_cases c1:z=D2
  ·subst c1;rw[q9] at e ⊢;exact e
  ·rw[qb c1] at e ⊢;by_cases c2:z=D1
   ·subst c2;rw[q9] at e ⊢;exact e
   ·rw[qb c2] at e ⊢;exact s2 _ _ e
 ·rw[List.concat_eq_append] at *;have T1:=T.step;have ne:gi++[A]≠[]:=by simp
  rw[Au ne];refine ar rfl ⟨fun τ' L'=>∃m',m'<((gi++[A]).map iz).sum/\∃lk ct st c4,τ'=[some (za R),some (Y.ref la),some (Y.ref ca),some (Y.ref ta),c4]/\qj L L'/\L' la=some (.lst (qr lk))/\L' ca=some (.lst (qr ct))/\L' ta=some (.lst (st.map za))/\iZ R lk ct st/\m'=(st.map iz).sum,fun τ' L' h=>h,?_⟩;rw[AC] at h3;refine yx h3 ?_;refine⟨fun τ' L3=>τ'=[some (za R),some (Y.ref la),some (Y.ref ca),some (Y.ref ta),some (za A)]/\qj L L3/\L3 la=some (.lst (qr (lk++l8 A)))/\L3 ca=some (.lst (qr ct))/\L3 ta=some (.lst (gi.map za)),?_,?_⟩
  ·have s3:qj L (qf L2 ta (.lst (gi.map za))):=s2.upd hta0;have g1:qf L2 ta (.lst (gi.map za)) la=some (.lst (qr lk)):=(qb nlt).trans h1;have g2:qf L2 ta (.lst (gi.map za)) ca=some (.lst (qr ct)):=(qb nct).trans h2;have g3:qf L2 ta (.lst (gi.map za)) ta=some (.lst (gi.map za)):=q9;generalize qf L2 ta (.lst (gi.map za))=L3 at s3 g1 g2 g3 ⊢;cases A with
   |link p0 q0=>
    refine qd g1 (ql g1 ⟨?_,?_⟩)
    ·have:=T.pl.length_eq;rw[Ac] at this;rw[Ae];exact big _ (by lia)
    ·exact⟨rfl,s3.upd hla,by rw[q9];exact BC (fun l=>some (LO.lst l)) (gm lk (p0,q0)),(qb (AK nlc)).trans g2,(qb (AK nlt)).trans g3⟩
   |ei r0 A0=>exact⟨rfl,s3,by rw[g1];simp[l8],g2,g3⟩
   |bo r0 A0 B0=>exact⟨rfl,s3,by rw[g1];simp[l8],g2,g3⟩
   |cu p0 q0 A0 B0=>exact⟨rfl,s3,by rw[g1];simp[l8],g2,g3⟩
  ·rintro τ' L3 ⟨rfl,s3,g1,g2,g3⟩;refine⟨fun τ' L3=>τ'=[some (za R),some (Y.ref la),some (Y.ref ca),some (Y.ref ta),some (za A)]/\qj L L3/\L3 la=some (.lst (qr (lk++l8 A)))/\L3 ca=some (.lst (qr (ct++pN A)))/\L3 ta=some (.lst (gi.map za)),?_,?_⟩
   ·cases A with
    |cu p0 q0 A0 B0=>
     refine qd g2 (ql g2 ⟨?_,?_⟩)
     ·have:=T.pc.length_eq;rw[Ac] at this;rw[Ae];exact big _ (by lia)
     ·exact⟨rfl,s3.upd hca0,(qb nlc).trans g1,by rw[q9];exact BC (fun l=>some (LO.lst l)) (gm ct (p0,q0)),(qb (AK nct)).trans g3⟩
    |ei r0 A0=>exact⟨rfl,s3,g1,by rw[g2];simp[pN],g3⟩
    |bo r0 A0 B0=>exact⟨rfl,s3,g1,by rw[g2];simp[pN],g3⟩
    |link p0 q0=>exact⟨rfl,s3,g1,by rw[g2];simp[pN],g3⟩
   ·rintro τ' L3 ⟨rfl,s3,g1,g2,g3⟩;obtain⟨ys,e,esl⟩:∃ys,za A=.tup ys/\im ys (some 2) none=jX A:=by cases A<;>exact⟨_,rfl,rfl⟩
    rw[e];have key:∀(zs:List Y) (keep:qm->Prop) (Q':YK),zs=jX A->keep L3->(∀p,L3 p=none->Q' (.ref p) (qf L3 p (.lst ((aS A).map za))))->vM zs keep 1 (qh 5) (yB (aq i7.tuple (qa 5))) (qa 5) [some (za R),some (Y.ref la),some (Y.ref ca),some (Y.ref ta),some (.tup ys)] L3 Q':=by
     rintro zs keep Q' rfl hk hq;refine ad0 adh ?_ hk (fun i y W us ey hW=>?_) (by rw[yQ];exact hq)
     ·cases A<;>exact big _ (by simp[jX])
     ·rcases zV (AR ey) with⟨n,rfl⟩ | ⟨B,rfl⟩
      ·rw[ur] at hW;refine⟨_,EC _,?_⟩;simpa using hW
      ·rw[ut] at hW;cases B<;>exact⟨_,EC _,hW⟩
    refine qd g3 ?_;walk_at "w";refine⟨by cases A<;>(cases e;first | exact fun h=>absurd (show HT.sIx 3 0 (some 2)=0 from h.1) (by decide) | exact fun h=>absurd (show HT.sIx 4 0 (some 2)=0 from h.1) (by decide) | exact fun h=>absurd (show HT.sIx 5 0 (some 2)=0 from h.1) (by decide)),?_⟩;walk_at "w";refine key (im ys (some 2) none) (fun _=>True) _ esl trivial fun p hp=>?_;have ntp:ta≠p:=vt g3 hp;have nlp:la≠p:=vt g1 hp;have ncp:ca≠p:=vt g2 hp;have szs:=T.sz;have szA:=rX A;have sz1:=T1.sz;have lens:∀l:List Ru,l.length≤(l.map iz).sum:=fun l=>by induction l with|nil=>exact Am _|cons B r ih=>have:=ae2 B;simp;lia
    have l1:=lens (gi++aS A);refine ql ((qb ntp).trans g3) (ql q9 ⟨?_,?_⟩)
    ·rw[Ae,Ae];rw[Ac] at l1;exact Bd (big _ (by lia))
    refine⟨_,EC _,((gi++aS A).map iz).sum,?_,lk++l8 A,ct++pN A,gi++aS A,_,rfl,(s3.trans (By hp)).upd hta0,(qb nlt).trans ((qb nlp).trans g1),(qb nct).trans ((qb ncp).trans g2),?_,T1,rfl⟩
    ·simp;exact pV
    ·rw[q9,AC]
def lO(ks:List Kn):Nat->Nat->Nat
 |0,_=>1
 |n+1,p=>match ks[p]? with
  |some (.nd _ i j)=>1+lO ks n i+lO ks n j
  |_=>1
def ax(ks:List Kn)(p:Nat):Nat:=lO ks (p+1) p
theorem ad5(ks:List Kn):∀n p,1≤lO ks n p
 |0,_=>Am _
 |n+1,p=>by
  unfold lO;split
  ·simp +arith only
  ·exact Am _
theorem fv{ks:List Kn}(ok:ak ks):∀(n m p:Nat),p<n->p<m->lO ks n p=lO ks m p
 |0,_,_,h,_=>absurd h (CH _)
 |_+1,0,_,_,h=>absurd h (CH _)
 |n+1,m+1,p,h1,h2=>by
  show(match ks[p]? with | some (.nd _ i j)=>1+lO ks n i+lO ks n j | _=>1)=match ks[p]? with | some (.nd _ i j)=>1+lO ks m i+lO ks m j | _=>1
  cases e:ks[p]? with
  |none=>rfl
  |some k=>
   cases k with
   |lf t n=>rfl
   |nd b i j=>
    have:=ok p _ e;have:i<p/\j<p:=this;show 1+lO ks n i+lO ks n j=1+lO ks m i+lO ks m j;rw[fv ok n m i (by lia) (by lia),fv ok n m j (by lia) (by lia)]
theorem aev(ks:List Kn)(p:Nat):1≤ax ks p:=ad5 ks _ _
theorem u5{p:Nat}{n:Str}(e:ks[p]?=some (.lf t n)):ax ks p=1:=by show(match ks[p]? with | some (.nd _ i j)=>1+lO ks p i+lO ks p j | _=>1)=1;rw[e]
theorem uB(ok:ak ks){p:Nat}{b:Bool}(e:ks[p]?=some (.nd b i j)):ax ks p=1+ax ks i+ax ks j:=by have h:i<p/\j<p:=ok p _ e;show(match ks[p]? with | some (.nd _ i j)=>1+lO ks p i+lO ks p j | _=>1)=_;rw[e];show 1+lO ks p i+lO ks p j=1+lO ks (i+1) i+lO ks (j+1) j;rw[fv ok p (i+1) i (by omega) (by exact BL _),fv ok p (j+1) j (by omega) (by exact BL _)]
def vv(f:Nat->Nat)(l:List Nat):Nat:=(l.map f).sum
theorem kn(f:Nat->Nat)(x:Nat)(l:List Nat):vv f (x::l)=f x+vv f l:=by unfold vv;rw[AD,DA]
theorem k8(f:Nat->Nat)(l m:List Nat):vv f (l++m)=vv f l+vv f m:=by unfold vv;rw[AC,List.sum_append]
theorem wf{f:Nat->Nat}{l:List Nat}{x:Nat}(h:x∈l):vv f l=f x+vv f (l.erase x):=by have:=((List.perm_cons_erase h).map f).sum_nat;unfold vv;rw[this,AD,DA]
theorem eO{f:Nat->Nat}:∀{E U:List Nat},E.Nodup->(∀x∈E,x∈U)->vv f E≤vv f U
 |[],_,_,_=>Bk _
 |x::E,U,nd,h=>by obtain⟨n1,n2⟩:=Av.mp nd;rw[kn,wf (h x (Aq ..))];have:=eO (f:=f) (E:=E) (U:=U.erase x) n2 fun y hy=>(BA (fun(z:y=x)=>n1 (z▸hy))).mpr (h y (Ag _ hy));lia
def bH(f:Nat->Nat)(l:List (Nat×Nat)):Nat:=(l.map fun c=>f c.1+f c.2).sum
theorem iV(f:Nat->Nat)(l m:List (Nat×Nat)):bH f (l++m)=bH f l+bH f m:=by unfold bH;rw[AC,List.sum_append]
theorem SR.weight(ok:ak ks){E:List Nat}(h:SR ks R E):vv (ax ks) E+bH (ax ks) (jl R)≤(zr R).length:=by
 induction h with
 |@link p q t n E h1 h2 h3 h4 h5=>
  have:=eO (f:=ax ks) (U:=[p,q]) h5 fun x hx=>by rcases (h4 x).mp hx with rfl | rfl<;>simp
  have e:vv (ax ks) [p,q]=2:=by unfold vv;simp[u5 h2,u5 h3]
  show vv (ax ks) E+0≤2;lia
 |@ei r i j A EA E h1 h2 h3 h4 h5 h6 h7 ih=>
  have hj:j∈EA.erase i:=(BA (AK h5)).mpr h4;have s1:=eO (f:=ax ks) (U:=(EA.erase i).erase j++[r]) h7 fun x hx=>by
   rcases (h6 x).mp hx with⟨a,b,c⟩ | rfl
   ·exact An _ ((BA c).mpr ((BA b).mpr a))
   ·simp
  have s2:=wf (f:=ax ks) h3;have s3:=wf (f:=ax ks) hj;have s4:=uB ok h1;rw[k8,kn] at s1;have e0:vv (ax ks) []=0:=rfl;show _+bH _ (jl A)≤(r::zr A).length;rw[AF];lia
 |@bo r i j A B EA EB E h1 h2 h3 h4 h5 h6 h7 ih1 ih2=>
  have s1:=eO (f:=ax ks) (U:=EA.erase i++(EB.erase j++[r])) h7 fun x hx=>by
   rcases (h6 x).mp hx with⟨a,b⟩ | ⟨a,b⟩ | rfl
   ·exact An _ ((BA b).mpr a)
   ·exact Ah _ (An _ ((BA b).mpr a))
   ·simp
  have s2:=wf (f:=ax ks) h4;have s3:=wf (f:=ax ks) h5;have s4:=uB ok h1;rw[k8,k8,kn] at s1;have e0:vv (ax ks) []=0:=rfl;show _+bH _ (jl A++jl B)≤(r::(zr A++zr B)).length;rw[AF,Ac,iV];lia
 |@cu p q A B EA EB E w h1 h2 h3 h4 h5 h6 h7 h8 ih1 ih2=>
  have s1:=eO (f:=ax ks) (U:=EA.erase p++EB.erase q) h8 fun x hx=>by
   rcases (h7 x).mp hx with⟨a,b⟩ | ⟨a,b⟩
   ·exact An _ ((BA b).mpr a)
   ·exact Ah _ ((BA b).mpr a)
  have s2:=wf (f:=ax ks) h3;have s3:=wf (f:=ax ks) h4;rw[k8] at s1;have e1:bH (ax ks) (jl (.cu p q A B))=ax ks p+ax ks q+(bH (ax ks) (jl A)+bH (ax ks) (jl B)):=by show bH _ ((p,q)::(jl A++jl B))=_;rw[<-iV];unfold bH;rw[AD,DA]
  show _≤(zr A++zr B).length;rw[Ac,e1];lia
theorem af7(a b:Nat):decide ((a:Int)=(b:Int))=decide (a=b):=by
 by_cases c:a=b
 ·rw[AE c];exact AE (by lia)
 ·rw[Au c];exact Au (by lia)
def ju(lk:List (Nat×Nat)):List Nat:=lk.flatMap fun x=>[x.1,x.2]
theorem kg(a b:List (Nat×Nat)):ju (a++b)=ju a++ju b:=by unfold ju;rw[AN]
theorem al(x:Nat×Nat):ju [x]=[x.1,x.2]:=by simp[ju]
theorem kj(lk:List (Nat×Nat)):(ju lk).length=2*lk.length:=by
 induction lk with
 |nil=>rfl
 |cons x r ih=>
  have:=kg [x] r;rw[Dw] at this;rw[this,Ac,ih,al,AF];simp;exact Nat.add_comm _ _
theorem wE(m:Nat)(l:List Nat):zS (gv (.int (m:Int))) ((nY l).map gv)=decide (m∈l):=by
 induction l with
 |nil=>rfl
 |cons n r ih=>
  have e:zS (gv (.int (m:Int))) ((nY (n::r)).map gv)=(iu (gv (.int (n:Int))) (gv (.int (m:Int)))||zS (gv (.int (m:Int))) ((nY r).map gv)):=rfl;rw[e,ih];have e2:iu (gv (.int (n:Int))) (gv (.int (m:Int)))=decide (n=m):=af7 n m;rw[e2];by_cases c:n=m
  ·subst c;simp
  ·by_cases d:m∈r
   ·simp[d]
   ·simp[c,d,AK c]
theorem vK(l:List Nat):(nY l).all fC=true:=by rw[BY];intro y hy;obtain⟨n,_,rfl⟩:=BI.mp hy;rfl
def jQ:w6:=(qw (zp (vj qy) (qh 2))
 (qw (fO (ky (qa 1)) (kz 2 (zh (qh 3) (zh (qh 4) k7))) (jd (aG bA (qa 2) (qe (vj (wn (qa 3) (qa 4))) qy))))
 (qw (zp (vj qy) (qh 5))
 (qw (o9 (rdN (qa 2) (vj qy)) (qw (zp (aG yi (qa 2) qy) (qh 3))
 (qw (jd (aG zk (qa 5) (aR (qa 3))))
 (x6 (dG (cx iI (qe (zg bO (qa 0) (qa 3)) qy)) (j5 3)) (jd (aG bA (qa 2) (qe (vj (qe (zg bO (zg bO (qa 0) (qa 3)) (j5 1)) (qe (zg bO (zg bO (qa 0) (qa 3)) (j5 2)) qy))) qy))) jr))))
 (x0 (qa 5))))))
structure l9(ks:List Kn)(ct:List (Nat×Nat))(qs st:List Nat):Prop where
 cut:∀c∈ct,(c.1∈qs\/c.1∈st)/\(c.2∈qs\/c.2∈st)
 part:∀p∈qs,∀e i j,ks[p]?=some (.nd e i j)->(i∈qs\/i∈st)/\(j∈qs\/j∈st)
 lt:∀p∈st,p<ks.length
 sz:qs.length+vv (ax ks) st≤1000
theorem gb(ks:List Kn):∀l:List Nat,l.length≤vv (ax ks) l
 |[]=>Am _
 |x::r=>by have:=gb ks r;have:=aev ks x;rw[kn,AF];lia
theorem af(f:Nat->Nat):∀l:List (Nat×Nat),vv f (ju l)=bH f l
 |[]=>rfl
 |c::r=>by
  have e:ju (c::r)=[c.1,c.2]++ju r:=by rw[<-al,<-kg];rfl
  rw[e,k8,af f r,kn,kn];show f c.1+(f c.2+vv f [])+bH f r=_;have e0:vv f []=0:=rfl;unfold bH;rw[e0,AD,DA];rfl
theorem dz{c:Nat×Nat}(h:c∈ct):c.1∈ju ct/\c.2∈ju ct:=by
 induction ct with
 |nil=>cases h
 |cons d r ih=>
  have e:ju (d::r)=[d.1,d.2]++ju r:=by rw[<-al,<-kg];rfl
  rw[e];rcases Ap.mp h with rfl | h
  ·simp
  ·obtain⟨a,b⟩:=ih h;exact⟨Ah _ a,Ah _ b⟩
theorem ac6{x:Nat}(h:x∈ju ct):∃c∈ct,x=c.1\/x=c.2:=by
 induction ct with
 |nil=>cases h
 |cons d r ih=>
  have e:ju (d::r)=[d.1,d.2]++ju r:=by rw[<-al,<-kg];rfl
  rw[e] at h;rcases Aj.mp h with h | h
  ·exact⟨d,Aq ..,by simpa using h⟩
  ·obtain⟨c,h1,h2⟩:=ih h;exact⟨c,Ag _ h1,h2⟩
def io(ks:List Kn)(p:Nat):List Nat:=match ks[p]? with
 |some (.nd _ i j)=>[i,j]
 |_=>[]
theorem l9.step(ok:ak ks){st:List Nat}{p:Nat}(h:l9 ks ct qs (st++[p])):l9 ks ct (qs++[p]) (st++io ks p)/\vv (ax ks) (st++io ks p)<vv (ax ks) (st++[p]):=by
 have mv:∀x,(x∈qs\/x∈st++[p])->(x∈qs++[p]\/x∈st++io ks p):=fun x hx=>by
  rcases hx with hx | hx
  ·exact .inl (An _ hx)
  ·rcases Aj.mp hx with hx | hx
   ·exact .inr (An _ hx)
   ·exact .inl (Ah _ hx)
 have hs:=h.sz;have e1:vv (ax ks) (st++[p])=vv (ax ks) st+ax ks p:=by rw[k8,kn];rfl
 have e2:vv (ax ks) (st++io ks p)+1=vv (ax ks) st+ax ks p:=by
  rw[k8];unfold io;cases e:ks[p]? with
  |none=>
   have:=h.lt p (Ah _ (AB.mpr rfl));rw[Al this] at e;cases e
  |some k=>
   cases k with
   |lf t n=>
    have:=u5 e;show vv _ st+0+1=_;lia
   |nd b i j=>
    have:=uB ok e;show vv (ax ks) st+vv (ax ks) [i,j]+1=_;rw[kn,kn];have e0:vv (ax ks) []=0:=rfl;lia
 refine⟨⟨fun c hc=>⟨mv _ (h.cut c hc).1,mv _ (h.cut c hc).2⟩,fun x hx e i j hk=>?_,fun x hx=>?_,?_⟩,by lia⟩
 ·rcases Aj.mp hx with hx | hx
  ·exact⟨mv _ (h.part x hx e i j hk).1,mv _ (h.part x hx e i j hk).2⟩
  ·have hx:=AB.mp hx;subst hx;have:io ks x=[i,j]:=by unfold io;rw[hk]
   rw[this];simp
 ·rcases Aj.mp hx with hx | hx
  ·exact h.lt x (An _ hx)
  ·unfold io at hx;split at hx
   ·rename_i b i j e;have:=xg e;have hij:i<p/\j<p:=ok p _ e;have:x=i\/x=j:=by simpa using hx
    lia
   ·cases hx
 ·rw[Ac,Bf];lia
def fP:xw:=fun ys L Q=>∃a c,∃ks:List Kn,∃ct:List (Nat×Nat),ys=[.ref a,.ref c]/\L a=some (.lst (jb ks))/\L c=some (.lst (qr ct))/\ak ks/\(∀x∈ct,x.1<ks.length/\x.2<ks.length)/\bH (ax ks) ct≤1000/\ks.length≤1000/\
 ∀D qs,L D=none->l9 ks ct qs []->Q (.ref D) (qf L D (.lst (nY qs)))
theorem ajk(l:List Nat):Da.eqs (fY l) []=decide (l=[]):=by cases l<;>rfl
theorem uN:∀ys L Q,fP ys L Q->k6 jQ 6 ys L Q:=by
 rintro ys L Q ⟨a,c,ks,ct,rfl,ha,hc,ok,hb,hz,hn,q⟩;have big:=bg_;have lp:(ju ct).length≤1000:=AU (gb ks _) (by rw[af];exact hz);intro ta hta;have s0:qj L (qf L ta (.lst [])):=By hta;refine xh (s0 _ _ hc) fun keep kp=>wo ⟨fun i τ L'=>∃c3 c4 c5,τ=[some (Y.ref a),some (Y.ref c),some (Y.ref ta),c3,c4,c5]/\qj L L'/\L' ta=some (.lst (nY (ju (ct.take i)))),⟨_,_,_,rfl,s0,q9⟩,?_,?_,?_⟩
 ·rintro i τ L' ⟨c3,c4,c5,rfl,s,h⟩;exact kp L' (by rw[s _ _ hc,s0 _ _ hc])
 ·rintro i y τ L' hy ⟨c3,c4,c5,rfl,s,h⟩;rw[Ar] at hy;obtain⟨pr,ep,rfl⟩:=Ay.mp hy;have et:ct.take (i+1)=ct.take i++[pr]:=by rw[BD,ep];rfl
  refine qd h ?_;intro p hp;have ntp:ta≠p:=vt h hp;have ll:(ju (ct.take i)).length≤(ju ct).length:=by rw[kj,kj,AL];lia
  refine ql ((qb ntp).trans h) (ql q9 ⟨?_,?_⟩)
  ·rw[dy];exact Bd (big _ (by simp;lia))
  ·refine⟨_,EC _,_,_,_,rfl,(s.trans (By hp)).upd hta,?_⟩;rw[q9,et,kg,al,iD];rfl
 ·rintro τ L' ⟨c3,c4,c5,rfl,s,h⟩;rw[Ae,BK] at h;intro bn hbn;have ntb:ta≠bn:=vt h hbn;have hbn0:L bn=none:=s.none hbn;have B0:l9 ks ct [] (ju ct):=⟨fun x hx=>⟨.inr (dz hx).1,.inr (dz hx).2⟩,fun x hx=>(Bo hx).elim,fun x hx=>by obtain⟨d,hd,e⟩:=ac6 hx;have:=hb d hd;lia,by rw[af];show 0+_≤1000;lia⟩
  refine⟨fun m τ L'=>∃qs st c3 c4,τ=[some (Y.ref a),some (Y.ref c),some (Y.ref ta),c3,c4,some (Y.ref bn)]/\qj L L'/\L' ta=some (.lst (nY st))/\L' bn=some (.lst (nY qs))/\l9 ks ct qs st/\m=vv (ax ks) st,⟨_,[],ju ct,_,_,rfl,s.trans (By hbn),(qb ntb).trans h,q9,B0,rfl⟩,?_⟩;rintro m τ L1 ⟨qs,st,c3,c4,rfl,s1,h1,h2,B,rfl⟩;intro p hp;refine cA (n:=0) (m:=0) (by decide) (By hp _ _ h1) q9 (oZ st) (.nil:Paired (js _ 0) _ []) ?_;have npt:ta≠p:=vt h1 hp;have npb:bn≠p:=vt h2 hp;have s2:qj L (qf L1 p (.lst [])):=s1.trans (By hp);replace h1:=(qb (o:=.lst []) npt).trans h1;replace h2:=(qb (o:=.lst []) npb).trans h2;generalize qf L1 p (.lst [])=L2 at s2 h1 h2 ⊢;show wb (!(Da.eqs (fY st) [])) _ _;rw[ajk];rcases List.eq_nil_or_concat st with rfl | ⟨gi,x,rfl⟩
  ·refine aC rfl ?_;refine⟨qf L bn (.lst (nY qs)),fun b o e=>?_,q bn qs hbn0 B⟩;by_cases cc:b=bn
   ·subst cc;rw[q9] at e;rw[<-e];exact h2
   ·rw[qb cc] at e;exact s2 _ _ e
  ·rw[List.concat_eq_append] at *;obtain⟨B1,lt1⟩:=B.step ok;have ne:gi++[x]≠[]:=by simp
   rw[Au ne];refine ar rfl ⟨fun τ' L'=>∃m',m'<vv (ax ks) (gi++[x])/\∃qs st c3 c4,τ'=[some (Y.ref a),some (Y.ref c),some (Y.ref ta),c3,c4,some (Y.ref bn)]/\qj L L'/\L' ta=some (.lst (nY st))/\L' bn=some (.lst (nY qs))/\l9 ks ct qs st/\m'=vv (ax ks) st,fun τ' L' h=>h,?_⟩;rw[iD] at h1;refine yx h1 ?_;have g1:qf L2 ta (.lst (nY gi)) ta=some (.lst (nY gi)):=q9;have g2:qf L2 ta (.lst (nY gi)) bn=some (.lst (nY qs)):=(qb (AK ntb)).trans h2;have s3:qj L (qf L2 ta (.lst (nY gi))):=s2.upd hta;generalize qf L2 ta (.lst (nY gi))=L3 at g1 g2 s3 ⊢;have hsz:=B.sz;refine qd g2 (ql g2 ⟨by rw[dy];exact big _ (by lia),?_⟩);have k1:qf L3 bn (.lst (nY qs++[.int ((x:Nat):Int)])) ta=some (.lst (nY gi)):=(qb ntb).trans g1;have k2:qf L3 bn (.lst (nY qs++[.int ((x:Nat):Int)])) bn=some (.lst (nY (qs++[x]))):=by rw[q9,iD];rfl
   have s4:qj L (qf L3 bn (.lst (nY qs++[.int ((x:Nat):Int)]))):=s3.upd hbn0;generalize qf L3 bn (.lst (nY qs++[.int ((x:Nat):Int)]))=L4 at k1 k2 s4 ⊢;have hx:=B.lt x (Ah _ (AB.mpr rfl));obtain⟨k,ek⟩:∃k,ks[x]?=some k:=⟨_,Al hx⟩;have ga:=s4 _ _ ha;refine qd ga (qx (w9 ek) ?_);cases k with
   |lf t n=>
    have e0:io ks x=[]:=by unfold io;rw[ek]
    rw[e0,AI] at B1 lt1;exact⟨_,EC _,_,lt1,qs++[x],gi,_,_,rfl,s4,k1,k2,B1,rfl⟩
   |nd b i j=>
    have e0:io ks x=[i,j]:=by unfold io;rw[ek]
    rw[e0] at B1 lt1;refine qd k1 ?_;refine qd ga (qx (w9 ek) ?_);refine qd ga (qx (w9 ek) ?_);intro p2 hp2;have n1:ta≠p2:=vt k1 hp2;have n2:bn≠p2:=vt k2 hp2;have l1:=gb ks (gi++[i,j]);have z1:=B1.sz;refine ql ((qb n1).trans k1) (ql q9 ⟨?_,?_⟩)
    ·rw[dy];rw[Ac] at l1;exact Bd (big _ (by simp at l1 ⊢;lia))
    ·refine⟨_,EC _,_,lt1,qs++[x],gi++[i,j],_,_,rfl,(s4.trans (By hp2)).upd hta,?_,(qb (AK ntb)).trans ((qb n2).trans k2),B1,rfl⟩;rw[q9,iD];rfl
def lu(p0:xw)(p1:xw):w6:=(qw (zp (zo p0 (wn (qa 0) (qa 1))) (qh 4))
 (qw (zp (vj qy) (qh 5))
 (qw (fO (ky (qa 0)) (qh 6) (x6 (dG (cN 6) (j5 3)) (jd (aG bA (qa 5) (qe (vj (wn (x8 6 1) (x8 6 2))) qy))) jr))
 (qw (wP 6 (zp (cx iI (qe (oB 1 (ky (qa 0)) (qh 11) (dG (x8 11 0) (eU "either")) (qa 11)) qy)) (qh 7)))
 (qw (zp (vj qy) (qh 8))
 (qw (fO (fU (qa 0)) (kz 2 (zh (qh 9) (zh (qh 6) k7))) (qw (zp (zg vf (zo p1 (qe (qa 2) (wn (qa 9) (j5 30269)))) (j5 8)) (qh 10))
 (x6 (yOr (dG (cN 6) (j5 2)) (yB (zg (pU false) (qa 9) (qa 4)))) (jd (aG zk (qa 8) (aR (qa 6)))) (x6 (dG (zg vf (zg aU (qa 2) (j5 3)) (j5 2)) (j5 1)) (jd (aG zk (qa 8) (qe (yIf (dY (dG (zg vf (qa 10) (j5 2)) (j5 0)) (yB (zg (pU true) (qa 9) (qa 5)))) (yC .non) (qa 6)) qy))) (x6 (dY (yB (zg yLt (qa 10) (j5 3))) (dG (x8 6 0) (eU "either"))) (qw (jd (aG zk (qa 8) (qe (va (qe (eU "both") (wn (x8 6 1) (x8 6 2)))) qy)))
 (zp (zg gf (qa 7) (j5 1)) (qh 7))) (x6 (dY (yB (zg yLt (qa 10) (j5 3))) (yB (zg yLt (qa 7) (qa 3)))) (qw (jd (aG zk (qa 8) (qe (va (qe (eU "either") (wn (x8 6 1) (x8 6 2)))) qy)))
 (zp (zg xj (qa 7) (j5 1)) (qh 7))) (jd (aG zk (qa 8) (aR (qa 6))))))))))
 (x0 (qa 8))))))))
def prK:Kn->List Nat
 |.nd _ i j=>[i,j]
 |.lf _ _=>[]
def bC(ks:List Kn):List Nat:=ks.flatMap prK
theorem aaa(ks:List Kn):(bC ks).length≤2*ks.length:=by
 induction ks with
 |nil=>exact Am _
 |cons k r ih=>
  have e:bC (k::r)=prK k++bC r:=AQ ..;have:(prK k).length≤2:=by cases k<;>simp[prK]
  rw[e,Ac,AF];lia
theorem mL(ks:List Kn)(k:Kn):bC (ks++[k])=bC ks++prK k:=by unfold bC;rw[AN,AQ,CW,AI]
structure dM(ks:List Kn)(kept:List Nat)(n:Nat)(out:List (Option Kn)):Prop where
 len:out.length=n
 lf:∀p t m,p<n->ks[p]?=some (.lf t m)->out[p]?=some (some (.lf t m))
 kp:∀p∈kept,p<n->∀k,ks[p]?=some k->out[p]?=some (some k)
 nd:∀p e i j,p<n->ks[p]?=some (.nd e i j)->(out[p]?=some none/\p∉bC ks)\/∃e',out[p]?=some (some (.nd e' i j))
theorem dM.nil(ks:List Kn)(kept:List Nat):dM ks kept 0 []:=⟨rfl,fun _ _ _ h=>absurd h (CH _),fun _ _ h=>absurd h (CH _),fun _ _ _ _ h=>absurd h (CH _)⟩
theorem dM.snoc{kept:List Nat}{out:List (Option Kn)}(T:dM ks kept n out){k:Kn}{o:Option Kn}(h:ks[n]?=some k)(hl:∀t m,k=.lf t m->o=some k)(hk:n∈kept->o=some k)
 (hn:∀e i j,k=.nd e i j->(o=none/\n∉bC ks)\/∃e',o=some (.nd e' i j)):dM ks kept (n+1) (out++[o]):=by
 have old:∀p,p<n->(out++[o])[p]?=out[p]?:=fun p hp=>Az (by rw[T.len];exact hp);have new:(out++[o])[n]?=some o:=by rw[<-T.len];exact cX out o []
 refine⟨by rw[Ac,T.len];rfl,fun p t m hp e=>?_,fun p hp hp2 k' e=>?_,fun p b i j hp e=>?_⟩
 ·by_cases c:p<n
  ·rw[old p c];exact T.lf p t m c e
  ·have:p=n:=by lia
   subst this;rw[h] at e;cases e;rw[new,hl t m rfl]
 ·by_cases c:p<n
  ·rw[old p c];exact T.kp p hp c k' e
  ·have:p=n:=by lia
   subst this;rw[h] at e;cases e;rw[new,hk hp]
 ·by_cases c:p<n
  ·rw[old p c];exact T.nd p b i j c e
  ·have:p=n:=by lia
   subst this;rw[h] at e;cases e;rw[new];rcases hn b i j rfl with⟨a1,a2⟩ | ⟨e',a⟩
   ·exact .inl ⟨by rw[a1],a2⟩
   ·exact .inr ⟨e',by rw[a]⟩
def iP:xw:=fun ys L Q=>∃a c,∃ks:List Kn,∃ct:List (Nat×Nat),∃s m:Int,ys=[.ref a,.ref c,.int s,.int m]/\L a=some (.lst (jb ks))/\L c=some (.lst (qr ct))/\ak ks/\(∀x∈ct,x.1<ks.length/\x.2<ks.length)/\bH (ax ks) ct≤1000/\ks.length≤1000/\
 ∀D qs out,L D=none->l9 ks ct qs []->dM ks qs ks.length out->Q (.ref D) (qf L D (.lst (dI out)))
theorem y9:∀ys L Q,iP ys L Q->k6 (lu fP cq) 11 ys L Q:=by
 rintro ys L Q ⟨a,c,ks,ct,s,m,rfl,ha,hc,ok,hb,hz,hn,q⟩;have big:=bg_;refine⟨a,c,ks,ct,rfl,ha,hc,ok,hb,hz,hn,fun D qs hD B=>?_⟩;have s1:qj L (qf L D (.lst (nY qs))):=By hD;have hD1:qf L D (.lst (nY qs)) D=some (.lst (nY qs)):=q9;generalize qf L D (.lst (nY qs))=L1 at s1 hD1 ⊢;intro pa hpa;have s2:qj L (qf L1 pa (.lst [])):=s1.trans (By hpa);have hpa0:L pa=none:=s1.none hpa;have nDp:D≠pa:=vt hD1 hpa;refine xh (s2 _ _ ha) fun keep kp=>wo ⟨fun i τ L'=>∃c6 c7 c8 c9 az,τ=[some (Y.ref a),some (Y.ref c),some (.int s),some (.int m),some (Y.ref D),some (Y.ref pa),c6,c7,c8,c9,az]/\qj L L'/\L' D=some (.lst (nY qs))/\L' pa=some (.lst (nY (bC (ks.take i)))),⟨_,_,_,_,_,rfl,s2,(qb nDp).trans hD1,q9⟩,?_,?_,?_⟩
 ·rintro i τ L' ⟨c6,c7,c8,c9,az,rfl,s',_⟩;exact kp L' (by rw[s' _ _ ha,s2 _ _ ha])
 ·rintro i y τ L' hy ⟨c6,c7,c8,c9,az,rfl,s',g1,g2⟩;rw[Ar] at hy;obtain⟨k,ek,rfl⟩:=Ay.mp hy;have et:ks.take (i+1)=ks.take i++[k]:=by rw[BD,ek];rfl
  have pl:=aaa (ks.take i);rw[AL] at pl;cases k with
  |lf t n=>exact⟨_,EC _,_,_,_,_,_,rfl,s',g1,by rw[et,mL];show _=some (LO.lst (nY (bC (ks.take i)++[])));rw[AI];exact g2⟩
  |nd e p1 p2=>
   refine qd g2 ?_;intro p hp;have n1:pa≠p:=vt g2 hp;have n2:D≠p:=vt g1 hp;refine ql ((qb n1).trans g2) (ql q9 ⟨?_,?_⟩)
   ·rw[dy];exact Bd (big _ (by simp;lia))
   ·refine⟨_,EC _,_,_,_,_,_,rfl,(s'.trans (By hp)).upd hpa0,(qb nDp).trans ((qb n2).trans g1),?_⟩;rw[q9,et,mL,iD];rfl
 ·rintro τ L' ⟨c6,c7,c8,c9,az,rfl,s',g1,g2⟩;rw[Ae,BK] at g2;refine xh (s' _ _ ha) fun keep kp=>du (fun i zs=>zs.length≤i) (by rw[Ae];exact big _ (by exact dO)) (kp _ rfl) (Am _) ?_ ?_
  ·rintro i y zs ey hl;rw[Ar] at ey;obtain⟨k,ek,rfl⟩:=Ay.mp ey;have no:eQ (fun zs L''=>L''=L'/\zs.length≤i+1) zs L':=⟨_,EC _,rfl,by exact ahu⟩;have yes:∀z,eQ (fun zs L''=>L''=L'/\zs.length≤i+1) (zs++[z]) L':=fun z=>⟨_,EC _,rfl,by rw[Ac,Bf];exact xK⟩;cases k with
   |lf t n=>cases t<;>exact no
   |nd e p1 p2=>
    cases e with|true=>exact yes _|false=>exact no
  rintro zs hzs p hp;refine ql q9 ?_;have s3:qj L (qf L' p (.lst zs)):=s'.trans (By hp);have k1:qf L' p (.lst zs) D=some (.lst (nY qs)):=(qb (vt g1 hp)).trans g1;have k2:qf L' p (.lst zs) pa=some (.lst (nY (bC ks))):=(qb (vt g2 hp)).trans g2;generalize qf L' p (.lst zs)=L2 at s3 k1 k2 ⊢;intro mk hmk;have hmk0:L mk=none:=s3.none hmk;have s4:qj L (qf L2 mk (.lst [])):=s3.trans (By hmk);have nDm:D≠mk:=vt k1 hmk;have npm:pa≠mk:=vt k2 hmk;refine xh (s4 _ _ ha) fun keep kp=>wo ⟨fun i τ L'=>∃c6,∃mn:Int,∃c9 az out,τ=[some (Y.ref a),some (Y.ref c),some (.int s),some (.int m),some (Y.ref D),some (Y.ref pa),c6,some (.int mn),some (Y.ref mk),c9,az]/\qj L L'/\L' D=some (.lst (nY qs))/\L' pa=some (.lst (nY (bC ks)))/\L' mk=some (.lst (dI out))/\dM ks qs i out,⟨_,_,_,_,[],rfl,s4,(qb nDm).trans k1,(qb npm).trans k2,q9,dM.nil _ _⟩,?_,?_,?_⟩
  ·rintro i τ L' ⟨c6,mn,c9,az,out,rfl,s',_⟩;exact kp L' (by rw[s' _ _ ha,s4 _ _ ha])
  ·rintro i y τ L' hy ⟨c6,mn,c9,az,out,rfl,s',g1,g2,g3,T⟩;obtain⟨z,ez,rfl⟩:=dm hy;rw[Ar] at ez;obtain⟨k,ek,rfl⟩:=Ay.mp ez;have hi:=xg ek;have ol:=T.len;refine⟨s,i,30269,rfl,by exact AX _,by omega,by decide,by decide,fun v h0 h1=>?_⟩;refine⟨show(0:Int)<8 by decide,?_⟩;have add:∀(o:Option Kn) (y:Y) (mn':Int),e9 o=y->dM ks qs (i+1) (out++[o])->eQ (fun(τ:jj) (L':qm)=>∃c6,∃mn:Int,∃c9 az out,τ=[some (Y.ref a),some (Y.ref c),some (.int s),some (.int m),some (Y.ref D),some (Y.ref pa),c6,some (.int mn),some (Y.ref mk),c9,az]/\qj L L'/\L' D=some (.lst (nY qs))/\L' pa=some (.lst (nY (bC ks)))/\L' mk=some (.lst (dI out))/\dM ks qs (i+1) out) [some (Y.ref a),some (Y.ref c),some (.int s),some (.int m),some (Y.ref D),some (Y.ref pa),some (uH k),some (.int mn'),some (Y.ref mk),some (.int ((i:Nat):Int)),some (.int (v % 8))] (qf L' mk (.lst (dI out++[y]))):=fun o y mn' ey T'=>
    ⟨_,EC _,_,_,_,_,out++[o],rfl,s'.upd hmk0,(qb nDm).trans g1,(qb npm).trans g2,by rw[q9,<-ey,ff],T'⟩
   have len:(dI out).length<sizeLine:=by rw[aa,ol];exact big _ (by lia)
   cases k with
   |lf t n=>
    have T':dM ks qs (i+1) (out++[some (.lf t n)]):=T.snoc ek (fun _ _ h=>by rw[h]) (fun _=>rfl) (fun _ _ _ h=>by cases h);exact qd g3 (ql g3 ⟨len,add _ _ mn rfl T'⟩)
   |nd e p1 p2=>
    refine qd g1 ⟨rfl,vK _,?_⟩;rw[wE];by_cases ck:i∈qs
    ·have T':dM ks qs (i+1) (out++[some (.nd e p1 p2)]):=T.snoc ek (fun _ _ h=>by cases h) (fun _=>rfl) (fun _ _ _ h=>.inr ⟨e,by cases h;rfl⟩);refine ar (by rw[AE ck];rfl) ?_;exact qd g3 (ql g3 ⟨len,add _ _ mn rfl T'⟩)
    refine aC (by rw[Au ck];rfl) ?_;have T':∀e',dM ks qs (i+1) (out++[some (.nd e' p1 p2)]):=fun e'=>T.snoc ek (fun _ _ h=>by cases h) (fun h=>absurd h ck) (fun _ _ _ h=>.inr ⟨e',by cases h;rfl⟩);refine⟨⟨by decide,by decide⟩,show(0:Int)<2 by decide,?_⟩;refine zu (fun h=>?_) (fun h=>?_)
    ·refine qd g3 ?_;refine⟨show(0:Int)<2 by decide,?_⟩;refine zu (fun h2=>?_) (fun h2=>?_)
     ·refine qd g2 ⟨rfl,vK _,?_⟩;rw[wE];by_cases cp:i∈bC ks
      ·refine aC (by rw[AE cp];rfl) ?_;exact ql g3 ⟨len,add _ _ mn rfl (T' e)⟩
      ·refine ar (by rw[Au cp];rfl) ?_;have T2:dM ks qs (i+1) (out++[none]):=T.snoc ek (fun _ _ h=>by cases h) (fun h=>absurd h ck) (fun _ _ _ h=>.inl ⟨rfl,cp⟩);exact ql g3 ⟨len,add _ _ mn rfl T2⟩
     ·exact ql g3 ⟨len,add _ _ mn rfl (T' e)⟩
    ·have same:∀(mn':Int),_:=fun mn'=>add (some (.nd e p1 p2)) _ mn' rfl (T' e);refine zu (fun h2=>?_) (fun h2=>?_)
     ·cases e with
      |true=>exact qd g3 (ql g3 ⟨len,add (some (.nd false p1 p2)) _ (mn - 1) rfl (T' false)⟩)
      |false=>
       refine zu (fun h2=>?_) (fun h2=>?_)
       ·refine zu (fun h3=>?_) (fun h3=>?_)
        ·exact qd g3 (ql g3 ⟨len,add (some (.nd true p1 p2)) _ (mn+1) rfl (T' true)⟩)
        ·exact qd g3 (ql g3 ⟨len,same mn⟩)
       ·exact qd g3 (ql g3 ⟨len,same mn⟩)
     ·refine zu (fun h3=>absurd h3 h2) (fun h3=>?_);exact qd g3 (ql g3 ⟨len,same mn⟩)
  ·rintro τ L' ⟨c6,mn,c9,az,out,rfl,s',g1,g2,g3,T⟩;rw[bZ,Ae] at T;refine⟨qf L mk (.lst (dI out)),fun b o e=>?_,q mk qs out hmk0 B T⟩;by_cases cc:b=mk
   ·subst cc;rw[q9] at e;rw[<-e];exact g3
   ·rw[qb cc] at e;exact s' _ _ e
def lA:w6:=(qw (zp (zg bO (qa 1) (zg vf (qa 2) (cN 1))) (qh 4))
 (qw (zp (oB 1 (ky (qa 1)) (qh 12) (dY (rdN (qa 12) (qa 4)) (dG (zg bO (zg bO (qa 0) (x8 12 0)) (j5 1)) (zg bO (zg bO (qa 0) (x8 4 0)) (j5 1)))) (qa 12)) (qh 5))
 (qw (x6 (dG (qa 5) (vj qy)) (x0 (qa 1)) jr)
 (qw (zp (zg bO (qa 5) (zg vf (qa 3) (cN 5))) (qh 6))
 (qw (zp (yIf (dG (zg bO (zg bO (qa 0) (x8 4 0)) (j5 0)) (eU "plain")) (qa 4) (tU (x8 4 1) (x8 4 0))) (kz 2 (zh (qh 7) (zh (qh 8) k7))))
 (qw (zp (yIf (dG (zg bO (zg bO (qa 0) (x8 6 0)) (j5 0)) (eU "plain")) (qa 6) (tU (x8 6 1) (x8 6 0))) (kz 2 (zh (qh 9) (zh (qh 10) k7))))
 (qw (zp (oB 1 (ky (qa 1)) (qh 12) (dY (rdN (qa 12) (qa 4)) (rdN (qa 12) (qa 6))) (qa 12)) (qh 11))
 (x0 (cx cZ (qe (zg xj (qa 11) (vj (qe (va (qe (cx qT (wn (qa 7) (qa 10))) (qe (cx qO (wn (qa 7) (qa 10))) qy))) (qe (va (qe (cx qT (wn (qa 9) (qa 8))) (qe (cx qO (wn (qa 9) (qa 8))) qy))) qy)))) qy))))))))))
def iy(x:Nat×Nat):Da:=.tup [.s (.int (x.1:Int)),.s (.int (x.2:Int))]
theorem oC(x y:Nat×Nat):Da.eq (iy x) (iy y)=decide (x=y):=by show(decide ((x.1:Int)=(y.1:Int))&&(decide ((x.2:Int)=(y.2:Int))&&true))=_;rw[Eu,<-Bool.decide_and];exact decide_eq_decide.mpr ⟨fun⟨h1,h2⟩=>Ey (CK.mp h1) (CK.mp h2),fun h=>by subst h;exact⟨rfl,rfl⟩⟩
theorem gw(x:Nat×Nat):js L 1 (mO x) (iy x):=bV (.cons (EL _) (.cons (EL _) .nil))
theorem rJ{L:qm}:∀l:List (Nat×Nat),Paired (js L 1) (qr l) (l.map iy)
 |[]=>.nil
 |_::r=>.cons (bV (.cons (EL _) (.cons (EL _) .nil))) (rJ r)
theorem acn(l:List (Nat×Nat)):Da.eqs (l.map iy) []=decide (l=[]):=by cases l<;>rfl
theorem vT{f:Nat×Nat->Bool}{keep:qm->Prop}{Q:YK}(hz:lk.length≤1000)(hk:keep L)
 (turn:∀(i:Nat) (pr:Nat×Nat) (R:List Y->qm->Prop) zs,lk[i]?=some pr->(f pr=true->R (zs++[mO pr]) L)->(f pr=false->R zs L)->g (mO pr) (τ++List.replicate 1 none) L fun τ2 L2=>tc τ2 L2 fun b L3=>wb b (te τ2 L3 fun z L4=>R (zs++[z]) L4) (R zs L3))
 (hq:∀p,L p=none->Q (.ref p) (qf L p (.lst (qr (lk.filter f))))):vM (qr lk) keep 1 g tc te τ L Q:=by
 refine du (fun i zs=>zs=qr ((lk.take i).filter f)) (by rw[Ae];exact Bw hz (by decide)) hk rfl ?_ ?_
 ·rintro i y zs ey rfl;rw[Ar] at ey;obtain⟨pr,ek,rfl⟩:=Ay.mp ey;have et:lk.take (i+1)=lk.take i++[pr]:=by rw[BD,ek];rfl
  refine turn i pr _ _ ek (fun h=>⟨L,EC _,rfl,?_⟩) fun h=>⟨L,EC _,rfl,?_⟩
  ·rw[et,C9,Ei h,C6,<-gm]
  ·rw[et,C9,Eh (by rw[h];simp),C6,AI]
 ·rintro zs rfl p hp;rw[Ae,BK];exact hq p hp
structure LkI(ks:List Kn)(lk:List (Nat×Nat)):Prop where
 nd:(ju lk).Nodup
 lt:∀p∈lk,p.1<p.2
 at_:∀p∈lk,∃t n,ks[p.1]?=some (.lf t n)/\ks[p.2]?=some (.lf (!t) n)
theorem xz(c:Nat×Nat)(r:List (Nat×Nat)):ju (c::r)=c.1::c.2::ju r:=by
 have e:ju (c::r)=[c.1,c.2]++ju r:=by rw[<-al,<-kg];rfl
 rw[e];rfl
theorem cH{l m:List (Nat×Nat)}(h:l.Perm m):(ju l).Perm (ju m):=by
 induction h with
 |nil=>exact .nil
 |cons x _ ih=>rw[xz,xz];exact(ih.cons _).cons _
 |swap x y l=>
  rw[xz,xz,xz,xz];exact(Bb (l₁:=[y.1,y.2]) (l₂:=[x.1,x.2])).append_right (ju l)
 |trans _ _ h1 h2=>exact h1.trans h2
theorem we:∀{l:List (Nat×Nat)},(ju l).Nodup->l.Nodup
 |[],_=>DP
 |c::r,h=>by rw[xz] at h;have h1:=Av.mp h;have h2:=Av.mp h1.2;exact Av.mpr ⟨fun hc=>h1.1 (Ag _ (dz hc).1),we h2.2⟩
theorem ad6{l:List (Nat×Nat)}(nd:l.Nodup){x y:Nat×Nat}(hx:x∈l)(hy:y∈l)(ne:x≠y):l.Perm (x::y::l.filter fun z=>decide (z≠x)&&decide (z≠y)):=by
 refine(B6 nd ?_).mpr fun z=>?_
 ·refine Av.mpr ⟨fun h=>?_,Av.mpr ⟨fun h=>?_,nd.filter _⟩⟩
  ·rcases Ap.mp h with h | h
   ·exact ne h
   ·simp at h
  ·simp at h
 ·by_cases c1:z=x
  ·subst c1;simp[hx]
  ·by_cases c2:z=y
   ·subst c2;simp[hy]
   ·simp[c1,c2]
def eZ(a b:Nat):Nat×Nat:=(min a b,max a b)
theorem vD(a b:Nat)(r:List Nat):(min a b::max a b::r).Perm (a::b::r):=by
 by_cases c:a≤b
 ·rw[BW c,Dz c]
 ·rw[Dy (by lia),DD (by lia)];exact List.Perm.swap ..
def jh(t:Bool)(p:Nat×Nat):Nat×Nat:=if t=true then(p.2,p.1) else p
theorem i8(t:Bool)(p:Nat×Nat)(r:List Nat):((jh t p).1::(jh t p).2::r).Perm (p.1::p.2::r):=by cases t with|true=>exact List.Perm.swap ..|false=>exact .refl _
theorem LkI.cross(I:LkI ks lk){x y:Nat×Nat}(hx:x∈lk)(hy:y∈lk)(ne:x≠y){u:Bool}{n:Str}(x1:ks[x.1]?=some (.lf t n))(x2:ks[x.2]?=some (.lf (!t) n))(y1:ks[y.1]?=some (.lf u n))(y2:ks[y.2]?=some (.lf (!u) n)):
 (ju ((lk.filter fun z=>decide (z≠x)&&decide (z≠y))++[eZ (jh t x).1 (jh u y).2,eZ (jh u y).1 (jh t x).2])).Perm (ju lk)/\
 LkI ks ((lk.filter fun z=>decide (z≠x)&&decide (z≠y))++[eZ (jh t x).1 (jh u y).2,eZ (jh u y).1 (jh t x).2]):=by
 have pm:=cH (ad6 (we I.nd) hx hy ne);rw[xz,xz] at pm;generalize eR:(lk.filter fun z=>decide (z≠x)&&decide (z≠y))=rest at pm;have hp:(ju (rest++[eZ (jh t x).1 (jh u y).2,eZ (jh u y).1 (jh t x).2])).Perm (ju lk):=by rw[kg,xz,al];refine Bb.trans (List.Perm.trans ?_ pm.symm);refine(vD (jh t x).1 (jh u y).2 _).trans ?_;refine(((vD (jh u y).1 (jh t x).2 (ju rest)).cons _).cons _).trans ?_;refine List.Perm.trans ?_ (i8 t x _);refine List.Perm.cons _ ?_;refine List.Perm.trans ?_ ((i8 u y _).cons _);refine(Bb (l₁:=[(jh u y).2,(jh u y).1]) (l₂:=[(jh t x).2])).append_right (ju rest) |>.trans ?_;exact(List.Perm.swap ..).cons _
 have pa:ks[(jh t x).1]?=some (.lf false n)/\ks[(jh t x).2]?=some (.lf true n):=by cases t;exact⟨x1,x2⟩;exact⟨x2,x1⟩
 have pb:ks[(jh u y).1]?=some (.lf false n)/\ks[(jh u y).2]?=some (.lf true n):=by cases u;exact⟨y1,y2⟩;exact⟨y2,y1⟩
 have two:∀a b,ks[a]?=some (.lf false n)->ks[b]?=some (.lf true n)->(eZ a b).1<(eZ a b).2/\∃t n,ks[(eZ a b).1]?=some (.lf t n)/\ks[(eZ a b).2]?=some (.lf (!t) n):=fun a b ea eb=>by
  have nab:a≠b:=fun h=>by subst h;rw[ea] at eb;cases eb
  unfold eZ;by_cases c:a<b
  ·rw[BW (by exact fc),Dz (by lia)];exact⟨c,false,n,ea,eb⟩
  ·rw[Dy (by exact uR),DD (by lia)];exact⟨by show b<a;lia,true,n,eb,ea⟩
 refine⟨hp,hp.nodup_iff.mpr I.nd,fun p h=>?_,fun p h=>?_⟩
 ·rcases Aj.mp h with h | h
  ·rw[<-eR] at h;exact I.lt p (B8.mp h).1
  ·rcases Ap.mp h with rfl | h
   ·exact(two _ _ pa.1 pb.2).1
   ·rw[AB.mp h];exact(two _ _ pb.1 pa.2).1
 ·rcases Aj.mp h with h | h
  ·rw[<-eR] at h;exact I.at_ p (B8.mp h).1
  ·rcases Ap.mp h with rfl | h
   ·exact(two _ _ pa.1 pb.2).2
   ·rw[AB.mp h];exact(two _ _ pb.1 pa.2).2
theorem LkI.perm{l m:List (Nat×Nat)}(I:LkI ks l)(p:m.Perm l):LkI ks m:=⟨(cH p).nodup_iff.mpr I.nd,fun x hx=>I.lt x (p.mem_iff.mp hx),fun x hx=>I.at_ x (p.mem_iff.mp hx)⟩
def fQ:xw:=fun ys L Q=>∃a l,∃ks:List Kn,∃lk:List (Nat×Nat),∃one two:Int,ys=[.ref a,.ref l,.int one,.int two]/\L a=some (.lst (jb ks))/\L l=some (.lst (qr lk))/\LkI ks lk/\lk≠[]/\lk.length≤900/\ks.length≤1000/\
 Q (.ref l) L/\∀D lk',L D=none->LkI ks lk'->lk'.length=lk.length->(ju lk').Perm (ju lk)->lk'.Pairwise kI->Q (.ref D) (qf L D (.lst (qr lk')))
def gU(ks:List Kn)(p:Nat):Str:=match ks[p]? with
 |some (.lf _ n)=>n
 |_ => ""
theorem jJ{p:Nat}{n:Str}(e:ks[p]?=some (.lf t n)):gU ks p=n:=by unfold gU;rw[e]
theorem yz{l:List (Nat×Nat)}{x:Nat×Nat}(h:l[i]?=some x):(qr l)[i]?=some (mO x):=by rw[Ar,h];rfl
def ada:w6:=(qw (zp (oB 1 (ky (qa 1)) (qh 12) (dY (rdN (qa 12) (qa 4)) (rdN (qa 12) (qa 6))) (qa 12)) (qh 11))
 (x0 (cx cZ (qe (zg xj (qa 11) (vj (qe (va (qe (cx qT (wn (qa 7) (qa 10))) (qe (cx qO (wn (qa 7) (qa 10))) qy))) (qe (va (qe (cx qT (wn (qa 9) (qa 8))) (qe (cx qO (wn (qa 9) (qa 8))) qy))) qy)))) qy))))
theorem cf{En:xa}{c0 c2 c3 c5:Option Y}{x y:Nat×Nat}{A B C D:Nat}(hl:L l=some (.lst (qr lk)))(hz:lk.length≤900)
 (nd:((lk.filter fun z=>decide (z≠x)&&decide (z≠y))++[eZ A D,eZ C B]).Nodup) (hb:∀p∈(lk.filter fun z=>decide (z≠x)&&decide (z≠y))++[eZ A D,eZ C B],p.2<1000000)
 (q:∀L' Dd qs,qj L L'->L' Dd=none->qs.Perm ((lk.filter fun z=>decide (z≠x)&&decide (z≠y))++[eZ A D,eZ C B])->qs.Pairwise kI->En.rt (.ref Dd) (qf L' Dd (.lst (qr qs)))):
 ada En [c0,some (.ref l),c2,c3,some (mO x),c5,some (mO y),some (.int (A:Int)),some (.int (B:Int)),some (.int (C:Int)),some (.int (D:Int)),none] L:=by
 have big:=bg_;refine xh hl fun keep kp=>vT (f:=fun z=>decide (z≠x)&&decide (z≠y)) (by exact dO) (kp _ rfl) (fun i pr R zs ep hy hno=>?_) fun p hp=>?_
 ·refine⟨rfl,rfl,1,1,iy pr,iy x,by decide,gw pr,gw x,?_⟩;rw[oC];by_cases c:pr=x
  ·refine aC (by rw[AE c];rfl) (hno (by rw[Au (by simpa using c)];rfl))
  ·refine ar (by rw[Au c];rfl) ?_;refine⟨rfl,rfl,1,1,iy pr,iy y,by decide,gw pr,gw y,?_⟩;rw[oC];by_cases c2:pr=y
   ·refine aC (by rw[AE c2];rfl) (hno (by rw[Au (by simpa using c2:¬pr≠y),Do]))
   ·refine ar (by rw[Au c2];rfl) (hy (by rw[AE c,AE c2];rfl))
 obtain⟨rs,ers⟩:∃rs,rs=lk.filter fun z=>decide (z≠x)&&decide (z≠y):=⟨_,rfl⟩;rw[<-ers] at nd hb q ⊢;have lr:rs.length≤lk.length:=by rw[ers];exact CM ..
 intro p2 hp2;have e1:(Y.tup [.int (min (A:Int) (D:Int)),.int (max (A:Int) (D:Int))])=mO (eZ A D):=by
  have e2:min (A:Int) (D:Int)=((min A D:Nat):Int):=by omega
  have e3:max (A:Int) (D:Int)=((max A D:Nat):Int):=by omega
  unfold mO eZ;rw[e2,e3]
 have e2:(Y.tup [.int (min (C:Int) (B:Int)),.int (max (C:Int) (B:Int))])=mO (eZ C B):=by
  have e2:min (C:Int) (B:Int)=((min C B:Nat):Int):=by omega
  have e3:max (C:Int) (B:Int)=((max C B:Nat):Int):=by omega
  unfold mO eZ;rw[e2,e3]
 have h2:qf (qf L p (.lst (qr rs))) p2 (.lst [Y.tup [.int (min (A:Int) (D:Int)),.int (max (A:Int) (D:Int))],Y.tup [.int (min (C:Int) (B:Int)),.int (max (C:Int) (B:Int))]]) p2=some (.lst (qr [eZ A D,eZ C B])):=by rw[q9,e1,e2];rfl
 have np:p≠p2:=vt q9 hp2;have h1:qf (qf L p (.lst (qr rs))) p2 (.lst [Y.tup [.int (min (A:Int) (D:Int)),.int (max (A:Int) (D:Int))],Y.tup [.int (min (C:Int) (B:Int)),.int (max (C:Int) (B:Int))]]) p=some (.lst (qr rs)):=(qb np).trans q9;have sL:qj L (qf (qf L p (.lst (qr rs))) p2 (.lst [Y.tup [.int (min (A:Int) (D:Int)),.int (max (A:Int) (D:Int))],Y.tup [.int (min (C:Int) (B:Int)),.int (max (C:Int) (B:Int))]])):=(By hp).trans (By hp2);refine⟨_,_,h1,h2,?_,fun p3 hp3=>?_⟩
 ·rw[Ae,Ae];exact Bd (big _ (by simp;lia))
 generalize qf (qf L p (.lst (qr rs))) p2 (.lst [Y.tup [.int (min (A:Int) (D:Int)),.int (max (A:Int) (D:Int))],Y.tup [.int (min (C:Int) (B:Int)),.int (max (C:Int) (B:Int))]])=L1 at h1 h2 sL hp3 ⊢;have ea:qr rs++qr [eZ A D,eZ C B]=qr (rs++[eZ A D,eZ C B]):=by unfold qr;rw[AC]
 rw[ea];dsimp only[qy];refine sS (ps:=rs++[eZ A D,eZ C B]) q9 hb nd (by rw[Ac];show rs.length+2≤_;lia) fun Dd qs hD pm pw=>?_;exact q _ Dd qs (sL.trans (By hp3)) hD pm pw
theorem uT:∀ys L Q,fQ ys L Q->k6 lA 12 ys L Q:=by
 rintro ys L Q ⟨a,l,ks,lk,one,two,rfl,ha,hl,I,ne,hz,hn,q0,q⟩;have big:=bg_;have lpos:0<lk.length:=DF.mpr ne;obtain⟨j1,x,e1,h1,ex⟩:=gu lpos one;have pl:(qr lk).length=lk.length:=Ae ..;have mx:=AR ex;obtain⟨t,n,x1,x2⟩:=I.at_ x mx;refine qd hl ⟨by show(0:Int)<((qr lk).length:Int);rw[pl];lia,qd hl (qx (by rw[pl,e1];exact w5 (yz ex):gc (qr lk) (one % ((qr lk).length:Int))=some (mO x)) ?_)⟩;refine xh hl fun keep kp=>vT (f:=fun z=>decide (z≠x)&&decide (gU ks z.1=gU ks x.1)) (by exact dO) (kp _ rfl) (fun i pr R zs ep hy hno=>?_) fun p hp=>?_
 ·obtain⟨t2,n2,p1,p2⟩:=I.at_ pr (AR ep);refine⟨rfl,rfl,1,1,iy pr,iy x,by decide,gw pr,gw x,?_⟩;rw[oC];by_cases c:pr=x
  ·refine aC (by rw[AE c];rfl) (hno (by rw[Au (by simpa using c)];rfl))
  ·refine ar (by rw[Au c];rfl) ?_;refine qd ha (qx (w9 p1) ?_);refine qd ha (qx (w9 x1) ?_);have en:(decide (gU ks pr.1=gU ks x.1))=decide (n2=n):=by rw[jJ p1,jJ x1]
   refine zu (fun h=>hy ?_) (fun h=>hno ?_)
   ·rw[en,AE h,AE c];rfl
   ·rw[en,Au h,Do]
 have np:l≠p:=vt hl hp;have s1:qj L (qf L p (.lst (qr (lk.filter fun z=>decide (z≠x)&&decide (gU ks z.1=gU ks x.1))))):=By hp;have g1:qf L p (.lst (qr (lk.filter fun z=>decide (z≠x)&&decide (gU ks z.1=gU ks x.1)))) p=some (.lst (qr (lk.filter fun z=>decide (z≠x)&&decide (gU ks z.1=gU ks x.1)))):=q9;obtain⟨mt,emt⟩:∃mt,mt=lk.filter fun z=>decide (z≠x)&&decide (gU ks z.1=gU ks x.1):=⟨_,rfl⟩;rw[<-emt] at s1 g1 ⊢;have lm:mt.length≤lk.length:=by rw[emt];exact CM ..
 generalize qf L p (.lst (qr mt))=L1 at s1 g1 ⊢;intro p2 hp2;refine cA (n:=1) (m:=0) (by decide) (By hp2 _ _ g1) q9 (rJ mt) (.nil:Paired (js _ 0) _ []) ?_;have s2:qj L (qf L1 p2 (.lst [])):=s1.trans (By hp2);have g2:qf L1 p2 (.lst []) p=some (.lst (qr mt)):=By hp2 _ _ g1;generalize qf L1 p2 (.lst [])=L2 at s2 g2 ⊢;show wb (Da.eqs (mt.map iy) []) _ _;rw[acn];by_cases cm:mt=[]
 ·refine ar (by rw[AE cm]) ?_;exact⟨L,s2,q0⟩
 refine aC (by rw[Au cm]) ?_;obtain⟨j2,y,e2,h2,ey⟩:=gu (DF.mpr cm) two;have pm:(qr mt).length=mt.length:=Ae ..;have my:=AR ey;rw[emt] at my;obtain⟨my,cy⟩:=B8.mp my;rw[AY,CG,CG] at cy;obtain⟨u,n',y1,y2⟩:=I.at_ y my;have enn:n'=n:=by rw[<-jJ y1,<-jJ x1];exact cy.2
 subst enn;have hl2:=s2 _ _ hl;have ha2:=s2 _ _ ha;refine qd g2 ⟨by show(0:Int)<((qr mt).length:Int);rw[pm];have:=DF.mpr cm;lia,qd g2 (qx (by rw[pm,e2];exact w5 (yz ey):gc (qr mt) (two % ((qr mt).length:Int))=some (mO y)) ?_)⟩;obtain⟨cp,cI⟩:=I.cross mx my (AK cy.1) x1 x2 y1 y2;have tail:∀L' Dd qs,qj L2 L'->L' Dd=none->qs.Perm ((lk.filter fun z=>decide (z≠x)&&decide (z≠y))++[eZ (jh t x).1 (jh u y).2,eZ (jh u y).1 (jh t x).2])->qs.Pairwise kI->hZ Q (.ref Dd) (qf L' Dd (.lst (qr qs))):=fun L' Dd qs sl hD pq pw=>by
  have hD0:L Dd=none:=s2.none (sl.none hD);refine⟨qf L Dd (.lst (qr qs)),fun b o e=>?_,q Dd qs hD0 (cI.perm pq) ?_ ((cH pq).trans cp) pw⟩
  ·by_cases c:b=Dd
   ·subst c;rw[q9] at e ⊢;exact e
   ·rw[qb c] at e ⊢;exact sl _ _ (s2 _ _ e)
  ·have l1:=cp.length_eq;rw[kj,kj] at l1;rw[pq.length_eq];lia
 have nd2:=we cI.nd;have hb2:∀p∈(lk.filter fun z=>decide (z≠x)&&decide (z≠y))++[eZ (jh t x).1 (jh u y).2,eZ (jh u y).1 (jh t x).2],p.2<1000000:=fun p hp=>by obtain⟨_,_,_,h⟩:=cI.at_ p hp;have:=xg h;lia
 refine qd ha2 (qx (w9 x1) ?_);cases t with
 |false=>
  refine qd ha2 (qx (w9 y1) ?_);cases u with|false=>exact cf hl2 hz nd2 hb2 tail|true=>exact cf hl2 hz nd2 hb2 tail
 |true=>
  refine qd ha2 (qx (w9 y1) ?_);cases u with|false=>exact cf hl2 hz nd2 hb2 tail|true=>exact cf hl2 hz nd2 hb2 tail
def tR(p0:xw)(p1:xw)(p2:xw)(p3:xw)(p4:xw)(p5:xw):w6:=(qw (zp (zo p0 (qe (qa 1) (wn (j5 5) (j5 16807)))) (qh 4))
 (qw (zp (zg (vS false) (zg vf (qa 4) (j5 4)) (j5 1)) (qh 5))
 (cL (x6 (yB (qa 5)) (zp (cx qT (wn (qa 2) (j5 57))) (qh 2)) jr)
 (qw (zp (zo p1 (qe (qa 0) (wn (qa 1) (qa 2)))) (kz 2 (zh (qh 6) (zh (qh 7) k7))))
 (qw (zp (zo p2 (aR (qa 7))) (kz 2 (zh (qh 8) (zh (qh 9) k7))))
 (qw (fO (fb (qe (zg vf (zg aU (qa 4) (j5 4)) (j5 3)) qy)) (qh 10) (zp (zo p3 (qe (qa 6) (qe (qa 8) (qe (zo p0 (qe (qa 1) (qe (zg xj (j5 11) (qa 10)) (aR (j5 16807))))) (qe (zo p0 (qe (qa 1) (qe (zg xj (j5 17) (qa 10)) (aR (j5 40692))))) qy))))) (qh 8)))
 (cL (x6 (dG (zg vf (zg aU (qa 4) (j5 12)) (j5 2)) (j5 1)) (zp (zo p4 (qe (qa 6) (qe (qa 9) (wn (qa 1) (qa 3))))) (qh 6)) jr)
 (x0 (zo p5 (qe (qa 6) (qe (qa 8) (qe (qa 9) (wn (qa 1) (qa 5))))))))))))))
theorem bP:∀R:Ru,iz R+1≤(zr R).length
 |.link _ _=>Am _
 |.ei r A=>by have:=bP A;show iz A+1+1≤(r::zr A).length;rw[AF];exact xK
 |.bo r A B=>by have:=bP A;have:=bP B;show iz A+iz B+1+1≤(r::(zr A++zr B)).length;rw[AF,Ac];lia
 |.cu _ _ A B=>by have:=bP A;have:=bP B;show iz A+iz B+1+1≤(zr A++zr B).length;rw[Ac];lia
theorem vz:∀R:Ru,∃rest,(ju (j6 R)++rest).Perm (zr R)
 |.link p q=>⟨[],.refl _⟩
 |.ei r A=>by obtain⟨u,h⟩:=vz A;exact⟨r::u,B3.trans (h.cons r)⟩
 |.bo r A B=>by obtain⟨u,h⟩:=vz A;obtain⟨v,k⟩:=vz B;refine⟨r::(u++v),?_⟩;show(ju (j6 A++j6 B)++r::(u++v)).Perm (r::(zr A++zr B));rw[kg];refine B3.trans (List.Perm.cons r ?_);refine List.Perm.trans ?_ (h.append k);rw[Aw,Aw];refine Dx _ ?_;rw[<-Aw,<-Aw];exact Du _ Bb
 |.cu p q A B=>by obtain⟨u,h⟩:=vz A;obtain⟨v,k⟩:=vz B;refine⟨u++v,?_⟩;show(ju (j6 A++j6 B)++(u++v)).Perm (zr A++zr B);rw[kg];refine List.Perm.trans ?_ (h.append k);rw[Aw,Aw];refine Dx _ ?_;rw[<-Aw,<-Aw];exact Du _ Bb
theorem SR.links{E:List Nat}(h:SR ks R E):∀p∈j6 R,p.1<p.2/\∃t n,ks[p.1]?=some (.lf t n)/\ks[p.2]?=some (.lf (!t) n):=by induction h with|@link p q t n E h1 h2 h3 h4 h5=>intro x hx;rw[AB.mp hx];exact⟨h1,t,n,h2,h3⟩|ei _ _ _ _ _ _ _ ih=>exact ih|bo _ _ _ _ _ _ _ ih1 ih2=>intro x hx;exact(Aj.mp hx).elim (ih1 x) (ih2 x)|cu _ _ _ _ _ _ _ _ ih1 ih2=>intro x hx;exact(Aj.mp hx).elim (ih1 x) (ih2 x)
theorem SR.lkI{E:List Nat}(h:SR ks R E)(nd:(zr R).Nodup):LkI ks (j6 R):=by obtain⟨u,hu⟩:=vz R;exact⟨(AH.mp (hu.nodup_iff.mpr nd)).1,fun p hp=>(h.links p hp).1,fun p hp=>(h.links p hp).2⟩
theorem SR.cuts{E:List Nat}(h:SR ks R E):(zr R).Nodup->(ju (jl R)).Nodup/\(∀x∈ju (jl R),x∉E/\x∈zr R):=by
 induction h with
 |link _ _ _ _ _=>exact fun _=>⟨DP,fun x hx=>by cases hx⟩
 |@ei r i j A EA E h1 h2 h3 h4 h5 h6 h7 ih=>
  intro nd;obtain⟨n1,n2⟩:=Av.mp (show(r::zr A).Nodup from nd);obtain⟨a,b⟩:=ih n2;refine⟨a,fun x hx=>⟨fun hE=>?_,Ag _ (b x hx).2⟩⟩;rcases (h6 x).mp hE with⟨z,_⟩ | rfl
  ·exact(b x hx).1 z
  ·exact n1 (b x hx).2
 |@bo r i j A B EA EB E h1 h2 h3 h4 h5 h6 h7 ih1 ih2=>
  intro nd;obtain⟨n1,n2⟩:=Av.mp (show(r::(zr A++zr B)).Nodup from nd);obtain⟨m1,m2,m3⟩:=AH.mp n2;obtain⟨a1,b1⟩:=ih1 m1;obtain⟨a2,b2⟩:=ih2 m2;have sA:=h2.sub;have sB:=h3.sub;show(ju (jl A++jl B)).Nodup/\∀x∈ju (jl A++jl B),x∉E/\x∈r::(zr A++zr B);rw[kg];refine⟨AH.mpr ⟨a1,a2,fun x hx y hy=>m3 x (b1 x hx).2 y (b2 y hy).2⟩,fun x hx=>?_⟩;rcases Aj.mp hx with hx | hx
  ·refine⟨fun hE=>?_,Ag _ (An _ (b1 x hx).2)⟩;rcases (h6 x).mp hE with⟨z,_⟩ | ⟨z,_⟩ | rfl
   ·exact(b1 x hx).1 z
   ·exact m3 x (b1 x hx).2 x (sB x z) rfl
   ·exact n1 (An _ (b1 _ hx).2)
  ·refine⟨fun hE=>?_,Ag _ (Ah _ (b2 x hx).2)⟩;rcases (h6 x).mp hE with⟨z,_⟩ | ⟨z,_⟩ | rfl
   ·exact m3 x (sA x z) x (b2 x hx).2 rfl
   ·exact(b2 x hx).1 z
   ·exact n1 (Ah _ (b2 _ hx).2)
 |@cu p q A B EA EB E w h1 h2 h3 h4 h5 h6 h7 h8 ih1 ih2=>
  intro nd;obtain⟨m1,m2,m3⟩:=AH.mp (show(zr A++zr B).Nodup from nd);obtain⟨a1,b1⟩:=ih1 m1;obtain⟨a2,b2⟩:=ih2 m2;have sA:=h1.sub;have sB:=h2.sub;show(ju ((p,q)::(jl A++jl B))).Nodup/\∀x∈ju ((p,q)::(jl A++jl B)),x∉E/\x∈zr A++zr B;rw[xz,kg];have tp:=sA p h3;have tq:=sB q h4;have npq:p≠q:=fun e=>m3 p tp q tq e;have out:∀x,x∈ju (jl A)++ju (jl B)->x≠p/\x≠q:=fun x hx=>by
   rcases Aj.mp hx with hx | hx
   ·exact⟨fun e=>(b1 x hx).1 (e▸h3),fun e=>m3 x (b1 x hx).2 q tq e⟩
   ·exact⟨fun e=>m3 p tp x (b2 x hx).2 e.symm,fun e=>(b2 x hx).1 (e▸h4)⟩
  refine⟨Av.mpr ⟨fun h=>?_,Av.mpr ⟨fun h=>(out q h).2 rfl,AH.mpr ⟨a1,a2,fun x hx y hy=>m3 x (b1 x hx).2 y (b2 y hy).2⟩⟩⟩,fun x hx=>?_⟩
  ·rcases Ap.mp h with h | h
   ·exact npq h
   ·exact(out p h).1 rfl
  ·have inE:x∈E->(x∈EA/\x≠p)\/(x∈EB/\x≠q):=(h7 x).mp;rcases Ap.mp hx with rfl | hx
   ·exact⟨fun hE=>(inE hE).elim (fun z=>z.2 rfl) fun z=>m3 x tp x (sB x z.1) rfl,An _ tp⟩
   ·rcases Ap.mp hx with rfl | hx
    ·exact⟨fun hE=>(inE hE).elim (fun z=>m3 x (sA x z.1) x tq rfl) fun z=>z.2 rfl,Ah _ tq⟩
    ·rcases Aj.mp hx with hx | hx
     ·exact⟨fun hE=>(inE hE).elim (fun z=>(b1 x hx).1 z.1) fun z=>m3 x (b1 x hx).2 x (sB x z.1) rfl,An _ (b1 x hx).2⟩
     ·exact⟨fun hE=>(inE hE).elim (fun z=>m3 x (sA x z.1) x (b2 x hx).2 rfl) fun z=>(b2 x hx).1 z.1,Ah _ (b2 x hx).2⟩
structure aj4(wd:List (Option Kn))(lk' ct':List (Nat×Nat)):Prop where
 ex:∃(ks:List Kn) (R:Ru) (E:List Nat) (lk ct:List (Nat×Nat)) (out:List (Option Kn)) (f:Nat->Nat),ak ks/\SR ks R E/\(zr R).Perm (List.range ks.length)/\ks.length≤120/\
  LkI ks lk/\(ju lk).Perm (ju (j6 R))/\ct.Perm (jl R)/\(out=ks.map some\/∃qs,l9 ks ct qs []/\dM ks qs ks.length out)/\Ren f out wd/\lk'.Perm (lk.map (mmP f))/\lk'.Pairwise kI/\ct'.Perm (ct.map (ppP f))/\ct'.Pairwise kI
theorem dM.okO{out:List (Option Kn)}(ok:ak ks)(T:dM ks qs ks.length out):yn out:=by
 intro p e i j h;have hp:p<ks.length:=by have:=xg h;rw[T.len] at this;exact this
 cases ek:ks[p]? with
 |none=>rw[Al hp] at ek;cases ek
 |some k=>
  cases k with
  |lf t n=>
   have:=T.lf p t n hp ek;rw[h] at this;cases this
  |nd e' i' j'=>
   have lt:i'<p/\j'<p:=ok p _ ek;rcases T.nd p e' i' j' hp ek with⟨z,_⟩ | ⟨e2,z⟩
   ·rw[h] at z;cases z
   ·rw[h] at z;cases z;exact lt
theorem yu(ok:ak ks):yn (ks.map some):=by intro p e i j h;rw[Ar] at h;obtain⟨k,ek,e1⟩:=Ay.mp h;cases e1;exact ok p _ ek
theorem zC(ks:List Kn):dI (ks.map some)=jb ks:=by show(ks.map some).map e9=ks.map uH;rw[BR];rfl
theorem rD(ks:List Kn):∀l:List (Nat×Nat),2*l.length≤bH (ax ks) l:=fun l=>by have:=gb ks (ju l);rw[af,kj] at this;exact this
theorem y7{f:Nat->Nat}{l m:List (Nat×Nat)}(h:l.Perm m):bH f l=bH f m:=by rw[<-af,<-af];exact((cH h).map f).sum_nat
def ui(Pt:Addr):xw:=fun ys L Q=>∃cy,∃ns:List Int,∃s m:Int,∃room:Nat,ys=[cy,.int s,.int (room:Int),.int m]/\cy=.sq (ns.map Y.int)/\ns.length≤1000/\room≤120/\L Pt=some (.tb lamQ)/\
 ∀wa la ca wd lk ct L',aj4 wd lk ct->qj L L'->L wa=none->L la=none->L ca=none->wa≠la->wa≠ca->la≠ca->L' wa=some (.lst (dI wd))->L' la=some (.lst (qr lk))->L' ca=some (.lst (qr ct))->Q (fj wa la ca) L'
theorem ais :∀ys L Q,ui Pt ys L Q->k6 (tR cq oV oz fQ iP (iL Pt)) 11 ys L Q:=by
 rintro ys L Q ⟨cy,ns,s,m,room,rfl,hcy,hns,hroom,hP,q⟩;have big:=bg_;refine⟨s,5,16807,rfl,by decide,by decide,by decide,by decide,fun v h0 h1=>?_⟩;refine⟨show(0:Int)<4 by decide,?_⟩;refine⟨fun τ' L'=>∃room':Nat,room'≤120/\τ'=[some cy,some (.int s),some (.int (room':Int)),some (.int m),some (.int v),some (.bl (decide (v % 4=1))),none,none,none,none,none]/\L'=L,?_,?_⟩
 ·refine zu (fun h=>?_) (fun h=>?_)
  ·refine⟨min room 57,by lia,?_,rfl⟩;have e:min (room:Int) 57=((min room 57:Nat):Int):=by lia
   rw[<-e,AE h];rfl
  ·exact⟨room,hroom,by rw[Au h];rfl,rfl⟩
 rintro τ' L' ⟨room',hr,rfl,rfl⟩;refine⟨cy,ns,s,room',rfl,hcy,hns,hr,fun ka ks R E hka ok SRh tp kl=>?_⟩;have hk120:ks.length≤120:=by lia
 have tl:(zr R).length=ks.length:=by rw[tp.length_eq,BN]
 have tn:(zr R).Nodup:=tp.nodup_iff.mpr CV;have tlt:∀x∈zr R,x<ks.length:=fun x hx=>Bv.mp (tp.mem_iff.mp hx);have LI:=SRh.lkI tn;obtain⟨cn,cin⟩:=SRh.cuts tn;have wgt:=SRh.weight ok;have csz:bH (ax ks) (jl R)≤120:=by lia
 have cl:=rD ks (jl R);have clt:∀x∈jl R,x.1<ks.length/\x.2<ks.length:=fun x hx=>⟨tlt _ (cin _ (dz hx).1).2,tlt _ (cin _ (dz hx).2).2⟩;have ll:2*(j6 R).length≤ks.length:=by obtain⟨u,hu⟩:=vz R;have:=hu.length_eq;rw[Ac,kj] at this;lia
 have llt:∀x∈j6 R,x.1<ks.length/\x.2<ks.length:=fun x hx=>by obtain⟨_,t,n,a,b⟩:=SRh.links x hx;exact⟨xg a,xg b⟩
 have lne:j6 R≠[]:=by
  have:∀R:Ru,1≤(j6 R).length:=fun R=>by induction R with|link p q=>exact Am _|ei r A ih=>exact ih|bo r A B ih _=>show 1≤(j6 A++j6 B).length;rw[Ac];exact ahy|cu p q A B ih _=>show 1≤(j6 A++j6 B).length;rw[Ac];lia
  intro e;have:=this R;rw[e] at this;simp at this
 have s1:qj L' (qf L' ka (.lst (jb ks))):=By hka;have rd:=aH R;have rz:=bP R;refine⟨R,rfl,by lia,by lia,we LI.nd,we cn,fun p hp=>by have:=(llt p hp).2;lia,fun p hp=>by have:=(clt p hp).2;lia,by lia,by lia,fun la ca lk ct hla hca nlc pl pw1 pc pw2=>?_⟩;have nka:ka≠la:=vt q9 hla;have nkc:ka≠ca:=vt q9 hca;have hca':(qf (qf L' ka (.lst (jb ks))) la (.lst (qr lk))) ca=none:=(qb (AK nlc)).trans hca;have s2:qj L' (qf (qf (qf L' ka (.lst (jb ks))) la (.lst (qr lk))) ca (.lst (qr ct))):=(s1.trans (By hla)).trans (By hca');have g1:qf (qf (qf L' ka (.lst (jb ks))) la (.lst (qr lk))) ca (.lst (qr ct)) ka=some (.lst (jb ks)):=(qb nkc).trans ((qb nka).trans q9);have g2:qf (qf (qf L' ka (.lst (jb ks))) la (.lst (qr lk))) ca (.lst (qr ct)) la=some (.lst (qr lk)):=(qb nlc).trans q9;have g3:qf (qf (qf L' ka (.lst (jb ks))) la (.lst (qr lk))) ca (.lst (qr ct)) ca=some (.lst (qr ct)):=q9;generalize qf (qf (qf L' ka (.lst (jb ks))) la (.lst (qr lk))) ca (.lst (qr ct))=L1 at s2 g1 g2 g3 ⊢;have b0:(0:Int)≤v / 4 % 3:=C7 _ (by decide);have b1:v / 4 % 3<3:=De _ (by decide);have rng:∃r:Nat,v / 4 % 3=(r:Int)/\r<3:=⟨(v / 4 % 3).toNat,by lia,by lia⟩;obtain⟨r,er,hr3⟩:=rng;have lenP:∀l2:List (Nat×Nat),(ju l2).Perm (ju (j6 R))->l2.length=(j6 R).length:=fun l2 p=>by have:=p.length_eq;rw[kj,kj] at this;lia
 refine⟨⟨by decide,by decide⟩,show(0:Int)<3 by decide,⟨by lia,by lia⟩,?_⟩;refine pF (fun i τ L2=>∃l vI az,τ=[some cy,some (.int s),some (.int (room':Int)),some (.int m),some (.int v),some (.bl (decide (v % 4=1))),some (.ref ka),some (za R),some (.ref l),some (.ref ca),az]/\qj L' L2/\L2 ka=some (.lst (jb ks))/\L2 l=some (.lst (qr vI))/\L2 ca=some (.lst (qr ct))/\LkI ks vI/\(ju vI).Perm (ju (j6 R))) ⟨la,lk,_,rfl,s2,g1,g2,g3,LI.perm pl,cH pl⟩ ?_ ?_
 ·rintro i τ L2 hi ⟨l,vI,az,rfl,s3,k1,k2,k3,I2,p2⟩;have l2:=lenP vI p2;refine⟨s,11+(0+(i:Int)),16807,rfl,by exact AX _,by omega,by decide,by decide,fun v1 _ _=>?_⟩;refine⟨s,17+(0+(i:Int)),40692,rfl,by exact AX _,by omega,by decide,by decide,fun v2 _ _=>?_⟩;refine⟨ka,l,ks,vI,v1,v2,rfl,k1,k2,I2,fun e=>?_,by lia,by exact dO,?_,fun D lk3 hD I3 l3 p3 pw3=>?_⟩
  ·rw[e] at l2;exact lne (CB l2.symm)
  ·exact⟨_,EC _,l,vI,_,rfl,s3,k1,k2,k3,I2,p2⟩
  ·have nkD:ka≠D:=vt k1 hD;have ncD:ca≠D:=vt k3 hD;exact⟨_,EC _,D,lk3,_,rfl,s3.trans (By hD),(qb nkD).trans k1,q9,(qb ncD).trans k3,I3,p3.trans p2⟩
 rintro τ L2 ⟨l,vI,az,rfl,s3,k1,k2,k3,I2,p2⟩;have l2:=lenP vI p2;have lc:ct.length=(jl R).length:=pc.length_eq;have clt2:∀x∈ct,x.1<ks.length/\x.2<ks.length:=fun x hx=>clt x (pc.mem_iff.mp hx);refine⟨fun τ' L3=>∃kb out,τ'=[some cy,some (.int s),some (.int (room':Int)),some (.int m),some (.int v),some (.bl (decide (v % 4=1))),some (.ref kb),some (za R),some (.ref l),some (.ref ca),az]/\qj L' L3/\L3 kb=some (.lst (dI out))/\L3 l=some (.lst (qr vI))/\L3 ca=some (.lst (qr ct))/\(out=ks.map some\/∃qs,l9 ks ct qs []/\dM ks qs ks.length out),?_,?_⟩
 ·refine⟨⟨by decide,by decide⟩,show(0:Int)<2 by decide,?_⟩;refine zu (fun h=>?_) (fun h=>?_)
  ·refine⟨ka,ca,ks,ct,s,m,rfl,k1,k3,ok,clt2,by rw[y7 pc];exact dO,by exact dO,fun D qs out hD B T=>?_⟩;exact⟨D,out,rfl,s3.trans (By hD),q9,(qb (vt k2 hD)).trans k2,(qb (vt k3 hD)).trans k3,.inr ⟨qs,B,T⟩⟩
  ·exact⟨ka,ks.map some,rfl,s3,by rw[zC];exact k1,k2,k3,.inl rfl⟩
 rintro τ' L3 ⟨kb,out,rfl,s4,j1,j2,j3,ho⟩;have okO:yn out:=by
  rcases ho with rfl | ⟨qs,B,T⟩
  ·exact yu ok
  ·exact T.okO ok
 have lo:out.length=ks.length:=by
  rcases ho with rfl | ⟨qs,B,T⟩
  ·exact Ae ..
  ·exact T.len
 refine⟨kb,l,ca,out,vI,ct,s,_,rfl,j1,j2,j3,okO,by lia,s4 _ _ hP,we I2.nd,fun p hp=>⟨I2.lt p hp,?_⟩,by lia,pc.nodup_iff.mpr (we cn),fun p hp=>by rw[lo];exact clt2 p hp,by lia,fun f wd lk' ct' wa la' ca' L4 rn pl' pwl pc' pwc sl nw nl nc n1 n2 n3 e1 e2 e3=>?_⟩
 ·obtain⟨_,_,_,h⟩:=I2.at_ p hp;rw[lo];exact xg h
 ·exact vk (q wa la' ca' wd lk' ct' L4 ⟨ks,R,E,vI,ct,out,f,ok,SRh,tp,hk120,I2,p2,pc,ho,rn,pl',pwl,pc',pwc⟩ (s4.trans sl) (s4.none nw) (s4.none nl) (s4.none nc) n1 n2 n3 e1 e2 e3)
def qZ:w6:=(x0 (va (qe (cx cV (aR (x8 0 0))) (qe (cx cV (aR (x8 0 1))) (qe (cx cV (aR (x8 0 2))) qy)))))
def oo:xw:=fun ys L Q=>∃a l c,∃xs zs us:List Y,ys=[fj a l c]/\L a=some (.lst xs)/\L l=some (.lst zs)/\L c=some (.lst us)/\∀a' l' c' L',qj L L'->L a'=none->L l'=none->L c'=none->a'≠l'->a'≠c'->l'≠c'->L' a'=some (.lst xs)->L' l'=some (.lst zs)->L' c'=some (.lst us)->Q (fj a' l' c') L'
theorem afc:∀ys L Q,oo ys L Q->k6 qZ 1 ys L Q:=by rintro ys L Q ⟨a,l,c,xs,zs,us,rfl,ha,hl,hc,q⟩;refine qd ha fun p1 h1=>?_;have s1:=By (o:=.lst xs) h1;refine qd (s1 _ _ hl) fun p2 h2=>?_;have s2:=s1.trans (By (o:=.lst zs) h2);refine qd (s2 _ _ hc) fun p3 h3=>?_;have n12:p1≠p2:=vt q9 h2;have n23:p2≠p3:=vt q9 h3;have n13:p1≠p3:=vt ((qb n12).trans q9) h3;exact vk (q p1 p2 p3 _ (s2.trans (By h3)) h1 (s1.none h2) (s2.none h3) n12 n13 n23 ((qb n13).trans ((qb n12).trans q9)) ((qb n23).trans q9) q9)
theorem f9{xs:List Y}(h:∀x∈xs,dF L n x x):Paired (dF L n) xs xs:=by induction xs with|nil=>exact .nil|cons x r ih=>exact .cons (h x (Aq ..)) (ih fun y hy=>h y (Ag _ hy))
theorem gW(l:List (Nat×Nat)):Paired (dF L (n+2)) (qr l) (qr l):=f9 fun x hx=>by obtain⟨m,_,rfl⟩:=BI.mp hx;exact .inr (.inl ⟨_,_,rfl,rfl,.cons (.flat rfl) (.cons (.flat rfl) .nil)⟩)
theorem adl(l:List (Option Kn)):Paired (dF L (n+2)) (dI l) (dI l):=f9 fun x hx=>by
 obtain⟨m,_,rfl⟩:=BI.mp hx;cases m with
 |none=>exact .flat rfl
 |some k=>
  cases k with|lf t n=>exact .inr (.inl ⟨_,_,rfl,rfl,.cons (.flat rfl) (.cons (.flat rfl) .nil)⟩)|nd e i j=>exact .inr (.inl ⟨_,_,rfl,rfl,.cons (.flat rfl) (.cons (.flat rfl) (.cons (.flat rfl) .nil))⟩)
theorem aJ{a b:Addr}{xs:List Y}(ha:L a=some (.lst xs))(hb:L b=some (.lst xs))(p:Paired (dF L n) xs xs):dF L (n+1) (.ref a) (.ref b):=.inr (.inr ⟨a,b,xs,xs,rfl,rfl,ha,hb,p⟩)
end L3
namespace L2
open PySem PySem.Spec PyProof.Rows
theorem aig{a b:List Stmt}{tc:TT}{t u:TS}(hc:PT { X with N:=X.N.set i x } c tc)(ha:iM X a t)(hb:iM X b u):PS X (.If c a b pos) (fun D σ H=>amn tc t u D (σ.set i none) H):=by
 intro pins s σ H D I h;have I':qt { X with N:=X.N.set i x } pins (σ.set i none) H s:=I.ren _ (by rw[BG]) (by rw[BG]) fun j v e=>by obtain⟨a,b⟩:=gC e;exact⟨b,by rw[A6 (AK a)]⟩
 refine wpAny_If (v4 (hc pins s (σ.set i none) H _ I' h) fun d s1 ⟨H1,I1,q1⟩=>?_);have I2:qt X pins (σ.set i none) H1 s1:=qt.ren (X:={ X with N:=X.N.set i x }) X.N I1 (by show X.N.length=(X.N.set i x).length;rw[BG]) rfl fun j v e=>by obtain⟨a,b⟩:=gC e;exact⟨e,by show(X.N.set i x)[j]?=_;rw[A6 (AK a)]⟩
 cases d with|true=>exact ha pins s1 _ H1 D I2 q1|false=>exact hb pins s1 _ H1 D I2 q1
end L2
namespace L3
open PySem L2
def am7(i:Nat)(tA:gD)(t u:w6)(D:xa)(τ:jj)(L:qm):Prop:=x6 tA t u D (bR τ i) L
theorem ajp(x:Str){orelse:List Stmt}{t u:w6}(h:QT { X with N:=X.N.set i x } c tA)(ha:mC X body t)(hb:mC X orelse u):QS X (.If c body orelse pos) (am7 i tA t u):=EH (aig h ha hb) fun D σ H ⟨τ,L,D3,rs,rl,z,k⟩=>
 ⟨bR τ i,L,_,rs.forget i,rl,z,fun c H1 L1 t1 rl1 z1=>by cases c with|true=>rw[AA rfl];exact⟨bR τ i,L1,D3,(rs.forget i).ts t1,rl1,z1,k.ts t1⟩|false=>rw[As Ax];exact⟨bR τ i,L1,D3,(rs.forget i).ts t1,rl1,z1,k.ts t1⟩⟩
end L3
namespace L2
open PySem PySem.W
section
variable {K:Af}(T:K.lookup Pt=some (PySem.W.tabObj #[]))
include T
theorem uP :clsIn (lessK Pt K) C=clsIn K C:=by
 unfold clsIn;by_cases d:C=Pt
 ·subst d;rw[vh,T]
 ·rw[jy d]
theorem abj{b:Value}:mroIn (lessK Pt K) C b=mroIn K C b:=by unfold mroIn;rw[uP T]
theorem oE{t b:Value}:subIn (lessK Pt K) t b=subIn K t b:=by
 unfold subIn;split
 ·rfl
 ·exact abj T
 ·rfl
theorem tW{i:String} :specialIn (lessK Pt K) (.builtin i) x=specialIn K (.builtin i) x:=by unfold specialIn typeIn;dsimp only;congr 1;funext t;exact gS T
theorem agr{i:String}:takesIn (lessK Pt K) (.builtin i)=takesIn K (.builtin i):=by unfold takesIn;rw[tW T,tW T]
theorem nV{t c:Value}{b:Bool}(e:kitCls K t c=some b):kitCls (lessK Pt K) t c=some b:=by
 unfold kitCls at e ⊢;split at e
 ·rename_i C;have n:C≠Pt:=by rintro rfl;unfold clsIn at e;rw[T] at e;cases e
  have h:typeIn (lessK Pt K) (.ref C)=typeIn K (.ref C):=by show(List.lookup C (lessK Pt K)).map _=(List.lookup C K).map _;rw[jy n]
  rw[uP T,oE T,h];exact e
 ·rw[oE T];exact e
 ·cases e
theorem eS{t c:Value}{b:Bool}(e:kitOne K t c=some b):kitOne (lessK Pt K) t c=some b:=by
 unfold kitOne at e ⊢;split at e
 ·rename_i h;rw[AA h];exact e
 ·rename_i h;rw[As h];exact nV T e
theorem nW{t:Value}{b:Bool}:∀{l:List Value},kitAny K t l=some b->kitAny (lessK Pt K) t l=some b
 |[],e=>e
 |c::r,e=>by
  unfold kitAny at e ⊢;split at e
  ·rename_i h;rw[eS T h];exact e
  ·rename_i h;rw[eS T h];exact nW e
  ·cases e
theorem ak0{t c:Value}{b:Bool}(e:exmOne K t c=some b):exmOne (lessK Pt K) t c=some b:=by
 unfold exmOne at e ⊢;rw[oE T];split at e
 ·rename_i h;rw[AA h];exact nV T e
 ·cases e
theorem aji(x:XHd K C):XHd (lessK Pt K) C:=by obtain⟨⟨ga,gt,cl,ge,tk,mo,be⟩,h⟩:=x;exact⟨⟨(gS T).trans ga,(gS T).trans gt,(gS T).trans cl,(tW T).trans ge,(agr T).trans tk,(abj T).trans mo,(oE T).trans be⟩,by rw[uP T];exact h⟩
theorem vE{N:Addr}:nsOkIn (lessK Pt K) N=nsOkIn K N:=by
 unfold nsOkIn;by_cases d:N=Pt
 ·subst d;rw[vh,T]
 ·rw[jy d]
theorem wK{bm:List Value}:∀l:List Value,tailIn (lessK Pt K) bm l=tailIn K bm l
 |[]=>rfl
 |v::r=>by
  unfold tailIn;congr 1;split
  ·rename_i A;by_cases d:A=Pt
   ·subst d;rw[vh,T]
   ·rw[jy d];split
    ·rw[vE T,ns_dn T rfl,wK r]
    ·rfl
  ·rfl
theorem exc_dn{bm:List Value}{i:String}(e:excIn K C bm i=true):excIn (lessK Pt K) C bm i=true:=by
 unfold excIn at e ⊢;by_cases d:C=Pt
 ·subst d;rw[T] at e;cases e
 ·rw[jy d];split at e
  ·split at e
   ·rw[wK T,vE T,ns_dn T rfl];exact e
   ·cases e
  ·cases e
end
end L2
namespace L3
open PySem L2 Words
def gd(Ca:Addr)(E3:X3)(p0:xw):w6:=(qw (zp (zo p0 (aR (qa 0))) (qh 2))
 (qw (am7 5 (yOr (rdN (cN 1) (cN 2)) (tS (yB (cx ahh (qe (oB 1 (ky (qa 1)) (qh 6) u7 (zg (pU false) (qa 6) (tU (j5 0) (j5 1)))) qy))))) (zD Ca E3 (aR (eU "the choices are not one for each either knot, each 0 or 1"))) jr)
 (qw (zp ace (qh 3))
 (qw (fO (zF (wn (qa 2) (qa 1))) (kz 2 (zh (qh 4) (zh (qh 5) k7))) (aah (qa 3) (qa 4) (zg bO (zg bO (x8 0 0) (qa 4)) (zg xj (j5 1) (qa 5)))))
 (x0 (qa 3))))))
def lS(E3:X3)(p0:gE)(p1:xw):w6:=(qw (zp (iK p0 E3 (wn (qa 0) (qa 1))) (qh 2))
 (qw (zp (zg xj (x8 0 1) (x8 0 2)) (qh 3))
 (qw (fO (ky (zo p1 (aR (x8 0 0)))) (qh 4) (qw (zp (zg bO (x8 0 0) (qa 4)) (qh 5))
 (cL (x6 (dG (x8 5 0) (eU "both")) (qw (jd (aG zk (qa 3) (qe (tU (qa 4) (x8 5 1)) qy)))
 (jd (aG zk (qa 3) (qe (tU (qa 4) (x8 5 2)) qy)))) jr)
 (x6 (dG (x8 5 0) (eU "either")) (jd (aG zk (qa 3) (qe (va (qe (qa 4) (qe (fJ (qa 2) (qa 4)) qy))) qy))) jr))))
 (x0 (qa 3)))))
def oI:w6:=(qw (zp (qa 0) (kz 3 (zh (qh 2) (zh (qh 3) (zh (qh 4) k7)))))
 (qw (zp (zg xj (qa 3) (qa 4)) (qh 5))
 (qw (zp (j5 0) (qh 6))
 (qw (fO (fU (qa 2)) (kz 2 (zh (qh 7) (zh (qh 8) k7))) (cL (x6 (dY (yB (fB true (qa 8))) (dG (x8 8 0) (eU "both"))) (jd (aG bA (qa 5) (qe (vj (qe (tU (qa 7) (x8 8 1)) (qe (tU (qa 7) (x8 8 2)) qy))) qy))) jr)
 (x6 (dY (yB (fB true (qa 8))) (dG (x8 8 0) (eU "either"))) (qw (jd (aG zk (qa 5) (qe (va (qe (qa 7) (qe (zg bO (qa 8) (zg xj (j5 1) (zg bO (qa 1) (qa 6)))) qy))) qy)))
 (zp (zg xj (qa 6) (j5 1)) (qh 6))) jr)))
 (x0 (qa 5))))))
theorem aj4.lens(W:aj4 wd lk ct):wd.length≤241/\ct.length≤60/\lk.length≤60:=by
 obtain⟨ks,R,E,lk0,ct0,out,f,ok,SRh,tp,hk,I,pl,pc,ho,rn,pl',_,pc',_⟩:=W.ex;have lo:out.length=ks.length:=by
  rcases ho with rfl | ⟨qs,B,T⟩
  ·exact Ae ..
  ·exact T.len
 have tl:(zr R).length=ks.length:=by rw[tp.length_eq,BN]
 have wg:=SRh.weight ok;have cl:=rD ks (jl R);have ll:2*(j6 R).length≤ks.length:=by obtain⟨u,hu⟩:=vz R;have:=hu.length_eq;rw[Ac,kj] at this;lia
 have h1:=pl'.length_eq;have h2:=pl.length_eq;have h3:=pc'.length_eq;have h4:=pc.length_eq;have h5:=rn.len;rw[Ae] at h1 h3;rw[kj,kj] at h2;exact⟨by lia,by lia,by lia⟩
structure nZ(wd:List (Option Kn))(xs:List Int):Prop where
 len:xs.length=(aZ true wd).length
 bit:∀x∈xs,x=0\/x=1
def u4(x:Int):Bool:=zS (gv (.int x)) (([.int 0,.int 1]:List Y).map gv)
theorem rK(x:Int):u4 x=true↔x=0\/x=1:=by
 have e:u4 x=(decide ((0:Int)=x)||(decide ((1:Int)=x)||false)):=rfl;rw[e,C4,C4,CG,CG];constructor
 ·rintro(h | h | h)
  ·exact .inl h.symm
  ·exact .inr h.symm
  ·cases h
 ·rintro(h | h)
  ·exact .inl h.symm
  ·exact .inr (.inl h.symm)
def dX(wd:List (Option Kn))(x:Int)(r:Nat):Nat:=match wd[r]? with
 |some (some (.nd _ i j))=>if x=1 then j else i
 |_=>0
theorem aew(f:Option Kn->Bool)(wd:List (Option Kn))(n:Nat):(cQ f wd n).Nodup:=by unfold cQ;exact CV.filter _
theorem adj{k r:Nat}(h:(aZ true wd)[k]?=some r):∃i j,wd[r]?=some (some (.nd true i j)):=by
 obtain⟨_,o,e,hb⟩:=vN (AR h);cases o with
 |none=>cases hb
 |some o=>
  cases o with
  |lf t n=>cases hb
  |nd e' i j=>
   have:e'=true:=by simpa[jx] using hb
   subst this;exact⟨i,j,e⟩
def amk(wd:List (Option Kn))(xs:List Int)(n:Nat)(kvs:List (jo×Y)):Prop:=∀k r x,k<n->(aZ true wd)[k]?=some r->xs[k]?=some x->aF kvs (.inl (r:Int))=some (.int ((dX wd x r:Nat):Int))
def jC(C:Addr):gE:=fun ys L Q E=>∃a l c h,∃wd:List (Option Kn),∃xs:List Int,ys=[fj a l c,.ref h]/\L a=some (.lst (dI wd))/\L h=some (.lst (xs.map Y.int))/\wd.length≤1000/\xs.length≤2000/\
 (nZ wd xs->∀d kvs,L d=none->amk wd xs xs.length kvs->Q (.ref d) (qf L d (.dct kvs)))/\(¬nZ wd xs->E C L)
theorem ad3 :∀ys L Q E,jC C ys L Q E->k6 (gd C (uD E) fh) 6 ys L Q:=by
 rintro ys L Q E ⟨a,l,c,h,wd,xs,rfl,ha,hh,hz,hx,q,ex⟩;have big:=bg_;refine⟨a,l,c,wd,rfl,ha,hz,fun p1 hp1=>?_⟩;have s1:qj L (qf L p1 (.lst (nY (aZ true wd)))):=By hp1;have g1:qf L p1 (.lst (nY (aZ true wd))) p1=some (.lst (nY (aZ true wd))):=q9;generalize qf L p1 (.lst (nY (aZ true wd)))=L1 at s1 g1 ⊢;have nok:¬nZ wd xs->∀τ L',qj L1 L'->uD E τ C L':=fun h τ L' s=>⟨L,s1.trans s,ex h⟩;refine qd (s1 _ _ hh) (qd g1 ?_);by_cases cl:xs.length=(aZ true wd).length
 ·refine aC (by show(!decide (((xs.map Y.int).length:Int)=((nY (aZ true wd)).length:Int)))=false;rw[Ae,dy,cl,AE rfl];rfl) ?_;refine xh (s1 _ _ hh) fun keep kp=>du (fun i zs=>zs=((xs.take i).map u4).map Y.bl) (by rw[Ae];exact big _ (by omega)) (kp _ rfl) rfl ?_ ?_
  ·rintro i y zs hy rfl;rw[Ar] at hy;obtain⟨x,ex',rfl⟩:=Ay.mp hy;refine⟨rfl,rfl,_,EC _,rfl,?_⟩;rw[BD,ex',AC,AC];rfl
  rintro zs rfl p2 hp2;rw[Ae,BK];have s2:=By (o:=.lst ((xs.map u4).map Y.bl)) hp2;refine⟨rfl,qd q9 (qx (aaz _) ?_)⟩;by_cases cb:(xs.map u4).all id=true
  ·have ok:nZ wd xs:=⟨cl,fun x hm=>(rK x).mp (BY.mp cb _ (BI.mpr ⟨x,hm,rfl⟩))⟩;refine aC (by rw[cb];rfl) ?_;replace s2:=s1.trans s2;have g1:=By (o:=.lst ((xs.map u4).map Y.bl)) hp2 _ _ g1;generalize qf L1 p2 (.lst ((xs.map u4).map Y.bl))=L2 at s2 g1 ⊢;clear s1 nok;intro d hd;have s3:=By (o:=.dct []) hd;refine qd (s3 _ _ g1) (qd (s3 _ _ (s2 _ _ hh)) ?_);refine pD (fun i τ L'=>∃c4 c5 kvs,τ=[some (fj a l c),some (.ref h),some (.ref p1),some (.ref d),c4,c5]/\qj L2 L'/\L' d=some (.dct kvs)/\kvs.length≤i/\amk wd xs i kvs) ⟨_,_,_,rfl,s3,q9,Am _,fun k r x hk=>absurd hk (CH _)⟩ (fun i τ L' ⟨c4,c5,kvs,e,s,_⟩=>⟨by show L' p1=_;rw[s _ _ g1,s3 _ _ g1],by show L' h=_;rw[s _ _ (s2 _ _ hh),s3 _ _ (s2 _ _ hh)]⟩) ?_ ?_
   ·rintro i u v τ L' eu ev ⟨c4,c5,kvs,rfl,s,g,kl,kd⟩;obtain⟨r,er,rfl⟩:=tZ eu;rw[Ar] at ev;obtain⟨x,ex',rfl⟩:=Ay.mp ev;obtain⟨i',j',ek⟩:=adj er;have hi:=xg ex';have hb:=ok.bit x (AR ex');have ka:L' a=some (.lst (dI wd)):=s _ _ (s2 _ _ ha);refine qd ka (qx (w9 ek) ?_);have av:gc [Y.str (kN true),.int (i':Int),.int (j':Int)] (1+x)=some (.int ((dX wd x r:Nat):Int)):=by unfold dX;rw[ek];rcases hb with rfl | rfl<;>rfl
    walk_at "w";rw[av];refine kq g ?_;refine⟨big _ (by omega),_,EC _,_,_,_,rfl,s.upd hd,q9,?_,?_⟩
    ·have:=sO kvs (.inl (r:Int)) (.int ((dX wd x r:Nat):Int));omega
    ·intro k r' x' hk er' ex2;rw[sE];by_cases e:k=i
     ·subst e;rw[er] at er';rw[ex'] at ex2;cases er';cases ex2;rw[AA rfl]
     ·rw[As fun z=>e ((List.getElem?_inj (xg er') (aew _ wd _)).mp (by rw[er,er',CK.mp (Sum.inl.inj z)])),kd k r' x' (by omega) er' ex2]
   ·rintro τ L' ⟨c4,c5,kvs,rfl,s,g,kl,kd⟩;rw[dy,Ae,<-cl,Nat.min_self] at kd;exact⟨qf L d (.dct kvs),(s2.trans s).put g,q ok d kvs (s2.none hd) kd⟩
  ·refine ar (by rw[DW.mpr cb];rfl) (show _/\_ from⟨BB rfl,nok (fun ok=>cb ?_) _ _ s2⟩);rw[BY];intro b hb;obtain⟨x,hm,rfl⟩:=BI.mp hb;exact(rK x).mpr (ok.bit x hm)
 ·refine ar (by show(!decide (((xs.map Y.int).length:Int)=((nY (aZ true wd)).length:Int)))=true;rw[Ae,dy,Au (fun e=>cl (CK.mp e))];rfl) ?_;exact⟨BB rfl,nok (fun ok=>cl ok.len) _ _ (EC _)⟩
def wx(wd:List (Option Kn))(xs:List Int)(r:Nat):List (Nat×Nat):=match wd[r]? with
 |some (some (.nd false i j))=>[(r,i),(r,j)]
 |some (some (.nd true _ _))=>[(r,dX wd (xs[(cQ (jx true) wd r).length]?.getD 0) r)]
 |_=>[]
def iA(wd:List (Option Kn))(xs:List Int)(n:Nat):List (Nat×Nat):=(List.range n).flatMap (wx wd xs)
theorem rV(wd:List (Option Kn))(xs:List Int)(r:Nat):(wx wd xs r).length≤2:=by unfold wx;split<;>simp
theorem zP{f:Nat->List (Nat×Nat)}(h:∀r,(f r).length≤2)(l:List Nat):(l.flatMap f).length≤2*l.length:=by
 induction l with
 |nil=>exact Am _
 |cons x r ih=>
  have:=h x;rw[AQ,Ac,AF];omega
theorem yT{f:Nat->List (Nat×Nat)}{p:Nat->Bool}(h:∀r,p r=false->f r=[])(l:List Nat):(l.filter p).flatMap f=l.flatMap f:=by
 induction l with
 |nil=>rfl
 |cons x r ih=>
  rw[List.filter_cons,AQ];by_cases c:p x=true
  ·rw[AA c,AQ,ih]
  ·rw[As c,ih,h x (DW.mpr c)];rfl
theorem tQ(wd:List (Option Kn))(xs:List Int):(kw wd).flatMap (wx wd xs)=iA wd xs wd.length:=by unfold iA;refine yT (fun r h=>?_) _;unfold wx;split<;>rename_i e<;>first | rfl | (rw[e] at h;cases h)
theorem gR(a b:List (Nat×Nat)):qr (a++b)=qr a++qr b:=by unfold qr;rw[AC]
def dJ(wd:List (Option Kn))(lk ct:List (Nat×Nat))(xs:List Int):List (Nat×Nat):=lk++ct++iA wd xs wd.length
theorem vL{r:Nat}(h:wd[r]?=some (some (.nd true i j))):(aZ true wd)[(cQ (jx true) wd r).length]?=some r:=by
 have hr:=xg h;have e:∀n,r+1+n≤wd.length->∃z,cQ (jx true) wd (r+1+n)=cQ (jx true) wd r++r::z:=by
  intro n
  induction n with
  |zero=>intro _;exact⟨[],by rw[Nat.add_zero,aP h];rfl⟩
  |succ n ih=>
   intro hn;obtain⟨z,e⟩:=ih (by omega);have:=aP (f:=jx true) (Al (show r+1+n<wd.length by omega));rw[e,Aw,List.cons_append] at this;exact⟨_,this⟩
 obtain⟨z,e⟩:=e (wd.length - (r+1)) (by omega);rw[show r+1+(wd.length - (r+1))=wd.length by omega] at e;show(cQ (jx true) wd wd.length)[_]?=_;rw[e,Ak (Am _),CF];rfl
def fu(C:Addr):gE:=fun ys L Q E=>∃a l c h,∃wd:List (Option Kn),∃lk ct:List (Nat×Nat),∃xs:List Int,ys=[fj a l c,.ref h]/\L a=some (.lst (dI wd))/\L l=some (.lst (qr lk))/\L c=some (.lst (qr ct))/\L h=some (.lst (xs.map Y.int))/\wd.length≤1000/\lk.length≤2000/\ct.length≤2000/\xs.length≤2000/\
 (nZ wd xs->∀p,L p=none->Q (.ref p) (qf L p (.lst (qr (dJ wd lk ct xs)))))/\(¬nZ wd xs->E C L)
def tE(a l c h d e:Addr)(u v:Option Y):jj:=[some (fj a l c),some (.ref h),some (.ref d),some (.ref e),u,v]
theorem abq :∀ys L Q E,fu C ys L Q E->k6 (lS (uD E) (jC C) g9) 6 ys L Q:=by
 rintro ys L Q E ⟨a,l,c,h,wd,lk,ct,xs,rfl,ha,hl,hc,hh,hz,zl,zc,hx,q,ex⟩;have big:=bg_;refine⟨a,l,c,h,wd,xs,rfl,ha,hh,hz,hx,fun ok d kvs hd kd=>?_,fun no=>⟨L,EC _,ex no⟩⟩;have s1:qj L (qf L d (.dct kvs)):=By hd;have g1:qf L d (.dct kvs) d=some (.dct kvs):=q9;generalize qf L d (.dct kvs)=L1 at s1 g1 ⊢;refine⟨_,_,s1 _ _ hl,s1 _ _ hc,?_,fun e he=>?_⟩
 ·unfold qr;rw[Ae,Ae];exact Bd (big _ (by omega))
 have s2:qj L1 (qf L1 e (.lst (qr lk++qr ct))):=By he;rw[<-gR] at s2 ⊢;have g2:qf L1 e (.lst (qr (lk++ct))) e=some (.lst (qr (lk++ct))):=q9;generalize qf L1 e (.lst (qr (lk++ct)))=L2 at s2 g2 ⊢;refine⟨a,wd,rfl,s2 _ _ (s1 _ _ ha),hz,fun p hp=>?_⟩;have s3:qj L1 (qf L2 p (.lst (nY (kw wd)))):=s2.trans (By hp);have ep:e≠p:=vt g2 hp;have g3:qf L2 p (.lst (nY (kw wd))) e=some (.lst (qr (lk++ct))):=(qb ep).trans g2;have tl:(kw wd).length≤wd.length:=wM uk wd wd.length;refine xh q9 fun keep kp=>wo ⟨fun i τ L'=>∃c4 c5,τ=tE a l c h d e c4 c5/\qj L1 L'/\L' p=some (.lst (nY (kw wd)))/\L' e=some (.lst (qr (lk++ct++((kw wd).take i).flatMap (wx wd xs)))),⟨_,_,rfl,s3,q9,by show _=some (LO.lst (qr (lk++ct++[])));rw[AI];exact g3⟩,?_,?_,?_⟩
 ·rintro i τ L' ⟨c4,c5,rfl,s,g,_⟩;exact kp L' (by rw[g,q9])
 ·rintro i y τ L' hy ⟨c4,c5,rfl,s,gp,g⟩;obtain⟨r,er,rfl⟩:=tZ hy;have hi:=xg er;obtain⟨hr,k,ek,hk⟩:=vN (AR er);have et:(kw wd).take (i+1)=(kw wd).take i++[r]:=by rw[BD,er];rfl
  have fl:=zP (rV wd xs) ((kw wd).take i);rw[AL] at fl;have ka:L' a=some (.lst (dI wd)):=s _ _ (s1 _ _ ha);refine qd ka (qx (w9 ek) ?_);have ge:qr (lk++ct++((kw wd).take i++[r]).flatMap (wx wd xs))=qr (lk++ct++((kw wd).take i).flatMap (wx wd xs))++qr (wx wd xs r):=by rw[AN,AQ,CW,AI,<-Aw,gR _ (wx wd xs r)]
  cases k with
  |none=>cases hk
  |some k=>
   cases k with
   |lf t n=>
    have z:wx wd xs r=[]:=by unfold wx;rw[ek]
    refine⟨fun τ2 L2=>τ2=tE a l c h d e (some (.int (r:Int))) (some (e9 (some (.lf t n))))/\L2=L',?_,?_⟩
    ·cases t<;>exact⟨rfl,rfl⟩
    ·rintro τ2 L2 ⟨rfl,rfl⟩;have w:∃c4 c5,tE a l c h d e (some (.int (r:Int))) (some (e9 (some (.lf t n))))=tE a l c h d e c4 c5/\qj L1 L2/\L2 p=some (.lst (nY (kw wd)))/\L2 e=some (.lst (qr (lk++ct++((kw wd).take (i+1)).flatMap (wx wd xs)))):=⟨_,_,rfl,s,gp,by rw[et,ge,z];show _=some (LO.lst (_++[]));rw[AI];exact g⟩;cases t<;>exact⟨_,EC _,w⟩
   |nd b i' j'=>
    cases b with
    |false=>
     have z:wx wd xs r=[(r,i'),(r,j')]:=by unfold wx;rw[ek]
     refine⟨fun τ2 L2=>τ2=tE a l c h d e (some (.int (r:Int))) (some (e9 (some (.nd false i' j'))))/\L2=qf (qf L' e (.lst (qr (lk++ct++((kw wd).take i).flatMap (wx wd xs))++[mO (r,i')]))) e (.lst (qr (lk++ct++((kw wd).take i).flatMap (wx wd xs))++[mO (r,i')]++[mO (r,j')])),?_,?_⟩
     ·refine qd g (ql g ⟨?_,?_⟩)
      ·unfold qr;rw[Ae,Ac,Ac];exact big _ (by omega)
      refine qd q9 (ql q9 ⟨?_,?_⟩)
      ·unfold qr;rw[Ac,Ae,Ac,Ac];exact big _ (by simp only[Bf];omega)
      exact⟨rfl,rfl⟩
     ·rintro τ2 L2 ⟨rfl,rfl⟩;refine⟨_,EC _,_,_,rfl,(s.upd he).upd he,(qb (AK ep)).trans ((qb (AK ep)).trans gp),?_⟩;rw[q9,et,ge,z,Aw];rfl
    |true=>
     have hn:=vL ek;have hk':=xg hn;rw[<-ok.len] at hk';have ev:=kd _ r _ hk' hn (Al hk');have z:wx wd xs r=[(r,dX wd (xs[(cQ (jx true) wd r).length]'hk') r)]:=by unfold wx;rw[ek];show [(r,dX wd (xs[(cQ (jx true) wd r).length]?.getD 0) r)]=_;rw[Al hk'];rfl
     refine⟨fun τ2 L2=>τ2=tE a l c h d e (some (.int (r:Int))) (some (e9 (some (.nd true i' j'))))/\L2=L',⟨rfl,rfl⟩,?_⟩;rintro τ2 L2 ⟨rfl,rfl⟩;refine qd g (kq (s _ _ g1) (qx ev (ql g ⟨?_,?_⟩)))
     ·unfold qr;rw[Ae,Ac,Ac];exact big _ (by omega)
     refine⟨_,EC _,_,_,rfl,s.upd he,(qb (AK ep)).trans gp,?_⟩;rw[q9,et,ge,z];rfl
 ·rintro τ L' ⟨c4,c5,rfl,s,_,g⟩;rw[dy,BK,tQ] at g;exact⟨qf L e (.lst (qr (dJ wd lk ct xs))),(s1.trans s).put g,q ok e (s1.none he)⟩
def oD:w6:=(x0 (cx iI (qe (oB 1 (ky (x8 0 0)) (qh 2) (dY (yB (fB true (qa 2))) (dG (x8 2 0) (qa 1))) (qa 2)) qy)))
def lV(p0:xw)(p1:xw):w6:=(x0 (oB 1 (fb (aR (qa 1))) (qh 3) u7 (zg vf (zg aU (zo p0 (qe (zo p1 (wn (qa 0) (qa 3))) (qe (zg xj (qa 3) (qa 2)) (aR (j5 16807))))) (zg xj (qa 2) (j5 1))) (j5 2))))
def fS:w6:=(qw (x6 (yOr (dG (qa 0) (vj qy)) (dG (zg vf (qa 1) (j5 3)) (j5 0))) (x0 (zg xj (qa 0) (vj (qe (zg vf (qa 2) (j5 2)) qy)))) jr)
 (qw (zp (zg vf (qa 2) (cN 0)) (qh 3))
 (qw (x6 (dG (zg vf (qa 1) (j5 3)) (j5 1)) (x0 (zg xj (ySl sv (qa 0) bG (fD (qa 3))) (ySl sv (qa 0) (fD (zg xj (qa 3) (j5 1))) bG))) jr)
 (x0 (zg xj (zg xj (ySl sv (qa 0) bG (fD (qa 3))) (vj (qe (afo (qe (j5 2) (qe (yUn agx (j5 1)) (qe (zg xj (j5 2) (qa 2)) (qe (zg gf (yUn agx (j5 2)) (qa 2)) qy)))) (zg vf (zg aU (qa 1) (j5 3)) (j5 4))) qy))) (ySl sv (qa 0) (fD (zg xj (qa 3) (j5 1))) bG))))))
def lM(K:Af)(Ca:Addr)(Cj:Addr)(Ce:Addr)(Cd:Addr)(Cg:Addr)(Ch:Addr)(Cb:Addr)(Ci:Addr)(Ck:Addr)(Cc:Addr)(Cf:Addr)(p0:gE):w6:=(qw (zp (yC (.bl false)) (qh 2))
 (qw (ami K Ca 3 (fun E3=>jd (iK p0 E3 (wn (qa 0) (qa 1)))) (qw (zp (vU K [(.ref Cj),(.ref Ce),(.ref Cd),(.ref Cg),(.ref Ch),(.ref Cb),(.ref Ci),(.ref Ck),(.ref Cc)] (qa 3)) (qh 4))
 (zp (kY (t9 K (.ref Cf) (qa 3)) (kY (t9 K (.type "ValueError") (qa 3)) (agf (qa 4)))) (qh 2))))
 (x0 (qa 2))))
def afh(p0:xw)(p1:xw)(p2:xw)(p3:xw)(p4:xw)(p5:xw)(p6:xw)(p7:gE)(p8:xw)(p9:xw)(p10:xw):w6:=(qw (zp (zg vf (zo p0 (wn (qa 0) (j5 0))) (zg ao4 (j5 10) (j5 9))) (qh 1))
 (qw (zp (zo p1 (qe (qa 0) (qe (qa 1) (wn (j5 100) (j5 100))))) (qh 2))
 (qw (fO (fb (aR (j5 2))) (qh 3) (qw (zp (zo p2 (qe (qa 0) (qe (zo p3 (wn (qa 2) (eU "either"))) (aR (qa 3))))) (qh 4))
 (qw (zp (zo p4 (qe (qa 4) (qe (zo p5 (qe (qa 1) (qe (zg xj (j5 3) (qa 3)) (aR (j5 40692))))) (qe (zo p5 (qe (qa 1) (qe (zg xj (j5 7) (qa 3)) (aR (j5 69621))))) qy)))) (qh 5))
 (qw (zp (va (qe (zo p6 (aR (qa 2))) (qe (cx cV (aR (qa 4))) qy))) (qh 6))
 (qw (zp (iK p7 noX (wn (x8 6 0) (x8 6 1))) (qh 7))
 (qw (x6 (tS (yB (zo p8 (qe (qa 7) (qe (zo p9 (wn (qa 2) (qa 4))) qy))))) (x0 (yC (.bl false))) jr)
 (qw (jd (aG zk (qa 7) (qe (tU (j5 0) (j5 0)) qy)))
 (qw (x6 (yOr (tS (yB (zo p10 (qe (x8 6 0) (qe (cx cV (aR (qa 5))) qy))))) (tS (yB (zo p8 (qe (qa 6) (qe (tU (qa 2) (qa 4)) qy)))))) (x0 (yC (.bl false))) jr)
 (x6 (tS (yB (zo p8 (qe (iK p7 noX (wn (x8 6 0) (x8 6 1))) (qe (zo p9 (wn (qa 2) (qa 4))) qy))))) (x0 (yC (.bl false))) jr)))))))))
 (x0 (yC (.bl true))))))
def lT:xw:=fun ys L Q=>∃a l c,∃wd:List (Option Kn),ys=[fj a l c,.str "either"]/\L a=some (.lst (dI wd))/\wd.length≤1000/\Q (.int ((aZ true wd).length:Int)) L
theorem abm:∀ys L Q,lT ys L Q->k6 oD 2 ys L Q:=by
 rintro ys L Q ⟨a,l,c,wd,rfl,ha,hz,q⟩;refine xh ha fun keep kp=>du (fun i zs=>zs.length=(cQ (jx true) wd i).length) (by rw[aa];exact Bw hz (by decide)) (kp _ rfl) rfl ?_ ?_
 ·rintro i y zs hy hz';rw[Ar] at hy;obtain⟨k,ek,rfl⟩:=Ay.mp hy;have no:jx true k=false->eQ (fun zs L'=>L'=L/\zs.length=(cQ (jx true) wd (i+1)).length) zs L:=fun h=>⟨L,EC _,rfl,by rw[aP ek,As (by rw[h];exact Ax),AI];exact hz'⟩;have yes:∀z,jx true k=true->eQ (fun zs L'=>L'=L/\zs.length=(cQ (jx true) wd (i+1)).length) (zs++[z]) L:=fun z h=>⟨L,EC _,rfl,by rw[aP ek,AA h,Ac,Ac,hz'];rfl⟩;cases k with
  |none=>exact no rfl
  |some k=>
   cases k with
   |lf t n=>cases t<;>exact no rfl
   |nd e i' j'=>
    cases e with|true=>exact yes _ rfl|false=>exact no rfl
 ·intro zs hz' p hp;rw[aa] at hz';refine qd q9 (si (By hp) ?_);rw[hz'];exact q
def uc:xw:=fun ys L Q=>∃ns:List Int,∃n:Nat,∃t:Int,ys=[.sq (ns.map Y.int),.int (n:Int),.int t]/\n≤1000/\0≤t/\t≤1000/\∀xs:List Int,xs.length=n->(∀x∈xs,x=0\/x=1)->∀p,L p=none->Q (.ref p) (qf L p (.lst (xs.map Y.int)))
theorem ai3:∀ys L Q,uc ys L Q->k6 (lV cq cw) 3 ys L Q:=by
 rintro ys L Q ⟨ns,n,t,rfl,hn,t0,ht,q⟩;refine⟨⟨AX _,by omega⟩,?_⟩;rw[Cm];refine uA (fun i zs=>∃xs:List Int,zs=xs.map Y.int/\xs.length=i/\∀x∈xs,x=0\/x=1) (Bw hn (by decide)) ⟨[],rfl,rfl,fun x h=>by cases h⟩ ?_ ?_
 ·rintro i zs hi ⟨xs,rfl,hl,hb⟩;refine⟨ns,_,rfl,by omega,fun v=>⟨v,_,_,rfl,by omega,by omega,by decide,by decide,fun r r0 r1=>?_⟩⟩;refine⟨⟨by omega,by omega⟩,(by decide:(0:Int)<2),_,EC _,rfl,xs++[r / (t+1) % 2],by rw[AC];rfl,by rw[Ac,hl];rfl,fun x hx=>?_⟩;rcases Aj.mp hx with hx | hx
  ·exact hb x hx
  ·rw[AB.mp hx];omega
 ·rintro zs ⟨xs,rfl,hl,hb⟩ p hp;exact vk (q xs hl hb p hp)
def acu(n:Nat)(xs:List Int):Prop:=xs.length≠n\/∃x∈xs,x≠0/\x≠1
def kF:xw:=fun ys L Q=>∃a,∃xs:List Int,∃u v:Int,ys=[.ref a,.int u,.int v]/\L a=some (.lst (xs.map Y.int))/\0≤u/\0≤v/\xs.length≤1000/\∀zs:List Int,acu xs.length zs->zs.length≤1001->∀p,L p=none->Q (.ref p) (qf L p (.lst (zs.map Y.int)))
theorem ae6{xs:List Int}(x:Int)(h:j<xs.length):(xs.take j++[x]++xs.drop (j+1)).length=xs.length:=by rw[Ac,Ac,AL,A9,Bf];omega
theorem rM{L:qm}:∀xs:List Int,Paired (js L 0) (xs.map Y.int) (xs.map fun x=>Da.s (.int x))
 |[]=>.nil
 |_::r=>.cons ⟨rfl,rfl⟩ (rM r)
theorem aa9(xs:List Int):Da.eqs (xs.map fun x=>Da.s (.int x)) []=decide (xs=[]):=by cases xs<;>rfl
theorem ac3{v:Int}(h:0≤v)(i:Int):∃w:Int,gc [Y.int 2,.int (-1),.int (2+v),.int (-2 - v)] (i % 4)=some (.int w)/\w≠0/\w≠1:=by
 have c:i % 4=0\/i % 4=1\/i % 4=2\/i % 4=3:=by omega
 rcases c with c | c | c | c<;>rw[c]
 ·exact⟨2,rfl,by decide,by decide⟩
 ·exact⟨-1,rfl,by decide,by decide⟩
 ·exact⟨2+v,rfl,by omega,by omega⟩
 ·exact⟨-2 - v,rfl,by omega,by omega⟩
theorem aa7:∀ys L Q,kF ys L Q->k6 fS 4 ys L Q:=by
 rintro ys L Q ⟨a,xs,u,v,rfl,ha,u0,v0,hz,q⟩;have big:=bg_;intro p1 hp1;have s1:=By (o:=.lst []) hp1;refine cA (n:=0) (m:=0) (by decide) (s1 _ _ ha) q9 (rM xs) (.nil:Paired (js _ 0) _ []) ?_;show wb (Da.eqs (xs.map fun x=>Da.s (.int x)) []) _ _;rw[aa9];have ha1:=s1 _ _ ha;generalize qf L p1 (.lst [])=L1 at s1 ha1 ⊢;have grown:∀(w:Int) p2,L1 p2=none->∃ys zs,(qf L1 p2 (.lst [.int w])) a=some (.lst ys)/\(qf L1 p2 (.lst [.int w])) p2=some (.lst zs)/\ys.length+zs.length≤sizeLine/\∀p,(qf L1 p2 (.lst [.int w])) p=none->hZ Q (.ref p) (qf (qf L1 p2 (.lst [.int w])) p (.lst (ys++zs))):=fun w p2 h2=>by
  have s2:=s1.trans (By (o:=.lst [.int w]) h2);refine⟨_,_,s2 _ _ ha,q9,by rw[Ae];exact Bd (big _ (by simp only[Bf];omega)),fun p hp=>?_⟩;have el:(xs++[w]).length=xs.length+1:=by rw[Ac];rfl
  exact⟨qf L p (.lst ((xs++[w]).map Y.int)),(s2.trans (By hp)).put (by rw[q9,AC];rfl),q _ (.inl (by omega)) (by omega) p (s2.none hp)⟩
 refine zu (fun c=>?_) fun c=>?_
 ·exact⟨(by decide:(0:Int)<2),grown _⟩
 have hn:0<xs.length:=by cases xs with | nil=>exact absurd rfl c | cons _ _=>simp
 refine⟨(by decide:(0:Int)<3),?_⟩;refine zu (fun c3=>?_) fun c3=>?_
 ·exact⟨(by decide:(0:Int)<2),grown _⟩
 clear grown;refine qd ha1 ⟨(by show(0:Int)<((xs.map Y.int).length:Int);rw[Ae];omega),?_⟩;have j0:0≤v % ((xs.map Y.int).length:Int):=C7 _ (by rw[Ae];omega);have j1:v % ((xs.map Y.int).length:Int)<((xs.map Y.int).length:Int):=De _ (by rw[Ae];omega);obtain⟨j,ej⟩:∃j:Nat,v % ((xs.map Y.int).length:Int)=(j:Int):=⟨_,(Int.toNat_of_nonneg j0).symm⟩;rw[ej,Ae] at j1;dsimp only;rw[ej];clear j0 ej;have d1:((j:Int)+1)=((j+1:Nat):Int):=by omega
 refine⟨(by decide:(0:Int)<3),?_⟩;refine zu (fun c4=>?_) fun c4=>?_
 ·refine ql ha1 fun r1 hr1=>?_;rw[vR];have t1:=s1.trans (By (o:=.lst ((xs.map Y.int).take j)) hr1);refine ql (t1 _ _ ha) fun r2 hr2=>?_;rw[d1,mK];have t2:=t1.trans (By (o:=.lst ((xs.map Y.int).drop (j+1))) hr2);refine⟨_,_,By hr2 _ _ q9,q9,?_,fun r3 hr3=>?_⟩
  ·rw[AL,A9,Ae];exact Bd (big _ (by omega))
  have el:(xs.take j++xs.drop (j+1)).length=xs.length - 1:=by rw[Ac,AL,A9];omega
  exact⟨qf L r3 (.lst ((xs.take j++xs.drop (j+1)).map Y.int)),(t2.trans (By hr3)).put (by rw[q9,AC,List.map_take,List.map_drop]),q _ (.inl (by omega)) (by omega) r3 (t2.none hr3)⟩
 ·obtain⟨w,ew,w0,w1⟩:=ac3 v0 (u / 3);refine ql ha1 fun r1 hr1=>?_;rw[vR];have t1:=s1.trans (By (o:=.lst ((xs.map Y.int).take j)) hr1);refine⟨⟨by decide,by decide⟩,(by decide:(0:Int)<4),?_⟩;refine qx ew fun r2 hr2=>?_;have t2:=t1.trans (By (o:=.lst [.int w]) hr2);refine⟨_,_,By hr2 _ _ q9,q9,?_,fun r3 hr3=>?_⟩
  ·rw[AL,Ae];exact Bd (big _ (by simp only[Bf];omega))
  have t3:=t2.trans (By (o:=.lst ((xs.map Y.int).take j++[.int w])) hr3);refine ql (t3 _ _ ha) fun r4 hr4=>?_;rw[d1,mK];have t4:=t3.trans (By (o:=.lst ((xs.map Y.int).drop (j+1))) hr4);refine⟨_,_,By hr4 _ _ q9,q9,?_,fun r5 hr5=>?_⟩
  ·rw[Ac,AL,A9,Ae];exact Bd (big _ (by simp only[Bf];omega))
  have el:=ae6 w (show j<xs.length by omega);exact⟨qf L r5 (.lst ((xs.take j++[w]++xs.drop (j+1)).map Y.int)),(t4.trans (By hr5)).put (by rw[q9,AC,AC,List.map_take,List.map_drop];rfl),q _ (.inr ⟨w,by simp,w0,w1⟩) (by omega) r5 (t4.none hr5)⟩
structure XF32(K:Af)(C n1 n2 n3 n4 n5 n6 n7 n8 n9 o:Addr):Prop where
 hd:XHd K C
 em:PySem.W.exmOne K (.ref C) (.ref C)=some true
 ot:PySem.W.kitAny K (.ref C) [.ref n1,.ref n2,.ref n3,.ref n4,.ref n5,.ref n6,.ref n7,.ref n8,.ref n9]=some false
 on:PySem.W.kitOne K (.ref C) (.ref o)=some true
 ve:PySem.W.kitOne K (.ref C) (.type "ValueError")=some true
theorem XF32.dn{K:Af}{n1 n2 n3 n4 n5 n6 n7 n8 n9 o:Addr}(T:K.lookup Pt=some (PySem.W.tabObj #[]))(x:XF32 K C n1 n2 n3 n4 n5 n6 n7 n8 n9 o):XF32 (lessK Pt K) C n1 n2 n3 n4 n5 n6 n7 n8 n9 o:=⟨aji T x.hd,ak0 T x.em,nW T x.ot,eS T x.on,eS T x.ve⟩
def ox:xw:=fun ys L Q=>∃a l c h,∃wd:List (Option Kn),∃lk ct:List (Nat×Nat),∃xs:List Int,ys=[fj a l c,.ref h]/\L a=some (.lst (dI wd))/\L l=some (.lst (qr lk))/\L c=some (.lst (qr ct))/\L h=some (.lst (xs.map Y.int))/\wd.length≤1000/\lk.length≤2000/\ct.length≤2000/\xs.length≤2000/\acu (aZ true wd).length xs/\Q (.bl true) L
theorem acu.no{xs:List Int}(h:acu (aZ true wd).length xs):¬nZ wd xs:=fun ok=>by
 rcases h with h | ⟨x,hx,h0,h1⟩
 ·exact h ok.len
 ·exact(ok.bit x hx).elim h0 h1
theorem acz{K:Af}{n1 n2 n3 n4 n5 n6 n7 n8 n9 o:Addr}(xf:XF32 K C n1 n2 n3 n4 n5 n6 n7 n8 n9 o):∀ys L Q,ox ys L Q->k6 (lM K C n1 n2 n3 n4 n5 n6 n7 n8 n9 o (fu C)) 5 ys L Q:=by rintro ys L Q ⟨a,l,c,h,wd,lk,ct,xs,rfl,ha,hl,hc,hh,hz,zl,zc,hx,no,q⟩;refine⟨a,l,c,h,wd,lk,ct,xs,rfl,ha,hl,hc,hh,hz,zl,zc,hx,fun ok=>absurd ok no.no,fun _=>⟨xf.em,fun a ha=>?_⟩⟩;refine oP q9 ⟨xf.hd,false,xf.ot,?_⟩;refine oP q9 ⟨xf.hd,true,xf.on,?_⟩;refine oP q9 ⟨xf.hd,true,xf.ve,?_⟩;exact si (By ha) q
theorem yL(wd:List (Option Kn))(xs:List Int)(i:Nat):iA wd xs (i+1)=iA wd xs i++wx wd xs i:=by unfold iA;rw[Es,AN,AQ,CW,AI]
theorem sV(wd:List (Option Kn))(xs:List Int)(i:Nat):(iA wd xs i).length≤2*i:=by have:=zP (rV wd xs) (List.range i);rw[BN] at this;exact this
def iF:xw:=fun ys L Q=>∃a l c h,∃wd:List (Option Kn),∃lk ct:List (Nat×Nat),∃xs:List Int,ys=[fj a l c,.ref h]/\L a=some (.lst (dI wd))/\L l=some (.lst (qr lk))/\L c=some (.lst (qr ct))/\L h=some (.lst (xs.map Y.int))/\wd.length≤1000/\lk.length≤2000/\ct.length≤2000/\nZ wd xs/\
 ∀p,L p=none->Q (.ref p) (qf L p (.lst (qr (dJ wd lk ct xs))))
def tL(a l c h e:Addr)(n:Nat)(u v:Option Y):jj:=[some (fj a l c),some (.ref h),some (.ref a),some (.ref l),some (.ref c),some (.ref e),some (.int (n:Int)),u,v]
theorem xB:∀ys L Q,iF ys L Q->k6 oI 9 ys L Q:=by
 rintro ys L Q ⟨a,l,c,h,wd,lk,ct,xs,rfl,ha,hl,hc,hh,hz,zl,zc,ok,q⟩;have big:=bg_;refine⟨_,_,hl,hc,?_,fun e he=>?_⟩
 ·unfold qr;rw[Ae,Ae];exact Bd (big _ (by omega))
 have s2:qj L (qf L e (.lst (qr lk++qr ct))):=By he;rw[<-gR] at s2 ⊢;have g2:qf L e (.lst (qr (lk++ct))) e=some (.lst (qr (lk++ct))):=q9;generalize qf L e (.lst (qr (lk++ct)))=L2 at s2 g2 ⊢;refine xh (s2 _ _ ha) fun keep kp=>wo ⟨fun i τ L'=>∃c7 c8,τ=tL a l c h e (cQ (jx true) wd i).length c7 c8/\qj L L'/\L' e=some (.lst (qr (lk++ct++iA wd xs i))),⟨_,_,rfl,s2,by show _=some (LO.lst (qr (lk++ct++[])));rw[AI];exact g2⟩,?_,?_,?_⟩
 ·rintro i τ L' ⟨c7,c8,rfl,s,_⟩;exact kp L' (by rw[s _ _ ha,s2 _ _ ha])
 ·rintro i y τ L' hy ⟨c7,c8,rfl,s,g⟩;obtain⟨z,ez,rfl⟩:=dm hy;rw[Ar] at ez;obtain⟨k,ek,rfl⟩:=Ay.mp ez;have hi:=xg ek;have el:=sV wd xs i;have lz:(qr (lk++ct++iA wd xs i)).length≤8000:=by unfold qr;rw[Ae,Ac,Ac];omega
  have ge:qr (lk++ct++iA wd xs (i+1))=qr (lk++ct++iA wd xs i)++qr (wx wd xs i):=by rw[yL,<-Aw,gR _ (wx wd xs i)]
  have nb':∀{k':Option Kn},wd[i]?=some k'->jx true k'=false->cQ (jx true) wd (i+1)=cQ (jx true) wd i:=fun h hb=>by rw[aP h,As (by rw[hb];exact Ax),AI]
  have stay:wx wd xs i=[]->jx true k=false->∀c7 c8,∃c7' c8',tL a l c h e (cQ (jx true) wd i).length c7 c8=tL a l c h e (cQ (jx true) wd (i+1)).length c7' c8'/\qj L L'/\L' e=some (.lst (qr (lk++ct++iA wd xs (i+1)))):=fun hz hb c7 c8=>⟨c7,c8,by rw[nb' ek hb],s,by rw[ge,hz];show _=some (LO.lst (_++[]));rw[AI];exact g⟩;cases k with
  |none=>
   refine⟨fun τ2 L2=>τ2=tL a l c h e (cQ (jx true) wd i).length (some (.int (i:Int))) (some .non)/\L2=L',⟨rfl,rfl⟩,?_⟩;rintro τ2 L2 ⟨rfl,rfl⟩;exact⟨_,EC _,stay (by unfold wx;rw[ek]) rfl _ _⟩
  |some k=>
   cases k with
   |lf t n=>
    refine⟨fun τ2 L2=>τ2=tL a l c h e (cQ (jx true) wd i).length (some (.int (i:Int))) (some (e9 (some (.lf t n))))/\L2=L',?_,?_⟩
    ·cases t<;>exact⟨rfl,rfl⟩
    ·rintro τ2 L2 ⟨rfl,rfl⟩;have w:=stay (by unfold wx;rw[ek]) rfl (some (.int (i:Int))) (some (e9 (some (.lf t n))));cases t<;>exact⟨_,EC _,w⟩
   |nd b i' j'=>
    cases b with
    |false=>
     have z:wx wd xs i=[(i,i'),(i,j')]:=by unfold wx;rw[ek]
     refine⟨fun τ2 L2=>τ2=tL a l c h e (cQ (jx true) wd i).length (some (.int (i:Int))) (some (e9 (some (.nd false i' j'))))/\qj L L2/\L2 e=some (.lst (qr (lk++ct++iA wd xs (i+1)))),?_,?_⟩
     ·refine qd g ?_;intro p hp;have np:e≠p:=vt g hp;refine ql ((qb np).trans g) (ql q9 ⟨?_,?_⟩)
      ·exact Bd (big _ (by simp only[AF,Eo];omega))
      ·exact⟨rfl,(s.trans (By hp)).upd he,by rw[q9,ge,z];rfl⟩
     ·rintro τ2 L2 ⟨rfl,s',g'⟩;exact⟨_,EC _,_,_,by rw[nb' ek rfl],s',g'⟩
    |true=>
     have hn:=vL ek;have hk':=xg hn;rw[<-ok.len] at hk';have hb:=ok.bit _ (BZ hk');have z:wx wd xs i=[(i,dX wd (xs[(cQ (jx true) wd i).length]'hk') i)]:=by unfold wx;rw[ek];show [(i,dX wd (xs[(cQ (jx true) wd i).length]?.getD 0) i)]=_;rw[Al hk'];rfl
     have ex:(xs.map Y.int)[(cQ (jx true) wd i).length]?=some (.int (xs[(cQ (jx true) wd i).length]'hk')):=by rw[Ar,Al hk'];rfl
     refine⟨fun τ2 L2=>τ2=tL a l c h e (cQ (jx true) wd i).length (some (.int (i:Int))) (some (e9 (some (.nd true i' j'))))/\L2=L',⟨rfl,rfl⟩,?_⟩;rintro τ2 L2 ⟨rfl,rfl⟩;have ws:cQ (jx true) wd (i+1)=cQ (jx true) wd i++[i]:=by rw[aP ek];rfl
     generalize xs[(cQ (jx true) wd i).length]'hk'=x at hb z ex;refine qd g (qd (s _ _ hh) (qx (w5 ex) ?_));have av:gc [Y.str (kN true),.int (i':Int),.int (j':Int)] (1+x)=some (.int ((dX wd x i:Nat):Int)):=by unfold dX;rw[ek];rcases hb with rfl | rfl<;>rfl
     walk_at "w";rw[av];refine ql g ⟨big _ (by omega),?_⟩;refine⟨_,EC _,some (.int (i:Int)),some (e9 (some (.nd true i' j'))),?_,s.upd he,?_⟩
     ·rw[ws,Ac];rfl
     ·rw[q9,ge,z];rfl
 ·rintro τ L' ⟨c7,c8,rfl,s,g⟩;rw[bZ,aa] at g;exact⟨qf L e (.lst (qr (dJ wd lk ct xs))),s.put g,q e he⟩
theorem yd(l:List Int):Paired (dF L (n+1)) (l.map Y.int) (l.map Y.int):=f9 fun x hx=>by obtain⟨m,_,rfl⟩:=BI.mp hx;exact .flat rfl
theorem zH :∀ys L Q,oU Pt lamQ ys L Q->k6 (afh cw (ui Pt) uc lT kF cq oo (fu C) (gM 124) iF ox) 8 ys L Q:=by
 rintro ys L Q ⟨ns,rfl,h63,hL,q⟩;have hP:L Pt=some (.tb lamQ):=by rw[hL];exact q9
 clear hL;have big:=bg_;refine⟨ns,0,rfl,by decide,fun sd=>⟨⟨by decide,by decide,by decide⟩,(show(0:Int)<10 ^ (9:Int).toNat by decide),?_⟩⟩;refine⟨_,ns,_,100,100,rfl,rfl,by omega,by omega,hP,fun wa la ca wd lk ct L1 W s1 nw nl nc n1 n2 n3 e1 e2 e3=>?_⟩;obtain⟨wl,cl,ll⟩:=W.lens;clear W hP nw nl nc s1;have kl:(aZ true wd).length≤wd.length:=wM _ _ _;refine⟨by decide,?_⟩;refine pF (fun i τ L'=>∃c3 c4 c5 c6 c7,τ=[some (.sq (ns.map Y.int)),some (.int (sd % 10 ^ (9:Int).toNat)),some (fj wa la ca),c3,c4,c5,c6,c7]/\L'=L1) ⟨_,_,_,_,_,rfl,rfl⟩ ?_ ?_
 ·rintro i τ L' hi ⟨c3,c4,c5,c6,c7,rfl,rfl⟩;have hi:i<2:=hi;refine⟨wa,la,ca,wd,rfl,e1,by omega,?_⟩;refine⟨ns,_,_,rfl,by omega,by omega,by omega,fun xs hxl hxb pc hpc=>?_⟩;have ok:nZ wd xs:=⟨hxl,hxb⟩;have s1:=By (o:=.lst (xs.map Y.int)) hpc;have g1:qf L' pc (.lst (xs.map Y.int)) pc=some (.lst (xs.map Y.int)):=q9;generalize qf L' pc (.lst (xs.map Y.int))=L2 at s1 g1 ⊢;refine⟨_,_,_,rfl,by omega,by omega,by decide,by decide,fun u u0 u1=>⟨_,_,_,rfl,by omega,by omega,by decide,by decide,fun v v0 v1=>?_⟩⟩;refine⟨pc,xs,u,v,rfl,g1,u0,v0,by omega,fun zs hno hzl pb hpb=>?_⟩;rw[hxl] at hno;have s2:=By (o:=.lst (zs.map Y.int)) hpb;have g2:qf L2 pb (.lst (zs.map Y.int)) pb=some (.lst (zs.map Y.int)):=q9;replace g1:=s2 _ _ g1;replace s2:=s1.trans s2;generalize qf L2 pb (.lst (zs.map Y.int))=L3 at s2 g1 g2 ⊢;refine⟨wa,la,ca,_,_,_,rfl,s2 _ _ e1,s2 _ _ e2,s2 _ _ e3,fun a' l' c' L4 s3 _ _ _ _ _ _ h1 h2 h3=>?_⟩;replace g1:=s3 _ _ g1;replace g2:=s3 _ _ g2;replace s3:=s2.trans s3;clear s1 s2 hpc hpb;refine qd g1 fun ph hph=>?_;have s4:=By (o:=.lst (xs.map Y.int)) hph;have h4:qf L4 ph (.lst (xs.map Y.int)) ph=some (.lst (xs.map Y.int)):=q9;replace g1:=s4 _ _ g1;replace g2:=s4 _ _ g2;replace h1:=s4 _ _ h1;replace h2:=s4 _ _ h2;replace h3:=s4 _ _ h3;replace s4:=s3.trans s4;clear s3;generalize qf L4 ph (.lst (xs.map Y.int))=L5 at s4 h4 g1 g2 h1 h2 h3 ⊢;have k1:=s4 _ _ e1;have k2:=s4 _ _ e2;have k3:=s4 _ _ e3;refine⟨a',l',c',ph,wd,lk,ct,xs,rfl,h1,h2,h3,h4,by omega,by omega,by omega,by omega,fun _ pt hpt=>?_,fun no=>absurd ok no⟩;have t1:=By (o:=.lst (qr (dJ wd lk ct xs))) hpt;refine⟨wa,la,ca,pc,wd,lk,ct,xs,rfl,t1 _ _ k1,t1 _ _ k2,t1 _ _ k3,t1 _ _ g1,by omega,by omega,by omega,ok,fun pe hpe=>?_⟩;have t2:=By (o:=.lst (qr (dJ wd lk ct xs))) hpe;have gt:qf (qf L5 pt (.lst (qr (dJ wd lk ct xs)))) pe (.lst (qr (dJ wd lk ct xs))) pt=some (.lst (qr (dJ wd lk ct xs))):=t2 _ _ q9;refine⟨_,_,rfl,aJ gt q9 (gW _),?_⟩;have tl:=sV wd xs wd.length;have lz:(qr (dJ wd lk ct xs)).length≤8000:=by unfold qr dJ;rw[Ae,Ac,Ac];omega
  refine qd gt (ql gt ⟨big _ (by omega),?_⟩);have t3:qj L5 (qf (qf (qf L5 pt (.lst (qr (dJ wd lk ct xs)))) pe (.lst (qr (dJ wd lk ct xs)))) pt (.lst (qr (dJ wd lk ct xs)++[.tup [.int 0,.int 0]]))):=(t1.trans t2).upd hpt;generalize qf (qf (qf L5 pt (.lst (qr (dJ wd lk ct xs)))) pe (.lst (qr (dJ wd lk ct xs)))) pt (.lst (qr (dJ wd lk ct xs)++[.tup [.int 0,.int 0]]))=L6 at t3 ⊢;clear t1 t2 gt;refine qd (t3 _ _ g2) fun pz hpz=>?_;have t4:=t3.trans (By (o:=.lst (zs.map Y.int)) hpz);have gz:qf L6 pz (.lst (zs.map Y.int)) pz=some (.lst (zs.map Y.int)):=q9;generalize qf L6 pz (.lst (zs.map Y.int))=L7 at t4 gz ⊢;refine⟨a',l',c',pz,wd,lk,ct,zs,rfl,t4 _ _ h1,t4 _ _ h2,t4 _ _ h3,gz,by omega,by omega,by omega,by omega,hno,?_⟩;refine⟨_,_,rfl,.inr (.inl ⟨_,_,rfl,rfl,.cons (.inr (.inl ⟨_,_,rfl,rfl,.cons (aJ (t4 _ _ h1) (t4 _ _ k1) (adl (n:=119) wd)) (.cons (aJ (t4 _ _ h2) (t4 _ _ k2) (gW (n:=119) lk)) (.cons (aJ (t4 _ _ h3) (t4 _ _ k3) (gW (n:=119) ct)) .nil))⟩)) (.cons (aJ (t4 _ _ h4) (t4 _ _ g1) (yd (n:=121) xs)) .nil)⟩),?_⟩;refine⟨a',l',c',ph,wd,lk,ct,xs,rfl,t4 _ _ h1,t4 _ _ h2,t4 _ _ h3,t4 _ _ h4,by omega,by omega,by omega,by omega,fun _ pt2 hpt2=>?_,fun no=>absurd ok no⟩;have t5:=t4.trans (By (o:=.lst (qr (dJ wd lk ct xs))) hpt2);refine⟨wa,la,ca,pc,wd,lk,ct,xs,rfl,t5 _ _ k1,t5 _ _ k2,t5 _ _ k3,t5 _ _ g1,by omega,by omega,by omega,ok,fun pe2 hpe2=>?_⟩;refine⟨_,_,rfl,aJ (By hpe2 _ _ q9) q9 (gW _),?_⟩;exact⟨L',(s4.trans t5).trans (By hpe2),_,_,_,_,_,rfl,rfl⟩
 ·rintro τ L' ⟨c3,c4,c5,c6,c7,rfl,rfl⟩;exact vk (q _)
end L3
end
set_option maxRecDepth 100000
set_option maxHeartbeats 8000000
namespace K32
open PySem L2 L3 Words
abbrev ng:Str:="_law_knots"
abbrev nh:Str:="_law_seed"
abbrev ni:Str:="_law_web_here"
abbrev nj:Str:="_law_choices_here"
abbrev nq:Str:="_law_script"
abbrev nr:Str:="_law_one"
abbrev nt:Str:="_law_word_here"
abbrev nu:Str:="_law_two"
abbrev nv:Str:="_law_cuts"
abbrev ny:Str:="_law_links"
abbrev nE:Str:="_law_p"
abbrev nF:Str:="_law_knot"
abbrev nG:Str:="_law_k"
abbrev nH:Str:="_law_forest"
abbrev nI:Str:="_law_turn"
abbrev nJ:Str:="_law_bad_choices"
abbrev nK:Str:="_law_rule"
abbrev nL:Str:="_law_room"
abbrev nM:Str:="_law_most"
abbrev nN:Str:="_law_cell_at"
abbrev nO:Str:="_law_crossed"
abbrev nQ:Str:="_law_beneath"
abbrev nR:Str:="_law_choices"
abbrev nS:Str:="_law_refused"
def top(i:Nat):Stmt:=PySem.Challenge.pw_oncewise_k32_edges.main.body.getD i (.Pass ⟨0,0,0,0⟩)
theorem apx:∀{us:List Value},us.length=1->∃a0,us=[a0]
 |[a0],_=>⟨a0,rfl⟩
theorem aol:∀{us:List Value},us.length=2->∃a0 a1,us=[a0,a1]
 |[a0,a1],_=>⟨a0,a1,rfl⟩
theorem ao6:∀{us:List Value},us.length=3->∃a0 a1 a2,us=[a0,a1,a2]
 |[a0,a1,a2],_=>⟨a0,a1,a2,rfl⟩
theorem aqm:∀{us:List Value},us.length=4->∃a0 a1 a2 a3,us=[a0,a1,a2,a3]
 |[a0,a1,a2,a3],_=>⟨a0,a1,a2,a3,rfl⟩
theorem aon:∀{us:List Value},us.length=5->∃a0 a1 a2 a3 a4,us=[a0,a1,a2,a3,a4]
 |[a0,a1,a2,a3,a4],_=>⟨a0,a1,a2,a3,a4,rfl⟩
abbrev da:Stmt:=top 13
abbrev ft:Stmt:=top 14
abbrev fw:Stmt:=top 16
abbrev lF:Stmt:=top 17
abbrev eL:Stmt:=top 19
abbrev ij:Stmt:=top 20
abbrev kW:Stmt:=top 21
abbrev ie:Stmt:=top 22
abbrev i9:Stmt:=top 23
abbrev i5:Stmt:=top 24
abbrev fH:Stmt:=top 25
abbrev fE:Stmt:=top 26
abbrev iY:Stmt:=top 27
abbrev i3:Stmt:=top 28
abbrev kR:Stmt:=top 29
abbrev iS:Stmt:=top 30
abbrev iW:Stmt:=top 31
abbrev eE:Stmt:=top 32
abbrev eM:Stmt:=top 33
abbrev fF:Stmt:=top 34
abbrev s__law_order:Stmt:=top 35
abbrev fG:Stmt:=top 36
abbrev kM:Stmt:=top 37
abbrev iX:Stmt:=top 38
abbrev gH:Stmt:=top 39
abbrev dq:Stmt:=top 40
abbrev fg:Stmt:=top 41
abbrev au:Stmt:=top 42
abbrev eJ:Stmt:=top 43
abbrev qQ:Stmt:=top 44
structure V_ where
 (P:Program) (w:World) (K:Af) (mg:Str->Option Value) (base:Heap) (Pt:Addr) (Ca Cj Ce Cd Cg Ch Cb Ci Ck Cc Cf:Addr)
structure B_(V:V_):Prop where
 hp:∃h:Heap,V.K.In h/\h.Ns mainGlobals V.mg
 bi:V.mg "enumerate" = none
 bz:V.mg "all" = none
 ba:V.mg "len" = none
 bx:V.mg "zip" = none
 bf:V.mg "isinstance" = none
 bu:V.mg "bool" = none
 bg:V.mg "list" = none
 bq:V.mg "tuple" = none
 bv:V.mg "int" = none
 bw:V.mg "str" = none
 bh:V.mg "range" = none
 bj:V.mg "sorted" = none
 bp:V.mg "max" = none
 br:V.mg "min" = none
 b_ValueError:V.mg "ValueError" = none
 D0:zj V.K "places_there" da
 D1:zj V.K "eithers_of" ft
 D2:zj V.K "kept_parts" fw
 D3:zj V.K "edges_by" lF
 D4:zj V.K nN eL
 D5:zj V.K "_law_same" ij
 D6:zj V.K "_law_mix" kW
 D7:zj V.K "_law_name" ie
 D8:zj V.K "_law_word" i9
 D9:zj V.K "_law_flip" i5
 D10:zj V.K "_law_weight" fH
 D11:zj V.K "_law_mirror" fE
 D12:zj V.K "_law_join" iY
 D13:zj V.K "_law_fold" i3
 D14:zj V.K "_law_cut" kR
 D15:zj V.K "_law_tree" iS
 D16:zj V.K "_law_told" iW
 D17:zj V.K nO eE
 D18:zj V.K nQ eM
 D19:zj V.K "_law_recast" fF
 D20:DefInT V.K "_law_order" s__law_order V.Pt
 D21:zj V.K "_law_gapped" fG
 D22:zj V.K "_law_web" kM
 D23:zj V.K "_law_copy" iX
 D24:zj V.K "_law_count" gH
 D25:zj V.K nR dq
 D26:zj V.K "_law_edges" fg
 D27:zj V.K nJ au
 D28:zj V.K nS eJ
 md:V.mg "BadChoices" = some (.ref V.Ca)
 mj:V.mg "NoWord" = some (.ref V.Cj)
 mh:V.mg "BadText" = some (.ref V.Ce)
 mf:V.mg "BadWeb" = some (.ref V.Cd)
 mac:V.mg "BadTree" = some (.ref V.Cg)
 mz:V.mg "NoTree" = some (.ref V.Ch)
 mm:V.mg "NoCut" = some (.ref V.Cb)
 mab:V.mg "NoExchange" = some (.ref V.Ci)
 maa:V.mg "OtherWeb" = some (.ref V.Ck)
 mw:V.mg "TooMany" = some (.ref V.Cc)
 me:V.mg "OnceError" = some (.ref V.Cf)
 x_BadChoices:aau V.K V.Ca
 xf:L3.XF32 V.K V.Ca V.Cj V.Ce V.Cd V.Cg V.Ch V.Cb V.Ci V.Ck V.Cc V.Cf
abbrev Q_(V:V_)(k:Nat)(x:Str)(ps:List Str)(sp:xw):Prop:=ai8 V.P V.w V.K V.mg V.base k x ps sp
abbrev c0(_:V_):Prop:=True
local macro_rules | `(tactic| walk_at "s")=>`(tactic| exact⟨rfl,rfl,rfl,by decide +kernel,rfl,by decide +kernel,by decide +kernel⟩)
local macro_rules | `(tactic| walk_at "l")=>`(tactic| first | exact fun _ _ _ ⟨_,e,_⟩=>by rw[e];rfl | exact fun _ _ _ ⟨_,_,e,_⟩=>by rw[e];rfl | exact fun _ _ _ ⟨_,_,_,e,_⟩=>by rw[e];rfl | exact fun _ _ _ ⟨_,_,_,_,e,_⟩=>by rw[e];rfl | exact fun _ _ _ ⟨_,_,_,_,_,e,_⟩=>by rw[e];rfl | exact fun _ _ _ ⟨_,_,_,_,_,_,e,_⟩=>by rw[e];rfl | exact fun _ _ _ ⟨_,_,_,_,_,_,_,e,_⟩=>by rw[e];rfl | exact fun _ _ _ ⟨_,_,_,_,_,_,_,_,e,_⟩=>by rw[e];rfl | exact fun _ _ _ ⟨_,_,_,_,_,_,_,_,_,e,_⟩=>by rw[e];rfl)
local macro_rules | `(tactic| walk_at "x")=>`(tactic| first | exact fun _ _ _ _ ⟨_,e,_⟩=>by rw[e];rfl | exact fun _ _ _ _ ⟨_,_,e,_⟩=>by rw[e];rfl | exact fun _ _ _ _ ⟨_,_,_,e,_⟩=>by rw[e];rfl | exact fun _ _ _ _ ⟨_,_,_,_,e,_⟩=>by rw[e];rfl | exact fun _ _ _ _ ⟨_,_,_,_,_,e,_⟩=>by rw[e];rfl | exact fun _ _ _ _ ⟨_,_,_,_,_,_,e,_⟩=>by rw[e];rfl | exact fun _ _ _ _ ⟨_,_,_,_,_,_,_,e,_⟩=>by rw[e];rfl | exact fun _ _ _ _ ⟨_,_,_,_,_,_,_,_,e,_⟩=>by rw[e];rfl | exact fun _ _ _ _ ⟨_,_,_,_,_,_,_,_,_,e,_⟩=>by rw[e];rfl)
local macro_rules | `(tactic| walk_at "b")=>`(tactic| (intro _ _ _ _ _ _ us hl;first | (obtain⟨_,e⟩:=apx hl;rw[e];rfl) | (obtain⟨_,_,e⟩:=aol hl;rw[e];rfl) | (obtain⟨_,_,_,e⟩:=ao6 hl;rw[e];rfl) | (obtain⟨_,_,_,_,e⟩:=aqm hl;rw[e];rfl) | (obtain⟨_,_,_,_,_,e⟩:=aon hl;rw[e];rfl)))
section
variable {f:Addr}{fd:FuncData}{x q:Str}{st:Stmt}{ps:List Str}(V:V_)(k:Nat)(N:List Str)
theorem W_{sp:xw}{t:w6}(F:Fun V.K x q st f fd)(vc:∀ys L Q,sp ys L Q->k6 t N.length ys L Q)(h:∀(cdv:Value) (A:Around) (outer:List Env) (s:Shared) (H:Hp) (E:XK),w4 k (A.deeper (PyProof.Rows.envOfC q (qo st) s.heap.objs.size f cdv))->N.Nodup->(A.deeper (PyProof.Rows.envOfC q (qo st) s.heap.objs.size f cdv)).units+128<cLine->mC (cz CX0 V.P V.w V.K V.mg V.base N q (qo st) f cdv A outer s H E).nox (jk st) t)(sc:wr N ps (qo st):=by walk_at "s")(len:∀ys L Q,sp ys L Q->ys.length=ps.length:=by walk_at "l"):Fn3 V.P V.w V.K V.mg V.base (k+1) f fd ps sp:=
 ok3 F sc len fun cdv A outer s H E hr=>⟨t,h cdv A outer s H E hr sc.nd (huK hr),vc⟩
theorem M_{sp:xw}{t:w6}(hp:∃h:Heap,V.K.In h/\h.Ns mainGlobals V.mg)(D:zj V.K x st)(vc:∀ys L Q,sp ys L Q->k6 t N.length ys L Q)(h:∀f,∀(cdv:Value) (A:Around) (outer:List Env) (s:Shared) (H:Hp) (E:XK),w4 k (A.deeper (PyProof.Rows.envOfC x (qo st) s.heap.objs.size f cdv))->N.Nodup->(A.deeper (PyProof.Rows.envOfC x (qo st) s.heap.objs.size f cdv)).units+128<cLine->mC (cz CX0 V.P V.w V.K V.mg V.base N x (qo st) f cdv A outer s H E).nox (jk st) t)(sc:wr N ps (qo st):=by walk_at "s")(len:∀ys L Q,sp ys L Q->ys.length=ps.length:=by walk_at "l")(hb:∀(kV doc pm:Value) (an:Option Addr) (cdv ct:Value) (us:List Value),us.length=ps.length->bindArgs (PySem.W.fnOf x x (xq st) (jk st) (qo st) .none kV doc pm an cdv ct) ⟨us,[]⟩=pure (ps.zip us):=by walk_at "b"):Q_ V (k+1) x ps sp:=by obtain⟨_,X,G⟩:=hp;obtain⟨f,fd,F,b,m⟩:=D.use X G hb;exact yq.of (W_ V k N F vc (h f) sc len) b F.kp m
theorem R_{sp:Nat->xw}{t:Nat->w6}(hp:∃h:Heap,V.K.In h/\h.Ns mainGlobals V.mg)(D:zj V.K x st)(no:∀ys L Q,¬sp 0 ys L Q)(vc:∀n ys L Q,sp (n+1) ys L Q->k6 (t n) N.length ys L Q)(h:∀n f,Q_ V (n+k) x ps (sp n)->∀(cdv:Value) (A:Around) (outer:List Env) (s:Shared) (H:Hp) (E:XK),w4 (n+k) (A.deeper (PyProof.Rows.envOfC x (qo st) s.heap.objs.size f cdv))->N.Nodup->(A.deeper (PyProof.Rows.envOfC x (qo st) s.heap.objs.size f cdv)).units+128<cLine->mC (cz CX0 V.P V.w V.K V.mg V.base N x (qo st) f cdv A outer s H E).nox (jk st) (t n))(n:Nat)(sc:wr N ps (qo st):=by walk_at "s")(len:∀n ys L Q,sp n ys L Q->ys.length=ps.length:=by walk_at "x")(hb:∀(kV doc pm:Value) (an:Option Addr) (cdv ct:Value) (us:List Value),us.length=ps.length->bindArgs (PySem.W.fnOf x x (xq st) (jk st) (qo st) .none kV doc pm an cdv ct) ⟨us,[]⟩=pure (ps.zip us):=by walk_at "b"):Q_ V (n+k) x ps (sp n):=by
 obtain⟨_,X,G⟩:=hp;obtain⟨f,fd,F,b,m⟩:=D.use X G hb
 induction n with|zero=>exact yq.of (Fn3.never no) b F.kp m|succ n ih=>rw[Nat.add_right_comm];exact yq.of (W_ V (n+k) N F (vc n) (h n f ih) sc (len _)) b F.kp m
theorem X_{sp:gE}{t:X3->w6}(hp:∃h:Heap,V.K.In h/\h.Ns mainGlobals V.mg)(D:zj V.K x st)(vc:∀ys L Q E,sp ys L Q E->k6 (t (uD E)) N.length ys L Q)(h:∀f,∀(cdv:Value) (A:Around) (outer:List Env) (s:Shared) (H:Hp) (E:XK) (E3:X3),w4 k (A.deeper (PyProof.Rows.envOfC x (qo st) s.heap.objs.size f cdv))->aj (cz (CXE V.P V.w) V.P V.w V.K V.mg V.base N x (qo st) f cdv A outer s H E) (upX ⟨V.K,V.P,V.w⟩ E3)->N.Nodup->(A.deeper (PyProof.Rows.envOfC x (qo st) s.heap.objs.size f cdv)).units+128<cLine->mC (cz (CXE V.P V.w) V.P V.w V.K V.mg V.base N x (qo st) f cdv A outer s H E) (jk st) (t E3))(sc:wr N ps (qo st):=by walk_at "s")(len:∀ys L Q E,sp ys L Q E->ys.length=ps.length:=by walk_at "x")(hb:∀(kV doc pm:Value) (an:Option Addr) (cdv ct:Value) (us:List Value),us.length=ps.length->bindArgs (PySem.W.fnOf x x (xq st) (jk st) (qo st) .none kV doc pm an cdv ct) ⟨us,[]⟩=pure (ps.zip us):=by walk_at "b"):iU V.P V.w V.K V.mg V.base (k+1) x ps sp:=by obtain⟨_,X,G⟩:=hp;obtain⟨f,fd,F,b,m⟩:=D.use X G hb;exact⟨_,_,aoz F sc len (fun cdv A outer s H E E3 hr ht=>h f cdv A outer s H E E3 hr ht sc.nd (huK hr)) vc,b,F.kp,m⟩
theorem T_{sp:xw}{t:w6}(hp:∃h:Heap,V.K.In h/\h.Ns mainGlobals V.mg)(D:DefInT V.K x st V.Pt)(vc:∀ys L Q,sp ys L Q->k6 t N.length ys L Q)(h:∀f,∀(cdv:Value) (A:Around) (outer:List Env) (s:Shared) (H:Hp) (E:XK),xF V.K cdv V.Pt->w4 k (A.deeper (PyProof.Rows.envOfC x (qo st) s.heap.objs.size f cdv))->N.Nodup->(A.deeper (PyProof.Rows.envOfC x (qo st) s.heap.objs.size f cdv)).units+128<cLine->mC (cz CX0 V.P V.w V.K V.mg V.base N x (qo st) f cdv A outer s H E).nox (jk st) t)(sc:wr N ps (qo st):=by walk_at "s")(len:∀ys L Q,sp ys L Q->ys.length=ps.length:=by walk_at "l")(hb:∀(kV doc pm:Value) (an:Option Addr) (cdv ct:Value) (us:List Value),us.length=ps.length->bindArgs (PySem.W.fnOf x x (xq st) (jk st) (qo st) .none kV doc pm an cdv ct) ⟨us,[]⟩=pure (ps.zip us):=by walk_at "b"):Q_ V (k+1) x ps sp:=by obtain⟨_,X,G⟩:=hp;obtain⟨f,fd,F,b,m⟩:=D.use X G hb;exact yq.of (aog F sc len fun cdv A outer s H E C hr=>⟨t,h f cdv A outer s H E C hr sc.nd (huK hr),vc⟩) b F.kp m
end
theorem I_{X:Cx}{a b:Expr}{ta tb:xn}{pos:Pos}(ha:QE X a ta)(hb:QE X b tb)(hp:jN b:=by exact fun _ _=>rfl):QE X (.Subscript a b pos) (zg bO ta tb):=amc (ag2 X.K X.prog X.w) ha hb hp
theorem xu{X:Cx}{e:Expr}{t:xn}(h:QE X e t)(s:starEach [e] X.env=[(false,eval e X.env)]:=by rfl):QA X [e] (qe t qy):=x4 h ki s
theorem v9{X:Cx}{e f:Expr}{t u:xn}(h:QE X e t)(g:QE X f u)(s:starEach [e,f] X.env=[(false,eval e X.env),(false,eval f X.env)]:=by rfl)(r:starEach [f] X.env=[(false,eval f X.env)]:=by rfl):QA X [e,f] (qe t (qe u qy)):=x4 h (xu g r) (by show _=_;rw[s,r])
theorem ay{X:Cx}{e f d:Expr}{t u v:xn}(h:QE X e t)(g:QE X f u)(i:QE X d v)(s:starEach [e,f,d] X.env=[(false,eval e X.env),(false,eval f X.env),(false,eval d X.env)]:=by rfl)(r:starEach [f,d] X.env=[(false,eval f X.env),(false,eval d X.env)]:=by rfl)(q:starEach [d] X.env=[(false,eval d X.env)]:=by rfl):QA X [e,f,d] (qe t (qe u (qe v qy))):=x4 h (v9 g i r q) (by show _=_;rw[s,r])
theorem E_{X:Cx}{a b:Expr}{ta tb:xn}{pos:Pos}(hu:X.A.units+128<cLine)(ha:QE X a ta)(hb:QE X b tb):QT X (.Compare a [.Eq] [b] pos) (yB (zg (vS false) ta tb)):=xi (qI X.K X.prog X.w hu) ha hb (vn _)
theorem N_{X:Cx}{a b:Expr}{ta tb:xn}{pos:Pos}(hu:X.A.units+128<cLine)(ha:QE X a ta)(hb:QE X b tb):QT X (.Compare a [.NotEq] [b] pos) (yB (zg (vS true) ta tb)):=xi (amq X.K X.prog X.w hu) ha hb (vn _)
theorem S_{X:Cx}{x:Str}{e:Expr}{te:xn}{pos pos':Pos}(i:Nat)(hN:X.N.Nodup)(h:QE X e te)(hix:X.N[i]?=some x:=by rfl)(hx:Loc X.env.scope x:=by exact Or.inl rfl)(hsw:swapsWith e (some (.Name x pos')) pos.line X.env=pure false:=by rfl)(hfn:X.fn x=true\/X.env.scope.names.lookup x=some .local:=by first | exact .inl rfl | exact .inr rfl | assumption):QS X (.Assign [.Name x pos'] e pos) (zp te (qh i)):=aW (i:=i) hN hix hx h hsw hfn
theorem G_{X:Cx}{x:Str}{pos:Pos}(i:Nat)(hN:X.N.Nodup)(hix:X.N[i]?=some x:=by rfl)(hx:Loc X.env.scope x:=by exact Or.inl rfl)(hfn:X.fn x=true\/X.env.scope.names.lookup x=some .local:=by first | exact .inl rfl | exact .inr rfl | assumption):QG X (.Name x pos) (qh i):=jM (i:=i) hN hix hx hfn
theorem C_{X:Cx}{e:Expr}{es:List Expr}{tr:dQ}{pos p:Pos}{j k:Nat}{x:Str}{ps:List Str}{sp:xw}(c:ai8 X.prog X.w X.K X.mg X.base j x ps sp)(hr:w4 k X.A)(ha:QA X (e::es) tr)(hj:j≤k:=by first | decide | exact Am _ | exact AU (by decide) (C5 _ _))(hg:Gl X x:=by rfl)(hdb:EW x:=by decide)(he:Ez e es X:=by rfl)(hpl:EV pos es X:=by rfl):QE X (.Call (.Name x p) (e::es) [] pos) (zo sp tr):=aom (yq.mono c hj) hr hg ha hdb he hpl
theorem J_{X:Cx}{x:Str}{n:Int}{k:Nat}{p q pos:Pos}(i:Nat)(hN:X.N[i]?=some x:=by rfl)(hv:Vis X.env.scope x:=by first | exact Or.inl rfl | exact Or.inr (Or.inl rfl) | exact Or.inr (Or.inr rfl))(hd:EW x:=by decide)(hc:EX x:=by decide):QE X (.Subscript (.Name x p) (.Constant (.int n) k q) pos) (zg bO (qa i) (yC (.int n))):=I_ (qv i hN hv hd hc) qg (fun _ _=>rfl)
theorem L_{X:Cx}{e:Expr}{t:xn}{p pos:Pos}(hm:X.mg "len" = none)(h:QE X e t)(s:starEach [e] X.env=[(false,eval e X.env)]:=by rfl)(hg:Gl X "len" := by rfl):QE X (.Call (.Name "len" p) [e] [] pos) (cx iI (qe t qy)):=x9 (aj3 X.K X.prog X.w) hg hm ah4 (xu h s) (hs:=s)
theorem qB{l:List Str}(h:decide l.Nodup=true:=by kernel_rfl):l.Nodup:=of_decide_eq_true h
abbrev c1(V:V_):Prop:=c0 V/\Q_ V 1 "places_there" ["knots"] (g9)
theorem d1(V:V_)(B:B_ V)(c:c0 V):c1 V:=⟨c,M_ V 0 ["knots"] B.hp B.D0 yw fun _ _ _ _ _ _ _ hr hN hu=>(qi (zm (dR ["place", "knot" ] (EK (by rfl)) rfl (eW rfl B.bi (qv 0)) (jH rfl qB (fun _ _ _ _=>rfl) (fun _ _ _ _=>rfl)) (fun _ _ _ _=>cY (cO (qv 2))) (fun _ _ _ _=>(qv 1)))))⟩
abbrev c2(V:V_):Prop:=c1 V/\Q_ V 1 "eithers_of" ["web"] (fh)
theorem d2(V:V_)(B:B_ V)(c:c1 V):c2 V:=⟨c,M_ V 0 ["web"] B.hp B.D1 aa5 fun _ _ _ _ _ _ _ hr hN hu=>(qi (zm (dR ["place", "knot" ] (EK (by rfl)) rfl (eW rfl B.bi (J_ 0)) (jH rfl qB (fun _ _ _ _=>rfl) (fun _ _ _ _=>rfl)) (fun _ _ _ _=>cY (ku (wc (cO (qv 2)) (vd (E_ hu (J_ 2) jg))))) (fun _ _ _ _=>(qv 1)))))⟩
abbrev c3(V:V_):Prop:=c2 V/\iU V.P V.w V.K V.mg V.base 2 "kept_parts" ["web", "choices"] (jC V.Ca)
theorem d3(V:V_)(B:B_ V)(c:c2 V):c3 V:=⟨c,X_ V 1 ["web", "choices", "eithers", "kept", "place", "choice"] (t:=(fun E3=>gd V.Ca E3 (fh))) B.hp B.D2 ad3 fun _ _ _ _ _ _ _ _ hr ht hN hu=>(qc (S_ 2 hN (C_ c.2 hr (xu (qv 0)))) (qc (ajp "choice'" (ku (jU (N_ hu (L_ B.ba (qv 1)) (L_ B.ba (qv 2))) (fW (gx (wq (x9 alr rfl B.bz ah2 (xu (dR ["choice"] (EK (by rfl)) rfl (vq (qv 1)) (ke qB (fun _ _ _ _=>Or.inl rfl) (fun _ _ _ _=>rfl)) (fun _ _ _ _=>iG) (fun _ _ _ _=>(gA (agh _ _ _) (qv 6) (zd (v9 qg qg)) (by with_unfolding_all rfl))))))))))) (qi (aay B.x_BadChoices rfl B.md rfl ht rfl (xu jg))) ze) (qc (S_ 3 hN vJ) (qc (ww PassesOwn.leaving rfl (abe rfl B.bx (v9 (qv 2) (qv 1))) (wv rfl (zf (G_ 4 hN) (zf (G_ 5 hN) vg))) (qi (wF hu (qv 3) (qv 4) (I_ (I_ (J_ 0) (qv 4)) (qk jm qg (qv 5)))))) (qi (zm (qv 3)))))))⟩
abbrev c4(V:V_):Prop:=c3 V/\iU V.P V.w V.K V.mg V.base 3 "edges_by" ["web", "choices"] (fu V.Ca)
theorem d4(V:V_)(B:B_ V)(c:c3 V):c4 V:=⟨c,X_ V 2 ["web", "choices", "kept", "edges", "place", "knot"] (t:=(fun E3=>lS E3 (jC V.Ca) (g9))) B.hp B.D3 abq fun _ _ _ _ _ _ _ _ hr ht hN hu=>(qc (S_ 2 hN (ab5 (c.2.mono (by decide)) hr rfl ht rfl (v9 (qv 0) (qv 1)))) (qc (S_ 3 hN (qk jm (J_ 0) (J_ 0))) (qc (ww PassesOwn.leaving rfl (vq (C_ c.1.1.2 hr (xu (J_ 0)))) (G_ 4 hN) (qc (S_ 5 hN (I_ (J_ 0) (qv 4))) (xo (jc (E_ hu (J_ 5) jg) (qc (z9 (qz (qv 3) (xu (zd (v9 (qv 4) (J_ 5)))))) (qi (z9 (qz (qv 3) (xu (zd (v9 (qv 4) (J_ 5)))))))) ze) (qi (jc (E_ hu (J_ 5) jg) (qi (z9 (qz (qv 3) (xu (zd (v9 (qv 4) (a7 hu (qv 2) (qv 4) (fun _ _=>rfl)))))))) ze))))) (qi (zm (qv 3))))))⟩
abbrev c5(V:V_):Prop:=c4 V/\Q_ V 1 nN [nq, nG] (cw)
theorem d5(V:V_)(B:B_ V)(c:c4 V):c5 V:=⟨c,M_ V 0 [nq, nG] B.hp B.D4 uQ fun _ _ _ _ _ _ _ hr hN hu=>(qc (jc (xi qE (qv 1) (L_ B.ba (qv 0)) (vn _)) (qi (zm (I_ (qv 0) (qv 1)))) ze) (qi (zm qg)))⟩
abbrev c6(V:V_):Prop:=c5 V/\Q_ V 125 "_law_same" ["_law_found", "_law_due"] (gM 124)
theorem d6(V:V_)(B:B_ V)(c:c5 V):c6 V:=⟨c,R_ V 1 ["_law_found", "_law_due", nr, "_law_other"] B.hp B.D5 oj aeh (fun _ _ c__law_same _ _ _ _ _ _ hr hN hu=>(qc (jc (ku (jU (wq (ko .bool rfl B.bf rfl B.bu jI (qv 0))) (fW (wq (ko .bool rfl B.bf rfl B.bu jI (qv 1)))))) (qi (zm (hU (ko .bool rfl B.bf rfl B.bu jI (qv 0)) (hU (ko .bool rfl B.bf rfl B.bu jI (qv 1)) (pQ (gA (qI _ _ _ hu) (qv 0) (qv 1) (vn _))))))) ze) (qc (jc (wq (um .list .tuple rfl B.bf rfl B.bg a9 rfl B.bq gG (qv 1))) (qc (jc (ku (jU (N_ hu (ko .list rfl B.bf rfl B.bg a9 (qv 0)) (ko .list rfl B.bf rfl B.bg a9 (qv 1))) (fW (N_ hu (ko .tuple rfl B.bf rfl B.bq gG (qv 0)) (ko .tuple rfl B.bf rfl B.bq gG (qv 1)))))) (qi (zm fi)) ze) (qc (jc (N_ hu (L_ B.ba (qv 0)) (L_ B.ba (qv 1))) (qi (zm fi)) ze) (qc (ww PassesOwn.never rfl (abe rfl B.bx (v9 (qv 0) (qv 1))) (wv rfl (zf (G_ 2 hN) (zf (G_ 3 hN) vg))) (qi (jc (gx (wq (C_ c__law_same hr (v9 (qv 2) (qv 3))))) (qi (zm fi)) ze))) (qi (zm fi))))) ze) (qc (jc (wq (ko .int rfl B.bf rfl B.bv uY (qv 1))) (qi (zm (hU (ko .int rfl B.bf rfl B.bv uY (qv 0)) (pQ (gA (qI _ _ _ hu) (qv 0) (qv 1) (vn _)))))) ze) (qc (jc (wq (ko .str rfl B.bf rfl B.bw aak (qv 1))) (qi (zm (hU (ko .str rfl B.bf rfl B.bw aak (qv 0)) (pQ (gA (qI _ _ _ hu) (qv 0) (qv 1) (vn _)))))) ze) (qi (zm (ajr (qv 0))))))))) 124⟩
abbrev c7(V:V_):Prop:=c6 V/\Q_ V 1 "_law_mix" ["_law_cell", nG, "_law_factor"] (cq)
theorem d7(V:V_)(B:B_ V)(c:c6 V):c7 V:=⟨c,M_ V 0 ["_law_cell", nG, "_law_factor"] B.hp B.D6 aj9 fun _ _ _ _ _ _ _ hr hN hu=>(qi (zm (qk kh (qk jt (qk qX (qk jm (qk jm (qk qX (qk jt (qv 0) qg) qg) (qk qX (qv 1) (qv 1))) qg) (qv 2)) qg) qg)))⟩
abbrev c8(V:V_):Prop:=c7 V/\Q_ V 1 "_law_name" [nh, "_law_which"] (kG)
theorem d8(V:V_)(B:B_ V)(c:c7 V):c8 V:=⟨c,M_ V 0 [nh, "_law_which", "_law_letters", "_law_size", "_law_place", "_law_base", "_law_sign"] B.hp B.D7 aap fun _ _ _ _ _ _ _ hr hN hu=>(qc (aW (i:=2) hN rfl (Or.inr rfl) jg) (qc (S_ 3 hN (qk jm qg (qk jt (qv 0) qg))) (qc (S_ 4 hN (qk jt (qk kh (qv 0) qg) (qv 3))) (qc (S_ 5 hN (acm jg (xu (dR [nG] (EK (by rfl)) rfl (ai rfl B.bh (xu qg)) (ke qB (fun _ _ _ _=>Or.inl rfl) (fun _ _ _ _=>rfl)) (fun _ _ _ _=>iG) (fun _ _ _ _=>(I_ (qv 2) (qk jt (qk jm (qk kh (qv 0) qg) (qk qX qg (qv 7))) qg))))))) (qc (jc (E_ hu (qk jt (qk kh (qv 0) qg) qg) qg) (qi (zm (aQ (jV _ _ _) (qv 5) cR (a6 (qk jm qg (qk jt (qk jm (qv 1) (qv 0)) qg)))))) ze) (qc (S_ 6 hN (I_ (qv 2) (qk jt (qk jm (qk jm (qk kh (qv 0) qg) (qk qX qg (qv 4))) (qv 1)) qg))) (qi (zm (qk jm (qk jm (aQ (jV _ _ _) (qv 5) cR (a6 (qv 4))) (qv 6)) (aQ (jV _ _ _) (qv 5) (a6 (qk jm (qv 4) qg)) (a6 (qv 3))))))))))))⟩
abbrev c9(V:V_):Prop:=c8 V/\Q_ V 121 "_law_word" [ng, nE] (aD 120)
theorem d9(V:V_)(B:B_ V)(c:c8 V):c9 V:=⟨c,R_ V 1 [ng, nE, nF] B.hp B.D8 pL qF (fun _ _ c__law_word _ _ _ _ _ _ hr hN hu=>(qc (S_ 2 hN (I_ (qv 0) (qv 1))) (qc (jc (E_ hu (L_ B.ba (qv 2)) qg) (qi (zm (qv 2))) ze) (qi (zm (zd (ay (J_ 2) (C_ c__law_word hr (v9 (qv 0) (J_ 2))) (C_ c__law_word hr (v9 (qv 0) (J_ 2)))))))))) 120⟩
abbrev az(V:V_):Prop:=c9 V/\Q_ V 121 "_law_flip" [nt] (bQ 120)
theorem d10(V:V_)(B:B_ V)(c:c9 V):az V:=⟨c,R_ V 1 [nt, "_law_sides"] B.hp B.D9 aai ab0 (fun _ _ c__law_flip _ _ _ _ _ _ hr hN hu=>(qc (S_ 1 hN (aed [ ("plain" , "turned") ,("turned" , "plain") ,("both" , "either") ,("either" , "both") ] (gF cj cj (gF cj cj (gF cj cj (gF cj cj aec)))) rfl rfl (List.cons_ne_nil _ _) (BB rfl))) (qc (jc (E_ hu (L_ B.ba (qv 0)) qg) (qi (zm (zd (v9 (I_ (qv 1) (J_ 0)) (J_ 0))))) ze) (qi (zm (zd (ay (I_ (qv 1) (J_ 0)) (C_ c__law_flip hr (xu (J_ 0))) (C_ c__law_flip hr (xu (J_ 0)))))))))) 120⟩
abbrev c11(V:V_):Prop:=az V/\Q_ V 121 "_law_weight" [nt] (cM 120)
theorem d11(V:V_)(B:B_ V)(c:az V):c11 V:=⟨c,R_ V 1 [nt] B.hp B.D10 lJ yE (fun _ _ c__law_weight _ _ _ _ _ _ hr hN hu=>(qc (jc (E_ hu (L_ B.ba (qv 0)) qg) (qi (zm qg)) ze) (qi (zm (qk jm (qk jm qg (C_ c__law_weight hr (xu (J_ 0)))) (C_ c__law_weight hr (xu (J_ 0)))))))) 120⟩
abbrev c12(V:V_):Prop:=c11 V/\Q_ V 127 "_law_mirror" [ng, nt] (bY 5)
theorem d12(V:V_)(B:B_ V)(c:c11 V):c12 V:=⟨c,R_ V 122 [ng, nt, "_law_left", "_law_right", nI, "_law_same_here", "_law_low", "_law_high"] B.hp B.D11 xG yZ (fun _ _ c__law_mirror _ _ _ _ _ _ hr hN hu=>(qc (jc (E_ hu (L_ B.ba (qv 1)) qg) (qc (z9 (qz (qv 0) (xu (C_ c.1.2 hr (xu (qv 1)))))) (qc (z9 (qz (qv 0) (xu (qv 1)))) (qi (zm (j9 (ay (zd (ay jg (qk bB (L_ B.ba (qv 0)) qg) (qk bB (L_ B.ba (qv 0)) qg))) (qk bB (L_ B.ba (qv 0)) qg) (qk bB (L_ B.ba (qv 0)) qg))))))) ze) (qc (S_ 2 hN (C_ c__law_mirror hr (v9 (qv 0) (J_ 1)))) (qc (S_ 3 hN (C_ c__law_mirror hr (v9 (qv 0) (J_ 1)))) (qc (z9 (qz (qv 0) (xu (zd (ay (I_ (C_ c.1.2 hr (xu (qv 1))) qg) (J_ 2) (J_ 3)))))) (qc (z9 (qz (qv 0) (xu (zd (ay (J_ 1) (J_ 2) (J_ 3)))))) (qc (ab6 (i:=4) (j:=5) rfl hN rfl rfl (by decide) rfl rfl (v9 (qk bB (L_ B.ba (qv 0)) qg) (qk bB (L_ B.ba (qv 0)) qg)) rfl) (qc (S_ 6 hN (dk (E_ hu (J_ 1) jg) (qv 4) (qv 5))) (qc (S_ 7 hN (dk (E_ hu (J_ 1) jg) (qv 5) (qv 4))) (qi (zm (j9 (ay (zd (ay jg (qv 7) (zd (x4 jg (ay (qv 6) (J_ 2) (J_ 3)))))) (qv 4) (qv 5)))))))))))))) 5⟩
abbrev c13(V:V_):Prop:=c12 V/\Q_ V 1 "_law_join" [ng, nH, nr, nu] (oJ)
theorem d13(V:V_)(B:B_ V)(c:c12 V):c13 V:=⟨c,M_ V 0 [ng, nH, nr, nu, "_law_first", "_law_second", "_law_left", "_law_right", "_law_ends"] B.hp B.D12 aep fun _ _ _ _ _ _ _ hr hN hu=>(qc (S_ 4 hN (cD (qv 1) (xu (qk jt (qv 3) (L_ B.ba (qv 1)))))) (qc (S_ 5 hN (cD (qv 1) (xu (qk jt (qv 2) (L_ B.ba (qv 1)))))) (qc (aW (i:=6) hN rfl (Or.inr rfl) (I_ (J_ 4) (qk jt (qk kh (qv 3) qg) (L_ B.ba (J_ 4))))) (qc (aW (i:=7) hN rfl (Or.inr rfl) (I_ (J_ 5) (qk jt (qk kh (qv 2) qg) (L_ B.ba (J_ 5))))) (qc (z9 (qz (qv 0) (xu (zd (ay jg (qv 6) (qv 7)))))) (qc (gg [nE] (i:=8) hN rfl (Or.inl rfl) (EK (by rfl)) rfl (vq (qk jm (J_ 4) (J_ 5))) (ke qB (fun _ _ _ _=>Or.inl rfl) (fun _ _ _ _=>rfl)) (fun _ _ _ _=>cY (xi (t8 _ _ _) (qv 9) (zd (v9 (qv 6) (qv 7))) (by with_unfolding_all rfl))) (fun _ _ _ _=>(qv 9))) (qi (z9 (qz (qv 1) (xu (j9 (v9 (zd (x4 jg (ay (qk bB (L_ B.ba (qv 0)) qg) (J_ 4) (J_ 5)))) (qk jm (qv 8) (j9 (xu (qk bB (L_ B.ba (qv 0)) qg))))))))))))))))⟩
abbrev c14(V:V_):Prop:=c13 V/\Q_ V 1 "_law_fold" [ng, "_law_tree_here", nr, nu] (lI)
theorem d14(V:V_)(B:B_ V)(c:c13 V):c14 V:=⟨c,M_ V 0 [ng, "_law_tree_here", nr, nu, "_law_left", "_law_right"] B.hp B.D13 aav fun _ _ _ _ _ _ _ hr hN hu=>(qc (jc (xi qE (L_ B.ba (J_ 1)) qg (vn _)) (qi vC) ze) (qc (S_ 4 hN (cD (J_ 1) (xu (qk jt (qv 3) (L_ B.ba (J_ 1)))))) (qc (S_ 5 hN (cD (J_ 1) (xu (qk jt (qv 2) (L_ B.ba (J_ 1)))))) (qc (z9 (qz (qv 0) (xu (zd (ay jg (qv 4) (qv 5)))))) (qc (afj (qv 1) qg (zd (ay jg (qk bB (L_ B.ba (qv 0)) qg) (J_ 1)))) (qi (z9 (qz (J_ 1) (xu (qk bB (L_ B.ba (qv 0)) qg))))))))))⟩
abbrev c15(V:V_):Prop:=c14 V/\Q_ V 128 "_law_cut" [ng, nH, nr, nu] (ou)
theorem d15(V:V_)(B:B_ V)(c:c14 V):c15 V:=⟨c,M_ V 127 [ng, nH, nr, nu, "_law_first", nE, nt, "_law_second", "_law_q", "_law_at", "_law_end", nK, "_law_same_here", "_law_ends"] B.hp B.D14 adb fun _ _ _ _ _ _ _ hr hN hu=>(qc (S_ 4 hN (cD (qv 1) (xu (qk jt (qv 3) (L_ B.ba (qv 1)))))) (qc (aW (i:=5) hN rfl (Or.inr rfl) (I_ (J_ 4) (qk jt (qk kh (qv 3) qg) (L_ B.ba (J_ 4))))) (qc (S_ 6 hN (C_ c.1.1.1.1.1.2 hr (v9 (qv 0) (qv 5)))) (qc (dw (zd (v9 l6 l6)) (wv rfl (zf (G_ 7 hN) (zf (jM (i:=8) hN rfl (Or.inr rfl)) vg)))) (qc (ww PassesOwn.never rfl (ai rfl B.bh (xu (L_ B.ba (qv 1)))) (G_ 9 hN) (qi (ww PassesOwn.never rfl (vq (I_ (I_ (qv 1) (qv 9)) qg)) (G_ 10 hN) (qi (jc (ku (wc (uF (qv 7)) (vd (E_ hu (C_ c.1.1.1.1.1.2 hr (v9 (qv 0) (qv 10))) (C_ c.1.1.1.1.2 hr (xu (qv 6))))))) (qi (dw (zd (v9 (I_ (qv 1) (qv 9)) (qv 10))) (wv rfl (zf (G_ 7 hN) (zf (jM (i:=8) hN rfl (Or.inr rfl)) vg))))) ze))))) (qc (jc (ku (wc (uF (qv 7)) (vd (xi afl (C_ c.1.1.1.2 hr (xu (qv 6))) qg (vn _))))) (qc (z9 (qz (qv 1) (xu (qv 4)))) (qi vC)) ze) (xo (jc (uF (qv 7)) (qc (dw (C_ c.1.1.2 hr (v9 (qv 0) (qv 6))) (ajf rfl (zf (G_ 11 hN) (zf (jM (i:=8) hN rfl (Or.inr rfl)) (zf (G_ 12 hN) vg))))) (qi (S_ 7 hN (j9 (v9 (qv 11) (j9 (v9 (qv 8) (qv 12)))))))) (qi (z9 (yj hu (qv 1) (xu (qv 7)))))) (qc (gg ["_law_x"] (i:=13) hN rfl (Or.inl rfl) (EK (by rfl)) rfl (vq (qk jm (J_ 4) (J_ 7))) (ke qB (fun _ _ _ _=>Or.inl rfl) (fun _ _ _ _=>rfl)) (fun _ _ _ _=>cY (xi (t8 _ _ _) (qv 14) (zd (v9 (qv 5) (qv 8))) (by with_unfolding_all rfl))) (fun _ _ _ _=>(qv 14))) (qi (jc (E_ hu (qk jt (qv 2) qg) qg) (qi (z9 (qz (qv 1) (xu (j9 (v9 (zd (x4 jg (x4 (qv 5) (ay (qv 8) (J_ 4) (J_ 7))))) (qv 13))))))) (qi (z9 (qz (qv 1) (xu (j9 (v9 (zd (x4 jg (x4 (qv 8) (ay (qv 5) (J_ 7) (J_ 4))))) (qv 13)))))))))))))))))⟩
abbrev c16(V:V_):Prop:=c15 V/\Q_ V 129 "_law_tree" ["_law_cells", nh, nL] (oV)
theorem d16(V:V_)(B:B_ V)(c:c15 V):c16 V:=⟨c,M_ V 128 ["_law_cells", nh, nL, ng, nH, nG, "_law_cell", nr, nu, "_law_deed", "_law_at"] B.hp B.D15 ad1 fun _ _ _ _ _ _ _ hr hN hu=>(qc (S_ 3 hN (j9 ki)) (qc (S_ 4 hN (j9 ki)) (qc (ww PassesOwn.never rfl (eW rfl B.bi (qv 0)) (wv rfl (zf (G_ 5 hN) (zf (G_ 6 hN) vg))) (qc (ab6 (i:=7) (j:=8) rfl hN rfl rfl (by decide) rfl rfl (v9 (C_ c.1.1.1.1.1.1.1.1.2 hr (ay (qv 6) (qv 5) qg)) (C_ c.1.1.1.1.1.1.1.1.2 hr (ay (qv 6) (qv 5) qg))) rfl) (qc (jc (xi afl (qk jm (qk jm (L_ B.ba (qv 3)) (L_ B.ba (qv 4))) qg) (qv 2) (vn _)) (qi qM) ze) (qc (S_ 9 hN (qk jt (qv 7) qg)) (qc (S_ 7 hN (qk kh (qv 7) qg)) (qi (jc (ku (jU (xi qE (qv 9) qg (vn _)) (fW (E_ hu (qv 4) (j9 ki))))) (qc (z9 (qz (qv 3) (xu (zd (v9 jg (C_ c.1.1.1.1.1.1.1.2 hr (v9 (qv 1) (qk jt (qv 8) qg)))))))) (qc (z9 (qz (qv 3) (xu (zd (v9 jg (C_ c.1.1.1.1.1.1.1.2 hr (v9 (qv 1) (qk jt (qv 8) qg)))))))) (xo (jc (E_ hu (qk jt (qv 7) qg) qg) (qi (z9 (qz (qv 3) (xu (cD (qv 3) (xu (qk bB (L_ B.ba (qv 3)) qg))))))) ze) (qc (S_ 10 hN (qk bB (L_ B.ba (qv 3)) qg)) (qi (z9 (qz (qv 4) (xu (j9 (v9 (zd (ay jg (qv 10) (qk jm (qv 10) qg))) (j9 (v9 (qv 10) (qk jm (qv 10) qg))))))))))))) (qi (jc (xi qE (qv 9) qg (vn _)) (qi (z9 (C_ c.1.2 hr (x4 (qv 3) (ay (I_ (qv 4) (qk jt (qv 8) (L_ B.ba (qv 4)))) (qv 7) (qk kh (qv 8) qg)))))) (qi (jc (ku (wc (xi qE (qv 9) qg (vn _)) (vd (xi afl (L_ B.ba (qv 4)) qg (vn _))))) (qi (z9 (C_ c.1.1.2 hr (x4 (qv 3) (ay (qv 4) (qv 7) (qv 8)))))) (qi (z9 (C_ c.2 hr (x4 (qv 3) (ay (qv 4) (qv 7) (qv 8))))))))))))))))) (xo (jc (E_ hu (qv 4) (j9 ki)) (qc (z9 (qz (qv 3) (xu (zd (v9 jg (C_ c.1.1.1.1.1.1.1.2 hr (v9 (qv 1) qg))))))) (qc (z9 (qz (qv 3) (xu (zd (v9 jg (C_ c.1.1.1.1.1.1.1.2 hr (v9 (qv 1) qg))))))) (qi (z9 (qz (qv 4) (xu (j9 (v9 (zd (ay jg qg qg)) (j9 (v9 qg qg)))))))))) ze) (qc (jP PassesOwn.never (xi afl (L_ B.ba (qv 4)) qg (vn _)) (qi (z9 (C_ c.1.1.2 hr (x4 (qv 3) (ay (qv 4) (qk jm (qk kh (qv 1) qg) (L_ B.ba (qv 4))) (qk kh (qv 1) qg))))))) (qi (zm (zd (v9 (qv 3) (I_ (J_ 4) qg))))))))))⟩
abbrev c17(V:V_):Prop:=c16 V/\Q_ V 1 "_law_told" [nK] (oz)
theorem d17(V:V_)(B:B_ V)(c:c16 V):c17 V:=⟨c,M_ V 0 [nK, ny, nv, "_law_todo", "_law_here"] B.hp B.D16 ado fun _ _ _ _ _ _ _ hr hN hu=>(qc (adc (i:=1) (j:=2) (k:=3) rfl hN rfl rfl rfl (by decide) (by decide) (by decide) rfl rfl rfl (ay (j9 ki) (j9 ki) (j9 (xu (qv 0)))) rfl) (qc (jP PassesOwn.never (N_ hu (qv 3) (j9 ki)) (qc (S_ 4 hN (abv (qv 3))) (xo (jc (E_ hu (J_ 4) jg) (qi (z9 (qz (qv 1) (xu (zd (v9 (J_ 4) (J_ 4))))))) ze) (xo (jc (E_ hu (J_ 4) jg) (qi (z9 (qz (qv 2) (xu (zd (v9 (J_ 4) (J_ 4))))))) ze) (qi (z9 (bU (qv 3) (xu (dR ["_law_arm"] (EK (by rfl)) rfl (agy (aQ (akk _ _ _) (qv 4) (a6 qg) cR)) (ke qB (fun _ _ _ _=>Or.inl rfl) (fun _ _ _ _=>rfl)) (fun _ _ _ _=>cY (wq (ko .tuple rfl B.bf rfl B.bq gG (qv 5)))) (fun _ _ _ _=>(qv 5))))))))))) (qi (zm (zd (v9 (x9 fz rfl B.bj bT (xu (qv 1))) (x9 fz rfl B.bj bT (xu (qv 2)))))))))⟩
abbrev c18(V:V_):Prop:=c17 V/\Q_ V 1 nO [ng, ny, nr, nu] (fQ)
theorem d18(V:V_)(B:B_ V)(c:c17 V):c18 V:=⟨c,M_ V 0 [ng, ny, nr, nu, "_law_first", "_law_mates", "_law_second", "_law_a", "_law_b", "_law_c", "_law_d", "_law_rest"] B.hp B.D17 uT fun _ _ _ _ _ _ _ hr hN hu=>(qc (aW (i:=4) hN rfl (Or.inr rfl) (I_ (qv 1) (qk jt (qv 2) (L_ B.ba (qv 1))))) (qc (gg ["_law_x"] (i:=5) hN rfl (Or.inl rfl) (EK (by rfl)) rfl (vq (qv 1)) (ke qB (fun _ _ _ _=>Or.inl rfl) (fun _ _ _ _=>rfl)) (fun _ _ _ _=>cY (ku (wc (N_ hu (qv 12) (qv 4)) (vd (E_ hu (I_ (I_ (qv 0) (J_ 12)) qg) (I_ (I_ (qv 0) (J_ 4)) qg)))))) (fun _ _ _ _=>(qv 12))) (qc (jc (E_ hu (qv 5) (j9 ki)) (qi (zm (qv 1))) ze) (qc (aW (i:=6) hN rfl (Or.inr rfl) (I_ (qv 5) (qk jt (qv 3) (L_ B.ba (qv 5))))) (qc (dw (dk (E_ hu (I_ (I_ (qv 0) (J_ 4)) qg) jg) (qv 4) (zd (v9 (J_ 4) (J_ 4)))) (wv rfl (zf (G_ 7 hN) (zf (G_ 8 hN) vg)))) (qc (dw (dk (E_ hu (I_ (I_ (qv 0) (J_ 6)) qg) jg) (qv 6) (zd (v9 (J_ 6) (J_ 6)))) (wv rfl (zf (G_ 9 hN) (zf (G_ 10 hN) vg)))) (qc (gg ["_law_x"] (i:=11) hN rfl (Or.inl rfl) (EK (by rfl)) rfl (vq (qv 1)) (ke qB (fun _ _ _ _=>Or.inl rfl) (fun _ _ _ _=>rfl)) (fun _ _ _ _=>cY (ku (wc (N_ hu (qv 12) (qv 4)) (vd (N_ hu (qv 12) (qv 6)))))) (fun _ _ _ _=>(qv 12))) (qi (zm (x9 fz rfl B.bj bT (xu (qk jm (qv 11) (j9 (v9 (zd (v9 (x9 uz rfl B.br oR (v9 (qv 7) (qv 10))) (x9 vV rfl B.bp pP (v9 (qv 7) (qv 10))))) (zd (v9 (x9 uz rfl B.br oR (v9 (qv 9) (qv 8))) (x9 vV rfl B.bp pP (v9 (qv 9) (qv 8)))))))))))))))))))⟩
abbrev c19(V:V_):Prop:=c18 V/\Q_ V 1 nQ [ng, nv] (fP)
theorem d19(V:V_)(B:B_ V)(c:c18 V):c19 V:=⟨c,M_ V 0 [ng, nv, "_law_todo", nE, "_law_q", "_law_beneath_here"] B.hp B.D18 uN fun _ _ _ _ _ _ _ hr hN hu=>(qc (S_ 2 hN (j9 ki)) (qc (ww PassesOwn.never rfl (vq (qv 1)) (wv rfl (zf (G_ 3 hN) (zf (G_ 4 hN) vg))) (qi (z9 (bU (qv 2) (xu (j9 (v9 (qv 3) (qv 4)))))))) (qc (S_ 5 hN (j9 ki)) (qc (jP PassesOwn.never (N_ hu (qv 2) (j9 ki)) (qc (S_ 3 hN (abv (qv 2))) (qc (z9 (qz (qv 5) (xu (qv 3)))) (qi (jc (E_ hu (L_ B.ba (I_ (qv 0) (qv 3))) qg) (qi (z9 (bU (qv 2) (xu (j9 (v9 (I_ (I_ (qv 0) (qv 3)) qg) (I_ (I_ (qv 0) (qv 3)) qg))))))) ze))))) (qi (zm (qv 5)))))))⟩
abbrev c20(V:V_):Prop:=c19 V/\Q_ V 2 "_law_recast" [ng, nv, nh, nM] (iP)
theorem d20(V:V_)(B:B_ V)(c:c19 V):c20 V:=⟨c,M_ V 1 [ng, nv, nh, nM, "_law_kept", "_law_parts", nF, "_law_many", "_law_made", nE, "_law_bits"] B.hp B.D19 y9 fun _ _ _ _ _ _ _ hr hN hu=>(qc (S_ 4 hN (C_ c.2 hr (v9 (qv 0) (qv 1)))) (qc (S_ 5 hN (j9 ki)) (qc (ww PassesOwn.never rfl (vq (qv 0)) (G_ 6 hN) (qi (jc (E_ hu (L_ B.ba (qv 6)) qg) (qi (z9 (bU (qv 5) (xu (j9 (v9 (J_ 6) (J_ 6))))))) ze))) (qc (oy "_law_knot'" (aW (i:=7) qB rfl (Or.inl rfl) (L_ B.ba (dR [nF] (EK (by rfl)) rfl (vq (qv 0)) (ke qB (fun _ _ _ _=>Or.inl rfl) (fun _ _ _ _=>rfl)) (fun _ _ _ _=>cY (E_ hu (J_ 11) jg)) (fun _ _ _ _=>(qv 11)))))) (qc (S_ 8 hN (j9 ki)) (qc (ww PassesOwn.never rfl (eW rfl B.bi (qv 0)) (wv rfl (zf (G_ 9 hN) (zf (G_ 6 hN) vg))) (qc (S_ 10 hN (qk jt (C_ c.1.1.1.1.1.1.1.1.1.1.1.1.2 hr (ay (qv 2) (qv 9) qg)) qg)) (qi (jc (ku (jU (E_ hu (L_ B.ba (qv 6)) qg) (fW (xi (agh _ _ _) (qv 9) (qv 4) (by with_unfolding_all rfl))))) (qi (z9 (qz (qv 8) (xu (qv 6))))) (qi (jc (E_ hu (qk jt (qk kh (qv 2) qg) qg) qg) (qi (z9 (qz (qv 8) (xu (dk (ku (wc (E_ hu (qk jt (qv 10) qg) qg) (vd (xi (t8 _ _ _) (qv 9) (qv 5) (by with_unfolding_all rfl))))) l6 (qv 6)))))) (qi (jc (ku (wc (xi qE (qv 10) qg (vn _)) (vd (E_ hu (J_ 6) jg)))) (qc (z9 (qz (qv 8) (xu (zd (ay jg (J_ 6) (J_ 6)))))) (qi (S_ 7 hN (qk bB (qv 7) qg)))) (qi (jc (ku (wc (xi qE (qv 10) qg (vn _)) (vd (xi qE (qv 7) (qv 3) (vn _))))) (qc (z9 (qz (qv 8) (xu (zd (ay jg (J_ 6) (J_ 6)))))) (qi (S_ 7 hN (qk jm (qv 7) qg)))) (qi (z9 (qz (qv 8) (xu (qv 6))))))))))))))) (qi (zm (qv 8)))))))))⟩
abbrev c21(V:V_):Prop:=c20 V/\Q_ V 2 "_law_order" [ng, nh] (lZ V.Pt)
theorem d21(V:V_)(B:B_ V)(c:c20 V):c21 V:=⟨c,T_ V 1 [ng, nh, "_law_keys", nE, nF, "_law_rank"] B.hp B.D20 zR fun _ _ _ _ _ _ _ C hr hN hu=>(qc (aW (i:=2) hN rfl (Or.inr rfl) (j9 ki)) (qc (ww PassesOwn.never rfl (eW rfl B.bi (qv 0)) (wv rfl (zf (G_ 3 hN) (zf (G_ 4 hN) vg))) (qc (S_ 5 hN (qk jt (C_ c.1.1.1.1.1.1.1.1.1.1.1.1.1.2 hr (ay (qv 1) (qv 3) qg)) qg)) (xo (jc (ku (wc (cO (qv 4)) (vd (E_ hu (L_ B.ba (qv 4)) qg)))) (qi (S_ 5 hN (qk jm (qk jm (qv 5) qg) (x9 vV rfl B.bp pP (v9 (I_ (qv 2) (J_ 4)) (I_ (qv 2) (J_ 4))))))) ze) (qi (z9 (qz (qv 2) (xu (qv 5)))))))) (qi (zm (aca rfl B.bj (t7 rfl rfl B.bg rfl B.bh (L_ B.ba (qv 0))) ⟨rfl,rfl,rfl,by decide +kernel,rfl,rfl,by decide,by decide,by decide⟩ C (dp3 hr) rfl rfl rfl ⟨_,rfl,rfl⟩ rfl (fun _ _ _ _ _ _ _=>rfl))))))⟩
abbrev c22(V:V_):Prop:=c21 V/\Q_ V 3 "_law_gapped" [ng, ny, nv, nh, "_law_gaps"] (iL V.Pt)
theorem d22(V:V_)(B:B_ V)(c:c21 V):c22 V:=⟨c,M_ V 2 [ng, ny, nv, nh, "_law_gaps", "_law_at", "_law_wide", nE, nF] B.hp B.D21 xP fun _ _ _ _ _ _ _ hr hN hu=>(qc (aW (i:=5) hN rfl (Or.inr rfl) vJ) (qc (S_ 6 hN (j9 ki)) (qc (ww PassesOwn.never rfl (vq (C_ c.2 hr (v9 (qv 0) (qv 3)))) (G_ 7 hN) (xo (jc (ku (wc (wq (qv 4)) (vd (E_ hu (qk jt (C_ c.1.1.1.1.1.1.1.1.1.1.1.1.1.1.2 hr (ay (qv 3) (qv 7) qg)) qg) qg)))) (qi (z9 (qz (qv 6) (xu l6)))) ze) (qc (wF hu (qv 5) (qv 7) (L_ B.ba (qv 6))) (qc (S_ 8 hN (I_ (qv 0) (qv 7))) (xo (jc (ku (wc (cO (qv 8)) (vd (E_ hu (L_ B.ba (qv 8)) qg)))) (qi (S_ 8 hN (zd (ay (J_ 8) (a7 hu (qv 5) (J_ 8) (fun _ _=>rfl)) (a7 hu (qv 5) (J_ 8) (fun _ _=>rfl)))))) ze) (qi (z9 (qz (qv 6) (xu (qv 8)))))))))) (qc (oy "_law_p'" (aW (i:=1) qB rfl (Or.inl rfl) (x9 fz rfl B.bj bT (xu (dR [nE, "_law_q" ] (EK (by rfl)) rfl (vq (qv 1)) (jH rfl qB (fun _ _ _ _=>rfl) (fun _ _ _ _=>rfl)) (fun _ _ _ _=>iG) (fun _ _ _ _=>(zd (v9 (x9 uz rfl B.br oR (v9 (a7 hu (qv 5) (qv 9) (fun _ _=>rfl)) (a7 hu (qv 5) (qv 10) (fun _ _=>rfl)))) (x9 vV rfl B.bp pP (v9 (a7 hu (qv 5) (qv 9) (fun _ _=>rfl)) (a7 hu (qv 5) (qv 10) (fun _ _=>rfl)))))))))))) (qc (oy "_law_p'" (aW (i:=2) qB rfl (Or.inl rfl) (x9 fz rfl B.bj bT (xu (dR [nE, "_law_q" ] (EK (by rfl)) rfl (vq (qv 2)) (jH rfl qB (fun _ _ _ _=>rfl) (fun _ _ _ _=>rfl)) (fun _ _ _ _=>iG) (fun _ _ _ _=>(zd (v9 (a7 hu (qv 5) (qv 9) (fun _ _=>rfl)) (a7 hu (qv 5) (qv 10) (fun _ _=>rfl)))))))))) (qi (zm (zd (ay (qk jm (qv 6) (dR [nG] (EK (by rfl)) rfl (ai rfl B.bh (xu (cK ak6 rfl B.bv uY (xu (qv 4))))) (ke qB (fun _ _ _ _=>Or.inl rfl) (fun _ _ _ _=>rfl)) (fun _ _ _ _=>iG) (fun _ _ _ _=>l6))) (qv 1) (qv 2))))))))))⟩
abbrev c23(V:V_):Prop:=c22 V/\Q_ V 130 "_law_web" [nq, nh, nL, nM] (ui V.Pt)
theorem d23(V:V_)(B:B_ V)(c:c22 V):c23 V:=⟨c,M_ V 129 [nq, nh, nL, nM, "_law_bits", "_law_gaps", ng, nK, ny, nv, nG] B.hp B.D22 ais fun _ _ _ _ _ _ _ hr hN hu=>(qc (S_ 4 hN (C_ c.1.1.1.1.1.1.1.1.1.1.1.1.1.1.1.2 hr (ay (qv 1) qg qg))) (qc (S_ 5 hN (gA (qI _ _ _ hu) (qk jt (qv 4) qg) qg (vn _))) (xo (jc (wq (qv 5)) (qi (S_ 2 hN (x9 uz rfl B.br oR (v9 (qv 2) qg)))) ze) (qc (dw (C_ c.1.1.1.1.1.1.2 hr (ay (qv 0) (qv 1) (qv 2))) (wv rfl (zf (G_ 6 hN) (zf (G_ 7 hN) vg)))) (qc (dw (C_ c.1.1.1.1.1.2 hr (xu (qv 7))) (wv rfl (zf (G_ 8 hN) (zf (G_ 9 hN) vg)))) (qc (ww PassesOwn.never rfl (ai rfl B.bh (xu (qk jt (qk kh (qv 4) qg) qg))) (G_ 10 hN) (qi (S_ 8 hN (C_ c.1.1.1.1.2 hr (x4 (qv 6) (ay (qv 8) (C_ c.1.1.1.1.1.1.1.1.1.1.1.1.1.1.1.2 hr (ay (qv 1) (qk jm qg (qv 10)) qg)) (C_ c.1.1.1.1.1.1.1.1.1.1.1.1.1.1.1.2 hr (ay (qv 1) (qk jm qg (qv 10)) qg)))))))) (xo (jc (E_ hu (qk jt (qk kh (qv 4) qg) qg) qg) (qi (S_ 6 hN (C_ c.1.1.2 hr (x4 (qv 6) (ay (qv 9) (qv 1) (qv 3)))))) ze) (qi (zm (C_ c.2 hr (x4 (qv 6) (x4 (qv 8) (ay (qv 9) (qv 1) (qv 5))))))))))))))⟩
abbrev c24(V:V_):Prop:=c23 V/\Q_ V 1 "_law_copy" [ni] (oo)
theorem d24(V:V_)(B:B_ V)(c:c23 V):c24 V:=⟨c,M_ V 0 [ni] B.hp B.D23 afc fun _ _ _ _ _ _ _ hr hN hu=>(qi (zm (zd (ay (cK dW rfl B.bg a9 (xu (J_ 0))) (cK dW rfl B.bg a9 (xu (J_ 0))) (cK dW rfl B.bg a9 (xu (J_ 0)))))))⟩
abbrev c25(V:V_):Prop:=c24 V/\Q_ V 1 "_law_count" [ni, "_law_kind"] (lT)
theorem d25(V:V_)(B:B_ V)(c:c24 V):c25 V:=⟨c,M_ V 0 [ni, "_law_kind"] B.hp B.D24 abm fun _ _ _ _ _ _ _ hr hN hu=>(qi (zm (L_ B.ba (dR [nF] (EK (by rfl)) rfl (vq (J_ 0)) (ke qB (fun _ _ _ _=>Or.inl rfl) (fun _ _ _ _=>rfl)) (fun _ _ _ _=>cY (ku (wc (cO (qv 2)) (vd (E_ hu (J_ 2) (qv 1)))))) (fun _ _ _ _=>(qv 2))))))⟩
abbrev c26(V:V_):Prop:=c25 V/\Q_ V 2 nR [nq, "_law_count_here", nI] (uc)
theorem d26(V:V_)(B:B_ V)(c:c25 V):c26 V:=⟨c,M_ V 1 [nq, "_law_count_here", nI] B.hp B.D25 ai3 fun _ _ _ _ _ _ _ hr hN hu=>(qi (zm (dR [nG] (EK (by rfl)) rfl (ai rfl B.bh (xu (qv 1))) (ke qB (fun _ _ _ _=>Or.inl rfl) (fun _ _ _ _=>rfl)) (fun _ _ _ _=>iG) (fun _ _ _ _=>(qk jt (qk kh (C_ c.1.1.1.1.1.1.1.1.1.1.1.1.1.1.1.1.1.1.2 hr (ay (C_ c.1.1.1.1.1.1.1.1.1.1.1.1.1.1.1.1.1.1.1.1.2 hr (v9 (qv 0) (qv 3))) (qk jm (qv 3) (qv 2)) qg)) (qk jm (qv 2) qg)) qg)))))⟩
abbrev c27(V:V_):Prop:=c26 V/\Q_ V 1 "_law_edges" [ni, nj] (iF)
theorem d27(V:V_)(B:B_ V)(c:c26 V):c27 V:=⟨c,M_ V 0 [ni, nj, ng, ny, nv, "_law_edges_here", nI, "_law_r", nF] B.hp B.D26 xB fun _ _ _ _ _ _ _ hr hN hu=>(qc (dw (qv 0) (wv rfl (zf (G_ 2 hN) (zf (G_ 3 hN) (zf (G_ 4 hN) vg))))) (qc (S_ 5 hN (qk jm (qv 3) (qv 4))) (qc (S_ 6 hN qg) (qc (ww PassesOwn.never rfl (eW rfl B.bi (qv 2)) (wv rfl (zf (G_ 7 hN) (zf (G_ 8 hN) vg))) (xo (jc (ku (wc (cO (qv 8)) (vd (E_ hu (J_ 8) jg)))) (qi (z9 (bU (qv 5) (xu (j9 (v9 (zd (v9 (qv 7) (J_ 8))) (zd (v9 (qv 7) (J_ 8))))))))) ze) (qi (jc (ku (wc (cO (qv 8)) (vd (E_ hu (J_ 8) jg)))) (qc (z9 (qz (qv 5) (xu (zd (v9 (qv 7) (I_ (qv 8) (qk jm qg (I_ (qv 1) (qv 6))))))))) (qi (S_ 6 hN (qk jm (qv 6) qg)))) ze)))) (qi (zm (qv 5)))))))⟩
abbrev c28(V:V_):Prop:=c27 V/\Q_ V 1 nJ [nj, nr, nu] (kF)
theorem d28(V:V_)(B:B_ V)(c:c27 V):c28 V:=⟨c,M_ V 0 [nj, nr, nu, "_law_at"] B.hp B.D27 aa7 fun _ _ _ _ _ _ _ hr hN hu=>(qc (jc (ku (jU (E_ hu (qv 0) (j9 ki)) (fW (E_ hu (qk jt (qv 1) qg) qg)))) (qi (zm (qk jm (qv 0) (j9 (xu (qk jt (qv 2) qg)))))) ze) (qc (S_ 3 hN (qk jt (qv 2) (L_ B.ba (qv 0)))) (qc (jc (E_ hu (qk jt (qv 1) qg) qg) (qi (zm (qk jm (aQ (jV _ _ _) (qv 0) cR (a6 (qv 3))) (aQ (jV _ _ _) (qv 0) (a6 (qk jm (qv 3) qg)) cR)))) ze) (qi (zm (qk jm (qk jm (aQ (jV _ _ _) (qv 0) cR (a6 (qv 3))) (j9 (xu (ad9 (x4 qg (ay (ag7 agg qg) (qk jm qg (qv 2)) (qk bB (ag7 agg qg) (qv 2)))) (qk jt (qk kh (qv 1) qg) qg) (alu (alu (ahz _) (aks _)) (aks _)) (fun _ _=>rfl))))) (aQ (jV _ _ _) (qv 0) (a6 (qk jm (qv 3) qg)) cR)))))))⟩
abbrev c29(V:V_):Prop:=c28 V/\Q_ V 4 nS [ni, nj] (ox)
theorem d29(V:V_)(B:B_ V)(c:c28 V):c29 V:=⟨c,M_ V 3 [ni, nj, "_law_good", "e", "_law_others"] B.hp B.D28 (acz B.xf) fun _ _ _ _ _ _ _ hr hN hu=>(qc (S_ 2 hN fi) (qc (ahe (i:=3) rfl rfl rfl hN rfl rfl rfl B.md (adp (c.1.1.1.1.1.1.1.1.1.1.1.1.1.1.1.1.1.1.1.1.1.1.1.1.2.mono (by decide)) hr rfl rfl (fun _ _=>(v9 (qv 0) (qv 1)))) (fun _=>(qc (S_ 4 hN (wY rfl B.bf (qv 3) (wy (bK rfl B.mj) (wy (bK rfl B.mh) (wy (bK rfl B.mf) (wy (bK rfl B.mac) (wy (bK rfl B.mz) (wy (bK rfl B.mm) (wy (bK rfl B.mab) (wy (bK rfl B.maa) (wy (bK rfl B.mw) ack))))))))) rfl (BB rfl))) (qi (S_ 2 hN (hU (sN rfl B.bf (qv 3) (bK rfl B.me) rfl) (hU (sN rfl B.bf (qv 3) (vW rfl B.b_ValueError ln) rfl) (pQ (aid (qv 4)))))))))) (qi (zm (qv 2)))))⟩
theorem dL(V:V_)(B:B_ V)(c:c29 V){f:Addr}{fd:FuncData}(F:Fun V.K "law" "law" qQ f fd):Fn3 V.P V.w V.K V.mg V.base 131 f fd [nq] (oU V.Pt lamQ):=
 W_ V 130 [nq, nh, ni, nI, nj, "_law_bad", "_law_handed", "_law_told_here"] F zH fun _ _ _ _ _ _ hr hN hu=>(qc (S_ 1 hN (qk jt (C_ c.1.1.1.1.1.1.1.1.1.1.1.1.1.1.1.1.1.1.1.1.1.1.1.1.2 hr (v9 (qv 0) qg)) (qk akz qg qg))) (qc (S_ 2 hN (C_ c.1.1.1.1.1.1.2 hr (x4 (qv 0) (ay (qv 1) qg qg)))) (qc (ww PassesOwn.never rfl (ai rfl B.bh (xu qg)) (G_ 3 hN) (qc (S_ 4 hN (C_ c.1.1.1.2 hr (ay (qv 0) (C_ c.1.1.1.1.2 hr (v9 (qv 2) jg)) (qv 3)))) (qc (S_ 5 hN (C_ c.1.2 hr (ay (qv 4) (C_ c.1.1.1.1.1.1.1.1.1.1.1.1.1.1.1.1.1.1.1.1.1.1.2 hr (ay (qv 1) (qk jm qg (qv 3)) qg)) (C_ c.1.1.1.1.1.1.1.1.1.1.1.1.1.1.1.1.1.1.1.1.1.1.2 hr (ay (qv 1) (qk jm qg (qv 3)) qg))))) (qc (S_ 6 hN (zd (v9 (C_ c.1.1.1.1.1.2 hr (xu (qv 2))) (cK dW rfl B.bg a9 (xu (qv 4)))))) (qc (S_ 7 hN (ab5 (c.1.1.1.1.1.1.1.1.1.1.1.1.1.1.1.1.1.1.1.1.1.1.1.1.1.2.mono (by decide)) hr rfl aa8 rfl (v9 (J_ 6) (J_ 6)))) (qc (jc (gx (wq (C_ c.1.1.1.1.1.1.1.1.1.1.1.1.1.1.1.1.1.1.1.1.1.1.1.2 hr (v9 (qv 7) (C_ c.1.1.2 hr (v9 (qv 2) (qv 4))))))) (qi (zm fi)) ze) (qc (z9 (qz (qv 7) (xu (zd (v9 qg qg))))) (qc (jc (ku (jU (gx (wq (C_ c.2 hr (v9 (J_ 6) (cK dW rfl B.bg a9 (xu (qv 5))))))) (fW (gx (wq (C_ c.1.1.1.1.1.1.1.1.1.1.1.1.1.1.1.1.1.1.1.1.1.1.1.2 hr (v9 (qv 6) (zd (v9 (qv 2) (qv 4)))))))))) (qi (zm fi)) ze) (qi (jc (gx (wq (C_ c.1.1.1.1.1.1.1.1.1.1.1.1.1.1.1.1.1.1.1.1.1.1.1.2 hr (v9 (ab5 (c.1.1.1.1.1.1.1.1.1.1.1.1.1.1.1.1.1.1.1.1.1.1.1.1.1.2.mono (by decide)) hr rfl aa8 rfl (v9 (J_ 6) (J_ 6))) (C_ c.1.1.2 hr (v9 (qv 2) (qv 4))))))) (qi (zm fi)) ze)))))))))) (qi (zm fi)))))
theorem all_mk{l:PySem.W.OpenLaw}{w:World}{K:Af}{h:Heap}{mg:Str->Option Value}{fa:Addr}{Ca:Addr}{Cj:Addr}{Ce:Addr}{Cd:Addr}{Cg:Addr}{Ch:Addr}{Cb:Addr}{Ci:Addr}{Ck:Addr}{Cc:Addr}{Cf:Addr}{Pt:Addr}(X:K.In h)(G:h.Ns mainGlobals mg)(hfa:mg "law" = some (.ref fa))
 (D0:zj K "places_there" da)
 (D1:zj K "eithers_of" ft)
 (D2:zj K "kept_parts" fw)
 (D3:zj K "edges_by" lF)
 (D4:zj K nN eL)
 (D5:zj K "_law_same" ij)
 (D6:zj K "_law_mix" kW)
 (D7:zj K "_law_name" ie)
 (D8:zj K "_law_word" i9)
 (D9:zj K "_law_flip" i5)
 (D10:zj K "_law_weight" fH)
 (D11:zj K "_law_mirror" fE)
 (D12:zj K "_law_join" iY)
 (D13:zj K "_law_fold" i3)
 (D14:zj K "_law_cut" kR)
 (D15:zj K "_law_tree" iS)
 (D16:zj K "_law_told" iW)
 (D17:zj K nO eE)
 (D18:zj K nQ eM)
 (D19:zj K "_law_recast" fF)
 (D20:DefInT K "_law_order" s__law_order Pt)
 (D21:zj K "_law_gapped" fG)
 (D22:zj K "_law_web" kM)
 (D23:zj K "_law_copy" iX)
 (D24:zj K "_law_count" gH)
 (D25:zj K nR dq)
 (D26:zj K "_law_edges" fg)
 (D27:zj K nJ au)
 (D28:zj K nS eJ)
 (D29:zj K "law" qQ)
 (aCBadChoices:PySem.W.nsIn K mainGlobals "BadChoices" = some (some (.ref Ca)))
 (aCNoWord:PySem.W.nsIn K mainGlobals "NoWord" = some (some (.ref Cj)))
 (aCBadText:PySem.W.nsIn K mainGlobals "BadText" = some (some (.ref Ce)))
 (aCBadWeb:PySem.W.nsIn K mainGlobals "BadWeb" = some (some (.ref Cd)))
 (aCBadTree:PySem.W.nsIn K mainGlobals "BadTree" = some (some (.ref Cg)))
 (aCNoTree:PySem.W.nsIn K mainGlobals "NoTree" = some (some (.ref Ch)))
 (aCNoCut:PySem.W.nsIn K mainGlobals "NoCut" = some (some (.ref Cb)))
 (aCNoExchange:PySem.W.nsIn K mainGlobals "NoExchange" = some (some (.ref Ci)))
 (aCOtherWeb:PySem.W.nsIn K mainGlobals "OtherWeb" = some (some (.ref Ck)))
 (aCTooMany:PySem.W.nsIn K mainGlobals "TooMany" = some (some (.ref Cc)))
 (aCOnceError:PySem.W.nsIn K mainGlobals "OnceError" = some (some (.ref Cf)))
 (qCBadChoices:PySem.W.excIn K Ca [.type "ValueError",.type "Exception",.type "BaseException",.type "object"] "ValueError.__new__" = true)
 (xf:L3.XF32 K Ca Cj Ce Cd Cg Ch Cb Ci Ck Cc Cf)
 (zenumerate:PySem.W.nsIn K mainGlobals "enumerate" = some none)
 (zall:PySem.W.nsIn K mainGlobals "all" = some none)
 (zlen:PySem.W.nsIn K mainGlobals "len" = some none)
 (zzip:PySem.W.nsIn K mainGlobals "zip" = some none)
 (zisinstance:PySem.W.nsIn K mainGlobals "isinstance" = some none)
 (zbool:PySem.W.nsIn K mainGlobals "bool" = some none)
 (zlist:PySem.W.nsIn K mainGlobals "list" = some none)
 (ztuple:PySem.W.nsIn K mainGlobals "tuple" = some none)
 (zint:PySem.W.nsIn K mainGlobals "int" = some none)
 (zstr:PySem.W.nsIn K mainGlobals "str" = some none)
 (zrange:PySem.W.nsIn K mainGlobals "range" = some none)
 (zsorted:PySem.W.nsIn K mainGlobals "sorted" = some none)
 (zmax:PySem.W.nsIn K mainGlobals "max" = some none)
 (zmin:PySem.W.nsIn K mainGlobals "min" = some none)
 (zValueError:PySem.W.nsIn K mainGlobals "ValueError" = some none):
 ∃fd:FuncData,(∀(s:Shared) (v:Value),BindsTo s fd ⟨[v],[]⟩ [(nq,v)])/\∀base:Heap,K.In base->base.Ns mainGlobals mg->am l.prog w K mg base CX0 131 fa fd [nq] (spTopT lamQ K Pt):=by
 obtain⟨fL,kV,doc,pm,an,cdv,ct,aL,FL⟩:=D29.ex;have e:=hfa.symm.trans (Bp X G aL);cases e;refine⟨PySem.W.fnOf "law" "law" (xq qQ) (jk qQ) (qo qQ) .none kV doc pm an cdv ct,fun s v=>.of_eq rfl,fun base _ _=>?_⟩;have B:B_ ⟨l.prog,w,K,mg,base,Pt,Ca,Cj,Ce,Cd,Cg,Ch,Cb,Ci,Ck,Cc,Cf⟩:=⟨⟨h,X,G⟩,A8 X G zenumerate,A8 X G zall,A8 X G zlen,A8 X G zzip,A8 X G zisinstance,A8 X G zbool,A8 X G zlist,A8 X G ztuple,A8 X G zint,A8 X G zstr,A8 X G zrange,A8 X G zsorted,A8 X G zmax,A8 X G zmin,A8 X G zValueError,D0,D1,D2,D3,D4,D5,D6,D7,D8,D9,D10,D11,D12,D13,D14,D15,D16,D17,D18,D19,D20,D21,D22,D23,D24,D25,D26,D27,D28,Bp X G aCBadChoices,Bp X G aCNoWord,Bp X G aCBadText,Bp X G aCBadWeb,Bp X G aCBadTree,Bp X G aCNoTree,Bp X G aCNoCut,Bp X G aCNoExchange,Bp X G aCOtherWeb,Bp X G aCTooMany,Bp X G aCOnceError,uU qCBadChoices,xf⟩;exact am.imp (dL _ B (d29 _ B (d28 _ B (d27 _ B (d26 _ B (d25 _ B (d24 _ B (d23 _ B (d22 _ B (d21 _ B (d20 _ B (d19 _ B (d18 _ B (d17 _ B (d16 _ B (d15 _ B (d14 _ B (d13 _ B (d12 _ B (d11 _ B (d10 _ B (d9 _ B (d8 _ B (d7 _ B (d6 _ B (d5 _ B (d4 _ B (d3 _ B (d2 _ B (d1 _ B trivial))))))))))))))))))))))))))))) FL) fun vs H Q E q=>ad8 q
theorem def_inT{K:Af}{x:Str}{st:Stmt}{f Pt:Addr}{oc:Value}{od an:Option Addr}{osl:Array (Option Value)}{kV doc pm cdv ct:Value}(a:PySem.W.nsIn K mainGlobals x=some (some (.ref f)))
 (l:K.lookup f=some ⟨oc,od,.func (PySem.W.fnOf x x (xq st) (jk st) (qo st) .none kV doc pm an cdv ct),osl⟩) (c:PySem.W.codeIn K cdv x=true) (k:PySem.W.keepIn K (.ref f)=true) (C:xF K cdv Pt):DefInT K x st Pt:=
 ⟨f,kV,doc,pm,an,cdv,ct,a,⟨⟨oc,od,kV,doc,pm,an,cdv,ct,osl,rfl,l,c,C⟩,k⟩⟩
end K32
namespace H32
noncomputable section
open PySem PySem.W PySem.W.X L2 L3 PyProof.Rows
abbrev rr:=PySem.Challenge.rw_oncewise_k32_edges
abbrev p:Program:=PySem.Challenge.pw_oncewise_k32_edges
abbrev top:=K32.top
abbrev ale(i k:Nat):Stmt:=(acq (top i)).getD k (.Pass ⟨0,0,0,0⟩)
abbrev s(x:String):Str:=Str.ofString x
noncomputable abbrev S (x:String) (t:Tok):Value:=.str (Str.ofString x) t
noncomputable abbrev I (i:Int) (t:Tok):Value:=.int i t
noncomputable abbrev R (a:Addr):Value:=.ref a
abbrev E(P:Params)(k:String)(t:Tok)(v:Value):DictEntry:=⟨PyData.keyHash P (Str.ofString k),.str (Str.ofString k) t,v⟩
noncomputable abbrev O (c:Value) (d:Data):Obj:=⟨c,none,d,#[]⟩
abbrev FN(n q:String)(st:Stmt)(dV kV doc pm:Value)(an:Option Addr)(cd ct:Value):FuncData:=fnOf (Str.ofString n) (Str.ofString q) (xq st) (jk st) (qo st) dV kV doc pm an cd ct
abbrev FG(n q:String)(st:Stmt):FuncData:={ fnOf (Str.ofString n) (Str.ofString q) (xq st) (jk st) (qo st) .none .none .none .none none .none .none with globals:=0 }
abbrev tu(l:Array Value):Obj:=O (.type "tuple") (.seq l 0)
abbrev fo(f:FuncData):Obj:=O (.type "function") (.func f)
abbrev go(f:FuncData):Obj:=O .none (.func f)
abbrev co(n q:String)(t l a b c fl v:Nat)(o:Bool)(m k:Nat)(x y z u:Value)(d:Nat):Obj:=O (.type "code") (.fields #[S n t,S q (t+1),S "/claim/cut.py" (t+2),I l 0,I a 0,I b 0,I c 0,I fl 0,R v,.bool o,I m 0,R k,x,y,z,u,I d 0,I l 0,S "/claim/cut.py" (d+1)])
abbrev iR:Value:=S "law_oncewise_k32_edges" 411
abbrev m1_:Value:=S "oncewise.webs" 377
abbrev m2_:Value:=S "oncewise.switching" 391
abbrev fX(n:String)(i:Nat)(m:Value)(r:Nat):Obj:=fo (FN n n (top i) .none .none .none m none (R r) .none)
abbrev gX(n:String)(i:Nat):Obj:=go (FG n n (top i))
abbrev cF(n:String)(t l a v d:Nat):Obj:=co n n t l a 0 0 3 v true 181 (v+1) .none (R (v+2)) (R (v+3)) (R (v+4)) d
abbrev cC(n:String)(t l v d:Nat):Obj:=co n n t l 0 0 0 0 v false 181 (v+1) .none .none .none .none d
abbrev cS(n:String)(a ns k t v:Nat):Obj:=⟨.type "type",none,.cls (ClassData.mk (s n) [R 24] [R a,R 24,.type "ValueError",.type "Exception",.type "BaseException",.type "object"] ns (s n) true [] [] false none false),#[some (R k),none,some (S n t),some (S n v),some (.builtin "ValueError.__new__"),some (.bool true)]⟩
abbrev dA(P:Params)(a b:Nat)(l:Int)(c d r e:Nat):Obj:=O (.type "dict") (.dict #[E P "__module__" a (S "oncewise.errors" 187),E P "__firstlineno__" b (I l c),E P "__static_attributes__" d (R r),E P "__doc__" e .none] 2)
abbrev dB(P:Params)(a q:Nat)(n:String)(q2 b:Nat)(l:Int)(c d r:Nat):Obj:=O (.type "dict") (.dict #[E P "__module__" a (S "oncewise.errors" 187),E P "__qualname__" q (S n q2),E P "__firstlineno__" b (I l c),E P "__static_attributes__" d (R r)] 4)
abbrev fR(a b:Nat):Obj:=⟨.type "frame",none,.plain,#[some (R a),some (R 3),some (R b),none,some (S "oncewise.errors" 187),none,some (R 0)]⟩
abbrev bI(a:Nat):Obj:=O (.type "builtin_function_or_method") (.fields #[.builtin "object.__init_subclass__",R a])
abbrev sU(a:Nat):Obj:=O (.type "super") (.fields #[R a,R a,R a])
abbrev Ob:=Params->Obj
def ev{α:Type}:Bool->List α->List α
 |_,[]=>[]
 |true,x::r=>x::ev false r
 |false,_::r=>ev true r
def bt:Nat->List Obj->BT
 |0,_=>.nil
 |_,[]=>.nil
 |n+1,x::r=>.node x (bt n (ev true r)) (bt n (ev false r))
def env0:Env:={ scope:=p.main.scope,locals:=mainNs,globals:=mainNs,cells:=[],code:=.ref 13,frame:=some 14 }
abbrev cE:Code:=.body (behindTheImports p) env0
abbrev q0:Pos:=⟨0,0,0,0⟩
abbrev an:Option Value:=some (.ref 6)
abbrev Pc(n:Nat)(S S':World->OsState->SharedT)(l:List Stmt)(q q':Pos)(w:World):Prop:=(fun os=>segRunT treeTable p w 11 an 1 n (S w os) (piecesOf l env0 cE q [topFrame q0]))=fun os=>some (Flow.next,S' w os,cE,q')
abbrev b0:=PySem.W.boot_o_0
abbrev b1:=PySem.W.boot_o_1
abbrev b2:=PySem.W.boot_o_2
abbrev b3:=PySem.W.boot_o_3
abbrev b4:=PySem.W.boot_o_4
abbrev b5:=PySem.W.boot_o_5
abbrev b6:=PySem.W.boot_o_6
abbrev b7:=PySem.W.boot_o_7
abbrev b8:=PySem.W.boot_o_8
abbrev b9:=PySem.W.boot_o_9
abbrev b10:=PySem.W.boot_o_10
def xb:Ob:=fun _=>tu #[]
def aK:Ob:=fun _=>O .none (.fields #[])
def xac:Ob:=fun _=>cC "<module>" 182 1 11 185
def xad:Ob:=fun _=>⟨(.type "frame"),none,.plain,#[(some (R 13)),(some (R 3)),(some (R 3)),none,(some (S "__main__" 164)),none,(some (R 0))]⟩
def xaf:Ob:=fun _=>tu #[(.type "ValueError")]
def xag:Ob:=fun P=>O (.type "dict") (.dict #[(E P "__module__" 196 (S "oncewise.errors" 187)),(E P "__firstlineno__" 200 (I 2 199)),(E P "__static_attributes__" 201 (R 22)),(E P "__weakref__" 203 (R 25)),(E P "__doc__" 204 .none)] 3)
def xah:Ob:=fun _=>bI 24
def xai:Ob:=fun P=>dB P 196 198 "OnceError" 197 200 2 199 201 22
def xaj:Ob:=fun _=>O (.type "getset_descriptor") (.fields #[S "__weakref__" 202,R 24,(.builtin "ExceptionGroup.__weakref__"),.none])
def xak:Ob:=fun _=>fR 20 17
def mD:Ob:=fun _=>O (.type "builtin_function_or_method") (.fields #[(.builtin "type.__prepare__"),(.type "type")])
def xao:Ob:=fun _=>cC "OnceError" 191 2 18 194
def xap:Ob:=fun _=>sU 24
def xar:Ob:=fun _=>bI 37
def xas:Ob:=fun _=>cC "NoWord" 209 4 31 212
def xat:Ob:=fun _=>cS "NoWord" 37 36 28 207 215
def xaw:Ob:=fun P=>dA P 214 218 4 217 219 35 220
def o6:Ob:=fun _=>tu #[R 24]
def xay:Ob:=fun _=>fR 33 30
def xaz:Ob:=fun _=>sU 37
def xa0:Ob:=fun P=>dB P 214 216 "NoWord" 215 218 4 217 219 35
def xa2:Ob:=fun _=>bI 49
def xa3:Ob:=fun _=>cS "BadText" 49 48 40 223 231
def xa4:Ob:=fun _=>cC "BadText" 225 6 43 228
def xa5:Ob:=fun P=>dA P 230 234 6 233 235 47 236
def xa8:Ob:=fun _=>sU 49
def xa9:Ob:=fun P=>dB P 230 232 "BadText" 231 234 6 233 235 47
def xba:Ob:=fun _=>fR 45 42
def xbc:Ob:=fun _=>bI 61
def xbd:Ob:=fun _=>cC "BadWeb" 241 8 55 244
def xbe:Ob:=fun _=>cS "BadWeb" 61 60 52 239 247
def xbh:Ob:=fun P=>dA P 246 250 8 249 251 59 252
def xbi:Ob:=fun _=>fR 57 54
def xbj:Ob:=fun P=>dB P 246 248 "BadWeb" 247 250 8 249 251 59
def xbk:Ob:=fun _=>sU 61
def xbm:Ob:=fun _=>bI 73
def xbn:Ob:=fun _=>cS "BadTree" 73 72 64 255 263
def xbo:Ob:=fun _=>cC "BadTree" 257 10 67 260
def xbq:Ob:=fun P=>dA P 262 266 10 265 267 71 268
def xbs:Ob:=fun P=>dB P 262 264 "BadTree" 263 266 10 265 267 71
def xbt:Ob:=fun _=>sU 73
def xbu:Ob:=fun _=>fR 69 66
def xbw:Ob:=fun _=>bI 85
def xbx:Ob:=fun _=>cC "BadChoices" 273 12 79 276
def xby:Ob:=fun _=>cS "BadChoices" 85 84 76 271 279
def xb1:Ob:=fun P=>dA P 278 282 12 281 283 83 284
def xb2:Ob:=fun _=>fR 81 78
def xb3:Ob:=fun _=>sU 85
def xb4:Ob:=fun P=>dB P 278 280 "BadChoices" 279 282 12 281 283 83
def xb6:Ob:=fun P=>O (.type "dict") (.dict #[(E P "__module__" 294 (S "oncewise.errors" 187)),(E P "__firstlineno__" 298 (I 14 297)),(E P "__init__" 307 (R 101)),(E P "__static_attributes__" 309 (R 102)),(E P "__doc__" 310 .none)] 2)
def xb7:Ob:=fun _=>go (FG "__init__" "NoTree.__init__" (ale 7 0))
def xb8:Ob:=fun _=>tu #[S "self" 302,S "words" 303,S "choices" 304]
def xb9:Ob:=fun _=>sU 104
def xca:Ob:=fun _=>fo (FN "__init__" "NoTree.__init__" (ale 7 0) .none .none .none (S "oncewise.errors" 187) none (R 100) .none)
def xcb:Ob:=fun _=>cC "NoTree" 289 14 91 292
def xcd:Ob:=fun _=>cS "NoTree" 104 103 88 287 295
def xcf:Ob:=fun _=>co "__init__" "NoTree.__init__" 299 16 3 0 0 3 95 true 181 96 .none (R 97) (R 98) (R 99) 305
def xcg:Ob:=fun _=>O .none (.fields #[I 16 0,I 4 0,R 100])
def xch:Ob:=fun _=>bI 104
def xci:Ob:=fun P=>O (.type "dict") (.dict #[(E P "__module__" 294 (S "oncewise.errors" 187)),(E P "__qualname__" 296 (S "NoTree" 295)),(E P "__firstlineno__" 298 (I 14 297)),(E P "__init__" 307 (R 101)),(E P "__static_attributes__" 309 (R 102))] 5)
def xcj:Ob:=fun _=>tu #[S "choices" 308]
def xck:Ob:=fun _=>fR 93 90
def xcm:Ob:=fun P=>dA P 320 324 19 323 325 114 326
def xcn:Ob:=fun _=>fR 112 109
def xco:Ob:=fun _=>sU 116
def xcp:Ob:=fun P=>dB P 320 322 "NoCut" 321 324 19 323 325 114
def xcq:Ob:=fun _=>cC "NoCut" 315 19 110 318
def xct:Ob:=fun _=>cS "NoCut" 116 115 107 313 321
def xcu:Ob:=fun _=>bI 116
def xcw:Ob:=fun P=>dA P 336 340 21 339 341 126 342
def xcx:Ob:=fun _=>sU 128
def xcy:Ob:=fun P=>dB P 336 338 "NoExchange" 337 340 21 339 341 126
def xcz:Ob:=fun _=>fR 124 121
def xc0:Ob:=fun _=>cS "NoExchange" 128 127 119 329 337
def xc3:Ob:=fun _=>cC "NoExchange" 331 21 122 334
def xc4:Ob:=fun _=>bI 128
def xc6:Ob:=fun P=>dA P 352 356 23 355 357 138 358
def xc7:Ob:=fun _=>fR 136 133
def xc8:Ob:=fun P=>dB P 352 354 "OtherWeb" 353 356 23 355 357 138
def xc9:Ob:=fun _=>sU 140
def xdb:Ob:=fun _=>cC "OtherWeb" 347 23 134 350
def xdd:Ob:=fun _=>cS "OtherWeb" 140 139 131 345 353
def xde:Ob:=fun _=>bI 140
def xdg:Ob:=fun _=>fX "places_there" 13 m1_ 158
def xdh:Ob:=fun _=>cF "edges_by" 399 41 2 170 408
def xdj:Ob:=fun P=>dA P 368 372 25 371 373 150 374
def xdk:Ob:=fun _=>fX "_law_cell_at" 19 iR 182
def xdl:Ob:=fun _=>co "eithers_of" "eithers_of" 385 30 1 0 0 3 160 true 181 161 .none .none .none (R 162) 388
def xdo:Ob:=fun _=>fX "kept_parts" 16 m2_ 168
def xdt:Ob:=fun _=>fX "edges_by" 17 m2_ 175
def xdu:Ob:=fun _=>⟨(.type "type"),none,(.cls (ClassData.mk (s "OnceError") [(.type "ValueError")] [R 24,(.type "ValueError"),(.type "Exception"),(.type "BaseException"),(.type "object")] 23 (s "OnceError") true [] [R 37,R 49,R 61,R 73,R 85,R 104,R 116,R 128,R 140,R 152] false none false)),#[(some (R 15)),none,(some (S "OnceError" 189)),(some (S "OnceError" 197)),(some (.builtin "ValueError.__new__")),(some (.bool true))]⟩
def xdv:Ob:=fun _=>co "kept_parts" "kept_parts" 393 33 2 0 0 3 165 true 181 166 .none .none .none (R 167) 396
def xdw:Ob:=fun _=>cS "TooMany" 152 151 143 361 369
def xdy:Ob:=fun _=>fX "eithers_of" 14 m1_ 163
def xd3:Ob:=fun _=>cF "_law_cell_at" 413 53 2 177 418
def xd5:Ob:=fun _=>co "places_there" "places_there" 379 28 1 0 0 3 155 true 181 156 .none .none .none (R 157) 382
def xd7:Ob:=fun _=>fX "_law_weight" 25 iR 222
def xd9:Ob:=fun _=>co "_law_crossed" "_law_crossed" 531 189 4 0 0 3 260 true 181 261 .none .none .none (R 262) 534
def xea:Ob:=fun _=>cF "_law_flip" 455 90 1 210 460
def xeb:Ob:=fun _=>fX "_law_cut" 29 iR 246
def xec:Ob:=fun _=>fX "_law_told" 31 iR 258
def xee:Ob:=fun _=>fX "_law_join" 27 iR 234
def xei:Ob:=fun _=>fX "_law_word" 23 iR 208
def xej:Ob:=fun _=>cF "_law_fold" 490 120 4 236 499
def xek:Ob:=fun _=>co "_law_name" "_law_name" 440 76 2 0 0 3 198 true 181 199 .none .none .none (R 200) 443
def xem:Ob:=fun _=>fX "_law_mix" 21 iR 196
def xen:Ob:=fun _=>cF "_law_mirror" 470 99 2 224 481
def xer:Ob:=fun _=>cF "_law_same" 421 57 2 184 428
def xes:Ob:=fun _=>cF "_law_tree" 508 150 3 248 522
def xet:Ob:=fun _=>cF "_law_word" 446 85 2 203 452
def xev:Ob:=fun _=>fX "_law_crossed" 32 iR 263
def xex:Ob:=fun _=>fX "_law_flip" 24 iR 215
def xez:Ob:=fun _=>cF "_law_mix" 431 74 3 191 437
def xe4:Ob:=fun _=>co "_law_told" "_law_told" 525 179 1 0 0 3 255 true 181 256 .none .none .none (R 257) 528
def xe6:Ob:=fun _=>fX "_law_fold" 28 iR 241
def xe7:Ob:=fun _=>fX "_law_name" 22 iR 201
def xe8:Ob:=fun _=>co "_law_join" "_law_join" 484 112 4 0 0 3 231 true 181 232 .none .none .none (R 233) 487
def xfc:Ob:=fun _=>fX "_law_mirror" 26 iR 229
def xfe:Ob:=fun _=>co "_law_cut" "_law_cut" 502 128 4 0 0 3 243 true 181 244 .none .none .none (R 245) 505
def xfg:Ob:=fun _=>cF "_law_weight" 463 95 1 217 467
def xfh:Ob:=fun _=>fX "_law_same" 20 iR 189
def xfi:Ob:=fun _=>fX "_law_tree" 30 iR 253
def xfj:Ob:=fun P=>O (.type "dict") (.dict #[(E P "__name__" 165 (S "law_oncewise_k32_edges" 411)),(E P "__doc__" 166 .none),(E P "__package__" 167 .none),(E P "__loader__" 168 (.builtin "__main__.__loader__#opaque")),(E P "__spec__" 169 .none),(E P "__annotations__" 170 (R 6)),(E P "__builtins__" 171 (R 4)),(E P "__file__" 173 (S "/claim/cut.py" 172)),(E P "__cached__" 174 .none),(E P "OnceError" 206 (R 24)),(E P "NoWord" 222 (R 37)),(E P "BadText" 238 (R 49)),(E P "BadWeb" 254 (R 61)),(E P "BadTree" 270 (R 73)),(E P "BadChoices" 286 (R 85)),(E P "NoTree" 312 (R 104)),(E P "NoCut" 328 (R 116)),(E P "NoExchange" 344 (R 128)),(E P "OtherWeb" 360 (R 140)),(E P "TooMany" 376 (R 152)),(E P "places_there" 384 (R 159)),(E P "eithers_of" 390 (R 164)),(E P "kept_parts" 398 (R 169)),(E P "edges_by" 410 (R 176)),(E P "_law_cell_at" 420 (R 183)),(E P "_law_same" 430 (R 190)),(E P "_law_mix" 439 (R 197)),(E P "_law_name" 445 (R 202)),(E P "_law_word" 454 (R 209)),(E P "_law_flip" 462 (R 216)),(E P "_law_weight" 469 (R 223)),(E P "_law_mirror" 483 (R 230)),(E P "_law_join" 489 (R 235)),(E P "_law_fold" 501 (R 242)),(E P "_law_cut" 507 (R 247)),(E P "_law_tree" 524 (R 254)),(E P "_law_told" 530 (R 259)),(E P "_law_crossed" 536 (R 264)),(E P "_law_beneath" 548 (R 271)),(E P "_law_recast" 554 (R 276)),(E P "_law_order" 566 (R 283)),(E P "_law_gapped" 572 (R 288)),(E P "_law_web" 589 (R 295)),(E P "_law_copy" 596 (R 302)),(E P "_law_count" 602 (R 307)),(E P "_law_choices" 608 (R 312)),(E P "_law_edges" 623 (R 319)),(E P "_law_bad_choices" 633 (R 326)),(E P "_law_refused" 644 (R 333)),(E P "law" 658 (R 340))] 50)
def xfk:Ob:=fun _=>fX "_law_edges" 41 iR 318
def xfl:Ob:=fun _=>co "_law_gapped" "_law_gapped" 567 241 5 0 0 3 284 true 181 285 .none .none .none (R 286) 570
def xfm:Ob:=fun _=>fX "_law_beneath" 33 iR 270
def xfn:Ob:=fun _=>fX "_law_web" 37 iR 294
def xfp:Ob:=fun _=>co "_law_choices" "_law_choices" 603 271 3 0 0 3 308 true 181 309 .none .none .none (R 310) 606
def xfr:Ob:=fun _=>co "_law_recast" "_law_recast" 549 210 4 0 0 3 272 true 181 273 .none .none .none (R 274) 552
def xfs:Ob:=fun _=>cF "law" 645 299 1 334 656
def xft:Ob:=fun _=>fX "_law_count" 39 iR 306
def xfw:Ob:=fun _=>fX "_law_order" 35 iR 282
def xf1:Ob:=fun _=>cF "_law_bad_choices" 624 284 3 320 631
def xf4:Ob:=fun _=>fX "_law_refused" 43 iR 332
def xf5:Ob:=fun _=>cF "_law_copy" 590 267 1 296 594
def xf7:Ob:=fun _=>fX "_law_gapped" 36 iR 287
def xga:Ob:=fun _=>fX "_law_choices" 40 iR 311
def xgd:Ob:=fun _=>fX "_law_recast" 34 iR 275
def xge:Ob:=fun _=>fX "law" 44 iR 339
def xgf:Ob:=fun _=>cF "_law_refused" 634 291 2 327 642
def xgk:Ob:=fun _=>co "_law_count" "_law_count" 597 269 2 0 0 3 303 true 181 304 .none .none .none (R 305) 600
def xgm:Ob:=fun _=>cF "_law_order" 555 233 2 277 564
def xgn:Ob:=fun _=>fX "_law_bad_choices" 42 iR 325
def xgo:Ob:=fun _=>cF "_law_web" 573 255 4 289 587
def xgq:Ob:=fun _=>cF "_law_beneath" 537 199 2 265 546
def xgr:Ob:=fun _=>fX "_law_copy" 38 iR 301
def xgt:Ob:=fun _=>cF "_law_edges" 609 273 2 313 621
def anl:List Ob:=[b0,b1,b2,b3,b4,b5,b6,b7,b8,b9,b10,xb,aK,xac,xad]
def amx:List Ob:=[b0,b1,b2,xfj,b4,b5,b6,b7,b8,b9,b10,xb,fun _=>O .none (.fields #[I 2 0,I 0 0,R 20,I 4 0,I 0 0,R 33,I 6 0,I 0 0,R 45,I 8 0,I 0 0,R 57,I 10 0,I 0 0,R 69,I 12 0,I 0 0,R 81,I 14 0,I 0 0,R 93,I 19 0,I 0 0,R 112,I 21 0,I 0 0,R 124,I 23 0,I 0 0,R 136,I 25 0,I 0 0,R 148,I 28 0,I 0 0,R 158,I 30 0,I 0 0,R 163,I 33 0,I 0 0,R 168,I 41 0,I 0 0,R 175,I 53 0,I 0 0,R 182,I 57 0,I 0 0,R 189,I 74 0,I 0 0,R 196,I 76 0,I 0 0,R 201,I 85 0,I 0 0,R 208,I 90 0,I 0 0,R 215,I 95 0,I 0 0,R 222,I 99 0,I 0 0,R 229,I 112 0,I 0 0,R 234,I 120 0,I 0 0,R 241,I 128 0,I 0 0,R 246,I 150 0,I 0 0,R 253,I 179 0,I 0 0,R 258,I 189 0,I 0 0,R 263,I 199 0,I 0 0,R 270,I 210 0,I 0 0,R 275,I 233 0,I 0 0,R 282,I 241 0,I 0 0,R 287,I 255 0,I 0 0,R 294,I 267 0,I 0 0,R 301,I 269 0,I 0 0,R 306,I 271 0,I 0 0,R 311,I 273 0,I 0 0,R 318,I 284 0,I 0 0,R 325,I 291 0,I 0 0,R 332,I 299 0,I 0 0,R 339]),xac,xad,xaf,mD,xai,xb,aK,xao,xak,xb,xag,xdu,xaj,xap,xah,o6,mD,xa0,xb,aK,xas,xay,xb,xaw,xat,xaz,xar,o6,mD,xa9,xb,aK,xa4,xba,xb,xa5,xa3,xa8,xa2,o6,mD,xbj,xb,aK,xbd,xbi,xb,xbh,xbe,xbk,xbc,o6,mD,xbs,xb,aK,xbo,xbu,xb,xbq,xbn,xbt,xbm,o6,mD,xb4,xb,aK,xbx,xb2,xb,xb1,xby,xb3,xbw,o6,mD,xci,xb,xcg,xcb,xck,xb,aK,xb8,xb,xb7,xcf,xca,xcj,xb6,xcd,xb9,xch,o6,mD,xcp,xb,aK,xcq,xcn,xb,xcm,xct,xco,xcu,o6,mD,xcy,xb,aK,xc3,xcz,xb,xcw,xc0,xcx,xc4,o6,mD,xc8,xb,aK,xdb,xc7,xb,xc6,xdd,xc9,xde,o6,mD,fun P=>dB P 368 370 "TooMany" 369 372 25 371 373 150,xb,aK,fun _=>cC "TooMany" 363 25 146 366,fun _=>fR 148 145,xb,xdj,xdw,fun _=>sU 152,fun _=>bI 152,xb,aK,fun _=>gX "places_there" 13,xd5,xdg,xb,aK,fun _=>gX "eithers_of" 14,xdl,xdy,xb,aK,fun _=>gX "kept_parts" 16,xdv,xdo,xb,aK,fun _=>tu #[S "web" 402,S "choices" 403,S "kept" 404,S "edges" 405,S "place" 406,S "knot" 407],xb,fun _=>gX "edges_by" 17,xdh,xdt,xb,aK,fun _=>tu #[S "_law_script" 416,S "_law_k" 417],xb,fun _=>gX "_law_cell_at" 19,xd3,xdk,xb,aK,fun _=>tu #[S "_law_found" 424,S "_law_due" 425,S "_law_one" 426,S "_law_other" 427],xb,fun _=>gX "_law_same" 20,xer,xfh,xb,aK,fun _=>tu #[S "_law_cell" 434,S "_law_k" 435,S "_law_factor" 436],xb,fun _=>gX "_law_mix" 21,xez,xem,xb,aK,fun _=>gX "_law_name" 22,xek,xe7,xb,aK,fun _=>tu #[S "_law_knots" 449,S "_law_p" 450,S "_law_knot" 451],xb,fun _=>gX "_law_word" 23,xet,xei,xb,aK,fun _=>tu #[S "_law_word_here" 458,S "_law_sides" 459],xb,fun _=>gX "_law_flip" 24,xea,xex,xb,aK,fun _=>tu #[S "_law_word_here" 466],xb,fun _=>gX "_law_weight" 25,xfg,xd7,xb,aK,fun _=>tu #[S "_law_knots" 473,S "_law_word_here" 474,S "_law_left" 475,S "_law_right" 476,S "_law_turn" 477,S "_law_same_here" 478,S "_law_low" 479,S "_law_high" 480],xb,fun _=>gX "_law_mirror" 26,xen,xfc,xb,aK,fun _=>gX "_law_join" 27,xe8,xee,xb,aK,fun _=>tu #[S "_law_knots" 493,S "_law_tree_here" 494,S "_law_one" 495,S "_law_two" 496,S "_law_left" 497,S "_law_right" 498],xb,fun _=>gX "_law_fold" 28,xej,xe6,xb,aK,fun _=>gX "_law_cut" 29,xfe,xeb,xb,aK,fun _=>tu #[S "_law_cells" 511,S "_law_seed" 512,S "_law_room" 513,S "_law_knots" 514,S "_law_forest" 515,S "_law_k" 516,S "_law_cell" 517,S "_law_one" 518,S "_law_two" 519,S "_law_deed" 520,S "_law_at" 521],xb,fun _=>gX "_law_tree" 30,xes,xfi,xb,aK,fun _=>gX "_law_told" 31,xe4,xec,xb,aK,fun _=>gX "_law_crossed" 32,xd9,xev,xb,aK,fun _=>tu #[S "_law_knots" 540,S "_law_cuts" 541,S "_law_todo" 542,S "_law_p" 543,S "_law_q" 544,S "_law_beneath_here" 545],xb,fun _=>gX "_law_beneath" 33,xgq,xfm,xb,aK,fun _=>gX "_law_recast" 34,xfr,xgd,xb,aK,fun _=>tu #[S "_law_knots" 558,S "_law_seed" 559,S "_law_p" 560,S "_law_knot" 561,S "_law_rank" 562],fun _=>tu #[S "_law_keys" 563],fun _=>gX "_law_order" 35,xgm,xfw,xb,aK,fun _=>gX "_law_gapped" 36,xfl,xf7,xb,aK,fun _=>tu #[S "_law_script" 576,S "_law_seed" 577,S "_law_room" 578,S "_law_most" 579,S "_law_bits" 580,S "_law_gaps" 581,S "_law_knots" 582,S "_law_rule" 583,S "_law_links" 584,S "_law_cuts" 585,S "_law_k" 586],xb,fun _=>gX "_law_web" 37,xgo,xfn,xb,aK,fun _=>tu #[S "_law_web_here" 593],xb,fun _=>gX "_law_copy" 38,xf5,xgr,xb,aK,fun _=>gX "_law_count" 39,xgk,xft,xb,aK,fun _=>gX "_law_choices" 40,xfp,xga,xb,aK,fun _=>tu #[S "_law_web_here" 612,S "_law_choices_here" 613,S "_law_knots" 614,S "_law_links" 615,S "_law_cuts" 616,S "_law_edges_here" 617,S "_law_turn" 618,S "_law_r" 619,S "_law_knot" 620],xb,fun _=>gX "_law_edges" 41,xgt,xfk,xb,aK,fun _=>tu #[S "_law_choices_here" 627,S "_law_one" 628,S "_law_two" 629,S "_law_at" 630],xb,fun _=>gX "_law_bad_choices" 42,xf1,xgn,xb,aK,fun _=>tu #[S "_law_web_here" 637,S "_law_choices_here" 638,S "_law_good" 639,S "e" 640,S "_law_others" 641],xb,fun _=>gX "_law_refused" 43,xgf,xf4,xb,aK,fun _=>tu #[S "_law_script" 648,S "_law_seed" 649,S "_law_web_here" 650,S "_law_turn" 651,S "_law_choices_here" 652,S "_law_bad" 653,S "_law_handed" 654,S "_law_told_here" 655],xb,fun _=>gX "law" 44,xfs,xge]
def ao7:List Ob:=[b0,b1,b2,b3,b4,b5,b6,b7,b8,b9,b10,xb,aK,xac,xad]
def alv:List Ob:=[b0,b1,b2,fun P=>O (.type "dict") (.dict #[(E P "__name__" 165 (S "oncewise.errors" 187)),(E P "__doc__" 166 .none),(E P "__package__" 167 .none),(E P "__loader__" 168 (.builtin "__main__.__loader__#opaque")),(E P "__spec__" 169 .none),(E P "__annotations__" 170 (R 6)),(E P "__builtins__" 171 (R 4)),(E P "__file__" 173 (S "/claim/cut.py" 172)),(E P "__cached__" 174 .none),(E P "OnceError" 206 (R 24)),(E P "NoWord" 222 (R 37)),(E P "BadText" 238 (R 49)),(E P "BadWeb" 254 (R 61)),(E P "BadTree" 270 (R 73)),(E P "BadChoices" 286 (R 85)),(E P "NoTree" 312 (R 104)),(E P "NoCut" 328 (R 116)),(E P "NoExchange" 344 (R 128)),(E P "OtherWeb" 360 (R 140))] 19),b4,b5,b6,b7,b8,b9,b10,xb,fun _=>O .none (.fields #[I 2 0,I 0 0,R 20,I 4 0,I 0 0,R 33,I 6 0,I 0 0,R 45,I 8 0,I 0 0,R 57,I 10 0,I 0 0,R 69,I 12 0,I 0 0,R 81,I 14 0,I 0 0,R 93,I 19 0,I 0 0,R 112,I 21 0,I 0 0,R 124,I 23 0,I 0 0,R 136]),xac,xad,xaf,mD,xai,xb,aK,xao,xak,xb,xag,fun _=>⟨(.type "type"),none,(.cls (ClassData.mk (s "OnceError") [(.type "ValueError")] [R 24,(.type "ValueError"),(.type "Exception"),(.type "BaseException"),(.type "object")] 23 (s "OnceError") true [] [R 37,R 49,R 61,R 73,R 85,R 104,R 116,R 128,R 140] false none false)),#[(some (R 15)),none,(some (S "OnceError" 189)),(some (S "OnceError" 197)),(some (.builtin "ValueError.__new__")),(some (.bool true))]⟩,xaj,xap,xah,o6,mD,xa0,xb,aK,xas,xay,xb,xaw,xat,xaz,xar,o6,mD,xa9,xb,aK,xa4,xba,xb,xa5,xa3,xa8,xa2,o6,mD,xbj,xb,aK,xbd,xbi,xb,xbh,xbe,xbk,xbc,o6,mD,xbs,xb,aK,xbo,xbu,xb,xbq,xbn,xbt,xbm,o6,mD,xb4,xb,aK,xbx,xb2,xb,xb1,xby,xb3,xbw,o6,mD,xci,xb,xcg,xcb,xck,xb,aK,xb8,xb,xb7,xcf,xca,xcj,xb6,xcd,xb9,xch,o6,mD,xcp,xb,aK,xcq,xcn,xb,xcm,xct,xco,xcu,o6,mD,xcy,xb,aK,xc3,xcz,xb,xcw,xc0,xcx,xc4,o6,mD,xc8,xb,aK,xdb,xc7,xb,xc6,xdd,xc9,xde]
def al3:List Ob:=amx
def hpA(P:Params):Heap:=⟨⟨anl.map (· P)⟩,{}⟩
def hpZ(P:Params):Heap:=⟨⟨amx.map (· P)⟩,{}⟩
def tr0(P:Params):BT:=bt 20 (ao7.map (· P))
def apo(P:Params):BT:=bt 20 (alv.map (· P))
def aqc(P:Params):BT:=bt 20 (al3.map (· P))
def sA(w:World)(os:OsState):Shared:=⟨hpA w.params,#[],{},187,os⟩
def sZ(w:World)(os:OsState):Shared:=⟨hpZ w.params,#[],{},659,os⟩
def gi(w:World)(os:OsState):SharedT:=⟨tr0 w.params,15,{},#[],{},187,os⟩
def am0(w:World)(os:OsState):SharedT:=⟨apo w.params,143,{},#[],{},361,os⟩
def alx(w:World)(os:OsState):SharedT:=⟨aqc w.params,341,{},#[],{},659,os⟩
def agq:List Stmt:=((behindTheImports p).drop 0).take 11
def act:List Stmt:=((behindTheImports p).drop 11).take 34
theorem ao0(w:World):(fun os=>topGo treeTable p w 11 an 12 ⟨boot_heap w.params,#[],boot_drawn,boot_toks,os⟩ (topStub p))=fun os=>some (sA w os,⟨denote treeTable cE,cE,⟨0,0,0,0⟩,[topFrame q0]⟩):=by kernel_rfl
theorem aos(w:World):(fun os=>segRun treeTable p w 11 an 1 1 (sA w os) (blockOf (behindTheImports p) env0 cE ⟨0,0,0,0⟩ [topFrame q0]))=fun os=>some (.next,(gi w os).abs,cE,⟨0,0,0,0⟩):=by kernel_rfl
theorem pc1:∀w,Pc 2155 gi am0 agq ⟨0,0,0,0⟩ ⟨23,0,24,8⟩ w:=fun w=>by kernel_rfl
theorem pc2:∀w,Pc 1155 am0 alx act ⟨23,0,24,8⟩ ⟨299,0,314,15⟩ w:=fun w=>by kernel_rfl
theorem apf(w:World):(fun os=>topRun treeTable p w 11 an 2 (alx w os).abs ⟨doneF .next,cE,⟨299,0,314,15⟩,[topFrame q0]⟩)=fun os=>some (sZ w os):=by kernel_rfl
theorem ali:agq++(act++([]))=behindTheImports p:=by kernel_rfl
theorem ap3(w:World)(os:OsState):topRun treeTable p w 11 an (12+(1+(2155+(1155+(2))))) ⟨boot_heap w.params,#[],boot_drawn,boot_toks,os⟩ (topStub p)=some (sZ w os):=by have h:=(piece_app (l:=agq) (rest:=act++([])) (segRun_of (DR (pc1 w) os)) (piece_app (l:=act) (rest:=[]) (segRun_of (DR (pc2 w) os)) (piece_nil (env:=env0) (DR (apf w) os))));rw[ali] at h;exact go_top (DR (ao0 w) os) (piece_block (DR (aos w) os) h)
def as0:List Nat:=[0,1,2,3,4,5,6,7,8,9,10,13,23,24,25,36,37,48,49,60,61,72,73,84,85,100,101,103,104,115,116,127,128,139,140,151,152,158,159,163,164,168,169,175,176,182,183,189,190,196,197,201,202,208,209,215,216,222,223,229,230,234,235,241,242,246,247,253,254,258,259,263,264,270,271,275,276,278,282,283,287,288,294,295,301,302,306,307,311,312,318,319,325,326,332,333,339,340]
def vw:Program:={ p with main:={ p.main with body:=[top 1,top 2,top 3,top 4,top 5,top 6,top 7,top 8,top 9,top 10,top 11,top 13,top 14,top 16,top 17,top 19,top 20,top 21,top 22,top 23,top 24,top 25,top 26,top 27,top 28,top 29,top 30,top 31,top 32,top 33,top 34,top 35,top 36,top 37,top 38,top 39,top 40,top 41,top 42,top 43,top 44] } }
def K0:Params->Frag:=fun P=>(nat_lit 0,b0 P)::(nat_lit 1,b1 P)::(nat_lit 2,b2 P)::(nat_lit 3,xfj P)::(nat_lit 4,b4 P)::(nat_lit 5,b5 P)::(nat_lit 6,b6 P)::(nat_lit 7,b7 P)::(nat_lit 8,b8 P)::(nat_lit 9,b9 P)::(nat_lit 10,b10 P)::(nat_lit 13,xac P)::(nat_lit 23,xag P)::(nat_lit 24,xdu P)::(nat_lit 25,xaj P)::(nat_lit 36,xaw P)::(nat_lit 37,xat P)::(nat_lit 48,xa5 P)::(nat_lit 49,xa3 P)::(nat_lit 60,xbh P)::(nat_lit 61,xbe P)::(nat_lit 72,xbq P)::(nat_lit 73,xbn P)::(nat_lit 84,xb1 P)::(nat_lit 85,xby P)::(nat_lit 100,xcf P)::(nat_lit 101,xca P)::(nat_lit 103,xb6 P)::(nat_lit 104,xcd P)::(nat_lit 115,xcm P)::(nat_lit 116,xct P)::(nat_lit 127,xcw P)::(nat_lit 128,xc0 P)::(nat_lit 139,xc6 P)::(nat_lit 140,xdd P)::(nat_lit 151,xdj P)::(nat_lit 152,xdw P)::(nat_lit 158,xd5 P)::(nat_lit 159,xdg P)::(nat_lit 163,xdl P)::(nat_lit 164,xdy P)::(nat_lit 168,xdv P)::(nat_lit 169,xdo P)::(nat_lit 175,xdh P)::(nat_lit 176,xdt P)::(nat_lit 182,xd3 P)::(nat_lit 183,xdk P)::(nat_lit 189,xer P)::(nat_lit 190,xfh P)::(nat_lit 196,xez P)::(nat_lit 197,xem P)::(nat_lit 201,xek P)::(nat_lit 202,xe7 P)::(nat_lit 208,xet P)::(nat_lit 209,xei P)::(nat_lit 215,xea P)::(nat_lit 216,xex P)::(nat_lit 222,xfg P)::(nat_lit 223,xd7 P)::(nat_lit 229,xen P)::(nat_lit 230,xfc P)::(nat_lit 234,xe8 P)::(nat_lit 235,xee P)::(nat_lit 241,xej P)::(nat_lit 242,xe6 P)::(nat_lit 246,xfe P)::(nat_lit 247,xeb P)::(nat_lit 253,xes P)::(nat_lit 254,xfi P)::(nat_lit 258,xe4 P)::(nat_lit 259,xec P)::(nat_lit 263,xd9 P)::(nat_lit 264,xev P)::(nat_lit 270,xgq P)::(nat_lit 271,xfm P)::(nat_lit 275,xfr P)::(nat_lit 276,xgd P)::(nat_lit 278,aK P)::(nat_lit 282,xgm P)::(nat_lit 283,xfw P)::(nat_lit 287,xfl P)::(nat_lit 288,xf7 P)::(nat_lit 294,xgo P)::(nat_lit 295,xfn P)::(nat_lit 301,xf5 P)::(nat_lit 302,xgr P)::(nat_lit 306,xgk P)::(nat_lit 307,xft P)::(nat_lit 311,xfp P)::(nat_lit 312,xga P)::(nat_lit 318,xgt P)::(nat_lit 319,xfk P)::(nat_lit 325,xf1 P)::(nat_lit 326,xgn P)::(nat_lit 332,xgf P)::(nat_lit 333,xf4 P)::(nat_lit 339,xfs P)::(nat_lit 340,xge P)::[]
abbrev lamC:Nat:=282
abbrev lamT:Nat:=278
abbrev lamO:Ob:=xgm
abbrev ls:List Str:=[]
abbrev Xt:Shared->Bool:=fun s=>xlAt vw [] s&&recOk (RowW.records rr.row.toRowW) s
theorem amr(w:World):((boot_heap w.params).isNs mainGlobals&&(#[]:Array GenState).size==0,(boot_heap w.params).objs.size,(boot_heap w.params).nsMap mainGlobals "__annotations__")=(true,11,an):=by kernel_rfl
theorem aql:opening p=plainProg p.main.scope.names:=by kernel_rfl
theorem anm(s:Shared):fenceModules? p s=some s:=by kernel_rfl
theorem lk1(w:World):(fun os=>(staticsOk (importedModules p.main.body) (boot_heap w.params) (hpZ w.params)&&namesBound p (hpZ w.params)&&gensDone (sZ w os)&&laidKept (boot_heap w.params) (hpZ w.params)))=fun _=>true:=by kernel_rfl
theorem vI(w:World):(fun os=>openSeen vw ls (importedModules p.main.body) Xt true (sZ w os))=fun _=>openGood vw ls:=by kernel_rfl
theorem lk3(w:World):(fun os=>obsZ as0 (sZ w os))=fun _=>valZ K0 341 659 w:=by kernel_rfl
theorem left_:LeftO p vw ls Xt (obsZ as0) (valZ K0 341 659) 6720:=LeftO.of_pieces (boot_open aql rfl anm) amr ap3 rfl fun w=>funext fun os=>looks_pair (DR (lk1 w) os) (looks_pair (DR (vI w) os) (DR (lk3 w) os))
end
end H32
open PySem PySem.W PyProof.Rows
set_option maxRecDepth 100000 in
set_option maxHeartbeats 0 in
theorem PySem.Challenge.cw_oncewise_k32_edges_holds : PySem.Challenge.rw_oncewise_k32_edges.Holds := by
 w_on;refine holds_law (by unfold OpenLaw.wellSaid OpenRow.wellSaid OpenRow.partSaid looksOpen;walk_at "y";walk_at "y";walk_at "y";walk_at "y";walk_at "y";walk_at "y";all_goals decide +kernel) fun said=>?_
 refine holds_openX (q:=H32.vw) (loose:=H32.ls) (Xt:=H32.Xt) (XP:=XL H32.vw []) (Yf:=PySem.W.X.obsZ H32.as0) (Ya:=PySem.W.X.valZ H32.K0 341 659) (N:=6720) H32.left_ (fun s e=>xl_of s (Bool.and_eq_true_iff.mp e).1)
  XL.keeps (by rfl) (by rfl) (by rfl) (fun s e=>recFacts_of (Bool.and_eq_true_iff.mp e).2)
  (by rfl) (by decide +kernel) (by decide +kernel) ⟨rfl,rfl,rfl,rfl,rfl,by decide +kernel⟩ ?hw ?hc
 case hw=>w_witness2
 k_fill
 refine L2.walk_ofZT (l:=PySem.Challenge.rw_oncewise_k32_edges) (n:=63) (k:=131) (x:="_law_script") (CX:=L2.CX0) (sp:=L3.spTopT L3.lamQ) rfl (by decide) rfl ⟨rfl,by decide,by decide⟩ (fun _=>rfl) (by decide) ?F ?S ?C
 case F=>
  intro w mg fa h KX G hmg;have T:(H32.K0 w.params).lookup H32.lamT=some (PySem.W.tabObj #[]):=by k_is
  have hc:(H32.K0 w.params).lookup H32.lamC=some (H32.lamO w.params):=by k_is
  have hd:∀h:Heap,h.get? H32.lamC=some (H32.lamO w.params)->PySem.W.CodeHd h H32.lamC H32.lamT:=fun h e=>⟨_,_,_,_,_,_,_,_,_,e,rfl,rfl,rfl,rfl,rfl,rfl,rfl,rfl,by decide⟩;have hb:(H32.K0 w.params).lookup 4=some (PySem.W.boot_o_4 w.params):=by k_is
  have DT:L3.DefInT (L2.lessK H32.lamT (H32.K0 w.params)) "_law_order" K32.s__law_order H32.lamT:=by
   refine' K32.def_inT (L2.ns_dn T ?a) (L2.lk_dn T ?l ?n) (L2.code_dn T ?c) (L2.keep_dn T ?k) ?LC
   (case a=>k_is);(case l=>k_is);(case n=>(intro e;cases e));(case c=>k_is);(case k=>k_is)
   refine'⟨⟨H32.lamC,_,rfl,L2.lk_dn T hc ?m,hd⟩,⟨4,_,L2.ns_dn T ?b,by decide,by decide,L2.lk_dn T hb ?p,rfl,rfl,rfl⟩⟩
   (case m=>(intro e;cases e));(case b=>k_is);(case p=>(intro e;cases e))
  refine⟨H32.lamT,⟨T,⟨H32.lamC,fun h X=>hd h (X _ _ hc)⟩,by decide⟩,?_⟩;refine' K32.all_mk (K:=L2.lessK H32.lamT (H32.K0 w.params)) (L2.lessK_in KX) G hmg ?D0 ?D1 ?D2 ?D3 ?D4 ?D5 ?D6 ?D7 ?D8 ?D9 ?D10 ?D11 ?D12 ?D13 ?D14 ?D15 ?D16 ?D17 ?D18 ?D19 ?D20 ?D21 ?D22 ?D23 ?D24 ?D25 ?D26 ?D27 ?D28 ?D29 ?aCBadChoices ?aCNoWord ?aCBadText ?aCBadWeb ?aCBadTree ?aCNoTree ?aCNoCut ?aCNoExchange ?aCOtherWeb ?aCTooMany ?aCOnceError ?qCBadChoices ?xf ?zenumerate ?zall ?zlen ?zzip ?zisinstance ?zbool ?zlist ?ztuple ?zint ?zstr ?zrange ?zsorted ?zmax ?zmin ?zValueError
  (case aCBadChoices=>(refine' L2.ns_dn T ?_;k_is))
  (case aCNoWord=>(refine' L2.ns_dn T ?_;k_is))
  (case aCBadText=>(refine' L2.ns_dn T ?_;k_is))
  (case aCBadWeb=>(refine' L2.ns_dn T ?_;k_is))
  (case aCBadTree=>(refine' L2.ns_dn T ?_;k_is))
  (case aCNoTree=>(refine' L2.ns_dn T ?_;k_is))
  (case aCNoCut=>(refine' L2.ns_dn T ?_;k_is))
  (case aCNoExchange=>(refine' L2.ns_dn T ?_;k_is))
  (case aCOtherWeb=>(refine' L2.ns_dn T ?_;k_is))
  (case aCTooMany=>(refine' L2.ns_dn T ?_;k_is))
  (case aCOnceError=>(refine' L2.ns_dn T ?_;k_is))
  (case D0 | D1 | D2 | D3 | D4 | D5 | D6 | D7 | D8 | D9 | D10 | D11 | D12 | D13 | D14 | D15 | D16 | D17 | D18 | D19 | D21 | D22 | D23 | D24 | D25 | D26 | D27 | D28 | D29=>refine' L2.def_in (L2.ns_dn T ?a) (L2.lk_dn T ?l ?n) (L2.code_dn T ?c) (L2.keep_dn T ?k);(case a=>k_is);(case l=>k_is);(case n=>(intro e;cases e));(case c=>k_is);(case k=>k_is))
  (case D20=>exact DT)
  (case qCBadChoices=>(refine' L2.exc_dn T ?_;k_exc))
  (case xf=>(refine' L3.XF32.dn T ?_;(refine' L3.XF32.mk ?hd ?em ?ot ?on ?ve;(case hd=>(refine' L3.xhd_of ?ga ?gt ?cl ?ge ?tk ?mo ?be ?h;(case ga=>k_is);(case gt=>k_is);(case cl=>k_is);(case ge=>k_is);(case tk=>k_is);(case mo=>k_is);(case be=>k_is);(case h=>k_is)));(case em=>(refine' L3.exm_own ?h0 ?h1 ?h2 ?h3;(case h0=>k_is);(case h1=>k_is);(case h2=>k_is);(case h3=>k_is)));(case ot=>(refine' L3.kitAny_no ?z ?_;(case z=>(refine' L3.kit_own ?a ?b ?c ?d;(case a=>rfl);(case b=>k_is);(case c=>k_is);(case d=>k_is)));refine' L3.kitAny_no ?z ?_;(case z=>(refine' L3.kit_own ?a ?b ?c ?d;(case a=>rfl);(case b=>k_is);(case c=>k_is);(case d=>k_is)));refine' L3.kitAny_no ?z ?_;(case z=>(refine' L3.kit_own ?a ?b ?c ?d;(case a=>rfl);(case b=>k_is);(case c=>k_is);(case d=>k_is)));refine' L3.kitAny_no ?z ?_;(case z=>(refine' L3.kit_own ?a ?b ?c ?d;(case a=>rfl);(case b=>k_is);(case c=>k_is);(case d=>k_is)));refine' L3.kitAny_no ?z ?_;(case z=>(refine' L3.kit_own ?a ?b ?c ?d;(case a=>rfl);(case b=>k_is);(case c=>k_is);(case d=>k_is)));refine' L3.kitAny_no ?z ?_;(case z=>(refine' L3.kit_own ?a ?b ?c ?d;(case a=>rfl);(case b=>k_is);(case c=>k_is);(case d=>k_is)));refine' L3.kitAny_no ?z ?_;(case z=>(refine' L3.kit_own ?a ?b ?c ?d;(case a=>rfl);(case b=>k_is);(case c=>k_is);(case d=>k_is)));refine' L3.kitAny_no ?z ?_;(case z=>(refine' L3.kit_own ?a ?b ?c ?d;(case a=>rfl);(case b=>k_is);(case c=>k_is);(case d=>k_is)));refine' L3.kitAny_no ?z ?_;(case z=>(refine' L3.kit_own ?a ?b ?c ?d;(case a=>rfl);(case b=>k_is);(case c=>k_is);(case d=>k_is)));exact rfl));(case on=>(refine' L3.kit_own ?a ?b ?c ?d;(case a=>rfl);(case b=>k_is);(case c=>k_is);(case d=>k_is)));(case ve=>(refine' L3.kit_blt ?a ?b;(case a=>rfl);(case b=>k_is))))))
  (case zenumerate | zall | zlen | zzip | zisinstance | zbool | zlist | ztuple | zint | zstr | zrange | zsorted | zmax | zmin | zValueError=>(refine' L2.ns_dn T ?_;k_is))
 case S=>exact L3.top_startT
 case C=>exact fun _ _ _ _ z=>z
#print axioms PySem.Challenge.cw_oncewise_k32_edges_holds
