import PyProof.Rows.All
import Wide.All
import OpenK.AllK
import Wide.FinOn
import Lean
import PyProof.EqAt
import PyProof.EqKinds
import PyProof.TupleCall
import PyProof.NeKinds
import PySem.Challenge.RW_oncewise_k64_ways_walked
import OpenK.ZGo
set_option genSizeOf false
set_option bootstrap.genMatcherCode false
set_option compiler.extract_closed false
set_option hygiene false
local macro_rules|`(tactic| walk_at "t")=>`(tactic| (first|assumption|exact Nat.succ_pos _|exact zd.tk (by assumption)|exact Nat.lt_of_lt_of_le (zd.tk (by assumption)) (Nat.le_add_right _ _)|exact Nat.lt_of_lt_of_le (zd.tk (by assumption)) (by assumption)))
set_option hygiene true
local macro_rules|`(tactic| walk_at "w")=>`(tactic| conv=>whnf)
local macro_rules|`(tactic| walk_at "y")=>`(tactic| ((refine PySem.W.look_both ?_ ?_);(refine PySem.W.look_both ?_ ?_);(refine PySem.W.look_both ?_ ?_);(refine PySem.W.look_both ?_ ?_);(refine PySem.W.look_both ?_ ?_);(refine PySem.W.look_both ?_ ?_)))
set_option Elab.async false
set_option linter.all false
set_option maxRecDepth 100000
abbrev Aa:=@PySem.wpAny_bind
abbrev Ab:=@List.length_map
abbrev Ac:=@List.mem_cons_of_mem
abbrev Ad:=@List.length_append
abbrev Ae:=@List.mem_append_right
abbrev Af:=@List.mem_cons_self
abbrev Ag:=@List.getElem?_eq_getElem
abbrev Ah:=@PySem.W.Frag
abbrev Ai:=@PySem.wpAny_pure
abbrev Aj:=@List.mem_singleton
abbrev Ak:=@List.map_append
abbrev Al:=@Nat.le_refl
abbrev Am:=@List.mem_cons
abbrev An:=@List.getElem?_map
abbrev Ao:=@Option.map_eq_some_iff
abbrev Ap:=@List.mem_append
abbrev Aq:=@List.size_toArray
abbrev Ar:=@List.mem_append_left
abbrev Au:=@List.nodup_append
abbrev Av:=@List.nodup_cons
abbrev Aw:=@List.mem_of_getElem?
abbrev Ax:=@List.getElem?_append_right
abbrev Ay:=@decide_eq_false
abbrev Az:=@PyProof.Rows.wpS_bind
abbrev AA:=@List.flatMap_append
abbrev AB:=@List.getElem?_append_left
abbrev AC:=@Bool.false_ne_true
abbrev AD:=@List.append_assoc
abbrev AE:=@List.map_cons
abbrev AF:=@if_pos
abbrev AG:=@if_neg
abbrev AH:=@decide_eq_true
abbrev AI:=@Ne.symm
abbrev AJ:=@List.mem_filter
abbrev AK:=@PyProof.Rows.wpS_pure
abbrev AL:=@List.mem_map
abbrev AM:=@List.flatMap_cons
abbrev AN:=@Option.some.inj
abbrev AO:=@Nat.lt_of_lt_of_le
abbrev AQ:=@List.length_cons
abbrev AR:=@Int.toNat_natCast
abbrev AS:=@List.append_nil
abbrev AU:=@Nat.le_trans
abbrev AV:=@List.getElem?_eq_some_iff
abbrev AW:=@List.mem_flatMap
abbrev AX:=@PySem.wpAny_field
abbrev AY:=@PySem.wpAny_holding
abbrev AZ:=@PySem.wpAny_mono
abbrev A1:=@List.length_take
abbrev A2:=@Nat.ne_of_lt
abbrev A3:=@List.take_succ
abbrev A4:=@Bool.and_eq_true
abbrev A5:=@List.take_of_length_le
abbrev A6:=@List.take_length
abbrev A7:=@List.take_append_drop
abbrev A8:=@List.perm_ext_iff_of_nodup
abbrev A9:=@Int.natCast_nonneg
abbrev Ba:=@List.cons_ne_nil
abbrev Bb:=@PySem.W.mg_none_of
abbrev Bc:=@List.mem_range
abbrev Bd:=@Nat.zero_le
abbrev Be:=@List.getD_eq_getElem?_getD
abbrev Bf:=@Nat.le_of_lt
abbrev Bg:=@PySem.wpAny_seqItems
abbrev Bh:=@List.count_append
abbrev Bi:=@congrArg
abbrev Bj:=@Array.getElem?_toList
abbrev Bk:=@List.filter_append
abbrev Bl:=@PySem.W.kia_one
abbrev Bm:=@List.find?_cons
abbrev Bo:=@PySem.wpAny_newObj_type
abbrev Bp:=@List.lookup_cons
abbrev Bq:=@List.length_range
abbrev Br:=@PyProof.Rows.wpS_forRange
abbrev Bs:=@List.not_mem_nil
abbrev Bt:=@List.filter_cons
abbrev Bu:=@Array.length_toList
abbrev Bv:=@PySem.mem_of_lookup
abbrev Bw:=@List.length_reverse
abbrev Bx:=@List.perm_iff_count
abbrev Bz:=@List.map_map
abbrev BA:=@Bool.eq_iff_iff
abbrev BB:=@List.getElem_take
abbrev BC:=@List.sum_append
abbrev BD:=@Bool.false_eq_true
abbrev BE:=@PyProof.Rows.callWith_type1
abbrev BF:=@List.length_singleton
abbrev BG:=@Nat.le_of_ble_eq_true
abbrev BH:=@List.eq_nil_or_concat
abbrev BI:=@List.concat_eq_append
abbrev BJ:=@Nat.le_add_right
abbrev BK:=@PySem.wpAny_rule
abbrev BL:=@List.all_eq_true
abbrev BM:=@List.cons.inj
abbrev BN:=@List.getElem?_set_ne
abbrev BO:=@List.Perm.refl
abbrev BP:=@List.eq_nil_of_length_eq_zero
abbrev BQ:=@Nat.le_succ_of_le
abbrev BR:=@Nat.lt_succ_of_lt
abbrev BS:=@List.getElem?_set_self
abbrev BU:=@List.getElem_cons_drop
abbrev BV:=@Nat.le_succ
abbrev BW:=@List.perm_append_singleton
abbrev BX:=@List.length_replicate
abbrev BY:=@List.getElem?_eq_none
abbrev BZ:=@List.drop_eq_getElem_cons
abbrev B1:=@List.sublist_append_right
abbrev B3:=@List.findIdx?_eq_none_iff
abbrev B4:=@List.forIn_cons
abbrev B5:=@Nat.min_eq_left
abbrev B6:=@PySem.W.look_both
abbrev B7:=@Option.isSome_map
abbrev B8:=@List.pairwise_map
abbrev B9:=@Nat.sub_self
abbrev Cb:=@List.getElem?_of_mem
abbrev Cc:=@List.mem_of_mem_take
abbrev Cd:=@Bool.eq_false_iff
abbrev Ce:=@List.any_cons
abbrev Cf:=@List.Pairwise.imp_of_mem
abbrev Cg:=@Int.ofNat_inj
abbrev Ci:=@PyProof.Rows.slot_tuple_getitem
abbrev Cj:=@List.getElem?_range
abbrev Ck:=@List.getElem?_replicate
abbrev Cm:=@List.eraseIdx_cons_succ
abbrev Cn:=@Int.mul_le_mul_of_nonneg_right
abbrev Co:=@Nat.lt_succ_self
abbrev Cp:=@List.nodup_range
abbrev Cq:=@Nat.mul_add
abbrev Cr:=@Nat.lt_of_le_of_lt
abbrev Cs:=@List.flatMap_singleton
abbrev Ct:=@List.filter_eq_nil_iff
abbrev Cu:=@Nat.lt_irrefl
abbrev Cv:=@PySem.W.mg_of
abbrev Cw:=@Bool.not_eq_true'
abbrev Cy:=@List.perm_append_right_iff
abbrev Cz:=@Nat.ne_of_gt
abbrev CA:=@List.length_drop
abbrev CB:=@List.perm_middle
abbrev CC:=@List.filterMap_cons
abbrev CD:=@List.mem_map_of_mem
abbrev CF:=@List.sublist_append_left
abbrev CG:=@List.length_zip
abbrev CH:=@List.nil_append
abbrev CI:=@List.getElem?_take
abbrev CK:=@List.append_of_mem
abbrev CL:=@List.getElem?_cons_succ
abbrev CM:=@List.length_eraseIdx_le
abbrev CN:=@List.findIdx?_eq_some_iff_getElem
abbrev CO:=@List.map_nil
abbrev CP:=@List.reverse_cons
abbrev CQ:=@List.drop_zero
abbrev CS:=@Nat.sub_zero
abbrev CT:=@List.forIn_nil
abbrev CU:=@List.mem_range'_1
abbrev CV:=@List.Sublist.refl
abbrev CW:=@List.eraseIdxIfInBounds_toArray
abbrev CY:=@List.getElem?_reverse
abbrev CZ:=@Nat.max_eq_right
abbrev C0:=@decide_eq_decide
abbrev C1:=@PySem.W.hideAll_none
abbrev C2:=@List.getElem?_zipIdx
abbrev C3:=@Int.le_refl
abbrev C4:=@List.pairwise_append
abbrev C5:=@List.nodup_iff_count
abbrev C6:=@List.of_mem_zip
abbrev C7:=@Nat.max_eq_left
abbrev C8:=@PySem.W.hideAll_get
abbrev C9:=@Array.toList_append
abbrev Dc:=@List.reverse_append
abbrev Dd:=@Nat.lt_or_ge
abbrev De:=@Int.le_of_lt
abbrev Df:=@List.mem_filterMap
abbrev Dg:=@PySem.F.excBase_ValueError
abbrev Dh:=@List.getElem?_drop
abbrev Di:=@List.nodup_nil
abbrev Dj:=@Nat.mul_le_mul
abbrev Dk:=@congrFun
abbrev Dl:=@PySem.F.slot_dict_getitem
abbrev Dm:=@List.pairwise_iff_getElem
abbrev Dn:=@List.perm_append_left_iff
abbrev Do:=@List.getElem?_zip_eq_some
abbrev Dp:=@PySem.W.kitx_list
abbrev Dq:=@List.reverse_perm
abbrev Dr:=@List.nodup_range'
abbrev Ds:=@Nat.add_mul
abbrev Dt:=@List.getElem?_take_of_lt
abbrev Du:=@PySem.F.args_tuple_add_2
abbrev Dv:=@List.all_cons
abbrev Dw:=@List.getElem_append_left
abbrev Dx:=@PySem.F.entry_tuple_add
abbrev Dy:=@Nat.succ_le_succ
abbrev Dz:=@PySem.F.plainAttrs_list
abbrev DA:=@Nat.min_eq_right
abbrev DB:=@List.range'_succ
abbrev DC:=@Nat.add_sub_cancel_left
abbrev DD:=@List.map_reverse
abbrev DE:=@List.flatMap_nil
abbrev DF:=@List.flatMap_map
abbrev DG:=@List.length_eq_zero_iff
abbrev DH:=@Nat.succ_pos
abbrev DI:=@PySem.W.cellsFrom_some
abbrev DJ:=@PySem.F.slot_tuple_add
abbrev DK:=@Int.le_trans
abbrev DL:=@List.reverse_singleton
abbrev DM:=@List.length_set
abbrev DN:=@Array.size_push
abbrev DO:=@Bool.or_eq_true
abbrev DP:=@beq_false_of_ne
abbrev DQ:=@Nat.le_add_left
abbrev DR:=@Int.emod_nonneg
abbrev DS:=@Bool.and_false
abbrev DU:=@List.take_zero
abbrev DV:=@Bool.and_true
abbrev r4:=@PySem.Heap.get?_push_of_some
abbrev sx:=@PySem.Heap.lt_size
abbrev sy:=@PySem.Heap.get?_push_size
abbrev vb:=@PySem.PassesOwn.never
abbrev vc:=@PySem.Heap.SameBut.update
abbrev wh:=@PySem.Heap.get?_update_other
abbrev xT:=@PySem.Heap.get?_update_self
abbrev ya:=@PySem.F.slot_tuple_iterator_next
abbrev y1:=@PySem.MeetsSeq.plain_remove_loop
abbrev As:=@PySem.W.look_both
abbrev At:=@PySem.Calls.spliced_cons
abbrev Db:=@PySem.Around.under_plainId
abbrev DT:=@PySem.F.plain_extend_loop
abbrev Ef:=@PySem.Calls.spliced_nil
abbrev Eg:=@PySem.Heap.size_push
abbrev Eh:=@PySem.F.slot_zip_next
abbrev Ei:=@Sum.inr.inj
noncomputable section
namespace L2
open PySem PyProof.Rows
theorem ij{M:Model}{g:Ctx}{p:Pos}{t:Sem Fin}{fs:List Frame}{s s':Shared}{e:End}(h:Runs M g p t fs s e s'):s.toks<=s'.toks:=by induction h with|fresh _ j=>exact AU (BV _) j|call _ _ J U=>exact AU J U|resumeFresh _ _ _ _ J U=>exact AU J U|resumeSuspended _ _ _ _ J U=>exact AU J U|segRet _ _ J U=>exact AU J U|segGen _ _ J U=>exact AU J U|segSuspGen _ _ _ _ J U=>exact AU J U|_=>first|exact Al _|assumption
theorem wO{M:Model}{U:Ctx}{p:Pos}{g:Nat}{r:Resume}{s s':Shared}{res:GenResult}(h:Wakes M U p g r s res s'):s.toks<=s'.toks:=by
 unfold Wakes at h;split at h
 ·exact h.elim
 ·split at h
  ·obtain⟨e,j,J,_,_,rfl⟩:=h;have q:=ij J;exact q
  ·obtain⟨_,rfl⟩:=h;exact Al _
  ·obtain⟨_,rfl⟩:=h;exact Al _
 ·obtain⟨e,j,J,_,_,rfl⟩:=h;have q:=ij J;exact q
 ·obtain⟨_,rfl⟩:=h;exact Al _
 ·obtain⟨_,rfl⟩:=h;exact Al _
theorem agr{α:Type}{M:Model}{T:Ctx}(t:Sem α):∀{Q:α->Pos->Shared->Prop} {E:Value->Pos->Shared->Prop} {p:Pos} {s:Shared} (n:Nat),n<=s.toks->Sem.wp M T t Q E p s->Sem.wp M T t (λa I s'=>Q a I s'/\n<=s'.toks) (λe I s'=>E e I s'/\n<=s'.toks) p s:=by induction t with|pure a=>intro Q E p s n J h;exact⟨h,J⟩|raise e=>intro Q E p s n J h;exact⟨h,J⟩|load a part k U=>intro Q E p s n J ⟨o,j,C⟩;exact⟨o,j,U o n J C⟩|update a part f k U=>intro Q E p s n J ⟨j,C⟩;exact⟨j,U () n J C⟩|fresh k U=>intro Q E p s n J h;exact U s.toks n (AU J (BV _)) h|choose a0 m k U=>intro Q E p s n J ⟨j,C⟩;exact⟨j,U _ n J C⟩|call c hd g l k U=>intro Q E p s n J ⟨r,s',j,C⟩;exact⟨r,s',j,U r n (AU J (ij j)) C⟩|genState g k U=>intro Q E p s n J ⟨st,j,C⟩;exact⟨st,j,U _ n J C⟩|resume g r l k U=>intro Q E p s n J ⟨res,s',j,C⟩;exact⟨res,s',j,U _ n (AU J (wO j)) C⟩|rule tag k U=>intro Q E p s n J h;exact U () n J h|«at» pos k U=>intro Q E p s n J h;exact U () n J h|alloc o k U=>intro Q E p s n J h;exact U _ n J h|loadIfAlive a k U=>intro Q E p s n J h;exact U _ n J h|point l k U=>intro Q E p s n J h;exact U _ n J h|ask k U=>intro Q E p s n J h;exact U _ n J h|os q l k U=>intro Q E p s n J h;exact U _ n J h|handled own k U=>intro Q E p s n J h;exact U _ n J h|newGen c k U=>intro Q E p s n J h;exact U _ n J h|stack k U=>intro Q E p s n J h;exact U _ n J h|thread k U=>intro Q E p s n J h;exact U _ n J h|unsupported w=>intro Q E p s n J h;exact h.elim|finish e=>intro Q E p s n J h;exact h.elim|register a k U=>intro Q E p s n J h;exact h.elim|yield v g l k U=>intro Q E p s n J h;exact h.elim|fork c k U=>intro Q E p s n J h;exact h.elim|await a f d l k U=>intro Q E p s n J h;exact h.elim
theorem xI{α:Type}{M:Model}{A:Around}{t:Sem α}{Q:α->Shared->Prop}{E:Value->Shared->Prop}{s:Shared}(h:wpAny M A t Q E s):wpAny M A t (λa s'=>Q a s'/\s.toks<=s'.toks) (λe s'=>E e s'/\s.toks<=s'.toks) s:=
 λU p J=>agr t s.toks (Al _) (h U p J)
theorem xg{α:Type}{M:Model}{A:Around}{t:Sem α}{Q:α->Shared->Prop}{E:Value->Shared->Prop}{s:Shared}(J:0<s.toks)(h:wpAny M A t (λa s'=>0<s'.toks->Q a s') (λe s'=>0<s'.toks->E e s') s):wpAny M A t Q E s:=
 AZ (xI h) (λ_ _ z=>z.1 (AO J z.2)) λ_ _ z=>z.1 (AO J z.2)
end L2
variable {M:PySem.Model}{apos fm pB p p1 p2 p3 p4 p5 pos hQ tp:PySem.Pos}{t t1 t2:Bool}{s s':PySem.Shared}{c e kB o target tg value:PySem.Expr}{α β κ:Type}{A:PySem.Around}{E Q:PySem.Value->PySem.Shared->Prop}{eH us vs:List PySem.Value}{C Pt a b dx f fa i1 i2 it ka l l1 l2 pa z:PySem.Addr}{cd fx ct ir oc pm u:PySem.Value}{base h h':PySem.Heap}{d i j m n t' x1:Nat}{ch fp:List PySem.Addr}{kx name px q eK x:PySem.Str}{pins:List (PySem.Addr×PySem.Obj)}{st:PySem.Stmt}{mD es kA:List PySem.Expr}{body:List PySem.Stmt}{lo:Int}{mA mg:PySem.Str->Option PySem.Value}{fd:PySem.FuncData}{ps:List PySem.Str}{fy scope:PySem.Scope}{outer:List PySem.Env}{an od:Option PySem.Addr}{ni:Array (Option PySem.Value)}{prog:PySem.Program}{env:PySem.Env}{rks:List Int}
namespace L2
open PySem PySem.Spec PyProof.Rows
abbrev jm:=Sum Int Str
def oY:jm->Value->Bool
 |.inl k,v=>Value.isInt k v
 |.inr x,v=>Value.isStrOf x v
def as5(w:World):jm->Int
 |.inl k=>hashInt k
 |.inr x=>hashStr w x
theorem vk:∀{k:jm} {v:Value},oY k v=true->(∃i t,k=Sum.inl i/\v=Value.int i t)\/(∃x t,k=Sum.inr x/\v=Value.str x t)
 |.inl i,v,h=>by obtain⟨t,e⟩:=Value.isInt_shape (k:=i) (v:=v) h;exact .inl ⟨i,t,rfl,e⟩
 |.inr x,v,h=>by obtain⟨t,e⟩:=Value.isStrOf_shape (x:=x) (v:=v) h;exact .inr ⟨x,t,rfl,e⟩
theorem zZ(i:Int)(t:Tok):oY (.inl i) (.int i t)=true:=by simp[oY,Value.isInt]
theorem jO(x:Str)(t:Tok):oY (.inr x) (.str x t)=true:=by simp[oY,Value.isStrOf]
theorem anv(a b:Int):decide ((Sum.inl a:jm)=Sum.inl b)=(a==b):=by
 by_cases e:a=b
 ·subst e;simp
 ·have h:¬(Sum.inl a:jm)=Sum.inl b:=λq=>e (Sum.inl.inj q);rw[Ay h];exact(beq_eq_false_iff_ne.mpr e).symm
theorem alh(a b:Str):decide ((Sum.inr a:jm)=Sum.inr b)=decide (a=b):=by
 by_cases e:a=b
 ·subst e;simp
 ·have h:¬(Sum.inr a:jm)=Sum.inr b:=λq=>e (Ei q);rw[Ay h,Ay e]
theorem alf(a:Int)(b:Str):decide ((Sum.inl a:jm)=Sum.inr b)=false:=Ay (λq=>nomatch q)
theorem alt(a:Str)(b:Int):decide ((Sum.inr a:jm)=Sum.inl b)=false:=Ay (λq=>nomatch q)
def vm(prog:Program)(w:World):PySem.KeyKind prog w jm where
 is:=oY
 hash:=as5 w
 inj:=λv a b l g=>by
  rcases vk l with⟨i,t,rfl,rfl⟩|⟨x,t,rfl,rfl⟩
  ·rcases vk g with⟨j,u,rfl,e⟩|⟨y,u,rfl,e⟩
   ·injection e with J _;rw[J]
   ·exact nomatch e
  ·rcases vk g with⟨j,u,rfl,e⟩|⟨y,u,rfl,e⟩
   ·exact nomatch e
   ·injection e with J _;rw[J]
 byValue:=λk v h=>by rcases vk h with⟨i,t,rfl,rfl⟩|⟨x,t,rfl,rfl⟩<;>rfl
 pyHash:=λU h=>by
  rcases vk U with⟨i,t,rfl,rfl⟩|⟨x,t,rfl,rfl⟩
  ·exact wpAny_pyHash_int h
  ·exact wpAny_pyHash_str h
 eqBool:=λo U h=>by
  rcases vk o with⟨i,t,rfl,rfl⟩|⟨x,t,rfl,rfl⟩
  ·rcases vk U with⟨j,u,rfl,rfl⟩|⟨y,u,rfl,rfl⟩
   ·rw[anv] at h;exact wpAny_eqBool_int h
   ·rw[alf] at h;exact SeqAt.EqAt.int_str i t y u _ _ _ _ h
  ·rcases vk U with⟨j,u,rfl,rfl⟩|⟨y,u,rfl,rfl⟩
   ·rw[alt] at h;exact SeqAt.EqAt.str_int x t j u _ _ _ _ h
   ·rw[alh] at h;exact wpAny_eqBool_str h
 «strs» := λk x t v h=>by
  rcases vk h with⟨i,u,rfl,e⟩|⟨y,u,rfl,e⟩
  ·exact nomatch e
  ·injection e with J _
   subst J;cases v<;>rfl
theorem uY(prog:Program)(w:World)(i:Int)(t:Tok):(vm prog w).is (.inl i) (.int i t)=true:=zZ i t
theorem uk(prog:Program)(w:World)(x:Str)(t:Tok):(vm prog w).is (.inr x) (.str x t)=true:=jO x t
inductive V where
 |non|bl (b:Bool)|int (i:Int)|str (x:Str)|byt (b:Array UInt8)|flt (b:UInt64)|ref (a:Addr)|ty (n:String)
 deriving DecidableEq
def j3:V->Value->Prop
 |.non,u=>u=Value.none
 |.bl b,u=>u=Value.bool b
 |.int i,u=>∃t,u=Value.int i t
 |.str x,u=>∃t,u=Value.str x t
 |.byt b,u=>∃t,u=Value.bytes b t
 |.flt b,u=>∃t,u=Value.float b t
 |.ref a,u=>u=Value.ref a
 |.ty n,u=>u=Value.type n
abbrev zr:List V->List Value->Prop:=Paired j3
theorem zr.length{xs:List V}(r:zr xs us):xs.length=us.length:=Paired.length r
theorem zr.get:∀{xs:List V} {us:List Value} {i:Nat} {x:V},zr xs us->xs[i]?=some x->∃u,us[i]?=some u/\j3 x u
 |_,_,_,_,.nil,e=>by simp at e
 |_,_,0,_,.cons r _,e=>by simp at e;subst e;exact⟨_,rfl,r⟩
 |_,_,i+1,x,.cons _ t,e=>by obtain⟨u,J,U⟩:=zr.get (i:=i) (x:=x) t (by simpa using e);exact⟨u,by simpa using J,U⟩
theorem zr.set{x:V}{u:Value}(r:j3 x u):∀{xs:List V} {us:List Value} (i:Nat),zr xs us->zr (xs.set i x) (us.set i u)
 |_,_,_,.nil=>.nil
 |_,_,0,.cons _ t=>.cons r t
 |_,_,i+1,.cons q t=>.cons q (zr.set r i t)
theorem zr.append:∀{xs ys:List V} {us J:List Value},zr xs us->zr ys J->zr (xs++ys) (us++J)
 |_,_,_,_,.nil,s=>s
 |_,_,_,_,.cons r t,s=>.cons r (zr.append t s)
theorem zr.take:∀{xs:List V} {us:List Value} (n:Nat),zr xs us->zr (xs.take n) (us.take n)
 |_,_,0,_=>.nil
 |_,_,_+1,.nil=>.nil
 |_,_,n+1,.cons r t=>.cons r (zr.take n t)
theorem zr.drop:∀{xs:List V} {us:List Value} (n:Nat),zr xs us->zr (xs.drop n) (us.drop n)
 |_,_,0,r=>r
 |_,_,_+1,.nil=>.nil
 |_,_,n+1,.cons _ t=>zr.drop n t
def i4:Option V->Option Value->Prop
 |some v,some u=>j3 v u
 |none,none=>True
 |_,_=>False
def KV :List (κ×V)->List (κ×Value)->Prop:=Paired λ(p:κ×V) (q:κ×Value)=>p.1=q.1/\j3 p.2 q.2
def kV:jm->V
 |.inl i=>.int i
 |.inr x=>.str x
inductive HO where
 |lst (xs:List V)
 |tup (xs:List V)
 |dK (kvs:List (jm×V))|dT (kvs:List (List jm×V))
 |set (S:Int->Bool) (n:Nat)
 |ins (C dx:Addr) (fs:List (Str×V))
 |own (x:Addr)
 |xd (fs:List (Str×V))
 |met (f x:Addr)
 |rng (lo hi:Int)
 |frz (o:Obj) (u:HO)
 |tbl (ps:Array Value)
 |ext (φ:Heap->Prop)
abbrev Hp:=Addr->Option HO
def upd(H:Hp)(a:Addr)(o:HO):Hp:=λb=>if b=a then some o else H b
theorem zv{H:Hp}{o:HO}:upd H a o a=some o:=by unfold upd;rw[AF rfl]
theorem qx{H:Hp}{o:HO}(h:b≠a):upd H a o b=H b:=by unfold upd;rw[AG h]
theorem xX{H:Hp}{o u:HO}:upd (upd H a o) a u=upd H a u:=by funext b;unfold upd;split<;>rfl
theorem aqs{H:Hp}{o u:HO}(h:H a=some o)(h':H b=some u)(d:o≠u):a≠b:=by intro e;subst e;rw[h] at h';exact d (AN h')
theorem zy{H:Hp}{o:HO}(h:H a=some o)(h':H b=none):a≠b:=by intro e;subst e;rw[h] at h';cases h'
section
variable (P:Program)(w:World)
def v5(H:Hp)(h:Heap)(a:Addr):HO->Prop
 |.lst xs=>xs.length<=sizeLine/\∃(eH:List Value) (n:Nat),zr xs eH/\h.get? a=some { cls:=.type "list",data:=.seq eH.toArray n }
 |.tup xs=>xs.length<=sizeLine/\∃eH:List Value,zr xs eH/\IsTup h a eH.toArray
 |.dK kvs=>kvs.length<=sizeLine/\(a==sysModules)=false/\∃vs,KV kvs vs/\h.DictOf (vm P w) a vs
 |.dT kvs=>kvs.length<=sizeLine/\(a==sysModules)=false/\∃xs:List (List jm×Addr×Value),
  Paired (λ(p:List jm×V) (q:List jm×Addr×Value)=>p.1=q.1/\H q.2.1=some (.tup (p.1.map kV))/\j3 p.2 q.2.2) kvs xs/\
  ∃o es U,h.get? a=some o/\o.ExactDict/\o.data=.dict es U/\es.toList=xs.map (entryOfKey (tupleKind (vm P w)))/\(xs.map (·.1)).Nodup
 |.set S n=>h.SetOf (intKind P w) a S n
 |.ins C dx fs=>H dx=some (.own a)/\fs.length<=1000/\dx≠a/\h.get? a=some (PySem.W.instObj C dx)/\
  ∃mA,h.Ns1 dx mA/\(∀f,i4 (fs.lookup f) (mA f))/\PySem.Within mA (fs.map (·.1))
 |.own _=>∃o,h.get? a=some o
 |.xd fs=>∃mA,h.Ns1 a mA/\∀f,i4 (fs.lookup f) (mA f)
 |.rng lo hi=>∃t u v,h.get? a=some { cls:=.type "range",data:=.fields #[.int lo t,.int hi u,.int 1 v] }
 |.frz o u=>h.get? a=some o/\v5 H h a u
 |.tbl ps=>h.get? a=some { cls:=.none,data:=.fields ps }
 |.met f x=>h.get? a=some (PySem.W.methodObj (.ref f) (.ref x))
 |.ext J=>J h/\(∃o,h.get? a=some o)/\∀h1 h2:Heap,J h1->(∀o,h1.get? a=some o->h2.get? a=some o)->J h2
def dw(H:Hp)(h:Heap):Prop:=∀a o,H a=some o->v5 P w H h a o
end
section
variable {P:Program}{w:World}{H H':Hp}{o:HO}
theorem v5.lt(x:v5 P w H h a o):a<h.objs.size:=by
 cases o with
 |lst U=>obtain⟨_,_,_,_,e⟩:=x;exact sx e
 |tup U=>obtain⟨_,_,_,p⟩:=x;exact p.lt
 |dK J=>obtain⟨_,_,_,_,o,_,_,e,_⟩:=x;exact sx e
 |dT J=>obtain⟨_,_,_,_,o,_,_,e,_⟩:=x;exact sx e
 |set S n=>obtain⟨o,_,_,_,e,_⟩:=x;exact sx e
 |ins C g fs=>obtain⟨_,_,_,e,_⟩:=x;exact sx e
 |own y=>obtain⟨_,e⟩:=x;exact sx e
 |xd fs=>obtain⟨_,⟨_,_,_,e,_⟩,_⟩:=x;exact sx e
 |rng lo j=>obtain⟨_,_,_,e⟩:=x;exact sx e
 |frz ob u=>obtain⟨e,_⟩:=x;exact sx e
 |tbl l=>exact sx (show h.get? a=some _ from x)
 |met f y=>exact sx (show h.get? a=some _ from x)
 |ext r=>obtain⟨_,⟨_,e⟩,_⟩:=x;exact sx e
theorem Paired.mapP{α β:Type}{F G:α->β->Prop}:∀{J:List α} {l₂:List β},Paired F J l₂->(∀a b,F a b->G a b)->Paired G J l₂
 |_,_,.nil,_=>.nil
 |_,_,.cons r t,f=>.cons (f _ _ r) (Paired.mapP t f)
abbrev EC:=@Paired.mapP
theorem v5.stay(x:v5 P w H h a o)(k:∀b u,(b=a\/H b=some (.own a))->h.get? b=some u->h'.get? b=some u)
 (ho:∀b,H b=some (.own a)->H' b=some (.own a)) (ht:∀b xs,H b=some (.tup xs)->H' b=some (.tup xs)):v5 P w H' h' a o:=by
 induction o with
 |lst xs=>obtain⟨z,g,n,r,e⟩:=x;exact⟨z,g,n,r,k _ _ (.inl rfl) e⟩
 |tup xs=>obtain⟨z,g,r,ob,e,c⟩:=x;exact⟨z,g,r,ob,k _ _ (.inl rfl) e,c⟩
 |dK j=>obtain⟨z,y,vs,r,ob,J,U,e,c⟩:=x;exact⟨z,y,vs,r,ob,J,U,k _ _ (.inl rfl) e,c⟩
 |dT j=>
  obtain⟨z,y,xs,r,ob,J,U,e,c⟩:=x;exact⟨z,y,xs,EC r λp q z=>⟨z.1,ht _ _ z.2.1,z.2.2⟩,ob,J,U,k _ _ (.inl rfl) e,c⟩
 |set S n=>obtain⟨ob,J,U,t,e,c⟩:=x;exact⟨ob,J,U,t,k _ _ (.inl rfl) e,c⟩
 |ins C dx fs=>
  obtain⟨d,z,ne,e,l,⟨I,J,U,e2,c⟩,r⟩:=x;exact⟨ho _ d,z,ne,k _ _ (.inl rfl) e,l,⟨I,J,U,k _ _ (.inr d) e2,c⟩,r⟩
 |own y=>obtain⟨ob,e⟩:=x;exact⟨ob,k _ _ (.inl rfl) e⟩
 |xd fs=>obtain⟨l,⟨I,J,U,e,c⟩,r⟩:=x;exact⟨l,⟨I,J,U,k _ _ (.inl rfl) e,c⟩,r⟩
 |rng lo hi=>obtain⟨t,u,v,e⟩:=x;exact⟨t,u,v,k _ _ (.inl rfl) e⟩
 |frz ob u ih=>obtain⟨e,q⟩:=x;exact⟨k _ _ (.inl rfl) e,ih q⟩
 |tbl T=>
  have e:h.get? a=some { cls:=.none,data:=.fields T }:=x;show h'.get? a=some { cls:=.none,data:=.fields T };exact k a _ (.inl rfl) e
 |met f y=>
  have e:h.get? a=some (PySem.W.methodObj (.ref f) (.ref y)):=x;show h'.get? a=some (PySem.W.methodObj (.ref f) (.ref y));exact k a _ (.inl rfl) e
 |ext φ=>obtain⟨p,⟨o,e⟩,st⟩:=x;exact⟨st _ _ p λo q=>k _ _ (.inl rfl) q,⟨o,k _ _ (.inl rfl) e⟩,st⟩
theorem dw.lt(x:dw P w H h)(e:H a=some o):a<h.objs.size:=(x a o e).lt
theorem dw.fresh(x:dw P w H h)(e:h.objs.size<=a):H a=none:=by cases q:H a with|none=>rfl|some u=>exact absurd (AO (x.lt q) e) (Cu _)
theorem dw.kept(x:dw P w H h)(k:∀b u,h.get? b=some u->h'.get? b=some u):dw P w H h':=λa o e=>
 (x a o e).stay (λb u _ q=>k b u q) (λ_ q=>q) λ_ _ q=>q
theorem dw.laid(x:dw P w H h)(k:∀b u,h.get? b=some u->h'.get? b=some u)(g:h.objs.size<=a)(new:v5 P w (upd H a o) h' a o):dw P w (upd H a o) h':=λb u e=>by
 have J:=x.fresh g;by_cases U:b=a
 ·subst U;rw[zv] at e;cases e;exact new
 ·rw[qx U] at e;exact(x b u e).stay (λc v _ q=>k c v q) (λc q=>by rw[qx (zy q J)];exact q) λc j q=>by rw[qx (zy q J)];exact q
end
def Rd(H:Hp)(a:Addr)(u:HO):Prop:=H a=some u\/∃o,H a=some (.frz o u)
theorem Rd.ok{P:Program}{w:World}{H:Hp}{u:HO}(r:Rd H a u)(x:dw P w H h):v5 P w H h a u:=by
 rcases r with r|⟨o,r⟩
 ·exact x a u r
 ·obtain⟨_,q⟩:=x a _ r;exact q
def Mut:Option HO->Prop
 |some (.lst _)=>True
 |some (.dK _)=>True
 |some (.dT _)=>True
 |some (.set _ _)=>True
 |some (.ins _ _ _)=>True
 |some (.ext _)=>True
 |_=>False
section
variable {P:Program}{w:World}{H:Hp}{x e:Addr}{o':HO}
theorem dw.write(ok:dw P w H h)(j:Mut (H x))(C:e=x\/H e=some (.own x))(k:∀b u,b≠e->h.get? b=some u->h'.get? b=some u)(t:∃u,h'.get? e=some u)
 (new:v5 P w (upd H x o') h' x o'):dw P w (upd H x o') h':=λb u q=>by
 have U:∀c y,H c=some (.own y)->c≠x:=λc y r z=>by subst z;rw[r] at j;exact j
 have g:∀c l,H c=some (.tup l)->c≠x:=λc l r z=>by subst z;rw[r] at j;exact j
 by_cases o:b=x
 ·subst o;rw[zv] at q;cases q;exact new
 ·rw[qx o] at q;by_cases J:b=e
  ·have I:H b=some (.own x):=by
    rcases C with z|z
    ·exact absurd (J.trans z) o
    ·rw[J];exact z
   rw[q] at I;cases I;obtain⟨v,T⟩:=t;exact⟨v,by rw[J];exact T⟩
  ·refine(ok b u q).stay (λc v p r=>k c v ?_ r) (λc r=>by rw[qx (U c b r)];exact r) λc l r=>by rw[qx (g c l r)];exact r
   rcases p with rfl|p
   ·exact J
   ·rintro rfl;rcases C with z|z
    ·exact U c b p z
    ·rw[p] at z;cases z;exact o rfl
end
structure Un(fs ex:List Addr)(H H':Hp)(h h':Heap):Prop where
 keep:∀b o,h.get? b=some o->H b=none->b∉fs->b∉ex->h'.get? b=some o
 slot:∀b o,h.get? b=some o->H b=none->b∈fs->b∉ex->∃sl,h'.get? b=some { o with slots:=sl }
 free:∀b o,h.get? b=some o->H b=none->b∉ex->H' b=none
 there:∀b o,h.get? b=some o->b∉ex->∃o',h'.get? b=some o'
 tups:∀b xs,H b=some (.tup xs)->H' b=some (.tup xs)
 frzs:∀b o u,H b=some (.frz o u)->H' b=some (.frz o u)
 tbls:∀b ps,H b=some (.tbl ps)->∃more,H' b=some (.tbl (ps++more))
section
variable {fs fs' ex ex':List Addr}{H H1 H2:Hp}{h1 h2:Heap}{x e:Addr}{o:HO}
theorem Un.any(u:Un fs ex H H1 h h1){ob:Obj}(q:h.get? b=some ob)(n:H b=none)(J:b∉ex):∃g,h1.get? b=some { ob with slots:=g }:=by
 by_cases U:b∈fs
 ·exact u.slot b ob q n U J
 ·exact⟨ob.slots,u.keep b ob q n U J⟩
theorem Un.kept(k:∀b u,h.get? b=some u->h'.get? b=some u):Un fs ex H H h h':=
 ⟨λb ob q _ _ _=>k b ob q,λb ob q _ _ _=>⟨ob.slots,k b ob q⟩,λ_ _ _ n _=>n,λb ob q _=>⟨ob,k b ob q⟩,λ_ _ q=>q,λ_ _ _ q=>q,λ_ J q=>⟨#[],by rw[q];simp⟩⟩
theorem Un.refl:Un fs ex H H h h:=Un.kept λ_ _ q=>q
theorem Un.laid(k:∀b u,h.get? b=some u->h'.get? b=some u)(U:h.objs.size<=a)(J:H a=none):Un fs ex H (upd H a o) h h' where
 keep:=λb u q _ _ _=>k b u q
 slot:=λb u q _ _ _=>⟨u.slots,k b u q⟩
 free:=λb u q n _=>by rw[qx (A2 (AO (sx q) U))];exact n
 there:=λb u q _=>⟨u,k b u q⟩
 tups:=λb g q=>by rw[qx (zy q J)];exact q
 frzs:=λb u g q=>by rw[qx (zy q J)];exact q
 tbls:=λb j q=>⟨#[],by rw[qx (zy q J),q];simp⟩
theorem Un.write(U:Mut (H x))(t:e=x\/H e=some (.own x))(k:∀b u,b≠e->h.get? b=some u->h'.get? b=some u)(g:∃u,h'.get? e=some u):Un fs ex H (upd H x o) h h':=by
 have l:∀b,H b=none->b≠x:=λb n z=>by subst z;rw[n] at U;exact U
 have p:∀b,H b=none->b≠e:=λb n z=>by
  subst z;rcases t with r|r
  ·exact l b n r
  ·rw[n] at r;cases r
 have j:∀b u,H b=some u->¬Mut (some u)->b≠x:=λb u q nm z=>by subst z;rw[q] at U;exact nm U
 refine⟨λb u q n _ _=>k b u (p b n) q,λb u q n _ _=>⟨u.slots,k b u (p b n) q⟩,λb u q n _=>by rw[qx (l b n)];exact n,λb u q _=>?_,
  λb C q=>by rw[qx (j b _ q λz=>z)];exact q,λb u C q=>by rw[qx (j b _ q λz=>z)];exact q,λb I q=>⟨#[],by rw[qx (j b _ q λz=>z),q];simp⟩⟩
 by_cases J:b=e
 ·subst J;exact g
 ·exact⟨u,k b u J q⟩
end
def trk(h:Heap)(H:Hp):List Addr:=(List.range h.objs.size).filter λa=>(H a).isSome
def rM(h:Heap)(H:Hp):Heap:=PySem.W.hideAll h (trk h H)
theorem aaa(h:Heap)(H:Hp):(rM h H).objs.size=h.objs.size:=PySem.W.hideAll_size _ _
theorem adi{H:Hp}{o:Obj}(e:h.get? b=some o)(n:H b=none):(rM h H).get? b=some o:=
 C8 _ e λJ=>by have q:(H b).isSome=true:=(AJ.mp J).2;rw[n] at q;simp at q
theorem aht{H:Hp}{o:Obj}(e:(rM h H).get? b=some o):h.get? b=some o/\H b=none:=by
 have J:h.get? b=some o:=PySem.W.of_hideAll (trk h H) e;refine⟨J,?_⟩;cases q:H b with
 |none=>rfl
 |some x=>
  have U:b∈trk h H:=AJ.mpr ⟨Bc.mpr (sx J),by simp[q]⟩;have z:(rM h H).get? b=none:=C1 (trk h H) U;rw[z] at e;cases e
end L2
variable {xs zs:List L2.V}{H H' H₀:L2.Hp}{v:L2.V}
namespace L2
open PySem PySem.Spec PyProof.Rows
structure Mod(K:Ah)(mg:Str->Option Value)(base:Heap):Prop where
 kin:K.In base
 glob:base.Ns mainGlobals mg
 blt:∃mb,base.Ns builtinsNs mb/\∀x:Str,x ≠ "__name__" -> mb x=bootBuiltins x
 nolimit:base.NoLimit
structure Cx where
 prog:Program
 w:World
 K:Ah
 mg:Str->Option Value
 base:Heap
 A:Around
 N:List Str
 s₀:Shared
 H₀:Hp
 env:Env
 outer:List Env
 stack:List Env
 ex:List Addr
 fn:Str->Bool
 calm:Bool
 pn:List (Addr×Obj)
 xe:Value->Shared->Prop
def fj(l:List Env):List Addr:=l.filterMap (·.frame)
abbrev Cx.fs(X:Cx):List Addr:=fj X.outer
def Vis(J:Scope)(x:Str):Prop:=J.names.lookup x=some .local\/J.names.lookup x=some .cell\/J.names.lookup x=some .free
def Loc(J:Scope)(x:Str):Prop:=J.names.lookup x=some .local\/J.names.lookup x=some .cell
def aug(env:Env)(h:Heap)(m:Str->Option Value)(x:Str)(u:Value):Prop:=
 (env.kindOf x=some .local/\m x=some u)\/((env.kindOf x=some .cell\/env.kindOf x=some .free)/\∃c,env.cells.lookup x=some c/\h.IsCell c (some u))
structure Cx.Ok(X:Cx):Prop where
 mod:Mod X.K X.mg X.base
 kind:X.env.scope.kind=.function
 glob:X.env.globals=mainGlobals
 blt:X.env.builtins=builtinsNs
 above:X.s₀.heap.objs.size<=X.env.locals
 inj:∀x y c,X.env.cells.lookup x=some c->X.env.cells.lookup y=some c->x=y
 has:∀x,(X.env.kindOf x=some .cell\/X.env.kindOf x=some .free)->∃c,X.env.cells.lookup x=some c
 cab:∀x c,X.fn x=true->X.env.cells.lookup x=some c->X.s₀.heap.objs.size<=c
 hd:X.calm=true->X.A.handled=none
 frames:X.A.frames=some X.stack
 stk:X.stack=X.outer\/(X.stack=X.env::X.outer/\X.env.frame=some X.env.locals)
 exf:∀b∈X.ex,b≠X.env.locals/\∀x c,X.env.cells.lookup x=some c->c≠b
 bs:∀b o,X.base.get? b=some o->X.s₀.heap.get? b=some o/\X.H₀ b=none
 bsz:X.base.objs.size<=X.s₀.heap.objs.size
 noex:∀b o,X.base.get? b=some o->b∉X.ex
 exfs:∀b∈X.ex,b∉X.fs
 funs:X.s₀.heap.FunFrames X.base X.outer
 frf:∀b∈X.fs,X.H₀ b=none
structure zd(X:Cx)(pins:List (Addr×Obj))(σ:List (Option V))(H:Hp)(s:Shared):Prop where
 ok:X.Ok
 os:s.os=X.s₀.os
 bare:AllBare s.gens
 base:Un X.fs X.ex X.H₀ H X.s₀.heap s.heap
 loc:∃m,s.heap.Ns X.env.locals m/\∀(i:Nat) (x:Str) (v:V),X.N[i]?=some x->σ[i]?=some (some v)->Vis X.env.scope x->∃u,j3 v u/\aug X.env s.heap m x u
 cell:∀x c,X.env.cells.lookup x=some c->∃v,s.heap.IsCell c v
 free:H X.env.locals=none
 freeC:∀x c,X.env.cells.lookup x=some c->H c=none
 pin:∀p∈X.pn++pins,s.heap.get? p.1=some p.2/\H p.1=none/\p.1≠X.env.locals/\p.1∉X.fs/\∀v,p.2.data≠.cell v
 hok:dw X.prog X.w H s.heap
 len:σ.length=X.N.length
 tk:0<s.toks
section
variable {X:Cx}{σ:List (Option V)}
theorem Cx.Ok.nofr(ok:X.Ok){o:Obj}(e:X.base.get? b=some o):b∉X.fs:=λJ=>by have:=(ok.funs.mem J).1;rw[e] at this;cases this
theorem zd.bs(I:zd X pins σ H s):∀b o,X.base.get? b=some o->s.heap.get? b=some o/\H b=none:=λb o e=>
 ⟨I.base.keep b o (I.ok.bs b o e).1 (I.ok.bs b o e).2 (I.ok.nofr e) (I.ok.noex b o e),I.base.free b o (I.ok.bs b o e).1 (I.ok.bs b o e).2 (I.ok.noex b o e)⟩
theorem zd.bk(I:zd X pins σ H s):∀b o,X.base.get? b=some o->s.heap.get? b=some o:=λb o e=>(I.bs b o e).1
theorem zd.mod(I:zd X pins σ H s):Mod X.K X.mg X.base:=I.ok.mod
theorem zd.kIn(I:zd X pins σ H s):X.K.In s.heap:=I.ok.mod.kin.keeps I.bk
theorem zd.nolimit(I:zd X pins σ H s):s.heap.NoLimit:=I.ok.mod.nolimit.keeps I.bk
theorem zd.lt(I:zd X pins σ H s):X.env.locals<s.heap.objs.size:=let ⟨_,J,_⟩:=I.loc;J.lt
theorem zd.sz(I:zd X pins σ H s):X.s₀.heap.objs.size<=s.heap.objs.size:=AU I.ok.above (Bf I.lt)
theorem zd.nofs(I:zd X pins σ H s)(h:s.heap.objs.size<=a):a∉X.fs:=λJ=>by obtain⟨_,o,U,_⟩:=I.ok.funs.mem J;exact absurd (AO (sx U) (AU I.sz h)) (Cu _)
theorem zd.cne(I:zd X pins σ H s):∀x c,X.env.cells.lookup x=some c->c≠X.env.locals:=λx c e z=>by obtain⟨v,o,g,hd⟩:=I.cell x c e;obtain⟨m,⟨j,l,p,J,U,_⟩,_⟩:=I.loc;rw[z,J] at g;cases g;rw[U] at hd;cases hd
theorem zd.funs(I:zd X pins σ H s):s.heap.FunFrames X.base X.outer:=by
 have all:∀(l:List Env),(∀b∈fj l,b∈X.fs)->X.s₀.heap.FunFrames X.base l->s.heap.FunFrames X.base l:=by
  intro l
  induction l with
  |nil=>intro _ _;trivial
  |cons p r t=>
   intro j C;obtain⟨T,⟨L,o,J,hn,ho,hd⟩,hr⟩:=C;have U:L∈X.fs:=j L (by unfold fj;rw[CC,J];exact Af);obtain⟨sl,e⟩:=I.base.slot L o ho (I.ok.frf L U) U λz=>I.ok.exfs L z U;exact⟨T,⟨L,_,J,hn,e,hd⟩,t (λb g=>j b (by unfold fj;rw[CC,J];exact Ac _ g)) hr⟩
 exact all X.outer (λ_ g=>g) I.ok.funs
theorem zd.stack(I:zd X pins σ H s):s.heap.FunFrames X.base X.stack:=by
 rcases I.ok.stk with e|⟨e,J⟩
 ·rw[e];exact I.funs
 ·rw[e];obtain⟨m,U,_⟩:=I.loc;refine .cons (by rw[I.ok.kind];decide) J U ?_ I.funs;exact Heap.get?_none_of_le (AU I.ok.bsz I.ok.above)
theorem zd.stkSub(I:zd X pins σ H s):∀b∈fj X.stack,b∈X.env.locals::X.fs:=λb J=>by
 rcases I.ok.stk with e|⟨e,U⟩
 ·rw[e] at J;exact Ac _ J
 ·rw[e] at J;unfold fj at J;rw[CC,U] at J;exact J
theorem zd.stkFree(I:zd X pins σ H s):∀b∈fj X.stack,H b=none:=λb J=>by
 rcases Am.mp (I.stkSub b J) with e|J
 ·rw[e];exact I.free
 ·obtain⟨_,o,U,_⟩:=I.ok.funs.mem J;exact I.base.free b o U (I.ok.frf b J) λz=>I.ok.exfs b z J
theorem zd.step{g':Array GenState}{d':Drawn}(I:zd X pins σ H s)
 (U:∀b∈ch,(b∈X.ex\/X.s₀.heap.objs.size<=b)/\b≠X.env.locals/\(∀x c,X.env.cells.lookup x=some c->c≠b)/\∀p∈X.pn++pins,p.1≠b)
 (keep:∀b o,b≠X.env.locals->b∉X.fs->b∉ch->s.heap.get? b=some o->H b=none->h'.get? b=some o)
 (slot:∀b o,b≠X.env.locals->b∈X.fs->b∉ch->s.heap.get? b=some o->H b=none->∃sl,h'.get? b=some { o with slots:=sl }) (free:∀b o,b∉ch->s.heap.get? b=some o->H b=none->H' b=none)
 (there:∀b o,b∉ch->s.heap.get? b=some o->∃o',h'.get? b=some o')
 (tups:∀b xs,H b=some (.tup xs)->H' b=some (.tup xs)) (frzs:∀b o u,H b=some (.frz o u)->H' b=some (.frz o u)) (tbls:∀b ps,H b=some (.tbl ps)->∃more,H' b=some (.tbl (ps++more)))
 (ns:∀m,s.heap.Ns X.env.locals m->h'.Ns X.env.locals m) (hok:dw X.prog X.w H' h') (hg:AllBare g') (ht:0<t':=by walk_at "t"):
 zd X pins σ H' { s with heap:=h',gens:=g',drawn:=d',toks:=t' }:=by
 have k7:∀b o,X.s₀.heap.get? b=some o->b≠X.env.locals:=λb o e=>A2 (AO (sx e) I.ok.above);have t:∀b o,X.s₀.heap.get? b=some o->b∉X.ex->b∉ch:=λb o e J T=>by
  rcases (U b T).1 with z|z
  ·exact J z
  ·exact absurd (AO (sx e) z) (Cu _)
 have g:∀x c,X.env.cells.lookup x=some c->∀v,s.heap.IsCell c v->h'.IsCell c v:=λx c e v ⟨o,ho,hd⟩=>by
  have j:c∉ch:=λz=>(U c z).2.2.1 x c e rfl;by_cases hc:c∈X.fs
  ·obtain⟨sl,q⟩:=slot c o (I.cne x c e) hc j ho (I.freeC x c e);exact⟨_,q,hd⟩
  ·exact⟨o,keep c o (I.cne x c e) hc j ho (I.freeC x c e),hd⟩
 refine⟨I.ok,I.os,hg,⟨λb o e n T J=>?_,λb o e n T J=>?_,λb o e n J=>?_,λb o e J=>?_,λb xs e=>tups b xs (I.base.tups b xs e),λb o xs e=>frzs b o xs (I.base.frzs b o xs e),λb ps e=>?_⟩,?_,λx c e=>?_,?_,λx c e=>?_,λp hp=>?_,hok,I.len,ht⟩
 ·exact keep b o (k7 b o e) T (t b o e J) (I.base.keep b o e n T J) (I.base.free b o e n J)
 ·obtain⟨sl,C⟩:=I.base.slot b o e n T J;obtain⟨a0,e2⟩:=slot b _ (k7 b o e) T (t b o e J) C (I.base.free b o e n J);exact⟨a0,e2⟩
 ·obtain⟨o',C⟩:=I.base.there b o e J;exact free b o' (t b o e J) C (I.base.free b o e n J)
 ·obtain⟨o',C⟩:=I.base.there b o e J;exact there b o' (t b o e J) C
 ·obtain⟨m1,C⟩:=I.base.tbls b ps e;obtain⟨m2,e2⟩:=tbls b _ C;exact⟨m1++m2,by rw[e2,Array.append_assoc]⟩
 ·obtain⟨m,hn,hl⟩:=I.loc;refine⟨m,ns m hn,λi x v C e2 e3=>?_⟩;obtain⟨u,r,l⟩:=hl i x v C e2 e3;refine⟨u,r,?_⟩;rcases l with l|⟨k,c,e,z⟩
  ·exact .inl l
  ·exact .inr ⟨k,c,e,g x c e _ z⟩
 ·obtain⟨v,z⟩:=I.cell x c e;exact⟨v,g x c e v z⟩
 ·obtain⟨m,⟨o,_,_,ho,_⟩,_⟩:=I.loc;exact free _ o (λz=>(U _ z).2.1 rfl) ho I.free
 ·obtain⟨v,o,ho,hd⟩:=I.cell x c e;exact free c o (λz=>(U c z).2.2.1 x c e rfl) ho (I.freeC x c e)
 ·obtain⟨e,n,ne,nf,d⟩:=I.pin p hp;have j:p.1∉ch:=λz=>(U p.1 z).2.2.2 p hp rfl;exact⟨keep p.1 p.2 ne nf j e n,free p.1 p.2 j e n,ne,nf,d⟩
theorem zd.un(I:zd X pins σ H s)(u:Un X.fs [] H H' s.heap h')(hok:dw X.prog X.w H' h')(T:0<t':=by walk_at "t"):zd X pins σ H' { s with heap:=h',toks:=t' }:=by obtain⟨m,⟨o,es,ep,l,r⟩,_⟩:=id I.loc;obtain⟨sl,p⟩:=u.any l I.free (by simp);exact I.step (g':=s.gens) (d':=s.drawn) (ch:=[]) (λ_ z=>nomatch z) (λb o _ U _ e n=>u.keep b o e n U (by simp)) (λb o _ U _ e n=>u.slot b o e n U (by simp)) (λb o _ e n=>u.free b o e n (by simp)) (λb o _ e=>u.there b o e (by simp)) u.tups u.frzs u.tbls (λm' t=>by obtain⟨o',g,j,J,C⟩:=t;rw[l] at J;cases J;exact⟨_,g,j,p,C⟩) hok I.bare
theorem zd.call{g':Array GenState}{d':Drawn}(I:zd X pins σ H s)(u:Un (fj X.stack) ch H H' s.heap h')(hok:dw X.prog X.w H' h')(T:AllBare g')
 (U:∀b∈ch,(b∈X.ex\/X.s₀.heap.objs.size<=b)/\b≠X.env.locals/\(∀x c,X.env.cells.lookup x=some c->c≠b)/\∀p∈X.pn++pins,p.1≠b) (ht:0<t':=by walk_at "t"):
 zd X pins σ H' { s with heap:=h',gens:=g',drawn:=d',toks:=t' }:=by
 obtain⟨m,⟨o,es,ep,C,r⟩,_⟩:=id I.loc;obtain⟨sl,j⟩:=u.any C I.free λz=>(U _ z).2.1 rfl;exact I.step (ch:=ch) U (λb o j hb J e n=>u.keep b o e n (λz=>(Am.mp (I.stkSub b z)).elim j hb) J) (λb o _ _ J e n=>u.any e n J) (λb o J e n=>u.free b o e n J) (λb o J e=>u.there b o e J) u.tups u.frzs u.tbls (λm' hm=>by obtain⟨o',l,t,g,r'⟩:=hm;rw[C] at g;cases g;exact⟨_,l,t,j,r'⟩) hok T
theorem zd.turned(I:zd X pins σ H s)(k:∀b o,b≠it->s.heap.get? b=some o->h'.get? b=some o)(j:H it=none)(g:it≠X.env.locals)
 (h1:it∈X.ex\/X.s₀.heap.objs.size<=it) (h2:∀x c,X.env.cells.lookup x=some c->c≠it) (l:∀p∈X.pn++pins,p.1≠it) (ht:0<t':=by walk_at "t"):zd X pins σ H { s with heap:=h',toks:=t' }:=by
 have U:∀b u,H b=some u->b≠it:=λb u e z=>by rw[z,j] at e;cases e
 refine I.step (g':=s.gens) (d':=s.drawn) (ch:=[it]) (λb t=>?_) (λb o _ _ J e _=>k b o (λz=>J (by simp[z])) e) (λb o _ _ J e _=>⟨o.slots,k b o (λz=>J (by simp[z])) e⟩) (λ_ _ _ _ n=>n)
  (λb o J e=>⟨o,k b o (λz=>J (by simp[z])) e⟩) (λ_ _ e=>e) (λ_ _ _ e=>e) (λb ps e=>⟨#[],by rw[e];simp⟩) (λm C=>?_) (λb u e=>?_) I.bare
 ·have e:b=it:=by simpa using t
  subst e;exact⟨h1,g,h2,l⟩
 ·obtain⟨o,T,ep,ho,r⟩:=C;exact⟨o,T,ep,k _ o (AI g) ho,r⟩
 ·refine(I.hok b u e).stay (λc v J q=>k c v ?_ q) (λ_ q=>q) λ_ _ q=>q;rcases J with z|z
  ·rw[z];exact U b u e
  ·exact U c _ z
theorem zd.tok(I:zd X pins σ H s)(t:Nat)(J:0<t:=by walk_at "t"):zd X pins σ H { s with toks:=t }:=I.un (h':=s.heap) (t':=t) Un.refl I.hok
theorem zd.kept(I:zd X pins σ H s)(k:∀b u,s.heap.get? b=some u->h'.get? b=some u)(J:0<t':=by walk_at "t"):zd X pins σ H { s with heap:=h',toks:=t' }:=I.un (Un.kept k) (I.hok.kept k)
theorem zd.laid{o:HO}(I:zd X pins σ H s)(k:∀b u,s.heap.get? b=some u->h'.get? b=some u)(J:s.heap.objs.size<=a)(new:v5 X.prog X.w (upd H a o) h' a o)(U:0<t':=by walk_at "t"):
 zd X pins σ (upd H a o) { s with heap:=h',toks:=t' }:=I.un (Un.laid k J (I.hok.fresh J)) (I.hok.laid k J new)
theorem zd.write{x e:Addr}{o:HO}(I:zd X pins σ H s)(U:Mut (H x))(g:e=x\/H e=some (.own x))(k:∀b u,b≠e->s.heap.get? b=some u->h'.get? b=some u)(J:∃u,h'.get? e=some u)
 (new:v5 X.prog X.w (upd H x o) h' x o) (j:0<t':=by walk_at "t"):zd X pins σ (upd H x o) { s with heap:=h',toks:=t' }:=I.un (Un.write U g k J) (I.hok.write U g k J new)
theorem zd.weak{kt:List (Option V)}(I:zd X pins σ H s)(U:kt.length=σ.length)(w:∀(i:Nat) v,kt[i]?=some (some v)->σ[i]?=some (some v)):zd X pins kt H s:=
 ⟨I.ok,I.os,I.bare,I.base,let ⟨m,g,J⟩:=I.loc;⟨m,g,λi x v j l o=>J i x v j (w i v l) o⟩,I.cell,I.free,I.freeC,I.pin,I.hok,U.trans I.len,I.tk⟩
theorem zd.pins_of{J:List (Addr×Obj)}(I:zd X pins σ H s)(h:∀p∈J,s.heap.get? p.1=some p.2/\H p.1=none/\p.1≠X.env.locals/\p.1∉X.fs/\∀v,p.2.data≠.cell v):zd X J σ H s:=
 ⟨I.ok,I.os,I.bare,I.base,I.loc,I.cell,I.free,I.freeC,λp U=>(Ap.mp U).elim (λz=>I.pin p (Ar _ z)) (h p),I.hok,I.len,I.tk⟩
theorem uG{N:List Str}(J:N.Nodup)(a:N[i]?=some x)(b:N[j]?=some x):i=j:=by obtain⟨l,U⟩:=AV.mp a;obtain⟨o,g⟩:=AV.mp b;exact(List.getElem_inj J).mp (U.trans g.symm)
theorem pP{Q:Unit->Shared->Prop}(I:zd X pins σ H s)(hN:X.N.Nodup)(hi:X.N[i]?=some x)(t:Loc X.env.scope x)(r:j3 v u)
 (h:∀s',zd X pins (σ.set i (some v)) H s'->(∃a,Heap.SameBut a s.heap s'.heap/\(a=X.env.locals\/X.env.cells.lookup x=some a))->(X.env.kindOf x=some .local->∃m',s'.heap.Ns X.env.locals m'/\m' x=some u)->Q () s') (hf:X.fn x=true\/X.env.scope.names.lookup x=some .local:=by first|exact .inl rfl|exact .inr rfl|assumption):wpAny M A (storeName X.env x u) Q E s:=by
 obtain⟨m,hn,hl⟩:=id I.loc;have a2:(X.env.scope.kind==.class||(X.env.scope.kind==.module&&X.env.locals != X.env.globals))=false:=by rw[I.ok.kind];rfl
 have a0:i<σ.length:=by rw[I.len];exact(AV.mp hi).1
 have cne:=I.cne;have U:∀{a:Addr} {h':Heap},(∃o,s.heap.get? a=some o/\H a=none)->Heap.SameBut a s.heap h'->dw X.prog X.w H h':=λ{a h'} ha J b ob e=>by
  obtain⟨_,_,C⟩:=ha;refine(I.hok b ob e).stay (λc w' l q=>(J.2 c ?_).trans q) (λ_ q=>q) λ_ _ q=>q;rintro rfl;rcases l with rfl|l
  ·rw[C] at e;cases e
  ·rw[C] at l;cases l
 rcases t with T|T
 ·refine wpAny_storeName_local T hn (λh' a3 J=>?_) a2;obtain⟨oL,_,_,ar,_⟩:=id hn;refine h _ ⟨I.ok,I.os,I.bare,⟨λb o e n hb t=>?_,λb o e n hb t=>?_,I.base.free,λb o e t=>?_,I.base.tups,I.base.frzs,I.base.tbls⟩,⟨_,a3,λj y v' g e2 e3=>?_⟩,λy c e=>?_,I.free,I.freeC,λp hp=>?_,U ⟨oL,ar,I.free⟩ J,by simpa using I.len,by first|exact I.tk|exact DH _⟩ ⟨_,J,.inl rfl⟩ (λ_=>⟨_,a3,by simp⟩)
  ·exact(J.2 b (A2 (AO (sx e) I.ok.above))).trans (I.base.keep b o e n hb t)
  ·obtain⟨sl,g⟩:=I.base.slot b o e n hb t;exact⟨sl,(J.2 b (A2 (AO (sx e) I.ok.above))).trans g⟩
  ·obtain⟨o',g⟩:=I.base.there b o e t;exact⟨o',(J.2 b (A2 (AO (sx e) I.ok.above))).trans g⟩
  ·by_cases hj:j=i
   ·subst hj;rw[hi] at g;cases g;rw[BS a0] at e2;cases e2;exact⟨u,r,.inl ⟨T,by simp⟩⟩
   ·rw[BN (AI hj)] at e2;obtain⟨u',r',q⟩:=hl j y v' g e2 e3;refine⟨u',r',?_⟩;rcases q with⟨k,e⟩|⟨k,c,e,z⟩
    ·refine .inl ⟨k,?_⟩;have:y≠x:=λe=>hj (uG hN g (e▸hi));simp[this,e]
    ·exact .inr ⟨k,c,e,z.sameBut J (cne y c e)⟩
  ·obtain⟨w',z⟩:=I.cell y c e;exact⟨w',z.sameBut J (cne y c e)⟩
  ·obtain⟨e,n,ne,nf,d⟩:=I.pin p hp;exact⟨(J.2 p.1 ne).trans e,n,ne,nf,d⟩
 ·have a1:X.fn x=true:=by
   rcases hf with z|z
   ·exact z
   ·rw[z] at T;cases T
  obtain⟨c,l⟩:=I.ok.has x (.inl T);obtain⟨w',z⟩:=I.cell x c l;refine wpAny_storeName_cell I.ok.kind T l z (λh' a4 J=>?_);obtain⟨oc,a5,ag⟩:=id z;refine h { s with heap:=h' } ⟨I.ok,I.os,I.bare,⟨λb o e n hb t=>?_,λb o e n hb t=>?_,I.base.free,λb o e t=>?_,I.base.tups,I.base.frzs,I.base.tbls⟩,⟨m,hn.sameBut J (AI (cne x c l)),λj y v' g e2 e3=>?_⟩,λy c' e=>?_,I.free,I.freeC,λp hp=>?_,U ⟨oc,a5,I.freeC x c l⟩ J,by simpa using I.len,I.tk⟩ ⟨c,J,.inr l⟩ (λz=>by have e:=(show X.env.kindOf x=some .cell from T).symm.trans z;cases e)
  ·exact(J.2 b (A2 (AO (sx e) (I.ok.cab x c a1 l)))).trans (I.base.keep b o e n hb t)
  ·obtain⟨sl,g⟩:=I.base.slot b o e n hb t;exact⟨sl,(J.2 b (A2 (AO (sx e) (I.ok.cab x c a1 l)))).trans g⟩
  ·obtain⟨o',g⟩:=I.base.there b o e t;exact⟨o',(J.2 b (A2 (AO (sx e) (I.ok.cab x c a1 l)))).trans g⟩
  ·by_cases hj:j=i
   ·subst hj;rw[hi] at g;cases g;rw[BS a0] at e2;cases e2;exact⟨u,r,.inr ⟨.inl T,c,l,a4⟩⟩
   ·rw[BN (AI hj)] at e2;obtain⟨u',r',q⟩:=hl j y v' g e2 e3;refine⟨u',r',?_⟩;rcases q with q|⟨k,c',e,z'⟩
    ·exact .inl q
    ·refine .inr ⟨k,c',e,z'.sameBut J ?_⟩;rintro rfl;exact hj (uG hN g (I.ok.inj _ _ _ e l▸hi))
  ·by_cases al:c'=c
   ·subst al;exact⟨_,a4⟩
   ·obtain⟨w2,z2⟩:=I.cell y c' e;exact⟨w2,z2.sameBut J al⟩
  ·obtain⟨e,n,ne,nf,d⟩:=I.pin p hp;refine⟨(J.2 p.1 ?_).trans e,n,ne,nf,d⟩;intro q;rw[q,a5] at e;have q':oc=p.2:=AN e;exact d w' (by rw[<-q'];exact ag)
theorem hZ{Q:Unit->Shared->Prop}(I:zd X pins σ H s)(J:X.N.Nodup)(hi:X.N[i]?=some x)(U:Loc X.env.scope x)(r:j3 v u)
 (h:∀s',zd X pins (σ.set i (some v)) H s'->Q () s') (g:X.fn x=true\/X.env.scope.names.lookup x=some .local:=by first|exact .inl rfl|exact .inr rfl|assumption):wpAny M A (storeName X.env x u) Q E s:=
 pP I J hi U r (λs' j _ _=>h s' j) g
theorem zd.call'(I:zd X pins σ H s)(U:s'.os=s.os)(u:Un (fj X.stack) ch H H' s.heap s'.heap)(hok:dw X.prog X.w H' s'.heap)(g:AllBare s'.gens)
 (J:∀b∈ch,(b∈X.ex\/X.s₀.heap.objs.size<=b)/\b≠X.env.locals/\(∀x c,X.env.cells.lookup x=some c->c≠b)/\∀p∈X.pn++pins,p.1≠b) (j:0<s'.toks:=by walk_at "t"):zd X pins σ H' s':=by
 obtain⟨o,g',d',t',l⟩:=s';have e:l=s.os:=U;subst e;exact I.call (g':=g') (t':=t') (d':=d') u hok g J j
end
abbrev XK:=Value->Option Addr->Hp->Prop
abbrev St:=List (Option V)
abbrev VK:=V->Hp->Prop
abbrev TE:=St->Hp->VK->Prop
abbrev TT:=St->Hp->(Bool->Hp->Prop)->Prop
abbrev TA:=St->Hp->(List V->Hp->Prop)->Prop
structure wM where
 nx:St->Hp->Prop
 rt:VK
 bk:St->Hp->Prop:=λ_ _=>False
 ct:St->Hp->Prop:=λ_ _=>False
abbrev TS:=wM->St->Hp->Prop
def EP(X:Cx)(pins:List (Addr×Obj))(σ:St)(Q:VK)(u:Value)(s':Shared):Prop:=∃v H',zd X pins σ H' s'/\j3 v u/\Q v H'
def TP(X:Cx)(pins:List (Addr×Obj))(σ:St)(Q:Bool->Hp->Prop)(b:Bool)(s':Shared):Prop:=∃H',zd X pins σ H' s'/\Q b H'
def AP(X:Cx)(pins:List (Addr×Obj))(σ:St)(Q:List V->Hp->Prop)(us:List Value)(s':Shared):Prop:=∃vs H',zd X pins σ H' s'/\zr vs us/\Q vs H'
def SP(X:Cx)(pins:List (Addr×Obj))(D:wM)(f:Flow)(s':Shared):Prop:=
 match f with
 |.next=>∃kt H',zd X pins kt H' s'/\D.nx kt H'
 |.brk=>∃kt H',zd X pins kt H' s'/\D.bk kt H'
 |.cont=>∃kt H',zd X pins kt H' s'/\D.ct kt H'
 |.ret u=>∃v kt H',zd X pins kt H' s'/\j3 v u/\D.rt v H'
def PE(X:Cx)(e:Expr)(t:TE):Prop:=
 ∀(pins:List (Addr×Obj)) (s:Shared) (σ:St) (H:Hp) (Q:VK),zd X pins σ H s->t σ H Q->wpAny (model X.prog X.w) X.A (eval e X.env) (EP X pins σ Q) X.xe s
def PT(X:Cx)(e:Expr)(t:TT):Prop:=
 ∀(pins:List (Addr×Obj)) (s:Shared) (σ:St) (H:Hp) (Q:Bool->Hp->Prop),zd X pins σ H s->t σ H Q->wpAny (model X.prog X.w) X.A (isTrue e X.env (eval e X.env)) (TP X pins σ Q) X.xe s
def PW(X:Cx)(e:Expr)(t:TT):Prop:=
 ∀(whole:Sem Value) (pins:List (Addr×Obj)) (s:Shared) (σ:St) (H:Hp) (Q:Bool->Hp->Prop),zd X pins σ H s->t σ H Q->wpAny (model X.prog X.w) X.A (isTrue e X.env whole) (TP X pins σ Q) X.xe s
theorem PW.pt{X:Cx}{t:TT}(h:PW X e t):PT X e t:=h _
def PA(X:Cx)(es:List Expr)(t:TA):Prop:=
 ∀(pos:Pos) (pins:List (Addr×Obj)) (s:Shared) (σ:St) (H:Hp) (Q:List V->Hp->Prop),zd X pins σ H s->t σ H Q->wpAny (model X.prog X.w) X.A (spliced (backTo pos (starEach es X.env))) (AP X pins σ Q) X.xe s
def PS(X:Cx)(st:Stmt)(t:TS):Prop:=
 ∀(pins:List (Addr×Obj)) (s:Shared) (σ:St) (H:Hp) (D:wM),zd X pins σ H s->t D σ H->wpAny (model X.prog X.w) X.A (exec st X.env) (SP X pins D) X.xe s
def lK(X:Cx)(st:List Stmt)(t:TS):Prop:=
 ∀(pins:List (Addr×Obj)) (s:Shared) (σ:St) (H:Hp) (D:wM),zd X pins σ H s->t D σ H->wpAny (model X.prog X.w) X.A (execs st X.env) (SP X pins D) X.xe s
theorem aV{t:Sem α}{Q J:α->Shared->Prop}(h:wpAny M A t Q E s)(U:∀a s,Q a s->J a s):wpAny M A t J E s:=AZ h U λ_ _ x=>x
theorem bF{t:Sem Value}{X:Cx}{σ:St}{Q:VK}{J:Value->Shared->Prop}(h:wpAny M A t (EP X pins σ Q) E s)(U:∀v s x H,zd X pins σ H s->j3 x v->Q x H->J v s):wpAny M A t J E s:=aV h λv s ⟨x,H,a,b,c⟩=>U v s x H a b c
theorem ab5{t:Sem (List Value)}{X:Cx}{σ:St}{Q:List V->Hp->Prop}{J:List Value->Shared->Prop}(h:wpAny M A t (AP X pins σ Q) E s)(U:∀v s x H,zd X pins σ H s->zr x v->Q x H->J v s):wpAny M A t J E s:=aV h λv s ⟨x,H,a,b,c⟩=>U v s x H a b c
end L2
variable {r:L2.V->Option Int->Option Int->L2.Hp->L2.VK->Prop}{X:L2.Cx}{σ:L2.St}{tc:L2.TT}{ta:L2.TE}
namespace L2
open PySem PySem.Spec PyProof.Rows
section
def amq(i:Nat):TE:=λσ H Q=>∃v,σ[i]?=some (some v)/\Q v H
def tC(v:V):TE:=λ_ H Q=>Q v H
abbrev Ed(x:Str):Prop:=(x==("__debug__":Str))=false
abbrev Ee(x:Str):Prop:=(x==("__classdict__":Str))=false
theorem am1(p:X.N[i]?=some x)(t:Vis X.env.scope x)(hd:Ed x:=by decide)(j:Ee x:=by decide):PE X (.Name x pos) (amq i):=by
 intro g s C H Q I h;obtain⟨v,e,h⟩:=h;obtain⟨m,T,hl⟩:=I.loc;obtain⟨u,r,l⟩:=hl i x v p e t;have xi:EP X g C Q u s:=⟨v,H,I,r,h⟩;rcases l with⟨U,hm⟩|⟨U,c,o,J⟩
 ·exact wpAny_Name (wpAny_loadName_local I.ok.kind U T hm xi) hd
 ·rcases U with U|U
  ·exact wpAny_Name (wpAny_loadName_cell I.ok.kind U o J xi) hd
  ·exact wpAny_Name (wpAny_loadName_free I.ok.kind U o J xi j) hd
theorem alx{i j pos}:PE X (.Constant (.int i) j pos) (tC (.int i)):=λ_ _ _ H _ I h=>wpAny_Constant_int ⟨.int i,H,I.tok _,⟨_,rfl⟩,h⟩
theorem aqe{b j pos}:PE X (.Constant (.bool b) j pos) (tC (.bl b)):=λ_ _ _ H _ I h=>Constant_bool ⟨.bl b,H,I,rfl,h⟩
theorem anr{j pos}:PE X (.Constant .none j pos) (tC .non):=λ_ _ _ H _ I h=>Constant_none ⟨.non,H,I,rfl,h⟩
theorem dE{x j pos}:PE X (.Constant (.str x) j pos) (tC (.str x)):=λ_ _ _ H _ I h=>Calls.Constant_str ⟨.str x,H,I.tok _,⟨_,rfl⟩,h⟩
def Gl(X:Cx)(x:Str):Prop:=X.env.kindOf x=some .globalImplicit
theorem lW(I:zd X pins σ H s)(J:Gl X x)(U:X.mg x=some u)(h:Q u s)
 (hd:Ed x:=by decide):wpAny (model X.prog X.w) X.A (eval (.Name x pos) X.env) Q E s:=
 Calls.Name_function_global I.ok.kind J (Calls.loadGlobal_global (by rw[I.ok.glob];exact I.mod.glob.keeps I.bk) U h) hd
theorem bw(I:zd X pins σ H s)(J:Gl X x)(U:X.mg x=none)(g:bootBuiltins x=some u)(h:Q u s)
 (j:x ≠ "__name__" := by decide) (hd:Ed x:=by decide):wpAny (model X.prog X.w) X.A (eval (.Name x pos) X.env) Q E s:=by
 obtain⟨p,l,o⟩:=I.mod.blt;exact Calls.Name_function_global I.ok.kind J (Calls.loadGlobal_builtin (by rw[I.ok.glob];exact I.mod.glob.keeps I.bk) U (by rw[I.ok.blt];exact l.keeps I.bk) ((o x j).trans g) h) hd
theorem yT(J:Gl X x)(U:X.mg x=some u)(r:j3 v u)(hd:Ed x:=by decide):PE X (.Name x pos) (tC v):=
 λ_ _ _ H _ I h=>lW I J U ⟨v,H,I,r,h⟩ hd
theorem ai5(J:Gl X x)(U:X.mg x=none)(g:bootBuiltins x=some u)(r:j3 v u)(j:x ≠ "__name__" := by decide)(hd:Ed x:=by decide):PE X (.Name x pos) (tC v):=
 λ_ _ _ H _ I h=>bw I J U g ⟨v,H,I,r,h⟩ j hd
variable {a b:Expr}{tb:TE}
def PC(X:Cx)(op:CmpOp)(a b:Expr)(t:TE):Prop:=
 ∀(pins:List (Addr×Obj)) (s:Shared) (σ:St) (H:Hp) (Q:VK),zd X pins σ H s->t σ H Q->
  wpAny (model X.prog X.w) X.A (eval a X.env) (λv J=>wpAny (model X.prog X.w) X.A (eval b X.env) (λu U=>wpAny (model X.prog X.w) X.A (compareOp op v u) (EP X pins σ Q) X.xe U) X.xe J) X.xe s
theorem adw(b:Expr){op:CmpOp}(h:op≠.In)(h2:op≠.NotIn):behindInMarks op b=false:=by
 have J:(op==CmpOp.In)=false:=by cases op<;>first|rfl|exact absurd rfl h
 have U:(op==CmpOp.NotIn)=false:=by cases op<;>first|rfl|exact absurd rfl h2
 cases b<;>simp[behindInMarks,J,U]
def apg(ta:TE):TE:=λσ H Q=>ta σ H λx H1=>Q (.bl (decide (x=.non))) H1
def akw(ta:TE):TE:=λσ H Q=>ta σ H λx H1=>Q (.bl (!decide (x=.non))) H1
theorem j3.none_iff{x:V}{v:Value}(r:j3 x v):(v==Value.none)=decide (x=.non):=by
 cases x with
 |non=>cases r;rfl
 |bl _=>cases r;rfl
 |int _=>obtain⟨t,rfl⟩:=r;rfl
 |str _=>obtain⟨t,rfl⟩:=r;rfl
 |byt _=>obtain⟨t,rfl⟩:=r;rfl
 |flt _=>obtain⟨t,rfl⟩:=r;rfl
 |ref _=>cases r;rfl
 |ty _=>cases r;rfl
theorem an3{j hQ}(U:PE X a ta):PC X .Is a (.Constant .none j hQ) (apg ta):=by intro J s g H Q I h;refine bF (U J s g H _ I h) λv t x l o p r=>?_;exact Constant_none (is_none_gen ⟨.bl _,l,o,by rw[p.none_iff];rfl,r⟩)
theorem ah9{j hQ}(U:PE X a ta):PC X .IsNot a (.Constant .none j hQ) (akw ta):=by intro J s g H Q I h;refine bF (U J s g H _ I h) λv t x l o p r=>?_;exact Constant_none (isnot_none_gen ⟨.bl _,l,o,by rw[p.none_iff];rfl,r⟩)
def tB(t:TE):TT:=λσ H Q=>t σ H λx H1=>∃c,x=.bl c/\Q c H1
theorem aep{op:CmpOp}{t:TE}(h:PC X op a b t)(h1:behindInMarks op b=false:=by first|exact adw _ (by decide) (by decide)|rfl):PT X (.Compare a [op] [b] pos) (tB t):=by intro J s U H Q I hw;refine wpAny_isTrue_Compare1 (aV (h J s U H _ I hw) λv r h1=>aV h1 λu C g=>aV g λc T ⟨x,j,l,o,p⟩=>?_) h1;obtain⟨d,rfl,q⟩:=p;cases o;exact wpAny_truthy_bool ⟨j,l,q⟩
theorem alq{t:TE}(h:PE X e t)(U:∀whole,isTrue e X.env whole=(do let v <-whole;standAt e.pos;holding [v] (truthy v)):=by intro _;rfl):PT X e (tB t):=by intro J s g H Q I hw;refine isTrue_plain (bF (h J s g H _ I hw) λv r x j l o p=>?_) (U _);obtain⟨d,rfl,q⟩:=p;cases o;exact wpAny_truthy_bool ⟨j,l,q⟩
variable {tA pR:TT}{rest:List Expr}
def aw4(t u:TT):TT:=λσ H Q=>t σ H λc H1=>if c=true then u σ H1 Q else Q false H1
def tOr(t u:TT):TT:=λσ H Q=>t σ H λc H1=>if c=true then Q true H1 else u σ H1 Q
def avk(t:TT):TT:=λσ H Q=>t σ H λc H1=>Q (!c) H1
theorem agx(U:PT X a tA):PW X (.BoolOp .And [a] pos) tA:=by intro j J s g H Q I h;refine isTrue_and (aV (U J s g H Q I h) λc l e=>?_);cases c with|true=>exact isTrue_and_nil e|false=>exact e
theorem anp(U:PT X a tA):PW X (.BoolOp .Or [a] pos) tA:=by intro j J s g H Q I h;refine isTrue_or (aV (U J s g H Q I h) λc l e=>?_);cases c with|false=>exact isTrue_or_nil e|true=>exact e
theorem al2(o:PT X a tA)(p:PW X (.BoolOp .And (b::rest) pos) pR):PW X (.BoolOp .And (a::b::rest) pos) (aw4 tA pR):=by intro r J s U H Q I h;refine isTrue_and (aV (o J s U H _ I h) λc t ⟨g,j,l⟩=>?_);cases c with|true=>exact p r J t U g Q j l|false=>exact⟨g,j,l⟩
theorem ap4(o:PT X a tA)(p:PW X (.BoolOp .Or (b::rest) pos) pR):PW X (.BoolOp .Or (a::b::rest) pos) (tOr tA pR):=by intro r J s U H Q I h;refine isTrue_or (aV (o J s U H _ I h) λc t ⟨g,j,l⟩=>?_);cases c with|true=>exact⟨g,j,l⟩|false=>exact p r J t U g Q j l
theorem amj(U:PT X a tA):PT X (.UnaryOp .Not a pos) (avk tA):=by intro J s g H Q I h;exact isTrue_not (U J s g H (λc j=>Q (!c) j) I h)
def ap2(ta tb:TE):TE:=λσ H Q=>ta σ H λx H1=>∃c,x=.bl c/\if c=true then tb σ H1 Q else Q (.bl false) H1
theorem alk{op}{t:TE}(h:PE X a t):PE X (.BoolOp op [a] pos) t:=λJ s U H Q I hw=>BoolOp_one (h J s U H Q I hw)
theorem am4(o:PE X a ta)(p:PE X (.BoolOp .And (b::rest) pos) tb):PE X (.BoolOp .And (a::b::rest) pos) (ap2 ta tb):=by
 intro J s g H Q I h;refine BoolOp_and (bF (o J s g H _ I h) λv r x j l t U=>?_);obtain⟨c,rfl,U⟩:=U;cases t;refine wpAny_truthy_bool ?_;cases c with
 |true=>exact p J r g j Q l U
 |false=>exact⟨.bl false,j,l,rfl,U⟩
def tIf(t:TT)(ta tb:TE):TE:=λσ H Q=>t σ H λc H1=>if c=true then ta σ H1 Q else tb σ H1 Q
theorem ad6(hc:PT X c tA)(p:PE X a ta)(r:PE X b tb):PE X (.IfExp c a b pos) (tIf tA ta tb):=by intro J s U H Q I h;refine wpAny_IfExp (aV (hc J s U H _ I h) λd g ⟨j,l,o⟩=>?_);cases d with|true=>exact p J g U j Q l o|false=>exact r J g U j Q l o
end
def aQ(K:Ah)(H:Hp)(a:Addr)(xs:List V):Prop:=
 Rd H a (.lst xs)\/
  ∃(o:Obj) (eH:Array Value) (n:Nat),K.lookup a=some o/\o.cls=.type "list" /\ o.dict=none/\o.data=.seq eH n/\eH.size<=sizeLine/\zr xs eH.toList
def cg(K:Ah)(H:Hp)(a:Addr)(xs:List V):Prop:=
 Rd H a (.tup xs)\/
  ∃(o:Obj) (eH:Array Value) (n:Nat),K.lookup a=some o/\o.cls=.type "tuple" /\ o.data=.seq eH n/\eH.size<=sizeLine/\zr xs eH.toList
def ato:Value->Option V
 |.none=>some .non
 |.bool b=>some (.bl b)
 |.int i _=>some (.int i)
 |.str x _=>some (.str x)
 |.bytes b _=>some (.byt b)
 |.float b _=>some (.flt b)
 |.ref a=>some (.ref a)
 |.type n=>some (.ty n)
 |_=>none
theorem j3.abs{x:V}(r:j3 x u):ato u=some x:=by
 cases x with
 |non=>cases r;rfl
 |bl _=>cases r;rfl
 |int _=>obtain⟨t,rfl⟩:=r;rfl
 |str _=>obtain⟨t,rfl⟩:=r;rfl
 |byt _=>obtain⟨t,rfl⟩:=r;rfl
 |flt _=>obtain⟨t,rfl⟩:=r;rfl
 |ref _=>cases r;rfl
 |ty _=>cases r;rfl
theorem j3.inj{x y:V}(r:j3 x u)(q:j3 y u):x=y:=AN (r.abs.symm.trans q.abs)
theorem zr.inj:∀{xs ys:List V} {us:List Value},zr xs us->zr ys us->xs=ys
 |_,_,_,.nil,.nil=>rfl
 |_,_,_,.cons r t,.cons J U=>by rw[r.inj J,zr.inj t U]
section
variable {ys:List V}
theorem aQ.of{K:Ah}(h:H a=some (.lst xs)):aQ K H a xs:=.inl (.inl h)
theorem cg.of{K:Ah}(h:H a=some (.tup xs)):cg K H a xs:=.inl (.inl h)
theorem zd.list(I:zd X pins σ H s)(h:aQ X.K H a xs):∃eH:List Value,zr xs eH/\PlainL s.heap a eH.toArray/\xs.length<=sizeLine:=by
 rcases h with h|⟨o,eH,n,J,U,hd,g,j,r⟩
 ·obtain⟨z,eH,n,r,e⟩:=h.ok I.hok;exact⟨eH,r,⟨_,n,e,rfl,rfl,rfl⟩,z⟩
 ·refine⟨eH.toList,r,⟨o,n,I.kIn a o J,U,hd,by simpa using g⟩,?_⟩;have e:=r.length;simp only[Bu] at e;lia
theorem zd.tuple(I:zd X pins σ H s)(h:cg X.K H a xs):∃eH:List Value,zr xs eH/\IsTup s.heap a eH.toArray/\xs.length<=sizeLine:=by
 rcases h with h|⟨o,eH,n,J,U,g,j,r⟩
 ·obtain⟨z,eH,r,p⟩:=h.ok I.hok;exact⟨eH,r,p,z⟩
 ·refine⟨eH.toList,r,⟨o,I.kIn a o J,U,n,by simpa using g⟩,?_⟩;have e:=r.length;simp only[Bu] at e;lia
theorem zd.list_inj(I:zd X pins σ H s)(h:aQ X.K H a xs)(h':aQ X.K H a ys):xs=ys:=by
 obtain⟨U,r,⟨o,n,e,_,_,d⟩,_⟩:=I.list h;obtain⟨J,l,⟨p,t,g,_,_,j⟩,_⟩:=I.list h';rw[e] at g;cases g;rw[d] at j;injection j with d1 _
 have:U=J:=by simpa using Bi Array.toList d1
 subst this;exact r.inj l
theorem zd.tuple_inj(I:zd X pins σ H s)(h:cg X.K H a xs)(h':cg X.K H a ys):xs=ys:=by
 obtain⟨U,r,⟨o,e,_,n,d⟩,_⟩:=I.tuple h;obtain⟨J,l,⟨p,g,_,t,j⟩,_⟩:=I.tuple h';rw[e] at g;cases g;rw[d] at j;injection j with d1 _
 have:U=J:=by simpa using Bi Array.toList d1
 subst this;exact r.inj l
end
abbrev Cx.wish(X:Cx)(E:Value->Shared->Prop):Cx:={ X with xe:=E }
abbrev Cx.nox(X:Cx):Cx:=X.wish λ_ _=>False
theorem Cx.Ok.wish(ok:X.Ok)(E:Value->Shared->Prop):(X.wish E).Ok:=
 ⟨ok.mod,ok.kind,ok.glob,ok.blt,ok.above,ok.inj,ok.has,ok.cab,ok.hd,ok.frames,ok.stk,ok.exf,ok.bs,ok.bsz,ok.noex,ok.exfs,ok.funs,ok.frf⟩
theorem Cx.Ok.unwish(ok:(X.wish E).Ok):X.Ok:=
 ⟨ok.mod,ok.kind,ok.glob,ok.blt,ok.above,ok.inj,ok.has,ok.cab,ok.hd,ok.frames,ok.stk,ok.exf,ok.bs,ok.bsz,ok.noex,ok.exfs,ok.funs,ok.frf⟩
theorem zd.wish(I:zd X pins σ H s)(E:Value->Shared->Prop):zd (X.wish E) pins σ H s:=⟨I.ok.wish E,I.os,I.bare,I.base,I.loc,I.cell,I.free,I.freeC,I.pin,I.hok,I.len,I.tk⟩
theorem zd.unwish(I:zd (X.wish E) pins σ H s):zd X pins σ H s:=⟨I.ok.unwish,I.os,I.bare,I.base,I.loc,I.cell,I.free,I.freeC,I.pin,I.hok,I.len,I.tk⟩
theorem SP.unwish{D:wM}{f:Flow}(h:SP (X.wish E) pins D f s'):SP X pins D f s':=by
 cases f with
 |next=>obtain⟨J,U,I,q⟩:=h;exact⟨J,U,I.unwish,q⟩
 |brk=>obtain⟨J,U,I,q⟩:=h;exact⟨J,U,I.unwish,q⟩
 |cont=>obtain⟨J,U,I,q⟩:=h;exact⟨J,U,I.unwish,q⟩
 |ret u=>obtain⟨v,J,U,I,r,q⟩:=h;exact⟨v,J,U,I.unwish,r,q⟩
theorem lK.nox{st:List Stmt}{t:TS}(h:lK X.nox st t):lK X st t:=λJ s U H D I hw=>
 AZ (h J s U H D (I.wish _) hw) (λ_ _ q=>q.unwish) λ_ _ z=>False.elim z
section
variable {rest:List Stmt}{t u:TS}{te:TE}
def ap5:TS:=λD σ H=>D.nx σ H
def av0(t u:TS):TS:=λD σ H=>t { D with nx:=u D } σ H
theorem ai8:lK X [] ap5:=λ_ _ J H _ I h=>wpAny_execs_nil ⟨J,H,I,h⟩
theorem ug(h1:PS X st t)(h2:lK X rest u):lK X (st::rest) (av0 t u):=by
 intro J s g H D I h;refine wpAny_execs_cons (aV (h1 J s g H { D with nx:=u D } I h) λf j q=>?_);cases f with
 |next=>
  obtain⟨U,l,o,q⟩:=q;exact h2 J j U l D o q
 |ret v=>exact q
 |brk=>exact q
 |cont=>exact q
theorem ai6(h1:PS X st t):lK X [st] t:=by intro J s U H D I h;refine wpAny_execs_cons (aV (h1 J s U H D I h) λf g q=>?_);cases f with|next=>exact wpAny_execs_nil q|ret v=>exact q|brk=>exact q|cont=>exact q
def aqi:TS:=λD σ H=>D.ct σ H
theorem t7:PS X (.Continue pos) aqi:=λ_ _ J H _ I h=>wpAny_Continue ⟨J,H,I,h⟩
theorem zd.quiet(I:zd X pins σ H s):interactive X.env=false:=by simp[interactive,I.ok.kind]
def ar2(te:TE):TS:=λD σ H=>te σ H λ_ H1=>D.nx σ H1
theorem aj9(g:PE X e te)(hs:swapsWith e none pos.line X.env=pure false:=by rfl):PS X (.Expr e pos) (ar2 te):=by intro J s U H D I h;exact wpAny_Expr_any (bF (g J s U H _ I h) λv p x j l r o=>⟨U,j,l,o⟩) I.quiet hs
def ava(te:TE):TS:=λD σ H=>te σ H D.rt
theorem am2(g:PE X e te):PS X (.Return (some e) pos) (ava te):=by intro J s U H D I h;exact wpAny_Return_some (bF (g J s U H _ I h) λv r x j l o p=>⟨x,U,j,l,o,p⟩)
def aph:TS:=λD _ H=>D.rt .non H
theorem ai9:PS X (.Return none pos) aph:=λ_ _ J H _ I h=>wpAny_Return_none ⟨.non,J,H,I,rfl,h⟩
def as4(c:TT)(t u:TS):TS:=λD σ H=>c σ H λb H1=>if b=true then t D σ H1 else u D σ H1
theorem apx{a b:List Stmt}(hc:PT X c tc)(p:lK X a t)(r:lK X b u):PS X (.If c a b pos) (as4 tc t u):=by intro J s U H D I h;refine wpAny_If (aV (hc J s U H _ I h) λd g ⟨j,l,o⟩=>?_);cases d with|true=>exact p J g U j D l o|false=>exact r J g U j D l o
end
abbrev TG:=V->St->Hp->(St->Hp->Prop)->Prop
abbrev TGs:=List V->St->Hp->(St->Hp->Prop)->Prop
def PG(X:Cx)(target:Expr)(t:TG):Prop:=
 ∀(pins:List (Addr×Obj)) (s:Shared) (σ:St) (H:Hp) (v:V) (u:Value) (Q:St->Hp->Prop),zd X pins σ H s->j3 v u->t v σ H Q->
  wpAny (model X.prog X.w) X.A (assign target X.env u) (λ_ s'=>∃kt H',zd X pins kt H' s'/\Q kt H') X.xe s
def PGs(X:Cx)(ts:List Expr)(t:TGs):Prop:=
 ∀(pins:List (Addr×Obj)) (s:Shared) (σ:St) (H:Hp) (vs:List V) (us:List Value) (Q:St->Hp->Prop),zd X pins σ H s->zr vs us->t vs σ H Q->
  wpAny (model X.prog X.w) X.A (assignInOrder ((assignEach ts X.env).map (·.2)) us) (λ_ s'=>∃kt H',zd X pins kt H' s'/\Q kt H') X.xe s
abbrev ao5:=V->V->V->Hp->(Hp->Prop)->Prop
def apz(X:Cx)(t:ao5):Prop:=
 ∀(pins:List (Addr×Obj)) (s:Shared) (σ:St) (H:Hp) (o i v:V) (J U u:Value) (Q:Hp->Prop),zd X pins σ H s->j3 o J->j3 i U->j3 v u->t o i v H Q->
  wpAny (model X.prog X.w) X.A (setItem J U u) (λ_ s'=>∃H',zd X pins σ H' s'/\Q H') X.xe s
def fH(i:Nat):TG:=λv σ H Q=>Q (σ.set i (some v)) H
theorem lg(U:X.N.Nodup)(hi:X.N[i]?=some x)(g:Loc X.env.scope x)(j:X.fn x=true\/X.env.scope.names.lookup x=some .local:=by first|exact .inl rfl|exact .inr rfl|assumption):PG X (.Name x pos) (fH i):=by intro J s o H v u Q I r h;exact wpAny_assign_Name (hZ I U hi g r (λp l=>⟨_,H,l,h⟩) j)
def aln:TGs:=λvs σ H Q=>vs=[]/\Q σ H
def tj(t:TG)(u:TGs):TGs:=λvs σ H Q=>∃v r,vs=v::r/\t v σ H λkt H'=>u r kt H' Q
theorem yE:PGs X [] aln:=by intro J s U H g j Q I r h;obtain⟨e,h⟩:=h;subst e;cases r;exact assignInOrder_nil ⟨U,H,I,h⟩
theorem oC{t:TG}{u:TGs}(h1:PG X e t)(h2:PGs X es u)
 (hs:(assignEach (e::es) X.env).map (·.2)=assign e X.env::(assignEach es X.env).map (·.2):=by rfl):PGs X (e::es) (tj t u):=by
 intro J s g H T us Q I r h;obtain⟨v,vr,j,h⟩:=h;subst j;cases r with
 |cons r rr=>
  rw[hs];refine assignInOrder_cons (aV (h1 J s g H _ _ _ I r h) λ_ l ⟨U,o,p,C⟩=>?_);exact h2 J l U o _ _ Q p rr C
def an1(K:Ah)(n:Nat)(t:TGs):TG:=λv σ H Q=>∃a xs,v=.ref a/\cg K H a xs/\xs.length=n/\t xs σ H Q
theorem afa{k:Nat}{t:TGs}(hc:X.calm=true)(h:PGs X es t)
 (l:(assignEach es X.env).length=n:=by rfl) (U:(assignEach es X.env).findIdx? (·.1)=none:=by rfl):PG X (.Tuple es k pos) (an1 X.K n t):=by
 intro J s g H v u Q I r hw;obtain⟨a,p,C,T,hl,hw⟩:=hw;subst C;cases r;obtain⟨a0,j,ht,hz⟩:=I.tuple T;refine assign_Tuple_tuple (I.ok.hd hc) ht (by simp[l,<-hl,j.length]) U λh' hx=>?_;have I1:zd X J g H { s with heap:=h' }:=I.kept (t':=s.toks) λb o e=>hx b o (A2 (sx e)) e;exact h J _ g H p _ Q I1 (by simpa using j) hw
def asn(to ti:TE)(t:ao5):TG:=λv σ H Q=>to σ H λo H1=>ti σ H1 λi H2=>t o i v H2 λJ=>Q σ J
theorem aob{i:Expr}{to ti:TE}{t:ao5}(l:PE X o to)(hi:PE X i ti)(hs:apz X t)
 (p:∀v,assign (.Subscript o i pos) X.env v=(do
  let U <-holding [v] (eval o X.env)
  let g <-holding [v,U] (eval i X.env)
  standAt pos
  holding [v,U,g] (setItem U g v)
  release [v,U,g] []):=by intro _;rfl):PG X (.Subscript o i pos) (asn to ti t):=by
 intro J s j H v u Q I r h;rw[p];refine Aa (AY (bF (l J s j H _ I h) λU C x T I1 r1 q1=>?_));refine Aa (AY (bF (hi J C j T _ I1 q1) λg s2 y H2 I2 r2 q2=>?_));refine Aa (wpAny_standAt (Aa (AY (aV (hs J s2 j H2 x y v U g u _ I2 r1 r2 r q2) λ_ s3 ⟨H3,I3,q3⟩=>?_))));exact wpAny_release ⟨j,H3,I3,q3⟩
def ali(te:TE)(g:TG):TS:=λD σ H=>te σ H λx H1=>g x σ H1 D.nx
theorem acu{te:TE}{g:TG}(j:PE X e te)(l:PG X tg g)(hs:swapsWithSole [tg] e pos.line X.env=pure false:=by rfl)(hw:swappedStores [tg] e X.env=pure none:=by rfl)
 (h1:(assignEach [tg] X.env).map (·.2)=[assign tg X.env]:=by rfl):PS X (.Assign [tg] e pos) (ali te g):=by
 intro J s U H D I h;refine wpAny_Assign_stores (bF (j J s U H _ I h) λv o x p r t C=>?_) hs hw;rw[h1];exact aV (l J o U p x v _ r t C) λ_ T q=>q
theorem an6{te:TE}(U:X.N.Nodup)(hi:X.N[i]?=some x)(g:Loc X.env.scope x)(j:PE X e te)(hs:swapsWith e (some (.Name x hQ)) pos.line X.env=pure false:=by rfl)(l:X.fn x=true\/X.env.scope.names.lookup x=some .local:=by first|exact .inl rfl|exact .inr rfl|assumption):
 PS X (.Assign [.Name x hQ] e pos) (ali te (fH i)):=by
 intro J s o H D I h;refine wpAny_Assign_Name (bF (j J s o H _ I h) λv s1 y p r t C=>?_) hs;exact hZ r U hi g t (λs2 T=>⟨_,p,T,C⟩) l
def avo(i j:Nat)(ta:TA):TS:=λD σ H=>ta σ H λvs H1=>∃v w,vs=[v,w]/\D.nx ((σ.set i (some v)).set j (some w)) H1
theorem ao2{y:Str}{a b:Expr}{ta:TA}{px py pt:Pos}{t k2 U}(hc:X.calm=true)(hN:X.N.Nodup)(hi:X.N[i]?=some x)(hj:X.N[j]?=some y)(C:i≠j)
 (hx:X.env.scope.names.lookup x=some .local) (hy:X.env.scope.names.lookup y=some .local) (ha:PA X [a,b] ta)
 (hw:swappedStores [.Tuple [.Name x px,.Name y py] t pt] (.Tuple [a,b] k2 U) X.env=pure (some [x,y]))
 (hs:swapsWithSole [.Tuple [.Name x px,.Name y py] t pt] (.Tuple [a,b] k2 U) pos.line X.env=pure false:=by rfl):
 PS X (.Assign [.Tuple [.Name x px,.Name y py] t pt] (.Tuple [a,b] k2 U) pos) (avo i j ta):=by
 intro J s σ H D I h;rw[exec_Assign_arm];refine Aa (wpAny_standAt ?_);rw[hs];refine Aa (Ai ?_);rw[AG (by decide)];refine Aa (Tuple_ (ab5 (ha _ J s σ H _ I h) λus g vs H1 I1 r1 T=>?_));obtain⟨v,w,e1,T⟩:=T;subst e1;obtain⟨l,r,rfl,rv,a0⟩:∃l r,us=[l,r]/\j3 v l/\j3 w r:=by
  cases r1 with
  |cons p q=>
   cases q with
   |cons p' q'=>
    cases q';exact⟨_,_,rfl,p,p'⟩
 refine Bo ?_ (by show 2<=sizeLine;decide);have I2:zd X J σ H1 { g with heap:=g.heap.push { cls:=.type "tuple",data:=.seq [l,r].toArray } }:=I1.kept (t':=g.toks) λb o e=>r4 _ e;rw[hw];refine Aa (Ai ?_);show wpAny (model X.prog X.w) X.A (do rule "assign.swapped-stores";let items <-unpackItems (.ref g.heap.objs.size) 2 none;assignInOrder [λv=>bindName X.env y v,λv=>bindName X.env x v] items.reverse;pure Flow.next) _ _ _;refine Aa (BK (Aa (unpackItems_tuple (items:=#[l,r]) (I.ok.hd hc) (IsTup.new g.heap _) λh' a1=>?_)));have I3:=I2.kept (h':=h') (t':=g.toks) λb o e=>a1 b o (A2 (sx e)) e;show wpAny _ _ (assignInOrder [λv=>bindName X.env y v,λv=>bindName X.env x v] [r,l] >>= λ_=>pure Flow.next) _ _ _;refine Aa (assignInOrder_cons (wpAny_bindName (hZ I3 hN hj (.inl hy) a0 (λs2 I4=>?_) (.inr hy))));refine assignInOrder_cons (wpAny_bindName (hZ I4 hN hi (.inl hx) rv (λs3 I5=>assignInOrder_nil (Ai ?_)) (.inr hx)));rw[List.set_comm _ _ (AI C)] at I5;exact⟨_,H1,I5,T⟩
def alj(c:TT)(tb:TS):TS:=λD σ H=>∃W:Nat->St->Hp->Prop,(∃m,W m σ H)/\∀m σ H,W m σ H->
 c σ H λb H1=>if b=true then ∃N:St->Hp->Prop,(∀kt H',N kt H'->∃J,J<m/\W J kt H')/\tb { D with nx:=N,ct:=N,bk:=D.nx } σ H1 else D.nx σ H1
theorem ad8{tb:TS}(hp:PassesOwn (model X.prog X.w) X.A X.env X.xe)(hc:PT X c tc)(hb:lK X body tb):PS X (.While c body [] pos) (alj tc tb):=by
 intro J s σ H D I h;obtain⟨W,⟨m0,w0⟩,turn⟩:=h;refine wpAny_While (codeAny_whileLoop (λn s'=>∃j H',zd X J j H' s'/\W n j H') ?_ m0 ⟨σ,H,I,w0⟩);rintro n s1 ⟨g,H1,I1,w1⟩;refine wpAny_passesOwn hp (aV (hc J s1 g H1 _ I1 (turn n g H1 w1)) λb s2 ⟨H2,I2,o⟩=>?_);cases b with
 |true=>
  obtain⟨N,hN,o⟩:=o;rw[AF rfl];refine wpAny_passesOwn hp (aV (hb J s2 g H2 _ I2 o) λf s3 p=>?_);cases f with
  |next=>
   obtain⟨U,l,r,t⟩:=p;obtain⟨C,T,w3⟩:=hN U l t;exact⟨C,T,U,l,r,w3⟩
  |cont=>
   obtain⟨U,l,r,t⟩:=p;obtain⟨C,T,w3⟩:=hN U l t;exact⟨C,T,U,l,r,w3⟩
  |brk=>exact p
  |ret v=>exact p
 |false=>
  rw[AG AC];exact wpAny_execs_nil ⟨g,H2,I2,o⟩
structure It where
 go:Nat->Hp->Prop
 yld:Nat->Hp->V->Hp->Prop
 stop:Nat->Hp->Prop
def lJ(X:Cx)(pins:List (Addr×Obj))(H:Hp)(b:Addr):Prop:=
 H b=none/\b≠X.env.locals/\b∉X.fs/\(b∈X.ex\/X.s₀.heap.objs.size<=b)/\(∀x c,X.env.cells.lookup x=some c->c≠b)/\∀p∈X.pn++pins,p.1≠b
theorem zd.fpOk(I:zd X pins σ H s)(J:s.heap.objs.size<=b)(U:H' b=none):lJ X pins H' b:=by
 refine⟨U,Cz (AO I.lt J),I.nofs J,.inr (AU I.sz J),λx c e z=>?_,λp g z=>?_⟩
 ·obtain⟨v,q⟩:=I.cell x c e;exact absurd (AO q.lt (by rw[z];exact J)) (Cu _)
 ·exact absurd (AO (sx (I.pin p g).1) (by rw[z];exact J)) (Cu _)
structure xR(P:Program)(w:World)(K:Ah)(tg:Expr)(J:It)(fp:List Addr)(it:Addr)(tn:Nat->Heap->Prop):Prop where
 mem:it∈fp
 obj:∀i h,tn i h->∀b∈fp,∃o,h.get? b=some o/\∀v,o.data≠.cell v
 keep:∀i h h',tn i h->(∀b∈fp,∀o,h.get? b=some o->h'.get? b=some o)->tn i h'
 item:∀(X:Cx),X.prog=P->X.w=w->X.K=K->X.calm=true->∀(i:Nat) (pins:List (Addr×Obj)) (s:Shared) (σ:St) (H:Hp) (E:Value->Shared->Prop),zd X pins σ H s->(∀b∈fp,lJ X pins H b)->tn i s.heap->J.go i H->
  wpAny (model P w) X.A (pyNext (.ref it)) (λr s1=>∃u,r=some u/\
   wpAny (model P w) X.A (letOwnedTupleGo tg (.ref it) u) (λ_ s2=>∃x H',zd X pins σ H' s2/\j3 x u/\J.yld i H x H'/\tn (i+1) s2.heap/\∀b∈fp,H' b=none) E s1) E s
 done:∀(X:Cx),X.prog=P->X.w=w->X.K=K->X.calm=true->∀(i:Nat) (pins:List (Addr×Obj)) (s:Shared) (σ:St) (H:Hp) (E:Value->Shared->Prop),zd X pins σ H s->(∀b∈fp,lJ X pins H b)->tn i s.heap->J.stop i H->
  wpAny (model P w) X.A (pyNext (.ref it)) (λr s1=>r=none/\zd X pins σ H s1) E s
 self:∀(A:Around) (i:Nat) (s:Shared) (Q:Value->Shared->Prop) (E:Value->Shared->Prop),tn i s.heap->Q (.ref it) s->wpAny (model P w) A (pyIter (.ref it)) Q E s
abbrev TI:=St->Hp->(It->Hp->Prop)->Prop
def PIE(X:Cx)(pins:List (Addr×Obj))(σ:St)(tg:Expr)(R:It->Hp->Prop)(U:Value)(g:Shared):Prop:=
 ∃(it:Addr) (fp:List Addr) (j:Nat->Heap->Prop) (J:It) (H':Hp),U=.ref it/\zd X pins σ H' g/\xR X.prog X.w X.K tg J fp it j/\j 0 g.heap/\(∀b∈fp,lJ X pins H' b)/\R J H'
def PI(X:Cx)(tg iter:Expr)(wi:TI):Prop:=
 ∀(pins:List (Addr×Obj)) (s:Shared) (σ:St) (H:Hp) (R:It->Hp->Prop),zd X pins σ H s->wi σ H R->
  wpAny (model X.prog X.w) X.A (eval iter X.env) (λv J=>wpAny (model X.prog X.w) X.A (pyIter v) (PIE X pins σ tg R) X.xe J) X.xe s
theorem sd{o:Obj}{n:String}{vs:Array Value}{Q:Unit->Shared->Prop}(U:s.heap.get? it=some o)(hc:o.cls=.type n)(hd:o.data=.fields vs)
 (g:["enumerate","zip","dict_itemiterator","dict_reverseitemiterator","odict_iterator","itertools.zip_longest","itertools.pairwise"].contains n=false) (J:Q () s):wpAny M A (letOwnedTupleGo tg (.ref it) u) Q E s:=by
 unfold letOwnedTupleGo;cases tg<;>first
  |exact Ai J
  |(cases u<;>first
   |exact Ai J
   |(refine Aa (wpAny_load U ?_)
     rw[hc,hd];show wpAny M A (if (["enumerate","zip","dict_itemiterator","dict_reverseitemiterator","odict_iterator","itertools.zip_longest","itertools.pairwise"].contains n&&vs[0]?==some (rawInt _))=true then _ else _) Q E s;rw[AG (by intro h;rw[g,Bool.false_and] at h;cases h)];exact Ai J))
def Itl(K:Ah)(a:Addr):It:=
 ⟨λi H=>∃xs x,aQ K H a xs/\xs[i]?=some x,λi H x H'=>H'=H/\∀xs,aQ K H a xs->xs[i]?=some x,λi H=>∃xs,aQ K H a xs/\xs.length<=i⟩
def Itt(K:Ah)(a:Addr):It:=
 ⟨λi H=>∃xs x,cg K H a xs/\xs[i]?=some x,λi H x H'=>H'=H/\∀xs,cg K H a xs->xs[i]?=some x,λi H=>∃xs,cg K H a xs/\xs.length<=i⟩
def Itr(lo:Int)(n:Nat):It:=⟨λi _=>i<n,λi H x H'=>H'=H/\x=.int (lo+i),λi _=>n<=i⟩
theorem aaq{P:Program}{w:World}{K:Ah}(a it:Addr):xR P w K tg (Itl K a) [it] it (λi h=>h.IsListIter it a i) where
 mem:=by simp
 obj:=λi h st b U=>by
  have e:b=it:=by simpa using U
  subst e;obtain⟨o,e,c,d⟩:=st;exact⟨o,e,λv z=>by rw[d] at z;cases z⟩
 keep:=λi h j st k=>st.at λo e=>k it (by simp) o e
 item:=by intro X t hw C hc i J s σ H E I l st T;subst t hw C;obtain⟨xs,x,r,hx⟩:=T;obtain⟨a0,rv,p,hz⟩:=I.list r;obtain⟨u,hu,ru⟩:=rv.get hx;obtain⟨f0,f1,f2,f3,f4,f5⟩:=l it (by simp);refine wpAny_pyNext_list_item st p.isList (x:=u) (by simpa using hu) λj g sb=>?_;have I1:zd X J σ H { s with heap:=j }:=I.turned (t':=s.toks) (λb o U e=>(sb.2 b U).trans e) f0 f1 f3 f4 f5;obtain⟨o,e,c,d⟩:=id g;exact⟨u,rfl,sd (s:={ s with heap:=j }) e c d (by decide) ⟨x,H,I1,ru,⟨rfl,λys hy=>by rw[I.list_inj hy r];exact hx⟩,g,λb U=>(l b U).1⟩⟩
 done:=by intro X t hw C hc i J s σ H E I l st T;subst t hw C;obtain⟨xs,r,hx⟩:=T;obtain⟨a0,rv,p,hz⟩:=I.list r;obtain⟨f0,f1,f2,f3,f4,f5⟩:=l it (by simp);have hl:=rv.length;exact wpAny_pyNext_list_end (I.ok.hd hc) st p.isList (by simp;lia) λj eb=>⟨rfl,I.turned (t':=s.toks) (λb o U e=>eb b o U e) f0 f1 f3 f4 f5⟩
 self:=λ_ _ _ _ _ st h=>wpAny_pyIter_listiter st h
theorem wY{P:Program}{w:World}{K:Ah}(a it:Addr):xR P w K tg (Itt K a) [it] it (λi h=>h.IsTupleIter it a i) where
 mem:=by simp
 obj:=λi h st b U=>by
  have e:b=it:=by simpa using U
  subst e;obtain⟨o,e,c,d⟩:=st;exact⟨o,e,λv z=>by rw[d] at z;cases z⟩
 keep:=λi h l st k=>st.at λo e=>k it (by simp) o e
 item:=by intro X C hw T hc i J s σ H E I r st hg;subst C hw T;obtain⟨xs,x,t,hx⟩:=hg;obtain⟨g,rv,p,hz⟩:=I.tuple t;obtain⟨u,hu,ru⟩:=rv.get hx;obtain⟨f0,f1,f2,f3,f4,f5⟩:=r it (by simp);refine wpAny_pyNext_tuple_item st (show s.heap.IsTuple a g.toArray from p) (x:=u) (by simpa using hu) λl j sb=>?_;have I1:zd X J σ H { s with heap:=l }:=I.turned (t':=s.toks) (λb o U e=>(sb.2 b U).trans e) f0 f1 f3 f4 f5;obtain⟨o,e,c,d⟩:=id j;exact⟨u,rfl,sd (s:={ s with heap:=l }) e c d (by decide) ⟨x,H,I1,ru,⟨rfl,λys hy=>by rw[I.tuple_inj hy t];exact hx⟩,j,λb U=>(r b U).1⟩⟩
 done:=by intro X C hw T hc i J s σ H E I r st hg;subst C hw T;obtain⟨xs,t,hx⟩:=hg;obtain⟨g,rv,p,hz⟩:=I.tuple t;obtain⟨f0,f1,f2,f3,f4,f5⟩:=r it (by simp);have hl:=rv.length;exact wpAny_pyNext_tuple_end (I.ok.hd hc) st (show s.heap.IsTuple a g.toArray from p) (by simp;lia) λl eb=>⟨rfl,I.turned (t':=s.toks) (λb o U e=>eb b o U e) f0 f1 f3 f4 f5⟩
 self:=λ_ _ _ _ _ st h=>wpAny_pyIter_tupleiter st h
theorem vT{P:Program}{w:World}{K:Ah}(it:Addr)(lo:Int)(n:Nat):xR P w K tg (Itr lo n) [it] it (λi h=>IsRangeIter h it (lo+(i:Nat)*1) ((n:Int)-(i:Nat)) 1) where
 mem:=by simp
 obj:=λi h st b U=>by
  have e:b=it:=by simpa using U
  subst e;exact⟨_,st,λv z=>by have z':Data.fields _=Data.cell v:=z;cases z'⟩
 keep:=λi h j st k=>k it (by simp) _ st
 item:=by intro X p hw r C i J s σ H E I l st T;subst p hw r;obtain⟨f0,f1,f2,f3,f4,f5⟩:=l it (by simp);have W:=Walks.range (prog:=X.prog) (w:=X.w) (I.ok.hd C) it lo 1 n;refine xg I.tk (W.item i s _ _ T st λv j tk hv g kk ht=>?_);obtain⟨t,rfl⟩:=hv;have I1:zd X J σ H { s with heap:=j,toks:=tk }:=I.turned (λb o U e=>kk b o (by simpa using U) e) f0 f1 f3 f4 f5;refine⟨_,rfl,sd (s:={ s with heap:=j,toks:=tk }) (n:="range_iterator") g rfl rfl (by decide) ⟨.int (lo+i),H,I1,⟨t,?_⟩,⟨rfl,rfl⟩,g,λb U=>(l b U).1⟩⟩;rw[Int.mul_one]
 done:=by intro X p hw r C i J s σ H E I l st T;subst p hw r;obtain⟨f0,f1,f2,f3,f4,f5⟩:=l it (by simp);exact wpAny_pyNext_range_end (I.ok.hd C) st (by have:n<=i:=T;lia) λj eb=>⟨rfl,I.turned (t':=s.toks) (λb o U e=>eb b o U e) f0 f1 f3 f4 f5⟩
 self:=λ_ _ _ _ _ st h=>wpAny_pyIter_rangeiter st h
end L2
variable {wi:L2.TI}
namespace L2
open PySem PySem.Spec PyProof.Rows
def aq1(K:Ah)(tl:TE):TI:=λσ H R=>tl σ H λx H1=>∃a,x=.ref a/\(∃xs,aQ K H1 a xs)/\R (Itl K a) H1
def asd(K:Ah)(tl:TE):TI:=λσ H R=>tl σ H λx H1=>∃a,x=.ref a/\(∃xs,cg K H1 a xs)/\R (Itt K a) H1
theorem aih{l:Expr}{tl:TE}(j:PE X l tl):PI X tg l (aq1 X.K tl):=by
 intro J s r H R I h;refine bF (j J s r H _ I h) λv U x t g C T=>?_;obtain⟨a,e,⟨xs,hq⟩,q⟩:=T;subst e;cases C;obtain⟨a0,rv,p,hz⟩:=g.list hq;refine wpAny_pyIter_list p.isList ?_;refine⟨U.heap.objs.size,[U.heap.objs.size],_,_,t,rfl,g.kept (t':=U.toks) λb o e=>r4 _ e,aaq a _,⟨_,sy _ rfl,rfl,rfl⟩,λb hb=>?_,q⟩;have e:b=U.heap.objs.size:=by simpa using hb
 subst e;exact g.fpOk (Al _) (g.hok.fresh (Al _))
theorem ale{l:Expr}{tl:TE}(r:PE X l tl):PI X tg l (asd X.K tl):=by
 intro J s t H R I h;refine bF (r J s t H _ I h) λv U x C g T q1=>?_;obtain⟨a,e,⟨xs,hq⟩,q⟩:=q1;subst e;cases T;obtain⟨j,rv,p,hz⟩:=g.tuple hq;refine wpAny_pyIter_tuple (show U.heap.IsTuple a j.toArray from p) ?_;refine⟨U.heap.objs.size,[U.heap.objs.size],_,_,C,rfl,g.kept (t':=U.toks) λb o e=>r4 _ e,wY a _,⟨_,sy _ rfl,rfl,rfl⟩,λb hb=>?_,q⟩;have e:b=U.heap.objs.size:=by simpa using hb
 subst e;exact g.fpOk (Al _) (g.hok.fresh (Al _))
theorem af5{R:It->Hp->Prop}{hi:Int}{t u v:Tok}{tk:Nat}(I:zd X pins σ H s)(h1 : -(2 ^ 62)<=lo)(h2:lo<2 ^ 62)(U : -(2 ^ 62)<=hi)(g:hi<2 ^ 62)
 (q:R (Itr lo (hi-lo).toNat) H) (r:0<tk:=by walk_at "t"):wpAny (model X.prog X.w) X.A (pyIter (.ref s.heap.objs.size)) (PIE X pins σ tg R) E { s with heap:=s.heap.push { cls:=.type "range",data:=.fields #[.int lo t,.int hi u,.int 1 v] },toks:=tk }:=by
 refine wpAny_pyIter_range (IsRange.new ..) (small_one h1 h2 U g) ?_;have J:zd X pins σ H { s with heap:=s.heap.push { cls:=.type "range",data:=.fields #[.int lo t,.int hi u,.int 1 v] },toks:=tk }:=I.kept λb o e=>r4 _ e;refine⟨(s.heap.push { cls:=.type "range",data:=.fields #[.int lo t,.int hi u,.int 1 v] }).objs.size,[(s.heap.push { cls:=.type "range",data:=.fields #[.int lo t,.int hi u,.int 1 v] }).objs.size],_,_,H,rfl,
  J.kept (t':=tk) λb o e=>r4 _ e,vT _ lo (hi-lo).toNat,?_,λb j=>?_,q⟩
 ·have l:lo+((0:Nat):Int)*1=lo:=by simp
  have p:(((hi-lo).toNat:Nat):Int)-((0:Nat):Int)=Builtin.Range.rangeSize lo hi 1:=by rw[rangeSize_one];split<;>lia
  show IsRangeIter _ _ (lo+((0:Nat):Int)*1) ((((hi-lo).toNat:Nat):Int)-((0:Nat):Int)) 1;rw[l,p];exact sy _ rfl
 ·have e:b=(s.heap.push { cls:=.type "range",data:=.fields #[.int lo t,.int hi u,.int 1 v] }).objs.size:=by simpa using j
  subst e;exact J.fpOk (Al _) (J.hok.fresh (Al _))
def aq7(ta:TA):TI:=λσ H R=>ta σ H λvs H1=>∃j:Int,vs=[.int j] /\ -(2 ^ 62)<=j/\j<2 ^ 62/\R (Itr 0 j.toNat) H1
theorem aat{a:Expr}{ta:TA}(g:Gl X "range")(l:X.mg "range"=none)(o:PA X [a] ta)(hs:starEach [a] X.env=[(false,eval a X.env)]:=by rfl):PI X tg (.Call (.Name "range" p) [a] [] pos) (aq7 ta):=by
 intro J s C H R I h;refine Call_ (bw I g l boot_range (BE (ab5 (o pos J s C H _ I h) λus s1 vs H1 T r1 U=>?_) hs rfl));obtain⟨j,e,U,q2,q⟩:=U;subst e;cases r1 with
 |cons r rr=>
  cases rr;obtain⟨t,rfl⟩:=r;exact call_range_1 (af5 T (by lia) (by lia) U q2 (by simpa using q))
def aw2(wi:TI)(g:TG)(tb:TS):TS:=λD σ H=>wi σ H λJ H1=>∃W:Nat->Nat->St->Hp->Prop,(∃m,W 0 m σ H1)/\∀i m σ H,W i m σ H->
 (J.stop i H/\D.nx σ H)\/(J.go i H/\∃N:St->Hp->Prop,(∀kt H',N kt H'->∃j,j<m/\W (i+1) j kt H')/\∀x H',J.yld i H x H'->g x σ H' λU H2=>tb { D with nx:=N,ct:=N,bk:=D.nx } U H2)
def oE(fp:List Addr)(h:Heap):List (Addr×Obj):=fp.filterMap λb=>(h.get? b).map λo=>(b,o)
theorem cx{o:Obj}(J:b∈fp)(e:h.get? b=some o):(b,o)∈oE fp h:=Df.mpr ⟨b,J,by rw[e];rfl⟩
theorem zN{p:Addr×Obj}(J:p∈oE fp h):p.1∈fp/\h.get? p.1=some p.2:=by
 obtain⟨b,U,e⟩:=Df.mp J;cases q:h.get? b with
 |none=>rw[q] at e;cases e
 |some o=>
  rw[q] at e;have g:(b,o)=p:=AN e;subst g;exact⟨U,q⟩
theorem zd.pinned(I:zd X pins σ H s)(g:∀b∈fp,lJ X pins H b)(j:∀b∈fp,∃o,s.heap.get? b=some o/\∀v,o.data≠.cell v):zd X (pins++oE fp s.heap) σ H s:=
 I.pins_of λp l=>(Ap.mp l).elim (λz=>I.pin p (Ae _ z)) λz=>by obtain⟨J,e⟩:=zN z;obtain⟨r,f1,f2,_⟩:=g p.1 J;obtain⟨o,U,d⟩:=j p.1 J;rw[e] at U;cases U;exact⟨e,r,f1,f2,d⟩
theorem zd.unpinned{pl:List (Addr×Obj)}(I:zd X (pins++pl) σ H s):zd X pins σ H s:=I.pins_of λp J=>I.pin p (Ae _ (Ar _ J))
theorem alg{iter:Expr}{g:TG}{tb:TS}(hp:PassesOwn (model X.prog X.w) X.A X.env X.xe)(hc:X.calm=true)(hi:PI X tg iter wi)(hg:PG X tg g)(l:lK X body tb)
 (hs:∀x,foldedSetIterable iter X.env x=pure x:=by intro _;rfl):PS X (.For tg iter body [] pos) (aw2 wi g tb):=by
 intro U s σ H D I h;refine wpAny_For (aV (hi U s σ H _ I h) λv s1 h1=>aV h1 λal s2 h2=>?_) hs;obtain⟨it,fp,tn,J,H2,e,I2,T,a3,f2,W,⟨m0,w0⟩,turn⟩:=h2;subst e;have p:∀{H':Hp},(∀b∈fp,H' b=none)->∀b∈fp,lJ X U H' b:=λhn b l=>⟨hn b l,(f2 b l).2⟩;refine codeAny_forLoop_any (λn s'=>∃i t H',zd X U t H' s'/\tn i s'.heap/\(∀b∈fp,H' b=none)/\W i n t H') ?_ m0 ⟨0,σ,H2,I2,a3,λb l=>(f2 b l).1,w0⟩;rintro n s3 ⟨i,C,H3,I3,a1,a2,w3⟩;rcases turn i n C H3 w3 with⟨stop,qn⟩|⟨go,N,hN,step⟩
 ·refine wpAny_passesOwn hp (aV (T.done X rfl rfl rfl hc i U s3 C H3 X.xe I3 (p a2) a1 stop) λr s4 ⟨hr,I4⟩=>?_);subst hr;exact wpAny_execs_nil ⟨C,H3,I4,qn⟩
 ·refine wpAny_passesOwn hp (aV (T.item X rfl rfl rfl hc i U s3 C H3 X.xe I3 (p a2) a1 go) λr s4 ⟨u,hr,h4⟩=>?_);subst hr;refine wpAny_passesOwn hp (aV h4 λ_ s5 ⟨x,H5,I5,r5,y5,a0,a4⟩=>?_);have a5:=I5.pinned (p a4) (T.obj _ _ a0);refine wpAny_passesOwn hp (aV (hg _ s5 C H5 x u _ a5 r5 (step x H5 y5)) λ_ s6 ⟨ag,H6,I6,q6⟩=>?_);refine wpAny_passesOwn hp (aV (l _ s6 ag H6 _ I6 q6) λf s7 q7=>?_);have again:∀{j:St} {H7:Hp},zd X (U++oE fp s5.heap) j H7 s7->N j H7->∃m,m<n/\∃i t H',zd X U t H' s7/\tn i s7.heap/\(∀b∈fp,H' b=none)/\W i m t H':=λ{j H7} I7 n7=>by obtain⟨m',hm,w7⟩:=hN j H7 n7;refine⟨m',hm,i+1,j,H7,I7.unpinned,T.keep _ _ _ a0 λb l o e=>(I7.pin (b,o) (Ae _ (Ae _ (cx l e)))).1,λb l=>?_,w7⟩;obtain⟨o,e,d⟩:=T.obj _ _ a0 b l;exact(I7.pin (b,o) (Ae _ (Ae _ (cx l e)))).2.1
  cases f with
  |next=>obtain⟨j,H7,I7,n7⟩:=q7;exact again I7 n7
  |cont=>obtain⟨j,H7,I7,n7⟩:=q7;exact again I7 n7
  |brk=>obtain⟨j,H7,I7,q7⟩:=q7;exact⟨j,H7,I7.unpinned,q7⟩
  |ret v=>obtain⟨x7,j,H7,I7,r7,q7⟩:=q7;exact⟨x7,j,H7,I7.unpinned,r7,q7⟩
abbrev R2:=V->V->Hp->VK->Prop
def kw(X:Cx)(f:Value->Value->Sem Value)(r:R2):Prop:=
 ∀(pins:List (Addr×Obj)) (s:Shared) (σ:St) (H:Hp) (x y:V) (v u:Value) (Q:VK),zd X pins σ H s->j3 x v->j3 y u->r x y H Q->
  wpAny (model X.prog X.w) X.A (f v u) (EP X pins σ Q) X.xe s
def UnR(X:Cx)(f:Value->Sem Value)(r:V->Hp->VK->Prop):Prop:=
 ∀(pins:List (Addr×Obj)) (s:Shared) (σ:St) (H:Hp) (x:V) (v:Value) (Q:VK),zd X pins σ H s->j3 x v->r x H Q->
  wpAny (model X.prog X.w) X.A (f v) (EP X pins σ Q) X.xe s
def xf(X:Cx)(f:Value)(r:List V->Hp->VK->Prop):Prop:=
 ∀(pins:List (Addr×Obj)) (s:Shared) (σ:St) (H:Hp) (xs:List V) (us:List Value) (Q:VK),zd X pins σ H s->zr xs us->r xs H Q->
  wpAny (model X.prog X.w) X.A (call f us) (EP X pins σ Q) X.xe s
def tOp(r:R2)(ta tb:TE):TE:=λσ H Q=>ta σ H λx H1=>tb σ H1 λy H2=>r x y H2 Q
def tUn(r:V->Hp->VK->Prop)(ta:TE):TE:=λσ H Q=>ta σ H λx H1=>r x H1 Q
def rI(C:Int->Int->Prop)(g:Int->Int->V):R2:=λx y H Q=>∃i j,x=.int i/\y=.int j/\C i j/\Q (g i j) H
def rI0(g:Int->Int->V):R2:=λx y H Q=>∃i j,x=.int i/\y=.int j/\Q (g i j) H
def rU(g:Int->V):V->Hp->VK->Prop:=λx H Q=>∃i,x=.int i/\Q (g i) H
section
variable {a b:Expr}{tb tc:TE}
theorem alc(j:PE X a ta)(l:PE X b tb){R:V->V->Hp->Prop}(I:zd X pins σ H s)
 (h:ta σ H λx H1=>tb σ H1 λy H2=>R x y H2) {f:Value->Value->Sem Value}
 (o:∀v u g x y H2,zd X pins σ H2 g->j3 x v->j3 y u->R x y H2->wpAny (model X.prog X.w) X.A (f v u) Q X.xe g):
 wpAny (model X.prog X.w) X.A (eval a X.env) (λv J=>wpAny (model X.prog X.w) X.A (eval b X.env) (λu U=>wpAny (model X.prog X.w) X.A (f v u) Q X.xe U) X.xe J) X.xe s:=by
 refine bF (j pins s σ H _ I h) λv p x H1 r t C=>?_;refine bF (l pins p σ H1 _ r C) λu g y H2 T r2 q2=>?_;exact o v u g x y H2 T t r2 q2
theorem aqh{op:Operator}{r:R2}(U:kw X (binaryOp op) r)(g:PE X a ta)(j:PE X b tb):PE X (.BinOp a op b pos) (tOp r ta tb):=by intro J s l H Q I h;exact wpAny_BinOp (alc g j I h λv u o x y p t C T q=>U J o l p x y v u Q t C T q)
theorem aqv{op:UnaryOp}{r:V->Hp->VK->Prop}(g:UnR X (unaryOp op) r)(j:PE X a ta):PE X (.UnaryOp op a pos) (tUn r ta):=by intro J s U H Q I h;exact UnaryOp_ (bF (j J s U H _ I h) λv l x o p t C=>g J l U o x v Q p t C)
theorem opI{f:Value->Value->Sem Value}{C:Int->Int->Prop}{g:Int->Int->Int}
 (rule:∀(i j:Int) (t u:Tok) (s:Shared) (Q:Value->Shared->Prop) (E:Value->Shared->Prop),C i j->Q (.int (g i j) s.toks) { s with toks:=s.toks+1 }->wpAny (model X.prog X.w) X.A (f (.int i t) (.int j u)) Q E s):
 kw X f (rI C λi j=>.int (g i j)):=by
 intro J s r H x y v u Q I U l h;obtain⟨i,j,rfl,rfl,o,q⟩:=h;obtain⟨t,rfl⟩:=U;obtain⟨p,rfl⟩:=l;exact rule i j t p s _ _ o ⟨.int (g i j),H,I.tok _,⟨_,rfl⟩,q⟩
theorem ape{f:Value->Value->Sem Value}{g:Int->Int->Int}
 (rule:∀(i j:Int) (t u:Tok) (s:Shared) (Q:Value->Shared->Prop) (E:Value->Shared->Prop),Q (.int (g i j) s.toks) { s with toks:=s.toks+1 }->wpAny (model X.prog X.w) X.A (f (.int i t) (.int j u)) Q E s):
 kw X f (rI0 λi j=>.int (g i j)):=by
 intro J s p H x y v u Q I U l h;obtain⟨i,j,rfl,rfl,q⟩:=h;obtain⟨t,rfl⟩:=U;obtain⟨o,rfl⟩:=l;exact rule i j t o s _ _ ⟨.int (g i j),H,I.tok _,⟨_,rfl⟩,q⟩
theorem ai7{f:Value->Value->Sem Value}{g:Int->Int->Bool}
 (rule:∀(i j:Int) (t u:Tok) (s:Shared) (Q:Value->Shared->Prop) (E:Value->Shared->Prop),Q (.bool (g i j)) s->wpAny (model X.prog X.w) X.A (f (.int i t) (.int j u)) Q E s):
 kw X f (rI0 λi j=>.bl (g i j)):=by
 intro J s p H x y v u Q I U l h;obtain⟨i,j,rfl,rfl,q⟩:=h;obtain⟨t,rfl⟩:=U;obtain⟨o,rfl⟩:=l;exact rule i j t o s _ _ ⟨.bl (g i j),H,I,rfl,q⟩
def amw(i j:Int):Prop:=0<j/\j<1073741824
def am7(i j:Int):Prop:=0<=j/\j<=1000000/\i.natAbs<2 ^ 64
def ada(i j:Int):Prop:=(-(2 ^ 64)<i/\i<2 ^ 64)\/(-(2 ^ 64)<j/\j<2 ^ 64)
theorem ada.ok{i j:Int}(h:ada i j):IntMulOk i j:=by
 rcases h with⟨J,U⟩|⟨J,U⟩
 ·exact .of_left (intBits_le_64 J U)
 ·exact .of_right (intBits_le_64 J U)
theorem ald:kw X (binaryOp .Add) (rI0 λi j=>.int (i+j)):=ape λ_ _ _ _ _ _ _ q=>add_int q
theorem anz:kw X (binaryOp .Sub) (rI0 λi j=>.int (i-j)):=ape λ_ _ _ _ _ _ _ q=>sub_int q
theorem amt:kw X (binaryOp .Mult) (rI ada λi j=>.int (i*j)):=opI λ_ _ _ _ _ _ _ J q=>mul_int q J.ok
theorem ahy:kw X (binaryOp .FloorDiv) (rI amw λi j=>.int (i / j)):=opI λi j _ _ _ _ _ J q=>by have U:(0:Int)<j:=J.1;have g:j<1073741824:=J.2;exact floordiv_int (by lia) (by rw[Int.fdiv_eq_ediv_of_nonneg i (by lia)];exact q) (.inl (PyProof.noPylong_small (by lia)))
theorem amk:kw X (binaryOp .Mod) (rI (λ_ j=>0<j) λi j=>.int (i % j)):=opI λi j _ _ _ _ _ J q=>by have U:(0:Int)<j:=J;exact mod_int' (by lia) (by rw[Int.fmod_eq_emod_of_nonneg i (by lia)];exact q)
theorem al5:kw X (binaryOp .Pow) (rI am7 λi j=>.int (i ^ j.toNat)):=opI λ_ _ _ _ _ _ _ J q=>pow_int_small J.1 J.2.1 J.2.2 q
theorem unI{f:Value->Sem Value}{g:Int->Int}
 (rule:∀(i:Int) (t:Tok) (s:Shared) (Q:Value->Shared->Prop) (E:Value->Shared->Prop),Q (.int (g i) s.toks) { s with toks:=s.toks+1 }->wpAny (model X.prog X.w) X.A (f (.int i t)) Q E s):
 UnR X f (rU λi=>.int (g i)):=by
 intro J s j H x v Q I U h;obtain⟨i,rfl,q⟩:=h;obtain⟨t,rfl⟩:=U;exact rule i t s _ _ ⟨.int (g i),H,I.tok _,⟨_,rfl⟩,q⟩
theorem anh:UnR X (unaryOp .USub) (rU λi=>.int (-i)):=unI λ_ _ _ _ _ q=>neg_int q
end
def agt:V->V->Bool
 |.non,.non=>true|.non,.int _=>true|.int _,.non=>true|.non,.bl _=>true|.bl _,.non=>true|.non,.str _=>true|.str _,.non=>true
 |.int _,.int _=>true|.bl _,.bl _=>true|.str _,.str _=>true|.byt _,.byt _=>true
 |.int _,.str _=>true|.str _,.int _=>true|.bl _,.str _=>true|.str _,.bl _=>true
 |_,_=>false
def rEq:R2:=λx y H Q=>agt x y=true/\Q (.bl (decide (x=y))) H
def rNe:R2:=λx y H Q=>agt x y=true/\Q (.bl (!decide (x=y))) H
theorem ye{i j:Int}:decide (V.int i=V.int j)=(i==j):=by rw[BA];simp
theorem afo{i j:Bool}:decide (V.bl i=V.bl j)=(i==j):=by rw[BA];simp
theorem yN{i j:Str}:decide (V.str i=V.str j)=(i==j):=by rw[BA];simp
theorem yf{i j:Array UInt8}:decide (V.byt i=V.byt j)=(i.toList==j.toList):=by rw[BA];cases i;cases j;simp
section
variable {a b:Expr}{tb tc:TE}
theorem jz{Q:VK}{k J:Bool}(I:zd X pins σ H s)(q:Q (.bl k) H)(e:k=J):EP X pins σ Q (.bool J) s:=by subst e;exact⟨.bl k,H,I,rfl,q⟩
theorem ake:kw X (compareOp .Eq) rEq:=by
 intro o s p H x y v u Q I l J h;obtain⟨g,q⟩:=h;cases x with
 |non=>
  cases l;cases y with
  |non=>cases J;exact PySem.EqNone.eq_none_none (jz I q (by simp))
  |bl j=>cases J;exact PySem.EqNone.eq_none_bool (jz I q (by simp))
  |int j=>obtain⟨U,rfl⟩:=J;exact PySem.EqNone.eq_none_int (jz I q (by simp))
  |str j=>obtain⟨U,rfl⟩:=J;exact PySem.EqNone.eq_none_str (jz I q (by simp))
  |_=>exact absurd (show false=true from g) AC
 |bl i=>
  cases l;cases y with
  |non=>cases J;exact PySem.EqNone.eq_bool_none (jz I q (by simp))
  |bl j=>cases J;exact eq_bool (jz I q afo)
  |str j=>obtain⟨U,rfl⟩:=J;exact PySem.EqMixed.eq_bool_str (jz I q (by simp))
  |_=>exact absurd (show false=true from g) AC
 |int i=>
  obtain⟨t,rfl⟩:=l;cases y with
  |non=>cases J;exact PySem.EqNone.eq_int_none (jz I q (by simp))
  |int j=>obtain⟨U,rfl⟩:=J;exact eq_int (jz I q ye)
  |str j=>obtain⟨U,rfl⟩:=J;exact PySem.EqMixed.eq_int_str (jz I q (by simp))
  |_=>exact absurd (show false=true from g) AC
 |str i=>
  obtain⟨t,rfl⟩:=l;cases y with
  |non=>cases J;exact PySem.EqNone.eq_str_none (jz I q (by simp))
  |bl j=>cases J;exact PySem.EqMixed.eq_str_bool (jz I q (by simp))
  |int j=>obtain⟨U,rfl⟩:=J;exact PySem.EqMixed.eq_str_int (jz I q (by simp))
  |str j=>obtain⟨U,rfl⟩:=J;exact eq_str (jz I q yN)
  |_=>exact absurd (show false=true from g) AC
 |byt i=>
  obtain⟨t,rfl⟩:=l;cases y with
  |byt j=>obtain⟨U,rfl⟩:=J;exact PySem.W.eq_bytes (jz I q yf)
  |_=>exact absurd (show false=true from g) AC
 |_=>cases y<;>exact absurd (show false=true from g) AC
theorem akj:kw X (compareOp .NotEq) rNe:=by
 intro o s p H x y v u Q I l J h;obtain⟨g,q⟩:=h;cases x with
 |non=>
  cases l;cases y with
  |non=>cases J;exact PySem.EqNone.ne_none_none (jz I q (by simp))
  |bl j=>cases J;exact PySem.EqNone.ne_none_bool (jz I q (by simp))
  |int j=>obtain⟨U,rfl⟩:=J;exact PySem.EqNone.ne_none_int (jz I q (by simp))
  |str j=>obtain⟨U,rfl⟩:=J;exact PySem.EqNone.ne_none_str (jz I q (by simp))
  |_=>exact absurd (show false=true from g) AC
 |bl i=>
  cases l;cases y with
  |non=>cases J;exact PySem.EqNone.ne_bool_none (jz I q (by simp))
  |bl j=>cases J;exact ne_bool (jz I q (Bi not afo))
  |str j=>obtain⟨U,rfl⟩:=J;exact PySem.EqMixed.ne_bool_str (jz I q (by simp))
  |_=>exact absurd (show false=true from g) AC
 |int i=>
  obtain⟨t,rfl⟩:=l;cases y with
  |non=>cases J;exact PySem.EqNone.ne_int_none (jz I q (by simp))
  |int j=>obtain⟨U,rfl⟩:=J;exact ne_int (jz I q (Bi not ye))
  |str j=>obtain⟨U,rfl⟩:=J;exact PySem.EqMixed.ne_int_str (jz I q (by simp))
  |_=>exact absurd (show false=true from g) AC
 |str i=>
  obtain⟨t,rfl⟩:=l;cases y with
  |non=>cases J;exact PySem.EqNone.ne_str_none (jz I q (by simp))
  |bl j=>cases J;exact PySem.EqMixed.ne_str_bool (jz I q (by simp))
  |int j=>obtain⟨U,rfl⟩:=J;exact PySem.EqMixed.ne_str_int (jz I q (by simp))
  |str j=>obtain⟨U,rfl⟩:=J;exact ne_str (jz I q (Bi not yN))
  |_=>exact absurd (show false=true from g) AC
 |byt i=>
  obtain⟨t,rfl⟩:=l;cases y with
  |byt j=>obtain⟨U,rfl⟩:=J;exact PySem.W.ne_bytes (jz I q (Bi not yf))
  |_=>exact absurd (show false=true from g) AC
 |_=>cases y<;>exact absurd (show false=true from g) AC
theorem aqm:kw X (compareOp .Lt) (rI0 λi j=>.bl (decide (i<j))):=ai7 λ_ _ _ _ _ _ _ q=>lt_int q
theorem aqc:kw X (compareOp .LtE) (rI0 λi j=>.bl (decide (i<=j))):=ai7 λ_ _ _ _ _ _ _ q=>le_int q
theorem aor:kw X (compareOp .Gt) (rI0 λi j=>.bl (decide (j<i))):=ai7 λ_ _ _ _ _ _ _ q=>gt_int q
theorem aov:kw X (compareOp .GtE) (rI0 λi j=>.bl (decide (j<=i))):=ai7 λ_ _ _ _ _ _ _ q=>ge_int q
theorem vq(b:Expr){op:CmpOp}(h:op≠.In:=by decide)(h2:op≠.NotIn:=by decide):behindInMarks op b=false:=by
 have J:(op==CmpOp.In)=false:=by cases op<;>first|rfl|exact absurd rfl h
 have U:(op==CmpOp.NotIn)=false:=by cases op<;>first|rfl|exact absurd rfl h2
 cases b<;>simp[behindInMarks,J,U]
theorem ahu{op:CmpOp}{r:R2}(U:kw X (compareOp op) r)(g:PE X a ta)(j:PE X b tb)(l:behindInMarks op b=false):PE X (.Compare a [op] [b] pos) (tOp r ta tb):=by intro J s o H Q I h;exact wpAny_Compare1 (alc g j I h λv u p x y t C T ry q=>U J p o t x y v u Q C T ry q) l
def afk(t:TE):TT:=λσ H Q=>t σ H λx H'=>∃k,x=.bl k/\Q k H'
theorem ajl{op:CmpOp}{r:R2}(g:kw X (compareOp op) r)(j:PE X a ta)(l:PE X b tb)(o:behindInMarks op b=false):PT X (.Compare a [op] [b] pos) (afk (tOp r ta tb)):=by
 intro J s U H Q I h;refine wpAny_isTrue_Compare1 (bF (j J s U H _ I h) λv p x t C T q1=>bF (l J p U t _ C q1) λu s2 y H2 I2 r2 q2=>
  aV (g J s2 U H2 x y v u _ I2 T r2 q2) λc s3 ⟨z,H3,I3,r3,k,e,q3⟩=>?_) o
 subst e;cases r3;exact wpAny_truthy_bool ⟨H3,I3,q3⟩
theorem jI:(sizeLine:Nat)<2 ^ 63:=by rw[sizeLine_eq];decide
theorem wS:kw X (binaryOp .Add) (λx y H Q=>∃i j,x=.str i/\y=.str j/\i.length+j.length<=sizeLine/\Q (.str (i++j)) H):=by intro J s p H x y v u Q I U g h;obtain⟨i,j,rfl,rfl,l,q⟩:=h;obtain⟨t,rfl⟩:=U;obtain⟨o,rfl⟩:=g;exact xg I.tk (add_str (λo tk r=>⟨.str (i++j),H,I.tok _,⟨_,rfl⟩,q⟩) l)
theorem m4{x:V}(r:zr [x] us):∃u,us=[u]/\j3 x u:=by cases r with|cons J U=>cases U;exact⟨_,rfl,J⟩
theorem akb{x y:V}(r:zr [x,y] us):∃u J,us=[u,J]/\j3 x u/\j3 y J:=by
 cases r with
 |cons U g=>
  cases g with|cons j l=>cases l;exact⟨_,_,rfl,U,j⟩
theorem abe(hc:X.calm=true):xf X (.builtin "max") (λxs H Q=>∃i j,xs=[.int i,.int j]/\Q (.int (if j > i then j else i)) H):=by
 intro U s g H xs l Q I r h;obtain⟨i,j,rfl,q⟩:=h;obtain⟨u,o,rfl,⟨t,rfl⟩,⟨p,rfl⟩⟩:=akb r;refine xg I.tk (max_two_ints (I.ok.hd hc) λC tk k T=>⟨_,H,I.kept k,?_,q⟩);by_cases J:j > i
 ·rw[AF J,AF J];exact⟨_,rfl⟩
 ·rw[AG J,AG J];exact⟨_,rfl⟩
theorem aa3(hc:X.calm=true):xf X (.builtin "min") (λxs H Q=>∃i j,xs=[.int i,.int j]/\Q (.int (if j<i then j else i)) H):=by
 intro U s g H xs l Q I r h;obtain⟨i,j,rfl,q⟩:=h;obtain⟨u,o,rfl,⟨t,rfl⟩,⟨p,rfl⟩⟩:=akb r;refine xg I.tk (min_two_ints (I.ok.hd hc) λC tk k T=>⟨_,H,I.kept k,?_,q⟩);by_cases J:j<i
 ·rw[AF J,AF J];exact⟨_,rfl⟩
 ·rw[AG J,AG J];exact⟨_,rfl⟩
end
structure am5(h:Heap)(x dx C:Addr)(mA:Str->Option Value):Prop where
 obj:h.get? x=some (PySem.W.instObj C dx)
 ns:h.Ns1 dx mA
 ne:dx≠x
theorem zC(n:h.Ns1 dx mA):∃od,h.get? dx=some od/\∀name,PySem.W.lookIn name od=some (mA name):=by
 obtain⟨o,U,C,g,hd,j,_,l⟩:=n;refine⟨o,g,λname=>?_⟩;have e:=l name;unfold nsFind findBy at e;rw[<-Array.find?_toList] at e;unfold PySem.W.lookIn;rw[hd];dsimp only;split
 ·rename_i y q;rw[q] at e;exact Bi some e
 ·rename_i q;rw[q] at e;have a:U.toList.any (·.refKey)=false:=by rw[List.any_eq_false];intro y p;obtain⟨z,t,J⟩:=j y (Array.mem_toList_iff.mp p);simp[DictEntry.refKey,J]
  have r:¬U.toList.any (·.refKey)=true:=by rw[a];exact AC
  rw[AG r];exact Bi some e
theorem am5.look{x:Addr}(I:am5 h x dx C mA):∃od,PySem.W.InstAt h x (PySem.W.instObj C dx) C (some od)/\∀name,PySem.W.lookIn name od=some (mA name):=
 let ⟨od,J,U⟩:=zC I.ns
 ⟨od,⟨I.obj,rfl,rfl,J⟩,U⟩
section
variable {w:World}{K:Ah}{x:Addr}{v:Value}
end
theorem i4.some_of{o:Option Value}(r:i4 (some v) o):∃u,o=some u/\j3 v u:=by cases o with|none=>exact(show False from r).elim|some u=>exact⟨u,rfl,r⟩
abbrev EU:=@i4.some_of
section
variable {P:Program}{w:World}{fs fs':List (Str×V)}
theorem ahq(hok:dw P w H h)(e:H a=some (.ins C dx fs)):∃mA,am5 h a dx C mA/\(∀f,i4 (fs.lookup f) (mA f))/\PySem.Within mA (fs.map (·.1))/\fs.length<=1000/\H dx=some (.own a):=by obtain⟨d,z,ne,ob,mA,n,r,q⟩:=(show v5 P w H h a (.ins C dx fs) from hok a _ e);exact⟨mA,⟨ob,n,ne⟩,r,q,z,d⟩
end
structure Cls(K:Ah)(C:Addr):Prop where
 pg:PySem.W.plainGet K C Str.empty=true
 hd:PySem.W.hasDictIn K C=true
 po:PySem.W.plainOver K C=true
 sa:PySem.W.findIn K (.ref C) "__setattr__"=some (some (.builtin "object.__setattr__"))
theorem Cls.get{K:Ah}(c:Cls K C)(f:Str):PySem.W.plainGet K C f=true:=c.pg
section
variable {fs:List (Str×V)}{f:Str}
end
section
variable {f:Str}{tpos:Pos}{tv:TE}
end
section
variable {c:Value}{b:Bool}
inductive lD(K:Ah)(H:Hp):V->Value->Prop where
 |non:lD K H .non (.type "NoneType")
 |bl (x:Bool):lD K H (.bl x) (.type "bool")
 |int (i:Int):lD K H (.int i) (.type "int")
 |str (x:Str):lD K H (.str x) (.type "str")
 |flt (x:UInt64):lD K H (.flt x) (.type "float")
 |lst {a:Addr} {xs:List V} (e:H a=some (.lst xs)):lD K H (.ref a) (.type "list")
 |frz {a:Addr} {o:Obj} {xs:List V} (e:H a=some (.frz o (.lst xs))):lD K H (.ref a) (.type "list")
 |tup {a:Addr} {xs:List V} (e:H a=some (.tup xs)):lD K H (.ref a) (.type "tuple")
 |dK {a:Addr} {kvs:List (jm×V)} (e:H a=some (.dK kvs)):lD K H (.ref a) (.type "dict")
 |dT {a:Addr} {kvs:List (List jm×V)} (e:H a=some (.dT kvs)):lD K H (.ref a) (.type "dict")
 |ins {a C dx:Addr} {fs:List (Str×V)} (e:H a=some (.ins C dx fs)) (cl:Cls K C) (ha:PySem.W.findIn K (.ref C) "__class__"=some (some (.builtin "object.__class__")))
  (hn:PySem.W.specialIn K (.builtin "object.__class__") "__get__"=some (some (.builtin "getset_descriptor.__get__"))) (htk:PySem.W.takesIn K (.builtin "object.__class__")=some true)
  (hm:PySem.W.mroIn K C (.type "object")=some true):lD K H (.ref a) (.ref C)
theorem bK{x:V}{t:Value}(I:zd X pins σ H s)(U:j3 x u)(ty:lD X.K H x t)(e:PySem.W.kitOne X.K t c=some b)(h:∀tk,Q (.bool b) { s with toks:=tk }):
 wpAny (model X.prog X.w) A (call (.builtin "isinstance") [u,c]) Q E s:=by
 cases ty with
 |non=>cases (show u=Value.none from U);exact Bl PySem.W.kitx_none I.kIn True.intro e (λz=>nomatch z) h
 |bl y=>cases (show u=Value.bool y from U);exact Bl PySem.W.kitx_bool I.kIn True.intro e (λz=>nomatch z) h
 |int i=>obtain⟨t,q⟩:=(show ∃t,u=Value.int i t from U);cases q;exact Bl PySem.W.kitx_int I.kIn True.intro e (λz=>nomatch z) h
 |str y=>obtain⟨t,q⟩:=(show ∃t,u=Value.str y t from U);cases q;exact Bl PySem.W.kitx_str I.kIn True.intro e (λz=>nomatch z) h
 |flt y=>obtain⟨t,q⟩:=(show ∃t,u=Value.float y t from U);cases q;exact Bl PySem.W.kitx_float I.kIn True.intro e (λz=>nomatch z) h
 |@lst a r g=>
  cases (show u=Value.ref a from U);obtain⟨_,_,n,_,j⟩:=(show v5 X.prog X.w H s.heap a (.lst r) from I.hok a _ g);exact Bl Dp I.kIn ⟨_,j,rfl⟩ e (λz=>nomatch z) h
 |@frz a ob r g=>
  cases (show u=Value.ref a from U);obtain⟨_,_,_,n,_,j⟩:=(show v5 X.prog X.w H s.heap a (.frz ob (.lst r)) from I.hok a _ g);exact Bl Dp I.kIn ⟨_,j,rfl⟩ e (λz=>nomatch z) h
 |@tup a r g=>
  cases (show u=Value.ref a from U);obtain⟨_,_,_,p⟩:=(show v5 X.prog X.w H s.heap a (.tup r) from I.hok a _ g);obtain⟨o,j,T,_⟩:=p;exact Bl PySem.W.kitx_tuple I.kIn ⟨o,j,T⟩ e (λz=>nomatch z) h
 |@dK a l g=>
  cases (show u=Value.ref a from U);obtain⟨_,_,vs,_,p⟩:=(show v5 X.prog X.w H s.heap a (.dK l) from I.hok a _ g);obtain⟨o,es,ep,j,T,_⟩:=p;exact Bl PySem.W.kitx_dict I.kIn ⟨o,j,T.1⟩ e (λz=>nomatch z) h
 |@dT a l g=>
  cases (show u=Value.ref a from U);obtain⟨_,_,r,_,o,es,ep,j,T,_⟩:=(show v5 X.prog X.w H s.heap a (.dT l) from I.hok a _ g);exact Bl PySem.W.kitx_dict I.kIn ⟨o,j,T.1⟩ e (λz=>nomatch z) h
 |@ins a C dx fs g cl ha hn a0 hm=>
  cases (show u=Value.ref a from U);obtain⟨mA,O,_⟩:=ahq I.hok g;obtain⟨od,J,_⟩:=O.look;exact Bl (PySem.W.kitx_own (cl.get _) cl.hd ha hn a0 hm) I.kIn J e (λz=>nomatch z) h
end
structure aI(k:Nat)(A:Around):Prop where
 hd:A.handled=none
 dp:A.depth+3*k+5<recursionLimit
 un:A.units+16*k+200<cLine
theorem aI.mono{k:Nat}(r:aI k A)(h:j<=k):aI j A:=⟨r.hd,by have:=r.dp;lia,by have:=r.un;lia⟩
theorem aI.deeper{k:Nat}(r:aI (k+1) A)(env:Env):aI k (A.deeper env):=
 ⟨r.hd,by have:=r.dp;show A.depth+1+3*k+5<_;lia,by have:=r.un;show A.units+3+16*k+200<_;lia⟩
theorem aI.depth{k:Nat}(r:aI k A):A.depth<recursionLimit:=by have:=r.dp;lia
def atp:TA:=λ_ H Q=>Q [] H
def aqf(ta:TE)(tr:TA):TA:=λσ H Q=>ta σ H λx H1=>tr σ H1 λxs H2=>Q (x::xs) H2
section
variable {te:TE}{t:TA}
theorem iq:PA X [] atp:=λ_ _ _ _ H Q I h=>Ef ⟨[],H,I,.nil,h⟩
abbrev Eb(e:Expr)(es:List Expr)(X:Cx):Prop:=starEach (e::es) X.env=(false,eval e X.env)::starEach es X.env
theorem dG(g:PE X e te)(j:PA X es t)(hs:Eb e es X:=by rfl):PA X (e::es) (aqf te t):=by intro pos J s U H Q I h;rw[hs];show wpAny _ _ (spliced ((false,eval e X.env)::backTo pos (starEach es X.env))) _ _ s;refine At (bF (g J s U H _ I h) λu l x o p r C=>?_);exact ab5 (j pos J l U o _ p C) λus s2 T H2 I2 r2 q2=>⟨x::T,H2,I2,.cons r r2,q2⟩
def avx(t:TA):TE:=λσ H Q=>t σ H λxs H1=>xs.length<=sizeLine/\∀p,H1 p=none->Q (.ref p) (upd H1 p (.tup xs))
def asx(t:TA):TE:=λσ H Q=>t σ H λxs H1=>xs.length<=sizeLine/\∀p,H1 p=none->Q (.ref p) (upd H1 p (.lst xs))
theorem amb{x1}(h:PA X es t):PE X (.Tuple es x1 pos) (avx t):=by intro J s l H Q I o;refine wpAny_Tuple_spliced (aV (h pos J s l H _ I o) λp U ⟨C,g,j,r,z,q⟩=>⟨by rw[<-r.length];exact z,?_⟩);have T:g U.heap.objs.size=none:=j.hok.fresh (Al _);refine⟨.ref U.heap.objs.size,upd g U.heap.objs.size (.tup C),j.laid (t':=U.toks) (λb u e=>r4 _ e) (Al _) ?_,rfl,q _ T⟩;exact⟨z,p,r,⟨_,sy _ rfl,rfl,_,rfl⟩⟩
theorem amf(h:PA X es t):PE X (.List es pos) (asx t):=by intro J s l H Q I o;refine wpAny_List_spliced (aV (h pos J s l H _ I o) λp U ⟨C,g,j,r,z,q⟩=>⟨by rw[<-r.length];exact z,?_⟩);have T:g U.heap.objs.size=none:=j.hok.fresh (Al _);refine⟨.ref U.heap.objs.size,upd g U.heap.objs.size (.lst C),j.laid (t':=U.toks) (λb u e=>r4 _ e) (Al _) ?_,rfl,q _ T⟩;exact⟨z,p,0,r,sy _ rfl⟩
end
abbrev Sp:=List V->Hp->VK->XK->Prop
abbrev xZ:=List Env->Hp->Shared->XK->Value->Shared->Prop
structure aj5(P:Program)(w:World)(K:Ah)(mg:Str->Option Value)(base:Heap)(A:Around)(outer:List Env)(s:Shared)(H:Hp):Prop where
 frames:A.frames=some outer
 mod:Mod K mg base
 bs:∀b o,base.get? b=some o->s.heap.get? b=some o/\H b=none
 bsz:base.objs.size<=s.heap.objs.size
 funs:s.heap.FunFrames base outer
 frf:∀b∈fj outer,H b=none
 hok:dw P w H s.heap
 bare:AllBare s.gens
 tk:0<s.toks
def CE(outer:List Env)(P:Program)(w:World)(H:Hp)(s:Shared)(Q:VK)(u:Value)(s':Shared):Prop:=
 ∃v H',s'.os=s.os/\AllBare s'.gens/\Un (fj outer) [] H H' s.heap s'.heap/\dw P w H' s'.heap/\j3 v u/\Q v H'/\0<s'.toks
def CR(CX:xZ)(outer:List Env)(P:Program)(w:World)(H:Hp)(s:Shared)(Q:VK)(E:XK)(r:Result)(s':Shared):Prop:=
 match r with
 |.ok (.ret u)=>CE outer P w H s Q u s'
 |.ok _=>False
 |.error e=>CX outer H s E e s'
structure bU(P:Program)(w:World)(K:Ah)(mg:Str->Option Value)(base:Heap)(CX:xZ)(k:Nat)(f:Addr)(fd:FuncData)(ps:List Str)(sp:Sp):Prop where
 len:∀vs H Q E,sp vs H Q E->vs.length=ps.length
 run:∀(A:Around) (outer:List Env) (s:Shared) (H:Hp) (args:Args) (us:List Value) (vs:List V) (Q:VK) (E:XK),aI k A->aj5 P w K mg base A outer s H->BindsTo s fd args (ps.zip us)->zr vs us->sp vs H Q E->
  codeAny (model P w) A (.call (.ref f) args) (CR CX outer P w H s Q E) s
theorem bU.mono{P:Program}{w:World}{K:Ah}{CX:xZ}{k:Nat}{sp:Sp}(F:bU P w K mg base CX j f fd ps sp)(h:j<=k):
 bU P w K mg base CX k f fd ps sp:=⟨F.len,λA J s H args U g Q E l=>F.run A J s H args U g Q E (l.mono h)⟩
theorem bU.imp{P:Program}{w:World}{K:Ah}{CX:xZ}{k:Nat}{sp U:Sp}(F:bU P w K mg base CX k f fd ps sp)
 (h:∀vs H Q E,U vs H Q E->sp vs H Q E):bU P w K mg base CX k f fd ps U:=
 ⟨λvs H Q E q=>F.len vs H Q E (h _ _ _ _ q),λA J s H args g vs Q E j l o p r=>F.run A J s H args g vs Q E j l o p (h _ _ _ _ r)⟩
theorem zd.env0(I:zd X pins σ H s):aj5 X.prog X.w X.K X.mg X.base X.A X.stack s H:=
 ⟨I.ok.frames,I.ok.mod,I.bs,AU I.ok.bsz I.sz,I.stack,I.stkFree,I.hok,I.bare,I.tk⟩
theorem zd.after{Q:VK}(I:zd X pins σ H s)(h:CE X.stack X.prog X.w H s Q u s'):EP X pins σ Q u s':=by obtain⟨v,j,os,bare,un,J,r,q,o⟩:=h;obtain⟨l,g,d,t,U⟩:=s';obtain rfl:U=s.os:=os;exact⟨v,j,I.call (h':=l) (g':=g) (d':=d) (t':=t) (ch:=[]) un J bare (λb z=>absurd z (by simp)),r,q⟩
def akn(sp:Sp)(pA:List V)(E:XK)(t:TA):TE:=λσ H Q=>t σ H λvs H1=>sp (vs++pA) H1 Q E
def dm(K:Ah)(fd:FuncData)(ps:List Str)(ds:List Value):Prop:=
 ∀(s:Shared) (us:List Value),K.In s.heap->(us++ds).length=ps.length->BindsTo s fd ⟨us,[]⟩ (ps.zip (us++ds))
theorem dm.all{K:Ah}(h:∀us:List Value,us.length=ps.length->bindArgs fd ⟨us,[]⟩=pure (ps.zip us)):dm K fd ps []:=λs us _ J=>by rw[AS] at J ⊢;exact .of_eq (h us J)
def wE(CX:xZ)(X:Cx)(E:XK):Prop:=∀(pins:List (Addr×Obj)) (σ:St) (H:Hp) (s:Shared) (e:Value) (s':Shared),zd X pins σ H s->CX X.stack H s E e s'->X.xe e s'
section
variable {CX:xZ}{k:Nat}{sp:Sp}{pA:List V}{ds:List Value}{E:XK}{m:Str}{t:TA}
theorem alo{Q:VK}{vs:List V}(F:bU X.prog X.w X.K X.mg X.base CX k f fd ps sp)(g:aI k X.A)(j:dm X.K fd ps ds)(hd:zr pA ds)(l:wE CX X E)
 (I:zd X pins σ H s) (r:zr vs us) (h:sp (vs++pA) H Q E):wpAny (model X.prog X.w) X.A (call (.ref f) us) (EP X pins σ Q) X.xe s:=by
 have U:zr (vs++pA) (us++ds):=r.append hd;have o:(us++ds).length=ps.length:=by rw[<-U.length];exact F.len _ _ _ _ h
 refine wpAny_call (codeAny_mono (F.run X.A X.stack s H ⟨us,[]⟩ (us++ds) (vs++pA) Q E g I.env0 (j s us I.kIn o) U h) λr p J=>?_);cases r with
 |error e=>exact l pins σ H s e p I J
 |ok t=>
  cases t with|ret u=>exact I.after J|next=>exact False.elim J|brk=>exact False.elim J|cont=>exact False.elim J
abbrev Ec(p:Pos)(es:List Expr)(X:Cx):Prop:=(backTo p (starEach es X.env)).any (·.1)=false
theorem agw(F:bU X.prog X.w X.K X.mg X.base CX k f fd ps sp)(l:aI k X.A)(o:Gl X x)(C:X.mg x=some (.ref f))(T:PySem.W.keepIn X.K (.ref f)=true)(hb:dm X.K fd ps ds)(hd:zr pA ds)(hx:wE CX X E)
 (ha:PA X (e::es) t) (U:Ed x:=by decide) (he:Eb e es X:=by rfl) (g:Ec pos es X:=by rfl):
 PE X (.Call (.Name x p) (e::es) [] pos) (akn sp pA E t):=by
 intro J s σ H Q I h;refine wpAny_Call_Name_kw (lW I o C ?_ U);refine PySem.W.callWith_K (h₀:=X.base) I.ok.mod.kin T (ab5 (ha pos J s σ H _ I h) λus s1 vs H1 j r q=>⟨j.kIn,?_⟩) he g;exact alo F l hb hd hx j r q
end
section
variable {CX:xZ}{k:Nat}{ks:List Str}{sp:Sp}{E:XK}{m:Str}{kws:List Keyword}{te:TE}{t tk:TA}{nm:Option Str}
variable {g:List Value->List Value->List Value}{gV:List V->List V->List V}
end
structure aS(N P:List Str)(sc:Scope):Prop where
 kind:sc.kind=.function
 co:sc.isCoroutine=false
 gen:sc.isGenerator=false
 nd:N.Nodup
 pre:N.take P.length=P
 par:∀x∈P,sc.names.lookup x=some .local\/sc.names.lookup x=some .cell
 nofree:∀y∈sc.names,y.2≠.free
theorem pS{kindOf:Str->Option NameKind}{x:Str}:∀{J:List (Str×Value)} {m:Str->Option Value},(∀v,(x,v)∉J)->bindL kindOf J m x=m x
 |[],_,_=>rfl
 |(n,v)::r,m,h=>by
  unfold bindL;rw[pS λw hw=>h w (Ac _ hw)];split
  ·have:x≠n:=by rintro rfl;exact h v Af
   simp[this]
  ·rfl
theorem pq{kindOf:Str->Option NameKind}{x:Str}:∀{J:List (Str×Value)} {m:Str->Option Value},(∀v,(x,v)∉J)->bindC kindOf J m x=m x
 |[],_,_=>rfl
 |(n,v)::r,m,h=>by
  unfold bindC;rw[pq λw hw=>h w (Ac _ hw)];split
  ·rfl
  ·have:x≠n:=by rintro rfl;exact h v Af
   simp[this]
theorem pJ{kindOf:Str->Option NameKind}{x:Str}{v:Value}:∀{P:List Str} {vs:List Value} {i:Nat} {m:Str->Option Value},P.Nodup->P[i]?=some x->vs[i]?=some v->kindOf x=some .local->
 bindL kindOf (P.zip vs) m x=some v
 |[],_,_,_,_,h,_,_=>by simp at h
 |_::_,[],_,_,_,_,h,_=>by simp at h
 |p::P,w::vs,0,m,nd,J,U,g=>by simp at J U;subst J;subst U;show bindL kindOf ((p,w)::P.zip vs) m p=_;unfold bindL;rw[pS λv j=>(Av.mp nd).1 (C6 j).1,AF g];simp
 |p::P,w::vs,i+1,m,nd,J,U,g=>by show bindL kindOf ((p,w)::P.zip vs) m x=_;unfold bindL;exact pJ (i:=i) (Av.mp nd).2 (by simpa using J) (by simpa using U) g
theorem pW{kindOf:Str->Option NameKind}{x:Str}{v:Value}:∀{P:List Str} {vs:List Value} {i:Nat} {m:Str->Option Value},P.Nodup->P[i]?=some x->vs[i]?=some v->kindOf x≠some .local->
 bindC kindOf (P.zip vs) m x=some v
 |[],_,_,_,_,h,_,_=>by simp at h
 |_::_,[],_,_,_,_,h,_=>by simp at h
 |p::P,w::vs,0,m,nd,J,U,g=>by simp at J U;subst J;subst U;show bindC kindOf ((p,w)::P.zip vs) m p=_;unfold bindC;rw[pq λv j=>(Av.mp nd).1 (C6 j).1,AG g];simp
 |p::P,w::vs,i+1,m,nd,J,U,g=>by show bindC kindOf ((p,w)::P.zip vs) m x=_;unfold bindC;exact pW (i:=i) (Av.mp nd).2 (by simpa using J) (by simpa using U) g
def start(N:List Str)(vs:List V):St:=vs.map some++List.replicate (N.length-vs.length) none
def dF(CX:xZ)(P:Program)(w:World)(K:Ah)(mg:Str->Option Value)(base:Heap)(N:List Str)(eK:Str)(scope:Scope)(f:Addr)(cd:Value)(A:Around)(outer:List Env)(s:Shared)(H:Hp)(E:XK):Cx where
 prog:=P
 w:=w
 K:=K
 mg:=mg
 base:=base
 A:=A.deeper (envOfC eK scope s.heap.objs.size f cd)
 N:=N
 s₀:=s
 H₀:=H
 env:=envOfC eK scope s.heap.objs.size f cd
 outer:=outer
 stack:=envOfC eK scope s.heap.objs.size f cd::outer
 ex:=[]
 calm:=true
 fn:=λ_=>true
 pn:=[]
 xe:=λe s'=>wpAny (model P w) (A.deeper (envOfC eK scope s.heap.objs.size f cd)) (leaving (envOfC eK scope s.heap.objs.size f cd) e) (λ_ J=>CX outer H s E e J) (λU J=>CX outer H s E U J) s'
theorem sw{J:Scope}(h:J.names.lookup x=some .cell):∃c,(cellsFrom n J.names []).lookup x=some c:=by have q:=DI J.names n [] (.inl h);exact Option.isSome_iff_exists.mp q
theorem aai{CX:xZ}{P:Program}{w:World}{K:Ah}{N:List Str}{I:Shared}{E:XK}{vs:List V}
 (S:aS N ps scope) (hd:A.handled=none) (U:aj5 P w K mg base A outer s H) (hl:vs.length=ps.length) (r:zr vs us)
 (x:InCallC s s.heap.objs.size (bindL (envOfC eK scope s.heap.objs.size f cd).kindOf (ps.zip us) λ_=>none) (cellsFrom (s.heap.objs.size+1) scope.names []) (bindC (envOfC eK scope s.heap.objs.size f cd).kindOf (ps.zip us) λ_=>none) I) (ht:0<I.toks):
 zd (dF CX P w K mg base N eK scope f cd A outer s H E) [] (start N vs) H I:=by
 have a0:ps.length<=N.length:=by have:=Bi List.length S.pre;rw[A1] at this;lia
 obtain⟨t,tk,rfl,T⟩:=x.done;have g:∀b:Addr,b∉(dF CX P w K mg base N eK scope f cd A outer s H E).ex:=λb z=>absurd (show b∈([]:List Addr) from z) (by simp);refine⟨⟨U.mod,S.kind,rfl,rfl,Al _,λy z c t J=>?_,λy j=>?_,λy c _ h=>?_,λ_=>hd,Around.frames_deeper U.frames,.inr ⟨rfl,rfl⟩,λb z=>absurd z (g b),U.bs,U.bsz,λb _ _=>g b,λb z=>absurd z (g b),U.funs,U.frf⟩,
  rfl,U.bare,Un.kept T,⟨_,x.toInCall.ns,λi y v t J h3=>?_⟩,λy c h=>⟨_,x.cell y c h⟩,U.hok.fresh (Al _),λy c h=>?_,λp l=>absurd (show p∈([]:List (Addr×Obj)) from l) (by simp),U.hok.kept T,?_,ht⟩
 ·exact name_of_addr x.apart (Bv t) (Bv J)
 ·have j:scope.names.lookup y=some .cell\/scope.names.lookup y=some .free:=j;rcases j with j|j
  ·exact sw j
  ·exact absurd rfl (S.nofree _ (Bv j))
 ·exact Bf (x.above y c (Bv h))
 ·have C:i<vs.length:=by
   unfold start at J;by_cases C:i<vs.length
   ·exact C
   ·rw[Ax (by simpa using C)] at J;rw[Ck] at J;split at J<;>cases J
  have ha:vs[i]?=some v:=by unfold start at J;rw[AB (by simpa using C),An] at J;cases e:vs[i]? with|none=>rw[e] at J;cases J|some a=>rw[e] at J;cases J;rfl
  obtain⟨u,hu,rv⟩:=r.get ha;have l:ps[i]?=some y:=by rw[<-S.pre,Dt (by lia)];exact t
  have o:ps.Nodup:=by rw[<-S.pre];exact S.nd.sublist (List.take_sublist _ _)
  refine⟨u,rv,?_⟩;rcases S.par y (Aw l) with k|k
  ·exact .inl ⟨k,pJ o l hu k⟩
  ·obtain⟨c,e⟩:=sw (n:=s.heap.objs.size+1) k;refine .inr ⟨.inl k,c,e,?_⟩;have q:=x.cell y c e;rw[pW o l hu (by show scope.names.lookup y≠_;rw[k];decide)] at q;exact q
 ·exact U.hok.fresh (Bf (x.above y c (Bv h)))
 ·unfold start;show _=N.length;rw[Ad,Ab,BX];lia
theorem aen{CX:xZ}{P:Program}{w:World}{K:Ah}{k:Nat}{U:Arguments}{dV kV:Value}
 {N:List Str} {sp:Sp} (lk:K.lookup f=some ⟨oc,od,.func (PySem.W.fnOf name eK U body scope dV kV ir pm an fx ct),ni⟩) (a0:PySem.W.codeIn K fx eK=true) (S:aS N ps scope)
 (len:∀vs H Q E,sp vs H Q E->vs.length=ps.length)
 (j:∀(A:Around) (outer:List Env) (s:Shared) (H:Hp) (vs:List V) (Q:VK) (E:XK),aI k (A.deeper (envOfC eK scope s.heap.objs.size f fx))->sp vs H Q E->
  ∃t,lK (dF CX P w K mg base N eK scope f fx A outer s H E) body t/\t { nx:=λ_ H'=>Q .non H',rt:=Q } (start N vs) H):
 bU P w K mg base CX (k+1) f (PySem.W.fnOf name eK U body scope dV kV ir pm an fx ct) ps sp:=by
 refine⟨len,λA outer s H args us vs Q E hr p hb r T=>?_⟩;have hl:=len _ _ _ _ T;have KX:K.In s.heap:=p.mod.kin.keeps λb o e=>(p.bs b o e).1;have a1:s.heap.NoLimit:=p.mod.nolimit.keeps λb o e=>(p.bs b o e).1;have l:∀y∈ps.zip us,scope.names.lookup y.1=some .local\/(scope.names.lookup y.1=some .cell/\((cellsFrom (s.heap.objs.size+1) scope.names []).lookup y.1).isSome=true):=λ⟨n,v⟩ hy=>by
  rcases S.par n (C6 hy).1 with q|q
  ·exact .inl q
  ·exact .inr ⟨q,DI _ _ _ (.inl q)⟩
 refine codeAny_call_function hr.depth (KX _ _ lk) rfl S.co S.gen rfl (PySem.W.codeRec_of KX a0) (hb _ _ _ _ ?_);refine xg p.tk (wpAny_newFunctionEnv_cells S.kind l λa3 he s1 x a2=>?_);subst he;refine⟨a1.keeps x.toInCall.keep,codeAny_func ?_⟩;obtain⟨t,ht,hq⟩:=j A outer s H vs Q E (hr.deeper _) T;have I:zd (dF CX P w K mg base N eK scope f fx A outer s H E) [] (start N vs) H s1:=aai S hr.hd p hl r x a2;refine AZ (ht [] s1 (start N vs) H _ I hq) (λfl s' C=>?_) λe s' C=>C;have xi:∀{g:St} {H':Hp} {v:V} {u:Value},zd (dF CX P w K mg base N eK scope f fx A outer s H E) [] g H' s'->j3 v u->Q v H'->CE outer P w H s Q u s':=
  λ{g H' v u} J rv q=>⟨v,H',J.os,J.bare,J.base,J.hok,rv,q,J.tk⟩
 cases fl with
 |ret u=>
  obtain⟨v,g,H',J,rv,q⟩:=C;exact xi J rv q
 |next=>
  obtain⟨g,H',J,q⟩:=C;exact xi (v:=V.non) (u:=Value.none) J rfl q
 |brk=>
  obtain⟨_,_,_,q⟩:=C;exact False.elim q
 |cont=>
  obtain⟨_,_,_,q⟩:=C;exact False.elim q
end L2
variable {sp:L2.Sp}
namespace L2
open PySem PySem.Spec PyProof.Rows
section
variable {t:TA}{id T:String}{r:List V->Hp->VK->Prop}
def tCB(r:List V->Hp->VK->Prop)(t:TA):TE:=λσ H Q=>t σ H λvs H1=>r vs H1 Q
theorem tf(hc:xf X (.builtin id) r)(l:Gl X x)(o:X.mg x=none)(C:bootBuiltins x=some (.builtin id))(T:PA X (e::es) t)(hn:x ≠ "__name__" := by decide)(U:Ed x:=by decide)
 (he:Eb e es X:=by rfl) (g:Ec pos es X:=by rfl):PE X (.Call (.Name x p) (e::es) [] pos) (tCB r t):=by
 intro J s j H Q I h;refine wpAny_Call_Name_kw (bw I l o C ?_ hn U);exact PyProof.Rows.callWith_builtin1 (ab5 (T pos J s j H _ I h) λus s1 vs H1 I1 r1 q1=>hc J s1 j H1 vs us Q I1 r1 q1) he g
theorem jK(hc:xf X (.type T) r)(l:Gl X x)(o:X.mg x=none)(C:bootBuiltins x=some (.type T))(ha:PA X (e::es) t)(hn:x ≠ "__name__" := by decide)(U:Ed x:=by decide)
 (he:Eb e es X:=by rfl) (g:Ec pos es X:=by rfl):PE X (.Call (.Name x p) (e::es) [] pos) (tCB r t):=by
 intro J s j H Q I h;refine wpAny_Call_Name_kw (bw I l o C ?_ hn U);exact BE (ab5 (ha pos J s j H _ I h) λus s1 vs H1 I1 r1 q1=>hc J s1 j H1 vs us Q I1 r1 q1) he g
end
section
variable [DecidableEq κ]
def bH(kvs:List (κ×V))(k:κ):Option V:=(kvs.find? λJ=>decide (J.1=k)).map (·.2)
def fP(kvs:List (κ×V))(k:κ)(v:V):List (κ×V):=
 if (kvs.any λJ=>decide (J.1=k))=true then kvs.map (λJ=>if J.1=k then(J.1,v) else J) else kvs++[(k,v)]
theorem lr{p:κ×V}{r:List (κ×V)}{k:κ}(e:p.1=k):bH (p::r) k=some p.2:=by simp[bH,Bm,e]
theorem mj{p:κ×V}{r:List (κ×V)}{k:κ}(e:¬p.1=k):bH (p::r) k=bH r k:=by simp[bH,Bm,e]
theorem uN(k:κ):∀kvs:List (κ×V),(kvs.any λJ=>decide (J.1=k))=(bH kvs k).isSome
 |[]=>rfl
 |p::r=>by
  rw[Ce];by_cases e:p.1=k
  ·simp only[lr e,AH e,Bool.true_or,Option.isSome_some]
  ·rw[mj e,Ay e,Bool.false_or];exact uN k r
theorem eU(kvs:List (κ×V))(k:κ)(v:V):(fP kvs k v).length<=kvs.length+1:=by
 unfold fP;split
 ·rw[Ab];lia
 ·rw[Ad,AQ,List.length_nil];lia
theorem i4.isSome_eq{o:Option V}{u:Option Value}(r:i4 o u):o.isSome=u.isSome:=by
 cases o with
 |none=>cases u with|none=>rfl|some _=>exact(show False from r).elim
 |some _=>cases u with|none=>exact(show False from r).elim|some _=>rfl
theorem KV.val{kvs:List (κ×V)}{vs:List (κ×Value)}(r:KV kvs vs)(k:κ):i4 (bH kvs k) (valueAt vs k):=by
 unfold KV at r
 induction r with
 |nil=>exact True.intro
 |@cons p q o J h t j=>
  obtain⟨g,l⟩:=h;by_cases e:p.1=k
  ·have U:q.1=k:=g.symm.trans e;have b:valueAt (q::J) k=some q.2:=by simp[valueAt,Bm,U]
   rw[lr e,b];exact l
  ·have U:¬q.1=k:=λz=>e (g.trans z);have b:valueAt (q::J) k=valueAt J k:=by simp[valueAt,Bm,U]
   rw[mj e,b];exact j
theorem KV.any{kvs:List (κ×V)}{vs:List (κ×Value)}(r:KV kvs vs)(k:κ):(kvs.any λJ=>decide (J.1=k))=vs.any λJ=>decide (J.1=k):=by
 unfold KV at r
 induction r with|nil=>rfl|cons h t U=>rw[Ce,Ce,U,h.1]
theorem KV.repl{kvs:List (κ×V)}{vs:List (κ×Value)}(r:KV kvs vs)(k:κ){y:V}(g:j3 y u):
 KV (kvs.map λJ=>if J.1=k then(J.1,y) else J) (vs.map λJ=>if J.1=k then(J.1,u) else J):=by
 unfold KV at r ⊢
 induction r with
 |nil=>exact .nil
 |@cons p q o C h t j=>
  rw[AE,AE];refine .cons ?_ j;obtain⟨U,l⟩:=h;by_cases e:p.1=k
  ·rw[AF e,AF (U.symm.trans e)];exact⟨U,g⟩
  ·rw[AG e,AG (λz=>e (U.trans z))];exact⟨U,l⟩
theorem KV.put{kvs:List (κ×V)}{vs:List (κ×Value)}(r:KV kvs vs)(k:κ){y:V}(J:j3 y u):KV (fP kvs k y) (stored vs k u):=by
 unfold fP stored;rw[r.any k];by_cases e:(vs.any λU=>decide (U.1=k))=true
 ·rw[AF e,AF e];exact r.repl k J
 ·rw[AG e,AG e];exact Paired.snoc r ⟨rfl,J⟩
theorem KV.length{kvs:List (κ×V)}{vs:List (κ×Value)}(r:KV kvs vs):kvs.length=vs.length:=Paired.length r
end
theorem jR{P:Program}{w:World}{k:jm}(r:j3 (kV k) u):(vm P w).is k u=true:=by
 cases k with
 |inl i=>obtain⟨t,e⟩:=(show ∃t,u=Value.int i t from r);subst e;exact uY P w i t
 |inr x=>obtain⟨t,e⟩:=(show ∃t,u=Value.str x t from r);subst e;exact uk P w x t
theorem pi{P:Program}{w:World}:∀{ks:List jm} {us:List Value},zr (ks.map kV) us->ItemsAre (vm P w) ks us
 |[],_,r=>by rw[CO] at r;cases r;exact .nil
 |k::ks,_,r=>by rw[AE] at r;cases r with|cons h t=>exact .cons (jR h) (pi t)
abbrev KT(H:Hp):List (List jm×V)->List (List jm×Addr×Value)->Prop:=Paired λp q=>p.1=q.1/\H q.2.1=some (.tup (p.1.map kV))/\j3 p.2 q.2.2
theorem KT.val{kvs:List (List jm×V)}{xs:List (List jm×Addr×Value)}(r:KT H kvs xs)(k:List jm):i4 (bH kvs k) ((atKey xs k).map (·.2)):=by
 induction r with
 |nil=>exact True.intro
 |@cons p q o J h t j=>
  obtain⟨g,_,l⟩:=h;by_cases e:p.1=k
  ·have U:q.1=k:=g.symm.trans e;have b:atKey (q::J) k=some q.2:=by simp[atKey,Bm,U]
   rw[lr e,b];exact l
  ·have U:¬q.1=k:=λz=>e (g.trans z);have b:atKey (q::J) k=atKey J k:=by simp[atKey,Bm,U]
   rw[mj e,b];exact j
theorem KT.repl{kvs:List (List jm×V)}{xs:List (List jm×Addr×Value)}(r:KT H kvs xs)(k:List jm){y:V}(j:j3 y u):
 KT H (kvs.map λU=>if U.1=k then(U.1,y) else U) (xs.map (putAt k u)):=by
 induction r with
 |nil=>exact .nil
 |@cons p q C I h t l=>
  rw[AE,AE];refine .cons ?_ l;obtain⟨J,g,o⟩:=h;unfold putAt;by_cases e:p.1=k
  ·rw[AF e,AF (J.symm.trans e)];exact⟨J,g,j⟩
  ·rw[AG e,AG (λz=>e (J.trans z))];exact⟨J,g,o⟩
theorem KT.put{kvs:List (List jm×V)}{xs:List (List jm×Addr×Value)}(r:KT H kvs xs)(k:List jm){y:V}(U:H b=some (.tup (k.map kV)))(J:j3 y u):
 KT H (fP kvs k y) (storedH xs k b u):=by
 have e:(kvs.any λg=>decide (g.1=k))=(atKey xs k).isSome:=by rw[uN,(r.val k).isSome_eq,B7]
 unfold fP storedH;rw[e];by_cases q:(atKey xs k).isSome=true
 ·rw[AF q,AF q];exact r.repl k J
 ·rw[AG q,AG q];exact Paired.snoc r ⟨rfl,U,J⟩
theorem KT.keeps{kvs:List (List jm×V)}{xs:List (List jm×Addr×Value)}(r:KT H kvs xs)(J:∀b ys,H b=some (.tup ys)->H' b=some (.tup ys)):KT H' kvs xs:=
 EC r λ_ _ z=>⟨z.1,J _ _ z.2.1,z.2.2⟩
section
variable {P:Program}{w:World}
theorem aku{u:HO}(ok:dw P w H h)(e:Rd H a u):v5 P w H h a u:=e.ok ok
theorem pZ{kvs:List (jm×V)}(ok:dw P w H h)(e:Rd H a (.dK kvs)):kvs.length<=sizeLine/\(a==sysModules)=false/\∃vs,KV kvs vs/\h.DictOf (vm P w) a vs:=
 show v5 P w H h a (.dK kvs) from aku ok e
theorem aki{kvs:List (jm×V)}(ok:dw P w H h)(e:H a=some (.dK kvs)):kvs.length<=sizeLine/\(a==sysModules)=false/\∃vs,KV kvs vs/\h.DictOf (vm P w) a vs:=pZ ok (.inl e)
theorem mz{ks:List jm}(ok:dw P w H h)(e:H a=some (.tup (ks.map kV))):(tupleKind (vm P w)).is h ks a:=by obtain⟨_,J,r,o,U,g,n,j⟩:=(show v5 P w H h a (.tup (ks.map kV)) from ok a _ e);exact⟨o,J.toArray,n,U,g,j,by simpa using pi r⟩
theorem t9{kvs:List (List jm×V)}(ok:dw P w H h)(e:Rd H a (.dT kvs)):kvs.length<=sizeLine/\(a==sysModules)=false/\
 ∃xs,KT H kvs xs/\h.DictOfH (tupleKind (vm P w)) a xs:=by
 obtain⟨z,y,xs,r,o,g,j,C,I,T,h4,h5⟩:=(show v5 P w H h a (.dT kvs) from aku ok e);refine⟨z,y,xs,r,o,g,j,C,I,T,h4,λx J=>?_,h5⟩;have all:∀{l:List (List jm×V)} {m:List (List jm×Addr×Value)},KT H l m->∀x∈m,(tupleKind (vm P w)).is h x.1 x.2.1:=by
  intro l m q
  induction q with
  |nil=>intro x J;exact nomatch J
  |@cons p q ps qs U t ih=>
   intro x J;rcases Am.mp J with e|J
   ·subst e;exact mz ok (by rw[<-U.1];exact U.2.1)
   ·exact ih x J
 exact all r x J
theorem aoz{kvs:List (List jm×V)}(ok:dw P w H h)(e:H a=some (.dT kvs)):kvs.length<=sizeLine/\(a==sysModules)=false/\
 ∃xs,KT H kvs xs/\h.DictOfH (tupleKind (vm P w)) a xs:=t9 ok (.inl e)
end
def qJ(H:Hp)(a:Addr)(y:V)(r:Option V):Prop:=
 (∃kvs k,Rd H a (.dK kvs)/\y=kV k/\r=bH kvs k)\/∃kvs k b,Rd H a (.dT kvs)/\y=.ref b/\H b=some (.tup (k.map kV))/\r=bH kvs k
def aqq(H:Hp)(a:Addr)(y v:V)(H':Hp):Prop:=
 (∃kvs k,H a=some (.dK kvs)/\y=kV k/\kvs.length<sizeLine/\H'=upd H a (.dK (fP kvs k v)))\/
 ∃kvs k b,H a=some (.dT kvs)/\y=.ref b/\H b=some (.tup (k.map kV))/\kvs.length<sizeLine/\H'=upd H a (.dT (fP kvs k v))
theorem qJ.k{kvs:List (jm×V)}{k:jm}(e:H a=some (.dK kvs)):qJ H a (kV k) (bH kvs k):=.inl ⟨kvs,k,.inl e,rfl,rfl⟩
section
variable {y:V}{r:Value}{o:Option V}
theorem zd.big(I:zd X pins σ H s):sysModules<s.heap.objs.size:=by have h:mainGlobals<s.heap.objs.size:=(I.mod.glob.keeps I.bk).lt;exact Nat.lt_trans (by decide) h
theorem abr(hu:A.units+1<cLine)(I:zd X pins σ H s)(g:qJ H a y (some v))(T:j3 y u)(h:∀U s',zd X pins σ H s'->j3 v U->Q U s'):
 wpAny (model X.prog X.w) A (getItem (.ref a) u) Q E s:=by
 rcases g with⟨j,k,e,r,l⟩|⟨j,k,b,e,r,eb,l⟩
 ·subst r;obtain⟨z,hd,vs,rel,t⟩:=pZ I.hok e;obtain⟨U,hw,J⟩:=EU (v:=v) (o:=valueAt vs k) (by rw[l];exact rel.val k);exact wpAny_getItem_of (jR T) t.mapOf hw (h U _ (I.tok _) J)
 ·subst r;cases (show u=Value.ref b from T);obtain⟨z,hd,xs,rel,t⟩:=t9 I.hok e;obtain⟨U,hw,J⟩:=EU (v:=v) (o:=(atKey xs k).map (·.2)) (by rw[l];exact rel.val k);obtain⟨p,hp,C⟩:=Ao.mp hw;refine wpAny_getItem_heap (tupleKind_room_in1 hu) (mz I.hok eb) t hp ?_;rw[C];exact h U _ (I.tok _) J
theorem avf(r:A.units+1<cLine)(I:zd X pins σ H s)(g:qJ H a y o)(p:j3 y u)(h:∀s',zd X pins σ H s'->Q (.bool o.isSome) s'):
 wpAny (model X.prog X.w) A (compareOp .In u (.ref a)) Q E s:=by
 rcases g with⟨J,k,e,U,l⟩|⟨J,k,b,e,U,t,l⟩
 ·subst U;obtain⟨z,hd,C,rel,j⟩:=pZ I.hok e;refine wpAny_in_of (jR p) hd j.mapOf ?_;rw[<-(rel.val k).isSome_eq,<-l];exact h _ (I.tok _)
 ·subst U;cases (show u=Value.ref b from p);obtain⟨z,hd,T,rel,j⟩:=t9 I.hok e;refine wpAny_in_heap (tupleKind_room_in1 r) (mz I.hok t) hd j ?_;have q:=(rel.val k).isSome_eq;rw[B7] at q;rw[<-q,<-l];exact h _ (I.tok _)
theorem aj3(r:A.units+1<cLine)(I:zd X pins σ H s)(g:qJ H a y o)(p:j3 y u)(h:∀s',zd X pins σ H s'->Q (.bool (!o.isSome)) s'):
 wpAny (model X.prog X.w) A (compareOp .NotIn u (.ref a)) Q E s:=by
 rcases g with⟨J,k,e,U,l⟩|⟨J,k,b,e,U,t,l⟩
 ·subst U;obtain⟨z,hd,C,rel,j⟩:=pZ I.hok e;refine wpAny_notIn_of (jR p) hd j.mapOf ?_;rw[<-(rel.val k).isSome_eq,<-l];exact h _ (I.tok _)
 ·subst U;cases (show u=Value.ref b from p);obtain⟨z,hd,T,rel,j⟩:=t9 I.hok e;refine wpAny_notIn_heap (tupleKind_room_in1 r) (mz I.hok t) hd j ?_;have q:=(rel.val k).isSome_eq;rw[B7] at q;rw[<-q,<-l];exact h _ (I.tok _)
theorem rJ{ob:HO}(I:zd X pins σ H s)(J:Mut (H a))(hs:Heap.SameBut a s.heap h')(U:∃q,h'.get? a=some q)(new:v5 X.prog X.w (upd H a ob) h' a ob)(j:0<t':=by walk_at "t"):
 zd X pins σ (upd H a ob) { s with heap:=h',toks:=t' }:=
 I.write (x:=a) (e:=a) J (.inl rfl) (λb q g z=>(hs.2 b g).trans z) U new
theorem aei{P:Program}{w:World}{kvs:List (jm×V)}{vs:List (jm×Value)}(z:kvs.length<=sizeLine)(hd:(a==sysModules)=false)(rel:KV kvs vs)(dd:h'.DictOf (vm P w) a vs):
 v5 P w H' h' a (.dK kvs):=⟨z,hd,vs,rel,dd⟩
theorem aba{Q:Unit->Shared->Prop}(hu:A.units+1<cLine)(I:zd X pins σ H s)(g:aqq H a y v H')(ry:j3 y u)(rv:j3 v r)(h:∀s',zd X pins σ H' s'->Q () s'):
 wpAny (model X.prog X.w) A (setItem (.ref a) u r) Q E s:=by
 rcases g with⟨J,k,e,o,l,p⟩|⟨J,k,b,e,o,eb,l,p⟩
 ·subst o p;obtain⟨z,hd,vs,rel,t⟩:=aki I.hok e;have C:vs.length<=sizeLine:=by rw[<-rel.length];exact z
  have T:(fP J k v).length<=sizeLine:=by have:=eU J k v;lia
  refine wpAny_setItem_pairs (hsz:=C) (jR ry) t λh' U hs=>h _ ?_;have he:∃q,h'.get? a=some q:=let ⟨q,_,_,j,_⟩:=U;⟨q,j⟩;exact rJ I (by rw[e];exact True.intro) hs he (aei T hd (rel.put k rv) U)
 ·subst o p;cases (show u=Value.ref b from ry);obtain⟨z,hd,xs,rel,t⟩:=aoz I.hok e;have C:xs.length<=sizeLine:=by rw[<-Paired.length rel];exact z
  have T:(fP J k v).length<=sizeLine:=by have:=eU J k v;lia
  refine wpAny_setItem_heap (hsz:=C) (tupleKind_room_in1 hu) (mz I.hok eb) t λh' U hs=>h _ ?_;obtain⟨q,es,ep,j,h2,h3,h4,_,h5⟩:=U;refine rJ I (by rw[e];exact True.intro) hs ⟨q,j⟩ ⟨T,hd,_,(rel.put k eb rv).keeps λc ys ec=>?_,q,es,ep,j,h2,h3,h4,h5⟩;rw[qx (aqs ec e (λz=>nomatch z))];exact ec
end
section
variable {kvs:List (jm×V)}{k:jm}
end
def amg(i:Expr):Prop:=∀J U,subscripted i false J U=operate [J,U] (getItem J U)
theorem ais{w:World}{slice:Expr}{T id:String}
 (C:typeLookup (.type T) "__getitem__" = pure (some (.builtin id))) (hs:amg slice)
 (h:wpAny (model prog w) A (eval value env) (λo g=>wpAny (model prog w) A (eval slice env) (λi J=>J.TypeIs o T/\wpAny (model prog w) A (getItem o i) Q E J) E g) E s):
 wpAny (model prog w) A (eval (.Subscript value slice pos) env) Q E s:=by
 refine Subscript_ (AZ h (λo g l=>AZ l (λi J U=>?_) λ_ _ x=>x) λ_ _ x=>x);obtain⟨t,U⟩:=U;unfold subscriptTail;refine Aa ?_;rw[getitemInPython_of_ne t.not_modules];refine Aa (wpAny_specialOf t C ?_);have xi:wpAny (model prog w) A (subscripted slice false o i) (λr j=>wpAny (model prog w) A (letTemporaryGo value o r >>= λ_=>pure r) Q E j) E J:=by rw[hs o i];exact wpAny_operating (AZ U (λr j p=>Aa (wpAny_letTemporaryGo (Ai p))) λ_ _ x=>x)
 first
  |exact Ai (Aa xi)
  |exact Aa (Ai (Aa xi))
  |exact Aa xi
theorem uW{y:V}{o:Option V}(I:zd X pins σ H s)(g:qJ H a y o):s.TypeIs (.ref a) "dict" := by
 rcases g with⟨J,k,e,_,_⟩|⟨J,k,b,e,_,_,_⟩
 ·obtain⟨_,_,j,_,U⟩:=pZ I.hok e;exact U.typeIs
 ·obtain⟨_,_,l,_,U⟩:=t9 I.hok e;exact U.typeIs
def aq5(td ty:TE):TE:=λσ H Q=>td σ H λx H1=>ty σ H1 λy H2=>∃a v,x=.ref a/\qJ H2 a y (some v)/\Q v H2
def aps(td ty tv:TE):TS:=λD σ H=>tv σ H λv H1=>td σ H1 λx H2=>ty σ H2 λy U=>∃a J,x=.ref a/\aqq U a y v J/\D.nx σ J
section
variable {i:Expr}{tpos:Pos}{td ty tv:TE}
theorem aiw(p:X.A.units+1<cLine)(r:PE X o td)(hi:PE X i ty)(hs:amg i):PE X (.Subscript o i pos) (aq5 td ty):=by intro J s j H Q I h;refine ais Dl.lookup hs (bF (r J s j H _ I h) λu t x C T rx q1=>aV (hi J t j C _ T q1) λiv s2 ⟨y,H2,l,ry,a,v,ex,g,q2⟩=>?_);subst ex;obtain rfl:u=Value.ref a:=rx;exact⟨uW l g,abr p l g ry λw' s3 I3 U=>⟨v,H2,I3,U,q2⟩⟩
theorem aiu(j:X.A.units+1<cLine)(l:PE X o td)(hi:PE X i ty)(p:PE X value tv)(hs:swapsWith value (some (.Subscript o i hQ)) pos.line X.env=pure false):
 PS X (.Assign [.Subscript o i hQ] value pos) (aps td ty tv):=by
 intro J s U H D I h;refine wpAny_Assign_Subscript (bF (p J s U H _ I h) λr t v C T rv q1=>bF (l J t U C _ T q1) λu s2 x H2 I2 rx q2=>aV (hi J s2 U H2 _ I2 q2) λiv s3 ⟨y,H3,I3,ry,a,H4,ex,g,q3⟩=>?_) hs;subst ex;obtain rfl:u=Value.ref a:=rx;exact aba j I3 g ry rv λs4 I4=>⟨U,H4,I4,q3⟩
end
theorem uS{P:Program}{w:World}(h:Heap)(J:sysModules<h.objs.size):v5 P w H (h.push { cls:=.type "dict",data:=.dict #[] }) h.objs.size (.dK []):=
 ⟨Bd _,beq_eq_false_iff_ne.mpr (AI (A2 J)),[],.nil,Heap.DictOf.new h⟩
def amh:TE:=λ_ H Q=>∀p,H p=none->Q (.ref p) (upd H p (.dK []))
theorem afj:PE X (.Dict [] [] pos) amh:=λJ s U H Q I h=>
 wpAny_Dict_empty ⟨.ref s.heap.objs.size,_,I.laid (a:=s.heap.objs.size) (o:=.dK []) (t':=s.toks) (λ_ _ q=>r4 _ q) (Al _) (uS s.heap I.big),rfl,h _ (I.hok.fresh (Al _))⟩
def qP:List (TE×TE)->St->Hp->(List (V×V)->Hp->Prop)->Prop
 |[],_,H,Q=>Q [] H
 |(tk,tv)::r,σ,H,Q=>tk σ H λx H1=>tv σ H1 λy H2=>qP r σ H2 λps J=>Q ((x,y)::ps) J
abbrev VV:List (V×V)->List (Value×Value)->Prop:=Paired λp q=>j3 p.1 q.1/\j3 p.2 q.2
def PPs(X:Cx)(pos:Pos)(keys:List (Option Expr))(values:List Expr)(J:List (TE×TE)):Prop:=
 ∀(pins:List (Addr×Obj)) (s:Shared) (σ:St) (H:Hp) (Q:List (V×V)->Hp->Prop),zd X pins σ H s->qP J σ H Q->
  wpAny (model X.prog X.w) X.A (evalPairs (pairTrees keys values X.env pos)) (λvs s'=>∃ps H',zd X pins σ H' s'/\VV ps vs/\Q ps H') X.xe s
theorem aiv :PPs X pos [] [] []:=λJ s U H Q I h=>pairTrees_nil_walk ⟨[],H,I,.nil,h⟩
theorem iJ{k v:Expr}{ks:List (Option Expr)}{vs:List Expr}{tk tv:TE}{U:List (TE×TE)}(j:PE X k tk)(l:PE X v tv)(o:PPs X pos ks vs U):
 PPs X pos (some k::ks) (v::vs) ((tk,tv)::U):=λJ s g H Q I h=>
 pairTrees_cons_walk (bF (j J s g H _ I h) λu p x r t C T=>bF (l J p g r _ t T) λw2 s2 y H2 I2 ry q2=>
  aV (o J s2 g H2 _ I2 q2) λws s3 ⟨ps,H3,I3,rel,q3⟩=>⟨(x,y)::ps,H3,I3,.cons ⟨C,ry⟩ rel,q3⟩)
def i8(kvs more:List (jm×V)):List (jm×V):=more.foldl (λJ U=>fP J U.1 U.2) kvs
theorem KV.merge:∀{more:List (jm×V)} {J:List (jm×Value)} {kvs:List (jm×V)} {vs:List (jm×Value)},KV more J->KV kvs vs->KV (i8 kvs more) (merged vs J):=by
 intro more J kvs vs r;unfold KV at r
 induction r generalizing kvs vs with
 |nil=>intro q;exact q
 |@cons p q j l h t U=>
  intro g;have e:KV (fP kvs p.1 p.2) (stored vs q.1 q.2):=by have:=g.put p.1 h.2;rw[<-h.1];exact this
  exact U e
theorem gA:∀(more kvs:List (jm×V)),(i8 kvs more).length<=kvs.length+more.length
 |[],kvs=>by show kvs.length<=kvs.length+0;lia
 |p::r,kvs=>by have J:=gA r (fP kvs p.1 p.2);have U:=eU kvs p.1 p.2;show(i8 (fP kvs p.1 p.2) r).length<=_;rw[AQ];lia
theorem oO{P:Program}{w:World}:∀{kvs:List (jm×V)} {U:List (Value×Value)},VV (kvs.map λg=>(kV g.1,g.2)) U->∃J,Carries (vm P w) U J/\KV kvs J
 |[],_,r=>by rw[CO] at r;cases r;exact⟨[],True.intro,.nil⟩
 |p::kvs,_,r=>by
  rw[AE] at r;cases r with
  |@cons a b as bs h t=>
   obtain⟨J,c,q⟩:=oO (P:=P) (w:=w) t;obtain⟨b1,b2⟩:=b;exact⟨(p.1,b2)::J,⟨jR h.1,rfl,c⟩,.cons ⟨rfl,h.2⟩ q⟩
def aos(J:List (TE×TE)):TE:=λσ H Q=>∀p,H p=none->qP J σ (upd H p (.dK [])) λps H2=>H2 p=some (.dK [])/\∃kvs:List (jm×V),ps=kvs.map (λU=>(kV U.1,U.2))/\kvs.length<=15/\Q (.ref p) (upd H2 p (.dK (i8 [] kvs)))
theorem aie{keys:List (Option Expr)}{values:List Expr}{J:List (TE×TE)}(h:PPs X pos keys values J)(U:keys.all (·.isSome)=true)(t:keys.length=values.length)(C:keys≠[])
 (p:keys.length<=15):PE X (.Dict keys values pos) (aos J):=by
 intro g s T H Q I q;have hn:=I.hok.fresh (Al s.heap.objs.size);have I1:=I.laid (a:=s.heap.objs.size) (o:=.dK []) (h':=s.heap.push { cls:=.type "dict",data:=.dict #[] }) (t':=s.toks) (λ_ _ q=>r4 _ q) (Al _) (uS s.heap I.big);refine wpAny_Dict_walk (knd:=vm X.prog X.w) U t C p (aV (h g _ T _ _ I1 (q _ hn)) λws s2 ⟨ps,H2,r,rel,e,j,ep,lk,q2⟩=>?_);subst ep;obtain⟨rs,c,rk⟩:=oO (P:=X.prog) (w:=X.w) rel;obtain⟨z,hd,a0,r0,dd⟩:=aki r.hok e;cases r0;refine⟨rs,c,dd,λh' l hs=>⟨.ref s.heap.objs.size,_,?_,rfl,q2⟩⟩;have hz:(i8 [] j).length<=sizeLine:=by have h1:=gA j [];rw[List.length_nil] at h1;rw[sizeLine_eq];lia
 have he:∃q,h'.get? s.heap.objs.size=some q:=let ⟨q,_,_,hq,_⟩:=l;⟨q,hq⟩;exact rJ r (by rw[e];exact True.intro) hs he (aei hz hd (rk.merge .nil) l)
section
variable {y d:V}{r:Value}{o:Option V}
end
section
variable {f:Expr}{td ty tx:TE}
end
section
variable {kvs:List (jm×V)}
end
section
variable {y:V}
end
end L2
namespace HT
open PySem PyProof.Rows
section
open PySem.SeqAt
open PySem.AutoSeq1 (wpAny_loadPart')
open PySem.MeetsSeq PySem.MeetsSeq2 PySem.MeetsSeq3
end
section
variable {w:World}
theorem cat_tup{t:Addr}{J:List Value}(ht:IsTup s.heap t vs.toArray)(hb:IsTup s.heap b J.toArray)(r:vs≠[])
 (h1:J=[]->Q (.ref t) s) (h2:J≠[]->Q (.ref s.heap.objs.size) { s with heap:=s.heap.push { cls:=.type "tuple",data:=.seq (vs++J).toArray } })
 (hsz:vs.length+J.length<=sizeLine):wpAny (model prog w) A (binaryOp .Add (.ref t) (.ref b)) Q E s:=by
 obtain⟨⟨cls,C,data,I⟩,p,T,n,hd⟩:=id ht;obtain⟨⟨a0,g,data2,j⟩,U,l,n2,o⟩:=id hb;simp only at T hd l o;subst T hd l o;have e:vs.toArray++J.toArray=(vs++J).toArray:=by simp
 by_cases hw:J=[]
 ·exact concat_meets ⟨_,p,rfl⟩ ⟨_,U,rfl⟩ noFill_tuple_add seq_tuple_add DJ Dx (Du _ _)
   (tuple_addW1 t b vs.toArray J.toArray n n2 C g I j (by simpa using r) (by simp[hw])) ⟨p,U,h1 hw⟩
 ·refine concat_meets ⟨_,p,rfl⟩ ⟨_,U,rfl⟩ noFill_tuple_add seq_tuple_add DJ Dx (Du _ _)
   (tuple_addW2 t b vs.toArray J.toArray n n2 C g I j (by simpa using r) (by simpa using hw) (by rw[Aq,Aq];exact hsz)) ⟨p,U,?_⟩
  rw[e];exact h2 hw
def sIx(n d:Nat):Option Int->Nat
 |none=>d
 |some v=>if v<0 then(v+(n:Int)).toNat else min v.toNat n
theorem sIx_none(n d:Nat):sIx n d none=d:=rfl
theorem sIx_nat(n d k:Nat):sIx n d (some (k:Int))=min k n:=by show(if (k:Int)<0 then((k:Int)+(n:Int)).toNat else min (k:Int).toNat n)=min k n;rw[AG (by lia),AR]
theorem sIx_le(n d:Nat)(hd:d<=n)(o:Option Int):sIx n d o<=n:=by
 cases o with
 |none=>exact hd
 |some v=>
  show(if v<0 then(v+(n:Int)).toNat else min v.toNat n)<=n;by_cases J:v<0
  ·rw[AF J];lia
  ·rw[AG J];exact Nat.min_le_right _ _
theorem xW(v:Int)(n d:Nat):(if v<0 then max (v+(n:Int)) 0 else min v (n:Int))=((sIx n d (some v):Nat):Int):=by
 show(if v<0 then max (v+(n:Int)) 0 else min v (n:Int))=(((if v<0 then(v+(n:Int)).toNat else min v.toNat n):Nat):Int);by_cases J:v<0
 ·simp only[AF J];lia
 ·simp only[AG J];lia
theorem wG(lo hi:Option Int)(n:Nat):Builtin.Slice.sliceAdjust lo hi 1 (n:Int)=(((sIx n 0 lo:Nat):Int),(sIx n n hi:Int)):=by
 have J:¬((1:Int)<0):=by lia
 unfold Builtin.Slice.sliceAdjust;simp only[J,if_false];refine Prod.ext ?_ ?_
 ·cases lo with|none=>rfl|some v=>exact xW v n 0
 ·cases hi with|none=>rfl|some v=>exact xW v n n
theorem vW(i j:Nat):Builtin.Slice.slicePlaces (i:Int) (j:Int) 1=j-i:=by
 unfold Builtin.Slice.slicePlaces;have J:(1:Int) > 0:=by lia
 simp only[J,if_true,Int.ediv_one];split<;>lia
theorem oA{v:Value}{o:Option Int}{Q:Option Int->Shared->Prop}(p:IsPart v o)(h:Q o s):wpAny (model prog w) A (Builtin.Slice.slicePartIndex v) Q E s:=by cases p with|none=>exact slicePart_none h|int i t=>exact slicePart_int h
theorem jC{l:Addr}{g j:Value}{lo hi:Option Int}{Q:Int×Int×Nat->Shared->Prop}(hs:s.heap.IsSliceOf l g j .none)(pl:IsPart g lo)(o:IsPart j hi)
 (h:Q (((sIx n 0 lo:Nat):Int),1,sIx n n hi-sIx n 0 lo) s):wpAny (model prog w) A (Builtin.Slice.sliceApplied (.ref l) (pure (n:Int))) Q E s:=by
 obtain⟨os,J,p,U⟩:=id hs;unfold Builtin.Slice.sliceApplied Builtin.Slice.sliceFields;refine Aa (Aa (AX J U (x:=g) rfl (Aa (AX J U (x:=j) rfl (Aa (AX J U (x:=.none) rfl (Ai ?_)))))));refine Aa (slicePart_none ?_);show wpAny _ _ (if ((1:Int)==0)=true then _ else _) _ _ s;rw[AG (by decide)];refine Aa (oA pl (Aa (oA o (Aa (Ai ?_)))));show wpAny _ _ (match Builtin.Slice.sliceAdjust lo hi 1 (n:Int) with|(lo,hi)=>pure (lo,(1:Int),Builtin.Slice.slicePlaces lo hi 1)) _ _ s;rw[wG lo hi n];show wpAny _ _ (pure (((sIx n 0 lo:Nat):Int),(1:Int),Builtin.Slice.slicePlaces ((sIx n 0 lo:Nat):Int) (sIx n n hi:Int) 1)) _ _ s;rw[vW];exact Ai h
theorem afs(xs:Array Value)(i k:Nat):((List.range k).filterMap λ(m:Nat)=>xs[((i:Int)+(m:Int)*1).toNat]?).toArray=((xs.toList.drop i).take k).toArray:=by
 have e:(λ(m:Nat)=>xs[((i:Int)+(m:Int)*1).toNat]?)=λm=>xs[i+m]?:=by
  funext m;have:((i:Int)+(m:Int)*1).toNat=i+m:=by lia
  rw[this]
 rw[e];have:=pick_run xs i k;rw[List.filterMap_map] at this;have J:((λx=>xs[x]?)∘λx=>i+x)=λm=>xs[i+m]?:=rfl;rw[J] at this;rw[this]
theorem getItem_tuple_cut{t g:Addr}{items:Array Value}{r C:Value}{lo hi:Option Int}(U:IsTup s.heap t items)(hs:s.heap.IsSliceOf g r C .none)(pl:IsPart r lo)(I:IsPart C hi)
 (hw:¬(sIx items.size 0 lo=0/\sIx items.size items.size hi=items.size))
 (h:Q (.ref s.heap.objs.size) { s with heap:=s.heap.push { cls:=.type "tuple",data:=.seq ((items.toList.drop (sIx items.size 0 lo)).take (sIx items.size items.size hi-sIx items.size 0 lo)).toArray } })
 (hsz:items.size<=sizeLine):wpAny (model prog w) A (getItem (.ref t) (.ref g)) Q E s:=by
 have J:sizeOk (.seq ((items.toList.drop (sIx items.size 0 lo)).take (sIx items.size items.size hi-sIx items.size 0 lo)).toArray):=by show((items.toList.drop (sIx items.size 0 lo)).take (sIx items.size items.size hi-sIx items.size 0 lo)).toArray.size<=sizeLine;rw[Aq,A1,CA,Bu];lia
 have hj:sIx items.size items.size hi<=items.size:=sIx_le _ _ (Al _) hi;obtain⟨os,j,l,T⟩:=id hs;have o:s.TypeIs (.ref g) "slice" := ⟨os,j,l⟩;unfold getItem
 try with_reducible refine AY ?_
 first|refine Aa (Ai ?_)|skip
 refine Aa (wpAny_sequenceKey U.typeIs (by decide) ?_);refine Aa (wpAny_callSpecial?_slot (name:=Str.ofString "__getitem__") U.typeIs Ci
  (wpAny_call_entry Ci U.typeIs entry_tuple_getitem ?_ (args_tuple_getitem _ _)))
 show wpAny _ _ (Builtin.Tuple.tupleItemsOf (.ref t) >>= _) _ _ s;refine Aa (tupleItemsOf_ U ?_);refine Aa (wpAny_typeOf o ?_);rw[AF (by decide)];refine Aa (jC hs pl I ?_);have p:¬((((sIx items.size 0 lo:Nat):Int)==0&&(1:Int)==1&&(sIx items.size items.size hi-sIx items.size 0 lo)==items.size)=true):=by intro q;rw[A4,A4] at q;have q1:((sIx items.size 0 lo:Nat):Int)=0:=eq_of_beq q.1.1;have q2:sIx items.size items.size hi-sIx items.size 0 lo=items.size:=eq_of_beq q.2;exact hw ⟨by lia,by lia⟩
 show wpAny _ _ (if (((sIx items.size 0 lo:Nat):Int)==0&&(1:Int)==1&&(sIx items.size items.size hi-sIx items.size 0 lo)==items.size)=true then _ else _) _ _ s;rw[AG p,afs]
 first
  |exact Aa (m:=Builtin.Tuple.tupleExact _) (Bo (Ai ⟨_,rfl,Ai h⟩) J)
  |exact Aa (m:=Builtin.Tuple.tupleExact _) (Bo (Aa (Ai (Ai ⟨_,rfl,Ai h⟩))) J)
  |exact Aa (Aa (m:=Builtin.Tuple.tupleExact _) (Bo (Ai (Ai ⟨_,rfl,Ai h⟩)) J))
  |exact Aa (Aa (m:=Builtin.Tuple.tupleExact _) (Bo (Ai ⟨_,rfl,Ai h⟩) J))
end
end HT
namespace L2
open PySem PySem.Spec PyProof.Rows
abbrev TO:=St->Hp->(Option Int->Hp->Prop)->Prop
def PO(X:Cx)(e:Option Expr)(t:TO):Prop:=
 ∀(pins:List (Addr×Obj)) (s:Shared) (σ:St) (H:Hp) (Q:Option Int->Hp->Prop),zd X pins σ H s->t σ H Q->
  wpAny (model X.prog X.w) X.A (evalPart e X.env) (λu s'=>∃o H',zd X pins σ H' s'/\IsPart u o/\Q o H') X.xe s
def agu:TO:=λ_ H Q=>Q none H
def aou(t:TE):TO:=λσ H Q=>t σ H λx H1=>∃i,x=.int i/\Q (some i) H1
section
variable {te:TE}{lo hi:Option Expr}{tl th:TO}
theorem aji:PO X none agu:=by intro J s U H Q I h;rw[evalPart_none];exact Ai ⟨none,H,I,.none,h⟩
theorem ahn(h:PE X e te):PO X (some e) (aou te):=by intro J s U H Q I hw;rw[evalPart_some];refine bF (h J s U H _ I hw) λu p x g j l o=>?_;obtain⟨i,rfl,q⟩:=o;obtain⟨t,rfl⟩:=l;exact⟨some i,g,j,.int i t,q⟩
def sW(X:Cx)(r:V->Option Int->Option Int->Hp->VK->Prop):Prop:=
 ∀(pins:List (Addr×Obj)) (s:Shared) (σ:St) (H:Hp) (x:V) (v J U:Value) (lo hi:Option Int) (g:Addr) (Q:VK),zd X pins σ H s->j3 x v->s.heap.IsSliceOf g J U .none->IsPart J lo->IsPart U hi->r x lo hi H Q->
  ∃T id,typeLookup (.type T) "__getitem__" = pure (some (.builtin id))/\s.TypeIs v T/\wpAny (model X.prog X.w) X.A (getItem v (.ref g)) (EP X pins σ Q) X.xe s
theorem sW.or{U:V->Option Int->Option Int->Hp->VK->Prop}(h:sW X r)(h':sW X U):sW X (λx lo hi H Q=>r x lo hi H Q\/U x lo hi H Q):=by
 intro J s g H x v j l lo hi o Q I p t pl C q;rcases q with q|q
 ·exact h J s g H x v j l lo hi o Q I p t pl C q
 ·exact h' J s g H x v j l lo hi o Q I p t pl C q
def tSl(r:V->Option Int->Option Int->Hp->VK->Prop)(te:TE)(tl th:TO):TE:=λσ H Q=>te σ H λx H1=>tl σ H1 λl H2=>th σ H2 λu J=>r x l u J Q
theorem aca(t:sW X r)(C:PE X e te)(hl:PO X lo tl)(hu:PO X hi th):PE X (.Subscript e (.Slice lo hi none p2) pos) (tSl r te tl th):=by intro J s g H Q I h;refine Subscript_ (aV (C J s g H _ I h) λv s1 ⟨x,H1,I1,r1,q1⟩=>?_);refine wpAny_Slice (aV (hl J s1 g H1 _ I1 q1) λj s2 ⟨l,H2,I2,pl,q2⟩=>aV (hu J s2 g H2 _ I2 q2) λo U ⟨u,p,I3,pu,q3⟩=>?_);rw[evalPart_none];refine Ai ?_;have I4:zd X J g p { U with heap:=U.heap.push { cls:=.type "slice",data:=.fields #[j,o,.none] } }:=I3.kept (t':=U.toks) λb ob q=>r4 _ q;obtain⟨T,id,hT,ht,hg⟩:=t J { U with heap:=U.heap.push { cls:=.type "slice",data:=.fields #[j,o,.none] } } g p x v j o l u U.heap.objs.size Q I4 r1 (Heap.IsSliceOf.new ..) pl pu q3;show wpAny (model X.prog X.w) X.A (subscriptTail e (.Slice lo hi none p2) v (.ref U.heap.objs.size)) (EP X J g Q) X.xe { U with heap:=U.heap.push { cls:=.type "slice",data:=.fields #[j,o,.none] } };exact tail_any (ops:=[.ref U.heap.objs.size,v]) ht hT hg (by with_unfolding_all rfl)
def so(xs:List V)(lo hi:Option Int):List V:=(xs.drop (HT.sIx xs.length 0 lo)).take (HT.sIx xs.length xs.length hi-HT.sIx xs.length 0 lo)
theorem jW(xs:List V)(lo hi:Option Int):(so xs lo hi).length<=xs.length:=by unfold so;rw[A1,CA];lia
def auw(K:Ah):V->Option Int->Option Int->Hp->VK->Prop:=λx lo hi H Q=>∃a xs,x=.ref a/\cg K H a xs/\
 ¬(HT.sIx xs.length 0 lo=0/\HT.sIx xs.length xs.length hi=xs.length)/\∀p,H p=none->Q (.ref p) (upd H p (.tup (so xs lo hi)))
theorem ao4:sW X (auw X.K):=by
 intro l s σ H x v vl vu lo g sl Q I C T pl pu h;obtain⟨a,U,rfl,hx,hw,q⟩:=h;cases C;obtain⟨j,r,p,t⟩:=I.tuple hx;have J:j.toArray.size=U.length:=by rw[Aq];exact r.length.symm
 refine⟨"tuple",_,Ci.lookup,p.typeIs,?_⟩;refine HT.getItem_tuple_cut p T pl pu (by rw[J];exact hw) ?_ (by rw[J];exact t);rw[J];refine⟨.ref s.heap.objs.size,_,I.laid (t':=s.toks) (o:=.tup (so U lo g)) (λb ob q=>r4 _ q) (Al _) ?_,rfl,q _ (I.hok.fresh (Al _))⟩;exact⟨AU (jW U lo g) t,_,(r.drop (HT.sIx U.length 0 lo)).take (HT.sIx U.length U.length g-HT.sIx U.length 0 lo),IsTup.new _ _⟩
def aq6(K:Ah):R2:=λx y H Q=>∃a b xs ys,x=.ref a/\y=.ref b/\cg K H a xs/\cg K H b ys/\xs≠[]/\xs.length+ys.length<=sizeLine/\
 (ys=[]->Q (.ref a) H)/\(ys≠[]->∀p,H p=none->Q (.ref p) (upd H p (.tup (xs++ys))))
theorem zr.nil_iff(r:zr xs us):us=[]↔xs=[]:=by cases r with|nil=>simp|cons _ _=>simp
theorem ajw:kw X (binaryOp .Add) (aq6 X.K):=by intro g s σ H x y v u Q I p r h;obtain⟨a,b,t,C,rfl,rfl,T,hb,hx,j,q1,q2⟩:=h;cases p;cases r;obtain⟨a0,U,p1,_⟩:=I.tuple T;obtain⟨l,J,p2,_⟩:=I.tuple hb;refine HT.cat_tup p1 p2 (λz=>hx (U.nil_iff.mp z)) (λz=>⟨.ref a,H,I,rfl,q1 (J.nil_iff.mp z)⟩) (λz=>?_) (by rw[<-U.length,<-J.length];exact j);refine⟨.ref s.heap.objs.size,_,I.laid (t':=s.toks) (o:=.tup (t++C)) (λb ob q=>r4 _ q) (Al _) ?_,rfl,q2 (λw=>z (J.nil_iff.mpr w)) _ (I.hok.fresh (Al _))⟩;exact⟨by rw[Ad];exact j,_,U.append J,IsTup.new _ _⟩
end
def ixN(n:Nat)(i:Int):Option Nat:=if 0<=i then(if i<n then some i.toNat else none) else if -(n:Int)<=i then some (i+n).toNat else none
def iL(xs:List α)(i:Int):Option α:=(ixN xs.length i).bind λj=>xs[j]?
theorem yJ{i:Int}(h:ixN n i=some j):seqIndex? i n=some j/\j<n /\ -(n:Int)<=i/\i<n:=by
 unfold ixN at h;by_cases U:0<=i
 ·rw[AF U] at h;by_cases J:i<n
  ·rw[AF J] at h;have e:i.toNat=j:=AN h;exact⟨by rw[seqIndex_of U J,e],by lia,by lia,J⟩
  ·rw[AG J] at h;cases h
 ·rw[AG U] at h;by_cases J : -(n:Int)<=i
  ·rw[AF J] at h;have e:(i+n).toNat=j:=AN h;exact⟨by rw[seqIndex_neg (by lia) J,e],by lia,J,by lia⟩
  ·rw[AG J] at h;cases h
theorem rN{xs:List α}{i:Int}{v:α}(h:iL xs i=some v):∃j,seqIndex? i xs.length=some j/\xs[j]?=some v/\j<xs.length /\ -(xs.length:Int)<=i/\i<xs.length:=by
 unfold iL at h;cases e:ixN xs.length i with
 |none=>rw[e] at h;cases h
 |some j=>
  rw[e] at h;obtain⟨J,U,g,l⟩:=yJ e;exact⟨j,J,h,U,g,l⟩
theorem xq{xs:List α}{v:α}(h:xs[j]?=some v):iL xs (j:Int)=some v:=by
 have J:j<xs.length:=(AV.mp h).1;have e:ixN xs.length (j:Int)=some j:=by unfold ixN;rw[AF (by lia),AF (by lia)];simp
 unfold iL;rw[e];exact h
theorem eh(xs:List α)(v:α):iL (xs++[v]) (-1)=some v:=by
 have J:(xs++[v]).length=xs.length+1:=by simp
 have e:ixN (xs++[v]).length (-1)=some xs.length:=by unfold ixN;rw[J,AG (by decide),AF (by lia)];congr 1;lia
 unfold iL;rw[e];show(xs++[v])[xs.length]?=some v;simp
def lL(b:Expr):Prop:=∀o i,subscripted b false o i=operate [o,i] (getItem o i)
def IxR(X:Cx)(r:R2):Prop:=
 ∀(value slice:Expr) (pins:List (Addr×Obj)) (s:Shared) (σ:St) (H:Hp) (x y:V) (v u:Value) (Q:VK),zd X pins σ H s->j3 x v->j3 y u->r x y H Q->
  subscripted slice false v u=operate [v,u] (getItem v u)->wpAny (model X.prog X.w) X.A (subscriptTail value slice v u) (EP X pins σ Q) X.xe s
def MtR(X:Cx)(id:String)(r:V->List V->Hp->VK->Prop):Prop:=
 ∀(pins:List (Addr×Obj)) (s:Shared) (σ:St) (H:Hp) (x:V) (xs:List V) (v:Value) (us:List Value) (Q:VK),zd X pins σ H s->j3 x v->zr xs us->r x xs H Q->
  wpAny (model X.prog X.w) X.A (call (.builtin id) (v::us)) (EP X pins σ Q) X.xe s
section
variable {a b:Expr}{tb:TE}
theorem akh{r:R2}(U:IxR X r)(g:PE X a ta)(j:PE X b tb)(hs:lL b):PE X (.Subscript a b pos) (tOp r ta tb):=by intro J s l H Q I h;exact Subscript_ (alc g j I h λv u o x y p t C T q=>U a b J o l p x y v u Q t C T q (hs _ _))
def avr(K:Ah):R2:=λx y H Q=>∃p xs i v,x=.ref p/\y=.int i/\aQ K H p xs/\iL xs i=some v/\Q v H
def ass(K:Ah):R2:=λx y H Q=>∃p xs i v,x=.ref p/\y=.int i/\cg K H p xs/\iL xs i=some v/\Q v H
def auj:R2:=λx y H Q=>∃z i c,x=.str z/\y=.int i/\z.length<=sizeLine/\iL z.cps.toList i=some c/\Q (.str ⟨#[c]⟩) H
theorem ah0:IxR X (avr X.K):=by
 intro value slice J s C H x y v u Q I rx ry h T;obtain⟨p,xs,i,z,rfl,rfl,hq,he,q⟩:=h;cases rx;obtain⟨t,rfl⟩:=ry;obtain⟨g,r,pl,hz⟩:=I.list hq;obtain⟨j,U,h2,h3,h4,h5⟩:=rN he;obtain⟨w,ew,l⟩:=r.get h2;have hl:=r.length;have hn:=jI;have xi:EP X J C Q w s:=⟨z,H,I,l,q⟩;by_cases h0:0<=i
 ·have o:i.toNat=j:=by rw[seqIndex_of h0 h5] at U;exact AN U
  exact item_listR pl.isList h0 (by lia) (by rw[o];simpa using ew) xi T
 ·have o:(i+(g.toArray.size:Int)).toNat=j:=by rw[seqIndex_neg (by lia) h4] at U;rw[Aq,<-hl];exact AN U
  exact subscriptTail_builtinR (x:=w) pl.isList.typeIs slot_list_getitem.lookup
   (wpAny_getItem_list_neg (Q:=λr s'=>r=w/\EP X J C Q r s') pl.isList (by lia) (by rw[Aq]<;>lia) (by lia) (by rw[o];simpa using ew) ⟨rfl,xi⟩) T
theorem alr:IxR X (ass X.K):=by
 intro value slice J s g H x y v u Q I l o h C;obtain⟨p,xs,i,z,rfl,rfl,T,he,q⟩:=h;cases l;obtain⟨t,rfl⟩:=o;obtain⟨a0,r,pl,hz⟩:=I.tuple T;obtain⟨j,h1,h2,h3,h4,h5⟩:=rN he;obtain⟨w,ew,U⟩:=r.get h2;have hl:=r.length;have hn:=jI;have xi:EP X J g Q w s:=⟨z,H,I,U,q⟩;exact subscriptTail_builtinR (x:=w) pl.typeIs slot_tuple_getitem.lookup
  (getItem_tuple (j:=j) (Q:=λr s'=>r=w/\EP X J g Q r s') pl (by lia) (by lia) (by rw[Aq,<-hl];exact h1) (by simpa using ew) ⟨rfl,xi⟩) C
theorem ano:IxR X auj:=by
 intro value slice J s σ H x y v u Q I g l h o;obtain⟨z,i,c,rfl,rfl,hz,p,q⟩:=h;obtain⟨t,rfl⟩:=g;obtain⟨t',rfl⟩:=l;obtain⟨j,U,r,h3,C,T⟩:=rN p;have hl:z.cps.toList.length=z.length:=by simp[Str.length]
 rw[hl] at U C T;have hn:=jI;exact tail_any (typeIs_str s z t) slot_str_getitem.lookup (getItem_str (c:=c) (by have e1:decide (i < -(2 ^ 63:Int))=false:=Ay (by lia);have e2:decide (i>=2 ^ 63)=false:=Ay (by lia);rw[e1,e2,Bool.or_false]) (by rw[U];simpa using r) ⟨.str ⟨#[c]⟩,H,I.tok _,⟨_,rfl⟩,q⟩) o
theorem vR(eH:List Value)(n j:Nat)(u:Value):Obj.mapSeq (·.setIfInBounds j u) { cls:=.type "list",data:=.seq eH.toArray n }={ cls:=.type "list",data:=.seq (eH.set j u).toArray n }:=by simp[Obj.mapSeq]
theorem zd.lst{p:Addr}(I:zd X pins σ H s)(h:H p=some (.lst xs)):
 ∃(eH:List Value) (n:Nat),zr xs eH/\s.heap.get? p=some { cls:=.type "list",data:=.seq eH.toArray n }/\xs.length<=sizeLine:=by
 obtain⟨z,eH,n,r,e⟩:=I.hok p _ h;exact⟨eH,n,r,e,z⟩
theorem zd.lstUpd{p:Addr}{ys:List V}{its':List Value}{J:Nat}{f:Obj->Obj}(I:zd X pins σ H s)(h:H p=some (.lst xs))
 (g:s.heap.get? p=some { cls:=.type "list",data:=.seq eH.toArray n }) (U:f { cls:=.type "list",data:=.seq eH.toArray n }={ cls:=.type "list",data:=.seq its'.toArray J }) (r:zr ys its') (hz:ys.length<=sizeLine) (t:Nat) (l:0<t:=by walk_at "t"):
 zd X pins σ (upd H p (.lst ys)) { s with heap:=s.heap.update p f,toks:=t }:=by
 have e:(s.heap.update p f).get? p=some { cls:=.type "list",data:=.seq its'.toArray J }:=by rw[xT f g (by rw[U]<;>rfl),U]
 refine I.write (x:=p) (e:=p) (by rw[h];trivial) (.inl rfl) (λb u j q=>(wh _ _ (AI j)).trans q) ⟨_,e⟩ ?_;exact⟨hz,its',J,r,e⟩
def ar0:V->V->V->Hp->(Hp->Prop)->Prop:=λo i v H Q=>∃p xs k j,o=.ref p/\i=.int k/\H p=some (.lst xs)/\ixN xs.length k=some j/\Q (upd H p (.lst (xs.set j v)))
theorem ag6:apz X ar0:=by
 intro J s σ H o i v ov iv u Q I ro ri rv h;obtain⟨p,xs,k,j,rfl,rfl,hp,hj,q⟩:=h;cases ro;obtain⟨t,rfl⟩:=ri;obtain⟨U,n,r,l,hz⟩:=I.lst hp;obtain⟨g,h2,h3,h4⟩:=yJ hj;have C:=r.length;have hn:=jI;have I':zd X J σ (upd H p (.lst (xs.set j v))) { s with heap:=s.heap.update p (Obj.mapSeq (·.setIfInBounds j u)) }:=
  I.lstUpd hp l (vR U n j u) (r.set rv j) (by rw[DM];exact hz) s.toks
 by_cases h0:0<=k
 ·have T:k.toNat=j:=by rw[seqIndex_of h0 h4] at g;exact AN g
  exact PySem.W.ki_setAt l h0 (by lia) (by rw[Aq,<-C];exact h4) (by rw[T];exact⟨_,I',q⟩)
 ·have T:(k+(U.toArray.size:Int)).toNat=j:=by rw[seqIndex_neg (by lia) h3] at g;rw[Aq,<-C];exact AN g
  exact PySem.W.ki_setBack l (by lia) (by rw[Aq,<-C];exact h3) (by lia) (by rw[T];exact⟨_,I',q⟩)
theorem qY(lo hi:Option Int)(n:Nat):(sliceBounds lo hi none n).1=((HT.sIx n 0 lo:Nat):Int)/\(sliceBounds lo hi none n).2.1=((HT.sIx n n hi:Nat):Int)/\(sliceBounds lo hi none n).2.2=1:=by
 refine⟨?_,?_,rfl⟩
 ·cases lo with
  |none=>simp[sliceBounds,HT.sIx]
  |some i=>
   simp only[sliceBounds,HT.sIx,Option.getD_none,show(1:Int) > 0 by decide,if_true];by_cases h:i<0
   ·simp only[h,if_true]<;>lia
   ·simp only[h,if_false]<;>lia
 ·cases hi with
  |none=>simp[sliceBounds,HT.sIx]
  |some i=>
   simp only[sliceBounds,HT.sIx,Option.getD_none,show(1:Int) > 0 by decide,if_true];by_cases h:i<0
   ·simp only[h,if_true]<;>lia
   ·simp only[h,if_false]<;>lia
theorem om(eH:List Value)(lo hi:Option Int):slicePick eH.toArray lo hi none=((eH.drop (HT.sIx eH.length 0 lo)).take (HT.sIx eH.length eH.length hi-HT.sIx eH.length 0 lo)).toArray:=by obtain⟨J,U,g⟩:=qY lo hi eH.toArray.size;unfold slicePick;rw[J,U,g];simp only[sliceRange_one,pick_run,Aq]<;>rfl
def aso(K:Ah):V->Option Int->Option Int->Hp->VK->Prop:=λx lo hi H Q=>∃a xs,x=.ref a/\aQ K H a xs/\∀p,H p=none->Q (.ref p) (upd H p (.lst (so xs lo hi)))
theorem agz:sW X (aso X.K):=by intro j s σ H x v vl vu lo g sl Q I p t pl C h;obtain⟨a,J,rfl,T,q⟩:=h;cases p;obtain⟨a0,r,l,hz⟩:=I.list T;have U:=r.length;refine⟨"list",_,slot_list_getitem.lookup,l.isList.typeIs,?_⟩;refine wpAny_getItem_list_slice l.isList t pl C .none (by simp) ?_ (by rw[Aq]<;>lia);rw[om,<-U];refine⟨.ref s.heap.objs.size,_,I.laid (t':=s.toks) (o:=.lst (so J lo g)) (λb ob q=>r4 _ q) (Al _) ?_,rfl,q _ (I.hok.fresh (Al _))⟩;exact⟨AU (jW J lo g) hz,_,0,(r.drop (HT.sIx J.length 0 lo)).take (HT.sIx J.length J.length g-HT.sIx J.length 0 lo),sy _ rfl⟩
def ay:V->Bool
 |.non=>true
 |.bl _=>true
 |.int _=>true
 |.str _=>true
 |_=>false
def kH:V->V->Bool
 |.non,.non=>true
 |.bl a,.bl b=>a==b
 |.bl a,.int b=>(if a then 1 else 0)==b
 |.int a,.bl b=>a==(if b then 1 else 0)
 |.int a,.int b=>a==b
 |.str a,.str b=>a==b
 |_,_=>false
theorem oK{y x:V}{v:Value}(g:j3 y u)(J:j3 x v)(l:ay y=true)(j:ay x=true):SeqAt.EqAt A s u v (kH y x):=by
 cases y with
 |non=>
  cases g;cases x with
  |non=>cases J;exact SeqAt.EqAt.same _
  |bl b=>cases J;exact SeqAt.EqAt.none_bool b
  |int b=>obtain⟨t,rfl⟩:=J;exact SeqAt.EqAt.none_int b t
  |str b=>obtain⟨t,rfl⟩:=J;exact SeqAt.EqAt.none_str b t
  |_=>exact absurd (show false=true from j) AC
 |bl a=>
  cases g;cases x with
  |non=>cases J;exact SeqAt.EqAt.bool_none a
  |bl b=>cases J;exact SeqAt.EqAt.bool_bool a b
  |int b=>obtain⟨t,rfl⟩:=J;exact SeqAt.EqAt.bool_int a b t
  |str b=>obtain⟨t,rfl⟩:=J;exact SeqAt.EqAt.bool_str a b t
  |_=>exact absurd (show false=true from j) AC
 |int a=>
  obtain⟨U,rfl⟩:=g;cases x with
  |non=>cases J;exact SeqAt.EqAt.int_none a U
  |bl b=>cases J;exact SeqAt.EqAt.int_bool a U b
  |int b=>obtain⟨t,rfl⟩:=J;exact SeqAt.EqAt.int_int a U b t
  |str b=>obtain⟨t,rfl⟩:=J;exact SeqAt.EqAt.int_str a U b t
  |_=>exact absurd (show false=true from j) AC
 |str a=>
  obtain⟨U,rfl⟩:=g;cases x with
  |non=>cases J;exact SeqAt.EqAt.str_none a U
  |bl b=>cases J;exact SeqAt.EqAt.str_bool a U b
  |int b=>obtain⟨t,rfl⟩:=J;exact SeqAt.EqAt.str_int a U b t
  |str b=>obtain⟨t,rfl⟩:=J;exact SeqAt.EqAt.str_str a U b t
  |_=>exact absurd (show false=true from j) AC
 |_=>exact absurd (show false=true from l) AC
def vV(x:V)(u:Value):Bool:=match u with
 |.none=>kH .non x
 |.bool b=>kH (.bl b) x
 |.int i _=>kH (.int i) x
 |.str z _=>kH (.str z) x
 |_=>false
theorem ag0{x y:V}(r:j3 y u)(f:ay y=true):vV x u=kH y x:=by
 cases y with
 |non=>cases r;rfl
 |bl b=>cases r;rfl
 |int i=>obtain⟨t,rfl⟩:=r;rfl
 |str z=>obtain⟨t,rfl⟩:=r;rfl
 |_=>exact absurd (show false=true from f) AC
theorem hG{x:V}:∀{xs:List V} {us:List Value},zr xs us->xs.all ay=true->us.any (vV x)=xs.any λy=>kH y x
 |_,_,.nil,_=>rfl
 |y::xs,u::us,.cons r t,f=>by rw[Dv,A4] at f;rw[Ce,Ce,ag0 r f.1,hG t f.2]
theorem eZ{A:Around}{s:Shared}{x:V}{v:Value}(U:j3 x v)(g:ay x=true):∀{xs:List V} {us:List Value},zr xs us->xs.all ay=true->∀u∈us,SeqAt.EqAt A s u v (vV x u)
 |_,_,.nil,_=>λu J=>by cases J
 |y::xs,u::us,.cons r t,f=>λj J=>by
  rw[Dv,A4] at f;rcases Am.mp J with rfl|J
  ·rw[ag0 r f.1];exact oK r U f.1 g
  ·exact eZ U g t f.2 j J
def wC(x:V)(xs:List V):Bool:=xs.any λy=>kH y x
def rIn(K:Ah)(neg:Bool):R2:=λx y H Q=>∃p xs,y=.ref p/\(aQ K H p xs\/cg K H p xs)/\ay x=true/\xs.all ay=true/\Q (.bl (if neg then !wC x xs else wC x xs)) H
theorem aa6:kw X (compareOp .In) (rIn X.K false):=by
 intro g s C H x y v u Q I j o h;obtain⟨p,T,rfl,U,l,fs,q⟩:=h;cases o;rcases U with U|U
 ·obtain⟨J,r,pl,t⟩:=I.list U;refine SeqAt.in_listAt (vV x) pl.isList (λw hw=>eZ j l r fs w (by simpa using hw)) ⟨.bl _,H,I,rfl,?_⟩;rw[show J.toArray.any (vV x)=J.any (vV x) by simp,hG r fs];exact q
 ·obtain⟨J,r,pl,t⟩:=I.tuple U;refine SeqAt.in_tupleAt (vV x) pl (λw hw=>eZ j l r fs w (by simpa using hw)) ⟨.bl _,H,I,rfl,?_⟩;rw[show J.toArray.any (vV x)=J.any (vV x) by simp,hG r fs];exact q
theorem rf:kw X (compareOp .NotIn) (rIn X.K true):=by
 intro g s C H x y v u Q I j o h;obtain⟨p,T,rfl,U,l,fs,q⟩:=h;cases o;rcases U with U|U
 ·obtain⟨J,r,pl,t⟩:=I.list U;refine SeqAt.notIn_listAt (vV x) pl.isList (λw hw=>eZ j l r fs w (by simpa using hw)) ⟨.bl _,H,I,rfl,?_⟩;rw[show J.toArray.any (vV x)=J.any (vV x) by simp,hG r fs];exact q
 ·obtain⟨J,r,pl,t⟩:=I.tuple U;refine SeqAt.notIn_tupleAt (vV x) pl (λw hw=>eZ j l r fs w (by simpa using hw)) ⟨.bl _,H,I,rfl,?_⟩;rw[show J.toArray.any (vV x)=J.any (vV x) by simp,hG r fs];exact q
theorem rq:xf X (.builtin "len") (λxs H Q=>∃p ys,xs=[.ref p]/\(aQ X.K H p ys\/cg X.K H p ys)/\Q (.int ys.length) H):=by
 intro l s C H xs T Q I r h;obtain⟨p,ys,rfl,U,q⟩:=h;obtain⟨u,rfl,o⟩:=m4 r;cases o;have hn:=jI;rcases U with U|U
 ·obtain⟨g,j,pl,t⟩:=I.list U;have J:=j.length;exact Calls.call_len_list pl.isList (by simp only[Aq]<;>lia) ⟨.int ys.length,H,I.tok _,⟨s.toks+1,by rw[Aq,J]⟩,q⟩
 ·obtain⟨g,j,pl,t⟩:=I.tuple U;have J:=j.length;exact len_tuple pl (by simp only[Aq]<;>lia) ⟨.int ys.length,H,I.tok _,⟨s.toks+1,by rw[Aq,J]⟩,q⟩
theorem rF:xf X (.builtin "len") (λxs H Q=>∃z,xs=[.str z]/\z.length<=sizeLine/\Q (.int z.length) H):=by intro J s U H xs g Q I r h;obtain⟨z,rfl,j,q⟩:=h;obtain⟨u,rfl,t,rfl⟩:=m4 r;have l:=jI;exact len_str (by lia) ⟨.int z.length,H,I.tok _,⟨_,rfl⟩,q⟩
theorem qG:xf X (.type "list") (λxs H Q=>∃p ys,xs=[.ref p]/\(aQ X.K H p ys\/cg X.K H p ys)/\∀l,H l=none->Q (.ref l) (upd H l (.lst ys))):=by
 intro t s σ H xs us Q I r h;obtain⟨p,ys,rfl,C,q⟩:=h;obtain⟨u,rfl,rx⟩:=m4 r;cases rx;have xi:∀(J:List Value),zr ys J->ys.length<=sizeLine->∀(U:Heap) (g:Nat),(∀b o',s.heap.get? b=some o'->U.get? b=some o')->
  U.get? s.heap.objs.size=some { cls:=.type "list",dict:=none,data:=.seq J.toArray g,slots:=#[] }->EP X t σ Q (.ref s.heap.objs.size) { s with heap:=U }:=λJ j T U g kp e=>
  ⟨.ref s.heap.objs.size,_,I.laid (t':=s.toks) kp (Al _) (show v5 X.prog X.w _ U _ (.lst ys) from⟨T,J,g,j,e⟩),rfl,q _ (I.hok.fresh (Al _))⟩
 rcases C with C|C
 ·obtain⟨J,j,pl,T⟩:=I.list C;have a0:=j.length;obtain⟨o,ho,hc,n,hd⟩:=pl.isList;exact call_list_seq p (.inl rfl) ho hc hd (λU g kp e=>xi J j T U g kp e) (by simp only[Aq]<;>lia)
 ·obtain⟨J,j,pl,T⟩:=I.tuple C;have a0:=j.length;obtain⟨o,ho,hc,n,hd⟩:=pl;exact call_list_seq p (.inr rfl) ho hc hd (λU g kp e=>xi J j T U g kp e) (by simp only[Aq]<;>lia)
theorem oo:xf X (.type "tuple") (λxs H Q=>∃p ys,xs=[.ref p]/\((aQ X.K H p ys/\∀l,H l=none->Q (.ref l) (upd H l (.tup ys)))\/(cg X.K H p ys/\Q (.ref p) H))):=by
 intro J s C H xs us Q I r h;obtain⟨p,ys,rfl,h⟩:=h;obtain⟨u,rfl,rx⟩:=m4 r;cases rx;rcases h with⟨j,q⟩|⟨j,q⟩
 ·obtain⟨U,t,pl,T⟩:=I.list j;have a0:=t.length;refine call_tuple_list pl.isList (λg kp=>?_) (by simp only[Aq]<;>lia);have I1:zd X J C H { s with heap:=g }:=I.kept (t':=s.toks) kp;have I2:zd X J C (upd H g.objs.size (.tup ys)) { s with heap:=g.push { cls:=.type "tuple",data:=.seq U.toArray } }:=
   I1.laid (t':=s.toks) (λb o e=>r4 _ e) (Al _) (show v5 X.prog X.w _ _ _ (.tup ys) from⟨T,U,t,IsTup.new _ _⟩)
  exact⟨.ref g.objs.size,_,I2,rfl,q _ (I1.hok.fresh (Al _))⟩
 ·obtain⟨U,t,pl,T⟩:=I.tuple j;exact call_tuple_same pl ⟨.ref p,H,I,rfl,q⟩
def tyV(K:Ah)(T:String)(x:V)(H:Hp):Prop:=match x with
 |.str _=>T = "str"
 |.int _=>T = "int"
 |.ref p=>(T = "list" /\ ∃xs,aQ K H p xs)\/(T = "tuple" /\ ∃o,K.lookup p=some o/\o.cls=.type "tuple" /\ o.dict=none)\/
  (T = "dict" /\ ((∃kvs,H p=some (.dK kvs))\/∃kvs,H p=some (.dT kvs)))\/(T = "set" /\ ∃S n,H p=some (.set S n))
 |_=>False
theorem adv{T:String}{x:V}{v:Value}(I:zd X pins σ H s)(r:j3 x v)(ty:tyV X.K T x H):
 s.TypeIs v T/\∀a,v=.ref a->∃ob,s.heap.get? a=some ob/\ob.dict=none:=by
 cases x with
 |str z=>
  obtain⟨t,rfl⟩:=r;cases (show T = "str" from ty);exact⟨typeIs_str s z t,λ_ e=>nomatch e⟩
 |int i=>
  obtain⟨t,rfl⟩:=r;cases (show T = "int" from ty);exact⟨typeIs_int s i t,λ_ e=>nomatch e⟩
 |ref p=>
  cases r;rcases ty with⟨rfl,xs,j⟩|⟨rfl,o,J,l,hd⟩|⟨rfl,J⟩|⟨rfl,S,n,J⟩
  ·obtain⟨C,_,pl,_⟩:=I.list j;refine⟨pl.isList.typeIs,λa e=>?_⟩;cases e;obtain⟨o,n,e,c,hd,_⟩:=pl;exact⟨o,e,hd⟩
  ·refine⟨⟨o,I.kIn p o J,l⟩,λa e=>?_⟩;cases e;exact⟨o,I.kIn _ o J,hd⟩
  ·have z:∃o,s.heap.get? p=some o/\o.ExactDict:=by
    rcases J with⟨U,J⟩|⟨U,J⟩
    ·obtain⟨_,_,_,_,o,_,_,e,ex,_⟩:=I.hok p _ J;exact⟨o,e,ex⟩
    ·obtain⟨_,_,_,_,o,_,_,e,ex,_⟩:=I.hok p _ J;exact⟨o,e,ex⟩
   obtain⟨o,e,ex⟩:=z;refine⟨⟨o,e,ex.1⟩,λa g=>?_⟩;cases g;exact⟨o,e,ex.2.1⟩
  ·obtain⟨o,_,_,_,e,ex,_⟩:=I.hok p _ J;refine⟨⟨o,e,ex.1⟩,λa g=>?_⟩;cases g;exact⟨o,e,ex.2.1⟩
 |_=>exact False.elim ty
def ave(K:Ah)(T:String)(r:V->List V->Hp->VK->Prop)(to:TE):TE:=λσ H Q=>to σ H λx H1=>tyV K T x H1/\r x [] H1 Q
def tBM(K:Ah)(T:String)(r:V->List V->Hp->VK->Prop)(to:TE)(t:TA):TE:=λσ H Q=>to σ H λx H1=>tyV K T x H1/\t σ H1 λxs H2=>r x xs H2 Q
variable {to:TE}{t:TA}{T id:String}{r:V->List V->Hp->VK->Prop}
theorem am3(pa:PlainAttrs T)(slot:Slot T name id)(j:typeOf (.builtin id)=pure (.type "method_descriptor"))(C:MtR X id r)(ho:PE X o to)
 (U:attributeBase o name X.env (eval o X.env)=eval o X.env:=by rfl) (g:(apos.endLine==fm.line)=true:=by rfl):PE X (.Call (.Attribute o name apos) [] [] fm) (ave X.K T r to):=by
 intro J s l H Q I h;refine wpAny_Call_method0_late U g (aV (ho J s l H _ I h) λv s1 ⟨x,H1,p,t,ty,q1⟩=>?_);obtain⟨h1,h2⟩:=adv p t ty;exact⟨T,id,pa,slot,j,h1,h2,Calls.callWith_builtin rfl (PySem.evalArgs_none (C J s1 l H1 x [] v [] Q p t .nil q1))⟩
theorem akm(pa:PlainAttrs T)(slot:Slot T name id)(p:typeOf (.builtin id)=pure (.type "method_descriptor"))(hm:MtR X id r)(ho:PE X o to)(ha:PA X (e::es) t)
 (g:attributeBase o name X.env (eval o X.env)=eval o X.env:=by rfl)
 (l:((backTo fm (starEach (e::es) X.env)).all (λx=>!x.1)&&(backToKw fm (keywordEach [] X.env)).all (λx=>x.1.isSome)
  && decide ((e::es).length+([]:List Keyword).length+(if ([]:List Keyword).isEmpty then 0 else 1)<30))=true:=by rfl)
 (j:(apos.endLine==fm.line)=true:=by rfl) (hs:Eb e es X:=by rfl) (U:Ec fm es X:=by rfl):
 PE X (.Call (.Attribute o name apos) (e::es) [] fm) (tBM X.K T r to t):=by
 intro J s C H Q I h;refine wpAny_Call_method_late g l j rfl (aV (ho J s C H _ I h) λv s1 ⟨x,H1,I1,r1,ty,q1⟩=>?_);obtain⟨h1,h2⟩:=adv I1 r1 ty;refine⟨T,id,pa,slot,p,h1,h2,?_⟩;have hA:=ha fm J s1 C H1 _ I1 q1;rw[hs] at hA ⊢;refine Calls.callWith_builtin (by show(false||(backTo fm (starEach es X.env)).any (·.1))=false;rw[U]<;>rfl) (Calls.evalArgs_plain ?_);exact aV hA λus s2 ⟨vs,H2,I2,r2,q2⟩=>hm J s2 C H2 x vs v us Q I2 r1 r2 q2
end
def gh(X:Cx)(id:String)(r:V->List V->Hp->VK->Prop):Prop:=
 ∀(pins:List (Addr×Obj)) (s:Shared) (σ:St) (H:Hp) (x:V) (xs:List V) (v:Value) (us:List Value) (Q:VK),zd X pins σ H s->j3 x v->zr xs us->r x xs H Q->
  wpAny (model X.prog X.w) X.A (call (.builtin id) (v::us)) (EP X pins σ Q) X.xe s
theorem zr.one{x:V}(h:zr [x] us):∃u,us=[u]/\j3 x u:=by cases h with|cons r t=>cases t;exact⟨_,rfl,r⟩
theorem zr.two{x y:V}(h:zr [x,y] us):∃u v,us=[u,v]/\j3 x u/\j3 y v:=by cases h with|cons r t=>cases t with|cons q t=>cases t;exact⟨_,_,rfl,r,q⟩
theorem zr.zero:∀{us:List Value},zr [] us->us=[]
 |_,.nil=>rfl
theorem zr.dropLast(h:zr xs us):zr xs.dropLast us.dropLast:=by
 induction h with
 |nil=>exact .nil
 |cons r t J=>
  cases t with|nil=>exact .nil|cons q U=>exact .cons r J
theorem zr.eraseIdx:∀{xs:List V} {us:List Value} (i:Nat),zr xs us->zr (xs.eraseIdx i) (us.eraseIdx i)
 |_,_,_,.nil=>.nil
 |_,_,0,.cons _ t=>t
 |_,_,i+1,.cons r t=>.cons r (zr.eraseIdx i t)
theorem zr.reverse(h:zr xs us):zr xs.reverse us.reverse:=by induction h with|nil=>exact .nil|cons r t J=>rw[CP,CP];exact zr.append J (.cons r .nil)
theorem xN(l:List α):l.eraseIdx (l.length-1)=l.dropLast:=by
 induction l with
 |nil=>rfl
 |cons a r J=>
  cases r with
  |nil=>rfl
  |cons b r=>
   have e:(a::b::r).length-1=((b::r).length-1)+1:=by have U:(a::b::r).length=r.length+2:=rfl;have g:(b::r).length=r.length+1:=rfl;lia
   rw[e,Cm,J]
   all_goals rfl
theorem pY{α:Type}:∀(l:List α) (i:Nat),(l.eraseIdx i).length<=l.length
 |[],_=>Al _
 |_::_,0=>BV _
 |_::r,i+1=>Dy (pY r i)
section
variable {ys:List V}
theorem zd.lset{its':List Value}{f:Array Value->Array Value}(I:zd X pins σ H s)(J:H l=some (.lst xs))
 (e:s.heap.get? l=some { cls:=.type "list",data:=.seq eH.toArray n }) (U:f eH.toArray=its'.toArray) (g:zr ys its') (hz:ys.length<=sizeLine) (p:0<t':=by walk_at "t"):
 zd X pins σ (upd H l (.lst ys)) { s with heap:=s.heap.update l (Obj.mapSeq f),toks:=t' }:=by
 have q:=PySem.IsL.update e f;rw[U] at q;refine I.write (x:=l) (e:=l) (by rw[J];exact trivial) (.inl rfl) (λr u j o=>(wh s.heap (Obj.mapSeq f) (AI j)).trans o) ⟨_,q⟩ ?_;exact⟨hz,its',_,g,q⟩
theorem zd.lnew(I:zd X pins σ H s)(J:zr ys eH)(hz:ys.length<=sizeLine)(U:0<t':=by walk_at "t"):
 zd X pins σ (upd H s.heap.objs.size (.lst ys)) { s with heap:=s.heap.push { cls:=.type "list",data:=.seq eH.toArray },toks:=t' }:=
 I.laid (λ_ _ q=>r4 _ q) (Al _) ⟨hz,eH,0,J,sy _ rfl⟩
theorem zd.fresh(I:zd X pins σ H s):H s.heap.objs.size=none:=I.hok.fresh (Al _)
theorem zd.lstM(I:zd X pins σ H s)(J:H l=some (.lst xs)):xs.length<=sizeLine/\∃(eH:List Value) (n:Nat),zr xs eH/\xs.length=eH.length/\s.heap.get? l=some { cls:=.type "list",data:=.seq eH.toArray n }:=by obtain⟨z,eH,n,r,e⟩:=I.hok l _ J;exact⟨z,eH,n,r,r.length,e⟩
theorem acq(h:n<=sizeLine):Builtin.List.listTooLong n=false:=by unfold Builtin.List.listTooLong;exact Ay (by lia)
end
def ajh:V->List V->Hp->VK->Prop:=λx vs H Q=>∃l xs y,x=.ref l/\vs=[y]/\H l=some (.lst xs)/\xs.length<sizeLine/\Q .non (upd H l (.lst (xs++[y])))
theorem aap:gh X "list.append" ajh:=by intro U s t H x C v T Q I j o h;obtain⟨l,xs,y,rfl,rfl,g,hz,q⟩:=h;cases j;obtain⟨u,rfl,p⟩:=o.one;obtain⟨z,J,n,r,hl,e⟩:=I.lstM g;refine call_meets F.slot_list_append ⟨_,e,rfl⟩ F.entry_list_append (F.args_list_append_2 _ _) (PySem.list_append l J.toArray n u (by rw[Aq];lia)) ⟨e,?_⟩;refine⟨.non,_,I.lset (its':=J++[u]) g e (by simp) (r.append (.cons p .nil)) ?_,rfl,q⟩;rw[Ad,BF];lia
def agy:V->List V->Hp->VK->Prop:=λx vs H Q=>∃l b xs zs,x=.ref l/\vs=[.ref b]/\H l=some (.lst xs)/\H b=some (.lst zs)/\xs.length+zs.length<=sizeLine/\Q .non (upd H l (.lst (xs++zs)))
theorem aa1:gh X "list.extend" agy:=by
 intro o s σ H x vs v us Q I t C h;obtain⟨l,b,xs,zs,rfl,rfl,p,T,hz,q⟩:=h;cases t;obtain⟨u,rfl,ru⟩:=C.one;cases ru;obtain⟨z,U,n,r,hl,e⟩:=I.lstM p;obtain⟨z2,J,n2,r2,a0,e2⟩:=I.lstM T;have j:U.toArray.size+J.toArray.size<=sizeLine:=by rw[Aq,Aq];lia
 have g:¬(!U.toArray.isEmpty&&Builtin.List.listTooLong (U.toArray.size+J.toArray.size))=true:=by rw[acq j,DS];exact AC
 refine call_meets F.slot_list_extend ⟨_,e,rfl⟩ F.entry_list_extend (F.args_list_extend_2 _ _)
  (AutoSeq1.list_extend_list_list_0 l U.toArray n b J.toArray n2 g (by rw[Aq];lia) (by lia)) ⟨e,e2,?_⟩
 refine⟨.non,_,I.lset (its':=U++J) p e (by simp) (r.append r2) ?_,rfl,q⟩;rw[Ad];lia
def asz:V->List V->Hp->VK->Prop:=λx vs H Q=>∃l xs y,x=.ref l/\vs=[]/\H l=some (.lst xs)/\xs[xs.length-1]?=some y/\Q y (upd H l (.lst xs.dropLast))
theorem an4:gh X "list.pop" asz:=by
 intro j s σ H x vs v us Q I p t h;obtain⟨l,xs,y,rfl,rfl,o,C,q⟩:=h;cases p;have U:=t.zero;subst U;obtain⟨z,J,n,r,T,e⟩:=I.lstM o;obtain⟨u,hu,ru⟩:=r.get C;have g:J.toArray[J.toArray.size-1]?=some u:=by show J.toArray[J.length-1]?=some u;rw[<-Bj,<-T];exact hu
 refine call_meets F.slot_list_pop ⟨_,e,rfl⟩ F.entry_list_pop (F.args_list_pop_1 _) (MeetsSeq.list_pop_last l J.toArray n u g (by rw[Aq];lia)) ⟨e,?_⟩;refine⟨y,_,I.lset (its':=J.dropLast) o e ?_ r.dropLast ?_,ru,q⟩
 ·show J.toArray.eraseIdxIfInBounds (J.toArray.size-1)=J.dropLast.toArray;rw[Aq,CW,xN]
 ·rw[List.length_dropLast];lia
def an2:V->List V->Hp->VK->Prop:=λx vs H Q=>∃l xs i k y,x=.ref l/\vs=[.int i]/\H l=some (.lst xs) /\ -(2 ^ 63)<=i/\i<2 ^ 63/\seqIndex? i xs.length=some k/\xs[k]?=some y/\Q y (upd H l (.lst (xs.eraseIdx k)))
theorem adm:gh X "list.pop" an2:=by
 intro g s σ H x vs v us Q I o p h;obtain⟨l,C,i,k,y,rfl,rfl,j,T,h2,hk,hy,q⟩:=h;cases o;obtain⟨u,rfl,ru⟩:=p.one;obtain⟨t,rfl⟩:=ru;obtain⟨z,J,n,r,hl,e⟩:=I.lstM j;obtain⟨w,hw,U⟩:=r.get hy;refine call_meets F.slot_list_pop ⟨_,e,rfl⟩ F.entry_list_pop (F.args_list_pop_2 _ _)
  (MeetsSeq.list_pop_at l J.toArray n i t k w (fitsIndex_both T h2) (by rw[Aq,<-hl];exact hk) (by rw[<-Bj];exact hw) (by rw[Aq];lia)) ⟨e,?_⟩
 refine⟨y,_,I.lset (its':=J.eraseIdx k) j e ?_ (r.eraseIdx k) ?_,U,q⟩
 ·show J.toArray.eraseIdxIfInBounds k=(J.eraseIdx k).toArray;rw[CW]
 ·have:=pY C k;lia
def aea:V->List V->Hp->VK->Prop:=λx vs H Q=>∃l xs,x=.ref l/\vs=[]/\H l=some (.lst xs)/\Q .non (upd H l (.lst xs.reverse))
theorem wV:gh X "list.reverse" aea:=by intro g s t H x C v T Q I o p h;obtain⟨l,xs,rfl,rfl,j,q⟩:=h;cases o;have U:=p.zero;subst U;obtain⟨z,J,n,r,hl,e⟩:=I.lstM j;refine call_meets F.slot_list_reverse ⟨_,e,rfl⟩ F.entry_list_reverse (F.args_list_reverse_1 _) (AutoSeq1.list_reverse_list_0 l J.toArray n (by rw[Aq];lia)) ⟨e,?_⟩;refine⟨.non,_,I.lset (its':=J.reverse) j e (by simp) r.reverse ?_,rfl,q⟩;rw[Bw];lia
def atm:R2:=λx y H Q=>∃l b xs zs,x=.ref l/\y=.ref b/\H l=some (.lst xs)/\H b=some (.lst zs)/\xs.length+zs.length<=sizeLine/\∀p,H p=none->Q (.ref p) (upd H p (.lst (xs++zs)))
theorem amu:kw X (binaryOp .Add) atm:=by
 intro g s σ H x y v u Q I j o h;obtain⟨l,b,xs,zs,rfl,rfl,p,t,hz,q⟩:=h;cases j;cases o;obtain⟨z,U,n,r,hl,e⟩:=I.lstM p;obtain⟨z2,J,n2,C,T,e2⟩:=I.lstM t;refine PySem.P.add_list e e2 ?_ (by rw[Aq,Aq];lia);have ea:U.toArray++J.toArray=(U++J).toArray:=by simp
 rw[ea];exact⟨.ref _,_,I.lnew (t':=s.toks) (r.append C) (by rw[Ad];lia),rfl,q _ I.fresh⟩
section
variable {w:World}
set_option maxRecDepth 100000 in
end
end L2
namespace Att
open PySem PySem.W PySem.Calls PyProof.Rows
theorem lI{P:Params} :∀(J:List Int) (vs:List Value),WellAll P h vs (J.map WData.int)->IntsAre vs J:=by
 intro J
 induction J with
 |nil=>
  intro vs w;rw[CO] at w;cases w;exact .nil
 |cons n J U=>
  intro vs w;rw[AE] at w;cases w with
  |cons a b=>
   cases a;exact .cons _ _ (U _ b)
theorem ab4{l:OpenLaw}(hn:l.most=some n){P:Params}{args:List WData}{U:List Value}
 (g:l.row.toRowW.claim.pre args=true) (C:WellAll P h U args):
 ∃a vs J,U=[Value.ref a]/\args=[WData.list (J.map WData.int)]/\h.get? a=some { cls:=.type "list",data:=.seq vs.toArray }/\IntsAre vs J/\J.length<=n:=by
 have I:WShape.hasAll [] args [.list .int]=true:=(pre_splitW g).1;have T:l.pre.holds [] { args:=args }=true:=(pre_splitW g).2;obtain⟨d,r,rfl,h1,h2⟩:=hasAllW_cons I;obtain rfl:=hasAllW_nil h2;obtain⟨xs,rfl,h3⟩:=hasW_list h1;obtain⟨J,rfl⟩:=items_int h3;have j:J.length<=n:=by
  unfold OpenLaw.pre at T;have p:(WTm.not (.lt (.lit (.int (n:Int))) (.len (.arg 0)))).holds [] { args:=[.list (J.map .int)] }=true:=by have p:=(holds_andW T).1;rw[hn] at p;exact p
  have t:=condW_of p (w_not (w_lt w_lit (w_len_list (w_arg rfl))));rw[Ab] at t;refine Nat.le_of_not_lt λq=>?_;have q':(n:Int)<((J.length:Nat):Int):=by lia
  first
   |(rw[AH q'] at t;exact absurd t (by decide))
   |(simp at t;lia)
 cases C with
 |cons w1 w2=>
  cases w2;cases w1 with|list ho o=>exact⟨_,_,J,rfl,rfl,ho,lI J _ o,j⟩
theorem zJ(l:OpenLaw)(args:List WData):l.row.toRowW.claim.post args (.bool true) args=true:=
 postW_of (r:=l.row.toRowW) (X:=(true==true))
  (show WShape.has [] (.bool true) .bool=true by first|rfl|decide|simp[WShape.has,WShape.arms,WShape.armsAll])
  (show(WTm.eq .res (.lit (.bool true))).value [] { args:=args,res:=some (.bool true),after:=args }=some (.bool (true==true)) from w_eq_bool (w_res rfl) w_lit) rfl
theorem attach_callZ{l:OpenLaw}{q:Program}{loose:List Str}{XP:(Str->Option Value)->Heap->Prop}{as0:List Addr}{N t:Nat}{K:Params->Frag}{d:DefRec}
 (hn:l.most=some n) (I:d.params.defaults=[]) (ek:∀P,as0=(K P).map (·.1)) (T:0<t)
 (call:∀(w:World) (s₀ J:Shared) (mg mb:Str->Option Value) (fa:Addr) (o:Obj) (pm cd ir:Value) (a:Addr) (vs:List Value) (U:List Int),
  Ground q loose [] XP w s₀ mg mb J.heap->(K w.params).In J.heap->0<J.toks->
  J.heap.get? fa=some o->o.data=.func (docDef d.name d.params d.body d.scope pm cd ir)->J.heap.CodeRec cd d.name->mg d.name=some (.ref fa)->
  J.heap.get? a=some { cls:=.type "list",data:=.seq vs.toArray }->IntsAre vs U->U.length<=n->J.gens=#[]->
  codeAny (model l.prog w) callerA (.call (.ref fa) ⟨[.ref a],[]⟩) (λr s'=>r=.ok (.ret (.bool true))/\OldK J.heap s'.heap/\s'.os=J.os/\AllBare s'.gens) J):
 WalkX q loose XP (PySem.W.X.obsZ as0) (PySem.W.X.valZ K N t) l.row.toRowW d [] (λf vs=>PySem.call f vs):=by
 intro w s₀ J mg mb G Y fa o pm cd ir dV kV ho hd a0 hD a1 hg args a4 as L j a5 ag a2 al;obtain rfl:dV=.none:=Dflts.none hD I;obtain rfl:kV=.none:=Dflts.noKw hD;obtain⟨a,vs,U,rfl,rfl,p,g,C⟩:=ab4 hn j a2;obtain⟨_,zi,_,zt⟩:=X.z_facts ek Y;have eP:∀U:List Int,ofPy (PyData.list (U.map PyData.int))=WData.list (U.map WData.int):=λU=>by
  simp only[ofPy];congr 1
  induction U with|nil=>simp[ofPys]|cons n r ih=>simp only[AE,ofPys,ofPy,ih]
 rw[<-eP] at L;have KX:=InK.keeps w s₀.heap J.heap zi L.keeps;have a3:0<J.toks:=AO T (X.script_toks L zt);refine enter_call (codeAny_mono (call w s₀ J mg mb fa o pm cd ir a vs U G KX a3 ho (fd_plain hd) a0 a1 p g C hg) λr s' hq=>?_);obtain⟨rfl,h2,h3,h4⟩:=hq;exact⟨.inl ⟨.bool true,.bool true,[],rfl,λ_=>rfl,.bool true,zJ l _,λ_=>⟨List.Pairwise.nil,λ_ hm=>(nomatch hm)⟩⟩,h2,h3,h4⟩
section
variable {w:World}{K:Frag}
end
end Att
namespace L2
open PySem PySem.Spec PyProof.Rows
theorem pH:∀{vs:List Value} {J:List Int},IntsAre vs J->zr (J.map V.int) vs
 |_,_,.nil=>.nil
 |_,_,.cons n t h=>.cons ⟨t,rfl⟩ (pH h)
def vh(s:Stmt):Arguments:=match s with
 |.FunctionDef _ a _ _ _ _ _ _ _ _=>a
 |_=>{ posonlyargs:=[],args:=[],vararg:=none,kwonlyargs:=[],kw_defaults:=[],kwarg:=none,defaults:=[] }
def jp(s:Stmt):List Stmt:=match s with
 |.FunctionDef _ _ b _ _ _ _ _ _ _=>b
 |_=>[]
def z0(s:Stmt):Scope:=match s with
 |.FunctionDef _ _ _ _ _ _ J _ _ _=>J
 |_=>{ kind:=.function,names:=[],isGenerator:=false,isCoroutine:=false }
abbrev CX0:xZ:=λ_ _ _ _ _ _=>False
abbrev E0:XK:=λ_ _ _=>False
theorem aq9 :wE CX0 X E0:=λ_ _ _ _ _ _ _ h=>h.elim
structure Fun(K:Ah)(x eK:Str)(st:Stmt)(f:Addr)(fd:FuncData):Prop where
 ex:∃(oc:Value) (od:Option Addr) (kV ir pm:Value) (an:Option Addr) (fx ct:Value) (ni:Array (Option Value)),
  fd=PySem.W.fnOf x eK (vh st) (jp st) (z0 st) .none kV ir pm an fx ct/\K.lookup f=some ⟨oc,od,.func fd,ni⟩/\PySem.W.codeIn K fx eK=true
 kp:PySem.W.keepIn K (.ref f)=true
section
variable {P:Program}{w:World}{K:Ah}
theorem Fun.ok{N:List Str}{k:Nat}(F:Fun K x eK st f fd)(S:aS N ps (z0 st))(len:∀vs H Q E,sp vs H Q E->vs.length=ps.length)
 (J:∀(fx:Value) (A:Around) (outer:List Env) (s:Shared) (H:Hp) (vs:List V) (Q:VK) (E:XK),aI k (A.deeper (envOfC eK (z0 st) s.heap.objs.size f fx))->sp vs H Q E->
  ∃t,lK (dF CX0 P w K mg base N eK (z0 st) f fx A outer s H E).nox (jp st) t/\t { nx:=λ_ H'=>Q .non H',rt:=Q } (start N vs) H):bU P w K mg base CX0 (k+1) f fd ps sp:=by
 obtain⟨p,r,kV,j,pm,an,fx,C,l,rfl,lk,U⟩:=F.ex;refine aen lk U S len λA outer s H vs Q E o g=>?_;obtain⟨t,h,q⟩:=J fx A outer s H vs Q E o g;exact⟨t,h.nox,q⟩
theorem anl{kV:Value}(l:K.lookup f=some ⟨oc,od,.func (PySem.W.fnOf x eK (vh st) (jp st) (z0 st) .none kV ir pm an fx ct),ni⟩)
 (c:PySem.W.codeIn K fx eK=true) (k:PySem.W.keepIn K (.ref f)=true):Fun K x eK st f (PySem.W.fnOf x eK (vh st) (jp st) (z0 st) .none kV ir pm an fx ct):=⟨⟨oc,od,kV,ir,pm,an,fx,ct,ni,rfl,l,c⟩,k⟩
end
theorem pL(h:n<=1000):n<sizeLine:=Cr h (by decide)
theorem pv(i:Nat)(U:X.N[i]?=some x:=by rfl)(g:Vis X.env.scope x:=by first|exact Or.inl rfl|exact Or.inr (Or.inl rfl)|exact Or.inr (Or.inr rfl))(hd:Ed x:=by decide)
 (J:Ee x:=by decide):PE X (.Name x pos) (amq i):=am1 U g hd J
section
variable [DecidableEq κ]
end
end L2
set_option maxHeartbeats 8000000
theorem asq{a b c:Nat}(h:a<b:=by assumption)(k:b<=c:=by assumption):a<c:=AO h k
theorem aeb{a b c:Nat}(h:a<=b:=by assumption)(k:b<c:=by assumption):a<c:=Cr h k
theorem aqj{a b c:Nat}(h:a<=b:=by assumption)(k:b<=c:=by assumption):a<=c:=AU h k
theorem ae7{a b c:Nat}(h:a<b:=by assumption)(k:b<c:=by assumption):a<c:=Nat.lt_trans h k
theorem ain{a b c:Nat}(h:a<=b:=by assumption)(k:b<=c:=by decide):a<=c:=AU h k
theorem amd{a b:Nat}(h:a<=b:=by assumption):a<b+1:=Nat.lt_succ_of_le h
theorem ati{a b:Nat}(h:a<=b:=by assumption):a<=b+1:=BQ h
theorem xD{a b:Nat}(h:a<b:=by assumption):a<=b:=Bf h
theorem aot{a b:Nat}(h:a<b:=by assumption):a≠b:=A2 h
theorem atf{a b:Nat}(h:b<a:=by assumption):a≠b:=Cz h
theorem auz{a:Nat}(h:a≠0:=by assumption):0<a:=Nat.pos_of_ne_zero h
theorem apd{a b c:Nat}(h:a<b:=by assumption)(k:b<=c:=by assumption):a<=c:=AU (Bf h) k
theorem ar1{a b c:Nat}(h:a<b:=by assumption):a<b+c:=AO h (BJ _ _)
theorem aaf{a b:Nat}(h:a=b:=by assumption):a<=b:=Nat.le_of_eq h
theorem agj{a b:Nat}(h:¬a<b:=by assumption):b<=a:=Nat.le_of_not_lt h
theorem asa{a b:Nat}(h:a<b+1:=by assumption):a<=b:=Nat.le_of_lt_succ h
theorem aqg{a b:Nat}(h:0<a:=by assumption)(k:0<b:=by decide):a-b<a:=Nat.sub_lt h k
theorem xK{a b c:Nat}(h:a<c:=by assumption):a-b<c:=Cr (Nat.sub_le _ _) h
theorem asf{a b:Nat}(h:a<=b:=by assumption)(k:a≠b:=by assumption):a<b:=Nat.lt_of_le_of_ne h k
namespace L2
open PySem PySem.Spec PyProof.Rows
def as7:R2:=λx y H Q=>match x,y with
 |.int i,.int j=>Q (.int (i+j)) H
 |.str a,.str b=>a.length+b.length<=sizeLine/\Q (.str (a++b)) H
 |.ref l,.ref b=>∃xs zs,H l=some (.lst xs)/\H b=some (.lst zs)/\xs.length+zs.length<=sizeLine/\∀p,H p=none->Q (.ref p) (upd H p (.lst (xs++zs)))
 |_,_=>False
theorem ait:kw X (binaryOp .Add) as7:=by
 intro J s U H x y v u Q I g j h;cases x<;>cases y<;>first
  |exact False.elim h
  |exact ald J s U H _ _ v u Q I g j ⟨_,_,rfl,rfl,h⟩
  |exact wS J s U H _ _ v u Q I g j ⟨_,_,rfl,rfl,h.1,h.2⟩
  |(obtain⟨l,o,p,r,t,C⟩:=h;exact amu J s U H _ _ v u Q I g j ⟨_,_,l,o,rfl,rfl,p,r,t,C⟩)
def KD(K:Ah)(P:Program)(w:World)(a:Addr)(kvs:List (jm×V)):Prop:=
 (a==sysModules)=false/\kvs.length<=sizeLine/\∀h:Heap,K.In h->∃vs,KV kvs vs/\h.DictOf (vm P w) a vs
def uIx(K:Ah)(P:Program)(w:World):R2:=λx y H Q=>match x,y with
 |.str z,.int i=>z.length<=sizeLine/\∃c,iL z.cps.toList i=some c/\Q (.str ⟨#[c]⟩) H
 |.ref p,.int i=>∃xs v,(aQ K H p xs\/cg K H p xs)/\iL xs i=some v/\Q v H
 |.ref p,.str k=>∃kvs v,(Rd H p (.dK kvs)\/KD K P w p kvs)/\bH kvs (Sum.inr k)=some v/\Q v H
 |_,_=>False
theorem agb{slice:Expr}{vs:List (jm×Value)}{k:jm}{J:Value}{Q:VK}(I:zd X pins σ H s)(dd:s.heap.DictOf (vm X.prog X.w) a vs)(U:oY k u=true)
 (hw:valueAt vs k=some J) (r:j3 v J) (q:Q v H) (hs:subscripted slice false (.ref a) u=operate [.ref a,u] (getItem (.ref a) u)):wpAny (model X.prog X.w) X.A (subscriptTail value slice (.ref a) u) (EP X pins σ Q) X.xe s:=
 tail_any dd.typeIs Dl.lookup (wpAny_getItem_of U dd.mapOf hw ⟨v,H,I.tok _,r,q⟩) hs
theorem aqz:IxR X (uIx X.K X.prog X.w):=by
 intro value slice U s σ H x y v u Q I rx ry q r;cases x with
 |str z=>
  cases y with
  |int i=>
   obtain⟨J,c,g,j⟩:=q;exact ano value slice U s σ H _ _ v u Q I rx ry ⟨z,i,c,rfl,rfl,J,g,j⟩ r
  |_=>exact q.elim
 |ref p=>
  cases y with
  |int i=>
   obtain⟨xs,t,J,g,j⟩:=q;rcases J with J|J
   ·exact ah0 value slice U s σ H _ _ v u Q I rx ry ⟨p,xs,i,t,rfl,rfl,J,g,j⟩ r
   ·exact alr value slice U s σ H _ _ v u Q I rx ry ⟨p,xs,i,t,rfl,rfl,J,g,j⟩ r
  |str k=>
   obtain⟨a0,t,J,g,j⟩:=q;have C:j3 (kV (Sum.inr k)) u:=ry;cases (show v=Value.ref p from rx);rcases J with J|J
   ·obtain⟨z,hd,vs,rel,T⟩:=pZ I.hok J;obtain⟨w2,hw,l⟩:=EU (v:=t) (o:=valueAt vs (Sum.inr k)) (by rw[<-g];exact rel.val _);exact agb I T (jR (P:=X.prog) (w:=X.w) C) hw l j r
   ·obtain⟨hd,z,T⟩:=J;obtain⟨vs,rel,T⟩:=T s.heap I.kIn;obtain⟨w2,hw,l⟩:=EU (v:=t) (o:=valueAt vs (Sum.inr k)) (by rw[<-g];exact rel.val _);exact agb I T (jR (P:=X.prog) (w:=X.w) C) hw l j r
  |_=>exact q.elim
 |_=>cases y<;>exact q.elim
def atd(K:Ah):List V->Hp->VK->Prop:=λxs H Q=>match xs with
 |[.str z]=>z.length<=sizeLine/\Q (.int z.length) H
 |[.ref p]=>∃ys,(aQ K H p ys\/cg K H p ys)/\Q (.int ys.length) H
 |_=>False
theorem abm:xf X (.builtin "len") (atd X.K):=by
 intro J s U H j g Q I r h
 match j,h with
 |[.str z],h=>exact rF J s U H _ g Q I r ⟨z,rfl,h.1,h.2⟩
 |[.ref p],h=>
  obtain⟨l,o,t⟩:=h;exact rq J s U H _ g Q I r ⟨p,l,rfl,o,t⟩
inductive Da where
 |s (v:V)
 |tup (xs:List Da)
 |lst (xs:List Da)
mutual
def Da.eq:Da->Da->Bool
 |.s v,.s w=>kH v w
 |.tup xs,.tup ys=>Da.eqs xs ys
 |.lst xs,.lst ys=>Da.eqs xs ys
 |_,_=>false
def Da.eqs:List Da->List Da->Bool
 |[],[]=>true
 |x::xs,y::ys=>Da.eq x y&&Da.eqs xs ys
 |_,_=>false
end
def kn(K:Ah)(H:Hp):Nat->V->Da->Prop
 |0,v,d=>d=.s v/\ay v=true
 |n+1,v,d=>(d=.s v/\ay v=true)\/(∃a xs ds,v=.ref a/\d=.tup ds/\cg K H a xs/\Paired (kn K H n) xs ds)\/(∃a xs ds,v=.ref a/\d=.lst ds/\aQ K H a xs/\Paired (kn K H n) xs ds)
theorem Da.eqs_range:∀(ds es:List Da),((List.range (min ds.length es.length)).all (λj=>Da.eq (ds.getD j (.s .non)) (es.getD j (.s .non)))&&ds.length==es.length)=Da.eqs ds es
 |[],[]=>by simp[Da.eqs]
 |[],e::es=>by simp[Da.eqs]
 |d::ds,[]=>by simp[Da.eqs]
 |d::ds,e::es=>by
  have J:=Da.eqs_range ds es;rw[Da.eqs,<-J];have:min (d::ds).length (e::es).length=min ds.length es.length+1:=by simp only[AQ];lia
  rw[this,List.range_succ_eq_map,Dv,List.all_map];have U:((d::ds).length==(e::es).length)=(ds.length==es.length):=by simp
  rw[U,Bool.and_assoc];rfl
abbrev ED:=@Da.eqs_range
theorem Paired.at{α β:Type}{F:α->β->Prop}:∀{xs:List α} {ys:List β} {j:Nat} {x:α} {y:β},Paired F xs ys->xs[j]?=some x->ys[j]?=some y->F x y
 |_,_,_,_,_,.nil,h,_=>by simp at h
 |_,_,0,_,_,.cons r _,J,U=>by simp at J U;subst J U;exact r
 |_,_,j+1,_,_,.cons _ t,J,U=>Paired.at (j:=j) t (by simpa using J) (by simpa using U)
abbrev EE:=@Paired.at
theorem iV:∀{v:V},ay v=true->kH v v=true
 |.non,_=>rfl
 |.bl _,_=>by simp[kH]
 |.int _,_=>by simp[kH]
 |.str _,_=>by simp[kH]
theorem je(h:ay (.ref a)=true):False:=by simp[ay] at h
theorem zd.notBoth(I:zd X pins σ H s){ys:List V}(h:cg X.K H a xs)(h':aQ X.K H a ys):False:=by
 obtain⟨j,_,⟨o,e,c,_⟩,_⟩:=I.tuple h;obtain⟨U,_,⟨l,p,g,J,_⟩,_⟩:=I.list h';rw[e] at g;cases g;rw[c] at J;injection J with J
 exact absurd J (by decide)
theorem qK(I:zd X pins σ H s):∀(n:Nat) {m:Nat} {x:V} {d e:Da},kn X.K H n x d->kn X.K H m x e->Da.eq d e=true
 |0,m,x,d,e,h1,g=>by
  obtain⟨rfl,f⟩:=h1;cases m with
  |zero=>obtain⟨rfl,_⟩:=g;exact iV f
  |succ m=>
   rcases g with⟨rfl,_⟩|⟨a,j,l,rfl,_⟩|⟨a,j,l,rfl,_⟩
   ·exact iV f
   ·exact(je f).elim
   ·exact(je f).elim
 |n+1,m,x,d,e,h1,g=>by
  have both:∀{j:List V} {l o:List Da} {m:Nat},Paired (kn X.K H n) j l->Paired (kn X.K H m) j o->Da.eqs l o=true:=by
   intro j l o m p
   induction p generalizing o with
   |nil=>intro q;cases q;rfl
   |cons r t ih=>
    intro q;cases q with|cons r' t'=>rw[Da.eqs,qK I n r r',ih t'];rfl
  rcases h1 with⟨rfl,f⟩|⟨a,j,l,rfl,rfl,T,hp⟩|⟨a,j,l,rfl,rfl,T,hp⟩
  ·cases m with
   |zero=>obtain⟨rfl,_⟩:=g;exact iV f
   |succ m=>
    rcases g with⟨rfl,_⟩|⟨a,j,l,rfl,_⟩|⟨a,j,l,rfl,_⟩
    ·exact iV f
    ·exact(je f).elim
    ·exact(je f).elim
  ·cases m with
   |zero=>exact(je g.2).elim
   |succ m=>
    rcases g with⟨_,f⟩|⟨a',ys,o,C,rfl,J,U⟩|⟨a',ys,o,C,rfl,J,U⟩
    ·exact(je f).elim
    ·cases C;cases I.tuple_inj T J;exact both hp U
    ·cases C;exact(I.notBoth T J).elim
  ·cases m with
   |zero=>exact(je g.2).elim
   |succ m=>
    rcases g with⟨_,f⟩|⟨a',ys,o,C,rfl,J,U⟩|⟨a',ys,o,C,rfl,J,U⟩
    ·exact(je f).elim
    ·cases C;exact(I.notBoth J T).elim
    ·cases C;cases I.list_inj T J;exact both hp U
theorem j9{eH:Array Value}(p:PlainL h a eH):h.IsList a eH:=let ⟨o,n,e,c,_,d⟩:=p;⟨o,e,c,n,d⟩
theorem gj{ys:List V}{ds es:List Da}(px:Paired (kn X.K H n) xs ds)(py:Paired (kn X.K H m) ys es)(J:zr xs us)(U:zr ys vs)
 (r:∀{x y:V} {d e:Da} {u v:Value},kn X.K H n x d->kn X.K H m y e->j3 x u->j3 y v->SeqAt.EqAt A.in1 s u v (Da.eq d e)):
 ∀j (h1:j<us.toArray.size) (h2:j<vs.toArray.size),SeqAt.EqAt A.in1 s us.toArray[j] vs.toArray[j] (Da.eq (ds.getD j (.s .non)) (es.getD j (.s .non))):=by
 intro j h1 h2;have I:=px.length;have T:=py.length;have l3:=J.length;have l4:=U.length;rw[Aq] at h1 h2;have g:xs[j]?=some xs[j]:=Ag (by lia);have l:ys[j]?=some ys[j]:=Ag (by lia);have o:ds[j]?=some ds[j]:=Ag (by lia);have p:es[j]?=some es[j]:=Ag (by lia);have t:us[j]?=some us[j]:=Ag (by lia);have C:vs[j]?=some vs[j]:=Ag (by lia);rw[Be,Be,o,p];exact r (EE px g o) (EE py l p) (EE J g t) (EE U l C)
theorem oz{ys:List V}{ds es:List Da}(I:zd X pins σ H s)(g:A.units<cLine)(j:cg X.K H a xs)(l:cg X.K H b ys)(px:Paired (kn X.K H n) xs ds)(py:Paired (kn X.K H m) ys es)
 (o:∀{x y:V} {d e:Da} {u v:Value},kn X.K H n x d->kn X.K H m y e->j3 x u->j3 y v->SeqAt.EqAt A.in1 s u v (Da.eq d e)):SeqAt.RcAt A s (.ref a) (.ref b) (Da.eqs ds es):=by
 obtain⟨r,J,p,_⟩:=I.tuple j;obtain⟨t,U,ty,_⟩:=I.tuple l;have q:=SeqAt.RcAt.tuples p ty g (gj px py J U o);rw[Aq,Aq,<-J.length,<-U.length,px.length,py.length,ED] at q;exact q
theorem uV{ys:List V}{ds es:List Da}(I:zd X pins σ H s)(l:A.units<cLine)(p:aQ X.K H a xs)(r:aQ X.K H b ys)(px:Paired (kn X.K H n) xs ds)(py:Paired (kn X.K H m) ys es)
 (t:∀{x y:V} {d e:Da} {u v:Value},kn X.K H n x d->kn X.K H m y e->j3 x u->j3 y v->SeqAt.EqAt A.in1 s u v (Da.eq d e)):SeqAt.RcAt A s (.ref a) (.ref b) (Da.eqs ds es):=by
 obtain⟨C,U,o,_⟩:=I.list p;obtain⟨T,j,ty,_⟩:=I.list r;by_cases g:C.toArray.size=T.toArray.size
 ·have q:=SeqAt.RcAt.lists (j9 o) (j9 ty) g l (gj px py U j t);have J:ds.length=es.length:=by rw[<-px.length,<-py.length,U.length,j.length];simpa using g
  have e:=ED ds es;rw[J,Nat.min_self] at e;rw[<-J] at e;rw[Aq,<-U.length,px.length] at q;simp only[beq_self_eq_true,DV] at e;rw[e] at q;exact q
 ·have q:=SeqAt.RcAt.lists_lengths (j9 o) (j9 ty) (by simpa using g) l;have J:ds.length≠es.length:=by rw[<-px.length,<-py.length,U.length,j.length];intro z;exact g (by simpa using z)
  have e:=ED ds es;have f:(ds.length==es.length)=false:=by simpa using J
  rw[f,DS] at e;rw[<-e];exact q
theorem o3(I:zd X pins σ H s):∀(n:Nat) {m:Nat} {A:Around} {x y:V} {d e:Da} {u v:Value},A.units+n<cLine->kn X.K H n x d->kn X.K H m y e->j3 x u->j3 y v->SeqAt.EqAt A s u v (Da.eq d e):=by
 have J:∀{A:Around} {x:V} {u:Value} {b:Addr} {C:List V},A.units<cLine->ay x=true->j3 x u->(cg X.K H b C\/aQ X.K H b C)->SeqAt.EqAt A s u (.ref b) false/\SeqAt.EqAt A s (.ref b) u false:=by
  intro A x u b C g f r h;have h':(∃T,s.heap.IsTuple b T)\/∃T,s.heap.IsList b T:=by
   rcases h with h|h
   ·obtain⟨T,_,t,_⟩:=I.tuple h;exact .inl ⟨_,t⟩
   ·obtain⟨T,_,t,_⟩:=I.list h;exact .inr ⟨_,j9 t⟩
  cases x with
  |non=>cases r;rcases h' with⟨_,t⟩|⟨_,t⟩;exact⟨.none_tuple t g,.tuple_none t g⟩;exact⟨.none_list t g,.list_none t g⟩
  |bl k=>cases r;rcases h' with⟨_,t⟩|⟨_,t⟩;exact⟨.bool_tuple k t g,.tuple_bool k t g⟩;exact⟨.bool_list k t g,.list_bool k t g⟩
  |int k=>obtain⟨tk,rfl⟩:=r;rcases h' with⟨_,t⟩|⟨_,t⟩;exact⟨.int_tuple k tk t g,.tuple_int k tk t g⟩;exact⟨.int_list k tk t g,.list_int k tk t g⟩
  |str k=>obtain⟨tk,rfl⟩:=r;rcases h' with⟨_,t⟩|⟨_,t⟩;exact⟨.str_tuple k tk t g,.tuple_str k tk t g⟩;exact⟨.str_list k tk t g,.list_str k tk t g⟩
  |_=>simp[ay] at f
 intro n
 induction n with
 |zero=>
  intro m A x y d e u v g h1 o rx j;obtain⟨rfl,f⟩:=h1;cases m with
  |zero=>obtain⟨rfl,l⟩:=o;exact oK rx j f l
  |succ m=>
   rcases o with⟨rfl,l⟩|⟨b,C,es,rfl,rfl,U,py⟩|⟨b,C,es,rfl,rfl,U,py⟩
   ·exact oK rx j f l
   ·cases j;exact(J (by lia) f rx (.inl U)).1
   ·cases j;exact(J (by lia) f rx (.inr U)).1
 |succ n ih=>
  intro m A x y d e u v g h1 o rx j;have a1:A.in1.units+n<cLine:=by show A.units+1+n<cLine;lia
  rcases h1 with⟨rfl,f⟩|⟨a,xs,ds,rfl,rfl,p,px⟩|⟨a,xs,ds,rfl,rfl,p,px⟩
  ·cases m with
   |zero=>obtain⟨rfl,l⟩:=o;exact oK rx j f l
   |succ m=>
    rcases o with⟨rfl,l⟩|⟨b,C,es,rfl,rfl,U,py⟩|⟨b,C,es,rfl,rfl,U,py⟩
    ·exact oK rx j f l
    ·cases j;exact(J (by lia) f rx (.inl U)).1
    ·cases j;exact(J (by lia) f rx (.inr U)).1
  ·cases rx;cases m with
   |zero=>obtain⟨rfl,l⟩:=o;exact(J (by lia) l j (.inl p)).2
   |succ m=>
    rcases o with⟨rfl,l⟩|⟨b,C,es,rfl,rfl,U,py⟩|⟨b,C,es,rfl,rfl,U,py⟩
    ·exact(J (by lia) l j (.inl p)).2
    ·cases j;by_cases a0:a=b
     ·subst a0;cases I.tuple_inj p U;have e:Da.eq (.tup ds) (.tup es)=true:=qK I (n+1) (m:=m+1) (x:=.ref a) (.inr (.inl ⟨a,xs,ds,rfl,rfl,p,px⟩)) (.inr (.inl ⟨a,xs,es,rfl,rfl,U,py⟩));rw[e];exact .same _
     ·exact .of_refs a0 (oz I (by lia) p U px py λh1 o r1 r2=>ih a1 h1 o r1 r2)
    ·cases j;obtain⟨us,vx,tx,_⟩:=I.tuple p;obtain⟨vs,vy,ty,_⟩:=I.list U;exact .tuple_list tx (j9 ty) (by lia)
  ·cases rx;cases m with
   |zero=>obtain⟨rfl,l⟩:=o;exact(J (by lia) l j (.inr p)).2
   |succ m=>
    rcases o with⟨rfl,l⟩|⟨b,C,es,rfl,rfl,U,py⟩|⟨b,C,es,rfl,rfl,U,py⟩
    ·exact(J (by lia) l j (.inr p)).2
    ·cases j;obtain⟨us,vx,tx,_⟩:=I.list p;obtain⟨vs,vy,ty,_⟩:=I.tuple U;exact .list_tuple (j9 tx) ty (by lia)
    ·cases j;by_cases a0:a=b
     ·subst a0;cases I.list_inj p U;have e:Da.eq (.lst ds) (.lst es)=true:=qK I (n+1) (m:=m+1) (x:=.ref a) (.inr (.inr ⟨a,xs,ds,rfl,rfl,p,px⟩)) (.inr (.inr ⟨a,xs,es,rfl,rfl,U,py⟩));rw[e];exact .same _
     ·exact .of_refs a0 (uV I (by lia) p U px py λh1 o r1 r2=>ih a1 h1 o r1 r2)
def uEq(K:Ah)(k:Nat):R2:=λx y H Q=>match x,y with
 |.ref a,.ref b=>∃n m d e,n<=k/\kn K H n (.ref a) d/\kn K H m (.ref b) e/\Q (.bl (Da.eq d e)) H
 |x,y=>agt x y=true/\Q (.bl (decide (x=y))) H
theorem anu{k:Nat}(hu:X.A.units+k<cLine):kw X (compareOp .Eq) (uEq X.K k):=by
 intro J s t H x y v u Q I C T h;cases x with
 |ref a=>
  cases y with
  |ref b=>
   obtain⟨n,m,d,e,hn,l,U,q⟩:=h;cases C;cases T;have xi:∀{k:Bool},k=Da.eq d e->SeqAt.RcAt X.A s (.ref a) (.ref b) k->wpAny (model X.prog X.w) X.A (compareOp .Eq (.ref a) (.ref b)) (EP X J t Q) X.xe s:=λ{k} e' r=>
    r X.prog X.w X.xe (EP X J t Q) (by rw[e'];exact⟨.bl _,H,I,rfl,q⟩)
   cases n with
   |zero=>exact(je l.2).elim
   |succ n=>
    cases m with
    |zero=>exact(je U.2).elim
    |succ m=>
     have o:X.A.in1.units+n<cLine:=by show X.A.units+1+n<cLine;lia
     rcases l with⟨_,f⟩|⟨a',xs,ds,e1,rfl,p,px⟩|⟨a',xs,ds,e1,rfl,p,px⟩
     ·exact(je f).elim
     ·cases e1;rcases U with⟨_,f⟩|⟨b',ys,es,g,rfl,j,py⟩|⟨b',ys,es,g,rfl,j,py⟩
      ·exact(je f).elim
      ·cases g;exact xi rfl (oz I (by lia) p j px py λl U r1 r2=>o3 I n o l U r1 r2)
      ·cases g;obtain⟨us,vx,tx,_⟩:=I.tuple p;obtain⟨vs,vy,ty,_⟩:=I.list j;exact xi rfl (.tuple_list tx (j9 ty) (by lia))
     ·cases e1;rcases U with⟨_,f⟩|⟨b',ys,es,g,rfl,j,py⟩|⟨b',ys,es,g,rfl,j,py⟩
      ·exact(je f).elim
      ·cases g;obtain⟨us,vx,tx,_⟩:=I.list p;obtain⟨vs,vy,ty,_⟩:=I.tuple j;exact xi rfl (.list_tuple (j9 tx) ty (by lia))
      ·cases g;exact xi rfl (uV I (by lia) p j px py λl U r1 r2=>o3 I n o l U r1 r2)
  |_=>exact ake J s t H _ _ v u Q I C T h
 |_=>cases y<;>exact ake J s t H _ _ v u Q I C T h
theorem aqt{c:Addr}(J:Gl X x)(U:X.mg x=some (.ref c))(hd:Ed x:=by decide):PE X (.Name x pos) (tC (.ref c)):=yT J U (v:=.ref c) rfl hd
theorem apr{T:String}(J:Gl X x)(U:X.mg x=none)(g:bootBuiltins x=some (.type T))(j:x ≠ "__name__" := by decide)(hd:Ed x:=by decide):PE X (.Name x pos) (tC (.ty T)):=ai5 J U g (v:=.ty T) rfl j hd
structure Cal(P:Program)(w:World)(K:Ah)(mg:Str->Option Value)(base:Heap)(k:Nat)(x:Str)(ps:List Str)(sp:Sp):Prop where
 ex:∃f fd,bU P w K mg base CX0 k f fd ps sp/\dm K fd ps []/\PySem.W.keepIn K (.ref f)=true/\mg x=some (.ref f)
theorem av2{k:Nat}{t:TA}(c:Cal X.prog X.w X.K X.mg X.base k x ps sp)(g:aI k X.A)(j:Gl X x)(l:PA X (e::es) t)(J:Ed x:=by decide)
 (o:Eb e es X:=by rfl) (U:Ec pos es X:=by rfl):PE X (.Call (.Name x p) (e::es) [] pos) (akn sp [] E0 t):=by
 obtain⟨f,fd,F,b,r,m⟩:=c.ex;exact agw F g j m r b .nil aq9 l J o U
theorem Cal.mono{P:Program}{w:World}{K:Ah}{k:Nat}(c:Cal P w K mg base j x ps sp)(h:j<=k):Cal P w K mg base k x ps sp:=by obtain⟨f,fd,F,b,J,m⟩:=c.ex;exact⟨f,fd,F.mono h,b,J,m⟩
end L2
variable {ds:List L2.Da}
namespace L2
open PySem PySem.Spec PyProof.Rows
def lv(env:Env):List (Str×NameKind)->List (Str×Addr)->List (Str×Addr)
 |[],cs=>cs
 |(n,k)::r,cs=>lv env r (if k==.free then(n,(env.cells.lookup n).getD 0)::cs else cs)
def f9(scope:Scope)(env:Env):List (Str×Addr):=lv env scope.names []
theorem uJ{env:Env}:∀{names:List (Str×NameKind)} {cs:List (Str×Addr)} {p:Str×Addr},p∈lv env names cs->p∈cs\/((p.1,NameKind.free)∈names/\p.2=(env.cells.lookup p.1).getD 0)
 |[],_,_,h=>.inl h
 |(n,k)::r,cs,p,h=>by
  rcases uJ (names:=r) h with q|⟨q,e⟩
  ·by_cases J:(k==NameKind.free)=true
   ·rw[AF J] at q;rcases Am.mp q with rfl|q
    ·have:k=.free:=by simpa using J
     exact .inr ⟨by rw[this];exact Af,rfl⟩
    ·exact .inl q
   ·rw[AG J] at q;exact .inl q
  ·exact .inr ⟨Ac _ q,e⟩
theorem um{env:Env}{x:Str}:∀{names:List (Str×NameKind)} {cs:List (Str×Addr)},((∃c,(x,c)∈cs)\/(x,NameKind.free)∈names)->∃c,(x,c)∈lv env names cs
 |[],_,.inl h=>h
 |[],_,.inr h=>by simp at h
 |(n,k)::r,cs,h=>by
  refine um (names:=r) ?_;rcases h with⟨c,h⟩|h
  ·left;by_cases J:(k==NameKind.free)=true
   ·rw[AF J];exact⟨c,Ac _ h⟩
   ·rw[AG J];exact⟨c,h⟩
  ·rcases Am.mp h with e|h
   ·left;injection e with U g
    subst U;subst g;exact⟨_,Af⟩
   ·exact .inr h
theorem fq{x:Str}:∀{l:List (Str×Addr)} {c:Addr},(x,c)∈l->∃J,l.lookup x=some J
 |(n,d)::r,c,h=>by
  rw[Bp];cases U:x==n with
  |true=>exact⟨d,rfl⟩
  |false=>
   rcases Am.mp h with e|h
   ·injection e with g _;subst g;simp at U
   ·exact fq h
theorem lF(h:∀n,(n,NameKind.free)∈scope.names->∃c,env.cells.lookup n=some c):closureFor scope env=pure (f9 scope env):=by
 unfold closureFor f9;have key:∀(names:List (Str×NameKind)) (J:List (Str×Addr)),(∀n,(n,NameKind.free)∈names->∃c,env.cells.lookup n=some c)->
  (forIn names J λx (r:List (Str×Addr))=>(match x with|(name,kind)=>if kind==NameKind.free then do let a <-cellOf env name;pure (ForInStep.yield ((name,a)::r)) else pure (ForInStep.yield r):Sem (ForInStep (List (Str×Addr)))))=pure (lv env names J):=by
  intro names
  induction names with
  |nil=>intro J _;rfl
  |cons p r t=>
   intro J U;obtain⟨n,k⟩:=p;rw[B4];cases g:k==NameKind.free with
   |true=>
    have j:k=.free:=by simpa using g
    subst j;obtain⟨c,C⟩:=U n Af;have e:cellOf env n=pure c:=by unfold cellOf;rw[C]
    simp only[beq_self_eq_true,if_true,e];have l:lv env ((n,NameKind.free)::r) J=lv env r ((n,c)::J):=by show lv env r _=_;rw[C];rfl
    rw[l];exact t ((n,c)::J) λm o=>U m (Ac _ o)
   |false=>
    simp only[g,BD,if_false];have l:lv env ((n,k)::r) J=lv env r J:=by show lv env r (if (k==NameKind.free)=true then _ else _)=_;rw[g];rfl
    rw[l];exact t J λm o=>U m (Ac _ o)
 exact(Bi (· >>= pure) (key scope.names [] h))
theorem aR{env:Env}{x:Str}:∀{names:List (Str×NameKind)},
 (names.map λ(n,k)=>if (k==NameKind.free&&env.scope.kind==.function&&env.kindOf n==some .cell) then(n,NameKind.cell) else(n,k)).lookup x
  = (names.lookup x).map λk=>if (k==NameKind.free&&env.scope.kind==.function&&env.kindOf x==some .cell) then NameKind.cell else k
 |[]=>rfl
 |(n,k)::r=>by
  have j:=@aR env x r;show List.lookup x ((if (k==NameKind.free&&env.scope.kind==.function&&env.kindOf n==some .cell)=true then(n,NameKind.cell) else(n,k))::_)=_;cases U:x==n with
  |true=>
   have g:x=n:=by simpa using U
   subst g;by_cases J:(k==NameKind.free&&env.scope.kind==.function&&env.kindOf x==some .cell)=true
   ·rw[AF J];simp only[Bp,beq_self_eq_true,Option.map_some];rw[AF J]
   ·rw[AG J];simp only[Bp,beq_self_eq_true,Option.map_some];rw[AG J]
  |false=>
   by_cases J:(k==NameKind.free&&env.scope.kind==.function&&env.kindOf n==some .cell)=true
   ·rw[AF J];simp only[Bp,U];exact j
   ·rw[AG J];simp only[Bp,U];exact j
def Cx.comp(X:Cx)(scope:Scope)(T:List Str)(C:Addr)(fp:List Addr)(s₀:Shared)(H₀:Hp):Cx:=
 { X with N:=X.N++T,s₀:=s₀,H₀:=H₀,env:=compEnvC scope (f9 scope X.env) C X.env,outer:=X.stack,ex:=fp,fn:=λ_=>false,xe:=λ_ _=>False }
structure jq(X:Cx)(scope:Scope):Prop where
 kind:scope.kind=.function
 nocell:∀y∈scope.names,y.2≠.cell
 names:∀y∈scope.names,y.2=.local->scope.names.lookup y.1=some .local
 free:∀n,scope.names.lookup n=some .free->X.env.kindOf n=some .cell\/X.env.kindOf n=some .free
 freeM:∀n,(n,NameKind.free)∈scope.names->X.env.kindOf n=some .cell\/X.env.kindOf n=some .free
 apart:∀x∈X.N,scope.names.lookup x≠some .local
theorem jq.clo(S:jq X scope)(I:zd X pins σ H s):closureFor scope X.env=pure (f9 scope X.env):=
 lF λn h=>I.ok.has n (S.freeM n h)
theorem jq.cl_old(S:jq X scope)(I:zd X pins σ H s){c:Addr}(h:(f9 scope X.env).lookup x=some c):X.env.cells.lookup x=some c:=by
 rcases uJ (Bv h) with q|⟨q,e⟩
 ·simp at q
 ·obtain⟨d,hd⟩:=I.ok.has x (S.freeM x q);have J:c=(X.env.cells.lookup x).getD 0:=e;rw[hd] at J ⊢;rw[J];rfl
theorem jq.cl_has(_:jq X scope)(h:scope.names.lookup x=some .free):∃c,(f9 scope X.env).lookup x=some c:=by obtain⟨c,J⟩:=um (env:=X.env) (names:=scope.names) (cs:=[]) (x:=x) (.inr (Bv h));exact fq J
theorem jq.kindOf(S:jq X scope)(h:(compEnvC scope (f9 scope X.env) C X.env).kindOf x=some .cell\/(compEnvC scope (f9 scope X.env) C X.env).kindOf x=some .free):scope.names.lookup x=some .free:=by
 have e:(compEnvC scope (f9 scope X.env) C X.env).kindOf x=(scope.names.lookup x).map λk=>if (k==NameKind.free&&X.env.scope.kind==.function&&X.env.kindOf x==some .cell) then NameKind.cell else k:=aR
 rw[e] at h;cases J:scope.names.lookup x with
 |none=>rw[J] at h;rcases h with h|h<;>cases h
 |some k=>
  rw[J] at h;cases k with|free=>rfl|cell=>exact absurd rfl (S.nocell _ (Bv J))|_=>rcases h with h|h<;>cases h
theorem jq.vis(S:jq X scope)(g:x∈X.N)(h:Vis (compEnvC scope (f9 scope X.env) C X.env).scope x):scope.names.lookup x=some .free:=by
 rcases h with h|h|h
 ·exfalso;have e:(compEnvC scope (f9 scope X.env) C X.env).kindOf x=(scope.names.lookup x).map λk=>if (k==NameKind.free&&X.env.scope.kind==.function&&X.env.kindOf x==some .cell) then NameKind.cell else k:=aR
  have J:(compEnvC scope (f9 scope X.env) C X.env).kindOf x=some .local:=h;rw[e] at J;cases U:scope.names.lookup x with
  |none=>rw[U] at J;cases J
  |some k=>
   rw[U] at J;have J:(if (k==NameKind.free&&X.env.scope.kind==.function&&X.env.kindOf x==some .cell)=true then NameKind.cell else k)=.local:=AN J;split at J
   ·cases J
   ·subst J;exact S.apart x g U
 ·exact S.kindOf (C:=C) (.inl h)
 ·exact S.kindOf (C:=C) (.inr h)
theorem jq.back(S:jq X scope)(h:scope.names.lookup x=some .free):(compEnvC scope (f9 scope X.env) C X.env).kindOf x=some .cell\/(compEnvC scope (f9 scope X.env) C X.env).kindOf x=some .free:=by
 have e:(compEnvC scope (f9 scope X.env) C X.env).kindOf x=(scope.names.lookup x).map λk=>if (k==NameKind.free&&X.env.scope.kind==.function&&X.env.kindOf x==some .cell) then NameKind.cell else k:=aR
 rw[e,h];show some (if _ then _ else _)=_\/some (if _ then _ else _)=_;split
 ·exact .inl rfl
 ·exact .inr rfl
def PF(X:Cx)(kA:List Expr)(t:TT):Prop:=
 ∀(pins:List (Addr×Obj)) (s:Shared) (σ:St) (H:Hp) (Q:Bool->Hp->Prop),zd X pins σ H s->t σ H Q->
  wpAny (model X.prog X.w) X.A (forIn kA true λc r=>if r=true then do let ok <-isTrue c X.env (eval c X.env);pure (ForInStep.yield ok) else pure (ForInStep.yield r)) (TP X pins σ Q) X.xe s
def atu:TT:=λ_ H Q=>Q true H
theorem al8 :PF X [] atu:=λ_ _ _ H _ I h=>Ai ⟨H,I,h⟩
theorem al9{t:TT}(hc:PT X c t):PF X [c] t:=by intro J s U H Q I h;rw[B4];simp only[if_true];refine Aa (Aa (aV (hc J s U H Q I h) λb g q=>Ai ?_));exact Ai q
theorem f8{w:World}{R:Result->Shared->Prop}{iter:Expr}{it C:Value}(I:Nat->Shared->Prop)
 (turn:∀n s,I n s->wpAny (model prog w) A (pyNext it) (λr J=>match r with
  |none=>R (.ok .next) J
  |some v=>wpAny (model prog w) A (letOwnedTupleGo target it v) (λ_ J=>wpAny (model prog w) A (assign target env v) (λ_ l=>
   wpAny (model prog w) A (forIn kA true λc r=>if r=true then do let ok <-isTrue c env (eval c env);pure (ForInStep.yield ok) else pure (ForInStep.yield r)) (λok g=>
    if ok=true then wpAny (model prog w) A (eval kB env) (λx o=>
     wpAny (model prog w) A (call (.builtin "list.append") [C,x]) (λ_ p=>∃m,m<n/\I m p) (λ_ _=>False) o) (λ_ _=>False) g
    else ∃m,m<n/\I m g) (λ_ _=>False) l) (λ_ _=>False) J) (λ_ _=>False) J) (λ_ _=>False) s)
 (n:Nat) (h:I n s):
 codeAny (model prog w) A (.compLoop (.ListComp kB [⟨target,iter,kA,0⟩] scope pos) 0 it C env) R s:=by
 refine codeAny_loop rfl I (λn s hI=>?_) n h;show wpAny _ A ((compTurn (.ListComp kB [⟨target,iter,kA,0⟩] scope pos) 0 it C env).onRaise (λx=>do noteFrame x env;theTreesLotGoes x)) _ _ s;refine wpAny_noted ?_;rw[compTurn_list];refine Aa (wpAny_standAt (Aa (AZ (turn n s hI) (λr J U=>?_) λ_ _ j=>j.elim)));cases r with
 |none=>exact Ai U
 |some v=>
  refine Aa (AZ U (λ_ J U=>?_) λ_ _ j=>j.elim);refine Aa (AZ U (λ_ l T=>Aa (AZ T (λok g t=>?_) λ_ _ j=>j.elim)) λ_ _ j=>j.elim);cases ok with
  |false=>exact Ai ⟨rfl,t⟩
  |true=>
   exact Aa (Aa (AZ t (λx o a0=>Aa (AZ a0 (λ_ p a1=>Ai (Ai ⟨rfl,a1⟩)) λ_ _ j=>j.elim)) λ_ _ j=>j.elim))
def tLC(n:Nat)(wi:TI)(g:TG)(tc:TT)(te:TE):TE:=λσ H Q=>wi σ H λJ H1=>∃W:Nat->Nat->List V->Hp->Prop,(∃m,W 0 m [] H1)/\∀i m ys H,W i m ys H->
 (J.stop i H/\ys.length<=sizeLine/\∀D,H D=none->Q (.ref D) (upd H D (.lst ys)))\/
 (J.go i H/\ys.length<sizeLine/\∀x H',J.yld i H x H'->g x (σ++List.replicate n none) H' λU H2=>tc U H2 λb l=>
  if b=true then te U l λy o=>∃j,j<m/\W (i+1) j (ys++[y]) o else ∃j,j<m/\W (i+1) j ys l)
def pj(g:TG)(n k:Nat):Prop:=∀(σ:St),σ.length=n->∀x H Q,g x (σ++List.replicate k none) H Q->
 g x (σ++List.replicate k none) H λJ H2=>((J.length=n+k/\∀(i:Nat) v,(σ++List.replicate k none)[i]?=some (some v)->J[i]?=some (some v))/\Q J H2)
section
variable {T:List Str}{iter:Expr}{g:TG}{te:TE}
theorem ltN{o:Obj}(e:h.get? b=some o):@LT.lt Nat instLTNat b h.objs.size:=sx e
theorem vC(h:@Ne Nat a b):a≠b:=h
theorem leN(h:@LE.le Nat instLENat a b):a<=b:=h
theorem aeq(eH:List Value)(n:Nat)(u:Value):∃J,Obj.mapSeq (·.push u) { cls:=.type "list",data:=.seq eH.toArray n }=({ cls:=.type "list",data:=.seq (eH++[u]).toArray J }:Obj):=
 ⟨_,by simp[Obj.mapSeq];rfl⟩
theorem wQ{w:World}{D:Addr}(J:s.heap.get? D=some { cls:=.type "list",data:=.seq eH.toArray n })
 (hz:eH.length<=sizeLine) (h:∀h' U,Heap.SameBut D s.heap h'->h'.get? D=some { cls:=.type "list",data:=.seq (eH++[u]).toArray U }->Q .none { s with heap:=h' }):
 wpAny (model prog w) A (call (.builtin "list.append") [.ref D,u]) Q E s:=by
 have j:s.heap.IsList D eH.toArray:=⟨_,J,rfl,n,rfl⟩;refine wpAny_call_entry slot_list_append j.typeIs entry_list_append ?_ (args_list_append _ _);show wpAny _ _ (updateSeq D (·.push u) >>= λ_=>ret .none) _ _ s;refine Aa ?_;obtain⟨U,g⟩:=aeq eH n u;refine wpAny_updateSeq (f:=(·.push u)) J rfl (Ai ⟨.none,rfl,h _ U (vc ..) ?_⟩) (by rw[Aq];exact hz) (by rw[DN,Aq];exact Dy hz);rw[<-g];exact xT _ J (by rw[g];rfl)
theorem oQ{Q:VK}{cb:Value}{U:Shared}{RR:Value->Addr->Result->Shared->Prop}
 (S:jq X scope) (hc:X.calm=true)
 (hg:∀C fp s₀ H₀,PG (X.comp scope T C fp s₀ H₀) target g) (dH:pj g X.N.length T.length) (hf:∀C fp s₀ H₀,PF (X.comp scope T C fp s₀ H₀) kA tc) (he:∀C fp s₀ H₀,PE (X.comp scope T C fp s₀ H₀) kB te)
 (h:PIE X pins σ target (λJ H1=>∃W:Nat->Nat->List V->Hp->Prop,(∃m,W 0 m [] H1)/\∀i m ys H,W i m ys H->
  (J.stop i H/\ys.length<=sizeLine/\∀D,H D=none->Q (.ref D) (upd H D (.lst ys)))\/
  (J.go i H/\ys.length<sizeLine/\∀x H',J.yld i H x H'->g x (σ++List.replicate T.length none) H' λcc H2=>tc cc H2 λb H3=>
   if b=true then te cc H3 λy H4=>∃m',m'<m/\W (i+1) m' (ys++[y]) H4 else ∃m',m'<m/\W (i+1) m' ys H3)) cb U)
 (dI:∀D C s' H' m',zd X pins σ H' s'->lJ X pins H' C->s'.heap.Ns C m'->Q (.ref D) H'->RR (.ref D) C (.ok .next) s'):
 wpAny (model X.prog X.w) X.A (newList []) (λcl ar=>wpAny (model X.prog X.w) X.A (newFunctionEnv scope X.env.globals (f9 scope X.env) [] X.env.qual none .none (some X.env)) (λbg cm=>
  codeAny (model X.prog X.w) X.A (.compStart (.ListComp kB [⟨target,iter,kA,0⟩] scope pos) 0 cb cl { bg with scope:=relabel scope X.env }) (RR cl bg.locals) cm) E ar) E U:=by
 obtain⟨it,fp,tn,J,H2,rfl,j,Tn,bi,f2,W,⟨m0,w0⟩,turn⟩:=h;refine Bo (wpAny_newFunctionEnv S.nocell (by intro y hy;simp at hy) (λba ag I=>?_) S.kind);dsimp only at ag I ⊢;generalize bj:U.heap.push { cls:=.type "list",dict:=none,data:=.seq ([]:List Value).toArray }=G at ag I ⊢;have hC:G.objs.size=U.heap.objs.size+1:=by rw[<-bj,Eg]
 obtain⟨D,eD⟩:∃D,U.heap.objs.size=D:=⟨_,rfl⟩;obtain⟨C,eC⟩:∃C,G.objs.size=C:=⟨_,rfl⟩;rw[eD] at hC ⊢;rw[eC] at hC ag I ⊢;have bn:D≠C:=by lia
 have old:∀b o,U.heap.get? b=some o->ba.get? b=some o:=λb o e=>by have t:=ltN e;exact I.extBut b o (vC (by lia)) (r4 _ (bj▸r4 _ e))
 have cn:ba.get? D=some { cls:=.type "list",data:=.seq ([]:List Value).toArray 0 }:=by refine I.extBut _ _ bn (r4 _ ?_);rw[<-bj,<-eD];exact sy _ rfl
 have bp:∀b∈fp,@LT.lt Nat instLTNat b U.heap.objs.size:=λb t=>by obtain⟨o,e,_⟩:=Tn.obj _ _ bi b t;exact ltN e
 have cv:@LT.lt Nat instLTNat X.env.locals U.heap.objs.size:=j.lt;have ef:X.s₀.heap.objs.size<=U.heap.objs.size:=j.sz;have HD:H2 D=none:=j.hok.fresh (leN (by exact aaf));have HC:H2 C=none:=j.hok.fresh (leN (by lia));have dO:∀b:Addr,@LE.le Nat instLENat U.heap.objs.size b->b∉fj X.stack:=λb t z=>by
  have q:=j.stkSub b z;rcases Am.mp q with q|q
  ·rw[<-q] at cv;exact absurd cv (Nat.not_lt.mpr t)
  ·exact j.nofs t q
 have bb:∀x c,X.env.cells.lookup x=some c->@LT.lt Nat instLTNat c U.heap.objs.size:=λx c e=>by obtain⟨v,q⟩:=j.cell x c e;exact q.lt
 let X':Cx:=X.comp scope T C fp U H2
 have bq:X'.Ok:={
  mod:=j.ok.mod,kind:=S.kind,glob:=j.ok.glob,blt:=j.ok.blt
  above:=leN (by show @LE.le Nat instLENat U.heap.objs.size C;lia)
  inj:=λx y c h1 h2=>j.ok.inj x y c (S.cl_old j h1) (S.cl_old j h2)
  has:=λx hx=>S.cl_has (S.kindOf hx)
  cab:=λx c hx=>absurd (show false=true from hx) (by simp)
  hd:=j.ok.hd,frames:=j.ok.frames,stk:=.inl rfl
  exf:=λb t=>⟨vC (by have:=bp b t;show @Ne Nat b C;lia),λx c e=>(f2 b t).2.2.2.2.1 x c (S.cl_old j e)⟩
  bs:=j.bs,bsz:=AU j.ok.bsz j.sz
  noex:=λb o e t=>by
   obtain⟨e0,n0⟩:=j.ok.bs b o e;rcases (f2 b t).2.2.2.1 with q|q
   ·exact j.ok.noex b o e q
   ·have q':@LE.le Nat instLENat X.s₀.heap.objs.size b:=q;have:=ltN e0;lia
  exfs:=λb t z=>by
   rcases Am.mp (j.stkSub b z) with q|q
   ·exact(f2 b t).2.1 q
   ·exact(f2 b t).2.2.1 q
  funs:=j.stack,frf:=j.stkFree }
 have I4:∀tk,0<tk->zd X' pins (σ++List.replicate T.length none) H2 { U with heap:=ba,toks:=tk }:=λtk dP=>{
  tk:=dP,ok:=bq,os:=rfl,bare:=j.bare,base:=Un.kept old
  loc:=⟨_,ag,λi x v e1 e2 e3=>by
   have hi:i<σ.length:=by
    by_cases hi:i<σ.length
    ·exact hi
    ·rw[Ax (by exact agj),Ck] at e2;split at e2<;>cases e2
   rw[AB hi] at e2;have dS:i<X.N.length:=by rw[<-j.len];exact hi
   have cy:X.N[i]?=some x:=by have:(X.N++T)[i]?=some x:=e1;rw[AB dS] at this;exact this
   have br:=S.vis (Aw cy) e3;obtain⟨m,hn,hl⟩:=j.loc;have hk:=S.free x br;obtain⟨u,r,l⟩:=hl i x v cy e2 (.inr hk);refine⟨u,r,.inr ⟨S.back br,?_⟩⟩;rcases l with⟨l,_⟩|⟨_,c,e,z⟩
   ·rw[l] at hk;rcases hk with q|q<;>cases q
   ·obtain⟨c',e'⟩:=S.cl_has br;have cz:=S.cl_old j e';rw[e] at cz;cases cz;exact⟨c,e',z.keeps old⟩⟩
  cell:=λx c e=>by obtain⟨v,z⟩:=j.cell x c (S.cl_old j e);exact⟨v,z.keeps old⟩
  free:=HC,freeC:=λx c e=>j.freeC x c (S.cl_old j e)
  pin:=λp hp=>by
   obtain⟨a,b,c,d,e⟩:=j.pin p hp;have dV:=ltN a;refine⟨old _ _ a,b,vC (by show @Ne Nat p.1 C;lia),λz=>?_,e⟩;rcases Am.mp (j.stkSub _ z) with q|q
   ·exact c q
   ·exact d q
  hok:=j.hok.kept old
  len:=by show(σ++_).length=(X.N++T).length;rw[Ad,Ad,BX,j.len] }
 have bu:∀(aH:List (Addr×Obj)) (H':Hp),(∀p∈aH,p∈pins\/p.1=D)->(∀b∈fp,H' b=none)->∀b∈fp,lJ X' aH H' b:=λaH H' hp hn b t=>by
  obtain⟨_,q1,q2,q3,q4,q5⟩:=f2 b t;have dV:=bp b t;refine⟨hn b t,vC (by show @Ne Nat b C;lia),bq.exfs b t,.inl t,(bq.exf b t).2,λp dX=>?_⟩;rcases Ap.mp dX with z|z
  ·exact q5 p (Ar _ z)
  ·rcases hp p z with z|z
   ·exact q5 p (Ae _ z)
   ·rw[z];exact vC (by lia)
 have stay:Tn.keep=Tn.keep:=rfl;have bh:∀ar:Shared,ar={ U with heap:=ba,toks:=U.toks+([]:List (Str×Value)).length }->
  codeAny (model X.prog X.w) X.A (.compLoop (.ListComp kB [⟨target,iter,kA,0⟩] scope pos) 0 (.ref it) (.ref D) X'.env) (RR (.ref D) C) ar:=by
  rintro ar rfl;refine f8 (λn s'=>∃i bS H' ys al k,zd X' pins bS H' s'/\(bS.length=X.N.length+T.length/\∀(i:Nat) v,(σ++List.replicate T.length none)[i]?=some (some v)->bS[i]?=some (some v))/\
   s'.heap.get? D=some { cls:=.type "list",data:=.seq (al:List Value).toArray k }/\zr ys al/\H' D=none/\tn i s'.heap/\(∀b∈fp,H' b=none)/\W i n ys H') ?_ m0
   ⟨0,_,H2,[],[],0,I4 _ j.tk,⟨by rw[Ad,BX,j.len],λ_ _ e=>e⟩,cn,.nil,HD,Tn.keep _ _ _ bi λb _ o e=>old b o e,λb t=>(f2 b t).1,w0⟩
  rintro n s3 ⟨i,eg,H3,ys,al,k,I3,⟨e4,e5⟩,e6,bd,bf,cP,d0,w3⟩;have ee:al.length=ys.length:=bd.length.symm;have da:D∉X'.fs:=dO D (by exact aaf);have de:D≠X'.env.locals:=bn;have di:zd X' (pins++[(D,{ cls:=.type "list",data:=.seq al.toArray k })]) (σ++List.replicate T.length none) H3 s3:=
   (I3.weak (by rw[e4,Ad,BX,j.len]) e5).pins_of λp hp=>by
    rcases Ap.mp hp with z|z
    ·exact I3.pin p (Ae _ z)
    ·have e:=Aj.mp z;subst e;exact⟨e6,bf,de,da,λv z=>by cases z⟩
  have aL:∀p∈pins++[(D,({ cls:=.type "list",data:=.seq al.toArray k }:Obj))],p∈pins\/p.1=D:=λp hp=>by
   rcases Ap.mp hp with z|z
   ·exact .inl z
   ·exact .inr (by rw[Aj.mp z])
  rcases turn i n ys H3 w3 with⟨stop,hz,qn⟩|⟨go,hz,step⟩
  ·refine aV (Tn.done X' rfl rfl rfl hc i _ s3 _ H3 _ di (bu _ H3 aL d0) cP stop) λr s4 ⟨hr,a0⟩=>?_;subst hr;obtain⟨e7,ej,_⟩:=a0.pin (D,_) (Ae _ (Ae _ Af));obtain⟨m',e8,_⟩:=a0.loc;have un:Un (fj X.stack) fp H2 (upd H3 D (.lst ys)) U.heap s4.heap:={
    keep:=a0.base.keep,slot:=a0.base.slot
    free:=λb o e n hx=>by have:=ltN e;rw[qx (vC (by lia))];exact a0.base.free b o e n hx
    there:=a0.base.there
    tups:=λb xs e=>by rw[qx (λz=>by rw[z,HD] at e;cases e)];exact a0.base.tups b xs e
    frzs:=λb o u e=>by rw[qx (λz=>by rw[z,HD] at e;cases e)];exact a0.base.frzs b o u e
    tbls:=λb ps e=>by rw[qx (λz=>by rw[z,HD] at e;cases e)];exact a0.base.tbls b ps e }
   have ea:dw X.prog X.w (upd H3 D (.lst ys)) s4.heap:=λb u e=>by
    by_cases t:b=D
    ·subst t;rw[zv] at e;cases e;exact⟨hz,al,k,bd,e7⟩
    ·rw[qx t] at e;refine(a0.hok b u e).stay (λ_ _ _ q=>q) (λc q=>?_) λc xs q=>?_
     ·rw[qx (zy q bf)];exact q
     ·rw[qx (zy q bf)];exact q
   have I5:zd X pins σ (upd H3 D (.lst ys)) s4:=j.call' (ch:=fp) a0.os un ea a0.bare λb t=>⟨(f2 b t).2.2.2.1,(f2 b t).2.1,(f2 b t).2.2.2.2.1,(f2 b t).2.2.2.2.2⟩;refine dI D C s4 _ m' I5 ?_ e8 (qn D bf);refine⟨by rw[qx (AI bn)];exact a0.free,?_,?_,.inr ?_,λx c e=>?_,λp hp=>?_⟩
   ·exact vC (by lia)
   ·exact j.nofs (leN (by lia))
   ·exact leN (by lia)
   ·exact vC (by have:=bb x c e;lia)
   ·exact vC (by have:=ltN (j.pin p hp).1;lia)
  ·refine aV (Tn.item X' rfl rfl rfl hc i _ s3 _ H3 _ di (bu _ H3 aL d0) cP go) λr s4 ⟨u,hr,h4⟩=>?_;subst hr;refine aV h4 λ_ s5 ⟨x,H5,I5,r5,y5,ca,eb⟩=>?_;have ec:=I5.pinned (bu _ H5 aL eb) (Tn.obj _ _ ca);refine AZ ((hg C fp U H2) _ s5 _ H5 x u _ ec r5 (dH σ j.len x H5 _ (step x H5 y5))) (λ_ s6 ⟨bc,H6,I6,⟨dj,dp⟩,q6⟩=>?_) λ_ _ z=>z;refine AZ ((hf C fp U H2) _ s6 bc H6 _ I6 q6) (λb s7 ⟨H7,I7,q7⟩=>?_) λ_ _ z=>z;have xi:∀{s8:Shared} {H8:Hp} (I8:zd X' ((pins++[(D,{ cls:=.type "list",data:=.seq al.toArray k })])++oE fp s5.heap) bc H8 s8),tn (i+1) s8.heap/\(∀b∈fp,H8 b=none)/\s8.heap.get? D=some { cls:=.type "list",data:=.seq al.toArray k }/\H8 D=none/\zd X' pins bc H8 s8:=λ{s8 H8} I8=>by
    refine⟨Tn.keep _ _ _ ca λb t o e=>(I8.pin (b,o) (Ae _ (Ae _ (cx t e)))).1,λb t=>?_,?_,?_,I8.unpinned.unpinned⟩
    ·obtain⟨o,e,d⟩:=Tn.obj _ _ ca b t;exact(I8.pin (b,o) (Ae _ (Ae _ (cx t e)))).2.1
    ·exact(I8.pin (D,_) (Ae _ (Ar _ (Ae _ Af)))).1
    ·exact(I8.pin (D,_) (Ae _ (Ar _ (Ae _ Af)))).2.1
   cases b with
   |false=>
    rw[AG AC] at q7 ⊢;obtain⟨m',hm,w7⟩:=q7;obtain⟨a1,a2,a3,a4,a5⟩:=xi I7;exact⟨m',hm,i+1,bc,H7,ys,al,k,a5,⟨dj,dp⟩,a3,bd,a4,a1,a2,w7⟩
   |true=>
    rw[AF rfl] at q7 ⊢;refine AZ ((he C fp U H2) _ s7 bc H7 _ I7 q7) (λv s8 ⟨y,H8,I8,r8,m',hm,w8⟩=>?_) λ_ _ z=>z;obtain⟨a1,a2,a3,a4,a5⟩:=xi I8;refine wQ a3 (by lia) λh9 k9 dv ed=>?_;have nD:∀b∈fp,b≠D:=λb t=>vC (by have:=bp b t;lia);refine⟨m',hm,i+1,bc,H8,ys++[y],al++[v],k9,?_,⟨dj,dp⟩,ed,bd.append (.cons r8 .nil),a4,Tn.keep _ _ _ a1 λb t o e=>(dv.2 b (nD b t)).trans e,a2,w8⟩;exact a5.turned (t':=s8.toks) (it:=D) (λb o t e=>(dv.2 b t).trans e) a4 de (.inr (leN (by show @LE.le Nat instLENat U.heap.objs.size D;exact aaf))) (λx c e=>vC (by have:=bb x c (S.cl_old j e);lia)) λp hp=>vC (by have:=ltN (j.pin p hp).1;lia)
 exact codeAny_compStart_list (bh _ rfl) (Tn.self _ _ _ _ _ (Tn.keep _ _ _ bi λb _ o e=>old b o e) (bh _ rfl))
end
section
variable {T:List Str}{iter:Expr}{g:TG}{te:TE}
theorem ar9(T:List Str)(S:jq X scope)(hc:X.calm=true)(hi:PI X target iter wi)(t:∀C fp s₀ H₀,PG (X.comp scope T C fp s₀ H₀) target g)(j:pj g X.N.length T.length)
 (hf:∀C fp s₀ H₀,PF (X.comp scope T C fp s₀ H₀) kA tc) (he:∀C fp s₀ H₀,PE (X.comp scope T C fp s₀ H₀) kB te)
 (hs:∀x,foldedSetIterable iter X.env x=pure x:=by intro _;rfl):PE X (.ListComp kB [⟨target,iter,kA,0⟩] scope pos) (tLC T.length wi g tc te):=by
 intro J s r H Q I h;rw[eval_ListComp];refine wpAny_comprehension_free (use:=none) rfl hs (S.clo I) S.kind S.names (aV (hi J s r H _ I h) λv s1 h1=>aV h1 λa0 s2 h2=>?_);refine oQ (RR:=λl C=>compPost (model X.prog X.w) X.A X.xe none (EP X J r Q) l C) S hc t j hf he h2 ?_;intro D C s' H' m' I' U hn q;exact⟨m',hn,λh' p=>⟨.ref D,H',I'.turned (t':=s'.toks) (it:=C) (λb o hb e=>(p.2 b hb).trans e) U.1 (AI (AI U.2.1)) U.2.2.2.1 U.2.2.2.2.1 U.2.2.2.2.2,rfl,q⟩⟩
theorem aev(T:List Str){px j:Pos}(hN:X.N.Nodup)(l:X.N[i]?=some x)(hx:Loc X.env.scope x)(S:jq X scope)(hc:X.calm=true)(hi:PI X target iter wi)
 (hg:∀C fp s₀ H₀,PG (X.comp scope T C fp s₀ H₀) target g) (p:pj g X.N.length T.length)
 (hf:∀C fp s₀ H₀,PF (X.comp scope T C fp s₀ H₀) kA tc) (he:∀C fp s₀ H₀,PE (X.comp scope T C fp s₀ H₀) kB te)
 (r:swapsWith (.ListComp kB [⟨target,iter,kA,0⟩] scope j) (some (.Name x px)) pos.line X.env=pure true:=by rfl)
 (t:X.fn x=true\/X.env.scope.names.lookup x=some .local:=by first|exact .inl rfl|exact .inr rfl|assumption)
 (hs:∀x,foldedSetIterable iter X.env x=pure x:=by intro _;rfl):PS X (.Assign [.Name x px] (.ListComp kB [⟨target,iter,kA,0⟩] scope j) pos) (ali (tLC T.length wi g tc te) (fH i)):=by
 intro pins s σ H D I h;rw[exec_Assign_Name_used _ _ _ _ r];refine Aa (wpAny_standAt (Aa ?_));show wpAny _ X.A (do let _ <-comprehension (.ListComp kB [⟨target,iter,kA,0⟩] scope j) scope X.env _ (newList []) false (eval iter X.env) (some (assign (.Name x px) X.env))) _ _ s;refine Aa (AZ (wpAny_comprehension_free (use:=some (assign (.Name x px) X.env)) (Q:=λ_ U=>SP X pins D .next U) rfl hs (S.clo I) S.kind S.names
  (aV (hi pins s σ H _ I h) λv s1 h1=>aV h1 λa5 s2 h2=>?_)) (λ_ U hq=>Ai (Ai hq)) λ_ _ e=>e)
 refine oQ (RR:=λa0 C=>compPost (model X.prog X.w) X.A X.xe (some (assign (.Name x px) X.env)) (λ_ U=>SP X pins D .next U) a0 C) (pins:=pins) (σ:=σ) (Q:=λx H1=>fH i x σ H1 D.nx) S hc hg p hf he h2 ?_;intro A C U H' m' I' J hn q;show wpAny _ X.A (assign (.Name x px) X.env (.ref A)) _ _ U;refine wpAny_assign_Name (pP I' hN l hx (v:=.ref A) rfl (λa1 a2 ⟨a,hs,ha⟩ _=>?_) t);have a3:C≠a:=by
  rcases ha with z|z
  ·rw[z];exact J.2.1
  ·exactλe=>J.2.2.2.2.1 x a z e.symm
 exact⟨m',hn.sameBut hs a3,λh' a4=>⟨_,H',a2.turned (t':=a1.toks) (it:=C) (λb o hb e=>(a4.2 b hb).trans e) J.1 J.2.1 J.2.2.2.1 J.2.2.2.2.1 J.2.2.2.2.2,q⟩⟩
end
def w9(outer:Scope)(N:List Str)(J:Scope):Bool:=
 decide (J.kind=.function)&&J.names.all (λp=>decide (p.2≠.cell)&&(decide (p.2≠.local)||decide (J.names.lookup p.1=some .local))&&(decide (p.2≠.free)||(decide (outer.names.lookup p.1=some .cell)||decide (outer.names.lookup p.1=some .free))))
  && N.all (λx=>decide (J.names.lookup x≠some .local))
theorem w9.mk{J:Scope}(h:w9 X.env.scope X.N J=true):jq X J:=by
 unfold w9 at h;rw[A4,A4,BL,BL] at h;obtain⟨⟨o,U⟩,p⟩:=h;have l:∀n,(n,NameKind.free)∈J.names->X.env.kindOf n=some .cell\/X.env.kindOf n=some .free:=λn g=>by
  have q:=U _ g;simp only[A4,DO,decide_eq_true_eq] at q;rcases q.2 with z|z
  ·exact absurd rfl z
  ·exact z
 refine⟨of_decide_eq_true o,λy j=>?_,λy j e=>?_,λn g=>l n (Bv g),l,λx r=>of_decide_eq_true (p x r)⟩
 ·have q:=U _ j;simp only[A4,DO,decide_eq_true_eq] at q;exact q.1.1
 ·have q:=U _ j;simp only[A4,DO,decide_eq_true_eq] at q;rcases q.1.2 with z|z
  ·exact absurd e z
  ·exact z
abbrev EL:=@w9.mk
theorem vU(n:Nat):pj (fH n) n 1:=by
 intro g J x H Q h;refine⟨⟨by simp[J],λi v e=>?_⟩,h⟩;by_cases U:i=n
 ·subst U;rw[Ax (by exact aaf)] at e;simp[J] at e
 ·rw[BN (AI U)];exact e
theorem ot:bootBuiltins "isinstance"=some (.builtin "isinstance"):=by decide +kernel
theorem hE:bootBuiltins "tuple"=some (.type "tuple"):=by decide +kernel
theorem ad0:bootBuiltins "int"=some (.type "int"):=by decide +kernel
theorem vt:bootBuiltins "list"=some (.type "list"):=by decide +kernel
theorem anb:bootBuiltins "len"=some (.builtin "len"):=by decide +kernel
theorem huK{k:Nat}(J:aI k A):A.units+128<cLine:=by have:=J.un;lia
theorem small(h:n<=1000):n<=sizeLine:=Bf (pL h)
theorem Cal.of{P:Program}{w:World}{K:Ah}{k:Nat}(F:bU P w K mg base CX0 k f fd ps sp)(b:dm K fd ps [])(J:PySem.W.keepIn K (.ref f)=true)(m:mg x=some (.ref f)):
 Cal P w K mg base k x ps sp:=⟨f,fd,F,b,J,m⟩
theorem bU.never{P:Program}{w:World}{K:Ah}{k:Nat}(no:∀vs H Q E,¬sp vs H Q E):bU P w K mg base CX0 k f fd ps sp:=
 ⟨λvs H Q E h=>absurd h (no vs H Q E),λA J s H args U vs Q E _ _ _ _ h=>absurd h (no vs H Q E)⟩
section
variable (K:Ah)(P:Program)(w:World)
end
structure z9(K:Ah)(x:Str)(st:Stmt):Prop where
 ex:∃(f:Addr) (kV ir pm:Value) (an:Option Addr) (fx ct:Value),PySem.W.nsIn K mainGlobals x=some (some (.ref f))/\Fun K x x st f (PySem.W.fnOf x x (vh st) (jp st) (z0 st) .none kV ir pm an fx ct)
theorem def_in{K:Ah}{kV:Value}(a:PySem.W.nsIn K mainGlobals x=some (some (.ref f)))
 (l:K.lookup f=some ⟨oc,od,.func (PySem.W.fnOf x x (vh st) (jp st) (z0 st) .none kV ir pm an fx ct),ni⟩) (c:PySem.W.codeIn K fx x=true) (k:PySem.W.keepIn K (.ref f)=true):z9 K x st:=
 ⟨f,kV,ir,pm,an,fx,ct,a,anl (st:=st) l c k⟩
theorem z9.use{K:Ah}(D:z9 K x st)(X:K.In h)(G:h.Ns mainGlobals mg)
 (J:∀(kV ir pm:Value) (an:Option Addr) (fx ct:Value) (us:List Value),us.length=ps.length->bindArgs (PySem.W.fnOf x x (vh st) (jp st) (z0 st) .none kV ir pm an fx ct) ⟨us,[]⟩=pure (ps.zip us)):
 ∃f fd,Fun K x x st f fd/\dm K fd ps []/\mg x=some (.ref f):=by
 obtain⟨f,kV,ir,pm,an,fx,ct,a,F⟩:=D.ex;exact⟨f,_,F,dm.all (J kV ir pm an fx ct),Cv X G a⟩
end L2
namespace Words
open PySem L2
inductive Wd where
 |leaf (t:Bool) (n:Str)
 |node (e:Bool) (l r:Wd)
def kL:Bool->Str
 |false => "plain"
 |true => "turned"
def kN:Bool->Str
 |false => "both"
 |true => "either"
def Wd.turn:Wd->Wd
 |.leaf t n=>.leaf (!t) n
 |.node e l r=>.node (!e) l.turn r.turn
def Wd.depth:Wd->Nat
 |.leaf _ _=>1
 |.node _ l r=>max l.depth r.depth+1
def Wd.leaves:Wd->Nat
 |.leaf _ _=>1
 |.node _ l r=>l.leaves+r.leaves
theorem Wd.leaves_pos:∀w:Wd,1<=w.leaves
 |.leaf _ _=>Al _
 |.node _ l r=>by have:=Wd.leaves_pos l;show 1<=l.leaves+r.leaves;exact ar1
abbrev EM:=@Wd.leaves_pos
theorem Wd.depth_le:∀w:Wd,w.depth<=w.leaves
 |.leaf _ _=>Al _
 |.node _ l r=>by have:=Wd.depth_le l;have:=Wd.depth_le r;have:=EM l;have:=EM r;show max l.depth r.depth+1<=l.leaves+r.leaves;lia
def qE:Wd->Da
 |.leaf t n=>.tup [.s (.str (kL t)),.s (.str n)]
 |.node e l r=>.tup [.s (.str (kN e)),qE l,qE r]
def fO(x:Str):Prop:=1<=x.length/\x.length<=8/\∀c∈x.cps.toList,97<=c/\c<=122
def Wd.ok:Wd->Prop
 |.leaf _ n=>fO n
 |.node _ l r=>l.ok/\r.ok
theorem Paired.app{α β:Type}{F:α->β->Prop}:∀{xs J:List α} {ys U:List β},Paired F xs ys->Paired F J U->Paired F (xs++J) (ys++U)
 |_,_,_,_,.nil,s=>s
 |_,_,_,_,.cons r t,s=>.cons r (Paired.app t s)
theorem Paired.getP{α β:Type}{F:α->β->Prop}:∀{xs:List α} {ys:List β} {i:Nat} {x:α},Paired F xs ys->xs[i]?=some x->∃y,ys[i]?=some y/\F x y
 |_,_,_,_,.nil,h=>by simp at h
 |_,_,0,_,.cons (b:=y) r _,h=>by simp at h;subst h;exact⟨y,rfl,r⟩
 |_,_,i+1,_,.cons _ t,h=>by obtain⟨y,e,q⟩:=Paired.getP (i:=i) t (by simpa using h);exact⟨y,by simpa using e,q⟩
end Words
namespace L2
open PySem PySem.Spec PyProof.Rows
theorem aan{ys:List V}{es:List Da}(I:zd X pins σ H s)(g:A.units<cLine)(j:cg X.K H a xs)(l:cg X.K H b ys)(px:Paired (kn X.K H n) xs ds)(py:Paired (kn X.K H m) ys es)
 (o:∀{x y:V} {d e:Da} {u v:Value},kn X.K H n x d->kn X.K H m y e->j3 x u->j3 y v->SeqAt.EqAt A.in1 s u v (Da.eq d e)):SeqAt.RcNeAt A s (.ref a) (.ref b) (!Da.eqs ds es):=by
 obtain⟨r,J,p,_⟩:=I.tuple j;obtain⟨t,U,ty,_⟩:=I.tuple l;have q:=SeqAt.RcNeAt.tuples p ty g (gj px py J U o);rw[Aq,Aq,<-J.length,<-U.length,px.length,py.length,ED] at q;exact q
theorem acp{ys:List V}{es:List Da}(I:zd X pins σ H s)(l:A.units<cLine)(p:aQ X.K H a xs)(r:aQ X.K H b ys)(px:Paired (kn X.K H n) xs ds)(py:Paired (kn X.K H m) ys es)
 (t:∀{x y:V} {d e:Da} {u v:Value},kn X.K H n x d->kn X.K H m y e->j3 x u->j3 y v->SeqAt.EqAt A.in1 s u v (Da.eq d e)):SeqAt.RcNeAt A s (.ref a) (.ref b) (!Da.eqs ds es):=by
 obtain⟨C,U,o,_⟩:=I.list p;obtain⟨T,j,ty,_⟩:=I.list r;by_cases g:C.toArray.size=T.toArray.size
 ·have q:=SeqAt.RcNeAt.lists (j9 o) (j9 ty) g l (gj px py U j t);have J:ds.length=es.length:=by rw[<-px.length,<-py.length,U.length,j.length];simpa using g
  have e:=ED ds es;rw[J,Nat.min_self] at e;rw[<-J] at e;rw[Aq,<-U.length,px.length] at q;simp only[beq_self_eq_true,DV] at e;rw[e] at q;exact q
 ·have q:=SeqAt.RcNeAt.lists_lengths (j9 o) (j9 ty) (by simpa using g) l;have J:ds.length≠es.length:=by rw[<-px.length,<-py.length,U.length,j.length];intro z;exact g (by simpa using z)
  have e:=ED ds es;have f:(ds.length==es.length)=false:=by simpa using J
  rw[f,DS] at e;rw[<-e];exact q
def uNe(K:Ah)(k:Nat):R2:=λx y H Q=>match x,y with
 |.ref a,.ref b=>∃n m d e,n<=k/\kn K H n (.ref a) d/\kn K H m (.ref b) e/\Q (.bl (!Da.eq d e)) H
 |x,y=>agt x y=true/\Q (.bl (!decide (x=y))) H
theorem anc{k:Nat}(hu:X.A.units+k<cLine):kw X (compareOp .NotEq) (uNe X.K k):=by
 intro J s t H x y v u Q I C T h;cases x with
 |ref a=>
  cases y with
  |ref b=>
   obtain⟨n,m,d,e,hn,l,U,q⟩:=h;cases C;cases T;have xi:∀{k:Bool},k=(!Da.eq d e)->SeqAt.RcNeAt X.A s (.ref a) (.ref b) k->wpAny (model X.prog X.w) X.A (compareOp .NotEq (.ref a) (.ref b)) (EP X J t Q) X.xe s:=λ{k} e' r=>
    r X.prog X.w X.xe (EP X J t Q) (by rw[e'];exact⟨.bl _,H,I,rfl,q⟩)
   cases n with
   |zero=>exact(je l.2).elim
   |succ n=>
    cases m with
    |zero=>exact(je U.2).elim
    |succ m=>
     have o:X.A.in1.units+n<cLine:=by show X.A.units+1+n<cLine;lia
     rcases l with⟨_,f⟩|⟨a',xs,ds,e1,rfl,p,px⟩|⟨a',xs,ds,e1,rfl,p,px⟩
     ·exact(je f).elim
     ·cases e1;rcases U with⟨_,f⟩|⟨b',ys,es,g,rfl,j,py⟩|⟨b',ys,es,g,rfl,j,py⟩
      ·exact(je f).elim
      ·cases g;exact xi rfl (aan I (by lia) p j px py λl U r1 r2=>o3 I n o l U r1 r2)
      ·cases g;obtain⟨us,vx,tx,_⟩:=I.tuple p;obtain⟨vs,vy,ty,_⟩:=I.list j;exact xi rfl (.tuple_list tx (j9 ty) (by lia))
     ·cases e1;rcases U with⟨_,f⟩|⟨b',ys,es,g,rfl,j,py⟩|⟨b',ys,es,g,rfl,j,py⟩
      ·exact(je f).elim
      ·cases g;obtain⟨us,vx,tx,_⟩:=I.list p;obtain⟨vs,vy,ty,_⟩:=I.tuple j;exact xi rfl (.list_tuple (j9 tx) ty (by lia))
      ·cases g;exact xi rfl (acp I (by lia) p j px py λl U r1 r2=>o3 I n o l U r1 r2)
  |_=>exact akj J s t H _ _ v u Q I C T h
 |_=>cases y<;>exact akj J s t H _ _ v u Q I C T h
theorem ac8:bootBuiltins "max"=some (.builtin "max"):=by decide +kernel
theorem agq:bootBuiltins "bool"=some (.type "bool"):=by decide +kernel
end L2
namespace Words
open PySem L2
def Wd.size:Wd->Nat
 |.leaf _ _=>1
 |.node _ l r=>1+l.size+r.size
theorem Wd.size_eq:∀w:Wd,w.size+1=2*w.leaves
 |.leaf _ _=>rfl
 |.node _ l r=>by have:=Wd.size_eq l;have:=Wd.size_eq r;show 1+l.size+r.size+1=2*(l.leaves+r.leaves);lia
end Words
namespace L2
open PySem PySem.Spec PyProof.Rows
theorem v5.get{P:Program}{w:World}{o:HO}(x:v5 P w H h a o):∃ob,h.get? a=some ob:=by
 cases o with
 |lst U=>obtain⟨_,_,_,_,e⟩:=x;exact⟨_,e⟩
 |tup U=>obtain⟨_,_,_,_,e,_⟩:=x;exact⟨_,e⟩
 |dK J=>obtain⟨_,_,_,_,o,_,_,e,_⟩:=x;exact⟨_,e⟩
 |dT J=>obtain⟨_,_,_,_,o,_,_,e,_⟩:=x;exact⟨_,e⟩
 |set S n=>obtain⟨o,_,_,_,e,_⟩:=x;exact⟨_,e⟩
 |ins C g fs=>obtain⟨_,_,_,e,_⟩:=x;exact⟨_,e⟩
 |own y=>exact x
 |xd fs=>obtain⟨_,⟨_,_,_,e,_⟩,_⟩:=x;exact⟨_,e⟩
 |rng lo j=>obtain⟨_,_,_,e⟩:=x;exact⟨_,e⟩
 |frz ob u=>obtain⟨e,_⟩:=x;exact⟨_,e⟩
 |tbl l=>exact⟨_,show h.get? a=some _ from x⟩
 |met f y=>exact⟨_,show h.get? a=some _ from x⟩
 |ext p=>obtain⟨_,e,_⟩:=x;exact e
def ajg(U h:Heap)(H:Hp)(a C:Addr)(tr:Option Addr):Prop:=
 U.get? a=none/\H a=none/\∃J vs j,h.get? a=some J/\J.cls=.ref C/\J.data=.fields vs/\vs[0]?=some j/\
  match tr with
  |none=>vs[1]?=some .none
  |some T=>vs[1]?=some (.ref T)/\U.get? T=none/\H T=none/\T≠a/\∃g ts,h.get? T=some g/\g.data=.fields ts/\ts[3]?=some .none
def iN(a:Addr)(tr:Option Addr)(fs:List Addr):List Addr:=a::(tr.toList++fs)
section
variable {tr:Option Addr}
theorem ai0{l:List Env}(h:env∈l)(e:env.frame=some b):b∈fj l:=Df.mpr ⟨env,h,e⟩
theorem ah7(I:zd X pins σ H s)(hs:X.stack=X.env::X.outer)(hx:X.ex=[])(new:X.s₀.heap.get? a=none)(free:H a=none)(j:∀T,tr=some T->X.s₀.heap.get? T=none/\H T=none){a0 fl:Value}
 (k1:(PySem.W.hideAll s.heap (iN a tr (fj X.stack))).StaysIn h') (k2:h'.FunFrames (PySem.W.hideAll s.heap (iN a tr (fj X.stack))) X.stack) (k3:h'.TracedAtW (PySem.W.hideAll s.heap (iN a tr (fj X.stack))) a (.ref C) a0 fl)
 (k4:∀b o,s.heap.get? b=some o->(∀vs,o.data≠.fields vs)->∃sl,h'.get? b=some { o with slots:=sl }):
 Un X.fs [] X.H₀ H X.s₀.heap h'/\dw X.prog X.w H h'/\∃T,(∀b o,s.heap.get? b=some o->(∀T0,tr=some T0->b≠T0)->b≠T)/\X.s₀.heap.get? T=none/\H T=none/\T≠a/\∃oe vs oT ts,h'.get? a=some oe/\oe.cls=.ref C/\vs[0]?=some a0/\oe.data=.fields vs/\vs[1]?=some (.ref T)/\h'.get? T=some oT/\oT.data=.fields ts/\ts[3]?=some fl:=by
 have kp:∀b o,s.heap.get? b=some o->b∉iN a tr (fj X.stack)->h'.get? b=some o:=λb o e n=>k1 b o (C8 _ e n);have sl:∀b o,s.heap.get? b=some o->b∈fj X.stack->∃sl,h'.get? b=some { o with slots:=sl }:=λb o e J=>by obtain⟨_,l,e',nf⟩:=I.stack.mem J;rw[e] at e';cases e';exact k4 b o e nf
 have p:∀b,b∈iN a tr (fj X.stack)->H b=none:=λb J=>by
  rcases Am.mp J with e|J
  ·rw[e];exact free
  ·rcases Ap.mp J with q|q
   ·exact(j b (by simpa using q)).2
   ·exact I.stkFree b q
 have g:∀b o,X.s₀.heap.get? b=some o->b∉X.fs->b∉iN a tr (fj X.stack):=λb o e nb J=>by
  rcases Am.mp J with q|J
  ·rw[q,new] at e;cases e
  ·rcases Ap.mp J with q|q
   ·rw[(j b (by simpa using q)).1] at e;cases e
   ·rcases Am.mp (I.stkSub b q) with q|q
    ·exact absurd (AO (sx e) I.ok.above) (by rw[q];exact Cu _)
    ·exact nb q
 have r:∀b,b∈X.fs->b∈fj X.stack:=λb J=>by
  rw[hs];unfold fj;rw[CC];split
  ·exact J
  ·exact Ac _ J
 have U:∀b:Addr,b∉X.ex:=λb=>by rw[hx];simp
 have a3:dw X.prog X.w H h':=λb u e=>(I.hok b u e).stay (λc w' hc q=>kp c w' q λhm=>by
  have n:=p c hm;rcases hc with z|z
  ·rw[z,e] at n;cases n
  ·rw[z] at n;cases n) (λ_ q=>q) λ_ _ q=>q
 refine⟨⟨λb o e n J _=>?_,λb o e n J _=>?_,λb o e n _=>I.base.free b o e n (U b),λb o e _=>?_,I.base.tups,I.base.frzs,I.base.tbls⟩,a3,?_⟩
 ·exact kp b o (I.base.keep b o e n J (U b)) (g b o e J)
 ·obtain⟨z,t⟩:=I.base.slot b o e n J (U b);obtain⟨z',e2⟩:=sl b _ t (r b J);exact⟨z',e2⟩
 ·obtain⟨l,t⟩:=I.base.there b o e (U b);by_cases J:b∈X.fs
  ·obtain⟨z',e2⟩:=sl b _ t (r b J);exact⟨_,e2⟩
  ·exact⟨l,kp b l t (g b o e J)⟩
 ·obtain⟨al,ar,T,oT,ts,aH,⟨aL,ba⟩,bb,bc,a4,a1,hT,a5,h3⟩:=k3;have a2:∀o,s.heap.get? T=some o->T∈iN a tr (fj X.stack):=λo e=>by
   by_cases q:T∈iN a tr (fj X.stack)
   ·exact q
   ·rw[C8 _ e q] at a4;cases a4
  have ag:T∉fj X.stack:=λJ=>by obtain⟨_,l,e',nf⟩:=k2.mem J;rw[hT] at e';cases e';exact nf ts a5
  refine⟨T,λb o e ne z=>?_,?_,?_,a1,al,ar,oT,ts,aH,aL,ba,bb,bc,hT,a5,h3⟩
  ·subst z;rcases Am.mp (a2 o e) with z|z
   ·exact a1 z
   ·rcases Ap.mp z with z|z
    ·exact ne b (by simpa using z) rfl
    ·exact ag z
  ·cases q:X.s₀.heap.get? T with
   |none=>rfl
   |some o=>
    obtain⟨l,t⟩:=I.base.there T o q (U T);rcases Am.mp (a2 l t) with z|z
    ·exact absurd z a1
    ·rcases Ap.mp z with z|z
     ·rw[(j T (by simpa using z)).1] at q;cases q
     ·exact absurd z ag
  ·cases q:H T with
   |none=>rfl
   |some u=>
    obtain⟨l,t⟩:=(I.hok T u q).get;have:=p T (a2 l t);rw[q] at this;cases this
theorem ae9{Q:Unit->Shared->Prop}(I:zd X pins σ H s)(hs:X.stack=X.env::X.outer)(hf:X.env.frame=some X.env.locals)(hx:X.ex=[])(L:ajg X.s₀.heap s.heap H a C tr)
 (h:∀h' T,Un X.fs [] X.H₀ H X.s₀.heap h'->dw X.prog X.w H h'->ajg X.s₀.heap h' H a C (some T)->Q () { s with heap:=h' }):wpAny M X.A (leaving X.env (.ref a)) Q E s:=by
 have L0:=L;obtain⟨new,free,oe,vs,b0,g,hc,hd,h0,J⟩:=L0;have j:s.heap.FunFrames (PySem.W.hideAll s.heap (iN a tr (fj X.stack))) X.stack:=PySem.W.funFrames_hide I.stack λenv g b hb=>Ac _ (Ae _ (ai0 g hb));have st:(PySem.W.hideAll s.heap (iN a tr (fj X.stack))).StaysIn s.heap:=λb o e=>PySem.W.of_hideAll _ e;have l:(PySem.W.hideAll s.heap (iN a tr (fj X.stack))).get? a=none:=C1 _ Af;have U:X.A.frames=some (X.env::X.outer):=by rw[<-hs];exact I.ok.frames
 have go:∀h',Heap.LeftW (PySem.W.hideAll s.heap (iN a tr (fj X.stack))) (X.env::X.outer) a (.ref C) b0 s.heap h'->Q () { s with heap:=h' }:=λh' ⟨k1,k2,k3,k4⟩=>by obtain⟨u,p,T,_,n1,n2,ne,r,t,oT,ts,e1,e2,e3,e4,e5,e6,e7,e8⟩:=ah7 I hs hx new free (by intro T e;subst e;exact⟨J.2.1,J.2.2.1⟩) k1 (by rw[hs];rw[hs] at k2;exact k2) k3.at k4;exact h h' T u p ⟨new,free,r,t,b0,e1,e2,e4,e3,e5,n1,n2,ne,oT,ts,e6,e7,e8⟩
 have nT:∀T,tr=some T->(PySem.W.hideAll s.heap (iN a tr (fj X.stack))).get? T=none:=λT e=>by subst e;exact C1 _ (Ac _ (Ar _ (by simp)))
 generalize PySem.W.hideAll s.heap (iN a tr (fj X.stack))=base at j st l go nT;rw[hs] at j;cases tr with
 |none=>exact wpAny_leaving_firstW U j hf g st l hd J h0 (by rw[hc];exact go)
 |some T=>
  obtain⟨h1,_,_,a0,oT,ts,hT,a1,h3⟩:=J;exact wpAny_leaving_nextW U j hf ⟨oe,vs,T,oT,ts,g,⟨hc,h0⟩,hd,h1,nT T rfl,a0,hT,a1,h3⟩ st l go
end
def CXE(P:Program)(w:World):xZ:=λouter H s E e s'=>∃a C T H',e=.ref a/\s'.os=s.os/\AllBare s'.gens/\Un (fj outer) [] H H' s.heap s'.heap/\dw P w H' s'.heap/\ajg s.heap s'.heap H' a C (some T)/\E (.ref C) none H'/\0<s'.toks
def ae4(X:Cx)(a:Addr):Prop:=a≠X.env.locals/\(∀x c,X.env.cells.lookup x=some c->c≠a)/\∀p∈X.pn,p.1≠a
abbrev X1:=St->Value->Hp->Prop
def dk(X:Cx)(E1:X1):Prop:=∀(pins:List (Addr×Obj)) (σ:St) (H:Hp) (s:Shared) (a C:Addr) (tr:Option Addr),zd X pins σ H s->ajg X.s₀.heap s.heap H a C tr->ae4 X a->(∀T,tr=some T->ae4 X T)->E1 σ (.ref C) H->X.xe (.ref a) s
section
variable {T:Addr}{tr:Option Addr}{E1:X1}
theorem zd.apart(I:zd X pins σ H s)(h:s.heap.get? b=none):ae4 X b:=by
 refine⟨λe=>?_,λx c e z=>?_,λp U z=>?_⟩
 ·obtain⟨m,⟨o,_,_,J,_⟩,_⟩:=I.loc;rw[<-e,h] at J;cases J
 ·obtain⟨v,o,J,_⟩:=I.cell x c e;rw[z,h] at J;cases J
 ·obtain⟨e,_⟩:=I.pin p (Ar _ U);rw[z,h] at e;cases e
theorem zd.news(I:zd X pins σ H s)(J:X.ex=[])(h:s.heap.get? b=none):X.s₀.heap.get? b=none:=by
 cases q:X.s₀.heap.get? b with
 |none=>rfl
 |some o=>
  obtain⟨U,e⟩:=I.base.there b o q (by rw[J];simp);rw[h] at e;cases e
theorem dk.pass(t:dk X E1)(U:X.ex=[]){e:Value}(I:zd X pins σ H s)(h:CXE X.prog X.w X.stack H s (λc _ H'=>E1 σ c H') e s'):X.xe e s':=by obtain⟨a,C,T,H',rfl,j,l,u,J,⟨new,free,o,p,r,he,hc,hd,h0,h1,g,fT,rest⟩,q,a1⟩:=h;have I':zd X pins σ H' s':=I.call' (ch:=[]) j u J l (λb z=>absurd z (by simp));exact t pins σ H' s' a C (some T) I' ⟨I.news U new,free,o,p,r,he,hc,hd,h0,h1,I.news U g,fT,rest⟩ (I.apart new) (λT' e=>by cases e;exact I.apart g) q
theorem aid{k:Nat}{Q:VK}{vs:List V}(F:bU X.prog X.w X.K X.mg X.base (CXE X.prog X.w) k f fd ps sp)(U:aI k X.A)(g:dm X.K fd ps [])(j:dk X E1)(l:X.ex=[])
 (I:zd X pins σ H s) (r:zr vs us) (h:sp vs H Q (λc _ H'=>E1 σ c H')):wpAny (model X.prog X.w) X.A (call (.ref f) us) (EP X pins σ Q) X.xe s:=by
 have o:(us++[]).length=ps.length:=by rw[AS,<-r.length];exact F.len _ _ _ _ h
 refine wpAny_call (codeAny_mono (F.run X.A X.stack s H ⟨us,[]⟩ us vs Q _ U I.env0 (by have:=g s us I.kIn o;rw[AS] at this;exact this) r h) λr t J=>?_);cases r with
 |error e=>exact j.pass l I J
 |ok p=>
  cases p with|ret u=>exact I.after J|next=>exact False.elim J|brk=>exact False.elim J|cont=>exact False.elim J
end
def anq(sp:Sp)(E1:X1)(t:TA):TE:=λσ H Q=>t σ H λvs H1=>sp vs H1 Q λc _ H'=>E1 σ c H'
section
variable {k:Nat}{E1:X1}{t:TA}
theorem aed(F:bU X.prog X.w X.K X.mg X.base (CXE X.prog X.w) k f fd ps sp)(l:aI k X.A)(o:Gl X x)(C:X.mg x=some (.ref f))(T:PySem.W.keepIn X.K (.ref f)=true)(hb:dm X.K fd ps [])(ht:dk X E1)(hx:X.ex=[])
 (ha:PA X (e::es) t) (U:Ed x:=by decide) (he:Eb e es X:=by rfl) (g:Ec pos es X:=by rfl):
 PE X (.Call (.Name x p) (e::es) [] pos) (anq sp E1 t):=by
 intro J s σ H Q I h;refine wpAny_Call_Name_kw (lW I o C ?_ U);refine PySem.W.callWith_K (h₀:=X.base) I.ok.mod.kin T (aV (ha pos J s σ H _ I h) λus s1 ⟨vs,H1,j,r,q⟩=>⟨j.kIn,?_⟩) he g;exact aid F l hb ht hx j r q
end
theorem ad4{P:Program}{w:World}{K:Ah}{N:List Str}{E:XK}:
 dk (dF (CXE P w) P w K mg base N eK scope f cd A outer s H E) λ_ c H'=>E c none H':=by
 intro U j H' l a C o I L _ _ q;refine ae9 (X:=dF (CXE P w) P w K mg base N eK scope f cd A outer s H E) I rfl rfl rfl L λp T u J g=>?_;exact⟨a,C,T,H',rfl,I.os,I.bare,u,J,g,q,I.tk⟩
structure ag1(K:Ah)(C:Addr):Prop where
 ex:∃(nm q:Str) (N:Addr) (bs bm:List Value) (hdct:Bool) (sn:List Str) (sub:List Value) (ab:Bool) (col:Option Bool) (dd:Option Addr) (k0 k1 k2 k3 k5:Option Value) (B Bn newId nid initId inN:String) (bmB bmN:List Value),
  ExcBaseFacts Bn newId inN bmN/\bmB.contains (.type Bn)=true/\ExcBaseFacts B nid initId bmB/\
  ∀h,K.In h->h.get? C=some (excClassObj nm q C N bs bm hdct sn sub ab col dd k0 k1 k2 k3 k5 newId)/\(∃mN,h.Ns N mN/\mN "__init__"=none)/\OwnTail h bmB bm
theorem aik{K:Ah}{g p:List Value}{B T U r J t:String}(q:PySem.W.excIn K C g U=true)(Fn:ExcBaseFacts T U t p)(a0:g.contains (.type T)=true)(F:ExcBaseFacts B r J g):ag1 K C:=by
 unfold PySem.W.excIn at q;split at q
 ·rename_i dd cd sl ho;split at q
  ·rename_i C' bm k0 k1 k2 k3 n k5 hm hs;simp only[A4,beq_iff_eq,Cw] at q;obtain⟨⟨⟨⟨⟨rfl,rfl⟩,j⟩,ht⟩,o⟩,I⟩:=q;obtain⟨nm,bs,a3,ns,qn,hd,sn,sub,ab,a1,del⟩:=cd;dsimp only at hm j o I;subst hm j;have a2:sl=#[k0,k1,k2,k3,some (.builtin n),k5]:=by obtain⟨l⟩:=sl;simp only at hs;rw[hs]
   subst a2;exact⟨nm,qn,ns,bs,bm,hd,sn,sub,ab,a1,dd,k0,k1,k2,k3,k5,B,T,n,r,J,t,g,p,Fn,a0,F,λh X=>⟨X _ _ ho,⟨_,.of_isNs (PySem.W.isNs_of_in X o),PySem.W.nsMap_none_of_in X o I⟩,PySem.W.tail_of_in X ht⟩⟩
  ·cases q
 ·cases q
def aml(C:Addr)(E1:X1)(t:TA):TS:=λ_ σ H=>t σ H λvs H1=>vs.length<=sizeLine/\E1 σ (.ref C) H1
theorem ad1{E1:X1}{np:Pos}{t:TA}(c:ag1 X.K C)(hg:Gl X x)(U:X.mg x=some (.ref C))(hc:X.calm=true)(ht:dk X E1)(hx:X.ex=[])(ha:PA X (e::es) t)(a0:Ed x:=by decide)
 (he:Eb e es X:=by rfl) (a1:Ec fm es X:=by rfl):
 PS X (.Raise (some (.Call (.Name x np) (e::es) [] fm)) none pos) (aml C E1 t):=by
 intro J s σ H D I h;obtain⟨nm,q,N,bs,bm,hdct,sn,sub,ab,col,dd,k0,k1,k2,k3,k5,B,Bn,a2,a5,l,ag,al,ar,Fn,a3,F,all⟩:=c.ex;obtain⟨_,⟨mN,hn,a4⟩,ow⟩:=all X.base I.ok.mod.kin;refine wpAny_Raise_call_subU (C:=C) (nm:=nm) (q:=q) (N:=N) (bs:=bs) (bm:=bm) (hdct:=hdct) (sn:=sn) (sub:=sub) (ab:=ab) (col:=col) (dd:=dd) (k0:=k0) (k1:=k1) (k2:=k2) (k3:=k3) (k5:=k5) Fn a3 F (mN:=mN) (ow.hasType F.hasBase) (I.ok.hd hc)
  (by rw[he];show(false||(backTo fm (starEach es X.env)).any (·.1))=false;rw[a1];rfl) a4 (lW I hg U ⟨rfl,?_⟩ a0)
 rw[he];have j:=ha fm J s σ H _ I h;rw[he] at j;refine Calls.evalArgs_plain (aV j λus s2 ⟨vs,p,g,r,hl,q1⟩=>⟨rfl,by rw[<-r.length];exact hl,(all _ g.kIn).1,hn.keeps g.bk,(all _ g.kIn).2.2,λh' a U=>?_⟩);obtain⟨t0,e1,_,_⟩:=U.there;have I2:zd X J σ p { s2 with heap:=h' }:=g.kept (t':=s2.toks) U.keeps;have fr:p a=none:=by
  cases z:p a with
  |none=>rfl
  |some u=>
   obtain⟨o,eo⟩:=(g.hok a u z).get;rw[U.new] at eo;cases eo
 exact ht J σ p _ a C none I2 ⟨g.news hx U.new,fr,_,_,.ref t0,e1,rfl,rfl,rfl,rfl⟩ (g.apart U.new) (λT z=>nomatch z) q1
section
variable {T:Addr}{tr:Option Addr}
end
section
variable {T:Addr}
end
open PySem PySem.Spec PyProof.Rows PySem.W
open Builtin.ObjectAttr in
section
variable {w:World}{K:Frag}
open Builtin Builtin.ObjectAttr Builtin.Getset_descriptor in
end
def aqr(K:Ah)(H:Hp)(a C:Addr):Prop:=∃J,H a=some (.frz J (.own 0))/\J.cls=.ref C
def qQ(H:Hp)(P:Addr)(q:Str):Prop:=∃ps,H P=some (.tbl ps)/\TriplesOk ps.toList/\∀pos J,codeAmong pos ps.toList=some J->∃U oc vs t,J=.ref U/\H U=some (.frz oc (.own 0))/\oc.data=.fields vs/\vs[1]?=some (.str q t)
theorem qQ.keep{P:Addr}(h:qQ H P q)(e:H' P=H P)(t:∀b o u,H b=some (.frz o u)->H' b=some (.frz o u)):qQ H' P q:=by obtain⟨J,U,g,j⟩:=h;refine⟨J,e.trans U,g,λpos l z=>?_⟩;obtain⟨p,r,C,I,T,e2,e3⟩:=j pos l z;exact⟨p,r,C,I,T,t _ _ _ e2,e3⟩
end L2
namespace L3
open PySem L2
inductive Y where
 |non|bl (b:Bool)|int (i:Int)|str (x:Str)|ref (a:Addr)|ty (n:String)|cd (kvs:List (Str×Str))|tup (ys:List Y)|sq (ys:List Y)
inductive LO where
 |lst (ys:List Y)|dct (kvs:List (jm×Y))|ins (C:Addr) (fs:List (Str×Y))|exc (C:Addr)|tb (q:Str)
abbrev qu:=Addr->Option LO
def qh(L:qu)(a:Addr)(o:LO):qu:=λb=>if b=a then some o else L b
theorem q8{L:qu}{o:LO}:qh L a o a=some o:=by unfold qh;rw[AF rfl]
theorem qb{L:qu}{o:LO}(h:b≠a):qh L a o b=L b:=by unfold qh;rw[AG h]
theorem xz{L:qu}{o u:LO}:qh (qh L a o) a u=qh L a u:=by funext b;unfold qh;split<;>rfl
theorem k7{L:qu}{o:LO}(h:L a=some o)(h':L b=none):a≠b:=by intro e;subst e;rw[h] at h';cases h'
structure G3 where
 K:Ah
 P:Program
 w:World
abbrev _root_.L2.Cx.g3(X:Cx):G3:=⟨X.K,X.prog,X.w⟩
def SqF(K:Ah)(H:Hp)(a:Addr)(xs:List V):Prop:=(∃o,H a=some (.frz o (.lst xs)))\/
 ∃(o:Obj) (eH:Array Value) (n:Nat),K.lookup a=some o/\o.cls=.type "list" /\ o.dict=none/\o.data=.seq eH n/\eH.size<=sizeLine/\zr xs eH.toList
theorem SqF.sq{K:Ah}(h:SqF K H a xs):aQ K H a xs:=by
 rcases h with⟨o,h⟩|h
 ·exact .inl (.inr ⟨o,h⟩)
 ·exact .inr h
mutual
def RV(G:G3)(H:Hp):Y->V->Prop
 |.non,v=>v=.non
 |.bl b,v=>v=.bl b
 |.int i,v=>v=.int i
 |.str x,v=>v=.str x
 |.ref a,v=>v=.ref a
 |.ty n,v=>v=.ty n
 |.cd kvs,v=>∃a,v=.ref a/\KD G.K G.P G.w a (kvs.map λp=>(Sum.inr p.1,V.str p.2))
 |.tup ys,v=>∃a xs,v=.ref a/\cg G.K H a xs/\xp G H ys xs
 |.sq ys,v=>∃a xs,v=.ref a/\SqF G.K H a xs/\xp G H ys xs
def xp(G:G3)(H:Hp):List Y->List V->Prop
 |[],xs=>xs=[]
 |y::ys,xs=>∃x J,xs=x::J/\RV G H y x/\xp G H ys J
end
def Imm:HO->Bool
 |.tup _=>true
 |.frz _ _=>true
 |_=>false
def jh(H H':Hp):Prop:=∀a u,Imm u=true->H a=some u->H' a=some u
theorem jh.refl(H:Hp):jh H H:=λ_ _ _ h=>h
abbrev DX:=@jh.refl
theorem jh.trans{H1 H2:Hp}(a:jh H H1)(b:jh H1 H2):jh H H2:=λc u i h=>b c u i (a c u i h)
theorem jh.new{p:Addr}{o:HO}(h:H p=none):jh H (upd H p o):=λ_ _ _ q=>by rw[qx (zy q h)];exact q
abbrev DY:=@jh.new
theorem jh.lst{p:Addr}{o:HO}(h:H p=some (.lst zs)):jh H (upd H p o):=λa u i q=>by rw[qx ?_];exact q;rintro rfl;rw[h] at q;cases q;cases i
abbrev EK:=@jh.lst
theorem cg.ts{K:Ah}(h:cg K H a xs)(t:jh H H'):cg K H' a xs:=by
 rcases h with(h|⟨o,h⟩)|h
 ·exact .inl (.inl (t _ _ rfl h))
 ·exact .inl (.inr ⟨o,t _ _ rfl h⟩)
 ·exact .inr h
theorem SqF.ts{K:Ah}(h:SqF K H a xs)(t:jh H H'):SqF K H' a xs:=by
 rcases h with⟨o,h⟩|h
 ·exact .inl ⟨o,t _ _ rfl h⟩
 ·exact .inr h
mutual
theorem RV.ts{G:G3}{H H':Hp}(t:jh H H'):∀{y:Y} {v:V},RV G H y v->RV G H' y v
 |.non,_,h=>h
 |.bl _,_,h=>h
 |.int _,_,h=>h
 |.str _,_,h=>h
 |.ref _,_,h=>h
 |.ty _,_,h=>h
 |.cd _,_,h=>h
 |.tup _,_,⟨a,J,e,s,r⟩=>⟨a,J,e,cg.ts s t,xp.ts t r⟩
 |.sq _,_,⟨a,J,e,s,r⟩=>⟨a,J,e,s.ts t,xp.ts t r⟩
theorem xp.ts{G:G3}{H H':Hp}(t:jh H H'):∀{ys:List Y} {xs:List V},xp G H ys xs->xp G H' ys xs
 |[],_,h=>h
 |_::_,_,⟨x,J,e,r,s⟩=>⟨x,J,e,RV.ts t r,xp.ts t s⟩
end
theorem xp.length{G:G3}{H:Hp}:∀{ys:List Y} {xs:List V},xp G H ys xs->ys.length=xs.length
 |[],_,h=>by cases h;rfl
 |_::_,_,⟨x,J,e,_,s⟩=>by subst e;simp[xp.length s]
theorem xp.get{G:G3}{H:Hp}:∀{ys:List Y} {xs:List V} {i:Nat} {y:Y},xp G H ys xs->ys[i]?=some y->∃x,xs[i]?=some x/\RV G H y x
 |[],_,_,_,_,h=>by simp at h
 |_::_,_,0,_,⟨x,J,e,r,_⟩,h=>by subst e;simp at h;subst h;exact⟨x,rfl,r⟩
 |_::_,_,i+1,_,⟨x,J,e,_,s⟩,h=>by subst e;obtain⟨U,q,r⟩:=xp.get (i:=i) s (by simpa using h);exact⟨U,by simpa using q,r⟩
theorem xp.app{G:G3}{H:Hp}:∀{ys zs:List Y} {xs us:List V},xp G H ys xs->xp G H zs us->xp G H (ys++zs) (xs++us)
 |[],_,_,_,h,q=>by cases h;exact q
 |_::_,_,_,_,⟨x,J,e,r,s⟩,q=>by subst e;exact⟨x,J++_,rfl,r,xp.app s q⟩
theorem xp.one{G:G3}{y:Y}{x:V}(r:RV G H y x):xp G H [y] [x]:=⟨x,[],rfl,r,rfl⟩
theorem xp.take{G:G3}{H:Hp}:∀{ys:List Y} {xs:List V} (n:Nat),xp G H ys xs->xp G H (ys.take n) (xs.take n)
 |[],_,n,h=>by cases h;simp[xp]
 |_::_,_,0,_=>by simp[xp]
 |_::_,_,n+1,⟨x,J,e,r,s⟩=>by subst e;exact⟨x,J.take n,rfl,r,xp.take n s⟩
theorem xp.drop{G:G3}{H:Hp}:∀{ys:List Y} {xs:List V} (n:Nat),xp G H ys xs->xp G H (ys.drop n) (xs.drop n)
 |[],_,n,h=>by cases h;simp[xp]
 |_::_,_,0,h=>h
 |_::_,_,n+1,⟨x,J,e,r,s⟩=>by subst e;exact xp.drop n s
theorem xp.setY{G:G3}{H:Hp}{y:Y}{x:V}(r:RV G H y x):∀{ys:List Y} {xs:List V} (i:Nat),xp G H ys xs->xp G H (ys.set i y) (xs.set i x)
 |[],_,_,h=>by cases h;simp[xp]
 |_::_,_,0,⟨U,J,e,_,s⟩=>by subst e;exact⟨x,J,rfl,r,s⟩
 |_::_,_,i+1,⟨U,J,e,q,s⟩=>by subst e;exact⟨U,J.set i x,rfl,q,xp.setY r i s⟩
theorem xp.dropLast{G:G3}{ys:List Y}(h:xp G H ys xs):xp G H ys.dropLast xs.dropLast:=by rw[List.dropLast_eq_take,List.dropLast_eq_take,h.length];exact h.take _
theorem xp.eraseIdx{G:G3}{H:Hp}:∀{ys:List Y} {xs:List V} (n:Nat),xp G H ys xs->xp G H (ys.eraseIdx n) (xs.eraseIdx n)
 |[],_,n,h=>by cases h;simp[xp]
 |_::_,_,0,⟨x,J,e,r,s⟩=>by subst e;exact s
 |_::_,_,n+1,⟨x,J,e,r,s⟩=>by subst e;exact⟨x,J.eraseIdx n,rfl,r,xp.eraseIdx n s⟩
def RO(G:G3)(H:Hp)(a:Addr):LO->Prop
 |.lst ys=>∃xs,H a=some (.lst xs)/\xp G H ys xs
 |.dct kvs=>∃xs,H a=some (.dK xs)/\Paired (λ(p:jm×Y) (q:jm×V)=>p.1=q.1/\RV G H p.2 q.2) kvs xs
 |.ins C fs=>∃dx xs,H a=some (.ins C dx xs)/\Paired (λ(p:Str×Y) (q:Str×V)=>p.1=q.1/\RV G H p.2 q.2) fs xs
 |.exc C=>aqr G.K H a C
 |.tb q=>qQ H a q
def j7(G:G3)(H:Hp)(L:qu):Prop:=∀a o,L a=some o->RO G H a o
theorem RO.ex{G:G3} :∀{o:LO},RO G H a o->∃u,H a=some u
 |.lst _,⟨_,h,_⟩=>⟨_,h⟩
 |.dct _,⟨_,h,_⟩=>⟨_,h⟩
 |.ins _ _,⟨_,_,h,_⟩=>⟨_,h⟩
 |.exc _,⟨_,h,_⟩=>⟨_,h⟩
 |.tb _,⟨_,h,_⟩=>⟨_,h⟩
theorem j7.none{G:G3}{L:qu}(h:j7 G H L){p:Addr}(J:H p=none):L p=none:=by cases e:L p with|none=>rfl|some o=>obtain⟨u,q⟩:=(h p o e).ex;rw[J] at q;cases q
theorem RO.keep{G:G3}(t:jh H H')(e:H' a=H a):∀{o:LO},RO G H a o->RO G H' a o
 |.lst _,⟨J,h,r⟩=>⟨J,e.trans h,r.ts t⟩
 |.dct _,⟨J,h,r⟩=>⟨J,e.trans h,EC r λ_ _ ⟨a,b⟩=>⟨a,b.ts t⟩⟩
 |.ins _ _,⟨U,J,h,r⟩=>⟨U,J,e.trans h,EC r λ_ _ ⟨a,b⟩=>⟨a,b.ts t⟩⟩
 |.exc _,⟨o,h,c⟩=>⟨o,e.trans h,c⟩
 |.tb _,h=>qQ.keep h e λb o u z=>t b _ rfl z
theorem j7.skip{G:G3}{L:qu}(h:j7 G H L){p:Addr}{o:HO}(J:H p=.none):j7 G (upd H p o) L:=λa u e=>by obtain⟨x,q⟩:=(h a u e).ex;exact(h a u e).keep (DY J) (qx (zy q J))
theorem j7.newL{G:G3}{L:qu}(h:j7 G H L){p:Addr}{ys:List Y}(J:H p=.none)(r:xp G H ys xs):j7 G (upd H p (.lst xs)) (qh L p (.lst ys)):=λa u e=>by
 by_cases c:a=p
 ·subst c;rw[q8] at e;cases e;exact⟨xs,zv,r.ts (DY J)⟩
 ·rw[qb c] at e;exact(h a u e).keep (DY J) (qx c)
theorem j7.setL{G:G3}{L:qu}(h:j7 G H L){p:Addr}{ys:List Y}(J:H p=some (.lst zs))(r:xp G H ys xs):j7 G (upd H p (.lst xs)) (qh L p (.lst ys)):=λa u e=>by
 by_cases c:a=p
 ·subst c;rw[q8] at e;cases e;exact⟨xs,zv,r.ts (EK J)⟩
 ·rw[qb c] at e;exact(h a u e).keep (EK J) (qx c)
def qf(L L':qu):Prop:=∀a o,L a=some o->L' a=some o
theorem qf.refl(L:qu):qf L L:=λ_ _ h=>h
abbrev DW:=@qf.refl
theorem qf.trans{L L1 L2:qu}(a:qf L L1)(b:qf L1 L2):qf L L2:=λc o h=>b c o (a c o h)
theorem qf.new{L:qu}{p:Addr}{o:LO}(h:L p=none):qf L (qh L p o):=λa u e=>by rw[qb (k7 e h)];exact e
abbrev By:=@qf.new
theorem j7.sub{G:G3}{L L':qu}(h:j7 G H L')(s:qf L L'):j7 G H L:=λa o e=>h a o (s a o e)
abbrev x8:=List (Option Y)
structure vz(G:G3)(H:Hp)(σ:St)(τ:x8):Prop where
 len:σ.length=τ.length
 get:∀(i:Nat) y,τ[i]?=some (some y)->∃v,σ[i]?=some (some v)/\RV G H y v
theorem vz.ts{G:G3}{τ:x8}(h:vz G H σ τ)(t:jh H H'):vz G H' σ τ:=
 ⟨h.len,λi y e=>let ⟨v,a,b⟩:=h.get i y e;⟨v,a,b.ts t⟩⟩
theorem vz.set{G:G3}{τ:x8}(h:vz G H σ τ){y:Y}(r:RV G H y v):vz G H (σ.set i (some v)) (τ.set i (some y)):=by
 refine⟨by simp[h.len],λj z e=>?_⟩;by_cases c:i=j
 ·subst c;have J:i<τ.length:=by
   by_cases q:i<τ.length
   ·exact q
   ·rw[BY (by simp;omega)] at e;cases e
  rw[BS J] at e;cases e;exact⟨v,BS (by rw[h.len];exact J),r⟩
 ·rw[BN c] at e ⊢;exact h.get j z e
theorem vz.more{G:G3}{τ:x8}(h:vz G H σ τ)(n:Nat):vz G H (σ++List.replicate n none) (τ++List.replicate n none):=by
 refine⟨by simp[h.len],λj z e=>?_⟩;by_cases c:j<τ.length
 ·rw[AB c] at e;rw[AB (by rw[h.len];exact c)];exact h.get j z e
 ·rw[Ax (by omega),Ck] at e;split at e<;>cases e
def aay:x8->Nat->Option Y
 |[],_=>none
 |o::_,0=>o
 |_::r,i+1=>aay r i
theorem qM:∀(τ:x8) (i:Nat) {y:Y},aay τ i=some y->τ[i]?=some (some y)
 |[],_,_,h=>by cases h
 |o::_,0,_,h=>by simp[aay] at h;simp[h]
 |_::r,i+1,_,h=>by simp only[CL];exact qM r i h
abbrev YK:=Y->qu->Prop
abbrev vd:=x8->qu->YK->Prop
abbrev lE:=x8->qu->(Bool->qu->Prop)->Prop
abbrev eY:=x8->qu->(List Y->qu->Prop)->Prop
structure ky where
 nx:x8->qu->Prop
 rt:YK
 bk:x8->qu->Prop:=λ_ _=>False
 ct:x8->qu->Prop:=λ_ _=>False
abbrev ku:=ky->x8->qu->Prop
abbrev o7:=Y->x8->qu->(x8->qu->Prop)->Prop
abbrev tL:=List Y->x8->qu->(x8->qu->Prop)->Prop
abbrev TI3:=x8->qu->(List Y->(qu->Prop)->qu->Prop)->Prop
abbrev o8:=Y->Y->qu->YK->Prop
def sV(G:G3)(H:Hp)(J:YK)(Q:VK):Prop:=∀v H' y L',jh H H'->j7 G H' L'->RV G H' y v->J y L'->Q v H'
def zE(G:G3)(H:Hp)(J:Bool->qu->Prop)(Q:Bool->Hp->Prop):Prop:=∀b H' L',jh H H'->j7 G H' L'->J b L'->Q b H'
def apb(G:G3)(H:Hp)(J:List Y->qu->Prop)(Q:List V->Hp->Prop):Prop:=∀vs H' ys L',jh H H'->j7 G H' L'->xp G H' ys vs->J ys L'->Q vs H'
def og(G:G3)(H:Hp)(J:x8->qu->Prop)(Q:St->Hp->Prop):Prop:=∀σ H' τ L',jh H H'->vz G H' σ τ->j7 G H' L'->J τ L'->Q σ H'
theorem sV.ts{G:G3}{J:YK}{Q:VK}(h:sV G H J Q)(t:jh H H'):sV G H' J Q:=λv U y g j=>h v U y g (t.trans j)
theorem zE.ts{G:G3}{J:Bool->qu->Prop}{Q:Bool->Hp->Prop}(h:zE G H J Q)(t:jh H H'):zE G H' J Q:=λv U g j=>h v U g (t.trans j)
theorem og.ts{G:G3}{J:x8->qu->Prop}{Q:St->Hp->Prop}(h:og G H J Q)(t:jh H H'):og G H' J Q:=λv U y g j=>h v U y g (t.trans j)
structure aa9(G:G3)(H:Hp)(D3:ky)(D:wM):Prop where
 nx:og G H D3.nx D.nx
 rt:sV G H D3.rt D.rt
 bk:og G H D3.bk D.bk
 ct:og G H D3.ct D.ct
theorem aa9.ts{G:G3}{D3:ky}{D:wM}(h:aa9 G H D3 D)(t:jh H H'):aa9 G H' D3 D:=⟨h.nx.ts t,h.rt.ts t,h.bk.ts t,h.ct.ts t⟩
def qN(G:G3)(t:vd):TE:=λσ H Q=>∃τ L J,vz G H σ τ/\j7 G H L/\t τ L J/\sV G H J Q
def upT(G:G3)(t:lE):TT:=λσ H Q=>∃τ L J,vz G H σ τ/\j7 G H L/\t τ L J/\zE G H J Q
def upA(G:G3)(t:eY):TA:=λσ H Q=>∃τ L J,vz G H σ τ/\j7 G H L/\t τ L J/\apb G H J Q
def upS(G:G3)(t:ku):L2.TS:=λD σ H=>∃τ L D3,vz G H σ τ/\j7 G H L/\t D3 τ L/\aa9 G H D3 D
def upG(G:G3)(g:o7):TG:=λv σ H Q=>∃y τ L J,RV G H y v/\vz G H σ τ/\j7 G H L/\g y τ L J/\og G H J Q
def aw0(G:G3)(g:tL):TGs:=λvs σ H Q=>∃ys τ L J,xp G H ys vs/\vz G H σ τ/\j7 G H L/\g ys τ L J/\og G H J Q
structure eL(G:G3)(H₀:Hp)(J:It)(ys:List Y)(keep:qu->Prop):Prop where
 go:∀i H L,jh H₀ H->j7 G H L->keep L->i<ys.length->J.go i H
 yld:∀i H L x H' y,jh H₀ H->j7 G H L->keep L->ys[i]?=some y->J.yld i H x H'->jh H H'/\j7 G H' L/\RV G H' y x
 stop:∀H L,jh H₀ H->j7 G H L->keep L->J.stop ys.length H
def upI(G:G3)(wi:TI3):TI:=λσ H R=>∃τ L U,vz G H σ τ/\j7 G H L/\wi τ L U/\∀J H' ys keep L',jh H H'->j7 G H' L'->eL G H' J ys keep->U ys keep L'->R J H'
def fb(G:G3)(g:o8):R2:=λx y H Q=>∃x3 J L U,RV G H x3 x/\RV G H J y/\j7 G H L/\g x3 J L U/\sV G H U Q
def upL(G:G3)(U:List Y->qu->YK->Prop):List V->Hp->VK->Prop:=λxs H Q=>∃ys L J,xp G H ys xs/\j7 G H L/\U ys L J/\sV G H J Q
def upU(G:G3)(U:Y->qu->YK->Prop):V->Hp->VK->Prop:=λx H Q=>∃y L J,RV G H y x/\j7 G H L/\U y L J/\sV G H J Q
theorem PE.imp{t u:TE}(h:PE X e t)(q:∀σ H Q,u σ H Q->t σ H Q):PE X e u:=λJ s σ H Q I z=>h J s σ H Q I (q σ H Q z)
theorem PE.imq{G:G3}{t:TE}{u:vd}(h:PE X e t)(q:∀σ H Q τ L J,vz G H σ τ->j7 G H L->u τ L J->sV G H J Q->t σ H Q):PE X e (qN G u):=PE.imp h λσ H Q ⟨τ,L,J,a,b,c,d⟩=>q σ H Q τ L J a b c d
abbrev DZ:=@PE.imq
theorem PT.imp{t u:TT}(h:PT X e t)(q:∀σ H Q,u σ H Q->t σ H Q):PT X e u:=λJ s σ H Q I z=>h J s σ H Q I (q σ H Q z)
theorem PT.imq{G:G3}{t:TT}{u:lE}(h:PT X e t)(q:∀σ H Q τ L J,vz G H σ τ->j7 G H L->u τ L J->zE G H J Q->t σ H Q):PT X e (upT G u):=PT.imp h λσ H Q ⟨τ,L,J,a,b,c,d⟩=>q σ H Q τ L J a b c d
theorem PW.imp{t u:TT}(h:PW X e t)(q:∀σ H Q,u σ H Q->t σ H Q):PW X e u:=λU J s σ H Q I z=>h U J s σ H Q I (q σ H Q z)
theorem PW.imq{G:G3}{t:TT}{u:lE}(h:PW X e t)(q:∀σ H Q τ L J,vz G H σ τ->j7 G H L->u τ L J->zE G H J Q->t σ H Q):PW X e (upT G u):=PW.imp h λσ H Q ⟨τ,L,J,a,b,c,d⟩=>q σ H Q τ L J a b c d
theorem PA.imp{e:List Expr}{t u:TA}(h:PA X e t)(q:∀σ H Q,u σ H Q->t σ H Q):PA X e u:=λpos J s σ H Q I z=>h pos J s σ H Q I (q σ H Q z)
theorem PA.imq{G:G3}{e:List Expr}{t:TA}{u:eY}(h:PA X e t)(q:∀σ H Q τ L J,vz G H σ τ->j7 G H L->u τ L J->apb G H J Q->t σ H Q):PA X e (upA G u):=PA.imp h λσ H Q ⟨τ,L,J,a,b,c,d⟩=>q σ H Q τ L J a b c d
theorem PS.imp{e:Stmt}{t u:L2.TS}(h:PS X e t)(q:∀D σ H,u D σ H->t D σ H):PS X e u:=λJ s σ H Q I z=>h J s σ H Q I (q _ σ H z)
theorem PS.imq{G:G3}{e:Stmt}{t:L2.TS}{u:ku}(h:PS X e t)(q:∀D σ H τ L D3,vz G H σ τ->j7 G H L->u D3 τ L->aa9 G H D3 D->t D σ H):PS X e (upS G u):=PS.imp h λD σ H ⟨τ,L,D3,a,b,c,d⟩=>q D σ H τ L D3 a b c d
abbrev EG:=@PS.imq
theorem lK.imp{e:List Stmt}{t u:L2.TS}(h:lK X e t)(q:∀D σ H,u D σ H->t D σ H):lK X e u:=λJ s σ H Q I z=>h J s σ H Q I (q _ σ H z)
theorem lK.imq{G:G3}{e:List Stmt}{t:L2.TS}{u:ku}(h:lK X e t)(q:∀D σ H τ L D3,vz G H σ τ->j7 G H L->u D3 τ L->aa9 G H D3 D->t D σ H):lK X e (upS G u):=lK.imp h λD σ H ⟨τ,L,D3,a,b,c,d⟩=>q D σ H τ L D3 a b c d
theorem PF.imp{e:List Expr}{t u:TT}(h:PF X e t)(q:∀σ H Q,u σ H Q->t σ H Q):PF X e u:=λJ s σ H Q I z=>h J s σ H Q I (q σ H Q z)
end L3
variable {g:L3.o7}{y:L3.Y}{D:L3.ky}{tb te ti to:L3.vd}{kvs:List (L2.jm×L3.Y)}{ys:List L3.Y}{L L' L0 L1:L3.qu}{G:L3.G3}{τ:L3.x8}{gs:L3.tL}{tr:L3.eY}{tA:L3.lE}
namespace L3
open PySem L2
def wq(b:Bool)(A B:Prop):Prop:=match b with
 |true=>A
 |false=>B
theorem ajd{b:Bool}{A B:Prop}(h:b=true->A)(k:b=false->B):wq b A B:=by cases b with|true=>exact h rfl|false=>exact k rfl
theorem wm{b:Bool}{A B:Prop}(e:b=true)(h:A):wq b A B:=by rw[e];exact h
theorem xr{b:Bool}{A B:Prop}(e:b=false)(h:B):wq b A B:=by rw[e];exact h
theorem xn{p:Prop} [Decidable p]{A B:Prop}(h:p->A)(k:¬p->B):wq (decide p) A B:=by
 by_cases c:p
 ·rw[AH c];exact h c
 ·rw[Ay c];exact k c
def nb(neg b:Bool):Bool:=match neg with
 |true=>!b
 |false=>b
def qa(i:Nat)(τ:x8)(L:qu)(Q:YK):Prop:=match aay τ i with
 |some y=>Q y L
 |none=>False
def yC(y:Y)(_:x8)(L:qu)(Q:YK):Prop:=Q y L
def zk(r:o8)(ta tb:vd)(τ:x8)(L:qu)(Q:YK):Prop:=ta τ L λx L1=>tb τ L1 λy L2=>r x y L2 Q
def yUn(r:Y->qu->YK->Prop)(ta:vd)(τ:x8)(L:qu)(Q:YK):Prop:=ta τ L λx L1=>r x L1 Q
def yI(C:Int->Int->Prop)(g:Int->Int->Y)(x y:Y)(L:qu)(Q:YK):Prop:=match x,y with
 |.int i,.int j=>C i j/\Q (g i j) L
 |_,_=>False
def yI0(g:Int->Int->Y)(x y:Y)(L:qu)(Q:YK):Prop:=match x,y with
 |.int i,.int j=>Q (g i j) L
 |_,_=>False
def uL(x:Y)(L:qu)(Q:YK):Prop:=match x with
 |.int i=>Q (.int (-i)) L
 |_=>False
def cL(L:qu):Y->Option (List Y)
 |.tup ys=>some ys
 |.sq ys=>some ys
 |.ref a=>match L a with
  |some (.lst ys)=>some ys
  |_=>none
 |_=>none
@[irreducible] def dR (L:qu) (a:Addr) (k:List Y->Prop):Prop:=match L a with
 |some (.lst ys)=>k ys
 |_=>False
theorem v4{k:List Y->Prop}(h:dR L a k):∃ys,L a=some (.lst ys)/\k ys:=by
 unfold dR at h;split at h
 ·rename_i ys e;exact⟨ys,e,h⟩
 ·exact h.elim
theorem qr{k:List Y->Prop}(e:L a=some (.lst ys))(h:k ys):dR L a k:=by unfold dR;rw[e];exact h
def fe(L:qu)(x:Y)(k:List Y->Prop):Prop:=match x with
 |.tup ys=>k ys
 |.sq ys=>k ys
 |.ref a=>dR L a k
 |_=>False
theorem a9(h:L a=some (.lst ys)):cL L (.ref a)=some ys:=by show(match L a with|some (.lst ys)=>some ys|_=>none)=some ys;rw[h]
theorem wg{x:Y}{k:List Y->Prop}(h:fe L x k):∃ys,cL L x=some ys/\k ys:=by
 cases x with
 |tup ys=>exact⟨ys,rfl,h⟩
 |sq ys=>exact⟨ys,rfl,h⟩
 |ref a=>obtain⟨ys,e,q⟩:=v4 h;exact⟨ys,a9 e,q⟩
 |_=>exact h.elim
theorem pQ(h:cL L (.ref a)=some ys):L a=some (.lst ys):=by
 have J:(match L a with|some (.lst ys)=>some ys|_=>none)=some ys:=h;split at J
 ·rename_i e;cases J;exact e
 ·cases J
theorem aj6{x:Y}{k:List Y->Prop}(e:cL L x=some ys)(h:k ys):fe L x k:=by cases x with|tup J=>cases e;exact h|sq J=>cases e;exact h|ref a=>exact qr (pQ e) h|_=>cases e
theorem qc{k:List Y->Prop}(e:L a=some (.lst ys))(h:k ys):fe L (.ref a) k:=aj6 (a9 e) h
def km(x y:Y)(L:qu)(Q:YK):Prop:=match x,y with
 |.int i,.int j=>Q (.int (i+j)) L
 |.str a,.str b=>a.length+b.length<=sizeLine/\Q (.str (a++b)) L
 |.ref a,.ref b=>∃ys zs,L a=some (.lst ys)/\L b=some (.lst zs)/\ys.length+zs.length<=sizeLine/\∀p,L p=none->Q (.ref p) (qh L p (.lst (ys++zs)))
 |_,_=>False
def yU(L:qu)(Q:α->qu->Prop):Option α->Prop
 |some v=>Q v L
 |none=>False
def wn(kvs:List (jm×Y))(k:jm):Option Y:=(kvs.find? λp=>decide (p.1=k)).map (·.2)
@[irreducible] def uR (L:qu) (a:Addr) (k:List (jm×Y)->Prop):Prop:=match L a with
 |some (.dct kvs)=>k kvs
 |_=>False
theorem iB{k:List (jm×Y)->Prop}(h:uR L a k):∃kvs,L a=some (.dct kvs)/\k kvs:=by
 unfold uR at h;split at h
 ·rename_i J e;exact⟨J,e,h⟩
 ·exact h.elim
theorem xa{k:List (jm×Y)->Prop}(e:L a=some (.dct kvs))(h:k kvs):uR L a k:=by unfold uR;rw[e];exact h
def ai(x y:Y)(L:qu)(Q:YK):Prop:=match x,y with
 |.str z,.int i=>z.length<=sizeLine/\yU L (λc L=>Q (.str ⟨#[c]⟩) L) (iL z.cps.toList i)
 |.cd kvs,.str k=>yU L (λs L=>Q (.str s) L) (kvs.lookup k)
 |.ref a,.str k=>uR L a λkvs=>yU L Q (wn kvs (.inr k))
 |x,.int i=>fe L x λys=>yU L Q (iL ys i)
 |_,_=>False
def oS(xs:List Y)(L:qu)(Q:YK):Prop:=match xs with
 |[.str z]=>z.length<=sizeLine/\Q (.int z.length) L
 |[x]=>fe L x λys=>Q (.int ys.length) L
 |_=>False
def aib(xs:List Y)(L:qu)(Q:YK):Prop:=match xs with
 |[.int i,.int j]=>Q (.int (max i j)) L
 |_=>False
def amz(xs:List Y)(L:qu)(Q:YK):Prop:=match xs with
 |[.int i,.int j]=>Q (.int (min i j)) L
 |_=>False
inductive sL where
 |non|bool|int|str|tuple|list|dict
def sL.nm:sL->String
 |.non => "NoneType"
 |.bool => "bool"
 |.int => "int"
 |.str => "str"
 |.tuple => "tuple"
 |.list => "list"
 |.dict => "dict"
def tyY(L:qu):Y->Option sL
 |.non=>some .non
 |.bl _=>some .bool
 |.int _=>some .int
 |.str _=>some .str
 |.tup _=>some .tuple
 |.sq _=>some .list
 |.ref a=>match L a with
  |some (.lst _)=>some .list
  |some (.dct _)=>some .dict
  |_=>none
 |_=>none
theorem tyL(h:L a=some (.lst ys)):tyY L (.ref a)=some .list:=by show(match L a with|some (.lst _)=>some sL.list|some (.dct _)=>some .dict|_=>none)=some .list;rw[h]
def aeu:sL->sL->Bool
 |.bool,.int=>true
 |.bool,.bool=>true
 |.int,.int=>true
 |.str,.str=>true
 |.tuple,.tuple=>true
 |.list,.list=>true
 |.dict,.dict=>true
 |.non,.non=>true
 |_,_=>false
@[irreducible] def tyK (L:qu) (a:Addr) (k:sL->Prop):Prop:=match tyY L (.ref a) with
 |some T=>k T
 |none=>False
theorem aj0{k:sL->Prop}(h:tyK L a k):∃T,tyY L (.ref a)=some T/\k T:=by
 unfold tyK at h;split at h
 ·rename_i T e;exact⟨T,e,h⟩
 ·exact h.elim
theorem lY{k:sL->Prop}(e:L a=some (.lst ys))(h:k .list):tyK L a k:=by unfold tyK;rw[tyL e];exact h
def aqa(L:qu)(x:Y)(k:sL->Prop):Prop:=match x with
 |.non=>k .non
 |.bl _=>k .bool
 |.int _=>k .int
 |.str _=>k .str
 |.tup _=>k .tuple
 |.sq _=>k .list
 |.ref a=>tyK L a k
 |_=>False
theorem ad7{x:Y}{k:sL->Prop}(h:aqa L x k):∃T,tyY L x=some T/\k T:=by cases x with|ref a=>exact aj0 h|ty n=>exact h.elim|cd k=>exact h.elim|_=>exact⟨_,rfl,h⟩
def gG(S:sL)(te:vd)(τ:x8)(L:qu)(Q:YK):Prop:=te τ L λx L1=>aqa L1 x λT=>Q (.bl (aeu T S)) L1
def fv:Y->Bool
 |.non=>true
 |.bl _=>true
 |.int _=>true
 |.str _=>true
 |_=>false
def gf:Y->V
 |.non=>.non
 |.bl b=>.bl b
 |.int i=>.int i
 |.str x=>.str x
 |_=>.ty "?"
theorem RV.flat :∀{y:Y} {v:V},fv y=true->RV G H y v->v=gf y
 |.non,_,_,h=>h
 |.bl _,_,_,h=>h
 |.int _,_,_,h=>h
 |.str _,_,_,h=>h
theorem iM:∀{y:Y},fv y=true->ay (gf y)=true
 |.non,_=>rfl
 |.bl _,_=>rfl
 |.int _,_=>rfl
 |.str _,_=>rfl
theorem xp.flat :∀{ys:List Y} {xs:List V},ys.all fv=true->xp G H ys xs->xs=ys.map gf
 |[],_,_,h=>h
 |y::ys,_,f,⟨x,J,e,r,s⟩=>by rw[Dv,A4] at f;rw[e,r.flat f.1,s.flat f.2];rfl
def sg:Y->Bool
 |.ref _=>true
 |.sq _=>true
 |_=>false
def jd(L:qu):Nat->Y->Da->Prop
 |0,y,d=>fv y=true/\d=.s (gf y)
 |n+1,y,d=>(fv y=true/\d=.s (gf y))\/(∃ys ds,y=.tup ys/\d=.tup ds/\Paired (jd L n) ys ds)\/(∃ys ds,sg y=true/\d=.lst ds/\cL L y=some ys/\Paired (jd L n) ys ds)
def aad:Y->Bool
 |.ref _=>true
 |.tup _=>true
 |.sq _=>true
 |_=>false
def yH(neg:Bool)(x y:Y)(L:qu)(Q:YK):Prop:=match x,y with
 |.int i,.int j=>Q (.bl (nb neg (decide (i=j)))) L
 |.str i,.str j=>Q (.bl (nb neg (decide (i=j)))) L
 |.bl i,.bl j=>Q (.bl (nb neg (decide (i=j)))) L
 |x,y=>aad x=true/\aad y=true/\∃n m d e,n<=128/\jd L n x d/\jd L m y e/\Q (.bl (nb neg (Da.eq d e))) L
def lG(neg:Bool)(ta:vd)(τ:x8)(L:qu)(Q:YK):Prop:=ta τ L λx L1=>match x with
 |.non=>Q (.bl (!neg)) L1
 |_=>Q (.bl neg) L1
def yB(t:vd)(τ:x8)(L:qu)(Q:Bool->qu->Prop):Prop:=t τ L λx L1=>match x with
 |.bl c=>Q c L1
 |_=>False
def vJ(t u:lE)(τ:x8)(L:qu)(Q:Bool->qu->Prop):Prop:=t τ L λc L1=>wq c (u τ L1 Q) (Q false L1)
def yOr(t u:lE)(τ:x8)(L:qu)(Q:Bool->qu->Prop):Prop:=t τ L λc L1=>wq c (Q true L1) (u τ L1 Q)
def sG(t:lE)(τ:x8)(L:qu)(Q:Bool->qu->Prop):Prop:=t τ L λc L1=>Q (!c) L1
def acr(ta tb:vd)(τ:x8)(L:qu)(Q:YK):Prop:=ta τ L λx L1=>match x with
 |.bl c=>wq c (tb τ L1 Q) (Q (.bl false) L1)
 |_=>False
def yIf(t:lE)(ta tb:vd)(τ:x8)(L:qu)(Q:YK):Prop:=t τ L λc L1=>wq c (ta τ L1 Q) (tb τ L1 Q)
def zb(_:x8)(L:qu)(Q:List Y->qu->Prop):Prop:=Q [] L
def qd(ta:vd)(tr:eY)(τ:x8)(L:qu)(Q:List Y->qu->Prop):Prop:=ta τ L λx L1=>tr τ L1 λxs L2=>Q (x::xs) L2
def k8(t:eY)(τ:x8)(L:qu)(Q:YK):Prop:=t τ L λys L1=>match Nat.ble ys.length 1000 with
 |true=>Q (.tup ys) L1
 |false=>False
def ju(t:eY)(τ:x8)(L:qu)(Q:YK):Prop:=t τ L λys L1=>match Nat.ble ys.length 1000 with
 |true=>∀p,L1 p=none->Q (.ref p) (qh L1 p (.lst ys))
 |false=>False
def iW(r:List Y->qu->YK->Prop)(t:eY)(τ:x8)(L:qu)(Q:YK):Prop:=t τ L λvs L1=>r vs L1 Q
abbrev TO3:=x8->qu->(Option Int->qu->Prop)->Prop
def kq(_:x8)(L:qu)(Q:Option Int->qu->Prop):Prop:=Q none L
def ww(t:vd)(τ:x8)(L:qu)(Q:Option Int->qu->Prop):Prop:=t τ L λx L1=>match x with
 |.int i=>Q (some i) L1
 |_=>False
def gb(xs:List Y)(lo hi:Option Int):List Y:=(xs.drop (HT.sIx xs.length 0 lo)).take (HT.sIx xs.length xs.length hi-HT.sIx xs.length 0 lo)
def apo(x:Y)(lo hi:Option Int)(L:qu)(Q:YK):Prop:=match x with
 |.ref a=>dR L a λys=>∀p,L p=none->Q (.ref p) (qh L p (.lst (gb ys lo hi)))
 |.sq ys=>∀p,L p=none->Q (.ref p) (qh L p (.lst (gb ys lo hi)))
 |_=>False
def sM(r:Y->Option Int->Option Int->qu->YK->Prop)(te:vd)(tl th:TO3)(τ:x8)(L:qu)(Q:YK):Prop:=te τ L λx L1=>tl τ L1 λl L2=>th τ L2 λu L3=>r x l u L3 Q
def qt(t u:ku)(D:ky)(τ:x8)(L:qu):Prop:=t { D with nx:=u D } τ L
def jv(D:ky)(τ:x8)(L:qu):Prop:=D.nx τ L
def akz(D:ky)(τ:x8)(L:qu):Prop:=D.ct τ L
def jr(te:vd)(D:ky)(τ:x8)(L:qu):Prop:=te τ L λ_ L1=>D.nx τ L1
def jb(te:vd)(D:ky)(τ:x8)(L:qu):Prop:=te τ L D.rt
def afx(D:ky)(_:x8)(L:qu):Prop:=D.rt .non L
def xt(c:lE)(t u:ku)(D:ky)(τ:x8)(L:qu):Prop:=c τ L λb L1=>wq b (t D τ L1) (u D τ L1)
def zg(te:vd)(g:o7)(D:ky)(τ:x8)(L:qu):Prop:=te τ L λx L1=>g x τ L1 D.nx
def fh:x8->Nat->Y->x8
 |[],_,_=>[]
 |_::r,0,y=>some y::r
 |o::r,i+1,y=>o::fh r i y
theorem bG:∀(τ:x8) (i:Nat) (y:Y),fh τ i y=τ.set i (some y)
 |[],_,_=>rfl
 |_::_,0,_=>rfl
 |o::r,i+1,y=>by rw[fh,bG r i y];rfl
def qe(i:Nat)(y:Y)(τ:x8)(L:qu)(Q:x8->qu->Prop):Prop:=Q (fh τ i y) L
def wv(ys:List Y)(τ:x8)(L:qu)(Q:x8->qu->Prop):Prop:=match ys with
 |[]=>Q τ L
 |_=>False
def zq(t:o7)(u:tL)(ys:List Y)(τ:x8)(L:qu)(Q:x8->qu->Prop):Prop:=match ys with
 |[]=>False
 |y::r=>t y τ L λJ L'=>u r J L' Q
def aJ(n:Nat)(t:tL)(y:Y)(τ:x8)(L:qu)(Q:x8->qu->Prop):Prop:=match y with
 |.tup ys=>match ys.length==n with
  |true=>t ys τ L Q
  |false=>False
 |_=>False
def ajz(i j:Nat)(ta:eY)(D:ky)(τ:x8)(L:qu):Prop:=ta τ L λvs L1=>match vs with
 |[v,w]=>D.nx (fh (fh τ i v) j w) L1
 |_=>False
def gi(W:α->qu->Prop)(x:α)(L:qu):Prop:=∃L',qf L' L/\W x L'
theorem frg{W:α->qu->Prop}{x:α}(h:W x L):gi W x L:=⟨L,DW L,h⟩
def eQ(c:lE)(tb:ku)(D:ky)(τ:x8)(L:qu):Prop:=∃W:Nat->x8->qu->Prop,(∃m,W m τ L)/\∀m τ L,W m τ L->
 c τ L λb L1=>wq b (∃N:x8->qu->Prop,(∀J L',N J L'->∃U,U<m/\W U J L')/\tb { D with nx:=gi N,ct:=gi N,bk:=D.nx } τ L1) (D.nx τ L1)
@[irreducible] def xP (ys:List Y) (keep:qu->Prop) (g:o7) (tb:ku) (D:ky) (τ:x8) (L1:qu):Prop:=∃W:Nat->x8->qu->Prop,W 0 τ L1/\(∀i τ L,W i τ L->keep L)/\
 (∀i y τ L,ys[i]?=some y->W i τ L->g y τ L λJ L2=>tb { D with nx:=gi (W (i+1)),ct:=gi (W (i+1)),bk:=D.nx } J L2)/\∀τ L,W ys.length τ L->D.nx τ L
theorem vj{keep:qu->Prop}{tb:ku}(h:∃W:Nat->x8->qu->Prop,W 0 τ L1/\(∀i τ L,W i τ L->keep L)/\
 (∀i y τ L,ys[i]?=some y->W i τ L->g y τ L λJ L2=>tb { D with nx:=gi (W (i+1)),ct:=gi (W (i+1)),bk:=D.nx } J L2)/\∀τ L,W ys.length τ L->D.nx τ L):xP ys keep g tb D τ L1:=by unfold xP;exact h
theorem agg{keep:qu->Prop}{tb:ku}(h:xP ys keep g tb D τ L1):∃W:Nat->x8->qu->Prop,W 0 τ L1/\(∀i τ L,W i τ L->keep L)/\
 (∀i y τ L,ys[i]?=some y->W i τ L->g y τ L λJ L2=>tb { D with nx:=gi (W (i+1)),ct:=gi (W (i+1)),bk:=D.nx } J L2)/\∀τ L,W ys.length τ L->D.nx τ L:=by unfold xP at h;exact h
def dU(wi:TI3)(g:o7)(tb:ku)(D:ky)(τ:x8)(L:qu):Prop:=wi τ L λys keep L1=>xP ys keep g tb D τ L1
@[irreducible] def qW (L:qu) (a:Addr) (R:List Y->(qu->Prop)->qu->Prop):Prop:=match L a with
 |some (.lst ys)=>R ys (λL=>L a=some (.lst ys)) L
 |_=>False
theorem jx{R:List Y->(qu->Prop)->qu->Prop}(h:L a=some (.lst ys))(q:∀keep:qu->Prop,(∀L',L' a=L a->keep L')->R ys keep L):qW L a R:=by unfold qW;rw[h];exact q _ λL' J=>J.trans h
theorem mn{R:List Y->(qu->Prop)->qu->Prop}(h:qW L a R):∃ys keep,cL L (.ref a)=some ys/\keep L/\(∀L',keep L'->cL L' (.ref a)=some ys)/\R ys keep L:=by
 unfold qW at h;split at h
 ·rename_i ys e;exact⟨ys,_,a9 e,e,λL' J=>a9 J,h⟩
 ·exact h.elim
def vv(tl:vd)(τ:x8)(L:qu)(R:List Y->(qu->Prop)->qu->Prop):Prop:=tl τ L λx L1=>match x with
 |.ref a=>qW L1 a R
 |.sq ys=>R ys (λ_=>True) L1
 |_=>False
def adz(tl:vd)(τ:x8)(L:qu)(R:List Y->(qu->Prop)->qu->Prop):Prop:=tl τ L λx L1=>match x with
 |.tup ys=>R ys (λ_=>True) L1
 |_=>False
def bA(lo:Int)(n:Nat):List Y:=(List.range n).map λk=>.int (lo+(k:Nat))
def rD(ta:eY)(τ:x8)(L:qu)(R:List Y->(qu->Prop)->qu->Prop):Prop:=ta τ L λvs L1=>match vs with
 |[.int j]=>(-(2 ^ 62)<=j/\j<2 ^ 62)/\R (bA 0 j.toNat) (λ_=>True) L1
 |_=>False
def wI(_:x8)(L:qu)(Q:Bool->qu->Prop):Prop:=Q true L
@[irreducible] def lcK (ys:List Y) (keep:qu->Prop) (n:Nat) (g:o7) (tc:lE) (te:vd) (τ:x8) (L1:qu) (Q:YK):Prop:=ys.length<sizeLine/\∃W:Nat->List Y->qu->Prop,W 0 [] L1/\(∀i zs L,W i zs L->keep L)/\
 (∀i y zs L,ys[i]?=some y->W i zs L->g y (τ++List.replicate n none) L λJ L2=>tc J L2 λb L3=>wq b (te J L3 λz U=>gi (W (i+1)) (zs++[z]) U) (gi (W (i+1)) zs L3))/\
 ∀zs L,W ys.length zs L->∀p,L p=none->Q (.ref p) (qh L p (.lst zs))
theorem rC{keep:qu->Prop}{tc:lE}{Q:YK}(h:ys.length<sizeLine/\∃W:Nat->List Y->qu->Prop,W 0 [] L1/\(∀i zs L,W i zs L->keep L)/\
 (∀i y zs L,ys[i]?=some y->W i zs L->g y (τ++List.replicate n none) L λJ L2=>tc J L2 λb L3=>wq b (te J L3 λz U=>gi (W (i+1)) (zs++[z]) U) (gi (W (i+1)) zs L3))/\
 ∀zs L,W ys.length zs L->∀p,L p=none->Q (.ref p) (qh L p (.lst zs))):lcK ys keep n g tc te τ L1 Q:=by unfold lcK;exact h
theorem ahd{keep:qu->Prop}{tc:lE}{Q:YK}(h:lcK ys keep n g tc te τ L1 Q):ys.length<sizeLine/\∃W:Nat->List Y->qu->Prop,W 0 [] L1/\(∀i zs L,W i zs L->keep L)/\
 (∀i y zs L,ys[i]?=some y->W i zs L->g y (τ++List.replicate n none) L λJ L2=>tc J L2 λb L3=>wq b (te J L3 λz U=>gi (W (i+1)) (zs++[z]) U) (gi (W (i+1)) zs L3))/\
 ∀zs L,W ys.length zs L->∀p,L p=none->Q (.ref p) (qh L p (.lst zs)):=by unfold lcK at h;exact h
def sN(n:Nat)(wi:TI3)(g:o7)(tc:lE)(te:vd)(τ:x8)(L:qu)(Q:YK):Prop:=wi τ L λys keep L1=>lcK ys keep n g tc te τ L1 Q
abbrev jn:=List Y->qu->YK->Prop
def qz(sp:jn)(t:eY)(τ:x8)(L:qu)(Q:YK):Prop:=t τ L λys L1=>sp ys L1 Q
def jc(x:Y)(vs:List Y)(L:qu)(Q:YK):Prop:=match x,vs with
 |.ref a,[v]=>dR L a λys=>ys.length<sizeLine/\Q .non (qh L a (.lst (ys++[v])))
 |_,_=>False
def ak(x:Y)(vs:List Y)(L:qu)(Q:YK):Prop:=match x,vs with
 |.ref a,[.ref b]=>dR L a λys=>dR L b λzs=>ys.length+zs.length<=sizeLine/\Q .non (qh L a (.lst (ys++zs)))
 |_,_=>False
def uh(x:Y)(vs:List Y)(L:qu)(Q:YK):Prop:=match x,vs with
 |.ref a,[]=>dR L a λys=>yU L (λv L=>Q v (qh L a (.lst ys.dropLast))) (ys[ys.length-1]?)
 |_,_=>False
theorem kw.imp{f:Value->Value->Sem Value}{r U:R2}(h:kw X f r)(q:∀x y H Q,U x y H Q->r x y H Q):kw X f U:=λJ s g H x y v u Q I j l z=>h J s g H x y v u Q I j l (q x y H Q z)
theorem kw.imq{f:Value->Value->Sem Value}{r:R2}{u:o8}(h:kw X f r)(q:∀x y H Q x3 J L U,RV G H x3 x->RV G H J y->j7 G H L->u x3 J L U->sV G H U Q->r x y H Q):kw X f (fb G u):=kw.imp h λx y H Q ⟨x3,J,L,U,a,b,c,d,e⟩=>q x y H Q x3 J L U a b c d e
abbrev EV:=@kw.imq
theorem UnR.imp{f:Value->Sem Value}{r U:V->Hp->VK->Prop}(h:UnR X f r)(q:∀x H Q,U x H Q->r x H Q):UnR X f U:=λJ s g H x v Q I j z=>h J s g H x v Q I j (q x H Q z)
theorem xf.imp{f:Value}{r U:List V->Hp->VK->Prop}(h:xf X f r)(q:∀x H Q,U x H Q->r x H Q):xf X f U:=λJ s g H x v Q I j z=>h J s g H x v Q I j (q x H Q z)
theorem xf.imq{f:Value}{r:List V->Hp->VK->Prop}{u:List Y->qu->YK->Prop}(h:xf X f r)(q:∀xs H Q ys L J,xp G H ys xs->j7 G H L->u ys L J->sV G H J Q->r xs H Q):xf X f (upL G u):=xf.imp h λxs H Q ⟨ys,L,J,a,b,c,d⟩=>q xs H Q ys L J a b c d
abbrev EY:=@xf.imq
theorem IxR.imp{r U:R2}(h:IxR X r)(q:∀x y H Q,U x y H Q->r x y H Q):IxR X U:=λvalue slice J s g H x y v u Q I j l z=>h value slice J s g H x y v u Q I j l (q x y H Q z)
theorem gh.imp{id:String}{r U:V->List V->Hp->VK->Prop}(h:gh X id r)(q:∀x xs H Q,U x xs H Q->r x xs H Q):gh X id U:=λJ s g H x xs v j Q I l o z=>h J s g H x xs v j Q I l o (q x xs H Q z)
theorem mG(rl:j7 G H L)(r:RV G H y v)(h:cL L y=some ys):∃p xs,v=.ref p/\(aQ G.K H p xs\/cg G.K H p xs)/\xp G H ys xs:=by
 cases y with
 |tup U=>
  obtain⟨a,xs,e,s,q⟩:=r;cases h;exact⟨a,xs,e,.inr s,q⟩
 |sq U=>
  obtain⟨a,xs,e,s,q⟩:=r;cases h;exact⟨a,xs,e,.inl s.sq,q⟩
 |ref a=>
  cases (show v=.ref a from r);have J:(match L a with|some (.lst ys)=>some ys|_=>none)=some ys:=h;split at J
  ·rename_i U e;cases J;obtain⟨xs,g,q⟩:=rl a _ e;exact⟨a,xs,rfl,.inl (aQ.of g),q⟩
  ·cases J
 |_=>cases h
theorem al3{i:Int}(s:xp G H ys xs)(h:iL ys i=some y):∃x,iL xs i=some x/\RV G H y x:=by
 unfold iL at h ⊢;rw[<-s.length];cases e:ixN ys.length i with
 |none=>rw[e] at h;cases h
 |some j=>
  rw[e] at h;exact s.get (i:=j) h
section
variable {a b:Expr}{ta tc:vd}
abbrev QE(X:Cx)(e:Expr)(t:vd):Prop:=PE X e (qN X.g3 t)
abbrev QT(X:Cx)(e:Expr)(t:lE):Prop:=PT X e (upT X.g3 t)
abbrev QW(X:Cx)(e:Expr)(t:lE):Prop:=PW X e (upT X.g3 t)
abbrev QA(X:Cx)(es:List Expr)(t:eY):Prop:=PA X es (upA X.g3 t)
abbrev QS(X:Cx)(st:Stmt)(t:ku):Prop:=PS X st (upS X.g3 t)
abbrev sQ(X:Cx)(st:List Stmt)(t:ku):Prop:=lK X st (upS X.g3 t)
abbrev QG(X:Cx)(e:Expr)(g:o7):Prop:=PG X e (upG X.g3 g)
abbrev QGs(X:Cx)(es:List Expr)(g:tL):Prop:=PGs X es (aw0 X.g3 g)
abbrev QI(X:Cx)(tg it:Expr)(w:TI3):Prop:=PI X tg it (upI X.g3 w)
abbrev QF(X:Cx)(es:List Expr)(t:lE):Prop:=PF X es (upT X.g3 t)
theorem QE.of_var(h:PE X e (amq i)):QE X e (qa i):=DZ h λj H Q l L o J rl z k=>by
 unfold qa at z;split at z
 ·rename_i y U;obtain⟨v,ev,g⟩:=J.get i y (qM _ _ U);exact⟨v,ev,k v H y L (DX _) rl g z⟩
 ·exact z.elim
theorem QE.of_c(h:PE X e (tC v))(q:∀H,RV X.g3 H y v):QE X e (yC y):=DZ h λJ H Q U L g j rl z k=>k v H y L (DX _) rl (q H) z
theorem qv(i:Nat)(U:X.N[i]?=some x:=by rfl)(g:Vis X.env.scope x:=by first|exact Or.inl rfl|exact Or.inr (Or.inl rfl)|exact Or.inr (Or.inr rfl))(hd:Ed x:=by decide)
 (J:Ee x:=by decide):QE X (.Name x pos) (qa i):=QE.of_var (pv i U g hd J)
theorem ax :QE X (.Constant .none j pos) (yC .non):=QE.of_c anr λ_=>rfl
theorem fz{b:Bool} :QE X (.Constant (.bool b) j pos) (yC (.bl b)):=QE.of_c aqe λ_=>rfl
theorem qi{i:Int} :QE X (.Constant (.int i) j pos) (yC (.int i)):=QE.of_c alx λ_=>rfl
theorem ja :QE X (.Constant (.str x) j pos) (yC (.str x)):=QE.of_c dE λ_=>rfl
theorem aqu{c:Addr}(J:Gl X x)(U:X.mg x=some (.ref c))(q:∀H,RV X.g3 H y (.ref c))(hd:Ed x:=by decide):QE X (.Name x pos) (yC y):=QE.of_c (aqt J U hd) q
theorem ym{r:o8}{ta:vd}(σ:St)(H:Hp)(Q:VK):qN G (zk r ta tb) σ H Q->tOp (fb G r) (qN G ta) (qN G tb) σ H Q:=λ⟨l,L,C,o,rl,z,k⟩=>
 ⟨l,L,_,o,rl,z,λv H1 y I p J U T=>⟨l,I,_,o.ts p,J,T,λv2 H2 y2 L2 t g j z2=>⟨y,y2,L2,C,U.ts t,j,g,z2,k.ts (p.trans t)⟩⟩⟩
theorem qp{op:Operator}{r:o8}(h:kw X (binaryOp op) (fb X.g3 r))(J:QE X a ta)(U:QE X b tb):QE X (.BinOp a op b pos) (zk r ta tb):=PE.imp (aqh h J U) ym
theorem aoq{r:o8}(h:IxR X (fb X.g3 r))(J:QE X a ta)(U:QE X b tb)(g:lL b):QE X (.Subscript a b pos) (zk r ta tb):=PE.imp (akh h J U g) ym
theorem fW{op:CmpOp}{r:o8}(h:kw X (compareOp op) (fb X.g3 r))(J:QE X a ta)(U:QE X b tb)(g:behindInMarks op b=false):QE X (.Compare a [op] [b] pos) (zk r ta tb):=PE.imp (ahu h J U g) ym
theorem anx{t:vd}(σ:St)(H:Hp)(Q:Bool->Hp->Prop):upT G (yB t) σ H Q->afk (qN G t) σ H Q:=λ⟨j,L,C,l,rl,z,k⟩=>
 ⟨j,L,_,l,rl,z,λv o y p r J U g=>by cases y with|bl b=>exact⟨b,U,k b o p r J g⟩|_=>exact g.elim⟩
theorem akd{t:vd}(σ:St)(H:Hp)(Q:Bool->Hp->Prop):upT G (yB t) σ H Q->L2.tB (qN G t) σ H Q:=anx σ H Q
theorem x5{op:CmpOp}{r:o8}(h:kw X (compareOp op) (fb X.g3 r))(U:QE X a ta)(g:QE X b tb)(j:behindInMarks op b=false):QT X (.Compare a [op] [b] pos) (yB (zk r ta tb)):=
 PT.imp (ajl h U g j) λJ H Q q=>by have l:=anx J H Q q;obtain⟨o,L,p,t,rl,z,k⟩:=l;exact ym J H _ ⟨o,L,p,t,rl,z,k⟩
theorem a7(h:QE X e te)(J:∀whole,isTrue e X.env whole=(do let v <-whole;standAt e.pos;holding [v] (truthy v)):=by intro _;rfl):QT X e (yB te):=PT.imp (alq h J) akd
theorem OpI{f:Value->Value->Sem Value}{C:Int->Int->Prop}{g:Int->Int->V}{g3:Int->Int->Y}(h:kw X f (rI C g))(e:∀i j H,RV X.g3 H (g3 i j) (g i j)):kw X f (fb X.g3 (yI C g3)):=EV h λx y H Q U J L p l o rl z k=>by
 cases U with
 |int i=>
  cases J with|int j=>exact⟨i,j,l,o,z.1,k _ H _ L (DX _) rl (e i j H) z.2⟩|_=>exact z.elim
 |_=>cases J<;>exact z.elim
theorem adj{f:Value->Value->Sem Value}{g:Int->Int->V}{g3:Int->Int->Y}(h:kw X f (rI0 g))(e:∀i j H,RV X.g3 H (g3 i j) (g i j)):kw X f (fb X.g3 (yI0 g3)):=EV h λx y H Q U J L p l o rl z k=>by
 cases U with
 |int i=>
  cases J with|int j=>exact⟨i,j,l,o,k _ H _ L (DX _) rl (e i j H) z⟩|_=>exact z.elim
 |_=>cases J<;>exact z.elim
theorem bQ:kw X (binaryOp .Sub) (fb X.g3 (yI0 λi j=>.int (i-j))):=adj anz λ_ _ _=>rfl
theorem ft:kw X (binaryOp .Mult) (fb X.g3 (yI ada λi j=>.int (i*j))):=OpI amt λ_ _ _=>rfl
theorem wx:kw X (binaryOp .FloorDiv) (fb X.g3 (yI amw λi j=>.int (i / j))):=OpI ahy λ_ _ _=>rfl
theorem xo:kw X (binaryOp .Mod) (fb X.g3 (yI (λ_ j=>0<j) λi j=>.int (i % j))):=OpI amk λ_ _ _=>rfl
theorem aq2:kw X (binaryOp .Pow) (fb X.g3 (yI am7 λi j=>.int (i ^ j.toNat))):=OpI al5 λ_ _ _=>rfl
theorem vL:kw X (compareOp .Lt) (fb X.g3 (yI0 λi j=>.bl (decide (i<j)))):=adj aqm λ_ _ _=>rfl
theorem atg:kw X (compareOp .LtE) (fb X.g3 (yI0 λi j=>.bl (decide (i<=j)))):=adj aqc λ_ _ _=>rfl
theorem wD:kw X (compareOp .Gt) (fb X.g3 (yI0 λi j=>.bl (decide (j<i)))):=adj aor λ_ _ _=>rfl
theorem ap7:kw X (compareOp .GtE) (fb X.g3 (yI0 λi j=>.bl (decide (j<=i)))):=adj aov λ_ _ _=>rfl
theorem xc:kw X (binaryOp .Add) (fb X.g3 km):=EV ait λx y H Q t J L Q3 U g rl z k=>by
 cases t with
 |int i=>
  cases J with|int j=>cases U;cases g;exact k _ H _ L (DX _) rl (by rfl) z|_=>exact z.elim
 |str i=>
  cases J with|str j=>cases U;cases g;exact⟨z.1,k _ H _ L (DX _) rl (by rfl) z.2⟩|_=>exact z.elim
 |ref a=>
  cases J with
  |ref b=>
   cases U;cases g;obtain⟨ys,zs,C,I,T,q⟩:=z;obtain⟨xs,h1,o⟩:=rl a _ C;obtain⟨us,h2,r⟩:=rl b _ I;refine⟨xs,us,h1,h2,by rw[<-o.length,<-r.length];exact T,λp l=>?_⟩;exact k _ _ _ _ (DY l) (rl.newL l (o.app r)) (by rfl) (q p (rl.none l))
  |_=>exact z.elim
 |_=>cases J<;>exact z.elim
theorem ss{kvs:List (Str×Str)}{k:Str}(h:kvs.lookup k=some x):bH (kvs.map λp=>((Sum.inr p.1:jm),V.str p.2)) (Sum.inr k)=some (V.str x):=by
 induction kvs with
 |nil=>simp at h
 |cons p r J=>
  obtain⟨a,b⟩:=p;unfold bH;rw[AE,Bm];rw[Bp] at h;by_cases c:k=a
  ·subst c;simp at h;simp[h]
  ·have c1:(k==a)=false:=by simpa using c
   rw[c1] at h;have c2:decide ((Sum.inr a:jm)=Sum.inr k)=false:=Ay λz=>c (Ei z).symm;simp only[c2];exact J h
theorem pM{xs:List (jm×V)}{k:jm}(p:Paired (λ(p:jm×Y) (q:jm×V)=>p.1=q.1/\RV G H p.2 q.2) kvs xs)(h:wn kvs k=some y):∃x,bH xs k=some x/\RV G H y x:=by
 induction p with
 |nil=>cases h
 |@cons a b _ _ r t g=>
  obtain⟨J,o⟩:=a;obtain⟨j,l⟩:=b;obtain⟨e,r⟩:=r;cases (show J=j from e);unfold wn at h;unfold bH;rw[Bm] at h ⊢;by_cases c:J=k
  ·have U:decide (J=k)=true:=AH c;simp only[U] at h ⊢;cases h;exact⟨l,rfl,r⟩
  ·have U:decide (J=k)=false:=Ay c;simp only[U] at h ⊢;exact g h
theorem apy(K:Ah)(P:Program)(w:World)(hK:X.K=K:=by rfl)(hP:X.prog=P:=by rfl)(hw:X.w=w:=by rfl):IxR X (fb ⟨K,P,w⟩ ai):=by
 subst hK hP hw;refine IxR.imp aqz λx y H Q ⟨x3,o,L,Q3,J,r,rl,z,k⟩=>?_;have seq:∀{i:Int} {x3:Y},RV X.g3 H x3 x->y=.int i->(fe L x3 λl=>yU L Q3 (iL l i))->uIx X.K X.prog X.w x y H Q:=by
  intro i x3 J ey z;subst ey;obtain⟨l,es,z⟩:=wg z;obtain⟨p,I,e,sq,rv⟩:=mG rl J es;subst e;cases U:iL l i with
  |none=>rw[U] at z;exact z.elim
  |some y=>
   rw[U] at z;obtain⟨x,ex,T⟩:=al3 rv U;exact⟨I,x,sq,ex,k _ H _ L (DX _) rl T z⟩
 cases x3 with
 |str s=>
  cases o with
  |int i=>
   cases J;cases r;obtain⟨z1,C⟩:=z;cases U:iL s.cps.toList i with
   |none=>rw[U] at C;exact C.elim
   |some c=>rw[U] at C;exact⟨z1,c,U,k _ H _ L (DX _) rl (by rfl) C⟩
  |_=>exact z.elim
 |cd g=>
  cases o with
  |str s=>
   obtain⟨a,U,kd⟩:=J;cases U;cases r;have j:yU L (λs L=>Q3 (.str s) L) (g.lookup s):=z;cases el:g.lookup s with
   |none=>rw[el] at j;exact j.elim
   |some t=>rw[el] at j;exact⟨_,_,.inr kd,ss el,k _ H _ L (DX _) rl (by rfl) j⟩
  |int i=>exact z.elim
  |_=>exact z.elim
 |ref a=>
  cases o with
  |int i=>exact seq (x3:=.ref a) J r z
  |str s=>
   cases J;cases r;obtain⟨g,e,j⟩:=iB z;obtain⟨I,e2,pr⟩:=rl a _ e;cases ev:wn g (Sum.inr s) with
   |none=>rw[ev] at j;exact j.elim
   |some y=>
    rw[ev] at j;obtain⟨x,ex,J⟩:=pM pr ev;exact⟨I,x,.inl (.inl e2),ex,k _ H _ L (DX _) rl J j⟩
  |_=>exact z.elim
 |tup l=>
  cases o with|int i=>exact seq (x3:=.tup l) J r z|_=>exact z.elim
 |sq l=>
  cases o with|int i=>exact seq (x3:=.sq l) J r z|_=>exact z.elim
 |_=>cases o<;>exact z.elim
theorem xp.inv1(h:xp G H [y] xs):∃x,xs=[x]/\RV G H y x:=by obtain⟨x,J,e,r,s⟩:=h;cases (show J=[] from s);exact⟨x,e,r⟩
theorem xp.inv2{U:Y}(h:xp G H [y,U] xs):∃x J,xs=[x,J]/\RV G H y x/\RV G H U J:=by obtain⟨x,g,e,r,s⟩:=h;obtain⟨J,j,l⟩:=s.inv1;exact⟨x,J,by rw[e,j],r,l⟩
theorem am6(K:Ah)(P:Program)(w:World)(g:X.K=K:=by rfl)(j:X.prog=P:=by rfl)(hw:X.w=w:=by rfl):xf X (.builtin "len") (upL ⟨K,P,w⟩ oS):=by
 subst g j hw;refine EY abm λC H Q l L I U rl z k=>?_;unfold oS at z;split at z
 ·obtain⟨x,rfl,r⟩:=U.inv1;cases r;exact⟨z.1,k _ H _ L (DX _) rl (by rfl) z.2⟩
 ·rename_i y _;obtain⟨x,rfl,r⟩:=U.inv1;obtain⟨l,o,z⟩:=wg z;obtain⟨p,t,e,sq,J⟩:=mG rl r o;subst e;refine⟨t,sq,?_⟩;rw[<-J.length];exact k _ H _ L (DX _) rl (by rfl) z
 ·exact z.elim
theorem anj(i j:Int):(if j > i then j else i)=max i j:=by split<;>lia
theorem alu(i j:Int):(if j<i then j else i)=min i j:=by split<;>lia
theorem akv(hc:X.calm=true:=by rfl):xf X (.builtin "max") (upL X.g3 aib):=EY (abe hc) λl H Q o L p J rl z k=>by
 unfold aib at z;split at z
 ·rename_i i j;obtain⟨x,r,rfl,U,g⟩:=J.inv2;cases U;cases g;refine⟨i,j,rfl,?_⟩;rw[anj];exact k _ H _ L (DX _) rl (by rfl) z
 ·exact z.elim
theorem ap1(hc:X.calm=true:=by rfl):xf X (.builtin "min") (upL X.g3 amz):=EY (aa3 hc) λl H Q o L p J rl z k=>by
 unfold amz at z;split at z
 ·rename_i i j;obtain⟨x,r,rfl,U,g⟩:=J.inv2;cases U;cases g;refine⟨i,j,rfl,?_⟩;rw[alu];exact k _ H _ L (DX _) rl (by rfl) z
 ·exact z.elim
theorem oN:UnR X (unaryOp .USub) (upU X.g3 uL):=UnR.imp anh λx H Q ⟨y,L,U,J,rl,z,k⟩=>by cases y with|int i=>exact⟨i,J,k _ H _ L (DX _) rl (by rfl) z⟩|_=>exact z.elim
theorem mC{op:UnaryOp}{r:Y->qu->YK->Prop}(h:UnR X (unaryOp op) (upU X.g3 r))(g:QE X a ta):QE X (.UnaryOp op a pos) (yUn r ta):=DZ (aqv h g) λI H Q j L l o rl z k=>
 ⟨j,L,_,o,rl,z,λv T y p t J U C=>⟨y,p,l,U,J,C,k.ts t⟩⟩
end
section
variable {a b:Expr}{ta tc:vd}
theorem cM{a:Addr}(rl:j7 G H L)(h:cL L (.ref a)=some ys):∃xs,aQ G.K H a xs/\xp G H ys xs:=by
 have J:(match L a with|some (.lst ys)=>some ys|_=>none)=some ys:=h;split at J
 ·rename_i e;cases J;obtain⟨xs,U,q⟩:=rl a _ e;exact⟨xs,aQ.of U,q⟩
 ·cases J
theorem fV(rl:j7 G H L)(r:RV G H y v)(J:sg y=true)(h:cL L y=some ys):∃a xs,v=.ref a/\aQ G.K H a xs/\xp G H ys xs:=by
 cases y with
 |ref a=>obtain⟨xs,s,q⟩:=cM rl h;exact⟨a,xs,r,s,q⟩
 |sq U=>obtain⟨a,xs,e,s,q⟩:=r;cases h;exact⟨a,xs,e,s.sq,q⟩
 |_=>cases J
theorem ab2{G:G3}{T:sL}{σ:L2.St}(I:zd X pins σ H s)(rl:j7 X.g3 H L)(r:RV X.g3 H y v)(J:j3 v u)(h:tyY L y=some T)
 {c:Value} {b:Bool} (e:PySem.W.kitOne X.K (.type T.nm) c=some b) (U:∀tk,Q (.bool b) { s with toks:=tk }):
 wpAny (model X.prog X.w) A (call (.builtin "isinstance") [u,c]) Q E s:=by
 cases y with
 |non=>cases h;cases r;exact bK I J .non e U
 |bl b=>cases h;cases r;exact bK I J (.bl _) e U
 |int i=>cases h;cases r;exact bK I J (.int _) e U
 |str x=>cases h;cases r;exact bK I J (.str _) e U
 |tup ys=>
  cases h;obtain⟨a,j,rfl,sq,_⟩:=r;cases (show u=Value.ref a from J);obtain⟨l,_,⟨o,p,t,_⟩,_⟩:=I.tuple sq;exact Bl PySem.W.kitx_tuple I.kIn ⟨o,p,t⟩ e (λz=>nomatch z) U
 |sq ys=>
  cases h;obtain⟨a,j,rfl,sq,_⟩:=r;cases (show u=Value.ref a from J);obtain⟨l,_,⟨o,n,p,t,_⟩,_⟩:=I.list sq.sq;exact Bl Dp I.kIn ⟨o,p,t⟩ e (λz=>nomatch z) U
 |ref a=>
  cases (show v=.ref a from r);have g:(match L a with|some (.lst _)=>some sL.list|some (.dct _)=>some .dict|_=>none)=some T:=h;split at g
  ·rename_i ys C;cases g;obtain⟨j,e2,_⟩:=rl a _ C;exact bK I J (.lst e2) e U
  ·rename_i a0 C;cases g;obtain⟨j,e2,_⟩:=rl a _ C;exact bK I J (.dK e2) e U
  ·cases g
 |_=>cases h
theorem ak4(K:Ah):∀T S:sL,PySem.W.kitOne K (.type T.nm) (.type S.nm)=some (aeu T S):=by intro T S;cases T<;>cases S<;>rfl
def ann(G:G3)(S:sL):List V->Hp->VK->Prop:=λxs H Q=>∃y v L J T,xs=[v,.ty S.nm]/\RV G H y v/\j7 G H L/\tyY L y=some T/\J (.bl (aeu T S)) L/\sV G H J Q
theorem an5(S:sL):xf X (.builtin "isinstance") (ann X.g3 S):=by intro J s l H o p Q I r h;obtain⟨y,v,L,t,T,rfl,U,rl,ty,q,k⟩:=h;obtain⟨u,c,rfl,g,j⟩:=zr.two r;cases (show c=Value.type S.nm from j);exact xg I.tk (ab2 (G:=X.g3) I rl U g ty (ak4 _ T S) λtk C=>⟨.bl _,H,I.tok _,rfl,k _ H _ L (DX _) rl (by rfl) q⟩)
theorem bD{J:Str}(S:sL)(C:Gl X "isinstance")(I:X.mg "isinstance"=none)(U:Gl X J)(g:X.mg J=none)(j:bootBuiltins J=some (.type S.nm))(ha:QE X a ta)
 (hn:J ≠ "__name__" := by decide) (hd:(J==("__debug__" : Str))=false:=by decide)
 (hs:starEach [a,.Name J p1] X.env=(false,eval a X.env)::starEach [.Name J p1] X.env:=by rfl) (l:starEach [.Name J p1] X.env=(false,eval (.Name J p1) X.env)::starEach [] X.env:=by rfl)
 (hp:(backTo pos (starEach [.Name J p1] X.env)).any (·.1)=false:=by rfl):
 QE X (.Call (.Name "isinstance" p) [a,.Name J p1] [] pos) (gG S ta):=by
 refine PE.imp (tf (an5 S) C I ot (dG ha (dG (apr U g j hn hd) iq l) hs) (by decide) (by decide) hs hp) ?_;rintro σ H Q ⟨τ,L,Q3,rs,rl,z,k⟩;refine⟨τ,L,_,rs,rl,z,λv H1 y L1 t1 o r t=>?_⟩;obtain⟨T,et,t⟩:=ad7 t;exact⟨y,v,L1,Q3,T,rfl,r,o,et,t,k.ts t1⟩
def mL(neg:Bool)(x y:Y)(L:qu)(Q:YK):Prop:=fe L y λys=>fv x=true/\ys.all fv=true/\Q (.bl (nb neg (wC (gf x) (ys.map gf)))) L
theorem ap8(neg:Bool){op:CmpOp}(h:kw X (compareOp op) (rIn X.K neg)):kw X (compareOp op) (fb X.g3 (mL neg)):=EV h λx y H Q J t L C g j rl z k=>by
 obtain⟨U,l,f1,f2,q⟩:=wg z;obtain⟨p,I,e,sq,o⟩:=mG rl j l;rw[g.flat f1];rw[o.flat f2] at sq;refine⟨p,_,e,sq,iM f1,?_,?_⟩
 ·rw[List.all_map,BL];intro y r;exact iM (BL.mp f2 y r)
 ·have:(if neg=true then !wC (gf J) (U.map gf) else wC (gf J) (U.map gf))=(nb neg (wC (gf J) (U.map gf))):=by cases neg<;>simp[nb]
  rw[this];exact k _ H _ L (DX _) rl (by rfl) q
theorem afz(K:Ah)(P:Program)(w:World)(J:X.K=K:=by rfl)(U:X.prog=P:=by rfl)(hw:X.w=w:=by rfl):kw X (compareOp .In) (fb ⟨K,P,w⟩ (mL false)):=by subst J U hw;exact ap8 false aa6
theorem vD(K:Ah)(P:Program)(w:World)(J:X.K=K:=by rfl)(U:X.prog=P:=by rfl)(hw:X.w=w:=by rfl):kw X (compareOp .NotIn) (fb ⟨K,P,w⟩ (mL true)):=by subst J U hw;exact ap8 true rf
theorem jd.rep{G:G3}{H:Hp}{L:qu}(rl:j7 G H L):∀{n:Nat} {y:Y} {d:Da} {v:V},jd L n y d->RV G H y v->kn G.K H n v d
 |0,y,d,v,⟨f,e⟩,r=>by rw[r.flat f];exact⟨e,iM f⟩
 |n+1,y,d,v,h,r=>by
  have both:∀{g:List Y} {U:List Da} {J:List V},Paired (jd L n) g U->xp G H g J->Paired (kn G.K H n) J U:=by
   intro g U J p
   induction p generalizing J with
   |nil=>intro r;cases (show J=[] from r);exact .nil
   |cons q t l=>
    rintro⟨x,o,rfl,C,I⟩;exact .cons (jd.rep rl q C) (l I)
  rcases h with⟨f,e⟩|⟨g,U,rfl,rfl,p⟩|⟨g,U,T,rfl,es,p⟩
  ·rw[r.flat f];exact .inl ⟨e,iM f⟩
  ·obtain⟨a,J,rfl,sq,j⟩:=r;exact .inr (.inl ⟨a,J,U,rfl,rfl,sq,both p j⟩)
  ·obtain⟨a,J,rfl,sq,j⟩:=fV rl r T es;exact .inr (.inr ⟨a,J,U,rfl,rfl,sq,both p j⟩)
theorem lV(h:aad y=true)(r:RV G H y v):∃a,v=.ref a:=by
 cases y with
 |ref a=>exact⟨a,r⟩
 |tup J=>obtain⟨a,U,e,_⟩:=r;exact⟨a,e⟩
 |sq J=>obtain⟨a,U,e,_⟩:=r;exact⟨a,e⟩
 |_=>cases h
theorem uo(K:Ah)(P:Program)(w:World)(g:X.A.units+128<cLine)(l:X.K=K:=by rfl)(o:X.prog=P:=by rfl)(hw:X.w=w:=by rfl):kw X (compareOp .Eq) (fb ⟨K,P,w⟩ (yH false)):=by
 subst l o hw;refine EV (anu g) λx y H Q I T L p J U rl z k=>?_;unfold yH at z;split at z
 ·rename_i i j;cases J;cases U;refine⟨rfl,?_⟩;have:decide (V.int i=V.int j)=nb false (decide (i=j)):=by rw[BA];simp[nb]
  rw[this];exact k _ H _ L (DX _) rl (by rfl) z
 ·rename_i i j;cases J;cases U;refine⟨rfl,?_⟩;have:decide (V.str i=V.str j)=nb false (decide (i=j)):=by rw[BA];simp[nb]
  rw[this];exact k _ H _ L (DX _) rl (by rfl) z
 ·rename_i i j;cases J;cases U;refine⟨rfl,?_⟩;have:decide (V.bl i=V.bl j)=nb false (decide (i=j)):=by rw[BA];simp[nb]
  rw[this];exact k _ H _ L (DX _) rl (by rfl) z
 ·obtain⟨f1,f2,n,m,d,e,r,t,C,q⟩:=z;obtain⟨a,rfl⟩:=lV f1 J;obtain⟨b,rfl⟩:=lV f2 U;have q:p (.bl (Da.eq d e)) L:=q;exact⟨n,m,d,e,r,t.rep rl J,C.rep rl U,k _ H _ L (DX _) rl (by rfl) q⟩
theorem aqy(K:Ah)(P:Program)(w:World)(g:X.A.units+128<cLine)(l:X.K=K:=by rfl)(o:X.prog=P:=by rfl)(hw:X.w=w:=by rfl):kw X (compareOp .NotEq) (fb ⟨K,P,w⟩ (yH true)):=by
 subst l o hw;refine EV (anc g) λx y H Q I T L p J U rl z k=>?_;unfold yH at z;split at z
 ·rename_i i j;cases J;cases U;refine⟨rfl,?_⟩;have:(!decide (V.int i=V.int j))=nb true (decide (i=j)):=by show _=!_;congr 1;rw[BA];simp
  rw[this];exact k _ H _ L (DX _) rl (by rfl) z
 ·rename_i i j;cases J;cases U;refine⟨rfl,?_⟩;have:(!decide (V.str i=V.str j))=nb true (decide (i=j)):=by show _=!_;congr 1;rw[BA];simp
  rw[this];exact k _ H _ L (DX _) rl (by rfl) z
 ·rename_i i j;cases J;cases U;refine⟨rfl,?_⟩;have:(!decide (V.bl i=V.bl j))=nb true (decide (i=j)):=by show _=!_;congr 1;rw[BA];simp
  rw[this];exact k _ H _ L (DX _) rl (by rfl) z
 ·obtain⟨f1,f2,n,m,d,e,r,t,C,q⟩:=z;obtain⟨a,rfl⟩:=lV f1 J;obtain⟨b,rfl⟩:=lV f2 U;have q:p (.bl (!Da.eq d e)) L:=q;exact⟨n,m,d,e,r,t.rep rl J,C.rep rl U,k _ H _ L (DX _) rl (by rfl) q⟩
theorem RV.non_iff(r:RV G H y v):decide (v=.non)=(match y with|.non=>true|_=>false):=by
 cases y with
 |non=>cases r;rfl
 |cd J=>obtain⟨a,rfl,_⟩:=r;rfl
 |tup U=>obtain⟨a,g,rfl,_⟩:=r;rfl
 |sq U=>obtain⟨a,g,rfl,_⟩:=r;rfl
 |_=>cases r;rfl
theorem ao6(σ:L2.St)(H:Hp)(Q:VK):qN G (lG false ta) σ H Q->apg (qN G ta) σ H Q:=λ⟨g,L,t,j,rl,z,k⟩=>
 ⟨g,L,_,j,rl,z,λv l y o p J U r=>by dsimp only;rw[U.non_iff];cases y<;>exact k _ l _ o p J (by rfl) r⟩
theorem aj1(σ:L2.St)(H:Hp)(Q:VK):qN G (lG true ta) σ H Q->akw (qN G ta) σ H Q:=λ⟨g,L,t,j,rl,z,k⟩=>
 ⟨g,L,_,j,rl,z,λv l y o p J U r=>by dsimp only;rw[U.non_iff];cases y<;>exact k _ l _ o p J (by rfl) r⟩
theorem akt{t:TE}(h:∀σ H Q,qN G te σ H Q->t σ H Q)(σ:L2.St)(H:Hp)(Q:Bool->Hp->Prop):upT G (yB te) σ H Q->L2.tB t σ H Q:=λq=>h σ H _ (akd σ H Q q)
theorem gR(h:QE X a ta):QT X (.Compare a [.Is] [.Constant .none j hQ] pos) (yB (lG false ta)):=PT.imp (aep (an3 h)) (akt ao6)
theorem ahr(h:QE X a ta):QT X (.Compare a [.IsNot] [.Constant .none j hQ] pos) (yB (lG true ta)):=PT.imp (aep (ah9 h)) (akt aj1)
end
section
variable {a b:Expr}{rest:List Expr}{ta tc:vd}{tB:lE}
theorem f6(h:QT X a tA):QW X (.BoolOp .And [a] pos) tA:=agx h
theorem fK(h:QT X a tA):QW X (.BoolOp .Or [a] pos) tA:=anp h
theorem i3(h:QT X a tA)(k:QW X (.BoolOp .And (b::rest) pos) tB):QW X (.BoolOp .And (a::b::rest) pos) (vJ tA tB):=PW.imq (al2 h k) λt H Q g L p j rl z k=>
 ⟨g,L,_,j,rl,z,λc r l U J o=>by cases c with|true=>rw[AF rfl];exact⟨g,l,p,j.ts U,J,o,k.ts U⟩|false=>rw[AG AC];exact k _ r l U J o⟩
theorem eJ(h:QT X a tA)(k:QW X (.BoolOp .Or (b::rest) pos) tB):QW X (.BoolOp .Or (a::b::rest) pos) (yOr tA tB):=PW.imq (ap4 h k) λt H Q g L p j rl z k=>
 ⟨g,L,_,j,rl,z,λc r l U J o=>by cases c with|true=>rw[AF rfl];exact k _ r l U J o|false=>rw[AG AC];exact⟨g,l,p,j.ts U,J,o,k.ts U⟩⟩
theorem bY(h:QW X a tA):QT X a tA:=PW.pt h
theorem fF(h:QT X a tA):QT X (.UnaryOp .Not a pos) (sG tA):=PT.imq (amj h) λr H Q U L t g rl z k=>
 ⟨U,L,_,g,rl,z,λc j l o J p=>k _ j l o J p⟩
theorem aez{op:BoolOp}(h:QE X a ta):QE X (.BoolOp op [a] pos) ta:=alk h
theorem afn(h:QE X a ta)(k:QE X (.BoolOp .And (b::rest) pos) tb):QE X (.BoolOp .And (a::b::rest) pos) (acr ta tb):=DZ (am4 h k) λI H Q g L j p rl z k=>
 ⟨g,L,_,p,rl,z,λv C y U l J o r=>by
  cases y with
  |bl c=>
   refine⟨c,o,?_⟩;have t:wq c (tb g U j) (j (.bl false) U):=r;cases c with|true=>rw[AF rfl];exact⟨g,U,j,p.ts l,J,t,k.ts l⟩|false=>rw[AG AC];exact k _ C _ U l J (by rfl) t
  |_=>exact r.elim⟩
theorem fB(h:QT X c tA)(r:QE X a ta)(t:QE X b tb):QE X (.IfExp c a b pos) (yIf tA ta tb):=DZ (ad6 h r t) λC H Q g L l j rl z k=>
 ⟨g,L,_,j,rl,z,λc I o U J p=>by cases c with|true=>rw[AF rfl];exact⟨g,o,l,j.ts U,J,p,k.ts U⟩|false=>rw[AG AC];exact⟨g,o,l,j.ts U,J,p,k.ts U⟩⟩
theorem x9:QA X [] zb:=PA.imq iq λJ H Q U L g j rl z k=>k _ H _ L (DX _) rl (by rfl) z
theorem kz(h:QE X e te)(C:QA X es tr)(hs:Eb e es X:=by rfl):QA X (e::es) (qd te tr):=PA.imq (dG h C hs) λσ H Q l L Q3 o rl z k=>
 ⟨l,L,_,o,rl,z,λv H1 y I p J U T=>⟨l,I,_,o.ts p,J,T,λr H2 ys L2 t g j z2=>k (v::r) H2 (y::ys) L2 (p.trans t) g ⟨v,r,rfl,U.ts t,j⟩ z2⟩⟩
theorem zw(h:QA X es tr):QE X (.Tuple es x1 pos) (k8 tr):=DZ (amb h) λT H Q o L Q3 r rl z k=>
 ⟨o,L,_,r,rl,z,λt H1 l C I g J U=>by
  cases e:Nat.ble l.length 1000 with
  |false=>rw[e] at U;exact U.elim
  |true=>
   rw[e] at U;have:=BG e;refine⟨small (by rw[<-J.length];exact this),λp j=>?_⟩;exact k _ _ (.tup l) C (I.trans (DY j)) (g.skip j) ⟨p,t,rfl,cg.of zv,J.ts (DY j)⟩ U⟩
theorem ze(h:QA X es tr):QE X (.List es pos) (ju tr):=DZ (amf h) λC H Q l L I o rl z k=>
 ⟨l,L,_,o,rl,z,λT H1 r L1 t J U g=>by
  cases e:Nat.ble r.length 1000 with
  |false=>rw[e] at g;exact g.elim
  |true=>
   rw[e] at g;have:=BG e;refine⟨small (by rw[<-U.length];exact this),λp j=>?_⟩;exact k _ _ _ _ (t.trans (DY j)) (J.newL j U) (by rfl) (g p (J.none j))⟩
theorem cZ{id:String}{r:List Y->qu->YK->Prop}(hc:xf X (.builtin id) (upL X.g3 r))(g:Gl X x)(j:X.mg x=none)(l:bootBuiltins x=some (.builtin id))(h:QA X (e::es) tr)
 (o:x ≠ "__name__" := by decide) (hd:Ed x:=by decide) (hs:Eb e es X:=by rfl) (t:Ec pos es X:=by rfl):
 QE X (.Call (.Name x p) (e::es) [] pos) (iW r tr):=DZ (tf hc g j l h o hd hs t) λσ H Q C L I T rl z k=>
 ⟨C,L,_,T,rl,z,λvs H1 ys L1 t1 J U z1=>⟨ys,L1,I,U,J,z1,k.ts t1⟩⟩
def upO(G:G3)(t:TO3):TO:=λσ H Q=>∃τ L J,vz G H σ τ/\j7 G H L/\t τ L J/\∀(o:Option Int) H' L',jh H H'->j7 G H' L'->J o L'->Q o H'
abbrev QO(X:Cx)(e:Option Expr)(t:TO3):Prop:=PO X e (upO X.g3 t)
theorem PO.imp{e:Option Expr}{t u:TO}(h:PO X e t)(q:∀σ H Q,u σ H Q->t σ H Q):PO X e u:=λJ s σ H Q I z=>h J s σ H Q I (q σ H Q z)
theorem PO.imq{e:Option Expr}{t:TO}{u:TO3}(h:PO X e t)(q:∀σ H Q τ L J,vz G H σ τ->j7 G H L->u τ L J->(∀(o:Option Int) H' L',jh H H'->j7 G H' L'->J o L'->Q o H')->t σ H Q):PO X e (upO G u):=PO.imp h λσ H Q ⟨τ,L,J,a,b,c,d⟩=>q σ H Q τ L J a b c d
theorem sW.imp{U:V->Option Int->Option Int->Hp->VK->Prop}(h:sW X r)(q:∀x lo hi H Q,U x lo hi H Q->r x lo hi H Q):sW X U:=by intro J s g H x v j l lo hi o Q I p t pl C z;exact h J s g H x v j l lo hi o Q I p t pl C (q _ _ _ _ _ z)
theorem wo:QO X none kq:=PO.imq aji λJ H Q U L g j rl z k=>k _ H L (DX _) rl z
theorem xj(h:QE X e te):QO X (some e) (ww te):=PO.imq (ahn h) λt H Q j L C l rl z k=>
 ⟨j,L,_,l,rl,z,λv o y p r J U g=>by cases y with|int i=>exact⟨i,U,k _ o p r J g⟩|_=>exact g.elim⟩
def aj4(G:G3)(r:Y->Option Int->Option Int->qu->YK->Prop):V->Option Int->Option Int->Hp->VK->Prop:=λx lo hi H Q=>∃y L J,RV G H y x/\j7 G H L/\r y lo hi L J/\sV G H J Q
theorem xm{lo hi:Option Expr}{tl th:TO3}{r:Y->Option Int->Option Int->qu->YK->Prop}(h:sW X (aj4 X.g3 r))(T:QE X a ta)(hl:QO X lo tl)(hh:QO X hi th):QE X (.Subscript a (.Slice lo hi none p2) pos) (sM r ta tl th):=
 DZ (aca h T hl hh) λσ H Q J L Q3 U rl z k=>
 ⟨J,L,_,U,rl,z,λv H1 y L1 g j l z1=>⟨J,L1,_,U.ts g,j,z1,λo H2 L2 p t z2=>⟨J,L2,_,U.ts (g.trans p),t,z2,λo' H3 L3 I C z3=>⟨y,L3,Q3,l.ts (p.trans I),C,z3,k.ts (g.trans (p.trans I))⟩⟩⟩⟩
theorem rZ(r:xp G H ys xs)(lo hi:Option Int):xp G H (gb ys lo hi) (so xs lo hi):=by unfold gb so;rw[r.length];exact(r.drop _).take _
theorem apk(K:Ah)(P:Program)(w:World)(l:X.K=K:=by rfl)(o:X.prog=P:=by rfl)(hw:X.w=w:=by rfl):sW X (aj4 ⟨K,P,w⟩ apo):=by
 subst l o hw;refine sW.imp agz λx lo g H Q ⟨y,L,Q3,j,rl,z,k⟩=>?_;cases y with
 |ref a=>
  obtain⟨t,C,I⟩:=v4 z;obtain⟨U,sq,r⟩:=cM rl (a9 C);exact⟨a,U,j,sq,λp J=>k _ _ _ _ (DY J) (rl.newL J (rZ r lo g)) (by rfl) (I p (rl.none J))⟩
 |sq t=>
  obtain⟨a,U,e,T,r⟩:=j;exact⟨a,U,e,T.sq,λp J=>k _ _ _ _ (DY J) (rl.newL J (rZ r lo g)) (by rfl) (z p (rl.none J))⟩
 |_=>exact z.elim
end
section
variable {a b iter:Expr}{ta tc:vd}{tB:lE}{rest nC:List Stmt}{t u:ku}
theorem zo:sQ X [] jv:=lK.imq ai8 λD U H g L D3 J rl z k=>k.nx _ H _ L (DX _) J rl z
theorem qg(h:QS X st t):sQ X [st] t:=ai6 h
theorem q9(h:QS X st t)(k:sQ X rest u):sQ X (st::rest) (qt t u):=lK.imq (ug h k) λD I H j L D3 l rl z k=>
 ⟨j,L,{ D3 with nx:=u D3 },l,rl,z,λo T J p r U g C=>⟨J,p,D3,U,g,C,k.ts r⟩,k.rt,k.bk,k.ct⟩
theorem tw:QS X (.Continue pos) akz:=EG t7 λD U H g L D3 J rl z k=>k.ct _ H _ L (DX _) J rl z
theorem zj(h:QE X e te)(hs:swapsWith e none pos.line X.env=pure false:=by rfl):QS X (.Expr e pos) (jr te):=EG (aj9 h hs) λD t H j L D3 U rl z k=>
 ⟨j,L,_,U,rl,z,λv l y o g J p r=>k.nx _ l _ o g (U.ts g) J r⟩
theorem za(h:QE X e te):QS X (.Return (some e) pos) (jb te):=EG (am2 h) λD g H J L D3 U rl z k=>⟨J,L,_,U,rl,z,k.rt⟩
theorem yQ:QS X (.Return none pos) afx:=EG ai9 λD J H U L D3 g rl z k=>k.rt _ H _ L (DX _) rl (by rfl) z
theorem jk(h:QT X c tA)(p:sQ X body t)(r:sQ X nC u):QS X (.If c body nC pos) (xt tA t u):=EG (apx h p r) λD C H g L D3 j rl z k=>
 ⟨g,L,_,j,rl,z,λc I l U J o=>by cases c with|true=>rw[AF rfl];exact⟨g,l,D3,j.ts U,J,o,k.ts U⟩|false=>rw[AG AC];exact⟨g,l,D3,j.ts U,J,o,k.ts U⟩⟩
theorem bP(t:X.N.Nodup)(J:X.N[i]?=some x)(C:Loc X.env.scope x)(h:QE X e te)(U:swapsWith e (some (.Name x hQ)) pos.line X.env=pure false:=by rfl)
 (g:X.fn x=true\/X.env.scope.names.lookup x=some .local:=by first|exact .inl rfl|exact .inr rfl|assumption):QS X (.Assign [.Name x hQ] e pos) (zg te (qe i)):=EG (an6 t J C h U g) λD σ H o L D3 p rl z k=>
 ⟨o,L,_,p,rl,z,λv I y T r j l z1=>k.nx _ I _ T r (show vz _ _ _ (fh o i y) by rw[bG];exact(p.ts r).set l) j z1⟩
theorem fM(h:QE X e te)(p:QG X tg g)(h1:swapsWithSole [tg] e pos.line X.env=pure false:=by rfl)(h2:swappedStores [tg] e X.env=pure none:=by rfl)
 (r:(assignEach [tg] X.env).map (·.2)=[assign tg X.env]:=by rfl):QS X (.Assign [tg] e pos) (zg te g):=EG (acu h p h1 h2 r) λD I H j L D3 l rl z k=>
 ⟨j,L,_,l,rl,z,λv T y t o J U C=>⟨y,j,t,_,U,l.ts o,J,C,k.nx.ts o⟩⟩
theorem PG.imp{t u:TG}(h:PG X e t)(q:∀v σ H Q,u v σ H Q->t v σ H Q):PG X e u:=λJ s σ H x v Q I r z=>h J s σ H x v Q I r (q _ _ _ _ z)
theorem PGs.imp{e:List Expr}{t u:TGs}(h:PGs X e t)(q:∀v σ H Q,u v σ H Q->t v σ H Q):PGs X e u:=λJ s σ H x v Q I r z=>h J s σ H x v Q I r (q _ _ _ _ z)
theorem hU(g:X.N.Nodup)(J:X.N[i]?=some x)(j:Loc X.env.scope x)(U:X.fn x=true\/X.env.scope.names.lookup x=some .local:=by first|exact .inl rfl|exact .inr rfl|assumption):QG X (.Name x pos) (qe i):=
 PG.imp (lg g J j U) λv r H Q ⟨y,l,L,t,o,p,rl,z,k⟩=>k _ H _ L (DX _) (show vz _ _ _ (fh l i y) by rw[bG];exact p.set o) rl z
theorem ke:QGs X [] wv:=PGs.imp yE λj l H Q ⟨J,o,L,p,U,g,rl,z,k⟩=>by cases J with|nil=>exact⟨U,k _ H _ L (DX _) g rl z⟩|cons y r=>exact z.elim
theorem zh(h:QG X e g)(hs:QGs X es gs)(o:(assignEach (e::es) X.env).map (·.2)=assign e X.env::(assignEach es X.env).map (·.2):=by rfl):QGs X (e::es) (zq g gs):=
 PGs.imp (oC h hs o) λvs σ H Q ⟨p,t,L,C,I,T,rl,z,k⟩=>by
 cases p with
 |nil=>exact z.elim
 |cons y r=>
  obtain⟨x,xs,rfl,r1,r2⟩:=I;exact⟨x,xs,rfl,y,t,L,_,r1,T,rl,z,λa0 H1 J L1 l U j z1=>⟨r,J,L1,C,r2.ts l,U,j,z1,k.ts l⟩⟩
theorem aO{l:Nat}(hc:X.calm=true)(h:QGs X es gs)(h1:(assignEach es X.env).length=n:=by rfl)(h2:(assignEach es X.env).findIdx? (·.1)=none:=by rfl):QG X (.Tuple es l pos) (aJ n gs):=
 PG.imp (afa hc h h1 h2) λv C H Q ⟨y,g,L,j,o,p,rl,z,k⟩=>by
 cases y with
 |tup J=>
  obtain⟨a,t,rfl,sq,r⟩:=o;have U:(match J.length==n with|true=>gs J g L j|false=>False):=z;split at U
  ·rename_i e;exact⟨a,t,rfl,sq,by rw[<-r.length];exact beq_iff_eq.mp e,J,g,L,j,r,p,rl,U,k⟩
  ·exact U.elim
 |_=>exact z.elim
theorem xH{y:Str}{px py pt:Pos}{U k2:Nat}{J:Pos}(hc:X.calm=true)(I:X.N.Nodup)(hi:X.N[i]?=some x)(T:X.N[j]?=some y)(g:i≠j)(lx:X.env.scope.names.lookup x=some .local)(ly:X.env.scope.names.lookup y=some .local)
 (h:QA X [a,b] tr) (h1:swappedStores [.Tuple [.Name x px,.Name y py] U pt] (.Tuple [a,b] k2 J) X.env=pure (some [x,y])) (h2:swapsWithSole [.Tuple [.Name x px,.Name y py] U pt] (.Tuple [a,b] k2 J) pos.line X.env=pure false:=by rfl):
 QS X (.Assign [.Tuple [.Name x px,.Name y py] U pt] (.Tuple [a,b] k2 J) pos) (ajz i j tr):=EG (ao2 hc I hi T g lx ly h h1 h2) λD σ H r L D3 t rl z k=>
 ⟨r,L,_,t,rl,z,λvs H1 ys L1 C l o p=>by
  split at p
  ·rename_i v w;obtain⟨x',y',rfl,r1,r2⟩:=o.inv2;exact⟨x',y',rfl,k.nx _ H1 _ L1 C (show vz _ _ _ (fh (fh r i v) j w) by rw[bG,bG];exact((t.ts C).set r1).set r2) l p⟩
  ·exact p.elim⟩
theorem bV(hp:PassesOwn (model X.prog X.w) X.A X.env X.xe)(h:QT X c tA)(hb:sQ X body t):QS X (.While c body [] pos) (eQ tA t):=PS.imp (ad8 hp h hb) λD σ H ⟨τ,L,D3,rs,rl,⟨W,⟨m0,w0⟩,turn⟩,k⟩=>by
 refine⟨λm C H1=>∃U I,jh H H1/\vz X.g3 H1 C U/\j7 X.g3 H1 I/\W m U I,⟨m0,τ,L,DX _,rs,rl,w0⟩,?_⟩;rintro m C H1 ⟨U,I,t1,o,a1,w1⟩;refine⟨U,I,_,o,a1,turn m U I w1,λb H2 L2 T a0 z2=>?_⟩;cases b with
 |false=>rw[AG AC];exact k.nx _ H2 _ L2 (t1.trans T) (o.ts T) a0 z2
 |true=>
  rw[AF rfl];obtain⟨N,hN,z2⟩:=z2;refine⟨λg j=>∃J l,jh H j/\vz X.g3 j g J/\j7 X.g3 j l/\N J l,?_,?_⟩
  ·rintro g j ⟨J,l,t',p,r,n'⟩;obtain⟨m',hm,w'⟩:=hN J l n';exact⟨m',hm,J,l,t',p,r,w'⟩
  ·have nx:og X.g3 H2 (gi N) (λg j=>∃J l,jh H j/\vz X.g3 j g J/\j7 X.g3 j l/\N J l):=λg j J l t' p r ⟨L5,s5,n'⟩=>⟨J,L5,(t1.trans T).trans t',p,r.sub s5,n'⟩;have k2:=k.ts (t1.trans T);exact⟨U,L2,_,o.ts T,a0,z2,nx,k2.rt,k2.nx,nx⟩
theorem w6{wi:TI3}(hp:PassesOwn (model X.prog X.w) X.A X.env X.xe)(hc:X.calm=true)(hi:QI X tg iter wi)(hg:QG X tg g)(hb:sQ X body t)(hs:∀x,foldedSetIterable iter X.env x=pure x:=by intro _;rfl):
 QS X (.For tg iter body [] pos) (dU wi g t):=EG (alg hp hc hi hg hb hs) λD σ H τ L D3 rs rl z k=>by
 refine⟨τ,L,_,rs,rl,z,λJ H1 C keep L1 t1 a2 yl zz=>?_⟩;obtain⟨W,w0,wk,turn,xi⟩:=agg zz;refine⟨λi m j l=>∃U p,i+m=C.length/\jh H1 l/\vz X.g3 l j U/\j7 X.g3 l p/\W i U p,⟨C.length,τ,L1,by omega,DX _,rs.ts t1,a2,w0⟩,?_⟩;rintro i m ar H2 ⟨o,L2,aH,t2,a0,r,w2⟩;by_cases a1:i<C.length
 ·refine .inr ⟨yl.go i H2 L2 t2 r (wk i o L2 w2) a1,λj l=>∃U p,jh H1 l/\vz X.g3 l j U/\j7 X.g3 l p/\W (i+1) U p,?_,?_⟩
  ·rintro j l ⟨U,p,t',I,T,w'⟩;exact⟨m-1,by omega,U,p,by omega,t',I,T,w'⟩
  ·intro x H3 y3;have ey:C[i]?=some C[i]:=Ag a1;obtain⟨t3,a3,a4⟩:=yl.yld i H2 L2 x H3 _ t2 r (wk i o L2 w2) ey y3;refine⟨C[i],o,L2,_,a4,a0.ts t3,a3,turn i _ o L2 ey w2,λaL H4 a5 L4 t4 ag al z4=>?_⟩;have nx:og X.g3 H4 (gi (W (i+1))) (λj l=>∃U p,jh H1 l/\vz X.g3 l j U/\j7 X.g3 l p/\W (i+1) U p):=λj l U p t' I T ⟨L5,s5,n'⟩=>⟨U,L5,((t2.trans t3).trans t4).trans t',I,T.sub s5,n'⟩;have k2:=k.ts (t1.trans ((t2.trans t3).trans t4));exact⟨a5,L4,_,ag,al,z4,nx,k2.rt,k2.nx,nx⟩
 ·have e:i=C.length:=by omega
  subst e;exact .inl ⟨yl.stop H2 L2 t2 r (wk _ o L2 w2),k.nx _ H2 _ L2 (t1.trans t2) a0 r (xi o L2 w2)⟩
theorem PI.imp{t u:TI}(h:PI X tg e t)(q:∀σ H Q,u σ H Q->t σ H Q):PI X tg e u:=λJ s σ H Q I z=>h J s σ H Q I (q σ H Q z)
theorem PI.imq{t:TI}{u:TI3}(h:PI X tg e t)(q:∀σ H R τ L U,vz G H σ τ->j7 G H L->u τ L U->(∀J H' ys keep L',jh H H'->j7 G H' L'->eL G H' J ys keep->U ys keep L'->R J H')->t σ H R):PI X tg e (upI G u):=PI.imp h λσ H R ⟨τ,L,U,a,b,c,d⟩=>q σ H R τ L U a b c d
theorem kG{a:Addr}{keep:qu->Prop}(h:∀H L,jh H₀ H->j7 G H L->keep L->∃xs,aQ G.K H a xs/\xp G H ys xs):eL G H₀ (Itl G.K a) ys keep where
 go:=λi H L t rl J U=>by
  obtain⟨xs,sq,r⟩:=h H L t rl J;have:i<xs.length:=by rw[<-r.length];exact U
  exact⟨xs,xs[i],sq,Ag this⟩
 yld:=λi H L x o y t rl J g ⟨e,f⟩=>by subst e;obtain⟨xs,sq,r⟩:=h _ L t rl J;obtain⟨p,j,l⟩:=r.get g;have:=f xs sq;rw[j] at this;cases this;exact⟨DX _,rl,l⟩
 stop:=λH L t rl J=>by obtain⟨xs,sq,r⟩:=h H L t rl J;exact⟨xs,sq,by rw[r.length];exact Al _⟩
theorem v9(h:QE X e te):QI X tg e (vv te):=PI.imq (aih h) λσ H R τ L R3 rs rl z k=>by
 refine⟨τ,L,_,rs,rl,z,λv j y o C J g p=>?_⟩;cases y with
 |ref a=>
  obtain⟨l,keep,es,kp,hk,z2⟩:=mn p;have I:∀H L,jh j H->j7 X.g3 H L->keep L->∃U,aQ X.K H a U/\xp X.g3 H l U:=λH L _ rl e=>cM rl (hk L e);obtain⟨U,sq,_⟩:=I j o (DX _) J kp;exact⟨a,g,⟨U,sq⟩,k _ j l _ o C J (kG I) z2⟩
 |sq l=>
  obtain⟨a,U,e,T,r⟩:=g;exact⟨a,e,⟨U,T.sq⟩,k _ j l (λ_=>True) o C J (kG λH L t _ _=>⟨U,(T.ts t).sq,r.ts t⟩) p⟩
 |_=>exact p.elim
theorem sk(lo:Int)(n:Nat):eL G H₀ (Itr lo n) (bA lo n) (λ_=>True) where
 go:=λi H L t rl g j=>show i<n by simpa[bA] using j
 yld:=λi H L x l y t rl g U ⟨e,f⟩=>by
  subst e f;refine⟨DX _,rl,?_⟩;unfold bA at U;rw[An] at U;obtain⟨z,J,e⟩:=Ao.mp U;have:=Cj (i:=i) (n:=n) (by
   by_cases c:i<n
   ·exact c
   ·rw[BY (by simp;omega)] at J;cases J)
  rw[this] at J;cases J;subst e;rfl
 stop:=λH L t rl g=>by simp[bA,Itr]
theorem jF(l:Gl X "range")(o:X.mg "range"=none)(h:QA X [a] tr)(hs:starEach [a] X.env=[(false,eval a X.env)]:=by rfl):QI X tg (.Call (.Name "range" p) [a] [] pos) (rD tr):=
 PI.imq (aat l o h hs) λσ H R t L R3 C rl z k=>by
 refine⟨t,L,_,C,rl,z,λvs I ys T t1 U g J=>?_⟩;split at J
 ·rename_i j;obtain⟨x,rfl,r⟩:=g.inv1;cases r;exact⟨j,rfl,J.1.1,J.1.2,k _ I _ _ T t1 U (sk 0 _) J.2⟩
 ·exact J.elim
end
section
variable {T:List Str}{iter:Expr}{wi:TI3}
theorem jA:QF X [] wI:=PF.imp al8 λJ H Q ⟨U,L,g,j,rl,z,k⟩=>k _ H L (DX _) rl z
theorem eM(h:QT X c tA):QF X [c] tA:=al9 h
theorem aka{g2:TG}(a0:∀v σ H Q,upG G g v σ H Q->g2 v σ H Q)(σ:L2.St)(H:Hp)(Q:VK):qN G (sN n wi g tA te) σ H Q->tLC n (upI G wi) g2 (upT G tA) (qN G te) σ H Q:=λ⟨τ,L,Q3,rs,rl,z,k⟩=>by
 refine⟨τ,L,_,rs,rl,z,λJ H1 o keep L1 t1 a1 yl zz=>?_⟩;obtain⟨hz,W,w0,wk,turn,xi⟩:=ahd zz;refine⟨λi m vs H'=>∃U L',i+m=o.length/\U.length<=i/\jh H1 H'/\xp G H' U vs/\j7 G H' L'/\W i U L',⟨o.length,[],L1,by exact Nat.add_comm _ _,Al _,DX _,rfl,a1,w0⟩,?_⟩;rintro i m vs H2 ⟨U,L2,al,ar,p,j,l,r⟩;by_cases t:i<o.length
 ·refine .inr ⟨yl.go i H2 L2 p l (wk i U L2 r) t,by rw[<-j.length];lia,?_⟩;intro x H3 y3;have ey:o[i]?=some o[i]:=Ag t;obtain⟨t3,a2,a3⟩:=yl.yld i H2 L2 x H3 _ p l (wk i U L2 r) ey y3;refine a0 _ _ _ _ ⟨o[i],_,L2,_,a3,(rs.ts ((t1.trans p).trans t3)).more n,a2,turn i _ U L2 ey r,λaH H4 C L4 t4 I a4 z4=>?_⟩;refine⟨C,L4,_,I,a4,z4,λb H5 L5 t5 T z5=>?_⟩;cases b with
  |true=>
   rw[AF rfl];refine⟨C,L5,_,I.ts t5,T,z5,λv6 H6 y6 L6 t6 a5 ag ⟨L7,s7,z6⟩=>?_⟩;have tt:=((t3.trans t4).trans t5).trans t6;exact⟨m-1,by omega,U++[y6],L7,by lia,by rw[Ad,BF];exact amd,p.trans tt,(j.ts tt).app (xp.one ag),a5.sub s7,z6⟩
  |false=>
   rw[AG AC];have tt:=(t3.trans t4).trans t5;obtain⟨L7,s7,z6⟩:=z5;exact⟨m-1,by lia,U,L7,by lia,by exact ati,p.trans tt,j.ts tt,T.sub s7,z6⟩
 ·have ei:i=o.length:=by lia
  subst ei;refine .inl ⟨yl.stop H2 L2 p l (wk _ U L2 r),by rw[<-j.length];lia,λD hD=>?_⟩;exact k _ _ _ _ ((t1.trans p).trans (DY hD)) (l.newL hD j) (by rfl) (xi U L2 r D (l.none hD))
structure TGx(X:Cx)(scope:Scope)(T:List Str)(target:Expr)(g:o7):Prop where
 ex:∃g2:TG,(∀C fp s₀ H₀,PG (X.comp scope T C fp s₀ H₀) target g2)/\pj g2 X.N.length T.length/\∀v σ H Q,upG X.g3 g v σ H Q->g2 v σ H Q
theorem ahs(i:Nat)(v:V)(σ:L2.St)(H:Hp)(Q:L2.St->Hp->Prop):upG G (qe i) v σ H Q->fH i v σ H Q:=λ⟨y,J,L,j,U,g,rl,z,k⟩=>
 k _ H _ L (DX _) (show vz _ _ _ (fh J i y) by rw[bG];exact g.set U) rl z
theorem kj(U:(X.N++[x]).Nodup)(g:∀C fp s₀ H₀,Loc (X.comp scope [x] C fp s₀ H₀).env.scope x)(J:∀C fp s₀ H₀,(X.comp scope [x] C fp s₀ H₀).env.scope.names.lookup x=some .local):TGx X scope [x] (.Name x p) (qe X.N.length):=
 ⟨fH X.N.length,λC fp s₀ H₀=>lg (X:=X.comp scope [x] C fp s₀ H₀) U (by show(X.N++[x])[X.N.length]?=some x;simp) (g C fp s₀ H₀) (.inr (J C fp s₀ H₀)),vU _,ahs _⟩
theorem aae{K:Ah}(n:Nat):pj (an1 K 2 (tj (fH n) (tj (fH (n+1)) aln))) n 2:=by
 rintro p J x H Q ⟨a,U,e,sq,len,v,r,g,w,j,l,o,q⟩;refine⟨a,U,e,sq,len,v,r,g,w,j,l,o,⟨by simp[J],λi u ei=>?_⟩,q⟩;have t:i<n:=by
  by_cases c:i<n
  ·exact c
  ·rw[Ax (by lia),Ck] at ei;split at ei<;>cases ei
 rw[BN (by lia),BN (by exact atf)];exact ei
theorem amo(i j:Nat)(v:V)(σ:L2.St)(H:Hp)(Q:L2.St->Hp->Prop):upG G (aJ 2 (zq (qe i) (zq (qe j) wv))) v σ H Q->an1 G.K 2 (tj (fH i) (tj (fH j) aln)) v σ H Q:=λ⟨y,g,L,l,p,t,rl,z,k⟩=>by
 cases y with
 |tup J=>
  obtain⟨a,xs,rfl,sq,r⟩:=p;have U:(match J.length==2 with|true=>zq (qe i) (zq (qe j) wv) J g L l|false=>False):=z;split at U
  ·rename_i e;have C:J.length=2:=beq_iff_eq.mp e
   match J,C with
   |[I,T],_=>
    obtain⟨x1,o,rfl,r1,r2⟩:=r.inv2;have z2:l (fh (fh g i I) j T) L:=U;exact⟨a,_,rfl,sq,rfl,x1,[o],rfl,o,[],rfl,rfl,k _ H _ L (DX _) (by rw[bG,bG];exact(t.set r1).set r2) rl z2⟩
  ·exact U.elim
 |_=>exact z.elim
theorem yZ{y:Str}{J pt:Pos}{l:Nat}(hc:X.calm=true)(g:(X.N++[x,y]).Nodup)(j:∀C fp s₀ H₀,(X.comp scope [x,y] C fp s₀ H₀).env.scope.names.lookup x=some .local)(U:∀C fp s₀ H₀,(X.comp scope [x,y] C fp s₀ H₀).env.scope.names.lookup y=some .local)
 (h1:∀env,(assignEach [.Name x p,.Name y J] env).length=2:=by intro _;rfl) (h2:∀env,(assignEach [.Name x p,.Name y J] env).findIdx? (·.1)=none:=by intro _;rfl)
 (o:∀env,(assignEach [.Name x p,.Name y J] env).map (·.2)=assign (.Name x p) env::(assignEach [.Name y J] env).map (·.2):=by intro _;rfl) (r:∀env,(assignEach [.Name y J] env).map (·.2)=assign (.Name y J) env::(assignEach [] env).map (·.2):=by intro _;rfl):
 TGx X scope [x,y] (.Tuple [.Name x p,.Name y J] l pt) (aJ 2 (zq (qe X.N.length) (zq (qe (X.N.length+1)) wv))):=
 ⟨_,λC fp s₀ H₀=>afa (X:=X.comp scope [x,y] C fp s₀ H₀) hc (oC (lg g (by show(X.N++[x,y])[X.N.length]?=some x;simp) (.inl (j C fp s₀ H₀)) (.inr (j C fp s₀ H₀))) (oC (lg g (by show(X.N++[x,y])[X.N.length+1]?=some y;simp) (.inl (U C fp s₀ H₀)) (.inr (U C fp s₀ H₀))) yE (r _)) (o _)) (h1 _) (h2 _),aae _,amo _ _⟩
theorem gJ(T:List Str)(S:jq X scope)(hc:X.calm=true)(hi:QI X target iter wi)(J:TGx X scope T target g)
 (U:∀C fp s₀ H₀,QF (X.comp scope T C fp s₀ H₀) kA tA) (j:∀C fp s₀ H₀,QE (X.comp scope T C fp s₀ H₀) kB te)
 (hs:∀x,foldedSetIterable iter X.env x=pure x:=by intro _;rfl):QE X (.ListComp kB [⟨target,iter,kA,0⟩] scope pos) (sN T.length wi g tA te):=by
 obtain⟨g2,l,o,p⟩:=J.ex;exact PE.imp (ar9 T S hc hi l o U j hs) (aka p)
theorem hV(T:List Str){px p:Pos}(hN:X.N.Nodup)(J:X.N[i]?=some x)(hx:Loc X.env.scope x)(S:jq X scope)(hc:X.calm=true)(hi:QI X target iter wi)
 (hg:TGx X scope T target g) (hf:∀C fp s₀ H₀,QF (X.comp scope T C fp s₀ H₀) kA tA) (he:∀C fp s₀ H₀,QE (X.comp scope T C fp s₀ H₀) kB te)
 (U:swapsWith (.ListComp kB [⟨target,iter,kA,0⟩] scope p) (some (.Name x px)) pos.line X.env=pure true:=by rfl)
 (j:X.fn x=true\/X.env.scope.names.lookup x=some .local:=by first|exact .inl rfl|exact .inr rfl|assumption)
 (hs:∀x,foldedSetIterable iter X.env x=pure x:=by intro _;rfl):QS X (.Assign [.Name x px] (.ListComp kB [⟨target,iter,kA,0⟩] scope p) pos) (zg (sN T.length wi g tA te) (qe i)):=by
 obtain⟨g2,h1,h2,h3⟩:=hg.ex;refine PS.imp (aev (tc:=upT X.g3 tA) (te:=qN X.g3 te) T hN J hx S hc hi h1 h2 hf he U j hs) λD σ H ⟨r,L,D3,t,rl,z,k⟩=>?_;refine aka h3 σ H _ ⟨r,L,_,t,rl,z,λv H1 y L1 I l o z1=>?_⟩;exact k.nx _ H1 _ L1 I (show vz _ _ _ (fh r i y) by rw[bG];exact(t.ts I).set o) l z1
def dn(G:G3)(sp:jn):Sp:=λvs H Q _=>∃ys L J,xp G H ys vs/\j7 G H L/\sp ys L J/\sV G H J Q
abbrev aly(P:Program)(w:World)(K:Ah)(mg:Str->Option Value)(base:Heap)(k:Nat)(x:Str)(ps:List Str)(sp:jn):Prop:=Cal P w K mg base k x ps (dn ⟨K,P,w⟩ sp)
abbrev Fn3(P:Program)(w:World)(K:Ah)(mg:Str->Option Value)(base:Heap)(k:Nat)(f:Addr)(fd:FuncData)(ps:List Str)(sp:jn):Prop:=bU P w K mg base CX0 k f fd ps (dn ⟨K,P,w⟩ sp)
theorem ata{k:Nat}{sp:jn}(c:aly X.prog X.w X.K X.mg X.base k x ps sp)(l:aI k X.A)(o:Gl X x)(r:QA X (e::es) tr)(J:Ed x:=by decide)
 (t:Eb e es X:=by rfl) (U:Ec pos es X:=by rfl):QE X (.Call (.Name x p) (e::es) [] pos) (qz sp tr):=
 DZ (av2 c l o r J t U) λσ H Q C L I T rl z k=>
 ⟨C,L,_,T,rl,z,λvs H1 ys L1 t1 g j z1=>⟨ys,L1,I,by rw[AS];exact j,g,z1,k.ts t1⟩⟩
def dt(Q:YK):YK:=λy L=>∃L2,qf L2 L/\Q y L2
def eE(N:List Str)(ys:List Y):x8:=ys.map some++List.replicate (N.length-ys.length) none
theorem i6{N:List Str}{vs:List V}(r:xp G H ys vs):vz G H (L2.start N vs) (eE N ys):=by unfold L2.start eE;rw[<-r.length];refine vz.more ⟨by simp[r.length],λi y e=>?_⟩ _;rw[An] at e;obtain⟨j,J,U⟩:=Ao.mp e;cases U;obtain⟨x,ex,g⟩:=r.get J;exact⟨x,by rw[An,ex];rfl,g⟩
theorem ok3{P:Program}{w:World}{K:Ah}{N:List Str}{k:Nat}{sp:jn}(F:Fun K x eK st f fd)(S:aS N ps (z0 st))(len:∀ys L Q,sp ys L Q->ys.length=ps.length)
 (J:∀(fx:Value) (A:Around) (outer:List Env) (s:Shared) (H:Hp) (E:XK),aI k (A.deeper (PyProof.Rows.envOfC eK (z0 st) s.heap.objs.size f fx))->
  ∃t,sQ (dF CX0 P w K mg base N eK (z0 st) f fx A outer s H E).nox (jp st) t/\∀ys L Q,sp ys L Q->t { nx:=λ_ L'=>dt Q .non L',rt:=dt Q } (eE N ys) L):Fn3 P w K mg base (k+1) f fd ps sp:=by
 refine F.ok S (λI H Q E ⟨ys,L,g,j,rl,z,_⟩=>by rw[<-j.length];exact len ys L g z) λfx A outer s H I Q E T ⟨ys,L,g,j,rl,z,k⟩=>?_;obtain⟨t,ht,q⟩:=J fx A outer s H E T;refine⟨_,ht,eE N ys,L,_,i6 j,rl,q ys L g z,?_⟩;refine⟨λσ l τ L' o a0 U ⟨L2,p,r⟩=>k .non l .non L2 o (U.sub p) (by rfl) r,λv l y L' o U C ⟨L2,p,r⟩=>k v l y L2 o (U.sub p) C r,λ_ _ _ _ _ _ _ z=>z.elim,λ_ _ _ _ _ _ _ z=>z.elim⟩
def upM(G:G3)(r:Y->List Y->qu->YK->Prop):V->List V->Hp->VK->Prop:=λx xs H Q=>∃y ys L J,RV G H y x/\xp G H ys xs/\j7 G H L/\r y ys L J/\sV G H J Q
theorem gh.imq{id:String}{r:V->List V->Hp->VK->Prop}{u:Y->List Y->qu->YK->Prop}(h:gh X id r)(q:∀x xs H Q y ys L J,RV G H y x->xp G H ys xs->j7 G H L->u y ys L J->sV G H J Q->r x xs H Q):gh X id (upM G u):=gh.imp h λx xs H Q ⟨y,ys,L,J,a,b,c,d,e⟩=>q x xs H Q y ys L J a b c d e
theorem ag8:gh X "list.append" (upM X.g3 jc):=gh.imq aap λx p H Q y t L C U g rl z k=>by
 unfold jc at z;split at z
 ·rename_i a v;obtain⟨I,e,z⟩:=v4 z;obtain⟨j,J,r⟩:=rl a _ e;obtain⟨l,rfl,o⟩:=g.inv1;exact⟨a,j,l,U,rfl,J,by rw[<-r.length];exact z.1,k _ _ _ _ (EK J) (rl.setL J (r.app (xp.one o))) (by rfl) z.2⟩
 ·exact z.elim
theorem aci:gh X "list.extend" (upM X.g3 ak):=gh.imq aa1 λx I H Q y T L Q3 g j rl z k=>by
 unfold ak at z;split at z
 ·rename_i a b;obtain⟨zs,e,z⟩:=v4 z;obtain⟨us,l,z⟩:=v4 z;obtain⟨o,J,r⟩:=rl a _ e;obtain⟨p,t,U⟩:=rl b _ l;obtain⟨v',rfl,C⟩:=j.inv1;cases C;exact⟨a,b,o,p,g,rfl,J,t,by rw[<-r.length,<-U.length];exact z.1,k _ _ _ _ (EK J) (rl.setL J (r.app U)) (by rfl) z.2⟩
 ·exact z.elim
theorem ar8:gh X "list.pop" (upM X.g3 uh):=gh.imq an4 λx l H Q y I L T o p rl z k=>by
 unfold uh at z;split at z
 ·rename_i a;obtain⟨g,e,z⟩:=v4 z;obtain⟨t,J,r⟩:=rl a _ e;cases (show l=[] from p);cases U:g[g.length-1]? with
  |none=>rw[U] at z;exact z.elim
  |some v=>
   rw[U] at z;obtain⟨u,j,C⟩:=r.get U;rw[r.length] at j;exact⟨a,t,u,o,rfl,J,j,k _ _ _ _ (EK J) (rl.setL J r.dropLast) (C.ts (EK J)) z⟩
 ·exact z.elim
theorem yd(rl:j7 G H L)(h:cL L (.ref a)=some ys):tyV G.K "list" (.ref a) H:=by obtain⟨J,sq,_⟩:=cM rl h;exact .inl ⟨rfl,J,sq⟩
def aj(r:Y->List Y->qu->YK->Prop)(to:vd)(t:eY)(τ:x8)(L:qu)(Q:YK):Prop:=to τ L λx L1=>match x with
 |.ref a=>fe L1 (.ref a) λ_=>t τ L1 λxs L2=>r (.ref a) xs L2 Q
 |_=>False
theorem r9{id:String}{r:Y->List Y->qu->YK->Prop}(h2:Slot "list" name id)(h3:typeOf (.builtin id)=pure (.type "method_descriptor"))(hm:gh X id (upM X.g3 r))(ho:QE X o to)(ha:QA X (e::es) tr)
 (h4:attributeBase o name X.env (eval o X.env)=eval o X.env:=by rfl)
 (h5:((backTo fm (starEach (e::es) X.env)).all (λx=>!x.1)&&(backToKw fm (keywordEach [] X.env)).all (λx=>x.1.isSome)&&decide ((e::es).length+([]:List Keyword).length+(if ([]:List Keyword).isEmpty=true then 0 else 1)<30))=true:=by rfl)
 (h6:(apos.endLine==fm.line)=true:=by rfl) (h7:Eb e es X:=by rfl) (h8:Ec fm es X:=by rfl):
 QE X (.Call (.Attribute o name apos) (e::es) [] fm) (aj r to tr):=DZ (akm Dz h2 h3 hm ho ha h4 h5 h6 h7 h8) λσ H Q p L Q3 t rl z k=>
 ⟨p,L,_,t,rl,z,λv H1 y L1 C J U g=>by
  split at g
  ·rename_i a;obtain⟨I,es,g⟩:=wg g;exact⟨by cases U;exact yd J es,p,L1,_,t.ts C,J,g,λvs H2 I L2 T j l z2=>⟨.ref a,I,L2,Q3,U.ts T,l,j,z2,k.ts (C.trans T)⟩⟩
  ·exact g.elim⟩
theorem acg{id:String}{r:Y->List Y->qu->YK->Prop}(h2:Slot "list" name id)(j:typeOf (.builtin id)=pure (.type "method_descriptor"))(l:gh X id (upM X.g3 r))(p:QE X o to)
 (t:attributeBase o name X.env (eval o X.env)=eval o X.env:=by rfl) (C:(apos.endLine==fm.line)=true:=by rfl):
 QE X (.Call (.Attribute o name apos) [] [] fm) (aj r to zb):=DZ (am3 Dz h2 j l p t C) λσ H Q I L T rs rl z k=>
 ⟨I,L,_,rs,rl,z,λv H1 y L1 t1 J U g=>by
  split at g
  ·rename_i a;obtain⟨ys,es,g⟩:=wg g;exact⟨by cases U;exact yd J es,.ref a,[],L1,T,U,rfl,J,g,k.ts t1⟩
  ·exact g.elim⟩
theorem zp(J:QE X o to)(U:QA X (e::es) tr)(g:attributeBase o "append" X.env (eval o X.env)=eval o X.env:=by rfl)
 (j:((backTo fm (starEach (e::es) X.env)).all (λx=>!x.1)&&(backToKw fm (keywordEach [] X.env)).all (λx=>x.1.isSome)&&decide ((e::es).length+([]:List Keyword).length+(if ([]:List Keyword).isEmpty=true then 0 else 1)<30))=true:=by rfl)
 (l:(apos.endLine==fm.line)=true:=by rfl) (p:Eb e es X:=by rfl) (r:Ec fm es X:=by rfl):
 QE X (.Call (.Attribute o "append" apos) (e::es) [] fm) (aj jc to tr):=r9 PySem.F.slot_list_append PySem.F.type_list_append ag8 J U g j l p r
theorem ac(J:QE X o to)(U:QA X (e::es) tr)(g:attributeBase o "extend" X.env (eval o X.env)=eval o X.env:=by rfl)
 (j:((backTo fm (starEach (e::es) X.env)).all (λx=>!x.1)&&(backToKw fm (keywordEach [] X.env)).all (λx=>x.1.isSome)&&decide ((e::es).length+([]:List Keyword).length+(if ([]:List Keyword).isEmpty=true then 0 else 1)<30))=true:=by rfl)
 (l:(apos.endLine==fm.line)=true:=by rfl) (p:Eb e es X:=by rfl) (r:Ec fm es X:=by rfl):
 QE X (.Call (.Attribute o "extend" apos) (e::es) [] fm) (aj ak to tr):=r9 PySem.F.slot_list_extend PySem.F.type_list_extend aci J U g j l p r
theorem rV(J:QE X o to)(U:attributeBase o "pop" X.env (eval o X.env)=eval o X.env:=by rfl)(g:(apos.endLine==fm.line)=true:=by rfl):
 QE X (.Call (.Attribute o "pop" apos) [] [] fm) (aj uh to zb):=acg PySem.F.slot_list_pop PySem.F.type_list_pop ar8 J U g
end
abbrev gY:o8:=yI0 λi j=>.int (i-j)
abbrev o9:o8:=yI ada λi j=>.int (i*j)
abbrev az:o8:=yI amw λi j=>.int (i / j)
abbrev w5:o8:=yI (λ_ j=>0<j) λi j=>.int (i % j)
abbrev aub:o8:=yI am7 λi j=>.int (i ^ j.toNat)
abbrev yLt:o8:=yI0 λi j=>.bl (decide (i<j))
abbrev yLe:o8:=yI0 λi j=>.bl (decide (i<=j))
abbrev yGt:o8:=yI0 λi j=>.bl (decide (j<i))
abbrev yGe:o8:=yI0 λi j=>.bl (decide (j<=i))
structure aqo(G:G3)(mg:Str->Option Value)(x:Str)(y:Y):Prop where
 ex:∃c,mg x=some (.ref c)/\∀H,RV G H y (.ref c)
theorem alp(t:aqo X.g3 X.mg x y)(J:Gl X x)(hd:Ed x:=by decide):QE X (.Name x pos) (yC y):=by obtain⟨c,U,q⟩:=t.ex;exact aqu J U q hd
def al1(kvs:List (Str×Str)):LO:=.dct (kvs.map λp=>(Sum.inr p.1,Y.str p.2))
def akx(kvs:List (Str×Str))(_:x8)(L:qu)(Q:YK):Prop:=∀p,L p=none->Q (.ref p) (qh L p (al1 kvs))
def kvV(kvs:List (Str×Str)):List (jm×V):=kvs.map λp=>(Sum.inr p.1,V.str p.2)
theorem u8{σ:L2.St}{H:Hp}{Q:List (V×V)->Hp->Prop}:∀{kvs:List (Str×Str)},Q (kvs.map λp=>(V.str p.1,V.str p.2)) H->qP (kvs.map λp=>(tC (.str p.1),tC (.str p.2))) σ H Q
 |[],h=>h
 |_::r,h=>u8 (kvs:=r) h
theorem yG{G:G3}{H:Hp}:∀kvs:List (Str×Str),Paired (λ(p:jm×Y) (q:jm×V)=>p.1=q.1/\RV G H p.2 q.2) (kvs.map λp=>(Sum.inr p.1,Y.str p.2)) (kvV kvs)
 |[]=>.nil
 |_::r=>.cons ⟨rfl,rfl⟩ (yG r)
theorem ak5{keys:List (Option Expr)}{values:List Expr}(kvs:List (Str×Str))(h:PPs X pos keys values (kvs.map λp=>(tC (.str p.1),tC (.str p.2))))(h1:(keys.all λx=>x.isSome)=true)(h2:keys.length=values.length)(U:keys≠[])(g:keys.length<=15)
 (j:kvs.length<=15:=by decide) (nd:i8 [] (kvV kvs)=kvV kvs:=by decide +kernel):QE X (.Dict keys values pos) (akx kvs):=DZ (aie h h1 h2 U g) λl H Q o L r t rl z k=>by
 intro p J;refine u8 ⟨zv,kvV kvs,by simp[kvV,kV],by simpa[kvV] using j,?_⟩;rw[nd,xX];refine k _ _ _ (qh L p (al1 kvs)) (DY J) ?_ (by rfl) (z p (rl.none J));intro a u e;by_cases c:a=p
 ·subst c;rw[q8] at e;cases e;exact⟨kvV kvs,zv,yG kvs⟩
 ·rw[qb c] at e;exact(rl a u e).keep (DY J) (qx c)
theorem lT{Q:α->qu->Prop}{o:Option α}(h:yU L Q o):∃v,o=some v/\Q v L:=by cases o with|none=>exact h.elim|some v=>exact⟨v,rfl,h⟩
theorem jT{kvs:List (Str×Str)}{k:Str}(h:kvs.lookup k=some x):wn (kvs.map λp=>((Sum.inr p.1:jm),Y.str p.2)) (Sum.inr k)=some (Y.str x):=by
 induction kvs with
 |nil=>simp at h
 |cons p r J=>
  obtain⟨a,b⟩:=p;unfold wn;rw[AE,Bm];rw[Bp] at h;by_cases c:k=a
  ·subst c;simp at h;simp[h]
  ·have c1:(k==a)=false:=by simpa using c
   rw[c1] at h;have c2:decide ((Sum.inr a:jm)=Sum.inr k)=false:=Ay λz=>c (Ei z).symm;simp only[c2];exact J h
theorem yP(h:(bA lo n)[i]?=some y):i<n/\y=.int (lo+i):=by
 unfold bA at h;rw[An] at h;obtain⟨z,J,e⟩:=Ao.mp h;have U:i<n:=by
  by_cases c:i<n
  ·exact c
  ·rw[BY (by simp;exact agj)] at J;cases J
 rw[Cj U] at J;cases J;exact⟨U,e.symm⟩
theorem oU(lo:Int)(n:Nat):(bA lo n).length=n:=by simp[bA]
theorem ajx{tb:ku}(W:Nat->x8->qu->Prop)(U:W 0 τ L)
 (hs:∀i τ L,i<n->W i τ L->g (.int (lo+i)) τ L λJ L2=>tb { D with nx:=gi (W (i+1)),ct:=gi (W (i+1)),bk:=D.nx } J L2) (hd:∀τ L,W n τ L->D.nx τ L):xP (bA lo n) (λ_=>True) g tb D τ L:=by
 refine vj ⟨W,U,λ_ _ _ _=>trivial,λi y τ L e w=>?_,λτ L w=>hd τ L (by rw[oU] at w;exact w)⟩;obtain⟨j,rfl⟩:=yP e;exact hs i τ L j w
theorem rQ{v:Y}{Q:YK}(e:L a=some (.lst (ys++[v])))(q:Q v (qh L a (.lst ys))):fe L (.ref a) (λ_=>zb τ L λxs L2=>uh (.ref a) xs L2 Q):=by
 refine qc e (qr e ?_);have:(ys++[v])[(ys++[v]).length-1]?=some v:=by simp
 rw[this,List.dropLast_concat];exact q
theorem aij{tb:ku}(h:cL L (.ref a)=some ys)(W:Nat->x8->qu->Prop)(U:W 0 τ L)(j:∀i τ L',W i τ L'->L' a=L a)
 (hs:∀i y τ L,ys[i]?=some y->W i τ L->g y τ L λJ L2=>tb { D with nx:=gi (W (i+1)),ct:=gi (W (i+1)),bk:=D.nx } J L2) (hd:∀τ L,W ys.length τ L->D.nx τ L):
 qW L a λys keep L1=>xP ys keep g tb D τ L1:=jx (pQ h) λkeep l=>vj ⟨W,U,λi τ L' w=>l L' (j i τ L' w),hs,hd⟩
theorem cw{keep:qu->Prop}{tc:lE}{Q:YK}(I:Nat->List Y->Prop)(hz:ys.length<sizeLine)(j:keep L)(l:I 0 [])
 (turn:∀(i:Nat) y zs,ys[i]?=some y->I i zs->g y (τ++List.replicate n none) L λJ L2=>tc J L2 λb L3=>wq b (te J L3 λz o=>gi (λzs L'=>L'=L/\I (i+1) zs) (zs++[z]) o) (gi (λzs L'=>L'=L/\I (i+1) zs) zs L3))
 (r:∀zs,I ys.length zs->∀p,L p=none->Q (.ref p) (qh L p (.lst zs))):lcK ys keep n g tc te τ L Q:=by
 refine rC ⟨hz,λi zs L'=>L'=L/\I i zs,⟨rfl,l⟩,?_,?_,?_⟩
 ·rintro i zs L' ⟨rfl,_⟩;exact j
 ·rintro i y zs L' t ⟨rfl,U⟩;exact turn i y zs t U
 ·rintro zs L' ⟨rfl,U⟩ p C;exact r zs U p C
theorem aft{tc:lE}{Q:YK}(I:Nat->List Y->Prop)(hz:m<sizeLine)(j:I 0 [])
 (turn:∀(i:Nat) zs,i<m->I i zs->g (.int (lo+i)) (τ++List.replicate n none) L λJ L2=>tc J L2 λb L3=>wq b (te J L3 λz l=>gi (λzs L'=>L'=L/\I (i+1) zs) (zs++[z]) l) (gi (λzs L'=>L'=L/\I (i+1) zs) zs L3))
 (o:∀zs,I m zs->∀p,L p=none->Q (.ref p) (qh L p (.lst zs))):lcK (bA lo m) (λ_=>True) n g tc te τ L Q:=by
 refine cw (keep:=λ_=>True) I (by rw[oU];exact hz) trivial j (λi y zs e U=>?_) λzs U=>o zs (by rw[oU] at U;exact U);obtain⟨r,rfl⟩:=yP e;exact turn i zs r U
theorem ail(ys:List Y)(n:Nat):gb ys none (some ((n:Nat):Int))=ys.take n:=by
 unfold gb;rw[HT.sIx_nat,HT.sIx_none,CQ,CS];by_cases h:n<=ys.length
 ·rw[B5 h]
 ·rw[DA (by lia),A5 (Al _),A5 (by lia)]
theorem jy{J:List α}{f:α->Y}{w:α}(h:J[i]?=some w):iL (J.map f) (i:Int)=some (f w):=xq (by rw[An,h];rfl)
def xl(t:ku)(n:Nat)(ys:List Y)(L:qu)(Q:YK):Prop:=t { nx:=λ_ L'=>dt Q .non L',rt:=dt Q } (ys.map some++List.replicate (n-ys.length) none) L
theorem xi{Q:YK}(h:Q y L):dt Q y L:=⟨L,DW L,h⟩
theorem wr{Q:YK}(s:qf L L')(h:Q y L):dt Q y L':=⟨L,s,h⟩
theorem Fn3.never{P:Program}{w:World}{K:Ah}{k:Nat}{sp:jn}(no:∀ys L Q,¬sp ys L Q):Fn3 P w K mg base k f fd ps sp:=
 bU.never λU H Q E ⟨ys,L,J,_,_,z,_⟩=>no ys L J z
theorem qf.upd{o:LO}(s:qf L L')(h:L a=none):qf L (qh L' a o):=λb u e=>by rw[qb (k7 e h)];exact s b u e
theorem qf.put{o:LO}(s:qf L L')(h:L' a=some o):qf (qh L a o) L':=λb u e=>by
 by_cases c:b=a
 ·subst c;rw[q8] at e;cases e;exact h
 ·rw[qb c] at e;exact s b u e
abbrev EW:=@qf.put
theorem tY{G:G3}{H:Hp}:∀J:List Int,xp G H (J.map Y.int) (J.map V.int)
 |[]=>rfl
 |_::r=>⟨_,_,rfl,rfl,tY r⟩
end L3
namespace L2
open PySem PySem.Spec PyProof.Rows
section
variable {σ:L2.St}
theorem lw(I:zd X pins σ H s)(U:∀b∈fp,H b=none)(k:∀b o,b∉fp->s.heap.get? b=some o->h'.get? b=some o):dw X.prog X.w H h':=λb u e=>by
 refine(I.hok b u e).stay (λc v g q=>k c v (λz=>?_) q) (λ_ q=>q) λ_ _ q=>q;have J:=U c z;rcases g with w|w
 ·rw[w,e] at J;cases J
 ·rw[w] at J;cases J
theorem yx{fs:List Addr}(k:∀b o,b∉fp->h.get? b=some o->h'.get? b=some o):Un fs fp H H h h':=
 ⟨λb o q _ _ x=>k b o x q,λb o q _ _ x=>⟨o.slots,k b o x q⟩,λ_ _ _ n _=>n,λb o q x=>⟨o,k b o x q⟩,λ_ _ q=>q,λ_ _ _ q=>q,λb J q=>⟨#[],by rw[q];simp⟩⟩
theorem zd.turnedL(I:zd X pins σ H s)(k:∀b o,b∉fp->s.heap.get? b=some o->h'.get? b=some o)(U:∀b∈fp,lJ X pins H b)(g:0<t':=by walk_at "t"):zd X pins σ H { s with heap:=h',toks:=t' }:=
 I.call' (s':={ s with heap:=h',toks:=t' }) (ch:=fp) rfl (yx k) (lw I (λb J=>(U b J).1) k) I.bare λb J=>⟨(U b J).2.2.2.1,(U b J).2.1,(U b J).2.2.2.2.1,(U b J).2.2.2.2.2⟩
theorem zd.turnedN{o:HO}(I:zd X pins σ H s)(k:∀b o,b∉fp->s.heap.get? b=some o->h'.get? b=some o)(U:∀b∈fp,lJ X pins H b)(j:s.heap.objs.size<=a)
 (new:v5 X.prog X.w (upd H a o) h' a o) (p:0<t':=by walk_at "t"):zd X pins σ (upd H a o) { s with heap:=h',toks:=t' }:=by
 have g:H a=none:=I.hok.fresh j;have lt:∀b ob,s.heap.get? b=some ob->b≠a:=λb ob q=>A2 (AO (sx q) j);refine I.call' (s':={ s with heap:=h',toks:=t' }) (ch:=fp) rfl ?_ ?_ I.bare λb J=>⟨(U b J).2.2.2.1,(U b J).2.1,(U b J).2.2.2.2.1,(U b J).2.2.2.2.2⟩
 ·exact⟨λb ob q _ _ x=>k b ob x q,λb ob q _ _ x=>⟨ob.slots,k b ob x q⟩,λb ob q n _=>by rw[qx (lt b ob q)];exact n,λb ob q x=>⟨ob,k b ob x q⟩,
   λb l q=>by rw[qx (zy q g)];exact q,λb ob u q=>by rw[qx (zy q g)];exact q,λb r q=>⟨#[],by rw[qx (zy q g),q];simp⟩⟩
 ·intro b u e;by_cases J:b=a
  ·subst J;rw[zv] at e;cases e;exact new
  ·rw[qx J] at e;have ok:=lw I (h':=h') (λb J=>(U b J).1) k b u e;exact ok.stay (λ_ _ _ q=>q) (λc q=>by rw[qx (zy q g)];exact q) λc l q=>by rw[qx (zy q g)];exact q
end
def Ite(K:Ah)(a:Addr):It:=
 ⟨λi H=>∃xs x,aQ K H a xs/\xs[i]?=some x,λi H v H'=>∃p x,H p=none/\v=.ref p/\H'=upd H p (.tup [.int i,x])/\∀xs,aQ K H a xs->xs[i]?=some x,λi H=>∃xs,aQ K H a xs/\xs.length<=i⟩
theorem zV{P:Program}{w:World}{K:Ah}(a e it:Addr)(l:e≠it):xR P w K (.Tuple mD x1 tp) (Ite K a) [e,it] e (λi h=>(∃old,IsEnum h e it i old)/\h.IsListIter it a i) where
 mem:=by simp
 obj:=λi h ⟨⟨old,J⟩,U⟩ b g=>by
  rcases Am.mp g with rfl|g
  ·exact⟨_,J,λv z=>by cases z⟩
  ·cases Aj.mp g;obtain⟨o,T,hc,hd⟩:=U;exact⟨o,T,λv z=>by rw[hd] at z;cases z⟩
 keep:=λi h h' ⟨⟨old,J⟩,U⟩ k=>⟨⟨old,k e (by simp) _ J⟩,U.at λo q=>k it (by simp) o q⟩
 item:=by
  intro X hP hw hK hc i r s σ H E I t ⟨⟨old,J⟩,U⟩ hg;subst hP hw hK;obtain⟨xs,x,C,hx⟩:=hg;obtain⟨a0,rv,p,hz⟩:=I.list C;obtain⟨u,hu,ru⟩:=rv.get hx;refine wpAny_pyNext_enum_item J U p.isList (x:=u) (by simpa using hu) l λh1 a1 a2 ht a5 hk=>⟨.ref s.heap.objs.size,rfl,wpAny_letOwnedTupleGo_enum a1 λh2 a3 j=>?_⟩;have el:e<s.heap.objs.size:=sx J;have il:it<s.heap.objs.size:=by obtain⟨o,T,_⟩:=U;exact sx T
  have kk:∀b o,b∉[e,it]->s.heap.get? b=some o->h2.get? b=some o:=λb o nb q=>by have n1:b≠e:=λz=>nb (by simp[z]);have n2:b≠it:=λz=>nb (by simp[z]);exact j.extBut b o n1 (hk b o n1 n2 q)
  have tg:h2.get? s.heap.objs.size=some { cls:=.type "tuple",data:=.seq #[.int i s.toks,u] }:=j.extBut _ _ (Cz el) ht;refine⟨.ref s.heap.objs.size,upd H s.heap.objs.size (.tup [.int i,x]),?_,rfl,⟨_,x,I.hok.fresh (Al _),rfl,rfl,λys hy=>by rw[I.list_inj hy C];exact hx⟩,⟨⟨_,a3⟩,a2.at λo q=>j.extBut _ _ (AI l) q⟩,λb g=>?_⟩
  ·exact I.turnedN (t':=s.toks+1) kk t (Al _) ⟨by show 2<=sizeLine;decide,[.int i s.toks,u],.cons ⟨_,rfl⟩ (.cons ru .nil),⟨_,tg,rfl,_,rfl⟩⟩
  ·have a4:b<s.heap.objs.size:=by rcases Am.mp g with rfl|g;exact el;cases Aj.mp g;exact il
   rw[qx (A2 a4)];exact(t b g).1
 done:=by intro X hP hw hK hc i r s σ H E I t ⟨⟨old,J⟩,U⟩ hg;subst hP hw hK;obtain⟨xs,C,hx⟩:=hg;obtain⟨a0,rv,p,hz⟩:=I.list C;have hl:=rv.length;exact wpAny_pyNext_enum_end (I.ok.hd hc) J U p.isList (by simp;omega) λh1 eb=>⟨rfl,I.turnedL (t':=s.toks) (fp:=[e,it]) (λb o nb q=>eb b o (λz=>nb (by simp[z])) q) t⟩
 self:=λ_ _ _ _ _ ⟨⟨_,J⟩,_⟩ h=>wpAny_pyIter_enum J h
def aow(K:Ah)(ta:TA):TI:=λσ H R=>ta σ H λvs H1=>∃a,vs=[.ref a]/\(∃xs,aQ K H1 a xs)/\R (Ite K a) H1
theorem rA:bootBuiltins "enumerate"=some (.type "enumerate"):=by decide +kernel
theorem ajp{a:Expr}{ta:TA}(hg:Gl X "enumerate")(hm:X.mg "enumerate"=none)(ha:PA X [a] ta)(hs:starEach [a] X.env=[(false,eval a X.env)]:=by rfl):
 PI X (.Tuple mD x1 tp) (.Call (.Name "enumerate" p) [a] [] pos) (aow X.K ta):=by
 intro J s r H R I h;refine Call_ (bw I hg hm rA (BE (aV (ha pos J s r H _ I h) λus U ⟨vs,t,j,r1,q1⟩=>?_) hs rfl));obtain⟨l,e,⟨xs,hq⟩,q⟩:=q1;subst e;obtain⟨u,rfl,ru⟩:=m4 r1;cases ru;obtain⟨a0,rv,pl,hz⟩:=j.list hq;refine call_enumerate_list pl.isList λC T hi a1 hk=>?_;have I2:zd X J r t { U with heap:=C }:=j.kept (t':=U.toks) hk;refine wpAny_pyIter_enum (s:={ U with heap:=C }) T ?_;refine⟨U.heap.objs.size+1,[U.heap.objs.size+1,U.heap.objs.size],_,_,t,rfl,I2,zV l _ _ (Nat.succ_ne_self _),⟨⟨_,T⟩,hi⟩,λb o=>?_,q⟩;have g:U.heap.objs.size<=b:=by rcases Am.mp o with rfl|o;exact BV _;cases Aj.mp o;exact Al _
 exact j.fpOk g (j.hok.fresh g)
end L2
namespace L3
open PySem L2
theorem kJ{keep:qu->Prop}(h:∀H L,jh H₀ H->j7 G H L->keep L->∃xs,aQ G.K H a xs/\xp G H ys xs):eL G H₀ (Ite G.K a) (ys.zipIdx.map λp=>Y.tup [.int (p.2:Nat),p.1]) keep where
 go:=λi H L t rl J o=>by
  obtain⟨xs,sq,r⟩:=h H L t rl J;have:i<xs.length:=by rw[<-r.length];simpa using o
  exact⟨xs,xs[i],sq,Ag this⟩
 yld:=λi H L x H' y t rl J l ⟨p,z,U,C,I,f⟩=>by subst C I;obtain⟨xs,sq,r⟩:=h H L t rl J;rw[An,C2] at l;obtain⟨⟨y',j⟩,T,e3⟩:=Ao.mp l;obtain⟨a0,g,e4⟩:=Ao.mp T;cases e4;subst e3;obtain⟨x',e',rv⟩:=r.get g;have:=f xs sq;rw[e'] at this;cases this;refine⟨DY U,rl.skip U,p,_,rfl,cg.of zv,⟨_,_,rfl,?_,_,_,rfl,rv.ts (DY U),rfl⟩⟩;show V.int _=V.int _;congr 1;simp
 stop:=λH L t rl J=>by obtain⟨xs,sq,r⟩:=h H L t rl J;exact⟨xs,sq,by rw[Ab,List.length_zipIdx,r.length];exact Al _⟩
def pF(ys:List Y):List Y:=ys.zipIdx.map λp=>Y.tup [.int (p.2:Nat),p.1]
theorem cD(h:(pF ys)[i]?=some y):∃z,ys[i]?=some z/\y=.tup [.int i,z]:=by unfold pF at h;rw[An,C2] at h;obtain⟨⟨U,j⟩,g,l⟩:=Ao.mp h;obtain⟨o,J,p⟩:=Ao.mp g;cases p;exact⟨U,J,by rw[<-l];simp⟩
theorem cJ(ys:List Y):(pF ys).length=ys.length:=by simp[pF]
def eW(tl:vd)(τ:x8)(L:qu)(R:List Y->(qu->Prop)->qu->Prop):Prop:=tl τ L λx L1=>match x with
 |.ref a=>qW L1 a λys keep L=>R (pF ys) keep L
 |.sq ys=>R (pF ys) (λ_=>True) L1
 |_=>False
theorem fY{a:Expr}(hg:Gl X "enumerate")(hm:X.mg "enumerate"=none)(ha:QE X a te)(hs:starEach [a] X.env=[(false,eval a X.env)]:=by rfl)
 (l:starEach [a] X.env=(false,eval a X.env)::starEach [] X.env:=by rfl):QI X (.Tuple mD x1 tp) (.Call (.Name "enumerate" p) [a] [] pos) (eW te):=PI.imq (ajp hg hm (dG ha iq l) hs) λσ H R τ L R3 rs rl z k=>by
 refine⟨τ,L,_,rs,rl,z,λv j y o I J g C=>?_⟩;cases y with
 |ref a=>
  obtain⟨T,keep,es,kp,hk,z2⟩:=mn C;have hy:∀H L,jh j H->j7 X.g3 H L->keep L->∃U,aQ X.K H a U/\xp X.g3 H T U:=λH L _ rl e=>cM rl (hk L e);obtain⟨U,sq,_⟩:=hy j o (DX _) J kp;cases g;exact⟨a,rfl,⟨U,sq⟩,k _ j _ _ o I J (kJ hy) z2⟩
 |sq T=>
  obtain⟨a,U,e,sf,r⟩:=g;subst e;exact⟨a,rfl,⟨U,sf.sq⟩,k _ j _ (λ_=>True) o I J (kJ λH L t _ _=>⟨U,(sf.ts t).sq,r.ts t⟩) C⟩
 |_=>exact C.elim
end L3
namespace L2
open PySem PySem.Spec PyProof.Rows
def df(t:Bool)(h:Heap)(it l:Addr)(k:Nat):Prop:=match t with
 |false=>h.IsListIter it l k
 |true=>h.IsTupleIter it l k
def iX(t:Bool)(h:Heap)(l:Addr)(xs:Array Value):Prop:=match t with
 |false=>h.IsList l xs
 |true=>h.IsTuple l xs
theorem df.on{k:Nat}(x:df t h it l k)(e:∀o,h.get? it=some o->h'.get? it=some o):df t h' it l k:=by cases t with|false=>exact Heap.IsListIter.at x e|true=>exact Heap.IsTupleIter.at x e
theorem iX.on{xs:Array Value}(x:iX t h l xs)(e:∀o,h.get? l=some o->h'.get? l=some o):iX t h' l xs:=by cases t with|false=>exact Heap.IsList.at x e|true=>exact Heap.IsTuple.at x e
theorem df.ob{k:Nat}(x:df t h it l k):∃o,h.get? it=some o/\∀v,o.data≠.cell v:=by
 cases t with
 |false=>obtain⟨o,e,c,d⟩:=x;exact⟨o,e,λv z=>by rw[d] at z;cases z⟩
 |true=>obtain⟨o,e,c,d⟩:=x;exact⟨o,e,λv z=>by rw[d] at z;cases z⟩
theorem xY(l:Addr):¬((Value.ref l==Value.none)=true):=AC
section
variable {w:World}
theorem xG{xs:Array Value}{x:Value}(hi:s.heap.IsTupleIter it l i)(g:s.heap.IsTuple l xs)(j:xs[i]?=some x)
 (q:∀h',h'.IsTupleIter it l (i+1)->Heap.SameBut it s.heap h'->Q x { s with heap:=h' }):wpAny (model prog w) A (Builtin.SmallTypes.nextOf (.ref it)) Q E s:=by
 obtain⟨o,U,ci,J⟩:=id hi;obtain⟨u,ul,_,n,dl⟩:=g;unfold Builtin.SmallTypes.nextOf;refine Aa (wpAny_callSpecial?_slot (name:="__next__") hi.typeIs ya (wpAny_call_entry ya hi.typeIs F.entry_tuple_iterator_next ?_ (F.args_tuple_iterator_next_1 _)));refine Aa (m:=field (.ref it) 0) (AX U J (x:=.ref l) rfl ?_);rw[AG (xY l)];refine Aa (m:=field (.ref it) 1) (AX U J (x:=.int i 0) rfl (Aa (m:=seqItems? (.ref l)) (Bg ul dl ?_)));simp only[AR,j];refine Aa (wpAny_setField U J (by simp) (Ai ⟨x,rfl,Ai (q _ ⟨_,xT _ U (Obj.isFreed_of_fields (Obj.data_mapFields J _)),(Obj.cls_mapFields ..).trans ci,?_⟩ (vc ..))⟩));rw[Obj.data_mapFields J];simp[rawInt]
theorem aa5{xs:Array Value}(g:A.handled=none)(hi:s.heap.IsTupleIter it l i)(j:s.heap.IsTuple l xs)(p:xs[i]?=none)
 (q:∀h' e,Heap.ExtBut it s.heap h'->(∃o,h'.get? e=some o/\o.cls=.type "StopIteration")->E (.ref e) { s with heap:=h' }):wpAny (model prog w) A (Builtin.SmallTypes.nextOf (.ref it)) Q E s:=by
 obtain⟨o,J,ci,U⟩:=id hi;obtain⟨u,ul,_,n,dl⟩:=j;unfold Builtin.SmallTypes.nextOf;refine Aa (wpAny_callSpecial?_slot (name:="__next__") hi.typeIs ya (wpAny_call_entry ya hi.typeIs F.entry_tuple_iterator_next ?_ (F.args_tuple_iterator_next_1 _)));refine Aa (m:=field (.ref it) 0) (AX J U (x:=.ref l) rfl ?_);rw[AG (xY l)];refine Aa (m:=field (.ref it) 1) (AX J U (x:=.int i 0) rfl (Aa (m:=seqItems? (.ref l)) (Bg ul dl ?_)));simp only[AR,p];refine Aa (BK (Aa (wpAny_setField J U (by simp) ?_)));refine Aa (m:=newExc (.type "StopIteration") []) ?_;simp only[newExc,newTuple];refine Aa (Bo (Aa (m:=firstArgMember _ _) (wpAny_of_eq (a:=Value.none) (by first|rfl|(simp only[firstArgMember];rfl)) (Bo ?_ (by size_fits)))) (by size_fits));simp only[raiseNew];refine Aa (wpAny_handled ?_)
 first|rw[show A.in1.handled=none from g]|rw[g]
 exact Aa (Ai (wpAny_throw (q _ _ (((vc ..).extBut.push _).push _) ⟨_,sy _ rfl,rfl⟩)))
theorem df.next{xs:Array Value}{x:Value}(hi:df t s.heap it l i)(J:iX t s.heap l xs)(U:xs[i]?=some x)
 (q:∀h',df t h' it l (i+1)->Heap.SameBut it s.heap h'->Q x { s with heap:=h' }):wpAny (model prog w) A (Builtin.SmallTypes.nextOf (.ref it)) Q E s:=by
 cases t with|false=>exact wpAny_nextOf_list_item hi J U q|true=>exact xG hi J U q
theorem df.stop{xs:Array Value}(J:A.handled=none)(hi:df t s.heap it l i)(U:iX t s.heap l xs)(g:xs[i]?=none)
 (q:∀h' e,Heap.ExtBut it s.heap h'->(∃o,h'.get? e=some o/\o.cls=.type "StopIteration")->E (.ref e) { s with heap:=h' }):wpAny (model prog w) A (Builtin.SmallTypes.nextOf (.ref it)) Q E s:=by
 cases t with|false=>exact wpAny_nextOf_list_end J hi U g q|true=>exact aa5 J hi U g q
structure ZAp(z TI TO i1 i2 l1 l2:Addr):Prop where
 n1:TI≠z
 n2:TO≠z
 n3:i1≠z
 n4:i2≠z
 n5:TO≠i1
 n6:TO≠i2
 n7:i1≠i2
 n8:l1≠z
 n9:l1≠TO
 n10:l1≠i1
 n11:l1≠i2
 n12:l2≠z
 n13:l2≠TO
 n14:l2≠i1
 n15:l2≠i2
theorem afm{TI TO:Addr}{k:Nat}{xs ys:Array Value}{x y a b:Value}(D:ZAp z TI TO i1 i2 l1 l2)(hz:IsZip s.heap z TI TO .none)(hI:IsPair s.heap TI (.ref i1) (.ref i2))(hO:IsPair s.heap TO a b)
 (h1:df t1 s.heap i1 l1 k) (h2:df t2 s.heap i2 l2 k) (q1:iX t1 s.heap l1 xs) (q2:iX t2 s.heap l2 ys) (hx:xs[k]?=some x) (hy:ys[k]?=some y)
 (q:∀h',IsZip h' z TI TO (rawInt s.heap.objs.size)->IsPair h' TO x y->df t1 h' i1 l1 (k+1)->df t2 h' i2 l2 (k+1)->IsPair h' s.heap.objs.size x y->
  (∀c o,c≠z->c≠TO->c≠i1->c≠i2->s.heap.get? c=some o->h'.get? c=some o)->Q (.ref s.heap.objs.size) { s with heap:=h' }):
 wpAny (model prog w) A (Builtin.«zip.__next__» ⟨[.ref z],[]⟩) (λxi s'=>∃v,xi=.done (.ret v)/\Q v s') E s:=by
 refine Aa (m:=field (.ref z) 2) (AX hz rfl (x:=.bool false) rfl (Aa (m:=field (.ref z) 3) (AX hz rfl (x:=.ref TI) rfl (Aa (Bg hI rfl ?_)))));refine Aa (m:=Builtin.SmallTypes.ownedTupleIsFree (.ref z)) ?_;unfold Builtin.SmallTypes.ownedTupleIsFree;refine Aa (AX hz rfl (x:=.none) rfl (Ai ?_));simp only[if_true];refine Aa (BK (Aa (AX hz rfl (x:=.ref TO) rfl (Aa (wpAny_setField_rec hz (by simp) λg1 z1 U=>?_)))));have a0:IsZip g1 z TI TO .ellipsis:=z1;refine Aa ?_;simp only[List.zipIdx_cons,List.zipIdx_nil,B4,CT];refine Aa (Aa (wpAny_onRaise (Aa (m:=Builtin.SmallTypes.nextOf (.ref i1)) ((h1.on λo e=>U.extBut _ _ D.n3 e).next (q1.on λo e=>U.extBut _ _ D.n8 e) hx λg2 a5 j=>Ai ?_))));have O2:IsPair g2 TO a b:=j.extBut _ _ D.n5 (U.extBut _ _ D.n2 hO);refine Aa (Bg O2 rfl (Aa (wpAny_updateSeq_pair O2 λg3 O3 p=>Aa (wpAny_letGo (Ai ?_)))));have ag:IsPair g3 TO x b:=O3;refine Aa (Aa (wpAny_onRaise (Aa (m:=Builtin.SmallTypes.nextOf (.ref i2)) (df.next (l:=l2) (i:=k) (xs:=ys) (x:=y) (t:=t2) (h2.on λo e=>p.extBut _ _ (AI D.n6) (j.extBut _ _ (AI D.n7) (U.extBut _ _ D.n4 e)))
  (q2.on λo e=>p.extBut _ _ D.n13 (j.extBut _ _ D.n14 (U.extBut _ _ D.n12 e))) hy λg4 al r=>Ai ?_))))
 have O4:IsPair g4 TO x b:=r.extBut _ _ D.n6 ag;refine Aa (Bg O4 rfl (Aa (wpAny_updateSeq_pair O4 λJ O5 C=>Aa (wpAny_letGo (Ai (Ai ?_))))));have I:IsPair J TO x y:=O5;refine Aa (Bg I rfl (Aa (wpAny_newTuple ?_)));have sz:J.objs.size=s.heap.objs.size:=by rw[C.1,r.1,p.1,j.1,U.1]
 have z5:IsZip J z TI TO .ellipsis:=C.extBut _ _ (AI D.n2) (r.extBut _ _ (AI D.n4) (p.extBut _ _ (AI D.n2) (j.extBut _ _ (AI D.n3) a0)));have k5:∀c o,c≠z->c≠TO->c≠i1->c≠i2->s.heap.get? c=some o->J.get? c=some o:=λc o g T a3 a4 e=>C.extBut _ _ T (r.extBut _ _ a4 (p.extBut _ _ T (j.extBut _ _ a3 (U.extBut _ _ g e))));have zl:z<J.objs.size:=sx z5;refine Aa (m:=Builtin.SmallTypes.ownedTupleHandOut (.ref z) (.ref J.objs.size)) ?_;unfold Builtin.SmallTypes.ownedTupleHandOut;refine Aa (wpAny_setField_rec (show IsZip (J.push { cls:=.type "tuple",data:=.seq #[x,y] }) z TI TO .ellipsis from r4 _ z5) (by simp) λg7 z7 e7=>?_);have ar:IsZip g7 z TI TO (rawInt J.objs.size):=z7;refine wpAny_setField_rec ar (by simp) λg8 z8 e8=>Ai ⟨_,rfl,?_⟩;have aH:IsZip g8 z TI TO (rawInt J.objs.size):=z8;have up:∀c o,c≠z->J.get? c=some o->g8.get? c=some o:=λc o g e=>e8.extBut _ _ g (e7.extBut _ _ g (r4 _ e));have T8:IsPair g8 J.objs.size x y:=e8.extBut _ _ (Cz zl) (e7.extBut _ _ (Cz zl) (sy _ rfl));have xi:=q g8 (by rw[<-sz];exact aH) (up _ _ D.n2 I) (a5.on λo e=>up _ o D.n3 (C.extBut _ _ (AI D.n5) (r.extBut _ _ D.n7 (p.extBut _ _ (AI D.n5) e)))) (al.on λo e=>up _ o D.n4 (C.extBut _ _ (AI D.n6) e))
  (by rw[<-sz];exact T8) λc o g T a3 a4 e=>up c o g (k5 c o g T a3 a4 e)
 show Q (.ref J.objs.size) _;rw[sz];exact xi
theorem aee{TI TO:Addr}{k:Nat}{xs ys:Array Value}{a b:Value}{Q:Fin->Shared->Prop}(hh:A.handled=none)(D:ZAp z TI TO i1 i2 l1 l2)(hz:IsZip s.heap z TI TO .none)(hI:IsPair s.heap TI (.ref i1) (.ref i2))(hO:IsPair s.heap TO a b)
 (h1:df t1 s.heap i1 l1 k) (h2:df t2 s.heap i2 l2 k) (q1:iX t1 s.heap l1 xs) (q2:iX t2 s.heap l2 ys) (U:xs[k]?=none\/ys[k]?=none)
 (q:∀h' e,(∀c o,c≠z->c≠TO->c≠i1->c≠i2->s.heap.get? c=some o->h'.get? c=some o)->(∃o,h'.get? e=some o/\o.cls=.type "StopIteration")->E (.ref e) { s with heap:=h' }):
 wpAny (model prog w) A (Builtin.«zip.__next__» ⟨[.ref z],[]⟩) Q E s:=by
 refine Aa (m:=field (.ref z) 2) (AX hz rfl (x:=.bool false) rfl (Aa (m:=field (.ref z) 3) (AX hz rfl (x:=.ref TI) rfl (Aa (Bg hI rfl ?_)))));refine Aa (m:=Builtin.SmallTypes.ownedTupleIsFree (.ref z)) ?_;unfold Builtin.SmallTypes.ownedTupleIsFree;refine Aa (AX hz rfl (x:=.none) rfl (Ai ?_));simp only[if_true];refine Aa (BK (Aa (AX hz rfl (x:=.ref TO) rfl (Aa (wpAny_setField_rec hz (by simp) λg1 z1 J=>?_)))));have g:IsZip g1 z TI TO .ellipsis:=z1;refine Aa ?_;simp only[List.zipIdx_cons,List.zipIdx_nil,B4,CT];refine Aa (Aa (wpAny_onRaise (Aa (m:=Builtin.SmallTypes.nextOf (.ref i1)) ?_)));have j:=h1.on λo e=>J.extBut _ _ D.n3 e;have p:=q1.on λo e=>J.extBut _ _ D.n8 e;cases T:xs[k]? with
 |none=>
  refine df.stop hh j p T λg2 e s2 he=>?_;obtain⟨oe,ge,ce⟩:=he;have z2:IsZip g2 z TI TO .ellipsis:=s2 _ _ (AI D.n3) g;have nz:e≠z:=λw=>by subst w;rw[z2] at ge;cases ge;simp at ce
  exact wpAny_setField_rec z2 (by simp) λg3 _ s3=>q g3 e (λc o r _ a3 _ w=>s3.extBut _ _ r (s2 _ _ a3 (J.extBut _ _ r w))) ⟨oe,s3.extBut _ _ nz ge,ce⟩
 |some x=>
  have hy:ys[k]?=none:=by rcases U with h|h;rw[T] at h;cases h;exact h
  refine df.next j p T λg2 a0 C=>Ai ?_;have O2:IsPair g2 TO a b:=C.extBut _ _ D.n5 (J.extBut _ _ D.n2 hO);refine Aa (Bg O2 rfl (Aa (wpAny_updateSeq_pair O2 λg3 O3 I=>Aa (wpAny_letGo (Ai ?_)))));refine Aa (Aa (wpAny_onRaise (Aa (m:=Builtin.SmallTypes.nextOf (.ref i2)) (df.stop (t:=t2) (l:=l2) (i:=k) (xs:=ys) hh (h2.on λo e=>I.extBut _ _ (AI D.n6) (C.extBut _ _ (AI D.n7) (J.extBut _ _ D.n4 e)))
   (q2.on λo e=>I.extBut _ _ D.n13 (C.extBut _ _ D.n14 (J.extBut _ _ D.n12 e))) hy λg4 e s4 he=>?_))))
  obtain⟨oe,ge,ce⟩:=he;have z4:IsZip g4 z TI TO .ellipsis:=s4 _ _ (AI D.n4) (I.extBut _ _ (AI D.n2) (C.extBut _ _ (AI D.n3) g));have nz:e≠z:=λw=>by subst w;rw[z4] at ge;cases ge;simp at ce
  exact wpAny_setField_rec z4 (by simp) λg5 _ s5=>q g5 e (λc o r a2 a3 a4 w=>s5.extBut _ _ r (s4 _ _ a4 (I.extBut _ _ a2 (C.extBut _ _ a3 (J.extBut _ _ r w))))) ⟨oe,s5.extBut _ _ nz ge,ce⟩
end
def af7(t:Bool):String:=if t then "tuple_iterator" else "list_iterator"
section
variable {w:World}
theorem iX.iter{xs:Array Value}(J:iX t s.heap l xs)(q:Q (.ref s.heap.objs.size) { s with heap:=s.heap.push { cls:=.type (af7 t),data:=.fields #[.ref l,.int 0 0] } }):wpAny (model prog w) A (pyIter (.ref l)) Q E s:=by cases t with|false=>exact wpAny_pyIter_list J q|true=>exact wpAny_pyIter_tuple J q
end
theorem df.new(e:h.get? it=some { cls:=.type (af7 t),data:=.fields #[.ref l,.int 0 0] }):df t h it l 0:=by cases t with|false=>exact⟨_,e,rfl,rfl⟩|true=>exact⟨_,e,rfl,rfl⟩
abbrev zh1(t1:Bool)(h:Heap)(l1:Addr):Heap:=h.push { cls:=.type (af7 t1),data:=.fields #[.ref l1,.int 0 0] }
abbrev zh2(t1 t2:Bool)(h:Heap)(l1 l2:Addr):Heap:=(zh1 t1 h l1).push { cls:=.type (af7 t2),data:=.fields #[.ref l2,.int 0 0] }
abbrev zh3(t1 t2:Bool)(h:Heap)(l1 l2:Addr):Heap:=(zh2 t1 t2 h l1 l2).push { cls:=.type "tuple",data:=.seq #[.ref h.objs.size,.ref (zh1 t1 h l1).objs.size] }
abbrev zh4(t1 t2:Bool)(h:Heap)(l1 l2:Addr):Heap:=(zh3 t1 t2 h l1 l2).push { cls:=.type "tuple",data:=.seq #[.none,.none] }
abbrev zh5(t1 t2:Bool)(h:Heap)(l1 l2:Addr):Heap:=(zh4 t1 t2 h l1 l2).push { cls:=.type "zip",data:=.fields #[.none,.bool false,.bool false,.ref (zh2 t1 t2 h l1 l2).objs.size,.ref (zh3 t1 t2 h l1 l2).objs.size] }
theorem xS(t1 t2:Bool)(l1 l2:Addr)(xs ys:Array Value):Meets (Builtin.«zip.__new__» ⟨[.type "zip",.ref l1,.ref l2],[]⟩) (λ_ R s=>iX t1 s.heap l1 xs/\iX t2 s.heap l2 ys/\R (.ok (.ret (.ref (zh4 t1 t2 s.heap l1 l2).objs.size))) { s with heap:=zh5 t1 t2 s.heap l1 l2 }):=
 .of_wp λJ w A R s h=>by
  obtain⟨U,g,d,tk,os⟩:=s;obtain⟨l,p,h⟩:=h;have j:=sub_zip;have r:iX t1 (Shared.heap ⟨U,g,d,tk,os⟩) l1 xs:=l;have t:iX t2 (Shared.heap ⟨U.push { cls:=.type (af7 t1),data:=.fields #[.ref l1,.int 0 0] },g,d,tk,os⟩) l2 ys:=p.on λo e=>r4 _ e
  wp_walk using iX.iter r,iX.iter t
  exact⟨_,rfl,h⟩
theorem abc{w:World}{xs ys:Array Value}(r:iX t1 s.heap l1 xs)(t:iX t2 s.heap l2 ys)
 (q:∀h',IsZip h' (s.heap.objs.size+4) (s.heap.objs.size+2) (s.heap.objs.size+3) .none->IsPair h' (s.heap.objs.size+2) (.ref s.heap.objs.size) (.ref (s.heap.objs.size+1))->IsPair h' (s.heap.objs.size+3) .none .none->
  df t1 h' s.heap.objs.size l1 0->df t2 h' (s.heap.objs.size+1) l2 0->(∀c o,s.heap.get? c=some o->h'.get? c=some o)->Q (.ref (s.heap.objs.size+4)) { s with heap:=h' }):
 wpAny (model prog w) A (call (.type "zip") [.ref l1,.ref l2]) Q E s:=by
 refine callType_new F.called_zip (by decide) (F.typeCall_zip_2 _ _) (F.newCall_zip_2 _ _) (λobj=>F.args_object_init_3 obj _ _) F.entry_zip_new (xS t1 t2 l1 l2 xs ys) ⟨r,t,?_⟩;have J:(zh1 t1 s.heap l1).objs.size=s.heap.objs.size+1:=Eg ..;have U:(zh2 t1 t2 s.heap l1 l2).objs.size=s.heap.objs.size+2:=by rw[Eg,J]
 have g:(zh3 t1 t2 s.heap l1 l2).objs.size=s.heap.objs.size+3:=by rw[Eg,U]
 have l:(zh4 t1 t2 s.heap l1 l2).objs.size=s.heap.objs.size+4:=by rw[Eg,g]
 have j:(zh5 t1 t2 s.heap l1 l2).get? (zh4 t1 t2 s.heap l1 l2).objs.size=some _:=sy _ rfl;have p:(zh5 t1 t2 s.heap l1 l2).get? (zh3 t1 t2 s.heap l1 l2).objs.size=some _:=r4 _ (sy _ rfl);have g3:(zh5 t1 t2 s.heap l1 l2).get? (zh2 t1 t2 s.heap l1 l2).objs.size=some _:=r4 _ (r4 _ (sy _ rfl));have g2:(zh5 t1 t2 s.heap l1 l2).get? (zh1 t1 s.heap l1).objs.size=some _:=r4 _ (r4 _ (r4 _ (sy _ rfl)));have g1:(zh5 t1 t2 s.heap l1 l2).get? s.heap.objs.size=some _:=r4 _ (r4 _ (r4 _ (r4 _ (sy _ rfl))));show _/\_;rw[U,g,l] at j;rw[J,U] at g3;rw[g] at p;rw[J] at g2;rw[l];exact⟨⟨_,j,rfl⟩,q _ j g3 p (df.new g1) (df.new g2) λc o e=>r4 _ (r4 _ (r4 _ (r4 _ (r4 _ e))))⟩
def Sq(t:Bool)(K:Ah)(H:Hp)(a:Addr)(xs:List V):Prop:=match t with
 |false=>aQ K H a xs
 |true=>cg K H a xs
section
variable {σ:L2.St}
theorem zd.seq(I:zd X pins σ H s)(h:Sq t X.K H a xs):∃eH:List Value,zr xs eH/\iX t s.heap a eH.toArray/\xs.length<=sizeLine:=by
 cases t with
 |false=>obtain⟨eH,v,p,z⟩:=I.list h;exact⟨eH,v,p.isList,z⟩
 |true=>obtain⟨eH,v,p,z⟩:=I.tuple h;exact⟨eH,v,p,z⟩
end
theorem ao8:bootBuiltins "zip"=some (.type "zip"):=by decide +kernel
end L2
namespace L3
open PySem L2
theorem afw(rl:j7 G H L)(r:RV G H y v)(h:cL L y=some ys):∃t p xs,v=.ref p/\Sq t G.K H p xs/\xp G H ys xs:=by
 obtain⟨p,xs,e,s,q⟩:=mG rl r h;rcases s with s|s
 ·exact⟨false,p,xs,e,s,q⟩
 ·exact⟨true,p,xs,e,s,q⟩
def mW(xs ys:List Y):List Y:=List.zipWith (λa b=>Y.tup [a,b]) xs ys
theorem aig{xs:List Y}(h:(mW xs ys)[i]?=some y):∃a b,xs[i]?=some a/\ys[i]?=some b/\y=.tup [a,b]:=by
 unfold mW at h;rw[List.getElem?_zipWith] at h;cases J:xs[i]? with
 |none=>rw[J] at h;simp at h
 |some a=>
  cases U:ys[i]? with|none=>rw[J,U] at h;simp at h|some b=>rw[J,U] at h;simp at h;exact⟨a,b,rfl,rfl,h.symm⟩
theorem afc(xs ys:List Y):(mW xs ys).length=min xs.length ys.length:=by simp[mW]
def aF(xs:List Y)(L:qu)(Q:YK):Prop:=match xs with
 |[x]=>fe L x λys=>∀p,L p=none->Q (.ref p) (qh L p (.lst ys))
 |_=>False
theorem aD :xf X (.type "list") (upL X.g3 aF):=EY qG λt H Q C L I U rl z k=>by
 unfold aF at z;split at z
 ·rename_i x;obtain⟨u,rfl,g⟩:=U.inv1;obtain⟨T,j,z⟩:=wg z;obtain⟨p,o,e,sq,r⟩:=mG rl g j;subst e;exact⟨p,o,rfl,sq,λl J=>k _ _ _ _ (DY J) (rl.newL J r) (by rfl) (z l (rl.none J))⟩
 ·exact z.elim
theorem kh{T:String}{r:List Y->qu->YK->Prop}(hc:xf X (.type T) (upL X.g3 r))(g:Gl X x)(j:X.mg x=none)(l:bootBuiltins x=some (.type T))(h:QA X (e::es) tr)
 (o:x ≠ "__name__" := by decide) (hd:Ed x:=by decide) (hs:Eb e es X:=by rfl) (t:Ec pos es X:=by rfl):
 QE X (.Call (.Name x p) (e::es) [] pos) (iW r tr):=DZ (jK hc g j l h o hd hs t) λσ H Q C L I rs rl z k=>
 ⟨C,L,_,rs,rl,z,λvs H1 ys L1 t1 J U z1=>⟨ys,L1,I,U,J,z1,k.ts t1⟩⟩
def dN(x:Y)(vs:List Y)(L:qu)(Q:YK):Prop:=match x,vs with
 |.ref a,[.int i]=>dR L a λys=>0<=i/\i<ys.length/\yU L (λv L=>Q v (qh L a (.lst (ys.eraseIdx i.toNat)))) (ys[i.toNat]?)
 |_,_=>False
theorem ajk :gh X "list.pop" (upM X.g3 dN):=λJ s j H x xs v l Q I o p ⟨y,ys,L,Q3,t,C,rl,z,k⟩=>by
 unfold dN at z;split at z
 ·rename_i a i;obtain⟨T,e,h0,h1,z⟩:=v4 z;obtain⟨ws,U,r⟩:=rl a _ e;obtain⟨i',rfl,ri⟩:=C.inv1;cases ri;cases g:T[i.toNat]? with
  |none=>rw[g] at z;exact z.elim
  |some w=>
   rw[g] at z;obtain⟨u,eu,ru⟩:=r.get g;obtain⟨_,_,_,hz⟩:=I.list (aQ.of U);have hl:=r.length;have hs:sizeLine<2 ^ 62:=by decide
   refine adm J s j H x _ v l Q I o p ⟨a,ws,i,i.toNat,u,t,rfl,U,by lia,by lia,?_,eu,k _ _ _ _ (EK U) (rl.setL U (r.eraseIdx _)) (ru.ts (EK U)) z⟩;unfold seqIndex?;rw[AG (show ¬i<0 by lia),AF (by simp;lia)]
 ·exact z.elim
theorem cQ(J:QE X o to)(U:QA X (e::es) tr)(g:attributeBase o "pop" X.env (eval o X.env)=eval o X.env:=by rfl)
 (j:((backTo fm (starEach (e::es) X.env)).all (λx=>!x.1)&&(backToKw fm (keywordEach [] X.env)).all (λx=>x.1.isSome)&&decide ((e::es).length+([]:List Keyword).length+(if ([]:List Keyword).isEmpty=true then 0 else 1)<30))=true:=by rfl)
 (l:(apos.endLine==fm.line)=true:=by rfl) (p:Eb e es X:=by rfl) (r:Ec fm es X:=by rfl):
 QE X (.Call (.Attribute o "pop" apos) (e::es) [] fm) (aj dN to tr):=r9 PySem.F.slot_list_pop PySem.F.type_list_pop ajk J U g j l p r
end L3
namespace L2
open PySem PySem.Spec PyProof.Rows
theorem uX(i:Int)(n d:Nat):max 0 (min (if i<0 then i+(n:Int) else i) n)=((HT.sIx n d (some i):Nat):Int):=by
 simp only[HT.sIx];by_cases h:i<0
 ·simp only[h,if_true]<;>lia
 ·simp only[h,if_false]<;>lia
theorem aaw(l u:Option Int)(n:Nat):Builtin.Str.strSliceIndices l u 1 n=(List.range (HT.sIx n n u-HT.sIx n 0 l)).map (HT.sIx n 0 l+·):=by
 have z:(0:Int)=((HT.sIx n 0 none:Nat):Int):=rfl;have y:(n:Int)=((HT.sIx n n none:Nat):Int):=rfl;unfold Builtin.Str.strSliceIndices;cases l with
 |none=>
  cases u with
  |none=>exact sliceRange_one 0 n
  |some j=>
   show sliceRange 0 (max 0 (min (if j<0 then j+(n:Int) else j) n)) 1=_;rw[uX j n n];exact sliceRange_one 0 _
 |some i=>
  cases u with
  |none=>
   show sliceRange (max 0 (min (if i<0 then i+(n:Int) else i) n)) n 1=_;rw[uX i n 0];exact sliceRange_one _ n
  |some j=>
   show sliceRange (max 0 (min (if i<0 then i+(n:Int) else i) n)) (max 0 (min (if j<0 then j+(n:Int) else j) n)) 1=_;rw[uX i n 0,uX j n n];exact sliceRange_one _ _
theorem qC(x:Str)(l u:Option Int):(Txt.slice x l u).cps.toList=(x.cps.toList.drop (HT.sIx x.length 0 l)).take (HT.sIx x.length x.length u-HT.sIx x.length 0 l):=by
 have g:x.length=x.cps.toList.length:=by simp[Str.length]
 have J:=pick_run x.cps (HT.sIx x.length 0 l) (HT.sIx x.length x.length u-HT.sIx x.length 0 l);unfold Txt.slice;rw[aaw];split
 ·rename_i h;simp only[beq_self_eq_true,Bool.true_and,Ab,Bq,beq_iff_eq] at h;have j:=HT.sIx_le x.length 0 (Bd _) l;have o:=HT.sIx_le x.length x.length (Al _) u;have U:HT.sIx x.length 0 l=0:=by lia
  rw[h,U,CQ,A5 (by exact aaf)]
 ·show(List.filterMap (λi=>x.cps[i]?) _).toArray.toList=_;rw[List.toList_toArray];exact J
def as3:V->Option Int->Option Int->Hp->VK->Prop:=λx lo hi H Q=>∃z,x=.str z/\z.length<=sizeLine/\Q (.str (Txt.slice z lo hi)) H
theorem am9:sW X as3:=by
 intro J s σ H x v U g lo j sl Q I o p pl r h;obtain⟨z,rfl,C,q⟩:=h;obtain⟨t,rfl⟩:=o;obtain⟨l,rfl,T⟩:∃l:Option (Int×Tok),U=partValue l/\l.map (·.1)=lo:=by cases pl with|none=>exact⟨none,rfl,rfl⟩|int i t=>exact⟨some (i,t),rfl,rfl⟩
 obtain⟨u,rfl,hu⟩:∃u:Option (Int×Tok),g=partValue u/\u.map (·.1)=j:=by cases r with|none=>exact⟨none,rfl,rfl⟩|int i t=>exact⟨some (i,t),rfl,rfl⟩
 subst T hu;refine⟨"str",_,F.slot_str_getitem.lookup,typeIs_str _ _ _,xg I.tk (wpAny_getItem_str_slice (l:=l) (u:=u) (st:=none) p rfl ?_)⟩;exact post_val_or_str ⟨AU (Txt.slice_le z _ _) C,λt' k ht=>⟨.str _,H,I.tok _,⟨t',rfl⟩,q⟩⟩
theorem wF{zs:List Str}:∀{us:List Value},zr (zs.map V.str) us->StrsAre us zs:=by
 induction zs with
 |nil=>intro us r;rw[CO] at r;cases r;exact .nil
 |cons z zs J=>
  intro us r;rw[AE] at r;cases r with
  |cons U g=>
   obtain⟨t,e⟩:=U;subst e;exact .cons z t (J g)
def api(K:Ah):V->List V->Hp->VK->Prop:=λx vs H Q=>∃z a zs,x=.str z/\vs=[.ref a]/\aQ K H a ((zs:List Str).map V.str)/\(zs.map (·.length)).sum+zs.length*z.length<=16777216/\Q (.str (Txt.join z zs)) H
theorem ahi:gh X "str.join" (api X.K):=by intro J s σ H x vs v us Q I U g h;obtain⟨z,a,zs,rfl,rfl,j,l,q⟩:=h;obtain⟨t,rfl⟩:=U;obtain⟨u,rfl,o⟩:=g.one;cases o;obtain⟨C,r,p,_⟩:=I.list j;exact xg I.tk (PyProof.Rows.join_list p.isList (by simpa using wF r) l λT k ht=>⟨.str _,H,I.tok _,⟨T,rfl⟩,q⟩)
end L2
namespace L3
open PySem L2
def rb(x:Y)(lo hi:Option Int)(L:qu)(Q:YK):Prop:=match x with
 |.str z=>z.length<=sizeLine/\Q (.str (Txt.slice z lo hi)) L
 |x=>apo x lo hi L Q
theorem kE(K:Ah)(P:Program)(w:World)(U:X.K=K:=by rfl)(g:X.prog=P:=by rfl)(hw:X.w=w:=by rfl):sW X (aj4 ⟨K,P,w⟩ rb):=by refine sW.imp (am9.or (apk K P w U g hw)) λx lo l H Q ⟨y,L,j,J,rl,z,k⟩=>?_;cases y with|str s=>exact .inl ⟨s,J,z.1,k _ H _ L (DX _) rl (by rfl) z.2⟩|_=>exact .inr ⟨_,L,j,J,rl,z,k⟩
def yBS(r:Y->List Y->qu->YK->Prop)(to:vd)(t:eY)(τ:x8)(L:qu)(Q:YK):Prop:=to τ L λx L1=>match x with
 |.str z=>t τ L1 λxs L2=>r (.str z) xs L2 Q
 |_=>False
theorem anm{id:String}{r:Y->List Y->qu->YK->Prop}(h2:Slot "str" name id)(I:typeOf (.builtin id)=pure (.type "method_descriptor"))(T:gh X id (upM X.g3 r))(ho:QE X o to)(ha:QA X (e::es) tr)
 (h4:attributeBase o name X.env (eval o X.env)=eval o X.env:=by rfl)
 (h5:((backTo fm (starEach (e::es) X.env)).all (λx=>!x.1)&&(backToKw fm (keywordEach [] X.env)).all (λx=>x.1.isSome)&&decide ((e::es).length+([]:List Keyword).length+(if ([]:List Keyword).isEmpty=true then 0 else 1)<30))=true:=by rfl)
 (h6:(apos.endLine==fm.line)=true:=by rfl) (h7:Eb e es X:=by rfl) (h8:Ec fm es X:=by rfl):
 QE X (.Call (.Attribute o name apos) (e::es) [] fm) (yBS r to tr):=DZ (akm PySem.F.plainAttrs_str h2 I T ho ha h4 h5 h6 h7 h8) λσ H Q p L Q3 t rl z k=>
 ⟨p,L,_,t,rl,z,λv H1 y L1 C J U g=>by
  split at g
  ·rename_i s;cases U;exact⟨rfl,p,L1,_,t.ts C,J,g,λvs H2 ys L2 t2 j l z2=>⟨.str s,ys,L2,Q3,rfl,l,j,z2,k.ts (C.trans t2)⟩⟩
  ·exact g.elim⟩
theorem tD{G:G3}{H:Hp}:∀{zs:List Str} {xs:List V},xp G H (zs.map Y.str) xs->xs=zs.map V.str
 |[],_,h=>h
 |z::r,_,⟨x,J,e,q,s⟩=>by rw[e,show x=V.str z from q,tD s];rfl
def yi(x:Y)(vs:List Y)(L:qu)(Q:YK):Prop:=match x,vs with
 |.str z,[.ref a]=>dR L a λys=>∃zs,ys=zs.map Y.str/\(zs.map (·.length)).sum+zs.length*z.length<=16777216/\Q (.str (Txt.join z zs)) L
 |_,_=>False
theorem ang :gh X "str.join" (upM X.g3 yi):=gh.imq ahi λx p H Q y t L C U g rl z k=>by
 unfold yi at z;split at z
 ·rename_i s a;obtain⟨I,e,j,rfl,l,z⟩:=v4 z;obtain⟨T,J,r⟩:=rl a _ e;obtain⟨u,rfl,o⟩:=g.inv1;cases o;rw[tD r] at J;exact⟨s,a,j,U,rfl,aQ.of J,l,k _ H _ L (DX _) rl (by rfl) z⟩
 ·exact z.elim
theorem ajt(J:QE X o to)(U:QA X (e::es) tr)(g:attributeBase o "join" X.env (eval o X.env)=eval o X.env:=by rfl)
 (j:((backTo fm (starEach (e::es) X.env)).all (λx=>!x.1)&&(backToKw fm (keywordEach [] X.env)).all (λx=>x.1.isSome)&&decide ((e::es).length+([]:List Keyword).length+(if ([]:List Keyword).isEmpty=true then 0 else 1)<30))=true:=by rfl)
 (l:(apos.endLine==fm.line)=true:=by rfl) (p:Eb e es X:=by rfl) (r:Ec fm es X:=by rfl):
 QE X (.Call (.Attribute o "join" apos) (e::es) [] fm) (yBS yi to tr):=anm PySem.F.slot_str_join PySem.F.type_str_join ang J U g j l p r
theorem rS(zs:List Str):(Txt.join "" zs).cps.toList=zs.flatMap λz=>z.cps.toList:=by
 have e:∀zs:List Str,(Str.join "" zs).cps.toList=zs.flatMap λz=>z.cps.toList:=by
  intro zs
  induction zs with
  |nil=>rfl
  |cons z r J=>
   cases r with
   |nil=>simp[Str.join]
   |cons y r=>
    show(z ++ "" ++ Str.join "" (y::r)).cps.toList=_;have:(z ++ "" ++ Str.join "" (y::r)).cps=z.cps++#[]++(Str.join "" (y::r)).cps:=rfl;rw[this];simp only[C9,J,AM,Array.append_empty]
 exact(Bi (λx:Str=>x.cps.toList) (StrLaws.glued_eq_join "" zs)).trans (e zs)
def m7(t u:ku)(D:ky)(τ:x8)(L:qu):Prop:=∃J:x8->qu->Prop,t { D with nx:=J } τ L/\∀U L',J U L'->u D U L'
theorem bO{rest:List Stmt}{t u:ku}(h:QS X st t)(k:sQ X rest u):sQ X (st::rest) (m7 t u):=lK.imp (ug h k) λD T H ⟨o,L,D3,p,rl,⟨J,z,q⟩,k⟩=>
 ⟨o,L,{ D3 with nx:=J },p,rl,z,λr H1 U l C g j I=>⟨U,l,D3,g,j,q U l I,k.ts C⟩,k.rt,k.bk,k.ct⟩
abbrev X3:=x8->Addr->qu->Prop
abbrev ff:=List Y->qu->YK->(Addr->qu->Prop)->Prop
def upX(G:G3)(E3:X3):X1:=λσ c H=>∃C τ L,c=.ref C/\vz G H σ τ/\j7 G H L/\E3 τ C L
def apn(G:G3)(H:Hp)(E3:Addr->qu->Prop)(E:XK):Prop:=∀C H' L',jh H H'->j7 G H' L'->E3 C L'->E (.ref C) none H'
def dnX(G:G3)(sp:ff):Sp:=λvs H Q E=>∃ys L J E3,xp G H ys vs/\j7 G H L/\sp ys L J E3/\sV G H J Q/\apn G H E3 E
def sh(E3:Addr->qu->Prop):X3:=λ_ C L=>∃L2,qf L2 L/\E3 C L2
abbrev aql(P:Program)(w:World)(K:Ah)(mg:Str->Option Value)(base:Heap)(k:Nat)(f:Addr)(fd:FuncData)(ps:List Str)(sp:ff):Prop:=bU P w K mg base (CXE P w) k f fd ps (dnX ⟨K,P,w⟩ sp)
structure jZ(P:Program)(w:World)(K:Ah)(mg:Str->Option Value)(base:Heap)(k:Nat)(x:Str)(ps:List Str)(sp:ff):Prop where
 ex:∃f fd,aql P w K mg base k f fd ps sp/\dm K fd ps []/\PySem.W.keepIn K (.ref f)=true/\mg x=some (.ref f)
theorem jZ.mono{P:Program}{w:World}{K:Ah}{k:Nat}{sp:ff}(c:jZ P w K mg base j x ps sp)(h:j<=k):jZ P w K mg base k x ps sp:=by obtain⟨f,fd,F,b,J,m⟩:=c.ex;exact⟨f,fd,F.mono h,b,J,m⟩
theorem zd.tst{σ:L2.St}(I:zd X pins σ H s):jh X.H₀ H:=λa u i e=>by cases u with|tup J=>exact I.base.tups a J e|frz o u=>exact I.base.frzs a o u e|_=>cases i
theorem alw{P:Program}{w:World}{K:Ah}{N:List Str}{E:XK}{E3:Addr->qu->Prop}(h:apn ⟨K,P,w⟩ H E3 E):
 dk (dF (CXE P w) P w K mg base N eK scope f cd A outer s H E) (upX ⟨K,P,w⟩ (sh E3)):=by
 intro J j g l a C o I L ap U ⟨t,T,L',p,rs,rl,L2,r,q⟩;cases p;exact ad4 J j g l a C o I L ap U (h C g L2 (zd.tst I) (rl.sub r) q)
def jH(sp:ff)(E3:X3)(t:eY)(τ:x8)(L:qu)(Q:YK):Prop:=t τ L λys L1=>sp ys L1 Q (E3 τ)
def xM(C:Addr)(E3:X3)(t:eY)(_:ky)(τ:x8)(L:qu):Prop:=t τ L λys L1=>ys.length<=1000/\E3 τ C L1
section
variable {E3:X3}
theorem uK{k:Nat}{sp:ff}(c:jZ X.prog X.w X.K X.mg X.base k x ps sp)(I:aI k X.A)(T:Gl X x)(ht:dk X (upX X.g3 E3))(hx:X.ex=[])(ha:QA X (e::es) tr)(J:Ed x:=by decide)
 (he:Eb e es X:=by rfl) (U:Ec pos es X:=by rfl):QE X (.Call (.Name x p) (e::es) [] pos) (jH sp E3 tr):=by
 obtain⟨f,fd,F,b,kp,m⟩:=c.ex;refine DZ (aed F I T m kp b ht hx ha J he U) λσ H Q g L Q3 r rl z k=>?_;exact⟨g,L,_,r,rl,z,λvs H1 ys L1 t j l z1=>⟨ys,L1,Q3,E3 g,l,j,z1,k.ts t,λC H' L' t' o q=>⟨C,g,L',rfl,r.ts (t.trans t'),o,q⟩⟩⟩
theorem tK{np:Pos}(c:ag1 X.K C)(p:Gl X x)(r:X.mg x=some (.ref C))(hc:X.calm=true)(t:dk X (upX X.g3 E3))(I:X.ex=[])(T:QA X (e::es) tr)(J:Ed x:=by decide)
 (he:Eb e es X:=by rfl) (U:Ec fm es X:=by rfl):
 QS X (.Raise (some (.Call (.Name x np) (e::es) [] fm)) none pos) (xM C E3 tr):=EG (ad1 c p r hc t I T J he U) λD σ H l L D3 o rl z k=>
 ⟨l,L,_,o,rl,z,λvs H1 ys L1 t1 g j ⟨hl,z1⟩=>⟨small (by rw[<-j.length];exact hl),C,l,L1,rfl,o.ts t1,g,z1⟩⟩
end
theorem auo{P:Program}{w:World}{K:Ah}{N:List Str}{k:Nat}{sp:ff}{t:X3->ku}(F:Fun K x eK st f fd)(S:aS N ps (z0 st))(len:∀ys L Q E,sp ys L Q E->ys.length=ps.length)
 (J:∀(fx:Value) (A:Around) (outer:List Env) (s:Shared) (H:Hp) (E:XK) (E3:X3),aI k (A.deeper (PyProof.Rows.envOfC eK (z0 st) s.heap.objs.size f fx))->
  dk (dF (CXE P w) P w K mg base N eK (z0 st) f fx A outer s H E) (upX ⟨K,P,w⟩ E3)->sQ (dF (CXE P w) P w K mg base N eK (z0 st) f fx A outer s H E) (jp st) (t E3))
 (T:∀ys L Q E,sp ys L Q E->t (sh E) { nx:=λ_ L'=>dt Q .non L',rt:=dt Q } (eE N ys) L):aql P w K mg base (k+1) f fd ps sp:=by
 obtain⟨oc,od,kV,a0,pm,an,fx,ct,a1,rfl,lk,g⟩:=F.ex;refine aen lk g S (λvs H Q E ⟨ys,L,j,E3,l,rl,z,_⟩=>by rw[<-l.length];exact len ys L j E3 z) λA outer s H vs Q E hr ⟨ys,L,j,E3,l,rl,z,k,kx⟩=>?_;refine⟨_,J fx A outer s H E (sh E3) hr (alw kx),eE N ys,L,_,i6 l,rl,T ys L j E3 z,?_⟩;exact⟨λσ o τ L' p a2 U ⟨L2,r,C⟩=>k .non o .non L2 p (U.sub r) (by rfl) C,λv o y L' p U I ⟨L2,r,C⟩=>k v o y L2 p (U.sub r) I C,λ_ _ _ _ _ _ _ z=>z.elim,λ_ _ _ _ _ _ _ z=>z.elim⟩
section
variable {cp:Pos}
end
section
variable {a:Expr}{ta:vd}{pt:Pos}{vs:List V}
end
def af1(_:ky)(_:x8)(_:qu):Prop:=False
theorem afg :QS X st af1:=λ_ _ _ _ _ _ ⟨_,_,_,_,_,z,_⟩=>z.elim
def noX:X3:=λ_ _ _=>False
theorem ae1 :dk X (upX X.g3 noX):=λ_ _ _ _ _ _ _ _ _ _ _ ⟨_,_,_,_,_,_,z⟩=>z.elim
open PySem L2 PySem.W
theorem wU{K:Frag}(q:excIn K C [.type "ValueError",.type "Exception",.type "BaseException",.type "object"] "ValueError.__new__"=true):ag1 K C:=aik q Dg (by decide +kernel) Dg
section
variable {K:Frag}{D:Addr}{t c:Value}{b:Bool}
end
end L3
namespace L2
open PySem PySem.Spec PyProof.Rows
def jD(X:Cx)(ops:List CmpOp)(es:List Expr)(t:V->TE):Prop:=∀(pos:Pos) (pins:List (Addr×Obj)) (s:Shared) (σ:St) (H:Hp) (x:V) (v:Value) (Q:Bool->Hp->Prop),zd X pins σ H s->j3 x v->(t x σ H λz H'=>∃k,z=.bl k/\Q k H')->wpAny (model X.prog X.w) X.A (testChain pos v ops (evalEach es X.env)) (TP X pins σ Q) X.xe s
def ak9(r:R2)(tb:TE):V->TE:=λx σ H Q=>tb σ H λy H1=>r x y H1 Q
def akg(r:R2)(tb:TE)(u:V->TE):V->TE:=λx σ H Q=>tb σ H λy H1=>r x y H1 λz H2=>∃k,z=.bl k/\(if k=true then u y σ H2 Q else Q (.bl false) H2)
section
variable {a b:Expr}{tb:TE}{op mO:CmpOp}{ops:List CmpOp}{r:R2}{u:V->TE}
theorem aag(g:kw X (compareOp op) r)(j:PE X b tb):jD X [op] [b] (ak9 r tb):=by intro pos J s U H x v Q I l h;refine test_last (aV (j J s U H _ I h) λo p ⟨y,t,C,T,q1⟩=>aV (g J p U t x y v o _ C l T q1) λd s2 ⟨z,H2,I2,r2,k,e,q2⟩=>?_);subst e;cases r2;exact wpAny_truthy_bool ⟨H2,I2,q2⟩
theorem zQ(t:kw X (compareOp op) r)(C:PE X b tb)(T:jD X (mO::ops) (c::es) u):jD X (op::mO::ops) (b::c::es) (akg r tb u):=by
 intro pos J s U H x v Q I rx h;refine test_link (aV (C J s U H _ I h) λg s1 ⟨y,H1,I1,j,q1⟩=>aV (t J s1 U H1 x y v g _ I1 rx j q1) λd s2 ⟨z,l,o,r2,k,e,p⟩=>?_);subst e;cases r2;refine wpAny_truthy_bool ?_;cases k with
 |false=>
  obtain⟨k',e',q'⟩:=p;cases e';exact ite_ff ⟨l,o,q'⟩
 |true=>exact ite_tt (T pos J s2 U l y g Q o j p)
theorem aas(U:PE X a ta)(h:jD X (op::mO::ops) (b::c::es) u)(g:lastMarks (op::mO::ops) (b::c::es)=false):PT X (.Compare a (op::mO::ops) (b::c::es) pos) (afk λσ H Q=>ta σ H λx H1=>u x σ H1 Q):=by intro J s σ H Q I j;exact isTrue_chain (aV (U J s σ H _ I j) λv l ⟨x,H1,o,p,r⟩=>h pos J l σ H1 x v Q o p r) g
end
end L2
namespace L3
open PySem L2
def wZ(ta:vd)(u:Y->vd)(τ:x8)(L:qu)(Q:YK):Prop:=ta τ L λx L1=>u x τ L1 Q
def ady(r:o8)(tb:vd)(x:Y)(τ:x8)(L:qu)(Q:YK):Prop:=tb τ L λy L1=>r x y L1 Q
def agd(r:o8)(tb:vd)(u:Y->vd)(x:Y)(τ:x8)(L:qu)(Q:YK):Prop:=tb τ L λy L1=>r x y L1 λz L2=>match z with
 |.bl k=>wq k (u y τ L2 Q) (Q (.bl false) L2)
 |_=>False
def upC(G:G3)(u:Y->vd):V->TE:=λx σ H Q=>∃y τ L J,RV G H y x/\vz G H σ τ/\j7 G H L/\u y τ L J/\sV G H J Q
theorem jD.imp{ops:List CmpOp}{t u:V->TE}(h:jD X ops es t)(q:∀x σ H Q,u x σ H Q->t x σ H Q):jD X ops es u:=λpos J s σ H x v Q I r z=>h pos J s σ H x v Q I r (q _ _ _ _ z)
theorem aia{r:o8}(x:V)(σ:L2.St)(H:Hp)(Q:VK):upC G (ady r tb) x σ H Q->ak9 (fb G r) (qN G tb) x σ H Q:=λ⟨y,j,L,l,o,p,rl,z,k⟩=>
 ⟨j,L,_,p,rl,z,λv T t C g J U I=>⟨y,t,C,l,o.ts g,U,J,I,k.ts g⟩⟩
theorem ahm{r:o8}{u:Y->vd}(x:V)(σ:L2.St)(H:Hp)(Q:VK):upC G (agd r tb u) x σ H Q->akg (fb G r) (qN G tb) (upC G u) x σ H Q:=λ⟨y,l,L,o,rv,T,rl,z,k⟩=>
 ⟨l,L,_,T,rl,z,λv H1 p L1 g t J z1=>⟨y,p,L1,_,rv.ts g,J,t,z1,λv2 H2 y2 L2 j U C z2=>by
  cases y2 with
  |bl I=>
   refine⟨I,C,?_⟩;have z3:wq I (u p l L2 o) (o (.bl false) L2):=z2;cases I with|true=>rw[AF rfl];exact⟨p,l,L2,o,J.ts j,T.ts (g.trans j),U,z3,k.ts (g.trans j)⟩|false=>rw[AG AC];exact k _ H2 _ L2 (g.trans j) U (by rfl) z3
  |_=>exact z2.elim⟩⟩
section
variable {a b:Expr}{ta:vd}{op mO:CmpOp}{ops:List CmpOp}{r:o8}{u:Y->vd}
theorem abk(J:kw X (compareOp op) (fb X.g3 r))(U:QE X b tb):jD X [op] [b] (upC X.g3 (ady r tb)):=jD.imp (aag J U) aia
theorem yr(J:kw X (compareOp op) (fb X.g3 r))(U:QE X b tb)(g:jD X (mO::ops) (c::es) (upC X.g3 u)):jD X (op::mO::ops) (b::c::es) (upC X.g3 (agd r tb u)):=jD.imp (zQ J U g) ahm
theorem acd(σ:L2.St)(H:Hp)(Q:VK):qN G (wZ ta u) σ H Q->(λσ H Q=>qN G ta σ H λx H1=>upC G u x σ H1 Q) σ H Q:=λ⟨g,L,o,j,rl,z,k⟩=>
 ⟨g,L,_,j,rl,z,λv H1 y p l J U r=>⟨y,g,p,o,U,j.ts l,J,r,k.ts l⟩⟩
theorem afh(U:QE X a ta)(h:jD X (op::mO::ops) (b::c::es) (upC X.g3 u))(g:lastMarks (op::mO::ops) (b::c::es)=false:=by with_unfolding_all rfl):QT X (.Compare a (op::mO::ops) (b::c::es) pos) (yB (wZ ta u)):=
 PT.imp (aas U h g) λJ H Q q=>acd J H _ (anx J H Q q)
end
end L3
namespace L2
open PySem PySem.Spec PyProof.Rows
theorem yL:∀{bs:List Bool} {us:List Value},zr (bs.map V.bl) us->us=bs.map Value.bool
 |[],_,.nil=>rfl
 |b::bs,_,.cons r t=>by cases (show _=Value.bool b from r);rw[yL t];rfl
theorem adg(hc:X.calm=true:=by rfl):xf X (.builtin "all") (λxs H Q=>∃(a:Addr) (bs:List Bool),xs=[.ref a]/\aQ X.K H a (bs.map V.bl)/\Q (.bl (bs.all id)) H):=by
 intro l s σ H xs us Q I r h;obtain⟨a,bs,rfl,sq,q⟩:=h;obtain⟨u,rfl,o⟩:=m4 r;cases o;obtain⟨p,t,pl,_⟩:=I.list sq;cases yL t;have g:=j9 pl;have j:a<s.heap.objs.size:=by obtain⟨_,e,_⟩:=g;exact sx e
 refine xg I.tk (call_all_walk (wpAny_pyIter_list g ?_));refine⟨s.heap.objs.size,[s.heap.objs.size,a],[s.heap.objs.size],(bs.map Value.bool).toArray.size,_,_,λi=>(bs[i]?).getD true,rfl,Walks.list (A:=X.A.in1) (I.ok.hd hc) _ a (A2 j) (bs.map Value.bool).toArray,
  ⟨⟨_,sy _ rfl,rfl,rfl⟩,g.push _⟩,λi v C T E' J U=>?_,λh' tk hk ht=>?_⟩
 ·have J:(bs.map Value.bool).toArray[i]?=some v:=J;rw[List.getElem?_toArray,An] at J;obtain⟨b,e,rfl⟩:=Ao.mp J;have U:T ((bs[i]?).getD true) C:=U;rw[e] at U;exact wpAny_truthy_bool U
 ·have e:((List.range (bs.map Value.bool).toArray.size).all λi=>(bs[i]?).getD true)=bs.all id:=by rw[Aq,Ab];exact PyProof.Rows.LSm.range_all bs
  rw[e];exact⟨.bl _,H,I.kept (h':=h') (t':=tk) (PyProof.Rows.LSm.kept_iter hk),rfl,q⟩
end L2
namespace L3
open PySem L2
def aal:List Y->Option (List Bool)
 |[]=>some []
 |.bl b::r=>(aal r).map (b::·)
 |_::_=>none
theorem ag3(bs:List Bool):aal (bs.map Y.bl)=some bs:=by induction bs with|nil=>rfl|cons b r J=>show(aal (r.map Y.bl)).map (b::·)=_;rw[J];rfl
theorem tE{G:G3}{H:Hp}:∀{ys:List Y} {xs:List V} {bs:List Bool},aal ys=some bs->xp G H ys xs->xs=bs.map V.bl
 |[],_,_,h,r=>by cases h;exact r
 |y::ys,_,bs,h,⟨x,J,e,U,g⟩=>by
  cases y with
  |bl b=>
   have j:(aal ys).map (b::·)=some bs:=h;obtain⟨o,l,rfl⟩:=Ao.mp j;cases (show x=V.bl b from U);rw[e,tE l g];rfl
  |_=>cases h
def ao7(xs:List Y)(L:qu)(Q:YK):Prop:=match xs with
 |[y]=>sg y=true/\fe L y λys=>yU L (λbs L=>Q (.bl (List.all bs id)) L) (aal ys)
 |_=>False
theorem ap0(hc:X.calm=true:=by rfl):xf X (.builtin "all") (upL X.g3 ao7):=EY (adg hc) λl H Q o L p J rl z k=>by
 unfold ao7 at z;split at z
 ·rename_i y;obtain⟨x,rfl,r⟩:=J.inv1;obtain⟨U,z⟩:=z;obtain⟨t,g,z⟩:=wg z;obtain⟨bs,j,z⟩:=lT z;obtain⟨a,C,rfl,sq,rr⟩:=fV rl r U g;cases tE j rr;exact⟨a,bs,rfl,sq,k _ H _ L (DX _) rl (by rfl) z⟩
 ·exact z.elim
theorem an0:bootBuiltins "all"=some (.builtin "all"):=by decide +kernel
def aho:Y->Option jm
 |.int i=>some (.inl i)
 |.str x=>some (.inr x)
 |_=>none
theorem lu{k:jm}(h:aho y=some k)(r:RV G H y v):v=kV k:=by cases y with|int i=>cases h;exact r|str x=>cases h;exact r|_=>cases h
def iw(kvs:List (jm×Y))(k:jm)(y:Y):List (jm×Y):=
 if (kvs.any λJ=>decide (J.1=k))=true then kvs.map (λJ=>if J.1=k then(J.1,y) else J) else kvs++[(k,y)]
theorem jh.dct{p:Addr}{zs:List (jm×V)}{o:HO}(h:H p=some (.dK zs)):jh H (upd H p o):=λa u i q=>by rw[qx ?_];exact q;rintro rfl;rw[h] at q;cases q;cases i
theorem acf{xs:List (jm×V)}(p:Paired (λ(p:jm×Y) (q:jm×V)=>p.1=q.1/\RV G H p.2 q.2) kvs xs)(k:jm):(kvs.any λJ=>decide (J.1=k))=xs.any λJ=>decide (J.1=k):=by induction p with|nil=>rfl|cons r t U=>rw[Ce,Ce,U,r.1]
theorem aes{xs:List (jm×V)}(p:Paired (λ(p:jm×Y) (q:jm×V)=>p.1=q.1/\RV G H p.2 q.2) kvs xs)(k:jm)(r:RV G H y v):
 Paired (λ(p:jm×Y) (q:jm×V)=>p.1=q.1/\RV G H p.2 q.2) (kvs.map λJ=>if J.1=k then(J.1,y) else J) (xs.map λJ=>if J.1=k then(J.1,v) else J):=by
 induction p with
 |nil=>exact .nil
 |@cons a b _ _ U t g=>
  refine .cons ?_ g;obtain⟨e,q⟩:=U;dsimp only;by_cases c:a.1=k
  ·rw[AF c,AF (e▸c)];exact⟨e,r⟩
  ·rw[AG c,AG (λz=>c (e.trans z))];exact⟨e,q⟩
theorem yz{xs:List (jm×V)}(p:Paired (λ(p:jm×Y) (q:jm×V)=>p.1=q.1/\RV G H p.2 q.2) kvs xs)(k:jm)(r:RV G H y v):
 Paired (λ(p:jm×Y) (q:jm×V)=>p.1=q.1/\RV G H p.2 q.2) (kvs++[(k,y)]) (xs++[(k,v)]):=by
 induction p with|nil=>exact .cons ⟨rfl,r⟩ .nil|cons J t U=>exact .cons J U
theorem adx{xs:List (jm×V)}(p:Paired (λ(p:jm×Y) (q:jm×V)=>p.1=q.1/\RV G H p.2 q.2) kvs xs)(k:jm)(r:RV G H y v):
 Paired (λ(p:jm×Y) (q:jm×V)=>p.1=q.1/\RV G H p.2 q.2) (iw kvs k y) (fP xs k v):=by
 unfold iw fP;rw[acf p k];by_cases c:(xs.any λJ=>decide (J.1=k))=true
 ·rw[AF c,AF c];exact aes p k r
 ·rw[AG c,AG c];exact yz p k r
theorem aer{R:α->β->Prop}{l:List α}{m:List β}(p:Paired R l m):l.length=m.length:=by induction p with|nil=>rfl|cons _ _ J=>rw[AQ,AQ,J]
def yj(_:x8)(L:qu)(Q:YK):Prop:=∀p,L p=none->Q (.ref p) (qh L p (.dct []))
def kW(td ti:vd)(τ:x8)(L:qu)(Q:YK):Prop:=td τ L λx L1=>ti τ L1 λy L2=>match x,aho y with
 |.ref a,some k=>uR L2 a λkvs=>yU L2 Q (wn kvs k)
 |_,_=>False
def iO(td ti tv:vd)(D:ky)(τ:x8)(L:qu):Prop:=tv τ L λv L1=>td τ L1 λx L2=>ti τ L2 λy L3=>match x,aho y with
 |.ref a,some k=>uR L3 a λkvs=>kvs.length<sizeLine/\D.nx τ (qh L3 a (.dct (iw kvs k v)))
 |_,_=>False
section
variable {i:Expr}{td tv:vd}
theorem rc:QE X (.Dict [] [] pos) yj:=DZ afj λU H Q g L j l rl z k=>λp J=>by
 refine k _ _ _ (qh L p (.dct [])) (DY J) (λa u e=>?_) (by rfl) (z p (rl.none J));by_cases c:a=p
 ·subst c;rw[q8] at e;cases e;exact⟨[],zv,.nil⟩
 ·rw[qb c] at e;exact(rl a u e).keep (DY J) (qx c)
theorem dY(hu:X.A.units+128<cLine)(C:QE X o td)(hi:QE X i ti)(hs:amg i):QE X (.Subscript o i pos) (kW td ti):=DZ (aiw (by omega) C hi hs) λσ H Q p L Q3 r rl z k=>
 ⟨p,L,_,r,rl,z,λv H1 x I t U g T=>⟨p,I,_,r.ts t,U,T,λw H2 y L2 t2 J j l=>by
  split at l
  ·rename_i a kk ek;obtain⟨a0,e,z3⟩:=iB l;obtain⟨yv,ev,q⟩:=lT z3;obtain⟨xs,e2,pr⟩:=J a _ e;obtain⟨xv,ex,rx⟩:=pM pr ev;exact⟨a,xv,g,.inl ⟨xs,kk,.inl e2,lu ek j,ex.symm⟩,k _ H2 _ L2 (t.trans t2) J rx q⟩
  ·exact l.elim⟩⟩
theorem bv(hu:X.A.units+128<cLine)(ho:QE X o td)(hi:QE X i ti)(hv:QE X value tv)(hs:swapsWith value (some (.Subscript o i hQ)) pos.line X.env=pure false:=by rfl):QS X (.Assign [.Subscript o i hQ] value pos) (iO td ti tv):=
 EG (aiu (by omega) ho hi hv hs) λD σ H r L D3 U rl z k=>
 ⟨r,L,_,U,rl,z,λv H1 vy L1 g t C z1=>⟨r,L1,_,U.ts g,t,z1,λx H2 xy L2 j I T z2=>⟨r,L2,_,U.ts (g.trans j),I,z2,λw H3 y L3 t3 J a0 z3=>by
  split at z3
  ·rename_i a kk ek;obtain⟨a1,e,hl,q⟩:=iB z3;obtain⟨xs,e2,pr⟩:=J a _ e;have l:jh H3 (upd H3 a (.dK (fP xs kk v))):=jh.dct e2;cases (show x=V.ref a from T);refine⟨a,_,rfl,.inl ⟨xs,kk,e2,lu ek a0,by rw[<-aer pr];exact hl,rfl⟩,?_⟩;refine k.nx _ _ _ _ (((g.trans j).trans t3).trans l) (U.ts (((g.trans j).trans t3).trans l)) (λb u p=>?_) q;by_cases c:b=a
   ·subst c;rw[q8] at p;cases p;exact⟨_,zv,EC (adx pr kk (C.ts (j.trans t3))) λ_ _ ⟨h1,h2⟩=>⟨h1,h2.ts l⟩⟩
   ·rw[qb c] at p;exact(J b u p).keep l (qx c)
  ·exact z3.elim⟩⟩⟩
end
def adk(to ti tv:vd)(D:ky)(τ:x8)(L:qu):Prop:=tv τ L λv L1=>to τ L1 λx L2=>ti τ L2 λy L3=>match x,y with
 |.ref a,.int i=>dR L3 a λys=>yU L3 (λj L=>D.nx τ (qh L a (.lst (ys.set j v)))) (ixN ys.length i)
 |_,_=>False
section
variable {i:Expr}{tv:vd}
theorem yg(ho:QE X o to)(hi:QE X i ti)(hv:QE X value tv)
 (ha:∀v,assign (.Subscript o i hQ) X.env v=(do
  let U <-holding [v] (eval o X.env)
  let t <-holding [v,U] (eval i X.env)
  standAt hQ
  holding [v,U,t] (setItem U t v)
  release [v,U,t] []):=by intro _;rfl)
 (h1:swapsWithSole [.Subscript o i hQ] value pos.line X.env=pure false:=by rfl) (h2:swappedStores [.Subscript o i hQ] value X.env=pure none:=by rfl)
 (h3:(assignEach [.Subscript o i hQ] X.env).map (·.2)=[assign (.Subscript o i hQ) X.env]:=by rfl):QS X (.Assign [.Subscript o i hQ] value pos) (adk to ti tv):=
 EG (acu hv (aob ho hi ag6 ha) h1 h2 h3) λD σ H C L D3 g rl z k=>
 ⟨C,L,_,g,rl,z,λv H1 vy L1 l I T z1=>⟨C,L1,_,g.ts l,I,z1,λx H2 xy L2 p a0 a1 z2=>⟨C,L2,_,g.ts (l.trans p),a0,z2,λw H3 y L3 t3 J a2 z3=>by
  split at z3
  ·rename_i a ii;obtain⟨ys,e,z4⟩:=v4 z3;obtain⟨j,ej,q⟩:=lT z4;obtain⟨xs,e2,r⟩:=J a _ e;cases (show x=V.ref a from a1);cases (show w=V.int ii from a2);have tt:jh H3 (upd H3 a (.lst (xs.set j v))):=EK e2;exact⟨a,xs,ii,j,rfl,rfl,e2,by rw[<-r.length];exact ej,k.nx _ _ _ _ (((l.trans p).trans t3).trans tt) (g.ts (((l.trans p).trans t3).trans tt)) (J.setL e2 (xp.setY (T.ts (p.trans t3)) j r)) q⟩
  ·exact z3.elim⟩⟩⟩
end
end L3
namespace L2
open PySem PySem.Spec PyProof.Rows
section
variable {v₁ v₂:Expr}{te:TE}{u:Str->TE}
end
end L2
namespace L3
open PySem L2
section
variable {v₁ v₂:Expr}{u:Str->vd}
end
section
variable {tv:vd}{f m:Str}{g:Addr}
end
open PySem.AutoSeq1 (wpAny_loadPart')
open MeetsSeq MeetsSeq2 MeetsSeq3 SeqRoads2
def iK(x:Y)(vs:List Y)(L:qu)(Q:YK):Prop:=match x,vs with
 |.ref a,[]=>dR L a λys=>Q .non (qh L a (.lst ys.reverse))
 |_,_=>False
theorem xp.rev{G:G3}{H:Hp}:∀{ys:List Y} {xs:List V},xp G H ys xs->xp G H ys.reverse xs.reverse
 |[],xs,r=>by cases (show xs=[] from r);exact rfl
 |y::t,xs,r=>by obtain⟨x,J,rfl,U,g⟩:=r;rw[CP,CP];exact xp.app (xp.rev g) (xp.one U)
theorem aa8 :gh X "list.reverse" (upM X.g3 iK):=gh.imq wV λx U H Q y o L p g j rl z k=>by
 unfold iK at z;split at z
 ·rename_i a;obtain⟨t,e,z⟩:=v4 z;obtain⟨l,J,r⟩:=rl a _ e;cases (show U=[] from j);exact⟨a,l,g,rfl,J,k _ _ _ _ (EK J) (rl.setL J r.rev) (by rfl) z⟩
 ·exact z.elim
theorem wH(J:QE X o to)(U:attributeBase o "reverse" X.env (eval o X.env)=eval o X.env:=by rfl)(g:(apos.endLine==fm.line)=true:=by rfl):
 QE X (.Call (.Attribute o "reverse" apos) [] [] fm) (aj iK to zb):=acg PySem.F.slot_list_reverse PySem.F.type_list_reverse aa8 J U g
def aks(x y:Y)(L:qu)(Q:YK):Prop:=fe L x λxs=>fe L y λys=>sg x=true/\sg y=true/\xs.length+ys.length<=sizeLine/\∀p,L p=none->Q (.ref p) (qh L p (.lst (xs++ys)))
theorem ami(K:Ah)(P:Program)(w:World)(hK:X.K=K:=by rfl)(hP:X.prog=P:=by rfl)(hw:X.w=w:=by rfl):kw X (binaryOp .Add) (fb ⟨K,P,w⟩ aks):=by
 subst hK hP hw;intro T s σ H x y v u Q I rx ry ⟨x3,y3,L,Q3,r1,r2,rl,z,k⟩;obtain⟨xs,ex,z⟩:=wg z;obtain⟨ys,ey,z⟩:=wg z;obtain⟨lx,ly,hz,q⟩:=z;obtain⟨a,ws,rfl,s1,g⟩:=fV rl r1 lx ex;obtain⟨b,a1,rfl,s2,j⟩:=fV rl r2 ly ey;cases rx;cases ry;obtain⟨J,vx,tx,_⟩:=I.list s1;obtain⟨U,vy,ty,_⟩:=I.list s2;obtain⟨⟨cls,dd,data,sl⟩,ho,hc,n,hd⟩:=id (j9 tx);obtain⟨⟨a0,r,data2,t⟩,l,o,n2,p⟩:=id (j9 ty);simp only at hc hd o p;subst hc hd o p;have l1:=vx.length;have l2:=vy.length;have l3:=g.length;have l4:=j.length;have C:J.toArray.size+U.toArray.size<=sizeLine:=by rw[Aq,Aq];lia
 refine concat_meets ⟨_,ho,rfl⟩ ⟨_,l,rfl⟩ noFill_list_add seq_list_add PySem.F.slot_list_add PySem.F.entry_list_add (PySem.F.args_list_add_2 _ _) (PyProof.Rows.list_addW a b J.toArray U.toArray n n2 dd r sl t C) ⟨ho,l,?_⟩;have e:J.toArray++U.toArray=(J++U).toArray:=by simp
 rw[e];exact⟨.ref _,_,I.lnew (t':=s.toks) (vx.append vy) (by rw[Ad];lia),rfl,k _ _ _ _ (DY I.fresh) (rl.newL I.fresh (g.app j)) (by rfl) (q _ (rl.none I.fresh))⟩
end L3
namespace Txs
open PySem PySem.Builtin.Str
theorem len_list(x:Str):x.cps.toList.length=x.length:=by simp[Str.length]
end Txs
namespace L2
open PySem PySem.Spec PyProof.Rows
section
variable {isp imk c j1 j2:Nat}{sp mk:Str}{u:Tok}{m:Str->Option Value}{p6 p7 p8 p9 p10:Pos}{Q:Flow->Shared->Prop}
end
end L2
namespace L2
open PySem PySem.Spec PyProof.Rows
end L2
namespace L3
open PySem L2
section
variable {m:Str}{k:Nat}{sp:jn}
end
end L3
namespace L2
open PySem PySem.Spec PyProof.Rows
section
variable {te:TE}
end
end L2
namespace L3
open PySem L2
end L3
namespace L2
open PySem PySem.Spec PyProof.Rows
section
variable {T:Addr}{tr:Option Addr}
end
section
variable {T:List Str}{iter:Expr}{g:TG}{te:TE}
end
section
variable {T:Addr}{tr:Option Addr}{E1:X1}
end
section
variable {k:Nat}{E1:X1}{t:TA}
end
end L2
namespace L3
open PySem L2
section
variable {T:List Str}{iter:Expr}{wi:TI3}{E3:X3}{Ea:Addr->qu->Prop}
end
end L3
namespace L2
open PySem PySem.Spec PyProof.Rows
end L2
namespace L2
open PySem PySem.Spec PyProof.Rows
section
variable {w:World}
theorem uB{it t:Addr}{eH:Array Value}(J:t≠it):∀(n i:Nat) (s:Shared) (Q:List Value->Shared->Prop),s.heap.IsListIter it t i->s.heap.IsList t eH->i+n<=eH.size->
 (∀h',h'.IsListIter it t (i+n)->Heap.SameBut it s.heap h'->Q ((eH.toList.drop i).take n) { s with heap:=h' })->wpAny (model prog w) A (draw (.ref it) n) Q E s
 |0,i,s,Q,hit,_,_,j=>by unfold draw;exact Ai (by simpa using j s.heap hit (Heap.SameBut.refl ..))
 |n+1,i,s,Q,hit,r,C,j=>by
  have U:i<eH.size:=by omega
  unfold draw;refine Aa (wpAny_pyNext_list_item hit r (x:=eH[i]) (by simp[U]) λg1 l g=>?_);refine Aa (AY (uB J n (i+1) _ _ l (r.extBut g.extBut J) (by lia) λg2 o p=>Ai ?_));have e:eH.toList.drop i=eH[i]::eH.toList.drop (i+1):=by simp[BZ,U]
  have q:=j g2 (by rw[show i+(n+1)=i+1+n by simp +arith only];exact o)
   (g.trans p)
  rw[e,List.take_succ_cons] at q;exact q
theorem ajq{t:Addr}{eH:Array Value}{Q:Unit->Shared->Prop}(T:A.handled=none)(J:s.heap.IsList t eH)(hn:(assignEach mD env).length=eH.size)(l:(assignEach mD env).findIdx? (·.1)=none)
 (h:∀g,Heap.ExtBut s.heap.objs.size s.heap g->wpAny (model prog w) A (assignInOrder ((assignEach mD env).map (·.2)) eH.toList) Q E { s with heap:=g }):wpAny (model prog w) A (assign (.Tuple mD x1 pos) env (.ref t)) Q E s:=by
 have U:t≠s.heap.objs.size:=by obtain⟨o,ho,_⟩:=J;exact A2 (sx ho)
 rw[arm_assign_Tuple];refine Aa (wpAny_standAt ?_);unfold unpack;rw[hn,l];refine Aa (AY ?_);unfold unpackItems notIterableAtAll;refine Aa (Aa (wpAny_specialOf J.typeIs slot_list_iter.lookup ?_));refine Ai ?_;rw[AG (by simp)];refine Aa (AY (wpAny_pyIter_list J ?_));refine Aa (AY (uB U eH.size 0 _ _ ⟨_,sy _ rfl,rfl,rfl⟩ (J.push _) (by simp +arith only) λg1 p j=>?_));have all:List.take eH.size (List.drop 0 eH.toList)=eH.toList:=by rw[CQ];exact A5 (by simp)
 rw[all,AG (by simp)];have r:g1.IsList t eH:=(J.push _).extBut j.extBut U;refine Aa (AY (wpAny_pyNext_list_end T p r (by simp) λg2 C=>?_));rw[AG (by simp)];exact Ai (h g2 λb o I e=>C b o I (j.extBut b o I (r4 _ e)))
end
def auk(K:Ah)(n:Nat)(t:TGs):TG:=λv σ H Q=>∃a xs,v=.ref a/\aQ K H a xs/\xs.length=n/\t xs σ H Q
theorem am8{k:Nat}{t:TGs}(hc:X.calm=true)(h:PGs X es t)
 (l:(assignEach es X.env).length=n:=by rfl) (U:(assignEach es X.env).findIdx? (·.1)=none:=by rfl):PG X (.Tuple es k pos) (auk X.K n t):=by
 intro J s g H v u Q I r hw;obtain⟨a,p,C,T,hl,hw⟩:=hw;subst C;cases r;obtain⟨a0,j,pl,hz⟩:=I.list T;have ht:=j9 pl;refine ajq (I.ok.hd hc) ht (by simp[l,<-hl,j.length]) U λh' hx=>?_;have I1:zd X J g H { s with heap:=h' }:=I.kept (t':=s.toks) λb o e=>hx b o (A2 (sx e)) e;exact h J _ g H p _ Q I1 (by simpa using j) hw
theorem aiz(l:Addr)(eH:Array Value)(n:Nat)(x:Value)(b:Nat->Bool)(j:Nat)(I:j<eH.size)(hit:b j=true)(hz:eH.size<=sizeLine):∀(k i:Nat),j-i=k->i<=j->(∀m,i<=m->m<j->b m=false)->
 Meets (Builtin.«list.remove.loop» ⟨[.ref l,x,rawInt i],[]⟩) (λA R s=>s.heap.get? l=some { cls:=.type "list",dict:=none,data:=.seq eH n,slots:=#[] }/\(∀m (hm:m<eH.size),SeqAt.EqAt A.in1 s eH[m] x (b m))/\R (.ok (.ret .none)) { s with heap:=s.heap.update l (Obj.mapSeq λxs=>xs.eraseIdxIfInBounds j) }):=by
 intro k
 induction k with
 |zero=>
  intro i T r U J w A R s h;obtain⟨hp,g,d,tk,os⟩:=s;obtain⟨o,eq,h⟩:=h;have e:i=j:=by lia
  subst e
  (wp_walk using wpAny_loadPart' o)
  have t:eH[((i:Nat):Int).toNat]?=some eH[i]:=by simp[I]
  rw[t];refine Aa (eq i I J w _ _ ?_);rw[hit];have C:(eH.eraseIdxIfInBounds i).size<=sizeLine+1:=AU (MeetsSeq.size_erased eH _) (BQ hz)
  (wp_walk using (wpAny_updateSeq o rfl (hz:=hz) (_hz':=C)),wpAny_loadPart' o)
  simpa using h
 |succ k ih=>
  intro i T r U J w A R s h;obtain⟨hp,g,d,tk,os⟩:=s;obtain⟨o,eq,h⟩:=h;have p:i<eH.size:=by exact aeb
  (wp_walk using wpAny_loadPart' o)
  have t:eH[((i:Nat):Int).toNat]?=some eH[i]:=by simp[p]
  have hc:((i:Int)+1)=((i+1:Nat):Int):=by rfl
  rw[t];refine Aa (eq i p J w _ _ ?_);rw[U i (Al _) (by omega)]
  wp_walk
  rw[hc];refine⟨plainId_quiet y1 _,codeAny_builtin MeetsSeq.entry_remove_loop ?_⟩;rw[Db y1 _];exact ih (i+1) (by omega) (by omega) (λm h1 h2=>U m (by exact xD) h2) J w A R _ ⟨o,eq,h⟩
theorem aex(l:Addr)(eH:Array Value)(n:Nat)(x:Value)(b:Nat->Bool)(j:Nat)(p:j<eH.size)(hit:b j=true)(hz:eH.size<=sizeLine)(U:∀m,m<j->b m=false):
 Meets (Builtin.«list.remove» ⟨[.ref l,x],[]⟩) (λA R s=>s.heap.get? l=some { cls:=.type "list",dict:=none,data:=.seq eH n,slots:=#[] }/\(∀m (t:m<eH.size),SeqAt.EqAt A.in1 s eH[m] x (b m))/\R (.ok (.ret .none)) { s with heap:=s.heap.update l (Obj.mapSeq λxs=>xs.eraseIdxIfInBounds j) }):=by
 intro J w A R s h;obtain⟨C,g,d,tk,os⟩:=s;obtain⟨o,eq,h⟩:=h
 (wp_walk using wpAny_loadPart' o)
 refine⟨plainId_quiet y1 _,codeAny_builtin MeetsSeq.entry_remove_loop ?_⟩;rw[Db y1 _];exact aiz l eH n x b j p hit hz _ 0 rfl (Bd _) (λm _ r=>U m r) J w A R _ ⟨o,eq,h⟩
theorem zr.eraseN:∀{xs:List V} {us:List Value} (n:Nat),zr xs us->zr (xs.eraseIdx n) (us.eraseIdx n)
 |[],_,n,.nil=>by simp;exact .nil
 |_::_,_,0,.cons _ t=>t
 |_::_,_,n+1,.cons r t=>.cons r (zr.eraseN n t)
def aje(X:Cx):V->List V->Hp->VK->Prop:=λx vs H Q=>∃l xs y ds e,∃n m j:Nat,x=.ref l/\vs=[y]/\H l=some (.lst xs)/\n<=126/\Paired (kn X.K H n) xs ds/\kn X.K H m y e/\j<ds.length/\(∃d,ds[j]?=some d/\Da.eq d e=true)/\
 (∀(k:Nat) d,k<j->ds[k]?=some d->Da.eq d e=false)/\Q .non (upd H l (.lst (xs.eraseIdx j)))
theorem aao(hu:X.A.units+128<cLine):gh X "list.remove" (aje X):=by
 intro a4 s σ H x vs v us Q I rx rv h;obtain⟨l,o,y,g,e,n,m,j,rfl,rfl,hH,hn,pd,ry,hj,⟨dj,t,C⟩,T,q⟩:=h;cases rx;obtain⟨u,rfl,ru⟩:=rv.one;obtain⟨z,J,nn,r,hl,eo⟩:=I.lstM hH;have l1:o.length=g.length:=pd.length;have l2:J.length=o.length:=r.length.symm;obtain⟨arr,U⟩:∃arr:Array Value,arr=J.toArray:=⟨_,rfl⟩;have a0:arr.size=J.length:=by rw[U,Aq]
 have b:Nat->Bool:=λ_=>true;have a1:arr.size<=sizeLine:=by rw[a0];lia
 have M:=aex l arr nn u (λk=>((g[k]?).map λd=>Da.eq d e).getD false) j (by lia) (by show((g[j]?).map λd=>Da.eq d e).getD false=true;rw[t];exact C) a1 (λk p=>by show((g[k]?).map λd=>Da.eq d e).getD false=false;cases ek:g[k]? with|none=>rfl|some d=>exact T k d p ek)
 rw[U] at M;refine call_meets F.slot_list_remove ⟨_,eo,rfl⟩ F.entry_list_remove (F.args_list_remove_2 _ _) M ⟨eo,λk p=>?_,?_⟩
 ·have a5:k<J.length:=by rw[Aq] at p;exact p
  obtain⟨d,ed,rd⟩:=Words.Paired.getP pd (Ag (by lia:k<o.length));show SeqAt.EqAt _ s _ u (((g[k]?).map λd=>Da.eq d e).getD false);rw[ed];obtain⟨u',a2,a3⟩:=Words.Paired.getP r (Ag (by lia:k<o.length));have eg:J.toArray[k]=u':=by have:=(AV.mp a2).2;simpa using this
  rw[eg];exact o3 I n (by show X.A.units+1+n<cLine;lia) rd ry a3 ru
 ·refine⟨.non,_,I.lset (its':=J.eraseIdx j) hH eo ?_ (r.eraseN j) ?_,rfl,q⟩
  ·have:j<J.length:=by lia
   simp[Array.eraseIdxIfInBounds,this]
  ·have:=CM o j;exact aqj
end L2
namespace L3
open PySem L2
def akq(n:Nat)(t:tL)(y:Y)(τ:x8)(L:qu)(Q:x8->qu->Prop):Prop:=match y with
 |.ref a=>dR L a λys=>match ys.length==n with
  |true=>t ys τ L Q
  |false=>False
 |_=>False
theorem ame{U:Nat}(hc:X.calm=true)(h:QGs X es gs)(h1:(assignEach es X.env).length=n:=by rfl)(h2:(assignEach es X.env).findIdx? (·.1)=none:=by rfl):QG X (.Tuple es U pos) (akq n gs):=
 PG.imp (am8 hc h h1 h2) λv T H Q ⟨y,g,L,j,l,o,rl,z,k⟩=>by
 cases y with
 |ref a=>
  cases (show v=.ref a from l);obtain⟨p,e,J⟩:=v4 z;obtain⟨t,C,r⟩:=rl a _ e;split at J
  ·rename_i I;exact⟨a,t,rfl,aQ.of C,by rw[<-r.length];exact beq_iff_eq.mp I,p,g,L,j,r,o,rl,J,k⟩
  ·exact J.elim
 |_=>exact z.elim
def l5(x:Y)(vs:List Y)(L:qu)(Q:YK):Prop:=match x,vs with
 |.ref a,[v]=>dR L a λys=>∃ds e,∃n m j:Nat,n<=126/\Paired (jd L n) ys ds/\jd L m v e/\j<ds.length/\(∃d,ds[j]?=some d/\Da.eq d e=true)/\(∀(k:Nat) d,k<j->ds[k]?=some d->Da.eq d e=false)/\Q .non (qh L a (.lst (ys.eraseIdx j)))
 |_,_=>False
theorem afl(C:X.A.units+128<cLine):gh X "list.remove" (upM X.g3 l5):=gh.imq (aao C) λx J H Q y g L Q3 I T rl z k=>by
 unfold l5 at z;split at z
 ·rename_i a v;obtain⟨zs,e,U,de,n,m,j,hn,pd,dv,hj,hit,l,z⟩:=v4 z;obtain⟨us,o,r⟩:=rl a _ e;obtain⟨v',rfl,rv⟩:=T.inv1;have both:∀{g:List Y} {U:List Da} {J:List V},Paired (jd L n) g U->xp X.g3 H g J->Paired (kn X.K H n) J U:=by
   intro g U J p
   induction p generalizing J with
   |nil=>intro q;cases (show J=[] from q);exact .nil
   |cons h t ih=>
    rintro⟨x,a0,rfl,q1,q2⟩;exact .cons (jd.rep rl h q1) (ih q2)
  exact⟨a,us,v',U,de,n,m,j,I,rfl,o,hn,both pd r,jd.rep rl dv rv,hj,hit,l,k _ _ _ _ (EK o) (rl.setL o (r.eraseIdx j)) (by rfl) z⟩
 ·exact z.elim
theorem zG(J:X.A.units+128<cLine)(U:QE X o to)(g:QA X (e::es) tr)(j:attributeBase o "remove" X.env (eval o X.env)=eval o X.env:=by rfl)
 (l:((backTo fm (starEach (e::es) X.env)).all (λx=>!x.1)&&(backToKw fm (keywordEach [] X.env)).all (λx=>x.1.isSome)&&decide ((e::es).length+([]:List Keyword).length+(if ([]:List Keyword).isEmpty=true then 0 else 1)<30))=true:=by rfl)
 (p:(apos.endLine==fm.line)=true:=by rfl) (r:Eb e es X:=by rfl) (t:Ec fm es X:=by rfl):
 QE X (.Call (.Attribute o "remove" apos) (e::es) [] fm) (aj l5 to tr):=r9 PySem.F.slot_list_remove PySem.F.type_list_remove (afl J) U g j l p r t
end L3
namespace L2
open PySem PySem.Spec PyProof.Rows
end L2
namespace L2
open PySem PySem.Spec PyProof.Rows
def atx:List V->Hp->VK->Prop:=λxs H Q=>∃n:Int,xs=[.int n]/\∀p,H p=none->Q (.ref p) (upd H p (.rng 0 n))
theorem ae8:xf X (.type "range") atx:=by intro J s g H j l Q I r h;obtain⟨n,rfl,q⟩:=h;obtain⟨u,rfl,U⟩:=r.one;obtain⟨t,rfl⟩:=(show ∃t,u=Value.int n t from U);refine call_range_1 ?_;refine⟨.ref s.heap.objs.size,_,I.laid (t':=s.toks+1+1) (o:=.rng 0 n) (λb ob q=>r4 _ q) (Al _) ?_,rfl,q _ (I.hok.fresh (Al _))⟩;exact⟨s.toks,t,s.toks+1,sy _ rfl⟩
theorem wK{J:Array Value}(h:ItemsOf (λi v=>∃t,v=.int (0+(i:Int)*1) t) J n):zr ((List.range n).map λi:Nat=>V.int (0+(i:Int))) J.toList:=by
 have len:J.toList.length=n:=by rw[Bu];exact h.1
 have key:∀(l:List Value) (k:Nat),(∀(j:Nat) v,l[j]?=some v->∃t,v=Value.int (0+((k+j:Nat):Int)*1) t)->zr ((List.range' k l.length).map λi:Nat=>V.int (0+(i:Int))) l:=by
  intro l
  induction l with
  |nil=>intro k _;exact .nil
  |cons v r o=>
   intro k g;rw[AQ,DB,AE];obtain⟨t,e⟩:=g 0 v rfl;refine .cons ?_ (o (k+1) λj p U=>?_)
   ·exact⟨t,by rw[e];simp⟩
   ·have:=g (j+1) p U;rw[show k+1+j=k+(j+1) by simp +arith only];exact this
 have:=key J.toList 0 λj v U=>by rw[Nat.zero_add];exact h.2 j v (by simpa using U)
 rw[len,<-List.range_eq_range'] at this;exact this
def ara:List V->Hp->VK->Prop:=λxs H Q=>∃a,∃n:Nat,xs=[.ref a]/\H a=some (.rng 0 n)/\n<=100000/\∀p,H p=none->Q (.ref p) (upd H p (.lst ((List.range n).map λi:Nat=>V.int (0+(i:Int)))))
theorem aa0(hc:X.calm=true):xf X (.type "list") ara:=by
 intro g s σ H xs us Q I r h;obtain⟨a,n,rfl,j,l,q⟩:=h;obtain⟨u,rfl,p⟩:=r.one;cases (show u=Value.ref a from p);obtain⟨t,u,v,e⟩:=I.hok a _ j;have hb:(100000:Nat)<=sizeLine:=by decide
 have C:Builtin.Range.rangeSize 0 (n:Int) 1=((n:Nat):Int):=by rw[rangeSize_one];split<;>lia
 refine xg I.tk (call_list_range (I.ok.hd hc) (show IsRange s.heap a 0 (n:Int) 1 t u v from e) (small_one (by decide) (by decide) (by exact A9 _) (by omega)) C (AU l (by decide)) λh' tk U c T hS J ht=>?_);refine⟨.ref s.heap.objs.size,_,I.laid (t':=tk) (o:=.lst ((List.range n).map λi:Nat=>V.int (0+(i:Int)))) T (Al _) ?_,rfl,q _ (I.hok.fresh (Al _))⟩;refine⟨by rw[Ab,Bq];exact aqj,U.toList,c,wK J,?_⟩;rw[hS]
end L2
namespace L3
open PySem L2
theorem amr:bootBuiltins "range"=some (.type "range"):=by decide +kernel
def uA(te:vd)(τ:x8)(L:qu)(Q:YK):Prop:=te τ L λy L1=>match y with
 |.int n=>(0<=n/\n<=100000)/\∀p,L1 p=none->Q (.ref p) (qh L1 p (.lst (bA 0 n.toNat)))
 |_=>False
theorem ah2(n:Nat):xp G H (bA 0 n) ((List.range n).map λi:Nat=>V.int (0+(i:Int))):=by
 unfold bA;generalize List.range n=l
 induction l with|nil=>rfl|cons k r J=>exact⟨_,_,rfl,rfl,J⟩
theorem vY{J:Pos}(hc:X.calm=true)(T:Gl X "list")(hm:X.mg "list"=none)(l:Gl X "range")(o:X.mg "range"=none)(h:QE X e te)
 (h1:starEach [.Call (.Name "range" p2) [e] [] J] X.env=(false,eval (.Call (.Name "range" p2) [e] [] J) X.env)::starEach [] X.env:=by rfl) (h2:(backTo pos (starEach [] X.env)).any (·.1)=false:=by rfl)
 (I:starEach [e] X.env=(false,eval e X.env)::starEach [] X.env:=by rfl) (h4:(backTo J (starEach [] X.env)).any (·.1)=false:=by rfl):
 QE X (.Call (.Name "list" p) [.Call (.Name "range" p2) [e] [] J] [] pos) (uA te):=
 DZ (jK (aa0 hc) T hm vt (dG (jK ae8 l o amr (dG h iq I) (by decide) (by decide) I h4) iq h1) (by decide) (by decide) h1 h2) λσ H Q τ L Q3 rs rl z k=>
 ⟨τ,L,_,rs,rl,z,λv H1 y L1 t1 U r g=>by
  cases y with
  |int n=>
   obtain⟨⟨h0,h5⟩,g⟩:=g;cases (show v=V.int n from r);obtain⟨m,rfl⟩:∃m:Nat,n=(m:Int):=⟨n.toNat,by lia⟩;refine⟨_,rfl,λq t=>⟨q,m,rfl,zv,by lia,λp j=>?_⟩⟩;have C:H1 p=none:=by
    by_cases c:p=q
    ·subst c;exact t
    ·rw[qx c] at j;exact j
   exact k _ _ _ _ (t1.trans ((DY t).trans (DY j))) ((U.skip t).newL j (ah2 m)) (by rfl) (g p (U.none C))
  |_=>exact g.elim⟩
section
variable {m:Str}{g:Addr}
end
end L3
namespace TS
open PySem PyProof.Rows
section
variable {w:World}
structure Ord(prog:Program)(w:World)(A:Around)(s:Shared)(κ:SortKind)(Ok:Keyed->Prop)(f:Keyed->Int):Prop where
 lt:∀x y,Ok x->Ok y->∀{E:Value->Shared->Prop} {Q:Bool->Shared->Prop},Q (decide (f x<f y)) s->wpAny (model prog w) A (keyLt' κ x.1 y.1) Q E s
variable {κ:SortKind}{Ok:Keyed->Prop}{f:Keyed->Int}
theorem w_lt(O:Ord prog w A s κ Ok f){st:SortSt}{x y:Keyed}{Q:Option Bool->SortSt->Prop}(J:kindOf st=κ)(U:Ok x)(g:Ok y)(h:Q (some (decide (f x<f y))) st):wpS (model prog w) A E s (lt' x y) Q st:=by rw[lt'_eq];refine Az (wpS_get ?_);rw[J];refine Az (wpS_lift (wpAny_attempt (O.lt x y U g ⟨rfl,?_⟩)));exact AK h
theorem aew{arr:Array Keyed}{x:Keyed}{st:SortSt}{Q:Keyed->SortSt->Prop}(h:arr[i]?=some x)(q:Q x st):wpS (model prog w) A E s (elem' arr i) Q st:=by rw[elem'_eq,h];exact AK q
end
section
variable {f:Keyed->Int}{a b oi:Array Keyed}{ia ib:Nat}
end
section
variable {w:World}{κ:SortKind}{Ok:Keyed->Prop}{f:Keyed->Int}
end
theorem apv(l:List Keyed){k:Nat}(h:i<=k):l.take i++(l.drop i).take (k-i)=l.take k:=by have:=List.take_add (l:=l) (i:=i) (j:=k-i);rw[show i+(k-i)=k by omega] at this;exact this.symm
section
variable {f:Keyed->Int}{a b oi:Array Keyed}{na nb:Nat}
end
section
variable {w:World}{κ:SortKind}{Ok:Keyed->Prop}{f:Keyed->Int}
end
section
variable {w:World}{κ:SortKind}{Ok:Keyed->Prop}{f:Keyed->Int}
theorem asi{l:List Keyed}(s:l.Pairwise λx y=>f x<=f y)(J:i<=j)(U:j<l.length):f (l[i]'(by exact aeb))<=f l[j]:=by
 rcases Nat.lt_or_eq_of_le J with h|h
 ·exact Dm.mp s i j (by exact aeb) U h
 ·subst h;exact C3 _
end
theorem jV{arr:Array α}{P R:List α}(h:arr.toList=P++R)(J:n<=R.length):(mirror arr P.length (P.length+n) ((P.length+n-P.length) / 2)).toList=P++((R.take n).reverse++R.drop n):=by
 have U:arr.size=P.length+R.length:=by rw[<-Bu,h];simp
 refine List.ext_getElem? λk=>?_;rw[Bj,getElem?_mirror_all (by lia)];by_cases c:P.length<=k/\k<P.length+n
 ·rw[AF c,<-Bj,h,Ax (by omega),Ax (by lia),AB (by simp;omega),CY (by simp;omega),CI,A1,AF (by omega)];congr 1;lia
 ·rw[AG c,<-Bj,h];by_cases c2:k<P.length
  ·rw[AB c2,AB c2]
  ·rw[Ax (by exact agj),Ax (by omega),Ax (by simp;lia),Dh];congr 1;simp;lia
theorem uT{arr:Array α}{P R:List α}{k l:Nat}(h:arr.toList=P++R)(J:k<R.length)(U:l<=k):(bubble arr (P.length+k) (P.length+k-(P.length+l))).toList=P++(R.take l++R[k]::((R.drop l).take (k-l)++R.drop (k+1))):=by
 have g:arr.size=P.length+R.length:=by rw[<-Bu,h];simp
 refine List.ext_getElem? λi=>?_;rw[Bj,getElem?_bubble (by lia) _ (by exact Nat.sub_le _ _),show P.length+k-(P.length+k-(P.length+l))=P.length+l by omega];by_cases c1:i=P.length+l
 ·rw[AF c1,<-Bj,h,c1,Ax (by exact BJ _ _),Ax (by exact BJ _ _),Ax (by simp;lia)];rw[show P.length+l-P.length-(R.take l).length=0 by simp;lia,show P.length+k-P.length=k by lia,List.getElem?_cons_zero];simp[J]
 ·rw[AG c1];by_cases c2:P.length+l<i/\i<=P.length+k
  ·rw[AF c2,<-Bj,h,Ax (by omega),Ax (by lia),Ax (by simp;lia)];obtain⟨d,hd⟩:∃d,i=P.length+l+d+1:=⟨i-P.length-l-1,by omega⟩;rw[show i-P.length-(R.take l).length=d+1 by simp;lia,CL,AB (by simp;omega),CI,AF (by omega),Dh];congr 1;omega
  ·rw[AG c2,<-Bj,h];by_cases c3:i<P.length
   ·rw[AB c3,AB c3]
   ·rw[Ax (by exact agj),Ax (by omega)];by_cases c4:i<P.length+l
    ·rw[AB (by simp;lia),CI,AF (by omega)]
    ·obtain⟨d,hd⟩:∃d,i=P.length+k+d+1:=⟨i-P.length-k-1,by omega⟩;rw[Ax (by simp;lia),show i-P.length-(R.take l).length=(k-l)+d+1 by simp;lia,CL,Ax (by simp;omega),Dh];congr 1;simp;lia
section
variable {w:World}{κ:SortKind}{Ok:Keyed->Prop}{f:Keyed->Int}
structure Tl(κ:SortKind)(Ok:Keyed->Prop)(st:SortSt)(P R:List Keyed):Prop where
 kind:kindOf st=κ
 arr:(arrOf st).toList=P++R
 ok:∀x∈R,Ok x
theorem iu(O:Ord prog w A s κ Ok f){st:SortSt}{P R:List Keyed}(T:Tl κ Ok st P R)(hi:i<R.length)(J:j<R.length){a b:Nat}(U:a=P.length+i)(g:b=P.length+j){Q:Option Bool->SortSt->Prop}(q:Q (some (decide (f R[i]<f R[j]))) st):wpS (model prog w) A E s (ltAt' a b) Q st:=by
 have at_:∀i (hi:i<R.length),(arrOf st)[P.length+i]?=some R[i]:=λi hi=>by rw[<-Bj,T.arr,Ax (by exact BJ _ _),DC];simp
 subst U g;rw[ltAt'_eq];refine Az (wpS_get ?_);refine Az (aew (at_ i hi) (Az (aew (at_ j J) ?_)));exact w_lt O T.kind (T.ok _ (List.getElem_mem _)) (T.ok _ (List.getElem_mem _)) q
def Up(f:Keyed->Int)(R:List Keyed)(n:Nat):Prop:=∀i j (_:i<=j) (_:j<R.length),j<n->f (R[i]'(by exact aeb))<=f R[j]
theorem Up.snoc{R:List Keyed}(h:Up f R n)(h1:1<=n)(l:n<R.length)(hs:f (R[n-1]'(by exact xK))<=f R[n]):Up f R (n+1):=λi j J U g=>by
 rcases Dd j n with c|c
 ·exact h i j J U c
 ·have e:j=n:=by lia
  subst e;rcases Dd i j with c2|c2
  ·exact DK (h i (j-1) (by omega) (by exact xK) (by exact aqg)) hs
  ·have e:i=j:=by lia
   subst e;exact C3 _
theorem Up.pair{R:List Keyed}(h:Up f R n)(l:n<=R.length):(R.take n).Pairwise λx y=>f x<=f y:=by rw[Dm];intro i j J U g;rw[A1] at J U;rw[BB,BB];exact h i j (by exact xD) (by lia) (by lia)
end
section
variable {w:World}{κ:SortKind}{Ok:Keyed->Prop}{f:Keyed->Int}
theorem Tl.same{st:SortSt}{P R R':List Keyed}(T:Tl κ Ok st P R)(p:R'.Perm R){arr:Array Keyed}(h:arr.toList=P++R'):Tl κ Ok (setArr st arr) P R':=⟨T.kind,h,λx J=>T.ok x (p.mem_iff.mp J)⟩
theorem Up.one{R:List Keyed}:Up f R 1:=λi j J U h=>by
 have:i=j:=by lia
 subst this;exact C3 _
theorem jJ{c:Prop}{_:Decidable c}{K T:StateT SortSt Sem α}{P:SortSt->Prop}{Q:α->SortSt->Prop}{st:SortSt}(U:¬c->P st)(key:∀J,P J->wpS (model prog w) A E s K Q J)
 (g:c->(∀J,P J->wpS (model prog w) A E s K Q J)->wpS (model prog w) A E s T Q st):wpS (model prog w) A E s (if c then T else K) Q st:=by
 by_cases h:c
 ·rw[AF h];exact g h key
 ·rw[AG h];exact key st (U h)
def gg(f:Keyed->Int)(R:List Keyed)(n:Nat):Prop:=∀i j (_:i<=j) (_:j<R.length),j<n->f R[j]<=f (R[i]'(by exact aeb))
theorem afb{R R':List Keyed}(e:R'.map f=R.map f)(h1:i<R'.length)(h2:i<R.length):f R'[i]=f R[i]:=by
 have:(R'.map f)[i]?=(R.map f)[i]?:=by rw[e]
 rw[An,An,Ag h1,Ag h2] at this;exact AN this
theorem gg.same{R R':List Keyed}(D:gg f R n)(e:R'.map f=R.map f):gg f R' n:=λi j J g U=>by
 have l:R'.length=R.length:=by have:=Bi List.length e;rwa[Ab,Ab] at this
 rw[afb e g (by lia),afb e (by lia) (by lia)];exact D i j J (by lia) U
theorem gg.snoc{R:List Keyed}(h:gg f R n)(h1:1<=n)(l:n<R.length)(hs:f R[n]<=f (R[n-1]'(by exact xK))):gg f R (n+1):=λi j J U g=>by
 rcases Dd j n with c|c
 ·exact h i j J U c
 ·have e:j=n:=by lia
  subst e;rcases Dd i j with c2|c2
  ·exact DK hs (h i (j-1) (by omega) (by exact xK) (by exact aqg))
  ·have e:i=j:=by lia
   subst e;exact C3 _
theorem oG{arr:Array Keyed}{P R:List Keyed}{a b:Nat}{v:Int}(h:arr.toList=P++R)(g:a<=b)(p:b<=R.length)(j:∀i (_:i<R.length),a<=i->i<b->f R[i]=v):
 ∃R',(mirror arr (P.length+a) (P.length+b) ((P.length+b-(P.length+a)) / 2)).toList=P++R'/\R'.Perm R/\R'.map f=R.map f:=by
 have l:(P++R.take a).length=P.length+a:=by simp;lia
 have J:R=R.take a++((R.drop a).take (b-a)++(R.drop a).drop (b-a)):=by rw[A7,A7]
 have m:=jV (P:=P++R.take a) (R:=R.drop a) (n:=b-a) (by rw[h,AD,A7]) (by simp;lia);rw[l,show P.length+a+(b-a)=P.length+b by lia,AD] at m;refine⟨_,m,?_,?_⟩
 ·refine List.Perm.trans ?_ (List.Perm.of_eq J.symm);exact(Dn _).mpr ((Cy _).mpr (Dq _))
 ·have r:((R.drop a).take (b-a)).map f=List.replicate (b-a) v:=by refine List.ext_getElem (by simp;lia) λi t o=>?_;rw[List.getElem_map,BB,List.getElem_drop,List.getElem_replicate];rw[BX] at o;exact j _ _ (by lia) (by lia)
  have U:=Bi (List.map f) J;rw[Ak,Ak,r] at U;rw[Ak,Ak,DD,r,List.reverse_replicate,U]
theorem air(O:Ord prog w A s κ Ok f){st:SortSt}{P R:List Keyed}(T:Tl κ Ok st P R)(h1:1<=R.length){Q:Option Nat->SortSt->Prop}
 (q:∀n R' arr,1<=n->n<=R.length->R'.Perm R->arr.toList=P++R'->Up f R' n->Q (some n) (setArr st arr)):wpS (model prog w) A E s (countRun' P.length R.length) Q st:=by
 have bb:setArr st (arrOf st)=st:=rfl;refine Az (wpS_mono (Br (I:=λx c g=>g=st/\c=(none,x)/\Up f R x)
  (Q:=λc g=>g=st/\∃n,c=(none,n)/\1<=n/\n<=R.length/\Up f R n/\(n=R.length\/∃h:n<R.length,f R[n]<f (R[n-1]'(by exact xK)))) ?_ ?_ ⟨rfl,rfl,Up.one⟩) ?_)
 ·rintro x c g t hx ⟨rfl,rfl,U⟩;dsimp only;refine Az (iu O T (i:=x) (j:=x-1) hx (by exact xK) rfl (by lia) ?_);dsimp only;by_cases c:f R[x]<f (R[x-1]'(by omega))
  ·rw[AH c,AF rfl];exact AK ⟨rfl,x,rfl,t,by exact xD,U,.inr ⟨hx,c⟩⟩
  ·rw[Ay c,AG (by simp)];exact AK ⟨rfl,rfl,U.snoc t hx (by omega)⟩
 ·rintro c g ⟨rfl,rfl,U⟩;exact⟨rfl,_,rfl,by lia,by lia,by rw[CZ h1] at *;exact U,.inl (by lia)⟩
 ·rintro c g ⟨rfl,n,rfl,a0,a3,U,a5⟩;dsimp only;by_cases c1:(n==R.length)=true
  ·rw[AF c1];exact AK (q n R (arrOf g) a0 a3 (BO _) T.arr U)
  rw[AG c1];have c1:¬n=R.length:=by simpa using c1
  have ag:n<R.length:=by exact asf
  have hd:f R[n]<f (R[n-1]'(by omega)):=by
   rcases a5 with h|⟨h,h'⟩
   ·exact absurd h c1
   ·exact h'
  refine jJ (P:=λo=>∃arr R',o=setArr g arr/\arr.toList=P++R'/\R'.Perm R/\gg f R' (n+1)) (λc2=>⟨arrOf g,R,rfl,T.arr,BO _,?_⟩) ?_ (λc2 key=>?_)
  ·obtain rfl:n=1:=by lia
   exact gg.snoc (λi j ar hj a4=>by (have e:i=j:=by lia);(subst e;exact C3 _)) (Al _) ag (De hd)
  rotate_left
  ·refine Az (iu O T (i:=0) (j:=n-1) (by assumption) (by exact xK) rfl (by omega) ?_);dsimp only;by_cases c3:f R[0]<f (R[n-1]'(by omega))
   ·rw[AH c3,AF rfl];exact AK (q n R (arrOf g) a0 a3 (BO _) T.arr U)
   rw[Ay c3,AG (by simp)];have al:∀i (_:i<R.length),0<=i->i<n->f R[i]=f R[0]:=λi hi _ ba=>by have a1:=U 0 i (Bd _) hi ba;have a2:=U i (n-1) (by lia) (by lia) (by lia);lia
   obtain⟨R',m1,m2,m3⟩:=oG (f:=f) T.arr (Bd n) a3 al;refine Az (wpS_modify (key _ ⟨_,R',rfl,m1,m2,gg.same (gg.snoc (λi j ar hj a4=>?_) a0 ag (De hd)) m3⟩));rw[al j hj (Bd _) a4,al i (by lia) (Bd _) (by lia)];exact C3 _
  rintro _ ⟨arr,R0,rfl,r,aH,D0⟩;refine Az (wpS_lift (BK ⟨rfl,?_⟩));have l0:R0.length=R.length:=aH.length_eq;refine Az (wpS_mono (Br (I:=λx c o=>∃J arr R',c=(none,x,J)/\o=setArr g arr/\arr.toList=P++R'/\R'.Perm R/\gg f R' x/\J+1<=x/\∃v,∀i (_:i<R'.length),x-(J+1)<=i->i<x->f R'[i]=v)
   (Q:=λc o=>∃n J arr R',c=(none,n,J)/\o=setArr g arr/\arr.toList=P++R'/\R'.Perm R/\gg f R' n/\J+1<=n/\n<=R.length/\∃v,∀i (_:i<R'.length),n-(J+1)<=i->i<n->f R'[i]=v) ?_ ?_ ⟨0,arr,R0,rfl,rfl,r,aH,D0,by lia,f (R0[n]'(by lia)),λi hi h2 h3=>by (have e:i=n:=by lia);(subst e;rfl)⟩) ?_)
  ·rintro x c o t hx ⟨J,arr,p,rfl,rfl,r,l,D,hq,v,C⟩;have l1:p.length=R.length:=l.length_eq;have T1:=T.same l r;dsimp only;refine Az (iu O T1 (i:=x) (j:=x-1) (by lia) (by lia) rfl (by lia) ?_);dsimp only;by_cases c:f (p[x]'(by lia))<f (p[x-1]'(by omega))
   ·rw[AH c,AF rfl];refine jJ (P:=λo=>∃arr R',o=setArr g arr/\arr.toList=P++R'/\R'.Perm R/\gg f R' (x+1)) (λ_=>⟨arr,p,rfl,r,l,D.snoc (by lia) (by lia) (De c)⟩) ?_ (λc2 key=>?_)
    ·rintro _ ⟨arr,R',rfl,r,l,D⟩;exact AK ⟨0,arr,R',rfl,rfl,r,l,D,by lia,f (R'[x]'(by have:=l.length_eq;lia)),λi hi h2 h3=>by (have e:i=x:=by lia);(subst e;rfl)⟩
    ·obtain⟨R',m1,m2,m3⟩:=oG (f:=f) (a:=x-(J+1)) (b:=x) r (by lia) (by lia) C;refine Az (wpS_modify (key _ ⟨_,R',rfl,?_,m2.trans l,gg.same (D.snoc (by lia) (by lia) (De c)) m3⟩));rw[<-m1];show(mirror arr (P.length+x-(J+1)) (P.length+x) ((P.length+x-(P.length+x-(J+1))) / 2)).toList=_;rw[show P.length+x-(J+1)=P.length+(x-(J+1)) by lia]
   ·rw[Ay c,AG (by simp)];refine Az (iu O T1 (i:=x-1) (j:=x) (by omega) (by lia) (by lia) rfl ?_);dsimp only;by_cases c3:f (p[x-1]'(by omega))<f (p[x]'(by lia))
    ·rw[AH c3,AF rfl];exact AK ⟨x,J,arr,p,rfl,rfl,r,l,D,hq,by lia,v,C⟩
    ·rw[Ay c3,AG (by simp)];refine AK ⟨J+1,arr,p,rfl,rfl,r,l,D.snoc (by lia) (by lia) (by lia),by lia,v,λi hi h2 h3=>?_⟩;rcases Dd i x with h|h
     ·exact C i hi (by lia) h
     ·have:i=x:=by lia
      subst this;rw[<-C (i-1) (by lia) (by lia) (by lia)];lia
  ·rintro c o ⟨J,arr,p,rfl,rfl,r,l,D,hq,v,C⟩;exact⟨_,J,arr,p,rfl,rfl,r,l,D,hq,by lia,v,C⟩
  ·rintro c o ⟨n,J,arr,p,rfl,rfl,r,l,D,hq,g2,v,C⟩;have l1:p.length=R.length:=l.length_eq;dsimp only;refine jJ (P:=λo=>∃arr R',o=setArr g arr/\arr.toList=P++R'/\R'.Perm R/\gg f R' n) (λ_=>⟨arr,p,rfl,r,l,D⟩) ?_ (λc2 key=>?_)
   rotate_left
   ·obtain⟨R',m1,m2,m3⟩:=oG (f:=f) (a:=n-(J+1)) (b:=n) r (by lia) (by lia) C;refine Az (wpS_modify (key _ ⟨_,R',rfl,?_,m2.trans l,D.same m3⟩));rw[<-m1];show(mirror arr (P.length+n-(J+1)) (P.length+n) ((P.length+n-(P.length+n-(J+1))) / 2)).toList=_;rw[show P.length+n-(J+1)=P.length+(n-(J+1)) by lia]
   clear C D r l l1;rintro _ ⟨arr,p,rfl,r,l,D⟩;have l1:p.length=R.length:=l.length_eq;have T1:=T.same l r;have T':=T1.same (R':=(p.take n).reverse++p.drop n) (((Cy _).mpr (Dq _)).trans (by rw[A7])) (jV r (by lia));obtain⟨R',eR⟩:∃R',R'=(p.take n).reverse++p.drop n:=⟨_,rfl⟩;have aL:R'.Perm R:=by rw[eR];exact(((Cy _).mpr (Dq _)).trans (by rw[A7])).trans l
   have lR:R'.length=R.length:=aL.length_eq;have U':Up f R' n:=λi j ar hj a4=>by
    subst eR;rw[Dw (by simp;lia),Dw (by simp;lia),List.getElem_reverse,List.getElem_reverse,BB,BB];refine D _ _ ?_ (by simp;omega) ?_
    ·simp;omega
    ·simp;omega
   rw[<-eR] at T';refine Az (wpS_modify ?_);refine Az (wpS_mono (Br (I:=λx c o=>o=setArr g (mirror arr P.length (P.length+n) ((P.length+n-P.length) / 2))/\c=(none,x)/\Up f R' x)
    (Q:=λc o=>o=setArr g (mirror arr P.length (P.length+n) ((P.length+n-P.length) / 2))/\∃n,c=(none,n)/\1<=n/\n<=R.length/\Up f R' n) ?_ ?_ ⟨rfl,rfl,U'⟩) ?_)
   ·rintro x c o t hx ⟨rfl,rfl,U⟩;dsimp only;refine Az (iu O T' (i:=x) (j:=x-1) (by lia) (by omega) rfl (by lia) ?_);dsimp only;by_cases c:f (R'[x]'(by omega))<f (R'[x-1]'(by omega))
    ·rw[AH c,AF rfl];exact AK ⟨rfl,x,rfl,by lia,by exact xD,U⟩
    ·rw[Ay c,AG (by simp)];exact AK ⟨rfl,rfl,U.snoc (by omega) (by lia) (by omega)⟩
   ·rintro c o ⟨rfl,rfl,U⟩;exact⟨rfl,_,rfl,by lia,by lia,U⟩
   ·rintro c o ⟨rfl,n,rfl,k1,k2,U⟩;exact AK (q n R' _ k1 k2 aL T'.arr U)
end
section
variable {w:World}{κ:SortKind}{Ok:Keyed->Prop}{f:Keyed->Int}
theorem Up.of{R:List Keyed}(h:(R.take n).Pairwise λx y=>f x<=f y):Up f R n:=λi j J g U=>by have:=asi h (i:=i) (j:=j) J (by simp;lia);rw[BB,BB] at this;exact this
theorem afp{R:List Keyed}{k l:Nat}(J:k<R.length)(U:l<=k):(R.take l++R[k]::((R.drop l).take (k-l)++R.drop (k+1))).Perm R:=by
 have e:R=R.take l++((R.drop l).take (k-l)++(R[k]::R.drop (k+1))):=by rw[<-AD,apv _ U,<-BZ J,A7]
 refine List.Perm.trans ?_ (List.Perm.of_eq e.symm);exact(Dn _).mpr CB.symm
theorem als{R:List Keyed}{k l:Nat}(r:k<R.length)(t:l<=k)(U:Up f R k)(lo:∀i (_:i<l),f (R[i]'(by lia))<=f R[k])(hi:∀i (_:i<k),l<=i->f R[k]<=f (R[i]'(by exact ae7))):
 Up f (R.take l++R[k]::((R.drop l).take (k-l)++R.drop (k+1))) (k+1):=by
 apply Up.of;have e:R.take l++R[k]::((R.drop l).take (k-l)++R.drop (k+1))=(R.take l++R[k]::(R.drop l).take (k-l))++R.drop (k+1):=by simp
 rw[e,List.take_left' (by simp;lia)];have J:=U.pair (Bf r);rw[<-apv R t] at J;have J:=C4.mp J;have C:∀y∈(R.drop l).take (k-l),f R[k]<=f y:=λy g=>by obtain⟨j,p,rfl⟩:=List.getElem_of_mem g;rw[A1,CA] at p;rw[BB,List.getElem_drop];exact hi (l+j) (by lia) (by exact BJ _ _)
 have I:∀x∈R.take l,f x<=f R[k]:=λx o=>by obtain⟨j,p,rfl⟩:=List.getElem_of_mem o;rw[A1] at p;rw[BB];exact lo j (by lia)
 refine C4.mpr ⟨J.1,List.pairwise_cons.mpr ⟨C,J.2.1⟩,λx o y g=>?_⟩;rcases Am.mp g with rfl|g
 ·exact I x o
 ·exact J.2.2 x o y g
theorem aq8(O:Ord prog w A s κ Ok f){st:SortSt}{P R:List Keyed}(T:Tl κ Ok st P R){ok:Nat}(hn:n<=R.length)(h1:1<=ok)(ho:ok<=n)(U:Up f R ok){Q:Bool->SortSt->Prop}
 (q:∀R' arr,R'.Perm R->arr.toList=P++R'->Up f R' n->Q true (setArr st arr)):wpS (model prog w) A E s (binarySort' P.length n ok) Q st:=by
 have a0:setArr st (arrOf st)=st:=rfl;refine Az (wpS_mono (Br (I:=λx c J=>c=(none,())/\∃R' arr,J=setArr st arr/\R'.Perm R/\arr.toList=P++R'/\Up f R' x)
  (Q:=λc J=>c=(none,())/\∃R' arr,J=setArr st arr/\R'.Perm R/\arr.toList=P++R'/\Up f R' n) ?_ ?_ ⟨rfl,R,arrOf st,rfl,BO _,T.arr,by rw[C7 h1];exact U⟩) ?_)
 ·rintro x c J a1 hx ⟨rfl,R',arr,rfl,p,t,o⟩;have T':=T.same p t;have lR:R'.length=R.length:=p.length_eq;have g:x<R'.length:=by lia
  dsimp only;refine Az (wpS_mono (Br (I:=λy c J=>J=setArr st arr/\∃l r,c=(none,l,r)/\l<=r/\r<=x/\r-l+y<=x/\(∀i (_:i<l) (_:i<R'.length),f R'[i]<=f R'[x])/\(∀i (_:i<x),r<=i->f R'[x]<=f (R'[i]'(by exact ae7))))
   (Q:=λc J=>J=setArr st arr/\∃l,c=(none,l,l)/\l<=x/\(∀i (_:i<l) (_:i<R'.length),f R'[i]<=f R'[x])/\(∀i (_:i<x),l<=i->f R'[x]<=f (R'[i]'(by lia)))) ?_ ?_ ⟨rfl,0,x,rfl,Bd _,Al _,by exact Nat.sub_le _ _,λi h=>by lia,λi h h'=>by omega⟩) ?_)
  ·rintro y c J _ hy ⟨rfl,l,r,rfl,g1,g2,g3,C,g5⟩;dsimp only;by_cases c:l>=r
   ·rw[AF c];obtain rfl:l=r:=by lia
    exact AK ⟨rfl,l,rfl,g2,C,g5⟩
   ·rw[AG c];refine Az (iu O T' (i:=x) (j:=(l+r) / 2) g (by lia) rfl rfl ?_);dsimp only;by_cases e:f R'[x]<f (R'[(l+r) / 2]'(by lia))
    ·rw[AH e,AF rfl];refine AK ⟨rfl,l,(l+r) / 2,rfl,by lia,by lia,by omega,C,λi h h'=>?_⟩;exact DK (De e) (o _ _ h' (by exact ae7) h)
    ·rw[Ay e,AG (by simp)];refine AK ⟨rfl,(l+r) / 2+1,r,rfl,by lia,g2,by omega,λi h h'=>?_,g5⟩;exact DK (o i ((l+r) / 2) (by exact asa) (by lia) (by lia)) (by omega)
  ·rintro c J ⟨rfl,l,r,rfl,g1,g2,g3,C,g5⟩;obtain rfl:l=r:=by lia
   exact⟨rfl,l,rfl,g2,C,g5⟩
  ·rintro c J ⟨rfl,l,rfl,g2,C,g5⟩;dsimp only;refine Az (wpS_modify ?_);exact AK ⟨rfl,_,_,rfl,(afp g g2).trans p,uT t g g2,als g g2 o (λi h=>C i h (by lia)) g5⟩
 ·rintro c J ⟨rfl,R',arr,rfl,p,t,o⟩;exact⟨rfl,R',arr,rfl,p,t,by rw[C7 h1,CZ ho] at o;exact o⟩
 ·rintro c J ⟨rfl,R',arr,rfl,p,t,o⟩;exact AK (q R' arr p t o)
end
section
variable {w:World}{κ:SortKind}{Ok:Keyed->Prop}{f:Keyed->Int}
end
open PySem PyProof.Rows PySem.W
def apq(h:Heap)(B:Int)(x:Keyed):Prop:=∃a o n r p t u,x.1=.ref a/\h.get? a=some o/\o.data=.seq #[.int r t,.int p u] n/\0<=p/\p<B
noncomputable def num(h:Heap)(B:Int)(x:Keyed):Int:=match x.1 with
 |.ref a=>match h.get? a with
  |some o=>match o.data with
   |.seq xs _=>match xs.toList with
    |[.int r _,.int p _]=>r*B+p
    |_=>0
   |_=>0
  |none=>0
 |_=>0
theorem num_of{B:Int}{x:Keyed}{o:Obj}{r p:Int}{t u:Tok}(J:x.1=.ref a)(U:h.get? a=some o)(g:o.data=.seq #[.int r t,.int p u] n):num h B x=r*B+p:=by unfold num;simp[J,U,g]
theorem uP{w:World}{B:Int}:Ord prog w A s (tuples' true) (apq s.heap B) (num s.heap B):=by
 constructor;rintro x y ⟨a1,o1,n1,J,U,t,C,o,g1,d1,b1,c1⟩ ⟨a2,o2,n2,g,j,I,T,p,g2,d2,b2,c2⟩ E Q h;rw[num_of o g1 d1,num_of p g2 d2] at h;rw[o,p];refine kat_lt g1 d1 g2 d2 ?_;show KatLex prog w A true _ Q [(.int J t,.int g I),(.int U C,.int j T)] 0 s;refine kat_cons (wpAny_eqBool_int ?_);by_cases c:J=g
 ·subst c;rw[beq_self_eq_true];refine kat_yes (kat_cons (wpAny_eqBool_int ?_));by_cases r:U=j
  ·subst r;rw[beq_self_eq_true];refine kat_yes (kat_nil ?_);have e:decide (J*B+U<J*B+U)=false:=Ay (by lia);rw[e] at h;exact h
  ·rw[DP r];refine kat_no (kat_one _ _ (PyProof.Rows.lt_int ?_));have e:decide (J*B+U<J*B+j)=decide (U<j):=by
    by_cases z:U<j
    ·rw[AH z];exact AH (by lia)
    ·rw[Ay z];exact Ay (by lia)
   rw[e] at h;exact h
 ·rw[DP c];refine kat_no (oneLt_int ?_);have e:decide (J*B+U<g*B+j)=decide (J<g):=by
   by_cases z:J<g
   ·rw[AH z];have l:(J+1)*B<=g*B:=Cn (by assumption) (by lia);rw[Int.add_mul,Int.one_mul] at l;exact AH (by omega)
   ·rw[Ay z];have l:(g+1)*B<=J*B:=Cn (by lia) (by lia);rw[Int.add_mul,Int.one_mul] at l;exact Ay (by lia)
  rw[e] at h;exact h
section
variable {w:World}{κ:SortKind}{Ok:Keyed->Prop}{f:Keyed->Int}
theorem aey{N:Nat}(h1:1<=N)(h:N<64):(sortPriv% PySem.Builtin.minRun) N N 0=N:=by obtain⟨r,rfl⟩:∃r,N=r+1:=⟨N-1,by omega⟩;show minRun' (r+1) (r+1) 0=r+1;rw[minRun'_succ,AF h]
structure Srt(f:Keyed->Int)(l:List Keyed)(st:SortSt):Prop where
 fl:failedOf st=none
 pn:(pendingOf st).size<=1
 pm:(arrOf st).toList.Perm l
 pw:(arrOf st).toList.Pairwise λx y=>f x<=f y
theorem uF(O:Ord prog w A s κ Ok f){st:SortSt}{Q:Unit->SortSt->Prop}(r:(arrOf st).size<64)(hk:kindOf st=κ)(C:pendingOf st=#[])(hf:failedOf st=none)(ok:∀x∈(arrOf st).toList,Ok x)
 (q:∀J,failedOf J=none->(arrOf J).toList.Perm (arrOf st).toList->((arrOf J).toList.Pairwise λx y=>f x<=f y)->Q () J):wpS (model prog w) A E s sortRuns' Q st:=by
 refine Az (wpS_get ?_);dsimp only;have lN:(arrOf st).toList.length=(arrOf st).size:=Bu;obtain⟨N,eN⟩:∃N,N=(arrOf st).size:=⟨_,rfl⟩;rw[<-eN] at r lN ⊢;obtain⟨R,eR⟩:∃R,R=(arrOf st).toList:=⟨_,rfl⟩;rw[<-eR] at lN ok q;generalize a0:(sortPriv% PySem.Builtin.minRun) N N 0=mr;refine Az (wpS_mono (Br (I:=λx c J=>∃lo,c=(none,lo)/\((x=0/\lo=0/\J=st)\/(lo=N/\Srt f R J)))
  (Q:=λc J=>∃lo,c=(none,lo)/\Srt f R J) ?_ ?_ ⟨0,rfl,.inl ⟨rfl,rfl,rfl⟩⟩) ?_)
 ·rintro x c J _ hx ⟨lo,rfl,h⟩;dsimp only;by_cases c:lo>=N
  ·rw[AF c];rcases h with⟨h1,h2,_⟩|⟨_,h⟩
   ·omega
   ·exact AK ⟨lo,rfl,h⟩
  rw[AG c];obtain⟨rfl,rfl,rfl⟩:x=0/\lo=0/\J=st:=by
   rcases h with h|⟨h,_⟩
   ·exact h
   ·omega
  have em:mr=N:=by rw[<-a0];exact aey (by omega) r
  subst em;have T:Tl κ Ok J [] R:=⟨hk,eR.symm,ok⟩;rw[CS,<-lN];refine Az (air O T (by omega) λn R1 g g1 g2 j t U1=>?_);dsimp only;have T1:=T.same j t;have l1:R1.length=R.length:=j.length_eq;have xi:∀(arr:Array Keyed) (R2:List Keyed) (p:Nat),R2.Perm R->arr.toList=[]++R2->Up f R2 R.length->p=R.length->∃lo,((none,0+p):Option Unit×Nat)=(none,lo)/\((0+1=0/\lo=0/\setPending (setArr J arr) ((pendingOf (setArr J arr)).push (0,p,0))=J)\/(lo=R.length/\Srt f R (setPending (setArr J arr) ((pendingOf (setArr J arr)).push (0,p,0))))):=λarr R2 p p2 e2 U2 en=>by
   refine⟨0+p,rfl,.inr ⟨by omega,⟨hf,?_,?_,?_⟩⟩⟩
   ·show((pendingOf J).push (0,p,0)).size<=1;rw[C];exact Al 1
   ·show arr.toList.Perm R;rw[e2];exact p2
   ·show arr.toList.Pairwise _;rw[e2];have:=U2.pair (by rw[p2.length_eq];exact Al _);rw[<-p2.length_eq,A6] at this;exact this
  by_cases cm:n<R.length
  ·rw[AF cm];refine Az (wpS_lift (BK ⟨rfl,?_⟩));rw[Nat.min_self];refine Az (aq8 O T1 (by omega) g1 (by omega) U1 λR2 l a1 a2 U2=>?_);rw[AG (by simp)];refine Az (wpS_get ?_);have eb:(pendingOf (setArr (setArr J g) l)).back?=none:=by show(pendingOf J).back?=none;rw[C];rfl
   rw[eb];exact Az (wpS_modify (AK (xi l R2 _ (a1.trans j) a2 U2 rfl)))
  ·rw[AG cm];refine Az (wpS_get ?_);have eb:(pendingOf (setArr J g)).back?=none:=by show(pendingOf J).back?=none;rw[C];rfl
   rw[eb];have en:n=R.length:=by omega
   exact Az (wpS_modify (AK (xi g R1 _ j t (en▸U1) en)))
 ·rintro c J ⟨lo,rfl,h⟩;refine⟨lo,rfl,?_⟩;rcases h with⟨h1,h2,rfl⟩|⟨_,h⟩
  ·have:R=[]:=BP (by omega);refine⟨hf,by rw[C];exact Bd _,by rw[<-eR],?_⟩;rw[<-eR,this];exact List.Pairwise.nil
  ·exact h
 ·rintro c J ⟨lo,rfl,h⟩;dsimp only;refine Az (wpS_mono (Br (I:=λy c U=>c=(none,())/\Srt f R U) (Q:=λc U=>c=(none,())/\Srt f R U) ?_ ?_ ⟨rfl,h⟩) ?_)
  ·rintro y c U _ hy ⟨rfl,o⟩;refine Az (wpS_get ?_);rw[AF o.pn];exact AK ⟨rfl,o⟩
  ·rintro c U o;exact o
  ·rintro c U ⟨rfl,o⟩;exact AK (q U o.fl o.pm o.pw)
end
section
variable {w:World}
def fS(h:Heap)(B:Int)(v:Value):Prop:=∃a o n r p t u,v=.ref a/\h.get? a=some o/\o.cls=.type "tuple" /\ o.data=.seq #[.int r t,.int p u] n/\0<=p/\p<B
theorem fS.pair{B:Int}{x:Keyed}(k:fS h B x.1):apq h B x:=by obtain⟨a,o,n,r,p,t,u,J,U,_,g,j,l⟩:=k;exact⟨a,o,n,r,p,t,u,J,U,g,j,l⟩
theorem tups{h:Heap}{B:Int}:∀{ks:List Value},(∀v∈ks,fS h B v)->∃fs,KatTups h ks fs/\fs.length=ks.length/\∀v∈fs,∃r t,v=Value.int r t
 |[],_=>⟨[],trivial,rfl,λv J=>by simp at J⟩
 |k::ks,U=>by
  obtain⟨fs,g,j,l⟩:=tups (ks:=ks) λv J=>U v (Ac _ J);obtain⟨a,o,n,r,p,t,u,rfl,C,I,T,_,_⟩:=U k (Af ..);refine⟨.int r t::fs,KatTups.cons C I T rfl g,by simp[j],λv J=>?_⟩;rcases Am.mp J with rfl|J
  ·exact⟨r,t,rfl⟩
  ·exact l v J
theorem ae6{B:Int}{ks:List Value}{Q:SortKind->Shared->Prop}(J:∀v∈ks,fS s.heap B v)(l:0<ks.length)(q:Q (tuples' true) s):wpAny (model prog w) A (keyKind' ks.toArray) Q E s:=by
 obtain⟨fs,U,o,g⟩:=tups J;refine kat_kind (T:=.type "int") U (by lia) (λv j=>?_) (by decide) ?_
 ·obtain⟨r,t,rfl⟩:=g v j;exact .now
 ·exact q
theorem tX{R:α->α->Prop}:∀{l:List α},l.length<2->l.Pairwise R
 |[],_=>List.Pairwise.nil
 |[_],_=>List.pairwise_singleton _ _
 |_::_::_,h=>absurd h (by simp)
theorem apc{kS:Addr}{ks:List Value}{e l:Nat}{B:Int}{P:PySem.Fin->Shared->Prop}(r:s.heap.get? kS=some (seqObj "list" ks.toArray e))(ha:s.heap.get? a=some (seqObj "list" #[] l))(t:kS≠a)(hl:ks.length=vs.length)(C:vs.length<=63)
 (hk:∀v∈ks,fS s.heap B v)
 (h:∀h' tk (xs:List Keyed) c,(∀b,b≠kS->b≠a->h'.get? b=s.heap.get? b)->h'.get? a=some (seqObj "list" (List.toArray (xs.map (·.2))) c)->xs.Perm (ks.zip vs)->(xs.Pairwise λx y=>num s.heap B x<=num s.heap B y)->P (.done (.ret .none)) { s with heap:=h',toks:=tk }):
 wpAny (model prog w) A (ksk_end a false vs.toArray l (.ref kS) ks.toArray) P E s:=by
 have hz:vs.length<=sizeLine:=AU C (by decide);have o:(ks.toArray.zip vs.toArray).toList=ks.zip vs:=by simp
 have tail:∀st:SortSt,failedOf st=none->(arrOf st).toList.Perm (ks.zip vs)->((arrOf st).toList.Pairwise λx y=>num s.heap B x<=num s.heap B y)->wpAny (model prog w) A (ksk_tail a false l (.ref kS) st) P E s:=by
  intro st hf hp hs;have s1:=vc s.heap kS (Obj.mapSeq λ_=>(#[]:Array Value));have U:(s.heap.update kS (Obj.mapSeq λ_=>(#[]:Array Value))).get? a=some (seqObj "list" #[] l):=(s1.2 a t.symm).trans ha;have s2:=vc (s.heap.update kS (Obj.mapSeq λ_=>(#[]:Array Value))) a (Obj.mapSeq λ_=>(arrOf st).map (·.2));have len:((arrOf st).map (·.2)).size<=sizeLine:=by have:=hp.length_eq;rw[CG,Bu] at this;rw[Array.size_map];lia
  unfold ksk_tail
  try dsimp only
  refine Aa (listUpdate_at r rfl ?_ (by rw[Aq];lia) (Bd _));refine Aa (wpAny_letGo ?_);refine Aa (seqEpoch_at U rfl ?_);refine Aa (listUpdate_at U rfl ?_ (Bd _) (by simp only[BD,if_false];exact BQ len));rw[hf];simp only[bne_self_eq_false,BD,if_false];obtain⟨c2,j⟩:∃c2,((s.heap.update kS (Obj.mapSeq λ_=>(#[]:Array Value))).update a (Obj.mapSeq λ_=>(arrOf st).map (·.2))).get? a=some (seqObj "list" ((arrOf st).map (·.2)) c2):=⟨_,get?_update_seq U λ_=>(arrOf st).map (·.2)⟩;refine Ai (h _ _ (arrOf st).toList c2 (λb I T=>?_) ?_ hp hs)
  ·exact(s2.2 b T).trans (s1.2 b I)
  ·have em:(arrOf st).map (·.2)=List.toArray ((arrOf st).toList.map (·.2)):=by apply Array.toList_inj.mp;rw[Array.toList_map]
   rw[em] at j ⊢;exact j
 unfold ksk_end;simp only[BD,if_false];by_cases g:vs.toArray.size<2
 ·rw[AF g,AF g];refine Aa (Ai ?_);rw[StateT.run_pure];refine Aa (Ai ?_);refine tail _ rfl (by show(ks.toArray.zip vs.toArray).toList.Perm _;rw[o]) ?_;show(ks.toArray.zip vs.toArray).toList.Pairwise _;rw[o];rw[Aq] at g;have:(ks.zip vs).length<2:=by rw[CG];lia
  exact tX this
 ·rw[AG g,AG g];rw[Aq] at g;refine Aa (ae6 hk (by omega) ?_);refine Aa (AZ (uF (E:=E) (uP (B:=B)) (st:=SortSt.mk' (tuples' true) (ks.toArray.zip vs.toArray) #[] 7 none)
   (Q:=λ_ J=>failedOf J=none/\(arrOf J).toList.Perm (ks.zip vs)/\((arrOf J).toList.Pairwise λx y=>num s.heap B x<=num s.heap B y)) (by show(ks.toArray.zip vs.toArray).size<64;simp;omega) rfl rfl rfl (λx p=>?_) λJ b1 b2 b3=>⟨b1,?_,b3⟩) ?_ λ_ _ e=>e)
  ·have p:x∈(ks.toArray.zip vs.toArray).toList:=p;rw[o] at p;exact fS.pair (hk _ (C6 (a:=x.1) (b:=x.2) p).1)
  ·have b2:(arrOf J).toList.Perm (ks.toArray.zip vs.toArray).toList:=b2;rw[o] at b2;exact b2
  ·rintro⟨⟨⟩,J⟩ s' ⟨rfl,b1,b2,b3⟩;exact tail J b1 b2 b3
end
section
variable {w:World}
theorem fS.ne{B:Int}{v:Value}{xs:Array Value}(k:fS h B v)(e:v=.ref a)(j:h.get? b=some (seqObj "list" xs n)):a≠b:=by
 obtain⟨l,o,m,r,p,t,u,U,g,J,_⟩:=k;rw[e] at U;cases U;rintro rfl;rw[j] at g;cases g;have J:Value.type "list" = Value.type "tuple" := J;injection J with e
 exact absurd e (by decide)
theorem fS.keeps{B:Int}{v:Value}{xs:Array Value}(k:fS h B v)(U:h.get? b=some (seqObj "list" xs n))(g:∀c o,c≠b->h.get? c=some o->h'.get? c=some o):fS h' B v:=by have j:=k;obtain⟨a,o,m,r,p,t,u,J,l,C,I,T,e6⟩:=k;exact⟨a,o,m,r,p,t,u,J,g a o (j.ne J U) l,C,I,T,e6⟩
theorem yt{B:Int}{x:Keyed}{xs:Array Value}(k:fS h B x.1)(j:h.get? b=some (seqObj "list" xs n))(l:∀c o,c≠b->h.get? c=some o->h'.get? c=some o):num h' B x=num h B x:=by have C:=k;obtain⟨a,o,m,r,p,t,u,J,U,I,g,T,e6⟩:=k;rw[num_of J U g,num_of J (l a o (C.ne J j) U) g]
theorem dc{x:Keyed}(h:x∈vs.zip vs):x.1∈vs/\x.1=x.2:=by
 induction vs with
 |nil=>simp at h
 |cons v r J=>
  rw[List.zip_cons_cons] at h;rcases Am.mp h with rfl|h
  ·exact⟨Af ..,rfl⟩
  ·exact⟨Ac _ (J h).1,(J h).2⟩
theorem aif{B:Int}{P:PySem.Fin->Shared->Prop}(t:s.heap.get? a=some (seqObj "list" vs.toArray n))(hz:vs.length<=63)(hk:∀v∈vs,fS s.heap B v)
 (h:∀h' tk (xs:List Keyed) c,(∀b o,b≠a->s.heap.get? b=some o->h'.get? b=some o)->h'.get? a=some (seqObj "list" (List.toArray (xs.map (·.2))) c)->xs.Perm (vs.zip vs)->(xs.Pairwise λx y=>num s.heap B x<=num s.heap B y)->P (.done (.ret .none)) { s with heap:=h',toks:=tk }):
 wpAny (model prog w) A (Builtin.«list.sort» ⟨[.ref a],[]⟩) P E s:=by
 have big:(63:Nat)+1<=sizeLine:=by rw[sizeLine_eq];omega
 have zl:(vs.toArray.zip vs.toArray).toList=vs.zip vs:=by simp
 have s1:=vc s.heap a (Obj.mapSeq λ_=>(#[]:Array Value));obtain⟨e1,C⟩:∃e1,(s.heap.update a (Obj.mapSeq λ_=>(#[]:Array Value))).get? a=some (seqObj "list" #[] e1):=⟨_,get?_update_seq t λ_=>#[]⟩;obtain⟨J,j⟩:∃g,g=((s.heap.update a (Obj.mapSeq λ_=>(#[]:Array Value))).push (seqObj "tuple" vs.toArray 0)).push (seqObj "list" #[] 0):=⟨_,rfl⟩;have k3:∀b o,b≠a->s.heap.get? b=some o->J.get? b=some o:=λb o hb e=>by rw[j];exact r4 _ (r4 _ ((s1.2 b hb).trans e))
 have l:J.get? a=some (seqObj "list" #[] e1):=by rw[j];exact r4 _ (r4 _ C)
 have I:∀v∈vs,fS J B v:=λv hv=>(hk v hv).keeps t k3;have nk:∀x∈vs.zip vs,num J B x=num s.heap B x:=λx p=>yt (hk _ (dc p).1) t k3;have tail:∀st:SortSt,failedOf st=none->(arrOf st).toList.Perm (vs.zip vs)->((arrOf st).toList.Pairwise λx y=>num J B x<=num J B y)->
  ∀tk,P (.done (.ret .none)) { s with heap:=J.update a (Obj.mapSeq λ_=>(arrOf st).map (·.2)),toks:=tk }:=by
  intro st hf T hs tk;have s2:=vc J a (Obj.mapSeq λ_=>(arrOf st).map (·.2));obtain⟨c2,a0⟩:∃c2,(J.update a (Obj.mapSeq λ_=>(arrOf st).map (·.2))).get? a=some (seqObj "list" ((arrOf st).map (·.2)) c2):=⟨_,get?_update_seq l λ_=>(arrOf st).map (·.2)⟩;have em:(arrOf st).map (·.2)=List.toArray ((arrOf st).toList.map (·.2)):=by apply Array.toList_inj.mp;rw[Array.toList_map]
  refine h _ tk (arrOf st).toList c2 (λb o hb e=>(s2.2 b hb).trans (k3 b o hb e)) ?_ T ?_
  ·rw[em] at a0 ⊢;exact a0
  ·refine Cf (λ{x y} p hy z=>?_) hs;rw[nk x (T.mem_iff.mp p),nk y (T.mem_iff.mp hy)] at z;exact z
 have len:∀st:SortSt,(arrOf st).toList.Perm (vs.zip vs)->((arrOf st).map (·.2)).size<=sizeLine+1:=λst T=>by have:=T.length_eq;rw[CG,Bu] at this;rw[Array.size_map];omega
 rw[list_sort_plain];refine Aa (listItems_at t rfl ?_);refine Aa (listUpdate_at t rfl ?_ (by rw[Aq];omega) (Bd _));refine Aa (seqEpoch_at C rfl ?_);refine Aa (wpAny_newTuple ?_ (by show vs.length<=_;omega));refine Aa (wpAny_newList ?_ (Bd _));refine AY ?_;show wpAny (model prog w) A _ P E { s with heap:=((s.heap.update a (Obj.mapSeq λ_=>(#[]:Array Value))).push (seqObj "tuple" vs.toArray 0)).push (seqObj "list" #[] 0) };rw[<-j];dsimp only;by_cases r:vs.toArray.size<2
 ·rw[AF r,AF r];refine Aa (Ai ?_);rw[StateT.run_pure];refine Aa (Ai ?_);dsimp only;refine Aa (seqEpoch_at l rfl ?_);have pz:(arrOf (SortSt.mk' (tuples' true) (vs.toArray.zip vs.toArray) #[] 7 none)).toList.Perm (vs.zip vs):=by show(vs.toArray.zip vs.toArray).toList.Perm _;rw[zl]
  refine Aa (listUpdate_at l rfl ?_ (Bd _) (len _ pz));simp only[bne_self_eq_false,BD,if_false];refine Ai (tail (SortSt.mk' (tuples' true) (vs.toArray.zip vs.toArray) #[] 7 none) rfl pz ?_ _);show(vs.toArray.zip vs.toArray).toList.Pairwise _;rw[zl];rw[Aq] at r;have:(vs.zip vs).length<2:=by rw[CG];omega
  exact tX this
 ·rw[AG r,AG r];rw[Aq] at r;refine Aa (ae6 (s:={ s with heap:=J }) I (by omega) ?_);refine Aa (AZ (uF (E:=E) (uP (s:={ s with heap:=J }) (B:=B)) (st:=SortSt.mk' (tuples' true) (vs.toArray.zip vs.toArray) #[] 7 none)
   (Q:=λ_ U=>failedOf U=none/\(arrOf U).toList.Perm (vs.zip vs)/\((arrOf U).toList.Pairwise λx y=>num J B x<=num J B y)) (by show(vs.toArray.zip vs.toArray).size<64;simp;omega) rfl rfl rfl (λx p=>?_) λU b1 b2 b3=>⟨b1,?_,b3⟩) ?_ λ_ _ e=>e)
  ·have p:x∈(vs.toArray.zip vs.toArray).toList:=p;rw[zl] at p;exact fS.pair (I _ (dc p).1)
  ·have b2:(arrOf U).toList.Perm (vs.toArray.zip vs.toArray).toList:=b2;rw[zl] at b2;exact b2
  ·rintro⟨⟨⟩,U⟩ s' ⟨rfl,b1,b2,b3⟩;dsimp only;refine Aa (seqEpoch_at l rfl ?_);refine Aa (listUpdate_at l rfl ?_ (Bd _) (len _ b2));rw[b1];simp only[bne_self_eq_false,BD,if_false];exact Ai (tail U b1 b2 b3 _)
theorem w_sorted{B:Int}(hl:s.heap.IsList l vs.toArray)(hz:vs.length<=63)(hk:∀v∈vs,fS s.heap B v)
 (h:∀h' tk (xs:List Keyed) D c,s.heap.objs.size<=D->(∀b o,s.heap.get? b=some o->h'.get? b=some o)->h'.get? D=some (seqObj "list" (List.toArray (xs.map (·.2))) c)->xs.Perm (vs.zip vs)->(xs.Pairwise λx y=>num s.heap B x<=num s.heap B y)->Q (.ref D) { s with heap:=h',toks:=tk }):
 wpAny (model prog w) A (call (.builtin "sorted") [.ref l]) Q E s:=by
 have big:(63:Nat)+1<=sizeLine:=by rw[sizeLine_eq];omega
 refine Calls.call_function_entry kind_sorted plain_sorted entry_sorted (args_sorted1 _) ?_;unfold Builtin.«sorted»;refine Aa (m:=checkCount "sorted" 1 1 _) (Ai ?_);refine Aa (collect_list hl ?_ (by omega));refine Aa (wpAny_newList ?_ (by omega));obtain⟨g,I⟩:∃g,g=(s.heap.push (seqObj "list" #[] 0)).update s.heap.objs.size (Obj.mapSeq (· ++ vs.toArray)):=⟨_,rfl⟩;have gs:g.objs.size=s.heap.objs.size+1:=by rw[I,Heap.size_update,size_push']
 have gk:∀b o,s.heap.get? b=some o->g.get? b=some o:=λb o q=>by have J:b<s.heap.objs.size:=sx q;rw[I,Heap.get?_update_ne _ _ _ _ (A2 J)];exact r4 _ q
 show wpAny _ _ _ _ _ { s with heap:=((s.heap.push (seqObj "list" #[] 0)).update s.heap.objs.size (Obj.mapSeq (· ++ vs.toArray))).push (seqObj "list" vs.toArray 0) };rw[<-I];have U:(g.push (seqObj "list" vs.toArray 0)).get? g.objs.size=some (seqObj "list" vs.toArray 0):=sy _ rfl;have keep:∀b o,s.heap.get? b=some o->(g.push (seqObj "list" vs.toArray 0)).get? b=some o:=λb o q=>r4 _ (gk b o q);have kT:∀v∈vs,fS (g.push (seqObj "list" vs.toArray 0)) B v:=λv hv=>by obtain⟨a,o,m,r,p,t,u,j,C,r'⟩:=hk v hv;exact⟨a,o,m,r,p,t,u,j,keep _ _ C,r'⟩
 have nk:∀x∈vs.zip vs,num (g.push (seqObj "list" vs.toArray 0)) B x=num s.heap B x:=λx T=>by obtain⟨a,o,m,r,p,t,u,j,C,e3,e4,_⟩:=hk _ (dc T).1;rw[num_of j C e4,num_of j (keep _ _ C) e4]
 refine Aa (AY (wpAny_call_entry slot_list_sort ⟨_,U,rfl⟩ entry_list_sort ?body (args_list_sort _)))
 case body=>
  refine aif (s:={ s with heap:=g.push (seqObj "list" vs.toArray 0) }) U hz kT λh' tk xs c k1 hD pm pw=>?_;refine⟨_,rfl,Ai ⟨_,rfl,h h' tk xs g.objs.size c (by rw[gs];exact BV _) (λb o q=>k1 b o ?_ (keep b o q)) hD pm ?_⟩⟩
  ·have J:b<s.heap.objs.size:=sx q;intro z;rw[z,gs] at J;exact Nat.not_succ_lt_self J
  ·refine Cf (λ{x y} T hy z=>?_) pw;rw[nk x (pm.mem_iff.mp T),nk y (pm.mem_iff.mp hy)] at z;exact z
end
end TS
namespace L2
open PySem PySem.Spec PyProof.Rows
theorem pU(f:α->β):∀{l m:List β},l.Perm m->∀{T:List α},T.map f=m->∃g:List α,g.Perm T/\g.map f=l:=by
 intro l m p
 induction p with
 |nil=>intro T e;exact⟨T,BO _,e⟩
 |cons x _ C=>
  intro T e;cases T with
  |nil=>cases e
  |cons t r=>
   rw[AE] at e;obtain⟨J,U⟩:=BM e;obtain⟨g,I,e'⟩:=C U;exact⟨t::g,I.cons t,by rw[AE,e',J]⟩
 |swap x y l=>
  intro T e
  match T,e with
  |t::u::r,e=>
   rw[AE,AE] at e;obtain⟨J,U⟩:=BM e;obtain⟨e3,e4⟩:=BM U;exact⟨u::t::r,List.Perm.swap t u r,by rw[AE,AE,J,e3,e4]⟩
 |trans _ _ j o=>
  intro T e;obtain⟨T1,p1,J⟩:=o e;obtain⟨T2,p2,U⟩:=j J;exact⟨T2,p2.trans p1,U⟩
theorem gT{α β J:Type}{R:β->J->Prop}{g:α->β}{h:α->J}:∀{T:List α},(∀t∈T,R (g t) (h t))->Paired R (T.map g) (T.map h)
 |[],_=>.nil
 |t::_,k=>.cons (k t (Af ..)) (gT λu U=>k u (Ac _ U))
theorem iD{α β U:Type}{R:α->β->Prop}{S:α->U->Prop}:∀{xs:List α} {ys:List β} {zs:List U},Paired R xs ys->Paired S xs zs->∃T:List (α×β×U),T.map (·.1)=xs/\T.map (λt=>t.2.1)=ys/\T.map (λt=>t.2.2)=zs/\∀t∈T,R t.1 t.2.1/\S t.1 t.2.2
 |_,_,_,.nil,.nil=>⟨[],rfl,rfl,rfl,λt J=>by cases J⟩
 |_,_,_,.cons (a:=x) (b:=y) r p,.cons (b:=z) q g=>by
  obtain⟨T,j,l,o,k⟩:=iD p g;refine⟨(x,y,z)::T,by rw[AE,j],by rw[AE,l],by rw[AE,o],λt J=>?_⟩;rcases Am.mp J with rfl|J
  ·exact⟨r,q⟩
  ·exact k t J
theorem tM{α β:Type}{f:α->β}:∀{l:List α},(∀x∈l,∀y∈l,f x=f y->x=y)->l.Nodup->(l.map f).Nodup
 |[],_,_=>Di
 |a::r,h,n=>by obtain⟨U,g⟩:=Av.mp n;rw[AE];refine Av.mpr ⟨λz=>?_,tM (λx j y J=>h x (Ac _ j) y (Ac _ J)) g⟩;obtain⟨y,J,e⟩:=AL.mp z;have:=h y (Ac _ J) a (Af ..) e;exact U (this▸J)
def yA(p q:Int×Int):Prop:=p.1<q.1\/(p.1=q.1/\p.2<=q.2)
abbrev xV(K:Ah)(H:Hp)(v:V)(p:Int×Int):Prop:=∃a,v=.ref a/\cg K H a [.int p.1,.int p.2]
theorem amn{B:Int}{p q:Int×Int}(U:0<=p.2/\p.2<B)(g:0<=q.2/\q.2<B)(h:p.1*B+p.2<=q.1*B+q.2):yA p q:=by
 unfold yA;by_cases c:p.1<q.1
 ·exact .inl c
 ·right;by_cases d:q.1<p.1
  ·have J:(q.1+1)*B<=p.1*B:=Cn (by omega) (by omega);rw[Int.add_mul,Int.one_mul] at J;omega
  ·have e:p.1=q.1:=by omega
   rw[e] at h;exact⟨e,by omega⟩
def an7(X:Cx):List V->Hp->VK->Prop:=λxs H Q=>∃l ys ps,xs=[.ref l]/\aQ X.K H l ys/\Paired (xV X.K H) ys ps/\(∀p∈ps,0<=p.2/\p.2<1000000)/\ps.Nodup/\ys.length<=63/\
 ∀D zs J,H D=none->Paired (xV X.K H) zs J->J.Perm ps->J.Pairwise yA->Q (.ref D) (upd H D (.lst zs))
theorem vZ:xf X (.builtin "sorted") (an7 X):=by
 intro a3 s σ H xs us Q I r h;obtain⟨l,ys,ps,rfl,hl,pr,hb,a5,a0,q⟩:=h;obtain⟨u,rfl,ru⟩:=r.one;cases (show u=Value.ref l from ru);obtain⟨p,rv,pl,hz⟩:=I.list hl;have l1:ys.length=p.length:=rv.length;obtain⟨T,e1,e2,e3,kT⟩:=iD rv pr;have U:∀t∈T,(∃a o n g j,t.2.1=Value.ref a/\s.heap.get? a=some o/\o.cls=.type "tuple" /\ o.data=.seq #[.int t.2.2.1 g,.int t.2.2.2 j] n)/\0<=t.2.2.2/\t.2.2.2<1000000:=λt J=>by obtain⟨r1,a,ea,hs⟩:=kT t J;obtain⟨a4,a1,⟨o,g1,g2,n,g3⟩,_⟩:=I.tuple hs;obtain⟨w1,w2,rfl,x1,x2⟩:=a1.two;obtain⟨g,rfl⟩:=(show ∃g,w1=Value.int t.2.2.1 g from x1);obtain⟨j,rfl⟩:=(show ∃j,w2=Value.int t.2.2.2 j from x2);rw[ea] at r1;refine⟨⟨a,o,n,g,j,r1,g1,g2,g3⟩,?_⟩;exact hb _ (by rw[<-e3];exact CD (f:=λt:V×Value×(Int×Int)=>t.2.2) J)
 have nT:∀t∈T,TS.num s.heap 1000000 (t.2.1,t.2.1)=t.2.2.1*1000000+t.2.2.2:=λt J=>by obtain⟨⟨a,o,n,g,j,g0,g1,g2,g3⟩,_⟩:=U t J;exact TS.num_of g0 g1 g3
 have ez:p.zip p=T.map λt=>(t.2.1,t.2.1):=by rw[<-e2,List.zip_map']
 refine xg I.tk (TS.w_sorted (B:=1000000) pl.isList (by rw[<-l1];exact a0) (λv hv=>?_) λh' tk ks D c hD hk hg pm pw J=>?_)
 ·rw[<-e2] at hv;obtain⟨t,J,rfl⟩:=AL.mp hv;obtain⟨⟨a,o,n,g,j,g0,g1,g2,g3⟩,b1,b2⟩:=U t J;exact⟨a,o,n,_,_,g,j,g0,g1,g2,g3,b1,b2⟩
 ·rw[ez] at pm;obtain⟨T',pT,eT⟩:=pU _ pm rfl;subst eT;have C:∀t,t∈T'->t∈T:=λt=>pT.mem_iff.mp;have a2:=B8.mp pw;refine⟨.ref D,_,I.laid (t':=tk) (o:=.lst (T'.map (·.1))) hk hD ?_,rfl,q D (T'.map (·.1)) (T'.map λt=>t.2.2) (I.hok.fresh hD) (gT λt J=>(kT t (C t J)).2) ?_ ?_⟩
  ·refine⟨?_,T'.map (λt=>t.2.1),c,gT λt J=>(kT t (C t J)).1,?_⟩
   ·rw[Ab,pT.length_eq];have:T.length=ys.length:=by rw[<-e1,Ab]
    rw[this];exact hz
   ·rw[hg,Bz];rfl
  ·rw[<-e3];exact pT.map _
  ·refine B8.mpr (Cf (λ{x y} hx hy z=>?_) a2);rw[nT x (C x hx),nT y (C y hy)] at z;exact amn (U x (C x hx)).2 (U y (C y hy)).2 z
end L2
namespace L3
open PySem L2
def prY(p:Int×Int):Y:=.tup [.int p.1,.int p.2]
theorem ud{G:G3}{H:Hp}:∀{ps:List (Int×Int)} {xs:List V},xp G H (ps.map prY) xs->Paired (xV G.K H) xs ps
 |[],_,h=>by cases (show _=[] from h);exact .nil
 |p::r,_,⟨x,g,e,⟨a,zs,j,l,o,t,C,J,I,T,e2,U,e3⟩,s⟩=>by subst e j C e2 e3;cases (show o=V.int p.1 from J);cases (show I=V.int p.2 from U);exact .cons ⟨a,rfl,l⟩ (ud s)
theorem sY{G:G3}{H:Hp}:∀{ps:List (Int×Int)} {xs:List V},Paired (xV G.K H) xs ps->xp G H (ps.map prY) xs
 |_,_,.nil=>rfl
 |_,_,.cons ⟨a,J,U⟩ t=>by subst J;exact⟨_,_,rfl,⟨a,_,rfl,U,_,_,rfl,rfl,_,_,rfl,rfl,rfl⟩,sY t⟩
def qR(xs:List Y)(L:qu)(Q:YK):Prop:=match xs with
 |[.ref a]=>dR L a λys=>∃ps:List (Int×Int),ys=ps.map prY/\(∀p∈ps,0<=p.2/\p.2<1000000)/\ps.Nodup/\ps.length<=63/\∀(D:Addr) (J:List (Int×Int)),L D=none->J.Perm ps->J.Pairwise yA->Q (.ref D) (qh L D (.lst (J.map prY)))
 |_=>False
theorem zU:bootBuiltins "sorted"=some (.builtin "sorted"):=by decide +kernel
theorem ahv :xf X (.builtin "sorted") (upL X.g3 qR):=EY vZ λxs H Q ys L Q3 j rl z k=>by
 unfold qR at z;split at z
 ·rename_i a;obtain⟨l,e,o,rfl,p,U,J,z⟩:=v4 z;obtain⟨t,C,r⟩:=rl a _ e;obtain⟨u,rfl,I⟩:=j.inv1;cases (show u=V.ref a from I);have T:=ud r;exact⟨a,t,o,rfl,aQ.of C,T,p,U,by rw[<-r.length,Ab];exact J,λD l qs g pz pm pw=>k _ _ _ _ (DY g) (rl.newL g (sY pz)) (by rfl) (z D qs (rl.none g) pm pw)⟩
 ·exact z.elim
open PySem L2 Words
def bx:Wd->Y
 |.leaf t n=>.tup [.str (kL t),.str n]
 |.node e l r=>.tup [.str (kN e),bx l,bx r]
def gC:Y:=(.tup [(.str "plain"),(.str "turned")])
theorem qo{Q:α->qu->Prop}{o:Option α}{v:α}(e:o=some v)(h:Q v L):yU L Q o:=by rw[e];exact h
abbrev jl(i:Int):vd:=yC (.int i)
abbrev dg(x:Str):vd:=yC (.str x)
abbrev x4(i:Nat)(n:Int):vd:=zk ai (qa i) (yC (.int n))
abbrev cq(i:Nat):vd:=iW oS (qd (qa i) zb)
abbrev gd(a b:vd):lE:=yB (zk (yH false) a b)
abbrev rdN(a b:vd):lE:=yB (zk (yH true) a b)
abbrev rdT(a b:vd):vd:=k8 (qd a (qd b zb))
abbrev xu(a:vd):eY:=qd a zb
abbrev aW(a b:vd):eY:=qd a (qd b zb)
def ab6:ku:=(jb (zk (mL false) (x4 0 0) (yC gC)))
def kX:Bool->Bool->Str
 |true,t=>kL t
 |false,e=>kN e
def gN:jn:=λys L Q=>∃lf b rest,ys=[.tup (.str (kX lf b)::rest)]/\Q (.bl lf) L
theorem ab8(t:Bool):wC (.str (kL t)) [.str "plain",.str "turned"]=true:=by cases t<;>decide +kernel
theorem abf(t:Bool):wC (.str (kN t)) [.str "plain",.str "turned"]=false:=by cases t<;>decide +kernel
theorem wN:∀ys L Q,gN ys L Q->xl ab6 1 ys L Q:=by
 rintro ys L Q ⟨lf,b,rest,rfl,q⟩;have J:iL (Y.str (kX lf b)::rest) 0=some (Y.str (kX lf b)):=xq (xs:=Y.str (kX lf b)::rest) (j:=0) rfl;walk_at "w";rw[J];refine⟨rfl,rfl,xi ?_⟩;cases lf with
 |true=>
  rw[show nb false (wC (gf (.str (kX true b))) ([Y.str "plain",.str "turned"].map gf))=true from ab8 b];exact q
 |false=>
  rw[show nb false (wC (gf (.str (kX false b))) ([Y.str "plain",.str "turned"].map gf))=false from abf b];exact q
theorem aa2(t:Bool):List.lookup (kL t) [(("plain" : Str),("turned" : Str)),("turned","plain"),("both","either"),("either","both")]=some (kL (!t)):=by cases t<;>decide +kernel
theorem yp(t:Bool):List.lookup (kN t) [(("plain" : Str),("turned" : Str)),("turned","plain"),("both","either"),("either","both")]=some (kN (!t)):=by cases t<;>decide +kernel
theorem jd.str(x:Str):jd L n (.str x) (.s (.str x)):=by cases n with|zero=>exact⟨rfl,rfl⟩|succ n=>exact .inl ⟨rfl,rfl⟩
abbrev EN:=@jd.str
theorem jd.int(x:Int):jd L n (.int x) (.s (.int x)):=by cases n with|zero=>exact⟨rfl,rfl⟩|succ n=>exact .inl ⟨rfl,rfl⟩
abbrev EJ:=@jd.int
theorem hW{L:qu}:∀{wd:Wd} {n:Nat},wd.depth<=n->jd L n (bx wd) (qE wd)
 |.leaf t nm,n+1,_=>.inr (.inl ⟨_,_,rfl,rfl,.cons (EN _) (.cons (EN _) .nil)⟩)
 |.node e l r,n+1,h=>by have J:max l.depth r.depth+1<=n+1:=h;exact .inr (.inl ⟨_,_,rfl,rfl,.cons (EN _) (.cons (hW (by lia)) (.cons (hW (by lia)) .nil))⟩)
theorem jw(e:L a=some (.lst ys))(p:Paired (jd L n) ys ds):jd L (n+1) (.ref a) (.lst ds):=.inr (.inr ⟨ys,ds,rfl,rfl,a9 e,p⟩)
theorem aB(p:Paired (jd L n) ys ds):jd L (n+1) (.tup ys) (.tup ds):=.inr (.inl ⟨ys,ds,rfl,rfl,p⟩)
theorem af2{neg:Bool}{u v:Wd}{Q:YK}(U:u.depth<=128)(q:Q (.bl (nb neg (Da.eq (qE u) (qE v)))) L):yH neg (bx u) (bx v) L Q:=by
 have J:∀w:Wd,aad (bx w)=true:=λw=>by cases w<;>rfl
 have:aad (bx u)=true/\aad (bx v)=true/\∃n m d e,n<=128/\jd L n (bx u) d/\jd L m (bx v) e/\Q (.bl (nb neg (Da.eq d e))) L:=
  ⟨J u,J v,u.depth,v.depth,qE u,qE v,U,hW (Al _),hW (Al _),q⟩
 cases u<;>cases v<;>exact this
theorem wf{neg:Bool}{zs:List Y}{es:List Da}{Q:YK}(J:n<128)(U:L a=some (.lst ys))(g:L b=some (.lst zs))(pa:Paired (jd L n) ys ds)(pb:Paired (jd L m) zs es)(q:Q (.bl (nb neg (Da.eqs ds es))) L):
 yH neg (.ref a) (.ref b) L Q:=⟨rfl,rfl,n+1,m+1,_,_,J,jw U pa,jw g pb,q⟩
def nY(hs:List Nat):List Y:=hs.map λn:Nat=>.int (n:Int)
theorem wb(hs:List Nat):(nY hs).length=hs.length:=by unfold nY;rw[Ab]
theorem jf{p:Addr}{o:LO}(h:qh L a o p=none):L p=none:=by
 by_cases c:p=a
 ·subst c;rw[q8] at h;cases h
 ·rw[qb c] at h;exact h
theorem j6{l:List α}{x:α}(h:l[i]?=some x):i<l.length:=(AV.mp h).1
def vE:ku:=(jb (zk az (zk w5 (zk o9 (zk km (zk km (zk o9 (zk w5 (qa 0) (jl 1000003)) (jl 7)) (zk o9 (qa 1) (qa 1))) (jl 1)) (qa 2)) (jl 2147483647)) (jl 16)))
def oq(J:jn):ku:=(qt (xt (gd (cq 0) (jl 2)) (jb (jl 1)) jv)
 (jb (zk km (zk km (jl 1) (qz J (xu (x4 0 1)))) (qz J (xu (x4 0 2))))))
def uw(J:jn):ku:=(qt (zg (zk ai (qa 0) (qa 1)) (qe 2))
 (qt (xt (gd (cq 2) (jl 2)) (jb (qa 2)) jv)
 (jb (k8 (qd (x4 2 0) (qd (qz J (aW (qa 0) (x4 2 1))) (qd (qz J (aW (qa 0) (x4 2 2))) zb)))))))
def mV:jn:=λys L Q=>∃c k f:Int,ys=[.int c,.int k,.int f]/\0<=k/\k<1000000/\0<f/\f<1000000/\∀v,0<=v->v<134217728->Q (.int v) L
theorem amy:∀ys L Q,mV ys L Q->xl vE 3 ys L Q:=by
 rintro ys L Q ⟨c,k,f,rfl,J,U,g,j,q⟩;refine⟨(by decide:(0:Int)<1000003),.inr ⟨by decide,by decide⟩,.inl ⟨by lia,by lia⟩,.inr ⟨by lia,by lia⟩,(by decide:(0:Int)<2147483647),⟨by decide,by decide⟩,xi (q _ ?_ ?_)⟩
 all_goals
  generalize ((c % 1000003*7+k*k+1)*f)=z;lia
theorem ad3(cs:List Nat):(Txt.join "" (cs.map λc=>(⟨#[c]⟩:Str))).cps.toList=cs:=by
 rw[rS]
 induction cs with|nil=>rfl|cons c r J=>rw[AE,AM,J];rfl
def cU(n:Nat):jn:=λys L Q=>∃wd,ys=[bx wd]/\wd.depth<=n/\Q (.int wd.size) L
theorem o6:∀ys L Q,¬cU 0 ys L Q:=λys L Q ⟨J,_,hd,_⟩=>by cases J<;>simp[Wd.depth] at hd
theorem aav(n:Nat):∀ys L Q,cU (n+1) ys L Q->xl (oq (cU n)) 1 ys L Q:=by
 rintro ys L Q ⟨J,rfl,hd,q⟩;cases J with
 |leaf t n=>exact xi q
 |node e l r=>
  have U:max l.depth r.depth+1<=n+1:=hd;refine⟨l,rfl,by lia,r,rfl,by lia,xi ?_⟩;have e:(1+(l.size:Int)+(r.size:Int))=(((Wd.node e l r).size:Nat):Int):=by show _=((1+l.size+r.size:Nat):Int);rfl
  rw[e];exact q
def KW(ks:List Y):Nat->Wd->Prop
 |p,.leaf t n=>ks[p]?=some (.tup [.str (kL t),.str n])
 |p,.node e l r=>∃i j:Nat,ks[p]?=some (.tup [.str (kN e),.int i,.int j])/\KW ks i l/\KW ks j r
theorem KW.more{ks:List Y}(ms:List Y):∀{wd:Wd} {p:Nat},KW ks p wd->KW (ks++ms) p wd
 |.leaf _ _,p,h=>by have J:ks[p]?=some _:=h;show(ks++ms)[p]?=some _;rw[AB (AV.mp J).1];exact J
 |.node _ _ _,p,⟨i,j,h,a,b⟩=>⟨i,j,by rw[AB (AV.mp h).1];exact h,KW.more ms a,KW.more ms b⟩
def aY(n:Nat):jn:=λys L Q=>∃k ks p wd,ys=[.ref k,.int ((p:Nat):Int)]/\L k=some (.lst ks)/\KW ks p wd/\wd.depth<=n/\Q (bx wd) L
theorem xF:∀ys L Q,¬aY 0 ys L Q:=λys L Q ⟨k,U,p,J,_,_,_,hd,_⟩=>by cases J<;>simp[Wd.depth] at hd
theorem rL:∀ys L Q,¬aY 0 ys L Q:=xF
theorem uE(n:Nat):∀ys L Q,aY (n+1) ys L Q->xl (uw (aY n)) 3 ys L Q:=by
 rintro ys L Q ⟨k,U,p,g,rfl,J,h,hd,q⟩;cases g with
 |leaf t nm=>exact qc J (qo (xq h) (xi q))
 |node e l r=>
  obtain⟨i,j,h,o,C⟩:=h;have I:max l.depth r.depth+1<=n+1:=hd;exact qc J (qo (xq h) ⟨k,U,i,l,rfl,J,o,by lia,k,U,j,r,rfl,J,C,by lia,xi q⟩)
def mkS(l:List Nat):Str:=⟨l.toArray⟩
theorem yK(x:Str):mkS x.cps.toList=x:=by cases x;rfl
theorem sIx_nat(h:i<=n):HT.sIx n d (some (i:Int))=i:=by have:=uX (i:Int) n d;lia
def aja(J:jn):ku:=(qt (zg (akx [("plain","turned"),("turned","plain"),("both","either"),("either","both")]) (qe 1))
 (qt (xt (gd (cq 0) (jl 2)) (jb (k8 (qd (zk ai (qa 1) (x4 0 0)) (xu (x4 0 1))))) jv)
 (jb (k8 (qd (zk ai (qa 1) (x4 0 0)) (qd (qz J (xu (x4 0 1))) (qd (qz J (xu (x4 0 2))) zb)))))))
def acl(J:jn)(p1:jn):ku:=(qt (xt (gd (cq 1) (jl 2)) (qt (jr (aj jc (qa 0) (qd (qz J (xu (qa 1))) zb)))
 (qt (jr (aj jc (qa 0) (xu (qa 1))))
 (jb (ju (qd (k8 (qd (dg "link") (qd (zk gY (cq 0) (jl 2)) (qd (zk gY (cq 0) (jl 1)) zb)))) (qd (zk gY (cq 0) (jl 2)) (qd (zk gY (cq 0) (jl 1)) zb))))))) jv)
 (qt (zg (qz p1 (aW (qa 0) (x4 1 1))) (qe 2))
 (qt (zg (qz p1 (aW (qa 0) (x4 1 2))) (qe 3))
 (qt (jr (aj jc (qa 0) (qd (k8 (qd (zk ai (qz J (xu (qa 1))) (jl 0)) (aW (x4 2 1) (x4 3 1)))) zb)))
 (qt (jr (aj jc (qa 0) (qd (k8 (qd (x4 1 0) (aW (x4 2 2) (x4 3 2)))) zb)))
 (qt (ajz 4 5 (qd (zk gY (cq 0) (jl 2)) (qd (zk gY (cq 0) (jl 1)) zb)))
 (qt (zg (yIf (gd (x4 1 0) (dg "either")) (qa 4) (qa 5)) (qe 6))
 (qt (zg (yIf (gd (x4 1 0) (dg "either")) (qa 5) (qa 4)) (qe 7))
 (jb (ju (qd (k8 (qd (dg "either") (qd (qa 7) (qd (k8 (qd (dg "both") (qd (qa 6) (aW (x4 2 0) (x4 3 0))))) zb)))) (aW (qa 4) (qa 5)))))))))))))
inductive Kn where
 |lf (t:Bool) (n:Str)|nd (e:Bool) (i j:Nat)
def m9:Kn->Y
 |.lf t n=>.tup [.str (kL t),.str n]
 |.nd e i j=>.tup [.str (kN e),.int ((i:Nat):Int),.int ((j:Nat):Int)]
inductive Ru where
 |link (p q:Nat)|ei (r:Nat) (A:Ru)|bo (r:Nat) (A B:Ru)|cu (p q:Nat) (A B:Ru)
def qj:Ru->Y
 |.link p q=>.tup [.str "link",.int ((p:Nat):Int),.int ((q:Nat):Int)]
 |.ei r A=>.tup [.str "either",.int ((r:Nat):Int),qj A]
 |.bo r A B=>.tup [.str "both",.int ((r:Nat):Int),qj A,qj B]
 |.cu p q A B=>.tup [.str "cut",.int ((p:Nat):Int),.int ((q:Nat):Int),qj A,qj B]
def qk:Ru->List Nat
 |.link p q=>[p,q]
 |.ei r A=>r::qk A
 |.bo r A B=>r::(qk A++qk B)
 |.cu _ _ A B=>qk A++qk B
abbrev ji(ks:List Kn):List Y:=ks.map m9
def ck(ks:List Kn)(p:Nat)(w:Wd):Prop:=KW (ji ks) p w
theorem ck.more{ks:List Kn}{p:Nat}{w:Wd}(h:ck ks p w)(ms:List Kn):ck (ks++ms) p w:=by unfold ck ji;rw[Ak];exact KW.more _ h
def dZ(ks:List Kn):Prop:=∀(p:Nat) (k:Kn),ks[p]?=some k->match k with
 |.lf _ n=>fO n
 |.nd _ i j=>i<p/\j<p
theorem dZ.snoc{ks:List Kn}{k:Kn}(h:dZ ks)(J:match k with|.lf _ n=>fO n|.nd _ i j=>i<ks.length/\j<ks.length):dZ (ks++[k]):=by
 intro p U e;by_cases c:p<ks.length
 ·rw[AB c] at e;exact h p U e
 ·rw[Ax (by exact agj)] at e;have c2:p=ks.length:=by
   by_cases c3:p-ks.length=0
   ·omega
   ·rw[BY (by simp;exact auz)] at e;cases e
  subst c2;rw[B9] at e;cases e;exact J
theorem fJ(l:List α)(x:α)(r:List α):(l++x::r)[l.length]?=some x:=by rw[Ax (Al _),B9];rfl
theorem mJ{l r:List α}{p:Nat}{x:α}(h:l[p]?=some x):(l++r)[p]?=some x:=by rw[AB (AV.mp h).1];exact h
inductive SR(ks:List Kn):Ru->List Nat->Prop
 |link {p q:Nat} {t:Bool} {n:Str} {E:List Nat}:p<q->ks[p]?=some (.lf t n)->ks[q]?=some (.lf (!t) n)->(∀x,x∈E↔x=p\/x=q)->E.Nodup->SR ks (.link p q) E
 |ei {r i j:Nat} {A:Ru} {EA E:List Nat}:ks[r]?=some (.nd true i j)->SR ks A EA->i∈EA->j∈EA->i≠j->(∀x,x∈E↔(x∈EA/\x≠i/\x≠j)\/x=r)->E.Nodup->SR ks (.ei r A) E
 |bo {r i j:Nat} {A B:Ru} {EA EB E:List Nat}:ks[r]?=some (.nd false i j)->SR ks A EA->SR ks B EB->i∈EA->j∈EB->(∀x,x∈E↔(x∈EA/\x≠i)\/(x∈EB/\x≠j)\/x=r)->E.Nodup->SR ks (.bo r A B) E
 |cu {p q:Nat} {A B:Ru} {EA EB E:List Nat} {w:Wd}:SR ks A EA->SR ks B EB->p∈EA->q∈EB->ck ks p w->ck ks q w.turn->(∀x,x∈E↔(x∈EA/\x≠p)\/(x∈EB/\x≠q))->E.Nodup->SR ks (.cu p q A B) E
theorem SR.more{ks:List Kn}{R:Ru}{E:List Nat}(h:SR ks R E)(ms:List Kn):SR (ks++ms) R E:=by induction h with|link l t o J U=>exact .link l (mJ t) (mJ o) J U|ei l _ o J U p r C=>exact .ei (mJ l) C o J U p r|bo l _ _ J U p r g j=>exact .bo (mJ l) g j J U p r|cu _ _ o J U p r I g j=>exact .cu g j o J (U.more ms) (p.more ms) r I
theorem SR.sub{ks:List Kn}{R:Ru}{E:List Nat}(h:SR ks R E):∀x∈E,x∈qk R:=by
 induction h with
 |link _ _ _ l _=>intro x J;rcases (l x).mp J with rfl|rfl<;>simp[qk]
 |ei _ _ _ _ _ j _ o=>intro x J;rcases (j x).mp J with⟨h,_⟩|rfl;exact Ac _ (o x h);exact Af ..
 |bo _ _ _ _ _ j _ U g=>
  intro x J;rcases (j x).mp J with⟨h,_⟩|⟨h,_⟩|rfl
  ·exact Ac _ (Ar _ (U x h))
  ·exact Ac _ (Ae _ (g x h))
  ·exact Af ..
 |cu _ _ _ _ _ _ p _ U g=>
  intro x J;rcases (p x).mp J with⟨h,_⟩|⟨h,_⟩
  ·exact Ar _ (U x h)
  ·exact Ae _ (g x h)
def cT(n:Nat):jn:=λys L Q=>∃wd,ys=[bx wd]/\wd.depth<=n/\Q (bx wd.turn) L
theorem agk:∀ys L Q,¬cT 0 ys L Q:=λys L Q ⟨J,_,hd,_⟩=>by cases J<;>simp[Wd.depth] at hd
theorem vK(t:Bool):wn ([(("plain" : Str),("turned" : Str)),("turned","plain"),("both","either"),("either","both")].map λp=>((Sum.inr p.1:jm),Y.str p.2)) (Sum.inr (kL t))=some (.str (kL (!t))):=jT (aa2 t)
theorem vS(t:Bool):wn ([(("plain" : Str),("turned" : Str)),("turned","plain"),("both","either"),("either","both")].map λp=>((Sum.inr p.1:jm),Y.str p.2)) (Sum.inr (kN t))=some (.str (kN (!t))):=jT (yp t)
theorem adl(n:Nat):∀ys L Q,cT (n+1) ys L Q->xl (aja (cT n)) 2 ys L Q:=by
 rintro ys L Q ⟨U,rfl,hd,q⟩;intro p J;cases U with
 |leaf t nm=>
  refine xa q8 (qo (vK t) ?_);exact wr (By J) q
 |node e l r=>
  have g:max l.depth r.depth+1<=n+1:=hd;refine xa q8 (qo (vS e) ?_);refine⟨l,rfl,by lia,r,rfl,by lia,?_⟩;exact wr (By J) q
structure Mir(ks:List Kn)(w:Wd)(ms:List Kn)(R:Ru)(tp sp:Nat):Prop where
 len:ms.length=2*w.size
 sr:SR (ks++ms) R [tp,sp]
 wt:ck (ks++ms) tp w.turn
 ws:ck (ks++ms) sp w
 tm:∀x,x∈qk R↔ks.length<=x/\x<ks.length+ms.length
 nd:(qk R).Nodup
 ok:dZ (ks++ms)
theorem ck.leaf{ks:List Kn}{p:Nat}{n:Str}(h:ks[p]?=some (.lf t n)):ck ks p (.leaf t n):=by show(ji ks)[p]?=_;rw[An,h];rfl
theorem ck.node{ks:List Kn}{p:Nat}{e:Bool}{l r:Wd}(h:ks[p]?=some (.nd e i j))(J:ck ks i l)(U:ck ks j r):ck ks p (.node e l r):=by refine⟨i,j,?_,J,U⟩;rw[An,h];rfl
abbrev EX:=@ck.node
theorem u9{ks:List Kn}(j:dZ ks){n:Str}(J:fO n):Mir ks (.leaf t n) [.lf (!t) n,.lf t n] (.link ks.length (ks.length+1)) ks.length (ks.length+1):=by
 have U:(ks++[Kn.lf (!t) n,.lf t n])[ks.length]?=some (.lf (!t) n):=fJ _ _ _;have g:(ks++[Kn.lf (!t) n,.lf t n])[ks.length+1]?=some (.lf t n):=by have:=fJ (ks++[Kn.lf (!t) n]) (Kn.lf t n) [];rw[Ad,AD] at this;exact this
 refine⟨rfl,.link (t:=!t) (n:=n) (by exact Co _) U (by rw[Bool.not_not];exact g) (by simp) (by simp),ck.leaf U,ck.leaf g,λx=>?_,by simp[qk],?_⟩
 ·show x∈[ks.length,ks.length+1]↔ks.length<=x/\x<ks.length+2;simp;lia
 ·have:=(j.snoc (k:=.lf (!t) n) J).snoc (k:=.lf t n) J;rw[AD] at this;exact this
theorem SR.nod{ks:List Kn}{R:Ru}{E:List Nat}(h:SR ks R E):E.Nodup:=by cases h<;>assumption
theorem avz{x h lo a r N:Nat}(J:(h=N/\lo=N+1)\/(h=N+1/\lo=N))(U:N=a+m+r):x=h\/x=lo\/(a<=x/\x<a+m)\/a+m<=x/\x<a+m+r↔a<=x/\x<N+2:=by subst U;rcases J with⟨rfl,rfl⟩|⟨rfl,rfl⟩<;>lia
theorem aty{x a b c N:Nat}(h:a≠b)(k:c≠d):x∈[b,d,N]↔(x∈[a,b]/\x≠a)\/(x∈[c,d]/\x≠c)\/x=N:=by simp only[Am,Bs,or_false];lia
theorem as1{x a b c N:Nat}(h:a≠b)(k:c≠d):x∈[a,c,N]↔(x∈[a,b]/\x≠b)\/(x∈[c,d]/\x≠d)\/x=N:=by simp only[Am,Bs,or_false];lia
theorem ary{x a b N M:Nat}(h:a<N)(k:b<N):x∈[N,M]↔(x∈[a,b,N]/\x≠a/\x≠b)\/x=M:=by simp only[Am,Bs,or_false];lia
theorem aut{x a b N M:Nat}(h:a<N)(k:b<N):x∈[M,N]↔(x∈[a,b,N]/\x≠a/\x≠b)\/x=M:=by simp only[Am,Bs,or_false];lia
theorem ar3{a b N:Nat}(h:a<N)(k:b<N)(d:a≠b):[a,b,N].Nodup:=by rw[Av,Av];simp;lia
theorem avn{a r N t s u v:Nat}(J:a<=t/\t<a+m)(U:a<=s/\s<a+m)(b1:a+m<=u/\u<a+m+r)(b2:a+m<=v/\v<a+m+r)(g:N=a+m+r):t<N/\s<N/\u<N/\v<N/\t≠u/\s≠v:=by lia
theorem ar5{h lo a r N:Nat}(J:(h=N/\lo=N+1)\/(h=N+1/\lo=N))(U:N=a+m+r):¬(h=lo\/(a<=h/\h<a+m)\/a+m<=h/\h<a+m+r)/\¬((a<=lo/\lo<a+m)\/a+m<=lo/\lo<a+m+r):=by lia
theorem au5{x y a r:Nat}(h1:a<=x/\x<a+m)(h2:a+m<=y/\y<a+m+r)(e:x=y):False:=by lia
theorem adf{ks J j:List Kn}{e:Bool}{l r:Wd}{A B:Ru}{tl U tr g:Nat}(t:Mir ks l J A tl U)(p:Mir (ks++J) r j B tr g){N:Nat}(hN:N=ks.length+(J++j).length):
 Mir ks (.node e l r) (J++j++[.nd (!e) tl tr,.nd e U g]) (.ei (if e=true then N+1 else N) (.bo (if e=true then N else N+1) A B)) N (N+1):=by
 have hA:∀x∈[tl,U],ks.length<=x/\x<ks.length+J.length:=λx T=>(t.tm x).mp (t.sr.sub x T);have hB:∀x∈[tr,g],ks.length+J.length<=x/\x<ks.length+J.length+j.length:=λx T=>by have:=(p.tm x).mp (p.sr.sub x T);rw[Ad] at this;exact this
 have a1:=hA tl (by simp);have a2:=hA U (by simp);have b1:=hB tr (by simp);have b2:=hB g (by simp);have nA:tl≠U:=by have:=t.sr.nod;simpa using this
 have nB:tr≠g:=by have:=p.sr.nod;simpa using this
 have C:N=ks.length+J.length+j.length:=by rw[hN,Ad];simp +arith only
 obtain⟨d1,d2,d3,d4,d5,d6⟩:=avn a1 a2 b1 b2 C;generalize o:ks++(J++j++[Kn.nd (!e) tl tr,.nd e U g])=K;have k1:K=(ks++J)++(j++[Kn.nd (!e) tl tr,.nd e U g]):=by rw[<-o];simp
 have k2:K=((ks++J)++j)++[Kn.nd (!e) tl tr,.nd e U g]:=by rw[<-o];simp
 have k3:K=(((ks++J)++j)++[Kn.nd (!e) tl tr])++[.nd e U g]:=by rw[<-o];simp
 have l2:((ks++J)++j).length=N:=by rw[Ad,Ad];lia
 have g1:K[N]?=some (.nd (!e) tl tr):=by rw[k2,<-l2];exact fJ _ _ _
 have g2:K[N+1]?=some (.nd e U g):=by
  have l3:(((ks++J)++j)++[Kn.nd (!e) tl tr]).length=N+1:=by rw[Ad,l2];rfl
  rw[k3,<-l3];exact fJ _ _ _
 have sA:SR K A [tl,U]:=by rw[k1];exact t.sr.more _
 have sB:SR K B [tr,g]:=by rw[k2];exact p.sr.more _
 have a0:dZ K:=by have o1:=p.ok.snoc (k:=.nd (!e) tl tr) (by show tl<((ks++J)++j).length/\tr<((ks++J)++j).length;rw[l2];exact⟨d1,d3⟩);have o2:=o1.snoc (k:=.nd e U g) (by show U<_/\g<_;rw[Ad,l2];exact⟨BR d2,BR d4⟩);rw[k3];exact o2
 have tA:=t.tm;have tB:=p.tm;rw[Ad] at tB;have wt:ck K N (Wd.node e l r).turn:=EX g1 (by rw[k1];exact t.wt.more _) (by rw[k2];exact p.wt.more _);have a3:ck K (N+1) (Wd.node e l r):=EX g2 (by rw[k1];exact t.ws.more _) (by rw[k2];exact p.ws.more _);have I:(J++j++[Kn.nd (!e) tl tr,.nd e U g]).length=2*(Wd.node e l r).size:=by have h1:=t.len;have h2:=p.len;show _=2*(1+l.size+r.size);rw[Ad,Ad];simp;lia
 have lt:ks.length+(J++j++[Kn.nd (!e) tl tr,.nd e U g]).length=N+2:=by rw[Ad];simp[hN];rfl
 have tt:∀h lo:Nat,(h=N/\lo=N+1)\/(h=N+1/\lo=N)->(∀x,x∈qk (.ei h (.bo lo A B))↔ks.length<=x/\x<ks.length+(J++j++[Kn.nd (!e) tl tr,.nd e U g]).length)/\(qk (.ei h (.bo lo A B))).Nodup:=by
  intro h lo hh;constructor
  ·intro x;rw[lt];show x∈h::lo::(qk A++qk B)↔_;rw[Am,Am,Ap,tA,tB];exact avz hh C
  ·show(h::lo::(qk A++qk B)).Nodup;rw[Av,Av,Au];refine⟨?_,?_,t.nd,p.nd,λx T y hy e=>?_⟩
   ·rw[Am,Ap,tA,tB];exact(ar5 hh C).1
   ·rw[Ap,tA,tB];exact(ar5 hh C).2
   ·exact au5 ((tA x).mp T) ((tB y).mp hy) e
 cases e with
 |true=>
  have s1:SR K (.bo N A B) [U,g,N]:=by exact .bo g1 sA sB (by simp) (by simp) (λx=>aty nA nB) (ar3 d2 d4 d6)
  have s2:SR K (.ei (N+1) (.bo N A B)) [N,N+1]:=by exact .ei g2 s1 (by simp) (by simp) d6 (λx=>ary d2 d4) (by simp)
  obtain⟨t1,t2⟩:=tt (N+1) N (.inr ⟨rfl,rfl⟩);exact⟨I,by rw[o];exact s2,by rw[o];exact wt,by rw[o];exact a3,t1,t2,by rw[o];exact a0⟩
 |false=>
  have s1:SR K (.bo (N+1) A B) [tl,tr,N+1]:=by exact .bo g2 sA sB (by simp) (by simp) (λx=>as1 nA nB) (ar3 (BR d1) (BR d3) d5)
  have s2:SR K (.ei N (.bo (N+1) A B)) [N,N+1]:=by exact .ei g1 s1 (by simp) (by simp) d5 (λx=>aut (BR d1) (BR d3)) (by simp)
  obtain⟨t1,t2⟩:=tt N (N+1) (.inl ⟨rfl,rfl⟩);exact⟨I,by rw[o];exact s2,by rw[o];exact wt,by rw[o];exact a3,t1,t2,by rw[o];exact a0⟩
def cB(n:Nat):jn:=λys L Q=>∃a,∃ks:List Kn,∃w:Wd,ys=[.ref a,bx w]/\L a=some (.lst (ji ks))/\w.depth<=n/\n<=120/\w.ok/\dZ ks/\ks.length+2*w.size<=10000/\
 ∀ms R tp sp p,L p=none->Mir ks w ms R tp sp->Q (.ref p) (qh (qh L a (.lst (ji (ks++ms)))) p (.lst [qj R,.int ((tp:Nat):Int),.int ((sp:Nat):Int)]))
theorem zO:∀ys L Q,¬cB 0 ys L Q:=λys L Q ⟨a,U,J,_,_,hd,_⟩=>by cases J<;>simp[Wd.depth] at hd
theorem bg_:∀m:Nat,m<=20000->m<sizeLine:=λm h=>Cr h (by decide)
theorem abg(n:Nat):∀ys L Q,cB (n+1) ys L Q->xl (acl (cT 120) (cB n)) 8 ys L Q:=by
 rintro ys L Q ⟨a,J,w,rfl,ha,hd,hn,a1,hk,hb,q⟩;have big:=bg_;cases w with
 |leaf t nm=>
  have hb:J.length+2*1<=10000:=hb;refine qc ha ⟨.leaf t nm,rfl,by exact DH _,qr ha ⟨big _ (by rw[Ab];lia),?_⟩⟩;refine qc q8 (qr q8 ⟨big _ (by rw[Ad,Ab];simp;lia),?_⟩);rw[xz];have e1:(ji J++[bx (Wd.leaf t nm).turn])++[bx (.leaf t nm)]=ji (J++[.lf (!t) nm,.lf t nm]):=by unfold ji;rw[Ak,AD];rfl
  have e2:(ji (J++[Kn.lf (!t) nm,.lf t nm])).length=J.length+2:=by rw[Ab,Ad];rfl
  have i1:((((ji (J++[Kn.lf (!t) nm,.lf t nm])).length:Nat):Int)-2)=((J.length:Nat):Int):=by rw[e2];lia
  have i2:((((ji (J++[Kn.lf (!t) nm,.lf t nm])).length:Nat):Int)-1)=((J.length+1:Nat):Int):=by rw[e2];lia
  have aH:(ji J++[bx (Wd.leaf t nm).turn])++[.tup [.str (kL t),.str nm]]=ji (J++[.lf (!t) nm,.lf t nm]):=e1
  first|rw[e1]|rw[aH]
  refine qc q8 (qc q8 (qc q8 (qc q8 λp hp=>?_)));have np:L p=none:=by
   have:p≠a:=λe=>by rw[e,q8] at hp;cases hp
   rw[qb this] at hp;exact hp
  have:=q _ _ _ _ p np (u9 hk a1);have key:[qj (.link J.length (J.length+1)),Y.int ((J.length:Nat):Int),Y.int ((J.length+1:Nat):Int)]=[.tup [.str "link",.int ((((ji (J++[Kn.lf (!t) nm,.lf t nm])).length:Nat):Int)-2),.int ((((ji (J++[Kn.lf (!t) nm,.lf t nm])).length:Nat):Int)-1)],.int ((((ji (J++[Kn.lf (!t) nm,.lf t nm])).length:Nat):Int)-2),.int ((((ji (J++[Kn.lf (!t) nm,.lf t nm])).length:Nat):Int)-1)]:=by rw[i1,i2];rfl
  rw[key] at this;exact xi this
 |node e l r=>
  have ba:max l.depth r.depth+1<=n+1:=hd;have hb:J.length+2*(1+l.size+r.size)<=10000:=hb;refine⟨a,J,l,rfl,ha,by lia,by exact xD,a1.1,hk,by lia,λU A j C p1 ag ML=>?_⟩;have a0:a≠p1:=k7 ha ag;have bb:=ML.len;refine⟨a,J++U,r,rfl,by rw[qb a0,q8],by lia,by exact xD,a1.2,ML.ok,by rw[Ad];lia,λg B I T p2 a2 MR=>?_⟩;have bc:=MR.len;have aL:p1≠p2:=k7 q8 a2;have al:a≠p2:=k7 (by rw[qb a0];exact q8) a2;have a3:qh (qh (qh (qh L a (.lst (ji (J++U)))) p1 (.lst [qj A,.int ((j:Nat):Int),.int ((C:Nat):Int)])) a (.lst (ji ((J++U)++g)))) p2 (.lst [qj B,.int ((I:Nat):Int),.int ((T:Nat):Int)]) a=some (.lst (ji ((J++U)++g))):=by rw[qb al];exact q8
  have h1:qh (qh (qh (qh L a (.lst (ji (J++U)))) p1 (.lst [qj A,.int ((j:Nat):Int),.int ((C:Nat):Int)])) a (.lst (ji ((J++U)++g)))) p2 (.lst [qj B,.int ((I:Nat):Int),.int ((T:Nat):Int)]) p1=some (.lst [qj A,.int ((j:Nat):Int),.int ((C:Nat):Int)]):=by rw[qb aL,qb (AI a0)];exact q8
  have h2:qh (qh (qh (qh L a (.lst (ji (J++U)))) p1 (.lst [qj A,.int ((j:Nat):Int),.int ((C:Nat):Int)])) a (.lst (ji ((J++U)++g)))) p2 (.lst [qj B,.int ((I:Nat):Int),.int ((T:Nat):Int)]) p2=some (.lst [qj B,.int ((I:Nat):Int),.int ((T:Nat):Int)]):=q8;have old:∀b o,b≠a->L b=some o->qh (qh (qh (qh L a (.lst (ji (J++U)))) p1 (.lst [qj A,.int ((j:Nat):Int),.int ((C:Nat):Int)])) a (.lst (ji ((J++U)++g)))) p2 (.lst [qj B,.int ((I:Nat):Int),.int ((T:Nat):Int)]) b=some o:=λb o nb e=>by
   have n1:b≠p1:=k7 e ag;have e2:qh (qh L a (.lst (ji (J++U)))) p1 (.lst [qj A,.int ((j:Nat):Int),.int ((C:Nat):Int)]) b=some o:=by rw[qb n1,qb nb];exact e
   have n2:b≠p2:=k7 e2 a2;rw[qb n2,qb nb];exact e2
  generalize qh (qh (qh (qh L a (.lst (ji (J++U)))) p1 (.lst [qj A,.int ((j:Nat):Int),.int ((C:Nat):Int)])) a (.lst (ji ((J++U)++g)))) p2 (.lst [qj B,.int ((I:Nat):Int),.int ((T:Nat):Int)])=L2 at a3 h1 h2 old;have bd:(ji ((J++U)++g)).length=J.length+U.length+g.length:=by rw[Ab,Ad,Ad]
  refine qc a3 ⟨.node e l r,rfl,by show max l.depth r.depth+1<=120;exact asq,qc h1 (qc h2 (qr a3 ⟨big _ (by lia),?_⟩))⟩;have a4:∀o,qh L2 a o p1=some (.lst [qj A,.int ((j:Nat):Int),.int ((C:Nat):Int)]):=λo=>by rw[qb (AI a0)];exact h1
  have a5:∀o,qh L2 a o p2=some (.lst [qj B,.int ((I:Nat):Int),.int ((T:Nat):Int)]):=λo=>by rw[qb (AI al)];exact h2
  refine qc q8 (qc (a4 _) (qc (a5 _) (qr q8 ⟨big _ (by rw[Ad];simp;lia),?_⟩)));rw[xz];obtain⟨N,hN⟩:∃N,N=J.length+(U++g).length:=⟨_,rfl⟩;have e1:(ji ((J++U)++g)++[.tup [.str (kN (!e)),.int ((j:Nat):Int),.int ((I:Nat):Int)]])++[.tup [.str (kN e),.int ((C:Nat):Int),.int ((T:Nat):Int)]]=ji (J++(U++g++[.nd (!e) j I,.nd e C T])):=by unfold ji;simp[m9]
  rw[e1];have lN:(ji (J++(U++g++[Kn.nd (!e) j I,.nd e C T]))).length=N+2:=by rw[Ab,Ad,Ad,hN];simp;rfl
  have i1:((((ji (J++(U++g++[Kn.nd (!e) j I,.nd e C T]))).length:Nat):Int)-2)=((N:Nat):Int):=by rw[lN];lia
  have i2:((((ji (J++(U++g++[Kn.nd (!e) j I,.nd e C T]))).length:Nat):Int)-1)=((N+1:Nat):Int):=by rw[lN];lia
  refine qc q8 (qc q8 ?_);have M:=adf (e:=e) ML MR hN;have done:∀p,qh L2 a (.lst (ji (J++(U++g++[Kn.nd (!e) j I,.nd e C T])))) p=none->∀R,Mir J (.node e l r) (U++g++[Kn.nd (!e) j I,.nd e C T]) R N (N+1)->
   dt Q (.ref p) (qh (qh L2 a (.lst (ji (J++(U++g++[Kn.nd (!e) j I,.nd e C T]))))) p (.lst [qj R,.int ((N:Nat):Int),.int ((N+1:Nat):Int)])):=λp hp R MM=>by
   have ar:p≠a:=λz=>by rw[z,q8] at hp;cases hp
   rw[qb ar] at hp;have np:L p=none:=by cases z:L p with|none=>rfl|some o=>rw[old p o ar z] at hp;cases hp
   refine wr ?_ (q _ _ _ _ p np MM);intro b o z;by_cases c1:b=p
   ·subst c1;rw[q8] at z ⊢;exact z
   ·rw[qb c1] at z ⊢;by_cases c2:b=a
    ·subst c2;rw[q8] at z ⊢;exact z
    ·rw[qb c2] at z ⊢;exact old b o c2 z
  cases e with
  |true=>
   have key:[qj (.ei (if true=true then N+1 else N) (.bo (if true=true then N else N+1) A B)),Y.int ((N:Nat):Int),Y.int ((N+1:Nat):Int)]=[.tup [.str "either",.int ((((ji (J++(U++g++[Kn.nd (!true) j I,.nd true C T]))).length:Nat):Int)-1),.tup [.str "both",.int ((((ji (J++(U++g++[Kn.nd (!true) j I,.nd true C T]))).length:Nat):Int)-2),qj A,qj B]],.int ((((ji (J++(U++g++[Kn.nd (!true) j I,.nd true C T]))).length:Nat):Int)-2),.int ((((ji (J++(U++g++[Kn.nd (!true) j I,.nd true C T]))).length:Nat):Int)-1)]:=by rw[i1,i2];rfl
   walk_at "w";refine qc (a4 _) (qc (a5 _) λp hp=>?_);have:=done p hp _ M;rw[key] at this;exact this
  |false=>
   have key:[qj (.ei (if false=true then N+1 else N) (.bo (if false=true then N else N+1) A B)),Y.int ((N:Nat):Int),Y.int ((N+1:Nat):Int)]=[.tup [.str "either",.int ((((ji (J++(U++g++[Kn.nd (!false) j I,.nd false C T]))).length:Nat):Int)-2),.tup [.str "both",.int ((((ji (J++(U++g++[Kn.nd (!false) j I,.nd false C T]))).length:Nat):Int)-1),qj A,qj B]],.int ((((ji (J++(U++g++[Kn.nd (!false) j I,.nd false C T]))).length:Nat):Int)-2),.int ((((ji (J++(U++g++[Kn.nd (!false) j I,.nd false C T]))).length:Nat):Int)-1)]:=by rw[i1,i2];rfl
   walk_at "w";refine qc (a4 _) (qc (a5 _) λp hp=>?_);have:=done p hp _ M;rw[key] at this;exact this
end L3
variable {B I O O1 O2 R R' S:L3.Ru}{ks iA:List L3.Kn}{oi wd:List (Option L3.Kn)}
namespace L3
open PySem L2 Words
def xA(J:jn):ku:=(qt (xt (yOr (yB (lG false (qa 0))) (yB (qz J (xu (qa 0))))) (jb (ju zb)) jv)
 (jb (ju (aW (x4 0 1) (x4 0 2)))))
def wP:Option Kn->Y
 |none=>.non
 |some k=>m9 k
abbrev aM(ks:List (Option Kn)):List Y:=ks.map wP
def x0:Option Kn->List Nat
 |some (.nd _ i j)=>[i,j]
 |_=>[]
def mf:jn:=λys L Q=>∃k:Option Kn,ys=[wP k]/\∀p,L p=none->Q (.ref p) (qh L p (.lst (nY (x0 k))))
theorem ae2:∀ys L Q,mf ys L Q->xl (xA gN) 1 ys L Q:=by
 rintro ys L Q ⟨k,rfl,q⟩;cases k with
 |none=>exactλp J=>xi (q p J)
 |some k=>
  cases k with|lf t n=>exact⟨true,t,_,rfl,λp J=>xi (q p J)⟩|nd e i j=>exact⟨false,e,_,rfl,λp J=>xi (q p J)⟩
def whr(f:Option Kn->Bool)(ks:List (Option Kn))(i:Nat):List Nat:=(List.range i).filter λp=>match ks[p]? with
 |some k=>f k
 |none=>false
theorem ahp{f:Option Kn->Bool}{ks:List (Option Kn)}{p:Nat}(h:p∈whr f ks i):p<i/\∃k,ks[p]?=some k/\f k=true:=by
 unfold whr at h;obtain⟨U,J⟩:=AJ.mp h;refine⟨Bc.mp U,?_⟩;split at J
 ·rename_i k e;exact⟨k,e,J⟩
 ·cases J
theorem ak0(f:Option Kn->Bool)(ks:List (Option Kn))(i:Nat):(whr f ks i).length<=i:=by unfold whr;exact AU (List.length_filter_le _ _) (by rw[Bq];simp +arith only)
def aec:Option Kn->Bool
 |some _=>true
 |none=>false
abbrev o0(ks:List (Option Kn)):List Nat:=whr aec ks ks.length
theorem gc(a b:List Nat):nY (a++b)=nY a++nY b:=by unfold nY;rw[Ak]
theorem ie{hs:List Nat}(h:(nY hs)[i]?=some y):∃n,hs[i]?=some n/\y=.int (n:Int):=by unfold nY at h;rw[An] at h;obtain⟨n,J,U⟩:=Ao.mp h;exact⟨n,J,U.symm⟩
abbrev avm(a l c:Addr):Y:=.tup [.ref a,.ref l,.ref c]
theorem au1(a b:Nat):min (a:Int) (b:Int)=((min a b:Nat):Int):=by omega
theorem au9(a b:Nat):max (a:Int) (b:Int)=((max a b:Nat):Int):=by omega
def prN(p:Nat×Nat):Y:=.tup [.int ((p.1:Nat):Int),.int ((p.2:Nat):Int)]
abbrev bE(l:List (Nat×Nat)):List Y:=l.map prN
theorem yy(k:Option Kn):(x0 k).length<=2:=by unfold x0;split<;>simp
end L3
namespace TS
open PySem PyProof.Rows PySem.W PySem.Calls
section
variable {w:World}
abbrev keyBody(kx px:Str)(p1 p2 p3 p4 p5:Pos)(n:Nat):Expr:=.Tuple [.Subscript (.Name kx p1) (.Name px p2) p3,.Name px p4] n p5
structure oJ(h:Heap)(f:Addr)(kx px:Str)(scope:Scope)(kvs:List Value):Prop where
 ex:∃(name eK:Str) (params:Arguments) (p1 p2 p3 p4 p5:Pos) (n:Nat) (pm ctv:Value) (c' cell k:Addr),h.get? f=some (kla_obj name eK params (keyBody kx px p1 p2 p3 p4 p5 n) scope [(kx,cell)] pm c' ctv)/\h.CodeRec (.ref c') eK/\
  h.IsCell cell (some (.ref k))/\h.IsList k kvs.toArray/\∀v:Value,bindArgs (kla_fn name eK params (keyBody kx px p1 p2 p3 p4 p5 n) scope [(kx,cell)] pm (.ref c') ctv) ⟨[v],[]⟩=pure [(px,v)]
 lim:h.NoLimit
structure KeySc(scope:Scope)(kx px:Str):Prop where
 kind:scope.kind=.function
 co:scope.isCoroutine=false
 gen:scope.isGenerator=false
 nc:∀x∈scope.names,x.2≠.cell
 lp:scope.names.lookup px=some .local
 lk:scope.names.lookup kx=some .free
 d1:(kx==("__debug__" : Str))=false
 d2:(px==("__debug__" : Str))=false
 d3:(kx==("__classdict__" : Str))=false
theorem oJ.keeps{kvs:List Value}(k:oJ h f kx px scope kvs)(U:∀b o,h.get? b=some o->h'.get? b=some o):oJ h' f kx px scope kvs:=by
 obtain⟨name,g,J,r,t,C,I,T,n,pm,p,c',cell,kk,g1,g2,g3,g4,g5⟩:=k.ex;refine⟨⟨name,g,J,r,t,C,I,T,n,pm,p,c',cell,kk,U _ _ g1,?_,?_,?_,g5⟩,k.lim.keeps U⟩
 ·obtain⟨c,oc,vs,tq,j,l,e3⟩:=g2;exact⟨c,oc,vs,tq,j,U _ _ l,e3⟩
 ·obtain⟨o,j,l⟩:=g3;exact⟨o,U _ _ j,l⟩
 ·obtain⟨o,j,l⟩:=g4;exact⟨o,U _ _ j,l⟩
theorem apl{kvs:List Value}{u t:Tok}{r:Int}(K:oJ s.heap f kx px scope kvs)(S:KeySc scope kx px)(g:A.depth<recursionLimit)(hi:kvs[i]?=some (.int r t))(a0:i<2 ^ 40)
 (h:∀h' tk a,(∀b o,s.heap.get? b=some o->h'.get? b=some o)->h'.get? a=some { cls:=.type "tuple",data:=.seq #[.int r t,.int (i:Int) u] }->Q (.ref a) { s with heap:=h',toks:=tk }):
 wpAny (model prog w) A (call (.ref f) [.int (i:Int) u]) Q E s:=by
 obtain⟨name,J,p,p1,p2,p3,p4,p5,n,pm,a1,C,cell,kk,g1,g2,g3,g4,g5⟩:=K.ex;refine wpAny_call (kla_callFunE g g1 rfl S.co S.gen rfl g2 ?_);rw[g5];refine Ai (wpAny_newFunctionEnv S.nc (λx hx=>by rw[Aj.mp hx];exact S.lp) (λU j l=>⟨K.lim.fresh _ l,?_⟩) S.kind);have I:∀b o,s.heap.get? b=some o->U.get? b=some o:=λb o e=>l.extBut b o (A2 (sx e)) (r4 _ e);show codeAny _ _ (.expr _ (envX J scope s.heap.objs.size f (.ref C) [(kx,cell)])) _ _;refine kla_codeExpr ?_;have look:(([(px,Value.int (i:Int) u)]:List (Str×Value)).reverse.lookup px)=some (.int (i:Int) u):=by simp
 have kf:(envX J scope s.heap.objs.size f (.ref C) [(kx,cell)]).kindOf kx=some .free:=S.lk;have kp:(envX J scope s.heap.objs.size f (.ref C) [(kx,cell)]).kindOf px=some .local:=S.lp;have cl:(envX J scope s.heap.objs.size f (.ref C) [(kx,cell)]).cells.lookup kx=some cell:=by show([(kx,cell)]:List (Str×Addr)).lookup kx=_;simp
 have ic:U.IsCell cell (some (.ref kk)):=by obtain⟨o,T,e2⟩:=g3;exact⟨o,I _ _ T,e2⟩
 have il:U.IsList kk kvs.toArray:=by obtain⟨o,T,e2⟩:=g4;exact⟨o,I _ _ T,e2⟩
 refine wpAny_Tuple_spliced (At (Subscript_ (wpAny_Name (wpAny_loadName_free S.kind kf cl ic (wpAny_Name (wpAny_loadName_local S.kind kp j look ?_) S.d2) S.d3) S.d1)));refine item_listL il (by exact A9 _) (by omega) (by rw[show((i:Nat):Int).toNat=i from rfl];exact hi) ?_;refine At (wpAny_Name (wpAny_loadName_local S.kind kp j look ?_) S.d2);refine Ef ⟨by show 2<=sizeLine;decide,?_⟩;exact h _ _ _ (λb o e=>r4 _ (I b o e)) (sy _ rfl)
end
theorem adt(f:α->β):∀{l m:List β},l.Perm m->∀{T:List α},T.map f=m->∃g:List α,g.Perm T/\g.map f=l:=by
 intro l m p
 induction p with
 |nil=>intro T e;exact⟨T,BO _,e⟩
 |cons x _ C=>
  intro T e;cases T with
  |nil=>cases e
  |cons t r=>
   rw[AE] at e;obtain⟨J,U⟩:=BM e;obtain⟨g,I,e'⟩:=C U;exact⟨t::g,I.cons t,by rw[AE,e',J]⟩
 |swap x y l=>
  intro T e
  match T,e with
  |t::u::r,e=>
   rw[AE,AE] at e;obtain⟨J,U⟩:=BM e;obtain⟨e3,e4⟩:=BM U;exact⟨u::t::r,List.Perm.swap t u r,by rw[AE,AE,J,e3,e4]⟩
 |trans _ _ j o=>
  intro T e;obtain⟨T1,p1,J⟩:=o e;obtain⟨T2,p2,U⟩:=j J;exact⟨T2,p2.trans p1,U⟩
def itV(x:Nat×Tok):Value:=.int (x.1:Int) x.2
def ant(h:Heap)(kS:Addr)(rk:Nat->Int)(k:Value)(x:Nat×Tok):Prop:=∃a t u,k=.ref a/\a≠kS/\h.get? a=some { cls:=.type "tuple",data:=.seq #[.int (rk x.1) t,.int (x.1:Int) u] }
def kO(h:Heap)(kS:Addr)(rk:Nat->Int):List Value->List (Nat×Tok)->Prop
 |[],[]=>True
 |k::ks,x::xs=>ant h kS rk k x/\kO h kS rk ks xs
 |_,_=>False
theorem kO.len{h:Heap}{kS:Addr}{rk:Nat->Int}:∀{ks:List Value} {xs:List (Nat×Tok)},kO h kS rk ks xs->ks.length=xs.length
 |[],[],_=>rfl
 |_::_,_::_,⟨_,b⟩=>by rw[AQ,AQ,kO.len b]
 |[],_::_,z=>z.elim
 |_::_,[],z=>z.elim
theorem kO.mem{h:Heap}{kS:Addr}{rk:Nat->Int}:∀{ks:List Value} {xs:List (Nat×Tok)},kO h kS rk ks xs->∀t∈ks.zip xs,ant h kS rk t.1 t.2
 |[],[],_,t,J=>by cases J
 |_::_,_::_,⟨a,b⟩,t,J=>by
  rw[List.zip_cons_cons] at J;rcases Am.mp J with rfl|J
  ·exact a
  ·exact kO.mem b t J
 |[],_::_,z,_,_=>z.elim
 |_::_,[],z,_,_=>z.elim
section
variable {w:World}
theorem ac1{g:Heap}{f:Addr}{kx px:Str}{scope:Scope}{kvs:List Value}{kS:Addr}{rk:Nat->Int}{body:Value->PUnit->Sem (ForInStep PUnit)}(K:oJ g f kx px scope kvs)(S:KeySc scope kx px)(J:A.depth<recursionLimit)(hn:g.get? kS=none)
 (hb:∀(x:Value) (s:Shared) (Q':ForInStep PUnit->Shared->Prop),wpAny (model prog w) A (call (.ref f) [x]) (λk s'=>wpAny (model prog w) A (Builtin.List.listUpdate (.ref kS) (·.push k)) (λ_ T=>Q' (.yield ⟨⟩) T) E s') (λ_ _=>False) s->wpAny (model prog w) A (body x ⟨⟩) Q' E s):
 ∀(ps:List (Nat×Tok)) (ks:List Value) (e:Nat) (s:Shared) (Q:PUnit->Shared->Prop),(∀b o,g.get? b=some o->s.heap.get? b=some o)->s.heap.get? kS=some (seqObj "list" ks.toArray e)->ks.length+ps.length<=100000->
  (∀x∈ps,x.1<2 ^ 40/\∃t,kvs[x.1]?=some (.int (rk x.1) t))->
  (∀h' tk l e',(∀b o,b≠kS->s.heap.get? b=some o->h'.get? b=some o)->h'.get? kS=some (seqObj "list" (ks++l).toArray e')->kO h' kS rk l ps->Q ⟨⟩ { s with heap:=h',toks:=tk })->
  wpAny (model prog w) A (forIn (ps.map itV) PUnit.unit body) Q E s
 |[],ks,e,s,Q,hg,hk,hz,hp,q=>by rw[CO,CT];exact Ai (q s.heap s.toks [] e (λ_ _ _ h=>h) (by rw[AS];exact hk) trivial)
 |x::r,ks,e,s,Q,hg,hk,hz,hp,q=>by
  rw[AE,B4];rw[AQ] at hz;obtain⟨a0,t,ht⟩:=hp x (Af ..);have big:(100000:Nat)+1<=sizeLine:=by rw[sizeLine_eq];exact DQ _ _
  refine Aa (hb (itV x) s _ (apl (K.keeps hg) S J ht a0 λp C a k1 ha=>?_));have U:p.get? kS=some (seqObj "list" ks.toArray e):=k1 _ _ hk;have s1:=vc p kS (Obj.mapSeq (·.push (.ref a)));have ea:ks.toArray.push (.ref a)=List.toArray (ks++[.ref a]):=by simp
  obtain⟨c2,a1⟩:∃c2,(p.update kS (Obj.mapSeq (·.push (.ref a)))).get? kS=some (seqObj "list" (List.toArray (ks++[.ref a])) c2):=⟨_,by rw[<-ea];exact get?_update_seq U (·.push (.ref a))⟩;have I:a≠kS:=λz=>by
   rw[z,U] at ha;have:=Bi (λo:Option Obj=>o.map (·.cls)) ha;have z2:some (Value.type "list")=some (Value.type "tuple"):=this;injection z2 with z3
   injection z3 with z4
   exact absurd z4 (by decide)
  refine listUpdate_at (s:={ s with heap:=p,toks:=C }) U rfl ?_ (by rw[Aq];lia) (AU (Nat.le_of_eq (DN ..)) (by rw[Aq];lia));refine ac1 K S J hn hb r (ks++[.ref a]) c2 { s with heap:=p.update kS (Obj.mapSeq (·.push (.ref a))),toks:=C } Q (λb o e=>?_) a1 (by rw[Ad,BF];lia) (λy hy=>hp y (Ac _ hy)) λh' tk l e' kk a2 vs=>?_
  ·have nb:b≠kS:=λz=>by rw[z,hn] at e;cases e
   exact(s1.2 b nb).trans (k1 b o (hg b o e))
  ·have j:∀b o,b≠kS->p.get? b=some o->h'.get? b=some o:=λb o nb e=>kk b o nb ((s1.2 b nb).trans e);refine q h' tk (.ref a::l) e' (λb o nb e=>j b o nb (k1 b o e)) (by rw[a2,AD];rfl) ⟨⟨a,t,x.2,rfl,I,j a _ I ha⟩,vs⟩
end
section
variable {w:World}
theorem alv{g:Heap}{kvs:List Value}{kS:Addr}{rk:Nat->Int}{ps:List (Nat×Tok)}{e1 e0:Nat}{B:Int}{P:PySem.Fin->Shared->Prop}(K:oJ g f kx px scope kvs)(S:KeySc scope kx px)(J:A.depth<recursionLimit)(hn:g.get? kS=none)
 (hg:∀b o,g.get? b=some o->s.heap.get? b=some o) (hk:s.heap.get? kS=some (seqObj "list" #[] e0)) (ha:s.heap.get? a=some (seqObj "list" #[] e1)) (p:kS≠a) (hz:ps.length<=63)
 (hp:∀x∈ps,x.1<2 ^ 40/\∃t,kvs[x.1]?=some (.int (rk x.1) t)) (hB:∀x∈ps,((x.1:Nat):Int)<B) (nd:(ps.map (·.1)).Nodup)
 (h:∀h' tk (qs:List (Nat×Tok)) c,(∀b o,b≠kS->b≠a->s.heap.get? b=some o->h'.get? b=some o)->h'.get? a=some (seqObj "list" (qs.map itV).toArray c)->qs.Perm ps->(qs.Pairwise λx y=>rk x.1*B+(x.1:Int)<=rk y.1*B+(y.1:Int))->P (.done (.ret .none)) { s with heap:=h',toks:=tk }):
 wpAny (model prog w) A (ksk_rest a (.ref f) false (ps.map itV).toArray e1 (.ref kS)) P E s:=by
 have big:(100000:Nat)+1<=sizeLine:=by rw[sizeLine_eq];exact DQ _ _
 unfold ksk_rest;refine Aa (BK ?_);rw[List.forIn_toArray];refine Aa (ac1 (rk:=rk) K S J hn (λx s' Q' hx=>?_) ps [] e0 s _ hg hk (by simp;omega) hp λh' tk ks e' keep U kv=>?_)
 ·refine Aa (wpAny_attempt (AZ hx (λk a4 hk=>?_) λ_ _ hF=>hF.elim))
  try dsimp only
  exact Aa (AZ hk (λ_ s3 q=>Ai q) λ_ _ e=>e)
 ·try dsimp only
  rw[CH] at U;refine Aa (listItems_at (s:={ s with heap:=h',toks:=tk }) U rfl ?_);have a0:h'.get? a=some (seqObj "list" #[] e1):=keep _ _ (AI p) ha;have len:ks.length=ps.length:=kv.len;obtain⟨T,I⟩:∃T,T=ks.zip ps:=⟨_,rfl⟩;have kT:∀t∈T,ant h' kS rk t.1 t.2:=λt r=>kv.mem t (I▸r);have e2:T.map (·.2)=ps:=by rw[I];exact List.map_snd_zip (by lia)
  have ez:ks.zip (ps.map itV)=T.map λt=>(t.1,itV t.2):=by rw[I,List.zip_map_right];rfl
  have mp:∀t∈T,t.2∈ps:=λt r=>by rw[<-e2];exact CD r
  have nT:∀t∈T,num h' B (t.1,itV t.2)=rk t.2.1*B+(t.2.1:Int):=λt r=>by obtain⟨b,tt,u,C,x2,x3⟩:=kT t r;exact num_of C x3 rfl
  have a5:∀x∈ps,(0:Int)<=((x.1:Nat):Int):=λ_ _=>by exact A9 _
  refine apc (s:={ s with heap:=h',toks:=tk }) (vs:=ps.map itV) (ks:=ks) (B:=B) U a0 p (by rw[Ab];exact len) (by rw[Ab];exact hz) (λv hv=>?_) λh2 a1 xs c l hc pm pw=>?_
  ·obtain⟨j,hj⟩:=Cb hv;have a2:j<ps.length:=by rw[<-len];exact(AV.mp hj).1
   have hm:(v,ps[j])∈T:=by rw[I];refine List.mem_iff_getElem?.mpr ⟨j,?_⟩;rw[Do];exact⟨hj,Ag a2⟩
   obtain⟨b,tt,u,C,x2,x3⟩:=kT _ hm;have C:v=.ref b:=C;exact⟨b,_,_,_,_,tt,u,C,x3,rfl,rfl,by exact A9 _,hB _ (mp _ hm)⟩
  ·rw[ez] at pm;obtain⟨T',pT,a3⟩:=adt _ pm rfl;subst a3;have mT:∀t,t∈T'->t∈T:=λt=>pT.mem_iff.mp;refine h h2 a1 (T'.map (·.2)) c (λb o n1 n2 e=>?_) ?_ ?_ ?_
   ·rw[l b n1 n2];exact keep b o n1 e
   ·rw[hc,Bz,Bz];rfl
   ·rw[<-e2];exact pT.map _
   ·refine B8.mpr (Cf (λ{x y} hx hy z=>?_) (B8.mp pw));rw[nT x (mT x hx),nT y (mT y hy)] at z;exact z
theorem w_sortedK{kvs:List Value}{rk:Nat->Int}{ps:List (Nat×Tok)}{B:Int}(K:oJ s.heap f kx px scope kvs)(S:KeySc scope kx px)(p:A.in1.in1.depth<recursionLimit)
 (hl:s.heap.IsList l (ps.map itV).toArray) (hz:ps.length<=63)
 (hp:∀x∈ps,x.1<2 ^ 40/\∃t,kvs[x.1]?=some (.int (rk x.1) t)) (hB:∀x∈ps,((x.1:Nat):Int)<B) (nd:(ps.map (·.1)).Nodup)
 (h:∀h' tk (r:List (Nat×Tok)) D c,s.heap.objs.size<=D->(∀b o,s.heap.get? b=some o->h'.get? b=some o)->h'.get? D=some (seqObj "list" (r.map itV).toArray c)->r.Perm ps->(r.Pairwise λx y=>rk x.1*B+(x.1:Int)<=rk y.1*B+(y.1:Int))->Q (.ref D) { s with heap:=h',toks:=tk }):
 wpAny (model prog w) A (call (.builtin "sorted") [.ref l] [(Str.ofString "key",.ref f)]) Q E s:=by
 have big:(100000:Nat)+1<=sizeLine:=by rw[sizeLine_eq];lia
 have a1:(ps.map itV).length<=100000:=by rw[Ab];omega
 refine call_function_entry_kw kind_sorted plain_sorted entry_sorted (ksk_s1 _ _) ?_;unfold Builtin.«sorted»;refine Aa (m:=checkCount "sorted" 1 1 _) (Ai ?_);refine Aa (collect_list hl ?_ (by exact ain));refine Aa (wpAny_newList ?_ (by lia));obtain⟨g1,T⟩:∃g1,g1=(s.heap.push (seqObj "list" #[] 0)).update s.heap.objs.size (Obj.mapSeq (· ++ (ps.map itV).toArray)):=⟨_,rfl⟩;have gs:g1.objs.size=s.heap.objs.size+1:=by rw[T,Heap.size_update,size_push']
 have gk:∀b o,s.heap.get? b=some o->g1.get? b=some o:=λb o q=>by have U:b<s.heap.objs.size:=sx q;rw[T,Heap.get?_update_ne _ _ _ _ (A2 U)];exact r4 _ q
 show wpAny _ _ _ _ _ { s with heap:=((s.heap.push (seqObj "list" #[] 0)).update s.heap.objs.size (Obj.mapSeq (· ++ (ps.map itV).toArray))).push (seqObj "list" (ps.map itV).toArray 0) };rw[<-T];have J:(g1.push (seqObj "list" (ps.map itV).toArray 0)).get? g1.objs.size=some (seqObj "list" (ps.map itV).toArray 0):=sy _ rfl;have keep:∀b o,s.heap.get? b=some o->(g1.push (seqObj "list" (ps.map itV).toArray 0)).get? b=some o:=λb o q=>r4 _ (gk b o q);refine Aa (AY (wpAny_call_entry_kw slot_list_sort ⟨_,J,rfl⟩ entry_list_sort ?body (ksk_l1 _ _)))
 case body=>
  obtain⟨D,eD⟩:∃D,D=g1.objs.size:=⟨_,rfl⟩;rw[<-eD] at J ⊢;show wpAny (model prog w) A.in1.in1 (Builtin.«list.sort» ⟨[.ref D],[(Str.ofString "key",.ref f)]⟩) _ _ _;rw[ksk_t1];obtain⟨g2,C⟩:∃g2,g2=g1.push (seqObj "list" (ps.map itV).toArray 0):=⟨_,rfl⟩;rw[<-C] at J keep ⊢;have s1:=vc g2 D (Obj.mapSeq λ_=>(#[]:Array Value));obtain⟨e1,I⟩:∃e1,(g2.update D (Obj.mapSeq λ_=>(#[]:Array Value))).get? D=some (seqObj "list" #[] e1):=⟨_,get?_update_seq J λ_=>#[]⟩;have nD:∀b o,s.heap.get? b=some o->b≠D:=λb o q z=>by have U:b<s.heap.objs.size:=sx q;rw[z,eD,gs] at U;exact Nat.not_succ_lt_self U
  unfold ksk_tree;refine Aa (listItems_at (s:={ s with heap:=g2 }) J rfl ?_);refine Aa (listUpdate_at (s:={ s with heap:=g2 }) J rfl ?_ (by rw[Aq];exact ain) (Bd _));refine Aa (seqEpoch_at I rfl ?_);refine Aa (wpAny_newTuple ?_ (by show(ps.map itV).length<=_;lia));refine Aa (wpAny_newList ?_ (Bd _));refine AY ?_;obtain⟨g3,j⟩:∃g3,g3=(g2.update D (Obj.mapSeq λ_=>(#[]:Array Value))).push (seqObj "tuple" (ps.map itV).toArray 0):=⟨_,rfl⟩;have k3:∀b o,s.heap.get? b=some o->g3.get? b=some o:=λb o q=>by rw[j];exact r4 _ ((s1.2 b (nD b o q)).trans (keep b o q))
  have d3:g3.get? D=some (seqObj "list" #[] e1):=by rw[j];exact r4 _ I
  show wpAny (model prog w) A.in1.in1 (ksk_rest D (.ref f) false (ps.map itV).toArray _ (.ref ((g2.update D (Obj.mapSeq λ_=>(#[]:Array Value))).push (seqObj "tuple" (ps.map itV).toArray 0)).objs.size)) _ _ { s with heap:=((g2.update D (Obj.mapSeq λ_=>(#[]:Array Value))).push (seqObj "tuple" (ps.map itV).toArray 0)).push (seqObj "list" #[] 0) };rw[<-j];have a0:(g3.push (seqObj "list" #[] 0)).get? g3.objs.size=some (seqObj "list" #[] 0):=sy _ rfl;refine alv (s:={ s with heap:=g3.push (seqObj "list" #[] 0) }) (g:=s.heap) (kS:=g3.objs.size) (a:=D) (rk:=rk) (B:=B) K S p (Heap.get?_none_of_le ?_) (λb o q=>r4 _ (k3 b o q)) a0 (r4 _ d3) ?_ hz hp hB nd λh' tk r c kp hD pm pw=>?_
  ·have l1:g3.objs.size=g1.objs.size+2:=by rw[j,size_push',Heap.size_update,C,size_push']
   rw[l1,gs];exact AU (BV _) (BJ _ 2)
  ·exact(A2 (sx d3)).symm
  ·refine⟨_,rfl,Ai ⟨_,rfl,h h' tk r D c (by rw[eD,gs];exact BV _) (λb o q=>?_) hD pm pw⟩⟩;exact kp b o (A2 (sx (k3 b o q))) (nD b o q) (r4 _ (k3 b o q))
end
end TS
namespace L2
open PySem PySem.Spec PyProof.Rows
theorem rK{i j:Int}{t u:Tok}{c:Value}(l:List Value)(h:TriplesOk l):TriplesOk (l++[.int i t,.int j u,c]):=by
 fun_induction TriplesOk l with
 |case1=>trivial
 |case2 _ _ _ _ _ rest J=>exact J h
 |case3=>exact h.elim
theorem vF{i j:Int}{t u:Tok}{c J:Value}(l:List Value)(h:TriplesOk l)(e:codeAmong pos (l++[.int i t,.int j u,c])=some J):codeAmong pos l=some J\/J=c:=by
 fun_induction TriplesOk l with
 |case1=>
  right;have e:(if i==pos.line&&j==pos.col then some c else none)=some J:=e;split at e
  ·cases e;rfl
  ·cases e
 |case2 a _ b _ d rest U=>
  have e:(if a==pos.line&&b==pos.col then some d else codeAmong pos (rest++[.int i t,.int j u,c]))=some J:=e;show(if a==pos.line&&b==pos.col then some d else codeAmong pos rest)=some J\/J=c;split at e
  ·rename_i z;rw[AF z];exact .inl e
  ·rename_i z;rw[AG z];exact U h e
 |case3=>exact h.elim
structure aaj(K:Ah)(fx:Value)(P:Addr):Prop where
 ex:∃c oc,fx=.ref c/\K.lookup c=some oc/\∀h:Heap,h.get? c=some oc->PySem.W.CodeHd h c P
 bm:∃bm ob,PySem.W.nsIn K mainGlobals "__builtins__"=some (some (.ref bm))/\bm≠builtinsNs/\bm≠mainGlobals/\K.lookup bm=some ob/\ob.cls=.type "module" /\ ob.dict=some builtinsNs/\ob.data=.plain
theorem uf:∀{l:List Nat} {us:List Value},zr (l.map λi:Nat=>V.int (0+(i:Int))) us->∃ps:List (Nat×Tok),us=ps.map TS.itV/\ps.map (·.1)=l
 |[],_,.nil=>⟨[],rfl,rfl⟩
 |i::r,_,.cons (b:=u) h t=>by obtain⟨ps,J,U⟩:=uf (l:=r) t;obtain⟨tk,g⟩:=(show ∃tk,u=Value.int (0+(i:Int)) tk from h);refine⟨(i,tk)::ps,?_,by rw[AE,U]⟩;rw[AE,J,g];show _=Value.int (i:Int) tk::_;rw[Int.zero_add]
theorem uq:∀ps:List (Nat×Tok),zr (ps.map λx=>V.int ((x.1:Nat):Int)) (ps.map TS.itV)
 |[]=>.nil
 |x::r=>.cons ⟨x.2,rfl⟩ (uq r)
def anw(P:Addr)(q:Str)(g:Nat)(te:TE):TE:=λσ H Q=>te σ H λv H1=>∃l U,∃n:Nat,∃rks:List Int,v=.ref l/\H1 l=some (.lst ((List.range n).map λi:Nat=>V.int (0+(i:Int))))/\σ[g]?=some (some (.ref U))/\H1 U=some (.lst (rks.map V.int))/\rks.length=n/\n<=63/\qQ H1 P q/\
 ∀H2 D (J:List Nat),(∀b u,b≠P->H1 b=some u->H2 b=some u)->qQ H2 P q->H1 D=none->D≠P->H2 D=some (.lst (J.map λi:Nat=>V.int (i:Int)))->J.Perm (List.range n)->(J.Pairwise λi j=>rks.getD i 0*1000000+(i:Int)<=rks.getD j 0*1000000+(j:Int))->Q (.ref D) H2
theorem zK{kk cell c':Addr}{J:Arguments}{r:Value}{Q:VK}(I:zd X pins σ H s)(S:TS.KeySc fy kx px)(hr:X.A.depth+3<recursionLimit)
 (hf:s.heap.get? f=some (PySem.W.kla_obj name eK J (TS.keyBody kx px p1 p2 p3 p4 p5 x1) fy [(kx,cell)] pm c' r)) (a1:s.heap.CodeRec (.ref c') eK) (C:s.heap.IsCell cell (some (.ref kk)))
 (hb:∀v:Value,bindArgs (PySem.W.kla_fn name eK J (TS.keyBody kx px p1 p2 p3 p4 p5 x1) fy [(kx,cell)] pm (.ref c') r) ⟨[v],[]⟩=pure [(px,v)])
 (hl:H l=some (.lst ((List.range n).map λi:Nat=>V.int (0+(i:Int))))) (hk:H kk=some (.lst (rks.map V.int))) (hn:rks.length=n) (hz:n<=63)
 (q:∀D (g:List Nat),H D=none->g.Perm (List.range n)->(g.Pairwise λi j=>rks.getD i 0*1000000+(i:Int)<=rks.getD j 0*1000000+(j:Int))->Q (.ref D) (upd H D (.lst (g.map λi:Nat=>V.int (i:Int))))):
 wpAny (model X.prog X.w) X.A (call (.builtin "sorted") [.ref l] [(Str.ofString "key",.ref f)]) (EP X pins σ Q) X.xe s:=by
 obtain⟨a4,rv,pl,_⟩:=I.list (aQ.of hl);obtain⟨p,rk,pk,_⟩:=I.list (aQ.of hk);obtain⟨ps,rfl,U⟩:=uf rv;have lk:p.length=n:=by rw[<-rk.length,Ab,hn]
 have lp:ps.length=n:=by have:=Bi List.length U;rwa[Ab,Bq] at this
 have big:(100000:Nat)<=sizeLine:=by decide
 refine xg I.tk (TS.w_sortedK (rk:=λi=>rks.getD i 0) (B:=1000000) (kvs:=p) ⟨⟨name,eK,J,p1,p2,p3,p4,p5,x1,pm,r,c',cell,kk,hf,a1,C,pk.isList,hb⟩,I.nolimit⟩ S ?_ pl.isList (by lia) (λx hx=>?_) (λx hx=>?_) ?_ λh' tk g D c hD keep hg a0 pw ht=>?_)
 ·show X.A.depth<recursionLimit;lia
 ·have T:x.1∈List.range n:=by rw[<-U];exact CD hx
  have a2:=Bc.mp T;refine⟨by lia,?_⟩;have e1:(rks.map V.int)[x.1]?=some (V.int (rks.getD x.1 0)):=by rw[An,Ag (by lia),Be,Ag (by lia)];rfl
  obtain⟨u,e2,r2⟩:=Words.Paired.getP rk e1;obtain⟨t,rfl⟩:=(show ∃t,u=Value.int (rks.getD x.1 0) t from r2);exact⟨t,e2⟩
 ·have T:x.1∈List.range n:=by rw[<-U];exact CD hx
  have a2:=Bc.mp T;omega
 ·rw[U];exact Cp
 ·have a3:H D=none:=I.hok.fresh hD;refine⟨.ref D,_,I.laid (t':=tk) (o:=.lst ((g.map (·.1)).map λi:Nat=>V.int (i:Int))) keep hD ?_,rfl,q D (g.map (·.1)) a3 ?_ ?_⟩
  ·refine⟨?_,g.map TS.itV,c,?_,hg⟩
   ·rw[Ab,Ab,a0.length_eq];lia
   ·rw[Bz];exact uq g
  ·rw[<-U];exact a0.map _
  ·exact B8.mpr pw
theorem zd.tabbed{P U:Addr}{ps more:Array Value}{oc fo:Obj}{tk:Nat}(I:zd X pins σ H s)(T:H P=some (.tbl ps))(hx:Heap.ExtBut P s.heap h')(g:h'.get? P=some (PySem.W.tabObj (ps++more)))
 (hc:s.heap.objs.size<=U) (j:h'.get? U=some oc) (ht:0<tk):zd X pins σ (upd (upd H P (.tbl (ps++more))) U (.frz oc (.own 0))) { s with heap:=h'.push fo,toks:=tk }:=by
 have nc:H U=none:=I.hok.fresh hc;have t:∀b,H b=none->b≠P:=λb e z=>by rw[z,T] at e;cases e
 have l:∀b u,H b=some u->b≠U:=λb u e z=>by rw[z,nc] at e;cases e
 have p:∀b o,s.heap.get? b=some o->b≠U:=λb o e=>A2 (AO (sx e) hc);have C:∀b o,b≠P->s.heap.get? b=some o->(h'.push fo).get? b=some o:=λb o n e=>r4 _ (hx b o n e);have J:∀b u,H b=some u->(∀ps,u≠.tbl ps)->b≠P:=λb u e d z=>by rw[z,T] at e;cases e;exact d _ rfl
 refine I.step (ch:=[]) (g':=s.gens) (d':=s.drawn) (t':=tk) (λ_ z=>nomatch z) (λb o _ _ _ e n=>C b o (t b n) e) (λb o _ _ _ e n=>⟨o.slots,C b o (t b n) e⟩) (λb o _ e n=>?_) (λb o _ e=>?_) (λb xs e=>?_) (λb o u e=>?_) (λb qs e=>?_) (λm hm=>?_) (λb u e=>?_) I.bare ht
 ·rw[qx (p b o e),qx (t b n)];exact n
 ·by_cases c:b=P
  ·subst c;exact⟨_,r4 _ g⟩
  ·exact⟨o,C b o c e⟩
 ·rw[qx (l b _ e),qx (J b _ e λ_ z=>by cases z)];exact e
 ·rw[qx (l b _ e),qx (J b _ e λ_ z=>by cases z)];exact e
 ·rw[qx (l b _ e)];by_cases c:b=P
  ·subst c;rw[T] at e;cases e;exact⟨more,zv⟩
  ·rw[qx c];exact⟨#[],by rw[e];simp⟩
 ·exact(hm.extBut hx (t _ I.free)).push _
 ·by_cases c:b=U
  ·subst c;rw[zv] at e;cases e;exact⟨r4 _ j,_,r4 _ j⟩
  ·rw[qx c] at e;by_cases d:b=P
   ·subst d;rw[zv] at e;cases e;exact r4 _ g
   ·rw[qx d] at e;refine(I.hok b u e).stay (λa v ha r=>C a v ?_ r) (λa r=>?_) (λa xs r=>?_)
    ·rcases ha with rfl|ha
     ·exact d
     ·exact J a _ ha λ_ z=>by cases z
    ·rw[qx (l a _ r),qx (J a _ r λ_ z=>by cases z)];exact r
    ·rw[qx (l a _ r),qx (J a _ r λ_ z=>by cases z)];exact r
theorem afd{te:TE}{J:Arguments}{U:Pos}{ik:Nat}{P:Addr}(hg:Gl X "sorted")(hm:X.mg "sorted"=none)(he:PE X e te)(S:TS.KeySc fy kx px)(C:aaj X.K X.env.code P)(hr:X.A.depth+3<recursionLimit)
 (hq:X.env.qual ++ "<lambda>" = q) (bp:X.N[ik]?=some kx) (aH:X.env.scope.names.lookup kx=some .cell) (aL:∃cell,X.env.cells.lookup kx=some cell/\closureFor fy X.env=pure [(kx,cell)])
 (ba:defaultsOf J X.env=([],[])) (hb:∀(name eK:Str) (cl:List (Str×Addr)) (pm cd ct v:Value),bindArgs (PySem.W.kla_fn name eK J (TS.keyBody kx px p1 p2 p3 p4 p5 x1) fy cl pm cd ct) ⟨[v],[]⟩=pure [(px,v)])
 (h1:starEach [e] X.env=(false,eval e X.env)::starEach [] X.env:=by rfl) (h2:(backTo pos (starEach [e] X.env)).any (·.1)=false:=by rfl)
 (h3:backTo pos (starEach [e] X.env)=(false,eval e X.env)::backTo pos (starEach [] X.env):=by rfl):
 PE X (.Call (.Name "sorted" p) [e] [⟨some "key",.Lambda J (TS.keyBody kx px p1 p2 p3 p4 p5 x1) fy U,pB⟩] pos) (anw P q ik te):=by
 intro a0 s σ H Q I h;refine wpAny_Call_Name_kw (bw I hg hm (by decide +kernel:bootBuiltins "sorted"=some (.builtin "sorted")) ?_ (by decide) (by decide));refine PyProof.Rows.callWith_kw ?_ h3 h2;rw[h3];refine At (aV (he a0 s σ H _ I h) λv s1 ⟨x,H1,g,rx,l,kk,n,rks,ev,hl,hs,hk,hn,hz,T,qq⟩=>?_);refine Ef ?_;subst ev;cases (show v=Value.ref l from rx);show wpAny _ _ (evalAll ((do let v <-eval (.Lambda J (TS.keyBody kx px p1 p2 p3 p4 p5 x1) fy U) X.env;standAt pos;pure v)::[])) _ _ s1;refine wpAny_evalAll_cons (Aa ?_);obtain⟨cell,a2,al⟩:=aL;obtain⟨c,bq,bb,lc,hC⟩:=C.ex;obtain⟨bm,ob,b1,b2,b3,b4,b5,b6,b7⟩:=C.bm;obtain⟨a5,tP,tok,a3⟩:=T;have bc:s1.heap.Ns mainGlobals X.mg:=g.ok.mod.glob.keeps g.bk;have bd:s1.heap.get? P=some (PySem.W.tabObj a5):=g.hok P _ tP;have bf:PySem.W.CodeHd s1.heap c P:=hC _ (g.kIn c bq lc);have a1:∀b o,X.base.get? b=some o->b≠P:=λb o e z=>by have:=(g.bs b o e).2;rw[z,tP] at this;cases this
 have ar:=g.ok.mod.kin bm ob b4;have hB:s1.heap.BuiltinsAt X.mg P:=⟨bm,ob,Cv g.ok.mod.kin g.ok.mod.glob b1,b2,b3,a1 _ _ ar,(g.bs _ _ ar).1,b5,b6,b7⟩;have br:mainGlobals≠P:=by obtain⟨o,es,ep,e,hd,_⟩:=g.ok.mod.glob;exact a1 _ _ e
 have a4:s1.heap.IsCell cell (some (.ref kk)):=by
  obtain⟨m,_,bu⟩:=g.loc;obtain⟨u,ru,lk⟩:=bu ik kx _ bp hs (.inr (.inl aH));cases (show u=Value.ref kk from ru);rcases lk with⟨k1,_⟩|⟨_,c2,e2,bS⟩
  ·have k1:X.env.scope.names.lookup kx=some .local:=k1;rw[aH] at k1;cases k1
  ·rw[a2] at e2;cases e2;exact bS
 refine PySem.W.kla_eval ba ?_;rw[hq];have xi:∀(s2:Shared) (H2:Hp) (f j:Addr) (r pm:Value),zd X a0 σ H2 s2->s2.heap.get? f=some (PySem.W.kla_obj "<lambda>" q J (TS.keyBody kx px p1 p2 p3 p4 p5 x1) fy [(kx,cell)] pm j r)->s2.heap.CodeRec (.ref j) q->s2.heap.IsCell cell (some (.ref kk))->
  (∀b u,b≠P->H1 b=some u->H2 b=some u)->qQ H2 P q->(∀b,H2 b=none->H1 b=none)->
  wpAny (model X.prog X.w) X.A (do standAt pos;pure (Value.ref f)) (λv s'=>wpAny (model X.prog X.w) X.A (evalAll []) (λvs ca=>wpAny (model X.prog X.w) X.A (call (.builtin "sorted") [.ref l] ([Str.ofString "key"].zip (v::vs))) (EP X a0 σ Q) X.xe ca) X.xe s') X.xe s2:=by
  intro s2 H2 f j r pm I2 g1 g2 g3 g4 g5 g6;refine Aa (wpAny_standAt (Ai (wpAny_evalAll_nil ?_)));have lP:l≠P:=λz=>by rw[z,tP] at hl;cases hl
  have kP:kk≠P:=λz=>by rw[z,tP] at hk;cases hk
  refine zK (n:=n) (rks:=rks) I2 S hr g1 g2 g3 (λv=>hb _ _ _ _ _ _ v) (g4 _ _ lP hl) (g4 _ _ kP hk) hn hz λD qs hD cb pw=>?_;have bg:D≠P:=λz=>by obtain⟨cy,e2,_⟩:=g5;rw[z,e2] at hD;cases hD
  refine qq _ D qs (λb u n e=>?_) ?_ (g6 D hD) bg zv cb pw
  ·rw[qx (zy (g4 b u n e) hD)];exact g4 b u n e
  ·exact g5.keep (qx (AI bg)) λb o u e=>by rw[qx (zy e hD)];exact e
 cases hf:codeAmong U a5.toList with
 |some cv=>
  obtain⟨j,oc,vs,t,cc,f1,f2,f3⟩:=a3 U cv hf;subst cc;refine xg g.tk (PySem.W.kla_makeFunctionHit (mg:=X.mg) al g.ok.glob bc bb bf bd tok hf hB λr h' tk bh cz ht=>?_);have I2:zd X a0 σ H1 { s1 with heap:=h'.push { cls:=.type "function",data:=.func (PySem.W.kla_fn "<lambda>" q J (TS.keyBody kx px p1 p2 p3 p4 p5 x1) fy [(kx,cell)] ((X.mg "__name__").getD .none) (.ref j) r) },toks:=tk }:=g.kept (t':=tk) λb o e=>r4 _ (bh b o e);obtain⟨ag,_⟩:=I2.hok j _ f1;refine xi _ H1 _ j r _ I2 (sy _ rfl) ⟨j,oc,vs,t,rfl,ag,f2,f3⟩ ?_ (λb u _ e=>e) ⟨a5,tP,tok,a3⟩ (λb e=>e);obtain⟨o,e1,e2⟩:=a4;exact⟨o,r4 _ (bh _ _ e1),e2⟩
 |none=>
  refine xg g.tk (PySem.W.kla_makeFunction (mg:=X.mg) al g.ok.glob bc bb bf bd tok hf br hB λj r h' tk hx bi d0 bj cm ht=>?_);obtain⟨c2,oc,vs,t,e2,ag,f2,f3⟩:=bj;cases e2;have I2:=g.tabbed (fo:=PySem.W.kla_obj "<lambda>" q J (TS.keyBody kx px p1 p2 p3 p4 p5 x1) fy [(kx,cell)] ((X.mg "__name__").getD .none) j r) tP hx cm bi ag ht;have nc:H1 j=none:=g.hok.fresh bi;have cP:j≠P:=λz=>by rw[z,tP] at nc;cases nc
  refine xi _ _ _ j r _ I2 (sy _ rfl) ⟨j,oc,vs,t,rfl,r4 _ ag,f2,f3⟩ ?_ (λb u n e=>?_) ?_ (λb e=>?_)
  ·obtain⟨o,e1,e2⟩:=a4;have nP:cell≠P:=λz=>by have:=g.freeC kx cell a2;rw[z,tP] at this;cases this
   exact⟨o,r4 _ (hx _ _ nP e1),e2⟩
  ·rw[qx (zy e nc),qx n];exact e
  ·refine⟨a5++#[rawInt U.line,rawInt U.col,.ref j],by rw[qx (AI cP),zv],?_,λbn cv z=>?_⟩
   ·rw[C9];exact rK _ tok
   ·rw[C9] at z;rcases vF _ tok z with z|z
    ·obtain⟨d',od,cn,t',k1,k2,k3⟩:=a3 bn cv z;have nP:d'≠P:=λz=>by rw[z,tP] at k2;cases k2
     exact⟨d',od,cn,t',k1,by rw[qx (zy k2 nc),qx nP];exact k2,k3⟩
    ·exact⟨j,oc,vs,t,z,zv,f2,f3⟩
  ·by_cases d:b=j
   ·subst d;exact nc
   ·rw[qx d] at e;by_cases d2:b=P
    ·subst d2;rw[zv] at e;cases e
    ·rw[qx d2] at e;exact e
end L2
namespace L3
open PySem L2
def ack(Pt:Addr)(q:Str)(g:Nat)(te:vd)(τ:x8)(L:qu)(Q:YK):Prop:=te τ L λy L1=>match y with
 |.ref l=>dR L1 l λys=>∃(n:Nat) (rks:List Int) (U:Addr),ys=bA 0 n/\aay τ g=some (.ref U)/\L1 U=some (.lst (rks.map Y.int))/\rks.length=n/\n<=63/\L1 Pt=some (.tb q)/\
  ∀(D:Addr) (J:List Nat),L1 D=none->J.Perm (List.range n)->(J.Pairwise λi j=>rks.getD i 0*1000000+(i:Int)<=rks.getD j 0*1000000+(j:Int))->Q (.ref D) (qh L1 D (.lst (J.map λi:Nat=>Y.int (i:Int))))
 |_=>False
theorem pG{G:G3}{H:Hp}:∀{l:List Nat} {xs:List V},xp G H (l.map λi:Nat=>Y.int (0+(i:Int))) xs->xs=l.map λi:Nat=>V.int (0+(i:Int))
 |[],_,h=>h
 |_::_,_,⟨x,J,e,r,s⟩=>by subst e;cases r;rw[pG s];rfl
theorem gn{G:G3}{H:Hp}:∀{l:List Int} {xs:List V},xp G H (l.map Y.int) xs->xs=l.map V.int
 |[],_,h=>h
 |_::_,_,⟨x,J,e,r,s⟩=>by subst e;cases r;rw[gn s];rfl
theorem uZ{G:G3}{H:Hp}:∀J:List Nat,xp G H (J.map λi:Nat=>Y.int (i:Int)) (J.map λi:Nat=>V.int (i:Int))
 |[]=>rfl
 |_::r=>⟨_,_,rfl,rfl,uZ r⟩
theorem ag9{J:Arguments}{g:Pos}{t:Nat}(hg:Gl X "sorted")(hm:X.mg "sorted"=none)(he:QE X e te)(S:TS.KeySc fy kx px)(C:aaj X.K X.env.code Pt)(hr:X.A.depth+3<recursionLimit)
 (hq:X.env.qual ++ "<lambda>" = q) (I:X.N[t]?=some kx) (a0:X.env.scope.names.lookup kx=some .cell) (j:∃cell,X.env.cells.lookup kx=some cell/\closureFor fy X.env=pure [(kx,cell)])
 (o:defaultsOf J X.env=([],[])) (hb:∀(name eK:Str) (cl:List (Str×Addr)) (pm cd ct v:Value),bindArgs (PySem.W.kla_fn name eK J (TS.keyBody kx px p1 p2 p3 p4 p5 x1) fy cl pm cd ct) ⟨[v],[]⟩=pure [(px,v)])
 (h1:starEach [e] X.env=(false,eval e X.env)::starEach [] X.env:=by rfl) (h2:(backTo pos (starEach [e] X.env)).any (·.1)=false:=by rfl)
 (h3:backTo pos (starEach [e] X.env)=(false,eval e X.env)::backTo pos (starEach [] X.env):=by rfl):
 QE X (.Call (.Name "sorted" p) [e] [⟨some "key",.Lambda J (TS.keyBody kx px p1 p2 p3 p4 p5 x1) fy g,pB⟩] pos) (ack Pt q t te):=
 DZ (afd hg hm he S C hr hq I a0 j o hb h1 h2 h3) λσ H Q τ L Q3 rs rl z k=>by
  refine⟨τ,L,_,rs,rl,z,λv H1 y L1 t1 U rv z=>?_⟩;cases y with
  |ref l=>
   obtain⟨ys,e1,n,a1,kk,rfl,e2,e3,hn,hz,eP,qq⟩:=v4 z;cases rv;obtain⟨xs,h1,r1⟩:=U l _ e1;obtain⟨xk,h2,r2⟩:=U kk _ e3;have T:qQ H1 Pt q:=U Pt _ eP;cases pG r1;cases gn r2;obtain⟨v,hv,rv⟩:=rs.get t _ (qM _ _ e2);cases rv;refine⟨l,kk,n,a1,rfl,h1,hv,h2,hn,hz,T,λH2 D qs kp T2 hD a3 a2 pm pw=>?_⟩;have tb:∃r,H1 Pt=some (.tbl r):=let ⟨r,e,_⟩:=T;⟨r,e⟩;have t2:jh H1 H2:=λa u i h=>kp a u (λc=>by obtain⟨r,e⟩:=tb;rw[c,e] at h;cases h;cases i) h
   refine k _ _ _ _ (t1.trans t2) (λa u e=>?_) (by rfl) (qq D qs (U.none hD) pm pw);by_cases c:a=D
   ·subst c;rw[q8] at e;cases e;exact⟨_,a2,uZ qs⟩
   ·rw[qb c] at e;by_cases d:a=Pt
    ·subst d;rw[eP] at e;cases e;exact T2
    ·obtain⟨x,hx⟩:=(U a u e).ex;exact(U a u e).keep t2 (by rw[hx];exact kp a x d hx)
  |_=>exact z.elim
structure ana(K:Ah)(x eK:Str)(st:Stmt)(f:Addr)(fd:FuncData)(Pt:Addr):Prop where
 ex:∃(oc:Value) (od:Option Addr) (kV ir pm:Value) (an:Option Addr) (fx ct:Value) (ni:Array (Option Value)),
  fd=PySem.W.fnOf x eK (vh st) (jp st) (z0 st) .none kV ir pm an fx ct/\K.lookup f=some ⟨oc,od,.func fd,ni⟩/\PySem.W.codeIn K fx eK=true/\aaj K fx Pt
 kp:PySem.W.keepIn K (.ref f)=true
theorem avu{P:Program}{w:World}{K:Ah}{N:List Str}{k:Nat}{sp:jn}(F:ana K x eK st f fd Pt)(S:aS N ps (z0 st))(len:∀ys L Q,sp ys L Q->ys.length=ps.length)
 (J:∀(fx:Value) (A:Around) (outer:List Env) (s:Shared) (H:Hp) (E:XK),aaj K fx Pt->aI k (A.deeper (PyProof.Rows.envOfC eK (z0 st) s.heap.objs.size f fx))->
  ∃t,sQ (dF CX0 P w K mg base N eK (z0 st) f fx A outer s H E).nox (jp st) t/\∀ys L Q,sp ys L Q->t { nx:=λ_ L'=>dt Q .non L',rt:=dt Q } (eE N ys) L):Fn3 P w K mg base (k+1) f fd ps sp:=by
 obtain⟨oc,od,kV,j,pm,an,fx,ct,l,rfl,lk,g,C⟩:=F.ex;have F0:Fun K x eK st f _:=⟨⟨oc,od,kV,j,pm,an,fx,ct,l,rfl,lk,g⟩,F.kp⟩;refine aen lk g S (λvs H Q E ⟨ys,L,o,p,rl,z,_⟩=>by rw[<-p.length];exact len ys L o z) λA outer s H vs Q E hr ⟨ys,L,o,p,rl,z,k⟩=>?_;obtain⟨t,ht,q⟩:=J fx A outer s H E C hr;refine⟨_,lK.nox ht,eE N ys,L,_,i6 p,rl,q ys L o z,?_⟩;exact⟨λσ r τ L' I a1 U ⟨L2,T,q2⟩=>k .non r .non L2 I (U.sub T) (by rfl) q2,λv r y L' I U a0 ⟨L2,T,q2⟩=>k v r y L2 I (U.sub T) a0 q2,λ_ _ _ _ _ _ _ z=>z.elim,λ_ _ _ _ _ _ _ z=>z.elim⟩
def rT(Pt:Addr)(q:Str):jn:=λys L Q=>∃J:List Int,ys=[.sq (J.map Y.int)]/\J.length<=63/\L=qh (λ_=>none) Pt (.tb q)/\∀L',Q (.bl true) L'
def spTopT(q:Str)(K:Ah)(Pt:Addr):Sp:=λvs H Q _=>∃(a:Addr) (J:List Int),vs=[.ref a]/\SqF K H a (J.map V.int)/\J.length<=63/\H Pt=some (.tbl #[])/\∀H',Q (.bl true) H'
theorem aj8{vs:List V}{Q:VK}{E:XK}(h:spTopT q G.K Pt vs H Q E):dn G (rT Pt q) vs H Q E:=by
 obtain⟨a,J,rfl,U,g,j,z⟩:=h;refine⟨[.sq (J.map Y.int)],qh (λ_=>none) Pt (.tb q),λy _=>y=.bl true,xp.one ⟨a,_,rfl,U,tY J⟩,(λb u e=>?_),⟨J,rfl,g,rfl,λ_=>rfl⟩,?_⟩
 ·by_cases c:b=Pt
  ·subst c;rw[q8] at e;cases e;exact⟨#[],j,trivial,λpos p z=>by cases z⟩
  ·rw[qb c] at e;cases e
 ·rintro v l y r _ _ o rfl;cases o;exact z l
end L3
namespace L2
open PySem PySem.Spec PyProof.Rows
def lessK(Pt:Addr):Ah->Ah
 |[]=>[]
 |(a,o)::r=>if a==Pt then lessK Pt r else(a,o)::lessK Pt r
theorem vi{Pt a:Addr}(h:a≠Pt):∀K:Ah,(lessK Pt K).lookup a=K.lookup a
 |[]=>rfl
 |(b,o)::r=>by
  unfold lessK;by_cases c:(b==Pt)=true
  ·rw[AF c,vi h r,Bp];have:(a==b)=false:=by have J:=eq_of_beq c;subst J;exact DP h
   rw[this]
  ·rw[AG c,Bp,Bp,vi h r]
theorem we{Pt:Addr}:∀K:Ah,(lessK Pt K).lookup Pt=none
 |[]=>rfl
 |(b,o)::r=>by
  unfold lessK;by_cases c:(b==Pt)=true
  ·rw[AF c];exact we r
  ·rw[AG c,Bp];have:(Pt==b)=false:=by cases d:Pt==b with|false=>rfl|true=>exact absurd (beq_iff_eq.mpr (eq_of_beq d).symm) c
   rw[this];exact we r
theorem mR{K:Ah}{o:Obj}(e:(lessK Pt K).lookup a=some o):a≠Pt/\K.lookup a=some o:=by
 by_cases c:a=Pt
 ·subst c;rw[we] at e;cases e
 ·rw[vi c] at e;exact⟨c,e⟩
theorem lessK_in{K:Ah}(X:K.In h):(lessK Pt K).In h:=λa o e=>X a o (mR e).2
structure akk(K:Ah)(Pt:Addr):Prop where
 tab:K.lookup Pt=some (PySem.W.tabObj #[])
 hd:∃c,∀h:Heap,K.In h->PySem.W.CodeHd h c Pt
 st:Pt≠cStatics
section
variable {K:Ah}(T:K.lookup Pt=some (PySem.W.tabObj #[]))
include T
theorem ns_dn{r:Option (Option Value)}(e:PySem.W.nsIn K a x=r):PySem.W.nsIn (lessK Pt K) a x=r:=by
 rw[<-e];unfold PySem.W.nsIn;by_cases c:a=Pt
 ·subst c;rw[we,T]
 ·rw[vi c]
theorem lk_dn{o:Obj}(e:K.lookup a=some o)(n:o.cls≠.none):(lessK Pt K).lookup a=some o:=by
 rw[vi ?_]
 ·exact e
 ·rintro rfl;rw[T] at e;cases e;exact n rfl
theorem code_dn(e:PySem.W.codeIn K cd q=true):PySem.W.codeIn (lessK Pt K) cd q=true:=by
 unfold PySem.W.codeIn at e ⊢;split at e
 ·rename_i c;by_cases d:c=Pt
  ·subst d;rw[T] at e;simp at e
  ·rw[vi d];exact e
 ·cases e
theorem amp{v:Value}:PySem.W.ownIn (lessK Pt K) x v=PySem.W.ownIn K x v:=by
 unfold PySem.W.ownIn;split
 ·rfl
 ·rename_i a;by_cases d:a=Pt
  ·subst d;rw[we,T]
  ·rw[vi d];split
   ·exact ns_dn T rfl
   ·rfl
 ·rfl
theorem sX{x:Str}:∀l:List Value,PySem.W.alongIn (lessK Pt K) x l=PySem.W.alongIn K x l
 |[]=>rfl
 |c::r=>by unfold PySem.W.alongIn;rw[amp T,sX r]
theorem ah1{v:Value}:PySem.W.findIn (lessK Pt K) v x=PySem.W.findIn K v x:=by
 unfold PySem.W.findIn;split
 ·rfl
 ·rename_i a;by_cases d:a=Pt
  ·subst d;rw[we,T]
  ·rw[vi d];split
   ·exact sX T _
   ·rfl
 ·rfl
theorem vP(n:a≠Pt):PySem.W.specialIn (lessK Pt K) (.ref a) x=PySem.W.specialIn K (.ref a) x:=by unfold PySem.W.specialIn PySem.W.typeIn;dsimp only;rw[vi n];congr 1;funext t;exact ah1 T
theorem keep_dn{f:Value}(e:PySem.W.keepIn K f=true):PySem.W.keepIn (lessK Pt K) f=true:=by
 unfold PySem.W.keepIn at e ⊢;split at e
 ·rename_i a;by_cases d:a=Pt
  ·subst d;rw[T] at e;simp at e
  ·rw[vi d,vP T d];exact e
 ·cases e
end
theorem aa7{P:Program}{w:World}{K:Ah}{mb:Str->Option Value}{CX:xZ}{k:Nat}{J:Shared}{T:List Int}
 (KX:K.In J.heap) (TI:akk K Pt) (a0:J.heap.Ns mainGlobals mg) (hb:J.heap.Ns builtinsNs mb) (al:∀x:Str,x ≠ "__name__" -> mb x=bootBuiltins x) (a1:J.heap.NoLimit) (hg:J.gens=#[]) (ar:0<J.toks)
 (t:J.heap.get? a=some { cls:=.type "list",data:=.seq vs.toArray }) (hi:IntsAre vs T) (hl:T.length<=sizeLine) (hr:aI k callerA)
 (F:∀base:Heap,(lessK Pt K).In base->base.Ns mainGlobals mg->bU P w (lessK Pt K) mg base CX k fa fd [x] sp) (p:∀(s:Shared) (u:Value),BindsTo s fd ⟨[u],[]⟩ [(x,u)])
 (aH:∀H:Hp,H Pt=some (.tbl #[])->(H a=none\/∃o xs,H a=some (.frz o (.lst xs)))->aQ (lessK Pt K) H a (T.map V.int)->sp [.ref a] H (λv _=>v=.bl true) λ_ _ _=>False)
 (aL:∀H e s',CX [] H J (λ_ _ _=>False) e s'->False):
 codeAny (model P w) callerA (.call (.ref fa) ⟨[.ref a],[]⟩) (λr s'=>r=.ok (.ret (.bool true))/\OldK J.heap s'.heap/\s'.os=J.os/\AllBare s'.gens) J:=by
 have rv:=pH hi;have a2:=hi.length;have hP:J.heap.get? Pt=some (PySem.W.tabObj #[]):=KX Pt _ TI.tab;have g:a≠Pt:=λz=>by rw[z,hP] at t;cases t
 have core:∀H:Hp,H Pt=some (.tbl #[])->(∀b,b≠a->b≠Pt->H b=none)->(H a=none\/∃o xs,H a=some (.frz o (.lst xs)))->aQ (lessK Pt K) H a (T.map V.int)->(∀u,H a=some u->v5 P w H J.heap a u)->(H a≠none->K.lookup a=none)->
  codeAny (model P w) callerA (.call (.ref fa) ⟨[.ref a],[]⟩) (λr s'=>r=.ok (.ret (.bool true))/\OldK J.heap s'.heap/\s'.os=J.os/\AllBare s'.gens) J:=by
  intro H HP Hn HO HS a3 ba;have a4:dw P w H J.heap:=λb u e=>by
   by_cases c:b=a
   ·subst c;exact a3 u e
   ·by_cases d:b=Pt
    ·subst d;rw[HP] at e;cases e;exact hP
    ·rw[Hn b c d] at e;cases e
  have U:∀{b:Addr} {o:Obj},J.heap.get? b=some o->H b=none->(rM J.heap H).get? b=some o:=λe n=>adi e n;have bb:∀{b:Addr} {o:Obj} {C:Array DictEntry} {I:Nat},J.heap.get? b=some o->o.data=.dict C I->H b=none:=λ{b o C I} e d=>by
   refine Hn b (λz=>?_) λz=>?_
   ·subst z;rw[t] at e;cases e;have d':Data.seq vs.toArray _=Data.dict C I:=d;cases d'
   ·subst z;rw[hP] at e;cases e;have d':Data.fields _=Data.dict C I:=d;cases d'
  have j:∀{b:Addr} {m:Str->Option Value},J.heap.Ns b m->(rM J.heap H).Ns b m:=λ{b m} ⟨o,C,I,e,d,r⟩=>⟨o,C,I,U e (bb e d),d,r⟩;have a5:(lessK Pt K).In (rM J.heap H):=λb o e=>by
   obtain⟨n,e⟩:=mR e;refine U (KX b o e) ?_;by_cases c:b=a
   ·subst c;cases q:H b with|none=>rfl|some u=>rw[ba (by rw[q];simp)] at e;cases e
   ·exact Hn b c n
  have hM:Mod (lessK Pt K) mg (rM J.heap H):=⟨a5,j a0,⟨mb,j hb,al⟩,let ⟨mc,h1,h2⟩:=a1;⟨mc,j h1,h2⟩⟩;have e0:aj5 P w (lessK Pt K) mg (rM J.heap H) callerA [] J H:=⟨rfl,hM,λb o e=>aht e,Nat.le_of_eq (aaa _ _),trivial,λb hb=>absurd (show b∈([]:List Addr) from hb) (by simp),a4,.of_eq hg,ar⟩;refine codeAny_mono ((F _ a5 (j a0)).run callerA [] J H ⟨[.ref a],[]⟩ [.ref a] [.ref a] _ _ hr e0 (p J (.ref a)) (.cons rfl .nil) (aH H HP HO HS)) λr s' h=>?_;cases r with
  |error e=>exact(aL H e s' h).elim
  |ok fl=>
   cases fl with
   |next=>exact False.elim h
   |brk=>exact False.elim h
   |cont=>exact False.elim h
   |ret u=>
    obtain⟨v,H',os,bare,un,l,r',q,_⟩:=h;have q':v=.bl true:=q;subst q';obtain rfl:u=Value.bool true:=r';obtain⟨more,em⟩:=un.tbls Pt _ HP;have gP:s'.heap.get? Pt=some (PySem.W.tabObj (#[]++more)):=l Pt _ em;have kp:∀b o,b≠Pt->J.heap.get? b=some o->s'.heap.get? b=some o:=λb o n e=>by
     have ag:H b=none->s'.heap.get? b=some o:=λz=>un.keep b o e z (by intro z;exact absurd (show b∈([]:List Addr) from z) (by simp)) (by simp);by_cases c:b=a
     ·subst c;rcases HO with z|⟨ob,xs,z⟩
      ·exact ag z
      ·have z2:=un.frzs _ _ _ z;obtain⟨e1,_⟩:=a4 _ _ z;obtain⟨e2,_⟩:=l _ _ z2;rw[e] at e1;cases e1;exact e2
     ·exact ag (Hn b c n)
    obtain⟨c,hc⟩:=TI.hd;refine⟨rfl,⟨λb o e=>?_,λb o e=>?_⟩,os,bare⟩
    ·by_cases n:b=Pt
     ·subst n;rw[hP] at e;cases e;exact .inr (.inl ⟨((hc _ KX).tab hP).isCodeTable,rfl,#[],more,rfl,gP⟩)
     ·exact .inl (kp b o n e)
    ·by_cases n:b=Pt
     ·subst n;exact⟨_,gP⟩
     ·exact⟨o,kp b o n e⟩
 cases hk:K.lookup a with
 |some o=>
  have e:=KX a o hk;rw[t] at e;cases e;refine core (λb=>if b=Pt then some (.tbl #[]) else none) (AF rfl) (λb _ n=>AG n) (.inl (AG g)) (.inr ⟨_,vs.toArray,_,(vi g K).trans hk,rfl,rfl,rfl,by rw[Aq,a2];exact hl,by simpa using rv⟩) (λu z=>by have z':=(AG g).symm.trans z;cases z') λz=>absurd (AG g) z
 |none=>
  refine core (λb=>if b=a then some (.frz { cls:=.type "list",data:=.seq vs.toArray } (.lst (T.map V.int))) else if b=Pt then some (.tbl #[]) else none) ((AG (AI g)).trans (AF rfl)) (λb n1 n2=>(AG n1).trans (AG n2)) (.inr ⟨_,_,AF rfl⟩) (.inl (.inr ⟨_,AF rfl⟩)) (λu z=>?_) λ_=>hk;have z':=(AF rfl).symm.trans z;cases z';exact⟨t,by rw[Ab];exact hl,vs,_,rv,t⟩
theorem walk_ofZT{l:PySem.W.OpenLaw}{k:Nat}{q:Program}{loose:List Str}{XP:(Str->Option Value)->Heap->Prop}{as0:List Addr}{N t:Nat}{d:DefRec}{K:Params->Ah}{CX:xZ}{sp:Ah->Addr->Sp}
 (hn:l.most=some n) (C:n<=sizeLine) (I:d.params.defaults=[]) (hr:aI k callerA) (ek:∀P,as0=(K P).map (·.1)) (a0:0<t)
 (F:∀(w:World) (mg:Str->Option Value) (fa:Addr) (h:Heap),(K w.params).In h->h.Ns mainGlobals mg->mg d.name=some (.ref fa)->
  ∃Pt:Addr,akk (K w.params) Pt/\∃fd:FuncData,(∀(s:Shared) (u:Value),BindsTo s fd ⟨[u],[]⟩ [(x,u)])/\
   ∀base:Heap,(lessK Pt (K w.params)).In base->base.Ns mainGlobals mg->bU l.prog w (lessK Pt (K w.params)) mg base CX k fa fd [x] (sp (lessK Pt (K w.params)) Pt))
 (a1:∀(K:Ah) (Pt:Addr) (H:Hp) (a:Addr) (r:List Int),r.length<=n->H Pt=some (.tbl #[])->(H a=none\/∃o xs,H a=some (.frz o (.lst xs)))->aQ K H a (r.map V.int)->sp K Pt [.ref a] H (λv _=>v=.bl true) λ_ _ _=>False)
 (a2:∀(H:Hp) (s:Shared) (e:Value) (s':Shared),CX [] H s (λ_ _ _=>False) e s'->False):
 PySem.W.WalkX q loose XP (PySem.W.X.obsZ as0) (PySem.W.X.valZ K N t) l.row.toRowW d [] (λf vs=>PySem.call f vs):=by
 refine Att.attach_callZ hn I ek a0 λw a4 j mg mb fa o pm cd a5 a vs r G KX tk ho hd ag a3 p U J hg=>?_;obtain⟨Pt,TI,fd,hb,hF⟩:=F w mg fa _ KX G.T.g a3;exact aa7 KX TI G.T.g G.T.b G.T.builtins G.T.nolimit hg tk p U (AU J C) hr hF hb (λH hP hO hS=>a1 _ Pt H a r J hP hO hS) λH e s'=>a2 H j e s'
end L2
namespace L3
open PySem L2
theorem top_startT :∀(K:Ah) (Pt:Addr) (H:Hp) (a:Addr) (J:List Int),J.length<=63->H Pt=some (.tbl #[])->(H a=none\/∃o xs,H a=some (.frz o (.lst xs)))->aQ K H a (J.map V.int)->spTopT q K Pt [.ref a] H (λv _=>v=.bl true) λ_ _ _=>False:=by
 intro K Pt H a J U g j l;refine⟨a,J,rfl,?_,U,g,λ_=>rfl⟩;rcases l with(h|⟨o,h⟩)|h
 ·rcases j with z|⟨o,xs,z⟩<;>rw[h] at z<;>cases z
 ·exact .inl ⟨o,h⟩
 ·exact .inr h
structure DefInT(K:Ah)(x:Str)(st:Stmt)(Pt:Addr):Prop where
 ex:∃(f:Addr) (kV ir pm:Value) (an:Option Addr) (fx ct:Value),PySem.W.nsIn K mainGlobals x=some (some (.ref f))/\ana K x x st f (PySem.W.fnOf x x (vh st) (jp st) (z0 st) .none kV ir pm an fx ct) Pt
theorem DefInT.use{K:Ah}(D:DefInT K x st Pt)(X:K.In h)(G:h.Ns mainGlobals mg)
 (J:∀(kV ir pm:Value) (an:Option Addr) (fx ct:Value) (us:List Value),us.length=ps.length->bindArgs (PySem.W.fnOf x x (vh st) (jp st) (z0 st) .none kV ir pm an fx ct) ⟨us,[]⟩=pure (ps.zip us)):
 ∃f fd,ana K x x st f fd Pt/\dm K fd ps []/\mg x=some (.ref f):=by
 obtain⟨f,kV,ir,pm,an,fx,ct,a,F⟩:=D.ex;exact⟨f,_,F,.all (J kV ir pm an fx ct),Cv X G a⟩
end L3
namespace L2
open PySem PySem.Spec PyProof.Rows
section
variable {kt:St}
end
end L2
namespace L3
open PySem L2
theorem ama:bootBuiltins "min"=some (.builtin "min"):=by decide +kernel
def oh(x:Y)(lo hi:Option Int)(L:qu)(Q:YK):Prop:=match x with
 |.tup ys=>¬(HT.sIx ys.length 0 lo=0/\HT.sIx ys.length ys.length hi=ys.length)/\Q (.tup (gb ys lo hi)) L
 |_=>False
theorem iT(K:Ah)(P:Program)(w:World)(g:X.K=K:=by rfl)(j:X.prog=P:=by rfl)(hw:X.w=w:=by rfl):sW X (aj4 ⟨K,P,w⟩ oh):=by
 subst g j hw;refine sW.imp ao4 λx lo U H Q ⟨y,L,T,l,rl,z,k⟩=>?_;cases y with
 |tup o=>
  obtain⟨a,t,e,sq,r⟩:=l;obtain⟨C,I⟩:=z;exact⟨a,t,e,sq,by rw[<-r.length];exact C,λp J=>k _ _ (.tup (gb o lo U)) L (DY J) (rl.skip J) ⟨p,_,rfl,.inl (.inl zv),(rZ r lo U).ts (DY J)⟩ I⟩
 |_=>exact z.elim
theorem wL{keep:qu->Prop}(h:∀H L,jh H₀ H->j7 G H L->keep L->∃xs,cg G.K H a xs/\xp G H ys xs):eL G H₀ (Itt G.K a) ys keep where
 go:=λi H L t rl J U=>by
  obtain⟨xs,sq,r⟩:=h H L t rl J;have:i<xs.length:=by rw[<-r.length];exact U
  exact⟨xs,xs[i],sq,Ag this⟩
 yld:=λi H L x o y t rl J g ⟨e,f⟩=>by subst e;obtain⟨xs,sq,r⟩:=h _ L t rl J;obtain⟨p,j,l⟩:=r.get g;have:=f xs sq;rw[j] at this;cases this;exact⟨DX _,rl,l⟩
 stop:=λH L t rl J=>by obtain⟨xs,sq,r⟩:=h H L t rl J;exact⟨xs,sq,by rw[r.length];exact Al _⟩
theorem adh(h:QE X e te):QI X tg e (adz te):=PI.imq (ale h) λσ H R l L R3 o rl z k=>by
 refine⟨l,L,_,o,rl,z,λv p y C I J U g=>?_⟩;cases y with
 |tup T=>
  obtain⟨a,j,e,sq,r⟩:=U;exact⟨a,e,⟨j,sq⟩,k _ p T (λ_=>True) C I J (wL λH L t _ _=>⟨j,cg.ts sq t,r.ts t⟩) g⟩
 |_=>exact g.elim
theorem dp3{k:Nat}(J:aI k A):A.depth+3<recursionLimit:=by have:=J.dp;omega
abbrev lamQ:Str:="_law_order.<locals>.<lambda>"
open PySem L2 Words
def OkO(ks:List (Option Kn)):Prop:=∀(p:Nat) (e:Bool) (i j:Nat),ks[p]?=some (some (.nd e i j))->i<p/\j<p
def abt(ks:List (Option Kn))(rks:List Int):Prop:=∀(p:Nat) (e:Bool) (i j:Nat),p<rks.length->ks[p]?=some (some (.nd e i j))->rks.getD i 0<rks.getD p 0/\rks.getD j 0<rks.getD p 0
theorem mU{r:Int}(h:i<rks.length):(rks++[r]).getD i 0=rks.getD i 0:=by rw[Be,Be,AB h]
theorem ac4{r:Int}:(rks++[r]).getD rks.length 0=r:=by rw[Be,Ax (Al _),B9];rfl
theorem abt.snoc{ks:List (Option Kn)}{r:Int}{k:Option Kn}(ok:OkO ks)(h:abt ks rks)(g:ks[rks.length]?=some k)(l:∀e i j,k=some (.nd e i j)->rks.getD i 0<r/\rks.getD j 0<r):abt ks (rks++[r]):=by
 intro p e i j J U;obtain⟨o,t⟩:=ok p e i j U;rw[Ad] at J;have J:p<rks.length+1:=J;rw[mU (show i<rks.length by lia),mU (show j<rks.length by lia)];by_cases c:p<rks.length
 ·rw[mU c];exact h p e i j c U
 ·have:p=rks.length:=by lia
  subst this;rw[ac4];exact l e i j (AN (g.symm.trans U))
def db(ks:List (Option Kn))(J:List Nat):Prop:=J.Pairwise λx y=>∀e i j,ks[x]?=some (some (.nd e i j))->y≠i/\y≠j
theorem aco{ks:List (Option Kn)}{J:List Nat}(ok:OkO ks)(h:abt ks rks)(U:rks.length=ks.length)(hw:J.Pairwise λi j=>rks.getD i 0*1000000+(i:Int)<=rks.getD j 0*1000000+(j:Int)):db ks J:=by refine hw.imp λ{x y} z e i j ex=>?_;obtain⟨g,l⟩:=ok x e i j ex;obtain⟨o,p⟩:=h x e i j (by rw[U];exact j6 ex) ex;exact⟨λc=>by subst c;lia,λc=>by subst c;lia⟩
theorem uO(h:i<rks.length):(rks.map Y.int)[i]?=some (.int (rks.getD i 0)):=by rw[An,Be,Ag h];rfl
def agh:ku:=(qt (zg (dg "abcdefghijklmnopqrstuvwxyz") (qe 2))
 (qt (zg (zk km (jl 1) (zk w5 (qa 0) (jl 8))) (qe 3))
 (qt (zg (zk w5 (zk az (qa 0) (jl 8)) (qa 3)) (qe 4))
 (qt (zg (yBS yi (dg "") (qd (sN 1 (rD (xu (jl 8))) (qe 7) wI (zk ai (qa 2) (zk w5 (zk km (zk az (qa 0) (jl 64)) (zk o9 (jl 3) (qa 7))) (jl 26)))) zb)) (qe 5))
 (qt (xt (gd (zk w5 (zk az (qa 0) (jl 64)) (jl 3)) (jl 1)) (jb (sM rb (qa 5) kq (ww (zk km (jl 1) (zk w5 (zk km (qa 1) (qa 0)) (jl 3)))))) jv)
 (qt (zg (zk ai (qa 2) (zk w5 (zk km (zk km (zk az (qa 0) (jl 64)) (zk o9 (jl 3) (qa 4))) (qa 1)) (jl 26))) (qe 6))
 (jb (zk km (zk km (sM rb (qa 5) kq (ww (qa 4))) (qa 6)) (sM rb (qa 5) (ww (zk km (qa 4) (jl 1))) (ww (qa 3)))))))))))
def e9(i:Int):Nat:=97+(i % 26).toNat
theorem y0(i:Int):iL ("abcdefghijklmnopqrstuvwxyz" : Str).cps.toList (i % 26)=some (e9 i):=by
 obtain⟨n,J⟩:∃n:Nat,i % 26=n:=⟨(i % 26).toNat,by lia⟩;have h:n<26:=by lia
 unfold e9;rw[J];have key:∀n,n<26->("abcdefghijklmnopqrstuvwxyz" : Str).cps.toList[n]?=some (97+n):=by decide +kernel
 exact xq (key n h)
theorem y8(i:Int):97<=e9 i/\e9 i<=122:=by unfold e9;lia
def dr(s:Int):List Nat:=(List.range 8).map λk:Nat=>e9 (s / 64+3*(k:Int))
theorem nZ(s:Int):(dr s).length=8:=by unfold dr;simp
theorem oV(s:Int):∀c∈dr s,97<=c/\c<=122:=λc J=>by obtain⟨k,_,rfl⟩:=AL.mp J;exact y8 _
def qA(s:Int):Nat:=(s / 8 % (1+s % 8)).toNat
def szN(s:Int):Nat:=(1+s % 8).toNat
theorem akf(s:Int):qA s<szN s/\szN s<=8/\s / 8 % (1+s % 8)=(qA s:Int)/\1+s % 8=(szN s:Int):=by
 have J:0<1+s % 8:=by lia
 have U:0<=s / 8 % (1+s % 8):=DR _ (by lia);have g:s / 8 % (1+s % 8)<1+s % 8:=Int.emod_lt_of_pos _ J;unfold qA szN;lia
def av(s w:Int):List Nat:=
 if s / 64 % 3=1 then(dr s).take (1+(w+s) % 3).toNat
 else((dr s).take (qA s)++[e9 (s / 64+3*(qA s:Int)+w)])++((dr s).drop (qA s+1)).take (szN s-(qA s+1))
theorem u4(s w:Int):fO (mkS (av s w)):=by
 have J:(mkS (av s w)).length=(av s w).length:=by rw[<-Txs.len_list];show(av s w).toArray.toList.length=_;simp
 have U:(mkS (av s w)).cps.toList=av s w:=by show(av s w).toArray.toList=_;simp
 have g:=nZ s;obtain⟨j,l,_,_⟩:=akf s;refine⟨?_,?_,?_⟩
 ·rw[J];unfold av;split
  ·rw[A1];omega
  ·rw[Ad,Ad];simp;simp +arith only
 ·rw[J];unfold av;split
  ·rw[A1];omega
  ·rw[Ad,Ad,A1,A1,CA];simp;lia
 ·rw[U];intro c h;unfold av at h;split at h
  ·exact oV s c (Cc h)
  ·rcases Ap.mp h with h|h
   ·rcases Ap.mp h with h|h
    ·exact oV s c (Cc h)
    ·rw[Aj.mp h];exact y8 _
   ·exact oV s c (List.mem_of_mem_drop (Cc h))
def m8:jn:=λys L Q=>∃s w:Int,ys=[.int s,.int w]/\Q (.str (mkS (av s w))) L
theorem ab0(h:m<=n)(h2:n<=x.length):(Txt.slice x (some (m:Int)) (some (n:Int))).cps.toList=(x.cps.toList.drop m).take (n-m):=by have e:=qC x (some (m:Int)) (some (n:Int));rw[HT.sIx_nat,HT.sIx_nat,B5 h2,B5 (AU h h2)] at e;exact e
theorem qD(h:n<=x.length):(Txt.slice x none (some (n:Int))).cps.toList=x.cps.toList.take n:=by have e:=qC x none (some (n:Int));rw[HT.sIx_nat,HT.sIx_none,CQ,CS,B5 h] at e;exact e
theorem af0:∀ys L Q,m8 ys L Q->xl agh 7 ys L Q:=by
 rintro ys L Q ⟨s,w,rfl,q⟩;have l:0<1+s % 8:=by lia
 refine⟨(by decide:(0:Int)<8),⟨by decide,by decide⟩,l,⟨by decide,by decide⟩,?_⟩;show lcK (bA 0 8) _ _ _ _ _ _ _ _;refine aft (m:=8) (λi zs=>zs=((List.range i).map λk:Nat=>Y.str ⟨#[e9 (s / 64+3*(k:Int))]⟩)) (by decide) rfl ?_ ?_
 ·rintro i _ hi rfl;have J:=y0 (s / 64+3*(0+(i:Int)));refine⟨⟨by decide,by decide⟩,.inl ⟨by decide,by decide⟩,(by decide:(0:Int)<26),by decide +kernel,?_⟩;walk_at "w";rw[J];refine⟨_,DW _,rfl,?_⟩;rw[List.range_succ,Ak,show(0:Int)+(i:Int)=(i:Int) by simp +arith only];rfl
 ·rintro _ rfl p C;have e0:((List.range 8).map λk:Nat=>Y.str ⟨#[e9 (s / 64+3*(k:Int))]⟩)=((dr s).map λc=>(⟨#[c]⟩:Str)).map Y.str:=by unfold dr;rw[Bz,Bz];rfl
  rw[e0];refine qr q8 ⟨(dr s).map λc=>(⟨#[c]⟩:Str),rfl,?_,?_⟩
  ·have U:∀g:List Nat,((g.map λc=>(⟨#[c]⟩:Str)).map (·.length)).sum=g.length:=λg=>by induction g with|nil=>rfl|cons c r ih=>rw[AE,AE,List.sum_cons,ih,AQ];show 1+r.length=_;exact Nat.add_comm _ _
   rw[U,nZ];show 8+_*0<=_;rw[Nat.mul_zero];decide
  ·have j:=ad3 (dr s);have o:(Txt.join "" ((dr s).map λc=>(⟨#[c]⟩:Str))).length=8:=by rw[<-Txs.len_list,j,nZ]
   generalize Txt.join "" ((dr s).map λc=>(⟨#[c]⟩:Str))=base at o j;obtain⟨p1,p2,t,I⟩:=akf s;refine⟨⟨by decide,by decide⟩,(by decide:(0:Int)<3),?_⟩;refine xn (λc=>?_) λc=>?_
   ·have e:1+(w+s) % 3=((1+(w+s) % 3).toNat:Int):=by lia
    refine⟨(by decide:(0:Int)<3),small (by lia),wr (By C) ?_⟩;have es:=qD (x:=base) (n:=(1+(w+s) % 3).toNat) (by lia);have eq:Txt.slice base none (some (1+(w+s) % 3))=mkS (av s w):=by rw[e];refine(yK _).symm.trans ?_;rw[es,j];unfold av;rw[AF c]
    rw[<-eq] at q;exact q
   ·have J:=y0 (s / 64+3*(s / 8 % (1+s % 8))+w);refine⟨⟨by decide,by decide⟩,.inl ⟨by decide,by decide⟩,(by decide:(0:Int)<26),by decide +kernel,?_⟩;walk_at "w";rw[J];have T:=qD (x:=base) (n:=qA s) (by lia);have s2:=ab0 (x:=base) (m:=qA s+1) (n:=szN s) (by assumption) (by lia);have l1:(Txt.slice base none (some (qA s:Int))).length=qA s:=by rw[<-Txs.len_list,T,A1,Txs.len_list];lia
    have l2:(Txt.slice base (some ((qA s+1:Nat):Int)) (some (szN s:Int))).length<=8:=by rw[<-Txs.len_list,s2,A1];lia
    refine⟨small (by lia),?_⟩;refine⟨small (by rw[t,l1];show qA s+1<=1000;lia),?_⟩;refine⟨small (by lia),?_⟩;have U:((qA s:Int)+1)=((qA s+1:Nat):Int):=by rfl
    have l3:(Txt.slice base none (some (qA s:Int))++(⟨#[e9 (s / 64+3*(s / 8 % (1+s % 8))+w)]⟩:Str)).length=qA s+1:=by rw[PySem.Str.length_append,l1];rfl
    refine⟨small ?_,wr (By C) ?_⟩
    ·rw[t] at l3 ⊢;rw[l3,U,I];lia
    ·have eq:(Txt.slice base none (some (qA s:Int))++(⟨#[e9 (s / 64+3*(qA s:Int)+w)]⟩:Str))++Txt.slice base (some ((qA s+1:Nat):Int)) (some (szN s:Int))=mkS (av s w):=by
      refine(yK _).symm.trans ?_;have ca:∀a b:Str,(a++b).cps.toList=a.cps.toList++b.cps.toList:=λa b=>by show(a.cps++b.cps).toList=_;simp
      rw[ca,ca,T,s2,j];unfold av;rw[AG c]
     rw[t,U,I,eq];exact q
theorem ahz(t t':Bool)(n J:Str):Da.eq (qE (.leaf t n)) (qE (.leaf t' J))=(decide (t=t')&&decide (n=J)):=by
 by_cases h:n=J
 ·subst h;cases t<;>cases t'<;>simp[qE,Da.eq,Da.eqs,kH,kL]<;>decide +kernel
 ·cases t<;>cases t'<;>simp[qE,Da.eq,Da.eqs,kH,kL,h]<;>decide +kernel
theorem jG{α β:Type}(f:α->β):∀(l:List α) (n:Nat),(l.map f).eraseIdx n=(l.eraseIdx n).map f
 |[],n=>by simp
 |_::_,0=>rfl
 |x::r,n+1=>by rw[AE,Cm,Cm,AE,jG f r n]
theorem a8(a:jm)(b:Y)(r:List (jm×Y))(k:jm):wn ((a,b)::r) k=if a=k then some b else wn r k:=by
 unfold wn;rw[Bm];by_cases h:a=k
 ·rw[AF h,show decide ((a,b).1=k)=true from AH h];rfl
 ·rw[AG h,show decide ((a,b).1=k)=false from Ay h]
theorem u7(k U:jm)(y:Y):∀kvs:List (jm×Y),wn (kvs.map λg=>if g.1=k then(g.1,y) else g) U=if U=k then(wn kvs U).map (λ_=>y) else wn kvs U
 |[]=>by rw[CO];split<;>rfl
 |(a,b)::r=>by
  have j:=u7 k U y r;rw[AE,a8];by_cases h:a=k
  ·rw[AF (show(a,b).1=k from h),a8,j];by_cases J:U=k
   ·rw[AF J,AF J,AF (h.trans J.symm),AF (h.trans J.symm)];rfl
   ·rw[AG J,AG J,AG (λz=>J (z.symm.trans h)),AG (λz=>J (z.symm.trans h))]
  ·rw[AG (show ¬(a,b).1=k from h),a8,j];by_cases J:U=k
   ·rw[AF J,AF J,AG (λz=>h (z.trans J)),AG (λz=>h (z.trans J))]
   ·rw[AG J,AG J]
theorem uQ(k J:jm)(y:Y):∀kvs:List (jm×Y),wn (kvs++[(k,y)]) J=(wn kvs J).or (if k=J then some y else none)
 |[]=>by rw[CH,a8];have:wn [] J=none:=rfl;rw[this];split<;>rfl
 |(a,b)::r=>by rw[List.cons_append,a8,a8,uQ k J y r];split<;>rfl
theorem tJ(k:jm):∀kvs:List (jm×Y),(kvs.any λJ=>decide (J.1=k))=(wn kvs k).isSome
 |[]=>rfl
 |(a,b)::r=>by
  rw[Ce,a8,tJ k r];by_cases h:a=k
  ·rw[AF h,show decide ((a,b).1=k)=true from AH h];rfl
  ·rw[AG h,show decide ((a,b).1=k)=false from Ay h];rfl
theorem tN(kvs:List (jm×Y))(k J:jm)(y:Y):wn (iw kvs k y) J=if J=k then some y else wn kvs J:=by
 unfold iw;rw[tJ];cases e:wn kvs k with
 |some v=>
  rw[AF (show(some v).isSome=true from rfl),u7];by_cases h:J=k
  ·rw[AF h,AF h,h,e];rfl
  ·rw[AG h,AG h]
 |none=>
  rw[AG (by simp),uQ];by_cases h:J=k
  ·rw[AF h,h,e,AF rfl];rfl
  ·rw[AG h,AG (λz=>h z.symm)];cases wn kvs J<;>rfl
theorem fQ(kvs:List (jm×Y))(k:jm)(y:Y):(iw kvs k y).length<=kvs.length+1:=by
 unfold iw;split
 ·rw[Ab];omega
 ·rw[Ad];simp
def iY(f:Nat->Nat):Option Kn->Option Kn
 |some (.nd e i j)=>some (.nd e (f i) (f j))
 |k=>k
theorem xL{f g:Nat->Nat}:∀{k:Option Kn},(∀e i j,k=some (.nd e i j)->f i=g i/\f j=g j)->iY f k=iY g k
 |none,_=>rfl
 |some (.lf _ _),_=>rfl
 |some (.nd e i j),h=>by obtain⟨a,b⟩:=h e i j rfl;show some (Kn.nd e (f i) (f j))=some (Kn.nd e (g i) (g j));rw[a,b]
structure Gap(ks:List (Option Kn))(ps:List Nat)(f:Nat->Nat)(wd:List (Option Kn)):Prop where
 at_:∀p∈ps,∀k,ks[p]?=some k->wd[f p]?=some (iY f k)
 inj:∀p∈ps,∀q∈ps,f p=f q->p=q
 only:∀x k,wd[x]?=some (some k)->∃p∈ps,x=f p
 ok:OkO wd
theorem Gap.nil(ks:List (Option Kn))(f:Nat->Nat):Gap ks [] f []:=⟨λp J=>(Bs J).elim,λp J=>(Bs J).elim,λx k h=>(by simp at h),λp e i j h=>(by simp at h)⟩
theorem Gap.lt{ks:List (Option Kn)}{ps:List Nat}{f:Nat->Nat}(h:Gap ks ps f wd){p:Nat}(J:p∈ps)(U:p<ks.length):f p<wd.length:=j6 (h.at_ p J _ (Ag U))
theorem Gap.step{ks:List (Option Kn)}{ps:List Nat}{f:Nat->Nat}(h:Gap ks ps f wd)(t:∀p∈ps,p<ks.length){p:Nat}{k:Option Kn}(I:p∉ps)(T:ks[p]?=some k)(r:∀x∈ps,∀e i j,ks[x]?=some (some (.nd e i j))->i∈ps/\j∈ps)(U:∀e i j,k=some (.nd e i j)->i∈ps/\j∈ps):
 Gap ks (ps++[p]) (λx=>if x=p then wd.length else f x) (wd++[iY f k]):=by
 have old:∀x∈ps,(if x=p then wd.length else f x)=f x:=λx J=>AG λ(c:x=p)=>I (c▸J);have ren:∀o,(∀e i j,o=some (.nd e i j)->i∈ps/\j∈ps)->iY (λx=>if x=p then wd.length else f x) o=iY f o:=λo g=>xL λe i j z=>by obtain⟨a,b⟩:=g e i j z;exact⟨old i a,old j b⟩
 refine⟨λx J o g=>?_,λx J y l e=>?_,λx o J=>?_,λx e i j J=>?_⟩
 ·rcases Ap.mp J with J|J
  ·show(wd++[iY f k])[if x=p then wd.length else f x]?=_;rw[old x J,ren o λe i j z=>r x J e i j (by rw[g,z])];exact mJ (h.at_ x J o g)
  ·have J:=Aj.mp J;subst J;rw[T] at g;cases g;show(wd++[iY f k])[if x=x then wd.length else f x]?=_;rw[AF rfl,ren k U];exact fJ wd _ []
 ·have e:(if x=p then wd.length else f x)=if y=p then wd.length else f y:=e
  rcases Ap.mp J with J|J<;>rcases Ap.mp l with l|l
  ·rw[old x J,old y l] at e;exact h.inj x J y l e
  ·cases Aj.mp l;rw[old x J,AF rfl] at e;have:=h.lt J (t x J);lia
  ·cases Aj.mp J;rw[old y l,AF rfl] at e;have:=h.lt l (t y l);lia
  ·rw[Aj.mp J,Aj.mp l]
 ·by_cases c:x<wd.length
  ·rw[AB c] at J;obtain⟨q,C,e⟩:=h.only x o J;exact⟨q,Ar _ C,by rw[e];exact(old q C).symm⟩
  ·refine⟨p,Ae _ (Aj.mpr rfl),?_⟩;have:=j6 J;rw[Ad] at this;have:x<wd.length+1:=this;show x=if p=p then wd.length else f p
   rw[AF rfl];lia
 ·by_cases c:x<wd.length
  ·rw[AB c] at J;exact h.ok x e i j J
  ·have:=j6 J;rw[Ad] at this;have:x<wd.length+1:=this;have:x=wd.length:=by lia
   subst this;rw[Ax (Al _),B9] at J;have J:iY f k=some (.nd e i j):=AN J;cases k with
   |none=>cases J
   |some k=>
    cases k with
    |lf=>cases J
    |nd e' i' j'=>
     obtain⟨a,b⟩:=U e' i' j' rfl;cases J;exact⟨h.lt a (t _ a),h.lt b (t _ b)⟩
theorem mP{ks:List (Option Kn)}{J:List Nat}(ok:OkO ks)(pm:J.Perm (List.range ks.length))(o:db ks J){p:Nat}(g:J[n]?=some p){e:Bool}(h:ks[p]?=some (some (.nd e i j))):i∈J.take n/\j∈J.take n:=by
 obtain⟨l1,l2⟩:=ok p e i j h;have hl:=j6 h;have C:=j6 g;have ind:∀x,x<ks.length->x≠p->(∀y∈J.drop (n+1),y≠x)->x∈J.take n:=λx T ne r=>by
  have U:x∈J:=pm.mem_iff.mpr (Bc.mpr T);have t:J=J.take n++p::J.drop (n+1):=by rw[Ag C] at g;rw[<-AN g,BU,A7]
  rw[t] at U;rcases Ap.mp U with U|U
  ·exact U
  ·rcases Am.mp U with U|U
   ·exact absurd U ne
   ·exact absurd rfl (r x U)
 have I:∀y∈J.drop (n+1),y≠i/\y≠j:=λy l=>by
  have t:J=J.take n++p::J.drop (n+1):=by rw[Ag C] at g;rw[<-AN g,BU,A7]
  unfold db at o;rw[t] at o;have:=(C4.mp o).2.1;exact(List.pairwise_cons.mp this).1 y l e i j h
 exact⟨ind i (by exact ae7) (by exact aot) λy l=>(I y l).1,ind j (by exact ae7) (by exact aot) λy l=>(I y l).2⟩
def aoa:ku:=(qt (zg (aj dN (qa 1) (qd (zk w5 (qa 3) (cq 1)) zb)) (qe 4))
 (qt (zg (aj dN (qa 1) (qd (zk w5 (qa 2) (cq 1)) zb)) (qe 5))
 (qt (zg (zk ai (x4 4 1) (zk w5 (zk az (qa 3) (jl 64)) (iW oS (xu (x4 4 1))))) (qe 6))
 (qt (zg (zk ai (x4 5 1) (zk w5 (zk az (qa 2) (jl 64)) (iW oS (xu (x4 5 1))))) (qe 7))
 (qt (jr (aj jc (qa 0) (qd (k8 (qd (dg "both") (aW (qa 6) (qa 7)))) zb)))
 (qt (zg (sN 1 (vv (zk km (x4 4 1) (x4 5 1))) (qe 9) (yB (zk (mL true) (qa 9) (rdT (qa 6) (qa 7)))) (qa 9)) (qe 8))
 (jr (aj jc (qa 1) (qd (ju (qd (k8 (qd (dg "both") (qd (zk gY (cq 0) (jl 1)) (aW (x4 4 0) (x4 5 0))))) (qd (zk km (qa 8) (ju (qd (zk gY (cq 0) (jl 1)) zb))) zb))) zb)))))))))
def aju:ku:=(qt (xt (yB (zk yLt (iW oS (xu (x4 1 1))) (jl 2))) afx jv)
 (qt (zg (aj dN (x4 1 1) (qd (zk w5 (qa 3) (iW oS (xu (x4 1 1)))) zb)) (qe 4))
 (qt (zg (aj dN (x4 1 1) (qd (zk w5 (qa 2) (iW oS (xu (x4 1 1)))) zb)) (qe 5))
 (qt (jr (aj jc (qa 0) (qd (k8 (qd (dg "either") (aW (qa 4) (qa 5)))) zb)))
 (qt (adk (qa 1) (jl 0) (k8 (qd (dg "either") (qd (zk gY (cq 0) (jl 1)) (xu (x4 1 0))))))
 (jr (aj jc (x4 1 1) (qd (zk gY (cq 0) (jl 1)) zb))))))))
theorem cN{ks:List Kn}:∀{w v:Wd} {p:Nat},ck ks p w->ck ks p v->w=v
 |.leaf t n,.leaf o I,p,h,k=>by
  have h:(ji ks)[p]?=some (.tup [.str (kL t),.str n]):=h;have k:(ji ks)[p]?=some (.tup [.str (kL o),.str I]):=k;rw[h] at k;injection k with k;injection k with k;injection k with U J;injection J with J _
  injection U with U;injection J with J
  have:t=o:=by cases t<;>cases o<;>first|rfl|(exfalso;revert U;decide +kernel)
  rw[this,J]
 |.leaf t n,.node e l r,p,h,k=>by obtain⟨i,j,k,_⟩:=k;have h:(ji ks)[p]?=some (.tup [.str (kL t),.str n]):=h;rw[h] at k;injection k with k;injection k with k;injection k with _ k;injection k with _ k;cases k
 |.node e l r,.leaf t n,p,h,k=>by obtain⟨i,j,h,_⟩:=h;have k:(ji ks)[p]?=some (.tup [.str (kL t),.str n]):=k;rw[h] at k;injection k with k;injection k with k;injection k with _ k;injection k with _ k;cases k
 |.node e l r,.node C l' r',p,⟨i,j,h,T,hr⟩,⟨i',j',k,kl,kr⟩=>by
  rw[h] at k;injection k with k;injection k with k;injection k with U J;injection J with J g;injection g with g _
  injection U with U;injection J with J;injection g with g
  have e1:i=i':=by lia
  have e2:j=j':=by lia
  subst e1 e2;have:e=C:=by cases e<;>cases C<;>first|rfl|(exfalso;revert U;decide +kernel)
  rw[this,cN (ks:=ks) T kl,cN (ks:=ks) hr kr]
theorem oW{ks:List Kn}(J:dZ ks):∀(m p:Nat),p<m->p<ks.length->∃w,ck ks p w/\w.depth<=p+1/\w.ok
 |0,p,h,_=>absurd h (by lia)
 |m+1,p,h,o=>by
  obtain⟨k,U⟩:∃k,ks[p]?=some k:=⟨_,Ag o⟩;have g:=J p k U;cases k with
  |lf t n=>exact⟨.leaf t n,ck.leaf U,by show 1<=p+1;exact DH _,g⟩
  |nd e i j=>
   have g:i<p/\j<p:=g;obtain⟨l,C,T,I⟩:=oW J m i (by lia) (by omega);obtain⟨r,b1,b2,b3⟩:=oW J m j (by lia) (by lia);exact⟨.node e l r,EX U C b1,by show max l.depth r.depth+1<=p+1;lia,I,b3⟩
def TV(v:Str->Bool):Wd->Bool
 |.leaf t n=>if t=true then !v n else v n
 |.node e l r=>if e=true then TV v l||TV v r else TV v l&&TV v r
theorem l9(v:Str->Bool):∀w:Wd,TV v w.turn=!TV v w
 |.leaf t n=>by cases t<;>simp[Wd.turn,TV]
 |.node e l r=>by cases e<;>simp[Wd.turn,TV,l9 v l,l9 v r]
theorem SR.lt{E:List Nat}(h:SR ks R E):∀x∈qk R,x<ks.length:=by
 have lt:∀{p:Nat} {k:Kn},ks[p]?=some k->p<ks.length:=λh=>(AV.mp h).1
 induction h with
 |link _ l o _ _=>intro x J;simp[qk] at J;rcases J with rfl|rfl;exact lt l;exact lt o
 |ei j _ _ _ _ _ _ r=>intro x J;rcases Am.mp J with rfl|J;exact lt j;exact r x J
 |bo j _ _ _ _ _ _ U g=>
  intro x J;rcases Am.mp J with rfl|J
  ·exact lt j
  ·rcases Ap.mp J with J|J
   ·exact U x J
   ·exact g x J
 |cu _ _ _ _ _ _ _ _ U g=>
  intro x J;rcases Ap.mp J with J|J
  ·exact U x J
  ·exact g x J
theorem SR.tv(hk:dZ ks)(v:Str->Bool){E:List Nat}(h:SR ks R E):∃x∈E,∃w,ck ks x w/\TV v w=true:=by
 have ex:∀{R':Ru} {E':List Nat},SR ks R' E'->∀x∈E',∃w,ck ks x w:=λs x J=>by obtain⟨w,hw,_⟩:=oW hk (x+1) x (by exact Co _) (s.lt x (s.sub x J));exact⟨w,hw⟩
 induction h with
 |@link p q t n E _ h2 h3 h4 _=>
  cases ht:TV v (.leaf t n) with
  |true=>exact⟨p,(h4 p).mpr (.inl rfl),_,ck.leaf h2,ht⟩
  |false=>
   refine⟨q,(h4 q).mpr (.inr rfl),_,ck.leaf h3,?_⟩;have:=l9 v (.leaf t n);rw[ht] at this;exact this
 |@ei r i j A EA E T hA hi hj _ U _ ih=>
  obtain⟨x,J,w,hw,tv⟩:=ih;obtain⟨wi,g⟩:=ex hA i hi;obtain⟨wj,l⟩:=ex hA j hj;by_cases c1:x=i
  ·subst c1;rw[cN hw g] at tv;exact⟨r,(U r).mpr (.inr rfl),_,EX T g l,by simp[TV,tv]⟩
  ·by_cases c2:x=j
   ·subst c2;rw[cN hw l] at tv;exact⟨r,(U r).mpr (.inr rfl),_,EX T g l,by simp[TV,tv]⟩
   ·exact⟨x,(U x).mpr (.inl ⟨J,c1,c2⟩),w,hw,tv⟩
 |@bo r i j A B EA EB E T hA hB hi hj U _ o C=>
  obtain⟨x,J,w,hw,tv⟩:=o;obtain⟨y,hy,u,I,tu⟩:=C;by_cases c1:x=i
  ·by_cases c2:y=j
   ·subst c1 c2;exact⟨r,(U r).mpr (.inr (.inr rfl)),_,EX T hw I,by simp[TV,tv,tu]⟩
   ·exact⟨y,(U y).mpr (.inr (.inl ⟨hy,c2⟩)),u,I,tu⟩
  ·exact⟨x,(U x).mpr (.inl ⟨J,c1⟩),w,hw,tv⟩
 |@cu p q A B EA EB E w0 hA hB hp hq a0 a1 h7 _ o C=>
  obtain⟨x,J,w,hw,tv⟩:=o;obtain⟨y,hy,u,I,tu⟩:=C;by_cases c1:x=p
  ·by_cases c2:y=q
   ·subst c1 c2;rw[cN hw a0] at tv;rw[cN I a1,l9,tv] at tu;cases tu
   ·exact⟨y,(h7 y).mpr (.inr ⟨hy,c2⟩),u,I,tu⟩
  ·exact⟨x,(h7 x).mpr (.inl ⟨J,c1⟩),w,hw,tv⟩
theorem SR.ends(J:dZ ks){E:List Nat}(h:SR ks R E):0<E.length:=by obtain⟨x,U,_⟩:=h.tv J λ_=>true;exact List.length_pos_of_mem U
structure Tr where
 a:Addr
 b:Addr
 R:Ru
 E:List Nat
abbrev zf(E:List Nat):List Y:=E.map λn:Nat=>Y.int (n:Int)
def Tr.ads(t:Tr):List Addr:=[t.a,t.b]
structure cA(L0 L:qu)(ka fa:Addr)(ks:List Kn)(fo:List Tr):Prop where
 hk:L ka=some (.lst (ji ks))
 ht:∀t∈fo,L t.a=some (.lst [qj t.R,.ref t.b])/\L t.b=some (.lst (zf t.E))
 sr:∀t∈fo,SR ks t.R t.E
 nd:(fo.flatMap λt=>qk t.R).Nodup
 tm:∀x,x∈(fo.flatMap λt=>qk t.R)↔x<ks.length
 ad:(ka::fa::fo.flatMap Tr.ads).Nodup
 ok:dZ ks
 sub:qf L0 L
 fr:∀x∈ka::fa::fo.flatMap Tr.ads,L0 x=none
def zn(fo:List Tr):List Y:=fo.map λt=>Y.ref t.a
structure ou(L0 L:qu)(ka fa:Addr)(ks:List Kn)(fo:List Tr):Prop where
 b:cA L0 L ka fa ks fo
 hf:L fa=some (.lst (zn fo))
def noC:Ru->Prop
 |.link _ _=>True
 |.ei _ A=>noC A
 |.bo _ A B=>noC A/\noC B
 |.cu _ _ _ _=>False
def Ext(ks:List Kn)(fo:List Tr)(iA:List Kn)(fo':List Tr):Prop:=(∃ms:List Kn,iA=ks++ms/\∀k∈ms,∃e i j,k=.nd e i j)/\((∀t∈fo,noC t.R)->∀t∈fo',noC t.R)
theorem cA.perm{fo fo':List Tr}(h:cA L0 L ka fa ks fo)(p:fo.Perm fo'):cA L0 L ka fa ks fo':=by have U:(fo.flatMap λt=>qk t.R).Perm (fo'.flatMap λt=>qk t.R):=p.flatMap_right _;have g:(fo.flatMap Tr.ads).Perm (fo'.flatMap Tr.ads):=p.flatMap_right _;refine⟨h.hk,λt J=>h.ht t (p.mem_iff.mpr J),λt J=>h.sr t (p.mem_iff.mpr J),U.nodup_iff.mp h.nd,λx=>by rw[<-U.mem_iff];exact h.tm x,((g.cons _).cons _).nodup_iff.mp h.ad,h.ok,h.sub,λx j=>h.fr x (((g.cons _).cons _).mem_iff.mpr j)⟩
end L3
variable {fo rest:List L3.Tr}
namespace L3
open PySem L2 Words
theorem xh{α:Type}:∀{l:List α} {j:Nat} {x:α},l[j]?=some x->l.Perm (x::l.eraseIdx j)
 |[],_,_,h=>by simp at h
 |y::r,0,x,h=>by
  have:y=x:=by simpa using h
  subst this;exact .refl _
 |y::r,j+1,x,h=>by have J:=xh (l:=r) (j:=j) (x:=x) (by simpa using h);rw[Cm];exact(J.cons y).trans (.swap _ _ _)
theorem my(fo:List Tr)(j:Nat):(zn fo).eraseIdx j=zn (fo.eraseIdx j):=jG _ fo j
theorem cA.step{ms:List Kn}{old:List Tr}{t':Tr}(h:cA L0 L ka fa ks (old++rest))(I:L' ka=some (.lst (ji (ks++ms))))(T:L' t'.a=some (.lst [qj t'.R,.ref t'.b])/\L' t'.b=some (.lst (zf t'.E)))
 (keep:∀t∈rest,L' t.a=L t.a/\L' t.b=L t.b) (sub:qf L0 L') (ad:(ka::fa::(rest++[t']).flatMap Tr.ads).Nodup) (fr:∀x∈t'.ads,L0 x=none) (ok:dZ (ks++ms)) (sr:SR (ks++ms) t'.R t'.E)
 (tp:(qk t'.R).Perm (List.range' ks.length ms.length++old.flatMap λt=>qk t.R)):cA L0 L' ka fa (ks++ms) (rest++[t']):=by
 have g:=h.nd;have j:=h.tm;rw[AA] at g;have C:((rest++[t']).flatMap λt=>qk t.R)=(rest.flatMap λt=>qk t.R)++qk t'.R:=by rw[AA];simp
 have mem:∀x,x∈qk t'.R↔(ks.length<=x/\x<ks.length+ms.length)\/x∈(old.flatMap λt=>qk t.R):=λx=>by rw[tp.mem_iff,Ap,CU]
 refine⟨I,λt U=>?_,λt U=>?_,?_,λx=>?_,ad,ok,sub,λx J=>?_⟩
 ·rcases Ap.mp U with U|U
  ·obtain⟨k1,k2⟩:=keep t U;rw[k1,k2];exact h.ht t (Ae _ U)
  ·rw[Aj.mp U];exact T
 ·rcases Ap.mp U with U|U
  ·exact(h.sr t (Ae _ U)).more _
  ·rw[Aj.mp U];exact sr
 ·rw[C,Au];rw[Au] at g;refine⟨g.2.1,tp.nodup_iff.mpr ?_,λx J y l e=>?_⟩
  ·rw[Au];refine⟨Dr,g.1,λx J y l e=>?_⟩;have J:=CU.mp J;have l:=(j y).mp (by rw[AA];exact Ar _ l);lia
  ·subst e;rcases (mem x).mp l with l|l
   ·have:=(j x).mp (by rw[AA];exact Ae _ J);lia
   ·exact g.2.2 x l x J rfl
 ·rw[C,Ap,mem,Ad];have p:=j x;rw[AA,Ap] at p;constructor
  ·rintro(o|o|o)
   ·have:=p.mp (.inr o);exact ar1
   ·lia
   ·have:=p.mp (.inl o);lia
  ·intro o;by_cases c:x<ks.length
   ·rcases p.mpr c with r|r
    ·exact .inr (.inr r)
    ·exact .inl r
   ·exact .inr (.inl (by lia))
 ·rcases Am.mp J with rfl|J
  ·exact h.fr _ (Af ..)
  ·rcases Am.mp J with rfl|J
   ·exact h.fr _ (Ac _ (Af ..))
   ·rw[AA] at J;rcases Ap.mp J with J|J
    ·exact h.fr _ (Ac _ (Ac _ (by rw[AA];exact Ae _ J)))
    ·exact fr x (by simpa using J)
def rH:jn:=λys L Q=>∃L0 ka fa ks fo,∃one two:Int,ys=[.ref ka,.ref fa,.int one,.int two]/\ou L0 L ka fa ks fo/\2<=fo.length/\fo.length<=200/\ks.length<=200/\
 ∀L' iA fo',ou L0 L' ka fa iA fo'->iA.length=ks.length+1->fo'.length+1=fo.length->Ext ks fo iA fo'->Q .non L'
theorem jP{l:List α}(h:0<l.length)(k:Int):∃(j:Nat) (x:α),k % (l.length:Int)=(j:Int)/\j<l.length/\l[j]?=some x:=by have J:0<=k % (l.length:Int):=DR _ (by lia);have U:k % (l.length:Int)<(l.length:Int):=Int.emod_lt_of_pos _ (by omega);refine⟨(k % (l.length:Int)).toNat,l[(k % (l.length:Int)).toNat]'(by lia),by lia,by lia,Ag (by lia)⟩
theorem bX:∀(n:Nat) (l:List Nat),l.Nodup->(∀x∈l,x<n)->l.length<=n
 |0,l,_,h=>by cases l with|nil=>exact Al _|cons x r=>exact absurd (h x (Af ..)) (by lia)
 |n+1,l,nd,h=>by
  by_cases c:n∈l
  ·have p:=List.perm_cons_erase c;have U:=bX n (l.erase n) (nd.erase n) λx J=>by have:=(List.Nodup.mem_erase_iff nd).mp J;have:=h x this.2;lia
   rw[p.length_eq,AQ];exact amd
  ·exact BQ (bX n l nd λx J=>by have:=h x J;have:x≠n:=λe=>c (e▸J);lia)
theorem bW(h:cA L0 L ka fa ks fo){t:Tr}(J:t∈fo):0<t.E.length/\t.E.length<=ks.length:=by have s:=h.sr t J;exact⟨s.ends h.ok,bX _ _ s.nod λx U=>s.lt x (s.sub x U)⟩
theorem ahf(x l r:Nat):wC (gf (.int (x:Int))) (([.int (l:Int),.int (r:Int)]:List Y).map gf)=decide (x=l\/x=r):=by
 show(kH (.int (l:Int)) (.int (x:Int))||(kH (.int (r:Int)) (.int (x:Int))||false))=_;have e:∀a b:Nat,kH (.int (a:Int)) (.int (b:Int))=decide (b=a):=λa b=>by
  show decide ((a:Int)=(b:Int))=decide (b=a);by_cases c:b=a
  ·subst c;simp
  ·rw[Ay c];apply Ay;lia
 rw[e,e];by_cases J:x=l<;>by_cases U:x=r<;>simp[J,U]
theorem sK{E:List Nat}(h:0<E.length)(k:Int):∃x,x∈E/\iL (zf E) (k % ((zf E).length:Int))=some (.int ((x:Nat):Int)):=by obtain⟨j,x,J,U,ex⟩:=jP h k;refine⟨x,Aw ex,?_⟩;rw[Ab,J];exact xq (by rw[An,ex];rfl)
def xw(E1 E2:List Nat)(l r:Nat):List Nat:=(E1++E2).filter λx=>!decide (x=l\/x=r)
theorem afv{g:Addr}{E:List Nat}{l r k:Nat}{Q:YK}{tc:lE}(I:L g=some (.lst (zf E)))(J:E.length<=1000)
 (T:∀y (o:Bool->qu->Prop),mL true y (.tup [.int (l:Int),.int (r:Int)]) L (λx L'=>match x with|.bl c=>o c L'|_=>False)->tc (fh (τ++List.replicate 1 none) k y) L o)
 (hv:∀y,aay (fh (τ++List.replicate 1 none) k y) k=some y)
 (hq:∀p,L p=none->Q (.ref p) (qh L p (.lst (zf (E.filter λx=>!decide (x=l\/x=r)))))):
 qW L g λys keep L2=>lcK ys keep 1 (qe k) tc (qa k) τ L2 Q:=by
 refine jx I λkeep kp=>cw (λj zs=>zs=zf ((E.take j).filter λx=>!decide (x=l\/x=r))) (by rw[Ab];exact pL J) (kp L rfl) rfl ?_ ?_
 ·rintro j y _ t rfl;obtain⟨x,ex,rfl⟩:∃x:Nat,E[j]?=some x/\y=Y.int (x:Int):=by rw[An] at t;obtain⟨x,e1,e2⟩:=Ao.mp t;exact⟨x,e1,e2.symm⟩
  refine T _ _ ⟨rfl,rfl,?_⟩;rw[ahf];show wq (!decide (x=l\/x=r)) _ _;have C:(E.take (j+1)).filter (λx=>!decide (x=l\/x=r))=(E.take j).filter (λx=>!decide (x=l\/x=r))++[x].filter (λx=>!decide (x=l\/x=r)):=by rw[A3,ex,Bk];rfl
  by_cases c:x=l\/x=r
  ·refine xr (by rw[AH c];rfl) ?_;refine frg ⟨rfl,?_⟩;rw[C,List.filter_cons_of_neg (by simp[c]),List.filter_nil,AS]
  ·refine wm (by rw[Ay c];rfl) ?_;unfold qa;rw[hv];refine frg ⟨rfl,?_⟩;rw[C,List.filter_cons_of_pos (by simp[c]),List.filter_nil];unfold zf;rw[Ak];rfl
 ·rintro _ rfl p U;rw[Ab,A6];exact hq p U
theorem wA{k:Int}(g:L fa=some (.lst (zn fo)))(h:0<fo.length):∃(j:Nat) (t:Tr),fo[j]?=some t/\0<=k % ((zn fo).length:Int)/\k % ((zn fo).length:Int)<((zn fo).length:Int)/\
 (zn fo)[(k % ((zn fo).length:Int)).toNat]?=some (.ref t.a)/\qh L fa (.lst ((zn fo).eraseIdx (k % ((zn fo).length:Int)).toNat)) fa=some (.lst (zn (fo.eraseIdx j))):=by
 obtain⟨j,t,U,l,J⟩:=jP h k;have e:(zn fo).length=fo.length:=Ab ..;rw[e,U];refine⟨j,t,J,by exact A9 _,by lia,?_,?_⟩
 ·show(zn fo)[j]?=_;unfold zn;rw[An,J];rfl
 ·rw[q8];show some (LO.lst ((zn fo).eraseIdx j))=_;rw[my]
theorem cA.two{t1 t2:Tr}(h:cA L0 L ka fa ks (t1::t2::rest)):∀x,x∈qk t1.R->x∈qk t2.R->False:=by intro x J U;have nd:=h.nd;rw[AM,AM,Au] at nd;exact nd.2.2 x J x (Ar _ U) rfl
theorem qI{E1 E2:List Nat}{l r:Nat}(J:l∉E2)(U:r∉E1)(x:Nat):x∈xw E1 E2 l r↔(x∈E1/\x≠l)\/(x∈E2/\x≠r):=by
 unfold xw;rw[AJ,Ap];constructor
 ·rintro⟨h,c⟩;have c:¬(x=l\/x=r):=by simpa using c
  rcases h with h|h
  ·exact .inl ⟨h,λe=>c (.inl e)⟩
  ·exact .inr ⟨h,λe=>c (.inr e)⟩
 ·rintro(⟨h,c⟩|⟨h,c⟩)
  ·refine⟨.inl h,?_⟩;have:x≠r:=λe=>U (e▸h);simp[c,this]
  ·refine⟨.inr h,?_⟩;have:x≠l:=λe=>J (e▸h);simp[c,this]
theorem rO{E1 E2:List Nat}{l r:Nat}(h1:E1.Nodup)(h2:E2.Nodup)(d:∀x,x∈E1->x∈E2->False):(xw E1 E2 l r).Nodup:=by
 unfold xw;have h:(E1++E2).Nodup:=by rw[Au];exact⟨h1,h2,λx J y U e=>d x J (e▸U)⟩
 exact List.Pairwise.filter _ h
theorem ai4:∀ys L Q,rH ys L Q->xl aoa 9 ys L Q:=by
 rintro ys L Q ⟨L0,C,T,g,fo,one,two,rfl,F,h2,dH,cv,q⟩;have big:=bg_;have ar:∀fo:List Tr,(zn fo).length=fo.length:=λfo=>Ab ..;obtain⟨j1,J,br,a1,a2,a3,a0⟩:=wA (k:=two) F.hf (by exact xD);have l1:(fo.eraseIdx j1).length+1=fo.length:=by have:=(xh br).length_eq;rw[AQ] at this;lia
 refine qc F.hf (qc F.hf ⟨(by show(0:Int)<((zn fo).length:Int);rw[ar];lia),qr F.hf ⟨a1,a2,qo a3 ?_⟩⟩);have aH:∀b o,b≠T->L b=some o->qh L T (.lst ((zn fo).eraseIdx (two % ((zn fo).length:Int)).toNat)) b=some o:=λb o nb e=>by rw[qb nb];exact e
 generalize qh L T (.lst ((zn fo).eraseIdx (two % ((zn fo).length:Int)).toNat))=L1 at a0 aH;obtain⟨j2,U,bu,b1,b2,b3,bn⟩:=wA (k:=one) a0 (by lia);have l2:((fo.eraseIdx j1).eraseIdx j2).length+1=(fo.eraseIdx j1).length:=by have:=(xh bu).length_eq;rw[AQ] at this;lia
 refine qc a0 (qc a0 ⟨(by show(0:Int)<((zn (fo.eraseIdx j1)).length:Int);rw[ar];lia),qr a0 ⟨b1,b2,qo b3 ?_⟩⟩);have j:∀b o,b≠T->L b=some o->qh L1 T (.lst ((zn (fo.eraseIdx j1)).eraseIdx (one % ((zn (fo.eraseIdx j1)).length:Int)).toNat)) b=some o:=λb o nb e=>by rw[qb nb];exact aH b o nb e
 generalize qh L1 T (.lst ((zn (fo.eraseIdx j1)).eraseIdx (one % ((zn (fo.eraseIdx j1)).length:Int)).toNat))=L2 at bn j;have bp:fo.Perm (J::U::(fo.eraseIdx j1).eraseIdx j2):=(xh br).trans ((xh bu).cons _);have B:cA L0 L C T g (J::U::(fo.eraseIdx j1).eraseIdx j2):=F.b.perm bp;generalize (fo.eraseIdx j1).eraseIdx j2=rest at l2 bn B bp;clear a0 aH a1 a2 a3 b1 b2 b3;have m1:J∈J::U::rest:=by simp
 have m2:U∈J::U::rest:=by simp
 have ad:=B.ad;have nk:∀t∈J::U::rest,t.a≠T/\t.b≠T/\t.a≠C/\t.b≠C:=λt ht=>by rw[Av,Av] at ad;have ma:t.a∈(J::U::rest).flatMap Tr.ads:=AW.mpr ⟨t,ht,by simp[Tr.ads]⟩;have mb:t.b∈(J::U::rest).flatMap Tr.ads:=AW.mpr ⟨t,ht,by simp[Tr.ads]⟩;exact⟨λe=>ad.2.1 (e▸ma),λe=>ad.2.1 (e▸mb),λe=>ad.1 (Ac _ (e▸ma)),λe=>ad.1 (Ac _ (e▸mb))⟩
 have nkf:C≠T:=by rw[Av] at ad;exactλe=>ad.1 (e▸Af ..)
 have bS:L2 C=some (.lst (ji g)):=j C _ nkf B.hk;have a4:=j J.a _ (nk J m1).1 (B.ht J m1).1;have aL:=j J.b _ (nk J m1).2.1 (B.ht J m1).2;have a5:=j U.a _ (nk U m2).1 (B.ht U m2).1;have ba:=j U.b _ (nk U m2).2.1 (B.ht U m2).2;have cy:=bW B m1;have cz:=bW B m2;obtain⟨x,hx,ex⟩:=sK cy.1 (two / 64);obtain⟨y,hy,ey⟩:=sK cz.1 (one / 64);refine qc a4 ⟨⟨by decide,by decide⟩,qc a4 (qc aL ⟨(by show(0:Int)<((zf J.E).length:Int);rw[Ab];omega),qc aL (qo ex ?_)⟩)⟩;refine qc a5 ⟨⟨by decide,by decide⟩,qc a5 (qc ba ⟨(by show(0:Int)<((zf U.E).length:Int);rw[Ab];omega),qc ba (qo ey ?_)⟩)⟩;refine qc bS (qr bS ⟨big _ (by rw[Ab];exact ain),?_⟩);have ek:ji g++[.tup [.str "both",.int ((x:Nat):Int),.int ((y:Nat):Int)]]=ji (g++[.nd false x y]):=by unfold ji;rw[Ak];rfl
 rw[ek];have ca:qh L2 C (.lst (ji (g++[.nd false x y]))) C=some (.lst (ji (g++[.nd false x y]))):=q8;have p:∀b o,b≠C->L2 b=some o->qh L2 C (.lst (ji (g++[.nd false x y]))) b=some o:=λb o nb e=>by rw[qb nb];exact e
 generalize qh L2 C (.lst (ji (g++[.nd false x y])))=L3 at ca p;have a4:=p _ _ (nk J m1).2.2.1 a4;have aL:=p _ _ (nk J m1).2.2.2 aL;have a5:=p _ _ (nk U m2).2.2.1 a5;have ba:=p _ _ (nk U m2).2.2.2 ba;have cP:=p _ _ (AI nkf) bn;refine qc a4 (qc a5 ⟨_,_,aL,ba,small (by rw[Ab,Ab];lia),λpp d0=>?_⟩);have en:zf J.E++zf U.E=zf (J.E++U.E):=by unfold zf;rw[Ak]
 rw[en];refine afv (E:=J.E++U.E) (l:=x) (r:=y) (k:=9) q8 (by rw[Ad];lia) (λy' Q' h=>h) (λ_=>rfl) λpe da=>?_;have s4:qf L3 (qh (qh L3 pp (.lst (zf (J.E++U.E)))) pe (.lst (zf ((J.E++U.E).filter λz=>!decide (z=x\/z=y))))):=(By d0).trans (By da);have bq:qh (qh L3 pp (.lst (zf (J.E++U.E)))) pe (.lst (zf ((J.E++U.E).filter λz=>!decide (z=x\/z=y)))) pe=some (.lst (zf (xw J.E U.E x y))):=q8;generalize qh (qh L3 pp (.lst (zf (J.E++U.E)))) pe (.lst (zf ((J.E++U.E).filter λz=>!decide (z=x\/z=y))))=L4 at s4 bq;have bb:=s4 _ _ ca;have bc:=s4 _ _ cP;have nn:(((ji (g++[.nd false x y])).length:Nat):Int)-1=((g.length:Nat):Int):=by rw[Ab,Ad];simp
 refine qc bc (qc bb (qc (s4 _ _ a4) (qc (s4 _ _ a5) (qc bb λpn bd=>?_))));refine⟨_,_,By bd _ _ bq,q8,small (by have:=rO (l:=x) (r:=y) (B.sr J m1).nod (B.sr U m2).nod (λz h1 h2=>B.two z ((B.sr J m1).sub z h1) ((B.sr U m2).sub z h2));have:=List.length_filter_le (λz=>!decide (z=x\/z=y)) (J.E++U.E);rw[Ad] at this;rw[Ab];unfold xw;show _+1<=1000;lia),λI bf pa bg=>?_⟩;have s7:=(By (o:=.lst [.int ((((ji (g++[.nd false x y])).length:Nat):Int)-1)]) bd).trans ((By (o:=.lst (zf (xw J.E U.E x y)++[.int ((((ji (g++[.nd false x y])).length:Nat):Int)-1)])) bf).trans (By (o:=.lst [.tup [.str "both",.int ((((ji (g++[.nd false x y])).length:Nat):Int)-1),qj J.R,qj U.R],.ref I]) bg));refine qr (s7 _ _ bc) ⟨big _ (by rw[ar];lia),?_⟩;have cb:I≠pa:=k7 q8 bg;have bi:∀L6:qu,qh L6 pa (.lst [.tup [.str "both",.int ((((ji (g++[.nd false x y])).length:Nat):Int)-1),qj J.R,qj U.R],.ref I]) pa=some (.lst [qj (.bo g.length J.R U.R),.ref I]):=λL6=>by rw[q8,nn];rfl
 have bj:∀L5 o,qh (qh L5 I (.lst (zf (xw J.E U.E x y)++[.int ((((ji (g++[.nd false x y])).length:Nat):Int)-1)]))) pa o I=some (.lst (zf (xw J.E U.E x y++[g.length]))):=λL5 o=>by rw[qb cb,q8,nn];unfold zf;rw[Ak];rfl
 have ea:=bi (qh (qh L4 pn (.lst [.int ((((ji (g++[.nd false x y])).length:Nat):Int)-1)])) I (.lst (zf (xw J.E U.E x y)++[.int ((((ji (g++[.nd false x y])).length:Nat):Int)-1)])));have eb:=bj (qh L4 pn (.lst [.int ((((ji (g++[.nd false x y])).length:Nat):Int)-1)])) (.lst [.tup [.str "both",.int ((((ji (g++[.nd false x y])).length:Nat):Int)-1),qj J.R,qj U.R],.ref I]);have ag:L4 pa=none:=by cases z:L4 pa with|none=>rfl|some o=>rw[((By bd).trans (By bf)) _ _ z] at bg;cases bg
 have al:L4 I=none:=by cases z:L4 I with|none=>rfl|some o=>rw[(By bd) _ _ z] at bf;cases bf
 generalize qh (qh (qh L4 pn (.lst [.int ((((ji (g++[.nd false x y])).length:Nat):Int)-1)])) I (.lst (zf (xw J.E U.E x y)++[.int ((((ji (g++[.nd false x y])).length:Nat):Int)-1)]))) pa (.lst [.tup [.str "both",.int ((((ji (g++[.nd false x y])).length:Nat):Int)-1),qj J.R,qj U.R],.ref I])=L7 at s7 ea eb;clear bd bf bg bi bj bq;have up:∀b o,b≠T->b≠C->L b=some o->L4 b=some o:=λb o n1 n2 e=>s4 _ _ (p _ _ n2 (j _ _ n1 e));have dI:=s7 _ _ bc;have cc:pa≠T:=λe=>by rw[e,bc] at ag;cases ag
 have cl:I≠T:=λe=>by rw[e,bc] at al;cases al
 have s1:=B.sr J m1;have s2:=B.sr U m2;have bh:∀z,z∈J.E->z∈U.E->False:=λz h1 h2=>B.two z (s1.sub z h1) (s2.sub z h2);refine xi (q _ (g++[.nd false x y]) (rest++[⟨pa,I,.bo g.length J.R U.R,xw J.E U.E x y++[g.length]⟩]) ⟨?_,?_⟩ (by rw[Ad];rfl) (by rw[Ad];simp;lia) ⟨⟨_,rfl,λk hk=>⟨_,_,_,Aj.mp hk⟩⟩,λh t ht=>?_⟩)
 rotate_right
 ·have h':∀u∈J::U::rest,noC u.R:=λu hu=>h u (bp.mem_iff.mpr hu);rcases Ap.mp ht with ht|ht
  ·exact h' t (Ac _ (Ac _ ht))
  ·rw[Aj.mp ht];exact⟨h' J m1,h' U m2⟩
 ·refine cA.step (old:=[J,U]) (t':=⟨pa,I,.bo g.length J.R U.R,xw J.E U.E x y++[g.length]⟩) B ?_ ⟨?_,?_⟩ (λt ht=>?_) (λb o e=>?_) ?_ (λz hz=>?_) ?_ ?_ ?_
  ·rw[qb nkf];exact s7 _ _ bb
  ·rw[qb cc];exact ea
  ·rw[qb cl];exact eb
  ·have mt:t∈J::U::rest:=Ac _ (Ac _ ht);obtain⟨n1,n2,n3,n4⟩:=nk t mt;obtain⟨h1,h2⟩:=B.ht t mt;rw[h1,h2,qb n1,qb n2];exact⟨s7 _ _ (up _ _ n1 n3 h1),s7 _ _ (up _ _ n2 n4 h2)⟩
  ·have n1:b≠C:=λz=>by rw[z,B.fr C (by simp)] at e;cases e
   have n2:b≠T:=λz=>by rw[z,B.fr T (by simp)] at e;cases e
   rw[qb n2];exact s7 _ _ (up _ _ n2 n1 (B.sub _ _ e))
  ·rw[Av,Av] at ad;obtain⟨d1,d2,d3⟩:=ad;have de:(rest.flatMap Tr.ads).Nodup:=by rw[AM,AM,Au,Au] at d3;exact d3.2.1.2.1
   have cm:∀z∈rest.flatMap Tr.ads,z∈(J::U::rest).flatMap Tr.ads:=λz hz=>by rw[AM,AM];exact Ae _ (Ae _ hz)
   have cn:∀z∈rest.flatMap Tr.ads,∃o,L4 z=some o:=λz hz=>by
    obtain⟨t,ht,hz⟩:=AW.mp hz;have mt:t∈J::U::rest:=Ac _ (Ac _ ht);obtain⟨n1,n2,n3,n4⟩:=nk t mt;obtain⟨h1,h2⟩:=B.ht t mt;have hz:z=t.a\/z=t.b:=by simpa[Tr.ads] using hz
    rcases hz with rfl|rfl
    ·exact⟨_,up _ _ n1 n3 h1⟩
    ·exact⟨_,up _ _ n2 n4 h2⟩
   have di:pa≠C:=λe=>by rw[e,bb] at ag;cases ag
   have dj:I≠C:=λe=>by rw[e,bb] at al;cases al
   have dp:pa∉rest.flatMap Tr.ads:=λhz=>by obtain⟨o,e⟩:=cn _ hz;rw[ag] at e;cases e
   have dv:I∉rest.flatMap Tr.ads:=λhz=>by obtain⟨o,e⟩:=cn _ hz;rw[al] at e;cases e
   rw[AA];rw[Av,Av,Au];refine⟨?_,?_,de,?_,?_⟩
   ·intro z;rcases Am.mp z with z|z
    ·exact nkf z
    ·rcases Ap.mp z with z|z
     ·exact d1 (Ac _ (cm _ z))
     ·simp[Tr.ads] at z;rcases z with z|z;exact di z.symm;exact dj z.symm
   ·intro z;rcases Ap.mp z with z|z
    ·exact d2 (cm _ z)
    ·simp[Tr.ads] at z;rcases z with z|z;exact cc z.symm;exact cl z.symm
   ·simp[Tr.ads];exact AI cb
   ·intro u hu v hv e;simp[Tr.ads] at hv;subst e;rcases hv with rfl|rfl
    ·exact dp hu
    ·exact dv hu
  ·have hz:z=pa\/z=I:=by simpa[Tr.ads] using hz
   cases w:L0 z with
   |none=>rfl
   |some o=>
    have n1:z≠C:=λe=>by rw[e,B.fr C (by simp)] at w;cases w
    have n2:z≠T:=λe=>by rw[e,B.fr T (by simp)] at w;cases w
    have:=up _ _ n2 n1 (B.sub _ _ w);rcases hz with rfl|rfl
    ·rw[ag] at this;cases this
    ·rw[al] at this;cases this
  ·exact B.ok.snoc ⟨s1.lt x (s1.sub x hx),s2.lt y (s2.sub y hy)⟩
  ·refine .bo (fJ _ _ _) (s1.more _) (s2.more _) hx hy (λz=>?_) ?_
   ·rw[Ap,qI (λh=>bh x hx h) (λh=>bh y h hy),Aj];constructor
    ·rintro((h|h)|h)
     ·exact .inl h
     ·exact .inr (.inl h)
     ·exact .inr (.inr h)
    ·rintro(h|h|h)
     ·exact .inl (.inl h)
     ·exact .inl (.inr h)
     ·exact .inr h
   ·rw[Au];refine⟨rO s1.nod s2.nod bh,by simp,λu hu v hv e=>?_⟩;rw[Aj.mp hv] at e;have:=(qI (λh=>bh x hx h) (λh=>bh y h hy) u).mp hu;rcases this with⟨h,_⟩|⟨h,_⟩
    ·have:=s1.lt u (s1.sub u h);lia
    ·have:=s2.lt u (s2.sub u h);lia
  ·show(g.length::(qk J.R++qk U.R)).Perm (List.range' g.length 1++([J,U].flatMap λt=>qk t.R));simp[DB]
 ·rw[q8];unfold zn;rw[Ak];rfl
theorem uv{E:List Nat}{k:Int}(h:0<E.length):∃(j x:Nat),E[j]?=some x/\0<=k % ((zf E).length:Int)/\k % ((zf E).length:Int)<((zf E).length:Int)/\
 (zf E)[(k % ((zf E).length:Int)).toNat]?=some (.int ((x:Nat):Int))/\(zf E).eraseIdx (k % ((zf E).length:Int)).toNat=zf (E.eraseIdx j):=by
 obtain⟨j,x,U,g,J⟩:=jP h k;have e:(zf E).length=E.length:=Ab ..;rw[e,U];refine⟨j,x,J,by exact A9 _,by lia,?_,?_⟩
 ·show(zf E)[j]?=_;rw[An,J];rfl
 ·exact jG _ E j
def mX:jn:=λys L Q=>∃L0 ka fa ks,∃pre post:List Tr,∃t:Tr,∃one two:Int,ys=[.ref ka,.ref t.a,.int one,.int two]/\ou L0 L ka fa ks (pre++t::post)/\ks.length<=200/\
 ∀L' iA fo',ou L0 L' ka fa iA fo'->iA.length<=ks.length+1->fo'.length=(pre++t::post).length->Ext ks (pre++t::post) iA fo'->Q .non L'
theorem abz:∀ys L Q,mX ys L Q->xl aju 6 ys L Q:=by
 rintro ys L Q ⟨L0,l,fa,J,pre,post,t,one,two,rfl,F,ba,q⟩;have big:=bg_;have mt:t∈pre++t::post:=by simp
 have B:=F.b;obtain⟨ta,tb⟩:=B.ht t mt;have le:=bW B mt;have s:=B.sr t mt;have r:∀E:List Nat,(zf E).length=E.length:=λE=>Ab ..;refine qc ta (qc tb ?_);refine xn (λc=>?_) λc=>?_
 ·exact xi (q L J _ F (BV _) rfl ⟨⟨[],(AS _).symm,λk hk=>by cases hk⟩,λh=>h⟩)
 have c:¬(((zf t.E).length:Int)<2):=c;rw[r] at c;have ad:=B.ad;have nkf:l≠fa:=by rw[Av] at ad;exactλe=>ad.1 (e▸Af ..)
 have nk:∀u∈pre++t::post,u.a≠fa/\u.b≠fa/\u.a≠l/\u.b≠l:=λu g=>by rw[Av,Av] at ad;have ma:u.a∈(pre++t::post).flatMap Tr.ads:=AW.mpr ⟨u,g,by simp[Tr.ads]⟩;have mb:u.b∈(pre++t::post).flatMap Tr.ads:=AW.mpr ⟨u,g,by simp[Tr.ads]⟩;exact⟨λe=>ad.2.1 (e▸ma),λe=>ad.2.1 (e▸mb),λe=>ad.1 (Ac _ (e▸ma)),λe=>ad.1 (Ac _ (e▸mb))⟩
 have a0:t.a≠t.b:=by rw[Av,Av,AA,AM,Au,Au] at ad;have:=ad.2.2.2.1.1;simpa[Tr.ads] using this
 obtain⟨j1,x,e1,a1,a2,a3,a4⟩:=uv (k:=two) le.1;refine qc ta (qc tb (qc ta (qc tb ⟨(by show(0:Int)<((zf t.E).length:Int);rw[r];omega),qr tb ⟨a1,a2,qo a3 ?_⟩⟩)));rw[a4];have bd:(t.E.eraseIdx j1).length+1=t.E.length:=by have:=(xh e1).length_eq;rw[AQ] at this;lia
 have ag:qh L t.b (.lst (zf (t.E.eraseIdx j1))) t.a=some (.lst [qj t.R,.ref t.b]):=by rw[qb a0];exact ta
 obtain⟨j2,y,e2,b1,b2,b3,b4⟩:=uv (E:=t.E.eraseIdx j1) (k:=one) (by lia);refine qc ag (qc q8 (qc ag (qc q8 ⟨(by show(0:Int)<((zf (t.E.eraseIdx j1)).length:Int);rw[r];omega),qr q8 ⟨b1,b2,qo b3 ?_⟩⟩)));rw[b4,xz];have bb:((t.E.eraseIdx j1).eraseIdx j2).length+1=(t.E.eraseIdx j1).length:=by have:=(xh e2).length_eq;rw[AQ] at this;lia
 have pE:t.E.Perm (x::y::(t.E.eraseIdx j1).eraseIdx j2):=(xh e1).trans ((xh e2).cons _);generalize (t.E.eraseIdx j1).eraseIdx j2=j at bb pE;have al:qh L t.b (.lst (zf j)) l=some (.lst (ji J)):=by rw[qb (AI (nk t mt).2.2.2)];exact B.hk
 refine qc al (qr al ⟨big _ (by rw[Ab];exact ain),?_⟩);have ek:ji J++[.tup [.str "either",.int ((x:Nat):Int),.int ((y:Nat):Int)]]=ji (J++[.nd true x y]):=by unfold ji;rw[Ak];rfl
 rw[ek];have nn:(((ji (J++[.nd true x y])).length:Nat):Int)-1=((J.length:Nat):Int):=by rw[Ab,Ad];simp
 have ar:qh (qh L t.b (.lst (zf j))) l (.lst (ji (J++[.nd true x y]))) t.a=some (.lst [qj t.R,.ref t.b]):=by rw[qb (nk t mt).2.2.1,qb a0];exact ta
 refine qc q8 (qc ar ?_);refine qr ar (qo (v:=0) rfl ?_);have a5:qh (qh (qh L t.b (.lst (zf j))) l (.lst (ji (J++[.nd true x y])))) t.a (.lst ([qj t.R,.ref t.b].set 0 (.tup [.str "either",.int ((((ji (J++[.nd true x y])).length:Nat):Int)-1),qj t.R]))) t.a=some (.lst [qj (.ei J.length t.R),.ref t.b]):=by rw[q8,nn];rfl
 have C:∀o,qh (qh (qh L t.b (.lst (zf j))) l (.lst (ji (J++[.nd true x y])))) t.a o l=some (.lst (ji (J++[.nd true x y]))):=λo=>by rw[qb (AI (nk t mt).2.2.1)];exact q8
 have I:∀o,qh (qh (qh L t.b (.lst (zf j))) l (.lst (ji (J++[.nd true x y])))) t.a o t.b=some (.lst (zf j)):=λo=>by rw[qb (AI a0),qb (nk t mt).2.2.2];exact q8
 have U:∀o b u,b≠t.a->b≠t.b->b≠l->L b=some u->qh (qh (qh L t.b (.lst (zf j))) l (.lst (ji (J++[.nd true x y])))) t.a o b=some u:=λo b u n1 n2 n3 e=>by rw[qb n1,qb n3,qb n2];exact e
 have C:=C (.lst ([qj t.R,.ref t.b].set 0 (.tup [.str "either",.int ((((ji (J++[.nd true x y])).length:Nat):Int)-1),qj t.R])));have I:=I (.lst ([qj t.R,.ref t.b].set 0 (.tup [.str "either",.int ((((ji (J++[.nd true x y])).length:Nat):Int)-1),qj t.R])));have U:=U (.lst ([qj t.R,.ref t.b].set 0 (.tup [.str "either",.int ((((ji (J++[.nd true x y])).length:Nat):Int)-1),qj t.R])));generalize qh (qh (qh L t.b (.lst (zf j))) l (.lst (ji (J++[.nd true x y])))) t.a (.lst ([qj t.R,.ref t.b].set 0 (.tup [.str "either",.int ((((ji (J++[.nd true x y])).length:Nat):Int)-1),qj t.R])))=L3 at a5 C I U;refine qc a5 (qc I (qc C (qr I ⟨big _ (by rw[r];lia),?_⟩)));have en:zf j++[.int ((((ji (J++[.nd true x y])).length:Nat):Int)-1)]=zf (j++[J.length]):=by rw[nn];unfold zf;rw[Ak];rfl
 have T:=pE.nodup_iff.mp s.nod;rw[Av,Av] at T;have hx:x∈t.E:=pE.mem_iff.mpr (by simp);have hy:y∈t.E:=pE.mem_iff.mpr (by simp);have bc:∀u∈pre++post,u.a≠t.a/\u.a≠t.b/\u.b≠t.a/\u.b≠t.b:=λu g=>by have p:(pre++t::post).Perm (t::(pre++post)):=CB;have aH:=(p.flatMap_right Tr.ads).nodup_iff.mp (by rw[Av,Av] at ad;exact ad.2.2);rw[AM,Au] at aH;have k:=aH.2.2;have ma:u.a∈(pre++post).flatMap Tr.ads:=AW.mpr ⟨u,g,by simp[Tr.ads]⟩;have mb:u.b∈(pre++post).flatMap Tr.ads:=AW.mpr ⟨u,g,by simp[Tr.ads]⟩;exact⟨λe=>k t.a (by simp[Tr.ads]) u.a ma e.symm,λe=>k t.b (by simp[Tr.ads]) u.a ma e.symm,λe=>k t.a (by simp[Tr.ads]) u.b mb e.symm,λe=>k t.b (by simp[Tr.ads]) u.b mb e.symm⟩
 refine xi (q _ (J++[.nd true x y]) (pre++⟨t.a,t.b,.ei J.length t.R,j++[J.length]⟩::post) ⟨?_,?_⟩ (by rw[Ad];exact Al _) (by simp) ⟨⟨_,rfl,λk hk=>⟨_,_,_,Aj.mp hk⟩⟩,λh u g=>?_⟩)
 rotate_right
 ·rcases Ap.mp g with g|g
  ·exact h u (Ar _ g)
  ·rcases Am.mp g with rfl|g
   ·exact h t mt
   ·exact h u (Ae _ (Ac _ g))
 ·have B':=B.perm (fo':=[t]++(pre++post)) CB;have st:=cA.step (old:=[t]) (rest:=pre++post) (t':=⟨t.a,t.b,.ei J.length t.R,j++[J.length]⟩) (ms:=[.nd true x y]) (L':=qh L3 t.b (.lst (zf j++[.int ((((ji (J++[.nd true x y])).length:Nat):Int)-1)]))) B' ?_ ⟨?_,?_⟩ (λu g=>?_) (λb o e=>?_) ?_ (λz hz=>?_) ?_ ?_ ?_
  ·exact st.perm (by have p1:((pre++post)++[(⟨t.a,t.b,.ei J.length t.R,j++[J.length]⟩:Tr)]).Perm ((⟨t.a,t.b,.ei J.length t.R,j++[J.length]⟩:Tr)::(pre++post)):=BW _ _;exact p1.trans CB.symm)
  ·rw[qb (AI (nk t mt).2.2.2)];exact C
  ·rw[qb a0];exact a5
  ·rw[q8,en]
  ·have aL:u∈pre++t::post:=by rcases Ap.mp g with h|h;exact Ar _ h;exact Ae _ (Ac _ h)
   obtain⟨n1,n2,n3,n4⟩:=bc u g;obtain⟨k1,k2,k3,k4⟩:=nk u aL;obtain⟨h1,h2⟩:=B.ht u aL;rw[h1,h2,qb n2,qb n4];exact⟨U _ _ n1 n2 k3 h1,U _ _ n3 n4 k4 h2⟩
  ·have fr:=B.fr;have n0:∀z,L0 z=none->b≠z:=λz hz w=>by rw[w,hz] at e;cases e
   have n1:=n0 l (fr l (by simp));have n2:=n0 t.a (fr t.a (by simp[Tr.ads]));have n3:=n0 t.b (fr t.b (by simp[Tr.ads]));rw[qb n3];exact U _ _ n2 n3 n1 (B.sub _ _ e)
  ·have p:(pre++t::post).Perm ((pre++post)++[t]):=CB.trans (BW _ _).symm;have e:((pre++post)++[(⟨t.a,t.b,.ei J.length t.R,j++[J.length]⟩:Tr)]).flatMap Tr.ads=((pre++post)++[t]).flatMap Tr.ads:=by simp[AA,Tr.ads]
   rw[e];exact(((p.flatMap_right Tr.ads).cons _).cons _).nodup_iff.mp ad
  ·have hz:z=t.a\/z=t.b:=by simpa[Tr.ads] using hz
   rcases hz with rfl|rfl
   ·exact B.fr _ (by simp[Tr.ads])
   ·exact B.fr _ (by simp[Tr.ads])
  ·exact B.ok.snoc ⟨s.lt x (s.sub x hx),s.lt y (s.sub y hy)⟩
  ·refine .ei (fJ _ _ _) (s.more _) hx hy (λe=>T.1 (by rw[e];exact Af ..)) (λz=>?_) ?_
   ·rw[Ap,Aj];have hm:=pE.mem_iff (a:=z);rw[Am,Am] at hm;have h1:z∈j->z≠x/\z≠y:=λh=>⟨λe=>T.1 (by rw[<-e];exact Ac _ h),λe=>T.2.1 (e▸h)⟩;constructor
    ·rintro(h|h)
     ·exact .inl ⟨hm.mpr (.inr (.inr h)),h1 h⟩
     ·exact .inr h
    ·rintro(⟨h,c1,c2⟩|h)
     ·rcases hm.mp h with e|e|e
      ·exact absurd e c1
      ·exact absurd e c2
      ·exact .inl e
     ·exact .inr h
   ·rw[Au];refine⟨T.2.2,by simp,λu g v hv e=>?_⟩;rw[Aj.mp hv] at e;have:u∈t.E:=pE.mem_iff.mpr (Ac _ (Ac _ g));have:=s.lt u (s.sub u this);lia
  ·show(J.length::qk t.R).Perm (List.range' J.length 1++([t].flatMap λt=>qk t.R));simp[DB]
 ·have nf:=nk t mt;rw[qb (AI nf.2.1)];have:=U fa _ (AI nf.1) (AI nf.2.1) (AI nkf) F.hf;rw[this];unfold zn;rw[Ak,Ak];rfl
def amv(J:jn)(p1:jn)(p2:jn)(p3:jn):ku:=(qt (zg (aj dN (qa 1) (qd (zk w5 (qa 3) (cq 1)) zb)) (qe 4))
 (qt (zg (zk ai (x4 4 1) (zk w5 (zk az (qa 3) (jl 64)) (iW oS (xu (x4 4 1))))) (qe 5))
 (qt (zg (qz J (aW (qa 0) (qa 5))) (qe 6))
 (qt (zg (rdT (yC .non) (yC .non)) (aJ 2 (zq (qe 7) (zq (qe 8) wv))))
 (qt (dU (rD (xu (cq 1))) (qe 9) (dU (vv (zk ai (zk ai (qa 1) (qa 9)) (jl 1))) (qe 10) (xt (vJ (yB (lG false (qa 7))) (gd (qz J (aW (qa 0) (qa 10))) (qz p1 (xu (qa 6))))) (zg (k8 (qd (zk ai (qa 1) (qa 9)) (xu (qa 10)))) (aJ 2 (zq (qe 7) (zq (qe 8) wv)))) jv)))
 (qt (xt (vJ (yB (lG false (qa 7))) (yB (zk yGt (qz p2 (xu (qa 6))) (jl 5)))) (qt (jr (aj jc (qa 1) (xu (qa 4))))
 afx) jv)
 (m7 (xt (yB (lG false (qa 7))) (qt (zg (qz p3 (aW (qa 0) (qa 6))) (akq 3 (zq (qe 11) (zq (qe 8) (zq (qe 12) wv)))))
 (zg (ju (qd (qa 11) (qd (ju (aW (qa 8) (qa 12))) zb))) (qe 7))) (jr (aj l5 (qa 1) (xu (qa 7)))))
 (qt (zg (sN 1 (vv (zk km (x4 4 1) (x4 7 1))) (qe 14) (yB (zk (mL true) (qa 14) (rdT (qa 5) (qa 8)))) (qa 14)) (qe 13))
 (xt (gd (zk w5 (qa 2) (jl 2)) (jl 0)) (jr (aj jc (qa 1) (qd (ju (qd (k8 (qd (dg "cut") (qd (qa 5) (qd (qa 8) (aW (x4 4 0) (x4 7 0)))))) (xu (qa 13)))) zb))) (jr (aj jc (qa 1) (qd (ju (qd (k8 (qd (dg "cut") (qd (qa 8) (qd (qa 5) (aW (x4 7 0) (x4 4 0)))))) (xu (qa 13)))) zb))))))))))))
theorem qZ:∀a b:List Da,Da.eqs a b=true->a.length=b.length
 |[],[],_=>rfl
 |[],_::_,h=>by cases h
 |_::_,[],h=>by cases h
 |x::r,y::q,h=>by have h:(Da.eq x y&&Da.eqs r q)=true:=h;rw[A4] at h;rw[AQ,AQ,qZ r q h.2]
theorem ajo(u:Wd):∀v:Wd,Da.eq (qE u) (qE v)=true->u=v:=by
 induction u with
 |leaf t n=>
  intro v h;cases v with
  |leaf T n'=>
   rw[ahz,A4] at h;rw[of_decide_eq_true h.1,of_decide_eq_true h.2]
  |node e l r=>exact absurd (qZ _ _ h) (by intro z;cases z)
 |node e l r j o=>
  intro v h;cases v with
  |leaf t n=>exact absurd (qZ _ _ h) (by intro z;cases z)
  |node J U g=>
   have h:(kH (.str (kN e)) (.str (kN J))&&(Da.eq (qE l) (qE U)&&(Da.eq (qE r) (qE g)&&true)))=true:=h;rw[A4,A4,A4] at h;obtain⟨p,C,I,_⟩:=h;have:e=J:=by cases e<;>cases J<;>first|rfl|(exfalso;revert p;decide +kernel)
   rw[this,j U C,o g I]
def j5:Ru->Nat
 |.link _ _=>1
 |.ei _ A=>j5 A+1
 |.bo _ A B=>max (j5 A) (j5 B)+1
 |.cu _ _ A B=>max (j5 A) (j5 B)+1
theorem jo:∀R:Ru,j5 R+1<=(qk R).length
 |.link _ _=>Al _
 |.ei _ A=>by have:=jo A;simp[j5,qk];lia
 |.bo _ A B=>by have:=jo A;have:=jo B;simp[j5,qk];lia
 |.cu _ _ A B=>by have:=jo A;have:=jo B;simp[j5,qk];lia
def aZ:Ru->Da
 |.link p q=>.tup [.s (.str "link"),.s (.int (p:Int)),.s (.int (q:Int))]
 |.ei r A=>.tup [.s (.str "either"),.s (.int (r:Int)),aZ A]
 |.bo r A B=>.tup [.s (.str "both"),.s (.int (r:Int)),aZ A,aZ B]
 |.cu p q A B=>.tup [.s (.str "cut"),.s (.int (p:Int)),.s (.int (q:Int)),aZ A,aZ B]
theorem be{L:qu}:∀{R:Ru} {n:Nat},j5 R<=n->jd L n (qj R) (aZ R)
 |.link p q,n+1,_=>aB (.cons (EN _) (.cons (EJ _) (.cons (EJ _) .nil)))
 |.ei r A,n+1,h=>aB (.cons (EN _) (.cons (EJ _) (.cons (be (by simp[j5] at h;lia)) .nil)))
 |.bo r A B,n+1,h=>aB (.cons (EN _) (.cons (EJ _) (.cons (be (by simp[j5] at h;lia)) (.cons (be (by simp[j5] at h;lia)) .nil))))
 |.cu p q A B,n+1,h=>aB (.cons (EN _) (.cons (EJ _) (.cons (EJ _) (.cons (be (by simp[j5] at h;lia)) (.cons (be (by simp[j5] at h;lia)) .nil)))))
 |.link _ _,0,h=>by simp[j5] at h
 |.ei _ _,0,h=>by simp[j5] at h
 |.bo _ _ _,0,h=>by simp[j5] at h
 |.cu _ _ _ _,0,h=>by simp[j5] at h
theorem aX:∀R:Ru,Da.eq (aZ R) (aZ R)=true
 |.link p q=>by simp[aZ,Da.eq,Da.eqs,kH]
 |.ei r A=>by simp[aZ,Da.eq,Da.eqs,kH,aX A]
 |.bo r A B=>by simp[aZ,Da.eq,Da.eqs,kH,aX A,aX B]
 |.cu p q A B=>by simp[aZ,Da.eq,Da.eqs,kH,aX A,aX B]
def io(E:List Nat):List Da:=E.map λn:Nat=>Da.s (.int (n:Int))
theorem yV{L:qu}{n:Nat}:∀E:List Nat,Paired (jd L n) (zf E) (io E)
 |[]=>.nil
 |_::r=>.cons (EJ _) (yV r)
theorem rW:∀E J:List Nat,Da.eqs (io E) (io J)=true↔E=J
 |[],[]=>by simp[io,Da.eqs]
 |[],_::_=>by simp[io,Da.eqs]
 |_::_,[]=>by simp[io,Da.eqs]
 |x::r,y::U=>by
  have g:=rW r U;show(Da.eq (.s (.int (x:Int))) (.s (.int (y:Int)))&&Da.eqs (io r) (io U))=true↔_;rw[A4,g];have:Da.eq (.s (.int (x:Int))) (.s (.int (y:Int)))=true↔x=y:=by show decide ((x:Int)=(y:Int))=true↔_;rw[decide_eq_true_iff];lia
  rw[this];constructor
  ·rintro⟨rfl,rfl⟩;rfl
  ·intro e;injection e with j l;exact⟨j,l⟩
def fi(t:Tr):Da:=.lst [aZ t.R,.lst (io t.E)]
theorem qX{t:Tr}(J:L t.a=some (.lst [qj t.R,.ref t.b]))(U:L t.b=some (.lst (zf t.E)))(h:j5 t.R<=n+1):jd L (n+2) (.ref t.a) (fi t):=
 jw J (.cons (be h) (.cons (jw U (yV _)) .nil))
theorem ahx{t u:Tr}:Da.eq (fi t) (fi u)=true->t.E=u.E:=by intro h;have h:(Da.eq (aZ t.R) (aZ u.R)&&(Da.eqs (io t.E) (io u.E)&&true))=true:=h;rw[A4,A4] at h;exact(rW _ _).mp h.2.1
theorem yq(t:Tr):Da.eq (fi t) (fi t)=true:=by show(Da.eq (aZ t.R) (aZ t.R)&&(Da.eqs (io t.E) (io t.E)&&true))=true;rw[aX,(rW _ _).mpr rfl];rfl
theorem cA.rd(h:cA L0 L ka fa ks fo){t:Tr}(J:t∈fo):j5 t.R<=ks.length:=by
 have g:=jo t.R;have nd:(qk t.R).Nodup:=by obtain⟨a,b,rfl⟩:=CK J;have:=h.nd;rw[AA,AM,Au,Au] at this;exact this.2.1.1
 have:=bX _ _ nd λx U=>(h.sr t J).lt x U;exact apd
theorem cA.one(h:cA L0 L ka fa ks fo){t u:Tr}(hi:fo[i]?=some t)(J:fo[j]?=some u)(e:t.E=u.E):i=j:=by
 by_cases c:i=j
 ·exact c
 ·exfalso;have s:=h.sr t (Aw hi);have l:=s.ends h.ok;obtain⟨x,U⟩:∃x,x∈t.E:=by cases o:t.E with|nil=>rw[o] at l;simp at l|cons x r=>exact⟨x,Af ..⟩
  have p:=h.sr u (Aw J);have C:=xh hi;have I:(u::(fo.eraseIdx i))=_:=rfl;have g:u∈fo.eraseIdx i:=by have:fo[j]?=some u:=J;rw[List.mem_eraseIdx_iff_getElem?];exact⟨j,λz=>c z.symm,J⟩
  obtain⟨a,b,T⟩:=CK g;have nd:=(C.flatMap_right λt:Tr=>qk t.R).nodup_iff.mp h.nd;rw[AM,Au] at nd;exact nd.2.2 x (s.sub x U) x (AW.mpr ⟨u,g,p.sub x (e▸U)⟩) rfl
theorem qf.none(s:qf L L'){p:Addr}(h:L' p=none):L p=none:=by cases z:L p with|none=>rfl|some o=>rw[s _ _ z] at h;cases h
theorem cA.nkf(h:cA L0 L ka fa ks fo):ka≠fa:=by have ad:=h.ad;rw[Av] at ad;exactλe=>ad.1 (e▸Af ..)
theorem cA.nk(h:cA L0 L ka fa ks fo):∀t∈fo,t.a≠fa/\t.b≠fa/\t.a≠ka/\t.b≠ka:=λt J=>by have ad:=h.ad;rw[Av,Av] at ad;have U:t.a∈fo.flatMap Tr.ads:=AW.mpr ⟨t,J,by simp[Tr.ads]⟩;have g:t.b∈fo.flatMap Tr.ads:=AW.mpr ⟨t,J,by simp[Tr.ads]⟩;exact⟨λe=>ad.2.1 (e▸U),λe=>ad.2.1 (e▸g),λe=>ad.1 (Ac _ (e▸U)),λe=>ad.1 (Ac _ (e▸g))⟩
theorem cA.setF(h:cA L0 L ka fa ks fo)(o:LO):cA L0 (qh L fa o) ka fa ks fo:=by
 refine⟨by rw[qb h.nkf];exact h.hk,λt J=>?_,h.sr,h.nd,h.tm,h.ad,h.ok,λb u e=>?_,h.fr⟩
 ·obtain⟨U,g,_,_⟩:=h.nk t J;rw[qb U,qb g];exact h.ht t J
 ·have:b≠fa:=λz=>by rw[z,h.fr fa (by simp)] at e;cases e
  rw[qb this];exact h.sub _ _ e
theorem cA.mono(h:cA L0 L ka fa ks fo)(s:qf L L'):cA L0 L' ka fa ks fo:=
 ⟨s _ _ h.hk,λt J=>⟨s _ _ (h.ht t J).1,s _ _ (h.ht t J).2⟩,h.sr,h.nd,h.tm,h.ad,h.ok,h.sub.trans s,h.fr⟩
theorem cA.exs(h:cA L0 L ka fa ks fo):∀z∈fo.flatMap Tr.ads,∃o,L z=some o:=λz J=>by
 obtain⟨t,U,J⟩:=AW.mp J;obtain⟨g,j⟩:=h.ht t U;have J:z=t.a\/z=t.b:=by simpa[Tr.ads] using J
 rcases J with rfl|rfl
 ·exact⟨_,g⟩
 ·exact⟨_,j⟩
theorem vN{l:List Addr}{pb:Addr}(nd:l.Nodup)(ex:∀z∈l,∃o,L z=some o)(g:L pa=none)(j:L pb=none)(ne:pa≠pb):(l++[pa,pb]).Nodup:=by
 rw[Au];refine⟨nd,by simp[ne],λu p v U e=>?_⟩;subst e;obtain⟨o,J⟩:=ex u p;simp at U;rcases U with rfl|rfl
 ·rw[g] at J;cases J
 ·rw[j] at J;cases J
theorem mF:∀w:Wd,w.turn.turn=w
 |.leaf t n=>by simp[Wd.turn]
 |.node e l r=>by simp[Wd.turn,mF l,mF r]
theorem gL:∀w:Wd,w.turn.depth=w.depth
 |.leaf t n=>rfl
 |.node e l r=>by simp[Wd.turn,Wd.depth,gL l,gL r]
def Fd(ks:List Kn)(w:Wd)(rest:List Tr)(J U:Y):Prop:=(J=.non/\U=.non)\/∃(j:Nat) (u:Tr) (q:Nat),rest[j]?=some u/\q∈u.E/\ck ks q w.turn/\J=.ref u.a/\U=.int (q:Int)
theorem ag4{j C:qu}{t1 u:Tr}{x q:Nat}{w:Wd}(B:cA L0 j ka fa ks (t1::u::rest)){fs:LO}(hf:j fa=some fs)(hx:x∈t1.E)(hq:q∈u.E)(I:ck ks x w)(T:ck ks q w.turn){J:Addr}(s:qf j C)(a0:j J=none)
 (he:C J=some (.lst (zf (xw t1.E u.E x q)))) (o:C pa=none) (hR:R=.cu x q t1.R u.R\/R=.cu q x u.R t1.R):cA L0 (qh C pa (.lst [qj R,.ref J])) ka fa ks (rest++[⟨pa,J,R,xw t1.E u.E x q⟩]):=by
 have a1:J≠pa:=k7 he o;have g:j pa=none:=s.none o;have s':qf j (qh C pa (.lst [qj R,.ref J])):=s.trans (By o);have s1:=B.sr t1 (by simp);have s2:=B.sr u (by simp);have p:∀z,z∈t1.E->z∈u.E->False:=λz h1 h2=>B.two z (s1.sub z h1) (s2.sub z h2);have k0:ks++[]=ks:=AS ks;have bm:=qI (E1:=t1.E) (E2:=u.E) (λh=>p x hx h) (λh=>p q h hq);have nod:=rO (l:=x) (r:=q) s1.nod s2.nod p;have st:=cA.step (L':=qh C pa (.lst [qj R,.ref J])) (old:=[t1,u]) (rest:=rest) (ms:=[]) (t':=⟨pa,J,R,xw t1.E u.E x q⟩) B (by rw[k0];exact s' _ _ B.hk) ⟨q8,by rw[qb a1];exact he⟩ (λt ht=>?_) (B.sub.trans s') ?_ (λz U=>?_) (by rw[k0];exact B.ok) ?_ ?_
 ·rw[k0] at st;exact st
 ·obtain⟨h1,h2⟩:=B.ht t (Ac _ (Ac _ ht));rw[h1,h2];exact⟨s' _ _ h1,s' _ _ h2⟩
 ·have nd:(ka::fa::rest.flatMap Tr.ads).Nodup:=by
   have:=B.ad;rw[AM,AM,Av,Av,Au,Au] at this;rw[Av,Av];obtain⟨d1,d2,_,⟨_,d3,_⟩,_⟩:=this;refine⟨λz=>d1 ?_,λz=>d2 (Ae _ (Ae _ z)),d3⟩;rcases Am.mp z with z|z
   ·rw[z];exact Af ..
   ·exact Ac _ (Ae _ (Ae _ z))
  have:=vN (L:=j) nd (λz U=>?_) g a0 (AI a1)
  ·rw[AA];simpa[Tr.ads] using this
  ·rcases Am.mp U with rfl|U
   ·exact⟨_,B.hk⟩
   ·rcases Am.mp U with rfl|U
    ·exact⟨_,hf⟩
    ·exact B.exs z (by rw[AM,AM];exact Ae _ (Ae _ U))
 ·have U:z=pa\/z=J:=by simpa[Tr.ads] using U
  rcases U with rfl|rfl
  ·exact B.sub.none g
  ·exact B.sub.none a0
 ·rw[k0];rcases hR with rfl|rfl
  ·exact .cu s1 s2 hx hq I T bm nod
  ·exact .cu (w:=w.turn) s2 s1 hq hx T (by rw[mF];exact I) (λz=>by rw[bm];exact Or.comm) nod
 ·rcases hR with rfl|rfl
  ·show(qk t1.R++qk u.R).Perm _;simp
  ·show(qk u.R++qk t1.R).Perm _;simpa using List.perm_append_comm
def CJ(L0:qu)(ka fa:Addr)(ks:List Kn)(one two:Int)(t1:Tr)(x:Nat)(w:Wd)(n:Nat)(τ:x8)(L:qu):Prop:=∃ms u q rest c9 cr c11 c12,τ=[some (.ref ka),some (.ref fa),some (.int one),some (.int two),some (.ref t1.a),some (.int (x:Int)),some (bx w),some (.ref u.a),some (.int ((q:Nat):Int)),c9,cr,c11,c12,none]/\
 cA L0 L ka fa (ks++ms) (t1::u::rest)/\L fa=some (.lst (zn rest))/\q∈u.E/\ck (ks++ms) q w.turn/\ms.length<=10/\rest.length<=n
def rB:jn:=λys L Q=>∃L0 ka fa ks fo,∃one two:Int,ys=[.ref ka,.ref fa,.int one,.int two]/\ou L0 L ka fa ks fo/\1<=fo.length/\fo.length<=110/\ks.length<=110/\
 ∀L' iA fo',ou L0 L' ka fa iA fo'->iA.length<=ks.length+10->1<=fo'.length->fo'.length<=fo.length->Q .non L'
theorem ak1:∀ys L Q,rB ys L Q->xl (amv (aY 120) (cT 120) (cU 120) (cB 5)) 14 ys L Q:=by
 rintro ys L Q ⟨L0,g,fa,T,fo,one,two,rfl,F,h1,cl,bu,q⟩;have big:=bg_;have a0:∀fo:List Tr,(zn fo).length=fo.length:=λfo=>Ab ..;obtain⟨j1,J,bd,a1,a2,a3,C⟩:=wA (k:=two) F.hf (by assumption);have l1:(fo.eraseIdx j1).length+1=fo.length:=by have:=(xh bd).length_eq;rw[AQ] at this;lia
 refine qc F.hf (qc F.hf ⟨(by show(0:Int)<((zn fo).length:Int);rw[a0];lia),qr F.hf ⟨a1,a2,qo a3 ?_⟩⟩);have B:cA L0 (qh L fa (.lst ((zn fo).eraseIdx (two % ((zn fo).length:Int)).toNat))) g fa T (J::fo.eraseIdx j1):=(F.b.perm (xh bd)).setF _;generalize qh L fa (.lst ((zn fo).eraseIdx (two % ((zn fo).length:Int)).toNat))=L1 at C B;generalize fo.eraseIdx j1=rest at l1 C B;clear a1 a2 a3;have m1:J∈J::rest:=by simp
 obtain⟨a4,ag⟩:=B.ht J m1;have al:=bW B m1;have s1:=B.sr J m1;obtain⟨x,hx,ex⟩:=sK al.1 (two / 64);refine qc a4 ⟨⟨by decide,by decide⟩,qc a4 (qc ag ⟨(by show(0:Int)<((zf J.E).length:Int);rw[Ab];omega),qc ag (qo ex ?_)⟩)⟩;obtain⟨w,hw,cn,bf⟩:=oW B.ok (x+1) x (by exact Co _) (s1.lt x (s1.sub x hx));have cv:=s1.lt x (s1.sub x hx);refine⟨g,ji T,x,w,rfl,B.hk,hw,by lia,?_⟩;have cy:w.turn.depth=w.depth:=gL w;refine qc C ⟨⟨by show _<=(((zn rest).length:Nat):Int);exact A9 _,by show(((zn rest).length:Nat):Int)<_;rw[a0];omega⟩,?_⟩;refine ajx (λi τ L'=>∃v7 v8 c9 cr,τ=[some (.ref g),some (.ref fa),some (.int one),some (.int two),some (.ref J.a),some (.int (x:Int)),some (bx w),some v7,some v8,c9,cr,none,none,none]/\L'=L1/\Fd T w rest v7 v8) ⟨_,_,_,_,rfl,rfl,.inl ⟨rfl,rfl⟩⟩ ?_ ?_
 ·rintro i τ L' hi ⟨v7,v8,c9,cr,rfl,rfl,fd⟩;have hi:i<rest.length:=by have:i<(((zn rest).length:Nat):Int).toNat:=hi;rw[a0] at this;assumption
  obtain⟨u,hu⟩:∃u,rest[i]?=some u:=⟨_,Ag hi⟩;have mu:u∈J::rest:=Ac _ (Aw hu);obtain⟨ua,ub⟩:=B.ht u mu;have ei:(zn rest)[i]?=some (.ref u.a):=by unfold zn;rw[An,hu];rfl
  have e0:(0:Int)+(i:Int)=((i:Nat):Int):=by simp +arith only
  rw[e0];have bg:iL (zn rest) ((i:Nat):Int)=some (.ref u.a):=xq ei;have le:=bW B mu;have su:=B.sr u mu;refine qc C (qo bg (qc ua ?_));refine aij (ys:=zf u.E) (a9 ub) (λk τ ar=>∃v7 v8 cr,τ=[some (.ref g),some (.ref fa),some (.int one),some (.int two),some (.ref J.a),some (.int (x:Int)),some (bx w),some v7,some v8,some (.int ((i:Nat):Int)),cr,none,none,none]/\ar=L'/\Fd T w rest v7 v8) ⟨_,_,_,rfl,rfl,fd⟩ ?_ ?_ ?_
  ·rintro k τ _ ⟨_,_,_,_,rfl,_⟩;rfl
  ·rintro k y τ ar ey ⟨v7,v8,cr,rfl,rfl,fd⟩;obtain⟨z,ez,rfl⟩:∃z:Nat,u.E[k]?=some z/\y=Y.int (z:Int):=by rw[An] at ey;obtain⟨z,e1,e2⟩:=Ao.mp ey;exact⟨z,e1,e2.symm⟩
   have hz:z∈u.E:=Aw ez;rcases fd with⟨rfl,rfl⟩|⟨j,t,q0,h1,h2,h3,rfl,rfl⟩
   ·have bS:=su.lt z (su.sub z hz);obtain⟨v,hv,cz,cm⟩:=oW B.ok (z+1) z (by exact Co _) bS;refine⟨g,ji T,z,v,rfl,B.hk,hv,by lia,w,rfl,by lia,?_⟩;refine af2 (u:=v) (v:=w.turn) (by lia) ?_;show wq (Da.eq (qE v) (qE w.turn)) _ _;refine ajd (λc=>?_) λc=>?_
    ·have hh:=ajo _ _ c;refine qc C (qo bg ?_);refine⟨_,DW _,?_⟩;exact⟨_,_,_,rfl,rfl,.inr ⟨i,u,z,hu,hz,hh▸hv,rfl,rfl⟩⟩
    ·refine⟨_,DW _,?_⟩;exact⟨_,_,_,rfl,rfl,.inl ⟨rfl,rfl⟩⟩
   ·refine⟨_,DW _,?_⟩;exact⟨_,_,_,rfl,rfl,.inr ⟨j,t,q0,h1,h2,h3,rfl,rfl⟩⟩
  ·rintro τ ar ⟨v7,v8,cr,rfl,rfl,fd⟩;refine⟨_,DW _,?_⟩;exact⟨_,_,_,_,rfl,rfl,fd⟩
 ·rintro τ L' ⟨v7,v8,c9,cr,rfl,rfl,fd⟩;rcases fd with⟨rfl,rfl⟩|⟨j,u,q0,hj,aH,aL,rfl,rfl⟩
  case' inl=>
   refine⟨w,rfl,by lia,?_⟩;show wq (decide ((w.size:Int) > 5)) _ _;refine xn (λc=>?_) λc=>?_
   case' refine_1=>
    refine qc C (qr C ⟨big _ (by rw[a0];lia),?_⟩);have er:zn rest++[.ref J.a]=zn (rest++[J]):=by unfold zn;rw[Ak];rfl
    rw[er];exact xi (q _ T (rest++[J]) ⟨(B.perm (BW _ _).symm).setF _,q8⟩ (by exact BJ _ _) (by simp) (by rw[Ad];simp;exact aaf))
   case' refine_2=>
    refine⟨CJ L0 g fa T one two J x w rest.length,?_,?_⟩
    ·refine⟨g,T,w,rfl,B.hk,(by have h1:=w.depth_le;have h2:=w.size_eq;lia),(by decide),bf,B.ok,by lia,λms R tp sp p hp a5=>?_⟩;refine qr q8 ?_;intro pb ba pa I;have ca:g≠p:=k7 B.hk hp;have bb:qh L' g (.lst (ji (T++ms))) p=none:=by rw[qb (AI ca)];exact hp
     have sA:qf (qh L' g (.lst (ji (T++ms)))) _:=((By bb).trans (By ba)).trans (By (o:=.lst [qj R,.ref pb]) I);have bh:pb≠pa:=k7 q8 I;have bi:qh L' g (.lst (ji (T++ms))) pb=none:=(By bb).none ba;have bj:qh L' g (.lst (ji (T++ms))) pa=none:=((By bb).trans (By ba)).none I;have ea:qh (qh (qh (qh L' g (.lst (ji (T++ms)))) p (.lst [qj R,.int (tp:Int),.int (sp:Int)])) pb (.lst [.int (tp:Int),.int (sp:Int)])) pa (.lst [qj R,.ref pb]) pa=some (.lst [qj R,.ref pb]):=q8;have eb:qh (qh (qh (qh L' g (.lst (ji (T++ms)))) p (.lst [qj R,.int (tp:Int),.int (sp:Int)])) pb (.lst [.int (tp:Int),.int (sp:Int)])) pa (.lst [qj R,.ref pb]) pb=some (.lst (zf [tp,sp])):=by rw[qb bh];exact q8
     refine⟨ms,⟨pa,pb,R,[tp,sp]⟩,tp,rest,_,_,_,_,rfl,?_,sA _ _ (by rw[qb (AI B.nkf)];exact C),Af ..,a5.wt,by have:=a5.len;lia,Al _⟩;generalize qh (qh (qh (qh L' g (.lst (ji (T++ms)))) p (.lst [qj R,.int (tp:Int),.int (sp:Int)])) pb (.lst [.int (tp:Int),.int (sp:Int)])) pa (.lst [qj R,.ref pb])=LF at sA ea eb;have keep:∀z o,z≠g->L' z=some o->LF z=some o:=λz o n e=>sA _ _ (by rw[qb n];exact e);have st:=cA.step (L':=LF) (old:=[]) (rest:=J::rest) (ms:=ms) (t':=⟨pa,pb,R,[tp,sp]⟩) B (sA _ _ q8) ⟨ea,eb⟩ (λt ht=>?_) (λz o e=>?_) ?_ (λz hz=>?_) a5.ok a5.sr ?_
     ·exact st.perm ((BW _ _).trans (List.Perm.swap _ _ _))
     ·obtain⟨n1,n2,n3,n4⟩:=B.nk t ht;obtain⟨h1,h2⟩:=B.ht t ht;rw[h1,h2];exact⟨keep _ _ n3 h1,keep _ _ n4 h2⟩
     ·exact keep _ _ (λz=>by rw[z,B.fr g (by simp)] at e;cases e) (B.sub _ _ e)
     ·have:=vN (L:=qh L' g (.lst (ji (T++ms)))) B.ad (λz hz=>?_) bj bi (AI bh)
      ·rw[AA];simpa[Tr.ads] using this
      ·by_cases c:z=g
       ·rw[c];exact⟨_,q8⟩
       ·rw[qb c];rcases Am.mp hz with rfl|hz
        ·exact absurd rfl c
        ·rcases Am.mp hz with rfl|hz
         ·exact⟨_,C⟩
         ·exact B.exs z hz
     ·have hz:z=pa\/z=pb:=by simpa[Tr.ads] using hz
      cases e:L0 z with
      |none=>rfl
      |some o=>
       have n:z≠g:=λz'=>by rw[z',B.fr g (by simp)] at e;cases e
       have:=B.sub _ _ e;have e2:qh L' g (.lst (ji (T++ms))) z=some o:=by rw[qb n];exact this
       rcases hz with rfl|rfl
       ·rw[bj] at e2;cases e2
       ·rw[bi] at e2;cases e2
     ·rw[DE,AS];exact(A8 a5.nd Dr).mpr λz=>by rw[a5.tm,CU]
  case' inr=>
   refine⟨CJ L0 g fa T one two J x w rest.length,?_,?_⟩
   ·refine qc C (qr C ⟨rest.map fi,fi u,120,120,j,by decide,?_,?_,?_,⟨fi u,?_,yq u⟩,λk d hk ek=>?_,?_⟩)
    ·have dd:∀l:List Tr,(∀t∈l,t∈J::rest)->Paired (jd L' 120) (zn l) (l.map fi):=λl=>by
      induction l with
      |nil=>intro _;exact .nil
      |cons t r ih=>
       intro h;have mt:=h t (Af ..);obtain⟨h1,h2⟩:=B.ht t mt;have:=B.rd mt;exact .cons (qX (n:=118) h1 h2 (by lia)) (ih λt ht=>h t (Ac _ ht))
     exact dd rest λt ht=>Ac _ ht
    ·have mt:u∈J::rest:=Ac _ (Aw hj);obtain⟨h1,h2⟩:=B.ht u mt;have:=B.rd mt;exact qX (n:=118) h1 h2 (by omega)
    ·rw[Ab];exact(AV.mp hj).1
    ·rw[An,hj];rfl
    ·rw[An] at ek;obtain⟨v,ev,rfl⟩:=Ao.mp ek;cases c:Da.eq (fi v) (fi u) with
     |false=>rfl
     |true=>
      have:=B.one (i:=k+1) (j:=j+1) (by simpa using ev) (by simpa using hj) (ahx c);lia
    ·rw[my];have B2:=(B.perm ((xh hj).cons _)).setF (.lst (zn (rest.eraseIdx j)));exact⟨[],u,q0,rest.eraseIdx j,_,_,_,_,rfl,(AS T).symm▸B2,q8,aH,(AS T).symm▸aL,Bd _,CM ..⟩
  all_goals
   rintro cP L' ⟨ms,u,q0,U,c9,cr,c11,c12,rfl,B',hf,aH,aL,d0,da⟩;have m1:J∈J::u::U:=by simp
   have m2:u∈J::u::U:=by simp
   obtain⟨a4,ag⟩:=B'.ht J m1;obtain⟨bc,cb⟩:=B'.ht u m2;have al:=bW B' m1;have cc:=bW B' m2;rw[Ad] at al cc;refine qc a4 (qc bc ⟨_,_,ag,cb,small (by rw[Ab,Ab];omega),λpp bn=>?_⟩);have en:zf J.E++zf u.E=zf (J.E++u.E):=by unfold zf;rw[Ak]
   rw[en];refine afv (E:=J.E++u.E) (l:=x) (r:=q0) (k:=14) q8 (by rw[Ad];omega) (λy' Q' h=>h) (λ_=>rfl) λpe bp=>?_;have s4:qf L' (qh (qh L' pp (.lst (zf (J.E++u.E)))) pe (.lst (zf ((J.E++u.E).filter λz=>!decide (z=x\/z=q0))))):=(By bn).trans (By bp);have bq:qh (qh L' pp (.lst (zf (J.E++u.E)))) pe (.lst (zf ((J.E++u.E).filter λz=>!decide (z=x\/z=q0)))) pe=some (.lst (zf (xw J.E u.E x q0))):=q8;have br:L' pe=none:=(By bn).none bp;generalize qh (qh L' pp (.lst (zf (J.E++u.E)))) pe (.lst (zf ((J.E++u.E).filter λz=>!decide (z=x\/z=q0))))=L4 at s4 bq;have done:∀(R:Ru) pa,L4 pa=none->(R=.cu x q0 J.R u.R\/R=.cu q0 x u.R J.R)->Q .non (qh (qh L4 pa (.lst [qj R,.ref pe])) fa (.lst (zn U++[.ref pa]))):=λR pa I hR=>by
    have er:zn U++[.ref pa]=zn (U++[⟨pa,pe,R,xw J.E u.E x q0⟩]):=by unfold zn;rw[Ak];rfl
    rw[er];exact q _ (T++ms) (U++[⟨pa,pe,R,xw J.E u.E x q0⟩]) ⟨(ag4 B' hf hx aH (hw.more ms) aL s4 br bq I hR).setF _,q8⟩ (by rw[Ad];omega) (by simp) (by rw[Ad];simp;omega)
   refine⟨(by show(0:Int)<2;decide),?_⟩;show wq (decide (one % 2=0)) _ _;refine xn (λc=>?_) λc=>?_
   ·refine qc (s4 _ _ hf) (qc (s4 _ _ a4) (qc (s4 _ _ bc) λpa I=>?_));refine qr (By I _ _ (s4 _ _ hf)) ⟨big _ (by rw[a0];omega),?_⟩;exact xi (done _ pa I (.inl rfl))
   ·refine qc (s4 _ _ hf) (qc (s4 _ _ bc) (qc (s4 _ _ a4) λpa I=>?_));refine qr (By I _ _ (s4 _ _ hf)) ⟨big _ (by rw[a0];omega),?_⟩;exact xi (done _ pa I (.inr rfl))
theorem ou.mono(h:ou L0 L ka fa ks fo)(s:qf L L'):ou L0 L' ka fa ks fo:=⟨h.b.mono s,s _ _ h.hf⟩
theorem cA.plus{U:qu}{ms:List Kn}{t':Tr}{fs:LO}(B:cA L0 L ka fa ks rest)(T:L fa=some fs)(sA:qf (qh L ka (.lst (ji (ks++ms)))) U)(ea:U t'.a=some (.lst [qj t'.R,.ref t'.b]))(eb:U t'.b=some (.lst (zf t'.E)))
 (g:qh L ka (.lst (ji (ks++ms))) t'.a=none) (j:qh L ka (.lst (ji (ks++ms))) t'.b=none) (p:t'.a≠t'.b) (ok:dZ (ks++ms)) (sr:SR (ks++ms) t'.R t'.E) (tm:∀x,x∈qk t'.R↔ks.length<=x/\x<ks.length+ms.length) (nd:(qk t'.R).Nodup):
 cA L0 U ka fa (ks++ms) (rest++[t']):=by
 have keep:∀z o,z≠ka->L z=some o->U z=some o:=λz o n e=>sA _ _ (by rw[qb n];exact e);refine cA.step (old:=[]) (rest:=rest) (ms:=ms) (t':=t') B (sA _ _ q8) ⟨ea,eb⟩ (λt r=>?_) (λz o e=>?_) ?_ (λz J=>?_) ok sr ?_
 ·obtain⟨n1,n2,n3,n4⟩:=B.nk t r;obtain⟨C,I⟩:=B.ht t r;rw[C,I];exact⟨keep _ _ n3 C,keep _ _ n4 I⟩
 ·exact keep _ _ (λz=>by rw[z,B.fr ka (by simp)] at e;cases e) (B.sub _ _ e)
 ·have:=vN (L:=qh L ka (.lst (ji (ks++ms)))) B.ad (λz J=>?_) g j p
  ·rw[AA];simpa[Tr.ads] using this
  ·by_cases c:z=ka
   ·rw[c];exact⟨_,q8⟩
   ·rw[qb c];rcases Am.mp J with rfl|J
    ·exact absurd rfl c
    ·rcases Am.mp J with rfl|J
     ·exact⟨_,T⟩
     ·exact B.exs z J
 ·have J:z=t'.a\/z=t'.b:=by simpa[Tr.ads] using J
  cases e:L0 z with
  |none=>rfl
  |some o=>
   have n:z≠ka:=λz'=>by rw[z',B.fr ka (by simp)] at e;cases e
   have:=B.sub _ _ e;have l:qh L ka (.lst (ji (ks++ms))) z=some o:=by rw[qb n];exact this
   rcases J with rfl|rfl
   ·rw[g] at l;cases l
   ·rw[j] at l;cases l
 ·rw[DE,AS];exact(A8 nd Dr).mpr λz=>by rw[tm,CU]
theorem ou.link(F:ou L0 L ka fa ks fo){nm:Str}(l:fO nm)(b:Bool){pb:Addr}(U:qh L ka (.lst (ji (ks++[.lf b nm,.lf (!b) nm]))) pb=none)
 (g:qh (qh L ka (.lst (ji (ks++[.lf b nm,.lf (!b) nm])))) pb (.lst (zf [ks.length,ks.length+1])) pa=none) {fs:List Y} (j:fs=zn fo++[.ref pa]):
 ou L0 (qh (qh (qh (qh L ka (.lst (ji (ks++[.lf b nm,.lf (!b) nm])))) pb (.lst (zf [ks.length,ks.length+1]))) pa (.lst [qj (.link ks.length (ks.length+1)),.ref pb])) fa (.lst fs)) ka fa (ks++[.lf b nm,.lf (!b) nm]) (fo++[⟨pa,pb,.link ks.length (ks.length+1),[ks.length,ks.length+1]⟩]):=by
 have J:pb≠pa:=k7 q8 g;have M:=u9 F.b.ok (t:=!b) l;rw[Bool.not_not] at M;refine⟨(cA.plus F.b F.hf ((By U).trans (By g)) q8 (by rw[qb J];exact q8) ((By U).none g) U (AI J) M.ok M.sr M.tm M.nd).setF _,?_⟩;rw[q8,j];unfold zn;rw[Ak];rfl
theorem cA.dats(h:cA L0 L ka fa ks fo)(p:ks.length<=120):Paired (jd L 124) (zn fo) (fo.map fi):=by
 have U:∀l:List Tr,(∀t∈l,t∈fo)->Paired (jd L 124) (zn l) (l.map fi):=λl=>by
  induction l with
  |nil=>intro _;exact .nil
  |cons t r g=>
   intro k;have mt:=k t (Af ..);obtain⟨j,o⟩:=h.ht t mt;have:=h.rd mt;exact .cons (qX (n:=122) j o (by lia)) (g λt J=>k t (Ac _ J))
 exact U fo λt J=>J
theorem yR(fo:List Tr):Da.eqs (fo.map fi) []=decide (fo=[]):=by cases fo<;>rfl
def TW(L0:qu)(ka fa:Addr)(s:Int)(room:Nat)(τ:x8)(L:qu):Prop:=∃c0 c5 c6 c7 c8 c9 cr ks fo,τ=[c0,some (.int s),some (.int (room:Int)),some (.ref ka),some (.ref fa),c5,c6,c7,c8,c9,cr]/\ou L0 L ka fa ks fo/\ks.length+fo.length<=room
theorem TW.of{s:Int}{room:Nat}{c0 c5 c6 c7 c8 c9 cr:Option Y}(F:ou L0 L ka fa ks fo)(h:ks.length+fo.length<=room):TW L0 ka fa s room [c0,some (.int s),some (.int (room:Int)),some (.ref ka),some (.ref fa),c5,c6,c7,c8,c9,cr] L:=⟨_,_,_,_,_,_,_,ks,fo,rfl,F,h⟩
def rh(p q:Nat×Nat):Prop:=p.1<q.1\/(p.1=q.1/\p.2<=q.2)
def u3(p:Nat×Nat):Int×Int:=((p.1:Int),(p.2:Int))
theorem aau{p q:Nat×Nat}(h:u3 p=u3 q):p=q:=by obtain⟨a,b⟩:=p;obtain⟨c,d⟩:=q;have J:(a:Int)=c:=Bi Prod.fst h;have U:(b:Int)=d:=Bi Prod.snd h;rw[Cg.mp J,Cg.mp U]
theorem uz(ps:List (Nat×Nat)):bE ps=(ps.map u3).map prY:=by rw[Bz];rfl
theorem aq0{ps:List (Nat×Nat)}{Q:YK}(j:L a=some (.lst (bE ps)))(l:∀p∈ps,p.2<1000000)(nd:ps.Nodup)(o:ps.length<=63)
 (q:∀D J,L D=none->J.Perm ps->J.Pairwise rh->Q (.ref D) (qh L D (.lst (bE J)))):qR [.ref a] L Q:=by
 refine qr j ⟨ps.map u3,uz ps,λp t=>?_,?_,by rw[Ab];exact o,λD J C pm I=>?_⟩
 ·obtain⟨r,hr,rfl⟩:=AL.mp t;have:=l r hr;exact⟨A9 _,by show((r.2:Nat):Int)<1000000;omega⟩
 ·exact tM (λx _ y _ e=>aau e) nd
 ·obtain⟨T,pT,rfl⟩:=pU u3 pm rfl;rw[<-uz];refine q D T C pT ((B8.mp I).imp λ{x y} z=>?_);unfold rh;rcases z with z|⟨U,g⟩
  ·left;have z:((x.1:Nat):Int)<y.1:=z;lia
  ·right;have U:((x.1:Nat):Int)=y.1:=U;have g:((x.2:Nat):Int)<=y.2:=g;exact⟨by lia,by lia⟩
structure ans(L0:qu)(ks:List (Option Kn))(qs:List Nat)(d w D:Addr)(i ex:Nat)(f:Nat->Nat)(wd:List (Option Kn))(kvs:List (jm×Y))(L:qu):Prop where
 sub:qf L0 L
 hd:L d=some (.dct kvs)
 hw:L w=some (.lst (aM wd))
 hD:L D=some (.lst (nY qs))
 len:kvs.length<=i
 val:∀p:Nat,wn kvs (.inl (p:Int))=if p∈qs.take i then some (.int (f p:Int)) else none
 gap:Gap ks (qs.take i) f wd
 wlen:wd.length<=2*i+ex
structure Ren(f:Nat->Nat)(ks wd:List (Option Kn)):Prop where
 gap:Gap ks (List.range ks.length) f wd
 len:wd.length<=2*ks.length+1
theorem tV(wd:List (Option Kn))(k:Option Kn):aM wd++[wP k]=aM (wd++[k]):=by unfold aM;rw[Ak];rfl
def zm:Ru->List (Nat×Nat)
 |.link p q=>[(p,q)]
 |.ei _ A=>zm A
 |.bo _ A B=>zm A++zm B
 |.cu _ _ A B=>zm A++zm B
def zx:Ru->List (Nat×Nat)
 |.link _ _=>[]
 |.ei _ A=>zx A
 |.bo _ A B=>zx A++zx B
 |.cu p q A B=>(p,q)::(zx A++zx B)
def zu:Ru->Nat
 |.link _ _=>1
 |.ei _ A=>zu A+1
 |.bo _ A B=>zu A+zu B+1
 |.cu _ _ A B=>zu A+zu B+1
def qm:Ru->List Ru
 |.link _ _=>[]
 |.ei _ A=>[A]
 |.bo _ A B=>[A,B]
 |.cu _ _ A B=>[A,B]
def iH:Ru->List (Nat×Nat)
 |.link p q=>[(p,q)]
 |_=>[]
def iS:Ru->List (Nat×Nat)
 |.cu p q _ _=>[(p,q)]
 |_=>[]
theorem gM(A:Ru):zm A=iH A++(qm A).flatMap zm:=by cases A<;>simp[zm,iH,qm]
theorem jN(A:Ru):zx A=iS A++(qm A).flatMap zx:=by cases A<;>simp[zx,iS,qm]
theorem fA(A:Ru):((qm A).map zu).sum+1=zu A:=by cases A<;>simp[zu,qm]
theorem kc(A:Ru):0<zu A:=by cases A<;>simp[zu]
theorem v0{A:Ru}(h:B∈qm A):j5 B<j5 A:=by cases A<;>simp[qm] at h<;>(try rcases h with rfl|rfl)<;>(try subst h)<;>simp[j5]<;>omega
structure jU(R:Ru)(lk ct:List (Nat×Nat))(st:List Ru):Prop where
 pl:(lk++st.flatMap zm).Perm (zm R)
 pc:(ct++st.flatMap zx).Perm (zx R)
 sz:(st.map zu).sum<=zu R
 dp:∀A∈st,j5 A<=j5 R
theorem jU.start(R:Ru):jU R [] [] [R]:=⟨by simp,by simp,by simp,λA J=>by simp at J;subst J;exact Al _⟩
theorem jU.step{A:Ru}{lk ct:List (Nat×Nat)}{st:List Ru}(h:jU R lk ct (st++[A])):jU R (lk++iH A) (ct++iS A) (st++qm A):=by
 have pm:∀{X U V W:List (Nat×Nat)},(X++U++(V++W)).Perm (X++(V++(U++W))):=λ{X U V W}=>by rw[AD];refine List.Perm.append_left X ?_;rw[<-AD,<-AD];exact List.Perm.append_right W List.perm_append_comm
 refine⟨?_,?_,?_,λB J=>?_⟩
 ·refine List.Perm.trans ?_ h.pl;rw[AA,AA];have:[A].flatMap zm=iH A++(qm A).flatMap zm:=by rw[<-gM];simp
  rw[this];exact pm
 ·refine List.Perm.trans ?_ h.pc;rw[AA,AA];have:[A].flatMap zx=iS A++(qm A).flatMap zx:=by rw[<-jN];simp
  rw[this];exact pm
 ·have:=h.sz;have:=fA A;simp at *;lia
 ·rcases Ap.mp J with J|J
  ·exact h.dp B (Ar _ J)
  ·have:=v0 J;have:=h.dp A (Ae _ (Aj.mpr rfl));exact apd
theorem ig(l:List (Nat×Nat))(p:Nat×Nat):bE l++[prN p]=bE (l++[p]):=by unfold bE;rw[Ak];rfl
theorem dy(st:List Ru):Da.eqs (st.map aZ) []=decide (st=[]):=by cases st<;>rfl
theorem aG{L:qu}{n:Nat}:∀{st:List Ru},(∀A∈st,j5 A<=n)->Paired (jd L n) (st.map qj) (st.map aZ)
 |[],_=>.nil
 |A::r,h=>.cons (be (h A (Af ..))) (aG λB J=>h B (Ac _ J))
theorem ajb(a b:Nat):decide ((a:Int)=(b:Int))=decide (a=b):=by
 by_cases c:a=b
 ·rw[AH c];exact AH (by lia)
 ·rw[Ay c];exact Ay (by lia)
open Classical in
def kg(lk:List (Nat×Nat)):List Nat:=lk.flatMap λx=>[x.1,x.2]
theorem am(a b:List (Nat×Nat)):kg (a++b)=kg a++kg b:=by unfold kg;rw[AA]
theorem mM(x:Nat×Nat):kg [x]=[x.1,x.2]:=by simp[kg]
theorem ao0{f:Option Kn->Bool}{ks:List (Option Kn)}{p:Nat}{k:Option Kn}(h:ks[p]?=some k)(J:f k=true)(hi:p<i):p∈whr f ks i:=by unfold whr;refine AJ.mpr ⟨Bc.mpr hi,?_⟩;simp only[h];exact J
theorem kF{α β:Type}{R:α->β->Prop}:∀{xs:List α} {ys:List β} {x:α} {y:β},Paired R xs ys->R x y->Paired R (xs++[x]) (ys++[y])
 |_,_,_,_,.nil,r=>.cons r .nil
 |_,_,_,_,.cons a t,r=>.cons a (kF t r)
theorem rj(m:Nat)(l:List Nat):wC (gf (.int (m:Int))) ((nY l).map gf)=decide (m∈l):=by
 induction l with
 |nil=>rfl
 |cons n r J=>
  have e:wC (gf (.int (m:Int))) ((nY (n::r)).map gf)=(kH (gf (.int (n:Int))) (gf (.int (m:Int)))||wC (gf (.int (m:Int))) ((nY r).map gf)):=rfl;rw[e,J];have U:kH (gf (.int (n:Int))) (gf (.int (m:Int)))=decide (n=m):=ajb n m;rw[U];by_cases c:n=m
  ·subst c;simp
  ·by_cases d:m∈r
   ·simp[d]
   ·simp[c,d,AI c]
theorem qS(l:List Nat):(nY l).all fv=true:=by rw[BL];intro y J;obtain⟨n,_,rfl⟩:=AL.mp J;rfl
theorem mm{ct:List (Nat×Nat)}{c:Nat×Nat}(h:c∈ct):c.1∈kg ct/\c.2∈kg ct:=by
 induction ct with
 |nil=>cases h
 |cons d r J=>
  have e:kg (d::r)=[d.1,d.2]++kg r:=by rw[<-mM,<-am];rfl
  rw[e];rcases Am.mp h with rfl|h
  ·simp
  ·obtain⟨a,b⟩:=J h;exact⟨Ae _ a,Ae _ b⟩
def adp(x:Nat×Nat):Da:=.tup [.s (.int (x.1:Int)),.s (.int (x.2:Int))]
theorem ak2(x y:Nat×Nat):Da.eq (adp x) (adp y)=decide (x=y):=by show(decide ((x.1:Int)=(y.1:Int))&&(decide ((x.2:Int)=(y.2:Int))&&true))=_;rw[DV,<-Bool.decide_and];exact C0.mpr ⟨λ⟨J,U⟩=>Prod.ext (Cg.mp J) (Cg.mp U),λh=>by subst h;exact⟨rfl,rfl⟩⟩
theorem fD{L:qu}:∀l:List (Nat×Nat),Paired (jd L 1) (bE l) (l.map adp)
 |[]=>.nil
 |_::r=>.cons (aB (.cons (EJ _) (.cons (EJ _) .nil))) (fD r)
theorem ix(c:Nat×Nat)(r:List (Nat×Nat)):kg (c::r)=c.1::c.2::kg r:=by
 have e:kg (c::r)=[c.1,c.2]++kg r:=by rw[<-mM,<-am];rfl
 rw[e];rfl
theorem gW:∀{l:List (Nat×Nat)},(kg l).Nodup->l.Nodup
 |[],_=>Di
 |c::r,h=>by rw[ix] at h;have J:=Av.mp h;have U:=Av.mp J.2;exact Av.mpr ⟨λg=>J.1 (Ac _ (mm g).1),gW U.2⟩
theorem vg:∀R:Ru,zu R+1<=(qk R).length
 |.link _ _=>Al _
 |.ei r A=>by have:=vg A;show zu A+1+1<=(r::qk A).length;rw[AQ];exact amd
 |.bo r A B=>by have:=vg A;have:=vg B;show zu A+zu B+1+1<=(r::(qk A++qk B)).length;rw[AQ,Ad];lia
 |.cu _ _ A B=>by have:=vg A;have:=vg B;show zu A+zu B+1+1<=(qk A++qk B).length;rw[Ad];lia
theorem agi(ok:dZ ks):OkO (ks.map some):=by intro p e i j h;rw[An] at h;obtain⟨k,J,U⟩:=Ao.mp h;cases U;exact ok p _ J
theorem au(ks:List Kn):aM (ks.map some)=ji ks:=by show(ks.map some).map wP=ks.map m9;rw[Bz];rfl
theorem KW.lf{p:Nat}{n:Str}(h:wd[p]?=some (some (.lf t n))):KW (aM wd) p (.leaf t n):=by show(aM wd)[p]?=_;rw[An,h];rfl
theorem KW.nd{p:Nat}{e:Bool}{l r:Wd}(h:wd[p]?=some (some (.nd e i j)))(J:KW (aM wd) i l)(U:KW (aM wd) j r):KW (aM wd) p (.node e l r):=
 ⟨i,j,by rw[An,h];rfl,J,U⟩
theorem ab1{k:Kn}{n:Str}(h:m9 k=.tup [.str (kL t),.str n]):k=.lf t n:=by
 cases k with
 |lf u m=>
  have J:kL u=kL t:=by injection h with h;injection h with h _;injection h
  have U:m=n:=by injection h with h;injection h with _ h;injection h with h _;injection h
  subst U;cases u<;>cases t<;>first|rfl|(exfalso;revert J;decide)
 |nd e i j=>injection h with h;injection h with _ h;injection h with _ h;cases h
theorem abq{k:Kn}{e:Bool}(h:m9 k=.tup [.str (kN e),.int (i:Int),.int (j:Int)]):k=.nd e i j:=by
 cases k with
 |lf u m=>injection h with h;injection h with _ h;injection h with _ h;cases h
 |nd b g l=>
  have o:kN b=kN e:=by injection h with h;injection h with h _;injection h
  have J:((g:Nat):Int)=i:=by injection h with h;injection h with _ h;injection h with h _;injection h
  have U:((l:Nat):Int)=j:=by injection h with h;injection h with _ h;injection h with _ h;injection h with h _;injection h
  have J:=Cg.mp J;have U:=Cg.mp U;subst J U;cases b<;>cases e<;>first|rfl|(exfalso;revert o;decide)
theorem age{p:Nat}(h:(aM wd)[p]?=some y):∃o,wd[p]?=some o/\wP o=y:=by rw[An] at h;obtain⟨o,a,b⟩:=Ao.mp h;exact⟨o,a,b⟩
theorem KW.inv_lf{p:Nat}{n:Str}(h:KW (aM wd) p (.leaf t n)):wd[p]?=some (some (.lf t n)):=by
 obtain⟨o,a,b⟩:=age (show(aM wd)[p]?=some (.tup [.str (kL t),.str n]) from h);cases o with
 |none=>cases b
 |some k=>rw[a,ab1 b]
theorem KW.inv_nd{p:Nat}{e:Bool}{l r:Wd}(h:KW (aM wd) p (.node e l r)):∃i j,wd[p]?=some (some (.nd e i j))/\KW (aM wd) i l/\KW (aM wd) j r:=by
 obtain⟨i,j,J,U,g⟩:=h;obtain⟨o,a,b⟩:=age J;cases o with
 |none=>cases b
 |some k=>exact⟨i,j,by rw[a,abq b],U,g⟩
theorem Ren.inv{f:Nat->Nat}(r:Ren f oi wd){x:Nat}{k:Kn}(h:wd[x]?=some (some k)):∃p,p<oi.length/\x=f p/\∃o,oi[p]?=some o/\iY f o=some k:=by obtain⟨p,J,e⟩:=r.gap.only x k h;have J:=Bc.mp J;have:=r.gap.at_ p (Bc.mpr J) _ (Ag J);rw[<-e,h] at this;exact⟨p,J,e,_,Ag J,(AN this).symm⟩
theorem Ren.word{f:Nat->Nat}(r:Ren f oi wd):∀{w:Wd} {p:Nat},KW (aM oi) p w->KW (aM wd) (f p) w
 |.leaf t n,p,h=>by have e:=h.inv_lf;exact KW.lf (r.gap.at_ p (Bc.mpr (j6 e)) _ e)
 |.node b l rr,p,h=>by obtain⟨i,j,e,J,U⟩:=h.inv_nd;exact KW.nd (r.gap.at_ p (Bc.mpr (j6 e)) _ e) (r.word J) (r.word U)
def i9(ks:List Kn)(l:List Nat):List Nat:=l.flatMap λp=>x0 ks[p]?
theorem lX(ks:List Kn)(a b:List Nat):i9 ks (a++b)=i9 ks a++i9 ks b:=by unfold i9;rw[AA]
theorem aq(ks:List Kn)(x:Nat)(l:List Nat):i9 ks (x::l)=x0 ks[x]?++i9 ks l:=AM ..
theorem cR{E:List Nat}(h:E.Nodup)(hi:i∈E):E.Perm ([i]++E.filter λx=>!decide (x=i)):=by
 refine(A8 h ?_).mpr λx=>?_
 ·refine Av.mpr ⟨λz=>?_,h.filter _⟩;have:=(AJ.mp z).2;simp at this
 ·rw[Ap,Aj,AJ];constructor
  ·intro J;by_cases c:x=i
   ·exact .inl c
   ·exact .inr ⟨J,by simp[c]⟩
  ·rintro(rfl|J)
   ·exact hi
   ·exact J.1
theorem SR.part{E:List Nat}(h:SR ks R E):(qk R).Nodup->(i9 ks (qk R)++(kg (zx R)++E)).Perm (qk R):=by
 induction h with
 |@link p q t n g h1 h2 h3 C I=>
  intro _;have e:i9 ks [p,q]=[]:=by rw[aq,aq,h2,h3];rfl
  show(i9 ks [p,q]++([]++g)).Perm [p,q];rw[e,CH,CH];refine(A8 I (by simp;lia)).mpr λx=>?_;rw[C x];simp
 |@ei r i j A l g h1 T h3 C I h6 h7 ih=>
  intro nd;obtain⟨n1,n2⟩:=Av.mp nd;have ih:=ih n2;have o:l.Nodup:=(Au.mp (Au.mp (ih.nodup_iff.mpr n2)).2.1).2.1;have p1:=cR o h3;have p2:(l.filter λx=>!decide (x=i)).Perm _:=cR (o.filter _) (i:=j) (AJ.mpr ⟨C,by simp;exact AI I⟩);have p3:g.Perm ([r]++(l.filter λx=>!decide (x=i)).filter λx=>!decide (x=j)):=by
   refine(A8 h7 (Av.mpr ⟨λz=>n1 (T.sub _ (AJ.mp (AJ.mp z).1).1),(o.filter _).filter _⟩)).mpr λx=>?_;rw[h6 x,Am,AJ,AJ];simp only[Cw,decide_eq_false_iff_not];constructor
   ·rintro(⟨a,b,c⟩|rfl)
    ·exact .inr ⟨⟨a,b⟩,c⟩
    ·exact .inl rfl
   ·rintro(rfl|⟨⟨a,b⟩,c⟩)
    ·exact .inr rfl
    ·exact .inl ⟨a,b,c⟩
  show(i9 ks (r::qk A)++(kg (zx A)++g)).Perm ([r]++qk A);rw[aq,h1];show((([i]++[j])++i9 ks (qk A))++(kg (zx A)++g)).Perm _;refine Bx.mpr λa=>?_;have c1:=p1.count_eq a;have c2:=p2.count_eq a;have c3:=p3.count_eq a;have c4:=ih.count_eq a;simp only[Bh] at c1 c2 c3 c4 ⊢;lia
 |@bo r i j A B l EB g h1 T hB C I h6 h7 J U=>
  intro nd;obtain⟨n1,n2⟩:=Av.mp nd;obtain⟨m1,m2,m3⟩:=Au.mp n2;have J:=J m1;have U:=U m2;have o:l.Nodup:=(Au.mp (Au.mp (J.nodup_iff.mpr m1)).2.1).2.1;have nB:EB.Nodup:=(Au.mp (Au.mp (U.nodup_iff.mpr m2)).2.1).2.1;have p1:=cR o C;have p2:=cR nB I;have p3:g.Perm ([r]++((l.filter λx=>!decide (x=i))++EB.filter λx=>!decide (x=j))):=by
   refine(A8 h7 (Av.mpr ⟨λz=>n1 ?_,Au.mpr ⟨o.filter _,nB.filter _,λa ha b hb=>m3 a (T.sub _ (AJ.mp ha).1) b (hB.sub _ (AJ.mp hb).1)⟩⟩)).mpr λx=>?_
   ·rcases Ap.mp z with z|z
    ·exact Ar _ (T.sub _ (AJ.mp z).1)
    ·exact Ae _ (hB.sub _ (AJ.mp z).1)
   ·rw[h6 x,Am,Ap,AJ,AJ];simp only[Cw,decide_eq_false_iff_not];constructor
    ·rintro(a|a|rfl)
     ·exact .inr (.inl a)
     ·exact .inr (.inr a)
     ·exact .inl rfl
    ·rintro(rfl|a|a)
     ·exact .inr (.inr rfl)
     ·exact .inl a
     ·exact .inr (.inl a)
  show(i9 ks (r::(qk A++qk B))++(kg (zx A++zx B)++g)).Perm ([r]++(qk A++qk B));rw[aq,h1,lX,am];show((([i]++[j])++(i9 ks (qk A)++i9 ks (qk B)))++((kg (zx A)++kg (zx B))++g)).Perm _;refine Bx.mpr λa=>?_;have c1:=p1.count_eq a;have c2:=p2.count_eq a;have c3:=p3.count_eq a;have c4:=J.count_eq a;have c5:=U.count_eq a;simp only[Bh] at c1 c2 c3 c4 c5 ⊢;lia
 |@cu p q A B l EB g w T hB h3 C I h6 h7 h8 J U=>
  intro n2;obtain⟨m1,m2,m3⟩:=Au.mp (show(qk A++qk B).Nodup from n2);have J:=J m1;have U:=U m2;have o:l.Nodup:=(Au.mp (Au.mp (J.nodup_iff.mpr m1)).2.1).2.1;have nB:EB.Nodup:=(Au.mp (Au.mp (U.nodup_iff.mpr m2)).2.1).2.1;have p1:=cR o h3;have p2:=cR nB C;have p3:g.Perm ((l.filter λx=>!decide (x=p))++EB.filter λx=>!decide (x=q)):=by refine(A8 h8 (Au.mpr ⟨o.filter _,nB.filter _,λa ha b hb=>m3 a (T.sub _ (AJ.mp ha).1) b (hB.sub _ (AJ.mp hb).1)⟩)).mpr λx=>?_;rw[h7 x,Ap,AJ,AJ];simp only[Cw,decide_eq_false_iff_not]
  show(i9 ks (qk A++qk B)++(kg ((p,q)::(zx A++zx B))++g)).Perm (qk A++qk B);rw[lX,ix,am];show((i9 ks (qk A)++i9 ks (qk B))++(([p]++[q]++(kg (zx A)++kg (zx B)))++g)).Perm _;refine Bx.mpr λa=>?_;have c1:=p1.count_eq a;have c2:=p2.count_eq a;have c3:=p3.count_eq a;have c4:=J.count_eq a;have c5:=U.count_eq a;simp only[Bh] at c1 c2 c3 c4 c5 ⊢;lia
theorem Ren.inj{f:Nat->Nat}(r:Ren f oi wd){a b:Nat}(J:a<oi.length)(U:b<oi.length)(e:f a=f b):a=b:=r.gap.inj a (Bc.mpr J) b (Bc.mpr U) e
def lfB:Option Kn->Bool
 |some (.lf _ _)=>true
 |_=>false
theorem SR.leaves{E:List Nat}(h:SR ks R E):(kg (zm R)).Perm ((qk R).filter λp=>lfB ks[p]?):=by
 induction h with
 |@link p q t n l g h2 o C I=>
  show(kg [(p,q)]).Perm ([p,q].filter λp=>lfB ks[p]?);rw[mM,Bt,Bt,h2,o];exact BO _
 |@ei r i j A T l g hA o C I h6 h7 ih=>
  show(kg (zm A)).Perm ((r::qk A).filter λp=>lfB ks[p]?);rw[Bt,g];exact ih
 |@bo r i j A B T EB l g hA hB C I h6 h7 J U=>
  show(kg (zm A++zm B)).Perm ((r::(qk A++qk B)).filter λp=>lfB ks[p]?);rw[Bt,g,am];show(kg (zm A)++kg (zm B)).Perm ((qk A++qk B).filter λp=>lfB ks[p]?);rw[Bk];exact J.append U
 |@cu p q A B T EB l w hA hB o C I h6 h7 h8 J U=>
  show(kg (zm A++zm B)).Perm ((qk A++qk B).filter λp=>lfB ks[p]?);rw[am,Bk];exact J.append U
theorem im{f:Nat->Nat}:∀{l:List Nat},l.Nodup->(∀a∈l,∀b∈l,f a=f b->a=b)->(l.map f).Nodup
 |[],_,_=>Di
 |a::r,h,g=>by obtain⟨U,j⟩:=Av.mp h;rw[AE,Av];refine⟨λz=>?_,im j λx o y p=>g x (Ac _ o) y (Ac _ p)⟩;obtain⟨b,J,e⟩:=AL.mp z;exact U (g b (Ac _ J) a (Af ..) e▸J)
def pO(f:Nat->Nat):Ru->Ru
 |.link p q=>.link (min (f p) (f q)) (max (f p) (f q))
 |.ei r A=>.ei (f r) (pO f A)
 |.bo r A B=>.bo (f r) (pO f A) (pO f B)
 |.cu p q A B=>.cu (f p) (f q) (pO f A) (pO f B)
theorem dQ(f:Nat->Nat):∀R:Ru,(qk (pO f R)).Perm ((qk R).map f)
 |.link p q=>by
  show [min (f p) (f q),max (f p) (f q)].Perm [f p,f q];by_cases h:f p<=f q
  ·rw[B5 h,CZ h]
  ·rw[DA (by lia),C7 (by lia)];exact List.Perm.swap _ _ _
 |.ei r A=>(dQ f A).cons _
 |.bo r A B=>by show(f r::(qk (pO f A)++qk (pO f B))).Perm (f r::(qk A++qk B).map f);rw[Ak];exact((dQ f A).append (dQ f B)).cons _
 |.cu p q A B=>by show(qk (pO f A)++qk (pO f B)).Perm ((qk A++qk B).map f);rw[Ak];exact(dQ f A).append (dQ f B)
theorem sJ{x:Nat}{k:Kn}(h:(ks.map some)[x]?=some (some k)):ks[x]?=some k:=by rw[An] at h;obtain⟨J,e,z⟩:=Ao.mp h;cases z;exact e
theorem SR.ren{f:Nat->Nat}(r:Ren f (ks.map some) (iA.map some)){E:List Nat}(h:SR ks R E):SR iA (pO f R) (E.map f):=by
 have inj:∀{a b:Nat},a<ks.length->b<ks.length->f a=f b->a=b:=λha hb e=>r.inj (by rw[Ab];exact ha) (by rw[Ab];exact hb) e;have at_:∀{p:Nat} {k:Kn},ks[p]?=some k->(iA.map some)[f p]?=some (iY f (some k)):=λ{p k} e=>r.gap.at_ p (Bc.mpr (by rw[Ab];exact j6 e)) _ (by rw[An,e];rfl)
 have lf:∀{p:Nat} {t:Bool} {n:Str},ks[p]?=some (.lf t n)->iA[f p]?=some (.lf t n):=λe=>sJ (at_ e);have nd:∀{p i j:Nat} {e:Bool},ks[p]?=some (.nd e i j)->iA[f p]?=some (.nd e (f i) (f j)):=λe=>sJ (at_ e);have el:∀{A:Ru} {l:List Nat},SR ks A l->∀x∈l,x<ks.length:=λs x o=>s.lt x (s.sub x o);have nod:∀{A:Ru} {l:List Nat},SR ks A l->(l.map f).Nodup:=λs=>im s.nod λa ha b hb=>inj (el s a ha) (el s b hb);have wd:∀{p:Nat} {w:Wd},ck ks p w->ck iA (f p) w:=λ{p w} hw=>by have:=r.word (w:=w) (p:=p) (by rw[au];exact hw);rw[au] at this;exact this
 have rm:∀{A:Ru} {l:List Nat} {i y:Nat},SR ks A l->i∈l->y∈l->y≠i->f y≠f i:=λs hi T ne z=>ne (inj (el s _ T) (el s _ hi) z)
 induction h with
 |@link p q t n E h1 h2 U J C=>
  have s:SR ks (.link p q) E:=.link h1 h2 U J C;have ne:f p≠f q:=λz=>by have:=inj (j6 h2) (j6 U) z;lia
  have me:∀x,x∈E.map f↔x=f p\/x=f q:=λx=>by
   rw[AL];constructor
   ·rintro⟨y,T,rfl⟩;rcases (J y).mp T with rfl|rfl
    ·exact .inl rfl
    ·exact .inr rfl
   ·rintro(rfl|rfl)
    ·exact⟨p,(J p).mpr (.inl rfl),rfl⟩
    ·exact⟨q,(J q).mpr (.inr rfl),rfl⟩
  show SR iA (.link (min (f p) (f q)) (max (f p) (f q))) _;by_cases c:f p<=f q
  ·rw[B5 c,CZ c];exact .link (by lia) (lf h2) (lf U) me (nod s)
  ·rw[DA (by lia),C7 (by lia)];exact .link (by lia) (lf U) (by rw[Bool.not_not];exact lf h2) (λx=>(me x).trans Or.comm) (nod s)
 |@ei r i j A l E h1 I U J C g h7 ih=>
  have s:SR ks (.ei r A) E:=.ei h1 I U J C g h7;refine .ei (nd h1) ih (AL.mpr ⟨i,U,rfl⟩) (AL.mpr ⟨j,J,rfl⟩) (rm I J U C) (λx=>?_) (nod s);rw[AL];constructor
  ·rintro⟨y,T,rfl⟩;rcases (g y).mp T with⟨a,b,c⟩|rfl
   ·exact .inl ⟨AL.mpr ⟨y,a,rfl⟩,rm I U a b,rm I J a c⟩
   ·exact .inr rfl
  ·rintro(⟨o,b,c⟩|rfl)
   ·obtain⟨y,a,rfl⟩:=AL.mp o;exact⟨y,(g y).mpr (.inl ⟨a,λz=>b (by rw[z]),λz=>c (by rw[z])⟩),rfl⟩
   ·exact⟨r,(g r).mpr (.inr rfl),rfl⟩
 |@bo r i j A B l EB E h1 I hB J C g h7 a0 a1=>
  have s:SR ks (.bo r A B) E:=.bo h1 I hB J C g h7;refine .bo (nd h1) a0 a1 (AL.mpr ⟨i,J,rfl⟩) (AL.mpr ⟨j,C,rfl⟩) (λx=>?_) (nod s);rw[AL];constructor
  ·rintro⟨y,T,rfl⟩;rcases (g y).mp T with⟨a,b⟩|⟨a,b⟩|rfl
   ·exact .inl ⟨AL.mpr ⟨y,a,rfl⟩,rm I J a b⟩
   ·exact .inr (.inl ⟨AL.mpr ⟨y,a,rfl⟩,rm hB C a b⟩)
   ·exact .inr (.inr rfl)
  ·rintro(⟨o,b⟩|⟨o,b⟩|rfl)
   ·obtain⟨y,a,rfl⟩:=AL.mp o;exact⟨y,(g y).mpr (.inl ⟨a,λz=>b (by rw[z])⟩),rfl⟩
   ·obtain⟨y,a,rfl⟩:=AL.mp o;exact⟨y,(g y).mpr (.inr (.inl ⟨a,λz=>b (by rw[z])⟩)),rfl⟩
   ·exact⟨r,(g r).mpr (.inr (.inr rfl)),rfl⟩
 |@cu p q A B l EB E w I hB U J C g h7 h8 a0 a1=>
  have s:SR ks (.cu p q A B) E:=.cu I hB U J C g h7 h8;refine .cu a0 a1 (AL.mpr ⟨p,U,rfl⟩) (AL.mpr ⟨q,J,rfl⟩) (wd C) (wd g) (λx=>?_) (nod s);rw[AL];constructor
  ·rintro⟨y,T,rfl⟩;rcases (h7 y).mp T with⟨a,b⟩|⟨a,b⟩
   ·exact .inl ⟨AL.mpr ⟨y,a,rfl⟩,rm I U a b⟩
   ·exact .inr ⟨AL.mpr ⟨y,a,rfl⟩,rm hB J a b⟩
  ·rintro(⟨o,b⟩|⟨o,b⟩)
   ·obtain⟨y,a,rfl⟩:=AL.mp o;exact⟨y,(h7 y).mpr (.inl ⟨a,λz=>b (by rw[z])⟩),rfl⟩
   ·obtain⟨y,a,rfl⟩:=AL.mp o;exact⟨y,(h7 y).mpr (.inr ⟨a,λz=>b (by rw[z])⟩),rfl⟩
theorem al4{f:Nat->Nat}(ok:dZ ks)(r:Ren f (ks.map some) (iA.map some)):dZ iA:=λp k e=>by
 have U:(iA.map some)[p]?=some (some k):=by rw[An,e];rfl
 obtain⟨y,l,rfl,o,g,J⟩:=r.inv U;cases k with
 |nd b i j=>exact r.gap.ok _ b i j U
 |lf t n=>
  cases o with
  |none=>cases J
  |some o=>
   cases o with
   |nd b i j=>cases J
   |lf C I=>
    cases J;exact ok y _ (sJ g)
structure TrO(ks:List Kn)(R:Ru)(E:List Nat):Prop where
 ok:dZ ks
 sr:SR ks R E
 nd:(qk R).Nodup
 len:ks.length<=96
theorem TrO.ren{f:Nat->Nat}{E:List Nat}(ok:dZ ks)(J:SR ks R E)(tp:(qk R).Perm (List.range ks.length))(o:ks.length<=96)(r:Ren f (ks.map some) (iA.map some))(l:iA.length=ks.length):TrO iA (pO f R) (E.map f)/\(qk (pO f R)).Perm (List.range iA.length):=by have S:=J.ren r;have nd:(qk (pO f R)).Nodup:=(dQ f R).nodup_iff.mpr (im (tp.nodup_iff.mpr Cp) λa g b j e=>r.inj (by rw[Ab];exact J.lt a g) (by rw[Ab];exact J.lt b j) e);refine⟨⟨al4 ok r,S,nd,by lia⟩,(A8 nd Cp).mpr λx=>⟨λh=>Bc.mpr (S.lt x h),λh=>?_⟩⟩;have h:=Bc.mp h;obtain⟨y,U,e⟩:=r.gap.only x iA[x] (by rw[An,Ag h];rfl);rw[Ab] at U;exact(dQ f R).mem_iff.mpr (AL.mpr ⟨y,tp.mem_iff.mpr U,e.symm⟩)
def aT:Ru->List Nat
 |.link p q=>[p,q]
 |.ei r _=>[r]
 |.bo r _ _=>[r]
 |.cu _ _ _ _=>[]
theorem aK(A:Ru):qk A=aT A++(qm A).flatMap qk:=by cases A<;>simp[qk,aT,qm]
def jg:Ru->List Ru
 |.link p q=>[.link p q]
 |.ei r A=>.ei r A::jg A
 |.bo r A B=>.bo r A B::(jg A++jg B)
 |.cu p q A B=>.cu p q A B::(jg A++jg B)
theorem aC(A:Ru):jg A=A::(qm A).flatMap jg:=by cases A<;>simp[jg,qm]
theorem bC:∀A:Ru,(jg A).length=zu A
 |.link _ _=>rfl
 |.ei _ A=>by show(jg A).length+1=_;rw[bC A];rfl
 |.bo _ A B=>by show(jg A++jg B).length+1=_;rw[Ad,bC A,bC B];rfl
 |.cu _ _ A B=>by show(jg A++jg B).length+1=_;rw[Ad,bC A,bC B];rfl
def jj(ks:List Kn):Ru->List (List Nat)
 |.link _ _=>[]
 |.ei r _=>[x0 ks[r]?]
 |.bo r _ _=>(x0 ks[r]?).map λx=>[x]
 |.cu p q _ _=>[[p],[q]]
def apj(ks:List Kn)(B:Ru)(t:List Nat):Prop:=∃J,SR ks B J/\∀x∈t,x∈J
theorem SR.arms{E:List Nat}(h:SR ks R E):Paired (apj ks) (qm R) (jj ks R):=by
 cases h with
 |link=>exact .nil
 |@ei r i j A U _ o g t l=>
  show Paired _ [A] [x0 ks[r]?];rw[o];refine .cons ⟨U,g,λx J=>?_⟩ .nil;have J:x∈[i,j]:=J;rcases Am.mp J with rfl|J
  ·exact t
  ·rw[Aj.mp J];exact l
 |@bo r i j A B U C _ o g I l T=>
  show Paired _ [A,B] ((x0 ks[r]?).map λx=>[x]);rw[o];exact .cons ⟨U,g,λx J=>by rw[Aj.mp J];exact l⟩ (.cons ⟨C,I,λx J=>by rw[Aj.mp J];exact T⟩ .nil)
 |@cu p q A B U C _ w g I t l=>
  exact .cons ⟨U,g,λx J=>by rw[Aj.mp J];exact t⟩ (.cons ⟨C,I,λx J=>by rw[Aj.mp J];exact l⟩ .nil)
end L3
namespace TS
open PySem PyProof.Rows PySem.W
section
variable {w:World}
end
end TS
namespace L2
open PySem PySem.Spec PyProof.Rows
end L2
namespace L3
open PySem L2
open PySem L2 Words
theorem aix(l:List Nat):nY l=(l.map λn:Nat=>(n:Int)).map Y.int:=by unfold nY;rw[Bz];rfl
theorem cV{L:qu}:∀xs:List Int,Paired (jd L 0) (xs.map Y.int) (xs.map λx=>Da.s (.int x))
 |[]=>.nil
 |_::r=>.cons ⟨rfl,rfl⟩ (cV r)
theorem rY:∀l:List (Nat×Nat),Da.eqs (l.map adp) (l.map adp)=true
 |[]=>rfl
 |x::r=>by rw[AE,Da.eqs,ak2,rY r,AH rfl];rfl
def se(ks:List Kn)(T:List Nat):List (Option Kn):=(List.range ks.length).map λp=>if p∈T then ks[p]? else none
theorem fZ(ks:List Kn)(T:List Nat):(se ks T).length=ks.length:=by unfold se;rw[Ab,Bq]
theorem wW{T:List Nat}{p:Nat}(J:p<ks.length):(se ks T)[p]?=some (if p∈T then ks[p]? else none):=by unfold se;rw[An,Cj J];rfl
theorem acs{T:List Nat}{p:Nat}{k:Kn}(U:p∈T)(J:ks[p]?=some k):(se ks T)[p]?=some (some k):=by rw[wW (j6 J),AF U,J]
theorem ak6{T:List Nat}{p:Nat}{k:Kn}(h:(se ks T)[p]?=some (some k)):p∈T/\ks[p]?=some k:=by
 have J:p<ks.length:=by rw[<-fZ ks T];exact j6 h
 rw[wW J] at h;by_cases c:p∈T
 ·rw[AF c] at h;exact⟨c,AN h⟩
 ·rw[AG c] at h;cases h
section
variable {E:List Nat}
theorem SR.rls(h:SR ks R E):∀B∈jg R,(∃EB,SR ks B EB)/\(∀x∈qk B,x∈qk R)/\(qk B).Sublist (qk R)/\j5 B<=j5 R/\(∀c∈zx B,c∈zx R):=by
 induction h with
 |link I h2 T g l=>
  intro B U;cases Aj.mp U;exact⟨⟨_,.link I h2 T g l⟩,λ_ h=>h,CV _,Al _,λ_ h=>h⟩
 |@ei r i j A EA E I hA T g l h6 h7 ih=>
  intro B U;rcases Am.mp U with rfl|U
  ·exact⟨⟨_,.ei I hA T g l h6 h7⟩,λ_ h=>h,CV _,Al _,λ_ h=>h⟩
  ·obtain⟨a,b,c,d,e⟩:=ih B U;exact⟨a,λx h=>Ac _ (b x h),c.cons _,BQ d,e⟩
 |@bo r i j A B EA EB E I hA U g l h6 h7 o t=>
  intro C J;rcases Am.mp J with rfl|J
  ·exact⟨⟨_,.bo I hA U g l h6 h7⟩,λ_ h=>h,CV _,Al _,λ_ h=>h⟩
  ·rcases Ap.mp J with J|J
   ·obtain⟨a,b,c,d,e⟩:=o C J;exact⟨a,λx h=>Ac _ (Ar _ (b x h)),(c.trans (CF ..)).cons _,by show _<=max (j5 A) (j5 B)+1;lia,λx h=>Ar _ (e x h)⟩
   ·obtain⟨a,b,c,d,e⟩:=t C J;exact⟨a,λx h=>Ac _ (Ae _ (b x h)),(c.trans (B1 ..)).cons _,by show _<=max (j5 A) (j5 B)+1;lia,λx h=>Ae _ (e x h)⟩
 |@cu p q A B EA EB E w hA U T g l h6 h7 h8 o t=>
  intro C J;rcases Am.mp J with rfl|J
  ·exact⟨⟨_,.cu hA U T g l h6 h7 h8⟩,λ_ h=>h,CV _,Al _,λ_ h=>h⟩
  ·rcases Ap.mp J with J|J
   ·obtain⟨a,b,c,d,e⟩:=o C J;exact⟨a,λx h=>Ar _ (b x h),c.trans (CF ..),by show _<=max (j5 A) (j5 B)+1;lia,λx h=>Ac _ (Ar _ (e x h))⟩
   ·obtain⟨a,b,c,d,e⟩:=t C J;exact⟨a,λx h=>Ae _ (b x h),c.trans (B1 ..),by show _<=max (j5 A) (j5 B)+1;lia,λx h=>Ac _ (Ae _ (e x h))⟩
theorem TrO.inner(T:TrO ks R E)(h:B∈jg R):∃J,TrO ks B J:=by obtain⟨⟨J,s⟩,_,sub,_⟩:=T.sr.rls B h;exact⟨J,T.ok,s,sub.nodup T.nd,T.len⟩
theorem ah:∀{R A B:Ru},A∈jg R->B∈jg A->B∈jg R
 |.link p q,A,B,J,U=>by cases Aj.mp J;exact U
 |.ei r C,A,B,J,U=>by
  rcases Am.mp J with rfl|J
  ·exact U
  ·exact Ac _ (ah J U)
 |.bo r C D,A,B,J,U=>by
  rcases Am.mp J with rfl|J
  ·exact U
  ·rcases Ap.mp J with J|J
   ·exact Ac _ (Ar _ (ah J U))
   ·exact Ac _ (Ae _ (ah J U))
 |.cu p q C D,A,B,J,U=>by
  rcases Am.mp J with rfl|J
  ·exact U
  ·rcases Ap.mp J with J|J
   ·exact Ac _ (Ar _ (ah J U))
   ·exact Ac _ (Ae _ (ah J U))
theorem fC(A:Ru):A∈jg A:=by rw[aC];exact Af ..
theorem yk{A:Ru}(h:B∈qm A):B∈jg A:=by rw[aC];exact Ac _ (AW.mpr ⟨B,h,fC B⟩)
end
open PySem L2 PyProof.Rows
end L3
namespace L2
open PySem PySem.Spec PyProof.Rows
theorem afq(neg:Bool)(p:X.A.units+128<cLine):kw X (compareOp (if neg then .NotIn else .In)) (λx y H Q=>∃a kvs k,y=.ref a/\H a=some (.dK kvs)/\x=kV k/\Q (.bl (if neg then !(bH kvs k).isSome else(bH kvs k).isSome)) H):=by intro U s r H x y v u Q I g j ⟨a,kvs,k,l,e,ex,q⟩;subst ex l;cases (show u=Value.ref a from j);cases neg with|false=>exact avf (by omega) I (qJ.k e) g λo J=>⟨.bl _,H,J,rfl,q⟩|true=>exact aj3 (by omega) I (qJ.k e) g λo J=>⟨.bl _,H,J,rfl,q⟩
def ahl(w:World)(r:Str×Tok×Int×Tok):DictEntry:=⟨hashStr w r.1,.str r.1 r.2.1,.int r.2.2.1 r.2.2.2⟩
theorem ao9{K:Ah}{P:Program}{w:World}{c:Addr}{g:Nat}(rows:List (Str×Tok×Int×Tok))(l:K.lookup c=some ⟨.type "dict",none,.dict (rows.map (ahl w)).toArray g,#[]⟩)(hs:(c==sysModules)=false)(hz:rows.length<=1000)(nd:(rows.map λr=>(Sum.inr r.1:jm)).Nodup):
 KD K P w c (rows.map λr=>(Sum.inr r.1,.int r.2.2.1)):=by
 refine⟨hs,by rw[Ab];exact small hz,λh X=>⟨rows.map λr=>(Sum.inr r.1,.int r.2.2.1 r.2.2.2),?_,_,_,g,X c _ l,⟨rfl,rfl,rfl⟩,rfl,?_,?_,?_⟩⟩
 ·unfold KV;clear l hz nd
  induction rows with|nil=>exact .nil|cons r t J=>exact .cons ⟨rfl,_,rfl⟩ J
 ·intro e j;have U:e∈rows.map (ahl w):=by simpa using j
  obtain⟨r,_,rfl⟩:=AL.mp U;exact⟨Sum.inr r.1,jO r.1 r.2.1,rfl⟩
 ·show Pairs _ (rows.map (ahl w)).toArray.toList _;rw[List.toList_toArray];clear l hz nd
  induction rows with|nil=>exact .nil|cons r t J=>exact .cons (jO r.1 r.2.1) rfl J
 ·rw[Bz];exact nd
end L2
namespace L3
open PySem L2
theorem zA{xs:List (jm×V)}(p:Paired (λ(p:jm×Y) (q:jm×V)=>p.1=q.1/\RV G H p.2 q.2) kvs xs)(k:jm):(bH xs k).isSome=(wn kvs k).isSome:=by
 unfold bH wn;rw[B7,B7]
 induction p with
 |nil=>rfl
 |@cons a b _ _ r t J=>
  rw[Bm,Bm,r.1];cases decide (b.1=k) with|true=>rfl|false=>exact J
def aac(neg:Bool)(x y:Y)(L:qu)(Q:YK):Prop:=match y,aho x with
 |.ref a,some k=>uR L a λkvs=>Q (.bl (nb neg (wn kvs k).isSome)) L
 |_,_=>False
theorem aeg(neg:Bool)(j:X.A.units+128<cLine):kw X (compareOp (if neg then .NotIn else .In)) (fb X.g3 (aac neg)):=EV (afq neg j) λx y H Q C I L T l o rl z k=>by
 unfold aac at z;split at z
 ·rename_i a J p;obtain⟨U,e,z⟩:=iB z;obtain⟨g,r,t⟩:=rl a _ e;refine⟨a,g,J,o,r,lu p l,?_⟩;have:(if neg=true then !(bH g J).isSome else(bH g J).isSome)=nb neg (wn U J).isSome:=by rw[zA t];cases neg<;>simp[nb]
  rw[this];exact k _ H _ L (DX _) rl (by rfl) z
 ·exact z.elim
theorem ap3(J:X.A.units+128<cLine):kw X (compareOp .In) (fb X.g3 (aac false)):=aeg false J
theorem ao3(J:X.A.units+128<cLine):kw X (compareOp .NotIn) (fb X.g3 (aac true)):=aeg true J
def qF(xs:List Y)(L:qu)(Q:YK):Prop:=match xs with
 |[.ref a]=>dR L a λys=>Q (.tup ys) L
 |_=>False
theorem xU :xf X (.type "tuple") (upL X.g3 qF):=EY oo λt H Q C L I g rl z k=>by
 unfold qF at z;split at z
 ·rename_i a;obtain⟨u,rfl,j⟩:=g.inv1;obtain⟨o,e,z⟩:=v4 z;obtain⟨U,p,r⟩:=rl a _ e;cases (show u=V.ref a from j);exact⟨a,U,rfl,.inl ⟨.inl (.inl p),λl J=>k _ _ (.tup o) L (DY J) (rl.skip J) ⟨l,U,rfl,.inl (.inl zv),r.ts (DY J)⟩ z⟩⟩
 ·exact z.elim
structure ar4(G:G3)(mg:Str->Option Value)(x:Str)(kvs:List (Str×Int)):Prop where
 ex:∃a,mg x=some (.ref a)/\KD G.K G.P G.w a (kvs.map λp=>(Sum.inr p.1,V.int p.2))
theorem ur{kvs:List (Str×Int)}{k:Str}{x:Int}(h:kvs.lookup k=some x):bH (kvs.map λp=>((Sum.inr p.1:jm),V.int p.2)) (Sum.inr k)=some (V.int x):=by
 induction kvs with
 |nil=>simp at h
 |cons p r J=>
  obtain⟨a,b⟩:=p;unfold bH;rw[AE,Bm];rw[Bp] at h;by_cases c:k=a
  ·subst c;simp at h;simp[h]
  ·have c1:(k==a)=false:=by simpa using c
   rw[c1] at h;have c2:decide ((Sum.inr a:jm)=Sum.inr k)=false:=Ay λz=>c (Ei z).symm;simp only[c2];exact J h
def rX(kvs:List (Str×Int))(ti:vd)(τ:x8)(L:qu)(Q:YK):Prop:=ti τ L λy L1=>match y with
 |.str k=>yU L1 (λi L=>Q (.int i) L) (kvs.lookup k)
 |_=>False
theorem mh{kvs:List (Str×Int)}{i:Expr}(t:ar4 X.g3 X.mg x kvs)(l:Gl X x)(hi:QE X i ti)(o:lL i)(hd:Ed x:=by decide):QE X (.Subscript (.Name x p) i pos) (rX kvs ti):=by
 obtain⟨a,r,C⟩:=t.ex;refine DZ (akh aqz (yT l r (show j3 (.ref a) (.ref a) from rfl) hd) hi o) λσ H Q I L Q3 T rl z k=>?_;refine⟨I,L,_,T,rl,z,λv H1 y L1 t1 J U g=>?_⟩;split at g
 ·rename_i kk;obtain⟨j,ej,q⟩:=lT g;cases (show v=V.str kk from U);exact⟨_,_,.inr C,ur ej,k _ H1 _ L1 t1 J (by rfl) q⟩
 ·exact g.elim
open PySem L2 Words
def aE:List (Str×Int):=[("link",2),("either",1),("both",1),("cut",2)]
def u5:ku:=(jb (iW aF (qd (sM oh (qa 0) (ww (jl 1)) (ww (zk km (jl 1) (rX aE (x4 0 0))))) zb)))
def aax:ku:=(jb (iW aF (qd (sM oh (qa 0) (ww (zk km (jl 1) (rX aE (x4 0 0)))) kq) zb)))
def vI(J:jn)(p1:jn):ku:=(qt (zg (ju (xu (qa 0))) (qe 1))
 (qt (dU (vv (qz J (xu (qa 0)))) (qe 2) (jr (aj ak (qa 1) (qd (qz p1 (xu (qa 2))) zb))))
 (jb (qa 1))))
def zW(J:jn):ku:=(jb (yIf (gd (x4 0 0) (dg "cut")) (ju zb) (qz J (xu (qa 0)))))
def xO(J:jn):ku:=(qt (xt (gd (x4 1 0) (dg "link")) (jb (ju zb)) jv)
 (qt (xt (gd (x4 1 0) (dg "cut")) (jb (ju (qd (ju (xu (x4 1 1))) (qd (ju (xu (x4 1 2))) zb)))) jv)
 (qt (zg (qz J (qd (zk ai (qa 0) (x4 1 1)) zb)) (qe 2))
 (qt (xt (gd (x4 1 0) (dg "either")) (jb (ju (xu (qa 2)))) jv)
 (jb (sN 1 (vv (qa 2)) (qe 3) wI (ju (xu (qa 3)))))))))
def y9:Ru->List Nat
 |.link p q=>[p,q]
 |.ei r _=>[r]
 |.bo r _ _=>[r]
 |.cu p q _ _=>[p,q]
def l7:jn:=λys L Q=>∃A:Ru,ys=[qj A]/\∀p,L p=none->Q (.ref p) (qh L p (.lst (nY (y9 A))))
theorem ai3:∀ys L Q,l7 ys L Q->xl u5 1 ys L Q:=by
 rintro ys L Q ⟨A,rfl,q⟩;cases A with
 |link a b=>exact⟨λz=>absurd z.1 (by show ¬1=0;decide),λp J=>xi (q p J)⟩
 |ei r A=>exact⟨λz=>absurd z.1 (by show ¬1=0;decide),λp J=>xi (q p J)⟩
 |bo r A B=>exact⟨λz=>absurd z.1 (by show ¬1=0;decide),λp J=>xi (q p J)⟩
 |cu a b A B=>exact⟨λz=>absurd z.1 (by show ¬1=0;decide),λp J=>xi (q p J)⟩
def wu:jn:=λys L Q=>∃A:Ru,ys=[qj A]/\∀p,L p=none->Q (.ref p) (qh L p (.lst ((qm A).map qj)))
theorem abp:∀ys L Q,wu ys L Q->xl aax 1 ys L Q:=by
 rintro ys L Q ⟨A,rfl,q⟩;cases A with
 |link a b=>exact⟨λz=>absurd z.1 (by show ¬3=0;decide),λp J=>xi (q p J)⟩
 |ei r A=>exact⟨λz=>absurd z.1 (by show ¬2=0;decide),λp J=>xi (q p J)⟩
 |bo r A B=>exact⟨λz=>absurd z.1 (by show ¬2=0;decide),λp J=>xi (q p J)⟩
 |cu a b A B=>exact⟨λz=>absurd z.1 (by show ¬3=0;decide),λp J=>xi (q p J)⟩
def i5:jn:=λys L Q=>∃A:Ru,ys=[qj A]/\∀p,L p=none->Q (.ref p) (qh L p (.lst (nY (aT A))))
theorem abj:∀ys L Q,i5 ys L Q->xl (zW l7) 1 ys L Q:=by
 rintro ys L Q ⟨A,rfl,q⟩;cases A with
 |link a b=>exact⟨_,rfl,λp J=>xi (q p J)⟩
 |ei r A=>exact⟨_,rfl,λp J=>xi (q p J)⟩
 |bo r A B=>exact⟨_,rfl,λp J=>xi (q p J)⟩
 |cu a b A B=>exactλp J=>xi (q p J)
def ae(n:Nat):jn:=λys L Q=>∃A:Ru,ys=[qj A]/\j5 A<=n/\zu A<=1000/\∀p,L p=none->Q (.ref p) (qh L p (.lst ((jg A).map qj)))
theorem oX(A:Ru):0<j5 A:=by cases A<;>simp[j5]
theorem afe:∀ys L Q,¬ae 0 ys L Q:=by rintro ys L Q ⟨A,_,h,_⟩;have:=oX A;lia
theorem fU{A:Ru}(h:B∈qm A):zu B<zu A:=by
 cases A with
 |link p q=>cases h
 |ei r C=>cases Aj.mp h;exact Co _
 |bo r C D=>
  have:zu (.bo r C D)=zu C+zu D+1:=rfl;rcases Am.mp h with rfl|h
  ·lia
  ·cases Aj.mp h;lia
 |cu p q C D=>
  have:zu (.cu p q C D)=zu C+zu D+1:=rfl;rcases Am.mp h with rfl|h
  ·lia
  ·cases Aj.mp h;lia
theorem xC(n:Nat):∀ys L Q,ae (n+1) ys L Q->xl (vI wu (ae n)) 3 ys L Q:=by
 rintro ys L Q ⟨A,rfl,hd,hz,q⟩;have big:=bg_;intro l t;refine⟨A,rfl,λj J=>?_⟩;have o:l≠j:=k7 q8 J;have T:L j=none:=jf J;have s0:qf L (qh (qh L l (.lst [qj A])) j (.lst ((qm A).map qj))):=(By t).trans (By J);have sz:∀i,(((qm A).take i).flatMap jg).length<=1000:=λi=>by
  have e:=Bi List.length (aC A);rw[bC] at e;have h2:(((qm A).take i).flatMap jg).length+(((qm A).drop i).flatMap jg).length=((qm A).flatMap jg).length:=by rw[<-Ad,<-AA,A7]
  simp only[AQ] at e;lia
 refine jx q8 λkeep kp=>vj ⟨λi r U=>∃c2,r=[some (qj A),some (.ref l),c2]/\qf L U/\U l=some (.lst ((A::((qm A).take i).flatMap jg).map qj))/\U j=some (.lst ((qm A).map qj)),⟨_,rfl,s0,(qb o).trans q8,q8⟩,?_,?_,?_⟩
 ·rintro i r U ⟨c2,rfl,s,g,g2⟩;exact kp U (by rw[g2,q8])
 ·rintro i y r U hy ⟨c2,rfl,s,g,g2⟩;rw[An] at hy;obtain⟨B,eB,rfl⟩:=Ao.mp hy;have mB:=Aw eB;have et:(qm A).take (i+1)=(qm A).take i++[B]:=by rw[A3,eB];rfl
  have zB:=fU mB;have dB:=v0 mB;have zi:=sz i;refine qc g ⟨B,rfl,by lia,by lia,λp C=>?_⟩;have np:l≠p:=k7 g C;have I:j≠p:=k7 g2 C;refine qr ((qb np).trans g) (qr q8 ⟨?_,?_⟩)
  ·rw[Ab,Ab,AQ,bC];exact Bf (big _ (by lia))
  ·refine⟨_,DW _,_,rfl,(s.trans (By C)).upd t,?_,(qb (AI o)).trans ((qb I).trans g2)⟩;rw[q8,et,AA,Cs,<-Ak];rfl
 ·rintro r U ⟨c2,rfl,s,g,_⟩;rw[Ab,A6,<-aC] at g;exact wr (EW s g) (q l t)
def vB(ks:List Kn)(wd:List (Option Kn))(A:Ru):Prop:=∀x∈qk A,∀k,ks[x]?=some k->wd[x]?=some (some k)
theorem vB.arm{A:Ru}(h:vB ks wd A)(J:B∈qm A):vB ks wd B:=λx U=>h x (by rw[aK];exact Ae _ (AW.mpr ⟨B,J,U⟩))
def qL:jn:=λys L Q=>∃a,∃wd:List (Option Kn),∃ks:List Kn,∃A:Ru,∃E:List Nat,ys=[.ref a,qj A]/\L a=some (.lst (aM wd))/\SR ks A E/\vB ks wd A/\
 ∀p J L',qf L L'->L p=none->L' p=some (.lst (J.map Y.ref))->Paired (λr t=>L r=none/\L' r=some (.lst (nY t))) J (jj ks A)->Q (.ref p) L'
theorem ajy:∀ys L Q,qL ys L Q->xl (xO mf) 3 ys L Q:=by
 rintro ys L Q ⟨a,wd,ks,A,E,rfl,ha,sr,ag,q⟩;cases sr with
 |link=>exactλp hp=>xi (q p [] _ (By hp) hp q8 .nil)
 |@cu u v A B EA EB _ w hA hB T h4=>
  intro J g l h2 p3 T;have U:J≠l:=k7 q8 h2;have a0:J≠p3:=k7 ((qb U).trans q8) T;have a1:l≠p3:=k7 q8 T;exact xi (q p3 [J,l] _ (((By g).trans (By h2)).trans (By T)) (jf (jf T)) q8 (.cons ⟨g,(qb a0).trans ((qb U).trans q8)⟩ (.cons ⟨jf h2,(qb a1).trans q8⟩ .nil)))
 |@ei r i j A EA _ g=>
  refine qc ha (qo (jy (ag r (Af ..) _ g)) ⟨some (.nd true i j),rfl,λJ g1=>?_⟩);intro l g2;have U:J≠l:=k7 q8 g2;refine xi (q l [J] _ ((By g1).trans (By g2)) (jf g2) q8 ?_);show Paired _ [J] [x0 ks[r]?];rw[g];exact .cons ⟨g1,(qb U).trans q8⟩ .nil
 |@bo r i j A B EA EB _ g=>
  refine qc ha (qo (jy (ag r (Af ..) _ g)) ⟨some (.nd false i j),rfl,λJ g1=>?_⟩);have s1:qf L (qh L J (.lst (nY [i,j]))):=By g1;refine jx q8 λkeep kp=>rC ⟨show 2<sizeLine by decide,λm zs I=>∃o,zs=o.map Y.ref/\qf (qh L J (.lst (nY [i,j]))) I/\Paired (λr t=>L r=none/\I r=some (.lst (nY t))) o (([i,j].map λx=>[x]).take m),⟨[],rfl,DW _,.nil⟩,?_,?_,?_⟩
  ·rintro m zs I ⟨o,_,s,_⟩;exact kp I (by rw[q8];exact s _ _ q8)
  ·rintro m y zs I hy ⟨o,rfl,s,pr⟩;obtain⟨x,ex,rfl⟩:=ie hy;have ex:[i,j][m]?=some x:=ex;intro l g2;refine⟨_,DW _,o++[l],by rw[Ak];rfl,s.trans (By g2),?_⟩;have et:([i,j].map λx=>[x]).take (m+1)=([i,j].map λx=>[x]).take m++[[x]]:=by rw[A3,An,ex];rfl
   rw[et];exact kF (EC pr λb t C=>⟨C.1,(qb (k7 C.2 g2)).trans C.2⟩) ⟨s1.none (s.none g2),q8⟩
  ·rintro zs I ⟨o,rfl,s,pr⟩ p3 g3;refine xi (q p3 o _ ((s1.trans s).trans (By g3)) (s1.none (s.none g3)) q8 ?_);show Paired _ o ((x0 ks[r]?).map λx=>[x]);rw[g];exact EC pr λb t C=>⟨C.1,(qb (k7 C.2 g3)).trans C.2⟩
theorem pD{A:Ru}:∀t∈jj ks A,t.length<=2:=by
 intro t J;cases A with
 |link p q=>cases J
 |ei r A=>rw[Aj.mp J];exact yy _
 |bo r A B=>obtain⟨x,_,rfl⟩:=AL.mp J;exact BV 1
 |cu p q A B=>
  rcases Am.mp J with rfl|J
  ·exact BV 1
  ·rw[Aj.mp J];exact BV 1
theorem aA{A:Ru}(h:B∈qm A):(qk B).Sublist (qk A):=by rw[aK A];refine List.Sublist.trans ?_ (B1 ..);obtain⟨a,b,e⟩:=CK h;rw[e,AA,AM];exact(CF ..).trans (B1 ..)
theorem ag7{T:List Nat}(U:∀x∈T,x<ks.length){x:Nat}:x∈o0 (se ks T)↔x∈T:=by
 constructor
 ·intro h;obtain⟨_,k,e,g⟩:=ahp h;cases k with
  |none=>cases g
  |some k=>exact(ak6 e).1
 ·intro h;have J:=U x h;exact ao0 (acs h (Ag J)) rfl (by rw[fZ];exact J)
theorem zM{E:List Nat}(T:TrO ks R E):(o0 (se ks (qk R))).length=(qk R).length:=by refine((A8 ?_ T.nd).mpr λx=>ag7 λx J=>T.sr.lt x J).length_eq;unfold o0 whr;exact Cp.filter _
structure StI(A:Ru)(tk:List Nat)(st:List Ru):Prop where
 pt:(tk++st.flatMap qk).Perm (qk A)
 sz:(st.map zu).sum<=zu A
 dp:∀B∈st,j5 B<=j5 A
theorem StI.start(A:Ru):StI A [] [A]:=⟨by simp,by simp,λB J=>by rw[Aj.mp J];exact Al _⟩
theorem StI.step{A:Ru}{tk:List Nat}{st:List Ru}(h:StI A tk (st++[B])):StI A (tk++aT B) (st++qm B):=by
 refine⟨?_,?_,λC J=>?_⟩
 ·refine List.Perm.trans ?_ h.pt;rw[AA,AA];have:[B].flatMap qk=aT B++(qm B).flatMap qk:=by rw[<-aK];simp
  rw[this];refine Bx.mpr λz=>?_;simp only[Bh];lia
 ·have:=h.sz;have:=fA B;simp at *;lia
 ·rcases Ap.mp J with J|J
  ·exact h.dp C (Ar _ J)
  ·have:=v0 J;have:=h.dp B (Ae _ (Aj.mpr rfl));lia
theorem StI.lt{A:Ru}{tk:List Nat}{st:List Ru}:((st.map zu).sum+((qm B).map zu).sum)<((st++[B]).map zu).sum:=by have:=fA B;simp;lia
theorem ala(ks:List Kn)(A:Ru):vB ks (se ks (qk A)) A:=λ_ J _ U=>acs J U
theorem TrO.small{A:Ru}{E:List Nat}(T:TrO ks A E):(qk A).length<=96:=by
 have:=zM T;have J:=ak0 aec (se ks (qk A)) (se ks (qk A)).length;rw[fZ] at J;have:(o0 (se ks (qk A))).length<=ks.length:=by unfold o0;rw[fZ];exact J
 have:=T.len;lia
def uD:ku:=(qt (xt (gd (x4 0 0) (dg "cut")) (jb (ju (aW (x4 0 3) (x4 0 4)))) jv)
 (qt (xt (gd (x4 0 0) (dg "link")) (jb (ju zb)) jv)
 (jb (iW aF (qd (sM oh (qa 0) (ww (jl 2)) kq) zb)))))
def lH(J:jn):ku:=(qt (zg (k8 (qd (ju zb) (qd (ju zb) (qd yj (qd (ju (xu (qa 0))) zb))))) (aJ 4 (zq (qe 1) (zq (qe 2) (zq (qe 3) (zq (qe 4) wv))))))
 (qt (eQ (rdN (qa 4) (ju zb)) (qt (zg (aj uh (qa 4) zb) (qe 5))
 (m7 (xt (gd (x4 5 0) (dg "link")) (qt (jr (aj jc (qa 1) (qd (rdT (x4 5 1) (x4 5 2)) zb)))
 (qt (iO (qa 3) (x4 5 1) (yC (.bl true)))
 (iO (qa 3) (x4 5 2) (yC (.bl true))))) (xt (gd (x4 5 0) (dg "cut")) (jr (aj jc (qa 2) (qd (rdT (x4 5 1) (x4 5 2)) zb))) (iO (qa 3) (x4 5 1) (yC (.bl true)))))
 (jr (aj ak (qa 4) (qd (qz J (xu (qa 5))) zb))))))
 (jb (k8 (qd (qa 1) (aW (qa 2) (qa 3)))))))
def oa(J:jn):ku:=(qt (eQ (vJ (rdN (qz J (xu (qa 0))) (ju zb)) (yB (zk yGt (zk w5 (qa 1) (jl 5)) (jl 0)))) (qt (zg (qz J (xu (qa 0))) (qe 2))
 (qt (zg (zk ai (qa 2) (zk w5 (zk az (qa 1) (jl 5)) (cq 2))) (qe 0))
 (zg (zk w5 (zk o9 (qa 1) (jl 48271)) (jl 2147483647)) (qe 1)))))
 (jb (qa 0)))
def vf:jn:=wu
theorem ad9:∀ys L Q,vf ys L Q->xl uD 1 ys L Q:=by
 rintro ys L Q ⟨A,rfl,q⟩;cases A with
 |link a b=>exactλp J=>xi (q p J)
 |ei r A=>exact⟨λz=>absurd z.1 (by show ¬2=0;decide),λp J=>xi (q p J)⟩
 |bo r A B=>exact⟨λz=>absurd z.1 (by show ¬2=0;decide),λp J=>xi (q p J)⟩
 |cu a b A B=>exactλp J=>xi (q p J)
structure UsI(us:List Nat)(kvs:List (jm×Y)):Prop where
 val:∀x:Nat,(wn kvs (.inl (x:Int))).isSome=decide (x∈us)
 len:kvs.length<=us.length
theorem UsI.nil:UsI [] []:=⟨λ_=>rfl,Al _⟩
theorem UsI.put{us:List Nat}(h:UsI us kvs)(x:Nat)(y:Y):UsI (us++[x]) (iw kvs (.inl (x:Int)) y):=by
 refine⟨λz=>?_,?_⟩
 ·rw[tN];by_cases e:z=x
  ·subst e;rw[AF rfl,AH (Ae _ (Aj.mpr rfl))];rfl
  ·rw[AG (λq=>e (Cg.mp (Sum.inl.inj q))),h.val];refine C0.mpr ⟨λq=>Ar _ q,λq=>?_⟩;rcases Ap.mp q with q|q
   ·exact q
   ·exact absurd (Aj.mp q) e
 ·have:=fQ kvs (.inl (x:Int)) y;have:=h.len;rw[Ad];show _<=us.length+1;lia
def sE:jn:=λys L Q=>∃R:Ru,ys=[qj R]/\(qk R).length<=96/\
 ∀J U ta lk ct kvs L',qf L L'->L J=none->L U=none->L ta=none->L' J=some (.lst (bE lk))->L' U=some (.lst (bE ct))->L' ta=some (.dct kvs)->lk.Perm (zm R)->ct.Perm (zx R)->(∀x:Nat,(wn kvs (.inl (x:Int))).isSome=decide (x∈qk R))->Q (.tup [.ref J,.ref U,.ref ta]) L'
theorem bM:∀R:Ru,(zm R).length+(zx R).length<=zu R
 |.link _ _=>Al _
 |.ei _ A=>BQ (bM A)
 |.bo _ A B=>by have:=bM A;have:=bM B;show(zm A++zm B).length+(zx A++zx B).length<=zu A+zu B+1;rw[Ad,Ad];lia
 |.cu _ _ A B=>by have:=bM A;have:=bM B;show(zm A++zm B).length+((zx A++zx B).length+1)<=zu A+zu B+1;rw[Ad,Ad];lia
theorem ahw:∀ys L Q,sE ys L Q->xl (lH vf) 6 ys L Q:=by
 rintro ys L Q ⟨R,rfl,tl,q⟩;have big:=bg_;have rd:=jo R;have rz:=vg R;have rp:=bM R;intro la ba ca bb ta ag g a3;have a4:la≠ca:=k7 q8 bb;have a0:ca≠ta:=k7 q8 ag;have a1:la≠ta:=k7 ((qb a4).trans q8) ag;have a2:ta≠g:=k7 q8 a3;have al:ca≠g:=k7 ((qb a0).trans q8) a3;have ar:la≠g:=k7 ((qb a1).trans ((qb a4).trans q8)) a3;have aH:L ca=none:=jf bb;have t:L ta=none:=jf (jf ag);have aL:L g=none:=jf (jf (jf a3));have S0:qf L (qh (qh (qh (qh L la (.lst [])) ca (.lst [])) ta (.dct [])) g (.lst [qj R])):=(((By ba).trans (By bb)).trans (By ag)).trans (By a3);refine⟨λm τ j=>∃lk ct J us st c5,τ=[some (qj R),some (.ref la),some (.ref ca),some (.ref ta),some (.ref g),c5]/\qf L j/\j la=some (.lst (bE lk))/\j ca=some (.lst (bE ct))/\j ta=some (.dct J)/\j g=some (.lst (st.map qj))/\jU R lk ct st/\UsI us J/\StI R us st/\m=(st.map zu).sum,⟨_,[],[],[],[],[R],_,rfl,S0,(qb ar).trans ((qb a1).trans ((qb a4).trans q8)),(qb al).trans ((qb a0).trans q8),(qb a2).trans q8,q8,jU.start R,UsI.nil,StI.start R,rfl⟩,?_⟩;rintro m τ j ⟨lk,ct,J,us,st,c5,rfl,s,C,h2,h3,h4,T,U,I,rfl⟩;intro p hp;refine wf (n:=120) (m:=0) (by decide) (By hp _ _ h4) q8 (aG λA hA=>AU (T.dp A hA) (by lia)) (.nil:Paired (jd _ 0) _ []) ?_;have s2:qf L (qh j p (.lst [])):=s.trans (By hp);replace C:=(qb (o:=.lst []) (k7 C hp)).trans C;replace h2:=(qb (o:=.lst []) (k7 h2 hp)).trans h2;replace h3:=(qb (o:=.lst []) (k7 h3 hp)).trans h3;replace h4:=(qb (o:=.lst []) (k7 h4 hp)).trans h4;generalize qh j p (.lst [])=L2 at s2 C h2 h3 h4 ⊢;show wq (!(Da.eqs (st.map aZ) [])) _ _;rw[dy];have kl:=U.len;have pl:=I.pt.length_eq;have l1:=T.pl.length_eq;have l2:=T.pc.length_eq;rw[Ad] at pl l1 l2;rcases BH st with rfl|⟨aP,A,rfl⟩
 ·refine xr rfl ?_;refine xi (q la ca ta lk ct J L2 s2 ba aH t C h2 h3 (by have:=T.pl;simpa using this) (by have:=T.pc;simpa using this) λx=>?_);rw[U.val];exact C0.mpr (by have:=I.pt.mem_iff (a:=x);simpa using this)
 ·rw[BI] at *;rw[Ay (by simp)];refine wm rfl ⟨λa5 j=>∃m',m'<((aP++[A]).map zu).sum/\∃lk ct J us st c5,a5=[some (qj R),some (.ref la),some (.ref ca),some (.ref ta),some (.ref g),c5]/\qf L j/\j la=some (.lst (bE lk))/\j ca=some (.lst (bE ct))/\j ta=some (.dct J)/\j g=some (.lst (st.map qj))/\jU R lk ct st/\UsI us J/\StI R us st/\m'=(st.map zu).sum,λa5 j h=>h,?_⟩;rw[Ak] at h4;refine rQ h4 ?_;have s3:qf L (qh L2 g (.lst (aP.map qj))):=s2.upd aL;replace C:=(qb (o:=.lst (aP.map qj)) ar).trans C;replace h2:=(qb (o:=.lst (aP.map qj)) al).trans h2;replace h3:=(qb (o:=.lst (aP.map qj)) a2).trans h3;clear h4;have h4:qh L2 g (.lst (aP.map qj)) g=some (.lst (aP.map qj)):=q8;generalize qh L2 g (.lst (aP.map qj))=L3 at s3 C h2 h3 h4 ⊢;refine⟨λa5 L3=>∃J,a5=[some (qj R),some (.ref la),some (.ref ca),some (.ref ta),some (.ref g),some (qj A)]/\qf L L3/\L3 la=some (.lst (bE (lk++iH A)))/\L3 ca=some (.lst (bE (ct++iS A)))/\L3 ta=some (.dct J)/\L3 g=some (.lst (aP.map qj))/\UsI (us++aT A) J,?_,?_⟩
  ·cases A with
   |link p0 q0=>
    refine qc C (qr C ⟨by rw[Ab];exact big _ (by lia),?_⟩);refine xa ((qb (AI a1)).trans h3) ⟨big _ (by lia),?_⟩;have U1:=U.put p0 (.bl true);have k1:=U1.len;rw[Ad] at k1;refine xa q8 ⟨big _ (by simp at k1;lia),?_⟩;have U2:=U1.put q0 (.bl true);rw[xz];refine⟨_,rfl,(s3.upd ba).upd t,?_,?_,q8,?_,by rw[AD] at U2;exact U2⟩
    ·rw[qb a1,q8];exact Bi (λl=>some (LO.lst l)) (ig lk (p0,q0))
    ·rw[qb a0,qb (AI a4),h2];simp[iS]
    ·rw[qb (AI a2),qb (AI ar)];exact h4
   |ei r0 A0=>
    refine xa h3 ⟨big _ (by lia),?_⟩;exact⟨_,rfl,s3.upd t,by rw[qb a1,C];simp[iH],by rw[qb a0,h2];simp[iS],q8,by rw[qb (AI a2)];exact h4,U.put r0 (.bl true)⟩
   |bo r0 A0 B0=>
    refine xa h3 ⟨big _ (by lia),?_⟩;exact⟨_,rfl,s3.upd t,by rw[qb a1,C];simp[iH],by rw[qb a0,h2];simp[iS],q8,by rw[qb (AI a2)];exact h4,U.put r0 (.bl true)⟩
   |cu p0 q0 A0 B0=>
    refine qc h2 (qr h2 ⟨by rw[Ab];exact big _ (by lia),?_⟩);exact⟨J,rfl,s3.upd aH,by rw[qb a4,C];simp[iH],by rw[q8];exact Bi (λl=>some (LO.lst l)) (ig ct (p0,q0)),by rw[qb (AI a0)];exact h3,by rw[qb (AI al)];exact h4,by rw[show aT (.cu p0 q0 A0 B0)=[] from rfl,AS];exact U⟩
  ·rintro a5 L4 ⟨bc,rfl,s4,g1,g2,g3,g4,U'⟩;refine qc g4 ⟨A,rfl,λp8 h8=>?_⟩;refine qr ((qb (k7 g4 h8)).trans g4) (qr q8 ⟨?_,?_⟩)
   ·have C:=I.step.sz;have len:∀l:List Ru,l.length<=(l.map zu).sum:=λl=>by induction l with|nil=>exact Al _|cons x r ih=>have:=kc x;simp;lia
    have h3:=len (aP++qm A);rw[Ad] at h3;rw[Ab,Ab];exact Bf (big _ (by lia))
   ·exact⟨_,DW _,_,StI.lt (tk:=us) (A:=R),_,_,bc,us++aT A,aP++qm A,_,rfl,(s4.trans (By h8)).upd aL,(qb ar).trans ((qb (k7 g1 h8)).trans g1),(qb al).trans ((qb (k7 g2 h8)).trans g2),(qb a2).trans ((qb (k7 g3 h8)).trans g3),by rw[q8,Ak],T.step,U',I.step,by rw[Ak,BC]⟩
def jM:jn:=λys L Q=>∃R:Ru,∃n:Int,ys=[qj R,.int n]/\(qk R).length<=96/\∀B∈jg R,Q (qj B) L
theorem zL:∀ys L Q,jM ys L Q->xl (oa vf) 3 ys L Q:=by
 rintro ys L Q ⟨R,n,rfl,tl,q⟩;have rd:=jo R;refine⟨λm o J=>∃B n c2,o=[some (qj B),some (.int n),c2]/\qf L J/\B∈jg R/\j5 B<=j5 R/\m=j5 B,⟨_,R,n,_,rfl,DW _,fC R,Al _,rfl⟩,?_⟩;rintro m o J ⟨B,n,c2,rfl,s,g,dB,rfl⟩;refine⟨B,rfl,λp h1=>?_⟩;intro r t;have U:qf L (qh (qh J p (.lst ((qm B).map qj))) r (.lst [])):=(s.trans (By h1)).trans (By t);refine wf (n:=120) (m:=0) (by decide) (By t _ _ q8) q8 (aG λA hA=>by have:=v0 hA;lia) (.nil:Paired (jd _ 0) _ []) ?_;generalize qh (qh J p (.lst ((qm B).map qj))) r (.lst [])=L2 at U ⊢;show wq (!(Da.eqs ((qm B).map aZ) [])) _ _;rw[dy];by_cases c:qm B=[]
 ·refine xr (by rw[AH c];rfl) ?_;exact xr rfl (wr U (q B g))
 ·refine wm (by rw[Ay c];rfl) ⟨(show(0:Int)<5 by decide),?_⟩;refine xn (λc5=>?_) λc5=>wr U (q B g);refine⟨λl J=>∃C,C<j5 B/\∃B n c2,l=[some (qj B),some (.int n),c2]/\qf L J/\B∈jg R/\j5 B<=j5 R/\C=j5 B,λ_ _ h=>h,?_⟩;refine⟨B,rfl,λp3 h3=>?_⟩;have hl:0<(qm B).length:=List.length_pos_iff.mpr c;obtain⟨j,A,ej,lj,I⟩:=jP hl (n / 5);have T:=Aw I;have dA:=v0 T;have lm:((qm B).map qj).length=(qm B).length:=Ab ..;refine⟨⟨by decide,by decide⟩,qc q8 ⟨(by show(0:Int)<(((qm B).map qj).length:Int);rw[lm];lia),qc q8 (qo (v:=qj A) (by show iL ((qm B).map qj) (n / 5 % (((qm B).map qj).length:Int))=_;rw[lm,ej];exact jy I) ?_)⟩⟩;exact⟨.inr ⟨by decide,by decide⟩,(show(0:Int)<2147483647 by decide),_,DW _,j5 A,dA,A,_,_,rfl,U.trans (By h3),ah g (yk T),by lia,rfl⟩
def ael(Pt:Addr)(J:jn):ku:=(qt (zg (ju zb) (qe 2))
 (qt (dU (eW (qa 0)) (aJ 2 (zq (qe 3) (zq (qe 4) wv))) (qt (zg (zk w5 (qz J (qd (qa 1) (aW (qa 3) (jl 39373)))) (jl 40)) (qe 5))
 (m7 (xt (gd (cq 4) (jl 3)) (zg (zk km (zk km (qa 5) (jl 1)) (iW aib (qd (zk ai (qa 2) (x4 4 1)) (qd (zk ai (qa 2) (x4 4 2)) zb)))) (qe 5)) jv)
 (jr (aj jc (qa 2) (xu (qa 5)))))))
 (jb (ack Pt lamQ 2 (uA (cq 0))))))
def qV(J:jn):ku:=(qt (xt (gd (x4 0 0) (dg "link")) (jb (k8 (qd (dg "link") (qd (iW amz (qd (kW (qa 1) (x4 0 1)) (qd (kW (qa 1) (x4 0 2)) zb))) (qd (iW aib (qd (kW (qa 1) (x4 0 1)) (qd (kW (qa 1) (x4 0 2)) zb))) zb))))) jv)
 (qt (zg (sN 1 (adz (sM oh (qa 0) (ww (jl 1)) kq)) (qe 3) (yB (gG .int (qa 3))) (kW (qa 1) (qa 3))) (qe 2))
 (jb (iW qF (qd (zk km (zk km (ju (xu (x4 0 0))) (qa 2)) (sN 1 (adz (sM oh (qa 0) (ww (jl 1)) kq)) (qe 3) (yB (gG .tuple (qa 3))) (qz J (aW (qa 3) (qa 1))))) zb)))))
def o5(J:jn)(p1:jn):ku:=(qt (zg yj (qe 3))
 (qt (zg (ju zb) (qe 4))
 (qt (dU (vv (qz J (aW (qa 0) (qa 2)))) (qe 5) (qt (iO (qa 3) (qa 5) (cq 4))
 (qt (zg (zk ai (qa 0) (qa 5)) (qe 6))
 (jr (aj jc (qa 4) (qd (yIf (gd (cq 6) (jl 2)) (qa 6) (k8 (qd (x4 6 0) (qd (kW (qa 3) (x4 6 1)) (qd (kW (qa 3) (x4 6 2)) zb))))) zb))))))
 (jb (k8 (qd (qa 4) (qd (qz p1 (aW (qa 1) (qa 3))) zb)))))))
def jE(Pt:Addr):jn:=λys L Q=>∃a,∃ks:List Kn,∃s:Int,ys=[.ref a,.int s]/\L a=some (.lst (ji ks))/\OkO (ks.map some)/\ks.length<=63/\L Pt=some (.tb lamQ)/\
 ∀D J,L D=none->J.Perm (List.range (ks.map some).length)->db (ks.map some) J->Q (.ref D) (qh L D (.lst (nY J)))
theorem ab3 :∀ys L Q,jE Pt ys L Q->xl (ael Pt mV) 6 ys L Q:=by
 rintro ys L Q ⟨a,a5,s,rfl,ha,ok,hz,hP,q⟩;obtain⟨l,g⟩:∃l,l=a5.map some:=⟨_,rfl⟩;rw[<-au,<-g] at ha;rw[<-g] at ok q;have hz:l.length<=63:=by rw[g,Ab];exact hz
 have all:∀i,l[i]?≠some none:=λi e=>by rw[g,An] at e;obtain⟨_,_,z⟩:=Ao.mp e;cases z
 have big:=bg_;intro U J;have s0:qf L (qh L U (.lst [])):=By J;have a0:a≠U:=k7 ha J;refine jx (s0 _ _ ha) λkeep kp=>vj ⟨λi τ C=>∃rks:List Int,∃c3 c4 c5,τ=[some (Y.ref a),some (.int s),some (Y.ref U),c3,c4,c5]/\C=qh L U (.lst (rks.map Y.int))/\rks.length=i/\abt l rks,⟨[],_,_,_,rfl,rfl,rfl,λp _ _ _ hp=>by cases hp⟩,?_,?_,?_⟩
 ·rintro i τ C ⟨rks,c3,c4,c5,rfl,rfl,_⟩;exact kp _ (by rw[qb a0,qb a0])
 ·rintro i y τ C hy ⟨rks,c3,c4,c5,rfl,rfl,I,T⟩;obtain⟨z,ez,rfl⟩:=cD hy;rw[An] at ez;obtain⟨k,ek,rfl⟩:=Ao.mp ez;have hi:=j6 ek;refine⟨s,i,39373,rfl,by exact A9 _,by omega,by decide,by decide,λv h0 h1=>?_⟩;have m0:(0:Int)<=v % 40:=DR _ (by decide);have a3:(rks.map Y.int).length=i:=by rw[Ab];exact I
  refine⟨show(0:Int)<40 by decide,λa4 C=>∃r:Int,a4=[some (Y.ref a),some (.int s),some (Y.ref U),some (.int (i:Nat)),some (wP k),some (.int r)]/\C=qh L U (.lst (rks.map Y.int))/\∀e i j,k=some (.nd e i j)->rks.getD i 0<r/\rks.getD j 0<r,?_,?_⟩
  ·cases k with
   |none=>exact absurd ek (all i)
   |some k=>
    cases k with
    |lf t n=>exact⟨v % 40,rfl,rfl,λe i j z=>by cases z⟩
    |nd e p1 p2=>
     obtain⟨l1,l2⟩:=ok _ _ _ _ ek;have g1:=xq (uO (rks:=rks) (i:=p1) (by lia));have g2:=xq (uO (rks:=rks) (i:=p2) (by lia));refine qc q8 (qo g1 ?_);refine qc q8 (qo g2 ?_);refine⟨v % 40+1+max (rks.getD p1 0) (rks.getD p2 0),rfl,rfl,λe' i' j' z=>?_⟩;cases z;have a1:rks.getD p1 0<=max (rks.getD p1 0) (rks.getD p2 0):=Int.le_max_left ..;have a2:rks.getD p2 0<=max (rks.getD p1 0) (rks.getD p2 0):=Int.le_max_right ..;constructor<;>lia
  ·rintro a4 C ⟨r,rfl,rfl,hr⟩;refine qc q8 (qr q8 ⟨by rw[a3];exact big _ (by lia),?_⟩);refine⟨_,DW _,rks++[r],_,_,_,rfl,?_,by rw[Ad,I];rfl,abt.snoc ok T (by rw[I];exact ek) hr⟩;rw[xz,Ak];rfl
 ·rintro τ C ⟨rks,c3,c4,c5,rfl,rfl,I,T⟩;rw[cJ,Ab] at I;have s1:qf L (qh L U (.lst (rks.map Y.int))):=By J;refine qc (s1 _ _ ha) ?_;have lo:(aM l).length=l.length:=Ab ..;refine⟨⟨A9 _,by rw[lo];lia⟩,λp hp=>qr q8 ?_⟩;have ag:U≠p:=k7 q8 hp;have al:Pt≠p:=k7 (s1 _ _ hP) hp;have ar:Pt≠U:=k7 hP J;refine⟨l.length,rks,U,by rw[AR,lo],rfl,(qb ag).trans q8,I,hz,(qb al).trans ((qb ar).trans hP),λD qs hD pm pw=>?_⟩;have aH:=jf hD;have aL:=jf aH;refine⟨qh L D (.lst (nY qs)),λb o e=>?_,q D qs aL pm (aco ok T I pw)⟩;by_cases c:b=D
  ·subst c;rw[q8] at e ⊢;exact e
  ·rw[qb c] at e ⊢;rw[qb (λz=>by subst z;rw[jf hp] at e;cases e),qb (λz=>by subst z;rw[J] at e;cases e)];exact e
theorem sv(y:Y)(l:List Y):gb (y::l) (some 1) none=l:=by
 unfold gb;have e:HT.sIx (y::l).length 0 (some 1)=1:=by show min 1 (l.length+1)=1;lia
 rw[e];show(l.take (l.length+1-1))=l;rw[Nat.add_sub_cancel,A6]
theorem yM(y:Y)(l:List Y):¬(HT.sIx (y::l).length 0 (some 1)=0/\HT.sIx (y::l).length (y::l).length none=(y::l).length):=λz=>by
 have e:HT.sIx (y::l).length 0 (some 1)=1:=by show min 1 (l.length+1)=1;lia
 rw[e] at z;exact absurd z.1 (by decide)
def kdR:Ru->Str
 |.link _ _ => "link"
 |.ei _ _ => "either"
 |.bo _ _ _ => "both"
 |.cu _ _ _ _ => "cut"
theorem dJ(A:Ru):qj A=.tup (.str (kdR A)::(nY (y9 A)++(qm A).map qj)):=by cases A<;>rfl
def cI(n:Nat):jn:=λys L Q=>∃R:Ru,∃d,∃kvs:List (jm×Y),∃f:Nat->Nat,ys=[qj R,.ref d]/\L d=some (.dct kvs)/\(∀B∈jg R,∀x∈y9 B,wn kvs (.inl (x:Int))=some (.int (f x:Int)))/\j5 R<=n/\Q (qj (pO f R)) L
theorem ac0:∀ys L Q,¬cI 0 ys L Q:=by rintro ys L Q ⟨A,_,_,_,_,_,_,h,_⟩;have:=oX A;lia
theorem yn{P:List Nat}{J:List Ru}(h:(nY P++J.map qj)[i]?=some y):(i<P.length/\∃x,P[i]?=some x/\y=.int (x:Int))\/(P.length<=i/\∃B,J[i-P.length]?=some B/\y=qj B):=by
 by_cases c:i<P.length
 ·rw[AB (by rw[wb];exact c)] at h;exact .inl ⟨c,ie h⟩
 ·rw[Ax (by rw[wb];lia),wb,An] at h;obtain⟨B,e,z⟩:=Ao.mp h;exact .inr ⟨by lia,B,e,z.symm⟩
theorem acw(n:Nat):∀ys L Q,cI (n+1) ys L Q->xl (qV (cI n)) 3 ys L Q:=by
 rintro ys L Q ⟨R,d,t,f,rfl,hd,I,hr,q⟩;have big:=bg_;by_cases U:∃a b,R=.link a b
 ·obtain⟨a,b,rfl⟩:=U;have v1:=I _ (fC _) a (Af ..);have v2:=I _ (fC _) b (Ac _ (Af ..));refine xa hd (qo v1 ?_);refine xa hd (qo v2 ?_);refine xa hd (qo v1 ?_);refine xa hd (qo v2 ?_);refine xi ?_;have e1:min (f a:Int) (f b:Int)=((min (f a) (f b):Nat):Int):=au1 _ _;have e2:max (f a:Int) (f b:Int)=((max (f a) (f b):Nat):Int):=au9 _ _;have q:Q (.tup [.str "link",.int ((min (f a) (f b):Nat):Int),.int ((max (f a) (f b):Nat):Int)]) L:=q;rw[<-e1,<-e2] at q;exact q
 have hk:kdR R ≠ "link" := by cases R with|link a b=>exact absurd ⟨a,b,rfl⟩ U|ei r A=>show(Str.ofString "either") ≠ "link";decide +kernel|bo r A B=>show(Str.ofString "both") ≠ "link";decide +kernel|cu p s A B=>show(Str.ofString "cut") ≠ "link";decide +kernel
 have T:Q (.tup ([.str (kdR R)]++nY ((y9 R).map f)++(qm R).map λB=>qj (pO f B))) L:=by cases R with|link a b=>exact absurd ⟨a,b,rfl⟩ U|ei r A=>exact q|bo r A B=>exact q|cu p s A B=>exact q
 have vp:∀x∈y9 R,wn t (.inl (x:Int))=some (.int (f x:Int)):=I R (fC R);have va:∀B∈qm R,j5 B<=n/\∀C∈jg B,∀x∈y9 C,wn t (.inl (x:Int))=some (.int (f x:Int)):=λB hB=>⟨by have:=v0 hB;lia,λC hC=>I C (ah (yk hB) hC)⟩;have lp:(y9 R).length<=2:=by cases R<;>simp[y9]
 have lA:(qm R).length<=2:=by cases R<;>simp[qm]
 rw[dJ R];generalize y9 R=P at vp T lp;generalize qm R=l at va T lA;generalize kdR R=g at hk T;clear q I U hr;have e0:iL (Y.str g::(nY P++l.map qj)) 0=some (Y.str g):=xq (xs:=Y.str g::(nY P++l.map qj)) (j:=0) rfl;have ll:(nY P++l.map qj).length=P.length+l.length:=by rw[Ad,wb,Ab]
 walk_at "w";rw[e0];refine xr (Ay hk) ?_;refine⟨yM _ _,?_⟩;rw[sv];refine cw (λi J=>J=nY ((P.take i).map f)) (by rw[ll];exact big _ (by lia)) trivial rfl ?_ ?_
 ·rintro i y J hy rfl;rcases yn hy with⟨c,x,ex,rfl⟩|⟨c,B,eB,rfl⟩
  ·refine xa hd (qo (vp x (Aw ex)) ⟨_,DW _,rfl,?_⟩);rw[A3,ex,Ak,gc];rfl
  ·have e1:P.take (i+1)=P.take i:=by rw[A5 (by lia),A5 c]
   have z:gi (λJ L'=>L'=L/\J=nY ((P.take (i+1)).map f)) (nY ((P.take i).map f)) L:=⟨_,DW _,rfl,by rw[e1]⟩;rw[dJ B];exact z
 rintro J rfl p1 h1;rw[ll,A5 (by lia)];walk_at "w";rw[e0];intro p2 h2;have s1:=By (o:=.lst (nY (P.map f))) h1;have s2:=s1.trans (By (o:=.lst [Y.str g]) h2);refine⟨_,_,q8,By h2 _ _ q8,?_,λp3 h3=>?_⟩
 ·rw[wb,Ab];exact Bf (big _ (by show 1+P.length<=20000;lia))
 have s3:=s2.trans (By (o:=.lst ([Y.str g]++nY (P.map f))) h3);have g3:∀{o},qh (qh (qh L p1 (.lst (nY (P.map f)))) p2 (.lst [Y.str g])) p3 o p3=some o:=q8;refine⟨yM _ _,?_⟩;rw[sv];have g3:=g3 (o:=.lst ([Y.str g]++nY (P.map f)));generalize qh (qh (qh L p1 (.lst (nY (P.map f)))) p2 (.lst [Y.str g])) p3 (.lst ([Y.str g]++nY (P.map f)))=L3 at s3 g3 ⊢;refine cw (λi J=>J=(l.take (i-P.length)).map λB=>qj (pO f B)) (by rw[ll];exact big _ (by lia)) trivial (by rw[Nat.zero_sub];rfl) ?_ ?_
 ·rintro i y J hy rfl;rcases yn hy with⟨c,x,ex,rfl⟩|⟨c,B,eB,rfl⟩
  ·exact⟨_,DW _,rfl,by rw[Nat.sub_eq_zero_of_le c,Nat.sub_eq_zero_of_le (Bf c)]⟩
  ·obtain⟨h1,h2⟩:=va B (Aw eB);have z:cI n [qj B,.ref d] L3 λz L4=>gi (λJ L'=>L'=L3/\J=(l.take (i+1-P.length)).map λB=>qj (pO f B)) (((l.take (i-P.length)).map λB=>qj (pO f B))++[z]) L4:=by refine⟨B,d,t,f,rfl,s3 _ _ hd,h2,h1,_,DW _,rfl,?_⟩;rw[Nat.succ_sub c,A3,eB,Ak];rfl
   rw[dJ B] at z ⊢;exact z
 rintro J rfl p4 h4;rw[ll,DC,A6];refine⟨_,_,(qb (k7 g3 h4)).trans g3,q8,?_,λp5 h5=>?_⟩
 ·rw[Ad,wb,Ab,Ab];exact Bf (big _ (by show 1+P.length+l.length<=20000;lia))
 exact qr q8 (wr ((s3.trans (By h4)).trans (By h5)) T)
theorem SR.pl{E:List Nat}(h:SR ks R E):∀B∈jg R,∀x∈y9 B,x<ks.length:=λB U x J=>by
 obtain⟨⟨r,s⟩,_⟩:=h.rls B U;have l:=s.lt;cases s with
 |link=>exact l x J
 |ei=>rw[Aj.mp J];exact l _ (Af ..)
 |bo=>rw[Aj.mp J];exact l _ (Af ..)
 |cu g j o p=>
  rcases Am.mp J with rfl|J
  ·exact l _ (Ar _ (g.sub _ o))
  ·rw[Aj.mp J];exact l _ (Ae _ (j.sub _ p))
def ai2(f:Nat->Nat):Kn->Kn
 |.lf t n=>.lf t n
 |.nd e i j=>.nd e (f i) (f j)
theorem aam(f:Nat->Nat)(k:Kn):iY f (some k)=some (ai2 f k):=by cases k<;>rfl
def gU(Pt:Addr):jn:=λys L Q=>∃a,∃ks:List Kn,∃R:Ru,∃E:List Nat,∃s:Int,ys=[.ref a,qj R,.int s]/\L a=some (.lst (ji ks))/\dZ ks/\SR ks R E/\(qk R).Perm (List.range ks.length)/\ks.length<=63/\L Pt=some (.tb lamQ)/\
 ∀w f iA,L w=none->iA.length=ks.length->Ren f (ks.map some) (iA.map some)->Q (.tup [.ref w,qj (pO f R)]) (qh L w (.lst (ji iA)))
theorem vX :∀ys L Q,gU Pt ys L Q->xl (o5 (jE Pt) (cI 120)) 7 ys L Q:=by
 rintro ys L Q ⟨a,T,R,E,s,rfl,ha,aH,sr,tp,hz,hP,q⟩;have big:=bg_;obtain⟨l,o⟩:∃l,l=T.map some:=⟨_,rfl⟩;have aL:l.length=T.length:=by rw[o,Ab]
 have ok:OkO l:=by rw[o];exact agi aH
 have bd:L a=some (.lst (aM l)):=by rw[o,au];exact ha
 intro d hd w hw;have a4:L w=none:=jf hw;have a0:d≠w:=k7 q8 hw;have s0:qf L (qh (qh L d (.dct [])) w (.lst [])):=(By hd).trans (By hw);refine⟨a,T,s,rfl,s0 _ _ ha,by rw[<-o];exact ok,by lia,s0 _ _ hP,λD J hD pm pf=>?_⟩;rw[<-o] at pm pf;have bf:L D=none:=jf (jf hD);have a5:w≠D:=k7 q8 hD;have ag:d≠D:=k7 ((qb a0).trans q8) hD;have lq:J.length=l.length:=by rw[pm.length_eq,Bq]
 have ba:J.Nodup:=pm.nodup_iff.mpr Cp;have mq:∀p∈J,p<l.length:=λp hp=>Bc.mp (pm.mem_iff.mp hp);have G0:ans L l J d w D 0 0 (λ_=>0) (([]:List Kn).map some) [] (qh (qh (qh L d (.dct [])) w (.lst [])) D (.lst (nY J))):=
  ⟨s0.trans (By hD),(qb ag).trans ((qb a0).trans q8),(qb a5).trans q8,q8,Al _,λp=>rfl,Gap.nil _ _,Al _⟩
 refine jx q8 λkeep kp=>vj ⟨λi τ C=>∃f,∃j:List Kn,∃U c5 c6,τ=[some (.ref a),some (qj R),some (.int s),some (.ref d),some (.ref w),c5,c6]/\ans L l J d w D i 0 f (j.map some) U C/\j.length=i,⟨_,[],_,_,_,rfl,G0,rfl⟩,?_,?_,?_⟩
 ·rintro i τ C ⟨f,j,U,c5,c6,rfl,G,_⟩;exact kp C (by rw[G.hD,q8])
 ·rintro i y τ C hy ⟨f,j,U,c5,c6,rfl,G,lm⟩;obtain⟨p,ep,rfl⟩:=ie hy;have hi:=j6 ep;have hp:p<l.length:=mq p (Aw ep);obtain⟨k,hk⟩:∃k,T[p]?=some k:=⟨_,Ag (by lia)⟩;have al:l[p]?=some (some k):=by rw[o,An,hk];rfl
  have pn:p∉J.take i:=λhm=>by
   have e2:J=J.take i++p::J.drop (i+1):=by rw[Ag hi] at ep;rw[<-AN ep,BU,A7]
   have nd:=ba;rw[e2] at nd;exact(Au.mp nd).2.2 p hm p (Af ..) rfl
  have et:J.take (i+1)=J.take i++[p]:=by rw[A3,ep];rfl
  have a1:∀e i' j',some k=some (.nd e i' j')->i'∈J.take i/\j'∈J.take i:=λe i' j' z=>mP ok pm pf ep (by rw[al,z]);have a2:∀x∈J.take i,∀e i' j',l[x]?=some (some (.nd e i' j'))->i'∈J.take i/\j'∈J.take i:=λx hx e i' j' z=>by
   obtain⟨n,hn⟩:=Cb hx;have bb:=j6 hn;rw[A1] at bb;rw[Dt (by lia)] at hn;obtain⟨h1,h2⟩:=mP ok pm pf hn z;have sb:∀y,y∈J.take n->y∈J.take i:=λy hy=>by
    have:J.take n=(J.take i).take n:=by rw[List.take_take,B5 (by lia)]
    rw[this] at hy;exact Cc hy
   exact⟨sb _ h1,sb _ h2⟩
  have ar:C w=some (.lst (ji j)):=by rw[G.hw,au]
  have vp:∀y:Nat,wn (iw U (.inl (p:Int)) (.int ((j.length:Nat):Int))) (.inl (y:Int))=if y∈J.take i++[p] then some (.int (((if y=p then j.length else f y):Nat):Int)) else none:=λy=>by
   rw[tN];by_cases e:y=p
   ·subst e;rw[AF rfl,AF rfl,AF (Ae _ (Aj.mpr rfl))]
   ·rw[AG (λz=>e (Cg.mp (Sum.inl.inj z))),AG e,G.val];by_cases h:y∈J.take i
    ·rw[AF h,AF (Ar _ h)]
    ·rw[AG h,AG λz=>(Ap.mp z).elim h λz=>e (Aj.mp z)]
  have kl:=G.len;have I:(ji j).length=j.length:=Ab ..;refine qc ar ?_;rw[I];refine xa G.hd ⟨big _ (by lia),?_⟩;have bc:a≠d:=k7 ha hd;refine qc ((qb bc).trans (G.sub _ _ ha)) (qo (jy hk) ?_);have a3:qh C d (.dct (iw U (.inl (p:Int)) (.int ((j.length:Nat):Int)))) w=some (.lst (ji j)):=(qb (AI a0)).trans ar;have hb:∀x∈J.take i,x<l.length:=λx hx=>mq x (Cc hx);have em:(j++[ai2 f k]).map some=j.map some++[iY f (some k)]:=by rw[aam,Ak];rfl
  have done:gi (λτ C=>∃f,∃j:List Kn,∃U c5 c6,τ=[some (.ref a),some (qj R),some (.int s),some (.ref d),some (.ref w),c5,c6]/\ans L l J d w D (i+1) 0 f (j.map some) U C/\j.length=i+1) [some (.ref a),some (qj R),some (.int s),some (.ref d),some (.ref w),some (.int (p:Int)),some (m9 k)] (qh (qh C d (.dct (iw U (.inl (p:Int)) (.int ((j.length:Nat):Int))))) w (.lst (ji j++[m9 (ai2 f k)]))):=by
   refine⟨_,DW _,λx=>if x=p then j.length else f x,j++[ai2 f k],_,_,_,rfl,⟨(G.sub.upd hd).upd a4,(qb a0).trans q8,?_,(qb (AI a5)).trans ((qb (AI ag)).trans G.hD),?_,λy=>?_,?_,?_⟩,by rw[Ad,lm];rfl⟩
   ·rw[q8,au];unfold ji;rw[Ak];rfl
   ·have:=fQ U (.inl (p:Int)) (.int ((j.length:Nat):Int));lia
   ·rw[et];exact vp y
   ·rw[et,em];have:=G.gap.step hb pn al a2 a1;rw[Ab] at this;exact this
   ·rw[Ab,Ad,lm];show i+1<=_;lia
  refine qc a3 ?_;cases k with
  |lf t n=>exact qr a3 ⟨by rw[I];exact big _ (by lia),done⟩
  |nd e p1 p2=>
   obtain⟨m1,m2⟩:=a1 e p1 p2 rfl;have v1:=vp p1;have v2:=vp p2;rw[AF (Ar _ m1),AG λ(z:p1=p)=>pn (z▸m1)] at v1;rw[AF (Ar _ m2),AG λ(z:p2=p)=>pn (z▸m2)] at v2;refine xa ((q8:qh C d _ d=some _)) (qo v1 ?_);refine xa ((q8:qh C d _ d=some _)) (qo v2 ?_);exact qr a3 ⟨by rw[I];exact big _ (by lia),done⟩
 ·rintro τ C ⟨f,j,U,c5,c6,rfl,G,lm⟩;have eq:(nY J).length=J.length:=Ab ..;rw[eq] at G lm;have et:J.take J.length=J:=A6;have val:∀p,p<l.length->wn U (.inl (p:Int))=some (.int (f p:Int)):=λp hp=>by rw[G.val,et,AF (pm.mem_iff.mpr (Bc.mpr hp))]
  have gap:Gap l (List.range l.length) f (j.map some):=by have g:=G.gap;rw[et] at g;exact⟨λp hp=>g.at_ p (pm.mem_iff.mpr hp),λp hp r hr=>g.inj p (pm.mem_iff.mpr hp) r (pm.mem_iff.mpr hr),λx k hx=>let ⟨r,hr,e⟩:=g.only x k hx;⟨r,pm.mem_iff.mp hr,e⟩,g.ok⟩
  have rd:=jo R;have tl:=tp.length_eq;rw[Bq] at tl;refine⟨R,d,U,f,rfl,G.hd,λB hB x hx=>val x (by rw[aL];exact sr.pl B hB x hx),by lia,?_⟩;refine wr (EW G.sub (by rw[G.hw,au])) (q w f j a4 (by lia) ⟨by rw[<-o];exact gap,by rw[Ab,Ab];lia⟩)
def aiq(J:jn)(p1:jn)(p2:jn)(p3:jn)(p4:jn)(p5:jn):ku:=(qt (zg (ju zb) (qe 3))
 (qt (zg (ju zb) (qe 4))
 (qt (dU (eW (qa 0)) (aJ 2 (zq (qe 5) (zq (qe 6) wv))) (qt (ajz 7 8 (qd (qz J (qd (qa 6) (aW (qa 5) (jl 48271)))) (qd (qz J (qd (qa 6) (aW (qa 5) (jl 69621)))) zb)))
 (qt (xt (yB (zk yGt (zk km (zk km (cq 3) (cq 4)) (jl 12)) (qa 2))) akz jv)
 (qt (zg (zk w5 (qa 7) (jl 9)) (qe 9))
 (qt (zg (zk az (qa 7) (jl 9)) (qe 7))
 (xt (yOr (yB (zk yLt (qa 9) (jl 3))) (gd (qa 4) (ju zb))) (qt (jr (aj jc (qa 3) (qd (k8 (qd (dg "plain") (qd (qz p1 (qd (qa 1) (qd (zk w5 (qa 8) (jl 3)) zb))) zb))) zb)))
 (qt (jr (aj jc (qa 3) (qd (k8 (qd (dg "turned") (qd (qz p1 (qd (qa 1) (qd (zk w5 (qa 8) (jl 3)) zb))) zb))) zb)))
 (m7 (xt (gd (zk w5 (qa 7) (jl 2)) (jl 1)) (jr (aj jc (qa 3) (qd (aj dN (qa 3) (qd (zk gY (cq 3) (jl 2)) zb)) zb))) jv)
 (qt (zg (zk gY (cq 3) (jl 2)) (qe 10))
 (jr (aj jc (qa 4) (qd (ju (qd (k8 (qd (dg "link") (qd (qa 10) (qd (zk km (qa 10) (jl 1)) zb)))) (qd (ju (qd (qa 10) (qd (zk km (qa 10) (jl 1)) zb))) zb))) zb))))))) (xt (yB (zk yLt (qa 9) (jl 6))) (jr (qz p2 (qd (qa 3) (qd (zk ai (qa 4) (zk w5 (qa 8) (cq 4))) (qd (qa 7) (qd (zk az (qa 8) (jl 64)) zb)))))) (xt (vJ (yB (zk yLt (qa 9) (jl 8))) (yB (zk yGt (cq 4) (jl 1)))) (jr (qz p3 (qd (qa 3) (qd (qa 4) (aW (qa 7) (qa 8)))))) (jr (qz p4 (qd (qa 3) (qd (qa 4) (aW (qa 7) (qa 8))))))))))))))
 (m7 (xt (gd (qa 4) (ju zb)) (qt (jr (aj jc (qa 3) (qd (k8 (qd (dg "turned") (qd (qz p1 (aW (qa 1) (jl 0))) zb))) zb)))
 (qt (jr (aj jc (qa 3) (qd (k8 (qd (dg "plain") (qd (qz p1 (aW (qa 1) (jl 0))) zb))) zb)))
 (jr (aj jc (qa 4) (qd (ju (qd (k8 (qd (dg "link") (aW (jl 0) (jl 1)))) (qd (ju (aW (jl 0) (jl 1))) zb))) zb))))) jv)
 (qt (eQ (yB (zk yGt (cq 4) (jl 1))) (jr (qz p3 (qd (qa 3) (qd (qa 4) (qd (zk km (zk az (qa 1) (jl 7)) (cq 4)) (qd (zk az (qa 1) (jl 3)) zb)))))))
 (jb (qz p5 (qd (qa 3) (qd (zk ai (x4 4 0) (jl 0)) (xu (qa 1)))))))))))
def mo(Pt:Addr):jn:=λys L Q=>∃J,∃U:List Int,∃s:Int,∃room:Nat,ys=[.ref J,.int s,.int (room:Int)]/\L J=some (.lst (U.map Y.int))/\U.length<=1000/\room<=60/\L Pt=some (.tb lamQ)/\
 ∀w ks R E,L w=none->TrO ks R E->(qk R).Perm (List.range ks.length)->Q (.tup [.ref w,qj R]) (qh L w (.lst (ji ks)))
theorem ae0 :∀ys L Q,mo Pt ys L Q->xl (aiq mV m8 mX rH rB (gU Pt)) 11 ys L Q:=by
 rintro ys L Q ⟨cy,ns,s,room,rfl,a5,bf,bb,hP,q⟩;have big:=bg_;have g:∀fo:List Tr,(zn fo).length=fo.length:=λfo=>Ab ..;have C:∀J:List Kn,(ji J).length=J.length:=λJ=>Ab ..;intro U ag l al;have nkf:U≠l:=k7 q8 al;have aH:L l=none:=(By ag).none al;have F0:ou L (qh (qh L U (.lst [])) l (.lst [])) U l [] []:=by
  refine⟨⟨by rw[qb nkf];exact q8,λt ht=>by simp at ht,λt ht=>by simp at ht,by simp,by simp,by simp[nkf],λp k e=>by simp at e,(By ag).trans (By al),λx hx=>?_⟩,q8⟩;rcases Am.mp hx with rfl|hx
  ·exact ag
  ·rw[Aj.mp hx];exact aH
 generalize qh (qh L U (.lst [])) l (.lst [])=L1 at F0;refine jx (F0.b.sub _ _ a5) λkeep kp=>vj ⟨λ_ τ L'=>TW L U l s room τ L',?_,?_,?_,?_⟩
 ·exact TW.of F0 (Bd _)
 ·rintro i τ L' ⟨c0,c5,c6,c7,c8,c9,cr,J,fo,rfl,F,hb⟩;exact kp L' (by rw[F.b.sub _ _ a5,F0.b.sub _ _ a5])
 ·rintro i y τ L' ey ⟨c0,c5,c6,c7,c8,c9,cr,J,fo,rfl,F,hb⟩;obtain⟨z,ez,rfl⟩:=cD ey;obtain⟨cell,ec,rfl⟩:∃cell:Int,ns[i]?=some cell/\z=Y.int cell:=by rw[An] at ez;obtain⟨z,e1,e2⟩:=Ao.mp ez;exact⟨z,e1,e2.symm⟩
  have hi:=(AV.mp ec).1;refine⟨cell,((i:Nat):Int),48271,rfl,by exact A9 _,by omega,by decide,by decide,λone h1 bg=>⟨cell,((i:Nat):Int),69621,rfl,by exact A9 _,by omega,by decide,by decide,λtwo h2 bh=>?_⟩⟩;refine qc F.b.hk (qc F.hf ?_);refine xn (λc=>?_) λc=>?_
  ·exact⟨_,DW _,TW.of F hb⟩
  have c:¬((((ji J).length:Nat):Int)+(((zn fo).length:Nat):Int)+12 > (room:Int)):=c;rw[C,g] at c;refine⟨(by decide:(0:Int)<9),⟨by decide,by decide⟩,?_⟩;refine xn (λc3=>?_) λc3=>?_
  case' refine_1=>
   obtain⟨L2,aL⟩:∃L2,L2=L':=⟨_,rfl⟩;rw[<-aL];have F':ou L L2 U l J fo:=by rw[aL];exact F
  case' refine_2=>
   intro p hp;refine wf (by decide) (By hp _ _ F.hf) q8 ((F.b.mono (By hp)).dats (by lia)) (.nil:Paired (jd _ 0) _ []) ?_;show wq (Da.eqs (fo.map fi) []) _ _;rw[yR];have F':ou L (qh L' p (.lst [])) U l J fo:=F.mono (By hp);generalize qh L' p (.lst [])=L2 at F';refine xn (λc0=>?_) λc0=>?_
  case' refine_2.refine_2=>
   have bc:0<fo.length:=by cases fo with|nil=>exact absurd rfl c0|cons _ _=>simp
   have F:=F';refine xn (λc6=>?_) λc6=>?_
   ·obtain⟨j,t,ej,lj,et⟩:=jP bc two;refine qc F.hf ⟨(by show(0:Int)<((zn fo).length:Int);rw[g];lia),qc F.hf (qo (v:=.ref t.a) (by show iL (zn fo) (two % ((zn fo).length:Int))=_;rw[g,ej];exact xq (by unfold zn;rw[An,et];rfl)) ?_)⟩;obtain⟨pre,post,ep⟩:=CK (Aw et);rw[ep] at F hb;refine⟨⟨by decide,by decide⟩,L,U,l,J,pre,post,t,one / 9,two / 64,rfl,F,by lia,λL3 I a0 F3 h1 h2 _=>?_⟩;refine⟨_,DW _,?_⟩;exact TW.of F3 (by rw[ep] at c;lia)
   refine xn (λc8=>?_) λc8=>?_
   ·refine qc F.hf ?_;refine xn (λc1=>?_) λc1=>?_
    ·have c1:(((zn fo).length:Nat):Int) > 1:=c1;rw[g] at c1;refine⟨L,U,l,J,fo,one / 9,two,rfl,F,by lia,by lia,by lia,λL3 I a0 F3 h1 h2 _=>?_⟩;refine⟨_,DW _,?_⟩;exact TW.of F3 (by lia)
    ·refine⟨L,U,l,J,fo,one / 9,two,rfl,F,by assumption,by lia,by lia,λL3 I a0 F3 h1 h2 h3=>?_⟩;refine⟨_,DW _,?_⟩;exact TW.of F3 (by lia)
   ·refine⟨L,U,l,J,fo,one / 9,two,rfl,F,by lia,by lia,by lia,λL3 I a0 F3 h1 h2 h3=>?_⟩;refine⟨_,DW _,?_⟩;exact TW.of F3 (by lia)
  all_goals
   obtain⟨nm,a1⟩:∃nm,nm=mkS (av s (two % 3)):=⟨_,rfl⟩;have ar:fO nm:=by rw[a1];exact u4 _ _
   refine qc F'.b.hk ⟨(by decide:(0:Int)<3),s,two % 3,rfl,qr F'.b.hk ⟨big _ (by rw[C];omega),?_⟩⟩;refine qc q8 ⟨(by decide:(0:Int)<3),s,two % 3,rfl,qr q8 ⟨big _ (by rw[Ad,C];simp;omega),?_⟩⟩;rw[<-a1,xz];have e1:(ji J++[.tup [.str "plain",.str nm]])++[.tup [.str "turned",.str nm]]=ji (J++[.lf false nm,.lf true nm]):=by unfold ji;rw[Ak,AD];rfl
   rw[e1];refine⟨λτ L3=>∃(b:Bool) (d0 d10:Option Y),τ=[d0,some (.int s),some (.int (room:Int)),some (.ref U),some (.ref l),some (.int ((i:Nat):Int)),some (.int cell),some (.int (one / 9)),some (.int two),some (.int (one % 9)),d10]/\L3=qh L2 U (.lst (ji (J++[.lf b nm,.lf (!b) nm]))),?_,?_⟩
   ·refine⟨(by decide:(0:Int)<2),?_⟩;show wq (decide (one / 9 % 2=1)) _ _;refine xn (λc2=>?_) λc2=>?_
    ·have l2:(ji (J++[Kn.lf false nm,.lf true nm])).length=J.length+2:=by rw[C,Ad];rfl
     have t2:((((ji (J++[Kn.lf false nm,.lf true nm])).length:Nat):Int)-2).toNat=J.length:=by rw[l2];omega
     refine qc q8 (qc q8 (qc q8 (qr q8 ⟨?_,?_,qo (v:=m9 (.lf false nm)) ?_ ?_⟩)))
     ·show(0:Int)<=(((ji (J++[Kn.lf false nm,.lf true nm])).length:Nat):Int)-2;rw[l2];omega
     ·show(((ji (J++[Kn.lf false nm,.lf true nm])).length:Nat):Int)-2<_;omega
     ·show(ji (J++[Kn.lf false nm,.lf true nm]))[((((ji (J++[Kn.lf false nm,.lf true nm])).length:Nat):Int)-2).toNat]?=_;rw[t2];unfold ji;rw[An,fJ];rfl
     ·rw[xz];refine qr q8 ⟨big _ ?_,?_⟩
      ·refine AU (CM ..) ?_;show(ji (J++[Kn.lf false nm,.lf true nm])).length<=20000;rw[l2];omega
      ·refine⟨true,_,_,rfl,?_⟩;rw[xz];have e3:(ji (J++[Kn.lf false nm,.lf true nm])).eraseIdx ((((ji (J++[Kn.lf false nm,.lf true nm])).length:Nat):Int)-2).toNat++[m9 (.lf false nm)]=ji (J++[.lf true nm,.lf false nm]):=by rw[t2];unfold ji;rw[Ak,List.eraseIdx_append_of_length_le (by simp),Ab,B9,Ak,AD];rfl
       rw[e3];rfl
    ·exact⟨false,_,_,rfl,rfl⟩
   ·rintro bi L3 ⟨b,d0,d10,rfl,rfl⟩;have l2:(ji (J++[Kn.lf b nm,.lf (!b) nm])).length=J.length+2:=by rw[C,Ad];rfl
    have nn:(((ji (J++[Kn.lf b nm,.lf (!b) nm])).length:Nat):Int)-2=((J.length:Nat):Int):=by rw[l2];omega
    have a2:qh L2 U (.lst (ji (J++[.lf b nm,.lf (!b) nm]))) l=some (.lst (zn fo)):=by rw[qb (AI nkf)];exact F'.hf
    have en:∀z:Int,z=((J.length:Nat):Int)->zf [J.length,J.length+1]=[.int z,.int (z+1)]:=λz e=>by rw[e];rfl
    have er:∀z:Int,z=((J.length:Nat):Int)->qj (.link J.length (J.length+1))=.tup [.str "link",.int z,.int (z+1)]:=λz e=>by rw[e];rfl
    have en:=en _ nn;have er:=er _ nn;refine qc q8 (qc a2 λpb a3 pa a4=>?_);have H:=F'.link ar b (pb:=pb) (pa:=pa) a3 (by rw[en];exact a4) rfl;refine qr (((By a3).trans (By a4)) _ _ a2) ⟨big _ (by rw[g];omega),?_⟩;rw[en,er] at H;refine⟨_,DW _,?_⟩;exact TW.of H (by rw[Ad,Ad];simp;omega)
 ·rintro τ L' ⟨c0,c5,c6,c7,c8,c9,cr,J,fo,rfl,F,hb⟩;refine⟨λτ L3=>∃c0 c5 c6 c7 c8 c9 cr J fo,τ=[c0,some (.int s),some (.int (room:Int)),some (.ref U),some (.ref l),c5,c6,c7,c8,c9,cr]/\ou L L3 U l J fo/\1<=fo.length/\J.length+fo.length<=max room 3,?_,?_⟩
  ·intro p hp;refine wf (by decide) (By hp _ _ F.hf) q8 ((F.b.mono (By hp)).dats (by lia)) (.nil:Paired (jd _ 0) _ []) ?_;show wq (Da.eqs (fo.map fi) []) _ _;rw[yR];have F':ou L (qh L' p (.lst [])) U l J fo:=F.mono (By hp);generalize qh L' p (.lst [])=L2 at F';refine xn (λc0=>?_) λc0=>?_
   ·subst c0;have k0:J=[]:=by cases J with|nil=>rfl|cons k r=>exact absurd ((F.b.tm 0).mpr (by simp)) (by simp)
    subst k0;obtain⟨nm,a1⟩:∃nm,nm=mkS (av s 0):=⟨_,rfl⟩;have ar:fO nm:=by rw[a1];exact u4 _ _
    refine qc F'.b.hk ⟨s,0,rfl,qr F'.b.hk ⟨big _ (by decide),?_⟩⟩;refine qc q8 ⟨s,0,rfl,qr q8 ⟨big _ (by show 1<=20000;decide),?_⟩⟩;rw[<-a1,xz];have a2:∀o,qh L2 U o l=some (.lst (zn [])):=λo=>by rw[qb (AI nkf)];exact F'.hf
    refine qc (a2 _) λpb a3 pa a4=>?_;have H:=F'.link ar true (pb:=pb) (pa:=pa) a3 a4 rfl;refine qr (((By a3).trans (By a4)) _ _ (a2 _)) ⟨big _ (by show 0<=20000;decide),?_⟩;exact⟨_,_,_,_,_,_,_,_,_,rfl,H,by simp,by simp;lia⟩
   ·exact⟨_,_,_,_,_,_,_,J,fo,rfl,F',(by cases fo with|nil=>exact absurd rfl c0|cons _ _=>simp),by lia⟩
  ·rintro τ L' ⟨c0,c5,c6,c7,c8,c9,cr,J,fo,rfl,F,h1,hb⟩;refine⟨λm τ L3=>∃c0 c5 c6 c7 c8 c9 cr J fo,τ=[c0,some (.int s),some (.int (room:Int)),some (.ref U),some (.ref l),c5,c6,c7,c8,c9,cr]/\ou L L3 U l J fo/\1<=fo.length/\fo.length=m/\J.length+fo.length<=max room 3,⟨_,_,_,_,_,_,_,_,_,_,rfl,F,h1,rfl,hb⟩,?_⟩;rintro m τ L' ⟨c0,c5,c6,c7,c8,c9,cr,J,fo,rfl,F,h1,hm,hb⟩;refine qc F.hf ?_;refine xn (λc1=>?_) λc1=>?_
   ·have c1:(((zn fo).length:Nat):Int) > 1:=c1;rw[g] at c1;refine⟨λτ L3=>∃c0 c5 c6 c7 c8 c9 cr J fo,τ=[c0,some (.int s),some (.int (room:Int)),some (.ref U),some (.ref l),c5,c6,c7,c8,c9,cr]/\ou L L3 U l J fo/\1<=fo.length/\fo.length+1=m/\J.length+fo.length<=max room 3,?_,?_⟩
    ·rintro τ L3 ⟨d0,d5,d6,d7,d8,d9,d10,I,a0,rfl,F3,g1,g2,g3⟩;exact⟨m-1,by lia,_,_,_,_,_,_,_,_,_,rfl,F3,g1,by lia,g3⟩
    ·refine⟨⟨by decide,by decide⟩,qc F.hf ⟨⟨by decide,by decide⟩,L,U,l,J,fo,_,_,rfl,F,by lia,by lia,by lia,λL3 I a0 F3 g1 g2 _=>?_⟩⟩;exact⟨_,DW _,_,_,_,_,_,_,_,I,a0,rfl,F3,by lia,by lia,by lia⟩
   ·have c1:¬((((zn fo).length:Nat):Int) > 1):=c1;rw[g] at c1;obtain⟨t,rfl⟩:∃t,fo=[t]:=by
     match fo,h1,c1 with
     |[t],_,_=>exact⟨t,rfl⟩
     |t::u::r,_,c=>exact absurd (show(((t::u::r).length:Nat):Int) > 1 by simp;lia) c
    have ta:=(F.b.ht t (Af ..)).1;refine qc F.hf (qc ta ?_);have tp:(qk t.R).Perm (List.range J.length):=by have nd:=F.b.nd;have tm:=F.b.tm;simp at nd tm;exact(A8 nd Cp).mpr λx=>by rw[tm,Bc]
    have sr:=F.b.sr t (Af ..);have hk:J.length<=63:=by simp at hb;lia
    refine⟨U,J,t.R,t.E,s,rfl,F.b.hk,F.b.ok,sr,tp,hk,F.b.sub _ _ hP,λw f I ba lk rn=>?_⟩;obtain⟨T,bd⟩:=TrO.ren F.b.ok sr tp (by lia) rn lk;exact wr (EW (F.b.sub.trans (By ba)) q8) (q w I _ _ (F.b.sub.none ba) T bd)
def vH:Option Kn->Da
 |none=>.s .non
 |some (.lf t n)=>.tup [.s (.str (kL t)),.s (.str n)]
 |some (.nd e i j)=>.tup [.s (.str (kN e)),.s (.int ((i:Nat):Int)),.s (.int ((j:Nat):Int))]
theorem ajr :∀k:Option Kn,jd L 1 (wP k) (vH k)
 |none=>.inl ⟨rfl,rfl⟩
 |some (.lf t n)=>aB (.cons (EN _) (.cons (EN _) .nil))
 |some (.nd e i j)=>aB (.cons (EN _) (.cons (EJ _) (.cons (EJ _) .nil)))
theorem dW{L:qu}:∀wd:List (Option Kn),Paired (jd L 1) (aM wd) (wd.map vH)
 |[]=>.nil
 |k::r=>.cons (ajr k) (dW r)
theorem rE:∀wd:List (Option Kn),Da.eqs (wd.map vH) (wd.map vH)=true
 |[]=>rfl
 |k::r=>by
  have:Da.eq (vH k) (vH k)=true:=by cases k with|none=>rfl|some k=>cases k<;>simp[vH,Da.eq,Da.eqs,kH]
  rw[AE,Da.eqs,this,rE r];rfl
theorem tU(J:List Int)(lo hi:Option Int):∃ms:List Int,gb (J.map Y.int) lo hi=ms.map Y.int/\ms.length<=J.length:=by unfold gb;refine⟨(J.drop (HT.sIx (J.map Y.int).length 0 lo)).take (HT.sIx (J.map Y.int).length (J.map Y.int).length hi-HT.sIx (J.map Y.int).length 0 lo),by rw[List.map_take,List.map_drop],?_⟩;rw[A1,CA];lia
end L3
namespace L2
open PySem PySem.Spec PyProof.Rows
section
variable {w:World}
theorem sj{Q:Option Obj->Shared->Prop}(h:Q (s.heap.get? a) s):wpAny M A (loadIfAlive a) Q E s:=by intro U J p;simp only[loadIfAlive,Sem.wp_loadIfAlive];exact h
abbrev i7(h:Heap)(z TI TO t:Addr)(b:Bool):Prop:=h.get? z=some { cls:=.type "zip",dict:=none,data:=.fields #[rawInt t,.bool b,.bool false,.ref TI,.ref TO],slots:=#[] }
theorem uu{TI TO t:Addr}{b:Bool}{o:Obj}{Q:Bool->Shared->Prop}(hz:i7 s.heap z TI TO t b)(J:s.heap.get? t=some o)(q:∀h',i7 h' z TI TO t true->Heap.SameBut z s.heap h'->Q false { s with heap:=h' }):
 wpAny (model prog w) A (Builtin.SmallTypes.ownedTupleIsFree (.ref z)) Q E s:=by
 unfold Builtin.SmallTypes.ownedTupleIsFree;refine Aa (AX hz rfl (x:=rawInt t) rfl ?_);show wpAny _ _ (loadIfAlive (t:Int).toNat >>= _) _ _ _;refine Aa (sj ?_);rw[AR,J];refine Aa (AX hz rfl (x:=.bool b) rfl ?_);cases b with
 |true=>
  dsimp only;rw[AG (by decide)];exact Ai (q s.heap hz ⟨rfl,λ_ _=>rfl⟩)
 |false=>
  dsimp only;rw[AF (by decide)];exact Aa (wpAny_setField_rec hz (by simp) λh' U g=>Ai (q h' U g))
theorem abh{TI TO t:Addr}{c:Bool}{o:Obj}{k:Nat}{xs ys:Array Value}{x y:Value}(D:ZAp z TI TO i1 i2 l1 l2)(hz:i7 s.heap z TI TO t c)(C:s.heap.get? t=some o)(I:IsPair s.heap TI (.ref i1) (.ref i2))
 (h1:df t1 s.heap i1 l1 k) (h2:df t2 s.heap i2 l2 k) (T:iX t1 s.heap l1 xs) (q2:iX t2 s.heap l2 ys) (hx:xs[k]?=some x) (hy:ys[k]?=some y)
 (q:∀h',i7 h' z TI TO t true->df t1 h' i1 l1 (k+1)->df t2 h' i2 l2 (k+1)->IsPair h' s.heap.objs.size x y->
  (∀c o,c≠z->c≠i1->c≠i2->s.heap.get? c=some o->h'.get? c=some o)->Q (.ref s.heap.objs.size) { s with heap:=h' }):
 wpAny (model prog w) A (Builtin.«zip.__next__» ⟨[.ref z],[]⟩) (λxi s'=>∃v,xi=.done (.ret v)/\Q v s') E s:=by
 refine Aa (m:=field (.ref z) 2) (AX hz rfl (x:=.bool false) rfl (Aa (m:=field (.ref z) 3) (AX hz rfl (x:=.ref TI) rfl (Aa (Bg I rfl ?_)))));refine Aa (m:=Builtin.SmallTypes.ownedTupleIsFree (.ref z)) (uu hz C λg1 z1 J=>?_);simp only[BD,if_false];refine Aa ?_;rw[<-Array.forIn_toList];simp only[B4,CT];refine Aa (Aa (AY (Aa (m:=Builtin.SmallTypes.nextOf (.ref i1)) ((h1.on λo e=>J.extBut _ _ D.n3 e).next (T.on λo e=>J.extBut _ _ D.n8 e) hx λg2 p U=>Ai (Ai ?_)))));refine Aa (Aa (AY (Aa (m:=Builtin.SmallTypes.nextOf (.ref i2)) (df.next (l:=l2) (i:=k) (xs:=ys) (x:=y) (t:=t2) (h2.on λo e=>U.extBut _ _ (AI D.n7) (J.extBut _ _ D.n4 e)) (q2.on λo e=>U.extBut _ _ D.n14 (J.extBut _ _ D.n12 e)) hy λg r j=>Ai (Ai (Ai ?_))))));refine Aa (wpAny_newTuple (Ai ⟨_,rfl,?_⟩) (by show 2<=sizeLine;decide));have sz:g.objs.size=s.heap.objs.size:=by rw[j.1,U.1,J.1]
 have k4:∀c o,c≠z->c≠i1->c≠i2->s.heap.get? c=some o->(g.push { cls:=.type "tuple",data:=.seq #[x,y] }).get? c=some o:=λc o a1 a3 a4 e=>r4 _ (j.extBut _ _ a4 (U.extBut _ _ a3 (J.extBut _ _ a1 e)));have xi:=q (g.push { cls:=.type "tuple",data:=.seq #[x,y] }) (r4 _ (j.extBut _ _ (AI D.n4) (U.extBut _ _ (AI D.n3) z1))) (p.on λo e=>r4 _ (j.extBut _ _ D.n7 e)) (r.on λo e=>r4 _ e)
  (by rw[<-sz];exact sy _ rfl) k4
 show Q (.ref g.objs.size) _;rw[sz];exact xi
theorem yw{TI TO t:Addr}{c:Bool}{o:Obj}{k:Nat}{xs ys:Array Value}{Q:Fin->Shared->Prop}(hh:A.handled=none)(D:ZAp z TI TO i1 i2 l1 l2)(hz:i7 s.heap z TI TO t c)(ht:s.heap.get? t=some o)(hI:IsPair s.heap TI (.ref i1) (.ref i2))
 (h1:df t1 s.heap i1 l1 k) (h2:df t2 s.heap i2 l2 k) (q1:iX t1 s.heap l1 xs) (q2:iX t2 s.heap l2 ys) (U:xs[k]?=none\/ys[k]?=none)
 (q:∀h' e,(∀c o,c≠z->c≠TO->c≠i1->c≠i2->s.heap.get? c=some o->h'.get? c=some o)->(∃o,h'.get? e=some o/\o.cls=.type "StopIteration")->E (.ref e) { s with heap:=h' }):
 wpAny (model prog w) A (Builtin.«zip.__next__» ⟨[.ref z],[]⟩) Q E s:=by
 refine Aa (m:=field (.ref z) 2) (AX hz rfl (x:=.bool false) rfl (Aa (m:=field (.ref z) 3) (AX hz rfl (x:=.ref TI) rfl (Aa (Bg hI rfl ?_)))));refine Aa (m:=Builtin.SmallTypes.ownedTupleIsFree (.ref z)) (uu hz ht λg1 z1 J=>?_);simp only[BD,if_false];refine Aa ?_;rw[<-Array.forIn_toList];simp only[B4,CT];refine Aa (Aa (AY (Aa (m:=Builtin.SmallTypes.nextOf (.ref i1)) ?_)));have g:=h1.on λo e=>J.extBut _ _ D.n3 e;have j:=q1.on λo e=>J.extBut _ _ D.n8 e;cases p:xs[k]? with
 |none=>exact df.stop hh g j p λg2 e s2 r=>q g2 e (λc o C _ I _ w=>s2 _ _ I (J.extBut _ _ C w)) r
 |some x=>
  have hy:ys[k]?=none:=by rcases U with h|h;rw[p] at h;cases h;exact h
  refine df.next g j p λg2 a0 T=>Ai (Ai ?_);refine Aa (Aa (AY (Aa (m:=Builtin.SmallTypes.nextOf (.ref i2)) (df.stop (t:=t2) (l:=l2) (i:=k) (xs:=ys) hh (h2.on λo e=>T.extBut _ _ (AI D.n7) (J.extBut _ _ D.n4 e)) (q2.on λo e=>T.extBut _ _ D.n14 (J.extBut _ _ D.n12 e)) hy λg4 e s4 r=>?_))));exact q g4 e (λc o C _ I a4 w=>s4 _ _ a4 (T.extBut _ _ I (J.extBut _ _ C w))) r
def ZS(t1 t2:Bool)(z TI TO i1 i2 l1 l2 B:Addr)(i:Nat)(h:Heap):Prop:=
 ((IsZip h z TI TO .none/\∃a b,IsPair h TO a b)\/∃t c u v,B<=t/\i7 h z TI TO t c/\IsPair h t u v)/\IsPair h TI (.ref i1) (.ref i2)/\df t1 h i1 l1 i/\df t2 h i2 l2 i
structure ZB(z TI TO i1 i2 l1 l2 B:Addr):Prop where
 ap:ZAp z TI TO i1 i2 l1 l2
 d1:TI≠TO
 d2:TI≠i1
 d3:TI≠i2
 lt:∀c∈[z,TI,TO,i1,i2],c<B
section
variable {TI TO B:Addr}{xs ys:Array Value}
theorem ZS.keep(st:ZS t1 t2 z TI TO i1 i2 l1 l2 B i h)(k:∀b o,b∈[z,TI,TO,i1,i2]\/B<=b->h.get? b=some o->h'.get? b=some o):ZS t1 t2 z TI TO i1 i2 l1 l2 B i h':=by
 obtain⟨U,g,j,l⟩:=st;refine⟨?_,k _ _ (.inl (by simp)) g,j.on λo e=>k _ o (.inl (by simp)) e,l.on λo e=>k _ o (.inl (by simp)) e⟩;rcases U with⟨a,u,v,b⟩|⟨t,c,u,v,J,a,b⟩
 ·exact .inl ⟨k _ _ (.inl (by simp)) a,u,v,k _ _ (.inl (by simp)) b⟩
 ·exact .inr ⟨t,c,u,v,J,k _ _ (.inl (by simp)) a,k _ _ (.inr J) b⟩
theorem ZS.type(st:ZS t1 t2 z TI TO i1 i2 l1 l2 B i s.heap):s.TypeIs (.ref z) "zip" := by
 rcases st.1 with⟨a,_⟩|⟨t,c,u,v,J,a,b⟩
 ·exact⟨_,a,rfl⟩
 ·exact⟨_,a,rfl⟩
theorem ahc{x y:Value}{Q:Option Value->Shared->Prop}(D:ZB z TI TO i1 i2 l1 l2 B)(hB:B<=s.heap.objs.size)(st:ZS t1 t2 z TI TO i1 i2 l1 l2 B i s.heap)(r:iX t1 s.heap l1 xs)(C:iX t2 s.heap l2 ys)(I:xs[i]?=some x)(T:ys[i]?=some y)
 (q:∀h',ZS t1 t2 z TI TO i1 i2 l1 l2 B (i+1) h'->IsPair h' s.heap.objs.size x y->(∀c o,c∉[z,TI,TO,i1,i2]->s.heap.get? c=some o->h'.get? c=some o)->Q (some (.ref s.heap.objs.size)) { s with heap:=h' }):
 wpAny (model prog w) A (pyNext (.ref z)) Q E s:=by
 have hT:=st.type;obtain⟨s1,g,s3,s4⟩:=st;unfold pyNext;refine Aa (wpAny_attempt (wpAny_callSpecial?_slot (name:="__next__") hT Eh (wpAny_call_entry Eh hT F.entry_zip_next ?_ (F.args_zip_next_1 _))));have ne:∀{c d:Addr},c∈[z,TI,TO,i1,i2]->B<=d->d≠c:=λh1 h2 z=>by have:=D.lt _ h1;rw[z] at h2;exact absurd h2 (Nat.not_le.mpr this)
 rcases s1 with⟨a,u,v,b⟩|⟨t,c,u,v,j,a,b⟩
 ·refine afm D.ap a g b s3 s4 r C I T λh' g1 g2 g3 p l U=>Ai (q h' ⟨.inr ⟨_,false,x,y,hB,g1,l⟩,U _ _ D.ap.n1 D.d1 D.d2 D.d3 g,g3,p⟩ l λc o J e=>?_);simp only[Am,Bs,or_false,not_or] at J;exact U c o J.1 J.2.2.1 J.2.2.2.1 J.2.2.2.2 e
 ·refine abh D.ap a b g s3 s4 r C I T λh' g1 g3 p l U=>Ai (q h' ⟨.inr ⟨t,true,u,v,j,g1,U _ _ (ne (by simp) j) (ne (by simp) j) (ne (by simp) j) b⟩,U _ _ D.ap.n1 D.d2 D.d3 g,g3,p⟩ l λc o J e=>?_);simp only[Am,Bs,or_false,not_or] at J;exact U c o J.1 J.2.2.2.1 J.2.2.2.2 e
theorem ajv{Q:Option Value->Shared->Prop}(j:A.handled=none)(D:ZB z TI TO i1 i2 l1 l2 B)(st:ZS t1 t2 z TI TO i1 i2 l1 l2 B i s.heap)(l:iX t1 s.heap l1 xs)(p:iX t2 s.heap l2 ys)(J:xs[i]?=none\/ys[i]?=none)
 (q:∀h',(∀c o,c∉[z,TI,TO,i1,i2]->s.heap.get? c=some o->h'.get? c=some o)->Q none { s with heap:=h' }):wpAny (model prog w) A (pyNext (.ref z)) Q E s:=by
 have r:=st.type;obtain⟨s1,C,I,s4⟩:=st;unfold pyNext;refine Aa (wpAny_attempt (wpAny_callSpecial?_slot (name:="__next__") r Eh (wpAny_call_entry Eh r F.entry_zip_next ?_ (F.args_zip_next_1 _))));have xi:∀h' e,(∀c o,c≠z->c≠TO->c≠i1->c≠i2->s.heap.get? c=some o->h'.get? c=some o)->(∃o,h'.get? e=some o/\o.cls=.type "StopIteration")->wpAny (model prog w) A (isInstance (.ref e) (.type "StopIteration") >>= λb=>if b=true then pure none else throw (.ref e)) Q E { s with heap:=h' }:=λh' e gk he=>by obtain⟨o,ho,g⟩:=he;refine Aa (wpAny_isInstance (T:="StopIteration") (b:=true) ⟨o,ho,g⟩ isSubtype_stop (Ai (q h' λc o U e=>?_)));simp only[Am,Bs,or_false,not_or] at U;exact gk c o U.1 U.2.2.1 U.2.2.2.1 U.2.2.2.2 e
 rcases s1 with⟨a,u,v,b⟩|⟨t,c,u,v,hb,a,b⟩
 ·exact aee j D.ap a C b I s4 l p J xi
 ·exact yw j D.ap a b C I s4 l p J xi
end
end
inductive u0:Hp->List Addr->List (V×V)->Hp->Prop
 |nil {H:Hp}:u0 H [] [] H
 |snoc {H H1:Hp} {ps:List Addr} {vs:List (V×V)} {p:Addr} {v:V×V}:u0 H ps vs H1->H1 p=none->u0 H (ps++[p]) (vs++[v]) (upd H1 p (.tup [v.1,v.2]))
theorem aem{o u:HO}(h:a≠b):upd (upd H a o) b u=upd (upd H b u) a o:=by
 funext c;by_cases J:c=a
 ·subst J;rw[qx h,zv,zv]
 ·by_cases U:c=b
  ·subst U;rw[zv,qx J,zv]
  ·rw[qx U,qx J,qx J,qx U]
theorem Sq.new{K:Ah}{p:Addr}{o:HO}(h:Sq t K H a xs)(J:H p=none):Sq t K (upd H p o) a xs:=by
 have rd:∀u,Rd H a u->Rd (upd H p o) a u:=λu r=>by
  rcases r with r|⟨c,r⟩
  ·exact .inl (by rw[qx (zy r J)];exact r)
  ·exact .inr ⟨c,by rw[qx (zy r J)];exact r⟩
 cases t with|false=>exact h.imp (rd _) id|true=>exact h.imp (rd _) id
section
variable {σ:L2.St}{TI TO S:Addr}{ys:List V}{R:Result->Shared->Prop}{res:Value}
theorem agv(hh:A.handled=none)(D:ZB z TI TO i1 i2 l1 l2 (S+1))(hS:S∉[z,TI,TO,i1,i2])(hR:∀s' G ps,zd X pins σ (upd G S (.lst (ps.map V.ref))) s'->u0 H ps (xs.zip ys) G->G S=none->R (.ok (.ret res)) s'):
 ∀(k i:Nat) (s:Shared) (G:Hp) (ps:List Addr),min xs.length ys.length-i=k->i<=min xs.length ys.length->zd X pins σ (upd G S (.lst (ps.map V.ref))) s->(∀b∈[z,TI,TO,i1,i2],lJ X pins (upd G S (.lst (ps.map V.ref))) b)->ZS t1 t2 z TI TO i1 i2 l1 l2 (S+1) i s.heap->u0 H ps ((xs.zip ys).take i) G->G S=none->Sq t1 X.K G l1 xs->Sq t2 X.K G l2 ys->ps.length=i->
  codeAny (model X.prog X.w) A (.builtin "list.extend.loop" ⟨[.ref S,.ref z,res],[]⟩) R s:=by
 have zl:(xs.zip ys).length=min xs.length ys.length:=CG;intro k
 induction k with
 |zero=>
  intro i s G ps hk hi I hf st nt j J U hl;have hi:min xs.length ys.length<=i:=by lia
  obtain⟨a1,p,p1,_⟩:=I.seq (J.new j);obtain⟨a2,t,p2,_⟩:=I.seq (U.new j);have e1:=p.length;have e2:=t.length;refine codeAny_builtin F.entry_extend_loop ?_;rw[Db DT _];rw[A5 (by lia)] at nt;refine Aa (m:=pyNext (.ref z)) (ajv hh D st p1 p2 (by rcases Nat.le_total xs.length ys.length with h|h;exact .inl (by simp;lia);exact .inr (by simp;lia)) λh' kk=>Ai (hR _ G ps (I.turnedL (t':=s.toks) (fp:=[z,TI,TO,i1,i2]) kk hf) nt j))
 |succ k ih=>
  intro i s G ps hk hi I hf st nt j J U hl;obtain⟨a1,p,p1,z1⟩:=I.seq (J.new j);obtain⟨a2,t,p2,_⟩:=I.seq (U.new j);have hx:xs[i]?=some (xs[i]'(by lia)):=Ag (by lia);have hy:ys[i]?=some (ys[i]'(by lia)):=Ag (by lia);have ez:(xs.zip ys).take (i+1)=(xs.zip ys).take i++[(xs[i]'(by lia),ys[i]'(by lia))]:=by rw[A3,(Do (z:=(xs[i]'(by lia),ys[i]'(by lia)))).mpr ⟨hx,hy⟩];rfl
  generalize xs[i]'(by lia)=x at hx ez;generalize ys[i]'(by lia)=y at hy ez;obtain⟨ux,a3,a4⟩:=p.get hx;obtain⟨uy,a5,ag⟩:=t.get hy;obtain⟨_,_,_,_,_,eS⟩:=I.lstM (l:=S) zv;have lS:S<s.heap.objs.size:=sx eS;refine codeAny_builtin F.entry_extend_loop ?_;rw[Db DT _];refine Aa (m:=pyNext (.ref z)) (ahc D lS st p1 p2 (x:=ux) (y:=uy) (by simpa using a3) (by simpa using a5) λh' al tp kk=>?_);have I1:=I.turnedN (t':=s.toks) (fp:=[z,TI,TO,i1,i2]) (h':=h') (a:=s.heap.objs.size) (o:=.tup [x,y]) kk hf (Al _) ⟨by show 2<=sizeLine;decide,[ux,uy],.cons a4 (.cons ag .nil),⟨_,tp,rfl,_,rfl⟩⟩;have C:S≠s.heap.objs.size:=A2 lS;have gP:G s.heap.objs.size=none:=by have:=I.hok.fresh (Al s.heap.objs.size);rw[qx (AI C)] at this;exact this
  generalize s.heap.objs.size=P at I1 C gP lS tp ⊢;have T:upd (upd G S (.lst (ps.map V.ref))) P (.tup [x,y]) S=some (.lst (ps.map V.ref)):=by rw[qx C,zv]
  obtain⟨_,a0,n,r,hn,e⟩:=I1.lstM T;rw[Ab,hl] at hn;have I2:=I1.lset (its':=a0++[.ref P]) (f:=(·.push (.ref P))) (ys:=(ps++[P]).map V.ref) (t':=s.toks) T e (by simp) (by rw[Ak];exact r.append (.cons rfl .nil)) (by rw[Ab,Ad,BF];lia);rw[aem C,xX] at I2;have li:a0.length=i:=by lia
  refine Aa (m:=updateSeq S (·.push (.ref P))) (wpAny_updateSeq (s:={ s with heap:=h' }) e rfl (Ai ⟨plainId_quiet DT _,ih (i+1) _ (upd G P (.tup [x,y])) (ps++[P]) (by lia) (by lia) I2 (λb g=>?_) (al.keep λb o g q=>?_) (by rw[ez];exact nt.snoc gP) (by rw[qx C];exact j) (J.new gP) (U.new gP) (by rw[Ad,hl];rfl)⟩)
   (by rw[Aq];lia) (by rw[DN,Aq];lia))
  ·obtain⟨f0,f1⟩:=hf b g;have bl:=D.lt b g;have bS:b≠S:=λz=>hS (z▸g);refine⟨?_,f1⟩;rw[qx bS,qx (by lia)];rw[qx bS] at f0;exact f0
  ·have bS:S≠b:=by
    rcases g with g|g
    ·exactλz=>hS (z▸g)
    ·lia
   exact(wh _ _ bS).trans q
theorem abo:typeLookup (.type "zip") "__len__" = pure none:=by rw[typeLookup_type,builtinLookup_eq_fast];kernel_rfl
theorem wX:typeLookup (.type "zip") "__length_hint__" = pure none:=by rw[typeLookup_type,builtinLookup_eq_fast];kernel_rfl
theorem aej{r:Addr}{Q:Bool->Shared->Prop}(U:s.TypeIs (.ref r) "zip")(h:Q true s):wpAny (model X.prog X.w) A (Builtin.List.listLengthHint (.ref r)) Q E s:=by unfold Builtin.List.listLengthHint;refine Aa (wpAny_specialOf U abo ?_);refine wpAny_ite_split (λJ=>absurd J (by decide)) (λ_=>?_);refine wpAny_ite_split (λJ=>absurd J (by decide)) (λ_=>?_);refine Aa (wpAny_specialOf U wX (Ai h))
theorem rR(hh:A.handled=none)(I:zd X pins σ H s)(D:ZB z TI TO i1 i2 l1 l2 s.heap.objs.size)(hz:IsZip s.heap z TI TO .none)(hf:∀b∈[z,TI,TO,i1,i2],lJ X pins H b)(st:ZS t1 t2 z TI TO i1 i2 l1 l2 (s.heap.objs.size+1) 0 s.heap)(t:Sq t1 X.K H l1 xs)(C:Sq t2 X.K H l2 ys)
 (q:∀s' G ps,zd X pins σ (upd G s.heap.objs.size (.lst (ps.map V.ref))) s'->u0 H ps (xs.zip ys) G->G s.heap.objs.size=none->Q (.ref s.heap.objs.size) s'):wpAny (model X.prog X.w) A (call (.type "list") [.ref z]) Q E s:=by
 have hn:=I.hok.fresh (Al s.heap.objs.size);have I0:=I.laid (t':=s.toks) (h':=s.heap.push { cls:=.type "list",data:=.seq #[] }) (a:=s.heap.objs.size) (o:=.lst []) (λb u e=>r4 _ e) (Al _) ⟨Bd _,[],0,.nil,sy _ rfl⟩;have hS:s.heap.objs.size∉[z,TI,TO,i1,i2]:=λh=>Cu _ (D.lt _ h);have D':ZB z TI TO i1 i2 l1 l2 (s.heap.objs.size+1):=⟨D.ap,D.d1,D.d2,D.d3,λc hc=>BR (D.lt c hc)⟩;refine callType_codes (Q₁:=λobj U=>obj=.ref s.heap.objs.size/\U={ s with heap:=s.heap.push { cls:=.type "list",data:=.seq #[] } }) F.called_list (F.typeCall_list_1 _) F.entry_list_init (code_list_new _ ⟨rfl,rfl⟩) λobj U g=>?_;obtain⟨rfl,rfl⟩:=g;have l:(s.heap.push { cls:=.type "list",data:=.seq #[] }).get? s.heap.objs.size=some { cls:=.type "list",data:=.seq #[] }:=sy _ rfl;have aP:=st.keep (h':=s.heap.push { cls:=.type "list",data:=.seq #[] }) λb o _ e=>r4 _ e;refine⟨⟨_,l,rfl⟩,F.args_list_init_2 _ _,?_⟩;have key:∀(h:Heap) (c:Nat),h.get? s.heap.objs.size=some { cls:=.type "list",data:=.seq #[] c }->(∀b o,b≠s.heap.objs.size->(s.heap.push { cls:=.type "list",data:=.seq #[] }).get? b=some o->h.get? b=some o)->
  codeAny (model X.prog X.w) A.in1 (.builtin "list.extend.loop" ⟨[.ref s.heap.objs.size,.ref z,.none],[]⟩) (wants (λr j=>r=.none/\Q (.ref s.heap.objs.size) j) E) { s with heap:=h }:=λh c e k=>by
  refine agv (X:=X) (pins:=pins) (σ:=σ) (H:=H) (xs:=xs) (ys:=ys) (A:=A.in1) hh D' hS (λs' G ps I' nt gS=>⟨rfl,q s' G ps I' nt gS⟩) _ 0 _ H [] rfl (Bd _) ?_ (λb J=>?_) (aP.keep λb o J e=>k b o ?_ e) .nil hn t C rfl
  ·exact I.laid (t':=s.toks) (h':=h) (a:=s.heap.objs.size) (o:=.lst []) (λb u e=>k b u (A2 (sx e)) (r4 _ e)) (Al _) ⟨Bd _,[],c,.nil,e⟩
  ·obtain⟨f0,f1⟩:=hf b J;exact⟨by rw[qx (A2 (D.lt b J))];exact f0,f1⟩
  ·rcases J with J|J
   ·exact A2 (D.lt b J)
   ·exact Cz J
 show wpAny _ _ (Builtin.List.listItems (.ref s.heap.objs.size) >>= λold=>Builtin.List.listUpdate (.ref s.heap.objs.size) (λ_=>#[]) >>= λ_=>letGo old.toList.reverse >>= λ_=>Builtin.List.listExtendWith (.ref s.heap.objs.size) (.ref z) .none) _ _ _;refine Aa ?_;unfold Builtin.List.listItems;refine Aa (Bg l rfl (Ai ?_));refine Aa (m:=updateSeq s.heap.objs.size (λ_=>#[])) (wpAny_updateSeq l rfl ?_);have e2:=xT (Obj.mapSeq (λ_=>(#[]:Array Value))) l rfl;have p:∀b o,b≠s.heap.objs.size->(s.heap.push { cls:=.type "list",data:=.seq #[] }).get? b=some o->((s.heap.push { cls:=.type "list",data:=.seq #[] }).update s.heap.objs.size (Obj.mapSeq (λ_=>(#[]:Array Value)))).get? b=some o:=λb o J e=>(wh _ _ (AI J)).trans e;generalize (s.heap.push { cls:=.type "list",data:=.seq #[] }).update s.heap.objs.size (Obj.mapSeq (λ_=>(#[]:Array Value)))=g2 at e2 p ⊢;refine Aa (wpAny_letGo ?_);unfold Builtin.List.listExtendWith;have a0:=aP.keep (h':=g2) λb o J e=>p b o (by rcases J with J|J;exact A2 (D.lt b J);exact Cz J) e;have T2:=a0.type (s:={ s with heap:=g2 });refine Aa (wpAny_typeOf (T:="zip") T2 ?_);have sr:Builtin.List.listSameRef (.ref s.heap.objs.size) (.ref z)=false:=by have:s.heap.objs.size≠z:=λe=>hS (by rw[e];simp);simp[Builtin.List.listSameRef,this]
 rw[AG (by rw[sr];decide)];refine Aa (wpAny_pyIter_zip (s:={ s with heap:=g2 }) (p _ _ (A2 (D.lt z (by simp))) (r4 _ hz)) ?_);refine Aa (AY (aej T2 ?_));rw[AF (by decide)];refine Aa (BK (Aa ?_));show wpAny _ _ (updateSeq s.heap.objs.size (·.push .none) >>= λ_=>updateSeq s.heap.objs.size (·.pop)) _ _ _;refine Aa (wpAny_updateSeq (s:={ s with heap:=g2 }) e2 rfl ?_);have e3:=xT (Obj.mapSeq (·.push Value.none)) e2 rfl;refine wpAny_updateSeq (hz:=by seq_fits) e3 rfl ?_;have e4:=xT (Obj.mapSeq (·.pop)) e3 rfl;exact Ai ⟨plainId_quiet DT _,key _ _ e4 λb o J e=>(wh _ _ (AI J)).trans ((wh _ _ (AI J)).trans (p b o J e))⟩
end
def tLZ(X:Cx)(ta:TA):TE:=λσ H Q=>ta σ H λvs H1=>∃t1 t2 a b xs ys,vs=[.ref a,.ref b]/\Sq t1 X.K H1 a xs/\Sq t2 X.K H1 b ys/\∀S G ps,u0 H1 ps (xs.zip ys) G->G S=none->Q (.ref S) (upd G S (.lst (ps.map V.ref)))
theorem wB{a b:Expr}{ta:TA}{ps:Pos}(hc:X.calm=true)(t:Gl X "list")(C:X.mg "list"=none)(T:Gl X "zip")(a0:X.mg "zip"=none)(ha:PA X [a,b] ta)(hs:starEach [a,b] X.env=[(false,eval a X.env),(false,eval b X.env)]:=by rfl)
 (j:starEach [b] X.env=[(false,eval b X.env)]:=by rfl):PE X (.Call (.Name "list" p1) [.Call (.Name "zip" p2) [a,b] [] ps] [] pos) (tLZ X ta):=by
 intro J s σ H Q I h;refine wpAny_Call_Name_kw (bw I t C vt ?_);refine callWith_type1 ?_ rfl rfl;show wpAny _ _ (spliced ((false,eval (.Call (.Name "zip" p2) [a,b] [] ps) X.env)::[])) _ _ s;refine At ?_;refine wpAny_Call_Name_kw (bw I T a0 ao8 ?_);refine callWith_type1 (aV (ha ps J s σ H _ I h) λus U ⟨vs,H1,g,r1,q1⟩=>?_) (by rw[hs,j]) (by rw[j];rfl);obtain⟨t1,t2,l1,l2,xs,ys,e,hx,hy,q⟩:=q1;subst e;obtain⟨u1,u2,rfl,a1,a2⟩:=zr.two r1;cases a1;cases a2;obtain⟨al,_,w1,_⟩:=g.seq hx;obtain⟨ar,_,w2,_⟩:=g.seq hy;have a3:l1<U.heap.objs.size:=by
  cases t1 with
  |false=>obtain⟨o,e,_⟩:=w1;exact sx e
  |true=>obtain⟨o,e,_⟩:=w1;exact sx e
 have a4:l2<U.heap.objs.size:=by
  cases t2 with
  |false=>obtain⟨o,e,_⟩:=w2;exact sx e
  |true=>obtain⟨o,e,_⟩:=w2;exact sx e
 refine abc w1 w2 λg1 gz gI gO l p gk=>Ef ?_;have I2:zd X J σ H1 { U with heap:=g1 }:=g.kept (t':=U.toks) gk;refine rR (s:={ U with heap:=g1 }) (g.ok.hd hc) I2 ⟨?_,?_,?_,?_,λc hc=>?_⟩ gz (λc hc=>?_) ⟨.inl ⟨gz,_,_,gO⟩,gI,l,p⟩ hx hy λs' G ps I' nt gS=>⟨.ref _,_,I',rfl,q _ G ps nt gS⟩
 ·have a5:@LT.lt Nat instLTNat l1 U.heap.objs.size:=a3;have ag:@LT.lt Nat instLTNat l2 U.heap.objs.size:=a4;constructor<;>exact vC (by lia)
 ·exact vC (by lia)
 ·exact vC (by lia)
 ·exact vC (by lia)
 ·simp only[Am,Bs,or_false] at hc;rcases hc with rfl|rfl|rfl|rfl|rfl
  ·exact sx gz
  ·exact sx gI
  ·exact sx gO
  ·obtain⟨o,e,_⟩:=l.ob;exact sx e
  ·obtain⟨o,e,_⟩:=p.ob;exact sx e
 ·have r:U.heap.objs.size<=c:=by simp only[Am,Bs,or_false] at hc;rcases hc with rfl|rfl|rfl|rfl|rfl<;>exact leN (by simp +arith only)
  exact g.fpOk r (g.hok.fresh r)
end L2
namespace L3
open PySem L2
theorem ah8{H1:Hp}{ps:List Addr}{vs:List (V×V)}(n:u0 H ps vs H1)(rl:j7 G H L):jh H H1/\j7 G H1 L/\Paired (λp (v:V×V)=>H1 p=some (.tup [v.1,v.2])) ps vs:=by
 induction n with
 |nil=>exact⟨DX _,rl,.nil⟩
 |snoc _ J U=>
  obtain⟨a,b,c⟩:=U;exact⟨a.trans (DY J),b.skip J,Words.Paired.app (EC c λq v e=>(qx (zy e J)).trans e) (.cons zv .nil)⟩
theorem tz{G:G3}{H H1:Hp}(t:jh H H1):∀{xs ys:List Y} {us vs:List V} {ps:List Addr},xp G H xs us->xp G H ys vs->Paired (λp (v:V×V)=>H1 p=some (.tup [v.1,v.2])) ps (us.zip vs)->xp G H1 (mW xs ys) (ps.map V.ref)
 |[],ys,us,vs,ps,U,g,J=>by cases U;cases J;rfl
 |x::xs,[],us,vs,ps,U,g,J=>by cases g;rw[List.zip_nil_right] at J;cases J;rfl
 |x::xs,y::ys,us,vs,ps,⟨u,j,l,o,U⟩,⟨v,r,C,I,g⟩,J=>by subst l C;cases J with|cons a b=>exact⟨_,_,rfl,⟨_,_,rfl,cg.of a,⟨_,_,rfl,o.ts t,_,_,rfl,I.ts t,rfl⟩⟩,tz t U g b⟩
def ac2(ta:eY)(τ:x8)(L:qu)(Q:YK):Prop:=ta τ L λvs L1=>match vs with
 |[x,y]=>fe L1 x λxs=>fe L1 y λys=>∀p,L1 p=none->Q (.ref p) (qh L1 p (.lst (mW xs ys)))
 |_=>False
theorem ae3{a b:Expr}{ta:eY}{ps:Pos}(hc:X.calm=true)(g:Gl X "list")(j:X.mg "list"=none)(l:Gl X "zip")(o:X.mg "zip"=none)(ha:QA X [a,b] ta)(hs:starEach [a,b] X.env=[(false,eval a X.env),(false,eval b X.env)]:=by rfl)
 (p:starEach [b] X.env=[(false,eval b X.env)]:=by rfl):QE X (.Call (.Name "list" p1) [.Call (.Name "zip" p2) [a,b] [] ps] [] pos) (ac2 ta):=DZ (wB hc g j l o ha hs p) λσ H Q τ L Q3 rs rl z k=>
 ⟨τ,L,_,rs,rl,z,λus H1 ys L1 t1 J r t=>by
  split at t
  ·rename_i x y;obtain⟨xs,ex,z2⟩:=wg t;obtain⟨zs,ez,z3⟩:=wg z2;obtain⟨u,v,rfl,r1,r2⟩:=r.inv2;obtain⟨b1,q1,C,rfl,s1,w1⟩:=afw J r1 ex;obtain⟨b2,q2,I,rfl,s2,w2⟩:=afw J r2 ez;refine⟨b1,b2,q1,q2,C,I,rfl,s1,s2,λS G ps nt T=>?_⟩;obtain⟨t2,U,pr⟩:=ah8 nt J;exact k _ _ _ _ ((t1.trans t2).trans (DY T)) (U.newL T (tz t2 w1 w2 pr)) (by rfl) (z3 S (U.none T))
  ·exact t.elim⟩
end L3
namespace L2
open PySem PySem.Spec PyProof.Rows
def Itv(K:Ah)(a:Addr)(n:Nat):It:=⟨λi H=>i<n/\∃xs x,aQ K H a xs/\xs[n-1-i]?=some x,λi H x H'=>H'=H/\∀xs,aQ K H a xs->xs[n-1-i]?=some x,λi H=>n<=i⟩
theorem aek{P:Program}{w:World}{K:Ah}(a it:Addr)(n:Nat):xR P w K tg (Itv K a n) [it] it (λi h=>i<=n/\h.IsRevIter it a ((n:Int)-1-(i:Int))) where
 mem:=by simp
 obj:=λi h st b U=>by
  have e:b=it:=by simpa using U
  subst e;obtain⟨_,o,e,c,d⟩:=st;exact⟨o,e,λv z=>by rw[d] at z;cases z⟩
 keep:=λi h j st k=>⟨st.1,st.2.at λo e=>k it (by simp) o e⟩
 item:=by
  intro X t hw C hc i J s σ H E I l st r;subst t hw C;obtain⟨hi,xs,x,hq,hx⟩:=r;obtain⟨_,st⟩:=st;obtain⟨a0,rv,p,hz⟩:=I.list hq;obtain⟨u,hu,ru⟩:=rv.get hx;obtain⟨T,f1,f2,f3,f4,f5⟩:=l it (by simp);have e1:(n:Int)-1-(i:Int)=((n-1-i:Nat):Int):=by omega
  have e2:((n-1-i:Nat):Int)-1=(n:Int)-1-((i+1:Nat):Int):=by omega
  rw[e1] at st;refine wpAny_pyNext_rev_item st p.isList (x:=u) (by simpa using hu) λj g sb=>?_;rw[e2] at g;have I1:zd X J σ H { s with heap:=j }:=I.turned (t':=s.toks) (λb o U e=>(sb.2 b U).trans e) T f1 f3 f4 f5;obtain⟨o,e,c,d⟩:=id g;exact⟨u,rfl,sd (s:={ s with heap:=j }) e c d (by decide) ⟨x,H,I1,ru,⟨rfl,λys hy=>by rw[I.list_inj hy hq];exact hx⟩,⟨hi,g⟩,λb U=>(l b U).1⟩⟩
 done:=by intro X t hw C hc i J s σ H E I l st r;subst t hw C;obtain⟨hi,st⟩:=st;have r:n<=i:=r;obtain⟨T,f1,f2,f3,f4,f5⟩:=l it (by simp);rw[show(n:Int)-1-(i:Int) = -1 by omega] at st;exact wpAny_pyNext_rev_end (I.ok.hd hc) st λj eb=>⟨rfl,I.turned (t':=s.toks) (λb o U e=>eb b o U e) T f1 f3 f4 f5⟩
 self:=λ_ _ _ _ _ st h=>wpAny_pyIter_revIter st.2 h
def at9(K:Ah)(ta:TA):TI:=λσ H R=>ta σ H λvs H1=>∃a xs,vs=[.ref a]/\aQ K H1 a xs/\R (Itv K a xs.length) H1
theorem uI:bootBuiltins "reversed"=some (.type "reversed"):=by decide +kernel
theorem amm{a:Expr}{ta:TA}(T:Gl X "reversed")(hm:X.mg "reversed"=none)(ha:PA X [a] ta)(hs:starEach [a] X.env=[(false,eval a X.env)]:=by rfl):
 PI X tg (.Call (.Name "reversed" p) [a] [] pos) (at9 X.K ta):=by
 intro J s r H R I h;refine Call_ (bw I T hm uI (BE (aV (ha pos J s r H _ I h) λus U ⟨vs,t,j,r1,q1⟩=>?_) hs rfl));obtain⟨l,C,e,hq,q⟩:=q1;subst e;obtain⟨u,rfl,ru⟩:=m4 r1;cases ru;obtain⟨g,rv,pl,hz⟩:=j.list hq;have el:=rv.length;refine call_reversed_list pl.isList ?_;have st:(U.heap.push (revObj l ((g.toArray.size:Int)-1))).IsRevIter U.heap.objs.size l ((C.length:Int)-1-((0:Nat):Int)):=by rw[Aq,<-el];exact⟨_,sy _ rfl,rfl,by simp[revObj]⟩
 have I2:zd X J r t { U with heap:=U.heap.push (revObj l ((g.toArray.size:Int)-1)) }:=j.kept (t':=U.toks) λb o e=>r4 _ e;refine wpAny_pyIter_revIter (s:={ U with heap:=U.heap.push (revObj l ((g.toArray.size:Int)-1)) }) st ?_;refine⟨_,[_],_,_,t,rfl,I2,aek l _ C.length,⟨Bd _,st⟩,λb hb=>?_,q⟩;have e:b=U.heap.objs.size:=by simpa using hb
 subst e;exact j.fpOk (Al _) (j.hok.fresh (Al _))
end L2
namespace L3
open PySem L2
theorem vO{keep:qu->Prop}(h:∀H L,jh H₀ H->j7 G H L->keep L->∃xs,aQ G.K H a xs/\xp G H ys xs):eL G H₀ (Itv G.K a ys.length) ys.reverse keep where
 go:=λi H L t rl J U=>by obtain⟨xs,sq,r⟩:=h H L t rl J;have l:=r.length;rw[Bw] at U;exact⟨U,xs,xs[ys.length-1-i]'(by omega),sq,Ag _⟩
 yld:=λi H L x p y t rl J g ⟨e,f⟩=>by
  subst e;obtain⟨xs,sq,r⟩:=h _ L t rl J;have U:i<ys.length:=by have:=(AV.mp g).1;rwa[Bw] at this
  rw[CY U] at g;obtain⟨C,j,o⟩:=r.get g;have:=f xs sq;rw[j] at this;cases this;exact⟨DX _,rl,o⟩
 stop:=λH L t rl J=>by show ys.length<=ys.reverse.length;rw[Bw];exact Al _
def ak8(tl:vd)(τ:x8)(L:qu)(R:List Y->(qu->Prop)->qu->Prop):Prop:=tl τ L λx L1=>match x with
 |.ref a=>qW L1 a λys keep L=>R ys.reverse keep L
 |_=>False
theorem amc{a:Expr}(I:Gl X "reversed")(T:X.mg "reversed"=none)(ha:QE X a te)(hs:starEach [a] X.env=[(false,eval a X.env)]:=by rfl)
 (g:starEach [a] X.env=(false,eval a X.env)::starEach [] X.env:=by rfl):QI X tg (.Call (.Name "reversed" p) [a] [] pos) (ak8 te):=PI.imq (amm I T (dG ha iq g) hs) λσ H R τ L R3 rs rl z k=>by
 refine⟨τ,L,_,rs,rl,z,λv j y o t1 J l t=>?_⟩;cases y with
 |ref a=>
  obtain⟨ys,keep,es,kp,hk,z2⟩:=mn t;have C:∀H L,jh j H->j7 X.g3 H L->keep L->∃U,aQ X.K H a U/\xp X.g3 H ys U:=λH L _ rl e=>cM rl (hk L e);obtain⟨U,sq,r⟩:=C j o (DX _) J kp;cases l;exact⟨a,U,rfl,sq,by rw[<-r.length];exact k _ j _ _ o t1 J (vO C) z2⟩
 |_=>exact t.elim
end L3
namespace L3
open PySem L2
def t8(x y:Y)(L:qu)(Q:YK):Prop:=match x,y with
 |.tup xs,.tup ys=>xs≠[]/\xs.length+ys.length<=1000/\Q (.tup (xs++ys)) L
 |_,_=>False
theorem xE :kw X (binaryOp .Add) (fb X.g3 t8):=EV ajw λx y H Q x3 y3 L Q3 I T rl z k=>by
 unfold t8 at z;split at z
 ·rename_i j o;obtain⟨n,l,z⟩:=z;obtain⟨a,J,rfl,r,U⟩:=I;obtain⟨b,t,rfl,s2,C⟩:=T;have l1:=U.length;have l2:=C.length;refine⟨a,b,J,t,rfl,rfl,r,s2,λe=>n ?_,small (by lia),λe=>?_,λ_ p g=>?_⟩
  ·subst e;exact BP l1
  ·subst e;have:o=[]:=BP l2;subst this;rw[AS] at z;exact k _ H _ L (DX _) rl (show RV X.g3 H (.tup j) (.ref a) from⟨a,J,rfl,r,U⟩) z
  ·exact k _ _ _ L (DY g) (rl.skip g) (show RV X.g3 (upd H p (.tup (J++t))) (.tup (j++o)) (.ref p) from⟨p,_,rfl,cg.of zv,(U.app C).ts (DY g)⟩) z
 ·exact z.elim
open PySem L2 Words
def vQ:ku:=(qt (zg (zk km (zk km (jl 1) (rX aE (x4 0 0))) (qa 1)) (qe 3))
 (jb (zk t8 (zk t8 (sM oh (qa 0) kq (ww (qa 3))) (k8 (xu (qa 2)))) (sM oh (qa 0) (ww (zk km (qa 3) (jl 1))) kq))))
def xJ(J:jn)(p1:jn):ku:=(qt (zg (ju zb) (qe 1))
 (qt (dU (vv (qz J (xu (qa 0)))) (qe 2) (jr (aj ak (qa 1) (qd (qz p1 (xu (qa 2))) zb))))
 (jb (qa 1))))
def iZ(J:jn)(p1:jn):ku:=(qt (dU (eW (qz J (xu (qa 0)))) (aJ 2 (zq (qe 2) (zq (qe 3) wv))) (qt (zg (qz p1 (xu (qa 3))) (qe 4))
 (xt (yB (iW ao7 (qd (sN 1 (vv (qa 1)) (qe 5) wI (zk (mL false) (qa 5) (qa 4))) zb))) (jb (qa 2)) jv)))
 (jb (yC .non)))
def rP(J:jn)(p1:jn)(p2:jn)(p3:jn):ku:=(qt (zg (zk ai (qz J (xu (qa 1))) (qa 2)) (qe 3))
 (qt (zg (qz p1 (qd (qa 3) (qd (zk ai (qz p2 (aW (qa 0) (qa 1))) (qa 2)) zb))) (qe 4))
 (qt (xt (yB (lG false (qa 4))) (jb (yC .non)) jv)
 (jb (qz p3 (qd (qa 3) (qd (qa 4) (qd (qz p3 (qd (qa 1) (qd (qa 2) (qd (zk ai (qz J (xu (qa 3))) (qa 4)) zb)))) zb))))))))
def uC(J:Addr)(E3:X3)(U:jn):ku:=(qt (zg (qz U (xu (qa 0))) (qe 2))
 (qt (xt (sG (yB (wZ (jl 0) (agd yLe (qa 1) (ady yLt (cq 2)))))) (xM J E3 (xu (dg "a rule has no arm of that number"))) jv)
 (jb (zk ai (qa 2) (qa 1)))))
def gB(E3:X3)(J:ff):ku:=(qt (zg (ju (xu (qa 0))) (qe 2))
 (qt (dU (vv (qa 1)) (qe 3) (jr (aj jc (qa 2) (qd (jH J E3 (qd (zk ai (qa 2) (yUn uL (jl 1))) (xu (qa 3)))) zb))))
 (jb (qa 2))))
def jX(J:Addr)(E3:X3)(U:ff)(p1:ff)(p2:jn)(p3:jn):ku:=(qt (zg (jH U E3 (aW (x4 0 1) (qa 1))) (qe 3))
 (qt (jr (jH p1 E3 (qd (zk ai (qa 3) (yUn uL (jl 1))) (xu (qa 2)))))
 (qt (zg (qz p2 (qd (x4 0 0) (qd (zk ai (qa 3) (yUn uL (jl 1))) (xu (qa 2))))) (qe 4))
 (qt (xt (yB (lG false (qa 4))) (xM J E3 (xu (dg "the two rules can't be exchanged"))) jv)
 (qt (dU (ak8 (ac2 (aW (qa 1) (qa 3)))) (aJ 2 (zq (qe 5) (zq (qe 6) wv))) (zg (qz p3 (qd (qa 6) (aW (qa 5) (qa 4)))) (qe 4)))
 (jb (k8 (qd (iW aF (xu (x4 0 0))) (xu (qa 4))))))))))
def qw:Ru->Nat->Ru->Ru
 |.ei r _,0,A=>.ei r A
 |.bo r _ B,0,A=>.bo r A B
 |.bo r A _,1,B=>.bo r A B
 |.cu p q _ B,0,A=>.cu p q A B
 |.cu p q A _,1,B=>.cu p q A B
 |R,_,_=>R
def bJ:jn:=λys L Q=>∃R A:Ru,∃n:Nat,∃J:Int,ys=[qj R,.int J,qj A]/\J=(n:Int)/\n<(qm R).length/\Q (qj (qw R n A)) L
theorem ah5:∀ys L Q,bJ ys L Q->xl vQ 4 ys L Q:=by
 rintro ys L Q ⟨R,A,n,U,rfl,rfl,J,q⟩;have two:∀{n:Nat},n<2->n=0\/n=1:=λh=>by lia
 cases R with
 |link a b=>cases J
 |ei r B=>
  obtain rfl:n=0:=by have:n<1:=J;lia
  exact⟨λz=>absurd z.2 (by show ¬2=3;decide),⟨Ba _ _,by show 3<=1000;decide,λz=>absurd z.1 (by show ¬3=0;decide),Ba _ _,by show 3<=1000;decide,xi q⟩⟩
 |bo r B C=>
  rcases two J with rfl|rfl
  ·exact⟨λz=>absurd z.2 (by show ¬2=4;decide),⟨Ba _ _,by show 3<=1000;decide,λz=>absurd z.1 (by show ¬3=0;decide),Ba _ _,by show 4<=1000;decide,xi q⟩⟩
  ·exact⟨λz=>absurd z.2 (by show ¬3=4;decide),⟨Ba _ _,by show 4<=1000;decide,λz=>absurd z.1 (by show ¬4=0;decide),Ba _ _,by show 4<=1000;decide,xi q⟩⟩
 |cu a b B C=>
  rcases two J with rfl|rfl
  ·exact⟨λz=>absurd z.2 (by show ¬3=5;decide),⟨Ba _ _,by show 4<=1000;decide,λz=>absurd z.1 (by show ¬4=0;decide),Ba _ _,by show 5<=1000;decide,xi q⟩⟩
  ·exact⟨λz=>absurd z.2 (by show ¬4=5;decide),⟨Ba _ _,by show 5<=1000;decide,λz=>absurd z.1 (by show ¬5=0;decide),Ba _ _,by show 5<=1000;decide,xi q⟩⟩
theorem cG:∀A:Ru,(jg A).flatMap aT=qk A
 |.link p q=>rfl
 |.ei r A=>by show r::(jg A).flatMap aT=_;rw[cG A];rfl
 |.bo r A B=>by show r::(jg A++jg B).flatMap aT=_;rw[AA,cG A,cG B];rfl
 |.cu p q A B=>by show(jg A++jg B).flatMap aT=_;rw[AA,cG A,cG B];rfl
theorem y7(A:Ru):(aT A).length<=2:=by cases A<;>simp[aT]
def gK:jn:=λys L Q=>∃A:Ru,ys=[qj A]/\j5 A<=120/\zu A<=1000/\∀p,L p=none->Q (.ref p) (qh L p (.lst (nY (qk A))))
theorem vG:∀ys L Q,gK ys L Q->xl (xJ (ae 120) i5) 3 ys L Q:=by
 rintro ys L Q ⟨A,rfl,hd,T,q⟩;have big:=bg_;intro l o;refine⟨A,rfl,hd,T,λp C=>?_⟩;have U:l≠p:=k7 q8 C;have s0:qf L (qh (qh L l (.lst [])) p (.lst ((jg A).map qj))):=(By o).trans (By C);have sz:∀i,(((jg A).take i).flatMap aT).length<=2000:=λi=>by
  have h1:∀l:List Ru,(l.flatMap aT).length<=2*l.length:=λl=>by induction l with|nil=>exact Al _|cons x r ih=>have:=y7 x;rw[AM,Ad,AQ];lia
  have h2:=h1 ((jg A).take i);rw[A1,bC] at h2;lia
 refine jx q8 λkeep kp=>vj ⟨λi j J=>∃c2,j=[some (qj A),some (.ref l),c2]/\qf L J/\J l=some (.lst (nY (((jg A).take i).flatMap aT)))/\J p=some (.lst ((jg A).map qj)),⟨_,rfl,s0,(qb U).trans q8,q8⟩,?_,?_,?_⟩
 ·rintro i j J ⟨c2,rfl,s,g,g2⟩;exact kp J (by rw[g2,q8])
 ·rintro i y j J I ⟨c2,rfl,s,g,g2⟩;rw[An] at I;obtain⟨B,eB,rfl⟩:=Ao.mp I;have et:(jg A).take (i+1)=(jg A).take i++[B]:=by rw[A3,eB];rfl
  have zi:=sz i;have ol:=y7 B;refine qc g ⟨B,rfl,λp5 t=>?_⟩;have np:l≠p5:=k7 g t;refine qr ((qb np).trans g) (qr q8 ⟨?_,?_⟩)
  ·rw[wb,wb];exact Bf (big _ (by lia))
  ·refine⟨_,DW _,_,rfl,(s.trans (By t)).upd o,?_,(qb (AI U)).trans ((qb (k7 g2 t)).trans g2)⟩;rw[q8,et,AA,Cs,gc]
 ·rintro j J ⟨c2,rfl,s,g,_⟩;rw[Ab,A6,cG] at g;exact wr (EW s g) (q l o)
def aU(ts:List Nat)(B:Ru):Bool:=(ts.map λt=>decide (t∈qk B)).all id
def xb(R:Ru)(ts:List Nat):Option Nat:=(qm R).findIdx? (aU ts)
def ixY:Option Nat->Y
 |none=>.non
 |some k=>.int (k:Int)
theorem af6(R:Ru):(qm R).length<=2:=by cases R<;>simp[qm]
theorem pV{p:α->Bool}{l:List α}{x:α}(h:l[i]?=some x)(U:∀y∈l.take i,p y=false)(g:p x=true):l.findIdx? p=some i:=by have J:=j6 h;rw[CN];refine⟨J,by rw[Ag J] at h;rw[AN h];exact g,λj o=>?_⟩;rw[U _ (List.mem_iff_getElem?.mpr ⟨j,by rw[CI,AF o,Ag (by lia)]⟩)];simp
def oR:jn:=λys L Q=>∃R:Ru,∃a,∃ts:List Nat,ys=[qj R,.ref a]/\L a=some (.lst (nY ts))/\ts.length<=1000/\j5 R<=120/\zu R<=1000/\Q (ixY (xb R ts)) L
theorem agf:∀ys L Q,oR ys L Q->xl (iZ wu gK) 5 ys L Q:=by
 rintro ys L Q ⟨R,a,ts,rfl,ha,hz,hd,hr,q⟩;have big:=bg_;refine⟨R,rfl,λpa p=>?_⟩;have s0:qf L (qh L pa (.lst ((qm R).map qj))):=By p;refine jx q8 λkeep r=>vj ⟨λi l J=>∃c2 c3 c4,l=[some (qj R),some (.ref a),c2,c3,c4]/\qf L J/\J pa=some (.lst ((qm R).map qj))/\∀B∈(qm R).take i,aU ts B=false,⟨_,_,_,rfl,s0,q8,λB hB=>by cases hB⟩,?_,?_,?_⟩
 ·rintro i l J ⟨c2,c3,c4,rfl,s,g,_⟩;exact r J (by rw[g,q8])
 ·rintro i y l J I ⟨c2,c3,c4,rfl,s,g,no⟩;obtain⟨z,ez,rfl⟩:=cD I;rw[An] at ez;obtain⟨B,T,rfl⟩:=Ao.mp ez;have mB:=Aw T;have zB:=fU mB;have dB:=v0 mB;refine⟨B,rfl,by lia,by lia,λp5 h5=>?_⟩;have s5:=s.trans (By (o:=.lst (nY (qk B))) h5);have g5:=By (o:=.lst (nY (qk B))) h5 _ _ g;have e5:qh J p5 (.lst (nY (qk B))) p5=some (.lst (nY (qk B))):=q8;generalize qh J p5 (.lst (nY (qk B)))=L5 at s5 g5 e5 ⊢;refine jx (s5 _ _ ha) λkeep r=>cw (λi zs=>zs=((ts.take i).map λt=>decide (t∈qk B)).map Y.bl) (by rw[wb];exact big _ (by lia)) (r _ rfl) rfl ?_ ?_
  ·rintro j y zs I rfl;obtain⟨m,em,rfl⟩:=ie I;refine qc e5 ⟨rfl,qS _,?_⟩;rw[rj];exact⟨_,DW _,rfl,by rw[A3,em,Ak,Ak];rfl⟩
  rintro zs rfl p6 h6;rw[wb,A6];have s6:=s5.trans (By (o:=.lst ((ts.map λt=>decide (t∈qk B)).map Y.bl)) h6);have g6:=By (o:=.lst ((ts.map λt=>decide (t∈qk B)).map Y.bl)) h6 _ _ g5;refine⟨rfl,qc q8 (qo (ag3 _) ?_)⟩;by_cases c:aU ts B=true
  ·refine wm c ?_;rw[show xb R ts=some i from pV T no c] at q;exact wr s6 q
  ·refine xr (Cd.mpr c) ⟨_,DW _,_,_,_,rfl,s6,g6,λC U=>?_⟩;rw[A3,T] at U;rcases Ap.mp U with U|U
   ·exact no C U
   ·rw[Aj.mp U];exact Cd.mpr c
 ·rintro l J ⟨c2,c3,c4,rfl,s,g,no⟩;rw[cJ,Ab,A6] at no;rw[show xb R ts=none from B3.mpr no] at q;exact wr s q
def rsY:Option Ru->Y
 |none=>.non
 |some R=>qj R
def k6(ks:List Kn)(R:Ru)(k:Nat):Option Ru:=match (qm R)[k]?,(jj ks R)[k]? with
 |some I,some ts=>match xb I ts with
  |none=>none
  |some n=>match (qm I)[n]? with
   |some B=>some (qw I n (qw R k B))
   |none=>none
 |_,_=>none
theorem lZ{ts:List Nat}(h:xb R ts=some n):∃B,(qm R)[n]?=some B/\aU ts B=true:=by obtain⟨J,U,_⟩:=CN.mp h;exact⟨_,Ag J,U⟩
theorem Paired.len{α β:Type}{F:α->β->Prop}:∀{xs:List α} {ys:List β},Paired F xs ys->xs.length=ys.length
 |_,_,.nil=>rfl
 |_,_,.cons _ r=>Bi (· + 1) (Paired.len r)
abbrev EF:=@Paired.len
def lO:jn:=λys L Q=>∃a,∃wd:List (Option Kn),∃ks:List Kn,∃R:Ru,∃E:List Nat,∃k:Nat,∃J:Int,ys=[.ref a,qj R,.int J]/\J=(k:Int)/\L a=some (.lst (aM wd))/\SR ks R E/\vB ks wd R/\k<(qm R).length/\j5 R<=120/\zu R<=1000/\Q (rsY (k6 ks R k)) L
theorem ahj:∀ys L Q,lO ys L Q->xl (rP wu oR qL bJ) 5 ys L Q:=by
 rintro ys L Q ⟨a,wd,J,R,E,k,ki,rfl,rfl,ha,sr,ag,hk,hd,hz,q⟩;have pl:=EF sr.arms;have U:(qm R)[k]?=some (qm R)[k]:=Ag hk;have g:(jj J R)[k]?=some ((jj J R)[k]'(by lia)):=Ag (by lia);generalize (qm R)[k]=I at U;generalize (jj J R)[k]'(by lia)=ts at g;have mI:=Aw U;have zI:=fU mI;have dI:=v0 mI;have tl:=pD ts (Aw g);have eT:k6 J R k=match xb I ts with|none=>none|some n=>match (qm I)[n]? with|some B=>some (qw I n (qw R k B))|none=>none:=by unfold k6;rw[U,g]
 rw[eT] at q;clear eT;refine⟨R,rfl,λp1 h1=>?_⟩;refine qc q8 (qo (jy U) ?_);have l:=By (o:=.lst ((qm R).map qj)) h1;generalize qh L p1 (.lst ((qm R).map qj))=L1 at l ⊢;refine⟨a,wd,J,R,E,rfl,l _ _ ha,sr,ag,λp t L2 s2 _ gp pr=>?_⟩;obtain⟨r,j,_,gr⟩:∃r,t[k]?=some r/\L1 r=none/\L2 r=some (.lst (nY ts)):=by have hl:=EF pr;have j:t[k]?=some (t[k]'(by lia)):=Ag (by lia);have h:=EE pr j g;exact⟨_,j,h⟩
 have s3:=l.trans s2;refine qc gp (qo (jy j) ⟨I,r,ts,rfl,gr,by lia,by lia,by lia,?_⟩);cases C:xb I ts with
 |none=>
  rw[C] at q;exact wr s3 q
 |some n=>
  rw[C] at q;obtain⟨B,T,_⟩:=lZ C;have q:Q (rsY (match (qm I)[n]? with|some B=>some (qw I n (qw R k B))|none=>none)) L:=q;rw[T] at q;have mB:=j6 T;refine⟨I,rfl,λp4 h4=>qc q8 (qo (jy T) ⟨R,B,k,_,rfl,rfl,hk,⟨I,qw R k B,n,_,rfl,rfl,mB,wr (s3.trans (By h4)) q⟩⟩)⟩
def j4(R:Ru)(i:Int):Option Ru:=if 0<=i/\i<((qm R).length:Int) then(qm R)[i.toNat]? else none
theorem x6{i:Int}(h:j4 R i=some B):∃k:Nat,i=(k:Int)/\(qm R)[k]?=some B:=by
 unfold j4 at h;split at h
 ·rename_i c;exact⟨i.toNat,by lia,h⟩
 ·cases h
def cW(C:Addr):ff:=λys L Q E=>∃R:Ru,∃i:Int,ys=[qj R,.int i]/\(∀B,j4 R i=some B->Q (qj B) L)/\(j4 R i=none->E C L)
theorem ac3 :∀ys L Q E,cW C ys L Q E->xl (uC C (sh E) wu) 3 ys L Q:=by
 rintro ys L Q E ⟨R,i,rfl,q,ex⟩;refine⟨R,rfl,λj l=>?_⟩;have J:=By (o:=.lst ((qm R).map qj)) l;have no:¬(0<=i/\i<((qm R).length:Int))->∀U,sh E U C (qh L j (.lst ((qm R).map qj))):=λc U=>⟨L,J,ex (by unfold j4;rw[AG c])⟩;by_cases c1:0<=i
 ·walk_at "w";rw[AH c1];refine qc q8 ?_;by_cases c2:i<((qm R).length:Int)
  ·refine xr (by show(!decide (i<((((qm R).map qj).length:Nat):Int)))=false;rw[Ab,AH c2];rfl) ?_;obtain⟨k,rfl⟩:∃k:Nat,i=(k:Int):=⟨i.toNat,by lia⟩;have g:k<(qm R).length:=by lia
   refine qc q8 (qo (jy (Ag g)) (wr J (q _ ?_)));unfold j4;rw[AF ⟨c1,c2⟩,AR];exact Ag g
  ·refine wm (by show(!decide (i<((((qm R).map qj).length:Nat):Int)))=true;rw[Ab,Ay c2];rfl) ?_;exact⟨BG rfl,no (λh=>c2 h.2) _⟩
 ·walk_at "w";rw[Ay c1];exact⟨BG rfl,no (λh=>c1 h.1) _⟩
def ve:Ru->List Int->Option (List Ru)
 |R,[]=>some [R]
 |R,i::w=>match j4 R i with
  |none=>none
  |some B=>(ve B w).map (R::·)
theorem cO{w:List Int}{m:List Ru}(h:ve R w=some m):∃J,m=R::J/\J.length=w.length:=by
 induction w generalizing R m with
 |nil=>cases h;exact⟨[],rfl,rfl⟩
 |cons i w U=>
  unfold ve at h;cases e:j4 R i with
  |none=>rw[e] at h;cases h
  |some B=>
   rw[e] at h;obtain⟨j,g,rfl⟩:=Ao.mp h;obtain⟨o,rfl,l⟩:=U g;exact⟨_,rfl,Bi (· + 1) l⟩
theorem oP{w:List Int}{l:List Ru}(h:ve R w=some (l++[S]))(x:Int)(u:List Int):ve R (w++x::u)=(ve S (x::u)).map (l++·):=by
 induction w generalizing R l with
 |nil=>
  have h:[R]=l++[S]:=AN h;cases l with|nil=>cases h;show _=Option.map (λz=>z) _;rw[Option.map_id'];rfl|cons a l=>have:=Bi List.length h;simp at this
 |cons i w g=>
  unfold ve at h;rw[List.cons_append];show(match j4 R i with|none=>none|some B=>(ve B (w++x::u)).map (R::·))=_;cases e:j4 R i with
  |none=>rw[e] at h;cases h
  |some B=>
   rw[e] at h;obtain⟨o,J,U⟩:=Ao.mp h;obtain⟨p,rfl,_⟩:=cO J;cases l with
   |nil=>cases U
   |cons a l=>
    obtain⟨rfl,j⟩:=BM U;rw[j] at J;show(ve B (w++x::u)).map (R::·)=_;rw[g J,Option.map_map];rfl
theorem ade{w:List Int}{m:List Ru}(h:ve R w=some m):∀(i:Nat) (x:Int) (A:Ru),w[i]?=some x->m[i]?=some A->∃B,j4 A x=some B/\m[i+1]?=some B:=by
 induction w generalizing R m with
 |nil=>intro i x A J;cases J
 |cons j w l=>
  unfold ve at h;cases e:j4 R j with
  |none=>rw[e] at h;cases h
  |some B=>
   rw[e] at h;obtain⟨o,U,rfl⟩:=Ao.mp h;intro i x A J g;cases i with
   |zero=>
    cases J;cases g;obtain⟨p,rfl,_⟩:=cO U;exact⟨B,e,rfl⟩
   |succ i=>exact l U i x A J g
theorem ab7{w:List Int}{m:List Ru}(h:ve R w=some m):∀A∈m,A∈jg R:=by
 induction w generalizing R m with
 |nil=>cases h;intro A J;rw[Aj.mp J,aC];exact Af ..
 |cons i w U=>
  unfold ve at h;cases e:j4 R i with
  |none=>rw[e] at h;cases h
  |some B=>
   rw[e] at h;obtain⟨l,g,rfl⟩:=Ao.mp h;obtain⟨k,_,j⟩:=x6 e;intro A J;rw[aC];rcases Am.mp J with rfl|J
   ·exact Af ..
   ·exact Ac _ (AW.mpr ⟨B,Aw j,U g A J⟩)
def eV(C:Addr):ff:=λys L Q E=>∃R:Ru,∃h,∃w:List Int,ys=[qj R,.ref h]/\L h=some (.lst (w.map Y.int))/\w.length<=1000/\(∀m,ve R w=some m->∀p,L p=none->Q (.ref p) (qh L p (.lst (m.map qj))))/\(ve R w=none->E C L)
theorem ae5 :∀ys L Q E,eV C ys L Q E->xl (gB (sh E) (cW C)) 4 ys L Q:=by
 rintro ys L Q E ⟨R,h,w,rfl,p,hz,q,ex⟩;have big:=bg_;intro l r;have t:qf L (qh L l (.lst [qj R])):=By r;refine jx (t _ _ p) λkeep T=>vj ⟨λi o U=>∃c3 m S,o=[some (qj R),some (.ref h),some (.ref l),c3]/\qf L U/\U l=some (.lst ((m++[S]).map qj))/\ve R (w.take i)=some (m++[S]),⟨_,[],R,rfl,t,q8,rfl⟩,?_,?_,?_⟩
 ·rintro i o U ⟨c3,m,S,rfl,s,_⟩;exact T U (by rw[s _ _ p,t _ _ p])
 ·rintro i y o U I ⟨c3,m,S,rfl,s,g,j⟩;rw[An] at I;obtain⟨x,J,rfl⟩:=Ao.mp I;have hi:=j6 J;have et:w.take (i+1)=w.take i++[x]:=by rw[A3,J];rfl
  have ew:w=w.take i++x::w.drop (i+1):=by rw[Ag hi] at J;rw[<-AN J,BU,A7]
  have ml:(m++[S]).length<=1001:=by obtain⟨m',e,l⟩:=cO j;rw[e,AQ,l,A1];lia
  rw[Ak] at g;refine qc g (qc g (qo (eh _ _) ⟨S,x,rfl,λB hB=>?_,λhn=>⟨L,s,ex ?_⟩⟩))
  ·refine qr g ⟨?_,?_⟩
   ·rw[<-Ak,Ab];exact big _ (by lia)
   ·refine⟨_,DW _,_,m++[S],B,rfl,s.upd r,by rw[q8,Ak,Ak];rfl,?_⟩;rw[et,oP j];show((match j4 S x with|none=>none|some B=>(ve B []).map (S::·)).map (m++·))=_;rw[hB,AD];rfl
  ·rw[ew,oP j];show((match j4 S x with|none=>none|some B=>(ve B _).map (S::·)).map (m++·))=_;rw[hn];rfl
 ·rintro o U ⟨c3,m,S,rfl,s,g,j⟩;rw[Ab,A6] at j;exact wr (EW s g) (q _ j l r)
def zc:Ru->List Int->Ru->Ru
 |_,[],T=>T
 |R,i::w,T=>match j4 R i with
  |some B=>qw R i.toNat (zc B w T)
  |none=>R
def qy:Ru->List Int->Option Ru
 |R,[]=>some R
 |R,i::w=>match j4 R i with
  |some B=>qy B w
  |none=>none
theorem tW{w:List Int}{l:List Ru}(h:ve R w=some (l++[S])):qy R w=some S:=by
 induction w generalizing R l with
 |nil=>
  have h:[R]=l++[S]:=AN h;cases l with|nil=>cases h;rfl|cons a l=>have:=Bi List.length h;simp at this
 |cons i w g=>
  unfold ve at h;unfold qy;cases e:j4 R i with
  |none=>rw[e] at h;cases h
  |some B=>
   rw[e] at h;obtain⟨o,J,U⟩:=Ao.mp h;obtain⟨p,rfl,_⟩:=cO J;cases l with
   |nil=>cases U
   |cons a l=>
    obtain⟨_,j⟩:=BM U;rw[j] at J;exact g J
theorem tZ{w:List Int}(h:ve R w=none):qy R w=none:=by
 induction w generalizing R with
 |nil=>cases h
 |cons i w J=>
  unfold ve at h;unfold qy;cases e:j4 R i with
  |none=>rfl
  |some B=>
   rw[e] at h;exact J (Option.map_eq_none_iff.mp h)
def kQ(ks:List Kn)(R:Ru)(w:List Int)(i:Int):Option Ru:=match qy R w with
 |none=>none
 |some S=>match j4 S i with
  |none=>none
  |some _=>(k6 ks S i.toNat).map (zc R w)
theorem sD(T:Ru):∃zs,qj T=.tup zs:=by cases T<;>exact⟨_,rfl⟩
def qH(C:Addr):ff:=λys L Q E=>∃a h,∃wd:List (Option Kn),∃ks:List Kn,∃R:Ru,∃F:List Nat,∃w:List Int,∃i:Int,ys=[.tup [.ref a,qj R],.ref h,.int i]/\L a=some (.lst (aM wd))/\L h=some (.lst (w.map Y.int))/\SR ks R F/\vB ks wd R/\w.length<=1000/\(qk R).length<=120/\
 (∀R',kQ ks R w i=some R'->∀p,L p=none->Q (.tup [.ref p,qj R']) (qh L p (.lst (aM wd))))/\(kQ ks R w i=none->E C L)
theorem aii :∀ys L Q E,qH C ys L Q E->xl (jX C (sh E) (eV C) (cW C) lO bJ) 7 ys L Q:=by
 rintro ys L Q E ⟨a,h,wd,r,R,F,w,i,rfl,ha,hh,sr,ag,hz,tl,q,ex⟩;refine⟨R,h,w,rfl,hh,hz,λm hm p1 h1=>?_,λhn=>⟨L,DW _,ex (by unfold kQ;rw[tZ hn])⟩⟩;obtain⟨m',em,lm⟩:=cO hm;have m0:m[0]?=some R:=by rw[em];rfl
 have lm:m.length=w.length+1:=by rw[em,AQ,lm]
 clear em;obtain⟨l,S,rfl⟩:∃l S,m=l++[S]:=by
  rcases BH m with rfl|⟨l,S,e⟩
  ·cases m0
  ·exact⟨l,S,by rw[e,BI]⟩
 have eS:qy R w=some S:=tW hm;have mS:=ab7 hm S (Ae _ (Aj.mpr rfl));obtain⟨⟨ES,sS⟩,tS,t,dS,_⟩:=sr.rls S mS;have a4:=t.length_le;have rd:=jo S;have rz:=vg S;have p:=By (o:=.lst ((l++[S]).map qj)) h1;have g1:qh L p1 (.lst ((l++[S]).map qj)) p1=some (.lst ((l++[S]).map qj)):=q8;generalize qh L p1 (.lst ((l++[S]).map qj))=L1 at p g1 ⊢;have U:=g1;rw[Ak] at U;refine qc U (qo (eh _ _) ⟨S,i,rfl,λB hB=>?_,λhn=>⟨L,p,ex (by unfold kQ;rw[eS];show(match j4 S i with|none=>none|some _=>_)=none;rw[hn])⟩⟩);obtain⟨k,rfl,eB⟩:=x6 hB;have I:kQ r R w (k:Int)=(k6 r S k).map (zc R w):=by unfold kQ;rw[eS];show(match j4 S (k:Int) with|none=>none|some _=>_)=_;rw[hB];show(k6 r S (k:Int).toNat).map _=_;rw[AR]
 refine qc U (qo (eh _ _) ⟨a,wd,r,S,ES,k,_,rfl,rfl,p _ _ ha,sS,λx hx=>ag x (tS x hx),j6 eB,by lia,by lia,?_⟩);cases hT:k6 r S k with
 |none=>exact⟨BG rfl,L,p,ex (by rw[I,hT];rfl)⟩
 |some T=>
  have qT:=q _ (by rw[I,hT];rfl);obtain⟨zs,ez⟩:=sD T;rw[show rsY (some T)=.tup zs from ez];refine qc (p _ _ hh) (qc g1 λp2 h2=>?_);have s2:=p.trans (By (o:=.lst (mW (w.map Y.int) ((l++[S]).map qj))) h2);have g2:qh L1 p2 (.lst (mW (w.map Y.int) ((l++[S]).map qj))) p2=some (.lst (mW (w.map Y.int) ((l++[S]).map qj))):=q8;generalize qh L1 p2 (.lst (mW (w.map Y.int) ((l++[S]).map qj)))=L2 at s2 g2 ⊢;have zl:(mW (w.map Y.int) ((l++[S]).map qj)).length=w.length:=by rw[afc,Ab,Ab];lia
  refine jx g2 λkeep kp=>vj ⟨λj τ L'=>∃c5 c6 A J,τ=[some (.tup [.ref a,qj R]),some (.ref h),some (.int (k:Int)),some (.ref p1),some (qj J),c5,c6]/\L'=L2/\j<=w.length/\(l++[S])[w.length-j]?=some A/\J=zc A (w.drop (w.length-j)) T,⟨none,none,S,T,by rw[ez];rfl,rfl,Bd _,?_,?_⟩,?_,?_,?_⟩
  ·have:l.length=w.length:=by rw[Ad,BF] at lm;lia
   rw[CS,<-this,Ax (Al _),B9];rfl
  ·rw[CS,List.drop_length];rfl
  ·rintro j τ L' ⟨c5,c6,A,J,rfl,rfl,_⟩;exact kp _ rfl
  ·rintro j y τ L' hy ⟨c5,c6,A,J,rfl,rfl,hj,eA,rfl⟩;have a0:j<w.length:=by have:=j6 hy;rwa[Bw,zl] at this
   rw[CY (by rw[zl];exact a0),zl] at hy;obtain⟨u,v,eu,ev,rfl⟩:=aig hy;rw[An] at eu ev;obtain⟨x,g,rfl⟩:=Ao.mp eu;obtain⟨D,eD,rfl⟩:=Ao.mp ev;obtain⟨B',a1,a2⟩:=ade hm _ x D g eD;rw[show w.length-1-j+1=w.length-j by lia,eA] at a2;cases a2;obtain⟨k',rfl,a3⟩:=x6 a1;refine⟨D,_,k',_,rfl,rfl,j6 a3,?_⟩;refine⟨_,DW _,_,_,D,_,rfl,rfl,a0,by rw[show w.length-(j+1)=w.length-1-j by lia];exact eD,?_⟩;have ed:w.drop (w.length-(j+1))=(k':Int)::w.drop (w.length-j):=by rw[show w.length-(j+1)=w.length-1-j by lia,BZ (by lia),show w.length-1-j+1=w.length-j by lia];rw[Ag (by lia)] at g;rw[AN g]
   rw[ed];show _=match j4 D (k':Int) with|some B=>qw D (k':Int).toNat (zc B _ T)|none=>D
   rw[a1,AR]
  ·rintro τ L' ⟨c5,c6,A,J,rfl,rfl,hj,eA,rfl⟩;rw[Bw,zl,B9] at eA;rw[m0] at eA;cases eA;rw[Bw,zl,B9,CQ];refine qc (s2 _ _ ha) λp7 h7=>?_;refine⟨_,λb o e=>?_,qT p7 (s2.none h7)⟩;by_cases cc:b=p7
   ·subst cc;rw[q8] at e ⊢;exact e
   ·rw[qb cc] at e ⊢;exact s2 _ _ e
def aj2(J:jn):ku:=(qt (zg (k8 (qd (ju zb) (qd yj (qd (ju (xu (qa 1))) zb)))) (aJ 3 (zq (qe 2) (zq (qe 3) (zq (qe 4) wv)))))
 (qt (eQ (rdN (qa 4) (ju zb)) (qt (zg (aj uh (qa 4) zb) (qe 5))
 (m7 (xt (gd (x4 5 0) (dg "link")) (jr (aj ak (qa 2) (qd (ju (aW (x4 5 1) (x4 5 2))) zb))) (xt (gd (x4 5 0) (dg "cut")) (qt (iO (qa 3) (x4 5 1) (yC (.bl true)))
 (iO (qa 3) (x4 5 2) (yC (.bl true)))) (qt (jr (aj jc (qa 2) (xu (x4 5 1))))
 (qt (iO (qa 3) (zk ai (zk ai (qa 0) (x4 5 1)) (jl 1)) (yC (.bl true)))
 (iO (qa 3) (zk ai (zk ai (qa 0) (x4 5 1)) (jl 2)) (yC (.bl true)))))))
 (jr (aj ak (qa 4) (qd (qz J (xu (qa 5))) zb))))))
 (jb (sN 1 (vv (qa 2)) (qe 6) (yB (zk (aac true) (qa 6) (qa 3))) (qa 6)))))
def qU:ku:=(qt (xt (gd (x4 1 0) (dg "cut")) (jb (ju (qd (zk ai (qa 1) (zk km (jl 1) (qa 2))) zb))) jv)
 (qt (xt (gd (x4 1 0) (dg "both")) (jb (ju (qd (zk ai (zk ai (qa 0) (x4 1 1)) (zk km (jl 1) (qa 2))) zb))) jv)
 (jb (iW aF (qd (sM oh (zk ai (qa 0) (x4 1 1)) (ww (jl 1)) kq) zb)))))
def tT(J:jn)(p1:jn)(p2:jn):ku:=(qt (xt (yOr (yB (zk yLt (qa 2) (jl 0))) (yB (zk yGe (qa 2) (iW oS (qd (qz J (xu (qa 1))) zb))))) (jb (yC .non)) jv)
 (qt (zg (zk ai (qz J (xu (qa 1))) (qa 2)) (qe 3))
 (qt (zg (qz p1 (qd (qa 0) (aW (qa 1) (qa 2)))) (qe 4))
 (qt (xt (vJ (rdN (x4 3 0) (dg "cut")) (yB (zk (mL false) (x4 3 1) (qa 4)))) (jb (yC .non)) jv)
 (qt (dU (eW (qz J (xu (qa 3)))) (aJ 2 (zq (qe 5) (zq (qe 6) wv))) (qt (zg (qz p2 (aW (qa 0) (qa 6))) (qe 7))
 (xt (gd (sN 1 (vv (qa 4)) (qe 8) (yB (zk (mL true) (qa 8) (qa 7))) (qa 8)) (ju zb)) (jb (qa 5)) jv)))
 (jb (yC .non)))))))
def tkO(ks:List Kn)(B:Ru):List Nat:=(jj ks B).flatten
def iG(ks:List Kn)(R:Ru):List Nat:=(jg R).flatMap (tkO ks)
theorem ao(ks:List Kn)(A:Ru):iG ks A=tkO ks A++(qm A).flatMap (iG ks):=by unfold iG;rw[aC A,AM,List.flatMap_assoc]
theorem SR.tk{E:List Nat}(h:SR ks R E):(iG ks R).Perm (i9 ks (qk R)++kg (zx R)):=by
 induction h with
 |@link p q t n l g h2 o C I=>
  have e:i9 ks [p,q]=[]:=by rw[aq,aq,h2,o];rfl
  show([]:List Nat).Perm (i9 ks [p,q]++[]);rw[e];exact BO _
 |@ei r i j A T l g hA o C I h6 h7 ih=>
  have e:iG ks (.ei r A)=[i,j]++iG ks A:=by rw[ao];show [x0 ks[r]?].flatten++(iG ks A++[])=_;rw[g,AS];rfl
  rw[e];show List.Perm _ (i9 ks (r::qk A)++kg (zx A));rw[aq,g];exact(List.Perm.append_left [i,j] ih).trans (by rw[<-AD];exact BO _)
 |@bo r i j A B T EB l g hA hB C I h6 h7 J U=>
  have e:iG ks (.bo r A B)=[i,j]++(iG ks A++iG ks B):=by rw[ao];show((x0 ks[r]?).map λx=>[x]).flatten++(iG ks A++(iG ks B++[]))=_;rw[g,AS];rfl
  rw[e];show List.Perm _ (i9 ks (r::(qk A++qk B))++kg (zx A++zx B));rw[aq,g,lX,am];show List.Perm _ ([i,j]++(i9 ks (qk A)++i9 ks (qk B))++(kg (zx A)++kg (zx B)));refine Bx.mpr λa=>?_;have c1:=J.count_eq a;have c2:=U.count_eq a;simp only[Bh] at c1 c2 ⊢;lia
 |@cu p q A B T EB l w hA hB o C I h6 h7 h8 J U=>
  have e:iG ks (.cu p q A B)=[p,q]++(iG ks A++iG ks B):=by rw[ao];show [[p],[q]].flatten++(iG ks A++(iG ks B++[]))=_;rw[AS];rfl
  rw[e];show List.Perm _ (i9 ks (qk A++qk B)++kg ((p,q)::(zx A++zx B)));rw[lX,ix,am];show List.Perm _ (i9 ks (qk A)++i9 ks (qk B)++([p,q]++(kg (zx A)++kg (zx B))));refine Bx.mpr λa=>?_;have c1:=J.count_eq a;have c2:=U.count_eq a;simp only[Bh] at c1 c2 ⊢;lia
theorem bB{E:List Nat}(h:SR ks R E)(nd:(qk R).Nodup)(x:Nat):x∈E↔x∈qk R/\x∉iG ks R:=by
 have P:(iG ks R++E).Perm (qk R):=((h.tk.append_right E).trans (by rw[AD])).trans (h.part nd);have N:=Au.mp (P.nodup_iff.mpr nd);constructor
 ·intro J;exact⟨P.mem_iff.mp (Ae _ J),λz=>N.2.2 x z x J rfl⟩
 ·rintro⟨a,b⟩;rcases Ap.mp (P.mem_iff.mpr a) with z|z
  ·exact absurd z b
  ·exact z
theorem ahk{E:List Nat}(h:SR ks R E)(nd:(qk R).Nodup):(iG ks R).length<=(qk R).length:=by have P:(iG ks R++E).Perm (qk R):=((h.tk.append_right E).trans (by rw[AD])).trans (h.part nd);have:=P.length_eq;rw[Ad] at this;lia
theorem SR.arm{E:List Nat}(h:SR ks R E)(U:B∈qm R):∃J,SR ks B J:=by obtain⟨i,e⟩:=Cb U;have l:=EF h.arms;have o:=j6 e;have g:(jj ks R)[i]?=some ((jj ks R)[i]'(by lia)):=Ag (by lia);obtain⟨J,j,_⟩:=EE h.arms e g;exact⟨J,j⟩
theorem ac5(l:List Ru):l.length<=(l.map zu).sum:=by induction l with|nil=>exact Al _|cons x r J=>have:=kc x;simp;lia
def iR:jn:=λys L Q=>∃a,∃wd:List (Option Kn),∃ks:List Kn,∃R:Ru,∃E:List Nat,ys=[.ref a,qj R]/\L a=some (.lst (aM wd))/\SR ks R E/\vB ks wd R/\(qk R).Nodup/\(qk R).length<=120/\
 ∀p F,L p=none->(∀x,x∈F↔x∈E)->Q (.ref p) (qh L p (.lst (nY F)))
def tLe(a:Addr)(R:Ru)(tl td J:Addr)(c:Option Y):x8:=[some (.ref a),some (qj R),some (.ref tl),some (.ref td),some (.ref J),c]
structure LeI(ks:List Kn)(R:Ru)(tk us:List Nat)(kvs:List (jm×Y))(st:List Ru):Prop where
 si:StI R tk st
 ui:UsI us kvs
 tq:(us++st.flatMap (iG ks)).Perm (iG ks R)
 sr:∀B∈st,∃EB,SR ks B EB
theorem afy:∀ys L Q,iR ys L Q->xl (aj2 vf) 6 ys L Q:=by
 rintro ys L Q ⟨a,wd,ks,R,E,rfl,ha,sr,ag,nd,tl,q⟩;have big:=bg_;have rd:=jo R;have rz:=vg R;have ar:=ahk sr nd;intro la a1 ta a4 l a2;have U:la≠ta:=k7 q8 a4;have t:ta≠l:=k7 q8 a2;have C:la≠l:=k7 ((qb U).trans q8) a2;have g:L ta=none:=jf a4;have a3:L l=none:=jf (jf a2);have S0:qf L (qh (qh (qh L la (.lst [])) ta (.dct [])) l (.lst [qj R])):=((By a1).trans (By a4)).trans (By a2);refine⟨λm τ T=>∃tk us J st c5,τ=tLe a R la ta l c5/\qf L T/\T la=some (.lst (nY tk))/\T ta=some (.dct J)/\T l=some (.lst (st.map qj))/\LeI ks R tk us J st/\m=(st.map zu).sum,⟨_,[],[],[],[R],_,rfl,S0,(qb C).trans ((qb U).trans q8),(qb t).trans q8,q8,⟨StI.start R,UsI.nil,by simp,λB hB=>by rw[Aj.mp hB];exact⟨E,sr⟩⟩,rfl⟩,?_⟩;rintro m τ T ⟨tk,us,J,st,c5,rfl,s,j,h3,r,I,rfl⟩;intro p hp;refine wf (n:=120) (m:=0) (by decide) (By hp _ _ r) q8 (aG λA hA=>AU (I.si.dp A hA) (by lia)) (.nil:Paired (jd _ 0) _ []) ?_;have s2:qf L (qh T p (.lst [])):=s.trans (By hp);replace j:=(qb (o:=.lst []) (k7 j hp)).trans j;replace h3:=(qb (o:=.lst []) (k7 h3 hp)).trans h3;replace r:=(qb (o:=.lst []) (k7 r hp)).trans r;generalize qh T p (.lst [])=L2 at s2 j h3 r ⊢;show wq (!(Da.eqs (st.map aZ) [])) _ _;rw[dy];have kl:=I.ui.len;have pl:=I.si.pt.length_eq;have ul:=I.tq.length_eq;rw[Ad] at pl ul;rcases BH st with rfl|⟨aP,A,rfl⟩
 ·refine xr rfl ?_;have pt:tk.Perm (qk R):=by have:=I.si.pt;simpa using this
  have pu:us.Perm (iG ks R):=by have:=I.tq;simpa using this
  refine jx j λkeep kp=>cw (λi zs=>zs=nY ((tk.take i).filter λx=>!decide (x∈us))) (by rw[wb];exact big _ (by lia)) (kp _ rfl) rfl ?_ ?_
  ·rintro i y zs hy rfl;obtain⟨x,ex,rfl⟩:=ie hy;refine xa h3 ?_;rw[I.ui.val];have et:tk.take (i+1)=tk.take i++[x]:=by rw[A3,ex];rfl
   by_cases c:x∈us
   ·refine xr (by rw[AH c];rfl) ⟨_,DW _,rfl,?_⟩;rw[et,Bk,Bt,AG (by simp[c])];simp
   ·refine wm (by rw[Ay c];rfl) ⟨_,DW _,rfl,?_⟩;rw[et,Bk,Bt,AF (by simp[c]),gc];rfl
  rintro zs rfl p5 h5;rw[wb,A6];refine wr (EW (s2.trans (By h5)) q8) (q p5 _ (s2.none h5) λx=>?_);rw[bB sr nd,AJ,pt.mem_iff,Cw,decide_eq_false_iff_not,pu.mem_iff]
 ·rw[BI] at *;rw[Ay (by simp)];refine wm rfl ⟨λa0 T=>∃m',m'<((aP++[A]).map zu).sum/\∃tk us J st c5,a0=tLe a R la ta l c5/\qf L T/\T la=some (.lst (nY tk))/\T ta=some (.dct J)/\T l=some (.lst (st.map qj))/\LeI ks R tk us J st/\m'=(st.map zu).sum,λa0 T h=>h,?_⟩;rw[Ak] at r;refine rQ r ?_;have s3:qf L (qh L2 l (.lst (aP.map qj))):=s2.upd a3;replace j:=(qb (o:=.lst (aP.map qj)) C).trans j;replace h3:=(qb (o:=.lst (aP.map qj)) t).trans h3;clear r;have r:qh L2 l (.lst (aP.map qj)) l=some (.lst (aP.map qj)):=q8;generalize qh L2 l (.lst (aP.map qj))=L3 at s3 j h3 r ⊢;obtain⟨EA,sA⟩:=I.sr A (Ae _ (Aj.mpr rfl));have tA:∀x∈qk A,x∈qk R:=λx hx=>I.si.pt.mem_iff.mp (Ae _ (AW.mpr ⟨A,Ae _ (Aj.mpr rfl),hx⟩));have kb:J.length+2<=20000:=by lia
  have tb:tk.length+2<=20000:=by lia
  refine⟨λa0 L4=>∃J,a0=tLe a R la ta l (some (qj A))/\qf L L4/\L4 la=some (.lst (nY (tk++aT A)))/\L4 ta=some (.dct J)/\L4 l=some (.lst (aP.map qj))/\UsI (us++tkO ks A) J,?_,?_⟩
  ·cases sA with
   |@link p0 q0=>
    refine qc j λp6 h6=>?_;have n6:la≠p6:=k7 j h6;refine qr ((qb n6).trans j) (qr q8 ⟨by rw[wb];exact Bf (big _ tb),?_⟩);refine⟨J,rfl,(s3.trans (By h6)).upd a1,by rw[q8,gc];rfl,?_,?_,by rw[show tkO ks (.link p0 q0)=[] from rfl,AS];exact I.ui⟩
    ·rw[qb (AI U)];exact By h6 _ _ h3
    ·rw[qb (AI C)];exact By h6 _ _ r
   |@cu p0 q0 A0 B0=>
    refine xa h3 ⟨big _ (by lia),?_⟩;have U1:=I.ui.put p0 (.bl true);have k1:=fQ J (.inl (p0:Int)) (.bl true);refine xa q8 ⟨big _ (by lia),?_⟩;have U2:=U1.put q0 (.bl true);rw[xz];refine⟨_,rfl,s3.upd g,by rw[qb U,j];simp[aT],q8,by rw[qb (AI t)];exact r,by rw[AD] at U2;exact U2⟩
   |@ei r0 i0 j0 A0 al _ hk=>
    have hw:=ag r0 (tA r0 (Af ..)) _ hk;refine qc j (qr j ⟨by rw[wb];exact big _ (by lia),?_⟩);have w1:=s3.upd (o:=.lst (nY tk++[.int (r0:Int)])) a1;have g3:qh L3 la (.lst (nY tk++[.int (r0:Int)])) ta=some (.dct J):=(qb (AI U)).trans h3;refine qc (w1 _ _ ha) (qo (jy hw) (xa g3 ⟨big _ (by lia),?_⟩));have U1:=I.ui.put i0 (.bl true);have k1:=fQ J (.inl (i0:Int)) (.bl true);have w2:=w1.upd (o:=.dct (iw J (.inl (i0:Int)) (.bl true))) g;refine qc (w2 _ _ ha) (qo (jy hw) (xa q8 ⟨big _ (by lia),?_⟩));have U2:=U1.put j0 (.bl true);rw[xz];refine⟨_,rfl,w1.upd g,by rw[qb U,q8,gc];rfl,q8,by rw[qb (AI t),qb (AI C)];exact r,?_⟩;rw[AD] at U2;have:tkO ks (.ei r0 A0)=[i0]++[j0]:=by show [x0 ks[r0]?].flatten=_;rw[hk];rfl
    rw[this];exact U2
   |@bo r0 i0 j0 A0 B0 al aH _ hk=>
    have hw:=ag r0 (tA r0 (Af ..)) _ hk;refine qc j (qr j ⟨by rw[wb];exact big _ (by lia),?_⟩);have w1:=s3.upd (o:=.lst (nY tk++[.int (r0:Int)])) a1;have g3:qh L3 la (.lst (nY tk++[.int (r0:Int)])) ta=some (.dct J):=(qb (AI U)).trans h3;refine qc (w1 _ _ ha) (qo (jy hw) (xa g3 ⟨big _ (by lia),?_⟩));have U1:=I.ui.put i0 (.bl true);have k1:=fQ J (.inl (i0:Int)) (.bl true);have w2:=w1.upd (o:=.dct (iw J (.inl (i0:Int)) (.bl true))) g;refine qc (w2 _ _ ha) (qo (jy hw) (xa q8 ⟨big _ (by lia),?_⟩));have U2:=U1.put j0 (.bl true);rw[xz];refine⟨_,rfl,w1.upd g,by rw[qb U,q8,gc];rfl,q8,by rw[qb (AI t),qb (AI C)];exact r,?_⟩;rw[AD] at U2;have:tkO ks (.bo r0 A0 B0)=[i0]++[j0]:=by show((x0 ks[r0]?).map λx=>[x]).flatten=_;rw[hk];rfl
    rw[this];exact U2
  ·rintro a0 L4 ⟨a5,rfl,s4,g1,g3,g4,U'⟩;refine qc g4 ⟨A,rfl,λp8 h8=>?_⟩;have l1:=I.si.step.sz;have l2:=ac5 (aP++qm A);rw[Ad] at l2;refine qr ((qb (k7 g4 h8)).trans g4) (qr q8 ⟨by rw[Ab,Ab];exact Bf (big _ (by lia)),?_⟩);refine⟨_,DW _,_,StI.lt (tk:=tk) (A:=R),tk++aT A,us++tkO ks A,a5,aP++qm A,_,rfl,(s4.trans (By h8)).upd a3,(qb C).trans ((qb (k7 g1 h8)).trans g1),(qb t).trans ((qb (k7 g3 h8)).trans g3),by rw[q8,Ak],⟨I.si.step,U',?_,λB hB=>?_⟩,by rw[Ak,BC]⟩
   ·refine List.Perm.trans ?_ I.tq;rw[AA,AA,Cs,ao ks A];refine Bx.mpr λz=>?_;simp only[Bh];lia
   ·rcases Ap.mp hB with hB|hB
    ·exact I.sr B (Ar _ hB)
    ·obtain⟨EA,sA⟩:=I.sr A (Ae _ (Aj.mpr rfl));exact sA.arm hB
def aj7(J:jn)(p1:jn):ku:=(qt (dU (eW (qz J (xu (qa 3)))) (aJ 2 (zq (qe 5) (zq (qe 6) wv))) (qt (zg (qz p1 (aW (qa 0) (qa 6))) (qe 7))
 (xt (gd (sN 1 (vv (qa 4)) (qe 8) (yB (zk (mL true) (qa 8) (qa 7))) (qa 8)) (ju zb)) (jb (qa 5)) jv)))
 (jb (yC .non)))
def ip:jn:=λys L Q=>∃a,∃wd:List (Option Kn),∃ks:List Kn,∃R:Ru,∃E:List Nat,∃k:Nat,∃J:Int,ys=[.ref a,qj R,.int J]/\J=(k:Int)/\L a=some (.lst (aM wd))/\SR ks R E/\vB ks wd R/\k<(qm R).length/\
 ∀p ts,L p=none->(jj ks R)[k]?=some ts->Q (.ref p) (qh L p (.lst (nY ts)))
theorem ab9:∀ys L Q,ip ys L Q->xl qU 3 ys L Q:=by
 rintro ys L Q ⟨a,wd,l,R,E,k,ki,rfl,rfl,o,I,t,g,q⟩;have two:∀{n:Nat},n<2->n=0\/n=1:=λh=>by lia
 cases I with
 |link=>cases g
 |@cu u v A B C T _ w hA hB h3 h4=>
  rcases two g with rfl|rfl
  ·exactλp J=>xi (q p _ J rfl)
  ·exactλp J=>xi (q p _ J rfl)
 |@ei r i j A C _ U=>
  obtain rfl:k=0:=by have:k<1:=g;lia
  refine qc o (qo (jy (t r (Af ..) _ U)) ⟨λz=>absurd z.1 (by show ¬1=0;decide),λp J=>xi (q p [i,j] J ?_)⟩);show [x0 l[r]?][0]?=_;rw[U];rfl
 |@bo r i j A B C T _ U=>
  have e:jj l (.bo r A B)=[[i],[j]]:=by show(x0 l[r]?).map (λx=>[x])=_;rw[U];rfl
  rw[e] at q;rcases two g with rfl|rfl
  ·exact qc o (qo (jy (t r (Af ..) _ U)) λp J=>xi (q p _ J rfl))
  ·exact qc o (qo (jy (t r (Af ..) _ U)) λp J=>xi (q p _ J rfl))
def goR(ks:List Kn)(R:Ru)(i:Int):Option Nat:=match j4 R i with
 |none=>none
 |some I=>xb I ((jj ks R)[i.toNat]?.getD [])
theorem mQ{j l ts:List Nat}(r:SR ks I j)(nd:(qk I).Nodup)(o:B∈qm I)(p:SR ks B l)(U:∀x∈ts,x∈j):(∀x∈ts,x∈l)↔aU ts B=true:=by
 have g:=(aA o).nodup nd;unfold aU;rw[BL];constructor
 ·intro h b t;obtain⟨x,J,rfl⟩:=AL.mp t;exact AH (p.sub x (h x J))
 ·intro h x J;have:=h _ (AL.mpr ⟨x,J,rfl⟩);rw[bB p g];refine⟨of_decide_eq_true this,λz=>((bB r nd x).mp (U x J)).2 ?_⟩;rw[ao];exact Ae _ (AW.mpr ⟨B,o,z⟩)
theorem ams{ts:List Nat}{x:Nat}(nd:(qk I).Nodup)(J:x∈aT I)(U:x∈ts):xb I ts=none:=by refine B3.mpr λB g=>?_;have e:=aK I;rw[e] at nd;have:=(Au.mp nd).2.2 x J;unfold aU;rw[Cd];intro h;have h:=BL.mp h _ (AL.mpr ⟨x,U,rfl⟩);exact this x (AW.mpr ⟨B,g,of_decide_eq_true h⟩) rfl
def iI:jn:=λys L Q=>∃a,∃wd:List (Option Kn),∃ks:List Kn,∃R:Ru,∃E:List Nat,∃i:Int,ys=[.ref a,qj R,.int i]/\L a=some (.lst (aM wd))/\SR ks R E/\vB ks wd R/\(qk R).Nodup/\(qk R).length<=120/\Q (ixY (goR ks R i)) L
theorem aeo:∀ys L Q,iI ys L Q->xl (tT vf ip iR) 8 ys L Q:=by
 rintro ys L Q ⟨a,wd,p,R,E,i,rfl,ha,sr,ag,nd,tl,q⟩;have big:=bg_;have no:¬(0<=i/\i<((qm R).length:Int))->Q .non L:=λc=>by
  have e:goR p R i=none:=by unfold goR j4;rw[AG c]
  rw[e] at q;exact q
 by_cases c1:i<0
 ·refine wm (AH c1) (xi (no (by lia)))
 refine xr (Ay c1) ⟨R,rfl,λp1 h1=>qc q8 ?_⟩;have s1:=By (o:=.lst ((qm R).map qj)) h1;by_cases c2:i<((qm R).length:Int)
 rotate_left
 ·refine wm (by show decide (i>=((((qm R).map qj).length:Nat):Int))=true;rw[Ab];exact AH (by lia)) (wr s1 (no λh=>c2 h.2))
 refine xr (by show decide (i>=((((qm R).map qj).length:Nat):Int))=false;rw[Ab];exact Ay (by lia)) ?_;obtain⟨k,rfl⟩:∃k:Nat,i=(k:Int):=⟨i.toNat,by lia⟩;have hk:k<(qm R).length:=by lia
 have pl:=EF sr.arms;have eI:(qm R)[k]?=some (qm R)[k]:=Ag hk;have l:(jj p R)[k]?=some ((jj p R)[k]'(by lia)):=Ag (by lia);generalize (qm R)[k]=I at eI;generalize (jj p R)[k]'(by lia)=ts at l;obtain⟨EI,sI,a3⟩:=EE sr.arms eI l;have mI:=Aw eI;have t:=(aA mI).nodup nd;have al:=(aA mI).length_le;have ar:=pD ts (Aw l);have a4:=ag.arm mI;have eG:goR p R (k:Int)=xb I ts:=by unfold goR j4;rw[AF ⟨by lia,c2⟩,AR,eI,l];rfl
 rw[eG] at q;clear eG no c1 c2;generalize qh L p1 (.lst ((qm R).map qj))=L1 at s1 ⊢;refine⟨R,rfl,λp2 h2=>qc q8 (qo (jy eI) ?_)⟩;have s2:=s1.trans (By (o:=.lst ((qm R).map qj)) h2);generalize qh L1 p2 (.lst ((qm R).map qj))=L2 at s2 ⊢;refine⟨a,wd,p,R,E,k,_,rfl,rfl,s2 _ _ ha,sr,ag,hk,λT aH h3 a1=>?_⟩;rw[l] at a1;cases a1;have s3:=s2.trans (By (o:=.lst (nY ts)) h3);have g3:qh L2 T (.lst (nY ts)) T=some (.lst (nY ts)):=q8;generalize qh L2 T (.lst (nY ts))=L3 at s3 g3 ⊢;have key:(∃x∈aT I,x∈ts)->dt Q .non L3:=λ⟨x,h1,h2⟩=>by rw[ams t h1 h2] at q;exact wr s3 q
 have tail:aj7 vf iR { nx:=λ_ J=>dt Q .non J,rt:=dt Q } [some (.ref a),some (qj R),some (.int (k:Int)),some (qj I),some (.ref T),none,none,none] L3:=by
  refine⟨I,rfl,λp4 h4=>?_⟩;have s4:=s3.trans (By (o:=.lst ((qm I).map qj)) h4);have a5:=By (o:=.lst ((qm I).map qj)) h4 _ _ g3;refine jx q8 λkeep kp=>vj ⟨λj τ J=>∃c5 c6 c7,τ=[some (.ref a),some (qj R),some (.int (k:Int)),some (qj I),some (.ref T),c5,c6,c7]/\qf L J/\J T=some (.lst (nY ts))/\J p4=some (.lst ((qm I).map qj))/\∀B∈(qm I).take j,aU ts B=false,⟨_,_,_,rfl,s4,a5,q8,λB hB=>by cases hB⟩,?_,?_,?_⟩
  ·rintro j τ J ⟨c5,c6,c7,rfl,s,_,g,_⟩;exact kp J (by rw[g,q8])
  ·rintro j y τ J hy ⟨c5,c6,c7,rfl,s,gt,g,U⟩;obtain⟨z,ez,rfl⟩:=cD hy;rw[An] at ez;obtain⟨B,eB,rfl⟩:=Ao.mp ez;have mB:=Aw eB;obtain⟨EB,sB⟩:=sI.arm mB;have aL:=(aA mB).length_le;have iff:=mQ sI t mB sB a3;refine⟨a,wd,p,B,EB,rfl,s _ _ ha,sB,a4.arm mB,(aA mB).nodup t,by lia,λp5 F h5 hF=>?_⟩;have s5:=s.trans (By (o:=.lst (nY F)) h5);have a0:=By (o:=.lst (nY F)) h5 _ _ gt;have g5:=By (o:=.lst (nY F)) h5 _ _ g;have e5:qh J p5 (.lst (nY F)) p5=some (.lst (nY F)):=q8;generalize qh J p5 (.lst (nY F))=L5 at s5 a0 g5 e5 ⊢;refine jx a0 λkeep kp=>cw (λi zs=>zs=nY ((ts.take i).filter λx=>!decide (x∈F))) (by rw[wb];exact big _ (by lia)) (kp _ rfl) rfl ?_ ?_
   ·rintro i y zs hy rfl;obtain⟨x,ex,rfl⟩:=ie hy;refine qc e5 ⟨rfl,qS _,?_⟩;rw[rj];have l:ts.take (i+1)=ts.take i++[x]:=by rw[A3,ex];rfl
    by_cases c:x∈F
    ·refine xr (by rw[AH c];rfl) ⟨_,DW _,rfl,?_⟩;rw[l,Bk,Bt,AG (by simp[c])];simp
    ·refine wm (by rw[Ay c];rfl) ⟨_,DW _,rfl,?_⟩;rw[l,Bk,Bt,AF (by simp[c]),gc];rfl
   rintro zs rfl p6 h6;rw[wb,A6];have s6:=s5.trans (By (o:=.lst (nY (ts.filter λx=>!decide (x∈F)))) h6);have a2:=By (o:=.lst (nY (ts.filter λx=>!decide (x∈F)))) h6 _ _ a0;have g6:=By (o:=.lst (nY (ts.filter λx=>!decide (x∈F)))) h6 _ _ g5;have e6:qh L5 p6 (.lst (nY (ts.filter λx=>!decide (x∈F)))) p6=some (.lst (nY (ts.filter λx=>!decide (x∈F)))):=q8;generalize qh L5 p6 (.lst (nY (ts.filter λx=>!decide (x∈F))))=L6 at s6 a2 g6 e6 ⊢;intro p7 h7;have s7:=s6.trans (By (o:=.lst []) h7);refine wf (n:=0) (m:=0) (by decide) (By h7 _ _ e6) q8 (by rw[aix];exact cV _) (.nil:Paired (jd _ 0) _ []) ?_;have nil:Da.eqs (((ts.filter λx=>!decide (x∈F)).map λn:Nat=>(n:Int)).map λx=>Da.s (.int x)) []=aU ts B:=by
    by_cases c:aU ts B=true
    ·rw[c,Ct.mpr λx hx=>by simp[(hF x).mpr (iff.mpr c x hx)]];rfl
    ·rw[Cd.mpr c];cases hf:ts.filter λx=>!decide (x∈F) with|nil=>exact absurd (iff.mp λx hx=>(hF x).mp (by have:=Ct.mp hf x hx;simpa using this)) c|cons x r=>rfl
   show wq (Da.eqs _ _) _ _;rw[nil];by_cases c:aU ts B=true
   ·refine wm c ?_;rw[show xb I ts=some j from pV eB U c] at q;exact wr s7 q
   ·refine xr (Cd.mpr c) ⟨_,DW _,_,_,_,rfl,s7,By h7 _ _ a2,By h7 _ _ g6,λC hC=>?_⟩;rw[A3,eB] at hC;rcases Ap.mp hC with hC|hC
    ·exact U C hC
    ·rw[Aj.mp hC];exact Cd.mpr c
  ·rintro τ J ⟨c5,c6,c7,rfl,s,_,g,U⟩;rw[cJ,Ab,A6] at U;rw[show xb I ts=none from B3.mpr U] at q;exact wr s q
 have ask:∀(x:Nat) {A B:Prop},(x∈ts->A)->(x∉ts->B)->fe L3 (.ref T) λys=>fv (.int (x:Int))=true/\ys.all fv=true/\wq (nb false (wC (gf (.int (x:Int))) (ys.map gf))) A B:=λx A B ha hb=>by
  refine qc g3 ⟨rfl,qS _,?_⟩;rw[rj];by_cases c:x∈ts
  ·exact wm (AH c) (ha c)
  ·exact xr (Ay c) (hb c)
 cases I with|link p0 q0=>exact ask p0 (λh=>key ⟨p0,Af ..,h⟩) λ_=>tail|ei r0 A0=>exact ask r0 (λh=>key ⟨r0,Af ..,h⟩) λ_=>tail|bo r0 A0 B0=>exact ask r0 (λh=>key ⟨r0,Af ..,h⟩) λ_=>tail|cu p0 q0 A0 B0=>exact tail
def mY(J:jn):ku:=(qt (zg (qz J (xu (qa 0))) (qe 3))
 (qt (zg (zk gY (cq 0) (cq 3)) (qe 4))
 (qt (adk (qa 3) (qa 1) (qa 2))
 (jb (zk t8 (sM oh (qa 0) kq (ww (qa 4))) (iW qF (xu (qa 3))))))))
def rG(J:jn)(p1:jn):ku:=(qt (zg (zk ai (qz J (xu (qa 0))) (qa 1)) (qe 3))
 (qt (zg (zk ai (qz J (xu (qa 3))) (qa 2)) (qe 4))
 (jb (qz p1 (qd (qa 3) (qd (qa 2) (qd (qz p1 (qd (qa 0) (aW (qa 1) (qa 4)))) zb)))))))
def zF(J:jn):ku:=(qt (dU (vv (qa 1)) (qe 2) (zg (zk ai (qz J (xu (qa 0))) (qa 2)) (qe 0)))
 (jb (qa 0)))
def oj(J:jn)(p1:jn)(p2:jn):ku:=(qt (xt (gd (qa 1) (ju zb)) (jb (qa 2)) jv)
 (jb (qz J (qd (qa 0) (qd (x4 1 0) (qd (qz p1 (qd (zk ai (qz p2 (xu (qa 0))) (x4 1 0)) (qd (sM rb (qa 1) (ww (jl 1)) kq) (xu (qa 2))))) zb))))))
theorem aef:∀ys L Q,bJ ys L Q->xl (mY vf) 5 ys L Q:=by
 rintro ys L Q ⟨R,A,n,l,rfl,rfl,U,q⟩;have two:∀{n:Nat},n<2->n=0\/n=1:=λh=>by lia
 refine⟨R,rfl,λp g=>?_⟩;have J:∀{o j:LO} {y:Y},Q y L->dt Q y (qh (qh L p o) p j):=λq=>by rw[xz];exact wr (By g) q
 cases R with
 |link a b=>cases U
 |ei r B=>
  obtain rfl:n=0:=by have:n<1:=U;lia
  exact qc q8 (qr q8 ⟨λz=>absurd z.2 (by show ¬2=3;decide),qr q8 ⟨Ba _ _,by show 3<=1000;decide,J q⟩⟩)
 |bo r B C=>
  rcases two U with rfl|rfl
  ·exact qc q8 (qr q8 ⟨λz=>absurd z.2 (by show ¬2=4;decide),qr q8 ⟨Ba _ _,by show 4<=1000;decide,J q⟩⟩)
  ·exact qc q8 (qr q8 ⟨λz=>absurd z.2 (by show ¬2=4;decide),qr q8 ⟨Ba _ _,by show 4<=1000;decide,J q⟩⟩)
 |cu a b B C=>
  rcases two U with rfl|rfl
  ·exact qc q8 (qr q8 ⟨λz=>absurd z.2 (by show ¬3=5;decide),qr q8 ⟨Ba _ _,by show 5<=1000;decide,J q⟩⟩)
  ·exact qc q8 (qr q8 ⟨λz=>absurd z.2 (by show ¬3=5;decide),qr q8 ⟨Ba _ _,by show 5<=1000;decide,J q⟩⟩)
def f7:jn:=λys L Q=>∃R I B:Ru,∃k n:Nat,∃J U:Int,ys=[qj R,.int J,.int U]/\J=(k:Int)/\U=(n:Int)/\(qm R)[k]?=some I/\(qm I)[n]?=some B/\Q (qj (qw I n (qw R k B))) L
theorem aak:∀ys L Q,f7 ys L Q->xl (rG vf bJ) 5 ys L Q:=by rintro ys L Q ⟨R,I,B,k,n,l,o,rfl,rfl,rfl,J,U,q⟩;refine⟨R,rfl,λp g=>qc q8 (qo (jy J) ?_)⟩;refine⟨I,rfl,λr j=>qc q8 (qo (jy U) ?_)⟩;exact⟨R,B,k,_,rfl,rfl,j6 J,⟨I,_,n,_,rfl,rfl,j6 U,wr ((By g).trans (By j)) q⟩⟩
theorem bN{w:List Int}(x:Int)(u:List Int):qy R (w++x::u)=match qy R w with|none=>none|some S=>qy S (x::u):=by
 induction w generalizing R with
 |nil=>rfl
 |cons i w J=>
  show(match j4 R i with|some B=>qy B (w++x::u)|none=>none)=match (match j4 R i with|some B=>qy B w|none=>none) with|none=>none|some S=>qy S (x::u)
  cases j4 R i with|none=>rfl|some B=>exact J
theorem acn{w:List Int}{x:Int}(h:w[i]?=some x):w.take (i+1)=w.take i++[x]/\w=w.take i++x::w.drop (i+1):=by have J:=j6 h;refine⟨by rw[A3,h];rfl,?_⟩;rw[Ag J] at h;rw[<-AN h,BU,A7]
def qO:jn:=λys L Q=>∃R S:Ru,∃h,∃w:List Int,ys=[qj R,.ref h]/\L h=some (.lst (w.map Y.int))/\qy R w=some S/\Q (qj S) L
theorem am0:∀ys L Q,qO ys L Q->xl (zF vf) 3 ys L Q:=by
 rintro ys L Q ⟨R,S,h,w,rfl,j,J,q⟩;refine jx j λkeep r=>vj ⟨λi g U=>∃c2 A,g=[some (qj A),some (.ref h),c2]/\qf L U/\qy R (w.take i)=some A,⟨_,R,rfl,DW _,rfl⟩,?_,?_,?_⟩
 ·rintro i g U ⟨c2,A,rfl,s,_⟩;exact r U (by rw[s _ _ j,j])
 ·rintro i y g U o ⟨c2,A,rfl,s,e⟩;rw[An] at o;obtain⟨x,ex,rfl⟩:=Ao.mp o;obtain⟨t,C⟩:=acn ex;rw[C,bN,e] at J;have J:(match j4 A x with|some B=>qy B _|none=>none)=some S:=J;cases l:j4 A x with
  |none=>rw[l] at J;cases J
  |some B=>
   obtain⟨k,rfl,I⟩:=x6 l;refine⟨A,rfl,λp T=>qc q8 (qo (jy I) ⟨_,DW _,_,B,rfl,s.trans (By T),?_⟩)⟩;rw[t,bN,e];show(match j4 A (k:Int) with|some B=>qy B []|none=>none)=_;rw[l];rfl
 ·rintro g U ⟨c2,A,rfl,s,e⟩;rw[Ab,A6,J] at e;cases e;exact wr s q
theorem aip(ys:List Y):gb (y::ys) (some 1) none=ys:=by have e:HT.sIx (ys.length+1) 0 (some ((1:Nat):Int))=1:=sIx_nat (by lia);show((y::ys).drop (HT.sIx (ys.length+1) 0 (some ((1:Nat):Int)))).take ((ys.length+1)-HT.sIx (ys.length+1) 0 (some ((1:Nat):Int)))=ys;rw[e];exact A5 (by simp)
def bL(n:Nat):jn:=λys L Q=>∃R S T:Ru,∃h,∃w:List Int,ys=[qj R,.ref h,qj T]/\L h=some (.lst (w.map Y.int))/\w.length+1<=n/\qy R w=some S/\Q (qj (zc R w T)) L
theorem abl:∀ys L Q,¬bL 0 ys L Q:=by rintro ys L Q ⟨R,S,T,h,w,_,_,z,_⟩;cases z
theorem aa4(n:Nat):∀ys L Q,bL (n+1) ys L Q->xl (oj bJ (bL n) vf) 3 ys L Q:=by
 rintro ys L Q ⟨R,S,T,h,w,rfl,U,hn,J,q⟩;intro p C;refine wf (n:=0) (m:=0) (by decide) (By C _ _ U) q8 (cV w) (.nil:Paired (jd _ 0) _ []) ?_;have g:=By (o:=.lst []) C;generalize qh L p (.lst [])=L1 at g ⊢;cases w with
 |nil=>exact wr g q
 |cons x w=>
  have J:(match j4 R x with|some B=>qy B w|none=>none)=some S:=J;cases l:j4 R x with
  |none=>rw[l] at J;cases J
  |some B=>
   rw[l] at J;have r:qy B w=some S:=J;obtain⟨k,rfl,I⟩:=x6 l;have q:Q (qj (match j4 R (k:Int) with|some B=>qw R (k:Int).toNat (zc B w T)|none=>R)) L:=q;rw[l,AR] at q;refine qc (g _ _ U) (qo (xq (j:=0) rfl) ⟨R,rfl,λp2 h2=>?_⟩);have t:=g.trans (By (o:=.lst ((qm R).map qj)) h2);refine qc (t _ _ U) (qo (xq (j:=0) rfl) (qc q8 (qo (jy I) ?_)));refine qc (t _ _ U) λp3 h3=>?_;rw[show gb (((k:Int)::w).map Y.int) (some 1) none=w.map Y.int from aip _];have s3:=t.trans (By (o:=.lst (w.map Y.int)) h3);exact⟨B,S,T,p3,w,rfl,q8,by simp at hn;lia,r,⟨R,_,k,_,rfl,rfl,j6 I,wr s3 q⟩⟩
theorem vn{w:List Int}(h:qy R w=some S):w.length+1<=j5 R/\S∈jg R:=by
 induction w generalizing R with
 |nil=>cases h;exact⟨oX _,by rw[aC];exact Af ..⟩
 |cons i w U=>
  have h:(match j4 R i with|some B=>qy B w|none=>none)=some S:=h;cases e:j4 R i with
  |none=>rw[e] at h;cases h
  |some B=>
   rw[e] at h;obtain⟨k,_,g⟩:=x6 e;have J:=Aw g;have:=v0 J;obtain⟨a,b⟩:=U h;exact⟨by rw[AQ];lia,by rw[aC];exact Ac _ (AW.mpr ⟨B,J,b⟩)⟩
theorem y4{k:Nat}{E:List Nat}(g:SR ks R E)(J:(qm R)[k]?=some I):∃ts,(jj ks R)[k]?=some ts/\goR ks R (k:Int)=xb I ts/\k6 ks R k=match xb I ts with|none=>none|some n=>match (qm I)[n]? with|some B=>some (qw I n (qw R k B))|none=>none:=by
 have j:=j6 J;have pl:=EF g.arms;have U:(jj ks R)[k]?=some ((jj ks R)[k]'(by lia)):=Ag (by lia);refine⟨_,U,?_,?_⟩
 ·unfold goR j4;rw[AF ⟨by lia,by lia⟩,AR,J,U];rfl
 ·unfold k6;rw[J,U];try rfl
theorem cf(R A:Ru)(k:Nat):qm (qw R k A)=(qm R).set k A:=by cases R<;>rcases k with _|_|k<;>rfl
theorem gq(R:Ru)(k:Nat)(A:Ru):aT (qw R k A)=aT R:=by cases R<;>rcases k with _|_|k<;>rfl
theorem ut(R:Ru)(k:Nat)(A:Ru):iH (qw R k A)=iH R:=by cases R<;>rcases k with _|_|k<;>rfl
theorem uM(R:Ru)(k:Nat)(A:Ru):iS (qw R k A)=iS R:=by cases R<;>rcases k with _|_|k<;>rfl
theorem yo(ks:List Kn)(R:Ru)(k:Nat)(A:Ru):tkO ks (qw R k A)=tkO ks R:=by cases R<;>rcases k with _|_|k<;>rfl
theorem pK(ks:List Kn)(R:Ru)(k:Nat)(A:Ru):jj ks (qw R k A)=jj ks R:=by cases R<;>rcases k with _|_|k<;>rfl
theorem yb(R A B:Ru)(k:Nat):qw (qw R k A) k B=qw R k B:=by cases R<;>rcases k with _|_|k<;>rfl
theorem ajm{A:Ru}{k:Nat}(h:(qm R)[k]?=some A):qw R k A=R:=by cases R<;>rcases k with _|_|k<;>first|rfl|(cases h;rfl)|cases h
theorem iU [DecidableEq α]{f own:Ru->List α}(J:∀R,f R=own R++(qm R).flatMap f)(U:∀R k A,own (qw R k A)=own R){A:Ru}{k:Nat}(h:(qm R)[k]?=some B)(x:α):(f (qw R k A)).count x+(f B).count x=(f R).count x+(f A).count x:=by
 have key:∀(l:List Ru) (k:Nat),l[k]?=some B->((l.set k A).flatMap f).count x+(f B).count x=(l.flatMap f).count x+(f A).count x:=by
  intro l
  induction l with
  |nil=>intro k h;cases h
  |cons c l g=>
   intro k h;cases k with
   |zero=>
    cases h;rw[List.set_cons_zero,AM,AM,Bh,Bh];lia
   |succ k=>
    have:=g k h;rw[List.set_cons_succ,AM,AM,Bh,Bh];lia
 have:=key _ _ h;rw[J (qw R k A),J R,U,cf,Bh,Bh];lia
theorem oB{T:Ru}{k:Nat}(h:k6 ks R k=some T):∃I ts n B,(qm R)[k]?=some I/\(jj ks R)[k]?=some ts/\xb I ts=some n/\(qm I)[n]?=some B/\aU ts B=true/\T=qw I n (qw R k B):=by
 unfold k6 at h;split at h
 ·rename_i I ts j l;split at h
  ·cases h
  ·rename_i n U;split at h
   ·rename_i B g;cases h;obtain⟨o,J,tb⟩:=lZ U;rw[g] at J;cases J;exact⟨I,ts,n,B,j,l,U,g,tb,rfl⟩
   ·cases h
 ·cases h
theorem cH [DecidableEq α]{f own:Ru->List α}(J:∀R,f R=own R++(qm R).flatMap f)(U:∀R k A,own (qw R k A)=own R){T:Ru}{k:Nat}(h:k6 ks R k=some T):(f T).Perm (f R):=by obtain⟨I,ts,n,B,g,_,_,j,_,rfl⟩:=oB h;refine Bx.mpr λx=>?_;have l:=iU J U (A:=qw R k B) j x;have o:=iU J U (A:=B) g x;lia
theorem lM [DecidableEq α]{f own:Ru->List α}(J:∀R,f R=own R++(qm R).flatMap f)(U:∀R k A,own (qw R k A)=own R){T:Ru}{w:List Int}(h:qy R w=some S)(p:(f T).Perm (f S)):(f (zc R w T)).Perm (f R):=by
 refine Bx.mpr λx=>?_;have e:=p.count_eq x
 induction w generalizing R with
 |nil=>cases h;exact e
 |cons i w g=>
  have h:(match j4 R i with|some B=>qy B w|none=>none)=some S:=h;show(f (match j4 R i with|some B=>qw R i.toNat (zc B w T)|none=>R)).count x=_;cases ei:j4 R i with
  |none=>rfl
  |some B=>
   rw[ei] at h;have l:=g (show qy B w=some S from h);obtain⟨k,rfl,j⟩:=x6 ei;have o:=iU J U (A:=zc B w T) j x;show(f (qw R (k:Int).toNat (zc B w T))).count x=_;rw[AR];lia
def yW(ks:List Kn):Ru->Prop
 |.link p q=>p<q/\∃t n,ks[p]?=some (.lf t n)/\ks[q]?=some (.lf (!t) n)
 |.ei r _=>∃i j,ks[r]?=some (.nd true i j)/\i≠j
 |.bo r _ _=>∃i j,ks[r]?=some (.nd false i j)
 |.cu p q _ _=>∃w,ck ks p w/\ck ks q w.turn
theorem oM(h:yW ks R)(k:Nat)(A:Ru):yW ks (qw R k A):=by cases R<;>rcases k with _|_|k<;>exact h
theorem SR.own{E:List Nat}(h:SR ks R E):yW ks R:=by cases h with|link J g j=>exact⟨J,_,_,g,j⟩|ei J _ _ _ U=>exact⟨_,_,J,U⟩|bo J=>exact⟨_,_,J⟩|cu _ _ _ _ U l=>exact⟨_,U,l⟩
theorem SR.nodup{E:List Nat}(h:SR ks R E):E.Nodup:=by cases h<;>assumption
theorem SR.same{E p:List Nat}(h:SR ks R E)(n:p.Nodup)(e:∀x,x∈p↔x∈E):SR ks R p:=by cases h with|link J U g j l=>exact .link J U g (λx=>(e x).trans (j x)) n|ei J U g j l o r=>exact .ei J U g j l (λx=>(e x).trans (o x)) n|bo J U g j l o r=>exact .bo J U g j l (λx=>(e x).trans (o x)) n|cu J U g j l o r t=>exact .cu J U g j l o (λx=>(e x).trans (r x)) n
theorem SR.make(o:yW ks R)(p:Paired (λA ts=>∃J,SR ks A J/\∀x∈ts,x∈J) (qm R) (jj ks R))(nd:(qk R).Nodup):∃E,SR ks R E:=by
 cases R with
 |link a b=>
  obtain⟨I,t,n,T,h3⟩:=o;exact⟨[a,b],.link I T h3 (λx=>by simp) (by simp;lia)⟩
 |ei r A=>
  obtain⟨i,j,e,ne⟩:=o;have et:jj ks (.ei r A)=[[i,j]]:=by show [x0 ks[r]?]=_;rw[e];rfl
  rw[et] at p;cases p with
  |cons h _=>
   obtain⟨J,sA,l⟩:=h;obtain⟨nr,C⟩:=Av.mp nd;refine⟨r::J.filter λx=>!decide (x=i)&&!decide (x=j),.ei e sA (l i (by simp)) (l j (by simp)) ne (λx=>?_) ?_⟩
   ·simp;constructor
    ·rintro(h|h)
     ·exact .inr h
     ·exact .inl h
    ·rintro(h|h)
     ·exact .inr h
     ·exact .inl h
   ·exact Av.mpr ⟨λm=>nr (sA.sub _ (AJ.mp m).1),sA.nodup.filter _⟩
 |bo r A B=>
  obtain⟨i,j,e⟩:=o;have et:jj ks (.bo r A B)=[[i],[j]]:=by show(x0 ks[r]?).map (λx=>[x])=_;rw[e];rfl
  rw[et] at p;cases p with
  |cons h t=>
   cases t with
   |cons g _=>
    obtain⟨J,sA,l⟩:=h;obtain⟨EB,U,gx⟩:=g;obtain⟨nr,C⟩:=Av.mp nd;refine⟨r::((J.filter λx=>!decide (x=i))++EB.filter λx=>!decide (x=j)),.bo e sA U (l i (by simp)) (gx j (by simp)) (λx=>?_) ?_⟩
    ·simp;constructor
     ·rintro(h|h|h)
      ·exact .inr (.inr h)
      ·exact .inl h
      ·exact .inr (.inl h)
     ·rintro(h|h|h)
      ·exact .inr (.inl h)
      ·exact .inr (.inr h)
      ·exact .inl h
    ·refine Av.mpr ⟨λm=>nr ?_,Au.mpr ⟨sA.nodup.filter _,U.nodup.filter _,λx hA y hB e=>?_⟩⟩
     ·rcases Ap.mp m with m|m
      ·exact Ar _ (sA.sub _ (AJ.mp m).1)
      ·exact Ae _ (U.sub _ (AJ.mp m).1)
     ·exact(Au.mp C).2.2 x (sA.sub _ (AJ.mp hA).1) y (U.sub _ (AJ.mp hB).1) e
 |cu a b A B=>
  obtain⟨w,I,T⟩:=o;cases p with
  |cons h t=>
   cases t with
   |cons g _=>
    obtain⟨J,sA,l⟩:=h;obtain⟨EB,U,gx⟩:=g;refine⟨(J.filter λx=>!decide (x=a))++EB.filter λx=>!decide (x=b),.cu sA U (l a (by simp)) (gx b (by simp)) I T (λx=>by simp) ?_⟩;exact Au.mpr ⟨sA.nodup.filter _,U.nodup.filter _,λx hA y hB e=>(Au.mp nd).2.2 x (sA.sub _ (AJ.mp hA).1) y (U.sub _ (AJ.mp hB).1) e⟩
theorem re{A:Ru}{k:Nat}(h:k<(qm R).length):(qm (qw R k A))[k]?=some A:=by rw[cf,BS h]
theorem g9{α β:Type}{F:α->β->Prop}:∀{xs:List α} {ys:List β} {k:Nat} {a:α} {b:β},Paired F xs ys->ys[k]?=some b->F a b->Paired F (xs.set k a) ys
 |_,_,_,_,_,.nil,h,_=>by cases h
 |_,_,0,_,_,.cons p t,h,f=>by cases h;exact .cons f t
 |_,_,k+1,_,_,.cons p t,h,f=>.cons p (g9 t h f)
theorem SR.at_{A:Ru}{E ts:List Nat}{k:Nat}(U:SR ks R E)(h:(qm R)[k]?=some A)(g:(jj ks R)[k]?=some ts):∃J,SR ks A J/\∀x∈ts,x∈J:=EE U.arms h g
theorem tF{A:Ru}{E:List Nat}{k:Nat}(J:SR ks R E)(h:(qm R)[k]?=some A):∃ts,(jj ks R)[k]?=some ts:=⟨_,Ag (by have:=j6 h;have:=EF J.arms;lia)⟩
theorem ac6{E ts:List Nat}{k:Nat}(l:SR ks R E)(h:(jj ks R)[k]?=some ts):ts≠[]/\∀x∈ts,x∈iG ks R:=by
 have e:∀x,x∈ts->x∈tkO ks R:=λx J=>List.mem_flatten.mpr ⟨ts,Aw h,J⟩;refine⟨?_,λx J=>by rw[ao];exact Ar _ (e x J)⟩;have m:=Aw h;cases l with
 |link=>cases m
 |@ei r i j A o _ U=>
  have g:jj ks (.ei r A)=[[i,j]]:=by show [x0 ks[r]?]=_;rw[U];rfl
  rw[g] at m;rw[Aj.mp m];simp
 |@bo r i j A B o p _ U=>
  have g:jj ks (.bo r A B)=[[i],[j]]:=by show(x0 ks[r]?).map (λx=>[x])=_;rw[U];rfl
  rw[g] at m;rcases Am.mp m with rfl|m
  ·simp
  ·rw[Aj.mp m];simp
 |@cu u v A B=>
  rcases Am.mp m with rfl|m
  ·simp
  ·rw[Aj.mp m];simp
theorem adr{E:List Nat}(h:SR ks R E)(nd:(qk R).Nodup):(iG ks R).Nodup:=by have P:(iG ks R++E).Perm (qk R):=((h.tk.append_right E).trans (by rw[AD])).trans (h.part nd);exact(Au.mp (P.nodup_iff.mpr nd)).1
theorem ajs{T:Ru}{E:List Nat}{k:Nat}(J:SR ks R E)(nd:(qk R).Nodup)(h:k6 ks R k=some T):SR ks T E:=by
 have pt:=cH aK gq h;have pk:=cH (ao ks) (yo ks) h;obtain⟨I,ts,n,B,g,et,hn,t,tb,rfl⟩:=oB h;obtain⟨EI,U,C⟩:=J.at_ g et;obtain⟨us,eu⟩:=tF U t;obtain⟨EB,sB,a0⟩:=U.at_ t eu;have mI:=Aw g;have mB:=Aw t;have j:=(aA mI).nodup nd;have a1:=(mQ U j mB sB C).mpr tb;have l:(qk (qw R k B)).Nodup:=by refine C5.mpr λx=>?_;have h1:=iU aK gq (A:=B) g x;have h2:=(aA mB).count_le x;have h3:=C5.mp nd x;lia
 obtain⟨p,o⟩:∃p,SR ks (qw R k B) p:=SR.make (oM J.own _ _) (by rw[cf,pK];exact g9 J.arms et ⟨EB,sB,a1⟩) l;have r:∀x∈us,x∈p:=λx r=>by rw[bB o l];have xB:=(bB sB ((aA mB).nodup j) x).mp (a0 x r);refine⟨(aA (Aw (re (j6 g)))).subset xB.1,λm=>?_⟩;have h1:=iU (ao ks) (yo ks) (A:=B) g x;have h2:=C5.mp (adr J nd) x;have h3:=List.count_eq_zero.mpr xB.2;have h4:=List.count_pos_iff.mpr ((ac6 U eu).2 x r);have h5:=List.count_pos_iff.mpr m;lia
 obtain⟨ET,sT⟩:∃ET,SR ks (qw I n (qw R k B)) ET:=SR.make (oM U.own _ _) (by rw[cf,pK];exact g9 U.arms eu ⟨p,o,r⟩) (pt.nodup_iff.mpr nd);refine sT.same J.nodup λx=>?_;rw[bB J nd,bB sT (pt.nodup_iff.mpr nd),pt.mem_iff,pk.mem_iff]
theorem aeh{T:Ru}{w:List Int}(h:qy R w=some S):qy (zc R w T) w=some T:=by
 induction w generalizing R with
 |nil=>rfl
 |cons i w U=>
  replace h:(match j4 R i with|some B=>qy B w|none=>none)=some S:=h;show qy (match j4 R i with|some B=>qw R i.toNat (zc B w T)|none=>R) (i::w)=_;cases ei:j4 R i with
  |none=>rw[ei] at h;cases h
  |some B=>
   rw[ei] at h;obtain⟨k,rfl,J⟩:=x6 ei;show qy (qw R (k:Int).toNat (zc B w T)) ((k:Int)::w)=_;rw[AR];show(match j4 (qw R k (zc B w T)) (k:Int) with|some B=>qy B w|none=>none)=_;have g:j4 (qw R k (zc B w T)) (k:Int)=some (zc B w T):=by unfold j4;have:=j6 J;rw[AF ⟨by lia,by rw[cf,DM];lia⟩,AR,re (j6 J)]
   rw[g];exact U h
theorem adu{T:Ru}{w:List Int}(h:qy R w=some S):zc (zc R w T) w S=R:=by
 induction w generalizing R with
 |nil=>cases h;rfl
 |cons i w U=>
  replace h:(match j4 R i with|some B=>qy B w|none=>none)=some S:=h;cases ei:j4 R i with
  |none=>rw[ei] at h;cases h
  |some B=>
   rw[ei] at h;have g:zc R (i::w) T=qw R i.toNat (zc B w T):=by show(match j4 R i with|some B=>qw R i.toNat (zc B w T)|none=>R)=_;rw[ei]
   obtain⟨k,rfl,J⟩:=x6 ei;rw[g,AR];show(match j4 (qw R k (zc B w T)) (k:Int) with|some j=>qw (qw R k (zc B w T)) (k:Int).toNat (zc j w S)|none=>qw R k (zc B w T))=_;have l:j4 (qw R k (zc B w T)) (k:Int)=some (zc B w T):=by unfold j4;have:=j6 J;rw[AF ⟨by lia,by rw[cf,DM];lia⟩,AR,re (j6 J)]
   rw[l];show qw (qw R k (zc B w T)) (k:Int).toNat (zc (zc B w T) w S)=R;rw[AR,yb,U h,ajm J]
theorem SR.set{A r:Ru}{E:List Nat}{k:Nat}(I:SR ks R E)(h:(qm R)[k]?=some A)(f:∀t,SR ks A t->SR ks r t):SR ks (qw R k r) E:=by
 cases I with
 |link=>cases h
 |ei J U g j l o p=>
  rcases k with _|k
  ·cases h;exact .ei J (f _ U) g j l o p
  ·cases h
 |bo J U g j l o p=>
  rcases k with _|_|k
  ·cases h;exact .bo J (f _ U) g j l o p
  ·cases h;exact .bo J U (f _ g) j l o p
  ·cases h
 |cu J U g j l o p C=>
  rcases k with _|_|k
  ·cases h;exact .cu (f _ J) U g j l o p C
  ·cases h;exact .cu J (f _ U) g j l o p C
  ·cases h
theorem ao1{T:Ru}{w:List Int}(h:qy R w=some S)(f:∀J,SR ks S J->SR ks T J):∀E,SR ks R E->SR ks (zc R w T) E:=by
 induction w generalizing R with
 |nil=>cases h;exact f
 |cons i w g=>
  intro E U;replace h:(match j4 R i with|some B=>qy B w|none=>none)=some S:=h;show SR ks (match j4 R i with|some B=>qw R i.toNat (zc B w T)|none=>R) E;cases ei:j4 R i with
  |none=>exact U
  |some B=>
   rw[ei] at h;obtain⟨k,rfl,j⟩:=x6 ei;show SR ks (qw R (k:Int).toNat (zc B w T)) E;rw[AR];exact U.set j (g h)
def iz(J:jn):ku:=(qt (zg (ju zb) (qe 2))
 (qt (zg (qz J (xu (qa 0))) (qe 3))
 (qt (eQ (vJ (rdN (qa 3) (ju zb)) (yB (zk yGt (zk w5 (qa 1) (jl 6)) (jl 0)))) (qt (jr (aj jc (qa 2) (qd (zk w5 (zk az (qa 1) (jl 6)) (cq 3)) zb)))
 (qt (zg (qz J (qd (zk ai (qa 3) (zk ai (qa 2) (yUn uL (jl 1)))) zb)) (qe 3))
 (zg (zk w5 (zk o9 (qa 1) (jl 48271)) (jl 2147483647)) (qe 1)))))
 (jb (qa 2)))))
def aic(J:jn)(p1:jn):ku:=(qt (xt (rdN (zk w5 (zk az (qa 2) (jl 5)) (jl 4)) (jl 1)) (jb (rdT (qa 0) (qa 1))) jv)
 (qt (zg (qz J (qd (qa 1) (qd (zk w5 (zk o9 (qa 2) (jl 69621)) (jl 2147483647)) zb))) (qe 1))
 (qt (zg (zk ai (qz p1 (xu (qa 1))) (jl 2)) (qe 3))
 (jb (k8 (qd (sN 1 (rD (xu (cq 0))) (qe 4) wI (yIf (yB (zk (aac false) (qa 4) (qa 3))) (zk ai (qa 0) (qa 4)) (yC .non))) (xu (qa 1))))))))
theorem iE(R:Ru)(k:Nat):j4 R (k:Int)=(qm R)[k]?:=by
 unfold j4;split
 ·rw[AR]
 ·rename_i c;rw[BY (by lia)]
def mx:jn:=λys L Q=>∃R:Ru,∃n:Int,ys=[qj R,.int n]/\(qk R).length<=120/\∀(w:List Int) p,L p=none->w.length<=120->(∃S,qy R w=some S)->Q (.ref p) (qh L p (.lst (w.map Y.int)))
theorem afr:∀ys L Q,mx ys L Q->xl (iz vf) 4 ys L Q:=by
 rintro ys L Q ⟨R,n,rfl,tl,q⟩;have big:=bg_;have rd:=jo R;intro l hl;refine⟨R,rfl,λp1 C=>?_⟩;have n1:l≠p1:=k7 q8 C;have done:∀J (w:List Int),qf L J->J l=some (.lst (w.map Y.int))->w.length<=120->(∃S,qy R w=some S)->dt Q (.ref l) J:=λJ w s g hw hr=>wr (EW s g) (q w l hl hw hr);refine⟨λm τ J=>∃A n w t,τ=[some (qj R),some (.int n),some (.ref l),some (.ref t)]/\qf L J/\J l=some (.lst ((w:List Int).map Y.int))/\J t=some (.lst ((qm A).map qj))/\w.length+j5 A<=j5 R/\qy R w=some A/\m=j5 A,⟨_,R,n,[],p1,rfl,(By hl).trans (By C),(qb n1).trans q8,q8,by simp,rfl,rfl⟩,?_⟩;rintro m τ J ⟨A,n,w,t,rfl,s,gl,ga,hw,er,rfl⟩;intro p2 h2;have T:=s.trans (By (o:=.lst []) h2);have U:=By (o:=.lst []) h2 _ _ gl;have p:=By (o:=.lst []) h2 _ _ ga;refine wf (n:=120) (m:=0) (by decide) p q8 (aG λB hB=>by have:=v0 hB;lia) (.nil:Paired (jd _ 0) _ []) ?_;generalize qh J p2 (.lst [])=L2 at T U p ⊢;show wq (!(Da.eqs ((qm A).map aZ) [])) _ _;rw[dy];by_cases c:qm A=[]
 ·refine xr (by rw[AH c];rfl) ?_;exact xr rfl (done _ w T U (by lia) ⟨_,er⟩)
 ·refine wm (by rw[Ay c];rfl) ⟨(show(0:Int)<6 by decide),?_⟩;refine xn (λc6=>?_) λc6=>done _ w T U (by lia) ⟨_,er⟩;refine⟨λa0 J=>∃m',m'<j5 A/\∃A n w t,a0=[some (qj R),some (.int n),some (.ref l),some (.ref t)]/\qf L J/\J l=some (.lst ((w:List Int).map Y.int))/\J t=some (.lst ((qm A).map qj))/\w.length+j5 A<=j5 R/\qy R w=some A/\m'=j5 A,λ_ _ h=>h,?_⟩;have hz:0<(qm A).length:=List.length_pos_iff.mpr c;obtain⟨j,B,ej,lj,eB⟩:=jP hz (n / 6);have mB:=Aw eB;have dB:=v0 mB;have lm:((qm A).map qj).length=(qm A).length:=Ab ..;refine qc U ⟨⟨by decide,by decide⟩,qc p ⟨(by show(0:Int)<(((qm A).map qj).length:Int);rw[lm];lia),qr U ⟨by rw[Ab];exact big _ (by lia),?_⟩⟩⟩;have ev:(λi j:Int=>Y.int (i % j)) (n / 6) (((qm A).map qj).length:Int)=.int (j:Int):=by show Y.int _=_;rw[lm,ej]
  rw[ev];have e3:qh L2 l (.lst (w.map Y.int++[.int (j:Int)])) l=some (.lst (w.map Y.int++[.int (j:Int)])):=q8;have a1:t≠l:=λz=>by
   rw[z,U] at p;have:=AN p;injection this with this
   cases hA:qm A with
   |nil=>exact c hA
   |cons x r=>
    rw[hA] at this;cases w with
    |nil=>cases this
    |cons y w=>
     obtain⟨zs,e⟩:=sD x;injection this with C _
     rw[e] at C;cases C
  have I:qh L2 l (.lst (w.map Y.int++[.int (j:Int)])) t=some (.lst ((qm A).map qj)):=(qb a1).trans p;have s3:=T.upd (o:=.lst (w.map Y.int++[.int (j:Int)])) hl;generalize qh L2 l (.lst (w.map Y.int++[.int (j:Int)]))=L3 at e3 I s3 ⊢;refine qc e3 (qo (eh _ _) (qc I (qo (jy eB) ⟨B,rfl,λp5 h5=>?_⟩)));exact⟨.inr ⟨by decide,by decide⟩,(show(0:Int)<2147483647 by decide),_,DW _,j5 B,dB,B,_,w++[(j:Int)],p5,rfl,s3.trans (By h5),by rw[By h5 _ _ e3,Ak];rfl,q8,by rw[Ad,BF];lia,by rw[bN,er];show(match j4 A (j:Int) with|some B=>qy B []|none=>none)=some B;rw[iE,eB];rfl,rfl⟩
theorem oy{L:qu}{n:Nat}:∀xs:List Int,Paired (jd L n) (xs.map Y.int) (xs.map λx=>Da.s (.int x))
 |[]=>.nil
 |x::r=>.cons (EJ x) (oy r)
theorem aar{A:Ru}(h:j5 A<=n):jd L n (qj A) (aZ A):=by
 have:=aG (L:=L) (n:=n) (st:=[A]) λB J=>by rw[Aj.mp J];exact h
 cases this with|cons a _=>exact a
def lz:jn:=λys L Q=>∃a,∃ks:List Kn,∃R:Ru,∃E:List Nat,∃n:Int,ys=[.ref a,qj R,.int n]/\L a=some (.lst (ji ks))/\TrO ks R E/\(qk R).Perm (List.range ks.length)/\
 ∀J R' U wd L',qf L L'->L' J=some (.lst (aM wd))->SR ks R' U->vB ks wd R'->(qk R').Nodup->(qk R').length<=96->wd.length<=96->Q (.tup [.ref J,qj R']) L'
theorem adb:∀ys L Q,lz ys L Q->xl (aic jM sE) 4 ys L Q:=by
 rintro ys L Q ⟨a,J,R,E,n,rfl,p,T,tp,q⟩;have big:=bg_;have r:=T.len;refine⟨⟨by decide,by decide⟩,(show(0:Int)<4 by decide),?_⟩;by_cases c:n / 5 % 4=1
 ·refine xr (by show(!decide (n / 5 % 4=1))=false;rw[AH c];rfl) ?_;refine⟨.inr ⟨by decide,by decide⟩,(show(0:Int)<2147483647 by decide),R,_,rfl,T.small,λB I=>?_⟩;obtain⟨EB,j⟩:=T.inner I;refine⟨B,rfl,j.small,λla ca ta lk ct a0 L3 t _ _ _ _ _ g3 _ _ hv=>?_⟩;have U:=t _ _ p;have g:(ji J).length=J.length:=Ab ..;refine qc U ⟨⟨A9 _,by rw[g];lia⟩,?_⟩;rw[g,AR];refine aft (λi l=>l=aM ((se J (qk B)).take i)) (big _ (by lia)) rfl ?_ ?_
  ·rintro i l o rfl;have C:(se J (qk B)).take (i+1)=(se J (qk B)).take i++[if i∈qk B then J[i]? else none]:=by rw[A3,wW o];rfl
   refine xa g3 ?_;rw[show(Sum.inl (0+(i:Int)):jm)=.inl (i:Int) by rw[Int.zero_add],hv];by_cases c:i∈qk B
   ·refine wm (AH c) (qc U (qo (v:=m9 J[i]) (by rw[Int.zero_add];exact jy (Ag o)) ⟨_,DW _,rfl,?_⟩));rw[C,AF c,Ag o,<-tV];rfl
   ·refine xr (Ay c) ⟨_,DW _,rfl,?_⟩;rw[C,AG c,<-tV];rfl
  rintro l rfl p7 h7;have:(se J (qk B)).take J.length=se J (qk B):=A5 (by rw[fZ];exact Al _);rw[this];exact xi (q p7 B EB _ _ (t.trans (By h7)) q8 j.sr (ala J B) j.nd j.small (by rw[fZ];exact r))
 ·refine wm (by show(!decide (n / 5 % 4=1))=true;rw[Ay c];rfl) ?_;exact xi (q a R E (J.map some) L (DW _) (by rw[au];exact p) T.sr (λx _ k e=>by rw[An,e];rfl) T.nd T.small (by rw[Ab];exact r))
end L3
namespace L2
open PySem PySem.W
section
variable {K:Ah}(T:K.lookup Pt=some (PySem.W.tabObj #[]))
include T
theorem yh{N:Addr}:nsOkIn (lessK Pt K) N=nsOkIn K N:=by
 unfold nsOkIn;by_cases d:N=Pt
 ·subst d;rw[we,T]
 ·rw[vi d]
theorem yF{bm:List Value}:∀l:List Value,tailIn (lessK Pt K) bm l=tailIn K bm l
 |[]=>rfl
 |v::r=>by
  unfold tailIn;congr 1;split
  ·rename_i A;by_cases d:A=Pt
   ·subst d;rw[we,T]
   ·rw[vi d];split
    ·rw[yh T,ns_dn T rfl,yF r]
    ·rfl
  ·rfl
theorem exc_dn{bm:List Value}{i:String}(e:excIn K C bm i=true):excIn (lessK Pt K) C bm i=true:=by
 unfold excIn at e ⊢;by_cases d:C=Pt
 ·subst d;rw[T] at e;cases e
 ·rw[vi d];split at e
  ·split at e
   ·rw[yF T,yh T,ns_dn T rfl];exact e
   ·cases e
  ·cases e
end
section
variable {K:Ah}(T:K.lookup Pt=some (PySem.W.tabObj #[]))
include T
end
end L2
namespace L3
open PySem L2
open PySem L2 Words
theorem cK:∀R:Ru,j5 R<=zu R
 |.link _ _=>Al _
 |.ei _ A=>Dy (cK A)
 |.bo _ A B=>by have J:=cK A;have U:=cK B;show max (j5 A) (j5 B)+1<=zu A+zu B+1;lia
 |.cu _ _ A B=>by have J:=cK A;have U:=cK B;show max (j5 A) (j5 B)+1<=zu A+zu B+1;lia
end L3
namespace L2
open PySem PySem.Spec PyProof.Rows
section
variable {w:World}
end
def Itd(n:Nat):It:=⟨λi _=>i<n,λi H x H'=>H'=H/\x=.int ((n:Int)-1-i),λi _=>n<=i⟩
theorem abd{P:Program}{w:World}{K:Ah}(it:Addr)(n:Nat):xR P w K tg (Itd n) [it] it (λi h=>IsRangeIter h it ((n:Int)-1+(i:Nat)*(-1)) ((n:Int)-(i:Nat)) (-1)) where
 mem:=by simp
 obj:=λi h st b U=>by
  have e:b=it:=by simpa using U
  subst e;exact⟨_,st,λv z=>by have z':Data.fields _=Data.cell v:=z;cases z'⟩
 keep:=λi h j st k=>k it (by simp) _ st
 item:=by intro X p hw r C i J s σ H E I l st T;subst p hw r;obtain⟨f0,f1,f2,f3,f4,f5⟩:=l it (by simp);have W:=Walks.range (prog:=X.prog) (w:=X.w) (I.ok.hd C) it ((n:Int)-1) (-1) n;refine xg I.tk (W.item i s _ _ T st λv j tk hv g kk ht=>?_);obtain⟨t,rfl⟩:=hv;have I1:zd X J σ H { s with heap:=j,toks:=tk }:=I.turned (λb o U e=>kk b o (by simpa using U) e) f0 f1 f3 f4 f5;refine⟨_,rfl,sd (s:={ s with heap:=j,toks:=tk }) (n:="range_iterator") g rfl rfl (by decide) ⟨.int ((n:Int)-1-i),H,I1,⟨t,?_⟩,⟨rfl,rfl⟩,g,λb U=>(l b U).1⟩⟩;congr 1;omega
 done:=by intro X p hw r C i J s σ H E I l st T;subst p hw r;obtain⟨f0,f1,f2,f3,f4,f5⟩:=l it (by simp);exact wpAny_pyNext_range_end (I.ok.hd C) st (by have:n<=i:=T;omega) λj eb=>⟨rfl,I.turned (t':=s.toks) (λb o U e=>eb b o U e) f0 f1 f3 f4 f5⟩
 self:=λ_ _ _ _ _ st h=>wpAny_pyIter_rangeiter st h
end L2
namespace L3
open PySem L2
def iP(n:Nat):List Y:=(List.range n).map λk=>.int ((n:Int)-1-(k:Nat))
theorem ue(n:Nat):eL G H₀ (Itd n) (iP n) (λ_=>True) where
 go:=λi H L t rl g j=>show i<n by simpa[iP] using j
 yld:=λi H L x l y t rl g J ⟨e,f⟩=>by
  subst e f;unfold iP at J;rw[An] at J;obtain⟨k,U,rfl⟩:=Ao.mp J;have U:k=i:=by have:=AV.mp U;obtain⟨h,e⟩:=this;rw[List.getElem_range] at e;exact e.symm
  subst U;exact⟨DX _,rl,rfl⟩
 stop:=λH L t rl g=>by show n<=(iP n).length;simp[iP]
end L3
namespace L3
open PySem L2
theorem tI:∀w u:List Int,Da.eqs (w.map λx=>Da.s (.int x)) (u.map λx=>Da.s (.int x))=decide (w=u)
 |[],[]=>rfl
 |[],_::_=>rfl
 |_::_,[]=>rfl
 |x::w,y::u=>by rw[AE,AE,Da.eqs,tI w u];show(decide (x=y)&&decide (w=u))=_;rw[BA];simp
open PySem L2 Words
def mZ(J:jn):ku:=(qt (zg (ju zb) (qe 1))
 (qt (zg (ju (qd (rdT (ju zb) (qa 0)) zb)) (qe 2))
 (qt (eQ (rdN (qa 2) (ju zb)) (qt (zg (aj uh (qa 2) zb) (qe 3))
 (qt (jr (aj jc (qa 1) (xu (qa 3))))
 (qt (zg (sN 2 (eW (qz J (xu (x4 3 1)))) (aJ 2 (zq (qe 5) (zq (qe 6) wv))) wI (k8 (qd (zk km (x4 3 0) (ju (xu (qa 5)))) (xu (qa 6))))) (qe 4))
 (qt (jr (aj iK (qa 4) zb))
 (jr (aj ak (qa 2) (xu (qa 4)))))))))
 (jb (qa 1)))))
def fI(S:Ru)(w:List Int):List (List Int×Ru):=(qm S).zipIdx.map λe=>(w++[(e.2:Int)],e.1)
theorem lU(S:Ru)(w:List Int)(i:Nat):(fI S w)[i]?=(qm S)[i]?.map λA=>(w++[(i:Int)],A):=by unfold fI;rw[An,C2];cases (qm S)[i]?<;>simp
theorem uU(S:Ru)(w:List Int):(fI S w).length=(qm S).length:=by unfold fI;rw[Ab,List.length_zipIdx]
def aw:Ru->List Int->List (List Int×Ru)
 |.link p q,w=>[(w,.link p q)]
 |.ei r A,w=>(w,.ei r A)::aw A (w++[0])
 |.bo r A B,w=>(w,.bo r A B)::(aw A (w++[0])++aw B (w++[1]))
 |.cu p q A B,w=>(w,.cu p q A B)::(aw A (w++[0])++aw B (w++[1]))
theorem iC(S:Ru)(w:List Int):aw S w=(w,S)::(fI S w).flatMap λe=>aw e.2 e.1:=by cases S<;>simp[aw,fI,qm]
theorem vo:∀(S:Ru) (w:List Int),(aw S w).length=zu S
 |.link p q,w=>rfl
 |.ei r A,w=>Bi (· + 1) (vo A _)
 |.bo r A B,w=>by show(aw A _++aw B _).length+1=_;rw[Ad,vo A,vo B];rfl
 |.cu p q A B,w=>by show(aw A _++aw B _).length+1=_;rw[Ad,vo A,vo B];rfl
theorem l6{T:Ru}{w v:List Int}:(v,T)∈aw S w↔∃u,v=w++u/\qy S u=some T:=by
 have:∀n,∀S:Ru,zu S<=n->∀w v,(v,T)∈aw S w↔∃u,v=w++u/\qy S u=some T:=by
  intro n
  induction n with
  |zero=>intro S h;have:=kc S;lia
  |succ n l=>
   intro S h w v;rw[iC,Am,AW];constructor
   ·rintro(g|⟨⟨C,A⟩,r,g⟩)
    ·cases g;exact⟨[],(AS _).symm,rfl⟩
    ·obtain⟨i,ei⟩:=Cb r;rw[lU] at ei;obtain⟨I,o,t⟩:=Ao.mp ei;cases t;have z:=fU (Aw o);obtain⟨u,rfl,J⟩:=(l A (by lia) _ v).mp g;refine⟨(i:Int)::u,by rw[AD];rfl,?_⟩;show(match j4 S (i:Int) with|some B=>qy B u|none=>none)=_;rw[iE,o];exact J
   ·rintro⟨u,rfl,J⟩;cases u with
    |nil=>cases J;exact .inl (by rw[AS])
    |cons j u=>
     rename qy S (j::u)=some T=>U
     have J:(match j4 S j with|some B=>qy B u|none=>none)=some T:=U;clear U;cases e:j4 S j with
     |none=>rw[e] at J;cases J
     |some B=>
      rw[e] at J;replace J:qy B u=some T:=J;obtain⟨k,rfl,p⟩:=x6 e;have z:=fU (Aw p);refine .inr ⟨(w++[(k:Int)],B),Aw (i:=k) (by rw[lU,p];rfl),(l B (by lia) _ _).mpr ⟨u,by rw[AD];rfl,J⟩⟩
 exact this _ S (Al _) w v
abbrev WT:=Addr×List Int×Ru
def du(t:WT):Y:=.tup [.ref t.1,qj t.2.2]
def aga(t:WT):Da:=.tup [.lst (t.2.1.map λx=>.s (.int x)),aZ t.2.2]
structure HW{β:Type}(L:qu)(X:List Addr)(ts:List (Addr×List Int×β)):Prop where
 at_:∀t∈ts,L t.1=some (.lst (t.2.1.map Y.int))/\t.1∉X
theorem HW.mono{X:List Addr}{ts:List (Addr×List Int×β)}(h:HW L X ts)(s:qf L L'):HW L' X ts:=⟨λt m=>⟨s _ _ (h.at_ t m).1,(h.at_ t m).2⟩⟩
theorem HW.upd{X:List Addr}{ts:List (Addr×List Int×β)}{o:LO}(h:HW L X ts)(m:a∈X):HW (qh L a o) X ts:=⟨λt mt=>⟨(qb λe=>(h.at_ t mt).2 (by rw[e];exact m)).trans (h.at_ t mt).1,(h.at_ t mt).2⟩⟩
theorem HW.sub{X:List Addr}{ts us:List (Addr×List Int×β)}(h:HW L X ts)(m:∀t∈us,t∈ts):HW L X us:=⟨λt mt=>h.at_ t (m t mt)⟩
theorem HW.app{X:List Addr}{ts us:List (Addr×List Int×β)}(h:HW L X ts)(g:HW L X us):HW L X (ts++us):=⟨λt mt=>(Ap.mp mt).elim (h.at_ t) (g.at_ t)⟩
theorem HW.one{X:List Addr}{w:List Int}{S:β}(h:L a=some (.lst (w.map Y.int)))(m:a∉X):HW L X [(a,w,S)]:=⟨λt mt=>by rw[Aj.mp mt];exact⟨h,m⟩⟩
theorem yS{L:qu}{X:List Addr}:∀{ts:List WT},HW L X ts->(∀t∈ts,j5 t.2.2<=120)->Paired (jd L 121) (ts.map du) (ts.map aga)
 |[],_,_=>.nil
 |t::r,h,d=>.cons (aB (n:=120) (.cons (jw (n:=119) (h.at_ t (Af ..)).1 (oy _)) (.cons (be (d t (Af ..))) .nil))) (yS (h.sub λu m=>Ac _ m) λu m=>d u (Ac _ m))
theorem acj(st:List WT):Da.eqs (st.map aga) []=decide (st=[]):=by cases st<;>rfl
def Fre(L:qu)(ts:List (Addr×List Int×β)):Prop:=∀t∈ts,L t.1=none
def l8:jn:=λys L Q=>∃R:Ru,ys=[qj R]/\j5 R<=120/\zu R<=1000/\∀p ts L',qf L L'->L p=none->L' p=some (.lst (ts.map du))->HW L' [] ts->Fre L ts->ts.map (·.2)=aw R []->Q (.ref p) L'
theorem HW.nil{X:List Addr}{ts:List (Addr×List Int×β)}(h:HW L X ts):HW L [] ts:=⟨λt m=>⟨(h.at_ t m).1,λz=>by cases z⟩⟩
structure ByI(R:Ru)(fs st:List WT):Prop where
 all:fs.map (·.2)++(st.reverse.flatMap λt=>aw t.2.2 t.2.1)=aw R []
 dep:∀t∈st,j5 t.2.2<=120
theorem ByI.len{fs st:List WT}(h:ByI R fs st):fs.length<=zu R/\st.length<=zu R:=by
 have e:=Bi List.length h.all;rw[Ad,Ab,vo] at e;have:∀l:List WT,l.length<=(l.flatMap λt=>aw t.2.2 t.2.1).length:=λl=>by
  induction l with
  |nil=>exact Al _
  |cons t r J=>
   rw[AM,Ad,AQ,vo];have:=kc t.2.2;lia
 have:=this st.reverse;rw[Bw] at this;lia
theorem HW.grow{X:List Addr}{ts:List (Addr×List Int×β)}{p:Addr}(h:HW L X ts)(n:L p=none):HW L (p::X) ts:=⟨λt m=>⟨(h.at_ t m).1,λz=>(Am.mp z).elim (k7 (h.at_ t m).1 n) (h.at_ t m).2⟩⟩
theorem HW.less{X:List Addr}{ts:List (Addr×List Int×β)}{p:Addr}(h:HW L (p::X) ts):HW L X ts:=⟨λt m=>⟨(h.at_ t m).1,λz=>(h.at_ t m).2 (Ac _ z)⟩⟩
theorem ByI.way{fs aP:List WT}{t:WT}(h:ByI R fs (aP++[t])):qy R t.2.1=some t.2.2:=by
 have e:=h.all;rw[Dc,DL,List.singleton_append,AM,iC t.2.2 t.2.1] at e;have m:(t.2.1,t.2.2)∈aw R []:=by rw[<-e];simp
 obtain⟨u,J,U⟩:=l6.mp m;rw[J];exact U
theorem ado(S:Ru)(w:List Int):((fI S w).map λe=>zu e.2).sum+1=zu S:=by rw[<-fA S];unfold fI;rw[Bz,show((λe:List Int×Ru=>zu e.2)∘λe:Ru×Nat=>(w++[(e.2:Int)],e.1))=zu∘Prod.fst from rfl,<-Bz,List.zipIdx_map_fst]
theorem ByI.step{fs aP us:List WT}{t:WT}(h:ByI R fs (aP++[t]))(e:us.map (·.2)=fI t.2.2 t.2.1):ByI R (fs++[t]) (aP++us.reverse)/\((aP++us.reverse).map λt=>zu t.2.2).sum<((aP++[t]).map λt=>zu t.2.2).sum:=by
 obtain⟨a,d⟩:=h;refine⟨⟨?_,λu J=>?_⟩,?_⟩
 ·rw[Dc,DL,List.singleton_append,AM,iC t.2.2 t.2.1] at a;rw[<-a,Dc,List.reverse_reverse,AA,Ak,AD];have:(us.flatMap λt=>aw t.2.2 t.2.1)=(us.map (·.2)).flatMap λe=>aw e.2 e.1:=by rw[DF]
  rw[this,e];rfl
 ·rcases Ap.mp J with J|J
  ·exact d u (Ar _ J)
  ·have m:u.2∈fI t.2.2 t.2.1:=by rw[<-e];exact AL.mpr ⟨u,List.mem_reverse.mp J,rfl⟩
   obtain⟨i,ei⟩:=Cb m;rw[lU] at ei;obtain⟨A,g,j⟩:=Ao.mp ei;have l:=v0 (Aw g);have U:=d t (by simp);rw[<-j];show j5 A<=120;lia
 ·have:(us.map λt=>zu t.2.2).sum+1=zu t.2.2:=by rw[<-ado t.2.2 t.2.1,<-e,Bz];rfl
  have U:(us.reverse.map λt=>zu t.2.2).sum=(us.map λt=>zu t.2.2).sum:=by rw[DD,List.sum_reverse]
  rw[Ak,Ak,BC,BC,U,List.map_singleton,List.sum_singleton];lia
theorem ak3:∀ys L Q,l8 ys L Q->xl (mZ wu) 5 ys L Q:=by
 rintro ys L Q ⟨R,rfl,hd,hz,q⟩;have big:=bg_;intro l a5 w0 ag r a0;have ar:l≠w0:=k7 q8 ag;have aH:w0≠r:=k7 q8 a0;have a3:l≠r:=k7 ((qb ar).trans q8) a0;have a4:L r=none:=jf (jf a0);have S0:qf L (qh (qh (qh L l (.lst [])) w0 (.lst [])) r (.lst [.tup [.ref w0,qj R]])):=((By a5).trans (By ag)).trans (By a0);refine⟨λm τ j=>∃fs st c3 c4,τ=[some (qj R),some (.ref l),some (.ref r),c3,c4]/\qf L j/\j l=some (.lst (fs.map du))/\j r=some (.lst (st.map du))/\HW j [l,r] (fs++st)/\Fre L (fs++st)/\ByI R fs st/\m=(st.map λt=>zu t.2.2).sum,⟨_,[],[(w0,[],R)],_,_,rfl,S0,(qb a3).trans ((qb ar).trans q8),q8,.one ((qb aH).trans q8) (by simp[AI ar,aH]),λt ht=>(by rw[Aj.mp ht];exact jf ag),⟨by simp,λt ht=>by rw[Aj.mp ht];exact hd⟩,rfl⟩,?_⟩;rintro m τ j ⟨fs,st,c3,c4,rfl,s,g,J,H,F,I,rfl⟩;intro p hp;have T:=By (o:=.lst []) hp;refine wf (n:=121) (m:=0) (by decide) (T _ _ J) q8 (yS ((H.sub λt m=>Ae _ m).mono T) I.dep) (.nil:Paired (jd _ 0) _ []) ?_;replace g:=T _ _ g;replace J:=T _ _ J;replace H:=H.mono T;replace s:=s.trans T;clear T;generalize qh j p (.lst [])=L2 at s g J H ⊢;show wq (!(Da.eqs (st.map aga) [])) _ _;rw[acj];have il:=I.len;rcases BH st with rfl|⟨aP,t,rfl⟩
 ·refine xr rfl ?_;have e:=I.all;rw[List.reverse_nil,DE,AS] at e;refine xi (q l fs L2 s a5 g (H.sub λt m=>Ar _ m).nil (λt m=>F t (Ar _ m)) e)
 ·rw[BI] at *;rw[Ay (by simp)];refine wm rfl ⟨λaL j=>∃m',m'<((aP++[t]).map λt=>zu t.2.2).sum/\∃fs st c3 c4,aL=[some (qj R),some (.ref l),some (.ref r),c3,c4]/\qf L j/\j l=some (.lst (fs.map du))/\j r=some (.lst (st.map du))/\HW j [l,r] (fs++st)/\Fre L (fs++st)/\ByI R fs st/\m'=(st.map λt=>zu t.2.2).sum,λaL j h=>h,?_⟩;rw[Ak] at J;refine rQ J ?_;replace g:=(qb (o:=.lst (aP.map du)) a3).trans g;replace H:=H.upd (o:=.lst (aP.map du)) (a:=r) (by simp);replace s:=s.upd (o:=.lst (aP.map du)) a4;replace J:qh L2 r (.lst (aP.map du)) r=some (.lst (aP.map du)):=q8;generalize qh L2 r (.lst (aP.map du))=L3 at s g J H ⊢;obtain⟨wa,w,S⟩:=t;have hw:=H.at_ (wa,w,S) (by simp);refine qc g (qr g ⟨by rw[Ab];exact big _ (by lia),?_⟩);replace H:=H.upd (o:=.lst (fs.map du++[du (wa,w,S)])) (a:=l) (by simp);replace J:=(qb (o:=.lst (fs.map du++[du (wa,w,S)])) (AI a3)).trans J;replace s:=s.upd (o:=.lst (fs.map du++[du (wa,w,S)])) a5;replace g:qh L3 l (.lst (fs.map du++[du (wa,w,S)])) l=some (.lst ((fs++[(wa,w,S)]).map du)):=by rw[q8,Ak];rfl
  replace hw:=H.at_ (wa,w,S) (by simp);generalize qh L3 l (.lst (fs.map du++[du (wa,w,S)]))=L4 at s g J H hw ⊢;refine⟨S,rfl,λp1 n1=>?_⟩;have T:=By (o:=.lst ((qm S).map qj)) n1;replace g:=T _ _ g;replace J:=T _ _ J;replace H:=H.mono T;replace s:=s.trans T;replace hw:=T _ _ hw.1;have g1:qh L4 p1 (.lst ((qm S).map qj)) p1=some (.lst ((qm S).map qj)):=q8;clear T n1;generalize qh L4 p1 (.lst ((qm S).map qj))=L5 at s g J H hw g1 ⊢;have al:=af6 S;have wl:w.length<=1000:=by have h:=(vn I.way).1;have h:w.length+1<=j5 R:=h;lia
  refine jx g1 λkeep kp=>rC ⟨by rw[cJ,Ab];exact big _ (by lia),λi zs j=>∃us:List WT,zs=us.map du/\qf L5 j/\HW j [l,r] us/\Fre L us/\us.map (·.2)=(fI S w).take i,⟨[],rfl,DW _,⟨λt m=>by cases m⟩,λt m=>(by cases m),rfl⟩,?_,?_,?_⟩
  ·rintro i zs j ⟨us,rfl,C,_⟩;exact kp j (by rw[C _ _ g1,g1])
  ·rintro i y zs j hy ⟨us,rfl,C,H',F',e'⟩;obtain⟨z,ez,rfl⟩:=cD hy;rw[An] at ez;obtain⟨B,eB,rfl⟩:=Ao.mp ez;intro p2 n2;have s2:=By (o:=.lst [.int (i:Int)]) n2;refine⟨_,_,(C.trans s2) _ _ hw,q8,by rw[Ab];show w.length+1<=sizeLine;exact Bf (big _ (by lia)),λp3 n3=>?_⟩;have s3:=s2.trans (By (o:=.lst (w.map Y.int++[.int (i:Int)])) n3);have ne:p3∉[l,r]:=by have a1:=k7 ((C.trans s2) _ _ g) n3;have a2:=k7 ((C.trans s2) _ _ J) n3;simp[AI a1,AI a2]
   refine⟨_,DW _,us++[(p3,w++[(i:Int)],B)],by rw[Ak];rfl,C.trans s3,(H'.mono s3).app (.one (by rw[q8,Ak];rfl) ne),λt m=>?_,?_⟩
   ·rcases Ap.mp m with m|m
    ·exact F' t m
    ·rw[Aj.mp m];exact(s.trans (C.trans s2)).none n3
   rw[Ak,e',A3,lU,eB];rfl
  ·rintro zs j ⟨us,rfl,C,H',F',e'⟩ p4 n4;rw[cJ,Ab,A5 (by rw[uU];exact Al _)] at e';have s4:=By (o:=.lst (us.map du)) n4;have n1:=k7 (C _ _ g) n4;have n2:=k7 (C _ _ J) n4;have U:=((H'.grow n4).app ((H.mono C).grow n4)).mono s4;have ba:L p4=none:=(s.trans C).none n4;replace s:=(s.trans C).trans s4;replace g:=s4 _ _ (C _ _ g);replace J:=s4 _ _ (C _ _ J);have g4:qh j p4 (.lst (us.map du)) p4=some (.lst (us.map du)):=q8;clear s4;generalize qh j p4 (.lst (us.map du))=L6 at s g J U g4 ⊢;refine qc g4 (qr g4 ?_);replace s:=s.upd (o:=.lst (us.map du).reverse) ba;replace U:=U.upd (o:=.lst (us.map du).reverse) (a:=p4) (by simp);replace g:=(qb (o:=.lst (us.map du).reverse) n1).trans g;replace J:=(qb (o:=.lst (us.map du).reverse) n2).trans J;replace g4:qh L6 p4 (.lst (us.map du).reverse) p4=some (.lst (us.map du).reverse):=q8;generalize qh L6 p4 (.lst (us.map du).reverse)=L7 at s g J U g4 ⊢;obtain⟨I',ms⟩:=I.step (us:=us) e';have ul:us.length<=2:=by have:=Bi List.length e';rw[Ab,uU] at this;lia
   have l0:aP.length<=1000:=by have:=il.2;rw[Ad] at this;lia
   refine qc J (qr J (qr g4 ⟨by rw[Ab,Bw,Ab];exact Bf (big _ (by lia)),?_⟩));refine⟨_,DW _,_,ms,fs++[(wa,w,S)],aP++us.reverse,_,_,rfl,s.upd a4,(qb a3).trans g,by rw[q8,Ak,DD],((U.less.upd (by simp)).sub λt ht=>?_),λt ht=>?_,I',rfl⟩
   ·simp at ht ⊢;rcases ht with h|h|h|h<;>simp[h]
   ·have F0:=F t;have F1:=F' t;simp at ht F0;rcases ht with h|h|h|h
    ·exact F0 (.inl h)
    ·exact F0 (.inr (.inr h))
    ·exact F0 (.inr (.inl h))
    ·exact F1 h
abbrev WP:=Addr×List Int×Int
def paT(q:WP):Y:=.tup [.ref q.1,.int q.2.2]
theorem r6{w:List Int}{i:Int}(h:kQ ks R w i=some R'):∃S T,∃k:Nat,qy R w=some S/\i=(k:Int)/\k6 ks S k=some T/\R'=zc R w T:=by
 unfold kQ at h;split at h
 ·cases h
 ·rename_i S U;split at h
  ·cases h
  ·rename_i B g;obtain⟨k,rfl,_⟩:=x6 g;obtain⟨T,J,rfl⟩:=Ao.mp h;rw[AR] at J;exact⟨S,T,k,U,rfl,J,rfl⟩
theorem lb{w:List Int}{i:Int}(h:kQ ks R w i=some R'):(qk R').Perm (qk R)/\(zm R').Perm (zm R)/\(zx R').Perm (zx R):=by obtain⟨S,T,k,J,rfl,U,rfl⟩:=r6 h;exact⟨lM aK gq J (cH aK gq U),lM gM ut J (cH gM ut U),lM jN uM J (cH jN uM U)⟩
theorem apt{E:List Nat}{w:List Int}{i:Int}(U:SR ks R E)(nd:(qk R).Nodup)(h:kQ ks R w i=some R'):SR ks R' E:=by obtain⟨S,T,k,g,rfl,j,rfl⟩:=r6 h;obtain⟨_,l⟩:=vn g;obtain⟨_,_,J,_,_⟩:=U.rls S l;exact ao1 g (λp o=>ajs o (J.nodup nd) j) E U
theorem aqw{E:List Nat}{w:List Int}{i:Int}(U:SR ks R E)(J:qy R w=some S):(kQ ks R w i).isSome=(goR ks S i).isSome:=by
 obtain⟨_,g⟩:=vn J;obtain⟨⟨I,j⟩,_⟩:=U.rls S g;unfold kQ;rw[J];show(match j4 S i with|none=>none|some _=>(k6 ks S i.toNat).map (zc R w)).isSome=_;cases e:j4 S i with
 |none=>
  unfold goR;rw[e]
  try rfl
 |some B=>
  obtain⟨k,rfl,l⟩:=x6 e;show((k6 ks S (k:Int).toNat).map (zc R w)).isSome=_;rw[B7,AR];obtain⟨ts,_,o,p⟩:=y4 j l;rw[o,p];cases r:xb B ts with
  |none=>rfl
  |some n=>
   obtain⟨C,t,_⟩:=lZ r;show(match (qm B)[n]? with|some D=>some (qw B n (qw S k D))|none=>none).isSome=_;rw[t];rfl
abbrev Hd:=Nat×Nat×Nat
def wy:Ru->Hd
 |.link p q=>(0,p,q)
 |.ei r _=>(1,r,r)
 |.bo r _ _=>(2,r,r)
 |.cu p q _ _=>(3,p,q)
def j8(R:Ru):List Hd:=(jg R).map wy
theorem v3(R:Ru):j8 R=[wy R]++(qm R).flatMap j8:=by cases R<;>simp[j8,jg,qm]
theorem acv(R:Ru)(k:Nat)(A:Ru):wy (qw R k A)=wy R:=by cases R<;>rcases k with _|_|k<;>rfl
theorem u6(R:Ru)(k:Nat)(A:Ru):[wy (qw R k A)]=[wy R]:=by rw[acv]
theorem anf{w:List Int}{i:Int}(h:kQ ks R w i=some R'):(j8 R').Perm (j8 R):=by obtain⟨S,T,k,J,rfl,U,rfl⟩:=r6 h;exact lM v3 u6 J (cH v3 u6 U)
def fg(ks:List Kn):Hd->List Nat
 |(0,p,q)=>[p,q]
 |(1,r,_)=>r::x0 ks[r]?
 |(2,r,_)=>r::x0 ks[r]?
 |(_,p,q)=>[p,q]
theorem aN(ks:List Kn):∀h:Hd,h.2.1∈fg ks h
 |(0,_,_)=>Af ..
 |(1,_,_)=>Af ..
 |(2,_,_)=>Af ..
 |(_+3,_,_)=>Af ..
theorem zY{ts:List Nat}{x:Nat}(h:ts∈jj ks S)(J:x∈ts):x∈fg ks (wy S):=by
 cases S with
 |link p q=>cases h
 |ei r A=>rw[Aj.mp h] at J;exact Ac _ J
 |bo r A B=>
  obtain⟨y,U,rfl⟩:=AL.mp h;rw[Aj.mp J];exact Ac _ U
 |cu p q A B=>
  rcases Am.mp h with rfl|h
  ·rw[Aj.mp J];exact Af ..
  ·rw[Aj.mp h] at J;exact Ac _ J
theorem SR.grp{A:Ru}{E:List Nat}(sr:SR ks A E):∀h∈j8 A,∀x∈fg ks h,x∈qk A:=by
 induction sr with
 |link=>intro h m;rw[Aj.mp m];exactλx J=>J
 |@ei r i j A T E C l o t _ _ _ ih=>
  intro h m x J;rcases Am.mp m with rfl|m
  ·have J:x∈r::x0 ks[r]?:=J;rw[C] at J;rcases Am.mp J with rfl|J
   ·exact Af ..
   rcases Am.mp J with rfl|J
   ·exact Ac _ (l.sub _ o)
   ·rw[Aj.mp J];exact Ac _ (l.sub _ t)
  ·exact Ac _ (ih h m x J)
 |@bo r i j A B T EB E C l I o t _ _ U g=>
  intro h m x J;have m:h∈wy (.bo r A B)::(j8 A++j8 B):=by have e:=v3 (.bo r A B);rw[e] at m;simpa[qm] using m
  rcases Am.mp m with rfl|m
  ·have J:x∈r::x0 ks[r]?:=J;rw[C] at J;rcases Am.mp J with rfl|J
   ·exact Af ..
   rcases Am.mp J with rfl|J
   ·exact Ac _ (Ar _ (l.sub _ o))
   ·rw[Aj.mp J];exact Ac _ (Ae _ (I.sub _ t))
  ·rcases Ap.mp m with m|m
   ·exact Ac _ (Ar _ (U h m x J))
   ·exact Ac _ (Ae _ (g h m x J))
 |@cu p q A B T EB E w l I o t _ _ _ _ U g=>
  intro h m x J;have m:h∈wy (.cu p q A B)::(j8 A++j8 B):=by have e:=v3 (.cu p q A B);rw[e] at m;simpa[qm] using m
  rcases Am.mp m with rfl|m
  ·rcases Am.mp J with rfl|J
   ·exact Ar _ (l.sub _ o)
   ·rw[Aj.mp J];exact Ae _ (I.sub _ t)
  ·rcases Ap.mp m with m|m
   ·exact Ar _ (U h m x J)
   ·exact Ae _ (g h m x J)
structure wR(ks:List Kn)(R A B:Ru)(i j:Nat):Prop where
 ar:qm R=[A,B]
 hs:j8 R=wy R::(j8 A++j8 B)
 tl:qk R=aT R++(qk A++qk B)
 tk:jj ks R=[[i],[j]]
 sA:∃EA,SR ks A EA/\i∈EA
 sB:∃EB,SR ks B EB/\j∈EB
 own:fg ks (wy R)=aT R++[i,j]
theorem SR.two{E:List Nat}(I:SR ks R E):(∃p q,R=.link p q)\/(∃r A,R=.ei r A)\/∃A B i j,wR ks R A B i j:=by cases I with|link=>exact .inl ⟨_,_,rfl⟩|ei=>exact .inr (.inl ⟨_,_,rfl⟩)|@bo r i j A B J U _ C g l o t=>exact .inr (.inr ⟨A,B,i,j,rfl,by rw[v3];simp[qm],rfl,by show(x0 ks[r]?).map (λx=>[x])=_;rw[C];rfl,⟨J,g,o⟩,⟨U,l,t⟩,by show r::x0 ks[r]?=_;rw[C];rfl⟩)|@cu p q A B J U _ w g l o t=>exact .inr (.inr ⟨A,B,p,q,rfl,by rw[v3];simp[qm],rfl,rfl,⟨J,g,o⟩,⟨U,l,t⟩,rfl⟩)
theorem SR.conn{A:Ru}{E:List Nat}(sr:SR ks A E)(C:Nat->Prop)(o:∀h∈j8 A,(∀x∈fg ks h,C x)\/∀x∈fg ks h,¬C x):(∀x∈qk A,C x)\/∀x∈qk A,¬C x:=by
 have two:∀{R A B:Ru} {i j:Nat},wR ks R A B i j->(∀h∈j8 R,(∀x∈fg ks h,C x)\/∀x∈fg ks h,¬C x)->((∀h∈j8 A,(∀x∈fg ks h,C x)\/∀x∈fg ks h,¬C x)->(∀x∈qk A,C x)\/∀x∈qk A,¬C x)->((∀h∈j8 B,(∀x∈fg ks h,C x)\/∀x∈fg ks h,¬C x)->(∀x∈qk B,C x)\/∀x∈qk B,¬C x)->(∀x∈qk R,C x)\/∀x∈qk R,¬C x:=by
  intro R A B i j t o U l;rw[t.hs] at o;have g:=o _ (Af ..);rw[t.own] at g;obtain⟨EA,p,hi⟩:=t.sA;obtain⟨EB,I,hj⟩:=t.sB;have T:=p.sub _ hi;have jB:=I.sub _ hj;have U:=U λh m=>o h (Ac _ (Ar _ m));have l:=l λh m=>o h (Ac _ (Ae _ m));rw[t.tl];rcases g with g|g
  ·left;intro x J;rcases Ap.mp J with J|J
   ·exact g x (Ar _ J)
   rcases Ap.mp J with J|J
   ·exact U.elim (λz=>z x J) λz=>absurd (g i (Ae _ (Af ..))) (z i T)
   ·exact l.elim (λz=>z x J) λz=>absurd (g j (Ae _ (Ac _ (Af ..)))) (z j jB)
  ·right;intro x J;rcases Ap.mp J with J|J
   ·exact g x (Ar _ J)
   rcases Ap.mp J with J|J
   ·exact U.elim (λz=>absurd (z i T) (g i (Ae _ (Af ..)))) λz=>z x J
   ·exact l.elim (λz=>absurd (z j jB) (g j (Ae _ (Ac _ (Af ..))))) λz=>z x J
 induction sr with
 |link=>exact o _ (Af ..)
 |@ei r i j A EA E h1 p h3 h4 _ _ _ ih=>
  have g:(∀x∈r::x0 ks[r]?,C x)\/∀x∈r::x0 ks[r]?,¬C x:=o _ (Af ..);rw[h1] at g;have T:=p.sub _ h3;have ih:=ih λh m=>o h (Ac _ m);have mi:i∈r::x0 (some (Kn.nd true i j)):=Ac _ (Af ..);rcases g with g|g
  ·left;intro x J;rcases Am.mp J with rfl|J
   ·exact g _ (Af ..)
   ·exact ih.elim (λz=>z x J) λz=>absurd (g i mi) (z i T)
  ·right;intro x J;rcases Am.mp J with rfl|J
   ·exact g _ (Af ..)
   ·exact ih.elim (λz=>absurd (z i T) (g i mi)) λz=>z x J
 |bo h1 p I h3 h4 _ _ U l=>exact two ⟨rfl,by rw[v3];simp[qm],rfl,by rw[jj,h1];rfl,⟨_,p,h3⟩,⟨_,I,h4⟩,by rw[wy,fg,h1];rfl⟩ o U l
 |cu p I h3 h4 _ _ _ _ U l=>exact two ⟨rfl,by rw[v3];simp[qm],rfl,rfl,⟨_,p,h3⟩,⟨_,I,h4⟩,rfl⟩ o U l
theorem ad5{A:Ru}{p q:Nat}(h:(3,p,q)∈j8 A):p∈iG ks A/\q∈iG ks A:=by
 obtain⟨B,J,e⟩:=AL.mp h;cases B with
 |cu a b C D=>
  cases e;exact⟨AW.mpr ⟨_,J,Af ..⟩,AW.mpr ⟨_,J,Ac _ (Af ..)⟩⟩
 |link=>cases e
 |ei=>cases e
 |bo=>cases e
theorem SR.hdn{A:Ru}{E:List Nat}(sr:SR ks A E)(nd:(qk A).Nodup):(j8 A).Nodup:=by
 induction sr with
 |link=>exact Av.mpr ⟨(λh=>by cases h),Di⟩
 |@ei r i j A EA E h1 J C I _ _ _ ih=>
  obtain⟨T,nd⟩:=Av.mp nd;exact Av.mpr ⟨λm=>T (J.grp _ m r (aN ks (1,r,r))),ih nd⟩
 |@bo r i j A B EA EB E h1 J l C I _ _ U g=>
  obtain⟨T,nd⟩:=Av.mp nd;obtain⟨o,t,n3⟩:=Au.mp nd;rw[v3];show(wy (.bo r A B)::(j8 A++(j8 B++[]))).Nodup;rw[AS];refine Av.mpr ⟨λm=>T ?_,Au.mpr ⟨U o,g t,λa ha b hb e=>?_⟩⟩
  ·rcases Ap.mp m with m|m
   ·exact Ar _ (J.grp _ m r (aN ks (2,r,r)))
   ·exact Ae _ (l.grp _ m r (aN ks (2,r,r)))
  ·subst e;exact n3 _ (J.grp _ ha _ (aN ks a)) _ (l.grp _ hb _ (aN ks a)) rfl
 |@cu p q A B EA EB E w J l C I _ _ _ _ U g=>
  obtain⟨o,t,n3⟩:=Au.mp nd;rw[v3];show(wy (.cu p q A B)::(j8 A++(j8 B++[]))).Nodup;rw[AS];refine Av.mpr ⟨λm=>?_,Au.mpr ⟨U o,g t,λa ha b hb e=>?_⟩⟩
  ·rcases Ap.mp m with m|m
   ·exact((bB J o p).mp C).2 (ad5 m).1
   ·exact((bB l t q).mp I).2 (ad5 m).2
  ·subst e;exact n3 _ (J.grp _ ha _ (aN ks a)) _ (l.grp _ hb _ (aN ks a)) rfl
theorem af9(h:wy R=wy O):jj ks R=jj ks O:=by cases R<;>cases O<;>cases h<;>rfl
theorem ajj(h:wy R=wy O):aT R=aT O:=by cases R<;>cases O<;>cases h<;>rfl
theorem wR.hd{E:List Nat}(t:wR ks O O1 O2 i j)(J:SR ks R E)(h:wy R=wy O):∃A B,wR ks R A B i j:=by
 rcases J.two with⟨p,q,rfl⟩|⟨r,A,rfl⟩|⟨A,B,U,g,u⟩
 ·have:=t.ar;cases O<;>cases h;cases this
 ·have:=t.ar;cases O<;>cases h;cases this
 ·have e:=af9 (ks:=ks) h;rw[t.tk,u.tk] at e;cases e;exact⟨A,B,u⟩
theorem wR.nd{A:Ru}(t:wR ks R A B i j)(nd:(qk R).Nodup):(qk A++qk B).Nodup/\∀x∈aT R,x∉qk A++qk B:=by rw[t.tl] at nd;obtain⟨_,J,U⟩:=Au.mp nd;exact⟨J,λx g m=>U x g x m rfl⟩
theorem wR.sep(t:wR ks O O1 O2 i j)(nd:(qk O).Nodup){h:Hd}(m:h∈j8 O1++j8 O2):(∀x∈fg ks h,x∈qk O1)\/∀x∈fg ks h,x∉qk O1:=by
 obtain⟨l,U,_⟩:=t.sA;obtain⟨o,g,_⟩:=t.sB;rcases Ap.mp m with m|m
 ·exact .inl λx J=>U.grp h m x J
 ·exact .inr λx J z=>(Au.mp (t.nd nd).1).2.2 x z x (g.grp h m x J) rfl
theorem wR.arms{A:Ru}(t:wR ks O O1 O2 i j)(u:wR ks R A B i j)(nd:(qk O).Nodup)(sub:∀h∈j8 A++j8 B,h∈j8 O1++j8 O2):(∀x∈qk A,x∈qk O1)/\∀x∈qk B,x∉qk O1:=by
 obtain⟨C,U,g⟩:=t.sA;obtain⟨I,l,o⟩:=t.sB;obtain⟨T,sA,p⟩:=u.sA;obtain⟨EB,J,r⟩:=u.sB;constructor
 ·rcases sA.conn (· ∈ qk O1) λh m=>t.sep nd (sub h (Ar _ m)) with z|z
  ·exact z
  ·exact absurd (U.sub _ g) (z i (sA.sub _ p))
 ·rcases J.conn (· ∈ qk O1) λh m=>t.sep nd (sub h (Ae _ m)) with z|z
  ·exact absurd rfl ((Au.mp (t.nd nd).1).2.2 j (z j (J.sub _ r)) j (l.sub _ o))
  ·exact z
theorem abb{ts:List Nat}{D:Ru}(h:∀x∈ts,x∈qk D):aU ts D=true:=by unfold aU;rw[BL];intro b J;obtain⟨x,U,rfl⟩:=AL.mp J;exact AH (h x U)
theorem sC{r D:Ru}{k:Nat}{ts:List Nat}(J:(qm S)[k]?=some r)(U:(jj ks S)[k]?=some ts)(g:D∈qm r)(h:∀x∈ts,x∈qk D):∃T,k6 ks S k=some T/\wy T=wy r:=by
 unfold k6;rw[J,U];show ∃T,(match xb r ts with|none=>none|some n=>match (qm r)[n]? with|some B=>some (qw r n (qw S k B))|none=>none)=some T/\_;cases e:xb r ts with
 |none=>
  have:=B3.mp e D g;rw[abb h] at this;cases this
 |some n=>
  obtain⟨C,j,_⟩:=lZ e;show ∃T,(match (qm r)[n]? with|some B=>some (qw r n (qw S k B))|none=>none)=some T/\_;rw[j];exact⟨_,rfl,acv ..⟩
theorem rg(m:B∈qm R):∀h∈j8 B,h∈(qm R).flatMap j8:=λh J=>AW.mpr ⟨B,m,J⟩
theorem xQ(R:Ru):wy R∈j8 R:=by rw[v3];exact Af ..
theorem yX(m:S∈jg R):∀h∈j8 S,h∈j8 R:=by
 have:∀n,∀R:Ru,zu R<=n->S∈jg R->∀h∈j8 S,h∈j8 R:=by
  intro n
  induction n with
  |zero=>intro R h;have:=kc R;lia
  |succ n g=>
   intro R j m h J;rw[aC] at m;rcases Am.mp m with rfl|m
   ·exact J
   ·obtain⟨B,U,m⟩:=AW.mp m;have z:=fU U;rw[v3];exact Ae _ (rg U h (g B (by lia) m h J))
 exact this _ R (Al _) m
theorem act{T r:Ru}{ET EO:List Nat}{k:Nat}(sT:SR ks T ET)(sO:SR ks O EO)(nT:(qk T).Nodup)(nO:(qk O).Nodup)(pm:(j8 T).Perm (j8 O))(mS:S∈jg T)(o:(qm S)[k]?=some r)(g:wy r=wy O):∃T',k6 ks S k=some T'/\wy T'=wy r:=by
 obtain⟨⟨ES,sS⟩,_,sub,_,_⟩:=sT.rls S mS;obtain⟨ts,C⟩:=tF sS o;obtain⟨Er,sr,I⟩:=sS.at_ o C;have mr:=Aw o;have hn:=sS.hdn (sub.nodup nT);rw[v3] at hn;obtain⟨hS,_⟩:=Av.mp hn;have ne:wy S≠wy O:=λe=>hS (by rw[e,<-g];exact rg mr _ (xQ r));have l:wy S∈(qm O).flatMap j8:=by have m:=pm.mem_iff.mp (yX mS _ (xQ S));rw[v3] at m;exact(Am.mp m).resolve_left ne
 have tg:∀x∈ts,x∈fg ks (wy S):=λx J=>zY (Aw C) J;rcases sO.two with⟨p,q,rfl⟩|⟨p,O1,rfl⟩|⟨O1,O2,i,j,t⟩
 ·cases l
 ·cases r with
  |ei p' A=>
   cases g;refine sC o C (Af ..) λx J=>?_;have l:wy S∈j8 O1++[]:=l;rw[AS] at l;obtain⟨np,a0⟩:=Av.mp nO;cases sO with
   |ei _ s1=>
    have x1:=s1.grp _ l x (tg x J);rcases Am.mp (sr.sub x (I x J)) with rfl|z
    ·exact absurd x1 np
    ·exact z
  |link=>cases g
  |bo=>cases g
  |cu=>cases g
 ·obtain⟨A,B,u⟩:=t.hd sr g;have eO:(qm O).flatMap j8=j8 O1++j8 O2:=by rw[t.ar];simp
  rw[eO] at l;have U:=sr.hdn ((aA mr).nodup (sub.nodup nT));rw[u.hs] at U;obtain⟨U,_⟩:=Av.mp U;have sb:∀h∈j8 A++j8 B,h∈j8 O1++j8 O2:=λh m=>by
   have m2:h∈j8 O:=pm.mem_iff.mp (yX mS h (by rw[v3];exact Ae _ (rg mr h (by rw[u.hs];exact Ac _ m))));rw[t.hs] at m2;rcases Am.mp m2 with e|m2
   ·rw[e,<-g] at m;exact absurd m U
   ·exact m2
  obtain⟨hA,hB⟩:=t.arms u nO sb;have own:∀x∈ts,x∈qk A++qk B:=λx J=>by
   have z:=sr.sub x (I x J);rw[u.tl] at z;rcases Ap.mp z with z|z
   ·rw[ajj g] at z;refine absurd ?_ ((t.nd nO).2 x z);obtain⟨E1,s1,_⟩:=t.sA;obtain⟨E2,s2,_⟩:=t.sB;rcases Ap.mp l with m|m
    ·exact Ar _ (s1.grp _ m x (tg x J))
    ·exact Ae _ (s2.grp _ m x (tg x J))
   ·exact z
  rcases t.sep nO l with z|z
  ·refine sC (D:=A) o C (by rw[u.ar];exact Af ..) λx J=>?_;rcases Ap.mp (own x J) with m|m
   ·exact m
   ·exact absurd (z x (tg x J)) (hB x m)
  ·refine sC (D:=B) o C (by rw[u.ar];exact Ac _ (Af ..)) λx J=>?_;rcases Ap.mp (own x J) with m|m
   ·exact absurd (hA x m) (z x (tg x J))
   ·exact m
theorem uj{w:List Int}(v:List Int)(h:qy R w=some S):qy R (w++v)=qy S v:=by
 induction w generalizing R with
 |nil=>cases h;rfl
 |cons i w J=>
  replace h:(match j4 R i with|some B=>qy B w|none=>none)=some S:=h;show(match j4 R i with|some B=>qy B (w++v)|none=>none)=_;cases e:j4 R i with|none=>rw[e] at h;cases h|some B=>rw[e] at h;exact J h
theorem aim{w:List Int}(v:List Int)(X:Ru)(h:qy R w=some S):zc R (w++v) X=zc R w (zc S v X):=by
 induction w generalizing R with
 |nil=>cases h;rfl
 |cons i w J=>
  replace h:(match j4 R i with|some B=>qy B w|none=>none)=some S:=h;show(match j4 R i with|some B=>qw R i.toNat (zc B (w++v) X)|none=>R)=match j4 R i with|some B=>qw R i.toNat (zc B w (zc S v X))|none=>R
  cases e:j4 R i with
  |none=>rfl
  |some B=>
   rw[e] at h;show qw R i.toNat (zc B (w++v) X)=qw R i.toNat (zc B w (zc S v X));rw[J h]
theorem yc{A:Ru}{w:List Int}(h:qy R w=some S):zc (zc R w A) w B=zc R w B:=by
 induction w generalizing R with
 |nil=>rfl
 |cons i w U=>
  replace h:(match j4 R i with|some B=>qy B w|none=>none)=some S:=h;cases ei:j4 R i with
  |none=>rw[ei] at h;cases h
  |some C=>
   rw[ei] at h;have J:∀X,zc R (i::w) X=qw R i.toNat (zc C w X):=λX=>by show(match j4 R i with|some B=>qw R i.toNat (zc B w X)|none=>R)=_;rw[ei]
   obtain⟨k,rfl,g⟩:=x6 ei;rw[J,J,AR];show(match j4 (qw R k (zc C w A)) (k:Int) with|some j=>qw (qw R k (zc C w A)) (k:Int).toNat (zc j w B)|none=>qw R k (zc C w A))=_;rw[iE,re (j6 g)];show qw (qw R k (zc C w A)) (k:Int).toNat (zc (zc C w A) w B)=_;rw[AR,yb,U h]
theorem apf{w v:List Int}{i:Int}(h:qy R w=some S):kQ ks R (w++v) i=(kQ ks S v i).map (zc R w):=by
 unfold kQ;rw[uj v h];cases e:qy S v with
 |none=>rfl
 |some A=>
  show(match j4 A i with|none=>none|some _=>(k6 ks A i.toNat).map (zc R (w++v)))=(match j4 A i with|none=>none|some _=>(k6 ks A i.toNat).map (zc S v)).map (zc R w);cases j4 A i with
  |none=>rfl
  |some B=>
   show(k6 ks A i.toNat).map (zc R (w++v))=((k6 ks A i.toNat).map (zc S v)).map (zc R w);cases k6 ks A i.toNat with|none=>rfl|some X=>show some _=some _;rw[aim v X h]
structure lh(ks:List Kn)(O T:Ru):Prop where
 s:∃E,SR ks T E
 n:(qk T).Nodup
 p:(j8 T).Perm (j8 O)
theorem lh.ex{T J:Ru}{w:List Int}{i:Int}(h:lh ks O T)(e:kQ ks T w i=some J):lh ks O J:=by obtain⟨E,s⟩:=h.s;exact⟨⟨E,apt s h.n e⟩,(lb e).1.nodup_iff.mpr h.n,(anf e).trans h.p⟩
theorem lh.rl{T:Ru}(h:lh ks O T){w:List Int}(e:qy T w=some S):lh ks S S:=by obtain⟨E,s⟩:=h.s;obtain⟨J,_,sub,_,_⟩:=s.rls S (vn e).2;exact⟨J,sub.nodup h.n,.refl _⟩
theorem ai1{T r:Ru}{v:List Int}{i:Int}(j:lh ks O O)(g:lh ks O T)(h:qy T (v++[i])=some r)(l:wy r=wy O):∃o t,kQ ks T v i=some o/\qy o v=some t/\wy t=wy O:=by
 obtain⟨EO,C⟩:=j.s;obtain⟨ET,I⟩:=g.s;rw[bN] at h;cases J:qy T v with
 |none=>rw[J] at h;cases h
 |some S=>
  rw[J] at h;replace h:(match j4 S i with|some B=>qy B []|none=>none)=some r:=h;cases U:j4 S i with
  |none=>rw[U] at h;cases h
  |some B=>
   rw[U] at h;cases h;obtain⟨k,rfl,ek⟩:=x6 U;obtain⟨X,eX,hX⟩:=act I C g.n j.n g.p (vn J).2 ek l;refine⟨zc T v X,X,?_,aeh J,hX.trans l⟩;unfold kQ;rw[J];show(match j4 S (k:Int) with|none=>none|some _=>(k6 ks S (k:Int).toNat).map (zc T v))=_;rw[U];show(k6 ks S (k:Int).toNat).map (zc T v)=_;rw[AR,eX];rfl
def gZ:Ru->Nat->Ru->Prop
 |O,0,T=>(j8 T).Perm (j8 O)
 |.link p q,_+1,T=>T=.link p q
 |.ei r A,i+1,T=>∃J,T=.ei r J/\gZ A i J
 |.bo r A B,i+1,T=>∃J U,T=.bo r J U/\gZ A i J/\gZ B (i-zu A) U
 |.cu p q A B,i+1,T=>∃J U,T=.cu p q J U/\gZ A i J/\gZ B (i-zu A) U
theorem cY{T:Ru}(h:(j8 T).Perm (j8 O)):gZ O 0 T:=by cases O<;>exact h
theorem bR:∀(O:Ru) (i:Nat),gZ O i O
 |.link ..,0=>.refl _
 |.ei ..,0=>.refl _
 |.bo ..,0=>.refl _
 |.cu ..,0=>.refl _
 |.link ..,_+1=>rfl
 |.ei _ A,i+1=>⟨_,rfl,bR A i⟩
 |.bo _ A B,i+1=>⟨_,_,rfl,bR A i,bR B _⟩
 |.cu _ _ A B,i+1=>⟨_,_,rfl,bR A i,bR B _⟩
theorem bZ:∀{O:Ru} {i:Nat} {T:Ru},zu O<=i->gZ O i T->T=O
 |O,0,_,h,_=>by have:=kc O;lia
 |.link ..,_+1,_,_,p=>p
 |.ei _ A,i+1,_,h,⟨J,e,p⟩=>by have h:zu A+1<=i+1:=h;rw[e,bZ (by lia) p]
 |.bo _ A B,i+1,_,h,⟨J,U,e,p,q⟩=>by have h:zu A+zu B+1<=i+1:=h;rw[e,bZ (by lia) p,bZ (by lia) q]
 |.cu _ _ A B,i+1,_,h,⟨J,U,e,p,q⟩=>by have h:zu A+zu B+1<=i+1:=h;rw[e,bZ (by lia) p,bZ (by lia) q]
theorem ag2(O:Ru)(J:List Int):(aw O J)[0]?=some (J,O):=by cases O<;>rfl
theorem aff:∀{O:Ru} {i:Nat} {T:Ru} {J v:List Int} {S:Ru},gZ O i T->(aw O J)[i]?=some (J++v,S)->∃X,qy T v=some X/\(j8 X).Perm (j8 S)/\∀U,gZ S 1 U->gZ O (i+1) (zc T v U):=by
 have nil:∀{J v:List Int},J=J++v->v=[]:=λh=>by have:=Bi List.length h;rw[Ad] at this;exact DG.mp (by lia)
 have tail:∀{O A:Ru} {i:Nat} {J v:List Int} {S:Ru} {k:Int},(aw A (J++[k]))[i]?=some (J++v,S)->∃u,v=k::u:=λ{O A i J v S k} h=>by obtain⟨u,e,_⟩:=l6.mp (Aw h);rw[AD] at e;exact⟨u,List.append_cancel_left e⟩
 have zero:∀{O T:Ru} {J v:List Int} {S:Ru},(j8 T).Perm (j8 O)->(aw O J)[0]?=some (J++v,S)->∃X,qy T v=some X/\(j8 X).Perm (j8 S)/\∀U,gZ S 1 U->gZ O 1 (zc T v U):=λ{O T J v S} p h=>by rw[ag2] at h;obtain⟨e,rfl⟩:=Prod.mk.inj (AN h);cases nil e;exact⟨T,rfl,p,λ_ z=>z⟩
 intro O
 induction O with
 |link a b=>
  intro i T J v S p h;cases i with|zero=>exact zero p h|succ i=>cases h
 |ei r A ih=>
  intro i T J v S p h;cases i with
  |zero=>exact zero p h
  |succ i=>
   obtain⟨A',rfl,o⟩:=p;replace h:(aw A (J++[0]))[i]?=some (J++v,S):=h;obtain⟨u,rfl⟩:=tail (O:=A) h;obtain⟨X,g,j,l⟩:=ih (v:=u) o (by rw[h,AD];rfl);exact⟨X,g,j,λU z=>⟨_,rfl,l U z⟩⟩
 |bo r A B t C=>
  intro i T J v S p h;cases i with
  |zero=>exact zero p h
  |succ i=>
   obtain⟨A',B',rfl,o,I⟩:=p;replace h:(aw A (J++[0])++aw B (J++[1]))[i]?=some (J++v,S):=h;by_cases c:i<zu A
   ·rw[AB (by rw[vo];exact c)] at h;obtain⟨u,rfl⟩:=tail (O:=A) h;obtain⟨X,g,j,l⟩:=t (v:=u) o (by rw[h,AD];rfl);refine⟨X,g,j,λU z=>⟨_,_,rfl,l U z,?_⟩⟩;rw[show i-zu A=0 by lia] at I;rw[show i+1-zu A=0 by lia];exact I
   ·rw[Ax (by rw[vo];lia),vo] at h;obtain⟨u,rfl⟩:=tail (O:=A) h;obtain⟨X,g,j,l⟩:=C (v:=u) I (by rw[h,AD];rfl);refine⟨X,g,j,λU z=>⟨_,_,rfl,?_,?_⟩⟩
    ·rw[bZ (by lia) o];exact bR ..
    ·rw[show i+1-zu A=i-zu A+1 by lia];exact l U z
 |cu a b A B t C=>
  intro i T J v S p h;cases i with
  |zero=>exact zero p h
  |succ i=>
   obtain⟨A',B',rfl,o,I⟩:=p;replace h:(aw A (J++[0])++aw B (J++[1]))[i]?=some (J++v,S):=h;by_cases c:i<zu A
   ·rw[AB (by rw[vo];exact c)] at h;obtain⟨u,rfl⟩:=tail (O:=A) h;obtain⟨X,g,j,l⟩:=t (v:=u) o (by rw[h,AD];rfl);refine⟨X,g,j,λU z=>⟨_,_,rfl,l U z,?_⟩⟩;rw[show i-zu A=0 by lia] at I;rw[show i+1-zu A=0 by lia];exact I
   ·rw[Ax (by rw[vo];lia),vo] at h;obtain⟨u,rfl⟩:=tail (O:=A) h;obtain⟨X,g,j,l⟩:=C (v:=u) I (by rw[h,AD];rfl);refine⟨X,g,j,λU z=>⟨_,_,rfl,?_,?_⟩⟩
    ·rw[bZ (by lia) o];exact bR ..
    ·rw[show i+1-zu A=i-zu A+1 by lia];exact l U z
theorem wR.pre{T A:Ru}(t:wR ks O O1 O2 i j)(u:wR ks T A B i j)(n:(qk O).Nodup)(pm:(j8 T).Perm (j8 O))(h:wy T=wy O):(j8 A).Perm (j8 O1)/\(j8 B).Perm (j8 O2):=by
 rw[t.hs,u.hs,h] at pm;have P:=(List.perm_cons _).mp pm;obtain⟨r,C⟩:=t.arms u n λh m=>P.mem_iff.mp m;obtain⟨E1,I,_⟩:=t.sA;obtain⟨E2,s2,_⟩:=t.sB;obtain⟨EA,sA,_⟩:=u.sA;obtain⟨EB,sB,_⟩:=u.sB;have J:∀h∈j8 A,h.2.1∈qk O1:=λh m=>r _ (sA.grp h m _ (aN ks h));have U:∀h∈j8 B,h.2.1∉qk O1:=λh m=>C _ (sB.grp h m _ (aN ks h));have g:∀h∈j8 O1,h.2.1∈qk O1:=λh m=>I.grp h m _ (aN ks h);have l:∀h∈j8 O2,h.2.1∉qk O1:=λh m z=>(Au.mp (t.nd n).1).2.2 _ z _ (s2.grp h m _ (aN ks h)) rfl;have f1:∀{X Z:List Hd},(∀h∈X,h.2.1∈qk O1)->(∀h∈Z,h.2.1∉qk O1)->(X++Z).filter (λh=>decide (h.2.1∈qk O1))=X/\(X++Z).filter (λh=>!decide (h.2.1∈qk O1))=Z:=λ{X Z} a b=>by
  rw[Bk,Bk];refine⟨?_,?_⟩
  ·rw[List.filter_eq_self.mpr λh m=>AH (a h m),Ct.mpr λh m z=>b h m (of_decide_eq_true z),AS]
  ·rw[Ct.mpr λh m z=>(by rw[AH (a h m)] at z;cases z),List.filter_eq_self.mpr λh m=>(by rw[Ay (b h m)];rfl),CH]
 have o:=P.filter λh=>decide (h.2.1∈qk O1);have p:=P.filter λh=>!decide (h.2.1∈qk O1);rw[(f1 J U).1,(f1 g l).1] at o;rw[(f1 J U).2,(f1 g l).2] at p;exact⟨o,p⟩
theorem ah4{T:Ru}(U:lh ks O O)(g:lh ks O T)(h:wy T=wy O):gZ O 1 T:=by
 obtain⟨EO,sO⟩:=U.s;obtain⟨ET,sT⟩:=g.s;have pm:=g.p;rcases sO.two with⟨p,q,rfl⟩|⟨p,O1,rfl⟩|⟨O1,O2,i,j,t⟩
 ·cases T<;>cases h;rfl
 ·cases T with
  |ei r A=>
   cases h;exact⟨A,rfl,cY ((List.perm_cons _).mp pm)⟩
  |link=>cases h
  |bo=>cases h
  |cu=>cases h
 ·obtain⟨A,B,u⟩:=t.hd sT h;obtain⟨l,o⟩:=t.pre u U.n pm h;have J:=t.ar;have I:=u.ar;cases O with
  |link=>cases J
  |ei=>cases J
  |bo r C D=>
   cases J;cases T<;>cases h;cases I;exact⟨_,_,rfl,cY l,by rw[Nat.zero_sub];exact cY o⟩
  |cu p q C D=>
   cases J;cases T<;>cases h;cases I;exact⟨_,_,rfl,cY l,by rw[Nat.zero_sub];exact cY o⟩
theorem dD:∀(R:Ru) (w:List Int),(aw R w).map (·.2)=jg R
 |.link ..,_=>rfl
 |.ei _ A,w=>Bi (_::·) (dD A _)
 |.bo _ A B,w=>by show _::(aw A _++aw B _).map (·.2)=_;rw[Ak,dD A,dD B];rfl
 |.cu _ _ A B,w=>by show _::(aw A _++aw B _).map (·.2)=_;rw[Ak,dD A,dD B];rfl
theorem ln(R:Ru):(j8 R).length=zu R:=by rw[j8,Ab,<-dD R [],Ab,vo]
def bz(es:List (List Int×Ru)):Nat:=(es.map λe=>zu e.2-1).sum
theorem dC:∀(R:Ru) (w:List Int),2*bz (aw R w)+zu R<=zu R*zu R
 |.link ..,_=>Al _
 |.ei r A,w=>by have h:=dC A (w++[0]);show 2*((zu A+1-1)+bz (aw A (w++[0])))+(zu A+1)<=(zu A+1)*(zu A+1);rw[Ds,Cq];lia
 |.bo r A B,w=>by
  have U:=dC A (w++[0]);have g:=dC B (w++[1]);have e:bz (aw (.bo r A B) w)=(zu A+zu B+1-1)+(bz (aw A (w++[0]))+bz (aw B (w++[1]))):=by show(zu A+zu B+1-1)+bz (aw A (w++[0])++aw B (w++[1]))=_;unfold bz;rw[Ak,BC]
  rw[e];show _+(zu A+zu B+1)<=(zu A+zu B+1)*(zu A+zu B+1);have J:(zu A+zu B+1)*(zu A+zu B+1)=zu A*zu A+zu B*zu B+2*(zu A*zu B)+2*zu A+2*zu B+1:=by rw[Ds,Ds,Cq,Cq,Cq,Cq,Nat.mul_comm (zu B) (zu A)];lia
  rw[J];have:=kc A;have:=kc B;have:=Dj (kc A) (kc B);lia
 |.cu p q A B,w=>by
  have U:=dC A (w++[0]);have g:=dC B (w++[1]);have e:bz (aw (.cu p q A B) w)=(zu A+zu B+1-1)+(bz (aw A (w++[0]))+bz (aw B (w++[1]))):=by show(zu A+zu B+1-1)+bz (aw A (w++[0])++aw B (w++[1]))=_;unfold bz;rw[Ak,BC]
  rw[e];show _+(zu A+zu B+1)<=(zu A+zu B+1)*(zu A+zu B+1);have J:(zu A+zu B+1)*(zu A+zu B+1)=zu A*zu A+zu B*zu B+2*(zu A*zu B)+2*zu A+2*zu B+1:=by rw[Ds,Ds,Cq,Cq,Cq,Cq,Nat.mul_comm (zu B) (zu A)];lia
  rw[J];have:=kc A;have:=kc B;have:=Dj (kc A) (kc B);lia
end L3
namespace L2
open PySem PySem.Spec PyProof.Rows
theorem ox(n:Nat):Builtin.Range.rangeSize ((n:Int)-1) (-1) (-1)=(n:Int):=by unfold Builtin.Range.rangeSize;rw[AG (by decide),show(- -1:Int)=1 by decide,Int.ediv_one];split<;>omega
theorem acy(h:(n:Int)<2 ^ 62):Builtin.Range.small ((n:Int)-1) (-1) (-1)=true:=by
 have e:=ox n;have J:∀x:Int,-(2 ^ 62)<=x->x<2 ^ 62->Builtin.Range.rangeFitsLong x=true:=λx U g=>by unfold Builtin.Range.rangeFitsLong;simp;omega
 unfold Builtin.Range.small;rw[e,J _ (by omega) (by omega),J (-1) (by decide) (by decide),J _ (by omega) h];simp only[Bool.true_and];rw[AG (by decide),J _ (by decide) (by decide),Bool.or_true]
def apw(ta:TA):TI:=λσ H R=>ta σ H λvs H1=>∃n:Nat,vs=[.int ((n:Int)-1),.int (-1),.int (-1)]/\(n:Int)<2 ^ 62/\R (Itd n) H1
theorem abn{a b:Expr}{ta:TA}(hg:Gl X "range")(hm:X.mg "range"=none)(ha:PA X [a,b,c] ta)(hs:starEach [a,b,c] X.env=[(false,eval a X.env),(false,eval b X.env),(false,eval c X.env)]:=by rfl)(j:starEach [b,c] X.env=[(false,eval b X.env),(false,eval c X.env)]:=by rfl):
 PI X tg (.Call (.Name "range" p) [a,b,c] [] pos) (apw ta):=by
 intro J s C H R I h;refine Call_ (bw I hg hm boot_range (BE (aV (ha pos J s C H _ I h) λus U ⟨vs,T,I1,r1,q1⟩=>?_) (by rw[hs,j]) (by rw[j];rfl)));obtain⟨n,e,hn,q⟩:=q1;obtain⟨m,em⟩:∃m:Int,m=(n:Int)-1:=⟨_,rfl⟩;rw[<-em] at e;subst e;cases r1 with
 |cons r rr=>
  cases rr with
  |cons r' rr=>
   cases rr with
   |cons a0 rr=>
    cases rr;obtain⟨t,rfl⟩:=r;obtain⟨t',rfl⟩:=r';obtain⟨g,rfl⟩:=a0;refine call_range_3 (by decide) ?_;have l:zd X J C T { U with heap:=U.heap.push { cls:=.type "range",data:=.fields #[.int m t,.int (-1) t',.int (-1) g] } }:=I1.kept (t':=U.toks) λb o e=>r4 _ e;generalize a1:U.heap.push { cls:=.type "range",data:=.fields #[.int m t,.int (-1) t',.int (-1) g] }=g2 at l ⊢;have hr:IsRange g2 U.heap.objs.size m (-1) (-1) t t' g:=by rw[<-a1];exact sy _ rfl
    refine wpAny_pyIter_range (s:={ U with heap:=g2 }) hr (by rw[em];exact acy hn) ?_;rw[em,ox n];have st:IsRangeIter (g2.push { cls:=.type "range_iterator",data:=.fields #[rawInt ((n:Int)-1),rawInt (n:Int),rawInt (-1)] }) g2.objs.size ((n:Int)-1+((0:Nat):Int)*(-1)) ((n:Int)-((0:Nat):Int)) (-1):=by rw[show(n:Int)-1+((0:Nat):Int)*(-1)=(n:Int)-1 by omega,show(n:Int)-((0:Nat):Int)=(n:Int) by omega];exact sy _ rfl
    have I3:zd X J C T { U with heap:=g2.push { cls:=.type "range_iterator",data:=.fields #[rawInt ((n:Int)-1),rawInt (n:Int),rawInt (-1)] } }:=l.kept (t':=U.toks) λb o e=>r4 _ e;refine⟨_,[_],_,_,T,rfl,I3,abd _ n,st,λb hb=>?_,q⟩;have e:b=g2.objs.size:=by simpa using hb
    subst e;exact l.fpOk (Al _) (l.hok.fresh (Al _))
end L2
namespace L3
open PySem L2
def vM(ta:eY)(τ:x8)(L:qu)(R:List Y->(qu->Prop)->qu->Prop):Prop:=ta τ L λvs L1=>match vs with
 |[.int i,.int j,.int k]=>∃n:Nat,i=(n:Int)-1/\j = -1/\k = -1/\n<=1000/\R (iP n) (λ_=>True) L1
 |_=>False
theorem aaz{a b:Expr}{ta:eY}(t:Gl X "range")(C:X.mg "range"=none)(I:QA X [a,b,c] ta)(hs:starEach [a,b,c] X.env=[(false,eval a X.env),(false,eval b X.env),(false,eval c X.env)]:=by rfl)(g:starEach [b,c] X.env=[(false,eval b X.env),(false,eval c X.env)]:=by rfl):
 QI X tg (.Call (.Name "range" p) [a,b,c] [] pos) (vM ta):=PI.imq (abn t C I hs g) λσ H R T L R3 rs rl z k=>by
 refine⟨T,L,_,rs,rl,z,λvs H1 ys L1 t1 j l U=>?_⟩;unfold vM at U;split at U
 ·obtain⟨n,rfl,rfl,rfl,hn,z2⟩:=U;obtain⟨x,xs,rfl,rx,o⟩:=l;obtain⟨x',a0,rfl,r,J⟩:=xp.inv2 o;cases rx;cases r;cases J;exact⟨n,rfl,by omega,k _ H1 _ _ L1 t1 j (ue n) z2⟩
 ·exact U.elim
open PySem L2 Words
theorem vA{l m:List (Nat×Nat)}(h:l.Perm m)(J:l.Pairwise rh)(U:m.Pairwise rh):l=m:=by refine List.Perm.eq_of_pairwise (le:=rh) (λa b _ _ g j=>?_) J U h;unfold rh at g j;exact Prod.ext (by lia) (by lia)
theorem af:∀R:Ru,(zx R).length+1<=(zm R).length/\2*(zm R).length<=(qk R).length
 |.link _ _=>⟨Al _,Al _⟩
 |.ei _ A=>⟨(af A).1,BQ (af A).2⟩
 |.bo _ A B=>by have:=af A;have:=af B;show(zx A++zx B).length+1<=(zm A++zm B).length/\2*(zm A++zm B).length<=(qk A++qk B).length+1;simp only[Ad];lia
 |.cu _ _ A B=>by have:=af A;have:=af B;show(zx A++zx B).length+1+1<=(zm A++zm B).length/\2*(zm A++zm B).length<=(qk A++qk B).length;simp only[Ad];lia
def tQ:ku:=(jb (iW qR (qd (sN 1 (vv (qa 0)) (qe 2) (gd (x4 2 0) (qa 1)) (rdT (x4 2 1) (x4 2 2))) zb)))
def aah(J:jn)(p1:jn):ku:=(qt (zg (qz J (xu (x4 0 1))) (qe 1))
 (jb (k8 (qd (iW aF (xu (x4 0 0))) (qd (qz p1 (aW (qa 1) (dg "link"))) (qd (qz p1 (aW (qa 1) (dg "cut"))) zb))))))
def ah3(J:jn):ku:=(jb (acr (zk (yH false) (x4 0 0) (x4 1 0)) (zk (yH false) (qz J (xu (qa 0))) (qz J (xu (qa 1))))))
def ac9(J:jn)(p1:ff)(p2:jn):ku:=(qt (zg (qz J (qd (zk ai (jH p1 noX (aW (x4 0 1) (qa 1))) (yUn uL (jl 1))) zb)) (qe 3))
 (qt (zg (zk ai (sN 2 (vv (qa 3)) (aJ 2 (zq (qe 5) (zq (qe 6) wv))) (yB (qz p2 (aW (qa 6) (qa 2)))) (qa 5)) (jl 0)) (qe 4))
 (jb (sN 1 (vM (qd (zk gY (cq 4) (jl 1)) (qd (yUn uL (jl 1)) (qd (yUn uL (jl 1)) zb)))) (qe 5) wI (k8 (qd (zk km (qa 1) (sM rb (qa 4) kq (ww (qa 5)))) (qd (zk ai (qa 4) (qa 5)) zb)))))))
def alz(J:jn)(p1:jn)(p2:jn)(p3:ff):ku:=(qt (xt (rdN (qz J (xu (qa 0))) (qz J (xu (qa 1)))) af1 jv)
 (qt (zg (qa 0) (qe 2))
 (qt (zg (ju zb) (qe 3))
 (qt (dU (vv (qz p1 (xu (x4 1 1)))) (aJ 2 (zq (qe 4) (zq (qe 5) wv))) (dU (vv (qz p2 (qd (qa 2) (aW (qa 4) (qa 5))))) (qe 6) (qt (zg (jH p3 noX (qd (qa 2) (aW (x4 6 0) (x4 6 1)))) (qe 2))
 (jr (aj jc (qa 3) (xu (qa 6)))))))
 (jb (qa 3))))))
def ajc(J:jn)(p1:jn)(p2:jn)(p3:jn)(p4:jn):ku:=(qt (xt (sG (yB (gG .list (qa 2)))) (jb (yC .non)) jv)
 (qt (dU (vv (qa 2)) (qe 3) (qt (xt (yOr (sG (yB (gG .tuple (qa 3)))) (yOr (rdN (cq 3) (jl 2)) (sG (yB (gG .list (x4 3 0)))))) (jb (yC .non)) jv)
 (qt (zg (qa 3) (aJ 2 (zq (qe 4) (zq (qe 5) wv))))
 (qt (zg (qa 1) (qe 6))
 (qt (dU (vv (zk km (qa 4) (ju (xu (qa 5))))) (qe 7) (qt (zg (qz J (xu (qa 6))) (qe 8))
 (qt (xt (yOr (sG (yB (gG .int (qa 7)))) (yOr (yB (gG .bool (qa 7))) (yOr (yB (zk yLt (qa 7) (jl 0))) (yB (zk yGe (qa 7) (cq 8)))))) (jb (yC .non)) jv)
 (zg (zk ai (qa 8) (qa 7)) (qe 6)))))
 (qt (zg (qz p1 (aW (qa 1) (qa 4))) (qe 9))
 (qt (zg (qz p2 (qd (qa 0) (aW (qa 9) (qa 5)))) (qe 10))
 (qt (xt (yB (lG false (qa 10))) (jb (yC .non)) jv)
 (zg (qz p3 (qd (qa 1) (qd (qa 4) (qd (qz p4 (qd (qa 9) (aW (qa 5) (qa 10)))) zb)))) (qe 1))))))))))
 (jb (qa 1))))
def ace(J:jn):ku:=(qt (ajz 1 2 (qd (jl 0) (qd (ju (xu (qa 0))) zb)))
 (qt (eQ (rdN (qa 2) (ju zb)) (qt (zg (zk km (qa 1) (jl 1)) (qe 1))
 (jr (aj ak (qa 2) (qd (qz J (qd (aj uh (qa 2) zb) zb)) zb)))))
 (jb (qa 1))))
def an8(J:jn)(p1:jn)(p2:jn):ku:=(qt (zg (ju (qd (k8 (qd (iW aF (xu (qa 0))) (xu (qa 1)))) (qd (k8 (qd (iW aF (xu (qa 0))) (xu (qa 2)))) zb))) (qe 3))
 (qt (zg (qz J (aW (x4 3 0) (x4 3 1))) (qe 4))
 (qt (zg (qz p1 (xu (qa 1))) (qe 5))
 (qt (xt (yOr (sG (yB (gG .list (qa 4)))) (yB (zk yGt (cq 4) (zk az (zk o9 (qa 5) (zk gY (qa 5) (jl 1))) (jl 2))))) (jb (yC (.bl false))) jv)
 (qt (xt (yOr (rdN (zk ai (x4 3 0) (jl 0)) (qa 0)) (rdN (zk ai (x4 3 1) (jl 0)) (qa 0))) (jb (yC (.bl false))) jv)
 (jb (zk (yH false) (qz p2 (qd (qa 0) (aW (qa 1) (qa 4)))) (qa 2))))))))
def ajn(J:jn)(p1:jn)(p2:jn)(p3:jn)(p4:jn)(p5:jn)(p6:jn)(p7:jn)(p8:jn)(p9:jn):ku:=(qt (zg (zk w5 (zk ai (zk aks (qa 0) (ju (xu (jl 0)))) (jl 0)) (zk aub (jl 10) (jl 9))) (qe 1))
 (qt (zg (qz J (qd (sM rb (qa 0) (ww (jl 1)) kq) (aW (qa 1) (jl 40)))) (aJ 2 (zq (qe 2) (zq (qe 3) wv))))
 (qt (zg (qz p1 (qd (qa 2) (aW (qa 3) (qa 1)))) (aJ 2 (zq (qe 2) (zq (qe 3) wv))))
 (qt (zg (qa 3) (qe 4))
 (qt (dU (eW (zk km (sM rb (qa 0) (ww (jl 1)) (ww (jl 81))) (sM rb (qa 0) (ww (jl 1)) (ww (jl 81))))) (aJ 2 (zq (qe 5) (zq (qe 6) wv))) (qt (zg (qz p2 (qd (qa 6) (aW (qa 5) (jl 16807)))) (qe 7))
 (qt (zg (qz p3 (qd (qa 4) (qd (zk w5 (zk o9 (qa 7) (jl 69621)) (jl 2147483647)) zb))) (qe 8))
 (qt (zg (qz p4 (aW (qa 4) (qa 8))) (qe 9))
 (qt (zg (qz p5 (qd (qa 2) (qd (qa 9) (qd (zk w5 (qa 7) (jl 2)) zb)))) (qe 10))
 (xt (yB (lG true (qa 10))) (zg (qz p6 (qd (qa 4) (qd (qa 8) (qd (qz p7 (qd (qa 9) (qd (zk w5 (qa 7) (jl 2)) (xu (qa 10))))) zb)))) (qe 4)) jv))))))
 (qt (xt (yOr (sG (yB (qz p8 (qd (qa 2) (aW (qa 3) (qa 4)))))) (sG (yB (qz p8 (qd (qa 2) (aW (qa 4) (qa 3))))))) (jb (yC (.bl false))) jv)
 (qt (zg (qz p9 (qd (k8 (qd (iW aF (xu (qa 2))) (xu (qa 4)))) (qd (k8 (qd (iW aF (xu (qa 2))) (xu (qa 4)))) zb))) (qe 11))
 (jb (acr (gG .list (qa 11)) (zk (yH false) (qa 11) (ju zb)))))))))))
theorem a6:∀A:Ru,(jg A).flatMap iH=zm A
 |.link _ _=>rfl
 |.ei r A=>a6 A
 |.bo r A B=>by show((jg A++jg B).flatMap iH)=zm A++zm B;rw[AA,a6 A,a6 B]
 |.cu p q A B=>by show((jg A++jg B).flatMap iH)=zm A++zm B;rw[AA,a6 A,a6 B]
theorem bT:∀A:Ru,(jg A).flatMap iS=zx A
 |.link _ _=>rfl
 |.ei r A=>bT A
 |.bo r A B=>by show((jg A++jg B).flatMap iS)=zx A++zx B;rw[AA,bT A,bT B]
 |.cu p q A B=>by show(p,q)::((jg A++jg B).flatMap iS)=(p,q)::(zx A++zx B);rw[AA,bT A,bT B]
def s9:Bool->Ru->List (Nat×Nat)
 |true,A=>iH A
 |false,A=>iS A
def pkS:Bool->Str
 |true => "link"
 |false => "cut"
def dM:jn:=λys L Q=>∃a,∃J:List Ru,∃b:Bool,ys=[.ref a,.str (pkS b)]/\L a=some (.lst (J.map qj))/\J.length<=1000/\(J.flatMap (s9 b)).Nodup/\(∀p∈J.flatMap (s9 b),p.2<1000000)/\(J.flatMap (s9 b)).length<=63/\
 ∀D ps,L D=none->ps.Perm (J.flatMap (s9 b))->ps.Pairwise rh->Q (.ref D) (qh L D (.lst (bE ps)))
theorem ra:∀ys L Q,dM ys L Q->xl tQ 2 ys L Q:=by
 rintro ys L Q ⟨a,J,b,rfl,t,C,nd,I,T,q⟩;refine jx t λkeep kp=>cw (λi U=>U=bE ((J.take i).flatMap (s9 b))) (by rw[Ab];exact Cr C (by decide)) (kp _ rfl) rfl ?_ ?_
 ·rintro i y U j rfl;rw[An] at j;obtain⟨B,eB,rfl⟩:=Ao.mp j;have l:(J.take (i+1)).flatMap (s9 b)=(J.take i).flatMap (s9 b)++s9 b B:=by rw[A3,eB,AA];show _++[B].flatMap (s9 b)=_;rw[Cs]
  have no:s9 b B=[]->gi (λU g=>g=L/\U=bE ((J.take (i+1)).flatMap (s9 b))) (bE ((J.take i).flatMap (s9 b))) L:=λe=>⟨_,DW _,rfl,by rw[l,e,AS]⟩;have yes:∀c,s9 b B=[c]->gi (λU g=>g=L/\U=bE ((J.take (i+1)).flatMap (s9 b))) (bE ((J.take i).flatMap (s9 b))++[prN c]) L:=λc e=>⟨_,DW _,rfl,by rw[l,e,ig]⟩;cases b with
  |true=>
   cases B with|link p r=>exact yes (p,r) rfl|ei r A=>exact no rfl|bo r A B=>exact no rfl|cu p r A B=>exact no rfl
  |false=>
   cases B with|link p r=>exact no rfl|ei r A=>exact no rfl|bo r A B=>exact no rfl|cu p r A B=>exact yes (p,r) rfl
 rintro U rfl p1 h1;rw[Ab,A6];refine aq0 q8 I nd T λD ps o pm pw=>?_;exact wr (EW ((By h1).trans (By o)) q8) (q D ps (jf o) pm pw)
theorem SR.pairs{A:Ru}{E:List Nat}(J:SR ks A E)(nd:(qk A).Nodup):(zm A).Nodup/\(zx A).Nodup/\(∀p∈zm A,p.2∈qk A)/\∀p∈zx A,p.2∈qk A:=by have part:=J.part nd;exact⟨gW (J.leaves.nodup_iff.mpr (nd.filter _)),gW (Au.mp (Au.mp (part.nodup_iff.mpr nd)).2.1).1,λp U=>(AJ.mp (J.leaves.mem_iff.mp (mm U).2)).1,λp U=>part.mem_iff.mp (Ae _ (Ar _ (mm U).2))⟩
def gQ:jn:=λys L Q=>∃a,∃wd:List (Option Kn),∃ks:List Kn,∃A:Ru,∃E:List Nat,ys=[.tup [.ref a,qj A]]/\L a=some (.lst (aM wd))/\SR ks A E/\(qk A).Nodup/\(qk A).length<=120/\ks.length<=1000/\
 ∀J U g lk ct L',qf L L'->L' J=some (.lst (aM wd))->L' U=some (.lst (bE lk))->L' g=some (.lst (bE ct))->lk.Perm (zm A)->lk.Pairwise rh->ct.Perm (zx A)->ct.Pairwise rh->Q (avm J U g) L'
theorem wJ:∀ys L Q,gQ ys L Q->xl (aah (ae 120) dM) 2 ys L Q:=by
 rintro ys L Q ⟨a,wd,ks,A,E,rfl,ha,C,nd,tl,kl,q⟩;have rd:=jo A;have rz:=vg A;obtain⟨fc,fl⟩:=af A;obtain⟨j,I,m1,m2⟩:=C.pairs nd;refine⟨A,rfl,by lia,by lia,λU h1=>?_⟩;have T:qf L (qh L U (.lst ((jg A).map qj))):=By h1;have g1:qh L U (.lst ((jg A).map qj)) U=some (.lst ((jg A).map qj)):=q8;generalize qh L U (.lst ((jg A).map qj))=L1 at T g1 ⊢;refine qc (T _ _ ha) λl a0=>?_;have s2:qf L1 (qh L1 l (.lst (aM wd))):=By a0;have zl:(jg A).length<=1000:=by rw[bC];lia
 have r:(jg A).flatMap (s9 true)=zm A:=a6 A;have t:(jg A).flatMap (s9 false)=zx A:=bT A;refine⟨U,jg A,true,rfl,s2 _ _ g1,zl,by rw[r];exact j,?_,?_,λla lk g pl wl=>?_⟩
 ·rw[r];intro p hp;have:=C.lt _ (m1 p hp);lia
 ·rw[r];lia
 rw[r] at pl;have s3:=s2.trans (By (o:=.lst (bE lk)) g);refine⟨U,jg A,false,rfl,s3 _ _ g1,zl,by rw[t];exact I,?_,?_,λca ct J pc wc=>?_⟩
 ·rw[t];intro p hp;have:=C.lt _ (m2 p hp);lia
 ·rw[t];lia
 rw[t] at pc;have j:l≠la:=k7 q8 g;have I:l≠ca:=k7 ((qb j).trans q8) J;have n3:la≠ca:=k7 q8 J;exact xi (q l la ca lk ct _ (T.trans (s3.trans (By J))) ((qb I).trans ((qb j).trans q8)) ((qb n3).trans q8) q8 pl wl pc wc)
theorem adn{A:Ru}:wy A=wy B↔kdR A=kdR B/\y9 A=y9 B:=by
 cases A<;>cases B<;>first
  |(refine⟨(λh=>by cases h),λh=>?_⟩;exact absurd h.1 (by dsimp only[kdR];decide))
  |(constructor
    ·intro h;cases h;exact⟨rfl,rfl⟩
    ·rintro⟨_,h⟩;cases h;rfl)
def mH:jn:=λys L Q=>∃A B:Ru,ys=[qj A,qj B]/\Q (.bl (decide (wy A=wy B))) L
theorem af3:∀ys L Q,mH ys L Q->xl (ah3 l7) 2 ys L Q:=by
 rintro ys L Q ⟨A,B,rfl,q⟩;rw[dJ A,dJ B];have J:∀{y:Y} {ys:List Y},iL (y::ys) 0=some y:=λ{y ys}=>xq (j:=0) rfl;walk_at "w";rw[J];walk_at "w";rw[J];show wq (decide (kdR A=kdR B)) _ _;refine xn (λc=>?_) λc=>?_
 ·refine⟨A,by rw[dJ A],λo g=>⟨B,by rw[dJ B],λp U=>?_⟩⟩;have e:∀l:List Nat,nY l=(l.map λn:Nat=>(n:Int)).map Y.int:=λl=>by rw[Bz];rfl
  rw[e,e] at *;refine wf (n:=0) (m:=0) (by decide) (By U _ _ q8) q8 (cV _) (cV _) ?_;show dt Q (.bl (Da.eqs _ _)) _;rw[tI];refine wr ((By g).trans (By U)) ?_;rw[show decide ((y9 A).map (λn:Nat=>(n:Int))=(y9 B).map λn:Nat=>(n:Int))=decide (wy A=wy B) from C0.mpr ⟨λh=>adn.mpr ⟨c,(List.map_inj_right λa b h=>by lia).mp h⟩,λh=>by rw[(adn.mp h).2]⟩];exact q
 ·rw[Ay (λh=>c (adn.mp h).1)] at q;exact xi q
def wT(w u:List Int):List (List Int×Int):=(List.range u.length).map λm=>(w++u.take (u.length-1-m),u.getD (u.length-1-m) 0)
theorem yO{w u:List Int}(h:m<u.length):(wT w u)[m]?=some (w++u.take (u.length-1-m),u.getD (u.length-1-m) 0):=by unfold wT;rw[An,Cj h];rfl
theorem uH(w u:List Int):(wT w u).length=u.length:=by unfold wT;rw[Ab,Bq]
def jL:jn:=λys L Q=>∃a h,∃H X S:Ru,∃w:List Int,ys=[.tup [.ref a,qj H],.ref h,qj S]/\L h=some (.lst (w.map Y.int))/\w.length<=1000/\qy H w=some X/\wy S∈j8 X/\j5 X<=120/\zu X<=1000/\
 ∀p J u L',qf L L'->L p=none->L' p=some (.lst (J.map paT))->HW L' [] J->Fre L J->J.map (·.2)=wT w u->(∃r,qy X u=some r/\wy r=wy S)->(wy X=wy S->u=[])->Q (.ref p) L'
theorem aab :∀ys L Q,jL ys L Q->xl (ac9 l8 (eV C) mH) 5 ys L Q:=by
 rintro ys L Q ⟨a,h,H,X,S,w,rfl,hh,hw,eX,mS,hd,hz,q⟩;have big:=bg_;refine⟨H,h,w,rfl,hh,hw,λm em p1 h1=>?_,λe=>by rw[tZ e] at eX;cases eX⟩;obtain⟨l,x,rfl⟩:∃l x,m=l++[x]:=by
  obtain⟨m2,rfl,_⟩:=cO em;rcases BH (H::m2) with e|⟨l,x,e⟩
  ·cases e
  ·exact⟨l,x,by rw[e,BI]⟩
 have ex:=tW em;rw[eX] at ex;cases ex;have s1:=By (o:=.lst ((l++[X]).map qj)) h1;refine qc q8 (qo (by rw[Ak];exact eh _ _) ?_);generalize qh L p1 (.lst ((l++[X]).map qj))=L1 at s1 ⊢;refine⟨X,rfl,hd,hz,λp2 ts L2 s2 _ g2 HT _ T=>?_⟩;replace s2:=s1.trans s2;have tl:ts.length=zu X:=by have:=Bi List.length T;rw[Ab,vo] at this;exact this
 refine jx g2 λkeep kp=>cw (λi I=>I=((ts.take i).filter λt=>decide (wy t.2.2=wy S)).map λt=>Y.ref t.1) (by rw[Ab];exact big _ (by lia)) (kp _ rfl) rfl ?_ ?_
 ·rintro i y I J rfl;rw[An] at J;obtain⟨t,a0,rfl⟩:=Ao.mp J;refine⟨t.2.2,S,rfl,?_⟩;have e:ts.take (i+1)=ts.take i++[t]:=by rw[A3,a0];rfl
  refine xn (λc=>?_) λc=>?_
  ·refine⟨_,DW _,rfl,?_⟩;rw[e,Bk,Ak,Bt,AF (AH c)];rfl
  ·refine⟨_,DW _,rfl,?_⟩;rw[e,Bk,Ak,Bt,AG (by rw[Ay c];decide)];simp
 rintro I rfl p3 h3;rw[Ab,A6];obtain⟨U,fr,ef⟩:∃U fr,ts.filter (λt=>decide (wy t.2.2=wy S))=U::fr:=by
  obtain⟨B,mB,e⟩:=AL.mp mS;rw[<-dD X [],<-T,Bz] at mB;obtain⟨t,mt,rfl⟩:=AL.mp mB;have m:t∈ts.filter (λt=>decide (wy t.2.2=wy S)):=AJ.mpr ⟨mt,AH e⟩;cases e:ts.filter (λt=>decide (wy t.2.2=wy S)) with
  |nil=>rw[e] at m;cases m
  |cons a r=>exact⟨a,r,rfl⟩
 have m0:U∈ts.filter (λt=>decide (wy t.2.2=wy S)):=by rw[ef];exact Af ..
 obtain⟨mt,ht⟩:=AJ.mp m0;have ht:=of_decide_eq_true ht;have fst:wy X=wy S->U.2.1=[]:=λe=>by
  cases ts with
  |nil=>cases mt
  |cons t1 r=>
   rw[iC] at T;have e1:t1.2=([],X):=(BM T).1;rw[Bt,AF (AH (by rw[e1];exact e))] at ef;rw[<-(BM ef).1,e1]
 rw[ef];have g:=By (o:=.lst ((U::fr).map λt=>Y.ref t.1)) h3;refine qc q8 (qo (xq (j:=0) rfl) ?_);have g0:=g _ _ (HT.at_ U mt).1;replace g:=s2.trans g;generalize qh L2 p3 (.lst ((U::fr).map λt=>Y.ref t.1))=L3 at g g0 ⊢;obtain⟨pu,u,r⟩:=U;have eu:qy X u=some r:=by obtain⟨v,e1,e2⟩:=l6.mp (show(u,r)∈aw X [] by rw[<-T];exact AL.mpr ⟨_,mt,rfl⟩);rw[show u=v from e1];exact e2
 have ul:u.length<=120:=by have:=(vn eu).1;lia
 clear m0 ef mt HT T tl kp g2 s2;refine qc g0 ⟨u.length,by rw[Ab],rfl,rfl,by lia,?_⟩;refine rC ⟨by unfold iP;rw[Ab,Bq];exact big _ (by lia),λi I L'=>∃p:List WP,I=p.map paT/\qf L3 L'/\HW L' [] p/\Fre L p/\p.map (·.2)=(wT w u).take i,⟨[],rfl,DW _,⟨λt m=>by cases m⟩,λt m=>(by cases m),rfl⟩,λ_ _ _ _=>trivial,?_,?_⟩
 ·rintro i y I L' J ⟨p,rfl,s',H',F',e'⟩;unfold iP at J;have hi:=j6 J;rw[Ab,Bq] at hi;rw[An,Cj hi] at J;obtain⟨k,ek⟩:∃k,k=u.length-1-i:=⟨_,rfl⟩;have J:y=.int (k:Int):=by rw[<-AN J,ek];congr 1;lia
  subst J;have kl:k<u.length:=by lia
  refine qc (s' _ _ g0) λp4 n4=>?_;rw[show gb (u.map Y.int) none (some (k:Int))=(u.take k).map Y.int by rw[List.map_take];exact ail _ k];have s4:=s'.trans (By (o:=.lst ((u.take k).map Y.int)) n4);have g4:qh L' p4 (.lst ((u.take k).map Y.int)) p4=some (.lst ((u.take k).map Y.int)):=q8;have H4:=H'.mono (By (o:=.lst ((u.take k).map Y.int)) n4);generalize qh L' p4 (.lst ((u.take k).map Y.int))=L4 at s4 g4 H4 ⊢;refine⟨_,_,(g.trans s4) _ _ hh,g4,by rw[Ab,Ab];exact Bf (big _ (by rw[A1];lia)),λp5 n5=>?_⟩;have s5:=By (o:=.lst (w.map Y.int++(u.take k).map Y.int)) n5;have a1:u[k]?=some (u.getD k 0):=by rw[Be,Ag kl];rfl
  refine qc ((s4.trans s5) _ _ g0) (qo (jy a1) ⟨_,DW _,p++[(p5,w++u.take k,u.getD k 0)],by rw[Ak];rfl,s4.trans s5,(H4.mono s5).app (.one (by rw[q8,Ak]) (by simp)),λt m=>?_,?_⟩)
  ·rcases Ap.mp m with m|m
   ·exact F' t m
   ·rw[Aj.mp m];exact(g.trans s4).none n5
  ·rw[Ak,e',A3,yO hi,<-ek];rfl
 ·rintro I L' ⟨p,rfl,s',H',F',e'⟩ p4 n4;unfold iP at e';rw[Ab,Bq,A5 (by rw[uH];exact Al _)] at e';exact xi (q p4 p u _ ((g.trans s').trans (By n4)) ((g.trans s').none n4) q8 (H'.mono (By n4)) F' e' ⟨r,eu,ht⟩ fst)
def kI(ks:List Kn):Ru->List (List Int×Int)->Ru->Prop
 |R,[],O=>R=O
 |R,e::r,O=>∃R',kQ ks R e.1 e.2=some R'/\kI ks R' r O
theorem pC{ks:List Kn}{A B:Ru}{w:List Int}{i:Int}(e:kQ ks A w i=some B):∀{es:List (List Int×Int)} {R:Ru},kI ks R es A->kI ks R (es++[(w,i)]) B
 |[],_,h=>by cases h;exact⟨B,e,rfl⟩
 |_::_,_,⟨J,U,g⟩=>⟨J,U,pC e g⟩
def lkH:Hd->List (Nat×Nat)
 |(0,p,q)=>[(p,q)]
 |_=>[]
def ctH:Hd->List (Nat×Nat)
 |(3,p,q)=>[(p,q)]
 |_=>[]
theorem zD{A:Ru}(h:(j8 A).Perm (j8 B)):(zm A).Perm (zm B)/\(zx A).Perm (zx B):=by
 have J:∀R,zm R=(j8 R).flatMap lkH:=λR=>by rw[<-a6,j8,DF];congr 1;funext B;cases B<;>rfl
 have U:∀R,zx R=(j8 R).flatMap ctH:=λR=>by rw[<-bT,j8,DF];congr 1;funext B;cases B<;>rfl
 rw[J,J,U,U];exact⟨h.flatMap_right _,h.flatMap_right _⟩
theorem fN{w:List Int}(h:qy R w=some S):zc R w S=R:=by have J:=yc (A:=S) (B:=S) h;rw[adu h] at J;exact J.symm
theorem ach(i:Nat)(l:List (List Int×Ru)):bz (l.take i)<=bz l:=by
 have e:bz l=bz (l.take i)+bz (l.drop i):=by unfold bz;rw[<-BC,<-Ak,A7]
 lia
def lQ:jn:=λys L Q=>∃a b,∃wd:List (Option Kn),∃ks:List Kn,∃R O:Ru,ys=[.tup [.ref a,qj R],.tup [.ref b,qj O]]/\L a=some (.lst (aM wd))/\L b=some (.lst (aM wd))/\lh ks O R/\lh ks O O/\vB ks wd R/\(qk R).length<=120/\(qk O).length<=120/\ks.length<=1000/\
 ∀p J L',qf L L'->L p=none->L' p=some (.lst (J.map paT))->HW L' [p] J->(∀t∈J,t.2.1.length<=300)->kI ks R (J.map (·.2)) O->2*J.length+zu O<=zu O*zu O->(R=O->J=[])->Q (.ref p) L'
theorem ags :∀ys L Q,lQ ys L Q->xl (alz gQ l8 jL (qH C)) 7 ys L Q:=by
 rintro ys L Q ⟨a,b,wd,ks,R,O,rfl,ha,hb,hR,hO,ag,tR,tO,kl,q⟩;have big:=bg_;obtain⟨ER,sR⟩:=hR.s;obtain⟨EO,sO⟩:=hO.s;have cl:=jo O;have cm:=vg O;obtain⟨pk,pc⟩:=zD hR.p;refine⟨a,wd,ks,R,ER,rfl,ha,sR,hR.n,tR,kl,λw1 l1 c1 lk ct L1 s1 g1 g2 g3 p1 q1 p2 q2=>?_⟩;refine⟨b,wd,ks,O,EO,rfl,s1 _ _ hb,sO,hO.n,tO,kl,λw2 l2 c2 lk2 cv L2 s2 g4 g5 g6 p3 q3 p4 q4=>?_⟩;cases vA (p3.trans (pk.symm.trans p1.symm)) q3 q1;cases vA (p4.trans (pc.symm.trans p2.symm)) q4 q2;refine⟨rfl,rfl,3,3,_,_,by decide,aB (.cons (jw (s2 _ _ g1) (dW _)) (.cons (jw (s2 _ _ g2) (fD _)) (.cons (jw (s2 _ _ g3) (fD _)) .nil))),aB (.cons (jw g4 (dW _)) (.cons (jw g5 (fD _)) (.cons (jw g6 (fD _)) .nil))),?_⟩;refine xr (show(!(Da.eqs _ _&&(Da.eqs _ _&&(Da.eqs _ _&&true))))=false by rw[rE,rY,rY];rfl) ?_;replace s2:=s1.trans s2;clear s1 g1 g2 g3 g4 g5 g6 p1 p2 p3 p4 q1 q2 q3 q4 pk pc;intro pl al;have gl:qh L2 pl (.lst []) pl=some (.lst []):=q8;have s3:=By (o:=.lst []) al;refine⟨O,rfl,by lia,by lia,λp2 ts L4 s4 _ gp HT FT et=>?_⟩;have bh:p2≠pl:=λz=>by rename qh L2 pl _ p2=none=>e;rw[z,gl] at e;cases e
 have HT:HW L4 [pl] ts:=⟨λt m=>⟨(HT.at_ t m).1,by simp only[Aj];exact AI (k7 gl (FT t m))⟩⟩;have bi:=s4 _ _ gl;have bj:=(s2.trans (s3.trans s4)) _ _ ha;have bn:a≠pl:=k7 (s2 _ _ ha) al;replace s4:=s3.trans s4;clear FT s3 gl;have Hb:∀H:Ru,(qk H).Perm (qk R)->j5 H<=120/\zu H<=120/\(qk H).length<=120/\vB ks wd H:=λH tp=>by have:=jo H;have:=vg H;have:=tp.length_eq;exact⟨by lia,by lia,by lia,λx hx=>ag x (tp.mem_iff.mp hx)⟩
 have bp:ts.length=zu O:=by have:=Bi List.length et;rw[Ab,vo] at this;exact this
 refine jx gp λkeep kp=>vj ⟨λi τ J=>∃c4 c5 c6 aH H l,τ=[some (.tup [.ref a,qj R]),some (.tup [.ref b,qj O]),some (.tup [.ref aH,qj H]),some (.ref pl),c4,c5,c6]/\qf L2 J/\J pl=some (.lst (l.map paT))/\J p2=some (.lst (ts.map du))/\J aH=some (.lst (aM wd))/\aH≠pl/\HW J [pl] ts/\HW J [pl] l/\(∀t∈l,t.2.1.length<=300)/\lh ks O H/\(qk H).Perm (qk R)/\gZ O i H/\kI ks R (l.map (·.2)) H/\l.length<=bz ((aw O []).take i)/\(R=O->H=O/\l=[]),⟨_,_,_,a,R,[],rfl,s4,bi,gp,bj,bn,HT,⟨λt m=>by cases m⟩,(λt m=>by cases m),hR,.refl _,cY hR.p,rfl,Al _,λe=>⟨e,rfl⟩⟩,?_,?_,?_⟩
 ·rintro i τ J ⟨c4,c5,c6,aH,H,l,rfl,_,_,g2,_⟩;exact kp J (by rw[g2,gp])
 ·rintro i y τ J hy ⟨c4,c5,c6,aH,H,l,rfl,s',a2,bd,gH,nH,bb,HQ,wl,ar,tp,pre,ld,cn,eq⟩;rw[An] at hy;obtain⟨⟨wa,w,S⟩,ew,rfl⟩:=Ao.mp hy;have mw:=Aw ew;have eb:(aw O [])[i]?=some ([]++w,S):=by rw[<-et,An,ew];rfl
  obtain⟨X,eX,pX,put⟩:=aff pre eb;have eS:qy O w=some S:=by obtain⟨v,e1,e2⟩:=l6.mp (Aw eb);rw[show w=v from e1];exact e2
  have hS:=hO.rl eS;have hX:=ar.rl eX;have hX:lh ks S X:=⟨hX.s,hX.n,pX⟩;obtain⟨dH,zH,tH,cy⟩:=Hb H tp;obtain⟨EH,sH⟩:=ar.s;obtain⟨_,_,_,dX,_⟩:=sH.rls X (vn eX).2;have wz:w.length<=120:=by have:=(vn eX).1;lia
  have zX:zu X=zu S:=by rw[<-ln,<-ln];exact pX.length_eq
  have zS:zu S<=120:=by have:=vg S;obtain⟨_,_,sub,_,_⟩:=sO.rls S (vn eS).2;have:=sub.length_le;lia
  refine⟨aH,wa,H,X,S,w,rfl,(bb.at_ _ mw).1,by lia,eX,pX.mem_iff.mpr (xQ S),by lia,by lia,λp us u L5 s5 np gu HU FU eu hr fst=>?_⟩;obtain⟨r,er,hr⟩:=hr;have bq:p≠pl:=AI (k7 a2 np);have ul:u.length+1<=zu S:=by have:=(vn er).1;have:=cK X;lia
  have a3:us.length=u.length:=by have:=Bi List.length eu;rw[Ab,uH] at this;exact this
  have HU:HW L5 [pl] us:=⟨λt m=>⟨(HU.at_ t m).1,by simp only[Aj];exact AI (k7 a2 (FU t m))⟩⟩;refine jx gu λbr bu=>vj ⟨λm τ J=>∃c6 j T,τ=[some (.tup [.ref a,qj R]),some (.tup [.ref b,qj O]),some (.tup [.ref j,qj (zc H w T)]),some (.ref pl),some (.ref wa),some (qj S),c6]/\qf L2 J/\J pl=some (.lst ((l++us.take m).map paT))/\J p2=some (.lst (ts.map du))/\J p=some (.lst (us.map paT))/\J j=some (.lst (aM wd))/\j≠pl/\HW J [pl] ts/\HW J [pl] (l++us)/\lh ks S T/\lh ks O (zc H w T)/\(qk (zc H w T)).Perm (qk R)/\(∃r',qy T (u.take (u.length-m))=some r'/\wy r'=wy S)/\kI ks R ((l++us.take m).map (·.2)) (zc H w T)/\(u=[]->T=X),⟨_,aH,X,by rw[fN eX];rfl,s'.trans s5,by rw[DU,AS];exact s5 _ _ a2,s5 _ _ bd,gu,s5 _ _ gH,nH,bb.mono s5,(HQ.mono s5).app HU,hX,by rw[fN eX];exact ar,by rw[fN eX];exact tp,⟨r,by rw[CS,A6];exact er,hr⟩,by rw[fN eX,DU,AS];exact ld,λ_=>rfl⟩,?_,?_,?_⟩
  ·rintro m τ L6 ⟨c6,j,T,rfl,_,_,_,g,_⟩;exact bu L6 (by rw[g,gu])
  ·rintro m y τ L6 hy ⟨c6,j,T,rfl,s6,U,a0,a4,aL,bf,a1,I,sT,sP,tP,hr,ba,xx⟩;rw[An] at hy;obtain⟨⟨pv,v,k⟩,ev,rfl⟩:=Ao.mp hy;have mv:=Aw ev;have hm:=j6 ev;rw[a3] at hm;have es:=yO (w:=w) hm;rw[<-eu,An,ev] at es;obtain⟨rfl,rfl⟩:=Prod.mk.inj (AN es);obtain⟨r',a5,bc⟩:=hr;obtain⟨n,en⟩:∃n,n=u.length-1-m:=⟨_,rfl⟩;have nl:n<u.length:=by lia
   rw[<-en] at ev mv;have bS:u.take (u.length-m)=u.take n++[u.getD n 0]:=by rw[show u.length-m=n+1 by lia,A3,Ag nl,Be,Ag nl];rfl
   rw[bS] at a5;obtain⟨T',r2,e1,e2,e3⟩:=ai1 hS sT a5 bc;have ex:kQ ks (zc H w T) (w++u.take n) (u.getD n 0)=some (zc H w T'):=by rw[apf (aeh eX),e1];show some (zc (zc H w T) w T')=_;rw[yc eX]
   obtain⟨dP,zP,ca,cb⟩:=Hb _ tP;obtain⟨EP,cc⟩:=sP.s;rw[<-en];refine⟨j,pv,wd,ks,zc H w T,EP,w++u.take n,u.getD n 0,rfl,aL,(I.at_ _ (Ae _ mv)).1,cc,cb,by rw[Ad,A1];lia,ca,λR' eR p7 h7=>?_,λe=>by rw[ex] at e;cases e⟩;rw[ex] at eR;cases eR;have s7:=By (o:=.lst (aM wd)) h7;have g7:qh L6 p7 (.lst (aM wd)) p7=some (.lst (aM wd)):=q8;have n7:p7≠pl:=AI (k7 U h7);replace s6:=s6.trans s7;replace U:=s7 _ _ U;replace a0:=s7 _ _ a0;replace a4:=s7 _ _ a4;replace a1:=a1.mono s7;replace I:=I.mono s7;clear s7 aL;generalize qh L6 p7 (.lst (aM wd))=L7 at s6 g7 U a0 a4 a1 I ⊢;have ql:l.length<=15000:=by have h1:=dC O [];have h2:=ach i (aw O []);have h3:zu O*zu O<=120*120:=Dj (by lia) (by lia);lia
   refine qc U (qr U ⟨by rw[Ab,Ad,A1];exact big _ (by lia),?_⟩);have bg:us.take (m+1)=us.take m++[(pv,w++u.take n,u.getD n 0)]:=by rw[A3,ev];rfl
   refine⟨_,DW _,_,p7,T',rfl,s6.upd al,?_,(qb bh).trans a0,(qb bq).trans a4,(qb n7).trans g7,n7,a1.upd (by simp),I.upd (by simp),sT.ex e1,sP.ex ex,(lb ex).1.trans tP,⟨r2,?_,e3⟩,?_,λz=>?_⟩
   ·rw[q8,bg,<-AD,Ak (l₂:=[_])];rfl
   ·rw[show u.length-(m+1)=n by lia];exact e2
   ·rw[bg,<-AD,Ak];exact pC ex ba
   ·rw[z] at nl;cases nl
  ·rintro τ L6 ⟨c6,j,T,rfl,s6,U,a0,a4,aL,bf,a1,I,sT,sP,tP,hr,ba,xx⟩;rw[Ab,A6] at U ba;obtain⟨r',a5,bc⟩:=hr;rw[Ab,a3,B9,DU] at a5;cases a5;refine⟨_,DW _,_,_,_,j,zc H w T,l++us,rfl,s6,U,a0,aL,bf,a1,I,λt m=>?_,sP,tP,put T (ah4 hS sT bc),ba,?_,λe=>?_⟩
   ·rcases Ap.mp m with m|m
    ·exact wl t m
    ·have m2:t.2∈wT w u:=by rw[<-eu];exact AL.mpr ⟨t,m,rfl⟩
     obtain⟨k,_,e⟩:=AL.mp m2;rw[<-e];show(w++u.take _).length<=300;rw[Ad,A1];lia
   ·rw[Ad,a3,A3,eb];show _<=bz ((aw O []).take i++[([]++w,S)]);unfold bz at cn ⊢;rw[Ak,BC];show _<=_+(zu S-1+0);lia
   ·obtain⟨rfl,rfl⟩:=eq e;rw[eS] at eX;cases eX;have hu:=fst rfl;refine⟨by rw[xx hu,fN eS],?_⟩;rw[hu] at a3;rw[DG.mp a3];rfl
 ·rintro τ J ⟨c4,c5,c6,aH,H,l,rfl,s',a2,bd,gH,nH,bb,HQ,wl,ar,tp,pre,ld,cn,eq⟩;rw[Ab,bp] at pre cn;cases bZ (Al _) pre;rw[A5 (by rw[vo];exact Al _)] at cn;have h1:=dC O [];exact xi (q pl l J (s2.trans s') (s2.none al) a2 HQ wl ld (by lia) λe=>(eq e).2)
theorem af4(A:Ru)(aP:List Ru):((aP++qm A).map zu).sum+1=((aP++[A]).map zu).sum:=by have:=fA A;rw[Ak,Ak,BC,BC,List.map_singleton,List.sum_singleton];lia
theorem ajf(l:List Ru):l.length<=(l.map zu).sum:=by induction l with|nil=>exact Al _|cons x r J=>have:=kc x;simp;lia
def iy:jn:=λys L Q=>∃R:Ru,ys=[qj R]/\(qk R).length<=120/\Q (.int (zu R:Int)) L
theorem yu:∀ys L Q,iy ys L Q->xl (ace vf) 3 ys L Q:=by
 rintro ys L Q ⟨R,rfl,tl,q⟩;have big:=bg_;have rd:=jo R;have rz:=vg R;intro U j;refine⟨λm T J=>∃st:List Ru,∃c:Nat,T=[some (qj R),some (.int (c:Int)),some (.ref U)]/\qf L J/\J U=some (.lst (st.map qj))/\(∀A∈st,j5 A<=j5 R)/\c+(st.map zu).sum=zu R/\m=(st.map zu).sum,⟨_,[R],0,rfl,By j,q8,(λA m=>by rw[Aj.mp m];exact Al _),by simp,rfl⟩,?_⟩;rintro m T J ⟨st,c,rfl,s,g,r,cn,rfl⟩;intro p t;refine wf (n:=120) (m:=0) (by decide) (By t _ _ g) q8 (aG λA hA=>AU (r A hA) (by lia)) (.nil:Paired (jd _ 0) _ []) ?_;have C:qf L (qh J p (.lst [])):=s.trans (By t);replace g:=(qb (o:=.lst []) (k7 g t)).trans g;generalize qh J p (.lst [])=L2 at C g ⊢;show wq (!(Da.eqs (st.map aZ) [])) _ _;rw[dy];rcases BH st with rfl|⟨aP,A,rfl⟩
 ·refine xr rfl ?_;rw[<-(show c=zu R by simpa using cn)] at q;exact wr C q
 ·rw[BI] at *;rw[Ay (by simp)];refine wm rfl ⟨λl J=>∃m',m'<((aP++[A]).map zu).sum/\∃st:List Ru,∃c:Nat,l=[some (qj R),some (.int (c:Int)),some (.ref U)]/\qf L J/\J U=some (.lst (st.map qj))/\(∀A∈st,j5 A<=j5 R)/\c+(st.map zu).sum=zu R/\m'=(st.map zu).sum,λl J h=>h,?_⟩;rw[Ak] at g;refine qc g ?_;refine rQ g ?_;have s3:qf L (qh L2 U (.lst (aP.map qj))):=C.upd j;have I:qh L2 U (.lst (aP.map qj)) U=some (.lst (aP.map qj)):=q8;generalize qh L2 U (.lst (aP.map qj))=L3 at s3 I ⊢;refine⟨A,rfl,λp8 h8=>?_⟩;have e:=af4 A aP;have l2:=ajf (aP++qm A);rw[Ad] at l2;refine qr ((qb (k7 I h8)).trans I) (qr q8 ⟨by rw[Ab,Ab];exact Bf (big _ (by lia)),?_⟩);refine⟨_,DW _,_,(by rw[<-e];exact Co _),aP++qm A,c+1,rfl,(s3.trans (By h8)).upd j,by rw[q8,Ak],λB m=>?_,by lia,rfl⟩;rcases Ap.mp m with m|m
  ·exact r B (Ar _ m)
  ·have:=r A (by simp);have:=v0 m;lia
theorem yY{E:List Nat}{w:List Int}{i:Int}(o:SR ks R E)(h:kQ ks R w i=some R'):∃S I B U,∃k n:Nat,qy R w=some S/\SR ks S U/\i=(k:Int)/\(qm S)[k]?=some I/\goR ks S i=some n/\(qm I)[n]?=some B/\R'=zc R w (qw I n (qw S k B)):=by obtain⟨S,T,k,g,rfl,p,rfl⟩:=r6 h;obtain⟨⟨U,j⟩,_⟩:=o.rls S (vn g).2;obtain⟨I,ts,n,B,l,r,t,C,tb,rfl⟩:=oB p;obtain⟨a0,J,e1,_⟩:=y4 j l;rw[r] at J;cases J;exact⟨S,I,B,U,k,n,g,j,rfl,l,e1.trans t,C,rfl⟩
def m5:jn:=λys L Q=>∃a p,∃wd:List (Option Kn),∃ks:List Kn,∃R O:Ru,∃J:List WP,ys=[.ref a,qj R,.ref p]/\L a=some (.lst (aM wd))/\L p=some (.lst (J.map paT))/\HW L [] J/\J.length<=15000/\lh ks R R/\vB ks wd R/\(qk R).length<=120/\kI ks R (J.map (·.2)) O/\Q (qj O) L
theorem acb:∀ys L Q,m5 ys L Q->xl (ajc vf qO iI (bL 124) f7) 11 ys L Q:=by
 rintro ys L Q ⟨a,p,wd,T,R,O,qs,rfl,ha,hp,HQ,ql,a0,ag,tl,ld,q⟩;have big:=bg_;refine lY hp ?_;refine jx hp λkeep kp=>vj ⟨λi U l=>∃c3 c4 c5 c6 c7 c8 c9 cr H,U=[some (.ref a),some (qj H),some (.ref p),c3,c4,c5,c6,c7,c8,c9,cr]/\qf L l/\lh T R H/\(qk H).Perm (qk R)/\kI T H ((qs.drop i).map (·.2)) O,⟨_,_,_,_,_,_,_,_,R,rfl,DW _,a0,.refl _,ld⟩,?_,?_,?_⟩
 ·rintro i U l ⟨c3,c4,c5,c6,c7,c8,c9,cr,H,rfl,s,_⟩;exact kp l (by rw[s _ _ hp,hp])
 ·rintro i y U l r ⟨c3,c4,c5,c6,c7,c8,c9,cr,H,rfl,s,sH,tp,ld⟩;rw[An] at r;obtain⟨⟨pv,w,i0⟩,ev,rfl⟩:=Ao.mp r;have hi:=j6 ev;rw[BZ hi,AN ((Ag hi).symm.trans ev)] at ld;obtain⟨H',ex,ld⟩:=ld;have ex:kQ T H w i0=some H':=ex;obtain⟨EH,sr⟩:=sH.s;obtain⟨S,I,B,ES,k,n,eS,sS,rfl,eI,eg,eB,e⟩:=yY sr ex;have gv:=s _ _ (HQ.at_ _ (Aw ev)).1;have a4:=jo H;have tH:=tp.length_eq;obtain⟨wl,mS⟩:=vn eS;obtain⟨_,tS,g,_,_⟩:=sr.rls S mS;have a5:=g.length_le;refine lY gv ?_;intro p1 h1;have t:=By (o:=.lst [Y.int (k:Int)]) h1;refine⟨_,_,t _ _ gv,q8,by rw[Ab];show w.length+1<=sizeLine;exact Bf (big _ (by lia)),λp2 h2=>?_⟩;have g2:qh (qh l p1 (.lst [Y.int (k:Int)])) p2 (.lst (w.map Y.int++[Y.int (k:Int)])) p2=some (.lst ((w++[(k:Int)]).map Y.int)):=by rw[q8,Ak];rfl
  replace t:=t.trans (By (o:=.lst (w.map Y.int++[Y.int (k:Int)])) h2);generalize qh (qh l p1 (.lst [Y.int (k:Int)])) p2 (.lst (w.map Y.int++[Y.int (k:Int)]))=L2 at t g2 ⊢;have C:qy H (w++[(k:Int)])=some I:=by rw[uj _ eS];show(match j4 S (k:Int) with|some B=>qy B []|none=>none)=_;rw[iE,eI];rfl
  refine jx g2 λa1 a2=>vj ⟨λj U L3=>∃c7 c8 A,U=[some (.ref a),some (qj H),some (.ref p),some (.tup [.ref pv,.int (k:Int)]),some (.ref pv),some (.int (k:Int)),some (qj A),c7,c8,c9,cr]/\qf L2 L3/\qy H ((w++[(k:Int)]).take j)=some A,⟨_,_,H,rfl,DW _,rfl⟩,?_,?_,?_⟩
  ·rintro j U L3 ⟨c7,c8,A,rfl,J,_⟩;exact a2 L3 (by rw[J _ _ g2,g2])
  ·rintro j y U L3 r ⟨c7,c8,A,rfl,J,eA⟩;rw[An] at r;obtain⟨x,a3,rfl⟩:=Ao.mp r;obtain⟨e1,e2⟩:=acn a3;rw[e2,bN,eA] at C;have C:(match j4 A x with|some B=>qy B _|none=>none)=some I:=C;cases hB:j4 A x with
   |none=>rw[hB] at C;cases C
   |some D=>
    obtain⟨j',rfl,eD⟩:=x6 hB;have lj:=j6 eD;refine⟨A,rfl,λp4 h4=>?_⟩;walk_at "w";refine qr q8 (xr (Ay (show ¬((j':Nat):Int)>=((((qm A).map qj).length:Nat):Int) by rw[Ab];lia)) ?_);refine qc q8 (qo (jy eD) ⟨_,DW _,_,_,D,rfl,J.trans (By h4),?_⟩);rw[e1,bN,eA];show(match j4 A (j':Int) with|some B=>qy B []|none=>none)=_;rw[hB];rfl
  ·rintro U L3 ⟨c7,c8,A,rfl,J,eA⟩;replace J:=t.trans J;refine⟨H,S,pv,w,rfl,J _ _ gv,eS,?_⟩;refine⟨a,wd,T,S,ES,_,rfl,(s.trans J) _ _ ha,sS,λx hx=>ag x (tp.mem_iff.mp (tS x hx)),g.nodup sH.n,by lia,?_⟩;rw[eg];walk_at "w";refine⟨S,I,B,k,n,_,_,rfl,rfl,rfl,eI,eB,?_⟩;refine⟨H,S,_,pv,w,rfl,J _ _ gv,by lia,eS,?_⟩;rw[<-e];exact⟨_,DW _,_,_,_,_,_,_,_,_,H',rfl,s.trans J,sH.ex ex,(lb ex).1.trans tp,ld⟩
 ·rintro U l ⟨c3,c4,c5,c6,c7,c8,c9,cr,H,rfl,s,sH,tp,ld⟩;rw[Ab,List.drop_length] at ld;cases (show H=O from ld);exact wr s q
def sF:jn:=λys L Q=>∃a,∃wd:List (Option Kn),∃ks:List Kn,∃R O:Ru,ys=[.ref a,qj R,qj O]/\L a=some (.lst (aM wd))/\lh ks O R/\lh ks O O/\vB ks wd R/\(qk R).length<=120/\(qk O).length<=120/\ks.length<=1000/\Q (.bl true) L
theorem ahh:∀ys L Q,sF ys L Q->xl (an8 lQ iy m5) 6 ys L Q:=by
 rintro ys L Q ⟨a,U,ks,R,O,rfl,r,C,hO,ag,tR,tO,kl,q⟩;refine qc r λg h1=>?_;have g1:qh L g (.lst (aM U)) g=some (.lst (aM U)):=q8;have J:=By (o:=.lst (aM U)) h1;generalize qh L g (.lst (aM U))=L1 at J g1 ⊢;refine qc (J _ _ r) λl h2=>?_;have g2:qh L1 l (.lst (aM U)) l=some (.lst (aM U)):=q8;replace g1:=By (o:=.lst (aM U)) h2 _ _ g1;replace J:=J.trans (By (o:=.lst (aM U)) h2);generalize qh L1 l (.lst (aM U))=L2 at J g1 g2 ⊢;intro p3 h3;have g3:qh L2 p3 (.lst [.tup [.ref g,qj R],.tup [.ref l,qj O]]) p3=some (.lst [.tup [.ref g,qj R],.tup [.ref l,qj O]]):=q8;have I:=By (o:=.lst [.tup [.ref g,qj R],.tup [.ref l,qj O]]) h3;replace g1:=I _ _ g1;replace g2:=I _ _ g2;replace J:=J.trans I;clear I;generalize qh L2 p3 (.lst [.tup [.ref g,qj R],.tup [.ref l,qj O]])=L3 at J g1 g2 g3 ⊢;refine qc g3 (qo (xq (j:=0) rfl) (qc g3 (qo (xq (j:=1) rfl) ?_)));refine⟨g,l,U,ks,R,O,rfl,g1,g2,C,hO,ag,tR,tO,kl,λp qs L4 T _ gp HQ _ ld cn _=>?_⟩;have zR:zu R=zu O:=by rw[<-ln,<-ln];exact C.p.length_eq
 have zT:=vg O;have h3:zu O*zu O<=120*120:=Dj (by lia) (by lia);refine⟨R,rfl,tR,?_⟩;replace g1:=T _ _ g1;replace g2:=T _ _ g2;replace g3:=T _ _ g3;replace J:=J.trans T;have cz:(zu R:Int)*((zu R:Int)-1) / 2>=(qs.length:Int):=by
  rw[zR];have e:(zu O:Int)*((zu O:Int)-1)=((zu O*zu O-zu O:Nat):Int):=by rw[Int.mul_sub,Int.mul_one,<-Int.natCast_mul];lia
  rw[e];lia
 refine lY gp (qc gp ⟨.inl ⟨by lia,by lia⟩,⟨by decide,by decide⟩,?_⟩);refine xr (Ay (show ¬(zu R:Int)*((zu R:Int)-1) / 2<(((qs.map paT).length:Nat):Int) by rw[Ab];lia)) ?_;refine qc g3 (qo (xq (j:=0) rfl) ?_);refine⟨rfl,rfl,2,2,_,_,by decide,jw g1 (dW _),jw (J _ _ r) (dW _),?_⟩;refine xr (show(!Da.eqs _ _)=false by rw[rE];rfl) ?_;refine qc g3 (qo (xq (j:=1) rfl) ?_);refine⟨rfl,rfl,2,2,_,_,by decide,jw g2 (dW _),jw (J _ _ r) (dW _),?_⟩;refine xr (show(!Da.eqs _ _)=false by rw[rE];rfl) ?_;refine⟨a,p,U,ks,R,O,qs,rfl,J _ _ r,gp,⟨λt m=>⟨(HQ.at_ t m).1,λz=>by cases z⟩⟩,by lia,⟨C.s,C.n,.refl _⟩,ag,tR,ld,?_⟩;have rd:=jo O;obtain⟨zs,ez⟩:=sD O;have dO:jd L4 120 (qj O) (aZ O):=aar (by lia);rw[ez] at dO ⊢;refine⟨rfl,rfl,120,120,_,_,by decide,dO,dO,?_⟩;show dt Q (.bl (Da.eq _ _)) _;rw[aX];exact wr J q
theorem aq4{E:List Nat}{w:List Int}{i:Int}(U:SR ks R E)(j:qy R w=some S)(h:goR ks S i=some n):∃I B,∃k:Nat,i=(k:Int)/\(qm S)[k]?=some I/\(qm I)[n]?=some B/\kQ ks R w i=some (zc R w (qw I n (qw S k B))):=by
 have g:=aqw (i:=i) U j;rw[h] at g;cases e:kQ ks R w i with
 |none=>rw[e] at g;cases g
 |some t=>
  obtain⟨C,I,B,T,k,n',J,_,o,p,l,r,rfl⟩:=yY U e;rw[j] at J;cases J;rw[h] at l;cases l;exact⟨I,B,k,o,p,r,rfl⟩
theorem ac7 :∀ys L Q,rT Pt lamQ ys L Q->xl (ajn (mo Pt) lz mV mx qO iI (bL 124) f7 sF lQ) 12 ys L Q:=by
 rintro ys L Q ⟨ns,rfl,bb,hL,q⟩;have hP:L Pt=some (.tb lamQ):=by rw[hL];exact q8
 clear hL;have big:=bg_;intro p0 a3;refine qc q8 ⟨rfl,rfl,small (by rw[Ab];show ns.length+1<=1000;lia),λp hp=>?_⟩;obtain⟨c,ec⟩:∃c:Int,iL (ns.map Y.int++[Y.int 0]) 0=some (Y.int c):=by cases ns with|nil=>exact⟨0,rfl⟩|cons a r=>exact⟨a,xq (j:=0) rfl⟩
 refine qc q8 (qo ec ⟨⟨by decide,by decide,by decide⟩,(by decide:(0:Int)<10 ^ (9:Int).toNat),?_⟩);show qe 1 (Y.int (c % (10:Int) ^ (9:Int).toNat)) _ _ _;have a4:=((By (o:=.lst [Y.int 0]) a3).trans (By (o:=.lst (ns.map Y.int++[Y.int 0])) hp)) _ _ hP;generalize c % (10:Int) ^ (9:Int).toNat=s;generalize qh (qh _ p0 _) p _=L1 at a4 ⊢;clear hp a3 ec hP;obtain⟨ms,ba,bc⟩:=tU ns (some 1) none;intro pm a5;rw[ba];refine⟨pm,ms,s,40,rfl,q8,by lia,by decide,By a5 _ _ a4,λwa g R E hw T tp=>?_⟩;have gw:qh (qh L1 pm (.lst (ms.map Y.int))) wa (.lst (ji g)) wa=some (.lst (ji g)):=q8;generalize qh (qh L1 pm (.lst (ms.map Y.int))) wa (.lst (ji g))=L3 at gw ⊢;clear hw a5;have kl:=T.len;refine⟨wa,g,R,E,s,rfl,gw,T,tp,λa R E l L4 _ J sr ag nd tl wl=>?_⟩;clear gw T tp;obtain⟨U,al,bd⟩:=tU ns (some 1) (some 81);intro pu ar;rw[al];have gu:qh L4 pu (.lst (U.map Y.int)) pu=some (.lst (U.map Y.int)):=q8;replace J:=By (o:=.lst (U.map Y.int)) ar _ _ J;generalize qh L4 pu (.lst (U.map Y.int))=L5 at gu J ⊢;intro pv a2;rw[al];replace gu:=By (o:=.lst (U.map Y.int)) a2 _ _ gu;have gv:qh L5 pv (.lst (U.map Y.int)) pv=some (.lst (U.map Y.int)):=q8;replace J:=By (o:=.lst (U.map Y.int)) a2 _ _ J;generalize qh L5 pv (.lst (U.map Y.int))=L6 at gu gv J ⊢;refine⟨_,_,gu,gv,by rw[Ab];exact Bf (big _ (by lia)),λpx aH=>?_⟩;rw[<-Ak];have gx:qh L6 px (.lst ((U++U).map Y.int)) px=some (.lst ((U++U).map Y.int)):=q8;replace J:=By (o:=.lst ((U++U).map Y.int)) aH _ _ J;generalize qh L6 px (.lst ((U++U).map Y.int))=L7 at gx J ⊢;clear gu gv ar a2 aH;have aL:∀H:Ru,(qk H).Perm (qk R)->(qk H).length<=120/\j5 H<=120/\vB g l H:=λH h=>by have:=jo H;have:=h.length_eq;exact⟨by lia,by lia,λx hx=>ag x (h.mem_iff.mp hx)⟩
 refine jx gx λkeep kp=>vj ⟨λi τ t=>∃c5 c6 c7 c8 c9 cr H,τ=[some (.sq (ns.map Y.int)),some (.int s),some (.ref a),some (qj R),some (qj H),c5,c6,c7,c8,c9,cr,none]/\qf L7 t/\lh g R H/\(qk H).Perm (qk R),⟨_,_,_,_,_,_,R,rfl,DW _,⟨⟨E,sr⟩,nd,.refl _⟩,.refl _⟩,?_,?_,?_⟩
 ·rintro i τ t ⟨c5,c6,c7,c8,c9,cr,H,rfl,s',_⟩;exact kp t (by rw[s' _ _ gx,gx])
 ·rintro i y τ t hy ⟨c5,c6,c7,c8,c9,cr,H,rfl,s',C,tp⟩;obtain⟨z,ez,rfl⟩:=cD hy;have hi:=j6 ez;rw[Ab,Ad] at hi;rw[An] at ez;obtain⟨x,_,rfl⟩:=Ao.mp ez;refine⟨x,i,16807,rfl,A9 _,by lia,by decide,by decide,λr _ _=>?_⟩;obtain⟨tH,dH,a0⟩:=aL H tp;refine⟨.inr ⟨by decide,by decide⟩,(show(0:Int)<2147483647 by decide),H,_,rfl,tH,λw p hp wz hS=>?_⟩;obtain⟨S,eS⟩:=hS;have s5:=s'.trans (By (o:=.lst (w.map Y.int)) hp);have gp:qh t p (.lst (w.map Y.int)) p=some (.lst (w.map Y.int)):=q8;generalize qh t p (.lst (w.map Y.int))=L8 at s5 gp ⊢;clear s' hp;refine⟨H,S,p,w,rfl,gp,eS,?_⟩;obtain⟨EH,sr⟩:=C.s;obtain⟨⟨ES,sS⟩,tS,a1,_,_⟩:=sr.rls S (vn eS).2;have bf:=a1.length_le;refine⟨(show(0:Int)<2 by decide),a,l,g,S,ES,_,rfl,s5 _ _ J,sS,λx hx=>a0 x (tS x hx),a1.nodup C.n,by lia,?_⟩;cases eg:goR g S (r % 2) with
  |none=>exact⟨_,DW _,_,_,_,_,_,_,H,rfl,s5,C,tp⟩
  |some n=>
   obtain⟨I,B,k,ek,eI,eB,ex⟩:=aq4 sr eS eg;refine⟨(show(0:Int)<2 by decide),S,I,B,k,n,_,_,rfl,ek,rfl,eI,eB,?_⟩;have wl:=(vn eS).1;exact⟨H,S,_,p,w,rfl,gp,by lia,eS,_,DW _,_,_,_,_,_,_,_,rfl,s5,C.ex ex,(lb ex).1.trans tp⟩
 ·rintro τ t ⟨c5,c6,c7,c8,c9,cr,H,rfl,s',C,tp⟩;obtain⟨tH,dH,a0⟩:=aL H tp;have h1:lh g H R:=⟨⟨E,sr⟩,nd,C.p.symm⟩;have h2:lh g H H:=⟨C.s,C.n,.refl _⟩;have h3:lh g R R:=⟨⟨E,sr⟩,nd,.refl _⟩;replace J:=s' _ _ J;refine⟨a,l,g,R,H,rfl,J,h1,h2,ag,by lia,tH,by lia,?_⟩;refine⟨a,l,g,H,R,rfl,J,C,h3,a0,tH,by lia,by lia,?_⟩;refine qc J λp1 n1=>?_;have g1:qh t p1 (.lst (aM l)) p1=some (.lst (aM l)):=q8;replace J:=By (o:=.lst (aM l)) n1 _ _ J;generalize qh t p1 (.lst (aM l))=L8 at g1 J ⊢;refine qc J λp2 n2=>?_;have g2:qh L8 p2 (.lst (aM l)) p2=some (.lst (aM l)):=q8;replace g1:=By (o:=.lst (aM l)) n2 _ _ g1;generalize qh L8 p2 (.lst (aM l))=L9 at g1 g2 ⊢;refine⟨p1,p2,l,g,H,H,rfl,g1,g2,h2,h2,a0,tH,tH,by lia,λp qs LA _ _ gp _ _ _ _ e=>?_⟩;cases e rfl;refine lY gp ?_;intro p3 n3;refine⟨rfl,rfl,1,1,_,_,by decide,jw (By n3 _ _ gp) (.nil:Paired (jd _ 0) _ []),jw q8 (.nil:Paired (jd _ 0) _ []),?_⟩;exact xi (q _)
end L3
end
set_option maxRecDepth 100000
set_option maxHeartbeats 8000000
namespace K64
open PySem L2 L3 Words
abbrev ng:Str:="_law_rule"
abbrev nh:Str:="_law_knots"
abbrev nj:Str:="_law_seed"
abbrev nq:Str:="_law_word_here"
abbrev nu:Str:="_law_one"
abbrev nv:Str:="_law_arm"
abbrev nw:Str:="_law_other"
abbrev ny:Str:="_law_k"
abbrev nE:Str:="_law_p"
abbrev nF:Str:="_law_two"
abbrev nG:Str:="_law_at_here"
abbrev nI:Str:="_law_way"
abbrev nJ:Str:="_law_forest"
abbrev nK:Str:="_law_number"
abbrev nL:Str:="_law_arms_here"
abbrev nM:Str:="_law_script"
abbrev nN:Str:="_law_drawn_way"
abbrev nQ:Str:="_law_ends_here"
abbrev nR:Str:="_law_found"
abbrev nS:Str:="_law_gathered"
abbrev nU:Str:="_law_followed"
abbrev nV:Str:="_law_cell"
abbrev nW:Str:="_law_renamed"
abbrev nX:Str:="_law_put_arm"
def top(i:Nat):Stmt:=PySem.Challenge.pw_oncewise_k64_ways_walked.main.body.getD i (.Pass ⟨0,0,0,0⟩)
theorem au8{us:List Value}{n:Nat}(h:us.length=n+1):∃a r,us=a::r/\r.length=n:=by cases us with|nil=>cases h|cons a r=>exact⟨a,r,rfl,Nat.succ.inj h⟩
abbrev ph:Stmt:=top 6
abbrev mK:Stmt:=top 8
abbrev kD:Stmt:=top 11
abbrev pI:Stmt:=top 12
abbrev o4:Stmt:=top 13
abbrev pN:Stmt:=top 14
abbrev oH:Stmt:=top 15
abbrev oI:Stmt:=top 16
abbrev sm:Stmt:=top 17
abbrev oD:Stmt:=top 19
abbrev oZ:Stmt:=top 20
abbrev cj:Stmt:=top 21
abbrev iQ:Stmt:=top 22
abbrev uc:Stmt:=top 23
abbrev gE:Stmt:=top 24
abbrev kK:Stmt:=top 25
abbrev fG:Stmt:=top 26
abbrev dz:Stmt:=top 28
abbrev lC:Stmt:=top 29
abbrev fu:Stmt:=top 30
abbrev oF:Stmt:=top 32
abbrev kY:Stmt:=top 33
abbrev kC:Stmt:=top 34
abbrev jY:Stmt:=top 35
abbrev fw:Stmt:=top 36
abbrev fk:Stmt:=top 37
abbrev kR:Stmt:=top 38
abbrev lB:Stmt:=top 39
abbrev mE:Stmt:=top 40
abbrev s__law_order:Stmt:=top 41
abbrev gm:Stmt:=top 42
abbrev fE:Stmt:=top 43
abbrev kZ:Stmt:=top 44
abbrev jQ:Stmt:=top 45
abbrev dh:Stmt:=top 46
abbrev kU:Stmt:=top 47
abbrev gy:Stmt:=top 48
abbrev kM:Stmt:=top 49
abbrev eF:Stmt:=top 50
abbrev iF:Stmt:=top 51
abbrev qB:Stmt:=top 52
abbrev gD:Stmt:=top 53
abbrev cX:Stmt:=top 54
abbrev dq:Stmt:=top 55
abbrev hJ:Stmt:=top 56
abbrev m6:Stmt:=top 57
abbrev gF:Stmt:=top 58
abbrev jS:Stmt:=top 59
abbrev tG:Stmt:=top 60
structure V_ where
 (P:Program) (w:World) (K:Ah) (mg:Str->Option Value) (base:Heap) (Pt:Addr) (Ca:Addr)
structure B_(V:V_):Prop where
 hp:∃h:Heap,V.K.In h/\h.Ns mainGlobals V.mg
 bb:V.mg "list"=none
 bj:V.mg "sorted"=none
 bd:V.mg "enumerate"=none
 bq:V.mg "all"=none
 ba:V.mg "len"=none
 bp:V.mg "zip"=none
 bu:V.mg "reversed"=none
 bf:V.mg "range"=none
 bi:V.mg "max"=none
 bn:V.mg "min"=none
 bc:V.mg "isinstance"=none
 bh:V.mg "int"=none
 bg:V.mg "tuple"=none
 br:V.mg "bool"=none
 D0:z9 V.K "is_leaf" ph
 D1:z9 V.K "parts_of" mK
 D2:z9 V.K "places_of" kD
 D3:z9 V.K "arms_of" pI
 D4:z9 V.K "rules_in" o4
 D5:z9 V.K "told_by" pN
 D6:z9 V.K "taken_by" oH
 D7:z9 V.K "pairs_by" oI
 D8:z9 V.K "web_of" sm
 D9:z9 V.K "with_arm" oD
 D10:z9 V.K "all_told" oZ
 D11:z9 V.K "arm_that_tells" cj
 D12:z9 V.K "turned_out" iQ
 D13:z9 V.K "arm_at" uc
 D14:z9 V.K "rules_along" gE
 D15:z9 V.K "exchanged" kK
 D16:z9 V.K "rules_by_way" fG
 D17:z9 V.K "is_same_rule" dz
 D18:z9 V.K "steps_out" lC
 D19:z9 V.K "way_between" fu
 D20:z9 V.K "_law_mix" oF
 D21:z9 V.K "_law_name" kY
 D22:z9 V.K "_law_word" kC
 D23:z9 V.K "_law_flip" jY
 D24:z9 V.K "_law_weight" fw
 D25:z9 V.K "_law_mirror" fk
 D26:z9 V.K "_law_join" kR
 D27:z9 V.K "_law_fold" lB
 D28:z9 V.K "_law_cut" mE
 D29:DefInT V.K "_law_order" s__law_order V.Pt
 D30:z9 V.K "_law_moved" gm
 D31:z9 V.K nW fE
 D32:z9 V.K "_law_tree" kZ
 D33:z9 V.K "_law_arms" jQ
 D34:z9 V.K nS dh
 D35:z9 V.K "_law_ends" kU
 D36:z9 V.K "_law_needs" gy
 D37:z9 V.K "_law_goes" kM
 D38:z9 V.K nX eF
 D39:z9 V.K "_law_about" iF
 D40:z9 V.K "_law_at" qB
 D41:z9 V.K "_law_put_at" gD
 D42:z9 V.K nN cX
 D43:z9 V.K nU dq
 D44:z9 V.K "_law_rules" hJ
 D45:z9 V.K "_law_led" m6
 D46:z9 V.K "_law_within" gF
 D47:z9 V.K "_law_part" jS
 k_LEAF_KINDS:aqo ⟨V.K,V.P,V.w⟩ V.mg "LEAF_KINDS" gC
 i_PLACE_COUNTS:ar4 ⟨V.K,V.P,V.w⟩ V.mg "PLACE_COUNTS" aE
 md:V.mg "NoExchange"=some (.ref V.Ca)
 x_NoExchange:ag1 V.K V.Ca
abbrev Q_(V:V_)(k:Nat)(x:Str)(ps:List Str)(sp:jn):Prop:=aly V.P V.w V.K V.mg V.base k x ps sp
abbrev c0(_:V_):Prop:=True
local macro_rules|`(tactic| walk_at "s")=>`(tactic| exact⟨rfl,rfl,rfl,by decide +kernel,rfl,by decide +kernel,by decide +kernel⟩)
local macro_rules|`(tactic| walk_at "l")=>`(tactic| first|(rintro _ _ _ ⟨_,e,_⟩;rw[e];rfl)|(rintro _ _ _ ⟨_,_,e,_⟩;rw[e];rfl)|(rintro _ _ _ ⟨_,_,_,e,_⟩;rw[e];rfl)|(rintro _ _ _ ⟨_,_,_,_,e,_⟩;rw[e];rfl)|(rintro _ _ _ ⟨_,_,_,_,_,e,_⟩;rw[e];rfl)|(rintro _ _ _ ⟨_,_,_,_,_,_,e,_⟩;rw[e];rfl)|(rintro _ _ _ ⟨_,_,_,_,_,_,_,e,_⟩;rw[e];rfl)|(rintro _ _ _ ⟨_,_,_,_,_,_,_,_,e,_⟩;rw[e];rfl)|(rintro _ _ _ ⟨_,_,_,_,_,_,_,_,_,e,_⟩;rw[e];rfl))
local macro_rules|`(tactic| walk_at "x")=>`(tactic| (intro _;walk_at "l"))
local macro_rules|`(tactic| walk_at "b")=>`(tactic| (intro _ _ _ _ _ _ us hl;(repeat (obtain⟨_,_,e,h⟩:=au8 hl;clear hl;subst e;have hl:=h;clear h));cases List.eq_nil_of_length_eq_zero hl;rfl))
section
variable {f:Addr}{fd:FuncData}{x q:Str}{st:Stmt}{ps:List Str}(V:V_)(k:Nat)(N:List Str)
theorem W_{sp:jn}{t:ku}(F:Fun V.K x q st f fd)(g:∀ys L Q,sp ys L Q->xl t N.length ys L Q)(h:∀(fx:Value) (A:Around) (outer:List Env) (s:Shared) (H:Hp) (E:XK),aI k (A.deeper (PyProof.Rows.envOfC q (z0 st) s.heap.objs.size f fx))->N.Nodup->(A.deeper (PyProof.Rows.envOfC q (z0 st) s.heap.objs.size f fx)).units+128<cLine->sQ (dF CX0 V.P V.w V.K V.mg V.base N q (z0 st) f fx A outer s H E).nox (jp st) t)(J:aS N ps (z0 st):=by walk_at "s")(len:∀ys L Q,sp ys L Q->ys.length=ps.length:=by walk_at "l"):Fn3 V.P V.w V.K V.mg V.base (k+1) f fd ps sp:=
 ok3 F J len λfx A outer s H E U=>⟨t,h fx A outer s H E U J.nd (huK U),g⟩
theorem M_{sp:jn}{t:ku}(J:∃h:Heap,V.K.In h/\h.Ns mainGlobals V.mg)(D:z9 V.K x st)(U:∀ys L Q,sp ys L Q->xl t N.length ys L Q)(h:∀f,∀(fx:Value) (A:Around) (outer:List Env) (s:Shared) (H:Hp) (E:XK),aI k (A.deeper (PyProof.Rows.envOfC x (z0 st) s.heap.objs.size f fx))->N.Nodup->(A.deeper (PyProof.Rows.envOfC x (z0 st) s.heap.objs.size f fx)).units+128<cLine->sQ (dF CX0 V.P V.w V.K V.mg V.base N x (z0 st) f fx A outer s H E).nox (jp st) t)(g:aS N ps (z0 st):=by walk_at "s")(len:∀ys L Q,sp ys L Q->ys.length=ps.length:=by walk_at "l")(j:∀(kV ir pm:Value) (an:Option Addr) (fx ct:Value) (us:List Value),us.length=ps.length->bindArgs (PySem.W.fnOf x x (vh st) (jp st) (z0 st) .none kV ir pm an fx ct) ⟨us,[]⟩=pure (ps.zip us):=by walk_at "b"):Q_ V (k+1) x ps sp:=by obtain⟨_,X,G⟩:=J;obtain⟨f,fd,F,b,m⟩:=D.use X G j;exact Cal.of (W_ V k N F U (h f) g len) b F.kp m
theorem R_{sp:Nat->jn}{t:Nat->ku}(J:∃h:Heap,V.K.In h/\h.Ns mainGlobals V.mg)(D:z9 V.K x st)(no:∀ys L Q,¬sp 0 ys L Q)(U:∀n ys L Q,sp (n+1) ys L Q->xl (t n) N.length ys L Q)(h:∀n f,Q_ V (n+k) x ps (sp n)->∀(fx:Value) (A:Around) (outer:List Env) (s:Shared) (H:Hp) (E:XK),aI (n+k) (A.deeper (PyProof.Rows.envOfC x (z0 st) s.heap.objs.size f fx))->N.Nodup->(A.deeper (PyProof.Rows.envOfC x (z0 st) s.heap.objs.size f fx)).units+128<cLine->sQ (dF CX0 V.P V.w V.K V.mg V.base N x (z0 st) f fx A outer s H E).nox (jp st) (t n))(n:Nat)(g:aS N ps (z0 st):=by walk_at "s")(len:∀n ys L Q,sp n ys L Q->ys.length=ps.length:=by walk_at "x")(j:∀(kV ir pm:Value) (an:Option Addr) (fx ct:Value) (us:List Value),us.length=ps.length->bindArgs (PySem.W.fnOf x x (vh st) (jp st) (z0 st) .none kV ir pm an fx ct) ⟨us,[]⟩=pure (ps.zip us):=by walk_at "b"):Q_ V (n+k) x ps (sp n):=by
 obtain⟨_,X,G⟩:=J;obtain⟨f,fd,F,b,m⟩:=D.use X G j
 induction n with|zero=>exact Cal.of (Fn3.never no) b F.kp m|succ n l=>rw[Nat.add_right_comm];exact Cal.of (W_ V (n+k) N F (U n) (h n f l) g (len _)) b F.kp m
theorem X_{sp:ff}{t:X3->ku}(g:∃h:Heap,V.K.In h/\h.Ns mainGlobals V.mg)(D:z9 V.K x st)(j:∀ys L Q E,sp ys L Q E->xl (t (sh E)) N.length ys L Q)(h:∀f,∀(fx:Value) (A:Around) (outer:List Env) (s:Shared) (H:Hp) (E:XK) (E3:X3),aI k (A.deeper (PyProof.Rows.envOfC x (z0 st) s.heap.objs.size f fx))->dk (dF (CXE V.P V.w) V.P V.w V.K V.mg V.base N x (z0 st) f fx A outer s H E) (upX ⟨V.K,V.P,V.w⟩ E3)->N.Nodup->(A.deeper (PyProof.Rows.envOfC x (z0 st) s.heap.objs.size f fx)).units+128<cLine->sQ (dF (CXE V.P V.w) V.P V.w V.K V.mg V.base N x (z0 st) f fx A outer s H E) (jp st) (t E3))(J:aS N ps (z0 st):=by walk_at "s")(len:∀ys L Q E,sp ys L Q E->ys.length=ps.length:=by walk_at "x")(l:∀(kV ir pm:Value) (an:Option Addr) (fx ct:Value) (us:List Value),us.length=ps.length->bindArgs (PySem.W.fnOf x x (vh st) (jp st) (z0 st) .none kV ir pm an fx ct) ⟨us,[]⟩=pure (ps.zip us):=by walk_at "b"):jZ V.P V.w V.K V.mg V.base (k+1) x ps sp:=by obtain⟨_,X,G⟩:=g;obtain⟨f,fd,F,b,m⟩:=D.use X G l;exact⟨_,_,auo F J len (λfx A outer s H E E3 U o=>h f fx A outer s H E E3 U o J.nd (huK U)) j,b,F.kp,m⟩
theorem T_{sp:jn}{t:ku}(g:∃h:Heap,V.K.In h/\h.Ns mainGlobals V.mg)(D:DefInT V.K x st V.Pt)(j:∀ys L Q,sp ys L Q->xl t N.length ys L Q)(h:∀f,∀(fx:Value) (A:Around) (outer:List Env) (s:Shared) (H:Hp) (E:XK),aaj V.K fx V.Pt->aI k (A.deeper (PyProof.Rows.envOfC x (z0 st) s.heap.objs.size f fx))->N.Nodup->(A.deeper (PyProof.Rows.envOfC x (z0 st) s.heap.objs.size f fx)).units+128<cLine->sQ (dF CX0 V.P V.w V.K V.mg V.base N x (z0 st) f fx A outer s H E).nox (jp st) t)(J:aS N ps (z0 st):=by walk_at "s")(len:∀ys L Q,sp ys L Q->ys.length=ps.length:=by walk_at "l")(l:∀(kV ir pm:Value) (an:Option Addr) (fx ct:Value) (us:List Value),us.length=ps.length->bindArgs (PySem.W.fnOf x x (vh st) (jp st) (z0 st) .none kV ir pm an fx ct) ⟨us,[]⟩=pure (ps.zip us):=by walk_at "b"):Q_ V (k+1) x ps sp:=by obtain⟨_,X,G⟩:=g;obtain⟨f,fd,F,b,m⟩:=D.use X G l;exact Cal.of (avu F J len λfx A outer s H E C U=>⟨t,h f fx A outer s H E C U J.nd (huK U),j⟩) b F.kp m
end
theorem I_{X:Cx}{a b:Expr}{ta tb:vd}{pos:Pos}(J:QE X a ta)(U:QE X b tb)(g:lL b:=by exactλ_ _=>rfl):QE X (.Subscript a b pos) (zk ai ta tb):=aoq (apy X.K X.prog X.w) J U g
theorem jt{X:Cx}{e:Expr}{t:vd}(h:QE X e t)(s:starEach [e] X.env=[(false,eval e X.env)]:=by rfl):QA X [e] (qd t zb):=kz h x9 s
theorem ko{X:Cx}{e f:Expr}{t u:vd}(h:QE X e t)(g:QE X f u)(s:starEach [e,f] X.env=[(false,eval e X.env),(false,eval f X.env)]:=by rfl)(r:starEach [f] X.env=[(false,eval f X.env)]:=by rfl):QA X [e,f] (qd t (qd u zb)):=kz h (jt g r) (by show _=_;rw[s,r])
theorem aa{X:Cx}{e f d:Expr}{t u v:vd}(h:QE X e t)(g:QE X f u)(i:QE X d v)(s:starEach [e,f,d] X.env=[(false,eval e X.env),(false,eval f X.env),(false,eval d X.env)]:=by rfl)(r:starEach [f,d] X.env=[(false,eval f X.env),(false,eval d X.env)]:=by rfl)(q:starEach [d] X.env=[(false,eval d X.env)]:=by rfl):QA X [e,f,d] (qd t (qd u (qd v zb))):=kz h (ko g i r q) (by show _=_;rw[s,r])
theorem E_{X:Cx}{a b:Expr}{ta tb:vd}{pos:Pos}(J:X.A.units+128<cLine)(U:QE X a ta)(g:QE X b tb):QT X (.Compare a [.Eq] [b] pos) (yB (zk (yH false) ta tb)):=x5 (uo X.K X.prog X.w J) U g (vq _)
theorem N_{X:Cx}{a b:Expr}{ta tb:vd}{pos:Pos}(J:X.A.units+128<cLine)(U:QE X a ta)(g:QE X b tb):QT X (.Compare a [.NotEq] [b] pos) (yB (zk (yH true) ta tb)):=x5 (aqy X.K X.prog X.w J) U g (vq _)
theorem S_{X:Cx}{x:Str}{e:Expr}{te:vd}{pos hQ:Pos}(i:Nat)(j:X.N.Nodup)(h:QE X e te)(J:X.N[i]?=some x:=by rfl)(l:Loc X.env.scope x:=by exact Or.inl rfl)(U:swapsWith e (some (.Name x hQ)) pos.line X.env=pure false:=by rfl)(g:X.fn x=true\/X.env.scope.names.lookup x=some .local:=by first|exact .inl rfl|exact .inr rfl|assumption):QS X (.Assign [.Name x hQ] e pos) (zg te (qe i)):=bP (i:=i) j J l h U g
theorem G_{X:Cx}{x:Str}{pos:Pos}(i:Nat)(g:X.N.Nodup)(J:X.N[i]?=some x:=by rfl)(j:Loc X.env.scope x:=by exact Or.inl rfl)(U:X.fn x=true\/X.env.scope.names.lookup x=some .local:=by first|exact .inl rfl|exact .inr rfl|assumption):QG X (.Name x pos) (qe i):=hU (i:=i) g J j U
theorem C_{X:Cx}{e:Expr}{es:List Expr}{tr:eY}{pos p:Pos}{j k:Nat}{x:Str}{ps:List Str}{sp:jn}(c:aly X.prog X.w X.K X.mg X.base j x ps sp)(g:aI k X.A)(l:QA X (e::es) tr)(o:j<=k:=by first|decide|exact Al _|exact AU (by decide) (DQ _ _))(r:Gl X x:=by rfl)(J:Ed x:=by decide)(t:Eb e es X:=by rfl)(U:Ec pos es X:=by rfl):QE X (.Call (.Name x p) (e::es) [] pos) (qz sp tr):=ata (Cal.mono c o) g r l J t U
theorem J_{X:Cx}{x:Str}{n:Int}{k:Nat}{p q pos:Pos}(i:Nat)(J:X.N[i]?=some x:=by rfl)(U:Vis X.env.scope x:=by first|exact Or.inl rfl|exact Or.inr (Or.inl rfl)|exact Or.inr (Or.inr rfl))(hd:Ed x:=by decide)(hc:Ee x:=by decide):QE X (.Subscript (.Name x p) (.Constant (.int n) k q) pos) (zk ai (qa i) (yC (.int n))):=I_ (qv i J U hd hc) qi (λ_ _=>rfl)
theorem L_{X:Cx}{e:Expr}{t:vd}{p pos:Pos}(J:X.mg "len"=none)(h:QE X e t)(s:starEach [e] X.env=[(false,eval e X.env)]:=by rfl)(U:Gl X "len" := by rfl):QE X (.Call (.Name "len" p) [e] [] pos) (iW oS (qd t zb)):=cZ (am6 X.K X.prog X.w) U J anb (jt h s) (hs:=s)
theorem yD{l:List Str}(h:decide l.Nodup=true:=by kernel_rfl):l.Nodup:=of_decide_eq_true h
abbrev c1(V:V_):Prop:=c0 V/\Q_ V 1 "is_leaf" ["word"] (gN)
theorem d1(V:V_)(B:B_ V)(c:c0 V):c1 V:=⟨c,M_ V 0 ["word"] B.hp B.D0 wN λ_ _ _ _ _ _ _ J U g=>(qg (za (fW (afz _ _ _) (J_ 0) (alp B.k_LEAF_KINDS rfl) (by with_unfolding_all rfl))))⟩
abbrev c2(V:V_):Prop:=c1 V/\Q_ V 2 "parts_of" ["knot"] (mf)
theorem d2(V:V_)(B:B_ V)(c:c1 V):c2 V:=⟨c,M_ V 1 ["knot"] B.hp B.D1 ae2 λ_ _ _ _ _ _ _ J U g=>(q9 (jk (bY (eJ (gR (qv 0)) (fK (a7 (C_ c.2 J (jt (qv 0))))))) (qg (za (ze x9))) zo) (qg (za (ze (ko (J_ 0) (J_ 0))))))⟩
abbrev c3(V:V_):Prop:=c2 V/\Q_ V 1 "places_of" ["rule"] (l7)
theorem d3(V:V_)(B:B_ V)(c:c2 V):c3 V:=⟨c,M_ V 0 ["rule"] B.hp B.D2 ai3 λ_ _ _ _ _ _ _ J U g=>(qg (za (kh aD rfl B.bb vt (jt (xm (iT _ _ _) (qv 0) (xj qi) (xj (qp xc qi (mh B.i_PLACE_COUNTS rfl (J_ 0) (λ_ _=>rfl)))))))))⟩
abbrev c4(V:V_):Prop:=c3 V/\Q_ V 1 "arms_of" ["rule"] (wu)
theorem d4(V:V_)(B:B_ V)(c:c3 V):c4 V:=⟨c,M_ V 0 ["rule"] B.hp B.D3 abp λ_ _ _ _ _ _ _ J U g=>(qg (za (kh aD rfl B.bb vt (jt (xm (iT _ _ _) (qv 0) (xj (qp xc qi (mh B.i_PLACE_COUNTS rfl (J_ 0) (λ_ _=>rfl)))) wo)))))⟩
abbrev c5(V:V_):Prop:=c4 V/\Q_ V 122 "rules_in" ["rule"] (ae 120)
theorem d5(V:V_)(B:B_ V)(c:c4 V):c5 V:=⟨c,R_ V 2 ["rule","rules","arm"] B.hp B.D4 afe xC (λ_ _ J _ _ _ _ _ _ U g j=>(q9 (S_ 1 g (ze (jt (qv 0)))) (q9 (w6 vb rfl (v9 (C_ c.2 U (jt (qv 0)))) (G_ 2 g) (qg (zj (ac (qv 1) (jt (C_ J U (jt (qv 2)))))))) (qg (za (qv 1)))))) 120⟩
abbrev c6(V:V_):Prop:=c5 V/\Q_ V 2 "told_by" ["rule"] (i5)
theorem d6(V:V_)(B:B_ V)(c:c5 V):c6 V:=⟨c,M_ V 1 ["rule"] B.hp B.D5 abj λ_ _ _ _ _ _ _ J g U=>(qg (za (fB (E_ U (J_ 0) ja) (ze x9) (C_ c.1.1.2 J (jt (qv 0))))))⟩
abbrev c7(V:V_):Prop:=c6 V/\Q_ V 3 "taken_by" ["knots","rule"] (qL)
theorem d7(V:V_)(B:B_ V)(c:c6 V):c7 V:=⟨c,M_ V 2 ["knots","rule","parts"] B.hp B.D6 ajy λ_ _ _ _ _ _ _ U g J=>(q9 (jk (E_ J (J_ 1) ja) (qg (za (ze x9))) zo) (q9 (jk (E_ J (J_ 1) ja) (qg (za (ze (ko (ze (jt (J_ 1))) (ze (jt (J_ 1))))))) zo) (q9 (S_ 2 g (C_ c.1.1.1.1.2 U (jt (I_ (qv 0) (J_ 1))))) (q9 (jk (E_ J (J_ 1) ja) (qg (za (ze (jt (qv 2))))) zo) (qg (za (gJ ["part"] (EL (by rfl)) rfl (v9 (qv 2)) (kj yD (λ_ _ _ _=>Or.inl rfl) (λ_ _ _ _=>rfl)) (λ_ _ _ _=>jA) (λ_ _ _ _=>(ze (jt (qv 3)))))))))))⟩
abbrev c8(V:V_):Prop:=c7 V/\Q_ V 1 "pairs_by" ["rules","kind"] (dM)
theorem d8(V:V_)(B:B_ V)(c:c7 V):c8 V:=⟨c,M_ V 0 ["rules","kind"] B.hp B.D7 ra λ_ _ _ _ _ _ _ U g J=>(qg (za (cZ ahv rfl B.bj zU (jt (gJ ["rule"] (EL (by rfl)) rfl (v9 (qv 0)) (kj yD (λ_ _ _ _=>Or.inl rfl) (λ_ _ _ _=>rfl)) (λ_ _ _ _=>eM (E_ J (J_ 2) (qv 1))) (λ_ _ _ _=>(zw (ko (J_ 2) (J_ 2)))))))))⟩
abbrev c9(V:V_):Prop:=c8 V/\Q_ V 123 "web_of" ["tree"] (gQ)
theorem d9(V:V_)(B:B_ V)(c:c8 V):c9 V:=⟨c,M_ V 122 ["tree","rules"] B.hp B.D8 wJ λ_ _ _ _ _ _ _ J U g=>(q9 (S_ 1 U (C_ c.1.1.1.2 J (jt (J_ 0)))) (qg (za (zw (aa (kh aD rfl B.bb vt (jt (J_ 0))) (C_ c.2 J (ko (qv 1) ja)) (C_ c.2 J (ko (qv 1) ja)))))))⟩
abbrev cr(V:V_):Prop:=c9 V/\Q_ V 1 "with_arm" ["rule","number","arm"] (bJ)
theorem d10(V:V_)(B:B_ V)(c:c9 V):cr V:=⟨c,M_ V 0 ["rule","number","arm","at"] B.hp B.D9 ah5 λ_ _ _ _ _ _ _ U J g=>(q9 (S_ 3 J (qp xc (qp xc qi (mh B.i_PLACE_COUNTS rfl (J_ 0) (λ_ _=>rfl))) (qv 1))) (qg (za (qp xE (qp xE (xm (iT _ _ _) (qv 0) wo (xj (qv 3))) (zw (jt (qv 2)))) (xm (iT _ _ _) (qv 0) (xj (qp xc (qv 3) qi)) wo)))))⟩
abbrev c11(V:V_):Prop:=cr V/\Q_ V 123 "all_told" ["rule"] (gK)
theorem d11(V:V_)(B:B_ V)(c:cr V):c11 V:=⟨c,M_ V 122 ["rule","places","inner"] B.hp B.D10 vG λ_ _ _ _ _ _ _ J U g=>(q9 (S_ 1 U (ze x9)) (q9 (w6 vb rfl (v9 (C_ c.1.1.1.1.1.2 J (jt (qv 0)))) (G_ 2 U) (qg (zj (ac (qv 1) (jt (C_ c.1.1.1.1.2 J (jt (qv 2)))))))) (qg (za (qv 1)))))⟩
abbrev c12(V:V_):Prop:=c11 V/\Q_ V 124 "arm_that_tells" ["rule","places"] (oR)
theorem d12(V:V_)(B:B_ V)(c:c11 V):c12 V:=⟨c,M_ V 123 ["rule","places","number","arm","told"] B.hp B.D11 agf λ_ _ _ _ _ _ _ U J g=>(q9 (w6 vb rfl (fY rfl B.bd (C_ c.1.1.1.1.1.1.1.2 U (jt (qv 0)))) (aO rfl (zh (G_ 2 J) (zh (G_ 3 J) ke))) (q9 (bP (i:=4) J rfl (Or.inr rfl) (C_ c.2 U (jt (qv 3)))) (qg (jk (a7 (cZ ap0 rfl B.bq an0 (jt (gJ ["place"] (EL (by rfl)) rfl (v9 (qv 1)) (kj yD (λ_ _ _ _=>Or.inl rfl) (λ_ _ _ _=>rfl)) (λ_ _ _ _=>jA) (λ_ _ _ _=>(fW (afz _ _ _) (qv 5) (qv 4) (by with_unfolding_all rfl))))))) (qg (za (qv 2))) zo)))) (qg (za ax)))⟩
abbrev c13(V:V_):Prop:=c12 V/\Q_ V 125 "turned_out" ["knots","rule","arm"] (lO)
theorem d13(V:V_)(B:B_ V)(c:c12 V):c13 V:=⟨c,M_ V 124 ["knots","rule","arm","inner","number"] B.hp B.D12 ahj λ_ _ _ _ _ _ _ J U g=>(q9 (S_ 3 U (I_ (C_ c.1.1.1.1.1.1.1.1.2 J (jt (qv 1))) (qv 2))) (q9 (S_ 4 U (C_ c.2 J (ko (qv 3) (I_ (C_ c.1.1.1.1.1.2 J (ko (qv 0) (qv 1))) (qv 2))))) (q9 (jk (gR (qv 4)) (qg (za ax)) zo) (qg (za (C_ c.1.1.2 J (aa (qv 3) (qv 4) (C_ c.1.1.2 J (aa (qv 1) (qv 2) (I_ (C_ c.1.1.1.1.1.1.1.1.2 J (jt (qv 3))) (qv 4)))))))))))⟩
abbrev c14(V:V_):Prop:=c13 V/\jZ V.P V.w V.K V.mg V.base 2 "arm_at" ["rule","number"] (cW V.Ca)
theorem d14(V:V_)(B:B_ V)(c:c13 V):c14 V:=⟨c,X_ V 1 ["rule","number","arms"] (t:=(λJ=>uC V.Ca J (wu))) B.hp B.D13 ac3 λ_ _ _ _ _ _ _ _ U g j l=>(q9 (S_ 2 j (C_ c.1.1.1.1.1.1.1.1.1.2 U (jt (qv 0)))) (q9 (jk (fF (afh qi (yr atg (qv 1) (abk vL (L_ B.ba (qv 2)))))) (qg (tK B.x_NoExchange rfl B.md rfl g rfl (jt ja))) zo) (qg (za (I_ (qv 2) (qv 1))))))⟩
abbrev c15(V:V_):Prop:=c14 V/\jZ V.P V.w V.K V.mg V.base 3 "rules_along" ["rule","way"] (eV V.Ca)
theorem d15(V:V_)(B:B_ V)(c:c14 V):c15 V:=⟨c,X_ V 2 ["rule","way","along","number"] (t:=(λU=>gB U (cW V.Ca))) B.hp B.D14 ae5 λ_ _ _ _ _ _ _ _ g j J l=>(q9 (S_ 2 J (ze (jt (qv 0)))) (q9 (w6 PassesOwn.leaving rfl (v9 (qv 1)) (G_ 3 J) (qg (zj (zp (qv 2) (jt (uK (c.2.mono (by decide)) g rfl j rfl (ko (I_ (qv 2) (mC oN qi)) (qv 3)))))))) (qg (za (qv 2)))))⟩
abbrev c16(V:V_):Prop:=c15 V/\jZ V.P V.w V.K V.mg V.base 126 "exchanged" ["tree","way","arm"] (qH V.Ca)
theorem d16(V:V_)(B:B_ V)(c:c15 V):c16 V:=⟨c,X_ V 125 ["tree","way","arm","along","rule","number","outer"] (t:=(λj=>jX V.Ca j (eV V.Ca) (cW V.Ca) (lO) (bJ))) B.hp B.D15 aii λ_ _ _ _ _ _ _ _ U g J l=>(q9 (S_ 3 J (uK (c.2.mono (by decide)) U rfl g rfl (ko (J_ 0) (qv 1)))) (q9 (zj (uK (c.1.2.mono (by decide)) U rfl g rfl (ko (I_ (qv 3) (mC oN qi)) (qv 2)))) (q9 (S_ 4 J (C_ c.1.1.2 U (aa (J_ 0) (I_ (qv 3) (mC oN qi)) (qv 2)))) (q9 (jk (gR (qv 4)) (qg (tK B.x_NoExchange rfl B.md rfl g rfl (jt ja))) zo) (q9 (w6 PassesOwn.leaving rfl (amc rfl B.bu (ae3 rfl rfl B.bb rfl B.bp (ko (qv 1) (qv 3)))) (aO rfl (zh (G_ 5 J) (zh (G_ 6 J) ke))) (qg (S_ 4 J (C_ c.1.1.1.1.1.2 U (aa (qv 6) (qv 5) (qv 4)))))) (qg (za (zw (ko (kh aD rfl B.bb vt (jt (J_ 0))) (qv 4))))))))))⟩
abbrev c17(V:V_):Prop:=c16 V/\Q_ V 2 "rules_by_way" ["rule"] (l8)
theorem d17(V:V_)(B:B_ V)(c:c16 V):c17 V:=⟨c,M_ V 1 ["rule","found","due","here","behind"] B.hp B.D16 ak3 λ_ _ _ _ _ _ _ U J g=>(q9 (S_ 1 J (ze x9)) (q9 (S_ 2 J (ze (jt (zw (ko (ze x9) (qv 0)))))) (q9 (bV vb (N_ g (qv 2) (ze x9)) (q9 (bP (i:=3) J rfl (Or.inr rfl) (rV (qv 2))) (q9 (zj (zp (qv 1) (jt (qv 3)))) (q9 (hV ["number","arm" ] (i:=4) J rfl (Or.inl rfl) (EL (by rfl)) rfl (fY rfl B.bd (C_ c.1.1.1.1.1.1.1.1.1.1.1.1.2 U (jt (J_ 3)))) (yZ rfl yD (λ_ _ _ _=>rfl) (λ_ _ _ _=>rfl)) (λ_ _ _ _=>jA) (λ_ _ _ _=>(zw (ko (qp xc (J_ 3) (ze (jt (qv 5)))) (qv 6))))) (q9 (zj (wH (qv 4))) (qg (zj (ac (qv 2) (jt (qv 4)))))))))) (qg (za (qv 1))))))⟩
abbrev c18(V:V_):Prop:=c17 V/\Q_ V 2 "is_same_rule" ["rule","other"] (mH)
theorem d18(V:V_)(B:B_ V)(c:c17 V):c18 V:=⟨c,M_ V 1 ["rule","other"] B.hp B.D17 af3 λ_ _ _ _ _ _ _ J g U=>(qg (za (afn (fW (uo _ _ _ U) (J_ 0) (J_ 1) (vq _)) (aez (fW (uo _ _ _ U) (C_ c.1.1.1.1.1.1.1.1.1.1.1.1.1.1.2 J (jt (qv 0))) (C_ c.1.1.1.1.1.1.1.1.1.1.1.1.1.1.2 J (jt (qv 1))) (vq _))))))⟩
abbrev c19(V:V_):Prop:=c18 V/\Q_ V 4 "steps_out" ["tree","way","rule"] (jL)
theorem d19(V:V_)(B:B_ V)(c:c18 V):c19 V:=⟨c,M_ V 3 ["tree","way","rule","within","inner"] B.hp B.D18 aab λ_ _ _ _ _ _ _ J U g=>(q9 (S_ 3 U (C_ c.1.2 J (jt (I_ (uK (c.1.1.1.2.mono (by decide)) J rfl ae1 rfl (ko (J_ 0) (qv 1))) (mC oN qi))))) (q9 (bP (i:=4) U rfl (Or.inr rfl) (I_ (gJ ["path","found" ] (EL (by rfl)) rfl (v9 (qv 3)) (yZ rfl yD (λ_ _ _ _=>rfl) (λ_ _ _ _=>rfl)) (λ_ _ _ _=>eM (a7 (C_ c.2 J (ko (qv 6) (qv 2))))) (λ_ _ _ _=>(qv 5))) qi)) (qg (za (gJ ["at"] (EL (by rfl)) rfl (aaz rfl B.bf (aa (qp bQ (L_ B.ba (qv 4)) qi) (mC oN qi) (mC oN qi))) (kj yD (λ_ _ _ _=>Or.inl rfl) (λ_ _ _ _=>rfl)) (λ_ _ _ _=>jA) (λ_ _ _ _=>(zw (ko (qp xc (qv 1) (xm (kE _ _ _) (qv 4) wo (xj (qv 5)))) (I_ (qv 4) (qv 5))))))))))⟩
abbrev c20(V:V_):Prop:=c19 V/\Q_ V 127 "way_between" ["tree","other"] (lQ)
theorem d20(V:V_)(B:B_ V)(c:c19 V):c20 V:=⟨c,M_ V 126 ["tree","other","here","pairs","way","rule","step"] B.hp B.D19 ags λ_ _ _ _ _ _ _ U J g=>(q9 (jk (N_ g (C_ c.1.1.1.1.1.1.1.1.1.1.2 U (jt (qv 0))) (C_ c.1.1.1.1.1.1.1.1.1.1.2 U (jt (qv 1)))) (qg afg) zo) (q9 (S_ 2 J (qv 0)) (q9 (S_ 3 J (ze x9)) (q9 (w6 vb rfl (v9 (C_ c.1.1.2 U (jt (J_ 1)))) (aO rfl (zh (G_ 4 J) (zh (G_ 5 J) ke))) (qg (w6 vb rfl (v9 (C_ c.2 U (aa (qv 2) (qv 4) (qv 5)))) (G_ 6 J) (q9 (S_ 2 J (uK (c.1.1.1.2.mono (by decide)) U rfl ae1 rfl (aa (qv 2) (J_ 6) (J_ 6)))) (qg (zj (zp (qv 3) (jt (qv 6))))))))) (qg (za (qv 3)))))))⟩
abbrev c21(V:V_):Prop:=c20 V/\Q_ V 1 "_law_mix" [nV,ny,"_law_factor"] (mV)
theorem d21(V:V_)(B:B_ V)(c:c20 V):c21 V:=⟨c,M_ V 0 [nV,ny,"_law_factor"] B.hp B.D20 amy λ_ _ _ _ _ _ _ J U g=>(qg (za (qp wx (qp xo (qp ft (qp xc (qp xc (qp ft (qp xo (qv 0) qi) qi) (qp ft (qv 1) (qv 1))) qi) (qv 2)) qi) qi)))⟩
abbrev c22(V:V_):Prop:=c21 V/\Q_ V 1 "_law_name" [nj,"_law_which"] (m8)
theorem d22(V:V_)(B:B_ V)(c:c21 V):c22 V:=⟨c,M_ V 0 [nj,"_law_which","_law_letters","_law_size","_law_place","_law_base","_law_sign"] B.hp B.D21 af0 λ_ _ _ _ _ _ _ g J U=>(q9 (bP (i:=2) J rfl (Or.inr rfl) ja) (q9 (S_ 3 J (qp xc qi (qp xo (qv 0) qi))) (q9 (S_ 4 J (qp xo (qp wx (qv 0) qi) (qv 3))) (q9 (S_ 5 J (ajt ja (jt (gJ [ny] (EL (by rfl)) rfl (jF rfl B.bf (jt qi)) (kj yD (λ_ _ _ _=>Or.inl rfl) (λ_ _ _ _=>rfl)) (λ_ _ _ _=>jA) (λ_ _ _ _=>(I_ (qv 2) (qp xo (qp xc (qp wx (qv 0) qi) (qp ft qi (qv 7))) qi))))))) (q9 (jk (E_ U (qp xo (qp wx (qv 0) qi) qi) qi) (qg (za (xm (kE _ _ _) (qv 5) wo (xj (qp xc qi (qp xo (qp xc (qv 1) (qv 0)) qi)))))) zo) (q9 (S_ 6 J (I_ (qv 2) (qp xo (qp xc (qp xc (qp wx (qv 0) qi) (qp ft qi (qv 4))) (qv 1)) qi))) (qg (za (qp xc (qp xc (xm (kE _ _ _) (qv 5) wo (xj (qv 4))) (qv 6)) (xm (kE _ _ _) (qv 5) (xj (qp xc (qv 4) qi)) (xj (qv 3))))))))))))⟩
abbrev c23(V:V_):Prop:=c22 V/\Q_ V 121 "_law_word" [nh,nE] (aY 120)
theorem d23(V:V_)(B:B_ V)(c:c22 V):c23 V:=⟨c,R_ V 1 [nh,nE,"_law_knot"] B.hp B.D22 rL uE (λ_ _ J _ _ _ _ _ _ U g j=>(q9 (S_ 2 g (I_ (qv 0) (qv 1))) (q9 (jk (E_ j (L_ B.ba (qv 2)) qi) (qg (za (qv 2))) zo) (qg (za (zw (aa (J_ 2) (C_ J U (ko (qv 0) (J_ 2))) (C_ J U (ko (qv 0) (J_ 2)))))))))) 120⟩
abbrev c24(V:V_):Prop:=c23 V/\Q_ V 121 "_law_flip" [nq] (cT 120)
theorem d24(V:V_)(B:B_ V)(c:c23 V):c24 V:=⟨c,R_ V 1 [nq,"_law_sides"] B.hp B.D23 agk adl (λ_ _ J _ _ _ _ _ _ U g j=>(q9 (S_ 1 g (ak5 [ ("plain" ,"turned") ,("turned" ,"plain") ,("both" ,"either") ,("either" ,"both") ] (iJ dE dE (iJ dE dE (iJ dE dE (iJ dE dE aiv)))) rfl rfl (Ba _ _) (BG rfl))) (q9 (jk (E_ j (L_ B.ba (qv 0)) qi) (qg (za (zw (ko (I_ (qv 1) (J_ 0)) (J_ 0))))) zo) (qg (za (zw (aa (I_ (qv 1) (J_ 0)) (C_ J U (jt (J_ 0))) (C_ J U (jt (J_ 0)))))))))) 120⟩
abbrev c25(V:V_):Prop:=c24 V/\Q_ V 121 "_law_weight" [nq] (cU 120)
theorem d25(V:V_)(B:B_ V)(c:c24 V):c25 V:=⟨c,R_ V 1 [nq] B.hp B.D24 o6 aav (λ_ _ J _ _ _ _ _ _ U j g=>(q9 (jk (E_ g (L_ B.ba (qv 0)) qi) (qg (za qi)) zo) (qg (za (qp xc (qp xc qi (C_ J U (jt (J_ 0)))) (C_ J U (jt (J_ 0)))))))) 120⟩
abbrev c26(V:V_):Prop:=c25 V/\Q_ V 127 "_law_mirror" [nh,nq] (cB 5)
theorem d26(V:V_)(B:B_ V)(c:c25 V):c26 V:=⟨c,R_ V 122 [nh,nq,"_law_left","_law_right","_law_turn","_law_same","_law_low","_law_high"] B.hp B.D25 zO abg (λ_ _ J _ _ _ _ _ _ g U l=>(q9 (jk (E_ l (L_ B.ba (qv 1)) qi) (q9 (zj (zp (qv 0) (jt (C_ c.1.2 g (jt (qv 1)))))) (q9 (zj (zp (qv 0) (jt (qv 1)))) (qg (za (ze (aa (zw (aa ja (qp bQ (L_ B.ba (qv 0)) qi) (qp bQ (L_ B.ba (qv 0)) qi))) (qp bQ (L_ B.ba (qv 0)) qi) (qp bQ (L_ B.ba (qv 0)) qi))))))) zo) (q9 (S_ 2 U (C_ J g (ko (qv 0) (J_ 1)))) (q9 (S_ 3 U (C_ J g (ko (qv 0) (J_ 1)))) (q9 (zj (zp (qv 0) (jt (zw (aa (I_ (C_ c.1.2 g (jt (qv 1))) qi) (J_ 2) (J_ 3)))))) (q9 (zj (zp (qv 0) (jt (zw (aa (J_ 1) (J_ 2) (J_ 3)))))) (q9 (xH (i:=4) (j:=5) rfl U rfl rfl (by decide) rfl rfl (ko (qp bQ (L_ B.ba (qv 0)) qi) (qp bQ (L_ B.ba (qv 0)) qi)) rfl) (q9 (S_ 6 U (fB (E_ l (J_ 1) ja) (qv 4) (qv 5))) (q9 (S_ 7 U (fB (E_ l (J_ 1) ja) (qv 5) (qv 4))) (qg (za (ze (aa (zw (aa ja (qv 7) (zw (kz ja (aa (qv 6) (J_ 2) (J_ 3)))))) (qv 4) (qv 5)))))))))))))) 5⟩
abbrev c27(V:V_):Prop:=c26 V/\Q_ V 1 "_law_join" [nh,nJ,nu,nF] (rH)
theorem d27(V:V_)(B:B_ V)(c:c26 V):c27 V:=⟨c,M_ V 0 [nh,nJ,nu,nF,"_law_first","_law_second","_law_left","_law_right",nQ] B.hp B.D26 ai4 λ_ _ _ _ _ _ _ U J g=>(q9 (S_ 4 J (cQ (qv 1) (jt (qp xo (qv 3) (L_ B.ba (qv 1)))))) (q9 (S_ 5 J (cQ (qv 1) (jt (qp xo (qv 2) (L_ B.ba (qv 1)))))) (q9 (bP (i:=6) J rfl (Or.inr rfl) (I_ (J_ 4) (qp xo (qp wx (qv 3) qi) (L_ B.ba (J_ 4))))) (q9 (bP (i:=7) J rfl (Or.inr rfl) (I_ (J_ 5) (qp xo (qp wx (qv 2) qi) (L_ B.ba (J_ 5))))) (q9 (zj (zp (qv 0) (jt (zw (aa ja (qv 6) (qv 7)))))) (q9 (hV [nE] (i:=8) J rfl (Or.inl rfl) (EL (by rfl)) rfl (v9 (qp xc (J_ 4) (J_ 5))) (kj yD (λ_ _ _ _=>Or.inl rfl) (λ_ _ _ _=>rfl)) (λ_ _ _ _=>eM (x5 (vD _ _ _) (qv 9) (zw (ko (qv 6) (qv 7))) (by with_unfolding_all rfl))) (λ_ _ _ _=>(qv 9))) (qg (zj (zp (qv 1) (jt (ze (ko (zw (kz ja (aa (qp bQ (L_ B.ba (qv 0)) qi) (J_ 4) (J_ 5)))) (qp xc (qv 8) (ze (jt (qp bQ (L_ B.ba (qv 0)) qi))))))))))))))))⟩
abbrev c28(V:V_):Prop:=c27 V/\Q_ V 1 "_law_fold" [nh,"_law_tree_here",nu,nF] (mX)
theorem d28(V:V_)(B:B_ V)(c:c27 V):c28 V:=⟨c,M_ V 0 [nh,"_law_tree_here",nu,nF,"_law_left","_law_right"] B.hp B.D27 abz λ_ _ _ _ _ _ _ U J g=>(q9 (jk (x5 vL (L_ B.ba (J_ 1)) qi (vq _)) (qg yQ) zo) (q9 (S_ 4 J (cQ (J_ 1) (jt (qp xo (qv 3) (L_ B.ba (J_ 1)))))) (q9 (S_ 5 J (cQ (J_ 1) (jt (qp xo (qv 2) (L_ B.ba (J_ 1)))))) (q9 (zj (zp (qv 0) (jt (zw (aa ja (qv 4) (qv 5)))))) (q9 (yg (qv 1) qi (zw (aa ja (qp bQ (L_ B.ba (qv 0)) qi) (J_ 1)))) (qg (zj (zp (J_ 1) (jt (qp bQ (L_ B.ba (qv 0)) qi))))))))))⟩
abbrev c29(V:V_):Prop:=c28 V/\Q_ V 128 "_law_cut" [nh,nJ,nu,nF] (rB)
theorem d29(V:V_)(B:B_ V)(c:c28 V):c29 V:=⟨c,M_ V 127 [nh,nJ,nu,nF,"_law_first",nE,nq,"_law_second","_law_q",nG,"_law_end",ng,"_law_same",nQ] B.hp B.D28 ak1 λ_ _ _ _ _ _ _ U J g=>(q9 (S_ 4 J (cQ (qv 1) (jt (qp xo (qv 3) (L_ B.ba (qv 1)))))) (q9 (bP (i:=5) J rfl (Or.inr rfl) (I_ (J_ 4) (qp xo (qp wx (qv 3) qi) (L_ B.ba (J_ 4))))) (q9 (S_ 6 J (C_ c.1.1.1.1.1.2 U (ko (qv 0) (qv 5)))) (q9 (fM (zw (ko ax ax)) (aO rfl (zh (G_ 7 J) (zh (hU (i:=8) J rfl (Or.inr rfl)) ke)))) (q9 (w6 vb rfl (jF rfl B.bf (jt (L_ B.ba (qv 1)))) (G_ 9 J) (qg (w6 vb rfl (v9 (I_ (I_ (qv 1) (qv 9)) qi)) (G_ 10 J) (qg (jk (bY (i3 (gR (qv 7)) (f6 (E_ g (C_ c.1.1.1.1.1.2 U (ko (qv 0) (qv 10))) (C_ c.1.1.1.1.2 U (jt (qv 6))))))) (qg (fM (zw (ko (I_ (qv 1) (qv 9)) (qv 10))) (aO rfl (zh (G_ 7 J) (zh (hU (i:=8) J rfl (Or.inr rfl)) ke))))) zo))))) (q9 (jk (bY (i3 (gR (qv 7)) (f6 (x5 wD (C_ c.1.1.1.2 U (jt (qv 6))) qi (vq _))))) (q9 (zj (zp (qv 1) (jt (qv 4)))) (qg yQ)) zo) (bO (jk (gR (qv 7)) (q9 (fM (C_ c.1.1.2 U (ko (qv 0) (qv 6))) (ame rfl (zh (G_ 11 J) (zh (hU (i:=8) J rfl (Or.inr rfl)) (zh (G_ 12 J) ke))))) (qg (S_ 7 J (ze (ko (qv 11) (ze (ko (qv 8) (qv 12)))))))) (qg (zj (zG g (qv 1) (jt (qv 7)))))) (q9 (hV ["_law_x"] (i:=13) J rfl (Or.inl rfl) (EL (by rfl)) rfl (v9 (qp xc (J_ 4) (J_ 7))) (kj yD (λ_ _ _ _=>Or.inl rfl) (λ_ _ _ _=>rfl)) (λ_ _ _ _=>eM (x5 (vD _ _ _) (qv 14) (zw (ko (qv 5) (qv 8))) (by with_unfolding_all rfl))) (λ_ _ _ _=>(qv 14))) (qg (jk (E_ g (qp xo (qv 2) qi) qi) (qg (zj (zp (qv 1) (jt (ze (ko (zw (kz ja (kz (qv 5) (aa (qv 8) (J_ 4) (J_ 7))))) (qv 13))))))) (qg (zj (zp (qv 1) (jt (ze (ko (zw (kz ja (kz (qv 8) (aa (qv 5) (J_ 7) (J_ 4))))) (qv 13)))))))))))))))))⟩
abbrev c30(V:V_):Prop:=c29 V/\Q_ V 2 "_law_order" [nh,nj] (jE V.Pt)
theorem d30(V:V_)(B:B_ V)(c:c29 V):c30 V:=⟨c,T_ V 1 [nh,nj,"_law_ranks",nE,"_law_knot","_law_rank"] B.hp B.D29 ab3 λ_ _ _ _ _ _ _ C U J g=>(q9 (bP (i:=2) J rfl (Or.inr rfl) (ze x9)) (q9 (w6 vb rfl (fY rfl B.bd (qv 0)) (aO rfl (zh (G_ 3 J) (zh (G_ 4 J) ke))) (q9 (S_ 5 J (qp xo (C_ c.1.1.1.1.1.1.1.1.2 U (aa (qv 1) (qv 3) qi)) qi)) (bO (jk (E_ g (L_ B.ba (qv 4)) qi) (qg (S_ 5 J (qp xc (qp xc (qv 5) qi) (cZ akv rfl B.bi ac8 (ko (I_ (qv 2) (J_ 4)) (I_ (qv 2) (J_ 4))))))) zo) (qg (zj (zp (qv 2) (jt (qv 5)))))))) (qg (za (ag9 rfl B.bj (vY rfl rfl B.bb rfl B.bf (L_ B.ba (qv 0))) ⟨rfl,rfl,rfl,by decide +kernel,rfl,rfl,by decide,by decide,by decide⟩ C (dp3 U) rfl rfl rfl ⟨_,rfl,rfl⟩ rfl (λ_ _ _ _ _ _ _=>rfl))))))⟩
abbrev c31(V:V_):Prop:=c30 V/\Q_ V 121 "_law_moved" [ng,nG] (cI 120)
theorem d31(V:V_)(B:B_ V)(c:c30 V):c31 V:=⟨c,R_ V 1 [ng,nG,"_law_places"] B.hp B.D30 ac0 acw (λ_ _ J _ _ _ _ _ _ g j U=>(q9 (jk (E_ U (J_ 0) ja) (qg (za (zw (aa ja (cZ ap1 rfl B.bn ama (ko (dY U (qv 1) (J_ 0) (λ_ _=>rfl)) (dY U (qv 1) (J_ 0) (λ_ _=>rfl)))) (cZ akv rfl B.bi ac8 (ko (dY U (qv 1) (J_ 0) (λ_ _=>rfl)) (dY U (qv 1) (J_ 0) (λ_ _=>rfl)))))))) zo) (q9 (hV ["_law_x"] (i:=2) j rfl (Or.inl rfl) (EL (by rfl)) rfl (adh (xm (iT _ _ _) (qv 0) (xj qi) wo)) (kj yD (λ_ _ _ _=>Or.inl rfl) (λ_ _ _ _=>rfl)) (λ_ _ _ _=>eM (a7 (bD .int rfl B.bc rfl B.bh ad0 (qv 3)))) (λ_ _ _ _=>(dY U (qv 1) (qv 3) (λ_ _=>rfl)))) (qg (za (kh xU rfl B.bg hE (jt (qp xc (qp xc (ze (jt (J_ 0))) (qv 2)) (gJ ["_law_x"] (EL (by rfl)) rfl (adh (xm (iT _ _ _) (qv 0) (xj qi) wo)) (kj yD (λ_ _ _ _=>Or.inl rfl) (λ_ _ _ _=>rfl)) (λ_ _ _ _=>eM (a7 (bD .tuple rfl B.bc rfl B.bg hE (qv 3)))) (λ_ _ _ _=>(C_ J g (ko (qv 3) (qv 1))))))))))))) 120⟩
abbrev c32(V:V_):Prop:=c31 V/\Q_ V 122 nW [nh,ng,nj] (gU V.Pt)
theorem d32(V:V_)(B:B_ V)(c:c31 V):c32 V:=⟨c,M_ V 121 [nh,ng,nj,nG,"_law_made",nE,"_law_knot"] B.hp B.D31 vX λ_ _ _ _ _ _ _ g J U=>(q9 (S_ 3 J rc) (q9 (S_ 4 J (ze x9)) (q9 (w6 vb rfl (v9 (C_ c.1.2 g (ko (qv 0) (qv 2)))) (G_ 5 J) (q9 (bv U (qv 3) (qv 5) (L_ B.ba (qv 4))) (q9 (S_ 6 J (I_ (qv 0) (qv 5))) (qg (zj (zp (qv 4) (jt (fB (E_ U (L_ B.ba (qv 6)) qi) (qv 6) (zw (aa (J_ 6) (dY U (qv 3) (J_ 6) (λ_ _=>rfl)) (dY U (qv 3) (J_ 6) (λ_ _=>rfl)))))))))))) (qg (za (zw (ko (qv 4) (C_ c.2 g (ko (qv 1) (qv 3))))))))))⟩
abbrev c33(V:V_):Prop:=c32 V/\Q_ V 129 "_law_tree" ["_law_cells",nj,"_law_room"] (mo V.Pt)
theorem d33(V:V_)(B:B_ V)(c:c32 V):c33 V:=⟨c,M_ V 128 ["_law_cells",nj,"_law_room",nh,nJ,ny,nV,nu,nF,"_law_deed",nG] B.hp B.D32 ae0 λ_ _ _ _ _ _ _ J U g=>(q9 (S_ 3 U (ze x9)) (q9 (S_ 4 U (ze x9)) (q9 (w6 vb rfl (fY rfl B.bd (qv 0)) (aO rfl (zh (G_ 5 U) (zh (G_ 6 U) ke))) (q9 (xH (i:=7) (j:=8) rfl U rfl rfl (by decide) rfl rfl (ko (C_ c.1.1.1.1.1.1.1.1.1.1.1.2 J (aa (qv 6) (qv 5) qi)) (C_ c.1.1.1.1.1.1.1.1.1.1.1.2 J (aa (qv 6) (qv 5) qi))) rfl) (q9 (jk (x5 wD (qp xc (qp xc (L_ B.ba (qv 3)) (L_ B.ba (qv 4))) qi) (qv 2) (vq _)) (qg tw) zo) (q9 (S_ 9 U (qp xo (qv 7) qi)) (q9 (S_ 7 U (qp wx (qv 7) qi)) (qg (jk (bY (eJ (x5 vL (qv 9) qi (vq _)) (fK (E_ g (qv 4) (ze x9))))) (q9 (zj (zp (qv 3) (jt (zw (ko ja (C_ c.1.1.1.1.1.1.1.1.1.1.2 J (ko (qv 1) (qp xo (qv 8) qi)))))))) (q9 (zj (zp (qv 3) (jt (zw (ko ja (C_ c.1.1.1.1.1.1.1.1.1.1.2 J (ko (qv 1) (qp xo (qv 8) qi)))))))) (bO (jk (E_ g (qp xo (qv 7) qi) qi) (qg (zj (zp (qv 3) (jt (cQ (qv 3) (jt (qp bQ (L_ B.ba (qv 3)) qi))))))) zo) (q9 (S_ 10 U (qp bQ (L_ B.ba (qv 3)) qi)) (qg (zj (zp (qv 4) (jt (ze (ko (zw (aa ja (qv 10) (qp xc (qv 10) qi))) (ze (ko (qv 10) (qp xc (qv 10) qi))))))))))))) (qg (jk (x5 vL (qv 9) qi (vq _)) (qg (zj (C_ c.1.1.1.1.2 J (kz (qv 3) (aa (I_ (qv 4) (qp xo (qv 8) (L_ B.ba (qv 4)))) (qv 7) (qp wx (qv 8) qi)))))) (qg (jk (bY (i3 (x5 vL (qv 9) qi (vq _)) (f6 (x5 wD (L_ B.ba (qv 4)) qi (vq _))))) (qg (zj (C_ c.1.1.1.1.1.2 J (kz (qv 3) (aa (qv 4) (qv 7) (qv 8)))))) (qg (zj (C_ c.1.1.1.2 J (kz (qv 3) (aa (qv 4) (qv 7) (qv 8))))))))))))))))) (bO (jk (E_ g (qv 4) (ze x9)) (q9 (zj (zp (qv 3) (jt (zw (ko ja (C_ c.1.1.1.1.1.1.1.1.1.1.2 J (ko (qv 1) qi))))))) (q9 (zj (zp (qv 3) (jt (zw (ko ja (C_ c.1.1.1.1.1.1.1.1.1.1.2 J (ko (qv 1) qi))))))) (qg (zj (zp (qv 4) (jt (ze (ko (zw (aa ja qi qi)) (ze (ko qi qi)))))))))) zo) (q9 (bV vb (x5 wD (L_ B.ba (qv 4)) qi (vq _)) (qg (zj (C_ c.1.1.1.1.1.2 J (kz (qv 3) (aa (qv 4) (qp xc (qp wx (qv 1) qi) (L_ B.ba (qv 4))) (qp wx (qv 1) qi))))))) (qg (za (C_ c.2 J (aa (qv 3) (I_ (J_ 4) qi) (qv 1))))))))))⟩
abbrev c34(V:V_):Prop:=c33 V/\Q_ V 1 "_law_arms" [ng] (vf)
theorem d34(V:V_)(B:B_ V)(c:c33 V):c34 V:=⟨c,M_ V 0 [ng] B.hp B.D33 ad9 λ_ _ _ _ _ _ _ U g J=>(q9 (jk (E_ J (J_ 0) ja) (qg (za (ze (ko (J_ 0) (J_ 0))))) zo) (q9 (jk (E_ J (J_ 0) ja) (qg (za (ze x9))) zo) (qg (za (kh aD rfl B.bb vt (jt (xm (iT _ _ _) (qv 0) (xj qi) wo)))))))⟩
abbrev c35(V:V_):Prop:=c34 V/\Q_ V 2 nS [ng] (sE)
theorem d35(V:V_)(B:B_ V)(c:c34 V):c35 V:=⟨c,M_ V 1 [ng,"_law_links","_law_cuts","_law_told","_law_stack",nu] B.hp B.D34 ahw λ_ _ _ _ _ _ _ g U J=>(q9 (fM (zw (kz (ze x9) (aa (ze x9) rc (ze (jt (qv 0)))))) (aO rfl (zh (G_ 1 U) (zh (G_ 2 U) (zh (G_ 3 U) (zh (G_ 4 U) ke)))))) (q9 (bV vb (N_ J (qv 4) (ze x9)) (q9 (S_ 5 U (rV (qv 4))) (bO (jk (E_ J (J_ 5) ja) (q9 (zj (zp (qv 1) (jt (zw (ko (J_ 5) (J_ 5)))))) (q9 (bv J (qv 3) (J_ 5) fz) (qg (bv J (qv 3) (J_ 5) fz)))) (qg (jk (E_ J (J_ 5) ja) (qg (zj (zp (qv 2) (jt (zw (ko (J_ 5) (J_ 5))))))) (qg (bv J (qv 3) (J_ 5) fz))))) (qg (zj (ac (qv 4) (jt (C_ c.2 g (jt (qv 5)))))))))) (qg (za (zw (aa (qv 1) (qv 2) (qv 3)))))))⟩
abbrev c36(V:V_):Prop:=c35 V/\Q_ V 2 "_law_ends" [nh,ng] (iR)
theorem d36(V:V_)(B:B_ V)(c:c35 V):c36 V:=⟨c,M_ V 1 [nh,ng,"_law_told","_law_taken","_law_stack",nu] B.hp B.D35 afy λ_ _ _ _ _ _ _ g U J=>(q9 (fM (zw (aa (ze x9) rc (ze (jt (qv 1))))) (aO rfl (zh (G_ 2 U) (zh (hU (i:=3) U rfl (Or.inr rfl)) (zh (G_ 4 U) ke))))) (q9 (bV vb (N_ J (qv 4) (ze x9)) (q9 (S_ 5 U (rV (qv 4))) (bO (jk (E_ J (J_ 5) ja) (qg (zj (ac (qv 2) (jt (ze (ko (J_ 5) (J_ 5))))))) (qg (jk (E_ J (J_ 5) ja) (q9 (bv J (qv 3) (J_ 5) fz) (qg (bv J (qv 3) (J_ 5) fz))) (q9 (zj (zp (qv 2) (jt (J_ 5)))) (q9 (bv J (qv 3) (I_ (I_ (qv 0) (J_ 5)) qi) fz) (qg (bv J (qv 3) (I_ (I_ (qv 0) (J_ 5)) qi) fz))))))) (qg (zj (ac (qv 4) (jt (C_ c.1.2 g (jt (qv 5)))))))))) (qg (za (gJ [nE] (EL (by rfl)) rfl (v9 (qv 2)) (kj yD (λ_ _ _ _=>Or.inl rfl) (λ_ _ _ _=>rfl)) (λ_ _ _ _=>eM (x5 (ao3 J) (qv 6) (qv 3) (by with_unfolding_all rfl))) (λ_ _ _ _=>(qv 6)))))))⟩
abbrev c37(V:V_):Prop:=c36 V/\Q_ V 1 "_law_needs" [nh,ng,nv] (ip)
theorem d37(V:V_)(B:B_ V)(c:c36 V):c37 V:=⟨c,M_ V 0 [nh,ng,nv] B.hp B.D36 ab9 λ_ _ _ _ _ _ _ U g J=>(q9 (jk (E_ J (J_ 1) ja) (qg (za (ze (jt (I_ (qv 1) (qp xc qi (qv 2))))))) zo) (q9 (jk (E_ J (J_ 1) ja) (qg (za (ze (jt (I_ (I_ (qv 0) (J_ 1)) (qp xc qi (qv 2))))))) zo) (qg (za (kh aD rfl B.bb vt (jt (xm (iT _ _ _) (I_ (qv 0) (J_ 1)) (xj qi) wo)))))))⟩
abbrev c38(V:V_):Prop:=c37 V/\Q_ V 3 "_law_goes" [nh,ng,nv] (iI)
theorem d38(V:V_)(B:B_ V)(c:c37 V):c38 V:=⟨c,M_ V 2 [nh,ng,nv,"_law_inner","_law_needs_here",ny,"_law_below",nQ] B.hp B.D37 aeo λ_ _ _ _ _ _ _ J U g=>(q9 (jk (bY (eJ (x5 vL (qv 2) qi (vq _)) (fK (x5 ap7 (qv 2) (L_ B.ba (C_ c.1.1.1.2 J (jt (qv 1)))) (vq _))))) (qg (za ax)) zo) (q9 (S_ 3 U (I_ (C_ c.1.1.1.2 J (jt (qv 1))) (qv 2))) (q9 (S_ 4 U (C_ c.2 J (aa (qv 0) (qv 1) (qv 2)))) (q9 (jk (bY (i3 (N_ g (J_ 3) ja) (f6 (x5 (afz _ _ _) (J_ 3) (qv 4) (by with_unfolding_all rfl))))) (qg (za ax)) zo) (q9 (w6 vb rfl (fY rfl B.bd (C_ c.1.1.1.2 J (jt (qv 3)))) (aO rfl (zh (G_ 5 U) (zh (G_ 6 U) ke))) (q9 (bP (i:=7) U rfl (Or.inr rfl) (C_ c.1.2 J (ko (qv 0) (qv 6)))) (qg (jk (E_ g (gJ [nE] (EL (by rfl)) rfl (v9 (qv 4)) (kj yD (λ_ _ _ _=>Or.inl rfl) (λ_ _ _ _=>rfl)) (λ_ _ _ _=>eM (x5 (vD _ _ _) (qv 8) (qv 7) (by with_unfolding_all rfl))) (λ_ _ _ _=>(qv 8))) (ze x9)) (qg (za (qv 5))) zo)))) (qg (za ax)))))))⟩
abbrev c39(V:V_):Prop:=c38 V/\Q_ V 2 nX [ng,nv,nw] (bJ)
theorem d39(V:V_)(B:B_ V)(c:c38 V):c39 V:=⟨c,M_ V 1 [ng,nv,nw,nL,"_law_kept"] B.hp B.D38 aef λ_ _ _ _ _ _ _ U J g=>(q9 (S_ 3 J (C_ c.1.1.1.1.2 U (jt (qv 0)))) (q9 (S_ 4 J (qp bQ (L_ B.ba (qv 0)) (L_ B.ba (qv 3)))) (q9 (yg (qv 3) (qv 1) (qv 2)) (qg (za (qp xE (xm (iT _ _ _) (qv 0) wo (xj (qv 4))) (kh xU rfl B.bg hE (jt (qv 3)))))))))⟩
abbrev c40(V:V_):Prop:=c39 V/\Q_ V 3 "_law_about" [ng,nv,ny] (f7)
theorem d40(V:V_)(B:B_ V)(c:c39 V):c40 V:=⟨c,M_ V 2 [ng,nv,ny,"_law_inner","_law_below"] B.hp B.D39 aak λ_ _ _ _ _ _ _ J U g=>(q9 (S_ 3 U (I_ (C_ c.1.1.1.1.1.2 J (jt (qv 0))) (qv 1))) (q9 (S_ 4 U (I_ (C_ c.1.1.1.1.1.2 J (jt (qv 3))) (qv 2))) (qg (za (C_ c.2 J (aa (qv 3) (qv 2) (C_ c.2 J (aa (qv 0) (qv 1) (qv 4)))))))))⟩
abbrev c41(V:V_):Prop:=c40 V/\Q_ V 2 "_law_at" [ng,nI] (qO)
theorem d41(V:V_)(B:B_ V)(c:c40 V):c41 V:=⟨c,M_ V 1 [ng,nI,"_law_a"] B.hp B.D40 am0 λ_ _ _ _ _ _ _ U J g=>(q9 (w6 vb rfl (v9 (qv 1)) (G_ 2 J) (qg (S_ 0 J (I_ (C_ c.1.1.1.1.1.1.2 U (jt (qv 0))) (qv 2))))) (qg (za (qv 0))))⟩
abbrev c42(V:V_):Prop:=c41 V/\Q_ V 127 "_law_put_at" [ng,nI,nw] (bL 124)
theorem d42(V:V_)(B:B_ V)(c:c41 V):c42 V:=⟨c,R_ V 3 [ng,nI,nw] B.hp B.D41 abl aa4 (λ_ _ J _ _ _ _ _ _ U j g=>(q9 (jk (E_ g (qv 1) (ze x9)) (qg (za (qv 2))) zo) (qg (za (C_ c.1.1.2 U (aa (qv 0) (J_ 1) (C_ J U (aa (I_ (C_ c.1.1.1.1.1.1.1.2 U (jt (qv 0))) (J_ 1)) (xm (kE _ _ _) (qv 1) (xj qi) wo) (qv 2))))))))) 124⟩
abbrev c43(V:V_):Prop:=c42 V/\Q_ V 2 nN [ng,nK] (mx)
theorem d43(V:V_)(B:B_ V)(c:c42 V):c43 V:=⟨c,M_ V 1 [ng,nK,nI,nL] B.hp B.D42 afr λ_ _ _ _ _ _ _ U J g=>(q9 (S_ 2 J (ze x9)) (q9 (S_ 3 J (C_ c.1.1.1.1.1.1.1.1.2 U (jt (qv 0)))) (q9 (bV vb (bY (i3 (N_ g (qv 3) (ze x9)) (f6 (x5 wD (qp xo (qv 1) qi) qi (vq _))))) (q9 (zj (zp (qv 2) (jt (qp xo (qp wx (qv 1) qi) (L_ B.ba (qv 3)))))) (q9 (S_ 3 J (C_ c.1.1.1.1.1.1.1.1.2 U (jt (I_ (qv 3) (I_ (qv 2) (mC oN qi)))))) (qg (S_ 1 J (qp xo (qp ft (qv 1) qi) qi)))))) (qg (za (qv 2))))))⟩
abbrev c44(V:V_):Prop:=c43 V/\Q_ V 128 nU [nh,ng,nR] (m5)
theorem d44(V:V_)(B:B_ V)(c:c43 V):c44 V:=⟨c,M_ V 127 [nh,ng,nR,"_law_pair",nI,nv,nu,"_law_a",nL,"_law_s",ny] B.hp B.D43 acb λ_ _ _ _ _ _ _ U J g=>(q9 (jk (fF (a7 (bD .list rfl B.bc rfl B.bb vt (qv 2)))) (qg (za ax)) zo) (q9 (w6 vb rfl (v9 (qv 2)) (G_ 3 J) (q9 (jk (bY (eJ (fF (a7 (bD .tuple rfl B.bc rfl B.bg hE (qv 3)))) (eJ (N_ g (L_ B.ba (qv 3)) qi) (fK (fF (a7 (bD .list rfl B.bc rfl B.bb vt (J_ 3)))))))) (qg (za ax)) zo) (q9 (fM (qv 3) (aO rfl (zh (G_ 4 J) (zh (G_ 5 J) ke)))) (q9 (S_ 6 J (qv 1)) (q9 (w6 vb rfl (v9 (qp xc (qv 4) (ze (jt (qv 5))))) (G_ 7 J) (q9 (S_ 8 J (C_ c.1.1.1.1.1.1.1.1.1.2 U (jt (qv 6)))) (q9 (jk (bY (eJ (fF (a7 (bD .int rfl B.bc rfl B.bh ad0 (qv 7)))) (eJ (a7 (bD .bool rfl B.bc rfl B.br agq (qv 7))) (eJ (x5 vL (qv 7) qi (vq _)) (fK (x5 ap7 (qv 7) (L_ B.ba (qv 8)) (vq _))))))) (qg (za ax)) zo) (qg (S_ 6 J (I_ (qv 8) (qv 7))))))) (q9 (S_ 9 J (C_ c.1.1.2 U (ko (qv 1) (qv 4)))) (q9 (S_ 10 J (C_ c.1.1.1.1.1.2 U (aa (qv 0) (qv 9) (qv 5)))) (q9 (jk (gR (qv 10)) (qg (za ax)) zo) (qg (S_ 1 J (C_ c.1.2 U (aa (qv 1) (qv 4) (C_ c.1.1.1.2 U (aa (qv 9) (qv 5) (qv 10))))))))))))))) (qg (za (qv 1)))))⟩
abbrev c45(V:V_):Prop:=c44 V/\Q_ V 2 "_law_rules" [ng] (iy)
theorem d45(V:V_)(B:B_ V)(c:c44 V):c45 V:=⟨c,M_ V 1 [ng,"_law_count","_law_stack"] B.hp B.D44 yu λ_ _ _ _ _ _ _ U J g=>(q9 (xH (i:=1) (j:=2) rfl J rfl rfl (by decide) rfl rfl (ko qi (ze (jt (qv 0)))) rfl) (q9 (bV vb (N_ g (qv 2) (ze x9)) (q9 (S_ 1 J (qp xc (qv 1) qi)) (qg (zj (ac (qv 2) (jt (C_ c.1.1.1.1.1.1.1.1.1.1.2 U (jt (rV (qv 2)))))))))) (qg (za (qv 1)))))⟩
abbrev c46(V:V_):Prop:=c45 V/\Q_ V 129 "_law_led" [nh,ng,nw] (sF)
theorem d46(V:V_)(B:B_ V)(c:c45 V):c46 V:=⟨c,M_ V 128 [nh,ng,nw,"_law_handed",nR,"_law_count"] B.hp B.D45 ahh λ_ _ _ _ _ _ _ J U g=>(q9 (S_ 3 U (ze (ko (zw (ko (kh aD rfl B.bb vt (jt (qv 0))) (qv 1))) (zw (ko (kh aD rfl B.bb vt (jt (qv 0))) (qv 2)))))) (q9 (S_ 4 U (C_ c.1.1.1.1.1.1.1.1.1.1.1.1.1.1.1.1.1.1.1.1.1.1.1.1.1.2 J (ko (J_ 3) (J_ 3)))) (q9 (S_ 5 U (C_ c.2 J (jt (qv 1)))) (q9 (jk (bY (eJ (fF (a7 (bD .list rfl B.bc rfl B.bb vt (qv 4)))) (fK (x5 wD (L_ B.ba (qv 4)) (qp wx (qp ft (qv 5) (qp bQ (qv 5) qi)) qi) (vq _))))) (qg (za fz)) zo) (q9 (jk (bY (eJ (N_ g (I_ (J_ 3) qi) (qv 0)) (fK (N_ g (I_ (J_ 3) qi) (qv 0))))) (qg (za fz)) zo) (qg (za (fW (uo _ _ _ g) (C_ c.1.2 J (aa (qv 0) (qv 1) (qv 4))) (qv 2) (vq _)))))))))⟩
abbrev c47(V:V_):Prop:=c46 V/\Q_ V 2 "_law_within" [ng,nK] (jM)
theorem d47(V:V_)(B:B_ V)(c:c46 V):c47 V:=⟨c,M_ V 1 [ng,nK,nL] B.hp B.D46 zL λ_ _ _ _ _ _ _ U J g=>(q9 (bV vb (bY (i3 (N_ g (C_ c.1.1.1.1.1.1.1.1.1.1.1.1.2 U (jt (qv 0))) (ze x9)) (f6 (x5 wD (qp xo (qv 1) qi) qi (vq _))))) (q9 (S_ 2 J (C_ c.1.1.1.1.1.1.1.1.1.1.1.1.2 U (jt (qv 0)))) (q9 (S_ 0 J (I_ (qv 2) (qp xo (qp wx (qv 1) qi) (L_ B.ba (qv 2))))) (qg (S_ 1 J (qp xo (qp ft (qv 1) qi) qi)))))) (qg (za (qv 0))))⟩
abbrev c48(V:V_):Prop:=c47 V/\Q_ V 3 "_law_part" [nh,ng,nj] (lz)
theorem d48(V:V_)(B:B_ V)(c:c47 V):c48 V:=⟨c,M_ V 2 [nh,ng,nj,"_law_told"] B.hp B.D47 adb λ_ _ _ _ _ _ _ J U g=>(q9 (jk (N_ g (qp xo (qp wx (qv 2) qi) qi) qi) (qg (za (zw (ko (qv 0) (qv 1))))) zo) (q9 (S_ 1 U (C_ c.2 J (ko (qv 1) (qp xo (qp ft (qv 2) qi) qi)))) (q9 (bP (i:=3) U rfl (Or.inr rfl) (I_ (C_ c.1.1.1.1.1.1.1.1.1.1.1.1.2 J (jt (qv 1))) qi)) (qg (za (zw (ko (gJ [nE] (EL (by rfl)) rfl (jF rfl B.bf (jt (L_ B.ba (qv 0)))) (kj yD (λ_ _ _ _=>Or.inl rfl) (λ_ _ _ _=>rfl)) (λ_ _ _ _=>jA) (λ_ _ _ _=>(fB (x5 (ap3 g) (qv 4) (qv 3) (by with_unfolding_all rfl)) (I_ (qv 0) (qv 4)) ax))) (qv 1))))))))⟩
theorem dL(V:V_)(B:B_ V)(c:c48 V){f:Addr}{fd:FuncData}(F:Fun V.K "law" "law" tG f fd):Fn3 V.P V.w V.K V.mg V.base 130 f fd [nM] (rT V.Pt lamQ):=
 W_ V 129 [nM,nj,nh,ng,nw,"_law_j",nV,nK,nI,"_law_s",ny,nR] F ac7 λ_ _ _ _ _ _ U J g=>(q9 (S_ 1 J (qp xo (I_ (qp (ami _ _ _) (qv 0) (ze (jt qi))) qi) (qp aq2 qi qi))) (q9 (fM (C_ c.1.1.1.1.1.1.1.1.1.1.1.1.1.1.1.2 U (aa (xm (kE _ _ _) (qv 0) (xj qi) wo) (qv 1) qi)) (aO rfl (zh (G_ 2 J) (zh (G_ 3 J) ke)))) (q9 (fM (C_ c.2 U (aa (qv 2) (qv 3) (qv 1))) (aO rfl (zh (G_ 2 J) (zh (G_ 3 J) ke)))) (q9 (S_ 4 J (qv 3)) (q9 (w6 vb rfl (fY rfl B.bd (qp xc (xm (kE _ _ _) (qv 0) (xj qi) (xj qi)) (xm (kE _ _ _) (qv 0) (xj qi) (xj qi)))) (aO rfl (zh (G_ 5 J) (zh (G_ 6 J) ke))) (q9 (S_ 7 J (C_ c.1.1.1.1.1.1.1.1.1.1.1.1.1.1.1.1.1.1.1.1.1.1.1.1.1.1.1.2 U (aa (qv 6) (qv 5) qi))) (q9 (S_ 8 J (C_ c.1.1.1.1.1.2 U (ko (qv 4) (qp xo (qp ft (qv 7) qi) qi)))) (q9 (S_ 9 J (C_ c.1.1.1.1.1.1.1.2 U (ko (qv 4) (qv 8)))) (q9 (S_ 10 J (C_ c.1.1.1.1.1.1.1.1.1.1.2 U (aa (qv 2) (qv 9) (qp xo (qv 7) qi)))) (qg (jk (ahr (qv 10)) (qg (S_ 4 J (C_ c.1.1.1.1.1.1.2 U (aa (qv 4) (qv 8) (C_ c.1.1.1.1.1.1.1.1.2 U (aa (qv 9) (qp xo (qv 7) qi) (qv 10))))))) zo))))))) (q9 (jk (bY (eJ (fF (a7 (C_ c.1.1.2 U (aa (qv 2) (qv 3) (qv 4))))) (fK (fF (a7 (C_ c.1.1.2 U (aa (qv 2) (qv 4) (qv 3)))))))) (qg (za fz)) zo) (q9 (S_ 11 J (C_ c.1.1.1.1.1.1.1.1.1.1.1.1.1.1.1.1.1.1.1.1.1.1.1.1.1.1.1.1.2 U (ko (zw (ko (kh aD rfl B.bb vt (jt (qv 2))) (qv 4))) (zw (ko (kh aD rfl B.bb vt (jt (qv 2))) (qv 4)))))) (qg (za (afn (bD .list rfl B.bc rfl B.bb vt (qv 11)) (aez (fW (uo _ _ _ g) (qv 11) (ze x9) (vq _)))))))))))))
theorem all_mk{l:PySem.W.OpenLaw}{w:World}{K:Ah}{h:Heap}{mg:Str->Option Value}{fa:Addr}{U:Addr}{a2:Option Addr}{a3:Nat}{a4:Array (Option Value)}{a0 a1:Tok}{J:Addr}{T:Nat}{g j o p r t C I:Tok}{Ca:Addr}{Pt:Addr}(X:K.In h)(G:h.Ns mainGlobals mg)(a5:mg "law"=some (.ref fa))
 (D0:z9 K "is_leaf" ph)
 (D1:z9 K "parts_of" mK)
 (D2:z9 K "places_of" kD)
 (D3:z9 K "arms_of" pI)
 (D4:z9 K "rules_in" o4)
 (D5:z9 K "told_by" pN)
 (D6:z9 K "taken_by" oH)
 (D7:z9 K "pairs_by" oI)
 (D8:z9 K "web_of" sm)
 (D9:z9 K "with_arm" oD)
 (D10:z9 K "all_told" oZ)
 (D11:z9 K "arm_that_tells" cj)
 (D12:z9 K "turned_out" iQ)
 (D13:z9 K "arm_at" uc)
 (D14:z9 K "rules_along" gE)
 (D15:z9 K "exchanged" kK)
 (D16:z9 K "rules_by_way" fG)
 (D17:z9 K "is_same_rule" dz)
 (D18:z9 K "steps_out" lC)
 (D19:z9 K "way_between" fu)
 (D20:z9 K "_law_mix" oF)
 (D21:z9 K "_law_name" kY)
 (D22:z9 K "_law_word" kC)
 (D23:z9 K "_law_flip" jY)
 (D24:z9 K "_law_weight" fw)
 (D25:z9 K "_law_mirror" fk)
 (D26:z9 K "_law_join" kR)
 (D27:z9 K "_law_fold" lB)
 (D28:z9 K "_law_cut" mE)
 (D29:DefInT K "_law_order" s__law_order Pt)
 (D30:z9 K "_law_moved" gm)
 (D31:z9 K nW fE)
 (D32:z9 K "_law_tree" kZ)
 (D33:z9 K "_law_arms" jQ)
 (D34:z9 K nS dh)
 (D35:z9 K "_law_ends" kU)
 (D36:z9 K "_law_needs" gy)
 (D37:z9 K "_law_goes" kM)
 (D38:z9 K nX eF)
 (D39:z9 K "_law_about" iF)
 (D40:z9 K "_law_at" qB)
 (D41:z9 K "_law_put_at" gD)
 (D42:z9 K nN cX)
 (D43:z9 K nU dq)
 (D44:z9 K "_law_rules" hJ)
 (D45:z9 K "_law_led" m6)
 (D46:z9 K "_law_within" gF)
 (D47:z9 K "_law_part" jS)
 (D48:z9 K "law" tG)
 (aLEAF_KINDS:PySem.W.nsIn K mainGlobals "LEAF_KINDS"=some (some (.ref U)))
 (lLEAF_KINDS:K.lookup U=some ⟨.type "tuple",a2,.seq #[.str "plain" a0,.str "turned" a1] a3,a4⟩)
 (aPLACE_COUNTS:PySem.W.nsIn K mainGlobals "PLACE_COUNTS"=some (some (.ref J)))
 (lPLACE_COUNTS:K.lookup J=some ⟨.type "dict",none,.dict ((([("link",g,2,r),("either",j,1,t),("both",o,1,C),("cut",p,2,I)]:List (Str×Tok×Int×Tok)).map (ahl w)).toArray) T,#[]⟩)
 (hPLACE_COUNTS:(J==sysModules)=false)
 (aCNoExchange:PySem.W.nsIn K mainGlobals "NoExchange"=some (some (.ref Ca)))
 (qCNoExchange:PySem.W.excIn K Ca [.type "ValueError",.type "Exception",.type "BaseException",.type "object"] "ValueError.__new__"=true)
 (zlist:PySem.W.nsIn K mainGlobals "list"=some none)
 (zsorted:PySem.W.nsIn K mainGlobals "sorted"=some none)
 (zenumerate:PySem.W.nsIn K mainGlobals "enumerate"=some none)
 (zall:PySem.W.nsIn K mainGlobals "all"=some none)
 (zlen:PySem.W.nsIn K mainGlobals "len"=some none)
 (zzip:PySem.W.nsIn K mainGlobals "zip"=some none)
 (zreversed:PySem.W.nsIn K mainGlobals "reversed"=some none)
 (zrange:PySem.W.nsIn K mainGlobals "range"=some none)
 (zmax:PySem.W.nsIn K mainGlobals "max"=some none)
 (zmin:PySem.W.nsIn K mainGlobals "min"=some none)
 (zisinstance:PySem.W.nsIn K mainGlobals "isinstance"=some none)
 (zint:PySem.W.nsIn K mainGlobals "int"=some none)
 (ztuple:PySem.W.nsIn K mainGlobals "tuple"=some none)
 (zbool:PySem.W.nsIn K mainGlobals "bool"=some none):
 ∃fd:FuncData,(∀(s:Shared) (v:Value),BindsTo s fd ⟨[v],[]⟩ [(nM,v)])/\∀base:Heap,K.In base->base.Ns mainGlobals mg->bU l.prog w K mg base CX0 130 fa fd [nM] (spTopT lamQ K Pt):=by
 obtain⟨fL,kV,ag,pm,an,al,ct,aL,FL⟩:=D48.ex;have e:=a5.symm.trans (Cv X G aL);cases e;refine⟨PySem.W.fnOf "law" "law" (vh tG) (jp tG) (z0 tG) .none kV ag pm an al ct,λs v=>.of_eq rfl,λbase _ _=>?_⟩;have B:B_ ⟨l.prog,w,K,mg,base,Pt,Ca⟩:=⟨⟨h,X,G⟩,Bb X G zlist,Bb X G zsorted,Bb X G zenumerate,Bb X G zall,Bb X G zlen,Bb X G zzip,Bb X G zreversed,Bb X G zrange,Bb X G zmax,Bb X G zmin,Bb X G zisinstance,Bb X G zint,Bb X G ztuple,Bb X G zbool,D0,D1,D2,D3,D4,D5,D6,D7,D8,D9,D10,D11,D12,D13,D14,D15,D16,D17,D18,D19,D20,D21,D22,D23,D24,D25,D26,D27,D28,D29,D30,D31,D32,D33,D34,D35,D36,D37,D38,D39,D40,D41,D42,D43,D44,D45,D46,D47,⟨U,Cv X G aLEAF_KINDS,λH=>⟨U,[V.str "plain",V.str "turned"],rfl,.inr ⟨_,_,_,lLEAF_KINDS,rfl,rfl,by show 2<=sizeLine;decide,.cons ⟨_,rfl⟩ (.cons ⟨_,rfl⟩ (.nil))⟩,⟨_,_,rfl,rfl,⟨_,_,rfl,rfl,rfl⟩⟩⟩⟩,⟨J,Cv X G aPLACE_COUNTS,ao9 _ lPLACE_COUNTS hPLACE_COUNTS (by show 4<=1000;decide) (by show List.Nodup ([Sum.inr "link",Sum.inr "either",Sum.inr "both",Sum.inr "cut"]:List jm);decide +kernel)⟩,Cv X G aCNoExchange,wU qCNoExchange⟩;exact bU.imp (dL _ B (d48 _ B (d47 _ B (d46 _ B (d45 _ B (d44 _ B (d43 _ B (d42 _ B (d41 _ B (d40 _ B (d39 _ B (d38 _ B (d37 _ B (d36 _ B (d35 _ B (d34 _ B (d33 _ B (d32 _ B (d31 _ B (d30 _ B (d29 _ B (d28 _ B (d27 _ B (d26 _ B (d25 _ B (d24 _ B (d23 _ B (d22 _ B (d21 _ B (d20 _ B (d19 _ B (d18 _ B (d17 _ B (d16 _ B (d15 _ B (d14 _ B (d13 _ B (d12 _ B (d11 _ B (d10 _ B (d9 _ B (d8 _ B (d7 _ B (d6 _ B (d5 _ B (d4 _ B (d3 _ B (d2 _ B (d1 _ B trivial)))))))))))))))))))))))))))))))))))))))))))))))) FL) λvs H Q E q=>aj8 q
theorem def_inT{K:Ah}{x:Str}{st:Stmt}{f Pt:Addr}{oc:Value}{od an:Option Addr}{ni:Array (Option Value)}{kV ir pm fx ct:Value}(a:PySem.W.nsIn K mainGlobals x=some (some (.ref f)))
 (l:K.lookup f=some ⟨oc,od,.func (PySem.W.fnOf x x (vh st) (jp st) (z0 st) .none kV ir pm an fx ct),ni⟩) (c:PySem.W.codeIn K fx x=true) (k:PySem.W.keepIn K (.ref f)=true) (C:aaj K fx Pt):DefInT K x st Pt:=
 ⟨f,kV,ir,pm,an,fx,ct,a,⟨⟨oc,od,kV,ir,pm,an,fx,ct,ni,rfl,l,c,C⟩,k⟩⟩
end K64
namespace H64
noncomputable section
open PySem PySem.W PySem.W.X L2 L3 PyProof.Rows
abbrev rr:=PySem.Challenge.rw_oncewise_k64_ways_walked
abbrev p:Program:=PySem.Challenge.pw_oncewise_k64_ways_walked
abbrev top:=K64.top
abbrev s(x:String):Str:=Str.ofString x
noncomputable abbrev S (x:String) (t:Tok):Value:=.str (Str.ofString x) t
noncomputable abbrev I (i:Int) (t:Tok):Value:=.int i t
noncomputable abbrev R (a:Addr):Value:=.ref a
abbrev E(P:Params)(k:String)(t:Tok)(v:Value):DictEntry:=⟨PyData.keyHash P (Str.ofString k),.str (Str.ofString k) t,v⟩
noncomputable abbrev O (c:Value) (d:Data):Obj:=⟨c,none,d,#[]⟩
abbrev FN(n q:String)(st:Stmt)(J kV ir pm:Value)(an:Option Addr)(cd ct:Value):FuncData:=fnOf (Str.ofString n) (Str.ofString q) (vh st) (jp st) (z0 st) J kV ir pm an cd ct
abbrev FG(n q:String)(st:Stmt):FuncData:={ fnOf (Str.ofString n) (Str.ofString q) (vh st) (jp st) (z0 st) .none .none .none .none none .none .none with globals:=0 }
abbrev tu(l:Array Value):Obj:=O (.type "tuple") (.seq l 0)
abbrev fo(f:FuncData):Obj:=O (.type "function") (.func f)
abbrev go(f:FuncData):Obj:=O .none (.func f)
abbrev co(n q:String)(t l a b c J v:Nat)(o:Bool)(m k:Nat)(x y z u:Value)(d:Nat):Obj:=O (.type "code") (.fields #[S n t,S q (t+1),S "/claim/cut.py" (t+2),I l 0,I a 0,I b 0,I c 0,I J 0,R v,.bool o,I m 0,R k,x,y,z,u,I d 0,I l 0,S "/claim/cut.py" (d+1)])
abbrev hY:Value:=S "law_oncewise_k64_ways_walked" 430
abbrev m1_:Value:=S "oncewise.exchanging" 325
abbrev m2_:Value:=S "oncewise.trees" 260
abbrev m3_:Value:=S "oncewise.sameness" 401
abbrev fX(n:String)(i:Nat)(m:Value)(r:Nat):Obj:=fo (FN n n (top i) .none .none .none m none (R r) .none)
abbrev gX(n:String)(i:Nat):Obj:=go (FG n n (top i))
abbrev cF(n:String)(t l a v d:Nat):Obj:=co n n t l a 0 0 3 v true 181 (v+1) .none (R (v+2)) (R (v+3)) (R (v+4)) d
abbrev cC(n:String)(t l v d:Nat):Obj:=co n n t l 0 0 0 0 v false 181 (v+1) .none .none .none .none d
abbrev cS(n:String)(a J k t v:Nat):Obj:=⟨.type "type",none,.cls (ClassData.mk (s n) [R 24] [R a,R 24,.type "ValueError",.type "Exception",.type "BaseException",.type "object"] J (s n) true [] [] false none false),#[some (R k),none,some (S n t),some (S n v),some (.builtin "ValueError.__new__"),some (.bool true)]⟩
abbrev dA(P:Params)(a b:Nat)(l:Int)(c d r e:Nat):Obj:=O (.type "dict") (.dict #[E P "__module__" a (S "oncewise.errors" 187),E P "__firstlineno__" b (I l c),E P "__static_attributes__" d (R r),E P "__doc__" e .none] 2)
abbrev dB(P:Params)(a q:Nat)(n:String)(J b:Nat)(l:Int)(c d r:Nat):Obj:=O (.type "dict") (.dict #[E P "__module__" a (S "oncewise.errors" 187),E P "__qualname__" q (S n J),E P "__firstlineno__" b (I l c),E P "__static_attributes__" d (R r)] 4)
abbrev fR(a b:Nat):Obj:=⟨.type "frame",none,.plain,#[some (R a),some (R 3),some (R b),none,some (S "oncewise.errors" 187),none,some (R 0)]⟩
abbrev bI(a:Nat):Obj:=O (.type "builtin_function_or_method") (.fields #[.builtin "object.__init_subclass__",R a])
abbrev sU(a:Nat):Obj:=O (.type "super") (.fields #[R a,R a,R a])
abbrev Ob:=Params->Obj
def ev{α:Type}:Bool->List α->List α
 |_,[]=>[]
 |true,x::r=>x::ev false r
 |false,_::r=>ev true r
def bt:Nat->List Obj->BT
 |0,_=>.nil
 |_,[]=>.nil
 |n+1,x::r=>.node x (bt n (ev true r)) (bt n (ev false r))
def env0:Env:={ scope:=p.main.scope,locals:=mainNs,globals:=mainNs,cells:=[],code:=.ref 13,frame:=some 14 }
abbrev cE:Code:=.body (behindTheImports p) env0
abbrev q0:Pos:=⟨0,0,0,0⟩
abbrev an:Option Value:=some (.ref 6)
abbrev Pc(n:Nat)(S J:World->OsState->SharedT)(l:List Stmt)(q U:Pos)(w:World):Prop:=(λos=>segRunT treeTable p w 11 an 1 n (S w os) (piecesOf l env0 cE q [topFrame q0]))=λos=>some (Flow.next,J w os,cE,U)
abbrev b0:=PySem.W.boot_o_0
abbrev b1:=PySem.W.boot_o_1
abbrev b2:=PySem.W.boot_o_2
abbrev b3:=PySem.W.boot_o_3
abbrev b4:=PySem.W.boot_o_4
abbrev b5:=PySem.W.boot_o_5
abbrev b6:=PySem.W.boot_o_6
abbrev b7:=PySem.W.boot_o_7
abbrev b8:=PySem.W.boot_o_8
abbrev b9:=PySem.W.boot_o_9
abbrev b10:=PySem.W.boot_o_10
def js:Ob:=λ_=>tu #[]
def w4:Ob:=λ_=>O .none (.fields #[])
def xac:Ob:=λ_=>cC "<module>" 182 1 11 185
def xad:Ob:=λ_=>⟨(.type "frame"),none,.plain,#[(some (R 13)),(some (R 3)),(some (R 3)),none,(some (S "__main__" 164)),none,(some (R 0))]⟩
def xaf:Ob:=λ_=>tu #[(.type "ValueError")]
def xag:Ob:=λP=>O (.type "dict") (.dict #[(E P "__module__" 196 (S "oncewise.errors" 187)),(E P "__firstlineno__" 200 (I 2 199)),(E P "__static_attributes__" 201 (R 22)),(E P "__weakref__" 203 (R 25)),(E P "__doc__" 204 .none)] 3)
def xah:Ob:=λ_=>bI 24
def xai:Ob:=λP=>dB P 196 198 "OnceError" 197 200 2 199 201 22
def xaj:Ob:=λ_=>O (.type "getset_descriptor") (.fields #[S "__weakref__" 202,R 24,(.builtin "ExceptionGroup.__weakref__"),.none])
def xak:Ob:=λ_=>fR 20 17
def xal:Ob:=λ_=>O (.type "builtin_function_or_method") (.fields #[(.builtin "type.__prepare__"),(.type "type")])
def xao:Ob:=λ_=>cC "OnceError" 191 2 18 194
def xap:Ob:=λ_=>sU 24
def xar:Ob:=λ_=>bI 37
def xas:Ob:=λ_=>cC "NoExchange" 209 4 31 212
def xat:Ob:=λ_=>cS "NoExchange" 37 36 28 207 215
def xaw:Ob:=λP=>dA P 214 218 4 217 219 35 220
def xax:Ob:=λ_=>tu #[R 24]
def xay:Ob:=λ_=>fR 33 30
def xaz:Ob:=λ_=>sU 37
def xa0:Ob:=λP=>dB P 214 216 "NoExchange" 215 218 4 217 219 35
def xa2:Ob:=λ_=>tu #[S "word" 247]
def xa3:Ob:=λP=>O (.type "dict") (.dict #[(E P "link" 262 (I 2 263)),(E P "either" 264 (I 1 265)),(E P "both" 266 (I 1 267)),(E P "cut" 268 (I 2 269))] 4)
def xa4:Ob:=λ_=>bI 49
def xa5:Ob:=λ_=>fo (FN "is_leaf" "is_leaf" (top 6) .none .none .none (S "oncewise.words" 239) none (R 58) .none)
def xa6:Ob:=λ_=>cF "parts_of" 253 13 1 60 257
def xa7:Ob:=λ_=>cS "OtherWeb" 49 48 40 223 231
def xa8:Ob:=λ_=>gX "is_leaf" 6
def xa9:Ob:=λ_=>cC "OtherWeb" 225 6 43 228
def xba:Ob:=λ_=>gX "parts_of" 8
def xbb:Ob:=λP=>dA P 230 234 6 233 235 47 236
def xbc:Ob:=λ_=>⟨(.type "type"),none,(.cls (ClassData.mk (s "OnceError") [(.type "ValueError")] [R 24,(.type "ValueError"),(.type "Exception"),(.type "BaseException"),(.type "object")] 23 (s "OnceError") true [] [R 37,R 49] false none false)),#[(some (R 15)),none,(some (S "OnceError" 189)),(some (S "OnceError" 197)),(some (.builtin "ValueError.__new__")),(some (.bool true))]⟩
def xbe:Ob:=λ_=>tu #[S "plain" 241,S "turned" 242]
def xbf:Ob:=λ_=>fo (FN "parts_of" "parts_of" (top 8) .none .none .none (S "oncewise.webs" 251) none (R 65) .none)
def xbg:Ob:=λ_=>sU 49
def xbh:Ob:=λP=>dB P 230 232 "OtherWeb" 231 234 6 233 235 47
def xbi:Ob:=λ_=>cF "is_leaf" 244 10 1 53 248
def xbj:Ob:=λ_=>fR 45 42
def xbk:Ob:=λ_=>tu #[S "knot" 256]
def xbm:Ob:=λ_=>fX "told_by" 14 m2_ 94
def xbn:Ob:=λ_=>gX "arms_of" 12
def xbo:Ob:=λ_=>gX "arm_at" 23
def xbp:Ob:=λ_=>cF "web_of" 317 41 1 106 322
def xbq:Ob:=λ_=>gX "pairs_by" 16
def xbr:Ob:=λ_=>cF "rules_in" 289 23 1 82 295
def xbs:Ob:=λ_=>cF "rules_along" 372 70 2 146 379
def xbt:Ob:=λ_=>fX "with_arm" 19 m1_ 118
def xbu:Ob:=λ_=>fX "arm_that_tells" 21 m1_ 130
def xbv:Ob:=λ_=>co "taken_by" "taken_by" 305 30 2 0 0 3 96 true 181 97 .none .none .none (R 98) 308
def xbw:Ob:=λ_=>tu #[S "rule" 330,S "number" 331,S "arm" 332,S "at" 333]
def xbx:Ob:=λ_=>tu #[S "rule" 301]
def xby:Ob:=λ_=>gX "arm_that_tells" 21
def xbz:Ob:=λ_=>fX "arms_of" 12 m2_ 80
def xb0:Ob:=λ_=>fX "arm_at" 23 m1_ 144
def xb1:Ob:=λ_=>cF "places_of" 275 19 1 68 279
def xb2:Ob:=λ_=>cF "turned_out" 352 59 3 132 360
def xb3:Ob:=λ_=>fX "pairs_by" 16 m2_ 104
def xb4:Ob:=λ_=>gX "with_arm" 19
def xb5:Ob:=λ_=>tu #[S "rule" 285]
def xb6:Ob:=λ_=>tu #[S "rule" 366,S "number" 367,S "arms" 368]
def xb7:Ob:=λ_=>gX "told_by" 14
def xb8:Ob:=λ_=>cF "all_told" 337 48 1 120 343
def xb9:Ob:=λ_=>cF "arms_of" 282 21 1 75 286
def xca:Ob:=λ_=>cF "arm_at" 363 65 2 139 369
def xcb:Ob:=λ_=>fX "web_of" 17 m2_ 111
def xcc:Ob:=λ_=>gX "places_of" 11
def xcd:Ob:=λ_=>gX "turned_out" 22
def xce:Ob:=λ_=>co "pairs_by" "pairs_by" 311 39 2 0 0 3 101 true 181 102 .none .none .none (R 103) 314
def xcf:Ob:=λ_=>fX "rules_in" 13 m2_ 87
def xcg:Ob:=λ_=>fX "rules_along" 24 m1_ 151
def xci:Ob:=λ_=>fX "taken_by" 15 m2_ 99
def xcj:Ob:=λ_=>tu #[S "rule" 292,S "rules" 293,S "arm" 294]
def xck:Ob:=λ_=>tu #[S "rule" 375,S "way" 376,S "along" 377,S "number" 378]
def xcl:Ob:=λ_=>tu #[S "tree" 320,S "rules" 321]
def xcm:Ob:=λ_=>gX "all_told" 20
def xcn:Ob:=λ_=>co "arm_that_tells" "arm_that_tells" 346 53 2 0 0 3 127 true 181 128 .none .none .none (R 129) 349
def xco:Ob:=λ_=>gX "taken_by" 15
def xcp:Ob:=λ_=>fX "places_of" 11 m2_ 73
def xcq:Ob:=λ_=>fX "turned_out" 22 m1_ 137
def xcr:Ob:=λ_=>tu #[S "rule" 340,S "places" 341,S "inner" 342]
def xcs:Ob:=λ_=>tu #[S "rule" 278]
def xct:Ob:=λ_=>tu #[S "knots" 355,S "rule" 356,S "arm" 357,S "inner" 358,S "number" 359]
def xcu:Ob:=λ_=>gX "rules_in" 13
def xcv:Ob:=λ_=>gX "rules_along" 24
def xcw:Ob:=λ_=>cF "with_arm" 327 45 3 113 334
def xcx:Ob:=λ_=>gX "web_of" 17
def xcy:Ob:=λ_=>cF "told_by" 298 28 1 89 302
def xcz:Ob:=λ_=>fX "all_told" 20 m1_ 125
def xc1:Ob:=λ_=>fX "exchanged" 25 m1_ 158
def xc2:Ob:=λ_=>fX "_law_mirror" 37 hY 222
def xc4:Ob:=λ_=>co "steps_out" "steps_out" 411 97 3 0 0 3 172 true 181 173 .none .none .none (R 174) 414
def xc6:Ob:=λ_=>cF "_law_weight" 464 133 1 210 468
def xc7:Ob:=λ_=>fX "way_between" 30 m3_ 182
def xc8:Ob:=λ_=>fX "_law_name" 33 hY 194
def xc9:Ob:=λ_=>co "rules_by_way" "rules_by_way" 395 84 1 0 0 3 160 true 181 161 .none .none .none (R 162) 398
def xda:Ob:=λ_=>co "_law_join" "_law_join" 485 150 4 0 0 3 224 true 181 225 .none .none .none (R 226) 488
def xdc:Ob:=λ_=>fX "is_same_rule" 28 m3_ 170
def xdg:Ob:=λ_=>fX "_law_flip" 35 hY 208
def xdh:Ob:=λ_=>cF "_law_word" 447 123 2 196 453
def xdn:Ob:=λ_=>cF "_law_mix" 432 112 3 184 438
def xdo:Ob:=λ_=>cF "_law_flip" 456 128 1 203 461
def xdp:Ob:=λ_=>fX "steps_out" 29 m3_ 175
def xdr:Ob:=λ_=>fX "_law_weight" 36 hY 215
def xdt:Ob:=λ_=>fX "rules_by_way" 26 m1_ 163
def xdu:Ob:=λ_=>fX "_law_join" 38 hY 227
def xdx:Ob:=λ_=>co "_law_name" "_law_name" 441 114 2 0 0 3 191 true 181 192 .none .none .none (R 193) 444
def xd0:Ob:=λ_=>fX "_law_word" 34 hY 201
def xd1:Ob:=λ_=>cF "is_same_rule" 403 95 2 165 408
def xd5:Ob:=λ_=>cF "way_between" 417 101 2 177 427
def xd7:Ob:=λ_=>cF "exchanged" 382 75 3 153 392
def xd8:Ob:=λ_=>cF "_law_mirror" 471 137 2 217 482
def xd9:Ob:=λ_=>fX "_law_mix" 32 hY 189
def xed:Ob:=λ_=>cF "_law_put_arm" 597 291 3 298 605
def xee:Ob:=λ_=>co "_law_cut" "_law_cut" 503 166 4 0 0 3 236 true 181 237 .none .none .none (R 238) 506
def xeh:Ob:=λ_=>cF "_law_gathered" 564 244 1 274 573
def xei:Ob:=λ_=>fX "_law_order" 41 hY 246
def xej:Ob:=λ_=>fX "_law_renamed" 43 hY 258
def xek:Ob:=λ_=>cF "_law_needs" 582 273 3 286 588
def xem:Ob:=λ_=>fX "_law_fold" 39 hY 234
def xeo:Ob:=λ_=>co "_law_moved" "_law_moved" 521 196 2 0 0 3 248 true 181 249 .none .none .none (R 250) 524
def xeq:Ob:=λ_=>fX "_law_arms" 45 hY 272
def xer:Ob:=λ_=>cF "_law_tree" 540 209 3 260 554
def xes:Ob:=λ_=>fX "_law_goes" 49 hY 296
def xew:Ob:=λ_=>fX "_law_ends" 47 hY 284
def xey:Ob:=λ_=>cF "_law_arms" 557 238 1 267 561
def xez:Ob:=λ_=>fX "_law_put_arm" 50 hY 303
def xe0:Ob:=λ_=>fX "_law_cut" 40 hY 239
def xe2:Ob:=λ_=>co "_law_goes" "_law_goes" 591 279 3 0 0 3 293 true 181 294 .none .none .none (R 295) 594
def xe3:Ob:=λ_=>fX "_law_gathered" 46 hY 279
def xe5:Ob:=λ_=>fX "_law_needs" 48 hY 291
def xe9:Ob:=λ_=>co "_law_ends" "_law_ends" 576 258 2 0 0 3 281 true 181 282 .none .none .none (R 283) 579
def xfa:Ob:=λ_=>fX "_law_moved" 42 hY 251
def xfb:Ob:=λ_=>cF "_law_renamed" 527 201 3 253 537
def xfd:Ob:=λ_=>fX "_law_tree" 44 hY 265
def xfe:Ob:=λ_=>cF "_law_fold" 491 158 4 229 500
def xfi:Ob:=λ_=>cF "_law_order" 509 188 2 241 518
def xfl:Ob:=λP=>O (.type "dict") (.dict #[(E P "__name__" 165 (S "law_oncewise_k64_ways_walked" 430)),(E P "__doc__" 166 .none),(E P "__package__" 167 .none),(E P "__loader__" 168 (.builtin "__main__.__loader__#opaque")),(E P "__spec__" 169 .none),(E P "__annotations__" 170 (R 6)),(E P "__builtins__" 171 (R 4)),(E P "__file__" 173 (S "/claim/cut.py" 172)),(E P "__cached__" 174 .none),(E P "OnceError" 206 (R 24)),(E P "NoExchange" 222 (R 37)),(E P "OtherWeb" 238 (R 49)),(E P "LEAF_KINDS" 243 (R 52)),(E P "is_leaf" 250 (R 59)),(E P "parts_of" 259 (R 66)),(E P "PLACE_COUNTS" 274 (R 67)),(E P "places_of" 281 (R 74)),(E P "arms_of" 288 (R 81)),(E P "rules_in" 297 (R 88)),(E P "told_by" 304 (R 95)),(E P "taken_by" 310 (R 100)),(E P "pairs_by" 316 (R 105)),(E P "web_of" 324 (R 112)),(E P "with_arm" 336 (R 119)),(E P "all_told" 345 (R 126)),(E P "arm_that_tells" 351 (R 131)),(E P "turned_out" 362 (R 138)),(E P "arm_at" 371 (R 145)),(E P "rules_along" 381 (R 152)),(E P "exchanged" 394 (R 159)),(E P "rules_by_way" 400 (R 164)),(E P "is_same_rule" 410 (R 171)),(E P "steps_out" 416 (R 176)),(E P "way_between" 429 (R 183)),(E P "_law_mix" 440 (R 190)),(E P "_law_name" 446 (R 195)),(E P "_law_word" 455 (R 202)),(E P "_law_flip" 463 (R 209)),(E P "_law_weight" 470 (R 216)),(E P "_law_mirror" 484 (R 223)),(E P "_law_join" 490 (R 228)),(E P "_law_fold" 502 (R 235)),(E P "_law_cut" 508 (R 240)),(E P "_law_order" 520 (R 247)),(E P "_law_moved" 526 (R 252)),(E P "_law_renamed" 539 (R 259)),(E P "_law_tree" 556 (R 266)),(E P "_law_arms" 563 (R 273)),(E P "_law_gathered" 575 (R 280)),(E P "_law_ends" 581 (R 285)),(E P "_law_needs" 590 (R 292)),(E P "_law_goes" 596 (R 297)),(E P "_law_put_arm" 607 (R 304)),(E P "_law_about" 618 (R 311)),(E P "_law_at" 627 (R 318)),(E P "_law_put_at" 636 (R 325)),(E P "_law_drawn_way" 646 (R 332)),(E P "_law_followed" 663 (R 339)),(E P "_law_rules" 672 (R 346)),(E P "_law_led" 684 (R 353)),(E P "_law_within" 693 (R 360)),(E P "_law_part" 699 (R 365)),(E P "law" 717 (R 372))] 63)
def xfo:Ob:=λ_=>cF "_law_within" 685 350 2 354 691
def xfp:Ob:=λ_=>fX "_law_about" 51 hY 310
def xfr:Ob:=λ_=>fX "_law_followed" 55 hY 338
def xft:Ob:=λ_=>cF "law" 700 362 1 366 715
def xfu:Ob:=λ_=>cF "_law_drawn_way" 637 308 2 326 644
def xfx:Ob:=λ_=>fX "_law_led" 57 hY 352
def xfz:Ob:=λ_=>cF "_law_rules" 664 335 1 340 670
def xf0:Ob:=λ_=>fX "_law_put_at" 53 hY 324
def xf2:Ob:=λ_=>fX "_law_part" 59 hY 364
def xf4:Ob:=λ_=>cF "_law_at" 619 300 2 312 625
def xf5:Ob:=λ_=>cF "_law_led" 673 341 3 347 682
def xf8:Ob:=λ_=>fX "_law_within" 58 hY 359
def xgb:Ob:=λ_=>cF "_law_put_at" 628 304 3 319 634
def xgd:Ob:=λ_=>fX "law" 60 hY 371
def xge:Ob:=λ_=>fX "_law_drawn_way" 54 hY 331
def xgf:Ob:=λ_=>co "_law_part" "_law_part" 694 356 3 0 0 3 361 true 181 362 .none .none .none (R 363) 697
def xgh:Ob:=λ_=>cF "_law_followed" 647 316 3 333 661
def xgk:Ob:=λ_=>fX "_law_rules" 56 hY 345
def xgo:Ob:=λ_=>cF "_law_about" 608 296 3 305 616
def xgp:Ob:=λ_=>fX "_law_at" 52 hY 317
def arx:List Ob:=[b0,b1,b2,b3,b4,b5,b6,b7,b8,b9,b10,js,w4,xac,xad]
def ap9:List Ob:=[b0,b1,b2,xfl,b4,b5,b6,b7,b8,b9,b10,js,λ_=>O .none (.fields #[I 2 0,I 0 0,R 20,I 4 0,I 0 0,R 33,I 6 0,I 0 0,R 45,I 10 0,I 0 0,R 58,I 13 0,I 0 0,R 65,I 19 0,I 0 0,R 73,I 21 0,I 0 0,R 80,I 23 0,I 0 0,R 87,I 28 0,I 0 0,R 94,I 30 0,I 0 0,R 99,I 39 0,I 0 0,R 104,I 41 0,I 0 0,R 111,I 45 0,I 0 0,R 118,I 48 0,I 0 0,R 125,I 53 0,I 0 0,R 130,I 59 0,I 0 0,R 137,I 65 0,I 0 0,R 144,I 70 0,I 0 0,R 151,I 75 0,I 0 0,R 158,I 84 0,I 0 0,R 163,I 95 0,I 0 0,R 170,I 97 0,I 0 0,R 175,I 101 0,I 0 0,R 182,I 112 0,I 0 0,R 189,I 114 0,I 0 0,R 194,I 123 0,I 0 0,R 201,I 128 0,I 0 0,R 208,I 133 0,I 0 0,R 215,I 137 0,I 0 0,R 222,I 150 0,I 0 0,R 227,I 158 0,I 0 0,R 234,I 166 0,I 0 0,R 239,I 188 0,I 0 0,R 246,I 196 0,I 0 0,R 251,I 201 0,I 0 0,R 258,I 209 0,I 0 0,R 265,I 238 0,I 0 0,R 272,I 244 0,I 0 0,R 279,I 258 0,I 0 0,R 284,I 273 0,I 0 0,R 291,I 279 0,I 0 0,R 296,I 291 0,I 0 0,R 303,I 296 0,I 0 0,R 310,I 300 0,I 0 0,R 317,I 304 0,I 0 0,R 324,I 308 0,I 0 0,R 331,I 316 0,I 0 0,R 338,I 335 0,I 0 0,R 345,I 341 0,I 0 0,R 352,I 350 0,I 0 0,R 359,I 356 0,I 0 0,R 364,I 362 0,I 0 0,R 371]),xac,xad,xaf,xal,xai,js,w4,xao,xak,js,xag,xbc,xaj,xap,xah,xax,xal,xa0,js,w4,xas,xay,js,xaw,xat,xaz,xar,xax,xal,xbh,js,w4,xa9,xbj,js,xbb,xa7,xbg,xa4,xbe,js,w4,xa2,js,xa8,xbi,xa5,js,w4,xbk,js,xba,xa6,xbf,xa3,js,w4,xcs,js,xcc,xb1,xcp,js,w4,xb5,js,xbn,xb9,xbz,js,w4,xcj,js,xcu,xbr,xcf,js,w4,xbx,js,xb7,xcy,xbm,js,w4,xco,xbv,xci,js,w4,xbq,xce,xb3,js,w4,xcl,js,xcx,xbp,xcb,js,w4,xbw,js,xb4,xcw,xbt,js,w4,xcr,js,xcm,xb8,xcz,js,w4,xby,xcn,xbu,js,w4,xct,js,xcd,xb2,xcq,js,w4,xb6,js,xbo,xca,xb0,js,w4,xck,js,xcv,xbs,xcg,js,w4,λ_=>tu #[S "tree" 385,S "way" 386,S "arm" 387,S "along" 388,S "rule" 389,S "number" 390,S "outer" 391],js,λ_=>gX "exchanged" 25,xd7,xc1,js,w4,λ_=>gX "rules_by_way" 26,xc9,xdt,js,w4,λ_=>tu #[S "rule" 406,S "other" 407],js,λ_=>gX "is_same_rule" 28,xd1,xdc,js,w4,λ_=>gX "steps_out" 29,xc4,xdp,js,w4,λ_=>tu #[S "tree" 420,S "other" 421,S "here" 422,S "pairs" 423,S "way" 424,S "rule" 425,S "step" 426],js,λ_=>gX "way_between" 30,xd5,xc7,js,w4,λ_=>tu #[S "_law_cell" 435,S "_law_k" 436,S "_law_factor" 437],js,λ_=>gX "_law_mix" 32,xdn,xd9,js,w4,λ_=>gX "_law_name" 33,xdx,xc8,js,w4,λ_=>tu #[S "_law_knots" 450,S "_law_p" 451,S "_law_knot" 452],js,λ_=>gX "_law_word" 34,xdh,xd0,js,w4,λ_=>tu #[S "_law_word_here" 459,S "_law_sides" 460],js,λ_=>gX "_law_flip" 35,xdo,xdg,js,w4,λ_=>tu #[S "_law_word_here" 467],js,λ_=>gX "_law_weight" 36,xc6,xdr,js,w4,λ_=>tu #[S "_law_knots" 474,S "_law_word_here" 475,S "_law_left" 476,S "_law_right" 477,S "_law_turn" 478,S "_law_same" 479,S "_law_low" 480,S "_law_high" 481],js,λ_=>gX "_law_mirror" 37,xd8,xc2,js,w4,λ_=>gX "_law_join" 38,xda,xdu,js,w4,λ_=>tu #[S "_law_knots" 494,S "_law_tree_here" 495,S "_law_one" 496,S "_law_two" 497,S "_law_left" 498,S "_law_right" 499],js,λ_=>gX "_law_fold" 39,xfe,xem,js,w4,λ_=>gX "_law_cut" 40,xee,xe0,js,w4,λ_=>tu #[S "_law_knots" 512,S "_law_seed" 513,S "_law_p" 514,S "_law_knot" 515,S "_law_rank" 516],λ_=>tu #[S "_law_ranks" 517],λ_=>gX "_law_order" 41,xfi,xei,js,w4,λ_=>gX "_law_moved" 42,xeo,xfa,js,w4,λ_=>tu #[S "_law_knots" 530,S "_law_rule" 531,S "_law_seed" 532,S "_law_at_here" 533,S "_law_made" 534,S "_law_p" 535,S "_law_knot" 536],js,λ_=>gX "_law_renamed" 43,xfb,xej,js,w4,λ_=>tu #[S "_law_cells" 543,S "_law_seed" 544,S "_law_room" 545,S "_law_knots" 546,S "_law_forest" 547,S "_law_k" 548,S "_law_cell" 549,S "_law_one" 550,S "_law_two" 551,S "_law_deed" 552,S "_law_at_here" 553],js,λ_=>gX "_law_tree" 44,xer,xfd,js,w4,λ_=>tu #[S "_law_rule" 560],js,λ_=>gX "_law_arms" 45,xey,xeq,js,w4,λ_=>tu #[S "_law_rule" 567,S "_law_links" 568,S "_law_cuts" 569,S "_law_told" 570,S "_law_stack" 571,S "_law_one" 572],js,λ_=>gX "_law_gathered" 46,xeh,xe3,js,w4,λ_=>gX "_law_ends" 47,xe9,xew,js,w4,λ_=>tu #[S "_law_knots" 585,S "_law_rule" 586,S "_law_arm" 587],js,λ_=>gX "_law_needs" 48,xek,xe5,js,w4,λ_=>gX "_law_goes" 49,xe2,xes,js,w4,λ_=>tu #[S "_law_rule" 600,S "_law_arm" 601,S "_law_other" 602,S "_law_arms_here" 603,S "_law_kept" 604],js,λ_=>gX "_law_put_arm" 50,xed,xez,js,w4,λ_=>tu #[S "_law_rule" 611,S "_law_arm" 612,S "_law_k" 613,S "_law_inner" 614,S "_law_below" 615],js,λ_=>gX "_law_about" 51,xgo,xfp,js,w4,λ_=>tu #[S "_law_rule" 622,S "_law_way" 623,S "_law_a" 624],js,λ_=>gX "_law_at" 52,xf4,xgp,js,w4,λ_=>tu #[S "_law_rule" 631,S "_law_way" 632,S "_law_other" 633],js,λ_=>gX "_law_put_at" 53,xgb,xf0,js,w4,λ_=>tu #[S "_law_rule" 640,S "_law_number" 641,S "_law_way" 642,S "_law_arms_here" 643],js,λ_=>gX "_law_drawn_way" 54,xfu,xge,js,w4,λ_=>tu #[S "_law_knots" 650,S "_law_rule" 651,S "_law_found" 652,S "_law_pair" 653,S "_law_way" 654,S "_law_arm" 655,S "_law_one" 656,S "_law_a" 657,S "_law_arms_here" 658,S "_law_s" 659,S "_law_k" 660],js,λ_=>gX "_law_followed" 55,xgh,xfr,js,w4,λ_=>tu #[S "_law_rule" 667,S "_law_count" 668,S "_law_stack" 669],js,λ_=>gX "_law_rules" 56,xfz,xgk,js,w4,λ_=>tu #[S "_law_knots" 676,S "_law_rule" 677,S "_law_other" 678,S "_law_handed" 679,S "_law_found" 680,S "_law_count" 681],js,λ_=>gX "_law_led" 57,xf5,xfx,js,w4,λ_=>tu #[S "_law_rule" 688,S "_law_number" 689,S "_law_arms_here" 690],js,λ_=>gX "_law_within" 58,xfo,xf8,js,w4,λ_=>gX "_law_part" 59,xgf,xf2,js,w4,λ_=>tu #[S "_law_script" 703,S "_law_seed" 704,S "_law_knots" 705,S "_law_rule" 706,S "_law_other" 707,S "_law_j" 708,S "_law_cell" 709,S "_law_number" 710,S "_law_way" 711,S "_law_s" 712,S "_law_k" 713,S "_law_found" 714],js,λ_=>gX "law" 60,xft,xgd]
def atn:List Ob:=[b0,b1,b2,b3,b4,b5,b6,b7,b8,b9,b10,js,w4,xac,xad]
def avw:List Ob:=[b0,b1,b2,λP=>O (.type "dict") (.dict #[(E P "__name__" 165 (S "oncewise.exchanging" 325)),(E P "__doc__" 166 .none),(E P "__package__" 167 .none),(E P "__loader__" 168 (.builtin "__main__.__loader__#opaque")),(E P "__spec__" 169 .none),(E P "__annotations__" 170 (R 6)),(E P "__builtins__" 171 (R 4)),(E P "__file__" 173 (S "/claim/cut.py" 172)),(E P "__cached__" 174 .none),(E P "OnceError" 206 (R 24)),(E P "NoExchange" 222 (R 37)),(E P "OtherWeb" 238 (R 49)),(E P "LEAF_KINDS" 243 (R 52)),(E P "is_leaf" 250 (R 59)),(E P "parts_of" 259 (R 66)),(E P "PLACE_COUNTS" 274 (R 67)),(E P "places_of" 281 (R 74)),(E P "arms_of" 288 (R 81)),(E P "rules_in" 297 (R 88)),(E P "told_by" 304 (R 95)),(E P "taken_by" 310 (R 100)),(E P "pairs_by" 316 (R 105)),(E P "web_of" 324 (R 112)),(E P "with_arm" 336 (R 119)),(E P "all_told" 345 (R 126)),(E P "arm_that_tells" 351 (R 131)),(E P "turned_out" 362 (R 138)),(E P "arm_at" 371 (R 145)),(E P "rules_along" 381 (R 152))] 29),b4,b5,b6,b7,b8,b9,b10,js,λ_=>O .none (.fields #[I 2 0,I 0 0,R 20,I 4 0,I 0 0,R 33,I 6 0,I 0 0,R 45,I 10 0,I 0 0,R 58,I 13 0,I 0 0,R 65,I 19 0,I 0 0,R 73,I 21 0,I 0 0,R 80,I 23 0,I 0 0,R 87,I 28 0,I 0 0,R 94,I 30 0,I 0 0,R 99,I 39 0,I 0 0,R 104,I 41 0,I 0 0,R 111,I 45 0,I 0 0,R 118,I 48 0,I 0 0,R 125,I 53 0,I 0 0,R 130,I 59 0,I 0 0,R 137,I 65 0,I 0 0,R 144,I 70 0,I 0 0,R 151]),xac,xad,xaf,xal,xai,js,w4,xao,xak,js,xag,xbc,xaj,xap,xah,xax,xal,xa0,js,w4,xas,xay,js,xaw,xat,xaz,xar,xax,xal,xbh,js,w4,xa9,xbj,js,xbb,xa7,xbg,xa4,xbe,js,w4,xa2,js,xa8,xbi,xa5,js,w4,xbk,js,xba,xa6,xbf,xa3,js,w4,xcs,js,xcc,xb1,xcp,js,w4,xb5,js,xbn,xb9,xbz,js,w4,xcj,js,xcu,xbr,xcf,js,w4,xbx,js,xb7,xcy,xbm,js,w4,xco,xbv,xci,js,w4,xbq,xce,xb3,js,w4,xcl,js,xcx,xbp,xcb,js,w4,xbw,js,xb4,xcw,xbt,js,w4,xcr,js,xcm,xb8,xcz,js,w4,xby,xcn,xbu,js,w4,xct,js,xcd,xb2,xcq,js,w4,xb6,js,xbo,xca,xb0,js,w4,xck,js,xcv,xbs,xcg]
def avi:List Ob:=ap9
def hpA(P:Params):Heap:=⟨⟨arx.map (· P)⟩,{}⟩
def hpZ(P:Params):Heap:=⟨⟨ap9.map (· P)⟩,{}⟩
def tr0(P:Params):BT:=bt 20 (atn.map (· P))
def tr4(P:Params):BT:=bt 20 (avw.map (· P))
def tr7(P:Params):BT:=bt 20 (avi.map (· P))
def sA(w:World)(os:OsState):Shared:=⟨hpA w.params,#[],{},187,os⟩
def sZ(w:World)(os:OsState):Shared:=⟨hpZ w.params,#[],{},718,os⟩
def aP(w:World)(os:OsState):SharedT:=⟨tr0 w.params,15,{},#[],{},187,os⟩
def st4(w:World)(os:OsState):SharedT:=⟨tr4 w.params,153,{},#[],{},382,os⟩
def st7(w:World)(os:OsState):SharedT:=⟨tr7 w.params,373,{},#[],{},718,os⟩
def afi:List Stmt:=((behindTheImports p).drop 0).take 25
def aha:List Stmt:=((behindTheImports p).drop 25).take 36
theorem avq(w:World):(λos=>topGo treeTable p w 11 an 12 ⟨boot_heap w.params,#[],boot_drawn,boot_toks,os⟩ (topStub p))=λos=>some (sA w os,⟨denote treeTable cE,cE,⟨0,0,0,0⟩,[topFrame q0]⟩):=by kernel_rfl
theorem av8(w:World):(λos=>segRun treeTable p w 11 an 1 1 (sA w os) (blockOf (behindTheImports p) env0 cE ⟨0,0,0,0⟩ [topFrame q0]))=λos=>some (.next,(aP w os).abs,cE,⟨0,0,0,0⟩):=by kernel_rfl
theorem avh(w:World):Pc 1186 aP st4 afi ⟨0,0,0,0⟩ ⟨70,0,74,16⟩ (w.withFollow "special-get-raises" false):=by kernel_rfl
theorem arv(w:World):Pc 1186 aP st4 afi ⟨0,0,0,0⟩ ⟨70,0,74,16⟩ (w.withFollow "special-get-raises" true):=by kernel_rfl
theorem pc1:∀w,Pc 1186 aP st4 afi ⟨0,0,0,0⟩ ⟨70,0,74,16⟩ w:=byRow2 "special-get-raises" avh arv
theorem pc2:∀w,Pc 1083 st4 st7 aha ⟨70,0,74,16⟩ ⟨362,0,377,60⟩ w:=λw=>by kernel_rfl
theorem awc(w:World):(λos=>topRun treeTable p w 11 an 2 (st7 w os).abs ⟨doneF .next,cE,⟨362,0,377,60⟩,[topFrame q0]⟩)=λos=>some (sZ w os):=by kernel_rfl
theorem aoy:afi++(aha++([]))=behindTheImports p:=by kernel_rfl
theorem aur(w:World)(os:OsState):topRun treeTable p w 11 an (12+(1+(1186+(1083+(2))))) ⟨boot_heap w.params,#[],boot_drawn,boot_toks,os⟩ (topStub p)=some (sZ w os):=by have h:=(piece_app (l:=afi) (rest:=aha++([])) (segRun_of (Dk (pc1 w) os)) (piece_app (l:=aha) (rest:=[]) (segRun_of (Dk (pc2 w) os)) (piece_nil (env:=env0) (Dk (awc w) os))));rw[aoy] at h;exact go_top (Dk (avq w) os) (piece_block (Dk (av8 w) os) h)
def as0:List Nat:=[0,1,2,3,4,5,6,7,8,9,10,13,23,24,25,36,37,48,49,52,58,59,65,66,67,73,74,80,81,87,88,94,95,99,100,104,105,111,112,118,119,125,126,130,131,137,138,144,145,151,152,158,159,163,164,170,171,175,176,182,183,189,190,194,195,201,202,208,209,215,216,222,223,227,228,234,235,239,240,242,246,247,251,252,258,259,265,266,272,273,279,280,284,285,291,292,296,297,303,304,310,311,317,318,324,325,331,332,338,339,345,346,352,353,359,360,364,365,371,372]
def vw:Program:={ p with main:={ p.main with body:=[top 1,top 2,top 3,top 5,top 6,top 8,top 10,top 11,top 12,top 13,top 14,top 15,top 16,top 17,top 19,top 20,top 21,top 22,top 23,top 24,top 25,top 26,top 28,top 29,top 30,top 32,top 33,top 34,top 35,top 36,top 37,top 38,top 39,top 40,top 41,top 42,top 43,top 44,top 45,top 46,top 47,top 48,top 49,top 50,top 51,top 52,top 53,top 54,top 55,top 56,top 57,top 58,top 59,top 60] } }
def K0:Params->Frag:=λP=>(nat_lit 0,b0 P)::(nat_lit 1,b1 P)::(nat_lit 2,b2 P)::(nat_lit 3,xfl P)::(nat_lit 4,b4 P)::(nat_lit 5,b5 P)::(nat_lit 6,b6 P)::(nat_lit 7,b7 P)::(nat_lit 8,b8 P)::(nat_lit 9,b9 P)::(nat_lit 10,b10 P)::(nat_lit 13,xac P)::(nat_lit 23,xag P)::(nat_lit 24,xbc P)::(nat_lit 25,xaj P)::(nat_lit 36,xaw P)::(nat_lit 37,xat P)::(nat_lit 48,xbb P)::(nat_lit 49,xa7 P)::(nat_lit 52,xbe P)::(nat_lit 58,xbi P)::(nat_lit 59,xa5 P)::(nat_lit 65,xa6 P)::(nat_lit 66,xbf P)::(nat_lit 67,xa3 P)::(nat_lit 73,xb1 P)::(nat_lit 74,xcp P)::(nat_lit 80,xb9 P)::(nat_lit 81,xbz P)::(nat_lit 87,xbr P)::(nat_lit 88,xcf P)::(nat_lit 94,xcy P)::(nat_lit 95,xbm P)::(nat_lit 99,xbv P)::(nat_lit 100,xci P)::(nat_lit 104,xce P)::(nat_lit 105,xb3 P)::(nat_lit 111,xbp P)::(nat_lit 112,xcb P)::(nat_lit 118,xcw P)::(nat_lit 119,xbt P)::(nat_lit 125,xb8 P)::(nat_lit 126,xcz P)::(nat_lit 130,xcn P)::(nat_lit 131,xbu P)::(nat_lit 137,xb2 P)::(nat_lit 138,xcq P)::(nat_lit 144,xca P)::(nat_lit 145,xb0 P)::(nat_lit 151,xbs P)::(nat_lit 152,xcg P)::(nat_lit 158,xd7 P)::(nat_lit 159,xc1 P)::(nat_lit 163,xc9 P)::(nat_lit 164,xdt P)::(nat_lit 170,xd1 P)::(nat_lit 171,xdc P)::(nat_lit 175,xc4 P)::(nat_lit 176,xdp P)::(nat_lit 182,xd5 P)::(nat_lit 183,xc7 P)::(nat_lit 189,xdn P)::(nat_lit 190,xd9 P)::(nat_lit 194,xdx P)::(nat_lit 195,xc8 P)::(nat_lit 201,xdh P)::(nat_lit 202,xd0 P)::(nat_lit 208,xdo P)::(nat_lit 209,xdg P)::(nat_lit 215,xc6 P)::(nat_lit 216,xdr P)::(nat_lit 222,xd8 P)::(nat_lit 223,xc2 P)::(nat_lit 227,xda P)::(nat_lit 228,xdu P)::(nat_lit 234,xfe P)::(nat_lit 235,xem P)::(nat_lit 239,xee P)::(nat_lit 240,xe0 P)::(nat_lit 242,w4 P)::(nat_lit 246,xfi P)::(nat_lit 247,xei P)::(nat_lit 251,xeo P)::(nat_lit 252,xfa P)::(nat_lit 258,xfb P)::(nat_lit 259,xej P)::(nat_lit 265,xer P)::(nat_lit 266,xfd P)::(nat_lit 272,xey P)::(nat_lit 273,xeq P)::(nat_lit 279,xeh P)::(nat_lit 280,xe3 P)::(nat_lit 284,xe9 P)::(nat_lit 285,xew P)::(nat_lit 291,xek P)::(nat_lit 292,xe5 P)::(nat_lit 296,xe2 P)::(nat_lit 297,xes P)::(nat_lit 303,xed P)::(nat_lit 304,xez P)::(nat_lit 310,xgo P)::(nat_lit 311,xfp P)::(nat_lit 317,xf4 P)::(nat_lit 318,xgp P)::(nat_lit 324,xgb P)::(nat_lit 325,xf0 P)::(nat_lit 331,xfu P)::(nat_lit 332,xge P)::(nat_lit 338,xgh P)::(nat_lit 339,xfr P)::(nat_lit 345,xfz P)::(nat_lit 346,xgk P)::(nat_lit 352,xf5 P)::(nat_lit 353,xfx P)::(nat_lit 359,xfo P)::(nat_lit 360,xf8 P)::(nat_lit 364,xgf P)::(nat_lit 365,xf2 P)::(nat_lit 371,xft P)::(nat_lit 372,xgd P)::[]
abbrev lamC:Nat:=246
abbrev lamT:Nat:=242
abbrev lamO:Ob:=xfi
abbrev ls:List Str:=[Str.ofString "PLACE_COUNTS"]
abbrev Xt:Shared->Bool:=λs=>xlAt vw [] s&&recOk (RowW.records rr.row.toRowW) s
theorem aqk(w:World):((boot_heap w.params).isNs mainGlobals&&(#[]:Array GenState).size==0,(boot_heap w.params).objs.size,(boot_heap w.params).nsMap mainGlobals "__annotations__")=(true,11,an):=by kernel_rfl
theorem aun:opening p=plainProg p.main.scope.names:=by kernel_rfl
theorem asm(s:Shared):fenceModules? p s=some s:=by kernel_rfl
theorem lk1(w:World):(λos=>(staticsOk (importedModules p.main.body) (boot_heap w.params) (hpZ w.params)&&namesBound p (hpZ w.params)&&gensDone (sZ w os)&&laidKept (boot_heap w.params) (hpZ w.params)))=λ_=>true:=by kernel_rfl
theorem lk2(w:World):(λos=>openSeen vw ls (importedModules p.main.body) Xt true (sZ w os))=λ_=>openGood vw ls:=by kernel_rfl
theorem lk3(w:World):(λos=>obsZ as0 (sZ w os))=λ_=>valZ K0 373 718 w:=by kernel_rfl
theorem left_:LeftO p vw ls Xt (obsZ as0) (valZ K0 373 718) 4650:=LeftO.of_pieces (boot_open aun rfl asm) aqk aur rfl λw=>funext λos=>looks_pair (Dk (lk1 w) os) (looks_pair (Dk (lk2 w) os) (Dk (lk3 w) os))
end
end H64
open PySem PySem.W PyProof.Rows
set_option maxRecDepth 100000 in
set_option maxHeartbeats 0 in
theorem PySem.Challenge.cw_oncewise_k64_ways_walked_holds : PySem.Challenge.rw_oncewise_k64_ways_walked.Holds := by
 w_on;refine holds_law (by unfold OpenLaw.wellSaid OpenRow.wellSaid OpenRow.partSaid looksOpen;walk_at "y";walk_at "y";walk_at "y";walk_at "y";walk_at "y";walk_at "y";all_goals decide +kernel) λU=>?_
 refine holds_openX (q:=H64.vw) (loose:=H64.ls) (Xt:=H64.Xt) (XP:=XL H64.vw []) (Yf:=PySem.W.X.obsZ H64.as0) (Ya:=PySem.W.X.valZ H64.K0 373 718) (N:=4650) H64.left_ (λs e=>xl_of s (Bool.and_eq_true_iff.mp e).1)
  XL.keeps (by rfl) (by rfl) (by rfl) (λs e=>recFacts_of (Bool.and_eq_true_iff.mp e).2)
  (by rfl) (by decide +kernel) (by decide +kernel) ⟨rfl,rfl,rfl,rfl,rfl,by decide +kernel⟩ ?hw ?hc
 case hw=>w_witness2
 k_fill
 refine L2.walk_ofZT (l:=PySem.Challenge.rw_oncewise_k64_ways_walked) (n:=63) (k:=130) (x:="_law_script") (CX:=L2.CX0) (sp:=L3.spTopT L3.lamQ) rfl (by decide) rfl ⟨rfl,by decide,by decide⟩ (λ_=>rfl) (by decide) ?F ?S ?C
 case F=>
  intro w t I h j G J;have T:(H64.K0 w.params).lookup H64.lamT=some (PySem.W.tabObj #[]):=by k_is
  have g:(H64.K0 w.params).lookup H64.lamC=some (H64.lamO w.params):=by k_is
  have hd:∀h:Heap,h.get? H64.lamC=some (H64.lamO w.params)->PySem.W.CodeHd h H64.lamC H64.lamT:=λh e=>⟨_,_,_,_,_,_,_,_,_,e,rfl,rfl,rfl,rfl,rfl,rfl,rfl,rfl,by decide⟩;have o:(H64.K0 w.params).lookup 4=some (PySem.W.boot_o_4 w.params):=by k_is
  have r:L3.DefInT (L2.lessK H64.lamT (H64.K0 w.params)) "_law_order" K64.s__law_order H64.lamT:=by
   refine' K64.def_inT (L2.ns_dn T ?a) (L2.lk_dn T ?l ?n) (L2.code_dn T ?c) (L2.keep_dn T ?k) ?LC
   (case a=>k_is);(case l=>k_is);(case n=>(intro e;cases e));(case c=>k_is);(case k=>k_is)
   refine'⟨⟨H64.lamC,_,rfl,L2.lk_dn T g ?m,hd⟩,⟨4,_,L2.ns_dn T ?b,by decide,by decide,L2.lk_dn T o ?p,rfl,rfl,rfl⟩⟩
   (case m=>(intro e;cases e));(case b=>k_is);(case p=>(intro e;cases e))
  refine⟨H64.lamT,⟨T,⟨H64.lamC,λh X=>hd h (X _ _ g)⟩,by decide⟩,?_⟩;refine' K64.all_mk (K:=L2.lessK H64.lamT (H64.K0 w.params)) (L2.lessK_in j) G J ?D0 ?D1 ?D2 ?D3 ?D4 ?D5 ?D6 ?D7 ?D8 ?D9 ?D10 ?D11 ?D12 ?D13 ?D14 ?D15 ?D16 ?D17 ?D18 ?D19 ?D20 ?D21 ?D22 ?D23 ?D24 ?D25 ?D26 ?D27 ?D28 ?D29 ?D30 ?D31 ?D32 ?D33 ?D34 ?D35 ?D36 ?D37 ?D38 ?D39 ?D40 ?D41 ?D42 ?D43 ?D44 ?D45 ?D46 ?D47 ?D48 ?aLEAF_KINDS ?lLEAF_KINDS ?aPLACE_COUNTS ?lPLACE_COUNTS ?hPLACE_COUNTS ?aCNoExchange ?qCNoExchange ?zlist ?zsorted ?zenumerate ?zall ?zlen ?zzip ?zreversed ?zrange ?zmax ?zmin ?zisinstance ?zint ?ztuple ?zbool
  (case aCNoExchange=>(refine' L2.ns_dn T ?_;k_is))
  (case D0|D1|D2|D3|D4|D5|D6|D7|D8|D9|D10|D11|D12|D13|D14|D15|D16|D17|D18|D19|D20|D21|D22|D23|D24|D25|D26|D27|D28|D30|D31|D32|D33|D34|D35|D36|D37|D38|D39|D40|D41|D42|D43|D44|D45|D46|D47|D48=>refine' L2.def_in (L2.ns_dn T ?a) (L2.lk_dn T ?l ?n) (L2.code_dn T ?c) (L2.keep_dn T ?k);(case a=>k_is);(case l=>k_is);(case n=>(intro e;cases e));(case c=>k_is);(case k=>k_is))
  (case D29=>exact r)
  (case aLEAF_KINDS=>(refine' L2.ns_dn T ?_;k_is))
  (case lLEAF_KINDS=>(refine' L2.lk_dn T ?x ?n;(case x=>k_is);(case n=>(intro e;cases e))))
  (case aPLACE_COUNTS=>(refine' L2.ns_dn T ?_;k_is))
  (case lPLACE_COUNTS=>(refine' L2.lk_dn T ?x ?n;(case x=>k_is);(case n=>(intro e;cases e))))
  (case hPLACE_COUNTS=>rfl)
  (case qCNoExchange=>(refine' L2.exc_dn T ?_;k_exc))
  (case zlist|zsorted|zenumerate|zall|zlen|zzip|zreversed|zrange|zmax|zmin|zisinstance|zint|ztuple|zbool=>(refine' L2.ns_dn T ?_;k_is))
 case S=>exact L3.top_startT
 case C=>exactλ_ _ _ _ z=>z
#print axioms PySem.Challenge.cw_oncewise_k64_ways_walked_holds
