import PyProof.Rows.All
import Wide.All
import OpenK.AllK
import Wide.FinOn
import Lean
import PyProof.EqAt
import PyProof.EqKinds
import PyProof.TupleCall
import PyProof.NeKinds
import PySem.Challenge.RW_oncewise_k63_exchanges_undone
import OpenK.ZGo
set_option genSizeOf false
set_option bootstrap.genMatcherCode false
set_option compiler.extract_closed false
set_option hygiene false
local macro_rules|`(tactic| walk_at "t")=>`(tactic| (first|assumption|exact Nat.succ_pos _|exact z0.tk (by assumption)|exact Nat.lt_of_lt_of_le (z0.tk (by assumption)) (Nat.le_add_right _ _)|exact Nat.lt_of_lt_of_le (z0.tk (by assumption)) (by assumption)))
set_option hygiene true
local macro_rules|`(tactic| walk_at "w")=>`(tactic| conv=>whnf)
local macro_rules|`(tactic| walk_at "y")=>`(tactic| ((refine PySem.W.look_both ?_ ?_);(refine PySem.W.look_both ?_ ?_);(refine PySem.W.look_both ?_ ?_);(refine PySem.W.look_both ?_ ?_);(refine PySem.W.look_both ?_ ?_);(refine PySem.W.look_both ?_ ?_)))
set_option Elab.async false
set_option linter.all false
set_option maxRecDepth 100000
abbrev Aa:=@PySem.wpAny_bind
abbrev Ab:=@List.length_map
abbrev Ac:=@List.length_append
abbrev Ad:=@List.mem_cons_of_mem
abbrev Ae:=@PySem.W.Frag
abbrev Af:=@List.getElem?_eq_getElem
abbrev Ag:=@List.mem_append_right
abbrev Ah:=@PySem.wpAny_pure
abbrev Ai:=@List.mem_singleton
abbrev Aj:=@List.mem_cons_self
abbrev Ak:=@List.size_toArray
abbrev Al:=@Nat.le_refl
abbrev Am:=@List.mem_cons
abbrev An:=@List.getElem?_map
abbrev Ao:=@Option.map_eq_some_iff
abbrev Ap:=@List.nodup_append
abbrev Aq:=@List.mem_append
abbrev Ar:=@List.mem_append_left
abbrev Au:=@decide_eq_false
abbrev Av:=@List.map_append
abbrev Aw:=@List.mem_of_getElem?
abbrev Ax:=@PyProof.Rows.wpS_bind
abbrev Ay:=@List.getElem?_append_right
abbrev Az:=@List.nodup_cons
abbrev AA:=@Bool.false_ne_true
abbrev AB:=@List.flatMap_append
abbrev AC:=@if_pos
abbrev AD:=@decide_eq_true
abbrev AE:=@Ne.symm
abbrev AF:=@if_neg
abbrev AG:=@List.map_cons
abbrev AH:=@List.getElem?_append_left
abbrev AI:=@PyProof.Rows.wpS_pure
abbrev AJ:=@List.mem_filter
abbrev AK:=@List.flatMap_cons
abbrev AL:=@Nat.lt_of_lt_of_le
abbrev AM:=@Nat.le_trans
abbrev AN:=@List.length_cons
abbrev AO:=@Option.some.inj
abbrev AQ:=@Int.toNat_natCast
abbrev AR:=@List.append_assoc
abbrev AS:=@List.mem_map
abbrev AU:=@PySem.wpAny_field
abbrev AV:=@PySem.wpAny_mono
abbrev AW:=@List.getElem?_eq_some_iff
abbrev AX:=@List.mem_flatMap
abbrev AY:=@PySem.wpAny_holding
abbrev AZ:=@Nat.ne_of_lt
abbrev A1:=@List.append_nil
abbrev A2:=@Bool.and_eq_true
abbrev A3:=@Int.natCast_nonneg
abbrev A4:=@List.length_take
abbrev A5:=@List.take_append_drop
abbrev A6:=@List.perm_ext_iff_of_nodup
abbrev A7:=@PySem.W.mg_none_of
abbrev A8:=@List.mem_range
abbrev A9:=@Nat.zero_le
abbrev Ba:=@List.take_length
abbrev Bb:=@PySem.wpAny_seqItems
abbrev Bc:=@List.count_append
abbrev Bd:=@List.take_succ
abbrev Be:=@Array.getElem?_toList
abbrev Bf:=@PySem.W.kia_one
abbrev Bg:=@List.find?_cons
abbrev Bh:=@PySem.wpAny_newObj_type
abbrev Bi:=@List.getD_eq_getElem?_getD
abbrev Bj:=@List.lookup_cons
abbrev Bl:=@List.cons_ne_nil
abbrev Bm:=@PyProof.Rows.wpS_forRange
abbrev Bo:=@Nat.le_of_lt
abbrev Bp:=@List.not_mem_nil
abbrev Bq:=@Array.length_toList
abbrev Br:=@PySem.mem_of_lookup
abbrev Bs:=@List.perm_iff_count
abbrev Bt:=@Nat.le_of_ble_eq_true
abbrev Bu:=@List.getElem?_set_ne
abbrev Bv:=@congrArg
abbrev Bw:=@List.length_range
abbrev Bx:=@List.getElem_take
abbrev Bz:=@Bool.eq_iff_iff
abbrev BA:=@Bool.false_eq_true
abbrev BB:=@PySem.W.hideAll_none
abbrev BC:=@List.all_eq_true
abbrev BD:=@Nat.le_succ_of_le
abbrev BE:=@List.take_of_length_le
abbrev BF:=@List.getElem_cons_drop
abbrev BG:=@List.length_reverse
abbrev BH:=@List.length_singleton
abbrev BI:=@Nat.le_add_right
abbrev BJ:=@PySem.wpAny_rule
abbrev BK:=@List.filter_append
abbrev BL:=@List.filter_cons
abbrev BM:=@List.Perm.refl
abbrev BN:=@List.eq_nil_of_length_eq_zero
abbrev BO:=@Nat.lt_succ_of_lt
abbrev BP:=@Bool.eq_false_iff
abbrev BQ:=@List.length_set
abbrev BR:=@List.getElem?_set_self
abbrev BS:=@PyProof.Rows.callWith_type1
abbrev BU:=@List.map_map
abbrev BV:=@Nat.le_succ
abbrev BW:=@List.nodup_range
abbrev BX:=@List.perm_append_singleton
abbrev BY:=@List.length_replicate
abbrev BZ:=@List.getElem?_eq_none
abbrev B1:=@List.drop_eq_getElem_cons
abbrev B3:=@List.sublist_append_right
abbrev B4:=@List.forIn_cons
abbrev B5:=@PySem.W.look_both
abbrev B6:=@Option.isSome_map
abbrev B7:=@List.pairwise_map
abbrev B8:=@List.mem_of_mem_take
abbrev B9:=@List.any_cons
abbrev Cb:=@List.Pairwise.imp_of_mem
abbrev Cc:=@List.cons.inj
abbrev Cd:=@Int.ofNat_inj
abbrev Ce:=@PyProof.Rows.slot_tuple_getitem
abbrev Cf:=@List.eraseIdx_cons_succ
abbrev Cg:=@Int.mul_le_mul_of_nonneg_right
abbrev Ci:=@PySem.W.of_hideAll
abbrev Cj:=@PySem.W.funFrames_hide
abbrev Ck:=@List.getElem?_take
abbrev Cm:=@Nat.sub_self
abbrev Cn:=@Nat.min_eq_left
abbrev Co:=@Nat.lt_irrefl
abbrev Cp:=@PySem.W.mg_of
abbrev Cq:=@List.eq_nil_or_concat
abbrev Cr:=@List.concat_eq_append
abbrev Cs:=@Bool.not_eq_true'
abbrev Ct:=@List.perm_append_right_iff
abbrev Cu:=@List.getElem?_of_mem
abbrev Cv:=@List.length_drop
abbrev Cw:=@List.perm_middle
abbrev Cy:=@Nat.lt_succ_self
abbrev Cz:=@Int.zero_add
abbrev CA:=@List.findIdx?_eq_none_iff
abbrev CB:=@PySem.W.hideAll_get
abbrev CC:=@List.filterMap_cons
abbrev CD:=@List.mem_map_of_mem
abbrev CF:=@List.sublist_append_left
abbrev CG:=@List.length_zip
abbrev CH:=@Nat.lt_of_le_of_lt
abbrev CI:=@List.append_of_mem
abbrev CK:=@List.getElem?_replicate
abbrev CL:=@List.getElem?_cons_succ
abbrev CM:=@List.length_eraseIdx_le
abbrev CN:=@List.findIdx?_eq_some_iff_getElem
abbrev CO:=@Nat.ne_of_gt
abbrev CP:=@List.map_nil
abbrev CQ:=@List.forIn_nil
abbrev CS:=@List.mem_range'_1
abbrev CT:=@List.Sublist.refl
abbrev CU:=@List.flatMap_singleton
abbrev CV:=@List.eraseIdxIfInBounds_toArray
abbrev CW:=@List.getElem?_reverse
abbrev CY:=@Nat.max_eq_right
abbrev CZ:=@Int.le_refl
abbrev C0:=@List.pairwise_append
abbrev C1:=@List.nodup_iff_count
abbrev C2:=@List.of_mem_zip
abbrev C3:=@Nat.max_eq_left
abbrev C4:=@List.nil_append
abbrev C5:=@List.getElem?_range
abbrev C6:=@Array.toList_append
abbrev C7:=@Nat.succ_pos
abbrev C8:=@Nat.lt_or_ge
abbrev C9:=@Int.le_of_lt
abbrev Dd:=@List.mem_filterMap
abbrev De:=@List.drop_zero
abbrev Df:=@PySem.F.excBase_ValueError
abbrev Dg:=@List.getElem?_drop
abbrev Dh:=@congrFun
abbrev Di:=@PySem.F.slot_dict_getitem
abbrev Dj:=@List.pairwise_iff_getElem
abbrev Dk:=@List.perm_append_left_iff
abbrev Dl:=@List.getElem?_zip_eq_some
abbrev Dm:=@PySem.W.kitx_list
abbrev Dn:=@List.reverse_perm
abbrev Do:=@List.nodup_range'
abbrev Dp:=@List.getElem?_take_of_lt
abbrev Dq:=@PySem.F.args_tuple_add_2
abbrev Dr:=@List.all_cons
abbrev Ds:=@List.getElem_append_left
abbrev Dt:=@PySem.F.entry_tuple_add
abbrev Du:=@PySem.F.plainAttrs_list
abbrev Dv:=@List.range'_succ
abbrev Dw:=@Nat.add_sub_cancel_left
abbrev Dx:=@List.getElem?_set_self'
abbrev Dy:=@List.flatMap_nil
abbrev Dz:=@decide_eq_decide
abbrev DA:=@PySem.W.cellsFrom_some
abbrev DB:=@PySem.F.slot_tuple_add
abbrev DC:=@Int.le_trans
abbrev DD:=@Nat.sub_zero
abbrev DE:=@List.filter_eq_nil_iff
abbrev DF:=@Array.size_push
abbrev DG:=@Bool.or_eq_true
abbrev DH:=@beq_false_of_ne
abbrev DI:=@Nat.le_add_left
abbrev DJ:=@Int.emod_nonneg
abbrev DK:=@List.sum_append
abbrev DL:=@Bool.and_false
abbrev DM:=@List.nodup_nil
abbrev DN:=@Bool.and_true
abbrev wh:=@PySem.Heap.get?_push_of_some
abbrev xa:=@PySem.Heap.lt_size
abbrev xb:=@PySem.Heap.get?_push_size
abbrev xT:=@PySem.PassesOwn.never
abbrev ya:=@PySem.Heap.SameBut.update
abbrev y1:=@PySem.Heap.get?_update_other
abbrev As:=@PySem.Heap.get?_update_self
abbrev At:=@PySem.F.slot_tuple_iterator_next
abbrev Db:=@PySem.MeetsSeq.plain_remove_loop
abbrev DT:=@PySem.W.look_both
abbrev Ef:=@PySem.Calls.spliced_cons
abbrev Eg:=@PySem.Around.under_plainId
abbrev Eh:=@PySem.F.plain_extend_loop
abbrev Ei:=@PySem.Calls.spliced_nil
abbrev Ej:=@PySem.Heap.size_push
abbrev Ek:=@PySem.F.slot_zip_next
abbrev El:=@Sum.inr.inj
noncomputable section
namespace L2
open PySem PyProof.Rows
theorem i5{M:Model}{g:Ctx}{p:Pos}{t:Sem Fin}{fs:List Frame}{s s':Shared}{e:End}(h:Runs M g p t fs s e s'):s.toks<=s'.toks:=by induction h with|fresh _ j=>exact AM (BV _) j|call _ _ J U=>exact AM J U|resumeFresh _ _ _ _ J U=>exact AM J U|resumeSuspended _ _ _ _ J U=>exact AM J U|segRet _ _ J U=>exact AM J U|segGen _ _ J U=>exact AM J U|segSuspGen _ _ _ _ J U=>exact AM J U|_=>first|exact Al _|assumption
theorem uW{M:Model}{U:Ctx}{p:Pos}{g:Nat}{r:Resume}{s s':Shared}{res:GenResult}(h:Wakes M U p g r s res s'):s.toks<=s'.toks:=by
 unfold Wakes at h;split at h
 ·exact h.elim
 ·split at h
  ·obtain⟨e,j,J,_,_,rfl⟩:=h;have q:=i5 J;exact q
  ·obtain⟨_,rfl⟩:=h;exact Al _
  ·obtain⟨_,rfl⟩:=h;exact Al _
 ·obtain⟨e,j,J,_,_,rfl⟩:=h;have q:=i5 J;exact q
 ·obtain⟨_,rfl⟩:=h;exact Al _
 ·obtain⟨_,rfl⟩:=h;exact Al _
theorem agu{α:Type}{M:Model}{C:Ctx}(t:Sem α):∀{Q:α->Pos->Shared->Prop} {E:Value->Pos->Shared->Prop} {p:Pos} {s:Shared} (n:Nat),n<=s.toks->Sem.wp M C t Q E p s->Sem.wp M C t (λa j s'=>Q a j s'/\n<=s'.toks) (λe j s'=>E e j s'/\n<=s'.toks) p s:=by induction t with|pure a=>intro Q E p s n J h;exact⟨h,J⟩|raise e=>intro Q E p s n J h;exact⟨h,J⟩|load a part k U=>intro Q E p s n J ⟨o,h1,h2⟩;exact⟨o,h1,U o n J h2⟩|update a part f k U=>intro Q E p s n J ⟨h1,h2⟩;exact⟨h1,U () n J h2⟩|fresh k U=>intro Q E p s n J h;exact U s.toks n (AM J (BV _)) h|choose I m k U=>intro Q E p s n J ⟨h1,h2⟩;exact⟨h1,U _ n J h2⟩|call c hd g l k U=>intro Q E p s n J ⟨r,s',h1,h2⟩;exact⟨r,s',h1,U r n (AM J (i5 h1)) h2⟩|genState g k U=>intro Q E p s n J ⟨st,h1,h2⟩;exact⟨st,h1,U _ n J h2⟩|resume g r l k U=>intro Q E p s n J ⟨res,s',h1,h2⟩;exact⟨res,s',h1,U _ n (AM J (uW h1)) h2⟩|rule tag k U=>intro Q E p s n J h;exact U () n J h|«at» pos k U=>intro Q E p s n J h;exact U () n J h|alloc o k U=>intro Q E p s n J h;exact U _ n J h|loadIfAlive a k U=>intro Q E p s n J h;exact U _ n J h|point l k U=>intro Q E p s n J h;exact U _ n J h|ask k U=>intro Q E p s n J h;exact U _ n J h|os q l k U=>intro Q E p s n J h;exact U _ n J h|handled own k U=>intro Q E p s n J h;exact U _ n J h|newGen c k U=>intro Q E p s n J h;exact U _ n J h|stack k U=>intro Q E p s n J h;exact U _ n J h|thread k U=>intro Q E p s n J h;exact U _ n J h|unsupported w=>intro Q E p s n J h;exact h.elim|finish e=>intro Q E p s n J h;exact h.elim|register a k U=>intro Q E p s n J h;exact h.elim|yield v g l k U=>intro Q E p s n J h;exact h.elim|fork c k U=>intro Q E p s n J h;exact h.elim|await a f d l k U=>intro Q E p s n J h;exact h.elim
theorem tO{α:Type}{M:Model}{A:Around}{t:Sem α}{Q:α->Shared->Prop}{E:Value->Shared->Prop}{s:Shared}(h:wpAny M A t Q E s):wpAny M A t (λa s'=>Q a s'/\s.toks<=s'.toks) (λe s'=>E e s'/\s.toks<=s'.toks) s:=
 λU p J=>agu t s.toks (Al _) (h U p J)
theorem xj{α:Type}{M:Model}{A:Around}{t:Sem α}{Q:α->Shared->Prop}{E:Value->Shared->Prop}{s:Shared}(J:0<s.toks)(h:wpAny M A t (λa s'=>0<s'.toks->Q a s') (λe s'=>0<s'.toks->E e s') s):wpAny M A t Q E s:=
 AV (tO h) (λ_ _ z=>z.1 (AL J z.2)) λ_ _ z=>z.1 (AL J z.2)
end L2
variable {M:PySem.Model}{apos fm sy np p p1 p2 p3 p4 p5 pos gb tp:PySem.Pos}{t t1 t2:Bool}{s s':PySem.Shared}{c e nr o target tg value:PySem.Expr}{α β κ:Type}{A:PySem.Around}{E Q xe:PySem.Value->PySem.Shared->Prop}{eH us vs:List PySem.Value}{C Pt a b dx f fa i1 i2 it ka l l1 l2 pa z:PySem.Addr}{cd fx ct gc oc pm u:PySem.Value}{base h h':PySem.Heap}{i j m n t' x1:Nat}{ch fp:List PySem.Addr}{kx name px q eK x:PySem.Str}{pins:List (PySem.Addr×PySem.Obj)}{st:PySem.Stmt}{nC es ni values:List PySem.Expr}{body:List PySem.Stmt}{B lo:Int}{mA mg:PySem.Str->Option PySem.Value}{fd:PySem.FuncData}{ps:List PySem.Str}{fy scope:PySem.Scope}{outer:List PySem.Env}{an od:Option PySem.Addr}{oi:Array (Option PySem.Value)}{prog:PySem.Program}{env:PySem.Env}{keys:List (Option PySem.Expr)}{rks:List Int}
namespace L2
open PySem PySem.Spec PyProof.Rows
abbrev jg:=Sum Int Str
def lQ:jg->Value->Bool
 |.inl k,v=>Value.isInt k v
 |.inr x,v=>Value.isStrOf x v
def asw(w:World):jg->Int
 |.inl k=>hashInt k
 |.inr x=>hashStr w x
theorem vf:∀{k:jg} {v:Value},lQ k v=true->(∃i t,k=Sum.inl i/\v=Value.int i t)\/(∃x t,k=Sum.inr x/\v=Value.str x t)
 |.inl i,v,h=>by obtain⟨t,e⟩:=Value.isInt_shape (k:=i) (v:=v) h;exact .inl ⟨i,t,rfl,e⟩
 |.inr x,v,h=>by obtain⟨t,e⟩:=Value.isStrOf_shape (x:=x) (v:=v) h;exact .inr ⟨x,t,rfl,e⟩
theorem zJ(i:Int)(t:Tok):lQ (.inl i) (.int i t)=true:=by simp[lQ,Value.isInt]
theorem iT(x:Str)(t:Tok):lQ (.inr x) (.str x t)=true:=by simp[lQ,Value.isStrOf]
theorem aik(a b:Int):decide ((Sum.inl a:jg)=Sum.inl b)=(a==b):=by
 by_cases e:a=b
 ·subst e;simp
 ·have h:¬(Sum.inl a:jg)=Sum.inl b:=λq=>e (Sum.inl.inj q);rw[Au h];exact(beq_eq_false_iff_ne.mpr e).symm
theorem aid(a b:Str):decide ((Sum.inr a:jg)=Sum.inr b)=decide (a=b):=by
 by_cases e:a=b
 ·subst e;simp
 ·have h:¬(Sum.inr a:jg)=Sum.inr b:=λq=>e (El q);rw[Au h,Au e]
theorem aje(a:Int)(b:Str):decide ((Sum.inl a:jg)=Sum.inr b)=false:=Au (λq=>nomatch q)
theorem aif(a:Str)(b:Int):decide ((Sum.inr a:jg)=Sum.inl b)=false:=Au (λq=>nomatch q)
def v4(prog:Program)(w:World):PySem.KeyKind prog w jg where
 is:=lQ
 hash:=asw w
 inj:=λv a b l g=>by
  rcases vf l with⟨i,t,rfl,rfl⟩|⟨x,t,rfl,rfl⟩
  ·rcases vf g with⟨j,u,rfl,e⟩|⟨y,u,rfl,e⟩
   ·injection e with J _;rw[J]
   ·exact nomatch e
  ·rcases vf g with⟨j,u,rfl,e⟩|⟨y,u,rfl,e⟩
   ·exact nomatch e
   ·injection e with J _;rw[J]
 byValue:=λk v h=>by rcases vf h with⟨i,t,rfl,rfl⟩|⟨x,t,rfl,rfl⟩<;>rfl
 pyHash:=λU h=>by
  rcases vf U with⟨i,t,rfl,rfl⟩|⟨x,t,rfl,rfl⟩
  ·exact wpAny_pyHash_int h
  ·exact wpAny_pyHash_str h
 eqBool:=λo U h=>by
  rcases vf o with⟨i,t,rfl,rfl⟩|⟨x,t,rfl,rfl⟩
  ·rcases vf U with⟨j,u,rfl,rfl⟩|⟨y,u,rfl,rfl⟩
   ·rw[aik] at h;exact wpAny_eqBool_int h
   ·rw[aje] at h;exact SeqAt.EqAt.int_str i t y u _ _ _ _ h
  ·rcases vf U with⟨j,u,rfl,rfl⟩|⟨y,u,rfl,rfl⟩
   ·rw[aif] at h;exact SeqAt.EqAt.str_int x t j u _ _ _ _ h
   ·rw[aid] at h;exact wpAny_eqBool_str h
 «strs» := λk x t v h=>by
  rcases vf h with⟨i,u,rfl,e⟩|⟨y,u,rfl,e⟩
  ·exact nomatch e
  ·injection e with J _
   subst J;cases v<;>rfl
theorem tF(prog:Program)(w:World)(i:Int)(t:Tok):(v4 prog w).is (.inl i) (.int i t)=true:=zJ i t
theorem qY(prog:Program)(w:World)(x:Str)(t:Tok):(v4 prog w).is (.inr x) (.str x t)=true:=iT x t
inductive V where
 |non|bl (b:Bool)|int (i:Int)|str (x:Str)|byt (b:Array UInt8)|flt (b:UInt64)|ref (a:Addr)|ty (n:String)
 deriving DecidableEq
def zv:V->Value->Prop
 |.non,u=>u=Value.none
 |.bl b,u=>u=Value.bool b
 |.int i,u=>∃t,u=Value.int i t
 |.str x,u=>∃t,u=Value.str x t
 |.byt b,u=>∃t,u=Value.bytes b t
 |.flt b,u=>∃t,u=Value.float b t
 |.ref a,u=>u=Value.ref a
 |.ty n,u=>u=Value.type n
abbrev zp:List V->List Value->Prop:=Paired zv
theorem zp.length{xs:List V}(r:zp xs us):xs.length=us.length:=Paired.length r
theorem zp.get:∀{xs:List V} {us:List Value} {i:Nat} {x:V},zp xs us->xs[i]?=some x->∃u,us[i]?=some u/\zv x u
 |_,_,_,_,.nil,e=>by simp at e
 |_,_,0,_,.cons r _,e=>by simp at e;subst e;exact⟨_,rfl,r⟩
 |_,_,i+1,x,.cons _ t,e=>by obtain⟨u,h1,h2⟩:=zp.get (i:=i) (x:=x) t (by simpa using e);exact⟨u,by simpa using h1,h2⟩
theorem zp.set{x:V}{u:Value}(r:zv x u):∀{xs:List V} {us:List Value} (i:Nat),zp xs us->zp (xs.set i x) (us.set i u)
 |_,_,_,.nil=>.nil
 |_,_,0,.cons _ t=>.cons r t
 |_,_,i+1,.cons q t=>.cons q (zp.set r i t)
theorem zp.append:∀{xs ys:List V} {us J:List Value},zp xs us->zp ys J->zp (xs++ys) (us++J)
 |_,_,_,_,.nil,s=>s
 |_,_,_,_,.cons r t,s=>.cons r (zp.append t s)
theorem zp.take:∀{xs:List V} {us:List Value} (n:Nat),zp xs us->zp (xs.take n) (us.take n)
 |_,_,0,_=>.nil
 |_,_,_+1,.nil=>.nil
 |_,_,n+1,.cons r t=>.cons r (zp.take n t)
theorem zp.drop:∀{xs:List V} {us:List Value} (n:Nat),zp xs us->zp (xs.drop n) (us.drop n)
 |_,_,0,r=>r
 |_,_,_+1,.nil=>.nil
 |_,_,n+1,.cons _ t=>zp.drop n t
def iO:Option V->Option Value->Prop
 |some v,some u=>zv v u
 |none,none=>True
 |_,_=>False
def KV :List (κ×V)->List (κ×Value)->Prop:=Paired λ(p:κ×V) (q:κ×Value)=>p.1=q.1/\zv p.2 q.2
def kV:jg->V
 |.inl i=>.int i
 |.inr x=>.str x
inductive HO where
 |lst (xs:List V)
 |tup (xs:List V)
 |dK (kvs:List (jg×V))|dT (kvs:List (List jg×V))
 |set (S:Int->Bool) (n:Nat)
 |ins (C dx:Addr) (fs:List (Str×V))
 |own (x:Addr)
 |xd (fs:List (Str×V))
 |met (f x:Addr)
 |rng (lo hi:Int)
 |frz (o:Obj) (u:HO)
 |tbl (ps:Array Value)
 |ext (φ:Heap->Prop)
abbrev Hp:=Addr->Option HO
def upd(H:Hp)(a:Addr)(o:HO):Hp:=λb=>if b=a then some o else H b
theorem zg{H:Hp}{o:HO}:upd H a o a=some o:=by unfold upd;rw[AC rfl]
theorem qr{H:Hp}{o:HO}(h:b≠a):upd H a o b=H b:=by unfold upd;rw[AF h]
theorem qG{H:Hp}{o u:HO}:upd (upd H a o) a u=upd H a u:=by funext b;unfold upd;split<;>rfl
theorem alr{H:Hp}{o u:HO}(h:H a=some o)(h':H b=some u)(d:o≠u):a≠b:=by intro e;subst e;rw[h] at h';exact d (AO h')
theorem zr{H:Hp}{o:HO}(h:H a=some o)(h':H b=none):a≠b:=by intro e;subst e;rw[h] at h';cases h'
section
variable (P:Program)(w:World)
def xu(H:Hp)(h:Heap)(a:Addr):HO->Prop
 |.lst xs=>xs.length<=sizeLine/\∃(eH:List Value) (n:Nat),zp xs eH/\h.get? a=some { cls:=.type "list",data:=.seq eH.toArray n }
 |.tup xs=>xs.length<=sizeLine/\∃eH:List Value,zp xs eH/\IsTup h a eH.toArray
 |.dK kvs=>kvs.length<=sizeLine/\(a==sysModules)=false/\∃vs,KV kvs vs/\h.DictOf (v4 P w) a vs
 |.dT kvs=>kvs.length<=sizeLine/\(a==sysModules)=false/\∃xs:List (List jg×Addr×Value),
  Paired (λ(p:List jg×V) (q:List jg×Addr×Value)=>p.1=q.1/\H q.2.1=some (.tup (p.1.map kV))/\zv p.2 q.2.2) kvs xs/\
  ∃o es U,h.get? a=some o/\o.ExactDict/\o.data=.dict es U/\es.toList=xs.map (entryOfKey (tupleKind (v4 P w)))/\(xs.map (·.1)).Nodup
 |.set S n=>h.SetOf (intKind P w) a S n
 |.ins C dx fs=>H dx=some (.own a)/\fs.length<=1000/\dx≠a/\h.get? a=some (PySem.W.instObj C dx)/\
  ∃mA,h.Ns1 dx mA/\(∀f,iO (fs.lookup f) (mA f))/\PySem.Within mA (fs.map (·.1))
 |.own _=>∃o,h.get? a=some o
 |.xd fs=>∃mA,h.Ns1 a mA/\∀f,iO (fs.lookup f) (mA f)
 |.rng lo hi=>∃t u v,h.get? a=some { cls:=.type "range",data:=.fields #[.int lo t,.int hi u,.int 1 v] }
 |.frz o u=>h.get? a=some o/\xu H h a u
 |.tbl ps=>h.get? a=some { cls:=.none,data:=.fields ps }
 |.met f x=>h.get? a=some (PySem.W.methodObj (.ref f) (.ref x))
 |.ext J=>J h/\(∃o,h.get? a=some o)/\∀h1 h2:Heap,J h1->(∀o,h1.get? a=some o->h2.get? a=some o)->J h2
def dW(H:Hp)(h:Heap):Prop:=∀a o,H a=some o->xu P w H h a o
end
section
variable {P:Program}{w:World}{H H':Hp}{o:HO}
theorem xu.lt(x:xu P w H h a o):a<h.objs.size:=by
 cases o with
 |lst U=>obtain⟨_,_,_,_,e⟩:=x;exact xa e
 |tup U=>obtain⟨_,_,_,p⟩:=x;exact p.lt
 |dK J=>obtain⟨_,_,_,_,o,_,_,e,_⟩:=x;exact xa e
 |dT J=>obtain⟨_,_,_,_,o,_,_,e,_⟩:=x;exact xa e
 |set S n=>obtain⟨o,_,_,_,e,_⟩:=x;exact xa e
 |ins C g fs=>obtain⟨_,_,_,e,_⟩:=x;exact xa e
 |own y=>obtain⟨_,e⟩:=x;exact xa e
 |xd fs=>obtain⟨_,⟨_,_,_,e,_⟩,_⟩:=x;exact xa e
 |rng lo j=>obtain⟨_,_,_,e⟩:=x;exact xa e
 |frz ob u=>obtain⟨e,_⟩:=x;exact xa e
 |tbl l=>exact xa (show h.get? a=some _ from x)
 |met f y=>exact xa (show h.get? a=some _ from x)
 |ext r=>obtain⟨_,⟨_,e⟩,_⟩:=x;exact xa e
theorem Paired.mapP{α β:Type}{F G:α->β->Prop}:∀{J:List α} {U:List β},Paired F J U->(∀a b,F a b->G a b)->Paired G J U
 |_,_,.nil,_=>.nil
 |_,_,.cons r t,f=>.cons (f _ _ r) (Paired.mapP t f)
abbrev DS:=@Paired.mapP
theorem xu.stay(x:xu P w H h a o)(k:∀b u,(b=a\/H b=some (.own a))->h.get? b=some u->h'.get? b=some u)
 (ho:∀b,H b=some (.own a)->H' b=some (.own a)) (ht:∀b xs,H b=some (.tup xs)->H' b=some (.tup xs)):xu P w H' h' a o:=by
 induction o with
 |lst xs=>obtain⟨z,g,n,r,e⟩:=x;exact⟨z,g,n,r,k _ _ (.inl rfl) e⟩
 |tup xs=>obtain⟨z,g,r,ob,e,c⟩:=x;exact⟨z,g,r,ob,k _ _ (.inl rfl) e,c⟩
 |dK j=>obtain⟨z,y,vs,r,ob,J,U,e,c⟩:=x;exact⟨z,y,vs,r,ob,J,U,k _ _ (.inl rfl) e,c⟩
 |dT j=>
  obtain⟨z,y,xs,r,ob,J,U,e,c⟩:=x;exact⟨z,y,xs,DS r λp q z=>⟨z.1,ht _ _ z.2.1,z.2.2⟩,ob,J,U,k _ _ (.inl rfl) e,c⟩
 |set S n=>obtain⟨ob,J,U,t,e,c⟩:=x;exact⟨ob,J,U,t,k _ _ (.inl rfl) e,c⟩
 |ins C dx fs=>
  obtain⟨d,z,ne,e,l,⟨I,J,U,e2,c⟩,r⟩:=x;exact⟨ho _ d,z,ne,k _ _ (.inl rfl) e,l,⟨I,J,U,k _ _ (.inr d) e2,c⟩,r⟩
 |own y=>obtain⟨ob,e⟩:=x;exact⟨ob,k _ _ (.inl rfl) e⟩
 |xd fs=>obtain⟨l,⟨I,J,U,e,c⟩,r⟩:=x;exact⟨l,⟨I,J,U,k _ _ (.inl rfl) e,c⟩,r⟩
 |rng lo hi=>obtain⟨t,u,v,e⟩:=x;exact⟨t,u,v,k _ _ (.inl rfl) e⟩
 |frz ob u ih=>obtain⟨e,q⟩:=x;exact⟨k _ _ (.inl rfl) e,ih q⟩
 |tbl T=>
  have e:h.get? a=some { cls:=.none,data:=.fields T }:=x;show h'.get? a=some { cls:=.none,data:=.fields T };exact k a _ (.inl rfl) e
 |met f y=>
  have e:h.get? a=some (PySem.W.methodObj (.ref f) (.ref y)):=x;show h'.get? a=some (PySem.W.methodObj (.ref f) (.ref y));exact k a _ (.inl rfl) e
 |ext φ=>obtain⟨p,⟨o,e⟩,st⟩:=x;exact⟨st _ _ p λo q=>k _ _ (.inl rfl) q,⟨o,k _ _ (.inl rfl) e⟩,st⟩
theorem dW.lt(x:dW P w H h)(e:H a=some o):a<h.objs.size:=(x a o e).lt
theorem dW.fresh(x:dW P w H h)(e:h.objs.size<=a):H a=none:=by cases q:H a with|none=>rfl|some u=>exact absurd (AL (x.lt q) e) (Co _)
theorem dW.kept(x:dW P w H h)(k:∀b u,h.get? b=some u->h'.get? b=some u):dW P w H h':=λa o e=>
 (x a o e).stay (λb u _ q=>k b u q) (λ_ q=>q) λ_ _ q=>q
theorem dW.laid(x:dW P w H h)(k:∀b u,h.get? b=some u->h'.get? b=some u)(g:h.objs.size<=a)(new:xu P w (upd H a o) h' a o):dW P w (upd H a o) h':=λb u e=>by
 have J:=x.fresh g;by_cases U:b=a
 ·subst U;rw[zg] at e;cases e;exact new
 ·rw[qr U] at e;exact(x b u e).stay (λc v _ q=>k c v q) (λc q=>by rw[qr (zr q J)];exact q) λc j q=>by rw[qr (zr q J)];exact q
end
def Rd(H:Hp)(a:Addr)(u:HO):Prop:=H a=some u\/∃o,H a=some (.frz o u)
theorem Rd.ok{P:Program}{w:World}{H:Hp}{u:HO}(r:Rd H a u)(x:dW P w H h):xu P w H h a u:=by
 rcases r with r|⟨o,r⟩
 ·exact x a u r
 ·obtain⟨_,q⟩:=x a _ r;exact q
def Mut:Option HO->Prop
 |some (.lst _)=>True
 |some (.dK _)=>True
 |some (.dT _)=>True
 |some (.set _ _)=>True
 |some (.ins _ _ _)=>True
 |some (.ext _)=>True
 |_=>False
section
variable {P:Program}{w:World}{H:Hp}{x e:Addr}{o':HO}
theorem dW.write(ok:dW P w H h)(j:Mut (H x))(C:e=x\/H e=some (.own x))(k:∀b u,b≠e->h.get? b=some u->h'.get? b=some u)(t:∃u,h'.get? e=some u)
 (new:xu P w (upd H x o') h' x o'):dW P w (upd H x o') h':=λb u q=>by
 have U:∀c y,H c=some (.own y)->c≠x:=λc y r z=>by subst z;rw[r] at j;exact j
 have g:∀c l,H c=some (.tup l)->c≠x:=λc l r z=>by subst z;rw[r] at j;exact j
 by_cases o:b=x
 ·subst o;rw[zg] at q;cases q;exact new
 ·rw[qr o] at q;by_cases J:b=e
  ·have I:H b=some (.own x):=by
    rcases C with z|z
    ·exact absurd (J.trans z) o
    ·rw[J];exact z
   rw[q] at I;cases I;obtain⟨v,T⟩:=t;exact⟨v,by rw[J];exact T⟩
  ·refine(ok b u q).stay (λc v p r=>k c v ?_ r) (λc r=>by rw[qr (U c b r)];exact r) λc l r=>by rw[qr (g c l r)];exact r
   rcases p with rfl|p
   ·exact J
   ·rintro rfl;rcases C with z|z
    ·exact U c b p z
    ·rw[p] at z;cases z;exact o rfl
end
structure Un(fs ex:List Addr)(H H':Hp)(h h':Heap):Prop where
 keep:∀b o,h.get? b=some o->H b=none->b∉fs->b∉ex->h'.get? b=some o
 slot:∀b o,h.get? b=some o->H b=none->b∈fs->b∉ex->∃sl,h'.get? b=some { o with slots:=sl }
 free:∀b o,h.get? b=some o->H b=none->b∉ex->H' b=none
 there:∀b o,h.get? b=some o->b∉ex->∃o',h'.get? b=some o'
 tups:∀b xs,H b=some (.tup xs)->H' b=some (.tup xs)
 frzs:∀b o u,H b=some (.frz o u)->H' b=some (.frz o u)
 tbls:∀b ps,H b=some (.tbl ps)->∃more,H' b=some (.tbl (ps++more))
section
variable {fs fs' ex ex':List Addr}{H H1 H2:Hp}{h1 h2:Heap}{x e:Addr}{o:HO}
theorem Un.any(u:Un fs ex H H1 h h1){ob:Obj}(q:h.get? b=some ob)(n:H b=none)(J:b∉ex):∃g,h1.get? b=some { ob with slots:=g }:=by
 by_cases U:b∈fs
 ·exact u.slot b ob q n U J
 ·exact⟨ob.slots,u.keep b ob q n U J⟩
theorem Un.kept(k:∀b u,h.get? b=some u->h'.get? b=some u):Un fs ex H H h h':=
 ⟨λb ob q _ _ _=>k b ob q,λb ob q _ _ _=>⟨ob.slots,k b ob q⟩,λ_ _ _ n _=>n,λb ob q _=>⟨ob,k b ob q⟩,λ_ _ q=>q,λ_ _ _ q=>q,λ_ J q=>⟨#[],by rw[q];simp⟩⟩
theorem Un.refl:Un fs ex H H h h:=Un.kept λ_ _ q=>q
theorem Un.laid(k:∀b u,h.get? b=some u->h'.get? b=some u)(U:h.objs.size<=a)(J:H a=none):Un fs ex H (upd H a o) h h' where
 keep:=λb u q _ _ _=>k b u q
 slot:=λb u q _ _ _=>⟨u.slots,k b u q⟩
 free:=λb u q n _=>by rw[qr (AZ (AL (xa q) U))];exact n
 there:=λb u q _=>⟨u,k b u q⟩
 tups:=λb g q=>by rw[qr (zr q J)];exact q
 frzs:=λb u g q=>by rw[qr (zr q J)];exact q
 tbls:=λb j q=>⟨#[],by rw[qr (zr q J),q];simp⟩
theorem Un.write(U:Mut (H x))(t:e=x\/H e=some (.own x))(k:∀b u,b≠e->h.get? b=some u->h'.get? b=some u)(g:∃u,h'.get? e=some u):Un fs ex H (upd H x o) h h':=by
 have l:∀b,H b=none->b≠x:=λb n z=>by subst z;rw[n] at U;exact U
 have p:∀b,H b=none->b≠e:=λb n z=>by
  subst z;rcases t with r|r
  ·exact l b n r
  ·rw[n] at r;cases r
 have j:∀b u,H b=some u->¬Mut (some u)->b≠x:=λb u q nm z=>by subst z;rw[q] at U;exact nm U
 refine⟨λb u q n _ _=>k b u (p b n) q,λb u q n _ _=>⟨u.slots,k b u (p b n) q⟩,λb u q n _=>by rw[qr (l b n)];exact n,λb u q _=>?_,
  λb C q=>by rw[qr (j b _ q λz=>z)];exact q,λb u C q=>by rw[qr (j b _ q λz=>z)];exact q,λb I q=>⟨#[],by rw[qr (j b _ q λz=>z),q];simp⟩⟩
 by_cases J:b=e
 ·subst J;exact g
 ·exact⟨u,k b u J q⟩
end
def trk(h:Heap)(H:Hp):List Addr:=(List.range h.objs.size).filter λa=>(H a).isSome
def o6(h:Heap)(H:Hp):Heap:=PySem.W.hideAll h (trk h H)
theorem xD(h:Heap)(H:Hp):(o6 h H).objs.size=h.objs.size:=PySem.W.hideAll_size _ _
theorem ace{H:Hp}{o:Obj}(e:h.get? b=some o)(n:H b=none):(o6 h H).get? b=some o:=
 CB _ e λJ=>by have q:(H b).isSome=true:=(AJ.mp J).2;rw[n] at q;simp at q
theorem afe{H:Hp}{o:Obj}(e:(o6 h H).get? b=some o):h.get? b=some o/\H b=none:=by
 have J:h.get? b=some o:=Ci (trk h H) e;refine⟨J,?_⟩;cases q:H b with
 |none=>rfl
 |some x=>
  have U:b∈trk h H:=AJ.mpr ⟨A8.mpr (xa J),by simp[q]⟩;have z:(o6 h H).get? b=none:=BB (trk h H) U;rw[z] at e;cases e
end L2
variable {xs zs:List L2.V}{H H' H₀:L2.Hp}{v:L2.V}
namespace L2
open PySem PySem.Spec PyProof.Rows
structure Mod(K:Ae)(mg:Str->Option Value)(base:Heap):Prop where
 kin:K.In base
 glob:base.Ns mainGlobals mg
 blt:∃mb,base.Ns builtinsNs mb/\∀x:Str,x ≠ "__name__" -> mb x=bootBuiltins x
 nolimit:base.NoLimit
structure Cx where
 prog:Program
 w:World
 K:Ae
 mg:Str->Option Value
 base:Heap
 A:Around
 N:List Str
 s₀:Shared
 H₀:Hp
 env:Env
 outer:List Env
 stack:List Env
 ex:List Addr
 fn:Str->Bool
 calm:Bool
 pn:List (Addr×Obj)
 xe:Value->Shared->Prop
def bw(l:List Env):List Addr:=l.filterMap (·.frame)
abbrev Cx.fs(X:Cx):List Addr:=bw X.outer
def Vis(J:Scope)(x:Str):Prop:=J.names.lookup x=some .local\/J.names.lookup x=some .cell\/J.names.lookup x=some .free
def zR(J:Scope)(x:Str):Prop:=J.names.lookup x=some .local\/J.names.lookup x=some .cell
def are(env:Env)(h:Heap)(m:Str->Option Value)(x:Str)(u:Value):Prop:=
 (env.kindOf x=some .local/\m x=some u)\/((env.kindOf x=some .cell\/env.kindOf x=some .free)/\∃c,env.cells.lookup x=some c/\h.IsCell c (some u))
structure Cx.Ok(X:Cx):Prop where
 mod:Mod X.K X.mg X.base
 kind:X.env.scope.kind=.function
 glob:X.env.globals=mainGlobals
 blt:X.env.builtins=builtinsNs
 above:X.s₀.heap.objs.size<=X.env.locals
 inj:∀x y c,X.env.cells.lookup x=some c->X.env.cells.lookup y=some c->x=y
 has:∀x,(X.env.kindOf x=some .cell\/X.env.kindOf x=some .free)->∃c,X.env.cells.lookup x=some c
 cab:∀x c,X.fn x=true->X.env.cells.lookup x=some c->X.s₀.heap.objs.size<=c
 hd:X.calm=true->X.A.handled=none
 frames:X.A.frames=some X.stack
 stk:X.stack=X.outer\/(X.stack=X.env::X.outer/\X.env.frame=some X.env.locals)
 exf:∀b∈X.ex,b≠X.env.locals/\∀x c,X.env.cells.lookup x=some c->c≠b
 bs:∀b o,X.base.get? b=some o->X.s₀.heap.get? b=some o/\X.H₀ b=none
 bsz:X.base.objs.size<=X.s₀.heap.objs.size
 noex:∀b o,X.base.get? b=some o->b∉X.ex
 exfs:∀b∈X.ex,b∉X.fs
 funs:X.s₀.heap.FunFrames X.base X.outer
 frf:∀b∈X.fs,X.H₀ b=none
structure z0(X:Cx)(pins:List (Addr×Obj))(σ:List (Option V))(H:Hp)(s:Shared):Prop where
 ok:X.Ok
 os:s.os=X.s₀.os
 bare:AllBare s.gens
 base:Un X.fs X.ex X.H₀ H X.s₀.heap s.heap
 loc:∃m,s.heap.Ns X.env.locals m/\∀(i:Nat) (x:Str) (v:V),X.N[i]?=some x->σ[i]?=some (some v)->Vis X.env.scope x->∃u,zv v u/\are X.env s.heap m x u
 cell:∀x c,X.env.cells.lookup x=some c->∃v,s.heap.IsCell c v
 free:H X.env.locals=none
 freeC:∀x c,X.env.cells.lookup x=some c->H c=none
 pin:∀p∈X.pn++pins,s.heap.get? p.1=some p.2/\H p.1=none/\p.1≠X.env.locals/\p.1∉X.fs/\∀v,p.2.data≠.cell v
 hok:dW X.prog X.w H s.heap
 len:σ.length=X.N.length
 tk:0<s.toks
section
variable {X:Cx}{σ:List (Option V)}
theorem Cx.Ok.nofr(ok:X.Ok){o:Obj}(e:X.base.get? b=some o):b∉X.fs:=λJ=>by have:=(ok.funs.mem J).1;rw[e] at this;cases this
theorem z0.bs(I:z0 X pins σ H s):∀b o,X.base.get? b=some o->s.heap.get? b=some o/\H b=none:=λb o e=>
 ⟨I.base.keep b o (I.ok.bs b o e).1 (I.ok.bs b o e).2 (I.ok.nofr e) (I.ok.noex b o e),I.base.free b o (I.ok.bs b o e).1 (I.ok.bs b o e).2 (I.ok.noex b o e)⟩
theorem z0.bk(I:z0 X pins σ H s):∀b o,X.base.get? b=some o->s.heap.get? b=some o:=λb o e=>(I.bs b o e).1
theorem z0.mod(I:z0 X pins σ H s):Mod X.K X.mg X.base:=I.ok.mod
theorem z0.kIn(I:z0 X pins σ H s):X.K.In s.heap:=I.ok.mod.kin.keeps I.bk
theorem z0.nolimit(I:z0 X pins σ H s):s.heap.NoLimit:=I.ok.mod.nolimit.keeps I.bk
theorem z0.lt(I:z0 X pins σ H s):X.env.locals<s.heap.objs.size:=let ⟨_,J,_⟩:=I.loc;J.lt
theorem z0.sz(I:z0 X pins σ H s):X.s₀.heap.objs.size<=s.heap.objs.size:=AM I.ok.above (Bo I.lt)
theorem z0.nofs(I:z0 X pins σ H s)(h:s.heap.objs.size<=a):a∉X.fs:=λJ=>by obtain⟨_,o,U,_⟩:=I.ok.funs.mem J;exact absurd (AL (xa U) (AM I.sz h)) (Co _)
theorem z0.cne(I:z0 X pins σ H s):∀x c,X.env.cells.lookup x=some c->c≠X.env.locals:=λx c e z=>by obtain⟨v,o,g,hd⟩:=I.cell x c e;obtain⟨m,⟨j,l,p,J,U,_⟩,_⟩:=I.loc;rw[z,J] at g;cases g;rw[U] at hd;cases hd
theorem z0.funs(I:z0 X pins σ H s):s.heap.FunFrames X.base X.outer:=by
 have all:∀(l:List Env),(∀b∈bw l,b∈X.fs)->X.s₀.heap.FunFrames X.base l->s.heap.FunFrames X.base l:=by
  intro l
  induction l with
  |nil=>intro _ _;trivial
  |cons p r t=>
   intro j C;obtain⟨T,⟨L,o,J,hn,ho,hd⟩,hr⟩:=C;have U:L∈X.fs:=j L (by unfold bw;rw[CC,J];exact Aj);obtain⟨sl,e⟩:=I.base.slot L o ho (I.ok.frf L U) U λz=>I.ok.exfs L z U;exact⟨T,⟨L,_,J,hn,e,hd⟩,t (λb g=>j b (by unfold bw;rw[CC,J];exact Ad _ g)) hr⟩
 exact all X.outer (λ_ g=>g) I.ok.funs
theorem z0.stack(I:z0 X pins σ H s):s.heap.FunFrames X.base X.stack:=by
 rcases I.ok.stk with e|⟨e,J⟩
 ·rw[e];exact I.funs
 ·rw[e];obtain⟨m,U,_⟩:=I.loc;refine .cons (by rw[I.ok.kind];decide) J U ?_ I.funs;exact Heap.get?_none_of_le (AM I.ok.bsz I.ok.above)
theorem z0.stkSub(I:z0 X pins σ H s):∀b∈bw X.stack,b∈X.env.locals::X.fs:=λb J=>by
 rcases I.ok.stk with e|⟨e,U⟩
 ·rw[e] at J;exact Ad _ J
 ·rw[e] at J;unfold bw at J;rw[CC,U] at J;exact J
theorem z0.stkFree(I:z0 X pins σ H s):∀b∈bw X.stack,H b=none:=λb J=>by
 rcases Am.mp (I.stkSub b J) with e|J
 ·rw[e];exact I.free
 ·obtain⟨_,o,U,_⟩:=I.ok.funs.mem J;exact I.base.free b o U (I.ok.frf b J) λz=>I.ok.exfs b z J
theorem z0.step{g':Array GenState}{d':Drawn}(I:z0 X pins σ H s)
 (U:∀b∈ch,(b∈X.ex\/X.s₀.heap.objs.size<=b)/\b≠X.env.locals/\(∀x c,X.env.cells.lookup x=some c->c≠b)/\∀p∈X.pn++pins,p.1≠b)
 (keep:∀b o,b≠X.env.locals->b∉X.fs->b∉ch->s.heap.get? b=some o->H b=none->h'.get? b=some o)
 (slot:∀b o,b≠X.env.locals->b∈X.fs->b∉ch->s.heap.get? b=some o->H b=none->∃sl,h'.get? b=some { o with slots:=sl }) (free:∀b o,b∉ch->s.heap.get? b=some o->H b=none->H' b=none)
 (there:∀b o,b∉ch->s.heap.get? b=some o->∃o',h'.get? b=some o')
 (tups:∀b xs,H b=some (.tup xs)->H' b=some (.tup xs)) (frzs:∀b o u,H b=some (.frz o u)->H' b=some (.frz o u)) (tbls:∀b ps,H b=some (.tbl ps)->∃more,H' b=some (.tbl (ps++more)))
 (ns:∀m,s.heap.Ns X.env.locals m->h'.Ns X.env.locals m) (hok:dW X.prog X.w H' h') (hg:AllBare g') (ht:0<t':=by walk_at "t"):
 z0 X pins σ H' { s with heap:=h',gens:=g',drawn:=d',toks:=t' }:=by
 have km:∀b o,X.s₀.heap.get? b=some o->b≠X.env.locals:=λb o e=>AZ (AL (xa e) I.ok.above);have t:∀b o,X.s₀.heap.get? b=some o->b∉X.ex->b∉ch:=λb o e J T=>by
  rcases (U b T).1 with z|z
  ·exact J z
  ·exact absurd (AL (xa e) z) (Co _)
 have g:∀x c,X.env.cells.lookup x=some c->∀v,s.heap.IsCell c v->h'.IsCell c v:=λx c e v ⟨o,ho,hd⟩=>by
  have j:c∉ch:=λz=>(U c z).2.2.1 x c e rfl;by_cases hc:c∈X.fs
  ·obtain⟨sl,q⟩:=slot c o (I.cne x c e) hc j ho (I.freeC x c e);exact⟨_,q,hd⟩
  ·exact⟨o,keep c o (I.cne x c e) hc j ho (I.freeC x c e),hd⟩
 refine⟨I.ok,I.os,hg,⟨λb o e n T J=>?_,λb o e n T J=>?_,λb o e n J=>?_,λb o e J=>?_,λb xs e=>tups b xs (I.base.tups b xs e),λb o xs e=>frzs b o xs (I.base.frzs b o xs e),λb ps e=>?_⟩,?_,λx c e=>?_,?_,λx c e=>?_,λp hp=>?_,hok,I.len,ht⟩
 ·exact keep b o (km b o e) T (t b o e J) (I.base.keep b o e n T J) (I.base.free b o e n J)
 ·obtain⟨sl,C⟩:=I.base.slot b o e n T J;obtain⟨a1,e2⟩:=slot b _ (km b o e) T (t b o e J) C (I.base.free b o e n J);exact⟨a1,e2⟩
 ·obtain⟨o',C⟩:=I.base.there b o e J;exact free b o' (t b o e J) C (I.base.free b o e n J)
 ·obtain⟨o',C⟩:=I.base.there b o e J;exact there b o' (t b o e J) C
 ·obtain⟨m1,C⟩:=I.base.tbls b ps e;obtain⟨m2,e2⟩:=tbls b _ C;exact⟨m1++m2,by rw[e2,Array.append_assoc]⟩
 ·obtain⟨m,hn,hl⟩:=I.loc;refine⟨m,ns m hn,λi x v C e2 e3=>?_⟩;obtain⟨u,r,l⟩:=hl i x v C e2 e3;refine⟨u,r,?_⟩;rcases l with l|⟨k,c,e,z⟩
  ·exact .inl l
  ·exact .inr ⟨k,c,e,g x c e _ z⟩
 ·obtain⟨v,z⟩:=I.cell x c e;exact⟨v,g x c e v z⟩
 ·obtain⟨m,⟨o,_,_,ho,_⟩,_⟩:=I.loc;exact free _ o (λz=>(U _ z).2.1 rfl) ho I.free
 ·obtain⟨v,o,ho,hd⟩:=I.cell x c e;exact free c o (λz=>(U c z).2.2.1 x c e rfl) ho (I.freeC x c e)
 ·obtain⟨e,n,ne,nf,d⟩:=I.pin p hp;have j:p.1∉ch:=λz=>(U p.1 z).2.2.2 p hp rfl;exact⟨keep p.1 p.2 ne nf j e n,free p.1 p.2 j e n,ne,nf,d⟩
theorem z0.un(I:z0 X pins σ H s)(u:Un X.fs [] H H' s.heap h')(hok:dW X.prog X.w H' h')(T:0<t':=by walk_at "t"):z0 X pins σ H' { s with heap:=h',toks:=t' }:=by obtain⟨m,⟨o,es,ep,l,r⟩,_⟩:=id I.loc;obtain⟨sl,p⟩:=u.any l I.free (by simp);exact I.step (g':=s.gens) (d':=s.drawn) (ch:=[]) (λ_ z=>nomatch z) (λb o _ U _ e n=>u.keep b o e n U (by simp)) (λb o _ U _ e n=>u.slot b o e n U (by simp)) (λb o _ e n=>u.free b o e n (by simp)) (λb o _ e=>u.there b o e (by simp)) u.tups u.frzs u.tbls (λm' t=>by obtain⟨o',g,j,J,C⟩:=t;rw[l] at J;cases J;exact⟨_,g,j,p,C⟩) hok I.bare
theorem z0.call{g':Array GenState}{d':Drawn}(I:z0 X pins σ H s)(u:Un (bw X.stack) ch H H' s.heap h')(hok:dW X.prog X.w H' h')(T:AllBare g')
 (U:∀b∈ch,(b∈X.ex\/X.s₀.heap.objs.size<=b)/\b≠X.env.locals/\(∀x c,X.env.cells.lookup x=some c->c≠b)/\∀p∈X.pn++pins,p.1≠b) (ht:0<t':=by walk_at "t"):
 z0 X pins σ H' { s with heap:=h',gens:=g',drawn:=d',toks:=t' }:=by
 obtain⟨m,⟨o,es,ep,C,r⟩,_⟩:=id I.loc;obtain⟨sl,j⟩:=u.any C I.free λz=>(U _ z).2.1 rfl;exact I.step (ch:=ch) U (λb o j hb J e n=>u.keep b o e n (λz=>(Am.mp (I.stkSub b z)).elim j hb) J) (λb o _ _ J e n=>u.any e n J) (λb o J e n=>u.free b o e n J) (λb o J e=>u.there b o e J) u.tups u.frzs u.tbls (λm' hm=>by obtain⟨o',l,t,g,r'⟩:=hm;rw[C] at g;cases g;exact⟨_,l,t,j,r'⟩) hok T
theorem z0.turned(I:z0 X pins σ H s)(k:∀b o,b≠it->s.heap.get? b=some o->h'.get? b=some o)(j:H it=none)(g:it≠X.env.locals)
 (h1:it∈X.ex\/X.s₀.heap.objs.size<=it) (h2:∀x c,X.env.cells.lookup x=some c->c≠it) (h3:∀p∈X.pn++pins,p.1≠it) (ht:0<t':=by walk_at "t"):z0 X pins σ H { s with heap:=h',toks:=t' }:=by
 have U:∀b u,H b=some u->b≠it:=λb u e z=>by rw[z,j] at e;cases e
 refine I.step (g':=s.gens) (d':=s.drawn) (ch:=[it]) (λb l=>?_) (λb o _ _ J e _=>k b o (λz=>J (by simp[z])) e) (λb o _ _ J e _=>⟨o.slots,k b o (λz=>J (by simp[z])) e⟩) (λ_ _ _ _ n=>n)
  (λb o J e=>⟨o,k b o (λz=>J (by simp[z])) e⟩) (λ_ _ e=>e) (λ_ _ _ e=>e) (λb ps e=>⟨#[],by rw[e];simp⟩) (λm t=>?_) (λb u e=>?_) I.bare
 ·have e:b=it:=by simpa using l
  subst e;exact⟨h1,g,h2,h3⟩
 ·obtain⟨o,C,T,ho,r⟩:=t;exact⟨o,C,T,k _ o (AE g) ho,r⟩
 ·refine(I.hok b u e).stay (λc v J q=>k c v ?_ q) (λ_ q=>q) λ_ _ q=>q;rcases J with z|z
  ·rw[z];exact U b u e
  ·exact U c _ z
theorem z0.tok(I:z0 X pins σ H s)(t:Nat)(J:0<t:=by walk_at "t"):z0 X pins σ H { s with toks:=t }:=I.un (h':=s.heap) (t':=t) Un.refl I.hok
theorem z0.kept(I:z0 X pins σ H s)(k:∀b u,s.heap.get? b=some u->h'.get? b=some u)(J:0<t':=by walk_at "t"):z0 X pins σ H { s with heap:=h',toks:=t' }:=I.un (Un.kept k) (I.hok.kept k)
theorem z0.laid{o:HO}(I:z0 X pins σ H s)(k:∀b u,s.heap.get? b=some u->h'.get? b=some u)(J:s.heap.objs.size<=a)(new:xu X.prog X.w (upd H a o) h' a o)(U:0<t':=by walk_at "t"):
 z0 X pins σ (upd H a o) { s with heap:=h',toks:=t' }:=I.un (Un.laid k J (I.hok.fresh J)) (I.hok.laid k J new)
theorem z0.write{x e:Addr}{o:HO}(I:z0 X pins σ H s)(U:Mut (H x))(g:e=x\/H e=some (.own x))(k:∀b u,b≠e->s.heap.get? b=some u->h'.get? b=some u)(J:∃u,h'.get? e=some u)
 (new:xu X.prog X.w (upd H x o) h' x o) (j:0<t':=by walk_at "t"):z0 X pins σ (upd H x o) { s with heap:=h',toks:=t' }:=I.un (Un.write U g k J) (I.hok.write U g k J new)
theorem z0.weak{hQ:List (Option V)}(I:z0 X pins σ H s)(U:hQ.length=σ.length)(w:∀(i:Nat) v,hQ[i]?=some (some v)->σ[i]?=some (some v)):z0 X pins hQ H s:=
 ⟨I.ok,I.os,I.bare,I.base,let ⟨m,g,J⟩:=I.loc;⟨m,g,λi x v j l o=>J i x v j (w i v l) o⟩,I.cell,I.free,I.freeC,I.pin,I.hok,U.trans I.len,I.tk⟩
theorem z0.pins_of{J:List (Addr×Obj)}(I:z0 X pins σ H s)(h:∀p∈J,s.heap.get? p.1=some p.2/\H p.1=none/\p.1≠X.env.locals/\p.1∉X.fs/\∀v,p.2.data≠.cell v):z0 X J σ H s:=
 ⟨I.ok,I.os,I.bare,I.base,I.loc,I.cell,I.free,I.freeC,λp U=>(Aq.mp U).elim (λz=>I.pin p (Ar _ z)) (h p),I.hok,I.len,I.tk⟩
theorem r6{N:List Str}(J:N.Nodup)(a:N[i]?=some x)(b:N[j]?=some x):i=j:=by obtain⟨h1,U⟩:=AW.mp a;obtain⟨h2,g⟩:=AW.mp b;exact(List.getElem_inj J).mp (U.trans g.symm)
theorem oQ{Q:Unit->Shared->Prop}(I:z0 X pins σ H s)(hN:X.N.Nodup)(hi:X.N[i]?=some x)(t:zR X.env.scope x)(r:zv v u)
 (h:∀s',z0 X pins (σ.set i (some v)) H s'->(∃a,Heap.SameBut a s.heap s'.heap/\(a=X.env.locals\/X.env.cells.lookup x=some a))->(X.env.kindOf x=some .local->∃m',s'.heap.Ns X.env.locals m'/\m' x=some u)->Q () s') (hf:X.fn x=true\/X.env.scope.names.lookup x=some .local:=by first|exact .inl rfl|exact .inr rfl|assumption):wpAny M A (storeName X.env x u) Q E s:=by
 obtain⟨m,hn,hl⟩:=id I.loc;have a3:(X.env.scope.kind==.class||(X.env.scope.kind==.module&&X.env.locals != X.env.globals))=false:=by rw[I.ok.kind];rfl
 have a1:i<σ.length:=by rw[I.len];exact(AW.mp hi).1
 have cne:=I.cne;have U:∀{a:Addr} {h':Heap},(∃o,s.heap.get? a=some o/\H a=none)->Heap.SameBut a s.heap h'->dW X.prog X.w H h':=λ{a h'} ha J b ob e=>by
  obtain⟨_,_,C⟩:=ha;refine(I.hok b ob e).stay (λc w' l q=>(J.2 c ?_).trans q) (λ_ q=>q) λ_ _ q=>q;rintro rfl;rcases l with rfl|l
  ·rw[C] at e;cases e
  ·rw[C] at l;cases l
 rcases t with T|T
 ·refine wpAny_storeName_local T hn (λh' a4 J=>?_) a3;obtain⟨oL,_,_,au,_⟩:=id hn;refine h _ ⟨I.ok,I.os,I.bare,⟨λb o e n hb t=>?_,λb o e n hb t=>?_,I.base.free,λb o e t=>?_,I.base.tups,I.base.frzs,I.base.tbls⟩,⟨_,a4,λj y v' g e2 e3=>?_⟩,λy c e=>?_,I.free,I.freeC,λp hp=>?_,U ⟨oL,au,I.free⟩ J,by simpa using I.len,by first|exact I.tk|exact C7 _⟩ ⟨_,J,.inl rfl⟩ (λ_=>⟨_,a4,by simp⟩)
  ·exact(J.2 b (AZ (AL (xa e) I.ok.above))).trans (I.base.keep b o e n hb t)
  ·obtain⟨sl,g⟩:=I.base.slot b o e n hb t;exact⟨sl,(J.2 b (AZ (AL (xa e) I.ok.above))).trans g⟩
  ·obtain⟨o',g⟩:=I.base.there b o e t;exact⟨o',(J.2 b (AZ (AL (xa e) I.ok.above))).trans g⟩
  ·by_cases hj:j=i
   ·subst hj;rw[hi] at g;cases g;rw[BR a1] at e2;cases e2;exact⟨u,r,.inl ⟨T,by simp⟩⟩
   ·rw[Bu (AE hj)] at e2;obtain⟨u',r',q⟩:=hl j y v' g e2 e3;refine⟨u',r',?_⟩;rcases q with⟨k,e⟩|⟨k,c,e,z⟩
    ·refine .inl ⟨k,?_⟩;have:y≠x:=λe=>hj (r6 hN g (e▸hi));simp[this,e]
    ·exact .inr ⟨k,c,e,z.sameBut J (cne y c e)⟩
  ·obtain⟨w',z⟩:=I.cell y c e;exact⟨w',z.sameBut J (cne y c e)⟩
  ·obtain⟨e,n,ne,nf,d⟩:=I.pin p hp;exact⟨(J.2 p.1 ne).trans e,n,ne,nf,d⟩
 ·have a2:X.fn x=true:=by
   rcases hf with z|z
   ·exact z
   ·rw[z] at T;cases T
  obtain⟨c,l⟩:=I.ok.has x (.inl T);obtain⟨w',z⟩:=I.cell x c l;refine wpAny_storeName_cell I.ok.kind T l z (λh' a5 J=>?_);obtain⟨oc,ag,al⟩:=id z;refine h { s with heap:=h' } ⟨I.ok,I.os,I.bare,⟨λb o e n hb t=>?_,λb o e n hb t=>?_,I.base.free,λb o e t=>?_,I.base.tups,I.base.frzs,I.base.tbls⟩,⟨m,hn.sameBut J (AE (cne x c l)),λj y v' g e2 e3=>?_⟩,λy c' e=>?_,I.free,I.freeC,λp hp=>?_,U ⟨oc,ag,I.freeC x c l⟩ J,by simpa using I.len,I.tk⟩ ⟨c,J,.inr l⟩ (λz=>by have e:=(show X.env.kindOf x=some .cell from T).symm.trans z;cases e)
  ·exact(J.2 b (AZ (AL (xa e) (I.ok.cab x c a2 l)))).trans (I.base.keep b o e n hb t)
  ·obtain⟨sl,g⟩:=I.base.slot b o e n hb t;exact⟨sl,(J.2 b (AZ (AL (xa e) (I.ok.cab x c a2 l)))).trans g⟩
  ·obtain⟨o',g⟩:=I.base.there b o e t;exact⟨o',(J.2 b (AZ (AL (xa e) (I.ok.cab x c a2 l)))).trans g⟩
  ·by_cases hj:j=i
   ·subst hj;rw[hi] at g;cases g;rw[BR a1] at e2;cases e2;exact⟨u,r,.inr ⟨.inl T,c,l,a5⟩⟩
   ·rw[Bu (AE hj)] at e2;obtain⟨u',r',q⟩:=hl j y v' g e2 e3;refine⟨u',r',?_⟩;rcases q with q|⟨k,c',e,z'⟩
    ·exact .inl q
    ·refine .inr ⟨k,c',e,z'.sameBut J ?_⟩;rintro rfl;exact hj (r6 hN g (I.ok.inj _ _ _ e l▸hi))
  ·by_cases ao:c'=c
   ·subst ao;exact⟨_,a5⟩
   ·obtain⟨w2,z2⟩:=I.cell y c' e;exact⟨w2,z2.sameBut J ao⟩
  ·obtain⟨e,n,ne,nf,d⟩:=I.pin p hp;refine⟨(J.2 p.1 ?_).trans e,n,ne,nf,d⟩;intro q;rw[q,ag] at e;have q':oc=p.2:=AO e;exact d w' (by rw[<-q'];exact al)
theorem gN{Q:Unit->Shared->Prop}(I:z0 X pins σ H s)(J:X.N.Nodup)(hi:X.N[i]?=some x)(U:zR X.env.scope x)(r:zv v u)
 (h:∀s',z0 X pins (σ.set i (some v)) H s'->Q () s') (g:X.fn x=true\/X.env.scope.names.lookup x=some .local:=by first|exact .inl rfl|exact .inr rfl|assumption):wpAny M A (storeName X.env x u) Q E s:=
 oQ I J hi U r (λs' j _ _=>h s' j) g
theorem z0.call'(I:z0 X pins σ H s)(U:s'.os=s.os)(u:Un (bw X.stack) ch H H' s.heap s'.heap)(hok:dW X.prog X.w H' s'.heap)(g:AllBare s'.gens)
 (J:∀b∈ch,(b∈X.ex\/X.s₀.heap.objs.size<=b)/\b≠X.env.locals/\(∀x c,X.env.cells.lookup x=some c->c≠b)/\∀p∈X.pn++pins,p.1≠b) (j:0<s'.toks:=by walk_at "t"):z0 X pins σ H' s':=by
 obtain⟨o,g',d',t',l⟩:=s';have e:l=s.os:=U;subst e;exact I.call (g':=g') (t':=t') (d':=d') u hok g J j
end
abbrev XK:=Value->Option Addr->Hp->Prop
abbrev St:=List (Option V)
abbrev VK:=V->Hp->Prop
abbrev TE:=St->Hp->VK->Prop
abbrev TT:=St->Hp->(Bool->Hp->Prop)->Prop
abbrev TA:=St->Hp->(List V->Hp->Prop)->Prop
structure pW where
 nx:St->Hp->Prop
 rt:VK
 bk:St->Hp->Prop:=λ_ _=>False
 ct:St->Hp->Prop:=λ_ _=>False
abbrev TS:=pW->St->Hp->Prop
def EP(X:Cx)(pins:List (Addr×Obj))(σ:St)(Q:VK)(u:Value)(s':Shared):Prop:=∃v H',z0 X pins σ H' s'/\zv v u/\Q v H'
def TP(X:Cx)(pins:List (Addr×Obj))(σ:St)(Q:Bool->Hp->Prop)(b:Bool)(s':Shared):Prop:=∃H',z0 X pins σ H' s'/\Q b H'
def AP(X:Cx)(pins:List (Addr×Obj))(σ:St)(Q:List V->Hp->Prop)(us:List Value)(s':Shared):Prop:=∃vs H',z0 X pins σ H' s'/\zp vs us/\Q vs H'
def SP(X:Cx)(pins:List (Addr×Obj))(D:pW)(f:Flow)(s':Shared):Prop:=
 match f with
 |.next=>∃hQ H',z0 X pins hQ H' s'/\D.nx hQ H'
 |.brk=>∃hQ H',z0 X pins hQ H' s'/\D.bk hQ H'
 |.cont=>∃hQ H',z0 X pins hQ H' s'/\D.ct hQ H'
 |.ret u=>∃v hQ H',z0 X pins hQ H' s'/\zv v u/\D.rt v H'
def PE(X:Cx)(e:Expr)(t:TE):Prop:=
 ∀(pins:List (Addr×Obj)) (s:Shared) (σ:St) (H:Hp) (Q:VK),z0 X pins σ H s->t σ H Q->wpAny (model X.prog X.w) X.A (eval e X.env) (EP X pins σ Q) X.xe s
def PT(X:Cx)(e:Expr)(t:TT):Prop:=
 ∀(pins:List (Addr×Obj)) (s:Shared) (σ:St) (H:Hp) (Q:Bool->Hp->Prop),z0 X pins σ H s->t σ H Q->wpAny (model X.prog X.w) X.A (isTrue e X.env (eval e X.env)) (TP X pins σ Q) X.xe s
def PW(X:Cx)(e:Expr)(t:TT):Prop:=
 ∀(whole:Sem Value) (pins:List (Addr×Obj)) (s:Shared) (σ:St) (H:Hp) (Q:Bool->Hp->Prop),z0 X pins σ H s->t σ H Q->wpAny (model X.prog X.w) X.A (isTrue e X.env whole) (TP X pins σ Q) X.xe s
theorem PW.pt{X:Cx}{t:TT}(h:PW X e t):PT X e t:=h _
def PA(X:Cx)(es:List Expr)(t:TA):Prop:=
 ∀(pos:Pos) (pins:List (Addr×Obj)) (s:Shared) (σ:St) (H:Hp) (Q:List V->Hp->Prop),z0 X pins σ H s->t σ H Q->wpAny (model X.prog X.w) X.A (spliced (backTo pos (starEach es X.env))) (AP X pins σ Q) X.xe s
def PS(X:Cx)(st:Stmt)(t:TS):Prop:=
 ∀(pins:List (Addr×Obj)) (s:Shared) (σ:St) (H:Hp) (D:pW),z0 X pins σ H s->t D σ H->wpAny (model X.prog X.w) X.A (exec st X.env) (SP X pins D) X.xe s
def fZ(X:Cx)(st:List Stmt)(t:TS):Prop:=
 ∀(pins:List (Addr×Obj)) (s:Shared) (σ:St) (H:Hp) (D:pW),z0 X pins σ H s->t D σ H->wpAny (model X.prog X.w) X.A (execs st X.env) (SP X pins D) X.xe s
theorem aF{t:Sem α}{Q J:α->Shared->Prop}(h:wpAny M A t Q E s)(U:∀a s,Q a s->J a s):wpAny M A t J E s:=AV h U λ_ _ x=>x
theorem ah{t:Sem Value}{X:Cx}{σ:St}{Q:VK}{J:Value->Shared->Prop}(h:wpAny M A t (EP X pins σ Q) E s)(U:∀v s x H,z0 X pins σ H s->zv x v->Q x H->J v s):wpAny M A t J E s:=aF h λv s ⟨x,H,a,b,c⟩=>U v s x H a b c
theorem yU{t:Sem (List Value)}{X:Cx}{σ:St}{Q:List V->Hp->Prop}{J:List Value->Shared->Prop}(h:wpAny M A t (AP X pins σ Q) E s)(U:∀v s x H,z0 X pins σ H s->zp x v->Q x H->J v s):wpAny M A t J E s:=aF h λv s ⟨x,H,a,b,c⟩=>U v s x H a b c
end L2
variable {r:L2.V->Option Int->Option Int->L2.Hp->L2.VK->Prop}{X:L2.Cx}{σ:L2.St}{tc:L2.TT}{ta:L2.TE}
namespace L2
open PySem PySem.Spec PyProof.Rows
section
def aj9(i:Nat):TE:=λσ H Q=>∃v,σ[i]?=some (some v)/\Q v H
def tC(v:V):TE:=λ_ H Q=>Q v H
abbrev Ed(x:Str):Prop:=(x==("__debug__":Str))=false
abbrev Ee(x:Str):Prop:=(x==("__classdict__":Str))=false
theorem aie(p:X.N[i]?=some x)(t:Vis X.env.scope x)(hd:Ed x:=by decide)(j:Ee x:=by decide):PE X (.Name x pos) (aj9 i):=by
 intro g s C H Q I h;obtain⟨v,e,h⟩:=h;obtain⟨m,T,hl⟩:=I.loc;obtain⟨u,r,l⟩:=hl i x v p e t;have xg:EP X g C Q u s:=⟨v,H,I,r,h⟩;rcases l with⟨U,hm⟩|⟨U,c,o,J⟩
 ·exact wpAny_Name (wpAny_loadName_local I.ok.kind U T hm xg) hd
 ·rcases U with U|U
  ·exact wpAny_Name (wpAny_loadName_cell I.ok.kind U o J xg) hd
  ·exact wpAny_Name (wpAny_loadName_free I.ok.kind U o J xg j) hd
theorem m7{i j pos}:PE X (.Constant (.int i) j pos) (tC (.int i)):=λ_ _ _ H _ I h=>wpAny_Constant_int ⟨.int i,H,I.tok _,⟨_,rfl⟩,h⟩
theorem an2{b j pos}:PE X (.Constant (.bool b) j pos) (tC (.bl b)):=λ_ _ _ H _ I h=>Constant_bool ⟨.bl b,H,I,rfl,h⟩
theorem aia{j pos}:PE X (.Constant .none j pos) (tC .non):=λ_ _ _ H _ I h=>Constant_none ⟨.non,H,I,rfl,h⟩
theorem aR{x j pos}:PE X (.Constant (.str x) j pos) (tC (.str x)):=λ_ _ _ H _ I h=>Calls.Constant_str ⟨.str x,H,I.tok _,⟨_,rfl⟩,h⟩
def Gl(X:Cx)(x:Str):Prop:=X.env.kindOf x=some .globalImplicit
theorem gf(I:z0 X pins σ H s)(J:Gl X x)(U:X.mg x=some u)(h:Q u s)
 (hd:Ed x:=by decide):wpAny (model X.prog X.w) X.A (eval (.Name x pos) X.env) Q E s:=
 Calls.Name_function_global I.ok.kind J (Calls.loadGlobal_global (by rw[I.ok.glob];exact I.mod.glob.keeps I.bk) U h) hd
theorem cg(I:z0 X pins σ H s)(J:Gl X x)(U:X.mg x=none)(g:bootBuiltins x=some u)(h:Q u s)
 (j:x ≠ "__name__" := by decide) (hd:Ed x:=by decide):wpAny (model X.prog X.w) X.A (eval (.Name x pos) X.env) Q E s:=by
 obtain⟨l,h1,h2⟩:=I.mod.blt;exact Calls.Name_function_global I.ok.kind J (Calls.loadGlobal_builtin (by rw[I.ok.glob];exact I.mod.glob.keeps I.bk) U (by rw[I.ok.blt];exact h1.keeps I.bk) ((h2 x j).trans g) h) hd
theorem vS(J:Gl X x)(U:X.mg x=some u)(r:zv v u)(hd:Ed x:=by decide):PE X (.Name x pos) (tC v):=
 λ_ _ _ H _ I h=>gf I J U ⟨v,H,I,r,h⟩ hd
theorem ael(J:Gl X x)(U:X.mg x=none)(g:bootBuiltins x=some u)(r:zv v u)(j:x ≠ "__name__" := by decide)(hd:Ed x:=by decide):PE X (.Name x pos) (tC v):=
 λ_ _ _ H _ I h=>cg I J U g ⟨v,H,I,r,h⟩ j hd
variable {a b:Expr}{tb:TE}
def PC(X:Cx)(op:CmpOp)(a b:Expr)(t:TE):Prop:=
 ∀(pins:List (Addr×Obj)) (s:Shared) (σ:St) (H:Hp) (Q:VK),z0 X pins σ H s->t σ H Q->
  wpAny (model X.prog X.w) X.A (eval a X.env) (λv J=>wpAny (model X.prog X.w) X.A (eval b X.env) (λu U=>wpAny (model X.prog X.w) X.A (compareOp op v u) (EP X pins σ Q) X.xe U) X.xe J) X.xe s
theorem sk(b:Expr){op:CmpOp}(h:op≠.In)(h2:op≠.NotIn):behindInMarks op b=false:=by
 have J:(op==CmpOp.In)=false:=by cases op<;>first|rfl|exact absurd rfl h
 have U:(op==CmpOp.NotIn)=false:=by cases op<;>first|rfl|exact absurd rfl h2
 cases b<;>simp[behindInMarks,J,U]
def alt(ta:TE):TE:=λσ H Q=>ta σ H λx H1=>Q (.bl (decide (x=.non))) H1
def ahs(ta:TE):TE:=λσ H Q=>ta σ H λx H1=>Q (.bl (!decide (x=.non))) H1
theorem zv.none_iff{x:V}{v:Value}(r:zv x v):(v==Value.none)=decide (x=.non):=by
 cases x with
 |non=>cases r;rfl
 |bl _=>cases r;rfl
 |int _=>obtain⟨t,rfl⟩:=r;rfl
 |str _=>obtain⟨t,rfl⟩:=r;rfl
 |byt _=>obtain⟨t,rfl⟩:=r;rfl
 |flt _=>obtain⟨t,rfl⟩:=r;rfl
 |ref _=>cases r;rfl
 |ty _=>cases r;rfl
theorem aau{j gb}(U:PE X a ta):PC X .Is a (.Constant .none j gb) (alt ta):=by intro J s g H Q I h;refine ah (U J s g H _ I h) λv t x l o p r=>?_;exact Constant_none (is_none_gen ⟨.bl _,l,o,by rw[p.none_iff];rfl,r⟩)
theorem ago{j gb}(U:PE X a ta):PC X .IsNot a (.Constant .none j gb) (ahs ta):=by intro J s g H Q I h;refine ah (U J s g H _ I h) λv t x l o p r=>?_;exact Constant_none (isnot_none_gen ⟨.bl _,l,o,by rw[p.none_iff];rfl,r⟩)
def tB(t:TE):TT:=λσ H Q=>t σ H λx H1=>∃c,x=.bl c/\Q c H1
theorem ak2{op:CmpOp}{t:TE}(h:PC X op a b t)(h1:behindInMarks op b=false:=by first|exact sk _ (by decide) (by decide)|rfl):PE X (.Compare a [op] [b] pos) t:=λJ s U H Q I hw=>wpAny_Compare1 (h J s U H Q I hw) h1
theorem ab2{op:CmpOp}{t:TE}(h:PC X op a b t)(h1:behindInMarks op b=false:=by first|exact sk _ (by decide) (by decide)|rfl):PT X (.Compare a [op] [b] pos) (tB t):=by intro J s U H Q I hw;refine wpAny_isTrue_Compare1 (aF (h J s U H _ I hw) λv p h1=>aF h1 λu r h2=>aF h2 λc C ⟨x,g,j,l,o⟩=>?_) h1;obtain⟨d,rfl,q⟩:=o;cases l;exact wpAny_truthy_bool ⟨g,j,q⟩
theorem aj0{t:TE}(h:PE X e t)(U:∀whole,isTrue e X.env whole=(do let v <-whole;standAt e.pos;holding [v] (truthy v)):=by intro _;rfl):PT X e (tB t):=by intro J s g H Q I hw;refine isTrue_plain (ah (h J s g H _ I hw) λv r x j l o p=>?_) (U _);obtain⟨d,rfl,q⟩:=p;cases o;exact wpAny_truthy_bool ⟨j,l,q⟩
variable {tA vb:TT}{rest:List Expr}
def asz(t u:TT):TT:=λσ H Q=>t σ H λc H1=>if c=true then u σ H1 Q else Q false H1
def tOr(t u:TT):TT:=λσ H Q=>t σ H λc H1=>if c=true then Q true H1 else u σ H1 Q
def as3(t:TT):TT:=λσ H Q=>t σ H λc H1=>Q (!c) H1
theorem agw(U:PT X a tA):PW X (.BoolOp .And [a] pos) tA:=by intro j J s g H Q I h;refine isTrue_and (aF (U J s g H Q I h) λc l e=>?_);cases c with|true=>exact isTrue_and_nil e|false=>exact e
theorem ajs(U:PT X a tA):PW X (.BoolOp .Or [a] pos) tA:=by intro j J s g H Q I h;refine isTrue_or (aF (U J s g H Q I h) λc l e=>?_);cases c with|false=>exact isTrue_or_nil e|true=>exact e
theorem ak4(o:PT X a tA)(p:PW X (.BoolOp .And (b::rest) pos) vb):PW X (.BoolOp .And (a::b::rest) pos) (asz tA vb):=by intro r J s U H Q I h;refine isTrue_and (aF (o J s U H _ I h) λc t ⟨g,j,l⟩=>?_);cases c with|true=>exact p r J t U g Q j l|false=>exact⟨g,j,l⟩
theorem an3(o:PT X a tA)(p:PW X (.BoolOp .Or (b::rest) pos) vb):PW X (.BoolOp .Or (a::b::rest) pos) (tOr tA vb):=by intro r J s U H Q I h;refine isTrue_or (aF (o J s U H _ I h) λc t ⟨g,j,l⟩=>?_);cases c with|true=>exact⟨g,j,l⟩|false=>exact p r J t U g Q j l
theorem al0(U:PT X a tA):PT X (.UnaryOp .Not a pos) (as3 tA):=by intro J s g H Q I h;exact isTrue_not (U J s g H (λc j=>Q (!c) j) I h)
def an0(ta tb:TE):TE:=λσ H Q=>ta σ H λx H1=>∃c,x=.bl c/\if c=true then tb σ H1 Q else Q (.bl false) H1
def ane(ta:TE):TE:=λσ H Q=>ta σ H λx H1=>∃c,x=.bl c/\Q (.bl (!c)) H1
theorem ail{op}{t:TE}(h:PE X a t):PE X (.BoolOp op [a] pos) t:=λJ s U H Q I hw=>BoolOp_one (h J s U H Q I hw)
theorem ak3(o:PE X a ta)(p:PE X (.BoolOp .And (b::rest) pos) tb):PE X (.BoolOp .And (a::b::rest) pos) (an0 ta tb):=by
 intro J s g H Q I h;refine BoolOp_and (ah (o J s g H _ I h) λv r x j l t U=>?_);obtain⟨c,rfl,U⟩:=U;cases t;refine wpAny_truthy_bool ?_;cases c with
 |true=>exact p J r g j Q l U
 |false=>exact⟨.bl false,j,l,rfl,U⟩
theorem aki(g:PE X a ta):PE X (.UnaryOp .Not a pos) (ane ta):=by intro J s j H Q I h;refine UnaryOp_ (ah (g J s j H _ I h) λv r x l o p U=>?_);obtain⟨c,rfl,U⟩:=U;cases p;exact not_of (wpAny_truthy_bool ⟨.bl (!c),l,o,rfl,U⟩)
def tIf(t:TT)(ta tb:TE):TE:=λσ H Q=>t σ H λc H1=>if c=true then ta σ H1 Q else tb σ H1 Q
theorem ad8(hc:PT X c tA)(p:PE X a ta)(r:PE X b tb):PE X (.IfExp c a b pos) (tIf tA ta tb):=by intro J s U H Q I h;refine wpAny_IfExp (aF (hc J s U H _ I h) λd g ⟨j,l,o⟩=>?_);cases d with|true=>exact p J g U j Q l o|false=>exact r J g U j Q l o
end
def wu(K:Ae)(H:Hp)(a:Addr)(xs:List V):Prop:=
 Rd H a (.lst xs)\/
  ∃(o:Obj) (eH:Array Value) (n:Nat),K.lookup a=some o/\o.cls=.type "list" /\ o.dict=none/\o.data=.seq eH n/\eH.size<=sizeLine/\zp xs eH.toList
def cZ(K:Ae)(H:Hp)(a:Addr)(xs:List V):Prop:=
 Rd H a (.tup xs)\/
  ∃(o:Obj) (eH:Array Value) (n:Nat),K.lookup a=some o/\o.cls=.type "tuple" /\ o.data=.seq eH n/\eH.size<=sizeLine/\zp xs eH.toList
def asi:Value->Option V
 |.none=>some .non
 |.bool b=>some (.bl b)
 |.int i _=>some (.int i)
 |.str x _=>some (.str x)
 |.bytes b _=>some (.byt b)
 |.float b _=>some (.flt b)
 |.ref a=>some (.ref a)
 |.type n=>some (.ty n)
 |_=>none
theorem zv.abs{x:V}(r:zv x u):asi u=some x:=by
 cases x with
 |non=>cases r;rfl
 |bl _=>cases r;rfl
 |int _=>obtain⟨t,rfl⟩:=r;rfl
 |str _=>obtain⟨t,rfl⟩:=r;rfl
 |byt _=>obtain⟨t,rfl⟩:=r;rfl
 |flt _=>obtain⟨t,rfl⟩:=r;rfl
 |ref _=>cases r;rfl
 |ty _=>cases r;rfl
theorem zv.inj{x y:V}(r:zv x u)(q:zv y u):x=y:=AO (r.abs.symm.trans q.abs)
theorem zp.inj:∀{xs ys:List V} {us:List Value},zp xs us->zp ys us->xs=ys
 |_,_,_,.nil,.nil=>rfl
 |_,_,_,.cons r t,.cons J U=>by rw[r.inj J,zp.inj t U]
section
variable {ys:List V}
theorem wu.of{K:Ae}(h:H a=some (.lst xs)):wu K H a xs:=.inl (.inl h)
theorem cZ.of{K:Ae}(h:H a=some (.tup xs)):cZ K H a xs:=.inl (.inl h)
theorem z0.list(I:z0 X pins σ H s)(h:wu X.K H a xs):∃eH:List Value,zp xs eH/\PlainL s.heap a eH.toArray/\xs.length<=sizeLine:=by
 rcases h with h|⟨o,eH,n,J,U,hd,g,j,r⟩
 ·obtain⟨z,eH,n,r,e⟩:=h.ok I.hok;exact⟨eH,r,⟨_,n,e,rfl,rfl,rfl⟩,z⟩
 ·refine⟨eH.toList,r,⟨o,n,I.kIn a o J,U,hd,by simpa using g⟩,?_⟩;have e:=r.length;simp only[Bq] at e;lia
theorem z0.tuple(I:z0 X pins σ H s)(h:cZ X.K H a xs):∃eH:List Value,zp xs eH/\IsTup s.heap a eH.toArray/\xs.length<=sizeLine:=by
 rcases h with h|⟨o,eH,n,J,U,g,j,r⟩
 ·obtain⟨z,eH,r,p⟩:=h.ok I.hok;exact⟨eH,r,p,z⟩
 ·refine⟨eH.toList,r,⟨o,I.kIn a o J,U,n,by simpa using g⟩,?_⟩;have e:=r.length;simp only[Bq] at e;lia
theorem z0.list_inj(I:z0 X pins σ H s)(h:wu X.K H a xs)(h':wu X.K H a ys):xs=ys:=by
 obtain⟨U,r,⟨o,n,e,_,_,d⟩,_⟩:=I.list h;obtain⟨J,l,⟨p,t,g,_,_,j⟩,_⟩:=I.list h';rw[e] at g;cases g;rw[d] at j;injection j with d1 _
 have:U=J:=by simpa using Bv Array.toList d1
 subst this;exact r.inj l
theorem z0.tuple_inj(I:z0 X pins σ H s)(h:cZ X.K H a xs)(h':cZ X.K H a ys):xs=ys:=by
 obtain⟨U,r,⟨o,e,_,n,d⟩,_⟩:=I.tuple h;obtain⟨J,l,⟨p,g,_,t,j⟩,_⟩:=I.tuple h';rw[e] at g;cases g;rw[d] at j;injection j with d1 _
 have:U=J:=by simpa using Bv Array.toList d1
 subst this;exact r.inj l
end
abbrev Cx.wish(X:Cx)(E:Value->Shared->Prop):Cx:={ X with xe:=E }
abbrev Cx.nox(X:Cx):Cx:=X.wish λ_ _=>False
theorem Cx.Ok.wish(ok:X.Ok)(E:Value->Shared->Prop):(X.wish E).Ok:=
 ⟨ok.mod,ok.kind,ok.glob,ok.blt,ok.above,ok.inj,ok.has,ok.cab,ok.hd,ok.frames,ok.stk,ok.exf,ok.bs,ok.bsz,ok.noex,ok.exfs,ok.funs,ok.frf⟩
theorem Cx.Ok.unwish(ok:(X.wish E).Ok):X.Ok:=
 ⟨ok.mod,ok.kind,ok.glob,ok.blt,ok.above,ok.inj,ok.has,ok.cab,ok.hd,ok.frames,ok.stk,ok.exf,ok.bs,ok.bsz,ok.noex,ok.exfs,ok.funs,ok.frf⟩
theorem z0.wish(I:z0 X pins σ H s)(E:Value->Shared->Prop):z0 (X.wish E) pins σ H s:=⟨I.ok.wish E,I.os,I.bare,I.base,I.loc,I.cell,I.free,I.freeC,I.pin,I.hok,I.len,I.tk⟩
theorem z0.unwish(I:z0 (X.wish E) pins σ H s):z0 X pins σ H s:=⟨I.ok.unwish,I.os,I.bare,I.base,I.loc,I.cell,I.free,I.freeC,I.pin,I.hok,I.len,I.tk⟩
theorem SP.unwish{D:pW}{f:Flow}(h:SP (X.wish E) pins D f s'):SP X pins D f s':=by
 cases f with
 |next=>obtain⟨J,U,I,q⟩:=h;exact⟨J,U,I.unwish,q⟩
 |brk=>obtain⟨J,U,I,q⟩:=h;exact⟨J,U,I.unwish,q⟩
 |cont=>obtain⟨J,U,I,q⟩:=h;exact⟨J,U,I.unwish,q⟩
 |ret u=>obtain⟨v,J,U,I,r,q⟩:=h;exact⟨v,J,U,I.unwish,r,q⟩
theorem fZ.nox{st:List Stmt}{t:TS}(h:fZ X.nox st t):fZ X st t:=λJ s U H D I hw=>
 AV (h J s U H D (I.wish _) hw) (λ_ _ q=>q.unwish) λ_ _ z=>False.elim z
section
variable {rest:List Stmt}{t u:TS}{te:TE}
def ao3:TS:=λD σ H=>D.nx σ H
def ap7(t u:TS):TS:=λD σ H=>t { D with nx:=u D } σ H
theorem aeo:fZ X [] ao3:=λ_ _ J H _ I h=>wpAny_execs_nil ⟨J,H,I,h⟩
theorem qQ(h1:PS X st t)(h2:fZ X rest u):fZ X (st::rest) (ap7 t u):=by
 intro J s g H D I h;refine wpAny_execs_cons (aF (h1 J s g H { D with nx:=u D } I h) λf j q=>?_);cases f with
 |next=>
  obtain⟨U,l,o,q⟩:=q;exact h2 J j U l D o q
 |ret v=>exact q
 |brk=>exact q
 |cont=>exact q
theorem vI(h1:PS X st t):fZ X [st] t:=by intro J s U H D I h;refine wpAny_execs_cons (aF (h1 J s U H D I h) λf g q=>?_);cases f with|next=>exact wpAny_execs_nil q|ret v=>exact q|brk=>exact q|cont=>exact q
def als:TS:=λD σ H=>D.ct σ H
theorem rj:PS X (.Continue pos) als:=λ_ _ J H _ I h=>wpAny_Continue ⟨J,H,I,h⟩
theorem z0.quiet(I:z0 X pins σ H s):interactive X.env=false:=by simp[interactive,I.ok.kind]
def amb(te:TE):TS:=λD σ H=>te σ H λ_ H1=>D.nx σ H1
theorem agf(g:PE X e te)(hs:swapsWith e none pos.line X.env=pure false:=by rfl):PS X (.Expr e pos) (amb te):=by intro J s U H D I h;exact wpAny_Expr_any (ah (g J s U H _ I h) λv p x j l r o=>⟨U,j,l,o⟩) I.quiet hs
def as5(te:TE):TS:=λD σ H=>te σ H D.rt
theorem aiu(g:PE X e te):PS X (.Return (some e) pos) (as5 te):=by intro J s U H D I h;exact wpAny_Return_some (ah (g J s U H _ I h) λv r x j l o p=>⟨x,U,j,l,o,p⟩)
def ao2:TS:=λD _ H=>D.rt .non H
theorem ae7:PS X (.Return none pos) ao2:=λ_ _ J H _ I h=>wpAny_Return_none ⟨.non,J,H,I,rfl,h⟩
def aog(c:TT)(t u:TS):TS:=λD σ H=>c σ H λb H1=>if b=true then t D σ H1 else u D σ H1
theorem amk{a b:List Stmt}(hc:PT X c tc)(p:fZ X a t)(r:fZ X b u):PS X (.If c a b pos) (aog tc t u):=by intro J s U H D I h;refine wpAny_If (aF (hc J s U H _ I h) λd g ⟨j,l,o⟩=>?_);cases d with|true=>exact p J g U j D l o|false=>exact r J g U j D l o
end
abbrev TG:=V->St->Hp->(St->Hp->Prop)->Prop
abbrev TGs:=List V->St->Hp->(St->Hp->Prop)->Prop
def PG(X:Cx)(target:Expr)(t:TG):Prop:=
 ∀(pins:List (Addr×Obj)) (s:Shared) (σ:St) (H:Hp) (v:V) (u:Value) (Q:St->Hp->Prop),z0 X pins σ H s->zv v u->t v σ H Q->
  wpAny (model X.prog X.w) X.A (assign target X.env u) (λ_ s'=>∃hQ H',z0 X pins hQ H' s'/\Q hQ H') X.xe s
def PGs(X:Cx)(ts:List Expr)(t:TGs):Prop:=
 ∀(pins:List (Addr×Obj)) (s:Shared) (σ:St) (H:Hp) (vs:List V) (us:List Value) (Q:St->Hp->Prop),z0 X pins σ H s->zp vs us->t vs σ H Q->
  wpAny (model X.prog X.w) X.A (assignInOrder ((assignEach ts X.env).map (·.2)) us) (λ_ s'=>∃hQ H',z0 X pins hQ H' s'/\Q hQ H') X.xe s
abbrev akr:=V->V->V->Hp->(Hp->Prop)->Prop
def anj(X:Cx)(t:akr):Prop:=
 ∀(pins:List (Addr×Obj)) (s:Shared) (σ:St) (H:Hp) (o i v:V) (J U u:Value) (Q:Hp->Prop),z0 X pins σ H s->zv o J->zv i U->zv v u->t o i v H Q->
  wpAny (model X.prog X.w) X.A (setItem J U u) (λ_ s'=>∃H',z0 X pins σ H' s'/\Q H') X.xe s
def l8(i:Nat):TG:=λv σ H Q=>Q (σ.set i (some v)) H
theorem vT(U:X.N.Nodup)(hi:X.N[i]?=some x)(g:zR X.env.scope x)(j:X.fn x=true\/X.env.scope.names.lookup x=some .local:=by first|exact .inl rfl|exact .inr rfl|assumption):PG X (.Name x pos) (l8 i):=by intro J s o H v u Q I r h;exact wpAny_assign_Name (gN I U hi g r (λp l=>⟨_,H,l,h⟩) j)
def aqs:TGs:=λvs σ H Q=>vs=[]/\Q σ H
def alx(t:TG)(u:TGs):TGs:=λvs σ H Q=>∃v r,vs=v::r/\t v σ H λhQ H'=>u r hQ H' Q
theorem afg:PGs X [] aqs:=by intro J s U H g j Q I r h;obtain⟨e,h⟩:=h;subst e;cases r;exact assignInOrder_nil ⟨U,H,I,h⟩
theorem aae{t:TG}{u:TGs}(h1:PG X e t)(h2:PGs X es u)
 (hs:(assignEach (e::es) X.env).map (·.2)=assign e X.env::(assignEach es X.env).map (·.2):=by rfl):PGs X (e::es) (alx t u):=by
 intro J s g H T us Q I r h;obtain⟨v,vr,j,h⟩:=h;subst j;cases r with
 |cons r rr=>
  rw[hs];refine assignInOrder_cons (aF (h1 J s g H _ _ _ I r h) λ_ l ⟨U,o,p,C⟩=>?_);exact h2 J l U o _ _ Q p rr C
def asj(K:Ae)(n:Nat)(t:TGs):TG:=λv σ H Q=>∃a xs,v=.ref a/\cZ K H a xs/\xs.length=n/\t xs σ H Q
theorem ai4{k:Nat}{t:TGs}(hc:X.calm=true)(h:PGs X es t)
 (l:(assignEach es X.env).length=n:=by rfl) (U:(assignEach es X.env).findIdx? (·.1)=none:=by rfl):PG X (.Tuple es k pos) (asj X.K n t):=by
 intro J s g H v u Q I r hw;obtain⟨a,p,C,T,hl,hw⟩:=hw;subst C;cases r;obtain⟨a1,j,ht,hz⟩:=I.tuple T;refine assign_Tuple_tuple (I.ok.hd hc) ht (by simp[l,<-hl,j.length]) U λh' hx=>?_;have I1:z0 X J g H { s with heap:=h' }:=I.kept (t':=s.toks) λb o e=>hx b o (AZ (xa e)) e;exact h J _ g H p _ Q I1 (by simpa using j) hw
def ap9(to ti:TE)(t:akr):TG:=λv σ H Q=>to σ H λo H1=>ti σ H1 λi H2=>t o i v H2 λJ=>Q σ J
theorem ajn{i:Expr}{to ti:TE}{t:akr}(l:PE X o to)(hi:PE X i ti)(hs:anj X t)
 (p:∀v,assign (.Subscript o i pos) X.env v=(do
  let U <-holding [v] (eval o X.env)
  let g <-holding [v,U] (eval i X.env)
  standAt pos
  holding [v,U,g] (setItem U g v)
  release [v,U,g] []):=by intro _;rfl):PG X (.Subscript o i pos) (ap9 to ti t):=by
 intro J s j H v u Q I r h;rw[p];refine Aa (AY (ah (l J s j H _ I h) λU C x T I1 r1 q1=>?_));refine Aa (AY (ah (hi J C j T _ I1 q1) λg s2 y H2 I2 r2 q2=>?_));refine Aa (wpAny_standAt (Aa (AY (aF (hs J s2 j H2 x y v U g u _ I2 r1 r2 r q2) λ_ s3 ⟨H3,I3,q3⟩=>?_))));exact wpAny_release ⟨j,H3,I3,q3⟩
def akb(te:TE)(g:TG):TS:=λD σ H=>te σ H λx H1=>g x σ H1 D.nx
theorem aa6{te:TE}{g:TG}(j:PE X e te)(l:PG X tg g)(hs:swapsWithSole [tg] e pos.line X.env=pure false:=by rfl)(hw:swappedStores [tg] e X.env=pure none:=by rfl)
 (h1:(assignEach [tg] X.env).map (·.2)=[assign tg X.env]:=by rfl):PS X (.Assign [tg] e pos) (akb te g):=by
 intro J s U H D I h;refine wpAny_Assign_stores (ah (j J s U H _ I h) λv o x p r t C=>?_) hs hw;rw[h1];exact aF (l J o U p x v _ r t C) λ_ T q=>q
theorem aaa{te:TE}(U:X.N.Nodup)(hi:X.N[i]?=some x)(g:zR X.env.scope x)(j:PE X e te)(hs:swapsWith e (some (.Name x gb)) pos.line X.env=pure false:=by rfl)(l:X.fn x=true\/X.env.scope.names.lookup x=some .local:=by first|exact .inl rfl|exact .inr rfl|assumption):
 PS X (.Assign [.Name x gb] e pos) (akb te (l8 i)):=by
 intro J s o H D I h;refine wpAny_Assign_Name (ah (j J s o H _ I h) λv s1 y p r t C=>?_) hs;exact gN r U hi g t (λs2 T=>⟨_,p,T,C⟩) l
def asl(i j:Nat)(ta:TA):TS:=λD σ H=>ta σ H λvs H1=>∃v w,vs=[v,w]/\D.nx ((σ.set i (some v)).set j (some w)) H1
theorem aky{y:Str}{a b:Expr}{ta:TA}{px py pt:Pos}{t k2 U}(hc:X.calm=true)(hN:X.N.Nodup)(hi:X.N[i]?=some x)(hj:X.N[j]?=some y)(C:i≠j)
 (hx:X.env.scope.names.lookup x=some .local) (hy:X.env.scope.names.lookup y=some .local) (ha:PA X [a,b] ta)
 (hw:swappedStores [.Tuple [.Name x px,.Name y py] t pt] (.Tuple [a,b] k2 U) X.env=pure (some [x,y]))
 (hs:swapsWithSole [.Tuple [.Name x px,.Name y py] t pt] (.Tuple [a,b] k2 U) pos.line X.env=pure false:=by rfl):
 PS X (.Assign [.Tuple [.Name x px,.Name y py] t pt] (.Tuple [a,b] k2 U) pos) (asl i j ta):=by
 intro J s σ H D I h;rw[exec_Assign_arm];refine Aa (wpAny_standAt ?_);rw[hs];refine Aa (Ah ?_);rw[AF (by decide)];refine Aa (Tuple_ (yU (ha _ J s σ H _ I h) λus g vs H1 I1 r1 T=>?_));obtain⟨v,w,e1,T⟩:=T;subst e1;obtain⟨l,r,rfl,rv,a1⟩:∃l r,us=[l,r]/\zv v l/\zv w r:=by
  cases r1 with
  |cons p q=>
   cases q with
   |cons p' q'=>
    cases q';exact⟨_,_,rfl,p,p'⟩
 refine Bh ?_ (by show 2<=sizeLine;decide);have I2:z0 X J σ H1 { g with heap:=g.heap.push { cls:=.type "tuple",data:=.seq [l,r].toArray } }:=I1.kept (t':=g.toks) λb o e=>wh _ e;rw[hw];refine Aa (Ah ?_);show wpAny (model X.prog X.w) X.A (do rule "assign.swapped-stores";let items <-unpackItems (.ref g.heap.objs.size) 2 none;assignInOrder [λv=>bindName X.env y v,λv=>bindName X.env x v] items.reverse;pure Flow.next) _ _ _;refine Aa (BJ (Aa (unpackItems_tuple (items:=#[l,r]) (I.ok.hd hc) (IsTup.new g.heap _) λh' a2=>?_)));have I3:=I2.kept (h':=h') (t':=g.toks) λb o e=>a2 b o (AZ (xa e)) e;show wpAny _ _ (assignInOrder [λv=>bindName X.env y v,λv=>bindName X.env x v] [r,l] >>= λ_=>pure Flow.next) _ _ _;refine Aa (assignInOrder_cons (wpAny_bindName (gN I3 hN hj (.inl hy) a1 (λs2 I4=>?_) (.inr hy))));refine assignInOrder_cons (wpAny_bindName (gN I4 hN hi (.inl hx) rv (λs3 I5=>assignInOrder_nil (Ah ?_)) (.inr hx)));rw[List.set_comm _ _ (AE C)] at I5;exact⟨_,H1,I5,T⟩
def ajh(c:TT)(tb:TS):TS:=λD σ H=>∃W:Nat->St->Hp->Prop,(∃m,W m σ H)/\∀m σ H,W m σ H->
 c σ H λb H1=>if b=true then ∃N:St->Hp->Prop,(∀hQ H',N hQ H'->∃J,J<m/\W J hQ H')/\tb { D with nx:=N,ct:=N,bk:=D.nx } σ H1 else D.nx σ H1
theorem abg{tb:TS}(hp:PassesOwn (model X.prog X.w) X.A X.env X.xe)(hc:PT X c tc)(hb:fZ X body tb):PS X (.While c body [] pos) (ajh tc tb):=by
 intro J s σ H D I h;obtain⟨W,⟨m0,w0⟩,turn⟩:=h;refine wpAny_While (codeAny_whileLoop (λn s'=>∃j H',z0 X J j H' s'/\W n j H') ?_ m0 ⟨σ,H,I,w0⟩);rintro n s1 ⟨g,H1,I1,w1⟩;refine wpAny_passesOwn hp (aF (hc J s1 g H1 _ I1 (turn n g H1 w1)) λb s2 ⟨H2,I2,o⟩=>?_);cases b with
 |true=>
  obtain⟨N,hN,o⟩:=o;rw[AC rfl];refine wpAny_passesOwn hp (aF (hb J s2 g H2 _ I2 o) λf s3 p=>?_);cases f with
  |next=>
   obtain⟨U,l,r,t⟩:=p;obtain⟨C,T,w3⟩:=hN U l t;exact⟨C,T,U,l,r,w3⟩
  |cont=>
   obtain⟨U,l,r,t⟩:=p;obtain⟨C,T,w3⟩:=hN U l t;exact⟨C,T,U,l,r,w3⟩
  |brk=>exact p
  |ret v=>exact p
 |false=>
  rw[AF AA];exact wpAny_execs_nil ⟨g,H2,I2,o⟩
structure It where
 go:Nat->Hp->Prop
 yld:Nat->Hp->V->Hp->Prop
 stop:Nat->Hp->Prop
def jJ(X:Cx)(pins:List (Addr×Obj))(H:Hp)(b:Addr):Prop:=
 H b=none/\b≠X.env.locals/\b∉X.fs/\(b∈X.ex\/X.s₀.heap.objs.size<=b)/\(∀x c,X.env.cells.lookup x=some c->c≠b)/\∀p∈X.pn++pins,p.1≠b
theorem z0.fpOk(I:z0 X pins σ H s)(J:s.heap.objs.size<=b)(U:H' b=none):jJ X pins H' b:=by
 refine⟨U,CO (AL I.lt J),I.nofs J,.inr (AM I.sz J),λx c e z=>?_,λp g z=>?_⟩
 ·obtain⟨v,q⟩:=I.cell x c e;exact absurd (AL q.lt (by rw[z];exact J)) (Co _)
 ·exact absurd (AL (xa (I.pin p g).1) (by rw[z];exact J)) (Co _)
structure zH(P:Program)(w:World)(K:Ae)(tg:Expr)(J:It)(fp:List Addr)(it:Addr)(tn:Nat->Heap->Prop):Prop where
 mem:it∈fp
 obj:∀i h,tn i h->∀b∈fp,∃o,h.get? b=some o/\∀v,o.data≠.cell v
 keep:∀i h h',tn i h->(∀b∈fp,∀o,h.get? b=some o->h'.get? b=some o)->tn i h'
 item:∀(X:Cx),X.prog=P->X.w=w->X.K=K->X.calm=true->∀(i:Nat) (pins:List (Addr×Obj)) (s:Shared) (σ:St) (H:Hp) (E:Value->Shared->Prop),z0 X pins σ H s->(∀b∈fp,jJ X pins H b)->tn i s.heap->J.go i H->
  wpAny (model P w) X.A (pyNext (.ref it)) (λr s1=>∃u,r=some u/\
   wpAny (model P w) X.A (letOwnedTupleGo tg (.ref it) u) (λ_ s2=>∃x H',z0 X pins σ H' s2/\zv x u/\J.yld i H x H'/\tn (i+1) s2.heap/\∀b∈fp,H' b=none) E s1) E s
 done:∀(X:Cx),X.prog=P->X.w=w->X.K=K->X.calm=true->∀(i:Nat) (pins:List (Addr×Obj)) (s:Shared) (σ:St) (H:Hp) (E:Value->Shared->Prop),z0 X pins σ H s->(∀b∈fp,jJ X pins H b)->tn i s.heap->J.stop i H->
  wpAny (model P w) X.A (pyNext (.ref it)) (λr s1=>r=none/\z0 X pins σ H s1) E s
 self:∀(A:Around) (i:Nat) (s:Shared) (Q:Value->Shared->Prop) (E:Value->Shared->Prop),tn i s.heap->Q (.ref it) s->wpAny (model P w) A (pyIter (.ref it)) Q E s
abbrev TI:=St->Hp->(It->Hp->Prop)->Prop
def PIE(X:Cx)(pins:List (Addr×Obj))(σ:St)(tg:Expr)(R:It->Hp->Prop)(U:Value)(g:Shared):Prop:=
 ∃(it:Addr) (fp:List Addr) (j:Nat->Heap->Prop) (J:It) (H':Hp),U=.ref it/\z0 X pins σ H' g/\zH X.prog X.w X.K tg J fp it j/\j 0 g.heap/\(∀b∈fp,jJ X pins H' b)/\R J H'
def PI(X:Cx)(tg iter:Expr)(wi:TI):Prop:=
 ∀(pins:List (Addr×Obj)) (s:Shared) (σ:St) (H:Hp) (R:It->Hp->Prop),z0 X pins σ H s->wi σ H R->
  wpAny (model X.prog X.w) X.A (eval iter X.env) (λv J=>wpAny (model X.prog X.w) X.A (pyIter v) (PIE X pins σ tg R) X.xe J) X.xe s
theorem vN{o:Obj}{n:String}{vs:Array Value}{Q:Unit->Shared->Prop}(U:s.heap.get? it=some o)(hc:o.cls=.type n)(hd:o.data=.fields vs)
 (g:["enumerate","zip","dict_itemiterator","dict_reverseitemiterator","odict_iterator","itertools.zip_longest","itertools.pairwise"].contains n=false) (J:Q () s):wpAny M A (letOwnedTupleGo tg (.ref it) u) Q E s:=by
 unfold letOwnedTupleGo;cases tg<;>first
  |exact Ah J
  |(cases u<;>first
   |exact Ah J
   |(refine Aa (wpAny_load U ?_)
     rw[hc,hd];show wpAny M A (if (["enumerate","zip","dict_itemiterator","dict_reverseitemiterator","odict_iterator","itertools.zip_longest","itertools.pairwise"].contains n&&vs[0]?==some (rawInt _))=true then _ else _) Q E s;rw[AF (by intro h;rw[g,Bool.false_and] at h;cases h)];exact Ah J))
def Itl(K:Ae)(a:Addr):It:=
 ⟨λi H=>∃xs x,wu K H a xs/\xs[i]?=some x,λi H x H'=>H'=H/\∀xs,wu K H a xs->xs[i]?=some x,λi H=>∃xs,wu K H a xs/\xs.length<=i⟩
def Itt(K:Ae)(a:Addr):It:=
 ⟨λi H=>∃xs x,cZ K H a xs/\xs[i]?=some x,λi H x H'=>H'=H/\∀xs,cZ K H a xs->xs[i]?=some x,λi H=>∃xs,cZ K H a xs/\xs.length<=i⟩
def Itr(lo:Int)(n:Nat):It:=⟨λi _=>i<n,λi H x H'=>H'=H/\x=.int (lo+i),λi _=>n<=i⟩
theorem yd{P:Program}{w:World}{K:Ae}(a it:Addr):zH P w K tg (Itl K a) [it] it (λi h=>h.IsListIter it a i) where
 mem:=by simp
 obj:=λi h st b U=>by
  have e:b=it:=by simpa using U
  subst e;obtain⟨o,e,c,d⟩:=st;exact⟨o,e,λv z=>by rw[d] at z;cases z⟩
 keep:=λi h j st k=>st.at λo e=>k it (by simp) o e
 item:=by intro X t hw C hc i J s σ H E I l st T;subst t hw C;obtain⟨xs,x,r,hx⟩:=T;obtain⟨a1,rv,p,hz⟩:=I.list r;obtain⟨u,hu,ru⟩:=rv.get hx;obtain⟨f0,f1,f2,f3,f4,f5⟩:=l it (by simp);refine wpAny_pyNext_list_item st p.isList (x:=u) (by simpa using hu) λj g sb=>?_;have I1:z0 X J σ H { s with heap:=j }:=I.turned (t':=s.toks) (λb o U e=>(sb.2 b U).trans e) f0 f1 f3 f4 f5;obtain⟨o,e,c,d⟩:=id g;exact⟨u,rfl,vN (s:={ s with heap:=j }) e c d (by decide) ⟨x,H,I1,ru,⟨rfl,λys hy=>by rw[I.list_inj hy r];exact hx⟩,g,λb U=>(l b U).1⟩⟩
 done:=by intro X t hw C hc i J s σ H E I l st T;subst t hw C;obtain⟨xs,r,hx⟩:=T;obtain⟨a1,rv,p,hz⟩:=I.list r;obtain⟨f0,f1,f2,f3,f4,f5⟩:=l it (by simp);have hl:=rv.length;exact wpAny_pyNext_list_end (I.ok.hd hc) st p.isList (by simp;lia) λj eb=>⟨rfl,I.turned (t':=s.toks) (λb o U e=>eb b o U e) f0 f1 f3 f4 f5⟩
 self:=λ_ _ _ _ _ st h=>wpAny_pyIter_listiter st h
theorem uw{P:Program}{w:World}{K:Ae}(a it:Addr):zH P w K tg (Itt K a) [it] it (λi h=>h.IsTupleIter it a i) where
 mem:=by simp
 obj:=λi h st b U=>by
  have e:b=it:=by simpa using U
  subst e;obtain⟨o,e,c,d⟩:=st;exact⟨o,e,λv z=>by rw[d] at z;cases z⟩
 keep:=λi h l st k=>st.at λo e=>k it (by simp) o e
 item:=by intro X C hw T hc i J s σ H E I r st hg;subst C hw T;obtain⟨xs,x,t,hx⟩:=hg;obtain⟨g,rv,p,hz⟩:=I.tuple t;obtain⟨u,hu,ru⟩:=rv.get hx;obtain⟨f0,f1,f2,f3,f4,f5⟩:=r it (by simp);refine wpAny_pyNext_tuple_item st (show s.heap.IsTuple a g.toArray from p) (x:=u) (by simpa using hu) λl j sb=>?_;have I1:z0 X J σ H { s with heap:=l }:=I.turned (t':=s.toks) (λb o U e=>(sb.2 b U).trans e) f0 f1 f3 f4 f5;obtain⟨o,e,c,d⟩:=id j;exact⟨u,rfl,vN (s:={ s with heap:=l }) e c d (by decide) ⟨x,H,I1,ru,⟨rfl,λys hy=>by rw[I.tuple_inj hy t];exact hx⟩,j,λb U=>(r b U).1⟩⟩
 done:=by intro X C hw T hc i J s σ H E I r st hg;subst C hw T;obtain⟨xs,t,hx⟩:=hg;obtain⟨g,rv,p,hz⟩:=I.tuple t;obtain⟨f0,f1,f2,f3,f4,f5⟩:=r it (by simp);have hl:=rv.length;exact wpAny_pyNext_tuple_end (I.ok.hd hc) st (show s.heap.IsTuple a g.toArray from p) (by simp;lia) λl eb=>⟨rfl,I.turned (t':=s.toks) (λb o U e=>eb b o U e) f0 f1 f3 f4 f5⟩
 self:=λ_ _ _ _ _ st h=>wpAny_pyIter_tupleiter st h
theorem uE{P:Program}{w:World}{K:Ae}(it:Addr)(lo:Int)(n:Nat):zH P w K tg (Itr lo n) [it] it (λi h=>IsRangeIter h it (lo+(i:Nat)*1) ((n:Int)-(i:Nat)) 1) where
 mem:=by simp
 obj:=λi h st b U=>by
  have e:b=it:=by simpa using U
  subst e;exact⟨_,st,λv z=>by have z':Data.fields _=Data.cell v:=z;cases z'⟩
 keep:=λi h j st k=>k it (by simp) _ st
 item:=by intro X p hw r C i J s σ H E I l st T;subst p hw r;obtain⟨f0,f1,f2,f3,f4,f5⟩:=l it (by simp);have W:=Walks.range (prog:=X.prog) (w:=X.w) (I.ok.hd C) it lo 1 n;refine xj I.tk (W.item i s _ _ T st λv j tk hv g kk ht=>?_);obtain⟨t,rfl⟩:=hv;have I1:z0 X J σ H { s with heap:=j,toks:=tk }:=I.turned (λb o U e=>kk b o (by simpa using U) e) f0 f1 f3 f4 f5;refine⟨_,rfl,vN (s:={ s with heap:=j,toks:=tk }) (n:="range_iterator") g rfl rfl (by decide) ⟨.int (lo+i),H,I1,⟨t,?_⟩,⟨rfl,rfl⟩,g,λb U=>(l b U).1⟩⟩;rw[Int.mul_one]
 done:=by intro X p hw r C i J s σ H E I l st T;subst p hw r;obtain⟨f0,f1,f2,f3,f4,f5⟩:=l it (by simp);exact wpAny_pyNext_range_end (I.ok.hd C) st (by have:n<=i:=T;lia) λj eb=>⟨rfl,I.turned (t':=s.toks) (λb o U e=>eb b o U e) f0 f1 f3 f4 f5⟩
 self:=λ_ _ _ _ _ st h=>wpAny_pyIter_rangeiter st h
end L2
variable {wi:L2.TI}
namespace L2
open PySem PySem.Spec PyProof.Rows
def amz(K:Ae)(tl:TE):TI:=λσ H R=>tl σ H λx H1=>∃a,x=.ref a/\(∃xs,wu K H1 a xs)/\R (Itl K a) H1
def aq2(K:Ae)(tl:TE):TI:=λσ H R=>tl σ H λx H1=>∃a,x=.ref a/\(∃xs,cZ K H1 a xs)/\R (Itt K a) H1
theorem ah2{l:Expr}{tl:TE}(j:PE X l tl):PI X tg l (amz X.K tl):=by
 intro J s r H R I h;refine ah (j J s r H _ I h) λv U x t g C T=>?_;obtain⟨a,e,⟨xs,hq⟩,q⟩:=T;subst e;cases C;obtain⟨a1,rv,p,hz⟩:=g.list hq;refine wpAny_pyIter_list p.isList ?_;refine⟨U.heap.objs.size,[U.heap.objs.size],_,_,t,rfl,g.kept (t':=U.toks) λb o e=>wh _ e,yd a _,⟨_,xb _ rfl,rfl,rfl⟩,λb hb=>?_,q⟩;have e:b=U.heap.objs.size:=by simpa using hb
 subst e;exact g.fpOk (Al _) (g.hok.fresh (Al _))
theorem al3{l:Expr}{tl:TE}(r:PE X l tl):PI X tg l (aq2 X.K tl):=by
 intro J s t H R I h;refine ah (r J s t H _ I h) λv U x C g T q1=>?_;obtain⟨a,e,⟨xs,hq⟩,q⟩:=q1;subst e;cases T;obtain⟨j,rv,p,hz⟩:=g.tuple hq;refine wpAny_pyIter_tuple (show U.heap.IsTuple a j.toArray from p) ?_;refine⟨U.heap.objs.size,[U.heap.objs.size],_,_,C,rfl,g.kept (t':=U.toks) λb o e=>wh _ e,uw a _,⟨_,xb _ rfl,rfl,rfl⟩,λb hb=>?_,q⟩;have e:b=U.heap.objs.size:=by simpa using hb
 subst e;exact g.fpOk (Al _) (g.hok.fresh (Al _))
theorem acp{R:It->Hp->Prop}{hi:Int}{t u v:Tok}{tk:Nat}(I:z0 X pins σ H s)(h1 : -(2 ^ 62)<=lo)(h2:lo<2 ^ 62)(h3 : -(2 ^ 62)<=hi)(U:hi<2 ^ 62)
 (q:R (Itr lo (hi-lo).toNat) H) (p:0<tk:=by walk_at "t"):wpAny (model X.prog X.w) X.A (pyIter (.ref s.heap.objs.size)) (PIE X pins σ tg R) E { s with heap:=s.heap.push { cls:=.type "range",data:=.fields #[.int lo t,.int hi u,.int 1 v] },toks:=tk }:=by
 refine wpAny_pyIter_range (IsRange.new ..) (small_one h1 h2 h3 U) ?_;have J:z0 X pins σ H { s with heap:=s.heap.push { cls:=.type "range",data:=.fields #[.int lo t,.int hi u,.int 1 v] },toks:=tk }:=I.kept λb o e=>wh _ e;refine⟨(s.heap.push { cls:=.type "range",data:=.fields #[.int lo t,.int hi u,.int 1 v] }).objs.size,[(s.heap.push { cls:=.type "range",data:=.fields #[.int lo t,.int hi u,.int 1 v] }).objs.size],_,_,H,rfl,
  J.kept (t':=tk) λb o e=>wh _ e,uE _ lo (hi-lo).toNat,?_,λb g=>?_,q⟩
 ·have j:lo+((0:Nat):Int)*1=lo:=by simp
  have l:(((hi-lo).toNat:Nat):Int)-((0:Nat):Int)=Builtin.Range.rangeSize lo hi 1:=by rw[rangeSize_one];split<;>lia
  show IsRangeIter _ _ (lo+((0:Nat):Int)*1) ((((hi-lo).toNat:Nat):Int)-((0:Nat):Int)) 1;rw[j,l];exact xb _ rfl
 ·have e:b=(s.heap.push { cls:=.type "range",data:=.fields #[.int lo t,.int hi u,.int 1 v] }).objs.size:=by simpa using g
  subst e;exact J.fpOk (Al _) (J.hok.fresh (Al _))
def ami(ta:TA):TI:=λσ H R=>ta σ H λvs H1=>∃j:Int,vs=[.int j] /\ -(2 ^ 62)<=j/\j<2 ^ 62/\R (Itr 0 j.toNat) H1
theorem yL{a:Expr}{ta:TA}(g:Gl X "range")(l:X.mg "range"=none)(o:PA X [a] ta)(hs:starEach [a] X.env=[(false,eval a X.env)]:=by rfl):PI X tg (.Call (.Name "range" p) [a] [] pos) (ami ta):=by
 intro J s C H R I h;refine Call_ (cg I g l boot_range (BS (yU (o pos J s C H _ I h) λus s1 vs H1 T r1 U=>?_) hs rfl));obtain⟨j,e,U,q2,q⟩:=U;subst e;cases r1 with
 |cons r rr=>
  cases rr;obtain⟨t,rfl⟩:=r;exact call_range_1 (acp T (by lia) (by lia) U q2 (by simpa using q))
def ap3(wi:TI)(g:TG)(tb:TS):TS:=λD σ H=>wi σ H λJ H1=>∃W:Nat->Nat->St->Hp->Prop,(∃m,W 0 m σ H1)/\∀i m σ H,W i m σ H->
 (J.stop i H/\D.nx σ H)\/(J.go i H/\∃N:St->Hp->Prop,(∀hQ H',N hQ H'->∃j,j<m/\W (i+1) j hQ H')/\∀x H',J.yld i H x H'->g x σ H' λU H2=>tb { D with nx:=N,ct:=N,bk:=D.nx } U H2)
def mE(fp:List Addr)(h:Heap):List (Addr×Obj):=fp.filterMap λb=>(h.get? b).map λo=>(b,o)
theorem cf{o:Obj}(J:b∈fp)(e:h.get? b=some o):(b,o)∈mE fp h:=Dd.mpr ⟨b,J,by rw[e];rfl⟩
theorem yA{p:Addr×Obj}(J:p∈mE fp h):p.1∈fp/\h.get? p.1=some p.2:=by
 obtain⟨b,U,e⟩:=Dd.mp J;cases q:h.get? b with
 |none=>rw[q] at e;cases e
 |some o=>
  rw[q] at e;have g:(b,o)=p:=AO e;subst g;exact⟨U,q⟩
theorem z0.pinned(I:z0 X pins σ H s)(g:∀b∈fp,jJ X pins H b)(j:∀b∈fp,∃o,s.heap.get? b=some o/\∀v,o.data≠.cell v):z0 X (pins++mE fp s.heap) σ H s:=
 I.pins_of λp l=>(Aq.mp l).elim (λz=>I.pin p (Ag _ z)) λz=>by obtain⟨J,e⟩:=yA z;obtain⟨r,f1,f2,_⟩:=g p.1 J;obtain⟨o,U,d⟩:=j p.1 J;rw[e] at U;cases U;exact⟨e,r,f1,f2,d⟩
theorem z0.unpinned{pl:List (Addr×Obj)}(I:z0 X (pins++pl) σ H s):z0 X pins σ H s:=I.pins_of λp J=>I.pin p (Ag _ (Ar _ J))
theorem ak9{iter:Expr}{g:TG}{tb:TS}(hp:PassesOwn (model X.prog X.w) X.A X.env X.xe)(hc:X.calm=true)(hi:PI X tg iter wi)(hg:PG X tg g)(l:fZ X body tb)
 (hs:∀x,foldedSetIterable iter X.env x=pure x:=by intro _;rfl):PS X (.For tg iter body [] pos) (ap3 wi g tb):=by
 intro U s σ H D I h;refine wpAny_For (aF (hi U s σ H _ I h) λv s1 h1=>aF h1 λal s2 h2=>?_) hs;obtain⟨it,fp,tn,J,H2,e,I2,T,a3,f2,W,⟨m0,w0⟩,turn⟩:=h2;subst e;have p:∀{H':Hp},(∀b∈fp,H' b=none)->∀b∈fp,jJ X U H' b:=λhn b l=>⟨hn b l,(f2 b l).2⟩;refine codeAny_forLoop_any (λn s'=>∃i t H',z0 X U t H' s'/\tn i s'.heap/\(∀b∈fp,H' b=none)/\W i n t H') ?_ m0 ⟨0,σ,H2,I2,a3,λb l=>(f2 b l).1,w0⟩;rintro n s3 ⟨i,C,H3,I3,qI,a2,w3⟩;rcases turn i n C H3 w3 with⟨stop,qn⟩|⟨go,N,hN,step⟩
 ·refine wpAny_passesOwn hp (aF (T.done X rfl rfl rfl hc i U s3 C H3 X.xe I3 (p a2) qI stop) λr s4 ⟨hr,I4⟩=>?_);subst hr;exact wpAny_execs_nil ⟨C,H3,I4,qn⟩
 ·refine wpAny_passesOwn hp (aF (T.item X rfl rfl rfl hc i U s3 C H3 X.xe I3 (p a2) qI go) λr s4 ⟨u,hr,h4⟩=>?_);subst hr;refine wpAny_passesOwn hp (aF h4 λ_ s5 ⟨x,H5,I5,r5,y5,a1,a4⟩=>?_);have a5:=I5.pinned (p a4) (T.obj _ _ a1);refine wpAny_passesOwn hp (aF (hg _ s5 C H5 x u _ a5 r5 (step x H5 y5)) λ_ s6 ⟨ag,H6,I6,q6⟩=>?_);refine wpAny_passesOwn hp (aF (l _ s6 ag H6 _ I6 q6) λf s7 q7=>?_);have again:∀{j:St} {H7:Hp},z0 X (U++mE fp s5.heap) j H7 s7->N j H7->∃m,m<n/\∃i t H',z0 X U t H' s7/\tn i s7.heap/\(∀b∈fp,H' b=none)/\W i m t H':=λ{j H7} I7 n7=>by obtain⟨m',hm,w7⟩:=hN j H7 n7;refine⟨m',hm,i+1,j,H7,I7.unpinned,T.keep _ _ _ a1 λb l o e=>(I7.pin (b,o) (Ag _ (Ag _ (cf l e)))).1,λb l=>?_,w7⟩;obtain⟨o,e,d⟩:=T.obj _ _ a1 b l;exact(I7.pin (b,o) (Ag _ (Ag _ (cf l e)))).2.1
  cases f with
  |next=>obtain⟨j,H7,I7,n7⟩:=q7;exact again I7 n7
  |cont=>obtain⟨j,H7,I7,n7⟩:=q7;exact again I7 n7
  |brk=>obtain⟨j,H7,I7,q7⟩:=q7;exact⟨j,H7,I7.unpinned,q7⟩
  |ret v=>obtain⟨x7,j,H7,I7,r7,q7⟩:=q7;exact⟨x7,j,H7,I7.unpinned,r7,q7⟩
abbrev R2:=V->V->Hp->VK->Prop
def kj(X:Cx)(f:Value->Value->Sem Value)(r:R2):Prop:=
 ∀(pins:List (Addr×Obj)) (s:Shared) (σ:St) (H:Hp) (x y:V) (v u:Value) (Q:VK),z0 X pins σ H s->zv x v->zv y u->r x y H Q->
  wpAny (model X.prog X.w) X.A (f v u) (EP X pins σ Q) X.xe s
def UnR(X:Cx)(f:Value->Sem Value)(r:V->Hp->VK->Prop):Prop:=
 ∀(pins:List (Addr×Obj)) (s:Shared) (σ:St) (H:Hp) (x:V) (v:Value) (Q:VK),z0 X pins σ H s->zv x v->r x H Q->
  wpAny (model X.prog X.w) X.A (f v) (EP X pins σ Q) X.xe s
def jx(X:Cx)(f:Value)(r:List V->Hp->VK->Prop):Prop:=
 ∀(pins:List (Addr×Obj)) (s:Shared) (σ:St) (H:Hp) (xs:List V) (us:List Value) (Q:VK),z0 X pins σ H s->zp xs us->r xs H Q->
  wpAny (model X.prog X.w) X.A (call f us) (EP X pins σ Q) X.xe s
def tOp(r:R2)(ta tb:TE):TE:=λσ H Q=>ta σ H λx H1=>tb σ H1 λy H2=>r x y H2 Q
def tUn(r:V->Hp->VK->Prop)(ta:TE):TE:=λσ H Q=>ta σ H λx H1=>r x H1 Q
def rI(C:Int->Int->Prop)(g:Int->Int->V):R2:=λx y H Q=>∃i j,x=.int i/\y=.int j/\C i j/\Q (g i j) H
def rI0(g:Int->Int->V):R2:=λx y H Q=>∃i j,x=.int i/\y=.int j/\Q (g i j) H
def rU(g:Int->V):V->Hp->VK->Prop:=λx H Q=>∃i,x=.int i/\Q (g i) H
section
variable {a b:Expr}{tb tc:TE}
theorem air(j:PE X a ta)(l:PE X b tb){R:V->V->Hp->Prop}(I:z0 X pins σ H s)
 (h:ta σ H λx H1=>tb σ H1 λy H2=>R x y H2) {f:Value->Value->Sem Value}
 (o:∀v u g x y H2,z0 X pins σ H2 g->zv x v->zv y u->R x y H2->wpAny (model X.prog X.w) X.A (f v u) Q X.xe g):
 wpAny (model X.prog X.w) X.A (eval a X.env) (λv J=>wpAny (model X.prog X.w) X.A (eval b X.env) (λu U=>wpAny (model X.prog X.w) X.A (f v u) Q X.xe U) X.xe J) X.xe s:=by
 refine ah (j pins s σ H _ I h) λv p x H1 r t C=>?_;refine ah (l pins p σ H1 _ r C) λu g y H2 T r2 q2=>?_;exact o v u g x y H2 T t r2 q2
theorem anw{op:Operator}{r:R2}(U:kj X (binaryOp op) r)(g:PE X a ta)(j:PE X b tb):PE X (.BinOp a op b pos) (tOp r ta tb):=by intro J s l H Q I h;exact wpAny_BinOp (air g j I h λv u o x y p t C T q=>U J o l p x y v u Q t C T q)
theorem alv{op:UnaryOp}{r:V->Hp->VK->Prop}(g:UnR X (unaryOp op) r)(j:PE X a ta):PE X (.UnaryOp op a pos) (tUn r ta):=by intro J s U H Q I h;exact UnaryOp_ (ah (j J s U H _ I h) λv l x o p t C=>g J l U o x v Q p t C)
theorem opI{f:Value->Value->Sem Value}{C:Int->Int->Prop}{g:Int->Int->Int}
 (rule:∀(i j:Int) (t u:Tok) (s:Shared) (Q:Value->Shared->Prop) (E:Value->Shared->Prop),C i j->Q (.int (g i j) s.toks) { s with toks:=s.toks+1 }->wpAny (model X.prog X.w) X.A (f (.int i t) (.int j u)) Q E s):
 kj X f (rI C λi j=>.int (g i j)):=by
 intro J s r H x y v u Q I U l h;obtain⟨i,j,rfl,rfl,o,q⟩:=h;obtain⟨t,rfl⟩:=U;obtain⟨p,rfl⟩:=l;exact rule i j t p s _ _ o ⟨.int (g i j),H,I.tok _,⟨_,rfl⟩,q⟩
theorem am7{f:Value->Value->Sem Value}{g:Int->Int->Int}
 (rule:∀(i j:Int) (t u:Tok) (s:Shared) (Q:Value->Shared->Prop) (E:Value->Shared->Prop),Q (.int (g i j) s.toks) { s with toks:=s.toks+1 }->wpAny (model X.prog X.w) X.A (f (.int i t) (.int j u)) Q E s):
 kj X f (rI0 λi j=>.int (g i j)):=by
 intro J s p H x y v u Q I U l h;obtain⟨i,j,rfl,rfl,q⟩:=h;obtain⟨t,rfl⟩:=U;obtain⟨o,rfl⟩:=l;exact rule i j t o s _ _ ⟨.int (g i j),H,I.tok _,⟨_,rfl⟩,q⟩
theorem aea{f:Value->Value->Sem Value}{g:Int->Int->Bool}
 (rule:∀(i j:Int) (t u:Tok) (s:Shared) (Q:Value->Shared->Prop) (E:Value->Shared->Prop),Q (.bool (g i j)) s->wpAny (model X.prog X.w) X.A (f (.int i t) (.int j u)) Q E s):
 kj X f (rI0 λi j=>.bl (g i j)):=by
 intro J s p H x y v u Q I U l h;obtain⟨i,j,rfl,rfl,q⟩:=h;obtain⟨t,rfl⟩:=U;obtain⟨o,rfl⟩:=l;exact rule i j t o s _ _ ⟨.bl (g i j),H,I,rfl,q⟩
def ajv(i j:Int):Prop:=0<j/\j<1073741824
def ak0(i j:Int):Prop:=0<=j/\j<=1000000/\i.natAbs<2 ^ 64
def ac6(i j:Int):Prop:=(-(2 ^ 64)<i/\i<2 ^ 64)\/(-(2 ^ 64)<j/\j<2 ^ 64)
theorem ac6.ok{i j:Int}(h:ac6 i j):IntMulOk i j:=by
 rcases h with⟨h1,h2⟩|⟨h1,h2⟩
 ·exact .of_left (intBits_le_64 h1 h2)
 ·exact .of_right (intBits_le_64 h1 h2)
theorem al5:kj X (binaryOp .Add) (rI0 λi j=>.int (i+j)):=am7 λ_ _ _ _ _ _ _ q=>add_int q
theorem ajm:kj X (binaryOp .Sub) (rI0 λi j=>.int (i-j)):=am7 λ_ _ _ _ _ _ _ q=>sub_int q
theorem aj1:kj X (binaryOp .Mult) (rI ac6 λi j=>.int (i*j)):=opI λ_ _ _ _ _ _ _ J q=>mul_int q J.ok
theorem afu:kj X (binaryOp .FloorDiv) (rI ajv λi j=>.int (i / j)):=opI λi j _ _ _ _ _ J q=>by have h1:(0:Int)<j:=J.1;have h2:j<1073741824:=J.2;exact floordiv_int (by lia) (by rw[Int.fdiv_eq_ediv_of_nonneg i (by lia)];exact q) (.inl (PyProof.noPylong_small (by lia)))
theorem akx:kj X (binaryOp .Mod) (rI (λ_ j=>0<j) λi j=>.int (i % j)):=opI λi j _ _ _ _ _ J q=>by have h1:(0:Int)<j:=J;exact mod_int' (by lia) (by rw[Int.fmod_eq_emod_of_nonneg i (by lia)];exact q)
theorem akg:kj X (binaryOp .Pow) (rI ak0 λi j=>.int (i ^ j.toNat)):=opI λ_ _ _ _ _ _ _ J q=>pow_int_small J.1 J.2.1 J.2.2 q
theorem unI{f:Value->Sem Value}{g:Int->Int}
 (rule:∀(i:Int) (t:Tok) (s:Shared) (Q:Value->Shared->Prop) (E:Value->Shared->Prop),Q (.int (g i) s.toks) { s with toks:=s.toks+1 }->wpAny (model X.prog X.w) X.A (f (.int i t)) Q E s):
 UnR X f (rU λi=>.int (g i)):=by
 intro J s j H x v Q I U h;obtain⟨i,rfl,q⟩:=h;obtain⟨t,rfl⟩:=U;exact rule i t s _ _ ⟨.int (g i),H,I.tok _,⟨_,rfl⟩,q⟩
theorem aju:UnR X (unaryOp .USub) (rU λi=>.int (-i)):=unI λ_ _ _ _ _ q=>neg_int q
end
def agx:V->V->Bool
 |.non,.non=>true|.non,.int _=>true|.int _,.non=>true|.non,.bl _=>true|.bl _,.non=>true|.non,.str _=>true|.str _,.non=>true
 |.int _,.int _=>true|.bl _,.bl _=>true|.str _,.str _=>true|.byt _,.byt _=>true
 |.int _,.str _=>true|.str _,.int _=>true|.bl _,.str _=>true|.str _,.bl _=>true
 |_,_=>false
def rEq:R2:=λx y H Q=>agx x y=true/\Q (.bl (decide (x=y))) H
def rNe:R2:=λx y H Q=>agx x y=true/\Q (.bl (!decide (x=y))) H
theorem wE{i j:Int}:decide (V.int i=V.int j)=(i==j):=by rw[Bz];simp
theorem acq{i j:Bool}:decide (V.bl i=V.bl j)=(i==j):=by rw[Bz];simp
theorem vM{i j:Str}:decide (V.str i=V.str j)=(i==j):=by rw[Bz];simp
theorem wL{i j:Array UInt8}:decide (V.byt i=V.byt j)=(i.toList==j.toList):=by rw[Bz];cases i;cases j;simp
section
variable {a b:Expr}{tb tc:TE}
theorem jv{Q:VK}{k J:Bool}(I:z0 X pins σ H s)(q:Q (.bl k) H)(e:k=J):EP X pins σ Q (.bool J) s:=by subst e;exact⟨.bl k,H,I,rfl,q⟩
theorem ahz:kj X (compareOp .Eq) rEq:=by
 intro o s p H x y v u Q I l J h;obtain⟨g,q⟩:=h;cases x with
 |non=>
  cases l;cases y with
  |non=>cases J;exact PySem.EqNone.eq_none_none (jv I q (by simp))
  |bl j=>cases J;exact PySem.EqNone.eq_none_bool (jv I q (by simp))
  |int j=>obtain⟨U,rfl⟩:=J;exact PySem.EqNone.eq_none_int (jv I q (by simp))
  |str j=>obtain⟨U,rfl⟩:=J;exact PySem.EqNone.eq_none_str (jv I q (by simp))
  |_=>exact absurd (show false=true from g) AA
 |bl i=>
  cases l;cases y with
  |non=>cases J;exact PySem.EqNone.eq_bool_none (jv I q (by simp))
  |bl j=>cases J;exact eq_bool (jv I q acq)
  |str j=>obtain⟨U,rfl⟩:=J;exact PySem.EqMixed.eq_bool_str (jv I q (by simp))
  |_=>exact absurd (show false=true from g) AA
 |int i=>
  obtain⟨t,rfl⟩:=l;cases y with
  |non=>cases J;exact PySem.EqNone.eq_int_none (jv I q (by simp))
  |int j=>obtain⟨U,rfl⟩:=J;exact eq_int (jv I q wE)
  |str j=>obtain⟨U,rfl⟩:=J;exact PySem.EqMixed.eq_int_str (jv I q (by simp))
  |_=>exact absurd (show false=true from g) AA
 |str i=>
  obtain⟨t,rfl⟩:=l;cases y with
  |non=>cases J;exact PySem.EqNone.eq_str_none (jv I q (by simp))
  |bl j=>cases J;exact PySem.EqMixed.eq_str_bool (jv I q (by simp))
  |int j=>obtain⟨U,rfl⟩:=J;exact PySem.EqMixed.eq_str_int (jv I q (by simp))
  |str j=>obtain⟨U,rfl⟩:=J;exact eq_str (jv I q vM)
  |_=>exact absurd (show false=true from g) AA
 |byt i=>
  obtain⟨t,rfl⟩:=l;cases y with
  |byt j=>obtain⟨U,rfl⟩:=J;exact PySem.W.eq_bytes (jv I q wL)
  |_=>exact absurd (show false=true from g) AA
 |_=>cases y<;>exact absurd (show false=true from g) AA
theorem ahg:kj X (compareOp .NotEq) rNe:=by
 intro o s p H x y v u Q I l J h;obtain⟨g,q⟩:=h;cases x with
 |non=>
  cases l;cases y with
  |non=>cases J;exact PySem.EqNone.ne_none_none (jv I q (by simp))
  |bl j=>cases J;exact PySem.EqNone.ne_none_bool (jv I q (by simp))
  |int j=>obtain⟨U,rfl⟩:=J;exact PySem.EqNone.ne_none_int (jv I q (by simp))
  |str j=>obtain⟨U,rfl⟩:=J;exact PySem.EqNone.ne_none_str (jv I q (by simp))
  |_=>exact absurd (show false=true from g) AA
 |bl i=>
  cases l;cases y with
  |non=>cases J;exact PySem.EqNone.ne_bool_none (jv I q (by simp))
  |bl j=>cases J;exact ne_bool (jv I q (Bv not acq))
  |str j=>obtain⟨U,rfl⟩:=J;exact PySem.EqMixed.ne_bool_str (jv I q (by simp))
  |_=>exact absurd (show false=true from g) AA
 |int i=>
  obtain⟨t,rfl⟩:=l;cases y with
  |non=>cases J;exact PySem.EqNone.ne_int_none (jv I q (by simp))
  |int j=>obtain⟨U,rfl⟩:=J;exact ne_int (jv I q (Bv not wE))
  |str j=>obtain⟨U,rfl⟩:=J;exact PySem.EqMixed.ne_int_str (jv I q (by simp))
  |_=>exact absurd (show false=true from g) AA
 |str i=>
  obtain⟨t,rfl⟩:=l;cases y with
  |non=>cases J;exact PySem.EqNone.ne_str_none (jv I q (by simp))
  |bl j=>cases J;exact PySem.EqMixed.ne_str_bool (jv I q (by simp))
  |int j=>obtain⟨U,rfl⟩:=J;exact PySem.EqMixed.ne_str_int (jv I q (by simp))
  |str j=>obtain⟨U,rfl⟩:=J;exact ne_str (jv I q (Bv not vM))
  |_=>exact absurd (show false=true from g) AA
 |byt i=>
  obtain⟨t,rfl⟩:=l;cases y with
  |byt j=>obtain⟨U,rfl⟩:=J;exact PySem.W.ne_bytes (jv I q (Bv not wL))
  |_=>exact absurd (show false=true from g) AA
 |_=>cases y<;>exact absurd (show false=true from g) AA
theorem ang:kj X (compareOp .Lt) (rI0 λi j=>.bl (decide (i<j))):=aea λ_ _ _ _ _ _ _ q=>lt_int q
theorem an5:kj X (compareOp .LtE) (rI0 λi j=>.bl (decide (i<=j))):=aea λ_ _ _ _ _ _ _ q=>le_int q
theorem alu:kj X (compareOp .Gt) (rI0 λi j=>.bl (decide (j<i))):=aea λ_ _ _ _ _ _ _ q=>gt_int q
theorem aoi:kj X (compareOp .GtE) (rI0 λi j=>.bl (decide (j<=i))):=aea λ_ _ _ _ _ _ _ q=>ge_int q
theorem xt(b:Expr){op:CmpOp}(h:op≠.In:=by decide)(h2:op≠.NotIn:=by decide):behindInMarks op b=false:=by
 have J:(op==CmpOp.In)=false:=by cases op<;>first|rfl|exact absurd rfl h
 have U:(op==CmpOp.NotIn)=false:=by cases op<;>first|rfl|exact absurd rfl h2
 cases b<;>simp[behindInMarks,J,U]
theorem ah4{op:CmpOp}{r:R2}(U:kj X (compareOp op) r)(g:PE X a ta)(j:PE X b tb)(l:behindInMarks op b=false):PE X (.Compare a [op] [b] pos) (tOp r ta tb):=by intro J s o H Q I h;exact wpAny_Compare1 (air g j I h λv u p x y t C T ry q=>U J p o t x y v u Q C T ry q) l
def adm(t:TE):TT:=λσ H Q=>t σ H λx H'=>∃k,x=.bl k/\Q k H'
theorem ah0{op:CmpOp}{r:R2}(g:kj X (compareOp op) r)(j:PE X a ta)(l:PE X b tb)(o:behindInMarks op b=false):PT X (.Compare a [op] [b] pos) (adm (tOp r ta tb)):=by
 intro J s U H Q I h;refine wpAny_isTrue_Compare1 (ah (j J s U H _ I h) λv p x t C T q1=>ah (l J p U t _ C q1) λu s2 y H2 I2 r2 q2=>
  aF (g J s2 U H2 x y v u _ I2 T r2 q2) λc s3 ⟨z,H3,I3,r3,k,e,q3⟩=>?_) o
 subst e;cases r3;exact wpAny_truthy_bool ⟨H3,I3,q3⟩
theorem iW:(sizeLine:Nat)<2 ^ 63:=by rw[sizeLine_eq];decide
theorem uO:kj X (binaryOp .Add) (λx y H Q=>∃i j,x=.str i/\y=.str j/\i.length+j.length<=sizeLine/\Q (.str (i++j)) H):=by intro J s p H x y v u Q I U g h;obtain⟨i,j,rfl,rfl,l,q⟩:=h;obtain⟨t,rfl⟩:=U;obtain⟨o,rfl⟩:=g;exact xj I.tk (add_str (λo tk r=>⟨.str (i++j),H,I.tok _,⟨_,rfl⟩,q⟩) l)
theorem iq{x:V}(r:zp [x] us):∃u,us=[u]/\zv x u:=by cases r with|cons J U=>cases U;exact⟨_,rfl,J⟩
theorem ahk{x y:V}(r:zp [x,y] us):∃u J,us=[u,J]/\zv x u/\zv y J:=by
 cases r with
 |cons U g=>
  cases g with|cons j l=>cases l;exact⟨_,_,rfl,U,j⟩
theorem yf(hc:X.calm=true):jx X (.builtin "max") (λxs H Q=>∃i j,xs=[.int i,.int j]/\Q (.int (if j > i then j else i)) H):=by
 intro U s g H xs l Q I r h;obtain⟨i,j,rfl,q⟩:=h;obtain⟨u,o,rfl,⟨t,rfl⟩,⟨p,rfl⟩⟩:=ahk r;refine xj I.tk (max_two_ints (I.ok.hd hc) λC tk k T=>⟨_,H,I.kept k,?_,q⟩);by_cases J:j > i
 ·rw[AC J,AC J];exact⟨_,rfl⟩
 ·rw[AF J,AF J];exact⟨_,rfl⟩
theorem xG(hc:X.calm=true):jx X (.builtin "min") (λxs H Q=>∃i j,xs=[.int i,.int j]/\Q (.int (if j<i then j else i)) H):=by
 intro U s g H xs l Q I r h;obtain⟨i,j,rfl,q⟩:=h;obtain⟨u,o,rfl,⟨t,rfl⟩,⟨p,rfl⟩⟩:=ahk r;refine xj I.tk (min_two_ints (I.ok.hd hc) λC tk k T=>⟨_,H,I.kept k,?_,q⟩);by_cases J:j<i
 ·rw[AC J,AC J];exact⟨_,rfl⟩
 ·rw[AF J,AF J];exact⟨_,rfl⟩
end
structure aiv(h:Heap)(x dx C:Addr)(mA:Str->Option Value):Prop where
 obj:h.get? x=some (PySem.W.instObj C dx)
 ns:h.Ns1 dx mA
 ne:dx≠x
theorem yR(n:h.Ns1 dx mA):∃od,h.get? dx=some od/\∀name,PySem.W.lookIn name od=some (mA name):=by
 obtain⟨o,U,C,g,hd,j,_,l⟩:=n;refine⟨o,g,λname=>?_⟩;have e:=l name;unfold nsFind findBy at e;rw[<-Array.find?_toList] at e;unfold PySem.W.lookIn;rw[hd];dsimp only;split
 ·rename_i y q;rw[q] at e;exact Bv some e
 ·rename_i q;rw[q] at e;have a:U.toList.any (·.refKey)=false:=by rw[List.any_eq_false];intro y p;obtain⟨z,t,J⟩:=j y (Array.mem_toList_iff.mp p);simp[DictEntry.refKey,J]
  have r:¬U.toList.any (·.refKey)=true:=by rw[a];exact AA
  rw[AF r];exact Bv some e
theorem aiv.look{x:Addr}(I:aiv h x dx C mA):∃od,PySem.W.InstAt h x (PySem.W.instObj C dx) C (some od)/\∀name,PySem.W.lookIn name od=some (mA name):=
 let ⟨od,J,U⟩:=yR I.ns
 ⟨od,⟨I.obj,rfl,rfl,J⟩,U⟩
section
variable {w:World}{K:Ae}{x:Addr}{v:Value}
end
theorem iO.some_of{o:Option Value}(r:iO (some v) o):∃u,o=some u/\zv v u:=by cases o with|none=>exact(show False from r).elim|some u=>exact⟨u,rfl,r⟩
abbrev EE:=@iO.some_of
section
variable {P:Program}{w:World}{fs fs':List (Str×V)}
theorem agq(hok:dW P w H h)(e:H a=some (.ins C dx fs)):∃mA,aiv h a dx C mA/\(∀f,iO (fs.lookup f) (mA f))/\PySem.Within mA (fs.map (·.1))/\fs.length<=1000/\H dx=some (.own a):=by obtain⟨d,z,ne,ob,mA,n,r,q⟩:=(show xu P w H h a (.ins C dx fs) from hok a _ e);exact⟨mA,⟨ob,n,ne⟩,r,q,z,d⟩
end
structure Cls(K:Ae)(C:Addr):Prop where
 pg:PySem.W.plainGet K C Str.empty=true
 hd:PySem.W.hasDictIn K C=true
 po:PySem.W.plainOver K C=true
 sa:PySem.W.findIn K (.ref C) "__setattr__"=some (some (.builtin "object.__setattr__"))
theorem Cls.get{K:Ae}(c:Cls K C)(f:Str):PySem.W.plainGet K C f=true:=c.pg
section
variable {fs:List (Str×V)}{f:Str}
end
section
variable {f:Str}{tpos:Pos}{tv:TE}
end
section
variable {c:Value}{b:Bool}
inductive jN(K:Ae)(H:Hp):V->Value->Prop where
 |non:jN K H .non (.type "NoneType")
 |bl (x:Bool):jN K H (.bl x) (.type "bool")
 |int (i:Int):jN K H (.int i) (.type "int")
 |str (x:Str):jN K H (.str x) (.type "str")
 |flt (x:UInt64):jN K H (.flt x) (.type "float")
 |lst {a:Addr} {xs:List V} (e:H a=some (.lst xs)):jN K H (.ref a) (.type "list")
 |frz {a:Addr} {o:Obj} {xs:List V} (e:H a=some (.frz o (.lst xs))):jN K H (.ref a) (.type "list")
 |tup {a:Addr} {xs:List V} (e:H a=some (.tup xs)):jN K H (.ref a) (.type "tuple")
 |dK {a:Addr} {kvs:List (jg×V)} (e:H a=some (.dK kvs)):jN K H (.ref a) (.type "dict")
 |dT {a:Addr} {kvs:List (List jg×V)} (e:H a=some (.dT kvs)):jN K H (.ref a) (.type "dict")
 |ins {a C dx:Addr} {fs:List (Str×V)} (e:H a=some (.ins C dx fs)) (cl:Cls K C) (ha:PySem.W.findIn K (.ref C) "__class__"=some (some (.builtin "object.__class__")))
  (hn:PySem.W.specialIn K (.builtin "object.__class__") "__get__"=some (some (.builtin "getset_descriptor.__get__"))) (htk:PySem.W.takesIn K (.builtin "object.__class__")=some true)
  (hm:PySem.W.mroIn K C (.type "object")=some true):jN K H (.ref a) (.ref C)
theorem bE{x:V}{t:Value}(I:z0 X pins σ H s)(U:zv x u)(ty:jN X.K H x t)(e:PySem.W.kitOne X.K t c=some b)(h:∀tk,Q (.bool b) { s with toks:=tk }):
 wpAny (model X.prog X.w) A (call (.builtin "isinstance") [u,c]) Q E s:=by
 cases ty with
 |non=>cases (show u=Value.none from U);exact Bf PySem.W.kitx_none I.kIn True.intro e (λz=>nomatch z) h
 |bl y=>cases (show u=Value.bool y from U);exact Bf PySem.W.kitx_bool I.kIn True.intro e (λz=>nomatch z) h
 |int i=>obtain⟨t,q⟩:=(show ∃t,u=Value.int i t from U);cases q;exact Bf PySem.W.kitx_int I.kIn True.intro e (λz=>nomatch z) h
 |str y=>obtain⟨t,q⟩:=(show ∃t,u=Value.str y t from U);cases q;exact Bf PySem.W.kitx_str I.kIn True.intro e (λz=>nomatch z) h
 |flt y=>obtain⟨t,q⟩:=(show ∃t,u=Value.float y t from U);cases q;exact Bf PySem.W.kitx_float I.kIn True.intro e (λz=>nomatch z) h
 |@lst a l g=>
  cases (show u=Value.ref a from U);obtain⟨_,_,n,_,h1⟩:=(show xu X.prog X.w H s.heap a (.lst l) from I.hok a _ g);exact Bf Dm I.kIn ⟨_,h1,rfl⟩ e (λz=>nomatch z) h
 |@frz a ob l g=>
  cases (show u=Value.ref a from U);obtain⟨_,_,_,n,_,h1⟩:=(show xu X.prog X.w H s.heap a (.frz ob (.lst l)) from I.hok a _ g);exact Bf Dm I.kIn ⟨_,h1,rfl⟩ e (λz=>nomatch z) h
 |@tup a l g=>
  cases (show u=Value.ref a from U);obtain⟨_,_,_,p⟩:=(show xu X.prog X.w H s.heap a (.tup l) from I.hok a _ g);obtain⟨o,h1,h2,_⟩:=p;exact Bf PySem.W.kitx_tuple I.kIn ⟨o,h1,h2⟩ e (λz=>nomatch z) h
 |@dK a j g=>
  cases (show u=Value.ref a from U);obtain⟨_,_,vs,_,p⟩:=(show xu X.prog X.w H s.heap a (.dK j) from I.hok a _ g);obtain⟨o,es,ep,h1,h2,_⟩:=p;exact Bf PySem.W.kitx_dict I.kIn ⟨o,h1,h2.1⟩ e (λz=>nomatch z) h
 |@dT a j g=>
  cases (show u=Value.ref a from U);obtain⟨_,_,l,_,o,es,ep,h1,h2,_⟩:=(show xu X.prog X.w H s.heap a (.dT j) from I.hok a _ g);exact Bf PySem.W.kitx_dict I.kIn ⟨o,h1,h2.1⟩ e (λz=>nomatch z) h
 |@ins a C dx fs g T ha hn r hm=>
  cases (show u=Value.ref a from U);obtain⟨mA,O,_⟩:=agq I.hok g;obtain⟨od,J,_⟩:=O.look;exact Bf (PySem.W.kitx_own (T.get _) T.hd ha hn r hm) I.kIn J e (λz=>nomatch z) h
end
structure we(k:Nat)(A:Around):Prop where
 hd:A.handled=none
 dp:A.depth+3*k+5<recursionLimit
 un:A.units+16*k+200<cLine
theorem we.mono{k:Nat}(r:we k A)(h:j<=k):we j A:=⟨r.hd,by have:=r.dp;lia,by have:=r.un;lia⟩
theorem we.deeper{k:Nat}(r:we (k+1) A)(env:Env):we k (A.deeper env):=
 ⟨r.hd,by have:=r.dp;show A.depth+1+3*k+5<_;lia,by have:=r.un;show A.units+3+16*k+200<_;lia⟩
theorem we.depth{k:Nat}(r:we k A):A.depth<recursionLimit:=by have:=r.dp;lia
def ap6:TA:=λ_ H Q=>Q [] H
def amp(ta:TE)(tr:TA):TA:=λσ H Q=>ta σ H λx H1=>tr σ H1 λxs H2=>Q (x::xs) H2
section
variable {te:TE}{t:TA}
theorem hJ:PA X [] ap6:=λ_ _ _ _ H Q I h=>Ei ⟨[],H,I,.nil,h⟩
abbrev Eb(e:Expr)(es:List Expr)(X:Cx):Prop:=starEach (e::es) X.env=(false,eval e X.env)::starEach es X.env
theorem ck(g:PE X e te)(j:PA X es t)(hs:Eb e es X:=by rfl):PA X (e::es) (amp te t):=by intro pos J s U H Q I h;rw[hs];show wpAny _ _ (spliced ((false,eval e X.env)::backTo pos (starEach es X.env))) _ _ s;refine Ef (ah (g J s U H _ I h) λu l x o p r C=>?_);exact yU (j pos J l U o _ p C) λus s2 T H2 I2 r2 q2=>⟨x::T,H2,I2,.cons r r2,q2⟩
def arw(t:TA):TE:=λσ H Q=>t σ H λxs H1=>xs.length<=sizeLine/\∀p,H1 p=none->Q (.ref p) (upd H1 p (.tup xs))
def arl(t:TA):TE:=λσ H Q=>t σ H λxs H1=>xs.length<=sizeLine/\∀p,H1 p=none->Q (.ref p) (upd H1 p (.lst xs))
theorem ajk{x1}(h:PA X es t):PE X (.Tuple es x1 pos) (arw t):=by intro J s l H Q I o;refine wpAny_Tuple_spliced (aF (h pos J s l H _ I o) λp U ⟨C,g,j,r,z,q⟩=>⟨by rw[<-r.length];exact z,?_⟩);have T:g U.heap.objs.size=none:=j.hok.fresh (Al _);refine⟨.ref U.heap.objs.size,upd g U.heap.objs.size (.tup C),j.laid (t':=U.toks) (λb u e=>wh _ e) (Al _) ?_,rfl,q _ T⟩;exact⟨z,p,r,⟨_,xb _ rfl,rfl,_,rfl⟩⟩
theorem ak6(h:PA X es t):PE X (.List es pos) (arl t):=by intro J s l H Q I o;refine wpAny_List_spliced (aF (h pos J s l H _ I o) λp U ⟨C,g,j,r,z,q⟩=>⟨by rw[<-r.length];exact z,?_⟩);have T:g U.heap.objs.size=none:=j.hok.fresh (Al _);refine⟨.ref U.heap.objs.size,upd g U.heap.objs.size (.lst C),j.laid (t':=U.toks) (λb u e=>wh _ e) (Al _) ?_,rfl,q _ T⟩;exact⟨z,p,0,r,xb _ rfl⟩
end
abbrev Sp:=List V->Hp->VK->XK->Prop
abbrev vW:=List Env->Hp->Shared->XK->Value->Shared->Prop
structure ag4(P:Program)(w:World)(K:Ae)(mg:Str->Option Value)(base:Heap)(A:Around)(outer:List Env)(s:Shared)(H:Hp):Prop where
 frames:A.frames=some outer
 mod:Mod K mg base
 bs:∀b o,base.get? b=some o->s.heap.get? b=some o/\H b=none
 bsz:base.objs.size<=s.heap.objs.size
 funs:s.heap.FunFrames base outer
 frf:∀b∈bw outer,H b=none
 hok:dW P w H s.heap
 bare:AllBare s.gens
 tk:0<s.toks
def CE(outer:List Env)(P:Program)(w:World)(H:Hp)(s:Shared)(Q:VK)(u:Value)(s':Shared):Prop:=
 ∃v H',s'.os=s.os/\AllBare s'.gens/\Un (bw outer) [] H H' s.heap s'.heap/\dW P w H' s'.heap/\zv v u/\Q v H'/\0<s'.toks
def CR(CX:vW)(outer:List Env)(P:Program)(w:World)(H:Hp)(s:Shared)(Q:VK)(E:XK)(r:Result)(s':Shared):Prop:=
 match r with
 |.ok (.ret u)=>CE outer P w H s Q u s'
 |.ok _=>False
 |.error e=>CX outer H s E e s'
structure bO(P:Program)(w:World)(K:Ae)(mg:Str->Option Value)(base:Heap)(CX:vW)(k:Nat)(f:Addr)(fd:FuncData)(ps:List Str)(sp:Sp):Prop where
 len:∀vs H Q E,sp vs H Q E->vs.length=ps.length
 run:∀(A:Around) (outer:List Env) (s:Shared) (H:Hp) (args:Args) (us:List Value) (vs:List V) (Q:VK) (E:XK),we k A->ag4 P w K mg base A outer s H->BindsTo s fd args (ps.zip us)->zp vs us->sp vs H Q E->
  codeAny (model P w) A (.call (.ref f) args) (CR CX outer P w H s Q E) s
theorem bO.mono{P:Program}{w:World}{K:Ae}{CX:vW}{k:Nat}{sp:Sp}(F:bO P w K mg base CX j f fd ps sp)(h:j<=k):
 bO P w K mg base CX k f fd ps sp:=⟨F.len,λA J s H args U g Q E l=>F.run A J s H args U g Q E (l.mono h)⟩
theorem bO.imp{P:Program}{w:World}{K:Ae}{CX:vW}{k:Nat}{sp U:Sp}(F:bO P w K mg base CX k f fd ps sp)
 (h:∀vs H Q E,U vs H Q E->sp vs H Q E):bO P w K mg base CX k f fd ps U:=
 ⟨λvs H Q E q=>F.len vs H Q E (h _ _ _ _ q),λA J s H args g vs Q E j l o p r=>F.run A J s H args g vs Q E j l o p (h _ _ _ _ r)⟩
theorem z0.env0(I:z0 X pins σ H s):ag4 X.prog X.w X.K X.mg X.base X.A X.stack s H:=
 ⟨I.ok.frames,I.ok.mod,I.bs,AM I.ok.bsz I.sz,I.stack,I.stkFree,I.hok,I.bare,I.tk⟩
theorem z0.after{Q:VK}(I:z0 X pins σ H s)(h:CE X.stack X.prog X.w H s Q u s'):EP X pins σ Q u s':=by obtain⟨v,j,os,bare,un,J,r,q,o⟩:=h;obtain⟨l,g,d,t,U⟩:=s';obtain rfl:U=s.os:=os;exact⟨v,j,I.call (h':=l) (g':=g) (d':=d) (t':=t) (ch:=[]) un J bare (λb z=>absurd z (by simp)),r,q⟩
def ahw(sp:Sp)(sx:List V)(E:XK)(t:TA):TE:=λσ H Q=>t σ H λvs H1=>sp (vs++sx) H1 Q E
def dO(K:Ae)(fd:FuncData)(ps:List Str)(ds:List Value):Prop:=
 ∀(s:Shared) (us:List Value),K.In s.heap->(us++ds).length=ps.length->BindsTo s fd ⟨us,[]⟩ (ps.zip (us++ds))
theorem dO.all{K:Ae}(h:∀us:List Value,us.length=ps.length->bindArgs fd ⟨us,[]⟩=pure (ps.zip us)):dO K fd ps []:=λs us _ J=>by rw[A1] at J ⊢;exact .of_eq (h us J)
def uq(CX:vW)(X:Cx)(E:XK):Prop:=∀(pins:List (Addr×Obj)) (σ:St) (H:Hp) (s:Shared) (e:Value) (s':Shared),z0 X pins σ H s->CX X.stack H s E e s'->X.xe e s'
section
variable {CX:vW}{k:Nat}{sp:Sp}{sx:List V}{ds:List Value}{E:XK}{m:Str}{t:TA}
theorem ain{Q:VK}{vs:List V}(F:bO X.prog X.w X.K X.mg X.base CX k f fd ps sp)(g:we k X.A)(j:dO X.K fd ps ds)(hd:zp sx ds)(l:uq CX X E)
 (I:z0 X pins σ H s) (r:zp vs us) (h:sp (vs++sx) H Q E):wpAny (model X.prog X.w) X.A (call (.ref f) us) (EP X pins σ Q) X.xe s:=by
 have U:zp (vs++sx) (us++ds):=r.append hd;have o:(us++ds).length=ps.length:=by rw[<-U.length];exact F.len _ _ _ _ h
 refine wpAny_call (codeAny_mono (F.run X.A X.stack s H ⟨us,[]⟩ (us++ds) (vs++sx) Q E g I.env0 (j s us I.kIn o) U h) λr p J=>?_);cases r with
 |error e=>exact l pins σ H s e p I J
 |ok t=>
  cases t with|ret u=>exact I.after J|next=>exact False.elim J|brk=>exact False.elim J|cont=>exact False.elim J
abbrev Ec(p:Pos)(es:List Expr)(X:Cx):Prop:=(backTo p (starEach es X.env)).any (·.1)=false
theorem aff(F:bO X.prog X.w X.K X.mg X.base CX k f fd ps sp)(l:we k X.A)(o:Gl X x)(C:X.mg x=some (.ref f))(T:PySem.W.keepIn X.K (.ref f)=true)(hb:dO X.K fd ps ds)(hd:zp sx ds)(hx:uq CX X E)
 (ha:PA X (e::es) t) (U:Ed x:=by decide) (he:Eb e es X:=by rfl) (g:Ec pos es X:=by rfl):
 PE X (.Call (.Name x p) (e::es) [] pos) (ahw sp sx E t):=by
 intro J s σ H Q I h;refine wpAny_Call_Name_kw (gf I o C ?_ U);refine PySem.W.callWith_K (h₀:=X.base) I.ok.mod.kin T (yU (ha pos J s σ H _ I h) λus s1 vs H1 j r q=>⟨j.kIn,?_⟩) he g;exact ain F l hb hd hx j r q
end
section
variable {CX:vW}{k:Nat}{ks:List Str}{sp:Sp}{E:XK}{m:Str}{kws:List Keyword}{te:TE}{t tk:TA}{nm:Option Str}
variable {g:List Value->List Value->List Value}{gV:List V->List V->List V}
end
structure wr(N P:List Str)(sc:Scope):Prop where
 kind:sc.kind=.function
 co:sc.isCoroutine=false
 gen:sc.isGenerator=false
 nd:N.Nodup
 pre:N.take P.length=P
 par:∀x∈P,sc.names.lookup x=some .local\/sc.names.lookup x=some .cell
 nofree:∀y∈sc.names,y.2≠.free
theorem oI{kindOf:Str->Option NameKind}{x:Str}:∀{J:List (Str×Value)} {m:Str->Option Value},(∀v,(x,v)∉J)->bindL kindOf J m x=m x
 |[],_,_=>rfl
 |(n,v)::r,m,h=>by
  unfold bindL;rw[oI λw hw=>h w (Ad _ hw)];split
  ·have:x≠n:=by rintro rfl;exact h v Aj
   simp[this]
  ·rfl
theorem oE{kindOf:Str->Option NameKind}{x:Str}:∀{J:List (Str×Value)} {m:Str->Option Value},(∀v,(x,v)∉J)->bindC kindOf J m x=m x
 |[],_,_=>rfl
 |(n,v)::r,m,h=>by
  unfold bindC;rw[oE λw hw=>h w (Ad _ hw)];split
  ·rfl
  ·have:x≠n:=by rintro rfl;exact h v Aj
   simp[this]
theorem oP{kindOf:Str->Option NameKind}{x:Str}{v:Value}:∀{P:List Str} {vs:List Value} {i:Nat} {m:Str->Option Value},P.Nodup->P[i]?=some x->vs[i]?=some v->kindOf x=some .local->
 bindL kindOf (P.zip vs) m x=some v
 |[],_,_,_,_,h,_,_=>by simp at h
 |_::_,[],_,_,_,_,h,_=>by simp at h
 |p::P,w::vs,0,m,nd,h1,h2,J=>by simp at h1 h2;subst h1;subst h2;show bindL kindOf ((p,w)::P.zip vs) m p=_;unfold bindL;rw[oI λv U=>(Az.mp nd).1 (C2 U).1,AC J];simp
 |p::P,w::vs,i+1,m,nd,h1,h2,J=>by show bindL kindOf ((p,w)::P.zip vs) m x=_;unfold bindL;exact oP (i:=i) (Az.mp nd).2 (by simpa using h1) (by simpa using h2) J
theorem oJ{kindOf:Str->Option NameKind}{x:Str}{v:Value}:∀{P:List Str} {vs:List Value} {i:Nat} {m:Str->Option Value},P.Nodup->P[i]?=some x->vs[i]?=some v->kindOf x≠some .local->
 bindC kindOf (P.zip vs) m x=some v
 |[],_,_,_,_,h,_,_=>by simp at h
 |_::_,[],_,_,_,_,h,_=>by simp at h
 |p::P,w::vs,0,m,nd,h1,h2,J=>by simp at h1 h2;subst h1;subst h2;show bindC kindOf ((p,w)::P.zip vs) m p=_;unfold bindC;rw[oE λv U=>(Az.mp nd).1 (C2 U).1,AF J];simp
 |p::P,w::vs,i+1,m,nd,h1,h2,J=>by show bindC kindOf ((p,w)::P.zip vs) m x=_;unfold bindC;exact oJ (i:=i) (Az.mp nd).2 (by simpa using h1) (by simpa using h2) J
def start(N:List Str)(vs:List V):St:=vs.map some++List.replicate (N.length-vs.length) none
def cn(CX:vW)(P:Program)(w:World)(K:Ae)(mg:Str->Option Value)(base:Heap)(N:List Str)(eK:Str)(scope:Scope)(f:Addr)(cd:Value)(A:Around)(outer:List Env)(s:Shared)(H:Hp)(E:XK):Cx where
 prog:=P
 w:=w
 K:=K
 mg:=mg
 base:=base
 A:=A.deeper (envOfC eK scope s.heap.objs.size f cd)
 N:=N
 s₀:=s
 H₀:=H
 env:=envOfC eK scope s.heap.objs.size f cd
 outer:=outer
 stack:=envOfC eK scope s.heap.objs.size f cd::outer
 ex:=[]
 calm:=true
 fn:=λ_=>true
 pn:=[]
 xe:=λe s'=>wpAny (model P w) (A.deeper (envOfC eK scope s.heap.objs.size f cd)) (leaving (envOfC eK scope s.heap.objs.size f cd) e) (λ_ J=>CX outer H s E e J) (λU J=>CX outer H s E U J) s'
theorem rh{J:Scope}(h:J.names.lookup x=some .cell):∃c,(cellsFrom n J.names []).lookup x=some c:=by have q:=DA J.names n [] (.inl h);exact Option.isSome_iff_exists.mp q
theorem yi{CX:vW}{P:Program}{w:World}{K:Ae}{N:List Str}{t:Shared}{E:XK}{vs:List V}
 (S:wr N ps scope) (hd:A.handled=none) (J:ag4 P w K mg base A outer s H) (hl:vs.length=ps.length) (r:zp vs us)
 (x:InCallC s s.heap.objs.size (bindL (envOfC eK scope s.heap.objs.size f cd).kindOf (ps.zip us) λ_=>none) (cellsFrom (s.heap.objs.size+1) scope.names []) (bindC (envOfC eK scope s.heap.objs.size f cd).kindOf (ps.zip us) λ_=>none) t) (T:0<t.toks):
 z0 (cn CX P w K mg base N eK scope f cd A outer s H E) [] (start N vs) H t:=by
 have a1:ps.length<=N.length:=by have:=Bv List.length S.pre;rw[A4] at this;lia
 obtain⟨h1,tk,rfl,C⟩:=x.done;have U:∀b:Addr,b∉(cn CX P w K mg base N eK scope f cd A outer s H E).ex:=λb z=>absurd (show b∈([]:List Addr) from z) (by simp);refine⟨⟨J.mod,S.kind,rfl,rfl,Al _,λy z c h1 h2=>?_,λy g=>?_,λy c _ h=>?_,λ_=>hd,Around.frames_deeper J.frames,.inr ⟨rfl,rfl⟩,λb z=>absurd z (U b),J.bs,J.bsz,λb _ _=>U b,λb z=>absurd z (U b),J.funs,J.frf⟩,
  rfl,J.bare,Un.kept C,⟨_,x.toInCall.ns,λi y v h1 h2 h3=>?_⟩,λy c h=>⟨_,x.cell y c h⟩,J.hok.fresh (Al _),λy c h=>?_,λp j=>absurd (show p∈([]:List (Addr×Obj)) from j) (by simp),J.hok.kept C,?_,T⟩
 ·exact name_of_addr x.apart (Br h1) (Br h2)
 ·have g:scope.names.lookup y=some .cell\/scope.names.lookup y=some .free:=g;rcases g with g|g
  ·exact rh g
  ·exact absurd rfl (S.nofree _ (Br g))
 ·exact Bo (x.above y c (Br h))
 ·have o:i<vs.length:=by
   unfold start at h2;by_cases o:i<vs.length
   ·exact o
   ·rw[Ay (by simpa using o)] at h2;rw[CK] at h2;split at h2<;>cases h2
  have ha:vs[i]?=some v:=by unfold start at h2;rw[AH (by simpa using o),An] at h2;cases e:vs[i]? with|none=>rw[e] at h2;cases h2|some a=>rw[e] at h2;cases h2;rfl
  obtain⟨u,I,rv⟩:=r.get ha;have j:ps[i]?=some y:=by rw[<-S.pre,Dp (by lia)];exact h1
  have l:ps.Nodup:=by rw[<-S.pre];exact S.nd.sublist (List.take_sublist _ _)
  refine⟨u,rv,?_⟩;rcases S.par y (Aw j) with k|k
  ·exact .inl ⟨k,oP l j I k⟩
  ·obtain⟨c,e⟩:=rh (n:=s.heap.objs.size+1) k;refine .inr ⟨.inl k,c,e,?_⟩;have q:=x.cell y c e;rw[oJ l j I (by show scope.names.lookup y≠_;rw[k];decide)] at q;exact q
 ·exact J.hok.fresh (Bo (x.above y c (Br h)))
 ·unfold start;show _=N.length;rw[Ac,Ab,BY];lia
theorem ac0{CX:vW}{P:Program}{w:World}{K:Ae}{k:Nat}{U:Arguments}{dV kV:Value}
 {N:List Str} {sp:Sp} (lk:K.lookup f=some ⟨oc,od,.func (PySem.W.fnOf name eK U body scope dV kV gc pm an fx ct),oi⟩) (a1:PySem.W.codeIn K fx eK=true) (S:wr N ps scope)
 (len:∀vs H Q E,sp vs H Q E->vs.length=ps.length)
 (j:∀(A:Around) (outer:List Env) (s:Shared) (H:Hp) (vs:List V) (Q:VK) (E:XK),we k (A.deeper (envOfC eK scope s.heap.objs.size f fx))->sp vs H Q E->
  ∃t,fZ (cn CX P w K mg base N eK scope f fx A outer s H E) body t/\t { nx:=λ_ H'=>Q .non H',rt:=Q } (start N vs) H):
 bO P w K mg base CX (k+1) f (PySem.W.fnOf name eK U body scope dV kV gc pm an fx ct) ps sp:=by
 refine⟨len,λA outer s H args us vs Q E hr p hb r T=>?_⟩;have hl:=len _ _ _ _ T;have KX:K.In s.heap:=p.mod.kin.keeps λb o e=>(p.bs b o e).1;have a2:s.heap.NoLimit:=p.mod.nolimit.keeps λb o e=>(p.bs b o e).1;have l:∀y∈ps.zip us,scope.names.lookup y.1=some .local\/(scope.names.lookup y.1=some .cell/\((cellsFrom (s.heap.objs.size+1) scope.names []).lookup y.1).isSome=true):=λ⟨n,v⟩ hy=>by
  rcases S.par n (C2 hy).1 with q|q
  ·exact .inl q
  ·exact .inr ⟨q,DA _ _ _ (.inl q)⟩
 refine codeAny_call_function hr.depth (KX _ _ lk) rfl S.co S.gen rfl (PySem.W.codeRec_of KX a1) (hb _ _ _ _ ?_);refine xj p.tk (wpAny_newFunctionEnv_cells S.kind l λa4 he s1 x a3=>?_);subst he;refine⟨a2.keeps x.toInCall.keep,codeAny_func ?_⟩;obtain⟨t,ht,hq⟩:=j A outer s H vs Q E (hr.deeper _) T;have I:z0 (cn CX P w K mg base N eK scope f fx A outer s H E) [] (start N vs) H s1:=yi S hr.hd p hl r x a3;refine AV (ht [] s1 (start N vs) H _ I hq) (λfl s' C=>?_) λe s' C=>C;have xg:∀{g:St} {H':Hp} {v:V} {u:Value},z0 (cn CX P w K mg base N eK scope f fx A outer s H E) [] g H' s'->zv v u->Q v H'->CE outer P w H s Q u s':=
  λ{g H' v u} J rv q=>⟨v,H',J.os,J.bare,J.base,J.hok,rv,q,J.tk⟩
 cases fl with
 |ret u=>
  obtain⟨v,g,H',J,rv,q⟩:=C;exact xg J rv q
 |next=>
  obtain⟨g,H',J,q⟩:=C;exact xg (v:=V.non) (u:=Value.none) J rfl q
 |brk=>
  obtain⟨_,_,_,q⟩:=C;exact False.elim q
 |cont=>
  obtain⟨_,_,_,q⟩:=C;exact False.elim q
end L2
variable {sp:L2.Sp}
namespace L2
open PySem PySem.Spec PyProof.Rows
section
variable {t:TA}{id T:String}{r:List V->Hp->VK->Prop}
def tCB(r:List V->Hp->VK->Prop)(t:TA):TE:=λσ H Q=>t σ H λvs H1=>r vs H1 Q
theorem rO(hc:jx X (.builtin id) r)(l:Gl X x)(o:X.mg x=none)(C:bootBuiltins x=some (.builtin id))(T:PA X (e::es) t)(hn:x ≠ "__name__" := by decide)(U:Ed x:=by decide)
 (he:Eb e es X:=by rfl) (g:Ec pos es X:=by rfl):PE X (.Call (.Name x p) (e::es) [] pos) (tCB r t):=by
 intro J s j H Q I h;refine wpAny_Call_Name_kw (cg I l o C ?_ hn U);exact PyProof.Rows.callWith_builtin1 (yU (T pos J s j H _ I h) λus s1 vs H1 I1 r1 q1=>hc J s1 j H1 vs us Q I1 r1 q1) he g
theorem iK(hc:jx X (.type T) r)(l:Gl X x)(o:X.mg x=none)(C:bootBuiltins x=some (.type T))(ha:PA X (e::es) t)(hn:x ≠ "__name__" := by decide)(U:Ed x:=by decide)
 (he:Eb e es X:=by rfl) (g:Ec pos es X:=by rfl):PE X (.Call (.Name x p) (e::es) [] pos) (tCB r t):=by
 intro J s j H Q I h;refine wpAny_Call_Name_kw (cg I l o C ?_ hn U);exact BS (yU (ha pos J s j H _ I h) λus s1 vs H1 I1 r1 q1=>hc J s1 j H1 vs us Q I1 r1 q1) he g
end
section
variable [DecidableEq κ]
def ax(kvs:List (κ×V))(k:κ):Option V:=(kvs.find? λJ=>decide (J.1=k)).map (·.2)
def dh(kvs:List (κ×V))(k:κ)(v:V):List (κ×V):=
 if (kvs.any λJ=>decide (J.1=k))=true then kvs.map (λJ=>if J.1=k then(J.1,v) else J) else kvs++[(k,v)]
theorem kW{p:κ×V}{r:List (κ×V)}{k:κ}(e:p.1=k):ax (p::r) k=some p.2:=by simp[ax,Bg,e]
theorem mW{p:κ×V}{r:List (κ×V)}{k:κ}(e:¬p.1=k):ax (p::r) k=ax r k:=by simp[ax,Bg,e]
theorem sW(k:κ):∀kvs:List (κ×V),(kvs.any λJ=>decide (J.1=k))=(ax kvs k).isSome
 |[]=>rfl
 |p::r=>by
  rw[B9];by_cases e:p.1=k
  ·simp only[kW e,AD e,Bool.true_or,Option.isSome_some]
  ·rw[mW e,Au e,Bool.false_or];exact sW k r
theorem dm(kvs:List (κ×V))(k:κ)(v:V):(dh kvs k v).length<=kvs.length+1:=by
 unfold dh;split
 ·rw[Ab];lia
 ·rw[Ac,AN,List.length_nil];lia
theorem iO.isSome_eq{o:Option V}{u:Option Value}(r:iO o u):o.isSome=u.isSome:=by
 cases o with
 |none=>cases u with|none=>rfl|some _=>exact(show False from r).elim
 |some _=>cases u with|none=>exact(show False from r).elim|some _=>rfl
theorem KV.val{kvs:List (κ×V)}{vs:List (κ×Value)}(r:KV kvs vs)(k:κ):iO (ax kvs k) (valueAt vs k):=by
 unfold KV at r
 induction r with
 |nil=>exact True.intro
 |@cons p q j J h t g=>
  obtain⟨h1,h2⟩:=h;by_cases e:p.1=k
  ·have U:q.1=k:=h1.symm.trans e;have b:valueAt (q::J) k=some q.2:=by simp[valueAt,Bg,U]
   rw[kW e,b];exact h2
  ·have U:¬q.1=k:=λz=>e (h1.trans z);have b:valueAt (q::J) k=valueAt J k:=by simp[valueAt,Bg,U]
   rw[mW e,b];exact g
theorem KV.any{kvs:List (κ×V)}{vs:List (κ×Value)}(r:KV kvs vs)(k:κ):(kvs.any λJ=>decide (J.1=k))=vs.any λJ=>decide (J.1=k):=by
 unfold KV at r
 induction r with|nil=>rfl|cons h t U=>rw[B9,B9,U,h.1]
theorem KV.repl{kvs:List (κ×V)}{vs:List (κ×Value)}(r:KV kvs vs)(k:κ){y:V}(U:zv y u):
 KV (kvs.map λJ=>if J.1=k then(J.1,y) else J) (vs.map λJ=>if J.1=k then(J.1,u) else J):=by
 unfold KV at r ⊢
 induction r with
 |nil=>exact .nil
 |@cons p q j l h t g=>
  rw[AG,AG];refine .cons ?_ g;obtain⟨h1,h2⟩:=h;by_cases e:p.1=k
  ·rw[AC e,AC (h1.symm.trans e)];exact⟨h1,U⟩
  ·rw[AF e,AF (λz=>e (h1.trans z))];exact⟨h1,h2⟩
theorem KV.put{kvs:List (κ×V)}{vs:List (κ×Value)}(r:KV kvs vs)(k:κ){y:V}(J:zv y u):KV (dh kvs k y) (stored vs k u):=by
 unfold dh stored;rw[r.any k];by_cases e:(vs.any λU=>decide (U.1=k))=true
 ·rw[AC e,AC e];exact r.repl k J
 ·rw[AF e,AF e];exact Paired.snoc r ⟨rfl,J⟩
theorem KV.length{kvs:List (κ×V)}{vs:List (κ×Value)}(r:KV kvs vs):kvs.length=vs.length:=Paired.length r
end
theorem io{P:Program}{w:World}{k:jg}(r:zv (kV k) u):(v4 P w).is k u=true:=by
 cases k with
 |inl i=>obtain⟨t,e⟩:=(show ∃t,u=Value.int i t from r);subst e;exact tF P w i t
 |inr x=>obtain⟨t,e⟩:=(show ∃t,u=Value.str x t from r);subst e;exact qY P w x t
theorem oK{P:Program}{w:World}:∀{ks:List jg} {us:List Value},zp (ks.map kV) us->ItemsAre (v4 P w) ks us
 |[],_,r=>by rw[CP] at r;cases r;exact .nil
 |k::ks,_,r=>by rw[AG] at r;cases r with|cons h t=>exact .cons (io h) (oK t)
abbrev KT(H:Hp):List (List jg×V)->List (List jg×Addr×Value)->Prop:=Paired λp q=>p.1=q.1/\H q.2.1=some (.tup (p.1.map kV))/\zv p.2 q.2.2
theorem KT.val{kvs:List (List jg×V)}{xs:List (List jg×Addr×Value)}(r:KT H kvs xs)(k:List jg):iO (ax kvs k) ((atKey xs k).map (·.2)):=by
 induction r with
 |nil=>exact True.intro
 |@cons p q j J h t g=>
  obtain⟨h1,_,h2⟩:=h;by_cases e:p.1=k
  ·have U:q.1=k:=h1.symm.trans e;have b:atKey (q::J) k=some q.2:=by simp[atKey,Bg,U]
   rw[kW e,b];exact h2
  ·have U:¬q.1=k:=λz=>e (h1.trans z);have b:atKey (q::J) k=atKey J k:=by simp[atKey,Bg,U]
   rw[mW e,b];exact g
theorem KT.repl{kvs:List (List jg×V)}{xs:List (List jg×Addr×Value)}(r:KT H kvs xs)(k:List jg){y:V}(U:zv y u):
 KT H (kvs.map λJ=>if J.1=k then(J.1,y) else J) (xs.map (putAt k u)):=by
 induction r with
 |nil=>exact .nil
 |@cons p q j l h t g=>
  rw[AG,AG];refine .cons ?_ g;obtain⟨h1,h2,h3⟩:=h;unfold putAt;by_cases e:p.1=k
  ·rw[AC e,AC (h1.symm.trans e)];exact⟨h1,h2,U⟩
  ·rw[AF e,AF (λz=>e (h1.trans z))];exact⟨h1,h2,h3⟩
theorem KT.put{kvs:List (List jg×V)}{xs:List (List jg×Addr×Value)}(r:KT H kvs xs)(k:List jg){y:V}(U:H b=some (.tup (k.map kV)))(J:zv y u):
 KT H (dh kvs k y) (storedH xs k b u):=by
 have e:(kvs.any λg=>decide (g.1=k))=(atKey xs k).isSome:=by rw[sW,(r.val k).isSome_eq,B6]
 unfold dh storedH;rw[e];by_cases q:(atKey xs k).isSome=true
 ·rw[AC q,AC q];exact r.repl k J
 ·rw[AF q,AF q];exact Paired.snoc r ⟨rfl,U,J⟩
theorem KT.keeps{kvs:List (List jg×V)}{xs:List (List jg×Addr×Value)}(r:KT H kvs xs)(J:∀b ys,H b=some (.tup ys)->H' b=some (.tup ys)):KT H' kvs xs:=
 DS r λ_ _ z=>⟨z.1,J _ _ z.2.1,z.2.2⟩
section
variable {P:Program}{w:World}
theorem ah7{u:HO}(ok:dW P w H h)(e:Rd H a u):xu P w H h a u:=e.ok ok
theorem kQ{kvs:List (jg×V)}(ok:dW P w H h)(e:Rd H a (.dK kvs)):kvs.length<=sizeLine/\(a==sysModules)=false/\∃vs,KV kvs vs/\h.DictOf (v4 P w) a vs:=
 show xu P w H h a (.dK kvs) from ah7 ok e
theorem ahn{kvs:List (jg×V)}(ok:dW P w H h)(e:H a=some (.dK kvs)):kvs.length<=sizeLine/\(a==sysModules)=false/\∃vs,KV kvs vs/\h.DictOf (v4 P w) a vs:=kQ ok (.inl e)
theorem lT{ks:List jg}(ok:dW P w H h)(e:H a=some (.tup (ks.map kV))):(tupleKind (v4 P w)).is h ks a:=by obtain⟨_,J,r,o,h1,h2,n,h3⟩:=(show xu P w H h a (.tup (ks.map kV)) from ok a _ e);exact⟨o,J.toArray,n,h1,h2,h3,by simpa using oK r⟩
theorem sd{kvs:List (List jg×V)}(ok:dW P w H h)(e:Rd H a (.dT kvs)):kvs.length<=sizeLine/\(a==sysModules)=false/\
 ∃xs,KT H kvs xs/\h.DictOfH (tupleKind (v4 P w)) a xs:=by
 obtain⟨z,y,xs,r,o,g,j,h1,h2,h3,C,I⟩:=(show xu P w H h a (.dT kvs) from ah7 ok e);refine⟨z,y,xs,r,o,g,j,h1,h2,h3,C,λx J=>?_,I⟩;have all:∀{l:List (List jg×V)} {m:List (List jg×Addr×Value)},KT H l m->∀x∈m,(tupleKind (v4 P w)).is h x.1 x.2.1:=by
  intro l m q
  induction q with
  |nil=>intro x J;exact nomatch J
  |@cons p q ps qs U t T=>
   intro x J;rcases Am.mp J with e|J
   ·subst e;exact lT ok (by rw[<-U.1];exact U.2.1)
   ·exact T x J
 exact all r x J
theorem anc{kvs:List (List jg×V)}(ok:dW P w H h)(e:H a=some (.dT kvs)):kvs.length<=sizeLine/\(a==sysModules)=false/\
 ∃xs,KT H kvs xs/\h.DictOfH (tupleKind (v4 P w)) a xs:=sd ok (.inl e)
end
def o5(H:Hp)(a:Addr)(y:V)(r:Option V):Prop:=
 (∃kvs k,Rd H a (.dK kvs)/\y=kV k/\r=ax kvs k)\/∃kvs k b,Rd H a (.dT kvs)/\y=.ref b/\H b=some (.tup (k.map kV))/\r=ax kvs k
def aoa(H:Hp)(a:Addr)(y v:V)(H':Hp):Prop:=
 (∃kvs k,H a=some (.dK kvs)/\y=kV k/\kvs.length<sizeLine/\H'=upd H a (.dK (dh kvs k v)))\/
 ∃kvs k b,H a=some (.dT kvs)/\y=.ref b/\H b=some (.tup (k.map kV))/\kvs.length<sizeLine/\H'=upd H a (.dT (dh kvs k v))
theorem o5.k{kvs:List (jg×V)}{k:jg}(e:H a=some (.dK kvs)):o5 H a (kV k) (ax kvs k):=.inl ⟨kvs,k,.inl e,rfl,rfl⟩
section
variable {y:V}{r:Value}{o:Option V}
theorem z0.big(I:z0 X pins σ H s):sysModules<s.heap.objs.size:=by have h:mainGlobals<s.heap.objs.size:=(I.mod.glob.keeps I.bk).lt;exact Nat.lt_trans (by decide) h
theorem yo(hu:A.units+1<cLine)(I:z0 X pins σ H s)(g:o5 H a y (some v))(T:zv y u)(h:∀U s',z0 X pins σ H s'->zv v U->Q U s'):
 wpAny (model X.prog X.w) A (getItem (.ref a) u) Q E s:=by
 rcases g with⟨j,k,e,r,l⟩|⟨j,k,b,e,r,eb,l⟩
 ·subst r;obtain⟨z,hd,vs,rel,t⟩:=kQ I.hok e;obtain⟨U,hw,J⟩:=EE (v:=v) (o:=valueAt vs k) (by rw[l];exact rel.val k);exact wpAny_getItem_of (io T) t.mapOf hw (h U _ (I.tok _) J)
 ·subst r;cases (show u=Value.ref b from T);obtain⟨z,hd,xs,rel,t⟩:=sd I.hok e;obtain⟨U,hw,J⟩:=EE (v:=v) (o:=(atKey xs k).map (·.2)) (by rw[l];exact rel.val k);obtain⟨p,hp,C⟩:=Ao.mp hw;refine wpAny_getItem_heap (tupleKind_room_in1 hu) (lT I.hok eb) t hp ?_;rw[C];exact h U _ (I.tok _) J
theorem ash(r:A.units+1<cLine)(I:z0 X pins σ H s)(g:o5 H a y o)(p:zv y u)(h:∀s',z0 X pins σ H s'->Q (.bool o.isSome) s'):
 wpAny (model X.prog X.w) A (compareOp .In u (.ref a)) Q E s:=by
 rcases g with⟨J,k,e,U,l⟩|⟨J,k,b,e,U,t,l⟩
 ·subst U;obtain⟨z,hd,C,rel,j⟩:=kQ I.hok e;refine wpAny_in_of (io p) hd j.mapOf ?_;rw[<-(rel.val k).isSome_eq,<-l];exact h _ (I.tok _)
 ·subst U;cases (show u=Value.ref b from p);obtain⟨z,hd,T,rel,j⟩:=sd I.hok e;refine wpAny_in_heap (tupleKind_room_in1 r) (lT I.hok t) hd j ?_;have q:=(rel.val k).isSome_eq;rw[B6] at q;rw[<-q,<-l];exact h _ (I.tok _)
theorem agv(r:A.units+1<cLine)(I:z0 X pins σ H s)(g:o5 H a y o)(p:zv y u)(h:∀s',z0 X pins σ H s'->Q (.bool (!o.isSome)) s'):
 wpAny (model X.prog X.w) A (compareOp .NotIn u (.ref a)) Q E s:=by
 rcases g with⟨J,k,e,U,l⟩|⟨J,k,b,e,U,t,l⟩
 ·subst U;obtain⟨z,hd,C,rel,j⟩:=kQ I.hok e;refine wpAny_notIn_of (io p) hd j.mapOf ?_;rw[<-(rel.val k).isSome_eq,<-l];exact h _ (I.tok _)
 ·subst U;cases (show u=Value.ref b from p);obtain⟨z,hd,T,rel,j⟩:=sd I.hok e;refine wpAny_notIn_heap (tupleKind_room_in1 r) (lT I.hok t) hd j ?_;have q:=(rel.val k).isSome_eq;rw[B6] at q;rw[<-q,<-l];exact h _ (I.tok _)
theorem oZ{ob:HO}(I:z0 X pins σ H s)(J:Mut (H a))(hs:Heap.SameBut a s.heap h')(U:∃q,h'.get? a=some q)(new:xu X.prog X.w (upd H a ob) h' a ob)(j:0<t':=by walk_at "t"):
 z0 X pins σ (upd H a ob) { s with heap:=h',toks:=t' }:=
 I.write (x:=a) (e:=a) J (.inl rfl) (λb q g z=>(hs.2 b g).trans z) U new
theorem abj{P:Program}{w:World}{kvs:List (jg×V)}{vs:List (jg×Value)}(z:kvs.length<=sizeLine)(hd:(a==sysModules)=false)(rel:KV kvs vs)(dd:h'.DictOf (v4 P w) a vs):
 xu P w H' h' a (.dK kvs):=⟨z,hd,vs,rel,dd⟩
theorem yb{Q:Unit->Shared->Prop}(hu:A.units+1<cLine)(I:z0 X pins σ H s)(g:aoa H a y v H')(ry:zv y u)(rv:zv v r)(h:∀s',z0 X pins σ H' s'->Q () s'):
 wpAny (model X.prog X.w) A (setItem (.ref a) u r) Q E s:=by
 rcases g with⟨J,k,e,o,l,p⟩|⟨J,k,b,e,o,eb,l,p⟩
 ·subst o p;obtain⟨z,hd,vs,rel,t⟩:=ahn I.hok e;have C:vs.length<=sizeLine:=by rw[<-rel.length];exact z
  have T:(dh J k v).length<=sizeLine:=by have:=dm J k v;lia
  refine wpAny_setItem_pairs (hsz:=C) (io ry) t λh' U hs=>h _ ?_;have he:∃q,h'.get? a=some q:=let ⟨q,_,_,j,_⟩:=U;⟨q,j⟩;exact oZ I (by rw[e];exact True.intro) hs he (abj T hd (rel.put k rv) U)
 ·subst o p;cases (show u=Value.ref b from ry);obtain⟨z,hd,xs,rel,t⟩:=anc I.hok e;have C:xs.length<=sizeLine:=by rw[<-Paired.length rel];exact z
  have T:(dh J k v).length<=sizeLine:=by have:=dm J k v;lia
  refine wpAny_setItem_heap (hsz:=C) (tupleKind_room_in1 hu) (lT I.hok eb) t λh' U hs=>h _ ?_;obtain⟨q,es,ep,j,h2,h3,h4,_,h5⟩:=U;refine oZ I (by rw[e];exact True.intro) hs ⟨q,j⟩ ⟨T,hd,_,(rel.put k eb rv).keeps λc ys ec=>?_,q,es,ep,j,h2,h3,h4,h5⟩;rw[qr (alr ec e (λz=>nomatch z))];exact ec
end
section
variable {kvs:List (jg×V)}{k:jg}
theorem aml(I:z0 X pins σ H s)(e:Rd H a (.dK kvs))(h:∀t s',z0 X pins σ H s'->Q (.int kvs.length t) s'):wpAny (model X.prog X.w) A (call (.builtin "len") [.ref a]) Q E s:=by obtain⟨z,hd,U,rel,J⟩:=kQ I.hok e;refine call_len_dict hd J (by rw[<-rel.length];rw[sizeLine_eq] at z;lia) ?_;rw[<-rel.length];exact h _ _ (I.tok _)
end
def aj5(i:Expr):Prop:=∀J U,subscripted i false J U=operate [J,U] (getItem J U)
theorem aen{w:World}{slice:Expr}{T id:String}
 (C:typeLookup (.type T) "__getitem__" = pure (some (.builtin id))) (hs:aj5 slice)
 (h:wpAny (model prog w) A (eval value env) (λo g=>wpAny (model prog w) A (eval slice env) (λi J=>J.TypeIs o T/\wpAny (model prog w) A (getItem o i) Q E J) E g) E s):
 wpAny (model prog w) A (eval (.Subscript value slice pos) env) Q E s:=by
 refine Subscript_ (AV h (λo g l=>AV l (λi J U=>?_) λ_ _ x=>x) λ_ _ x=>x);obtain⟨t,U⟩:=U;unfold subscriptTail;refine Aa ?_;rw[getitemInPython_of_ne t.not_modules];refine Aa (wpAny_specialOf t C ?_);have xg:wpAny (model prog w) A (subscripted slice false o i) (λr j=>wpAny (model prog w) A (letTemporaryGo value o r >>= λ_=>pure r) Q E j) E J:=by rw[hs o i];exact wpAny_operating (AV U (λr j p=>Aa (wpAny_letTemporaryGo (Ah p))) λ_ _ x=>x)
 first
  |exact Ah (Aa xg)
  |exact Aa (Ah (Aa xg))
  |exact Aa xg
theorem qU{y:V}{o:Option V}(I:z0 X pins σ H s)(g:o5 H a y o):s.TypeIs (.ref a) "dict" := by
 rcases g with⟨J,k,e,_,_⟩|⟨J,k,b,e,_,_,_⟩
 ·obtain⟨_,_,j,_,U⟩:=kQ I.hok e;exact U.typeIs
 ·obtain⟨_,_,l,_,U⟩:=sd I.hok e;exact U.typeIs
def anu(td ty:TE):TE:=λσ H Q=>td σ H λx H1=>ty σ H1 λy H2=>∃a v,x=.ref a/\o5 H2 a y (some v)/\Q v H2
def am3(td ty tv:TE):TS:=λD σ H=>tv σ H λv H1=>td σ H1 λx H2=>ty σ H2 λy U=>∃a J,x=.ref a/\aoa U a y v J/\D.nx σ J
section
variable {i:Expr}{tpos:Pos}{td ty tv:TE}
theorem aev(p:X.A.units+1<cLine)(r:PE X o td)(hi:PE X i ty)(hs:aj5 i):PE X (.Subscript o i pos) (anu td ty):=by intro J s j H Q I h;refine aen Di.lookup hs (ah (r J s j H _ I h) λu t x C T rx q1=>aF (hi J t j C _ T q1) λiv s2 ⟨y,H2,l,ry,a,v,ex,g,q2⟩=>?_);subst ex;obtain rfl:u=Value.ref a:=rx;exact⟨qU l g,yo p l g ry λw' s3 I3 U=>⟨v,H2,I3,U,q2⟩⟩
theorem afq(j:X.A.units+1<cLine)(l:PE X o td)(hi:PE X i ty)(p:PE X value tv)(hs:swapsWith value (some (.Subscript o i gb)) pos.line X.env=pure false):
 PS X (.Assign [.Subscript o i gb] value pos) (am3 td ty tv):=by
 intro J s U H D I h;refine wpAny_Assign_Subscript (ah (p J s U H _ I h) λr t v C T rv q1=>ah (l J t U C _ T q1) λu s2 x H2 I2 rx q2=>aF (hi J s2 U H2 _ I2 q2) λiv s3 ⟨y,H3,I3,ry,a,H4,ex,g,q3⟩=>?_) hs;subst ex;obtain rfl:u=Value.ref a:=rx;exact yb j I3 g ry rv λs4 I4=>⟨U,H4,I4,q3⟩
end
theorem sO{P:Program}{w:World}(h:Heap)(J:sysModules<h.objs.size):xu P w H (h.push { cls:=.type "dict",data:=.dict #[] }) h.objs.size (.dK []):=
 ⟨A9 _,beq_eq_false_iff_ne.mpr (AE (AZ J)),[],.nil,Heap.DictOf.new h⟩
def aks:TE:=λ_ H Q=>∀p,H p=none->Q (.ref p) (upd H p (.dK []))
theorem acm:PE X (.Dict [] [] pos) aks:=λJ s U H Q I h=>
 wpAny_Dict_empty ⟨.ref s.heap.objs.size,_,I.laid (a:=s.heap.objs.size) (o:=.dK []) (t':=s.toks) (λ_ _ q=>wh _ q) (Al _) (sO s.heap I.big),rfl,h _ (I.hok.fresh (Al _))⟩
def lu:List (TE×TE)->St->Hp->(List (V×V)->Hp->Prop)->Prop
 |[],_,H,Q=>Q [] H
 |(tk,tv)::r,σ,H,Q=>tk σ H λx H1=>tv σ H1 λy H2=>lu r σ H2 λps J=>Q ((x,y)::ps) J
abbrev VV:List (V×V)->List (Value×Value)->Prop:=Paired λp q=>zv p.1 q.1/\zv p.2 q.2
def PPs(X:Cx)(pos:Pos)(keys:List (Option Expr))(values:List Expr)(J:List (TE×TE)):Prop:=
 ∀(pins:List (Addr×Obj)) (s:Shared) (σ:St) (H:Hp) (Q:List (V×V)->Hp->Prop),z0 X pins σ H s->lu J σ H Q->
  wpAny (model X.prog X.w) X.A (evalPairs (pairTrees keys values X.env pos)) (λvs s'=>∃ps H',z0 X pins σ H' s'/\VV ps vs/\Q ps H') X.xe s
theorem wO :PPs X pos [] [] []:=λJ s U H Q I h=>pairTrees_nil_walk ⟨[],H,I,.nil,h⟩
theorem a9{k v:Expr}{ks:List (Option Expr)}{vs:List Expr}{tk tv:TE}{U:List (TE×TE)}(j:PE X k tk)(l:PE X v tv)(o:PPs X pos ks vs U):
 PPs X pos (some k::ks) (v::vs) ((tk,tv)::U):=λJ s g H Q I h=>
 pairTrees_cons_walk (ah (j J s g H _ I h) λu p x r t C T=>ah (l J p g r _ t T) λw2 s2 y H2 I2 ry q2=>
  aF (o J s2 g H2 _ I2 q2) λws s3 ⟨ps,H3,I3,rel,q3⟩=>⟨(x,y)::ps,H3,I3,.cons ⟨C,ry⟩ rel,q3⟩)
def fS(kvs more:List (jg×V)):List (jg×V):=more.foldl (λJ U=>dh J U.1 U.2) kvs
theorem KV.merge:∀{more:List (jg×V)} {J:List (jg×Value)} {kvs:List (jg×V)} {vs:List (jg×Value)},KV more J->KV kvs vs->KV (fS kvs more) (merged vs J):=by
 intro more J kvs vs r;unfold KV at r
 induction r generalizing kvs vs with
 |nil=>intro q;exact q
 |@cons p q j l h t U=>
  intro g;have e:KV (dh kvs p.1 p.2) (stored vs q.1 q.2):=by have:=g.put p.1 h.2;rw[<-h.1];exact this
  exact U e
theorem fH:∀(more kvs:List (jg×V)),(fS kvs more).length<=kvs.length+more.length
 |[],kvs=>by show kvs.length<=kvs.length+0;lia
 |p::r,kvs=>by have h1:=fH r (dh kvs p.1 p.2);have h2:=dm kvs p.1 p.2;show(fS (dh kvs p.1 p.2) r).length<=_;rw[AN];lia
theorem lE{P:Program}{w:World}:∀{kvs:List (jg×V)} {U:List (Value×Value)},VV (kvs.map λg=>(kV g.1,g.2)) U->∃J,Carries (v4 P w) U J/\KV kvs J
 |[],_,r=>by rw[CP] at r;cases r;exact⟨[],True.intro,.nil⟩
 |p::kvs,_,r=>by
  rw[AG] at r;cases r with
  |@cons a b as bs h t=>
   obtain⟨J,c,q⟩:=lE (P:=P) (w:=w) t;obtain⟨b1,b2⟩:=b;exact⟨(p.1,b2)::J,⟨io h.1,rfl,c⟩,.cons ⟨rfl,h.2⟩ q⟩
def am4(J:List (TE×TE)):TE:=λσ H Q=>∀p,H p=none->lu J σ (upd H p (.dK [])) λps H2=>H2 p=some (.dK [])/\∃kvs:List (jg×V),ps=kvs.map (λU=>(kV U.1,U.2))/\kvs.length<=15/\Q (.ref p) (upd H2 p (.dK (fS [] kvs)))
theorem wR{J:List (TE×TE)}(h:PPs X pos keys values J)(U:keys.all (·.isSome)=true)(t:keys.length=values.length)(h0:keys≠[])
 (p:keys.length<=15):PE X (.Dict keys values pos) (am4 J):=by
 intro g s C H Q I q;have T:=I.hok.fresh (Al s.heap.objs.size);have I1:=I.laid (a:=s.heap.objs.size) (o:=.dK []) (h':=s.heap.push { cls:=.type "dict",data:=.dict #[] }) (t':=s.toks) (λ_ _ q=>wh _ q) (Al _) (sO s.heap I.big);refine wpAny_Dict_walk (knd:=v4 X.prog X.w) U t h0 p (aF (h g _ C _ _ I1 (q _ T)) λws s2 ⟨ps,H2,r,rel,e,j,ep,lk,q2⟩=>?_);subst ep;obtain⟨rs,c,rk⟩:=lE (P:=X.prog) (w:=X.w) rel;obtain⟨z,hd,a1,r0,dd⟩:=ahn r.hok e;cases r0;refine⟨rs,c,dd,λh' l hs=>⟨.ref s.heap.objs.size,_,?_,rfl,q2⟩⟩;have hz:(fS [] j).length<=sizeLine:=by have h1:=fH j [];rw[List.length_nil] at h1;rw[sizeLine_eq];lia
 have he:∃q,h'.get? s.heap.objs.size=some q:=let ⟨q,_,_,hq,_⟩:=l;⟨q,hq⟩;exact oZ r (by rw[e];exact True.intro) hs he (abj hz hd (rk.merge .nil) l)
section
variable {y d:V}{r:Value}{o:Option V}
end
section
variable {f:Expr}{td ty tx:TE}
end
section
variable {kvs:List (jg×V)}
end
section
variable {y:V}
end
end L2
namespace HT
open PySem PyProof.Rows
section
open PySem.SeqAt
open PySem.AutoSeq1 (wpAny_loadPart')
open PySem.MeetsSeq PySem.MeetsSeq2 PySem.MeetsSeq3
end
section
variable {w:World}
theorem cat_tup{t:Addr}{J:List Value}(ht:IsTup s.heap t vs.toArray)(hb:IsTup s.heap b J.toArray)(r:vs≠[])
 (h1:J=[]->Q (.ref t) s) (h2:J≠[]->Q (.ref s.heap.objs.size) { s with heap:=s.heap.push { cls:=.type "tuple",data:=.seq (vs++J).toArray } })
 (hsz:vs.length+J.length<=sizeLine):wpAny (model prog w) A (binaryOp .Add (.ref t) (.ref b)) Q E s:=by
 obtain⟨⟨cls,C,data,I⟩,p,T,n,hd⟩:=id ht;obtain⟨⟨a1,g,data2,j⟩,U,l,n2,o⟩:=id hb;simp only at T hd l o;subst T hd l o;have e:vs.toArray++J.toArray=(vs++J).toArray:=by simp
 by_cases hw:J=[]
 ·exact concat_meets ⟨_,p,rfl⟩ ⟨_,U,rfl⟩ noFill_tuple_add seq_tuple_add DB Dt (Dq _ _)
   (tuple_addW1 t b vs.toArray J.toArray n n2 C g I j (by simpa using r) (by simp[hw])) ⟨p,U,h1 hw⟩
 ·refine concat_meets ⟨_,p,rfl⟩ ⟨_,U,rfl⟩ noFill_tuple_add seq_tuple_add DB Dt (Dq _ _)
   (tuple_addW2 t b vs.toArray J.toArray n n2 C g I j (by simpa using r) (by simpa using hw) (by rw[Ak,Ak];exact hsz)) ⟨p,U,?_⟩
  rw[e];exact h2 hw
def sIx(n d:Nat):Option Int->Nat
 |none=>d
 |some v=>if v<0 then(v+(n:Int)).toNat else min v.toNat n
theorem sIx_none(n d:Nat):sIx n d none=d:=rfl
theorem sIx_nat(n d k:Nat):sIx n d (some (k:Int))=min k n:=by show(if (k:Int)<0 then((k:Int)+(n:Int)).toNat else min (k:Int).toNat n)=min k n;rw[AF (by lia),AQ]
theorem sIx_le(n d:Nat)(hd:d<=n)(o:Option Int):sIx n d o<=n:=by
 cases o with
 |none=>exact hd
 |some v=>
  show(if v<0 then(v+(n:Int)).toNat else min v.toNat n)<=n;by_cases J:v<0
  ·rw[AC J];lia
  ·rw[AF J];exact Nat.min_le_right _ _
theorem wB(v:Int)(n d:Nat):(if v<0 then max (v+(n:Int)) 0 else min v (n:Int))=((sIx n d (some v):Nat):Int):=by
 show(if v<0 then max (v+(n:Int)) 0 else min v (n:Int))=(((if v<0 then(v+(n:Int)).toNat else min v.toNat n):Nat):Int);by_cases J:v<0
 ·simp only[AC J];lia
 ·simp only[AF J];lia
theorem vC(lo hi:Option Int)(n:Nat):Builtin.Slice.sliceAdjust lo hi 1 (n:Int)=(((sIx n 0 lo:Nat):Int),(sIx n n hi:Int)):=by
 have h1:¬((1:Int)<0):=by lia
 unfold Builtin.Slice.sliceAdjust;simp only[h1,if_false];refine Prod.ext ?_ ?_
 ·cases lo with|none=>rfl|some v=>exact wB v n 0
 ·cases hi with|none=>rfl|some v=>exact wB v n n
theorem uI(i j:Nat):Builtin.Slice.slicePlaces (i:Int) (j:Int) 1=j-i:=by
 unfold Builtin.Slice.slicePlaces;have h1:(1:Int) > 0:=by lia
 simp only[h1,if_true,Int.ediv_one];split<;>lia
theorem mJ{v:Value}{o:Option Int}{Q:Option Int->Shared->Prop}(p:IsPart v o)(h:Q o s):wpAny (model prog w) A (Builtin.Slice.slicePartIndex v) Q E s:=by cases p with|none=>exact slicePart_none h|int i t=>exact slicePart_int h
theorem iC{l:Addr}{g j:Value}{lo hi:Option Int}{Q:Int×Int×Nat->Shared->Prop}(hs:s.heap.IsSliceOf l g j .none)(pl:IsPart g lo)(o:IsPart j hi)
 (h:Q (((sIx n 0 lo:Nat):Int),1,sIx n n hi-sIx n 0 lo) s):wpAny (model prog w) A (Builtin.Slice.sliceApplied (.ref l) (pure (n:Int))) Q E s:=by
 obtain⟨os,J,p,U⟩:=id hs;unfold Builtin.Slice.sliceApplied Builtin.Slice.sliceFields;refine Aa (Aa (AU J U (x:=g) rfl (Aa (AU J U (x:=j) rfl (Aa (AU J U (x:=.none) rfl (Ah ?_)))))));refine Aa (slicePart_none ?_);show wpAny _ _ (if ((1:Int)==0)=true then _ else _) _ _ s;rw[AF (by decide)];refine Aa (mJ pl (Aa (mJ o (Aa (Ah ?_)))));show wpAny _ _ (match Builtin.Slice.sliceAdjust lo hi 1 (n:Int) with|(lo,hi)=>pure (lo,(1:Int),Builtin.Slice.slicePlaces lo hi 1)) _ _ s;rw[vC lo hi n];show wpAny _ _ (pure (((sIx n 0 lo:Nat):Int),(1:Int),Builtin.Slice.slicePlaces ((sIx n 0 lo:Nat):Int) (sIx n n hi:Int) 1)) _ _ s;rw[uI];exact Ah h
theorem aar(xs:Array Value)(i k:Nat):((List.range k).filterMap λ(m:Nat)=>xs[((i:Int)+(m:Int)*1).toNat]?).toArray=((xs.toList.drop i).take k).toArray:=by
 have e:(λ(m:Nat)=>xs[((i:Int)+(m:Int)*1).toNat]?)=λm=>xs[i+m]?:=by
  funext m;have:((i:Int)+(m:Int)*1).toNat=i+m:=by lia
  rw[this]
 rw[e];have:=pick_run xs i k;rw[List.filterMap_map] at this;have J:((λx=>xs[x]?)∘λx=>i+x)=λm=>xs[i+m]?:=rfl;rw[J] at this;rw[this]
theorem getItem_tuple_cut{t g:Addr}{items:Array Value}{r C:Value}{lo hi:Option Int}(U:IsTup s.heap t items)(hs:s.heap.IsSliceOf g r C .none)(pl:IsPart r lo)(I:IsPart C hi)
 (hw:¬(sIx items.size 0 lo=0/\sIx items.size items.size hi=items.size))
 (h:Q (.ref s.heap.objs.size) { s with heap:=s.heap.push { cls:=.type "tuple",data:=.seq ((items.toList.drop (sIx items.size 0 lo)).take (sIx items.size items.size hi-sIx items.size 0 lo)).toArray } })
 (hsz:items.size<=sizeLine):wpAny (model prog w) A (getItem (.ref t) (.ref g)) Q E s:=by
 have J:sizeOk (.seq ((items.toList.drop (sIx items.size 0 lo)).take (sIx items.size items.size hi-sIx items.size 0 lo)).toArray):=by show((items.toList.drop (sIx items.size 0 lo)).take (sIx items.size items.size hi-sIx items.size 0 lo)).toArray.size<=sizeLine;rw[Ak,A4,Cv,Bq];lia
 have hj:sIx items.size items.size hi<=items.size:=sIx_le _ _ (Al _) hi;obtain⟨os,j,l,T⟩:=id hs;have o:s.TypeIs (.ref g) "slice" := ⟨os,j,l⟩;unfold getItem
 try with_reducible refine AY ?_
 first|refine Aa (Ah ?_)|skip
 refine Aa (wpAny_sequenceKey U.typeIs (by decide) ?_);refine Aa (wpAny_callSpecial?_slot (name:=Str.ofString "__getitem__") U.typeIs Ce
  (wpAny_call_entry Ce U.typeIs entry_tuple_getitem ?_ (args_tuple_getitem _ _)))
 show wpAny _ _ (Builtin.Tuple.tupleItemsOf (.ref t) >>= _) _ _ s;refine Aa (tupleItemsOf_ U ?_);refine Aa (wpAny_typeOf o ?_);rw[AC (by decide)];refine Aa (iC hs pl I ?_);have p:¬((((sIx items.size 0 lo:Nat):Int)==0&&(1:Int)==1&&(sIx items.size items.size hi-sIx items.size 0 lo)==items.size)=true):=by intro q;rw[A2,A2] at q;have q1:((sIx items.size 0 lo:Nat):Int)=0:=eq_of_beq q.1.1;have q2:sIx items.size items.size hi-sIx items.size 0 lo=items.size:=eq_of_beq q.2;exact hw ⟨by lia,by lia⟩
 show wpAny _ _ (if (((sIx items.size 0 lo:Nat):Int)==0&&(1:Int)==1&&(sIx items.size items.size hi-sIx items.size 0 lo)==items.size)=true then _ else _) _ _ s;rw[AF p,aar]
 first
  |exact Aa (m:=Builtin.Tuple.tupleExact _) (Bh (Ah ⟨_,rfl,Ah h⟩) J)
  |exact Aa (m:=Builtin.Tuple.tupleExact _) (Bh (Aa (Ah (Ah ⟨_,rfl,Ah h⟩))) J)
  |exact Aa (Aa (m:=Builtin.Tuple.tupleExact _) (Bh (Ah (Ah ⟨_,rfl,Ah h⟩)) J))
  |exact Aa (Aa (m:=Builtin.Tuple.tupleExact _) (Bh (Ah ⟨_,rfl,Ah h⟩) J))
end
end HT
namespace L2
open PySem PySem.Spec PyProof.Rows
abbrev TO:=St->Hp->(Option Int->Hp->Prop)->Prop
def PO(X:Cx)(e:Option Expr)(t:TO):Prop:=
 ∀(pins:List (Addr×Obj)) (s:Shared) (σ:St) (H:Hp) (Q:Option Int->Hp->Prop),z0 X pins σ H s->t σ H Q->
  wpAny (model X.prog X.w) X.A (evalPart e X.env) (λu s'=>∃o H',z0 X pins σ H' s'/\IsPart u o/\Q o H') X.xe s
def afh:TO:=λ_ H Q=>Q none H
def anh(t:TE):TO:=λσ H Q=>t σ H λx H1=>∃i,x=.int i/\Q (some i) H1
section
variable {te:TE}{lo hi:Option Expr}{tl th:TO}
theorem ae6:PO X none afh:=by intro J s U H Q I h;rw[evalPart_none];exact Ah ⟨none,H,I,.none,h⟩
theorem aee(h:PE X e te):PO X (some e) (anh te):=by intro J s U H Q I hw;rw[evalPart_some];refine ah (h J s U H _ I hw) λu p x g j l o=>?_;obtain⟨i,rfl,q⟩:=o;obtain⟨t,rfl⟩:=l;exact⟨some i,g,j,.int i t,q⟩
def qL(X:Cx)(r:V->Option Int->Option Int->Hp->VK->Prop):Prop:=
 ∀(pins:List (Addr×Obj)) (s:Shared) (σ:St) (H:Hp) (x:V) (v J U:Value) (lo hi:Option Int) (g:Addr) (Q:VK),z0 X pins σ H s->zv x v->s.heap.IsSliceOf g J U .none->IsPart J lo->IsPart U hi->r x lo hi H Q->
  ∃T id,typeLookup (.type T) "__getitem__" = pure (some (.builtin id))/\s.TypeIs v T/\wpAny (model X.prog X.w) X.A (getItem v (.ref g)) (EP X pins σ Q) X.xe s
theorem qL.or{U:V->Option Int->Option Int->Hp->VK->Prop}(h:qL X r)(h':qL X U):qL X (λx lo hi H Q=>r x lo hi H Q\/U x lo hi H Q):=by
 intro J s g H x v j l lo hi o Q I p t pl C q;rcases q with q|q
 ·exact h J s g H x v j l lo hi o Q I p t pl C q
 ·exact h' J s g H x v j l lo hi o Q I p t pl C q
def tSl(r:V->Option Int->Option Int->Hp->VK->Prop)(te:TE)(tl th:TO):TE:=λσ H Q=>te σ H λx H1=>tl σ H1 λl H2=>th σ H2 λu J=>r x l u J Q
theorem zV(t:qL X r)(C:PE X e te)(hl:PO X lo tl)(hu:PO X hi th):PE X (.Subscript e (.Slice lo hi none p2) pos) (tSl r te tl th):=by intro J s g H Q I h;refine Subscript_ (aF (C J s g H _ I h) λv s1 ⟨x,H1,I1,r1,q1⟩=>?_);refine wpAny_Slice (aF (hl J s1 g H1 _ I1 q1) λj s2 ⟨l,H2,I2,pl,q2⟩=>aF (hu J s2 g H2 _ I2 q2) λo U ⟨u,p,I3,pu,q3⟩=>?_);rw[evalPart_none];refine Ah ?_;have I4:z0 X J g p { U with heap:=U.heap.push { cls:=.type "slice",data:=.fields #[j,o,.none] } }:=I3.kept (t':=U.toks) λb ob q=>wh _ q;obtain⟨T,id,hT,ht,hg⟩:=t J { U with heap:=U.heap.push { cls:=.type "slice",data:=.fields #[j,o,.none] } } g p x v j o l u U.heap.objs.size Q I4 r1 (Heap.IsSliceOf.new ..) pl pu q3;show wpAny (model X.prog X.w) X.A (subscriptTail e (.Slice lo hi none p2) v (.ref U.heap.objs.size)) (EP X J g Q) X.xe { U with heap:=U.heap.push { cls:=.type "slice",data:=.fields #[j,o,.none] } };exact tail_any (ops:=[.ref U.heap.objs.size,v]) ht hT hg (by with_unfolding_all rfl)
def rX(xs:List V)(lo hi:Option Int):List V:=(xs.drop (HT.sIx xs.length 0 lo)).take (HT.sIx xs.length xs.length hi-HT.sIx xs.length 0 lo)
theorem jA(xs:List V)(lo hi:Option Int):(rX xs lo hi).length<=xs.length:=by unfold rX;rw[A4,Cv];lia
def apf(K:Ae):V->Option Int->Option Int->Hp->VK->Prop:=λx lo hi H Q=>∃a xs,x=.ref a/\cZ K H a xs/\
 ¬(HT.sIx xs.length 0 lo=0/\HT.sIx xs.length xs.length hi=xs.length)/\∀p,H p=none->Q (.ref p) (upd H p (.tup (rX xs lo hi)))
theorem al8:qL X (apf X.K):=by
 intro l s σ H x v vl vu lo g sl Q I C T pl pu h;obtain⟨a,U,rfl,hx,hw,q⟩:=h;cases C;obtain⟨j,r,p,t⟩:=I.tuple hx;have J:j.toArray.size=U.length:=by rw[Ak];exact r.length.symm
 refine⟨"tuple",_,Ce.lookup,p.typeIs,?_⟩;refine HT.getItem_tuple_cut p T pl pu (by rw[J];exact hw) ?_ (by rw[J];exact t);rw[J];refine⟨.ref s.heap.objs.size,_,I.laid (t':=s.toks) (o:=.tup (rX U lo g)) (λb ob q=>wh _ q) (Al _) ?_,rfl,q _ (I.hok.fresh (Al _))⟩;exact⟨AM (jA U lo g) t,_,(r.drop (HT.sIx U.length 0 lo)).take (HT.sIx U.length U.length g-HT.sIx U.length 0 lo),IsTup.new _ _⟩
def an9(K:Ae):R2:=λx y H Q=>∃a b xs ys,x=.ref a/\y=.ref b/\cZ K H a xs/\cZ K H b ys/\xs≠[]/\xs.length+ys.length<=sizeLine/\
 (ys=[]->Q (.ref a) H)/\(ys≠[]->∀p,H p=none->Q (.ref p) (upd H p (.tup (xs++ys))))
theorem zp.nil_iff(r:zp xs us):us=[]↔xs=[]:=by cases r with|nil=>simp|cons _ _=>simp
theorem ag6:kj X (binaryOp .Add) (an9 X.K):=by intro g s σ H x y v u Q I p r h;obtain⟨a,b,t,C,rfl,rfl,T,hb,hx,j,q1,q2⟩:=h;cases p;cases r;obtain⟨a1,U,p1,_⟩:=I.tuple T;obtain⟨l,J,p2,_⟩:=I.tuple hb;refine HT.cat_tup p1 p2 (λz=>hx (U.nil_iff.mp z)) (λz=>⟨.ref a,H,I,rfl,q1 (J.nil_iff.mp z)⟩) (λz=>?_) (by rw[<-U.length,<-J.length];exact j);refine⟨.ref s.heap.objs.size,_,I.laid (t':=s.toks) (o:=.tup (t++C)) (λb ob q=>wh _ q) (Al _) ?_,rfl,q2 (λw=>z (J.nil_iff.mpr w)) _ (I.hok.fresh (Al _))⟩;exact⟨by rw[Ac];exact j,_,U.append J,IsTup.new _ _⟩
end
def ixN(n:Nat)(i:Int):Option Nat:=if 0<=i then(if i<n then some i.toNat else none) else if -(n:Int)<=i then some (i+n).toNat else none
def fO(xs:List α)(i:Int):Option α:=(ixN xs.length i).bind λj=>xs[j]?
theorem wQ{i:Int}(h:ixN n i=some j):seqIndex? i n=some j/\j<n /\ -(n:Int)<=i/\i<n:=by
 unfold ixN at h;by_cases h0:0<=i
 ·rw[AC h0] at h;by_cases h1:i<n
  ·rw[AC h1] at h;have e:i.toNat=j:=AO h;exact⟨by rw[seqIndex_of h0 h1,e],by lia,by lia,h1⟩
  ·rw[AF h1] at h;cases h
 ·rw[AF h0] at h;by_cases h1 : -(n:Int)<=i
  ·rw[AC h1] at h;have e:(i+n).toNat=j:=AO h;exact⟨by rw[seqIndex_neg (by lia) h1,e],by lia,h1,by lia⟩
  ·rw[AF h1] at h;cases h
theorem ph{xs:List α}{i:Int}{v:α}(h:fO xs i=some v):∃j,seqIndex? i xs.length=some j/\xs[j]?=some v/\j<xs.length /\ -(xs.length:Int)<=i/\i<xs.length:=by
 unfold fO at h;cases e:ixN xs.length i with
 |none=>rw[e] at h;cases h
 |some j=>
  rw[e] at h;obtain⟨h1,h2,h3,J⟩:=wQ e;exact⟨j,h1,h,h2,h3,J⟩
theorem vk{xs:List α}{v:α}(h:xs[j]?=some v):fO xs (j:Int)=some v:=by
 have J:j<xs.length:=(AW.mp h).1;have e:ixN xs.length (j:Int)=some j:=by unfold ixN;rw[AC (by lia),AC (by lia)];simp
 unfold fO;rw[e];exact h
theorem gG(xs:List α)(v:α):fO (xs++[v]) (-1)=some v:=by
 have J:(xs++[v]).length=xs.length+1:=by simp
 have e:ixN (xs++[v]).length (-1)=some xs.length:=by unfold ixN;rw[J,AF (by decide),AC (by lia)];congr 1;lia
 unfold fO;rw[e];show(xs++[v])[xs.length]?=some v;simp
def jY(b:Expr):Prop:=∀o i,subscripted b false o i=operate [o,i] (getItem o i)
def IxR(X:Cx)(r:R2):Prop:=
 ∀(value slice:Expr) (pins:List (Addr×Obj)) (s:Shared) (σ:St) (H:Hp) (x y:V) (v u:Value) (Q:VK),z0 X pins σ H s->zv x v->zv y u->r x y H Q->
  subscripted slice false v u=operate [v,u] (getItem v u)->wpAny (model X.prog X.w) X.A (subscriptTail value slice v u) (EP X pins σ Q) X.xe s
def MtR(X:Cx)(id:String)(r:V->List V->Hp->VK->Prop):Prop:=
 ∀(pins:List (Addr×Obj)) (s:Shared) (σ:St) (H:Hp) (x:V) (xs:List V) (v:Value) (us:List Value) (Q:VK),z0 X pins σ H s->zv x v->zp xs us->r x xs H Q->
  wpAny (model X.prog X.w) X.A (call (.builtin id) (v::us)) (EP X pins σ Q) X.xe s
section
variable {a b:Expr}{tb:TE}
theorem ah9{r:R2}(U:IxR X r)(g:PE X a ta)(j:PE X b tb)(hs:jY b):PE X (.Subscript a b pos) (tOp r ta tb):=by intro J s l H Q I h;exact Subscript_ (air g j I h λv u o x y p t C T q=>U a b J o l p x y v u Q t C T q (hs _ _))
def asu(K:Ae):R2:=λx y H Q=>∃p xs i v,x=.ref p/\y=.int i/\wu K H p xs/\fO xs i=some v/\Q v H
def asa(K:Ae):R2:=λx y H Q=>∃p xs i v,x=.ref p/\y=.int i/\cZ K H p xs/\fO xs i=some v/\Q v H
def arq:R2:=λx y H Q=>∃z i c,x=.str z/\y=.int i/\z.length<=sizeLine/\fO z.cps.toList i=some c/\Q (.str ⟨#[c]⟩) H
theorem ae9:IxR X (asu X.K):=by
 intro value slice J s o H x y v u Q I rx ry h C;obtain⟨p,xs,i,z,rfl,rfl,hq,he,q⟩:=h;cases rx;obtain⟨t,rfl⟩:=ry;obtain⟨U,r,pl,hz⟩:=I.list hq;obtain⟨j,h1,h2,h3,h4,h5⟩:=ph he;obtain⟨w,T,g⟩:=r.get h2;have hl:=r.length;have hn:=iW;have xg:EP X J o Q w s:=⟨z,H,I,g,q⟩;by_cases h0:0<=i
 ·have l:i.toNat=j:=by rw[seqIndex_of h0 h5] at h1;exact AO h1
  exact item_listR pl.isList h0 (by lia) (by rw[l];simpa using T) xg C
 ·have l:(i+(U.toArray.size:Int)).toNat=j:=by rw[seqIndex_neg (by lia) h4] at h1;rw[Ak,<-hl];exact AO h1
  exact subscriptTail_builtinR (x:=w) pl.isList.typeIs slot_list_getitem.lookup
   (wpAny_getItem_list_neg (Q:=λr s'=>r=w/\EP X J o Q r s') pl.isList (by lia) (by rw[Ak]<;>lia) (by lia) (by rw[l];simpa using T) ⟨rfl,xg⟩) C
theorem ajb:IxR X (asa X.K):=by
 intro value slice J s g H x y v u Q I l o h C;obtain⟨p,xs,i,z,rfl,rfl,T,he,q⟩:=h;cases l;obtain⟨t,rfl⟩:=o;obtain⟨a1,r,pl,hz⟩:=I.tuple T;obtain⟨j,h1,h2,h3,h4,h5⟩:=ph he;obtain⟨w,ew,U⟩:=r.get h2;have hl:=r.length;have hn:=iW;have xg:EP X J g Q w s:=⟨z,H,I,U,q⟩;exact subscriptTail_builtinR (x:=w) pl.typeIs slot_tuple_getitem.lookup
  (getItem_tuple (j:=j) (Q:=λr s'=>r=w/\EP X J g Q r s') pl (by lia) (by lia) (by rw[Ak,<-hl];exact h1) (by simpa using ew) ⟨rfl,xg⟩) C
theorem alb:IxR X arq:=by
 intro value slice J s σ H x y v u Q I U g h l;obtain⟨z,i,c,rfl,rfl,hz,o,q⟩:=h;obtain⟨t,rfl⟩:=U;obtain⟨t',rfl⟩:=g;obtain⟨j,h1,h2,h3,p,r⟩:=ph o;have C:z.cps.toList.length=z.length:=by simp[Str.length]
 rw[C] at h1 p r;have hn:=iW;exact tail_any (typeIs_str s z t) slot_str_getitem.lookup (getItem_str (c:=c) (by have T:decide (i < -(2 ^ 63:Int))=false:=Au (by lia);have e2:decide (i>=2 ^ 63)=false:=Au (by lia);rw[T,e2,Bool.or_false]) (by rw[h1];simpa using h2) ⟨.str ⟨#[c]⟩,H,I.tok _,⟨_,rfl⟩,q⟩) l
theorem t8(eH:List Value)(n j:Nat)(u:Value):Obj.mapSeq (·.setIfInBounds j u) { cls:=.type "list",data:=.seq eH.toArray n }={ cls:=.type "list",data:=.seq (eH.set j u).toArray n }:=by simp[Obj.mapSeq]
theorem z0.lst{p:Addr}(I:z0 X pins σ H s)(h:H p=some (.lst xs)):
 ∃(eH:List Value) (n:Nat),zp xs eH/\s.heap.get? p=some { cls:=.type "list",data:=.seq eH.toArray n }/\xs.length<=sizeLine:=by
 obtain⟨z,eH,n,r,e⟩:=I.hok p _ h;exact⟨eH,n,r,e,z⟩
theorem z0.lstUpd{p:Addr}{ys:List V}{its':List Value}{J:Nat}{f:Obj->Obj}(I:z0 X pins σ H s)(h:H p=some (.lst xs))
 (g:s.heap.get? p=some { cls:=.type "list",data:=.seq eH.toArray n }) (U:f { cls:=.type "list",data:=.seq eH.toArray n }={ cls:=.type "list",data:=.seq its'.toArray J }) (r:zp ys its') (hz:ys.length<=sizeLine) (t:Nat) (l:0<t:=by walk_at "t"):
 z0 X pins σ (upd H p (.lst ys)) { s with heap:=s.heap.update p f,toks:=t }:=by
 have e:(s.heap.update p f).get? p=some { cls:=.type "list",data:=.seq its'.toArray J }:=by rw[As f g (by rw[U]<;>rfl),U]
 refine I.write (x:=p) (e:=p) (by rw[h];trivial) (.inl rfl) (λb u j q=>(y1 _ _ (AE j)).trans q) ⟨_,e⟩ ?_;exact⟨hz,its',J,r,e⟩
def amc:V->V->V->Hp->(Hp->Prop)->Prop:=λo i v H Q=>∃p xs k j,o=.ref p/\i=.int k/\H p=some (.lst xs)/\ixN xs.length k=some j/\Q (upd H p (.lst (xs.set j v)))
theorem aal:anj X amc:=by
 intro J s σ H o i v ov iv u Q I ro ri rv h;obtain⟨p,xs,k,j,rfl,rfl,T,hj,q⟩:=h;cases ro;obtain⟨t,rfl⟩:=ri;obtain⟨U,n,r,g,hz⟩:=I.lst T;obtain⟨h1,h2,h3,h4⟩:=wQ hj;have l:=r.length;have hn:=iW;have I':z0 X J σ (upd H p (.lst (xs.set j v))) { s with heap:=s.heap.update p (Obj.mapSeq (·.setIfInBounds j u)) }:=
  I.lstUpd T g (t8 U n j u) (r.set rv j) (by rw[BQ];exact hz) s.toks
 by_cases h0:0<=k
 ·have C:k.toNat=j:=by rw[seqIndex_of h0 h4] at h1;exact AO h1
  exact PySem.W.ki_setAt g h0 (by lia) (by rw[Ak,<-l];exact h4) (by rw[C];exact⟨_,I',q⟩)
 ·have C:(k+(U.toArray.size:Int)).toNat=j:=by rw[seqIndex_neg (by lia) h3] at h1;rw[Ak,<-l];exact AO h1
  exact PySem.W.ki_setBack g (by lia) (by rw[Ak,<-l];exact h3) (by lia) (by rw[C];exact⟨_,I',q⟩)
theorem oY(lo hi:Option Int)(n:Nat):(sliceBounds lo hi none n).1=((HT.sIx n 0 lo:Nat):Int)/\(sliceBounds lo hi none n).2.1=((HT.sIx n n hi:Nat):Int)/\(sliceBounds lo hi none n).2.2=1:=by
 refine⟨?_,?_,rfl⟩
 ·cases lo with
  |none=>simp[sliceBounds,HT.sIx]
  |some i=>
   simp only[sliceBounds,HT.sIx,Option.getD_none,show(1:Int) > 0 by decide,if_true];by_cases h:i<0
   ·simp only[h,if_true]<;>lia
   ·simp only[h,if_false]<;>lia
 ·cases hi with
  |none=>simp[sliceBounds,HT.sIx]
  |some i=>
   simp only[sliceBounds,HT.sIx,Option.getD_none,show(1:Int) > 0 by decide,if_true];by_cases h:i<0
   ·simp only[h,if_true]<;>lia
   ·simp only[h,if_false]<;>lia
theorem mj(eH:List Value)(lo hi:Option Int):slicePick eH.toArray lo hi none=((eH.drop (HT.sIx eH.length 0 lo)).take (HT.sIx eH.length eH.length hi-HT.sIx eH.length 0 lo)).toArray:=by obtain⟨h1,h2,h3⟩:=oY lo hi eH.toArray.size;unfold slicePick;rw[h1,h2,h3];simp only[sliceRange_one,pick_run,Ak]<;>rfl
def aqe(K:Ae):V->Option Int->Option Int->Hp->VK->Prop:=λx lo hi H Q=>∃a xs,x=.ref a/\wu K H a xs/\∀p,H p=none->Q (.ref p) (upd H p (.lst (rX xs lo hi)))
theorem aew:qL X (aqe X.K):=by intro j s σ H x v vl vu lo g sl Q I p t pl C h;obtain⟨a,J,rfl,T,q⟩:=h;cases p;obtain⟨a1,r,l,hz⟩:=I.list T;have U:=r.length;refine⟨"list",_,slot_list_getitem.lookup,l.isList.typeIs,?_⟩;refine wpAny_getItem_list_slice l.isList t pl C .none (by simp) ?_ (by rw[Ak]<;>lia);rw[mj,<-U];refine⟨.ref s.heap.objs.size,_,I.laid (t':=s.toks) (o:=.lst (rX J lo g)) (λb ob q=>wh _ q) (Al _) ?_,rfl,q _ (I.hok.fresh (Al _))⟩;exact⟨AM (jA J lo g) hz,_,0,(r.drop (HT.sIx J.length 0 lo)).take (HT.sIx J.length J.length g-HT.sIx J.length 0 lo),xb _ rfl⟩
def am:V->Bool
 |.non=>true
 |.bl _=>true
 |.int _=>true
 |.str _=>true
 |_=>false
def gD:V->V->Bool
 |.non,.non=>true
 |.bl a,.bl b=>a==b
 |.bl a,.int b=>(if a then 1 else 0)==b
 |.int a,.bl b=>a==(if b then 1 else 0)
 |.int a,.int b=>a==b
 |.str a,.str b=>a==b
 |_,_=>false
theorem mV{y x:V}{v:Value}(g:zv y u)(J:zv x v)(l:am y=true)(j:am x=true):SeqAt.EqAt A s u v (gD y x):=by
 cases y with
 |non=>
  cases g;cases x with
  |non=>cases J;exact SeqAt.EqAt.same _
  |bl b=>cases J;exact SeqAt.EqAt.none_bool b
  |int b=>obtain⟨t,rfl⟩:=J;exact SeqAt.EqAt.none_int b t
  |str b=>obtain⟨t,rfl⟩:=J;exact SeqAt.EqAt.none_str b t
  |_=>exact absurd (show false=true from j) AA
 |bl a=>
  cases g;cases x with
  |non=>cases J;exact SeqAt.EqAt.bool_none a
  |bl b=>cases J;exact SeqAt.EqAt.bool_bool a b
  |int b=>obtain⟨t,rfl⟩:=J;exact SeqAt.EqAt.bool_int a b t
  |str b=>obtain⟨t,rfl⟩:=J;exact SeqAt.EqAt.bool_str a b t
  |_=>exact absurd (show false=true from j) AA
 |int a=>
  obtain⟨U,rfl⟩:=g;cases x with
  |non=>cases J;exact SeqAt.EqAt.int_none a U
  |bl b=>cases J;exact SeqAt.EqAt.int_bool a U b
  |int b=>obtain⟨t,rfl⟩:=J;exact SeqAt.EqAt.int_int a U b t
  |str b=>obtain⟨t,rfl⟩:=J;exact SeqAt.EqAt.int_str a U b t
  |_=>exact absurd (show false=true from j) AA
 |str a=>
  obtain⟨U,rfl⟩:=g;cases x with
  |non=>cases J;exact SeqAt.EqAt.str_none a U
  |bl b=>cases J;exact SeqAt.EqAt.str_bool a U b
  |int b=>obtain⟨t,rfl⟩:=J;exact SeqAt.EqAt.str_int a U b t
  |str b=>obtain⟨t,rfl⟩:=J;exact SeqAt.EqAt.str_str a U b t
  |_=>exact absurd (show false=true from j) AA
 |_=>exact absurd (show false=true from l) AA
def tY(x:V)(u:Value):Bool:=match u with
 |.none=>gD .non x
 |.bool b=>gD (.bl b) x
 |.int i _=>gD (.int i) x
 |.str z _=>gD (.str z) x
 |_=>false
theorem ac8{x y:V}(r:zv y u)(f:am y=true):tY x u=gD y x:=by
 cases y with
 |non=>cases r;rfl
 |bl b=>cases r;rfl
 |int i=>obtain⟨t,rfl⟩:=r;rfl
 |str z=>obtain⟨t,rfl⟩:=r;rfl
 |_=>exact absurd (show false=true from f) AA
theorem gA{x:V}:∀{xs:List V} {us:List Value},zp xs us->xs.all am=true->us.any (tY x)=xs.any λy=>gD y x
 |_,_,.nil,_=>rfl
 |y::xs,u::us,.cons r t,f=>by rw[Dr,A2] at f;rw[B9,B9,ac8 r f.1,gA t f.2]
theorem dq{A:Around}{s:Shared}{x:V}{v:Value}(U:zv x v)(g:am x=true):∀{xs:List V} {us:List Value},zp xs us->xs.all am=true->∀u∈us,SeqAt.EqAt A s u v (tY x u)
 |_,_,.nil,_=>λu J=>by cases J
 |y::xs,u::us,.cons r t,f=>λj J=>by
  rw[Dr,A2] at f;rcases Am.mp J with rfl|J
  ·rw[ac8 r f.1];exact mV r U f.1 g
  ·exact dq U g t f.2 j J
def uT(x:V)(xs:List V):Bool:=xs.any λy=>gD y x
def rIn(K:Ae)(neg:Bool):R2:=λx y H Q=>∃p xs,y=.ref p/\(wu K H p xs\/cZ K H p xs)/\am x=true/\xs.all am=true/\Q (.bl (if neg then !uT x xs else uT x xs)) H
theorem zA:kj X (compareOp .In) (rIn X.K false):=by
 intro g s C H x y v u Q I j o h;obtain⟨p,T,rfl,U,l,fs,q⟩:=h;cases o;rcases U with U|U
 ·obtain⟨J,r,pl,t⟩:=I.list U;refine SeqAt.in_listAt (tY x) pl.isList (λw hw=>dq j l r fs w (by simpa using hw)) ⟨.bl _,H,I,rfl,?_⟩;rw[show J.toArray.any (tY x)=J.any (tY x) by simp,gA r fs];exact q
 ·obtain⟨J,r,pl,t⟩:=I.tuple U;refine SeqAt.in_tupleAt (tY x) pl (λw hw=>dq j l r fs w (by simpa using hw)) ⟨.bl _,H,I,rfl,?_⟩;rw[show J.toArray.any (tY x)=J.any (tY x) by simp,gA r fs];exact q
theorem oj:kj X (compareOp .NotIn) (rIn X.K true):=by
 intro g s C H x y v u Q I j o h;obtain⟨p,T,rfl,U,l,fs,q⟩:=h;cases o;rcases U with U|U
 ·obtain⟨J,r,pl,t⟩:=I.list U;refine SeqAt.notIn_listAt (tY x) pl.isList (λw hw=>dq j l r fs w (by simpa using hw)) ⟨.bl _,H,I,rfl,?_⟩;rw[show J.toArray.any (tY x)=J.any (tY x) by simp,gA r fs];exact q
 ·obtain⟨J,r,pl,t⟩:=I.tuple U;refine SeqAt.notIn_tupleAt (tY x) pl (λw hw=>dq j l r fs w (by simpa using hw)) ⟨.bl _,H,I,rfl,?_⟩;rw[show J.toArray.any (tY x)=J.any (tY x) by simp,gA r fs];exact q
theorem oa:jx X (.builtin "len") (λxs H Q=>∃p ys,xs=[.ref p]/\(wu X.K H p ys\/cZ X.K H p ys)/\Q (.int ys.length) H):=by
 intro l s C H xs T Q I r h;obtain⟨p,ys,rfl,U,q⟩:=h;obtain⟨u,rfl,o⟩:=iq r;cases o;have hn:=iW;rcases U with U|U
 ·obtain⟨g,j,pl,t⟩:=I.list U;have J:=j.length;exact Calls.call_len_list pl.isList (by simp only[Ak]<;>lia) ⟨.int ys.length,H,I.tok _,⟨s.toks+1,by rw[Ak,J]⟩,q⟩
 ·obtain⟨g,j,pl,t⟩:=I.tuple U;have J:=j.length;exact len_tuple pl (by simp only[Ak]<;>lia) ⟨.int ys.length,H,I.tok _,⟨s.toks+1,by rw[Ak,J]⟩,q⟩
theorem oW:jx X (.builtin "len") (λxs H Q=>∃z,xs=[.str z]/\z.length<=sizeLine/\Q (.int z.length) H):=by intro J s U H xs g Q I r h;obtain⟨z,rfl,j,q⟩:=h;obtain⟨u,rfl,t,rfl⟩:=iq r;have l:=iW;exact len_str (by lia) ⟨.int z.length,H,I.tok _,⟨_,rfl⟩,q⟩
theorem ot:jx X (.type "list") (λxs H Q=>∃p ys,xs=[.ref p]/\(wu X.K H p ys\/cZ X.K H p ys)/\∀l,H l=none->Q (.ref l) (upd H l (.lst ys))):=by
 intro t s σ H xs us Q I r h;obtain⟨p,ys,rfl,C,q⟩:=h;obtain⟨u,rfl,rx⟩:=iq r;cases rx;have xg:∀(J:List Value),zp ys J->ys.length<=sizeLine->∀(U:Heap) (g:Nat),(∀b o',s.heap.get? b=some o'->U.get? b=some o')->
  U.get? s.heap.objs.size=some { cls:=.type "list",dict:=none,data:=.seq J.toArray g,slots:=#[] }->EP X t σ Q (.ref s.heap.objs.size) { s with heap:=U }:=λJ j T U g kp e=>
  ⟨.ref s.heap.objs.size,_,I.laid (t':=s.toks) kp (Al _) (show xu X.prog X.w _ U _ (.lst ys) from⟨T,J,g,j,e⟩),rfl,q _ (I.hok.fresh (Al _))⟩
 rcases C with C|C
 ·obtain⟨J,j,pl,T⟩:=I.list C;have a1:=j.length;obtain⟨o,ho,hc,n,hd⟩:=pl.isList;exact call_list_seq p (.inl rfl) ho hc hd (λU g kp e=>xg J j T U g kp e) (by simp only[Ak]<;>lia)
 ·obtain⟨J,j,pl,T⟩:=I.tuple C;have a1:=j.length;obtain⟨o,ho,hc,n,hd⟩:=pl;exact call_list_seq p (.inr rfl) ho hc hd (λU g kp e=>xg J j T U g kp e) (by simp only[Ak]<;>lia)
theorem mn:jx X (.type "tuple") (λxs H Q=>∃p ys,xs=[.ref p]/\((wu X.K H p ys/\∀l,H l=none->Q (.ref l) (upd H l (.tup ys)))\/(cZ X.K H p ys/\Q (.ref p) H))):=by
 intro J s C H xs us Q I r h;obtain⟨p,ys,rfl,h⟩:=h;obtain⟨u,rfl,rx⟩:=iq r;cases rx;rcases h with⟨j,q⟩|⟨j,q⟩
 ·obtain⟨U,t,pl,T⟩:=I.list j;have a1:=t.length;refine call_tuple_list pl.isList (λg kp=>?_) (by simp only[Ak]<;>lia);have I1:z0 X J C H { s with heap:=g }:=I.kept (t':=s.toks) kp;have I2:z0 X J C (upd H g.objs.size (.tup ys)) { s with heap:=g.push { cls:=.type "tuple",data:=.seq U.toArray } }:=
   I1.laid (t':=s.toks) (λb o e=>wh _ e) (Al _) (show xu X.prog X.w _ _ _ (.tup ys) from⟨T,U,t,IsTup.new _ _⟩)
  exact⟨.ref g.objs.size,_,I2,rfl,q _ (I1.hok.fresh (Al _))⟩
 ·obtain⟨U,t,pl,T⟩:=I.tuple j;exact call_tuple_same pl ⟨.ref p,H,I,rfl,q⟩
def tyV(K:Ae)(T:String)(x:V)(H:Hp):Prop:=match x with
 |.str _=>T = "str"
 |.int _=>T = "int"
 |.ref p=>(T = "list" /\ ∃xs,wu K H p xs)\/(T = "tuple" /\ ∃o,K.lookup p=some o/\o.cls=.type "tuple" /\ o.dict=none)\/
  (T = "dict" /\ ((∃kvs,H p=some (.dK kvs))\/∃kvs,H p=some (.dT kvs)))\/(T = "set" /\ ∃S n,H p=some (.set S n))
 |_=>False
theorem act{T:String}{x:V}{v:Value}(I:z0 X pins σ H s)(r:zv x v)(ty:tyV X.K T x H):
 s.TypeIs v T/\∀a,v=.ref a->∃ob,s.heap.get? a=some ob/\ob.dict=none:=by
 cases x with
 |str z=>
  obtain⟨t,rfl⟩:=r;cases (show T = "str" from ty);exact⟨typeIs_str s z t,λ_ e=>nomatch e⟩
 |int i=>
  obtain⟨t,rfl⟩:=r;cases (show T = "int" from ty);exact⟨typeIs_int s i t,λ_ e=>nomatch e⟩
 |ref p=>
  cases r;rcases ty with⟨rfl,xs,j⟩|⟨rfl,o,J,l,hd⟩|⟨rfl,J⟩|⟨rfl,S,n,J⟩
  ·obtain⟨C,_,pl,_⟩:=I.list j;refine⟨pl.isList.typeIs,λa e=>?_⟩;cases e;obtain⟨o,n,e,c,hd,_⟩:=pl;exact⟨o,e,hd⟩
  ·refine⟨⟨o,I.kIn p o J,l⟩,λa e=>?_⟩;cases e;exact⟨o,I.kIn _ o J,hd⟩
  ·have z:∃o,s.heap.get? p=some o/\o.ExactDict:=by
    rcases J with⟨U,J⟩|⟨U,J⟩
    ·obtain⟨_,_,_,_,o,_,_,e,ex,_⟩:=I.hok p _ J;exact⟨o,e,ex⟩
    ·obtain⟨_,_,_,_,o,_,_,e,ex,_⟩:=I.hok p _ J;exact⟨o,e,ex⟩
   obtain⟨o,e,ex⟩:=z;refine⟨⟨o,e,ex.1⟩,λa g=>?_⟩;cases g;exact⟨o,e,ex.2.1⟩
  ·obtain⟨o,_,_,_,e,ex,_⟩:=I.hok p _ J;refine⟨⟨o,e,ex.1⟩,λa g=>?_⟩;cases g;exact⟨o,e,ex.2.1⟩
 |_=>exact False.elim ty
def asf(K:Ae)(T:String)(r:V->List V->Hp->VK->Prop)(to:TE):TE:=λσ H Q=>to σ H λx H1=>tyV K T x H1/\r x [] H1 Q
def tBM(K:Ae)(T:String)(r:V->List V->Hp->VK->Prop)(to:TE)(t:TA):TE:=λσ H Q=>to σ H λx H1=>tyV K T x H1/\t σ H1 λxs H2=>r x xs H2 Q
variable {to:TE}{t:TA}{T id:String}{r:V->List V->Hp->VK->Prop}
theorem ak1(pa:PlainAttrs T)(slot:Slot T name id)(j:typeOf (.builtin id)=pure (.type "method_descriptor"))(C:MtR X id r)(ho:PE X o to)
 (U:attributeBase o name X.env (eval o X.env)=eval o X.env:=by rfl) (g:(apos.endLine==fm.line)=true:=by rfl):PE X (.Call (.Attribute o name apos) [] [] fm) (asf X.K T r to):=by
 intro J s l H Q I h;refine wpAny_Call_method0_late U g (aF (ho J s l H _ I h) λv s1 ⟨x,H1,p,t,ty,q1⟩=>?_);obtain⟨h1,h2⟩:=act p t ty;exact⟨T,id,pa,slot,j,h1,h2,Calls.callWith_builtin rfl (PySem.evalArgs_none (C J s1 l H1 x [] v [] Q p t .nil q1))⟩
theorem aht(pa:PlainAttrs T)(slot:Slot T name id)(p:typeOf (.builtin id)=pure (.type "method_descriptor"))(hm:MtR X id r)(ho:PE X o to)(ha:PA X (e::es) t)
 (g:attributeBase o name X.env (eval o X.env)=eval o X.env:=by rfl)
 (l:((backTo fm (starEach (e::es) X.env)).all (λx=>!x.1)&&(backToKw fm (keywordEach [] X.env)).all (λx=>x.1.isSome)
  && decide ((e::es).length+([]:List Keyword).length+(if ([]:List Keyword).isEmpty then 0 else 1)<30))=true:=by rfl)
 (j:(apos.endLine==fm.line)=true:=by rfl) (hs:Eb e es X:=by rfl) (U:Ec fm es X:=by rfl):
 PE X (.Call (.Attribute o name apos) (e::es) [] fm) (tBM X.K T r to t):=by
 intro J s C H Q I h;refine wpAny_Call_method_late g l j rfl (aF (ho J s C H _ I h) λv s1 ⟨x,H1,I1,r1,ty,q1⟩=>?_);obtain⟨h1,h2⟩:=act I1 r1 ty;refine⟨T,id,pa,slot,p,h1,h2,?_⟩;have hA:=ha fm J s1 C H1 _ I1 q1;rw[hs] at hA ⊢;refine Calls.callWith_builtin (by show(false||(backTo fm (starEach es X.env)).any (·.1))=false;rw[U]<;>rfl) (Calls.evalArgs_plain ?_);exact aF hA λus s2 ⟨vs,H2,I2,r2,q2⟩=>hm J s2 C H2 x vs v us Q I2 r1 r2 q2
end
def hZ(X:Cx)(id:String)(r:V->List V->Hp->VK->Prop):Prop:=
 ∀(pins:List (Addr×Obj)) (s:Shared) (σ:St) (H:Hp) (x:V) (xs:List V) (v:Value) (us:List Value) (Q:VK),z0 X pins σ H s->zv x v->zp xs us->r x xs H Q->
  wpAny (model X.prog X.w) X.A (call (.builtin id) (v::us)) (EP X pins σ Q) X.xe s
theorem zp.one{x:V}(h:zp [x] us):∃u,us=[u]/\zv x u:=by cases h with|cons r t=>cases t;exact⟨_,rfl,r⟩
theorem zp.two{x y:V}(h:zp [x,y] us):∃u v,us=[u,v]/\zv x u/\zv y v:=by cases h with|cons r t=>cases t with|cons q t=>cases t;exact⟨_,_,rfl,r,q⟩
theorem zp.zero:∀{us:List Value},zp [] us->us=[]
 |_,.nil=>rfl
theorem zp.dropLast(h:zp xs us):zp xs.dropLast us.dropLast:=by
 induction h with
 |nil=>exact .nil
 |cons r t J=>
  cases t with|nil=>exact .nil|cons q U=>exact .cons r J
theorem zp.eraseIdx:∀{xs:List V} {us:List Value} (i:Nat),zp xs us->zp (xs.eraseIdx i) (us.eraseIdx i)
 |_,_,_,.nil=>.nil
 |_,_,0,.cons _ t=>t
 |_,_,i+1,.cons r t=>.cons r (zp.eraseIdx i t)
theorem ud(l:List α):l.eraseIdx (l.length-1)=l.dropLast:=by
 induction l with
 |nil=>rfl
 |cons a r J=>
  cases r with
  |nil=>rfl
  |cons b r=>
   have e:(a::b::r).length-1=((b::r).length-1)+1:=by have h1:(a::b::r).length=r.length+2:=rfl;have h2:(b::r).length=r.length+1:=rfl;lia
   rw[e,Cf,J]
   all_goals rfl
theorem oF{α:Type}:∀(l:List α) (i:Nat),(l.eraseIdx i).length<=l.length
 |[],_=>Al _
 |_::_,0=>BV _
 |_::r,i+1=>Nat.succ_le_succ (oF r i)
section
variable {ys:List V}
theorem z0.lset{its':List Value}{f:Array Value->Array Value}(I:z0 X pins σ H s)(J:H l=some (.lst xs))
 (e:s.heap.get? l=some { cls:=.type "list",data:=.seq eH.toArray n }) (U:f eH.toArray=its'.toArray) (g:zp ys its') (hz:ys.length<=sizeLine) (p:0<t':=by walk_at "t"):
 z0 X pins σ (upd H l (.lst ys)) { s with heap:=s.heap.update l (Obj.mapSeq f),toks:=t' }:=by
 have q:=PySem.IsL.update e f;rw[U] at q;refine I.write (x:=l) (e:=l) (by rw[J];exact trivial) (.inl rfl) (λr u j o=>(y1 s.heap (Obj.mapSeq f) (AE j)).trans o) ⟨_,q⟩ ?_;exact⟨hz,its',_,g,q⟩
theorem z0.lnew(I:z0 X pins σ H s)(J:zp ys eH)(hz:ys.length<=sizeLine)(U:0<t':=by walk_at "t"):
 z0 X pins σ (upd H s.heap.objs.size (.lst ys)) { s with heap:=s.heap.push { cls:=.type "list",data:=.seq eH.toArray },toks:=t' }:=
 I.laid (λ_ _ q=>wh _ q) (Al _) ⟨hz,eH,0,J,xb _ rfl⟩
theorem z0.fresh(I:z0 X pins σ H s):H s.heap.objs.size=none:=I.hok.fresh (Al _)
theorem z0.lstM(I:z0 X pins σ H s)(J:H l=some (.lst xs)):xs.length<=sizeLine/\∃(eH:List Value) (n:Nat),zp xs eH/\xs.length=eH.length/\s.heap.get? l=some { cls:=.type "list",data:=.seq eH.toArray n }:=by obtain⟨z,eH,n,r,e⟩:=I.hok l _ J;exact⟨z,eH,n,r,r.length,e⟩
theorem ad6(h:n<=sizeLine):Builtin.List.listTooLong n=false:=by unfold Builtin.List.listTooLong;exact Au (by lia)
end
def af4:V->List V->Hp->VK->Prop:=λx vs H Q=>∃l xs y,x=.ref l/\vs=[y]/\H l=some (.lst xs)/\xs.length<sizeLine/\Q .non (upd H l (.lst (xs++[y])))
theorem yx:hZ X "list.append" af4:=by intro U s t H x C v T Q I j o h;obtain⟨l,xs,y,rfl,rfl,g,hz,q⟩:=h;cases j;obtain⟨u,rfl,p⟩:=o.one;obtain⟨z,J,n,r,hl,e⟩:=I.lstM g;refine call_meets F.slot_list_append ⟨_,e,rfl⟩ F.entry_list_append (F.args_list_append_2 _ _) (PySem.list_append l J.toArray n u (by rw[Ak];lia)) ⟨e,?_⟩;refine⟨.non,_,I.lset (its':=J++[u]) g e (by simp) (r.append (.cons p .nil)) ?_,rfl,q⟩;rw[Ac,BH];lia
def afp:V->List V->Hp->VK->Prop:=λx vs H Q=>∃l b xs zs,x=.ref l/\vs=[.ref b]/\H l=some (.lst xs)/\H b=some (.lst zs)/\xs.length+zs.length<=sizeLine/\Q .non (upd H l (.lst (xs++zs)))
theorem yj:hZ X "list.extend" afp:=by
 intro o s σ H x vs v us Q I t C h;obtain⟨l,b,xs,zs,rfl,rfl,p,T,hz,q⟩:=h;cases t;obtain⟨u,rfl,ru⟩:=C.one;cases ru;obtain⟨z,U,n,r,hl,e⟩:=I.lstM p;obtain⟨z2,J,n2,r2,a1,e2⟩:=I.lstM T;have j:U.toArray.size+J.toArray.size<=sizeLine:=by rw[Ak,Ak];lia
 have g:¬(!U.toArray.isEmpty&&Builtin.List.listTooLong (U.toArray.size+J.toArray.size))=true:=by rw[ad6 j,DL];exact AA
 refine call_meets F.slot_list_extend ⟨_,e,rfl⟩ F.entry_list_extend (F.args_list_extend_2 _ _)
  (AutoSeq1.list_extend_list_list_0 l U.toArray n b J.toArray n2 g (by rw[Ak];lia) (by lia)) ⟨e,e2,?_⟩
 refine⟨.non,_,I.lset (its':=U++J) p e (by simp) (r.append r2) ?_,rfl,q⟩;rw[Ac];lia
def asp:V->List V->Hp->VK->Prop:=λx vs H Q=>∃l xs y,x=.ref l/\vs=[]/\H l=some (.lst xs)/\xs[xs.length-1]?=some y/\Q y (upd H l (.lst xs.dropLast))
theorem akh:hZ X "list.pop" asp:=by
 intro j s σ H x vs v us Q I p t h;obtain⟨l,xs,y,rfl,rfl,o,C,q⟩:=h;cases p;have U:=t.zero;subst U;obtain⟨z,J,n,r,T,e⟩:=I.lstM o;obtain⟨u,hu,ru⟩:=r.get C;have g:J.toArray[J.toArray.size-1]?=some u:=by show J.toArray[J.length-1]?=some u;rw[<-Be,<-T];exact hu
 refine call_meets F.slot_list_pop ⟨_,e,rfl⟩ F.entry_list_pop (F.args_list_pop_1 _) (MeetsSeq.list_pop_last l J.toArray n u g (by rw[Ak];lia)) ⟨e,?_⟩;refine⟨y,_,I.lset (its':=J.dropLast) o e ?_ r.dropLast ?_,ru,q⟩
 ·show J.toArray.eraseIdxIfInBounds (J.toArray.size-1)=J.dropLast.toArray;rw[Ak,CV,ud]
 ·rw[List.length_dropLast];lia
def aj4:V->List V->Hp->VK->Prop:=λx vs H Q=>∃l xs i k y,x=.ref l/\vs=[.int i]/\H l=some (.lst xs) /\ -(2 ^ 63)<=i/\i<2 ^ 63/\seqIndex? i xs.length=some k/\xs[k]?=some y/\Q y (upd H l (.lst (xs.eraseIdx k)))
theorem aap:hZ X "list.pop" aj4:=by
 intro g s σ H x vs v us Q I o p h;obtain⟨l,C,i,k,y,rfl,rfl,j,h1,h2,T,hy,q⟩:=h;cases o;obtain⟨u,rfl,ru⟩:=p.one;obtain⟨t,rfl⟩:=ru;obtain⟨z,J,n,r,hl,e⟩:=I.lstM j;obtain⟨w,hw,U⟩:=r.get hy;refine call_meets F.slot_list_pop ⟨_,e,rfl⟩ F.entry_list_pop (F.args_list_pop_2 _ _)
  (MeetsSeq.list_pop_at l J.toArray n i t k w (fitsIndex_both h1 h2) (by rw[Ak,<-hl];exact T) (by rw[<-Be];exact hw) (by rw[Ak];lia)) ⟨e,?_⟩
 refine⟨y,_,I.lset (its':=J.eraseIdx k) j e ?_ (r.eraseIdx k) ?_,U,q⟩
 ·show J.toArray.eraseIdxIfInBounds k=(J.eraseIdx k).toArray;rw[CV]
 ·have:=oF C k;lia
def aoz:R2:=λx y H Q=>∃l b xs zs,x=.ref l/\y=.ref b/\H l=some (.lst xs)/\H b=some (.lst zs)/\xs.length+zs.length<=sizeLine/\∀p,H p=none->Q (.ref p) (upd H p (.lst (xs++zs)))
theorem ak7:kj X (binaryOp .Add) aoz:=by
 intro g s σ H x y v u Q I j o h;obtain⟨l,b,xs,zs,rfl,rfl,p,t,hz,q⟩:=h;cases j;cases o;obtain⟨z,U,n,r,hl,e⟩:=I.lstM p;obtain⟨z2,J,n2,C,T,e2⟩:=I.lstM t;refine PySem.P.add_list e e2 ?_ (by rw[Ak,Ak];lia);have ea:U.toArray++J.toArray=(U++J).toArray:=by simp
 rw[ea];exact⟨.ref _,_,I.lnew (t':=s.toks) (r.append C) (by rw[Ac];lia),rfl,q _ I.fresh⟩
section
variable {w:World}
set_option maxRecDepth 100000 in
end
end L2
namespace Att
open PySem PySem.W PySem.Calls PyProof.Rows
theorem jK{P:Params} :∀(J:List Int) (vs:List Value),WellAll P h vs (J.map WData.int)->IntsAre vs J:=by
 intro J
 induction J with
 |nil=>
  intro vs w;rw[CP] at w;cases w;exact .nil
 |cons n J U=>
  intro vs w;rw[AG] at w;cases w with
  |cons a b=>
   cases a;exact .cons _ _ (U _ b)
theorem yr{l:OpenLaw}(hn:l.most=some n){P:Params}{args:List WData}{U:List Value}
 (g:l.row.toRowW.claim.pre args=true) (C:WellAll P h U args):
 ∃a vs J,U=[Value.ref a]/\args=[WData.list (J.map WData.int)]/\h.get? a=some { cls:=.type "list",data:=.seq vs.toArray }/\IntsAre vs J/\J.length<=n:=by
 have I:WShape.hasAll [] args [.list .int]=true:=(pre_splitW g).1;have T:l.pre.holds [] { args:=args }=true:=(pre_splitW g).2;obtain⟨d,r,rfl,h1,h2⟩:=hasAllW_cons I;obtain rfl:=hasAllW_nil h2;obtain⟨xs,rfl,h3⟩:=hasW_list h1;obtain⟨J,rfl⟩:=items_int h3;have j:J.length<=n:=by
  unfold OpenLaw.pre at T;have p:(WTm.not (.lt (.lit (.int (n:Int))) (.len (.arg 0)))).holds [] { args:=[.list (J.map .int)] }=true:=by have p:=(holds_andW T).1;rw[hn] at p;exact p
  have t:=condW_of p (w_not (w_lt w_lit (w_len_list (w_arg rfl))));rw[Ab] at t;refine Nat.le_of_not_lt λq=>?_;have q':(n:Int)<((J.length:Nat):Int):=by lia
  first
   |(rw[AD q'] at t;exact absurd t (by decide))
   |(simp at t;lia)
 cases C with
 |cons w1 w2=>
  cases w2;cases w1 with|list ho o=>exact⟨_,_,J,rfl,rfl,ho,jK J _ o,j⟩
theorem yw(l:OpenLaw)(args:List WData):l.row.toRowW.claim.post args (.bool true) args=true:=
 postW_of (r:=l.row.toRowW) (X:=(true==true))
  (show WShape.has [] (.bool true) .bool=true by first|rfl|decide|simp[WShape.has,WShape.arms,WShape.armsAll])
  (show(WTm.eq .res (.lit (.bool true))).value [] { args:=args,res:=some (.bool true),after:=args }=some (.bool (true==true)) from w_eq_bool (w_res rfl) w_lit) rfl
theorem attach_callZ{l:OpenLaw}{q:Program}{loose:List Str}{XP:(Str->Option Value)->Heap->Prop}{as0:List Addr}{N t:Nat}{K:Params->Frag}{d:DefRec}
 (hn:l.most=some n) (I:d.params.defaults=[]) (ek:∀P,as0=(K P).map (·.1)) (T:0<t)
 (call:∀(w:World) (s₀ J:Shared) (mg mb:Str->Option Value) (fa:Addr) (o:Obj) (pm cd gc:Value) (a:Addr) (vs:List Value) (U:List Int),
  Ground q loose [] XP w s₀ mg mb J.heap->(K w.params).In J.heap->0<J.toks->
  J.heap.get? fa=some o->o.data=.func (docDef d.name d.params d.body d.scope pm cd gc)->J.heap.CodeRec cd d.name->mg d.name=some (.ref fa)->
  J.heap.get? a=some { cls:=.type "list",data:=.seq vs.toArray }->IntsAre vs U->U.length<=n->J.gens=#[]->
  codeAny (model l.prog w) callerA (.call (.ref fa) ⟨[.ref a],[]⟩) (λr s'=>r=.ok (.ret (.bool true))/\OldK J.heap s'.heap/\s'.os=J.os/\AllBare s'.gens) J):
 WalkX q loose XP (PySem.W.X.obsZ as0) (PySem.W.X.valZ K N t) l.row.toRowW d [] (λf vs=>PySem.call f vs):=by
 intro w s₀ J mg mb G Y fa o pm cd gc dV kV ho hd a1 hD a2 hg args a5 as L j ag al a3 ao;obtain rfl:dV=.none:=Dflts.none hD I;obtain rfl:kV=.none:=Dflts.noKw hD;obtain⟨a,vs,U,rfl,rfl,p,g,C⟩:=yr hn j a3;obtain⟨_,zi,_,zt⟩:=X.z_facts ek Y;have eP:∀U:List Int,ofPy (PyData.list (U.map PyData.int))=WData.list (U.map WData.int):=λU=>by
  simp only[ofPy];congr 1
  induction U with|nil=>simp[ofPys]|cons n r ih=>simp only[AG,ofPys,ofPy,ih]
 rw[<-eP] at L;have KX:=InK.keeps w s₀.heap J.heap zi L.keeps;have a4:0<J.toks:=AL T (X.script_toks L zt);refine enter_call (codeAny_mono (call w s₀ J mg mb fa o pm cd gc a vs U G KX a4 ho (fd_plain hd) a1 a2 p g C hg) λr s' hq=>?_);obtain⟨rfl,h2,h3,h4⟩:=hq;exact⟨.inl ⟨.bool true,.bool true,[],rfl,λ_=>rfl,.bool true,yw l _,λ_=>⟨List.Pairwise.nil,λ_ hm=>(nomatch hm)⟩⟩,h2,h3,h4⟩
section
variable {w:World}{K:Frag}
end
end Att
namespace L2
open PySem PySem.Spec PyProof.Rows
theorem oD:∀{vs:List Value} {J:List Int},IntsAre vs J->zp (J.map V.int) vs
 |_,_,.nil=>.nil
 |_,_,.cons n t h=>.cons ⟨t,rfl⟩ (oD h)
def vh(s:Stmt):Arguments:=match s with
 |.FunctionDef _ a _ _ _ _ _ _ _ _=>a
 |_=>{ posonlyargs:=[],args:=[],vararg:=none,kwonlyargs:=[],kw_defaults:=[],kwarg:=none,defaults:=[] }
def jn(s:Stmt):List Stmt:=match s with
 |.FunctionDef _ _ b _ _ _ _ _ _ _=>b
 |_=>[]
def qu(s:Stmt):Scope:=match s with
 |.FunctionDef _ _ _ _ _ _ J _ _ _=>J
 |_=>{ kind:=.function,names:=[],isGenerator:=false,isCoroutine:=false }
abbrev CX0:vW:=λ_ _ _ _ _ _=>False
abbrev E0:XK:=λ_ _ _=>False
theorem anz :uq CX0 X E0:=λ_ _ _ _ _ _ _ h=>h.elim
structure Fun(K:Ae)(x eK:Str)(st:Stmt)(f:Addr)(fd:FuncData):Prop where
 ex:∃(oc:Value) (od:Option Addr) (kV gc pm:Value) (an:Option Addr) (fx ct:Value) (oi:Array (Option Value)),
  fd=PySem.W.fnOf x eK (vh st) (jn st) (qu st) .none kV gc pm an fx ct/\K.lookup f=some ⟨oc,od,.func fd,oi⟩/\PySem.W.codeIn K fx eK=true
 kp:PySem.W.keepIn K (.ref f)=true
section
variable {P:Program}{w:World}{K:Ae}
theorem Fun.ok{N:List Str}{k:Nat}(F:Fun K x eK st f fd)(S:wr N ps (qu st))(len:∀vs H Q E,sp vs H Q E->vs.length=ps.length)
 (J:∀(fx:Value) (A:Around) (outer:List Env) (s:Shared) (H:Hp) (vs:List V) (Q:VK) (E:XK),we k (A.deeper (envOfC eK (qu st) s.heap.objs.size f fx))->sp vs H Q E->
  ∃t,fZ (cn CX0 P w K mg base N eK (qu st) f fx A outer s H E).nox (jn st) t/\t { nx:=λ_ H'=>Q .non H',rt:=Q } (start N vs) H):bO P w K mg base CX0 (k+1) f fd ps sp:=by
 obtain⟨p,r,kV,j,pm,an,fx,C,l,rfl,lk,U⟩:=F.ex;refine ac0 lk U S len λA outer s H vs Q E o g=>?_;obtain⟨t,h,q⟩:=J fx A outer s H vs Q E o g;exact⟨t,h.nox,q⟩
theorem al2{kV:Value}(l:K.lookup f=some ⟨oc,od,.func (PySem.W.fnOf x eK (vh st) (jn st) (qu st) .none kV gc pm an fx ct),oi⟩)
 (c:PySem.W.codeIn K fx eK=true) (k:PySem.W.keepIn K (.ref f)=true):Fun K x eK st f (PySem.W.fnOf x eK (vh st) (jn st) (qu st) .none kV gc pm an fx ct):=⟨⟨oc,od,kV,gc,pm,an,fx,ct,oi,rfl,l,c⟩,k⟩
end
theorem oB(h:n<=1000):n<sizeLine:=CH h (by decide)
theorem pv(i:Nat)(U:X.N[i]?=some x:=by rfl)(g:Vis X.env.scope x:=by first|exact Or.inl rfl|exact Or.inr (Or.inl rfl)|exact Or.inr (Or.inr rfl))(hd:Ed x:=by decide)
 (J:Ee x:=by decide):PE X (.Name x pos) (aj9 i):=aie U g hd J
section
variable [DecidableEq κ]
end
end L2
set_option maxHeartbeats 8000000
theorem apy{a b c:Nat}(h:a<b:=by assumption)(k:b<=c:=by assumption):a<c:=AL h k
theorem ac9{a b c:Nat}(h:a<=b:=by assumption)(k:b<c:=by assumption):a<c:=CH h k
theorem ao9{a b c:Nat}(h:a<=b:=by assumption)(k:b<=c:=by assumption):a<=c:=AM h k
theorem abt{a b c:Nat}(h:a<b:=by assumption)(k:b<c:=by assumption):a<c:=Nat.lt_trans h k
theorem ag9{a b c:Nat}(h:a<=b:=by assumption)(k:b<=c:=by decide):a<=c:=AM h k
theorem ajd{a b:Nat}(h:a<=b:=by assumption):a<b+1:=Nat.lt_succ_of_le h
theorem ar8{a b:Nat}(h:a<=b:=by assumption):a<=b+1:=BD h
theorem uS{a b:Nat}(h:a<b:=by assumption):a<=b:=Bo h
theorem ao5{a b:Nat}(h:a<b:=by assumption):a≠b:=AZ h
theorem aqf{a:Nat}(h:a≠0:=by assumption):0<a:=Nat.pos_of_ne_zero h
theorem anb{a b c:Nat}(h:a<b:=by assumption)(k:b<=c:=by assumption):a<=c:=AM (Bo h) k
theorem amw{a b c:Nat}(h:a<b:=by assumption):a<b+c:=AL h (BI _ _)
theorem yG{a b:Nat}(h:a=b:=by assumption):a<=b:=Nat.le_of_eq h
theorem acz{a b:Nat}(h:¬a<b:=by assumption):b<=a:=Nat.le_of_not_lt h
theorem aqu{a b:Nat}(h:a<b+1:=by assumption):a<=b:=Nat.le_of_lt_succ h
theorem am1{a b:Nat}(h:0<a:=by assumption)(k:0<b:=by decide):a-b<a:=Nat.sub_lt h k
theorem t7{a b c:Nat}(h:a<c:=by assumption):a-b<c:=CH (Nat.sub_le _ _) h
theorem ar2{a b:Nat}(h:a<=b:=by assumption)(k:a≠b:=by assumption):a<b:=Nat.lt_of_le_of_ne h k
namespace L2
open PySem PySem.Spec PyProof.Rows
def asy:R2:=λx y H Q=>match x,y with
 |.int i,.int j=>Q (.int (i+j)) H
 |.str a,.str b=>a.length+b.length<=sizeLine/\Q (.str (a++b)) H
 |.ref l,.ref b=>∃xs zs,H l=some (.lst xs)/\H b=some (.lst zs)/\xs.length+zs.length<=sizeLine/\∀p,H p=none->Q (.ref p) (upd H p (.lst (xs++zs)))
 |_,_=>False
theorem ag5:kj X (binaryOp .Add) asy:=by
 intro J s U H x y v u Q I g j h;cases x<;>cases y<;>first
  |exact False.elim h
  |exact al5 J s U H _ _ v u Q I g j ⟨_,_,rfl,rfl,h⟩
  |exact uO J s U H _ _ v u Q I g j ⟨_,_,rfl,rfl,h.1,h.2⟩
  |(obtain⟨l,o,h1,h2,h3,p⟩:=h;exact ak7 J s U H _ _ v u Q I g j ⟨_,_,l,o,rfl,rfl,h1,h2,h3,p⟩)
def KD(K:Ae)(P:Program)(w:World)(a:Addr)(kvs:List (jg×V)):Prop:=
 (a==sysModules)=false/\kvs.length<=sizeLine/\∀h:Heap,K.In h->∃vs,KV kvs vs/\h.DictOf (v4 P w) a vs
def uIx(K:Ae)(P:Program)(w:World):R2:=λx y H Q=>match x,y with
 |.str z,.int i=>z.length<=sizeLine/\∃c,fO z.cps.toList i=some c/\Q (.str ⟨#[c]⟩) H
 |.ref p,.int i=>∃xs v,(wu K H p xs\/cZ K H p xs)/\fO xs i=some v/\Q v H
 |.ref p,.str k=>∃kvs v,(Rd H p (.dK kvs)\/KD K P w p kvs)/\ax kvs (Sum.inr k)=some v/\Q v H
 |_,_=>False
theorem abz{slice:Expr}{vs:List (jg×Value)}{k:jg}{J:Value}{Q:VK}(I:z0 X pins σ H s)(dd:s.heap.DictOf (v4 X.prog X.w) a vs)(U:lQ k u=true)
 (hw:valueAt vs k=some J) (r:zv v J) (q:Q v H) (hs:subscripted slice false (.ref a) u=operate [.ref a,u] (getItem (.ref a) u)):wpAny (model X.prog X.w) X.A (subscriptTail value slice (.ref a) u) (EP X pins σ Q) X.xe s:=
 tail_any dd.typeIs Di.lookup (wpAny_getItem_of U dd.mapOf hw ⟨v,H,I.tok _,r,q⟩) hs
theorem aod:IxR X (uIx X.K X.prog X.w):=by
 intro value slice J s T H x y v u Q I t C q g;cases x with
 |str z=>
  cases y with
  |int i=>
   obtain⟨h1,c,h2,h3⟩:=q;exact alb value slice J s T H _ _ v u Q I t C ⟨z,i,c,rfl,rfl,h1,h2,h3⟩ g
  |_=>exact q.elim
 |ref p=>
  cases y with
  |int i=>
   obtain⟨xs,j,h1,h2,h3⟩:=q;rcases h1 with h1|h1
   ·exact ae9 value slice J s T H _ _ v u Q I t C ⟨p,xs,i,j,rfl,rfl,h1,h2,h3⟩ g
   ·exact ajb value slice J s T H _ _ v u Q I t C ⟨p,xs,i,j,rfl,rfl,h1,h2,h3⟩ g
  |str k=>
   obtain⟨a1,j,h1,h2,h3⟩:=q;have l:zv (kV (Sum.inr k)) u:=C;cases (show v=Value.ref p from t);rcases h1 with h1|h1
   ·obtain⟨z,hd,vs,rel,r⟩:=kQ I.hok h1;obtain⟨w2,hw,U⟩:=EE (v:=j) (o:=valueAt vs (Sum.inr k)) (by rw[<-h2];exact rel.val _);exact abz I r (io (P:=X.prog) (w:=X.w) l) hw U h3 g
   ·obtain⟨hd,z,r⟩:=h1;obtain⟨vs,rel,r⟩:=r s.heap I.kIn;obtain⟨w2,hw,U⟩:=EE (v:=j) (o:=valueAt vs (Sum.inr k)) (by rw[<-h2];exact rel.val _);exact abz I r (io (P:=X.prog) (w:=X.w) l) hw U h3 g
  |_=>exact q.elim
 |_=>cases y<;>exact q.elim
def api(K:Ae):List V->Hp->VK->Prop:=λxs H Q=>match xs with
 |[.str z]=>z.length<=sizeLine/\Q (.int z.length) H
 |[.ref p]=>∃ys,(wu K H p ys\/cZ K H p ys)/\Q (.int ys.length) H
 |_=>False
theorem zF:jx X (.builtin "len") (api X.K):=by
 intro J s U H j g Q I r h
 match j,h with
 |[.str z],h=>exact oW J s U H _ g Q I r ⟨z,rfl,h.1,h.2⟩
 |[.ref p],h=>
  obtain⟨l,h1,h2⟩:=h;exact oa J s U H _ g Q I r ⟨p,l,rfl,h1,h2⟩
inductive Da where
 |s (v:V)
 |tup (xs:List Da)
 |lst (xs:List Da)
mutual
def Da.eq:Da->Da->Bool
 |.s v,.s w=>gD v w
 |.tup xs,.tup ys=>Da.eqs xs ys
 |.lst xs,.lst ys=>Da.eqs xs ys
 |_,_=>false
def Da.eqs:List Da->List Da->Bool
 |[],[]=>true
 |x::xs,y::ys=>Da.eq x y&&Da.eqs xs ys
 |_,_=>false
end
def kh(K:Ae)(H:Hp):Nat->V->Da->Prop
 |0,v,d=>d=.s v/\am v=true
 |n+1,v,d=>(d=.s v/\am v=true)\/(∃a xs ds,v=.ref a/\d=.tup ds/\cZ K H a xs/\Paired (kh K H n) xs ds)\/(∃a xs ds,v=.ref a/\d=.lst ds/\wu K H a xs/\Paired (kh K H n) xs ds)
theorem Da.eqs_range:∀(ds es:List Da),((List.range (min ds.length es.length)).all (λj=>Da.eq (ds.getD j (.s .non)) (es.getD j (.s .non)))&&ds.length==es.length)=Da.eqs ds es
 |[],[]=>by simp[Da.eqs]
 |[],e::es=>by simp[Da.eqs]
 |d::ds,[]=>by simp[Da.eqs]
 |d::ds,e::es=>by
  have J:=Da.eqs_range ds es;rw[Da.eqs,<-J];have:min (d::ds).length (e::es).length=min ds.length es.length+1:=by simp only[AN];lia
  rw[this,List.range_succ_eq_map,Dr,List.all_map];have h2:((d::ds).length==(e::es).length)=(ds.length==es.length):=by simp
  rw[h2,Bool.and_assoc];rfl
abbrev DV:=@Da.eqs_range
theorem Paired.at{α β:Type}{F:α->β->Prop}:∀{xs:List α} {ys:List β} {j:Nat} {x:α} {y:β},Paired F xs ys->xs[j]?=some x->ys[j]?=some y->F x y
 |_,_,_,_,_,.nil,h,_=>by simp at h
 |_,_,0,_,_,.cons r _,h1,h2=>by simp at h1 h2;subst h1 h2;exact r
 |_,_,j+1,_,_,.cons _ t,h1,h2=>Paired.at (j:=j) t (by simpa using h1) (by simpa using h2)
abbrev DU:=@Paired.at
theorem ft:∀{v:V},am v=true->gD v v=true
 |.non,_=>rfl
 |.bl _,_=>by simp[gD]
 |.int _,_=>by simp[gD]
 |.str _,_=>by simp[gD]
theorem jc(h:am (.ref a)=true):False:=by simp[am] at h
theorem z0.notBoth(I:z0 X pins σ H s){ys:List V}(h:cZ X.K H a xs)(h':wu X.K H a ys):False:=by
 obtain⟨j,_,⟨o,e,c,_⟩,_⟩:=I.tuple h;obtain⟨U,_,⟨l,p,g,J,_⟩,_⟩:=I.list h';rw[e] at g;cases g;rw[c] at J;injection J with J
 exact absurd J (by decide)
theorem pY(I:z0 X pins σ H s):∀(n:Nat) {m:Nat} {x:V} {d e:Da},kh X.K H n x d->kh X.K H m x e->Da.eq d e=true
 |0,m,x,d,e,h1,h2=>by
  obtain⟨rfl,f⟩:=h1;cases m with
  |zero=>obtain⟨rfl,_⟩:=h2;exact ft f
  |succ m=>
   rcases h2 with⟨rfl,_⟩|⟨a,g,j,rfl,_⟩|⟨a,g,j,rfl,_⟩
   ·exact ft f
   ·exact(jc f).elim
   ·exact(jc f).elim
 |n+1,m,x,d,e,h1,h2=>by
  have both:∀{g:List V} {j l:List Da} {m:Nat},Paired (kh X.K H n) g j->Paired (kh X.K H m) g l->Da.eqs j l=true:=by
   intro g j l m p
   induction p generalizing l with
   |nil=>intro q;cases q;rfl
   |cons r t ih=>
    intro q;cases q with|cons r' t'=>rw[Da.eqs,pY I n r r',ih t'];rfl
  rcases h1 with⟨rfl,f⟩|⟨a,g,j,rfl,rfl,C,T⟩|⟨a,g,j,rfl,rfl,C,T⟩
  ·cases m with
   |zero=>obtain⟨rfl,_⟩:=h2;exact ft f
   |succ m=>
    rcases h2 with⟨rfl,_⟩|⟨a,g,j,rfl,_⟩|⟨a,g,j,rfl,_⟩
    ·exact ft f
    ·exact(jc f).elim
    ·exact(jc f).elim
  ·cases m with
   |zero=>exact(jc h2.2).elim
   |succ m=>
    rcases h2 with⟨_,f⟩|⟨a',ys,l,o,rfl,J,U⟩|⟨a',ys,l,o,rfl,J,U⟩
    ·exact(jc f).elim
    ·cases o;cases I.tuple_inj C J;exact both T U
    ·cases o;exact(I.notBoth C J).elim
  ·cases m with
   |zero=>exact(jc h2.2).elim
   |succ m=>
    rcases h2 with⟨_,f⟩|⟨a',ys,l,o,rfl,J,U⟩|⟨a',ys,l,o,rfl,J,U⟩
    ·exact(jc f).elim
    ·cases o;exact(I.notBoth J C).elim
    ·cases o;cases I.list_inj C J;exact both T U
theorem j8{eH:Array Value}(p:PlainL h a eH):h.IsList a eH:=let ⟨o,n,e,c,_,d⟩:=p;⟨o,e,c,n,d⟩
theorem fv{ys:List V}{ds es:List Da}(px:Paired (kh X.K H n) xs ds)(py:Paired (kh X.K H m) ys es)(J:zp xs us)(U:zp ys vs)
 (r:∀{x y:V} {d e:Da} {u v:Value},kh X.K H n x d->kh X.K H m y e->zv x u->zv y v->SeqAt.EqAt A.in1 s u v (Da.eq d e)):
 ∀j (h1:j<us.toArray.size) (h2:j<vs.toArray.size),SeqAt.EqAt A.in1 s us.toArray[j] vs.toArray[j] (Da.eq (ds.getD j (.s .non)) (es.getD j (.s .non))):=by
 intro j h1 h2;have I:=px.length;have T:=py.length;have l3:=J.length;have l4:=U.length;rw[Ak] at h1 h2;have g:xs[j]?=some xs[j]:=Af (by lia);have l:ys[j]?=some ys[j]:=Af (by lia);have o:ds[j]?=some ds[j]:=Af (by lia);have p:es[j]?=some es[j]:=Af (by lia);have t:us[j]?=some us[j]:=Af (by lia);have C:vs[j]?=some vs[j]:=Af (by lia);rw[Bi,Bi,o,p];exact r (DU px g o) (DU py l p) (DU J g t) (DU U l C)
theorem nW{ys:List V}{ds es:List Da}(I:z0 X pins σ H s)(g:A.units<cLine)(j:cZ X.K H a xs)(l:cZ X.K H b ys)(px:Paired (kh X.K H n) xs ds)(py:Paired (kh X.K H m) ys es)
 (o:∀{x y:V} {d e:Da} {u v:Value},kh X.K H n x d->kh X.K H m y e->zv x u->zv y v->SeqAt.EqAt A.in1 s u v (Da.eq d e)):SeqAt.RcAt A s (.ref a) (.ref b) (Da.eqs ds es):=by
 obtain⟨r,J,p,_⟩:=I.tuple j;obtain⟨t,U,ty,_⟩:=I.tuple l;have q:=SeqAt.RcAt.tuples p ty g (fv px py J U o);rw[Ak,Ak,<-J.length,<-U.length,px.length,py.length,DV] at q;exact q
theorem tK{ys:List V}{ds es:List Da}(I:z0 X pins σ H s)(l:A.units<cLine)(p:wu X.K H a xs)(r:wu X.K H b ys)(px:Paired (kh X.K H n) xs ds)(py:Paired (kh X.K H m) ys es)
 (t:∀{x y:V} {d e:Da} {u v:Value},kh X.K H n x d->kh X.K H m y e->zv x u->zv y v->SeqAt.EqAt A.in1 s u v (Da.eq d e)):SeqAt.RcAt A s (.ref a) (.ref b) (Da.eqs ds es):=by
 obtain⟨C,U,o,_⟩:=I.list p;obtain⟨T,j,ty,_⟩:=I.list r;by_cases g:C.toArray.size=T.toArray.size
 ·have q:=SeqAt.RcAt.lists (j8 o) (j8 ty) g l (fv px py U j t);have J:ds.length=es.length:=by rw[<-px.length,<-py.length,U.length,j.length];simpa using g
  have e:=DV ds es;rw[J,Nat.min_self] at e;rw[<-J] at e;rw[Ak,<-U.length,px.length] at q;simp only[beq_self_eq_true,DN] at e;rw[e] at q;exact q
 ·have q:=SeqAt.RcAt.lists_lengths (j8 o) (j8 ty) (by simpa using g) l;have J:ds.length≠es.length:=by rw[<-px.length,<-py.length,U.length,j.length];intro z;exact g (by simpa using z)
  have e:=DV ds es;have f:(ds.length==es.length)=false:=by simpa using J
  rw[f,DL] at e;rw[<-e];exact q
theorem kZ(I:z0 X pins σ H s):∀(n:Nat) {m:Nat} {A:Around} {x y:V} {d e:Da} {u v:Value},A.units+n<cLine->kh X.K H n x d->kh X.K H m y e->zv x u->zv y v->SeqAt.EqAt A s u v (Da.eq d e):=by
 have J:∀{A:Around} {x:V} {u:Value} {b:Addr} {p:List V},A.units<cLine->am x=true->zv x u->(cZ X.K H b p\/wu X.K H b p)->SeqAt.EqAt A s u (.ref b) false/\SeqAt.EqAt A s (.ref b) u false:=by
  intro A x u b p g f r h;have h':(∃C,s.heap.IsTuple b C)\/∃C,s.heap.IsList b C:=by
   rcases h with h|h
   ·obtain⟨C,_,t,_⟩:=I.tuple h;exact .inl ⟨_,t⟩
   ·obtain⟨C,_,t,_⟩:=I.list h;exact .inr ⟨_,j8 t⟩
  cases x with
  |non=>cases r;rcases h' with⟨_,t⟩|⟨_,t⟩;exact⟨.none_tuple t g,.tuple_none t g⟩;exact⟨.none_list t g,.list_none t g⟩
  |bl k=>cases r;rcases h' with⟨_,t⟩|⟨_,t⟩;exact⟨.bool_tuple k t g,.tuple_bool k t g⟩;exact⟨.bool_list k t g,.list_bool k t g⟩
  |int k=>obtain⟨tk,rfl⟩:=r;rcases h' with⟨_,t⟩|⟨_,t⟩;exact⟨.int_tuple k tk t g,.tuple_int k tk t g⟩;exact⟨.int_list k tk t g,.list_int k tk t g⟩
  |str k=>obtain⟨tk,rfl⟩:=r;rcases h' with⟨_,t⟩|⟨_,t⟩;exact⟨.str_tuple k tk t g,.tuple_str k tk t g⟩;exact⟨.str_list k tk t g,.list_str k tk t g⟩
  |_=>simp[am] at f
 intro n
 induction n with
 |zero=>
  intro m A x y d e u v g h1 h2 T j;obtain⟨rfl,f⟩:=h1;cases m with
  |zero=>obtain⟨rfl,l⟩:=h2;exact mV T j f l
  |succ m=>
   rcases h2 with⟨rfl,l⟩|⟨b,p,es,rfl,rfl,U,py⟩|⟨b,p,es,rfl,rfl,U,py⟩
   ·exact mV T j f l
   ·cases j;exact(J (by lia) f T (.inl U)).1
   ·cases j;exact(J (by lia) f T (.inr U)).1
 |succ n ih=>
  intro m A x y d e u v g h1 h2 T j;have a2:A.in1.units+n<cLine:=by show A.units+1+n<cLine;lia
  rcases h1 with⟨rfl,f⟩|⟨a,xs,ds,rfl,rfl,o,px⟩|⟨a,xs,ds,rfl,rfl,o,px⟩
  ·cases m with
   |zero=>obtain⟨rfl,l⟩:=h2;exact mV T j f l
   |succ m=>
    rcases h2 with⟨rfl,l⟩|⟨b,p,es,rfl,rfl,U,py⟩|⟨b,p,es,rfl,rfl,U,py⟩
    ·exact mV T j f l
    ·cases j;exact(J (by lia) f T (.inl U)).1
    ·cases j;exact(J (by lia) f T (.inr U)).1
  ·cases T;cases m with
   |zero=>obtain⟨rfl,l⟩:=h2;exact(J (by lia) l j (.inl o)).2
   |succ m=>
    rcases h2 with⟨rfl,l⟩|⟨b,p,es,rfl,rfl,U,py⟩|⟨b,p,es,rfl,rfl,U,py⟩
    ·exact(J (by lia) l j (.inl o)).2
    ·cases j;by_cases a1:a=b
     ·subst a1;cases I.tuple_inj o U;have e:Da.eq (.tup ds) (.tup es)=true:=pY I (n+1) (m:=m+1) (x:=.ref a) (.inr (.inl ⟨a,xs,ds,rfl,rfl,o,px⟩)) (.inr (.inl ⟨a,xs,es,rfl,rfl,U,py⟩));rw[e];exact .same _
     ·exact .of_refs a1 (nW I (by lia) o U px py λh1 h2 r1 r2=>ih a2 h1 h2 r1 r2)
    ·cases j;obtain⟨us,vx,tx,_⟩:=I.tuple o;obtain⟨vs,vy,ty,_⟩:=I.list U;exact .tuple_list tx (j8 ty) (by lia)
  ·cases T;cases m with
   |zero=>obtain⟨rfl,l⟩:=h2;exact(J (by lia) l j (.inr o)).2
   |succ m=>
    rcases h2 with⟨rfl,l⟩|⟨b,p,es,rfl,rfl,U,py⟩|⟨b,p,es,rfl,rfl,U,py⟩
    ·exact(J (by lia) l j (.inr o)).2
    ·cases j;obtain⟨us,vx,tx,_⟩:=I.list o;obtain⟨vs,vy,ty,_⟩:=I.tuple U;exact .list_tuple (j8 tx) ty (by lia)
    ·cases j;by_cases a1:a=b
     ·subst a1;cases I.list_inj o U;have e:Da.eq (.lst ds) (.lst es)=true:=pY I (n+1) (m:=m+1) (x:=.ref a) (.inr (.inr ⟨a,xs,ds,rfl,rfl,o,px⟩)) (.inr (.inr ⟨a,xs,es,rfl,rfl,U,py⟩));rw[e];exact .same _
     ·exact .of_refs a1 (tK I (by lia) o U px py λh1 h2 r1 r2=>ih a2 h1 h2 r1 r2)
def uEq(K:Ae)(k:Nat):R2:=λx y H Q=>match x,y with
 |.ref a,.ref b=>∃n m d e,n<=k/\kh K H n (.ref a) d/\kh K H m (.ref b) e/\Q (.bl (Da.eq d e)) H
 |x,y=>agx x y=true/\Q (.bl (decide (x=y))) H
theorem aiw{k:Nat}(hu:X.A.units+k<cLine):kj X (compareOp .Eq) (uEq X.K k):=by
 intro J s o H x y v u Q I p t h;cases x with
 |ref a=>
  cases y with
  |ref b=>
   obtain⟨n,m,d,e,hn,h1,h2,q⟩:=h;cases p;cases t;have xg:∀{k:Bool},k=Da.eq d e->SeqAt.RcAt X.A s (.ref a) (.ref b) k->wpAny (model X.prog X.w) X.A (compareOp .Eq (.ref a) (.ref b)) (EP X J o Q) X.xe s:=λ{k} e' r=>
    r X.prog X.w X.xe (EP X J o Q) (by rw[e'];exact⟨.bl _,H,I,rfl,q⟩)
   cases n with
   |zero=>exact(jc h1.2).elim
   |succ n=>
    cases m with
    |zero=>exact(jc h2.2).elim
    |succ m=>
     have j:X.A.in1.units+n<cLine:=by show X.A.units+1+n<cLine;lia
     rcases h1 with⟨_,f⟩|⟨a',xs,ds,C,rfl,l,T⟩|⟨a',xs,ds,C,rfl,l,T⟩
     ·exact(jc f).elim
     ·cases C;rcases h2 with⟨_,f⟩|⟨b',ys,es,U,rfl,g,py⟩|⟨b',ys,es,U,rfl,g,py⟩
      ·exact(jc f).elim
      ·cases U;exact xg rfl (nW I (by lia) l g T py λh1 h2 r1 r2=>kZ I n j h1 h2 r1 r2)
      ·cases U;obtain⟨us,vx,tx,_⟩:=I.tuple l;obtain⟨vs,vy,ty,_⟩:=I.list g;exact xg rfl (.tuple_list tx (j8 ty) (by lia))
     ·cases C;rcases h2 with⟨_,f⟩|⟨b',ys,es,U,rfl,g,py⟩|⟨b',ys,es,U,rfl,g,py⟩
      ·exact(jc f).elim
      ·cases U;obtain⟨us,vx,tx,_⟩:=I.list l;obtain⟨vs,vy,ty,_⟩:=I.tuple g;exact xg rfl (.list_tuple (j8 tx) ty (by lia))
      ·cases U;exact xg rfl (tK I (by lia) l g T py λh1 h2 r1 r2=>kZ I n j h1 h2 r1 r2)
  |_=>exact ahz J s o H _ _ v u Q I p t h
 |_=>cases y<;>exact ahz J s o H _ _ v u Q I p t h
theorem alw{c:Addr}(J:Gl X x)(U:X.mg x=some (.ref c))(hd:Ed x:=by decide):PE X (.Name x pos) (tC (.ref c)):=vS J U (v:=.ref c) rfl hd
theorem amg{T:String}(J:Gl X x)(U:X.mg x=none)(g:bootBuiltins x=some (.type T))(j:x ≠ "__name__" := by decide)(hd:Ed x:=by decide):PE X (.Name x pos) (tC (.ty T)):=ael J U g (v:=.ty T) rfl j hd
structure zO(P:Program)(w:World)(K:Ae)(mg:Str->Option Value)(base:Heap)(k:Nat)(x:Str)(ps:List Str)(sp:Sp):Prop where
 ex:∃f fd,bO P w K mg base CX0 k f fd ps sp/\dO K fd ps []/\PySem.W.keepIn K (.ref f)=true/\mg x=some (.ref f)
theorem aq1{k:Nat}{t:TA}(c:zO X.prog X.w X.K X.mg X.base k x ps sp)(g:we k X.A)(j:Gl X x)(l:PA X (e::es) t)(J:Ed x:=by decide)
 (o:Eb e es X:=by rfl) (U:Ec pos es X:=by rfl):PE X (.Call (.Name x p) (e::es) [] pos) (ahw sp [] E0 t):=by
 obtain⟨f,fd,F,b,r,m⟩:=c.ex;exact aff F g j m r b .nil anz l J o U
theorem zO.mono{P:Program}{w:World}{K:Ae}{k:Nat}(c:zO P w K mg base j x ps sp)(h:j<=k):zO P w K mg base k x ps sp:=by obtain⟨f,fd,F,b,J,m⟩:=c.ex;exact⟨f,fd,F.mono h,b,J,m⟩
end L2
variable {ds:List L2.Da}
namespace L2
open PySem PySem.Spec PyProof.Rows
def kY(env:Env):List (Str×NameKind)->List (Str×Addr)->List (Str×Addr)
 |[],cs=>cs
 |(n,k)::r,cs=>kY env r (if k==.free then(n,(env.cells.lookup n).getD 0)::cs else cs)
def e9(scope:Scope)(env:Env):List (Str×Addr):=kY env scope.names []
theorem sD{env:Env}:∀{names:List (Str×NameKind)} {cs:List (Str×Addr)} {p:Str×Addr},p∈kY env names cs->p∈cs\/((p.1,NameKind.free)∈names/\p.2=(env.cells.lookup p.1).getD 0)
 |[],_,_,h=>.inl h
 |(n,k)::r,cs,p,h=>by
  rcases sD (names:=r) h with q|⟨q,e⟩
  ·by_cases J:(k==NameKind.free)=true
   ·rw[AC J] at q;rcases Am.mp q with rfl|q
    ·have:k=.free:=by simpa using J
     exact .inr ⟨by rw[this];exact Aj,rfl⟩
    ·exact .inl q
   ·rw[AF J] at q;exact .inl q
  ·exact .inr ⟨Ad _ q,e⟩
theorem rf{env:Env}{x:Str}:∀{names:List (Str×NameKind)} {cs:List (Str×Addr)},((∃c,(x,c)∈cs)\/(x,NameKind.free)∈names)->∃c,(x,c)∈kY env names cs
 |[],_,.inl h=>h
 |[],_,.inr h=>by simp at h
 |(n,k)::r,cs,h=>by
  refine rf (names:=r) ?_;rcases h with⟨c,h⟩|h
  ·left;by_cases J:(k==NameKind.free)=true
   ·rw[AC J];exact⟨c,Ad _ h⟩
   ·rw[AF J];exact⟨c,h⟩
  ·rcases Am.mp h with e|h
   ·left;injection e with U g
    subst U;subst g;exact⟨_,Aj⟩
   ·exact .inr h
theorem fB{x:Str}:∀{l:List (Str×Addr)} {c:Addr},(x,c)∈l->∃J,l.lookup x=some J
 |(n,d)::r,c,h=>by
  rw[Bj];cases U:x==n with
  |true=>exact⟨d,rfl⟩
  |false=>
   rcases Am.mp h with e|h
   ·injection e with g _;subst g;simp at U
   ·exact fB h
theorem jM(h:∀n,(n,NameKind.free)∈scope.names->∃c,env.cells.lookup n=some c):closureFor scope env=pure (e9 scope env):=by
 unfold closureFor e9;have key:∀(names:List (Str×NameKind)) (J:List (Str×Addr)),(∀n,(n,NameKind.free)∈names->∃c,env.cells.lookup n=some c)->
  (forIn names J λx (r:List (Str×Addr))=>(match x with|(name,kind)=>if kind==NameKind.free then do let a <-cellOf env name;pure (ForInStep.yield ((name,a)::r)) else pure (ForInStep.yield r):Sem (ForInStep (List (Str×Addr)))))=pure (kY env names J):=by
  intro names
  induction names with
  |nil=>intro J _;rfl
  |cons p r t=>
   intro J U;obtain⟨n,k⟩:=p;rw[B4];cases g:k==NameKind.free with
   |true=>
    have j:k=.free:=by simpa using g
    subst j;obtain⟨c,C⟩:=U n Aj;have e:cellOf env n=pure c:=by unfold cellOf;rw[C]
    simp only[beq_self_eq_true,if_true,e];have l:kY env ((n,NameKind.free)::r) J=kY env r ((n,c)::J):=by show kY env r _=_;rw[C];rfl
    rw[l];exact t ((n,c)::J) λm o=>U m (Ad _ o)
   |false=>
    simp only[g,BA,if_false];have l:kY env ((n,k)::r) J=kY env r J:=by show kY env r (if (k==NameKind.free)=true then _ else _)=_;rw[g];rfl
    rw[l];exact t J λm o=>U m (Ad _ o)
 exact(Bv (· >>= pure) (key scope.names [] h))
theorem aC{env:Env}{x:Str}:∀{names:List (Str×NameKind)},
 (names.map λ(n,k)=>if (k==NameKind.free&&env.scope.kind==.function&&env.kindOf n==some .cell) then(n,NameKind.cell) else(n,k)).lookup x
  = (names.lookup x).map λk=>if (k==NameKind.free&&env.scope.kind==.function&&env.kindOf x==some .cell) then NameKind.cell else k
 |[]=>rfl
 |(n,k)::r=>by
  have j:=@aC env x r;show List.lookup x ((if (k==NameKind.free&&env.scope.kind==.function&&env.kindOf n==some .cell)=true then(n,NameKind.cell) else(n,k))::_)=_;cases U:x==n with
  |true=>
   have g:x=n:=by simpa using U
   subst g;by_cases J:(k==NameKind.free&&env.scope.kind==.function&&env.kindOf x==some .cell)=true
   ·rw[AC J];simp only[Bj,beq_self_eq_true,Option.map_some];rw[AC J]
   ·rw[AF J];simp only[Bj,beq_self_eq_true,Option.map_some];rw[AF J]
  |false=>
   by_cases J:(k==NameKind.free&&env.scope.kind==.function&&env.kindOf n==some .cell)=true
   ·rw[AC J];simp only[Bj,U];exact j
   ·rw[AF J];simp only[Bj,U];exact j
def Cx.comp(X:Cx)(scope:Scope)(T:List Str)(C:Addr)(fp:List Addr)(s₀:Shared)(H₀:Hp):Cx:=
 { X with N:=X.N++T,s₀:=s₀,H₀:=H₀,env:=compEnvC scope (e9 scope X.env) C X.env,outer:=X.stack,ex:=fp,fn:=λ_=>false,xe:=λ_ _=>False }
structure jo(X:Cx)(scope:Scope):Prop where
 kind:scope.kind=.function
 nocell:∀y∈scope.names,y.2≠.cell
 names:∀y∈scope.names,y.2=.local->scope.names.lookup y.1=some .local
 free:∀n,scope.names.lookup n=some .free->X.env.kindOf n=some .cell\/X.env.kindOf n=some .free
 freeM:∀n,(n,NameKind.free)∈scope.names->X.env.kindOf n=some .cell\/X.env.kindOf n=some .free
 apart:∀x∈X.N,scope.names.lookup x≠some .local
theorem jo.clo(S:jo X scope)(I:z0 X pins σ H s):closureFor scope X.env=pure (e9 scope X.env):=
 jM λn h=>I.ok.has n (S.freeM n h)
theorem jo.cl_old(S:jo X scope)(I:z0 X pins σ H s){c:Addr}(h:(e9 scope X.env).lookup x=some c):X.env.cells.lookup x=some c:=by
 rcases sD (Br h) with q|⟨q,e⟩
 ·simp at q
 ·obtain⟨d,hd⟩:=I.ok.has x (S.freeM x q);have J:c=(X.env.cells.lookup x).getD 0:=e;rw[hd] at J ⊢;rw[J];rfl
theorem jo.cl_has(_:jo X scope)(h:scope.names.lookup x=some .free):∃c,(e9 scope X.env).lookup x=some c:=by obtain⟨c,J⟩:=rf (env:=X.env) (names:=scope.names) (cs:=[]) (x:=x) (.inr (Br h));exact fB J
theorem jo.kindOf(S:jo X scope)(h:(compEnvC scope (e9 scope X.env) C X.env).kindOf x=some .cell\/(compEnvC scope (e9 scope X.env) C X.env).kindOf x=some .free):scope.names.lookup x=some .free:=by
 have e:(compEnvC scope (e9 scope X.env) C X.env).kindOf x=(scope.names.lookup x).map λk=>if (k==NameKind.free&&X.env.scope.kind==.function&&X.env.kindOf x==some .cell) then NameKind.cell else k:=aC
 rw[e] at h;cases J:scope.names.lookup x with
 |none=>rw[J] at h;rcases h with h|h<;>cases h
 |some k=>
  rw[J] at h;cases k with|free=>rfl|cell=>exact absurd rfl (S.nocell _ (Br J))|_=>rcases h with h|h<;>cases h
theorem jo.vis(S:jo X scope)(g:x∈X.N)(h:Vis (compEnvC scope (e9 scope X.env) C X.env).scope x):scope.names.lookup x=some .free:=by
 rcases h with h|h|h
 ·exfalso;have e:(compEnvC scope (e9 scope X.env) C X.env).kindOf x=(scope.names.lookup x).map λk=>if (k==NameKind.free&&X.env.scope.kind==.function&&X.env.kindOf x==some .cell) then NameKind.cell else k:=aC
  have J:(compEnvC scope (e9 scope X.env) C X.env).kindOf x=some .local:=h;rw[e] at J;cases U:scope.names.lookup x with
  |none=>rw[U] at J;cases J
  |some k=>
   rw[U] at J;have J:(if (k==NameKind.free&&X.env.scope.kind==.function&&X.env.kindOf x==some .cell)=true then NameKind.cell else k)=.local:=AO J;split at J
   ·cases J
   ·subst J;exact S.apart x g U
 ·exact S.kindOf (C:=C) (.inl h)
 ·exact S.kindOf (C:=C) (.inr h)
theorem jo.back(S:jo X scope)(h:scope.names.lookup x=some .free):(compEnvC scope (e9 scope X.env) C X.env).kindOf x=some .cell\/(compEnvC scope (e9 scope X.env) C X.env).kindOf x=some .free:=by
 have e:(compEnvC scope (e9 scope X.env) C X.env).kindOf x=(scope.names.lookup x).map λk=>if (k==NameKind.free&&X.env.scope.kind==.function&&X.env.kindOf x==some .cell) then NameKind.cell else k:=aC
 rw[e,h];show some (if _ then _ else _)=_\/some (if _ then _ else _)=_;split
 ·exact .inl rfl
 ·exact .inr rfl
def PF(X:Cx)(ni:List Expr)(t:TT):Prop:=
 ∀(pins:List (Addr×Obj)) (s:Shared) (σ:St) (H:Hp) (Q:Bool->Hp->Prop),z0 X pins σ H s->t σ H Q->
  wpAny (model X.prog X.w) X.A (forIn ni true λc r=>if r=true then do let ok <-isTrue c X.env (eval c X.env);pure (ForInStep.yield ok) else pure (ForInStep.yield r)) (TP X pins σ Q) X.xe s
def aqw:TT:=λ_ H Q=>Q true H
theorem al4 :PF X [] aqw:=λ_ _ _ H _ I h=>Ah ⟨H,I,h⟩
theorem alc{t:TT}(hc:PT X c t):PF X [c] t:=by intro J s U H Q I h;rw[B4];simp only[if_true];refine Aa (Aa (aF (hc J s U H Q I h) λb g q=>Ah ?_));exact Ah q
theorem eh{w:World}{R:Result->Shared->Prop}{iter:Expr}{it C:Value}(I:Nat->Shared->Prop)
 (turn:∀n s,I n s->wpAny (model prog w) A (pyNext it) (λr J=>match r with
  |none=>R (.ok .next) J
  |some v=>wpAny (model prog w) A (letOwnedTupleGo target it v) (λ_ J=>wpAny (model prog w) A (assign target env v) (λ_ l=>
   wpAny (model prog w) A (forIn ni true λc r=>if r=true then do let ok <-isTrue c env (eval c env);pure (ForInStep.yield ok) else pure (ForInStep.yield r)) (λok g=>
    if ok=true then wpAny (model prog w) A (eval nr env) (λx o=>
     wpAny (model prog w) A (call (.builtin "list.append") [C,x]) (λ_ p=>∃m,m<n/\I m p) (λ_ _=>False) o) (λ_ _=>False) g
    else ∃m,m<n/\I m g) (λ_ _=>False) l) (λ_ _=>False) J) (λ_ _=>False) J) (λ_ _=>False) s)
 (n:Nat) (h:I n s):
 codeAny (model prog w) A (.compLoop (.ListComp nr [⟨target,iter,ni,0⟩] scope pos) 0 it C env) R s:=by
 refine codeAny_loop rfl I (λn s hI=>?_) n h;show wpAny _ A ((compTurn (.ListComp nr [⟨target,iter,ni,0⟩] scope pos) 0 it C env).onRaise (λx=>do noteFrame x env;theTreesLotGoes x)) _ _ s;refine wpAny_noted ?_;rw[compTurn_list];refine Aa (wpAny_standAt (Aa (AV (turn n s hI) (λr J U=>?_) λ_ _ j=>j.elim)));cases r with
 |none=>exact Ah U
 |some v=>
  refine Aa (AV U (λ_ J U=>?_) λ_ _ j=>j.elim);refine Aa (AV U (λ_ l T=>Aa (AV T (λok g t=>?_) λ_ _ j=>j.elim)) λ_ _ j=>j.elim);cases ok with
  |false=>exact Ah ⟨rfl,t⟩
  |true=>
   exact Aa (Aa (AV t (λx o a1=>Aa (AV a1 (λ_ p a2=>Ah (Ah ⟨rfl,a2⟩)) λ_ _ j=>j.elim)) λ_ _ j=>j.elim))
def tLC(n:Nat)(wi:TI)(g:TG)(tc:TT)(te:TE):TE:=λσ H Q=>wi σ H λJ H1=>∃W:Nat->Nat->List V->Hp->Prop,(∃m,W 0 m [] H1)/\∀i m ys H,W i m ys H->
 (J.stop i H/\ys.length<=sizeLine/\∀D,H D=none->Q (.ref D) (upd H D (.lst ys)))\/
 (J.go i H/\ys.length<sizeLine/\∀x H',J.yld i H x H'->g x (σ++List.replicate n none) H' λU H2=>tc U H2 λb l=>
  if b=true then te U l λy o=>∃j,j<m/\W (i+1) j (ys++[y]) o else ∃j,j<m/\W (i+1) j ys l)
def rC(g:TG)(n k:Nat):Prop:=∀(σ:St),σ.length=n->∀x H Q,g x (σ++List.replicate k none) H Q->
 g x (σ++List.replicate k none) H λJ H2=>((J.length=n+k/\∀(i:Nat) v,(σ++List.replicate k none)[i]?=some (some v)->J[i]?=some (some v))/\Q J H2)
section
variable {T:List Str}{iter:Expr}{g:TG}{te:TE}
theorem ltN{o:Obj}(e:h.get? b=some o):@LT.lt Nat instLTNat b h.objs.size:=xa e
theorem tM(h:@Ne Nat a b):a≠b:=h
theorem leN(h:@LE.le Nat instLENat a b):a<=b:=h
theorem zZ(eH:List Value)(n:Nat)(u:Value):∃J,Obj.mapSeq (·.push u) { cls:=.type "list",data:=.seq eH.toArray n }=({ cls:=.type "list",data:=.seq (eH++[u]).toArray J }:Obj):=
 ⟨_,by simp[Obj.mapSeq];rfl⟩
theorem u8{w:World}{D:Addr}(J:s.heap.get? D=some { cls:=.type "list",data:=.seq eH.toArray n })
 (hz:eH.length<=sizeLine) (h:∀h' U,Heap.SameBut D s.heap h'->h'.get? D=some { cls:=.type "list",data:=.seq (eH++[u]).toArray U }->Q .none { s with heap:=h' }):
 wpAny (model prog w) A (call (.builtin "list.append") [.ref D,u]) Q E s:=by
 have j:s.heap.IsList D eH.toArray:=⟨_,J,rfl,n,rfl⟩;refine wpAny_call_entry slot_list_append j.typeIs entry_list_append ?_ (args_list_append _ _);show wpAny _ _ (updateSeq D (·.push u) >>= λ_=>ret .none) _ _ s;refine Aa ?_;obtain⟨U,g⟩:=zZ eH n u;refine wpAny_updateSeq (f:=(·.push u)) J rfl (Ah ⟨.none,rfl,h _ U (ya ..) ?_⟩) (by rw[Ak];exact hz) (by rw[DF,Ak];exact Nat.succ_le_succ hz);rw[<-g];exact As _ J (by rw[g];rfl)
theorem l6{Q:VK}{ca:Value}{U:Shared}{RR:Value->Addr->Result->Shared->Prop}
 (S:jo X scope) (hc:X.calm=true)
 (hg:∀C fp s₀ H₀,PG (X.comp scope T C fp s₀ H₀) target g) (dC:rC g X.N.length T.length) (hf:∀C fp s₀ H₀,PF (X.comp scope T C fp s₀ H₀) ni tc) (he:∀C fp s₀ H₀,PE (X.comp scope T C fp s₀ H₀) nr te)
 (h:PIE X pins σ target (λJ H1=>∃W:Nat->Nat->List V->Hp->Prop,(∃m,W 0 m [] H1)/\∀i m ys H,W i m ys H->
  (J.stop i H/\ys.length<=sizeLine/\∀D,H D=none->Q (.ref D) (upd H D (.lst ys)))\/
  (J.go i H/\ys.length<sizeLine/\∀x H',J.yld i H x H'->g x (σ++List.replicate T.length none) H' λcb H2=>tc cb H2 λb H3=>
   if b=true then te cb H3 λy H4=>∃m',m'<m/\W (i+1) m' (ys++[y]) H4 else ∃m',m'<m/\W (i+1) m' ys H3)) ca U)
 (dI:∀D C s' H' m',z0 X pins σ H' s'->jJ X pins H' C->s'.heap.Ns C m'->Q (.ref D) H'->RR (.ref D) C (.ok .next) s'):
 wpAny (model X.prog X.w) X.A (newList []) (λcc au=>wpAny (model X.prog X.w) X.A (newFunctionEnv scope X.env.globals (e9 scope X.env) [] X.env.qual none .none (some X.env)) (λbg cl=>
  codeAny (model X.prog X.w) X.A (.compStart (.ListComp nr [⟨target,iter,ni,0⟩] scope pos) 0 ca cc { bg with scope:=relabel scope X.env }) (RR cc bg.locals) cl) E au) E U:=by
 obtain⟨it,fp,tn,J,H2,rfl,j,Tn,bi,f2,W,⟨m0,w0⟩,turn⟩:=h;refine Bh (wpAny_newFunctionEnv S.nocell (by intro y hy;simp at hy) (λba al I=>?_) S.kind);dsimp only at al I ⊢;generalize bj:U.heap.push { cls:=.type "list",dict:=none,data:=.seq ([]:List Value).toArray }=G at al I ⊢;have hC:G.objs.size=U.heap.objs.size+1:=by rw[<-bj,Ej]
 obtain⟨D,eD⟩:∃D,U.heap.objs.size=D:=⟨_,rfl⟩;obtain⟨C,eC⟩:∃C,G.objs.size=C:=⟨_,rfl⟩;rw[eD] at hC ⊢;rw[eC] at hC al I ⊢;have bn:D≠C:=by lia
 have old:∀b o,U.heap.get? b=some o->ba.get? b=some o:=λb o e=>by have t:=ltN e;exact I.extBut b o (tM (by lia)) (wh _ (bj▸wh _ e))
 have cm:ba.get? D=some { cls:=.type "list",data:=.seq ([]:List Value).toArray 0 }:=by refine I.extBut _ _ bn (wh _ ?_);rw[<-bj,<-eD];exact xb _ rfl
 have bp:∀b∈fp,@LT.lt Nat instLTNat b U.heap.objs.size:=λb t=>by obtain⟨o,e,_⟩:=Tn.obj _ _ bi b t;exact ltN e
 have cv:@LT.lt Nat instLTNat X.env.locals U.heap.objs.size:=j.lt;have el:X.s₀.heap.objs.size<=U.heap.objs.size:=j.sz;have HD:H2 D=none:=j.hok.fresh (leN (by exact yG));have HC:H2 C=none:=j.hok.fresh (leN (by lia));have dS:∀b:Addr,@LE.le Nat instLENat U.heap.objs.size b->b∉bw X.stack:=λb t z=>by
  have q:=j.stkSub b z;rcases Am.mp q with q|q
  ·rw[<-q] at cv;exact absurd cv (Nat.not_lt.mpr t)
  ·exact j.nofs t q
 have bb:∀x c,X.env.cells.lookup x=some c->@LT.lt Nat instLTNat c U.heap.objs.size:=λx c e=>by obtain⟨v,q⟩:=j.cell x c e;exact q.lt
 let X':Cx:=X.comp scope T C fp U H2
 have bq:X'.Ok:={
  mod:=j.ok.mod,kind:=S.kind,glob:=j.ok.glob,blt:=j.ok.blt
  above:=leN (by show @LE.le Nat instLENat U.heap.objs.size C;lia)
  inj:=λx y c h1 h2=>j.ok.inj x y c (S.cl_old j h1) (S.cl_old j h2)
  has:=λx hx=>S.cl_has (S.kindOf hx)
  cab:=λx c hx=>absurd (show false=true from hx) (by simp)
  hd:=j.ok.hd,frames:=j.ok.frames,stk:=.inl rfl
  exf:=λb t=>⟨tM (by have:=bp b t;show @Ne Nat b C;lia),λx c e=>(f2 b t).2.2.2.2.1 x c (S.cl_old j e)⟩
  bs:=j.bs,bsz:=AM j.ok.bsz j.sz
  noex:=λb o e t=>by
   obtain⟨e0,n0⟩:=j.ok.bs b o e;rcases (f2 b t).2.2.2.1 with q|q
   ·exact j.ok.noex b o e q
   ·have q':@LE.le Nat instLENat X.s₀.heap.objs.size b:=q;have:=ltN e0;lia
  exfs:=λb t z=>by
   rcases Am.mp (j.stkSub b z) with q|q
   ·exact(f2 b t).2.1 q
   ·exact(f2 b t).2.2.1 q
  funs:=j.stack,frf:=j.stkFree }
 have I4:∀tk,0<tk->z0 X' pins (σ++List.replicate T.length none) H2 { U with heap:=ba,toks:=tk }:=λtk dV=>{
  tk:=dV,ok:=bq,os:=rfl,bare:=j.bare,base:=Un.kept old
  loc:=⟨_,al,λi x v e1 e2 e3=>by
   have hi:i<σ.length:=by
    by_cases hi:i<σ.length
    ·exact hi
    ·rw[Ay (by exact acz),CK] at e2;split at e2<;>cases e2
   rw[AH hi] at e2;have e4:i<X.N.length:=by rw[<-j.len];exact hi
   have cy:X.N[i]?=some x:=by have:(X.N++T)[i]?=some x:=e1;rw[AH e4] at this;exact this
   have br:=S.vis (Aw cy) e3;obtain⟨m,hn,hl⟩:=j.loc;have hk:=S.free x br;obtain⟨u,r,l⟩:=hl i x v cy e2 (.inr hk);refine⟨u,r,.inr ⟨S.back br,?_⟩⟩;rcases l with⟨l,_⟩|⟨_,c,e,z⟩
   ·rw[l] at hk;rcases hk with q|q<;>cases q
   ·obtain⟨c',e'⟩:=S.cl_has br;have cP:=S.cl_old j e';rw[e] at cP;cases cP;exact⟨c,e',z.keeps old⟩⟩
  cell:=λx c e=>by obtain⟨v,z⟩:=j.cell x c (S.cl_old j e);exact⟨v,z.keeps old⟩
  free:=HC,freeC:=λx c e=>j.freeC x c (S.cl_old j e)
  pin:=λp hp=>by
   obtain⟨a,b,c,d,e⟩:=j.pin p hp;have e5:=ltN a;refine⟨old _ _ a,b,tM (by show @Ne Nat p.1 C;lia),λz=>?_,e⟩;rcases Am.mp (j.stkSub _ z) with q|q
   ·exact c q
   ·exact d q
  hok:=j.hok.kept old
  len:=by show(σ++_).length=(X.N++T).length;rw[Ac,Ac,BY,j.len] }
 have bu:∀(av:List (Addr×Obj)) (H':Hp),(∀p∈av,p∈pins\/p.1=D)->(∀b∈fp,H' b=none)->∀b∈fp,jJ X' av H' b:=λav H' hp hn b t=>by
  obtain⟨_,q1,q2,q3,q4,q5⟩:=f2 b t;have e5:=bp b t;refine⟨hn b t,tM (by show @Ne Nat b C;lia),bq.exfs b t,.inl t,(bq.exf b t).2,λp e6=>?_⟩;rcases Aq.mp e6 with z|z
  ·exact q5 p (Ar _ z)
  ·rcases hp p z with z|z
   ·exact q5 p (Ag _ z)
   ·rw[z];exact tM (by lia)
 have stay:Tn.keep=Tn.keep:=rfl;have bh:∀au:Shared,au={ U with heap:=ba,toks:=U.toks+([]:List (Str×Value)).length }->
  codeAny (model X.prog X.w) X.A (.compLoop (.ListComp nr [⟨target,iter,ni,0⟩] scope pos) 0 (.ref it) (.ref D) X'.env) (RR (.ref D) C) au:=by
  rintro au rfl;refine eh (λn s'=>∃i bv H' ys ao k,z0 X' pins bv H' s'/\(bv.length=X.N.length+T.length/\∀(i:Nat) v,(σ++List.replicate T.length none)[i]?=some (some v)->bv[i]?=some (some v))/\
   s'.heap.get? D=some { cls:=.type "list",data:=.seq (ao:List Value).toArray k }/\zp ys ao/\H' D=none/\tn i s'.heap/\(∀b∈fp,H' b=none)/\W i n ys H') ?_ m0
   ⟨0,_,H2,[],[],0,I4 _ j.tk,⟨by rw[Ac,BY,j.len],λ_ _ e=>e⟩,cm,.nil,HD,Tn.keep _ _ _ bi λb _ o e=>old b o e,λb t=>(f2 b t).1,w0⟩
  rintro n s3 ⟨i,en,H3,ys,ao,k,I3,⟨e7,e8⟩,ea,bd,bf,qI,d0,w3⟩;have ek:ao.length=ys.length:=bd.length.symm;have de:D∉X'.fs:=dS D (by exact yG);have di:D≠X'.env.locals:=bn;have dj:z0 X' (pins++[(D,{ cls:=.type "list",data:=.seq ao.toArray k })]) (σ++List.replicate T.length none) H3 s3:=
   (I3.weak (by rw[e7,Ac,BY,j.len]) e8).pins_of λp hp=>by
    rcases Aq.mp hp with z|z
    ·exact I3.pin p (Ag _ z)
    ·have e:=Ai.mp z;subst e;exact⟨ea,bf,di,de,λv z=>by cases z⟩
  have aL:∀p∈pins++[(D,({ cls:=.type "list",data:=.seq ao.toArray k }:Obj))],p∈pins\/p.1=D:=λp hp=>by
   rcases Aq.mp hp with z|z
   ·exact .inl z
   ·exact .inr (by rw[Ai.mp z])
  rcases turn i n ys H3 w3 with⟨stop,hz,qn⟩|⟨go,hz,step⟩
  ·refine aF (Tn.done X' rfl rfl rfl hc i _ s3 _ H3 _ dj (bu _ H3 aL d0) qI stop) λr s4 ⟨hr,ag⟩=>?_;subst hr;obtain⟨eb,eo,_⟩:=ag.pin (D,_) (Ag _ (Ag _ Aj));obtain⟨m',ec,_⟩:=ag.loc;have un:Un (bw X.stack) fp H2 (upd H3 D (.lst ys)) U.heap s4.heap:={
    keep:=ag.base.keep,slot:=ag.base.slot
    free:=λb o e n hx=>by have:=ltN e;rw[qr (tM (by lia))];exact ag.base.free b o e n hx
    there:=ag.base.there
    tups:=λb xs e=>by rw[qr (λz=>by rw[z,HD] at e;cases e)];exact ag.base.tups b xs e
    frzs:=λb o u e=>by rw[qr (λz=>by rw[z,HD] at e;cases e)];exact ag.base.frzs b o u e
    tbls:=λb ps e=>by rw[qr (λz=>by rw[z,HD] at e;cases e)];exact ag.base.tbls b ps e }
   have ed:dW X.prog X.w (upd H3 D (.lst ys)) s4.heap:=λb u e=>by
    by_cases t:b=D
    ·subst t;rw[zg] at e;cases e;exact⟨hz,ao,k,bd,eb⟩
    ·rw[qr t] at e;refine(ag.hok b u e).stay (λ_ _ _ q=>q) (λc q=>?_) λc xs q=>?_
     ·rw[qr (zr q bf)];exact q
     ·rw[qr (zr q bf)];exact q
   have I5:z0 X pins σ (upd H3 D (.lst ys)) s4:=j.call' (ch:=fp) ag.os un ed ag.bare λb t=>⟨(f2 b t).2.2.2.1,(f2 b t).2.1,(f2 b t).2.2.2.2.1,(f2 b t).2.2.2.2.2⟩;refine dI D C s4 _ m' I5 ?_ ec (qn D bf);refine⟨by rw[qr (AE bn)];exact ag.free,?_,?_,.inr ?_,λx c e=>?_,λp hp=>?_⟩
   ·exact tM (by lia)
   ·exact j.nofs (leN (by lia))
   ·exact leN (by lia)
   ·exact tM (by have:=bb x c e;lia)
   ·exact tM (by have:=ltN (j.pin p hp).1;lia)
  ·refine aF (Tn.item X' rfl rfl rfl hc i _ s3 _ H3 _ dj (bu _ H3 aL d0) qI go) λr s4 ⟨u,hr,h4⟩=>?_;subst hr;refine aF h4 λ_ s5 ⟨x,H5,I5,r5,y5,bS,ee⟩=>?_;have eg:=I5.pinned (bu _ H5 aL ee) (Tn.obj _ _ bS);refine AV ((hg C fp U H2) _ s5 _ H5 x u _ eg r5 (dC σ j.len x H5 _ (step x H5 y5))) (λ_ s6 ⟨bc,H6,I6,⟨dp,dv⟩,q6⟩=>?_) λ_ _ z=>z;refine AV ((hf C fp U H2) _ s6 bc H6 _ I6 q6) (λb s7 ⟨H7,I7,q7⟩=>?_) λ_ _ z=>z;have xg:∀{s8:Shared} {H8:Hp} (I8:z0 X' ((pins++[(D,{ cls:=.type "list",data:=.seq ao.toArray k })])++mE fp s5.heap) bc H8 s8),tn (i+1) s8.heap/\(∀b∈fp,H8 b=none)/\s8.heap.get? D=some { cls:=.type "list",data:=.seq ao.toArray k }/\H8 D=none/\z0 X' pins bc H8 s8:=λ{s8 H8} I8=>by
    refine⟨Tn.keep _ _ _ bS λb t o e=>(I8.pin (b,o) (Ag _ (Ag _ (cf t e)))).1,λb t=>?_,?_,?_,I8.unpinned.unpinned⟩
    ·obtain⟨o,e,d⟩:=Tn.obj _ _ bS b t;exact(I8.pin (b,o) (Ag _ (Ag _ (cf t e)))).2.1
    ·exact(I8.pin (D,_) (Ag _ (Ar _ (Ag _ Aj)))).1
    ·exact(I8.pin (D,_) (Ag _ (Ar _ (Ag _ Aj)))).2.1
   cases b with
   |false=>
    rw[AF AA] at q7 ⊢;obtain⟨m',hm,w7⟩:=q7;obtain⟨a1,a2,a3,a4,a5⟩:=xg I7;exact⟨m',hm,i+1,bc,H7,ys,ao,k,a5,⟨dp,dv⟩,a3,bd,a4,a1,a2,w7⟩
   |true=>
    rw[AC rfl] at q7 ⊢;refine AV ((he C fp U H2) _ s7 bc H7 _ I7 q7) (λv s8 ⟨y,H8,I8,r8,m',hm,w8⟩=>?_) λ_ _ z=>z;obtain⟨a1,a2,a3,a4,a5⟩:=xg I8;refine u8 a3 (by lia) λh9 k9 dz ej=>?_;have nD:∀b∈fp,b≠D:=λb t=>tM (by have:=bp b t;lia);refine⟨m',hm,i+1,bc,H8,ys++[y],ao++[v],k9,?_,⟨dp,dv⟩,ej,bd.append (.cons r8 .nil),a4,Tn.keep _ _ _ a1 λb t o e=>(dz.2 b (nD b t)).trans e,a2,w8⟩;exact a5.turned (t':=s8.toks) (it:=D) (λb o t e=>(dz.2 b t).trans e) a4 di (.inr (leN (by show @LE.le Nat instLENat U.heap.objs.size D;exact yG))) (λx c e=>tM (by have:=bb x c (S.cl_old j e);lia)) λp hp=>tM (by have:=ltN (j.pin p hp).1;lia)
 exact codeAny_compStart_list (bh _ rfl) (Tn.self _ _ _ _ _ (Tn.keep _ _ _ bi λb _ o e=>old b o e) (bh _ rfl))
end
section
variable {T:List Str}{iter:Expr}{g:TG}{te:TE}
theorem am9(T:List Str)(S:jo X scope)(hc:X.calm=true)(hi:PI X target iter wi)(t:∀C fp s₀ H₀,PG (X.comp scope T C fp s₀ H₀) target g)(j:rC g X.N.length T.length)
 (hf:∀C fp s₀ H₀,PF (X.comp scope T C fp s₀ H₀) ni tc) (he:∀C fp s₀ H₀,PE (X.comp scope T C fp s₀ H₀) nr te)
 (hs:∀x,foldedSetIterable iter X.env x=pure x:=by intro _;rfl):PE X (.ListComp nr [⟨target,iter,ni,0⟩] scope pos) (tLC T.length wi g tc te):=by
 intro J s r H Q I h;rw[eval_ListComp];refine wpAny_comprehension_free (use:=none) rfl hs (S.clo I) S.kind S.names (aF (hi J s r H _ I h) λv s1 h1=>aF h1 λa1 s2 h2=>?_);refine l6 (RR:=λl C=>compPost (model X.prog X.w) X.A X.xe none (EP X J r Q) l C) S hc t j hf he h2 ?_;intro D C s' H' m' I' U hn q;exact⟨m',hn,λh' p=>⟨.ref D,H',I'.turned (t':=s'.toks) (it:=C) (λb o hb e=>(p.2 b hb).trans e) U.1 (AE (AE U.2.1)) U.2.2.2.1 U.2.2.2.2.1 U.2.2.2.2.2,rfl,q⟩⟩
theorem acw(T:List Str){px j:Pos}(hN:X.N.Nodup)(l:X.N[i]?=some x)(hx:zR X.env.scope x)(S:jo X scope)(hc:X.calm=true)(hi:PI X target iter wi)
 (hg:∀C fp s₀ H₀,PG (X.comp scope T C fp s₀ H₀) target g) (p:rC g X.N.length T.length)
 (hf:∀C fp s₀ H₀,PF (X.comp scope T C fp s₀ H₀) ni tc) (he:∀C fp s₀ H₀,PE (X.comp scope T C fp s₀ H₀) nr te)
 (r:swapsWith (.ListComp nr [⟨target,iter,ni,0⟩] scope j) (some (.Name x px)) pos.line X.env=pure true:=by rfl)
 (t:X.fn x=true\/X.env.scope.names.lookup x=some .local:=by first|exact .inl rfl|exact .inr rfl|assumption)
 (hs:∀x,foldedSetIterable iter X.env x=pure x:=by intro _;rfl):PS X (.Assign [.Name x px] (.ListComp nr [⟨target,iter,ni,0⟩] scope j) pos) (akb (tLC T.length wi g tc te) (l8 i)):=by
 intro pins s σ H D I h;rw[exec_Assign_Name_used _ _ _ _ r];refine Aa (wpAny_standAt (Aa ?_));show wpAny _ X.A (do let _ <-comprehension (.ListComp nr [⟨target,iter,ni,0⟩] scope j) scope X.env _ (newList []) false (eval iter X.env) (some (assign (.Name x px) X.env))) _ _ s;refine Aa (AV (wpAny_comprehension_free (use:=some (assign (.Name x px) X.env)) (Q:=λ_ U=>SP X pins D .next U) rfl hs (S.clo I) S.kind S.names
  (aF (hi pins s σ H _ I h) λv s1 h1=>aF h1 λag s2 h2=>?_)) (λ_ U hq=>Ah (Ah hq)) λ_ _ e=>e)
 refine l6 (RR:=λa1 C=>compPost (model X.prog X.w) X.A X.xe (some (assign (.Name x px) X.env)) (λ_ U=>SP X pins D .next U) a1 C) (pins:=pins) (σ:=σ) (Q:=λx H1=>l8 i x σ H1 D.nx) S hc hg p hf he h2 ?_;intro A C U H' m' I' J hn q;show wpAny _ X.A (assign (.Name x px) X.env (.ref A)) _ _ U;refine wpAny_assign_Name (oQ I' hN l hx (v:=.ref A) rfl (λa2 a3 ⟨a,hs,ha⟩ _=>?_) t);have a4:C≠a:=by
  rcases ha with z|z
  ·rw[z];exact J.2.1
  ·exactλe=>J.2.2.2.2.1 x a z e.symm
 exact⟨m',hn.sameBut hs a4,λh' a5=>⟨_,H',a3.turned (t':=a2.toks) (it:=C) (λb o hb e=>(a5.2 b hb).trans e) J.1 J.2.1 J.2.2.2.1 J.2.2.2.2.1 J.2.2.2.2.2,q⟩⟩
end
def aJ(outer:Scope)(N:List Str)(J:Scope):Bool:=
 decide (J.kind=.function)&&J.names.all (λp=>decide (p.2≠.cell)&&(decide (p.2≠.local)||decide (J.names.lookup p.1=some .local))&&(decide (p.2≠.free)||(decide (outer.names.lookup p.1=some .cell)||decide (outer.names.lookup p.1=some .free))))
  && N.all (λx=>decide (J.names.lookup x≠some .local))
theorem aJ.mk{J:Scope}(h:aJ X.env.scope X.N J=true):jo X J:=by
 unfold aJ at h;rw[A2,A2,BC,BC] at h;obtain⟨⟨h1,h2⟩,h3⟩:=h;have j:∀n,(n,NameKind.free)∈J.names->X.env.kindOf n=some .cell\/X.env.kindOf n=some .free:=λn U=>by
  have q:=h2 _ U;simp only[A2,DG,decide_eq_true_eq] at q;rcases q.2 with z|z
  ·exact absurd rfl z
  ·exact z
 refine⟨of_decide_eq_true h1,λy g=>?_,λy g e=>?_,λn U=>j n (Br U),j,λx l=>of_decide_eq_true (h3 x l)⟩
 ·have q:=h2 _ g;simp only[A2,DG,decide_eq_true_eq] at q;exact q.1.1
 ·have q:=h2 _ g;simp only[A2,DG,decide_eq_true_eq] at q;rcases q.1.2 with z|z
  ·exact absurd e z
  ·exact z
abbrev EJ:=@aJ.mk
theorem um(n:Nat):rC (l8 n) n 1:=by
 intro g J x H Q h;refine⟨⟨by simp[J],λi v e=>?_⟩,h⟩;by_cases U:i=n
 ·subst U;rw[Ay (by exact yG)] at e;simp[J] at e
 ·rw[Bu (AE U)];exact e
theorem nU:bootBuiltins "isinstance"=some (.builtin "isinstance"):=by decide +kernel
theorem cY:bootBuiltins "tuple"=some (.type "tuple"):=by decide +kernel
theorem vD:bootBuiltins "str"=some (.type "str"):=by decide +kernel
theorem om:bootBuiltins "int"=some (.type "int"):=by decide +kernel
theorem wy:bootBuiltins "list"=some (.type "list"):=by decide +kernel
theorem adh:bootBuiltins "len"=some (.builtin "len"):=by decide +kernel
theorem huK{k:Nat}(J:we k A):A.units+128<cLine:=by have:=J.un;lia
theorem small(h:n<=1000):n<=sizeLine:=Bo (oB h)
theorem zO.of{P:Program}{w:World}{K:Ae}{k:Nat}(F:bO P w K mg base CX0 k f fd ps sp)(b:dO K fd ps [])(J:PySem.W.keepIn K (.ref f)=true)(m:mg x=some (.ref f)):
 zO P w K mg base k x ps sp:=⟨f,fd,F,b,J,m⟩
theorem bO.never{P:Program}{w:World}{K:Ae}{k:Nat}(no:∀vs H Q E,¬sp vs H Q E):bO P w K mg base CX0 k f fd ps sp:=
 ⟨λvs H Q E h=>absurd h (no vs H Q E),λA J s H args U vs Q E _ _ _ _ h=>absurd h (no vs H Q E)⟩
section
variable (K:Ae)(P:Program)(w:World)
end
structure zc(K:Ae)(x:Str)(st:Stmt):Prop where
 ex:∃(f:Addr) (kV gc pm:Value) (an:Option Addr) (fx ct:Value),PySem.W.nsIn K mainGlobals x=some (some (.ref f))/\Fun K x x st f (PySem.W.fnOf x x (vh st) (jn st) (qu st) .none kV gc pm an fx ct)
theorem def_in{K:Ae}{kV:Value}(a:PySem.W.nsIn K mainGlobals x=some (some (.ref f)))
 (l:K.lookup f=some ⟨oc,od,.func (PySem.W.fnOf x x (vh st) (jn st) (qu st) .none kV gc pm an fx ct),oi⟩) (c:PySem.W.codeIn K fx x=true) (k:PySem.W.keepIn K (.ref f)=true):zc K x st:=
 ⟨f,kV,gc,pm,an,fx,ct,a,al2 (st:=st) l c k⟩
theorem zc.use{K:Ae}(D:zc K x st)(X:K.In h)(G:h.Ns mainGlobals mg)
 (J:∀(kV gc pm:Value) (an:Option Addr) (fx ct:Value) (us:List Value),us.length=ps.length->bindArgs (PySem.W.fnOf x x (vh st) (jn st) (qu st) .none kV gc pm an fx ct) ⟨us,[]⟩=pure (ps.zip us)):
 ∃f fd,Fun K x x st f fd/\dO K fd ps []/\mg x=some (.ref f):=by
 obtain⟨f,kV,gc,pm,an,fx,ct,a,F⟩:=D.ex;exact⟨f,_,F,dO.all (J kV gc pm an fx ct),Cp X G a⟩
end L2
namespace Words
open PySem L2
inductive Wd where
 |leaf (t:Bool) (n:Str)
 |node (e:Bool) (l r:Wd)
def kL:Bool->Str
 |false => "plain"
 |true => "turned"
def kN:Bool->Str
 |false => "both"
 |true => "either"
def Wd.turn:Wd->Wd
 |.leaf t n=>.leaf (!t) n
 |.node e l r=>.node (!e) l.turn r.turn
def Wd.depth:Wd->Nat
 |.leaf _ _=>1
 |.node _ l r=>max l.depth r.depth+1
def Wd.leaves:Wd->Nat
 |.leaf _ _=>1
 |.node _ l r=>l.leaves+r.leaves
theorem Wd.turn_turn:∀w:Wd,w.turn.turn=w
 |.leaf t n=>by simp[Wd.turn]
 |.node e l r=>by simp[Wd.turn,Wd.turn_turn l,Wd.turn_turn r]
theorem Wd.leaves_pos:∀w:Wd,1<=w.leaves
 |.leaf _ _=>Al _
 |.node _ l r=>by have:=Wd.leaves_pos l;show 1<=l.leaves+r.leaves;exact amw
abbrev DZ:=@Wd.leaves_pos
theorem Wd.depth_le:∀w:Wd,w.depth<=w.leaves
 |.leaf _ _=>Al _
 |.node _ l r=>by have:=Wd.depth_le l;have:=Wd.depth_le r;have:=DZ l;have:=DZ r;show max l.depth r.depth+1<=l.leaves+r.leaves;lia
def lL:Wd->Da
 |.leaf t n=>.tup [.s (.str (kL t)),.s (.str n)]
 |.node e l r=>.tup [.s (.str (kN e)),lL l,lL r]
theorem m5:∀w:Wd,Da.eq (lL w) (lL w)=true
 |.leaf t n=>by simp[lL,Da.eq,Da.eqs,gD]
 |.node e l r=>by simp[lL,Da.eq,Da.eqs,gD,m5 l,m5 r]
def da(x:Str):Prop:=1<=x.length/\x.length<=8/\∀c∈x.cps.toList,97<=c/\c<=122
def Wd.ok:Wd->Prop
 |.leaf _ n=>da n
 |.node _ l r=>l.ok/\r.ok
theorem Paired.app{α β:Type}{F:α->β->Prop}:∀{xs J:List α} {ys U:List β},Paired F xs ys->Paired F J U->Paired F (xs++J) (ys++U)
 |_,_,_,_,.nil,s=>s
 |_,_,_,_,.cons r t,s=>.cons r (Paired.app t s)
theorem Paired.getP{α β:Type}{F:α->β->Prop}:∀{xs:List α} {ys:List β} {i:Nat} {x:α},Paired F xs ys->xs[i]?=some x->∃y,ys[i]?=some y/\F x y
 |_,_,_,_,.nil,h=>by simp at h
 |_,_,0,_,.cons (b:=y) r _,h=>by simp at h;subst h;exact⟨y,rfl,r⟩
 |_,_,i+1,_,.cons _ t,h=>by obtain⟨y,e,q⟩:=Paired.getP (i:=i) t (by simpa using h);exact⟨y,by simpa using e,q⟩
end Words
namespace L2
open PySem PySem.Spec PyProof.Rows
theorem yY{ys:List V}{es:List Da}(I:z0 X pins σ H s)(g:A.units<cLine)(j:cZ X.K H a xs)(l:cZ X.K H b ys)(px:Paired (kh X.K H n) xs ds)(py:Paired (kh X.K H m) ys es)
 (o:∀{x y:V} {d e:Da} {u v:Value},kh X.K H n x d->kh X.K H m y e->zv x u->zv y v->SeqAt.EqAt A.in1 s u v (Da.eq d e)):SeqAt.RcNeAt A s (.ref a) (.ref b) (!Da.eqs ds es):=by
 obtain⟨r,J,p,_⟩:=I.tuple j;obtain⟨t,U,ty,_⟩:=I.tuple l;have q:=SeqAt.RcNeAt.tuples p ty g (fv px py J U o);rw[Ak,Ak,<-J.length,<-U.length,px.length,py.length,DV] at q;exact q
theorem zT{ys:List V}{es:List Da}(I:z0 X pins σ H s)(l:A.units<cLine)(p:wu X.K H a xs)(r:wu X.K H b ys)(px:Paired (kh X.K H n) xs ds)(py:Paired (kh X.K H m) ys es)
 (t:∀{x y:V} {d e:Da} {u v:Value},kh X.K H n x d->kh X.K H m y e->zv x u->zv y v->SeqAt.EqAt A.in1 s u v (Da.eq d e)):SeqAt.RcNeAt A s (.ref a) (.ref b) (!Da.eqs ds es):=by
 obtain⟨C,U,o,_⟩:=I.list p;obtain⟨T,j,ty,_⟩:=I.list r;by_cases g:C.toArray.size=T.toArray.size
 ·have q:=SeqAt.RcNeAt.lists (j8 o) (j8 ty) g l (fv px py U j t);have J:ds.length=es.length:=by rw[<-px.length,<-py.length,U.length,j.length];simpa using g
  have e:=DV ds es;rw[J,Nat.min_self] at e;rw[<-J] at e;rw[Ak,<-U.length,px.length] at q;simp only[beq_self_eq_true,DN] at e;rw[e] at q;exact q
 ·have q:=SeqAt.RcNeAt.lists_lengths (j8 o) (j8 ty) (by simpa using g) l;have J:ds.length≠es.length:=by rw[<-px.length,<-py.length,U.length,j.length];intro z;exact g (by simpa using z)
  have e:=DV ds es;have f:(ds.length==es.length)=false:=by simpa using J
  rw[f,DL] at e;rw[<-e];exact q
def uNe(K:Ae)(k:Nat):R2:=λx y H Q=>match x,y with
 |.ref a,.ref b=>∃n m d e,n<=k/\kh K H n (.ref a) d/\kh K H m (.ref b) e/\Q (.bl (!Da.eq d e)) H
 |x,y=>agx x y=true/\Q (.bl (!decide (x=y))) H
theorem aib{k:Nat}(hu:X.A.units+k<cLine):kj X (compareOp .NotEq) (uNe X.K k):=by
 intro J s o H x y v u Q I p t h;cases x with
 |ref a=>
  cases y with
  |ref b=>
   obtain⟨n,m,d,e,hn,h1,h2,q⟩:=h;cases p;cases t;have xg:∀{k:Bool},k=(!Da.eq d e)->SeqAt.RcNeAt X.A s (.ref a) (.ref b) k->wpAny (model X.prog X.w) X.A (compareOp .NotEq (.ref a) (.ref b)) (EP X J o Q) X.xe s:=λ{k} e' r=>
    r X.prog X.w X.xe (EP X J o Q) (by rw[e'];exact⟨.bl _,H,I,rfl,q⟩)
   cases n with
   |zero=>exact(jc h1.2).elim
   |succ n=>
    cases m with
    |zero=>exact(jc h2.2).elim
    |succ m=>
     have j:X.A.in1.units+n<cLine:=by show X.A.units+1+n<cLine;lia
     rcases h1 with⟨_,f⟩|⟨a',xs,ds,C,rfl,l,T⟩|⟨a',xs,ds,C,rfl,l,T⟩
     ·exact(jc f).elim
     ·cases C;rcases h2 with⟨_,f⟩|⟨b',ys,es,U,rfl,g,py⟩|⟨b',ys,es,U,rfl,g,py⟩
      ·exact(jc f).elim
      ·cases U;exact xg rfl (yY I (by lia) l g T py λh1 h2 r1 r2=>kZ I n j h1 h2 r1 r2)
      ·cases U;obtain⟨us,vx,tx,_⟩:=I.tuple l;obtain⟨vs,vy,ty,_⟩:=I.list g;exact xg rfl (.tuple_list tx (j8 ty) (by lia))
     ·cases C;rcases h2 with⟨_,f⟩|⟨b',ys,es,U,rfl,g,py⟩|⟨b',ys,es,U,rfl,g,py⟩
      ·exact(jc f).elim
      ·cases U;obtain⟨us,vx,tx,_⟩:=I.list l;obtain⟨vs,vy,ty,_⟩:=I.tuple g;exact xg rfl (.list_tuple (j8 tx) ty (by lia))
      ·cases U;exact xg rfl (zT I (by lia) l g T py λh1 h2 r1 r2=>kZ I n j h1 h2 r1 r2)
  |_=>exact ahg J s o H _ _ v u Q I p t h
 |_=>cases y<;>exact ahg J s o H _ _ v u Q I p t h
theorem aai:bootBuiltins "max"=some (.builtin "max"):=by decide +kernel
theorem wF:bootBuiltins "bool"=some (.type "bool"):=by decide +kernel
end L2
namespace Words
open PySem L2
def Wd.size:Wd->Nat
 |.leaf _ _=>1
 |.node _ l r=>1+l.size+r.size
theorem Wd.size_eq:∀w:Wd,w.size+1=2*w.leaves
 |.leaf _ _=>rfl
 |.node _ l r=>by have:=Wd.size_eq l;have:=Wd.size_eq r;show 1+l.size+r.size+1=2*(l.leaves+r.leaves);lia
end Words
namespace L2
open PySem PySem.Spec PyProof.Rows
theorem xu.get{P:Program}{w:World}{o:HO}(x:xu P w H h a o):∃ob,h.get? a=some ob:=by
 cases o with
 |lst U=>obtain⟨_,_,_,_,e⟩:=x;exact⟨_,e⟩
 |tup U=>obtain⟨_,_,_,_,e,_⟩:=x;exact⟨_,e⟩
 |dK J=>obtain⟨_,_,_,_,o,_,_,e,_⟩:=x;exact⟨_,e⟩
 |dT J=>obtain⟨_,_,_,_,o,_,_,e,_⟩:=x;exact⟨_,e⟩
 |set S n=>obtain⟨o,_,_,_,e,_⟩:=x;exact⟨_,e⟩
 |ins C g fs=>obtain⟨_,_,_,e,_⟩:=x;exact⟨_,e⟩
 |own y=>exact x
 |xd fs=>obtain⟨_,⟨_,_,_,e,_⟩,_⟩:=x;exact⟨_,e⟩
 |rng lo j=>obtain⟨_,_,_,e⟩:=x;exact⟨_,e⟩
 |frz ob u=>obtain⟨e,_⟩:=x;exact⟨_,e⟩
 |tbl l=>exact⟨_,show h.get? a=some _ from x⟩
 |met f y=>exact⟨_,show h.get? a=some _ from x⟩
 |ext p=>obtain⟨_,e,_⟩:=x;exact e
def pV(h0 h:Heap)(H:Hp)(a C:Addr)(tr:Option Addr):Prop:=
 h0.get? a=none/\H a=none/\∃J vs a0,h.get? a=some J/\J.cls=.ref C/\J.data=.fields vs/\vs[0]?=some a0/\
  match tr with
  |none=>vs[1]?=some .none
  |some T=>vs[1]?=some (.ref T)/\h0.get? T=none/\H T=none/\T≠a/\∃U ts,h.get? T=some U/\U.data=.fields ts/\ts[3]?=some .none
def aj(a:Addr)(tr:Option Addr)(fs:List Addr):List Addr:=a::(tr.toList++fs)
section
variable {tr:Option Addr}
theorem jP{l:List Env}(h:env∈l)(e:env.frame=some b):b∈bw l:=Dd.mpr ⟨env,h,e⟩
theorem jT(I:z0 X pins σ H s)(hs:X.stack=X.env::X.outer)(hx:X.ex=[])(new:X.s₀.heap.get? a=none)(free:H a=none)(j:∀T,tr=some T->X.s₀.heap.get? T=none/\H T=none){a0 fl:Value}
 (k1:(PySem.W.hideAll s.heap (aj a tr (bw X.stack))).StaysIn h') (k2:h'.FunFrames (PySem.W.hideAll s.heap (aj a tr (bw X.stack))) X.stack) (k3:h'.TracedAtW (PySem.W.hideAll s.heap (aj a tr (bw X.stack))) a (.ref C) a0 fl)
 (k4:∀b o,s.heap.get? b=some o->(∀vs,o.data≠.fields vs)->∃sl,h'.get? b=some { o with slots:=sl }):
 Un X.fs [] X.H₀ H X.s₀.heap h'/\dW X.prog X.w H h'/\∃T,(∀b o,s.heap.get? b=some o->(∀T0,tr=some T0->b≠T0)->b≠T)/\X.s₀.heap.get? T=none/\H T=none/\T≠a/\∃oe vs oT ts,h'.get? a=some oe/\oe.cls=.ref C/\vs[0]?=some a0/\oe.data=.fields vs/\vs[1]?=some (.ref T)/\h'.get? T=some oT/\oT.data=.fields ts/\ts[3]?=some fl:=by
 have kp:∀b o,s.heap.get? b=some o->b∉aj a tr (bw X.stack)->h'.get? b=some o:=λb o e n=>k1 b o (CB _ e n);have sl:∀b o,s.heap.get? b=some o->b∈bw X.stack->∃sl,h'.get? b=some { o with slots:=sl }:=λb o e J=>by obtain⟨_,l,e',nf⟩:=I.stack.mem J;rw[e] at e';cases e';exact k4 b o e nf
 have p:∀b,b∈aj a tr (bw X.stack)->H b=none:=λb J=>by
  rcases Am.mp J with e|J
  ·rw[e];exact free
  ·rcases Aq.mp J with q|q
   ·exact(j b (by simpa using q)).2
   ·exact I.stkFree b q
 have g:∀b o,X.s₀.heap.get? b=some o->b∉X.fs->b∉aj a tr (bw X.stack):=λb o e nb J=>by
  rcases Am.mp J with q|J
  ·rw[q,new] at e;cases e
  ·rcases Aq.mp J with q|q
   ·rw[(j b (by simpa using q)).1] at e;cases e
   ·rcases Am.mp (I.stkSub b q) with q|q
    ·exact absurd (AL (xa e) I.ok.above) (by rw[q];exact Co _)
    ·exact nb q
 have r:∀b,b∈X.fs->b∈bw X.stack:=λb J=>by
  rw[hs];unfold bw;rw[CC];split
  ·exact J
  ·exact Ad _ J
 have U:∀b:Addr,b∉X.ex:=λb=>by rw[hx];simp
 have a3:dW X.prog X.w H h':=λb u e=>(I.hok b u e).stay (λc w' hc q=>kp c w' q λhm=>by
  have n:=p c hm;rcases hc with z|z
  ·rw[z,e] at n;cases n
  ·rw[z] at n;cases n) (λ_ q=>q) λ_ _ q=>q
 refine⟨⟨λb o e n J _=>?_,λb o e n J _=>?_,λb o e n _=>I.base.free b o e n (U b),λb o e _=>?_,I.base.tups,I.base.frzs,I.base.tbls⟩,a3,?_⟩
 ·exact kp b o (I.base.keep b o e n J (U b)) (g b o e J)
 ·obtain⟨z,t⟩:=I.base.slot b o e n J (U b);obtain⟨z',e2⟩:=sl b _ t (r b J);exact⟨z',e2⟩
 ·obtain⟨l,t⟩:=I.base.there b o e (U b);by_cases J:b∈X.fs
  ·obtain⟨z',e2⟩:=sl b _ t (r b J);exact⟨_,e2⟩
  ·exact⟨l,kp b l t (g b o e J)⟩
 ·obtain⟨al,ao,T,oT,ts,au,⟨av,aL⟩,ba,bb,a4,a1,hT,a5,h3⟩:=k3;have a2:∀o,s.heap.get? T=some o->T∈aj a tr (bw X.stack):=λo e=>by
   by_cases q:T∈aj a tr (bw X.stack)
   ·exact q
   ·rw[CB _ e q] at a4;cases a4
  have ag:T∉bw X.stack:=λJ=>by obtain⟨_,l,e',nf⟩:=k2.mem J;rw[hT] at e';cases e';exact nf ts a5
  refine⟨T,λb o e ne z=>?_,?_,?_,a1,al,ao,oT,ts,au,av,aL,ba,bb,hT,a5,h3⟩
  ·subst z;rcases Am.mp (a2 o e) with z|z
   ·exact a1 z
   ·rcases Aq.mp z with z|z
    ·exact ne b (by simpa using z) rfl
    ·exact ag z
  ·cases q:X.s₀.heap.get? T with
   |none=>rfl
   |some o=>
    obtain⟨l,t⟩:=I.base.there T o q (U T);rcases Am.mp (a2 l t) with z|z
    ·exact absurd z a1
    ·rcases Aq.mp z with z|z
     ·rw[(j T (by simpa using z)).1] at q;cases q
     ·exact absurd z ag
  ·cases q:H T with
   |none=>rfl
   |some u=>
    obtain⟨l,t⟩:=(I.hok T u q).get;have:=p T (a2 l t);rw[q] at this;cases this
theorem abf{Q:Unit->Shared->Prop}(I:z0 X pins σ H s)(hs:X.stack=X.env::X.outer)(hf:X.env.frame=some X.env.locals)(hx:X.ex=[])(L:pV X.s₀.heap s.heap H a C tr)
 (h:∀h' T,Un X.fs [] X.H₀ H X.s₀.heap h'->dW X.prog X.w H h'->pV X.s₀.heap h' H a C (some T)->Q () { s with heap:=h' }):wpAny M X.A (leaving X.env (.ref a)) Q E s:=by
 have L0:=L;obtain⟨new,free,oe,vs,b0,g,hc,hd,h0,J⟩:=L0;have j:s.heap.FunFrames (PySem.W.hideAll s.heap (aj a tr (bw X.stack))) X.stack:=Cj I.stack λenv g b hb=>Ad _ (Ag _ (jP g hb));have st:(PySem.W.hideAll s.heap (aj a tr (bw X.stack))).StaysIn s.heap:=λb o e=>Ci _ e;have l:(PySem.W.hideAll s.heap (aj a tr (bw X.stack))).get? a=none:=BB _ Aj;have U:X.A.frames=some (X.env::X.outer):=by rw[<-hs];exact I.ok.frames
 have go:∀h',Heap.LeftW (PySem.W.hideAll s.heap (aj a tr (bw X.stack))) (X.env::X.outer) a (.ref C) b0 s.heap h'->Q () { s with heap:=h' }:=λh' ⟨k1,k2,k3,k4⟩=>by obtain⟨u,p,T,_,n1,n2,ne,r,t,oT,ts,e1,e2,e3,e4,e5,e6,e7,e8⟩:=jT I hs hx new free (by intro T e;subst e;exact⟨J.2.1,J.2.2.1⟩) k1 (by rw[hs];rw[hs] at k2;exact k2) k3.at k4;exact h h' T u p ⟨new,free,r,t,b0,e1,e2,e4,e3,e5,n1,n2,ne,oT,ts,e6,e7,e8⟩
 have nT:∀T,tr=some T->(PySem.W.hideAll s.heap (aj a tr (bw X.stack))).get? T=none:=λT e=>by subst e;exact BB _ (Ad _ (Ar _ (by simp)))
 generalize PySem.W.hideAll s.heap (aj a tr (bw X.stack))=base at j st l go nT;rw[hs] at j;cases tr with
 |none=>exact wpAny_leaving_firstW U j hf g st l hd J h0 (by rw[hc];exact go)
 |some T=>
  obtain⟨h1,_,_,a1,oT,ts,hT,a2,h3⟩:=J;exact wpAny_leaving_nextW U j hf ⟨oe,vs,T,oT,ts,g,⟨hc,h0⟩,hd,h1,nT T rfl,a1,hT,a2,h3⟩ st l go
end
def CXE(P:Program)(w:World):vW:=λouter H s E e s'=>∃a C T H',e=.ref a/\s'.os=s.os/\AllBare s'.gens/\Un (bw outer) [] H H' s.heap s'.heap/\dW P w H' s'.heap/\pV s.heap s'.heap H' a C (some T)/\E (.ref C) none H'/\0<s'.toks
def vR(X:Cx)(a:Addr):Prop:=a≠X.env.locals/\(∀x c,X.env.cells.lookup x=some c->c≠a)/\∀p∈X.pn,p.1≠a
abbrev X1:=St->Value->Hp->Prop
def bW(X:Cx)(E1:X1):Prop:=∀(pins:List (Addr×Obj)) (σ:St) (H:Hp) (s:Shared) (a C:Addr) (tr:Option Addr),z0 X pins σ H s->pV X.s₀.heap s.heap H a C tr->vR X a->(∀T,tr=some T->vR X T)->E1 σ (.ref C) H->X.xe (.ref a) s
section
variable {T:Addr}{tr:Option Addr}{E1:X1}
theorem z0.apart(I:z0 X pins σ H s)(h:s.heap.get? b=none):vR X b:=by
 refine⟨λe=>?_,λx c e z=>?_,λp U z=>?_⟩
 ·obtain⟨m,⟨o,_,_,J,_⟩,_⟩:=I.loc;rw[<-e,h] at J;cases J
 ·obtain⟨v,o,J,_⟩:=I.cell x c e;rw[z,h] at J;cases J
 ·obtain⟨e,_⟩:=I.pin p (Ar _ U);rw[z,h] at e;cases e
theorem z0.news(I:z0 X pins σ H s)(J:X.ex=[])(h:s.heap.get? b=none):X.s₀.heap.get? b=none:=by
 cases q:X.s₀.heap.get? b with
 |none=>rfl
 |some o=>
  obtain⟨U,e⟩:=I.base.there b o q (by rw[J];simp);rw[h] at e;cases e
theorem bW.pass(t:bW X E1)(U:X.ex=[]){e:Value}(I:z0 X pins σ H s)(h:CXE X.prog X.w X.stack H s (λc _ H'=>E1 σ c H') e s'):X.xe e s':=by obtain⟨a,C,T,H',rfl,j,l,u,J,⟨new,free,o,p,r,he,hc,hd,h0,h1,g,fT,rest⟩,q,a1⟩:=h;have I':z0 X pins σ H' s':=I.call' (ch:=[]) j u J l (λb z=>absurd z (by simp));exact t pins σ H' s' a C (some T) I' ⟨I.news U new,free,o,p,r,he,hc,hd,h0,h1,I.news U g,fT,rest⟩ (I.apart new) (λT' e=>by cases e;exact I.apart g) q
theorem af3{k:Nat}{Q:VK}{vs:List V}(F:bO X.prog X.w X.K X.mg X.base (CXE X.prog X.w) k f fd ps sp)(U:we k X.A)(g:dO X.K fd ps [])(j:bW X E1)(l:X.ex=[])
 (I:z0 X pins σ H s) (r:zp vs us) (h:sp vs H Q (λc _ H'=>E1 σ c H')):wpAny (model X.prog X.w) X.A (call (.ref f) us) (EP X pins σ Q) X.xe s:=by
 have o:(us++[]).length=ps.length:=by rw[A1,<-r.length];exact F.len _ _ _ _ h
 refine wpAny_call (codeAny_mono (F.run X.A X.stack s H ⟨us,[]⟩ us vs Q _ U I.env0 (by have:=g s us I.kIn o;rw[A1] at this;exact this) r h) λr t J=>?_);cases r with
 |error e=>exact j.pass l I J
 |ok p=>
  cases p with|ret u=>exact I.after J|next=>exact False.elim J|brk=>exact False.elim J|cont=>exact False.elim J
end
def akw(sp:Sp)(E1:X1)(t:TA):TE:=λσ H Q=>t σ H λvs H1=>sp vs H1 Q λc _ H'=>E1 σ c H'
section
variable {k:Nat}{E1:X1}{t:TA}
theorem sH(F:bO X.prog X.w X.K X.mg X.base (CXE X.prog X.w) k f fd ps sp)(l:we k X.A)(o:Gl X x)(C:X.mg x=some (.ref f))(T:PySem.W.keepIn X.K (.ref f)=true)(hb:dO X.K fd ps [])(ht:bW X E1)(hx:X.ex=[])
 (ha:PA X (e::es) t) (U:Ed x:=by decide) (he:Eb e es X:=by rfl) (g:Ec pos es X:=by rfl):
 PE X (.Call (.Name x p) (e::es) [] pos) (akw sp E1 t):=by
 intro J s σ H Q I h;refine wpAny_Call_Name_kw (gf I o C ?_ U);refine PySem.W.callWith_K (h₀:=X.base) I.ok.mod.kin T (aF (ha pos J s σ H _ I h) λus s1 ⟨vs,H1,j,r,q⟩=>⟨j.kIn,?_⟩) he g;exact af3 F l hb ht hx j r q
end
theorem ade{P:Program}{w:World}{K:Ae}{N:List Str}{E:XK}:
 bW (cn (CXE P w) P w K mg base N eK scope f cd A outer s H E) λ_ c H'=>E c none H':=by
 intro U j H' l a C tr I L _ _ q;refine abf (X:=cn (CXE P w) P w K mg base N eK scope f cd A outer s H E) I rfl rfl rfl L λo T u J g=>?_;exact⟨a,C,T,H',rfl,I.os,I.bare,u,J,g,q,I.tk⟩
structure abv(K:Ae)(C:Addr):Prop where
 ex:∃(nm q:Str) (N:Addr) (bs bm:List Value) (hdct:Bool) (sn:List Str) (sub:List Value) (ab:Bool) (col:Option Bool) (dd:Option Addr) (k0 k1 k2 k3 k5:Option Value) (B Bn newId nid initId inN:String) (bmB bmN:List Value),
  ExcBaseFacts Bn newId inN bmN/\bmB.contains (.type Bn)=true/\ExcBaseFacts B nid initId bmB/\
  ∀h,K.In h->h.get? C=some (excClassObj nm q C N bs bm hdct sn sub ab col dd k0 k1 k2 k3 k5 newId)/\(∃mN,h.Ns N mN/\mN "__init__"=none)/\OwnTail h bmB bm
theorem afn{K:Ae}{g p:List Value}{B T U r J t:String}(q:PySem.W.excIn K C g U=true)(Fn:ExcBaseFacts T U t p)(a1:g.contains (.type T)=true)(F:ExcBaseFacts B r J g):abv K C:=by
 unfold PySem.W.excIn at q;split at q
 ·rename_i dd cd sl ho;split at q
  ·rename_i C' bm k0 k1 k2 k3 n k5 hm hs;simp only[A2,beq_iff_eq,Cs] at q;obtain⟨⟨⟨⟨⟨rfl,rfl⟩,j⟩,ht⟩,o⟩,I⟩:=q;obtain⟨nm,bs,a4,ns,qn,hd,sn,sub,ab,a2,del⟩:=cd;dsimp only at hm j o I;subst hm j;have a3:sl=#[k0,k1,k2,k3,some (.builtin n),k5]:=by obtain⟨l⟩:=sl;simp only at hs;rw[hs]
   subst a3;exact⟨nm,qn,ns,bs,bm,hd,sn,sub,ab,a2,dd,k0,k1,k2,k3,k5,B,T,n,r,J,t,g,p,Fn,a1,F,λh X=>⟨X _ _ ho,⟨_,.of_isNs (PySem.W.isNs_of_in X o),PySem.W.nsMap_none_of_in X o I⟩,PySem.W.tail_of_in X ht⟩⟩
  ·cases q
 ·cases q
def ajo(C:Addr)(E1:X1)(t:TA):TS:=λ_ σ H=>t σ H λvs H1=>vs.length<=sizeLine/\E1 σ (.ref C) H1
theorem aaz{E1:X1}{t:TA}(c:abv X.K C)(hg:Gl X x)(U:X.mg x=some (.ref C))(hc:X.calm=true)(ht:bW X E1)(hx:X.ex=[])(ha:PA X (e::es) t)(a1:Ed x:=by decide)
 (he:Eb e es X:=by rfl) (a2:Ec fm es X:=by rfl):
 PS X (.Raise (some (.Call (.Name x np) (e::es) [] fm)) none pos) (ajo C E1 t):=by
 intro J s σ H D I h;obtain⟨nm,q,N,bs,bm,hdct,sn,sub,ab,col,dd,k0,k1,k2,k3,k5,B,Bn,a3,ag,l,al,ao,au,Fn,a4,F,all⟩:=c.ex;obtain⟨_,⟨mN,hn,a5⟩,ow⟩:=all X.base I.ok.mod.kin;refine wpAny_Raise_call_subU (C:=C) (nm:=nm) (q:=q) (N:=N) (bs:=bs) (bm:=bm) (hdct:=hdct) (sn:=sn) (sub:=sub) (ab:=ab) (col:=col) (dd:=dd) (k0:=k0) (k1:=k1) (k2:=k2) (k3:=k3) (k5:=k5) Fn a4 F (mN:=mN) (ow.hasType F.hasBase) (I.ok.hd hc)
  (by rw[he];show(false||(backTo fm (starEach es X.env)).any (·.1))=false;rw[a2];rfl) a5 (gf I hg U ⟨rfl,?_⟩ a1)
 rw[he];have j:=ha fm J s σ H _ I h;rw[he] at j;refine Calls.evalArgs_plain (aF j λus s2 ⟨vs,p,g,r,hl,q1⟩=>⟨rfl,by rw[<-r.length];exact hl,(all _ g.kIn).1,hn.keeps g.bk,(all _ g.kIn).2.2,λh' a U=>?_⟩);obtain⟨t0,e1,_,_⟩:=U.there;have I2:z0 X J σ p { s2 with heap:=h' }:=g.kept (t':=s2.toks) U.keeps;have fr:p a=none:=by
  cases z:p a with
  |none=>rfl
  |some u=>
   obtain⟨o,eo⟩:=(g.hok a u z).get;rw[U.new] at eo;cases eo
 exact ht J σ p _ a C none I2 ⟨g.news hx U.new,fr,_,_,.ref t0,e1,rfl,rfl,rfl,rfl⟩ (g.apart U.new) (λT z=>nomatch z) q1
section
variable {T:Addr}{tr:Option Addr}
theorem iP(I:z0 X pins σ H s)(hx:X.ex=[])(hf:X.stack=X.env::X.outer)(un:Un X.fs [] X.H₀ H X.s₀.heap h')(hok:dW X.prog X.w H h')
 (k1:(PySem.W.hideAll s.heap (aj a tr (bw X.stack))).StaysIn h') (l:∀b o,s.heap.get? b=some o->(∀vs,o.data≠.fields vs)->∃J,h'.get? b=some { o with slots:=J })
 (pa:∀p∈X.pn++pins,p.1≠a/\∀T,tr=some T->p.1≠T):z0 X pins σ H { s with heap:=h' }:=by
 have t:∀{c:Addr} {v:Option Value},s.heap.IsCell c v->h'.IsCell c v:=λ{c v} ⟨o,U,hd⟩=>by
  obtain⟨J,e⟩:=l c o U λvs q=>by rw[hd] at q;cases q
  exact⟨_,e,hd⟩
 obtain⟨m,hn,hl⟩:=id I.loc;have g:h'.Ns X.env.locals m:=by
  obtain⟨o,es,ep,U,hd,r⟩:=hn;obtain⟨J,e⟩:=l _ o U λvs q=>by rw[hd] at q;cases q
  exact⟨_,es,ep,e,hd,r⟩
 refine⟨I.ok,I.os,I.bare,by rw[hx];exact un,⟨m,g,λi x v e1 e2 e3=>?_⟩,λx c e=>?_,I.free,I.freeC,λp j=>?_,hok,I.len,I.tk⟩
 ·obtain⟨u,ru,lk⟩:=hl i x v e1 e2 e3;refine⟨u,ru,?_⟩;rcases lk with lk|⟨k,c,e,z⟩
  ·exact .inl lk
  ·exact .inr ⟨k,c,e,t z⟩
 ·obtain⟨v,z⟩:=I.cell x c e;exact⟨v,t z⟩
 ·obtain⟨e,n,ne,C,d⟩:=I.pin p j;refine⟨k1 _ _ (CB _ e λhm=>?_),n,ne,C,d⟩;rcases Am.mp hm with z|z
  ·exact(pa p j).1 z
  ·rcases Aq.mp z with z|z
   ·exact(pa p j).2 p.1 (by simpa using z) rfl
   ·rcases Am.mp (I.stkSub _ z) with z|z
    ·exact ne z
    ·exact C z
theorem aeh{Q:Unit->Shared->Prop}(I:z0 X pins σ H s)(hs:X.stack=X.env::X.outer)(hf:X.env.frame=some X.env.locals)(hx:X.ex=[])(L:pV X.s₀.heap s.heap H a C tr)
 (pa:∀p∈X.pn++pins,p.1≠a/\∀T,tr=some T->p.1≠T)
 (h:∀h' T,z0 X pins σ H { s with heap:=h' }->pV X.s₀.heap h' H a C (some T)->(∀p∈X.pn++pins,p.1≠T)->Q () { s with heap:=h' }):
 wpAny M X.A (noteFrame (.ref a) X.env) (λ_ j=>wpAny M X.A (setFlight (.ref a) none) Q E j) E s:=by
 obtain⟨new,free,oe,vs,b0,g,hc,hd,h0,J⟩:=id L;have r:∀T,tr=some T->X.s₀.heap.get? T=none/\H T=none:=by intro T e;subst e;exact⟨J.2.1,J.2.2.1⟩
 have fr:s.heap.FunFrames (PySem.W.hideAll s.heap (aj a tr (bw X.stack))) X.stack:=Cj I.stack λenv g b hb=>Ad _ (Ag _ (jP g hb));have st:(PySem.W.hideAll s.heap (aj a tr (bw X.stack))).StaysIn s.heap:=λb o e=>Ci _ e;have na:(PySem.W.hideAll s.heap (aj a tr (bw X.stack))).get? a=none:=BB _ Aj;have t:X.A.frames=some (X.env::X.outer):=by rw[<-hs];exact I.ok.frames
 have nT:∀T,tr=some T->(PySem.W.hideAll s.heap (aj a tr (bw X.stack))).get? T=none:=λT e=>by subst e;exact BB _ (Ad _ (Ar _ (by simp)))
 have go:∀h',Heap.NotedW (PySem.W.hideAll s.heap (aj a tr (bw X.stack))) (X.env::X.outer) a (.ref C) b0 (rawInt X.env.locals) s.heap h'->wpAny M X.A (setFlight (.ref a) none) Q E { s with heap:=h' }:=λh' ⟨k1,k2,k3,k4⟩=>by
  rw[<-hs] at k2;obtain⟨u,a4,T,a5,n1,n2,ne,ag,al,oT,ts,e1,e2,e3,e4,e5,e6,e7,e8⟩:=jT I hs hx new free r k1 k2 k3 k4;have I2:z0 X pins σ H { s with heap:=h' }:=iP I hx hs u a4 k1 k4 pa;have paT:∀p∈X.pn++pins,p.1≠T:=λp U=>by obtain⟨e,_⟩:=I.pin p U;exact a5 p.1 _ e (pa p U).2
  have ao:h'.FunFrames (PySem.W.hideAll h' (aj a (some T) (bw X.stack))) X.stack:=Cj I2.stack λenv g b hb=>Ad _ (Ag _ (jP g hb));refine wpAny_setFlight_noneW (s:={ s with heap:=h' }) (base:=PySem.W.hideAll h' (aj a (some T) (bw X.stack))) (l:=X.stack) (e:=a) (cls:=.ref C) (a0:=b0) (fl:=rawInt X.env.locals) (λb o e=>Ci _ e) ao
   ⟨ag,al,T,oT,ts,e1,⟨e2,e3⟩,e4,e5,BB _ (Ad _ (Ar _ (by simp))),ne,e6,e7,e8⟩ λh3 j1 j2 j3 j4=>?_
  have a1:∀b o,h'.get? b=some o->(∀vs,o.data≠.fields vs)->∃sl,h3.get? b=some { o with slots:=sl }:=λb o e q=>⟨o.slots,j4 b o e q⟩;obtain⟨u',a2,T',a3,au,av,aL,ba,bb,bc,bd,f1,f2,f3,f4,f5,f6,f7,f8⟩:=jT (s:={ s with heap:=h' }) (tr:=some T) I2 hs hx new free (λT0 e=>by cases e;exact⟨n1,n2⟩) j1 j2 j3.at a1;have I3:z0 X pins σ H { s with heap:=h3 }:=iP (s:={ s with heap:=h' }) (h':=h3) (tr:=some T) I2 hx hs u' a2 j1 a1 λp U=>⟨(pa p U).1,λT0 e=>by cases e;exact paT p U⟩;refine h h3 T' I3 ⟨new,free,ba,bb,b0,f1,f2,f4,f3,f5,au,av,aL,bc,bd,f6,f7,f8⟩ λp U=>?_;obtain⟨e,_⟩:=I2.pin p U;exact a3 p.1 _ e λT0 z=>by cases z;exact paT p U
 generalize PySem.W.hideAll s.heap (aj a tr (bw X.stack))=base at fr st na go nT;rw[hs] at fr;cases tr with
 |none=>
  unfold noteFrame;simp only[hf];refine Aa (AU g hd J ?_);rw[AF (by decide)];exact wpAny_entryW t fr hf g st na hd (Array.getElem?_eq_some_iff.mp J).1 h0 (by rw[hc];exact go)
 |some T=>
  obtain⟨h1,_,_,bf,oT,ts,hT,bg,h3⟩:=J;exact wpAny_noteFrame_onW t fr hf ⟨oe,vs,T,oT,ts,g,⟨hc,h0⟩,hd,h1,nT T rfl,bf,hT,bg,h3⟩ st na go
end
abbrev Cx.tr(X:Cx)(pn:List (Addr×Obj))(xe:Value->Shared->Prop):Cx:={ X with pn:=pn,xe:=xe }
abbrev Cx.hnd(X:Cx)(a:Addr):Cx:={ X with A:=X.A.mark (some (.ref a)),calm:=false,xe:=λ_ _=>False }
theorem Cx.Ok.tr(ok:X.Ok)(pn:List (Addr×Obj))(xe:Value->Shared->Prop):(X.tr pn xe).Ok:=
 ⟨ok.mod,ok.kind,ok.glob,ok.blt,ok.above,ok.inj,ok.has,ok.cab,ok.hd,ok.frames,ok.stk,ok.exf,ok.bs,ok.bsz,ok.noex,ok.exfs,ok.funs,ok.frf⟩
theorem Cx.Ok.untr{pn:List (Addr×Obj)}(ok:(X.tr pn xe).Ok):X.Ok:=
 ⟨ok.mod,ok.kind,ok.glob,ok.blt,ok.above,ok.inj,ok.has,ok.cab,ok.hd,ok.frames,ok.stk,ok.exf,ok.bs,ok.bsz,ok.noex,ok.exfs,ok.funs,ok.frf⟩
theorem Cx.Ok.hnd(ok:X.Ok)(a:Addr):(X.hnd a).Ok:=
 ⟨ok.mod,ok.kind,ok.glob,ok.blt,ok.above,ok.inj,ok.has,ok.cab,(λz=>nomatch z),ok.frames,ok.stk,ok.exf,ok.bs,ok.bsz,ok.noex,ok.exfs,ok.funs,ok.frf⟩
section
variable {T:Addr}
theorem z0.tr(I:z0 X pins σ H s)(xe:Value->Shared->Prop):z0 (X.tr (X.pn++pins) xe) [] σ H s:=⟨I.ok.tr _ _,I.os,I.bare,I.base,I.loc,I.cell,I.free,I.freeC,(λp J=>I.pin p (by simpa using J)),I.hok,I.len,I.tk⟩
theorem z0.untr{J:List (Addr×Obj)}(I:z0 (X.tr (X.pn++pins) xe) J σ H s):z0 X pins σ H s:=⟨I.ok.untr,I.os,I.bare,I.base,I.loc,I.cell,I.free,I.freeC,(λp U=>I.pin p (Ar _ U)),I.hok,I.len,I.tk⟩
theorem z0.hnd(I:z0 X pins σ H s)(a:Addr):z0 (X.hnd a) pins σ H s:=⟨I.ok.hnd a,I.os,I.bare,I.base,I.loc,I.cell,I.free,I.freeC,I.pin,I.hok,I.len,I.tk⟩
theorem z0.unhnd(ok:X.Ok)(I:z0 (X.hnd a) pins σ H s):z0 X pins σ H s:=⟨ok,I.os,I.bare,I.base,I.loc,I.cell,I.free,I.freeC,I.pin,I.hok,I.len,I.tk⟩
theorem SP.untr{D:pW}{f:Flow}(h:SP (X.tr (X.pn++pins) xe) [] D f s'):SP X pins D f s':=by
 cases f with
 |next=>obtain⟨U,g,J,q⟩:=h;exact⟨U,g,J.untr,q⟩
 |brk=>obtain⟨U,g,J,q⟩:=h;exact⟨U,g,J.untr,q⟩
 |cont=>obtain⟨U,g,J,q⟩:=h;exact⟨U,g,J.untr,q⟩
 |ret u=>obtain⟨v,U,g,J,r,q⟩:=h;exact⟨v,U,g,J.untr,r,q⟩
theorem zG{Q:Unit->Shared->Prop}(I:z0 X pins σ H s)(hs:X.stack=X.env::X.outer)(hx:X.ex=[])(L:pV X.s₀.heap s.heap H a C (some T))
 (pa:∀p∈X.pn++pins,p.1≠a/\p.1≠T) (h:∀h' g,z0 X pins σ H { s with heap:=h' }->pV X.s₀.heap h' H a C (some g)->Q () { s with heap:=h' }):wpAny M A (setFlight (.ref a) none) Q E s:=by
 obtain⟨new,free,oe,j,b0,r,hc,hd,h0,h1,n1,n2,ne,oT,ts,hT,t,h3⟩:=L;have a1:s.heap.FunFrames (PySem.W.hideAll s.heap (aj a (some T) (bw X.stack))) X.stack:=Cj I.stack λenv r b hb=>Ad _ (Ag _ (jP r hb));refine wpAny_setFlight_noneW (base:=PySem.W.hideAll s.heap (aj a (some T) (bw X.stack))) (l:=X.stack) (e:=a) (cls:=.ref C) (a0:=b0) (fl:=.none) (λb o e=>Ci _ e) a1
  ⟨oe,j,T,oT,ts,r,⟨hc,h0⟩,hd,h1,BB _ (Ad _ (Ar _ (by simp))),ne,hT,t,h3⟩ λh3 j1 j2 j3 j4=>?_
 have J:∀b o,s.heap.get? b=some o->(∀j,o.data≠.fields j)->∃sl,h3.get? b=some { o with slots:=sl }:=λb o e q=>⟨o.slots,j4 b o e q⟩;obtain⟨u',U,g,au,a2,a3,a4,a5,ag,al,ao,f1,f2,f3,f4,f5,f6,f7,f8⟩:=jT (tr:=some T) I hs hx new free (λT0 e=>by cases e;exact⟨n1,n2⟩) j1 j2 j3.at J;exact h h3 g (iP (tr:=some T) I hx hs u' U j1 J λp hp=>⟨(pa p hp).1,λT0 e=>by cases e;exact(pa p hp).2⟩) ⟨new,free,a5,ag,b0,f1,f2,f4,f3,f5,a2,a3,a4,al,ao,f6,f7,f8⟩
end
open PySem PySem.Spec PyProof.Rows PySem.W
open Builtin.ObjectAttr in
section
variable {w:World}{K:Frag}
open Builtin Builtin.ObjectAttr Builtin.Getset_descriptor in
end
def an7(K:Ae)(H:Hp)(a C:Addr):Prop:=∃J,H a=some (.frz J (.own 0))/\J.cls=.ref C
def pU(H:Hp)(P:Addr)(q:Str):Prop:=∃ps,H P=some (.tbl ps)/\TriplesOk ps.toList/\∀pos J,codeAmong pos ps.toList=some J->∃U oc vs t,J=.ref U/\H U=some (.frz oc (.own 0))/\oc.data=.fields vs/\vs[1]?=some (.str q t)
theorem pU.keep{P:Addr}(h:pU H P q)(e:H' P=H P)(t:∀b o u,H b=some (.frz o u)->H' b=some (.frz o u)):pU H' P q:=by obtain⟨J,h1,h2,h3⟩:=h;refine⟨J,e.trans h1,h2,λpos U z=>?_⟩;obtain⟨g,j,l,p,r,C,I⟩:=h3 pos U z;exact⟨g,j,l,p,r,t _ _ _ C,I⟩
end L2
namespace L3
open PySem L2
inductive Y where
 |non|bl (b:Bool)|int (i:Int)|str (x:Str)|ref (a:Addr)|ty (n:String)|cd (kvs:List (Str×Str))|tup (ys:List Y)|sq (ys:List Y)
inductive LO where
 |lst (ys:List Y)|dct (kvs:List (jg×Y))|ins (C:Addr) (fs:List (Str×Y))|exc (C:Addr)|tb (q:Str)
abbrev qp:=Addr->Option LO
def qf(L:qp)(a:Addr)(o:LO):qp:=λb=>if b=a then some o else L b
theorem q8{L:qp}{o:LO}:qf L a o a=some o:=by unfold qf;rw[AC rfl]
theorem qb{L:qp}{o:LO}(h:b≠a):qf L a o b=L b:=by unfold qf;rw[AF h]
theorem v3{L:qp}{o u:LO}:qf (qf L a o) a u=qf L a u:=by funext b;unfold qf;split<;>rfl
theorem km{L:qp}{o:LO}(h:L a=some o)(h':L b=none):a≠b:=by intro e;subst e;rw[h] at h';cases h'
structure G3 where
 K:Ae
 P:Program
 w:World
abbrev _root_.L2.Cx.g3(X:Cx):G3:=⟨X.K,X.prog,X.w⟩
def SqF(K:Ae)(H:Hp)(a:Addr)(xs:List V):Prop:=(∃o,H a=some (.frz o (.lst xs)))\/
 ∃(o:Obj) (eH:Array Value) (n:Nat),K.lookup a=some o/\o.cls=.type "list" /\ o.dict=none/\o.data=.seq eH n/\eH.size<=sizeLine/\zp xs eH.toList
theorem SqF.sq{K:Ae}(h:SqF K H a xs):wu K H a xs:=by
 rcases h with⟨o,h⟩|h
 ·exact .inl (.inr ⟨o,h⟩)
 ·exact .inr h
mutual
def RV(G:G3)(H:Hp):Y->V->Prop
 |.non,v=>v=.non
 |.bl b,v=>v=.bl b
 |.int i,v=>v=.int i
 |.str x,v=>v=.str x
 |.ref a,v=>v=.ref a
 |.ty n,v=>v=.ty n
 |.cd kvs,v=>∃a,v=.ref a/\KD G.K G.P G.w a (kvs.map λp=>(Sum.inr p.1,V.str p.2))
 |.tup ys,v=>∃a xs,v=.ref a/\cZ G.K H a xs/\xr G H ys xs
 |.sq ys,v=>∃a xs,v=.ref a/\SqF G.K H a xs/\xr G H ys xs
def xr(G:G3)(H:Hp):List Y->List V->Prop
 |[],xs=>xs=[]
 |y::ys,xs=>∃x J,xs=x::J/\RV G H y x/\xr G H ys J
end
def Imm:HO->Bool
 |.tup _=>true
 |.frz _ _=>true
 |_=>false
def je(H H':Hp):Prop:=∀a u,Imm u=true->H a=some u->H' a=some u
theorem je.refl(H:Hp):je H H:=λ_ _ _ h=>h
abbrev DP:=@je.refl
theorem je.trans{H1 H2:Hp}(a:je H H1)(b:je H1 H2):je H H2:=λc u i h=>b c u i (a c u i h)
theorem je.new{p:Addr}{o:HO}(h:H p=none):je H (upd H p o):=λ_ _ _ q=>by rw[qr (zr q h)];exact q
abbrev DQ:=@je.new
theorem je.lst{p:Addr}{o:HO}(h:H p=some (.lst zs)):je H (upd H p o):=λa u i q=>by rw[qr ?_];exact q;rintro rfl;rw[h] at q;cases q;cases i
abbrev EC:=@je.lst
theorem cZ.ts{K:Ae}(h:cZ K H a xs)(t:je H H'):cZ K H' a xs:=by
 rcases h with(h|⟨o,h⟩)|h
 ·exact .inl (.inl (t _ _ rfl h))
 ·exact .inl (.inr ⟨o,t _ _ rfl h⟩)
 ·exact .inr h
theorem SqF.ts{K:Ae}(h:SqF K H a xs)(t:je H H'):SqF K H' a xs:=by
 rcases h with⟨o,h⟩|h
 ·exact .inl ⟨o,t _ _ rfl h⟩
 ·exact .inr h
mutual
theorem RV.ts{G:G3}{H H':Hp}(t:je H H'):∀{y:Y} {v:V},RV G H y v->RV G H' y v
 |.non,_,h=>h
 |.bl _,_,h=>h
 |.int _,_,h=>h
 |.str _,_,h=>h
 |.ref _,_,h=>h
 |.ty _,_,h=>h
 |.cd _,_,h=>h
 |.tup _,_,⟨a,J,e,s,r⟩=>⟨a,J,e,cZ.ts s t,xr.ts t r⟩
 |.sq _,_,⟨a,J,e,s,r⟩=>⟨a,J,e,s.ts t,xr.ts t r⟩
theorem xr.ts{G:G3}{H H':Hp}(t:je H H'):∀{ys:List Y} {xs:List V},xr G H ys xs->xr G H' ys xs
 |[],_,h=>h
 |_::_,_,⟨x,J,e,r,s⟩=>⟨x,J,e,RV.ts t r,xr.ts t s⟩
end
theorem xr.length{G:G3}{H:Hp}:∀{ys:List Y} {xs:List V},xr G H ys xs->ys.length=xs.length
 |[],_,h=>by cases h;rfl
 |_::_,_,⟨x,J,e,_,s⟩=>by subst e;simp[xr.length s]
theorem xr.get{G:G3}{H:Hp}:∀{ys:List Y} {xs:List V} {i:Nat} {y:Y},xr G H ys xs->ys[i]?=some y->∃x,xs[i]?=some x/\RV G H y x
 |[],_,_,_,_,h=>by simp at h
 |_::_,_,0,_,⟨x,J,e,r,_⟩,h=>by subst e;simp at h;subst h;exact⟨x,rfl,r⟩
 |_::_,_,i+1,_,⟨x,J,e,_,s⟩,h=>by subst e;obtain⟨U,q,r⟩:=xr.get (i:=i) s (by simpa using h);exact⟨U,by simpa using q,r⟩
theorem xr.app{G:G3}{H:Hp}:∀{ys zs:List Y} {xs us:List V},xr G H ys xs->xr G H zs us->xr G H (ys++zs) (xs++us)
 |[],_,_,_,h,q=>by cases h;exact q
 |_::_,_,_,_,⟨x,J,e,r,s⟩,q=>by subst e;exact⟨x,J++_,rfl,r,xr.app s q⟩
theorem xr.one{G:G3}{y:Y}{x:V}(r:RV G H y x):xr G H [y] [x]:=⟨x,[],rfl,r,rfl⟩
theorem xr.take{G:G3}{H:Hp}:∀{ys:List Y} {xs:List V} (n:Nat),xr G H ys xs->xr G H (ys.take n) (xs.take n)
 |[],_,n,h=>by cases h;simp[xr]
 |_::_,_,0,_=>by simp[xr]
 |_::_,_,n+1,⟨x,J,e,r,s⟩=>by subst e;exact⟨x,J.take n,rfl,r,xr.take n s⟩
theorem xr.drop{G:G3}{H:Hp}:∀{ys:List Y} {xs:List V} (n:Nat),xr G H ys xs->xr G H (ys.drop n) (xs.drop n)
 |[],_,n,h=>by cases h;simp[xr]
 |_::_,_,0,h=>h
 |_::_,_,n+1,⟨x,J,e,r,s⟩=>by subst e;exact xr.drop n s
theorem xr.setY{G:G3}{H:Hp}{y:Y}{x:V}(r:RV G H y x):∀{ys:List Y} {xs:List V} (i:Nat),xr G H ys xs->xr G H (ys.set i y) (xs.set i x)
 |[],_,_,h=>by cases h;simp[xr]
 |_::_,_,0,⟨U,J,e,_,s⟩=>by subst e;exact⟨x,J,rfl,r,s⟩
 |_::_,_,i+1,⟨U,J,e,q,s⟩=>by subst e;exact⟨U,J.set i x,rfl,q,xr.setY r i s⟩
theorem xr.dropLast{G:G3}{ys:List Y}(h:xr G H ys xs):xr G H ys.dropLast xs.dropLast:=by rw[List.dropLast_eq_take,List.dropLast_eq_take,h.length];exact h.take _
theorem xr.eraseIdx{G:G3}{H:Hp}:∀{ys:List Y} {xs:List V} (n:Nat),xr G H ys xs->xr G H (ys.eraseIdx n) (xs.eraseIdx n)
 |[],_,n,h=>by cases h;simp[xr]
 |_::_,_,0,⟨x,J,e,r,s⟩=>by subst e;exact s
 |_::_,_,n+1,⟨x,J,e,r,s⟩=>by subst e;exact⟨x,J.eraseIdx n,rfl,r,xr.eraseIdx n s⟩
def RO(G:G3)(H:Hp)(a:Addr):LO->Prop
 |.lst ys=>∃xs,H a=some (.lst xs)/\xr G H ys xs
 |.dct kvs=>∃xs,H a=some (.dK xs)/\Paired (λ(p:jg×Y) (q:jg×V)=>p.1=q.1/\RV G H p.2 q.2) kvs xs
 |.ins C fs=>∃dx xs,H a=some (.ins C dx xs)/\Paired (λ(p:Str×Y) (q:Str×V)=>p.1=q.1/\RV G H p.2 q.2) fs xs
 |.exc C=>an7 G.K H a C
 |.tb q=>pU H a q
def j5(G:G3)(H:Hp)(L:qp):Prop:=∀a o,L a=some o->RO G H a o
theorem RO.ex{G:G3} :∀{o:LO},RO G H a o->∃u,H a=some u
 |.lst _,⟨_,h,_⟩=>⟨_,h⟩
 |.dct _,⟨_,h,_⟩=>⟨_,h⟩
 |.ins _ _,⟨_,_,h,_⟩=>⟨_,h⟩
 |.exc _,⟨_,h,_⟩=>⟨_,h⟩
 |.tb _,⟨_,h,_⟩=>⟨_,h⟩
theorem j5.none{G:G3}{L:qp}(h:j5 G H L){p:Addr}(J:H p=none):L p=none:=by cases e:L p with|none=>rfl|some o=>obtain⟨u,q⟩:=(h p o e).ex;rw[J] at q;cases q
theorem RO.keep{G:G3}(t:je H H')(e:H' a=H a):∀{o:LO},RO G H a o->RO G H' a o
 |.lst _,⟨J,h,r⟩=>⟨J,e.trans h,r.ts t⟩
 |.dct _,⟨J,h,r⟩=>⟨J,e.trans h,DS r λ_ _ ⟨a,b⟩=>⟨a,b.ts t⟩⟩
 |.ins _ _,⟨U,J,h,r⟩=>⟨U,J,e.trans h,DS r λ_ _ ⟨a,b⟩=>⟨a,b.ts t⟩⟩
 |.exc _,⟨o,h,c⟩=>⟨o,e.trans h,c⟩
 |.tb _,h=>pU.keep h e λb o u z=>t b _ rfl z
theorem j5.skip{G:G3}{L:qp}(h:j5 G H L){p:Addr}{o:HO}(J:H p=.none):j5 G (upd H p o) L:=λa u e=>by obtain⟨x,q⟩:=(h a u e).ex;exact(h a u e).keep (DQ J) (qr (zr q J))
theorem j5.newL{G:G3}{L:qp}(h:j5 G H L){p:Addr}{ys:List Y}(J:H p=.none)(r:xr G H ys xs):j5 G (upd H p (.lst xs)) (qf L p (.lst ys)):=λa u e=>by
 by_cases c:a=p
 ·subst c;rw[q8] at e;cases e;exact⟨xs,zg,r.ts (DQ J)⟩
 ·rw[qb c] at e;exact(h a u e).keep (DQ J) (qr c)
theorem j5.setL{G:G3}{L:qp}(h:j5 G H L){p:Addr}{ys:List Y}(J:H p=some (.lst zs))(r:xr G H ys xs):j5 G (upd H p (.lst xs)) (qf L p (.lst ys)):=λa u e=>by
 by_cases c:a=p
 ·subst c;rw[q8] at e;cases e;exact⟨xs,zg,r.ts (EC J)⟩
 ·rw[qb c] at e;exact(h a u e).keep (EC J) (qr c)
def qg(L L':qp):Prop:=∀a o,L a=some o->L' a=some o
theorem qg.refl(L:qp):qg L L:=λ_ _ h=>h
abbrev DO:=@qg.refl
theorem qg.trans{L L1 L2:qp}(a:qg L L1)(b:qg L1 L2):qg L L2:=λc o h=>b c o (a c o h)
theorem qg.new{L:qp}{p:Addr}{o:LO}(h:L p=none):qg L (qf L p o):=λa u e=>by rw[qb (km e h)];exact e
abbrev By:=@qg.new
theorem j5.sub{G:G3}{L L':qp}(h:j5 G H L')(s:qg L L'):j5 G H L:=λa o e=>h a o (s a o e)
abbrev jq:=List (Option Y)
structure xw(G:G3)(H:Hp)(σ:St)(τ:jq):Prop where
 len:σ.length=τ.length
 get:∀(i:Nat) y,τ[i]?=some (some y)->∃v,σ[i]?=some (some v)/\RV G H y v
theorem xw.ts{G:G3}{τ:jq}(h:xw G H σ τ)(t:je H H'):xw G H' σ τ:=
 ⟨h.len,λi y e=>let ⟨v,a,b⟩:=h.get i y e;⟨v,a,b.ts t⟩⟩
theorem xw.set{G:G3}{τ:jq}(h:xw G H σ τ){y:Y}(r:RV G H y v):xw G H (σ.set i (some v)) (τ.set i (some y)):=by
 refine⟨by simp[h.len],λj z e=>?_⟩;by_cases c:i=j
 ·subst c;have J:i<τ.length:=by
   by_cases q:i<τ.length
   ·exact q
   ·rw[BZ (by simp;omega)] at e;cases e
  rw[BR J] at e;cases e;exact⟨v,BR (by rw[h.len];exact J),r⟩
 ·rw[Bu c] at e ⊢;exact h.get j z e
theorem xw.more{G:G3}{τ:jq}(h:xw G H σ τ)(n:Nat):xw G H (σ++List.replicate n none) (τ++List.replicate n none):=by
 refine⟨by simp[h.len],λj z e=>?_⟩;by_cases c:j<τ.length
 ·rw[AH c] at e;rw[AH (by rw[h.len];exact c)];exact h.get j z e
 ·rw[Ay (by omega),CK] at e;split at e<;>cases e
def xH:jq->Nat->Option Y
 |[],_=>none
 |o::_,0=>o
 |_::r,i+1=>xH r i
theorem oy:∀(τ:jq) (i:Nat) {y:Y},xH τ i=some y->τ[i]?=some (some y)
 |[],_,_,h=>by cases h
 |o::_,0,_,h=>by simp[xH] at h;simp[h]
 |_::r,i+1,_,h=>by simp only[CL];exact oy r i h
abbrev YK:=Y->qp->Prop
abbrev xz:=jq->qp->YK->Prop
abbrev iH:=jq->qp->(Bool->qp->Prop)->Prop
abbrev fA:=jq->qp->(List Y->qp->Prop)->Prop
structure ke where
 nx:jq->qp->Prop
 rt:YK
 bk:jq->qp->Prop:=λ_ _=>False
 ct:jq->qp->Prop:=λ_ _=>False
abbrev kn:=ke->jq->qp->Prop
abbrev m9:=Y->jq->qp->(jq->qp->Prop)->Prop
abbrev sG:=List Y->jq->qp->(jq->qp->Prop)->Prop
abbrev TI3:=jq->qp->(List Y->(qp->Prop)->qp->Prop)->Prop
abbrev mf:=Y->Y->qp->YK->Prop
def qJ(G:G3)(H:Hp)(J:YK)(Q:VK):Prop:=∀v H' y L',je H H'->j5 G H' L'->RV G H' y v->J y L'->Q v H'
def yE(G:G3)(H:Hp)(J:Bool->qp->Prop)(Q:Bool->Hp->Prop):Prop:=∀b H' L',je H H'->j5 G H' L'->J b L'->Q b H'
def an8(G:G3)(H:Hp)(J:List Y->qp->Prop)(Q:List V->Hp->Prop):Prop:=∀vs H' ys L',je H H'->j5 G H' L'->xr G H' ys vs->J ys L'->Q vs H'
def mv(G:G3)(H:Hp)(J:jq->qp->Prop)(Q:St->Hp->Prop):Prop:=∀σ H' τ L',je H H'->xw G H' σ τ->j5 G H' L'->J τ L'->Q σ H'
theorem qJ.ts{G:G3}{J:YK}{Q:VK}(h:qJ G H J Q)(t:je H H'):qJ G H' J Q:=λv U y g j=>h v U y g (t.trans j)
theorem yE.ts{G:G3}{J:Bool->qp->Prop}{Q:Bool->Hp->Prop}(h:yE G H J Q)(t:je H H'):yE G H' J Q:=λv U g j=>h v U g (t.trans j)
theorem mv.ts{G:G3}{J:jq->qp->Prop}{Q:St->Hp->Prop}(h:mv G H J Q)(t:je H H'):mv G H' J Q:=λv U y g j=>h v U y g (t.trans j)
structure u6(G:G3)(H:Hp)(D3:ke)(D:pW):Prop where
 nx:mv G H D3.nx D.nx
 rt:qJ G H D3.rt D.rt
 bk:mv G H D3.bk D.bk
 ct:mv G H D3.ct D.ct
theorem u6.ts{G:G3}{D3:ke}{D:pW}(h:u6 G H D3 D)(t:je H H'):u6 G H' D3 D:=⟨h.nx.ts t,h.rt.ts t,h.bk.ts t,h.ct.ts t⟩
def qF(G:G3)(t:xz):TE:=λσ H Q=>∃τ L J,xw G H σ τ/\j5 G H L/\t τ L J/\qJ G H J Q
def upT(G:G3)(t:iH):TT:=λσ H Q=>∃τ L J,xw G H σ τ/\j5 G H L/\t τ L J/\yE G H J Q
def upA(G:G3)(t:fA):TA:=λσ H Q=>∃τ L J,xw G H σ τ/\j5 G H L/\t τ L J/\an8 G H J Q
def upS(G:G3)(t:kn):L2.TS:=λD σ H=>∃τ L D3,xw G H σ τ/\j5 G H L/\t D3 τ L/\u6 G H D3 D
def upG(G:G3)(g:m9):TG:=λv σ H Q=>∃y τ L J,RV G H y v/\xw G H σ τ/\j5 G H L/\g y τ L J/\mv G H J Q
def apo(G:G3)(g:sG):TGs:=λvs σ H Q=>∃ys τ L J,xr G H ys vs/\xw G H σ τ/\j5 G H L/\g ys τ L J/\mv G H J Q
structure fQ(G:G3)(H₀:Hp)(J:It)(ys:List Y)(keep:qp->Prop):Prop where
 go:∀i H L,je H₀ H->j5 G H L->keep L->i<ys.length->J.go i H
 yld:∀i H L x H' y,je H₀ H->j5 G H L->keep L->ys[i]?=some y->J.yld i H x H'->je H H'/\j5 G H' L/\RV G H' y x
 stop:∀H L,je H₀ H->j5 G H L->keep L->J.stop ys.length H
def upI(G:G3)(wi:TI3):TI:=λσ H R=>∃τ L U,xw G H σ τ/\j5 G H L/\wi τ L U/\∀J H' ys keep L',je H H'->j5 G H' L'->fQ G H' J ys keep->U ys keep L'->R J H'
def eV(G:G3)(g:mf):R2:=λx y H Q=>∃x3 J L U,RV G H x3 x/\RV G H J y/\j5 G H L/\g x3 J L U/\qJ G H U Q
def upL(G:G3)(U:List Y->qp->YK->Prop):List V->Hp->VK->Prop:=λxs H Q=>∃ys L J,xr G H ys xs/\j5 G H L/\U ys L J/\qJ G H J Q
def upU(G:G3)(U:Y->qp->YK->Prop):V->Hp->VK->Prop:=λx H Q=>∃y L J,RV G H y x/\j5 G H L/\U y L J/\qJ G H J Q
theorem PE.imp{t u:TE}(h:PE X e t)(q:∀σ H Q,u σ H Q->t σ H Q):PE X e u:=λJ s σ H Q I z=>h J s σ H Q I (q σ H Q z)
abbrev EK:=@PE.imp
theorem PE.imq{G:G3}{t:TE}{u:xz}(h:PE X e t)(q:∀σ H Q τ L J,xw G H σ τ->j5 G H L->u τ L J->qJ G H J Q->t σ H Q):PE X e (qF G u):=EK h λσ H Q ⟨τ,L,J,a,b,c,d⟩=>q σ H Q τ L J a b c d
abbrev DR:=@PE.imq
theorem PT.imp{t u:TT}(h:PT X e t)(q:∀σ H Q,u σ H Q->t σ H Q):PT X e u:=λJ s σ H Q I z=>h J s σ H Q I (q σ H Q z)
theorem PT.imq{G:G3}{t:TT}{u:iH}(h:PT X e t)(q:∀σ H Q τ L J,xw G H σ τ->j5 G H L->u τ L J->yE G H J Q->t σ H Q):PT X e (upT G u):=PT.imp h λσ H Q ⟨τ,L,J,a,b,c,d⟩=>q σ H Q τ L J a b c d
theorem PW.imp{t u:TT}(h:PW X e t)(q:∀σ H Q,u σ H Q->t σ H Q):PW X e u:=λU J s σ H Q I z=>h U J s σ H Q I (q σ H Q z)
theorem PW.imq{G:G3}{t:TT}{u:iH}(h:PW X e t)(q:∀σ H Q τ L J,xw G H σ τ->j5 G H L->u τ L J->yE G H J Q->t σ H Q):PW X e (upT G u):=PW.imp h λσ H Q ⟨τ,L,J,a,b,c,d⟩=>q σ H Q τ L J a b c d
theorem PA.imp{e:List Expr}{t u:TA}(h:PA X e t)(q:∀σ H Q,u σ H Q->t σ H Q):PA X e u:=λpos J s σ H Q I z=>h pos J s σ H Q I (q σ H Q z)
theorem PA.imq{G:G3}{e:List Expr}{t:TA}{u:fA}(h:PA X e t)(q:∀σ H Q τ L J,xw G H σ τ->j5 G H L->u τ L J->an8 G H J Q->t σ H Q):PA X e (upA G u):=PA.imp h λσ H Q ⟨τ,L,J,a,b,c,d⟩=>q σ H Q τ L J a b c d
theorem PS.imp{e:Stmt}{t u:L2.TS}(h:PS X e t)(q:∀D σ H,u D σ H->t D σ H):PS X e u:=λJ s σ H Q I z=>h J s σ H Q I (q _ σ H z)
theorem PS.imq{G:G3}{e:Stmt}{t:L2.TS}{u:kn}(h:PS X e t)(q:∀D σ H τ L D3,xw G H σ τ->j5 G H L->u D3 τ L->u6 G H D3 D->t D σ H):PS X e (upS G u):=PS.imp h λD σ H ⟨τ,L,D3,a,b,c,d⟩=>q D σ H τ L D3 a b c d
abbrev DX:=@PS.imq
theorem fZ.imp{e:List Stmt}{t u:L2.TS}(h:fZ X e t)(q:∀D σ H,u D σ H->t D σ H):fZ X e u:=λJ s σ H Q I z=>h J s σ H Q I (q _ σ H z)
theorem fZ.imq{G:G3}{e:List Stmt}{t:L2.TS}{u:kn}(h:fZ X e t)(q:∀D σ H τ L D3,xw G H σ τ->j5 G H L->u D3 τ L->u6 G H D3 D->t D σ H):fZ X e (upS G u):=fZ.imp h λD σ H ⟨τ,L,D3,a,b,c,d⟩=>q D σ H τ L D3 a b c d
theorem PF.imp{e:List Expr}{t u:TT}(h:PF X e t)(q:∀σ H Q,u σ H Q->t σ H Q):PF X e u:=λJ s σ H Q I z=>h J s σ H Q I (q σ H Q z)
end L3
variable {g:L3.m9}{y:L3.Y}{D:L3.ke}{tb te ti to:L3.xz}{kvs:List (L2.jg×L3.Y)}{ys:List L3.Y}{L L' L0 L1:L3.qp}{G:L3.G3}{τ:L3.jq}{gs:L3.sG}{tA:L3.iH}
namespace L3
open PySem L2
def wn(b:Bool)(A B:Prop):Prop:=match b with
 |true=>A
 |false=>B
theorem aei{b:Bool}{A B:Prop}(h:b=true->A)(k:b=false->B):wn b A B:=by cases b with|true=>exact h rfl|false=>exact k rfl
theorem aK{b:Bool}{A B:Prop}(e:b=true)(h:A):wn b A B:=by rw[e];exact h
theorem jd{b:Bool}{A B:Prop}(e:b=false)(h:B):wn b A B:=by rw[e];exact h
theorem v9{p:Prop} [Decidable p]{A B:Prop}(h:p->A)(k:¬p->B):wn (decide p) A B:=by
 by_cases c:p
 ·rw[AD c];exact h c
 ·rw[Au c];exact k c
def nb(neg b:Bool):Bool:=match neg with
 |true=>!b
 |false=>b
def qa(i:Nat)(τ:jq)(L:qp)(Q:YK):Prop:=match xH τ i with
 |some y=>Q y L
 |none=>False
def yC(y:Y)(_:jq)(L:qp)(Q:YK):Prop:=Q y L
def zh(r:mf)(ta tb:xz)(τ:jq)(L:qp)(Q:YK):Prop:=ta τ L λx L1=>tb τ L1 λy L2=>r x y L2 Q
def yUn(r:Y->qp->YK->Prop)(ta:xz)(τ:jq)(L:qp)(Q:YK):Prop:=ta τ L λx L1=>r x L1 Q
def yI(C:Int->Int->Prop)(g:Int->Int->Y)(x y:Y)(L:qp)(Q:YK):Prop:=match x,y with
 |.int i,.int j=>C i j/\Q (g i j) L
 |_,_=>False
def yI0(g:Int->Int->Y)(x y:Y)(L:qp)(Q:YK):Prop:=match x,y with
 |.int i,.int j=>Q (g i j) L
 |_,_=>False
def acd(x:Y)(L:qp)(Q:YK):Prop:=match x with
 |.int i=>Q (.int (-i)) L
 |_=>False
def cU(L:qp):Y->Option (List Y)
 |.tup ys=>some ys
 |.sq ys=>some ys
 |.ref a=>match L a with
  |some (.lst ys)=>some ys
  |_=>none
 |_=>none
@[irreducible] def dQ (L:qp) (a:Addr) (k:List Y->Prop):Prop:=match L a with
 |some (.lst ys)=>k ys
 |_=>False
theorem vd{k:List Y->Prop}(h:dQ L a k):∃ys,L a=some (.lst ys)/\k ys:=by
 unfold dQ at h;split at h
 ·rename_i ys e;exact⟨ys,e,h⟩
 ·exact h.elim
theorem qx{k:List Y->Prop}(e:L a=some (.lst ys))(h:k ys):dQ L a k:=by unfold dQ;rw[e];exact h
def eY(L:qp)(x:Y)(k:List Y->Prop):Prop:=match x with
 |.tup ys=>k ys
 |.sq ys=>k ys
 |.ref a=>dQ L a k
 |_=>False
theorem aM(h:L a=some (.lst ys)):cU L (.ref a)=some ys:=by show(match L a with|some (.lst ys)=>some ys|_=>none)=some ys;rw[h]
theorem kq{x:Y}{k:List Y->Prop}(h:eY L x k):∃ys,cU L x=some ys/\k ys:=by
 cases x with
 |tup ys=>exact⟨ys,rfl,h⟩
 |sq ys=>exact⟨ys,rfl,h⟩
 |ref a=>obtain⟨ys,e,q⟩:=vd h;exact⟨ys,aM e,q⟩
 |_=>exact h.elim
theorem oU(h:cU L (.ref a)=some ys):L a=some (.lst ys):=by
 have J:(match L a with|some (.lst ys)=>some ys|_=>none)=some ys:=h;split at J
 ·rename_i e;cases J;exact e
 ·cases J
theorem ah5{x:Y}{k:List Y->Prop}(e:cU L x=some ys)(h:k ys):eY L x k:=by cases x with|tup J=>cases e;exact h|sq J=>cases e;exact h|ref a=>exact qx (oU e) h|_=>cases e
theorem qc{k:List Y->Prop}(e:L a=some (.lst ys))(h:k ys):eY L (.ref a) k:=ah5 (aM e) h
def kw(x y:Y)(L:qp)(Q:YK):Prop:=match x,y with
 |.int i,.int j=>Q (.int (i+j)) L
 |.str a,.str b=>a.length+b.length<=sizeLine/\Q (.str (a++b)) L
 |.ref a,.ref b=>∃ys zs,L a=some (.lst ys)/\L b=some (.lst zs)/\ys.length+zs.length<=sizeLine/\∀p,L p=none->Q (.ref p) (qf L p (.lst (ys++zs)))
 |_,_=>False
def vP(L:qp)(Q:α->qp->Prop):Option α->Prop
 |some v=>Q v L
 |none=>False
def ko(kvs:List (jg×Y))(k:jg):Option Y:=(kvs.find? λp=>decide (p.1=k)).map (·.2)
@[irreducible] def pi (L:qp) (a:Addr) (k:List (jg×Y)->Prop):Prop:=match L a with
 |some (.dct kvs)=>k kvs
 |_=>False
theorem eF{k:List (jg×Y)->Prop}(h:pi L a k):∃kvs,L a=some (.dct kvs)/\k kvs:=by
 unfold pi at h;split at h
 ·rename_i J e;exact⟨J,e,h⟩
 ·exact h.elim
theorem zy{k:List (jg×Y)->Prop}(e:L a=some (.dct kvs))(h:k kvs):pi L a k:=by unfold pi;rw[e];exact h
def af(x y:Y)(L:qp)(Q:YK):Prop:=match x,y with
 |.str z,.int i=>z.length<=sizeLine/\vP L (λc L=>Q (.str ⟨#[c]⟩) L) (fO z.cps.toList i)
 |.cd kvs,.str k=>vP L (λs L=>Q (.str s) L) (kvs.lookup k)
 |.ref a,.str k=>pi L a λkvs=>vP L Q (ko kvs (.inr k))
 |x,.int i=>eY L x λys=>vP L Q (fO ys i)
 |_,_=>False
def lW(xs:List Y)(L:qp)(Q:YK):Prop:=match xs with
 |[.str z]=>z.length<=sizeLine/\Q (.int z.length) L
 |[x]=>eY L x λys=>Q (.int ys.length) L
 |_=>False
def agl(xs:List Y)(L:qp)(Q:YK):Prop:=match xs with
 |[.int i,.int j]=>Q (.int (max i j)) L
 |_=>False
def ajr(xs:List Y)(L:qp)(Q:YK):Prop:=match xs with
 |[.int i,.int j]=>Q (.int (min i j)) L
 |_=>False
inductive qK where
 |non|bool|int|str|tuple|list|dict
def qK.nm:qK->String
 |.non => "NoneType"
 |.bool => "bool"
 |.int => "int"
 |.str => "str"
 |.tuple => "tuple"
 |.list => "list"
 |.dict => "dict"
def tyY(L:qp):Y->Option qK
 |.non=>some .non
 |.bl _=>some .bool
 |.int _=>some .int
 |.str _=>some .str
 |.tup _=>some .tuple
 |.sq _=>some .list
 |.ref a=>match L a with
  |some (.lst _)=>some .list
  |some (.dct _)=>some .dict
  |_=>none
 |_=>none
theorem tyL(h:L a=some (.lst ys)):tyY L (.ref a)=some .list:=by show(match L a with|some (.lst _)=>some qK.list|some (.dct _)=>some .dict|_=>none)=some .list;rw[h]
def ac4:qK->qK->Bool
 |.bool,.int=>true
 |.bool,.bool=>true
 |.int,.int=>true
 |.str,.str=>true
 |.tuple,.tuple=>true
 |.list,.list=>true
 |.dict,.dict=>true
 |.non,.non=>true
 |_,_=>false
@[irreducible] def tyK (L:qp) (a:Addr) (k:qK->Prop):Prop:=match tyY L (.ref a) with
 |some T=>k T
 |none=>False
theorem af9{k:qK->Prop}(h:tyK L a k):∃T,tyY L (.ref a)=some T/\k T:=by
 unfold tyK at h;split at h
 ·rename_i T e;exact⟨T,e,h⟩
 ·exact h.elim
theorem eW{k:qK->Prop}(e:L a=some (.lst ys))(h:k .list):tyK L a k:=by unfold tyK;rw[tyL e];exact h
def aob(L:qp)(x:Y)(k:qK->Prop):Prop:=match x with
 |.non=>k .non
 |.bl _=>k .bool
 |.int _=>k .int
 |.str _=>k .str
 |.tup _=>k .tuple
 |.sq _=>k .list
 |.ref a=>tyK L a k
 |_=>False
theorem acg{x:Y}{k:qK->Prop}(h:aob L x k):∃T,tyY L x=some T/\k T:=by cases x with|ref a=>exact af9 h|ty n=>exact h.elim|cd k=>exact h.elim|_=>exact⟨_,rfl,h⟩
def ae(S:qK)(te:xz)(τ:jq)(L:qp)(Q:YK):Prop:=te τ L λx L1=>aob L1 x λT=>Q (.bl (ac4 T S)) L1
def fC:Y->Bool
 |.non=>true
 |.bl _=>true
 |.int _=>true
 |.str _=>true
 |_=>false
def fb:Y->V
 |.non=>.non
 |.bl b=>.bl b
 |.int i=>.int i
 |.str x=>.str x
 |_=>.ty "?"
theorem RV.flat :∀{y:Y} {v:V},fC y=true->RV G H y v->v=fb y
 |.non,_,_,h=>h
 |.bl _,_,_,h=>h
 |.int _,_,_,h=>h
 |.str _,_,_,h=>h
theorem gd:∀{y:Y},fC y=true->am (fb y)=true
 |.non,_=>rfl
 |.bl _,_=>rfl
 |.int _,_=>rfl
 |.str _,_=>rfl
theorem xr.flat :∀{ys:List Y} {xs:List V},ys.all fC=true->xr G H ys xs->xs=ys.map fb
 |[],_,_,h=>h
 |y::ys,_,f,⟨x,J,e,r,s⟩=>by rw[Dr,A2] at f;rw[e,r.flat f.1,s.flat f.2];rfl
def tI:Y->Bool
 |.ref _=>true
 |.sq _=>true
 |_=>false
def jj(L:qp):Nat->Y->Da->Prop
 |0,y,d=>fC y=true/\d=.s (fb y)
 |n+1,y,d=>(fC y=true/\d=.s (fb y))\/(∃ys ds,y=.tup ys/\d=.tup ds/\Paired (jj L n) ys ds)\/(∃ys ds,tI y=true/\d=.lst ds/\cU L y=some ys/\Paired (jj L n) ys ds)
def yS:Y->Bool
 |.ref _=>true
 |.tup _=>true
 |.sq _=>true
 |_=>false
def uA(neg:Bool)(x y:Y)(L:qp)(Q:YK):Prop:=match x,y with
 |.int i,.int j=>Q (.bl (nb neg (decide (i=j)))) L
 |.str i,.str j=>Q (.bl (nb neg (decide (i=j)))) L
 |.bl i,.bl j=>Q (.bl (nb neg (decide (i=j)))) L
 |x,y=>yS x=true/\yS y=true/\∃n m d e,n<=128/\jj L n x d/\jj L m y e/\Q (.bl (nb neg (Da.eq d e))) L
def dR(neg:Bool)(ta:xz)(τ:jq)(L:qp)(Q:YK):Prop:=ta τ L λx L1=>match x with
 |.non=>Q (.bl (!neg)) L1
 |_=>Q (.bl neg) L1
def yB(t:xz)(τ:jq)(L:qp)(Q:Bool->qp->Prop):Prop:=t τ L λx L1=>match x with
 |.bl c=>Q c L1
 |_=>False
def r9(t u:iH)(τ:jq)(L:qp)(Q:Bool->qp->Prop):Prop:=t τ L λc L1=>wn c (u τ L1 Q) (Q false L1)
def pX(t u:iH)(τ:jq)(L:qp)(Q:Bool->qp->Prop):Prop:=t τ L λc L1=>wn c (Q true L1) (u τ L1 Q)
def jL(t:iH)(τ:jq)(L:qp)(Q:Bool->qp->Prop):Prop:=t τ L λc L1=>Q (!c) L1
def vL(ta tb:xz)(τ:jq)(L:qp)(Q:YK):Prop:=ta τ L λx L1=>match x with
 |.bl c=>wn c (tb τ L1 Q) (Q (.bl false) L1)
 |_=>False
def ahx(ta:xz)(τ:jq)(L:qp)(Q:YK):Prop:=ta τ L λx L1=>match x with
 |.bl c=>Q (.bl (!c)) L1
 |_=>False
def yIf(t:iH)(ta tb:xz)(τ:jq)(L:qp)(Q:YK):Prop:=t τ L λc L1=>wn c (ta τ L1 Q) (tb τ L1 Q)
def zb(_:jq)(L:qp)(Q:List Y->qp->Prop):Prop:=Q [] L
def qe(ta:xz)(tr:fA)(τ:jq)(L:qp)(Q:List Y->qp->Prop):Prop:=ta τ L λx L1=>tr τ L1 λxs L2=>Q (x::xs) L2
def ku(t:fA)(τ:jq)(L:qp)(Q:YK):Prop:=t τ L λys L1=>match Nat.ble ys.length 1000 with
 |true=>Q (.tup ys) L1
 |false=>False
def x0(t:fA)(τ:jq)(L:qp)(Q:YK):Prop:=t τ L λys L1=>match Nat.ble ys.length 1000 with
 |true=>∀p,L1 p=none->Q (.ref p) (qf L1 p (.lst ys))
 |false=>False
def gq(r:List Y->qp->YK->Prop)(t:fA)(τ:jq)(L:qp)(Q:YK):Prop:=t τ L λvs L1=>r vs L1 Q
abbrev TO3:=jq->qp->(Option Int->qp->Prop)->Prop
def aE(_:jq)(L:qp)(Q:Option Int->qp->Prop):Prop:=Q none L
def aB(t:xz)(τ:jq)(L:qp)(Q:Option Int->qp->Prop):Prop:=t τ L λx L1=>match x with
 |.int i=>Q (some i) L1
 |_=>False
def mz(xs:List Y)(lo hi:Option Int):List Y:=(xs.drop (HT.sIx xs.length 0 lo)).take (HT.sIx xs.length xs.length hi-HT.sIx xs.length 0 lo)
def ao8(x:Y)(lo hi:Option Int)(L:qp)(Q:YK):Prop:=match x with
 |.ref a=>dQ L a λys=>∀p,L p=none->Q (.ref p) (qf L p (.lst (mz ys lo hi)))
 |.sq ys=>∀p,L p=none->Q (.ref p) (qf L p (.lst (mz ys lo hi)))
 |_=>False
def tU(r:Y->Option Int->Option Int->qp->YK->Prop)(te:xz)(tl th:TO3)(τ:jq)(L:qp)(Q:YK):Prop:=te τ L λx L1=>tl τ L1 λl L2=>th τ L2 λu L3=>r x l u L3 Q
def qo(t u:kn)(D:ke)(τ:jq)(L:qp):Prop:=t { D with nx:=u D } τ L
def zq(D:ke)(τ:jq)(L:qp):Prop:=D.nx τ L
def ahd(D:ke)(τ:jq)(L:qp):Prop:=D.ct τ L
def jy(te:xz)(D:ke)(τ:jq)(L:qp):Prop:=te τ L λ_ L1=>D.nx τ L1
def zu(te:xz)(D:ke)(τ:jq)(L:qp):Prop:=te τ L D.rt
def abp(D:ke)(_:jq)(L:qp):Prop:=D.rt .non L
def jl(c:iH)(t u:kn)(D:ke)(τ:jq)(L:qp):Prop:=c τ L λb L1=>wn b (t D τ L1) (u D τ L1)
def zn(te:xz)(g:m9)(D:ke)(τ:jq)(L:qp):Prop:=te τ L λx L1=>g x τ L1 D.nx
def fW:jq->Nat->Y->jq
 |[],_,_=>[]
 |_::r,0,y=>some y::r
 |o::r,i+1,y=>o::fW r i y
theorem bU:∀(τ:jq) (i:Nat) (y:Y),fW τ i y=τ.set i (some y)
 |[],_,_=>rfl
 |_::_,0,_=>rfl
 |o::r,i+1,y=>by rw[fW,bU r i y];rfl
def qh(i:Nat)(y:Y)(τ:jq)(L:qp)(Q:jq->qp->Prop):Prop:=Q (fW τ i y) L
def bK(ys:List Y)(τ:jq)(L:qp)(Q:jq->qp->Prop):Prop:=match ys with
 |[]=>Q τ L
 |_=>False
def jm(t:m9)(u:sG)(ys:List Y)(τ:jq)(L:qp)(Q:jq->qp->Prop):Prop:=match ys with
 |[]=>False
 |y::r=>t y τ L λJ L'=>u r J L' Q
def bV(n:Nat)(t:sG)(y:Y)(τ:jq)(L:qp)(Q:jq->qp->Prop):Prop:=match y with
 |.tup ys=>match ys.length==n with
  |true=>t ys τ L Q
  |false=>False
 |_=>False
def ad3(i j:Nat)(ta:fA)(D:ke)(τ:jq)(L:qp):Prop:=ta τ L λvs L1=>match vs with
 |[v,w]=>D.nx (fW (fW τ i v) j w) L1
 |_=>False
def fq(W:α->qp->Prop)(x:α)(L:qp):Prop:=∃L',qg L' L/\W x L'
theorem frg{W:α->qp->Prop}{x:α}(h:W x L):fq W x L:=⟨L,DO L,h⟩
def hW(c:iH)(tb:kn)(D:ke)(τ:jq)(L:qp):Prop:=∃W:Nat->jq->qp->Prop,(∃m,W m τ L)/\∀m τ L,W m τ L->
 c τ L λb L1=>wn b (∃N:jq->qp->Prop,(∀J L',N J L'->∃U,U<m/\W U J L')/\tb { D with nx:=fq N,ct:=fq N,bk:=D.nx } τ L1) (D.nx τ L1)
@[irreducible] def uf (ys:List Y) (keep:qp->Prop) (g:m9) (tb:kn) (D:ke) (τ:jq) (L1:qp):Prop:=∃W:Nat->jq->qp->Prop,W 0 τ L1/\(∀i τ L,W i τ L->keep L)/\
 (∀i y τ L,ys[i]?=some y->W i τ L->g y τ L λJ L2=>tb { D with nx:=fq (W (i+1)),ct:=fq (W (i+1)),bk:=D.nx } J L2)/\∀τ L,W ys.length τ L->D.nx τ L
theorem xi{keep:qp->Prop}{tb:kn}(h:∃W:Nat->jq->qp->Prop,W 0 τ L1/\(∀i τ L,W i τ L->keep L)/\
 (∀i y τ L,ys[i]?=some y->W i τ L->g y τ L λJ L2=>tb { D with nx:=fq (W (i+1)),ct:=fq (W (i+1)),bk:=D.nx } J L2)/\∀τ L,W ys.length τ L->D.nx τ L):uf ys keep g tb D τ L1:=by unfold uf;exact h
theorem ab0{keep:qp->Prop}{tb:kn}(h:uf ys keep g tb D τ L1):∃W:Nat->jq->qp->Prop,W 0 τ L1/\(∀i τ L,W i τ L->keep L)/\
 (∀i y τ L,ys[i]?=some y->W i τ L->g y τ L λJ L2=>tb { D with nx:=fq (W (i+1)),ct:=fq (W (i+1)),bk:=D.nx } J L2)/\∀τ L,W ys.length τ L->D.nx τ L:=by unfold uf at h;exact h
def ay(wi:TI3)(g:m9)(tb:kn)(D:ke)(τ:jq)(L:qp):Prop:=wi τ L λys keep L1=>uf ys keep g tb D τ L1
@[irreducible] def qA (L:qp) (a:Addr) (R:List Y->(qp->Prop)->qp->Prop):Prop:=match L a with
 |some (.lst ys)=>R ys (λL=>L a=some (.lst ys)) L
 |_=>False
theorem xc{R:List Y->(qp->Prop)->qp->Prop}(h:L a=some (.lst ys))(q:∀keep:qp->Prop,(∀L',L' a=L a->keep L')->R ys keep L):qA L a R:=by unfold qA;rw[h];exact q _ λL' J=>J.trans h
theorem lw{R:List Y->(qp->Prop)->qp->Prop}(h:qA L a R):∃ys keep,cU L (.ref a)=some ys/\keep L/\(∀L',keep L'->cU L' (.ref a)=some ys)/\R ys keep L:=by
 unfold qA at h;split at h
 ·rename_i ys e;exact⟨ys,_,aM e,e,λL' J=>aM J,h⟩
 ·exact h.elim
def vv(tl:xz)(τ:jq)(L:qp)(R:List Y->(qp->Prop)->qp->Prop):Prop:=tl τ L λx L1=>match x with
 |.ref a=>qA L1 a R
 |.sq ys=>R ys (λ_=>True) L1
 |_=>False
def wV(tl:xz)(τ:jq)(L:qp)(R:List Y->(qp->Prop)->qp->Prop):Prop:=tl τ L λx L1=>match x with
 |.tup ys=>R ys (λ_=>True) L1
 |_=>False
def aq(lo:Int)(n:Nat):List Y:=(List.range n).map λk=>.int (lo+(k:Nat))
def iU(ta:fA)(τ:jq)(L:qp)(R:List Y->(qp->Prop)->qp->Prop):Prop:=ta τ L λvs L1=>match vs with
 |[.int j]=>(-(2 ^ 62)<=j/\j<2 ^ 62)/\R (aq 0 j.toNat) (λ_=>True) L1
 |_=>False
def agp(_:jq)(L:qp)(Q:Bool->qp->Prop):Prop:=Q true L
@[irreducible] def lcK (ys:List Y) (keep:qp->Prop) (n:Nat) (g:m9) (tc:iH) (te:xz) (τ:jq) (L1:qp) (Q:YK):Prop:=ys.length<sizeLine/\∃W:Nat->List Y->qp->Prop,W 0 [] L1/\(∀i zs L,W i zs L->keep L)/\
 (∀i y zs L,ys[i]?=some y->W i zs L->g y (τ++List.replicate n none) L λJ L2=>tc J L2 λb L3=>wn b (te J L3 λz U=>fq (W (i+1)) (zs++[z]) U) (fq (W (i+1)) zs L3))/\
 ∀zs L,W ys.length zs L->∀p,L p=none->Q (.ref p) (qf L p (.lst zs))
theorem adl{keep:qp->Prop}{tc:iH}{Q:YK}(h:ys.length<sizeLine/\∃W:Nat->List Y->qp->Prop,W 0 [] L1/\(∀i zs L,W i zs L->keep L)/\
 (∀i y zs L,ys[i]?=some y->W i zs L->g y (τ++List.replicate n none) L λJ L2=>tc J L2 λb L3=>wn b (te J L3 λz U=>fq (W (i+1)) (zs++[z]) U) (fq (W (i+1)) zs L3))/\
 ∀zs L,W ys.length zs L->∀p,L p=none->Q (.ref p) (qf L p (.lst zs))):lcK ys keep n g tc te τ L1 Q:=by unfold lcK;exact h
theorem aes{keep:qp->Prop}{tc:iH}{Q:YK}(h:lcK ys keep n g tc te τ L1 Q):ys.length<sizeLine/\∃W:Nat->List Y->qp->Prop,W 0 [] L1/\(∀i zs L,W i zs L->keep L)/\
 (∀i y zs L,ys[i]?=some y->W i zs L->g y (τ++List.replicate n none) L λJ L2=>tc J L2 λb L3=>wn b (te J L3 λz U=>fq (W (i+1)) (zs++[z]) U) (fq (W (i+1)) zs L3))/\
 ∀zs L,W ys.length zs L->∀p,L p=none->Q (.ref p) (qf L p (.lst zs)):=by unfold lcK at h;exact h
def uz(n:Nat)(wi:TI3)(g:m9)(tc:iH)(te:xz)(τ:jq)(L:qp)(Q:YK):Prop:=wi τ L λys keep L1=>lcK ys keep n g tc te τ L1 Q
abbrev jz:=List Y->qp->YK->Prop
def za(sp:jz)(t:fA)(τ:jq)(L:qp)(Q:YK):Prop:=t τ L λys L1=>sp ys L1 Q
def jf(x:Y)(vs:List Y)(L:qp)(Q:YK):Prop:=match x,vs with
 |.ref a,[v]=>dQ L a λys=>ys.length<sizeLine/\Q .non (qf L a (.lst (ys++[v])))
 |_,_=>False
def aW(x:Y)(vs:List Y)(L:qp)(Q:YK):Prop:=match x,vs with
 |.ref a,[.ref b]=>dQ L a λys=>dQ L b λzs=>ys.length+zs.length<=sizeLine/\Q .non (qf L a (.lst (ys++zs)))
 |_,_=>False
def u9(x:Y)(vs:List Y)(L:qp)(Q:YK):Prop:=match x,vs with
 |.ref a,[]=>dQ L a λys=>vP L (λv L=>Q v (qf L a (.lst ys.dropLast))) (ys[ys.length-1]?)
 |_,_=>False
theorem kj.imp{f:Value->Value->Sem Value}{r U:R2}(h:kj X f r)(q:∀x y H Q,U x y H Q->r x y H Q):kj X f U:=λJ s g H x y v u Q I j l z=>h J s g H x y v u Q I j l (q x y H Q z)
theorem kj.imq{f:Value->Value->Sem Value}{r:R2}{u:mf}(h:kj X f r)(q:∀x y H Q x3 J L U,RV G H x3 x->RV G H J y->j5 G H L->u x3 J L U->qJ G H U Q->r x y H Q):kj X f (eV G u):=kj.imp h λx y H Q ⟨x3,J,L,U,a,b,c,d,e⟩=>q x y H Q x3 J L U a b c d e
abbrev EF:=@kj.imq
theorem UnR.imp{f:Value->Sem Value}{r U:V->Hp->VK->Prop}(h:UnR X f r)(q:∀x H Q,U x H Q->r x H Q):UnR X f U:=λJ s g H x v Q I j z=>h J s g H x v Q I j (q x H Q z)
theorem jx.imp{f:Value}{r U:List V->Hp->VK->Prop}(h:jx X f r)(q:∀x H Q,U x H Q->r x H Q):jx X f U:=λJ s g H x v Q I j z=>h J s g H x v Q I j (q x H Q z)
theorem jx.imq{f:Value}{r:List V->Hp->VK->Prop}{u:List Y->qp->YK->Prop}(h:jx X f r)(q:∀xs H Q ys L J,xr G H ys xs->j5 G H L->u ys L J->qJ G H J Q->r xs H Q):jx X f (upL G u):=jx.imp h λxs H Q ⟨ys,L,J,a,b,c,d⟩=>q xs H Q ys L J a b c d
abbrev EG:=@jx.imq
theorem IxR.imp{r U:R2}(h:IxR X r)(q:∀x y H Q,U x y H Q->r x y H Q):IxR X U:=λvalue slice J s g H x y v u Q I j l z=>h value slice J s g H x y v u Q I j l (q x y H Q z)
theorem hZ.imp{id:String}{r U:V->List V->Hp->VK->Prop}(h:hZ X id r)(q:∀x xs H Q,U x xs H Q->r x xs H Q):hZ X id U:=λJ s g H x xs v j Q I l o z=>h J s g H x xs v j Q I l o (q x xs H Q z)
theorem mM(g:j5 G H L)(r:RV G H y v)(h:cU L y=some ys):∃p xs,v=.ref p/\(wu G.K H p xs\/cZ G.K H p xs)/\xr G H ys xs:=by
 cases y with
 |tup U=>
  obtain⟨a,xs,e,s,q⟩:=r;cases h;exact⟨a,xs,e,.inr s,q⟩
 |sq U=>
  obtain⟨a,xs,e,s,q⟩:=r;cases h;exact⟨a,xs,e,.inl s.sq,q⟩
 |ref a=>
  cases (show v=.ref a from r);have J:(match L a with|some (.lst ys)=>some ys|_=>none)=some ys:=h;split at J
  ·rename_i U e;cases J;obtain⟨xs,j,q⟩:=g a _ e;exact⟨a,xs,rfl,.inl (wu.of j),q⟩
  ·cases J
 |_=>cases h
theorem ai7{i:Int}(s:xr G H ys xs)(h:fO ys i=some y):∃x,fO xs i=some x/\RV G H y x:=by
 unfold fO at h ⊢;rw[<-s.length];cases e:ixN ys.length i with
 |none=>rw[e] at h;cases h
 |some j=>
  rw[e] at h;exact s.get (i:=j) h
section
variable {a b:Expr}{ta tc:xz}
abbrev QE(X:Cx)(e:Expr)(t:xz):Prop:=PE X e (qF X.g3 t)
abbrev QT(X:Cx)(e:Expr)(t:iH):Prop:=PT X e (upT X.g3 t)
abbrev QW(X:Cx)(e:Expr)(t:iH):Prop:=PW X e (upT X.g3 t)
abbrev QA(X:Cx)(es:List Expr)(t:fA):Prop:=PA X es (upA X.g3 t)
abbrev QS(X:Cx)(st:Stmt)(t:kn):Prop:=PS X st (upS X.g3 t)
abbrev mh(X:Cx)(st:List Stmt)(t:kn):Prop:=fZ X st (upS X.g3 t)
abbrev QG(X:Cx)(e:Expr)(g:m9):Prop:=PG X e (upG X.g3 g)
abbrev QGs(X:Cx)(es:List Expr)(g:sG):Prop:=PGs X es (apo X.g3 g)
abbrev QI(X:Cx)(tg it:Expr)(w:TI3):Prop:=PI X tg it (upI X.g3 w)
abbrev QF(X:Cx)(es:List Expr)(t:iH):Prop:=PF X es (upT X.g3 t)
theorem QE.of_var(h:PE X e (aj9 i)):QE X e (qa i):=DR h λl H Q o L p J U z k=>by
 unfold qa at z;split at z
 ·rename_i y g;obtain⟨v,ev,j⟩:=J.get i y (oy _ _ g);exact⟨v,ev,k v H y L (DP _) U j z⟩
 ·exact z.elim
theorem QE.of_c(h:PE X e (tC v))(q:∀H,RV X.g3 H y v):QE X e (yC y):=DR h λU H Q g L j l J z k=>k v H y L (DP _) J (q H) z
theorem qv(i:Nat)(U:X.N[i]?=some x:=by rfl)(g:Vis X.env.scope x:=by first|exact Or.inl rfl|exact Or.inr (Or.inl rfl)|exact Or.inr (Or.inr rfl))(hd:Ed x:=by decide)
 (J:Ee x:=by decide):QE X (.Name x pos) (qa i):=QE.of_var (pv i U g hd J)
theorem bx :QE X (.Constant .none j pos) (yC .non):=QE.of_c aia λ_=>rfl
theorem vj{b:Bool} :QE X (.Constant (.bool b) j pos) (yC (.bl b)):=QE.of_c an2 λ_=>rfl
theorem qj{i:Int} :QE X (.Constant (.int i) j pos) (yC (.int i)):=QE.of_c m7 λ_=>rfl
theorem j9 :QE X (.Constant (.str x) j pos) (yC (.str x)):=QE.of_c aR λ_=>rfl
theorem amf{c:Addr}(J:Gl X x)(U:X.mg x=some (.ref c))(q:∀H,RV X.g3 H y (.ref c))(hd:Ed x:=by decide):QE X (.Name x pos) (yC y):=QE.of_c (alw J U hd) q
theorem vZ{r:mf}{ta:xz}(σ:St)(H:Hp)(Q:VK):qF G (zh r ta tb) σ H Q->tOp (eV G r) (qF G ta) (qF G tb) σ H Q:=λ⟨l,L,C,o,I,z,k⟩=>
 ⟨l,L,_,o,I,z,λv H1 y T p J U z1=>⟨l,T,_,o.ts p,J,z1,λv2 H2 y2 L2 t g j z2=>⟨y,y2,L2,C,U.ts t,j,g,z2,k.ts (p.trans t)⟩⟩⟩
theorem qz{op:Operator}{r:mf}(h:kj X (binaryOp op) (eV X.g3 r))(J:QE X a ta)(U:QE X b tb):QE X (.BinOp a op b pos) (zh r ta tb):=EK (anw h J U) vZ
theorem amn{r:mf}(h:IxR X (eV X.g3 r))(J:QE X a ta)(U:QE X b tb)(g:jY b):QE X (.Subscript a b pos) (zh r ta tb):=EK (ah9 h J U g) vZ
theorem gZ{op:CmpOp}{r:mf}(h:kj X (compareOp op) (eV X.g3 r))(J:QE X a ta)(U:QE X b tb)(g:behindInMarks op b=false):QE X (.Compare a [op] [b] pos) (zh r ta tb):=EK (ah4 h J U g) vZ
theorem akt{t:xz}(σ:St)(H:Hp)(Q:Bool->Hp->Prop):upT G (yB t) σ H Q->adm (qF G t) σ H Q:=λ⟨j,L,I,l,o,z,k⟩=>
 ⟨j,L,_,l,o,z,λv p y r C J U g=>by cases y with|bl b=>exact⟨b,U,k b p r C J g⟩|_=>exact g.elim⟩
theorem ahf{t:xz}(σ:St)(H:Hp)(Q:Bool->Hp->Prop):upT G (yB t) σ H Q->L2.tB (qF G t) σ H Q:=akt σ H Q
theorem jh{op:CmpOp}{r:mf}(h:kj X (compareOp op) (eV X.g3 r))(U:QE X a ta)(g:QE X b tb)(j:behindInMarks op b=false):QT X (.Compare a [op] [b] pos) (yB (zh r ta tb)):=
 PT.imp (ah0 h U g j) λJ H Q q=>by have l:=akt J H Q q;obtain⟨o,L,p,t,C,z,k⟩:=l;exact vZ J H _ ⟨o,L,p,t,C,z,k⟩
theorem w5(h:QE X e te)(J:∀whole,isTrue e X.env whole=(do let v <-whole;standAt e.pos;holding [v] (truthy v)):=by intro _;rfl):QT X e (yB te):=PT.imp (aj0 h J) ahf
theorem OpI{f:Value->Value->Sem Value}{C:Int->Int->Prop}{g:Int->Int->V}{g3:Int->Int->Y}(h:kj X f (rI C g))(e:∀i j H,RV X.g3 H (g3 i j) (g i j)):kj X f (eV X.g3 (yI C g3)):=EF h λx y H Q U J L r l o p z k=>by
 cases U with
 |int i=>
  cases J with|int j=>exact⟨i,j,l,o,z.1,k _ H _ L (DP _) p (e i j H) z.2⟩|_=>exact z.elim
 |_=>cases J<;>exact z.elim
theorem aak{f:Value->Value->Sem Value}{g:Int->Int->V}{g3:Int->Int->Y}(h:kj X f (rI0 g))(e:∀i j H,RV X.g3 H (g3 i j) (g i j)):kj X f (eV X.g3 (yI0 g3)):=EF h λx y H Q U J L r l o p z k=>by
 cases U with
 |int i=>
  cases J with|int j=>exact⟨i,j,l,o,k _ H _ L (DP _) p (e i j H) z⟩|_=>exact z.elim
 |_=>cases J<;>exact z.elim
theorem cI:kj X (binaryOp .Sub) (eV X.g3 (yI0 λi j=>.int (i-j))):=aak ajm λ_ _ _=>rfl
theorem mC:kj X (binaryOp .Mult) (eV X.g3 (yI ac6 λi j=>.int (i*j))):=OpI aj1 λ_ _ _=>rfl
theorem aV:kj X (binaryOp .FloorDiv) (eV X.g3 (yI ajv λi j=>.int (i / j))):=OpI afu λ_ _ _=>rfl
theorem ve:kj X (binaryOp .Mod) (eV X.g3 (yI (λ_ j=>0<j) λi j=>.int (i % j))):=OpI akx λ_ _ _=>rfl
theorem ano:kj X (binaryOp .Pow) (eV X.g3 (yI ak0 λi j=>.int (i ^ j.toNat))):=OpI akg λ_ _ _=>rfl
theorem rq:kj X (compareOp .Lt) (eV X.g3 (yI0 λi j=>.bl (decide (i<j)))):=aak ang λ_ _ _=>rfl
theorem ar1:kj X (compareOp .LtE) (eV X.g3 (yI0 λi j=>.bl (decide (i<=j)))):=aak an5 λ_ _ _=>rfl
theorem uk:kj X (compareOp .Gt) (eV X.g3 (yI0 λi j=>.bl (decide (j<i)))):=aak alu λ_ _ _=>rfl
theorem aip:kj X (compareOp .GtE) (eV X.g3 (yI0 λi j=>.bl (decide (j<=i)))):=aak aoi λ_ _ _=>rfl
theorem xm:kj X (binaryOp .Add) (eV X.g3 kw):=EF ag5 λx y H Q C U L Q3 g l J z k=>by
 cases C with
 |int i=>
  cases U with|int j=>cases g;cases l;exact k _ H _ L (DP _) J (by rfl) z|_=>exact z.elim
 |str i=>
  cases U with|str j=>cases g;cases l;exact⟨z.1,k _ H _ L (DP _) J (by rfl) z.2⟩|_=>exact z.elim
 |ref a=>
  cases U with
  |ref b=>
   cases g;cases l;obtain⟨ys,zs,I,T,hz,q⟩:=z;obtain⟨xs,h1,r⟩:=J a _ I;obtain⟨us,h2,t⟩:=J b _ T;refine⟨xs,us,h1,h2,by rw[<-r.length,<-t.length];exact hz,λp o=>?_⟩;exact k _ _ _ _ (DQ o) (J.newL o (r.app t)) (by rfl) (q p (J.none o))
  |_=>exact z.elim
 |_=>cases U<;>exact z.elim
theorem sE{kvs:List (Str×Str)}{k:Str}(h:kvs.lookup k=some x):ax (kvs.map λp=>((Sum.inr p.1:jg),V.str p.2)) (Sum.inr k)=some (V.str x):=by
 induction kvs with
 |nil=>simp at h
 |cons p r J=>
  obtain⟨a,b⟩:=p;unfold ax;rw[AG,Bg];rw[Bj] at h;by_cases c:k=a
  ·subst c;simp at h;simp[h]
  ·have c1:(k==a)=false:=by simpa using c
   rw[c1] at h;have c2:decide ((Sum.inr a:jg)=Sum.inr k)=false:=Au λz=>c (El z).symm;simp only[c2];exact J h
theorem oC{xs:List (jg×V)}{k:jg}(p:Paired (λ(p:jg×Y) (q:jg×V)=>p.1=q.1/\RV G H p.2 q.2) kvs xs)(h:ko kvs k=some y):∃x,ax xs k=some x/\RV G H y x:=by
 induction p with
 |nil=>cases h
 |@cons a b _ _ r t g=>
  obtain⟨J,o⟩:=a;obtain⟨j,l⟩:=b;obtain⟨e,r⟩:=r;cases (show J=j from e);unfold ko at h;unfold ax;rw[Bg] at h ⊢;by_cases c:J=k
  ·have U:decide (J=k)=true:=AD c;simp only[U] at h ⊢;cases h;exact⟨l,rfl,r⟩
  ·have U:decide (J=k)=false:=Au c;simp only[U] at h ⊢;exact g h
theorem ann(K:Ae)(P:Program)(w:World)(hK:X.K=K:=by rfl)(hP:X.prog=P:=by rfl)(hw:X.w=w:=by rfl):IxR X (eV ⟨K,P,w⟩ af):=by
 subst hK hP hw;refine IxR.imp aod λx y H Q ⟨x3,o,L,Q3,J,r,C,z,k⟩=>?_;have seq:∀{i:Int} {x3:Y},RV X.g3 H x3 x->y=.int i->(eY L x3 λl=>vP L Q3 (fO l i))->uIx X.K X.prog X.w x y H Q:=by
  intro i x3 J ey z;subst ey;obtain⟨l,es,z⟩:=kq z;obtain⟨p,T,e,sq,rv⟩:=mM C J es;subst e;cases U:fO l i with
  |none=>rw[U] at z;exact z.elim
  |some y=>
   rw[U] at z;obtain⟨x,ex,a1⟩:=ai7 rv U;exact⟨T,x,sq,ex,k _ H _ L (DP _) C a1 z⟩
 cases x3 with
 |str s=>
  cases o with
  |int i=>
   cases J;cases r;obtain⟨z1,I⟩:=z;cases U:fO s.cps.toList i with
   |none=>rw[U] at I;exact I.elim
   |some c=>rw[U] at I;exact⟨z1,c,U,k _ H _ L (DP _) C (by rfl) I⟩
  |_=>exact z.elim
 |cd g=>
  cases o with
  |str s=>
   obtain⟨a,U,kd⟩:=J;cases U;cases r;have j:vP L (λs L=>Q3 (.str s) L) (g.lookup s):=z;cases el:g.lookup s with
   |none=>rw[el] at j;exact j.elim
   |some t=>rw[el] at j;exact⟨_,_,.inr kd,sE el,k _ H _ L (DP _) C (by rfl) j⟩
  |int i=>exact z.elim
  |_=>exact z.elim
 |ref a=>
  cases o with
  |int i=>exact seq (x3:=.ref a) J r z
  |str s=>
   cases J;cases r;obtain⟨g,e,j⟩:=eF z;obtain⟨T,e2,pr⟩:=C a _ e;cases ev:ko g (Sum.inr s) with
   |none=>rw[ev] at j;exact j.elim
   |some y=>
    rw[ev] at j;obtain⟨x,ex,J⟩:=oC pr ev;exact⟨T,x,.inl (.inl e2),ex,k _ H _ L (DP _) C J j⟩
  |_=>exact z.elim
 |tup l=>
  cases o with|int i=>exact seq (x3:=.tup l) J r z|_=>exact z.elim
 |sq l=>
  cases o with|int i=>exact seq (x3:=.sq l) J r z|_=>exact z.elim
 |_=>cases o<;>exact z.elim
theorem xr.inv1(h:xr G H [y] xs):∃x,xs=[x]/\RV G H y x:=by obtain⟨x,J,e,r,s⟩:=h;cases (show J=[] from s);exact⟨x,e,r⟩
theorem xr.inv2{U:Y}(h:xr G H [y,U] xs):∃x J,xs=[x,J]/\RV G H y x/\RV G H U J:=by obtain⟨x,g,e,r,s⟩:=h;obtain⟨J,j,l⟩:=s.inv1;exact⟨x,J,by rw[e,j],r,l⟩
theorem ajy(K:Ae)(P:Program)(w:World)(j:X.K=K:=by rfl)(l:X.prog=P:=by rfl)(hw:X.w=w:=by rfl):jx X (.builtin "len") (upL ⟨K,P,w⟩ lW):=by
 subst j l hw;refine EG zF λI H Q o L T g J z k=>?_;unfold lW at z;split at z
 ·obtain⟨x,rfl,r⟩:=g.inv1;cases r;exact⟨z.1,k _ H _ L (DP _) J (by rfl) z.2⟩
 ·rename_i y _;obtain⟨x,rfl,r⟩:=g.inv1;obtain⟨o,t,z⟩:=kq z;obtain⟨p,C,e,sq,U⟩:=mM J r t;subst e;refine⟨C,sq,?_⟩;rw[<-U.length];exact k _ H _ L (DP _) J (by rfl) z
 ·exact z.elim
theorem ala(i j:Int):(if j > i then j else i)=max i j:=by split<;>lia
theorem ak8(i j:Int):(if j<i then j else i)=min i j:=by split<;>lia
theorem ahv(hc:X.calm=true:=by rfl):jx X (.builtin "max") (upL X.g3 agl):=EG (yf hc) λo H Q p L r J U z k=>by
 unfold agl at z;split at z
 ·rename_i i j;obtain⟨x,t,rfl,g,l⟩:=J.inv2;cases g;cases l;refine⟨i,j,rfl,?_⟩;rw[ala];exact k _ H _ L (DP _) U (by rfl) z
 ·exact z.elim
theorem anm(hc:X.calm=true:=by rfl):jx X (.builtin "min") (upL X.g3 ajr):=EG (xG hc) λo H Q p L r J U z k=>by
 unfold ajr at z;split at z
 ·rename_i i j;obtain⟨x,t,rfl,g,l⟩:=J.inv2;cases g;cases l;refine⟨i,j,rfl,?_⟩;rw[ak8];exact k _ H _ L (DP _) U (by rfl) z
 ·exact z.elim
theorem wM:UnR X (unaryOp .USub) (upU X.g3 acd):=UnR.imp aju λx H Q ⟨y,L,g,J,U,z,k⟩=>by cases y with|int i=>exact⟨i,J,k _ H _ L (DP _) U (by rfl) z⟩|_=>exact z.elim
theorem wG{op:UnaryOp}{r:Y->qp->YK->Prop}(h:UnR X (unaryOp op) (upU X.g3 r))(g:QE X a ta):QE X (.UnaryOp op a pos) (yUn r ta):=DR (alv h g) λT H Q j L l o p z k=>
 ⟨j,L,_,o,p,z,λv H1 y t C J U I=>⟨y,t,l,U,J,I,k.ts C⟩⟩
end
section
variable {a b:Expr}{ta tc:xz}
theorem cL{a:Addr}(U:j5 G H L)(h:cU L (.ref a)=some ys):∃xs,wu G.K H a xs/\xr G H ys xs:=by
 have J:(match L a with|some (.lst ys)=>some ys|_=>none)=some ys:=h;split at J
 ·rename_i e;cases J;obtain⟨xs,g,q⟩:=U a _ e;exact⟨xs,wu.of g,q⟩
 ·cases J
theorem eO(J:j5 G H L)(r:RV G H y v)(U:tI y=true)(h:cU L y=some ys):∃a xs,v=.ref a/\wu G.K H a xs/\xr G H ys xs:=by
 cases y with
 |ref a=>obtain⟨xs,s,q⟩:=cL J h;exact⟨a,xs,r,s,q⟩
 |sq g=>obtain⟨a,xs,e,s,q⟩:=r;cases h;exact⟨a,xs,e,s.sq,q⟩
 |_=>cases U
theorem yZ{G:G3}{T:qK}{σ:L2.St}(I:z0 X pins σ H s)(C:j5 X.g3 H L)(r:RV X.g3 H y v)(J:zv v u)(h:tyY L y=some T)
 {c:Value} {b:Bool} (e:PySem.W.kitOne X.K (.type T.nm) c=some b) (U:∀tk,Q (.bool b) { s with toks:=tk }):
 wpAny (model X.prog X.w) A (call (.builtin "isinstance") [u,c]) Q E s:=by
 cases y with
 |non=>cases h;cases r;exact bE I J .non e U
 |bl b=>cases h;cases r;exact bE I J (.bl _) e U
 |int i=>cases h;cases r;exact bE I J (.int _) e U
 |str x=>cases h;cases r;exact bE I J (.str _) e U
 |tup ys=>
  cases h;obtain⟨a,j,rfl,sq,_⟩:=r;cases (show u=Value.ref a from J);obtain⟨l,_,⟨o,h1,h2,_⟩,_⟩:=I.tuple sq;exact Bf PySem.W.kitx_tuple I.kIn ⟨o,h1,h2⟩ e (λz=>nomatch z) U
 |sq ys=>
  cases h;obtain⟨a,j,rfl,sq,_⟩:=r;cases (show u=Value.ref a from J);obtain⟨l,_,⟨o,n,h1,h2,_⟩,_⟩:=I.list sq.sq;exact Bf Dm I.kIn ⟨o,h1,h2⟩ e (λz=>nomatch z) U
 |ref a=>
  cases (show v=.ref a from r);have g:(match L a with|some (.lst _)=>some qK.list|some (.dct _)=>some .dict|_=>none)=some T:=h;split at g
  ·rename_i ys p;cases g;obtain⟨j,t,_⟩:=C a _ p;exact bE I J (.lst t) e U
  ·rename_i a1 p;cases g;obtain⟨j,t,_⟩:=C a _ p;exact bE I J (.dK t) e U
  ·cases g
 |_=>cases h
theorem ag2(K:Ae):∀T S:qK,PySem.W.kitOne K (.type T.nm) (.type S.nm)=some (ac4 T S):=by intro T S;cases T<;>cases S<;>rfl
def ajp(G:G3)(S:qK):List V->Hp->VK->Prop:=λxs H Q=>∃y v L J T,xs=[v,.ty S.nm]/\RV G H y v/\j5 G H L/\tyY L y=some T/\J (.bl (ac4 T S)) L/\qJ G H J Q
theorem ai8(S:qK):jx X (.builtin "isinstance") (ajp X.g3 S):=by intro J s o H p t Q I r h;obtain⟨y,v,L,C,T,rfl,g,U,ty,q,k⟩:=h;obtain⟨u,c,rfl,j,l⟩:=zp.two r;cases (show c=Value.type S.nm from l);exact xj I.tk (yZ (G:=X.g3) I U g j ty (ag2 _ T S) λtk ht=>⟨.bl _,H,I.tok _,rfl,k _ H _ L (DP _) U (by rfl) q⟩)
theorem vm{J:Str}(S:qK)(C:Gl X "isinstance")(I:X.mg "isinstance"=none)(U:Gl X J)(g:X.mg J=none)(j:bootBuiltins J=some (.type S.nm))(ha:QE X a ta)
 (hn:J ≠ "__name__" := by decide) (hd:(J==("__debug__" : Str))=false:=by decide)
 (hs:starEach [a,.Name J p1] X.env=(false,eval a X.env)::starEach [.Name J p1] X.env:=by rfl) (l:starEach [.Name J p1] X.env=(false,eval (.Name J p1) X.env)::starEach [] X.env:=by rfl)
 (hp:(backTo pos (starEach [.Name J p1] X.env)).any (·.1)=false:=by rfl):
 QE X (.Call (.Name "isinstance" p) [a,.Name J p1] [] pos) (ae S ta):=by
 refine EK (rO (ai8 S) C I nU (ck ha (ck (amg U g j hn hd) hJ l) hs) (by decide) (by decide) hs hp) ?_;rintro σ H Q ⟨τ,L,Q3,rs,rl,z,k⟩;refine⟨τ,L,_,rs,rl,z,λv H1 y L1 t1 o r t=>?_⟩;obtain⟨T,et,t⟩:=acg t;exact⟨y,v,L1,Q3,T,rfl,r,o,et,t,k.ts t1⟩
def iN(neg:Bool)(x y:Y)(L:qp)(Q:YK):Prop:=eY L y λys=>fC x=true/\ys.all fC=true/\Q (.bl (nb neg (uT (fb x) (ys.map fb)))) L
theorem ame(neg:Bool){op:CmpOp}(h:kj X (compareOp op) (rIn X.K neg)):kj X (compareOp op) (eV X.g3 (iN neg)):=EF h λx y H Q J C L I j l g z k=>by
 obtain⟨U,o,f1,f2,q⟩:=kq z;obtain⟨p,T,e,sq,r⟩:=mM g l o;rw[j.flat f1];rw[r.flat f2] at sq;refine⟨p,_,e,sq,gd f1,?_,?_⟩
 ·rw[List.all_map,BC];intro y t;exact gd (BC.mp f2 y t)
 ·have:(if neg=true then !uT (fb J) (U.map fb) else uT (fb J) (U.map fb))=(nb neg (uT (fb J) (U.map fb))):=by cases neg<;>simp[nb]
  rw[this];exact k _ H _ L (DP _) g (by rfl) q
theorem aay(K:Ae)(P:Program)(w:World)(J:X.K=K:=by rfl)(U:X.prog=P:=by rfl)(hw:X.w=w:=by rfl):kj X (compareOp .In) (eV ⟨K,P,w⟩ (iN false)):=by subst J U hw;exact ame false zA
theorem pH(K:Ae)(P:Program)(w:World)(J:X.K=K:=by rfl)(U:X.prog=P:=by rfl)(hw:X.w=w:=by rfl):kj X (compareOp .NotIn) (eV ⟨K,P,w⟩ (iN true)):=by subst J U hw;exact ame true oj
theorem jj.rep{G:G3}{H:Hp}{L:qp}(l:j5 G H L):∀{n:Nat} {y:Y} {d:Da} {v:V},jj L n y d->RV G H y v->kh G.K H n v d
 |0,y,d,v,⟨f,e⟩,r=>by rw[r.flat f];exact⟨e,gd f⟩
 |n+1,y,d,v,h,r=>by
  have both:∀{g:List Y} {U:List Da} {J:List V},Paired (jj L n) g U->xr G H g J->Paired (kh G.K H n) J U:=by
   intro g U J p
   induction p generalizing J with
   |nil=>intro r;cases (show J=[] from r);exact .nil
   |cons q t o=>
    rintro⟨x,C,rfl,I,T⟩;exact .cons (jj.rep l q I) (o T)
  rcases h with⟨f,e⟩|⟨g,U,rfl,rfl,p⟩|⟨g,U,hy,rfl,es,p⟩
  ·rw[r.flat f];exact .inl ⟨e,gd f⟩
  ·obtain⟨a,J,rfl,sq,j⟩:=r;exact .inr (.inl ⟨a,J,U,rfl,rfl,sq,both p j⟩)
  ·obtain⟨a,J,rfl,sq,j⟩:=eO l r hy es;exact .inr (.inr ⟨a,J,U,rfl,rfl,sq,both p j⟩)
theorem kA(h:yS y=true)(r:RV G H y v):∃a,v=.ref a:=by
 cases y with
 |ref a=>exact⟨a,r⟩
 |tup J=>obtain⟨a,U,e,_⟩:=r;exact⟨a,e⟩
 |sq J=>obtain⟨a,U,e,_⟩:=r;exact⟨a,e⟩
 |_=>cases h
theorem sg(K:Ae)(P:Program)(w:World)(l:X.A.units+128<cLine)(o:X.K=K:=by rfl)(p:X.prog=P:=by rfl)(hw:X.w=w:=by rfl):kj X (compareOp .Eq) (eV ⟨K,P,w⟩ (uA false)):=by
 subst o p hw;refine EF (aiw l) λx y H Q C I L r U g J z k=>?_;unfold uA at z;split at z
 ·rename_i i j;cases U;cases g;refine⟨rfl,?_⟩;have:decide (V.int i=V.int j)=nb false (decide (i=j)):=by rw[Bz];simp[nb]
  rw[this];exact k _ H _ L (DP _) J (by rfl) z
 ·rename_i i j;cases U;cases g;refine⟨rfl,?_⟩;have:decide (V.str i=V.str j)=nb false (decide (i=j)):=by rw[Bz];simp[nb]
  rw[this];exact k _ H _ L (DP _) J (by rfl) z
 ·rename_i i j;cases U;cases g;refine⟨rfl,?_⟩;have:decide (V.bl i=V.bl j)=nb false (decide (i=j)):=by rw[Bz];simp[nb]
  rw[this];exact k _ H _ L (DP _) J (by rfl) z
 ·obtain⟨f1,f2,n,m,d,e,t,h1,h2,q⟩:=z;obtain⟨a,rfl⟩:=kA f1 U;obtain⟨b,rfl⟩:=kA f2 g;have q:r (.bl (Da.eq d e)) L:=q;exact⟨n,m,d,e,t,h1.rep J U,h2.rep J g,k _ H _ L (DP _) J (by rfl) q⟩
theorem am2(K:Ae)(P:Program)(w:World)(l:X.A.units+128<cLine)(o:X.K=K:=by rfl)(p:X.prog=P:=by rfl)(hw:X.w=w:=by rfl):kj X (compareOp .NotEq) (eV ⟨K,P,w⟩ (uA true)):=by
 subst o p hw;refine EF (aib l) λx y H Q C I L r U g J z k=>?_;unfold uA at z;split at z
 ·rename_i i j;cases U;cases g;refine⟨rfl,?_⟩;have:(!decide (V.int i=V.int j))=nb true (decide (i=j)):=by show _=!_;congr 1;rw[Bz];simp
  rw[this];exact k _ H _ L (DP _) J (by rfl) z
 ·rename_i i j;cases U;cases g;refine⟨rfl,?_⟩;have:(!decide (V.str i=V.str j))=nb true (decide (i=j)):=by show _=!_;congr 1;rw[Bz];simp
  rw[this];exact k _ H _ L (DP _) J (by rfl) z
 ·rename_i i j;cases U;cases g;refine⟨rfl,?_⟩;have:(!decide (V.bl i=V.bl j))=nb true (decide (i=j)):=by show _=!_;congr 1;rw[Bz];simp
  rw[this];exact k _ H _ L (DP _) J (by rfl) z
 ·obtain⟨f1,f2,n,m,d,e,t,h1,h2,q⟩:=z;obtain⟨a,rfl⟩:=kA f1 U;obtain⟨b,rfl⟩:=kA f2 g;have q:r (.bl (!Da.eq d e)) L:=q;exact⟨n,m,d,e,t,h1.rep J U,h2.rep J g,k _ H _ L (DP _) J (by rfl) q⟩
theorem RV.non_iff(r:RV G H y v):decide (v=.non)=(match y with|.non=>true|_=>false):=by
 cases y with
 |non=>cases r;rfl
 |cd J=>obtain⟨a,rfl,_⟩:=r;rfl
 |tup U=>obtain⟨a,g,rfl,_⟩:=r;rfl
 |sq U=>obtain⟨a,g,rfl,_⟩:=r;rfl
 |_=>cases r;rfl
theorem aaw(σ:L2.St)(H:Hp)(Q:VK):qF G (dR false ta) σ H Q->alt (qF G ta) σ H Q:=λ⟨g,L,C,j,l,z,k⟩=>
 ⟨g,L,_,j,l,z,λv o y p r J U t=>by dsimp only;rw[U.non_iff];cases y<;>exact k _ o _ p r J (by rfl) t⟩
theorem afy(σ:L2.St)(H:Hp)(Q:VK):qF G (dR true ta) σ H Q->ahs (qF G ta) σ H Q:=λ⟨g,L,C,j,l,z,k⟩=>
 ⟨g,L,_,j,l,z,λv o y p r J U t=>by dsimp only;rw[U.non_iff];cases y<;>exact k _ o _ p r J (by rfl) t⟩
theorem u4(h:QE X a ta):QE X (.Compare a [.Is] [.Constant .none j gb] pos) (dR false ta):=EK (ak2 (aau h)) aaw
theorem ah8{t:TE}(h:∀σ H Q,qF G te σ H Q->t σ H Q)(σ:L2.St)(H:Hp)(Q:Bool->Hp->Prop):upT G (yB te) σ H Q->L2.tB t σ H Q:=λq=>h σ H _ (ahf σ H Q q)
theorem dE(h:QE X a ta):QT X (.Compare a [.Is] [.Constant .none j gb] pos) (yB (dR false ta)):=PT.imp (ab2 (aau h)) (ah8 aaw)
theorem aey(h:QE X a ta):QT X (.Compare a [.IsNot] [.Constant .none j gb] pos) (yB (dR true ta)):=PT.imp (ab2 (ago h)) (ah8 afy)
end
section
variable {a b:Expr}{rest:List Expr}{ta tc:xz}{tB:iH}{tr:fA}
theorem eM(h:QT X a tA):QW X (.BoolOp .And [a] pos) tA:=agw h
theorem aP(h:QT X a tA):QW X (.BoolOp .Or [a] pos) tA:=ajs h
theorem fk(h:QT X a tA)(k:QW X (.BoolOp .And (b::rest) pos) tB):QW X (.BoolOp .And (a::b::rest) pos) (r9 tA tB):=PW.imq (ak4 h k) λC H Q g L p j r z k=>
 ⟨g,L,_,j,r,z,λc t l U J o=>by cases c with|true=>rw[AC rfl];exact⟨g,l,p,j.ts U,J,o,k.ts U⟩|false=>rw[AF AA];exact k _ t l U J o⟩
theorem aG(h:QT X a tA)(k:QW X (.BoolOp .Or (b::rest) pos) tB):QW X (.BoolOp .Or (a::b::rest) pos) (pX tA tB):=PW.imq (an3 h k) λC H Q g L p j r z k=>
 ⟨g,L,_,j,r,z,λc t l U J o=>by cases c with|true=>rw[AC rfl];exact k _ t l U J o|false=>rw[AF AA];exact⟨g,l,p,j.ts U,J,o,k.ts U⟩⟩
theorem aA(h:QW X a tA):QT X a tA:=PW.pt h
theorem bz(h:QT X a tA):QT X (.UnaryOp .Not a pos) (jL tA):=PT.imq (al0 h) λt H Q U L C g j z k=>
 ⟨U,L,_,g,j,z,λc l o p J r=>k _ l o p J r⟩
theorem abm{op:BoolOp}(h:QE X a ta):QE X (.BoolOp op [a] pos) ta:=ail h
theorem uU(h:QE X a ta)(k:QE X (.BoolOp .And (b::rest) pos) tb):QE X (.BoolOp .And (a::b::rest) pos) (vL ta tb):=DR (ak3 h k) λT H Q g L j p C z k=>
 ⟨g,L,_,p,C,z,λv I y U l J o r=>by
  cases y with
  |bl c=>
   refine⟨c,o,?_⟩;have t:wn c (tb g U j) (j (.bl false) U):=r;cases c with|true=>rw[AC rfl];exact⟨g,U,j,p.ts l,J,t,k.ts l⟩|false=>rw[AF AA];exact k _ I _ U l J (by rfl) t
  |_=>exact r.elim⟩
theorem ald(h:QE X a ta):QE X (.UnaryOp .Not a pos) (ahx ta):=DR (aki h) λC H Q j L I l o z k=>
 ⟨j,L,_,l,o,z,λv p y r t J U g=>by cases y with|bl c=>exact⟨c,U,k _ p _ r t J (by rfl) g⟩|_=>exact g.elim⟩
theorem fu(h:QT X c tA)(r:QE X a ta)(t:QE X b tb):QE X (.IfExp c a b pos) (yIf tA ta tb):=DR (ad8 h r t) λI H Q g L l j C z k=>
 ⟨g,L,_,j,C,z,λc T o U J p=>by cases c with|true=>rw[AC rfl];exact⟨g,o,l,j.ts U,J,p,k.ts U⟩|false=>rw[AF AA];exact⟨g,o,l,j.ts U,J,p,k.ts U⟩⟩
theorem x8:QA X [] zb:=PA.imq hJ λU H Q g L j l J z k=>k _ H _ L (DP _) J (by rfl) z
theorem vo(h:QE X e te)(C:QA X es tr)(hs:Eb e es X:=by rfl):QA X (e::es) (qe te tr):=PA.imq (ck h C hs) λσ H Q l L Q3 o I z k=>
 ⟨l,L,_,o,I,z,λv H1 y T p J U z1=>⟨l,T,_,o.ts p,J,z1,λr H2 ys L2 t g j z2=>k (v::r) H2 (y::ys) L2 (p.trans t) g ⟨v,r,rfl,U.ts t,j⟩ z2⟩⟩
theorem j7(h:QA X es tr):QE X (.Tuple es x1 pos) (ku tr):=DR (ajk h) λσ H Q o L Q3 r t z k=>
 ⟨o,L,_,r,t,z,λC H1 l I T g J U=>by
  cases e:Nat.ble l.length 1000 with
  |false=>rw[e] at U;exact U.elim
  |true=>
   rw[e] at U;have:=Bt e;refine⟨small (by rw[<-J.length];exact this),λp j=>?_⟩;exact k _ _ (.tup l) I (T.trans (DQ j)) (g.skip j) ⟨p,C,rfl,cZ.of zg,J.ts (DQ j)⟩ U⟩
theorem ze(h:QA X es tr):QE X (.List es pos) (x0 tr):=DR (ak6 h) λI H Q l L T o r z k=>
 ⟨l,L,_,o,r,z,λvs H1 t L1 C J U g=>by
  cases e:Nat.ble t.length 1000 with
  |false=>rw[e] at g;exact g.elim
  |true=>
   rw[e] at g;have:=Bt e;refine⟨small (by rw[<-U.length];exact this),λp j=>?_⟩;exact k _ _ _ _ (C.trans (DQ j)) (J.newL j U) (by rfl) (g p (J.none j))⟩
theorem wb{id:String}{r:List Y->qp->YK->Prop}(hc:jx X (.builtin id) (upL X.g3 r))(g:Gl X x)(j:X.mg x=none)(l:bootBuiltins x=some (.builtin id))(h:QA X (e::es) tr)
 (o:x ≠ "__name__" := by decide) (hd:Ed x:=by decide) (hs:Eb e es X:=by rfl) (t:Ec pos es X:=by rfl):
 QE X (.Call (.Name x p) (e::es) [] pos) (gq r tr):=DR (rO hc g j l h o hd hs t) λσ H Q C L I T rl z k=>
 ⟨C,L,_,T,rl,z,λvs H1 ys L1 t1 J U z1=>⟨ys,L1,I,U,J,z1,k.ts t1⟩⟩
def upO(G:G3)(t:TO3):TO:=λσ H Q=>∃τ L J,xw G H σ τ/\j5 G H L/\t τ L J/\∀(o:Option Int) H' L',je H H'->j5 G H' L'->J o L'->Q o H'
abbrev QO(X:Cx)(e:Option Expr)(t:TO3):Prop:=PO X e (upO X.g3 t)
theorem PO.imp{e:Option Expr}{t u:TO}(h:PO X e t)(q:∀σ H Q,u σ H Q->t σ H Q):PO X e u:=λJ s σ H Q I z=>h J s σ H Q I (q σ H Q z)
theorem PO.imq{e:Option Expr}{t:TO}{u:TO3}(h:PO X e t)(q:∀σ H Q τ L J,xw G H σ τ->j5 G H L->u τ L J->(∀(o:Option Int) H' L',je H H'->j5 G H' L'->J o L'->Q o H')->t σ H Q):PO X e (upO G u):=PO.imp h λσ H Q ⟨τ,L,J,a,b,c,d⟩=>q σ H Q τ L J a b c d
theorem qL.imp{U:V->Option Int->Option Int->Hp->VK->Prop}(h:qL X r)(q:∀x lo hi H Q,U x lo hi H Q->r x lo hi H Q):qL X U:=by intro J s g H x v j l lo hi o Q I p t pl C z;exact h J s g H x v j l lo hi o Q I p t pl C (q _ _ _ _ _ z)
theorem aX:QO X none aE:=PO.imq ae6 λU H Q g L j l J z k=>k _ H L (DP _) J z
theorem xx(h:QE X e te):QO X (some e) (aB te):=PO.imq (aee h) λC H Q j L I l o z k=>
 ⟨j,L,_,l,o,z,λv p y r t J U g=>by cases y with|int i=>exact⟨i,U,k _ p r t J g⟩|_=>exact g.elim⟩
def ag0(G:G3)(r:Y->Option Int->Option Int->qp->YK->Prop):V->Option Int->Option Int->Hp->VK->Prop:=λx lo hi H Q=>∃y L J,RV G H y x/\j5 G H L/\r y lo hi L J/\qJ G H J Q
theorem v5{lo hi:Option Expr}{tl th:TO3}{r:Y->Option Int->Option Int->qp->YK->Prop}(h:qL X (ag0 X.g3 r))(T:QE X a ta)(hl:QO X lo tl)(hh:QO X hi th):QE X (.Subscript a (.Slice lo hi none p2) pos) (tU r ta tl th):=
 DR (zV h T hl hh) λσ H Q J L Q3 U rl z k=>
 ⟨J,L,_,U,rl,z,λv H1 y L1 g j l z1=>⟨J,L1,_,U.ts g,j,z1,λo H2 L2 p t z2=>⟨J,L2,_,U.ts (g.trans p),t,z2,λo' H3 L3 I C z3=>⟨y,L3,Q3,l.ts (p.trans I),C,z3,k.ts (g.trans (p.trans I))⟩⟩⟩⟩
theorem o9(r:xr G H ys xs)(lo hi:Option Int):xr G H (mz ys lo hi) (rX xs lo hi):=by unfold mz rX;rw[r.length];exact(r.drop _).take _
theorem amd(K:Ae)(P:Program)(w:World)(o:X.K=K:=by rfl)(t:X.prog=P:=by rfl)(hw:X.w=w:=by rfl):qL X (ag0 ⟨K,P,w⟩ ao8):=by
 subst o t hw;refine qL.imp aew λx lo j H Q ⟨y,L,Q3,l,U,z,k⟩=>?_;cases y with
 |ref a=>
  obtain⟨C,I,T⟩:=vd z;obtain⟨g,sq,r⟩:=cL U (aM I);exact⟨a,g,l,sq,λp J=>k _ _ _ _ (DQ J) (U.newL J (o9 r lo j)) (by rfl) (T p (U.none J))⟩
 |sq C=>
  obtain⟨a,g,e,sf,r⟩:=l;exact⟨a,g,e,sf.sq,λp J=>k _ _ _ _ (DQ J) (U.newL J (o9 r lo j)) (by rfl) (z p (U.none J))⟩
 |_=>exact z.elim
end
section
variable {a b iter:Expr}{ta tc:xz}{tB:iH}{tr:fA}{rest kt:List Stmt}{t u:kn}
theorem z9:mh X [] zq:=fZ.imq aeo λD g H j L D3 J U z k=>k.nx _ H _ L (DP _) J U z
theorem qd(h:QS X st t):mh X [st] t:=vI h
theorem q9(h:QS X st t)(k:mh X rest u):mh X (st::rest) (qo t u):=fZ.imq (qQ h k) λD T H j L D3 l o z k=>
 ⟨j,L,{ D3 with nx:=u D3 },l,o,z,λp H1 J r C U g I=>⟨J,r,D3,U,g,I,k.ts C⟩,k.rt,k.bk,k.ct⟩
theorem rL:QS X (.Continue pos) ahd:=DX rj λD g H j L D3 J U z k=>k.ct _ H _ L (DP _) J U z
theorem zj(h:QE X e te)(hs:swapsWith e none pos.line X.env=pure false:=by rfl):QS X (.Expr e pos) (jy te):=DX (agf h hs) λD C H j L D3 U l z k=>
 ⟨j,L,_,U,l,z,λv o y p g J r t=>k.nx _ o _ p g (U.ts g) J t⟩
theorem qt(h:QE X e te):QS X (.Return (some e) pos) (zu te):=DX (aiu h) λD j H J L D3 U g z k=>⟨J,L,_,U,g,z,k.rt⟩
theorem vJ:QS X (.Return none pos) abp:=DX ae7 λD U H g L D3 j J z k=>k.rt _ H _ L (DP _) J (by rfl) z
theorem zk(h:QT X c tA)(p:mh X body t)(r:mh X kt u):QS X (.If c body kt pos) (jl tA t u):=DX (amk h p r) λD I H g L D3 j C z k=>
 ⟨g,L,_,j,C,z,λc T l U J o=>by cases c with|true=>rw[AC rfl];exact⟨g,l,D3,j.ts U,J,o,k.ts U⟩|false=>rw[AF AA];exact⟨g,l,D3,j.ts U,J,o,k.ts U⟩⟩
theorem dD(t:X.N.Nodup)(J:X.N[i]?=some x)(C:zR X.env.scope x)(h:QE X e te)(U:swapsWith e (some (.Name x gb)) pos.line X.env=pure false:=by rfl)
 (g:X.fn x=true\/X.env.scope.names.lookup x=some .local:=by first|exact .inl rfl|exact .inr rfl|assumption):QS X (.Assign [.Name x gb] e pos) (zn te (qh i)):=DX (aaa t J C h U g) λD σ H o L D3 p I z k=>
 ⟨o,L,_,p,I,z,λv T y L1 r j l z1=>k.nx _ T _ L1 r (show xw _ _ _ (fW o i y) by rw[bU];exact(p.ts r).set l) j z1⟩
theorem iM(h:QE X e te)(p:QG X tg g)(h1:swapsWithSole [tg] e pos.line X.env=pure false:=by rfl)(h2:swappedStores [tg] e X.env=pure none:=by rfl)
 (h3:(assignEach [tg] X.env).map (·.2)=[assign tg X.env]:=by rfl):QS X (.Assign [tg] e pos) (zn te g):=DX (aa6 h p h1 h2 h3) λD I H j L D3 l r z k=>
 ⟨j,L,_,l,r,z,λv T y t o J U C=>⟨y,j,t,_,U,l.ts o,J,C,k.nx.ts o⟩⟩
theorem PG.imp{t u:TG}(h:PG X e t)(q:∀v σ H Q,u v σ H Q->t v σ H Q):PG X e u:=λJ s σ H x v Q I r z=>h J s σ H x v Q I r (q _ _ _ _ z)
theorem PGs.imp{e:List Expr}{t u:TGs}(h:PGs X e t)(q:∀v σ H Q,u v σ H Q->t v σ H Q):PGs X e u:=λJ s σ H x v Q I r z=>h J s σ H x v Q I r (q _ _ _ _ z)
theorem gU(g:X.N.Nodup)(J:X.N[i]?=some x)(j:zR X.env.scope x)(U:X.fn x=true\/X.env.scope.names.lookup x=some .local:=by first|exact .inl rfl|exact .inr rfl|assumption):QG X (.Name x pos) (qh i):=
 PG.imp (vT g J j U) λv t H Q ⟨y,l,L,C,o,p,r,z,k⟩=>k _ H _ L (DP _) (show xw _ _ _ (fW l i y) by rw[bU];exact p.set o) r z
theorem kz:QGs X [] bK:=PGs.imp afg λl o H Q ⟨J,p,L,t,U,g,j,z,k⟩=>by cases J with|nil=>exact⟨U,k _ H _ L (DP _) g j z⟩|cons y r=>exact z.elim
theorem zo(h:QG X e g)(hs:QGs X es gs)(o:(assignEach (e::es) X.env).map (·.2)=assign e X.env::(assignEach es X.env).map (·.2):=by rfl):QGs X (e::es) (jm g gs):=
 PGs.imp (aae h hs o) λvs σ H Q ⟨p,t,L,C,I,T,rl,z,k⟩=>by
 cases p with
 |nil=>exact z.elim
 |cons y r=>
  obtain⟨x,xs,rfl,r1,r2⟩:=I;exact⟨x,xs,rfl,y,t,L,_,r1,T,rl,z,λa1 H1 J L1 l U j z1=>⟨r,J,L1,C,r2.ts l,U,j,z1,k.ts l⟩⟩
theorem ai{l:Nat}(hc:X.calm=true)(h:QGs X es gs)(h1:(assignEach es X.env).length=n:=by rfl)(h2:(assignEach es X.env).findIdx? (·.1)=none:=by rfl):QG X (.Tuple es l pos) (bV n gs):=
 PG.imp (ai4 hc h h1 h2) λv I H Q ⟨y,g,L,j,o,p,t,z,k⟩=>by
 cases y with
 |tup J=>
  obtain⟨a,C,rfl,sq,r⟩:=o;have U:(match J.length==n with|true=>gs J g L j|false=>False):=z;split at U
  ·rename_i e;exact⟨a,C,rfl,sq,by rw[<-r.length];exact beq_iff_eq.mp e,J,g,L,j,r,p,t,U,k⟩
  ·exact U.elim
 |_=>exact z.elim
theorem o3{y:Str}{px py pt:Pos}{U k2:Nat}{J:Pos}(hc:X.calm=true)(I:X.N.Nodup)(hi:X.N[i]?=some x)(T:X.N[j]?=some y)(g:i≠j)(lx:X.env.scope.names.lookup x=some .local)(ly:X.env.scope.names.lookup y=some .local)
 (h:QA X [a,b] tr) (h1:swappedStores [.Tuple [.Name x px,.Name y py] U pt] (.Tuple [a,b] k2 J) X.env=pure (some [x,y])) (h2:swapsWithSole [.Tuple [.Name x px,.Name y py] U pt] (.Tuple [a,b] k2 J) pos.line X.env=pure false:=by rfl):
 QS X (.Assign [.Tuple [.Name x px,.Name y py] U pt] (.Tuple [a,b] k2 J) pos) (ad3 i j tr):=DX (aky hc I hi T g lx ly h h1 h2) λD σ H r L D3 t rl z k=>
 ⟨r,L,_,t,rl,z,λvs H1 ys L1 C l o p=>by
  split at p
  ·rename_i v w;obtain⟨x',y',rfl,r1,r2⟩:=o.inv2;exact⟨x',y',rfl,k.nx _ H1 _ L1 C (show xw _ _ _ (fW (fW r i v) j w) by rw[bU,bU];exact((t.ts C).set r1).set r2) l p⟩
  ·exact p.elim⟩
theorem dc(hp:PassesOwn (model X.prog X.w) X.A X.env X.xe)(h:QT X c tA)(hb:mh X body t):QS X (.While c body [] pos) (hW tA t):=PS.imp (abg hp h hb) λD σ H ⟨τ,L,D3,rs,rl,⟨W,⟨m0,w0⟩,turn⟩,k⟩=>by
 refine⟨λm C H1=>∃U I,je H H1/\xw X.g3 H1 C U/\j5 X.g3 H1 I/\W m U I,⟨m0,τ,L,DP _,rs,rl,w0⟩,?_⟩;rintro m C H1 ⟨U,I,t1,o,a2,w1⟩;refine⟨U,I,_,o,a2,turn m U I w1,λb H2 L2 T a1 z2=>?_⟩;cases b with
 |false=>rw[AF AA];exact k.nx _ H2 _ L2 (t1.trans T) (o.ts T) a1 z2
 |true=>
  rw[AC rfl];obtain⟨N,hN,z2⟩:=z2;refine⟨λg j=>∃J l,je H j/\xw X.g3 j g J/\j5 X.g3 j l/\N J l,?_,?_⟩
  ·rintro g j ⟨J,l,t',p,r,n'⟩;obtain⟨m',hm,w'⟩:=hN J l n';exact⟨m',hm,J,l,t',p,r,w'⟩
  ·have nx:mv X.g3 H2 (fq N) (λg j=>∃J l,je H j/\xw X.g3 j g J/\j5 X.g3 j l/\N J l):=λg j J l t' p r ⟨L5,s5,n'⟩=>⟨J,L5,(t1.trans T).trans t',p,r.sub s5,n'⟩;have k2:=k.ts (t1.trans T);exact⟨U,L2,_,o.ts T,a1,z2,nx,k2.rt,k2.nx,nx⟩
theorem k7{wi:TI3}(hp:PassesOwn (model X.prog X.w) X.A X.env X.xe)(hc:X.calm=true)(hi:QI X tg iter wi)(hg:QG X tg g)(hb:mh X body t)(hs:∀x,foldedSetIterable iter X.env x=pure x:=by intro _;rfl):
 QS X (.For tg iter body [] pos) (ay wi g t):=DX (ak9 hp hc hi hg hb hs) λD σ H τ L D3 rs rl z k=>by
 refine⟨τ,L,_,rs,rl,z,λJ H1 C keep L1 t1 a3 yl zz=>?_⟩;obtain⟨W,w0,wk,turn,xg⟩:=ab0 zz;refine⟨λi m j l=>∃U p,i+m=C.length/\je H1 l/\xw X.g3 l j U/\j5 X.g3 l p/\W i U p,⟨C.length,τ,L1,by omega,DP _,rs.ts t1,a3,w0⟩,?_⟩;rintro i m au H2 ⟨o,L2,av,t2,a1,r,w2⟩;by_cases a2:i<C.length
 ·refine .inr ⟨yl.go i H2 L2 t2 r (wk i o L2 w2) a2,λj l=>∃U p,je H1 l/\xw X.g3 l j U/\j5 X.g3 l p/\W (i+1) U p,?_,?_⟩
  ·rintro j l ⟨U,p,t',I,T,w'⟩;exact⟨m-1,by omega,U,p,by omega,t',I,T,w'⟩
  ·intro x H3 y3;have ey:C[i]?=some C[i]:=Af a2;obtain⟨t3,a4,a5⟩:=yl.yld i H2 L2 x H3 _ t2 r (wk i o L2 w2) ey y3;refine⟨C[i],o,L2,_,a5,a1.ts t3,a4,turn i _ o L2 ey w2,λaL H4 ag L4 t4 al ao z4=>?_⟩;have nx:mv X.g3 H4 (fq (W (i+1))) (λj l=>∃U p,je H1 l/\xw X.g3 l j U/\j5 X.g3 l p/\W (i+1) U p):=λj l U p t' I T ⟨L5,s5,n'⟩=>⟨U,L5,((t2.trans t3).trans t4).trans t',I,T.sub s5,n'⟩;have k2:=k.ts (t1.trans ((t2.trans t3).trans t4));exact⟨ag,L4,_,al,ao,z4,nx,k2.rt,k2.nx,nx⟩
 ·have e:i=C.length:=by omega
  subst e;exact .inl ⟨yl.stop H2 L2 t2 r (wk _ o L2 w2),k.nx _ H2 _ L2 (t1.trans t2) a1 r (xg o L2 w2)⟩
theorem PI.imp{t u:TI}(h:PI X tg e t)(q:∀σ H Q,u σ H Q->t σ H Q):PI X tg e u:=λJ s σ H Q I z=>h J s σ H Q I (q σ H Q z)
theorem PI.imq{t:TI}{u:TI3}(h:PI X tg e t)(q:∀σ H R τ L U,xw G H σ τ->j5 G H L->u τ L U->(∀J H' ys keep L',je H H'->j5 G H' L'->fQ G H' J ys keep->U ys keep L'->R J H')->t σ H R):PI X tg e (upI G u):=PI.imp h λσ H R ⟨τ,L,U,a,b,c,d⟩=>q σ H R τ L U a b c d
theorem ie{a:Addr}{keep:qp->Prop}(h:∀H L,je H₀ H->j5 G H L->keep L->∃xs,wu G.K H a xs/\xr G H ys xs):fQ G H₀ (Itl G.K a) ys keep where
 go:=λi H L t J U g=>by
  obtain⟨xs,sq,r⟩:=h H L t J U;have:i<xs.length:=by rw[<-r.length];exact g
  exact⟨xs,xs[i],sq,Af this⟩
 yld:=λi H L x p y t J U j ⟨e,f⟩=>by subst e;obtain⟨xs,sq,r⟩:=h _ L t J U;obtain⟨C,l,o⟩:=r.get j;have:=f xs sq;rw[l] at this;cases this;exact⟨DP _,J,o⟩
 stop:=λH L t J U=>by obtain⟨xs,sq,r⟩:=h H L t J U;exact⟨xs,sq,by rw[r.length];exact Al _⟩
theorem vz(h:QE X e te):QI X tg e (vv te):=PI.imq (ah2 h) λσ H R τ L R3 rs o z k=>by
 refine⟨τ,L,_,rs,o,z,λv j y p I J g C=>?_⟩;cases y with
 |ref a=>
  obtain⟨l,keep,es,kp,hk,z2⟩:=lw C;have T:∀H L,je j H->j5 X.g3 H L->keep L->∃U,wu X.K H a U/\xr X.g3 H l U:=λH L _ o e=>cL o (hk L e);obtain⟨U,sq,_⟩:=T j p (DP _) J kp;exact⟨a,g,⟨U,sq⟩,k _ j l _ p I J (ie T) z2⟩
 |sq l=>
  obtain⟨a,U,e,sf,r⟩:=g;exact⟨a,e,⟨U,sf.sq⟩,k _ j l (λ_=>True) p I J (ie λH L t _ _=>⟨U,(sf.ts t).sq,r.ts t⟩) C⟩
 |_=>exact C.elim
theorem rR(lo:Int)(n:Nat):fQ G H₀ (Itr lo n) (aq lo n) (λ_=>True) where
 go:=λi H L t U j l=>show i<n by simpa[aq] using l
 yld:=λi H L x o y t U j g ⟨e,f⟩=>by
  subst e f;refine⟨DP _,U,?_⟩;unfold aq at g;rw[An] at g;obtain⟨z,J,e⟩:=Ao.mp g;have:=C5 (i:=i) (n:=n) (by
   by_cases c:i<n
   ·exact c
   ·rw[BZ (by simp;omega)] at J;cases J)
  rw[this] at J;cases J;subst e;rfl
 stop:=λH L t U j=>by simp[aq,Itr]
theorem eU(l:Gl X "range")(o:X.mg "range"=none)(h:QA X [a] tr)(hs:starEach [a] X.env=[(false,eval a X.env)]:=by rfl):QI X tg (.Call (.Name "range" p) [a] [] pos) (iU tr):=
 PI.imq (yL l o h hs) λσ H R t L R3 C I z k=>by
 refine⟨t,L,_,C,I,z,λvs T ys L1 t1 U g J=>?_⟩;split at J
 ·rename_i j;obtain⟨x,rfl,r⟩:=g.inv1;cases r;exact⟨j,rfl,J.1.1,J.1.2,k _ T _ _ L1 t1 U (rR 0 _) J.2⟩
 ·exact J.elim
end
section
variable {T:List Str}{iter:Expr}{wi:TI3}{tr:fA}
theorem uV:QF X [] agp:=PF.imp al4 λU H Q ⟨g,L,j,l,J,z,k⟩=>k _ H L (DP _) J z
theorem fY(h:QT X c tA):QF X [c] tA:=alc h
theorem ai2{g2:TG}(a1:∀v σ H Q,upG G g v σ H Q->g2 v σ H Q)(σ:L2.St)(H:Hp)(Q:VK):qF G (uz n wi g tA te) σ H Q->tLC n (upI G wi) g2 (upT G tA) (qF G te) σ H Q:=λ⟨τ,L,Q3,rs,rl,z,k⟩=>by
 refine⟨τ,L,_,rs,rl,z,λJ H1 o keep L1 t1 a2 yl zz=>?_⟩;obtain⟨hz,W,w0,wk,turn,xg⟩:=aes zz;refine⟨λi m vs H'=>∃U L',i+m=o.length/\U.length<=i/\je H1 H'/\xr G H' U vs/\j5 G H' L'/\W i U L',⟨o.length,[],L1,by exact Nat.add_comm _ _,Al _,DP _,rfl,a2,w0⟩,?_⟩;rintro i m vs H2 ⟨U,L2,ao,au,p,j,l,r⟩;by_cases t:i<o.length
 ·refine .inr ⟨yl.go i H2 L2 p l (wk i U L2 r) t,by rw[<-j.length];lia,?_⟩;intro x H3 y3;have ey:o[i]?=some o[i]:=Af t;obtain⟨t3,a3,a4⟩:=yl.yld i H2 L2 x H3 _ p l (wk i U L2 r) ey y3;refine a1 _ _ _ _ ⟨o[i],_,L2,_,a4,(rs.ts ((t1.trans p).trans t3)).more n,a3,turn i _ U L2 ey r,λav H4 C L4 t4 I a5 z4=>?_⟩;refine⟨C,L4,_,I,a5,z4,λb H5 L5 t5 T z5=>?_⟩;cases b with
  |true=>
   rw[AC rfl];refine⟨C,L5,_,I.ts t5,T,z5,λv6 H6 y6 L6 t6 ag al ⟨L7,s7,z6⟩=>?_⟩;have tt:=((t3.trans t4).trans t5).trans t6;exact⟨m-1,by omega,U++[y6],L7,by lia,by rw[Ac,BH];exact ajd,p.trans tt,(j.ts tt).app (xr.one al),ag.sub s7,z6⟩
  |false=>
   rw[AF AA];have tt:=(t3.trans t4).trans t5;obtain⟨L7,s7,z6⟩:=z5;exact⟨m-1,by lia,U,L7,by lia,by exact ar8,p.trans tt,j.ts tt,T.sub s7,z6⟩
 ·have ei:i=o.length:=by lia
  subst ei;refine .inl ⟨yl.stop H2 L2 p l (wk _ U L2 r),by rw[<-j.length];lia,λD hD=>?_⟩;exact k _ _ _ _ ((t1.trans p).trans (DQ hD)) (l.newL hD j) (by rfl) (xg U L2 r D (l.none hD))
structure TGx(X:Cx)(scope:Scope)(T:List Str)(target:Expr)(g:m9):Prop where
 ex:∃g2:TG,(∀C fp s₀ H₀,PG (X.comp scope T C fp s₀ H₀) target g2)/\rC g2 X.N.length T.length/\∀v σ H Q,upG X.g3 g v σ H Q->g2 v σ H Q
theorem aeg(i:Nat)(v:V)(σ:L2.St)(H:Hp)(Q:L2.St->Hp->Prop):upG G (qh i) v σ H Q->l8 i v σ H Q:=λ⟨y,J,L,l,U,g,j,z,k⟩=>
 k _ H _ L (DP _) (show xw _ _ _ (fW J i y) by rw[bU];exact g.set U) j z
theorem wf(U:(X.N++[x]).Nodup)(g:∀C fp s₀ H₀,zR (X.comp scope [x] C fp s₀ H₀).env.scope x)(J:∀C fp s₀ H₀,(X.comp scope [x] C fp s₀ H₀).env.scope.names.lookup x=some .local):TGx X scope [x] (.Name x p) (qh X.N.length):=
 ⟨l8 X.N.length,λC fp s₀ H₀=>vT (X:=X.comp scope [x] C fp s₀ H₀) U (by show(X.N++[x])[X.N.length]?=some x;simp) (g C fp s₀ H₀) (.inr (J C fp s₀ H₀)),um _,aeg _⟩
theorem lU(T:List Str)(S:jo X scope)(hc:X.calm=true)(hi:QI X target iter wi)(J:TGx X scope T target g)
 (U:∀C fp s₀ H₀,QF (X.comp scope T C fp s₀ H₀) ni tA) (j:∀C fp s₀ H₀,QE (X.comp scope T C fp s₀ H₀) nr te)
 (hs:∀x,foldedSetIterable iter X.env x=pure x:=by intro _;rfl):QE X (.ListComp nr [⟨target,iter,ni,0⟩] scope pos) (uz T.length wi g tA te):=by
 obtain⟨g2,h1,h2,h3⟩:=J.ex;exact EK (am9 T S hc hi h1 h2 U j hs) (ai2 h3)
theorem mZ(T:List Str){px p:Pos}(hN:X.N.Nodup)(J:X.N[i]?=some x)(hx:zR X.env.scope x)(S:jo X scope)(hc:X.calm=true)(hi:QI X target iter wi)
 (hg:TGx X scope T target g) (hf:∀C fp s₀ H₀,QF (X.comp scope T C fp s₀ H₀) ni tA) (he:∀C fp s₀ H₀,QE (X.comp scope T C fp s₀ H₀) nr te)
 (U:swapsWith (.ListComp nr [⟨target,iter,ni,0⟩] scope p) (some (.Name x px)) pos.line X.env=pure true:=by rfl)
 (j:X.fn x=true\/X.env.scope.names.lookup x=some .local:=by first|exact .inl rfl|exact .inr rfl|assumption)
 (hs:∀x,foldedSetIterable iter X.env x=pure x:=by intro _;rfl):QS X (.Assign [.Name x px] (.ListComp nr [⟨target,iter,ni,0⟩] scope p) pos) (zn (uz T.length wi g tA te) (qh i)):=by
 obtain⟨g2,h1,h2,h3⟩:=hg.ex;refine PS.imp (acw (tc:=upT X.g3 tA) (te:=qF X.g3 te) T hN J hx S hc hi h1 h2 hf he U j hs) λD σ H ⟨r,L,D3,t,rl,z,k⟩=>?_;refine ai2 h3 σ H _ ⟨r,L,_,t,rl,z,λv H1 y L1 I l o z1=>?_⟩;exact k.nx _ H1 _ L1 I (show xw _ _ _ (fW r i y) by rw[bU];exact(t.ts I).set o) l z1
def dn(G:G3)(sp:jz):Sp:=λvs H Q _=>∃ys L J,xr G H ys vs/\j5 G H L/\sp ys L J/\qJ G H J Q
abbrev aji(P:Program)(w:World)(K:Ae)(mg:Str->Option Value)(base:Heap)(k:Nat)(x:Str)(ps:List Str)(sp:jz):Prop:=zO P w K mg base k x ps (dn ⟨K,P,w⟩ sp)
abbrev Fn3(P:Program)(w:World)(K:Ae)(mg:Str->Option Value)(base:Heap)(k:Nat)(f:Addr)(fd:FuncData)(ps:List Str)(sp:jz):Prop:=bO P w K mg base CX0 k f fd ps (dn ⟨K,P,w⟩ sp)
theorem aqn{k:Nat}{sp:jz}(c:aji X.prog X.w X.K X.mg X.base k x ps sp)(l:we k X.A)(o:Gl X x)(r:QA X (e::es) tr)(J:Ed x:=by decide)
 (t:Eb e es X:=by rfl) (U:Ec pos es X:=by rfl):QE X (.Call (.Name x p) (e::es) [] pos) (za sp tr):=
 DR (aq1 c l o r J t U) λσ H Q C L I T rl z k=>
 ⟨C,L,_,T,rl,z,λvs H1 ys L1 t1 g j z1=>⟨ys,L1,I,by rw[A1];exact j,g,z1,k.ts t1⟩⟩
def df(Q:YK):YK:=λy L=>∃L2,qg L2 L/\Q y L2
def eE(N:List Str)(ys:List Y):jq:=ys.map some++List.replicate (N.length-ys.length) none
theorem i3{N:List Str}{vs:List V}(r:xr G H ys vs):xw G H (L2.start N vs) (eE N ys):=by unfold L2.start eE;rw[<-r.length];refine xw.more ⟨by simp[r.length],λi y e=>?_⟩ _;rw[An] at e;obtain⟨j,J,U⟩:=Ao.mp e;cases U;obtain⟨x,ex,g⟩:=r.get J;exact⟨x,by rw[An,ex];rfl,g⟩
theorem ok3{P:Program}{w:World}{K:Ae}{N:List Str}{k:Nat}{sp:jz}(F:Fun K x eK st f fd)(S:wr N ps (qu st))(len:∀ys L Q,sp ys L Q->ys.length=ps.length)
 (J:∀(fx:Value) (A:Around) (outer:List Env) (s:Shared) (H:Hp) (E:XK),we k (A.deeper (PyProof.Rows.envOfC eK (qu st) s.heap.objs.size f fx))->
  ∃t,mh (cn CX0 P w K mg base N eK (qu st) f fx A outer s H E).nox (jn st) t/\∀ys L Q,sp ys L Q->t { nx:=λ_ L'=>df Q .non L',rt:=df Q } (eE N ys) L):Fn3 P w K mg base (k+1) f fd ps sp:=by
 refine F.ok S (λT H Q E ⟨ys,L,g,j,I,z,_⟩=>by rw[<-j.length];exact len ys L g z) λfx A outer s H T Q E hr ⟨ys,L,g,j,I,z,k⟩=>?_;obtain⟨t,ht,q⟩:=J fx A outer s H E hr;refine⟨_,ht,eE N ys,L,_,i3 j,I,q ys L g z,?_⟩;refine⟨λσ l τ L' o a1 U ⟨L2,p,r⟩=>k .non l .non L2 o (U.sub p) (by rfl) r,λv l y L' o U C ⟨L2,p,r⟩=>k v l y L2 o (U.sub p) C r,λ_ _ _ _ _ _ _ z=>z.elim,λ_ _ _ _ _ _ _ z=>z.elim⟩
def upM(G:G3)(r:Y->List Y->qp->YK->Prop):V->List V->Hp->VK->Prop:=λx xs H Q=>∃y ys L J,RV G H y x/\xr G H ys xs/\j5 G H L/\r y ys L J/\qJ G H J Q
theorem hZ.imq{id:String}{r:V->List V->Hp->VK->Prop}{u:Y->List Y->qp->YK->Prop}(h:hZ X id r)(q:∀x xs H Q y ys L J,RV G H y x->xr G H ys xs->j5 G H L->u y ys L J->qJ G H J Q->r x xs H Q):hZ X id (upM G u):=hZ.imp h λx xs H Q ⟨y,ys,L,J,a,b,c,d,e⟩=>q x xs H Q y ys L J a b c d e
theorem adw:hZ X "list.append" (upM X.g3 jf):=hZ.imq yx λx t H Q y C L I g j U z k=>by
 unfold jf at z;split at z
 ·rename_i a v;obtain⟨T,e,z⟩:=vd z;obtain⟨l,J,r⟩:=U a _ e;obtain⟨o,rfl,p⟩:=j.inv1;exact⟨a,l,o,g,rfl,J,by rw[<-r.length];exact z.1,k _ _ _ _ (EC J) (U.setL J (r.app (xr.one p))) (by rfl) z.2⟩
 ·exact z.elim
theorem ab1:hZ X "list.extend" (upM X.g3 aW):=hZ.imq yj λx T H Q y ys L Q3 j l J z k=>by
 unfold aW at z;split at z
 ·rename_i a b;obtain⟨zs,e,z⟩:=vd z;obtain⟨us,o,z⟩:=vd z;obtain⟨p,U,r⟩:=J a _ e;obtain⟨t,C,g⟩:=J b _ o;obtain⟨v',rfl,I⟩:=l.inv1;cases I;exact⟨a,b,p,t,j,rfl,U,C,by rw[<-r.length,<-g.length];exact z.1,k _ _ _ _ (EC U) (J.setL U (r.app g)) (by rfl) z.2⟩
 ·exact z.elim
theorem aoe:hZ X "list.pop" (upM X.g3 u9):=hZ.imq akh λx o H Q y T L Q3 p t g z k=>by
 unfold u9 at z;split at z
 ·rename_i a;obtain⟨j,e,z⟩:=vd z;obtain⟨C,J,r⟩:=g a _ e;cases (show o=[] from t);cases U:j[j.length-1]? with
  |none=>rw[U] at z;exact z.elim
  |some v=>
   rw[U] at z;obtain⟨u,l,I⟩:=r.get U;rw[r.length] at l;exact⟨a,C,u,p,rfl,J,l,k _ _ _ _ (EC J) (g.setL J r.dropLast) (I.ts (EC J)) z⟩
 ·exact z.elim
theorem vQ(J:j5 G H L)(h:cU L (.ref a)=some ys):tyV G.K "list" (.ref a) H:=by obtain⟨U,sq,_⟩:=cL J h;exact .inl ⟨rfl,U,sq⟩
def ak(r:Y->List Y->qp->YK->Prop)(to:xz)(t:fA)(τ:jq)(L:qp)(Q:YK):Prop:=to τ L λx L1=>match x with
 |.ref a=>eY L1 (.ref a) λ_=>t τ L1 λxs L2=>r (.ref a) xs L2 Q
 |_=>False
theorem pC{id:String}{r:Y->List Y->qp->YK->Prop}(h2:Slot "list" name id)(h3:typeOf (.builtin id)=pure (.type "method_descriptor"))(hm:hZ X id (upM X.g3 r))(ho:QE X o to)(ha:QA X (e::es) tr)
 (h4:attributeBase o name X.env (eval o X.env)=eval o X.env:=by rfl)
 (h5:((backTo fm (starEach (e::es) X.env)).all (λx=>!x.1)&&(backToKw fm (keywordEach [] X.env)).all (λx=>x.1.isSome)&&decide ((e::es).length+([]:List Keyword).length+(if ([]:List Keyword).isEmpty=true then 0 else 1)<30))=true:=by rfl)
 (h6:(apos.endLine==fm.line)=true:=by rfl) (h7:Eb e es X:=by rfl) (h8:Ec fm es X:=by rfl):
 QE X (.Call (.Attribute o name apos) (e::es) [] fm) (ak r to tr):=DR (aht Du h2 h3 hm ho ha h4 h5 h6 h7 h8) λσ H Q p L Q3 t rl z k=>
 ⟨p,L,_,t,rl,z,λv H1 y L1 C J U g=>by
  split at g
  ·rename_i a;obtain⟨I,es,g⟩:=kq g;exact⟨by cases U;exact vQ J es,p,L1,_,t.ts C,J,g,λvs H2 I L2 T j l z2=>⟨.ref a,I,L2,Q3,U.ts T,l,j,z2,k.ts (C.trans T)⟩⟩
  ·exact g.elim⟩
theorem akd{id:String}{r:Y->List Y->qp->YK->Prop}(h2:Slot "list" name id)(h3:typeOf (.builtin id)=pure (.type "method_descriptor"))(j:hZ X id (upM X.g3 r))(l:QE X o to)
 (p:attributeBase o name X.env (eval o X.env)=eval o X.env:=by rfl) (t:(apos.endLine==fm.line)=true:=by rfl):
 QE X (.Call (.Attribute o name apos) [] [] fm) (ak r to zb):=DR (ak1 Du h2 h3 j l p t) λσ H Q C L I T rl z k=>
 ⟨C,L,_,T,rl,z,λv H1 y L1 t1 J U g=>by
  split at g
  ·rename_i a;obtain⟨ys,es,g⟩:=kq g;exact⟨by cases U;exact vQ J es,.ref a,[],L1,I,U,rfl,J,g,k.ts t1⟩
  ·exact g.elim⟩
theorem zm(J:QE X o to)(U:QA X (e::es) tr)(g:attributeBase o "append" X.env (eval o X.env)=eval o X.env:=by rfl)
 (j:((backTo fm (starEach (e::es) X.env)).all (λx=>!x.1)&&(backToKw fm (keywordEach [] X.env)).all (λx=>x.1.isSome)&&decide ((e::es).length+([]:List Keyword).length+(if ([]:List Keyword).isEmpty=true then 0 else 1)<30))=true:=by rfl)
 (l:(apos.endLine==fm.line)=true:=by rfl) (p:Eb e es X:=by rfl) (r:Ec fm es X:=by rfl):
 QE X (.Call (.Attribute o "append" apos) (e::es) [] fm) (ak jf to tr):=pC PySem.F.slot_list_append PySem.F.type_list_append adw J U g j l p r
theorem bD(J:QE X o to)(U:QA X (e::es) tr)(g:attributeBase o "extend" X.env (eval o X.env)=eval o X.env:=by rfl)
 (j:((backTo fm (starEach (e::es) X.env)).all (λx=>!x.1)&&(backToKw fm (keywordEach [] X.env)).all (λx=>x.1.isSome)&&decide ((e::es).length+([]:List Keyword).length+(if ([]:List Keyword).isEmpty=true then 0 else 1)<30))=true:=by rfl)
 (l:(apos.endLine==fm.line)=true:=by rfl) (p:Eb e es X:=by rfl) (r:Ec fm es X:=by rfl):
 QE X (.Call (.Attribute o "extend" apos) (e::es) [] fm) (ak aW to tr):=pC PySem.F.slot_list_extend PySem.F.type_list_extend ab1 J U g j l p r
theorem tQ(J:QE X o to)(U:attributeBase o "pop" X.env (eval o X.env)=eval o X.env:=by rfl)(g:(apos.endLine==fm.line)=true:=by rfl):
 QE X (.Call (.Attribute o "pop" apos) [] [] fm) (ak u9 to zb):=akd PySem.F.slot_list_pop PySem.F.type_list_pop aoe J U g
end
abbrev iJ:mf:=yI0 λi j=>.int (i-j)
abbrev uK:mf:=yI ac6 λi j=>.int (i*j)
abbrev cN:mf:=yI ajv λi j=>.int (i / j)
abbrev wv:mf:=yI (λ_ j=>0<j) λi j=>.int (i % j)
abbrev ari:mf:=yI ak0 λi j=>.int (i ^ j.toNat)
abbrev yLt:mf:=yI0 λi j=>.bl (decide (i<j))
abbrev yLe:mf:=yI0 λi j=>.bl (decide (i<=j))
abbrev yGt:mf:=yI0 λi j=>.bl (decide (j<i))
abbrev yGe:mf:=yI0 λi j=>.bl (decide (j<=i))
structure an1(G:G3)(mg:Str->Option Value)(x:Str)(y:Y):Prop where
 ex:∃c,mg x=some (.ref c)/\∀H,RV G H y (.ref c)
theorem ai6(t:an1 X.g3 X.mg x y)(J:Gl X x)(hd:Ed x:=by decide):QE X (.Name x pos) (yC y):=by obtain⟨c,U,q⟩:=t.ex;exact amf J U q hd
def ahl(kvs:List (Str×Str)):LO:=.dct (kvs.map λp=>(Sum.inr p.1,Y.str p.2))
def ai0(kvs:List (Str×Str))(_:jq)(L:qp)(Q:YK):Prop:=∀p,L p=none->Q (.ref p) (qf L p (ahl kvs))
def kvV(kvs:List (Str×Str)):List (jg×V):=kvs.map λp=>(Sum.inr p.1,V.str p.2)
theorem re{σ:L2.St}{H:Hp}{Q:List (V×V)->Hp->Prop}:∀{kvs:List (Str×Str)},Q (kvs.map λp=>(V.str p.1,V.str p.2)) H->lu (kvs.map λp=>(tC (.str p.1),tC (.str p.2))) σ H Q
 |[],h=>h
 |_::r,h=>re (kvs:=r) h
theorem wX{G:G3}{H:Hp}:∀kvs:List (Str×Str),Paired (λ(p:jg×Y) (q:jg×V)=>p.1=q.1/\RV G H p.2 q.2) (kvs.map λp=>(Sum.inr p.1,Y.str p.2)) (kvV kvs)
 |[]=>.nil
 |_::r=>.cons ⟨rfl,rfl⟩ (wX r)
theorem aef(kvs:List (Str×Str))(h:PPs X pos keys values (kvs.map λp=>(tC (.str p.1),tC (.str p.2))))(h1:(keys.all λx=>x.isSome)=true)(h2:keys.length=values.length)(h3:keys≠[])(g:keys.length<=15)
 (j:kvs.length<=15:=by decide) (nd:fS [] (kvV kvs)=kvV kvs:=by decide +kernel):QE X (.Dict keys values pos) (ai0 kvs):=DR (wR h h1 h2 h3 g) λl H Q o L r t U z k=>by
 intro p J;refine re ⟨zg,kvV kvs,by simp[kvV,kV],by simpa[kvV] using j,?_⟩;rw[nd,qG];refine k _ _ _ (qf L p (ahl kvs)) (DQ J) ?_ (by rfl) (z p (U.none J));intro a u e;by_cases c:a=p
 ·subst c;rw[q8] at e;cases e;exact⟨kvV kvs,zg,wX kvs⟩
 ·rw[qb c] at e;exact(U a u e).keep (DQ J) (qr c)
theorem jS{Q:α->qp->Prop}{o:Option α}(h:vP L Q o):∃v,o=some v/\Q v L:=by cases o with|none=>exact h.elim|some v=>exact⟨v,rfl,h⟩
theorem jD{kvs:List (Str×Str)}{k:Str}(h:kvs.lookup k=some x):ko (kvs.map λp=>((Sum.inr p.1:jg),Y.str p.2)) (Sum.inr k)=some (Y.str x):=by
 induction kvs with
 |nil=>simp at h
 |cons p r J=>
  obtain⟨a,b⟩:=p;unfold ko;rw[AG,Bg];rw[Bj] at h;by_cases c:k=a
  ·subst c;simp at h;simp[h]
  ·have c1:(k==a)=false:=by simpa using c
   rw[c1] at h;have c2:decide ((Sum.inr a:jg)=Sum.inr k)=false:=Au λz=>c (El z).symm;simp only[c2];exact J h
theorem vO(h:(aq lo n)[i]?=some y):i<n/\y=.int (lo+i):=by
 unfold aq at h;rw[An] at h;obtain⟨z,J,e⟩:=Ao.mp h;have U:i<n:=by
  by_cases c:i<n
  ·exact c
  ·rw[BZ (by simp;exact acz)] at J;cases J
 rw[C5 U] at J;cases J;exact⟨U,e.symm⟩
theorem mP(lo:Int)(n:Nat):(aq lo n).length=n:=by simp[aq]
theorem kE{tb:kn}(W:Nat->jq->qp->Prop)(h0:W 0 τ L)
 (hs:∀i τ L,i<n->W i τ L->g (.int (lo+i)) τ L λJ L2=>tb { D with nx:=fq (W (i+1)),ct:=fq (W (i+1)),bk:=D.nx } J L2) (hd:∀τ L,W n τ L->D.nx τ L):uf (aq lo n) (λ_=>True) g tb D τ L:=by
 refine xi ⟨W,h0,λ_ _ _ _=>trivial,λi y τ L e w=>?_,λτ L w=>hd τ L (by rw[mP] at w;exact w)⟩;obtain⟨U,rfl⟩:=vO e;exact hs i τ L U w
theorem uc{v:Y}{Q:YK}(e:L a=some (.lst (ys++[v])))(q:Q v (qf L a (.lst ys))):eY L (.ref a) (λ_=>zb τ L λxs L2=>u9 (.ref a) xs L2 Q):=by
 refine qc e (qx e ?_);have:(ys++[v])[(ys++[v]).length-1]?=some v:=by simp
 rw[this,List.dropLast_concat];exact q
theorem agb{tb:kn}(h:cU L (.ref a)=some ys)(W:Nat->jq->qp->Prop)(h0:W 0 τ L)(U:∀i τ L',W i τ L'->L' a=L a)
 (hs:∀i y τ L,ys[i]?=some y->W i τ L->g y τ L λJ L2=>tb { D with nx:=fq (W (i+1)),ct:=fq (W (i+1)),bk:=D.nx } J L2) (hd:∀τ L,W ys.length τ L->D.nx τ L):
 qA L a λys keep L1=>uf ys keep g tb D τ L1:=xc (oU h) λkeep j=>xi ⟨W,h0,λi τ L' w=>j L' (U i τ L' w),hs,hd⟩
theorem dZ{keep:qp->Prop}{tc:iH}{Q:YK}(I:Nat->List Y->Prop)(hz:ys.length<sizeLine)(j:keep L)(h0:I 0 [])
 (turn:∀(i:Nat) y zs,ys[i]?=some y->I i zs->g y (τ++List.replicate n none) L λJ L2=>tc J L2 λb L3=>wn b (te J L3 λz l=>fq (λzs L'=>L'=L/\I (i+1) zs) (zs++[z]) l) (fq (λzs L'=>L'=L/\I (i+1) zs) zs L3))
 (o:∀zs,I ys.length zs->∀p,L p=none->Q (.ref p) (qf L p (.lst zs))):lcK ys keep n g tc te τ L Q:=by
 refine adl ⟨hz,λi zs L'=>L'=L/\I i zs,⟨rfl,h0⟩,?_,?_,?_⟩
 ·rintro i zs L' ⟨rfl,_⟩;exact j
 ·rintro i y zs L' r ⟨rfl,U⟩;exact turn i y zs r U
 ·rintro zs L' ⟨rfl,U⟩ p t;exact o zs U p t
theorem aiz{tc:iH}{Q:YK}(I:Nat->List Y->Prop)(hz:m<sizeLine)(h0:I 0 [])
 (turn:∀(i:Nat) zs,i<m->I i zs->g (.int (lo+i)) (τ++List.replicate n none) L λJ L2=>tc J L2 λb L3=>wn b (te J L3 λz j=>fq (λzs L'=>L'=L/\I (i+1) zs) (zs++[z]) j) (fq (λzs L'=>L'=L/\I (i+1) zs) zs L3))
 (l:∀zs,I m zs->∀p,L p=none->Q (.ref p) (qf L p (.lst zs))):lcK (aq lo m) (λ_=>True) n g tc te τ L Q:=by
 refine dZ (keep:=λ_=>True) I (by rw[mP];exact hz) trivial h0 (λi y zs e U=>?_) λzs U=>l zs (by rw[mP] at U;exact U);obtain⟨o,rfl⟩:=vO e;exact turn i zs o U
theorem jt{J:List α}{f:α->Y}{w:α}(h:J[i]?=some w):fO (J.map f) (i:Int)=some (f w):=vk (by rw[An,h];rfl)
def vg(t:kn)(n:Nat)(ys:List Y)(L:qp)(Q:YK):Prop:=t { nx:=λ_ L'=>df Q .non L',rt:=df Q } (ys.map some++List.replicate (n-ys.length) none) L
theorem xg{Q:YK}(h:Q y L):df Q y L:=⟨L,DO L,h⟩
theorem aI{Q:YK}(s:qg L L')(h:Q y L):df Q y L':=⟨L,s,h⟩
theorem Fn3.never{P:Program}{w:World}{K:Ae}{k:Nat}{sp:jz}(no:∀ys L Q,¬sp ys L Q):Fn3 P w K mg base k f fd ps sp:=
 bO.never λU H Q E ⟨ys,L,J,_,_,z,_⟩=>no ys L J z
theorem qg.upd{o:LO}(s:qg L L')(h:L a=none):qg L (qf L' a o):=λb u e=>by rw[qb (km e h)];exact s b u e
theorem qg.put{o:LO}(s:qg L L')(h:L' a=some o):qg (qf L a o) L':=λb u e=>by
 by_cases c:b=a
 ·subst c;rw[q8] at e;cases e;exact h
 ·rw[qb c] at e;exact s b u e
abbrev EL:=@qg.put
theorem rG{G:G3}{H:Hp}:∀J:List Int,xr G H (J.map Y.int) (J.map V.int)
 |[]=>rfl
 |_::r=>⟨_,_,rfl,rfl,rG r⟩
end L3
namespace L2
open PySem PySem.Spec PyProof.Rows
section
variable {σ:L2.St}
theorem lZ(I:z0 X pins σ H s)(U:∀b∈fp,H b=none)(k:∀b o,b∉fp->s.heap.get? b=some o->h'.get? b=some o):dW X.prog X.w H h':=λb u e=>by
 refine(I.hok b u e).stay (λc v g q=>k c v (λz=>?_) q) (λ_ q=>q) λ_ _ q=>q;have J:=U c z;rcases g with w|w
 ·rw[w,e] at J;cases J
 ·rw[w] at J;cases J
theorem zC{fs:List Addr}(k:∀b o,b∉fp->h.get? b=some o->h'.get? b=some o):Un fs fp H H h h':=
 ⟨λb o q _ _ x=>k b o x q,λb o q _ _ x=>⟨o.slots,k b o x q⟩,λ_ _ _ n _=>n,λb o q x=>⟨o,k b o x q⟩,λ_ _ q=>q,λ_ _ _ q=>q,λb J q=>⟨#[],by rw[q];simp⟩⟩
theorem z0.turnedL(I:z0 X pins σ H s)(k:∀b o,b∉fp->s.heap.get? b=some o->h'.get? b=some o)(U:∀b∈fp,jJ X pins H b)(g:0<t':=by walk_at "t"):z0 X pins σ H { s with heap:=h',toks:=t' }:=
 I.call' (s':={ s with heap:=h',toks:=t' }) (ch:=fp) rfl (zC k) (lZ I (λb J=>(U b J).1) k) I.bare λb J=>⟨(U b J).2.2.2.1,(U b J).2.1,(U b J).2.2.2.2.1,(U b J).2.2.2.2.2⟩
theorem z0.turnedN{o:HO}(I:z0 X pins σ H s)(k:∀b o,b∉fp->s.heap.get? b=some o->h'.get? b=some o)(U:∀b∈fp,jJ X pins H b)(j:s.heap.objs.size<=a)
 (new:xu X.prog X.w (upd H a o) h' a o) (p:0<t':=by walk_at "t"):z0 X pins σ (upd H a o) { s with heap:=h',toks:=t' }:=by
 have g:H a=none:=I.hok.fresh j;have lt:∀b ob,s.heap.get? b=some ob->b≠a:=λb ob q=>AZ (AL (xa q) j);refine I.call' (s':={ s with heap:=h',toks:=t' }) (ch:=fp) rfl ?_ ?_ I.bare λb J=>⟨(U b J).2.2.2.1,(U b J).2.1,(U b J).2.2.2.2.1,(U b J).2.2.2.2.2⟩
 ·exact⟨λb ob q _ _ x=>k b ob x q,λb ob q _ _ x=>⟨ob.slots,k b ob x q⟩,λb ob q n _=>by rw[qr (lt b ob q)];exact n,λb ob q x=>⟨ob,k b ob x q⟩,
   λb l q=>by rw[qr (zr q g)];exact q,λb ob u q=>by rw[qr (zr q g)];exact q,λb r q=>⟨#[],by rw[qr (zr q g),q];simp⟩⟩
 ·intro b u e;by_cases J:b=a
  ·subst J;rw[zg] at e;cases e;exact new
  ·rw[qr J] at e;have ok:=lZ I (h':=h') (λb J=>(U b J).1) k b u e;exact ok.stay (λ_ _ _ q=>q) (λc q=>by rw[qr (zr q g)];exact q) λc l q=>by rw[qr (zr q g)];exact q
end
def Ite(K:Ae)(a:Addr):It:=
 ⟨λi H=>∃xs x,wu K H a xs/\xs[i]?=some x,λi H v H'=>∃p x,H p=none/\v=.ref p/\H'=upd H p (.tup [.int i,x])/\∀xs,wu K H a xs->xs[i]?=some x,λi H=>∃xs,wu K H a xs/\xs.length<=i⟩
theorem yt{P:Program}{w:World}{K:Ae}(a e it:Addr)(l:e≠it):zH P w K (.Tuple nC x1 tp) (Ite K a) [e,it] e (λi h=>(∃old,IsEnum h e it i old)/\h.IsListIter it a i) where
 mem:=by simp
 obj:=λi h ⟨⟨old,J⟩,U⟩ b g=>by
  rcases Am.mp g with rfl|g
  ·exact⟨_,J,λv z=>by cases z⟩
  ·cases Ai.mp g;obtain⟨o,T,hc,hd⟩:=U;exact⟨o,T,λv z=>by rw[hd] at z;cases z⟩
 keep:=λi h h' ⟨⟨old,J⟩,U⟩ k=>⟨⟨old,k e (by simp) _ J⟩,U.at λo q=>k it (by simp) o q⟩
 item:=by
  intro X hP hw hK hc i r s σ H E I t ⟨⟨old,J⟩,U⟩ hg;subst hP hw hK;obtain⟨xs,x,C,hx⟩:=hg;obtain⟨a1,rv,p,hz⟩:=I.list C;obtain⟨u,hu,ru⟩:=rv.get hx;refine wpAny_pyNext_enum_item J U p.isList (x:=u) (by simpa using hu) l λh1 a2 a3 ht ag hk=>⟨.ref s.heap.objs.size,rfl,wpAny_letOwnedTupleGo_enum a2 λh2 a4 j=>?_⟩;have el:e<s.heap.objs.size:=xa J;have il:it<s.heap.objs.size:=by obtain⟨o,T,_⟩:=U;exact xa T
  have kk:∀b o,b∉[e,it]->s.heap.get? b=some o->h2.get? b=some o:=λb o nb q=>by have n1:b≠e:=λz=>nb (by simp[z]);have n2:b≠it:=λz=>nb (by simp[z]);exact j.extBut b o n1 (hk b o n1 n2 q)
  have tg:h2.get? s.heap.objs.size=some { cls:=.type "tuple",data:=.seq #[.int i s.toks,u] }:=j.extBut _ _ (CO el) ht;refine⟨.ref s.heap.objs.size,upd H s.heap.objs.size (.tup [.int i,x]),?_,rfl,⟨_,x,I.hok.fresh (Al _),rfl,rfl,λys hy=>by rw[I.list_inj hy C];exact hx⟩,⟨⟨_,a4⟩,a3.at λo q=>j.extBut _ _ (AE l) q⟩,λb g=>?_⟩
  ·exact I.turnedN (t':=s.toks+1) kk t (Al _) ⟨by show 2<=sizeLine;decide,[.int i s.toks,u],.cons ⟨_,rfl⟩ (.cons ru .nil),⟨_,tg,rfl,_,rfl⟩⟩
  ·have a5:b<s.heap.objs.size:=by rcases Am.mp g with rfl|g;exact el;cases Ai.mp g;exact il
   rw[qr (AZ a5)];exact(t b g).1
 done:=by intro X hP hw hK hc i r s σ H E I t ⟨⟨old,J⟩,U⟩ hg;subst hP hw hK;obtain⟨xs,C,hx⟩:=hg;obtain⟨a1,rv,p,hz⟩:=I.list C;have hl:=rv.length;exact wpAny_pyNext_enum_end (I.ok.hd hc) J U p.isList (by simp;omega) λh1 eb=>⟨rfl,I.turnedL (t':=s.toks) (fp:=[e,it]) (λb o nb q=>eb b o (λz=>nb (by simp[z])) q) t⟩
 self:=λ_ _ _ _ _ ⟨⟨_,J⟩,_⟩ h=>wpAny_pyIter_enum J h
def aly(K:Ae)(ta:TA):TI:=λσ H R=>ta σ H λvs H1=>∃a,vs=[.ref a]/\(∃xs,wu K H1 a xs)/\R (Ite K a) H1
theorem qC:bootBuiltins "enumerate"=some (.type "enumerate"):=by decide +kernel
theorem agz{a:Expr}{ta:TA}(T:Gl X "enumerate")(hm:X.mg "enumerate"=none)(ha:PA X [a] ta)(hs:starEach [a] X.env=[(false,eval a X.env)]:=by rfl):
 PI X (.Tuple nC x1 tp) (.Call (.Name "enumerate" p) [a] [] pos) (aly X.K ta):=by
 intro J s r H R I h;refine Call_ (cg I T hm qC (BS (aF (ha pos J s r H _ I h) λus U ⟨vs,t,j,r1,q1⟩=>?_) hs rfl));obtain⟨l,e,⟨xs,hq⟩,q⟩:=q1;subst e;obtain⟨u,rfl,ru⟩:=iq r1;cases ru;obtain⟨a1,rv,pl,hz⟩:=j.list hq;refine call_enumerate_list pl.isList λh1 C hi a2 hk=>?_;have I2:z0 X J r t { U with heap:=h1 }:=j.kept (t':=U.toks) hk;refine wpAny_pyIter_enum (s:={ U with heap:=h1 }) C ?_;refine⟨U.heap.objs.size+1,[U.heap.objs.size+1,U.heap.objs.size],_,_,t,rfl,I2,yt l _ _ (Nat.succ_ne_self _),⟨⟨_,C⟩,hi⟩,λb o=>?_,q⟩;have g:U.heap.objs.size<=b:=by rcases Am.mp o with rfl|o;exact BV _;cases Ai.mp o;exact Al _
 exact j.fpOk g (j.hok.fresh g)
end L2
namespace L3
open PySem L2
theorem iz{keep:qp->Prop}(h:∀H L,je H₀ H->j5 G H L->keep L->∃xs,wu G.K H a xs/\xr G H ys xs):fQ G H₀ (Ite G.K a) (ys.zipIdx.map λp=>Y.tup [.int (p.2:Nat),p.1]) keep where
 go:=λi H L t J U C=>by
  obtain⟨xs,sq,r⟩:=h H L t J U;have:i<xs.length:=by rw[<-r.length];simpa using C
  exact⟨xs,xs[i],sq,Af this⟩
 yld:=λi H L x H' y t J U o ⟨p,z,g,I,T,f⟩=>by subst I T;obtain⟨xs,sq,r⟩:=h H L t J U;rw[An,List.getElem?_zipIdx] at o;obtain⟨⟨y',j⟩,ey,e3⟩:=Ao.mp o;obtain⟨a1,l,e4⟩:=Ao.mp ey;cases e4;subst e3;obtain⟨x',e',rv⟩:=r.get l;have:=f xs sq;rw[e'] at this;cases this;refine⟨DQ g,J.skip g,p,_,rfl,cZ.of zg,⟨_,_,rfl,?_,_,_,rfl,rv.ts (DQ g),rfl⟩⟩;show V.int _=V.int _;congr 1;simp
 stop:=λH L t J U=>by obtain⟨xs,sq,r⟩:=h H L t J U;exact⟨xs,sq,by rw[Ab,List.length_zipIdx,r.length];exact Al _⟩
def oM(ys:List Y):List Y:=ys.zipIdx.map λp=>Y.tup [.int (p.2:Nat),p.1]
theorem dw(h:(oM ys)[i]?=some y):∃z,ys[i]?=some z/\y=.tup [.int i,z]:=by unfold oM at h;rw[An,List.getElem?_zipIdx] at h;obtain⟨⟨U,j⟩,g,l⟩:=Ao.mp h;obtain⟨o,J,p⟩:=Ao.mp g;cases p;exact⟨U,J,by rw[<-l];simp⟩
theorem iY(ys:List Y):(oM ys).length=ys.length:=by simp[oM]
def fi(tl:xz)(τ:jq)(L:qp)(R:List Y->(qp->Prop)->qp->Prop):Prop:=tl τ L λx L1=>match x with
 |.ref a=>qA L1 a λys keep L=>R (oM ys) keep L
 |.sq ys=>R (oM ys) (λ_=>True) L1
 |_=>False
theorem gM{a:Expr}(hg:Gl X "enumerate")(hm:X.mg "enumerate"=none)(ha:QE X a te)(hs:starEach [a] X.env=[(false,eval a X.env)]:=by rfl)
 (l:starEach [a] X.env=(false,eval a X.env)::starEach [] X.env:=by rfl):QI X (.Tuple nC x1 tp) (.Call (.Name "enumerate" p) [a] [] pos) (fi te):=PI.imq (agz hg hm (ck ha hJ l) hs) λσ H R τ L R3 rs o z k=>by
 refine⟨τ,L,_,rs,o,z,λv j y C T J g I=>?_⟩;cases y with
 |ref a=>
  obtain⟨ys,keep,es,kp,hk,z2⟩:=lw I;have hy:∀H L,je j H->j5 X.g3 H L->keep L->∃U,wu X.K H a U/\xr X.g3 H ys U:=λH L _ o e=>cL o (hk L e);obtain⟨U,sq,_⟩:=hy j C (DP _) J kp;cases g;exact⟨a,rfl,⟨U,sq⟩,k _ j _ _ C T J (iz hy) z2⟩
 |sq ys=>
  obtain⟨a,U,e,sf,r⟩:=g;subst e;exact⟨a,rfl,⟨U,sf.sq⟩,k _ j _ (λ_=>True) C T J (iz λH L t _ _=>⟨U,(sf.ts t).sq,r.ts t⟩) I⟩
 |_=>exact I.elim
end L3
namespace L2
open PySem PySem.Spec PyProof.Rows
def dM(t:Bool)(h:Heap)(it l:Addr)(k:Nat):Prop:=match t with
 |false=>h.IsListIter it l k
 |true=>h.IsTupleIter it l k
def gn(t:Bool)(h:Heap)(l:Addr)(xs:Array Value):Prop:=match t with
 |false=>h.IsList l xs
 |true=>h.IsTuple l xs
theorem dM.on{k:Nat}(x:dM t h it l k)(e:∀o,h.get? it=some o->h'.get? it=some o):dM t h' it l k:=by cases t with|false=>exact Heap.IsListIter.at x e|true=>exact Heap.IsTupleIter.at x e
theorem gn.on{xs:Array Value}(x:gn t h l xs)(e:∀o,h.get? l=some o->h'.get? l=some o):gn t h' l xs:=by cases t with|false=>exact Heap.IsList.at x e|true=>exact Heap.IsTuple.at x e
theorem dM.ob{k:Nat}(x:dM t h it l k):∃o,h.get? it=some o/\∀v,o.data≠.cell v:=by
 cases t with
 |false=>obtain⟨o,e,c,d⟩:=x;exact⟨o,e,λv z=>by rw[d] at z;cases z⟩
 |true=>obtain⟨o,e,c,d⟩:=x;exact⟨o,e,λv z=>by rw[d] at z;cases z⟩
theorem vK(l:Addr):¬((Value.ref l==Value.none)=true):=AA
section
variable {w:World}
theorem uB{xs:Array Value}{x:Value}(hi:s.heap.IsTupleIter it l i)(g:s.heap.IsTuple l xs)(j:xs[i]?=some x)
 (q:∀h',h'.IsTupleIter it l (i+1)->Heap.SameBut it s.heap h'->Q x { s with heap:=h' }):wpAny (model prog w) A (Builtin.SmallTypes.nextOf (.ref it)) Q E s:=by
 obtain⟨o,U,ci,J⟩:=id hi;obtain⟨u,ul,_,n,dl⟩:=g;unfold Builtin.SmallTypes.nextOf;refine Aa (wpAny_callSpecial?_slot (name:="__next__") hi.typeIs At (wpAny_call_entry At hi.typeIs F.entry_tuple_iterator_next ?_ (F.args_tuple_iterator_next_1 _)));refine Aa (m:=field (.ref it) 0) (AU U J (x:=.ref l) rfl ?_);rw[AF (vK l)];refine Aa (m:=field (.ref it) 1) (AU U J (x:=.int i 0) rfl (Aa (m:=seqItems? (.ref l)) (Bb ul dl ?_)));simp only[AQ,j];refine Aa (wpAny_setField U J (by simp) (Ah ⟨x,rfl,Ah (q _ ⟨_,As _ U (Obj.isFreed_of_fields (Obj.data_mapFields J _)),(Obj.cls_mapFields ..).trans ci,?_⟩ (ya ..))⟩));rw[Obj.data_mapFields J];simp[rawInt]
theorem yW{xs:Array Value}(g:A.handled=none)(hi:s.heap.IsTupleIter it l i)(j:s.heap.IsTuple l xs)(p:xs[i]?=none)
 (q:∀h' e,Heap.ExtBut it s.heap h'->(∃o,h'.get? e=some o/\o.cls=.type "StopIteration")->E (.ref e) { s with heap:=h' }):wpAny (model prog w) A (Builtin.SmallTypes.nextOf (.ref it)) Q E s:=by
 obtain⟨o,J,ci,U⟩:=id hi;obtain⟨u,ul,_,n,dl⟩:=j;unfold Builtin.SmallTypes.nextOf;refine Aa (wpAny_callSpecial?_slot (name:="__next__") hi.typeIs At (wpAny_call_entry At hi.typeIs F.entry_tuple_iterator_next ?_ (F.args_tuple_iterator_next_1 _)));refine Aa (m:=field (.ref it) 0) (AU J U (x:=.ref l) rfl ?_);rw[AF (vK l)];refine Aa (m:=field (.ref it) 1) (AU J U (x:=.int i 0) rfl (Aa (m:=seqItems? (.ref l)) (Bb ul dl ?_)));simp only[AQ,p];refine Aa (BJ (Aa (wpAny_setField J U (by simp) ?_)));refine Aa (m:=newExc (.type "StopIteration") []) ?_;simp only[newExc,newTuple];refine Aa (Bh (Aa (m:=firstArgMember _ _) (wpAny_of_eq (a:=Value.none) (by first|rfl|(simp only[firstArgMember];rfl)) (Bh ?_ (by size_fits)))) (by size_fits));simp only[raiseNew];refine Aa (wpAny_handled ?_)
 first|rw[show A.in1.handled=none from g]|rw[g]
 exact Aa (Ah (wpAny_throw (q _ _ (((ya ..).extBut.push _).push _) ⟨_,xb _ rfl,rfl⟩)))
theorem dM.next{xs:Array Value}{x:Value}(hi:dM t s.heap it l i)(J:gn t s.heap l xs)(U:xs[i]?=some x)
 (q:∀h',dM t h' it l (i+1)->Heap.SameBut it s.heap h'->Q x { s with heap:=h' }):wpAny (model prog w) A (Builtin.SmallTypes.nextOf (.ref it)) Q E s:=by
 cases t with|false=>exact wpAny_nextOf_list_item hi J U q|true=>exact uB hi J U q
theorem dM.stop{xs:Array Value}(J:A.handled=none)(hi:dM t s.heap it l i)(U:gn t s.heap l xs)(g:xs[i]?=none)
 (q:∀h' e,Heap.ExtBut it s.heap h'->(∃o,h'.get? e=some o/\o.cls=.type "StopIteration")->E (.ref e) { s with heap:=h' }):wpAny (model prog w) A (Builtin.SmallTypes.nextOf (.ref it)) Q E s:=by
 cases t with|false=>exact wpAny_nextOf_list_end J hi U g q|true=>exact yW J hi U g q
structure ZAp(z TI TO i1 i2 l1 l2:Addr):Prop where
 n1:TI≠z
 n2:TO≠z
 n3:i1≠z
 n4:i2≠z
 n5:TO≠i1
 n6:TO≠i2
 n7:i1≠i2
 n8:l1≠z
 n9:l1≠TO
 n10:l1≠i1
 n11:l1≠i2
 n12:l2≠z
 n13:l2≠TO
 n14:l2≠i1
 n15:l2≠i2
theorem ab9{TI TO:Addr}{k:Nat}{xs ys:Array Value}{x y a b:Value}(D:ZAp z TI TO i1 i2 l1 l2)(hz:IsZip s.heap z TI TO .none)(hI:IsPair s.heap TI (.ref i1) (.ref i2))(hO:IsPair s.heap TO a b)
 (h1:dM t1 s.heap i1 l1 k) (h2:dM t2 s.heap i2 l2 k) (q1:gn t1 s.heap l1 xs) (q2:gn t2 s.heap l2 ys) (hx:xs[k]?=some x) (hy:ys[k]?=some y)
 (q:∀h',IsZip h' z TI TO (rawInt s.heap.objs.size)->IsPair h' TO x y->dM t1 h' i1 l1 (k+1)->dM t2 h' i2 l2 (k+1)->IsPair h' s.heap.objs.size x y->
  (∀c o,c≠z->c≠TO->c≠i1->c≠i2->s.heap.get? c=some o->h'.get? c=some o)->Q (.ref s.heap.objs.size) { s with heap:=h' }):
 wpAny (model prog w) A (Builtin.«zip.__next__» ⟨[.ref z],[]⟩) (λxg s'=>∃v,xg=.done (.ret v)/\Q v s') E s:=by
 refine Aa (m:=field (.ref z) 2) (AU hz rfl (x:=.bool false) rfl (Aa (m:=field (.ref z) 3) (AU hz rfl (x:=.ref TI) rfl (Aa (Bb hI rfl ?_)))));refine Aa (m:=Builtin.SmallTypes.ownedTupleIsFree (.ref z)) ?_;unfold Builtin.SmallTypes.ownedTupleIsFree;refine Aa (AU hz rfl (x:=.none) rfl (Ah ?_));simp only[if_true];refine Aa (BJ (Aa (AU hz rfl (x:=.ref TO) rfl (Aa (wpAny_setField_rec hz (by simp) λg1 z1 U=>?_)))));have a5:IsZip g1 z TI TO .ellipsis:=z1;refine Aa ?_;simp only[List.zipIdx_cons,List.zipIdx_nil,B4,CQ];refine Aa (Aa (wpAny_onRaise (Aa (m:=Builtin.SmallTypes.nextOf (.ref i1)) ((h1.on λo e=>U.extBut _ _ D.n3 e).next (q1.on λo e=>U.extBut _ _ D.n8 e) hx λg2 ag j=>Ah ?_))));have O2:IsPair g2 TO a b:=j.extBut _ _ D.n5 (U.extBut _ _ D.n2 hO);refine Aa (Bb O2 rfl (Aa (wpAny_updateSeq_pair O2 λg3 O3 p=>Aa (wpAny_letGo (Ah ?_)))));have al:IsPair g3 TO x b:=O3;refine Aa (Aa (wpAny_onRaise (Aa (m:=Builtin.SmallTypes.nextOf (.ref i2)) (dM.next (l:=l2) (i:=k) (xs:=ys) (x:=y) (t:=t2) (h2.on λo e=>p.extBut _ _ (AE D.n6) (j.extBut _ _ (AE D.n7) (U.extBut _ _ D.n4 e)))
  (q2.on λo e=>p.extBut _ _ D.n13 (j.extBut _ _ D.n14 (U.extBut _ _ D.n12 e))) hy λg4 ao r=>Ah ?_))))
 have O4:IsPair g4 TO x b:=r.extBut _ _ D.n6 al;refine Aa (Bb O4 rfl (Aa (wpAny_updateSeq_pair O4 λJ O5 C=>Aa (wpAny_letGo (Ah (Ah ?_))))));have I:IsPair J TO x y:=O5;refine Aa (Bb I rfl (Aa (wpAny_newTuple ?_)));have sz:J.objs.size=s.heap.objs.size:=by rw[C.1,r.1,p.1,j.1,U.1]
 have z5:IsZip J z TI TO .ellipsis:=C.extBut _ _ (AE D.n2) (r.extBut _ _ (AE D.n4) (p.extBut _ _ (AE D.n2) (j.extBut _ _ (AE D.n3) a5)));have k5:∀c o,c≠z->c≠TO->c≠i1->c≠i2->s.heap.get? c=some o->J.get? c=some o:=λc o g T a3 a4 e=>C.extBut _ _ T (r.extBut _ _ a4 (p.extBut _ _ T (j.extBut _ _ a3 (U.extBut _ _ g e))));have zl:z<J.objs.size:=xa z5;refine Aa (m:=Builtin.SmallTypes.ownedTupleHandOut (.ref z) (.ref J.objs.size)) ?_;unfold Builtin.SmallTypes.ownedTupleHandOut;refine Aa (wpAny_setField_rec (show IsZip (J.push { cls:=.type "tuple",data:=.seq #[x,y] }) z TI TO .ellipsis from wh _ z5) (by simp) λg7 z7 e7=>?_);have au:IsZip g7 z TI TO (rawInt J.objs.size):=z7;refine wpAny_setField_rec au (by simp) λg8 z8 e8=>Ah ⟨_,rfl,?_⟩;have av:IsZip g8 z TI TO (rawInt J.objs.size):=z8;have up:∀c o,c≠z->J.get? c=some o->g8.get? c=some o:=λc o g e=>e8.extBut _ _ g (e7.extBut _ _ g (wh _ e));have T8:IsPair g8 J.objs.size x y:=e8.extBut _ _ (CO zl) (e7.extBut _ _ (CO zl) (xb _ rfl));have xg:=q g8 (by rw[<-sz];exact av) (up _ _ D.n2 I) (ag.on λo e=>up _ o D.n3 (C.extBut _ _ (AE D.n5) (r.extBut _ _ D.n7 (p.extBut _ _ (AE D.n5) e)))) (ao.on λo e=>up _ o D.n4 (C.extBut _ _ (AE D.n6) e))
  (by rw[<-sz];exact T8) λc o g T a3 a4 e=>up c o g (k5 c o g T a3 a4 e)
 show Q (.ref J.objs.size) _;rw[sz];exact xg
theorem ac1{TI TO:Addr}{k:Nat}{xs ys:Array Value}{a b:Value}{Q:Fin->Shared->Prop}(hh:A.handled=none)(D:ZAp z TI TO i1 i2 l1 l2)(hz:IsZip s.heap z TI TO .none)(hI:IsPair s.heap TI (.ref i1) (.ref i2))(hO:IsPair s.heap TO a b)
 (h1:dM t1 s.heap i1 l1 k) (h2:dM t2 s.heap i2 l2 k) (q1:gn t1 s.heap l1 xs) (q2:gn t2 s.heap l2 ys) (U:xs[k]?=none\/ys[k]?=none)
 (q:∀h' e,(∀c o,c≠z->c≠TO->c≠i1->c≠i2->s.heap.get? c=some o->h'.get? c=some o)->(∃o,h'.get? e=some o/\o.cls=.type "StopIteration")->E (.ref e) { s with heap:=h' }):
 wpAny (model prog w) A (Builtin.«zip.__next__» ⟨[.ref z],[]⟩) Q E s:=by
 refine Aa (m:=field (.ref z) 2) (AU hz rfl (x:=.bool false) rfl (Aa (m:=field (.ref z) 3) (AU hz rfl (x:=.ref TI) rfl (Aa (Bb hI rfl ?_)))));refine Aa (m:=Builtin.SmallTypes.ownedTupleIsFree (.ref z)) ?_;unfold Builtin.SmallTypes.ownedTupleIsFree;refine Aa (AU hz rfl (x:=.none) rfl (Ah ?_));simp only[if_true];refine Aa (BJ (Aa (AU hz rfl (x:=.ref TO) rfl (Aa (wpAny_setField_rec hz (by simp) λg1 z1 J=>?_)))));have g:IsZip g1 z TI TO .ellipsis:=z1;refine Aa ?_;simp only[List.zipIdx_cons,List.zipIdx_nil,B4,CQ];refine Aa (Aa (wpAny_onRaise (Aa (m:=Builtin.SmallTypes.nextOf (.ref i1)) ?_)));have j:=h1.on λo e=>J.extBut _ _ D.n3 e;have p:=q1.on λo e=>J.extBut _ _ D.n8 e;cases T:xs[k]? with
 |none=>
  refine dM.stop hh j p T λg2 e s2 he=>?_;obtain⟨oe,ge,ce⟩:=he;have z2:IsZip g2 z TI TO .ellipsis:=s2 _ _ (AE D.n3) g;have nz:e≠z:=λw=>by subst w;rw[z2] at ge;cases ge;simp at ce
  exact wpAny_setField_rec z2 (by simp) λg3 _ s3=>q g3 e (λc o r _ a3 _ w=>s3.extBut _ _ r (s2 _ _ a3 (J.extBut _ _ r w))) ⟨oe,s3.extBut _ _ nz ge,ce⟩
 |some x=>
  have hy:ys[k]?=none:=by rcases U with h|h;rw[T] at h;cases h;exact h
  refine dM.next j p T λg2 a5 C=>Ah ?_;have O2:IsPair g2 TO a b:=C.extBut _ _ D.n5 (J.extBut _ _ D.n2 hO);refine Aa (Bb O2 rfl (Aa (wpAny_updateSeq_pair O2 λg3 O3 I=>Aa (wpAny_letGo (Ah ?_)))));refine Aa (Aa (wpAny_onRaise (Aa (m:=Builtin.SmallTypes.nextOf (.ref i2)) (dM.stop (t:=t2) (l:=l2) (i:=k) (xs:=ys) hh (h2.on λo e=>I.extBut _ _ (AE D.n6) (C.extBut _ _ (AE D.n7) (J.extBut _ _ D.n4 e)))
   (q2.on λo e=>I.extBut _ _ D.n13 (C.extBut _ _ D.n14 (J.extBut _ _ D.n12 e))) hy λg4 e s4 he=>?_))))
  obtain⟨oe,ge,ce⟩:=he;have z4:IsZip g4 z TI TO .ellipsis:=s4 _ _ (AE D.n4) (I.extBut _ _ (AE D.n2) (C.extBut _ _ (AE D.n3) g));have nz:e≠z:=λw=>by subst w;rw[z4] at ge;cases ge;simp at ce
  exact wpAny_setField_rec z4 (by simp) λg5 _ s5=>q g5 e (λc o r a2 a3 a4 w=>s5.extBut _ _ r (s4 _ _ a4 (I.extBut _ _ a2 (C.extBut _ _ a3 (J.extBut _ _ r w))))) ⟨oe,s5.extBut _ _ nz ge,ce⟩
end
def ac3(t:Bool):String:=if t then "tuple_iterator" else "list_iterator"
section
variable {w:World}
theorem gn.iter{xs:Array Value}(J:gn t s.heap l xs)(q:Q (.ref s.heap.objs.size) { s with heap:=s.heap.push { cls:=.type (ac3 t),data:=.fields #[.ref l,.int 0 0] } }):wpAny (model prog w) A (pyIter (.ref l)) Q E s:=by cases t with|false=>exact wpAny_pyIter_list J q|true=>exact wpAny_pyIter_tuple J q
end
theorem dM.new(e:h.get? it=some { cls:=.type (ac3 t),data:=.fields #[.ref l,.int 0 0] }):dM t h it l 0:=by cases t with|false=>exact⟨_,e,rfl,rfl⟩|true=>exact⟨_,e,rfl,rfl⟩
abbrev zh1(t1:Bool)(h:Heap)(l1:Addr):Heap:=h.push { cls:=.type (ac3 t1),data:=.fields #[.ref l1,.int 0 0] }
abbrev zh2(t1 t2:Bool)(h:Heap)(l1 l2:Addr):Heap:=(zh1 t1 h l1).push { cls:=.type (ac3 t2),data:=.fields #[.ref l2,.int 0 0] }
abbrev zh3(t1 t2:Bool)(h:Heap)(l1 l2:Addr):Heap:=(zh2 t1 t2 h l1 l2).push { cls:=.type "tuple",data:=.seq #[.ref h.objs.size,.ref (zh1 t1 h l1).objs.size] }
abbrev zh4(t1 t2:Bool)(h:Heap)(l1 l2:Addr):Heap:=(zh3 t1 t2 h l1 l2).push { cls:=.type "tuple",data:=.seq #[.none,.none] }
abbrev zh5(t1 t2:Bool)(h:Heap)(l1 l2:Addr):Heap:=(zh4 t1 t2 h l1 l2).push { cls:=.type "zip",data:=.fields #[.none,.bool false,.bool false,.ref (zh2 t1 t2 h l1 l2).objs.size,.ref (zh3 t1 t2 h l1 l2).objs.size] }
theorem ug(t1 t2:Bool)(l1 l2:Addr)(xs ys:Array Value):Meets (Builtin.«zip.__new__» ⟨[.type "zip",.ref l1,.ref l2],[]⟩) (λ_ R s=>gn t1 s.heap l1 xs/\gn t2 s.heap l2 ys/\R (.ok (.ret (.ref (zh4 t1 t2 s.heap l1 l2).objs.size))) { s with heap:=zh5 t1 t2 s.heap l1 l2 }):=
 .of_wp λJ w A R s h=>by
  obtain⟨U,g,d,tk,os⟩:=s;obtain⟨l,p,h⟩:=h;have j:=sub_zip;have r:gn t1 (Shared.heap ⟨U,g,d,tk,os⟩) l1 xs:=l;have t:gn t2 (Shared.heap ⟨U.push { cls:=.type (ac3 t1),data:=.fields #[.ref l1,.int 0 0] },g,d,tk,os⟩) l2 ys:=p.on λo e=>wh _ e
  wp_walk using gn.iter r,gn.iter t
  exact⟨_,rfl,h⟩
theorem yV{w:World}{xs ys:Array Value}(r:gn t1 s.heap l1 xs)(t:gn t2 s.heap l2 ys)
 (q:∀h',IsZip h' (s.heap.objs.size+4) (s.heap.objs.size+2) (s.heap.objs.size+3) .none->IsPair h' (s.heap.objs.size+2) (.ref s.heap.objs.size) (.ref (s.heap.objs.size+1))->IsPair h' (s.heap.objs.size+3) .none .none->
  dM t1 h' s.heap.objs.size l1 0->dM t2 h' (s.heap.objs.size+1) l2 0->(∀c o,s.heap.get? c=some o->h'.get? c=some o)->Q (.ref (s.heap.objs.size+4)) { s with heap:=h' }):
 wpAny (model prog w) A (call (.type "zip") [.ref l1,.ref l2]) Q E s:=by
 refine callType_new F.called_zip (by decide) (F.typeCall_zip_2 _ _) (F.newCall_zip_2 _ _) (λobj=>F.args_object_init_3 obj _ _) F.entry_zip_new (ug t1 t2 l1 l2 xs ys) ⟨r,t,?_⟩;have J:(zh1 t1 s.heap l1).objs.size=s.heap.objs.size+1:=Ej ..;have U:(zh2 t1 t2 s.heap l1 l2).objs.size=s.heap.objs.size+2:=by rw[Ej,J]
 have g:(zh3 t1 t2 s.heap l1 l2).objs.size=s.heap.objs.size+3:=by rw[Ej,U]
 have l:(zh4 t1 t2 s.heap l1 l2).objs.size=s.heap.objs.size+4:=by rw[Ej,g]
 have j:(zh5 t1 t2 s.heap l1 l2).get? (zh4 t1 t2 s.heap l1 l2).objs.size=some _:=xb _ rfl;have p:(zh5 t1 t2 s.heap l1 l2).get? (zh3 t1 t2 s.heap l1 l2).objs.size=some _:=wh _ (xb _ rfl);have g3:(zh5 t1 t2 s.heap l1 l2).get? (zh2 t1 t2 s.heap l1 l2).objs.size=some _:=wh _ (wh _ (xb _ rfl));have g2:(zh5 t1 t2 s.heap l1 l2).get? (zh1 t1 s.heap l1).objs.size=some _:=wh _ (wh _ (wh _ (xb _ rfl)));have g1:(zh5 t1 t2 s.heap l1 l2).get? s.heap.objs.size=some _:=wh _ (wh _ (wh _ (wh _ (xb _ rfl))));show _/\_;rw[U,g,l] at j;rw[J,U] at g3;rw[g] at p;rw[J] at g2;rw[l];exact⟨⟨_,j,rfl⟩,q _ j g3 p (dM.new g1) (dM.new g2) λc o e=>wh _ (wh _ (wh _ (wh _ (wh _ e))))⟩
def Sq(t:Bool)(K:Ae)(H:Hp)(a:Addr)(xs:List V):Prop:=match t with
 |false=>wu K H a xs
 |true=>cZ K H a xs
section
variable {σ:L2.St}
theorem z0.seq(I:z0 X pins σ H s)(h:Sq t X.K H a xs):∃eH:List Value,zp xs eH/\gn t s.heap a eH.toArray/\xs.length<=sizeLine:=by
 cases t with
 |false=>obtain⟨eH,v,p,z⟩:=I.list h;exact⟨eH,v,p.isList,z⟩
 |true=>obtain⟨eH,v,p,z⟩:=I.tuple h;exact⟨eH,v,p,z⟩
end
theorem ais:bootBuiltins "zip"=some (.type "zip"):=by decide +kernel
end L2
namespace L3
open PySem L2
theorem acx(J:j5 G H L)(r:RV G H y v)(h:cU L y=some ys):∃t p xs,v=.ref p/\Sq t G.K H p xs/\xr G H ys xs:=by
 obtain⟨p,xs,e,s,q⟩:=mM J r h;rcases s with s|s
 ·exact⟨false,p,xs,e,s,q⟩
 ·exact⟨true,p,xs,e,s,q⟩
def m4(xs ys:List Y):List Y:=List.zipWith (λa b=>Y.tup [a,b]) xs ys
theorem afw{xs:List Y}(h:(m4 xs ys)[i]?=some y):∃a b,xs[i]?=some a/\ys[i]?=some b/\y=.tup [a,b]:=by
 unfold m4 at h;rw[List.getElem?_zipWith] at h;cases J:xs[i]? with
 |none=>rw[J] at h;simp at h
 |some a=>
  cases U:ys[i]? with|none=>rw[J,U] at h;simp at h|some b=>rw[J,U] at h;simp at h;exact⟨a,b,rfl,rfl,h.symm⟩
theorem ac7(xs ys:List Y):(m4 xs ys).length=min xs.length ys.length:=by simp[m4]
def ar(xs:List Y)(L:qp)(Q:YK):Prop:=match xs with
 |[x]=>eY L x λys=>∀p,L p=none->Q (.ref p) (qf L p (.lst ys))
 |_=>False
theorem bP :jx X (.type "list") (upL X.g3 ar):=EG ot λC H Q I L T g J z k=>by
 unfold ar at z;split at z
 ·rename_i x;obtain⟨u,rfl,j⟩:=g.inv1;obtain⟨zs,o,z⟩:=kq z;obtain⟨p,t,e,sq,r⟩:=mM J j o;subst e;exact⟨p,t,rfl,sq,λl U=>k _ _ _ _ (DQ U) (J.newL U r) (by rfl) (z l (J.none U))⟩
 ·exact z.elim
theorem ac{T:String}{tr:fA}{r:List Y->qp->YK->Prop}(hc:jx X (.type T) (upL X.g3 r))(g:Gl X x)(j:X.mg x=none)(l:bootBuiltins x=some (.type T))(h:QA X (e::es) tr)
 (o:x ≠ "__name__" := by decide) (hd:Ed x:=by decide) (hs:Eb e es X:=by rfl) (t:Ec pos es X:=by rfl):
 QE X (.Call (.Name x p) (e::es) [] pos) (gq r tr):=DR (iK hc g j l h o hd hs t) λσ H Q C L I rs rl z k=>
 ⟨C,L,_,rs,rl,z,λvs H1 ys L1 t1 J U z1=>⟨ys,L1,I,U,J,z1,k.ts t1⟩⟩
def dG(x:Y)(vs:List Y)(L:qp)(Q:YK):Prop:=match x,vs with
 |.ref a,[.int i]=>dQ L a λys=>0<=i/\i<ys.length/\vP L (λv L=>Q v (qf L a (.lst (ys.eraseIdx i.toNat)))) (ys[i.toNat]?)
 |_,_=>False
theorem agr :hZ X "list.pop" (upM X.g3 dG):=λJ s l H x xs v o Q I p t ⟨y,ys,L,Q3,C,T,j,z,k⟩=>by
 unfold dG at z;split at z
 ·rename_i a i;obtain⟨zs,e,h0,h1,z⟩:=vd z;obtain⟨ws,U,r⟩:=j a _ e;obtain⟨i',rfl,ri⟩:=T.inv1;cases ri;cases g:zs[i.toNat]? with
  |none=>rw[g] at z;exact z.elim
  |some w=>
   rw[g] at z;obtain⟨u,eu,ru⟩:=r.get g;obtain⟨_,_,_,hz⟩:=I.list (wu.of U);have hl:=r.length;have hs:sizeLine<2 ^ 62:=by decide
   refine aap J s l H x _ v o Q I p t ⟨a,ws,i,i.toNat,u,C,rfl,U,by lia,by lia,?_,eu,k _ _ _ _ (EC U) (j.setL U (r.eraseIdx _)) (ru.ts (EC U)) z⟩;unfold seqIndex?;rw[AF (show ¬i<0 by lia),AC (by simp;lia)]
 ·exact z.elim
theorem cH{tr:fA}(J:QE X o to)(U:QA X (e::es) tr)(g:attributeBase o "pop" X.env (eval o X.env)=eval o X.env:=by rfl)
 (j:((backTo fm (starEach (e::es) X.env)).all (λx=>!x.1)&&(backToKw fm (keywordEach [] X.env)).all (λx=>x.1.isSome)&&decide ((e::es).length+([]:List Keyword).length+(if ([]:List Keyword).isEmpty=true then 0 else 1)<30))=true:=by rfl)
 (l:(apos.endLine==fm.line)=true:=by rfl) (p:Eb e es X:=by rfl) (r:Ec fm es X:=by rfl):
 QE X (.Call (.Attribute o "pop" apos) (e::es) [] fm) (ak dG to tr):=pC PySem.F.slot_list_pop PySem.F.type_list_pop agr J U g j l p r
end L3
namespace L2
open PySem PySem.Spec PyProof.Rows
theorem wU(i:Int)(n d:Nat):max 0 (min (if i<0 then i+(n:Int) else i) n)=((HT.sIx n d (some i):Nat):Int):=by
 simp only[HT.sIx];by_cases h:i<0
 ·simp only[h,if_true]<;>lia
 ·simp only[h,if_false]<;>lia
theorem xE(l u:Option Int)(n:Nat):Builtin.Str.strSliceIndices l u 1 n=(List.range (HT.sIx n n u-HT.sIx n 0 l)).map (HT.sIx n 0 l+·):=by
 have z:(0:Int)=((HT.sIx n 0 none:Nat):Int):=rfl;have y:(n:Int)=((HT.sIx n n none:Nat):Int):=rfl;unfold Builtin.Str.strSliceIndices;cases l with
 |none=>
  cases u with
  |none=>exact sliceRange_one 0 n
  |some j=>
   show sliceRange 0 (max 0 (min (if j<0 then j+(n:Int) else j) n)) 1=_;rw[wU j n n];exact sliceRange_one 0 _
 |some i=>
  cases u with
  |none=>
   show sliceRange (max 0 (min (if i<0 then i+(n:Int) else i) n)) n 1=_;rw[wU i n 0];exact sliceRange_one _ n
  |some j=>
   show sliceRange (max 0 (min (if i<0 then i+(n:Int) else i) n)) (max 0 (min (if j<0 then j+(n:Int) else j) n)) 1=_;rw[wU i n 0,wU j n n];exact sliceRange_one _ _
theorem oS(x:Str)(l u:Option Int):(Txt.slice x l u).cps.toList=(x.cps.toList.drop (HT.sIx x.length 0 l)).take (HT.sIx x.length x.length u-HT.sIx x.length 0 l):=by
 have g:x.length=x.cps.toList.length:=by simp[Str.length]
 have J:=pick_run x.cps (HT.sIx x.length 0 l) (HT.sIx x.length x.length u-HT.sIx x.length 0 l);unfold Txt.slice;rw[xE];split
 ·rename_i h;simp only[beq_self_eq_true,Bool.true_and,Ab,Bw,beq_iff_eq] at h;have h1:=HT.sIx_le x.length 0 (A9 _) l;have h2:=HT.sIx_le x.length x.length (Al _) u;have U:HT.sIx x.length 0 l=0:=by lia
  rw[h,U,De,BE (by exact yG)]
 ·show(List.filterMap (λi=>x.cps[i]?) _).toArray.toList=_;rw[List.toList_toArray];exact J
def asd:V->Option Int->Option Int->Hp->VK->Prop:=λx lo hi H Q=>∃z,x=.str z/\z.length<=sizeLine/\Q (.str (Txt.slice z lo hi)) H
theorem ale:qL X asd:=by
 intro J s σ H x v U g lo j sl Q I o p pl r h;obtain⟨z,rfl,C,q⟩:=h;obtain⟨t,rfl⟩:=o;obtain⟨l,rfl,T⟩:∃l:Option (Int×Tok),U=partValue l/\l.map (·.1)=lo:=by cases pl with|none=>exact⟨none,rfl,rfl⟩|int i t=>exact⟨some (i,t),rfl,rfl⟩
 obtain⟨u,rfl,hu⟩:∃u:Option (Int×Tok),g=partValue u/\u.map (·.1)=j:=by cases r with|none=>exact⟨none,rfl,rfl⟩|int i t=>exact⟨some (i,t),rfl,rfl⟩
 subst T hu;refine⟨"str",_,F.slot_str_getitem.lookup,typeIs_str _ _ _,xj I.tk (wpAny_getItem_str_slice (l:=l) (u:=u) (st:=none) p rfl ?_)⟩;exact post_val_or_str ⟨AM (Txt.slice_le z _ _) C,λt' k ht=>⟨.str _,H,I.tok _,⟨t',rfl⟩,q⟩⟩
theorem uZ{zs:List Str}:∀{us:List Value},zp (zs.map V.str) us->StrsAre us zs:=by
 induction zs with
 |nil=>intro us r;rw[CP] at r;cases r;exact .nil
 |cons z zs J=>
  intro us r;rw[AG] at r;cases r with
  |cons U g=>
   obtain⟨t,e⟩:=U;subst e;exact .cons z t (J g)
def amj(K:Ae):V->List V->Hp->VK->Prop:=λx vs H Q=>∃z a zs,x=.str z/\vs=[.ref a]/\wu K H a ((zs:List Str).map V.str)/\(zs.map (·.length)).sum+zs.length*z.length<=16777216/\Q (.str (Txt.join z zs)) H
theorem agm:hZ X "str.join" (amj X.K):=by intro J s σ H x vs v us Q I U g h;obtain⟨z,a,zs,rfl,rfl,j,l,q⟩:=h;obtain⟨t,rfl⟩:=U;obtain⟨u,rfl,o⟩:=g.one;cases o;obtain⟨C,r,p,_⟩:=I.list j;exact xj I.tk (PyProof.Rows.join_list p.isList (by simpa using uZ r) l λT k ht=>⟨.str _,H,I.tok _,⟨T,rfl⟩,q⟩)
end L2
namespace L3
open PySem L2
def yH(x:Y)(lo hi:Option Int)(L:qp)(Q:YK):Prop:=match x with
 |.str z=>z.length<=sizeLine/\Q (.str (Txt.slice z lo hi)) L
 |x=>ao8 x lo hi L Q
theorem rW(K:Ae)(P:Program)(w:World)(g:X.K=K:=by rfl)(j:X.prog=P:=by rfl)(hw:X.w=w:=by rfl):qL X (ag0 ⟨K,P,w⟩ yH):=by refine qL.imp (ale.or (amd K P w g j hw)) λx lo o H Q ⟨y,L,l,J,U,z,k⟩=>?_;cases y with|str s=>exact .inl ⟨s,J,z.1,k _ H _ L (DP _) U (by rfl) z.2⟩|_=>exact .inr ⟨_,L,l,J,U,z,k⟩
def yBS(r:Y->List Y->qp->YK->Prop)(to:xz)(t:fA)(τ:jq)(L:qp)(Q:YK):Prop:=to τ L λx L1=>match x with
 |.str z=>t τ L1 λxs L2=>r (.str z) xs L2 Q
 |_=>False
theorem ai3{tr:fA}{id:String}{r:Y->List Y->qp->YK->Prop}(h2:Slot "str" name id)(h3:typeOf (.builtin id)=pure (.type "method_descriptor"))(I:hZ X id (upM X.g3 r))(T:QE X o to)(ha:QA X (e::es) tr)
 (h4:attributeBase o name X.env (eval o X.env)=eval o X.env:=by rfl)
 (h5:((backTo fm (starEach (e::es) X.env)).all (λx=>!x.1)&&(backToKw fm (keywordEach [] X.env)).all (λx=>x.1.isSome)&&decide ((e::es).length+([]:List Keyword).length+(if ([]:List Keyword).isEmpty=true then 0 else 1)<30))=true:=by rfl)
 (h6:(apos.endLine==fm.line)=true:=by rfl) (h7:Eb e es X:=by rfl) (h8:Ec fm es X:=by rfl):
 QE X (.Call (.Attribute o name apos) (e::es) [] fm) (yBS r to tr):=DR (aht PySem.F.plainAttrs_str h2 h3 I T ha h4 h5 h6 h7 h8) λσ H Q p L Q3 t rl z k=>
 ⟨p,L,_,t,rl,z,λv H1 y L1 C J U g=>by
  split at g
  ·rename_i s;cases U;exact⟨rfl,p,L1,_,t.ts C,J,g,λvs H2 ys L2 t2 j l z2=>⟨.str s,ys,L2,Q3,rfl,l,j,z2,k.ts (C.trans t2)⟩⟩
  ·exact g.elim⟩
theorem qZ{G:G3}{H:Hp}:∀{zs:List Str} {xs:List V},xr G H (zs.map Y.str) xs->xs=zs.map V.str
 |[],_,h=>h
 |z::r,_,⟨x,J,e,q,s⟩=>by rw[e,show x=V.str z from q,qZ s];rfl
def vH(x:Y)(vs:List Y)(L:qp)(Q:YK):Prop:=match x,vs with
 |.str z,[.ref a]=>dQ L a λys=>∃zs,ys=zs.map Y.str/\(zs.map (·.length)).sum+zs.length*z.length<=16777216/\Q (.str (Txt.join z zs)) L
 |_,_=>False
theorem akm :hZ X "str.join" (upM X.g3 vH):=hZ.imq agm λx t H Q y C L I g j J z k=>by
 unfold vH at z;split at z
 ·rename_i s a;obtain⟨T,e,l,rfl,o,z⟩:=vd z;obtain⟨ws,U,r⟩:=J a _ e;obtain⟨u,rfl,p⟩:=j.inv1;cases p;rw[qZ r] at U;exact⟨s,a,l,g,rfl,wu.of U,o,k _ H _ L (DP _) J (by rfl) z⟩
 ·exact z.elim
theorem aer{tr:fA}(J:QE X o to)(U:QA X (e::es) tr)(g:attributeBase o "join" X.env (eval o X.env)=eval o X.env:=by rfl)
 (j:((backTo fm (starEach (e::es) X.env)).all (λx=>!x.1)&&(backToKw fm (keywordEach [] X.env)).all (λx=>x.1.isSome)&&decide ((e::es).length+([]:List Keyword).length+(if ([]:List Keyword).isEmpty=true then 0 else 1)<30))=true:=by rfl)
 (l:(apos.endLine==fm.line)=true:=by rfl) (p:Eb e es X:=by rfl) (r:Ec fm es X:=by rfl):
 QE X (.Call (.Attribute o "join" apos) (e::es) [] fm) (yBS vH to tr):=ai3 PySem.F.slot_str_join PySem.F.type_str_join akm J U g j l p r
theorem pN(zs:List Str):(Txt.join "" zs).cps.toList=zs.flatMap λz=>z.cps.toList:=by
 have e:∀zs:List Str,(Str.join "" zs).cps.toList=zs.flatMap λz=>z.cps.toList:=by
  intro zs
  induction zs with
  |nil=>rfl
  |cons z r J=>
   cases r with
   |nil=>simp[Str.join]
   |cons y r=>
    show(z ++ "" ++ Str.join "" (y::r)).cps.toList=_;have:(z ++ "" ++ Str.join "" (y::r)).cps=z.cps++#[]++(Str.join "" (y::r)).cps:=rfl;rw[this];simp only[C6,J,AK,Array.append_empty]
 exact(Bv (λx:Str=>x.cps.toList) (StrLaws.glued_eq_join "" zs)).trans (e zs)
def kM(t u:kn)(D:ke)(τ:jq)(L:qp):Prop:=∃J:jq->qp->Prop,t { D with nx:=J } τ L/\∀U L',J U L'->u D U L'
theorem bB{rest:List Stmt}{t u:kn}(h:QS X st t)(k:mh X rest u):mh X (st::rest) (kM t u):=fZ.imp (qQ h k) λD σ H ⟨o,L,D3,p,r,⟨J,z,q⟩,k⟩=>
 ⟨o,L,{ D3 with nx:=J },p,r,z,λC H1 U l I g j T=>⟨U,l,D3,g,j,q U l T,k.ts I⟩,k.rt,k.bk,k.ct⟩
abbrev X3:=jq->Addr->qp->Prop
abbrev eZ:=List Y->qp->YK->(Addr->qp->Prop)->Prop
def upX(G:G3)(E3:X3):X1:=λσ c H=>∃C τ L,c=.ref C/\xw G H σ τ/\j5 G H L/\E3 τ C L
def ams(G:G3)(H:Hp)(E3:Addr->qp->Prop)(E:XK):Prop:=∀C H' L',je H H'->j5 G H' L'->E3 C L'->E (.ref C) none H'
def dnX(G:G3)(sp:eZ):Sp:=λvs H Q E=>∃ys L J E3,xr G H ys vs/\j5 G H L/\sp ys L J E3/\qJ G H J Q/\ams G H E3 E
def sV(E3:Addr->qp->Prop):X3:=λ_ C L=>∃L2,qg L2 L/\E3 C L2
abbrev am8(P:Program)(w:World)(K:Ae)(mg:Str->Option Value)(base:Heap)(k:Nat)(f:Addr)(fd:FuncData)(ps:List Str)(sp:eZ):Prop:=bO P w K mg base (CXE P w) k f fd ps (dnX ⟨K,P,w⟩ sp)
structure gC(P:Program)(w:World)(K:Ae)(mg:Str->Option Value)(base:Heap)(k:Nat)(x:Str)(ps:List Str)(sp:eZ):Prop where
 ex:∃f fd,am8 P w K mg base k f fd ps sp/\dO K fd ps []/\PySem.W.keepIn K (.ref f)=true/\mg x=some (.ref f)
theorem gC.mono{P:Program}{w:World}{K:Ae}{k:Nat}{sp:eZ}(c:gC P w K mg base j x ps sp)(h:j<=k):gC P w K mg base k x ps sp:=by obtain⟨f,fd,F,b,J,m⟩:=c.ex;exact⟨f,fd,F.mono h,b,J,m⟩
theorem z0.tst{σ:L2.St}(I:z0 X pins σ H s):je X.H₀ H:=λa u i e=>by cases u with|tup J=>exact I.base.tups a J e|frz o u=>exact I.base.frzs a o u e|_=>cases i
theorem aix{P:Program}{w:World}{K:Ae}{N:List Str}{E:XK}{E3:Addr->qp->Prop}(h:ams ⟨K,P,w⟩ H E3 E):
 bW (cn (CXE P w) P w K mg base N eK scope f cd A outer s H E) (upX ⟨K,P,w⟩ (sV E3)):=by
 intro J j g l a C tr I L ap U ⟨t,T,L',o,rs,p,L2,r,q⟩;cases o;exact ade J j g l a C tr I L ap U (h C g L2 (z0.tst I) (p.sub r) q)
def iD(sp:eZ)(E3:X3)(t:fA)(τ:jq)(L:qp)(Q:YK):Prop:=t τ L λys L1=>sp ys L1 Q (E3 τ)
def uC(C:Addr)(E3:X3)(t:fA)(_:ke)(τ:jq)(L:qp):Prop:=t τ L λys L1=>ys.length<=1000/\E3 τ C L1
section
variable {tr:fA}{E3:X3}
theorem ab7{k:Nat}{sp:eZ}(c:gC X.prog X.w X.K X.mg X.base k x ps sp)(I:we k X.A)(T:Gl X x)(ht:bW X (upX X.g3 E3))(hx:X.ex=[])(ha:QA X (e::es) tr)(J:Ed x:=by decide)
 (he:Eb e es X:=by rfl) (U:Ec pos es X:=by rfl):QE X (.Call (.Name x p) (e::es) [] pos) (iD sp E3 tr):=by
 obtain⟨f,fd,F,b,kp,m⟩:=c.ex;refine DR (sH F I T m kp b ht hx ha J he U) λσ H Q g L Q3 r rl z k=>?_;exact⟨g,L,_,r,rl,z,λvs H1 ys L1 t j l z1=>⟨ys,L1,Q3,E3 g,l,j,z1,k.ts t,λC H' L' t' o q=>⟨C,g,L',rfl,r.ts (t.trans t'),o,q⟩⟩⟩
theorem qS(c:abv X.K C)(p:Gl X x)(r:X.mg x=some (.ref C))(hc:X.calm=true)(t:bW X (upX X.g3 E3))(I:X.ex=[])(T:QA X (e::es) tr)(J:Ed x:=by decide)
 (he:Eb e es X:=by rfl) (U:Ec fm es X:=by rfl):
 QS X (.Raise (some (.Call (.Name x np) (e::es) [] fm)) none pos) (uC C E3 tr):=DX (aaz c p r hc t I T J he U) λD σ H l L D3 o rl z k=>
 ⟨l,L,_,o,rl,z,λvs H1 ys L1 t1 g j ⟨hl,z1⟩=>⟨small (by rw[<-j.length];exact hl),C,l,L1,rfl,o.ts t1,g,z1⟩⟩
end
theorem aq3{P:Program}{w:World}{K:Ae}{N:List Str}{k:Nat}{sp:eZ}{t:X3->kn}(F:Fun K x eK st f fd)(S:wr N ps (qu st))(len:∀ys L Q E,sp ys L Q E->ys.length=ps.length)
 (J:∀(fx:Value) (A:Around) (outer:List Env) (s:Shared) (H:Hp) (E:XK) (E3:X3),we k (A.deeper (PyProof.Rows.envOfC eK (qu st) s.heap.objs.size f fx))->
  bW (cn (CXE P w) P w K mg base N eK (qu st) f fx A outer s H E) (upX ⟨K,P,w⟩ E3)->mh (cn (CXE P w) P w K mg base N eK (qu st) f fx A outer s H E) (jn st) (t E3))
 (vc:∀ys L Q E,sp ys L Q E->t (sV E) { nx:=λ_ L'=>df Q .non L',rt:=df Q } (eE N ys) L):am8 P w K mg base (k+1) f fd ps sp:=by
 obtain⟨oc,od,kV,a1,pm,an,fx,ct,a2,rfl,lk,g⟩:=F.ex;refine ac0 lk g S (λvs H Q E ⟨ys,L,j,E3,l,T,z,_⟩=>by rw[<-l.length];exact len ys L j E3 z) λA outer s H vs Q E hr ⟨ys,L,j,E3,l,T,z,k,kx⟩=>?_;refine⟨_,J fx A outer s H E (sV E3) hr (aix kx),eE N ys,L,_,i3 l,T,vc ys L j E3 z,?_⟩;exact⟨λσ o τ L' p a3 U ⟨L2,r,C⟩=>k .non o .non L2 p (U.sub r) (by rfl) C,λv o y L' p U I ⟨L2,r,C⟩=>k v o y L2 p (U.sub r) I C,λ_ _ _ _ _ _ _ z=>z.elim,λ_ _ _ _ _ _ _ z=>z.elim⟩
def amm(G:G3)(H:Hp)(E3:X3)(E1:X1):Prop:=∀hQ C H' J L',je H H'->xw G H' hQ J->j5 G H' L'->E3 J C L'->E1 hQ (.ref C) H'
def ako(G:G3)(t:X3->kn):X1->L2.TS:=λE1 D σ H=>∃τ L D3 E3,xw G H σ τ/\j5 G H L/\t E3 D3 τ L/\u6 G H D3 D/\amm G H E3 E1
def QB(X:Cx)(body:List Stmt)(t:X3->kn):Prop:=∀(pn:List (Addr×Obj)) (xe:Value->Shared->Prop) (E1:X1),bW (X.tr pn xe) E1->fZ (X.tr pn xe) body (ako X.g3 t E1)
section
variable {tr:fA}{cp:Pos}
theorem aj3{k:Nat}{y:Str}{sp:eZ}(c:gC X.prog X.w X.K X.mg X.base k x ps sp)(hr:we k X.A)(hg:Gl X x)(hx:X.ex=[])(hN:X.N.Nodup)(g:X.N[i]?=some y)(hy:zR X.env.scope y)(ha:∀pn xe,QA (X.tr pn xe) (e::es) tr)(j:Ed x:=by decide)
 (he:Eb e es X:=by rfl) (l:Ec cp es X:=by rfl) (hs:swapsWith (.Call (.Name x p) (e::es) [] cp) (some (.Name y gb)) pos.line X.env=pure false:=by rfl)
 (o:X.fn y=true\/X.env.scope.names.lookup y=some .local:=by first|exact .inl rfl|exact .inr rfl|assumption):
 QB X [.Assign [.Name y gb] (.Call (.Name x p) (e::es) [] cp) pos] (λE3=>zn (iD sp E3 tr) (qh i)):=by
 obtain⟨f,fd,F,b,kp,m⟩:=c.ex;intro pn xe E1 ht;refine fZ.imp (vI (aaa (X:=X.tr pn xe) hN g hy (sH (X:=X.tr pn xe) F hr hg m kp b ht hx (ha pn xe) j he l) hs o)) λD σ H ⟨J,L,D3,E3,r,rl,z,k,kx⟩=>?_;exact⟨J,L,_,r,rl,z,λvs H1 ys L1 U t I z1=>⟨ys,L1,_,E3 J,I,t,z1,(λv H2 y L2 t2 T a1 z2=>k.nx _ H2 _ L2 (U.trans t2) (show xw _ _ _ (fW J i y) by rw[bU];exact(r.ts (U.trans t2)).set a1) T z2),λC H' L' t' a2 q=>kx σ C H' J L' (U.trans t') (r.ts (U.trans t')) a2 q⟩⟩
end
section
variable {a:Expr}{ta:xz}{pt:Pos}{vs:List V}
end
open PySem L2 PySem.W
theorem vA{K:Frag}(q:excIn K C [.type "ValueError",.type "Exception",.type "BaseException",.type "object"] "ValueError.__new__"=true):abv K C:=afn q Df (by decide +kernel) Df
section
variable {K:Frag}{D:Addr}{t c:Value}{b:Bool}
theorem exm_own{cd:ClassData}(h0:subIn K (.ref D) (.type "BaseException")=some true)(h1:clsIn K D=some cd)(h2:typeIn K (.ref D)=some (.type "type"))(h3:subIn K (.ref C) (.ref D)=some b):exmOne K (.ref C) (.ref D)=some b:=by unfold exmOne;rw[AC (by rw[h0];rfl)];unfold kitCls;simp only[h1,h2,Option.isSome_some,beq_self_eq_true,Bool.and_self,if_true];exact h3
end
end L3
namespace L2
open PySem PySem.Spec PyProof.Rows
def hG(X:Cx)(ops:List CmpOp)(es:List Expr)(t:V->TE):Prop:=∀(pos:Pos) (pins:List (Addr×Obj)) (s:Shared) (σ:St) (H:Hp) (x:V) (v:Value) (Q:Bool->Hp->Prop),z0 X pins σ H s->zv x v->(t x σ H λz H'=>∃k,z=.bl k/\Q k H')->wpAny (model X.prog X.w) X.A (testChain pos v ops (evalEach es X.env)) (TP X pins σ Q) X.xe s
def ahu(r:R2)(tb:TE):V->TE:=λx σ H Q=>tb σ H λy H1=>r x y H1 Q
def ahj(r:R2)(tb:TE)(u:V->TE):V->TE:=λx σ H Q=>tb σ H λy H1=>r x y H1 λz H2=>∃k,z=.bl k/\(if k=true then u y σ H2 Q else Q (.bl false) H2)
section
variable {a b:Expr}{tb:TE}{op pR:CmpOp}{ops:List CmpOp}{r:R2}{u:V->TE}
theorem ye(g:kj X (compareOp op) r)(j:PE X b tb):hG X [op] [b] (ahu r tb):=by intro pos J s U H x v Q I l h;refine test_last (aF (j J s U H _ I h) λo p ⟨y,t,C,T,q1⟩=>aF (g J p U t x y v o _ C l T q1) λd s2 ⟨z,H2,I2,r2,k,e,q2⟩=>?_);subst e;cases r2;exact wpAny_truthy_bool ⟨H2,I2,q2⟩
theorem xW(t:kj X (compareOp op) r)(C:PE X b tb)(T:hG X (pR::ops) (c::es) u):hG X (op::pR::ops) (b::c::es) (ahj r tb u):=by
 intro pos J s U H x v Q I rx h;refine test_link (aF (C J s U H _ I h) λg s1 ⟨y,H1,I1,j,q1⟩=>aF (t J s1 U H1 x y v g _ I1 rx j q1) λd s2 ⟨z,l,o,r2,k,e,p⟩=>?_);subst e;cases r2;refine wpAny_truthy_bool ?_;cases k with
 |false=>
  obtain⟨k',e',q'⟩:=p;cases e';exact ite_ff ⟨l,o,q'⟩
 |true=>exact ite_tt (T pos J s2 U l y g Q o j p)
theorem xA(U:PE X a ta)(h:hG X (op::pR::ops) (b::c::es) u)(g:lastMarks (op::pR::ops) (b::c::es)=false):PT X (.Compare a (op::pR::ops) (b::c::es) pos) (adm λσ H Q=>ta σ H λx H1=>u x σ H1 Q):=by intro J s σ H Q I j;exact isTrue_chain (aF (U J s σ H _ I j) λv l ⟨x,H1,o,p,r⟩=>h pos J l σ H1 x v Q o p r) g
end
end L2
namespace L3
open PySem L2
def ue(ta:xz)(u:Y->xz)(τ:jq)(L:qp)(Q:YK):Prop:=ta τ L λx L1=>u x τ L1 Q
def ab4(r:mf)(tb:xz)(x:Y)(τ:jq)(L:qp)(Q:YK):Prop:=tb τ L λy L1=>r x y L1 Q
def adq(r:mf)(tb:xz)(u:Y->xz)(x:Y)(τ:jq)(L:qp)(Q:YK):Prop:=tb τ L λy L1=>r x y L1 λz L2=>match z with
 |.bl k=>wn k (u y τ L2 Q) (Q (.bl false) L2)
 |_=>False
def upC(G:G3)(u:Y->xz):V->TE:=λx σ H Q=>∃y τ L J,RV G H y x/\xw G H σ τ/\j5 G H L/\u y τ L J/\qJ G H J Q
theorem hG.imp{ops:List CmpOp}{t u:V->TE}(h:hG X ops es t)(q:∀x σ H Q,u x σ H Q->t x σ H Q):hG X ops es u:=λpos J s σ H x v Q I r z=>h pos J s σ H x v Q I r (q _ _ _ _ z)
theorem agi{r:mf}(x:V)(σ:L2.St)(H:Hp)(Q:VK):upC G (ab4 r tb) x σ H Q->ahu (eV G r) (qF G tb) x σ H Q:=λ⟨y,j,L,l,o,p,t,z,k⟩=>
 ⟨j,L,_,p,t,z,λv H1 C I g J U T=>⟨y,C,I,l,o.ts g,U,J,T,k.ts g⟩⟩
theorem aeq{r:mf}{u:Y->xz}(x:V)(σ:L2.St)(H:Hp)(Q:VK):upC G (adq r tb u) x σ H Q->ahj (eV G r) (qF G tb) (upC G u) x σ H Q:=λ⟨y,l,L,o,rv,T,rl,z,k⟩=>
 ⟨l,L,_,T,rl,z,λv H1 p L1 g t J z1=>⟨y,p,L1,_,rv.ts g,J,t,z1,λv2 H2 y2 L2 j U C z2=>by
  cases y2 with
  |bl I=>
   refine⟨I,C,?_⟩;have z3:wn I (u p l L2 o) (o (.bl false) L2):=z2;cases I with|true=>rw[AC rfl];exact⟨p,l,L2,o,J.ts j,T.ts (g.trans j),U,z3,k.ts (g.trans j)⟩|false=>rw[AF AA];exact k _ H2 _ L2 (g.trans j) U (by rfl) z3
  |_=>exact z2.elim⟩⟩
section
variable {a b:Expr}{ta:xz}{op pR:CmpOp}{ops:List CmpOp}{r:mf}{u:Y->xz}
theorem yh(J:kj X (compareOp op) (eV X.g3 r))(U:QE X b tb):hG X [op] [b] (upC X.g3 (ab4 r tb)):=hG.imp (ye J U) agi
theorem yy(J:kj X (compareOp op) (eV X.g3 r))(U:QE X b tb)(g:hG X (pR::ops) (c::es) (upC X.g3 u)):hG X (op::pR::ops) (b::c::es) (upC X.g3 (adq r tb u)):=hG.imp (xW J U g) aeq
theorem aa3(σ:L2.St)(H:Hp)(Q:VK):qF G (ue ta u) σ H Q->(λσ H Q=>qF G ta σ H λx H1=>upC G u x σ H1 Q) σ H Q:=λ⟨g,L,o,j,p,z,k⟩=>
 ⟨g,L,_,j,p,z,λv H1 y r l J U t=>⟨y,g,r,o,U,j.ts l,J,t,k.ts l⟩⟩
theorem adc(U:QE X a ta)(h:hG X (op::pR::ops) (b::c::es) (upC X.g3 u))(g:lastMarks (op::pR::ops) (b::c::es)=false:=by with_unfolding_all rfl):QT X (.Compare a (op::pR::ops) (b::c::es) pos) (yB (ue ta u)):=
 PT.imp (xA U h g) λJ H Q q=>aa3 J H _ (akt J H Q q)
end
end L3
namespace L2
open PySem PySem.Spec PyProof.Rows
theorem vG:∀{bs:List Bool} {us:List Value},zp (bs.map V.bl) us->us=bs.map Value.bool
 |[],_,.nil=>rfl
 |b::bs,_,.cons r t=>by cases (show _=Value.bool b from r);rw[vG t];rfl
theorem ac2(hc:X.calm=true:=by rfl):jx X (.builtin "all") (λxs H Q=>∃(a:Addr) (bs:List Bool),xs=[.ref a]/\wu X.K H a (bs.map V.bl)/\Q (.bl (bs.all id)) H):=by
 intro l s σ H xs us Q I r h;obtain⟨a,bs,rfl,sq,q⟩:=h;obtain⟨u,rfl,o⟩:=iq r;cases o;obtain⟨p,t,pl,_⟩:=I.list sq;cases vG t;have g:=j8 pl;have j:a<s.heap.objs.size:=by obtain⟨_,e,_⟩:=g;exact xa e
 refine xj I.tk (call_all_walk (wpAny_pyIter_list g ?_));refine⟨s.heap.objs.size,[s.heap.objs.size,a],[s.heap.objs.size],(bs.map Value.bool).toArray.size,_,_,λi=>(bs[i]?).getD true,rfl,Walks.list (A:=X.A.in1) (I.ok.hd hc) _ a (AZ j) (bs.map Value.bool).toArray,
  ⟨⟨_,xb _ rfl,rfl,rfl⟩,g.push _⟩,λi v C T E' J U=>?_,λh' tk hk ht=>?_⟩
 ·have J:(bs.map Value.bool).toArray[i]?=some v:=J;rw[List.getElem?_toArray,An] at J;obtain⟨b,e,rfl⟩:=Ao.mp J;have U:T ((bs[i]?).getD true) C:=U;rw[e] at U;exact wpAny_truthy_bool U
 ·have e:((List.range (bs.map Value.bool).toArray.size).all λi=>(bs[i]?).getD true)=bs.all id:=by rw[Ak,Ab];exact PyProof.Rows.LSm.range_all bs
  rw[e];exact⟨.bl _,H,I.kept (h':=h') (t':=tk) (PyProof.Rows.LSm.kept_iter hk),rfl,q⟩
end L2
namespace L3
open PySem L2
def yX:List Y->Option (List Bool)
 |[]=>some []
 |.bl b::r=>(yX r).map (b::·)
 |_::_=>none
theorem aca(bs:List Bool):yX (bs.map Y.bl)=some bs:=by induction bs with|nil=>rfl|cons b r J=>show(yX (r.map Y.bl)).map (b::·)=_;rw[J];rfl
theorem sP{G:G3}{H:Hp}:∀{ys:List Y} {xs:List V} {bs:List Bool},yX ys=some bs->xr G H ys xs->xs=bs.map V.bl
 |[],_,_,h,r=>by cases h;exact r
 |y::ys,_,bs,h,⟨x,J,e,U,g⟩=>by
  cases y with
  |bl b=>
   have j:(yX ys).map (b::·)=some bs:=h;obtain⟨o,l,rfl⟩:=Ao.mp j;cases (show x=V.bl b from U);rw[e,sP l g];rfl
  |_=>cases h
def akk(xs:List Y)(L:qp)(Q:YK):Prop:=match xs with
 |[y]=>tI y=true/\eY L y λys=>vP L (λbs L=>Q (.bl (List.all bs id)) L) (yX ys)
 |_=>False
theorem am0(hc:X.calm=true:=by rfl):jx X (.builtin "all") (upL X.g3 akk):=EG (ac2 hc) λo H Q p L t U J z k=>by
 unfold akk at z;split at z
 ·rename_i y;obtain⟨x,rfl,r⟩:=U.inv1;obtain⟨g,z⟩:=z;obtain⟨C,j,z⟩:=kq z;obtain⟨bs,l,z⟩:=jS z;obtain⟨a,I,rfl,sq,rr⟩:=eO J r g j;cases sP l rr;exact⟨a,bs,rfl,sq,k _ H _ L (DP _) J (by rfl) z⟩
 ·exact z.elim
theorem ait:bootBuiltins "all"=some (.builtin "all"):=by decide +kernel
def aft:Y->Option jg
 |.int i=>some (.inl i)
 |.str x=>some (.inr x)
 |_=>none
theorem mH{k:jg}(h:aft y=some k)(r:RV G H y v):v=kV k:=by cases y with|int i=>cases h;exact r|str x=>cases h;exact r|_=>cases h
def ef(kvs:List (jg×Y))(k:jg)(y:Y):List (jg×Y):=
 if (kvs.any λJ=>decide (J.1=k))=true then kvs.map (λJ=>if J.1=k then(J.1,y) else J) else kvs++[(k,y)]
theorem je.dct{p:Addr}{zs:List (jg×V)}{o:HO}(h:H p=some (.dK zs)):je H (upd H p o):=λa u i q=>by rw[qr ?_];exact q;rintro rfl;rw[h] at q;cases q;cases i
theorem ad9{xs:List (jg×V)}(p:Paired (λ(p:jg×Y) (q:jg×V)=>p.1=q.1/\RV G H p.2 q.2) kvs xs)(k:jg):(kvs.any λJ=>decide (J.1=k))=xs.any λJ=>decide (J.1=k):=by induction p with|nil=>rfl|cons r t U=>rw[B9,B9,U,r.1]
theorem ad0{xs:List (jg×V)}(p:Paired (λ(p:jg×Y) (q:jg×V)=>p.1=q.1/\RV G H p.2 q.2) kvs xs)(k:jg)(r:RV G H y v):
 Paired (λ(p:jg×Y) (q:jg×V)=>p.1=q.1/\RV G H p.2 q.2) (kvs.map λJ=>if J.1=k then(J.1,y) else J) (xs.map λJ=>if J.1=k then(J.1,v) else J):=by
 induction p with
 |nil=>exact .nil
 |@cons a b _ _ U t g=>
  refine .cons ?_ g;obtain⟨e,q⟩:=U;dsimp only;by_cases c:a.1=k
  ·rw[AC c,AC (e▸c)];exact⟨e,r⟩
  ·rw[AF c,AF (λz=>c (e.trans z))];exact⟨e,q⟩
theorem y4{xs:List (jg×V)}(p:Paired (λ(p:jg×Y) (q:jg×V)=>p.1=q.1/\RV G H p.2 q.2) kvs xs)(k:jg)(r:RV G H y v):
 Paired (λ(p:jg×Y) (q:jg×V)=>p.1=q.1/\RV G H p.2 q.2) (kvs++[(k,y)]) (xs++[(k,v)]):=by
 induction p with|nil=>exact .cons ⟨rfl,r⟩ .nil|cons J t U=>exact .cons J U
theorem acn{xs:List (jg×V)}(p:Paired (λ(p:jg×Y) (q:jg×V)=>p.1=q.1/\RV G H p.2 q.2) kvs xs)(k:jg)(r:RV G H y v):
 Paired (λ(p:jg×Y) (q:jg×V)=>p.1=q.1/\RV G H p.2 q.2) (ef kvs k y) (dh xs k v):=by
 unfold ef dh;rw[ad9 p k];by_cases c:(xs.any λJ=>decide (J.1=k))=true
 ·rw[AC c,AC c];exact ad0 p k r
 ·rw[AF c,AF c];exact y4 p k r
theorem qV{R:α->β->Prop}{l:List α}{m:List β}(p:Paired R l m):l.length=m.length:=by induction p with|nil=>rfl|cons _ _ J=>rw[AN,AN,J]
def sY(_:jq)(L:qp)(Q:YK):Prop:=∀p,L p=none->Q (.ref p) (qf L p (.dct []))
def gi(td ti:xz)(τ:jq)(L:qp)(Q:YK):Prop:=td τ L λx L1=>ti τ L1 λy L2=>match x,aft y with
 |.ref a,some k=>pi L2 a λkvs=>vP L2 Q (ko kvs k)
 |_,_=>False
def dy(td ti tv:xz)(D:ke)(τ:jq)(L:qp):Prop:=tv τ L λv L1=>td τ L1 λx L2=>ti τ L2 λy L3=>match x,aft y with
 |.ref a,some k=>pi L3 a λkvs=>kvs.length<sizeLine/\D.nx τ (qf L3 a (.dct (ef kvs k v)))
 |_,_=>False
section
variable {i:Expr}{td tv:xz}
theorem jW:QE X (.Dict [] [] pos) sY:=DR acm λg H Q j L l o U z k=>λp J=>by
 refine k _ _ _ (qf L p (.dct [])) (DQ J) (λa u e=>?_) (by rfl) (z p (U.none J));by_cases c:a=p
 ·subst c;rw[q8] at e;cases e;exact⟨[],zg,.nil⟩
 ·rw[qb c] at e;exact(U a u e).keep (DQ J) (qr c)
theorem bX(hu:X.A.units+128<cLine)(C:QE X o td)(hi:QE X i ti)(hs:aj5 i):QE X (.Subscript o i pos) (gi td ti):=DR (aev (by omega) C hi hs) λσ H Q p L Q3 r I z k=>
 ⟨p,L,_,r,I,z,λv H1 x T t U g z1=>⟨p,T,_,r.ts t,U,z1,λw H2 y L2 t2 J j l=>by
  split at l
  ·rename_i a kk ek;obtain⟨a1,e,z3⟩:=eF l;obtain⟨yv,ev,q⟩:=jS z3;obtain⟨xs,e2,pr⟩:=J a _ e;obtain⟨xv,ex,rx⟩:=oC pr ev;exact⟨a,xv,g,.inl ⟨xs,kk,.inl e2,mH ek j,ex.symm⟩,k _ H2 _ L2 (t.trans t2) J rx q⟩
  ·exact l.elim⟩⟩
theorem aw(hu:X.A.units+128<cLine)(ho:QE X o td)(hi:QE X i ti)(hv:QE X value tv)(hs:swapsWith value (some (.Subscript o i gb)) pos.line X.env=pure false:=by rfl):QS X (.Assign [.Subscript o i gb] value pos) (dy td ti tv):=
 DX (afq (by omega) ho hi hv hs) λD σ H r L D3 U rl z k=>
 ⟨r,L,_,U,rl,z,λv H1 vy L1 g t C z1=>⟨r,L1,_,U.ts g,t,z1,λx H2 xy L2 j I T z2=>⟨r,L2,_,U.ts (g.trans j),I,z2,λw H3 y L3 t3 J a1 z3=>by
  split at z3
  ·rename_i a kk ek;obtain⟨a2,e,hl,q⟩:=eF z3;obtain⟨xs,e2,pr⟩:=J a _ e;have l:je H3 (upd H3 a (.dK (dh xs kk v))):=je.dct e2;cases (show x=V.ref a from T);refine⟨a,_,rfl,.inl ⟨xs,kk,e2,mH ek a1,by rw[<-qV pr];exact hl,rfl⟩,?_⟩;refine k.nx _ _ _ _ (((g.trans j).trans t3).trans l) (U.ts (((g.trans j).trans t3).trans l)) (λb u p=>?_) q;by_cases c:b=a
   ·subst c;rw[q8] at p;cases p;exact⟨_,zg,DS (acn pr kk (C.ts (j.trans t3))) λ_ _ ⟨h1,h2⟩=>⟨h1,h2.ts l⟩⟩
   ·rw[qb c] at p;exact(J b u p).keep l (qr c)
  ·exact z3.elim⟩⟩⟩
end
def ahq(to ti tv:xz)(D:ke)(τ:jq)(L:qp):Prop:=tv τ L λv L1=>to τ L1 λx L2=>ti τ L2 λy L3=>match x,y with
 |.ref a,.int i=>dQ L3 a λys=>vP L3 (λj L=>D.nx τ (qf L a (.lst (ys.set j v)))) (ixN ys.length i)
 |_,_=>False
section
variable {i:Expr}{tv:xz}
theorem ag1(ho:QE X o to)(hi:QE X i ti)(hv:QE X value tv)
 (ha:∀v,assign (.Subscript o i gb) X.env v=(do
  let U <-holding [v] (eval o X.env)
  let t <-holding [v,U] (eval i X.env)
  standAt gb
  holding [v,U,t] (setItem U t v)
  release [v,U,t] []):=by intro _;rfl)
 (h1:swapsWithSole [.Subscript o i gb] value pos.line X.env=pure false:=by rfl) (h2:swappedStores [.Subscript o i gb] value X.env=pure none:=by rfl)
 (h3:(assignEach [.Subscript o i gb] X.env).map (·.2)=[assign (.Subscript o i gb) X.env]:=by rfl):QS X (.Assign [.Subscript o i gb] value pos) (ahq to ti tv):=
 DX (aa6 hv (ajn ho hi aal ha) h1 h2 h3) λD σ H C L D3 g rl z k=>
 ⟨C,L,_,g,rl,z,λv H1 vy L1 l I T z1=>⟨C,L1,_,g.ts l,I,z1,λx H2 xy L2 p a1 a2 z2=>⟨C,L2,_,g.ts (l.trans p),a1,z2,λw H3 y L3 t3 J a3 z3=>by
  split at z3
  ·rename_i a ii;obtain⟨ys,e,z4⟩:=vd z3;obtain⟨j,ej,q⟩:=jS z4;obtain⟨xs,e2,r⟩:=J a _ e;cases (show x=V.ref a from a2);cases (show w=V.int ii from a3);have tt:je H3 (upd H3 a (.lst (xs.set j v))):=EC e2;exact⟨a,xs,ii,j,rfl,rfl,e2,by rw[<-r.length];exact ej,k.nx _ _ _ _ (((l.trans p).trans t3).trans tt) (g.ts (((l.trans p).trans t3).trans tt)) (J.setL e2 (xr.setY (T.ts (p.trans t3)) j r)) q⟩
  ·exact z3.elim⟩⟩⟩
end
end L3
namespace L2
open PySem PySem.Spec PyProof.Rows
section
variable {v₁ v₂:Expr}{te:TE}{u:Str->TE}
end
end L2
namespace L3
open PySem L2
section
variable {v₁ v₂:Expr}{u:Str->xz}
end
section
variable {tv:xz}{tr:fA}{f m:Str}{g:Addr}
end
open PySem.AutoSeq1 (wpAny_loadPart')
open MeetsSeq MeetsSeq2 MeetsSeq3 SeqRoads2
def ahm(x y:Y)(L:qp)(Q:YK):Prop:=eY L x λxs=>eY L y λys=>tI x=true/\tI y=true/\xs.length+ys.length<=sizeLine/\∀p,L p=none->Q (.ref p) (qf L p (.lst (xs++ys)))
theorem ajx(K:Ae)(P:Program)(w:World)(hK:X.K=K:=by rfl)(hP:X.prog=P:=by rfl)(hw:X.w=w:=by rfl):kj X (binaryOp .Add) (eV ⟨K,P,w⟩ ahm):=by
 subst hK hP hw;intro a1 s σ H x y v u Q I rx ry ⟨x3,y3,L,Q3,r1,r2,r,z,k⟩;obtain⟨xs,ex,z⟩:=kq z;obtain⟨ys,ey,z⟩:=kq z;obtain⟨lx,ly,hz,q⟩:=z;obtain⟨a,ws,rfl,s1,g⟩:=eO r r1 lx ex;obtain⟨b,a3,rfl,s2,j⟩:=eO r r2 ly ey;cases rx;cases ry;obtain⟨J,vx,tx,_⟩:=I.list s1;obtain⟨U,vy,ty,_⟩:=I.list s2;obtain⟨⟨cls,dd,data,sl⟩,ho,hc,n,hd⟩:=id (j8 tx);obtain⟨⟨a2,t,data2,C⟩,l,o,n2,p⟩:=id (j8 ty);simp only at hc hd o p;subst hc hd o p;have l1:=vx.length;have l2:=vy.length;have l3:=g.length;have l4:=j.length;have T:J.toArray.size+U.toArray.size<=sizeLine:=by rw[Ak,Ak];lia
 refine concat_meets ⟨_,ho,rfl⟩ ⟨_,l,rfl⟩ noFill_list_add seq_list_add PySem.F.slot_list_add PySem.F.entry_list_add (PySem.F.args_list_add_2 _ _) (PyProof.Rows.list_addW a b J.toArray U.toArray n n2 dd t sl C T) ⟨ho,l,?_⟩;have e:J.toArray++U.toArray=(J++U).toArray:=by simp
 rw[e];exact⟨.ref _,_,I.lnew (t':=s.toks) (vx.append vy) (by rw[Ac];lia),rfl,k _ _ _ _ (DQ I.fresh) (r.newL I.fresh (g.app j)) (by rfl) (q _ (r.none I.fresh))⟩
end L3
namespace Txs
open PySem PySem.Builtin.Str
theorem len_list(x:Str):x.cps.toList.length=x.length:=by simp[Str.length]
end Txs
namespace L2
open PySem PySem.Spec PyProof.Rows
section
variable {isp imk c j1 j2:Nat}{sp mk:Str}{u:Tok}{m:Str->Option Value}{p6 p7 p8 p9 p10:Pos}{Q:Flow->Shared->Prop}
end
end L2
namespace L2
open PySem PySem.Spec PyProof.Rows
end L2
namespace L3
open PySem L2
section
variable {tr:fA}{m:Str}{k:Nat}{sp:jz}
end
end L3
namespace L2
open PySem PySem.Spec PyProof.Rows
section
variable {te:TE}
end
end L2
namespace L3
open PySem L2
end L3
namespace L2
open PySem PySem.Spec PyProof.Rows
section
variable {T:Addr}{tr:Option Addr}
end
section
variable {T:List Str}{iter:Expr}{g:TG}{te:TE}
end
section
variable {T:Addr}{tr:Option Addr}{E1:X1}
end
section
variable {k:Nat}{E1:X1}{t:TA}
end
end L2
namespace L3
open PySem L2
section
variable {T:List Str}{iter:Expr}{wi:TI3}{tr:fA}{E3:X3}{Ea:Addr->qp->Prop}
end
end L3
namespace L2
open PySem PySem.Spec PyProof.Rows
end L2
namespace L2
open PySem PySem.Spec PyProof.Rows
section
variable {w:World}
theorem sQ{it t:Addr}{eH:Array Value}(J:t≠it):∀(n i:Nat) (s:Shared) (Q:List Value->Shared->Prop),s.heap.IsListIter it t i->s.heap.IsList t eH->i+n<=eH.size->
 (∀h',h'.IsListIter it t (i+n)->Heap.SameBut it s.heap h'->Q ((eH.toList.drop i).take n) { s with heap:=h' })->wpAny (model prog w) A (draw (.ref it) n) Q E s
 |0,i,s,Q,hit,_,_,j=>by unfold draw;exact Ah (by simpa using j s.heap hit (Heap.SameBut.refl ..))
 |n+1,i,s,Q,hit,r,C,j=>by
  have U:i<eH.size:=by omega
  unfold draw;refine Aa (wpAny_pyNext_list_item hit r (x:=eH[i]) (by simp[U]) λg1 l g=>?_);refine Aa (AY (sQ J n (i+1) _ _ l (r.extBut g.extBut J) (by lia) λg2 o p=>Ah ?_));have e:eH.toList.drop i=eH[i]::eH.toList.drop (i+1):=by simp[B1,U]
  have q:=j g2 (by rw[show i+(n+1)=i+1+n by simp +arith only];exact o)
   (g.trans p)
  rw[e,List.take_succ_cons] at q;exact q
theorem ah1{t:Addr}{eH:Array Value}{Q:Unit->Shared->Prop}(T:A.handled=none)(J:s.heap.IsList t eH)(hn:(assignEach nC env).length=eH.size)(l:(assignEach nC env).findIdx? (·.1)=none)
 (h:∀g,Heap.ExtBut s.heap.objs.size s.heap g->wpAny (model prog w) A (assignInOrder ((assignEach nC env).map (·.2)) eH.toList) Q E { s with heap:=g }):wpAny (model prog w) A (assign (.Tuple nC x1 pos) env (.ref t)) Q E s:=by
 have U:t≠s.heap.objs.size:=by obtain⟨o,ho,_⟩:=J;exact AZ (xa ho)
 rw[arm_assign_Tuple];refine Aa (wpAny_standAt ?_);unfold unpack;rw[hn,l];refine Aa (AY ?_);unfold unpackItems notIterableAtAll;refine Aa (Aa (wpAny_specialOf J.typeIs slot_list_iter.lookup ?_));refine Ah ?_;rw[AF (by simp)];refine Aa (AY (wpAny_pyIter_list J ?_));refine Aa (AY (sQ U eH.size 0 _ _ ⟨_,xb _ rfl,rfl,rfl⟩ (J.push _) (by simp +arith only) λg1 p j=>?_));have all:List.take eH.size (List.drop 0 eH.toList)=eH.toList:=by rw[De];exact BE (by simp)
 rw[all,AF (by simp)];have r:g1.IsList t eH:=(J.push _).extBut j.extBut U;refine Aa (AY (wpAny_pyNext_list_end T p r (by simp) λg2 C=>?_));rw[AF (by simp)];exact Ah (h g2 λb o I e=>C b o I (j.extBut b o I (wh _ e)))
end
def asc(K:Ae)(n:Nat)(t:TGs):TG:=λv σ H Q=>∃a xs,v=.ref a/\wu K H a xs/\xs.length=n/\t xs σ H Q
theorem aij{k:Nat}{t:TGs}(hc:X.calm=true)(h:PGs X es t)
 (l:(assignEach es X.env).length=n:=by rfl) (U:(assignEach es X.env).findIdx? (·.1)=none:=by rfl):PG X (.Tuple es k pos) (asc X.K n t):=by
 intro J s g H v u Q I r hw;obtain⟨a,p,C,T,hl,hw⟩:=hw;subst C;cases r;obtain⟨a1,j,pl,hz⟩:=I.list T;have ht:=j8 pl;refine ah1 (I.ok.hd hc) ht (by simp[l,<-hl,j.length]) U λh' hx=>?_;have I1:z0 X J g H { s with heap:=h' }:=I.kept (t':=s.toks) λb o e=>hx b o (AZ (xa e)) e;exact h J _ g H p _ Q I1 (by simpa using j) hw
theorem ae5(l:Addr)(eH:Array Value)(n:Nat)(x:Value)(b:Nat->Bool)(j:Nat)(I:j<eH.size)(hit:b j=true)(hz:eH.size<=sizeLine):∀(k i:Nat),j-i=k->i<=j->(∀m,i<=m->m<j->b m=false)->
 Meets (Builtin.«list.remove.loop» ⟨[.ref l,x,rawInt i],[]⟩) (λA R s=>s.heap.get? l=some { cls:=.type "list",dict:=none,data:=.seq eH n,slots:=#[] }/\(∀m (hm:m<eH.size),SeqAt.EqAt A.in1 s eH[m] x (b m))/\R (.ok (.ret .none)) { s with heap:=s.heap.update l (Obj.mapSeq λxs=>xs.eraseIdxIfInBounds j) }):=by
 intro k
 induction k with
 |zero=>
  intro i T r U J w A R s h;obtain⟨hp,g,d,tk,os⟩:=s;obtain⟨o,eq,h⟩:=h;have e:i=j:=by lia
  subst e
  (wp_walk using wpAny_loadPart' o)
  have t:eH[((i:Nat):Int).toNat]?=some eH[i]:=by simp[I]
  rw[t];refine Aa (eq i I J w _ _ ?_);rw[hit];have C:(eH.eraseIdxIfInBounds i).size<=sizeLine+1:=AM (MeetsSeq.size_erased eH _) (BD hz)
  (wp_walk using (wpAny_updateSeq o rfl (hz:=hz) (_hz':=C)),wpAny_loadPart' o)
  simpa using h
 |succ k ih=>
  intro i T r U J w A R s h;obtain⟨hp,g,d,tk,os⟩:=s;obtain⟨o,eq,h⟩:=h;have p:i<eH.size:=by exact ac9
  (wp_walk using wpAny_loadPart' o)
  have t:eH[((i:Nat):Int).toNat]?=some eH[i]:=by simp[p]
  have hc:((i:Int)+1)=((i+1:Nat):Int):=by rfl
  rw[t];refine Aa (eq i p J w _ _ ?_);rw[U i (Al _) (by omega)]
  wp_walk
  rw[hc];refine⟨plainId_quiet Db _,codeAny_builtin MeetsSeq.entry_remove_loop ?_⟩;rw[Eg Db _];exact ih (i+1) (by omega) (by omega) (λm h1 h2=>U m (by exact uS) h2) J w A R _ ⟨o,eq,h⟩
theorem ad4(l:Addr)(eH:Array Value)(n:Nat)(x:Value)(b:Nat->Bool)(j:Nat)(p:j<eH.size)(hit:b j=true)(hz:eH.size<=sizeLine)(U:∀m,m<j->b m=false):
 Meets (Builtin.«list.remove» ⟨[.ref l,x],[]⟩) (λA R s=>s.heap.get? l=some { cls:=.type "list",dict:=none,data:=.seq eH n,slots:=#[] }/\(∀m (r:m<eH.size),SeqAt.EqAt A.in1 s eH[m] x (b m))/\R (.ok (.ret .none)) { s with heap:=s.heap.update l (Obj.mapSeq λxs=>xs.eraseIdxIfInBounds j) }):=by
 intro J w A R s h;obtain⟨t,g,d,tk,os⟩:=s;obtain⟨o,eq,h⟩:=h
 (wp_walk using wpAny_loadPart' o)
 refine⟨plainId_quiet Db _,codeAny_builtin MeetsSeq.entry_remove_loop ?_⟩;rw[Eg Db _];exact ae5 l eH n x b j p hit hz _ 0 rfl (A9 _) (λm _ h2=>U m h2) J w A R _ ⟨o,eq,h⟩
theorem zp.eraseN:∀{xs:List V} {us:List Value} (n:Nat),zp xs us->zp (xs.eraseIdx n) (us.eraseIdx n)
 |[],_,n,.nil=>by simp;exact .nil
 |_::_,_,0,.cons _ t=>t
 |_::_,_,n+1,.cons r t=>.cons r (zp.eraseN n t)
def af0(X:Cx):V->List V->Hp->VK->Prop:=λx vs H Q=>∃l xs y ds e,∃n m j:Nat,x=.ref l/\vs=[y]/\H l=some (.lst xs)/\n<=126/\Paired (kh X.K H n) xs ds/\kh X.K H m y e/\j<ds.length/\(∃d,ds[j]?=some d/\Da.eq d e=true)/\
 (∀(k:Nat) d,k<j->ds[k]?=some d->Da.eq d e=false)/\Q .non (upd H l (.lst (xs.eraseIdx j)))
theorem xO(hu:X.A.units+128<cLine):hZ X "list.remove" (af0 X):=by
 intro a5 s σ H x vs v us Q I rx rv h;obtain⟨l,o,y,g,e,n,m,j,rfl,rfl,hH,hn,pd,ry,hj,⟨dj,t,C⟩,T,q⟩:=h;cases rx;obtain⟨u,rfl,ru⟩:=rv.one;obtain⟨z,J,nn,r,hl,eo⟩:=I.lstM hH;have l1:o.length=g.length:=pd.length;have l2:J.length=o.length:=r.length.symm;obtain⟨arr,U⟩:∃arr:Array Value,arr=J.toArray:=⟨_,rfl⟩;have a1:arr.size=J.length:=by rw[U,Ak]
 have b:Nat->Bool:=λ_=>true;have a2:arr.size<=sizeLine:=by rw[a1];lia
 have M:=ad4 l arr nn u (λk=>((g[k]?).map λd=>Da.eq d e).getD false) j (by lia) (by show((g[j]?).map λd=>Da.eq d e).getD false=true;rw[t];exact C) a2 (λk p=>by show((g[k]?).map λd=>Da.eq d e).getD false=false;cases ek:g[k]? with|none=>rfl|some d=>exact T k d p ek)
 rw[U] at M;refine call_meets F.slot_list_remove ⟨_,eo,rfl⟩ F.entry_list_remove (F.args_list_remove_2 _ _) M ⟨eo,λk p=>?_,?_⟩
 ·have ag:k<J.length:=by rw[Ak] at p;exact p
  obtain⟨d,ed,rd⟩:=Words.Paired.getP pd (Af (by lia:k<o.length));show SeqAt.EqAt _ s _ u (((g[k]?).map λd=>Da.eq d e).getD false);rw[ed];obtain⟨u',a3,a4⟩:=Words.Paired.getP r (Af (by lia:k<o.length));have eg:J.toArray[k]=u':=by have:=(AW.mp a3).2;simpa using this
  rw[eg];exact kZ I n (by show X.A.units+1+n<cLine;lia) rd ry a4 ru
 ·refine⟨.non,_,I.lset (its':=J.eraseIdx j) hH eo ?_ (r.eraseN j) ?_,rfl,q⟩
  ·have:j<J.length:=by lia
   simp[Array.eraseIdxIfInBounds,this]
  ·have:=CM o j;exact ao9
end L2
namespace L3
open PySem L2
def ahy(n:Nat)(t:sG)(y:Y)(τ:jq)(L:qp)(Q:jq->qp->Prop):Prop:=match y with
 |.ref a=>dQ L a λys=>match ys.length==n with
  |true=>t ys τ L Q
  |false=>False
 |_=>False
theorem ajq{g:Nat}(hc:X.calm=true)(h:QGs X es gs)(h1:(assignEach es X.env).length=n:=by rfl)(h2:(assignEach es X.env).findIdx? (·.1)=none:=by rfl):QG X (.Tuple es g pos) (ahy n gs):=
 PG.imp (aij hc h h1 h2) λv σ H Q ⟨y,j,L,l,o,p,U,z,k⟩=>by
 cases y with
 |ref a=>
  cases (show v=.ref a from o);obtain⟨t,e,J⟩:=vd z;obtain⟨C,I,r⟩:=U a _ e;split at J
  ·rename_i T;exact⟨a,C,rfl,wu.of I,by rw[<-r.length];exact beq_iff_eq.mp T,t,j,L,l,r,p,U,J,k⟩
  ·exact J.elim
 |_=>exact z.elim
def kB(x:Y)(vs:List Y)(L:qp)(Q:YK):Prop:=match x,vs with
 |.ref a,[v]=>dQ L a λys=>∃ds e,∃n m j:Nat,n<=126/\Paired (jj L n) ys ds/\jj L m v e/\j<ds.length/\(∃d,ds[j]?=some d/\Da.eq d e=true)/\(∀(k:Nat) d,k<j->ds[k]?=some d->Da.eq d e=false)/\Q .non (qf L a (.lst (ys.eraseIdx j)))
 |_,_=>False
theorem acr(I:X.A.units+128<cLine):hZ X "list.remove" (upM X.g3 kB):=hZ.imq (xO I) λx J H Q y g L Q3 T r2 l z k=>by
 unfold kB at z;split at z
 ·rename_i a v;obtain⟨zs,e,U,de,n,m,j,hn,pd,dv,hj,hit,o,z⟩:=vd z;obtain⟨us,C,r⟩:=l a _ e;obtain⟨v',rfl,rv⟩:=r2.inv1;have both:∀{g:List Y} {U:List Da} {J:List V},Paired (jj L n) g U->xr X.g3 H g J->Paired (kh X.K H n) J U:=by
   intro g U J p
   induction p generalizing J with
   |nil=>intro q;cases (show J=[] from q);exact .nil
   |cons h t ih=>
    rintro⟨x,a1,rfl,q1,q2⟩;exact .cons (jj.rep l h q1) (ih q2)
  exact⟨a,us,v',U,de,n,m,j,T,rfl,C,hn,both pd r,jj.rep l dv rv,hj,hit,o,k _ _ _ _ (EC C) (l.setL C (r.eraseIdx j)) (by rfl) z⟩
 ·exact z.elim
theorem xU(J:X.A.units+128<cLine){tr:fA}(U:QE X o to)(g:QA X (e::es) tr)(j:attributeBase o "remove" X.env (eval o X.env)=eval o X.env:=by rfl)
 (l:((backTo fm (starEach (e::es) X.env)).all (λx=>!x.1)&&(backToKw fm (keywordEach [] X.env)).all (λx=>x.1.isSome)&&decide ((e::es).length+([]:List Keyword).length+(if ([]:List Keyword).isEmpty=true then 0 else 1)<30))=true:=by rfl)
 (p:(apos.endLine==fm.line)=true:=by rfl) (r:Eb e es X:=by rfl) (t:Ec fm es X:=by rfl):
 QE X (.Call (.Attribute o "remove" apos) (e::es) [] fm) (ak kB to tr):=pC PySem.F.slot_list_remove PySem.F.type_list_remove (acr J) U g j l p r t
end L3
namespace L2
open PySem PySem.Spec PyProof.Rows
end L2
namespace L2
open PySem PySem.Spec PyProof.Rows
def as8:List V->Hp->VK->Prop:=λxs H Q=>∃n:Int,xs=[.int n]/\∀p,H p=none->Q (.ref p) (upd H p (.rng 0 n))
theorem aan:jx X (.type "range") as8:=by intro J s g H j l Q I r h;obtain⟨n,rfl,q⟩:=h;obtain⟨u,rfl,U⟩:=r.one;obtain⟨t,rfl⟩:=(show ∃t,u=Value.int n t from U);refine call_range_1 ?_;refine⟨.ref s.heap.objs.size,_,I.laid (t':=s.toks+1+1) (o:=.rng 0 n) (λb ob q=>wh _ q) (Al _) ?_,rfl,q _ (I.hok.fresh (Al _))⟩;exact⟨s.toks,t,s.toks+1,xb _ rfl⟩
theorem uo{J:Array Value}(h:ItemsOf (λi v=>∃t,v=.int (0+(i:Int)*1) t) J n):zp ((List.range n).map λi:Nat=>V.int (0+(i:Int))) J.toList:=by
 have len:J.toList.length=n:=by rw[Bq];exact h.1
 have key:∀(l:List Value) (k:Nat),(∀(j:Nat) v,l[j]?=some v->∃t,v=Value.int (0+((k+j:Nat):Int)*1) t)->zp ((List.range' k l.length).map λi:Nat=>V.int (0+(i:Int))) l:=by
  intro l
  induction l with
  |nil=>intro k _;exact .nil
  |cons v r o=>
   intro k g;rw[AN,Dv,AG];obtain⟨t,e⟩:=g 0 v rfl;refine .cons ?_ (o (k+1) λj p U=>?_)
   ·exact⟨t,by rw[e];simp⟩
   ·have:=g (j+1) p U;rw[show k+1+j=k+(j+1) by simp +arith only];exact this
 have:=key J.toList 0 λj v U=>by rw[Nat.zero_add];exact h.2 j v (by simpa using U)
 rw[len,<-List.range_eq_range'] at this;exact this
def amr:List V->Hp->VK->Prop:=λxs H Q=>∃a,∃n:Nat,xs=[.ref a]/\H a=some (.rng 0 n)/\n<=100000/\∀p,H p=none->Q (.ref p) (upd H p (.lst ((List.range n).map λi:Nat=>V.int (0+(i:Int)))))
theorem xL(hc:X.calm=true):jx X (.type "list") amr:=by
 intro g s σ H xs us Q I r h;obtain⟨a,n,rfl,j,l,q⟩:=h;obtain⟨u,rfl,p⟩:=r.one;cases (show u=Value.ref a from p);obtain⟨t,u,v,e⟩:=I.hok a _ j;have hb:(100000:Nat)<=sizeLine:=by decide
 have C:Builtin.Range.rangeSize 0 (n:Int) 1=((n:Nat):Int):=by rw[rangeSize_one];split<;>lia
 refine xj I.tk (call_list_range (I.ok.hd hc) (show IsRange s.heap a 0 (n:Int) 1 t u v from e) (small_one (by decide) (by decide) (by exact A3 _) (by omega)) C (AM l (by decide)) λh' tk U c T hS J ht=>?_);refine⟨.ref s.heap.objs.size,_,I.laid (t':=tk) (o:=.lst ((List.range n).map λi:Nat=>V.int (0+(i:Int)))) T (Al _) ?_,rfl,q _ (I.hok.fresh (Al _))⟩;refine⟨by rw[Ab,Bw];exact ao9,U.toList,c,uo J,?_⟩;rw[hS]
end L2
namespace L3
open PySem L2
theorem aj2:bootBuiltins "range"=some (.type "range"):=by decide +kernel
def rE(te:xz)(τ:jq)(L:qp)(Q:YK):Prop:=te τ L λy L1=>match y with
 |.int n=>(0<=n/\n<=100000)/\∀p,L1 p=none->Q (.ref p) (qf L1 p (.lst (aq 0 n.toNat)))
 |_=>False
theorem aed(n:Nat):xr G H (aq 0 n) ((List.range n).map λi:Nat=>V.int (0+(i:Int))):=by
 unfold aq;generalize List.range n=l
 induction l with|nil=>rfl|cons k r J=>exact⟨_,_,rfl,rfl,J⟩
theorem vB{J:Pos}(hc:X.calm=true)(I:Gl X "list")(T:X.mg "list"=none)(l:Gl X "range")(o:X.mg "range"=none)(h:QE X e te)
 (h1:starEach [.Call (.Name "range" p2) [e] [] J] X.env=(false,eval (.Call (.Name "range" p2) [e] [] J) X.env)::starEach [] X.env:=by rfl) (h2:(backTo pos (starEach [] X.env)).any (·.1)=false:=by rfl)
 (h3:starEach [e] X.env=(false,eval e X.env)::starEach [] X.env:=by rfl) (h4:(backTo J (starEach [] X.env)).any (·.1)=false:=by rfl):
 QE X (.Call (.Name "list" p) [.Call (.Name "range" p2) [e] [] J] [] pos) (rE te):=
 DR (iK (xL hc) I T wy (ck (iK aan l o aj2 (ck h hJ h3) (by decide) (by decide) h3 h4) hJ h1) (by decide) (by decide) h1 h2) λσ H Q τ L Q3 rs rl z k=>
 ⟨τ,L,_,rs,rl,z,λv H1 y L1 t1 U r g=>by
  cases y with
  |int n=>
   obtain⟨⟨h0,h5⟩,g⟩:=g;cases (show v=V.int n from r);obtain⟨m,rfl⟩:∃m:Nat,n=(m:Int):=⟨n.toNat,by lia⟩;refine⟨_,rfl,λq t=>⟨q,m,rfl,zg,by lia,λp j=>?_⟩⟩;have C:H1 p=none:=by
    by_cases c:p=q
    ·subst c;exact t
    ·rw[qr c] at j;exact j
   exact k _ _ _ _ (t1.trans ((DQ t).trans (DQ j))) ((U.skip t).newL j (aed m)) (by rfl) (g p (U.none C))
  |_=>exact g.elim⟩
section
variable {tr:fA}{m:Str}{g:Addr}
end
end L3
namespace TS
open PySem PyProof.Rows
section
variable {w:World}
structure Ord(prog:Program)(w:World)(A:Around)(s:Shared)(κ:SortKind)(Ok:Keyed->Prop)(f:Keyed->Int):Prop where
 lt:∀x y,Ok x->Ok y->∀{E:Value->Shared->Prop} {Q:Bool->Shared->Prop},Q (decide (f x<f y)) s->wpAny (model prog w) A (keyLt' κ x.1 y.1) Q E s
variable {κ:SortKind}{Ok:Keyed->Prop}{f:Keyed->Int}
theorem w_lt(O:Ord prog w A s κ Ok f){st:SortSt}{x y:Keyed}{Q:Option Bool->SortSt->Prop}(J:kindOf st=κ)(U:Ok x)(g:Ok y)(h:Q (some (decide (f x<f y))) st):wpS (model prog w) A E s (lt' x y) Q st:=by rw[lt'_eq];refine Ax (wpS_get ?_);rw[J];refine Ax (wpS_lift (wpAny_attempt (O.lt x y U g ⟨rfl,?_⟩)));exact AI h
theorem aa1{arr:Array Keyed}{x:Keyed}{st:SortSt}{Q:Keyed->SortSt->Prop}(h:arr[i]?=some x)(q:Q x st):wpS (model prog w) A E s (elem' arr i) Q st:=by rw[elem'_eq,h];exact AI q
end
section
variable {f:Keyed->Int}{a b r4:Array Keyed}{ia ib:Nat}
end
section
variable {w:World}{κ:SortKind}{Ok:Keyed->Prop}{f:Keyed->Int}
end
theorem amx(l:List Keyed){k:Nat}(h:i<=k):l.take i++(l.drop i).take (k-i)=l.take k:=by have:=List.take_add (l:=l) (i:=i) (j:=k-i);rw[show i+(k-i)=k by omega] at this;exact this.symm
section
variable {f:Keyed->Int}{a b r4:Array Keyed}{na nb:Nat}
end
section
variable {w:World}{κ:SortKind}{Ok:Keyed->Prop}{f:Keyed->Int}
end
section
variable {w:World}{κ:SortKind}{Ok:Keyed->Prop}{f:Keyed->Int}
theorem aqk{l:List Keyed}(s:l.Pairwise λx y=>f x<=f y)(J:i<=j)(U:j<l.length):f (l[i]'(by exact ac9))<=f l[j]:=by
 rcases Nat.lt_or_eq_of_le J with h|h
 ·exact Dj.mp s i j (by exact ac9) U h
 ·subst h;exact CZ _
end
theorem iw{arr:Array α}{P R:List α}(h:arr.toList=P++R)(J:n<=R.length):(mirror arr P.length (P.length+n) ((P.length+n-P.length) / 2)).toList=P++((R.take n).reverse++R.drop n):=by
 have U:arr.size=P.length+R.length:=by rw[<-Bq,h];simp
 refine List.ext_getElem? λk=>?_;rw[Be,getElem?_mirror_all (by lia)];by_cases c:P.length<=k/\k<P.length+n
 ·rw[AC c,<-Be,h,Ay (by omega),Ay (by lia),AH (by simp;omega),CW (by simp;omega),Ck,A4,AC (by omega)];congr 1;lia
 ·rw[AF c,<-Be,h];by_cases c2:k<P.length
  ·rw[AH c2,AH c2]
  ·rw[Ay (by exact acz),Ay (by omega),Ay (by simp;lia),Dg];congr 1;simp;lia
theorem sN{arr:Array α}{P R:List α}{k l:Nat}(h:arr.toList=P++R)(J:k<R.length)(U:l<=k):(bubble arr (P.length+k) (P.length+k-(P.length+l))).toList=P++(R.take l++R[k]::((R.drop l).take (k-l)++R.drop (k+1))):=by
 have g:arr.size=P.length+R.length:=by rw[<-Bq,h];simp
 refine List.ext_getElem? λi=>?_;rw[Be,getElem?_bubble (by lia) _ (by exact Nat.sub_le _ _),show P.length+k-(P.length+k-(P.length+l))=P.length+l by omega];by_cases c1:i=P.length+l
 ·rw[AC c1,<-Be,h,c1,Ay (by exact BI _ _),Ay (by exact BI _ _),Ay (by simp;lia)];rw[show P.length+l-P.length-(R.take l).length=0 by simp;lia,show P.length+k-P.length=k by lia,List.getElem?_cons_zero];simp[J]
 ·rw[AF c1];by_cases c2:P.length+l<i/\i<=P.length+k
  ·rw[AC c2,<-Be,h,Ay (by omega),Ay (by lia),Ay (by simp;lia)];obtain⟨d,hd⟩:∃d,i=P.length+l+d+1:=⟨i-P.length-l-1,by omega⟩;rw[show i-P.length-(R.take l).length=d+1 by simp;lia,CL,AH (by simp;omega),Ck,AC (by omega),Dg];congr 1;omega
  ·rw[AF c2,<-Be,h];by_cases c3:i<P.length
   ·rw[AH c3,AH c3]
   ·rw[Ay (by exact acz),Ay (by omega)];by_cases c4:i<P.length+l
    ·rw[AH (by simp;lia),Ck,AC (by omega)]
    ·obtain⟨d,hd⟩:∃d,i=P.length+k+d+1:=⟨i-P.length-k-1,by omega⟩;rw[Ay (by simp;lia),show i-P.length-(R.take l).length=(k-l)+d+1 by simp;lia,CL,Ay (by simp;omega),Dg];congr 1;simp;lia
section
variable {w:World}{κ:SortKind}{Ok:Keyed->Prop}{f:Keyed->Int}
structure Tl(κ:SortKind)(Ok:Keyed->Prop)(st:SortSt)(P R:List Keyed):Prop where
 kind:kindOf st=κ
 arr:(arrOf st).toList=P++R
 ok:∀x∈R,Ok x
theorem hY(O:Ord prog w A s κ Ok f){st:SortSt}{P R:List Keyed}(T:Tl κ Ok st P R)(hi:i<R.length)(J:j<R.length){a b:Nat}(U:a=P.length+i)(g:b=P.length+j){Q:Option Bool->SortSt->Prop}(q:Q (some (decide (f R[i]<f R[j]))) st):wpS (model prog w) A E s (ltAt' a b) Q st:=by
 have at_:∀i (hi:i<R.length),(arrOf st)[P.length+i]?=some R[i]:=λi hi=>by rw[<-Be,T.arr,Ay (by exact BI _ _),Dw];simp
 subst U g;rw[ltAt'_eq];refine Ax (wpS_get ?_);refine Ax (aa1 (at_ i hi) (Ax (aa1 (at_ j J) ?_)));exact w_lt O T.kind (T.ok _ (List.getElem_mem _)) (T.ok _ (List.getElem_mem _)) q
def Up(f:Keyed->Int)(R:List Keyed)(n:Nat):Prop:=∀i j (_:i<=j) (_:j<R.length),j<n->f (R[i]'(by exact ac9))<=f R[j]
theorem Up.snoc{R:List Keyed}(h:Up f R n)(h1:1<=n)(l:n<R.length)(hs:f (R[n-1]'(by exact t7))<=f R[n]):Up f R (n+1):=λi j J U g=>by
 rcases C8 j n with c|c
 ·exact h i j J U c
 ·have e:j=n:=by lia
  subst e;rcases C8 i j with c2|c2
  ·exact DC (h i (j-1) (by omega) (by exact t7) (by exact am1)) hs
  ·have e:i=j:=by lia
   subst e;exact CZ _
theorem Up.pair{R:List Keyed}(h:Up f R n)(l:n<=R.length):(R.take n).Pairwise λx y=>f x<=f y:=by rw[Dj];intro i j J U g;rw[A4] at J U;rw[Bx,Bx];exact h i j (by exact uS) (by lia) (by lia)
end
section
variable {w:World}{κ:SortKind}{Ok:Keyed->Prop}{f:Keyed->Int}
theorem Tl.same{st:SortSt}{P R R':List Keyed}(T:Tl κ Ok st P R)(p:R'.Perm R){arr:Array Keyed}(h:arr.toList=P++R'):Tl κ Ok (setArr st arr) P R':=⟨T.kind,h,λx J=>T.ok x (p.mem_iff.mp J)⟩
theorem Up.one{R:List Keyed}:Up f R 1:=λi j J U h=>by
 have:i=j:=by lia
 subst this;exact CZ _
theorem iV{c:Prop}{_:Decidable c}{K T:StateT SortSt Sem α}{P:SortSt->Prop}{Q:α->SortSt->Prop}{st:SortSt}(U:¬c->P st)(key:∀J,P J->wpS (model prog w) A E s K Q J)
 (g:c->(∀J,P J->wpS (model prog w) A E s K Q J)->wpS (model prog w) A E s T Q st):wpS (model prog w) A E s (if c then T else K) Q st:=by
 by_cases h:c
 ·rw[AC h];exact g h key
 ·rw[AF h];exact key st (U h)
def fe(f:Keyed->Int)(R:List Keyed)(n:Nat):Prop:=∀i j (_:i<=j) (_:j<R.length),j<n->f R[j]<=f (R[i]'(by exact ac9))
theorem aa0{R R':List Keyed}(e:R'.map f=R.map f)(h1:i<R'.length)(h2:i<R.length):f R'[i]=f R[i]:=by
 have:(R'.map f)[i]?=(R.map f)[i]?:=by rw[e]
 rw[An,An,Af h1,Af h2] at this;exact AO this
theorem fe.same{R R':List Keyed}(D:fe f R n)(e:R'.map f=R.map f):fe f R' n:=λi j J g U=>by
 have l:R'.length=R.length:=by have:=Bv List.length e;rwa[Ab,Ab] at this
 rw[aa0 e g (by lia),aa0 e (by lia) (by lia)];exact D i j J (by lia) U
theorem fe.snoc{R:List Keyed}(h:fe f R n)(h1:1<=n)(l:n<R.length)(hs:f R[n]<=f (R[n-1]'(by exact t7))):fe f R (n+1):=λi j J U g=>by
 rcases C8 j n with c|c
 ·exact h i j J U c
 ·have e:j=n:=by lia
  subst e;rcases C8 i j with c2|c2
  ·exact DC hs (h i (j-1) (by omega) (by exact t7) (by exact am1))
  ·have e:i=j:=by lia
   subst e;exact CZ _
theorem lV{arr:Array Keyed}{P R:List Keyed}{a b:Nat}{v:Int}(h:arr.toList=P++R)(g:a<=b)(o:b<=R.length)(j:∀i (_:i<R.length),a<=i->i<b->f R[i]=v):
 ∃R',(mirror arr (P.length+a) (P.length+b) ((P.length+b-(P.length+a)) / 2)).toList=P++R'/\R'.Perm R/\R'.map f=R.map f:=by
 have l:(P++R.take a).length=P.length+a:=by simp;lia
 have J:R=R.take a++((R.drop a).take (b-a)++(R.drop a).drop (b-a)):=by rw[A5,A5]
 have m:=iw (P:=P++R.take a) (R:=R.drop a) (n:=b-a) (by rw[h,AR,A5]) (by simp;lia);rw[l,show P.length+a+(b-a)=P.length+b by lia,AR] at m;refine⟨_,m,?_,?_⟩
 ·refine List.Perm.trans ?_ (List.Perm.of_eq J.symm);exact(Dk _).mpr ((Ct _).mpr (Dn _))
 ·have r:((R.drop a).take (b-a)).map f=List.replicate (b-a) v:=by refine List.ext_getElem (by simp;lia) λi h1 h2=>?_;rw[List.getElem_map,Bx,List.getElem_drop,List.getElem_replicate];rw[BY] at h2;exact j _ _ (by lia) (by lia)
  have U:=Bv (List.map f) J;rw[Av,Av,r] at U;rw[Av,Av,List.map_reverse,r,List.reverse_replicate,U]
theorem afx(O:Ord prog w A s κ Ok f){st:SortSt}{P R:List Keyed}(T:Tl κ Ok st P R)(h1:1<=R.length){Q:Option Nat->SortSt->Prop}
 (q:∀n R' arr,1<=n->n<=R.length->R'.Perm R->arr.toList=P++R'->Up f R' n->Q (some n) (setArr st arr)):wpS (model prog w) A E s (countRun' P.length R.length) Q st:=by
 have bb:setArr st (arrOf st)=st:=rfl;refine Ax (wpS_mono (Bm (I:=λx c g=>g=st/\c=(none,x)/\Up f R x)
  (Q:=λc g=>g=st/\∃n,c=(none,n)/\1<=n/\n<=R.length/\Up f R n/\(n=R.length\/∃h:n<R.length,f R[n]<f (R[n-1]'(by exact t7)))) ?_ ?_ ⟨rfl,rfl,Up.one⟩) ?_)
 ·rintro x c g t hx ⟨rfl,rfl,U⟩;dsimp only;refine Ax (hY O T (i:=x) (j:=x-1) hx (by exact t7) rfl (by lia) ?_);dsimp only;by_cases c:f R[x]<f (R[x-1]'(by omega))
  ·rw[AD c,AC rfl];exact AI ⟨rfl,x,rfl,t,by exact uS,U,.inr ⟨hx,c⟩⟩
  ·rw[Au c,AF (by simp)];exact AI ⟨rfl,rfl,U.snoc t hx (by omega)⟩
 ·rintro c g ⟨rfl,rfl,U⟩;exact⟨rfl,_,rfl,by lia,by lia,by rw[CY h1] at *;exact U,.inl (by lia)⟩
 ·rintro c g ⟨rfl,n,rfl,a3,a4,U,ag⟩;dsimp only;by_cases c1:(n==R.length)=true
  ·rw[AC c1];exact AI (q n R (arrOf g) a3 a4 (BM _) T.arr U)
  rw[AF c1];have c1:¬n=R.length:=by simpa using c1
  have ao:n<R.length:=by exact ar2
  have hd:f R[n]<f (R[n-1]'(by omega)):=by
   rcases ag with h|⟨h,h'⟩
   ·exact absurd h c1
   ·exact h'
  refine iV (P:=λo=>∃arr R',o=setArr g arr/\arr.toList=P++R'/\R'.Perm R/\fe f R' (n+1)) (λc2=>⟨arrOf g,R,rfl,T.arr,BM _,?_⟩) ?_ (λc2 key=>?_)
  ·obtain rfl:n=1:=by lia
   exact fe.snoc (λi j au hj a5=>by (have e:i=j:=by lia);(subst e;exact CZ _)) (Al _) ao (C9 hd)
  rotate_left
  ·refine Ax (hY O T (i:=0) (j:=n-1) (by assumption) (by exact t7) rfl (by omega) ?_);dsimp only;by_cases c3:f R[0]<f (R[n-1]'(by omega))
   ·rw[AD c3,AC rfl];exact AI (q n R (arrOf g) a3 a4 (BM _) T.arr U)
   rw[Au c3,AF (by simp)];have al:∀i (_:i<R.length),0<=i->i<n->f R[i]=f R[0]:=λi hi _ ba=>by have a1:=U 0 i (A9 _) hi ba;have a2:=U i (n-1) (by lia) (by lia) (by lia);lia
   obtain⟨R',m1,m2,m3⟩:=lV (f:=f) T.arr (A9 n) a4 al;refine Ax (wpS_modify (key _ ⟨_,R',rfl,m1,m2,fe.same (fe.snoc (λi j au hj a5=>?_) a3 ao (C9 hd)) m3⟩));rw[al j hj (A9 _) a5,al i (by lia) (A9 _) (by lia)];exact CZ _
  rintro _ ⟨arr,R0,rfl,r,av,D0⟩;refine Ax (wpS_lift (BJ ⟨rfl,?_⟩));have l0:R0.length=R.length:=av.length_eq;refine Ax (wpS_mono (Bm (I:=λx c o=>∃J arr R',c=(none,x,J)/\o=setArr g arr/\arr.toList=P++R'/\R'.Perm R/\fe f R' x/\J+1<=x/\∃v,∀i (_:i<R'.length),x-(J+1)<=i->i<x->f R'[i]=v)
   (Q:=λc o=>∃n J arr R',c=(none,n,J)/\o=setArr g arr/\arr.toList=P++R'/\R'.Perm R/\fe f R' n/\J+1<=n/\n<=R.length/\∃v,∀i (_:i<R'.length),n-(J+1)<=i->i<n->f R'[i]=v) ?_ ?_ ⟨0,arr,R0,rfl,rfl,r,av,D0,by lia,f (R0[n]'(by lia)),λi hi h2 h3=>by (have e:i=n:=by lia);(subst e;rfl)⟩) ?_)
  ·rintro x c o t hx ⟨J,arr,p,rfl,rfl,r,l,D,hq,v,C⟩;have l1:p.length=R.length:=l.length_eq;have T1:=T.same l r;dsimp only;refine Ax (hY O T1 (i:=x) (j:=x-1) (by lia) (by lia) rfl (by lia) ?_);dsimp only;by_cases c:f (p[x]'(by lia))<f (p[x-1]'(by omega))
   ·rw[AD c,AC rfl];refine iV (P:=λo=>∃arr R',o=setArr g arr/\arr.toList=P++R'/\R'.Perm R/\fe f R' (x+1)) (λ_=>⟨arr,p,rfl,r,l,D.snoc (by lia) (by lia) (C9 c)⟩) ?_ (λc2 key=>?_)
    ·rintro _ ⟨arr,R',rfl,r,l,D⟩;exact AI ⟨0,arr,R',rfl,rfl,r,l,D,by lia,f (R'[x]'(by have:=l.length_eq;lia)),λi hi h2 h3=>by (have e:i=x:=by lia);(subst e;rfl)⟩
    ·obtain⟨R',m1,m2,m3⟩:=lV (f:=f) (a:=x-(J+1)) (b:=x) r (by lia) (by lia) C;refine Ax (wpS_modify (key _ ⟨_,R',rfl,?_,m2.trans l,fe.same (D.snoc (by lia) (by lia) (C9 c)) m3⟩));rw[<-m1];show(mirror arr (P.length+x-(J+1)) (P.length+x) ((P.length+x-(P.length+x-(J+1))) / 2)).toList=_;rw[show P.length+x-(J+1)=P.length+(x-(J+1)) by lia]
   ·rw[Au c,AF (by simp)];refine Ax (hY O T1 (i:=x-1) (j:=x) (by omega) (by lia) (by lia) rfl ?_);dsimp only;by_cases c3:f (p[x-1]'(by omega))<f (p[x]'(by lia))
    ·rw[AD c3,AC rfl];exact AI ⟨x,J,arr,p,rfl,rfl,r,l,D,hq,by lia,v,C⟩
    ·rw[Au c3,AF (by simp)];refine AI ⟨J+1,arr,p,rfl,rfl,r,l,D.snoc (by lia) (by lia) (by lia),by lia,v,λi hi h2 h3=>?_⟩;rcases C8 i x with h|h
     ·exact C i hi (by lia) h
     ·have:i=x:=by lia
      subst this;rw[<-C (i-1) (by lia) (by lia) (by lia)];lia
  ·rintro c o ⟨J,arr,p,rfl,rfl,r,l,D,hq,v,C⟩;exact⟨_,J,arr,p,rfl,rfl,r,l,D,hq,by lia,v,C⟩
  ·rintro c o ⟨n,J,arr,p,rfl,rfl,r,l,D,hq,g2,v,C⟩;have l1:p.length=R.length:=l.length_eq;dsimp only;refine iV (P:=λo=>∃arr R',o=setArr g arr/\arr.toList=P++R'/\R'.Perm R/\fe f R' n) (λ_=>⟨arr,p,rfl,r,l,D⟩) ?_ (λc2 key=>?_)
   rotate_left
   ·obtain⟨R',m1,m2,m3⟩:=lV (f:=f) (a:=n-(J+1)) (b:=n) r (by lia) (by lia) C;refine Ax (wpS_modify (key _ ⟨_,R',rfl,?_,m2.trans l,D.same m3⟩));rw[<-m1];show(mirror arr (P.length+n-(J+1)) (P.length+n) ((P.length+n-(P.length+n-(J+1))) / 2)).toList=_;rw[show P.length+n-(J+1)=P.length+(n-(J+1)) by lia]
   clear C D r l l1;rintro _ ⟨arr,p,rfl,r,l,D⟩;have l1:p.length=R.length:=l.length_eq;have T1:=T.same l r;have T':=T1.same (R':=(p.take n).reverse++p.drop n) (((Ct _).mpr (Dn _)).trans (by rw[A5])) (iw r (by lia));obtain⟨R',eR⟩:∃R',R'=(p.take n).reverse++p.drop n:=⟨_,rfl⟩;have aL:R'.Perm R:=by rw[eR];exact(((Ct _).mpr (Dn _)).trans (by rw[A5])).trans l
   have lR:R'.length=R.length:=aL.length_eq;have U':Up f R' n:=λi j au hj a5=>by
    subst eR;rw[Ds (by simp;lia),Ds (by simp;lia),List.getElem_reverse,List.getElem_reverse,Bx,Bx];refine D _ _ ?_ (by simp;omega) ?_
    ·simp;omega
    ·simp;omega
   rw[<-eR] at T';refine Ax (wpS_modify ?_);refine Ax (wpS_mono (Bm (I:=λx c o=>o=setArr g (mirror arr P.length (P.length+n) ((P.length+n-P.length) / 2))/\c=(none,x)/\Up f R' x)
    (Q:=λc o=>o=setArr g (mirror arr P.length (P.length+n) ((P.length+n-P.length) / 2))/\∃n,c=(none,n)/\1<=n/\n<=R.length/\Up f R' n) ?_ ?_ ⟨rfl,rfl,U'⟩) ?_)
   ·rintro x c o t hx ⟨rfl,rfl,U⟩;dsimp only;refine Ax (hY O T' (i:=x) (j:=x-1) (by lia) (by omega) rfl (by lia) ?_);dsimp only;by_cases c:f (R'[x]'(by omega))<f (R'[x-1]'(by omega))
    ·rw[AD c,AC rfl];exact AI ⟨rfl,x,rfl,by lia,by exact uS,U⟩
    ·rw[Au c,AF (by simp)];exact AI ⟨rfl,rfl,U.snoc (by omega) (by lia) (by omega)⟩
   ·rintro c o ⟨rfl,rfl,U⟩;exact⟨rfl,_,rfl,by lia,by lia,U⟩
   ·rintro c o ⟨rfl,n,rfl,k1,k2,U⟩;exact AI (q n R' _ k1 k2 aL T'.arr U)
end
section
variable {w:World}{κ:SortKind}{Ok:Keyed->Prop}{f:Keyed->Int}
theorem Up.of{R:List Keyed}(h:(R.take n).Pairwise λx y=>f x<=f y):Up f R n:=λi j J g U=>by have:=aqk h (i:=i) (j:=j) J (by simp;lia);rw[Bx,Bx] at this;exact this
theorem abl{R:List Keyed}{k l:Nat}(J:k<R.length)(U:l<=k):(R.take l++R[k]::((R.drop l).take (k-l)++R.drop (k+1))).Perm R:=by
 have e:R=R.take l++((R.drop l).take (k-l)++(R[k]::R.drop (k+1))):=by rw[<-AR,amx _ U,<-B1 J,A5]
 refine List.Perm.trans ?_ (List.Perm.of_eq e.symm);exact(Dk _).mpr Cw.symm
theorem ak5{R:List Keyed}{k l:Nat}(r:k<R.length)(t:l<=k)(U:Up f R k)(lo:∀i (_:i<l),f (R[i]'(by lia))<=f R[k])(hi:∀i (_:i<k),l<=i->f R[k]<=f (R[i]'(by exact abt))):
 Up f (R.take l++R[k]::((R.drop l).take (k-l)++R.drop (k+1))) (k+1):=by
 apply Up.of;have e:R.take l++R[k]::((R.drop l).take (k-l)++R.drop (k+1))=(R.take l++R[k]::(R.drop l).take (k-l))++R.drop (k+1):=by simp
 rw[e,List.take_left' (by simp;lia)];have J:=U.pair (Bo r);rw[<-amx R t] at J;have J:=C0.mp J;have C:∀y∈(R.drop l).take (k-l),f R[k]<=f y:=λy g=>by obtain⟨j,p,rfl⟩:=List.getElem_of_mem g;rw[A4,Cv] at p;rw[Bx,List.getElem_drop];exact hi (l+j) (by lia) (by exact BI _ _)
 have I:∀x∈R.take l,f x<=f R[k]:=λx o=>by obtain⟨j,p,rfl⟩:=List.getElem_of_mem o;rw[A4] at p;rw[Bx];exact lo j (by lia)
 refine C0.mpr ⟨J.1,List.pairwise_cons.mpr ⟨C,J.2.1⟩,λx o y g=>?_⟩;rcases Am.mp g with rfl|g
 ·exact I x o
 ·exact J.2.2 x o y g
theorem ao1(O:Ord prog w A s κ Ok f){st:SortSt}{P R:List Keyed}(T:Tl κ Ok st P R){ok:Nat}(hn:n<=R.length)(h1:1<=ok)(ho:ok<=n)(U:Up f R ok){Q:Bool->SortSt->Prop}
 (q:∀R' arr,R'.Perm R->arr.toList=P++R'->Up f R' n->Q true (setArr st arr)):wpS (model prog w) A E s (binarySort' P.length n ok) Q st:=by
 have a1:setArr st (arrOf st)=st:=rfl;refine Ax (wpS_mono (Bm (I:=λx c J=>c=(none,())/\∃R' arr,J=setArr st arr/\R'.Perm R/\arr.toList=P++R'/\Up f R' x)
  (Q:=λc J=>c=(none,())/\∃R' arr,J=setArr st arr/\R'.Perm R/\arr.toList=P++R'/\Up f R' n) ?_ ?_ ⟨rfl,R,arrOf st,rfl,BM _,T.arr,by rw[C3 h1];exact U⟩) ?_)
 ·rintro x c J a2 hx ⟨rfl,R',arr,rfl,p,t,o⟩;have T':=T.same p t;have lR:R'.length=R.length:=p.length_eq;have g:x<R'.length:=by lia
  dsimp only;refine Ax (wpS_mono (Bm (I:=λy c J=>J=setArr st arr/\∃l r,c=(none,l,r)/\l<=r/\r<=x/\r-l+y<=x/\(∀i (_:i<l) (_:i<R'.length),f R'[i]<=f R'[x])/\(∀i (_:i<x),r<=i->f R'[x]<=f (R'[i]'(by exact abt))))
   (Q:=λc J=>J=setArr st arr/\∃l,c=(none,l,l)/\l<=x/\(∀i (_:i<l) (_:i<R'.length),f R'[i]<=f R'[x])/\(∀i (_:i<x),l<=i->f R'[x]<=f (R'[i]'(by lia)))) ?_ ?_ ⟨rfl,0,x,rfl,A9 _,Al _,by exact Nat.sub_le _ _,λi h=>by lia,λi h h'=>by omega⟩) ?_)
  ·rintro y c J _ hy ⟨rfl,l,r,rfl,g1,g2,g3,C,g5⟩;dsimp only;by_cases c:l>=r
   ·rw[AC c];obtain rfl:l=r:=by lia
    exact AI ⟨rfl,l,rfl,g2,C,g5⟩
   ·rw[AF c];refine Ax (hY O T' (i:=x) (j:=(l+r) / 2) g (by lia) rfl rfl ?_);dsimp only;by_cases e:f R'[x]<f (R'[(l+r) / 2]'(by lia))
    ·rw[AD e,AC rfl];refine AI ⟨rfl,l,(l+r) / 2,rfl,by lia,by lia,by omega,C,λi h h'=>?_⟩;exact DC (C9 e) (o _ _ h' (by exact abt) h)
    ·rw[Au e,AF (by simp)];refine AI ⟨rfl,(l+r) / 2+1,r,rfl,by lia,g2,by omega,λi h h'=>?_,g5⟩;exact DC (o i ((l+r) / 2) (by exact aqu) (by lia) (by lia)) (by omega)
  ·rintro c J ⟨rfl,l,r,rfl,g1,g2,g3,C,g5⟩;obtain rfl:l=r:=by lia
   exact⟨rfl,l,rfl,g2,C,g5⟩
  ·rintro c J ⟨rfl,l,rfl,g2,C,g5⟩;dsimp only;refine Ax (wpS_modify ?_);exact AI ⟨rfl,_,_,rfl,(abl g g2).trans p,sN t g g2,ak5 g g2 o (λi h=>C i h (by lia)) g5⟩
 ·rintro c J ⟨rfl,R',arr,rfl,p,t,o⟩;exact⟨rfl,R',arr,rfl,p,t,by rw[C3 h1,CY ho] at o;exact o⟩
 ·rintro c J ⟨rfl,R',arr,rfl,p,t,o⟩;exact AI (q R' arr p t o)
end
section
variable {w:World}{κ:SortKind}{Ok:Keyed->Prop}{f:Keyed->Int}
end
open PySem PyProof.Rows PySem.W
def ans(h:Heap)(B:Int)(x:Keyed):Prop:=∃a o n r p t u,x.1=.ref a/\h.get? a=some o/\o.data=.seq #[.int r t,.int p u] n/\0<=p/\p<B
noncomputable def num(h:Heap)(B:Int)(x:Keyed):Int:=match x.1 with
 |.ref a=>match h.get? a with
  |some o=>match o.data with
   |.seq xs _=>match xs.toList with
    |[.int r _,.int p _]=>r*B+p
    |_=>0
   |_=>0
  |none=>0
 |_=>0
theorem num_of{x:Keyed}{o:Obj}{r p:Int}{t u:Tok}(J:x.1=.ref a)(U:h.get? a=some o)(g:o.data=.seq #[.int r t,.int p u] n):num h B x=r*B+p:=by unfold num;simp[J,U,g]
theorem sh{w:World} :Ord prog w A s (tuples' true) (ans s.heap B) (num s.heap B):=by
 constructor;rintro x y ⟨a1,o1,n1,J,U,t,C,o,g1,d1,b1,c1⟩ ⟨a2,o2,n2,g,j,I,T,p,g2,d2,b2,c2⟩ E Q h;rw[num_of o g1 d1,num_of p g2 d2] at h;rw[o,p];refine kat_lt g1 d1 g2 d2 ?_;show KatLex prog w A true _ Q [(.int J t,.int g I),(.int U C,.int j T)] 0 s;refine kat_cons (wpAny_eqBool_int ?_);by_cases c:J=g
 ·subst c;rw[beq_self_eq_true];refine kat_yes (kat_cons (wpAny_eqBool_int ?_));by_cases r:U=j
  ·subst r;rw[beq_self_eq_true];refine kat_yes (kat_nil ?_);have e:decide (J*B+U<J*B+U)=false:=Au (by lia);rw[e] at h;exact h
  ·rw[DH r];refine kat_no (kat_one _ _ (PyProof.Rows.lt_int ?_));have e:decide (J*B+U<J*B+j)=decide (U<j):=by
    by_cases z:U<j
    ·rw[AD z];exact AD (by lia)
    ·rw[Au z];exact Au (by lia)
   rw[e] at h;exact h
 ·rw[DH c];refine kat_no (oneLt_int ?_);have e:decide (J*B+U<g*B+j)=decide (J<g):=by
   by_cases z:J<g
   ·rw[AD z];have l:(J+1)*B<=g*B:=Cg (by assumption) (by lia);rw[Int.add_mul,Int.one_mul] at l;exact AD (by omega)
   ·rw[Au z];have l:(g+1)*B<=J*B:=Cg (by lia) (by lia);rw[Int.add_mul,Int.one_mul] at l;exact Au (by lia)
  rw[e] at h;exact h
section
variable {w:World}{κ:SortKind}{Ok:Keyed->Prop}{f:Keyed->Int}
theorem adg{N:Nat}(h1:1<=N)(h:N<64):(sortPriv% PySem.Builtin.minRun) N N 0=N:=by obtain⟨r,rfl⟩:∃r,N=r+1:=⟨N-1,by omega⟩;show minRun' (r+1) (r+1) 0=r+1;rw[minRun'_succ,AC h]
structure Srt(f:Keyed->Int)(l:List Keyed)(st:SortSt):Prop where
 fl:failedOf st=none
 pn:(pendingOf st).size<=1
 pm:(arrOf st).toList.Perm l
 pw:(arrOf st).toList.Pairwise λx y=>f x<=f y
theorem tG(O:Ord prog w A s κ Ok f){st:SortSt}{Q:Unit->SortSt->Prop}(o:(arrOf st).size<64)(hk:kindOf st=κ)(r:pendingOf st=#[])(hf:failedOf st=none)(ok:∀x∈(arrOf st).toList,Ok x)
 (q:∀J,failedOf J=none->(arrOf J).toList.Perm (arrOf st).toList->((arrOf J).toList.Pairwise λx y=>f x<=f y)->Q () J):wpS (model prog w) A E s sortRuns' Q st:=by
 refine Ax (wpS_get ?_);dsimp only;have C:(arrOf st).toList.length=(arrOf st).size:=Bq;obtain⟨N,eN⟩:∃N,N=(arrOf st).size:=⟨_,rfl⟩;rw[<-eN] at o C ⊢;obtain⟨R,t⟩:∃R,R=(arrOf st).toList:=⟨_,rfl⟩;rw[<-t] at C ok q;generalize a1:(sortPriv% PySem.Builtin.minRun) N N 0=mr;refine Ax (wpS_mono (Bm (I:=λx c J=>∃lo,c=(none,lo)/\((x=0/\lo=0/\J=st)\/(lo=N/\Srt f R J)))
  (Q:=λc J=>∃lo,c=(none,lo)/\Srt f R J) ?_ ?_ ⟨0,rfl,.inl ⟨rfl,rfl,rfl⟩⟩) ?_)
 ·rintro x c J _ hx ⟨lo,rfl,h⟩;dsimp only;by_cases c:lo>=N
  ·rw[AC c];rcases h with⟨h1,h2,_⟩|⟨_,h⟩
   ·omega
   ·exact AI ⟨lo,rfl,h⟩
  rw[AF c];obtain⟨rfl,rfl,rfl⟩:x=0/\lo=0/\J=st:=by
   rcases h with h|⟨h,_⟩
   ·exact h
   ·omega
  have em:mr=N:=by rw[<-a1];exact adg (by omega) o
  subst em;have T:Tl κ Ok J [] R:=⟨hk,t.symm,ok⟩;rw[DD,<-C];refine Ax (afx O T (by omega) λn R1 U g1 g2 g p U1=>?_);dsimp only;have T1:=T.same g p;have l1:R1.length=R.length:=g.length_eq;have xg:∀(arr:Array Keyed) (R2:List Keyed) (l:Nat),R2.Perm R->arr.toList=[]++R2->Up f R2 R.length->l=R.length->∃lo,((none,0+l):Option Unit×Nat)=(none,lo)/\((0+1=0/\lo=0/\setPending (setArr J arr) ((pendingOf (setArr J arr)).push (0,l,0))=J)\/(lo=R.length/\Srt f R (setPending (setArr J arr) ((pendingOf (setArr J arr)).push (0,l,0))))):=λarr R2 l p2 e2 U2 en=>by
   refine⟨0+l,rfl,.inr ⟨by omega,⟨hf,?_,?_,?_⟩⟩⟩
   ·show((pendingOf J).push (0,l,0)).size<=1;rw[r];exact Al 1
   ·show arr.toList.Perm R;rw[e2];exact p2
   ·show arr.toList.Pairwise _;rw[e2];have:=U2.pair (by rw[p2.length_eq];exact Al _);rw[<-p2.length_eq,Ba] at this;exact this
  by_cases cm:n<R.length
  ·rw[AC cm];refine Ax (wpS_lift (BJ ⟨rfl,?_⟩));rw[Nat.min_self];refine Ax (ao1 O T1 (by omega) g1 (by omega) U1 λR2 j a2 a3 U2=>?_);rw[AF (by simp)];refine Ax (wpS_get ?_);have eb:(pendingOf (setArr (setArr J U) j)).back?=none:=by show(pendingOf J).back?=none;rw[r];rfl
   rw[eb];exact Ax (wpS_modify (AI (xg j R2 _ (a2.trans g) a3 U2 rfl)))
  ·rw[AF cm];refine Ax (wpS_get ?_);have eb:(pendingOf (setArr J U)).back?=none:=by show(pendingOf J).back?=none;rw[r];rfl
   rw[eb];have en:n=R.length:=by omega
   exact Ax (wpS_modify (AI (xg U R1 _ g p (en▸U1) en)))
 ·rintro c J ⟨lo,rfl,h⟩;refine⟨lo,rfl,?_⟩;rcases h with⟨h1,h2,rfl⟩|⟨_,h⟩
  ·have:R=[]:=BN (by omega);refine⟨hf,by rw[r];exact A9 _,by rw[<-t],?_⟩;rw[<-t,this];exact List.Pairwise.nil
  ·exact h
 ·rintro c J ⟨lo,rfl,h⟩;dsimp only;refine Ax (wpS_mono (Bm (I:=λy c qI=>c=(none,())/\Srt f R qI) (Q:=λc qI=>c=(none,())/\Srt f R qI) ?_ ?_ ⟨rfl,h⟩) ?_)
  ·rintro y c qI _ hy ⟨rfl,h3⟩;refine Ax (wpS_get ?_);rw[AC h3.pn];exact AI ⟨rfl,h3⟩
  ·rintro c qI h3;exact h3
  ·rintro c qI ⟨rfl,h3⟩;exact AI (q qI h3.fl h3.pm h3.pw)
end
section
variable {w:World}
def dt(h:Heap)(B:Int)(v:Value):Prop:=∃a o n r p t u,v=.ref a/\h.get? a=some o/\o.cls=.type "tuple" /\ o.data=.seq #[.int r t,.int p u] n/\0<=p/\p<B
theorem dt.pair{x:Keyed}(k:dt h B x.1):ans h B x:=by obtain⟨a,o,n,r,p,t,u,J,U,_,g,j,l⟩:=k;exact⟨a,o,n,r,p,t,u,J,U,g,j,l⟩
theorem tups{h:Heap}{B:Int}:∀{ks:List Value},(∀v∈ks,dt h B v)->∃fs,KatTups h ks fs/\fs.length=ks.length/\∀v∈fs,∃r t,v=Value.int r t
 |[],_=>⟨[],trivial,rfl,λv J=>by simp at J⟩
 |k::ks,U=>by
  obtain⟨fs,h1,h2,h3⟩:=tups (ks:=ks) λv J=>U v (Ad _ J);obtain⟨a,o,n,r,p,t,u,rfl,g,j,l,_,_⟩:=U k (Aj ..);refine⟨.int r t::fs,KatTups.cons g j l rfl h1,by simp[h2],λv J=>?_⟩;rcases Am.mp J with rfl|J
  ·exact⟨r,t,rfl⟩
  ·exact h3 v J
theorem aag{ks:List Value}{Q:SortKind->Shared->Prop}(J:∀v∈ks,dt s.heap B v)(h0:0<ks.length)(q:Q (tuples' true) s):wpAny (model prog w) A (keyKind' ks.toArray) Q E s:=by
 obtain⟨fs,h1,h2,h3⟩:=tups J;refine kat_kind (T:=.type "int") h1 (by lia) (λv U=>?_) (by decide) ?_
 ·obtain⟨r,t,rfl⟩:=h3 v U;exact .now
 ·exact q
theorem tJ{R:α->α->Prop}:∀{l:List α},l.length<2->l.Pairwise R
 |[],_=>List.Pairwise.nil
 |[_],_=>List.pairwise_singleton _ _
 |_::_::_,h=>absurd h (by simp)
theorem anf{kS:Addr}{ks:List Value}{e j:Nat}{P:PySem.Fin->Shared->Prop}(p:s.heap.get? kS=some (seqObj "list" ks.toArray e))(ha:s.heap.get? a=some (seqObj "list" #[] j))(r:kS≠a)(hl:ks.length=vs.length)(t:vs.length<=63)
 (T:∀v∈ks,dt s.heap B v)
 (h:∀h' tk (xs:List Keyed) c,(∀b,b≠kS->b≠a->h'.get? b=s.heap.get? b)->h'.get? a=some (seqObj "list" (List.toArray (xs.map (·.2))) c)->xs.Perm (ks.zip vs)->(xs.Pairwise λx y=>num s.heap B x<=num s.heap B y)->P (.done (.ret .none)) { s with heap:=h',toks:=tk }):
 wpAny (model prog w) A (ksk_end a false vs.toArray j (.ref kS) ks.toArray) P E s:=by
 have hz:vs.length<=sizeLine:=AM t (by decide);have l:(ks.toArray.zip vs.toArray).toList=ks.zip vs:=by simp
 have tail:∀st:SortSt,failedOf st=none->(arrOf st).toList.Perm (ks.zip vs)->((arrOf st).toList.Pairwise λx y=>num s.heap B x<=num s.heap B y)->wpAny (model prog w) A (ksk_tail a false j (.ref kS) st) P E s:=by
  intro st hf hp hs;have s1:=ya s.heap kS (Obj.mapSeq λ_=>(#[]:Array Value));have U:(s.heap.update kS (Obj.mapSeq λ_=>(#[]:Array Value))).get? a=some (seqObj "list" #[] j):=(s1.2 a r.symm).trans ha;have s2:=ya (s.heap.update kS (Obj.mapSeq λ_=>(#[]:Array Value))) a (Obj.mapSeq λ_=>(arrOf st).map (·.2));have len:((arrOf st).map (·.2)).size<=sizeLine:=by have:=hp.length_eq;rw[CG,Bq] at this;rw[Array.size_map];lia
  unfold ksk_tail
  try dsimp only
  refine Aa (listUpdate_at p rfl ?_ (by rw[Ak];lia) (A9 _));refine Aa (wpAny_letGo ?_);refine Aa (seqEpoch_at U rfl ?_);refine Aa (listUpdate_at U rfl ?_ (A9 _) (by simp only[BA,if_false];exact BD len));rw[hf];simp only[bne_self_eq_false,BA,if_false];obtain⟨c2,g⟩:∃c2,((s.heap.update kS (Obj.mapSeq λ_=>(#[]:Array Value))).update a (Obj.mapSeq λ_=>(arrOf st).map (·.2))).get? a=some (seqObj "list" ((arrOf st).map (·.2)) c2):=⟨_,get?_update_seq U λ_=>(arrOf st).map (·.2)⟩;refine Ah (h _ _ (arrOf st).toList c2 (λb C I=>?_) ?_ hp hs)
  ·exact(s2.2 b I).trans (s1.2 b C)
  ·have em:(arrOf st).map (·.2)=List.toArray ((arrOf st).toList.map (·.2)):=by apply Array.toList_inj.mp;rw[Array.toList_map]
   rw[em] at g ⊢;exact g
 unfold ksk_end;simp only[BA,if_false];by_cases h2:vs.toArray.size<2
 ·rw[AC h2,AC h2];refine Aa (Ah ?_);rw[StateT.run_pure];refine Aa (Ah ?_);refine tail _ rfl (by show(ks.toArray.zip vs.toArray).toList.Perm _;rw[l]) ?_;show(ks.toArray.zip vs.toArray).toList.Pairwise _;rw[l];rw[Ak] at h2;have:(ks.zip vs).length<2:=by rw[CG];lia
  exact tJ this
 ·rw[AF h2,AF h2];rw[Ak] at h2;refine Aa (aag T (by omega) ?_);refine Aa (AV (tG (E:=E) (sh (B:=B)) (st:=SortSt.mk' (tuples' true) (ks.toArray.zip vs.toArray) #[] 7 none)
   (Q:=λ_ J=>failedOf J=none/\(arrOf J).toList.Perm (ks.zip vs)/\((arrOf J).toList.Pairwise λx y=>num s.heap B x<=num s.heap B y)) (by show(ks.toArray.zip vs.toArray).size<64;simp;omega) rfl rfl rfl (λx o=>?_) λJ b1 b2 b3=>⟨b1,?_,b3⟩) ?_ λ_ _ e=>e)
  ·have o:x∈(ks.toArray.zip vs.toArray).toList:=o;rw[l] at o;exact dt.pair (T _ (C2 (a:=x.1) (b:=x.2) o).1)
  ·have b2:(arrOf J).toList.Perm (ks.toArray.zip vs.toArray).toList:=b2;rw[l] at b2;exact b2
  ·rintro⟨⟨⟩,J⟩ s' ⟨rfl,b1,b2,b3⟩;exact tail J b1 b2 b3
end
section
variable {w:World}
theorem dt.ne{v:Value}{xs:Array Value}(k:dt h B v)(e:v=.ref a)(j:h.get? b=some (seqObj "list" xs n)):a≠b:=by
 obtain⟨l,o,m,r,p,t,u,U,g,J,_⟩:=k;rw[e] at U;cases U;rintro rfl;rw[j] at g;cases g;have J:Value.type "list" = Value.type "tuple" := J;injection J with e
 exact absurd e (by decide)
theorem dt.keeps{v:Value}{xs:Array Value}(k:dt h B v)(U:h.get? b=some (seqObj "list" xs n))(g:∀c o,c≠b->h.get? c=some o->h'.get? c=some o):dt h' B v:=by have j:=k;obtain⟨a,o,m,r,p,t,u,J,l,C,I,T,e6⟩:=k;exact⟨a,o,m,r,p,t,u,J,g a o (j.ne J U) l,C,I,T,e6⟩
theorem yN{x:Keyed}{xs:Array Value}(k:dt h B x.1)(j:h.get? b=some (seqObj "list" xs n))(l:∀c o,c≠b->h.get? c=some o->h'.get? c=some o):num h' B x=num h B x:=by have C:=k;obtain⟨a,o,m,r,p,t,u,J,U,I,g,T,e6⟩:=k;rw[num_of J U g,num_of J (l a o (C.ne J j) U) g]
theorem cx{x:Keyed}(h:x∈vs.zip vs):x.1∈vs/\x.1=x.2:=by
 induction vs with
 |nil=>simp at h
 |cons v r J=>
  rw[List.zip_cons_cons] at h;rcases Am.mp h with rfl|h
  ·exact⟨Aj ..,rfl⟩
  ·exact⟨Ad _ (J h).1,(J h).2⟩
theorem agt{P:PySem.Fin->Shared->Prop}(r:s.heap.get? a=some (seqObj "list" vs.toArray n))(hz:vs.length<=63)(hk:∀v∈vs,dt s.heap B v)
 (h:∀h' tk (xs:List Keyed) c,(∀b o,b≠a->s.heap.get? b=some o->h'.get? b=some o)->h'.get? a=some (seqObj "list" (List.toArray (xs.map (·.2))) c)->xs.Perm (vs.zip vs)->(xs.Pairwise λx y=>num s.heap B x<=num s.heap B y)->P (.done (.ret .none)) { s with heap:=h',toks:=tk }):
 wpAny (model prog w) A (Builtin.«list.sort» ⟨[.ref a],[]⟩) P E s:=by
 have big:(63:Nat)+1<=sizeLine:=by rw[sizeLine_eq];omega
 have zl:(vs.toArray.zip vs.toArray).toList=vs.zip vs:=by simp
 have s1:=ya s.heap a (Obj.mapSeq λ_=>(#[]:Array Value));obtain⟨e1,t⟩:∃e1,(s.heap.update a (Obj.mapSeq λ_=>(#[]:Array Value))).get? a=some (seqObj "list" #[] e1):=⟨_,get?_update_seq r λ_=>#[]⟩;obtain⟨J,j⟩:∃g,g=((s.heap.update a (Obj.mapSeq λ_=>(#[]:Array Value))).push (seqObj "tuple" vs.toArray 0)).push (seqObj "list" #[] 0):=⟨_,rfl⟩;have k3:∀b o,b≠a->s.heap.get? b=some o->J.get? b=some o:=λb o hb e=>by rw[j];exact wh _ (wh _ ((s1.2 b hb).trans e))
 have l:J.get? a=some (seqObj "list" #[] e1):=by rw[j];exact wh _ (wh _ t)
 have C:∀v∈vs,dt J B v:=λv hv=>(hk v hv).keeps r k3;have nk:∀x∈vs.zip vs,num J B x=num s.heap B x:=λx p=>yN (hk _ (cx p).1) r k3;have tail:∀st:SortSt,failedOf st=none->(arrOf st).toList.Perm (vs.zip vs)->((arrOf st).toList.Pairwise λx y=>num J B x<=num J B y)->
  ∀tk,P (.done (.ret .none)) { s with heap:=J.update a (Obj.mapSeq λ_=>(arrOf st).map (·.2)),toks:=tk }:=by
  intro st hf I hs tk;have s2:=ya J a (Obj.mapSeq λ_=>(arrOf st).map (·.2));obtain⟨c2,T⟩:∃c2,(J.update a (Obj.mapSeq λ_=>(arrOf st).map (·.2))).get? a=some (seqObj "list" ((arrOf st).map (·.2)) c2):=⟨_,get?_update_seq l λ_=>(arrOf st).map (·.2)⟩;have em:(arrOf st).map (·.2)=List.toArray ((arrOf st).toList.map (·.2)):=by apply Array.toList_inj.mp;rw[Array.toList_map]
  refine h _ tk (arrOf st).toList c2 (λb o hb e=>(s2.2 b hb).trans (k3 b o hb e)) ?_ I ?_
  ·rw[em] at T ⊢;exact T
  ·refine Cb (λ{x y} p hy z=>?_) hs;rw[nk x (I.mem_iff.mp p),nk y (I.mem_iff.mp hy)] at z;exact z
 have len:∀st:SortSt,(arrOf st).toList.Perm (vs.zip vs)->((arrOf st).map (·.2)).size<=sizeLine+1:=λst I=>by have:=I.length_eq;rw[CG,Bq] at this;rw[Array.size_map];omega
 rw[list_sort_plain];refine Aa (listItems_at r rfl ?_);refine Aa (listUpdate_at r rfl ?_ (by rw[Ak];omega) (A9 _));refine Aa (seqEpoch_at t rfl ?_);refine Aa (wpAny_newTuple ?_ (by show vs.length<=_;omega));refine Aa (wpAny_newList ?_ (A9 _));refine AY ?_;show wpAny (model prog w) A _ P E { s with heap:=((s.heap.update a (Obj.mapSeq λ_=>(#[]:Array Value))).push (seqObj "tuple" vs.toArray 0)).push (seqObj "list" #[] 0) };rw[<-j];dsimp only;by_cases h2:vs.toArray.size<2
 ·rw[AC h2,AC h2];refine Aa (Ah ?_);rw[StateT.run_pure];refine Aa (Ah ?_);dsimp only;refine Aa (seqEpoch_at l rfl ?_);have pz:(arrOf (SortSt.mk' (tuples' true) (vs.toArray.zip vs.toArray) #[] 7 none)).toList.Perm (vs.zip vs):=by show(vs.toArray.zip vs.toArray).toList.Perm _;rw[zl]
  refine Aa (listUpdate_at l rfl ?_ (A9 _) (len _ pz));simp only[bne_self_eq_false,BA,if_false];refine Ah (tail (SortSt.mk' (tuples' true) (vs.toArray.zip vs.toArray) #[] 7 none) rfl pz ?_ _);show(vs.toArray.zip vs.toArray).toList.Pairwise _;rw[zl];rw[Ak] at h2;have:(vs.zip vs).length<2:=by rw[CG];omega
  exact tJ this
 ·rw[AF h2,AF h2];rw[Ak] at h2;refine Aa (aag (s:={ s with heap:=J }) C (by omega) ?_);refine Aa (AV (tG (E:=E) (sh (s:={ s with heap:=J }) (B:=B)) (st:=SortSt.mk' (tuples' true) (vs.toArray.zip vs.toArray) #[] 7 none)
   (Q:=λ_ U=>failedOf U=none/\(arrOf U).toList.Perm (vs.zip vs)/\((arrOf U).toList.Pairwise λx y=>num J B x<=num J B y)) (by show(vs.toArray.zip vs.toArray).size<64;simp;omega) rfl rfl rfl (λx p=>?_) λU b1 b2 b3=>⟨b1,?_,b3⟩) ?_ λ_ _ e=>e)
  ·have p:x∈(vs.toArray.zip vs.toArray).toList:=p;rw[zl] at p;exact dt.pair (C _ (cx p).1)
  ·have b2:(arrOf U).toList.Perm (vs.toArray.zip vs.toArray).toList:=b2;rw[zl] at b2;exact b2
  ·rintro⟨⟨⟩,U⟩ s' ⟨rfl,b1,b2,b3⟩;dsimp only;refine Aa (seqEpoch_at l rfl ?_);refine Aa (listUpdate_at l rfl ?_ (A9 _) (len _ b2));rw[b1];simp only[bne_self_eq_false,BA,if_false];exact Ah (tail U b1 b2 b3 _)
theorem w_sorted(hl:s.heap.IsList l vs.toArray)(hz:vs.length<=63)(hk:∀v∈vs,dt s.heap B v)
 (h:∀h' tk (xs:List Keyed) D c,s.heap.objs.size<=D->(∀b o,s.heap.get? b=some o->h'.get? b=some o)->h'.get? D=some (seqObj "list" (List.toArray (xs.map (·.2))) c)->xs.Perm (vs.zip vs)->(xs.Pairwise λx y=>num s.heap B x<=num s.heap B y)->Q (.ref D) { s with heap:=h',toks:=tk }):
 wpAny (model prog w) A (call (.builtin "sorted") [.ref l]) Q E s:=by
 have big:(63:Nat)+1<=sizeLine:=by rw[sizeLine_eq];omega
 refine Calls.call_function_entry kind_sorted plain_sorted entry_sorted (args_sorted1 _) ?_;unfold Builtin.«sorted»;refine Aa (m:=checkCount "sorted" 1 1 _) (Ah ?_);refine Aa (collect_list hl ?_ (by omega));refine Aa (wpAny_newList ?_ (by omega));obtain⟨g,I⟩:∃g,g=(s.heap.push (seqObj "list" #[] 0)).update s.heap.objs.size (Obj.mapSeq (· ++ vs.toArray)):=⟨_,rfl⟩;have gs:g.objs.size=s.heap.objs.size+1:=by rw[I,Heap.size_update,size_push']
 have gk:∀b o,s.heap.get? b=some o->g.get? b=some o:=λb o q=>by have J:b<s.heap.objs.size:=xa q;rw[I,Heap.get?_update_ne _ _ _ _ (AZ J)];exact wh _ q
 show wpAny _ _ _ _ _ { s with heap:=((s.heap.push (seqObj "list" #[] 0)).update s.heap.objs.size (Obj.mapSeq (· ++ vs.toArray))).push (seqObj "list" vs.toArray 0) };rw[<-I];have U:(g.push (seqObj "list" vs.toArray 0)).get? g.objs.size=some (seqObj "list" vs.toArray 0):=xb _ rfl;have keep:∀b o,s.heap.get? b=some o->(g.push (seqObj "list" vs.toArray 0)).get? b=some o:=λb o q=>wh _ (gk b o q);have kT:∀v∈vs,dt (g.push (seqObj "list" vs.toArray 0)) B v:=λv hv=>by obtain⟨a,o,m,r,p,t,u,j,C,r'⟩:=hk v hv;exact⟨a,o,m,r,p,t,u,j,keep _ _ C,r'⟩
 have nk:∀x∈vs.zip vs,num (g.push (seqObj "list" vs.toArray 0)) B x=num s.heap B x:=λx T=>by obtain⟨a,o,m,r,p,t,u,j,C,e3,e4,_⟩:=hk _ (cx T).1;rw[num_of j C e4,num_of j (keep _ _ C) e4]
 refine Aa (AY (wpAny_call_entry slot_list_sort ⟨_,U,rfl⟩ entry_list_sort ?body (args_list_sort _)))
 case body=>
  refine agt (s:={ s with heap:=g.push (seqObj "list" vs.toArray 0) }) U hz kT λh' tk xs c k1 hD pm pw=>?_;refine⟨_,rfl,Ah ⟨_,rfl,h h' tk xs g.objs.size c (by rw[gs];exact BV _) (λb o q=>k1 b o ?_ (keep b o q)) hD pm ?_⟩⟩
  ·have J:b<s.heap.objs.size:=xa q;intro z;rw[z,gs] at J;exact Nat.not_succ_lt_self J
  ·refine Cb (λ{x y} T hy z=>?_) pw;rw[nk x (pm.mem_iff.mp T),nk y (pm.mem_iff.mp hy)] at z;exact z
end
end TS
namespace L2
open PySem PySem.Spec PyProof.Rows
theorem oR(f:α->β):∀{l m:List β},l.Perm m->∀{T:List α},T.map f=m->∃g:List α,g.Perm T/\g.map f=l:=by
 intro l m p
 induction p with
 |nil=>intro T e;exact⟨T,BM _,e⟩
 |cons x _ C=>
  intro T e;cases T with
  |nil=>cases e
  |cons t r=>
   rw[AG] at e;obtain⟨J,U⟩:=Cc e;obtain⟨g,I,e'⟩:=C U;exact⟨t::g,I.cons t,by rw[AG,e',J]⟩
 |swap x y l=>
  intro T e
  match T,e with
  |t::u::r,e=>
   rw[AG,AG] at e;obtain⟨J,U⟩:=Cc e;obtain⟨e3,e4⟩:=Cc U;exact⟨u::t::r,List.Perm.swap t u r,by rw[AG,AG,J,e3,e4]⟩
 |trans _ _ j o=>
  intro T e;obtain⟨T1,p1,J⟩:=o e;obtain⟨T2,p2,U⟩:=j J;exact⟨T2,p2.trans p1,U⟩
theorem fN{α β J:Type}{R:β->J->Prop}{g:α->β}{h:α->J}:∀{T:List α},(∀t∈T,R (g t) (h t))->Paired R (T.map g) (T.map h)
 |[],_=>.nil
 |t::_,k=>.cons (k t (Aj ..)) (fN λu U=>k u (Ad _ U))
theorem gh{α β U:Type}{R:α->β->Prop}{S:α->U->Prop}:∀{xs:List α} {ys:List β} {zs:List U},Paired R xs ys->Paired S xs zs->∃T:List (α×β×U),T.map (·.1)=xs/\T.map (λt=>t.2.1)=ys/\T.map (λt=>t.2.2)=zs/\∀t∈T,R t.1 t.2.1/\S t.1 t.2.2
 |_,_,_,.nil,.nil=>⟨[],rfl,rfl,rfl,λt J=>by cases J⟩
 |_,_,_,.cons (a:=x) (b:=y) r p,.cons (b:=z) q g=>by
  obtain⟨T,j,l,o,k⟩:=gh p g;refine⟨(x,y,z)::T,by rw[AG,j],by rw[AG,l],by rw[AG,o],λt J=>?_⟩;rcases Am.mp J with rfl|J
  ·exact⟨r,q⟩
  ·exact k t J
theorem rH{α β:Type}{f:α->β}:∀{l:List α},(∀x∈l,∀y∈l,f x=f y->x=y)->l.Nodup->(l.map f).Nodup
 |[],_,_=>DM
 |a::r,h,n=>by obtain⟨U,g⟩:=Az.mp n;rw[AG];refine Az.mpr ⟨λz=>?_,rH (λx j y J=>h x (Ad _ j) y (Ad _ J)) g⟩;obtain⟨y,J,e⟩:=AS.mp z;have:=h y (Ad _ J) a (Aj ..) e;exact U (this▸J)
def wS(p q:Int×Int):Prop:=p.1<q.1\/(p.1=q.1/\p.2<=q.2)
abbrev vX(K:Ae)(H:Hp)(v:V)(p:Int×Int):Prop:=∃a,v=.ref a/\cZ K H a [.int p.1,.int p.2]
theorem al6{p q:Int×Int}(U:0<=p.2/\p.2<B)(g:0<=q.2/\q.2<B)(h:p.1*B+p.2<=q.1*B+q.2):wS p q:=by
 unfold wS;by_cases c:p.1<q.1
 ·exact .inl c
 ·right;by_cases d:q.1<p.1
  ·have J:(q.1+1)*B<=p.1*B:=Cg (by omega) (by omega);rw[Int.add_mul,Int.one_mul] at J;omega
  ·have e:p.1=q.1:=by omega
   rw[e] at h;exact⟨e,by omega⟩
def aj8(X:Cx):List V->Hp->VK->Prop:=λxs H Q=>∃l ys ps,xs=[.ref l]/\wu X.K H l ys/\Paired (vX X.K H) ys ps/\(∀p∈ps,0<=p.2/\p.2<1000000)/\ps.Nodup/\ys.length<=63/\
 ∀D zs J,H D=none->Paired (vX X.K H) zs J->J.Perm ps->J.Pairwise wS->Q (.ref D) (upd H D (.lst zs))
theorem tw:jx X (.builtin "sorted") (aj8 X):=by
 intro a4 s σ H xs us Q I r h;obtain⟨l,ys,ps,rfl,hl,pr,hb,hnd,a1,q⟩:=h;obtain⟨u,rfl,ru⟩:=r.one;cases (show u=Value.ref l from ru);obtain⟨p,rv,pl,hz⟩:=I.list hl;have l1:ys.length=p.length:=rv.length;obtain⟨T,e1,e2,e3,kT⟩:=gh rv pr;have U:∀t∈T,(∃a o n g j,t.2.1=Value.ref a/\s.heap.get? a=some o/\o.cls=.type "tuple" /\ o.data=.seq #[.int t.2.2.1 g,.int t.2.2.2 j] n)/\0<=t.2.2.2/\t.2.2.2<1000000:=λt J=>by obtain⟨r1,a,ea,hs⟩:=kT t J;obtain⟨a5,a2,⟨o,g1,g2,n,g3⟩,_⟩:=I.tuple hs;obtain⟨w1,w2,rfl,x1,x2⟩:=a2.two;obtain⟨g,rfl⟩:=(show ∃g,w1=Value.int t.2.2.1 g from x1);obtain⟨j,rfl⟩:=(show ∃j,w2=Value.int t.2.2.2 j from x2);rw[ea] at r1;refine⟨⟨a,o,n,g,j,r1,g1,g2,g3⟩,?_⟩;exact hb _ (by rw[<-e3];exact CD (f:=λt:V×Value×(Int×Int)=>t.2.2) J)
 have nT:∀t∈T,TS.num s.heap 1000000 (t.2.1,t.2.1)=t.2.2.1*1000000+t.2.2.2:=λt J=>by obtain⟨⟨a,o,n,g,j,g0,g1,g2,g3⟩,_⟩:=U t J;exact TS.num_of g0 g1 g3
 have ez:p.zip p=T.map λt=>(t.2.1,t.2.1):=by rw[<-e2,List.zip_map']
 refine xj I.tk (TS.w_sorted (B:=1000000) pl.isList (by rw[<-l1];exact a1) (λv hv=>?_) λh' tk ks D c hD hk hg pm pw J=>?_)
 ·rw[<-e2] at hv;obtain⟨t,J,rfl⟩:=AS.mp hv;obtain⟨⟨a,o,n,g,j,g0,g1,g2,g3⟩,b1,b2⟩:=U t J;exact⟨a,o,n,_,_,g,j,g0,g1,g2,g3,b1,b2⟩
 ·rw[ez] at pm;obtain⟨T',pT,eT⟩:=oR _ pm rfl;subst eT;have C:∀t,t∈T'->t∈T:=λt=>pT.mem_iff.mp;have a3:=B7.mp pw;refine⟨.ref D,_,I.laid (t':=tk) (o:=.lst (T'.map (·.1))) hk hD ?_,rfl,q D (T'.map (·.1)) (T'.map λt=>t.2.2) (I.hok.fresh hD) (fN λt J=>(kT t (C t J)).2) ?_ ?_⟩
  ·refine⟨?_,T'.map (λt=>t.2.1),c,fN λt J=>(kT t (C t J)).1,?_⟩
   ·rw[Ab,pT.length_eq];have:T.length=ys.length:=by rw[<-e1,Ab]
    rw[this];exact hz
   ·rw[hg,BU];rfl
  ·rw[<-e3];exact pT.map _
  ·refine B7.mpr (Cb (λ{x y} hx hy z=>?_) a3);rw[nT x (C x hx),nT y (C y hy)] at z;exact al6 (U x (C x hx)).2 (U y (C y hy)).2 z
end L2
namespace L3
open PySem L2
def prY(p:Int×Int):Y:=.tup [.int p.1,.int p.2]
theorem sL{G:G3}{H:Hp}:∀{ps:List (Int×Int)} {xs:List V},xr G H (ps.map prY) xs->Paired (vX G.K H) xs ps
 |[],_,h=>by cases (show _=[] from h);exact .nil
 |p::r,_,⟨x,g,e,⟨a,zs,j,l,o,t,C,J,I,T,e2,U,e3⟩,s⟩=>by subst e j C e2 e3;cases (show o=V.int p.1 from J);cases (show I=V.int p.2 from U);exact .cons ⟨a,rfl,l⟩ (sL s)
theorem rY{G:G3}{H:Hp}:∀{ps:List (Int×Int)} {xs:List V},Paired (vX G.K H) xs ps->xr G H (ps.map prY) xs
 |_,_,.nil=>rfl
 |_,_,.cons ⟨a,J,U⟩ t=>by subst J;exact⟨_,_,rfl,⟨a,_,rfl,U,_,_,rfl,rfl,_,_,rfl,rfl,rfl⟩,rY t⟩
def cr(xs:List Y)(L:qp)(Q:YK):Prop:=match xs with
 |[.ref a]=>dQ L a λys=>∃ps:List (Int×Int),ys=ps.map prY/\(∀p∈ps,0<=p.2/\p.2<1000000)/\ps.Nodup/\ps.length<=63/\∀(D:Addr) (J:List (Int×Int)),L D=none->J.Perm ps->J.Pairwise wS->Q (.ref D) (qf L D (.lst (J.map prY)))
 |_=>False
theorem eQ:bootBuiltins "sorted"=some (.builtin "sorted"):=by decide +kernel
theorem jZ :jx X (.builtin "sorted") (upL X.g3 cr):=EG tw λxs H Q ys L Q3 j U z k=>by
 unfold cr at z;split at z
 ·rename_i a;obtain⟨l,e,o,rfl,p,hnd,J,z⟩:=vd z;obtain⟨t,C,r⟩:=U a _ e;obtain⟨u,rfl,I⟩:=j.inv1;cases (show u=V.ref a from I);have T:=sL r;exact⟨a,t,o,rfl,wu.of C,T,p,hnd,by rw[<-r.length,Ab];exact J,λD l qs g pz pm pw=>k _ _ _ _ (DQ g) (U.newL g (rY pz)) (by rfl) (z D qs (U.none g) pm pw)⟩
 ·exact z.elim
open PySem L2 Words
def cA:Wd->Y
 |.leaf t n=>.tup [.str (kL t),.str n]
 |.node e l r=>.tup [.str (kN e),cA l,cA r]
def fD:Y:=(.tup [(.str "plain"),(.str "turned")])
theorem ql{Q:α->qp->Prop}{o:Option α}{v:α}(e:o=some v)(h:Q v L):vP L Q o:=by rw[e];exact h
abbrev jp(i:Int):xz:=yC (.int i)
abbrev cj(x:Str):xz:=yC (.str x)
abbrev jr(i:Nat)(n:Int):xz:=zh af (qa i) (yC (.int n))
abbrev bQ(i:Nat):xz:=gq lW (qe (qa i) zb)
abbrev f9(a b:xz):iH:=yB (zh (uA false) a b)
abbrev m6(a b:xz):iH:=yB (zh (uA true) a b)
abbrev rdT(a b:xz):xz:=ku (qe a (qe b zb))
abbrev vn(a:xz):fA:=qe a zb
abbrev aS(a b:xz):fA:=qe a (qe b zb)
def xQ:kn:=(zu (zh (iN false) (jr 0 0) (yC fD)))
def kX:Bool->Bool->Str
 |true,t=>kL t
 |false,e=>kN e
def fP:jz:=λys L Q=>∃lf b rest,ys=[.tup (.str (kX lf b)::rest)]/\Q (.bl lf) L
theorem yq(t:Bool):uT (.str (kL t)) [.str "plain",.str "turned"]=true:=by cases t<;>decide +kernel
theorem yc(t:Bool):uT (.str (kN t)) [.str "plain",.str "turned"]=false:=by cases t<;>decide +kernel
theorem tf:∀ys L Q,fP ys L Q->vg xQ 1 ys L Q:=by
 rintro ys L Q ⟨lf,b,rest,rfl,q⟩;have J:fO (Y.str (kX lf b)::rest) 0=some (Y.str (kX lf b)):=vk (xs:=Y.str (kX lf b)::rest) (j:=0) rfl;walk_at "w";rw[J];refine⟨rfl,rfl,xg ?_⟩;cases lf with
 |true=>
  rw[show nb false (uT (fb (.str (kX true b))) ([Y.str "plain",.str "turned"].map fb))=true from yq b];exact q
 |false=>
  rw[show nb false (uT (fb (.str (kX false b))) ([Y.str "plain",.str "turned"].map fb))=false from yc b];exact q
theorem yF(t:Bool):List.lookup (kL t) [(("plain" : Str),("turned" : Str)),("turned","plain"),("both","either"),("either","both")]=some (kL (!t)):=by cases t<;>decide +kernel
theorem yu(t:Bool):List.lookup (kN t) [(("plain" : Str),("turned" : Str)),("turned","plain"),("both","either"),("either","both")]=some (kN (!t)):=by cases t<;>decide +kernel
theorem jj.str(x:Str):jj L n (.str x) (.s (.str x)):=by cases n with|zero=>exact⟨rfl,rfl⟩|succ n=>exact .inl ⟨rfl,rfl⟩
abbrev ED:=@jj.str
theorem jj.int(x:Int):jj L n (.int x) (.s (.int x)):=by cases n with|zero=>exact⟨rfl,rfl⟩|succ n=>exact .inl ⟨rfl,rfl⟩
abbrev DY:=@jj.int
theorem g9{L:qp}:∀{wd:Wd} {n:Nat},wd.depth<=n->jj L n (cA wd) (lL wd)
 |.leaf t nm,n+1,_=>.inr (.inl ⟨_,_,rfl,rfl,.cons (ED _) (.cons (ED _) .nil)⟩)
 |.node e l r,n+1,h=>by have J:max l.depth r.depth+1<=n+1:=h;exact .inr (.inl ⟨_,_,rfl,rfl,.cons (ED _) (.cons (g9 (by lia)) (.cons (g9 (by lia)) .nil))⟩)
theorem xh(e:L a=some (.lst ys))(p:Paired (jj L n) ys ds):jj L (n+1) (.ref a) (.lst ds):=.inr (.inr ⟨ys,ds,rfl,rfl,aM e,p⟩)
theorem aY(p:Paired (jj L n) ys ds):jj L (n+1) (.tup ys) (.tup ds):=.inr (.inl ⟨ys,ds,rfl,rfl,p⟩)
theorem mX{neg:Bool}{u v:Wd}{Q:YK}(U:u.depth<=128)(q:Q (.bl (nb neg (Da.eq (lL u) (lL v)))) L):uA neg (cA u) (cA v) L Q:=by
 have J:∀w:Wd,yS (cA w)=true:=λw=>by cases w<;>rfl
 have:yS (cA u)=true/\yS (cA v)=true/\∃n m d e,n<=128/\jj L n (cA u) d/\jj L m (cA v) e/\Q (.bl (nb neg (Da.eq d e))) L:=
  ⟨J u,J v,u.depth,v.depth,lL u,lL v,U,g9 (Al _),g9 (Al _),q⟩
 cases u<;>cases v<;>exact this
theorem ww{neg:Bool}{zs:List Y}{es:List Da}{Q:YK}(J:n<128)(U:L a=some (.lst ys))(g:L b=some (.lst zs))(pa:Paired (jj L n) ys ds)(pb:Paired (jj L m) zs es)(q:Q (.bl (nb neg (Da.eqs ds es))) L):
 uA neg (.ref a) (.ref b) L Q:=⟨rfl,rfl,n+1,m+1,_,_,J,xh U pa,xh g pb,q⟩
def nY(hs:List Nat):List Y:=hs.map λn:Nat=>.int (n:Int)
theorem kc(hs:List Nat):(nY hs).length=hs.length:=by unfold nY;rw[Ab]
theorem jk{p:Addr}{o:LO}(h:qf L a o p=none):L p=none:=by
 by_cases c:p=a
 ·subst c;rw[q8] at h;cases h
 ·rw[qb c] at h;exact h
theorem zw{l:List α}{x:α}(h:l[i]?=some x):i<l.length:=(AW.mp h).1
def u0:kn:=(zu (zh cN (zh wv (zh uK (zh kw (zh kw (zh uK (zh wv (qa 0) (jp 1000003)) (jp 7)) (zh uK (qa 1) (qa 1))) (jp 1)) (qa 2)) (jp 2147483647)) (jp 16)))
def mw(J:jz):kn:=(qo (jl (f9 (bQ 0) (jp 2)) (zu (jp 1)) zq)
 (zu (zh kw (zh kw (jp 1) (za J (vn (jr 0 1)))) (za J (vn (jr 0 2))))))
def rB(J:jz):kn:=(qo (zn (zh af (qa 0) (qa 1)) (qh 2))
 (qo (jl (f9 (bQ 2) (jp 2)) (zu (qa 2)) zq)
 (zu (ku (qe (jr 2 0) (qe (za J (aS (qa 0) (jr 2 1))) (qe (za J (aS (qa 0) (jr 2 2))) zb)))))))
def kO:jz:=λys L Q=>∃c k f:Int,ys=[.int c,.int k,.int f]/\0<=k/\k<1000000/\0<f/\f<1000000/\∀v,0<=v->v<134217728->Q (.int v) L
theorem ai5:∀ys L Q,kO ys L Q->vg u0 3 ys L Q:=by
 rintro ys L Q ⟨c,k,f,rfl,h0,h1,h2,h3,q⟩;refine⟨(by decide:(0:Int)<1000003),.inr ⟨by decide,by decide⟩,.inl ⟨by lia,by lia⟩,.inr ⟨by lia,by lia⟩,(by decide:(0:Int)<2147483647),⟨by decide,by decide⟩,xg (q _ ?_ ?_)⟩
 all_goals
  generalize ((c % 1000003*7+k*k+1)*f)=z;lia
theorem aaq(cs:List Nat):(Txt.join "" (cs.map λc=>(⟨#[c]⟩:Str))).cps.toList=cs:=by
 rw[pN]
 induction cs with|nil=>rfl|cons c r J=>rw[AG,AK,J];rfl
def cD(n:Nat):jz:=λys L Q=>∃wd,ys=[cA wd]/\wd.depth<=n/\Q (.int wd.size) L
theorem mR:∀ys L Q,¬cD 0 ys L Q:=λys L Q ⟨J,_,hd,_⟩=>by cases J<;>simp[Wd.depth] at hd
theorem xS(n:Nat):∀ys L Q,cD (n+1) ys L Q->vg (mw (cD n)) 1 ys L Q:=by
 rintro ys L Q ⟨J,rfl,hd,q⟩;cases J with
 |leaf t n=>exact xg q
 |node e l r=>
  have U:max l.depth r.depth+1<=n+1:=hd;refine⟨l,rfl,by lia,r,rfl,by lia,xg ?_⟩;have e:(1+(l.size:Int)+(r.size:Int))=(((Wd.node e l r).size:Nat):Int):=by show _=((1+l.size+r.size:Nat):Int);rfl
  rw[e];exact q
def KW(ks:List Y):Nat->Wd->Prop
 |p,.leaf t n=>ks[p]?=some (.tup [.str (kL t),.str n])
 |p,.node e l r=>∃i j:Nat,ks[p]?=some (.tup [.str (kN e),.int i,.int j])/\KW ks i l/\KW ks j r
theorem KW.more{ks:List Y}(ms:List Y):∀{wd:Wd} {p:Nat},KW ks p wd->KW (ks++ms) p wd
 |.leaf _ _,p,h=>by have J:ks[p]?=some _:=h;show(ks++ms)[p]?=some _;rw[AH (AW.mp J).1];exact J
 |.node _ _ _,p,⟨i,j,h,a,b⟩=>⟨i,j,by rw[AH (AW.mp h).1];exact h,KW.more ms a,KW.more ms b⟩
def wm(n:Nat):jz:=λys L Q=>∃k ks p wd,ys=[.ref k,.int ((p:Nat):Int)]/\L k=some (.lst ks)/\KW ks p wd/\wd.depth<=n/\Q (cA wd) L
theorem uJ:∀ys L Q,¬wm 0 ys L Q:=λys L Q ⟨k,U,p,J,_,_,_,hd,_⟩=>by cases J<;>simp[Wd.depth] at hd
theorem o4:∀ys L Q,¬wm 0 ys L Q:=uJ
theorem tE(n:Nat):∀ys L Q,wm (n+1) ys L Q->vg (rB (wm n)) 3 ys L Q:=by
 rintro ys L Q ⟨k,U,p,g,rfl,J,h,hd,q⟩;cases g with
 |leaf t nm=>exact qc J (ql (vk h) (xg q))
 |node e l r=>
  obtain⟨i,j,h,o,C⟩:=h;have I:max l.depth r.depth+1<=n+1:=hd;exact qc J (ql (vk h) ⟨k,U,i,l,rfl,J,o,by lia,k,U,j,r,rfl,J,C,by lia,xg q⟩)
def mkS(l:List Nat):Str:=⟨l.toArray⟩
theorem wZ(x:Str):mkS x.cps.toList=x:=by cases x;rfl
def aej(J:jz):kn:=(qo (zn (ai0 [("plain","turned"),("turned","plain"),("both","either"),("either","both")]) (qh 1))
 (qo (jl (f9 (bQ 0) (jp 2)) (zu (ku (qe (zh af (qa 1) (jr 0 0)) (vn (jr 0 1))))) zq)
 (zu (ku (qe (zh af (qa 1) (jr 0 0)) (qe (za J (vn (jr 0 1))) (qe (za J (vn (jr 0 2))) zb)))))))
def abd(J:jz)(p1:jz):kn:=(qo (jl (f9 (bQ 1) (jp 2)) (qo (jy (ak jf (qa 0) (qe (za J (vn (qa 1))) zb)))
 (qo (jy (ak jf (qa 0) (vn (qa 1))))
 (zu (x0 (qe (ku (qe (cj "link") (qe (zh iJ (bQ 0) (jp 2)) (qe (zh iJ (bQ 0) (jp 1)) zb)))) (qe (zh iJ (bQ 0) (jp 2)) (qe (zh iJ (bQ 0) (jp 1)) zb))))))) zq)
 (qo (zn (za p1 (aS (qa 0) (jr 1 1))) (qh 2))
 (qo (zn (za p1 (aS (qa 0) (jr 1 2))) (qh 3))
 (qo (jy (ak jf (qa 0) (qe (ku (qe (zh af (za J (vn (qa 1))) (jp 0)) (aS (jr 2 1) (jr 3 1)))) zb)))
 (qo (jy (ak jf (qa 0) (qe (ku (qe (jr 1 0) (aS (jr 2 2) (jr 3 2)))) zb)))
 (qo (ad3 4 5 (qe (zh iJ (bQ 0) (jp 2)) (qe (zh iJ (bQ 0) (jp 1)) zb)))
 (qo (zn (yIf (f9 (jr 1 0) (cj "either")) (qa 4) (qa 5)) (qh 6))
 (qo (zn (yIf (f9 (jr 1 0) (cj "either")) (qa 5) (qa 4)) (qh 7))
 (zu (x0 (qe (ku (qe (cj "either") (qe (qa 7) (qe (ku (qe (cj "both") (qe (qa 6) (aS (jr 2 0) (jr 3 0))))) zb)))) (aS (qa 4) (qa 5)))))))))))))
inductive Kn where
 |lf (t:Bool) (n:Str)|nd (e:Bool) (i j:Nat)
def mx:Kn->Y
 |.lf t n=>.tup [.str (kL t),.str n]
 |.nd e i j=>.tup [.str (kN e),.int ((i:Nat):Int),.int ((j:Nat):Int)]
inductive Ru where
 |link (p q:Nat)|ei (r:Nat) (A:Ru)|bo (r:Nat) (A B:Ru)|cu (p q:Nat) (A B:Ru)
def qi:Ru->Y
 |.link p q=>.tup [.str "link",.int ((p:Nat):Int),.int ((q:Nat):Int)]
 |.ei r A=>.tup [.str "either",.int ((r:Nat):Int),qi A]
 |.bo r A B=>.tup [.str "both",.int ((r:Nat):Int),qi A,qi B]
 |.cu p q A B=>.tup [.str "cut",.int ((p:Nat):Int),.int ((q:Nat):Int),qi A,qi B]
def qm:Ru->List Nat
 |.link p q=>[p,q]
 |.ei r A=>r::qm A
 |.bo r A B=>r::(qm A++qm B)
 |.cu _ _ A B=>qm A++qm B
abbrev ja(ks:List Kn):List Y:=ks.map mx
def cM(ks:List Kn)(p:Nat)(w:Wd):Prop:=KW (ja ks) p w
theorem cM.more{ks:List Kn}{p:Nat}{w:Wd}(h:cM ks p w)(ms:List Kn):cM (ks++ms) p w:=by unfold cM ja;rw[Av];exact KW.more _ h
def cw(ks:List Kn):Prop:=∀(p:Nat) (k:Kn),ks[p]?=some k->match k with
 |.lf _ n=>da n
 |.nd _ i j=>i<p/\j<p
theorem cw.snoc{ks:List Kn}{k:Kn}(h:cw ks)(J:match k with|.lf _ n=>da n|.nd _ i j=>i<ks.length/\j<ks.length):cw (ks++[k]):=by
 intro p U e;by_cases c:p<ks.length
 ·rw[AH c] at e;exact h p U e
 ·rw[Ay (by exact acz)] at e;have c2:p=ks.length:=by
   by_cases c3:p-ks.length=0
   ·omega
   ·rw[BZ (by simp;exact aqf)] at e;cases e
  subst c2;rw[Cm] at e;cases e;exact J
theorem eL(l:List α)(x:α)(r:List α):(l++x::r)[l.length]?=some x:=by rw[Ay (Al _),Cm];rfl
theorem mF{l r:List α}{p:Nat}{x:α}(h:l[p]?=some x):(l++r)[p]?=some x:=by rw[AH (AW.mp h).1];exact h
inductive SR(ks:List Kn):Ru->List Nat->Prop
 |link {p q:Nat} {t:Bool} {n:Str} {E:List Nat}:p<q->ks[p]?=some (.lf t n)->ks[q]?=some (.lf (!t) n)->(∀x,x∈E↔x=p\/x=q)->E.Nodup->SR ks (.link p q) E
 |ei {r i j:Nat} {A:Ru} {EA E:List Nat}:ks[r]?=some (.nd true i j)->SR ks A EA->i∈EA->j∈EA->i≠j->(∀x,x∈E↔(x∈EA/\x≠i/\x≠j)\/x=r)->E.Nodup->SR ks (.ei r A) E
 |bo {r i j:Nat} {A B:Ru} {EA EB E:List Nat}:ks[r]?=some (.nd false i j)->SR ks A EA->SR ks B EB->i∈EA->j∈EB->(∀x,x∈E↔(x∈EA/\x≠i)\/(x∈EB/\x≠j)\/x=r)->E.Nodup->SR ks (.bo r A B) E
 |cu {p q:Nat} {A B:Ru} {EA EB E:List Nat} {w:Wd}:SR ks A EA->SR ks B EB->p∈EA->q∈EB->cM ks p w->cM ks q w.turn->(∀x,x∈E↔(x∈EA/\x≠p)\/(x∈EB/\x≠q))->E.Nodup->SR ks (.cu p q A B) E
theorem SR.more{ks:List Kn}{R:Ru}{E:List Nat}(h:SR ks R E)(ms:List Kn):SR (ks++ms) R E:=by induction h with|link h1 h2 h3 J U=>exact .link h1 (mF h2) (mF h3) J U|ei h1 _ h3 J U l o p=>exact .ei (mF h1) p h3 J U l o|bo h1 _ _ J U l o g j=>exact .bo (mF h1) g j J U l o|cu _ _ h3 J U l o r g j=>exact .cu g j h3 J (U.more ms) (l.more ms) o r
theorem SR.sub{ks:List Kn}{R:Ru}{E:List Nat}(h:SR ks R E):∀x∈E,x∈qm R:=by
 induction h with
 |link _ _ _ l _=>intro x J;rcases (l x).mp J with rfl|rfl<;>simp[qm]
 |ei _ _ _ _ _ j _ o=>intro x J;rcases (j x).mp J with⟨h,_⟩|rfl;exact Ad _ (o x h);exact Aj ..
 |bo _ _ _ _ _ j _ U g=>
  intro x J;rcases (j x).mp J with⟨h,_⟩|⟨h,_⟩|rfl
  ·exact Ad _ (Ar _ (U x h))
  ·exact Ad _ (Ag _ (g x h))
  ·exact Aj ..
 |cu _ _ _ _ _ _ p _ U g=>
  intro x J;rcases (p x).mp J with⟨h,_⟩|⟨h,_⟩
  ·exact Ar _ (U x h)
  ·exact Ag _ (g x h)
def bN(n:Nat):jz:=λys L Q=>∃wd,ys=[cA wd]/\wd.depth<=n/\Q (cA wd.turn) L
theorem abx:∀ys L Q,¬bN 0 ys L Q:=λys L Q ⟨J,_,hd,_⟩=>by cases J<;>simp[Wd.depth] at hd
theorem uj(t:Bool):ko ([(("plain" : Str),("turned" : Str)),("turned","plain"),("both","either"),("either","both")].map λp=>((Sum.inr p.1:jg),Y.str p.2)) (Sum.inr (kL t))=some (.str (kL (!t))):=jD (yF t)
theorem uv(t:Bool):ko ([(("plain" : Str),("turned" : Str)),("turned","plain"),("both","either"),("either","both")].map λp=>((Sum.inr p.1:jg),Y.str p.2)) (Sum.inr (kN t))=some (.str (kN (!t))):=jD (yu t)
theorem aa5(n:Nat):∀ys L Q,bN (n+1) ys L Q->vg (aej (bN n)) 2 ys L Q:=by
 rintro ys L Q ⟨U,rfl,hd,q⟩;intro p J;cases U with
 |leaf t nm=>
  refine zy q8 (ql (uj t) ?_);exact aI (By J) q
 |node e l r=>
  have g:max l.depth r.depth+1<=n+1:=hd;refine zy q8 (ql (uv e) ?_);refine⟨l,rfl,by lia,r,rfl,by lia,?_⟩;exact aI (By J) q
structure Mir(ks:List Kn)(w:Wd)(ms:List Kn)(R:Ru)(tp sp:Nat):Prop where
 len:ms.length=2*w.size
 sr:SR (ks++ms) R [tp,sp]
 wt:cM (ks++ms) tp w.turn
 ws:cM (ks++ms) sp w
 tm:∀x,x∈qm R↔ks.length<=x/\x<ks.length+ms.length
 nd:(qm R).Nodup
 ok:cw (ks++ms)
theorem cM.leaf{ks:List Kn}{p:Nat}{n:Str}(h:ks[p]?=some (.lf t n)):cM ks p (.leaf t n):=by show(ja ks)[p]?=_;rw[An,h];rfl
theorem cM.node{ks:List Kn}{p:Nat}{e:Bool}{l r:Wd}(h:ks[p]?=some (.nd e i j))(J:cM ks i l)(U:cM ks j r):cM ks p (.node e l r):=by refine⟨i,j,?_,J,U⟩;rw[An,h];rfl
abbrev EH:=@cM.node
theorem rM{ks:List Kn}(j:cw ks){n:Str}(J:da n):Mir ks (.leaf t n) [.lf (!t) n,.lf t n] (.link ks.length (ks.length+1)) ks.length (ks.length+1):=by
 have U:(ks++[Kn.lf (!t) n,.lf t n])[ks.length]?=some (.lf (!t) n):=eL _ _ _;have g:(ks++[Kn.lf (!t) n,.lf t n])[ks.length+1]?=some (.lf t n):=by have:=eL (ks++[Kn.lf (!t) n]) (Kn.lf t n) [];rw[Ac,AR] at this;exact this
 refine⟨rfl,.link (t:=!t) (n:=n) (by exact Cy _) U (by rw[Bool.not_not];exact g) (by simp) (by simp),cM.leaf U,cM.leaf g,λx=>?_,by simp[qm],?_⟩
 ·show x∈[ks.length,ks.length+1]↔ks.length<=x/\x<ks.length+2;simp;lia
 ·have:=(j.snoc (k:=.lf (!t) n) J).snoc (k:=.lf t n) J;rw[AR] at this;exact this
theorem SR.nod{ks:List Kn}{R:Ru}{E:List Nat}(h:SR ks R E):E.Nodup:=by cases h<;>assumption
theorem apv{x h lo a r N:Nat}(J:(h=N/\lo=N+1)\/(h=N+1/\lo=N))(U:N=a+m+r):x=h\/x=lo\/(a<=x/\x<a+m)\/a+m<=x/\x<a+m+r↔a<=x/\x<N+2:=by subst U;rcases J with⟨rfl,rfl⟩|⟨rfl,rfl⟩<;>lia
theorem aoy{x a b c d N:Nat}(h:a≠b)(k:c≠d):x∈[b,d,N]↔(x∈[a,b]/\x≠a)\/(x∈[c,d]/\x≠c)\/x=N:=by simp only[Am,Bp,or_false];lia
theorem aqc{x a b c d N:Nat}(h:a≠b)(k:c≠d):x∈[a,c,N]↔(x∈[a,b]/\x≠b)\/(x∈[c,d]/\x≠d)\/x=N:=by simp only[Am,Bp,or_false];lia
theorem apa{x a b N M:Nat}(h:a<N)(k:b<N):x∈[N,M]↔(x∈[a,b,N]/\x≠a/\x≠b)\/x=M:=by simp only[Am,Bp,or_false];lia
theorem asg{x a b N M:Nat}(h:a<N)(k:b<N):x∈[M,N]↔(x∈[a,b,N]/\x≠a/\x≠b)\/x=M:=by simp only[Am,Bp,or_false];lia
theorem aoc{a b N:Nat}(h:a<N)(k:b<N)(d:a≠b):[a,b,N].Nodup:=by rw[Az,Az];simp;lia
theorem arv{a r N t s u v:Nat}(J:a<=t/\t<a+m)(U:a<=s/\s<a+m)(b1:a+m<=u/\u<a+m+r)(b2:a+m<=v/\v<a+m+r)(g:N=a+m+r):t<N/\s<N/\u<N/\v<N/\t≠u/\s≠v:=by lia
theorem amq{h lo a r N:Nat}(J:(h=N/\lo=N+1)\/(h=N+1/\lo=N))(U:N=a+m+r):¬(h=lo\/(a<=h/\h<a+m)\/a+m<=h/\h<a+m+r)/\¬((a<=lo/\lo<a+m)\/a+m<=lo/\lo<a+m+r):=by lia
theorem aqd{x y a r:Nat}(h1:a<=x/\x<a+m)(h2:a+m<=y/\y<a+m+r)(e:x=y):False:=by lia
theorem ack{ks J j:List Kn}{e:Bool}{l r:Wd}{A B:Ru}{tl U tr g:Nat}(t:Mir ks l J A tl U)(p:Mir (ks++J) r j B tr g){N:Nat}(hN:N=ks.length+(J++j).length):
 Mir ks (.node e l r) (J++j++[.nd (!e) tl tr,.nd e U g]) (.ei (if e=true then N+1 else N) (.bo (if e=true then N else N+1) A B)) N (N+1):=by
 have hA:∀x∈[tl,U],ks.length<=x/\x<ks.length+J.length:=λx T=>(t.tm x).mp (t.sr.sub x T);have hB:∀x∈[tr,g],ks.length+J.length<=x/\x<ks.length+J.length+j.length:=λx T=>by have:=(p.tm x).mp (p.sr.sub x T);rw[Ac] at this;exact this
 have a1:=hA tl (by simp);have a2:=hA U (by simp);have b1:=hB tr (by simp);have b2:=hB g (by simp);have nA:tl≠U:=by have:=t.sr.nod;simpa using this
 have nB:tr≠g:=by have:=p.sr.nod;simpa using this
 have C:N=ks.length+J.length+j.length:=by rw[hN,Ac];simp +arith only
 obtain⟨d1,d2,d3,d4,d5,d6⟩:=arv a1 a2 b1 b2 C;generalize o:ks++(J++j++[Kn.nd (!e) tl tr,.nd e U g])=K;have k1:K=(ks++J)++(j++[Kn.nd (!e) tl tr,.nd e U g]):=by rw[<-o];simp
 have k2:K=((ks++J)++j)++[Kn.nd (!e) tl tr,.nd e U g]:=by rw[<-o];simp
 have k3:K=(((ks++J)++j)++[Kn.nd (!e) tl tr])++[.nd e U g]:=by rw[<-o];simp
 have l2:((ks++J)++j).length=N:=by rw[Ac,Ac];lia
 have g1:K[N]?=some (.nd (!e) tl tr):=by rw[k2,<-l2];exact eL _ _ _
 have g2:K[N+1]?=some (.nd e U g):=by
  have l3:(((ks++J)++j)++[Kn.nd (!e) tl tr]).length=N+1:=by rw[Ac,l2];rfl
  rw[k3,<-l3];exact eL _ _ _
 have sA:SR K A [tl,U]:=by rw[k1];exact t.sr.more _
 have sB:SR K B [tr,g]:=by rw[k2];exact p.sr.more _
 have a3:cw K:=by have o1:=p.ok.snoc (k:=.nd (!e) tl tr) (by show tl<((ks++J)++j).length/\tr<((ks++J)++j).length;rw[l2];exact⟨d1,d3⟩);have o2:=o1.snoc (k:=.nd e U g) (by show U<_/\g<_;rw[Ac,l2];exact⟨BO d2,BO d4⟩);rw[k3];exact o2
 have tA:=t.tm;have tB:=p.tm;rw[Ac] at tB;have wt:cM K N (Wd.node e l r).turn:=EH g1 (by rw[k1];exact t.wt.more _) (by rw[k2];exact p.wt.more _);have a4:cM K (N+1) (Wd.node e l r):=EH g2 (by rw[k1];exact t.ws.more _) (by rw[k2];exact p.ws.more _);have I:(J++j++[Kn.nd (!e) tl tr,.nd e U g]).length=2*(Wd.node e l r).size:=by have h1:=t.len;have h2:=p.len;show _=2*(1+l.size+r.size);rw[Ac,Ac];simp;lia
 have lt:ks.length+(J++j++[Kn.nd (!e) tl tr,.nd e U g]).length=N+2:=by rw[Ac];simp[hN];rfl
 have tt:∀h lo:Nat,(h=N/\lo=N+1)\/(h=N+1/\lo=N)->(∀x,x∈qm (.ei h (.bo lo A B))↔ks.length<=x/\x<ks.length+(J++j++[Kn.nd (!e) tl tr,.nd e U g]).length)/\(qm (.ei h (.bo lo A B))).Nodup:=by
  intro h lo hh;constructor
  ·intro x;rw[lt];show x∈h::lo::(qm A++qm B)↔_;rw[Am,Am,Aq,tA,tB];exact apv hh C
  ·show(h::lo::(qm A++qm B)).Nodup;rw[Az,Az,Ap];refine⟨?_,?_,t.nd,p.nd,λx T y hy e=>?_⟩
   ·rw[Am,Aq,tA,tB];exact(amq hh C).1
   ·rw[Aq,tA,tB];exact(amq hh C).2
   ·exact aqd ((tA x).mp T) ((tB y).mp hy) e
 cases e with
 |true=>
  have s1:SR K (.bo N A B) [U,g,N]:=by exact .bo g1 sA sB (by simp) (by simp) (λx=>aoy nA nB) (aoc d2 d4 d6)
  have s2:SR K (.ei (N+1) (.bo N A B)) [N,N+1]:=by exact .ei g2 s1 (by simp) (by simp) d6 (λx=>apa d2 d4) (by simp)
  obtain⟨t1,t2⟩:=tt (N+1) N (.inr ⟨rfl,rfl⟩);exact⟨I,by rw[o];exact s2,by rw[o];exact wt,by rw[o];exact a4,t1,t2,by rw[o];exact a3⟩
 |false=>
  have s1:SR K (.bo (N+1) A B) [tl,tr,N+1]:=by exact .bo g2 sA sB (by simp) (by simp) (λx=>aqc nA nB) (aoc (BO d1) (BO d3) d5)
  have s2:SR K (.ei N (.bo (N+1) A B)) [N,N+1]:=by exact .ei g1 s1 (by simp) (by simp) d5 (λx=>asg (BO d1) (BO d3)) (by simp)
  obtain⟨t1,t2⟩:=tt N (N+1) (.inl ⟨rfl,rfl⟩);exact⟨I,by rw[o];exact s2,by rw[o];exact wt,by rw[o];exact a4,t1,t2,by rw[o];exact a3⟩
def cQ(n:Nat):jz:=λys L Q=>∃a,∃ks:List Kn,∃w:Wd,ys=[.ref a,cA w]/\L a=some (.lst (ja ks))/\w.depth<=n/\n<=120/\w.ok/\cw ks/\ks.length+2*w.size<=10000/\
 ∀ms R tp sp p,L p=none->Mir ks w ms R tp sp->Q (.ref p) (qf (qf L a (.lst (ja (ks++ms)))) p (.lst [qi R,.int ((tp:Nat):Int),.int ((sp:Nat):Int)]))
theorem xP:∀ys L Q,¬cQ 0 ys L Q:=λys L Q ⟨a,U,J,_,_,hd,_⟩=>by cases J<;>simp[Wd.depth] at hd
theorem bg_:∀m:Nat,m<=20000->m<sizeLine:=λm h=>CH h (by decide)
theorem ym(n:Nat):∀ys L Q,cQ (n+1) ys L Q->vg (abd (bN 120) (cQ n)) 8 ys L Q:=by
 rintro ys L Q ⟨a,J,w,rfl,ha,hd,hn,a2,hk,hb,q⟩;have big:=bg_;cases w with
 |leaf t nm=>
  have hb:J.length+2*1<=10000:=hb;refine qc ha ⟨.leaf t nm,rfl,by exact C7 _,qx ha ⟨big _ (by rw[Ab];lia),?_⟩⟩;refine qc q8 (qx q8 ⟨big _ (by rw[Ac,Ab];simp;lia),?_⟩);rw[v3];have e1:(ja J++[cA (Wd.leaf t nm).turn])++[cA (.leaf t nm)]=ja (J++[.lf (!t) nm,.lf t nm]):=by unfold ja;rw[Av,AR];rfl
  have e2:(ja (J++[Kn.lf (!t) nm,.lf t nm])).length=J.length+2:=by rw[Ab,Ac];rfl
  have i1:((((ja (J++[Kn.lf (!t) nm,.lf t nm])).length:Nat):Int)-2)=((J.length:Nat):Int):=by rw[e2];lia
  have i2:((((ja (J++[Kn.lf (!t) nm,.lf t nm])).length:Nat):Int)-1)=((J.length+1:Nat):Int):=by rw[e2];lia
  have av:(ja J++[cA (Wd.leaf t nm).turn])++[.tup [.str (kL t),.str nm]]=ja (J++[.lf (!t) nm,.lf t nm]):=e1
  first|rw[e1]|rw[av]
  refine qc q8 (qc q8 (qc q8 (qc q8 λp T=>?_)));have np:L p=none:=by
   have:p≠a:=λe=>by rw[e,q8] at T;cases T
   rw[qb this] at T;exact T
  have:=q _ _ _ _ p np (rM hk a2);have key:[qi (.link J.length (J.length+1)),Y.int ((J.length:Nat):Int),Y.int ((J.length+1:Nat):Int)]=[.tup [.str "link",.int ((((ja (J++[Kn.lf (!t) nm,.lf t nm])).length:Nat):Int)-2),.int ((((ja (J++[Kn.lf (!t) nm,.lf t nm])).length:Nat):Int)-1)],.int ((((ja (J++[Kn.lf (!t) nm,.lf t nm])).length:Nat):Int)-2),.int ((((ja (J++[Kn.lf (!t) nm,.lf t nm])).length:Nat):Int)-1)]:=by rw[i1,i2];rfl
  rw[key] at this;exact xg this
 |node e l r=>
  have ba:max l.depth r.depth+1<=n+1:=hd;have hb:J.length+2*(1+l.size+r.size)<=10000:=hb;refine⟨a,J,l,rfl,ha,by lia,by exact uS,a2.1,hk,by lia,λU A j C p1 al ML=>?_⟩;have a1:a≠p1:=km ha al;have bb:=ML.len;refine⟨a,J++U,r,rfl,by rw[qb a1,q8],by lia,by exact uS,a2.2,ML.ok,by rw[Ac];lia,λg B tr I p2 a3 MR=>?_⟩;have bc:=MR.len;have aL:p1≠p2:=km q8 a3;have ao:a≠p2:=km (by rw[qb a1];exact q8) a3;have a4:qf (qf (qf (qf L a (.lst (ja (J++U)))) p1 (.lst [qi A,.int ((j:Nat):Int),.int ((C:Nat):Int)])) a (.lst (ja ((J++U)++g)))) p2 (.lst [qi B,.int ((tr:Nat):Int),.int ((I:Nat):Int)]) a=some (.lst (ja ((J++U)++g))):=by rw[qb ao];exact q8
  have h1:qf (qf (qf (qf L a (.lst (ja (J++U)))) p1 (.lst [qi A,.int ((j:Nat):Int),.int ((C:Nat):Int)])) a (.lst (ja ((J++U)++g)))) p2 (.lst [qi B,.int ((tr:Nat):Int),.int ((I:Nat):Int)]) p1=some (.lst [qi A,.int ((j:Nat):Int),.int ((C:Nat):Int)]):=by rw[qb aL,qb (AE a1)];exact q8
  have h2:qf (qf (qf (qf L a (.lst (ja (J++U)))) p1 (.lst [qi A,.int ((j:Nat):Int),.int ((C:Nat):Int)])) a (.lst (ja ((J++U)++g)))) p2 (.lst [qi B,.int ((tr:Nat):Int),.int ((I:Nat):Int)]) p2=some (.lst [qi B,.int ((tr:Nat):Int),.int ((I:Nat):Int)]):=q8;have old:∀b o,b≠a->L b=some o->qf (qf (qf (qf L a (.lst (ja (J++U)))) p1 (.lst [qi A,.int ((j:Nat):Int),.int ((C:Nat):Int)])) a (.lst (ja ((J++U)++g)))) p2 (.lst [qi B,.int ((tr:Nat):Int),.int ((I:Nat):Int)]) b=some o:=λb o nb e=>by
   have n1:b≠p1:=km e al;have e2:qf (qf L a (.lst (ja (J++U)))) p1 (.lst [qi A,.int ((j:Nat):Int),.int ((C:Nat):Int)]) b=some o:=by rw[qb n1,qb nb];exact e
   have n2:b≠p2:=km e2 a3;rw[qb n2,qb nb];exact e2
  generalize qf (qf (qf (qf L a (.lst (ja (J++U)))) p1 (.lst [qi A,.int ((j:Nat):Int),.int ((C:Nat):Int)])) a (.lst (ja ((J++U)++g)))) p2 (.lst [qi B,.int ((tr:Nat):Int),.int ((I:Nat):Int)])=L2 at a4 h1 h2 old;have bd:(ja ((J++U)++g)).length=J.length+U.length+g.length:=by rw[Ab,Ac,Ac]
  refine qc a4 ⟨.node e l r,rfl,by show max l.depth r.depth+1<=120;exact apy,qc h1 (qc h2 (qx a4 ⟨big _ (by lia),?_⟩))⟩;have a5:∀o,qf L2 a o p1=some (.lst [qi A,.int ((j:Nat):Int),.int ((C:Nat):Int)]):=λo=>by rw[qb (AE a1)];exact h1
  have ag:∀o,qf L2 a o p2=some (.lst [qi B,.int ((tr:Nat):Int),.int ((I:Nat):Int)]):=λo=>by rw[qb (AE ao)];exact h2
  refine qc q8 (qc (a5 _) (qc (ag _) (qx q8 ⟨big _ (by rw[Ac];simp;lia),?_⟩)));rw[v3];obtain⟨N,hN⟩:∃N,N=J.length+(U++g).length:=⟨_,rfl⟩;have e1:(ja ((J++U)++g)++[.tup [.str (kN (!e)),.int ((j:Nat):Int),.int ((tr:Nat):Int)]])++[.tup [.str (kN e),.int ((C:Nat):Int),.int ((I:Nat):Int)]]=ja (J++(U++g++[.nd (!e) j tr,.nd e C I])):=by unfold ja;simp[mx]
  rw[e1];have lN:(ja (J++(U++g++[Kn.nd (!e) j tr,.nd e C I]))).length=N+2:=by rw[Ab,Ac,Ac,hN];simp;rfl
  have i1:((((ja (J++(U++g++[Kn.nd (!e) j tr,.nd e C I]))).length:Nat):Int)-2)=((N:Nat):Int):=by rw[lN];lia
  have i2:((((ja (J++(U++g++[Kn.nd (!e) j tr,.nd e C I]))).length:Nat):Int)-1)=((N+1:Nat):Int):=by rw[lN];lia
  refine qc q8 (qc q8 ?_);have M:=ack (e:=e) ML MR hN;have done:∀p,qf L2 a (.lst (ja (J++(U++g++[Kn.nd (!e) j tr,.nd e C I])))) p=none->∀R,Mir J (.node e l r) (U++g++[Kn.nd (!e) j tr,.nd e C I]) R N (N+1)->
   df Q (.ref p) (qf (qf L2 a (.lst (ja (J++(U++g++[Kn.nd (!e) j tr,.nd e C I]))))) p (.lst [qi R,.int ((N:Nat):Int),.int ((N+1:Nat):Int)])):=λp T R MM=>by
   have au:p≠a:=λz=>by rw[z,q8] at T;cases T
   rw[qb au] at T;have np:L p=none:=by cases z:L p with|none=>rfl|some o=>rw[old p o au z] at T;cases T
   refine aI ?_ (q _ _ _ _ p np MM);intro b o z;by_cases c1:b=p
   ·subst c1;rw[q8] at z ⊢;exact z
   ·rw[qb c1] at z ⊢;by_cases c2:b=a
    ·subst c2;rw[q8] at z ⊢;exact z
    ·rw[qb c2] at z ⊢;exact old b o c2 z
  cases e with
  |true=>
   have key:[qi (.ei (if true=true then N+1 else N) (.bo (if true=true then N else N+1) A B)),Y.int ((N:Nat):Int),Y.int ((N+1:Nat):Int)]=[.tup [.str "either",.int ((((ja (J++(U++g++[Kn.nd (!true) j tr,.nd true C I]))).length:Nat):Int)-1),.tup [.str "both",.int ((((ja (J++(U++g++[Kn.nd (!true) j tr,.nd true C I]))).length:Nat):Int)-2),qi A,qi B]],.int ((((ja (J++(U++g++[Kn.nd (!true) j tr,.nd true C I]))).length:Nat):Int)-2),.int ((((ja (J++(U++g++[Kn.nd (!true) j tr,.nd true C I]))).length:Nat):Int)-1)]:=by rw[i1,i2];rfl
   walk_at "w";refine qc (a5 _) (qc (ag _) λp T=>?_);have:=done p T _ M;rw[key] at this;exact this
  |false=>
   have key:[qi (.ei (if false=true then N+1 else N) (.bo (if false=true then N else N+1) A B)),Y.int ((N:Nat):Int),Y.int ((N+1:Nat):Int)]=[.tup [.str "either",.int ((((ja (J++(U++g++[Kn.nd (!false) j tr,.nd false C I]))).length:Nat):Int)-2),.tup [.str "both",.int ((((ja (J++(U++g++[Kn.nd (!false) j tr,.nd false C I]))).length:Nat):Int)-1),qi A,qi B]],.int ((((ja (J++(U++g++[Kn.nd (!false) j tr,.nd false C I]))).length:Nat):Int)-2),.int ((((ja (J++(U++g++[Kn.nd (!false) j tr,.nd false C I]))).length:Nat):Int)-1)]:=by rw[i1,i2];rfl
   walk_at "w";refine qc (a5 _) (qc (ag _) λp T=>?_);have:=done p T _ M;rw[key] at this;exact this
end L3
variable {I R R' S:L3.Ru}{ks ir:List L3.Kn}{r4 wd:List (Option L3.Kn)}
namespace L3
open PySem L2 Words
def u3(J:jz):kn:=(qo (jl (pX (yB (dR false (qa 0))) (yB (za J (vn (qa 0))))) (zu (x0 zb)) zq)
 (zu (x0 (aS (jr 0 1) (jr 0 2)))))
def xX:Option Kn->Y
 |none=>.non
 |some k=>mx k
abbrev dU(ks:List (Option Kn)):List Y:=ks.map xX
def vi:Option Kn->List Nat
 |some (.nd _ i j)=>[i,j]
 |_=>[]
def kU:jz:=λys L Q=>∃k:Option Kn,ys=[xX k]/\∀p,L p=none->Q (.ref p) (qf L p (.lst (nY (vi k))))
theorem adp:∀ys L Q,kU ys L Q->vg (u3 fP) 1 ys L Q:=by
 rintro ys L Q ⟨k,rfl,q⟩;cases k with
 |none=>exactλp J=>xg (q p J)
 |some k=>
  cases k with|lf t n=>exact⟨true,t,_,rfl,λp J=>xg (q p J)⟩|nd e i j=>exact⟨false,e,_,rfl,λp J=>xg (q p J)⟩
def whr(f:Option Kn->Bool)(ks:List (Option Kn))(i:Nat):List Nat:=(List.range i).filter λp=>match ks[p]? with
 |some k=>f k
 |none=>false
theorem ag3{f:Option Kn->Bool}{ks:List (Option Kn)}{p:Nat}(h:p∈whr f ks i):p<i/\∃k,ks[p]?=some k/\f k=true:=by
 unfold whr at h;obtain⟨h1,h2⟩:=AJ.mp h;refine⟨A8.mp h1,?_⟩;split at h2
 ·rename_i k e;exact⟨k,e,h2⟩
 ·cases h2
theorem age(f:Option Kn->Bool)(ks:List (Option Kn))(i:Nat):(whr f ks i).length<=i:=by unfold whr;exact AM (List.length_filter_le _ _) (by rw[Bw];simp +arith only)
def abh:Option Kn->Bool
 |some _=>true
 |none=>false
abbrev lh(ks:List (Option Kn)):List Nat:=whr abh ks ks.length
theorem ff(a b:List Nat):nY (a++b)=nY a++nY b:=by unfold nY;rw[Av]
theorem dY{hs:List Nat}(h:(nY hs)[i]?=some y):∃n,hs[i]?=some n/\y=.int (n:Int):=by unfold nY at h;rw[An] at h;obtain⟨n,J,U⟩:=Ao.mp h;exact⟨n,J,U.symm⟩
theorem art(a b:Nat):min (a:Int) (b:Int)=((min a b:Nat):Int):=by omega
theorem aqr(a b:Nat):max (a:Int) (b:Int)=((max a b:Nat):Int):=by omega
def prN(p:Nat×Nat):Y:=.tup [.int ((p.1:Nat):Int),.int ((p.2:Nat):Int)]
abbrev bT(l:List (Nat×Nat)):List Y:=l.map prN
theorem xZ(k:Option Kn):(vi k).length<=2:=by unfold vi;split<;>simp
end L3
namespace TS
open PySem PyProof.Rows PySem.W PySem.Calls
section
variable {w:World}
abbrev keyBody(kx px:Str)(p1 p2 p3 p4 p5:Pos)(n:Nat):Expr:=.Tuple [.Subscript (.Name kx p1) (.Name px p2) p3,.Name px p4] n p5
structure kK(h:Heap)(f:Addr)(kx px:Str)(scope:Scope)(kvs:List Value):Prop where
 ex:∃(name eK:Str) (params:Arguments) (p1 p2 p3 p4 p5:Pos) (n:Nat) (pm ctv:Value) (c' cell k:Addr),h.get? f=some (kla_obj name eK params (keyBody kx px p1 p2 p3 p4 p5 n) scope [(kx,cell)] pm c' ctv)/\h.CodeRec (.ref c') eK/\
  h.IsCell cell (some (.ref k))/\h.IsList k kvs.toArray/\∀v:Value,bindArgs (kla_fn name eK params (keyBody kx px p1 p2 p3 p4 p5 n) scope [(kx,cell)] pm (.ref c') ctv) ⟨[v],[]⟩=pure [(px,v)]
 lim:h.NoLimit
structure KeySc(scope:Scope)(kx px:Str):Prop where
 kind:scope.kind=.function
 co:scope.isCoroutine=false
 gen:scope.isGenerator=false
 nc:∀x∈scope.names,x.2≠.cell
 lp:scope.names.lookup px=some .local
 lk:scope.names.lookup kx=some .free
 d1:(kx==("__debug__" : Str))=false
 d2:(px==("__debug__" : Str))=false
 d3:(kx==("__classdict__" : Str))=false
theorem kK.keeps{kvs:List Value}(k:kK h f kx px scope kvs)(U:∀b o,h.get? b=some o->h'.get? b=some o):kK h' f kx px scope kvs:=by
 obtain⟨name,g,J,r,t,C,I,T,n,pm,p,c',cell,kk,g1,g2,g3,g4,g5⟩:=k.ex;refine⟨⟨name,g,J,r,t,C,I,T,n,pm,p,c',cell,kk,U _ _ g1,?_,?_,?_,g5⟩,k.lim.keeps U⟩
 ·obtain⟨c,oc,vs,tq,j,l,e3⟩:=g2;exact⟨c,oc,vs,tq,j,U _ _ l,e3⟩
 ·obtain⟨o,j,l⟩:=g3;exact⟨o,U _ _ j,l⟩
 ·obtain⟨o,j,l⟩:=g4;exact⟨o,U _ _ j,l⟩
theorem ao7{kvs:List Value}{u t:Tok}{r:Int}(K:kK s.heap f kx px scope kvs)(S:KeySc scope kx px)(g:A.depth<recursionLimit)(hi:kvs[i]?=some (.int r t))(a1:i<2 ^ 40)
 (h:∀h' tk a,(∀b o,s.heap.get? b=some o->h'.get? b=some o)->h'.get? a=some { cls:=.type "tuple",data:=.seq #[.int r t,.int (i:Int) u] }->Q (.ref a) { s with heap:=h',toks:=tk }):
 wpAny (model prog w) A (call (.ref f) [.int (i:Int) u]) Q E s:=by
 obtain⟨name,J,p,p1,p2,p3,p4,p5,n,pm,a2,C,cell,kk,g1,g2,g3,g4,g5⟩:=K.ex;refine wpAny_call (kla_callFunE g g1 rfl S.co S.gen rfl g2 ?_);rw[g5];refine Ah (wpAny_newFunctionEnv S.nc (λx hx=>by rw[Ai.mp hx];exact S.lp) (λU j l=>⟨K.lim.fresh _ l,?_⟩) S.kind);have I:∀b o,s.heap.get? b=some o->U.get? b=some o:=λb o e=>l.extBut b o (AZ (xa e)) (wh _ e);show codeAny _ _ (.expr _ (envX J scope s.heap.objs.size f (.ref C) [(kx,cell)])) _ _;refine kla_codeExpr ?_;have look:(([(px,Value.int (i:Int) u)]:List (Str×Value)).reverse.lookup px)=some (.int (i:Int) u):=by simp
 have kf:(envX J scope s.heap.objs.size f (.ref C) [(kx,cell)]).kindOf kx=some .free:=S.lk;have kp:(envX J scope s.heap.objs.size f (.ref C) [(kx,cell)]).kindOf px=some .local:=S.lp;have cl:(envX J scope s.heap.objs.size f (.ref C) [(kx,cell)]).cells.lookup kx=some cell:=by show([(kx,cell)]:List (Str×Addr)).lookup kx=_;simp
 have ic:U.IsCell cell (some (.ref kk)):=by obtain⟨o,T,e2⟩:=g3;exact⟨o,I _ _ T,e2⟩
 have il:U.IsList kk kvs.toArray:=by obtain⟨o,T,e2⟩:=g4;exact⟨o,I _ _ T,e2⟩
 refine wpAny_Tuple_spliced (Ef (Subscript_ (wpAny_Name (wpAny_loadName_free S.kind kf cl ic (wpAny_Name (wpAny_loadName_local S.kind kp j look ?_) S.d2) S.d3) S.d1)));refine item_listL il (by exact A3 _) (by omega) (by rw[show((i:Nat):Int).toNat=i from rfl];exact hi) ?_;refine Ef (wpAny_Name (wpAny_loadName_local S.kind kp j look ?_) S.d2);refine Ei ⟨by show 2<=sizeLine;decide,?_⟩;exact h _ _ _ (λb o e=>wh _ (I b o e)) (xb _ rfl)
end
theorem ach(f:α->β):∀{l m:List β},l.Perm m->∀{T:List α},T.map f=m->∃g:List α,g.Perm T/\g.map f=l:=by
 intro l m p
 induction p with
 |nil=>intro T e;exact⟨T,BM _,e⟩
 |cons x _ C=>
  intro T e;cases T with
  |nil=>cases e
  |cons t r=>
   rw[AG] at e;obtain⟨J,U⟩:=Cc e;obtain⟨g,I,e'⟩:=C U;exact⟨t::g,I.cons t,by rw[AG,e',J]⟩
 |swap x y l=>
  intro T e
  match T,e with
  |t::u::r,e=>
   rw[AG,AG] at e;obtain⟨J,U⟩:=Cc e;obtain⟨e3,e4⟩:=Cc U;exact⟨u::t::r,List.Perm.swap t u r,by rw[AG,AG,J,e3,e4]⟩
 |trans _ _ j o=>
  intro T e;obtain⟨T1,p1,J⟩:=o e;obtain⟨T2,p2,U⟩:=j J;exact⟨T2,p2.trans p1,U⟩
def itV(x:Nat×Tok):Value:=.int (x.1:Int) x.2
def ajw(h:Heap)(kS:Addr)(rk:Nat->Int)(k:Value)(x:Nat×Tok):Prop:=∃a t u,k=.ref a/\a≠kS/\h.get? a=some { cls:=.type "tuple",data:=.seq #[.int (rk x.1) t,.int (x.1:Int) u] }
def ig(h:Heap)(kS:Addr)(rk:Nat->Int):List Value->List (Nat×Tok)->Prop
 |[],[]=>True
 |k::ks,x::xs=>ajw h kS rk k x/\ig h kS rk ks xs
 |_,_=>False
theorem ig.len{h:Heap}{kS:Addr}{rk:Nat->Int}:∀{ks:List Value} {xs:List (Nat×Tok)},ig h kS rk ks xs->ks.length=xs.length
 |[],[],_=>rfl
 |_::_,_::_,⟨_,b⟩=>by rw[AN,AN,ig.len b]
 |[],_::_,z=>z.elim
 |_::_,[],z=>z.elim
theorem ig.mem{h:Heap}{kS:Addr}{rk:Nat->Int}:∀{ks:List Value} {xs:List (Nat×Tok)},ig h kS rk ks xs->∀t∈ks.zip xs,ajw h kS rk t.1 t.2
 |[],[],_,t,J=>by cases J
 |_::_,_::_,⟨a,b⟩,t,J=>by
  rw[List.zip_cons_cons] at J;rcases Am.mp J with rfl|J
  ·exact a
  ·exact ig.mem b t J
 |[],_::_,z,_,_=>z.elim
 |_::_,[],z,_,_=>z.elim
section
variable {w:World}
theorem adr{g:Heap}{f:Addr}{kx px:Str}{scope:Scope}{kvs:List Value}{kS:Addr}{rk:Nat->Int}{body:Value->PUnit->Sem (ForInStep PUnit)}(K:kK g f kx px scope kvs)(S:KeySc scope kx px)(J:A.depth<recursionLimit)(hn:g.get? kS=none)
 (hb:∀(x:Value) (s:Shared) (Q':ForInStep PUnit->Shared->Prop),wpAny (model prog w) A (call (.ref f) [x]) (λk s'=>wpAny (model prog w) A (Builtin.List.listUpdate (.ref kS) (·.push k)) (λ_ I=>Q' (.yield ⟨⟩) I) E s') (λ_ _=>False) s->wpAny (model prog w) A (body x ⟨⟩) Q' E s):
 ∀(ps:List (Nat×Tok)) (ks:List Value) (e:Nat) (s:Shared) (Q:PUnit->Shared->Prop),(∀b o,g.get? b=some o->s.heap.get? b=some o)->s.heap.get? kS=some (seqObj "list" ks.toArray e)->ks.length+ps.length<=100000->
  (∀x∈ps,x.1<2 ^ 40/\∃t,kvs[x.1]?=some (.int (rk x.1) t))->
  (∀h' tk l T,(∀b o,b≠kS->s.heap.get? b=some o->h'.get? b=some o)->h'.get? kS=some (seqObj "list" (ks++l).toArray T)->ig h' kS rk l ps->Q ⟨⟩ { s with heap:=h',toks:=tk })->
  wpAny (model prog w) A (forIn (ps.map itV) PUnit.unit body) Q E s
 |[],ks,e,s,Q,hg,hk,hz,hp,q=>by rw[CP,CQ];exact Ah (q s.heap s.toks [] e (λ_ _ _ h=>h) (by rw[A1];exact hk) trivial)
 |x::r,ks,e,s,Q,hg,hk,hz,hp,q=>by
  rw[AG,B4];rw[AN] at hz;obtain⟨a1,t,ht⟩:=hp x (Aj ..);have big:(100000:Nat)+1<=sizeLine:=by rw[sizeLine_eq];exact DI _ _
  refine Aa (hb (itV x) s _ (ao7 (K.keeps hg) S J ht a1 λh1 p a k1 ha=>?_));have U:h1.get? kS=some (seqObj "list" ks.toArray e):=k1 _ _ hk;have s1:=ya h1 kS (Obj.mapSeq (·.push (.ref a)));have ea:ks.toArray.push (.ref a)=List.toArray (ks++[.ref a]):=by simp
  obtain⟨c2,a2⟩:∃c2,(h1.update kS (Obj.mapSeq (·.push (.ref a)))).get? kS=some (seqObj "list" (List.toArray (ks++[.ref a])) c2):=⟨_,by rw[<-ea];exact get?_update_seq U (·.push (.ref a))⟩;have C:a≠kS:=λz=>by
   rw[z,U] at ha;have:=Bv (λo:Option Obj=>o.map (·.cls)) ha;have z2:some (Value.type "list")=some (Value.type "tuple"):=this;injection z2 with z3
   injection z3 with z4
   exact absurd z4 (by decide)
  refine listUpdate_at (s:={ s with heap:=h1,toks:=p }) U rfl ?_ (by rw[Ak];lia) (AM (Nat.le_of_eq (DF ..)) (by rw[Ak];lia));refine adr K S J hn hb r (ks++[.ref a]) c2 { s with heap:=h1.update kS (Obj.mapSeq (·.push (.ref a))),toks:=p } Q (λb o e=>?_) a2 (by rw[Ac,BH];lia) (λy hy=>hp y (Ad _ hy)) λh' tk l T kk a3 vs=>?_
  ·have nb:b≠kS:=λz=>by rw[z,hn] at e;cases e
   exact(s1.2 b nb).trans (k1 b o (hg b o e))
  ·have j:∀b o,b≠kS->h1.get? b=some o->h'.get? b=some o:=λb o nb e=>kk b o nb ((s1.2 b nb).trans e);refine q h' tk (.ref a::l) T (λb o nb e=>j b o nb (k1 b o e)) (by rw[a3,AR];rfl) ⟨⟨a,t,x.2,rfl,C,j a _ C ha⟩,vs⟩
end
section
variable {w:World}
theorem aiy{g:Heap}{kvs:List Value}{kS:Addr}{rk:Nat->Int}{ps:List (Nat×Tok)}{e1 e0:Nat}{P:PySem.Fin->Shared->Prop}(K:kK g f kx px scope kvs)(S:KeySc scope kx px)(J:A.depth<recursionLimit)(hn:g.get? kS=none)
 (hg:∀b o,g.get? b=some o->s.heap.get? b=some o) (hk:s.heap.get? kS=some (seqObj "list" #[] e0)) (ha:s.heap.get? a=some (seqObj "list" #[] e1)) (p:kS≠a) (hz:ps.length<=63)
 (hp:∀x∈ps,x.1<2 ^ 40/\∃t,kvs[x.1]?=some (.int (rk x.1) t)) (hB:∀x∈ps,((x.1:Nat):Int)<B) (nd:(ps.map (·.1)).Nodup)
 (h:∀h' tk (qs:List (Nat×Tok)) c,(∀b o,b≠kS->b≠a->s.heap.get? b=some o->h'.get? b=some o)->h'.get? a=some (seqObj "list" (qs.map itV).toArray c)->qs.Perm ps->(qs.Pairwise λx y=>rk x.1*B+(x.1:Int)<=rk y.1*B+(y.1:Int))->P (.done (.ret .none)) { s with heap:=h',toks:=tk }):
 wpAny (model prog w) A (ksk_rest a (.ref f) false (ps.map itV).toArray e1 (.ref kS)) P E s:=by
 have big:(100000:Nat)+1<=sizeLine:=by rw[sizeLine_eq];exact DI _ _
 unfold ksk_rest;refine Aa (BJ ?_);rw[List.forIn_toArray];refine Aa (adr (rk:=rk) K S J hn (λx s' Q' hx=>?_) ps [] e0 s _ hg hk (by simp;omega) hp λh' tk ks e' keep U kv=>?_)
 ·refine Aa (wpAny_attempt (AV hx (λk a5 hk=>?_) λ_ _ hF=>hF.elim))
  try dsimp only
  exact Aa (AV hk (λ_ s3 q=>Ah q) λ_ _ e=>e)
 ·try dsimp only
  rw[C4] at U;refine Aa (listItems_at (s:={ s with heap:=h',toks:=tk }) U rfl ?_);have a1:h'.get? a=some (seqObj "list" #[] e1):=keep _ _ (AE p) ha;have len:ks.length=ps.length:=kv.len;obtain⟨T,I⟩:∃T,T=ks.zip ps:=⟨_,rfl⟩;have kT:∀t∈T,ajw h' kS rk t.1 t.2:=λt r=>kv.mem t (I▸r);have e2:T.map (·.2)=ps:=by rw[I];exact List.map_snd_zip (by lia)
  have ez:ks.zip (ps.map itV)=T.map λt=>(t.1,itV t.2):=by rw[I,List.zip_map_right];rfl
  have mp:∀t∈T,t.2∈ps:=λt r=>by rw[<-e2];exact CD r
  have nT:∀t∈T,num h' B (t.1,itV t.2)=rk t.2.1*B+(t.2.1:Int):=λt r=>by obtain⟨b,tt,u,C,x2,x3⟩:=kT t r;exact num_of C x3 rfl
  have ag:∀x∈ps,(0:Int)<=((x.1:Nat):Int):=λ_ _=>by exact A3 _
  refine anf (s:={ s with heap:=h',toks:=tk }) (vs:=ps.map itV) (ks:=ks) (B:=B) U a1 p (by rw[Ab];exact len) (by rw[Ab];exact hz) (λv hv=>?_) λh2 a2 xs c l hc pm pw=>?_
  ·obtain⟨j,hj⟩:=Cu hv;have a3:j<ps.length:=by rw[<-len];exact(AW.mp hj).1
   have hm:(v,ps[j])∈T:=by rw[I];refine List.mem_iff_getElem?.mpr ⟨j,?_⟩;rw[Dl];exact⟨hj,Af a3⟩
   obtain⟨b,tt,u,C,x2,x3⟩:=kT _ hm;have C:v=.ref b:=C;exact⟨b,_,_,_,_,tt,u,C,x3,rfl,rfl,by exact A3 _,hB _ (mp _ hm)⟩
  ·rw[ez] at pm;obtain⟨T',pT,a4⟩:=ach _ pm rfl;subst a4;have mT:∀t,t∈T'->t∈T:=λt=>pT.mem_iff.mp;refine h h2 a2 (T'.map (·.2)) c (λb o n1 n2 e=>?_) ?_ ?_ ?_
   ·rw[l b n1 n2];exact keep b o n1 e
   ·rw[hc,BU,BU];rfl
   ·rw[<-e2];exact pT.map _
   ·refine B7.mpr (Cb (λ{x y} hx hy z=>?_) (B7.mp pw));rw[nT x (mT x hx),nT y (mT y hy)] at z;exact z
theorem w_sortedK{kvs:List Value}{rk:Nat->Int}{ps:List (Nat×Tok)}(K:kK s.heap f kx px scope kvs)(S:KeySc scope kx px)(p:A.in1.in1.depth<recursionLimit)
 (hl:s.heap.IsList l (ps.map itV).toArray) (hz:ps.length<=63)
 (hp:∀x∈ps,x.1<2 ^ 40/\∃t,kvs[x.1]?=some (.int (rk x.1) t)) (hB:∀x∈ps,((x.1:Nat):Int)<B) (nd:(ps.map (·.1)).Nodup)
 (h:∀h' tk (r:List (Nat×Tok)) D c,s.heap.objs.size<=D->(∀b o,s.heap.get? b=some o->h'.get? b=some o)->h'.get? D=some (seqObj "list" (r.map itV).toArray c)->r.Perm ps->(r.Pairwise λx y=>rk x.1*B+(x.1:Int)<=rk y.1*B+(y.1:Int))->Q (.ref D) { s with heap:=h',toks:=tk }):
 wpAny (model prog w) A (call (.builtin "sorted") [.ref l] [(Str.ofString "key",.ref f)]) Q E s:=by
 have big:(100000:Nat)+1<=sizeLine:=by rw[sizeLine_eq];lia
 have a2:(ps.map itV).length<=100000:=by rw[Ab];omega
 refine call_function_entry_kw kind_sorted plain_sorted entry_sorted (ksk_s1 _ _) ?_;unfold Builtin.«sorted»;refine Aa (m:=checkCount "sorted" 1 1 _) (Ah ?_);refine Aa (collect_list hl ?_ (by exact ag9));refine Aa (wpAny_newList ?_ (by lia));obtain⟨g1,T⟩:∃g1,g1=(s.heap.push (seqObj "list" #[] 0)).update s.heap.objs.size (Obj.mapSeq (· ++ (ps.map itV).toArray)):=⟨_,rfl⟩;have gs:g1.objs.size=s.heap.objs.size+1:=by rw[T,Heap.size_update,size_push']
 have gk:∀b o,s.heap.get? b=some o->g1.get? b=some o:=λb o q=>by have U:b<s.heap.objs.size:=xa q;rw[T,Heap.get?_update_ne _ _ _ _ (AZ U)];exact wh _ q
 show wpAny _ _ _ _ _ { s with heap:=((s.heap.push (seqObj "list" #[] 0)).update s.heap.objs.size (Obj.mapSeq (· ++ (ps.map itV).toArray))).push (seqObj "list" (ps.map itV).toArray 0) };rw[<-T];have J:(g1.push (seqObj "list" (ps.map itV).toArray 0)).get? g1.objs.size=some (seqObj "list" (ps.map itV).toArray 0):=xb _ rfl;have keep:∀b o,s.heap.get? b=some o->(g1.push (seqObj "list" (ps.map itV).toArray 0)).get? b=some o:=λb o q=>wh _ (gk b o q);refine Aa (AY (wpAny_call_entry_kw slot_list_sort ⟨_,J,rfl⟩ entry_list_sort ?body (ksk_l1 _ _)))
 case body=>
  obtain⟨D,eD⟩:∃D,D=g1.objs.size:=⟨_,rfl⟩;rw[<-eD] at J ⊢;show wpAny (model prog w) A.in1.in1 (Builtin.«list.sort» ⟨[.ref D],[(Str.ofString "key",.ref f)]⟩) _ _ _;rw[ksk_t1];obtain⟨g2,C⟩:∃g2,g2=g1.push (seqObj "list" (ps.map itV).toArray 0):=⟨_,rfl⟩;rw[<-C] at J keep ⊢;have s1:=ya g2 D (Obj.mapSeq λ_=>(#[]:Array Value));obtain⟨e1,I⟩:∃e1,(g2.update D (Obj.mapSeq λ_=>(#[]:Array Value))).get? D=some (seqObj "list" #[] e1):=⟨_,get?_update_seq J λ_=>#[]⟩;have nD:∀b o,s.heap.get? b=some o->b≠D:=λb o q z=>by have U:b<s.heap.objs.size:=xa q;rw[z,eD,gs] at U;exact Nat.not_succ_lt_self U
  unfold ksk_tree;refine Aa (listItems_at (s:={ s with heap:=g2 }) J rfl ?_);refine Aa (listUpdate_at (s:={ s with heap:=g2 }) J rfl ?_ (by rw[Ak];exact ag9) (A9 _));refine Aa (seqEpoch_at I rfl ?_);refine Aa (wpAny_newTuple ?_ (by show(ps.map itV).length<=_;lia));refine Aa (wpAny_newList ?_ (A9 _));refine AY ?_;obtain⟨g3,j⟩:∃g3,g3=(g2.update D (Obj.mapSeq λ_=>(#[]:Array Value))).push (seqObj "tuple" (ps.map itV).toArray 0):=⟨_,rfl⟩;have k3:∀b o,s.heap.get? b=some o->g3.get? b=some o:=λb o q=>by rw[j];exact wh _ ((s1.2 b (nD b o q)).trans (keep b o q))
  have d3:g3.get? D=some (seqObj "list" #[] e1):=by rw[j];exact wh _ I
  show wpAny (model prog w) A.in1.in1 (ksk_rest D (.ref f) false (ps.map itV).toArray _ (.ref ((g2.update D (Obj.mapSeq λ_=>(#[]:Array Value))).push (seqObj "tuple" (ps.map itV).toArray 0)).objs.size)) _ _ { s with heap:=((g2.update D (Obj.mapSeq λ_=>(#[]:Array Value))).push (seqObj "tuple" (ps.map itV).toArray 0)).push (seqObj "list" #[] 0) };rw[<-j];have a1:(g3.push (seqObj "list" #[] 0)).get? g3.objs.size=some (seqObj "list" #[] 0):=xb _ rfl;refine aiy (s:={ s with heap:=g3.push (seqObj "list" #[] 0) }) (g:=s.heap) (kS:=g3.objs.size) (a:=D) (rk:=rk) (B:=B) K S p (Heap.get?_none_of_le ?_) (λb o q=>wh _ (k3 b o q)) a1 (wh _ d3) ?_ hz hp hB nd λh' tk r c kp hD pm pw=>?_
  ·have l1:g3.objs.size=g1.objs.size+2:=by rw[j,size_push',Heap.size_update,C,size_push']
   rw[l1,gs];exact AM (BV _) (BI _ 2)
  ·exact(AZ (xa d3)).symm
  ·refine⟨_,rfl,Ah ⟨_,rfl,h h' tk r D c (by rw[eD,gs];exact BV _) (λb o q=>?_) hD pm pw⟩⟩;exact kp b o (AZ (xa (k3 b o q))) (nD b o q) (wh _ (k3 b o q))
end
end TS
namespace L2
open PySem PySem.Spec PyProof.Rows
theorem pG{i j:Int}{t u:Tok}{c:Value}(l:List Value)(h:TriplesOk l):TriplesOk (l++[.int i t,.int j u,c]):=by
 fun_induction TriplesOk l with
 |case1=>trivial
 |case2 _ _ _ _ _ rest J=>exact J h
 |case3=>exact h.elim
theorem uH{i j:Int}{t u:Tok}{c J:Value}(l:List Value)(h:TriplesOk l)(e:codeAmong pos (l++[.int i t,.int j u,c])=some J):codeAmong pos l=some J\/J=c:=by
 fun_induction TriplesOk l with
 |case1=>
  right;have e:(if i==pos.line&&j==pos.col then some c else none)=some J:=e;split at e
  ·cases e;rfl
  ·cases e
 |case2 a _ b _ d rest U=>
  have e:(if a==pos.line&&b==pos.col then some d else codeAmong pos (rest++[.int i t,.int j u,c]))=some J:=e;show(if a==pos.line&&b==pos.col then some d else codeAmong pos rest)=some J\/J=c;split at e
  ·rename_i z;rw[AC z];exact .inl e
  ·rename_i z;rw[AF z];exact U h e
 |case3=>exact h.elim
structure yP(K:Ae)(fx:Value)(P:Addr):Prop where
 ex:∃c oc,fx=.ref c/\K.lookup c=some oc/\∀h:Heap,h.get? c=some oc->PySem.W.CodeHd h c P
 bm:∃bm ob,PySem.W.nsIn K mainGlobals "__builtins__"=some (some (.ref bm))/\bm≠builtinsNs/\bm≠mainGlobals/\K.lookup bm=some ob/\ob.cls=.type "module" /\ ob.dict=some builtinsNs/\ob.data=.plain
theorem rP:∀{l:List Nat} {us:List Value},zp (l.map λi:Nat=>V.int (0+(i:Int))) us->∃ps:List (Nat×Tok),us=ps.map TS.itV/\ps.map (·.1)=l
 |[],_,.nil=>⟨[],rfl,rfl⟩
 |i::r,_,.cons (b:=u) h t=>by obtain⟨ps,J,U⟩:=rP (l:=r) t;obtain⟨tk,g⟩:=(show ∃tk,u=Value.int (0+(i:Int)) tk from h);refine⟨(i,tk)::ps,?_,by rw[AG,U]⟩;rw[AG,J,g];show _=Value.int (i:Int) tk::_;rw[Cz]
theorem se:∀ps:List (Nat×Tok),zp (ps.map λx=>V.int ((x.1:Nat):Int)) (ps.map TS.itV)
 |[]=>.nil
 |x::r=>.cons ⟨x.2,rfl⟩ (se r)
def aim(P:Addr)(q:Str)(g:Nat)(te:TE):TE:=λσ H Q=>te σ H λv H1=>∃l U,∃n:Nat,∃rks:List Int,v=.ref l/\H1 l=some (.lst ((List.range n).map λi:Nat=>V.int (0+(i:Int))))/\σ[g]?=some (some (.ref U))/\H1 U=some (.lst (rks.map V.int))/\rks.length=n/\n<=63/\pU H1 P q/\
 ∀H2 D (J:List Nat),(∀b u,b≠P->H1 b=some u->H2 b=some u)->pU H2 P q->H1 D=none->D≠P->H2 D=some (.lst (J.map λi:Nat=>V.int (i:Int)))->J.Perm (List.range n)->(J.Pairwise λi j=>rks.getD i 0*1000000+(i:Int)<=rks.getD j 0*1000000+(j:Int))->Q (.ref D) H2
theorem yK{kk cell c':Addr}{J:Arguments}{r:Value}{Q:VK}(I:z0 X pins σ H s)(S:TS.KeySc fy kx px)(hr:X.A.depth+3<recursionLimit)
 (hf:s.heap.get? f=some (PySem.W.kla_obj name eK J (TS.keyBody kx px p1 p2 p3 p4 p5 x1) fy [(kx,cell)] pm c' r)) (a2:s.heap.CodeRec (.ref c') eK) (C:s.heap.IsCell cell (some (.ref kk)))
 (hb:∀v:Value,bindArgs (PySem.W.kla_fn name eK J (TS.keyBody kx px p1 p2 p3 p4 p5 x1) fy [(kx,cell)] pm (.ref c') r) ⟨[v],[]⟩=pure [(px,v)])
 (hl:H l=some (.lst ((List.range n).map λi:Nat=>V.int (0+(i:Int))))) (hk:H kk=some (.lst (rks.map V.int))) (hn:rks.length=n) (hz:n<=63)
 (q:∀D (g:List Nat),H D=none->g.Perm (List.range n)->(g.Pairwise λi j=>rks.getD i 0*1000000+(i:Int)<=rks.getD j 0*1000000+(j:Int))->Q (.ref D) (upd H D (.lst (g.map λi:Nat=>V.int (i:Int))))):
 wpAny (model X.prog X.w) X.A (call (.builtin "sorted") [.ref l] [(Str.ofString "key",.ref f)]) (EP X pins σ Q) X.xe s:=by
 obtain⟨a5,rv,pl,_⟩:=I.list (wu.of hl);obtain⟨p,rk,pk,_⟩:=I.list (wu.of hk);obtain⟨ps,rfl,U⟩:=rP rv;have lk:p.length=n:=by rw[<-rk.length,Ab,hn]
 have lp:ps.length=n:=by have:=Bv List.length U;rwa[Ab,Bw] at this
 have big:(100000:Nat)<=sizeLine:=by decide
 refine xj I.tk (TS.w_sortedK (rk:=λi=>rks.getD i 0) (B:=1000000) (kvs:=p) ⟨⟨name,eK,J,p1,p2,p3,p4,p5,x1,pm,r,c',cell,kk,hf,a2,C,pk.isList,hb⟩,I.nolimit⟩ S ?_ pl.isList (by lia) (λx hx=>?_) (λx hx=>?_) ?_ λh' tk g D c hD keep hg a1 pw ht=>?_)
 ·show X.A.depth<recursionLimit;lia
 ·have T:x.1∈List.range n:=by rw[<-U];exact CD hx
  have a3:=A8.mp T;refine⟨by lia,?_⟩;have e1:(rks.map V.int)[x.1]?=some (V.int (rks.getD x.1 0)):=by rw[An,Af (by lia),Bi,Af (by lia)];rfl
  obtain⟨u,e2,r2⟩:=Words.Paired.getP rk e1;obtain⟨t,rfl⟩:=(show ∃t,u=Value.int (rks.getD x.1 0) t from r2);exact⟨t,e2⟩
 ·have T:x.1∈List.range n:=by rw[<-U];exact CD hx
  have a3:=A8.mp T;omega
 ·rw[U];exact BW
 ·have a4:H D=none:=I.hok.fresh hD;refine⟨.ref D,_,I.laid (t':=tk) (o:=.lst ((g.map (·.1)).map λi:Nat=>V.int (i:Int))) keep hD ?_,rfl,q D (g.map (·.1)) a4 ?_ ?_⟩
  ·refine⟨?_,g.map TS.itV,c,?_,hg⟩
   ·rw[Ab,Ab,a1.length_eq];lia
   ·rw[BU];exact se g
  ·rw[<-U];exact a1.map _
  ·exact B7.mpr pw
theorem z0.tabbed{P U:Addr}{ps more:Array Value}{oc fo:Obj}{tk:Nat}(I:z0 X pins σ H s)(T:H P=some (.tbl ps))(hx:Heap.ExtBut P s.heap h')(g:h'.get? P=some (PySem.W.tabObj (ps++more)))
 (hc:s.heap.objs.size<=U) (j:h'.get? U=some oc) (ht:0<tk):z0 X pins σ (upd (upd H P (.tbl (ps++more))) U (.frz oc (.own 0))) { s with heap:=h'.push fo,toks:=tk }:=by
 have nc:H U=none:=I.hok.fresh hc;have t:∀b,H b=none->b≠P:=λb e z=>by rw[z,T] at e;cases e
 have l:∀b u,H b=some u->b≠U:=λb u e z=>by rw[z,nc] at e;cases e
 have p:∀b o,s.heap.get? b=some o->b≠U:=λb o e=>AZ (AL (xa e) hc);have C:∀b o,b≠P->s.heap.get? b=some o->(h'.push fo).get? b=some o:=λb o n e=>wh _ (hx b o n e);have J:∀b u,H b=some u->(∀ps,u≠.tbl ps)->b≠P:=λb u e d z=>by rw[z,T] at e;cases e;exact d _ rfl
 refine I.step (ch:=[]) (g':=s.gens) (d':=s.drawn) (t':=tk) (λ_ z=>nomatch z) (λb o _ _ _ e n=>C b o (t b n) e) (λb o _ _ _ e n=>⟨o.slots,C b o (t b n) e⟩) (λb o _ e n=>?_) (λb o _ e=>?_) (λb xs e=>?_) (λb o u e=>?_) (λb qs e=>?_) (λm hm=>?_) (λb u e=>?_) I.bare ht
 ·rw[qr (p b o e),qr (t b n)];exact n
 ·by_cases c:b=P
  ·subst c;exact⟨_,wh _ g⟩
  ·exact⟨o,C b o c e⟩
 ·rw[qr (l b _ e),qr (J b _ e λ_ z=>by cases z)];exact e
 ·rw[qr (l b _ e),qr (J b _ e λ_ z=>by cases z)];exact e
 ·rw[qr (l b _ e)];by_cases c:b=P
  ·subst c;rw[T] at e;cases e;exact⟨more,zg⟩
  ·rw[qr c];exact⟨#[],by rw[e];simp⟩
 ·exact(hm.extBut hx (t _ I.free)).push _
 ·by_cases c:b=U
  ·subst c;rw[zg] at e;cases e;exact⟨wh _ j,_,wh _ j⟩
  ·rw[qr c] at e;by_cases d:b=P
   ·subst d;rw[zg] at e;cases e;exact wh _ g
   ·rw[qr d] at e;refine(I.hok b u e).stay (λa v ha r=>C a v ?_ r) (λa r=>?_) (λa xs r=>?_)
    ·rcases ha with rfl|ha
     ·exact d
     ·exact J a _ ha λ_ z=>by cases z
    ·rw[qr (l a _ r),qr (J a _ r λ_ z=>by cases z)];exact r
    ·rw[qr (l a _ r),qr (J a _ r λ_ z=>by cases z)];exact r
theorem zY{te:TE}{J:Arguments}{U:Pos}{ik:Nat}{P:Addr}(hg:Gl X "sorted")(hm:X.mg "sorted"=none)(he:PE X e te)(S:TS.KeySc fy kx px)(C:yP X.K X.env.code P)(hr:X.A.depth+3<recursionLimit)
 (hq:X.env.qual ++ "<lambda>" = q) (bp:X.N[ik]?=some kx) (av:X.env.scope.names.lookup kx=some .cell) (aL:∃cell,X.env.cells.lookup kx=some cell/\closureFor fy X.env=pure [(kx,cell)])
 (ba:defaultsOf J X.env=([],[])) (hb:∀(name eK:Str) (cl:List (Str×Addr)) (pm cd ct v:Value),bindArgs (PySem.W.kla_fn name eK J (TS.keyBody kx px p1 p2 p3 p4 p5 x1) fy cl pm cd ct) ⟨[v],[]⟩=pure [(px,v)])
 (h1:starEach [e] X.env=(false,eval e X.env)::starEach [] X.env:=by rfl) (h2:(backTo pos (starEach [e] X.env)).any (·.1)=false:=by rfl)
 (h3:backTo pos (starEach [e] X.env)=(false,eval e X.env)::backTo pos (starEach [] X.env):=by rfl):
 PE X (.Call (.Name "sorted" p) [e] [⟨some "key",.Lambda J (TS.keyBody kx px p1 p2 p3 p4 p5 x1) fy U,sy⟩] pos) (aim P q ik te):=by
 intro a1 s σ H Q I h;refine wpAny_Call_Name_kw (cg I hg hm (by decide +kernel:bootBuiltins "sorted"=some (.builtin "sorted")) ?_ (by decide) (by decide));refine PyProof.Rows.callWith_kw ?_ h3 h2;rw[h3];refine Ef (aF (he a1 s σ H _ I h) λv s1 ⟨x,H1,g,rx,l,kk,n,rks,ev,hl,hs,hk,hn,hz,T,qq⟩=>?_);refine Ei ?_;subst ev;cases (show v=Value.ref l from rx);show wpAny _ _ (evalAll ((do let v <-eval (.Lambda J (TS.keyBody kx px p1 p2 p3 p4 p5 x1) fy U) X.env;standAt pos;pure v)::[])) _ _ s1;refine wpAny_evalAll_cons (Aa ?_);obtain⟨cell,a3,ao⟩:=aL;obtain⟨c,bq,bb,lc,hC⟩:=C.ex;obtain⟨bm,ob,b1,b2,b3,b4,b5,b6,b7⟩:=C.bm;obtain⟨ag,tP,tok,a4⟩:=T;have bc:s1.heap.Ns mainGlobals X.mg:=g.ok.mod.glob.keeps g.bk;have bd:s1.heap.get? P=some (PySem.W.tabObj ag):=g.hok P _ tP;have bf:PySem.W.CodeHd s1.heap c P:=hC _ (g.kIn c bq lc);have a2:∀b o,X.base.get? b=some o->b≠P:=λb o e z=>by have:=(g.bs b o e).2;rw[z,tP] at this;cases this
 have au:=g.ok.mod.kin bm ob b4;have hB:s1.heap.BuiltinsAt X.mg P:=⟨bm,ob,Cp g.ok.mod.kin g.ok.mod.glob b1,b2,b3,a2 _ _ au,(g.bs _ _ au).1,b5,b6,b7⟩;have br:mainGlobals≠P:=by obtain⟨o,es,ep,e,hd,_⟩:=g.ok.mod.glob;exact a2 _ _ e
 have a5:s1.heap.IsCell cell (some (.ref kk)):=by
  obtain⟨m,_,bu⟩:=g.loc;obtain⟨u,ru,lk⟩:=bu ik kx _ bp hs (.inr (.inl av));cases (show u=Value.ref kk from ru);rcases lk with⟨k1,_⟩|⟨_,c2,e2,bv⟩
  ·have k1:X.env.scope.names.lookup kx=some .local:=k1;rw[av] at k1;cases k1
  ·rw[a3] at e2;cases e2;exact bv
 refine PySem.W.kla_eval ba ?_;rw[hq];have xg:∀(s2:Shared) (H2:Hp) (f j:Addr) (r pm:Value),z0 X a1 σ H2 s2->s2.heap.get? f=some (PySem.W.kla_obj "<lambda>" q J (TS.keyBody kx px p1 p2 p3 p4 p5 x1) fy [(kx,cell)] pm j r)->s2.heap.CodeRec (.ref j) q->s2.heap.IsCell cell (some (.ref kk))->
  (∀b u,b≠P->H1 b=some u->H2 b=some u)->pU H2 P q->(∀b,H2 b=none->H1 b=none)->
  wpAny (model X.prog X.w) X.A (do standAt pos;pure (Value.ref f)) (λv s'=>wpAny (model X.prog X.w) X.A (evalAll []) (λvs bS=>wpAny (model X.prog X.w) X.A (call (.builtin "sorted") [.ref l] ([Str.ofString "key"].zip (v::vs))) (EP X a1 σ Q) X.xe bS) X.xe s') X.xe s2:=by
  intro s2 H2 f j r pm I2 g1 g2 g3 g4 g5 g6;refine Aa (wpAny_standAt (Ah (wpAny_evalAll_nil ?_)));have lP:l≠P:=λz=>by rw[z,tP] at hl;cases hl
  have kP:kk≠P:=λz=>by rw[z,tP] at hk;cases hk
  refine yK (n:=n) (rks:=rks) I2 S hr g1 g2 g3 (λv=>hb _ _ _ _ _ _ v) (g4 _ _ lP hl) (g4 _ _ kP hk) hn hz λD qs hD ca pw=>?_;have bg:D≠P:=λz=>by obtain⟨cy,e2,_⟩:=g5;rw[z,e2] at hD;cases hD
  refine qq _ D qs (λb u n e=>?_) ?_ (g6 D hD) bg zg ca pw
  ·rw[qr (zr (g4 b u n e) hD)];exact g4 b u n e
  ·exact g5.keep (qr (AE bg)) λb o u e=>by rw[qr (zr e hD)];exact e
 cases hf:codeAmong U ag.toList with
 |some cv=>
  obtain⟨j,oc,vs,t,cb,f1,f2,f3⟩:=a4 U cv hf;subst cb;refine xj g.tk (PySem.W.kla_makeFunctionHit (mg:=X.mg) ao g.ok.glob bc bb bf bd tok hf hB λr h' tk bh d0 ht=>?_);have I2:z0 X a1 σ H1 { s1 with heap:=h'.push { cls:=.type "function",data:=.func (PySem.W.kla_fn "<lambda>" q J (TS.keyBody kx px p1 p2 p3 p4 p5 x1) fy [(kx,cell)] ((X.mg "__name__").getD .none) (.ref j) r) },toks:=tk }:=g.kept (t':=tk) λb o e=>wh _ (bh b o e);obtain⟨al,_⟩:=I2.hok j _ f1;refine xg _ H1 _ j r _ I2 (xb _ rfl) ⟨j,oc,vs,t,rfl,al,f2,f3⟩ ?_ (λb u _ e=>e) ⟨ag,tP,tok,a4⟩ (λb e=>e);obtain⟨o,e1,e2⟩:=a5;exact⟨o,wh _ (bh _ _ e1),e2⟩
 |none=>
  refine xj g.tk (PySem.W.kla_makeFunction (mg:=X.mg) ao g.ok.glob bc bb bf bd tok hf br hB λj r h' tk hx bi de bj cc ht=>?_);obtain⟨c2,oc,vs,t,e2,al,f2,f3⟩:=bj;cases e2;have I2:=g.tabbed (fo:=PySem.W.kla_obj "<lambda>" q J (TS.keyBody kx px p1 p2 p3 p4 p5 x1) fy [(kx,cell)] ((X.mg "__name__").getD .none) j r) tP hx cc bi al ht;have nc:H1 j=none:=g.hok.fresh bi;have cP:j≠P:=λz=>by rw[z,tP] at nc;cases nc
  refine xg _ _ _ j r _ I2 (xb _ rfl) ⟨j,oc,vs,t,rfl,wh _ al,f2,f3⟩ ?_ (λb u n e=>?_) ?_ (λb e=>?_)
  ·obtain⟨o,e1,e2⟩:=a5;have nP:cell≠P:=λz=>by have:=g.freeC kx cell a3;rw[z,tP] at this;cases this
   exact⟨o,wh _ (hx _ _ nP e1),e2⟩
  ·rw[qr (zr e nc),qr n];exact e
  ·refine⟨ag++#[rawInt U.line,rawInt U.col,.ref j],by rw[qr (AE cP),zg],?_,λbn cv z=>?_⟩
   ·rw[C6];exact pG _ tok
   ·rw[C6] at z;rcases uH _ tok z with z|z
    ·obtain⟨d',od,cm,t',k1,k2,k3⟩:=a4 bn cv z;have nP:d'≠P:=λz=>by rw[z,tP] at k2;cases k2
     exact⟨d',od,cm,t',k1,by rw[qr (zr k2 nc),qr nP];exact k2,k3⟩
    ·exact⟨j,oc,vs,t,z,zg,f2,f3⟩
  ·by_cases d:b=j
   ·subst d;exact nc
   ·rw[qr d] at e;by_cases d2:b=P
    ·subst d2;rw[zg] at e;cases e
    ·rw[qr d2] at e;exact e
end L2
namespace L3
open PySem L2
def ab8(Pt:Addr)(q:Str)(g:Nat)(te:xz)(τ:jq)(L:qp)(Q:YK):Prop:=te τ L λy L1=>match y with
 |.ref l=>dQ L1 l λys=>∃(n:Nat) (rks:List Int) (U:Addr),ys=aq 0 n/\xH τ g=some (.ref U)/\L1 U=some (.lst (rks.map Y.int))/\rks.length=n/\n<=63/\L1 Pt=some (.tb q)/\
  ∀(D:Addr) (J:List Nat),L1 D=none->J.Perm (List.range n)->(J.Pairwise λi j=>rks.getD i 0*1000000+(i:Int)<=rks.getD j 0*1000000+(j:Int))->Q (.ref D) (qf L1 D (.lst (J.map λi:Nat=>Y.int (i:Int))))
 |_=>False
theorem nX{G:G3}{H:Hp}:∀{l:List Nat} {xs:List V},xr G H (l.map λi:Nat=>Y.int (0+(i:Int))) xs->xs=l.map λi:Nat=>V.int (0+(i:Int))
 |[],_,h=>h
 |_::_,_,⟨x,J,e,r,s⟩=>by subst e;cases r;rw[nX s];rfl
theorem gg{G:G3}{H:Hp}:∀{l:List Int} {xs:List V},xr G H (l.map Y.int) xs->xs=l.map V.int
 |[],_,h=>h
 |_::_,_,⟨x,J,e,r,s⟩=>by subst e;cases r;rw[gg s];rfl
theorem rD{G:G3}{H:Hp}:∀J:List Nat,xr G H (J.map λi:Nat=>Y.int (i:Int)) (J.map λi:Nat=>V.int (i:Int))
 |[]=>rfl
 |_::r=>⟨_,_,rfl,rfl,rD r⟩
theorem ado{J:Arguments}{g:Pos}{t:Nat}(hg:Gl X "sorted")(hm:X.mg "sorted"=none)(he:QE X e te)(S:TS.KeySc fy kx px)(C:yP X.K X.env.code Pt)(hr:X.A.depth+3<recursionLimit)
 (hq:X.env.qual ++ "<lambda>" = q) (I:X.N[t]?=some kx) (a1:X.env.scope.names.lookup kx=some .cell) (j:∃cell,X.env.cells.lookup kx=some cell/\closureFor fy X.env=pure [(kx,cell)])
 (o:defaultsOf J X.env=([],[])) (hb:∀(name eK:Str) (cl:List (Str×Addr)) (pm cd ct v:Value),bindArgs (PySem.W.kla_fn name eK J (TS.keyBody kx px p1 p2 p3 p4 p5 x1) fy cl pm cd ct) ⟨[v],[]⟩=pure [(px,v)])
 (h1:starEach [e] X.env=(false,eval e X.env)::starEach [] X.env:=by rfl) (h2:(backTo pos (starEach [e] X.env)).any (·.1)=false:=by rfl)
 (h3:backTo pos (starEach [e] X.env)=(false,eval e X.env)::backTo pos (starEach [] X.env):=by rfl):
 QE X (.Call (.Name "sorted" p) [e] [⟨some "key",.Lambda J (TS.keyBody kx px p1 p2 p3 p4 p5 x1) fy g,sy⟩] pos) (ab8 Pt q t te):=
 DR (zY hg hm he S C hr hq I a1 j o hb h1 h2 h3) λσ H Q τ L Q3 rs rl z k=>by
  refine⟨τ,L,_,rs,rl,z,λv H1 y L1 t1 U rv z=>?_⟩;cases y with
  |ref l=>
   obtain⟨ys,e1,n,a2,kk,rfl,e2,e3,hn,hz,eP,qq⟩:=vd z;cases rv;obtain⟨xs,h1,r1⟩:=U l _ e1;obtain⟨xk,h2,r2⟩:=U kk _ e3;have T:pU H1 Pt q:=U Pt _ eP;cases nX r1;cases gg r2;obtain⟨v,hv,rv⟩:=rs.get t _ (oy _ _ e2);cases rv;refine⟨l,kk,n,a2,rfl,h1,hv,h2,hn,hz,T,λH2 D qs kp T2 hD a4 a3 pm pw=>?_⟩;have tb:∃r,H1 Pt=some (.tbl r):=let ⟨r,e,_⟩:=T;⟨r,e⟩;have t2:je H1 H2:=λa u i h=>kp a u (λc=>by obtain⟨r,e⟩:=tb;rw[c,e] at h;cases h;cases i) h
   refine k _ _ _ _ (t1.trans t2) (λa u e=>?_) (by rfl) (qq D qs (U.none hD) pm pw);by_cases c:a=D
   ·subst c;rw[q8] at e;cases e;exact⟨_,a3,rD qs⟩
   ·rw[qb c] at e;by_cases d:a=Pt
    ·subst d;rw[eP] at e;cases e;exact T2
    ·obtain⟨x,hx⟩:=(U a u e).ex;exact(U a u e).keep t2 (by rw[hx];exact kp a x d hx)
  |_=>exact z.elim
structure akq(K:Ae)(x eK:Str)(st:Stmt)(f:Addr)(fd:FuncData)(Pt:Addr):Prop where
 ex:∃(oc:Value) (od:Option Addr) (kV gc pm:Value) (an:Option Addr) (fx ct:Value) (oi:Array (Option Value)),
  fd=PySem.W.fnOf x eK (vh st) (jn st) (qu st) .none kV gc pm an fx ct/\K.lookup f=some ⟨oc,od,.func fd,oi⟩/\PySem.W.codeIn K fx eK=true/\yP K fx Pt
 kp:PySem.W.keepIn K (.ref f)=true
theorem apz{P:Program}{w:World}{K:Ae}{N:List Str}{k:Nat}{sp:jz}(F:akq K x eK st f fd Pt)(S:wr N ps (qu st))(len:∀ys L Q,sp ys L Q->ys.length=ps.length)
 (J:∀(fx:Value) (A:Around) (outer:List Env) (s:Shared) (H:Hp) (E:XK),yP K fx Pt->we k (A.deeper (PyProof.Rows.envOfC eK (qu st) s.heap.objs.size f fx))->
  ∃t,mh (cn CX0 P w K mg base N eK (qu st) f fx A outer s H E).nox (jn st) t/\∀ys L Q,sp ys L Q->t { nx:=λ_ L'=>df Q .non L',rt:=df Q } (eE N ys) L):Fn3 P w K mg base (k+1) f fd ps sp:=by
 obtain⟨oc,od,kV,j,pm,an,fx,ct,l,rfl,lk,g,C⟩:=F.ex;have F0:Fun K x eK st f _:=⟨⟨oc,od,kV,j,pm,an,fx,ct,l,rfl,lk,g⟩,F.kp⟩;refine ac0 lk g S (λvs H Q E ⟨ys,L,o,p,rl,z,_⟩=>by rw[<-p.length];exact len ys L o z) λA outer s H vs Q E hr ⟨ys,L,o,p,rl,z,k⟩=>?_;obtain⟨t,ht,q⟩:=J fx A outer s H E C hr;refine⟨_,fZ.nox ht,eE N ys,L,_,i3 p,rl,q ys L o z,?_⟩;exact⟨λσ r τ L' I a2 U ⟨L2,T,q2⟩=>k .non r .non L2 I (U.sub T) (by rfl) q2,λv r y L' I U a1 ⟨L2,T,q2⟩=>k v r y L2 I (U.sub T) a1 q2,λ_ _ _ _ _ _ _ z=>z.elim,λ_ _ _ _ _ _ _ z=>z.elim⟩
def oh(Pt:Addr)(q:Str):jz:=λys L Q=>∃J:List Int,ys=[.sq (J.map Y.int)]/\J.length<=63/\L=qf (λ_=>none) Pt (.tb q)/\∀L',Q (.bl true) L'
def spTopT(q:Str)(K:Ae)(Pt:Addr):Sp:=λvs H Q _=>∃(a:Addr) (J:List Int),vs=[.ref a]/\SqF K H a (J.map V.int)/\J.length<=63/\H Pt=some (.tbl #[])/\∀H',Q (.bl true) H'
theorem afs{vs:List V}{Q:VK}{E:XK}(h:spTopT q G.K Pt vs H Q E):dn G (oh Pt q) vs H Q E:=by
 obtain⟨a,J,rfl,U,g,j,z⟩:=h;refine⟨[.sq (J.map Y.int)],qf (λ_=>none) Pt (.tb q),λy _=>y=.bl true,xr.one ⟨a,_,rfl,U,rG J⟩,(λb u e=>?_),⟨J,rfl,g,rfl,λ_=>rfl⟩,?_⟩
 ·by_cases c:b=Pt
  ·subst c;rw[q8] at e;cases e;exact⟨#[],j,trivial,λpos p z=>by cases z⟩
  ·rw[qb c] at e;cases e
 ·rintro v l y r _ _ o rfl;cases o;exact z l
end L3
namespace L2
open PySem PySem.Spec PyProof.Rows
def lessK(Pt:Addr):Ae->Ae
 |[]=>[]
 |(a,o)::r=>if a==Pt then lessK Pt r else(a,o)::lessK Pt r
theorem xo{Pt a:Addr}(h:a≠Pt):∀K:Ae,(lessK Pt K).lookup a=K.lookup a
 |[]=>rfl
 |(b,o)::r=>by
  unfold lessK;by_cases c:(b==Pt)=true
  ·rw[AC c,xo h r,Bj];have:(a==b)=false:=by have J:=eq_of_beq c;subst J;exact DH h
   rw[this]
  ·rw[AF c,Bj,Bj,xo h r]
theorem k6{Pt:Addr}:∀K:Ae,(lessK Pt K).lookup Pt=none
 |[]=>rfl
 |(b,o)::r=>by
  unfold lessK;by_cases c:(b==Pt)=true
  ·rw[AC c];exact k6 r
  ·rw[AF c,Bj];have:(Pt==b)=false:=by cases d:Pt==b with|false=>rfl|true=>exact absurd (beq_iff_eq.mpr (eq_of_beq d).symm) c
   rw[this];exact k6 r
theorem lC{K:Ae}{o:Obj}(e:(lessK Pt K).lookup a=some o):a≠Pt/\K.lookup a=some o:=by
 by_cases c:a=Pt
 ·subst c;rw[k6] at e;cases e
 ·rw[xo c] at e;exact⟨c,e⟩
theorem lessK_in{K:Ae}(X:K.In h):(lessK Pt K).In h:=λa o e=>X a o (lC e).2
structure ahi(K:Ae)(Pt:Addr):Prop where
 tab:K.lookup Pt=some (PySem.W.tabObj #[])
 hd:∃c,∀h:Heap,K.In h->PySem.W.CodeHd h c Pt
 st:Pt≠cStatics
section
variable {K:Ae}(T:K.lookup Pt=some (PySem.W.tabObj #[]))
include T
theorem ns_dn{r:Option (Option Value)}(e:PySem.W.nsIn K a x=r):PySem.W.nsIn (lessK Pt K) a x=r:=by
 rw[<-e];unfold PySem.W.nsIn;by_cases c:a=Pt
 ·subst c;rw[k6,T]
 ·rw[xo c]
theorem lk_dn{o:Obj}(e:K.lookup a=some o)(n:o.cls≠.none):(lessK Pt K).lookup a=some o:=by
 rw[xo ?_]
 ·exact e
 ·rintro rfl;rw[T] at e;cases e;exact n rfl
theorem code_dn(e:PySem.W.codeIn K cd q=true):PySem.W.codeIn (lessK Pt K) cd q=true:=by
 unfold PySem.W.codeIn at e ⊢;split at e
 ·rename_i c;by_cases d:c=Pt
  ·subst d;rw[T] at e;simp at e
  ·rw[xo d];exact e
 ·cases e
theorem aj6{v:Value}:PySem.W.ownIn (lessK Pt K) x v=PySem.W.ownIn K x v:=by
 unfold PySem.W.ownIn;split
 ·rfl
 ·rename_i a;by_cases d:a=Pt
  ·subst d;rw[k6,T]
  ·rw[xo d];split
   ·exact ns_dn T rfl
   ·rfl
 ·rfl
theorem sX{x:Str}:∀l:List Value,PySem.W.alongIn (lessK Pt K) x l=PySem.W.alongIn K x l
 |[]=>rfl
 |c::r=>by unfold PySem.W.alongIn;rw[aj6 T,sX r]
theorem afi{v:Value}:PySem.W.findIn (lessK Pt K) v x=PySem.W.findIn K v x:=by
 unfold PySem.W.findIn;split
 ·rfl
 ·rename_i a;by_cases d:a=Pt
  ·subst d;rw[k6,T]
  ·rw[xo d];split
   ·exact sX T _
   ·rfl
 ·rfl
theorem uP(n:a≠Pt):PySem.W.specialIn (lessK Pt K) (.ref a) x=PySem.W.specialIn K (.ref a) x:=by unfold PySem.W.specialIn PySem.W.typeIn;dsimp only;rw[xo n];congr 1;funext t;exact afi T
theorem keep_dn{f:Value}(e:PySem.W.keepIn K f=true):PySem.W.keepIn (lessK Pt K) f=true:=by
 unfold PySem.W.keepIn at e ⊢;split at e
 ·rename_i a;by_cases d:a=Pt
  ·subst d;rw[T] at e;simp at e
  ·rw[xo d,uP T d];exact e
 ·cases e
end
theorem yn{P:Program}{w:World}{K:Ae}{mb:Str->Option Value}{CX:vW}{k:Nat}{J:Shared}{T:List Int}
 (KX:K.In J.heap) (TI:ahi K Pt) (a1:J.heap.Ns mainGlobals mg) (hb:J.heap.Ns builtinsNs mb) (ao:∀x:Str,x ≠ "__name__" -> mb x=bootBuiltins x) (a2:J.heap.NoLimit) (hg:J.gens=#[]) (au:0<J.toks)
 (t:J.heap.get? a=some { cls:=.type "list",data:=.seq vs.toArray }) (hi:IntsAre vs T) (hl:T.length<=sizeLine) (hr:we k callerA)
 (F:∀base:Heap,(lessK Pt K).In base->base.Ns mainGlobals mg->bO P w (lessK Pt K) mg base CX k fa fd [x] sp) (p:∀(s:Shared) (u:Value),BindsTo s fd ⟨[u],[]⟩ [(x,u)])
 (av:∀H:Hp,H Pt=some (.tbl #[])->(H a=none\/∃o xs,H a=some (.frz o (.lst xs)))->wu (lessK Pt K) H a (T.map V.int)->sp [.ref a] H (λv _=>v=.bl true) λ_ _ _=>False)
 (aL:∀H e s',CX [] H J (λ_ _ _=>False) e s'->False):
 codeAny (model P w) callerA (.call (.ref fa) ⟨[.ref a],[]⟩) (λr s'=>r=.ok (.ret (.bool true))/\OldK J.heap s'.heap/\s'.os=J.os/\AllBare s'.gens) J:=by
 have rv:=oD hi;have a3:=hi.length;have hP:J.heap.get? Pt=some (PySem.W.tabObj #[]):=KX Pt _ TI.tab;have g:a≠Pt:=λz=>by rw[z,hP] at t;cases t
 have core:∀H:Hp,H Pt=some (.tbl #[])->(∀b,b≠a->b≠Pt->H b=none)->(H a=none\/∃o xs,H a=some (.frz o (.lst xs)))->wu (lessK Pt K) H a (T.map V.int)->(∀u,H a=some u->xu P w H J.heap a u)->(H a≠none->K.lookup a=none)->
  codeAny (model P w) callerA (.call (.ref fa) ⟨[.ref a],[]⟩) (λr s'=>r=.ok (.ret (.bool true))/\OldK J.heap s'.heap/\s'.os=J.os/\AllBare s'.gens) J:=by
  intro H HP Hn HO HS a4 ba;have a5:dW P w H J.heap:=λb u e=>by
   by_cases c:b=a
   ·subst c;exact a4 u e
   ·by_cases d:b=Pt
    ·subst d;rw[HP] at e;cases e;exact hP
    ·rw[Hn b c d] at e;cases e
  have U:∀{b:Addr} {o:Obj},J.heap.get? b=some o->H b=none->(o6 J.heap H).get? b=some o:=λe n=>ace e n;have bb:∀{b:Addr} {o:Obj} {C:Array DictEntry} {I:Nat},J.heap.get? b=some o->o.data=.dict C I->H b=none:=λ{b o C I} e d=>by
   refine Hn b (λz=>?_) λz=>?_
   ·subst z;rw[t] at e;cases e;have d':Data.seq vs.toArray _=Data.dict C I:=d;cases d'
   ·subst z;rw[hP] at e;cases e;have d':Data.fields _=Data.dict C I:=d;cases d'
  have j:∀{b:Addr} {m:Str->Option Value},J.heap.Ns b m->(o6 J.heap H).Ns b m:=λ{b m} ⟨o,C,I,e,d,r⟩=>⟨o,C,I,U e (bb e d),d,r⟩;have ag:(lessK Pt K).In (o6 J.heap H):=λb o e=>by
   obtain⟨n,e⟩:=lC e;refine U (KX b o e) ?_;by_cases c:b=a
   ·subst c;cases q:H b with|none=>rfl|some u=>rw[ba (by rw[q];simp)] at e;cases e
   ·exact Hn b c n
  have hM:Mod (lessK Pt K) mg (o6 J.heap H):=⟨ag,j a1,⟨mb,j hb,ao⟩,let ⟨mc,h1,h2⟩:=a2;⟨mc,j h1,h2⟩⟩;have e0:ag4 P w (lessK Pt K) mg (o6 J.heap H) callerA [] J H:=⟨rfl,hM,λb o e=>afe e,Nat.le_of_eq (xD _ _),trivial,λb hb=>absurd (show b∈([]:List Addr) from hb) (by simp),a5,.of_eq hg,au⟩;refine codeAny_mono ((F _ ag (j a1)).run callerA [] J H ⟨[.ref a],[]⟩ [.ref a] [.ref a] _ _ hr e0 (p J (.ref a)) (.cons rfl .nil) (av H HP HO HS)) λr s' h=>?_;cases r with
  |error e=>exact(aL H e s' h).elim
  |ok fl=>
   cases fl with
   |next=>exact False.elim h
   |brk=>exact False.elim h
   |cont=>exact False.elim h
   |ret u=>
    obtain⟨v,H',os,bare,un,l,r',q,_⟩:=h;have q':v=.bl true:=q;subst q';obtain rfl:u=Value.bool true:=r';obtain⟨more,em⟩:=un.tbls Pt _ HP;have gP:s'.heap.get? Pt=some (PySem.W.tabObj (#[]++more)):=l Pt _ em;have kp:∀b o,b≠Pt->J.heap.get? b=some o->s'.heap.get? b=some o:=λb o n e=>by
     have al:H b=none->s'.heap.get? b=some o:=λz=>un.keep b o e z (by intro z;exact absurd (show b∈([]:List Addr) from z) (by simp)) (by simp);by_cases c:b=a
     ·subst c;rcases HO with z|⟨ob,xs,z⟩
      ·exact al z
      ·have z2:=un.frzs _ _ _ z;obtain⟨e1,_⟩:=a5 _ _ z;obtain⟨e2,_⟩:=l _ _ z2;rw[e] at e1;cases e1;exact e2
     ·exact al (Hn b c n)
    obtain⟨c,hc⟩:=TI.hd;refine⟨rfl,⟨λb o e=>?_,λb o e=>?_⟩,os,bare⟩
    ·by_cases n:b=Pt
     ·subst n;rw[hP] at e;cases e;exact .inr (.inl ⟨((hc _ KX).tab hP).isCodeTable,rfl,#[],more,rfl,gP⟩)
     ·exact .inl (kp b o n e)
    ·by_cases n:b=Pt
     ·subst n;exact⟨_,gP⟩
     ·exact⟨o,kp b o n e⟩
 cases hk:K.lookup a with
 |some o=>
  have e:=KX a o hk;rw[t] at e;cases e;refine core (λb=>if b=Pt then some (.tbl #[]) else none) (AC rfl) (λb _ n=>AF n) (.inl (AF g)) (.inr ⟨_,vs.toArray,_,(xo g K).trans hk,rfl,rfl,rfl,by rw[Ak,a3];exact hl,by simpa using rv⟩) (λu z=>by have z':=(AF g).symm.trans z;cases z') λz=>absurd (AF g) z
 |none=>
  refine core (λb=>if b=a then some (.frz { cls:=.type "list",data:=.seq vs.toArray } (.lst (T.map V.int))) else if b=Pt then some (.tbl #[]) else none) ((AF (AE g)).trans (AC rfl)) (λb n1 n2=>(AF n1).trans (AF n2)) (.inr ⟨_,_,AC rfl⟩) (.inl (.inr ⟨_,AC rfl⟩)) (λu z=>?_) λ_=>hk;have z':=(AC rfl).symm.trans z;cases z';exact⟨t,by rw[Ab];exact hl,vs,_,rv,t⟩
theorem walk_ofZT{l:PySem.W.OpenLaw}{k:Nat}{q:Program}{loose:List Str}{XP:(Str->Option Value)->Heap->Prop}{as0:List Addr}{N t:Nat}{d:DefRec}{K:Params->Ae}{CX:vW}{sp:Ae->Addr->Sp}
 (hn:l.most=some n) (C:n<=sizeLine) (I:d.params.defaults=[]) (hr:we k callerA) (ek:∀P,as0=(K P).map (·.1)) (a1:0<t)
 (F:∀(w:World) (mg:Str->Option Value) (fa:Addr) (h:Heap),(K w.params).In h->h.Ns mainGlobals mg->mg d.name=some (.ref fa)->
  ∃Pt:Addr,ahi (K w.params) Pt/\∃fd:FuncData,(∀(s:Shared) (u:Value),BindsTo s fd ⟨[u],[]⟩ [(x,u)])/\
   ∀base:Heap,(lessK Pt (K w.params)).In base->base.Ns mainGlobals mg->bO l.prog w (lessK Pt (K w.params)) mg base CX k fa fd [x] (sp (lessK Pt (K w.params)) Pt))
 (a2:∀(K:Ae) (Pt:Addr) (H:Hp) (a:Addr) (r:List Int),r.length<=n->H Pt=some (.tbl #[])->(H a=none\/∃o xs,H a=some (.frz o (.lst xs)))->wu K H a (r.map V.int)->sp K Pt [.ref a] H (λv _=>v=.bl true) λ_ _ _=>False)
 (a3:∀(H:Hp) (s:Shared) (e:Value) (s':Shared),CX [] H s (λ_ _ _=>False) e s'->False):
 PySem.W.WalkX q loose XP (PySem.W.X.obsZ as0) (PySem.W.X.valZ K N t) l.row.toRowW d [] (λf vs=>PySem.call f vs):=by
 refine Att.attach_callZ hn I ek a1 λw a5 j mg mb fa o pm cd ag a vs r G KX tk ho hd al a4 p U J hg=>?_;obtain⟨Pt,TI,fd,hb,hF⟩:=F w mg fa _ KX G.T.g a4;exact yn KX TI G.T.g G.T.b G.T.builtins G.T.nolimit hg tk p U (AM J C) hr hF hb (λH hP hO hS=>a2 _ Pt H a r J hP hO hS) λH e s'=>a3 H j e s'
end L2
namespace L3
open PySem L2
theorem top_startT :∀(K:Ae) (Pt:Addr) (H:Hp) (a:Addr) (J:List Int),J.length<=63->H Pt=some (.tbl #[])->(H a=none\/∃o xs,H a=some (.frz o (.lst xs)))->wu K H a (J.map V.int)->spTopT q K Pt [.ref a] H (λv _=>v=.bl true) λ_ _ _=>False:=by
 intro K Pt H a J U g j l;refine⟨a,J,rfl,?_,U,g,λ_=>rfl⟩;rcases l with(h|⟨o,h⟩)|h
 ·rcases j with z|⟨o,xs,z⟩<;>rw[h] at z<;>cases z
 ·exact .inl ⟨o,h⟩
 ·exact .inr h
structure DefInT(K:Ae)(x:Str)(st:Stmt)(Pt:Addr):Prop where
 ex:∃(f:Addr) (kV gc pm:Value) (an:Option Addr) (fx ct:Value),PySem.W.nsIn K mainGlobals x=some (some (.ref f))/\akq K x x st f (PySem.W.fnOf x x (vh st) (jn st) (qu st) .none kV gc pm an fx ct) Pt
theorem DefInT.use{K:Ae}(D:DefInT K x st Pt)(X:K.In h)(G:h.Ns mainGlobals mg)
 (J:∀(kV gc pm:Value) (an:Option Addr) (fx ct:Value) (us:List Value),us.length=ps.length->bindArgs (PySem.W.fnOf x x (vh st) (jn st) (qu st) .none kV gc pm an fx ct) ⟨us,[]⟩=pure (ps.zip us)):
 ∃f fd,akq K x x st f fd Pt/\dO K fd ps []/\mg x=some (.ref f):=by
 obtain⟨f,kV,gc,pm,an,fx,ct,a,F⟩:=D.ex;exact⟨f,_,F,.all (J kV gc pm an fx ct),Cp X G a⟩
end L3
namespace L2
open PySem PySem.Spec PyProof.Rows
section
variable {hQ:St}
theorem z0.ren(M:List Str)(I:z0 X pins σ H s)(J:M.length=X.N.length)(hs:hQ.length=σ.length)(h:∀(j:Nat) v,hQ[j]?=some (some v)->σ[j]?=some (some v)/\X.N[j]?=M[j]?):z0 { X with N:=M } pins hQ H s:=by obtain⟨m,U,l⟩:=I.loc;have o:=I.ok;exact { ok:=⟨o.mod,o.kind,o.glob,o.blt,o.above,o.inj,o.has,o.cab,o.hd,o.frames,o.stk,o.exf,o.bs,o.bsz,o.noex,o.exfs,o.funs,o.frf⟩,os:=I.os,bare:=I.bare,base:=I.base,cell:=I.cell,free:=I.free,freeC:=I.freeC,pin:=I.pin,hok:=I.hok,tk:=I.tk,len:=(by rw[hs,I.len];exact J.symm),loc:=⟨m,U,λi x v g p r=>by obtain⟨a,b⟩:=h i v p;exact l i x v (b.trans g) a r⟩ }
theorem sw(h:(σ.set i none)[j]?=some (some v)):j≠i/\σ[j]?=some (some v):=by
 by_cases c:i=j
 ·subst c;rw[Dx] at h;cases e:σ[i]? with|none=>rw[e] at h;cases h|some o=>rw[e] at h;cases h
 ·rw[Bu c] at h;exact⟨AE c,h⟩
end
end L2
namespace L3
open PySem L2
def i9:jq->Nat->jq
 |[],_=>[]
 |_::r,0=>none::r
 |o::r,i+1=>o::i9 r i
theorem rQ:∀(τ:jq) (i:Nat),i9 τ i=τ.set i none
 |[],_=>rfl
 |_::_,0=>rfl
 |o::r,i+1=>by unfold i9;rw[rQ r i];rfl
theorem xw.forget(h:xw G H σ τ)(i:Nat):xw G H (σ.set i none) (i9 τ i):=by
 rw[rQ];refine⟨by rw[BQ,BQ];exact h.len,λj y e=>?_⟩;by_cases c:i=j
 ·subst c;rw[Dx] at e;cases J:τ[i]? with|none=>rw[J] at e;cases e|some o=>rw[J] at e;cases e
 ·rw[Bu c] at e ⊢;exact h.get j y e
theorem al7:bootBuiltins "min"=some (.builtin "min"):=by decide +kernel
def mo(x:Y)(lo hi:Option Int)(L:qp)(Q:YK):Prop:=match x with
 |.tup ys=>¬(HT.sIx ys.length 0 lo=0/\HT.sIx ys.length ys.length hi=ys.length)/\Q (.tup (mz ys lo hi)) L
 |_=>False
theorem fw(K:Ae)(P:Program)(w:World)(g:X.K=K:=by rfl)(j:X.prog=P:=by rfl)(hw:X.w=w:=by rfl):qL X (ag0 ⟨K,P,w⟩ mo):=by
 subst g j hw;refine qL.imp al8 λx lo U H Q ⟨y,L,Q3,l,o,z,k⟩=>?_;cases y with
 |tup t=>
  obtain⟨a,C,e,sq,r⟩:=l;obtain⟨I,T⟩:=z;exact⟨a,C,e,sq,by rw[<-r.length];exact I,λp J=>k _ _ (.tup (mz t lo U)) L (DQ J) (o.skip J) ⟨p,_,rfl,.inl (.inl zg),(o9 r lo U).ts (DQ J)⟩ T⟩
 |_=>exact z.elim
theorem u7{keep:qp->Prop}(h:∀H L,je H₀ H->j5 G H L->keep L->∃xs,cZ G.K H a xs/\xr G H ys xs):fQ G H₀ (Itt G.K a) ys keep where
 go:=λi H L t J U g=>by
  obtain⟨xs,sq,r⟩:=h H L t J U;have:i<xs.length:=by rw[<-r.length];exact g
  exact⟨xs,xs[i],sq,Af this⟩
 yld:=λi H L x p y t J U j ⟨e,f⟩=>by subst e;obtain⟨xs,sq,r⟩:=h _ L t J U;obtain⟨C,l,o⟩:=r.get j;have:=f xs sq;rw[l] at this;cases this;exact⟨DP _,J,o⟩
 stop:=λH L t J U=>by obtain⟨xs,sq,r⟩:=h H L t J U;exact⟨xs,sq,by rw[r.length];exact Al _⟩
theorem ur(h:QE X e te):QI X tg e (wV te):=PI.imq (al3 h) λσ H R l L R3 o p z k=>by
 refine⟨l,L,_,o,p,z,λv C y I T J U g=>?_⟩;cases y with
 |tup ys=>
  obtain⟨a,j,e,sq,r⟩:=U;exact⟨a,e,⟨j,sq⟩,k _ C ys (λ_=>True) I T J (u7 λH L t _ _=>⟨j,cZ.ts sq t,r.ts t⟩) g⟩
 |_=>exact g.elim
theorem dp3{k:Nat}(J:we k A):A.depth+3<recursionLimit:=by have:=J.dp;omega
abbrev lamQ:Str:="_law_order.<locals>.<lambda>"
open PySem L2 Words
def OkO(ks:List (Option Kn)):Prop:=∀(p:Nat) (e:Bool) (i j:Nat),ks[p]?=some (some (.nd e i j))->i<p/\j<p
def xF(ks:List (Option Kn))(rks:List Int):Prop:=∀(p:Nat) (e:Bool) (i j:Nat),p<rks.length->ks[p]?=some (some (.nd e i j))->rks.getD i 0<rks.getD p 0/\rks.getD j 0<rks.getD p 0
theorem lB{r:Int}(h:i<rks.length):(rks++[r]).getD i 0=rks.getD i 0:=by rw[Bi,Bi,AH h]
theorem aab{r:Int}:(rks++[r]).getD rks.length 0=r:=by rw[Bi,Ay (Al _),Cm];rfl
theorem xF.snoc{ks:List (Option Kn)}{r:Int}{k:Option Kn}(ok:OkO ks)(h:xF ks rks)(g:ks[rks.length]?=some k)(l:∀e i j,k=some (.nd e i j)->rks.getD i 0<r/\rks.getD j 0<r):xF ks (rks++[r]):=by
 intro p e i j J U;obtain⟨o,t⟩:=ok p e i j U;rw[Ac] at J;have J:p<rks.length+1:=J;rw[lB (show i<rks.length by lia),lB (show j<rks.length by lia)];by_cases c:p<rks.length
 ·rw[lB c];exact h p e i j c U
 ·have:p=rks.length:=by lia
  subst this;rw[aab];exact l e i j (AO (g.symm.trans U))
def dF(ks:List (Option Kn))(J:List Nat):Prop:=J.Pairwise λx y=>∀e i j,ks[x]?=some (some (.nd e i j))->y≠i/\y≠j
theorem aa4{ks:List (Option Kn)}{J:List Nat}(ok:OkO ks)(h:xF ks rks)(U:rks.length=ks.length)(hw:J.Pairwise λi j=>rks.getD i 0*1000000+(i:Int)<=rks.getD j 0*1000000+(j:Int)):dF ks J:=by refine hw.imp λ{x y} z e i j ex=>?_;obtain⟨g,l⟩:=ok x e i j ex;obtain⟨o,p⟩:=h x e i j (by rw[U];exact zw ex) ex;exact⟨λc=>by subst c;lia,λc=>by subst c;lia⟩
theorem qM(h:i<rks.length):(rks.map Y.int)[i]?=some (.int (rks.getD i 0)):=by rw[An,Bi,Af h];rfl
def acy:kn:=(qo (zn (cj "abcdefghijklmnopqrstuvwxyz") (qh 2))
 (qo (zn (zh kw (jp 1) (zh wv (qa 0) (jp 8))) (qh 3))
 (qo (zn (zh wv (zh cN (qa 0) (jp 8)) (qa 3)) (qh 4))
 (qo (zn (yBS vH (cj "") (qe (uz 1 (iU (vn (jp 8))) (qh 7) agp (zh af (qa 2) (zh wv (zh kw (zh cN (qa 0) (jp 64)) (zh uK (jp 3) (qa 7))) (jp 26)))) zb)) (qh 5))
 (qo (jl (f9 (zh wv (zh cN (qa 0) (jp 64)) (jp 3)) (jp 1)) (zu (tU yH (qa 5) aE (aB (zh kw (jp 1) (zh wv (zh kw (qa 1) (qa 0)) (jp 3)))))) zq)
 (qo (zn (zh af (qa 2) (zh wv (zh kw (zh kw (zh cN (qa 0) (jp 64)) (zh uK (jp 3) (qa 4))) (qa 1)) (jp 26))) (qh 6))
 (zu (zh kw (zh kw (tU yH (qa 5) aE (aB (qa 4))) (qa 6)) (tU yH (qa 5) (aB (zh kw (qa 4) (jp 1))) (aB (qa 3)))))))))))
def eJ(i:Int):Nat:=97+(i % 26).toNat
theorem wD(i:Int):fO ("abcdefghijklmnopqrstuvwxyz" : Str).cps.toList (i % 26)=some (eJ i):=by
 obtain⟨n,J⟩:∃n:Nat,i % 26=n:=⟨(i % 26).toNat,by lia⟩;have h:n<26:=by lia
 unfold eJ;rw[J];have key:∀n,n<26->("abcdefghijklmnopqrstuvwxyz" : Str).cps.toList[n]?=some (97+n):=by decide +kernel
 exact vk (key n h)
theorem wC(i:Int):97<=eJ i/\eJ i<=122:=by unfold eJ;lia
def dP(s:Int):List Nat:=(List.range 8).map λk:Nat=>eJ (s / 64+3*(k:Int))
theorem kH(s:Int):(dP s).length=8:=by unfold dP;simp
theorem lK(s:Int):∀c∈dP s,97<=c/\c<=122:=λc J=>by obtain⟨k,_,rfl⟩:=AS.mp J;exact wC _
def oN(s:Int):Nat:=(s / 8 % (1+s % 8)).toNat
def szN(s:Int):Nat:=(1+s % 8).toNat
theorem ai1(s:Int):oN s<szN s/\szN s<=8/\s / 8 % (1+s % 8)=(oN s:Int)/\1+s % 8=(szN s:Int):=by
 have h0:0<1+s % 8:=by lia
 have h1:0<=s / 8 % (1+s % 8):=DJ _ (by lia);have h2:s / 8 % (1+s % 8)<1+s % 8:=Int.emod_lt_of_pos _ h0;unfold oN szN;lia
def aa(s w:Int):List Nat:=
 if s / 64 % 3=1 then(dP s).take (1+(w+s) % 3).toNat
 else((dP s).take (oN s)++[eJ (s / 64+3*(oN s:Int)+w)])++((dP s).drop (oN s+1)).take (szN s-(oN s+1))
theorem sv(s w:Int):da (mkS (aa s w)):=by
 have J:(mkS (aa s w)).length=(aa s w).length:=by rw[<-Txs.len_list];show(aa s w).toArray.toList.length=_;simp
 have U:(mkS (aa s w)).cps.toList=aa s w:=by show(aa s w).toArray.toList=_;simp
 have g:=kH s;obtain⟨j,l,_,_⟩:=ai1 s;refine⟨?_,?_,?_⟩
 ·rw[J];unfold aa;split
  ·rw[A4];omega
  ·rw[Ac,Ac];simp;simp +arith only
 ·rw[J];unfold aa;split
  ·rw[A4];omega
  ·rw[Ac,Ac,A4,A4,Cv];simp;lia
 ·rw[U];intro c h;unfold aa at h;split at h
  ·exact lK s c (B8 h)
  ·rcases Aq.mp h with h|h
   ·rcases Aq.mp h with h|h
    ·exact lK s c (B8 h)
    ·rw[Ai.mp h];exact wC _
   ·exact lK s c (List.mem_of_mem_drop (B8 h))
def mQ:jz:=λys L Q=>∃s w:Int,ys=[.int s,.int w]/\Q (.str (mkS (aa s w))) L
theorem y0(h:m<=n)(h2:n<=x.length):(Txt.slice x (some (m:Int)) (some (n:Int))).cps.toList=(x.cps.toList.drop m).take (n-m):=by have e:=oS x (some (m:Int)) (some (n:Int));rw[HT.sIx_nat,HT.sIx_nat,Cn h2,Cn (AM h h2)] at e;exact e
theorem oV(h:n<=x.length):(Txt.slice x none (some (n:Int))).cps.toList=x.cps.toList.take n:=by have e:=oS x none (some (n:Int));rw[HT.sIx_nat,HT.sIx_none,De,DD,Cn h] at e;exact e
theorem aaf:∀ys L Q,mQ ys L Q->vg acy 7 ys L Q:=by
 rintro ys L Q ⟨s,w,rfl,q⟩;have l:0<1+s % 8:=by lia
 refine⟨(by decide:(0:Int)<8),⟨by decide,by decide⟩,l,⟨by decide,by decide⟩,?_⟩;show lcK (aq 0 8) _ _ _ _ _ _ _ _;refine aiz (m:=8) (λi zs=>zs=((List.range i).map λk:Nat=>Y.str ⟨#[eJ (s / 64+3*(k:Int))]⟩)) (by decide) rfl ?_ ?_
 ·rintro i _ hi rfl;have J:=wD (s / 64+3*(0+(i:Int)));refine⟨⟨by decide,by decide⟩,.inl ⟨by decide,by decide⟩,(by decide:(0:Int)<26),by decide +kernel,?_⟩;walk_at "w";rw[J];refine⟨_,DO _,rfl,?_⟩;rw[List.range_succ,Av,show(0:Int)+(i:Int)=(i:Int) by simp +arith only];rfl
 ·rintro _ rfl p C;have e0:((List.range 8).map λk:Nat=>Y.str ⟨#[eJ (s / 64+3*(k:Int))]⟩)=((dP s).map λc=>(⟨#[c]⟩:Str)).map Y.str:=by unfold dP;rw[BU,BU];rfl
  rw[e0];refine qx q8 ⟨(dP s).map λc=>(⟨#[c]⟩:Str),rfl,?_,?_⟩
  ·have U:∀g:List Nat,((g.map λc=>(⟨#[c]⟩:Str)).map (·.length)).sum=g.length:=λg=>by induction g with|nil=>rfl|cons c r ih=>rw[AG,AG,List.sum_cons,ih,AN];show 1+r.length=_;exact Nat.add_comm _ _
   rw[U,kH];show 8+_*0<=_;rw[Nat.mul_zero];decide
  ·have j:=aaq (dP s);have o:(Txt.join "" ((dP s).map λc=>(⟨#[c]⟩:Str))).length=8:=by rw[<-Txs.len_list,j,kH]
   generalize Txt.join "" ((dP s).map λc=>(⟨#[c]⟩:Str))=base at o j;obtain⟨p1,p2,t,I⟩:=ai1 s;refine⟨⟨by decide,by decide⟩,(by decide:(0:Int)<3),?_⟩;refine v9 (λc=>?_) λc=>?_
   ·have e:1+(w+s) % 3=((1+(w+s) % 3).toNat:Int):=by lia
    refine⟨(by decide:(0:Int)<3),small (by lia),aI (By C) ?_⟩;have es:=oV (x:=base) (n:=(1+(w+s) % 3).toNat) (by lia);have eq:Txt.slice base none (some (1+(w+s) % 3))=mkS (aa s w):=by rw[e];refine(wZ _).symm.trans ?_;rw[es,j];unfold aa;rw[AC c]
    rw[<-eq] at q;exact q
   ·have J:=wD (s / 64+3*(s / 8 % (1+s % 8))+w);refine⟨⟨by decide,by decide⟩,.inl ⟨by decide,by decide⟩,(by decide:(0:Int)<26),by decide +kernel,?_⟩;walk_at "w";rw[J];have T:=oV (x:=base) (n:=oN s) (by lia);have s2:=y0 (x:=base) (m:=oN s+1) (n:=szN s) (by assumption) (by lia);have l1:(Txt.slice base none (some (oN s:Int))).length=oN s:=by rw[<-Txs.len_list,T,A4,Txs.len_list];lia
    have l2:(Txt.slice base (some ((oN s+1:Nat):Int)) (some (szN s:Int))).length<=8:=by rw[<-Txs.len_list,s2,A4];lia
    refine⟨small (by lia),?_⟩;refine⟨small (by rw[t,l1];show oN s+1<=1000;lia),?_⟩;refine⟨small (by lia),?_⟩;have U:((oN s:Int)+1)=((oN s+1:Nat):Int):=by rfl
    have l3:(Txt.slice base none (some (oN s:Int))++(⟨#[eJ (s / 64+3*(s / 8 % (1+s % 8))+w)]⟩:Str)).length=oN s+1:=by rw[PySem.Str.length_append,l1];rfl
    refine⟨small ?_,aI (By C) ?_⟩
    ·rw[t] at l3 ⊢;rw[l3,U,I];lia
    ·have eq:(Txt.slice base none (some (oN s:Int))++(⟨#[eJ (s / 64+3*(oN s:Int)+w)]⟩:Str))++Txt.slice base (some ((oN s+1:Nat):Int)) (some (szN s:Int))=mkS (aa s w):=by
      refine(wZ _).symm.trans ?_;have ca:∀a b:Str,(a++b).cps.toList=a.cps.toList++b.cps.toList:=λa b=>by show(a.cps++b.cps).toList=_;simp
      rw[ca,ca,T,s2,j];unfold aa;rw[AF c]
     rw[t,U,I,eq];exact q
theorem vV(t t':Bool)(n J:Str):Da.eq (lL (.leaf t n)) (lL (.leaf t' J))=(decide (t=t')&&decide (n=J)):=by
 by_cases h:n=J
 ·subst h;cases t<;>cases t'<;>simp[lL,Da.eq,Da.eqs,gD,kL]<;>decide +kernel
 ·cases t<;>cases t'<;>simp[lL,Da.eq,Da.eqs,gD,kL,h]<;>decide +kernel
theorem iS{α β:Type}(f:α->β):∀(l:List α) (n:Nat),(l.map f).eraseIdx n=(l.eraseIdx n).map f
 |[],n=>by simp
 |_::_,0=>rfl
 |x::r,n+1=>by rw[AG,Cf,Cf,AG,iS f r n]
theorem aN(a:jg)(b:Y)(r:List (jg×Y))(k:jg):ko ((a,b)::r) k=if a=k then some b else ko r k:=by
 unfold ko;rw[Bg];by_cases h:a=k
 ·rw[AC h,show decide ((a,b).1=k)=true from AD h];rfl
 ·rw[AF h,show decide ((a,b).1=k)=false from Au h]
theorem s9(k J:jg)(y:Y):∀kvs:List (jg×Y),ko (kvs.map λU=>if U.1=k then(U.1,y) else U) J=if J=k then(ko kvs J).map (λ_=>y) else ko kvs J
 |[]=>by rw[CP];split<;>rfl
 |(a,b)::r=>by
  have g:=s9 k J y r;rw[AG,aN];by_cases h:a=k
  ·rw[AC (show(a,b).1=k from h),aN,g];by_cases h2:J=k
   ·rw[AC h2,AC h2,AC (h.trans h2.symm),AC (h.trans h2.symm)];rfl
   ·rw[AF h2,AF h2,AF (λz=>h2 (z.symm.trans h)),AF (λz=>h2 (z.symm.trans h))]
  ·rw[AF (show ¬(a,b).1=k from h),aN,g];by_cases h2:J=k
   ·rw[AC h2,AC h2,AF (λz=>h (z.trans h2)),AF (λz=>h (z.trans h2))]
   ·rw[AF h2,AF h2]
theorem rV(k J:jg)(y:Y):∀kvs:List (jg×Y),ko (kvs++[(k,y)]) J=(ko kvs J).or (if k=J then some y else none)
 |[]=>by rw[C4,aN];have:ko [] J=none:=rfl;rw[this];split<;>rfl
 |(a,b)::r=>by rw[List.cons_append,aN,aN,rV k J y r];split<;>rfl
theorem lr(k:jg):∀kvs:List (jg×Y),(kvs.any λJ=>decide (J.1=k))=(ko kvs k).isSome
 |[]=>rfl
 |(a,b)::r=>by
  rw[B9,aN,lr k r];by_cases h:a=k
  ·rw[AC h,show decide ((a,b).1=k)=true from AD h];rfl
  ·rw[AF h,show decide ((a,b).1=k)=false from Au h];rfl
theorem rA(kvs:List (jg×Y))(k J:jg)(y:Y):ko (ef kvs k y) J=if J=k then some y else ko kvs J:=by
 unfold ef;rw[lr];cases e:ko kvs k with
 |some v=>
  rw[AC (show(some v).isSome=true from rfl),s9];by_cases h:J=k
  ·rw[AC h,AC h,h,e];rfl
  ·rw[AF h,AF h]
 |none=>
  rw[AF (by simp),rV];by_cases h:J=k
  ·rw[AC h,h,e,AC rfl];rfl
  ·rw[AF h,AF (λz=>h z.symm)];cases ko kvs J<;>rfl
theorem dg(kvs:List (jg×Y))(k:jg)(y:Y):(ef kvs k y).length<=kvs.length+1:=by
 unfold ef;split
 ·rw[Ab];omega
 ·rw[Ac];simp
def gy(f:Nat->Nat):Option Kn->Option Kn
 |some (.nd e i j)=>some (.nd e (f i) (f j))
 |k=>k
theorem tN{f g:Nat->Nat}:∀{k:Option Kn},(∀e i j,k=some (.nd e i j)->f i=g i/\f j=g j)->gy f k=gy g k
 |none,_=>rfl
 |some (.lf _ _),_=>rfl
 |some (.nd e i j),h=>by obtain⟨a,b⟩:=h e i j rfl;show some (Kn.nd e (f i) (f j))=some (Kn.nd e (g i) (g j));rw[a,b]
structure Gap(ks:List (Option Kn))(ps:List Nat)(f:Nat->Nat)(wd:List (Option Kn)):Prop where
 at_:∀p∈ps,∀k,ks[p]?=some k->wd[f p]?=some (gy f k)
 inj:∀p∈ps,∀q∈ps,f p=f q->p=q
 only:∀x k,wd[x]?=some (some k)->∃p∈ps,x=f p
 ok:OkO wd
theorem Gap.nil(ks:List (Option Kn))(f:Nat->Nat):Gap ks [] f []:=⟨λp J=>(Bp J).elim,λp J=>(Bp J).elim,λx k h=>(by simp at h),λp e i j h=>(by simp at h)⟩
theorem Gap.lt{ks:List (Option Kn)}{ps:List Nat}{f:Nat->Nat}(h:Gap ks ps f wd){p:Nat}(J:p∈ps)(U:p<ks.length):f p<wd.length:=zw (h.at_ p J _ (Af U))
theorem Gap.step{ks:List (Option Kn)}{ps:List Nat}{f:Nat->Nat}(h:Gap ks ps f wd)(t:∀p∈ps,p<ks.length){p:Nat}{k:Option Kn}(I:p∉ps)(T:ks[p]?=some k)(r:∀x∈ps,∀e i j,ks[x]?=some (some (.nd e i j))->i∈ps/\j∈ps)(U:∀e i j,k=some (.nd e i j)->i∈ps/\j∈ps):
 Gap ks (ps++[p]) (λx=>if x=p then wd.length else f x) (wd++[gy f k]):=by
 have old:∀x∈ps,(if x=p then wd.length else f x)=f x:=λx J=>AF λ(c:x=p)=>I (c▸J);have ren:∀o,(∀e i j,o=some (.nd e i j)->i∈ps/\j∈ps)->gy (λx=>if x=p then wd.length else f x) o=gy f o:=λo g=>tN λe i j z=>by obtain⟨a,b⟩:=g e i j z;exact⟨old i a,old j b⟩
 refine⟨λx J o g=>?_,λx J y l e=>?_,λx o J=>?_,λx e i j J=>?_⟩
 ·rcases Aq.mp J with J|J
  ·show(wd++[gy f k])[if x=p then wd.length else f x]?=_;rw[old x J,ren o λe i j z=>r x J e i j (by rw[g,z])];exact mF (h.at_ x J o g)
  ·have J:=Ai.mp J;subst J;rw[T] at g;cases g;show(wd++[gy f k])[if x=x then wd.length else f x]?=_;rw[AC rfl,ren k U];exact eL wd _ []
 ·have e:(if x=p then wd.length else f x)=if y=p then wd.length else f y:=e
  rcases Aq.mp J with J|J<;>rcases Aq.mp l with l|l
  ·rw[old x J,old y l] at e;exact h.inj x J y l e
  ·cases Ai.mp l;rw[old x J,AC rfl] at e;have:=h.lt J (t x J);lia
  ·cases Ai.mp J;rw[old y l,AC rfl] at e;have:=h.lt l (t y l);lia
  ·rw[Ai.mp J,Ai.mp l]
 ·by_cases c:x<wd.length
  ·rw[AH c] at J;obtain⟨q,C,e⟩:=h.only x o J;exact⟨q,Ar _ C,by rw[e];exact(old q C).symm⟩
  ·refine⟨p,Ag _ (Ai.mpr rfl),?_⟩;have:=zw J;rw[Ac] at this;have:x<wd.length+1:=this;show x=if p=p then wd.length else f p
   rw[AC rfl];lia
 ·by_cases c:x<wd.length
  ·rw[AH c] at J;exact h.ok x e i j J
  ·have:=zw J;rw[Ac] at this;have:x<wd.length+1:=this;have:x=wd.length:=by lia
   subst this;rw[Ay (Al _),Cm] at J;have J:gy f k=some (.nd e i j):=AO J;cases k with
   |none=>cases J
   |some k=>
    cases k with
    |lf=>cases J
    |nd e' i' j'=>
     obtain⟨a,b⟩:=U e' i' j' rfl;cases J;exact⟨h.lt a (t _ a),h.lt b (t _ b)⟩
theorem lG{ks:List (Option Kn)}{J:List Nat}(ok:OkO ks)(pm:J.Perm (List.range ks.length))(o:dF ks J){p:Nat}(g:J[n]?=some p){e:Bool}(h:ks[p]?=some (some (.nd e i j))):i∈J.take n/\j∈J.take n:=by
 obtain⟨l1,l2⟩:=ok p e i j h;have hl:=zw h;have C:=zw g;have ind:∀x,x<ks.length->x≠p->(∀y∈J.drop (n+1),y≠x)->x∈J.take n:=λx T ne r=>by
  have U:x∈J:=pm.mem_iff.mpr (A8.mpr T);have t:J=J.take n++p::J.drop (n+1):=by rw[Af C] at g;rw[<-AO g,BF,A5]
  rw[t] at U;rcases Aq.mp U with U|U
  ·exact U
  ·rcases Am.mp U with U|U
   ·exact absurd U ne
   ·exact absurd rfl (r x U)
 have I:∀y∈J.drop (n+1),y≠i/\y≠j:=λy l=>by
  have t:J=J.take n++p::J.drop (n+1):=by rw[Af C] at g;rw[<-AO g,BF,A5]
  unfold dF at o;rw[t] at o;have:=(C0.mp o).2.1;exact(List.pairwise_cons.mp this).1 y l e i j h
 exact⟨ind i (by exact abt) (by exact ao5) λy l=>(I y l).1,ind j (by exact abt) (by exact ao5) λy l=>(I y l).2⟩
def akc:kn:=(qo (zn (ak dG (qa 1) (qe (zh wv (qa 3) (bQ 1)) zb)) (qh 4))
 (qo (zn (ak dG (qa 1) (qe (zh wv (qa 2) (bQ 1)) zb)) (qh 5))
 (qo (zn (zh af (jr 4 1) (zh wv (zh cN (qa 3) (jp 64)) (gq lW (vn (jr 4 1))))) (qh 6))
 (qo (zn (zh af (jr 5 1) (zh wv (zh cN (qa 2) (jp 64)) (gq lW (vn (jr 5 1))))) (qh 7))
 (qo (jy (ak jf (qa 0) (qe (ku (qe (cj "both") (aS (qa 6) (qa 7)))) zb)))
 (qo (zn (uz 1 (vv (zh kw (jr 4 1) (jr 5 1))) (qh 9) (yB (zh (iN true) (qa 9) (rdT (qa 6) (qa 7)))) (qa 9)) (qh 8))
 (jy (ak jf (qa 1) (qe (x0 (qe (ku (qe (cj "both") (qe (zh iJ (bQ 0) (jp 1)) (aS (jr 4 0) (jr 5 0))))) (qe (zh kw (qa 8) (x0 (qe (zh iJ (bQ 0) (jp 1)) zb))) zb))) zb)))))))))
def ag8:kn:=(qo (jl (yB (zh yLt (gq lW (vn (jr 1 1))) (jp 2))) abp zq)
 (qo (zn (ak dG (jr 1 1) (qe (zh wv (qa 3) (gq lW (vn (jr 1 1)))) zb)) (qh 4))
 (qo (zn (ak dG (jr 1 1) (qe (zh wv (qa 2) (gq lW (vn (jr 1 1)))) zb)) (qh 5))
 (qo (jy (ak jf (qa 0) (qe (ku (qe (cj "either") (aS (qa 4) (qa 5)))) zb)))
 (qo (ahq (qa 1) (jp 0) (ku (qe (cj "either") (qe (zh iJ (bQ 0) (jp 1)) (vn (jr 1 0))))))
 (jy (ak jf (jr 1 1) (qe (zh iJ (bQ 0) (jp 1)) zb))))))))
theorem cJ{ks:List Kn}:∀{w v:Wd} {p:Nat},cM ks p w->cM ks p v->w=v
 |.leaf t n,.leaf o I,p,h,k=>by
  have h:(ja ks)[p]?=some (.tup [.str (kL t),.str n]):=h;have k:(ja ks)[p]?=some (.tup [.str (kL o),.str I]):=k;rw[h] at k;injection k with k;injection k with k;injection k with U J;injection J with J _
  injection U with U;injection J with J
  have:t=o:=by cases t<;>cases o<;>first|rfl|(exfalso;revert U;decide +kernel)
  rw[this,J]
 |.leaf t n,.node e l r,p,h,k=>by obtain⟨i,j,k,_⟩:=k;have h:(ja ks)[p]?=some (.tup [.str (kL t),.str n]):=h;rw[h] at k;injection k with k;injection k with k;injection k with _ k;injection k with _ k;cases k
 |.node e l r,.leaf t n,p,h,k=>by obtain⟨i,j,h,_⟩:=h;have k:(ja ks)[p]?=some (.tup [.str (kL t),.str n]):=k;rw[h] at k;injection k with k;injection k with k;injection k with _ k;injection k with _ k;cases k
 |.node e l r,.node C l' r',p,⟨i,j,h,T,hr⟩,⟨i',j',k,kl,kr⟩=>by
  rw[h] at k;injection k with k;injection k with k;injection k with U J;injection J with J g;injection g with g _
  injection U with U;injection J with J;injection g with g
  have e1:i=i':=by lia
  have e2:j=j':=by lia
  subst e1 e2;have:e=C:=by cases e<;>cases C<;>first|rfl|(exfalso;revert U;decide +kernel)
  rw[this,cJ (ks:=ks) T kl,cJ (ks:=ks) hr kr]
theorem lO{ks:List Kn}(J:cw ks):∀(m p:Nat),p<m->p<ks.length->∃w,cM ks p w/\w.depth<=p+1/\w.ok
 |0,p,h,_=>absurd h (by lia)
 |m+1,p,h,o=>by
  obtain⟨k,U⟩:∃k,ks[p]?=some k:=⟨_,Af o⟩;have g:=J p k U;cases k with
  |lf t n=>exact⟨.leaf t n,cM.leaf U,by show 1<=p+1;exact C7 _,g⟩
  |nd e i j=>
   have g:i<p/\j<p:=g;obtain⟨l,C,T,I⟩:=lO J m i (by lia) (by omega);obtain⟨r,b1,b2,b3⟩:=lO J m j (by lia) (by lia);exact⟨.node e l r,EH U C b1,by show max l.depth r.depth+1<=p+1;lia,I,b3⟩
def TV(v:Str->Bool):Wd->Bool
 |.leaf t n=>if t=true then !v n else v n
 |.node e l r=>if e=true then TV v l||TV v r else TV v l&&TV v r
theorem jU(v:Str->Bool):∀w:Wd,TV v w.turn=!TV v w
 |.leaf t n=>by cases t<;>simp[Wd.turn,TV]
 |.node e l r=>by cases e<;>simp[Wd.turn,TV,jU v l,jU v r]
theorem SR.lt{E:List Nat}(h:SR ks R E):∀x∈qm R,x<ks.length:=by
 have lt:∀{p:Nat} {k:Kn},ks[p]?=some k->p<ks.length:=λh=>(AW.mp h).1
 induction h with
 |link _ h2 h3 _ _=>intro x J;simp[qm] at J;rcases J with rfl|rfl;exact lt h2;exact lt h3
 |ei h1 _ _ _ _ _ _ j=>intro x J;rcases Am.mp J with rfl|J;exact lt h1;exact j x J
 |bo h1 _ _ _ _ _ _ U g=>
  intro x J;rcases Am.mp J with rfl|J
  ·exact lt h1
  ·rcases Aq.mp J with J|J
   ·exact U x J
   ·exact g x J
 |cu _ _ _ _ _ _ _ _ U g=>
  intro x J;rcases Aq.mp J with J|J
  ·exact U x J
  ·exact g x J
theorem SR.tv(hk:cw ks)(v:Str->Bool){E:List Nat}(h:SR ks R E):∃x∈E,∃w,cM ks x w/\TV v w=true:=by
 have ex:∀{R':Ru} {E':List Nat},SR ks R' E'->∀x∈E',∃w,cM ks x w:=λs x J=>by obtain⟨w,hw,_⟩:=lO hk (x+1) x (by exact Cy _) (s.lt x (s.sub x J));exact⟨w,hw⟩
 induction h with
 |@link p q t n E _ h2 h3 h4 _=>
  cases ht:TV v (.leaf t n) with
  |true=>exact⟨p,(h4 p).mpr (.inl rfl),_,cM.leaf h2,ht⟩
  |false=>
   refine⟨q,(h4 q).mpr (.inr rfl),_,cM.leaf h3,?_⟩;have:=jU v (.leaf t n);rw[ht] at this;exact this
 |@ei r i j A EA E h1 T hi hj _ U _ ih=>
  obtain⟨x,J,w,hw,tv⟩:=ih;obtain⟨wi,g⟩:=ex T i hi;obtain⟨wj,l⟩:=ex T j hj;by_cases c1:x=i
  ·subst c1;rw[cJ hw g] at tv;exact⟨r,(U r).mpr (.inr rfl),_,EH h1 g l,by simp[TV,tv]⟩
  ·by_cases c2:x=j
   ·subst c2;rw[cJ hw l] at tv;exact⟨r,(U r).mpr (.inr rfl),_,EH h1 g l,by simp[TV,tv]⟩
   ·exact⟨x,(U x).mpr (.inl ⟨J,c1,c2⟩),w,hw,tv⟩
 |@bo r i j A B EA EB E h1 T hB hi hj U _ o C=>
  obtain⟨x,J,w,hw,tv⟩:=o;obtain⟨y,hy,u,I,tu⟩:=C;by_cases c1:x=i
  ·by_cases c2:y=j
   ·subst c1 c2;exact⟨r,(U r).mpr (.inr (.inr rfl)),_,EH h1 hw I,by simp[TV,tv,tu]⟩
   ·exact⟨y,(U y).mpr (.inr (.inl ⟨hy,c2⟩)),u,I,tu⟩
  ·exact⟨x,(U x).mpr (.inl ⟨J,c1⟩),w,hw,tv⟩
 |@cu p q A B EA EB E w0 T hB hp hq a1 a2 h7 _ o C=>
  obtain⟨x,J,w,hw,tv⟩:=o;obtain⟨y,hy,u,I,tu⟩:=C;by_cases c1:x=p
  ·by_cases c2:y=q
   ·subst c1 c2;rw[cJ hw a1] at tv;rw[cJ I a2,jU,tv] at tu;cases tu
   ·exact⟨y,(h7 y).mpr (.inr ⟨hy,c2⟩),u,I,tu⟩
  ·exact⟨x,(h7 x).mpr (.inl ⟨J,c1⟩),w,hw,tv⟩
theorem SR.ends(J:cw ks){E:List Nat}(h:SR ks R E):0<E.length:=by obtain⟨x,U,_⟩:=h.tv J λ_=>true;exact List.length_pos_of_mem U
structure Tr where
 a:Addr
 b:Addr
 R:Ru
 E:List Nat
abbrev zd(E:List Nat):List Y:=E.map λn:Nat=>Y.int (n:Int)
def Tr.ads(t:Tr):List Addr:=[t.a,t.b]
structure cB(L0 L:qp)(ka fa:Addr)(ks:List Kn)(fo:List Tr):Prop where
 hk:L ka=some (.lst (ja ks))
 ht:∀t∈fo,L t.a=some (.lst [qi t.R,.ref t.b])/\L t.b=some (.lst (zd t.E))
 sr:∀t∈fo,SR ks t.R t.E
 nd:(fo.flatMap λt=>qm t.R).Nodup
 tm:∀x,x∈(fo.flatMap λt=>qm t.R)↔x<ks.length
 ad:(ka::fa::fo.flatMap Tr.ads).Nodup
 ok:cw ks
 sub:qg L0 L
 fr:∀x∈ka::fa::fo.flatMap Tr.ads,L0 x=none
def zf(fo:List Tr):List Y:=fo.map λt=>Y.ref t.a
structure my(L0 L:qp)(ka fa:Addr)(ks:List Kn)(fo:List Tr):Prop where
 b:cB L0 L ka fa ks fo
 hf:L fa=some (.lst (zf fo))
def noC:Ru->Prop
 |.link _ _=>True
 |.ei _ A=>noC A
 |.bo _ A B=>noC A/\noC B
 |.cu _ _ _ _=>False
def Ext(ks:List Kn)(fo:List Tr)(ir:List Kn)(fo':List Tr):Prop:=(∃ms:List Kn,ir=ks++ms/\∀k∈ms,∃e i j,k=.nd e i j)/\((∀t∈fo,noC t.R)->∀t∈fo',noC t.R)
theorem cB.perm{fo fo':List Tr}(h:cB L0 L ka fa ks fo)(p:fo.Perm fo'):cB L0 L ka fa ks fo':=by have U:(fo.flatMap λt=>qm t.R).Perm (fo'.flatMap λt=>qm t.R):=p.flatMap_right _;have g:(fo.flatMap Tr.ads).Perm (fo'.flatMap Tr.ads):=p.flatMap_right _;refine⟨h.hk,λt J=>h.ht t (p.mem_iff.mpr J),λt J=>h.sr t (p.mem_iff.mpr J),U.nodup_iff.mp h.nd,λx=>by rw[<-U.mem_iff];exact h.tm x,((g.cons _).cons _).nodup_iff.mp h.ad,h.ok,h.sub,λx j=>h.fr x (((g.cons _).cons _).mem_iff.mpr j)⟩
end L3
variable {fo rest:List L3.Tr}
namespace L3
open PySem L2 Words
theorem x9{α:Type}:∀{l:List α} {j:Nat} {x:α},l[j]?=some x->l.Perm (x::l.eraseIdx j)
 |[],_,_,h=>by simp at h
 |y::r,0,x,h=>by
  have:y=x:=by simpa using h
  subst this;exact .refl _
 |y::r,j+1,x,h=>by have J:=x9 (l:=r) (j:=j) (x:=x) (by simpa using h);rw[Cf];exact(J.cons y).trans (.swap _ _ _)
theorem lg(fo:List Tr)(j:Nat):(zf fo).eraseIdx j=zf (fo.eraseIdx j):=iS _ fo j
theorem cB.step{ms:List Kn}{old:List Tr}{t':Tr}(h:cB L0 L ka fa ks (old++rest))(o:L' ka=some (.lst (ja (ks++ms))))(p:L' t'.a=some (.lst [qi t'.R,.ref t'.b])/\L' t'.b=some (.lst (zd t'.E)))
 (keep:∀t∈rest,L' t.a=L t.a/\L' t.b=L t.b) (sub:qg L0 L') (ad:(ka::fa::(rest++[t']).flatMap Tr.ads).Nodup) (r:∀x∈t'.ads,L0 x=none) (ok:cw (ks++ms)) (C:SR (ks++ms) t'.R t'.E)
 (tp:(qm t'.R).Perm (List.range' ks.length ms.length++old.flatMap λt=>qm t.R)):cB L0 L' ka fa (ks++ms) (rest++[t']):=by
 have hnd:=h.nd;have g:=h.tm;rw[AB] at hnd;have l:((rest++[t']).flatMap λt=>qm t.R)=(rest.flatMap λt=>qm t.R)++qm t'.R:=by rw[AB];simp
 have mem:∀x,x∈qm t'.R↔(ks.length<=x/\x<ks.length+ms.length)\/x∈(old.flatMap λt=>qm t.R):=λx=>by rw[tp.mem_iff,Aq,CS]
 refine⟨o,λt U=>?_,λt U=>?_,?_,λx=>?_,ad,ok,sub,λx J=>?_⟩
 ·rcases Aq.mp U with U|U
  ·obtain⟨I,T⟩:=keep t U;rw[I,T];exact h.ht t (Ag _ U)
  ·rw[Ai.mp U];exact p
 ·rcases Aq.mp U with U|U
  ·exact(h.sr t (Ag _ U)).more _
  ·rw[Ai.mp U];exact C
 ·rw[l,Ap];rw[Ap] at hnd;refine⟨hnd.2.1,tp.nodup_iff.mpr ?_,λx J y j e=>?_⟩
  ·rw[Ap];refine⟨Do,hnd.1,λx J y j e=>?_⟩;have J:=CS.mp J;have j:=(g y).mp (by rw[AB];exact Ar _ j);lia
  ·subst e;rcases (mem x).mp j with j|j
   ·have:=(g x).mp (by rw[AB];exact Ag _ J);lia
   ·exact hnd.2.2 x j x J rfl
 ·rw[l,Aq,mem,Ac];have h1:=g x;rw[AB,Aq] at h1;constructor
  ·rintro(h2|h2|h2)
   ·have:=h1.mp (.inr h2);exact amw
   ·lia
   ·have:=h1.mp (.inl h2);lia
  ·intro h2;by_cases c:x<ks.length
   ·rcases h1.mpr c with h3|h3
    ·exact .inr (.inr h3)
    ·exact .inl h3
   ·exact .inr (.inl (by lia))
 ·rcases Am.mp J with rfl|J
  ·exact h.fr _ (Aj ..)
  ·rcases Am.mp J with rfl|J
   ·exact h.fr _ (Ad _ (Aj ..))
   ·rw[AB] at J;rcases Aq.mp J with J|J
    ·exact h.fr _ (Ad _ (Ad _ (by rw[AB];exact Ag _ J)))
    ·exact r x (by simpa using J)
def oq:jz:=λys L Q=>∃L0 ka fa ks fo,∃one two:Int,ys=[.ref ka,.ref fa,.int one,.int two]/\my L0 L ka fa ks fo/\2<=fo.length/\fo.length<=200/\ks.length<=200/\
 ∀L' ir fo',my L0 L' ka fa ir fo'->ir.length=ks.length+1->fo'.length+1=fo.length->Ext ks fo ir fo'->Q .non L'
theorem mK{l:List α}(h:0<l.length)(k:Int):∃(j:Nat) (x:α),k % (l.length:Int)=(j:Int)/\j<l.length/\l[j]?=some x:=by have h0:0<=k % (l.length:Int):=DJ _ (by lia);have h1:k % (l.length:Int)<(l.length:Int):=Int.emod_lt_of_pos _ (by omega);refine⟨(k % (l.length:Int)).toNat,l[(k % (l.length:Int)).toNat]'(by lia),by lia,by lia,Af (by lia)⟩
theorem bY:∀(n:Nat) (l:List Nat),l.Nodup->(∀x∈l,x<n)->l.length<=n
 |0,l,_,h=>by cases l with|nil=>exact Al _|cons x r=>exact absurd (h x (Aj ..)) (by lia)
 |n+1,l,nd,h=>by
  by_cases c:n∈l
  ·have p:=List.perm_cons_erase c;have U:=bY n (l.erase n) (nd.erase n) λx J=>by have:=(List.Nodup.mem_erase_iff nd).mp J;have:=h x this.2;lia
   rw[p.length_eq,AN];exact ajd
  ·exact BD (bY n l nd λx J=>by have:=h x J;have:x≠n:=λe=>c (e▸J);lia)
theorem bM(h:cB L0 L ka fa ks fo){t:Tr}(J:t∈fo):0<t.E.length/\t.E.length<=ks.length:=by have s:=h.sr t J;exact⟨s.ends h.ok,bY _ _ s.nod λx U=>s.lt x (s.sub x U)⟩
theorem af8(x l r:Nat):uT (fb (.int (x:Int))) (([.int (l:Int),.int (r:Int)]:List Y).map fb)=decide (x=l\/x=r):=by
 show(gD (.int (l:Int)) (.int (x:Int))||(gD (.int (r:Int)) (.int (x:Int))||false))=_;have e:∀a b:Nat,gD (.int (a:Int)) (.int (b:Int))=decide (b=a):=λa b=>by
  show decide ((a:Int)=(b:Int))=decide (b=a);by_cases c:b=a
  ·subst c;simp
  ·rw[Au c];apply Au;lia
 rw[e,e];by_cases h1:x=l<;>by_cases h2:x=r<;>simp[h1,h2]
theorem pj{E:List Nat}(h:0<E.length)(k:Int):∃x,x∈E/\fO (zd E) (k % ((zd E).length:Int))=some (.int ((x:Nat):Int)):=by obtain⟨j,x,J,U,ex⟩:=mK h k;refine⟨x,Aw ex,?_⟩;rw[Ab,J];exact vk (by rw[An,ex];rfl)
def xp(E1 E2:List Nat)(l r:Nat):List Nat:=(E1++E2).filter λx=>!decide (x=l\/x=r)
theorem acl{g:Addr}{E:List Nat}{l r k:Nat}{Q:YK}{tc:iH}(I:L g=some (.lst (zd E)))(J:E.length<=1000)
 (T:∀y (o:Bool->qp->Prop),iN true y (.tup [.int (l:Int),.int (r:Int)]) L (λx L'=>match x with|.bl c=>o c L'|_=>False)->tc (fW (τ++List.replicate 1 none) k y) L o)
 (hv:∀y,xH (fW (τ++List.replicate 1 none) k y) k=some y)
 (hq:∀p,L p=none->Q (.ref p) (qf L p (.lst (zd (E.filter λx=>!decide (x=l\/x=r)))))):
 qA L g λys keep L2=>lcK ys keep 1 (qh k) tc (qa k) τ L2 Q:=by
 refine xc I λkeep kp=>dZ (λj zs=>zs=zd ((E.take j).filter λx=>!decide (x=l\/x=r))) (by rw[Ab];exact oB J) (kp L rfl) rfl ?_ ?_
 ·rintro j y _ t rfl;obtain⟨x,ex,rfl⟩:∃x:Nat,E[j]?=some x/\y=Y.int (x:Int):=by rw[An] at t;obtain⟨x,e1,e2⟩:=Ao.mp t;exact⟨x,e1,e2.symm⟩
  refine T _ _ ⟨rfl,rfl,?_⟩;rw[af8];show wn (!decide (x=l\/x=r)) _ _;have C:(E.take (j+1)).filter (λx=>!decide (x=l\/x=r))=(E.take j).filter (λx=>!decide (x=l\/x=r))++[x].filter (λx=>!decide (x=l\/x=r)):=by rw[Bd,ex,BK];rfl
  by_cases c:x=l\/x=r
  ·refine jd (by rw[AD c];rfl) ?_;refine frg ⟨rfl,?_⟩;rw[C,List.filter_cons_of_neg (by simp[c]),List.filter_nil,A1]
  ·refine aK (by rw[Au c];rfl) ?_;unfold qa;rw[hv];refine frg ⟨rfl,?_⟩;rw[C,List.filter_cons_of_pos (by simp[c]),List.filter_nil];unfold zd;rw[Av];rfl
 ·rintro _ rfl p U;rw[Ab,Ba];exact hq p U
theorem uh{k:Int}(g:L fa=some (.lst (zf fo)))(h:0<fo.length):∃(j:Nat) (t:Tr),fo[j]?=some t/\0<=k % ((zf fo).length:Int)/\k % ((zf fo).length:Int)<((zf fo).length:Int)/\
 (zf fo)[(k % ((zf fo).length:Int)).toNat]?=some (.ref t.a)/\qf L fa (.lst ((zf fo).eraseIdx (k % ((zf fo).length:Int)).toNat)) fa=some (.lst (zf (fo.eraseIdx j))):=by
 obtain⟨j,t,U,l,J⟩:=mK h k;have e:(zf fo).length=fo.length:=Ab ..;rw[e,U];refine⟨j,t,J,by exact A3 _,by lia,?_,?_⟩
 ·show(zf fo)[j]?=_;unfold zf;rw[An,J];rfl
 ·rw[q8];show some (LO.lst ((zf fo).eraseIdx j))=_;rw[lg]
theorem cB.two{t1 t2:Tr}(h:cB L0 L ka fa ks (t1::t2::rest)):∀x,x∈qm t1.R->x∈qm t2.R->False:=by intro x h1 h2;have nd:=h.nd;rw[AK,AK,Ap] at nd;exact nd.2.2 x h1 x (Ar _ h2) rfl
theorem oo{E1 E2:List Nat}{l r:Nat}(J:l∉E2)(U:r∉E1)(x:Nat):x∈xp E1 E2 l r↔(x∈E1/\x≠l)\/(x∈E2/\x≠r):=by
 unfold xp;rw[AJ,Aq];constructor
 ·rintro⟨h,c⟩;have c:¬(x=l\/x=r):=by simpa using c
  rcases h with h|h
  ·exact .inl ⟨h,λe=>c (.inl e)⟩
  ·exact .inr ⟨h,λe=>c (.inr e)⟩
 ·rintro(⟨h,c⟩|⟨h,c⟩)
  ·refine⟨.inl h,?_⟩;have:x≠r:=λe=>U (e▸h);simp[c,this]
  ·refine⟨.inr h,?_⟩;have:x≠l:=λe=>J (e▸h);simp[c,this]
theorem pP{E1 E2:List Nat}{l r:Nat}(h1:E1.Nodup)(h2:E2.Nodup)(d:∀x,x∈E1->x∈E2->False):(xp E1 E2 l r).Nodup:=by
 unfold xp;have h:(E1++E2).Nodup:=by rw[Ap];exact⟨h1,h2,λx J y U e=>d x J (e▸U)⟩
 exact List.Pairwise.filter _ h
theorem aek:∀ys L Q,oq ys L Q->vg akc 9 ys L Q:=by
 rintro ys L Q ⟨L0,C,T,g,fo,one,two,rfl,F,h2,dI,cv,q⟩;have big:=bg_;have au:∀fo:List Tr,(zf fo).length=fo.length:=λfo=>Ab ..;obtain⟨j1,J,br,a1,a2,a3,a4⟩:=uh (k:=two) F.hf (by exact uS);have l1:(fo.eraseIdx j1).length+1=fo.length:=by have:=(x9 br).length_eq;rw[AN] at this;lia
 refine qc F.hf (qc F.hf ⟨(by show(0:Int)<((zf fo).length:Int);rw[au];lia),qx F.hf ⟨a1,a2,ql a3 ?_⟩⟩);have av:∀b o,b≠T->L b=some o->qf L T (.lst ((zf fo).eraseIdx (two % ((zf fo).length:Int)).toNat)) b=some o:=λb o nb e=>by rw[qb nb];exact e
 generalize qf L T (.lst ((zf fo).eraseIdx (two % ((zf fo).length:Int)).toNat))=L1 at a4 av;obtain⟨j2,U,bu,b1,b2,b3,bn⟩:=uh (k:=one) a4 (by lia);have l2:((fo.eraseIdx j1).eraseIdx j2).length+1=(fo.eraseIdx j1).length:=by have:=(x9 bu).length_eq;rw[AN] at this;lia
 refine qc a4 (qc a4 ⟨(by show(0:Int)<((zf (fo.eraseIdx j1)).length:Int);rw[au];lia),qx a4 ⟨b1,b2,ql b3 ?_⟩⟩);have j:∀b o,b≠T->L b=some o->qf L1 T (.lst ((zf (fo.eraseIdx j1)).eraseIdx (one % ((zf (fo.eraseIdx j1)).length:Int)).toNat)) b=some o:=λb o nb e=>by rw[qb nb];exact av b o nb e
 generalize qf L1 T (.lst ((zf (fo.eraseIdx j1)).eraseIdx (one % ((zf (fo.eraseIdx j1)).length:Int)).toNat))=L2 at bn j;have bp:fo.Perm (J::U::(fo.eraseIdx j1).eraseIdx j2):=(x9 br).trans ((x9 bu).cons _);have B:cB L0 L C T g (J::U::(fo.eraseIdx j1).eraseIdx j2):=F.b.perm bp;generalize (fo.eraseIdx j1).eraseIdx j2=rest at l2 bn B bp;clear a4 av a1 a2 a3 b1 b2 b3;have m1:J∈J::U::rest:=by simp
 have m2:U∈J::U::rest:=by simp
 have ad:=B.ad;have nk:∀t∈J::U::rest,t.a≠T/\t.b≠T/\t.a≠C/\t.b≠C:=λt ht=>by rw[Az,Az] at ad;have ma:t.a∈(J::U::rest).flatMap Tr.ads:=AX.mpr ⟨t,ht,by simp[Tr.ads]⟩;have mb:t.b∈(J::U::rest).flatMap Tr.ads:=AX.mpr ⟨t,ht,by simp[Tr.ads]⟩;exact⟨λe=>ad.2.1 (e▸ma),λe=>ad.2.1 (e▸mb),λe=>ad.1 (Ad _ (e▸ma)),λe=>ad.1 (Ad _ (e▸mb))⟩
 have nkf:C≠T:=by rw[Az] at ad;exactλe=>ad.1 (e▸Aj ..)
 have bv:L2 C=some (.lst (ja g)):=j C _ nkf B.hk;have a5:=j J.a _ (nk J m1).1 (B.ht J m1).1;have aL:=j J.b _ (nk J m1).2.1 (B.ht J m1).2;have ag:=j U.a _ (nk U m2).1 (B.ht U m2).1;have ba:=j U.b _ (nk U m2).2.1 (B.ht U m2).2;have cy:=bM B m1;have cP:=bM B m2;obtain⟨x,hx,ex⟩:=pj cy.1 (two / 64);obtain⟨y,hy,ey⟩:=pj cP.1 (one / 64);refine qc a5 ⟨⟨by decide,by decide⟩,qc a5 (qc aL ⟨(by show(0:Int)<((zd J.E).length:Int);rw[Ab];omega),qc aL (ql ex ?_)⟩)⟩;refine qc ag ⟨⟨by decide,by decide⟩,qc ag (qc ba ⟨(by show(0:Int)<((zd U.E).length:Int);rw[Ab];omega),qc ba (ql ey ?_)⟩)⟩;refine qc bv (qx bv ⟨big _ (by rw[Ab];exact ag9),?_⟩);have ek:ja g++[.tup [.str "both",.int ((x:Nat):Int),.int ((y:Nat):Int)]]=ja (g++[.nd false x y]):=by unfold ja;rw[Av];rfl
 rw[ek];have bS:qf L2 C (.lst (ja (g++[.nd false x y]))) C=some (.lst (ja (g++[.nd false x y]))):=q8;have p:∀b o,b≠C->L2 b=some o->qf L2 C (.lst (ja (g++[.nd false x y]))) b=some o:=λb o nb e=>by rw[qb nb];exact e
 generalize qf L2 C (.lst (ja (g++[.nd false x y])))=L3 at bS p;have a5:=p _ _ (nk J m1).2.2.1 a5;have aL:=p _ _ (nk J m1).2.2.2 aL;have ag:=p _ _ (nk U m2).2.2.1 ag;have ba:=p _ _ (nk U m2).2.2.2 ba;have d0:=p _ _ (AE nkf) bn;refine qc a5 (qc ag ⟨_,_,aL,ba,small (by rw[Ab,Ab];lia),λpp de=>?_⟩);have en:zd J.E++zd U.E=zd (J.E++U.E):=by unfold zd;rw[Av]
 rw[en];refine acl (E:=J.E++U.E) (l:=x) (r:=y) (k:=9) q8 (by rw[Ac];lia) (λy' Q' h=>h) (λ_=>rfl) λpe di=>?_;have s4:qg L3 (qf (qf L3 pp (.lst (zd (J.E++U.E)))) pe (.lst (zd ((J.E++U.E).filter λz=>!decide (z=x\/z=y))))):=(By de).trans (By di);have bq:qf (qf L3 pp (.lst (zd (J.E++U.E)))) pe (.lst (zd ((J.E++U.E).filter λz=>!decide (z=x\/z=y)))) pe=some (.lst (zd (xp J.E U.E x y))):=q8;generalize qf (qf L3 pp (.lst (zd (J.E++U.E)))) pe (.lst (zd ((J.E++U.E).filter λz=>!decide (z=x\/z=y))))=L4 at s4 bq;have bb:=s4 _ _ bS;have bc:=s4 _ _ d0;have nn:(((ja (g++[.nd false x y])).length:Nat):Int)-1=((g.length:Nat):Int):=by rw[Ab,Ac];simp
 refine qc bc (qc bb (qc (s4 _ _ a5) (qc (s4 _ _ ag) (qc bb λpn bd=>?_))));refine⟨_,_,By bd _ _ bq,q8,small (by have:=pP (l:=x) (r:=y) (B.sr J m1).nod (B.sr U m2).nod (λz h1 h2=>B.two z ((B.sr J m1).sub z h1) ((B.sr U m2).sub z h2));have:=List.length_filter_le (λz=>!decide (z=x\/z=y)) (J.E++U.E);rw[Ac] at this;rw[Ab];unfold xp;show _+1<=1000;lia),λI bf pa bg=>?_⟩;have s7:=(By (o:=.lst [.int ((((ja (g++[.nd false x y])).length:Nat):Int)-1)]) bd).trans ((By (o:=.lst (zd (xp J.E U.E x y)++[.int ((((ja (g++[.nd false x y])).length:Nat):Int)-1)])) bf).trans (By (o:=.lst [.tup [.str "both",.int ((((ja (g++[.nd false x y])).length:Nat):Int)-1),qi J.R,qi U.R],.ref I]) bg));refine qx (s7 _ _ bc) ⟨big _ (by rw[au];lia),?_⟩;have ca:I≠pa:=km q8 bg;have bi:∀L6:qp,qf L6 pa (.lst [.tup [.str "both",.int ((((ja (g++[.nd false x y])).length:Nat):Int)-1),qi J.R,qi U.R],.ref I]) pa=some (.lst [qi (.bo g.length J.R U.R),.ref I]):=λL6=>by rw[q8,nn];rfl
 have bj:∀L5 o,qf (qf L5 I (.lst (zd (xp J.E U.E x y)++[.int ((((ja (g++[.nd false x y])).length:Nat):Int)-1)]))) pa o I=some (.lst (zd (xp J.E U.E x y++[g.length]))):=λL5 o=>by rw[qb ca,q8,nn];unfold zd;rw[Av];rfl
 have ea:=bi (qf (qf L4 pn (.lst [.int ((((ja (g++[.nd false x y])).length:Nat):Int)-1)])) I (.lst (zd (xp J.E U.E x y)++[.int ((((ja (g++[.nd false x y])).length:Nat):Int)-1)])));have eb:=bj (qf L4 pn (.lst [.int ((((ja (g++[.nd false x y])).length:Nat):Int)-1)])) (.lst [.tup [.str "both",.int ((((ja (g++[.nd false x y])).length:Nat):Int)-1),qi J.R,qi U.R],.ref I]);have al:L4 pa=none:=by cases z:L4 pa with|none=>rfl|some o=>rw[((By bd).trans (By bf)) _ _ z] at bg;cases bg
 have ao:L4 I=none:=by cases z:L4 I with|none=>rfl|some o=>rw[(By bd) _ _ z] at bf;cases bf
 generalize qf (qf (qf L4 pn (.lst [.int ((((ja (g++[.nd false x y])).length:Nat):Int)-1)])) I (.lst (zd (xp J.E U.E x y)++[.int ((((ja (g++[.nd false x y])).length:Nat):Int)-1)]))) pa (.lst [.tup [.str "both",.int ((((ja (g++[.nd false x y])).length:Nat):Int)-1),qi J.R,qi U.R],.ref I])=L7 at s7 ea eb;clear bd bf bg bi bj bq;have up:∀b o,b≠T->b≠C->L b=some o->L4 b=some o:=λb o n1 n2 e=>s4 _ _ (p _ _ n2 (j _ _ n1 e));have dS:=s7 _ _ bc;have cb:pa≠T:=λe=>by rw[e,bc] at al;cases al
 have cc:I≠T:=λe=>by rw[e,bc] at ao;cases ao
 have s1:=B.sr J m1;have s2:=B.sr U m2;have bh:∀z,z∈J.E->z∈U.E->False:=λz h1 h2=>B.two z (s1.sub z h1) (s2.sub z h2);refine xg (q _ (g++[.nd false x y]) (rest++[⟨pa,I,.bo g.length J.R U.R,xp J.E U.E x y++[g.length]⟩]) ⟨?_,?_⟩ (by rw[Ac];rfl) (by rw[Ac];simp;lia) ⟨⟨_,rfl,λk hk=>⟨_,_,_,Ai.mp hk⟩⟩,λh t ht=>?_⟩)
 rotate_right
 ·have h':∀u∈J::U::rest,noC u.R:=λu hu=>h u (bp.mem_iff.mpr hu);rcases Aq.mp ht with ht|ht
  ·exact h' t (Ad _ (Ad _ ht))
  ·rw[Ai.mp ht];exact⟨h' J m1,h' U m2⟩
 ·refine cB.step (old:=[J,U]) (t':=⟨pa,I,.bo g.length J.R U.R,xp J.E U.E x y++[g.length]⟩) B ?_ ⟨?_,?_⟩ (λt ht=>?_) (λb o e=>?_) ?_ (λz hz=>?_) ?_ ?_ ?_
  ·rw[qb nkf];exact s7 _ _ bb
  ·rw[qb cb];exact ea
  ·rw[qb cc];exact eb
  ·have mt:t∈J::U::rest:=Ad _ (Ad _ ht);obtain⟨n1,n2,n3,n4⟩:=nk t mt;obtain⟨h1,h2⟩:=B.ht t mt;rw[h1,h2,qb n1,qb n2];exact⟨s7 _ _ (up _ _ n1 n3 h1),s7 _ _ (up _ _ n2 n4 h2)⟩
  ·have n1:b≠C:=λz=>by rw[z,B.fr C (by simp)] at e;cases e
   have n2:b≠T:=λz=>by rw[z,B.fr T (by simp)] at e;cases e
   rw[qb n2];exact s7 _ _ (up _ _ n2 n1 (B.sub _ _ e))
  ·rw[Az,Az] at ad;obtain⟨d1,d2,d3⟩:=ad;have dj:(rest.flatMap Tr.ads).Nodup:=by rw[AK,AK,Ap,Ap] at d3;exact d3.2.1.2.1
   have cl:∀z∈rest.flatMap Tr.ads,z∈(J::U::rest).flatMap Tr.ads:=λz hz=>by rw[AK,AK];exact Ag _ (Ag _ hz)
   have cm:∀z∈rest.flatMap Tr.ads,∃o,L4 z=some o:=λz hz=>by
    obtain⟨t,ht,hz⟩:=AX.mp hz;have mt:t∈J::U::rest:=Ad _ (Ad _ ht);obtain⟨n1,n2,n3,n4⟩:=nk t mt;obtain⟨h1,h2⟩:=B.ht t mt;have hz:z=t.a\/z=t.b:=by simpa[Tr.ads] using hz
    rcases hz with rfl|rfl
    ·exact⟨_,up _ _ n1 n3 h1⟩
    ·exact⟨_,up _ _ n2 n4 h2⟩
   have dp:pa≠C:=λe=>by rw[e,bb] at al;cases al
   have dv:I≠C:=λe=>by rw[e,bb] at ao;cases ao
   have dz:pa∉rest.flatMap Tr.ads:=λhz=>by obtain⟨o,e⟩:=cm _ hz;rw[al] at e;cases e
   have dC:I∉rest.flatMap Tr.ads:=λhz=>by obtain⟨o,e⟩:=cm _ hz;rw[ao] at e;cases e
   rw[AB];rw[Az,Az,Ap];refine⟨?_,?_,dj,?_,?_⟩
   ·intro z;rcases Am.mp z with z|z
    ·exact nkf z
    ·rcases Aq.mp z with z|z
     ·exact d1 (Ad _ (cl _ z))
     ·simp[Tr.ads] at z;rcases z with z|z;exact dp z.symm;exact dv z.symm
   ·intro z;rcases Aq.mp z with z|z
    ·exact d2 (cl _ z)
    ·simp[Tr.ads] at z;rcases z with z|z;exact cb z.symm;exact cc z.symm
   ·simp[Tr.ads];exact AE ca
   ·intro u hu v hv e;simp[Tr.ads] at hv;subst e;rcases hv with rfl|rfl
    ·exact dz hu
    ·exact dC hu
  ·have hz:z=pa\/z=I:=by simpa[Tr.ads] using hz
   cases w:L0 z with
   |none=>rfl
   |some o=>
    have n1:z≠C:=λe=>by rw[e,B.fr C (by simp)] at w;cases w
    have n2:z≠T:=λe=>by rw[e,B.fr T (by simp)] at w;cases w
    have:=up _ _ n2 n1 (B.sub _ _ w);rcases hz with rfl|rfl
    ·rw[al] at this;cases this
    ·rw[ao] at this;cases this
  ·exact B.ok.snoc ⟨s1.lt x (s1.sub x hx),s2.lt y (s2.sub y hy)⟩
  ·refine .bo (eL _ _ _) (s1.more _) (s2.more _) hx hy (λz=>?_) ?_
   ·rw[Aq,oo (λh=>bh x hx h) (λh=>bh y h hy),Ai];constructor
    ·rintro((h|h)|h)
     ·exact .inl h
     ·exact .inr (.inl h)
     ·exact .inr (.inr h)
    ·rintro(h|h|h)
     ·exact .inl (.inl h)
     ·exact .inl (.inr h)
     ·exact .inr h
   ·rw[Ap];refine⟨pP s1.nod s2.nod bh,by simp,λu hu v hv e=>?_⟩;rw[Ai.mp hv] at e;have:=(oo (λh=>bh x hx h) (λh=>bh y h hy) u).mp hu;rcases this with⟨h,_⟩|⟨h,_⟩
    ·have:=s1.lt u (s1.sub u h);lia
    ·have:=s2.lt u (s2.sub u h);lia
  ·show(g.length::(qm J.R++qm U.R)).Perm (List.range' g.length 1++([J,U].flatMap λt=>qm t.R));simp[Dv]
 ·rw[q8];unfold zf;rw[Av];rfl
theorem rg{E:List Nat}{k:Int}(h:0<E.length):∃(j x:Nat),E[j]?=some x/\0<=k % ((zd E).length:Int)/\k % ((zd E).length:Int)<((zd E).length:Int)/\
 (zd E)[(k % ((zd E).length:Int)).toNat]?=some (.int ((x:Nat):Int))/\(zd E).eraseIdx (k % ((zd E).length:Int)).toNat=zd (E.eraseIdx j):=by
 obtain⟨j,x,U,g,J⟩:=mK h k;have e:(zd E).length=E.length:=Ab ..;rw[e,U];refine⟨j,x,J,by exact A3 _,by lia,?_,?_⟩
 ·show(zd E)[j]?=_;rw[An,J];rfl
 ·exact iS _ E j
def kI:jz:=λys L Q=>∃L0 ka fa ks,∃pre post:List Tr,∃t:Tr,∃one two:Int,ys=[.ref ka,.ref t.a,.int one,.int two]/\my L0 L ka fa ks (pre++t::post)/\ks.length<=200/\
 ∀L' ir fo',my L0 L' ka fa ir fo'->ir.length<=ks.length+1->fo'.length=(pre++t::post).length->Ext ks (pre++t::post) ir fo'->Q .non L'
theorem abn:∀ys L Q,kI ys L Q->vg ag8 6 ys L Q:=by
 rintro ys L Q ⟨L0,l,fa,J,pre,post,t,one,two,rfl,F,ba,q⟩;have big:=bg_;have mt:t∈pre++t::post:=by simp
 have B:=F.b;obtain⟨ta,tb⟩:=B.ht t mt;have le:=bM B mt;have s:=B.sr t mt;have r:∀E:List Nat,(zd E).length=E.length:=λE=>Ab ..;refine qc ta (qc tb ?_);refine v9 (λc=>?_) λc=>?_
 ·exact xg (q L J _ F (BV _) rfl ⟨⟨[],(A1 _).symm,λk hk=>by cases hk⟩,λh=>h⟩)
 have c:¬(((zd t.E).length:Int)<2):=c;rw[r] at c;have ad:=B.ad;have nkf:l≠fa:=by rw[Az] at ad;exactλe=>ad.1 (e▸Aj ..)
 have nk:∀u∈pre++t::post,u.a≠fa/\u.b≠fa/\u.a≠l/\u.b≠l:=λu g=>by rw[Az,Az] at ad;have ma:u.a∈(pre++t::post).flatMap Tr.ads:=AX.mpr ⟨u,g,by simp[Tr.ads]⟩;have mb:u.b∈(pre++t::post).flatMap Tr.ads:=AX.mpr ⟨u,g,by simp[Tr.ads]⟩;exact⟨λe=>ad.2.1 (e▸ma),λe=>ad.2.1 (e▸mb),λe=>ad.1 (Ad _ (e▸ma)),λe=>ad.1 (Ad _ (e▸mb))⟩
 have a5:t.a≠t.b:=by rw[Az,Az,AB,AK,Ap,Ap] at ad;have:=ad.2.2.2.1.1;simpa[Tr.ads] using this
 obtain⟨j1,x,e1,a1,a2,a3,a4⟩:=rg (k:=two) le.1;refine qc ta (qc tb (qc ta (qc tb ⟨(by show(0:Int)<((zd t.E).length:Int);rw[r];omega),qx tb ⟨a1,a2,ql a3 ?_⟩⟩)));rw[a4];have bd:(t.E.eraseIdx j1).length+1=t.E.length:=by have:=(x9 e1).length_eq;rw[AN] at this;lia
 have al:qf L t.b (.lst (zd (t.E.eraseIdx j1))) t.a=some (.lst [qi t.R,.ref t.b]):=by rw[qb a5];exact ta
 obtain⟨j2,y,e2,b1,b2,b3,b4⟩:=rg (E:=t.E.eraseIdx j1) (k:=one) (by lia);refine qc al (qc q8 (qc al (qc q8 ⟨(by show(0:Int)<((zd (t.E.eraseIdx j1)).length:Int);rw[r];omega),qx q8 ⟨b1,b2,ql b3 ?_⟩⟩)));rw[b4,v3];have bb:((t.E.eraseIdx j1).eraseIdx j2).length+1=(t.E.eraseIdx j1).length:=by have:=(x9 e2).length_eq;rw[AN] at this;lia
 have pE:t.E.Perm (x::y::(t.E.eraseIdx j1).eraseIdx j2):=(x9 e1).trans ((x9 e2).cons _);generalize (t.E.eraseIdx j1).eraseIdx j2=j at bb pE;have ao:qf L t.b (.lst (zd j)) l=some (.lst (ja J)):=by rw[qb (AE (nk t mt).2.2.2)];exact B.hk
 refine qc ao (qx ao ⟨big _ (by rw[Ab];exact ag9),?_⟩);have ek:ja J++[.tup [.str "either",.int ((x:Nat):Int),.int ((y:Nat):Int)]]=ja (J++[.nd true x y]):=by unfold ja;rw[Av];rfl
 rw[ek];have nn:(((ja (J++[.nd true x y])).length:Nat):Int)-1=((J.length:Nat):Int):=by rw[Ab,Ac];simp
 have au:qf (qf L t.b (.lst (zd j))) l (.lst (ja (J++[.nd true x y]))) t.a=some (.lst [qi t.R,.ref t.b]):=by rw[qb (nk t mt).2.2.1,qb a5];exact ta
 refine qc q8 (qc au ?_);refine qx au (ql (v:=0) rfl ?_);have ag:qf (qf (qf L t.b (.lst (zd j))) l (.lst (ja (J++[.nd true x y])))) t.a (.lst ([qi t.R,.ref t.b].set 0 (.tup [.str "either",.int ((((ja (J++[.nd true x y])).length:Nat):Int)-1),qi t.R]))) t.a=some (.lst [qi (.ei J.length t.R),.ref t.b]):=by rw[q8,nn];rfl
 have C:∀o,qf (qf (qf L t.b (.lst (zd j))) l (.lst (ja (J++[.nd true x y])))) t.a o l=some (.lst (ja (J++[.nd true x y]))):=λo=>by rw[qb (AE (nk t mt).2.2.1)];exact q8
 have I:∀o,qf (qf (qf L t.b (.lst (zd j))) l (.lst (ja (J++[.nd true x y])))) t.a o t.b=some (.lst (zd j)):=λo=>by rw[qb (AE a5),qb (nk t mt).2.2.2];exact q8
 have U:∀o b u,b≠t.a->b≠t.b->b≠l->L b=some u->qf (qf (qf L t.b (.lst (zd j))) l (.lst (ja (J++[.nd true x y])))) t.a o b=some u:=λo b u n1 n2 n3 e=>by rw[qb n1,qb n3,qb n2];exact e
 have C:=C (.lst ([qi t.R,.ref t.b].set 0 (.tup [.str "either",.int ((((ja (J++[.nd true x y])).length:Nat):Int)-1),qi t.R])));have I:=I (.lst ([qi t.R,.ref t.b].set 0 (.tup [.str "either",.int ((((ja (J++[.nd true x y])).length:Nat):Int)-1),qi t.R])));have U:=U (.lst ([qi t.R,.ref t.b].set 0 (.tup [.str "either",.int ((((ja (J++[.nd true x y])).length:Nat):Int)-1),qi t.R])));generalize qf (qf (qf L t.b (.lst (zd j))) l (.lst (ja (J++[.nd true x y])))) t.a (.lst ([qi t.R,.ref t.b].set 0 (.tup [.str "either",.int ((((ja (J++[.nd true x y])).length:Nat):Int)-1),qi t.R])))=L3 at ag C I U;refine qc ag (qc I (qc C (qx I ⟨big _ (by rw[r];lia),?_⟩)));have en:zd j++[.int ((((ja (J++[.nd true x y])).length:Nat):Int)-1)]=zd (j++[J.length]):=by rw[nn];unfold zd;rw[Av];rfl
 have T:=pE.nodup_iff.mp s.nod;rw[Az,Az] at T;have hx:x∈t.E:=pE.mem_iff.mpr (by simp);have hy:y∈t.E:=pE.mem_iff.mpr (by simp);have bc:∀u∈pre++post,u.a≠t.a/\u.a≠t.b/\u.b≠t.a/\u.b≠t.b:=λu g=>by have p:(pre++t::post).Perm (t::(pre++post)):=Cw;have av:=(p.flatMap_right Tr.ads).nodup_iff.mp (by rw[Az,Az] at ad;exact ad.2.2);rw[AK,Ap] at av;have k:=av.2.2;have ma:u.a∈(pre++post).flatMap Tr.ads:=AX.mpr ⟨u,g,by simp[Tr.ads]⟩;have mb:u.b∈(pre++post).flatMap Tr.ads:=AX.mpr ⟨u,g,by simp[Tr.ads]⟩;exact⟨λe=>k t.a (by simp[Tr.ads]) u.a ma e.symm,λe=>k t.b (by simp[Tr.ads]) u.a ma e.symm,λe=>k t.a (by simp[Tr.ads]) u.b mb e.symm,λe=>k t.b (by simp[Tr.ads]) u.b mb e.symm⟩
 refine xg (q _ (J++[.nd true x y]) (pre++⟨t.a,t.b,.ei J.length t.R,j++[J.length]⟩::post) ⟨?_,?_⟩ (by rw[Ac];exact Al _) (by simp) ⟨⟨_,rfl,λk hk=>⟨_,_,_,Ai.mp hk⟩⟩,λh u g=>?_⟩)
 rotate_right
 ·rcases Aq.mp g with g|g
  ·exact h u (Ar _ g)
  ·rcases Am.mp g with rfl|g
   ·exact h t mt
   ·exact h u (Ag _ (Ad _ g))
 ·have B':=B.perm (fo':=[t]++(pre++post)) Cw;have st:=cB.step (old:=[t]) (rest:=pre++post) (t':=⟨t.a,t.b,.ei J.length t.R,j++[J.length]⟩) (ms:=[.nd true x y]) (L':=qf L3 t.b (.lst (zd j++[.int ((((ja (J++[.nd true x y])).length:Nat):Int)-1)]))) B' ?_ ⟨?_,?_⟩ (λu g=>?_) (λb o e=>?_) ?_ (λz hz=>?_) ?_ ?_ ?_
  ·exact st.perm (by have p1:((pre++post)++[(⟨t.a,t.b,.ei J.length t.R,j++[J.length]⟩:Tr)]).Perm ((⟨t.a,t.b,.ei J.length t.R,j++[J.length]⟩:Tr)::(pre++post)):=BX _ _;exact p1.trans Cw.symm)
  ·rw[qb (AE (nk t mt).2.2.2)];exact C
  ·rw[qb a5];exact ag
  ·rw[q8,en]
  ·have aL:u∈pre++t::post:=by rcases Aq.mp g with h|h;exact Ar _ h;exact Ag _ (Ad _ h)
   obtain⟨n1,n2,n3,n4⟩:=bc u g;obtain⟨k1,k2,k3,k4⟩:=nk u aL;obtain⟨h1,h2⟩:=B.ht u aL;rw[h1,h2,qb n2,qb n4];exact⟨U _ _ n1 n2 k3 h1,U _ _ n3 n4 k4 h2⟩
  ·have fr:=B.fr;have n0:∀z,L0 z=none->b≠z:=λz hz w=>by rw[w,hz] at e;cases e
   have n1:=n0 l (fr l (by simp));have n2:=n0 t.a (fr t.a (by simp[Tr.ads]));have n3:=n0 t.b (fr t.b (by simp[Tr.ads]));rw[qb n3];exact U _ _ n2 n3 n1 (B.sub _ _ e)
  ·have p:(pre++t::post).Perm ((pre++post)++[t]):=Cw.trans (BX _ _).symm;have e:((pre++post)++[(⟨t.a,t.b,.ei J.length t.R,j++[J.length]⟩:Tr)]).flatMap Tr.ads=((pre++post)++[t]).flatMap Tr.ads:=by simp[AB,Tr.ads]
   rw[e];exact(((p.flatMap_right Tr.ads).cons _).cons _).nodup_iff.mp ad
  ·have hz:z=t.a\/z=t.b:=by simpa[Tr.ads] using hz
   rcases hz with rfl|rfl
   ·exact B.fr _ (by simp[Tr.ads])
   ·exact B.fr _ (by simp[Tr.ads])
  ·exact B.ok.snoc ⟨s.lt x (s.sub x hx),s.lt y (s.sub y hy)⟩
  ·refine .ei (eL _ _ _) (s.more _) hx hy (λe=>T.1 (by rw[e];exact Aj ..)) (λz=>?_) ?_
   ·rw[Aq,Ai];have hm:=pE.mem_iff (a:=z);rw[Am,Am] at hm;have h1:z∈j->z≠x/\z≠y:=λh=>⟨λe=>T.1 (by rw[<-e];exact Ad _ h),λe=>T.2.1 (e▸h)⟩;constructor
    ·rintro(h|h)
     ·exact .inl ⟨hm.mpr (.inr (.inr h)),h1 h⟩
     ·exact .inr h
    ·rintro(⟨h,c1,c2⟩|h)
     ·rcases hm.mp h with e|e|e
      ·exact absurd e c1
      ·exact absurd e c2
      ·exact .inl e
     ·exact .inr h
   ·rw[Ap];refine⟨T.2.2,by simp,λu g v hv e=>?_⟩;rw[Ai.mp hv] at e;have:u∈t.E:=pE.mem_iff.mpr (Ad _ (Ad _ g));have:=s.lt u (s.sub u this);lia
  ·show(J.length::qm t.R).Perm (List.range' J.length 1++([t].flatMap λt=>qm t.R));simp[Dv]
 ·have nf:=nk t mt;rw[qb (AE nf.2.1)];have:=U fa _ (AE nf.1) (AE nf.2.1) (AE nkf) F.hf;rw[this];unfold zf;rw[Av,Av];rfl
def aic(J:jz)(p1:jz)(p2:jz)(p3:jz):kn:=(qo (zn (ak dG (qa 1) (qe (zh wv (qa 3) (bQ 1)) zb)) (qh 4))
 (qo (zn (zh af (jr 4 1) (zh wv (zh cN (qa 3) (jp 64)) (gq lW (vn (jr 4 1))))) (qh 5))
 (qo (zn (za J (aS (qa 0) (qa 5))) (qh 6))
 (qo (zn (rdT (yC .non) (yC .non)) (bV 2 (jm (qh 7) (jm (qh 8) bK))))
 (qo (ay (iU (vn (bQ 1))) (qh 9) (ay (vv (zh af (zh af (qa 1) (qa 9)) (jp 1))) (qh 10) (jl (r9 (yB (dR false (qa 7))) (f9 (za J (aS (qa 0) (qa 10))) (za p1 (vn (qa 6))))) (zn (ku (qe (zh af (qa 1) (qa 9)) (vn (qa 10)))) (bV 2 (jm (qh 7) (jm (qh 8) bK)))) zq)))
 (qo (jl (r9 (yB (dR false (qa 7))) (yB (zh yGt (za p2 (vn (qa 6))) (jp 5)))) (qo (jy (ak jf (qa 1) (vn (qa 4))))
 abp) zq)
 (kM (jl (yB (dR false (qa 7))) (qo (zn (za p3 (aS (qa 0) (qa 6))) (ahy 3 (jm (qh 11) (jm (qh 8) (jm (qh 12) bK)))))
 (zn (x0 (qe (qa 11) (qe (x0 (aS (qa 8) (qa 12))) zb))) (qh 7))) (jy (ak kB (qa 1) (vn (qa 7)))))
 (qo (zn (uz 1 (vv (zh kw (jr 4 1) (jr 7 1))) (qh 14) (yB (zh (iN true) (qa 14) (rdT (qa 5) (qa 8)))) (qa 14)) (qh 13))
 (jl (f9 (zh wv (qa 2) (jp 2)) (jp 0)) (jy (ak jf (qa 1) (qe (x0 (qe (ku (qe (cj "cut") (qe (qa 5) (qe (qa 8) (aS (jr 4 0) (jr 7 0)))))) (vn (qa 13)))) zb))) (jy (ak jf (qa 1) (qe (x0 (qe (ku (qe (cj "cut") (qe (qa 8) (qe (qa 5) (aS (jr 7 0) (jr 4 0)))))) (vn (qa 13)))) zb))))))))))))
theorem pA:∀a b:List Da,Da.eqs a b=true->a.length=b.length
 |[],[],_=>rfl
 |[],_::_,h=>by cases h
 |_::_,[],h=>by cases h
 |x::r,y::q,h=>by have h:(Da.eq x y&&Da.eqs r q)=true:=h;rw[A2] at h;rw[AN,AN,pA r q h.2]
theorem aez(u:Wd):∀v:Wd,Da.eq (lL u) (lL v)=true->u=v:=by
 induction u with
 |leaf t n=>
  intro v h;cases v with
  |leaf p C=>
   rw[vV,A2] at h;rw[of_decide_eq_true h.1,of_decide_eq_true h.2]
  |node e l r=>exact absurd (pA _ _ h) (by intro z;cases z)
 |node e l r j o=>
  intro v h;cases v with
  |leaf t n=>exact absurd (pA _ _ h) (by intro z;cases z)
  |node J U g=>
   have h:(gD (.str (kN e)) (.str (kN J))&&(Da.eq (lL l) (lL U)&&(Da.eq (lL r) (lL g)&&true)))=true:=h;rw[A2,A2,A2] at h;obtain⟨h1,h2,h3,_⟩:=h;have:e=J:=by cases e<;>cases J<;>first|rfl|(exfalso;revert h1;decide +kernel)
   rw[this,j U h2,o g h3]
def ji:Ru->Nat
 |.link _ _=>1
 |.ei _ A=>ji A+1
 |.bo _ A B=>max (ji A) (ji B)+1
 |.cu _ _ A B=>max (ji A) (ji B)+1
theorem xq:∀R:Ru,ji R+1<=(qm R).length
 |.link _ _=>Al _
 |.ei _ A=>by have:=xq A;simp[ji,qm];lia
 |.bo _ A B=>by have:=xq A;have:=xq B;simp[ji,qm];lia
 |.cu _ _ A B=>by have:=xq A;have:=xq B;simp[ji,qm];lia
def aZ:Ru->Da
 |.link p q=>.tup [.s (.str "link"),.s (.int (p:Int)),.s (.int (q:Int))]
 |.ei r A=>.tup [.s (.str "either"),.s (.int (r:Int)),aZ A]
 |.bo r A B=>.tup [.s (.str "both"),.s (.int (r:Int)),aZ A,aZ B]
 |.cu p q A B=>.tup [.s (.str "cut"),.s (.int (p:Int)),.s (.int (q:Int)),aZ A,aZ B]
theorem cz{L:qp}:∀{R:Ru} {n:Nat},ji R<=n->jj L n (qi R) (aZ R)
 |.link p q,n+1,_=>aY (.cons (ED _) (.cons (DY _) (.cons (DY _) .nil)))
 |.ei r A,n+1,h=>aY (.cons (ED _) (.cons (DY _) (.cons (cz (by simp[ji] at h;lia)) .nil)))
 |.bo r A B,n+1,h=>aY (.cons (ED _) (.cons (DY _) (.cons (cz (by simp[ji] at h;lia)) (.cons (cz (by simp[ji] at h;lia)) .nil))))
 |.cu p q A B,n+1,h=>aY (.cons (ED _) (.cons (DY _) (.cons (DY _) (.cons (cz (by simp[ji] at h;lia)) (.cons (cz (by simp[ji] at h;lia)) .nil)))))
 |.link _ _,0,h=>by simp[ji] at h
 |.ei _ _,0,h=>by simp[ji] at h
 |.bo _ _ _,0,h=>by simp[ji] at h
 |.cu _ _ _ _,0,h=>by simp[ji] at h
theorem az:∀R:Ru,Da.eq (aZ R) (aZ R)=true
 |.link p q=>by simp[aZ,Da.eq,Da.eqs,gD]
 |.ei r A=>by simp[aZ,Da.eq,Da.eqs,gD,az A]
 |.bo r A B=>by simp[aZ,Da.eq,Da.eqs,gD,az A,az B]
 |.cu p q A B=>by simp[aZ,Da.eq,Da.eqs,gD,az A,az B]
def hU(E:List Nat):List Da:=E.map λn:Nat=>Da.s (.int (n:Int))
theorem wJ{L:qp}{n:Nat}:∀E:List Nat,Paired (jj L n) (zd E) (hU E)
 |[]=>.nil
 |_::r=>.cons (DY _) (wJ r)
theorem qD:∀E J:List Nat,Da.eqs (hU E) (hU J)=true↔E=J
 |[],[]=>by simp[hU,Da.eqs]
 |[],_::_=>by simp[hU,Da.eqs]
 |_::_,[]=>by simp[hU,Da.eqs]
 |x::r,y::U=>by
  have g:=qD r U;show(Da.eq (.s (.int (x:Int))) (.s (.int (y:Int)))&&Da.eqs (hU r) (hU U))=true↔_;rw[A2,g];have:Da.eq (.s (.int (x:Int))) (.s (.int (y:Int)))=true↔x=y:=by show decide ((x:Int)=(y:Int))=true↔_;rw[decide_eq_true_iff];lia
  rw[this];constructor
  ·rintro⟨rfl,rfl⟩;rfl
  ·intro e;injection e with j l;exact⟨j,l⟩
def eX(t:Tr):Da:=.lst [aZ t.R,.lst (hU t.E)]
theorem pQ{t:Tr}(J:L t.a=some (.lst [qi t.R,.ref t.b]))(U:L t.b=some (.lst (zd t.E)))(h:ji t.R<=n+1):jj L (n+2) (.ref t.a) (eX t):=
 xh J (.cons (cz h) (.cons (xh U (wJ _)) .nil))
theorem afc{t u:Tr}:Da.eq (eX t) (eX u)=true->t.E=u.E:=by intro h;have h:(Da.eq (aZ t.R) (aZ u.R)&&(Da.eqs (hU t.E) (hU u.E)&&true))=true:=h;rw[A2,A2] at h;exact(qD _ _).mp h.2.1
theorem xY(t:Tr):Da.eq (eX t) (eX t)=true:=by show(Da.eq (aZ t.R) (aZ t.R)&&(Da.eqs (hU t.E) (hU t.E)&&true))=true;rw[az,(qD _ _).mpr rfl];rfl
theorem cB.rd(h:cB L0 L ka fa ks fo){t:Tr}(J:t∈fo):ji t.R<=ks.length:=by
 have h1:=xq t.R;have nd:(qm t.R).Nodup:=by obtain⟨a,b,rfl⟩:=CI J;have:=h.nd;rw[AB,AK,Ap,Ap] at this;exact this.2.1.1
 have:=bY _ _ nd λx U=>(h.sr t J).lt x U;exact anb
theorem cB.one(h:cB L0 L ka fa ks fo){t u:Tr}(hi:fo[i]?=some t)(J:fo[j]?=some u)(e:t.E=u.E):i=j:=by
 by_cases c:i=j
 ·exact c
 ·exfalso;have s:=h.sr t (Aw hi);have l:=s.ends h.ok;obtain⟨x,U⟩:∃x,x∈t.E:=by cases o:t.E with|nil=>rw[o] at l;simp at l|cons x r=>exact⟨x,Aj ..⟩
  have p:=h.sr u (Aw J);have C:=x9 hi;have I:(u::(fo.eraseIdx i))=_:=rfl;have g:u∈fo.eraseIdx i:=by have:fo[j]?=some u:=J;rw[List.mem_eraseIdx_iff_getElem?];exact⟨j,λz=>c z.symm,J⟩
  obtain⟨a,b,T⟩:=CI g;have nd:=(C.flatMap_right λt:Tr=>qm t.R).nodup_iff.mp h.nd;rw[AK,Ap] at nd;exact nd.2.2 x (s.sub x U) x (AX.mpr ⟨u,g,p.sub x (e▸U)⟩) rfl
theorem qg.none(s:qg L L'){p:Addr}(h:L' p=none):L p=none:=by cases z:L p with|none=>rfl|some o=>rw[s _ _ z] at h;cases h
theorem cB.nkf(h:cB L0 L ka fa ks fo):ka≠fa:=by have ad:=h.ad;rw[Az] at ad;exactλe=>ad.1 (e▸Aj ..)
theorem cB.nk(h:cB L0 L ka fa ks fo):∀t∈fo,t.a≠fa/\t.b≠fa/\t.a≠ka/\t.b≠ka:=λt J=>by have ad:=h.ad;rw[Az,Az] at ad;have U:t.a∈fo.flatMap Tr.ads:=AX.mpr ⟨t,J,by simp[Tr.ads]⟩;have g:t.b∈fo.flatMap Tr.ads:=AX.mpr ⟨t,J,by simp[Tr.ads]⟩;exact⟨λe=>ad.2.1 (e▸U),λe=>ad.2.1 (e▸g),λe=>ad.1 (Ad _ (e▸U)),λe=>ad.1 (Ad _ (e▸g))⟩
theorem cB.setF(h:cB L0 L ka fa ks fo)(o:LO):cB L0 (qf L fa o) ka fa ks fo:=by
 refine⟨by rw[qb h.nkf];exact h.hk,λt J=>?_,h.sr,h.nd,h.tm,h.ad,h.ok,λb u e=>?_,h.fr⟩
 ·obtain⟨U,g,_,_⟩:=h.nk t J;rw[qb U,qb g];exact h.ht t J
 ·have:b≠fa:=λz=>by rw[z,h.fr fa (by simp)] at e;cases e
  rw[qb this];exact h.sub _ _ e
theorem cB.mono(h:cB L0 L ka fa ks fo)(s:qg L L'):cB L0 L' ka fa ks fo:=
 ⟨s _ _ h.hk,λt J=>⟨s _ _ (h.ht t J).1,s _ _ (h.ht t J).2⟩,h.sr,h.nd,h.tm,h.ad,h.ok,h.sub.trans s,h.fr⟩
theorem cB.exs(h:cB L0 L ka fa ks fo):∀z∈fo.flatMap Tr.ads,∃o,L z=some o:=λz J=>by
 obtain⟨t,U,J⟩:=AX.mp J;obtain⟨h1,h2⟩:=h.ht t U;have J:z=t.a\/z=t.b:=by simpa[Tr.ads] using J
 rcases J with rfl|rfl
 ·exact⟨_,h1⟩
 ·exact⟨_,h2⟩
theorem uG{l:List Addr}{pb:Addr}(nd:l.Nodup)(ex:∀z∈l,∃o,L z=some o)(g:L pa=none)(j:L pb=none)(ne:pa≠pb):(l++[pa,pb]).Nodup:=by
 rw[Ap];refine⟨nd,by simp[ne],λu p v U e=>?_⟩;subst e;obtain⟨o,J⟩:=ex u p;simp at U;rcases U with rfl|rfl
 ·rw[g] at J;cases J
 ·rw[j] at J;cases J
theorem lX:∀w:Wd,w.turn.turn=w
 |.leaf t n=>by simp[Wd.turn]
 |.node e l r=>by simp[Wd.turn,lX l,lX r]
theorem fK:∀w:Wd,w.turn.depth=w.depth
 |.leaf t n=>rfl
 |.node e l r=>by simp[Wd.turn,Wd.depth,fK l,fK r]
def Fd(ks:List Kn)(w:Wd)(rest:List Tr)(J U:Y):Prop:=(J=.non/\U=.non)\/∃(j:Nat) (u:Tr) (q:Nat),rest[j]?=some u/\q∈u.E/\cM ks q w.turn/\J=.ref u.a/\U=.int (q:Int)
theorem aa7{j C:qp}{t1 u:Tr}{x q:Nat}{w:Wd}(B:cB L0 j ka fa ks (t1::u::rest)){fs:LO}(hf:j fa=some fs)(hx:x∈t1.E)(hq:q∈u.E)(I:cM ks x w)(T:cM ks q w.turn){J:Addr}(s:qg j C)(a1:j J=none)
 (he:C J=some (.lst (zd (xp t1.E u.E x q)))) (o:C pa=none) (hR:R=.cu x q t1.R u.R\/R=.cu q x u.R t1.R):cB L0 (qf C pa (.lst [qi R,.ref J])) ka fa ks (rest++[⟨pa,J,R,xp t1.E u.E x q⟩]):=by
 have a2:J≠pa:=km he o;have g:j pa=none:=s.none o;have s':qg j (qf C pa (.lst [qi R,.ref J])):=s.trans (By o);have s1:=B.sr t1 (by simp);have s2:=B.sr u (by simp);have p:∀z,z∈t1.E->z∈u.E->False:=λz h1 h2=>B.two z (s1.sub z h1) (s2.sub z h2);have k0:ks++[]=ks:=A1 ks;have bm:=oo (E1:=t1.E) (E2:=u.E) (λh=>p x hx h) (λh=>p q h hq);have nod:=pP (l:=x) (r:=q) s1.nod s2.nod p;have st:=cB.step (L':=qf C pa (.lst [qi R,.ref J])) (old:=[t1,u]) (rest:=rest) (ms:=[]) (t':=⟨pa,J,R,xp t1.E u.E x q⟩) B (by rw[k0];exact s' _ _ B.hk) ⟨q8,by rw[qb a2];exact he⟩ (λt ht=>?_) (B.sub.trans s') ?_ (λz U=>?_) (by rw[k0];exact B.ok) ?_ ?_
 ·rw[k0] at st;exact st
 ·obtain⟨h1,h2⟩:=B.ht t (Ad _ (Ad _ ht));rw[h1,h2];exact⟨s' _ _ h1,s' _ _ h2⟩
 ·have nd:(ka::fa::rest.flatMap Tr.ads).Nodup:=by
   have:=B.ad;rw[AK,AK,Az,Az,Ap,Ap] at this;rw[Az,Az];obtain⟨d1,d2,_,⟨_,d3,_⟩,_⟩:=this;refine⟨λz=>d1 ?_,λz=>d2 (Ag _ (Ag _ z)),d3⟩;rcases Am.mp z with z|z
   ·rw[z];exact Aj ..
   ·exact Ad _ (Ag _ (Ag _ z))
  have:=uG (L:=j) nd (λz U=>?_) g a1 (AE a2)
  ·rw[AB];simpa[Tr.ads] using this
  ·rcases Am.mp U with rfl|U
   ·exact⟨_,B.hk⟩
   ·rcases Am.mp U with rfl|U
    ·exact⟨_,hf⟩
    ·exact B.exs z (by rw[AK,AK];exact Ag _ (Ag _ U))
 ·have U:z=pa\/z=J:=by simpa[Tr.ads] using U
  rcases U with rfl|rfl
  ·exact B.sub.none g
  ·exact B.sub.none a1
 ·rw[k0];rcases hR with rfl|rfl
  ·exact .cu s1 s2 hx hq I T bm nod
  ·exact .cu (w:=w.turn) s2 s1 hq hx T (by rw[lX];exact I) (λz=>by rw[bm];exact Or.comm) nod
 ·rcases hR with rfl|rfl
  ·show(qm t1.R++qm u.R).Perm _;simp
  ·show(qm u.R++qm t1.R).Perm _;simpa using List.perm_append_comm
def CJ(L0:qp)(ka fa:Addr)(ks:List Kn)(one two:Int)(t1:Tr)(x:Nat)(w:Wd)(n:Nat)(τ:jq)(L:qp):Prop:=∃ms u q rest c9 dk tL zP,τ=[some (.ref ka),some (.ref fa),some (.int one),some (.int two),some (.ref t1.a),some (.int (x:Int)),some (cA w),some (.ref u.a),some (.int ((q:Nat):Int)),c9,dk,tL,zP,none]/\
 cB L0 L ka fa (ks++ms) (t1::u::rest)/\L fa=some (.lst (zf rest))/\q∈u.E/\cM (ks++ms) q w.turn/\ms.length<=10/\rest.length<=n
def o7:jz:=λys L Q=>∃L0 ka fa ks fo,∃one two:Int,ys=[.ref ka,.ref fa,.int one,.int two]/\my L0 L ka fa ks fo/\1<=fo.length/\fo.length<=110/\ks.length<=110/\
 ∀L' ir fo',my L0 L' ka fa ir fo'->ir.length<=ks.length+10->1<=fo'.length->fo'.length<=fo.length->Q .non L'
theorem afv:∀ys L Q,o7 ys L Q->vg (aic (wm 120) (bN 120) (cD 120) (cQ 5)) 14 ys L Q:=by
 rintro ys L Q ⟨L0,g,fa,T,fo,one,two,rfl,F,h1,cc,bu,q⟩;have big:=bg_;have a4:∀fo:List Tr,(zf fo).length=fo.length:=λfo=>Ab ..;obtain⟨j1,J,bd,a1,a2,a3,C⟩:=uh (k:=two) F.hf (by assumption);have l1:(fo.eraseIdx j1).length+1=fo.length:=by have:=(x9 bd).length_eq;rw[AN] at this;lia
 refine qc F.hf (qc F.hf ⟨(by show(0:Int)<((zf fo).length:Int);rw[a4];lia),qx F.hf ⟨a1,a2,ql a3 ?_⟩⟩);have B:cB L0 (qf L fa (.lst ((zf fo).eraseIdx (two % ((zf fo).length:Int)).toNat))) g fa T (J::fo.eraseIdx j1):=(F.b.perm (x9 bd)).setF _;generalize qf L fa (.lst ((zf fo).eraseIdx (two % ((zf fo).length:Int)).toNat))=L1 at C B;generalize fo.eraseIdx j1=rest at l1 C B;clear a1 a2 a3;have m1:J∈J::rest:=by simp
 obtain⟨a5,al⟩:=B.ht J m1;have ao:=bM B m1;have s1:=B.sr J m1;obtain⟨x,hx,ex⟩:=pj ao.1 (two / 64);refine qc a5 ⟨⟨by decide,by decide⟩,qc a5 (qc al ⟨(by show(0:Int)<((zd J.E).length:Int);rw[Ab];omega),qc al (ql ex ?_)⟩)⟩;obtain⟨w,hw,cm,bf⟩:=lO B.ok (x+1) x (by exact Cy _) (s1.lt x (s1.sub x hx));have cv:=s1.lt x (s1.sub x hx);refine⟨g,ja T,x,w,rfl,B.hk,hw,by lia,?_⟩;have cy:w.turn.depth=w.depth:=fK w;refine qc C ⟨⟨by show _<=(((zf rest).length:Nat):Int);exact A3 _,by show(((zf rest).length:Nat):Int)<_;rw[a4];omega⟩,?_⟩;refine kE (λi τ L'=>∃v7 v8 c9 dk,τ=[some (.ref g),some (.ref fa),some (.int one),some (.int two),some (.ref J.a),some (.int (x:Int)),some (cA w),some v7,some v8,c9,dk,none,none,none]/\L'=L1/\Fd T w rest v7 v8) ⟨_,_,_,_,rfl,rfl,.inl ⟨rfl,rfl⟩⟩ ?_ ?_
 ·rintro i τ L' hi ⟨v7,v8,c9,dk,rfl,rfl,fd⟩;have hi:i<rest.length:=by have:i<(((zf rest).length:Nat):Int).toNat:=hi;rw[a4] at this;assumption
  obtain⟨u,hu⟩:∃u,rest[i]?=some u:=⟨_,Af hi⟩;have mu:u∈J::rest:=Ad _ (Aw hu);obtain⟨ua,ub⟩:=B.ht u mu;have ei:(zf rest)[i]?=some (.ref u.a):=by unfold zf;rw[An,hu];rfl
  have e0:(0:Int)+(i:Int)=((i:Nat):Int):=by simp +arith only
  rw[e0];have bg:fO (zf rest) ((i:Nat):Int)=some (.ref u.a):=vk ei;have le:=bM B mu;have su:=B.sr u mu;refine qc C (ql bg (qc ua ?_));refine agb (ys:=zd u.E) (aM ub) (λk τ au=>∃v7 v8 dk,τ=[some (.ref g),some (.ref fa),some (.int one),some (.int two),some (.ref J.a),some (.int (x:Int)),some (cA w),some v7,some v8,some (.int ((i:Nat):Int)),dk,none,none,none]/\au=L'/\Fd T w rest v7 v8) ⟨_,_,_,rfl,rfl,fd⟩ ?_ ?_ ?_
  ·rintro k τ _ ⟨_,_,_,_,rfl,_⟩;rfl
  ·rintro k y τ au ey ⟨v7,v8,dk,rfl,rfl,fd⟩;obtain⟨z,ez,rfl⟩:∃z:Nat,u.E[k]?=some z/\y=Y.int (z:Int):=by rw[An] at ey;obtain⟨z,e1,e2⟩:=Ao.mp ey;exact⟨z,e1,e2.symm⟩
   have hz:z∈u.E:=Aw ez;rcases fd with⟨rfl,rfl⟩|⟨j,t,q0,h1,h2,h3,rfl,rfl⟩
   ·have bv:=su.lt z (su.sub z hz);obtain⟨v,hv,cP,cl⟩:=lO B.ok (z+1) z (by exact Cy _) bv;refine⟨g,ja T,z,v,rfl,B.hk,hv,by lia,w,rfl,by lia,?_⟩;refine mX (u:=v) (v:=w.turn) (by lia) ?_;show wn (Da.eq (lL v) (lL w.turn)) _ _;refine aei (λc=>?_) λc=>?_
    ·have hh:=aez _ _ c;refine qc C (ql bg ?_);refine⟨_,DO _,?_⟩;exact⟨_,_,_,rfl,rfl,.inr ⟨i,u,z,hu,hz,hh▸hv,rfl,rfl⟩⟩
    ·refine⟨_,DO _,?_⟩;exact⟨_,_,_,rfl,rfl,.inl ⟨rfl,rfl⟩⟩
   ·refine⟨_,DO _,?_⟩;exact⟨_,_,_,rfl,rfl,.inr ⟨j,t,q0,h1,h2,h3,rfl,rfl⟩⟩
  ·rintro τ au ⟨v7,v8,dk,rfl,rfl,fd⟩;refine⟨_,DO _,?_⟩;exact⟨_,_,_,_,rfl,rfl,fd⟩
 ·rintro τ L' ⟨v7,v8,c9,dk,rfl,rfl,fd⟩;rcases fd with⟨rfl,rfl⟩|⟨j,u,q0,hj,av,aL,rfl,rfl⟩
  case' inl=>
   refine⟨w,rfl,by lia,?_⟩;show wn (decide ((w.size:Int) > 5)) _ _;refine v9 (λc=>?_) λc=>?_
   case' refine_1=>
    refine qc C (qx C ⟨big _ (by rw[a4];lia),?_⟩);have er:zf rest++[.ref J.a]=zf (rest++[J]):=by unfold zf;rw[Av];rfl
    rw[er];exact xg (q _ T (rest++[J]) ⟨(B.perm (BX _ _).symm).setF _,q8⟩ (by exact BI _ _) (by simp) (by rw[Ac];simp;exact yG))
   case' refine_2=>
    refine⟨CJ L0 g fa T one two J x w rest.length,?_,?_⟩
    ·refine⟨g,T,w,rfl,B.hk,(by have h1:=w.depth_le;have h2:=w.size_eq;lia),(by decide),bf,B.ok,by lia,λms R tp sp p hp ag=>?_⟩;refine qx q8 ?_;intro pb ba pa I;have bS:g≠p:=km B.hk hp;have bb:qf L' g (.lst (ja (T++ms))) p=none:=by rw[qb (AE bS)];exact hp
     have sA:qg (qf L' g (.lst (ja (T++ms)))) _:=((By bb).trans (By ba)).trans (By (o:=.lst [qi R,.ref pb]) I);have bh:pb≠pa:=km q8 I;have bi:qf L' g (.lst (ja (T++ms))) pb=none:=(By bb).none ba;have bj:qf L' g (.lst (ja (T++ms))) pa=none:=((By bb).trans (By ba)).none I;have ea:qf (qf (qf (qf L' g (.lst (ja (T++ms)))) p (.lst [qi R,.int (tp:Int),.int (sp:Int)])) pb (.lst [.int (tp:Int),.int (sp:Int)])) pa (.lst [qi R,.ref pb]) pa=some (.lst [qi R,.ref pb]):=q8;have eb:qf (qf (qf (qf L' g (.lst (ja (T++ms)))) p (.lst [qi R,.int (tp:Int),.int (sp:Int)])) pb (.lst [.int (tp:Int),.int (sp:Int)])) pa (.lst [qi R,.ref pb]) pb=some (.lst (zd [tp,sp])):=by rw[qb bh];exact q8
     refine⟨ms,⟨pa,pb,R,[tp,sp]⟩,tp,rest,_,_,_,_,rfl,?_,sA _ _ (by rw[qb (AE B.nkf)];exact C),Aj ..,ag.wt,by have:=ag.len;lia,Al _⟩;generalize qf (qf (qf (qf L' g (.lst (ja (T++ms)))) p (.lst [qi R,.int (tp:Int),.int (sp:Int)])) pb (.lst [.int (tp:Int),.int (sp:Int)])) pa (.lst [qi R,.ref pb])=LF at sA ea eb;have keep:∀z o,z≠g->L' z=some o->LF z=some o:=λz o n e=>sA _ _ (by rw[qb n];exact e);have st:=cB.step (L':=LF) (old:=[]) (rest:=J::rest) (ms:=ms) (t':=⟨pa,pb,R,[tp,sp]⟩) B (sA _ _ q8) ⟨ea,eb⟩ (λt ht=>?_) (λz o e=>?_) ?_ (λz hz=>?_) ag.ok ag.sr ?_
     ·exact st.perm ((BX _ _).trans (List.Perm.swap _ _ _))
     ·obtain⟨n1,n2,n3,n4⟩:=B.nk t ht;obtain⟨h1,h2⟩:=B.ht t ht;rw[h1,h2];exact⟨keep _ _ n3 h1,keep _ _ n4 h2⟩
     ·exact keep _ _ (λz=>by rw[z,B.fr g (by simp)] at e;cases e) (B.sub _ _ e)
     ·have:=uG (L:=qf L' g (.lst (ja (T++ms)))) B.ad (λz hz=>?_) bj bi (AE bh)
      ·rw[AB];simpa[Tr.ads] using this
      ·by_cases c:z=g
       ·rw[c];exact⟨_,q8⟩
       ·rw[qb c];rcases Am.mp hz with rfl|hz
        ·exact absurd rfl c
        ·rcases Am.mp hz with rfl|hz
         ·exact⟨_,C⟩
         ·exact B.exs z hz
     ·have hz:z=pa\/z=pb:=by simpa[Tr.ads] using hz
      cases e:L0 z with
      |none=>rfl
      |some o=>
       have n:z≠g:=λz'=>by rw[z',B.fr g (by simp)] at e;cases e
       have:=B.sub _ _ e;have e2:qf L' g (.lst (ja (T++ms))) z=some o:=by rw[qb n];exact this
       rcases hz with rfl|rfl
       ·rw[bj] at e2;cases e2
       ·rw[bi] at e2;cases e2
     ·rw[Dy,A1];exact(A6 ag.nd Do).mpr λz=>by rw[ag.tm,CS]
  case' inr=>
   refine⟨CJ L0 g fa T one two J x w rest.length,?_,?_⟩
   ·refine qc C (qx C ⟨rest.map eX,eX u,120,120,j,by decide,?_,?_,?_,⟨eX u,?_,xY u⟩,λk d hk ek=>?_,?_⟩)
    ·have dd:∀l:List Tr,(∀t∈l,t∈J::rest)->Paired (jj L' 120) (zf l) (l.map eX):=λl=>by
      induction l with
      |nil=>intro _;exact .nil
      |cons t r ih=>
       intro h;have mt:=h t (Aj ..);obtain⟨h1,h2⟩:=B.ht t mt;have:=B.rd mt;exact .cons (pQ (n:=118) h1 h2 (by lia)) (ih λt ht=>h t (Ad _ ht))
     exact dd rest λt ht=>Ad _ ht
    ·have mt:u∈J::rest:=Ad _ (Aw hj);obtain⟨h1,h2⟩:=B.ht u mt;have:=B.rd mt;exact pQ (n:=118) h1 h2 (by omega)
    ·rw[Ab];exact(AW.mp hj).1
    ·rw[An,hj];rfl
    ·rw[An] at ek;obtain⟨v,ev,rfl⟩:=Ao.mp ek;cases c:Da.eq (eX v) (eX u) with
     |false=>rfl
     |true=>
      have:=B.one (i:=k+1) (j:=j+1) (by simpa using ev) (by simpa using hj) (afc c);lia
    ·rw[lg];have B2:=(B.perm ((x9 hj).cons _)).setF (.lst (zf (rest.eraseIdx j)));exact⟨[],u,q0,rest.eraseIdx j,_,_,_,_,rfl,(A1 T).symm▸B2,q8,av,(A1 T).symm▸aL,A9 _,CM ..⟩
  all_goals
   rintro d0 L' ⟨ms,u,q0,U,c9,dk,tL,zP,rfl,B',hf,av,aL,de,di⟩;have m1:J∈J::u::U:=by simp
   have m2:u∈J::u::U:=by simp
   obtain⟨a5,al⟩:=B'.ht J m1;obtain⟨bc,ca⟩:=B'.ht u m2;have ao:=bM B' m1;have cb:=bM B' m2;rw[Ac] at ao cb;refine qc a5 (qc bc ⟨_,_,al,ca,small (by rw[Ab,Ab];omega),λpp bn=>?_⟩);have en:zd J.E++zd u.E=zd (J.E++u.E):=by unfold zd;rw[Av]
   rw[en];refine acl (E:=J.E++u.E) (l:=x) (r:=q0) (k:=14) q8 (by rw[Ac];omega) (λy' Q' h=>h) (λ_=>rfl) λpe bp=>?_;have s4:qg L' (qf (qf L' pp (.lst (zd (J.E++u.E)))) pe (.lst (zd ((J.E++u.E).filter λz=>!decide (z=x\/z=q0))))):=(By bn).trans (By bp);have bq:qf (qf L' pp (.lst (zd (J.E++u.E)))) pe (.lst (zd ((J.E++u.E).filter λz=>!decide (z=x\/z=q0)))) pe=some (.lst (zd (xp J.E u.E x q0))):=q8;have br:L' pe=none:=(By bn).none bp;generalize qf (qf L' pp (.lst (zd (J.E++u.E)))) pe (.lst (zd ((J.E++u.E).filter λz=>!decide (z=x\/z=q0))))=L4 at s4 bq;have done:∀(R:Ru) pa,L4 pa=none->(R=.cu x q0 J.R u.R\/R=.cu q0 x u.R J.R)->Q .non (qf (qf L4 pa (.lst [qi R,.ref pe])) fa (.lst (zf U++[.ref pa]))):=λR pa I hR=>by
    have er:zf U++[.ref pa]=zf (U++[⟨pa,pe,R,xp J.E u.E x q0⟩]):=by unfold zf;rw[Av];rfl
    rw[er];exact q _ (T++ms) (U++[⟨pa,pe,R,xp J.E u.E x q0⟩]) ⟨(aa7 B' hf hx av (hw.more ms) aL s4 br bq I hR).setF _,q8⟩ (by rw[Ac];omega) (by simp) (by rw[Ac];simp;omega)
   refine⟨(by show(0:Int)<2;decide),?_⟩;show wn (decide (one % 2=0)) _ _;refine v9 (λc=>?_) λc=>?_
   ·refine qc (s4 _ _ hf) (qc (s4 _ _ a5) (qc (s4 _ _ bc) λpa I=>?_));refine qx (By I _ _ (s4 _ _ hf)) ⟨big _ (by rw[a4];omega),?_⟩;exact xg (done _ pa I (.inl rfl))
   ·refine qc (s4 _ _ hf) (qc (s4 _ _ bc) (qc (s4 _ _ a5) λpa I=>?_));refine qx (By I _ _ (s4 _ _ hf)) ⟨big _ (by rw[a4];omega),?_⟩;exact xg (done _ pa I (.inr rfl))
theorem my.mono(h:my L0 L ka fa ks fo)(s:qg L L'):my L0 L' ka fa ks fo:=⟨h.b.mono s,s _ _ h.hf⟩
theorem cB.plus{U:qp}{ms:List Kn}{t':Tr}{fs:LO}(B:cB L0 L ka fa ks rest)(C:L fa=some fs)(sA:qg (qf L ka (.lst (ja (ks++ms)))) U)(I:U t'.a=some (.lst [qi t'.R,.ref t'.b]))(T:U t'.b=some (.lst (zd t'.E)))
 (g:qf L ka (.lst (ja (ks++ms))) t'.a=none) (j:qf L ka (.lst (ja (ks++ms))) t'.b=none) (p:t'.a≠t'.b) (ok:cw (ks++ms)) (sr:SR (ks++ms) t'.R t'.E) (tm:∀x,x∈qm t'.R↔ks.length<=x/\x<ks.length+ms.length) (nd:(qm t'.R).Nodup):
 cB L0 U ka fa (ks++ms) (rest++[t']):=by
 have keep:∀z o,z≠ka->L z=some o->U z=some o:=λz o n e=>sA _ _ (by rw[qb n];exact e);refine cB.step (old:=[]) (rest:=rest) (ms:=ms) (t':=t') B (sA _ _ q8) ⟨I,T⟩ (λt r=>?_) (λz o e=>?_) ?_ (λz J=>?_) ok sr ?_
 ·obtain⟨n1,n2,n3,n4⟩:=B.nk t r;obtain⟨h1,h2⟩:=B.ht t r;rw[h1,h2];exact⟨keep _ _ n3 h1,keep _ _ n4 h2⟩
 ·exact keep _ _ (λz=>by rw[z,B.fr ka (by simp)] at e;cases e) (B.sub _ _ e)
 ·have:=uG (L:=qf L ka (.lst (ja (ks++ms)))) B.ad (λz J=>?_) g j p
  ·rw[AB];simpa[Tr.ads] using this
  ·by_cases c:z=ka
   ·rw[c];exact⟨_,q8⟩
   ·rw[qb c];rcases Am.mp J with rfl|J
    ·exact absurd rfl c
    ·rcases Am.mp J with rfl|J
     ·exact⟨_,C⟩
     ·exact B.exs z J
 ·have J:z=t'.a\/z=t'.b:=by simpa[Tr.ads] using J
  cases e:L0 z with
  |none=>rfl
  |some o=>
   have n:z≠ka:=λz'=>by rw[z',B.fr ka (by simp)] at e;cases e
   have:=B.sub _ _ e;have l:qf L ka (.lst (ja (ks++ms))) z=some o:=by rw[qb n];exact this
   rcases J with rfl|rfl
   ·rw[g] at l;cases l
   ·rw[j] at l;cases l
 ·rw[Dy,A1];exact(A6 nd Do).mpr λz=>by rw[tm,CS]
theorem my.link(F:my L0 L ka fa ks fo){nm:Str}(l:da nm)(b:Bool){pb:Addr}(U:qf L ka (.lst (ja (ks++[.lf b nm,.lf (!b) nm]))) pb=none)
 (g:qf (qf L ka (.lst (ja (ks++[.lf b nm,.lf (!b) nm])))) pb (.lst (zd [ks.length,ks.length+1])) pa=none) {fs:List Y} (j:fs=zf fo++[.ref pa]):
 my L0 (qf (qf (qf (qf L ka (.lst (ja (ks++[.lf b nm,.lf (!b) nm])))) pb (.lst (zd [ks.length,ks.length+1]))) pa (.lst [qi (.link ks.length (ks.length+1)),.ref pb])) fa (.lst fs)) ka fa (ks++[.lf b nm,.lf (!b) nm]) (fo++[⟨pa,pb,.link ks.length (ks.length+1),[ks.length,ks.length+1]⟩]):=by
 have J:pb≠pa:=km q8 g;have M:=rM F.b.ok (t:=!b) l;rw[Bool.not_not] at M;refine⟨(cB.plus F.b F.hf ((By U).trans (By g)) q8 (by rw[qb J];exact q8) ((By U).none g) U (AE J) M.ok M.sr M.tm M.nd).setF _,?_⟩;rw[q8,j];unfold zf;rw[Av];rfl
theorem cB.dats(h:cB L0 L ka fa ks fo)(j:ks.length<=120):Paired (jj L 124) (zf fo) (fo.map eX):=by
 have U:∀l:List Tr,(∀t∈l,t∈fo)->Paired (jj L 124) (zf l) (l.map eX):=λl=>by
  induction l with
  |nil=>intro _;exact .nil
  |cons t r g=>
   intro k;have mt:=k t (Aj ..);obtain⟨h1,h2⟩:=h.ht t mt;have:=h.rd mt;exact .cons (pQ (n:=122) h1 h2 (by lia)) (g λt J=>k t (Ad _ J))
 exact U fo λt J=>J
theorem vU(fo:List Tr):Da.eqs (fo.map eX) []=decide (fo=[]):=by cases fo<;>rfl
def TW(L0:qp)(ka fa:Addr)(s:Int)(room:Nat)(τ:jq)(L:qp):Prop:=∃c0 c5 c6 c7 c8 c9 dk ks fo,τ=[c0,some (.int s),some (.int (room:Int)),some (.ref ka),some (.ref fa),c5,c6,c7,c8,c9,dk]/\my L0 L ka fa ks fo/\ks.length+fo.length<=room
theorem TW.of{s:Int}{room:Nat}{c0 c5 c6 c7 c8 c9 dk:Option Y}(F:my L0 L ka fa ks fo)(h:ks.length+fo.length<=room):TW L0 ka fa s room [c0,some (.int s),some (.int (room:Int)),some (.ref ka),some (.ref fa),c5,c6,c7,c8,c9,dk] L:=⟨_,_,_,_,_,_,_,ks,fo,rfl,F,h⟩
def yg(p q:Nat×Nat):Prop:=p.1<q.1\/(p.1=q.1/\p.2<=q.2)
def sJ(p:Nat×Nat):Int×Int:=((p.1:Int),(p.2:Int))
theorem zK{p q:Nat×Nat}(h:sJ p=sJ q):p=q:=by obtain⟨a,b⟩:=p;obtain⟨c,d⟩:=q;have h1:(a:Int)=c:=Bv Prod.fst h;have h2:(b:Int)=d:=Bv Prod.snd h;rw[Cd.mp h1,Cd.mp h2]
theorem rK(ps:List (Nat×Nat)):bT ps=(ps.map sJ).map prY:=by rw[BU];rfl
theorem ahe{ps:List (Nat×Nat)}{Q:YK}(j:L a=some (.lst (bT ps)))(l:∀p∈ps,p.2<1000000)(nd:ps.Nodup)(o:ps.length<=63)
 (q:∀D J,L D=none->J.Perm ps->J.Pairwise yg->Q (.ref D) (qf L D (.lst (bT J)))):cr [.ref a] L Q:=by
 refine qx j ⟨ps.map sJ,rK ps,λp t=>?_,?_,by rw[Ab];exact o,λD J C pm I=>?_⟩
 ·obtain⟨r,hr,rfl⟩:=AS.mp t;have:=l r hr;exact⟨A3 _,by show((r.2:Nat):Int)<1000000;omega⟩
 ·exact rH (λx _ y _ e=>zK e) nd
 ·obtain⟨T,pT,rfl⟩:=oR sJ pm rfl;rw[<-rK];refine q D T C pT ((B7.mp I).imp λ{x y} z=>?_);unfold yg;rcases z with z|⟨U,g⟩
  ·left;have z:((x.1:Nat):Int)<y.1:=z;lia
  ·right;have U:((x.1:Nat):Int)=y.1:=U;have g:((x.2:Nat):Int)<=y.2:=g;exact⟨by lia,by lia⟩
structure aig(L0:qp)(ks:List (Option Kn))(qs:List Nat)(d w D:Addr)(i ex:Nat)(f:Nat->Nat)(wd:List (Option Kn))(kvs:List (jg×Y))(L:qp):Prop where
 sub:qg L0 L
 hd:L d=some (.dct kvs)
 hw:L w=some (.lst (dU wd))
 hD:L D=some (.lst (nY qs))
 len:kvs.length<=i
 val:∀p:Nat,ko kvs (.inl (p:Int))=if p∈qs.take i then some (.int (f p:Int)) else none
 gap:Gap ks (qs.take i) f wd
 wlen:wd.length<=2*i+ex
structure Ren(f:Nat->Nat)(ks wd:List (Option Kn)):Prop where
 gap:Gap ks (List.range ks.length) f wd
 len:wd.length<=2*ks.length+1
def zx:Ru->List (Nat×Nat)
 |.link p q=>[(p,q)]
 |.ei _ A=>zx A
 |.bo _ A B=>zx A++zx B
 |.cu _ _ A B=>zx A++zx B
def jb:Ru->List (Nat×Nat)
 |.link _ _=>[]
 |.ei _ A=>jb A
 |.bo _ A B=>jb A++jb B
 |.cu p q A B=>(p,q)::(jb A++jb B)
def aQ:Ru->Nat
 |.link _ _=>1
 |.ei _ A=>aQ A+1
 |.bo _ A B=>aQ A+aQ B+1
 |.cu _ _ A B=>aQ A+aQ B+1
def qk:Ru->List Ru
 |.link _ _=>[]
 |.ei _ A=>[A]
 |.bo _ A B=>[A,B]
 |.cu _ _ A B=>[A,B]
def mi:Ru->List (Nat×Nat)
 |.link p q=>[(p,q)]
 |_=>[]
def mm:Ru->List (Nat×Nat)
 |.cu p q _ _=>[(p,q)]
 |_=>[]
theorem fh(A:Ru):zx A=mi A++(qk A).flatMap zx:=by cases A<;>simp[zx,mi,qk]
theorem iB(A:Ru):jb A=mm A++(qk A).flatMap jb:=by cases A<;>simp[jb,mm,qk]
theorem mU(A:Ru):((qk A).map aQ).sum+1=aQ A:=by cases A<;>simp[aQ,qk]
theorem pL(A:Ru):0<aQ A:=by cases A<;>simp[aQ]
theorem kg{A B:Ru}(h:B∈qk A):ji B<ji A:=by cases A<;>simp[qk] at h<;>(try rcases h with rfl|rfl)<;>(try subst h)<;>simp[ji]<;>omega
structure i6(R:Ru)(lk ct:List (Nat×Nat))(st:List Ru):Prop where
 pl:(lk++st.flatMap zx).Perm (zx R)
 pc:(ct++st.flatMap jb).Perm (jb R)
 sz:(st.map aQ).sum<=aQ R
 dp:∀A∈st,ji A<=ji R
theorem i6.start(R:Ru):i6 R [] [] [R]:=⟨by simp,by simp,by simp,λA J=>by simp at J;subst J;exact Al _⟩
theorem i6.step{A:Ru}{lk ct:List (Nat×Nat)}{st:List Ru}(h:i6 R lk ct (st++[A])):i6 R (lk++mi A) (ct++mm A) (st++qk A):=by
 have pm:∀{X U V W:List (Nat×Nat)},(X++U++(V++W)).Perm (X++(V++(U++W))):=λ{X U V W}=>by rw[AR];refine List.Perm.append_left X ?_;rw[<-AR,<-AR];exact List.Perm.append_right W List.perm_append_comm
 refine⟨?_,?_,?_,λB J=>?_⟩
 ·refine List.Perm.trans ?_ h.pl;rw[AB,AB];have:[A].flatMap zx=mi A++(qk A).flatMap zx:=by rw[<-fh];simp
  rw[this];exact pm
 ·refine List.Perm.trans ?_ h.pc;rw[AB,AB];have:[A].flatMap jb=mm A++(qk A).flatMap jb:=by rw[<-iB];simp
  rw[this];exact pm
 ·have:=h.sz;have:=mU A;simp at *;lia
 ·rcases Aq.mp J with J|J
  ·exact h.dp B (Ar _ J)
  ·have:=kg J;have:=h.dp A (Ag _ (Ai.mpr rfl));exact anb
theorem oG(l:List (Nat×Nat))(p:Nat×Nat):bT l++[prN p]=bT (l++[p]):=by unfold bT;rw[Av];rfl
theorem gQ(st:List Ru):Da.eqs (st.map aZ) []=decide (st=[]):=by cases st<;>rfl
theorem aH{L:qp}{n:Nat}:∀{st:List Ru},(∀A∈st,ji A<=n)->Paired (jj L n) (st.map qi) (st.map aZ)
 |[],_=>.nil
 |A::r,h=>.cons (cz (h A (Aj ..))) (aH λB J=>h B (Ad _ J))
theorem afa(a b:Nat):decide ((a:Int)=(b:Int))=decide (a=b):=by
 by_cases c:a=b
 ·rw[AD c];exact AD (by lia)
 ·rw[Au c];exact Au (by lia)
open Classical in
def k8(lk:List (Nat×Nat)):List Nat:=lk.flatMap λx=>[x.1,x.2]
theorem a8(a b:List (Nat×Nat)):k8 (a++b)=k8 a++k8 b:=by unfold k8;rw[AB]
theorem lM(x:Nat×Nat):k8 [x]=[x.1,x.2]:=by simp[k8]
theorem akf{f:Option Kn->Bool}{ks:List (Option Kn)}{p:Nat}{k:Option Kn}(h:ks[p]?=some k)(J:f k=true)(hi:p<i):p∈whr f ks i:=by unfold whr;refine AJ.mpr ⟨A8.mpr hi,?_⟩;simp only[h];exact J
theorem ip{α β:Type}{R:α->β->Prop}:∀{xs:List α} {ys:List β} {x:α} {y:β},Paired R xs ys->R x y->Paired R (xs++[x]) (ys++[y])
 |_,_,_,_,.nil,r=>.cons r .nil
 |_,_,_,_,.cons a t,r=>.cons a (ip t r)
theorem jV(m:Nat)(l:List Nat):uT (fb (.int (m:Int))) ((nY l).map fb)=decide (m∈l):=by
 induction l with
 |nil=>rfl
 |cons n r J=>
  have e:uT (fb (.int (m:Int))) ((nY (n::r)).map fb)=(gD (fb (.int (n:Int))) (fb (.int (m:Int)))||uT (fb (.int (m:Int))) ((nY r).map fb)):=rfl;rw[e,J];have U:gD (fb (.int (n:Int))) (fb (.int (m:Int)))=decide (n=m):=afa n m;rw[U];by_cases c:n=m
  ·subst c;simp
  ·by_cases d:m∈r
   ·simp[d]
   ·simp[c,d,AE c]
theorem kD(l:List Nat):(nY l).all fC=true:=by rw[BC];intro y J;obtain⟨n,_,rfl⟩:=AS.mp J;rfl
theorem lJ{ct:List (Nat×Nat)}{c:Nat×Nat}(h:c∈ct):c.1∈k8 ct/\c.2∈k8 ct:=by
 induction ct with
 |nil=>cases h
 |cons d r J=>
  have e:k8 (d::r)=[d.1,d.2]++k8 r:=by rw[<-lM,<-a8];rfl
  rw[e];rcases Am.mp h with rfl|h
  ·simp
  ·obtain⟨a,b⟩:=J h;exact⟨Ag _ a,Ag _ b⟩
def aci(x:Nat×Nat):Da:=.tup [.s (.int (x.1:Int)),.s (.int (x.2:Int))]
theorem aex(x y:Nat×Nat):Da.eq (aci x) (aci y)=decide (x=y):=by show(decide ((x.1:Int)=(y.1:Int))&&(decide ((x.2:Int)=(y.2:Int))&&true))=_;rw[DN,<-Bool.decide_and];exact Dz.mpr ⟨λ⟨h1,h2⟩=>Prod.ext (Cd.mp h1) (Cd.mp h2),λh=>by subst h;exact⟨rfl,rfl⟩⟩
theorem mG{L:qp}:∀l:List (Nat×Nat),Paired (jj L 1) (bT l) (l.map aci)
 |[]=>.nil
 |_::r=>.cons (aY (.cons (DY _) (.cons (DY _) .nil))) (mG r)
theorem iQ(c:Nat×Nat)(r:List (Nat×Nat)):k8 (c::r)=c.1::c.2::k8 r:=by
 have e:k8 (c::r)=[c.1,c.2]++k8 r:=by rw[<-lM,<-a8];rfl
 rw[e];rfl
theorem fg:∀{l:List (Nat×Nat)},(k8 l).Nodup->l.Nodup
 |[],_=>DM
 |c::r,h=>by rw[iQ] at h;have h1:=Az.mp h;have h2:=Az.mp h1.2;exact Az.mpr ⟨λJ=>h1.1 (Ad _ (lJ J).1),fg h2.2⟩
theorem wx:∀R:Ru,aQ R+1<=(qm R).length
 |.link _ _=>Al _
 |.ei r A=>by have:=wx A;show aQ A+1+1<=(r::qm A).length;rw[AN];exact ajd
 |.bo r A B=>by have:=wx A;have:=wx B;show aQ A+aQ B+1+1<=(r::(qm A++qm B)).length;rw[AN,Ac];lia
 |.cu _ _ A B=>by have:=wx A;have:=wx B;show aQ A+aQ B+1+1<=(qm A++qm B).length;rw[Ac];lia
theorem sR(ok:cw ks):OkO (ks.map some):=by intro p e i j h;rw[An] at h;obtain⟨k,J,U⟩:=Ao.mp h;cases U;exact ok p _ J
theorem ky(ks:List Kn):dU (ks.map some)=ja ks:=by show(ks.map some).map xX=ks.map mx;rw[BU];rfl
theorem KW.lf{p:Nat}{n:Str}(h:wd[p]?=some (some (.lf t n))):KW (dU wd) p (.leaf t n):=by show(dU wd)[p]?=_;rw[An,h];rfl
theorem KW.nd{p:Nat}{e:Bool}{l r:Wd}(h:wd[p]?=some (some (.nd e i j)))(J:KW (dU wd) i l)(U:KW (dU wd) j r):KW (dU wd) p (.node e l r):=
 ⟨i,j,by rw[An,h];rfl,J,U⟩
theorem xR{k:Kn}{n:Str}(h:mx k=.tup [.str (kL t),.str n]):k=.lf t n:=by
 cases k with
 |lf u m=>
  have h1:kL u=kL t:=by injection h with h;injection h with h _;injection h
  have h2:m=n:=by injection h with h;injection h with _ h;injection h with h _;injection h
  subst h2;cases u<;>cases t<;>first|rfl|(exfalso;revert h1;decide)
 |nd e i j=>injection h with h;injection h with _ h;injection h with _ h;cases h
theorem zM{k:Kn}{e:Bool}(h:mx k=.tup [.str (kN e),.int (i:Int),.int (j:Int)]):k=.nd e i j:=by
 cases k with
 |lf u m=>injection h with h;injection h with _ h;injection h with _ h;cases h
 |nd b J U=>
  have h1:kN b=kN e:=by injection h with h;injection h with h _;injection h
  have h2:((J:Nat):Int)=i:=by injection h with h;injection h with _ h;injection h with h _;injection h
  have h3:((U:Nat):Int)=j:=by injection h with h;injection h with _ h;injection h with _ h;injection h with h _;injection h
  have h2:=Cd.mp h2;have h3:=Cd.mp h3;subst h2 h3;cases b<;>cases e<;>first|rfl|(exfalso;revert h1;decide)
theorem adi{p:Nat}(h:(dU wd)[p]?=some y):∃o,wd[p]?=some o/\xX o=y:=by rw[An] at h;obtain⟨o,a,b⟩:=Ao.mp h;exact⟨o,a,b⟩
theorem KW.inv_lf{p:Nat}{n:Str}(h:KW (dU wd) p (.leaf t n)):wd[p]?=some (some (.lf t n)):=by
 obtain⟨o,a,b⟩:=adi (show(dU wd)[p]?=some (.tup [.str (kL t),.str n]) from h);cases o with
 |none=>cases b
 |some k=>rw[a,xR b]
theorem KW.inv_nd{p:Nat}{e:Bool}{l r:Wd}(h:KW (dU wd) p (.node e l r)):∃i j,wd[p]?=some (some (.nd e i j))/\KW (dU wd) i l/\KW (dU wd) j r:=by
 obtain⟨i,j,h1,h2,h3⟩:=h;obtain⟨o,a,b⟩:=adi h1;cases o with
 |none=>cases b
 |some k=>exact⟨i,j,by rw[a,zM b],h2,h3⟩
theorem KW.dep{wd:List (Option Kn)}(ok:OkO wd):∀{w:Wd} {p:Nat},KW (dU wd) p w->w.depth<=p+1
 |.leaf t n,p,_=>by show 1<=p+1;exact C7 _
 |.node e l r,p,h=>by obtain⟨i,j,a,J,U⟩:=h.inv_nd;have:=ok p e i j a;have:=KW.dep ok J;have:=KW.dep ok U;show max l.depth r.depth+1<=p+1;lia
theorem Ren.inv{f:Nat->Nat}(r:Ren f r4 wd){x:Nat}{k:Kn}(h:wd[x]?=some (some k)):∃p,p<r4.length/\x=f p/\∃o,r4[p]?=some o/\gy f o=some k:=by obtain⟨p,J,e⟩:=r.gap.only x k h;have J:=A8.mp J;have:=r.gap.at_ p (A8.mpr J) _ (Af J);rw[<-e,h] at this;exact⟨p,J,e,_,Af J,(AO this).symm⟩
theorem Ren.word{f:Nat->Nat}(r:Ren f r4 wd):∀{w:Wd} {p:Nat},KW (dU r4) p w->KW (dU wd) (f p) w
 |.leaf t n,p,h=>by have e:=h.inv_lf;exact KW.lf (r.gap.at_ p (A8.mpr (zw e)) _ e)
 |.node b l rr,p,h=>by obtain⟨i,j,e,J,U⟩:=h.inv_nd;exact KW.nd (r.gap.at_ p (A8.mpr (zw e)) _ e) (r.word J) (r.word U)
def iX(ks:List Kn)(l:List Nat):List Nat:=l.flatMap λp=>vi ks[p]?
theorem jR(ks:List Kn)(a b:List Nat):iX ks (a++b)=iX ks a++iX ks b:=by unfold iX;rw[AB]
theorem a6(ks:List Kn)(x:Nat)(l:List Nat):iX ks (x::l)=vi ks[x]?++iX ks l:=AK ..
theorem cT{E:List Nat}(h:E.Nodup)(hi:i∈E):E.Perm ([i]++E.filter λx=>!decide (x=i)):=by
 refine(A6 h ?_).mpr λx=>?_
 ·refine Az.mpr ⟨λz=>?_,h.filter _⟩;have:=(AJ.mp z).2;simp at this
 ·rw[Aq,Ai,AJ];constructor
  ·intro J;by_cases c:x=i
   ·exact .inl c
   ·exact .inr ⟨J,by simp[c]⟩
  ·rintro(rfl|J)
   ·exact hi
   ·exact J.1
theorem SR.part{E:List Nat}(h:SR ks R E):(qm R).Nodup->(iX ks (qm R)++(k8 (jb R)++E)).Perm (qm R):=by
 induction h with
 |@link p q t n g h1 h2 h3 C I=>
  intro _;have e:iX ks [p,q]=[]:=by rw[a6,a6,h2,h3];rfl
  show(iX ks [p,q]++([]++g)).Perm [p,q];rw[e,C4,C4];refine(A6 I (by simp;lia)).mpr λx=>?_;rw[C x];simp
 |@ei r i j A l g h1 T h3 C I h6 h7 ih=>
  intro nd;obtain⟨n1,n2⟩:=Az.mp nd;have ih:=ih n2;have o:l.Nodup:=(Ap.mp (Ap.mp (ih.nodup_iff.mpr n2)).2.1).2.1;have p1:=cT o h3;have p2:(l.filter λx=>!decide (x=i)).Perm _:=cT (o.filter _) (i:=j) (AJ.mpr ⟨C,by simp;exact AE I⟩);have p3:g.Perm ([r]++(l.filter λx=>!decide (x=i)).filter λx=>!decide (x=j)):=by
   refine(A6 h7 (Az.mpr ⟨λz=>n1 (T.sub _ (AJ.mp (AJ.mp z).1).1),(o.filter _).filter _⟩)).mpr λx=>?_;rw[h6 x,Am,AJ,AJ];simp only[Cs,decide_eq_false_iff_not];constructor
   ·rintro(⟨a,b,c⟩|rfl)
    ·exact .inr ⟨⟨a,b⟩,c⟩
    ·exact .inl rfl
   ·rintro(rfl|⟨⟨a,b⟩,c⟩)
    ·exact .inr rfl
    ·exact .inl ⟨a,b,c⟩
  show(iX ks (r::qm A)++(k8 (jb A)++g)).Perm ([r]++qm A);rw[a6,h1];show((([i]++[j])++iX ks (qm A))++(k8 (jb A)++g)).Perm _;refine Bs.mpr λa=>?_;have c1:=p1.count_eq a;have c2:=p2.count_eq a;have c3:=p3.count_eq a;have c4:=ih.count_eq a;simp only[Bc] at c1 c2 c3 c4 ⊢;lia
 |@bo r i j A B l EB g h1 T hB C I h6 h7 J U=>
  intro nd;obtain⟨n1,n2⟩:=Az.mp nd;obtain⟨m1,m2,m3⟩:=Ap.mp n2;have J:=J m1;have U:=U m2;have o:l.Nodup:=(Ap.mp (Ap.mp (J.nodup_iff.mpr m1)).2.1).2.1;have nB:EB.Nodup:=(Ap.mp (Ap.mp (U.nodup_iff.mpr m2)).2.1).2.1;have p1:=cT o C;have p2:=cT nB I;have p3:g.Perm ([r]++((l.filter λx=>!decide (x=i))++EB.filter λx=>!decide (x=j))):=by
   refine(A6 h7 (Az.mpr ⟨λz=>n1 ?_,Ap.mpr ⟨o.filter _,nB.filter _,λa ha b hb=>m3 a (T.sub _ (AJ.mp ha).1) b (hB.sub _ (AJ.mp hb).1)⟩⟩)).mpr λx=>?_
   ·rcases Aq.mp z with z|z
    ·exact Ar _ (T.sub _ (AJ.mp z).1)
    ·exact Ag _ (hB.sub _ (AJ.mp z).1)
   ·rw[h6 x,Am,Aq,AJ,AJ];simp only[Cs,decide_eq_false_iff_not];constructor
    ·rintro(a|a|rfl)
     ·exact .inr (.inl a)
     ·exact .inr (.inr a)
     ·exact .inl rfl
    ·rintro(rfl|a|a)
     ·exact .inr (.inr rfl)
     ·exact .inl a
     ·exact .inr (.inl a)
  show(iX ks (r::(qm A++qm B))++(k8 (jb A++jb B)++g)).Perm ([r]++(qm A++qm B));rw[a6,h1,jR,a8];show((([i]++[j])++(iX ks (qm A)++iX ks (qm B)))++((k8 (jb A)++k8 (jb B))++g)).Perm _;refine Bs.mpr λa=>?_;have c1:=p1.count_eq a;have c2:=p2.count_eq a;have c3:=p3.count_eq a;have c4:=J.count_eq a;have c5:=U.count_eq a;simp only[Bc] at c1 c2 c3 c4 c5 ⊢;lia
 |@cu p q A B l EB g w T hB h3 C I h6 h7 h8 J U=>
  intro n2;obtain⟨m1,m2,m3⟩:=Ap.mp (show(qm A++qm B).Nodup from n2);have J:=J m1;have U:=U m2;have o:l.Nodup:=(Ap.mp (Ap.mp (J.nodup_iff.mpr m1)).2.1).2.1;have nB:EB.Nodup:=(Ap.mp (Ap.mp (U.nodup_iff.mpr m2)).2.1).2.1;have p1:=cT o h3;have p2:=cT nB C;have p3:g.Perm ((l.filter λx=>!decide (x=p))++EB.filter λx=>!decide (x=q)):=by refine(A6 h8 (Ap.mpr ⟨o.filter _,nB.filter _,λa ha b hb=>m3 a (T.sub _ (AJ.mp ha).1) b (hB.sub _ (AJ.mp hb).1)⟩)).mpr λx=>?_;rw[h7 x,Aq,AJ,AJ];simp only[Cs,decide_eq_false_iff_not]
  show(iX ks (qm A++qm B)++(k8 ((p,q)::(jb A++jb B))++g)).Perm (qm A++qm B);rw[jR,iQ,a8];show((iX ks (qm A)++iX ks (qm B))++(([p]++[q]++(k8 (jb A)++k8 (jb B)))++g)).Perm _;refine Bs.mpr λa=>?_;have c1:=p1.count_eq a;have c2:=p2.count_eq a;have c3:=p3.count_eq a;have c4:=J.count_eq a;have c5:=U.count_eq a;simp only[Bc] at c1 c2 c3 c4 c5 ⊢;lia
theorem Ren.inj{f:Nat->Nat}(r:Ren f r4 wd){a b:Nat}(J:a<r4.length)(U:b<r4.length)(e:f a=f b):a=b:=r.gap.inj a (A8.mpr J) b (A8.mpr U) e
def lfB:Option Kn->Bool
 |some (.lf _ _)=>true
 |_=>false
theorem SR.leaves{E:List Nat}(h:SR ks R E):(k8 (zx R)).Perm ((qm R).filter λp=>lfB ks[p]?):=by
 induction h with
 |@link p q t n g h1 h2 h3 l o=>
  show(k8 [(p,q)]).Perm ([p,q].filter λp=>lfB ks[p]?);rw[lM,BL,BL,h2,h3];exact BM _
 |@ei r i j A C g h1 I h3 l o T h7 ih=>
  show(k8 (zx A)).Perm ((r::qm A).filter λp=>lfB ks[p]?);rw[BL,h1];exact ih
 |@bo r i j A B C EB g h1 I hB l o T h7 J U=>
  show(k8 (zx A++zx B)).Perm ((r::(qm A++qm B)).filter λp=>lfB ks[p]?);rw[BL,h1,a8];show(k8 (zx A)++k8 (zx B)).Perm ((qm A++qm B).filter λp=>lfB ks[p]?);rw[BK];exact J.append U
 |@cu p q A B C EB g w I hB h3 l o T h7 h8 J U=>
  show(k8 (zx A++zx B)).Perm ((qm A++qm B).filter λp=>lfB ks[p]?);rw[a8,BK];exact J.append U
theorem iI{f:Nat->Nat}:∀{l:List Nat},l.Nodup->(∀a∈l,∀b∈l,f a=f b->a=b)->(l.map f).Nodup
 |[],_,_=>DM
 |a::r,h,g=>by obtain⟨h1,h2⟩:=Az.mp h;rw[AG,Az];refine⟨λz=>?_,iI h2 λx U y j=>g x (Ad _ U) y (Ad _ j)⟩;obtain⟨b,J,e⟩:=AS.mp z;exact h1 (g b (Ad _ J) a (Aj ..) e▸J)
def oA(f:Nat->Nat):Ru->Ru
 |.link p q=>.link (min (f p) (f q)) (max (f p) (f q))
 |.ei r A=>.ei (f r) (oA f A)
 |.bo r A B=>.bo (f r) (oA f A) (oA f B)
 |.cu p q A B=>.cu (f p) (f q) (oA f A) (oA f B)
theorem dJ(f:Nat->Nat):∀R:Ru,(qm (oA f R)).Perm ((qm R).map f)
 |.link p q=>by
  show [min (f p) (f q),max (f p) (f q)].Perm [f p,f q];by_cases h:f p<=f q
  ·rw[Cn h,CY h]
  ·rw[Nat.min_eq_right (by lia),C3 (by lia)];exact List.Perm.swap _ _ _
 |.ei r A=>(dJ f A).cons _
 |.bo r A B=>by show(f r::(qm (oA f A)++qm (oA f B))).Perm (f r::(qm A++qm B).map f);rw[Av];exact((dJ f A).append (dJ f B)).cons _
 |.cu p q A B=>by show(qm (oA f A)++qm (oA f B)).Perm ((qm A++qm B).map f);rw[Av];exact(dJ f A).append (dJ f B)
theorem qB{x:Nat}{k:Kn}(h:(ks.map some)[x]?=some (some k)):ks[x]?=some k:=by rw[An] at h;obtain⟨J,e,z⟩:=Ao.mp h;cases z;exact e
theorem SR.ren{f:Nat->Nat}(r:Ren f (ks.map some) (ir.map some)){E:List Nat}(h:SR ks R E):SR ir (oA f R) (E.map f):=by
 have inj:∀{a b:Nat},a<ks.length->b<ks.length->f a=f b->a=b:=λha hb e=>r.inj (by rw[Ab];exact ha) (by rw[Ab];exact hb) e;have at_:∀{p:Nat} {k:Kn},ks[p]?=some k->(ir.map some)[f p]?=some (gy f (some k)):=λ{p k} e=>r.gap.at_ p (A8.mpr (by rw[Ab];exact zw e)) _ (by rw[An,e];rfl)
 have lf:∀{p:Nat} {t:Bool} {n:Str},ks[p]?=some (.lf t n)->ir[f p]?=some (.lf t n):=λe=>qB (at_ e);have nd:∀{p i j:Nat} {e:Bool},ks[p]?=some (.nd e i j)->ir[f p]?=some (.nd e (f i) (f j)):=λe=>qB (at_ e);have el:∀{A:Ru} {g:List Nat},SR ks A g->∀x∈g,x<ks.length:=λs x l=>s.lt x (s.sub x l);have nod:∀{A:Ru} {g:List Nat},SR ks A g->(g.map f).Nodup:=λs=>iI s.nod λa ha b hb=>inj (el s a ha) (el s b hb);have wd:∀{p:Nat} {w:Wd},cM ks p w->cM ir (f p) w:=λ{p w} hw=>by have:=r.word (w:=w) (p:=p) (by rw[ky];exact hw);rw[ky] at this;exact this
 have rm:∀{A:Ru} {g:List Nat} {i y:Nat},SR ks A g->i∈g->y∈g->y≠i->f y≠f i:=λs hi I ne z=>ne (inj (el s _ I) (el s _ hi) z)
 induction h with
 |@link p q t n E h1 h2 h3 J o=>
  have s:SR ks (.link p q) E:=.link h1 h2 h3 J o;have ne:f p≠f q:=λz=>by have:=inj (zw h2) (zw h3) z;lia
  have me:∀x,x∈E.map f↔x=f p\/x=f q:=λx=>by
   rw[AS];constructor
   ·rintro⟨y,I,rfl⟩;rcases (J y).mp I with rfl|rfl
    ·exact .inl rfl
    ·exact .inr rfl
   ·rintro(rfl|rfl)
    ·exact⟨p,(J p).mpr (.inl rfl),rfl⟩
    ·exact⟨q,(J q).mpr (.inr rfl),rfl⟩
  show SR ir (.link (min (f p) (f q)) (max (f p) (f q))) _;by_cases c:f p<=f q
  ·rw[Cn c,CY c];exact .link (by lia) (lf h2) (lf h3) me (nod s)
  ·rw[Nat.min_eq_right (by lia),C3 (by lia)];exact .link (by lia) (lf h3) (by rw[Bool.not_not];exact lf h2) (λx=>(me x).trans Or.comm) (nod s)
 |@ei r i j A g E h1 C h3 J o U T ih=>
  have s:SR ks (.ei r A) E:=.ei h1 C h3 J o U T;refine .ei (nd h1) ih (AS.mpr ⟨i,h3,rfl⟩) (AS.mpr ⟨j,J,rfl⟩) (rm C J h3 o) (λx=>?_) (nod s);rw[AS];constructor
  ·rintro⟨y,I,rfl⟩;rcases (U y).mp I with⟨a,b,c⟩|rfl
   ·exact .inl ⟨AS.mpr ⟨y,a,rfl⟩,rm C h3 a b,rm C J a c⟩
   ·exact .inr rfl
  ·rintro(⟨l,b,c⟩|rfl)
   ·obtain⟨y,a,rfl⟩:=AS.mp l;exact⟨y,(U y).mpr (.inl ⟨a,λz=>b (by rw[z]),λz=>c (by rw[z])⟩),rfl⟩
   ·exact⟨r,(U r).mpr (.inr rfl),rfl⟩
 |@bo r i j A B g EB E h1 C hB J o U T a1 a2=>
  have s:SR ks (.bo r A B) E:=.bo h1 C hB J o U T;refine .bo (nd h1) a1 a2 (AS.mpr ⟨i,J,rfl⟩) (AS.mpr ⟨j,o,rfl⟩) (λx=>?_) (nod s);rw[AS];constructor
  ·rintro⟨y,I,rfl⟩;rcases (U y).mp I with⟨a,b⟩|⟨a,b⟩|rfl
   ·exact .inl ⟨AS.mpr ⟨y,a,rfl⟩,rm C J a b⟩
   ·exact .inr (.inl ⟨AS.mpr ⟨y,a,rfl⟩,rm hB o a b⟩)
   ·exact .inr (.inr rfl)
  ·rintro(⟨l,b⟩|⟨l,b⟩|rfl)
   ·obtain⟨y,a,rfl⟩:=AS.mp l;exact⟨y,(U y).mpr (.inl ⟨a,λz=>b (by rw[z])⟩),rfl⟩
   ·obtain⟨y,a,rfl⟩:=AS.mp l;exact⟨y,(U y).mpr (.inr (.inl ⟨a,λz=>b (by rw[z])⟩)),rfl⟩
   ·exact⟨r,(U r).mpr (.inr (.inr rfl)),rfl⟩
 |@cu p q A B g EB E w C hB h3 J o U T h8 a1 a2=>
  have s:SR ks (.cu p q A B) E:=.cu C hB h3 J o U T h8;refine .cu a1 a2 (AS.mpr ⟨p,h3,rfl⟩) (AS.mpr ⟨q,J,rfl⟩) (wd o) (wd U) (λx=>?_) (nod s);rw[AS];constructor
  ·rintro⟨y,I,rfl⟩;rcases (T y).mp I with⟨a,b⟩|⟨a,b⟩
   ·exact .inl ⟨AS.mpr ⟨y,a,rfl⟩,rm C h3 a b⟩
   ·exact .inr ⟨AS.mpr ⟨y,a,rfl⟩,rm hB J a b⟩
  ·rintro(⟨l,b⟩|⟨l,b⟩)
   ·obtain⟨y,a,rfl⟩:=AS.mp l;exact⟨y,(T y).mpr (.inl ⟨a,λz=>b (by rw[z])⟩),rfl⟩
   ·obtain⟨y,a,rfl⟩:=AS.mp l;exact⟨y,(T y).mpr (.inr ⟨a,λz=>b (by rw[z])⟩),rfl⟩
theorem al1{f:Nat->Nat}(ok:cw ks)(r:Ren f (ks.map some) (ir.map some)):cw ir:=λp k e=>by
 have U:(ir.map some)[p]?=some (some k):=by rw[An,e];rfl
 obtain⟨y,l,rfl,o,g,J⟩:=r.inv U;cases k with
 |nd b i j=>exact r.gap.ok _ b i j U
 |lf t n=>
  cases o with
  |none=>cases J
  |some o=>
   cases o with
   |nd b i j=>cases J
   |lf C I=>
    cases J;exact ok y _ (qB g)
structure TrO(ks:List Kn)(R:Ru)(E:List Nat):Prop where
 ok:cw ks
 sr:SR ks R E
 nd:(qm R).Nodup
 len:ks.length<=96
theorem TrO.ren{f:Nat->Nat}{E:List Nat}(ok:cw ks)(J:SR ks R E)(tp:(qm R).Perm (List.range ks.length))(o:ks.length<=96)(r:Ren f (ks.map some) (ir.map some))(l:ir.length=ks.length):TrO ir (oA f R) (E.map f)/\(qm (oA f R)).Perm (List.range ir.length):=by have S:=J.ren r;have nd:(qm (oA f R)).Nodup:=(dJ f R).nodup_iff.mpr (iI (tp.nodup_iff.mpr BW) λa g b j e=>r.inj (by rw[Ab];exact J.lt a g) (by rw[Ab];exact J.lt b j) e);refine⟨⟨al1 ok r,S,nd,by lia⟩,(A6 nd BW).mpr λx=>⟨λh=>A8.mpr (S.lt x h),λh=>?_⟩⟩;have h:=A8.mp h;obtain⟨y,U,e⟩:=r.gap.only x ir[x] (by rw[An,Af h];rfl);rw[Ab] at U;exact(dJ f R).mem_iff.mpr (AS.mpr ⟨y,tp.mem_iff.mpr U,e.symm⟩)
def aT:Ru->List Nat
 |.link p q=>[p,q]
 |.ei r _=>[r]
 |.bo r _ _=>[r]
 |.cu _ _ _ _=>[]
theorem w4(A:Ru):qm A=aT A++(qk A).flatMap qm:=by cases A<;>simp[qm,aT,qk]
def xn:Ru->List Ru
 |.link p q=>[.link p q]
 |.ei r A=>.ei r A::xn A
 |.bo r A B=>.bo r A B::(xn A++xn B)
 |.cu p q A B=>.cu p q A B::(xn A++xn B)
theorem xl(A:Ru):xn A=A::(qk A).flatMap xn:=by cases A<;>simp[xn,qk]
theorem be:∀A:Ru,(xn A).length=aQ A
 |.link _ _=>rfl
 |.ei _ A=>by show(xn A).length+1=_;rw[be A];rfl
 |.bo _ A B=>by show(xn A++xn B).length+1=_;rw[Ac,be A,be B];rfl
 |.cu _ _ A B=>by show(xn A++xn B).length+1=_;rw[Ac,be A,be B];rfl
def ju(ks:List Kn):Ru->List (List Nat)
 |.link _ _=>[]
 |.ei r _=>[vi ks[r]?]
 |.bo r _ _=>(vi ks[r]?).map λx=>[x]
 |.cu p q _ _=>[[p],[q]]
def am5(ks:List Kn)(B:Ru)(t:List Nat):Prop:=∃J,SR ks B J/\∀x∈t,x∈J
theorem SR.arms{E:List Nat}(h:SR ks R E):Paired (am5 ks) (qk R) (ju ks R):=by
 cases h with
 |link=>exact .nil
 |@ei r i j A U _ h1 g h3 l=>
  show Paired _ [A] [vi ks[r]?];rw[h1];refine .cons ⟨U,g,λx J=>?_⟩ .nil;have J:x∈[i,j]:=J;rcases Am.mp J with rfl|J
  ·exact h3
  ·rw[Ai.mp J];exact l
 |@bo r i j A B U o _ h1 g t l C=>
  show Paired _ [A,B] ((vi ks[r]?).map λx=>[x]);rw[h1];exact .cons ⟨U,g,λx J=>by rw[Ai.mp J];exact l⟩ (.cons ⟨o,t,λx J=>by rw[Ai.mp J];exact C⟩ .nil)
 |@cu p q A B U o _ w g t h3 l=>
  exact .cons ⟨U,g,λx J=>by rw[Ai.mp J];exact h3⟩ (.cons ⟨o,t,λx J=>by rw[Ai.mp J];exact l⟩ .nil)
end L3
namespace TS
open PySem PyProof.Rows PySem.W
section
variable {w:World}
end
end TS
namespace L2
open PySem PySem.Spec PyProof.Rows
end L2
namespace L3
open PySem L2
open PySem L2 Words
theorem agj(l:List Nat):nY l=(l.map λn:Nat=>(n:Int)).map Y.int:=by unfold nY;rw[BU];rfl
theorem bG{L:qp}:∀xs:List Int,Paired (jj L 0) (xs.map Y.int) (xs.map λx=>Da.s (.int x))
 |[]=>.nil
 |_::r=>.cons ⟨rfl,rfl⟩ (bG r)
theorem vF:∀l:List (Nat×Nat),Da.eqs (l.map aci) (l.map aci)=true
 |[]=>rfl
 |x::r=>by rw[AG,Da.eqs,aex,vF r,AD rfl];rfl
theorem KW.ex{p:Nat}{w:Wd}(h:KW (dU wd) p w):∃k,wd[p]?=some (some k):=by cases w with|leaf t n=>exact⟨_,h.inv_lf⟩|node e l r=>obtain⟨i,j,a,_⟩:=h.inv_nd;exact⟨_,a⟩
def rsK(ks:List Kn)(T:List Nat):List (Option Kn):=(List.range ks.length).map λp=>if p∈T then ks[p]? else none
theorem jX(ks:List Kn)(T:List Nat):(rsK ks T).length=ks.length:=by unfold rsK;rw[Ab,Bw]
theorem aby{T:List Nat}{p:Nat}(J:p<ks.length):(rsK ks T)[p]?=some (if p∈T then ks[p]? else none):=by unfold rsK;rw[An,C5 J];rfl
theorem akp{T:List Nat}{p:Nat}{k:Kn}(U:p∈T)(J:ks[p]?=some k):(rsK ks T)[p]?=some (some k):=by rw[aby (zw J),AC U,J]
theorem agn{T:List Nat}{p:Nat}{k:Kn}(h:(rsK ks T)[p]?=some (some k)):p∈T/\ks[p]?=some k:=by
 have J:p<ks.length:=by rw[<-jX ks T];exact zw h
 rw[aby J] at h;by_cases c:p∈T
 ·rw[AC c] at h;exact⟨c,AO h⟩
 ·rw[AF c] at h;cases h
section
variable {E:List Nat}
theorem SR.rls(h:SR ks R E):∀B∈xn R,(∃EB,SR ks B EB)/\(∀x∈qm B,x∈qm R)/\(qm B).Sublist (qm R)/\ji B<=ji R/\(∀c∈jb B,c∈jb R):=by
 induction h with
 |link h1 h2 h3 g l=>
  intro B U;cases Ai.mp U;exact⟨⟨_,.link h1 h2 h3 g l⟩,λ_ h=>h,CT _,Al _,λ_ h=>h⟩
 |@ei r i j A EA E h1 I h3 g l T h7 ih=>
  intro B U;rcases Am.mp U with rfl|U
  ·exact⟨⟨_,.ei h1 I h3 g l T h7⟩,λ_ h=>h,CT _,Al _,λ_ h=>h⟩
  ·obtain⟨a,b,c,d,e⟩:=ih B U;exact⟨a,λx h=>Ad _ (b x h),c.cons _,BD d,e⟩
 |@bo r i j A B EA EB E h1 I U g l T h7 o t=>
  intro C J;rcases Am.mp J with rfl|J
  ·exact⟨⟨_,.bo h1 I U g l T h7⟩,λ_ h=>h,CT _,Al _,λ_ h=>h⟩
  ·rcases Aq.mp J with J|J
   ·obtain⟨a,b,c,d,e⟩:=o C J;exact⟨a,λx h=>Ad _ (Ar _ (b x h)),(c.trans (CF ..)).cons _,by show _<=max (ji A) (ji B)+1;lia,λx h=>Ar _ (e x h)⟩
   ·obtain⟨a,b,c,d,e⟩:=t C J;exact⟨a,λx h=>Ad _ (Ag _ (b x h)),(c.trans (B3 ..)).cons _,by show _<=max (ji A) (ji B)+1;lia,λx h=>Ag _ (e x h)⟩
 |@cu p q A B EA EB E w I U h3 g l T h7 h8 o t=>
  intro C J;rcases Am.mp J with rfl|J
  ·exact⟨⟨_,.cu I U h3 g l T h7 h8⟩,λ_ h=>h,CT _,Al _,λ_ h=>h⟩
  ·rcases Aq.mp J with J|J
   ·obtain⟨a,b,c,d,e⟩:=o C J;exact⟨a,λx h=>Ar _ (b x h),c.trans (CF ..),by show _<=max (ji A) (ji B)+1;lia,λx h=>Ad _ (Ar _ (e x h))⟩
   ·obtain⟨a,b,c,d,e⟩:=t C J;exact⟨a,λx h=>Ag _ (b x h),c.trans (B3 ..),by show _<=max (ji A) (ji B)+1;lia,λx h=>Ad _ (Ag _ (e x h))⟩
theorem bA:∀{R A B:Ru},A∈xn R->B∈xn A->B∈xn R
 |.link p q,A,B,h1,h2=>by cases Ai.mp h1;exact h2
 |.ei r C,A,B,h1,h2=>by
  rcases Am.mp h1 with rfl|h1
  ·exact h2
  ·exact Ad _ (bA h1 h2)
 |.bo r C D,A,B,h1,h2=>by
  rcases Am.mp h1 with rfl|h1
  ·exact h2
  ·rcases Aq.mp h1 with h1|h1
   ·exact Ad _ (Ar _ (bA h1 h2))
   ·exact Ad _ (Ag _ (bA h1 h2))
 |.cu p q C D,A,B,h1,h2=>by
  rcases Am.mp h1 with rfl|h1
  ·exact h2
  ·rcases Aq.mp h1 with h1|h1
   ·exact Ad _ (Ar _ (bA h1 h2))
   ·exact Ad _ (Ag _ (bA h1 h2))
theorem gW(A:Ru):A∈xn A:=by rw[xl];exact Aj ..
theorem afd{A B:Ru}(h:B∈qk A):B∈xn A:=by rw[xl];exact Ad _ (AX.mpr ⟨B,h,gW B⟩)
end
open PySem L2 PyProof.Rows
end L3
namespace L2
open PySem PySem.Spec PyProof.Rows
theorem zS(neg:Bool)(p:X.A.units+128<cLine):kj X (compareOp (if neg then .NotIn else .In)) (λx y H Q=>∃a kvs k,y=.ref a/\H a=some (.dK kvs)/\x=kV k/\Q (.bl (if neg then !(ax kvs k).isSome else(ax kvs k).isSome)) H):=by intro U s r H x y v u Q I g j ⟨a,kvs,k,l,e,ex,q⟩;subst ex l;cases (show u=Value.ref a from j);cases neg with|false=>exact ash (by omega) I (o5.k e) g λo J=>⟨.bl _,H,J,rfl,q⟩|true=>exact agv (by omega) I (o5.k e) g λo J=>⟨.bl _,H,J,rfl,q⟩
theorem rF:jx X (.builtin "len") (λxs H Q=>∃a kvs,xs=[.ref a]/\H a=some (.dK kvs)/\Q (.int kvs.length) H):=by intro J s j H xs l Q I r ⟨a,kvs,ex,e,q⟩;subst ex;obtain⟨u,rfl,U⟩:=iq r;cases U;exact aml I (.inl e) λt o g=>⟨.int _,H,g,⟨t,rfl⟩,q⟩
def ae8(w:World)(r:Str×Tok×Int×Tok):DictEntry:=⟨hashStr w r.1,.str r.1 r.2.1,.int r.2.2.1 r.2.2.2⟩
theorem ajf{K:Ae}{P:Program}{w:World}{c:Addr}{g:Nat}(rows:List (Str×Tok×Int×Tok))(l:K.lookup c=some ⟨.type "dict",none,.dict (rows.map (ae8 w)).toArray g,#[]⟩)(hs:(c==sysModules)=false)(hz:rows.length<=1000)(nd:(rows.map λr=>(Sum.inr r.1:jg)).Nodup):
 KD K P w c (rows.map λr=>(Sum.inr r.1,.int r.2.2.1)):=by
 refine⟨hs,by rw[Ab];exact small hz,λh X=>⟨rows.map λr=>(Sum.inr r.1,.int r.2.2.1 r.2.2.2),?_,_,_,g,X c _ l,⟨rfl,rfl,rfl⟩,rfl,?_,?_,?_⟩⟩
 ·unfold KV;clear l hz nd
  induction rows with|nil=>exact .nil|cons r t J=>exact .cons ⟨rfl,_,rfl⟩ J
 ·intro e j;have U:e∈rows.map (ae8 w):=by simpa using j
  obtain⟨r,_,rfl⟩:=AS.mp U;exact⟨Sum.inr r.1,iT r.1 r.2.1,rfl⟩
 ·show Pairs _ (rows.map (ae8 w)).toArray.toList _;rw[List.toList_toArray];clear l hz nd
  induction rows with|nil=>exact .nil|cons r t J=>exact .cons (iT r.1 r.2.1) rfl J
 ·rw[BU];exact nd
end L2
namespace L3
open PySem L2
theorem yJ{xs:List (jg×V)}(p:Paired (λ(p:jg×Y) (q:jg×V)=>p.1=q.1/\RV G H p.2 q.2) kvs xs)(k:jg):(ax xs k).isSome=(ko kvs k).isSome:=by
 unfold ax ko;rw[B6,B6]
 induction p with
 |nil=>rfl
 |@cons a b _ _ r t J=>
  rw[Bg,Bg,r.1];cases decide (b.1=k) with|true=>rfl|false=>exact J
def qN(neg:Bool)(x y:Y)(L:qp)(Q:YK):Prop:=match y,aft x with
 |.ref a,some k=>pi L a λkvs=>Q (.bl (nb neg (ko kvs k).isSome)) L
 |_,_=>False
theorem zX(neg:Bool)(l:X.A.units+128<cLine):kj X (compareOp (if neg then .NotIn else .In)) (eV X.g3 (qN neg)):=EF (zS neg l) λx y H Q I T L Q3 o p j z k=>by
 unfold qN at z;split at z
 ·rename_i a J r;obtain⟨U,e,z⟩:=eF z;obtain⟨g,t,C⟩:=j a _ e;refine⟨a,g,J,p,t,mH r o,?_⟩;have:(if neg=true then !(ax g J).isSome else(ax g J).isSome)=nb neg (ko U J).isSome:=by rw[yJ C];cases neg<;>simp[nb]
  rw[this];exact k _ H _ L (DP _) j (by rfl) z
 ·exact z.elim
theorem anp(J:X.A.units+128<cLine):kj X (compareOp .In) (eV X.g3 (qN false)):=zX false J
theorem abu(J:X.A.units+128<cLine):kj X (compareOp .NotIn) (eV X.g3 (qN true)):=zX true J
def aa8(xs:List Y)(L:qp)(Q:YK):Prop:=match xs with
 |[.ref a]=>pi L a λkvs=>Q (.int kvs.length) L
 |_=>False
theorem ake :jx X (.builtin "len") (upL X.g3 aa8):=EG rF λr H Q t L C U J z k=>by
 unfold aa8 at z;split at z
 ·rename_i a;obtain⟨u,rfl,g⟩:=U.inv1;obtain⟨j,e,z⟩:=eF z;obtain⟨l,o,p⟩:=J a _ e;cases (show u=V.ref a from g);refine⟨a,l,rfl,o,?_⟩;rw[<-qV p];exact k _ H _ L (DP _) J (by rfl) z
 ·exact z.elim
def uY(xs:List Y)(L:qp)(Q:YK):Prop:=match xs with
 |[.ref a]=>dQ L a λys=>Q (.tup ys) L
 |_=>False
theorem agk :jx X (.type "tuple") (upL X.g3 uY):=EG mn λC H Q I L T j U z k=>by
 unfold uY at z;split at z
 ·rename_i a;obtain⟨u,rfl,o⟩:=j.inv1;obtain⟨p,e,z⟩:=vd z;obtain⟨g,t,r⟩:=U a _ e;cases (show u=V.ref a from o);exact⟨a,g,rfl,.inl ⟨.inl (.inl t),λl J=>k _ _ (.tup p) L (DQ J) (U.skip J) ⟨l,g,rfl,.inl (.inl zg),r.ts (DQ J)⟩ z⟩⟩
 ·exact z.elim
structure ao0(G:G3)(mg:Str->Option Value)(x:Str)(kvs:List (Str×Int)):Prop where
 ex:∃a,mg x=some (.ref a)/\KD G.K G.P G.w a (kvs.map λp=>(Sum.inr p.1,V.int p.2))
theorem qO{kvs:List (Str×Int)}{k:Str}{x:Int}(h:kvs.lookup k=some x):ax (kvs.map λp=>((Sum.inr p.1:jg),V.int p.2)) (Sum.inr k)=some (V.int x):=by
 induction kvs with
 |nil=>simp at h
 |cons p r J=>
  obtain⟨a,b⟩:=p;unfold ax;rw[AG,Bg];rw[Bj] at h;by_cases c:k=a
  ·subst c;simp at h;simp[h]
  ·have c1:(k==a)=false:=by simpa using c
   rw[c1] at h;have c2:decide ((Sum.inr a:jg)=Sum.inr k)=false:=Au λz=>c (El z).symm;simp only[c2];exact J h
def pZ(kvs:List (Str×Int))(ti:xz)(τ:jq)(L:qp)(Q:YK):Prop:=ti τ L λy L1=>match y with
 |.str k=>vP L1 (λi L=>Q (.int i) L) (kvs.lookup k)
 |_=>False
theorem m8{kvs:List (Str×Int)}{i:Expr}(t:ao0 X.g3 X.mg x kvs)(l:Gl X x)(hi:QE X i ti)(o:jY i)(hd:Ed x:=by decide):QE X (.Subscript (.Name x p) i pos) (pZ kvs ti):=by
 obtain⟨a,r,C⟩:=t.ex;refine DR (ah9 aod (vS l r (show zv (.ref a) (.ref a) from rfl) hd) hi o) λσ H Q I L Q3 T rl z k=>?_;refine⟨I,L,_,T,rl,z,λv H1 y L1 t1 J U g=>?_⟩;split at g
 ·rename_i kk;obtain⟨j,ej,q⟩:=jS g;cases (show v=V.str kk from U);exact⟨_,_,.inr C,qO ej,k _ H1 _ L1 t1 J (by rfl) q⟩
 ·exact g.elim
open PySem L2 Words
def wg:List (Str×Int):=[("link",2),("either",1),("both",1),("cut",2)]
def sM:kn:=(zu (gq ar (qe (tU mo (qa 0) (aB (jp 1)) (aB (zh kw (jp 1) (pZ wg (jr 0 0))))) zb)))
def y9:kn:=(zu (gq ar (qe (tU mo (qa 0) (aB (zh kw (jp 1) (pZ wg (jr 0 0)))) aE) zb)))
def tT(J:jz)(p1:jz):kn:=(qo (zn (x0 (vn (qa 0))) (qh 1))
 (qo (ay (vv (za J (vn (qa 0)))) (qh 2) (jy (ak aW (qa 1) (qe (za p1 (vn (qa 2))) zb))))
 (zu (qa 1))))
def xN(J:jz):kn:=(zu (yIf (f9 (jr 0 0) (cj "cut")) (x0 zb) (za J (vn (qa 0)))))
def tZ(J:jz):kn:=(qo (jl (f9 (jr 1 0) (cj "link")) (zu (x0 zb)) zq)
 (qo (jl (f9 (jr 1 0) (cj "cut")) (zu (x0 (qe (x0 (vn (jr 1 1))) (qe (x0 (vn (jr 1 2))) zb)))) zq)
 (qo (zn (za J (qe (zh af (qa 0) (jr 1 1)) zb)) (qh 2))
 (qo (jl (f9 (jr 1 0) (cj "either")) (zu (x0 (vn (qa 2)))) zq)
 (zu (uz 1 (vv (qa 2)) (qh 3) agp (x0 (vn (qa 3)))))))))
def plR:Ru->List Nat
 |.link p q=>[p,q]
 |.ei r _=>[r]
 |.bo r _ _=>[r]
 |.cu p q _ _=>[p,q]
def ou:jz:=λys L Q=>∃A:Ru,ys=[qi A]/\∀p,L p=none->Q (.ref p) (qf L p (.lst (nY (plR A))))
theorem afj:∀ys L Q,ou ys L Q->vg sM 1 ys L Q:=by
 rintro ys L Q ⟨A,rfl,q⟩;cases A with
 |link a b=>exact⟨λz=>absurd z.1 (by show ¬1=0;decide),λp J=>xg (q p J)⟩
 |ei r A=>exact⟨λz=>absurd z.1 (by show ¬1=0;decide),λp J=>xg (q p J)⟩
 |bo r A B=>exact⟨λz=>absurd z.1 (by show ¬1=0;decide),λp J=>xg (q p J)⟩
 |cu a b A B=>exact⟨λz=>absurd z.1 (by show ¬1=0;decide),λp J=>xg (q p J)⟩
def wq:jz:=λys L Q=>∃A:Ru,ys=[qi A]/\∀p,L p=none->Q (.ref p) (qf L p (.lst ((qk A).map qi)))
theorem xM:∀ys L Q,wq ys L Q->vg y9 1 ys L Q:=by
 rintro ys L Q ⟨A,rfl,q⟩;cases A with
 |link a b=>exact⟨λz=>absurd z.1 (by show ¬3=0;decide),λp J=>xg (q p J)⟩
 |ei r A=>exact⟨λz=>absurd z.1 (by show ¬2=0;decide),λp J=>xg (q p J)⟩
 |bo r A B=>exact⟨λz=>absurd z.1 (by show ¬2=0;decide),λp J=>xg (q p J)⟩
 |cu a b A B=>exact⟨λz=>absurd z.1 (by show ¬3=0;decide),λp J=>xg (q p J)⟩
def iG:jz:=λys L Q=>∃A:Ru,ys=[qi A]/\∀p,L p=none->Q (.ref p) (qf L p (.lst (nY (aT A))))
theorem xV:∀ys L Q,iG ys L Q->vg (xN ou) 1 ys L Q:=by
 rintro ys L Q ⟨A,rfl,q⟩;cases A with
 |link a b=>exact⟨_,rfl,λp J=>xg (q p J)⟩
 |ei r A=>exact⟨_,rfl,λp J=>xg (q p J)⟩
 |bo r A B=>exact⟨_,rfl,λp J=>xg (q p J)⟩
 |cu a b A B=>exactλp J=>xg (q p J)
def bJ(n:Nat):jz:=λys L Q=>∃A:Ru,ys=[qi A]/\ji A<=n/\aQ A<=1000/\∀p,L p=none->Q (.ref p) (qf L p (.lst ((xn A).map qi)))
theorem gK(A:Ru):0<ji A:=by cases A<;>simp[ji]
theorem adn:∀ys L Q,¬bJ 0 ys L Q:=by rintro ys L Q ⟨A,_,h,_⟩;have:=gK A;lia
theorem pF{A B:Ru}(h:B∈qk A):aQ B<aQ A:=by
 cases A with
 |link p q=>cases h
 |ei r C=>cases Ai.mp h;exact Cy _
 |bo r C D=>
  have:aQ (.bo r C D)=aQ C+aQ D+1:=rfl;rcases Am.mp h with rfl|h
  ·lia
  ·cases Ai.mp h;lia
 |cu p q C D=>
  have:aQ (.cu p q C D)=aQ C+aQ D+1:=rfl;rcases Am.mp h with rfl|h
  ·lia
  ·cases Ai.mp h;lia
theorem tR(n:Nat):∀ys L Q,bJ (n+1) ys L Q->vg (tT wq (bJ n)) 3 ys L Q:=by
 rintro ys L Q ⟨A,rfl,hd,hz,q⟩;have big:=bg_;intro l t;refine⟨A,rfl,λj J=>?_⟩;have o:l≠j:=km q8 J;have T:L j=none:=jk J;have s0:qg L (qf (qf L l (.lst [qi A])) j (.lst ((qk A).map qi))):=(By t).trans (By J);have sz:∀i,(((qk A).take i).flatMap xn).length<=1000:=λi=>by
  have e:=Bv List.length (xl A);rw[be] at e;have h2:(((qk A).take i).flatMap xn).length+(((qk A).drop i).flatMap xn).length=((qk A).flatMap xn).length:=by rw[<-Ac,<-AB,A5]
  simp only[AN] at e;lia
 refine xc q8 λkeep kp=>xi ⟨λi r U=>∃c2,r=[some (qi A),some (.ref l),c2]/\qg L U/\U l=some (.lst ((A::((qk A).take i).flatMap xn).map qi))/\U j=some (.lst ((qk A).map qi)),⟨_,rfl,s0,(qb o).trans q8,q8⟩,?_,?_,?_⟩
 ·rintro i r U ⟨c2,rfl,s,g,g2⟩;exact kp U (by rw[g2,q8])
 ·rintro i y r U hy ⟨c2,rfl,s,g,g2⟩;rw[An] at hy;obtain⟨B,eB,rfl⟩:=Ao.mp hy;have mB:=Aw eB;have et:(qk A).take (i+1)=(qk A).take i++[B]:=by rw[Bd,eB];rfl
  have zB:=pF mB;have dB:=kg mB;have zi:=sz i;refine qc g ⟨B,rfl,by lia,by lia,λp C=>?_⟩;have np:l≠p:=km g C;have I:j≠p:=km g2 C;refine qx ((qb np).trans g) (qx q8 ⟨?_,?_⟩)
  ·rw[Ab,Ab,AN,be];exact Bo (big _ (by lia))
  ·refine⟨_,DO _,_,rfl,(s.trans (By C)).upd t,?_,(qb (AE o)).trans ((qb I).trans g2)⟩;rw[q8,et,AB,CU,<-Av];rfl
 ·rintro r U ⟨c2,rfl,s,g,_⟩;rw[Ab,Ba,<-xl] at g;exact aI (EL s g) (q l t)
def zU(ks:List Kn)(wd:List (Option Kn))(A:Ru):Prop:=∀x∈qm A,∀k,ks[x]?=some k->wd[x]?=some (some k)
theorem zU.arm{A B:Ru}(h:zU ks wd A)(J:B∈qk A):zU ks wd B:=λx U=>h x (by rw[w4];exact Ag _ (AX.mpr ⟨B,J,U⟩))
def o8:jz:=λys L Q=>∃a,∃wd:List (Option Kn),∃ks:List Kn,∃A:Ru,∃E:List Nat,ys=[.ref a,qi A]/\L a=some (.lst (dU wd))/\SR ks A E/\zU ks wd A/\
 ∀p J L',qg L L'->L p=none->L' p=some (.lst (J.map Y.ref))->Paired (λr t=>L r=none/\L' r=some (.lst (nY t))) J (ju ks A)->Q (.ref p) L'
theorem afk:∀ys L Q,o8 ys L Q->vg (tZ kU) 3 ys L Q:=by
 rintro ys L Q ⟨a,wd,ks,A,E,rfl,ha,sr,ag,q⟩;cases sr with
 |link=>exactλp hp=>xg (q p [] _ (By hp) hp q8 .nil)
 |@cu u v A B EA EB _ w hA hB h3 h4=>
  intro J h1 g h2 I h3;have U:J≠g:=km q8 h2;have a1:J≠I:=km ((qb U).trans q8) h3;have a2:g≠I:=km q8 h3;exact xg (q I [J,g] _ (((By h1).trans (By h2)).trans (By h3)) (jk (jk h3)) q8 (.cons ⟨h1,(qb a1).trans ((qb U).trans q8)⟩ (.cons ⟨jk h2,(qb a2).trans q8⟩ .nil)))
 |@ei r i j A EA _ h1=>
  refine qc ha (ql (jt (ag r (Aj ..) _ h1)) ⟨some (.nd true i j),rfl,λJ g1=>?_⟩);intro g g2;have U:J≠g:=km q8 g2;refine xg (q g [J] _ ((By g1).trans (By g2)) (jk g2) q8 ?_);show Paired _ [J] [vi ks[r]?];rw[h1];exact .cons ⟨g1,(qb U).trans q8⟩ .nil
 |@bo r i j A B EA EB _ h1=>
  refine qc ha (ql (jt (ag r (Aj ..) _ h1)) ⟨some (.nd false i j),rfl,λJ g1=>?_⟩);have s1:qg L (qf L J (.lst (nY [i,j]))):=By g1;refine xc q8 λkeep kp=>adl ⟨show 2<sizeLine by decide,λm T C=>∃l,T=l.map Y.ref/\qg (qf L J (.lst (nY [i,j]))) C/\Paired (λr t=>L r=none/\C r=some (.lst (nY t))) l (([i,j].map λx=>[x]).take m),⟨[],rfl,DO _,.nil⟩,?_,?_,?_⟩
  ·rintro m T C ⟨l,_,s,_⟩;exact kp C (by rw[q8];exact s _ _ q8)
  ·rintro m y T C hy ⟨l,rfl,s,pr⟩;obtain⟨x,ex,rfl⟩:=dY hy;have ex:[i,j][m]?=some x:=ex;intro g g2;refine⟨_,DO _,l++[g],by rw[Av];rfl,s.trans (By g2),?_⟩;have et:([i,j].map λx=>[x]).take (m+1)=([i,j].map λx=>[x]).take m++[[x]]:=by rw[Bd,An,ex];rfl
   rw[et];exact ip (DS pr λb t o=>⟨o.1,(qb (km o.2 g2)).trans o.2⟩) ⟨s1.none (s.none g2),q8⟩
  ·rintro T C ⟨l,rfl,s,pr⟩ I g3;refine xg (q I l _ ((s1.trans s).trans (By g3)) (s1.none (s.none g3)) q8 ?_);show Paired _ l ((vi ks[r]?).map λx=>[x]);rw[h1];exact DS pr λb t o=>⟨o.1,(qb (km o.2 g3)).trans o.2⟩
theorem i4{A:Ru}:∀t∈ju ks A,t.length<=2:=by
 intro t J;cases A with
 |link p q=>cases J
 |ei r A=>rw[Ai.mp J];exact xZ _
 |bo r A B=>obtain⟨x,_,rfl⟩:=AS.mp J;exact BV 1
 |cu p q A B=>
  rcases Am.mp J with rfl|J
  ·exact BV 1
  ·rw[Ai.mp J];exact BV 1
theorem vt{A B:Ru}(h:B∈qk A):(qm B).Sublist (qm A):=by rw[w4 A];refine List.Sublist.trans ?_ (B3 ..);obtain⟨a,b,e⟩:=CI h;rw[e,AB,AK];exact(CF ..).trans (B3 ..)
theorem abr{T:List Nat}(U:∀x∈T,x<ks.length){x:Nat}:x∈lh (rsK ks T)↔x∈T:=by
 constructor
 ·intro h;obtain⟨_,k,e,g⟩:=ag3 h;cases k with
  |none=>cases g
  |some k=>exact(agn e).1
 ·intro h;have J:=U x h;exact akf (akp h (Af J)) rfl (by rw[jX];exact J)
theorem zL{E:List Nat}(T:TrO ks R E):(lh (rsK ks (qm R))).length=(qm R).length:=by refine((A6 ?_ T.nd).mpr λx=>abr λx J=>T.sr.lt x J).length_eq;unfold lh whr;exact BW.filter _
theorem acs{k:jg}(h:(ko kvs k).isSome=false):ef kvs k y=kvs++[(k,y)]:=by unfold ef;rw[lr,h,AF AA]
structure qH(A:Ru)(tk:List Nat)(st:List Ru):Prop where
 pt:(tk++st.flatMap qm).Perm (qm A)
 sz:(st.map aQ).sum<=aQ A
 dp:∀B∈st,ji B<=ji A
theorem qH.start(A:Ru):qH A [] [A]:=⟨by simp,by simp,λB J=>by rw[Ai.mp J];exact Al _⟩
theorem qH.step{A B:Ru}{tk:List Nat}{st:List Ru}(h:qH A tk (st++[B])):qH A (tk++aT B) (st++qk B):=by
 refine⟨?_,?_,λC J=>?_⟩
 ·refine List.Perm.trans ?_ h.pt;rw[AB,AB];have:[B].flatMap qm=aT B++(qk B).flatMap qm:=by rw[<-w4];simp
  rw[this];refine Bs.mpr λz=>?_;simp only[Bc];lia
 ·have:=h.sz;have:=mU B;simp at *;lia
 ·rcases Aq.mp J with J|J
  ·exact h.dp C (Ar _ J)
  ·have:=kg J;have:=h.dp B (Ag _ (Ai.mpr rfl));lia
theorem qH.lt{A B:Ru}{tk:List Nat}{st:List Ru}:((st.map aQ).sum+((qk B).map aQ).sum)<((st++[B]).map aQ).sum:=by have:=mU B;simp;lia
theorem TrO.small{A:Ru}{E:List Nat}(T:TrO ks A E):(qm A).length<=96:=by
 have:=zL T;have h2:=age abh (rsK ks (qm A)) (rsK ks (qm A)).length;rw[jX] at h2;have:(lh (rsK ks (qm A))).length<=ks.length:=by unfold lh;rw[jX];exact h2
 have:=T.len;lia
def sF:kn:=(qo (jl (f9 (jr 0 0) (cj "cut")) (zu (x0 (aS (jr 0 3) (jr 0 4)))) zq)
 (qo (jl (f9 (jr 0 0) (cj "link")) (zu (x0 zb)) zq)
 (zu (gq ar (qe (tU mo (qa 0) (aB (jp 2)) aE) zb)))))
def jI(J:jz):kn:=(qo (zn (ku (qe (x0 zb) (qe (x0 zb) (qe sY (qe (x0 (vn (qa 0))) zb))))) (bV 4 (jm (qh 1) (jm (qh 2) (jm (qh 3) (jm (qh 4) bK))))))
 (qo (hW (m6 (qa 4) (x0 zb)) (qo (zn (ak u9 (qa 4) zb) (qh 5))
 (kM (jl (f9 (jr 5 0) (cj "link")) (qo (jy (ak jf (qa 1) (qe (rdT (jr 5 1) (jr 5 2)) zb)))
 (qo (dy (qa 3) (jr 5 1) (yC (.bl true)))
 (dy (qa 3) (jr 5 2) (yC (.bl true))))) (jl (f9 (jr 5 0) (cj "cut")) (jy (ak jf (qa 2) (qe (rdT (jr 5 1) (jr 5 2)) zb))) (dy (qa 3) (jr 5 1) (yC (.bl true)))))
 (jy (ak aW (qa 4) (qe (za J (vn (qa 5))) zb))))))
 (zu (ku (qe (qa 1) (aS (qa 2) (qa 3)))))))
def w9:jz:=wq
theorem aah:∀ys L Q,w9 ys L Q->vg sF 1 ys L Q:=by
 rintro ys L Q ⟨A,rfl,q⟩;cases A with
 |link a b=>exactλp J=>xg (q p J)
 |ei r A=>exact⟨λz=>absurd z.1 (by show ¬2=0;decide),λp J=>xg (q p J)⟩
 |bo r A B=>exact⟨λz=>absurd z.1 (by show ¬2=0;decide),λp J=>xg (q p J)⟩
 |cu a b A B=>exactλp J=>xg (q p J)
structure wW(us:List Nat)(kvs:List (jg×Y)):Prop where
 val:∀x:Nat,(ko kvs (.inl (x:Int))).isSome=decide (x∈us)
 len:kvs.length<=us.length
theorem wW.nil:wW [] []:=⟨λ_=>rfl,Al _⟩
theorem wW.put{us:List Nat}(h:wW us kvs)(x:Nat)(y:Y):wW (us++[x]) (ef kvs (.inl (x:Int)) y):=by
 refine⟨λz=>?_,?_⟩
 ·rw[rA];by_cases e:z=x
  ·subst e;rw[AC rfl,AD (Ag _ (Ai.mpr rfl))];rfl
  ·rw[AF (λq=>e (Cd.mp (Sum.inl.inj q))),h.val];refine Dz.mpr ⟨λq=>Ar _ q,λq=>?_⟩;rcases Aq.mp q with q|q
   ·exact q
   ·exact absurd (Ai.mp q) e
 ·have:=dg kvs (.inl (x:Int)) y;have:=h.len;rw[Ac];show _<=us.length+1;lia
def oz:jz:=λys L Q=>∃R:Ru,ys=[qi R]/\(qm R).length<=96/\
 ∀J U ta lk ct kvs L',qg L L'->L J=none->L U=none->L ta=none->L' J=some (.lst (bT lk))->L' U=some (.lst (bT ct))->L' ta=some (.dct kvs)->lk.Perm (zx R)->ct.Perm (jb R)->(∀x:Nat,(ko kvs (.inl (x:Int))).isSome=decide (x∈qm R))->Q (.tup [.ref J,.ref U,.ref ta]) L'
theorem bC:∀R:Ru,(zx R).length+(jb R).length<=aQ R
 |.link _ _=>Al _
 |.ei _ A=>BD (bC A)
 |.bo _ A B=>by have:=bC A;have:=bC B;show(zx A++zx B).length+(jb A++jb B).length<=aQ A+aQ B+1;rw[Ac,Ac];lia
 |.cu _ _ A B=>by have:=bC A;have:=bC B;show(zx A++zx B).length+((jb A++jb B).length+1)<=aQ A+aQ B+1;rw[Ac,Ac];lia
theorem aep:∀ys L Q,oz ys L Q->vg (jI w9) 6 ys L Q:=by
 rintro ys L Q ⟨R,rfl,tl,q⟩;have big:=bg_;have rd:=xq R;have rz:=wx R;have rp:=bC R;intro la ba ca bb ta al g a4;have a5:la≠ca:=km q8 bb;have a1:ca≠ta:=km q8 al;have a2:la≠ta:=km ((qb a5).trans q8) al;have a3:ta≠g:=km q8 a4;have ao:ca≠g:=km ((qb a1).trans q8) a4;have au:la≠g:=km ((qb a2).trans ((qb a5).trans q8)) a4;have av:L ca=none:=jk bb;have t:L ta=none:=jk (jk al);have aL:L g=none:=jk (jk (jk a4));have S0:qg L (qf (qf (qf (qf L la (.lst [])) ca (.lst [])) ta (.dct [])) g (.lst [qi R])):=(((By ba).trans (By bb)).trans (By al)).trans (By a4);refine⟨λm τ j=>∃lk ct J us st c5,τ=[some (qi R),some (.ref la),some (.ref ca),some (.ref ta),some (.ref g),c5]/\qg L j/\j la=some (.lst (bT lk))/\j ca=some (.lst (bT ct))/\j ta=some (.dct J)/\j g=some (.lst (st.map qi))/\i6 R lk ct st/\wW us J/\qH R us st/\m=(st.map aQ).sum,⟨_,[],[],[],[],[R],_,rfl,S0,(qb au).trans ((qb a2).trans ((qb a5).trans q8)),(qb ao).trans ((qb a1).trans q8),(qb a3).trans q8,q8,i6.start R,wW.nil,qH.start R,rfl⟩,?_⟩;rintro m τ j ⟨lk,ct,J,us,st,c5,rfl,s,h1,h2,h3,C,T,U,I,rfl⟩;intro p hp;refine ww (n:=120) (m:=0) (by decide) (By hp _ _ C) q8 (aH λA hA=>AM (T.dp A hA) (by lia)) (.nil:Paired (jj _ 0) _ []) ?_;have s2:qg L (qf j p (.lst [])):=s.trans (By hp);replace h1:=(qb (o:=.lst []) (km h1 hp)).trans h1;replace h2:=(qb (o:=.lst []) (km h2 hp)).trans h2;replace h3:=(qb (o:=.lst []) (km h3 hp)).trans h3;replace C:=(qb (o:=.lst []) (km C hp)).trans C;generalize qf j p (.lst [])=L2 at s2 h1 h2 h3 C ⊢;show wn (!(Da.eqs (st.map aZ) [])) _ _;rw[gQ];have kl:=U.len;have pl:=I.pt.length_eq;have l1:=T.pl.length_eq;have l2:=T.pc.length_eq;rw[Ac] at pl l1 l2;rcases Cq st with rfl|⟨bZ,A,rfl⟩
 ·refine jd rfl ?_;refine xg (q la ca ta lk ct J L2 s2 ba av t h1 h2 h3 (by have:=T.pl;simpa using this) (by have:=T.pc;simpa using this) λx=>?_);rw[U.val];exact Dz.mpr (by have:=I.pt.mem_iff (a:=x);simpa using this)
 ·rw[Cr] at *;rw[Au (by simp)];refine aK rfl ⟨λag j=>∃m',m'<((bZ++[A]).map aQ).sum/\∃lk ct J us st c5,ag=[some (qi R),some (.ref la),some (.ref ca),some (.ref ta),some (.ref g),c5]/\qg L j/\j la=some (.lst (bT lk))/\j ca=some (.lst (bT ct))/\j ta=some (.dct J)/\j g=some (.lst (st.map qi))/\i6 R lk ct st/\wW us J/\qH R us st/\m'=(st.map aQ).sum,λag j h=>h,?_⟩;rw[Av] at C;refine uc C ?_;have s3:qg L (qf L2 g (.lst (bZ.map qi))):=s2.upd aL;replace h1:=(qb (o:=.lst (bZ.map qi)) au).trans h1;replace h2:=(qb (o:=.lst (bZ.map qi)) ao).trans h2;replace h3:=(qb (o:=.lst (bZ.map qi)) a3).trans h3;clear C;have C:qf L2 g (.lst (bZ.map qi)) g=some (.lst (bZ.map qi)):=q8;generalize qf L2 g (.lst (bZ.map qi))=L3 at s3 h1 h2 h3 C ⊢;refine⟨λag L3=>∃J,ag=[some (qi R),some (.ref la),some (.ref ca),some (.ref ta),some (.ref g),some (qi A)]/\qg L L3/\L3 la=some (.lst (bT (lk++mi A)))/\L3 ca=some (.lst (bT (ct++mm A)))/\L3 ta=some (.dct J)/\L3 g=some (.lst (bZ.map qi))/\wW (us++aT A) J,?_,?_⟩
  ·cases A with
   |link p0 q0=>
    refine qc h1 (qx h1 ⟨by rw[Ab];exact big _ (by lia),?_⟩);refine zy ((qb (AE a2)).trans h3) ⟨big _ (by lia),?_⟩;have U1:=U.put p0 (.bl true);have k1:=U1.len;rw[Ac] at k1;refine zy q8 ⟨big _ (by simp at k1;lia),?_⟩;have U2:=U1.put q0 (.bl true);rw[v3];refine⟨_,rfl,(s3.upd ba).upd t,?_,?_,q8,?_,by rw[AR] at U2;exact U2⟩
    ·rw[qb a2,q8];exact Bv (λl=>some (LO.lst l)) (oG lk (p0,q0))
    ·rw[qb a1,qb (AE a5),h2];simp[mm]
    ·rw[qb (AE a3),qb (AE au)];exact C
   |ei r0 A0=>
    refine zy h3 ⟨big _ (by lia),?_⟩;exact⟨_,rfl,s3.upd t,by rw[qb a2,h1];simp[mi],by rw[qb a1,h2];simp[mm],q8,by rw[qb (AE a3)];exact C,U.put r0 (.bl true)⟩
   |bo r0 A0 B0=>
    refine zy h3 ⟨big _ (by lia),?_⟩;exact⟨_,rfl,s3.upd t,by rw[qb a2,h1];simp[mi],by rw[qb a1,h2];simp[mm],q8,by rw[qb (AE a3)];exact C,U.put r0 (.bl true)⟩
   |cu p0 q0 A0 B0=>
    refine qc h2 (qx h2 ⟨by rw[Ab];exact big _ (by lia),?_⟩);exact⟨J,rfl,s3.upd av,by rw[qb a5,h1];simp[mi],by rw[q8];exact Bv (λl=>some (LO.lst l)) (oG ct (p0,q0)),by rw[qb (AE a1)];exact h3,by rw[qb (AE ao)];exact C,by rw[show aT (.cu p0 q0 A0 B0)=[] from rfl,A1];exact U⟩
  ·rintro ag L4 ⟨bc,rfl,s4,g1,g2,g3,g4,U'⟩;refine qc g4 ⟨A,rfl,λp8 h8=>?_⟩;refine qx ((qb (km g4 h8)).trans g4) (qx q8 ⟨?_,?_⟩)
   ·have h1:=I.step.sz;have len:∀l:List Ru,l.length<=(l.map aQ).sum:=λl=>by induction l with|nil=>exact Al _|cons x r ih=>have:=pL x;simp;lia
    have h3:=len (bZ++qk A);rw[Ac] at h3;rw[Ab,Ab];exact Bo (big _ (by lia))
   ·exact⟨_,DO _,_,qH.lt (tk:=us) (A:=R),_,_,bc,us++aT A,bZ++qk A,_,rfl,(s4.trans (By h8)).upd aL,(qb au).trans ((qb (km g1 h8)).trans g1),(qb ao).trans ((qb (km g2 h8)).trans g2),(qb a3).trans ((qb (km g3 h8)).trans g3),by rw[q8,Av],T.step,U',I.step,by rw[Av,DK]⟩
def ad5(Pt:Addr)(J:jz):kn:=(qo (zn (x0 zb) (qh 2))
 (qo (ay (fi (qa 0)) (bV 2 (jm (qh 3) (jm (qh 4) bK))) (qo (zn (zh wv (za J (qe (qa 1) (aS (qa 3) (jp 39373)))) (jp 40)) (qh 5))
 (kM (jl (f9 (bQ 4) (jp 3)) (zn (zh kw (zh kw (qa 5) (jp 1)) (gq agl (qe (zh af (qa 2) (jr 4 1)) (qe (zh af (qa 2) (jr 4 2)) zb)))) (qh 5)) zq)
 (jy (ak jf (qa 2) (vn (qa 5)))))))
 (zu (ab8 Pt lamQ 2 (rE (bQ 0))))))
def pK(J:jz):kn:=(qo (jl (f9 (jr 0 0) (cj "link")) (zu (ku (qe (cj "link") (qe (gq ajr (qe (gi (qa 1) (jr 0 1)) (qe (gi (qa 1) (jr 0 2)) zb))) (qe (gq agl (qe (gi (qa 1) (jr 0 1)) (qe (gi (qa 1) (jr 0 2)) zb))) zb))))) zq)
 (qo (zn (uz 1 (wV (tU mo (qa 0) (aB (jp 1)) aE)) (qh 3) (yB (ae .int (qa 3))) (gi (qa 1) (qa 3))) (qh 2))
 (zu (gq uY (qe (zh kw (zh kw (x0 (vn (jr 0 0))) (qa 2)) (uz 1 (wV (tU mo (qa 0) (aB (jp 1)) aE)) (qh 3) (yB (ae .tuple (qa 3))) (za J (aS (qa 3) (qa 1))))) zb)))))
def mD(J:jz)(p1:jz):kn:=(qo (zn sY (qh 3))
 (qo (zn (x0 zb) (qh 4))
 (qo (ay (vv (za J (aS (qa 0) (qa 2)))) (qh 5) (qo (dy (qa 3) (qa 5) (bQ 4))
 (qo (zn (zh af (qa 0) (qa 5)) (qh 6))
 (jy (ak jf (qa 4) (qe (yIf (f9 (bQ 6) (jp 2)) (qa 6) (ku (qe (jr 6 0) (qe (gi (qa 3) (jr 6 1)) (qe (gi (qa 3) (jr 6 2)) zb))))) zb))))))
 (zu (ku (qe (qa 4) (qe (za p1 (aS (qa 1) (qa 3))) zb)))))))
def iR(Pt:Addr):jz:=λys L Q=>∃a,∃ks:List Kn,∃s:Int,ys=[.ref a,.int s]/\L a=some (.lst (ja ks))/\OkO (ks.map some)/\ks.length<=63/\L Pt=some (.tb lamQ)/\
 ∀D J,L D=none->J.Perm (List.range (ks.map some).length)->dF (ks.map some) J->Q (.ref D) (qf L D (.lst (nY J)))
theorem xJ :∀ys L Q,iR Pt ys L Q->vg (ad5 Pt kO) 6 ys L Q:=by
 rintro ys L Q ⟨a,ag,s,rfl,ha,ok,hz,hP,q⟩;obtain⟨l,g⟩:∃l,l=ag.map some:=⟨_,rfl⟩;rw[<-ky,<-g] at ha;rw[<-g] at ok q;have hz:l.length<=63:=by rw[g,Ab];exact hz
 have all:∀i,l[i]?≠some none:=λi e=>by rw[g,An] at e;obtain⟨_,_,z⟩:=Ao.mp e;cases z
 have big:=bg_;intro U J;have s0:qg L (qf L U (.lst [])):=By J;have a3:a≠U:=km ha J;refine xc (s0 _ _ ha) λkeep kp=>xi ⟨λi τ C=>∃rks:List Int,∃c3 c4 c5,τ=[some (Y.ref a),some (.int s),some (Y.ref U),c3,c4,c5]/\C=qf L U (.lst (rks.map Y.int))/\rks.length=i/\xF l rks,⟨[],_,_,_,rfl,rfl,rfl,λp _ _ _ hp=>by cases hp⟩,?_,?_,?_⟩
 ·rintro i τ C ⟨rks,c3,c4,c5,rfl,rfl,_⟩;exact kp _ (by rw[qb a3,qb a3])
 ·rintro i y τ C hy ⟨rks,c3,c4,c5,rfl,rfl,I,T⟩;obtain⟨z,ez,rfl⟩:=dw hy;rw[An] at ez;obtain⟨k,ek,rfl⟩:=Ao.mp ez;have hi:=zw ek;refine⟨s,i,39373,rfl,by exact A3 _,by omega,by decide,by decide,λv h0 h1=>?_⟩;have m0:(0:Int)<=v % 40:=DJ _ (by decide);have a4:(rks.map Y.int).length=i:=by rw[Ab];exact I
  refine⟨show(0:Int)<40 by decide,λa5 C=>∃r:Int,a5=[some (Y.ref a),some (.int s),some (Y.ref U),some (.int (i:Nat)),some (xX k),some (.int r)]/\C=qf L U (.lst (rks.map Y.int))/\∀e i j,k=some (.nd e i j)->rks.getD i 0<r/\rks.getD j 0<r,?_,?_⟩
  ·cases k with
   |none=>exact absurd ek (all i)
   |some k=>
    cases k with
    |lf t n=>exact⟨v % 40,rfl,rfl,λe i j z=>by cases z⟩
    |nd e p1 p2=>
     obtain⟨l1,l2⟩:=ok _ _ _ _ ek;have g1:=vk (qM (rks:=rks) (i:=p1) (by lia));have g2:=vk (qM (rks:=rks) (i:=p2) (by lia));refine qc q8 (ql g1 ?_);refine qc q8 (ql g2 ?_);refine⟨v % 40+1+max (rks.getD p1 0) (rks.getD p2 0),rfl,rfl,λe' i' j' z=>?_⟩;cases z;have a1:rks.getD p1 0<=max (rks.getD p1 0) (rks.getD p2 0):=Int.le_max_left ..;have a2:rks.getD p2 0<=max (rks.getD p1 0) (rks.getD p2 0):=Int.le_max_right ..;constructor<;>lia
  ·rintro a5 C ⟨r,rfl,rfl,hr⟩;refine qc q8 (qx q8 ⟨by rw[a4];exact big _ (by lia),?_⟩);refine⟨_,DO _,rks++[r],_,_,_,rfl,?_,by rw[Ac,I];rfl,xF.snoc ok T (by rw[I];exact ek) hr⟩;rw[v3,Av];rfl
 ·rintro τ C ⟨rks,c3,c4,c5,rfl,rfl,I,T⟩;rw[iY,Ab] at I;have s1:qg L (qf L U (.lst (rks.map Y.int))):=By J;refine qc (s1 _ _ ha) ?_;have lo:(dU l).length=l.length:=Ab ..;refine⟨⟨A3 _,by rw[lo];lia⟩,λp hp=>qx q8 ?_⟩;have al:U≠p:=km q8 hp;have ao:Pt≠p:=km (s1 _ _ hP) hp;have au:Pt≠U:=km hP J;refine⟨l.length,rks,U,by rw[AQ,lo],rfl,(qb al).trans q8,I,hz,(qb ao).trans ((qb au).trans hP),λD qs hD pm pw=>?_⟩;have av:=jk hD;have aL:=jk av;refine⟨qf L D (.lst (nY qs)),λb o e=>?_,q D qs aL pm (aa4 ok T I pw)⟩;by_cases c:b=D
  ·subst c;rw[q8] at e ⊢;exact e
  ·rw[qb c] at e ⊢;rw[qb (λz=>by subst z;rw[jk hp] at e;cases e),qb (λz=>by subst z;rw[J] at e;cases e)];exact e
theorem rb(y:Y)(l:List Y):mz (y::l) (some 1) none=l:=by
 unfold mz;have e:HT.sIx (y::l).length 0 (some 1)=1:=by show min 1 (l.length+1)=1;lia
 rw[e];show(l.take (l.length+1-1))=l;rw[Nat.add_sub_cancel,Ba]
theorem wY(y:Y)(l:List Y):¬(HT.sIx (y::l).length 0 (some 1)=0/\HT.sIx (y::l).length (y::l).length none=(y::l).length):=λz=>by
 have e:HT.sIx (y::l).length 0 (some 1)=1:=by show min 1 (l.length+1)=1;lia
 rw[e] at z;exact absurd z.1 (by decide)
def kdR:Ru->Str
 |.link _ _ => "link"
 |.ei _ _ => "either"
 |.bo _ _ _ => "both"
 |.cu _ _ _ _ => "cut"
theorem pI(A:Ru):qi A=.tup (.str (kdR A)::(nY (plR A)++(qk A).map qi)):=by cases A<;>rfl
def cO(n:Nat):jz:=λys L Q=>∃R:Ru,∃d,∃kvs:List (jg×Y),∃f:Nat->Nat,ys=[qi R,.ref d]/\L d=some (.dct kvs)/\(∀B∈xn R,∀x∈plR B,ko kvs (.inl (x:Int))=some (.int (f x:Int)))/\ji R<=n/\Q (qi (oA f R)) L
theorem adu:∀ys L Q,¬cO 0 ys L Q:=by rintro ys L Q ⟨A,_,_,_,_,_,_,h,_⟩;have:=gK A;lia
theorem wN{P:List Nat}{J:List Ru}(h:(nY P++J.map qi)[i]?=some y):(i<P.length/\∃x,P[i]?=some x/\y=.int (x:Int))\/(P.length<=i/\∃B,J[i-P.length]?=some B/\y=qi B):=by
 by_cases c:i<P.length
 ·rw[AH (by rw[kc];exact c)] at h;exact .inl ⟨c,dY h⟩
 ·rw[Ay (by rw[kc];lia),kc,An] at h;obtain⟨B,e,z⟩:=Ao.mp h;exact .inr ⟨by lia,B,e,z.symm⟩
theorem zW(n:Nat):∀ys L Q,cO (n+1) ys L Q->vg (pK (cO n)) 3 ys L Q:=by
 rintro ys L Q ⟨R,d,t,f,rfl,hd,I,hr,q⟩;have big:=bg_;by_cases U:∃a b,R=.link a b
 ·obtain⟨a,b,rfl⟩:=U;have v1:=I _ (gW _) a (Aj ..);have v2:=I _ (gW _) b (Ad _ (Aj ..));refine zy hd (ql v1 ?_);refine zy hd (ql v2 ?_);refine zy hd (ql v1 ?_);refine zy hd (ql v2 ?_);refine xg ?_;have e1:min (f a:Int) (f b:Int)=((min (f a) (f b):Nat):Int):=art _ _;have e2:max (f a:Int) (f b:Int)=((max (f a) (f b):Nat):Int):=aqr _ _;have q:Q (.tup [.str "link",.int ((min (f a) (f b):Nat):Int),.int ((max (f a) (f b):Nat):Int)]) L:=q;rw[<-e1,<-e2] at q;exact q
 have hk:kdR R ≠ "link" := by cases R with|link a b=>exact absurd ⟨a,b,rfl⟩ U|ei r A=>show(Str.ofString "either") ≠ "link";decide +kernel|bo r A B=>show(Str.ofString "both") ≠ "link";decide +kernel|cu p s A B=>show(Str.ofString "cut") ≠ "link";decide +kernel
 have T:Q (.tup ([.str (kdR R)]++nY ((plR R).map f)++(qk R).map λB=>qi (oA f B))) L:=by cases R with|link a b=>exact absurd ⟨a,b,rfl⟩ U|ei r A=>exact q|bo r A B=>exact q|cu p s A B=>exact q
 have vp:∀x∈plR R,ko t (.inl (x:Int))=some (.int (f x:Int)):=I R (gW R);have va:∀B∈qk R,ji B<=n/\∀C∈xn B,∀x∈plR C,ko t (.inl (x:Int))=some (.int (f x:Int)):=λB hB=>⟨by have:=kg hB;lia,λC hC=>I C (bA (afd hB) hC)⟩;have lp:(plR R).length<=2:=by cases R<;>simp[plR]
 have lA:(qk R).length<=2:=by cases R<;>simp[qk]
 rw[pI R];generalize plR R=P at vp T lp;generalize qk R=l at va T lA;generalize kdR R=g at hk T;clear q I U hr;have e0:fO (Y.str g::(nY P++l.map qi)) 0=some (Y.str g):=vk (xs:=Y.str g::(nY P++l.map qi)) (j:=0) rfl;have ll:(nY P++l.map qi).length=P.length+l.length:=by rw[Ac,kc,Ab]
 walk_at "w";rw[e0];refine jd (Au hk) ?_;refine⟨wY _ _,?_⟩;rw[rb];refine dZ (λi J=>J=nY ((P.take i).map f)) (by rw[ll];exact big _ (by lia)) trivial rfl ?_ ?_
 ·rintro i y J hy rfl;rcases wN hy with⟨c,x,ex,rfl⟩|⟨c,B,eB,rfl⟩
  ·refine zy hd (ql (vp x (Aw ex)) ⟨_,DO _,rfl,?_⟩);rw[Bd,ex,Av,ff];rfl
  ·have e1:P.take (i+1)=P.take i:=by rw[BE (by lia),BE c]
   have z:fq (λJ L'=>L'=L/\J=nY ((P.take (i+1)).map f)) (nY ((P.take i).map f)) L:=⟨_,DO _,rfl,by rw[e1]⟩;rw[pI B];exact z
 rintro J rfl p1 h1;rw[ll,BE (by lia)];walk_at "w";rw[e0];intro p2 h2;have s1:=By (o:=.lst (nY (P.map f))) h1;have s2:=s1.trans (By (o:=.lst [Y.str g]) h2);refine⟨_,_,q8,By h2 _ _ q8,?_,λp3 h3=>?_⟩
 ·rw[kc,Ab];exact Bo (big _ (by show 1+P.length<=20000;lia))
 have s3:=s2.trans (By (o:=.lst ([Y.str g]++nY (P.map f))) h3);have g3:∀{o},qf (qf (qf L p1 (.lst (nY (P.map f)))) p2 (.lst [Y.str g])) p3 o p3=some o:=q8;refine⟨wY _ _,?_⟩;rw[rb];have g3:=g3 (o:=.lst ([Y.str g]++nY (P.map f)));generalize qf (qf (qf L p1 (.lst (nY (P.map f)))) p2 (.lst [Y.str g])) p3 (.lst ([Y.str g]++nY (P.map f)))=L3 at s3 g3 ⊢;refine dZ (λi J=>J=(l.take (i-P.length)).map λB=>qi (oA f B)) (by rw[ll];exact big _ (by lia)) trivial (by rw[Nat.zero_sub];rfl) ?_ ?_
 ·rintro i y J hy rfl;rcases wN hy with⟨c,x,ex,rfl⟩|⟨c,B,eB,rfl⟩
  ·exact⟨_,DO _,rfl,by rw[Nat.sub_eq_zero_of_le c,Nat.sub_eq_zero_of_le (Bo c)]⟩
  ·obtain⟨h1,h2⟩:=va B (Aw eB);have z:cO n [qi B,.ref d] L3 λz L4=>fq (λJ L'=>L'=L3/\J=(l.take (i+1-P.length)).map λB=>qi (oA f B)) (((l.take (i-P.length)).map λB=>qi (oA f B))++[z]) L4:=by refine⟨B,d,t,f,rfl,s3 _ _ hd,h2,h1,_,DO _,rfl,?_⟩;rw[Nat.succ_sub c,Bd,eB,Av];rfl
   rw[pI B] at z ⊢;exact z
 rintro J rfl p4 h4;rw[ll,Dw,Ba];refine⟨_,_,(qb (km g3 h4)).trans g3,q8,?_,λp5 h5=>?_⟩
 ·rw[Ac,kc,Ab,Ab];exact Bo (big _ (by show 1+P.length+l.length<=20000;lia))
 exact qx q8 (aI ((s3.trans (By h4)).trans (By h5)) T)
theorem SR.pl{E:List Nat}(h:SR ks R E):∀B∈xn R,∀x∈plR B,x<ks.length:=λB U x J=>by
 obtain⟨⟨p,s⟩,_⟩:=h.rls B U;have l:=s.lt;cases s with
 |link=>exact l x J
 |ei=>rw[Ai.mp J];exact l _ (Aj ..)
 |bo=>rw[Ai.mp J];exact l _ (Aj ..)
 |cu g j h3 o=>
  rcases Am.mp J with rfl|J
  ·exact l _ (Ar _ (g.sub _ h3))
  ·rw[Ai.mp J];exact l _ (Ag _ (j.sub _ o))
def agy(f:Nat->Nat):Kn->Kn
 |.lf t n=>.lf t n
 |.nd e i j=>.nd e (f i) (f j)
theorem yD(f:Nat->Nat)(k:Kn):gy f (some k)=some (agy f k):=by cases k<;>rfl
def fj(Pt:Addr):jz:=λys L Q=>∃a,∃ks:List Kn,∃R:Ru,∃E:List Nat,∃s:Int,ys=[.ref a,qi R,.int s]/\L a=some (.lst (ja ks))/\cw ks/\SR ks R E/\(qm R).Perm (List.range ks.length)/\ks.length<=63/\L Pt=some (.tb lamQ)/\
 ∀w f ir,L w=none->ir.length=ks.length->Ren f (ks.map some) (ir.map some)->Q (.tup [.ref w,qi (oA f R)]) (qf L w (.lst (ja ir)))
theorem tj :∀ys L Q,fj Pt ys L Q->vg (mD (iR Pt) (cO 120)) 7 ys L Q:=by
 rintro ys L Q ⟨a,T,R,E,s,rfl,ha,av,sr,tp,hz,hP,q⟩;have big:=bg_;obtain⟨l,o⟩:∃l,l=T.map some:=⟨_,rfl⟩;have aL:l.length=T.length:=by rw[o,Ab]
 have ok:OkO l:=by rw[o];exact sR av
 have bd:L a=some (.lst (dU l)):=by rw[o,ky];exact ha
 intro d hd w hw;have a5:L w=none:=jk hw;have a1:d≠w:=km q8 hw;have s0:qg L (qf (qf L d (.dct [])) w (.lst [])):=(By hd).trans (By hw);refine⟨a,T,s,rfl,s0 _ _ ha,by rw[<-o];exact ok,by lia,s0 _ _ hP,λD J hD pm pf=>?_⟩;rw[<-o] at pm pf;have bf:L D=none:=jk (jk hD);have ag:w≠D:=km q8 hD;have al:d≠D:=km ((qb a1).trans q8) hD;have lq:J.length=l.length:=by rw[pm.length_eq,Bw]
 have ba:J.Nodup:=pm.nodup_iff.mpr BW;have mq:∀p∈J,p<l.length:=λp hp=>A8.mp (pm.mem_iff.mp hp);have G0:aig L l J d w D 0 0 (λ_=>0) (([]:List Kn).map some) [] (qf (qf (qf L d (.dct [])) w (.lst [])) D (.lst (nY J))):=
  ⟨s0.trans (By hD),(qb al).trans ((qb a1).trans q8),(qb ag).trans q8,q8,Al _,λp=>rfl,Gap.nil _ _,Al _⟩
 refine xc q8 λkeep kp=>xi ⟨λi τ C=>∃f,∃j:List Kn,∃U c5 c6,τ=[some (.ref a),some (qi R),some (.int s),some (.ref d),some (.ref w),c5,c6]/\aig L l J d w D i 0 f (j.map some) U C/\j.length=i,⟨_,[],_,_,_,rfl,G0,rfl⟩,?_,?_,?_⟩
 ·rintro i τ C ⟨f,j,U,c5,c6,rfl,G,_⟩;exact kp C (by rw[G.hD,q8])
 ·rintro i y τ C hy ⟨f,j,U,c5,c6,rfl,G,lm⟩;obtain⟨p,ep,rfl⟩:=dY hy;have hi:=zw ep;have hp:p<l.length:=mq p (Aw ep);obtain⟨k,hk⟩:∃k,T[p]?=some k:=⟨_,Af (by lia)⟩;have ao:l[p]?=some (some k):=by rw[o,An,hk];rfl
  have pn:p∉J.take i:=λhm=>by
   have e2:J=J.take i++p::J.drop (i+1):=by rw[Af hi] at ep;rw[<-AO ep,BF,A5]
   have nd:=ba;rw[e2] at nd;exact(Ap.mp nd).2.2 p hm p (Aj ..) rfl
  have et:J.take (i+1)=J.take i++[p]:=by rw[Bd,ep];rfl
  have a2:∀e i' j',some k=some (.nd e i' j')->i'∈J.take i/\j'∈J.take i:=λe i' j' z=>lG ok pm pf ep (by rw[ao,z]);have a3:∀x∈J.take i,∀e i' j',l[x]?=some (some (.nd e i' j'))->i'∈J.take i/\j'∈J.take i:=λx hx e i' j' z=>by
   obtain⟨n,hn⟩:=Cu hx;have bb:=zw hn;rw[A4] at bb;rw[Dp (by lia)] at hn;obtain⟨h1,h2⟩:=lG ok pm pf hn z;have sb:∀y,y∈J.take n->y∈J.take i:=λy hy=>by
    have:J.take n=(J.take i).take n:=by rw[List.take_take,Cn (by lia)]
    rw[this] at hy;exact B8 hy
   exact⟨sb _ h1,sb _ h2⟩
  have au:C w=some (.lst (ja j)):=by rw[G.hw,ky]
  have vp:∀y:Nat,ko (ef U (.inl (p:Int)) (.int ((j.length:Nat):Int))) (.inl (y:Int))=if y∈J.take i++[p] then some (.int (((if y=p then j.length else f y):Nat):Int)) else none:=λy=>by
   rw[rA];by_cases e:y=p
   ·subst e;rw[AC rfl,AC rfl,AC (Ag _ (Ai.mpr rfl))]
   ·rw[AF (λz=>e (Cd.mp (Sum.inl.inj z))),AF e,G.val];by_cases h:y∈J.take i
    ·rw[AC h,AC (Ar _ h)]
    ·rw[AF h,AF λz=>(Aq.mp z).elim h λz=>e (Ai.mp z)]
  have kl:=G.len;have I:(ja j).length=j.length:=Ab ..;refine qc au ?_;rw[I];refine zy G.hd ⟨big _ (by lia),?_⟩;have bc:a≠d:=km ha hd;refine qc ((qb bc).trans (G.sub _ _ ha)) (ql (jt hk) ?_);have a4:qf C d (.dct (ef U (.inl (p:Int)) (.int ((j.length:Nat):Int)))) w=some (.lst (ja j)):=(qb (AE a1)).trans au;have hb:∀x∈J.take i,x<l.length:=λx hx=>mq x (B8 hx);have em:(j++[agy f k]).map some=j.map some++[gy f (some k)]:=by rw[yD,Av];rfl
  have done:fq (λτ C=>∃f,∃j:List Kn,∃U c5 c6,τ=[some (.ref a),some (qi R),some (.int s),some (.ref d),some (.ref w),c5,c6]/\aig L l J d w D (i+1) 0 f (j.map some) U C/\j.length=i+1) [some (.ref a),some (qi R),some (.int s),some (.ref d),some (.ref w),some (.int (p:Int)),some (mx k)] (qf (qf C d (.dct (ef U (.inl (p:Int)) (.int ((j.length:Nat):Int))))) w (.lst (ja j++[mx (agy f k)]))):=by
   refine⟨_,DO _,λx=>if x=p then j.length else f x,j++[agy f k],_,_,_,rfl,⟨(G.sub.upd hd).upd a5,(qb a1).trans q8,?_,(qb (AE ag)).trans ((qb (AE al)).trans G.hD),?_,λy=>?_,?_,?_⟩,by rw[Ac,lm];rfl⟩
   ·rw[q8,ky];unfold ja;rw[Av];rfl
   ·have:=dg U (.inl (p:Int)) (.int ((j.length:Nat):Int));lia
   ·rw[et];exact vp y
   ·rw[et,em];have:=G.gap.step hb pn ao a3 a2;rw[Ab] at this;exact this
   ·rw[Ab,Ac,lm];show i+1<=_;lia
  refine qc a4 ?_;cases k with
  |lf t n=>exact qx a4 ⟨by rw[I];exact big _ (by lia),done⟩
  |nd e p1 p2=>
   obtain⟨m1,m2⟩:=a2 e p1 p2 rfl;have v1:=vp p1;have v2:=vp p2;rw[AC (Ar _ m1),AF λ(z:p1=p)=>pn (z▸m1)] at v1;rw[AC (Ar _ m2),AF λ(z:p2=p)=>pn (z▸m2)] at v2;refine zy ((q8:qf C d _ d=some _)) (ql v1 ?_);refine zy ((q8:qf C d _ d=some _)) (ql v2 ?_);exact qx a4 ⟨by rw[I];exact big _ (by lia),done⟩
 ·rintro τ C ⟨f,j,U,c5,c6,rfl,G,lm⟩;have eq:(nY J).length=J.length:=Ab ..;rw[eq] at G lm;have et:J.take J.length=J:=Ba;have val:∀p,p<l.length->ko U (.inl (p:Int))=some (.int (f p:Int)):=λp hp=>by rw[G.val,et,AC (pm.mem_iff.mpr (A8.mpr hp))]
  have gap:Gap l (List.range l.length) f (j.map some):=by have g:=G.gap;rw[et] at g;exact⟨λp hp=>g.at_ p (pm.mem_iff.mpr hp),λp hp r hr=>g.inj p (pm.mem_iff.mpr hp) r (pm.mem_iff.mpr hr),λx k hx=>let ⟨r,hr,e⟩:=g.only x k hx;⟨r,pm.mem_iff.mp hr,e⟩,g.ok⟩
  have rd:=xq R;have tl:=tp.length_eq;rw[Bw] at tl;refine⟨R,d,U,f,rfl,G.hd,λB hB x hx=>val x (by rw[aL];exact sr.pl B hB x hx),by lia,?_⟩;refine aI (EL G.sub (by rw[G.hw,ky])) (q w f j a5 (by lia) ⟨by rw[<-o];exact gap,by rw[Ab,Ab];lia⟩)
def afo(J:jz)(p1:jz)(p2:jz)(p3:jz)(p4:jz)(p5:jz):kn:=(qo (zn (x0 zb) (qh 3))
 (qo (zn (x0 zb) (qh 4))
 (qo (ay (fi (qa 0)) (bV 2 (jm (qh 5) (jm (qh 6) bK))) (qo (ad3 7 8 (qe (za J (qe (qa 6) (aS (qa 5) (jp 48271)))) (qe (za J (qe (qa 6) (aS (qa 5) (jp 69621)))) zb)))
 (qo (jl (yB (zh yGt (zh kw (zh kw (bQ 3) (bQ 4)) (jp 12)) (qa 2))) ahd zq)
 (qo (zn (zh wv (qa 7) (jp 9)) (qh 9))
 (qo (zn (zh cN (qa 7) (jp 9)) (qh 7))
 (jl (pX (yB (zh yLt (qa 9) (jp 3))) (f9 (qa 4) (x0 zb))) (qo (jy (ak jf (qa 3) (qe (ku (qe (cj "plain") (qe (za p1 (qe (qa 1) (qe (zh wv (qa 8) (jp 3)) zb))) zb))) zb)))
 (qo (jy (ak jf (qa 3) (qe (ku (qe (cj "turned") (qe (za p1 (qe (qa 1) (qe (zh wv (qa 8) (jp 3)) zb))) zb))) zb)))
 (kM (jl (f9 (zh wv (qa 7) (jp 2)) (jp 1)) (jy (ak jf (qa 3) (qe (ak dG (qa 3) (qe (zh iJ (bQ 3) (jp 2)) zb)) zb))) zq)
 (qo (zn (zh iJ (bQ 3) (jp 2)) (qh 10))
 (jy (ak jf (qa 4) (qe (x0 (qe (ku (qe (cj "link") (qe (qa 10) (qe (zh kw (qa 10) (jp 1)) zb)))) (qe (x0 (qe (qa 10) (qe (zh kw (qa 10) (jp 1)) zb))) zb))) zb))))))) (jl (yB (zh yLt (qa 9) (jp 6))) (jy (za p2 (qe (qa 3) (qe (zh af (qa 4) (zh wv (qa 8) (bQ 4))) (qe (qa 7) (qe (zh cN (qa 8) (jp 64)) zb)))))) (jl (r9 (yB (zh yLt (qa 9) (jp 8))) (yB (zh yGt (bQ 4) (jp 1)))) (jy (za p3 (qe (qa 3) (qe (qa 4) (aS (qa 7) (qa 8)))))) (jy (za p4 (qe (qa 3) (qe (qa 4) (aS (qa 7) (qa 8))))))))))))))
 (kM (jl (f9 (qa 4) (x0 zb)) (qo (jy (ak jf (qa 3) (qe (ku (qe (cj "turned") (qe (za p1 (aS (qa 1) (jp 0))) zb))) zb)))
 (qo (jy (ak jf (qa 3) (qe (ku (qe (cj "plain") (qe (za p1 (aS (qa 1) (jp 0))) zb))) zb)))
 (jy (ak jf (qa 4) (qe (x0 (qe (ku (qe (cj "link") (aS (jp 0) (jp 1)))) (qe (x0 (aS (jp 0) (jp 1))) zb))) zb))))) zq)
 (qo (hW (yB (zh yGt (bQ 4) (jp 1))) (jy (za p3 (qe (qa 3) (qe (qa 4) (qe (zh kw (zh cN (qa 1) (jp 7)) (bQ 4)) (qe (zh cN (qa 1) (jp 3)) zb)))))))
 (zu (za p5 (qe (qa 3) (qe (zh af (jr 4 0) (jp 0)) (vn (qa 1)))))))))))
def lF(Pt:Addr):jz:=λys L Q=>∃J,∃U:List Int,∃s:Int,∃room:Nat,ys=[.ref J,.int s,.int (room:Int)]/\L J=some (.lst (U.map Y.int))/\U.length<=1000/\room<=60/\L Pt=some (.tb lamQ)/\
 ∀w ks R E,L w=none->TrO ks R E->(qm R).Perm (List.range ks.length)->Q (.tup [.ref w,qi R]) (qf L w (.lst (ja ks)))
theorem ab6 :∀ys L Q,lF Pt ys L Q->vg (afo kO mQ kI oq o7 (fj Pt)) 11 ys L Q:=by
 rintro ys L Q ⟨cy,ns,s,room,rfl,ag,bf,bb,hP,q⟩;have big:=bg_;have g:∀fo:List Tr,(zf fo).length=fo.length:=λfo=>Ab ..;have C:∀J:List Kn,(ja J).length=J.length:=λJ=>Ab ..;intro U al l ao;have nkf:U≠l:=km q8 ao;have av:L l=none:=(By al).none ao;have F0:my L (qf (qf L U (.lst [])) l (.lst [])) U l [] []:=by
  refine⟨⟨by rw[qb nkf];exact q8,λt ht=>by simp at ht,λt ht=>by simp at ht,by simp,by simp,by simp[nkf],λp k e=>by simp at e,(By al).trans (By ao),λx hx=>?_⟩,q8⟩;rcases Am.mp hx with rfl|hx
  ·exact al
  ·rw[Ai.mp hx];exact av
 generalize qf (qf L U (.lst [])) l (.lst [])=L1 at F0;refine xc (F0.b.sub _ _ ag) λkeep kp=>xi ⟨λ_ τ L'=>TW L U l s room τ L',?_,?_,?_,?_⟩
 ·exact TW.of F0 (A9 _)
 ·rintro i τ L' ⟨c0,c5,c6,c7,c8,c9,dk,J,fo,rfl,F,hb⟩;exact kp L' (by rw[F.b.sub _ _ ag,F0.b.sub _ _ ag])
 ·rintro i y τ L' ey ⟨c0,c5,c6,c7,c8,c9,dk,J,fo,rfl,F,hb⟩;obtain⟨z,ez,rfl⟩:=dw ey;obtain⟨cell,ec,rfl⟩:∃cell:Int,ns[i]?=some cell/\z=Y.int cell:=by rw[An] at ez;obtain⟨z,e1,e2⟩:=Ao.mp ez;exact⟨z,e1,e2.symm⟩
  have hi:=(AW.mp ec).1;refine⟨cell,((i:Nat):Int),48271,rfl,by exact A3 _,by omega,by decide,by decide,λone h1 bg=>⟨cell,((i:Nat):Int),69621,rfl,by exact A3 _,by omega,by decide,by decide,λtwo h2 bh=>?_⟩⟩;refine qc F.b.hk (qc F.hf ?_);refine v9 (λc=>?_) λc=>?_
  ·exact⟨_,DO _,TW.of F hb⟩
  have c:¬((((ja J).length:Nat):Int)+(((zf fo).length:Nat):Int)+12 > (room:Int)):=c;rw[C,g] at c;refine⟨(by decide:(0:Int)<9),⟨by decide,by decide⟩,?_⟩;refine v9 (λc3=>?_) λc3=>?_
  case' refine_1=>
   obtain⟨L2,aL⟩:∃L2,L2=L':=⟨_,rfl⟩;rw[<-aL];have F':my L L2 U l J fo:=by rw[aL];exact F
  case' refine_2=>
   intro p hp;refine ww (by decide) (By hp _ _ F.hf) q8 ((F.b.mono (By hp)).dats (by lia)) (.nil:Paired (jj _ 0) _ []) ?_;show wn (Da.eqs (fo.map eX) []) _ _;rw[vU];have F':my L (qf L' p (.lst [])) U l J fo:=F.mono (By hp);generalize qf L' p (.lst [])=L2 at F';refine v9 (λc0=>?_) λc0=>?_
  case' refine_2.refine_2=>
   have bc:0<fo.length:=by cases fo with|nil=>exact absurd rfl c0|cons _ _=>simp
   have F:=F';refine v9 (λc6=>?_) λc6=>?_
   ·obtain⟨j,t,ej,lj,et⟩:=mK bc two;refine qc F.hf ⟨(by show(0:Int)<((zf fo).length:Int);rw[g];lia),qc F.hf (ql (v:=.ref t.a) (by show fO (zf fo) (two % ((zf fo).length:Int))=_;rw[g,ej];exact vk (by unfold zf;rw[An,et];rfl)) ?_)⟩;obtain⟨pre,post,ep⟩:=CI (Aw et);rw[ep] at F hb;refine⟨⟨by decide,by decide⟩,L,U,l,J,pre,post,t,one / 9,two / 64,rfl,F,by lia,λL3 I a1 F3 h1 h2 _=>?_⟩;refine⟨_,DO _,?_⟩;exact TW.of F3 (by rw[ep] at c;lia)
   refine v9 (λc8=>?_) λc8=>?_
   ·refine qc F.hf ?_;refine v9 (λc1=>?_) λc1=>?_
    ·have c1:(((zf fo).length:Nat):Int) > 1:=c1;rw[g] at c1;refine⟨L,U,l,J,fo,one / 9,two,rfl,F,by lia,by lia,by lia,λL3 I a1 F3 h1 h2 _=>?_⟩;refine⟨_,DO _,?_⟩;exact TW.of F3 (by lia)
    ·refine⟨L,U,l,J,fo,one / 9,two,rfl,F,by assumption,by lia,by lia,λL3 I a1 F3 h1 h2 h3=>?_⟩;refine⟨_,DO _,?_⟩;exact TW.of F3 (by lia)
   ·refine⟨L,U,l,J,fo,one / 9,two,rfl,F,by lia,by lia,by lia,λL3 I a1 F3 h1 h2 h3=>?_⟩;refine⟨_,DO _,?_⟩;exact TW.of F3 (by lia)
  all_goals
   obtain⟨nm,a2⟩:∃nm,nm=mkS (aa s (two % 3)):=⟨_,rfl⟩;have au:da nm:=by rw[a2];exact sv _ _
   refine qc F'.b.hk ⟨(by decide:(0:Int)<3),s,two % 3,rfl,qx F'.b.hk ⟨big _ (by rw[C];omega),?_⟩⟩;refine qc q8 ⟨(by decide:(0:Int)<3),s,two % 3,rfl,qx q8 ⟨big _ (by rw[Ac,C];simp;omega),?_⟩⟩;rw[<-a2,v3];have e1:(ja J++[.tup [.str "plain",.str nm]])++[.tup [.str "turned",.str nm]]=ja (J++[.lf false nm,.lf true nm]):=by unfold ja;rw[Av,AR];rfl
   rw[e1];refine⟨λτ L3=>∃(b:Bool) (d0 d10:Option Y),τ=[d0,some (.int s),some (.int (room:Int)),some (.ref U),some (.ref l),some (.int ((i:Nat):Int)),some (.int cell),some (.int (one / 9)),some (.int two),some (.int (one % 9)),d10]/\L3=qf L2 U (.lst (ja (J++[.lf b nm,.lf (!b) nm]))),?_,?_⟩
   ·refine⟨(by decide:(0:Int)<2),?_⟩;show wn (decide (one / 9 % 2=1)) _ _;refine v9 (λc2=>?_) λc2=>?_
    ·have l2:(ja (J++[Kn.lf false nm,.lf true nm])).length=J.length+2:=by rw[C,Ac];rfl
     have t2:((((ja (J++[Kn.lf false nm,.lf true nm])).length:Nat):Int)-2).toNat=J.length:=by rw[l2];omega
     refine qc q8 (qc q8 (qc q8 (qx q8 ⟨?_,?_,ql (v:=mx (.lf false nm)) ?_ ?_⟩)))
     ·show(0:Int)<=(((ja (J++[Kn.lf false nm,.lf true nm])).length:Nat):Int)-2;rw[l2];omega
     ·show(((ja (J++[Kn.lf false nm,.lf true nm])).length:Nat):Int)-2<_;omega
     ·show(ja (J++[Kn.lf false nm,.lf true nm]))[((((ja (J++[Kn.lf false nm,.lf true nm])).length:Nat):Int)-2).toNat]?=_;rw[t2];unfold ja;rw[An,eL];rfl
     ·rw[v3];refine qx q8 ⟨big _ ?_,?_⟩
      ·refine AM (CM ..) ?_;show(ja (J++[Kn.lf false nm,.lf true nm])).length<=20000;rw[l2];omega
      ·refine⟨true,_,_,rfl,?_⟩;rw[v3];have e3:(ja (J++[Kn.lf false nm,.lf true nm])).eraseIdx ((((ja (J++[Kn.lf false nm,.lf true nm])).length:Nat):Int)-2).toNat++[mx (.lf false nm)]=ja (J++[.lf true nm,.lf false nm]):=by rw[t2];unfold ja;rw[Av,List.eraseIdx_append_of_length_le (by simp),Ab,Cm,Av,AR];rfl
       rw[e3];rfl
    ·exact⟨false,_,_,rfl,rfl⟩
   ·rintro bi L3 ⟨b,d0,d10,rfl,rfl⟩;have l2:(ja (J++[Kn.lf b nm,.lf (!b) nm])).length=J.length+2:=by rw[C,Ac];rfl
    have nn:(((ja (J++[Kn.lf b nm,.lf (!b) nm])).length:Nat):Int)-2=((J.length:Nat):Int):=by rw[l2];omega
    have a3:qf L2 U (.lst (ja (J++[.lf b nm,.lf (!b) nm]))) l=some (.lst (zf fo)):=by rw[qb (AE nkf)];exact F'.hf
    have en:∀z:Int,z=((J.length:Nat):Int)->zd [J.length,J.length+1]=[.int z,.int (z+1)]:=λz e=>by rw[e];rfl
    have er:∀z:Int,z=((J.length:Nat):Int)->qi (.link J.length (J.length+1))=.tup [.str "link",.int z,.int (z+1)]:=λz e=>by rw[e];rfl
    have en:=en _ nn;have er:=er _ nn;refine qc q8 (qc a3 λpb a4 pa a5=>?_);have H:=F'.link au b (pb:=pb) (pa:=pa) a4 (by rw[en];exact a5) rfl;refine qx (((By a4).trans (By a5)) _ _ a3) ⟨big _ (by rw[g];omega),?_⟩;rw[en,er] at H;refine⟨_,DO _,?_⟩;exact TW.of H (by rw[Ac,Ac];simp;omega)
 ·rintro τ L' ⟨c0,c5,c6,c7,c8,c9,dk,J,fo,rfl,F,hb⟩;refine⟨λτ L3=>∃c0 c5 c6 c7 c8 c9 dk J fo,τ=[c0,some (.int s),some (.int (room:Int)),some (.ref U),some (.ref l),c5,c6,c7,c8,c9,dk]/\my L L3 U l J fo/\1<=fo.length/\J.length+fo.length<=max room 3,?_,?_⟩
  ·intro p hp;refine ww (by decide) (By hp _ _ F.hf) q8 ((F.b.mono (By hp)).dats (by lia)) (.nil:Paired (jj _ 0) _ []) ?_;show wn (Da.eqs (fo.map eX) []) _ _;rw[vU];have F':my L (qf L' p (.lst [])) U l J fo:=F.mono (By hp);generalize qf L' p (.lst [])=L2 at F';refine v9 (λc0=>?_) λc0=>?_
   ·subst c0;have k0:J=[]:=by cases J with|nil=>rfl|cons k r=>exact absurd ((F.b.tm 0).mpr (by simp)) (by simp)
    subst k0;obtain⟨nm,a2⟩:∃nm,nm=mkS (aa s 0):=⟨_,rfl⟩;have au:da nm:=by rw[a2];exact sv _ _
    refine qc F'.b.hk ⟨s,0,rfl,qx F'.b.hk ⟨big _ (by decide),?_⟩⟩;refine qc q8 ⟨s,0,rfl,qx q8 ⟨big _ (by show 1<=20000;decide),?_⟩⟩;rw[<-a2,v3];have a3:∀o,qf L2 U o l=some (.lst (zf [])):=λo=>by rw[qb (AE nkf)];exact F'.hf
    refine qc (a3 _) λpb a4 pa a5=>?_;have H:=F'.link au true (pb:=pb) (pa:=pa) a4 a5 rfl;refine qx (((By a4).trans (By a5)) _ _ (a3 _)) ⟨big _ (by show 0<=20000;decide),?_⟩;exact⟨_,_,_,_,_,_,_,_,_,rfl,H,by simp,by simp;lia⟩
   ·exact⟨_,_,_,_,_,_,_,J,fo,rfl,F',(by cases fo with|nil=>exact absurd rfl c0|cons _ _=>simp),by lia⟩
  ·rintro τ L' ⟨c0,c5,c6,c7,c8,c9,dk,J,fo,rfl,F,h1,hb⟩;refine⟨λm τ L3=>∃c0 c5 c6 c7 c8 c9 dk J fo,τ=[c0,some (.int s),some (.int (room:Int)),some (.ref U),some (.ref l),c5,c6,c7,c8,c9,dk]/\my L L3 U l J fo/\1<=fo.length/\fo.length=m/\J.length+fo.length<=max room 3,⟨_,_,_,_,_,_,_,_,_,_,rfl,F,h1,rfl,hb⟩,?_⟩;rintro m τ L' ⟨c0,c5,c6,c7,c8,c9,dk,J,fo,rfl,F,h1,hm,hb⟩;refine qc F.hf ?_;refine v9 (λc1=>?_) λc1=>?_
   ·have c1:(((zf fo).length:Nat):Int) > 1:=c1;rw[g] at c1;refine⟨λτ L3=>∃c0 c5 c6 c7 c8 c9 dk J fo,τ=[c0,some (.int s),some (.int (room:Int)),some (.ref U),some (.ref l),c5,c6,c7,c8,c9,dk]/\my L L3 U l J fo/\1<=fo.length/\fo.length+1=m/\J.length+fo.length<=max room 3,?_,?_⟩
    ·rintro τ L3 ⟨d0,d5,d6,d7,d8,d9,d10,I,a1,rfl,F3,g1,g2,g3⟩;exact⟨m-1,by lia,_,_,_,_,_,_,_,_,_,rfl,F3,g1,by lia,g3⟩
    ·refine⟨⟨by decide,by decide⟩,qc F.hf ⟨⟨by decide,by decide⟩,L,U,l,J,fo,_,_,rfl,F,by lia,by lia,by lia,λL3 I a1 F3 g1 g2 _=>?_⟩⟩;exact⟨_,DO _,_,_,_,_,_,_,_,I,a1,rfl,F3,by lia,by lia,by lia⟩
   ·have c1:¬((((zf fo).length:Nat):Int) > 1):=c1;rw[g] at c1;obtain⟨t,rfl⟩:∃t,fo=[t]:=by
     match fo,h1,c1 with
     |[t],_,_=>exact⟨t,rfl⟩
     |t::u::r,_,c=>exact absurd (show(((t::u::r).length:Nat):Int) > 1 by simp;lia) c
    have ta:=(F.b.ht t (Aj ..)).1;refine qc F.hf (qc ta ?_);have tp:(qm t.R).Perm (List.range J.length):=by have nd:=F.b.nd;have tm:=F.b.tm;simp at nd tm;exact(A6 nd BW).mpr λx=>by rw[tm,A8]
    have sr:=F.b.sr t (Aj ..);have hk:J.length<=63:=by simp at hb;lia
    refine⟨U,J,t.R,t.E,s,rfl,F.b.hk,F.b.ok,sr,tp,hk,F.b.sub _ _ hP,λw f I ba lk rn=>?_⟩;obtain⟨T,bd⟩:=TrO.ren F.b.ok sr tp (by lia) rn lk;exact aI (EL (F.b.sub.trans (By ba)) q8) (q w I _ _ (F.b.sub.none ba) T bd)
def uu:Option Kn->Da
 |none=>.s .non
 |some (.lf t n)=>.tup [.s (.str (kL t)),.s (.str n)]
 |some (.nd e i j)=>.tup [.s (.str (kN e)),.s (.int ((i:Nat):Int)),.s (.int ((j:Nat):Int))]
theorem afr :∀k:Option Kn,jj L 1 (xX k) (uu k)
 |none=>.inl ⟨rfl,rfl⟩
 |some (.lf t n)=>aY (.cons (ED _) (.cons (ED _) .nil))
 |some (.nd e i j)=>aY (.cons (ED _) (.cons (DY _) (.cons (DY _) .nil)))
theorem dH{L:qp}:∀wd:List (Option Kn),Paired (jj L 1) (dU wd) (wd.map uu)
 |[]=>.nil
 |k::r=>.cons (afr k) (dH r)
theorem ox:∀wd:List (Option Kn),Da.eqs (wd.map uu) (wd.map uu)=true
 |[]=>rfl
 |k::r=>by
  have:Da.eq (uu k) (uu k)=true:=by cases k with|none=>rfl|some k=>cases k<;>simp[uu,Da.eq,Da.eqs,gD]
  rw[AG,Da.eqs,this,ox r];rfl
theorem qW(J:List Int)(lo hi:Option Int):∃ms:List Int,mz (J.map Y.int) lo hi=ms.map Y.int/\ms.length<=J.length:=by unfold mz;refine⟨(J.drop (HT.sIx (J.map Y.int).length 0 lo)).take (HT.sIx (J.map Y.int).length (J.map Y.int).length hi-HT.sIx (J.map Y.int).length 0 lo),by rw[List.map_take,List.map_drop],?_⟩;rw[A4,Cv];lia
end L3
namespace L2
open PySem PySem.Spec PyProof.Rows
section
variable {w:World}
theorem rS{Q:Option Obj->Shared->Prop}(h:Q (s.heap.get? a) s):wpAny M A (loadIfAlive a) Q E s:=by intro U J p;simp only[loadIfAlive,Sem.wp_loadIfAlive];exact h
abbrev iZ(h:Heap)(z TI TO t:Addr)(b:Bool):Prop:=h.get? z=some { cls:=.type "zip",dict:=none,data:=.fields #[rawInt t,.bool b,.bool false,.ref TI,.ref TO],slots:=#[] }
theorem ss{TI TO t:Addr}{b:Bool}{o:Obj}{Q:Bool->Shared->Prop}(hz:iZ s.heap z TI TO t b)(J:s.heap.get? t=some o)(q:∀h',iZ h' z TI TO t true->Heap.SameBut z s.heap h'->Q false { s with heap:=h' }):
 wpAny (model prog w) A (Builtin.SmallTypes.ownedTupleIsFree (.ref z)) Q E s:=by
 unfold Builtin.SmallTypes.ownedTupleIsFree;refine Aa (AU hz rfl (x:=rawInt t) rfl ?_);show wpAny _ _ (loadIfAlive (t:Int).toNat >>= _) _ _ _;refine Aa (rS ?_);rw[AQ,J];refine Aa (AU hz rfl (x:=.bool b) rfl ?_);cases b with
 |true=>
  dsimp only;rw[AF (by decide)];exact Ah (q s.heap hz ⟨rfl,λ_ _=>rfl⟩)
 |false=>
  dsimp only;rw[AC (by decide)];exact Aa (wpAny_setField_rec hz (by simp) λh' U g=>Ah (q h' U g))
theorem yO{TI TO t:Addr}{c:Bool}{o:Obj}{k:Nat}{xs ys:Array Value}{x y:Value}(D:ZAp z TI TO i1 i2 l1 l2)(hz:iZ s.heap z TI TO t c)(C:s.heap.get? t=some o)(I:IsPair s.heap TI (.ref i1) (.ref i2))
 (h1:dM t1 s.heap i1 l1 k) (h2:dM t2 s.heap i2 l2 k) (T:gn t1 s.heap l1 xs) (q2:gn t2 s.heap l2 ys) (hx:xs[k]?=some x) (hy:ys[k]?=some y)
 (q:∀h',iZ h' z TI TO t true->dM t1 h' i1 l1 (k+1)->dM t2 h' i2 l2 (k+1)->IsPair h' s.heap.objs.size x y->
  (∀c o,c≠z->c≠i1->c≠i2->s.heap.get? c=some o->h'.get? c=some o)->Q (.ref s.heap.objs.size) { s with heap:=h' }):
 wpAny (model prog w) A (Builtin.«zip.__next__» ⟨[.ref z],[]⟩) (λxg s'=>∃v,xg=.done (.ret v)/\Q v s') E s:=by
 refine Aa (m:=field (.ref z) 2) (AU hz rfl (x:=.bool false) rfl (Aa (m:=field (.ref z) 3) (AU hz rfl (x:=.ref TI) rfl (Aa (Bb I rfl ?_)))));refine Aa (m:=Builtin.SmallTypes.ownedTupleIsFree (.ref z)) (ss hz C λg1 z1 J=>?_);simp only[BA,if_false];refine Aa ?_;rw[<-Array.forIn_toList];simp only[B4,CQ];refine Aa (Aa (AY (Aa (m:=Builtin.SmallTypes.nextOf (.ref i1)) ((h1.on λo e=>J.extBut _ _ D.n3 e).next (T.on λo e=>J.extBut _ _ D.n8 e) hx λg2 p U=>Ah (Ah ?_)))));refine Aa (Aa (AY (Aa (m:=Builtin.SmallTypes.nextOf (.ref i2)) (dM.next (l:=l2) (i:=k) (xs:=ys) (x:=y) (t:=t2) (h2.on λo e=>U.extBut _ _ (AE D.n7) (J.extBut _ _ D.n4 e)) (q2.on λo e=>U.extBut _ _ D.n14 (J.extBut _ _ D.n12 e)) hy λg r j=>Ah (Ah (Ah ?_))))));refine Aa (wpAny_newTuple (Ah ⟨_,rfl,?_⟩) (by show 2<=sizeLine;decide));have sz:g.objs.size=s.heap.objs.size:=by rw[j.1,U.1,J.1]
 have k4:∀c o,c≠z->c≠i1->c≠i2->s.heap.get? c=some o->(g.push { cls:=.type "tuple",data:=.seq #[x,y] }).get? c=some o:=λc o a1 a3 a4 e=>wh _ (j.extBut _ _ a4 (U.extBut _ _ a3 (J.extBut _ _ a1 e)));have xg:=q (g.push { cls:=.type "tuple",data:=.seq #[x,y] }) (wh _ (j.extBut _ _ (AE D.n4) (U.extBut _ _ (AE D.n3) z1))) (p.on λo e=>wh _ (j.extBut _ _ D.n7 e)) (r.on λo e=>wh _ e)
  (by rw[<-sz];exact xb _ rfl) k4
 show Q (.ref g.objs.size) _;rw[sz];exact xg
theorem xK{TI TO t:Addr}{c:Bool}{o:Obj}{k:Nat}{xs ys:Array Value}{Q:Fin->Shared->Prop}(hh:A.handled=none)(D:ZAp z TI TO i1 i2 l1 l2)(hz:iZ s.heap z TI TO t c)(ht:s.heap.get? t=some o)(hI:IsPair s.heap TI (.ref i1) (.ref i2))
 (h1:dM t1 s.heap i1 l1 k) (h2:dM t2 s.heap i2 l2 k) (q1:gn t1 s.heap l1 xs) (q2:gn t2 s.heap l2 ys) (U:xs[k]?=none\/ys[k]?=none)
 (q:∀h' e,(∀c o,c≠z->c≠TO->c≠i1->c≠i2->s.heap.get? c=some o->h'.get? c=some o)->(∃o,h'.get? e=some o/\o.cls=.type "StopIteration")->E (.ref e) { s with heap:=h' }):
 wpAny (model prog w) A (Builtin.«zip.__next__» ⟨[.ref z],[]⟩) Q E s:=by
 refine Aa (m:=field (.ref z) 2) (AU hz rfl (x:=.bool false) rfl (Aa (m:=field (.ref z) 3) (AU hz rfl (x:=.ref TI) rfl (Aa (Bb hI rfl ?_)))));refine Aa (m:=Builtin.SmallTypes.ownedTupleIsFree (.ref z)) (ss hz ht λg1 z1 J=>?_);simp only[BA,if_false];refine Aa ?_;rw[<-Array.forIn_toList];simp only[B4,CQ];refine Aa (Aa (AY (Aa (m:=Builtin.SmallTypes.nextOf (.ref i1)) ?_)));have g:=h1.on λo e=>J.extBut _ _ D.n3 e;have j:=q1.on λo e=>J.extBut _ _ D.n8 e;cases p:xs[k]? with
 |none=>exact dM.stop hh g j p λg2 e s2 r=>q g2 e (λc o C _ I _ w=>s2 _ _ I (J.extBut _ _ C w)) r
 |some x=>
  have hy:ys[k]?=none:=by rcases U with h|h;rw[p] at h;cases h;exact h
  refine dM.next g j p λg2 a2 T=>Ah (Ah ?_);refine Aa (Aa (AY (Aa (m:=Builtin.SmallTypes.nextOf (.ref i2)) (dM.stop (t:=t2) (l:=l2) (i:=k) (xs:=ys) hh (h2.on λo e=>T.extBut _ _ (AE D.n7) (J.extBut _ _ D.n4 e)) (q2.on λo e=>T.extBut _ _ D.n14 (J.extBut _ _ D.n12 e)) hy λg4 e s4 r=>?_))));exact q g4 e (λc o C _ I a4 w=>s4 _ _ a4 (T.extBut _ _ I (J.extBut _ _ C w))) r
def ZS(t1 t2:Bool)(z TI TO i1 i2 l1 l2 B:Addr)(i:Nat)(h:Heap):Prop:=
 ((IsZip h z TI TO .none/\∃a b,IsPair h TO a b)\/∃t c u v,B<=t/\iZ h z TI TO t c/\IsPair h t u v)/\IsPair h TI (.ref i1) (.ref i2)/\dM t1 h i1 l1 i/\dM t2 h i2 l2 i
structure ZB(z TI TO i1 i2 l1 l2 B:Addr):Prop where
 ap:ZAp z TI TO i1 i2 l1 l2
 d1:TI≠TO
 d2:TI≠i1
 d3:TI≠i2
 lt:∀c∈[z,TI,TO,i1,i2],c<B
section
variable {TI TO B:Addr}{xs ys:Array Value}
theorem ZS.keep(st:ZS t1 t2 z TI TO i1 i2 l1 l2 B i h)(k:∀b o,b∈[z,TI,TO,i1,i2]\/B<=b->h.get? b=some o->h'.get? b=some o):ZS t1 t2 z TI TO i1 i2 l1 l2 B i h':=by
 obtain⟨U,g,j,l⟩:=st;refine⟨?_,k _ _ (.inl (by simp)) g,j.on λo e=>k _ o (.inl (by simp)) e,l.on λo e=>k _ o (.inl (by simp)) e⟩;rcases U with⟨a,u,v,b⟩|⟨t,c,u,v,J,a,b⟩
 ·exact .inl ⟨k _ _ (.inl (by simp)) a,u,v,k _ _ (.inl (by simp)) b⟩
 ·exact .inr ⟨t,c,u,v,J,k _ _ (.inl (by simp)) a,k _ _ (.inr J) b⟩
theorem ZS.type(st:ZS t1 t2 z TI TO i1 i2 l1 l2 B i s.heap):s.TypeIs (.ref z) "zip" := by
 rcases st.1 with⟨a,_⟩|⟨t,c,u,v,J,a,b⟩
 ·exact⟨_,a,rfl⟩
 ·exact⟨_,a,rfl⟩
theorem agd{x y:Value}{Q:Option Value->Shared->Prop}(D:ZB z TI TO i1 i2 l1 l2 B)(hB:B<=s.heap.objs.size)(st:ZS t1 t2 z TI TO i1 i2 l1 l2 B i s.heap)(r:gn t1 s.heap l1 xs)(C:gn t2 s.heap l2 ys)(I:xs[i]?=some x)(T:ys[i]?=some y)
 (q:∀h',ZS t1 t2 z TI TO i1 i2 l1 l2 B (i+1) h'->IsPair h' s.heap.objs.size x y->(∀c o,c∉[z,TI,TO,i1,i2]->s.heap.get? c=some o->h'.get? c=some o)->Q (some (.ref s.heap.objs.size)) { s with heap:=h' }):
 wpAny (model prog w) A (pyNext (.ref z)) Q E s:=by
 have hT:=st.type;obtain⟨s1,g,s3,s4⟩:=st;unfold pyNext;refine Aa (wpAny_attempt (wpAny_callSpecial?_slot (name:="__next__") hT Ek (wpAny_call_entry Ek hT F.entry_zip_next ?_ (F.args_zip_next_1 _))));have ne:∀{c d:Addr},c∈[z,TI,TO,i1,i2]->B<=d->d≠c:=λh1 h2 z=>by have:=D.lt _ h1;rw[z] at h2;exact absurd h2 (Nat.not_le.mpr this)
 rcases s1 with⟨a,u,v,b⟩|⟨t,c,u,v,j,a,b⟩
 ·refine ab9 D.ap a g b s3 s4 r C I T λh' g1 g2 g3 p l U=>Ah (q h' ⟨.inr ⟨_,false,x,y,hB,g1,l⟩,U _ _ D.ap.n1 D.d1 D.d2 D.d3 g,g3,p⟩ l λc o J e=>?_);simp only[Am,Bp,or_false,not_or] at J;exact U c o J.1 J.2.2.1 J.2.2.2.1 J.2.2.2.2 e
 ·refine yO D.ap a b g s3 s4 r C I T λh' g1 g3 p l U=>Ah (q h' ⟨.inr ⟨t,true,u,v,j,g1,U _ _ (ne (by simp) j) (ne (by simp) j) (ne (by simp) j) b⟩,U _ _ D.ap.n1 D.d2 D.d3 g,g3,p⟩ l λc o J e=>?_);simp only[Am,Bp,or_false,not_or] at J;exact U c o J.1 J.2.2.2.1 J.2.2.2.2 e
theorem af5{Q:Option Value->Shared->Prop}(j:A.handled=none)(D:ZB z TI TO i1 i2 l1 l2 B)(st:ZS t1 t2 z TI TO i1 i2 l1 l2 B i s.heap)(l:gn t1 s.heap l1 xs)(p:gn t2 s.heap l2 ys)(J:xs[i]?=none\/ys[i]?=none)
 (q:∀h',(∀c o,c∉[z,TI,TO,i1,i2]->s.heap.get? c=some o->h'.get? c=some o)->Q none { s with heap:=h' }):wpAny (model prog w) A (pyNext (.ref z)) Q E s:=by
 have r:=st.type;obtain⟨s1,C,I,s4⟩:=st;unfold pyNext;refine Aa (wpAny_attempt (wpAny_callSpecial?_slot (name:="__next__") r Ek (wpAny_call_entry Ek r F.entry_zip_next ?_ (F.args_zip_next_1 _))));have xg:∀h' e,(∀c o,c≠z->c≠TO->c≠i1->c≠i2->s.heap.get? c=some o->h'.get? c=some o)->(∃o,h'.get? e=some o/\o.cls=.type "StopIteration")->wpAny (model prog w) A (isInstance (.ref e) (.type "StopIteration") >>= λb=>if b=true then pure none else throw (.ref e)) Q E { s with heap:=h' }:=λh' e gk he=>by obtain⟨o,ho,g⟩:=he;refine Aa (wpAny_isInstance (T:="StopIteration") (b:=true) ⟨o,ho,g⟩ isSubtype_stop (Ah (q h' λc o U e=>?_)));simp only[Am,Bp,or_false,not_or] at U;exact gk c o U.1 U.2.2.1 U.2.2.2.1 U.2.2.2.2 e
 rcases s1 with⟨a,u,v,b⟩|⟨t,c,u,v,hb,a,b⟩
 ·exact ac1 j D.ap a C b I s4 l p J xg
 ·exact xK j D.ap a b C I s4 l p J xg
end
end
inductive rN:Hp->List Addr->List (V×V)->Hp->Prop
 |nil {H:Hp}:rN H [] [] H
 |snoc {H H1:Hp} {ps:List Addr} {vs:List (V×V)} {p:Addr} {v:V×V}:rN H ps vs H1->H1 p=none->rN H (ps++[p]) (vs++[v]) (upd H1 p (.tup [v.1,v.2]))
theorem acv{o u:HO}(h:a≠b):upd (upd H a o) b u=upd (upd H b u) a o:=by
 funext c;by_cases J:c=a
 ·subst J;rw[qr h,zg,zg]
 ·by_cases U:c=b
  ·subst U;rw[zg,qr J,zg]
  ·rw[qr U,qr J,qr J,qr U]
theorem Sq.new{K:Ae}{p:Addr}{o:HO}(h:Sq t K H a xs)(J:H p=none):Sq t K (upd H p o) a xs:=by
 have rd:∀u,Rd H a u->Rd (upd H p o) a u:=λu r=>by
  rcases r with r|⟨c,r⟩
  ·exact .inl (by rw[qr (zr r J)];exact r)
  ·exact .inr ⟨c,by rw[qr (zr r J)];exact r⟩
 cases t with|false=>exact h.imp (rd _) id|true=>exact h.imp (rd _) id
section
variable {σ:L2.St}{TI TO S:Addr}{ys:List V}{R:Result->Shared->Prop}{res:Value}
theorem agc(hh:A.handled=none)(D:ZB z TI TO i1 i2 l1 l2 (S+1))(hS:S∉[z,TI,TO,i1,i2])(hR:∀s' G ps,z0 X pins σ (upd G S (.lst (ps.map V.ref))) s'->rN H ps (xs.zip ys) G->G S=none->R (.ok (.ret res)) s'):
 ∀(k i:Nat) (s:Shared) (G:Hp) (ps:List Addr),min xs.length ys.length-i=k->i<=min xs.length ys.length->z0 X pins σ (upd G S (.lst (ps.map V.ref))) s->(∀b∈[z,TI,TO,i1,i2],jJ X pins (upd G S (.lst (ps.map V.ref))) b)->ZS t1 t2 z TI TO i1 i2 l1 l2 (S+1) i s.heap->rN H ps ((xs.zip ys).take i) G->G S=none->Sq t1 X.K G l1 xs->Sq t2 X.K G l2 ys->ps.length=i->
  codeAny (model X.prog X.w) A (.builtin "list.extend.loop" ⟨[.ref S,.ref z,res],[]⟩) R s:=by
 have zl:(xs.zip ys).length=min xs.length ys.length:=CG;intro k
 induction k with
 |zero=>
  intro i s G ps hk hi I hf st nt j J U hl;have hi:min xs.length ys.length<=i:=by lia
  obtain⟨a2,p,p1,_⟩:=I.seq (J.new j);obtain⟨a3,t,p2,_⟩:=I.seq (U.new j);have e1:=p.length;have e2:=t.length;refine codeAny_builtin F.entry_extend_loop ?_;rw[Eg Eh _];rw[BE (by lia)] at nt;refine Aa (m:=pyNext (.ref z)) (af5 hh D st p1 p2 (by rcases Nat.le_total xs.length ys.length with h|h;exact .inl (by simp;lia);exact .inr (by simp;lia)) λh' kk=>Ah (hR _ G ps (I.turnedL (t':=s.toks) (fp:=[z,TI,TO,i1,i2]) kk hf) nt j))
 |succ k ih=>
  intro i s G ps hk hi I hf st nt j J U hl;obtain⟨a2,p,p1,z1⟩:=I.seq (J.new j);obtain⟨a3,t,p2,_⟩:=I.seq (U.new j);have hx:xs[i]?=some (xs[i]'(by lia)):=Af (by lia);have hy:ys[i]?=some (ys[i]'(by lia)):=Af (by lia);have ez:(xs.zip ys).take (i+1)=(xs.zip ys).take i++[(xs[i]'(by lia),ys[i]'(by lia))]:=by rw[Bd,(Dl (z:=(xs[i]'(by lia),ys[i]'(by lia)))).mpr ⟨hx,hy⟩];rfl
  generalize xs[i]'(by lia)=x at hx ez;generalize ys[i]'(by lia)=y at hy ez;obtain⟨ux,a4,a5⟩:=p.get hx;obtain⟨uy,ag,al⟩:=t.get hy;obtain⟨_,_,_,_,_,eS⟩:=I.lstM (l:=S) zg;have lS:S<s.heap.objs.size:=xa eS;refine codeAny_builtin F.entry_extend_loop ?_;rw[Eg Eh _];refine Aa (m:=pyNext (.ref z)) (agd D lS st p1 p2 (x:=ux) (y:=uy) (by simpa using a4) (by simpa using ag) λh' ao tp kk=>?_);have I1:=I.turnedN (t':=s.toks) (fp:=[z,TI,TO,i1,i2]) (h':=h') (a:=s.heap.objs.size) (o:=.tup [x,y]) kk hf (Al _) ⟨by show 2<=sizeLine;decide,[ux,uy],.cons a5 (.cons al .nil),⟨_,tp,rfl,_,rfl⟩⟩;have C:S≠s.heap.objs.size:=AZ lS;have gP:G s.heap.objs.size=none:=by have:=I.hok.fresh (Al s.heap.objs.size);rw[qr (AE C)] at this;exact this
  generalize s.heap.objs.size=P at I1 C gP lS tp ⊢;have T:upd (upd G S (.lst (ps.map V.ref))) P (.tup [x,y]) S=some (.lst (ps.map V.ref)):=by rw[qr C,zg]
  obtain⟨_,a1,n,r,hn,e⟩:=I1.lstM T;rw[Ab,hl] at hn;have I2:=I1.lset (its':=a1++[.ref P]) (f:=(·.push (.ref P))) (ys:=(ps++[P]).map V.ref) (t':=s.toks) T e (by simp) (by rw[Av];exact r.append (.cons rfl .nil)) (by rw[Ab,Ac,BH];lia);rw[acv C,qG] at I2;have li:a1.length=i:=by lia
  refine Aa (m:=updateSeq S (·.push (.ref P))) (wpAny_updateSeq (s:={ s with heap:=h' }) e rfl (Ah ⟨plainId_quiet Eh _,ih (i+1) _ (upd G P (.tup [x,y])) (ps++[P]) (by lia) (by lia) I2 (λb g=>?_) (ao.keep λb o g q=>?_) (by rw[ez];exact nt.snoc gP) (by rw[qr C];exact j) (J.new gP) (U.new gP) (by rw[Ac,hl];rfl)⟩)
   (by rw[Ak];lia) (by rw[DF,Ak];lia))
  ·obtain⟨f0,f1⟩:=hf b g;have bl:=D.lt b g;have bS:b≠S:=λz=>hS (z▸g);refine⟨?_,f1⟩;rw[qr bS,qr (by lia)];rw[qr bS] at f0;exact f0
  ·have bS:S≠b:=by
    rcases g with g|g
    ·exactλz=>hS (z▸g)
    ·lia
   exact(y1 _ _ bS).trans q
theorem yT:typeLookup (.type "zip") "__len__" = pure none:=by rw[typeLookup_type,builtinLookup_eq_fast];kernel_rfl
theorem uR:typeLookup (.type "zip") "__length_hint__" = pure none:=by rw[typeLookup_type,builtinLookup_eq_fast];kernel_rfl
theorem abc{r:Addr}{Q:Bool->Shared->Prop}(U:s.TypeIs (.ref r) "zip")(h:Q true s):wpAny (model X.prog X.w) A (Builtin.List.listLengthHint (.ref r)) Q E s:=by unfold Builtin.List.listLengthHint;refine Aa (wpAny_specialOf U yT ?_);refine wpAny_ite_split (λJ=>absurd J (by decide)) (λ_=>?_);refine wpAny_ite_split (λJ=>absurd J (by decide)) (λ_=>?_);refine Aa (wpAny_specialOf U uR (Ah h))
theorem pD(hh:A.handled=none)(I:z0 X pins σ H s)(D:ZB z TI TO i1 i2 l1 l2 s.heap.objs.size)(hz:IsZip s.heap z TI TO .none)(hf:∀b∈[z,TI,TO,i1,i2],jJ X pins H b)(st:ZS t1 t2 z TI TO i1 i2 l1 l2 (s.heap.objs.size+1) 0 s.heap)(t:Sq t1 X.K H l1 xs)(C:Sq t2 X.K H l2 ys)
 (q:∀s' G ps,z0 X pins σ (upd G s.heap.objs.size (.lst (ps.map V.ref))) s'->rN H ps (xs.zip ys) G->G s.heap.objs.size=none->Q (.ref s.heap.objs.size) s'):wpAny (model X.prog X.w) A (call (.type "list") [.ref z]) Q E s:=by
 have hn:=I.hok.fresh (Al s.heap.objs.size);have I0:=I.laid (t':=s.toks) (h':=s.heap.push { cls:=.type "list",data:=.seq #[] }) (a:=s.heap.objs.size) (o:=.lst []) (λb u e=>wh _ e) (Al _) ⟨A9 _,[],0,.nil,xb _ rfl⟩;have hS:s.heap.objs.size∉[z,TI,TO,i1,i2]:=λh=>Co _ (D.lt _ h);have D':ZB z TI TO i1 i2 l1 l2 (s.heap.objs.size+1):=⟨D.ap,D.d1,D.d2,D.d3,λc hc=>BO (D.lt c hc)⟩;refine callType_codes (Q₁:=λobj U=>obj=.ref s.heap.objs.size/\U={ s with heap:=s.heap.push { cls:=.type "list",data:=.seq #[] } }) F.called_list (F.typeCall_list_1 _) F.entry_list_init (code_list_new _ ⟨rfl,rfl⟩) λobj U g=>?_;obtain⟨rfl,rfl⟩:=g;have l:(s.heap.push { cls:=.type "list",data:=.seq #[] }).get? s.heap.objs.size=some { cls:=.type "list",data:=.seq #[] }:=xb _ rfl;have bZ:=st.keep (h':=s.heap.push { cls:=.type "list",data:=.seq #[] }) λb o _ e=>wh _ e;refine⟨⟨_,l,rfl⟩,F.args_list_init_2 _ _,?_⟩;have key:∀(h:Heap) (c:Nat),h.get? s.heap.objs.size=some { cls:=.type "list",data:=.seq #[] c }->(∀b o,b≠s.heap.objs.size->(s.heap.push { cls:=.type "list",data:=.seq #[] }).get? b=some o->h.get? b=some o)->
  codeAny (model X.prog X.w) A.in1 (.builtin "list.extend.loop" ⟨[.ref s.heap.objs.size,.ref z,.none],[]⟩) (wants (λr j=>r=.none/\Q (.ref s.heap.objs.size) j) E) { s with heap:=h }:=λh c e k=>by
  refine agc (X:=X) (pins:=pins) (σ:=σ) (H:=H) (xs:=xs) (ys:=ys) (A:=A.in1) hh D' hS (λs' G ps I' nt gS=>⟨rfl,q s' G ps I' nt gS⟩) _ 0 _ H [] rfl (A9 _) ?_ (λb J=>?_) (bZ.keep λb o J e=>k b o ?_ e) .nil hn t C rfl
  ·exact I.laid (t':=s.toks) (h':=h) (a:=s.heap.objs.size) (o:=.lst []) (λb u e=>k b u (AZ (xa e)) (wh _ e)) (Al _) ⟨A9 _,[],c,.nil,e⟩
  ·obtain⟨f0,f1⟩:=hf b J;exact⟨by rw[qr (AZ (D.lt b J))];exact f0,f1⟩
  ·rcases J with J|J
   ·exact AZ (D.lt b J)
   ·exact CO J
 show wpAny _ _ (Builtin.List.listItems (.ref s.heap.objs.size) >>= λold=>Builtin.List.listUpdate (.ref s.heap.objs.size) (λ_=>#[]) >>= λ_=>letGo old.toList.reverse >>= λ_=>Builtin.List.listExtendWith (.ref s.heap.objs.size) (.ref z) .none) _ _ _;refine Aa ?_;unfold Builtin.List.listItems;refine Aa (Bb l rfl (Ah ?_));refine Aa (m:=updateSeq s.heap.objs.size (λ_=>#[])) (wpAny_updateSeq l rfl ?_);have e2:=As (Obj.mapSeq (λ_=>(#[]:Array Value))) l rfl;have p:∀b o,b≠s.heap.objs.size->(s.heap.push { cls:=.type "list",data:=.seq #[] }).get? b=some o->((s.heap.push { cls:=.type "list",data:=.seq #[] }).update s.heap.objs.size (Obj.mapSeq (λ_=>(#[]:Array Value)))).get? b=some o:=λb o J e=>(y1 _ _ (AE J)).trans e;generalize (s.heap.push { cls:=.type "list",data:=.seq #[] }).update s.heap.objs.size (Obj.mapSeq (λ_=>(#[]:Array Value)))=g2 at e2 p ⊢;refine Aa (wpAny_letGo ?_);unfold Builtin.List.listExtendWith;have a1:=bZ.keep (h':=g2) λb o J e=>p b o (by rcases J with J|J;exact AZ (D.lt b J);exact CO J) e;have T2:=a1.type (s:={ s with heap:=g2 });refine Aa (wpAny_typeOf (T:="zip") T2 ?_);have sr:Builtin.List.listSameRef (.ref s.heap.objs.size) (.ref z)=false:=by have:s.heap.objs.size≠z:=λe=>hS (by rw[e];simp);simp[Builtin.List.listSameRef,this]
 rw[AF (by rw[sr];decide)];refine Aa (wpAny_pyIter_zip (s:={ s with heap:=g2 }) (p _ _ (AZ (D.lt z (by simp))) (wh _ hz)) ?_);refine Aa (AY (abc T2 ?_));rw[AC (by decide)];refine Aa (BJ (Aa ?_));show wpAny _ _ (updateSeq s.heap.objs.size (·.push .none) >>= λ_=>updateSeq s.heap.objs.size (·.pop)) _ _ _;refine Aa (wpAny_updateSeq (s:={ s with heap:=g2 }) e2 rfl ?_);have e3:=As (Obj.mapSeq (·.push Value.none)) e2 rfl;refine wpAny_updateSeq (hz:=by seq_fits) e3 rfl ?_;have e4:=As (Obj.mapSeq (·.pop)) e3 rfl;exact Ah ⟨plainId_quiet Eh _,key _ _ e4 λb o J e=>(y1 _ _ (AE J)).trans ((y1 _ _ (AE J)).trans (p b o J e))⟩
end
def tLZ(X:Cx)(ta:TA):TE:=λσ H Q=>ta σ H λvs H1=>∃t1 t2 a b xs ys,vs=[.ref a,.ref b]/\Sq t1 X.K H1 a xs/\Sq t2 X.K H1 b ys/\∀S G ps,rN H1 ps (xs.zip ys) G->G S=none->Q (.ref S) (upd G S (.lst (ps.map V.ref)))
theorem tX{a b:Expr}{ta:TA}{ps:Pos}(hc:X.calm=true)(t:Gl X "list")(C:X.mg "list"=none)(T:Gl X "zip")(a1:X.mg "zip"=none)(ha:PA X [a,b] ta)(hs:starEach [a,b] X.env=[(false,eval a X.env),(false,eval b X.env)]:=by rfl)
 (j:starEach [b] X.env=[(false,eval b X.env)]:=by rfl):PE X (.Call (.Name "list" p1) [.Call (.Name "zip" p2) [a,b] [] ps] [] pos) (tLZ X ta):=by
 intro J s σ H Q I h;refine wpAny_Call_Name_kw (cg I t C wy ?_);refine callWith_type1 ?_ rfl rfl;show wpAny _ _ (spliced ((false,eval (.Call (.Name "zip" p2) [a,b] [] ps) X.env)::[])) _ _ s;refine Ef ?_;refine wpAny_Call_Name_kw (cg I T a1 ais ?_);refine callWith_type1 (aF (ha ps J s σ H _ I h) λus U ⟨vs,H1,g,r1,q1⟩=>?_) (by rw[hs,j]) (by rw[j];rfl);obtain⟨t1,t2,l1,l2,xs,ys,e,hx,hy,q⟩:=q1;subst e;obtain⟨u1,u2,rfl,a2,a3⟩:=zp.two r1;cases a2;cases a3;obtain⟨ao,_,w1,_⟩:=g.seq hx;obtain⟨au,_,w2,_⟩:=g.seq hy;have a4:l1<U.heap.objs.size:=by
  cases t1 with
  |false=>obtain⟨o,e,_⟩:=w1;exact xa e
  |true=>obtain⟨o,e,_⟩:=w1;exact xa e
 have a5:l2<U.heap.objs.size:=by
  cases t2 with
  |false=>obtain⟨o,e,_⟩:=w2;exact xa e
  |true=>obtain⟨o,e,_⟩:=w2;exact xa e
 refine yV w1 w2 λg1 gz gI gO l p gk=>Ei ?_;have I2:z0 X J σ H1 { U with heap:=g1 }:=g.kept (t':=U.toks) gk;refine pD (s:={ U with heap:=g1 }) (g.ok.hd hc) I2 ⟨?_,?_,?_,?_,λc hc=>?_⟩ gz (λc hc=>?_) ⟨.inl ⟨gz,_,_,gO⟩,gI,l,p⟩ hx hy λs' G ps I' nt gS=>⟨.ref _,_,I',rfl,q _ G ps nt gS⟩
 ·have ag:@LT.lt Nat instLTNat l1 U.heap.objs.size:=a4;have al:@LT.lt Nat instLTNat l2 U.heap.objs.size:=a5;constructor<;>exact tM (by lia)
 ·exact tM (by lia)
 ·exact tM (by lia)
 ·exact tM (by lia)
 ·simp only[Am,Bp,or_false] at hc;rcases hc with rfl|rfl|rfl|rfl|rfl
  ·exact xa gz
  ·exact xa gI
  ·exact xa gO
  ·obtain⟨o,e,_⟩:=l.ob;exact xa e
  ·obtain⟨o,e,_⟩:=p.ob;exact xa e
 ·have r:U.heap.objs.size<=c:=by simp only[Am,Bp,or_false] at hc;rcases hc with rfl|rfl|rfl|rfl|rfl<;>exact leN (by simp +arith only)
  exact g.fpOk r (g.hok.fresh r)
end L2
namespace L3
open PySem L2
theorem ah3{H1:Hp}{ps:List Addr}{vs:List (V×V)}(n:rN H ps vs H1)(U:j5 G H L):je H H1/\j5 G H1 L/\Paired (λp (v:V×V)=>H1 p=some (.tup [v.1,v.2])) ps vs:=by
 induction n with
 |nil=>exact⟨DP _,U,.nil⟩
 |snoc _ J g=>
  obtain⟨a,b,c⟩:=g;exact⟨a.trans (DQ J),b.skip J,Words.Paired.app (DS c λq v e=>(qr (zr e J)).trans e) (.cons zg .nil)⟩
theorem tD{G:G3}{H H1:Hp}(t:je H H1):∀{xs ys:List Y} {us vs:List V} {ps:List Addr},xr G H xs us->xr G H ys vs->Paired (λp (v:V×V)=>H1 p=some (.tup [v.1,v.2])) ps (us.zip vs)->xr G H1 (m4 xs ys) (ps.map V.ref)
 |[],ys,us,vs,ps,h1,h2,h3=>by cases h1;cases h3;rfl
 |x::xs,[],us,vs,ps,h1,h2,h3=>by cases h2;rw[List.zip_nil_right] at h3;cases h3;rfl
 |x::xs,y::ys,us,vs,ps,⟨u,J,U,g,h1⟩,⟨v,j,l,o,h2⟩,h3=>by subst U l;cases h3 with|cons a b=>exact⟨_,_,rfl,⟨_,_,rfl,cZ.of a,⟨_,_,rfl,g.ts t,_,_,rfl,o.ts t,rfl⟩⟩,tD t h1 h2 b⟩
def acj(ta:fA)(τ:jq)(L:qp)(Q:YK):Prop:=ta τ L λvs L1=>match vs with
 |[x,y]=>eY L1 x λxs=>eY L1 y λys=>∀p,L1 p=none->Q (.ref p) (qf L1 p (.lst (m4 xs ys)))
 |_=>False
theorem aav{a b:Expr}{ta:fA}{ps:Pos}(hc:X.calm=true)(g:Gl X "list")(j:X.mg "list"=none)(l:Gl X "zip")(o:X.mg "zip"=none)(ha:QA X [a,b] ta)(hs:starEach [a,b] X.env=[(false,eval a X.env),(false,eval b X.env)]:=by rfl)
 (p:starEach [b] X.env=[(false,eval b X.env)]:=by rfl):QE X (.Call (.Name "list" p1) [.Call (.Name "zip" p2) [a,b] [] ps] [] pos) (acj ta):=DR (tX hc g j l o ha hs p) λσ H Q τ L Q3 rs rl z k=>
 ⟨τ,L,_,rs,rl,z,λus H1 ys L1 t1 J r t=>by
  split at t
  ·rename_i x y;obtain⟨xs,ex,z2⟩:=kq t;obtain⟨zs,ez,z3⟩:=kq z2;obtain⟨u,v,rfl,r1,r2⟩:=r.inv2;obtain⟨b1,q1,C,rfl,s1,w1⟩:=acx J r1 ex;obtain⟨b2,q2,I,rfl,s2,w2⟩:=acx J r2 ez;refine⟨b1,b2,q1,q2,C,I,rfl,s1,s2,λS G ps nt T=>?_⟩;obtain⟨t2,U,pr⟩:=ah3 nt J;exact k _ _ _ _ ((t1.trans t2).trans (DQ T)) (U.newL T (tD t2 w1 w2 pr)) (by rfl) (z3 S (U.none T))
  ·exact t.elim⟩
end L3
namespace L2
open PySem PySem.Spec PyProof.Rows
def Itv(K:Ae)(a:Addr)(n:Nat):It:=⟨λi H=>i<n/\∃xs x,wu K H a xs/\xs[n-1-i]?=some x,λi H x H'=>H'=H/\∀xs,wu K H a xs->xs[n-1-i]?=some x,λi H=>n<=i⟩
theorem abq{P:Program}{w:World}{K:Ae}(a it:Addr)(n:Nat):zH P w K tg (Itv K a n) [it] it (λi h=>i<=n/\h.IsRevIter it a ((n:Int)-1-(i:Int))) where
 mem:=by simp
 obj:=λi h st b U=>by
  have e:b=it:=by simpa using U
  subst e;obtain⟨_,o,e,c,d⟩:=st;exact⟨o,e,λv z=>by rw[d] at z;cases z⟩
 keep:=λi h j st k=>⟨st.1,st.2.at λo e=>k it (by simp) o e⟩
 item:=by
  intro X t hw C hc i J s σ H E I l st r;subst t hw C;obtain⟨hi,xs,x,hq,hx⟩:=r;obtain⟨_,st⟩:=st;obtain⟨a1,rv,p,hz⟩:=I.list hq;obtain⟨u,hu,ru⟩:=rv.get hx;obtain⟨T,f1,f2,f3,f4,f5⟩:=l it (by simp);have e1:(n:Int)-1-(i:Int)=((n-1-i:Nat):Int):=by omega
  have e2:((n-1-i:Nat):Int)-1=(n:Int)-1-((i+1:Nat):Int):=by omega
  rw[e1] at st;refine wpAny_pyNext_rev_item st p.isList (x:=u) (by simpa using hu) λj g sb=>?_;rw[e2] at g;have I1:z0 X J σ H { s with heap:=j }:=I.turned (t':=s.toks) (λb o U e=>(sb.2 b U).trans e) T f1 f3 f4 f5;obtain⟨o,e,c,d⟩:=id g;exact⟨u,rfl,vN (s:={ s with heap:=j }) e c d (by decide) ⟨x,H,I1,ru,⟨rfl,λys hy=>by rw[I.list_inj hy hq];exact hx⟩,⟨hi,g⟩,λb U=>(l b U).1⟩⟩
 done:=by intro X t hw C hc i J s σ H E I l st r;subst t hw C;obtain⟨hi,st⟩:=st;have r:n<=i:=r;obtain⟨T,f1,f2,f3,f4,f5⟩:=l it (by simp);rw[show(n:Int)-1-(i:Int) = -1 by omega] at st;exact wpAny_pyNext_rev_end (I.ok.hd hc) st λj eb=>⟨rfl,I.turned (t':=s.toks) (λb o U e=>eb b o U e) T f1 f3 f4 f5⟩
 self:=λ_ _ _ _ _ st h=>wpAny_pyIter_revIter st.2 h
def aqz(K:Ae)(ta:TA):TI:=λσ H R=>ta σ H λvs H1=>∃a xs,vs=[.ref a]/\wu K H1 a xs/\R (Itv K a xs.length) H1
theorem qP:bootBuiltins "reversed"=some (.type "reversed"):=by decide +kernel
theorem akz{a:Expr}{ta:TA}(T:Gl X "reversed")(hm:X.mg "reversed"=none)(ha:PA X [a] ta)(hs:starEach [a] X.env=[(false,eval a X.env)]:=by rfl):
 PI X tg (.Call (.Name "reversed" p) [a] [] pos) (aqz X.K ta):=by
 intro J s r H R I h;refine Call_ (cg I T hm qP (BS (aF (ha pos J s r H _ I h) λus U ⟨vs,t,j,r1,q1⟩=>?_) hs rfl));obtain⟨l,C,e,hq,q⟩:=q1;subst e;obtain⟨u,rfl,ru⟩:=iq r1;cases ru;obtain⟨g,rv,pl,hz⟩:=j.list hq;have el:=rv.length;refine call_reversed_list pl.isList ?_;have st:(U.heap.push (revObj l ((g.toArray.size:Int)-1))).IsRevIter U.heap.objs.size l ((C.length:Int)-1-((0:Nat):Int)):=by rw[Ak,<-el];exact⟨_,xb _ rfl,rfl,by simp[revObj]⟩
 have I2:z0 X J r t { U with heap:=U.heap.push (revObj l ((g.toArray.size:Int)-1)) }:=j.kept (t':=U.toks) λb o e=>wh _ e;refine wpAny_pyIter_revIter (s:={ U with heap:=U.heap.push (revObj l ((g.toArray.size:Int)-1)) }) st ?_;refine⟨_,[_],_,_,t,rfl,I2,abq l _ C.length,⟨A9 _,st⟩,λb hb=>?_,q⟩;have e:b=U.heap.objs.size:=by simpa using hb
 subst e;exact j.fpOk (Al _) (j.hok.fresh (Al _))
end L2
namespace L3
open PySem L2
theorem uX{keep:qp->Prop}(h:∀H L,je H₀ H->j5 G H L->keep L->∃xs,wu G.K H a xs/\xr G H ys xs):fQ G H₀ (Itv G.K a ys.length) ys.reverse keep where
 go:=λi H L t J U g=>by obtain⟨xs,sq,r⟩:=h H L t J U;have l:=r.length;rw[BG] at g;exact⟨g,xs,xs[ys.length-1-i]'(by omega),sq,Af _⟩
 yld:=λi H L x C y t J U j ⟨e,f⟩=>by
  subst e;obtain⟨xs,sq,r⟩:=h _ L t J U;have g:i<ys.length:=by have:=(AW.mp j).1;rwa[BG] at this
  rw[CW g] at j;obtain⟨I,o,p⟩:=r.get j;have:=f xs sq;rw[o] at this;cases this;exact⟨DP _,J,p⟩
 stop:=λH L t J U=>by show ys.length<=ys.reverse.length;rw[BG];exact Al _
def acf(tl:xz)(τ:jq)(L:qp)(R:List Y->(qp->Prop)->qp->Prop):Prop:=tl τ L λx L1=>match x with
 |.ref a=>qA L1 a λys keep L=>R ys.reverse keep L
 |_=>False
theorem aac{a:Expr}(T:Gl X "reversed")(hm:X.mg "reversed"=none)(ha:QE X a te)(hs:starEach [a] X.env=[(false,eval a X.env)]:=by rfl)
 (g:starEach [a] X.env=(false,eval a X.env)::starEach [] X.env:=by rfl):QI X tg (.Call (.Name "reversed" p) [a] [] pos) (acf te):=PI.imq (akz T hm (ck ha hJ g) hs) λσ H R τ L R3 rs j z k=>by
 refine⟨τ,L,_,rs,j,z,λv l y t t1 J o C=>?_⟩;cases y with
 |ref a=>
  obtain⟨ys,keep,es,kp,hk,z2⟩:=lw C;have I:∀H L,je l H->j5 X.g3 H L->keep L->∃U,wu X.K H a U/\xr X.g3 H ys U:=λH L _ j e=>cL j (hk L e);obtain⟨U,sq,r⟩:=I l t (DP _) J kp;cases o;exact⟨a,U,rfl,sq,by rw[<-r.length];exact k _ l _ _ t t1 J (uX I) z2⟩
 |_=>exact C.elim
end L3
namespace L2
open PySem PySem.Spec PyProof.Rows
def aem(K:Ae)(J:Addr)(th:TS)(D:pW):X1:=λσ c H=>∃C,c=.ref C/\PySem.W.exmOne K (.ref C) (.ref J)=some true/\th D σ H
def alz(K:Ae)(J:Addr)(tb:X1->TS)(th:TS):TS:=λD σ H=>tb (aem K J th D) D σ H
theorem af6{Dc:Addr}{a2:Pos}{j:List Stmt}{t:Stmt}{tb:X1->TS}{th:TS}(hs:X.stack=X.env::X.outer)(hf:X.env.frame=some X.env.locals)(hx:X.ex=[])
 (hg:Gl X x) (hm:X.mg x=some (.ref Dc)) (hb:∀(pn:List (Addr×Obj)) (xe:Value->Shared->Prop) (E1:X1),bW (X.tr pn xe) E1->fZ (X.tr pn xe) body (tb E1)) (hh:∀a,fZ (X.hnd a) (t::j) th)
 (a4:Ed x:=by decide):PS X (.Try body [.ExceptHandler (some (.Name x np)) none (t::j) a2] [] [] pos) (alz X.K Dc tb th):=by
 intro U s σ H D I h;have tk:bW (X.tr (X.pn++U) (λe s'=>∃g l H' a C tr,e=.ref a/\z0 X U l H' s'/\pV X.s₀.heap s'.heap H' a C tr/\vR (X.tr (X.pn++g) X.xe) a/\(∀p∈X.pn++U,p.1≠a)/\(∀T,tr=some T->∀p∈X.pn++U,p.1≠T)/\aem X.K Dc th D l (.ref C) H'))
  (aem X.K Dc th D):=λg l H' s' a C tr I' L ap a5 q=>⟨[],l,H',a,C,tr,rfl,I'.untr,L,⟨ap.1,ap.2.1,λp o=>ap.2.2 p (by have o:p∈X.pn++[]:=o;rw[A1] at o;exact Ar _ o)⟩,ap.2.2,λT e=>(a5 T e).2.2,q⟩
 refine wpAny_Try_except (AV (hb _ _ _ tk [] s σ H D (I.tr _) h) (λf s1 h1=>?_) λe s1 h1=>?_)
 ·have h2:=SP.untr h1;cases f with|next=>exact wpAny_execs_nil h2|brk=>exact h2|cont=>exact h2|ret u=>exact h2
 ·obtain⟨g,l,H',a,C,tr,rfl,I1,L,ap,pa,paT,C',ec,em,q⟩:=h1;cases ec;refine aeh I1 hs hf hx L (λp o=>⟨pa p o,λT e=>paT T e p o⟩) λh' T I2 L2 a3=>?_;refine wpAny_handleBy_cons (codeAny_handlers_test ?_) (by intro q;cases q);refine gf (X:=X.hnd a) (I2.hnd a) hg hm ?_ a4;obtain⟨_,_,oe,vs,a0,he,hc,_⟩:=id L2;have LT:PySem.W.Looks (model X.prog X.w) h' (typeOf (.ref a)) (.ref C):=hc▸(PySem.W.Looks.ld he).andThen .now;refine PySem.W.exm_one (K:=X.K) I2.kIn LT em _ _ _ _ (λ_ _ e=>e) ?_;refine codeAny_handlers_suite ?_;refine zG I2 hs hx L2 (λp o=>⟨pa p o,a3 p o⟩) λh3 T' I3 L3=>?_;refine AV (hh a U _ _ _ D (I3.hnd a) q) (λf s6 h6=>?_) λe s6 z=>z.elim;cases f with
  |next=>obtain⟨a1,H6,J,q6⟩:=h6;exact⟨_,H6,J.unhnd I.ok,q6⟩
  |brk=>obtain⟨a1,H6,J,q6⟩:=h6;exact⟨_,H6,J.unhnd I.ok,q6⟩
  |cont=>obtain⟨a1,H6,J,q6⟩:=h6;exact⟨_,H6,J.unhnd I.ok,q6⟩
  |ret u=>obtain⟨v,a1,H6,J,r,q6⟩:=h6;exact⟨v,_,H6,J.unhnd I.ok,r,q6⟩
end L2
namespace L3
open PySem L2
def ahc(K:Ae)(U:Addr)(tb:X3->kn)(th:kn)(D:ke)(τ:jq)(L:qp):Prop:=tb (λJ C L'=>PySem.W.exmOne K (.ref C) (.ref U)=some true/\th D J L') D τ L
theorem af1{j:Addr}{g:Pos}{J:List Stmt}{U:Stmt}{tb:X3->kn}{th:kn}(hs:X.stack=X.env::X.outer)(t:X.env.frame=some X.env.locals)(I:X.ex=[])
 (T:Gl X x) (hm:X.mg x=some (.ref j)) (hb:QB X body tb) (hh:∀a,mh (X.hnd a) (U::J) th)
 (l:Ed x:=by decide):QS X (.Try body [.ExceptHandler (some (.Name x np)) none (U::J) g] [] [] pos) (ahc X.K j tb th):=
 PS.imp (af6 (tb:=ako X.g3 tb) (th:=upS X.g3 th) hs t I T hm hb hh l) λD σ H ⟨τ,L,D3,rs,rl,z,k⟩=>by
 show ako X.g3 tb (aem X.K j (upS X.g3 th) D) D σ H;exact⟨τ,L,D3,_,rs,rl,z,k,λa1 C H' o L' t' p r ⟨em,q⟩=>⟨C,rfl,em,o,L',D3,p,r,q,k.ts t'⟩⟩
def wP(x y:Y)(L:qp)(Q:YK):Prop:=match x,y with
 |.tup xs,.tup ys=>xs≠[]/\xs.length+ys.length<=1000/\Q (.tup (xs++ys)) L
 |_,_=>False
theorem ad7 :kj X (binaryOp .Add) (eV X.g3 wP):=EF ag6 λx y H Q x3 y3 L Q3 T ry j z k=>by
 unfold wP at z;split at z
 ·rename_i o r;obtain⟨n,l,z⟩:=z;obtain⟨a,J,rfl,t,U⟩:=T;obtain⟨b,C,rfl,s2,I⟩:=ry;have l1:=U.length;have l2:=I.length;refine⟨a,b,J,C,rfl,rfl,t,s2,λe=>n ?_,small (by lia),λe=>?_,λ_ p g=>?_⟩
  ·subst e;exact BN l1
  ·subst e;have:r=[]:=BN l2;subst this;rw[A1] at z;exact k _ H _ L (DP _) j (show RV X.g3 H (.tup o) (.ref a) from⟨a,J,rfl,t,U⟩) z
  ·exact k _ _ _ L (DQ g) (j.skip g) (show RV X.g3 (upd H p (.tup (J++C))) (.tup (o++r)) (.ref p) from⟨p,_,rfl,cZ.of zg,(U.app I).ts (DQ g)⟩) z
 ·exact z.elim
def anq(x y:Y)(L:qp)(Q:YK):Prop:=(x=.non/\(∃ys,y=.tup ys)/\Q (.bl false) L)\/uA false x y L Q
theorem anl(K:Ae)(P:Program)(w:World)(o:X.A.units+128<cLine)(C:X.K=K:=by rfl)(T:X.prog=P:=by rfl)(hw:X.w=w:=by rfl):kj X (compareOp .Eq) (eV ⟨K,P,w⟩ anq):=by
 subst C T hw;rintro J s U H x y v u Q I g j ⟨x3,y3,L,Q3,a,b,l,z,k⟩;rcases z with⟨rfl,⟨ys,rfl⟩,z⟩|z
 ·cases a;obtain⟨p,xs,rfl,sq,r⟩:=b;cases g;cases j;obtain⟨a1,_,t,_⟩:=I.tuple sq;exact SeqAt.RcAt.none_tuple t (by lia) X.prog X.w X.xe (EP X J U Q) ⟨.bl false,H,I,rfl,k _ H _ L (DP _) l (by rfl) z⟩
 ·exact sg X.K X.prog X.w o rfl rfl rfl J s U H x y v u Q I g j ⟨x3,y3,L,Q3,a,b,l,z,k⟩
open PySem L2 Words
def uM:kn:=(qo (zn (zh kw (zh kw (jp 1) (pZ wg (jr 0 0))) (qa 1)) (qh 3))
 (zu (zh wP (zh wP (tU mo (qa 0) aE (aB (qa 3))) (ku (vn (qa 2)))) (tU mo (qa 0) (aB (zh kw (qa 3) (jp 1))) aE))))
def u5(J:jz)(p1:jz):kn:=(qo (zn (x0 zb) (qh 1))
 (qo (ay (vv (za J (vn (qa 0)))) (qh 2) (jy (ak aW (qa 1) (qe (za p1 (vn (qa 2))) zb))))
 (zu (qa 1))))
def hX(J:jz)(p1:jz):kn:=(qo (ay (fi (za J (vn (qa 0)))) (bV 2 (jm (qh 2) (jm (qh 3) bK))) (qo (zn (za p1 (vn (qa 3))) (qh 4))
 (jl (yB (gq akk (qe (uz 1 (vv (qa 1)) (qh 5) agp (zh (iN false) (qa 5) (qa 4))) zb))) (zu (qa 2)) zq)))
 (zu (yC .non)))
def og(J:jz)(p1:jz)(p2:jz)(p3:jz):kn:=(qo (zn (zh af (za J (vn (qa 1))) (qa 2)) (qh 3))
 (qo (zn (za p1 (qe (qa 3) (qe (zh af (za p2 (aS (qa 0) (qa 1))) (qa 2)) zb))) (qh 4))
 (qo (jl (yB (dR false (qa 4))) (zu (yC .non)) zq)
 (zu (za p3 (qe (qa 3) (qe (qa 4) (qe (za p3 (qe (qa 1) (qe (qa 2) (qe (zh af (za J (vn (qa 3))) (qa 4)) zb)))) zb))))))))
def sj(J:Addr)(E3:X3)(U:jz):kn:=(qo (zn (za U (vn (qa 0))) (qh 2))
 (qo (jl (jL (yB (ue (jp 0) (adq yLe (qa 1) (ab4 yLt (bQ 2)))))) (uC J E3 (vn (cj "a rule has no arm of that number"))) zq)
 (zu (zh af (qa 2) (qa 1)))))
def fJ(E3:X3)(J:eZ):kn:=(qo (zn (x0 (vn (qa 0))) (qh 2))
 (qo (ay (vv (qa 1)) (qh 3) (jy (ak jf (qa 2) (qe (iD J E3 (qe (zh af (qa 2) (yUn acd (jp 1))) (vn (qa 3)))) zb))))
 (zu (qa 2))))
def i7(J:Addr)(E3:X3)(U:eZ)(p1:eZ)(p2:jz)(p3:jz):kn:=(qo (zn (iD U E3 (aS (jr 0 1) (qa 1))) (qh 3))
 (qo (jy (iD p1 E3 (qe (zh af (qa 3) (yUn acd (jp 1))) (vn (qa 2)))))
 (qo (zn (za p2 (qe (jr 0 0) (qe (zh af (qa 3) (yUn acd (jp 1))) (vn (qa 2))))) (qh 4))
 (qo (jl (yB (dR false (qa 4))) (uC J E3 (vn (cj "the two rules can't be exchanged"))) zq)
 (qo (ay (acf (acj (aS (qa 1) (qa 3)))) (bV 2 (jm (qh 5) (jm (qh 6) bK))) (zn (za p3 (qe (qa 6) (aS (qa 5) (qa 4)))) (qh 4)))
 (zu (ku (qe (gq ar (vn (jr 0 0))) (vn (qa 4))))))))))
def qy:Ru->Nat->Ru->Ru
 |.ei r _,0,A=>.ei r A
 |.bo r _ B,0,A=>.bo r A B
 |.bo r A _,1,B=>.bo r A B
 |.cu p q _ B,0,A=>.cu p q A B
 |.cu p q A _,1,B=>.cu p q A B
 |R,_,_=>R
def gH:jz:=λys L Q=>∃R A:Ru,∃n:Nat,∃J:Int,ys=[qi R,.int J,qi A]/\J=(n:Int)/\n<(qk R).length/\Q (qi (qy R n A)) L
theorem af7:∀ys L Q,gH ys L Q->vg uM 4 ys L Q:=by
 rintro ys L Q ⟨R,A,n,U,rfl,rfl,J,q⟩;have two:∀{n:Nat},n<2->n=0\/n=1:=λh=>by lia
 cases R with
 |link a b=>cases J
 |ei r B=>
  obtain rfl:n=0:=by have:n<1:=J;lia
  exact⟨λz=>absurd z.2 (by show ¬2=3;decide),⟨Bl _ _,by show 3<=1000;decide,λz=>absurd z.1 (by show ¬3=0;decide),Bl _ _,by show 3<=1000;decide,xg q⟩⟩
 |bo r B C=>
  rcases two J with rfl|rfl
  ·exact⟨λz=>absurd z.2 (by show ¬2=4;decide),⟨Bl _ _,by show 3<=1000;decide,λz=>absurd z.1 (by show ¬3=0;decide),Bl _ _,by show 4<=1000;decide,xg q⟩⟩
  ·exact⟨λz=>absurd z.2 (by show ¬3=4;decide),⟨Bl _ _,by show 4<=1000;decide,λz=>absurd z.1 (by show ¬4=0;decide),Bl _ _,by show 4<=1000;decide,xg q⟩⟩
 |cu a b B C=>
  rcases two J with rfl|rfl
  ·exact⟨λz=>absurd z.2 (by show ¬3=5;decide),⟨Bl _ _,by show 4<=1000;decide,λz=>absurd z.1 (by show ¬4=0;decide),Bl _ _,by show 5<=1000;decide,xg q⟩⟩
  ·exact⟨λz=>absurd z.2 (by show ¬4=5;decide),⟨Bl _ _,by show 5<=1000;decide,λz=>absurd z.1 (by show ¬5=0;decide),Bl _ _,by show 5<=1000;decide,xg q⟩⟩
theorem cW:∀A:Ru,(xn A).flatMap aT=qm A
 |.link p q=>rfl
 |.ei r A=>by show r::(xn A).flatMap aT=_;rw[cW A];rfl
 |.bo r A B=>by show r::(xn A++xn B).flatMap aT=_;rw[AB,cW A,cW B];rfl
 |.cu p q A B=>by show(xn A++xn B).flatMap aT=_;rw[AB,cW A,cW B];rfl
theorem wT(A:Ru):(aT A).length<=2:=by cases A<;>simp[aT]
def fV:jz:=λys L Q=>∃A:Ru,ys=[qi A]/\ji A<=120/\aQ A<=1000/\∀p,L p=none->Q (.ref p) (qf L p (.lst (nY (qm A))))
theorem uF:∀ys L Q,fV ys L Q->vg (u5 (bJ 120) iG) 3 ys L Q:=by
 rintro ys L Q ⟨A,rfl,hd,T,q⟩;have big:=bg_;intro l o;refine⟨A,rfl,hd,T,λp C=>?_⟩;have U:l≠p:=km q8 C;have s0:qg L (qf (qf L l (.lst [])) p (.lst ((xn A).map qi))):=(By o).trans (By C);have sz:∀i,(((xn A).take i).flatMap aT).length<=2000:=λi=>by
  have h1:∀l:List Ru,(l.flatMap aT).length<=2*l.length:=λl=>by induction l with|nil=>exact Al _|cons x r ih=>have:=wT x;rw[AK,Ac,AN];lia
  have h2:=h1 ((xn A).take i);rw[A4,be] at h2;lia
 refine xc q8 λkeep kp=>xi ⟨λi j J=>∃c2,j=[some (qi A),some (.ref l),c2]/\qg L J/\J l=some (.lst (nY (((xn A).take i).flatMap aT)))/\J p=some (.lst ((xn A).map qi)),⟨_,rfl,s0,(qb U).trans q8,q8⟩,?_,?_,?_⟩
 ·rintro i j J ⟨c2,rfl,s,g,g2⟩;exact kp J (by rw[g2,q8])
 ·rintro i y j J I ⟨c2,rfl,s,g,g2⟩;rw[An] at I;obtain⟨B,eB,rfl⟩:=Ao.mp I;have et:(xn A).take (i+1)=(xn A).take i++[B]:=by rw[Bd,eB];rfl
  have zi:=sz i;have ol:=wT B;refine qc g ⟨B,rfl,λp5 t=>?_⟩;have np:l≠p5:=km g t;refine qx ((qb np).trans g) (qx q8 ⟨?_,?_⟩)
  ·rw[kc,kc];exact Bo (big _ (by lia))
  ·refine⟨_,DO _,_,rfl,(s.trans (By t)).upd o,?_,(qb (AE U)).trans ((qb (km g2 t)).trans g2)⟩;rw[q8,et,AB,CU,ff]
 ·rintro j J ⟨c2,rfl,s,g,_⟩;rw[Ab,Ba,cW] at g;exact aI (EL s g) (q l o)
def aD(ts:List Nat)(B:Ru):Bool:=(ts.map λt=>decide (t∈qm B)).all id
def x4(R:Ru)(ts:List Nat):Option Nat:=(qk R).findIdx? (aD ts)
def ixY:Option Nat->Y
 |none=>.non
 |some k=>.int (k:Int)
theorem aaj(R:Ru):(qk R).length<=2:=by cases R<;>simp[qk]
theorem iA{p:α->Bool}{l:List α}{x:α}(h:l[i]?=some x)(U:∀y∈l.take i,p y=false)(g:p x=true):l.findIdx? p=some i:=by have J:=zw h;rw[CN];refine⟨J,by rw[Af J] at h;rw[AO h];exact g,λj o=>?_⟩;rw[U _ (List.mem_iff_getElem?.mpr ⟨j,by rw[Ck,AC o,Af (by lia)]⟩)];simp
def l9:jz:=λys L Q=>∃R:Ru,∃a,∃ts:List Nat,ys=[qi R,.ref a]/\L a=some (.lst (nY ts))/\ts.length<=1000/\ji R<=120/\aQ R<=1000/\Q (ixY (x4 R ts)) L
theorem ab5:∀ys L Q,l9 ys L Q->vg (hX wq fV) 5 ys L Q:=by
 rintro ys L Q ⟨R,a,ts,rfl,ha,hz,hd,hr,q⟩;have big:=bg_;refine⟨R,rfl,λpa p=>?_⟩;have s0:qg L (qf L pa (.lst ((qk R).map qi))):=By p;refine xc q8 λkeep r=>xi ⟨λi l J=>∃c2 c3 c4,l=[some (qi R),some (.ref a),c2,c3,c4]/\qg L J/\J pa=some (.lst ((qk R).map qi))/\∀B∈(qk R).take i,aD ts B=false,⟨_,_,_,rfl,s0,q8,λB hB=>by cases hB⟩,?_,?_,?_⟩
 ·rintro i l J ⟨c2,c3,c4,rfl,s,g,_⟩;exact r J (by rw[g,q8])
 ·rintro i y l J I ⟨c2,c3,c4,rfl,s,g,no⟩;obtain⟨z,ez,rfl⟩:=dw I;rw[An] at ez;obtain⟨B,T,rfl⟩:=Ao.mp ez;have mB:=Aw T;have zB:=pF mB;have dB:=kg mB;refine⟨B,rfl,by lia,by lia,λp5 h5=>?_⟩;have s5:=s.trans (By (o:=.lst (nY (qm B))) h5);have g5:=By (o:=.lst (nY (qm B))) h5 _ _ g;have e5:qf J p5 (.lst (nY (qm B))) p5=some (.lst (nY (qm B))):=q8;generalize qf J p5 (.lst (nY (qm B)))=L5 at s5 g5 e5 ⊢;refine xc (s5 _ _ ha) λkeep r=>dZ (λi zs=>zs=((ts.take i).map λt=>decide (t∈qm B)).map Y.bl) (by rw[kc];exact big _ (by lia)) (r _ rfl) rfl ?_ ?_
  ·rintro j y zs I rfl;obtain⟨m,em,rfl⟩:=dY I;refine qc e5 ⟨rfl,kD _,?_⟩;rw[jV];exact⟨_,DO _,rfl,by rw[Bd,em,Av,Av];rfl⟩
  rintro zs rfl p6 h6;rw[kc,Ba];have s6:=s5.trans (By (o:=.lst ((ts.map λt=>decide (t∈qm B)).map Y.bl)) h6);have g6:=By (o:=.lst ((ts.map λt=>decide (t∈qm B)).map Y.bl)) h6 _ _ g5;refine⟨rfl,qc q8 (ql (aca _) ?_)⟩;by_cases c:aD ts B=true
  ·refine aK c ?_;rw[show x4 R ts=some i from iA T no c] at q;exact aI s6 q
  ·refine jd (BP.mpr c) ⟨_,DO _,_,_,_,rfl,s6,g6,λC U=>?_⟩;rw[Bd,T] at U;rcases Aq.mp U with U|U
   ·exact no C U
   ·rw[Ai.mp U];exact BP.mpr c
 ·rintro l J ⟨c2,c3,c4,rfl,s,g,no⟩;rw[iY,Ab,Ba] at no;rw[show x4 R ts=none from CA.mpr no] at q;exact aI s q
def rsY:Option Ru->Y
 |none=>.non
 |some R=>qi R
def wc(ks:List Kn)(R:Ru)(k:Nat):Option Ru:=match (qk R)[k]?,(ju ks R)[k]? with
 |some I,some ts=>match x4 I ts with
  |none=>none
  |some n=>match (qk I)[n]? with
   |some B=>some (qy I n (qy R k B))
   |none=>none
 |_,_=>none
theorem oX{ts:List Nat}(h:x4 R ts=some n):∃B,(qk R)[n]?=some B/\aD ts B=true:=by obtain⟨h1,h2,_⟩:=CN.mp h;exact⟨_,Af h1,h2⟩
theorem Paired.len{α β:Type}{F:α->β->Prop}:∀{xs:List α} {ys:List β},Paired F xs ys->xs.length=ys.length
 |_,_,.nil=>rfl
 |_,_,.cons _ r=>Bv (· + 1) (Paired.len r)
abbrev DW:=@Paired.len
def jO:jz:=λys L Q=>∃a,∃wd:List (Option Kn),∃ks:List Kn,∃R:Ru,∃E:List Nat,∃k:Nat,∃J:Int,ys=[.ref a,qi R,.int J]/\J=(k:Int)/\L a=some (.lst (dU wd))/\SR ks R E/\zU ks wd R/\k<(qk R).length/\ji R<=120/\aQ R<=1000/\Q (rsY (wc ks R k)) L
theorem aeb:∀ys L Q,jO ys L Q->vg (og wq l9 o8 gH) 5 ys L Q:=by
 rintro ys L Q ⟨a,wd,J,R,E,k,ki,rfl,rfl,ha,sr,ag,hk,hd,hz,q⟩;have pl:=DW sr.arms;have U:(qk R)[k]?=some (qk R)[k]:=Af hk;have g:(ju J R)[k]?=some ((ju J R)[k]'(by lia)):=Af (by lia);generalize (qk R)[k]=I at U;generalize (ju J R)[k]'(by lia)=ts at g;have mI:=Aw U;have zI:=pF mI;have dI:=kg mI;have tl:=i4 ts (Aw g);have eT:wc J R k=match x4 I ts with|none=>none|some n=>match (qk I)[n]? with|some B=>some (qy I n (qy R k B))|none=>none:=by unfold wc;rw[U,g]
 rw[eT] at q;clear eT;refine⟨R,rfl,λp1 h1=>?_⟩;refine qc q8 (ql (jt U) ?_);have l:=By (o:=.lst ((qk R).map qi)) h1;generalize qf L p1 (.lst ((qk R).map qi))=L1 at l ⊢;refine⟨a,wd,J,R,E,rfl,l _ _ ha,sr,ag,λp t L2 s2 _ gp pr=>?_⟩;obtain⟨r,j,_,gr⟩:∃r,t[k]?=some r/\L1 r=none/\L2 r=some (.lst (nY ts)):=by have hl:=DW pr;have j:t[k]?=some (t[k]'(by lia)):=Af (by lia);have h:=DU pr j g;exact⟨_,j,h⟩
 have s3:=l.trans s2;refine qc gp (ql (jt j) ⟨I,r,ts,rfl,gr,by lia,by lia,by lia,?_⟩);cases C:x4 I ts with
 |none=>
  rw[C] at q;exact aI s3 q
 |some n=>
  rw[C] at q;obtain⟨B,T,_⟩:=oX C;have q:Q (rsY (match (qk I)[n]? with|some B=>some (qy I n (qy R k B))|none=>none)) L:=q;rw[T] at q;have mB:=zw T;refine⟨I,rfl,λp4 h4=>qc q8 (ql (jt T) ⟨R,B,k,_,rfl,rfl,hk,⟨I,qy R k B,n,_,rfl,rfl,mB,aI (s3.trans (By h4)) q⟩⟩)⟩
def jw(R:Ru)(i:Int):Option Ru:=if 0<=i/\i<((qk R).length:Int) then(qk R)[i.toNat]? else none
theorem vq{B:Ru}{i:Int}(h:jw R i=some B):∃k:Nat,i=(k:Int)/\(qk R)[k]?=some B:=by
 unfold jw at h;split at h
 ·rename_i c;exact⟨i.toNat,by lia,h⟩
 ·cases h
def cX(C:Addr):eZ:=λys L Q E=>∃R:Ru,∃i:Int,ys=[qi R,.int i]/\(∀B,jw R i=some B->Q (qi B) L)/\(jw R i=none->E C L)
theorem adv :∀ys L Q E,cX C ys L Q E->vg (sj C (sV E) wq) 3 ys L Q:=by
 rintro ys L Q E ⟨R,i,rfl,q,ex⟩;refine⟨R,rfl,λj h1=>?_⟩;have J:=By (o:=.lst ((qk R).map qi)) h1;have no:¬(0<=i/\i<((qk R).length:Int))->∀U,sV E U C (qf L j (.lst ((qk R).map qi))):=λc U=>⟨L,J,ex (by unfold jw;rw[AF c])⟩;by_cases c1:0<=i
 ·walk_at "w";rw[AD c1];refine qc q8 ?_;by_cases c2:i<((qk R).length:Int)
  ·refine jd (by show(!decide (i<((((qk R).map qi).length:Nat):Int)))=false;rw[Ab,AD c2];rfl) ?_;obtain⟨k,rfl⟩:∃k:Nat,i=(k:Int):=⟨i.toNat,by lia⟩;have g:k<(qk R).length:=by lia
   refine qc q8 (ql (jt (Af g)) (aI J (q _ ?_)));unfold jw;rw[AC ⟨c1,c2⟩,AQ];exact Af g
  ·refine aK (by show(!decide (i<((((qk R).map qi).length:Nat):Int)))=true;rw[Ab,Au c2];rfl) ?_;exact⟨Bt rfl,no (λh=>c2 h.2) _⟩
 ·walk_at "w";rw[Au c1];exact⟨Bt rfl,no (λh=>c1 h.1) _⟩
def v0:Ru->List Int->Option (List Ru)
 |R,[]=>some [R]
 |R,i::w=>match jw R i with
  |none=>none
  |some B=>(v0 B w).map (R::·)
theorem du{w:List Int}{m:List Ru}(h:v0 R w=some m):∃J,m=R::J/\J.length=w.length:=by
 induction w generalizing R m with
 |nil=>cases h;exact⟨[],rfl,rfl⟩
 |cons i w U=>
  unfold v0 at h;cases e:jw R i with
  |none=>rw[e] at h;cases h
  |some B=>
   rw[e] at h;obtain⟨j,g,rfl⟩:=Ao.mp h;obtain⟨o,rfl,l⟩:=U g;exact⟨_,rfl,Bv (· + 1) l⟩
theorem lD{w:List Int}{l:List Ru}(h:v0 R w=some (l++[S]))(x:Int)(u:List Int):v0 R (w++x::u)=(v0 S (x::u)).map (l++·):=by
 induction w generalizing R l with
 |nil=>
  have h:[R]=l++[S]:=AO h;cases l with|nil=>cases h;show _=Option.map (λz=>z) _;rw[Option.map_id'];rfl|cons a l=>have:=Bv List.length h;simp at this
 |cons i w g=>
  unfold v0 at h;rw[List.cons_append];show(match jw R i with|none=>none|some B=>(v0 B (w++x::u)).map (R::·))=_;cases e:jw R i with
  |none=>rw[e] at h;cases h
  |some B=>
   rw[e] at h;obtain⟨o,J,U⟩:=Ao.mp h;obtain⟨p,rfl,_⟩:=du J;cases l with
   |nil=>cases U
   |cons a l=>
    obtain⟨rfl,j⟩:=Cc U;rw[j] at J;show(v0 B (w++x::u)).map (R::·)=_;rw[g J,Option.map_map];rfl
theorem abe{w:List Int}{m:List Ru}(h:v0 R w=some m):∀(i:Nat) (x:Int) (A:Ru),w[i]?=some x->m[i]?=some A->∃B,jw A x=some B/\m[i+1]?=some B:=by
 induction w generalizing R m with
 |nil=>intro i x A J;cases J
 |cons j w l=>
  unfold v0 at h;cases e:jw R j with
  |none=>rw[e] at h;cases h
  |some B=>
   rw[e] at h;obtain⟨o,U,rfl⟩:=Ao.mp h;intro i x A J g;cases i with
   |zero=>
    cases J;cases g;obtain⟨p,rfl,_⟩:=du U;exact⟨B,e,rfl⟩
   |succ i=>exact l U i x A J g
theorem zE{w:List Int}{m:List Ru}(h:v0 R w=some m):∀A∈m,A∈xn R:=by
 induction w generalizing R m with
 |nil=>cases h;intro A J;rw[Ai.mp J,xl];exact Aj ..
 |cons i w U=>
  unfold v0 at h;cases e:jw R i with
  |none=>rw[e] at h;cases h
  |some B=>
   rw[e] at h;obtain⟨l,g,rfl⟩:=Ao.mp h;obtain⟨k,_,j⟩:=vq e;intro A J;rw[xl];rcases Am.mp J with rfl|J
   ·exact Aj ..
   ·exact Ad _ (AX.mpr ⟨B,Aw j,U g A J⟩)
def gR(C:Addr):eZ:=λys L Q E=>∃R:Ru,∃h,∃w:List Int,ys=[qi R,.ref h]/\L h=some (.lst (w.map Y.int))/\w.length<=1000/\(∀m,v0 R w=some m->∀p,L p=none->Q (.ref p) (qf L p (.lst (m.map qi))))/\(v0 R w=none->E C L)
theorem adb :∀ys L Q E,gR C ys L Q E->vg (fJ (sV E) (cX C)) 4 ys L Q:=by
 rintro ys L Q E ⟨R,h,w,rfl,p,hz,q,ex⟩;have big:=bg_;intro l r;have t:qg L (qf L l (.lst [qi R])):=By r;refine xc (t _ _ p) λkeep T=>xi ⟨λi o U=>∃c3 m S,o=[some (qi R),some (.ref h),some (.ref l),c3]/\qg L U/\U l=some (.lst ((m++[S]).map qi))/\v0 R (w.take i)=some (m++[S]),⟨_,[],R,rfl,t,q8,rfl⟩,?_,?_,?_⟩
 ·rintro i o U ⟨c3,m,S,rfl,s,_⟩;exact T U (by rw[s _ _ p,t _ _ p])
 ·rintro i y o U I ⟨c3,m,S,rfl,s,g,j⟩;rw[An] at I;obtain⟨x,J,rfl⟩:=Ao.mp I;have hi:=zw J;have et:w.take (i+1)=w.take i++[x]:=by rw[Bd,J];rfl
  have ew:w=w.take i++x::w.drop (i+1):=by rw[Af hi] at J;rw[<-AO J,BF,A5]
  have ml:(m++[S]).length<=1001:=by obtain⟨m',e,l⟩:=du j;rw[e,AN,l,A4];lia
  rw[Av] at g;refine qc g (qc g (ql (gG _ _) ⟨S,x,rfl,λB hB=>?_,λhn=>⟨L,s,ex ?_⟩⟩))
  ·refine qx g ⟨?_,?_⟩
   ·rw[<-Av,Ab];exact big _ (by lia)
   ·refine⟨_,DO _,_,m++[S],B,rfl,s.upd r,by rw[q8,Av,Av];rfl,?_⟩;rw[et,lD j];show((match jw S x with|none=>none|some B=>(v0 B []).map (S::·)).map (m++·))=_;rw[hB,AR];rfl
  ·rw[ew,lD j];show((match jw S x with|none=>none|some B=>(v0 B _).map (S::·)).map (m++·))=_;rw[hn];rfl
 ·rintro o U ⟨c3,m,S,rfl,s,g,j⟩;rw[Ab,Ba] at j;exact aI (EL s g) (q _ j l r)
def js:Ru->List Int->Ru->Ru
 |_,[],T=>T
 |R,i::w,T=>match jw R i with
  |some B=>qy R i.toNat (js B w T)
  |none=>R
def j6:Ru->List Int->Option Ru
 |R,[]=>some R
 |R,i::w=>match jw R i with
  |some B=>j6 B w
  |none=>none
theorem abo{w:List Int}{l:List Ru}(h:v0 R w=some (l++[S])):j6 R w=some S:=by
 induction w generalizing R l with
 |nil=>
  have h:[R]=l++[S]:=AO h;cases l with|nil=>cases h;rfl|cons a l=>have:=Bv List.length h;simp at this
 |cons i w g=>
  unfold v0 at h;unfold j6;cases e:jw R i with
  |none=>rw[e] at h;cases h
  |some B=>
   rw[e] at h;obtain⟨o,J,U⟩:=Ao.mp h;obtain⟨p,rfl,_⟩:=du J;cases l with
   |nil=>cases U
   |cons a l=>
    obtain⟨_,j⟩:=Cc U;rw[j] at J;exact g J
theorem adf{w:List Int}(h:v0 R w=none):j6 R w=none:=by
 induction w generalizing R with
 |nil=>cases h
 |cons i w J=>
  unfold v0 at h;unfold j6;cases e:jw R i with
  |none=>rfl
  |some B=>
   rw[e] at h;exact J (Option.map_eq_none_iff.mp h)
def qE(ks:List Kn)(R:Ru)(w:List Int)(i:Int):Option Ru:=match j6 R w with
 |none=>none
 |some S=>match jw S i with
  |none=>none
  |some _=>(wc ks S i.toNat).map (js R w)
theorem kC(T:Ru):∃zs,qi T=.tup zs:=by cases T<;>exact⟨_,rfl⟩
def pM(C:Addr):eZ:=λys L Q E=>∃a h,∃wd:List (Option Kn),∃ks:List Kn,∃R:Ru,∃F:List Nat,∃w:List Int,∃i:Int,ys=[.tup [.ref a,qi R],.ref h,.int i]/\L a=some (.lst (dU wd))/\L h=some (.lst (w.map Y.int))/\SR ks R F/\zU ks wd R/\w.length<=1000/\(qm R).length<=120/\
 (∀R',qE ks R w i=some R'->∀p,L p=none->Q (.tup [.ref p,qi R']) (qf L p (.lst (dU wd))))/\(qE ks R w i=none->E C L)
theorem agg :∀ys L Q E,pM C ys L Q E->vg (i7 C (sV E) (gR C) (cX C) jO gH) 7 ys L Q:=by
 rintro ys L Q E ⟨a,h,wd,r,R,F,w,i,rfl,ha,hh,sr,ag,hz,tl,q,ex⟩;refine⟨R,h,w,rfl,hh,hz,λm hm p1 h1=>?_,λhn=>⟨L,DO _,ex (by unfold qE;rw[adf hn])⟩⟩;obtain⟨m',em,lm⟩:=du hm;have m0:m[0]?=some R:=by rw[em];rfl
 have lm:m.length=w.length+1:=by rw[em,AN,lm]
 clear em;obtain⟨l,S,rfl⟩:∃l S,m=l++[S]:=by
  rcases Cq m with rfl|⟨l,S,e⟩
  ·cases m0
  ·exact⟨l,S,by rw[e,Cr]⟩
 have eS:j6 R w=some S:=abo hm;have mS:=zE hm S (Ag _ (Ai.mpr rfl));obtain⟨⟨ES,sS⟩,tS,t,dS,_⟩:=sr.rls S mS;have a5:=t.length_le;have rd:=xq S;have rz:=wx S;have p:=By (o:=.lst ((l++[S]).map qi)) h1;have g1:qf L p1 (.lst ((l++[S]).map qi)) p1=some (.lst ((l++[S]).map qi)):=q8;generalize qf L p1 (.lst ((l++[S]).map qi))=L1 at p g1 ⊢;have U:=g1;rw[Av] at U;refine qc U (ql (gG _ _) ⟨S,i,rfl,λB hB=>?_,λhn=>⟨L,p,ex (by unfold qE;rw[eS];show(match jw S i with|none=>none|some _=>_)=none;rw[hn])⟩⟩);obtain⟨k,rfl,eB⟩:=vq hB;have I:qE r R w (k:Int)=(wc r S k).map (js R w):=by unfold qE;rw[eS];show(match jw S (k:Int) with|none=>none|some _=>_)=_;rw[hB];show(wc r S (k:Int).toNat).map _=_;rw[AQ]
 refine qc U (ql (gG _ _) ⟨a,wd,r,S,ES,k,_,rfl,rfl,p _ _ ha,sS,λx hx=>ag x (tS x hx),zw eB,by lia,by lia,?_⟩);cases hT:wc r S k with
 |none=>exact⟨Bt rfl,L,p,ex (by rw[I,hT];rfl)⟩
 |some T=>
  have qT:=q _ (by rw[I,hT];rfl);obtain⟨zs,ez⟩:=kC T;rw[show rsY (some T)=.tup zs from ez];refine qc (p _ _ hh) (qc g1 λp2 h2=>?_);have s2:=p.trans (By (o:=.lst (m4 (w.map Y.int) ((l++[S]).map qi))) h2);have g2:qf L1 p2 (.lst (m4 (w.map Y.int) ((l++[S]).map qi))) p2=some (.lst (m4 (w.map Y.int) ((l++[S]).map qi))):=q8;generalize qf L1 p2 (.lst (m4 (w.map Y.int) ((l++[S]).map qi)))=L2 at s2 g2 ⊢;have zl:(m4 (w.map Y.int) ((l++[S]).map qi)).length=w.length:=by rw[ac7,Ab,Ab];lia
  refine xc g2 λkeep kp=>xi ⟨λj τ L'=>∃c5 c6 A J,τ=[some (.tup [.ref a,qi R]),some (.ref h),some (.int (k:Int)),some (.ref p1),some (qi J),c5,c6]/\L'=L2/\j<=w.length/\(l++[S])[w.length-j]?=some A/\J=js A (w.drop (w.length-j)) T,⟨none,none,S,T,by rw[ez];rfl,rfl,A9 _,?_,?_⟩,?_,?_,?_⟩
  ·have:l.length=w.length:=by rw[Ac,BH] at lm;lia
   rw[DD,<-this,Ay (Al _),Cm];rfl
  ·rw[DD,List.drop_length];rfl
  ·rintro j τ L' ⟨c5,c6,A,J,rfl,rfl,_⟩;exact kp _ rfl
  ·rintro j y τ L' hy ⟨c5,c6,A,J,rfl,rfl,hj,eA,rfl⟩;have a1:j<w.length:=by have:=zw hy;rwa[BG,zl] at this
   rw[CW (by rw[zl];exact a1),zl] at hy;obtain⟨u,v,eu,ev,rfl⟩:=afw hy;rw[An] at eu ev;obtain⟨x,g,rfl⟩:=Ao.mp eu;obtain⟨D,eD,rfl⟩:=Ao.mp ev;obtain⟨B',a2,a3⟩:=abe hm _ x D g eD;rw[show w.length-1-j+1=w.length-j by lia,eA] at a3;cases a3;obtain⟨k',rfl,a4⟩:=vq a2;refine⟨D,_,k',_,rfl,rfl,zw a4,?_⟩;refine⟨_,DO _,_,_,D,_,rfl,rfl,a1,by rw[show w.length-(j+1)=w.length-1-j by lia];exact eD,?_⟩;have ed:w.drop (w.length-(j+1))=(k':Int)::w.drop (w.length-j):=by rw[show w.length-(j+1)=w.length-1-j by lia,B1 (by lia),show w.length-1-j+1=w.length-j by lia];rw[Af (by lia)] at g;rw[AO g]
   rw[ed];show _=match jw D (k':Int) with|some B=>qy D (k':Int).toNat (js B _ T)|none=>D
   rw[a2,AQ]
  ·rintro τ L' ⟨c5,c6,A,J,rfl,rfl,hj,eA,rfl⟩;rw[BG,zl,Cm] at eA;rw[m0] at eA;cases eA;rw[BG,zl,Cm,De];refine qc (s2 _ _ ha) λp7 h7=>?_;refine⟨_,λb o e=>?_,qT p7 (s2.none h7)⟩;by_cases cc:b=p7
   ·subst cc;rw[q8] at e ⊢;exact e
   ·rw[qb cc] at e ⊢;exact s2 _ _ e
def aga(J:jz):kn:=(qo (zn (ku (qe (x0 zb) (qe sY (qe (x0 (vn (qa 1))) zb)))) (bV 3 (jm (qh 2) (jm (qh 3) (jm (qh 4) bK)))))
 (qo (hW (m6 (qa 4) (x0 zb)) (qo (zn (ak u9 (qa 4) zb) (qh 5))
 (kM (jl (f9 (jr 5 0) (cj "link")) (jy (ak aW (qa 2) (qe (x0 (aS (jr 5 1) (jr 5 2))) zb))) (jl (f9 (jr 5 0) (cj "cut")) (qo (dy (qa 3) (jr 5 1) (yC (.bl true)))
 (dy (qa 3) (jr 5 2) (yC (.bl true)))) (qo (jy (ak jf (qa 2) (vn (jr 5 1))))
 (qo (dy (qa 3) (zh af (zh af (qa 0) (jr 5 1)) (jp 1)) (yC (.bl true)))
 (dy (qa 3) (zh af (zh af (qa 0) (jr 5 1)) (jp 2)) (yC (.bl true)))))))
 (jy (ak aW (qa 4) (qe (za J (vn (qa 5))) zb))))))
 (zu (uz 1 (vv (qa 2)) (qh 6) (yB (zh (qN true) (qa 6) (qa 3))) (qa 6)))))
def o0:kn:=(qo (jl (f9 (jr 1 0) (cj "cut")) (zu (x0 (qe (zh af (qa 1) (zh kw (jp 1) (qa 2))) zb))) zq)
 (qo (jl (f9 (jr 1 0) (cj "both")) (zu (x0 (qe (zh af (zh af (qa 0) (jr 1 1)) (zh kw (jp 1) (qa 2))) zb))) zq)
 (zu (gq ar (qe (tU mo (zh af (qa 0) (jr 1 1)) (aB (jp 1)) aE) zb)))))
def qR(J:jz)(p1:jz)(p2:jz):kn:=(qo (jl (pX (yB (zh yLt (qa 2) (jp 0))) (yB (zh yGe (qa 2) (gq lW (qe (za J (vn (qa 1))) zb))))) (zu (yC .non)) zq)
 (qo (zn (zh af (za J (vn (qa 1))) (qa 2)) (qh 3))
 (qo (zn (za p1 (qe (qa 0) (aS (qa 1) (qa 2)))) (qh 4))
 (qo (jl (r9 (m6 (jr 3 0) (cj "cut")) (yB (zh (iN false) (jr 3 1) (qa 4)))) (zu (yC .non)) zq)
 (qo (ay (fi (za J (vn (qa 3)))) (bV 2 (jm (qh 5) (jm (qh 6) bK))) (qo (zn (za p2 (aS (qa 0) (qa 6))) (qh 7))
 (jl (f9 (uz 1 (vv (qa 4)) (qh 8) (yB (zh (iN true) (qa 8) (qa 7))) (qa 8)) (x0 zb)) (zu (qa 5)) zq)))
 (zu (yC .non)))))))
def tkO(ks:List Kn)(B:Ru):List Nat:=(ju ks B).flatten
def iF(ks:List Kn)(R:Ru):List Nat:=(xn R).flatMap (tkO ks)
theorem a7(ks:List Kn)(A:Ru):iF ks A=tkO ks A++(qk A).flatMap (iF ks):=by unfold iF;rw[xl A,AK,List.flatMap_assoc]
theorem SR.tk{E:List Nat}(h:SR ks R E):(iF ks R).Perm (iX ks (qm R)++k8 (jb R)):=by
 induction h with
 |@link p q t n g h1 h2 h3 l o=>
  have e:iX ks [p,q]=[]:=by rw[a6,a6,h2,h3];rfl
  show([]:List Nat).Perm (iX ks [p,q]++[]);rw[e];exact BM _
 |@ei r i j A C g h1 I h3 l o T h7 ih=>
  have e:iF ks (.ei r A)=[i,j]++iF ks A:=by rw[a7];show [vi ks[r]?].flatten++(iF ks A++[])=_;rw[h1,A1];rfl
  rw[e];show List.Perm _ (iX ks (r::qm A)++k8 (jb A));rw[a6,h1];exact(List.Perm.append_left [i,j] ih).trans (by rw[<-AR];exact BM _)
 |@bo r i j A B C EB g h1 I hB l o T h7 J U=>
  have e:iF ks (.bo r A B)=[i,j]++(iF ks A++iF ks B):=by rw[a7];show((vi ks[r]?).map λx=>[x]).flatten++(iF ks A++(iF ks B++[]))=_;rw[h1,A1];rfl
  rw[e];show List.Perm _ (iX ks (r::(qm A++qm B))++k8 (jb A++jb B));rw[a6,h1,jR,a8];show List.Perm _ ([i,j]++(iX ks (qm A)++iX ks (qm B))++(k8 (jb A)++k8 (jb B)));refine Bs.mpr λa=>?_;have c1:=J.count_eq a;have c2:=U.count_eq a;simp only[Bc] at c1 c2 ⊢;lia
 |@cu p q A B C EB g w I hB h3 l o T h7 h8 J U=>
  have e:iF ks (.cu p q A B)=[p,q]++(iF ks A++iF ks B):=by rw[a7];show [[p],[q]].flatten++(iF ks A++(iF ks B++[]))=_;rw[A1];rfl
  rw[e];show List.Perm _ (iX ks (qm A++qm B)++k8 ((p,q)::(jb A++jb B)));rw[jR,iQ,a8];show List.Perm _ (iX ks (qm A)++iX ks (qm B)++([p,q]++(k8 (jb A)++k8 (jb B))));refine Bs.mpr λa=>?_;have c1:=J.count_eq a;have c2:=U.count_eq a;simp only[Bc] at c1 c2 ⊢;lia
theorem cq{E:List Nat}(h:SR ks R E)(nd:(qm R).Nodup)(x:Nat):x∈E↔x∈qm R/\x∉iF ks R:=by
 have P:(iF ks R++E).Perm (qm R):=((h.tk.append_right E).trans (by rw[AR])).trans (h.part nd);have N:=Ap.mp (P.nodup_iff.mpr nd);constructor
 ·intro J;exact⟨P.mem_iff.mp (Ag _ J),λz=>N.2.2 x z x J rfl⟩
 ·rintro⟨a,b⟩;rcases Aq.mp (P.mem_iff.mpr a) with z|z
  ·exact absurd z b
  ·exact z
theorem ah6{E:List Nat}(h:SR ks R E)(nd:(qm R).Nodup):(iF ks R).length<=(qm R).length:=by have P:(iF ks R++E).Perm (qm R):=((h.tk.append_right E).trans (by rw[AR])).trans (h.part nd);have:=P.length_eq;rw[Ac] at this;lia
theorem SR.arm{B:Ru}{E:List Nat}(h:SR ks R E)(U:B∈qk R):∃J,SR ks B J:=by obtain⟨i,e⟩:=Cu U;have l:=DW h.arms;have o:=zw e;have g:(ju ks R)[i]?=some ((ju ks R)[i]'(by lia)):=Af (by lia);obtain⟨J,j,_⟩:=DU h.arms e g;exact⟨J,j⟩
theorem adt(l:List Ru):l.length<=(l.map aQ).sum:=by induction l with|nil=>exact Al _|cons x r J=>have:=pL x;simp;lia
def bL:jz:=λys L Q=>∃a,∃wd:List (Option Kn),∃ks:List Kn,∃R:Ru,∃E:List Nat,ys=[.ref a,qi R]/\L a=some (.lst (dU wd))/\SR ks R E/\zU ks wd R/\(qm R).Nodup/\(qm R).length<=120/\
 ∀p F,L p=none->(∀x,x∈F↔x∈E)->Q (.ref p) (qf L p (.lst (nY F)))
def tLe(a:Addr)(R:Ru)(tl td J:Addr)(c:Option Y):jq:=[some (.ref a),some (qi R),some (.ref tl),some (.ref td),some (.ref J),c]
structure LeI(ks:List Kn)(R:Ru)(tk us:List Nat)(kvs:List (jg×Y))(st:List Ru):Prop where
 si:qH R tk st
 ui:wW us kvs
 tq:(us++st.flatMap (iF ks)).Perm (iF ks R)
 sr:∀B∈st,∃EB,SR ks B EB
theorem ab3:∀ys L Q,bL ys L Q->vg (aga w9) 6 ys L Q:=by
 rintro ys L Q ⟨a,wd,ks,R,E,rfl,ha,sr,ag,nd,tl,q⟩;have big:=bg_;have rd:=xq R;have rz:=wx R;have au:=ah6 sr nd;intro la a2 ta a5 j a3;have U:la≠ta:=km q8 a5;have r:ta≠j:=km q8 a3;have t:la≠j:=km ((qb U).trans q8) a3;have g:L ta=none:=jk a5;have a4:L j=none:=jk (jk a3);have S0:qg L (qf (qf (qf L la (.lst [])) ta (.dct [])) j (.lst [qi R])):=((By a2).trans (By a5)).trans (By a3);refine⟨λm τ C=>∃tk us J st c5,τ=tLe a R la ta j c5/\qg L C/\C la=some (.lst (nY tk))/\C ta=some (.dct J)/\C j=some (.lst (st.map qi))/\LeI ks R tk us J st/\m=(st.map aQ).sum,⟨_,[],[],[],[R],_,rfl,S0,(qb t).trans ((qb U).trans q8),(qb r).trans q8,q8,⟨qH.start R,wW.nil,by simp,λB hB=>by rw[Ai.mp hB];exact⟨E,sr⟩⟩,rfl⟩,?_⟩;rintro m τ C ⟨tk,us,J,st,c5,rfl,s,h1,h3,l,I,rfl⟩;intro p hp;refine ww (n:=120) (m:=0) (by decide) (By hp _ _ l) q8 (aH λA hA=>AM (I.si.dp A hA) (by lia)) (.nil:Paired (jj _ 0) _ []) ?_;have s2:qg L (qf C p (.lst [])):=s.trans (By hp);replace h1:=(qb (o:=.lst []) (km h1 hp)).trans h1;replace h3:=(qb (o:=.lst []) (km h3 hp)).trans h3;replace l:=(qb (o:=.lst []) (km l hp)).trans l;generalize qf C p (.lst [])=L2 at s2 h1 h3 l ⊢;show wn (!(Da.eqs (st.map aZ) [])) _ _;rw[gQ];have kl:=I.ui.len;have pl:=I.si.pt.length_eq;have ul:=I.tq.length_eq;rw[Ac] at pl ul;rcases Cq st with rfl|⟨bZ,A,rfl⟩
 ·refine jd rfl ?_;have pt:tk.Perm (qm R):=by have:=I.si.pt;simpa using this
  have pu:us.Perm (iF ks R):=by have:=I.tq;simpa using this
  refine xc h1 λkeep kp=>dZ (λi zs=>zs=nY ((tk.take i).filter λx=>!decide (x∈us))) (by rw[kc];exact big _ (by lia)) (kp _ rfl) rfl ?_ ?_
  ·rintro i y zs hy rfl;obtain⟨x,ex,rfl⟩:=dY hy;refine zy h3 ?_;rw[I.ui.val];have et:tk.take (i+1)=tk.take i++[x]:=by rw[Bd,ex];rfl
   by_cases c:x∈us
   ·refine jd (by rw[AD c];rfl) ⟨_,DO _,rfl,?_⟩;rw[et,BK,BL,AF (by simp[c])];simp
   ·refine aK (by rw[Au c];rfl) ⟨_,DO _,rfl,?_⟩;rw[et,BK,BL,AC (by simp[c]),ff];rfl
  rintro zs rfl p5 h5;rw[kc,Ba];refine aI (EL (s2.trans (By h5)) q8) (q p5 _ (s2.none h5) λx=>?_);rw[cq sr nd,AJ,pt.mem_iff,Cs,decide_eq_false_iff_not,pu.mem_iff]
 ·rw[Cr] at *;rw[Au (by simp)];refine aK rfl ⟨λa1 C=>∃m',m'<((bZ++[A]).map aQ).sum/\∃tk us J st c5,a1=tLe a R la ta j c5/\qg L C/\C la=some (.lst (nY tk))/\C ta=some (.dct J)/\C j=some (.lst (st.map qi))/\LeI ks R tk us J st/\m'=(st.map aQ).sum,λa1 C h=>h,?_⟩;rw[Av] at l;refine uc l ?_;have s3:qg L (qf L2 j (.lst (bZ.map qi))):=s2.upd a4;replace h1:=(qb (o:=.lst (bZ.map qi)) t).trans h1;replace h3:=(qb (o:=.lst (bZ.map qi)) r).trans h3;clear l;have l:qf L2 j (.lst (bZ.map qi)) j=some (.lst (bZ.map qi)):=q8;generalize qf L2 j (.lst (bZ.map qi))=L3 at s3 h1 h3 l ⊢;obtain⟨EA,sA⟩:=I.sr A (Ag _ (Ai.mpr rfl));have tA:∀x∈qm A,x∈qm R:=λx hx=>I.si.pt.mem_iff.mp (Ag _ (AX.mpr ⟨A,Ag _ (Ai.mpr rfl),hx⟩));have kb:J.length+2<=20000:=by lia
  have tb:tk.length+2<=20000:=by lia
  refine⟨λa1 L4=>∃J,a1=tLe a R la ta j (some (qi A))/\qg L L4/\L4 la=some (.lst (nY (tk++aT A)))/\L4 ta=some (.dct J)/\L4 j=some (.lst (bZ.map qi))/\wW (us++tkO ks A) J,?_,?_⟩
  ·cases sA with
   |@link p0 q0=>
    refine qc h1 λp6 h6=>?_;have n6:la≠p6:=km h1 h6;refine qx ((qb n6).trans h1) (qx q8 ⟨by rw[kc];exact Bo (big _ tb),?_⟩);refine⟨J,rfl,(s3.trans (By h6)).upd a2,by rw[q8,ff];rfl,?_,?_,by rw[show tkO ks (.link p0 q0)=[] from rfl,A1];exact I.ui⟩
    ·rw[qb (AE U)];exact By h6 _ _ h3
    ·rw[qb (AE t)];exact By h6 _ _ l
   |@cu p0 q0 A0 B0=>
    refine zy h3 ⟨big _ (by lia),?_⟩;have U1:=I.ui.put p0 (.bl true);have k1:=dg J (.inl (p0:Int)) (.bl true);refine zy q8 ⟨big _ (by lia),?_⟩;have U2:=U1.put q0 (.bl true);rw[v3];refine⟨_,rfl,s3.upd g,by rw[qb U,h1];simp[aT],q8,by rw[qb (AE r)];exact l,by rw[AR] at U2;exact U2⟩
   |@ei T i0 j0 A0 ao _ hk=>
    have hw:=ag T (tA T (Aj ..)) _ hk;refine qc h1 (qx h1 ⟨by rw[kc];exact big _ (by lia),?_⟩);have w1:=s3.upd (o:=.lst (nY tk++[.int (T:Int)])) a2;have g3:qf L3 la (.lst (nY tk++[.int (T:Int)])) ta=some (.dct J):=(qb (AE U)).trans h3;refine qc (w1 _ _ ha) (ql (jt hw) (zy g3 ⟨big _ (by lia),?_⟩));have U1:=I.ui.put i0 (.bl true);have k1:=dg J (.inl (i0:Int)) (.bl true);have w2:=w1.upd (o:=.dct (ef J (.inl (i0:Int)) (.bl true))) g;refine qc (w2 _ _ ha) (ql (jt hw) (zy q8 ⟨big _ (by lia),?_⟩));have U2:=U1.put j0 (.bl true);rw[v3];refine⟨_,rfl,w1.upd g,by rw[qb U,q8,ff];rfl,q8,by rw[qb (AE r),qb (AE t)];exact l,?_⟩;rw[AR] at U2;have:tkO ks (.ei T A0)=[i0]++[j0]:=by show [vi ks[T]?].flatten=_;rw[hk];rfl
    rw[this];exact U2
   |@bo T i0 j0 A0 B0 ao av _ hk=>
    have hw:=ag T (tA T (Aj ..)) _ hk;refine qc h1 (qx h1 ⟨by rw[kc];exact big _ (by lia),?_⟩);have w1:=s3.upd (o:=.lst (nY tk++[.int (T:Int)])) a2;have g3:qf L3 la (.lst (nY tk++[.int (T:Int)])) ta=some (.dct J):=(qb (AE U)).trans h3;refine qc (w1 _ _ ha) (ql (jt hw) (zy g3 ⟨big _ (by lia),?_⟩));have U1:=I.ui.put i0 (.bl true);have k1:=dg J (.inl (i0:Int)) (.bl true);have w2:=w1.upd (o:=.dct (ef J (.inl (i0:Int)) (.bl true))) g;refine qc (w2 _ _ ha) (ql (jt hw) (zy q8 ⟨big _ (by lia),?_⟩));have U2:=U1.put j0 (.bl true);rw[v3];refine⟨_,rfl,w1.upd g,by rw[qb U,q8,ff];rfl,q8,by rw[qb (AE r),qb (AE t)];exact l,?_⟩;rw[AR] at U2;have:tkO ks (.bo T A0 B0)=[i0]++[j0]:=by show((vi ks[T]?).map λx=>[x]).flatten=_;rw[hk];rfl
    rw[this];exact U2
  ·rintro a1 L4 ⟨al,rfl,s4,g1,g3,g4,U'⟩;refine qc g4 ⟨A,rfl,λp8 h8=>?_⟩;have l1:=I.si.step.sz;have l2:=adt (bZ++qk A);rw[Ac] at l2;refine qx ((qb (km g4 h8)).trans g4) (qx q8 ⟨by rw[Ab,Ab];exact Bo (big _ (by lia)),?_⟩);refine⟨_,DO _,_,qH.lt (tk:=tk) (A:=R),tk++aT A,us++tkO ks A,al,bZ++qk A,_,rfl,(s4.trans (By h8)).upd a4,(qb t).trans ((qb (km g1 h8)).trans g1),(qb r).trans ((qb (km g3 h8)).trans g3),by rw[q8,Av],⟨I.si.step,U',?_,λB hB=>?_⟩,by rw[Av,DK]⟩
   ·refine List.Perm.trans ?_ I.tq;rw[AB,AB,CU,a7 ks A];refine Bs.mpr λz=>?_;simp only[Bc];lia
   ·rcases Aq.mp hB with hB|hB
    ·exact I.sr B (Ar _ hB)
    ·obtain⟨EA,sA⟩:=I.sr A (Ag _ (Ai.mpr rfl));exact sA.arm hB
def aec(J:jz)(p1:jz):kn:=(qo (ay (fi (za J (vn (qa 3)))) (bV 2 (jm (qh 5) (jm (qh 6) bK))) (qo (zn (za p1 (aS (qa 0) (qa 6))) (qh 7))
 (jl (f9 (uz 1 (vv (qa 4)) (qh 8) (yB (zh (iN true) (qa 8) (qa 7))) (qa 8)) (x0 zb)) (zu (qa 5)) zq)))
 (zu (yC .non)))
def bF:jz:=λys L Q=>∃a,∃wd:List (Option Kn),∃ks:List Kn,∃R:Ru,∃E:List Nat,∃k:Nat,∃J:Int,ys=[.ref a,qi R,.int J]/\J=(k:Int)/\L a=some (.lst (dU wd))/\SR ks R E/\zU ks wd R/\k<(qk R).length/\
 ∀p ts,L p=none->(ju ks R)[k]?=some ts->Q (.ref p) (qf L p (.lst (nY ts)))
theorem zD:∀ys L Q,bF ys L Q->vg o0 3 ys L Q:=by
 rintro ys L Q ⟨a,T,g,R,E,k,ki,rfl,rfl,l,C,o,U,q⟩;have two:∀{n:Nat},n<2->n=0\/n=1:=λh=>by lia
 cases C with
 |link=>cases U
 |@cu u v A B t I _ w hA hB h3 h4=>
  rcases two U with rfl|rfl
  ·exactλp J=>xg (q p _ J rfl)
  ·exactλp J=>xg (q p _ J rfl)
 |@ei r i j A t _ h1=>
  obtain rfl:k=0:=by have:k<1:=U;lia
  refine qc l (ql (jt (o r (Aj ..) _ h1)) ⟨λz=>absurd z.1 (by show ¬1=0;decide),λp J=>xg (q p [i,j] J ?_)⟩);show [vi g[r]?][0]?=_;rw[h1];rfl
 |@bo r i j A B t I _ h1=>
  have e:ju g (.bo r A B)=[[i],[j]]:=by show(vi g[r]?).map (λx=>[x])=_;rw[h1];rfl
  rw[e] at q;rcases two U with rfl|rfl
  ·exact qc l (ql (jt (o r (Aj ..) _ h1)) λp J=>xg (q p _ J rfl))
  ·exact qc l (ql (jt (o r (Aj ..) _ h1)) λp J=>xg (q p _ J rfl))
def yp(ks:List Kn)(R:Ru)(i:Int):Option Nat:=match jw R i with
 |none=>none
 |some I=>x4 I ((ju ks R)[i.toNat]?.getD [])
theorem mY{B:Ru}{j l ts:List Nat}(r:SR ks I j)(nd:(qm I).Nodup)(o:B∈qk I)(p:SR ks B l)(U:∀x∈ts,x∈j):(∀x∈ts,x∈l)↔aD ts B=true:=by
 have g:=(vt o).nodup nd;unfold aD;rw[BC];constructor
 ·intro h b t;obtain⟨x,J,rfl⟩:=AS.mp t;exact AD (p.sub x (h x J))
 ·intro h x J;have:=h _ (AS.mpr ⟨x,J,rfl⟩);rw[cq p g];refine⟨of_decide_eq_true this,λz=>((cq r nd x).mp (U x J)).2 ?_⟩;rw[a7];exact Ag _ (AX.mpr ⟨B,o,z⟩)
theorem aio{ts:List Nat}{x:Nat}(nd:(qm I).Nodup)(J:x∈aT I)(U:x∈ts):x4 I ts=none:=by refine CA.mpr λB g=>?_;have e:=w4 I;rw[e] at nd;have:=(Ap.mp nd).2.2 x J;unfold aD;rw[BP];intro h;have h:=BC.mp h _ (AS.mpr ⟨x,U,rfl⟩);exact this x (AX.mpr ⟨B,g,of_decide_eq_true h⟩) rfl
def mL:jz:=λys L Q=>∃a,∃wd:List (Option Kn),∃ks:List Kn,∃R:Ru,∃E:List Nat,∃i:Int,ys=[.ref a,qi R,.int i]/\L a=some (.lst (dU wd))/\SR ks R E/\zU ks wd R/\(qm R).Nodup/\(qm R).length<=120/\Q (ixY (yp ks R i)) L
theorem aax:∀ys L Q,mL ys L Q->vg (qR w9 bF bL) 8 ys L Q:=by
 rintro ys L Q ⟨a,wd,p,R,E,i,rfl,ha,sr,ag,nd,tl,q⟩;have big:=bg_;have no:¬(0<=i/\i<((qk R).length:Int))->Q .non L:=λc=>by
  have e:yp p R i=none:=by unfold yp jw;rw[AF c]
  rw[e] at q;exact q
 by_cases c1:i<0
 ·refine aK (AD c1) (xg (no (by lia)))
 refine jd (Au c1) ⟨R,rfl,λp1 h1=>qc q8 ?_⟩;have s1:=By (o:=.lst ((qk R).map qi)) h1;by_cases c2:i<((qk R).length:Int)
 rotate_left
 ·refine aK (by show decide (i>=((((qk R).map qi).length:Nat):Int))=true;rw[Ab];exact AD (by lia)) (aI s1 (no λh=>c2 h.2))
 refine jd (by show decide (i>=((((qk R).map qi).length:Nat):Int))=false;rw[Ab];exact Au (by lia)) ?_;obtain⟨k,rfl⟩:∃k:Nat,i=(k:Int):=⟨i.toNat,by lia⟩;have hk:k<(qk R).length:=by lia
 have pl:=DW sr.arms;have eI:(qk R)[k]?=some (qk R)[k]:=Af hk;have l:(ju p R)[k]?=some ((ju p R)[k]'(by lia)):=Af (by lia);generalize (qk R)[k]=I at eI;generalize (ju p R)[k]'(by lia)=ts at l;obtain⟨EI,sI,a4⟩:=DU sr.arms eI l;have mI:=Aw eI;have t:=(vt mI).nodup nd;have ao:=(vt mI).length_le;have au:=i4 ts (Aw l);have a5:=ag.arm mI;have eG:yp p R (k:Int)=x4 I ts:=by unfold yp jw;rw[AC ⟨by lia,c2⟩,AQ,eI,l];rfl
 rw[eG] at q;clear eG no c1 c2;generalize qf L p1 (.lst ((qk R).map qi))=L1 at s1 ⊢;refine⟨R,rfl,λp2 h2=>qc q8 (ql (jt eI) ?_)⟩;have s2:=s1.trans (By (o:=.lst ((qk R).map qi)) h2);generalize qf L1 p2 (.lst ((qk R).map qi))=L2 at s2 ⊢;refine⟨a,wd,p,R,E,k,_,rfl,rfl,s2 _ _ ha,sr,ag,hk,λT av h3 a2=>?_⟩;rw[l] at a2;cases a2;have s3:=s2.trans (By (o:=.lst (nY ts)) h3);have g3:qf L2 T (.lst (nY ts)) T=some (.lst (nY ts)):=q8;generalize qf L2 T (.lst (nY ts))=L3 at s3 g3 ⊢;have key:(∃x∈aT I,x∈ts)->df Q .non L3:=λ⟨x,h1,h2⟩=>by rw[aio t h1 h2] at q;exact aI s3 q
 have tail:aec w9 bL { nx:=λ_ J=>df Q .non J,rt:=df Q } [some (.ref a),some (qi R),some (.int (k:Int)),some (qi I),some (.ref T),none,none,none] L3:=by
  refine⟨I,rfl,λp4 h4=>?_⟩;have s4:=s3.trans (By (o:=.lst ((qk I).map qi)) h4);have al:=By (o:=.lst ((qk I).map qi)) h4 _ _ g3;refine xc q8 λkeep kp=>xi ⟨λj τ J=>∃c5 c6 c7,τ=[some (.ref a),some (qi R),some (.int (k:Int)),some (qi I),some (.ref T),c5,c6,c7]/\qg L J/\J T=some (.lst (nY ts))/\J p4=some (.lst ((qk I).map qi))/\∀B∈(qk I).take j,aD ts B=false,⟨_,_,_,rfl,s4,al,q8,λB hB=>by cases hB⟩,?_,?_,?_⟩
  ·rintro j τ J ⟨c5,c6,c7,rfl,s,_,g,_⟩;exact kp J (by rw[g,q8])
  ·rintro j y τ J hy ⟨c5,c6,c7,rfl,s,gt,g,U⟩;obtain⟨z,ez,rfl⟩:=dw hy;rw[An] at ez;obtain⟨B,eB,rfl⟩:=Ao.mp ez;have mB:=Aw eB;obtain⟨EB,sB⟩:=sI.arm mB;have aL:=(vt mB).length_le;have iff:=mY sI t mB sB a4;refine⟨a,wd,p,B,EB,rfl,s _ _ ha,sB,a5.arm mB,(vt mB).nodup t,by lia,λp5 F h5 hF=>?_⟩;have s5:=s.trans (By (o:=.lst (nY F)) h5);have a1:=By (o:=.lst (nY F)) h5 _ _ gt;have g5:=By (o:=.lst (nY F)) h5 _ _ g;have e5:qf J p5 (.lst (nY F)) p5=some (.lst (nY F)):=q8;generalize qf J p5 (.lst (nY F))=L5 at s5 a1 g5 e5 ⊢;refine xc a1 λkeep kp=>dZ (λi zs=>zs=nY ((ts.take i).filter λx=>!decide (x∈F))) (by rw[kc];exact big _ (by lia)) (kp _ rfl) rfl ?_ ?_
   ·rintro i y zs hy rfl;obtain⟨x,ex,rfl⟩:=dY hy;refine qc e5 ⟨rfl,kD _,?_⟩;rw[jV];have l:ts.take (i+1)=ts.take i++[x]:=by rw[Bd,ex];rfl
    by_cases c:x∈F
    ·refine jd (by rw[AD c];rfl) ⟨_,DO _,rfl,?_⟩;rw[l,BK,BL,AF (by simp[c])];simp
    ·refine aK (by rw[Au c];rfl) ⟨_,DO _,rfl,?_⟩;rw[l,BK,BL,AC (by simp[c]),ff];rfl
   rintro zs rfl p6 h6;rw[kc,Ba];have s6:=s5.trans (By (o:=.lst (nY (ts.filter λx=>!decide (x∈F)))) h6);have a3:=By (o:=.lst (nY (ts.filter λx=>!decide (x∈F)))) h6 _ _ a1;have g6:=By (o:=.lst (nY (ts.filter λx=>!decide (x∈F)))) h6 _ _ g5;have e6:qf L5 p6 (.lst (nY (ts.filter λx=>!decide (x∈F)))) p6=some (.lst (nY (ts.filter λx=>!decide (x∈F)))):=q8;generalize qf L5 p6 (.lst (nY (ts.filter λx=>!decide (x∈F))))=L6 at s6 a3 g6 e6 ⊢;intro p7 h7;have s7:=s6.trans (By (o:=.lst []) h7);refine ww (n:=0) (m:=0) (by decide) (By h7 _ _ e6) q8 (by rw[agj];exact bG _) (.nil:Paired (jj _ 0) _ []) ?_;have nil:Da.eqs (((ts.filter λx=>!decide (x∈F)).map λn:Nat=>(n:Int)).map λx=>Da.s (.int x)) []=aD ts B:=by
    by_cases c:aD ts B=true
    ·rw[c,DE.mpr λx hx=>by simp[(hF x).mpr (iff.mpr c x hx)]];rfl
    ·rw[BP.mpr c];cases hf:ts.filter λx=>!decide (x∈F) with|nil=>exact absurd (iff.mp λx hx=>(hF x).mp (by have:=DE.mp hf x hx;simpa using this)) c|cons x r=>rfl
   show wn (Da.eqs _ _) _ _;rw[nil];by_cases c:aD ts B=true
   ·refine aK c ?_;rw[show x4 I ts=some j from iA eB U c] at q;exact aI s7 q
   ·refine jd (BP.mpr c) ⟨_,DO _,_,_,_,rfl,s7,By h7 _ _ a3,By h7 _ _ g6,λC hC=>?_⟩;rw[Bd,eB] at hC;rcases Aq.mp hC with hC|hC
    ·exact U C hC
    ·rw[Ai.mp hC];exact BP.mpr c
  ·rintro τ J ⟨c5,c6,c7,rfl,s,_,g,U⟩;rw[iY,Ab,Ba] at U;rw[show x4 I ts=none from CA.mpr U] at q;exact aI s q
 have ask:∀(x:Nat) {A B:Prop},(x∈ts->A)->(x∉ts->B)->eY L3 (.ref T) λys=>fC (.int (x:Int))=true/\ys.all fC=true/\wn (nb false (uT (fb (.int (x:Int))) (ys.map fb))) A B:=λx A B ha hb=>by
  refine qc g3 ⟨rfl,kD _,?_⟩;rw[jV];by_cases c:x∈ts
  ·exact aK (AD c) (ha c)
  ·exact jd (Au c) (hb c)
 cases I with|link p0 q0=>exact ask p0 (λh=>key ⟨p0,Aj ..,h⟩) λ_=>tail|ei r0 A0=>exact ask r0 (λh=>key ⟨r0,Aj ..,h⟩) λ_=>tail|bo r0 A0 B0=>exact ask r0 (λh=>key ⟨r0,Aj ..,h⟩) λ_=>tail|cu p0 q0 A0 B0=>exact tail
def yz(J:jz):kn:=(qo (ay (vv (qa 1)) (qh 2) (zn (zh af (za J (vn (qa 0))) (qa 2)) (qh 0)))
 (zu (qa 0)))
theorem gv{w:List Int}(x:Int)(u:List Int):j6 R (w++x::u)=match j6 R w with|none=>none|some S=>j6 S (x::u):=by
 induction w generalizing R with
 |nil=>rfl
 |cons i w J=>
  show(match jw R i with|some B=>j6 B (w++x::u)|none=>none)=match (match jw R i with|some B=>j6 B w|none=>none) with|none=>none|some S=>j6 S (x::u)
  cases jw R i with|none=>rfl|some B=>exact J
theorem aii{w:List Int}{x:Int}(h:w[i]?=some x):w.take (i+1)=w.take i++[x]/\w=w.take i++x::w.drop (i+1):=by have J:=zw h;refine⟨by rw[Bd,h];rfl,?_⟩;rw[Af J] at h;rw[<-AO h,BF,A5]
def uL:jz:=λys L Q=>∃R S:Ru,∃h,∃w:List Int,ys=[qi R,.ref h]/\L h=some (.lst (w.map Y.int))/\j6 R w=some S/\Q (qi S) L
theorem ajc:∀ys L Q,uL ys L Q->vg (yz w9) 3 ys L Q:=by
 rintro ys L Q ⟨R,S,h,w,rfl,j,J,q⟩;refine xc j λkeep r=>xi ⟨λi g U=>∃c2 A,g=[some (qi A),some (.ref h),c2]/\qg L U/\j6 R (w.take i)=some A,⟨_,R,rfl,DO _,rfl⟩,?_,?_,?_⟩
 ·rintro i g U ⟨c2,A,rfl,s,_⟩;exact r U (by rw[s _ _ j,j])
 ·rintro i y g U o ⟨c2,A,rfl,s,e⟩;rw[An] at o;obtain⟨x,ex,rfl⟩:=Ao.mp o;obtain⟨t,C⟩:=aii ex;rw[C,gv,e] at J;have J:(match jw A x with|some B=>j6 B _|none=>none)=some S:=J;cases l:jw A x with
  |none=>rw[l] at J;cases J
  |some B=>
   obtain⟨k,rfl,I⟩:=vq l;refine⟨A,rfl,λp T=>qc q8 (ql (jt I) ⟨_,DO _,_,B,rfl,s.trans (By T),?_⟩)⟩;rw[t,gv,e];show(match jw A (k:Int) with|some B=>j6 B []|none=>none)=_;rw[l];rfl
 ·rintro g U ⟨c2,A,rfl,s,e⟩;rw[Ab,Ba,J] at e;cases e;exact aI s q
theorem gY{w:List Int}(h:j6 R w=some S):w.length+1<=ji R/\S∈xn R:=by
 induction w generalizing R with
 |nil=>cases h;exact⟨gK _,by rw[xl];exact Aj ..⟩
 |cons i w U=>
  have h:(match jw R i with|some B=>j6 B w|none=>none)=some S:=h;cases e:jw R i with
  |none=>rw[e] at h;cases h
  |some B=>
   rw[e] at h;obtain⟨k,_,g⟩:=vq e;have J:=Aw g;have:=kg J;obtain⟨a,b⟩:=U h;exact⟨by rw[AN];lia,by rw[xl];exact Ad _ (AX.mpr ⟨B,J,b⟩)⟩
theorem wA{k:Nat}{E:List Nat}(g:SR ks R E)(J:(qk R)[k]?=some I):∃ts,(ju ks R)[k]?=some ts/\yp ks R (k:Int)=x4 I ts/\wc ks R k=match x4 I ts with|none=>none|some n=>match (qk I)[n]? with|some B=>some (qy I n (qy R k B))|none=>none:=by
 have j:=zw J;have pl:=DW g.arms;have U:(ju ks R)[k]?=some ((ju ks R)[k]'(by lia)):=Af (by lia);refine⟨_,U,?_,?_⟩
 ·unfold yp jw;rw[AC ⟨by lia,by lia⟩,AQ,J,U];rfl
 ·unfold wc;rw[J,U];try rfl
theorem bH(R A:Ru)(k:Nat):qk (qy R k A)=(qk R).set k A:=by cases R<;>rcases k with _|_|k<;>rfl
theorem gJ(R:Ru)(k:Nat)(A:Ru):aT (qy R k A)=aT R:=by cases R<;>rcases k with _|_|k<;>rfl
theorem rc(R:Ru)(k:Nat)(A:Ru):mi (qy R k A)=mi R:=by cases R<;>rcases k with _|_|k<;>rfl
theorem sm(R:Ru)(k:Nat)(A:Ru):mm (qy R k A)=mm R:=by cases R<;>rcases k with _|_|k<;>rfl
theorem wI(ks:List Kn)(R:Ru)(k:Nat)(A:Ru):tkO ks (qy R k A)=tkO ks R:=by cases R<;>rcases k with _|_|k<;>rfl
theorem hE(ks:List Kn)(R:Ru)(k:Nat)(A:Ru):ju ks (qy R k A)=ju ks R:=by cases R<;>rcases k with _|_|k<;>rfl
theorem pS(R A B:Ru)(k:Nat):qy (qy R k A) k B=qy R k B:=by cases R<;>rcases k with _|_|k<;>rfl
theorem pJ{A:Ru}{k:Nat}(h:(qk R)[k]?=some A):qy R k A=R:=by cases R<;>rcases k with _|_|k<;>first|rfl|(cases h;rfl)|cases h
theorem gF [DecidableEq α]{f own:Ru->List α}(J:∀R,f R=own R++(qk R).flatMap f)(U:∀R k A,own (qy R k A)=own R){A B:Ru}{k:Nat}(h:(qk R)[k]?=some B)(x:α):(f (qy R k A)).count x+(f B).count x=(f R).count x+(f A).count x:=by
 have key:∀(l:List Ru) (k:Nat),l[k]?=some B->((l.set k A).flatMap f).count x+(f B).count x=(l.flatMap f).count x+(f A).count x:=by
  intro l
  induction l with
  |nil=>intro k h;cases h
  |cons c l g=>
   intro k h;cases k with
   |zero=>
    cases h;rw[List.set_cons_zero,AK,AK,Bc,Bc];lia
   |succ k=>
    have:=g k h;rw[List.set_cons_succ,AK,AK,Bc,Bc];lia
 have:=key _ _ h;rw[J (qy R k A),J R,U,bH,Bc,Bc];lia
theorem gT{T:Ru}{k:Nat}(h:wc ks R k=some T):∃I ts n B,(qk R)[k]?=some I/\(ju ks R)[k]?=some ts/\x4 I ts=some n/\(qk I)[n]?=some B/\aD ts B=true/\T=qy I n (qy R k B):=by
 unfold wc at h;split at h
 ·rename_i I ts j l;split at h
  ·cases h
  ·rename_i n U;split at h
   ·rename_i B g;cases h;obtain⟨o,J,tb⟩:=oX U;rw[g] at J;cases J;exact⟨I,ts,n,B,j,l,U,g,tb,rfl⟩
   ·cases h
 ·cases h
theorem dX [DecidableEq α]{f own:Ru->List α}(J:∀R,f R=own R++(qk R).flatMap f)(U:∀R k A,own (qy R k A)=own R){T:Ru}{k:Nat}(h:wc ks R k=some T):(f T).Perm (f R):=by obtain⟨I,ts,n,B,g,_,_,j,_,rfl⟩:=gT h;refine Bs.mpr λx=>?_;have h1:=gF J U (A:=qy R k B) j x;have h2:=gF J U (A:=B) g x;lia
theorem pB [DecidableEq α]{f own:Ru->List α}(J:∀R,f R=own R++(qk R).flatMap f)(U:∀R k A,own (qy R k A)=own R){T:Ru}{w:List Int}(h:j6 R w=some S)(p:(f T).Perm (f S)):(f (js R w T)).Perm (f R):=by
 refine Bs.mpr λx=>?_;have e:=p.count_eq x
 induction w generalizing R with
 |nil=>cases h;exact e
 |cons i w g=>
  have h:(match jw R i with|some B=>j6 B w|none=>none)=some S:=h;show(f (match jw R i with|some B=>qy R i.toNat (js B w T)|none=>R)).count x=_;cases ei:jw R i with
  |none=>rfl
  |some B=>
   rw[ei] at h;have h1:=g (show j6 B w=some S from h);obtain⟨k,rfl,j⟩:=vq ei;have h2:=gF J U (A:=js B w T) j x;show(f (qy R (k:Int).toNat (js B w T))).count x=_;rw[AQ];lia
def wH(ks:List Kn):Ru->Prop
 |.link p q=>p<q/\∃t n,ks[p]?=some (.lf t n)/\ks[q]?=some (.lf (!t) n)
 |.ei r _=>∃i j,ks[r]?=some (.nd true i j)/\i≠j
 |.bo r _ _=>∃i j,ks[r]?=some (.nd false i j)
 |.cu p q _ _=>∃w,cM ks p w/\cM ks q w.turn
theorem lI(h:wH ks R)(k:Nat)(A:Ru):wH ks (qy R k A):=by cases R<;>rcases k with _|_|k<;>exact h
theorem SR.own{E:List Nat}(h:SR ks R E):wH ks R:=by cases h with|link h1 h2 h3=>exact⟨h1,_,_,h2,h3⟩|ei h1 _ _ _ J=>exact⟨_,_,h1,J⟩|bo h1=>exact⟨_,_,h1⟩|cu _ _ _ _ J U=>exact⟨_,J,U⟩
theorem SR.nodup{E:List Nat}(h:SR ks R E):E.Nodup:=by cases h<;>assumption
theorem SR.same{E j:List Nat}(h:SR ks R E)(n:j.Nodup)(e:∀x,x∈j↔x∈E):SR ks R j:=by cases h with|link h1 h2 h3 J U=>exact .link h1 h2 h3 (λx=>(e x).trans (J x)) n|ei h1 h2 h3 J U g l=>exact .ei h1 h2 h3 J U (λx=>(e x).trans (g x)) n|bo h1 h2 h3 J U g l=>exact .bo h1 h2 h3 J U (λx=>(e x).trans (g x)) n|cu h1 h2 h3 J U g l o=>exact .cu h1 h2 h3 J U g (λx=>(e x).trans (l x)) n
theorem SR.make(o:wH ks R)(p:Paired (λA ts=>∃J,SR ks A J/\∀x∈ts,x∈J) (qk R) (ju ks R))(nd:(qm R).Nodup):∃E,SR ks R E:=by
 cases R with
 |link a b=>
  obtain⟨h1,t,n,h2,h3⟩:=o;exact⟨[a,b],.link h1 h2 h3 (λx=>by simp) (by simp;lia)⟩
 |ei r A=>
  obtain⟨i,j,e,ne⟩:=o;have I:ju ks (.ei r A)=[[i,j]]:=by show [vi ks[r]?]=_;rw[e];rfl
  rw[I] at p;cases p with
  |cons h _=>
   obtain⟨J,sA,l⟩:=h;obtain⟨T,C⟩:=Az.mp nd;refine⟨r::J.filter λx=>!decide (x=i)&&!decide (x=j),.ei e sA (l i (by simp)) (l j (by simp)) ne (λx=>?_) ?_⟩
   ·simp;constructor
    ·rintro(h|h)
     ·exact .inr h
     ·exact .inl h
    ·rintro(h|h)
     ·exact .inr h
     ·exact .inl h
   ·exact Az.mpr ⟨λm=>T (sA.sub _ (AJ.mp m).1),sA.nodup.filter _⟩
 |bo r A B=>
  obtain⟨i,j,e⟩:=o;have I:ju ks (.bo r A B)=[[i],[j]]:=by show(vi ks[r]?).map (λx=>[x])=_;rw[e];rfl
  rw[I] at p;cases p with
  |cons h t=>
   cases t with
   |cons g _=>
    obtain⟨J,sA,l⟩:=h;obtain⟨EB,U,gx⟩:=g;obtain⟨T,C⟩:=Az.mp nd;refine⟨r::((J.filter λx=>!decide (x=i))++EB.filter λx=>!decide (x=j)),.bo e sA U (l i (by simp)) (gx j (by simp)) (λx=>?_) ?_⟩
    ·simp;constructor
     ·rintro(h|h|h)
      ·exact .inr (.inr h)
      ·exact .inl h
      ·exact .inr (.inl h)
     ·rintro(h|h|h)
      ·exact .inr (.inl h)
      ·exact .inr (.inr h)
      ·exact .inl h
    ·refine Az.mpr ⟨λm=>T ?_,Ap.mpr ⟨sA.nodup.filter _,U.nodup.filter _,λx hA y hB e=>?_⟩⟩
     ·rcases Aq.mp m with m|m
      ·exact Ar _ (sA.sub _ (AJ.mp m).1)
      ·exact Ag _ (U.sub _ (AJ.mp m).1)
     ·exact(Ap.mp C).2.2 x (sA.sub _ (AJ.mp hA).1) y (U.sub _ (AJ.mp hB).1) e
 |cu a b A B=>
  obtain⟨w,h1,h2⟩:=o;cases p with
  |cons h t=>
   cases t with
   |cons g _=>
    obtain⟨J,sA,l⟩:=h;obtain⟨EB,U,gx⟩:=g;refine⟨(J.filter λx=>!decide (x=a))++EB.filter λx=>!decide (x=b),.cu sA U (l a (by simp)) (gx b (by simp)) h1 h2 (λx=>by simp) ?_⟩;exact Ap.mpr ⟨sA.nodup.filter _,U.nodup.filter _,λx hA y hB e=>(Ap.mp nd).2.2 x (sA.sub _ (AJ.mp hA).1) y (U.sub _ (AJ.mp hB).1) e⟩
theorem hV{A:Ru}{k:Nat}(h:k<(qk R).length):(qk (qy R k A))[k]?=some A:=by rw[bH,BR h]
theorem fM{α β:Type}{F:α->β->Prop}:∀{xs:List α} {ys:List β} {k:Nat} {a:α} {b:β},Paired F xs ys->ys[k]?=some b->F a b->Paired F (xs.set k a) ys
 |_,_,_,_,_,.nil,h,_=>by cases h
 |_,_,0,_,_,.cons p t,h,f=>by cases h;exact .cons f t
 |_,_,k+1,_,_,.cons p t,h,f=>.cons p (fM t h f)
theorem SR.at_{A:Ru}{E ts:List Nat}{k:Nat}(U:SR ks R E)(h:(qk R)[k]?=some A)(g:(ju ks R)[k]?=some ts):∃J,SR ks A J/\∀x∈ts,x∈J:=DU U.arms h g
theorem kJ{A:Ru}{E:List Nat}{k:Nat}(J:SR ks R E)(h:(qk R)[k]?=some A):∃ts,(ju ks R)[k]?=some ts:=⟨_,Af (by have:=zw h;have:=DW J.arms;lia)⟩
theorem so{E ts:List Nat}{k:Nat}(g:SR ks R E)(h:(ju ks R)[k]?=some ts):ts≠[]/\∀x∈ts,x∈iF ks R:=by
 have e:∀x,x∈ts->x∈tkO ks R:=λx J=>List.mem_flatten.mpr ⟨ts,Aw h,J⟩;refine⟨?_,λx J=>by rw[a7];exact Ar _ (e x J)⟩;have m:=Aw h;cases g with
 |link=>cases m
 |@ei r i j A l _ h1=>
  have U:ju ks (.ei r A)=[[i,j]]:=by show [vi ks[r]?]=_;rw[h1];rfl
  rw[U] at m;rw[Ai.mp m];simp
 |@bo r i j A B l o _ h1=>
  have U:ju ks (.bo r A B)=[[i],[j]]:=by show(vi ks[r]?).map (λx=>[x])=_;rw[h1];rfl
  rw[U] at m;rcases Am.mp m with rfl|m
  ·simp
  ·rw[Ai.mp m];simp
 |@cu u v A B=>
  rcases Am.mp m with rfl|m
  ·simp
  ·rw[Ai.mp m];simp
theorem ada{E:List Nat}(h:SR ks R E)(nd:(qm R).Nodup):(iF ks R).Nodup:=by have P:(iF ks R++E).Perm (qm R):=((h.tk.append_right E).trans (by rw[AR])).trans (h.part nd);exact(Ap.mp (P.nodup_iff.mpr nd)).1
theorem aet{T:Ru}{E:List Nat}{k:Nat}(J:SR ks R E)(nd:(qm R).Nodup)(h:wc ks R k=some T):SR ks T E:=by
 have pt:=dX w4 gJ h;have pk:=dX (a7 ks) (wI ks) h;obtain⟨I,ts,n,B,g,et,hn,t,tb,rfl⟩:=gT h;obtain⟨EI,U,C⟩:=J.at_ g et;obtain⟨us,eu⟩:=kJ U t;obtain⟨EB,sB,a1⟩:=U.at_ t eu;have mI:=Aw g;have mB:=Aw t;have j:=(vt mI).nodup nd;have a2:=(mY U j mB sB C).mpr tb;have l:(qm (qy R k B)).Nodup:=by refine C1.mpr λx=>?_;have h1:=gF w4 gJ (A:=B) g x;have h2:=(vt mB).count_le x;have h3:=C1.mp nd x;lia
 obtain⟨p,o⟩:∃p,SR ks (qy R k B) p:=SR.make (lI J.own _ _) (by rw[bH,hE];exact fM J.arms et ⟨EB,sB,a2⟩) l;have r:∀x∈us,x∈p:=λx r=>by rw[cq o l];have xB:=(cq sB ((vt mB).nodup j) x).mp (a1 x r);refine⟨(vt (Aw (hV (zw g)))).subset xB.1,λm=>?_⟩;have h1:=gF (a7 ks) (wI ks) (A:=B) g x;have h2:=C1.mp (ada J nd) x;have h3:=List.count_eq_zero.mpr xB.2;have h4:=List.count_pos_iff.mpr ((so U eu).2 x r);have h5:=List.count_pos_iff.mpr m;lia
 obtain⟨ET,sT⟩:∃ET,SR ks (qy I n (qy R k B)) ET:=SR.make (lI U.own _ _) (by rw[bH,hE];exact fM U.arms eu ⟨p,o,r⟩) (pt.nodup_iff.mpr nd);refine sT.same J.nodup λx=>?_;rw[cq J nd,cq sT (pt.nodup_iff.mpr nd),pt.mem_iff,pk.mem_iff]
theorem rZ{α β:Type}{f:α->List β}:∀{l:List α} {i j:Nat} {a b:α} {x:β},(l.flatMap f).Nodup->l[i]?=some a->l[j]?=some b->i<j->x∈f a->x∈f b->False
 |[],_,_,_,_,_,_,h,_,_,_,_=>by cases h
 |c::l,i,0,_,_,_,_,_,_,h,_,_=>by lia
 |c::l,0,j+1,a,b,x,n,h1,h2,_,J,U=>by cases h1;rw[AK] at n;exact(Ap.mp n).2.2 x J x (AX.mpr ⟨b,Aw h2,U⟩) rfl
 |c::l,i+1,j+1,a,b,x,n,h1,h2,h,J,U=>by rw[AK] at n;exact rZ (l:=l) (Ap.mp n).2.1 h1 h2 (by lia) J U
theorem y8{T:Ru}{E:List Nat}{k:Nat}(sr:SR ks R E)(nd:(qm R).Nodup)(h:wc ks R k=some T)(hg:yp ks R (k:Int)=some n):wc ks T n=some R:=by
 obtain⟨I,ts,n',B,J,et,hn,U,tb,rfl⟩:=gT h;have e:n=n':=by obtain⟨a1,g,e1,_⟩:=wA sr J;rw[et] at g;cases g;rw[e1,hn] at hg;exact(AO hg).symm
 subst e;obtain⟨EI,r,a2⟩:=sr.at_ J et;obtain⟨t,eu⟩:=kJ r U;obtain⟨EB,sB,l⟩:=r.at_ U eu;have mI:=Aw J;have mB:=Aw U;have a3:=(vt mI).nodup nd;have kR:k<(qk R).length:=zw J;have nI:=zw U;have tu:aD t B=true:=by unfold aD;rw[BC];intro b hb;obtain⟨x,o,rfl⟩:=AS.mp hb;exact AD (sB.sub x (l x o))
 have hf:x4 (qy R k B) t=some k:=by
  refine iA (hV kR) (λC hC=>?_) tu;rw[bH,List.take_set_of_le (Al _)] at hC;obtain⟨j,p⟩:=Cu hC;rw[Ck] at p;split at p
  ·rename_i hj;obtain⟨x,o⟩:=List.exists_mem_of_ne_nil _ (so r eu).1;rw[BP];intro tc;have xC:x∈qm C:=of_decide_eq_true (BC.mp tc _ (AS.mpr ⟨x,o,rfl⟩));have xI:x∈qm I:=(vt mB).subset (sB.sub x (l x o));rw[w4] at nd;exact rZ (Ap.mp nd).2.1 p J hj xC xI
  ·cases p
 unfold wc;rw[hV nI,hE,eu];show(match x4 (qy R k B) t with|none=>none|some m=>match (qk (qy R k B))[m]? with|some D=>some (qy (qy R k B) m (qy (qy I n (qy R k B)) n D))|none=>none)=some R;rw[hf];show(match (qk (qy R k B))[k]? with|some D=>some (qy (qy R k B) k (qy (qy I n (qy R k B)) n D))|none=>none)=some R;rw[hV kR];show some (qy (qy R k B) k (qy (qy I n (qy R k B)) n B))=some R;rw[pS,pS,pJ U,pJ J]
theorem aj7{T:Ru}{w:List Int}(h:j6 R w=some S):j6 (js R w T) w=some T:=by
 induction w generalizing R with
 |nil=>rfl
 |cons i w U=>
  replace h:(match jw R i with|some B=>j6 B w|none=>none)=some S:=h;show j6 (match jw R i with|some B=>qy R i.toNat (js B w T)|none=>R) (i::w)=_;cases ei:jw R i with
  |none=>rw[ei] at h;cases h
  |some B=>
   rw[ei] at h;obtain⟨k,rfl,J⟩:=vq ei;show j6 (qy R (k:Int).toNat (js B w T)) ((k:Int)::w)=_;rw[AQ];show(match jw (qy R k (js B w T)) (k:Int) with|some B=>j6 B w|none=>none)=_;have g:jw (qy R k (js B w T)) (k:Int)=some (js B w T):=by unfold jw;have:=zw J;rw[AC ⟨by lia,by rw[bH,BQ];lia⟩,AQ,hV (zw J)]
   rw[g];exact U h
theorem adx{T:Ru}{w:List Int}(h:j6 R w=some S):js (js R w T) w S=R:=by
 induction w generalizing R with
 |nil=>cases h;rfl
 |cons i w U=>
  replace h:(match jw R i with|some B=>j6 B w|none=>none)=some S:=h;cases ei:jw R i with
  |none=>rw[ei] at h;cases h
  |some B=>
   rw[ei] at h;have g:js R (i::w) T=qy R i.toNat (js B w T):=by show(match jw R i with|some B=>qy R i.toNat (js B w T)|none=>R)=_;rw[ei]
   obtain⟨k,rfl,J⟩:=vq ei;rw[g,AQ];show(match jw (qy R k (js B w T)) (k:Int) with|some j=>qy (qy R k (js B w T)) (k:Int).toNat (js j w S)|none=>qy R k (js B w T))=_;have l:jw (qy R k (js B w T)) (k:Int)=some (js B w T):=by unfold jw;have:=zw J;rw[AC ⟨by lia,by rw[bH,BQ];lia⟩,AQ,hV (zw J)]
   rw[l];show qy (qy R k (js B w T)) (k:Int).toNat (js (js B w T) w S)=R;rw[AQ,pS,U h,pJ J]
theorem SR.set{A l:Ru}{E:List Nat}{k:Nat}(r:SR ks R E)(h:(qk R)[k]?=some A)(f:∀o,SR ks A o->SR ks l o):SR ks (qy R k l) E:=by
 cases r with
 |link=>cases h
 |ei h1 h2 h3 J U g j=>
  rcases k with _|k
  ·cases h;exact .ei h1 (f _ h2) h3 J U g j
  ·cases h
 |bo h1 h2 h3 J U g j=>
  rcases k with _|_|k
  ·cases h;exact .bo h1 (f _ h2) h3 J U g j
  ·cases h;exact .bo h1 h2 (f _ h3) J U g j
  ·cases h
 |cu h1 h2 h3 J U g j p=>
  rcases k with _|_|k
  ·cases h;exact .cu (f _ h1) h2 h3 J U g j p
  ·cases h;exact .cu h1 (f _ h2) h3 J U g j p
  ·cases h
theorem ajt{T:Ru}{w:List Int}(h:j6 R w=some S)(f:∀J,SR ks S J->SR ks T J):∀E,SR ks R E->SR ks (js R w T) E:=by
 induction w generalizing R with
 |nil=>cases h;exact f
 |cons i w g=>
  intro E U;replace h:(match jw R i with|some B=>j6 B w|none=>none)=some S:=h;show SR ks (match jw R i with|some B=>qy R i.toNat (js B w T)|none=>R) E;cases ei:jw R i with
  |none=>exact U
  |some B=>
   rw[ei] at h;obtain⟨k,rfl,j⟩:=vq ei;show SR ks (qy R (k:Int).toNat (js B w T)) E;rw[AQ];exact U.set j (g h)
def iE(J:jz):kn:=(qo (zn (x0 zb) (qh 2))
 (qo (zn (za J (vn (qa 0))) (qh 3))
 (qo (hW (r9 (m6 (qa 3) (x0 zb)) (yB (zh yGt (zh wv (qa 1) (jp 6)) (jp 0)))) (qo (jy (ak jf (qa 2) (qe (zh wv (zh cN (qa 1) (jp 6)) (bQ 3)) zb)))
 (qo (zn (za J (qe (zh af (qa 3) (zh af (qa 2) (yUn acd (jp 1)))) zb)) (qh 3))
 (zn (zh wv (zh uK (qa 1) (jp 48271)) (jp 2147483647)) (qh 1)))))
 (zu (qa 2)))))
theorem adj(R:Ru)(k:Nat):jw R (k:Int)=(qk R)[k]?:=by
 unfold jw;split
 ·rw[AQ]
 ·rename_i c;rw[BZ (by lia)]
def lv:jz:=λys L Q=>∃R:Ru,∃n:Int,ys=[qi R,.int n]/\(qm R).length<=120/\∀(w:List Int) p,L p=none->w.length<=120->(∃S,j6 R w=some S)->Q (.ref p) (qf L p (.lst (w.map Y.int)))
theorem ad1:∀ys L Q,lv ys L Q->vg (iE w9) 4 ys L Q:=by
 rintro ys L Q ⟨R,n,rfl,tl,q⟩;have big:=bg_;have rd:=xq R;intro l T;refine⟨R,rfl,λp1 h1=>?_⟩;have n1:l≠p1:=km q8 h1;have done:∀J (w:List Int),qg L J->J l=some (.lst (w.map Y.int))->w.length<=120->(∃S,j6 R w=some S)->df Q (.ref l) J:=λJ w s g hw hr=>aI (EL s g) (q w l T hw hr);refine⟨λm τ J=>∃A n w t,τ=[some (qi R),some (.int n),some (.ref l),some (.ref t)]/\qg L J/\J l=some (.lst ((w:List Int).map Y.int))/\J t=some (.lst ((qk A).map qi))/\w.length+ji A<=ji R/\j6 R w=some A/\m=ji A,⟨_,R,n,[],p1,rfl,(By T).trans (By h1),(qb n1).trans q8,q8,by simp,rfl,rfl⟩,?_⟩;rintro m τ J ⟨A,n,w,t,rfl,s,gl,ga,hw,er,rfl⟩;intro p2 h2;have I:=s.trans (By (o:=.lst []) h2);have U:=By (o:=.lst []) h2 _ _ gl;have p:=By (o:=.lst []) h2 _ _ ga;refine ww (n:=120) (m:=0) (by decide) p q8 (aH λB hB=>by have:=kg hB;lia) (.nil:Paired (jj _ 0) _ []) ?_;generalize qf J p2 (.lst [])=L2 at I U p ⊢;show wn (!(Da.eqs ((qk A).map aZ) [])) _ _;rw[gQ];by_cases c:qk A=[]
 ·refine jd (by rw[AD c];rfl) ?_;exact jd rfl (done _ w I U (by lia) ⟨_,er⟩)
 ·refine aK (by rw[Au c];rfl) ⟨(show(0:Int)<6 by decide),?_⟩;refine v9 (λc6=>?_) λc6=>done _ w I U (by lia) ⟨_,er⟩;refine⟨λa1 J=>∃m',m'<ji A/\∃A n w t,a1=[some (qi R),some (.int n),some (.ref l),some (.ref t)]/\qg L J/\J l=some (.lst ((w:List Int).map Y.int))/\J t=some (.lst ((qk A).map qi))/\w.length+ji A<=ji R/\j6 R w=some A/\m'=ji A,λ_ _ h=>h,?_⟩;have hz:0<(qk A).length:=List.length_pos_iff.mpr c;obtain⟨j,B,ej,lj,eB⟩:=mK hz (n / 6);have mB:=Aw eB;have dB:=kg mB;have lm:((qk A).map qi).length=(qk A).length:=Ab ..;refine qc U ⟨⟨by decide,by decide⟩,qc p ⟨(by show(0:Int)<(((qk A).map qi).length:Int);rw[lm];lia),qx U ⟨by rw[Ab];exact big _ (by lia),?_⟩⟩⟩;have ev:(λi j:Int=>Y.int (i % j)) (n / 6) (((qk A).map qi).length:Int)=.int (j:Int):=by show Y.int _=_;rw[lm,ej]
  rw[ev];have e3:qf L2 l (.lst (w.map Y.int++[.int (j:Int)])) l=some (.lst (w.map Y.int++[.int (j:Int)])):=q8;have a2:t≠l:=λz=>by
   rw[z,U] at p;have:=AO p;injection this with this
   cases hA:qk A with
   |nil=>exact c hA
   |cons x r=>
    rw[hA] at this;cases w with
    |nil=>cases this
    |cons y w=>
     obtain⟨zs,e⟩:=kC x;injection this with h1 _
     rw[e] at h1;cases h1
  have C:qf L2 l (.lst (w.map Y.int++[.int (j:Int)])) t=some (.lst ((qk A).map qi)):=(qb a2).trans p;have s3:=I.upd (o:=.lst (w.map Y.int++[.int (j:Int)])) T;generalize qf L2 l (.lst (w.map Y.int++[.int (j:Int)]))=L3 at e3 C s3 ⊢;refine qc e3 (ql (gG _ _) (qc C (ql (jt eB) ⟨B,rfl,λp5 h5=>?_⟩)));exact⟨.inr ⟨by decide,by decide⟩,(show(0:Int)<2147483647 by decide),_,DO _,ji B,dB,B,_,w++[(j:Int)],p5,rfl,s3.trans (By h5),by rw[By h5 _ _ e3,Av];rfl,q8,by rw[Ac,BH];lia,by rw[gv,er];show(match jw A (j:Int) with|some B=>j6 B []|none=>none)=some B;rw[adj,eB];rfl,rfl⟩
theorem y7{A:Ru}(h:ji A<=n):jj L n (qi A) (aZ A):=by
 have:=aH (L:=L) (n:=n) (st:=[A]) λB J=>by rw[Ai.mp J];exact h
 cases this with|cons a _=>exact a
def aad(J:jz):kn:=(qo (jl (yB (dR false (qa 1))) (zu (dR false (qa 0))) zq)
 (qo (jl (yB (ae .str (qa 1))) (zu (vL (ae .str (qa 0)) (zh (uA false) (qa 0) (qa 1)))) zq)
 (qo (jl (yB (ae .int (qa 1))) (zu (vL (ae .int (qa 0)) (vL (ahx (ae .bool (qa 0))) (zh (uA false) (qa 0) (qa 1))))) zq)
 (qo (jl (pX (m6 (ae .list (qa 1)) (ae .list (qa 0))) (m6 (ae .tuple (qa 1)) (ae .tuple (qa 0)))) (zu (yC (.bl false))) zq)
 (qo (jl (m6 (bQ 0) (bQ 1)) (zu (yC (.bl false))) zq)
 (qo (ay (iU (vn (bQ 1))) (qh 2) (jl (jL (yB (za J (qe (zh af (qa 0) (qa 2)) (qe (zh af (qa 1) (qa 2)) zb))))) (zu (yC (.bl false))) zq))
 (zu (yC (.bl true)))))))))
def aat:Y->Bool
 |.non=>true
 |.int _=>true
 |.str _=>true
 |_=>false
def pO(L:qp):Nat->Y->Y->Prop
 |0,_,_=>False
 |n+1,x,y=>(aat x=true/\y=x)\/(∃xs ys,x=.tup xs/\y=.tup ys/\ys.length<=1000/\Paired (pO L n) xs ys)\/(∃a b xs ys,x=.ref a/\y=.ref b/\L a=some (.lst xs)/\L b=some (.lst ys)/\ys.length<=1000/\Paired (pO L n) xs ys)
theorem pO.flat{x:Y}(h:aat x=true):pO L (n+1) x x:=.inl ⟨h,rfl⟩
theorem pO.tup{xs:List Y}(h:Paired (pO L n) xs ys)(l:Nat.ble ys.length 1000=true:=by rfl):pO L (n+1) (.tup xs) (.tup ys):=.inr (.inl ⟨xs,ys,rfl,rfl,Bt l,h⟩)
theorem cK{L:qp}:∀{R:Ru} {n:Nat},ji R+1<=n->pO L n (qi R) (qi R)
 |.link p q,n+2,_=>.tup (.cons (.flat rfl) (.cons (.flat rfl) (.cons (.flat rfl) .nil)))
 |.link p q,1,h=>by simp[ji] at h
 |.ei r A,1,h=>by simp[ji] at h
 |.ei r A,n+2,h=>.tup (.cons (.flat rfl) (.cons (.flat rfl) (.cons (cK (by simp[ji] at h;lia)) .nil)))
 |.bo r A B,1,h=>by simp[ji] at h
 |.bo r A B,n+2,h=>.tup (.cons (.flat rfl) (.cons (.flat rfl) (.cons (cK (by simp[ji] at h;lia)) (.cons (cK (by simp[ji] at h;lia)) .nil))))
 |.cu p q A B,1,h=>by simp[ji] at h
 |.cu p q A B,n+2,h=>.tup (.cons (.flat rfl) (.cons (.flat rfl) (.cons (.flat rfl) (.cons (cK (by simp[ji] at h;lia)) (.cons (cK (by simp[ji] at h;lia)) .nil)))))
def cG(n:Nat):jz:=λys L Q=>∃x y,ys=[x,y]/\pO L n x y/\Q (.bl true) L
theorem yM:∀ys L Q,¬cG 0 ys L Q:=λys L Q ⟨x,y,_,h,_⟩=>h
theorem zN(n:Nat):∀ys L Q,cG (n+1) ys L Q->vg (aad (cG n)) 3 ys L Q:=by
 rintro ys L Q ⟨x,y,rfl,h,q⟩;rcases h with⟨f,rfl⟩|⟨J,ys,rfl,rfl,l,p⟩|⟨a,b,J,ys,rfl,rfl,h1,h2,l,p⟩
 ·cases y with
  |non=>exact xg q
  |int i=>
   refine xg ?_;show Q (.bl (nb false (decide (i=i)))) L;rw[AD rfl];exact q
  |str i=>
   refine xg ?_;show Q (.bl (nb false (decide (i=i)))) L;rw[AD rfl];exact q
  |_=>cases f
 ·have o:=DW p;walk_at "w";refine jd (b:=nb true (decide ((J.length:Int)=ys.length))) (by rw[o,AD rfl];rfl) ?_;refine⟨⟨A3 _,by lia⟩,?_⟩;rw[AQ];refine kE (λi U g=>g=L/\∃c,U=[some (.tup J),some (.tup ys),c]) ⟨rfl,_,rfl⟩ ?_ ?_
  ·rintro i U g r ⟨rfl,c,rfl⟩;have j:J[i]?=some (J[i]'(by lia)):=Af (by lia);have ev:ys[i]?=some ys[i]:=Af r;have t:fO J (0+(i:Int))=some (J[i]'(by lia)):=by rw[Cz];exact vk j
   have C:fO ys (0+(i:Int))=some ys[i]:=by rw[Cz];exact vk ev
   walk_at "w";rw[t];walk_at "w";rw[C];exact⟨_,_,rfl,DU p j ev,_,DO _,rfl,_,rfl⟩
  ·rintro U g ⟨rfl,c,rfl⟩;exact xg q
 ·have o:=DW p;refine eW h2 ?_;walk_at "w";refine eW h2 ?_;walk_at "w";refine eW h2 (eW h1 ?_);walk_at "w";refine eW h2 (eW h1 ?_);walk_at "w";refine qc h1 (qc h2 (jd (by rw[o,AD rfl];rfl) ?_));refine qc h2 ⟨⟨A3 _,by lia⟩,?_⟩;rw[AQ];refine kE (λi U g=>g=L/\∃c,U=[some (.ref a),some (.ref b),c]) ⟨rfl,_,rfl⟩ ?_ ?_
  ·rintro i U g r ⟨rfl,c,rfl⟩;have j:J[i]?=some (J[i]'(by lia)):=Af (by lia);have ev:ys[i]?=some ys[i]:=Af r;have t:fO J (0+(i:Int))=some (J[i]'(by lia)):=by rw[Cz];exact vk j
   have C:fO ys (0+(i:Int))=some ys[i]:=by rw[Cz];exact vk ev
   refine qc h1 (ql t (qc h2 (ql C ?_)));exact⟨_,_,rfl,DU p j ev,_,DO _,rfl,_,rfl⟩
  ·rintro U g ⟨rfl,c,rfl⟩;exact xg q
end L3
namespace L2
open PySem PySem.Spec PyProof.Rows
theorem aja{a b:List Stmt}{t u:TS}(hc:PT { X with N:=X.N.set i x } c tc)(p:fZ X a t)(r:fZ X b u):PS X (.If c a b pos) (λD σ H=>aog tc t u D (σ.set i none) H):=by
 intro J s σ H D I h;have C:z0 { X with N:=X.N.set i x } J (σ.set i none) H s:=I.ren _ (by rw[BQ]) (by rw[BQ]) λj v e=>by obtain⟨a,b⟩:=sw e;exact⟨b,by rw[Bu (AE a)]⟩
 refine wpAny_If (aF (hc J s (σ.set i none) H _ C h) λd U ⟨g,T,l⟩=>?_);have o:z0 X J (σ.set i none) g U:=z0.ren (X:={ X with N:=X.N.set i x }) X.N T (by show X.N.length=(X.N.set i x).length;rw[BQ]) rfl λj v e=>by obtain⟨a,b⟩:=sw e;exact⟨e,by show(X.N.set i x)[j]?=_;rw[Bu (AE a)]⟩
 cases d with|true=>exact p J U _ g D o l|false=>exact r J U _ g D o l
end L2
namespace L3
open PySem L2
def akj(i:Nat)(tA:iH)(t u:kn)(D:ke)(τ:jq)(L:qp):Prop:=jl tA t u D (i9 τ i) L
theorem akn(x:Str){kt:List Stmt}{t u:kn}(h:QT { X with N:=X.N.set i x } c tA)(p:mh X body t)(r:mh X kt u):QS X (.If c body kt pos) (akj i tA t u):=DX (aja h p r) λD I H g L D3 j C z k=>
 ⟨i9 g i,L,_,j.forget i,C,z,λc T l U J o=>by cases c with|true=>rw[AC rfl];exact⟨i9 g i,l,D3,(j.forget i).ts U,J,o,k.ts U⟩|false=>rw[AF AA];exact⟨i9 g i,l,D3,(j.forget i).ts U,J,o,k.ts U⟩⟩
end L3
namespace L2
open PySem PySem.W
section
variable {K:Ae}(T:K.lookup Pt=some (PySem.W.tabObj #[]))
include T
theorem acu :clsIn (lessK Pt K) C=clsIn K C:=by
 unfold clsIn;by_cases d:C=Pt
 ·subst d;rw[k6,T]
 ·rw[xo d]
theorem al9{b:Value}:mroIn (lessK Pt K) C b=mroIn K C b:=by unfold mroIn;rw[acu T]
theorem tV{t b:Value}:subIn (lessK Pt K) t b=subIn K t b:=by
 unfold subIn;split
 ·rfl
 ·exact al9 T
 ·rfl
theorem yk{t c:Value}{b:Bool}(e:kitCls K t c=some b):kitCls (lessK Pt K) t c=some b:=by
 unfold kitCls at e ⊢;split at e
 ·rename_i C;have n:C≠Pt:=by rintro rfl;unfold clsIn at e;rw[T] at e;cases e
  have h:typeIn (lessK Pt K) (.ref C)=typeIn K (.ref C):=by show(List.lookup C (lessK Pt K)).map _=(List.lookup C K).map _;rw[xo n]
  rw[acu T,tV T,h];exact e
 ·rw[tV T];exact e
 ·cases e
theorem ajz{t c:Value}{b:Bool}(e:exmOne K t c=some b):exmOne (lessK Pt K) t c=some b:=by
 unfold exmOne at e ⊢;rw[tV T];split at e
 ·rename_i h;rw[AC h];exact yk T e
 ·cases e
theorem wK{N:Addr}:nsOkIn (lessK Pt K) N=nsOkIn K N:=by
 unfold nsOkIn;by_cases d:N=Pt
 ·subst d;rw[k6,T]
 ·rw[xo d]
theorem vY{bm:List Value}:∀l:List Value,tailIn (lessK Pt K) bm l=tailIn K bm l
 |[]=>rfl
 |v::r=>by
  unfold tailIn;congr 1;split
  ·rename_i A;by_cases d:A=Pt
   ·subst d;rw[k6,T]
   ·rw[xo d];split
    ·rw[wK T,ns_dn T rfl,vY r]
    ·rfl
  ·rfl
theorem exc_dn{bm:List Value}{i:String}(e:excIn K C bm i=true):excIn (lessK Pt K) C bm i=true:=by
 unfold excIn at e ⊢;by_cases d:C=Pt
 ·subst d;rw[T] at e;cases e
 ·rw[xo d];split at e
  ·split at e
   ·rw[vY T,wK T,ns_dn T rfl];exact e
   ·cases e
  ·cases e
end
section
variable {K:Ae}(T:K.lookup Pt=some (PySem.W.tabObj #[]))
include T
end
end L2
namespace L3
open PySem L2
open PySem L2 Words
theorem lH:∀w:List Int,Da.eqs (w.map λx=>Da.s (.int x)) (w.map λx=>Da.s (.int x))=true
 |[]=>rfl
 |x::r=>by
  have:Da.eq (.s (.int x)) (.s (.int x))=true:=by simp[Da.eq,gD]
  rw[AG,Da.eqs,this,lH r];rfl
end L3
namespace L2
open PySem PySem.Spec PyProof.Rows
section
variable {w:World}
end
end L2
namespace L3
open PySem L2
open PySem L2 Words
structure HW{β:Type}(L:qp)(X:List Addr)(ts:List (Addr×List Int×β)):Prop where
 at_:∀t∈ts,L t.1=some (.lst (t.2.1.map Y.int))/\t.1∉X
theorem HW.mono{X:List Addr}{ts:List (Addr×List Int×β)}(h:HW L X ts)(s:qg L L'):HW L' X ts:=⟨λt m=>⟨s _ _ (h.at_ t m).1,(h.at_ t m).2⟩⟩
theorem HW.upd{X:List Addr}{ts:List (Addr×List Int×β)}{o:LO}(h:HW L X ts)(m:a∈X):HW (qf L a o) X ts:=⟨λt mt=>⟨(qb λe=>(h.at_ t mt).2 (by rw[e];exact m)).trans (h.at_ t mt).1,(h.at_ t mt).2⟩⟩
theorem HW.app{X:List Addr}{ts us:List (Addr×List Int×β)}(h:HW L X ts)(g:HW L X us):HW L X (ts++us):=⟨λt mt=>(Aq.mp mt).elim (h.at_ t) (g.at_ t)⟩
theorem HW.one{X:List Addr}{w:List Int}{S:β}(h:L a=some (.lst (w.map Y.int)))(m:a∉X):HW L X [(a,w,S)]:=⟨λt mt=>by rw[Ai.mp mt];exact⟨h,m⟩⟩
abbrev WP:=Addr×List Int×Int
def paT(q:WP):Y:=.tup [.ref q.1,.int q.2.2]
structure XF62(K:Ae)(N:Addr):Prop where
 em:PySem.W.exmOne K (.ref N) (.ref N)=some true
theorem XF62.dn{K:Ae}{N:Addr}(T:K.lookup Pt=some (PySem.W.tabObj #[]))(x:XF62 K N):XF62 (lessK Pt K) N:=⟨ajz T x.em⟩
def abk(kvs:List (Str×Int))(_:jq)(L:qp)(Q:YK):Prop:=∀p,L p=none->Q (.ref p) (qf L p (.dct (kvs.map λp=>(Sum.inr p.1,Y.int p.2))))
def kvI(kvs:List (Str×Int)):List (jg×V):=kvs.map λp=>(Sum.inr p.1,V.int p.2)
theorem sK{σ:L2.St}{H:Hp}{Q:List (V×V)->Hp->Prop}:∀{kvs:List (Str×Int)},Q (kvs.map λp=>(V.str p.1,V.int p.2)) H->lu (kvs.map λp=>(tC (.str p.1),tC (.int p.2))) σ H Q
 |[],h=>h
 |_::r,h=>sK (kvs:=r) h
theorem vE{G:G3}{H:Hp}:∀kvs:List (Str×Int),Paired (λ(p:jg×Y) (q:jg×V)=>p.1=q.1/\RV G H p.2 q.2) (kvs.map λp=>(Sum.inr p.1,Y.int p.2)) (kvI kvs)
 |[]=>.nil
 |_::r=>.cons ⟨rfl,rfl⟩ (vE r)
theorem aao(kvs:List (Str×Int))(h:PPs X pos keys values (kvs.map λp=>(tC (.str p.1),tC (.int p.2))))(h1:(keys.all λx=>x.isSome)=true)(h2:keys.length=values.length)(h3:keys≠[])(g:keys.length<=15)
 (j:kvs.length<=15:=by decide) (nd:fS [] (kvI kvs)=kvI kvs:=by decide +kernel):QE X (.Dict keys values pos) (abk kvs):=DR (wR h h1 h2 h3 g) λl H Q o L r t U z k=>by
 intro p J;refine sK ⟨zg,kvI kvs,by simp[kvI,kV],by simpa[kvI] using j,?_⟩;rw[nd,qG];refine k _ _ _ (qf L p (.dct (kvs.map λp=>(Sum.inr p.1,Y.int p.2)))) (DQ J) ?_ (by rfl) (z p (U.none J));intro a u e;by_cases c:a=p
 ·subst c;rw[q8] at e;cases e;exact⟨kvI kvs,zg,vE kvs⟩
 ·rw[qb c] at e;exact(U a u e).keep (DQ J) (qr c)
def ut(J:jz)(p1:jz)(p2:jz)(p3:jz)(p4:jz):kn:=(qo (ad3 2 3 (qe sY (qe (x0 (vn (qa 1))) zb)))
 (qo (hW (m6 (qa 3) (x0 zb)) (qo (zn (ak u9 (qa 3) zb) (qh 4))
 (qo (zn (za J (vn (qa 4))) (qh 5))
 (qo (zn (x0 (vn (jr 4 1))) (qh 6))
 (qo (jl (f9 (jr 4 0) (cj "link")) (qo (zn (x0 (aS (jr 4 1) (jr 4 2))) (qh 6))
 (jl (pX (yB (zh yGe (jr 4 1) (jr 4 2))) (m6 (zh af (qa 0) (jr 4 1)) (za p1 (qe (zh af (qa 0) (jr 4 2)) zb)))) (zu (yC (.bl false))) zq)) (jl (f9 (jr 4 0) (cj "cut")) (qo (zn (x0 zb) (qh 6))
 (jl (m6 (za p2 (aS (qa 0) (jr 4 1))) (za p1 (qe (za p2 (aS (qa 0) (jr 4 2))) zb))) (zu (yC (.bl false))) zq)) (jl (m6 (zh af (zh af (qa 0) (jr 4 1)) (jp 0)) (jr 4 0)) (zu (yC (.bl false))) zq)))
 (qo (ay (iU (vn (bQ 5))) (qh 7) (qo (zn (za p3 (qe (qa 0) (qe (zh af (qa 5) (qa 7)) zb))) (qh 8))
 (akj 9 (m6 (uz 1 (vv (za p4 (qe (qa 0) (aS (qa 4) (qa 7))))) (qh 10) (yB (zh (iN true) (qa 10) (qa 8))) (qa 10)) (x0 zb)) (zu (yC (.bl false))) zq)))
 (qo (ay (vv (qa 6)) (qh 9) (qo (jl (yB (zh (qN false) (qa 9) (qa 2))) (zu (yC (.bl false))) zq)
 (dy (qa 2) (qa 9) (yC (.bl true)))))
 (jy (ak aW (qa 3) (vn (qa 5)))))))))))
 (zu (zh (uA false) (gq aa8 (vn (qa 2))) (bQ 0)))))
def ra(J:jz)(p1:jz):kn:=(qo (zn (abk [("link",3),("either",3),("both",4),("cut",5)]) (qh 3))
 (qo (jl (pX (jL (yB (ae .tuple (qa 1)))) (pX (yB (zh yLt (bQ 1) (jp 3))) (jL (yB (ae .str (jr 1 0)))))) (zu (yC (.bl false))) zq)
 (qo (jl (pX (yB (zh (qN true) (jr 1 0) (qa 3))) (pX (m6 (bQ 1) (gi (qa 3) (jr 1 0))) (yB (zh yGt (qa 2) (jp 150))))) (zu (yC (.bl false))) zq)
 (qo (zn (za J (vn (qa 1))) (qh 4))
 (qo (ay (wV (tU mo (qa 1) (aB (jp 1)) (aB (zh iJ (bQ 1) (bQ 4))))) (qh 5) (jl (pX (jL (yB (ae .int (qa 5)))) (pX (yB (ae .bool (qa 5))) (pX (yB (zh yLt (qa 5) (jp 0))) (yB (zh yGe (qa 5) (bQ 0)))))) (zu (yC (.bl false))) zq))
 (qo (jl (r9 (yB (zh yGt (bQ 4) (jp 0))) (r9 (m6 (jr 1 0) (cj "cut")) (m6 (zh af (zh af (qa 0) (jr 1 1)) (jp 0)) (jr 1 0)))) (zu (yC (.bl false))) zq)
 (qo (ay (vv (qa 4)) (qh 6) (jl (jL (yB (za p1 (qe (qa 0) (qe (qa 6) (qe (zh kw (qa 2) (jp 1)) zb)))))) (zu (yC (.bl false))) zq))
 (zu (yC (.bl true))))))))))
def yQ(K:Ae)(J:Addr)(U:eZ):kn:=(qo (zn (ku (qe (gq ar (vn (qa 0))) (vn (qa 1)))) (qh 4))
 (qo (zn (gq ar (vn (qa 2))) (qh 5))
 (qo (zn (yC .non) (qh 6))
 (qo (ahc K J (λE3=>zn (iD U E3 (qe (qa 4) (aS (qa 5) (qa 3)))) (qh 6)) (zn (yC .non) (qh 6)))
 (qo (jl (pX (m6 (jr 4 0) (qa 0)) (m6 (qa 5) (qa 2))) (zu (ku zb)) zq)
 (qo (jl (yB (dR false (qa 6))) (zu (yC .non)) zq)
 (qo (jl (pX (jL (yB (ae .tuple (qa 6)))) (pX (m6 (bQ 6) (jp 2)) (m6 (jr 6 0) (qa 0)))) (zu (ku zb)) zq)
 (zu (jr 6 1)))))))))
def af2(J:jz)(p1:jz)(p2:jz)(p3:jz)(p4:jz)(p5:jz)(p6:jz)(p7:jz)(p8:jz)(p9:jz):kn:=(qo (zn (zh wv (zh af (zh ahm (qa 0) (x0 (vn (jp 0)))) (jp 0)) (zh ari (jp 10) (jp 9))) (qh 1))
 (qo (zn (za J (qe (tU yH (qa 0) (aB (jp 1)) aE) (aS (qa 1) (jp 60)))) (bV 2 (jm (qh 2) (jm (qh 3) bK))))
 (qo (zn (qa 3) (qh 4))
 (qo (zn (x0 zb) (qh 5))
 (qo (ay (fi (tU yH (qa 0) (aB (jp 1)) (aB (jp 81)))) (bV 2 (jm (qh 6) (jm (qh 7) bK))) (qo (zn (za p1 (qe (qa 7) (aS (qa 6) (jp 16807)))) (qh 8))
 (qo (zn (za p2 (qe (qa 4) (qe (zh wv (zh uK (qa 8) (jp 69621)) (jp 2147483647)) zb))) (qh 9))
 (qo (zn (zh wv (qa 8) (jp 2)) (qh 10))
 (qo (zn (za p3 (qe (qa 2) (qe (za p4 (aS (qa 4) (qa 9))) (vn (qa 10))))) (qh 11))
 (qo (zn (za p5 (qe (qa 2) (qe (qa 4) (aS (qa 9) (qa 10))))) (qh 12))
 (qo (jl (pX (m6 (dR false (qa 11)) (dR false (qa 12))) (yB (zh anq (qa 12) (ku zb)))) (zu (yC (.bl false))) zq)
 (jl (yB (dR true (qa 11))) (qo (jl (jL (yB (za p6 (qe (qa 2) (aS (qa 12) (jp 1)))))) (zu (yC (.bl false))) zq)
 (qo (jy (ak jf (qa 5) (qe (rdT (qa 9) (qa 11)) zb)))
 (zn (qa 12) (qh 4)))) zq))))))))
 (qo (ad3 13 14 (qe (za p7 (vn (qa 3))) (qe (za p7 (vn (qa 4))) zb)))
 (qo (jl (pX (jL (yB (za p8 (aS (qa 2) (qa 4))))) (m6 (gq cr (vn (jr 13 0))) (gq cr (vn (jr 14 0))))) (zu (yC (.bl false))) zq)
 (qo (jl (m6 (gq cr (vn (jr 13 1))) (gq cr (vn (jr 14 1)))) (zu (yC (.bl false))) zq)
 (qo (ay (acf (qa 5)) (bV 2 (jm (qh 9) (jm (qh 11) bK))) (qo (zn (za p5 (qe (qa 2) (qe (qa 4) (aS (qa 9) (qa 11))))) (qh 4))
 (jl (pX (yB (dR false (qa 4))) (jL (yB (za p6 (qe (qa 2) (aS (qa 4) (jp 1))))))) (zu (yC (.bl false))) zq)))
 (zu (za p9 (aS (qa 4) (qa 3)))))))))))))
theorem jQ(ks:List Kn)(R:Ru):zU ks (ks.map some) R:=λx _ k e=>by rw[An,e];rfl
def fU:jz:=λys L Q=>∃a h,∃ks:List Kn,∃R:Ru,∃E:List Nat,∃w:List Int,∃i:Int,ys=[.ref a,qi R,.ref h,.int i]/\L a=some (.lst (ja ks))/\L h=some (.lst (w.map Y.int))/\SR ks R E/\w.length<=1000/\(qm R).length<=120/\Q (rsY (qE ks R w i)) L
theorem uQ{K:Ae}{N:Addr}(xf:XF62 K N):∀ys L Q,fU ys L Q->vg (yQ K N (pM N)) 7 ys L Q:=by
 rintro ys L Q ⟨a,h,r,R,E,w,i,rfl,l,C,sr,hz,tl,q⟩;rw[<-ky] at l;generalize T:r.map some=J at l;have ag:zU r J R:=by rw[<-T];exact jQ r R
 clear T;refine qc l λb nb=>?_;have I:=By (o:=.lst (dU J)) nb;have g:qf L b (.lst (dU J)) b=some (.lst (dU J)):=q8;generalize qf L b (.lst (dU J))=L1 at I g ⊢;refine qc (I _ _ C) λc nc=>?_;have U:=I.trans (By (o:=.lst (w.map Y.int)) nc);replace g:=By (o:=.lst (w.map Y.int)) nc _ _ g;have t:qf L1 c (.lst (w.map Y.int)) c=some (.lst (w.map Y.int)):=q8;generalize qf L1 c (.lst (w.map Y.int))=L2 at U g t ⊢;refine⟨b,c,J,r,R,E,w,i,rfl,g,t,sr,ag,hz,tl,λR' e p hp=>?_,λe=>⟨xf.em,?_⟩⟩
 ·rw[e] at q;have j:=By (o:=.lst (dU J)) hp;have gp:qf L2 p (.lst (dU J)) p=some (.lst (dU J)):=q8;generalize qf L2 p (.lst (dU J))=L3 at j gp ⊢;refine⟨rfl,rfl,2,2,_,_,by decide,xh (j _ _ g) (dH _),xh ((U.trans j) _ _ l) (dH _),?_⟩;refine jd (show(!Da.eqs _ _)=false by rw[ox];rfl) ⟨rfl,rfl,1,1,_,_,by decide,xh (j _ _ t) (bG _),xh ((U.trans j) _ _ C) (bG _),?_⟩;refine jd (show(!Da.eqs _ _)=false by rw[lH];rfl) ?_;refine⟨rfl,rfl,2,2,_,_,by decide,xh gp (dH _),xh ((U.trans j) _ _ l) (dH _),?_⟩;refine jd (show(!Da.eqs _ _)=false by rw[ox];rfl) ?_;exact aI (U.trans j) q
 ·rw[e] at q;refine⟨rfl,rfl,2,2,_,_,by decide,xh g (dH _),xh (U _ _ l) (dH _),?_⟩;refine jd (show(!Da.eqs _ _)=false by rw[ox];rfl) ⟨rfl,rfl,1,1,_,_,by decide,xh t (bG _),xh (U _ _ C) (bG _),?_⟩;refine jd (show(!Da.eqs _ _)=false by rw[lH];rfl) ?_;exact aI U q
def aeu(J:jz):kn:=(qo (ay (vv (qa 4)) (qh 6) (jl (jL (yB (za J (qe (qa 0) (qe (qa 6) (qe (zh kw (qa 2) (jp 1)) zb)))))) (zu (yC (.bl false))) zq))
 (zu (yC (.bl true))))
def aU(n:Nat):jz:=λys L Q=>∃a,∃ks:List Kn,∃R:Ru,∃E:List Nat,∃d:Int,ys=[.ref a,qi R,.int d]/\L a=some (.lst (ja ks))/\SR ks R E/\ks.length<=1000/\ji R<=n/\d+(ji R:Int)<=140/\Q (.bl true) L
theorem uN:∀ys L Q,¬aU 0 ys L Q:=λys L Q ⟨a,J,R,E,d,_,_,_,_,h,_⟩=>by have:=gK R;lia
theorem tW(n:Nat):∀ys L Q,aU (n+1) ys L Q->vg (ra w9 (aU n)) 7 ys L Q:=by
 rintro ys L Q ⟨a,ks,R,E,d,rfl,ha,sr,kl,hd,a1,q⟩;have lc:∀u v A B,R=.cu u v A B->u<ks.length/\v<ks.length:=λu v A B e=>by subst e;cases sr with|cu hA hB h3 h4=>exact⟨hA.lt _ (hA.sub _ h3),hB.lt _ (hB.sub _ h4)⟩
 intro p1 n1;have s1:=By (o:=.dct ([("link",(3:Int)),("either",3),("both",4),("cut",5)].map λp=>(Sum.inr p.1,Y.int p.2))) n1;have tail:∀(c5:Option Y) (L2:qp) (J:Addr),qg L L2->L2 J=some (.lst ((qk R).map qi))->aeu (aU n) { nx:=λ_ U=>df Q .non U,rt:=df Q } [some (.ref a),some (qi R),some (.int d),some (.ref p1),some (.ref J),c5,none] L2:=by
  intro c5 L2 J C T;refine xc T λkeep kp=>xi ⟨λi l U=>∃c6,l=[some (.ref a),some (qi R),some (.int d),some (.ref p1),some (.ref J),c5,c6]/\qg L2 U,⟨_,rfl,DO _⟩,?_,?_,?_⟩
  ·rintro i l U ⟨c6,rfl,s⟩;exact kp U (by rw[s _ _ T,T])
  ·rintro i y l U I ⟨c6,rfl,s⟩;rw[An] at I;obtain⟨B,eB,rfl⟩:=Ao.mp I;have mB:=Aw eB;have dB:=kg mB;obtain⟨EB,sB⟩:=sr.arm mB;exact⟨a,ks,B,EB,_,rfl,(C.trans s) _ _ ha,sB,kl,by lia,by lia,_,DO _,_,rfl,s⟩
  ·rintro l U ⟨c6,rfl,s⟩;exact aI (C.trans s) q
 have lt:=sr.lt;have own:=sr.own;clear sr;cases R with
 |link u v=>
  obtain⟨h1,t,nm,h2,h3⟩:=own;walk_at "w";refine zy q8 ?_;walk_at "w";refine zy q8 (ql rfl ?_);walk_at "w";refine jd (Au (show ¬(150:Int)<d by lia)) ?_;refine⟨.link u v,rfl,λJ n4=>?_⟩;have C:=s1.trans (By (o:=.lst ((qk (.link u v)).map qi)) n4);refine qc q8 ?_;walk_at "w";refine⟨λz=>absurd z.1 (show ¬1=0 by decide),?_⟩;refine xi ⟨λi l U=>qg (qf (qf L p1 (.dct ([("link",(3:Int)),("either",3),("both",4),("cut",5)].map λp=>(Sum.inr p.1,Y.int p.2)))) J (.lst ((qk (.link u v)).map qi))) U/\∃c5,l=[some (.ref a),some (qi (.link u v)),some (.int d),some (.ref p1),some (.ref J),c5,none],⟨DO _,_,rfl⟩,λ_ _ _ _=>trivial,?_,?_⟩
  ·rintro i y l U I ⟨g,c5,rfl⟩;obtain⟨x,hx,rfl⟩:∃x:Nat,x<ks.length/\y=.int (x:Int):=by
    rcases i with _|_|i
    ·cases I;exact⟨u,zw h2,rfl⟩
    ·cases I;exact⟨v,zw h3,rfl⟩
    ·cases I
   walk_at "w";refine qx ((C.trans g) _ _ ha) (jd (Au (show ¬(((ja ks).length:Nat):Int)<=(x:Int) by rw[Ab];lia)) ⟨_,DO _,g,_,rfl⟩)
  ·rintro l U ⟨g,c5,rfl⟩;have T:=g _ _ (q8:qf (qf L p1 (.dct ([("link",(3:Int)),("either",3),("both",4),("cut",5)].map λp=>(Sum.inr p.1,Y.int p.2)))) J (.lst ((qk (.link u v)).map qi)) J=_);refine qc T ?_;exact tail c5 U J (C.trans g) T
 |ei r A=>
  obtain⟨i,j,h1,_⟩:=own;walk_at "w";refine zy q8 ?_;walk_at "w";refine zy q8 (ql rfl ?_);walk_at "w";refine jd (Au (show ¬(150:Int)<d by lia)) ?_;refine⟨.ei r A,rfl,λJ n4=>?_⟩;have C:=s1.trans (By (o:=.lst ((qk (.ei r A)).map qi)) n4);refine qc q8 ?_;walk_at "w";refine⟨λz=>absurd z.1 (show ¬1=0 by decide),?_⟩;refine xi ⟨λi l U=>qg (qf (qf L p1 (.dct ([("link",(3:Int)),("either",3),("both",4),("cut",5)].map λp=>(Sum.inr p.1,Y.int p.2)))) J (.lst ((qk (.ei r A)).map qi))) U/\∃c5,l=[some (.ref a),some (qi (.ei r A)),some (.int d),some (.ref p1),some (.ref J),c5,none],⟨DO _,_,rfl⟩,λ_ _ _ _=>trivial,?_,?_⟩
  ·rintro i y l U I ⟨g,c5,rfl⟩;obtain⟨x,hx,rfl⟩:∃x:Nat,x<ks.length/\y=.int (x:Int):=by
    rcases i with _|i
    ·cases I;exact⟨r,zw h1,rfl⟩
    ·cases I
   walk_at "w";refine qx ((C.trans g) _ _ ha) (jd (Au (show ¬(((ja ks).length:Nat):Int)<=(x:Int) by rw[Ab];lia)) ⟨_,DO _,g,_,rfl⟩)
  ·rintro l U ⟨g,c5,rfl⟩;have T:=g _ _ (q8:qf (qf L p1 (.dct ([("link",(3:Int)),("either",3),("both",4),("cut",5)].map λp=>(Sum.inr p.1,Y.int p.2)))) J (.lst ((qk (.ei r A)).map qi)) J=_);refine qc T ?_;walk_at "w";refine qx ((C.trans g) _ _ ha) (ql (jt h1) ?_);exact tail c5 U J (C.trans g) T
 |bo r A B=>
  obtain⟨i,j,h1⟩:=own;walk_at "w";refine zy q8 ?_;walk_at "w";refine zy q8 (ql rfl ?_);walk_at "w";refine jd (Au (show ¬(150:Int)<d by lia)) ?_;refine⟨.bo r A B,rfl,λJ n4=>?_⟩;have C:=s1.trans (By (o:=.lst ((qk (.bo r A B)).map qi)) n4);refine qc q8 ?_;walk_at "w";refine⟨λz=>absurd z.1 (show ¬1=0 by decide),?_⟩;refine xi ⟨λi l U=>qg (qf (qf L p1 (.dct ([("link",(3:Int)),("either",3),("both",4),("cut",5)].map λp=>(Sum.inr p.1,Y.int p.2)))) J (.lst ((qk (.bo r A B)).map qi))) U/\∃c5,l=[some (.ref a),some (qi (.bo r A B)),some (.int d),some (.ref p1),some (.ref J),c5,none],⟨DO _,_,rfl⟩,λ_ _ _ _=>trivial,?_,?_⟩
  ·rintro i y l U I ⟨g,c5,rfl⟩;obtain⟨x,hx,rfl⟩:∃x:Nat,x<ks.length/\y=.int (x:Int):=by
    rcases i with _|i
    ·cases I;exact⟨r,zw h1,rfl⟩
    ·cases I
   walk_at "w";refine qx ((C.trans g) _ _ ha) (jd (Au (show ¬(((ja ks).length:Nat):Int)<=(x:Int) by rw[Ab];lia)) ⟨_,DO _,g,_,rfl⟩)
  ·rintro l U ⟨g,c5,rfl⟩;have T:=g _ _ (q8:qf (qf L p1 (.dct ([("link",(3:Int)),("either",3),("both",4),("cut",5)].map λp=>(Sum.inr p.1,Y.int p.2)))) J (.lst ((qk (.bo r A B)).map qi)) J=_);refine qc T ?_;walk_at "w";refine qx ((C.trans g) _ _ ha) (ql (jt h1) ?_);exact tail c5 U J (C.trans g) T
 |cu u v A B=>
  walk_at "w";refine zy q8 ?_;walk_at "w";refine zy q8 (ql rfl ?_);walk_at "w";refine jd (Au (show ¬(150:Int)<d by lia)) ?_;refine⟨.cu u v A B,rfl,λJ n4=>?_⟩;have C:=s1.trans (By (o:=.lst ((qk (.cu u v A B)).map qi)) n4);refine qc q8 ?_;walk_at "w";refine⟨λz=>absurd z.1 (show ¬1=0 by decide),?_⟩;refine xi ⟨λi l U=>qg (qf (qf L p1 (.dct ([("link",(3:Int)),("either",3),("both",4),("cut",5)].map λp=>(Sum.inr p.1,Y.int p.2)))) J (.lst ((qk (.cu u v A B)).map qi))) U/\∃c5,l=[some (.ref a),some (qi (.cu u v A B)),some (.int d),some (.ref p1),some (.ref J),c5,none],⟨DO _,_,rfl⟩,λ_ _ _ _=>trivial,?_,?_⟩
  ·rintro i y l U I ⟨g,c5,rfl⟩;obtain⟨x,hx,rfl⟩:∃x:Nat,x<ks.length/\y=.int (x:Int):=by
    rcases i with _|_|i
    ·cases I;exact⟨u,(lc _ _ _ _ rfl).1,rfl⟩
    ·cases I;exact⟨v,(lc _ _ _ _ rfl).2,rfl⟩
    ·cases I
   walk_at "w";refine qx ((C.trans g) _ _ ha) (jd (Au (show ¬(((ja ks).length:Nat):Int)<=(x:Int) by rw[Ab];lia)) ⟨_,DO _,g,_,rfl⟩)
  ·rintro l U ⟨g,c5,rfl⟩;have T:=g _ _ (q8:qf (qf L p1 (.dct ([("link",(3:Int)),("either",3),("both",4),("cut",5)].map λp=>(Sum.inr p.1,Y.int p.2)))) J (.lst ((qk (.cu u v A B)).map qi)) J=_);refine qc T ?_;exact tail c5 U J (C.trans g) T
def tH(J:jz)(p1:jz):kn:=(qo (ay (iU (vn (bQ 5))) (qh 7) (qo (zn (za J (qe (qa 0) (qe (zh af (qa 5) (qa 7)) zb))) (qh 8))
 (akj 9 (m6 (uz 1 (vv (za p1 (qe (qa 0) (aS (qa 4) (qa 7))))) (qh 10) (yB (zh (iN true) (qa 10) (qa 8))) (qa 10)) (x0 zb)) (zu (yC (.bl false))) zq)))
 (qo (ay (vv (qa 6)) (qh 9) (qo (jl (yB (zh (qN false) (qa 9) (qa 2))) (zu (yC (.bl false))) zq)
 (dy (qa 2) (qa 9) (yC (.bl true)))))
 (jy (ak aW (qa 3) (vn (qa 5))))))
structure zQ(us:List Nat)(kvs:List (jg×Y)):Prop where
 u:wW us kvs
 n:kvs.length=us.length
theorem zQ.nil:zQ [] []:=⟨wW.nil,rfl⟩
theorem zQ.put{us:List Nat}(h:zQ us kvs){x:Nat}(J:x∉us)(y:Y):zQ (us++[x]) (ef kvs (.inl (x:Int)) y):=by refine⟨h.u.put x y,?_⟩;rw[acs (by rw[h.u.val,Au J]),Ac,Ac,h.n];rfl
theorem t9{ta p:Addr}{A:Ru}{EA us ts:List Nat}{bZ:List Ru}{c7 c8 c9:Option Y}{N:jq->qp->Prop}{a3:YK}{a4 a5:jq->qp->Prop}{pt:Addr}
 (ha:L a=some (.lst (ja ks))) (ga:L pa=some (.lst ((qk A).map qi))) (gt:L pt=some (.lst (nY ts))) (g3:L ta=some (.dct kvs)) (g4:L p=some (.lst (bZ.map qi)))
 (T:ta≠p) (aL:ta≠a) (ag:ta≠pa) (au:ta≠pt)
 (sA:SR ks A EA) (av:(qm A).Nodup) (ba:(qm A).length<=96) (U:zQ us kvs) (nd:(us++ts).Nodup) (ul:us.length+ts.length<=1000) (sl:bZ.length<=1000)
 (q:∀L' J c7 c8 c9,(∀b o,b≠ta->b≠p->L b=some o->L' b=some o)->L' ta=some (.dct J)->L' p=some (.lst ((bZ++qk A).map qi))->zQ (us++ts) J->N [some (.ref a),some (qi R),some (.ref ta),some (.ref p),some (qi A),some (.ref pa),some (.ref pt),c7,c8,c9] L'):
 tH bL bF { nx:=fq N,rt:=a3,bk:=a4,ct:=a5 } [some (.ref a),some (qi R),some (.ref ta),some (.ref p),some (qi A),some (.ref pa),some (.ref pt),c7,c8,c9] L:=by
 have big:=bg_;have al:=aaj A;refine qc ga ⟨⟨A3 _,by rw[Ab];lia⟩,?_⟩;rw[Ab,AQ];refine kE (λi r L'=>∃c7 c8 c9,r=[some (.ref a),some (qi R),some (.ref ta),some (.ref p),some (qi A),some (.ref pa),some (.ref pt),c7,c8,c9]/\qg L L') ⟨_,_,_,rfl,DO _⟩ ?_ ?_
 ·rintro i r L' hi ⟨c7,c8,c9,rfl,s⟩;have eB:(qk A)[i]?=some (qk A)[i]:=Af hi;generalize (qk A)[i]=B at eB;have mB:=Aw eB;obtain⟨vs,ev⟩:=kJ sA eB;obtain⟨EB,sB,hv⟩:=sA.at_ eB ev;have tB:=(vt mB).length_le;have vl:=i4 vs (Aw ev);have C:L' a=some (.lst (dU (ks.map some))):=by rw[ky];exact s _ _ ha
  refine qc (s _ _ ga) (ql (by rw[Cz];exact jt eB) ⟨a,ks.map some,ks,B,EB,rfl,C,sB,jQ ks B,(vt mB).nodup av,by lia,λp5 F h5 hF=>?_⟩);have s5:=By (o:=.lst (nY F)) h5;have e5:qf L' p5 (.lst (nY F)) p5=some (.lst (nY F)):=q8;replace C:=s5 _ _ C;replace s:=s.trans s5;clear s5;generalize qf L' p5 (.lst (nY F))=L5 at s e5 C ⊢;refine⟨a,ks.map some,ks,A,EA,i,_,rfl,Cz _,C,sA,jQ ks A,hi,λp6 bb h6 a1=>?_⟩;rw[ev] at a1;cases a1;have s6:=By (o:=.lst (nY vs)) h6;have e6:qf L5 p6 (.lst (nY vs)) p6=some (.lst (nY vs)):=q8;replace e5:=s6 _ _ e5;replace s:=s.trans s6;clear s6 C;generalize qf L5 p6 (.lst (nY vs))=L6 at s e5 e6 ⊢;refine xc e6 λkeep kp=>dZ (λi zs=>zs=[]) (by rw[kc];exact big _ (by lia)) (kp _ rfl) rfl ?_ ?_
  ·rintro j y zs hy rfl;obtain⟨x,ex,rfl⟩:=dY hy;refine qc e5 ⟨rfl,kD _,?_⟩;rw[jV];have c:x∈F:=(hF x).mpr (hv x (Aw ex));exact jd (by rw[AD c];rfl) ⟨_,DO _,rfl,rfl⟩
  rintro zs rfl p7 h7 p8 h8;refine ww (n:=0) (m:=0) (by decide) (By h8 _ _ q8) q8 (.nil:Paired (jj _ 0) _ []) (.nil:Paired (jj _ 0) _ []) ?_;exact jd rfl ⟨_,DO _,_,_,_,rfl,(s.trans (By h7)).trans (By h8)⟩
 ·rintro r L' ⟨c7,c8,c9,rfl,s⟩;have t:=s _ _ gt;refine xc t λkeep kp=>xi ⟨λi r l=>∃c9 J,r=[some (.ref a),some (qi R),some (.ref ta),some (.ref p),some (qi A),some (.ref pa),some (.ref pt),c7,c8,c9]/\(∀b o,b≠ta->L' b=some o->l b=some o)/\l ta=some (.dct J)/\zQ (us++ts.take i) J,⟨_,kvs,rfl,λb o _ e=>e,s _ _ g3,by rw[List.take_zero,A1];exact U⟩,?_,?_,?_⟩
  ·rintro i r l ⟨c9,J,rfl,k,_⟩;exact kp l (by rw[k _ _ (AE au) t,t])
  ·rintro i y r l hy ⟨c9,J,rfl,k,g,I⟩;obtain⟨x,ex,rfl⟩:=dY hy;have et:ts.take (i+1)=ts.take i++[x]:=by rw[Bd,ex];rfl
   have hx:x∉us++ts.take i:=λm=>by
    have e2:us++ts=(us++ts.take i)++x::ts.drop (i+1):=by have hi:=zw ex;rw[Af hi] at ex;rw[<-AO ex,AR,BF,A5]
    rw[e2] at nd;exact(Ap.mp nd).2.2 x m x (Aj ..) rfl
   have ln:=I.n;rw[Ac,A4] at ln;refine zy g ?_;refine jd (by rw[I.u.val,Au hx];rfl) ?_;refine zy g ⟨big _ (by lia),_,DO _,_,_,rfl,λb o hb e=>(qb hb).trans (k b o hb e),q8,?_⟩;rw[et,<-AR];exact I.put hx _
  ·rintro r l ⟨c9,J,rfl,k,g,I⟩;rw[kc,Ba] at I;have a2:=k _ _ (AE T) (s _ _ g4);refine qc a2 (qx a2 (qx (k _ _ (AE ag) (s _ _ ga)) ⟨by rw[Ab,Ab];exact Bo (big _ (by lia)),?_⟩));exact⟨_,DO _,q _ J _ _ _ (λb o h1 h2 e=>(qb h2).trans (k b o h1 (s _ _ e))) ((qb T).trans g) (by rw[q8,Av]) I⟩
def dr:jz:=λys L Q=>∃a,∃ks:List Kn,∃R:Ru,∃E:List Nat,ys=[.ref a,qi R]/\L a=some (.lst (ja ks))/\SR ks R E/\(qm R).Perm (List.range ks.length)/\ks.length<=96/\(∀p w,cM ks p w->w.depth<=120)/\Q (.bl true) L
theorem iL:∀{R A B:Ru},A∈xn R->B∈qk A->B∈xn R
 |.link p q,A,B,h,g=>by cases Ai.mp h;cases g
 |.ei r C,A,B,h,g=>by
  rcases Am.mp h with rfl|h
  ·rw[xl];exact Ad _ (AX.mpr ⟨B,g,by rw[xl];exact Aj ..⟩)
  ·exact Ad _ (iL h g)
 |.bo r C D,A,B,h,g=>by
  rcases Am.mp h with rfl|h
  ·rw[xl];exact Ad _ (AX.mpr ⟨B,g,by rw[xl];exact Aj ..⟩)
  ·exact Ad _ ((Aq.mp h).elim (λh=>Ar _ (iL h g)) λh=>Ag _ (iL h g))
 |.cu p q C D,A,B,h,g=>by
  rcases Am.mp h with rfl|h
  ·rw[xl];exact Ad _ (AX.mpr ⟨B,g,by rw[xl];exact Aj ..⟩)
  ·exact Ad _ ((Aq.mp h).elim (λh=>Ar _ (iL h g)) λh=>Ag _ (iL h g))
theorem sC:∀ys L Q,dr ys L Q->vg (ut w9 (bN 120) (wm 120) bL bF) 10 ys L Q:=by
 rintro ys L Q ⟨a,ks,R,E,rfl,ha,sr,tp,kl,wd,q⟩;have big:=bg_;have nd:(qm R).Nodup:=tp.nodup_iff.mpr BW;have tl:(qm R).length<=96:=by rw[tp.length_eq,Bw];exact kl
 have rd:=xq R;have rz:=wx R;intro ta a4 T a5;have ag:ta≠T:=km q8 a5;have a1:L T=none:=jk a5;have ba:ta≠a:=AE (km ha a4);have bf:a≠T:=km ha a1;have S0:qg L (qf (qf L ta (.dct [])) T (.lst [qi R])):=(By a4).trans (By a5);refine⟨λm τ L'=>∃J us st c4 c5 c6 c7 c8 c9,τ=[some (.ref a),some (qi R),some (.ref ta),some (.ref T),c4,c5,c6,c7,c8,c9]/\qg L L'/\L' ta=some (.dct J)/\L' T=some (.lst (st.map qi))/\zQ us J/\qH R us st/\(∀B∈st,B∈xn R)/\m=(st.map aQ).sum,⟨_,[],[],[R],_,_,_,_,_,_,rfl,S0,(qb ag).trans q8,q8,zQ.nil,qH.start R,λB hB=>by rw[Ai.mp hB,xl];exact Aj ..,rfl⟩,?_⟩;rintro m τ L' ⟨J,us,st,c4,c5,c6,c7,c8,c9,rfl,s,h3,h4,U,I,rl,rfl⟩;intro p hp;refine ww (n:=120) (m:=0) (by decide) (By hp _ _ h4) q8 (aH λA hA=>AM (I.dp A hA) (by lia)) (.nil:Paired (jj _ 0) _ []) ?_;have s2:=By (o:=.lst []) hp;replace s:=s.trans s2;replace h3:=s2 _ _ h3;replace h4:=s2 _ _ h4;clear s2;generalize qf L' p (.lst [])=L2 at s h3 h4 ⊢;show wn (!(Da.eqs (st.map aZ) [])) _ _;rw[gQ];rcases Cq st with rfl|⟨bZ,A,rfl⟩
 ·refine jd rfl ?_;have pl:=I.pt.length_eq;rw[Dy,A1,tp.length_eq,Bw] at pl;refine zy h3 (qc (s _ _ ha) ?_);refine aI s ?_;show Q (.bl (decide (((J.length:Nat):Int)=((ja ks).length:Nat)))) L;rw[U.n,pl,Ab,AD rfl];exact q
 ·rw[Cr] at *;rw[Au (by simp)];refine aK rfl ⟨λa2 L'=>∃m',m'<((bZ++[A]).map aQ).sum/\∃J us st c4 c5 c6 c7 c8 c9,a2=[some (.ref a),some (qi R),some (.ref ta),some (.ref T),c4,c5,c6,c7,c8,c9]/\qg L L'/\L' ta=some (.dct J)/\L' T=some (.lst (st.map qi))/\zQ us J/\qH R us st/\(∀B∈st,B∈xn R)/\m'=(st.map aQ).sum,λa2 L' h=>h,?_⟩;rw[Av] at h4;refine uc h4 ?_;have s3:qg L (qf L2 T (.lst (bZ.map qi))):=s.upd a1;replace h3:=(qb (o:=.lst (bZ.map qi)) ag).trans h3;clear h4;have h4:qf L2 T (.lst (bZ.map qi)) T=some (.lst (bZ.map qi)):=q8;generalize qf L2 T (.lst (bZ.map qi))=L3 at s3 h3 h4 ⊢;refine⟨A,rfl,λpa n1=>?_⟩;have bb:=km h3 n1;have s4:=s3.trans (By (o:=.lst ((qk A).map qi)) n1);have g3:=By (o:=.lst ((qk A).map qi)) n1 _ _ h3;have g4:=By (o:=.lst ((qk A).map qi)) n1 _ _ h4;have ga:qf L3 pa (.lst ((qk A).map qi)) pa=some (.lst ((qk A).map qi)):=q8;generalize qf L3 pa (.lst ((qk A).map qi))=L4 at s4 g3 g4 ga ⊢;have mA:=rl A (by simp);obtain⟨⟨EA,sA⟩,tA,a3,dA,_⟩:=sr.rls A mA;have bg:=a3.length_le;have I':=I.step;have pl:=I'.pt.length_eq;rw[Ac,Ac] at pl;have bc:(us++aT A).Nodup:=(Ap.mp (I'.pt.nodup_iff.mpr nd)).1;have sl:=I.sz;have len:∀l:List Ru,l.length<=(l.map aQ).sum:=λl=>by induction l with|nil=>exact Al _|cons x r ih=>have:=pL x;simp;lia
  have l0:=len (bZ++[A]);rw[Ac] at l0;have go:∀(al:YK) (ao au:jq->qp->Prop) (L5:qp) (pt:Addr),qg L4 L5->L5 pt=some (.lst (nY (aT A)))->ta≠pt->tH bL bF { nx:=fq λa2 L'=>∃m',m'<((bZ++[A]).map aQ).sum/\∃J us st c4 c5 c6 c7 c8 c9,a2=[some (.ref a),some (qi R),some (.ref ta),some (.ref T),c4,c5,c6,c7,c8,c9]/\qg L L'/\L' ta=some (.dct J)/\L' T=some (.lst (st.map qi))/\zQ us J/\qH R us st/\(∀B∈st,B∈xn R)/\m'=(st.map aQ).sum,rt:=al,bk:=ao,ct:=au } [some (.ref a),some (qi R),some (.ref ta),some (.ref T),some (qi A),some (.ref pa),some (.ref pt),c7,c8,c9] L5:=by
   intro al ao au L5 pt g gt bd;refine t9 ((s4.trans g) _ _ ha) (g _ _ ga) gt (g _ _ g3) (g _ _ g4) ag ba bb bd sA (a3.nodup nd) (by lia) U bc (by lia) (by lia) ?_;intro L' av c7 c8 c9 k k3 k4 U';refine⟨_,qH.lt (tk:=us) (A:=R),av,us++aT A,bZ++qk A,_,_,_,_,_,_,rfl,λb o e=>k b o (km e a4) (km e a1) ((s4.trans g) b o e),k3,k4,U',I',λB hB=>?_,by rw[Av,DK]⟩;rcases Aq.mp hB with hB|hB
   ·exact rl B (Ar _ hB)
   ·exact iL mA hB
  have aL:=s4 _ _ ha;clear rl I I' sl;cases A with
  |link u v=>
   obtain⟨h1,t,nm,e1,e2⟩:=sA.own;intro p0 n0 pt nt;have g:=(By (o:=.lst [Y.int (u:Int)]) n0).trans (By (o:=.lst [Y.int (u:Int),.int (v:Int)]) nt);refine jd (Au (show ¬(v:Int)<=(u:Int) by lia)) ?_;refine qc (g _ _ aL) (ql (jt e1) (qc (g _ _ aL) (ql (jt e2) ⟨Wd.leaf (!t) nm,rfl,by show 1<=120;decide,?_⟩)));rw[show(Wd.leaf (!t) nm).turn=.leaf t nm by cases t<;>rfl];refine mX (u:=.leaf t nm) (v:=.leaf t nm) (by show 1<=128;decide) ?_;refine jd (show(!Da.eq _ _)=false by rw[vV,AD rfl,AD rfl];rfl) ?_;exact go _ _ _ _ pt g q8 (km (By n0 _ _ g3) nt)
  |ei r B=>
   obtain⟨i,j,e1,_⟩:=sA.own;intro p0 n0;have g:=By (o:=.lst [Y.int (r:Int)]) n0;refine qc (g _ _ aL) (ql (jt e1) ?_);exact go _ _ _ _ p0 g q8 (km g3 n0)
  |bo r B C=>
   obtain⟨i,j,e1⟩:=sA.own;intro p0 n0;have g:=By (o:=.lst [Y.int (r:Int)]) n0;refine qc (g _ _ aL) (ql (jt e1) ?_);exact go _ _ _ _ p0 g q8 (km g3 n0)
  |cu u v B C=>
   obtain⟨w,e1,e2⟩:=sA.own;intro p0 n0 pt nt;have g:=(By (o:=.lst [Y.int (u:Int)]) n0).trans (By (o:=.lst []) nt);refine⟨a,ja ks,u,w,rfl,g _ _ aL,e1,wd _ _ e1,a,ja ks,v,w.turn,rfl,g _ _ aL,e2,wd _ _ e2,w.turn,rfl,wd _ _ e2,?_⟩;rw[Wd.turn_turn];refine mX (u:=w) (v:=w) (AM (wd _ _ e1) (by decide)) ?_;refine jd (show(!Da.eq _ _)=false by rw[m5];rfl) ?_;exact go _ _ _ _ pt g q8 (km (By n0 _ _ g3) nt)
theorem uD{w:List Int}{i:Int}(h:qE ks R w i=some R'):∃S T,∃k:Nat,j6 R w=some S/\i=(k:Int)/\wc ks S k=some T/\R'=js R w T:=by
 unfold qE at h;split at h
 ·cases h
 ·rename_i S U;split at h
  ·cases h
  ·rename_i B g;obtain⟨k,rfl,_⟩:=vq g;obtain⟨T,J,rfl⟩:=Ao.mp h;rw[AQ] at J;exact⟨S,T,k,U,rfl,J,rfl⟩
theorem afm{w:List Int}{i:Int}(h:qE ks R w i=some R'):(qm R').Perm (qm R)/\(zx R').Perm (zx R)/\(jb R').Perm (jb R):=by obtain⟨S,T,k,J,rfl,U,rfl⟩:=uD h;exact⟨pB w4 gJ J (dX w4 gJ U),pB fh rc J (dX fh rc U),pB iB sm J (dX iB sm U)⟩
theorem ama{E:List Nat}{w:List Int}{i:Int}(U:SR ks R E)(nd:(qm R).Nodup)(h:qE ks R w i=some R'):SR ks R' E:=by obtain⟨S,T,k,g,rfl,j,rfl⟩:=uD h;obtain⟨_,l⟩:=gY g;obtain⟨_,_,J,_,_⟩:=U.rls S l;exact ajt g (λp o=>aet o (J.nodup nd) j) E U
theorem amy{E:List Nat}{w:List Int}{i:Int}(U:SR ks R E)(J:j6 R w=some S):(qE ks R w i).isSome=(yp ks S i).isSome:=by
 obtain⟨_,g⟩:=gY J;obtain⟨⟨I,j⟩,_⟩:=U.rls S g;unfold qE;rw[J];show(match jw S i with|none=>none|some _=>(wc ks S i.toNat).map (js R w)).isSome=_;cases e:jw S i with
 |none=>
  unfold yp;rw[e]
  try rfl
 |some B=>
  obtain⟨k,rfl,l⟩:=vq e;show((wc ks S (k:Int).toNat).map (js R w)).isSome=_;rw[B6,AQ];obtain⟨ts,_,o,p⟩:=wA j l;rw[o,p];cases r:x4 B ts with
  |none=>rfl
  |some n=>
   obtain⟨C,t,_⟩:=oX r;show(match (qk B)[n]? with|some D=>some (qy B n (qy S k D))|none=>none).isSome=_;rw[t];rfl
theorem ags{E:List Nat}{w:List Int}{i:Int}(l:SR ks R E)(nd:(qm R).Nodup)(h:qE ks R w i=some R')(g:j6 R w=some S)(o:yp ks S i=some n):qE ks R' w (n:Int)=some R:=by
 obtain⟨S',T,k,J,rfl,p,rfl⟩:=uD h;rw[g] at J;cases J;obtain⟨_,r⟩:=gY g;obtain⟨⟨ES,t⟩,_,U,_,_⟩:=l.rls S r;have tb:=y8 t (U.nodup nd) p o;obtain⟨I,ts,m,B,j,_⟩:=gT tb;unfold qE;rw[aj7 g];show(match jw T (n:Int) with|none=>none|some _=>(wc ks T (n:Int).toNat).map (js (js R w T) w))=some R;have C:jw T (n:Int)=some I:=by unfold jw;have:=zw j;rw[AC ⟨by lia,by lia⟩,AQ,j]
 rw[C];show(wc ks T (n:Int).toNat).map (js (js R w T) w)=some R;rw[AQ,tb];show some (js (js R w T) w S)=some R;rw[adx g]
def Bk(ks:List Kn)(R:Ru):List WP->Ru->Prop
 |[],B=>B=R
 |t::r,B=>∃A,qE ks B t.2.1 t.2.2=some A/\Bk ks R r A
structure S63(ks:List Kn)(R:Ru)(E:List Nat)(B:Ru):Prop where
 sr:SR ks B E
 tp:(qm B).Perm (qm R)
 lp:(zx B).Perm (zx R)
 cp:(jb B).Perm (jb R)
theorem S63.step{E:List Nat}{B C:Ru}{w:List Int}{i:Int}(h:S63 ks R E B)(nd:(qm R).Nodup)(e:qE ks B w i=some C):S63 ks R E C:=by obtain⟨h1,h2,h3⟩:=afm e;exact⟨ama h.sr (h.tp.nodup_iff.mpr nd) e,h1.trans h.tp,h2.trans h.lp,h3.trans h.cp⟩
theorem aba{l m:List (Nat×Nat)}(h:l.Perm m)(J:l.Pairwise yg)(U:m.Pairwise yg):l=m:=by refine List.Perm.eq_of_pairwise (le:=yg) (λa b _ _ h1 h2=>?_) J U h;unfold yg at h1 h2;exact Prod.ext (by lia) (by lia)
theorem rT{l m:List (Nat×Nat)}{Q:YK}(r:L a=some (.lst (bT l)))(t:L b=some (.lst (bT m)))(pm:m.Perm l)(nd:l.Nodup)(lt:∀p∈l,p.2<1000000)(hz:l.length<=63)(q:∀L',qg L L'->Q (.bl false) L'):cr [.ref a] L λx L1=>cr [.ref b] L1 λy L2=>uA true x y L2 Q:=by refine ahe r lt nd hz λD J C I T=>?_;have U:=By (o:=.lst (bT J)) C;have g1:qf L D (.lst (bT J)) D=some (.lst (bT J)):=q8;generalize qf L D (.lst (bT J))=L1 at U g1 ⊢;refine ahe (U _ _ t) (λp hp=>lt p (pm.mem_iff.mp hp)) (pm.nodup_iff.mpr nd) (by rw[pm.length_eq];exact hz) λD2 qs g pq qw=>?_;cases aba (I.trans (pm.symm.trans pq.symm)) T qw;have j:=By (o:=.lst (bT J)) g;refine ww (n:=1) (m:=1) (by decide) (j _ _ g1) q8 (mG _) (mG _) ?_;rw[vF];exact q _ (U.trans j)
theorem aO:∀R:Ru,(jb R).length+1<=(zx R).length/\2*(zx R).length<=(qm R).length
 |.link _ _=>⟨Al _,Al _⟩
 |.ei _ A=>⟨(aO A).1,BD (aO A).2⟩
 |.bo _ A B=>by have:=aO A;have:=aO B;show(jb A++jb B).length+1<=(zx A++zx B).length/\2*(zx A++zx B).length<=(qm A++qm B).length+1;simp only[Ac];lia
 |.cu _ _ A B=>by have:=aO A;have:=aO B;show(jb A++jb B).length+1+1<=(zx A++zx B).length/\2*(zx A++zx B).length<=(qm A++qm B).length;simp only[Ac];lia
theorem ac5 :∀ys L Q,oh Pt lamQ ys L Q->vg (af2 (lF Pt) kO lv mL uL fU (aU 124) oz dr (cG 124)) 15 ys L Q:=by
 rintro ys L Q ⟨ns,rfl,bp,hL,q⟩;have hP:L Pt=some (.tb lamQ):=by rw[hL];exact q8
 clear hL;have big:=bg_;intro p0 a4;refine qc q8 ⟨rfl,rfl,small (by rw[Ab];show ns.length+1<=1000;lia),λp hp=>?_⟩;obtain⟨c,ec⟩:∃c:Int,fO (ns.map Y.int++[Y.int 0]) 0=some (Y.int c):=by cases ns with|nil=>exact⟨0,rfl⟩|cons a r=>exact⟨a,vk (j:=0) rfl⟩
 refine qc q8 (ql ec ⟨⟨by decide,by decide,by decide⟩,(by decide:(0:Int)<10 ^ (9:Int).toNat),?_⟩);show qh 1 (Y.int (c % (10:Int) ^ (9:Int).toNat)) _ _ _;have a5:=((By (o:=.lst [Y.int 0]) a4).trans (By (o:=.lst (ns.map Y.int++[Y.int 0])) hp)) _ _ hP;generalize c % (10:Int) ^ (9:Int).toNat=s;generalize qf (qf _ p0 _) p _=L1 at a5 ⊢;clear hp a4 ec hP;obtain⟨ms,bg,bq⟩:=qW ns (some 1) none;intro pm ag;rw[bg];refine⟨pm,ms,s,60,rfl,q8,by lia,by decide,By ag _ _ a5,λwa U R E hw T tp=>?_⟩;have gw:qf (qf L1 pm (.lst (ms.map Y.int))) wa (.lst (ja U)) wa=some (.lst (ja U)):=q8;generalize qf (qf L1 pm (.lst (ms.map Y.int))) wa (.lst (ja U))=L3 at gw ⊢;clear hw ag;have tl:=T.small;have kl:=T.len;have dep:∀B,S63 U R E B->(qm B).length<=96/\ji B<=96:=λB h=>by have:=xq B;have:=h.tp.length_eq;exact⟨by lia,by lia⟩
 intro pl al;obtain⟨us,bh,br⟩:=qW ns (some 1) (some 81);intro pu a2;rw[bh];have ao:pl≠pu:=km q8 a2;have s4:=(By (o:=.lst []) al).trans (By (o:=.lst (us.map Y.int)) a2);have gl:qf (qf L3 pl (.lst [])) pu (.lst (us.map Y.int)) pl=some (.lst []):=(qb ao).trans q8;have gu:qf (qf L3 pl (.lst [])) pu (.lst (us.map Y.int)) pu=some (.lst (us.map Y.int)):=q8;have bj:L3 pu=none:=jk a2;generalize qf (qf L3 pl (.lst [])) pu (.lst (us.map Y.int))=L4 at s4 gl gu ⊢;refine xc gu λkeep kp=>xi ⟨λi τ g=>∃c6 c7 c8 c9 dk tL zP B ts,τ=[some (.sq (ns.map Y.int)),some (.int s),some (.ref wa),some (qi R),some (qi B),some (.ref pl),c6,c7,c8,c9,dk,tL,zP,none,none]/\qg L3 g/\g pu=some (.lst (us.map Y.int))/\g pl=some (.lst (ts.reverse.map paT))/\HW g [pl] ts/\(∀t∈ts,t.2.1.length<=120)/\ts.length<=i/\Bk U R ts B/\S63 U R E B,⟨_,_,_,_,_,_,_,R,[],rfl,s4,gu,gl,⟨λt m=>by cases m⟩,(λt m=>by cases m),Al _,rfl,⟨T.sr,.refl _,.refl _,.refl _⟩⟩,?_,?_,?_⟩
 ·rintro i τ g ⟨c6,c7,c8,c9,dk,tL,zP,B,ts,rfl,I,l,J,H,wl,tz,bk,S⟩;exact kp g (by rw[l,gu])
 ·rintro i y τ g hy ⟨c6,c7,c8,c9,dk,tL,zP,B,ts,rfl,I,l,J,H,wl,tz,bk,S⟩;obtain⟨z,ez,rfl⟩:=dw hy;have hi:=zw ez;rw[Ab] at hi;rw[An] at ez;obtain⟨x,_,rfl⟩:=Ao.mp ez;refine⟨x,i,16807,rfl,A3 _,by lia,by decide,by decide,λr _ _=>?_⟩;obtain⟨tB,dB⟩:=dep B S;refine⟨.inr ⟨by decide,by decide⟩,(show(0:Int)<2147483647 by decide),B,_,rfl,by lia,λw p hp wz hS=>?_⟩;obtain⟨A,eA⟩:=hS;have s5:=I.trans (By (o:=.lst (w.map Y.int)) hp);have gp:qf g p (.lst (w.map Y.int)) p=some (.lst (w.map Y.int)):=q8;have au:p≠pl:=AE (km J hp);replace J:=By (o:=.lst (w.map Y.int)) hp _ _ J;replace l:=By (o:=.lst (w.map Y.int)) hp _ _ l;replace H:=H.mono (By (o:=.lst (w.map Y.int)) hp);generalize qf g p (.lst (w.map Y.int))=L5 at s5 gp J l H ⊢;clear I hp;refine⟨(show(0:Int)<2 by decide),?_⟩;have a3:=s5 _ _ gw;have av:=a3;rw[<-ky] at av;have aL:=S.tp.nodup_iff.mpr T.nd;obtain⟨_,mA⟩:=gY eA;obtain⟨⟨EA,sA⟩,_,a1,_,_⟩:=S.sr.rls A mA;refine⟨B,A,p,w,rfl,gp,eA,?_⟩;refine⟨wa,U.map some,U,A,EA,_,rfl,av,sA,jQ U A,a1.nodup aL,AM a1.length_le (by lia),?_⟩;refine⟨wa,p,U,B,E,w,_,rfl,a3,gp,S.sr,by lia,by lia,?_⟩;show qo _ _ _ _ _;have go:=amy (i:=r % 2) S.sr eA;cases ex:qE U B w (r % 2) with
  |none=>
   rw[ex] at go;cases eg:yp U A (r % 2) with
   |some n=>rw[eg] at go;cases go
   |none=>
    walk_at "w";refine .inl ⟨rfl,⟨_,rfl⟩,?_⟩;walk_at "w";exact⟨_,DO _,_,_,_,_,_,_,_,B,ts,rfl,s5,l,J,H,wl,BD tz,bk,S⟩
  |some C=>
   rw[ex] at go;cases eg:yp U A (r % 2) with
   |none=>rw[eg] at go;cases go
   |some n=>
    have SC:=S.step T.nd ex;obtain⟨tC,dC⟩:=dep C SC;obtain⟨zs,ez⟩:=kC C;show qo _ _ _ [_,_,_,_,_,_,_,_,_,_,_,_,some (qi C),_,_] _;rw[ez];walk_at "w";have dz:∀g,jj g 96 (.tup zs) (aZ C):=λg=>ez▸y7 dC;refine .inr ⟨rfl,rfl,96,1,_,_,by decide,dz _,aY .nil,?_⟩;refine jd (show Da.eq (aZ C) (.tup [])=false by cases C<;>rfl) ?_;walk_at "w";refine⟨wa,U,C,E,1,by rw[ez],a3,SC.sr,by lia,by lia,by lia,?_⟩;walk_at "w";refine qc J (qx J ⟨by rw[Ab,BG];exact big _ (by lia),?_⟩);have s6:=s5.upd (o:=.lst (ts.reverse.map paT++[.tup [.ref p,.int (n:Int)]])) al;have bi:=ags S.sr aL ex eA eg;refine⟨_,DO _,_,_,_,_,_,_,_,C,(p,w,(n:Int))::ts,by rw[ez];rfl,s6,(qb (AE ao)).trans l,?_,?_,?_,by rw[AN];lia,⟨B,bi,bk⟩,SC⟩
    ·rw[q8,List.reverse_cons,Av];rfl
    ·exact HW.app (HW.one (by rw[qb au];exact gp) (by simp[au])) (H.upd (Ai.mpr rfl))
    ·intro t m;rcases Am.mp m with rfl|m
     ·exact wz
     ·exact wl t m
 ·rintro τ g ⟨c6,c7,c8,c9,dk,tL,zP,B,ts,rfl,I,l,J,H,wl,tz,bk,S⟩;obtain⟨tB,dB⟩:=dep B S;refine⟨R,rfl,by lia,λla ca ta lk ct bu L5 s5 _ _ _ g1 g2 _ p1 p2 _=>?_⟩;refine⟨B,rfl,by lia,λlb cb tb lk2 bv bn L6 s6 _ _ _ g3 g4 _ p3 p4 _=>?_⟩;replace g1:=s6 _ _ g1;replace g2:=s6 _ _ g2;replace J:=s6 _ _ (s5 _ _ J);replace H:=(H.mono s5).mono s6;replace I:=(I.trans s5).trans s6;clear s5 s6 l;obtain⟨fc,fl⟩:=aO R;refine⟨wa,U,B,E,rfl,I _ _ gw,S.sr,S.tp.trans tp,kl,?_,?_⟩
  ·intro p w h;have h:KW (dU (U.map some)) p w:=by rw[ky];exact h
   have:=KW.dep (sR T.ok) h;obtain⟨k,ek⟩:=KW.ex h;have:=zw ek;rw[Ab] at this;lia
  have ba:∀x∈qm R,x<1000000:=λx hx=>by have:=T.sr.lt x hx;lia
  have part:=T.sr.part T.nd;have bb:(zx R).Nodup:=fg (T.sr.leaves.nodup_iff.mpr (T.nd.filter _));have bc:(jb R).Nodup:=fg (Ap.mp (Ap.mp (part.nodup_iff.mpr T.nd)).2.1).1;have bd:∀p∈lk,p.2<1000000:=λp hp=>ba _ (AJ.mp (T.sr.leaves.mem_iff.mp (lJ (p1.mem_iff.mp hp)).2)).1;have bf:∀p∈ct,p.2<1000000:=λp hp=>ba _ (part.mem_iff.mp (Ag _ (Ar _ (lJ (p2.mem_iff.mp hp)).2)));refine rT g1 g3 (p3.trans (S.lp.trans p1.symm)) (p1.nodup_iff.mpr bb) bd (by rw[p1.length_eq];lia) λL7 s7=>?_;refine rT (s7 _ _ g2) (s7 _ _ g4) (p4.trans (S.cp.trans p2.symm)) (p2.nodup_iff.mpr bc) bf (by rw[p2.length_eq];lia) λL8 s8=>?_;replace J:=s8 _ _ (s7 _ _ J);replace H:=(H.mono s7).mono s8;replace gw:=s8 _ _ (s7 _ _ (I _ _ gw));clear s7 s8 g1 g2 g3 g4 p1 p2 p3 p4 I bd bf bb bc part;refine xc J λkeep kp=>?_;rw[<-List.map_reverse,List.reverse_reverse];refine xi ⟨λi τ g=>∃c9 tL B,τ=[some (.sq (ns.map Y.int)),some (.int s),some (.ref wa),some (qi R),some (qi B),some (.ref pl),c6,c7,c8,c9,dk,tL,zP,some (.tup [.ref la,.ref ca,.ref ta]),some (.tup [.ref lb,.ref cb,.ref tb])]/\qg L8 g/\Bk U R (ts.drop i) B/\S63 U R E B,⟨_,_,B,rfl,DO _,bk,S⟩,?_,?_,?_⟩
  ·rintro i τ g ⟨c9,tL,B,rfl,I,bk,S⟩;exact kp g (by rw[I _ _ J,J])
  ·rintro i y τ g hy ⟨c9,tL,B,rfl,I,bk,S⟩;rw[An] at hy;obtain⟨t,et,rfl⟩:=Ao.mp hy;obtain⟨pt,w,k⟩:=t;have hi:=zw et;have mt:=Aw et;rw[B1 hi,AO ((Af hi).symm.trans et)] at bk;obtain⟨A,eA,bk⟩:=bk;obtain⟨tB,dB⟩:=dep B S;have wz:=wl _ mt;have SA:=S.step T.nd eA;obtain⟨tA,dA⟩:=dep A SA;refine⟨wa,pt,U,B,E,w,k,rfl,I _ _ gw,I _ _ (H.at_ _ mt).1,S.sr,AM wz (by decide),by lia,?_⟩;rw[eA];obtain⟨zs,ez⟩:=kC A;show qh 4 (qi A) _ _ _;rw[ez];walk_at "w";refine⟨wa,U,A,E,1,by rw[ez],I _ _ gw,SA.sr,by lia,by lia,by lia,?_⟩;exact⟨_,DO _,_,_,A,by rw[ez];rfl,I,bk,SA⟩
  ·rintro τ g ⟨c9,tL,B,rfl,I,bk,S⟩;rw[Ab,List.drop_length] at bk;cases (show B=R from bk);obtain⟨tA,dA⟩:=dep R S;exact⟨_,_,rfl,cK (by lia),xg (q _)⟩
end L3
end
set_option maxRecDepth 100000
set_option maxHeartbeats 8000000
namespace K63
open PySem L2 L3 Words
abbrev ng:Str:="_law_knots"
abbrev nh:Str:="_law_rule"
abbrev nj:Str:="_law_word_here"
abbrev nl:Str:="_law_one"
abbrev nq:Str:="_law_seed"
abbrev nu:Str:="_law_p"
abbrev nv:Str:="_law_arm"
abbrev nw:Str:="_law_two"
abbrev ny:Str:="_law_at_here"
abbrev nE:Str:="_law_forest"
abbrev nF:Str:="_law_ends_here"
abbrev nG:Str:="_law_way"
abbrev nH:Str:="_law_k"
abbrev nJ:Str:="_law_script"
abbrev nK:Str:="_law_drawn_way"
abbrev nL:Str:="_law_tree_here"
abbrev nM:Str:="_law_arms_here"
abbrev nN:Str:="_law_found"
abbrev nO:Str:="_law_gathered"
abbrev nQ:Str:="_law_cell"
abbrev nR:Str:="_law_told"
abbrev nS:Str:="_law_renamed"
def top(i:Nat):Stmt:=PySem.Challenge.pw_oncewise_k63_exchanges_undone.main.body.getD i (.Pass ⟨0,0,0,0⟩)
theorem ar3{us:List Value}{n:Nat}(h:us.length=n+1):∃a r,us=a::r/\r.length=n:=by cases us with|nil=>cases h|cons a r=>exact⟨a,r,rfl,Nat.succ.inj h⟩
abbrev nV:Stmt:=top 5
abbrev lz:Stmt:=top 7
abbrev jF:Stmt:=top 10
abbrev oH:Stmt:=top 11
abbrev l5:Stmt:=top 12
abbrev oO:Stmt:=top 13
abbrev mO:Stmt:=top 14
abbrev l7:Stmt:=top 16
abbrev kG:Stmt:=top 17
abbrev cR:Stmt:=top 18
abbrev gB:Stmt:=top 19
abbrev rJ:Stmt:=top 20
abbrev fF:Stmt:=top 21
abbrev i8:Stmt:=top 22
abbrev lY:Stmt:=top 24
abbrev iy:Stmt:=top 25
abbrev ix:Stmt:=top 26
abbrev iu:Stmt:=top 27
abbrev fG:Stmt:=top 28
abbrev fE:Stmt:=top 29
abbrev jE:Stmt:=top 30
abbrev jH:Stmt:=top 31
abbrev kF:Stmt:=top 32
abbrev s__law_order:Stmt:=top 33
abbrev gL:Stmt:=top 34
abbrev db:Stmt:=top 35
abbrev jB:Stmt:=top 36
abbrev jG:Stmt:=top 37
abbrev dN:Stmt:=top 38
abbrev ij:Stmt:=top 39
abbrev gE:Stmt:=top 40
abbrev im:Stmt:=top 41
abbrev nZ:Stmt:=top 44
abbrev cV:Stmt:=top 46
abbrev fz:Stmt:=top 47
abbrev gj:Stmt:=top 48
abbrev fI:Stmt:=top 49
abbrev jC:Stmt:=top 50
abbrev qX:Stmt:=top 51
structure V_ where
 (P:Program) (w:World) (K:Ae) (mg:Str->Option Value) (base:Heap) (Pt:Addr) (Ca:Addr)
structure B_(V:V_):Prop where
 hp:∃h:Heap,V.K.In h/\h.Ns mainGlobals V.mg
 bc:V.mg "list"=none
 bg:V.mg "enumerate"=none
 bu:V.mg "all"=none
 ba:V.mg "len"=none
 br:V.mg "zip"=none
 bn:V.mg "reversed"=none
 bh:V.mg "range"=none
 bq:V.mg "max"=none
 bf:V.mg "sorted"=none
 bv:V.mg "min"=none
 bb:V.mg "isinstance"=none
 bi:V.mg "int"=none
 bd:V.mg "tuple"=none
 bj:V.mg "str"=none
 bp:V.mg "bool"=none
 D0:zc V.K "is_leaf" nV
 D1:zc V.K "parts_of" lz
 D2:zc V.K "places_of" jF
 D3:zc V.K "arms_of" oH
 D4:zc V.K "rules_in" l5
 D5:zc V.K "told_by" oO
 D6:zc V.K "taken_by" mO
 D7:zc V.K "with_arm" l7
 D8:zc V.K "all_told" kG
 D9:zc V.K "arm_that_tells" cR
 D10:zc V.K "turned_out" gB
 D11:zc V.K "arm_at" rJ
 D12:zc V.K "rules_along" fF
 D13:zc V.K "exchanged" i8
 D14:zc V.K "_law_mix" lY
 D15:zc V.K "_law_name" iy
 D16:zc V.K "_law_word" ix
 D17:zc V.K "_law_flip" iu
 D18:zc V.K "_law_weight" fG
 D19:zc V.K "_law_mirror" fE
 D20:zc V.K "_law_join" jE
 D21:zc V.K "_law_fold" jH
 D22:zc V.K "_law_cut" kF
 D23:DefInT V.K "_law_order" s__law_order V.Pt
 D24:zc V.K "_law_moved" gL
 D25:zc V.K nS db
 D26:zc V.K "_law_tree" jB
 D27:zc V.K "_law_arms" jG
 D28:zc V.K nO dN
 D29:zc V.K "_law_ends" ij
 D30:zc V.K "_law_needs" gE
 D31:zc V.K "_law_goes" im
 D32:zc V.K "_law_at" nZ
 D33:zc V.K nK cV
 D34:zc V.K "_law_alike" fz
 D35:zc V.K "_law_sound" gj
 D36:zc V.K "_law_shaped" fI
 D37:zc V.K "_law_done" jC
 k_LEAF_KINDS:an1 ⟨V.K,V.P,V.w⟩ V.mg "LEAF_KINDS" fD
 i_PLACE_COUNTS:ao0 ⟨V.K,V.P,V.w⟩ V.mg "PLACE_COUNTS" wg
 md:V.mg "NoExchange"=some (.ref V.Ca)
 x_NoExchange:abv V.K V.Ca
 xf:L3.XF62 V.K V.Ca
abbrev Q_(V:V_)(k:Nat)(x:Str)(ps:List Str)(sp:jz):Prop:=aji V.P V.w V.K V.mg V.base k x ps sp
abbrev c0(_:V_):Prop:=True
local macro_rules|`(tactic| walk_at "s")=>`(tactic| exact⟨rfl,rfl,rfl,by decide +kernel,rfl,by decide +kernel,by decide +kernel⟩)
local macro_rules|`(tactic| walk_at "l")=>`(tactic| first|(rintro _ _ _ ⟨_,e,_⟩;rw[e];rfl)|(rintro _ _ _ ⟨_,_,e,_⟩;rw[e];rfl)|(rintro _ _ _ ⟨_,_,_,e,_⟩;rw[e];rfl)|(rintro _ _ _ ⟨_,_,_,_,e,_⟩;rw[e];rfl)|(rintro _ _ _ ⟨_,_,_,_,_,e,_⟩;rw[e];rfl)|(rintro _ _ _ ⟨_,_,_,_,_,_,e,_⟩;rw[e];rfl)|(rintro _ _ _ ⟨_,_,_,_,_,_,_,e,_⟩;rw[e];rfl)|(rintro _ _ _ ⟨_,_,_,_,_,_,_,_,e,_⟩;rw[e];rfl)|(rintro _ _ _ ⟨_,_,_,_,_,_,_,_,_,e,_⟩;rw[e];rfl))
local macro_rules|`(tactic| walk_at "x")=>`(tactic| (intro _;walk_at "l"))
local macro_rules|`(tactic| walk_at "b")=>`(tactic| (intro _ _ _ _ _ _ us hl;(repeat (obtain⟨_,_,e,h⟩:=ar3 hl;clear hl;subst e;have hl:=h;clear h));cases List.eq_nil_of_length_eq_zero hl;rfl))
section
variable {f:Addr}{fd:FuncData}{x q:Str}{st:Stmt}{ps:List Str}(V:V_)(k:Nat)(N:List Str)
theorem W_{sp:jz}{t:kn}(F:Fun V.K x q st f fd)(g:∀ys L Q,sp ys L Q->vg t N.length ys L Q)(h:∀(fx:Value) (A:Around) (outer:List Env) (s:Shared) (H:Hp) (E:XK),we k (A.deeper (PyProof.Rows.envOfC q (qu st) s.heap.objs.size f fx))->N.Nodup->(A.deeper (PyProof.Rows.envOfC q (qu st) s.heap.objs.size f fx)).units+128<cLine->mh (cn CX0 V.P V.w V.K V.mg V.base N q (qu st) f fx A outer s H E).nox (jn st) t)(J:wr N ps (qu st):=by walk_at "s")(len:∀ys L Q,sp ys L Q->ys.length=ps.length:=by walk_at "l"):Fn3 V.P V.w V.K V.mg V.base (k+1) f fd ps sp:=
 ok3 F J len λfx A outer s H E U=>⟨t,h fx A outer s H E U J.nd (huK U),g⟩
theorem M_{sp:jz}{t:kn}(J:∃h:Heap,V.K.In h/\h.Ns mainGlobals V.mg)(D:zc V.K x st)(U:∀ys L Q,sp ys L Q->vg t N.length ys L Q)(h:∀f,∀(fx:Value) (A:Around) (outer:List Env) (s:Shared) (H:Hp) (E:XK),we k (A.deeper (PyProof.Rows.envOfC x (qu st) s.heap.objs.size f fx))->N.Nodup->(A.deeper (PyProof.Rows.envOfC x (qu st) s.heap.objs.size f fx)).units+128<cLine->mh (cn CX0 V.P V.w V.K V.mg V.base N x (qu st) f fx A outer s H E).nox (jn st) t)(g:wr N ps (qu st):=by walk_at "s")(len:∀ys L Q,sp ys L Q->ys.length=ps.length:=by walk_at "l")(j:∀(kV gc pm:Value) (an:Option Addr) (fx ct:Value) (us:List Value),us.length=ps.length->bindArgs (PySem.W.fnOf x x (vh st) (jn st) (qu st) .none kV gc pm an fx ct) ⟨us,[]⟩=pure (ps.zip us):=by walk_at "b"):Q_ V (k+1) x ps sp:=by obtain⟨_,X,G⟩:=J;obtain⟨f,fd,F,b,m⟩:=D.use X G j;exact zO.of (W_ V k N F U (h f) g len) b F.kp m
theorem R_{sp:Nat->jz}{t:Nat->kn}(J:∃h:Heap,V.K.In h/\h.Ns mainGlobals V.mg)(D:zc V.K x st)(no:∀ys L Q,¬sp 0 ys L Q)(U:∀n ys L Q,sp (n+1) ys L Q->vg (t n) N.length ys L Q)(h:∀n f,Q_ V (n+k) x ps (sp n)->∀(fx:Value) (A:Around) (outer:List Env) (s:Shared) (H:Hp) (E:XK),we (n+k) (A.deeper (PyProof.Rows.envOfC x (qu st) s.heap.objs.size f fx))->N.Nodup->(A.deeper (PyProof.Rows.envOfC x (qu st) s.heap.objs.size f fx)).units+128<cLine->mh (cn CX0 V.P V.w V.K V.mg V.base N x (qu st) f fx A outer s H E).nox (jn st) (t n))(n:Nat)(g:wr N ps (qu st):=by walk_at "s")(len:∀n ys L Q,sp n ys L Q->ys.length=ps.length:=by walk_at "x")(j:∀(kV gc pm:Value) (an:Option Addr) (fx ct:Value) (us:List Value),us.length=ps.length->bindArgs (PySem.W.fnOf x x (vh st) (jn st) (qu st) .none kV gc pm an fx ct) ⟨us,[]⟩=pure (ps.zip us):=by walk_at "b"):Q_ V (n+k) x ps (sp n):=by
 obtain⟨_,X,G⟩:=J;obtain⟨f,fd,F,b,m⟩:=D.use X G j
 induction n with|zero=>exact zO.of (Fn3.never no) b F.kp m|succ n l=>rw[Nat.add_right_comm];exact zO.of (W_ V (n+k) N F (U n) (h n f l) g (len _)) b F.kp m
theorem X_{sp:eZ}{t:X3->kn}(g:∃h:Heap,V.K.In h/\h.Ns mainGlobals V.mg)(D:zc V.K x st)(j:∀ys L Q E,sp ys L Q E->vg (t (sV E)) N.length ys L Q)(h:∀f,∀(fx:Value) (A:Around) (outer:List Env) (s:Shared) (H:Hp) (E:XK) (E3:X3),we k (A.deeper (PyProof.Rows.envOfC x (qu st) s.heap.objs.size f fx))->bW (cn (CXE V.P V.w) V.P V.w V.K V.mg V.base N x (qu st) f fx A outer s H E) (upX ⟨V.K,V.P,V.w⟩ E3)->N.Nodup->(A.deeper (PyProof.Rows.envOfC x (qu st) s.heap.objs.size f fx)).units+128<cLine->mh (cn (CXE V.P V.w) V.P V.w V.K V.mg V.base N x (qu st) f fx A outer s H E) (jn st) (t E3))(J:wr N ps (qu st):=by walk_at "s")(len:∀ys L Q E,sp ys L Q E->ys.length=ps.length:=by walk_at "x")(l:∀(kV gc pm:Value) (an:Option Addr) (fx ct:Value) (us:List Value),us.length=ps.length->bindArgs (PySem.W.fnOf x x (vh st) (jn st) (qu st) .none kV gc pm an fx ct) ⟨us,[]⟩=pure (ps.zip us):=by walk_at "b"):gC V.P V.w V.K V.mg V.base (k+1) x ps sp:=by obtain⟨_,X,G⟩:=g;obtain⟨f,fd,F,b,m⟩:=D.use X G l;exact⟨_,_,aq3 F J len (λfx A outer s H E E3 U o=>h f fx A outer s H E E3 U o J.nd (huK U)) j,b,F.kp,m⟩
theorem T_{sp:jz}{t:kn}(g:∃h:Heap,V.K.In h/\h.Ns mainGlobals V.mg)(D:DefInT V.K x st V.Pt)(j:∀ys L Q,sp ys L Q->vg t N.length ys L Q)(h:∀f,∀(fx:Value) (A:Around) (outer:List Env) (s:Shared) (H:Hp) (E:XK),yP V.K fx V.Pt->we k (A.deeper (PyProof.Rows.envOfC x (qu st) s.heap.objs.size f fx))->N.Nodup->(A.deeper (PyProof.Rows.envOfC x (qu st) s.heap.objs.size f fx)).units+128<cLine->mh (cn CX0 V.P V.w V.K V.mg V.base N x (qu st) f fx A outer s H E).nox (jn st) t)(J:wr N ps (qu st):=by walk_at "s")(len:∀ys L Q,sp ys L Q->ys.length=ps.length:=by walk_at "l")(l:∀(kV gc pm:Value) (an:Option Addr) (fx ct:Value) (us:List Value),us.length=ps.length->bindArgs (PySem.W.fnOf x x (vh st) (jn st) (qu st) .none kV gc pm an fx ct) ⟨us,[]⟩=pure (ps.zip us):=by walk_at "b"):Q_ V (k+1) x ps sp:=by obtain⟨_,X,G⟩:=g;obtain⟨f,fd,F,b,m⟩:=D.use X G l;exact zO.of (apz F J len λfx A outer s H E C U=>⟨t,h f fx A outer s H E C U J.nd (huK U),j⟩) b F.kp m
end
theorem I_{X:Cx}{a b:Expr}{ta tb:xz}{pos:Pos}(J:QE X a ta)(U:QE X b tb)(g:jY b:=by exactλ_ _=>rfl):QE X (.Subscript a b pos) (zh af ta tb):=amn (ann X.K X.prog X.w) J U g
theorem x6{X:Cx}{e:Expr}{t:xz}(h:QE X e t)(s:starEach [e] X.env=[(false,eval e X.env)]:=by rfl):QA X [e] (qe t zb):=vo h x8 s
theorem w6{X:Cx}{e f:Expr}{t u:xz}(h:QE X e t)(g:QE X f u)(s:starEach [e,f] X.env=[(false,eval e X.env),(false,eval f X.env)]:=by rfl)(r:starEach [f] X.env=[(false,eval f X.env)]:=by rfl):QA X [e,f] (qe t (qe u zb)):=vo h (x6 g r) (by show _=_;rw[s,r])
theorem bR{X:Cx}{e f d:Expr}{t u v:xz}(h:QE X e t)(g:QE X f u)(i:QE X d v)(s:starEach [e,f,d] X.env=[(false,eval e X.env),(false,eval f X.env),(false,eval d X.env)]:=by rfl)(r:starEach [f,d] X.env=[(false,eval f X.env),(false,eval d X.env)]:=by rfl)(q:starEach [d] X.env=[(false,eval d X.env)]:=by rfl):QA X [e,f,d] (qe t (qe u (qe v zb))):=vo h (w6 g i r q) (by show _=_;rw[s,r])
theorem E_{X:Cx}{a b:Expr}{ta tb:xz}{pos:Pos}(J:X.A.units+128<cLine)(U:QE X a ta)(g:QE X b tb):QT X (.Compare a [.Eq] [b] pos) (yB (zh (uA false) ta tb)):=jh (sg X.K X.prog X.w J) U g (xt _)
theorem N_{X:Cx}{a b:Expr}{ta tb:xz}{pos:Pos}(J:X.A.units+128<cLine)(U:QE X a ta)(g:QE X b tb):QT X (.Compare a [.NotEq] [b] pos) (yB (zh (uA true) ta tb)):=jh (am2 X.K X.prog X.w J) U g (xt _)
theorem S_{X:Cx}{x:Str}{e:Expr}{te:xz}{pos gb:Pos}(i:Nat)(j:X.N.Nodup)(h:QE X e te)(J:X.N[i]?=some x:=by rfl)(l:zR X.env.scope x:=by exact Or.inl rfl)(U:swapsWith e (some (.Name x gb)) pos.line X.env=pure false:=by rfl)(g:X.fn x=true\/X.env.scope.names.lookup x=some .local:=by first|exact .inl rfl|exact .inr rfl|assumption):QS X (.Assign [.Name x gb] e pos) (zn te (qh i)):=dD (i:=i) j J l h U g
theorem G_{X:Cx}{x:Str}{pos:Pos}(i:Nat)(g:X.N.Nodup)(J:X.N[i]?=some x:=by rfl)(j:zR X.env.scope x:=by exact Or.inl rfl)(U:X.fn x=true\/X.env.scope.names.lookup x=some .local:=by first|exact .inl rfl|exact .inr rfl|assumption):QG X (.Name x pos) (qh i):=gU (i:=i) g J j U
theorem C_{X:Cx}{e:Expr}{es:List Expr}{tr:fA}{pos p:Pos}{j k:Nat}{x:Str}{ps:List Str}{sp:jz}(c:aji X.prog X.w X.K X.mg X.base j x ps sp)(g:we k X.A)(l:QA X (e::es) tr)(o:j<=k:=by first|decide|exact Al _|exact AM (by decide) (DI _ _))(r:Gl X x:=by rfl)(J:Ed x:=by decide)(t:Eb e es X:=by rfl)(U:Ec pos es X:=by rfl):QE X (.Call (.Name x p) (e::es) [] pos) (za sp tr):=aqn (zO.mono c o) g r l J t U
theorem J_{X:Cx}{x:Str}{n:Int}{k:Nat}{p q pos:Pos}(i:Nat)(J:X.N[i]?=some x:=by rfl)(U:Vis X.env.scope x:=by first|exact Or.inl rfl|exact Or.inr (Or.inl rfl)|exact Or.inr (Or.inr rfl))(hd:Ed x:=by decide)(hc:Ee x:=by decide):QE X (.Subscript (.Name x p) (.Constant (.int n) k q) pos) (zh af (qa i) (yC (.int n))):=I_ (qv i J U hd hc) qj (λ_ _=>rfl)
theorem L_{X:Cx}{e:Expr}{t:xz}{p pos:Pos}(J:X.mg "len"=none)(h:QE X e t)(s:starEach [e] X.env=[(false,eval e X.env)]:=by rfl)(U:Gl X "len" := by rfl):QE X (.Call (.Name "len" p) [e] [] pos) (gq lW (qe t zb)):=wb (ajy X.K X.prog X.w) U J adh (x6 h s) (hs:=s)
theorem nd_{l:List Str}(h:decide l.Nodup=true:=by kernel_rfl):l.Nodup:=of_decide_eq_true h
abbrev c1(V:V_):Prop:=c0 V/\Q_ V 1 "is_leaf" ["word"] (fP)
theorem d1(V:V_)(B:B_ V)(c:c0 V):c1 V:=⟨c,M_ V 0 ["word"] B.hp B.D0 tf λ_ _ _ _ _ _ _ J U g=>(qd (qt (gZ (aay _ _ _) (J_ 0) (ai6 B.k_LEAF_KINDS rfl) (by with_unfolding_all rfl))))⟩
abbrev c2(V:V_):Prop:=c1 V/\Q_ V 2 "parts_of" ["knot"] (kU)
theorem d2(V:V_)(B:B_ V)(c:c1 V):c2 V:=⟨c,M_ V 1 ["knot"] B.hp B.D1 adp λ_ _ _ _ _ _ _ J U g=>(q9 (zk (aA (aG (dE (qv 0)) (aP (w5 (C_ c.2 J (x6 (qv 0))))))) (qd (qt (ze x8))) z9) (qd (qt (ze (w6 (J_ 0) (J_ 0))))))⟩
abbrev c3(V:V_):Prop:=c2 V/\Q_ V 1 "places_of" ["rule"] (ou)
theorem d3(V:V_)(B:B_ V)(c:c2 V):c3 V:=⟨c,M_ V 0 ["rule"] B.hp B.D2 afj λ_ _ _ _ _ _ _ J U g=>(qd (qt (ac bP rfl B.bc wy (x6 (v5 (fw _ _ _) (qv 0) (xx qj) (xx (qz xm qj (m8 B.i_PLACE_COUNTS rfl (J_ 0) (λ_ _=>rfl)))))))))⟩
abbrev c4(V:V_):Prop:=c3 V/\Q_ V 1 "arms_of" ["rule"] (wq)
theorem d4(V:V_)(B:B_ V)(c:c3 V):c4 V:=⟨c,M_ V 0 ["rule"] B.hp B.D3 xM λ_ _ _ _ _ _ _ J U g=>(qd (qt (ac bP rfl B.bc wy (x6 (v5 (fw _ _ _) (qv 0) (xx (qz xm qj (m8 B.i_PLACE_COUNTS rfl (J_ 0) (λ_ _=>rfl)))) aX)))))⟩
abbrev c5(V:V_):Prop:=c4 V/\Q_ V 122 "rules_in" ["rule"] (bJ 120)
theorem d5(V:V_)(B:B_ V)(c:c4 V):c5 V:=⟨c,R_ V 2 ["rule","rules","arm"] B.hp B.D4 adn tR (λ_ _ J _ _ _ _ _ _ U g j=>(q9 (S_ 1 g (ze (x6 (qv 0)))) (q9 (k7 xT rfl (vz (C_ c.2 U (x6 (qv 0)))) (G_ 2 g) (qd (zj (bD (qv 1) (x6 (C_ J U (x6 (qv 2)))))))) (qd (qt (qv 1)))))) 120⟩
abbrev c6(V:V_):Prop:=c5 V/\Q_ V 2 "told_by" ["rule"] (iG)
theorem d6(V:V_)(B:B_ V)(c:c5 V):c6 V:=⟨c,M_ V 1 ["rule"] B.hp B.D5 xV λ_ _ _ _ _ _ _ J g U=>(qd (qt (fu (E_ U (J_ 0) j9) (ze x8) (C_ c.1.1.2 J (x6 (qv 0))))))⟩
abbrev c7(V:V_):Prop:=c6 V/\Q_ V 3 "taken_by" ["knots","rule"] (o8)
theorem d7(V:V_)(B:B_ V)(c:c6 V):c7 V:=⟨c,M_ V 2 ["knots","rule","parts"] B.hp B.D6 afk λ_ _ _ _ _ _ _ U g J=>(q9 (zk (E_ J (J_ 1) j9) (qd (qt (ze x8))) z9) (q9 (zk (E_ J (J_ 1) j9) (qd (qt (ze (w6 (ze (x6 (J_ 1))) (ze (x6 (J_ 1))))))) z9) (q9 (S_ 2 g (C_ c.1.1.1.1.2 U (x6 (I_ (qv 0) (J_ 1))))) (q9 (zk (E_ J (J_ 1) j9) (qd (qt (ze (x6 (qv 2))))) z9) (qd (qt (lU ["part"] (EJ (by rfl)) rfl (vz (qv 2)) (wf nd_ (λ_ _ _ _=>Or.inl rfl) (λ_ _ _ _=>rfl)) (λ_ _ _ _=>uV) (λ_ _ _ _=>(ze (x6 (qv 3)))))))))))⟩
abbrev c8(V:V_):Prop:=c7 V/\Q_ V 1 "with_arm" ["rule","number","arm"] (gH)
theorem d8(V:V_)(B:B_ V)(c:c7 V):c8 V:=⟨c,M_ V 0 ["rule","number","arm","at"] B.hp B.D7 af7 λ_ _ _ _ _ _ _ U J g=>(q9 (S_ 3 J (qz xm (qz xm qj (m8 B.i_PLACE_COUNTS rfl (J_ 0) (λ_ _=>rfl))) (qv 1))) (qd (qt (qz ad7 (qz ad7 (v5 (fw _ _ _) (qv 0) aX (xx (qv 3))) (j7 (x6 (qv 2)))) (v5 (fw _ _ _) (qv 0) (xx (qz xm (qv 3) qj)) aX)))))⟩
abbrev c9(V:V_):Prop:=c8 V/\Q_ V 123 "all_told" ["rule"] (fV)
theorem d9(V:V_)(B:B_ V)(c:c8 V):c9 V:=⟨c,M_ V 122 ["rule","places","inner"] B.hp B.D8 uF λ_ _ _ _ _ _ _ J U g=>(q9 (S_ 1 U (ze x8)) (q9 (k7 xT rfl (vz (C_ c.1.1.1.2 J (x6 (qv 0)))) (G_ 2 U) (qd (zj (bD (qv 1) (x6 (C_ c.1.1.2 J (x6 (qv 2)))))))) (qd (qt (qv 1)))))⟩
abbrev dk(V:V_):Prop:=c9 V/\Q_ V 124 "arm_that_tells" ["rule","places"] (l9)
theorem d10(V:V_)(B:B_ V)(c:c9 V):dk V:=⟨c,M_ V 123 ["rule","places","number","arm","told"] B.hp B.D9 ab5 λ_ _ _ _ _ _ _ U J g=>(q9 (k7 xT rfl (gM rfl B.bg (C_ c.1.1.1.1.1.2 U (x6 (qv 0)))) (ai rfl (zo (G_ 2 J) (zo (G_ 3 J) kz))) (q9 (dD (i:=4) J rfl (Or.inr rfl) (C_ c.2 U (x6 (qv 3)))) (qd (zk (w5 (wb am0 rfl B.bu ait (x6 (lU ["place"] (EJ (by rfl)) rfl (vz (qv 1)) (wf nd_ (λ_ _ _ _=>Or.inl rfl) (λ_ _ _ _=>rfl)) (λ_ _ _ _=>uV) (λ_ _ _ _=>(gZ (aay _ _ _) (qv 5) (qv 4) (by with_unfolding_all rfl))))))) (qd (qt (qv 2))) z9)))) (qd (qt bx)))⟩
abbrev tL(V:V_):Prop:=dk V/\Q_ V 125 "turned_out" ["knots","rule","arm"] (jO)
theorem d11(V:V_)(B:B_ V)(c:dk V):tL V:=⟨c,M_ V 124 ["knots","rule","arm","inner","number"] B.hp B.D10 aeb λ_ _ _ _ _ _ _ J U g=>(q9 (S_ 3 U (I_ (C_ c.1.1.1.1.1.1.2 J (x6 (qv 1))) (qv 2))) (q9 (S_ 4 U (C_ c.2 J (w6 (qv 3) (I_ (C_ c.1.1.1.2 J (w6 (qv 0) (qv 1))) (qv 2))))) (q9 (zk (dE (qv 4)) (qd (qt bx)) z9) (qd (qt (C_ c.1.1.2 J (bR (qv 3) (qv 4) (C_ c.1.1.2 J (bR (qv 1) (qv 2) (I_ (C_ c.1.1.1.1.1.1.2 J (x6 (qv 3))) (qv 4)))))))))))⟩
abbrev zP(V:V_):Prop:=tL V/\gC V.P V.w V.K V.mg V.base 2 "arm_at" ["rule","number"] (cX V.Ca)
theorem d12(V:V_)(B:B_ V)(c:tL V):zP V:=⟨c,X_ V 1 ["rule","number","arms"] (t:=(λJ=>sj V.Ca J (wq))) B.hp B.D11 adv λ_ _ _ _ _ _ _ _ U g j l=>(q9 (S_ 2 j (C_ c.1.1.1.1.1.1.1.2 U (x6 (qv 0)))) (q9 (zk (bz (adc qj (yy ar1 (qv 1) (yh rq (L_ B.ba (qv 2)))))) (qd (qS B.x_NoExchange rfl B.md rfl g rfl (x6 j9))) z9) (qd (qt (I_ (qv 2) (qv 1))))))⟩
abbrev c13(V:V_):Prop:=zP V/\gC V.P V.w V.K V.mg V.base 3 "rules_along" ["rule","way"] (gR V.Ca)
theorem d13(V:V_)(B:B_ V)(c:zP V):c13 V:=⟨c,X_ V 2 ["rule","way","along","number"] (t:=(λU=>fJ U (cX V.Ca))) B.hp B.D12 adb λ_ _ _ _ _ _ _ _ g j J l=>(q9 (S_ 2 J (ze (x6 (qv 0)))) (q9 (k7 PassesOwn.leaving rfl (vz (qv 1)) (G_ 3 J) (qd (zj (zm (qv 2) (x6 (ab7 (c.2.mono (by decide)) g rfl j rfl (w6 (I_ (qv 2) (wG wM qj)) (qv 3)))))))) (qd (qt (qv 2)))))⟩
abbrev c14(V:V_):Prop:=c13 V/\gC V.P V.w V.K V.mg V.base 126 "exchanged" ["tree","way","arm"] (pM V.Ca)
theorem d14(V:V_)(B:B_ V)(c:c13 V):c14 V:=⟨c,X_ V 125 ["tree","way","arm","along","rule","number","outer"] (t:=(λj=>i7 V.Ca j (gR V.Ca) (cX V.Ca) (jO) (gH))) B.hp B.D13 agg λ_ _ _ _ _ _ _ _ U g J l=>(q9 (S_ 3 J (ab7 (c.2.mono (by decide)) U rfl g rfl (w6 (J_ 0) (qv 1)))) (q9 (zj (ab7 (c.1.2.mono (by decide)) U rfl g rfl (w6 (I_ (qv 3) (wG wM qj)) (qv 2)))) (q9 (S_ 4 J (C_ c.1.1.2 U (bR (J_ 0) (I_ (qv 3) (wG wM qj)) (qv 2)))) (q9 (zk (dE (qv 4)) (qd (qS B.x_NoExchange rfl B.md rfl g rfl (x6 j9))) z9) (q9 (k7 PassesOwn.leaving rfl (aac rfl B.bn (aav rfl rfl B.bc rfl B.br (w6 (qv 1) (qv 3)))) (ai rfl (zo (G_ 5 J) (zo (G_ 6 J) kz))) (qd (S_ 4 J (C_ c.1.1.1.1.1.2 U (bR (qv 6) (qv 5) (qv 4)))))) (qd (qt (j7 (w6 (ac bP rfl B.bc wy (x6 (J_ 0))) (qv 4))))))))))⟩
abbrev c15(V:V_):Prop:=c14 V/\Q_ V 1 "_law_mix" [nQ,nH,"_law_factor"] (kO)
theorem d15(V:V_)(B:B_ V)(c:c14 V):c15 V:=⟨c,M_ V 0 [nQ,nH,"_law_factor"] B.hp B.D14 ai5 λ_ _ _ _ _ _ _ J U g=>(qd (qt (qz aV (qz ve (qz mC (qz xm (qz xm (qz mC (qz ve (qv 0) qj) qj) (qz mC (qv 1) (qv 1))) qj) (qv 2)) qj) qj)))⟩
abbrev c16(V:V_):Prop:=c15 V/\Q_ V 1 "_law_name" [nq,"_law_which"] (mQ)
theorem d16(V:V_)(B:B_ V)(c:c15 V):c16 V:=⟨c,M_ V 0 [nq,"_law_which","_law_letters","_law_size","_law_place","_law_base","_law_sign"] B.hp B.D15 aaf λ_ _ _ _ _ _ _ g J U=>(q9 (dD (i:=2) J rfl (Or.inr rfl) j9) (q9 (S_ 3 J (qz xm qj (qz ve (qv 0) qj))) (q9 (S_ 4 J (qz ve (qz aV (qv 0) qj) (qv 3))) (q9 (S_ 5 J (aer j9 (x6 (lU [nH] (EJ (by rfl)) rfl (eU rfl B.bh (x6 qj)) (wf nd_ (λ_ _ _ _=>Or.inl rfl) (λ_ _ _ _=>rfl)) (λ_ _ _ _=>uV) (λ_ _ _ _=>(I_ (qv 2) (qz ve (qz xm (qz aV (qv 0) qj) (qz mC qj (qv 7))) qj))))))) (q9 (zk (E_ U (qz ve (qz aV (qv 0) qj) qj) qj) (qd (qt (v5 (rW _ _ _) (qv 5) aX (xx (qz xm qj (qz ve (qz xm (qv 1) (qv 0)) qj)))))) z9) (q9 (S_ 6 J (I_ (qv 2) (qz ve (qz xm (qz xm (qz aV (qv 0) qj) (qz mC qj (qv 4))) (qv 1)) qj))) (qd (qt (qz xm (qz xm (v5 (rW _ _ _) (qv 5) aX (xx (qv 4))) (qv 6)) (v5 (rW _ _ _) (qv 5) (xx (qz xm (qv 4) qj)) (xx (qv 3))))))))))))⟩
abbrev c17(V:V_):Prop:=c16 V/\Q_ V 121 "_law_word" [ng,nu] (wm 120)
theorem d17(V:V_)(B:B_ V)(c:c16 V):c17 V:=⟨c,R_ V 1 [ng,nu,"_law_knot"] B.hp B.D16 o4 tE (λ_ _ J _ _ _ _ _ _ U g j=>(q9 (S_ 2 g (I_ (qv 0) (qv 1))) (q9 (zk (E_ j (L_ B.ba (qv 2)) qj) (qd (qt (qv 2))) z9) (qd (qt (j7 (bR (J_ 2) (C_ J U (w6 (qv 0) (J_ 2))) (C_ J U (w6 (qv 0) (J_ 2)))))))))) 120⟩
abbrev c18(V:V_):Prop:=c17 V/\Q_ V 121 "_law_flip" [nj] (bN 120)
theorem d18(V:V_)(B:B_ V)(c:c17 V):c18 V:=⟨c,R_ V 1 [nj,"_law_sides"] B.hp B.D17 abx aa5 (λ_ _ J _ _ _ _ _ _ U g j=>(q9 (S_ 1 g (aef [ ("plain" ,"turned") ,("turned" ,"plain") ,("both" ,"either") ,("either" ,"both") ] (a9 aR aR (a9 aR aR (a9 aR aR (a9 aR aR wO)))) rfl rfl (Bl _ _) (Bt rfl))) (q9 (zk (E_ j (L_ B.ba (qv 0)) qj) (qd (qt (j7 (w6 (I_ (qv 1) (J_ 0)) (J_ 0))))) z9) (qd (qt (j7 (bR (I_ (qv 1) (J_ 0)) (C_ J U (x6 (J_ 0))) (C_ J U (x6 (J_ 0)))))))))) 120⟩
abbrev c19(V:V_):Prop:=c18 V/\Q_ V 121 "_law_weight" [nj] (cD 120)
theorem d19(V:V_)(B:B_ V)(c:c18 V):c19 V:=⟨c,R_ V 1 [nj] B.hp B.D18 mR xS (λ_ _ J _ _ _ _ _ _ U j g=>(q9 (zk (E_ g (L_ B.ba (qv 0)) qj) (qd (qt qj)) z9) (qd (qt (qz xm (qz xm qj (C_ J U (x6 (J_ 0)))) (C_ J U (x6 (J_ 0)))))))) 120⟩
abbrev c20(V:V_):Prop:=c19 V/\Q_ V 127 "_law_mirror" [ng,nj] (cQ 5)
theorem d20(V:V_)(B:B_ V)(c:c19 V):c20 V:=⟨c,R_ V 122 [ng,nj,"_law_left","_law_right","_law_turn","_law_same","_law_low","_law_high"] B.hp B.D19 xP ym (λ_ _ J _ _ _ _ _ _ g U l=>(q9 (zk (E_ l (L_ B.ba (qv 1)) qj) (q9 (zj (zm (qv 0) (x6 (C_ c.1.2 g (x6 (qv 1)))))) (q9 (zj (zm (qv 0) (x6 (qv 1)))) (qd (qt (ze (bR (j7 (bR j9 (qz cI (L_ B.ba (qv 0)) qj) (qz cI (L_ B.ba (qv 0)) qj))) (qz cI (L_ B.ba (qv 0)) qj) (qz cI (L_ B.ba (qv 0)) qj))))))) z9) (q9 (S_ 2 U (C_ J g (w6 (qv 0) (J_ 1)))) (q9 (S_ 3 U (C_ J g (w6 (qv 0) (J_ 1)))) (q9 (zj (zm (qv 0) (x6 (j7 (bR (I_ (C_ c.1.2 g (x6 (qv 1))) qj) (J_ 2) (J_ 3)))))) (q9 (zj (zm (qv 0) (x6 (j7 (bR (J_ 1) (J_ 2) (J_ 3)))))) (q9 (o3 (i:=4) (j:=5) rfl U rfl rfl (by decide) rfl rfl (w6 (qz cI (L_ B.ba (qv 0)) qj) (qz cI (L_ B.ba (qv 0)) qj)) rfl) (q9 (S_ 6 U (fu (E_ l (J_ 1) j9) (qv 4) (qv 5))) (q9 (S_ 7 U (fu (E_ l (J_ 1) j9) (qv 5) (qv 4))) (qd (qt (ze (bR (j7 (bR j9 (qv 7) (j7 (vo j9 (bR (qv 6) (J_ 2) (J_ 3)))))) (qv 4) (qv 5)))))))))))))) 5⟩
abbrev c21(V:V_):Prop:=c20 V/\Q_ V 1 "_law_join" [ng,nE,nl,nw] (oq)
theorem d21(V:V_)(B:B_ V)(c:c20 V):c21 V:=⟨c,M_ V 0 [ng,nE,nl,nw,"_law_first","_law_second","_law_left","_law_right",nF] B.hp B.D20 aek λ_ _ _ _ _ _ _ U J g=>(q9 (S_ 4 J (cH (qv 1) (x6 (qz ve (qv 3) (L_ B.ba (qv 1)))))) (q9 (S_ 5 J (cH (qv 1) (x6 (qz ve (qv 2) (L_ B.ba (qv 1)))))) (q9 (dD (i:=6) J rfl (Or.inr rfl) (I_ (J_ 4) (qz ve (qz aV (qv 3) qj) (L_ B.ba (J_ 4))))) (q9 (dD (i:=7) J rfl (Or.inr rfl) (I_ (J_ 5) (qz ve (qz aV (qv 2) qj) (L_ B.ba (J_ 5))))) (q9 (zj (zm (qv 0) (x6 (j7 (bR j9 (qv 6) (qv 7)))))) (q9 (mZ [nu] (i:=8) J rfl (Or.inl rfl) (EJ (by rfl)) rfl (vz (qz xm (J_ 4) (J_ 5))) (wf nd_ (λ_ _ _ _=>Or.inl rfl) (λ_ _ _ _=>rfl)) (λ_ _ _ _=>fY (jh (pH _ _ _) (qv 9) (j7 (w6 (qv 6) (qv 7))) (by with_unfolding_all rfl))) (λ_ _ _ _=>(qv 9))) (qd (zj (zm (qv 1) (x6 (ze (w6 (j7 (vo j9 (bR (qz cI (L_ B.ba (qv 0)) qj) (J_ 4) (J_ 5)))) (qz xm (qv 8) (ze (x6 (qz cI (L_ B.ba (qv 0)) qj))))))))))))))))⟩
abbrev c22(V:V_):Prop:=c21 V/\Q_ V 1 "_law_fold" [ng,nL,nl,nw] (kI)
theorem d22(V:V_)(B:B_ V)(c:c21 V):c22 V:=⟨c,M_ V 0 [ng,nL,nl,nw,"_law_left","_law_right"] B.hp B.D21 abn λ_ _ _ _ _ _ _ U J g=>(q9 (zk (jh rq (L_ B.ba (J_ 1)) qj (xt _)) (qd vJ) z9) (q9 (S_ 4 J (cH (J_ 1) (x6 (qz ve (qv 3) (L_ B.ba (J_ 1)))))) (q9 (S_ 5 J (cH (J_ 1) (x6 (qz ve (qv 2) (L_ B.ba (J_ 1)))))) (q9 (zj (zm (qv 0) (x6 (j7 (bR j9 (qv 4) (qv 5)))))) (q9 (ag1 (qv 1) qj (j7 (bR j9 (qz cI (L_ B.ba (qv 0)) qj) (J_ 1)))) (qd (zj (zm (J_ 1) (x6 (qz cI (L_ B.ba (qv 0)) qj))))))))))⟩
abbrev c23(V:V_):Prop:=c22 V/\Q_ V 128 "_law_cut" [ng,nE,nl,nw] (o7)
theorem d23(V:V_)(B:B_ V)(c:c22 V):c23 V:=⟨c,M_ V 127 [ng,nE,nl,nw,"_law_first",nu,nj,"_law_second","_law_q",ny,"_law_end",nh,"_law_same",nF] B.hp B.D22 afv λ_ _ _ _ _ _ _ U J g=>(q9 (S_ 4 J (cH (qv 1) (x6 (qz ve (qv 3) (L_ B.ba (qv 1)))))) (q9 (dD (i:=5) J rfl (Or.inr rfl) (I_ (J_ 4) (qz ve (qz aV (qv 3) qj) (L_ B.ba (J_ 4))))) (q9 (S_ 6 J (C_ c.1.1.1.1.1.2 U (w6 (qv 0) (qv 5)))) (q9 (iM (j7 (w6 bx bx)) (ai rfl (zo (G_ 7 J) (zo (gU (i:=8) J rfl (Or.inr rfl)) kz)))) (q9 (k7 xT rfl (eU rfl B.bh (x6 (L_ B.ba (qv 1)))) (G_ 9 J) (qd (k7 xT rfl (vz (I_ (I_ (qv 1) (qv 9)) qj)) (G_ 10 J) (qd (zk (aA (fk (dE (qv 7)) (eM (E_ g (C_ c.1.1.1.1.1.2 U (w6 (qv 0) (qv 10))) (C_ c.1.1.1.1.2 U (x6 (qv 6))))))) (qd (iM (j7 (w6 (I_ (qv 1) (qv 9)) (qv 10))) (ai rfl (zo (G_ 7 J) (zo (gU (i:=8) J rfl (Or.inr rfl)) kz))))) z9))))) (q9 (zk (aA (fk (dE (qv 7)) (eM (jh uk (C_ c.1.1.1.2 U (x6 (qv 6))) qj (xt _))))) (q9 (zj (zm (qv 1) (x6 (qv 4)))) (qd vJ)) z9) (bB (zk (dE (qv 7)) (q9 (iM (C_ c.1.1.2 U (w6 (qv 0) (qv 6))) (ajq rfl (zo (G_ 11 J) (zo (gU (i:=8) J rfl (Or.inr rfl)) (zo (G_ 12 J) kz))))) (qd (S_ 7 J (ze (w6 (qv 11) (ze (w6 (qv 8) (qv 12)))))))) (qd (zj (xU g (qv 1) (x6 (qv 7)))))) (q9 (mZ ["_law_x"] (i:=13) J rfl (Or.inl rfl) (EJ (by rfl)) rfl (vz (qz xm (J_ 4) (J_ 7))) (wf nd_ (λ_ _ _ _=>Or.inl rfl) (λ_ _ _ _=>rfl)) (λ_ _ _ _=>fY (jh (pH _ _ _) (qv 14) (j7 (w6 (qv 5) (qv 8))) (by with_unfolding_all rfl))) (λ_ _ _ _=>(qv 14))) (qd (zk (E_ g (qz ve (qv 2) qj) qj) (qd (zj (zm (qv 1) (x6 (ze (w6 (j7 (vo j9 (vo (qv 5) (bR (qv 8) (J_ 4) (J_ 7))))) (qv 13))))))) (qd (zj (zm (qv 1) (x6 (ze (w6 (j7 (vo j9 (vo (qv 8) (bR (qv 5) (J_ 7) (J_ 4))))) (qv 13)))))))))))))))))⟩
abbrev c24(V:V_):Prop:=c23 V/\Q_ V 2 "_law_order" [ng,nq] (iR V.Pt)
theorem d24(V:V_)(B:B_ V)(c:c23 V):c24 V:=⟨c,T_ V 1 [ng,nq,"_law_ranks",nu,"_law_knot","_law_rank"] B.hp B.D23 xJ λ_ _ _ _ _ _ _ C U J g=>(q9 (dD (i:=2) J rfl (Or.inr rfl) (ze x8)) (q9 (k7 xT rfl (gM rfl B.bg (qv 0)) (ai rfl (zo (G_ 3 J) (zo (G_ 4 J) kz))) (q9 (S_ 5 J (qz ve (C_ c.1.1.1.1.1.1.1.1.2 U (bR (qv 1) (qv 3) qj)) qj)) (bB (zk (E_ g (L_ B.ba (qv 4)) qj) (qd (S_ 5 J (qz xm (qz xm (qv 5) qj) (wb ahv rfl B.bq aai (w6 (I_ (qv 2) (J_ 4)) (I_ (qv 2) (J_ 4))))))) z9) (qd (zj (zm (qv 2) (x6 (qv 5)))))))) (qd (qt (ado rfl B.bf (vB rfl rfl B.bc rfl B.bh (L_ B.ba (qv 0))) ⟨rfl,rfl,rfl,by decide +kernel,rfl,rfl,by decide,by decide,by decide⟩ C (dp3 U) rfl rfl rfl ⟨_,rfl,rfl⟩ rfl (λ_ _ _ _ _ _ _=>rfl))))))⟩
abbrev c25(V:V_):Prop:=c24 V/\Q_ V 121 "_law_moved" [nh,ny] (cO 120)
theorem d25(V:V_)(B:B_ V)(c:c24 V):c25 V:=⟨c,R_ V 1 [nh,ny,"_law_places"] B.hp B.D24 adu zW (λ_ _ J _ _ _ _ _ _ g j U=>(q9 (zk (E_ U (J_ 0) j9) (qd (qt (j7 (bR j9 (wb anm rfl B.bv al7 (w6 (bX U (qv 1) (J_ 0) (λ_ _=>rfl)) (bX U (qv 1) (J_ 0) (λ_ _=>rfl)))) (wb ahv rfl B.bq aai (w6 (bX U (qv 1) (J_ 0) (λ_ _=>rfl)) (bX U (qv 1) (J_ 0) (λ_ _=>rfl)))))))) z9) (q9 (mZ ["_law_x"] (i:=2) j rfl (Or.inl rfl) (EJ (by rfl)) rfl (ur (v5 (fw _ _ _) (qv 0) (xx qj) aX)) (wf nd_ (λ_ _ _ _=>Or.inl rfl) (λ_ _ _ _=>rfl)) (λ_ _ _ _=>fY (w5 (vm .int rfl B.bb rfl B.bi om (qv 3)))) (λ_ _ _ _=>(bX U (qv 1) (qv 3) (λ_ _=>rfl)))) (qd (qt (ac agk rfl B.bd cY (x6 (qz xm (qz xm (ze (x6 (J_ 0))) (qv 2)) (lU ["_law_x"] (EJ (by rfl)) rfl (ur (v5 (fw _ _ _) (qv 0) (xx qj) aX)) (wf nd_ (λ_ _ _ _=>Or.inl rfl) (λ_ _ _ _=>rfl)) (λ_ _ _ _=>fY (w5 (vm .tuple rfl B.bb rfl B.bd cY (qv 3)))) (λ_ _ _ _=>(C_ J g (w6 (qv 3) (qv 1))))))))))))) 120⟩
abbrev c26(V:V_):Prop:=c25 V/\Q_ V 122 nS [ng,nh,nq] (fj V.Pt)
theorem d26(V:V_)(B:B_ V)(c:c25 V):c26 V:=⟨c,M_ V 121 [ng,nh,nq,ny,"_law_made",nu,"_law_knot"] B.hp B.D25 tj λ_ _ _ _ _ _ _ g J U=>(q9 (S_ 3 J jW) (q9 (S_ 4 J (ze x8)) (q9 (k7 xT rfl (vz (C_ c.1.2 g (w6 (qv 0) (qv 2)))) (G_ 5 J) (q9 (aw U (qv 3) (qv 5) (L_ B.ba (qv 4))) (q9 (S_ 6 J (I_ (qv 0) (qv 5))) (qd (zj (zm (qv 4) (x6 (fu (E_ U (L_ B.ba (qv 6)) qj) (qv 6) (j7 (bR (J_ 6) (bX U (qv 3) (J_ 6) (λ_ _=>rfl)) (bX U (qv 3) (J_ 6) (λ_ _=>rfl)))))))))))) (qd (qt (j7 (w6 (qv 4) (C_ c.2 g (w6 (qv 1) (qv 3))))))))))⟩
abbrev c27(V:V_):Prop:=c26 V/\Q_ V 129 "_law_tree" ["_law_cells",nq,"_law_room"] (lF V.Pt)
theorem d27(V:V_)(B:B_ V)(c:c26 V):c27 V:=⟨c,M_ V 128 ["_law_cells",nq,"_law_room",ng,nE,nH,nQ,nl,nw,"_law_deed",ny] B.hp B.D26 ab6 λ_ _ _ _ _ _ _ J U g=>(q9 (S_ 3 U (ze x8)) (q9 (S_ 4 U (ze x8)) (q9 (k7 xT rfl (gM rfl B.bg (qv 0)) (ai rfl (zo (G_ 5 U) (zo (G_ 6 U) kz))) (q9 (o3 (i:=7) (j:=8) rfl U rfl rfl (by decide) rfl rfl (w6 (C_ c.1.1.1.1.1.1.1.1.1.1.1.2 J (bR (qv 6) (qv 5) qj)) (C_ c.1.1.1.1.1.1.1.1.1.1.1.2 J (bR (qv 6) (qv 5) qj))) rfl) (q9 (zk (jh uk (qz xm (qz xm (L_ B.ba (qv 3)) (L_ B.ba (qv 4))) qj) (qv 2) (xt _)) (qd rL) z9) (q9 (S_ 9 U (qz ve (qv 7) qj)) (q9 (S_ 7 U (qz aV (qv 7) qj)) (qd (zk (aA (aG (jh rq (qv 9) qj (xt _)) (aP (E_ g (qv 4) (ze x8))))) (q9 (zj (zm (qv 3) (x6 (j7 (w6 j9 (C_ c.1.1.1.1.1.1.1.1.1.1.2 J (w6 (qv 1) (qz ve (qv 8) qj)))))))) (q9 (zj (zm (qv 3) (x6 (j7 (w6 j9 (C_ c.1.1.1.1.1.1.1.1.1.1.2 J (w6 (qv 1) (qz ve (qv 8) qj)))))))) (bB (zk (E_ g (qz ve (qv 7) qj) qj) (qd (zj (zm (qv 3) (x6 (cH (qv 3) (x6 (qz cI (L_ B.ba (qv 3)) qj))))))) z9) (q9 (S_ 10 U (qz cI (L_ B.ba (qv 3)) qj)) (qd (zj (zm (qv 4) (x6 (ze (w6 (j7 (bR j9 (qv 10) (qz xm (qv 10) qj))) (ze (w6 (qv 10) (qz xm (qv 10) qj))))))))))))) (qd (zk (jh rq (qv 9) qj (xt _)) (qd (zj (C_ c.1.1.1.1.2 J (vo (qv 3) (bR (I_ (qv 4) (qz ve (qv 8) (L_ B.ba (qv 4)))) (qv 7) (qz aV (qv 8) qj)))))) (qd (zk (aA (fk (jh rq (qv 9) qj (xt _)) (eM (jh uk (L_ B.ba (qv 4)) qj (xt _))))) (qd (zj (C_ c.1.1.1.1.1.2 J (vo (qv 3) (bR (qv 4) (qv 7) (qv 8)))))) (qd (zj (C_ c.1.1.1.2 J (vo (qv 3) (bR (qv 4) (qv 7) (qv 8))))))))))))))))) (bB (zk (E_ g (qv 4) (ze x8)) (q9 (zj (zm (qv 3) (x6 (j7 (w6 j9 (C_ c.1.1.1.1.1.1.1.1.1.1.2 J (w6 (qv 1) qj))))))) (q9 (zj (zm (qv 3) (x6 (j7 (w6 j9 (C_ c.1.1.1.1.1.1.1.1.1.1.2 J (w6 (qv 1) qj))))))) (qd (zj (zm (qv 4) (x6 (ze (w6 (j7 (bR j9 qj qj)) (ze (w6 qj qj)))))))))) z9) (q9 (dc xT (jh uk (L_ B.ba (qv 4)) qj (xt _)) (qd (zj (C_ c.1.1.1.1.1.2 J (vo (qv 3) (bR (qv 4) (qz xm (qz aV (qv 1) qj) (L_ B.ba (qv 4))) (qz aV (qv 1) qj))))))) (qd (qt (C_ c.2 J (bR (qv 3) (I_ (J_ 4) qj) (qv 1))))))))))⟩
abbrev c28(V:V_):Prop:=c27 V/\Q_ V 1 "_law_arms" [nh] (w9)
theorem d28(V:V_)(B:B_ V)(c:c27 V):c28 V:=⟨c,M_ V 0 [nh] B.hp B.D27 aah λ_ _ _ _ _ _ _ U g J=>(q9 (zk (E_ J (J_ 0) j9) (qd (qt (ze (w6 (J_ 0) (J_ 0))))) z9) (q9 (zk (E_ J (J_ 0) j9) (qd (qt (ze x8))) z9) (qd (qt (ac bP rfl B.bc wy (x6 (v5 (fw _ _ _) (qv 0) (xx qj) aX)))))))⟩
abbrev c29(V:V_):Prop:=c28 V/\Q_ V 2 nO [nh] (oz)
theorem d29(V:V_)(B:B_ V)(c:c28 V):c29 V:=⟨c,M_ V 1 [nh,"_law_links","_law_cuts",nR,"_law_stack",nl] B.hp B.D28 aep λ_ _ _ _ _ _ _ g U J=>(q9 (iM (j7 (vo (ze x8) (bR (ze x8) jW (ze (x6 (qv 0)))))) (ai rfl (zo (G_ 1 U) (zo (G_ 2 U) (zo (G_ 3 U) (zo (G_ 4 U) kz)))))) (q9 (dc xT (N_ J (qv 4) (ze x8)) (q9 (S_ 5 U (tQ (qv 4))) (bB (zk (E_ J (J_ 5) j9) (q9 (zj (zm (qv 1) (x6 (j7 (w6 (J_ 5) (J_ 5)))))) (q9 (aw J (qv 3) (J_ 5) vj) (qd (aw J (qv 3) (J_ 5) vj)))) (qd (zk (E_ J (J_ 5) j9) (qd (zj (zm (qv 2) (x6 (j7 (w6 (J_ 5) (J_ 5))))))) (qd (aw J (qv 3) (J_ 5) vj))))) (qd (zj (bD (qv 4) (x6 (C_ c.2 g (x6 (qv 5)))))))))) (qd (qt (j7 (bR (qv 1) (qv 2) (qv 3)))))))⟩
abbrev c30(V:V_):Prop:=c29 V/\Q_ V 2 "_law_ends" [ng,nh] (bL)
theorem d30(V:V_)(B:B_ V)(c:c29 V):c30 V:=⟨c,M_ V 1 [ng,nh,nR,"_law_taken","_law_stack",nl] B.hp B.D29 ab3 λ_ _ _ _ _ _ _ g U J=>(q9 (iM (j7 (bR (ze x8) jW (ze (x6 (qv 1))))) (ai rfl (zo (G_ 2 U) (zo (gU (i:=3) U rfl (Or.inr rfl)) (zo (G_ 4 U) kz))))) (q9 (dc xT (N_ J (qv 4) (ze x8)) (q9 (S_ 5 U (tQ (qv 4))) (bB (zk (E_ J (J_ 5) j9) (qd (zj (bD (qv 2) (x6 (ze (w6 (J_ 5) (J_ 5))))))) (qd (zk (E_ J (J_ 5) j9) (q9 (aw J (qv 3) (J_ 5) vj) (qd (aw J (qv 3) (J_ 5) vj))) (q9 (zj (zm (qv 2) (x6 (J_ 5)))) (q9 (aw J (qv 3) (I_ (I_ (qv 0) (J_ 5)) qj) vj) (qd (aw J (qv 3) (I_ (I_ (qv 0) (J_ 5)) qj) vj))))))) (qd (zj (bD (qv 4) (x6 (C_ c.1.2 g (x6 (qv 5)))))))))) (qd (qt (lU [nu] (EJ (by rfl)) rfl (vz (qv 2)) (wf nd_ (λ_ _ _ _=>Or.inl rfl) (λ_ _ _ _=>rfl)) (λ_ _ _ _=>fY (jh (abu J) (qv 6) (qv 3) (by with_unfolding_all rfl))) (λ_ _ _ _=>(qv 6)))))))⟩
abbrev c31(V:V_):Prop:=c30 V/\Q_ V 1 "_law_needs" [ng,nh,nv] (bF)
theorem d31(V:V_)(B:B_ V)(c:c30 V):c31 V:=⟨c,M_ V 0 [ng,nh,nv] B.hp B.D30 zD λ_ _ _ _ _ _ _ U g J=>(q9 (zk (E_ J (J_ 1) j9) (qd (qt (ze (x6 (I_ (qv 1) (qz xm qj (qv 2))))))) z9) (q9 (zk (E_ J (J_ 1) j9) (qd (qt (ze (x6 (I_ (I_ (qv 0) (J_ 1)) (qz xm qj (qv 2))))))) z9) (qd (qt (ac bP rfl B.bc wy (x6 (v5 (fw _ _ _) (I_ (qv 0) (J_ 1)) (xx qj) aX)))))))⟩
abbrev c32(V:V_):Prop:=c31 V/\Q_ V 3 "_law_goes" [ng,nh,nv] (mL)
theorem d32(V:V_)(B:B_ V)(c:c31 V):c32 V:=⟨c,M_ V 2 [ng,nh,nv,"_law_inner","_law_needs_here",nH,"_law_below",nF] B.hp B.D31 aax λ_ _ _ _ _ _ _ J U g=>(q9 (zk (aA (aG (jh rq (qv 2) qj (xt _)) (aP (jh aip (qv 2) (L_ B.ba (C_ c.1.1.1.2 J (x6 (qv 1)))) (xt _))))) (qd (qt bx)) z9) (q9 (S_ 3 U (I_ (C_ c.1.1.1.2 J (x6 (qv 1))) (qv 2))) (q9 (S_ 4 U (C_ c.2 J (bR (qv 0) (qv 1) (qv 2)))) (q9 (zk (aA (fk (N_ g (J_ 3) j9) (eM (jh (aay _ _ _) (J_ 3) (qv 4) (by with_unfolding_all rfl))))) (qd (qt bx)) z9) (q9 (k7 xT rfl (gM rfl B.bg (C_ c.1.1.1.2 J (x6 (qv 3)))) (ai rfl (zo (G_ 5 U) (zo (G_ 6 U) kz))) (q9 (dD (i:=7) U rfl (Or.inr rfl) (C_ c.1.2 J (w6 (qv 0) (qv 6)))) (qd (zk (E_ g (lU [nu] (EJ (by rfl)) rfl (vz (qv 4)) (wf nd_ (λ_ _ _ _=>Or.inl rfl) (λ_ _ _ _=>rfl)) (λ_ _ _ _=>fY (jh (pH _ _ _) (qv 8) (qv 7) (by with_unfolding_all rfl))) (λ_ _ _ _=>(qv 8))) (ze x8)) (qd (qt (qv 5))) z9)))) (qd (qt bx)))))))⟩
abbrev c33(V:V_):Prop:=c32 V/\Q_ V 2 "_law_at" [nh,nG] (uL)
theorem d33(V:V_)(B:B_ V)(c:c32 V):c33 V:=⟨c,M_ V 1 [nh,nG,"_law_a"] B.hp B.D32 ajc λ_ _ _ _ _ _ _ U J g=>(q9 (k7 xT rfl (vz (qv 1)) (G_ 2 J) (qd (S_ 0 J (I_ (C_ c.1.1.1.1.2 U (x6 (qv 0))) (qv 2))))) (qd (qt (qv 0))))⟩
abbrev c34(V:V_):Prop:=c33 V/\Q_ V 2 nK [nh,"_law_number"] (lv)
theorem d34(V:V_)(B:B_ V)(c:c33 V):c34 V:=⟨c,M_ V 1 [nh,"_law_number",nG,nM] B.hp B.D33 ad1 λ_ _ _ _ _ _ _ U J g=>(q9 (S_ 2 J (ze x8)) (q9 (S_ 3 J (C_ c.1.1.1.1.1.2 U (x6 (qv 0)))) (q9 (dc xT (aA (fk (N_ g (qv 3) (ze x8)) (eM (jh uk (qz ve (qv 1) qj) qj (xt _))))) (q9 (zj (zm (qv 2) (x6 (qz ve (qz aV (qv 1) qj) (L_ B.ba (qv 3)))))) (q9 (S_ 3 J (C_ c.1.1.1.1.1.2 U (x6 (I_ (qv 3) (I_ (qv 2) (wG wM qj)))))) (qd (S_ 1 J (qz ve (qz mC (qv 1) qj) qj)))))) (qd (qt (qv 2))))))⟩
abbrev c35(V:V_):Prop:=c34 V/\Q_ V 125 "_law_alike" [nN,"_law_due"] (cG 124)
theorem d35(V:V_)(B:B_ V)(c:c34 V):c35 V:=⟨c,R_ V 1 [nN,"_law_due",nH] B.hp B.D34 yM zN (λ_ _ J _ _ _ _ _ _ g j U=>(q9 (zk (dE (qv 1)) (qd (qt (u4 (qv 0)))) z9) (q9 (zk (w5 (vm .str rfl B.bb rfl B.bj vD (qv 1))) (qd (qt (uU (vm .str rfl B.bb rfl B.bj vD (qv 0)) (abm (gZ (sg _ _ _ U) (qv 0) (qv 1) (xt _)))))) z9) (q9 (zk (w5 (vm .int rfl B.bb rfl B.bi om (qv 1))) (qd (qt (uU (vm .int rfl B.bb rfl B.bi om (qv 0)) (uU (ald (vm .bool rfl B.bb rfl B.bp wF (qv 0))) (abm (gZ (sg _ _ _ U) (qv 0) (qv 1) (xt _))))))) z9) (q9 (zk (aA (aG (N_ U (vm .list rfl B.bb rfl B.bc wy (qv 1)) (vm .list rfl B.bb rfl B.bc wy (qv 0))) (aP (N_ U (vm .tuple rfl B.bb rfl B.bd cY (qv 1)) (vm .tuple rfl B.bb rfl B.bd cY (qv 0)))))) (qd (qt vj)) z9) (q9 (zk (N_ U (L_ B.ba (qv 0)) (L_ B.ba (qv 1))) (qd (qt vj)) z9) (q9 (k7 xT rfl (eU rfl B.bh (x6 (L_ B.ba (qv 1)))) (G_ 2 j) (qd (zk (bz (w5 (C_ J g (w6 (I_ (qv 0) (qv 2)) (I_ (qv 1) (qv 2)))))) (qd (qt vj)) z9))) (qd (qt vj))))))))) 124⟩
abbrev c36(V:V_):Prop:=c35 V/\Q_ V 122 "_law_sound" [ng,nh] (dr)
theorem d36(V:V_)(B:B_ V)(c:c35 V):c36 V:=⟨c,M_ V 121 [ng,nh,"_law_seen","_law_stack",nl,nM,nR,"_law_a",nF,nu] B.hp B.D35 sC λ_ _ _ _ _ _ _ g U J=>(q9 (o3 (i:=2) (j:=3) rfl U rfl rfl (by decide) rfl rfl (w6 jW (ze (x6 (qv 1)))) rfl) (q9 (dc xT (N_ J (qv 3) (ze x8)) (q9 (S_ 4 U (tQ (qv 3))) (q9 (S_ 5 U (C_ c.1.1.1.1.1.1.1.2 g (x6 (qv 4)))) (q9 (S_ 6 U (ze (x6 (J_ 4)))) (q9 (zk (E_ J (J_ 4) j9) (q9 (S_ 6 U (ze (w6 (J_ 4) (J_ 4)))) (qd (zk (aA (aG (jh aip (J_ 4) (J_ 4) (xt _)) (aP (N_ J (I_ (qv 0) (J_ 4)) (C_ c.1.1.1.1.1.1.1.1.1.1.1.1.1.1.1.1.1.2 g (x6 (I_ (qv 0) (J_ 4)))))))) (qd (qt vj)) z9))) (qd (zk (E_ J (J_ 4) j9) (q9 (S_ 6 U (ze x8)) (qd (zk (N_ J (C_ c.1.1.1.1.1.1.1.1.1.1.1.1.1.1.1.1.1.1.2 g (w6 (qv 0) (J_ 4))) (C_ c.1.1.1.1.1.1.1.1.1.1.1.1.1.1.1.1.1.2 g (x6 (C_ c.1.1.1.1.1.1.1.1.1.1.1.1.1.1.1.1.1.1.2 g (w6 (qv 0) (J_ 4)))))) (qd (qt vj)) z9))) (qd (zk (N_ J (I_ (I_ (qv 0) (J_ 4)) qj) (J_ 4)) (qd (qt vj)) z9))))) (q9 (k7 xT rfl (eU rfl B.bh (x6 (L_ B.ba (qv 5)))) (G_ 7 U) (q9 (dD (i:=8) U rfl (Or.inr rfl) (C_ c.1.1.1.1.1.2 g (w6 (qv 0) (I_ (qv 5) (qv 7))))) (qd (akn "_law_p'" (N_ J (lU [nu] (EJ (by rfl)) rfl (vz (C_ c.1.1.1.1.2 g (bR (qv 0) (qv 4) (qv 7)))) (wf nd_ (λ_ _ _ _=>Or.inl rfl) (λ_ _ _ _=>rfl)) (λ_ _ _ _=>fY (jh (pH _ _ _) (qv 10) (qv 8) (by with_unfolding_all rfl))) (λ_ _ _ _=>(qv 10))) (ze x8)) (qd (qt vj)) z9)))) (q9 (k7 xT rfl (vz (qv 6)) (G_ 9 U) (q9 (zk (jh (anp J) (qv 9) (qv 2) (by with_unfolding_all rfl)) (qd (qt vj)) z9) (qd (aw J (qv 2) (qv 9) vj)))) (qd (zj (bD (qv 3) (x6 (qv 5)))))))))))) (qd (qt (gZ (sg _ _ _ J) (wb ake rfl B.ba adh (x6 (qv 2))) (L_ B.ba (qv 0)) (xt _))))))⟩
abbrev c37(V:V_):Prop:=c36 V/\Q_ V 126 "_law_shaped" [ng,nh,"_law_depth"] (aU 124)
theorem d37(V:V_)(B:B_ V)(c:c36 V):c37 V:=⟨c,R_ V 2 [ng,nh,"_law_depth","_law_sizes",nM,"_law_x",nv] B.hp B.D36 uN tW (λ_ _ J _ _ _ _ _ _ j g U=>(q9 (S_ 3 g (aao [ ("link" ,3) ,("either" ,3) ,("both" ,4) ,("cut" ,5) ] (a9 aR m7 (a9 aR m7 (a9 aR m7 (a9 aR m7 wO)))) rfl rfl (Bl _ _) (Bt rfl))) (q9 (zk (aA (aG (bz (w5 (vm .tuple rfl B.bb rfl B.bd cY (qv 1)))) (aG (jh rq (L_ B.ba (qv 1)) qj (xt _)) (aP (bz (w5 (vm .str rfl B.bb rfl B.bj vD (J_ 1)))))))) (qd (qt vj)) z9) (q9 (zk (aA (aG (jh (abu U) (J_ 1) (qv 3) (by with_unfolding_all rfl)) (aG (N_ U (L_ B.ba (qv 1)) (bX U (qv 3) (J_ 1) (λ_ _=>rfl))) (aP (jh uk (qv 2) qj (xt _)))))) (qd (qt vj)) z9) (q9 (S_ 4 g (C_ c.1.1.1.1.1.1.1.1.2 j (x6 (qv 1)))) (q9 (k7 xT rfl (ur (v5 (fw _ _ _) (qv 1) (xx qj) (xx (qz cI (L_ B.ba (qv 1)) (L_ B.ba (qv 4)))))) (G_ 5 g) (qd (zk (aA (aG (bz (w5 (vm .int rfl B.bb rfl B.bi om (qv 5)))) (aG (w5 (vm .bool rfl B.bb rfl B.bp wF (qv 5))) (aG (jh rq (qv 5) qj (xt _)) (aP (jh aip (qv 5) (L_ B.ba (qv 0)) (xt _))))))) (qd (qt vj)) z9))) (q9 (zk (aA (fk (jh uk (L_ B.ba (qv 4)) qj (xt _)) (fk (N_ U (J_ 1) j9) (eM (N_ U (I_ (I_ (qv 0) (J_ 1)) qj) (J_ 1)))))) (qd (qt vj)) z9) (q9 (k7 xT rfl (vz (qv 4)) (G_ 6 g) (qd (zk (bz (w5 (C_ J j (bR (qv 0) (qv 6) (qz xm (qv 2) qj))))) (qd (qt vj)) z9))) (qd (qt vj)))))))))) 124⟩
abbrev c38(V:V_):Prop:=c37 V/\Q_ V 127 "_law_done" [ng,nh,nG,nv] (fU)
theorem d38(V:V_)(B:B_ V)(c:c37 V):c38 V:=⟨c,M_ V 126 [ng,nh,nG,nv,nL,nR,nN] B.hp B.D37 (uQ B.xf) λ_ _ _ _ _ _ _ g J U=>(q9 (S_ 4 J (j7 (w6 (ac bP rfl B.bc wy (x6 (qv 0))) (qv 1)))) (q9 (S_ 5 J (ac bP rfl B.bc wy (x6 (qv 2)))) (q9 (S_ 6 J bx) (q9 (af1 rfl rfl rfl rfl B.md (aj3 (i:=6) (c.1.1.1.1.1.1.1.1.1.1.1.1.1.1.1.1.1.1.1.1.1.1.1.2.mono (by decide)) g rfl rfl J rfl (Or.inl rfl) (λ_ _=>(bR (qv 4) (qv 5) (qv 3)))) (λ_=>(qd (S_ 6 J bx)))) (q9 (zk (aA (aG (N_ U (J_ 4) (qv 0)) (aP (N_ U (qv 5) (qv 2))))) (qd (qt (j7 x8))) z9) (q9 (zk (dE (qv 6)) (qd (qt bx)) z9) (q9 (zk (aA (aG (bz (w5 (vm .tuple rfl B.bb rfl B.bd cY (qv 6)))) (aG (N_ U (L_ B.ba (qv 6)) qj) (aP (N_ U (J_ 6) (qv 0)))))) (qd (qt (j7 x8))) z9) (qd (qt (J_ 6))))))))))⟩
theorem dL(V:V_)(B:B_ V)(c:c38 V){f:Addr}{fd:FuncData}(F:Fun V.K "law" "law" qX f fd):Fn3 V.P V.w V.K V.mg V.base 130 f fd [nJ] (oh V.Pt lamQ):=
 W_ V 129 [nJ,nq,ng,nh,"_law_now","_law_steps","_law_j",nQ,"_law_number",nG,nv,nH,nN,"_law_before","_law_behind"] F ac5 λ_ _ _ _ _ _ U J g=>(q9 (S_ 1 J (qz ve (I_ (qz (ajx _ _ _) (qv 0) (ze (x6 qj))) qj) (qz ano qj qj))) (q9 (iM (C_ c.1.1.1.1.1.1.1.1.1.1.1.2 U (bR (v5 (rW _ _ _) (qv 0) (xx qj) aX) (qv 1) qj)) (ai rfl (zo (G_ 2 J) (zo (G_ 3 J) kz)))) (q9 (S_ 4 J (qv 3)) (q9 (S_ 5 J (ze x8)) (q9 (k7 xT rfl (gM rfl B.bg (v5 (rW _ _ _) (qv 0) (xx qj) (xx qj))) (ai rfl (zo (G_ 6 J) (zo (G_ 7 J) kz))) (q9 (S_ 8 J (C_ c.1.1.1.1.1.1.1.1.1.1.1.1.1.1.1.1.1.1.1.1.1.1.1.2 U (bR (qv 7) (qv 6) qj))) (q9 (S_ 9 J (C_ c.1.1.1.1.2 U (w6 (qv 4) (qz ve (qz mC (qv 8) qj) qj)))) (q9 (S_ 10 J (qz ve (qv 8) qj)) (q9 (S_ 11 J (C_ c.1.1.1.1.1.1.2 U (bR (qv 2) (C_ c.1.1.1.1.1.2 U (w6 (qv 4) (qv 9))) (qv 10)))) (q9 (S_ 12 J (C_ c.2 U (vo (qv 2) (bR (qv 4) (qv 9) (qv 10))))) (q9 (zk (aA (aG (N_ g (u4 (qv 11)) (u4 (qv 12))) (aP (jh (anl _ _ _ g) (qv 12) (j7 x8) (xt _))))) (qd (qt vj)) z9) (qd (zk (aey (qv 11)) (q9 (zk (bz (w5 (C_ c.1.2 U (bR (qv 2) (qv 12) qj)))) (qd (qt vj)) z9) (q9 (zj (zm (qv 5) (x6 (j7 (w6 (qv 9) (qv 11)))))) (qd (S_ 4 J (qv 12))))) z9))))))))) (q9 (o3 (i:=13) (j:=14) rfl J rfl rfl (by decide) rfl rfl (w6 (C_ c.1.1.1.1.1.1.1.1.1.2 U (x6 (qv 3))) (C_ c.1.1.1.1.1.1.1.1.1.2 U (x6 (qv 4)))) rfl) (q9 (zk (aA (aG (bz (w5 (C_ c.1.1.2 U (w6 (qv 2) (qv 4))))) (aP (N_ g (wb jZ rfl B.bf eQ (x6 (J_ 13))) (wb jZ rfl B.bf eQ (x6 (J_ 14))))))) (qd (qt vj)) z9) (q9 (zk (N_ g (wb jZ rfl B.bf eQ (x6 (J_ 13))) (wb jZ rfl B.bf eQ (x6 (J_ 14)))) (qd (qt vj)) z9) (q9 (k7 xT rfl (aac rfl B.bn (qv 5)) (ai rfl (zo (G_ 9 J) (zo (G_ 11 J) kz))) (q9 (S_ 4 J (C_ c.2 U (vo (qv 2) (bR (qv 4) (qv 9) (qv 11))))) (qd (zk (aA (aG (dE (qv 4)) (aP (bz (w5 (C_ c.1.2 U (bR (qv 2) (qv 4) qj))))))) (qd (qt vj)) z9)))) (qd (qt (C_ c.1.1.1.2 U (w6 (qv 4) (qv 3))))))))))))))
theorem all_mk{l:PySem.W.OpenLaw}{w:World}{K:Ae}{h:Heap}{mg:Str->Option Value}{fa:Addr}{U:Addr}{a3:Option Addr}{a4:Nat}{a5:Array (Option Value)}{a1 a2:Tok}{J:Addr}{T:Nat}{g j o p r t C I:Tok}{Ca:Addr}{Pt:Addr}(X:K.In h)(G:h.Ns mainGlobals mg)(ag:mg "law"=some (.ref fa))
 (D0:zc K "is_leaf" nV)
 (D1:zc K "parts_of" lz)
 (D2:zc K "places_of" jF)
 (D3:zc K "arms_of" oH)
 (D4:zc K "rules_in" l5)
 (D5:zc K "told_by" oO)
 (D6:zc K "taken_by" mO)
 (D7:zc K "with_arm" l7)
 (D8:zc K "all_told" kG)
 (D9:zc K "arm_that_tells" cR)
 (D10:zc K "turned_out" gB)
 (D11:zc K "arm_at" rJ)
 (D12:zc K "rules_along" fF)
 (D13:zc K "exchanged" i8)
 (D14:zc K "_law_mix" lY)
 (D15:zc K "_law_name" iy)
 (D16:zc K "_law_word" ix)
 (D17:zc K "_law_flip" iu)
 (D18:zc K "_law_weight" fG)
 (D19:zc K "_law_mirror" fE)
 (D20:zc K "_law_join" jE)
 (D21:zc K "_law_fold" jH)
 (D22:zc K "_law_cut" kF)
 (D23:DefInT K "_law_order" s__law_order Pt)
 (D24:zc K "_law_moved" gL)
 (D25:zc K nS db)
 (D26:zc K "_law_tree" jB)
 (D27:zc K "_law_arms" jG)
 (D28:zc K nO dN)
 (D29:zc K "_law_ends" ij)
 (D30:zc K "_law_needs" gE)
 (D31:zc K "_law_goes" im)
 (D32:zc K "_law_at" nZ)
 (D33:zc K nK cV)
 (D34:zc K "_law_alike" fz)
 (D35:zc K "_law_sound" gj)
 (D36:zc K "_law_shaped" fI)
 (D37:zc K "_law_done" jC)
 (D38:zc K "law" qX)
 (aLEAF_KINDS:PySem.W.nsIn K mainGlobals "LEAF_KINDS"=some (some (.ref U)))
 (lLEAF_KINDS:K.lookup U=some ⟨.type "tuple",a3,.seq #[.str "plain" a1,.str "turned" a2] a4,a5⟩)
 (aPLACE_COUNTS:PySem.W.nsIn K mainGlobals "PLACE_COUNTS"=some (some (.ref J)))
 (lPLACE_COUNTS:K.lookup J=some ⟨.type "dict",none,.dict ((([("link",g,2,r),("either",j,1,t),("both",o,1,C),("cut",p,2,I)]:List (Str×Tok×Int×Tok)).map (ae8 w)).toArray) T,#[]⟩)
 (hPLACE_COUNTS:(J==sysModules)=false)
 (aCNoExchange:PySem.W.nsIn K mainGlobals "NoExchange"=some (some (.ref Ca)))
 (qCNoExchange:PySem.W.excIn K Ca [.type "ValueError",.type "Exception",.type "BaseException",.type "object"] "ValueError.__new__"=true)
 (xf:L3.XF62 K Ca)
 (zlist:PySem.W.nsIn K mainGlobals "list"=some none)
 (zenumerate:PySem.W.nsIn K mainGlobals "enumerate"=some none)
 (zall:PySem.W.nsIn K mainGlobals "all"=some none)
 (zlen:PySem.W.nsIn K mainGlobals "len"=some none)
 (zzip:PySem.W.nsIn K mainGlobals "zip"=some none)
 (zreversed:PySem.W.nsIn K mainGlobals "reversed"=some none)
 (zrange:PySem.W.nsIn K mainGlobals "range"=some none)
 (zmax:PySem.W.nsIn K mainGlobals "max"=some none)
 (zsorted:PySem.W.nsIn K mainGlobals "sorted"=some none)
 (zmin:PySem.W.nsIn K mainGlobals "min"=some none)
 (zisinstance:PySem.W.nsIn K mainGlobals "isinstance"=some none)
 (zint:PySem.W.nsIn K mainGlobals "int"=some none)
 (ztuple:PySem.W.nsIn K mainGlobals "tuple"=some none)
 (zstr:PySem.W.nsIn K mainGlobals "str"=some none)
 (zbool:PySem.W.nsIn K mainGlobals "bool"=some none):
 ∃fd:FuncData,(∀(s:Shared) (v:Value),BindsTo s fd ⟨[v],[]⟩ [(nJ,v)])/\∀base:Heap,K.In base->base.Ns mainGlobals mg->bO l.prog w K mg base CX0 130 fa fd [nJ] (spTopT lamQ K Pt):=by
 obtain⟨fL,kV,al,pm,an,ao,ct,aL,FL⟩:=D38.ex;have e:=ag.symm.trans (Cp X G aL);cases e;refine⟨PySem.W.fnOf "law" "law" (vh qX) (jn qX) (qu qX) .none kV al pm an ao ct,λs v=>.of_eq rfl,λbase _ _=>?_⟩;have B:B_ ⟨l.prog,w,K,mg,base,Pt,Ca⟩:=⟨⟨h,X,G⟩,A7 X G zlist,A7 X G zenumerate,A7 X G zall,A7 X G zlen,A7 X G zzip,A7 X G zreversed,A7 X G zrange,A7 X G zmax,A7 X G zsorted,A7 X G zmin,A7 X G zisinstance,A7 X G zint,A7 X G ztuple,A7 X G zstr,A7 X G zbool,D0,D1,D2,D3,D4,D5,D6,D7,D8,D9,D10,D11,D12,D13,D14,D15,D16,D17,D18,D19,D20,D21,D22,D23,D24,D25,D26,D27,D28,D29,D30,D31,D32,D33,D34,D35,D36,D37,⟨U,Cp X G aLEAF_KINDS,λH=>⟨U,[V.str "plain",V.str "turned"],rfl,.inr ⟨_,_,_,lLEAF_KINDS,rfl,rfl,by show 2<=sizeLine;decide,.cons ⟨_,rfl⟩ (.cons ⟨_,rfl⟩ (.nil))⟩,⟨_,_,rfl,rfl,⟨_,_,rfl,rfl,rfl⟩⟩⟩⟩,⟨J,Cp X G aPLACE_COUNTS,ajf _ lPLACE_COUNTS hPLACE_COUNTS (by show 4<=1000;decide) (by show List.Nodup ([Sum.inr "link",Sum.inr "either",Sum.inr "both",Sum.inr "cut"]:List jg);decide +kernel)⟩,Cp X G aCNoExchange,vA qCNoExchange,xf⟩;exact bO.imp (dL _ B (d38 _ B (d37 _ B (d36 _ B (d35 _ B (d34 _ B (d33 _ B (d32 _ B (d31 _ B (d30 _ B (d29 _ B (d28 _ B (d27 _ B (d26 _ B (d25 _ B (d24 _ B (d23 _ B (d22 _ B (d21 _ B (d20 _ B (d19 _ B (d18 _ B (d17 _ B (d16 _ B (d15 _ B (d14 _ B (d13 _ B (d12 _ B (d11 _ B (d10 _ B (d9 _ B (d8 _ B (d7 _ B (d6 _ B (d5 _ B (d4 _ B (d3 _ B (d2 _ B (d1 _ B trivial)))))))))))))))))))))))))))))))))))))) FL) λvs H Q E q=>afs q
theorem def_inT{K:Ae}{x:Str}{st:Stmt}{f Pt:Addr}{oc:Value}{od an:Option Addr}{oi:Array (Option Value)}{kV gc pm fx ct:Value}(a:PySem.W.nsIn K mainGlobals x=some (some (.ref f)))
 (l:K.lookup f=some ⟨oc,od,.func (PySem.W.fnOf x x (vh st) (jn st) (qu st) .none kV gc pm an fx ct),oi⟩) (c:PySem.W.codeIn K fx x=true) (k:PySem.W.keepIn K (.ref f)=true) (C:yP K fx Pt):DefInT K x st Pt:=
 ⟨f,kV,gc,pm,an,fx,ct,a,⟨⟨oc,od,kV,gc,pm,an,fx,ct,oi,rfl,l,c,C⟩,k⟩⟩
end K63
namespace H63
noncomputable section
open PySem PySem.W PySem.W.X L2 L3 PyProof.Rows
abbrev rr:=PySem.Challenge.rw_oncewise_k63_exchanges_undone
abbrev p:Program:=PySem.Challenge.pw_oncewise_k63_exchanges_undone
abbrev top:=K63.top
abbrev s(x:String):Str:=Str.ofString x
noncomputable abbrev S (x:String) (t:Tok):Value:=.str (Str.ofString x) t
noncomputable abbrev I (i:Int) (t:Tok):Value:=.int i t
noncomputable abbrev R (a:Addr):Value:=.ref a
abbrev E(P:Params)(k:String)(t:Tok)(v:Value):DictEntry:=⟨PyData.keyHash P (Str.ofString k),.str (Str.ofString k) t,v⟩
noncomputable abbrev O (c:Value) (d:Data):Obj:=⟨c,none,d,#[]⟩
abbrev FN(n q:String)(st:Stmt)(J kV gc pm:Value)(an:Option Addr)(cd ct:Value):FuncData:=fnOf (Str.ofString n) (Str.ofString q) (vh st) (jn st) (qu st) J kV gc pm an cd ct
abbrev FG(n q:String)(st:Stmt):FuncData:={ fnOf (Str.ofString n) (Str.ofString q) (vh st) (jn st) (qu st) .none .none .none .none none .none .none with globals:=0 }
abbrev tu(l:Array Value):Obj:=O (.type "tuple") (.seq l 0)
abbrev fo(f:FuncData):Obj:=O (.type "function") (.func f)
abbrev go(f:FuncData):Obj:=O .none (.func f)
abbrev co(n q:String)(t l a b c fl v:Nat)(o:Bool)(m k:Nat)(x y z u:Value)(d:Nat):Obj:=O (.type "code") (.fields #[S n t,S q (t+1),S "/claim/cut.py" (t+2),I l 0,I a 0,I b 0,I c 0,I fl 0,R v,.bool o,I m 0,R k,x,y,z,u,I d 0,I l 0,S "/claim/cut.py" (d+1)])
abbrev gm:Value:=S "law_oncewise_k63_exchanges_undone" 365
abbrev m1_:Value:=S "oncewise.exchanging" 295
abbrev m2_:Value:=S "oncewise.trees" 244
abbrev fX(n:String)(i:Nat)(m:Value)(r:Nat):Obj:=fo (FN n n (top i) .none .none .none m none (R r) .none)
abbrev gX(n:String)(i:Nat):Obj:=go (FG n n (top i))
abbrev cF(n:String)(t l a v d:Nat):Obj:=co n n t l a 0 0 3 v true 181 (v+1) .none (R (v+2)) (R (v+3)) (R (v+4)) d
abbrev cC(n:String)(t l v d:Nat):Obj:=co n n t l 0 0 0 0 v false 181 (v+1) .none .none .none .none d
abbrev cS(n:String)(a J k t v:Nat):Obj:=⟨.type "type",none,.cls (ClassData.mk (s n) [R 24] [R a,R 24,.type "ValueError",.type "Exception",.type "BaseException",.type "object"] J (s n) true [] [] false none false),#[some (R k),none,some (S n t),some (S n v),some (.builtin "ValueError.__new__"),some (.bool true)]⟩
abbrev dA(P:Params)(a b:Nat)(l:Int)(c d r e:Nat):Obj:=O (.type "dict") (.dict #[E P "__module__" a (S "oncewise.errors" 187),E P "__firstlineno__" b (I l c),E P "__static_attributes__" d (R r),E P "__doc__" e .none] 2)
abbrev dB(P:Params)(a q:Nat)(n:String)(J b:Nat)(l:Int)(c d r:Nat):Obj:=O (.type "dict") (.dict #[E P "__module__" a (S "oncewise.errors" 187),E P "__qualname__" q (S n J),E P "__firstlineno__" b (I l c),E P "__static_attributes__" d (R r)] 4)
abbrev fR(a b:Nat):Obj:=⟨.type "frame",none,.plain,#[some (R a),some (R 3),some (R b),none,some (S "oncewise.errors" 187),none,some (R 0)]⟩
abbrev bI(a:Nat):Obj:=O (.type "builtin_function_or_method") (.fields #[.builtin "object.__init_subclass__",R a])
abbrev sU(a:Nat):Obj:=O (.type "super") (.fields #[R a,R a,R a])
abbrev Ob:=Params->Obj
def ev{α:Type}:Bool->List α->List α
 |_,[]=>[]
 |true,x::r=>x::ev false r
 |false,_::r=>ev true r
def bt:Nat->List Obj->BT
 |0,_=>.nil
 |_,[]=>.nil
 |n+1,x::r=>.node x (bt n (ev true r)) (bt n (ev false r))
def env0:Env:={ scope:=p.main.scope,locals:=mainNs,globals:=mainNs,cells:=[],code:=.ref 13,frame:=some 14 }
abbrev cE:Code:=.body (behindTheImports p) env0
abbrev q0:Pos:=⟨0,0,0,0⟩
abbrev an:Option Value:=some (.ref 6)
abbrev Pc(n:Nat)(S J:World->OsState->SharedT)(l:List Stmt)(q U:Pos)(w:World):Prop:=(λos=>segRunT treeTable p w 11 an 1 n (S w os) (piecesOf l env0 cE q [topFrame q0]))=λos=>some (Flow.next,J w os,cE,U)
abbrev b0:=PySem.W.boot_o_0
abbrev b1:=PySem.W.boot_o_1
abbrev b2:=PySem.W.boot_o_2
abbrev b3:=PySem.W.boot_o_3
abbrev b4:=PySem.W.boot_o_4
abbrev b5:=PySem.W.boot_o_5
abbrev b6:=PySem.W.boot_o_6
abbrev b7:=PySem.W.boot_o_7
abbrev b8:=PySem.W.boot_o_8
abbrev b9:=PySem.W.boot_o_9
abbrev b10:=PySem.W.boot_o_10
def x5:Ob:=λ_=>tu #[]
def wo:Ob:=λ_=>O .none (.fields #[])
def xac:Ob:=λ_=>cC "<module>" 182 1 11 185
def xad:Ob:=λ_=>⟨(.type "frame"),none,.plain,#[(some (R 13)),(some (R 3)),(some (R 3)),none,(some (S "__main__" 164)),none,(some (R 0))]⟩
def xaf:Ob:=λ_=>tu #[(.type "ValueError")]
def xag:Ob:=λP=>O (.type "dict") (.dict #[(E P "__module__" 196 (S "oncewise.errors" 187)),(E P "__firstlineno__" 200 (I 2 199)),(E P "__static_attributes__" 201 (R 22)),(E P "__weakref__" 203 (R 25)),(E P "__doc__" 204 .none)] 3)
def xah:Ob:=λ_=>bI 24
def xai:Ob:=λP=>dB P 196 198 "OnceError" 197 200 2 199 201 22
def xaj:Ob:=λ_=>O (.type "getset_descriptor") (.fields #[S "__weakref__" 202,R 24,(.builtin "ExceptionGroup.__weakref__"),.none])
def xak:Ob:=λ_=>fR 20 17
def xal:Ob:=λ_=>O (.type "builtin_function_or_method") (.fields #[(.builtin "type.__prepare__"),(.type "type")])
def xao:Ob:=λ_=>cC "OnceError" 191 2 18 194
def xap:Ob:=λ_=>sU 24
def xar:Ob:=λ_=>fo (FN "is_leaf" "is_leaf" (top 5) .none .none .none (S "oncewise.words" 223) none (R 46) .none)
def xas:Ob:=λ_=>bI 37
def xat:Ob:=λP=>O (.type "dict") (.dict #[(E P "link" 246 (I 2 247)),(E P "either" 248 (I 1 249)),(E P "both" 250 (I 1 251)),(E P "cut" 252 (I 2 253))] 4)
def xau:Ob:=λ_=>tu #[S "word" 231]
def xav:Ob:=λ_=>cC "NoExchange" 209 4 31 212
def xaw:Ob:=λ_=>cS "NoExchange" 37 36 28 207 215
def xax:Ob:=λ_=>cF "parts_of" 237 11 1 48 241
def xay:Ob:=λ_=>gX "is_leaf" 5
def xaz:Ob:=λ_=>⟨(.type "type"),none,(.cls (ClassData.mk (s "OnceError") [(.type "ValueError")] [R 24,(.type "ValueError"),(.type "Exception"),(.type "BaseException"),(.type "object")] 23 (s "OnceError") true [] [R 37] false none false)),#[(some (R 15)),none,(some (S "OnceError" 189)),(some (S "OnceError" 197)),(some (.builtin "ValueError.__new__")),(some (.bool true))]⟩
def xa0:Ob:=λ_=>tu #[S "plain" 225,S "turned" 226]
def xa2:Ob:=λP=>dA P 214 218 4 217 219 35 220
def xa3:Ob:=λ_=>gX "parts_of" 7
def xa4:Ob:=λ_=>tu #[R 24]
def xa5:Ob:=λ_=>fR 33 30
def xa6:Ob:=λ_=>tu #[S "knot" 240]
def xa7:Ob:=λ_=>sU 37
def xa8:Ob:=λ_=>fo (FN "parts_of" "parts_of" (top 7) .none .none .none (S "oncewise.webs" 235) none (R 53) .none)
def xa9:Ob:=λP=>dB P 214 216 "NoExchange" 215 218 4 217 219 35
def xba:Ob:=λ_=>cF "is_leaf" 228 8 1 41 232
def xbc:Ob:=λ_=>cF "rules_along" 342 63 2 122 349
def xbd:Ob:=λ_=>fX "with_arm" 16 m1_ 94
def xbe:Ob:=λ_=>tu #[S "rule" 285]
def xbf:Ob:=λ_=>fX "exchanged" 22 m1_ 134
def xbg:Ob:=λ_=>co "taken_by" "taken_by" 289 28 2 0 0 3 84 true 181 85 .none .none .none (R 86) 292
def xbh:Ob:=λ_=>gX "arm_at" 20
def xbi:Ob:=λ_=>gX "arms_of" 11
def xbj:Ob:=λ_=>tu #[S "tree" 355,S "way" 356,S "arm" 357,S "along" 358,S "rule" 359,S "number" 360,S "outer" 361]
def xbk:Ob:=λ_=>fX "told_by" 13 m2_ 82
def xbl:Ob:=λ_=>cF "rules_in" 273 21 1 70 279
def xbm:Ob:=λ_=>fX "arm_that_tells" 18 m1_ 106
def xbn:Ob:=λ_=>tu #[S "rule" 300,S "number" 301,S "arm" 302,S "at" 303]
def xbo:Ob:=λ_=>tu #[S "rule" 269]
def xbp:Ob:=λ_=>gX "told_by" 13
def xbq:Ob:=λ_=>cF "turned_out" 322 52 3 108 330
def xbr:Ob:=λ_=>gX "arm_that_tells" 18
def xbs:Ob:=λ_=>fX "arm_at" 20 m1_ 120
def xbt:Ob:=λ_=>fX "arms_of" 11 m2_ 68
def xbu:Ob:=λ_=>gX "exchanged" 22
def xbv:Ob:=λ_=>cF "all_told" 307 41 1 96 313
def xbw:Ob:=λ_=>tu #[S "rule" 336,S "number" 337,S "arms" 338]
def xbx:Ob:=λ_=>cF "places_of" 259 17 1 56 263
def xby:Ob:=λ_=>gX "with_arm" 16
def xbz:Ob:=λ_=>fX "rules_along" 21 m1_ 127
def xb0:Ob:=λ_=>gX "turned_out" 19
def xb1:Ob:=λ_=>tu #[S "rule" 276,S "rules" 277,S "arm" 278]
def xb2:Ob:=λ_=>fX "taken_by" 14 m2_ 87
def xb3:Ob:=λ_=>cF "arm_at" 333 58 2 115 339
def xb5:Ob:=λ_=>cF "arms_of" 266 19 1 63 270
def xb6:Ob:=λ_=>gX "all_told" 17
def xb7:Ob:=λ_=>fX "rules_in" 12 m2_ 75
def xb8:Ob:=λ_=>gX "places_of" 10
def xb9:Ob:=λ_=>tu #[S "rule" 345,S "way" 346,S "along" 347,S "number" 348]
def xca:Ob:=λ_=>tu #[S "rule" 310,S "places" 311,S "inner" 312]
def xcb:Ob:=λ_=>cF "told_by" 282 26 1 77 286
def xcc:Ob:=λ_=>fX "turned_out" 19 m1_ 113
def xcd:Ob:=λ_=>gX "rules_in" 12
def xce:Ob:=λ_=>co "arm_that_tells" "arm_that_tells" 316 46 2 0 0 3 103 true 181 104 .none .none .none (R 105) 319
def xcf:Ob:=λ_=>tu #[S "rule" 262]
def xcg:Ob:=λ_=>cF "exchanged" 352 68 3 129 362
def xch:Ob:=λ_=>fX "all_told" 17 m1_ 101
def xci:Ob:=λ_=>gX "taken_by" 14
def xcj:Ob:=λ_=>tu #[S "knots" 325,S "rule" 326,S "arm" 327,S "inner" 328,S "number" 329]
def xck:Ob:=λ_=>fX "places_of" 10 m2_ 61
def xcl:Ob:=λ_=>cF "with_arm" 297 38 3 89 304
def xcm:Ob:=λ_=>gX "rules_along" 21
def xco:Ob:=λ_=>co "_law_cut" "_law_cut" 438 132 4 0 0 3 188 true 181 189 .none .none .none (R 190) 441
def xcr:Ob:=λ_=>fX "_law_mirror" 29 gm 174
def xcs:Ob:=λ_=>fX "_law_order" 33 gm 198
def xct:Ob:=λ_=>cF "_law_weight" 399 99 1 162 403
def xcw:Ob:=λ_=>fX "_law_name" 25 gm 146
def xcx:Ob:=λ_=>fX "_law_renamed" 35 gm 210
def xcy:Ob:=λ_=>co "_law_join" "_law_join" 420 116 4 0 0 3 176 true 181 177 .none .none .none (R 178) 423
def xcz:Ob:=λ_=>co "_law_moved" "_law_moved" 456 162 2 0 0 3 200 true 181 201 .none .none .none (R 202) 459
def xc1:Ob:=λ_=>fX "_law_fold" 31 gm 186
def xc2:Ob:=λ_=>fX "_law_flip" 27 gm 160
def xc5:Ob:=λ_=>cF "_law_word" 382 89 2 148 388
def xc8:Ob:=λ_=>cF "_law_mix" 367 78 3 136 373
def xdb:Ob:=λ_=>fX "_law_cut" 32 gm 191
def xdc:Ob:=λ_=>cF "_law_flip" 391 94 1 155 396
def xdd:Ob:=λ_=>fX "_law_weight" 28 gm 167
def xdi:Ob:=λ_=>fX "_law_join" 30 gm 179
def xdk:Ob:=λ_=>fX "_law_moved" 34 gm 203
def xdl:Ob:=λ_=>co "_law_name" "_law_name" 376 80 2 0 0 3 143 true 181 144 .none .none .none (R 145) 379
def xdm:Ob:=λ_=>cF "_law_renamed" 462 167 3 205 472
def xdq:Ob:=λ_=>fX "_law_word" 26 gm 153
def xdr:Ob:=λ_=>cF "_law_fold" 426 124 4 181 435
def xds:Ob:=λ_=>cF "_law_order" 444 154 2 193 453
def xdv:Ob:=λ_=>fX "_law_mix" 24 gm 141
def xdw:Ob:=λ_=>cF "_law_mirror" 406 103 2 169 417
def xd3:Ob:=λ_=>cF "_law_gathered" 499 210 1 226 508
def xd6:Ob:=λ_=>fX "_law_alike" 47 gm 290
def xd8:Ob:=λ_=>cF "_law_needs" 517 239 3 238 523
def xea:Ob:=λ_=>cF "_law_drawn_way" 572 274 2 278 579
def xec:Ob:=λ_=>fX "_law_arms" 37 gm 224
def xee:Ob:=λ_=>cF "_law_tree" 475 175 3 212 489
def xef:Ob:=λ_=>fX "_law_goes" 41 gm 248
def xei:Ob:=λ_=>cF "_law_at" 554 266 2 264 560
def xej:Ob:=λ_=>fX "_law_ends" 39 gm 236
def xem:Ob:=λ_=>cF "_law_arms" 492 204 1 219 496
def xeo:Ob:=λ_=>fX "_law_gathered" 38 gm 231
def xer:Ob:=λ_=>co "_law_goes" "_law_goes" 526 245 3 0 0 3 245 true 181 246 .none .none .none (R 247) 529
def xev:Ob:=λ_=>fX "_law_needs" 40 gm 243
def xex:Ob:=λ_=>co "_law_ends" "_law_ends" 511 224 2 0 0 3 233 true 181 234 .none .none .none (R 235) 514
def xey:Ob:=λ_=>fX "_law_drawn_way" 46 gm 283
def xe0:Ob:=λ_=>cF "_law_alike" 582 282 2 285 588
def xe4:Ob:=λ_=>fX "_law_tree" 36 gm 217
def xe8:Ob:=λ_=>fX "_law_at" 44 gm 269
def xfa:Ob:=λP=>O (.type "dict") (.dict #[(E P "__name__" 165 (S "law_oncewise_k63_exchanges_undone" 365)),(E P "__doc__" 166 .none),(E P "__package__" 167 .none),(E P "__loader__" 168 (.builtin "__main__.__loader__#opaque")),(E P "__spec__" 169 .none),(E P "__annotations__" 170 (R 6)),(E P "__builtins__" 171 (R 4)),(E P "__file__" 173 (S "/claim/cut.py" 172)),(E P "__cached__" 174 .none),(E P "OnceError" 206 (R 24)),(E P "NoExchange" 222 (R 37)),(E P "LEAF_KINDS" 227 (R 40)),(E P "is_leaf" 234 (R 47)),(E P "parts_of" 243 (R 54)),(E P "PLACE_COUNTS" 258 (R 55)),(E P "places_of" 265 (R 62)),(E P "arms_of" 272 (R 69)),(E P "rules_in" 281 (R 76)),(E P "told_by" 288 (R 83)),(E P "taken_by" 294 (R 88)),(E P "with_arm" 306 (R 95)),(E P "all_told" 315 (R 102)),(E P "arm_that_tells" 321 (R 107)),(E P "turned_out" 332 (R 114)),(E P "arm_at" 341 (R 121)),(E P "rules_along" 351 (R 128)),(E P "exchanged" 364 (R 135)),(E P "_law_mix" 375 (R 142)),(E P "_law_name" 381 (R 147)),(E P "_law_word" 390 (R 154)),(E P "_law_flip" 398 (R 161)),(E P "_law_weight" 405 (R 168)),(E P "_law_mirror" 419 (R 175)),(E P "_law_join" 425 (R 180)),(E P "_law_fold" 437 (R 187)),(E P "_law_cut" 443 (R 192)),(E P "_law_order" 455 (R 199)),(E P "_law_moved" 461 (R 204)),(E P "_law_renamed" 474 (R 211)),(E P "_law_tree" 491 (R 218)),(E P "_law_arms" 498 (R 225)),(E P "_law_gathered" 510 (R 232)),(E P "_law_ends" 516 (R 237)),(E P "_law_needs" 525 (R 244)),(E P "_law_goes" 531 (R 249)),(E P "_law_put_arm" 542 (R 256)),(E P "_law_about" 553 (R 263)),(E P "_law_at" 562 (R 270)),(E P "_law_put_at" 571 (R 277)),(E P "_law_drawn_way" 581 (R 284)),(E P "_law_alike" 590 (R 291)),(E P "_law_sound" 596 (R 296)),(E P "_law_shaped" 609 (R 303)),(E P "_law_done" 622 (R 310)),(E P "law" 643 (R 317))] 55)
def xfb:Ob:=λ_=>fX "_law_shaped" 49 gm 302
def xfc:Ob:=λ_=>co "_law_sound" "_law_sound" 591 297 2 0 0 3 292 true 181 293 .none .none .none (R 294) 594
def xfg:Ob:=λ_=>cF "_law_done" 610 339 4 304 620
def xfi:Ob:=λ_=>fX "law" 51 gm 316
def xfj:Ob:=λ_=>fX "_law_sound" 48 gm 295
def xfm:Ob:=λ_=>cF "law" 623 354 1 311 641
def xfp:Ob:=λ_=>fX "_law_done" 50 gm 309
def xfq:Ob:=λ_=>cF "_law_shaped" 597 323 3 297 607
def asq:List Ob:=[b0,b1,b2,b3,b4,b5,b6,b7,b8,b9,b10,x5,wo,xac,xad]
def anx:List Ob:=[b0,b1,b2,xfa,b4,b5,b6,b7,b8,b9,b10,x5,λ_=>O .none (.fields #[I 2 0,I 0 0,R 20,I 4 0,I 0 0,R 33,I 8 0,I 0 0,R 46,I 11 0,I 0 0,R 53,I 17 0,I 0 0,R 61,I 19 0,I 0 0,R 68,I 21 0,I 0 0,R 75,I 26 0,I 0 0,R 82,I 28 0,I 0 0,R 87,I 38 0,I 0 0,R 94,I 41 0,I 0 0,R 101,I 46 0,I 0 0,R 106,I 52 0,I 0 0,R 113,I 58 0,I 0 0,R 120,I 63 0,I 0 0,R 127,I 68 0,I 0 0,R 134,I 78 0,I 0 0,R 141,I 80 0,I 0 0,R 146,I 89 0,I 0 0,R 153,I 94 0,I 0 0,R 160,I 99 0,I 0 0,R 167,I 103 0,I 0 0,R 174,I 116 0,I 0 0,R 179,I 124 0,I 0 0,R 186,I 132 0,I 0 0,R 191,I 154 0,I 0 0,R 198,I 162 0,I 0 0,R 203,I 167 0,I 0 0,R 210,I 175 0,I 0 0,R 217,I 204 0,I 0 0,R 224,I 210 0,I 0 0,R 231,I 224 0,I 0 0,R 236,I 239 0,I 0 0,R 243,I 245 0,I 0 0,R 248,I 257 0,I 0 0,R 255,I 262 0,I 0 0,R 262,I 266 0,I 0 0,R 269,I 270 0,I 0 0,R 276,I 274 0,I 0 0,R 283,I 282 0,I 0 0,R 290,I 297 0,I 0 0,R 295,I 323 0,I 0 0,R 302,I 339 0,I 0 0,R 309,I 354 0,I 0 0,R 316]),xac,xad,xaf,xal,xai,x5,wo,xao,xak,x5,xag,xaz,xaj,xap,xah,xa4,xal,xa9,x5,wo,xav,xa5,x5,xa2,xaw,xa7,xas,xa0,x5,wo,xau,x5,xay,xba,xar,x5,wo,xa6,x5,xa3,xax,xa8,xat,x5,wo,xcf,x5,xb8,xbx,xck,x5,wo,xbo,x5,xbi,xb5,xbt,x5,wo,xb1,x5,xcd,xbl,xb7,x5,wo,xbe,x5,xbp,xcb,xbk,x5,wo,xci,xbg,xb2,x5,wo,xbn,x5,xby,xcl,xbd,x5,wo,xca,x5,xb6,xbv,xch,x5,wo,xbr,xce,xbm,x5,wo,xcj,x5,xb0,xbq,xcc,x5,wo,xbw,x5,xbh,xb3,xbs,x5,wo,xb9,x5,xcm,xbc,xbz,x5,wo,xbj,x5,xbu,xcg,xbf,x5,wo,λ_=>tu #[S "_law_cell" 370,S "_law_k" 371,S "_law_factor" 372],x5,λ_=>gX "_law_mix" 24,xc8,xdv,x5,wo,λ_=>gX "_law_name" 25,xdl,xcw,x5,wo,λ_=>tu #[S "_law_knots" 385,S "_law_p" 386,S "_law_knot" 387],x5,λ_=>gX "_law_word" 26,xc5,xdq,x5,wo,λ_=>tu #[S "_law_word_here" 394,S "_law_sides" 395],x5,λ_=>gX "_law_flip" 27,xdc,xc2,x5,wo,λ_=>tu #[S "_law_word_here" 402],x5,λ_=>gX "_law_weight" 28,xct,xdd,x5,wo,λ_=>tu #[S "_law_knots" 409,S "_law_word_here" 410,S "_law_left" 411,S "_law_right" 412,S "_law_turn" 413,S "_law_same" 414,S "_law_low" 415,S "_law_high" 416],x5,λ_=>gX "_law_mirror" 29,xdw,xcr,x5,wo,λ_=>gX "_law_join" 30,xcy,xdi,x5,wo,λ_=>tu #[S "_law_knots" 429,S "_law_tree_here" 430,S "_law_one" 431,S "_law_two" 432,S "_law_left" 433,S "_law_right" 434],x5,λ_=>gX "_law_fold" 31,xdr,xc1,x5,wo,λ_=>gX "_law_cut" 32,xco,xdb,x5,wo,λ_=>tu #[S "_law_knots" 447,S "_law_seed" 448,S "_law_p" 449,S "_law_knot" 450,S "_law_rank" 451],λ_=>tu #[S "_law_ranks" 452],λ_=>gX "_law_order" 33,xds,xcs,x5,wo,λ_=>gX "_law_moved" 34,xcz,xdk,x5,wo,λ_=>tu #[S "_law_knots" 465,S "_law_rule" 466,S "_law_seed" 467,S "_law_at_here" 468,S "_law_made" 469,S "_law_p" 470,S "_law_knot" 471],x5,λ_=>gX "_law_renamed" 35,xdm,xcx,x5,wo,λ_=>tu #[S "_law_cells" 478,S "_law_seed" 479,S "_law_room" 480,S "_law_knots" 481,S "_law_forest" 482,S "_law_k" 483,S "_law_cell" 484,S "_law_one" 485,S "_law_two" 486,S "_law_deed" 487,S "_law_at_here" 488],x5,λ_=>gX "_law_tree" 36,xee,xe4,x5,wo,λ_=>tu #[S "_law_rule" 495],x5,λ_=>gX "_law_arms" 37,xem,xec,x5,wo,λ_=>tu #[S "_law_rule" 502,S "_law_links" 503,S "_law_cuts" 504,S "_law_told" 505,S "_law_stack" 506,S "_law_one" 507],x5,λ_=>gX "_law_gathered" 38,xd3,xeo,x5,wo,λ_=>gX "_law_ends" 39,xex,xej,x5,wo,λ_=>tu #[S "_law_knots" 520,S "_law_rule" 521,S "_law_arm" 522],x5,λ_=>gX "_law_needs" 40,xd8,xev,x5,wo,λ_=>gX "_law_goes" 41,xer,xef,x5,wo,λ_=>tu #[S "_law_rule" 535,S "_law_arm" 536,S "_law_other" 537,S "_law_arms_here" 538,S "_law_kept" 539],x5,λ_=>gX "_law_put_arm" 42,λ_=>cF "_law_put_arm" 532 257 3 250 540,λ_=>fX "_law_put_arm" 42 gm 255,x5,wo,λ_=>tu #[S "_law_rule" 546,S "_law_arm" 547,S "_law_k" 548,S "_law_inner" 549,S "_law_below" 550],x5,λ_=>gX "_law_about" 43,λ_=>cF "_law_about" 543 262 3 257 551,λ_=>fX "_law_about" 43 gm 262,x5,wo,λ_=>tu #[S "_law_rule" 557,S "_law_way" 558,S "_law_a" 559],x5,λ_=>gX "_law_at" 44,xei,xe8,x5,wo,λ_=>tu #[S "_law_rule" 566,S "_law_way" 567,S "_law_other" 568],x5,λ_=>gX "_law_put_at" 45,λ_=>cF "_law_put_at" 563 270 3 271 569,λ_=>fX "_law_put_at" 45 gm 276,x5,wo,λ_=>tu #[S "_law_rule" 575,S "_law_number" 576,S "_law_way" 577,S "_law_arms_here" 578],x5,λ_=>gX "_law_drawn_way" 46,xea,xey,x5,wo,λ_=>tu #[S "_law_found" 585,S "_law_due" 586,S "_law_k" 587],x5,λ_=>gX "_law_alike" 47,xe0,xd6,x5,wo,λ_=>gX "_law_sound" 48,xfc,xfj,x5,wo,λ_=>tu #[S "_law_knots" 600,S "_law_rule" 601,S "_law_depth" 602,S "_law_sizes" 603,S "_law_arms_here" 604,S "_law_x" 605,S "_law_arm" 606],x5,λ_=>gX "_law_shaped" 49,xfq,xfb,x5,wo,λ_=>tu #[S "_law_knots" 613,S "_law_rule" 614,S "_law_way" 615,S "_law_arm" 616,S "_law_tree_here" 617,S "_law_told" 618,S "_law_found" 619],x5,λ_=>gX "_law_done" 50,xfg,xfp,x5,wo,λ_=>tu #[S "_law_script" 626,S "_law_seed" 627,S "_law_knots" 628,S "_law_rule" 629,S "_law_now" 630,S "_law_steps" 631,S "_law_j" 632,S "_law_cell" 633,S "_law_number" 634,S "_law_way" 635,S "_law_arm" 636,S "_law_k" 637,S "_law_found" 638,S "_law_before" 639,S "_law_behind" 640],x5,λ_=>gX "law" 51,xfm,xfi]
def arc:List Ob:=[b0,b1,b2,b3,b4,b5,b6,b7,b8,b9,b10,x5,wo,xac,xad]
def aqm:List Ob:=[b0,b1,b2,λP=>O (.type "dict") (.dict #[(E P "__name__" 165 (S "law_oncewise_k63_exchanges_undone" 365)),(E P "__doc__" 166 .none),(E P "__package__" 167 .none),(E P "__loader__" 168 (.builtin "__main__.__loader__#opaque")),(E P "__spec__" 169 .none),(E P "__annotations__" 170 (R 6)),(E P "__builtins__" 171 (R 4)),(E P "__file__" 173 (S "/claim/cut.py" 172)),(E P "__cached__" 174 .none),(E P "OnceError" 206 (R 24)),(E P "NoExchange" 222 (R 37)),(E P "LEAF_KINDS" 227 (R 40)),(E P "is_leaf" 234 (R 47)),(E P "parts_of" 243 (R 54)),(E P "PLACE_COUNTS" 258 (R 55)),(E P "places_of" 265 (R 62)),(E P "arms_of" 272 (R 69)),(E P "rules_in" 281 (R 76)),(E P "told_by" 288 (R 83)),(E P "taken_by" 294 (R 88)),(E P "with_arm" 306 (R 95)),(E P "all_told" 315 (R 102)),(E P "arm_that_tells" 321 (R 107)),(E P "turned_out" 332 (R 114)),(E P "arm_at" 341 (R 121)),(E P "rules_along" 351 (R 128)),(E P "exchanged" 364 (R 135))] 27),b4,b5,b6,b7,b8,b9,b10,x5,λ_=>O .none (.fields #[I 2 0,I 0 0,R 20,I 4 0,I 0 0,R 33,I 8 0,I 0 0,R 46,I 11 0,I 0 0,R 53,I 17 0,I 0 0,R 61,I 19 0,I 0 0,R 68,I 21 0,I 0 0,R 75,I 26 0,I 0 0,R 82,I 28 0,I 0 0,R 87,I 38 0,I 0 0,R 94,I 41 0,I 0 0,R 101,I 46 0,I 0 0,R 106,I 52 0,I 0 0,R 113,I 58 0,I 0 0,R 120,I 63 0,I 0 0,R 127,I 68 0,I 0 0,R 134]),xac,xad,xaf,xal,xai,x5,wo,xao,xak,x5,xag,xaz,xaj,xap,xah,xa4,xal,xa9,x5,wo,xav,xa5,x5,xa2,xaw,xa7,xas,xa0,x5,wo,xau,x5,xay,xba,xar,x5,wo,xa6,x5,xa3,xax,xa8,xat,x5,wo,xcf,x5,xb8,xbx,xck,x5,wo,xbo,x5,xbi,xb5,xbt,x5,wo,xb1,x5,xcd,xbl,xb7,x5,wo,xbe,x5,xbp,xcb,xbk,x5,wo,xci,xbg,xb2,x5,wo,xbn,x5,xby,xcl,xbd,x5,wo,xca,x5,xb6,xbv,xch,x5,wo,xbr,xce,xbm,x5,wo,xcj,x5,xb0,xbq,xcc,x5,wo,xbw,x5,xbh,xb3,xbs,x5,wo,xb9,x5,xcm,xbc,xbz,x5,wo,xbj,x5,xbu,xcg,xbf]
def ase:List Ob:=anx
def hpA(P:Params):Heap:=⟨⟨asq.map (· P)⟩,{}⟩
def hpZ(P:Params):Heap:=⟨⟨anx.map (· P)⟩,{}⟩
def tr0(P:Params):BT:=bt 20 (arc.map (· P))
def tr3(P:Params):BT:=bt 20 (aqm.map (· P))
def tr6(P:Params):BT:=bt 20 (ase.map (· P))
def sA(w:World)(os:OsState):Shared:=⟨hpA w.params,#[],{},187,os⟩
def sZ(w:World)(os:OsState):Shared:=⟨hpZ w.params,#[],{},644,os⟩
def bZ(w:World)(os:OsState):SharedT:=⟨tr0 w.params,15,{},#[],{},187,os⟩
def qI(w:World)(os:OsState):SharedT:=⟨tr3 w.params,136,{},#[],{},367,os⟩
def st6(w:World)(os:OsState):SharedT:=⟨tr6 w.params,318,{},#[],{},644,os⟩
def aco:List Stmt:=((behindTheImports p).drop 0).take 24
def ag7:List Stmt:=((behindTheImports p).drop 24).take 28
theorem apx(w:World):(λos=>topGo treeTable p w 11 an 12 ⟨boot_heap w.params,#[],boot_drawn,boot_toks,os⟩ (topStub p))=λos=>some (sA w os,⟨denote treeTable cE,cE,⟨0,0,0,0⟩,[topFrame q0]⟩):=by kernel_rfl
theorem asm(w:World):(λos=>segRun treeTable p w 11 an 1 1 (sA w os) (blockOf (behindTheImports p) env0 cE ⟨0,0,0,0⟩ [topFrame q0]))=λos=>some (.next,(bZ w os).abs,cE,⟨0,0,0,0⟩):=by kernel_rfl
theorem ars(w:World):Pc 960 bZ qI aco ⟨0,0,0,0⟩ ⟨77,0,77,8⟩ (w.withFollow "special-get-raises" false):=by kernel_rfl
theorem as9(w:World):Pc 960 bZ qI aco ⟨0,0,0,0⟩ ⟨77,0,77,8⟩ (w.withFollow "special-get-raises" true):=by kernel_rfl
theorem pc1:∀w,Pc 960 bZ qI aco ⟨0,0,0,0⟩ ⟨77,0,77,8⟩ w:=byRow2 "special-get-raises" ars as9
theorem pc2:∀w,Pc 882 qI st6 ag7 ⟨77,0,77,8⟩ ⟨354,0,381,42⟩ w:=λw=>by kernel_rfl
theorem asx(w:World):(λos=>topRun treeTable p w 11 an 2 (st6 w os).abs ⟨doneF .next,cE,⟨354,0,381,42⟩,[topFrame q0]⟩)=λos=>some (sZ w os):=by kernel_rfl
theorem amo:aco++(ag7++([]))=behindTheImports p:=by kernel_rfl
theorem ard(w:World)(os:OsState):topRun treeTable p w 11 an (12+(1+(960+(882+(2))))) ⟨boot_heap w.params,#[],boot_drawn,boot_toks,os⟩ (topStub p)=some (sZ w os):=by have h:=(piece_app (l:=aco) (rest:=ag7++([])) (segRun_of (Dh (pc1 w) os)) (piece_app (l:=ag7) (rest:=[]) (segRun_of (Dh (pc2 w) os)) (piece_nil (env:=env0) (Dh (asx w) os))));rw[amo] at h;exact go_top (Dh (apx w) os) (piece_block (Dh (asm w) os) h)
def as0:List Nat:=[0,1,2,3,4,5,6,7,8,9,10,13,23,24,25,36,37,40,46,47,53,54,55,61,62,68,69,75,76,82,83,87,88,94,95,101,102,106,107,113,114,120,121,127,128,134,135,141,142,146,147,153,154,160,161,167,168,174,175,179,180,186,187,191,192,194,198,199,203,204,210,211,217,218,224,225,231,232,236,237,243,244,248,249,269,270,283,284,290,291,295,296,302,303,309,310,316,317]
def vw:Program:={ p with main:={ p.main with body:=[top 1,top 2,top 4,top 5,top 7,top 9,top 10,top 11,top 12,top 13,top 14,top 16,top 17,top 18,top 19,top 20,top 21,top 22,top 24,top 25,top 26,top 27,top 28,top 29,top 30,top 31,top 32,top 33,top 34,top 35,top 36,top 37,top 38,top 39,top 40,top 41,top 42,top 43,top 44,top 45,top 46,top 47,top 48,top 49,top 50,top 51] } }
def K0:Params->Frag:=λP=>(nat_lit 0,b0 P)::(nat_lit 1,b1 P)::(nat_lit 2,b2 P)::(nat_lit 3,xfa P)::(nat_lit 4,b4 P)::(nat_lit 5,b5 P)::(nat_lit 6,b6 P)::(nat_lit 7,b7 P)::(nat_lit 8,b8 P)::(nat_lit 9,b9 P)::(nat_lit 10,b10 P)::(nat_lit 13,xac P)::(nat_lit 23,xag P)::(nat_lit 24,xaz P)::(nat_lit 25,xaj P)::(nat_lit 36,xa2 P)::(nat_lit 37,xaw P)::(nat_lit 40,xa0 P)::(nat_lit 46,xba P)::(nat_lit 47,xar P)::(nat_lit 53,xax P)::(nat_lit 54,xa8 P)::(nat_lit 55,xat P)::(nat_lit 61,xbx P)::(nat_lit 62,xck P)::(nat_lit 68,xb5 P)::(nat_lit 69,xbt P)::(nat_lit 75,xbl P)::(nat_lit 76,xb7 P)::(nat_lit 82,xcb P)::(nat_lit 83,xbk P)::(nat_lit 87,xbg P)::(nat_lit 88,xb2 P)::(nat_lit 94,xcl P)::(nat_lit 95,xbd P)::(nat_lit 101,xbv P)::(nat_lit 102,xch P)::(nat_lit 106,xce P)::(nat_lit 107,xbm P)::(nat_lit 113,xbq P)::(nat_lit 114,xcc P)::(nat_lit 120,xb3 P)::(nat_lit 121,xbs P)::(nat_lit 127,xbc P)::(nat_lit 128,xbz P)::(nat_lit 134,xcg P)::(nat_lit 135,xbf P)::(nat_lit 141,xc8 P)::(nat_lit 142,xdv P)::(nat_lit 146,xdl P)::(nat_lit 147,xcw P)::(nat_lit 153,xc5 P)::(nat_lit 154,xdq P)::(nat_lit 160,xdc P)::(nat_lit 161,xc2 P)::(nat_lit 167,xct P)::(nat_lit 168,xdd P)::(nat_lit 174,xdw P)::(nat_lit 175,xcr P)::(nat_lit 179,xcy P)::(nat_lit 180,xdi P)::(nat_lit 186,xdr P)::(nat_lit 187,xc1 P)::(nat_lit 191,xco P)::(nat_lit 192,xdb P)::(nat_lit 194,wo P)::(nat_lit 198,xds P)::(nat_lit 199,xcs P)::(nat_lit 203,xcz P)::(nat_lit 204,xdk P)::(nat_lit 210,xdm P)::(nat_lit 211,xcx P)::(nat_lit 217,xee P)::(nat_lit 218,xe4 P)::(nat_lit 224,xem P)::(nat_lit 225,xec P)::(nat_lit 231,xd3 P)::(nat_lit 232,xeo P)::(nat_lit 236,xex P)::(nat_lit 237,xej P)::(nat_lit 243,xd8 P)::(nat_lit 244,xev P)::(nat_lit 248,xer P)::(nat_lit 249,xef P)::(nat_lit 269,xei P)::(nat_lit 270,xe8 P)::(nat_lit 283,xea P)::(nat_lit 284,xey P)::(nat_lit 290,xe0 P)::(nat_lit 291,xd6 P)::(nat_lit 295,xfc P)::(nat_lit 296,xfj P)::(nat_lit 302,xfq P)::(nat_lit 303,xfb P)::(nat_lit 309,xfg P)::(nat_lit 310,xfp P)::(nat_lit 316,xfm P)::(nat_lit 317,xfi P)::[]
abbrev lamC:Nat:=198
abbrev lamT:Nat:=194
abbrev lamO:Ob:=xds
abbrev ls:List Str:=[Str.ofString "PLACE_COUNTS"]
abbrev Xt:Shared->Bool:=λs=>xlAt vw [] s&&recOk (RowW.records rr.row.toRowW) s
theorem ant(w:World):((boot_heap w.params).isNs mainGlobals&&(#[]:Array GenState).size==0,(boot_heap w.params).objs.size,(boot_heap w.params).nsMap mainGlobals "__annotations__")=(true,11,an):=by kernel_rfl
theorem ar9:opening p=plainProg p.main.scope.names:=by kernel_rfl
theorem apj(s:Shared):fenceModules? p s=some s:=by kernel_rfl
theorem lk1(w:World):(λos=>(staticsOk (importedModules p.main.body) (boot_heap w.params) (hpZ w.params)&&namesBound p (hpZ w.params)&&gensDone (sZ w os)&&laidKept (boot_heap w.params) (hpZ w.params)))=λ_=>true:=by kernel_rfl
theorem lk2(w:World):(λos=>openSeen vw ls (importedModules p.main.body) Xt true (sZ w os))=λ_=>openGood vw ls:=by kernel_rfl
theorem lk3(w:World):(λos=>obsZ as0 (sZ w os))=λ_=>valZ K0 318 644 w:=by kernel_rfl
theorem left_:LeftO p vw ls Xt (obsZ as0) (valZ K0 318 644) 3798:=LeftO.of_pieces (boot_open ar9 rfl apj) ant ard rfl λw=>funext λos=>looks_pair (Dh (lk1 w) os) (looks_pair (Dh (lk2 w) os) (Dh (lk3 w) os))
end
end H63
open PySem PySem.W PyProof.Rows
set_option maxRecDepth 100000 in
set_option maxHeartbeats 0 in
theorem PySem.Challenge.cw_oncewise_k63_exchanges_undone_holds : PySem.Challenge.rw_oncewise_k63_exchanges_undone.Holds := by
 w_on;refine holds_law (by unfold OpenLaw.wellSaid OpenRow.wellSaid OpenRow.partSaid looksOpen;walk_at "y";walk_at "y";walk_at "y";walk_at "y";walk_at "y";walk_at "y";all_goals decide +kernel) λU=>?_
 refine holds_openX (q:=H63.vw) (loose:=H63.ls) (Xt:=H63.Xt) (XP:=XL H63.vw []) (Yf:=PySem.W.X.obsZ H63.as0) (Ya:=PySem.W.X.valZ H63.K0 318 644) (N:=3798) H63.left_ (λs e=>xl_of s (Bool.and_eq_true_iff.mp e).1)
  XL.keeps (by rfl) (by rfl) (by rfl) (λs e=>recFacts_of (Bool.and_eq_true_iff.mp e).2)
  (by rfl) (by decide +kernel) (by decide +kernel) ⟨rfl,rfl,rfl,rfl,rfl,by decide +kernel⟩ ?hw ?hc
 case hw=>w_witness2
 k_fill
 refine L2.walk_ofZT (l:=PySem.Challenge.rw_oncewise_k63_exchanges_undone) (n:=63) (k:=130) (x:="_law_script") (CX:=L2.CX0) (sp:=L3.spTopT L3.lamQ) rfl (by decide) rfl ⟨rfl,by decide,by decide⟩ (λ_=>rfl) (by decide) ?F ?S ?C
 case F=>
  intro w t I h j G J;have T:(H63.K0 w.params).lookup H63.lamT=some (PySem.W.tabObj #[]):=by k_is
  have g:(H63.K0 w.params).lookup H63.lamC=some (H63.lamO w.params):=by k_is
  have hd:∀h:Heap,h.get? H63.lamC=some (H63.lamO w.params)->PySem.W.CodeHd h H63.lamC H63.lamT:=λh e=>⟨_,_,_,_,_,_,_,_,_,e,rfl,rfl,rfl,rfl,rfl,rfl,rfl,rfl,by decide⟩;have o:(H63.K0 w.params).lookup 4=some (PySem.W.boot_o_4 w.params):=by k_is
  have r:L3.DefInT (L2.lessK H63.lamT (H63.K0 w.params)) "_law_order" K63.s__law_order H63.lamT:=by
   refine' K63.def_inT (L2.ns_dn T ?a) (L2.lk_dn T ?l ?n) (L2.code_dn T ?c) (L2.keep_dn T ?k) ?LC
   (case a=>k_is);(case l=>k_is);(case n=>(intro e;cases e));(case c=>k_is);(case k=>k_is)
   refine'⟨⟨H63.lamC,_,rfl,L2.lk_dn T g ?m,hd⟩,⟨4,_,L2.ns_dn T ?b,by decide,by decide,L2.lk_dn T o ?p,rfl,rfl,rfl⟩⟩
   (case m=>(intro e;cases e));(case b=>k_is);(case p=>(intro e;cases e))
  refine⟨H63.lamT,⟨T,⟨H63.lamC,λh X=>hd h (X _ _ g)⟩,by decide⟩,?_⟩;refine' K63.all_mk (K:=L2.lessK H63.lamT (H63.K0 w.params)) (L2.lessK_in j) G J ?D0 ?D1 ?D2 ?D3 ?D4 ?D5 ?D6 ?D7 ?D8 ?D9 ?D10 ?D11 ?D12 ?D13 ?D14 ?D15 ?D16 ?D17 ?D18 ?D19 ?D20 ?D21 ?D22 ?D23 ?D24 ?D25 ?D26 ?D27 ?D28 ?D29 ?D30 ?D31 ?D32 ?D33 ?D34 ?D35 ?D36 ?D37 ?D38 ?aLEAF_KINDS ?lLEAF_KINDS ?aPLACE_COUNTS ?lPLACE_COUNTS ?hPLACE_COUNTS ?aCNoExchange ?qCNoExchange ?xf ?zlist ?zenumerate ?zall ?zlen ?zzip ?zreversed ?zrange ?zmax ?zsorted ?zmin ?zisinstance ?zint ?ztuple ?zstr ?zbool
  (case aCNoExchange=>(refine' L2.ns_dn T ?_;k_is))
  (case D0|D1|D2|D3|D4|D5|D6|D7|D8|D9|D10|D11|D12|D13|D14|D15|D16|D17|D18|D19|D20|D21|D22|D24|D25|D26|D27|D28|D29|D30|D31|D32|D33|D34|D35|D36|D37|D38=>refine' L2.def_in (L2.ns_dn T ?a) (L2.lk_dn T ?l ?n) (L2.code_dn T ?c) (L2.keep_dn T ?k);(case a=>k_is);(case l=>k_is);(case n=>(intro e;cases e));(case c=>k_is);(case k=>k_is))
  (case D23=>exact r)
  (case aLEAF_KINDS=>(refine' L2.ns_dn T ?_;k_is))
  (case lLEAF_KINDS=>(refine' L2.lk_dn T ?x ?n;(case x=>k_is);(case n=>(intro e;cases e))))
  (case aPLACE_COUNTS=>(refine' L2.ns_dn T ?_;k_is))
  (case lPLACE_COUNTS=>(refine' L2.lk_dn T ?x ?n;(case x=>k_is);(case n=>(intro e;cases e))))
  (case hPLACE_COUNTS=>rfl)
  (case qCNoExchange=>(refine' L2.exc_dn T ?_;k_exc))
  (case xf=>(refine' L3.XF62.dn T ?_;(refine' L3.XF62.mk ?em;(case em=>(refine' L3.exm_own ?h0 ?h1 ?h2 ?h3;(case h0=>k_is);(case h1=>k_is);(case h2=>k_is);(case h3=>k_is))))))
  (case zlist|zenumerate|zall|zlen|zzip|zreversed|zrange|zmax|zsorted|zmin|zisinstance|zint|ztuple|zstr|zbool=>(refine' L2.ns_dn T ?_;k_is))
 case S=>exact L3.top_startT
 case C=>exactλ_ _ _ _ z=>z
#print axioms PySem.Challenge.cw_oncewise_k63_exchanges_undone_holds
